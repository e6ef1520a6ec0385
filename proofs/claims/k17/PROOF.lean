import PyProof.Rows.All
import Wide.All
import OpenK.AllK
import Wide.FinOn
import Lean
import PyProof.EqAt
import PyProof.EqKinds
import PyProof.TupleCall
import PyProof.ExcInit
import PyProof.ExcClass3
import PyProof.ExcBaseAll.Exception
import PyProof.StationsW
import PyProof.FString
import PyProof.Rows.FStr
import PyProof.NsDelKeeps
import PyProof.RulesAs
import PyProof.ExcArgs
import PySem.Str
import PySem.Builtin.Str.Common
import PyProof.ReprReads
import PyProof.Rows.Range3
import PyProof.P3Eq
import PyProof.Rows.SortRuns
import PySem.Challenge.RW_broadrow_k17_single_pieces
noncomputable section
open _root_ renaming List → U, Nat → Y, Option → I
open Option renaming some → O, none → J
open PySem renaming Value → L
open PySem renaming Addr → S9, wpAny → Tc, Program → Td, Heap → To, Expr → Tq, eval → Tx, Stmt → Tz, DictEntry → TH, IsPair → TK, Scope → TM, wpAny_pyNext_list_end → T4, wpAny_loadPart → T5, valueAt → T6, seq_tuple_add → T8, comprehension → Ua, Model → Ud, setAttr → Ue, wpAny_nsSet1 → Ug, concat_meets → Uh, ZipApart → Ui, cLine → Um, atKey → Uo, getAttr → Up, isTrue → Uq, bindL → Ur, bindC → Us, field → Ut
open _root_ renaming Bool → Ta, decide_eq_true → Te, if_pos → Tf, absurd → Tg, if_neg → Ti, decide_eq_true_eq → Tj, congrArg → Tn, beq_self_eq_true → Tp, of_decide_eq_true → Ts, decide_eq_false → Tt, String → Tu, Array → Tv, False → Tw, of_decide_eq_false → TB, or_false → TC, if_true → TF, beq_false_of_ne → TJ, beq_iff_eq → TQ, if_false → TR, Inhabited → TU, DecidableEq → TV, decide_eq_false_iff_not → TY, True → TZ
open PyProof.Rows renaming SortSt → TL, IntsAre → TN, oneType' → TX, subscriptTail_builtinR → T3, IsTup → T7, subscriptTail → T9, arrOf → Ub, wpS_pure → Uj, wpS_bind → Uk, failedOf → Ul
open PySem.W renaming nsIn → Uc, byRow2 → Uu
open Option renaming some → L4, none → L6
open Bool renaming false → L5, true → L7
open PySem renaming wpAny_bind → Ma, Shared → L8, starEach → Me, wpAny_pure → Mf, model → Mb, World → Mc, mainGlobals → Ml, Around → Mh, wpAny_mono → MD, foldedSetIterable → Nb, backTo → Mp, wpAny_field → MX, FuncData → MK, wpAny_holding → Nq, compareOp → M7, wpAny_pyIter_list → NS, wpAny_pyIter_tuple → Og, Params → MM, sysModules → Ni, wpAny_callSpecial?_slot → O0, binaryOp → M6, wpAny_newObj_type → Of, bootBuiltins → NI, sizeLine_eq → NA, swapsWith → Nl, closureFor → Nz, lookup_relabel_local → O7, wpAny_loadPart_at → OH, attributeBase → NT, wpAny_call_entry → OG, wpAny_seqItems → Oi, wpAny_Call_Name_kw → O6, wpAny_setField_rec → O5, wpAny_truthy_bool → O4, plainObj_wpAny_Assign_Attribute → QB, behindInMarks → OF, letOwnedTupleGo → O3, IsZip → M8, rawInt → Nk, wpAny_setField → O2, assignEach → Oh, codeAny_call_builtin → Qa, wpAny_standAt → O1, codeAny → NJ, sliceBounds → OJ, wpAny_isSubtype_exc → Qb, wpAny_passesOwn → Pz, codeAny_mono → O9, treeTable → Oj, wpAny_call → OI, getItem → NM, wpAny_pyNext_list_item → QC, keywordEach → O8, wpAny_onRaise → Pu, wpAny_execs_nil → P8, IsPart → NL, wpAny_rule → OZ, wpAny_updateSeq_pair → QA, unbindBehindTheSuite → Qz, importedModules → P7, BindsTo → Oe, Keyword → Od, callerA → Oc, Builtin → Ob, assign → NR, pyNext → NQ, noteFrame → OY, swapsWithSole → P6, swappedStores → P5, wpAny_attempt → P4, call_meets → Pt, relabel → OE, OsState → OD, GenState → OX, wpAny_lookBehind → Qy, pastItsLine_dict → Qx, noFill_tuple_add → Qw, wpAny_typeOf → P1, backToKw → OW, tupleKind → Px, setFlight → Pw, subscripted → P9
open PySem.W renaming boot_heap → Nr, behindTheImports → Py
open PyProof.Rows renaming envOfC → Nc, seqObj → Nj, Keyed → M9, AllBare → NN
open PySem.W renaming Frag → L9, findIn → MB, emptyDict → Nw, nsIn → M3, kia_one → Nv, takerIn → NH, keepIn → Ny, fnOf → Nh, hasDictIn → N3, kitOne → NW, instObj → Oq, mg_of → N6, looks_findIn → PU, looks_clsIn → PR, Looks → Ow, any_some → Ph, callWith_K → P0, kia_tup → Pp, InstAt → Pe, clsIn → Pd, kitx_list → Qj, codeIn → PF, mroIn → PM, takesIn → Qn, kitx_tuple → Rk, check_slot → Rj, methodObj → Rh, set_plain → Rg, specialIn → Rb, subIn → Qq, plainGet → Ru, handedIn → Rt, cellsFrom_some → R6, OpenLaw → QR, looks_takesIn → R3, handedOut_of → RX, lookIn → QK, notCls → QH, kitAny → QG, findObj_own → Sr, looks_mroIn → Sm, looks_hook → Si, isNs_of_in → Sf, plainOver → Se, kitx_none → Sd, kitx_bool → Sb, kitx_dict → Sa, kitx_int → SD, kitx_str → Sz, makesIn → RM, KeysLit → RL, findCls → RJ, osa_eq → RF, WalkO → RC
open List renaming length_map → Mg, mem_cons → Mm, length_append → MA, any_cons → Mn, mem_cons_of_mem → MG, size_toArray → Mx, replicate → Mr, length_cons → Mw, getElem?_eq_getElem → MP, mem_append_right → MN, range → Mj, getElem?_cons_succ → M1, mem_cons_self → ML, any_nil → Mq, getElem?_eq_some_iff → Na, getD_eq_getElem?_getD → Nm, all_cons → MC, getElem?_map → MO, map_cons → ME, mem_singleton → MZ, not_mem_nil → MW, append_nil → MV, nil_append → MU, lookup_cons → M5, length_singleton → NG, all_eq_true → Nd, all_nil → MS, getElem?_append_right → OV, filterMap_cons → Oa, length_replicate → OC, flatten_cons → NP, length_take → NO, replicate_succ → OB, append_assoc → N0, length_range → NZ, mem_append_left → OP, getElem?_set_ne → ON, getElem?_append_left → PQ, nodup_cons → NY, any_eq_true → Ot, mem_range → NX, map_map → NK, lookup → NB, length_nil → Oo, map_congr_left → Po, getElem?_set_self → PZ, mem_filterMap → Pn, contains_cons → Pl, take_append_drop → PX, sum_cons → N7, pairwise_cons → Pk, mem_append → OR, find?_cons → OQ, map_take → Ov, length_drop → Pq, drop_zero → OU, map_nil → Oz, mem_of_getElem? → Qu, mem_map → OL, getElem?_replicate → Q6, getElem?_cons_zero → Q4, map_append → PH, take_of_length_le → Q1, take_length → Qi, of_mem_zip → Qm, length_set → Ql, take_succ_cons → Rm, rec → NV, mem_of_find?_eq_some → SJ, pairwise_singleton → SV, getElem_mem → Rq, flatten_nil → Rp, drop_of_length_le → R4, sum_append → QQ, forIn_cons → QP, sum_nil → Qd, take_eq_take_min → R0, range_eq_range' → RZ, getElem_toArray → RW, forIn_nil → QI, drop_drop → QW, length → Qg, getElem_of_mem → So, range' → Qf, length_pos_iff → Sn, getElem?_range → Sl, drop_succ_cons → Sk, filterMap_map → Sj, map_inj_left → R8, zipIdx_cons → Sv, drop_length → Su, cons_append → Ss, mem_filter → RN, zipIdx_nil → RK, length_zip → RI, find?_some → RH, foldl → QE, take_nil → RB, drop_nil → RA, map_drop → Rz, map_id' → RQ
open Nat renaming le_refl → Mi, lt_of_lt_of_le → MF, le_trans → Mt, ne_of_lt → Mu, zero_le → MH, lt_irrefl → NF, ne_of_gt → NC, lt_of_le_of_lt → Pm, le_succ → N8, succ_le_succ → PJ, add_sub_cancel_left → Q3, zero_add → Pb, eq_of_beq_eq_true → QZ, le_add_right → Qh, le_of_lt → PK, lt_succ_self → Rr, min_eq_right → Ro, add_comm → Qe, le_of_ble_eq_true → R1, beq → Ol, lt_succ_of_lt → R9, lt_of_succ_lt → R7, le_of_eq → QT, sub_self → QS, sub_zero → QX, min_le_right → Sy, le_of_not_lt → Sw, rec → Pa, min_eq_left → RG, mul_comm → Rw, lt_trans → RV, succ_pos → RS, beq_refl → RR
open Bool renaming and_eq_true → Mv, or_false → Mo, false_ne_true → MJ, or_true → My, and_eq_true_iff → Ng, true_or → MT, false_or → M4, bne_false → Nx, true_and → Np, false_eq_true → OM, eq_iff_iff → Oy, not_true → N5, false_and → Ox, not_eq_true' → Pj, not_false → OT, and_self → OS, or_eq_true → QN, and_false → QJ, bne_true → QU, and_true → Ry
open Option.some renaming inj → MY, injEq → Ra
open PySem.W.Looks renaming here → Nf
open Array renaming getElem?_eq_some_iff → OA, length_toList → N9, getElem?_toList → PV, getElem?_setIfInBounds_ne → Rv, size_setIfInBounds → Q7, toArray_toList → Rn, find?_toList → Rl, all_eq_true' → Ri, getElem?_eq_getElem → SK, getElem?_eq_none → R5, ext' → PD, mk → Qc, toList → Rx
open PyProof.Rows renaming slot_tuple_getitem → Pr, boot_list → Pg, boot_tuple → PN, callWith_type1 → Qr, boot_bool → Qv, callWith_builtin1 → SG, boot_int → Q0, boot_isinstance → SR, entry_list_sort → S1, slot_list_sort → SY, boot_range → SX, eq_dataH → S7, ne_dataH → S6, boot_abs → S5, boot_str → S3
open False renaming elim → MQ
open True renaming intro → M0
open PySem renaming Builtin → ND, mem_of_lookup → Pf, Within → PL, handedOut → QO, reprText → RD, call → QD
open Int renaming toNat_natCast → Ou, natCast_add → QL, add_assoc → QV, add_zero → QY, le_trans → RT, zero_add → RP
open Ne renaming symm → MI
open Or renaming inr → Ms, inl → Mz
open Option renaming map_eq_some_iff → PY, bind_eq_some_iff → Qt, isSome_iff_exists → Q9, toList_none → Qk, toList → Pc, bind_some → Qo, toList_some → Sh, getD_none → Sx
open Nat.succ renaming inj → N4
open PySem.F renaming plainAttrs_list → Qs, args_tuple_add_2 → Q8, entry_tuple_add → Q5, slot_tuple_add → Q2, slot_dict_getitem → SQ, excBase_Exception → SN, slot_list_append → SI, type_list_append → SH, slot_list_index → SU, store_object → RY
open Prod renaming snd → Nu, fst → Nt
open PySem.Within renaming cons → Rf
open And renaming left → Om
open Sum renaming inr → NU, inl → OK
open Std.Legacy.Range renaming forIn_eq_forIn_range' → S8, size → S4
open BEq renaming comm → PB
open Sum.inr renaming inj → QF
open Classical renaming em → RU
open Prod.mk renaming inj → RO
open List.Pairwise renaming nil → S2
set_option compiler.extract_closed false
set_option bootstrap.genMatcherCode false
set_option genSizeOf false
set_option genInjectivity false
set_option Elab.async false
set_option linter.all false
set_option maxRecDepth 100000
namespace L2
open PySem PySem.Spec PyProof.Rows
abbrev Key:=Sum Int Str
noncomputable def jS:Key->L->Ta
|.inl k,v=>Value.isInt k v
|.inr x,v=>Value.isStrOf x v
noncomputable def Le (w:Mc):Key->Int
|.inl k=>hashInt k
|.inr x=>hashStr w x
theorem aQ:∀{k:Key} {v:L},jS k v=L7->(∃i t,k=OK i/\v=Value.int i t)\/(∃x t,k=NU x/\v=Value.str x t)
|.inl i,v,h=>by obtain⟨t,e⟩:=Value.isInt_shape (k:=i) (v:=v) h;exact .inl ⟨i,t,rfl,e⟩
|.inr x,v,h=>by obtain⟨t,e⟩:=Value.isStrOf_shape (x:=x) (v:=v) h;exact .inr ⟨x,t,rfl,e⟩
theorem tH (i:Int)(t:Tok):jS (.inl i) (.int i t)=true:=by simp[jS,Value.isInt]
theorem tG (x:Str)(t:Tok):jS (.inr x) (.str x t)=true:=by simp[jS,Value.isStrOf]
theorem Dx (a b:Int):decide ((OK a:Key)=OK b)=(a==b):=by
 by_cases e:a=b
 .subst e;simp
 .have h:¬ (OK a:Key)=OK b:=fun q=>e<|Sum.inl.inj q;rw[Tt h];exact(beq_eq_false_iff_ne.mpr e).symm
theorem DL (a b:Str):decide ((NU a:Key)=NU b)=decide (a=b):=by
 by_cases e:a=b
 .subst e;simp
 .have h:¬ (NU a:Key)=NU b:=fun q=>e<|QF q;rw[Tt h,Tt e]
theorem F9 (a:Int)(b:Str):decide ((OK a:Key)=NU b)=false:=Tt λq=>nomatch q
theorem CY (a:Str)(b:Int):decide ((NU a:Key)=OK b)=false:=Tt λq=>nomatch q
def bc (prog:Td)(w:Mc):PySem.KeyKind prog w Key where
 is:=jS
 hash:=Le w
 inj:=λv a b f d=>by
  rcases aQ f with⟨i,t,rfl,rfl⟩|⟨x,t,rfl,rfl⟩
  .rcases aQ d with ⟨j,u,rfl,e⟩ | ⟨y,u,rfl,e⟩
   .injection e with e1 _;rw[e1]
   .exact nomatch e
  .rcases aQ d with ⟨j,u,rfl,e⟩ | ⟨y,u,rfl,e⟩
   .exact nomatch e
   .injection e with e1 _;rw[e1]
 byValue:=λk v h=>by rcases aQ h with⟨i,t,rfl,rfl⟩|⟨x,t,rfl,rfl⟩<;>rfl
 pyHash:=λc h=>by
  rcases aQ c with⟨i,t,rfl,rfl⟩|⟨x,t,rfl,rfl⟩
  .exact wpAny_pyHash_int h
  .exact wpAny_pyHash_str h
 eqBool:=λg c h=>by
  rcases aQ g with⟨i,t,rfl,rfl⟩|⟨x,t,rfl,rfl⟩
  .rcases aQ c with ⟨j,u,rfl,rfl⟩ | ⟨y,u,rfl,rfl⟩
   .rw[Dx] at h;exact wpAny_eqBool_int h
   .rw[F9] at h;exact SeqAt.EqAt.int_str i t y u _ _ _ _ h
  .rcases aQ c with ⟨j,u,rfl,rfl⟩ | ⟨y,u,rfl,rfl⟩
   .rw[CY] at h;exact SeqAt.EqAt.str_int x t j u _ _ _ _ h
   .rw[DL] at h;exact wpAny_eqBool_str h
 «strs»:=λk x t v h=>by
  rcases aQ h with⟨i,u,rfl,e⟩|⟨y,u,rfl,e⟩
  .exact nomatch e
  .injection e with e1 _
   subst e1;cases v<;>rfl
theorem mj (prog:Td)(w:Mc)(i:Int)(t:Tok):(bc prog w).is (.inl i) (.int i t)=true:=tH i t
theorem lQ (prog:Td)(w:Mc)(x:Str)(t:Tok):(bc prog w).is (.inr x) (.str x t)=true:=tG x t
set_option genInjectivity true
inductive V where
 |non|bl (b:Ta)|int (i:Int)|str (x:Str)|byt (b:Tv UInt8)|flt (b:UInt64)|ref (a:S9)|ty (n:Tu)
 deriving TV
set_option genInjectivity false
def RelV:V->L->Prop
|.non,u=>u=Value.none
|.bl b,u=>u=Value.bool b
|.int i,u=>∃t,u=Value.int i t
|.str x,u=>∃t,u=Value.str x t
|.byt b,u=>∃t,u=Value.bytes b t
|.flt b,u=>∃t,u=Value.float b t
|.ref a,u=>u=Value.ref a
|.ty n,u=>u=Value.type n
abbrev Vals:U V->U L->Prop:=Paired RelV
theorem Vals.length {b:U V}{a:U L}(r:Vals b a):b.length=a.length:=Paired.length r
theorem Vals.get:∀{b:U V} {a:U L} {i:Y} {x:V},Vals b a->b[i]?=O x->∃u,a[i]?=O u/\RelV x u
|_,_,_,_,.nil,e=>by simp at e
|_,_,0,_,.cons r _,e=>by simp at e;subst e;exact⟨_,rfl,r⟩
|_,_,i+1,x,.cons _ t,e=>by obtain⟨u,c,d⟩:=Vals.get (i:=i) (x:=x) t (by simpa using e);exact⟨u,by simpa using c,d⟩
theorem Vals.append:∀{c d:U V} {a b:U L},Vals c a->Vals d b->Vals (c++d) (a++b)
|_,_,_,_,.nil,s=>s
|_,_,_,_,.cons r t,s=>.cons r<|Vals.append t s
theorem Vals.take:∀{b:U V} {a:U L} (n:Y),Vals b a->Vals (b.take n) (a.take n)
|_,_,0,_=>.nil
|_,_,_+1,.nil=>.nil
|_,_,n+1,.cons r t=>.cons r<|Vals.take n t
theorem Vals.drop:∀{b:U V} {a:U L} (n:Y),Vals b a->Vals (b.drop n) (a.drop n)
|_,_,0,r=>r
|_,_,_+1,.nil=>.nil
|_,_,n+1,.cons _ t=>Vals.drop n t
def RelO:I V->I L->Prop
|some v,O u=>RelV v u
|none,J=>TZ
|_,_=>Tw
def KV {a:Type}:U (a×V)->U (a×L)->Prop:=Paired λ(p:a×V) (q:a×L)=>p.1=q.1/\RelV p.2 q.2
def kV:Key->V
|.inl i=>.int i
|.inr x=>.str x
inductive HO where
 |lst (xs:U V)
 |tup (xs:U V)
 |dK (kvs:U (Key×V))|dT (kvs:U (U Key×V))
 |set (S:Int->Ta) (n:Y)
 |ins (C dx:S9) (fs:U (Str×V))
 |own (x:S9)
 |xd (fs:U (Str×V))
 |met (f x:S9)
 |rng (lo hi:Int)
 |frz (o:Obj) (u:HO)
 |tbl (ps:Tv L)
 |ext (φ:To->Prop)
abbrev Hp:=S9->I HO
noncomputable def upd (H:Hp)(a:S9)(o:HO):Hp:=λb=>if b=a then O o else H b
theorem ah {H:Hp}{a:S9}{o:HO}:upd H a o a=O o:=by unfold upd;rw[Tf rfl]
theorem ag {H:Hp}{a b:S9}{o:HO}(h:b≠a):upd H a o b=H b:=by unfold upd;rw[Ti h]
theorem fU {H:Hp}{a:S9}{o u:HO}:upd (upd H a o) a u=upd H a u:=by funext b;unfold upd;split<;>rfl
theorem HQ {H:Hp}{a b:S9}{o u:HO}(h:H a=O o)(c:H b=O u)(d:o≠u):a≠b:=by intro e;subst e;rw[h] at c;exact d<|MY c
theorem aJ {H:Hp}{a b:S9}{o:HO}(h:H a=O o)(c:H b=J):a≠b:=by intro e;subst e;rw[h] at c;cases c
section
variable (P:Td)(w:Mc)
def ObjOk (H:Hp)(h:To)(a:S9):HO->Prop
|.lst d=>d.length<=sizeLine/\∃(b:U L) (n:Y),Vals d b/\h.get? a=O {cls:=.type "list",data:=.seq b.toArray n}
|.tup d=>d.length<=sizeLine/\∃b:U L,Vals d b/\T7 h a b.toArray
|.dK c=>c.length<=sizeLine/\(a==Ni)=L5/\∃m,KV c m/\h.DictOf (bc P w) a m
| .dT c=>c.length<=sizeLine/\(a==Ni)=L5/\∃ d:U (U Key×S9×L),
  Paired (λ(p:U Key×V) (q:U Key×S9×L)=>p.1=q.1/\H q.2.1=O (.tup<|p.1.map kV)/\RelV p.2 q.2.2) c d /\
  ∃o j ep,h.get? a=O o/\o.ExactDict/\o.data=.dict j ep/\j.toList=d.map (entryOfKey<|Px<|bc P w)/\(d.map (·.1)).Nodup
|.set S n=>h.SetOf (intKind P w) a S n
| .ins C g fs=>H g=O (.own a)/\fs.length<=1000/\g≠a/\h.get? a=O (Oq C g) /\
  ∃e,h.Ns1 g e/\(∀f,RelO (fs.lookup f)<|e f)/\PL e (fs.map (·.1))
|.own _=>∃o,h.get? a=O o
|.xd fs=>∃e,h.Ns1 a e/\∀f,RelO (fs.lookup f)<|e f
|.rng lo r=>∃t u v,h.get? a=O {cls:=.type "range",data:=.fields #[.int lo t,.int r u,.int 1 v]}
|.frz o u=>h.get? a=O o/\ObjOk H h a u
|.tbl s=>h.get? a=O {cls:=.none,data:=.fields s}
|.met f x=>h.get? a=O (Rh (.ref f)<|.ref x)
|.ext i=>i h/\(∃o,h.get? a=O o)/\∀k l:To,i k->(∀o,k.get? a=O o->l.get? a=O o)->i l
def HOk (H:Hp)(h:To):Prop:=∀a o,H a=O o->ObjOk P w H h a o
end
section
variable {P:Td}{w:Mc}{H H':Hp}{h h':To}{a:S9}{o:HO}
theorem ObjOk.lt (x:ObjOk P w H h a o):a<h.objs.size:=by
 cases o with
 |lst c=>obtain⟨_,_,_,_,e⟩:=x;exact Heap.lt_size e
 |tup c=>obtain⟨_,_,_,p⟩:=x;exact p.lt
 |dK b=>obtain⟨_,_,_,_,o,_,_,e,_⟩:=x;exact Heap.lt_size e
 |dT b=>obtain⟨_,_,_,_,o,_,_,e,_⟩:=x;exact Heap.lt_size e
 |set S n=>obtain⟨o,_,_,_,e,_⟩:=x;exact Heap.lt_size e
 |ins C d fs=>obtain⟨_,_,_,e,_⟩:=x;exact Heap.lt_size e
 |own y=>obtain⟨_,e⟩:=x;exact Heap.lt_size e
 |xd fs=>obtain⟨_,⟨_,_,_,e,_⟩,_⟩:=x;exact Heap.lt_size e
 |rng lo g=>obtain⟨_,_,_,e⟩:=x;exact Heap.lt_size e
 |frz i u=>obtain⟨e,_⟩:=x;exact Heap.lt_size e
 |tbl j=>exact Heap.lt_size<|show h.get? a=O _ from x
 |met f y=>exact Heap.lt_size<|show h.get? a=O _ from x
 |ext k=>obtain⟨_,⟨_,e⟩,_⟩:=x;exact Heap.lt_size e
theorem Paired.mapP {e g:Type}{F G:e->g->Prop}:∀{c:U e} {d:U g},Paired F c d->(∀a b,F a b->G a b)->Paired G c d
|_,_,.nil,_=>.nil
|_,_,.cons r t,f=>.cons (f _ _ r)<|Paired.mapP t f
theorem ObjOk.stay (x:ObjOk P w H h a o)(k:∀b u,(b=a\/H b=O (.own a))->h.get? b=O u->h'.get? b=O u)
  (ho:∀b,H b=O (.own a)->H' b=O (.own a)) (F:∀b l,H b=O (.tup l)->H' b=O (.tup l)):ObjOk P w H' h' a o:=by
 induction o with
 |lst l=>obtain⟨z,j,n,r,e⟩:=x;exact⟨z,j,n,r,k _ _ (.inl rfl) e⟩
 |tup l=>obtain⟨z,j,r,g,e,c⟩:=x;exact⟨z,j,r,g,k _ _ (.inl rfl) e,c⟩
 |dK m=>obtain⟨z,y,N,r,g,i,ep,e,c⟩:=x;exact⟨z,y,N,r,g,i,ep,k _ _ (.inl rfl) e,c⟩
 |dT m=>obtain⟨z,y,l,r,g,i,ep,e,c⟩:=x;exact⟨z,y,l,Paired.mapP r λp q z=>⟨z.1,F _ _ z.2.1,z.2.2⟩,g,i,ep,k _ _ (.inl rfl) e,c⟩
 |set S n=>obtain⟨g,i,ep,t,e,c⟩:=x;exact⟨g,i,ep,t,k _ _ (.inl rfl) e,c⟩
 |ins C Q fs=>obtain⟨d,z,M,e,s,⟨A,i,ep,e2,c⟩,r⟩:=x;exact⟨ho _ d,z,M,k _ _ (.inl rfl) e,s,⟨A,i,ep,k _ _ (.inr d) e2,c⟩,r⟩
 |own y=>obtain⟨g,e⟩:=x;exact⟨g,k _ _ (.inl rfl) e⟩
 |xd fs=>obtain⟨s,⟨A,i,ep,e,c⟩,r⟩:=x;exact⟨s,⟨A,i,ep,k _ _ (.inl rfl) e,c⟩,r⟩
 |rng lo Z=>obtain⟨t,u,v,e⟩:=x;exact⟨t,u,v,k _ _ (.inl rfl) e⟩
 |frz g u G=>obtain⟨e,q⟩:=x;exact⟨k _ _ (.inl rfl) e,G q⟩
 |tbl B=>have e:h.get? a=O {cls:=.none,data:=.fields B}:=x;show h'.get? a=O {cls:=.none,data:=.fields B};exact k a _ (.inl rfl) e
 |met f y=>have e:h.get? a=O (Rh (.ref f) (.ref y)):=x;show h'.get? a=O (Rh (.ref f)<|.ref y);exact k a _ (.inl rfl) e
 |ext φ=>obtain⟨p,⟨o,e⟩,D⟩:=x;exact⟨D _ _ p λo q=>k _ _ (.inl rfl) q,⟨o,k _ _ (.inl rfl) e⟩,D⟩
theorem HOk.lt (x:HOk P w H h)(e:H a=O o):a<h.objs.size:=(x a o e).lt
theorem HOk.fresh (x:HOk P w H h)(e:h.objs.size<=a):H a=none:=by
 cases q:H a with
 |none=>rfl
 |some u=>exact Tg (MF (x.lt q) e)<|NF _
theorem HOk.kept (x:HOk P w H h)(k:∀b u,h.get? b=O u->h'.get? b=O u):HOk P w H h':=λa o e=>
 (x a o e).stay (λb u _ q=>k b u q) (λ_ q=>q) λ_ _ q=>q
theorem HOk.laid (x:HOk P w H h)(k:∀b u,h.get? b=O u->h'.get? b=O u)(hp:h.objs.size<=a)(new:ObjOk P w (upd H a o) h' a o):HOk P w (upd H a o) h':=λb u e=>by
 have f:=x.fresh hp;by_cases d:b=a
 .subst d;rw[ah] at e;cases e;exact new
 .rw [ag d] at e;exact(x b u e).stay (λc v _ q=>k c v q) (λc q=>by rw[ag<|aJ q f];exact q) λc g q=>by rw[ag<|aJ q f];exact q
end
def Rd (H:Hp)(a:S9)(u:HO):Prop:=H a=O u\/∃o,H a=O (.frz o u)
theorem Rd.ok {P:Td}{w:Mc}{H:Hp}{h:To}{a:S9}{u:HO}(r:Rd H a u)(x:HOk P w H h):ObjOk P w H h a u:=by
 rcases r with r|⟨o,r⟩
 .exact x a u r
 .obtain ⟨_,q⟩:=x a _ r;exact q
def Mut:I HO->Prop
|some (.lst _)=>TZ
|some (.dK _)=>TZ
|some (.dT _)=>TZ
|some (.set _ _)=>TZ
|some (.ins _ _ _)=>TZ
|some (.ext _)=>TZ
|some (.xd _)=>TZ
|_=>Tw
section
variable {P:Td}{w:Mc}{H:Hp}{h h':To}{x e:S9}{o':HO}
theorem HOk.write (ok:HOk P w H h)(j:Mut<|H x)(n:e=x\/H e=O (.own x))(k:∀b u,b≠e->h.get? b=O u->h'.get? b=O u)(m:∃u,h'.get? e=O u)
  (new:ObjOk P w (upd H x o') h' x o'):HOk P w (upd H x o') h':=λb u q=>by
 have d:∀c y,H c=O (.own y)->c≠x:=λc y r z=>by subst z;rw[r] at j;exact j
 have f:∀c l,H c=O (.tup l)->c≠x:=λc l r z=>by subst z;rw[r] at j;exact j
 by_cases g:b=x
 .subst g;rw[ah] at q;cases q;exact new
 .rw [ag g] at q;by_cases a:b=e
  .have o:H b=O (.own x):=by
    rcases n with z|z
    .exact Tg (a.trans z) g
    .rw[a];exact z
   rw[q] at o;cases o;obtain⟨v,p⟩:=m;exact⟨v,by rw[a];exact p⟩
  .refine (ok b u q).stay (fun c v i r=>k c v ?_ r) (fun c r=>by rw [ag (d c b r)]; exact r) fun c l r=>by rw [ag (f c l r)]; exact r
   rcases i with rfl|i
   .exact a
   .rintro rfl;rcases n with z|z
    .exact d c b i z
    .rw[i] at z;cases z;exact g rfl
end
structure Un (fs ex:U S9)(H H':Hp)(h h':To):Prop where
 keep:∀b o,h.get? b=O o->H b=J->b ∉ fs->b ∉ ex->h'.get? b=O o
 slot:∀b o,h.get? b=O o->H b=J->b∈fs->b ∉ ex->∃sl,h'.get? b=O {o with slots:=sl}
 free:∀b o,h.get? b=O o->H b=J->b ∉ ex->H' b=J
 there:∀b o,h.get? b=O o->b ∉ ex->∃o',h'.get? b=O o'
 tups:∀b xs,H b=O (.tup xs)->H' b=O (.tup xs)
 frzs:∀b o u,H b=O (.frz o u)->H' b=O (.frz o u)
 tbls:∀b ps,H b=O (.tbl ps)->∃more,H' b=O (.tbl (ps++more))
section
variable {fs fs' ex ex':U S9}{H H1 H2:Hp}{h h1 h2 h':To}{a x e:S9}{o:HO}
theorem Un.any (u:Un fs ex H H1 h h1){b:S9}{c:Obj}(q:h.get? b=O c)(n:H b=J)(hx:b ∉ ex):∃f,h1.get? b=O {c with slots:=f}:=by
 by_cases d:b∈fs
 .exact u.slot b c q n d hx
 .exact⟨c.slots,u.keep b c q n d hx⟩
theorem Un.kept (k:∀b u,h.get? b=O u->h'.get? b=O u):Un fs ex H H h h':=
 ⟨λb c q _ _ _=>k b c q,λb c q _ _ _=>⟨c.slots,k b c q⟩,λ_ _ _ n _=>n,λb c q _=>⟨c,k b c q⟩,λ_ _ q=>q,λ_ _ _ q=>q,λ_ d q=>⟨#[],by rw[q];simp⟩⟩
theorem Un.refl:Un fs ex H H h h:=Un.kept λ_ _ q=>q
theorem Un.laid (k:∀b u,h.get? b=O u->h'.get? b=O u)(hp:h.objs.size<=a)(c:H a=J):Un fs ex H (upd H a o) h h' where
 keep:=λb u q _ _ _=>k b u q
 slot:=λb u q _ _ _=>⟨u.slots,k b u q⟩
 free:=λb u q n _=>by rw[ag<|Mu<|MF (Heap.lt_size q) hp];exact n
 there:=λb u q _=>⟨u,k b u q⟩
 tups:=λb d q=>by rw[ag<|aJ q c];exact q
 frzs:=λb u d q=>by rw[ag<|aJ q c];exact q
 tbls:=λb f q=>⟨#[],by rw[ag<|aJ q c,q];simp⟩
theorem Un.write (d:Mut<|H x)(j:e=x\/H e=O (.own x))(k:∀b u,b≠e->h.get? b=O u->h'.get? b=O u)(f:∃u,h'.get? e=O u):Un fs ex H (upd H x o) h h':=by
 have hx:∀b,H b=J->b≠x:=λb n z=>by subst z;rw[n] at d;exact d
 have i:∀b,H b=J->b≠e:=λb n z=>by
  subst z;rcases j with r|r
  .exact hx b n r
  .rw[n] at r;cases r
 have g:∀b u,H b=O u->¬Mut (O u)->b≠x:=λb u q nm z=>by subst z;rw[q] at d;exact nm d
 refine⟨λb u q n _ _=>k b u (i b n) q,λb u q n _ _=>⟨u.slots,k b u (i b n) q⟩,λb u q n _=>by rw[ag<|hx b n];exact n,λb u q _=>?_,
  λb l q=>by rw[ag<|g b _ q λz=>z];exact q,λb u l q=>by rw[ag<|g b _ q λz=>z];exact q,λb m q=>⟨#[],by rw[ag<|g b _ q λz=>z,q];simp⟩⟩
 by_cases c:b=e
 .subst c;exact f
 .exact⟨u,k b u c q⟩
end
noncomputable def trk (h:To)(H:Hp):U S9:=(Mj h.objs.size).filter λa=>(H a).isSome
def ko (h:To)(H:Hp):To:=PySem.W.hideAll h<|trk h H
theorem qX (h:To)(H:Hp):(ko h H).objs.size=h.objs.size:=PySem.W.hideAll_size _ _
theorem t8 {h:To}{H:Hp}{b:S9}{o:Obj}(e:h.get? b=O o)(n:H b=J):(ko h H).get? b=O o:=
 PySem.W.hideAll_get _ e λa=>by have q:(H b).isSome=true:=(RN.mp a).2;rw[n] at q;simp at q
theorem Bh {h:To}{H:Hp}{b:S9}{o:Obj}(e:(ko h H).get? b=O o):h.get? b=O o/\H b=none:=by
 have a:h.get? b=O o:=PySem.W.of_hideAll (trk h H) e;refine⟨a,?_⟩;cases q:H b with
 |none=>rfl
 |some x=>have c:b∈trk h H:=RN.mpr ⟨NX.mpr<|Heap.lt_size a,by simp[q]⟩;have z:(ko h H).get? b=none:=PySem.W.hideAll_none (trk h H) c;rw[z] at e;cases e
noncomputable def zC (g h:To)(b:S9):U (S9×Obj):=(Mj h.objs.size).filterMap λa=>if a=b\/(g.get? a).isSome=L7 then J else(h.get? a).map λo=>(a,o)
def rest (g h:To)(a d:S9):U (S9×Obj):=(zC g h a).filter λp=>decide (p.1≠d)
structure Mod (K:L9)(mg:Str->I L)(base:To):Prop where
 kin:K.In base
 glob:base.Ns Ml mg
 blt:∃mb,base.Ns builtinsNs mb/\∀x:Str,x≠"__name__"->mb x=NI x
 nolimit:base.NoLimit
structure Cx where
 prog:Td
 w:Mc
 K:L9
 mg:Str->I L
 base:To
 A:Mh
 N:U Str
 s₀:L8
 H₀:Hp
 env:Env
 outer:U Env
 stack:U Env
 ex:U S9
 fn:Str->Ta
 calm:Ta
 pn:U (S9×Obj)
 xe:L->L8->Prop
noncomputable def frs (l:U Env):U S9:=l.filterMap (·.frame)
abbrev Cx.fs (X:Cx):U S9:=frs X.outer
def Vis (sc:TM)(x:Str):Prop:=sc.names.lookup x=O .local\/sc.names.lookup x=O .cell\/sc.names.lookup x=O .free
def Loc (sc:TM)(x:Str):Prop:=sc.names.lookup x=O .local\/sc.names.lookup x=O .cell
def LP (a:Env)(h:To)(m:Str->I L)(x:Str)(u:L):Prop:=
 (a.kindOf x=O .local/\m x=O u)\/((a.kindOf x=O .cell\/a.kindOf x=O .free)/\∃c,a.cells.lookup x=O c/\h.IsCell c (O u))
structure Cx.Ok (X:Cx):Prop where
 mod:Mod X.K X.mg X.base
 kind:X.env.scope.kind=.function
 glob:X.env.globals=Ml
 blt:X.env.builtins=builtinsNs
 above:X.s₀.heap.objs.size<=X.env.locals
 inj:∀x y c,X.env.cells.lookup x=O c->X.env.cells.lookup y=O c->x=y
 has:∀x,(X.env.kindOf x=O .cell\/X.env.kindOf x=O .free)->∃c,X.env.cells.lookup x=O c
 cab:∀x c,X.fn x=L7->X.env.cells.lookup x=O c->X.s₀.heap.objs.size<=c
 hd:X.calm=L7->X.A.handled=J
 frames:X.A.frames=O X.stack
 stk:X.stack=X.outer\/(X.stack=X.env::X.outer/\X.env.frame=O X.env.locals)
 exf:∀b∈X.ex,b≠X.env.locals/\∀x c,X.env.cells.lookup x=O c->c≠b
 bs:∀b o,X.base.get? b=O o->X.s₀.heap.get? b=O o/\X.H₀ b=J
 bsz:X.base.objs.size<=X.s₀.heap.objs.size
 noex:∀b o,X.base.get? b=O o->b ∉ X.ex
 exfs:∀b∈X.ex,b ∉ X.fs
 funs:X.s₀.heap.FunFrames X.base X.outer
 frf:∀b∈X.fs,X.H₀ b=J
structure Inv (X:Cx)(pins:U (S9×Obj))(σ:U (I V))(H:Hp)(s:L8):Prop where
 ok:X.Ok
 os:s.os=X.s₀.os
 bare:NN s.gens
 base:Un X.fs X.ex X.H₀ H X.s₀.heap s.heap
 loc:∃m,s.heap.Ns X.env.locals m/\∀(i:Y) (x:Str) (v:V),X.N[i]?=O x->σ[i]?=O (O v)->Vis X.env.scope x->∃u,RelV v u/\LP X.env s.heap m x u
 cell:∀x c,X.env.cells.lookup x=O c->∃v,s.heap.IsCell c v
 free:H X.env.locals=J
 freeC:∀x c,X.env.cells.lookup x=O c->H c=J
 pin:∀p∈X.pn++pins,s.heap.get? p.1=O p.2/\H p.1=J/\p.1≠X.env.locals/\p.1 ∉ X.fs/\∀v,p.2.data≠.cell v
 hok:HOk X.prog X.w H s.heap
 len:σ.length=X.N.length
section
variable {X:Cx}{pins:U (S9×Obj)}{σ:U (I V)}{H H':Hp}{s:L8}{h':To}
theorem Cx.Ok.nofr (ok:X.Ok){b:S9}{o:Obj}(e:X.base.get? b=O o):b ∉ X.fs:=λa=>by have:=(ok.funs.mem a).1;rw[e] at this;cases this
theorem Inv.bs (a:Inv X pins σ H s):∀b o,X.base.get? b=O o->s.heap.get? b=O o/\H b=none:=λb o e=>
 ⟨a.base.keep b o (a.ok.bs b o e).1 (a.ok.bs b o e).2 (a.ok.nofr e)<|a.ok.noex b o e,a.base.free b o (a.ok.bs b o e).1 (a.ok.bs b o e).2<|a.ok.noex b o e⟩
theorem Inv.bk (a:Inv X pins σ H s):∀b o,X.base.get? b=O o->s.heap.get? b=O o:=λb o e=>(a.bs b o e).1
theorem Inv.mod (a:Inv X pins σ H s):Mod X.K X.mg X.base:=a.ok.mod
theorem Inv.kIn (a:Inv X pins σ H s):X.K.In s.heap:=a.ok.mod.kin.keeps a.bk
theorem Inv.fr (a:Inv X pins σ H s):∃m,Fr X.base X.env.locals s.heap m:=
 let ⟨m,b,_⟩:=a.loc
 ⟨m,b,a.bk,Mt a.ok.bsz a.ok.above⟩
theorem Inv.lt (a:Inv X pins σ H s):X.env.locals<s.heap.objs.size:=let ⟨_,b,_⟩:=a.loc;b.lt
theorem Inv.sz (a:Inv X pins σ H s):X.s₀.heap.objs.size<=s.heap.objs.size:=Mt a.ok.above<|PK a.lt
theorem Inv.nofs (b:Inv X pins σ H s){a:S9}(h:s.heap.objs.size<=a):a ∉ X.fs:=λc=>by obtain⟨_,o,ho,_⟩:=b.ok.funs.mem c;exact Tg (MF (Heap.lt_size ho)<|Mt b.sz h)<|NF _
theorem Inv.cne (a:Inv X pins σ H s):∀x c,X.env.cells.lookup x=O c->c≠X.env.locals:=λx c e z=>by obtain⟨v,o,ho,f⟩:=a.cell x c e;obtain⟨m,⟨h,g,ep,d,b,_⟩,_⟩:=a.loc;rw[z,d] at ho;cases ho;rw[b] at f;cases f
theorem Inv.funs (a:Inv X pins σ H s):s.heap.FunFrames X.base X.outer:=by
 have all:∀(l:U Env),(∀b∈frs l,b∈X.fs)->X.s₀.heap.FunFrames X.base l->s.heap.FunFrames X.base l:=by
  intro l;induction l with
  |nil=>intro _ _;trivial
  |cons i r p=>intro h k;obtain⟨hk,⟨c,o,g,m,ho,j⟩,n⟩:=k;have d:c∈X.fs:=h c (by unfold frs;rw[Oa,g];exact ML);obtain⟨t,e⟩:=a.base.slot c o ho (a.ok.frf c d) d λz=>a.ok.exfs c z d;exact⟨hk,⟨c,_,g,m,e,j⟩,p (λb f=>h b<|by unfold frs;rw[Oa,g];exact MG _ f) n⟩
 exact all X.outer (λ_ f=>f) a.ok.funs
theorem Inv.stack (a:Inv X pins σ H s):s.heap.FunFrames X.base X.stack:=by
 rcases a.ok.stk with e|⟨e,hf⟩
 .rw[e];exact a.funs
 .rw [e];obtain⟨m,b,_⟩:=a.loc;refine .cons (by rw[a.ok.kind];decide) hf b ?_ a.funs;exact Heap.get?_none_of_le<|Mt a.ok.bsz a.ok.above
theorem Inv.stkSub (a:Inv X pins σ H s):∀b∈frs X.stack,b∈X.env.locals::X.fs:=λb c=>by
 rcases a.ok.stk with e|⟨e,hf⟩
 .rw[e] at c;exact MG _ c
 .rw [e] at c;unfold frs at c;rw[Oa,hf] at c;exact c
theorem Inv.stkFree (a:Inv X pins σ H s):∀b∈frs X.stack,H b=none:=λb c=>by
 rcases Mm.mp (a.stkSub b c) with e|c
 .rw[e];exact a.free
 .obtain ⟨_,o,ho,_⟩:=a.ok.funs.mem c;exact a.base.free b o ho (a.ok.frf b c) λz=>a.ok.exfs b z c
theorem Inv.step {g':Tv OX}{t':Y}{d':Drawn}{ch:U S9}(a:Inv X pins σ H s)
  (h:∀b∈ch,(b∈X.ex\/X.s₀.heap.objs.size<=b)/\b≠X.env.locals/\(∀x c,X.env.cells.lookup x=O c->c≠b)/\∀p∈X.pn++pins,p.1≠b)
  (keep:∀b o,b≠X.env.locals->b ∉ X.fs->b ∉ ch->s.heap.get? b=O o->H b=J->h'.get? b=O o)
  (y:∀b o,b≠X.env.locals->b∈X.fs->b ∉ ch->s.heap.get? b=O o->H b=J->∃sl,h'.get? b=O {o with slots:=sl}) (f:∀b o,b ∉ ch->s.heap.get? b=O o->H b=J->H' b=J)
  (D:∀b o,b ∉ ch->s.heap.get? b=O o->∃N,h'.get? b=O N)
  (Q:∀b A,H b=O (.tup A)->H' b=O (.tup A)) (F:∀b o u,H b=O (.frz o u)->H' b=O (.frz o u)) (P:∀b Z,H b=O (.tbl Z)->∃G,H' b=O (.tbl<|Z++G))
  (ns:∀m,s.heap.Ns X.env.locals m->h'.Ns X.env.locals m) (hok:HOk X.prog X.w H' h') (hg:NN g'):
  Inv X pins σ H' {s with heap:=h',gens:=g',drawn:=d',toks:=t'}:=by
 have M:∀b o,X.s₀.heap.get? b=O o->b≠X.env.locals:=λb o e=>Mu<|MF (Heap.lt_size e) a.ok.above
 have t:∀b o,X.s₀.heap.get? b=O o->b ∉ X.ex->b ∉ ch:=λb o e hx B=>by
  rcases(h b B).1 with z|z
  .exact hx z
  .exact Tg (MF (Heap.lt_size e) z) (NF _)
 have g:∀x c,X.env.cells.lookup x=O c->∀v,s.heap.IsCell c v->h'.IsCell c v:=λx c e v ⟨o,ho,hd⟩=>by
  have j:c ∉ ch:=λz=>(h c z).2.2.1 x c e rfl;by_cases hc:c∈X.fs
  .obtain ⟨sl,q⟩:=y c o (a.cne x c e) hc j ho<|a.freeC x c e;exact⟨_,q,hd⟩
  .exact⟨o,keep c o (a.cne x c e) hc j ho<|a.freeC x c e,hd⟩
 refine⟨a.ok,a.os,hg,⟨λb o e n B hx=>?_,λb o e n B hx=>?_,λb o e n hx=>?_,λb o e hx=>?_,λb A e=>Q b A<|a.base.tups b A e,λb o A e=>F b o A<|a.base.frzs b o A e,λb Z e=>?_⟩,?_,λx c e=>?_,?_,λx c e=>?_,λp hp=>?_,hok,a.len⟩
 .exact keep b o (M b o e) B (t b o e hx) (a.base.keep b o e n B hx) (a.base.free b o e n hx)
 .obtain ⟨sl,e1⟩:=a.base.slot b o e n B hx;obtain⟨sl',e2⟩:=y b _ (M b o e) B (t b o e hx) e1<|a.base.free b o e n hx;exact⟨sl',e2⟩
 .obtain ⟨N,e1⟩:=a.base.there b o e hx;exact f b N (t b o e hx) e1<|a.base.free b o e n hx
 .obtain ⟨N,e1⟩:=a.base.there b o e hx;exact D b N (t b o e hx) e1
 .obtain ⟨m1,e1⟩:=a.base.tbls b Z e;obtain⟨m2,e2⟩:=P b _ e1;exact⟨m1++m2,by rw[e2,Array.append_assoc]⟩
 .obtain ⟨m,hn,hl⟩:=a.loc;refine⟨m,ns m hn,λi x v e1 e2 e3=>?_⟩;obtain⟨u,r,l⟩:=hl i x v e1 e2 e3;refine⟨u,r,?_⟩;rcases l with l|⟨k,c,e,z⟩
  .exact .inl l
  .exact .inr ⟨k,c,e,g x c e _ z⟩
 .obtain ⟨v,z⟩:=a.cell x c e;exact⟨v,g x c e v z⟩
 .obtain ⟨m,⟨o,_,_,ho,_⟩,_⟩:=a.loc;exact f _ o (λz=>(h _ z).2.1 rfl) ho a.free
 .obtain ⟨v,o,ho,hd⟩:=a.cell x c e;exact f c o (λz=>(h c z).2.2.1 x c e rfl) ho<|a.freeC x c e
 .obtain ⟨e,n,ne,nf,d⟩:=a.pin p hp;have j:p.1 ∉ ch:=λz=>(h p.1 z).2.2.2 p hp rfl;exact⟨keep p.1 p.2 ne nf j e n,f p.1 p.2 j e n,ne,nf,d⟩
theorem Inv.un {t':Y}(a:Inv X pins σ H s)(u:Un X.fs [] H H' s.heap h')(h:HOk X.prog X.w H' h'):Inv X pins σ H' {s with heap:=h',toks:=t'}:=by
 obtain⟨m,⟨o,l,ep,ho,r⟩,_⟩:=id a.loc;obtain⟨v,i⟩:=u.any ho a.free<|by simp
 exact a.step (g':=s.gens) (d':=s.drawn) (ch:=[]) (λ_ z=>nomatch z) (λb o _ g _ e n=>u.keep b o e n g<|by simp) (λb o _ g _ e n=>u.slot b o e n g<|by simp) (λb o _ e n=>u.free b o e n<|by simp) (λb o _ e=>u.there b o e<|by simp) u.tups u.frzs u.tbls (λp j=>by
  obtain⟨t,f,d,c,k⟩:=j;rw[ho] at c;cases c;exact⟨_,f,d,i,k⟩) h a.bare
theorem Inv.call {g':Tv OX}{t':Y}{d':Drawn}{ch:U S9}(a:Inv X pins σ H s)(u:Un (frs X.stack) ch H H' s.heap h')(k:HOk X.prog X.w H' h')(t:NN g')
  (f:∀b∈ch,(b∈X.ex\/X.s₀.heap.objs.size<=b)/\b≠X.env.locals/\(∀x c,X.env.cells.lookup x=O c->c≠b)/\∀p∈X.pn++pins,p.1≠b):
  Inv X pins σ H' {s with heap:=h',gens:=g',drawn:=d',toks:=t'}:=by
 obtain⟨m,⟨o,A,ep,ho,r⟩,_⟩:=id a.loc;obtain⟨F,j⟩:=u.any ho a.free λz=>(f _ z).2.1 rfl
 exact a.step (ch:=ch) f (λb o j l d e n=>u.keep b o e n (λz=>(Mm.mp<|a.stkSub b z).elim j l) d) (λb o _ _ d e n=>u.any e n d) (λb o d e n=>u.free b o e n d) (λb o d e=>u.there b o e d) u.tups u.frzs u.tbls (λB v=>by
  obtain⟨D,i,h,g,y⟩:=v;rw[ho] at g;cases g;exact⟨_,i,h,j,y⟩) k t
theorem Inv.turned {t':Y}{it:S9}(a:Inv X pins σ H s)(k:∀b o,b≠it->s.heap.get? b=O o->h'.get? b=O o)(y:H it=J)(g:it≠X.env.locals)
  (i:it∈X.ex\/X.s₀.heap.objs.size<=it) (j:∀x c,X.env.cells.lookup x=O c->c≠it) (l:∀p∈X.pn++pins,p.1≠it):Inv X pins σ H {s with heap:=h',toks:=t'}:=by
 have f:∀b u,H b=O u->b≠it:=λb u e z=>by rw[z,y] at e;cases e
 refine a.step (g':=s.gens) (d':=s.drawn) (ch:=[it]) (λb t=>?_) (λb o _ _ d e _=>k b o (λz=>d<|by simp[z]) e) (λb o _ _ d e _=>⟨o.slots,k b o (λz=>d<|by simp[z]) e⟩) (λ_ _ _ _ n=>n)
  (λb o d e=>⟨o,k b o (λz=>d<|by simp[z]) e⟩) (λ_ _ e=>e) (λ_ _ _ e=>e) (λb A e=>⟨#[],by rw[e];simp⟩) (λm w=>?_) (λb u e=>?_) a.bare
 .have e:b=it:=by simpa using t
  subst e;exact⟨i,g,j,l⟩
 .obtain ⟨o,h,ep,ho,r⟩:=w;exact⟨o,h,ep,k _ o (MI g) ho,r⟩
 .refine (a.hok b u e).stay (fun c v d q=>k c v ?_ q) (fun _ q=>q) fun _ _ q=>q;rcases d with z|z
  .rw[z];exact f b u e
  .exact f c _ z
theorem Inv.tok (a:Inv X pins σ H s)(t:Y):Inv X pins σ H {s with toks:=t}:=a.un (h':=s.heap) (t':=t) Un.refl a.hok
theorem Inv.kept {t':Y}(a:Inv X pins σ H s)(k:∀b u,s.heap.get? b=O u->h'.get? b=O u):Inv X pins σ H {s with heap:=h',toks:=t'}:=a.un (Un.kept k)<|a.hok.kept k
theorem Inv.laid {a:S9}{o:HO}{t':Y}(c:Inv X pins σ H s)(k:∀b u,s.heap.get? b=O u->h'.get? b=O u)(hp:s.heap.objs.size<=a)(new:ObjOk X.prog X.w (upd H a o) h' a o):
  Inv X pins σ (upd H a o) {s with heap:=h',toks:=t'}:=c.un (Un.laid k hp<|c.hok.fresh hp)<|c.hok.laid k hp new
theorem Inv.write {x e:S9}{o:HO}{t':Y}(a:Inv X pins σ H s)(f:Mut<|H x)(d:e=x\/H e=O (.own x))(k:∀b u,b≠e->s.heap.get? b=O u->h'.get? b=O u)(c:∃u,h'.get? e=O u)
  (new:ObjOk X.prog X.w (upd H x o) h' x o):Inv X pins σ (upd H x o) {s with heap:=h',toks:=t'}:=a.un (Un.write f d k c)<|a.hok.write f d k c new
theorem Inv.weak {b:U<|I V}(a:Inv X pins σ H s)(d:b.length=σ.length)(w:∀(i:Y) v,b[i]?=O (O v)->σ[i]?=O (O v)):Inv X pins b H s:=
 ⟨a.ok,a.os,a.bare,a.base,let ⟨m,e,c⟩:=a.loc;⟨m,e,λi x v e1 e2 e3=>c i x v e1 (w i v e2) e3⟩,a.cell,a.free,a.freeC,a.pin,a.hok,d.trans a.len⟩
theorem Inv.pins_of {b:U<|S9×Obj}(a:Inv X pins σ H s)(h:∀p∈b,s.heap.get? p.1=O p.2/\H p.1=J/\p.1≠X.env.locals/\p.1 ∉ X.fs/\∀v,p.2.data≠.cell v):Inv X b σ H s:=
 ⟨a.ok,a.os,a.bare,a.base,a.loc,a.cell,a.free,a.freeC,λp hp=>(OR.mp hp).elim (λz=>a.pin p<|OP _ z)<|h p,a.hok,a.len⟩
theorem i5 {N:U Str}(c:N.Nodup){i j:Y}{x:Str}(a:N[i]?=O x)(b:N[j]?=O x):i=j:=by obtain⟨d,e1⟩:=Na.mp a;obtain⟨e,e2⟩:=Na.mp b;exact(List.getElem_inj c).mp<|e1.trans e2.symm
theorem jE {M:Ud}{A:Mh}{E:L->L8->Prop}{i:Y}{x:Str}{v:V}{u:L}{Q:Unit->L8->Prop}(f:Inv X pins σ H s)(hN:X.N.Nodup)(hi:X.N[i]?=O x)(hx:Loc X.env.scope x)(r:RelV v u)
  (h:∀s',Inv X pins (σ.set i<|O v) H s'->(∃a,Heap.SameBut a s.heap s'.heap/\(a=X.env.locals\/X.env.cells.lookup x=O a))->Q () s') (hf:X.fn x=L7\/X.env.scope.names.lookup x=O .local:=by first|exact .inl rfl|exact .inr rfl|assumption):Tc M A (storeName X.env x u) Q E s:=by
 obtain⟨m,hn,hl⟩:=id f.loc;have hcls:(X.env.scope.kind==.class || (X.env.scope.kind==.module&&X.env.locals != X.env.globals))=false:=by rw[f.ok.kind];rfl
 have D:i < σ.length:=by rw[f.len];exact(Na.mp hi).1
 have cne:=f.cne
 have l:∀{a:S9} {h':To},(∃o,s.heap.get? a=O o/\H a=J)->Heap.SameBut a s.heap h'->HOk X.prog X.w H h':=λ{a h'} ha g b ob e=>by
  obtain⟨_,_,B⟩:=ha;refine(f.hok b ob e).stay (λc w' t q=>(g.2 c ?_).trans q) (λ_ q=>q) λ_ _ q=>q;rintro rfl;rcases t with rfl|t
  .rw[B] at e;cases e
  .rw[B] at t;cases t
 rcases hx with hk|hk
 .refine wpAny_storeName_local hk hn (fun h' hn' g=>?_) hcls;obtain⟨oL,_,_,hoL,_⟩:=id hn;refine h _ ⟨f.ok,f.os,f.bare,⟨λb o e n F hx=>?_,λb o e n F hx=>?_,f.base.free,λb o e hx=>?_,f.base.tups,f.base.frzs,f.base.tbls⟩,⟨_,hn',λj y v' e1 e2 e3=>?_⟩,λy c e=>?_,f.free,f.freeC,λp hp=>?_,l ⟨oL,hoL,f.free⟩ g,by simpa using f.len⟩ ⟨_,g,.inl rfl⟩
  .exact(g.2 b<|Mu<|MF (Heap.lt_size e) f.ok.above).trans<|f.base.keep b o e n F hx
  .obtain ⟨sl,e1⟩:=f.base.slot b o e n F hx;exact⟨sl,(g.2 b<|Mu<|MF (Heap.lt_size e) f.ok.above).trans e1⟩
  .obtain ⟨o',e1⟩:=f.base.there b o e hx;exact⟨o',(g.2 b<|Mu<|MF (Heap.lt_size e) f.ok.above).trans e1⟩
  .by_cases P:j=i
   .subst P;rw[hi] at e1;cases e1;rw[PZ D] at e2;cases e2;exact⟨u,r,.inl ⟨hk,by simp⟩⟩
   .rw [ON (MI P)] at e2;obtain⟨u',r',q⟩:=hl j y v' e1 e2 e3;refine⟨u',r',?_⟩;rcases q with⟨k,e⟩|⟨k,c,e,z⟩
    .refine .inl ⟨k,?_⟩;have:y≠x:=λe=>P<|i5 hN e1<|e ▸ hi;simp[this,e]
    .exact .inr ⟨k,c,e,z.sameBut g<|cne y c e⟩
  .obtain ⟨w',z⟩:=f.cell y c e;exact⟨w',z.sameBut g<|cne y c e⟩
  .obtain ⟨e,n,ne,nf,d⟩:=f.pin p hp;exact⟨(g.2 p.1 ne).trans e,n,ne,nf,d⟩
 .have G:X.fn x=true:=by
   rcases hf with z|z
   .exact z
   .rw[z] at hk;cases hk
  obtain⟨c,t⟩:=f.ok.has x<|.inl hk;obtain⟨w',z⟩:=f.cell x c t;refine wpAny_storeName_cell f.ok.kind hk t z λh' Z g=>?_;obtain⟨oc,hoc,hocd⟩:=id z;refine h {s with heap:=h'} ⟨f.ok,f.os,f.bare,⟨λb o e n F hx=>?_,λb o e n F hx=>?_,f.base.free,λb o e hx=>?_,f.base.tups,f.base.frzs,f.base.tbls⟩,⟨m,hn.sameBut g<|MI<|cne x c t,λj y v' e1 e2 e3=>?_⟩,λy c' e=>?_,f.free,f.freeC,λp hp=>?_,l ⟨oc,hoc,f.freeC x c t⟩ g,by simpa using f.len⟩ ⟨c,g,.inr t⟩
  .exact(g.2 b<|Mu<|MF (Heap.lt_size e)<|f.ok.cab x c G t).trans<|f.base.keep b o e n F hx
  .obtain ⟨sl,e1⟩:=f.base.slot b o e n F hx;exact⟨sl,(g.2 b<|Mu<|MF (Heap.lt_size e)<|f.ok.cab x c G t).trans e1⟩
  .obtain ⟨o',e1⟩:=f.base.there b o e hx;exact⟨o',(g.2 b<|Mu<|MF (Heap.lt_size e)<|f.ok.cab x c G t).trans e1⟩
  .by_cases P:j=i
   .subst P;rw[hi] at e1;cases e1;rw[PZ D] at e2;cases e2;exact⟨u,r,.inr ⟨.inl hk,c,t,Z⟩⟩
   .rw [ON (MI P)] at e2;obtain⟨u',r',q⟩:=hl j y v' e1 e2 e3;refine⟨u',r',?_⟩;rcases q with q|⟨k,c',e,z'⟩
    .exact .inl q
    .refine .inr ⟨k,c',e,z'.sameBut g ?_⟩;rintro rfl;exact P<|i5 hN e1<|f.ok.inj _ _ _ e t ▸ hi
  .by_cases hcc:c'=c
   .subst hcc;exact⟨_,Z⟩
   .obtain ⟨w2,z2⟩:=f.cell y c' e;exact⟨w2,z2.sameBut g hcc⟩
  .obtain ⟨e,n,ne,nf,d⟩:=f.pin p hp;refine⟨(g.2 p.1 ?_).trans e,n,ne,nf,d⟩;intro q;rw[q,hoc] at e;have q':oc=p.2:=MY e;exact d w'<|by rw[<- q'];exact hocd
theorem fR {M:Ud}{A:Mh}{E:L->L8->Prop}{i:Y}{x:Str}{v:V}{u:L}{Q:Unit->L8->Prop}(a:Inv X pins σ H s)(d:X.N.Nodup)(f:X.N[i]?=O x)(hx:Loc X.env.scope x)(r:RelV v u)
  (h:∀b,Inv X pins (σ.set i<|O v) H b->Q () b) (e:X.fn x=L7\/X.env.scope.names.lookup x=O .local:=by first|exact .inl rfl|exact .inr rfl|assumption):Tc M A (storeName X.env x u) Q E s:=
 jE a d f hx r (λb c _=>h b c) e
theorem Inv.call' {s':L8}{ch:U S9}(a:Inv X pins σ H s)(ho:s'.os=s.os)(u:Un (frs X.stack) ch H H' s.heap s'.heap)(f:HOk X.prog X.w H' s'.heap)(g:NN s'.gens)
  (d:∀b∈ch,(b∈X.ex\/X.s₀.heap.objs.size<=b)/\b≠X.env.locals/\(∀x c,X.env.cells.lookup x=O c->c≠b)/\∀p∈X.pn++pins,p.1≠b):Inv X pins σ H' s':=by
 obtain⟨h',g',d',t',h⟩:=s';have e:h=s.os:=ho;subst e;exact a.call (g':=g') (t':=t') (d':=d') u f g d
end
abbrev XK:=L->I S9->Hp->Prop
abbrev St:=U<|I V
abbrev VK:=V->Hp->Prop
abbrev TE:=St->Hp->VK->Prop
abbrev TT:=St->Hp->(Ta->Hp->Prop)->Prop
abbrev TA:=St->Hp->(U V->Hp->Prop)->Prop
structure cx where
 nx:St->Hp->Prop
 rt:VK
 bk:St->Hp->Prop:=λ_ _=>Tw
 ct:St->Hp->Prop:=λ_ _=>Tw
abbrev TS:=cx->St->Hp->Prop
def EP (X:Cx)(a:U<|S9×Obj)(d:St)(Q:VK)(u:L)(c:L8):Prop:=∃v b,Inv X a d b c/\RelV v u/\Q v b
def TP (X:Cx)(a:U<|S9×Obj)(e:St)(Q:Ta->Hp->Prop)(b:Ta)(d:L8):Prop:=∃c,Inv X a e c d/\Q b c
def AP (X:Cx)(a:U<|S9×Obj)(f:St)(Q:U V->Hp->Prop)(e:U L)(d:L8):Prop:=∃c b,Inv X a f b d/\Vals c e/\Q c b
def SP (X:Cx)(b:U<|S9×Obj)(D:cx)(f:Flow)(d:L8):Prop:=
 match f with
 |.next=>∃a c,Inv X b a c d/\D.nx a c
 |.brk=>∃a c,Inv X b a c d/\D.bk a c
 |.cont=>∃a c,Inv X b a c d/\D.ct a c
 |.ret u=>∃v a c,Inv X b a c d/\RelV v u/\D.rt v c
def PE (X:Cx)(e:Tq)(t:TE):Prop:=
 ∀(a:U<|S9×Obj) (s:L8) (b:St) (H:Hp) (Q:VK),Inv X a b H s->t b H Q->Tc (Mb X.prog X.w) X.A (Tx e X.env) (EP X a b Q) X.xe s
def PT (X:Cx)(e:Tq)(t:TT):Prop:=
 ∀(a:U<|S9×Obj) (s:L8) (b:St) (H:Hp) (Q:Ta->Hp->Prop),Inv X a b H s->t b H Q->Tc (Mb X.prog X.w) X.A (Uq e X.env<|Tx e X.env) (TP X a b Q) X.xe s
def PW (X:Cx)(e:Tq)(t:TT):Prop:=
 ∀(b:Sem L) (a:U<|S9×Obj) (s:L8) (c:St) (H:Hp) (Q:Ta->Hp->Prop),Inv X a c H s->t c H Q->Tc (Mb X.prog X.w) X.A (Uq e X.env b) (TP X a c Q) X.xe s
theorem PW.pt {X:Cx}{e:Tq}{t:TT}(h:PW X e t):PT X e t:=h _
def PA (X:Cx)(d:U Tq)(t:TA):Prop:=
 ∀(b:Pos) (a:U<|S9×Obj) (s:L8) (c:St) (H:Hp) (Q:U V->Hp->Prop),Inv X a c H s->t c H Q->Tc (Mb X.prog X.w) X.A (spliced<|Mp b<|Me d X.env) (AP X a c Q) X.xe s
def PS (X:Cx)(c:Tz)(t:TS):Prop:=
 ∀(a:U<|S9×Obj) (s:L8) (b:St) (H:Hp) (D:cx),Inv X a b H s->t D b H->Tc (Mb X.prog X.w) X.A (exec c X.env) (SP X a D) X.xe s
def PSs (X:Cx)(c:U Tz)(t:TS):Prop:=
 ∀(a:U<|S9×Obj) (s:L8) (b:St) (H:Hp) (D:cx),Inv X a b H s->t D b H->Tc (Mb X.prog X.w) X.A (execs c X.env) (SP X a D) X.xe s
theorem thn {c:Type}{t:Sem c}{Q b:c->L8->Prop}{M:Ud}{A:Mh}{E:L->L8->Prop}{s:L8}(h:Tc M A t Q E s)(d:∀a s,Q a s->b a s):Tc M A t b E s:=MD h d λ_ _ x=>x
section
variable {X:Cx}
def wZ (i:Y):TE:=λa H Q=>∃v,a[i]?=O (O v)/\Q v H
def tC (v:V):TE:=λ_ H Q=>Q v H
theorem aO {i:Y}{x:Str}{k:Pos}(o:X.N[i]?=O x)(y:Vis X.env.scope x)(j:(x==("__debug__":Str))=false:=by decide)(g:(x==("__classdict__":Str))=false:=by decide):PE X (.Name x k) (wZ i):=by
 intro f s z H Q a h;obtain⟨v,e,h⟩:=h;obtain⟨m,w,p⟩:=a.loc;obtain⟨u,r,l⟩:=p i x v o e y;have d:EP X f z Q u s:=⟨v,H,a,r,h⟩;rcases l with⟨hk,t⟩|⟨hk,c,n,b⟩
 .exact wpAny_Name (wpAny_loadName_local a.ok.kind hk w t d) j
 .rcases hk with hk | hk
  .exact wpAny_Name (wpAny_loadName_cell a.ok.kind hk n b d) j
  .exact wpAny_Name (wpAny_loadName_free a.ok.kind hk n b d g) j
theorem vF {i j pos}:PE X (.Constant (.int i) j pos) (tC<|.int i):=λ_ _ _ H _ a h=>wpAny_Constant_int ⟨.int i,H,a.tok _,⟨_,rfl⟩,h⟩
theorem J9 {b j pos}:PE X (.Constant (.bool b) j pos) (tC<|.bl b):=λ_ _ _ H _ a h=>Constant_bool ⟨.bl b,H,a,rfl,h⟩
theorem EM {j pos}:PE X (.Constant .none j pos) (tC .non):=λ_ _ _ H _ a h=>Constant_none ⟨.non,H,a,rfl,h⟩
theorem DJ {x j pos}:PE X (.Constant (.str x) j pos) (tC<|.str x):=λ_ _ _ H _ a h=>Calls.Constant_str ⟨.str x,H,a.tok _,⟨_,rfl⟩,h⟩
def Gl (X:Cx)(x:Str):Prop:=X.env.kindOf x=O .globalImplicit
theorem eG {E:L->L8->Prop}{b:U<|S9×Obj}{s:L8}{g:St}{H:Hp}{x:Str}{u:L}{c:Pos}{Q:L->L8->Prop}(a:Inv X b g H s)(e:Gl X x)(f:X.mg x=O u)(h:Q u s)
  (d:(x==("__debug__":Str))=false:=by decide):Tc (Mb X.prog X.w) X.A (Tx (.Name x c) X.env) Q E s:=
 Calls.Name_function_global a.ok.kind e (Calls.loadGlobal_global (by rw[a.ok.glob];exact a.mod.glob.keeps a.bk) f h) d
theorem gk {E:L->L8->Prop}{b:U<|S9×Obj}{s:L8}{l:St}{H:Hp}{x:Str}{u:L}{c:Pos}{Q:L->L8->Prop}(a:Inv X b l H s)(g:Gl X x)(i:X.mg x=J)(k:NI x=O u)(h:Q u s)
  (j:x≠"__name__":=by decide) (f:(x==("__debug__":Str))=false:=by decide):Tc (Mb X.prog X.w) X.A (Tx (.Name x c) X.env) Q E s:=by
 obtain⟨m,d,e⟩:=a.mod.blt;exact Calls.Name_function_global a.ok.kind g (Calls.loadGlobal_builtin (by rw[a.ok.glob];exact a.mod.glob.keeps a.bk) i (by rw[a.ok.blt];exact d.keeps a.bk) ((e x j).trans k) h) f
theorem qg {x:Str}{v:V}{u:L}{b:Pos}(d:Gl X x)(e:X.mg x=O u)(r:RelV v u)(c:(x==("__debug__":Str))=false:=by decide):PE X (.Name x b) (tC v):=
 λ_ _ _ H _ a h=>eG a d e ⟨v,H,a,r,h⟩ c
theorem Bg {x:Str}{v:V}{u:L}{b:Pos}(d:Gl X x)(e:X.mg x=J)(g:NI x=O u)(r:RelV v u)(f:x≠"__name__":=by decide)(c:(x==("__debug__":Str))=false:=by decide):PE X (.Name x b) (tC v):=
 λ_ _ _ H _ a h=>gk a d e g ⟨v,H,a,r,h⟩ f c
variable {a b:Tq}{ta tb:TE}{pos:Pos}
def PC (X:Cx)(op:CmpOp)(a b:Tq)(t:TE):Prop:=
 ∀(c:U<|S9×Obj) (s:L8) (f:St) (H:Hp) (Q:VK),Inv X c f H s->t f H Q ->
  Tc (Mb X.prog X.w) X.A (Tx a X.env) (λv d=>Tc (Mb X.prog X.w) X.A (Tx b X.env) (λu e=>Tc (Mb X.prog X.w) X.A (M7 op v u) (EP X c f Q) X.xe e) X.xe d) X.xe s
def tB (t:TE):TT:=λe H Q=>t e H λx d=>∃c,x=.bl c/\Q c d
variable {tA tB':TT}{rest:U Tq}
def tOr (t u:TT):TT:=λe H Q=>t e H λc d=>if c=L7 then Q L7 d else u e d Q
def JZ (t:TT):TT:=λe H Q=>t e H λc d=>Q (!c) d
theorem DT (g:PT X a tA):PW X (.BoolOp .Or [a] pos) tA:=by
 intro j f s i H Q d h;refine isTrue_or<|thn (g f s i H Q d h) λc s1 e=>?_;cases c with
 |false=>exact isTrue_or_nil e
 |true=>exact e
theorem Io (k:PT X a tA)(l:PW X (.BoolOp .Or (b::rest) pos) tB'):PW X (.BoolOp .Or (a::b::rest) pos) (tOr tA tB'):=by
 intro m e s j H Q d h;refine isTrue_or<|thn (k e s j H _ d h) λc s1 ⟨f,g,i⟩=>?_;cases c with
 |true=>exact⟨f,g,i⟩
 |false=>exact l m e s1 j f Q g i
theorem GQ (g:PT X a tA):PT X (.UnaryOp .Not a pos) (JZ tA):=by intro e s i H Q d h;exact isTrue_not<|g e s i H (λc f=>Q (!c) f) d h
theorem Hm {op}{t:TE}(h:PE X a t):PE X (.BoolOp op [a] pos) t:=λd s f H Q c e=>BoolOp_one<|h d s f H Q c e
def tIf (t:TT)(ta tb:TE):TE:=λd H Q=>t d H λc e=>if c=L7 then ta d e Q else tb d e Q
theorem xF {c:Tq}(n:PT X c tA)(l:PE X a ta)(m:PE X b tb):PE X (.IfExp c a b pos) (tIf tA ta tb):=by
 intro f s g H Q e h;refine wpAny_IfExp<|thn (n f s g H _ e h) λd s1 ⟨i,j,k⟩=>?_;cases d with
 |true=>exact l f s1 g i Q j k
 |false=>exact m f s1 g i Q j k
end
def SqL (K:L9)(H:Hp)(a:S9)(c:U V):Prop:=
 Rd H a (.lst c) \/
  ∃(o:Obj) (b:Tv L) (n:Y),K.lookup a=O o/\o.cls=.type "list"/\o.dict=J/\o.data=.seq b n/\b.size<=sizeLine/\Vals c b.toList
def SqT (K:L9)(H:Hp)(a:S9)(c:U V):Prop:=
 Rd H a (.tup c) \/
  ∃(o:Obj) (b:Tv L) (n:Y),K.lookup a=O o/\o.cls=.type "tuple"/\o.data=.seq b n/\b.size<=sizeLine/\Vals c b.toList
def LX:L->I V
|.none=>O .non
|.bool b=>O<|.bl b
|.int i _=>O<|.int i
|.str x _=>O<|.str x
|.bytes b _=>O<|.byt b
|.float b _=>O<|.flt b
|.ref a=>O<|.ref a
|.type n=>O<|.ty n
|_=>J
theorem RelV.abs {x:V}{u:L}(r:RelV x u):LX u=O x:=by
 cases x with
 |non=>cases r;rfl
 |bl _=>cases r;rfl
 |int _=>obtain⟨t,rfl⟩:=r;rfl
 |str _=>obtain⟨t,rfl⟩:=r;rfl
 |byt _=>obtain⟨t,rfl⟩:=r;rfl
 |flt _=>obtain⟨t,rfl⟩:=r;rfl
 |ref _=>cases r;rfl
 |ty _=>cases r;rfl
theorem RelV.inj {x y:V}{u:L}(r:RelV x u)(q:RelV y u):x=y:=MY<|r.abs.symm.trans q.abs
theorem Vals.inj:∀{b c:U V} {a:U L},Vals b a->Vals c a->b=c
|_,_,_,.nil,.nil=>rfl
|_,_,_,.cons r t,.cons d e=>by rw[r.inj d,Vals.inj t e]
section
variable {X:Cx}{pins:U (S9×Obj)}{σ:St}{H:Hp}{s:L8}{a:S9}{xs ys:U V}
theorem SqL.of {K:L9}(h:H a=O (.lst xs)):SqL K H a xs:=.inl<|.inl h
theorem SqT.of {K:L9}(h:H a=O (.tup xs)):SqT K H a xs:=.inl<|.inl h
theorem Inv.list (b:Inv X pins σ H s)(h:SqL X.K H a xs):∃c:U L,Vals xs c/\PlainL s.heap a c.toArray/\xs.length<=sizeLine:=by
 rcases h with h|⟨o,c,n,hk,hc,hd,hs,hz,r⟩
 .obtain ⟨z,c,n,r,e⟩:=h.ok b.hok;exact⟨c,r,⟨_,n,e,rfl,rfl,rfl⟩,z⟩
 .refine ⟨c.toList,r,⟨o,n,b.kIn a o hk,hc,hd,by simpa using hs⟩,?_⟩;have e:=r.length;simp only[N9] at e;lia
theorem Inv.tuple (b:Inv X pins σ H s)(h:SqT X.K H a xs):∃c:U L,Vals xs c/\T7 s.heap a c.toArray/\xs.length<=sizeLine:=by
 rcases h with h|⟨o,c,n,hk,hc,hs,hz,r⟩
 .obtain ⟨z,c,r,p⟩:=h.ok b.hok;exact⟨c,r,p,z⟩
 .refine ⟨c.toList,r,⟨o,b.kIn a o hk,hc,n,by simpa using hs⟩,?_⟩;have e:=r.length;simp only[N9] at e;lia
theorem Inv.list_inj (b:Inv X pins σ H s)(h:SqL X.K H a xs)(k:SqL X.K H a ys):xs=ys:=by
 obtain⟨f,r,⟨o,n,e,_,_,d⟩,_⟩:=b.list h;obtain⟨c,l,⟨p,m,i,_,_,g⟩,_⟩:=b.list k;rw[e] at i;cases i;rw[d] at g;injection g with j _
 have:f=c:=by simpa using Tn Rx j
 subst this;exact r.inj l
theorem Inv.tuple_inj (b:Inv X pins σ H s)(h:SqT X.K H a xs)(k:SqT X.K H a ys):xs=ys:=by
 obtain⟨f,r,⟨o,e,_,n,d⟩,_⟩:=b.tuple h;obtain⟨c,l,⟨p,i,_,m,g⟩,_⟩:=b.tuple k;rw[e] at i;cases i;rw[d] at g;injection g with j _
 have:f=c:=by simpa using Tn Rx j
 subst this;exact r.inj l
end
abbrev Cx.wish (X:Cx)(E:L->L8->Prop):Cx:={X with xe:=E}
abbrev Cx.nox (X:Cx):Cx:=X.wish λ_ _=>Tw
theorem Cx.Ok.wish {X:Cx}(ok:X.Ok)(E:L->L8->Prop):(X.wish E).Ok:=
 ⟨ok.mod,ok.kind,ok.glob,ok.blt,ok.above,ok.inj,ok.has,ok.cab,ok.hd,ok.frames,ok.stk,ok.exf,ok.bs,ok.bsz,ok.noex,ok.exfs,ok.funs,ok.frf⟩
theorem Cx.Ok.unwish {X:Cx}{E:L->L8->Prop}(ok:(X.wish E).Ok):X.Ok:=
 ⟨ok.mod,ok.kind,ok.glob,ok.blt,ok.above,ok.inj,ok.has,ok.cab,ok.hd,ok.frames,ok.stk,ok.exf,ok.bs,ok.bsz,ok.noex,ok.exfs,ok.funs,ok.frf⟩
section
variable {X:Cx}{pins:U (S9×Obj)}{σ:St}{H:Hp}{s:L8}{E:L->L8->Prop}
theorem Inv.wish (a:Inv X pins σ H s)(E:L->L8->Prop):Inv (X.wish E) pins σ H s:=⟨a.ok.wish E,a.os,a.bare,a.base,a.loc,a.cell,a.free,a.freeC,a.pin,a.hok,a.len⟩
theorem Inv.unwish (a:Inv (X.wish E) pins σ H s):Inv X pins σ H s:=⟨a.ok.unwish,a.os,a.bare,a.base,a.loc,a.cell,a.free,a.freeC,a.pin,a.hok,a.len⟩
theorem SP.unwish {D:cx}{f:Flow}{d:L8}(h:SP (X.wish E) pins D f d):SP X pins D f d:=by
 cases f with
 |next=>obtain⟨b,c,a,q⟩:=h;exact⟨b,c,a.unwish,q⟩
 |brk=>obtain⟨b,c,a,q⟩:=h;exact⟨b,c,a.unwish,q⟩
 |cont=>obtain⟨b,c,a,q⟩:=h;exact⟨b,c,a.unwish,q⟩
 |ret u=>obtain⟨v,b,c,a,r,q⟩:=h;exact⟨v,b,c,a.unwish,r,q⟩
theorem PSs.nox {b:U Tz}{t:TS}(h:PSs X.nox b t):PSs X b t:=λpins s σ H D a c=>
 MD (h pins s σ H D (a.wish _) c) (λ_ _ q=>q.unwish) λ_ _ z=>MQ z
end
section
variable {X:Cx}{st:Tz}{rest:U Tz}{t u:TS}{e:Tq}{te:TE}{pos:Pos}
def Cm:TS:=λD a H=>D.nx a H
def IQ (t u:TS):TS:=λD a H=>t {D with nx:=u D} a H
theorem zt:PSs X [] Cm:=λ_ _ b H _ a h=>P8 ⟨b,H,a,h⟩
theorem bq (i:PS X st t)(j:PSs X rest u):PSs X (st::rest) (IQ t u):=by
 intro b s k H D a h;refine wpAny_execs_cons<|thn (i b s k H {D with nx:=u D} a h) λf s1 q=>?_;cases f with
 |next=>obtain⟨c,d,g,q⟩:=q;exact j b s1 c d D g q
 |ret v=>exact q
 |brk=>exact q
 |cont=>exact q
theorem gZ (c:PS X st t):PSs X [st] t:=by
 intro b s d H D a h;refine wpAny_execs_cons<|thn (c b s d H D a h) λf s1 q=>?_;cases f with
 |next=>exact P8 q
 |ret v=>exact q
 |brk=>exact q
 |cont=>exact q
theorem Inv.quiet {b:U<|S9×Obj}{c:St}{H:Hp}{s:L8}(a:Inv X b c H s):interactive X.env=false:=by simp[interactive,a.ok.kind]
def Hy (te:TE):TS:=λD a H=>te a H λ_ b=>D.nx a b
theorem hV (g:PE X e te)(i:Nl e J pos.line X.env=pure false:=by rfl):PS X (.Expr e pos) (Hy te):=by intro b s c H D a h;exact wpAny_Expr_any (thn (g b s c H _ a h) λv s1 ⟨x,d,f,k,j⟩=>⟨c,d,f,j⟩) a.quiet i
def Kg (te:TE):TS:=λD a H=>te a H D.rt
theorem vn (g:PE X e te):PS X (.Return (O e) pos) (Kg te):=by intro b s c H D a h;exact wpAny_Return_some<|thn (g b s c H _ a h) λv s1 ⟨x,d,f,j,i⟩=>⟨x,c,d,f,j,i⟩
def J1 (c:TT)(t u:TS):TS:=λD a H=>c a H λb d=>if b=L7 then t D a d else u D a d
theorem HX {c:Tq}{a b:U Tz}{m:TT}(p:PT X c m)(n:PSs X a t)(o:PSs X b u):PS X (.If c a b pos) (J1 m t u):=by
 intro g s i H D f h;refine wpAny_If<|thn (p g s i H _ f h) λd s1 ⟨j,k,l⟩=>?_;cases d with
 |true=>exact n g s1 i j D k l
 |false=>exact o g s1 i j D k l
end
abbrev TG:=V->St->Hp->(St->Hp->Prop)->Prop
abbrev TGs:=U V->St->Hp->(St->Hp->Prop)->Prop
def PG (X:Cx)(a:Tq)(t:TG):Prop:=
 ∀(b:U<|S9×Obj) (s:L8) (e:St) (H:Hp) (v:V) (u:L) (Q:St->Hp->Prop),Inv X b e H s->RelV v u->t v e H Q ->
  Tc (Mb X.prog X.w) X.A (NR a X.env u) (λ_ f=>∃c d,Inv X b c d f/\Q c d) X.xe s
def PGs (X:Cx)(h:U Tq)(t:TGs):Prop:=
 ∀(a:U<|S9×Obj) (s:L8) (f:St) (H:Hp) (e:U V) (d:U L) (Q:St->Hp->Prop),Inv X a f H s->Vals e d->t e f H Q ->
  Tc (Mb X.prog X.w) X.A (assignInOrder ((Oh h X.env).map (·.2)) d) (λ_ g=>∃b c,Inv X a b c g/\Q b c) X.xe s
section
variable {X:Cx}{pos:Pos}
def cj (i:Y):TG:=λv a H Q=>Q (a.set i<|O v) H
theorem bg {i:Y}{x:Str}(d:X.N.Nodup)(f:X.N[i]?=O x)(hx:Loc X.env.scope x)(e:X.fn x=L7\/X.env.scope.names.lookup x=O .local:=by first|exact .inl rfl|exact .inr rfl|assumption):PG X (.Name x pos) (cj i):=by intro b s j H v u Q a r h;exact wpAny_assign_Name<|fR a d f hx r (λg c=>⟨_,H,c,h⟩) e
def sZ:TGs:=λa b H Q=>a=[]/\Q b H
def dS (t:TG)(u:TGs):TGs:=λc d H Q=>∃v r,c=v::r/\t v d H λa b=>u r a b Q
theorem fP:PGs X [] sZ:=by intro b s c H f d Q a r h;obtain⟨e,h⟩:=h;subst e;cases r;exact assignInOrder_nil ⟨c,H,a,h⟩
theorem bB {e:Tq}{c:U Tq}{t:TG}{u:TGs}(i:PG X e t)(j:PGs X c u)
  (k:(Oh (e::c) X.env).map (·.2)=NR e X.env::(Oh c X.env).map (·.2):=by rfl):PGs X (e::c) (dS t u):=by
 intro b s n H w o Q a r h;obtain⟨v,p,e1,h⟩:=h;subst e1;cases r with
 |cons r m=>rw[k];refine assignInOrder_cons<|thn (i b s n H _ _ _ a r h) λ_ s1 ⟨d,f,g,l⟩=>?_;exact j b s1 d f _ _ Q g m l
def uW (K:L9)(n:Y)(t:TGs):TG:=λv c H Q=>∃a b,v=.ref a/\SqT K H a b/\b.length=n/\t b c H Q
theorem kY {f:U Tq}{k:Y}{t:TGs}{n:Y}(w:X.calm=L7)(h:PGs X f t)
  (y:(Oh f X.env).length=n:=by rfl) (g:(Oh f X.env).findIdx? (·.1)=none:=by rfl):PG X (.Tuple f k pos) (uW X.K n t):=by
 intro d s l H v u Q c r i;obtain⟨a,D,e1,z,x,i⟩:=i;subst e1;cases r;obtain⟨B,j,A,F⟩:=c.tuple z;refine assign_Tuple_tuple (c.ok.hd w) A (by simp[y,<- x,j.length]) g λp hx=>?_;have m:Inv X d l H {s with heap:=p}:=c.kept (t':=s.toks) λb o e=>hx b o (Mu<|Heap.lt_size e) e;exact h d _ l H D _ Q m (by simpa using j) i
def mi (c:TE)(g:TG):TS:=λD a H=>c a H λx b=>g x a b D.nx
theorem oY {c e:Tq}{d:TE}{g:TG}(l:PE X e d)(m:PG X c g)(n:P6 [c] e pos.line X.env=pure false:=by rfl)(o:P5 [c] e X.env=pure none:=by rfl)
  (k:(Oh [c] X.env).map (·.2)=[NR c X.env]:=by rfl):PS X (.Assign [c] e pos) (mi d g):=by
 intro b s f H D a h;refine wpAny_Assign_stores (thn (l b s f H _ a h) λv s1 ⟨x,i,j,r,p⟩=>?_) n o;rw[k];exact thn (m b s1 f i x v _ j r p) λ_ t q=>q
theorem kJ {i:Y}{x:Str}{e:Tq}{d:TE}{b:Pos}(k:X.N.Nodup)(n:X.N[i]?=O x)(hx:Loc X.env.scope x)(l:PE X e d)(o:Nl e (O<|.Name x b) pos.line X.env=pure false:=by rfl)(m:X.fn x=L7\/X.env.scope.names.lookup x=O .local:=by first|exact .inl rfl|exact .inr rfl|assumption):
  PS X (.Assign [.Name x b] e pos) (mi d<|cj i):=by
 intro c s t H D a h;refine wpAny_Assign_Name (thn (l c s t H _ a h) λv s1 ⟨y,f,g,r,p⟩=>?_) o;exact fR g k n hx r (λu j=>⟨_,f,j,p⟩) m
end
structure It where
 go:Y->Hp->Prop
 yld:Y->Hp->V->Hp->Prop
 stop:Y->Hp->Prop
def jA (X:Cx)(a:U<|S9×Obj)(H:Hp)(b:S9):Prop:=
 H b=J/\b≠X.env.locals/\b ∉ X.fs/\(b∈X.ex\/X.s₀.heap.objs.size<=b)/\(∀x c,X.env.cells.lookup x=O c->c≠b)/\∀p∈X.pn++a,p.1≠b
theorem Inv.fpOk {X:Cx}{d:U<|S9×Obj}{i:St}{H g:Hp}{s:L8}{b:S9}(a:Inv X d i H s)(f:s.heap.objs.size<=b)(h:g b=J):jA X d g b:=by
 refine⟨h,NC<|MF a.lt f,a.nofs f,.inr<|Mt a.sz f,λx c e z=>?_,λp hp z=>?_⟩
 .obtain ⟨v,q⟩:=a.cell x c e;exact Tg (MF q.lt<|by rw[z];exact f)<|NF _
 .exact Tg (MF (Heap.lt_size (a.pin p hp).1)<|by rw[z];exact f) (NF _)
structure so (P:Td)(w:Mc)(K:L9)(tg:Tq)(J:It)(fp:U S9)(it:S9)(tn:Y->To->Prop):Prop where
 mem:it∈fp
 obj:∀i h,tn i h->∀b∈fp,∃o,h.get? b=O o/\∀v,o.data≠.cell v
 keep:∀i h h',tn i h->(∀b∈fp,∀o,h.get? b=O o->h'.get? b=O o)->tn i h'
 item:∀(X:Cx),X.prog=P->X.w=w->X.K=K->X.calm=L7->∀(i:Y) (pins:U (S9×Obj)) (s:L8) (σ:St) (H:Hp) (E:L->L8->Prop),Inv X pins σ H s->(∀b∈fp,jA X pins H b)->tn i s.heap->J.go i H ->
  Tc (Mb P w) X.A (NQ (.ref it)) (λr s1=>∃u,r=O u /\
   Tc (Mb P w) X.A (O3 tg (.ref it) u) (λ_ s2=>∃x H',Inv X pins σ H' s2/\RelV x u/\J.yld i H x H'/\tn (i+1) s2.heap/\∀b∈fp,H' b=L6) E s1) E s
 done:∀(X:Cx),X.prog=P->X.w=w->X.K=K->X.calm=L7->∀(i:Y) (pins:U (S9×Obj)) (s:L8) (σ:St) (H:Hp) (E:L->L8->Prop),Inv X pins σ H s->(∀b∈fp,jA X pins H b)->tn i s.heap->J.stop i H ->
  Tc (Mb P w) X.A (NQ (.ref it)) (λr s1=>r=L6/\Inv X pins σ H s1) E s
 self:∀(A:Mh) (i:Y) (s:L8) (Q:L->L8->Prop) (E:L->L8->Prop),tn i s.heap->Q (.ref it) s->Tc (Mb P w) A (pyIter (.ref it)) Q E s
abbrev TI:=St->Hp->(It->Hp->Prop)->Prop
def PIE (X:Cx)(c:U<|S9×Obj)(i:St)(h:Tq)(R:It->Hp->Prop)(e:L)(g:L8):Prop:=
 ∃(it:S9) (f:U S9) (tn:Y->To->Prop) (a:It) (d:Hp),e=.ref it/\Inv X c i d g/\so X.prog X.w X.K h a f it tn/\tn 0 g.heap/\(∀b∈f,jA X c d b)/\R a d
def PI (X:Cx)(d b:Tq)(e:TI):Prop:=
 ∀(a:U<|S9×Obj) (s:L8) (c:St) (H:Hp) (R:It->Hp->Prop),Inv X a c H s->e c H R ->
  Tc (Mb X.prog X.w) X.A (Tx b X.env) (λv s1=>Tc (Mb X.prog X.w) X.A (pyIter v) (PIE X a c d R) X.xe s1) X.xe s
theorem go_of {M:Ud}{A:Mh}{E:L->L8->Prop}{s:L8}{b:Tq}{it:S9}{u:L}{o:Obj}{n:Tu}{c:Tv L}{Q:Unit->L8->Prop}(ho:s.heap.get? it=O o)(d:o.cls=.type n)(e:o.data=.fields c)
  (f:["enumerate","zip","dict_itemiterator","dict_reverseitemiterator","odict_iterator","itertools.zip_longest","itertools.pairwise"].contains n=L5) (a:Q () s):Tc M A (O3 b (.ref it) u) Q E s:=by
 unfold O3
 cases b<;>first
  |exact Mf a
  | (cases u<;>first
    |exact Mf a
    | (refine Ma (wpAny_load ho ?_)
       rw[d,e];show Tc M A (if(["enumerate","zip","dict_itemiterator","dict_reverseitemiterator","odict_iterator","itertools.zip_longest","itertools.pairwise"].contains n&&c[0]?==O (Nk _))=L7 then _ else _) Q E s;rw[Ti<|by intro h;rw[f,Ox] at h;cases h];exact Mf a))
def Itl (K:L9)(a:S9):It:=
 ⟨λi H=>∃b x,SqL K H a b/\b[i]?=O x,λi H x c=>c=H/\∀b,SqL K H a b->b[i]?=O x,λi H=>∃b,SqL K H a b/\b.length<=i⟩
def Itt (K:L9)(a:S9):It:=
 ⟨λi H=>∃b x,SqT K H a b/\b[i]?=O x,λi H x c=>c=H/\∀b,SqT K H a b->b[i]?=O x,λi H=>∃b,SqT K H a b/\b.length<=i⟩
def Itr (lo:Int)(n:Y):It:=⟨λi _=>i<n,λi H x a=>a=H/\x=.int (lo+i),λi _=>n<=i⟩
theorem sk {P:Td}{w:Mc}{K:L9}{tg:Tq}(a it:S9):so P w K tg (Itl K a) [it] it (λi h=>h.IsListIter it a i) where
 mem:=by simp
 obj:=λi h g b l=>by
  have e:b=it:=by simpa using l
  subst e;obtain⟨o,e,c,d⟩:=g;exact⟨o,e,λv z=>by rw[d] at z;cases z⟩
 keep:=λi h n g k=>g.at λo e=>k it (by simp) o e
 item:=by intro X M Q G hc i j s σ H E f r g N;subst M Q G;obtain⟨xs,x,t,hx⟩:=N;obtain⟨Z,rv,p,hz⟩:=f.list t;obtain⟨u,hu,ru⟩:=rv.get hx;obtain⟨y,A,f2,B,D,F⟩:=r it (by simp);refine QC g p.isList (x:=u) (by simpa using hu) λn m sb=>?_;have I1:Inv X j σ H {s with heap:=n}:=f.turned (t':=s.toks) (λb o l e=>(sb.2 b l).trans e) y A B D F;obtain⟨o,e,c,d⟩:=id m;exact⟨u,rfl,go_of (s:={s with heap:=n}) e c d (by decide) ⟨x,H,I1,ru,⟨rfl,λys hy=>by rw[f.list_inj hy t];exact hx⟩,m,λb l=>(r b l).1⟩⟩
 done:=by intro X M Q G hc i j s σ H E f r g N;subst M Q G;obtain⟨xs,t,hx⟩:=N;obtain⟨Z,rv,p,hz⟩:=f.list t;obtain⟨y,A,f2,B,D,F⟩:=r it (by simp);have hl:=rv.length;exact T4 (f.ok.hd hc) g p.isList (by simp;lia) λn eb=>⟨rfl,f.turned (t':=s.toks) (λb o l e=>eb b o l e) y A B D F⟩
 self:=λ_ _ _ _ _ g h=>wpAny_pyIter_listiter g h
theorem nD {P:Td}{w:Mc}{K:L9}{tg:Tq}(a it:S9):so P w K tg (Itt K a) [it] it (λi h=>h.IsTupleIter it a i) where
 mem:=by simp
 obj:=λi h g b l=>by
  have e:b=it:=by simpa using l
  subst e;obtain⟨o,e,c,d⟩:=g;exact⟨o,e,λv z=>by rw[d] at z;cases z⟩
 keep:=λi h r g k=>g.at λo e=>k it (by simp) o e
 item:=by intro X N Z M hc i j s σ H E f t g Q;subst N Z M;obtain⟨xs,x,y,hx⟩:=Q;obtain⟨m,rv,p,hz⟩:=f.tuple y;obtain⟨u,hu,ru⟩:=rv.get hx;obtain⟨A,B,f2,D,F,G⟩:=t it (by simp);refine wpAny_pyNext_tuple_item g (show s.heap.IsTuple a m.toArray from p) (x:=u) (by simpa using hu) λr n sb=>?_;have I1:Inv X j σ H {s with heap:=r}:=f.turned (t':=s.toks) (λb o l e=>(sb.2 b l).trans e) A B D F G;obtain⟨o,e,c,d⟩:=id n;exact⟨u,rfl,go_of (s:={s with heap:=r}) e c d (by decide) ⟨x,H,I1,ru,⟨rfl,λys hy=>by rw[f.tuple_inj hy y];exact hx⟩,n,λb l=>(t b l).1⟩⟩
 done:=by intro X N Z M hc i j s σ H E f t g Q;subst N Z M;obtain⟨xs,y,hx⟩:=Q;obtain⟨m,rv,p,hz⟩:=f.tuple y;obtain⟨A,B,f2,D,F,G⟩:=t it (by simp);have hl:=rv.length;exact wpAny_pyNext_tuple_end (f.ok.hd hc) g (show s.heap.IsTuple a m.toArray from p) (by simp;lia) λr eb=>⟨rfl,f.turned (t':=s.toks) (λb o l e=>eb b o l e) A B D F G⟩
 self:=λ_ _ _ _ _ g h=>wpAny_pyIter_tupleiter g h
theorem oU {P:Td}{w:Mc}{K:L9}{tg:Tq}(it:S9)(lo:Int)(n:Y):so P w K tg (Itr lo n) [it] it (λi h=>IsRangeIter h it (lo+(i:Y) * 1) ((n:Int)-(i:Y)) 1) where
 mem:=by simp
 obj:=λi h c b f=>by
  have e:b=it:=by simpa using f
  subst e
  exact⟨_,c,λv z=>by
   have z':Data.fields _=Data.cell v:=z;cases z'⟩
 keep:=λi h j c k=>k it (by simp) _ c
 item:=by intro X A F y B i d s G H E a l c D;subst A F y;obtain⟨m,p,Q,r,u,x⟩:=l it (by simp);have W:=Walks.range (prog:=X.prog) (w:=X.w) (a.ok.hd B) it lo 1 n;refine W.item i s _ _ D c λv j tk Z g kk=>?_;obtain⟨t,rfl⟩:=Z;have M:Inv X d G H {s with heap:=j,toks:=tk}:=a.turned (λb o f e=>kk b o (by simpa using f) e) m p r u x;refine⟨_,rfl,go_of (s:={s with heap:=j,toks:=tk}) (n:="range_iterator") g rfl rfl (by decide) ⟨.int<|lo+i,H,M,⟨t,?_⟩,⟨rfl,rfl⟩,g,λb f=>(l b f).1⟩⟩;rw[Int.mul_one]
 done:=by intro X A F y B i d s G H E a l c D;subst A F y;obtain⟨m,p,Q,r,u,x⟩:=l it (by simp);exact wpAny_pyNext_range_end (a.ok.hd B) c (by have:n<=i:=D;lia) λj N=>⟨rfl,a.turned (t':=s.toks) (λb o f e=>N b o f e) m p r u x⟩
 self:=λ_ _ _ _ _ c h=>wpAny_pyIter_rangeiter c h
section
variable {X:Cx}{tg:Tq}
def BW (K:L9)(c:TE):TI:=λe H R=>c e H λx b=>∃a,x=.ref a/\(∃d,SqL K b a d)/\R (Itl K a) b
def HI (K:L9)(c:TE):TI:=λe H R=>c e H λx b=>∃a,x=.ref a/\(∃d,SqT K b a d)/\R (Itt K a) b
theorem qi {l:Tq}{g:TE}(k:PE X l g):PI X tg l (BW X.K g):=by
 intro d s u H R c h;refine thn (k d s u H _ c h) λv s1 ⟨x,i,f,t,r⟩=>?_;obtain⟨a,e,⟨z,m⟩,q⟩:=r;subst e;cases t;obtain⟨n,y,p,w⟩:=f.list m;refine NS p.isList ?_;refine⟨s1.heap.objs.size,[s1.heap.objs.size],_,_,i,rfl,f.kept (t':=s1.toks) λb o e=>Heap.get?_push_of_some _ e,sk a _,⟨_,Heap.get?_push_size _ rfl,rfl,rfl⟩,λb j=>?_,q⟩;have e:b=s1.heap.objs.size:=by simpa using j
 subst e;exact f.fpOk (Mi _)<|f.hok.fresh<|Mi _
theorem Ei {l:Tq}{i:TE}(m:PE X l i):PI X tg l (HI X.K i):=by
 intro d s u H R c h;refine thn (m d s u H _ c h) λv s1 ⟨x,j,f,t,r⟩=>?_;obtain⟨a,e,⟨z,n⟩,q⟩:=r;subst e;cases t;obtain⟨g,y,p,w⟩:=f.tuple n;refine Og (show s1.heap.IsTuple a g.toArray from p) ?_;refine⟨s1.heap.objs.size,[s1.heap.objs.size],_,_,j,rfl,f.kept (t':=s1.toks) λb o e=>Heap.get?_push_of_some _ e,nD a _,⟨_,Heap.get?_push_size _ rfl,rfl,rfl⟩,λb k=>?_,q⟩;have e:b=s1.heap.objs.size:=by simpa using k
 subst e;exact f.fpOk (Mi _)<|f.hok.fresh<|Mi _
theorem xb {d:U<|S9×Obj}{g:St}{H:Hp}{s:L8}{R:It->Hp->Prop}{E:L->L8->Prop}{lo c:Int}{t u v:Tok}{tk:Y}(a:Inv X d g H s)(h:-(2 ^ 62)<=lo)(i:lo<2 ^ 62)(j:-(2 ^ 62)<=c)(k:c<2 ^ 62)
  (q:R (Itr lo (c-lo).toNat) H):Tc (Mb X.prog X.w) X.A (pyIter<|.ref s.heap.objs.size) (PIE X d g tg R) E {s with heap:=s.heap.push {cls:=.type "range",data:=.fields #[.int lo t,.int c u,.int 1 v]},toks:=tk}:=by
 refine wpAny_pyIter_range (IsRange.new ..) (small_one h i j k) ?_;have f:Inv X d g H {s with heap:=s.heap.push {cls:=.type "range",data:=.fields #[.int lo t,.int c u,.int 1 v]},toks:=tk}:=a.kept λb o e=>Heap.get?_push_of_some _ e
 refine⟨(s.heap.push {cls:=.type "range",data:=.fields #[.int lo t,.int c u,.int 1 v]}).objs.size,[(s.heap.push {cls:=.type "range",data:=.fields #[.int lo t,.int c u,.int 1 v]}).objs.size],_,_,H,rfl,
  f.kept (t':=tk) λb o e=>Heap.get?_push_of_some _ e,oU _ lo (c-lo).toNat,?_,λb l=>?_,q⟩
 .have e1:lo+((0:Y):Int) * 1=lo:=by simp
  have e2:(((c-lo).toNat:Y):Int)-((0:Y):Int)=Builtin.Range.rangeSize lo c 1:=by rw[rangeSize_one];split<;>lia
  show IsRangeIter _ _ (lo+((0:Y):Int) * 1) ((((c-lo).toNat:Y):Int)-((0:Y):Int)) 1;rw[e1,e2];exact Heap.get?_push_size _ rfl
 .have e:b=(s.heap.push { cls:=.type "range",data:=.fields #[.int lo t,.int c u,.int 1 v] }).objs.size:=by simpa using l
  subst e;exact f.fpOk (Mi _)<|f.hok.fresh<|Mi _
def B9 (b:TA):TI:=λd H R=>b d H λc a=>∃j:Int,c=[.int j]/\-(2 ^ 62)<=j/\j<2 ^ 62/\R (Itr 0 j.toNat) a
theorem rX {a:Tq}{g:TA}{p d:Pos}(l:Gl X "range")(m:X.mg "range"=J)(k:PA X [a] g)(n:Me [a] X.env=[(L5,Tx a X.env)]:=by rfl):PI X tg (.Call (.Name "range" p) [a] [] d) (B9 g):=by
 intro c s w H R b h;refine Call_<|gk b l m boot_range<|Qr (thn (k d c s w H _ b h) λy s1 ⟨z,x,i,u,f⟩=>?_) n rfl;obtain⟨j,e,f,o,q⟩:=f;subst e;cases u with
 |cons r v=>cases v;obtain⟨t,rfl⟩:=r;exact call_range_1<|xb i (by lia) (by lia) f o<|by simpa using q
def Jp (l:TI)(g:TG)(k:TS):TS:=λD b H=>l b H λa h=>∃W:Y->Y->St->Hp->Prop,(∃m,W 0 m b h)/\∀i m b H,W i m b H ->
 (a.stop i H/\D.nx b H)\/(a.go i H/\∃N:St->Hp->Prop,(∀d c,N d c->∃f,f<m/\W (i+1) f d c)/\∀x c,a.yld i H x c->g x b c λe j=>k {D with nx:=N,ct:=N,bk:=D.nx} e j)
noncomputable def il (a:U S9)(h:To):U (S9×Obj):=a.filterMap λb=>(h.get? b).map λo=>(b,o)
theorem cp {a:U S9}{h:To}{b:S9}{o:Obj}(c:b∈a)(e:h.get? b=O o):(b,o)∈il a h:=Pn.mpr ⟨b,c,by rw[e];rfl⟩
theorem rM {a:U S9}{h:To}{p:S9×Obj}(hp:p∈il a h):p.1∈a/\h.get? p.1=O p.2:=by
 obtain⟨b,d,e⟩:=Pn.mp hp;cases q:h.get? b with
 |none=>rw[q] at e;cases e
 |some o=>rw[q] at e;have c:(b,o)=p:=MY e;subst c;exact⟨d,q⟩
theorem Inv.pinned {c:U<|S9×Obj}{i:St}{H:Hp}{s:L8}{f:U S9}(a:Inv X c i H s)(m:∀b∈f,jA X c H b)(ho:∀b∈f,∃o,s.heap.get? b=O o/\∀v,o.data≠.cell v):Inv X (c++il f s.heap) i H s:=
 a.pins_of λp hp=>(OR.mp hp).elim (λz=>a.pin p<|MN _ z) λz=>by obtain⟨h,e⟩:=rM z;obtain⟨j,k,l,_⟩:=m p.1 h;obtain⟨o,g,d⟩:=ho p.1 h;rw[e] at g;cases g;exact⟨e,j,k,l,d⟩
theorem Inv.unpinned {b d:U<|S9×Obj}{c:St}{H:Hp}{s:L8}(a:Inv X (b++d) c H s):Inv X b c H s:=a.pins_of λp hp=>a.pin p<|MN _<|OP _ hp
theorem oP {y:Tq}{M:U Tz}{wi:TI}{g:TG}{tb:TS}{pos:Pos}(hp:PassesOwn (Mb X.prog X.w) X.A X.env X.xe)(hc:X.calm=L7)(hi:PI X tg y wi)(hg:PG X tg g)(t:PSs X M tb)
  (hs:∀x,Nb y X.env x=pure x:=by intro _;rfl):PS X (.For tg y M [] pos) (Jp wi g tb):=by
 intro j s σ H D a h;refine wpAny_For (thn (hi j s σ H _ a h) λv s1 h1=>thn h1 λitv s2 h2=>?_) hs;obtain⟨it,Z,tn,c,H2,e,I2,T,st2,f2,W,⟨m0,w0⟩,turn⟩:=h2;subst e
 -- what stays L7 of the iterator's objects through the loop
 have z:∀{G:Hp},(∀b∈Z,G b=J)->∀b∈Z,jA X j G b:=λhn b t=>⟨hn b t,(f2 b t).2⟩;refine codeAny_forLoop_any (λn s'=>∃i B G,Inv X j B G s'/\tn i s'.heap/\(∀b∈Z,G b=J)/\W i n B G) ?_ m0 ⟨0,σ,H2,I2,st2,λb t=>(f2 b t).1,w0⟩;rintro n s3 ⟨i,F,H3,I3,st3,fr3,w3⟩;rcases turn i n F H3 w3 with⟨stop,qn⟩|⟨go,N,hN,step⟩
 .refine Pz hp (thn (T.done X rfl rfl rfl hc i j s3 F H3 X.xe I3 (z fr3) st3 stop) fun r s4 ⟨hr,I4⟩=>?_);subst hr;exact P8 ⟨F,H3,I4,qn⟩
 .refine Pz hp (thn (T.item X rfl rfl rfl hc i j s3 F H3 X.xe I3 (z fr3) st3 go) fun r s4 ⟨u,hr,h4⟩=>?_);subst hr;refine Pz hp (thn h4 λ_ s5 ⟨x,H5,I5,r5,y5,Q,fr5⟩=>?_);have I5':=I5.pinned (z fr5) (T.obj _ _ Q);refine Pz hp (thn (hg _ s5 F H5 x u _ I5' r5 (step x H5 y5)) λ_ s6 ⟨σ6,H6,I6,q6⟩=>?_);refine Pz hp (thn (t _ s6 σ6 H6 _ I6 q6) λf s7 P=>?_);have again:∀{k:St} {l:Hp},Inv X (j++il Z s5.heap) k l s7->N k l->∃m,m<n/\∃i B G,Inv X j B G s7/\tn i s7.heap/\(∀b∈Z,G b=J)/\W i m B G:=λ{k l} p n7=>by obtain⟨m',hm,w7⟩:=hN k l n7;refine⟨m',hm,i+1,k,l,p.unpinned,T.keep _ _ _ Q λb t o e=>(p.pin (b,o) (MN _ (MN _ (cp t e)))).1,λb t=>?_,w7⟩;obtain⟨o,e,d⟩:=T.obj _ _ Q b t;exact(p.pin (b,o) (MN _ (MN _ (cp t e)))).2.1
  cases f with
  |next=>obtain⟨k,l,p,n7⟩:=P;exact again p n7
  |cont=>obtain⟨k,l,p,n7⟩:=P;exact again p n7
  |brk=>obtain⟨k,l,p,P⟩:=P;exact⟨k,l,p.unpinned,P⟩
  |ret v=>obtain⟨x7,k,l,p,r7,P⟩:=P;exact⟨x7,k,l,p.unpinned,r7,P⟩
end
theorem t6 {K:L9}{a:S9}{xs:U V}{g:TG}{n:TS}{D:cx}{b:St}{H:Hp}(c:Y->St->Hp->Prop)(o:c 0 b H)(t:∀i b H,i<=xs.length->c i b H->SqL K H a xs)
  (u:∀i x b H,xs[i]?=O x->c i b H->g x b H λh k=>n {D with nx:=c<|i+1,ct:=c<|i+1,bk:=D.nx} h k) (r:∀b H,c xs.length b H->D.nx b H):
  ∃W:Y->Y->St->Hp->Prop,(∃m,W 0 m b H)/\∀i m b H,W i m b H ->
   ((Itl K a).stop i H/\D.nx b H)\/((Itl K a).go i H/\∃N:St->Hp->Prop,(∀f d,N f d->∃l,l<m/\W (i+1) l f d)/\∀x d,(Itl K a).yld i H x d->g x b d λh k=>n {D with nx:=N,ct:=N,bk:=D.nx} h k):=by
 refine⟨λi m b H=>m=xs.length-i/\i<=xs.length/\c i b H,⟨xs.length,by simp,MH _,o⟩,?_⟩;rintro i m b H ⟨rfl,s,p⟩;have q:=t i b H s p;by_cases j:i<xs.length
 .refine .inr ⟨⟨xs,xs[i],q,by simp [j]⟩,c<|i+1,fun f d v=>⟨xs.length-(i+1),by lia,rfl,j,v⟩,fun x d y=>?_⟩;obtain⟨e,y⟩:=y;subst e;exact u i x b _ (y xs q) p
 .have e:i=xs.length:=by lia
  subst e;exact .inl ⟨⟨xs,q,Mi _⟩,r b H p⟩
abbrev R2:=V->V->Hp->VK->Prop
def OpR (X:Cx)(f:L->L->Sem L)(r:R2):Prop:=
 ∀(a:U<|S9×Obj) (s:L8) (b:St) (H:Hp) (x y:V) (v u:L) (Q:VK),Inv X a b H s->RelV x v->RelV y u->r x y H Q ->
  Tc (Mb X.prog X.w) X.A (f v u) (EP X a b Q) X.xe s
def UnR (X:Cx)(f:L->Sem L)(r:V->Hp->VK->Prop):Prop:=
 ∀(a:U<|S9×Obj) (s:L8) (b:St) (H:Hp) (x:V) (v:L) (Q:VK),Inv X a b H s->RelV x v->r x H Q ->
  Tc (Mb X.prog X.w) X.A (f v) (EP X a b Q) X.xe s
def bW (X:Cx)(f:L)(r:U V->Hp->VK->Prop):Prop:=
 ∀(a:U<|S9×Obj) (s:L8) (d:St) (H:Hp) (c:U V) (b:U L) (Q:VK),Inv X a d H s->Vals c b->r c H Q ->
  Tc (Mb X.prog X.w) X.A (call f b) (EP X a d Q) X.xe s
def Kt (X:Cx)(r:V->Hp->(Ta->Hp->Prop)->Prop):Prop:=
 ∀(a:U<|S9×Obj) (s:L8) (b:St) (H:Hp) (x:V) (v:L) (Q:Ta->Hp->Prop),Inv X a b H s->RelV x v->r x H Q ->
  Tc (Mb X.prog X.w) X.A (truthy v) (TP X a b Q) X.xe s
noncomputable def tOp (r:R2)(d e:TE):TE:=λa H Q=>d a H λx b=>e a b λy c=>r x y c Q
def tUn (r:V->Hp->VK->Prop)(b:TE):TE:=λc H Q=>b c H λx a=>r x a Q
def rI (C:Int->Int->Prop)(g:Int->Int->V):R2:=λx y H Q=>∃i j,x=.int i/\y=.int j/\C i j/\Q (g i j) H
noncomputable def rI0 (g:Int->Int->V):R2:=λx y H Q=>∃i j,x=.int i/\y=.int j/\Q (g i j) H
def rU (g:Int->V):V->Hp->VK->Prop:=λx H Q=>∃i,x=.int i/\Q (g i) H
section
variable {X:Cx}{a b c:Tq}{ta tb tc:TE}{pos:Pos}
theorem ET (p:PE X a ta)(r:PE X b tb){e:U<|S9×Obj}{s:L8}{i:St}{H:Hp}{R:V->V->Hp->Prop}(d:Inv X e i H s)
  (h:ta i H λx m=>tb i m λy g=>R x y g) {Q:L->L8->Prop} {f:L->L->Sem L}
  (t:∀v u l x y g,Inv X e i g l->RelV x v->RelV y u->R x y g->Tc (Mb X.prog X.w) X.A (f v u) Q X.xe l):
  Tc (Mb X.prog X.w) X.A (Tx a X.env) (λv j=>Tc (Mb X.prog X.w) X.A (Tx b X.env) (λu k=>Tc (Mb X.prog X.w) X.A (f v u) Q X.xe k) X.xe j) X.xe s:=by
 refine thn (p e s i H _ d h) λv s1 ⟨x,m,n,D,z⟩=>?_;refine thn (r e s1 i m _ n z) λu l ⟨y,g,o,F,B⟩=>?_;exact t v u l x y g o D F B
theorem ek {op:Operator}{r:R2}(ho:OpR X (M6 op) r)(i:PE X a ta)(j:PE X b tb):PE X (.BinOp a op b pos) (tOp r ta tb):=by intro e s n H Q d h;exact wpAny_BinOp<|ET i j d h λv u m x y f g k l q=>ho e m n f x y v u Q g k l q
theorem JU {op:UnaryOp}{r:V->Hp->VK->Prop}(ho:UnR X (unaryOp op) r)(j:PE X a ta):PE X (.UnaryOp op a pos) (tUn r ta):=by intro e s f H Q d h;exact UnaryOp_<|thn (j e s f H _ d h) λv s1 ⟨x,g,i,l,k⟩=>ho e s1 f g x v Q i l k
theorem opI {f:L->L->Sem L}{C:Int->Int->Prop}{g:Int->Int->Int}
  (rule:∀(i j:Int) (t u:Tok) (s:L8) (Q:L->L8->Prop) (E:L->L8->Prop),C i j->Q (.int (g i j) s.toks) {s with toks:=s.toks+1}->Tc (Mb X.prog X.w) X.A (f (.int i t)<|.int j u) Q E s):
  OpR X f (rI C λi j=>.int<|g i j):=by
 intro e s o H x y v u Q d l m h;obtain⟨i,j,rfl,rfl,k,q⟩:=h;obtain⟨t,rfl⟩:=l;obtain⟨n,rfl⟩:=m;exact rule i j t n s _ _ k ⟨.int<|g i j,H,d.tok _,⟨_,rfl⟩,q⟩
theorem HF {f:L->L->Sem L}{g:Int->Int->Int}
  (rule:∀(i j:Int) (t u:Tok) (s:L8) (Q:L->L8->Prop) (E:L->L8->Prop),Q (.int (g i j) s.toks) {s with toks:=s.toks+1}->Tc (Mb X.prog X.w) X.A (f (.int i t)<|.int j u) Q E s):
  OpR X f (rI0 λi j=>.int<|g i j):=by
 intro e s n H x y v u Q d k l h;obtain⟨i,j,rfl,rfl,q⟩:=h;obtain⟨t,rfl⟩:=k;obtain⟨m,rfl⟩:=l;exact rule i j t m s _ _ ⟨.int<|g i j,H,d.tok _,⟨_,rfl⟩,q⟩
theorem BE {f:L->L->Sem L}{g:Int->Int->Ta}
  (rule:∀(i j:Int) (t u:Tok) (s:L8) (Q:L->L8->Prop) (E:L->L8->Prop),Q (.bool<|g i j) s->Tc (Mb X.prog X.w) X.A (f (.int i t)<|.int j u) Q E s):
  OpR X f (rI0 λi j=>.bl<|g i j):=by
 intro e s n H x y v u Q d k l h;obtain⟨i,j,rfl,rfl,q⟩:=h;obtain⟨t,rfl⟩:=k;obtain⟨m,rfl⟩:=l;exact rule i j t m s _ _ ⟨.bl<|g i j,H,d,rfl,q⟩
def Fw (i j:Int):Prop:=0<j/\j<1073741824
def Fg (i j:Int):Prop:=0<=j/\j<=1000000/\i.natAbs<2 ^ 64
def CMul (i j:Int):Prop:=(-(2 ^ 64)<i/\i<2 ^ 64)\/(-(2 ^ 64)<j/\j<2 ^ 64)
theorem CMul.ok {i j:Int}(h:CMul i j):IntMulOk i j:=by
 rcases h with⟨d,e⟩|⟨d,e⟩
 .exact .of_left (intBits_le_64 d e)
 .exact .of_right (intBits_le_64 d e)
theorem op_add:OpR X (M6 .Add) (rI0 λi j=>.int<|i+j):=HF λ_ _ _ _ _ _ _ q=>add_int q
theorem FD:OpR X (M6 .Sub) (rI0 λi j=>.int<|i-j):=HF λ_ _ _ _ _ _ _ q=>sub_int q
theorem op_mul:OpR X (M6 .Mult) (rI CMul λi j=>.int<|i * j):=opI λ_ _ _ _ _ _ _ d q=>mul_int q d.ok
theorem zx:OpR X (M6 .FloorDiv) (rI Fw λi j=>.int<|i / j):=opI λi j _ _ _ _ _ d q=>by have e:(0:Int)<j:=d.1;have f:j<1073741824:=d.2;exact floordiv_int (by lia) (by rw[Int.fdiv_eq_ediv_of_nonneg i<|by lia];exact q)<|.inl<|PyProof.noPylong_small<|by lia
theorem FW:OpR X (M6 .Mod) (rI (λ_ j=>0<j) λi j=>.int<|i % j):=opI λi j _ _ _ _ _ d q=>by have e:(0:Int)<j:=d;exact mod_int' (by lia)<|by rw[Int.fmod_eq_emod_of_nonneg i<|by lia];exact q
theorem zB:OpR X (M6 .Mod) (rI (λ_ j=>j≠0) λi j=>.int<|i.fmod j):=opI λ_ _ _ _ _ _ _ d q=>mod_int' d q
theorem Hl:OpR X (M6 .Pow) (rI Fg λi j=>.int<|i ^ j.toNat):=opI λ_ _ _ _ _ _ _ d q=>pow_int_small d.1 d.2.1 d.2.2 q
theorem unI {f:L->Sem L}{g:Int->Int}
  (rule:∀(i:Int) (t:Tok) (s:L8) (Q:L->L8->Prop) (E:L->L8->Prop),Q (.int (g i) s.toks) {s with toks:=s.toks+1}->Tc (Mb X.prog X.w) X.A (f<|.int i t) Q E s):
  UnR X f (rU λi=>.int<|g i):=by
 intro e s k H x v Q d j h;obtain⟨i,rfl,q⟩:=h;obtain⟨t,rfl⟩:=j;exact rule i t s _ _ ⟨.int<|g i,H,d.tok _,⟨_,rfl⟩,q⟩
theorem D7:UnR X (unaryOp .USub) (rU λi=>.int (-i)):=unI λ_ _ _ _ _ q=>neg_int q
end
section
variable {X:Cx}{a b c:Tq}{ta tb tc:TE}{pos:Pos}
theorem wQ {f:U<|S9×Obj}{h:St}{H:Hp}{s:L8}{Q:VK}{k g:Ta}(d:Inv X f h H s)(q:Q (.bl k) H)(e:k=g):EP X f h Q (.bool g) s:=by subst e;exact⟨.bl k,H,d,rfl,q⟩
theorem pV:OpR X (M7 .Lt) (rI0 λi j=>.bl<|decide (i<j)):=BE λ_ _ _ _ _ _ _ q=>lt_int q
theorem mG:OpR X (M7 .LtE) (rI0 λi j=>.bl<|decide (i<=j)):=BE λ_ _ _ _ _ _ _ q=>le_int q
theorem Iw:OpR X (M7 .Gt) (rI0 λi j=>.bl<|decide (j<i)):=BE λ_ _ _ _ _ _ _ q=>gt_int q
theorem Co:OpR X (M7 .GtE) (rI0 λi j=>.bl<|decide (j<=i)):=BE λ_ _ _ _ _ _ _ q=>ge_int q
theorem uG:OpR X (M7 .Is) (λx y H Q=>y=.non/\Q (.bl<|decide (x=.non)) H):=by
 intro e s i H x y v u Q d f g h;obtain⟨rfl,q⟩:=h;cases g;refine is_none_gen<|wQ d q ?_
 cases x<;>first
  |(cases f;rfl)
  |(obtain⟨t,rfl⟩:=f;rfl)
theorem Bv:OpR X (M7 .IsNot) (λx y H Q=>y=.non/\Q (.bl<|!decide (x=.non)) H):=by
 intro e s i H x y v u Q d f g h;obtain⟨rfl,q⟩:=h;cases g;refine isnot_none_gen<|wQ d q ?_
 cases x<;>first
  |(cases f;rfl)
  |(obtain⟨t,rfl⟩:=f;rfl)
theorem OpR.or {f:L->L->Sem L}{r g:R2}(h:OpR X f r)(l:OpR X f g):OpR X f (λx y H Q=>r x y H Q\/g x y H Q):=by
 intro e s k H x y v u Q d i j q;rcases q with q|q
 .exact h e s k H x y v u Q d i j q
 .exact l e s k H x y v u Q d i j q
theorem b9 (b:Tq){op:CmpOp}(h:op≠.In:=by decide)(d:op≠.NotIn:=by decide):OF op b=false:=by
 have e1:(op==CmpOp.In)=false:=by cases op<;>first|rfl|exact Tg rfl h
 have e2:(op==CmpOp.NotIn)=false:=by cases op<;>first|rfl|exact Tg rfl d
 cases b<;>simp[OF,e1,e2]
theorem eJ {op:CmpOp}{r:R2}(ho:OpR X (M7 op) r)(i:PE X a ta)(j:PE X b tb)(k:OF op b=L5):PE X (.Compare a [op] [b] pos) (tOp r ta tb):=by intro e s o H Q d h;exact wpAny_Compare1 (ET i j d h λv u n x y f g l m q=>ho e n o f x y v u Q g l m q) k
def u5 (t:TE):TT:=λe H Q=>t e H λx d=>∃k,x=.bl k/\Q k d
theorem pC {op:CmpOp}{r:R2}(ho:OpR X (M7 op) r)(p:PE X a ta)(t:PE X b tb)(w:OF op b=L5):PT X (.Compare a [op] [b] pos) (u5<|tOp r ta tb):=by
 intro f s g H Q d h
 refine wpAny_isTrue_Compare1 (thn (p f s g H _ d h) λv s1 ⟨x,i,m,F,A⟩=>thn (t f s1 g i _ m A) λu N ⟨y,j,n,G,B⟩=>
  thn (ho f N g j x y v u _ n F G B) λc P ⟨z,l,o,M,k,e,D⟩=>?_) w
 subst e;cases M;exact O4 ⟨l,o,D⟩
noncomputable def vw (r i:R2)(ta tb tc:TE):TE:=λd H Q=>ta d H λx f=>tb d f λy g=>r x y g λz e=>∃k,z=.bl k /\
 (if k=L7 then tc d e λj h=>i y j h Q else Q (.bl L5) e)
theorem mB {op i:CmpOp}{r p:R2}(ho:OpR X (M7 op) r)(l:OpR X (M7 i) p)(Z:PE X a ta)(hb:PE X b tb)(hc:PE X c tc)
  (hm:lastMarks [op,i] [b,c]=false:=by with_unfolding_all rfl):PT X (.Compare a [op,i] [b,c] pos) (u5<|vw r p ta tb tc):=by
 intro g s j H Q f h
 refine isTrue_chain (thn (Z g s j H _ f h) λv s1 ⟨x,w,F,r1,q1⟩=>test_link (thn (hb g s1 j w _ F q1) λu s2 ⟨y,A,G,t,q2⟩=>
  thn (ho g s2 j A x y v u _ G r1 t q2) λd s3 ⟨z,m,n,r3,k,e,o⟩=>?_)) hm
 subst e;cases r3;refine O4 ?_;cases k with
 |false=>obtain⟨k',P,q'⟩:=o;cases P;exact ite_ff ⟨m,n,q'⟩
 |true=>refine ite_tt<|test_last<|thn (hc g s3 j m _ n o) λw' s4 ⟨z',B,M,r4,q4⟩=>thn (l g s4 j B y z' u w' _ M t r4 q4) λd' s5 ⟨z2,D,N,r5,k2,e2,q5⟩=>?_;subst e2;cases r5;exact O4 ⟨D,N,q5⟩
def xV (K:L9)(x:V)(H:Hp)(k:Ta):Prop:=
 match x with
 |.non=>k=L5
 |.bl b=>k=b
 |.int i=>k=(i != 0)
 |.str y=>y.length<=sizeLine/\k=((y.length:Int) != 0)
 |.byt y=>y.size<=sizeLine/\k=((y.size:Int) != 0)
 |.ref p=>(∃e,SqL K H p e/\k=!e.isEmpty)\/(∃e,SqT K H p e/\k=!e.isEmpty)\/∃d,H p=O (.dK d)/\k=!d.isEmpty
 |_=>Tw
theorem nL {f:Type}{d:U<|f×V}{e:U<|f×L}(r:KV d e):(!e.isEmpty)=!d.isEmpty:=by cases r<;>rfl
theorem i3 {e:U V}{d:U L}(r:Vals e d):(!d.toArray.isEmpty)=!e.isEmpty:=by cases r<;>simp
theorem jd:(sizeLine:Y)<2 ^ 63:=by rw[NA];decide
theorem oC:Kt X (λx H Q=>∃k,xV X.K x H k/\Q k H):=by
 intro B s N H x v Q d n h;obtain⟨k,e,q⟩:=h;have G:=jd;have M:sizeLine=16777216:=NA;cases x with
 |non=>cases n;have f:k=false:=e;subst f;exact truthy_none ⟨H,d,q⟩
 |bl b=>cases n;have f:k=b:=e;subst f;exact O4 ⟨H,d,q⟩
 |int i=>obtain⟨t,rfl⟩:=n;have f:k=(i != 0):=e;subst f;exact PySem.P.truthy_int ⟨H,d,q⟩
 |str y=>obtain⟨t,rfl⟩:=n;obtain⟨F,f⟩:y.length<=sizeLine/\k=((y.length:Int) != 0):=e;subst f;exact PySem.P.truthy_str (by lia) ⟨H,d.tok _,q⟩
 |byt y=>obtain⟨t,rfl⟩:=n;obtain⟨F,f⟩:y.size<=sizeLine/\k=((y.size:Int) != 0):=e;subst f;exact PySem.W.truthy_bytes (by lia) ⟨H,d.tok _,q⟩
 | ref p =>
  cases n;have f:(∃l,SqL X.K H p l/\k=!l.isEmpty)\/(∃l,SqT X.K H p l/\k=!l.isEmpty)\/∃g,H p=O (.dK g)/\k=!g.isEmpty:=e;rcases f with⟨l,hx,f⟩|⟨l,hx,f⟩|⟨g,hx,f⟩
  .subst f;obtain⟨u,r,z,A⟩:=d.list hx;have j:=r.length;exact wpAny_truthy_list z.isList (by simp only[Mx];lia) ⟨H,d.tok _,by rw[i3 r];exact q⟩
  .subst f;obtain⟨u,r,z,A⟩:=d.tuple hx;have j:=r.length;exact truthy_tuple z (by simp only[Mx];lia) ⟨H,d.tok _,by rw[i3 r];exact q⟩
  .subst f;obtain⟨A,D,o,r,m⟩:g.length<=sizeLine/\(p==Ni)=L5/\∃o,KV g o/\s.heap.DictOf (bc X.prog X.w) p o:=d.hok p _ hx;have j:g.length=o.length:=Paired.length r;exact wpAny_truthy_dict D m (by lia) ⟨H,d.tok _,by rw[nL r];exact q⟩
 |_=>exact(show Tw from e).elim
theorem uZ (m:PE X a ta)(n:∀e,Uq a X.env e=(do let v <- e;standAt a.pos;holding [v] (truthy v))):
  PT X a (λg H Q=>ta g H λx i=>∃k,xV X.K x i k/\Q k i):=by
 intro f s g H Q d h;exact isTrue_plain (thn (m f s g H _ d h) λv s1 ⟨x,j,l,p,o⟩=>oC f s1 g j x v Q l p o)<|n _
theorem op_add_str:OpR X (M6 .Add) (λx y H Q=>∃i j,x=.str i/\y=.str j/\i.length+j.length<=sizeLine/\Q (.str<|i++j) H):=by intro e s m H x y v u Q d g k h;obtain⟨i,j,rfl,rfl,f,q⟩:=h;obtain⟨t,rfl⟩:=g;obtain⟨l,rfl⟩:=k;exact add_str (λl tk=>⟨.str<|i++j,H,d.tok _,⟨_,rfl⟩,q⟩) f
theorem cU {x:V}{d:U L}(r:Vals [x] d):∃u,d=[u]/\RelV x u:=by
 cases r with
 |cons e f=>cases f;exact⟨_,rfl,e⟩
theorem mh {x y:V}{d:U L}(r:Vals [x,y] d):∃u e,d=[u,e]/\RelV x u/\RelV y e:=by
 cases r with
 |cons f g=>
  cases g with
  |cons h i=>cases i;exact⟨_,_,rfl,f,h⟩
theorem w5:bW X (.builtin "abs") (λf H Q=>∃i,f=[.int i]/\Q (.int<|if i<0 then -i else i) H):=by intro e s j H f g Q d r h;obtain⟨i,rfl,q⟩:=h;obtain⟨u,rfl,t,rfl⟩:=cU r;exact call_abs_int λu tk=>⟨.int<|if i<0 then -i else i,H,d.tok _,⟨_,rfl⟩,q⟩
theorem tD (l:X.calm=L7):bW X (.builtin "max") (λg H Q=>∃i j,g=[.int i,.int j]/\Q (.int<|if j>i then j else i) H):=by
 intro f s v H g o Q d r h;obtain⟨i,j,rfl,q⟩:=h;obtain⟨u,p,rfl,⟨t,rfl⟩,⟨n,rfl⟩⟩:=mh r;refine max_two_ints (d.ok.hd l) λm tk k=>⟨_,H,d.kept k,?_,q⟩;by_cases e:j>i
 .rw[Tf e,Tf e];exact⟨_,rfl⟩
 .rw[Ti e,Ti e];exact⟨_,rfl⟩
theorem rh (l:X.calm=L7):bW X (.builtin "min") (λg H Q=>∃i j,g=[.int i,.int j]/\Q (.int<|if j<i then j else i) H):=by
 intro f s v H g o Q d r h;obtain⟨i,j,rfl,q⟩:=h;obtain⟨u,p,rfl,⟨t,rfl⟩,⟨n,rfl⟩⟩:=mh r;refine min_two_ints (d.ok.hd l) λm tk k=>⟨_,H,d.kept k,?_,q⟩;by_cases e:j<i
 .rw[Tf e,Tf e];exact⟨_,rfl⟩
 .rw[Ti e,Ti e];exact⟨_,rfl⟩
theorem ri:bW X (.type "int") (λe H Q=>(∃i,e=[.int i]/\Q (.int i) H)\/∃k,e=[.bl k]/\Q (.int<|if k then 1 else 0) H):=by
 intro f s l H e j Q d r h;rcases h with⟨i,rfl,q⟩|⟨k,rfl,q⟩
 .obtain ⟨u,rfl,t,rfl⟩:=cU r;exact call_int_int ⟨.int i,H,d,⟨_,rfl⟩,q⟩
 .obtain ⟨u,rfl,g⟩:=cU r;cases g;exact call_int_bool ⟨.int<|if k then 1 else 0,H,d.tok _,⟨_,rfl⟩,q⟩
def Kd (K:L9)(x:V)(H:Hp)(n:Y):Prop:=
 match x with
 |.str y=>y.length<=sizeLine/\n=y.length
 |.byt y=>y.size<=sizeLine/\n=y.size
 |.ref p=>(∃d,SqL K H p d/\n=d.length)\/∃d,SqT K H p d/\n=d.length
 |_=>Tw
theorem yc:bW X (.builtin "len") (λf H Q=>∃x n,f=[x]/\Kd X.K x H n/\Q (.int n) H):=by
 intro o s D H f B Q d r h;obtain⟨x,n,rfl,e,q⟩:=h;obtain⟨u,rfl,m⟩:=cU r;have z:=jd;have A:sizeLine=16777216:=NA;cases x with
 |str y=>obtain⟨t,rfl⟩:=m;obtain⟨v,i⟩:y.length<=sizeLine/\n=y.length:=e;subst i;exact len_str (by lia) ⟨.int _,H,d.tok _,⟨_,rfl⟩,q⟩
 |byt y=>obtain⟨t,rfl⟩:=m;obtain⟨v,i⟩:y.size<=sizeLine/\n=y.size:=e;subst i;exact PySem.W.len_bytes (by lia) ⟨.int _,H,d.tok _,⟨_,rfl⟩,q⟩
 | ref p =>
  cases m;have i:(∃f,SqL X.K H p f/\n=f.length)\/∃f,SqT X.K H p f/\n=f.length:=e;rcases i with⟨f,hx,i⟩|⟨f,hx,i⟩
  .subst i;obtain⟨j,l,k,w⟩:=d.list hx;have g:=l.length;exact Calls.call_len_list k.isList (by simp only[Mx];lia) ⟨.int f.length,H,d.tok _,⟨_,by simp only[Mx];rw[g]⟩,q⟩
  .subst i;obtain⟨j,l,k,w⟩:=d.tuple hx;have g:=l.length;exact len_tuple k (by simp only[Mx];lia) ⟨.int f.length,H,d.tok _,⟨_,by simp only[Mx];rw[g]⟩,q⟩
 |_=>exact(show Tw from e).elim
end
structure ObjM (h:To)(x dx C:S9)(mA:Str->I L):Prop where
 obj:h.get? x=O (Oq C dx)
 ns:h.Ns1 dx mA
 ne:dx≠x
theorem gc {h:To}{d:S9}{g:Str->I L}(n:h.Ns1 d g):∃i,h.get? d=O i/\∀b,QK b i=O (g b):=by
 obtain⟨o,f,ep,ho,k,hk,_,l⟩:=n;refine⟨o,ho,λb=>?_⟩;have e:=l b;unfold nsFind findBy at e;rw[<- Rl] at e;unfold QK;rw[k];dsimp only;split
 .rename_i y q;rw[q] at e;exact Tn O e
 .rename_i q;rw[q] at e;have a:f.toList.any (·.refKey)=false:=by rw[List.any_eq_false];intro y m;obtain⟨z,t,c⟩:=hk y (Array.mem_toList_iff.mp m);simp[DictEntry.refKey,c]
  have j:¬f.toList.any (·.refKey)=true:=by rw[a];exact MJ
  rw[Ti j];exact Tn O e
theorem ObjM.look {h:To}{x d C:S9}{e:Str->I L}(a:ObjM h x d C e):∃c,Pe h x (Oq C d) C (O c)/\∀b,QK b c=O (e b):=
 let ⟨c,ho,f⟩:=gc a.ns
 ⟨c,⟨a.obj,rfl,rfl,ho⟩,f⟩
section
variable {prog:Td}{w:Mc}{A:Mh}{E:L->L8->Prop}{s:L8}{K:L9}{x dx C f:S9}{mA:Str->I L}{name:Str}{v:L}
theorem zg {c:Ta}{Q:L->L8->Prop}(X:K.In s.heap)(a:ObjM s.heap x dx C mA)(g:Ru K C name=L7)(i:N3 K C=L7)
  (e:MB K (.ref C) name=O J) (k:mA name=O v) (d:Rt v=L7) (h:Q v {s with toks:=s.toks+1}):
  Tc (Mb prog w) A (Up (.ref x) name c) Q E s:=by
 obtain⟨l,b,j⟩:=a.look;exact PySem.W.get_value X b (PySem.W.plainGet_of g).1 (Sr i e rfl (by rw[j,k])) d h
theorem yJ {n:U Str}{Q:Unit->L8->Prop}(X:K.In s.heap)(c:ObjM s.heap x dx C mA)
  (z:MB K (.ref C) "__setattr__"=O (O<|.builtin "object.__setattr__")) (hp:Se K C=L7) (D:NH K C name=O J) (u:N3 K C=L7)
  (F:PL mA n) (B:n.length<=sizeLine)
  (h:∀i,ObjM i x dx C (λy=>if y=name then O v else mA y)->Heap.SameBut dx s.heap i->Q () {s with heap:=i,toks:=s.toks+2}):
  Tc (Mb prog w) A (Ue (.ref x) name v) Q E s:=by
 obtain⟨N,d,H⟩:=c.look;refine Rg X d z<|PySem.W.osa_open (s:={s with toks:=s.toks+1}) (r:=J) X d hp D λb=>?_;obtain⟨G,t,k⟩:=Ph u;have hx:s.heap.get? x=O ⟨.ref C,O dx,.plain,#[]⟩:=c.obj;refine Ma<|Mf<|Ma<|Ma<|T5 hx<|Ma<|Nf (s:={s with toks:=s.toks+1}) (PR X t) ?_;rw[k];refine Mf (a:=O dx)<|Ma<|Mf<|Ma ?_;refine Ug (s:={s with toks:=s.toks+1}) c.ns λi e g=>?_;obtain⟨M,p,o,m,l,j⟩:=e.count<|Rf name v F;refine Ma<|Qy m (by rw[l];exact Qx<|Mt j<|by rw[Mw];lia) ?_;exact Mf<|h _ ⟨(g.2 _<|MI c.ne).trans c.obj,e,c.ne⟩ g
theorem uy {R:Result->L8->Prop}{c:U L}{b:U<|Str×L}(X:K.In s.heap)(j:RM K C=L7)
  (i:MB K (.ref C) "__init__"=O (O<|.ref f)) (e:PySem.W.typeIn K (.ref f)=O (.type "function"))
  (h:NJ (Mb prog w) (A.under (.builtin "type.__call__" ⟨.ref C::c,b⟩)) (.call (.ref f) ⟨.ref (s.heap.objs.size+1)::c,b⟩) (PySem.W.InitBack (s.heap.objs.size+1) R)
   {s with heap:=(s.heap.push Nw).push<|Oq C s.heap.objs.size}):
  NJ (Mb prog w) A (.call (.ref C) ⟨c,b⟩) R s:=by
 obtain⟨k,g,d,t,os⟩:=s;exact PySem.W.make_core (PySem.W.makes_of X j) (PU X i) (λa=>PySem.W.bind_fn X a e) (.inl rfl) h
end
def bU (f:Str)(v:V):U (Str×V)->U (Str×V)
|[]=>[(f,v)]
|(g,x)::r=>if g=f then(g,v)::r else(g,x)::bU f v r
theorem eB (f g:Str)(v:V):∀fs:U<|Str×V,(bU f v fs).lookup g=if g=f then O v else fs.lookup g
| []=>by
 show NB g [(f,v)]=_;by_cases h:g=f
 .have a:(g==f)=true:=beq_iff_eq.mpr h;simp only[NB,a,Tf h]
 .have a:(g==f)=false:=beq_eq_false_iff_ne.mpr h;simp only[NB,a,Ti h]
| (k,x)::r=>by
 have b:=eB f g v r;rw[show bU f v ((k,x)::r)=(if k=f then(k,v)::r else(k,x)::bU f v r) from rfl];by_cases hk:k=f
 .rw [Tf hk];by_cases h:g=k
  .have a:(g==k)=true:=beq_iff_eq.mpr h;simp only[NB,a,Tf<|h.trans hk]
  .have a:(g==k)=false:=beq_eq_false_iff_ne.mpr h;simp only[NB,a,Ti (λe:g=f=>h<|e.trans hk.symm)]
 .rw [Ti hk];by_cases h:g=k
  .have a:(g==k)=true:=beq_iff_eq.mpr h;simp only[NB,a,Ti (λe:g=f=>hk<|h.symm.trans e)]
  .have a:(g==k)=false:=beq_eq_false_iff_ne.mpr h;simp only[NB,a];exact b
theorem gz (f:Str)(v:V):∀fs:U<|Str×V,f∈(bU f v fs).map (·.1)/\∀g,g∈fs.map (·.1)->g∈(bU f v fs).map (·.1)
|[]=>⟨by simp[bU],λg h=>by simp at h⟩
| (k,x)::r=>by
 obtain⟨a,b⟩:=gz f v r;rw[show bU f v ((k,x)::r)=(if k=f then(k,v)::r else(k,x)::bU f v r) from rfl];by_cases hk:k=f
 .rw [Tf hk];subst hk;exact⟨by simp,λg h=>by simpa using h⟩
 .rw [Ti hk];refine⟨?_,λg h=>?_⟩
  .rw [ME];exact MG _ a
  .rw [ME] at h ⊢;rcases Mm.mp h with e|e
   .exact Mm.mpr (.inl e)
   .exact MG _ (b g e)
theorem d0 (f:Str)(v:V):∀fs:U<|Str×V,(bU f v fs).length<=fs.length+1
|[]=>by simp[bU]
|(k,x)::r=>by
 have a:=d0 f v r;rw[show bU f v ((k,x)::r)=(if k=f then(k,v)::r else(k,x)::bU f v r) from rfl];by_cases hk:k=f
 .rw[Tf hk,Mw,Mw];lia
 .rw[Ti hk,Mw,Mw];lia
theorem RelO.some_of {v:V}{o:I L}(r:RelO (O v) o):∃u,o=O u/\RelV v u:=by
 cases o with
 |none=>exact(show Tw from r).elim
 |some u=>exact⟨u,rfl,r⟩
theorem RelO.none_of {o:I L}(r:RelO J o):o=none:=by
 cases o with
 |none=>rfl
 |some u=>exact(show Tw from r).elim
theorem jU {v:V}{u:L}(r:RelV v u):Rt u=true:=by
 cases v with
 |non=>cases(show u=Value.none from r);rfl
 |bl b=>cases(show u=Value.bool b from r);rfl
 |int i=>obtain⟨t,e⟩:=(show∃t,u=Value.int i t from r);cases e;rfl
 |str x=>obtain⟨t,e⟩:=(show∃t,u=Value.str x t from r);cases e;rfl
 |byt b=>obtain⟨t,e⟩:=(show∃t,u=Value.bytes b t from r);cases e;rfl
 |flt b=>obtain⟨t,e⟩:=(show∃t,u=Value.float b t from r);cases e;rfl
 |ref a=>cases(show u=Value.ref a from r);rfl
 |ty n=>cases(show u=Value.type n from r);rfl
section
variable {P:Td}{w:Mc}{H H':Hp}{h h':To}{a C dx:S9}{fs fs':U (Str×V)}
theorem kL (c:HOk P w H h)(e:H a=O (.ins C dx fs)):∃b,ObjM h a dx C b/\(∀f,RelO (fs.lookup f)<|b f)/\PL b (fs.map (·.1))/\fs.length<=1000/\H dx=O (.own a):=by obtain⟨d,z,g,i,b,n,r,q⟩:=(show ObjOk P w H h a (.ins C dx fs) from c a _ e);exact⟨b,⟨i,n,g⟩,r,q,z,d⟩
end
structure Cls (K:L9)(C:S9):Prop where
 pg:Ru K C Str.empty=L7
 hd:N3 K C=L7
 po:Se K C=L7
 sa:MB K (.ref C) "__setattr__"=O (O (.builtin "object.__setattr__"))
theorem Cls.get {K:L9}{C:S9}(c:Cls K C)(f:Str):Ru K C f=true:=c.pg
def NoAttr (K:L9)(C:S9)(f:Str):Prop:=MB K (.ref C) f=O J
theorem NoAttr.taker {K:L9}{C:S9}{f:Str}(n:NoAttr K C f):NH K C f=O none:=by unfold NH;rw[show MB K (.ref C) f=O J from n];rfl
section
variable {X:Cx}{pins:U (S9×Obj)}{σ:St}{H:Hp}{s:L8}{a C dx:S9}{fs:U (Str×V)}{f:Str}{v:V}{A:Mh}{E:L->L8->Prop}
theorem oX {b:Ta}{Q:L->L8->Prop}(d:Inv X pins σ H s)(e:H a=O (.ins C dx fs))(c:Cls X.K C)(n:NoAttr X.K C f)(l:fs.lookup f=O v)
  (h:∀u j,Inv X pins σ H j->RelV v u->Q u j):Tc (Mb X.prog X.w) A (Up (.ref a) f b) Q E s:=by
 obtain⟨m,g,r,_,_,_⟩:=kL d.hok e;obtain⟨u,k,i⟩:=RelO.some_of (v:=v) (o:=m f) (by rw[<- l];exact r f);exact zg d.kIn g (c.get f) c.hd n k (jU i)<|h u _ (d.tok _) i
theorem pd {y:V}{u:L}{Q:Unit->L8->Prop}(d:Inv X pins σ H s)(e:H a=O (.ins C dx fs))(c:Cls X.K C)(n:NoAttr X.K C f)(P:fs.length<1000)(M:RelV y u)
  (h:∀l,Inv X pins σ (upd H a<|.ins C dx<|bU f y fs) l->Q () l):Tc (Mb X.prog X.w) A (Ue (.ref a) f u) Q E s:=by
 obtain⟨k,i,r,m,_,ho⟩:=kL d.hok e;have G:(fs.map (·.1)).length<=sizeLine:=by rw[Mg,NA];lia
 refine yJ d.kIn i c.sa c.po n.taker c.hd m G λt j N=>h _ ?_;have D:∃o,t.get? dx=O o:=let ⟨o,_,_,p,_⟩:=j.ns;⟨o,p⟩;refine d.write (x:=a) (e:=dx) (by rw[e];exact M0) (.inr ho) (λb q B z=>(N.2 b B).trans z) D ?_;refine⟨by rw[ag i.ne];exact ho,?_,i.ne,j.obj,_,j.ns,λg=>?_,λg F=>?_⟩
 .have:=d0 f y fs;lia
 .show RelO ((bU f y fs).lookup g) (if g=f then O u else k g);rw[eB];by_cases q:g=f
  .rw[Tf q,Tf q];exact M
  .rw[Ti q,Ti q];exact r g
 .by_cases q:g=f
  .rw[q];exact(gz f y fs).1
  .refine (gz f y fs).2 g (m g fun z=>F ?_);show(if g=f then O u else k g)=J;rw[Ti q];exact z
theorem Inv.made (c:Inv X pins σ H s):Inv X pins σ (upd (upd H s.heap.objs.size<|.own<|s.heap.objs.size+1) (s.heap.objs.size+1)<|.ins C s.heap.objs.size [])
  {s with heap:=(s.heap.push Nw).push<|Oq C s.heap.objs.size}:=by
 have e1:(s.heap.push Nw).get? s.heap.objs.size=O Nw:=Heap.get?_push_size s.heap rfl;have e2:((s.heap.push Nw).push (Oq C s.heap.objs.size)).get? (s.heap.objs.size+1)=O (Oq C s.heap.objs.size):=by have:=Heap.get?_push_size (s.heap.push Nw) (o:=Oq C s.heap.objs.size) rfl;rwa[Heap.size_push] at this
 have e3:(s.heap.push Nw).Ns s.heap.objs.size (λ_=>J):=⟨Nw,#[],_,e1,rfl,(λe h=>Tg h<|by simp),λ_=>rfl⟩;have g:=c.laid (a:=s.heap.objs.size) (o:=.own<|s.heap.objs.size+1) (h':=s.heap.push Nw) (t':=s.toks) (λb u q=>Heap.get?_push_of_some _ q) (Mi _) ⟨_,e1⟩;refine g.laid (a:=s.heap.objs.size+1) (o:=.ins C s.heap.objs.size []) (t':=s.toks) (λb u q=>Heap.get?_push_of_some _ q) (QT<|Heap.size_push _ _) ?_;have d:s.heap.objs.size≠s.heap.objs.size+1:=Mu<|Rr _;refine⟨by rw[ag d,ah],MH _,d,e2,λ_=>J,(Heap.Ns1.of_empty e3).at λo q=>Heap.get?_push_of_some _ q,λ_=>M0,λy i=>Tg rfl i⟩
theorem pj {prog:Td}{w:Mc}{b:Env}{e:Tq}{f:Str}{d:Pos}{s:L8}{Q:L->L8->Prop}(g:NT e f b (Tx e b)=Tx e b)
  (h:Tc (Mb prog w) A (Tx e b) (λo c=>Tc (Mb prog w) A (Up o f L7) Q E c) E s):Tc (Mb prog w) A (Tx (.Attribute e f d) b) Q E s:=
 Attribute_any_ h (by rw[arm_eval_Attribute,g])
end
def K5 (K:L9)(d:TE)(f:Str):TE:=λe H Q=>d e H λx b=>∃a C c fs v,x=.ref a/\b a=O (.ins C c fs)/\Cls K C/\NoAttr K C f/\fs.lookup f=O v/\Q v b
def LI (K:L9)(g h:TE)(f:Str):TS:=λD b H=>h b H λy e=>g b e λx c=>∃a C d fs,x=.ref a/\c a=O (.ins C d fs)/\Cls K C/\NoAttr K C f/\fs.length<1000 /\
 D.nx b (upd c a<|.ins C d<|bU f y fs)
section
variable {X:Cx}{o e value:Tq}{f:Str}{pos pos' tpos:Pos}{ta tv:TE}
theorem FR (r:PE X e ta)(p:NT e f X.env (Tx e X.env)=Tx e X.env):PE X (.Attribute e f pos) (K5 X.K ta f):=by intro d s y H Q b h;refine pj p<|thn (r d s y H _ b h) λu s1 ⟨x,g,i,w,a,C,z,fs,v,m,k,c,n,l,q⟩=>?_;subst m;obtain rfl:u=Value.ref a:=w;exact oX i k c n l λB A j t=>⟨v,g,j,t,q⟩
theorem kR (t:PE X o ta)(w:PE X value tv)(v:Nl value (O<|.Attribute o f pos') pos.line X.env=pure L5):PS X (.Assign [.Attribute o f pos'] value pos) (LI X.K ta tv f):=by intro d s g H D b h;refine QB (thn (w d s g H _ b h) λu s1 ⟨y,i,j,F,q⟩=>thn (t d s1 g i _ j q) λz N ⟨x,G,k,B,a,C,M,fs,r,p,c,n,l,A⟩=>?_) v;subst r;obtain rfl:z=Value.ref a:=B;exact pd k p c n l F λP m=>⟨g,_,m,A⟩
end
section
variable {X:Cx}{pins:U (S9×Obj)}{σ:St}{H:Hp}{s:L8}{A:Mh}{E:L->L8->Prop}{Q:L->L8->Prop}{c:L}{b:Ta}
inductive gO (K:L9)(H:Hp):V->L->Prop where
 |non:gO K H .non (.type "NoneType")
 |bl (x:Ta):gO K H (.bl x) (.type "bool")
 |int (i:Int):gO K H (.int i) (.type "int")
 |str (x:Str):gO K H (.str x) (.type "str")
 |flt (x:UInt64):gO K H (.flt x) (.type "float")
 |lst {a:S9} {xs:U V} (e:H a=O (.lst xs)):gO K H (.ref a) (.type "list")
 |frz {a:S9} {o:Obj} {xs:U V} (e:H a=O (.frz o (.lst xs))):gO K H (.ref a) (.type "list")
 |tup {a:S9} {xs:U V} (e:H a=O (.tup xs)):gO K H (.ref a) (.type "tuple")
 |dK {a:S9} {kvs:U (Key×V)} (e:H a=O (.dK kvs)):gO K H (.ref a) (.type "dict")
 |dT {a:S9} {kvs:U (U Key×V)} (e:H a=O (.dT kvs)):gO K H (.ref a) (.type "dict")
 | ins {a C dx:S9} {fs:U (Str×V)} (e:H a=O (.ins C dx fs)) (cl:Cls K C) (ha:MB K (.ref C) "__class__"=O (O (.builtin "object.__class__")))
   (hn:Rb K (.builtin "object.__class__") "__get__"=O (O (.builtin "getset_descriptor.__get__"))) (htk:Qn K (.builtin "object.__class__")=O L7)
   (hm:PM K C (.type "object")=O L7):gO K H (.ref a) (.ref C)
theorem eN {x:V}{u t:L}(d:Inv X pins σ H s)(k:RelV x u)(ty:gO X.K H x t)(e:NW X.K t c=O b)(h:∀tk,Q (.bool b) {s with toks:=tk}):
  Tc (Mb X.prog X.w) A (call (.builtin "isinstance") [u,c]) Q E s:=by
 cases ty with
 |non=>cases(show u=Value.none from k);exact Nv Sd d.kIn M0 e (λz=>nomatch z) h
 |bl y=>cases(show u=Value.bool y from k);exact Nv Sb d.kIn M0 e (λz=>nomatch z) h
 |int i=>obtain⟨t,q⟩:=(show∃t,u=Value.int i t from k);cases q;exact Nv SD d.kIn M0 e (λz=>nomatch z) h
 |str y=>obtain⟨t,q⟩:=(show∃t,u=Value.str y t from k);cases q;exact Nv Sz d.kIn M0 e (λz=>nomatch z) h
 |flt y=>obtain⟨t,q⟩:=(show∃t,u=Value.float y t from k);cases q;exact Nv PySem.W.kitx_float d.kIn M0 e (λz=>nomatch z) h
 | @lst a r j=>cases(show u=Value.ref a from k);obtain⟨_,_,n,_,l⟩:=(show ObjOk X.prog X.w H s.heap a (.lst r) from d.hok a _ j);exact Nv Qj d.kIn ⟨_,l,rfl⟩ e (λz=>nomatch z) h
 | @frz a P r j=>cases(show u=Value.ref a from k);obtain⟨_,_,_,n,_,l⟩:=(show ObjOk X.prog X.w H s.heap a (.frz P<|.lst r) from d.hok a _ j);exact Nv Qj d.kIn ⟨_,l,rfl⟩ e (λz=>nomatch z) h
 | @tup a r j=>cases(show u=Value.ref a from k);obtain⟨_,_,_,p⟩:=(show ObjOk X.prog X.w H s.heap a (.tup r) from d.hok a _ j);obtain⟨o,l,v,_⟩:=p;exact Nv Rk d.kIn ⟨o,l,v⟩ e (λz=>nomatch z) h
 | @dK a m j=>cases(show u=Value.ref a from k);obtain⟨_,_,vs,_,p⟩:=(show ObjOk X.prog X.w H s.heap a (.dK m) from d.hok a _ j);obtain⟨o,F,ep,l,v,_⟩:=p;exact Nv Sa d.kIn ⟨o,l,v.1⟩ e (λz=>nomatch z) h
 | @dT a m j=>cases(show u=Value.ref a from k);obtain⟨_,_,r,_,o,F,ep,l,v,_⟩:=(show ObjOk X.prog X.w H s.heap a (.dT m) from d.hok a _ j);exact Nv Sa d.kIn ⟨o,l,v.1⟩ e (λz=>nomatch z) h
 | @ins a C Z fs j D G N B M=>cases(show u=Value.ref a from k);obtain⟨mA,g,_⟩:=kL d.hok j;obtain⟨od,f,_⟩:=g.look;exact Nv (PySem.W.kitx_own (D.get _) D.hd G N B M) d.kIn f e (λz=>nomatch z) h
end
structure Room (k:Y)(A:Mh):Prop where
 hd:A.handled=J
 dp:A.depth+3 * k+5<recursionLimit
 un:A.units+16 * k+200<Um
 gu:A.guards=O []
theorem Room.mono {j k:Y}{A:Mh}(r:Room k A)(h:j<=k):Room j A:=⟨r.hd,by have:=r.dp;lia,by have:=r.un;lia,r.gu⟩
theorem Room.deeper {k:Y}{A:Mh}(r:Room (k+1) A)(a:Env):Room k (A.deeper a):=
 ⟨r.hd,by have:=r.dp;show A.depth+1+3 * k+5<_;lia,by have:=r.un;show A.units+3+16 * k+200<_;lia,r.gu⟩
theorem nA {A:Mh}{C:S9}{b:U L}{a:U<|Str×L}:(A.under<|.builtin "type.__call__" ⟨.ref C::b,a⟩).depth=A.depth+1:=by
 first|rfl|simp[Around.under,Code.weight,Code.isCreation,Code.isGuard,Code.isCaller,Code.frames,Code.isFrame,guardIds]
theorem oH {A:Mh}{C:S9}{b:U L}{a:U<|Str×L}:(A.under<|.builtin "type.__call__" ⟨.ref C::b,a⟩).units=A.units+1:=by
 first|rfl|simp[Around.under,Code.cUnits,Code.frames,Code.isFrame]
theorem make_guards {A:Mh}{C:S9}{b:U L}{a:U<|Str×L}:(A.under<|.builtin "type.__call__" ⟨.ref C::b,a⟩).guards=A.guards:=by
 first|rfl|simp[Around.under,Code.isGuard,guardIds]
theorem Room.make {k:Y}{A:Mh}(r:Room (k+1) A)(C:S9)(b:U L)(a:U<|Str×L):Room k (A.under<|.builtin "type.__call__" ⟨.ref C::b,a⟩):=
 ⟨r.hd,by have:=r.dp;rw[nA];lia,by have:=r.un;rw[oH];lia,make_guards.trans r.gu⟩
theorem Room.depth {k:Y}{A:Mh}(r:Room k A):A.depth<recursionLimit:=by have:=r.dp;lia
theorem Room.units {k:Y}{A:Mh}(r:Room k A):A.units+64<Um:=by have:=r.un;lia
def EA:TA:=λ_ H Q=>Q [] H
noncomputable def CA (d:TE)(e:TA):TA:=λa H Q=>d a H λx b=>e a b λf c=>Q (x::f) c
section
variable {X:Cx}{e:Tq}{es:U Tq}{te:TE}{t:TA}{pos:Pos}
theorem cI:PA X [] EA:=λ_ _ _ _ H Q a h=>Calls.spliced_nil ⟨[],H,a,.nil,h⟩
theorem bf (j:PE X e te)(k:PA X es t)(l:Me (e::es) X.env=(L5,Tx e X.env)::Me es X.env:=by rfl):PA X (e::es) (CA te t):=by intro pos b s c H Q a h;rw[l];show Tc _ _ (spliced ((L5,Tx e X.env)::Mp pos (Me es X.env))) _ _ s;refine Calls.spliced_cons<|thn (j b s c H _ a h) λu s1 ⟨x,d,g,o,m⟩=>?_;exact thn (k pos b s1 c d _ g m) λw v ⟨r,f,i,p,n⟩=>⟨x::r,f,i,.cons o p,n⟩
def Jr (t:TA):TE:=λc H Q=>t c H λb a=>b.length<=sizeLine/\∀p,a p=J->Q (.ref p) (upd a p<|.tup b)
def KO (t:TA):TE:=λc H Q=>t c H λb a=>b.length<=sizeLine/\∀p,a p=J->Q (.ref p) (upd a p<|.lst b)
theorem uA {x1}(h:PA X es t):PE X (.Tuple es x1 pos) (Jr t):=by intro c s l H Q a i;refine wpAny_Tuple_spliced<|thn (h pos c s l H _ a i) λj s1 ⟨k,d,f,r,z,q⟩=>⟨by rw[<- r.length];exact z,?_⟩;have g:d s1.heap.objs.size=none:=f.hok.fresh<|Mi _;refine⟨.ref s1.heap.objs.size,upd d s1.heap.objs.size<|.tup k,f.laid (t':=s1.toks) (λb u e=>Heap.get?_push_of_some _ e) (Mi _) ?_,rfl,q _ g⟩;exact⟨z,j,r,⟨_,Heap.get?_push_size _ rfl,rfl,_,rfl⟩⟩
theorem Dz (h:PA X es t):PE X (.List es pos) (KO t):=by intro c s l H Q a i;refine wpAny_List_spliced<|thn (h pos c s l H _ a i) λj s1 ⟨k,d,f,r,z,q⟩=>⟨by rw[<- r.length];exact z,?_⟩;have g:d s1.heap.objs.size=none:=f.hok.fresh<|Mi _;refine⟨.ref s1.heap.objs.size,upd d s1.heap.objs.size<|.lst k,f.laid (t':=s1.toks) (λb u e=>Heap.get?_push_of_some _ e) (Mi _) ?_,rfl,q _ g⟩;exact⟨z,j,0,r,Heap.get?_push_size _ rfl⟩
end
abbrev Sp:=U V->Hp->VK->XK->Prop
abbrev CXT:=U Env->Hp->L8->XK->L->L8->Prop
structure Env0 (P:Td)(w:Mc)(K:L9)(mg:Str->I L)(base:To)(A:Mh)(outer:U Env)(s:L8)(H:Hp):Prop where
 frames:A.frames=O outer
 mod:Mod K mg base
 bs:∀b o,base.get? b=O o->s.heap.get? b=O o/\H b=J
 bsz:base.objs.size<=s.heap.objs.size
 funs:s.heap.FunFrames base outer
 frf:∀b∈frs outer,H b=J
 hok:HOk P w H s.heap
 bare:NN s.gens
def CE (a:U Env)(P:Td)(w:Mc)(H:Hp)(s:L8)(Q:VK)(u:L)(b:L8):Prop:=
 ∃v c,b.os=s.os/\NN b.gens/\Un (frs a) [] H c s.heap b.heap/\HOk P w c b.heap/\RelV v u/\Q v c
def CR (c:CXT)(a:U Env)(P:Td)(w:Mc)(H:Hp)(s:L8)(Q:VK)(E:XK)(r:Result)(b:L8):Prop:=
 match r with
 |.ok (.ret u)=>CE a P w H s Q u b
 |.ok _=>Tw
 |.error e=>c a H s E e b
structure FnOk (P:Td)(w:Mc)(K:L9)(mg:Str->I L)(base:To)(CX:CXT)(k:Y)(f:S9)(fd:MK)(ps:U Str)(sp:Sp):Prop where
 len:∀vs H Q E,sp vs H Q E->vs.length=ps.length
 run:∀(A:Mh) (outer:U Env) (s:L8) (H:Hp) (args:Args) (us:U L) (vs:U V) (Q:VK) (E:XK),Room k A->Env0 P w K mg base A outer s H->Oe s fd args (ps.zip us)->Vals vs us->sp vs H Q E ->
  NJ (Mb P w) A (.call (.ref f) args) (CR CX outer P w H s Q E) s
theorem FnOk.mono {P:Td}{w:Mc}{K:L9}{g:Str->I L}{a:To}{d:CXT}{j k:Y}{f:S9}{e:MK}{i:U Str}{l:Sp}(F:FnOk P w K g a d j f e i l)(h:j<=k):
  FnOk P w K g a d k f e i l:=⟨F.len,λA b s H c n o Q E m=>F.run A b s H c n o Q E<|m.mono h⟩
theorem FnOk.imp {P:Td}{w:Mc}{K:L9}{j:Str->I L}{a:To}{g:CXT}{k:Y}{f:S9}{i:MK}{l:U Str}{m e:Sp}(F:FnOk P w K j a g k f i l m)
  (h:∀c H Q E,e c H Q E->m c H Q E):FnOk P w K j a g k f i l e:=
 ⟨λc H Q E q=>F.len c H Q E<|h _ _ _ _ q,λA b s H d u c Q E p o n t r=>F.run A b s H d u c Q E p o n t<|h _ _ _ _ r⟩
theorem Env0.make {P:Td}{w:Mc}{K:L9}{c:Str->I L}{b:To}{A:Mh}{a:U Env}{s:L8}{H:Hp}(e:Env0 P w K c b A a s H)(C:S9)(f:U L)(d:U<|Str×L):
  Env0 P w K c b (A.under<|.builtin "type.__call__" ⟨.ref C::f,d⟩) a s H:=⟨by first|exact e.frames|(simpa[Around.under,Code.envs,Code.isFrame,pushEnvs] using e.frames),e.mod,e.bs,e.bsz,e.funs,e.frf,e.hok,e.bare⟩
section
variable {X:Cx}{pins:U (S9×Obj)}{σ:St}{H:Hp}{s s':L8}
theorem Inv.env0 (a:Inv X pins σ H s):Env0 X.prog X.w X.K X.mg X.base X.A X.stack s H:=
 ⟨a.ok.frames,a.ok.mod,a.bs,Mt a.ok.bsz a.sz,a.stack,a.stkFree,a.hok,a.bare⟩
theorem Inv.after {Q:VK}{u:L}(a:Inv X pins σ H s)(h:CE X.stack X.prog X.w H s Q u s'):EP X pins σ Q u s':=by obtain⟨v,f,os,bare,un,c,r,q⟩:=h;obtain⟨i,g,d,t,e⟩:=s';obtain rfl:e=s.os:=os;exact⟨v,f,a.call (h':=i) (g':=g) (d':=d) (t':=t) (ch:=[]) un c bare λb z=>Tg z<|by simp,r,q⟩
end
def HA (c:Sp)(a:U V)(E:XK)(t:TA):TE:=λe H Q=>t e H λd b=>c (d++a) b Q E
def Ir (C:S9)(e:Sp)(c:U V)(E:XK)(t:TA):TE:=λg H Q=>t g H λf b=>∀x a,b x=J->b a=J->a≠x ->
 e (.ref x::(f++c)) (upd (upd b a<|.own x) x<|.ins C a []) (λv d=>v=.non/\Q (.ref x) d) E
def Binds (K:L9)(c:MK)(b:U Str)(ds:U L):Prop:=
 ∀(s:L8) (a:U L),K.In s.heap->(a++ds).length=b.length->Oe s c ⟨a,[]⟩ (b.zip<|a++ds)
theorem Binds.all {K:L9}{c:MK}{b:U Str}(h:∀a:U L,a.length=b.length->bindArgs c ⟨a,[]⟩=pure (b.zip a)):Binds K c b []:=λs a _ d=>by rw[MV] at d ⊢;exact .of_eq<|h a d
def fw (c:CXT)(X:Cx)(E:XK):Prop:=∀(a:U<|S9×Obj) (d:St) (H:Hp) (s:L8) (e:L) (b:L8),Inv X a d H s->c X.stack H s E e b->X.xe e b
section
variable {X:Cx}{CX:CXT}{k:Y}{f C:S9}{fd:MK}{ps:U Str}{sp:Sp}{dvs:U V}{ds:U L}{E:XK}{x m:Str}{p pos apos:Pos}{e o:Tq}{es:U Tq}{ta:TE}{t:TA}
theorem ye {b:U<|S9×Obj}{i:St}{H:Hp}{s:L8}{Q:VK}{c:U L}{g:U V}(F:FnOk X.prog X.w X.K X.mg X.base CX k f fd ps sp)(y:Room k X.A)(l:Binds X.K fd ps ds)(n:Vals dvs ds)(hx:fw CX X E)
  (a:Inv X b i H s) (r:Vals g c) (h:sp (g++dvs) H Q E):Tc (Mb X.prog X.w) X.A (call (.ref f) c) (EP X b i Q) X.xe s:=by
 have j:Vals (g++dvs) (c++ds):=r.append n;have v:(c++ds).length=ps.length:=by rw[<- j.length];exact F.len _ _ _ _ h
 refine OI<|O9 (F.run X.A X.stack s H ⟨c,[]⟩ (c++ds) (g++dvs) Q E y a.env0 (l s c a.kIn v) j h) λr z d=>?_;cases r with
 |error e=>exact hx b i H s e z a d
 |ok fl=>
  cases fl with
  |ret u=>exact a.after d
  |next=>exact MQ d
  |brk=>exact MQ d
  |cont=>exact MQ d
theorem AL (F:FnOk X.prog X.w X.K X.mg X.base CX k f fd ps sp)(y:Room k X.A)(u:Gl X x)(v:X.mg x=O (.ref f))(hk:Ny X.K (.ref f)=L7)(j:Binds X.K fd ps ds)(l:Vals dvs ds)(hx:fw CX X E)
  (i:PA X (e::es) t) (c:(x==("__debug__":Str))=false:=by decide) (n:Me (e::es) X.env=(L5,Tx e X.env)::Me es X.env:=by rfl) (d:(Mp pos<|Me es X.env).any (·.1)=false:=by rfl):
  PE X (.Call (.Name x p) (e::es) [] pos) (HA sp dvs E t):=by
 intro b s z H Q a h;refine O6<|eG a u v ?_ c;refine P0 (h₀:=X.base) a.ok.mod.kin hk (thn (i pos b s z H _ a h) λD s1 ⟨G,B,g,r,q⟩=>⟨g.kIn,?_⟩) n d;exact ye F y j l hx g r q
structure Mk (K:L9)(C f:S9):Prop where
 makes:RM K C=L7
 init:MB K (.ref C) "__init__"=O (O (.ref f))
 fn:PySem.W.isFn K (.ref f)=L7
 kp:Ny K (.ref C)=L7
theorem uL {c:U<|S9×Obj}{l:St}{H:Hp}{s:L8}{Q:VK}{d:U L}{j:U V}(M:Mk X.K C f)(F:FnOk X.prog X.w X.K X.mg X.base CX k f fd ps sp)(Z:Room (k+1) X.A)(G:Binds X.K fd ps ds)(N:Vals dvs ds)
  (hx:fw CX X E) (a:Inv X c l H s) (r:Vals j d)
  (h:∀x i,H x=J->H i=J->i≠x->sp (.ref x::(j++dvs)) (upd (upd H i<|.own x) x<|.ins C i []) (λv B=>v=.non/\Q (.ref x) B) E):
  Tc (Mb X.prog X.w) X.A (call (.ref C) d) (EP X c l Q) X.xe s:=by
 have n:=h (s.heap.objs.size+1) s.heap.objs.size (a.hok.fresh<|N8 _) (a.hok.fresh<|Mi _)<|Mu<|Rr _;have g:=Inv.made (C:=C) a;have y:Vals (V.ref (s.heap.objs.size+1)::(j++dvs)) (Value.ref (s.heap.objs.size+1)::(d++ds)):=.cons rfl (r.append N);have P:(Value.ref (s.heap.objs.size+1)::d++ds).length=ps.length:=by have e:=y.length;rw[F.len _ _ _ _ n] at e;exact e.symm
 refine OI (uy (f:=f) a.kIn M.makes M.init (beq_iff_eq.mp M.fn) (O9 (F.run _ X.stack _ _ ⟨Value.ref (s.heap.objs.size+1)::d,[]⟩ (Value.ref (s.heap.objs.size+1)::(d++ds)) _ _ E (Z.make C d [])
  (g.env0.make C d []) (G _ (Value.ref (s.heap.objs.size+1)::d) g.kIn P) y n) λr s' b=>?_))
 cases r with
 |error e=>exact hx c l _ _ e s' g b
 | ok fl =>
  cases fl with
  |ret u=>obtain⟨v,z,D,rv,ev,q3⟩:=g.after b;subst ev;exact⟨rv,⟨V.ref<|s.heap.objs.size+1,z,D,rfl,q3⟩⟩
  |next=>exact MQ b
  |brk=>exact MQ b
  |cont=>exact MQ b
theorem zd (M:Mk X.K C f)(F:FnOk X.prog X.w X.K X.mg X.base CX k f fd ps sp)(y:Room (k+1) X.A)(u:Gl X x)(v:X.mg x=O (.ref C))(j:Binds X.K fd ps ds)(l:Vals dvs ds)(hx:fw CX X E)
  (i:PA X (e::es) t) (c:(x==("__debug__":Str))=false:=by decide) (n:Me (e::es) X.env=(L5,Tx e X.env)::Me es X.env:=by rfl) (d:(Mp pos<|Me es X.env).any (·.1)=false:=by rfl):
  PE X (.Call (.Name x p) (e::es) [] pos) (Ir C sp dvs E t):=by
 intro b s z H Q a h;refine O6<|eG a u v ?_ c;refine P0 (h₀:=X.base) a.ok.mod.kin M.kp (thn (i pos b s z H _ a h) λD s1 ⟨G,B,g,r,q⟩=>⟨g.kIn,?_⟩) n d;exact uL M F y j l hx g r q
end
structure bH (N P:U Str)(sc:TM):Prop where
 kind:sc.kind=.function
 co:sc.isCoroutine=L5
 gen:sc.isGenerator=L5
 nd:N.Nodup
 pre:N.take P.length=P
 par:∀x∈P,sc.names.lookup x=O .local\/sc.names.lookup x=O .cell
 nofree:∀y∈sc.names,y.2≠.free
theorem j8 {kindOf:Str->I NameKind}{x:Str}:∀{binds:U<|Str×L} {m:Str->I L},(∀v,(x,v) ∉ binds)->Ur kindOf binds m x=m x
|[],_,_=>rfl
| (n,v)::r,m,h=>by
 unfold Ur;rw[j8 λw a=>h w<|MG _ a];split
 .have:x≠n:=by rintro rfl; exact h v ML
  simp[this]
 .rfl
theorem jZ {kindOf:Str->I NameKind}{x:Str}:∀{binds:U<|Str×L} {m:Str->I L},(∀v,(x,v) ∉ binds)->Us kindOf binds m x=m x
|[],_,_=>rfl
| (n,v)::r,m,h=>by
 unfold Us;rw[jZ λw a=>h w<|MG _ a];split
 .rfl
 .have:x≠n:=by rintro rfl; exact h v ML
  simp[this]
theorem jY {kindOf:Str->I NameKind}{x:Str}{v:L}:∀{P:U Str} {a:U L} {i:Y} {m:Str->I L},P.Nodup->P[i]?=O x->a[i]?=O v->kindOf x=O .local ->
 Ur kindOf (P.zip a) m x=O v
|[],_,_,_,_,h,_,_=>by simp at h
|_::_,[],_,_,_,_,h,_=>by simp at h
|p::P,w::a,0,m,d,b,c,hk=>by simp at b c;subst b;subst c;show Ur kindOf ((p,w)::P.zip a) m p=_;unfold Ur;rw[j8 λv e=>(NY.mp d).1 (Qm e).1,Tf hk];simp
|p::P,w::a,i+1,m,d,b,c,hk=>by show Ur kindOf ((p,w)::P.zip a) m x=_;unfold Ur;exact jY (i:=i) (NY.mp d).2 (by simpa using b) (by simpa using c) hk
theorem j6 {kindOf:Str->I NameKind}{x:Str}{v:L}:∀{P:U Str} {a:U L} {i:Y} {m:Str->I L},P.Nodup->P[i]?=O x->a[i]?=O v->kindOf x≠O .local ->
 Us kindOf (P.zip a) m x=O v
|[],_,_,_,_,h,_,_=>by simp at h
|_::_,[],_,_,_,_,h,_=>by simp at h
|p::P,w::a,0,m,d,b,c,hk=>by simp at b c;subst b;subst c;show Us kindOf ((p,w)::P.zip a) m p=_;unfold Us;rw[jZ λv e=>(NY.mp d).1 (Qm e).1,Ti hk];simp
|p::P,w::a,i+1,m,d,b,c,hk=>by show Us kindOf ((p,w)::P.zip a) m x=_;unfold Us;exact j6 (i:=i) (NY.mp d).2 (by simpa using b) (by simpa using c) hk
noncomputable def start (N:U Str)(a:U V):St:=a.map O++Mr (N.length-a.length) J
def gq (g:CXT)(P:Td)(w:Mc)(K:L9)(mg:Str->I L)(base:To)(N:U Str)(b:Str)(a:TM)(f:S9)(d:L)(A:Mh)(outer:U Env)(s:L8)(H:Hp)(E:XK):Cx where
 prog:=P
 w:=w
 K:=K
 mg:=mg
 base:=base
 A:=A.deeper<|Nc b a s.heap.objs.size f d
 N:=N
 s₀:=s
 H₀:=H
 env:=Nc b a s.heap.objs.size f d
 outer:=outer
 stack:=Nc b a s.heap.objs.size f d::outer
 ex:=[]
 calm:=L7
 fn:=λ_=>L7
 pn:=[]
 xe:=λe i=>Tc (Mb P w) (A.deeper<|Nc b a s.heap.objs.size f d) (leaving (Nc b a s.heap.objs.size f d) e) (λ_ c=>g outer H s E e c) (λh c=>g outer H s E h c) i
theorem lX {sc:TM}{n:Y}{x:Str}(h:sc.names.lookup x=O .cell):∃c,(cellsFrom n sc.names []).lookup x=O c:=by have q:=R6 sc.names n []<|.inl h;exact Q9.mp q
theorem tP {CX:CXT}{P:Td}{w:Mc}{K:L9}{mg:Str->I L}{m:To}{N D:U Str}{j:Str}{d:TM}{f:S9}{M:L}{A:Mh}{g:U Env}{s s1:L8}{H:Hp}{E:XK}{us:U L}{F:U V}
  (S:bH N D d) (hd:A.handled=J) (o:Env0 P w K mg m A g s H) (hl:F.length=D.length) (r:Vals F us)
  (x:InCallC s s.heap.objs.size (Ur (Nc j d s.heap.objs.size f M).kindOf (D.zip us) λ_=>J) (cellsFrom (s.heap.objs.size+1) d.names []) (Us (Nc j d s.heap.objs.size f M).kindOf (D.zip us) λ_=>J) s1):
  Inv (gq CX P w K mg m N j d f M A g s H E) [] (start N F) H s1:=by
 have hpl:D.length<=N.length:=by have:=Tn Qg S.pre;rw[NO] at this;lia
 obtain⟨Q,tk,rfl,hk⟩:=x.done;have B:∀b:S9,b ∉ (gq CX P w K mg m N j d f M A g s H E).ex:=λb z=>Tg (show b∈([]:U S9) from z)<|by simp
 refine⟨⟨o.mod,S.kind,rfl,rfl,Mi _,λy z c Q l=>?_,λy t=>?_,λy c _ h=>?_,λ_=>hd,Around.frames_deeper o.frames,.inr ⟨rfl,rfl⟩,λb z=>Tg z<|B b,o.bs,o.bsz,λb _ _=>B b,λb z=>Tg z<|B b,o.funs,o.frf⟩,
  rfl,o.bare,Un.kept hk,⟨_,x.toInCall.ns,λi y v Q l h3=>?_⟩,λy c h=>⟨_,x.cell y c h⟩,o.hok.fresh<|Mi _,λy c h=>?_,λp hp=>Tg (show p∈([]:U<|S9×Obj) from hp)<|by simp,o.hok.kept hk,?_⟩
 .exact name_of_addr x.apart (Pf Q) (Pf l)
 .have t:d.names.lookup y=O .cell\/d.names.lookup y=O .free:=t;rcases t with t|t
  .exact lX t
  .exact Tg rfl (S.nofree _<|Pf t)
 .exact PK (x.above y c<|Pf h)
 .have Z:i<F.length:=by
   unfold start at l;by_cases Z:i<F.length
   .exact Z
   .rw [OV<|by simpa using Z] at l;rw[Q6] at l;split at l<;>cases l
  have ha:F[i]?=O v:=by
   unfold start at l;rw[PQ<|by simpa using Z,MO] at l;cases e:F[i]? with
   |none=>rw[e] at l;cases l
   |some a=>rw[e] at l;cases l;rfl
  obtain⟨u,hu,rv⟩:=r.get ha;have hp:D[i]?=O y:=by rw[<- S.pre,List.getElem?_take_of_lt<|by lia];exact Q
  have G:D.Nodup:=by rw[<- S.pre];exact S.nd.sublist<|List.take_sublist _ _
  refine⟨u,rv,?_⟩;rcases S.par y (Qu hp) with k|k
  .exact .inl ⟨k,jY G hp hu k⟩
  .obtain ⟨c,e⟩:=lX (n:=s.heap.objs.size+1) k;refine .inr ⟨.inl k,c,e,?_⟩;have q:=x.cell y c e;rw[j6 G hp hu<|by show d.names.lookup y≠_;rw[k];decide] at q;exact q
 .exact o.hok.fresh (PK<|x.above y c<|Pf h)
 .unfold start;show _=N.length;rw[MA,Mg,OC];lia
theorem Cv {CX:CXT}{P:Td}{w:Mc}{K:L9}{mg:Str->I L}{j:To}{k:Y}{f:S9}{D h:Str}{l:Arguments}{m:U Tz}{d:TM}{dV kV Z pm i ct oc:L}{an od:I S9}
  {osl:Tv<|I L} {N ps:U Str} {sp:Sp} (lk:K.lookup f=O ⟨oc,od,.func<|Nh D h l m d dV kV Z pm an i ct,osl⟩) (hcd:PF K i h=L7) (S:bH N ps d)
  (len:∀p H Q E,sp p H Q E->p.length=ps.length)
  (F:∀ (A:Mh) (g:U Env) (s:L8) (H:Hp) (p:U V) (Q:VK) (E:XK),Room k (A.deeper (Nc h d s.heap.objs.size f i))->sp p H Q E ->
   ∃t,PSs (gq CX P w K mg j N h d f i A g s H E) m t/\t {nx:=λ_ B=>Q .non B,rt:=Q} (start N p) H):
  FnOk P w K mg j CX (k+1) f (Nh D h l m d dV kV Z pm an i ct) ps sp:=by
 refine⟨len,λA g s H args us p Q E hr e0 hb r hsp=>?_⟩;have hl:=len _ _ _ _ hsp;have KX:K.In s.heap:=e0.mod.kin.keeps λb o e=>(e0.bs b o e).1;have lim:s.heap.NoLimit:=e0.mod.nolimit.keeps λb o e=>(e0.bs b o e).1
 have G:∀y∈ps.zip us,d.names.lookup y.1=O .local\/(d.names.lookup y.1=O .cell/\((cellsFrom (s.heap.objs.size+1) d.names []).lookup y.1).isSome=L7):=λ⟨n,v⟩ hy=>by
  rcases S.par n (Qm hy).1 with q|q
  .exact .inl q
  .exact .inr ⟨q,R6 _ _ _<|.inl q⟩
 refine codeAny_call_function hr.depth (KX _ _ lk) rfl S.co S.gen rfl (PySem.W.codeRec_of KX hcd) (hb _ _ _ _ ?_);refine wpAny_newFunctionEnv_cells S.kind G λenv he s1 x=>?_;subst he;refine⟨lim.keeps x.toInCall.keep,codeAny_func ?_⟩;obtain⟨t,ht,hq⟩:=F A g s H p Q E (hr.deeper _) hsp;have a:Inv (gq CX P w K mg j N h d f i A g s H E) [] (start N p) H s1:=tP S hr.hd e0 hl r x;refine MD (ht [] s1 (start N p) H _ a hq) (λfl s' M=>?_) λe s' M=>M
 have fin:∀{z:St} {B:Hp} {v:V} {u:L},Inv (gq CX P w K mg j N h d f i A g s H E) [] z B s'->RelV v u->Q v B->CE g P w H s Q u s':=
  λ{z B v u} c rv q=>⟨v,B,c.os,c.bare,c.base,c.hok,rv,q⟩
 cases fl with
 |ret u=>obtain⟨v,z,B,c,rv,q⟩:=M;exact fin c rv q
 |next=>obtain⟨z,B,c,q⟩:=M;exact fin (v:=V.non) (u:=Value.none) c rfl q
 |brk=>obtain⟨_,_,_,q⟩:=M;exact MQ q
 |cont=>obtain⟨_,_,_,q⟩:=M;exact MQ q
section
variable {X:Cx}{x:Str}{p pos:Pos}{e:Tq}{es:U Tq}{t:TA}{id T:Tu}{r:U V->Hp->VK->Prop}
def tCB (r:U V->Hp->VK->Prop)(t:TA):TE:=λc H Q=>t c H λb a=>r b a Q
theorem bA (k:bW X (.builtin id) r)(m:Gl X x)(n:X.mg x=J)(u:NI x=O (.builtin id))(j:PA X (e::es) t)(o:x≠"__name__":=by decide)(c:(x==("__debug__":Str))=false:=by decide)
  (l:Me (e::es) X.env=(L5,Tx e X.env)::Me es X.env:=by rfl) (d:(Mp pos<|Me es X.env).any (·.1)=false:=by rfl):PE X (.Call (.Name x p) (e::es) [] pos) (tCB r t):=by
 intro b s f H Q a h;refine O6<|gk a m n u ?_ o c;exact SG (thn (j pos b s f H _ a h) λy s1 ⟨z,g,i,w,v⟩=>k b s1 f g z y Q i w v) l d
theorem dq (k:bW X (.type T) r)(m:Gl X x)(n:X.mg x=J)(u:NI x=O (.type T))(j:PA X (e::es) t)(o:x≠"__name__":=by decide)(c:(x==("__debug__":Str))=false:=by decide)
  (l:Me (e::es) X.env=(L5,Tx e X.env)::Me es X.env:=by rfl) (d:(Mp pos<|Me es X.env).any (·.1)=false:=by rfl):PE X (.Call (.Name x p) (e::es) [] pos) (tCB r t):=by
 intro b s f H Q a h;refine O6<|gk a m n u ?_ o c;exact Qr (thn (j pos b s f H _ a h) λy s1 ⟨z,g,i,w,v⟩=>k b s1 f g z y Q i w v) l d
end
end L2
namespace HT
open PySem PyProof.Rows
section
variable {prog:Td}{w:Mc}{A:Mh}{E:L->L8->Prop}{s:L8}
theorem cat_tup {t b:S9}{d a:U L}{Q:L->L8->Prop}(B:T7 s.heap t d.toArray)(z:T7 s.heap b a.toArray)(r:d≠[])
  (x:a=[]->Q (.ref t) s) (y:a≠[]->Q (.ref s.heap.objs.size) {s with heap:=s.heap.push {cls:=.type "tuple",data:=.seq (d++a).toArray}})
  (k:d.length+a.length<=sizeLine):Tc (Mb prog w) A (M6 .Add (.ref t)<|.ref b) Q E s:=by
 obtain⟨⟨cls,m,data,v⟩,ho,o,n,p⟩:=id B;obtain⟨⟨l,f,data2,i⟩,c,g,u,h⟩:=id z;simp only at o p g h;subst o p g h;have e:d.toArray++a.toArray=(d++a).toArray:=by simp
 by_cases j:a=[]
 .exact Uh ⟨_,ho,rfl⟩ ⟨_,c,rfl⟩ Qw T8 Q2 Q5 (Q8 _ _)
   (tuple_addW1 t b d.toArray a.toArray n u m f v i (by simpa using r)<|by simp[j]) ⟨ho,c,x j⟩
 .refine Uh ⟨_,ho,rfl⟩ ⟨_,c,rfl⟩ Qw T8 Q2 Q5 (Q8 _ _)
   (tuple_addW2 t b d.toArray a.toArray n u m f v i (by simpa using r) (by simpa using j)<|by rw[Mx,Mx];exact k) ⟨ho,c,?_⟩
  rw[e];exact y j
def sIx (n d:Y):I Int->Y
|none=>d
|some v=>if v<0 then(v+(n:Int)).toNat else min v.toNat n
theorem sIx_nat (n d k:Y):sIx n d (O (k:Int))=min k n:=by show(if(k:Int)<0 then((k:Int)+(n:Int)).toNat else min (k:Int).toNat n)=min k n;rw[Ti<|by lia,Ou]
theorem Ho (n d:Y)(b:d<=n)(o:I Int):sIx n d o<=n:=by
 cases o with
 |none=>exact b
 |some v=>
  show(if v<0 then(v+(n:Int)).toNat else min v.toNat n)<=n;by_cases a:v<0
  .rw[Tf a];lia
  .rw[Ti a];exact Sy _ _
theorem qM (v:Int)(n d:Y):(if v<0 then max (v+(n:Int)) 0 else min v (n:Int))=((sIx n d (O v):Y):Int):=by
 show(if v<0 then max (v+(n:Int)) 0 else min v (n:Int))=(((if v<0 then(v+(n:Int)).toNat else min v.toNat n):Y):Int);by_cases a:v<0
 .simp only[Tf a];lia
 .simp only[Ti a];lia
theorem nR (lo a:I Int)(n:Y):Builtin.Slice.sliceAdjust lo a 1 (n:Int)=(((sIx n 0 lo:Y):Int),((sIx n n a:Y):Int)):=by
 have b:¬((1:Int)<0):=by lia
 unfold Builtin.Slice.sliceAdjust;simp only[b,TR];refine Prod.ext ?_ ?_
 .cases lo with
  |none=>rfl
  |some v=>exact qM v n 0
 .cases a with
  |none=>rfl
  |some v=>exact qM v n n
theorem nO (i j:Y):Builtin.Slice.slicePlaces (i:Int) (j:Int) 1=j-i:=by
 unfold Builtin.Slice.slicePlaces;have a:(1:Int)>0:=by lia
 simp only[a,TF,Int.ediv_one];split<;>lia
theorem ji {v:L}{o:I Int}{Q:I Int->L8->Prop}(p:NL v o)(h:Q o s):Tc (Mb prog w) A (Builtin.Slice.slicePartIndex v) Q E s:=by
 cases p with
 |none=>exact slicePart_none h
 |int i t=>exact slicePart_int h
theorem sliceApplied_gen {f:S9}{d e:L}{lo b:I Int}{n:Y}{Q:Int×Int×Y->L8->Prop}(i:s.heap.IsSliceOf f d e .none)(j:NL d lo)(pu:NL e b)
  (h:Q (((sIx n 0 lo:Y):Int),1,sIx n n b-sIx n 0 lo) s):Tc (Mb prog w) A (Builtin.Slice.sliceApplied (.ref f)<|pure (n:Int)) Q E s:=by
 obtain⟨os,c,g,a⟩:=id i;unfold Builtin.Slice.sliceApplied Builtin.Slice.sliceFields;refine Ma<|Ma<|MX c a (x:=d) rfl (Ma<|MX c a (x:=e) rfl (Ma<|MX c a (x:=.none) rfl (Mf ?_)));refine Ma<|slicePart_none ?_;show Tc _ _ (if((1:Int)==0)=L7 then _ else _) _ _ s;rw[Ti<|by decide];refine Ma<|ji j<|Ma<|ji pu<|Ma<|Mf ?_;show Tc _ _ (match Builtin.Slice.sliceAdjust lo b 1 (n:Int) with|(lo,b)=>pure (lo,(1:Int),Builtin.Slice.slicePlaces lo b 1)) _ _ s;rw[nR lo b n];show Tc _ _ (pure (((sIx n 0 lo:Y):Int),(1:Int),Builtin.Slice.slicePlaces ((sIx n 0 lo:Y):Int) ((sIx n n b:Y):Int) 1)) _ _ s;rw[nO];exact Mf h
theorem vB (a:Tv L)(i k:Y):((Mj k).filterMap λ(m:Y)=>a[((i:Int)+(m:Int) * 1).toNat]?).toArray=((a.toList.drop i).take k).toArray:=by
 have e:(λ(m:Y)=>a[((i:Int)+(m:Int) * 1).toNat]?)=λm=>a[i+m]?:=by
  funext m;have:((i:Int)+(m:Int) * 1).toNat=i+m:=by lia
  rw[this]
 rw[e];have:=pick_run a i k;rw[Sj] at this;have e2:((λx=>a[x]?) ∘ λx=>i+x)=λm=>a[i+m]?:=rfl;rw[e2] at this;rw[this]
theorem getItem_tuple_cut {t j:S9}{a:Tv L}{l n:L}{lo c:I Int}{Q:L->L8->Prop}(d:T7 s.heap t a)(k:s.heap.IsSliceOf j l n .none)(u:NL l lo)(pu:NL n c)
  (r:¬(sIx a.size 0 lo=0/\sIx a.size a.size c=a.size))
  (h:Q (.ref s.heap.objs.size) {s with heap:=s.heap.push {cls:=.type "tuple",data:=.seq ((a.toList.drop<|sIx a.size 0 lo).take<|sIx a.size a.size c-sIx a.size 0 lo).toArray}})
  (p:a.size<=sizeLine):Tc (Mb prog w) A (NM (.ref t)<|.ref j) Q E s:=by
 have b:sizeOk (.seq ((a.toList.drop (sIx a.size 0 lo)).take (sIx a.size a.size c-sIx a.size 0 lo)).toArray):=by show((a.toList.drop<|sIx a.size 0 lo).take<|sIx a.size a.size c-sIx a.size 0 lo).toArray.size<=sizeLine;rw[Mx,NO,Pq,N9];lia
 have v:sIx a.size a.size c<=a.size:=Ho _ _ (Mi _) c;obtain⟨os,i,f,o⟩:=id k;have e:s.TypeIs (.ref j) "slice":=⟨os,i,f⟩;unfold NM
 try with_reducible refine Nq ?_
 first|refine Ma (Mf ?_)|skip
 refine Ma<|wpAny_sequenceKey d.typeIs (by decide) ?_
 refine Ma (O0 (name:=Str.ofString "__getitem__") d.typeIs Pr
  (OG Pr d.typeIs entry_tuple_getitem ?_<|args_tuple_getitem _ _))
 show Tc _ _ (Builtin.Tuple.tupleItemsOf (.ref t) >>= _) _ _ s;refine Ma<|tupleItemsOf_ d ?_;refine Ma<|P1 e ?_;rw[Tf<|by decide];refine Ma<|sliceApplied_gen k u pu ?_;have g:¬((((sIx a.size 0 lo:Y):Int)==0&&(1:Int)==1&&(sIx a.size a.size c-sIx a.size 0 lo)==a.size)=L7):=by intro q;rw[Mv,Mv] at q;have x:((sIx a.size 0 lo:Y):Int)=0:=eq_of_beq q.1.1;have y:sIx a.size a.size c-sIx a.size 0 lo=a.size:=eq_of_beq q.2;exact r ⟨by lia,by lia⟩
 show Tc _ _ (if(((sIx a.size 0 lo:Y):Int)==0&&(1:Int)==1&&(sIx a.size a.size c-sIx a.size 0 lo)==a.size)=L7 then _ else _) _ _ s;rw[Ti g,vB]
 first
  |exact Ma (m:=Builtin.Tuple.tupleExact _)<|Of (Mf ⟨_,rfl,Mf h⟩) b
  |exact Ma (m:=Builtin.Tuple.tupleExact _)<|Of (Ma<|Mf<|Mf ⟨_,rfl,Mf h⟩) b
  |exact Ma<|Ma (m:=Builtin.Tuple.tupleExact _)<|Of (Mf<|Mf ⟨_,rfl,Mf h⟩) b
  |exact Ma<|Ma (m:=Builtin.Tuple.tupleExact _)<|Of (Mf ⟨_,rfl,Mf h⟩) b
end
end HT
namespace L2
open PySem PySem.Spec PyProof.Rows
abbrev TO:=St->Hp->(I Int->Hp->Prop)->Prop
def PO (X:Cx)(e:I Tq)(t:TO):Prop:=
 ∀(a:U<|S9×Obj) (s:L8) (b:St) (H:Hp) (Q:I Int->Hp->Prop),Inv X a b H s->t b H Q ->
  Tc (Mb X.prog X.w) X.A (evalPart e X.env) (λu d=>∃o c,Inv X a b c d/\NL u o/\Q o c) X.xe s
def AO:TO:=λ_ H Q=>Q J H
def IB (t:TE):TO:=λb H Q=>t b H λx a=>∃i,x=.int i/\Q (O i) a
section
variable {X:Cx}{e:Tq}{te:TE}{lo hi:I Tq}{tl th:TO}{pos p2:Pos}
theorem qd:PO X J AO:=by intro b s c H Q a h;rw[evalPart_none];exact Mf ⟨J,H,a,.none,h⟩
theorem eP (h:PE X e te):PO X (O e) (IB te):=by intro b s k H Q a f;rw[evalPart_some];refine thn (h b s k H _ a f) λu s1 ⟨x,c,d,j,g⟩=>?_;obtain⟨i,rfl,q⟩:=g;obtain⟨t,rfl⟩:=j;exact⟨O i,c,d,.int i t,q⟩
def SlR (X:Cx)(r:V->I Int->I Int->Hp->VK->Prop):Prop:=
 ∀(a:U<|S9×Obj) (s:L8) (f:St) (H:Hp) (x:V) (v c d:L) (lo hi:I Int) (b:S9) (Q:VK),Inv X a f H s->RelV x v->s.heap.IsSliceOf b c d .none->NL c lo->NL d hi->r x lo hi H Q ->
  ∃T id,typeLookup (.type T) "__getitem__"=pure (O<|.builtin id)/\s.TypeIs v T/\Tc (Mb X.prog X.w) X.A (NM v<|.ref b) (EP X a f Q) X.xe s
theorem SlR.or {r f:V->I Int->I Int->Hp->VK->Prop}(h:SlR X r)(m:SlR X f):SlR X (λx lo hi H Q=>r x lo hi H Q\/f x lo hi H Q):=by
 intro b s l H x v j k lo hi i Q a g c d pu q;rcases q with q|q
 .exact h b s l H x v j k lo hi i Q a g c d pu q
 .exact m b s l H x v j k lo hi i Q a g c d pu q
def tSl (r:V->I Int->I Int->Hp->VK->Prop)(te:TE)(tl th:TO):TE:=λa H Q=>te a H λx b=>tl a b λl c=>th a c λu d=>r x l u d Q
theorem fN {r:V->I Int->I Int->Hp->VK->Prop}(D:SlR X r)(y:PE X e te)(B:PO X lo tl)(G:PO X hi th):PE X (.Subscript e (.Slice lo hi J p2) pos) (tSl r te tl th):=by intro c s f H Q a h;refine Subscript_<|thn (y c s f H _ a h) λv s1 ⟨x,k,n,r1,N⟩=>?_;refine wpAny_Slice<|thn (B c s1 f k _ n N) λg s2 ⟨l,m,o,M,P⟩=>thn (G c s2 f m _ o P) λi d ⟨u,j,p,pu,Z⟩=>?_;rw[evalPart_none];refine Mf ?_;have t:Inv X c f j {d with heap:=d.heap.push {cls:=.type "slice",data:=.fields #[g,i,.none]}}:=p.kept (t':=d.toks) λb ob q=>Heap.get?_push_of_some _ q;obtain⟨T,id,hT,F,z⟩:=D c {d with heap:=d.heap.push {cls:=.type "slice",data:=.fields #[g,i,.none]}} f j x v g i l u d.heap.objs.size Q t r1 (Heap.IsSliceOf.new ..) M pu Z;show Tc (Mb X.prog X.w) X.A (T9 e (.Slice lo hi J p2) v<|.ref d.heap.objs.size) (EP X c f Q) X.xe {d with heap:=d.heap.push {cls:=.type "slice",data:=.fields #[g,i,.none]}};exact tail_any (ops:=[.ref d.heap.objs.size,v]) F hT z<|by with_unfolding_all rfl
def ej (a:U V)(lo hi:I Int):U V:=(a.drop<|HT.sIx a.length 0 lo).take<|HT.sIx a.length a.length hi-HT.sIx a.length 0 lo
theorem cX (a:U V)(lo hi:I Int):(ej a lo hi).length<=a.length:=by unfold ej;rw[NO,Pq];lia
def LM (K:L9):V->I Int->I Int->Hp->VK->Prop:=λx lo hi H Q=>∃a b,x=.ref a/\SqT K H a b /\
 ¬(HT.sIx b.length 0 lo=0/\HT.sIx b.length b.length hi=b.length)/\∀p,H p=J->Q (.ref p) (upd H p<|.tup<|ej b lo hi)
theorem EJ:SlR X (LM X.K):=by
 intro k s z H x v w y lo hi u Q c p l n pu h;obtain⟨a,f,rfl,hx,m,q⟩:=h;cases p;obtain⟨g,r,i,j⟩:=c.tuple hx;have d:g.toArray.size=f.length:=by rw[Mx];exact r.length.symm
 refine⟨"tuple",_,Pr.lookup,i.typeIs,?_⟩;refine HT.getItem_tuple_cut i l n pu (by rw[d];exact m) ?_ (by rw[d];exact j);rw[d];refine⟨.ref s.heap.objs.size,_,c.laid (t':=s.toks) (o:=.tup<|ej f lo hi) (λb t q=>Heap.get?_push_of_some _ q) (Mi _) ?_,rfl,q _<|c.hok.fresh<|Mi _⟩;exact⟨Mt (cX f lo hi) j,_,(r.drop<|HT.sIx f.length 0 lo).take<|HT.sIx f.length f.length hi-HT.sIx f.length 0 lo,IsTup.new _ _⟩
def Iq (K:L9):R2:=λx y H Q=>∃a b d c,x=.ref a/\y=.ref b/\SqT K H a d/\SqT K H b c/\d≠[]/\d.length+c.length<=sizeLine /\
 (c=[]->Q (.ref a) H)/\(c≠[]->∀p,H p=J->Q (.ref p) (upd H p<|.tup<|d++c))
theorem Vals.nil_iff {b:U V}{a:U L}(r:Vals b a):a=[] ↔ b=[]:=by
 cases r with
 |nil=>simp
 |cons _ _=>simp
theorem AV:OpR X (M6 .Add) (Iq X.K):=by intro j s G H x y v u Q c t A h;obtain⟨a,b,B,D,rfl,rfl,k,l,hx,g,p,r⟩:=h;cases t;cases A;obtain⟨m,f,n,_⟩:=c.tuple k;obtain⟨i,d,p2,_⟩:=c.tuple l;refine HT.cat_tup n p2 (λz=>hx<|f.nil_iff.mp z) (λz=>⟨.ref a,H,c,rfl,p<|d.nil_iff.mp z⟩) (λz=>?_) (by rw[<- f.length,<- d.length];exact g);refine⟨.ref s.heap.objs.size,_,c.laid (t':=s.toks) (o:=.tup<|B++D) (λb F q=>Heap.get?_push_of_some _ q) (Mi _) ?_,rfl,r (λw=>z<|d.nil_iff.mpr w) _<|c.hok.fresh<|Mi _⟩;exact⟨by rw[MA];exact g,_,f.append d,IsTup.new _ _⟩
end
def ixN (n:Y)(i:Int):I Y:=if 0<=i then(if i<n then O i.toNat else J) else if -(n:Int)<=i then O (i+n).toNat else J
def atI {b:Type}(a:U b)(i:Int):I b:=(ixN a.length i).bind λj=>a[j]?
theorem A8 {n:Y}{i:Int}{j:Y}(h:ixN n i=O j):seqIndex? i n=O j/\j<n/\-(n:Int)<=i/\i<n:=by
 unfold ixN at h;by_cases b:0<=i
 .rw [Tf b] at h;by_cases a:i<n
  .rw [Tf a] at h;have e:i.toNat=j:=MY h;exact⟨by rw[seqIndex_of b a,e],by lia,by lia,a⟩
  .rw[Ti a] at h;cases h
 .rw [Ti b] at h;by_cases a:-(n:Int)<=i
  .rw [Tf a] at h;have e:(i+n).toNat=j:=MY h;exact⟨by rw[seqIndex_neg (by lia) a,e],by lia,a,by lia⟩
  .rw[Ti a] at h;cases h
theorem lD {b:Type}{a:U b}{i:Int}{v:b}(h:atI a i=O v):∃j,seqIndex? i a.length=O j/\a[j]?=O v/\j<a.length/\-(a.length:Int)<=i/\i<a.length:=by
 unfold atI at h;cases e:ixN a.length i with
 |none=>rw[e] at h;cases h
 |some j=>rw[e] at h;obtain⟨c,d,f,g⟩:=A8 e;exact⟨j,c,h,d,f,g⟩
def hU (b:Tq):Prop:=∀o i,P9 b L5 o i=operate [o,i] (NM o i)
def IxR (X:Cx)(r:R2):Prop:=
 ∀(c a:Tq) (b:U<|S9×Obj) (s:L8) (d:St) (H:Hp) (x y:V) (v u:L) (Q:VK),Inv X b d H s->RelV x v->RelV y u->r x y H Q ->
  P9 a L5 v u=operate [v,u] (NM v u)->Tc (Mb X.prog X.w) X.A (T9 c a v u) (EP X b d Q) X.xe s
def MtR (X:Cx)(id:Tu)(r:V->U V->Hp->VK->Prop):Prop:=
 ∀(a:U<|S9×Obj) (s:L8) (d:St) (H:Hp) (x:V) (c:U V) (v:L) (b:U L) (Q:VK),Inv X a d H s->RelV x v->Vals c b->r x c H Q ->
  Tc (Mb X.prog X.w) X.A (call (.builtin id) (v::b)) (EP X a d Q) X.xe s
section
variable {X:Cx}{a b:Tq}{ta tb:TE}{pos:Pos}
theorem IxR.or {r i:R2}(h:IxR X r)(m:IxR X i):IxR X (λx y H Q=>r x y H Q\/i x y H Q):=by
 intro e d f s l H x y v u Q c j k q g;rcases q with q|q
 .exact h e d f s l H x y v u Q c j k q g
 .exact m e d f s l H x y v u Q c j k q g
theorem Ct {r:R2}(j:IxR X r)(g:PE X a ta)(i:PE X b tb)(k:hU b):PE X (.Subscript a b pos) (tOp r ta tb):=by intro d s o H Q c h;exact Subscript_<|ET g i c h λv u n x y e f l m q=>j a b d n o e x y v u Q f l m q<|k _ _
def Kp (K:L9):R2:=λx y H Q=>∃p c i v,x=.ref p/\y=.int i/\SqL K H p c/\atI c i=O v/\Q v H
def LU (K:L9):R2:=λx y H Q=>∃p c i v,x=.ref p/\y=.int i/\SqT K H p c/\atI c i=O v/\Q v H
noncomputable def KC:R2:=λx y H Q=>∃z i c,x=.str z/\y=.int i/\z.length<=sizeLine/\atI z.cps.toList i=O c/\Q (.str ⟨#[c]⟩) H
theorem Bs:IxR X (Kp X.K):=by
 intro o n d s F H x y v u Q c rx ry h D;obtain⟨p,xs,i,z,rfl,rfl,hq,P,q⟩:=h;cases rx;obtain⟨t,rfl⟩:=ry;obtain⟨k,r,l,hz⟩:=c.list hq;obtain⟨j,f,G,h3,M,N⟩:=lD P;obtain⟨w,A,m⟩:=r.get G;have Z:=r.length;have hn:=jd;have e:EP X d F Q w s:=⟨z,H,c,m,q⟩;by_cases B:0<=i
 .have g:i.toNat=j:=by rw[seqIndex_of B N] at f;exact MY f
  exact item_listR l.isList B (by lia) (by rw[g];simpa using A) e D
 .have g:(i+(k.toArray.size:Int)).toNat=j:=by rw[seqIndex_neg (by lia) M] at f;rw[Mx,<- Z];exact MY f
  exact T3 (x:=w) l.isList.typeIs slot_list_getitem.lookup
   (wpAny_getItem_list_neg (Q:=λr s'=>r=w/\EP X d F Q r s') l.isList (by lia) (by rw[Mx]<;>lia) (by lia) (by rw[g];simpa using A) ⟨rfl,e⟩) D
theorem DN:IxR X (LU X.K):=by
 intro k g d s m H x y v u Q c N P h G;obtain⟨p,xs,i,z,rfl,rfl,F,B,q⟩:=h;cases N;obtain⟨t,rfl⟩:=P;obtain⟨M,r,l,hz⟩:=c.tuple F;obtain⟨j,o,A,h3,h4,h5⟩:=lD B;obtain⟨w,n,f⟩:=r.get A;have D:=r.length;have hn:=jd;have e:EP X d m Q w s:=⟨z,H,c,f,q⟩
 exact T3 (x:=w) l.typeIs slot_tuple_getitem.lookup
  (getItem_tuple (j:=j) (Q:=λr Z=>r=w/\EP X d m Q r Z) l (by lia) (by lia) (by rw[Mx,<- D];exact o) (by simpa using n) ⟨rfl,e⟩) G
theorem GI:IxR X KC:=by
 intro f e k s M H x y v u Q d w A h r;obtain⟨z,i,c,rfl,rfl,F,o,q⟩:=h;obtain⟨t,rfl⟩:=w;obtain⟨G,rfl⟩:=A;obtain⟨j,g,l,B,m,n⟩:=lD o;have p:z.cps.toList.length=z.length:=by simp[Str.length]
 rw[p] at g m n;have D:=jd
 exact tail_any (typeIs_str s z t) slot_str_getitem.lookup (getItem_str (c:=c) (by
  have e1:decide (i < -(2 ^ 63:Int))=false:=Tt (by lia);have e2:decide (i >= 2 ^ 63)=false:=Tt (by lia);rw[e1,e2,Mo]) (by rw[g];simpa using l) ⟨.str ⟨#[c]⟩,H,d.tok _,⟨_,rfl⟩,q⟩) r
theorem kj (lo c:I Int)(n:Y):(OJ lo c J n).1=((HT.sIx n 0 lo:Y):Int)/\(OJ lo c J n).2.1=((HT.sIx n n c:Y):Int)/\(OJ lo c J n).2.2=1:=by
 refine⟨?_,?_,rfl⟩
 .cases lo with
  |none=>simp[OJ,HT.sIx]
  |some i=>
   simp only[OJ,HT.sIx,Sx,show(1:Int)>0 by decide,TF];by_cases h:i<0
   .simp only[h,TF]<;>lia
   .simp only[h,TR]<;>lia
 .cases c with
  |none=>simp[OJ,HT.sIx]
  |some i=>
   simp only[OJ,HT.sIx,Sx,show(1:Int)>0 by decide,TF];by_cases h:i<0
   .simp only[h,TF]<;>lia
   .simp only[h,TR]<;>lia
theorem jy (c:U L)(lo d:I Int):slicePick c.toArray lo d J=((c.drop<|HT.sIx c.length 0 lo).take<|HT.sIx c.length c.length d-HT.sIx c.length 0 lo).toArray:=by obtain⟨e,f,g⟩:=kj lo d c.toArray.size;unfold slicePick;rw[e,f,g];simp only[sliceRange_one,pick_run,Mx]<;>rfl
def Ap (K:L9):V->I Int->I Int->Hp->VK->Prop:=λx lo d H Q=>∃a c,x=.ref a/\SqL K H a c/\∀p,H p=J->Q (.ref p) (upd H p<|.lst<|ej c lo d)
theorem sl_list:SlR X (Ap X.K):=by intro i s y H x v u w lo f t Q c n j m pu h;obtain⟨a,d,rfl,hx,q⟩:=h;cases n;obtain⟨l,r,g,k⟩:=c.list hx;have e:=r.length;refine⟨"list",_,slot_list_getitem.lookup,g.isList.typeIs,?_⟩;refine wpAny_getItem_list_slice g.isList j m pu .none (by simp) ?_ (by rw[Mx]<;>lia);rw[jy,<- e];refine⟨.ref s.heap.objs.size,_,c.laid (t':=s.toks) (o:=.lst<|ej d lo f) (λb p q=>Heap.get?_push_of_some _ q) (Mi _) ?_,rfl,q _<|c.hok.fresh<|Mi _⟩;exact⟨Mt (cX d lo f) k,_,0,(r.drop<|HT.sIx d.length 0 lo).take<|HT.sIx d.length d.length f-HT.sIx d.length 0 lo,Heap.get?_push_size _ rfl⟩
noncomputable def ef:V->Ta
|.non=>L7
|.bl _=>L7
|.int _=>L7
|.str _=>L7
|_=>L5
noncomputable def eqV:V->V->Ta
|.non,.non=>L7
|.bl a,.bl b=>a==b
|.bl a,.int b=>(if a then 1 else 0)==b
|.int a,.bl b=>a==(if b then 1 else 0)
|.int a,.int b=>a==b
|.str a,.str b=>a==b
|_,_=>L5
theorem ER {A:Mh}{s:L8}{y x:V}{u v:L}(f:RelV y u)(c:RelV x v)(g:ef y=L7)(e:ef x=L7):SeqAt.EqAt A s u v (eqV y x):=by
 cases y with
 |non=>
  cases f;cases x with
  |non=>cases c;exact SeqAt.EqAt.same _
  |bl b=>cases c;exact SeqAt.EqAt.none_bool b
  |int b=>obtain⟨t,rfl⟩:=c;exact SeqAt.EqAt.none_int b t
  |str b=>obtain⟨t,rfl⟩:=c;exact SeqAt.EqAt.none_str b t
  |_=>exact Tg (show L5=L7 from e) MJ
 |bl a=>
  cases f;cases x with
  |non=>cases c;exact SeqAt.EqAt.bool_none a
  |bl b=>cases c;exact SeqAt.EqAt.bool_bool a b
  |int b=>obtain⟨t,rfl⟩:=c;exact SeqAt.EqAt.bool_int a b t
  |str b=>obtain⟨t,rfl⟩:=c;exact SeqAt.EqAt.bool_str a b t
  |_=>exact Tg (show L5=L7 from e) MJ
 |int a=>
  obtain⟨d,rfl⟩:=f;cases x with
  |non=>cases c;exact SeqAt.EqAt.int_none a d
  |bl b=>cases c;exact SeqAt.EqAt.int_bool a d b
  |int b=>obtain⟨t,rfl⟩:=c;exact SeqAt.EqAt.int_int a d b t
  |str b=>obtain⟨t,rfl⟩:=c;exact SeqAt.EqAt.int_str a d b t
  |_=>exact Tg (show L5=L7 from e) MJ
 |str a=>
  obtain⟨d,rfl⟩:=f;cases x with
  |non=>cases c;exact SeqAt.EqAt.str_none a d
  |bl b=>cases c;exact SeqAt.EqAt.str_bool a d b
  |int b=>obtain⟨t,rfl⟩:=c;exact SeqAt.EqAt.str_int a d b t
  |str b=>obtain⟨t,rfl⟩:=c;exact SeqAt.EqAt.str_str a d b t
  |_=>exact Tg (show L5=L7 from e) MJ
 |_=>exact Tg (show L5=L7 from g) MJ
def eqU (x:V)(u:L):Ta:=match u with
|.none=>eqV .non x
|.bool b=>eqV (.bl b) x
|.int i _=>eqV (.int i) x
|.str z _=>eqV (.str z) x
|_=>L5
theorem n6 {x y:V}{u:L}(r:RelV y u)(f:ef y=L7):eqU x u=eqV y x:=by
 cases y with
 |non=>cases r;rfl
 |bl b=>cases r;rfl
 |int i=>obtain⟨t,rfl⟩:=r;rfl
 |str z=>obtain⟨t,rfl⟩:=r;rfl
 |_=>exact Tg (show L5=L7 from f) MJ
theorem kq {x:V}:∀{c:U V} {d:U L},Vals c d->c.all ef=L7->d.any (eqU x)=c.any λy=>eqV y x
|_,_,.nil,_=>rfl
|y::c,u::d,.cons r t,f=>by rw[MC,Mv] at f;rw[Mn,Mn,n6 r f.1,kq t f.2]
theorem fM {A:Mh}{s:L8}{x:V}{v:L}(h:RelV x v)(g:ef x=L7):∀{e:U V} {d:U L},Vals e d->e.all ef=L7->∀u∈d,SeqAt.EqAt A s u v<|eqU x u
|_,_,.nil,_=>λu c=>by cases c
|y::e,u::d,.cons r t,f=>λi c=>by
 rw[MC,Mv] at f;rcases Mm.mp c with rfl|c
 .rw[n6 r f.1];exact ER r h f.1 g
 .exact fM h g t f.2 i c
def inV (x:V)(c:U V):Ta:=c.any λy=>eqV y x
def rIn (K:L9)(d:Ta):R2:=λx y H Q=>∃p c,y=.ref p/\(SqL K H p c\/SqT K H p c)/\ef x=L7/\c.all ef=L7/\Q (.bl<|if d then !inV x c else inV x c) H
theorem rE:OpR X (M7 .In) (rIn X.K L5):=by
 intro j s o H x y v u Q c k m h;obtain⟨p,n,rfl,e,i,fs,q⟩:=h;cases m;rcases e with e|e
 .obtain ⟨d,r,g,l⟩:=c.list e;refine SeqAt.in_listAt (eqU x) g.isList (λw f=>fM k i r fs w<|by simpa using f) ⟨.bl _,H,c,rfl,?_⟩;rw[show d.toArray.any (eqU x)=d.any (eqU x) by simp,kq r fs];exact q
 .obtain ⟨d,r,g,l⟩:=c.tuple e;refine SeqAt.in_tupleAt (eqU x) g (λw f=>fM k i r fs w<|by simpa using f) ⟨.bl _,H,c,rfl,?_⟩;rw[show d.toArray.any (eqU x)=d.any (eqU x) by simp,kq r fs];exact q
theorem lq:bW X (.type "list") (λF H Q=>∃p j,F=[.ref p]/\(SqL X.K H p j\/SqT X.K H p j)/\∀l,H l=J->Q (.ref l) (upd H l<|.lst j)):=by
 intro y s M H F N Q c r h;obtain⟨p,j,rfl,t,q⟩:=h;obtain⟨u,rfl,G⟩:=cU r;cases G
 have k:∀(d:U L),Vals j d->j.length<=sizeLine->∀(f:To) (g:Y),(∀b D,s.heap.get? b=O D->f.get? b=O D) ->
   f.get? s.heap.objs.size=O {cls:=.type "list",dict:=J,data:=.seq d.toArray g,slots:=#[]}->EP X y M Q (.ref s.heap.objs.size) {s with heap:=f}:=λd i v f g x e=>
  ⟨.ref s.heap.objs.size,_,c.laid (t':=s.toks) x (Mi _)<|show ObjOk X.prog X.w _ f _ (.lst j) from⟨v,d,g,i,e⟩,rfl,q _<|c.hok.fresh<|Mi _⟩
 rcases t with t|t
 .obtain ⟨d,i,B,v⟩:=c.list t;have m:=i.length;obtain⟨o,ho,z,n,A⟩:=B.isList;exact call_list_seq p (.inl rfl) ho z A (λf g x e=>k d i v f g x e)<|by simp only[Mx]<;>lia
 .obtain ⟨d,i,B,v⟩:=c.tuple t;have m:=i.length;obtain⟨o,ho,z,n,A⟩:=B;exact call_list_seq p (.inr rfl) ho z A (λf g x e=>k d i v f g x e)<|by simp only[Mx]<;>lia
theorem jw:bW X (.type "tuple") (λx H Q=>∃p g,x=[.ref p]/\((SqL X.K H p g/\∀l,H l=J->Q (.ref l) (upd H l<|.tup g))\/(SqT X.K H p g/\Q (.ref p) H))):=by
 intro d s y H x D Q c r h;obtain⟨p,g,rfl,h⟩:=h;obtain⟨u,rfl,B⟩:=cU r;cases B;rcases h with⟨j,q⟩|⟨j,q⟩
 .obtain ⟨f,m,k,v⟩:=c.list j;have t:=m.length;refine call_tuple_list k.isList (λi A=>?_) (by simp only[Mx]<;>lia);have n:Inv X d y H {s with heap:=i}:=c.kept (t':=s.toks) A
  have z:Inv X d y (upd H i.objs.size (.tup g)) {s with heap:=i.push {cls:=.type "tuple",data:=.seq f.toArray}}:=
   n.laid (t':=s.toks) (λb o e=>Heap.get?_push_of_some _ e) (Mi _) (show ObjOk X.prog X.w _ _ _ (.tup g) from⟨v,f,m,IsTup.new _ _⟩)
  exact⟨.ref i.objs.size,_,z,rfl,q _<|n.hok.fresh<|Mi _⟩
 .obtain ⟨f,m,k,v⟩:=c.tuple j;exact call_tuple_same k ⟨.ref p,H,c,rfl,q⟩
def tyV (K:L9)(T:Tu)(x:V)(H:Hp):Prop:=match x with
|.str _=>T="str"
|.int _=>T="int"
| .ref p=>(T="list"/\∃ d,SqL K H p d)\/(T="tuple"/\∃ o,K.lookup p=O o/\o.cls=.type "tuple"/\o.dict=J) \/
  (T="dict"/\((∃c,H p=O (.dK c))\/∃c,H p=O (.dT c)))\/(T="set"/\∃S n,H p=O (.set S n))
|_=>Tw
theorem C1 {g:U<|S9×Obj}{y:St}{H:Hp}{s:L8}{T:Tu}{x:V}{v:L}(d:Inv X g y H s)(r:RelV x v)(ty:tyV X.K T x H):
  s.TypeIs v T/\∀a,v=.ref a->∃k,s.heap.get? a=O k/\k.dict=none:=by
 cases x with
 |str z=>obtain⟨t,rfl⟩:=r;cases(show T="str" from ty);exact⟨typeIs_str s z t,λ_ e=>nomatch e⟩
 |int i=>obtain⟨t,rfl⟩:=r;cases(show T="int" from ty);exact⟨typeIs_int s i t,λ_ e=>nomatch e⟩
 | ref p =>
  cases r;rcases ty with⟨rfl,A,u⟩|⟨rfl,o,hk,m,h⟩|⟨rfl,hk⟩|⟨rfl,S,n,hk⟩
  .obtain ⟨w,_,l,_⟩:=d.list u;refine⟨l.isList.typeIs,λa e=>?_⟩;cases e;obtain⟨o,n,e,c,h,_⟩:=l;exact⟨o,e,h⟩
  .refine ⟨⟨o,d.kIn p o hk,m⟩,fun a e=>?_⟩;cases e;exact⟨o,d.kIn _ o hk,h⟩
  .have z:∃ o,s.heap.get? p=O o/\o.ExactDict:=by
    rcases hk with⟨j,hk⟩|⟨j,hk⟩
    .obtain ⟨_,_,_,_,o,_,_,e,f,_⟩:=d.hok p _ hk;exact⟨o,e,f⟩
    .obtain ⟨_,_,_,_,o,_,_,e,f,_⟩:=d.hok p _ hk;exact⟨o,e,f⟩
   obtain⟨o,e,f⟩:=z;refine⟨⟨o,e,f.1⟩,λa e2=>?_⟩;cases e2;exact⟨o,e,f.2.1⟩
  .obtain ⟨o,_,_,_,e,f,_⟩:=d.hok p _ hk;refine⟨⟨o,e,f.1⟩,λa e2=>?_⟩;cases e2;exact⟨o,e,f.2.1⟩
 |_=>exact MQ ty
def tBM (K:L9)(T:Tu)(r:V->U V->Hp->VK->Prop)(to:TE)(t:TA):TE:=λd H Q=>to d H λx c=>tyV K T x c/\t d c λf e=>r x f e Q
variable {o e:Tq}{es:U Tq}{to:TE}{t:TA}{name:Str}{apos cpos:Pos}{T id:Tu}{r:V->U V->Hp->VK->Prop}
theorem pT (M:PlainAttrs T)(k:Slot T name id)(l:typeOf (.builtin id)=pure (.type "method_descriptor"))(F:MtR X id r)(ho:PE X o to)(D:PA X (e::es) t)
  (g:NT o name X.env (Tx o X.env)=Tx o X.env:=by rfl)
  (j:((Mp cpos<|Me (e::es) X.env).all (λx=>!x.1)&&(OW cpos<|O8 [] X.env).all (λx=>x.1.isSome)
  &&decide ((e::es).length+([]:U Od).length+(if([]:U Od).isEmpty then 0 else 1)<30))=true:=by rfl)
  (i:(apos.endLine==cpos.line)=true:=by rfl) (G:Me (e::es) X.env=(L5,Tx e X.env)::Me es X.env:=by rfl) (f:(Mp cpos<|Me es X.env).any (·.1)=false:=by rfl):
  PE X (.Call (.Attribute o name apos) (e::es) [] cpos) (tBM X.K T r to t):=by
 intro d s m H Q c h;refine wpAny_Call_method_late g j i rfl (thn (ho d s m H _ c h) λv s1 ⟨x,w,n,u,ty,N⟩=>?_);obtain⟨A,B⟩:=C1 n u ty;refine⟨T,id,M,k,l,A,B,?_⟩;have p:=D cpos d s1 m w _ n N;rw[G] at p ⊢;refine Calls.callWith_builtin (by show(L5 || (Mp cpos<|Me es X.env).any (·.1))=L5;rw[f]<;>rfl)<|Calls.evalArgs_plain ?_;exact thn p λus s2 ⟨vs,y,z,Z,P⟩=>F d s2 m y x vs v us Q z u Z P
end
def MtM (X:Cx)(id:Tu)(r:V->U V->Hp->VK->Prop):Prop:=
 ∀(a:U<|S9×Obj) (s:L8) (d:St) (H:Hp) (x:V) (c:U V) (v:L) (b:U L) (Q:VK),Inv X a d H s->RelV x v->Vals c b->r x c H Q ->
  Tc (Mb X.prog X.w) X.A (call (.builtin id) (v::b)) (EP X a d Q) X.xe s
theorem Vals.one:∀{x:V} {a:U L},Vals [x] a->∃u,a=[u]/\RelV x u
|_,_,.cons r .nil=>⟨_,rfl,r⟩
theorem Vals.rep {b:U V}{a:U L}(h:Vals b a):∀k:Y,Vals (Mr k b).flatten (Mr k a).flatten
|0=>.nil
|k+1=>by rw[OB,OB,NP,NP];exact Vals.append h<|Vals.rep h k
theorem jP (b:U L):∀(k:Y) (a:U L),
 QE (λc d=>c++d) a.toArray (Mr k b.toArray)=(a++(Mr k b).flatten).toArray
|0,a=>by simp
| k+1,a=>by
 have e:a.toArray++b.toArray=(a++b).toArray:=by simp
 have e2:(a++b)++(Mr k b).flatten=a++(Mr (k+1) b).flatten:=by rw[OB,NP,N0]
 rw[<- e2,<- jP b k (a++b),<- e,OB,List.foldl_cons]
section
variable {X:Cx}{pins:U (S9×Obj)}{σ:St}{H:Hp}{s:L8}{l b:S9}{xs ys zs:U V}
theorem Inv.lset {c its':U L}{n:Y}{f:Tv L->Tv L}{m:Y}(a:Inv X pins σ H s)(d:H l=O (.lst xs))
  (e:s.heap.get? l=O {cls:=.type "list",data:=.seq c.toArray n}) (h:f c.toArray=its'.toArray) (j:Vals ys its') (k:ys.length<=sizeLine):
  Inv X pins σ (upd H l<|.lst ys) {s with heap:=s.heap.update l<|Obj.mapSeq f,toks:=m}:=by
 have q:=PySem.IsL.update e f;rw[h] at q;refine a.write (x:=l) (e:=l) (by rw[d];exact trivial) (.inl rfl) (λo u g i=>(Heap.get?_update_other s.heap (Obj.mapSeq f)<|MI g).trans i) ⟨_,q⟩ ?_;exact⟨k,its',_,j,q⟩
theorem Inv.lnew {c:U L}{t':Y}(a:Inv X pins σ H s)(d:Vals ys c)(e:ys.length<=sizeLine):
  Inv X pins σ (upd H s.heap.objs.size<|.lst ys) {s with heap:=s.heap.push {cls:=.type "list",data:=.seq c.toArray},toks:=t'}:=
 a.laid (λ_ _ q=>Heap.get?_push_of_some _ q) (Mi _) ⟨e,c,0,d,Heap.get?_push_size _ rfl⟩
theorem Inv.fresh (a:Inv X pins σ H s):H s.heap.objs.size=none:=a.hok.fresh<|Mi _
theorem Inv.lstM (a:Inv X pins σ H s)(d:H l=O (.lst xs)):xs.length<=sizeLine/\∃(c:U L) (n:Y),Vals xs c/\xs.length=c.length/\s.heap.get? l=O {cls:=.type "list",data:=.seq c.toArray n}:=by obtain⟨z,c,n,r,e⟩:=a.hok l _ d;exact⟨z,c,n,r,r.length,e⟩
theorem lW {n:Y}(h:n<=sizeLine):Builtin.List.listTooLong n=false:=by unfold Builtin.List.listTooLong;exact Tt<|by lia
end
section
variable {X:Cx}
def yF:V->U V->Hp->VK->Prop:=λx b H Q=>∃l a y,x=.ref l/\b=[y]/\H l=O (.lst a)/\a.length<sizeLine/\Q .non (upd H l<|.lst<|a++[y])
theorem jC:MtM X "list.append" yF:=by intro d s t H x o v m Q a i g h;obtain⟨l,p,y,rfl,rfl,c,k,q⟩:=h;cases i;obtain⟨u,rfl,f⟩:=g.one;obtain⟨z,b,n,r,j,e⟩:=a.lstM c;refine Pt F.slot_list_append ⟨_,e,rfl⟩ F.entry_list_append (F.args_list_append_2 _ _) (PySem.list_append l b.toArray n u<|by rw[Mx];lia) ⟨e,?_⟩;refine⟨.non,_,a.lset (its':=b++[u]) c e (by simp) (r.append<|.cons f .nil) ?_,rfl,q⟩;rw[MA,NG];lia
def AX:V->U V->Hp->VK->Prop:=λx d H Q=>∃l b a c,x=.ref l/\d=[.ref b]/\H l=O (.lst a)/\H b=O (.lst c)/\a.length+c.length<=sizeLine/\Q .non (upd H l<|.lst<|a++c)
theorem tJ:MtM X "list.extend" AX:=by
 intro j s Z H x G v D Q a y w h;obtain⟨l,b,M,P,rfl,rfl,i,k,B,q⟩:=h;cases y;obtain⟨u,rfl,t⟩:=w.one;cases t;obtain⟨z,d,n,r,A,e⟩:=a.lstM i;obtain⟨N,c,o,p,m,e2⟩:=a.lstM k;have g:d.toArray.size+c.toArray.size<=sizeLine:=by rw[Mx,Mx];lia
 have f:¬(!d.toArray.isEmpty&&Builtin.List.listTooLong (d.toArray.size+c.toArray.size))=true:=by rw[lW g,QJ];exact MJ
 refine Pt F.slot_list_extend ⟨_,e,rfl⟩ F.entry_list_extend (F.args_list_extend_2 _ _)
  (AutoSeq1.list_extend_list_list_0 l d.toArray n b c.toArray o f (by rw[Mx];lia)<|by lia) ⟨e,e2,?_⟩
 refine⟨.non,_,a.lset (its':=d++c) i e (by simp) (r.append p) ?_,rfl,q⟩;rw[MA];lia
def Kb:R2:=λx y H Q=>∃l b a c,x=.ref l/\y=.ref b/\H l=O (.lst a)/\H b=O (.lst c)/\a.length+c.length<=sizeLine/\∀p,H p=J->Q (.ref p) (upd H p<|.lst<|a++c)
theorem op_cat:OpR X (M6 .Add) Kb:=by
 intro f s G H x y v u Q a o p h;obtain⟨l,b,B,F,rfl,rfl,j,i,w,q⟩:=h;cases o;cases p;obtain⟨z,d,n,r,t,e⟩:=a.lstM j;obtain⟨D,c,A,m,k,e2⟩:=a.lstM i;refine PySem.P.add_list e e2 ?_ (by rw[Mx,Mx];lia);have g:d.toArray++c.toArray=(d++c).toArray:=by simp
 rw[g];exact⟨.ref _,_,a.lnew (t':=s.toks) (r.append m)<|by rw[MA];lia,rfl,q _ a.fresh⟩
def IJ:R2:=λx y H Q=>∃l k a,x=.ref l/\y=.int k/\H l=O (.lst a)/\-(2 ^ 63)<=k/\k<2 ^ 63/\a.length * k.toNat<=sizeLine /\
 ∀p,H p=J->Q (.ref p) (upd H p<|.lst (Mr k.toNat a).flatten)
theorem yn {c:Type}(a:U c)(k:Y):(Mr k a).flatten.length=k * a.length:=by
 induction k with
 |zero=>simp
 |succ k b=>rw[OB,NP,MA,b,Nat.succ_mul,Qe]
theorem Gb:OpR X (M6 .Mult) IJ:=by
 intro A s σ H x y v u Q b P Z h;obtain⟨l,k,xs,rfl,rfl,M,D,G,w,q⟩:=h;cases P;obtain⟨t,rfl⟩:=Z;obtain⟨z,c,n,r,N,e⟩:=b.lstM M;have i:c.toArray.size * k.toNat<=sizeLine:=by rw[Mx,<- N];exact w
 have f:¬c.toArray.size * k.toNat>(2 ^ 63-1) / 8:=by
  have:(sizeLine:Y)<=(2 ^ 63-1) / 8:=by decide
  lia
 have g:¬(!Builtin.List.listFitsIndex k)=true:=by rw[fitsIndex_both D G];exact MJ
 have d:¬Builtin.List.listTooLong (c.toArray.size * k.toNat)=true:=by rw[lW i];exact MJ
 have j:QE (λo p=>o++p) #[] (Mr (if c.toArray.isEmpty=L7 then 0 else k.toNat) c.toArray)=(Mr k.toNat c).flatten.toArray:=by
  have B:∀m:Y,QE (λo p=>o++p) #[] (Mr m c.toArray)=(Mr m c).flatten.toArray:=λm=>by have:=jP c m [];rw[MU] at this;exact this
  rw[B];cases c with
  |nil=>simp
  |cons a r'=>rw[Ti<|by simp]
 refine wpAny_binaryOp_repeat_ref (T:="list") (U:="int") (by decide) ⟨_,e,rfl⟩ (λs'=>typeIs_int s' k t) noFill_list_mul F.fills_int_mul F.slot_int_rmul repeat_list F.slot_int_index.lookup
  (Pt F.slot_int_rmul (typeIs_int s k t) F.entry_int_rmul (F.args_int_rmul_2 _ _) (int___rmul___int_list k t l c.toArray n)
   ⟨e,rfl,⟨_,e,rfl⟩,Pt F.slot_list_mul ⟨_,e,rfl⟩ F.entry_list_mul (F.args_list_mul_2 _ _) (AutoListH.list___mul___list_int_3 l c.toArray n k t g f d) ⟨e,?_⟩⟩)
 rw[j];exact⟨.ref _,_,b.lnew (t':=s.toks) (r.rep k.toNat)<|by rw[yn,Rw];exact w,rfl,q _ b.fresh⟩
end
end L2
namespace Att
open PySem PySem.W PySem.Calls PyProof.Rows
theorem gK {P:MM}{h:To}:∀(c:U Int) (d:U L),WellAll P h d (c.map WData.int)->TN d c:=by
 intro c;induction c with
 |nil=>intro d w;rw[Oz] at w;cases w;exact .nil
 | cons n c e =>
  intro d w;rw[ME] at w;cases w with
  |cons a b=>cases a;exact .cons _ _<|e _ b
theorem qZ {l:OpenLaw}{n:Y}(v:l.most=O n){P:MM}{h:To}{args:U WData}{e:U L}
  (c:l.row.toRowW.claim.pre args=L7) (m:WellAll P h e args):
  ∃a p b,e=[Value.ref a]/\args=[WData.list<|b.map WData.int]/\h.get? a=O {cls:=.type "list",data:=.seq p.toArray}/\TN p b/\b.length<=n:=by
 have k:WShape.hasAll [] args [.list .int]=true:=(pre_splitW c).1;have o:l.pre.holds [] {args:=args}=true:=(pre_splitW c).2;obtain⟨d,r,rfl,s,t⟩:=hasAllW_cons k;obtain rfl:=hasAllW_nil t;obtain⟨z,rfl,u⟩:=hasW_list s;obtain⟨b,rfl⟩:=items_int u
 have g:b.length<=n:=by
  unfold OpenLaw.pre at o;have i:(WTm.not (.lt (.lit (.int (n:Int))) (.len (.arg 0)))).holds [] {args:=[.list<|b.map .int]}=true:=by have i:=(holds_andW o).1;rw[v] at i;exact i
  have j:=condW_of i<|w_not<|w_lt w_lit<|w_len_list<|w_arg rfl;rw[Mg] at j;refine Sw λq=>?_;have w:(n:Int)<((b.length:Y):Int):=by lia
  first
   |(rw[Te w] at j;exact Tg j<|by decide)
   |(simp at j;lia)
 cases m with
 |cons x y=>
  cases y;cases x with
  |list ho f=>exact⟨_,_,b,rfl,rfl,ho,gK b _ f,g⟩
theorem tF (l:OpenLaw)(args:U WData):l.row.toRowW.claim.post args (.bool L7) args=true:=
 postW_of (r:=l.row.toRowW) (X:=(L7==L7))
  (show WShape.has [] (.bool L7) .bool=L7 by first|rfl|decide|simp[WShape.has,WShape.arms,WShape.armsAll])
  (show(WTm.eq .res<|.lit<|.bool L7).value [] {args:=args,res:=O<|.bool L7,after:=args}=O (.bool<|L7==L7) from w_eq_bool (w_res rfl) w_lit) rfl
theorem attach_call {l:OpenLaw}{n:Y}{q:Td}{e:U Str}{M:(Str->I L)->To->Prop}{N:Mc->To->Prop}{d:DefRec}
  (hn:l.most=O n) (A:d.params.defaults=[])
  (call:∀ (w:Mc) (g c:L8) (v F:Str->I L) (k:S9) (o:Obj) (H u h:L) (a:S9) (j:U L) (x:U Int),
   Ground q e [] M w g v F c.heap->N w c.heap ->
   c.heap.get? k=O o->o.data=.func (docDef d.name d.params d.body d.scope H u h)->c.heap.CodeRec u d.name->v d.name=O (.ref k) ->
   c.heap.get? a=O {cls:=.type "list",data:=.seq j.toArray}->TN j x->x.length<=n->c.gens=#[] ->
   NJ (Mb l.prog w) Oc (.call (.ref k) ⟨[.ref a],[]⟩) (λr y=>r=.ok (.ret<|.bool L7)/\OldK c.heap y.heap/\y.os=c.os/\NN y.gens) c):
  WalkO q e M N l.row.toRowW d [] (λf j=>QD f j):=by
 intro w g c v F G b k o H u h dV kV ho hd z Q B hg P vals as t Z hrd D hlo;obtain rfl:dV=.none:=Dflts.none Q A;obtain rfl:kV=.none:=Dflts.noKw Q;obtain⟨a,j,x,rfl,rfl,p,i,m⟩:=qZ hn t D;refine enter_call<|O9 (call w g c v F k o H u h a j x G b ho (fd_plain hd) z B p i m hg) λr y hq=>?_;obtain⟨rfl,h2,h3,h4⟩:=hq;exact⟨.inl ⟨.bool L7,.bool L7,[],rfl,λ_=>rfl,.bool L7,tF l _,λ_=>⟨S2,λ_ hm=>(nomatch hm)⟩⟩,h2,h3,h4⟩
end Att
namespace L2
open PySem PySem.Spec PyProof.Rows
theorem cq:∀{b:U L} {a:U Int},TN b a->Vals (a.map V.int) b
|_,_,.nil=>.nil
|_,_,.cons n t h=>.cons ⟨t,rfl⟩<|cq h
def xK (H:Hp):Prop:=∀b,H b=J\/∃o a,H b=O (.frz o<|.lst a)
theorem vW {P:Td}{w:Mc}{K:L9}{Q mb:Str->I L}{CX:CXT}{k:Y}{fa a:S9}{fd:MK}{x:Str}{sp:Sp}{c:L8}{t:U L}{Z:U Int}
  (KX:K.In c.heap) (D:c.heap.Ns Ml Q) (g:c.heap.Ns builtinsNs mb) (hbb:∀x:Str,x≠"__name__"->mb x=NI x) (B:c.heap.NoLimit) (hg:c.gens=#[])
  (ha:c.heap.get? a=O {cls:=.type "list",data:=.seq t.toArray}) (hi:TN t Z) (hl:Z.length<=sizeLine) (hr:Room k Oc)
  (F:∀i:To,K.In i->i.Ns Ml Q->FnOk P w K Q i CX k fa fd [x] sp) (p:∀(s:L8) (u:L),Oe s fd ⟨[u],[]⟩ [(x,u)])
  (hsp:∀H:Hp,xK H->SqL K H a (Z.map V.int)->sp [.ref a] H (λv _=>v=.bl L7) λ_ _ _=>Tw)
  (hCX:∀H e j,CX [] H c (λ_ _ _=>Tw) e j->Tw):
  NJ (Mb P w) Oc (.call (.ref fa) ⟨[.ref a],[]⟩) (λr j=>r=.ok (.ret<|.bool L7)/\OldK c.heap j.heap/\j.os=c.os/\NN j.gens) c:=by
 have rv:=cq hi;have N:=hi.length
 -- from an abstract heap in which nothing but the script may be tracked
 have core:∀ H:Hp,xK H->SqL K H a (Z.map V.int)->HOk P w H c.heap->(∀ b,H b≠J->b=a)->(H a≠J->K.lookup a=J) ->
   NJ (Mb P w) Oc (.call (.ref fa) ⟨[.ref a],[]⟩) (λr j=>r=.ok (.ret<|.bool L7)/\OldK c.heap j.heap/\j.os=c.os/\NN j.gens) c:=by
  intro H hO hS G hA hK;have f:∀{b:S9} {o:Obj},c.heap.get? b=O o->H b=J->(ko c.heap H).get? b=O o:=λe n=>t8 e n
  have noA:∀{b:S9} {o:Obj} {y:Tv TH} {ep:Y},c.heap.get? b=O o->o.data=.dict y ep->H b=none:=λ{b o y ep} e d=>by
   cases q:H b with
   |none=>rfl
   |some u=>have e':b=a:=hA b (by rw[q];simp);subst e';rw[ha] at e;cases e;have d':Data.seq t.toArray _=Data.dict y ep:=d;cases d'
  have l:∀{b:S9} {m:Str->I L},c.heap.Ns b m->(ko c.heap H).Ns b m:=λ{b m} ⟨o,y,ep,e,d,r⟩=>⟨o,y,ep,f e<|noA e d,d,r⟩
  have A:K.In (ko c.heap H):=λb o e=>f (KX b o e) (by
   cases q:H b with
   |none=>rfl
   |some u=>
    have e':b=a:=hA b (by rw[q];simp);subst e';rw[hK<|by rw[q];simp] at e;cases e)
  have hM:Mod K Q (ko c.heap H):=⟨A,l D,⟨mb,l g,hbb⟩,let ⟨mc,h1,h2⟩:=B;⟨mc,l h1,h2⟩⟩;have e0:Env0 P w K Q (ko c.heap H) Oc [] c H:=⟨rfl,hM,λb o e=>Bh e,QT<|qX _ _,trivial,λb g=>Tg (show b∈([]:U S9) from g)<|by simp,G,.of_eq hg⟩;refine O9 ((F _ A<|l D).run Oc [] c H ⟨[.ref a],[]⟩ [.ref a] [.ref a] _ _ hr e0 (p c<|.ref a) (.cons rfl .nil)<|hsp H hO hS) λr j h=>?_;cases r with
  |error e=>exact(hCX H e j h).elim
  | ok fl =>
   cases fl with
   |next=>exact MQ h
   |brk=>exact MQ h
   |cont=>exact MQ h
   | ret u =>
    obtain⟨v,H',os,bare,un,M,r',q⟩:=h;have q':v=.bl true:=q;subst q';obtain rfl:u=Value.bool true:=r';refine⟨rfl,OldK.of_keep λb o e=>?_,os,bare⟩;cases q:H b with
    |none=>exact un.keep b o e q (by intro z;exact Tg (show b∈([]:U S9) from z)<|by simp)<|by simp
    | some u =>
     rcases hO b with z|⟨ob,xs,z⟩
     .rw[q] at z;cases z
     .have z2:=un.frzs b ob _ z;obtain⟨e1,_⟩:=G b _ z;obtain⟨e2,_⟩:=M b _ z2;rw[e] at e1;cases e1;exact e2
 cases hk:K.lookup a with
 |some o=>
  -- the script is one of the module's own objects
  have e:=KX a o hk;rw[ha] at e;cases e;refine core (λ_=>J) (λ_=>.inl rfl) (.inr ⟨_,t.toArray,_,hk,rfl,rfl,rfl,by rw[Mx,N];exact hl,by simpa using rv⟩) (λb u z=>by have z':(none:I HO)=O u:=z;cases z') (λb z=>Tg rfl z) λz=>Tg rfl z
 | none =>
  refine core (λb=>if b=a then O (.frz {cls:=.type "list",data:=.seq t.toArray} (.lst<|Z.map V.int)) else J) (λb=>?_) (.inl<|.inr ⟨{cls:=.type "list",data:=.seq t.toArray},Tf rfl⟩) (λb u z=>?_) (λb z=>?_) λ_=>hk
  .by_cases g:b=a
   .exact .inr ⟨_,_,Tf g⟩
   .exact .inl (Ti g)
  .by_cases g:b=a
   .have z':=(Tf g).symm.trans z;cases z';subst g;exact⟨ha,by rw[Mg];exact hl,t,_,rv,ha⟩
   .have z':=(Ti g).symm.trans z;cases z'
  .by_cases g:b=a
   .exact g
   .exact Tg (Ti g) z
theorem walk_of {l:QR}{n k:Y}{q:Td}{p:U Str}{XP:(Str->I L)->To->Prop}{YP:Mc->To->Prop}{d:DefRec}{K:MM->L9}{CX:Mc->CXT}{sp:Mc->Sp}{x:Str}
  (hn:l.most=O n) (P:n<=sizeLine) (M:d.params.defaults=[]) (hr:Room k Oc)
  (hY:∀(w:Mc) (h:To),YP w h->(K w.params).In h)
  (F:∀ (w:Mc) (r:Str->I L) (z:S9) (h:To),(K w.params).In h->h.Ns Ml r->r d.name=O (.ref z) ->
   ∃B:MK,(∀(s:L8) (u:L),Oe s B ⟨[u],[]⟩ [(x,u)]) /\
    ∀i:To,(K w.params).In i->i.Ns Ml r->FnOk l.prog w (K w.params) r i (CX w) k z B [x] (sp w))
  (Q:∀(w:Mc) (H:Hp) (a:S9) (A:U Int),A.length<=n->xK H->SqL (K w.params) H a (A.map V.int)->sp w [.ref a] H (λv _=>v=.bl L7) λ_ _ _=>Tw)
  (D:∀(w:Mc) (H:Hp) (s:L8) (e:L) (Z:L8),CX w [] H s (λ_ _ _=>Tw) e Z->Tw):
  RC q p XP YP l.row.toRowW d [] (λf vs=>QD f vs):=by
 refine Att.attach_call hn M λw s₀ y r mb z o pm cd doc a vs A G c ho hd hcd N t m j hg=>?_;have KX:=hY w _ c;obtain⟨B,hb,hF⟩:=F w r z _ KX G.T.g N;exact vW KX G.T.g G.T.b G.T.builtins G.T.nolimit hg t m (Mt j P) hr hF hb (λH hO hS=>Q w H a A j hO hS) λH e Z=>D w H y e Z
noncomputable def defArgs (s:Tz):Arguments:=match s with
|.FunctionDef _ a _ _ _ _ _ _ _ _=>a
|_=>{posonlyargs:=[],args:=[],vararg:=J,kwonlyargs:=[],kw_defaults:=[],kwarg:=J,defaults:=[]}
noncomputable def defBody (s:Tz):U Tz:=match s with
|.FunctionDef _ _ b _ _ _ _ _ _ _=>b
|_=>[]
noncomputable def defScope (s:Tz):TM:=match s with
|.FunctionDef _ _ _ _ _ _ sc _ _ _=>sc
|_=>{kind:=.function,names:=[],isGenerator:=L5,isCoroutine:=L5}
abbrev CX0:CXT:=λ_ _ _ _ _ _=>Tw
abbrev E0:XK:=λ_ _ _=>Tw
theorem ql {X:Cx}:fw CX0 X E0:=λ_ _ _ _ _ _ _ h=>h.elim
structure Fun (K:L9)(x qual:Str)(st:Tz)(f:S9)(fd:MK):Prop where
 ex:∃(oc:L) (od:I S9) (kV doc pm:L) (an:I S9) (cdv ct:L) (osl:Tv (I L)),
  fd=Nh x qual (defArgs st) (defBody st) (defScope st) .none kV doc pm an cdv ct/\K.lookup f=O ⟨oc,od,.func fd,osl⟩/\PF K cdv qual=L7
 kp:Ny K (.ref f)=L7
section
variable {P:Td}{w:Mc}{K:L9}{mg:Str->I L}{base:To}
theorem Fun.ok {x b:Str}{g:Tz}{f:S9}{n:MK}{N l:U Str}{k:Y}{m:Sp}(F:Fun K x b g f n)(S:bH N l<|defScope g)(len:∀e H Q E,m e H Q E->e.length=l.length)
  (d:∀ (c:L) (A:Mh) (a:U Env) (s:L8) (H:Hp) (e:U V) (Q:VK) (E:XK),Room k (A.deeper (Nc b (defScope g) s.heap.objs.size f c))->m e H Q E ->
   ∃t,PSs (gq CX0 P w K mg base N b (defScope g) f c A a s H E).nox (defBody g) t/\t {nx:=λ_ o=>Q .non o,rt:=Q} (start N e) H):FnOk P w K mg base CX0 (k+1) f n l m:=by
 obtain⟨y,z,kV,p,B,an,c,v,u,rfl,lk,i⟩:=F.ex;refine Cv lk i S len λA a s H e Q E r j=>?_;obtain⟨t,h,q⟩:=d c A a s H e Q E r j;exact⟨t,h.nox,q⟩
theorem Fun.binds {x a:Str}{d:Tz}{f:S9}{k:MK}{i:U Str}(F:Fun K x a d f k)
  (h:∀(kV c g:L) (an:I S9) (b e:L) (j:U L),j.length=i.length->bindArgs (Nh x a (defArgs d) (defBody d) (defScope d) .none kV c g an b e) ⟨j,[]⟩=pure (i.zip j)):Binds K k i []:=by
 obtain⟨n,o,kV,c,g,an,b,e,m,rfl,lk,l⟩:=F.ex;exact .all<|h kV c g an b e
theorem uB {x a:Str}{st:Tz}{f:S9}{i:L}{j an:I S9}{e:Tv<|I L}{kV d h b g:L}(l:K.lookup f=O ⟨i,j,.func<|Nh x a (defArgs st) (defBody st) (defScope st) .none kV d h an b g,e⟩)
  (c:PF K b a=L7) (k:Ny K (.ref f)=L7):Fun K x a st f (Nh x a (defArgs st) (defBody st) (defScope st) .none kV d h an b g):=⟨⟨i,j,kV,d,h,an,b,g,e,rfl,l,c⟩,k⟩
end
theorem CJ {A:Mh}{k:Y}(a:Room k A):A.units+1<Um:=Pm (Nat.add_le_add_left (by decide:1<=64) _) a.units
section
variable {X:Cx}
theorem pv (i:Y){x:Str}{b:Pos}(c:X.N[i]?=O x:=by rfl)(e:Vis X.env.scope x:=by first|exact Mz rfl|exact Ms (Mz rfl)|exact Ms<|Ms rfl)(d:(x==("__debug__":Str))=false:=by decide)
  (a:(x==("__classdict__":Str))=false:=by decide):PE X (.Name x b) (wZ i):=aO c e d a
end
def Same (H a:Hp):Prop:=∀b o,H b=O o->a b=O o
theorem Same.refl (H:Hp):Same H H:=λ_ _ h=>h
theorem Same.trans {H d e:Hp}(a:Same H d)(b:Same d e):Same H e:=λc o h=>b c o<|a c o h
section
variable {κ:Type}[TV κ]
noncomputable def gJ (a:U<|κ×V)(k:κ):I V:=(a.find? λb=>decide (b.1=k)).map (·.2)
noncomputable def eT (a:U<|κ×V)(k:κ)(v:V):U (κ×V):=
 if(a.any λb=>decide (b.1=k))=L7 then a.map (λb=>if b.1=k then(b.1,v) else b) else a++[(k,v)]
theorem hZ {p:κ×V}{r:U<|κ×V}{k:κ}(e:p.1=k):gJ (p::r) k=O p.2:=by simp[gJ,OQ,e]
theorem iL {p:κ×V}{r:U<|κ×V}{k:κ}(e:¬p.1=k):gJ (p::r) k=gJ r k:=by simp[gJ,OQ,e]
theorem lO (k:κ):∀a:U<|κ×V,(a.any λb=>decide (b.1=k))=(gJ a k).isSome
|[]=>rfl
|p::r=>by
 rw[Mn];by_cases e:p.1=k
 .simp only[hZ e,Te e,MT,Option.isSome_some]
 .rw[iL e,Tt e,M4];exact lO k r
theorem gE (a:U<|κ×V)(k:κ)(v:V):(eT a k v).length<=a.length+1:=by
 unfold eT;split
 .rw[Mg];lia
 .rw[MA,Mw,Oo];lia
theorem RelO.isSome_eq {o:I V}{u:I L}(r:RelO o u):o.isSome=u.isSome:=by
 cases o with
 |none=>cases u with
  |none=>rfl
  |some _=>exact(show Tw from r).elim
 |some _=>cases u with
  |none=>exact(show Tw from r).elim
  |some _=>rfl
theorem KV.val {a:U<|κ×V}{g:U<|κ×L}(r:KV a g)(k:κ):RelO (gJ a k) (T6 g k):=by
 unfold KV at r;induction r with
 |nil=>exact M0
 | @cons p q l d h t j =>
  obtain⟨f,i⟩:=h;by_cases e:p.1=k
  .have c:q.1=k:=f.symm.trans e;have b:T6 (q::d) k=O q.2:=by simp[T6,OQ,c]
   rw[hZ e,b];exact i
  .have c:¬ q.1=k:=fun z=>e (f.trans z);have b:T6 (q::d) k=T6 d k:=by simp[T6,OQ,c]
   rw[iL e,b];exact j
theorem KV.any {a:U<|κ×V}{c:U<|κ×L}(r:KV a c)(k:κ):(a.any λb=>decide (b.1=k))=c.any λb=>decide (b.1=k):=by
 unfold KV at r;induction r with
 |nil=>rfl
 |cons h t d=>rw[Mn,Mn,d,h.1]
theorem KV.repl {b:U<|κ×V}{d:U<|κ×L}(r:KV b d)(k:κ){y:V}{u:L}(i:RelV y u):
  KV (b.map λa=>if a.1=k then(a.1,y) else a) (d.map λa=>if a.1=k then(a.1,u) else a):=by
 unfold KV at r ⊢;induction r with
 |nil=>exact .nil
 | @cons p q j l h t g=>
  rw[ME,ME];refine .cons ?_ g;obtain⟨c,f⟩:=h;by_cases e:p.1=k
  .rw[Tf e,Tf<|c.symm.trans e];exact⟨c,i⟩
  .rw[Ti e,Ti λz=>e<|c.trans z];exact⟨c,f⟩
theorem KV.put {a:U<|κ×V}{b:U<|κ×L}(r:KV a b)(k:κ){y:V}{u:L}(c:RelV y u):KV (eT a k y) (stored b k u):=by
 unfold eT stored;rw[r.any k];by_cases e:(b.any λd=>decide (d.1=k))=L7
 .rw[Tf e,Tf e];exact r.repl k c
 .rw[Ti e,Ti e];exact Paired.snoc r ⟨rfl,c⟩
theorem KV.length {a:U<|κ×V}{b:U<|κ×L}(r:KV a b):a.length=b.length:=Paired.length r
end
theorem wj {P:Td}{w:Mc}{k:Key}{u:L}(r:RelV (kV k) u):(bc P w).is k u=true:=by
 cases k with
 |inl i=>obtain⟨t,e⟩:=(show∃t,u=Value.int i t from r);subst e;exact mj P w i t
 |inr x=>obtain⟨t,e⟩:=(show∃t,u=Value.str x t from r);subst e;exact lQ P w x t
theorem jI {P:Td}{w:Mc}:∀{a:U Key} {b:U L},Vals (a.map kV) b->ItemsAre (bc P w) a b
|[],_,r=>by rw[Oz] at r;cases r;exact .nil
|k::a,_,r=>by
 rw[ME] at r;cases r with
 |cons h t=>exact .cons (wj h)<|jI t
abbrev KT (H:Hp):U (U Key×V)->U (U Key×S9×L)->Prop:=Paired λp q=>p.1=q.1/\H q.2.1=O (.tup<|p.1.map kV)/\RelV p.2 q.2.2
theorem KT.val {H:Hp}{a:U<|U Key×V}{g:U<|U Key×S9×L}(r:KT H a g)(k:U Key):RelO (gJ a k) ((Uo g k).map (·.2)):=by
 induction r with
 |nil=>exact M0
 | @cons p q l d h t j =>
  obtain⟨f,_,i⟩:=h;by_cases e:p.1=k
  .have c:q.1=k:=f.symm.trans e;have b:Uo (q::d) k=O q.2:=by simp[Uo,OQ,c]
   rw[hZ e,b];exact i
  .have c:¬ q.1=k:=fun z=>e (f.trans z);have b:Uo (q::d) k=Uo d k:=by simp[Uo,OQ,c]
   rw[iL e,b];exact j
theorem KT.repl {H:Hp}{a:U<|U Key×V}{f:U<|U Key×S9×L}(r:KT H a f)(k:U Key){y:V}{u:L}(j:RelV y u):
  KT H (a.map λc=>if c.1=k then(c.1,y) else c) (f.map<|putAt k u):=by
 induction r with
 |nil=>exact .nil
 | @cons p q l m h t i=>
  rw[ME,ME];refine .cons ?_ i;obtain⟨b,d,g⟩:=h;unfold putAt;by_cases e:p.1=k
  .rw[Tf e,Tf<|b.symm.trans e];exact⟨b,d,j⟩
  .rw[Ti e,Ti λz=>e<|b.trans z];exact⟨b,d,g⟩
theorem KT.put {H:Hp}{a:U<|U Key×V}{c:U<|U Key×S9×L}(r:KT H a c)(k:U Key){b:S9}{y:V}{u:L}(f:H b=O (.tup<|k.map kV))(d:RelV y u):
  KT H (eT a k y) (storedH c k b u):=by
 have e:(a.any λg=>decide (g.1=k))=(Uo c k).isSome:=by rw[lO,(r.val k).isSome_eq,Option.isSome_map]
 unfold eT storedH;rw[e];by_cases q:(Uo c k).isSome=L7
 .rw[Tf q,Tf q];exact r.repl k d
 .rw[Ti q,Ti q];exact Paired.snoc r ⟨rfl,f,d⟩
theorem KT.keeps {H c:Hp}{a:U<|U Key×V}{d:U<|U Key×S9×L}(r:KT H a d)(f:∀b e,H b=O (.tup e)->c b=O (.tup e)):KT c a d:=
 Paired.mapP r λ_ _ z=>⟨z.1,f _ _ z.2.1,z.2.2⟩
section
variable {P:Td}{w:Mc}{H:Hp}{h:To}{a:S9}
theorem Ck {u:HO}(ok:HOk P w H h)(e:Rd H a u):ObjOk P w H h a u:=e.ok ok
theorem xX {b:U<|Key×V}(ok:HOk P w H h)(e:Rd H a<|.dK b):b.length<=sizeLine/\(a==Ni)=L5/\∃c,KV b c/\h.DictOf (bc P w) a c:=
 show ObjOk P w H h a (.dK b) from Ck ok e
theorem HW {b:U<|Key×V}(ok:HOk P w H h)(e:H a=O (.dK b)):b.length<=sizeLine/\(a==Ni)=L5/\∃c,KV b c/\h.DictOf (bc P w) a c:=xX ok<|.inl e
theorem nB {c:U Key}(ok:HOk P w H h)(e:H a=O (.tup<|c.map kV)):(Px<|bc P w).is h c a:=by obtain⟨_,b,r,o,d,f,n,g⟩:=(show ObjOk P w H h a (.tup<|c.map kV) from ok a _ e);exact⟨o,b.toArray,n,d,f,g,by simpa using jI r⟩
theorem uf {b:U<|U Key×V}(ok:HOk P w H h)(e:Rd H a<|.dT b):b.length<=sizeLine/\(a==Ni)=L5 /\
  ∃c,KT H b c/\h.DictOfH (Px<|bc P w) a c:=by
 obtain⟨z,y,c,r,o,f,ep,g,i,j,k,n⟩:=(show ObjOk P w H h a (.dT b) from Ck ok e);refine⟨z,y,c,r,o,f,ep,g,i,j,k,λx hx=>?_,n⟩
 have all:∀{l:U (U Key×V)} {m:U (U Key×S9×L)},KT H l m->∀x∈m,(Px (bc P w)).is h x.1 x.2.1:=by
  intro l m q;induction q with
  |nil=>intro x hx;exact nomatch hx
  | @cons p q u v d t s =>
   intro x hx;rcases Mm.mp hx with e|hx
   .subst e;exact nB ok<|by rw[<- d.1];exact d.2.1
   .exact s x hx
 exact all r x hx
theorem Jo {b:U<|U Key×V}(ok:HOk P w H h)(e:H a=O (.dT b)):b.length<=sizeLine/\(a==Ni)=L5 /\
  ∃c,KT H b c/\h.DictOfH (Px<|bc P w) a c:=uf ok<|.inl e
end
def DGet (H:Hp)(a:S9)(y:V)(r:I V):Prop:=
 (∃c k,Rd H a (.dK c)/\y=kV k/\r=gJ c k)\/∃c k b,Rd H a (.dT c)/\y=.ref b/\H b=O (.tup<|k.map kV)/\r=gJ c k
def HK (H:Hp)(a:S9)(y v:V)(d:Hp):Prop:=
 (∃c k,H a=O (.dK c)/\y=kV k/\c.length<sizeLine/\d=upd H a (.dK<|eT c k v)) \/
 ∃c k b,H a=O (.dT c)/\y=.ref b/\H b=O (.tup<|k.map kV)/\c.length<sizeLine/\d=upd H a (.dT<|eT c k v)
theorem DGet.k {H:Hp}{a:S9}{b:U<|Key×V}{k:Key}(e:H a=O (.dK b)):DGet H a (kV k) (gJ b k):=.inl ⟨b,k,.inl e,rfl,rfl⟩
section
variable {X:Cx}{pins:U (S9×Obj)}{σ:St}{H:Hp}{s:L8}{a:S9}{y v:V}{u r:L}{o:I V}{A:Mh}{E:L->L8->Prop}
theorem Inv.big (b:Inv X pins σ H s):Ni<s.heap.objs.size:=by have h:Ml<s.heap.objs.size:=(b.mod.glob.keeps b.bk).lt;exact RV (by decide) h
theorem tw {Q:L->L8->Prop}(M:A.units+1<Um)(c:Inv X pins σ H s)(g:DGet H a y<|O v)(B:RelV y u)(h:∀i D,Inv X pins σ H D->RelV v i->Q i D):
  Tc (Mb X.prog X.w) A (NM (.ref a) u) Q E s:=by
 rcases g with⟨x,k,e,m,l⟩|⟨x,k,b,e,m,F,l⟩
 .subst m;obtain⟨z,G,N,d,j⟩:=xX c.hok e;obtain⟨i,t,f⟩:=RelO.some_of (v:=v) (o:=T6 N k) (by rw[l];exact d.val k);exact wpAny_getItem_of (wj B) j.mapOf t<|h i _ (c.tok _) f
 .subst m;cases(show u=Value.ref b from B);obtain⟨z,G,P,d,j⟩:=uf c.hok e;obtain⟨i,t,f⟩:=RelO.some_of (v:=v) (o:=(Uo P k).map (·.2)) (by rw[l];exact d.val k);obtain⟨p,hp,n⟩:=PY.mp t;refine wpAny_getItem_heap (tupleKind_room_in1 M) (nB c.hok F) j hp ?_;rw[n];exact h i _ (c.tok _) f
theorem pK {d:To}{k:Y}{f:HO}(c:Inv X pins σ H s)(j:Mut<|H a)(i:Heap.SameBut a s.heap d)(h:∃q,d.get? a=O q)(new:ObjOk X.prog X.w (upd H a f) d a f):
  Inv X pins σ (upd H a f) {s with heap:=d,toks:=k}:=
 c.write (x:=a) (e:=a) j (.inl rfl) (λb q g z=>(i.2 b g).trans z) h new
theorem F3 {P:Td}{w:Mc}{f:Hp}{e:To}{b:U<|Key×V}{d:U<|Key×L}(z:b.length<=sizeLine)(h:(a==Ni)=L5)(c:KV b d)(g:e.DictOf (bc P w) a d):
  ObjOk P w f e a (.dK b):=⟨z,h,d,c,g⟩
theorem rR {G:Hp}{Q:Unit->L8->Prop}(hu:A.units+1<Um)(d:Inv X pins σ H s)(g:HK H a y v G)(ry:RelV y u)(Z:RelV v r)(h:∀s',Inv X pins σ G s'->Q () s'):
  Tc (Mb X.prog X.w) A (setItem (.ref a) u r) Q E s:=by
 rcases g with⟨f,k,e,t,l,p⟩|⟨f,k,b,e,t,M,l,p⟩
 .subst t p;obtain⟨z,x,vs,i,n⟩:=HW d.hok e;have F:vs.length<=sizeLine:=by rw[<- i.length];exact z
  have B:(eT f k v).length<=sizeLine:=by have:=gE f k v;lia
  refine wpAny_setItem_pairs (hsz:=F) (wj ry) n λP j D=>h _ ?_;have he:∃q,P.get? a=O q:=let ⟨q,_,_,m,_⟩:=j;⟨q,m⟩;exact pK d (by rw[e];exact M0) D he<|F3 B x (i.put k Z) j
 .subst t p;cases(show u=Value.ref b from ry);obtain⟨z,x,xs,i,n⟩:=Jo d.hok e;have F:xs.length<=sizeLine:=by rw[<- Paired.length i];exact z
  have B:(eT f k v).length<=sizeLine:=by have:=gE f k v;lia
  refine wpAny_setItem_heap (hsz:=F) (tupleKind_room_in1 hu) (nB d.hok M) n λP j D=>h _ ?_;obtain⟨q,es,ep,m,h2,h3,h4,_,h5⟩:=j;refine pK d (by rw[e];exact M0) D ⟨q,m⟩ ⟨B,x,_,(i.put k M Z).keeps λc ys N=>?_,q,es,ep,m,h2,h3,h4,h5⟩;rw[ag<|HQ N e λz=>nomatch z];exact N
end
def C7 (i:Tq):Prop:=∀a iv,P9 i L5 a iv=operate [a,iv] (NM a iv)
theorem zU {prog:Td}{w:Mc}{A:Mh}{E:L->L8->Prop}{s:L8}{g:Env}{b a:Tq}{m:Pos}{T id:Tu}{Q:L->L8->Prop}
  (n:typeLookup (.type T) "__getitem__"=pure (O<|.builtin id)) (p:C7 a)
  (h:Tc (Mb prog w) A (Tx b g) (λo e=>Tc (Mb prog w) A (Tx a g) (λi c=>c.TypeIs o T/\Tc (Mb prog w) A (NM o i) Q E c) E e) E s):
  Tc (Mb prog w) A (Tx (.Subscript b a m) g) Q E s:=by
 refine Subscript_<|MD h (λo e k=>MD k (λi c d=>?_) λ_ _ x=>x) λ_ _ x=>x;obtain⟨hT,d⟩:=d;unfold T9;refine Ma ?_;rw[getitemInPython_of_ne hT.not_modules];refine Ma<|wpAny_specialOf hT n ?_;have j:Tc (Mb prog w) A (P9 a L5 o i) (λr f=>Tc (Mb prog w) A (letTemporaryGo b o r >>= λ_=>pure r) Q E f) E c:=by rw[p o i];exact wpAny_operating<|MD d (λr f l=>Ma<|wpAny_letTemporaryGo<|Mf l) λ_ _ x=>x
 first
  |exact Mf<|Ma j
  |exact Ma<|Mf<|Ma j
  |exact Ma j
theorem mL {X:Cx}{d:U<|S9×Obj}{i:St}{H:Hp}{s:L8}{a:S9}{y:V}{o:I V}(c:Inv X d i H s)(g:DGet H a y o):s.TypeIs (.ref a) "dict":=by
 rcases g with⟨h,k,e,_,_⟩|⟨h,k,b,e,_,_,_⟩
 .obtain ⟨_,_,j,_,f⟩:=xX c.hok e;exact f.typeIs
 .obtain ⟨_,_,l,_,f⟩:=uf c.hok e;exact f.typeIs
def Iz (e ty:TE):TE:=λc H Q=>e c H λx d=>ty c d λy b=>∃a v,x=.ref a/\DGet b a y (O v)/\Q v b
def IW (g ty h:TE):TS:=λD b H=>h b H λv d=>g b d λx e=>ty b e λy f=>∃a c,x=.ref a/\HK f a y v c/\D.nx b c
section
variable {X:Cx}{o i e value:Tq}{pos pos' tpos:Pos}{td ty tv:TE}
theorem yM (w:X.A.units+1<Um)(ho:PE X o td)(r:PE X i ty)(t:C7 i):PE X (.Subscript o i pos) (Iz td ty):=by intro c s j H Q b h;refine zU SQ.lookup t<|thn (ho c s j H _ b h) λu s1 ⟨x,k,m,D,z⟩=>thn (r c s1 j k _ m z) λiv G ⟨y,l,f,F,a,v,p,g,B⟩=>?_;subst p;obtain rfl:u=Value.ref a:=D;exact⟨mL f g,tw w f g F λN M n d=>⟨v,l,n,d,B⟩⟩
theorem AS (B:X.A.units+1<Um)(ho:PE X o td)(w:PE X i ty)(F:PE X value tv)(z:Nl value (O<|.Subscript o i pos') pos.line X.env=pure L5):
  PS X (.Assign [.Subscript o i pos'] value pos) (IW td ty tv):=by
 intro c s d H D b h;refine wpAny_Assign_Subscript (thn (F c s d H _ b h) λr s1 ⟨v,f,l,P,G⟩=>thn (ho c s1 d f _ l G) λu s2 ⟨x,j,m,Q,M⟩=>thn (w c s2 d j _ m M) λiv s3 ⟨y,H3,n,Z,a,k,t,g,N⟩=>?_) z;subst t;obtain rfl:u=Value.ref a:=Q;exact rR B n g Z P λs4 p=>⟨d,k,p,N⟩
end
theorem xB {P:Td}{w:Mc}{H:Hp}(h:To)(a:Ni<h.objs.size):ObjOk P w H (h.push {cls:=.type "dict",data:=.dict #[]}) h.objs.size (.dK []):=
 ⟨MH _,beq_eq_false_iff_ne.mpr<|MI<|Mu a,[],.nil,Heap.DictOf.new h⟩
def xP:TE:=λ_ H Q=>∀p,H p=J->Q (.ref p) (upd H p<|.dK [])
section
variable {X:Cx}{pos:Pos}
theorem xa:PE X (.Dict [] [] pos) xP:=λc s d H Q b h=>
 wpAny_Dict_empty ⟨.ref s.heap.objs.size,_,b.laid (a:=s.heap.objs.size) (o:=.dK []) (t':=s.toks) (λ_ _ q=>Heap.get?_push_of_some _ q) (Mi _)<|xB s.heap b.big,rfl,h _<|b.hok.fresh<|Mi _⟩
end
end L2

set_option maxHeartbeats 4000000
namespace L3
open PySem PySem.Spec PyProof.Rows L2
abbrev noX:L->L8->Prop:=λ_ _=>Tw
theorem jJ {P:Td}{w:Mc}{H:Hp}{h:To}{a:S9}{o:HO}(x:HOk P w H h)(f:H a=J)(new:ObjOk P w (upd H a o) h a o):HOk P w (upd H a o) h:=by
 intro b u e;by_cases d:b=a
 .subst d;rw[ah] at e;cases e;exact new
 .rw [ag d] at e;refine(x b u e).stay (λc v _ q=>q) (λc q=>?_) (λc g q=>?_)
  .rw[ag<|aJ q f];exact q
  .rw[ag<|aJ q f];exact q
section
variable {prog:Td}{w:Mc}{A:Mh}{R:Result->L8->Prop}{s:L8}
theorem nU {o F f:Tq}{c:TM}{D:Pos}{it l:L}{b:Env}(a:Y->L8->Prop)
  (turn:∀ n s,a n s->Tc (Mb prog w) A (NQ it) (fun r d=>match r with
   |none=>R (.ok .next) d
   | some v=>Tc (Mb prog w) A (O3 F it v) (fun _ g=>Tc (Mb prog w) A (NR F b v) (fun _ i =>
     Tc (Mb prog w) A (Tx o b) (λy j=>Tc (Mb prog w) A (call (.builtin "list.append") [l,y]) (λ_ k=>∃m,m<n/\a m k) noX j) noX i) noX g) noX d) noX s)
  (n:Y) (h:a n s):NJ (Mb prog w) A (.compLoop (.ListComp o [⟨F,f,[],0⟩] c D) 0 it l b) R s:=by
 refine codeAny_loop rfl a (λn s G=>?_) n h;show Tc _ A ((compTurn (.ListComp o [⟨F,f,[],0⟩] c D) 0 it l b).onRaise (λx=>do OY x b;theTreesLotGoes x)) _ _ s;refine wpAny_noted ?_;rw[compTurn_list];refine Ma<|O1<|Ma<|MD (turn n s G) (λr d e=>?_) λ_ _ z=>z.elim;cases r with
 |none=>exact Mf e
 |some v=>refine Ma<|MD e (λ_ g p=>?_) λ_ _ z=>z.elim;refine Ma<|MD p (λ_ i t=>?_) λ_ _ z=>z.elim;refine Ma<|wpAny_tests_nil ?_;exact Ma<|Ma<|MD t (λy j u=>Ma<|MD u (λ_ k B=>Mf<|Mf ⟨rfl,B⟩) λ_ _ z=>z.elim) λ_ _ z=>z.elim
end
def ao (X:Cx)(N:U Str)(a:TM)(b:U<|Str×S9)(C:S9)(s:L8)(H:Hp)(c:U S9):Cx where
 prog:=X.prog
 w:=X.w
 K:=X.K
 mg:=X.mg
 base:=X.base
 A:=X.A
 N:=N
 s₀:=s
 H₀:=H
 env:=compEnvC a b C X.env
 outer:=X.stack
 stack:=X.stack
 ex:=c
 fn:=λ_=>L5
 calm:=X.calm
 pn:=X.pn
 xe:=noX
inductive Clo (X:Cx):U (Str×S9)->Prop
 |nil:Clo X []
 |cons {y:Str} {c:S9} {cl:U (Str×S9)}:X.env.cells.lookup y=O c->Clo X cl->Clo X ((y,c)::cl)
theorem Clo.get {X:Cx}{a:U<|Str×S9}(h:Clo X a):∀{y:Str} {c:S9},a.lookup y=O c->X.env.cells.lookup y=O c:=by
 induction h with
 |nil=>intro y c e;cases e
 | @cons z d b f _ g =>
  intro y c e;cases q:y==z with
  |true=>simp only[M5,q] at e;cases e;rw[eq_of_beq q];exact f
  |false=>simp only[M5,q] at e;exact g e
inductive Frees (X:Cx)(scope:TM)(cl:U (Str×S9)):U Str->U Y->Prop
 |nil:Frees X scope cl [] []
 | cons {y:Str} {ys:U Str} {i:Y} {is:U Y} {c:S9}:X.N[i]?=O y->Vis X.env.scope y->(X.env.kindOf y=O .cell\/X.env.kindOf y=O .free)->X.env.cells.lookup y=O c->cl.lookup y=O c ->
   ((OE scope X.env).names.lookup y=O .cell\/(OE scope X.env).names.lookup y=O .free)->Frees X scope cl ys is->Frees X scope cl (y::ys) (i::is)
theorem Frees.len {X:Cx}{a:TM}{d:U<|Str×S9}{c:U Str}{b:U Y}(F:Frees X a d c b):b.length=c.length:=by
 induction F with
 |nil=>rfl
 |cons _ _ _ _ _ _ _ e=>rw[Mw,Mw,e]
noncomputable def dh (b:L2.St)(a:U Y):L2.St:=a.map λi=>(b[i]?).join
theorem Frees.get {X:Cx}{a:TM}{d:U<|Str×S9}{f:U Str}{b:U Y}{σ:L2.St}(F:Frees X a d f b):∀{j:Y} {y:Str} {v:V},f[j]?=O y->(dh σ b)[j]?=O (O v) ->
  ∃(i:Y) (c:S9),X.N[i]?=O y/\σ[i]?=O (O v)/\Vis X.env.scope y/\(X.env.kindOf y=O .cell\/X.env.kindOf y=O .free)/\X.env.cells.lookup y=O c/\d.lookup y=O c /\
   ((OE a X.env).names.lookup y=O .cell\/(OE a X.env).names.lookup y=O .free):=by
 induction F with
 |nil=>intro j y v e;simp at e
 | @cons z r i b c g h k l m n _ p =>
  intro j y v e1 e2;unfold dh at e2;rw[ME] at e2;cases j with
  | zero =>
   rw[Q4] at e1 e2;cases e1;cases q:σ[i]? with
   |none=>rw[q] at e2;cases e2
   |some o=>rw[q] at e2;have e3:o=O v:=MY e2;subst e3;exact⟨i,c,g,q,h,k,l,m,n⟩
  |succ j=>rw[M1] at e1 e2;exact p e1 e2
abbrev kO (a:U L):Obj:={cls:=.type "list",data:=.seq a.toArray a.length}
theorem rN {X:Cx}(M:X.calm=L7):bW X (.builtin "all") (λB H Q=>∃(a:S9) (bs:U Ta),B=[.ref a]/\SqL X.K H a (bs.map V.bl)/\Q (.bl<|bs.all id) H):=by
 intro y s σ H B us Q c r h;obtain⟨a,bs,rfl,F,q⟩:=h;obtain⟨u,rfl,Z⟩:=cU r;cases Z;obtain⟨d,t,p,hz⟩:=c.list F;have l:d.toArray.size=bs.length:=by rw[Mx,<- t.length,Mg]
 have n:a<s.heap.objs.size:=by obtain⟨o,e,_⟩:=p.isList;exact Heap.lt_size e
 refine call_all_walk<|NS p.isList ?_;refine⟨s.heap.objs.size,_,_,_,_,_,λi=>bs.getD i L7,rfl,Walks.list (A:=X.A.in1) (show X.A.in1.handled=J from c.ok.hd M) s.heap.objs.size a (Mu n) d.toArray,⟨⟨_,Heap.get?_push_size _ rfl,rfl,rfl⟩,p.isList.push _⟩,λi v s' Q' E' P D=>?_,λh' tk k=>?_⟩
 .have m:d[i]?=O v:=by simpa using P
  have f:i<d.length:=(Na.mp m).1;have j:i<bs.length:=by have:=t.length;rw[Mg] at this;lia
  obtain⟨w',e1,e2⟩:=t.get (i:=i) (x:=.bl bs[i]) (by rw[MO,MP j];rfl);rw[m] at e1;cases e1;cases e2;refine O4 ?_;have e3:bs.getD i L7=bs[i]:=by rw[Nm,MP j];rfl
  rw[<- e3];exact D
 .have e:(Mj d.toArray.size).all (fun i=>bs.getD i L7)=bs.all id:=by
   rw[l,Oy,Nd,Nd];constructor
   .intro z b G;obtain⟨i,f,e⟩:=So G;have:=z i<|NX.mpr f;rw[Nm,MP f] at this;simpa[e] using this
   .intro z i f;have g:=NX.mp f;rw[Nm,MP g];exact z _<|Rq g
  rw[e]
  exact⟨.bl<|bs.all id,H,c.kept (λb o w=>k b o (λN=>by
   have:b=s.heap.objs.size:=by simpa using N
   exact Tg (this ▸ Heap.lt_size w)<|NF _)<|Heap.get?_push_of_some _ w),rfl,q⟩
inductive Th where
 |non|bl (b:Ta)|int (i:Int)|str (x:Str)|tup (ts:U Th)|lst (ts:U Th)
mutual
def Has (K:L9)(H:Hp):Th->V->Prop
|.non,v=>v=.non
|.bl b,v=>v=.bl b
|.int i,v=>v=.int i
|.str x,v=>v=.str x
|.tup ts,v=>∃a vs,v=.ref a/\SqT K H a vs/\HasL K H ts vs
|.lst ts,v=>∃a vs,v=.ref a/\H a=O (.lst vs)/\HasL K H ts vs
def HasL (K:L9)(H:Hp):U Th->U V->Prop
|[],vs=>vs=[]
|t::ts,vs=>∃v r,vs=v::r/\Has K H t v/\HasL K H ts r
end
noncomputable def Th.ty:Th->Tu
|.non=>"NoneType" |.bl _=>"bool" |.int _=>"int" |.str _=>"str" |.tup _=>"tuple" |.lst _=>"list"
def isI (c:Tu)(t:Th):Ta:=t.ty==c || (t.ty=="bool"&&c=="int")
theorem kit_type {K:L9}{A B:Tu}:NW K (.type A) (.type B)=NW [] (.type A) (.type B):=by unfold NW PySem.W.kitCls Qq;rfl
theorem Gp:∀c∈["tuple","str","bool","int","list"],∀n∈["NoneType","bool","int","str","tuple","list"],NW [] (.type n) (.type c)=O (n==c || (n=="bool"&&c=="int")):=by decide +kernel
theorem Dp (t:Th):t.ty∈["NoneType","bool","int","str","tuple","list"]:=by cases t<;>simp[Th.ty]
theorem oB {c:Tu}(a:c∈["tuple","str","bool","int","list"])(t:Th):NW [] (.type t.ty) (.type c)=O (isI c t):=Gp c a t.ty<|Dp t
structure DTab (K:L9)(w:Mc)(a:S9)(T:U (Str×V)):Prop where
 ex:∃es n,K.lookup a=O ⟨.type "dict",J,.dict es n,#[]⟩/\RL w.params es.toList/\Paired (λ(p:Str×V) (e:TH)=>(∃t,e.key=.str p.1 t)/\RelV p.2 e.val) T es.toList
 lo:(a==Ni)=L5
theorem mI {x:Str}:∀{T:U<|Str×V} {l:U TH},Paired (λ(p:Str×V) (e:TH)=>(∃t,e.key=.str p.1 t)/\RelV p.2 e.val) T l->RelO (T.lookup x) ((l.find? λd=>Value.isStrOf x d.key).map (·.val))
|_,_,.nil=>trivial
| (k,v)::T,e::l,.cons ⟨⟨t,b⟩,c⟩ r=>by
 have f:=mI (x:=x) r
 have q:Value.isStrOf x e.key=(x==k):=by
  have a:e.key=.str k t:=b;rw[a];show(k==x)=(x==k);by_cases z:x=k
  .subst z;rfl
  .rw[TJ z,TJ<|MI z]
 rw[OQ,q,M5];cases x==k with
 |true=>exact c
 |false=>exact f
theorem DTab.map {K:L9}{w:Mc}{a:S9}{T:U<|Str×V}{P:Td}{h:To}(D:DTab K w a T)(X:K.In h):∃f:Str->I L,h.MapOf (strKind P w) a f/\∀x,RelO (T.lookup x) (f x):=by
 obtain⟨b,n,c,g,i⟩:=D.ex;refine⟨_,PySem.W.mapOf_K (prog:=P) X c g,λx=>?_⟩;have q:=mI (x:=x) i;have e:findBy Value.isStrOf b x=(b.toList.find? λd=>Value.isStrOf x d.key).map (·.val):=by unfold findBy;rw[<- Rl]
 rw[e];exact q
theorem RelO.some_is {v:V}{o:I L}(r:RelO (O v) o):∃u,o=O u/\RelV v u:=by
 cases o with
 |none=>exact r.elim
 |some u=>exact⟨u,rfl,r⟩
theorem RelO.same_some {o:I V}{u:I L}(r:RelO o u):u.isSome=o.isSome:=by
 cases o with
 |none=>
  cases u with
  |none=>rfl
  |some u=>exact r.elim
 |some v=>obtain⟨u,rfl,_⟩:=RelO.some_is r;rfl
section
variable {X:Cx}
theorem wy:OpR X (M7 .In) (λx y H Q=>∃z a T,x=.str z/\y=.ref a/\DTab X.K X.w a T/\Q (.bl (T.lookup z).isSome) H):=by intro c s j H x y v u Q b g i h;obtain⟨z,a,T,rfl,rfl,D,q⟩:=h;obtain⟨t,rfl⟩:=g;cases i;obtain⟨f,e,d⟩:=D.map (P:=X.prog) b.kIn;refine wpAny_in_of (strKind_is X.prog X.w z t) D.lo e ?_;rw[RelO.same_some<|d z];exact⟨.bl (T.lookup z).isSome,H,b.tok _,rfl,q⟩
theorem Ej:IxR X (λx y H Q=>∃a z T v,x=.ref a/\y=.str z/\DTab X.K X.w a T/\T.lookup z=O v/\Q v H):=by intro d c i s p H x y v u Q b m n h k;obtain⟨a,z,T,r,rfl,rfl,D,l,q⟩:=h;cases m;obtain⟨t,rfl⟩:=n;obtain⟨f,g,j⟩:=D.map (P:=X.prog) b.kIn;have e:=j z;rw[l] at e;obtain⟨o,e1,e2⟩:=RelO.some_is e;exact tail_any g.typeIs SQ.lookup (wpAny_getItem_of (strKind_is X.prog X.w z t) g e1 ⟨r,H,b.tok _,e2,q⟩) k
end
theorem fD {H:Hp}{p:S9}(h:H p=J)(o:HO):Same H (upd H p o):=λb u q=>by rw[ag<|aJ q h];exact q
def CC (K:L9):R2:=λx y H Q=>∃a b d f,x=.ref a/\y=.ref b/\SqT K H a d/\SqT K H b f/\d≠[]/\d.length+f.length<=sizeLine/\∀v e,Same H e->(∃c,v=.ref c/\SqT K e c (d++f))->Q v e
theorem qw {X:Cx}:OpR X (M6 .Add) (CC X.K):=λd s m H x y v u Q c i j h=>by obtain⟨a,b,k,l,e1,e2,e,f,hx,g,q⟩:=h;exact AV d s m H x y v u Q c i j ⟨a,b,k,l,e1,e2,e,f,hx,g,λz=>q _ _ (Same.refl _) ⟨a,rfl,by rw[z,MV];exact e⟩,λ_ p hp=>q _ _ (fD hp _) ⟨p,rfl,SqT.of ah⟩⟩
theorem qz {X:Cx}{x:Str}{T:Tu}{a:Pos}(c:Gl X x)(d:X.mg x=J)(f:NI x=O (.type T))(e:x≠"__name__":=by decide)(b:(x==("__debug__":Str))=false:=by decide):PE X (.Name x a) (tC<|.ty T):=Bg (v:=.ty T) c d f rfl e b
theorem uU {X:Cx}{x:Str}{a:S9}{b:Pos}(d:Gl X x)(e:X.mg x=O (.ref a))(c:(x==("__debug__":Str))=false:=by decide):PE X (.Name x b) (tC<|.ref a):=qg (v:=.ref a) d e rfl c
theorem gD (a:U Int):∀k,k<=a.length->preSum (λi=>a.getD i 0) k=(a.take k).sum
|0,_=>rfl
|k+1,h=>by have b:=gD a k (by lia);show preSum (λi=>a.getD i 0) k+a.getD k 0=_;rw[b,List.take_succ,QQ,Nm,MP<|show k<a.length by lia];simp
theorem sL {X:Cx}(F:X.calm=L7):bW X (.builtin "sum") (λB H Q=>∃(a:S9) (d:U Int),B=[.ref a]/\SqL X.K H a (d.map V.int)/\Q (.int d.sum) H):=by
 intro z s σ H B us Q c r h;obtain⟨a,d,rfl,D,q⟩:=h;obtain⟨u,rfl,N⟩:=cU r;cases N;obtain⟨f,w,p,hz⟩:=c.list D;have j:f.toArray.size=d.length:=by rw[Mx,<- w.length,Mg]
 have l:a<s.heap.objs.size:=by obtain⟨o,e,_⟩:=p.isList;exact Heap.lt_size e
 refine call_sum_walkG<|NS p.isList ?_;refine⟨s.heap.objs.size,_,_,_,_,_,λi=>d.getD i 0,rfl,Walks.list (A:=X.A.in1) (show X.A.in1.handled=J from c.ok.hd F) s.heap.objs.size a (Mu l) f.toArray,⟨⟨_,Heap.get?_push_size _ rfl,rfl,rfl⟩,p.isList.push _⟩,λb n=>?_,λi v M=>?_,λZ tk P k=>?_⟩
 .show b<(s.heap.push _).objs.size;rw[Heap.size_push];rcases Mm.mp n with rfl|n
  .exact Rr _
  .rw[MZ.mp n];exact R9 l
 .have m:f[i]?=O v:=by simpa using M
  have hi:i<f.length:=(Na.mp m).1;have g:i<d.length:=by have:=w.length;rw[Mg] at this;lia
  obtain⟨w',e1,e2⟩:=w.get (i:=i) (x:=.int d[i]) (by rw[MO,MP g];rfl);rw[m] at e1;cases e1;obtain⟨t,rfl⟩:=e2;have e3:d.getD i 0=d[i]:=by rw[Nm,MP g];rfl
  exact⟨t,by show Value.int d[i] t=Value.int (d.getD i 0) t;rw[e3]⟩
 .have e:preSum (fun i=>d.getD i 0) f.toArray.size=d.sum:=by rw[j,gD d _ (Mi _),Qi]
  rw[e]
  exact⟨.int d.sum,H,c.kept (λb o y=>k b o (λG=>by
   have:b=s.heap.objs.size:=by simpa using G
   exact Tg (this ▸ Heap.lt_size y)<|NF _)<|Heap.get?_push_of_some _ y),⟨P,rfl⟩,q⟩
mutual
def toD:Th->PyData
|.non=>.none
|.bl b=>.bool b
|.int i=>.int i
|.str x=>.str x
|.tup ts=>.tuple<|gI ts
|.lst ts=>.list<|gI ts
def gI:U Th->U PyData
|[]=>[]
|t::ts=>toD t::gI ts
end
section
variable {X:Cx}{pins:U (S9×Obj)}{σ:L2.St}{H:Hp}{s:L8}
mutual
theorem Has.reads (I:Inv X pins σ H s):∀{t:Th} {v:V} {u:L},Has X.K H t v->RelV v u->∃as,Reads s.heap u (toD t) as
|.non,_,u,h,r=>by obtain rfl:_=V.non:=h;obtain rfl:u=Value.none:=r;exact⟨_,.none⟩
|.bl b,_,u,h,r=>by obtain rfl:_=V.bl b:=h;obtain rfl:u=Value.bool b:=r;exact⟨_,.bool b⟩
|.int i,_,u,h,r=>by obtain rfl:_=V.int i:=h;obtain⟨t,rfl⟩:∃t,u=Value.int i t:=r;exact⟨_,.int i t⟩
|.str x,_,u,h,r=>by obtain rfl:_=V.str x:=h;obtain⟨t,rfl⟩:∃t,u=Value.str x t:=r;exact⟨_,.str x t⟩
|.tup ts,_,u,hh,r=>by obtain⟨a,vs,e,hS,hL⟩:=hh;subst e;obtain rfl:u=Value.ref a:=r;obtain⟨its,rv,⟨o,h1,h2,n,h3⟩,_⟩:=I.tuple hS;obtain⟨as,ra⟩:=HasL.reads I hL rv;exact⟨_,.tuple h1 h2 h3<|by simpa using ra⟩
|.lst ts,_,u,hh,r=>by obtain⟨a,vs,e,hS,hL⟩:=hh;subst e;obtain rfl:u=Value.ref a:=r;obtain⟨its,rv,⟨o,n,h1,h2,_,h3⟩,_⟩:=I.list<|SqL.of hS;obtain⟨as,ra⟩:=HasL.reads I hL rv;exact⟨_,.list h1 h2 h3<|by simpa using ra⟩
theorem HasL.reads (I:Inv X pins σ H s):∀{ts:U Th} {vs:U V} {us:U L},HasL X.K H ts vs->Vals vs us->∃as,ReadsAll s.heap us (gI ts) as
|[],vs,us,h,r=>by obtain rfl:vs=[]:=h;cases r;exact⟨_,.nil⟩
| t::ts,vs,us,hh,r=>by
 obtain⟨v,w',e,h1,h2⟩:=hh;subst e;cases r with
 |cons r1 r2=>obtain⟨as,ra⟩:=Has.reads I h1 r1;obtain⟨bs,rb⟩:=HasL.reads I h2 r2;exact⟨_,.cons ra rb⟩
end
end
abbrev kN (t:Th):Prop:=SeqAt.shaped (toD t)=L7
theorem pN {X:Cx}(f:X.A.units+64<Um):OpR X (M7 .Eq) (λx y H Q=>∃t b,Has X.K H t x/\Has X.K H b y/\kN t/\kN b/\Q (.bl<|PyData.eqv (toD t)<|toD b) H):=by intro c s m H x y v u Q a k l h;obtain⟨t,b,d,e,g,o2,q⟩:=h;obtain⟨as,i⟩:=Has.reads a d k;obtain⟨bs,j⟩:=Has.reads a e l;exact S7 i j g o2 f ⟨.bl _,H,a,rfl,q⟩
theorem Be {X:Cx}(f:X.A.units+64<Um):OpR X (M7 .NotEq) (λx y H Q=>∃t b,Has X.K H t x/\Has X.K H b y/\kN t/\kN b/\Q (.bl<|!PyData.eqv (toD t) (toD b)) H):=by intro c s m H x y v u Q a k l h;obtain⟨t,b,d,e,g,o2,q⟩:=h;obtain⟨as,i⟩:=Has.reads a d k;obtain⟨bs,j⟩:=Has.reads a e l;exact S6 i j g o2 f ⟨.bl _,H,a,rfl,q⟩
theorem Same.own {a H:Hp}{p:S9}(s:Same a H)(h:a p=J)(o:HO):Same a (upd H p o):=λb u q=>by rw[ag<|aJ q h];exact s b u q
section
variable {prog:Td}{w:Mc}{A:Mh}{E:L->L8->Prop}{s:L8}
theorem fC {t i:S9}{a:Tv L}{l m:L}{lo d:I Int}{Q:L->L8->Prop}(b:T7 s.heap t a)(j:s.heap.IsSliceOf i l m .none)(o:NL l lo)(pu:NL m d)
  (k:HT.sIx a.size 0 lo=0/\HT.sIx a.size a.size d=a.size) (h:Q (.ref t) s):Tc (Mb prog w) A (NM (.ref t)<|.ref i) Q E s:=by
 obtain⟨os,g,f,n⟩:=id j;have e:s.TypeIs (.ref i) "slice":=⟨os,g,f⟩;unfold NM
 try with_reducible refine Nq ?_
 first|refine Ma (Mf ?_)|skip
 refine Ma<|wpAny_sequenceKey b.typeIs (by decide) ?_
 refine Ma (O0 (name:=Str.ofString "__getitem__") b.typeIs Pr
  (OG Pr b.typeIs entry_tuple_getitem ?_<|args_tuple_getitem _ _))
 show Tc _ _ (Builtin.Tuple.tupleItemsOf (.ref t) >>= _) _ _ s;refine Ma<|tupleItemsOf_ b ?_;refine Ma<|P1 e ?_;rw[Tf<|by decide];refine Ma<|HT.sliceApplied_gen j o pu ?_;have c:(((HT.sIx a.size 0 lo:Y):Int)==0&&(1:Int)==1&&(HT.sIx a.size a.size d-HT.sIx a.size 0 lo)==a.size)=true:=by rw[k.1,k.2];simp
 show Tc _ _ (if(((HT.sIx a.size 0 lo:Y):Int)==0&&(1:Int)==1&&(HT.sIx a.size a.size d-HT.sIx a.size 0 lo)==a.size)=L7 then _ else _) _ _ s;rw[Tf c];unfold Builtin.Tuple.tupleIsExact;refine Ma<|Ma<|P1 b.typeIs<|Mf ?_;rw[Tf<|by decide]
 first
  |exact Ma<|OZ<|Mf ⟨_,rfl,Mf h⟩
  |exact Ma<|OZ<|Ma<|Mf<|Mf ⟨_,rfl,Mf h⟩
end
section
variable {X:Cx}
def zq (K:L9):V->I Int->I Int->Hp->VK->Prop:=λx lo e H Q=>∃a d,x=.ref a/\SqT K H a d/\∀v b,Same H b->(∃c,v=.ref c/\SqT K b c (ej d lo e))->Q v b
theorem kD:SlR X (zq X.K):=by
 intro f s w H x v t u lo i o Q b n k m pu h;obtain⟨a,c,rfl,hx,q⟩:=h;by_cases g:HT.sIx c.length 0 lo=0/\HT.sIx c.length c.length i=c.length
 .cases n;obtain⟨j,r,l,y⟩:=b.tuple hx;have d:j.toArray.size=c.length:=by rw[Mx];exact r.length.symm
  refine⟨"tuple",_,Pr.lookup,l.typeIs,?_⟩;refine fC l k m pu (by rw[d];exact g) ⟨.ref a,H,b,rfl,q _ _ (Same.refl H) ⟨a,rfl,?_⟩⟩;have e:ej c lo i=c:=by unfold ej;rw[g.1,g.2];simp
  rw[e];exact hx
 .exact EJ f s w H _ v t u lo i o Q b n k m pu ⟨a,c,rfl,hx,g,λp hp=>q _ _ (fD hp _) ⟨p,rfl,SqT.of ah⟩⟩
end
def KH (K:L9):R2:=λx y H Q=>∃p a i v,x=.ref p/\y=.int i/\(SqL K H p a\/SqT K H p a)/\atI a i=O v/\Q v H
theorem ix_any {X:Cx}:IxR X (KH X.K):=λc b d s m H x y v u Q a j k h g=>by
 obtain⟨p,l,i,z,e1,e2,e,f,q⟩:=h;rcases e with e|e
 .exact Bs c b d s m H x y v u Q a j k ⟨p,l,i,z,e1,e2,e,f,q⟩ g
 .exact DN c b d s m H x y v u Q a j k ⟨p,l,i,z,e1,e2,e,f,q⟩ g
end L3


namespace L3
open PySem PySem.Spec PyProof.Rows L2
def SqO (h:To):Ta->S9->Tv L->Prop
|true,a,b=>h.IsTuple a b
|false,a,b=>h.IsList a b
def ItO (h:To):Ta->S9->S9->Y->Prop
|true,it,a,n=>h.IsTupleIter it a n
|false,it,a,n=>h.IsListIter it a n
theorem SqO.at {h b:To}{k:Ta}{a:S9}{c:Tv L}(x:SqO h k a c)(e:∀o,h.get? a=O o->b.get? a=O o):SqO b k a c:=by cases k<;>(obtain⟨o,ho,r⟩:=x;exact⟨o,e o ho,r⟩)
theorem ItO.at {h b:To}{k:Ta}{it a:S9}{n:Y}(x:ItO h k it a n)(e:∀o,h.get? it=O o->b.get? it=O o):ItO b k it a n:=by cases k<;>(obtain⟨o,ho,r⟩:=x;exact⟨o,e o ho,r⟩)
theorem ItO.obj {h:To}{k:Ta}{it a:S9}{n:Y}(x:ItO h k it a n):∃o,h.get? it=O o/\∀v,o.data≠.cell v:=by cases k<;>(obtain⟨o,ho,_,d⟩:=x;exact⟨o,ho,λv z=>by rw[d] at z;cases z⟩)
theorem SqO.lt {h:To}{k:Ta}{a:S9}{b:Tv L}(x:SqO h k a b):a<h.objs.size:=by cases k<;>(obtain⟨o,ho,_⟩:=x;exact Heap.lt_size ho)
section
variable {prog:Td}{w:Mc}{A:Mh}{E:L->L8->Prop}{s:L8}
theorem iD {it t:S9}{i:Y}{e:Tv L}{x:L}{Q:L->L8->Prop}(a:s.heap.IsTupleIter it t i)(h:s.heap.IsTuple t e)(hx:e[i]?=O x)
  (q:∀d,d.IsTupleIter it t (i+1)->Heap.SameBut it s.heap d->Q x {s with heap:=d}):Tc (Mb prog w) A (Builtin.SmallTypes.nextOf<|.ref it) Q E s:=by
 obtain⟨u,c,f,b⟩:=id a;obtain⟨v,j,_,k,g⟩:=h;unfold Builtin.SmallTypes.nextOf;refine Ma<|O0 (name:=Str.ofString "__next__") a.typeIs F.slot_tuple_iterator_next<|OG F.slot_tuple_iterator_next a.typeIs F.entry_tuple_iterator_next ?_<|F.args_tuple_iterator_next_1 _;show Tc _ _ (Ut (.ref it) 0 >>= _) _ _ _;refine Ma<|MX c b (x:=.ref t) rfl ?_;show Tc _ _ (if(Value.ref t==Value.none)=L7 then _ else _) _ _ _;rw[Ti<|by intro z;cases z];show Tc _ _ (Ut (.ref it) 1 >>= _) _ _ _;refine Ma<|MX c b (x:=.int i 0) rfl ?_;show Tc _ _ (seqItems? (.ref t) >>= _) _ _ _;refine Ma<|Oi j g ?_;simp only[hx,Ou];exact Ma<|O2 c b (by simp)<|Mf ⟨x,rfl,Mf<|q _ ⟨_,Heap.get?_update_self _ c<|Obj.isFreed_of_fields<|Obj.data_mapFields b _,(Obj.cls_mapFields ..).trans f,by rw[Obj.data_mapFields b];simp[Nk]⟩<|Heap.SameBut.update ..⟩
theorem gp {it t:S9}{i:Y}{h:Tv L}{Q:L->L8->Prop}(g:A.handled=J)(b:s.heap.IsTupleIter it t i)(k:s.heap.IsTuple t h)(hx:h[i]?=J)
  (q:∀d e,Heap.ExtBut it s.heap d->(∃o,d.get? e=O o/\o.cls=.type "StopIteration")->E (.ref e) {s with heap:=d}):Tc (Mb prog w) A (Builtin.SmallTypes.nextOf<|.ref it) Q E s:=by
 obtain⟨u,f,n,c⟩:=id b;obtain⟨v,l,_,p,j⟩:=k;unfold Builtin.SmallTypes.nextOf;refine Ma<|O0 (name:=Str.ofString "__next__") b.typeIs F.slot_tuple_iterator_next<|OG F.slot_tuple_iterator_next b.typeIs F.entry_tuple_iterator_next ?_<|F.args_tuple_iterator_next_1 _;show Tc _ _ (Ut (.ref it) 0 >>= _) _ _ _;refine Ma<|MX f c (x:=.ref t) rfl ?_;show Tc _ _ (if(Value.ref t==Value.none)=L7 then _ else _) _ _ _;rw[Ti<|by intro z;cases z];show Tc _ _ (Ut (.ref it) 1 >>= _) _ _ _;refine Ma<|MX f c (x:=.int i 0) rfl ?_;show Tc _ _ (seqItems? (.ref t) >>= _) _ _ _;refine Ma<|Oi l j ?_;simp only[hx,Ou];refine Ma<|OZ<|Ma<|O2 f c (by simp) ?_;show Tc _ _ (newExc (.type "StopIteration") [] >>= _) _ _ _;refine Ma ?_;simp only[newTuple,newExc];refine Ma (Of ?_<|by size_fits);refine Ma (m:=firstArgMember _ _) (wpAny_of_eq (a:=Value.none) (by first|rfl|(simp only[firstArgMember];rfl))<|Of ?_<|by size_fits);simp only[raiseNew];refine Ma<|wpAny_handled ?_;first|rw[g]|rw[show A.in1.handled=J from g]
 exact Ma<|Mf<|wpAny_throw<|q _ _ (((Heap.SameBut.update ..).extBut.push _).push _) ⟨_,Heap.get?_push_size _ rfl,rfl⟩
theorem eX {k:Ta}{it t:S9}{i:Y}{c:Tv L}{x:L}{Q:L->L8->Prop}(a:ItO s.heap k it t i)(d:SqO s.heap k t c)(hx:c[i]?=O x)
  (q:∀b,ItO b k it t (i+1)->Heap.SameBut it s.heap b->Q x {s with heap:=b}):Tc (Mb prog w) A (Builtin.SmallTypes.nextOf<|.ref it) Q E s:=by
 cases k with
 |false=>exact wpAny_nextOf_list_item (show s.heap.IsListIter it t i from a) (show s.heap.IsList t c from d) hx q
 |true=>exact iD a d hx q
theorem jO {k:Ta}{it t:S9}{i:Y}{c:Tv L}{Q:L->L8->Prop}(d:A.handled=J)(a:ItO s.heap k it t i)(f:SqO s.heap k t c)(hx:c[i]?=J)
  (q:∀b e,Heap.ExtBut it s.heap b->(∃o,b.get? e=O o/\o.cls=.type "StopIteration")->E (.ref e) {s with heap:=b}):Tc (Mb prog w) A (Builtin.SmallTypes.nextOf<|.ref it) Q E s:=by
 cases k with
 |false=>exact wpAny_nextOf_list_end d (show s.heap.IsListIter it t i from a) (show s.heap.IsList t c from f) hx q
 |true=>exact gp d a f hx q
theorem su {z TI TO g h l p:S9}{G H:Ta}{n m:Y}{xs ys:Tv L}{x y a b:L}{Q:L->L8->Prop}(D:Ui z TI TO g h l p)
  (t:M8 s.heap z TI TO .none) (hI:TK s.heap TI (.ref g)<|.ref h) (hO:TK s.heap TO a b) (h1:ItO s.heap G g l n) (h2:ItO s.heap H h p m) (q1:SqO s.heap G l xs) (q2:SqO s.heap H p ys) (hx:xs[n]?=O x) (hy:ys[m]?=O y)
  (q:∀ f,M8 f z TI TO (Nk s.heap.objs.size)->TK f TO x y->ItO f G g l (n+1)->ItO f H h p (m+1)->TK f s.heap.objs.size x y->f.objs.size=s.heap.objs.size+1 ->
   (∀c o,c≠z->c≠TO->c≠g->c≠h->s.heap.get? c=O o->f.get? c=O o)->Q (.ref s.heap.objs.size) {s with heap:=f}):
  Tc (Mb prog w) A (Ob.«zip.__next__» ⟨[.ref z],[]⟩) (λZ s'=>∃v,Z=.done (.ret v)/\Q v s') E s:=by
 show Tc _ _ (Ut (.ref z) 2 >>= _) _ _ _;refine Ma<|MX t rfl (x:=.bool L5) rfl ?_;show Tc _ _ (Ut (.ref z) 3 >>= _) _ _ _;refine Ma<|MX t rfl (x:=.ref TI) rfl (Ma<|Oi hI rfl ?_);show Tc _ _ (Builtin.SmallTypes.ownedTupleIsFree (.ref z) >>= _) _ _ _;refine Ma ?_;unfold Builtin.SmallTypes.ownedTupleIsFree;refine Ma<|MX t rfl (x:=.none) rfl (Mf ?_);simp only[TF];refine Ma<|OZ<|Ma<|MX t rfl (x:=.ref TO) rfl (Ma<|O5 t (by simp) λg1 z1 s1=>?_)
 replace z1:M8 g1 z TI TO .ellipsis:=z1
 refine Ma ?_;simp only[QP,QI,Sv,RK];refine Ma<|Ma<|Pu ?_;show Tc _ _ (Builtin.SmallTypes.nextOf (.ref g) >>= _) _ _ _;refine Ma<|eX (h1.at λo e=>s1.extBut _ _ D.i1z e) (q1.at λo e=>s1.extBut _ _ D.l1z e) hx λg2 r2 j=>Mf ?_;have p2:TK g2 TO a b:=j.extBut _ _ D.TOi1<|s1.extBut _ _ D.TOz hO;refine Ma<|Oi p2 rfl (Ma<|QA p2 λg3 p3 k=>Ma<|wpAny_letGo<|Mf ?_)
 replace p3:TK g3 TO x b:=p3
 refine Ma<|Ma<|Pu ?_;show Tc _ _ (Builtin.SmallTypes.nextOf (.ref h) >>= _) _ _ _;refine Ma<|eX (h2.at λo e=>k.extBut _ _ D.TOi2.symm<|j.extBut _ _ D.i12.symm<|s1.extBut _ _ D.i2z e) (q2.at λo e=>k.extBut _ _ D.l2TO<|j.extBut _ _ D.l2i1<|s1.extBut _ _ D.l2z e) hy λg4 r4 u=>Mf ?_;have p4:TK g4 TO x b:=u.extBut _ _ D.TOi2 p3;refine Ma<|Oi p4 rfl (Ma<|QA p4 λd N B=>Ma<|wpAny_letGo<|Mf<|Mf ?_)
 replace N:TK d TO x y:=N
 refine Ma<|Oi N rfl (Ma<|wpAny_newTuple ?_);have sz:d.objs.size=s.heap.objs.size:=by rw[B.1,u.1,k.1,j.1,s1.1]
 have z5:M8 d z TI TO .ellipsis:=B.extBut _ _ D.TOz.symm<|u.extBut _ _ D.i2z.symm<|k.extBut _ _ D.TOz.symm<|j.extBut _ _ D.i1z.symm z1;have k5:∀c o,c≠z->c≠TO->c≠g->c≠h->s.heap.get? c=O o->d.get? c=O o:=λc o i M n3 n4 e=>B.extBut _ _ M<|u.extBut _ _ n4<|k.extBut _ _ M<|j.extBut _ _ n3<|s1.extBut _ _ i e;have r5:ItO d G g l (n+1):=r2.at λo e=>B.extBut _ _ D.TOi1.symm<|u.extBut _ _ D.i12<|k.extBut _ _ D.TOi1.symm e;have t5:ItO d H h p (m+1):=r4.at λo e=>B.extBut _ _ D.TOi2.symm e;have F:z<d.objs.size:=Heap.lt_size z5;show Tc _ _ (Builtin.SmallTypes.ownedTupleHandOut (.ref z) (.ref d.objs.size) >>= _) _ _ _;refine Ma ?_;unfold Builtin.SmallTypes.ownedTupleHandOut;have z6:M8 (d.push {cls:=.type "tuple",data:=.seq #[x,y]}) z TI TO .ellipsis:=Heap.get?_push_of_some _ z5;refine Ma<|O5 z6 (by simp) λg7 z7 s7=>?_
 replace z7:M8 g7 z TI TO (Nk d.objs.size):=z7
 refine O5 z7 (by simp) λr P s8=>?_
 replace P:M8 r z TI TO (Nk d.objs.size):=P
 have up:∀c o,c≠z->d.get? c=O o->r.get? c=O o:=λc o i e=>s8.extBut _ _ i<|s7.extBut _ _ i<|Heap.get?_push_of_some _ e;have p8:TK r d.objs.size x y:=s8.extBut _ _ (NC F)<|s7.extBut _ _ (NC F)<|Heap.get?_push_size _ rfl;have e8:r.objs.size=d.objs.size+1:=by rw[s8.1,s7.1,Heap.size_push]
 rw[sz] at P p8 e8;refine Mf ⟨_,rfl,?_⟩;show Q (.ref d.objs.size) _;rw[sz];exact q r P (up _ _ D.TOz N) (r5.at λo e=>up _ o D.i1z e) (t5.at λo e=>up _ o D.i2z e) p8 e8 λc o i M n3 n4 e=>up c o i<|k5 c o i M n3 n4 e
theorem uY {z TI TO j k r t:S9}{k1 k2:Ta}{n m:Y}{M N:Tv L}{a b:L}{Q:Fin->L8->Prop}(hh:A.handled=J)(D:Ui z TI TO j k r t)
  (i:M8 s.heap z TI TO .none) (hI:TK s.heap TI (.ref j)<|.ref k) (hO:TK s.heap TO a b) (Z:ItO s.heap k1 j r n) (h2:ItO s.heap k2 k t m) (q1:SqO s.heap k1 r M) (q2:SqO s.heap k2 t N) (h:M[n]?=J\/N[m]?=J)
  (q:∀B e,(∀c o,c≠z->c≠TO->c≠j->c≠k->s.heap.get? c=O o->B.get? c=O o)->(∃o,B.get? e=O o/\o.cls=.type "StopIteration")->E (.ref e) {s with heap:=B}):
  Tc (Mb prog w) A (Ob.«zip.__next__» ⟨[.ref z],[]⟩) Q E s:=by
 show Tc _ _ (Ut (.ref z) 2 >>= _) _ _ _;refine Ma<|MX i rfl (x:=.bool L5) rfl ?_;show Tc _ _ (Ut (.ref z) 3 >>= _) _ _ _;refine Ma<|MX i rfl (x:=.ref TI) rfl (Ma<|Oi hI rfl ?_);show Tc _ _ (Builtin.SmallTypes.ownedTupleIsFree (.ref z) >>= _) _ _ _;refine Ma ?_;unfold Builtin.SmallTypes.ownedTupleIsFree;refine Ma<|MX i rfl (x:=.none) rfl (Mf ?_);simp only[TF];refine Ma<|OZ<|Ma<|MX i rfl (x:=.ref TO) rfl (Ma<|O5 i (by simp) λg1 p s1=>?_)
 replace p:M8 g1 z TI TO .ellipsis:=p
 refine Ma ?_;simp only[QP,QI,Sv,RK];refine Ma<|Ma<|Pu ?_;show Tc _ _ (Builtin.SmallTypes.nextOf (.ref j) >>= _) _ _ _;cases hx:M[n]? with
 |none=>
  refine Ma<|jO hh (Z.at λo e=>s1.extBut _ _ D.i1z e) (q1.at λo e=>s1.extBut _ _ D.l1z e) hx λv e d F=>?_;obtain⟨H,ho,g⟩:=F;have z2:M8 v z TI TO .ellipsis:=d _ _ D.i1z.symm p;have u:e≠z:=λy=>by subst y;rw[z2] at ho;cases ho;simp at g
  exact O5 z2 (by simp) λP _ f=>q P e (λc o l _ G _ y=>f.extBut _ _ l<|d _ _ G<|s1.extBut _ _ l y) ⟨H,f.extBut _ _ u ho,g⟩
 |some x=>
  have hy:N[m]?=none:=h.elim (λy=>by rw[hx] at y;cases y) id;refine Ma<|eX (Z.at λo e=>s1.extBut _ _ D.i1z e) (q1.at λo e=>s1.extBut _ _ D.l1z e) hx λv r2 d=>Mf ?_;have p2:TK v TO a b:=d.extBut _ _ D.TOi1<|s1.extBut _ _ D.TOz hO;refine Ma<|Oi p2 rfl (Ma<|QA p2 λP p3 f=>Ma<|wpAny_letGo<|Mf ?_);refine Ma<|Ma<|Pu ?_;show Tc _ _ (Builtin.SmallTypes.nextOf (.ref k) >>= _) _ _ _;refine Ma<|jO hh (h2.at λo e=>f.extBut _ _ D.TOi2.symm<|d.extBut _ _ D.i12.symm<|s1.extBut _ _ D.i2z e) (q2.at λo e=>f.extBut _ _ D.l2TO<|d.extBut _ _ D.l2i1<|s1.extBut _ _ D.l2z e) hy λg4 e s4 F=>?_;obtain⟨H,ho,g⟩:=F;have z4:M8 g4 z TI TO .ellipsis:=s4 _ _ D.i2z.symm<|f.extBut _ _ D.TOz.symm<|d.extBut _ _ D.i1z.symm p;have u:e≠z:=λy=>by subst y;rw[z4] at ho;cases ho;simp at g
  exact O5 z4 (by simp) λg5 _ s5=>q g5 e (λc o l n2 G n4 y=>s5.extBut _ _ l<|s4 _ _ n4<|f.extBut _ _ n2<|d.extBut _ _ G<|s1.extBut _ _ l y) ⟨H,s5.extBut _ _ u ho,g⟩
theorem nE {z TI TO e f g h:S9}{i j:Ta}{n m:Y}{l p:Tv L}{x y a b:L}{Q:I L->L8->Prop}(D:Ui z TI TO e f g h)
  (k:M8 s.heap z TI TO .none) (u:TK s.heap TI (.ref e)<|.ref f) (v:TK s.heap TO a b) (r:ItO s.heap i e g n) (t:ItO s.heap j f h m) (G:SqO s.heap i g l) (H:SqO s.heap j h p) (hx:l[n]?=O x) (B:p[m]?=O y)
  (q:∀ d,M8 d z TI TO (Nk s.heap.objs.size)->TK d TO x y->ItO d i e g (n+1)->ItO d j f h (m+1)->TK d s.heap.objs.size x y->d.objs.size=s.heap.objs.size+1 ->
   (∀c o,c≠z->c≠TO->c≠e->c≠f->s.heap.get? c=O o->d.get? c=O o)->Q (O<|.ref s.heap.objs.size) {s with heap:=d}):Tc (Mb prog w) A (NQ<|.ref z) Q E s:=by
 have hT:s.TypeIs (.ref z) "zip":=⟨_,k,rfl⟩;unfold NQ;exact Ma<|P4<|O0 (name:=Str.ofString "__next__") hT F.slot_zip_next<|OG F.slot_zip_next hT F.entry_zip_next (su D k u v r t G H hx B λd M N P Z y5 y6 y7=>Mf<|q d M N P Z y5 y6 y7)<|F.args_zip_next_1 _
theorem rW {z TI TO f g h i:S9}{l p:Ta}{n m:Y}{r t:Tv L}{a b:L}{Q:I L->L8->Prop}(H:A.handled=J)(D:Ui z TI TO f g h i)
  (k:M8 s.heap z TI TO .none) (x:TK s.heap TI (.ref f)<|.ref g) (y:TK s.heap TO a b) (u:ItO s.heap l f h n) (v:ItO s.heap p g i m) (M:SqO s.heap l h r) (N:SqO s.heap p i t) (d:r[n]?=J\/t[m]?=J)
  (q:∀j,(∀c o,c≠z->c≠TO->c≠f->c≠g->s.heap.get? c=O o->j.get? c=O o)->Q J {s with heap:=j}):Tc (Mb prog w) A (NQ<|.ref z) Q E s:=by
 have hT:s.TypeIs (.ref z) "zip":=⟨_,k,rfl⟩;unfold NQ;refine Ma<|P4<|O0 (name:=Str.ofString "__next__") hT F.slot_zip_next<|OG F.slot_zip_next hT F.entry_zip_next (uY H D k x y u v M N d λj e hk G=>?_)<|F.args_zip_next_1 _;obtain⟨o,ho,B⟩:=G;exact Ma<|wpAny_isInstance (T:="StopIteration") (b:=L7) ⟨o,ho,B⟩ isSubtype_stop<|Mf<|q _ hk
end
noncomputable def r9 (k:Ta)(a:S9):Obj:=match k with
|true=>{cls:=.type "tuple_iterator",data:=.fields #[.ref a,.int 0 0]}
|false=>{cls:=.type "list_iterator",data:=.fields #[.ref a,.int 0 0]}
abbrev zO1 (h:To)(b:Ta)(a:S9):To:=h.push<|r9 b a
abbrev zO2 (h:To)(c d:Ta)(a b:S9):To:=(zO1 h c a).push<|r9 d b
abbrev zO3 (h:To)(b d:Ta)(a c:S9):To:=(zO2 h b d a c).push {cls:=.type "tuple",data:=.seq #[.ref h.objs.size,.ref (zO1 h b a).objs.size]}
abbrev zO4 (h:To)(c d:Ta)(a b:S9):To:=(zO3 h c d a b).push {cls:=.type "tuple",data:=.seq #[.none,.none]}
abbrev zO5 (h:To)(c d:Ta)(a b:S9):To:=(zO4 h c d a b).push {cls:=.type "zip",data:=.fields #[.none,.bool L5,.bool L5,.ref (zO2 h c d a b).objs.size,.ref (zO3 h c d a b).objs.size]}
theorem nS (f i:Ta)(a b:S9)(c e:Tv L):
  Meets (Ob.«zip.__new__» ⟨[.type "zip",.ref a,.ref b],[]⟩) (λ_ R s=>SqO s.heap f a c/\SqO s.heap i b e/\R (.ok<|.ret<|.ref (zO4 s.heap f i a b).objs.size) {s with heap:=zO5 s.heap f i a b}):=
 .of_wp λprog w A R s h=>by
  obtain⟨hp,g,d,tk,os⟩:=s;obtain⟨j,k,h⟩:=h;have l:=sub_zip;cases f<;>cases i
  .have e1:Heap.IsList (Shared.heap ⟨hp,g,d,tk,os⟩) a c:=j;have e2:Heap.IsList (Shared.heap ⟨hp.push {cls:=.type "list_iterator",data:=.fields #[.ref a,.int 0 0]},g,d,tk,os⟩) b e:=Heap.IsList.push k _
   wp_walk using NS e1,NS e2
   exact⟨_,rfl,h⟩
  .have e1:Heap.IsList (Shared.heap ⟨hp,g,d,tk,os⟩) a c:=j;have e2:Heap.IsTuple (Shared.heap ⟨hp.push {cls:=.type "list_iterator",data:=.fields #[.ref a,.int 0 0]},g,d,tk,os⟩) b e:=Heap.IsTuple.push k _
   wp_walk using NS e1,Og e2
   exact⟨_,rfl,h⟩
  .have e1:Heap.IsTuple (Shared.heap ⟨hp,g,d,tk,os⟩) a c:=j;have e2:Heap.IsList (Shared.heap ⟨hp.push {cls:=.type "tuple_iterator",data:=.fields #[.ref a,.int 0 0]},g,d,tk,os⟩) b e:=Heap.IsList.push k _
   wp_walk using Og e1,NS e2
   exact⟨_,rfl,h⟩
  .have e1:Heap.IsTuple (Shared.heap ⟨hp,g,d,tk,os⟩) a c:=j;have e2:Heap.IsTuple (Shared.heap ⟨hp.push {cls:=.type "tuple_iterator",data:=.fields #[.ref a,.int 0 0]},g,d,tk,os⟩) b e:=Heap.IsTuple.push k _
   wp_walk using Og e1,Og e2
   exact⟨_,rfl,h⟩
theorem pY {h:To}{k:Ta}{it a:S9}(e:h.get? it=O (r9 k a)):ItO h k it a 0:=by cases k<;>exact⟨_,e,rfl,rfl⟩
theorem jR (k:Ta)(a:S9):(r9 k a).isFreed=false:=by cases k<;>rfl
section
variable {prog:Td}{w:Mc}{A:Mh}{E:L->L8->Prop}{s:L8}
theorem zI {b e:Ta}{a d:S9}{m n:Tv L}{Q:L->L8->Prop}(r:SqO s.heap b a m)(t:SqO s.heap e d n)
  (h:∀ f,M8 f (s.heap.objs.size+4) (s.heap.objs.size+2) (s.heap.objs.size+3) .none->TK f (s.heap.objs.size+2) (.ref s.heap.objs.size) (.ref (s.heap.objs.size+1)) ->
   TK f (s.heap.objs.size+3) .none .none->ItO f b s.heap.objs.size a 0->ItO f e (s.heap.objs.size+1) d 0->(∀c o,s.heap.get? c=O o->f.get? c=O o)->Q (.ref<|s.heap.objs.size+4) {s with heap:=f}):
  Tc (Mb prog w) A (call (.type "zip") [.ref a,.ref d]) Q E s:=by
 refine callType_new F.called_zip (by decide) (F.typeCall_zip_2 _ _) (F.newCall_zip_2 _ _) (λobj=>F.args_object_init_3 obj _ _) F.entry_zip_new (nS b e a d m n) ⟨r,t,?_⟩;have e1:(zO1 s.heap b a).objs.size=s.heap.objs.size+1:=Heap.size_push ..;have e2:(zO2 s.heap b e a d).objs.size=s.heap.objs.size+2:=by rw[Heap.size_push,e1]
 have e3:(zO3 s.heap b e a d).objs.size=s.heap.objs.size+3:=by rw[Heap.size_push,e2]
 have i:(zO4 s.heap b e a d).objs.size=s.heap.objs.size+4:=by rw[Heap.size_push,e3]
 have g:(zO5 s.heap b e a d).get? (zO4 s.heap b e a d).objs.size=O _:=Heap.get?_push_size _ rfl;have l:(zO5 s.heap b e a d).get? (zO3 s.heap b e a d).objs.size=O _:=Heap.get?_push_of_some _<|Heap.get?_push_size _ rfl;have k:(zO5 s.heap b e a d).get? (zO2 s.heap b e a d).objs.size=O _:=Heap.get?_push_of_some _<|Heap.get?_push_of_some _<|Heap.get?_push_size _ rfl;have j:(zO5 s.heap b e a d).get? (zO1 s.heap b a).objs.size=O (r9 e d):=Heap.get?_push_of_some _<|Heap.get?_push_of_some _<|Heap.get?_push_of_some _<|Heap.get?_push_size _<|jR e d;have p:(zO5 s.heap b e a d).get? s.heap.objs.size=O (r9 b a):=Heap.get?_push_of_some _<|Heap.get?_push_of_some _<|Heap.get?_push_of_some _<|Heap.get?_push_of_some _<|Heap.get?_push_size _<|jR b a;show _/\_;rw[e2,e3,i] at g;rw[e1,e2] at k;rw[e3] at l;rw[e1] at j;rw[i];exact⟨⟨_,g,rfl⟩,h _ g k l (pY p) (pY j) λc o x=>Heap.get?_push_of_some _<|Heap.get?_push_of_some _<|Heap.get?_push_of_some _<|Heap.get?_push_of_some _<|Heap.get?_push_of_some _ x⟩
end
def Sq (K:L9)(H:Hp):Ta->S9->U V->Prop
|true,a,b=>SqT K H a b
|false,a,b=>SqL K H a b
section
variable {X:Cx}{pins:U (S9×Obj)}{σ:L2.St}{H:Hp}{s:L8}
theorem sY (b:Inv X pins σ H s){k:Ta}{a:S9}{d:U V}(h:Sq X.K H k a d):∃c:U L,Vals d c/\SqO s.heap k a c.toArray/\d.length<=sizeLine:=by
 cases k with
 |true=>obtain⟨c,r,p,z⟩:=b.tuple h;exact⟨c,r,p,z⟩
 |false=>obtain⟨c,r,p,z⟩:=b.list h;exact⟨c,r,p.isList,z⟩
theorem qj (b:Inv X pins σ H s){k:Ta}{a:S9}{d e:U V}(h:Sq X.K H k a d)(c:Sq X.K H k a e):d=e:=by
 cases k with
 |true=>exact b.tuple_inj h c
 |false=>exact b.list_inj h c
theorem jj {f:To}{ch:U S9}(a:Inv X pins σ H s)(h:∀b∈ch,H b=J)(k:∀b o,b ∉ ch->s.heap.get? b=O o->f.get? b=O o):HOk X.prog X.w H f:=λb u e=>by
 have d:∀b u,H b=O u->b ∉ ch:=λb u e z=>by rw[h b z] at e;cases e
 refine(a.hok b u e).stay (λc v g q=>k c v ?_ q) (λ_ q=>q) λ_ _ q=>q;rcases g with z|z
 .rw[z];exact d b u e
 .exact d c _ z
theorem iM {g:To}{t':Y}{ch:U S9}(a:Inv X pins σ H s)(d:∀b∈ch,jA X pins H b)(k:∀b o,b ∉ ch->s.heap.get? b=O o->g.get? b=O o):Inv X pins σ H {s with heap:=g,toks:=t'}:=by
 refine a.step (g':=s.gens) (d':=s.drawn) (ch:=ch) (λb c=>⟨(d b c).2.2.2.1,(d b c).2.1,(d b c).2.2.2.2.1,(d b c).2.2.2.2.2⟩) (λb o _ _ f e _=>k b o f e) (λb o _ _ f e _=>⟨o.slots,k b o f e⟩) (λ_ _ _ _ n=>n)
  (λb o f e=>⟨o,k b o f e⟩) (λ_ _ e=>e) (λ_ _ _ e=>e) (λb j e=>⟨#[],by rw[e];simp⟩) (λm i=>?_) (jj a (λb c=>(d b c).1) k) a.bare
 obtain⟨o,h,ep,ho,r⟩:=i;exact⟨o,h,ep,k _ o (λz=>(d _ z).2.1 rfl) ho,r⟩
theorem d9 {i:To}{t':Y}{ch:U S9}{a:S9}{j:U V}{d:U L}(c:Inv X pins σ H s)(g:∀b∈ch,jA X pins H b)(k:∀b o,b ∉ ch->s.heap.get? b=O o->i.get? b=O o)
  (l:s.heap.objs.size<=a) (x:j.length<=sizeLine) (w:Vals j d) (v:T7 i a d.toArray):Inv X pins σ (upd H a<|.tup j) {s with heap:=i,toks:=t'}:=by
 have fr:H a=none:=c.hok.fresh l;have y:∀b o,s.heap.get? b=O o->b≠a:=λb o e=>Mu<|MF (Heap.lt_size e) l
 refine c.step (g':=s.gens) (d':=s.drawn) (ch:=ch) (λb f=>⟨(g b f).2.2.2.1,(g b f).2.1,(g b f).2.2.2.2.1,(g b f).2.2.2.2.2⟩) (λb o _ _ h e _=>k b o h e) (λb o _ _ h e _=>⟨o.slots,k b o h e⟩) (λb o _ e n=>by rw[ag<|y b o e];exact n)
  (λb o h e=>⟨o,k b o h e⟩) (λb u e=>by rw[ag<|aJ e fr];exact e) (λb o u e=>by rw[ag<|aJ e fr];exact e) (λb A e=>⟨#[],by rw[ag<|aJ e fr,e];simp⟩) (λm t=>?_)
  (jJ (jj c (λb f=>(g b f).1) k) fr ⟨x,d,w,v⟩) c.bare
 obtain⟨o,p,ep,ho,r⟩:=t;exact⟨o,p,ep,k _ o (λz=>(g _ z).2.1 rfl) ho,r⟩
end
def Itz (K:L9)(e f:Ta)(c d:S9):It:=
 ⟨fun i H=>∃ a b x y,Sq K H e c a/\Sq K H f d b/\a[i]?=O x/\b[i]?=O y,
  λi H v g=>∃p x y,v=.ref p/\H p=J/\g=upd H p (.tup [x,y])/\(∀a,Sq K H e c a->a[i]?=O x)/\∀b,Sq K H f d b->b[i]?=O y,
  λi H=>∃a b,Sq K H e c a/\Sq K H f d b/\(a.length<=i\/b.length<=i)⟩
def ZSt (z TI TO c d:S9)(g j:Ta)(e f:S9)(i:Y)(h:To):Prop:=
 M8 h z TI TO .none/\TK h TI (.ref c) (.ref d)/\(∃a b,TK h TO a b)/\ItO h g c e i/\ItO h j d f i
theorem u7 {P:Td}{w:Mc}{K:L9}{es:U Tq}{kt:Y}{pt:Pos}{z TI TO t u Q Z:S9}{k1 k2:Ta}(D:Ui z TI TO t u Q Z):
  so P w K (.Tuple es kt pt) (Itz K k1 k2 Q Z) [z,TI,TO,t,u] z (ZSt z TI TO t u k1 k2 Q Z) where
 mem:=by simp
 obj:=λi h l b f=>by
  obtain⟨m,j,⟨a,c,n⟩,p,r⟩:=l;simp only[Mm,MW,TC] at f;rcases f with rfl|rfl|rfl|rfl|rfl
  .exact⟨_,m,λv y=>by cases y⟩
  .exact⟨_,j,λv y=>by cases y⟩
  .exact⟨_,n,λv y=>by cases y⟩
  .exact p.obj
  .exact r.obj
 keep:=λi h G l k=>by obtain⟨m,j,⟨a,c,n⟩,p,r⟩:=l;exact⟨k z (by simp) _ m,k TI (by simp) _ j,⟨a,c,k TO (by simp) _ n⟩,p.at λo e=>k t (by simp) o e,r.at λo e=>k u (by simp) o e⟩
 item:=by
  intro X hP hw hK hc i F s σ H E d M l hg;subst hP hw hK;obtain⟨xs,ys,x,y,s1,N,hx,hy⟩:=hg;obtain⟨m,j,⟨a,c,n⟩,p,r⟩:=l;obtain⟨A,v1,o1,z1⟩:=sY d s1;obtain⟨B,v2,o2,z2⟩:=sY d N;obtain⟨u1,e1,r1⟩:=v1.get hx;obtain⟨u2,e2,r2⟩:=v2.get hy
  have lt:∀b∈[z,TI,TO,t,u],b<s.heap.objs.size:=λb f=>by
   simp only[Mm,MW,TC] at f;rcases f with rfl|rfl|rfl|rfl|rfl
   .exact Heap.lt_size m
   .exact Heap.lt_size j
   .exact Heap.lt_size n
   .obtain⟨o,e,_⟩:=p.obj;exact Heap.lt_size e
   .obtain⟨o,e,_⟩:=r.obj;exact Heap.lt_size e
  refine nE D m j n p r o1 o2 (x:=u1) (y:=u2) (by simpa using e1) (by simpa using e2) λG y1 y2 y3 y4 y5 y6 y7=>⟨_,rfl,?_⟩;refine wpAny_letOwnedTupleGo_zip (s:={s with heap:=G}) y1 λh2 w1 sb=>?_;have g:Heap.SameBut z G h2:=sb;have nz:s.heap.objs.size≠z:=NC (lt z<|by simp);have kk:∀b o,b ∉ [z,TI,TO,t,u]->s.heap.get? b=O o->h2.get? b=O o:=λb o f e=>by simp only[Mm,MW,TC,not_or] at f;exact(g.2 b f.1).trans<|y7 b o f.1 f.2.2.1 f.2.2.2.1 f.2.2.2.2 e
  have tp:T7 h2 s.heap.objs.size [u1,u2].toArray:=⟨_,(g.2 _ nz).trans y5,rfl,_,rfl⟩
  refine⟨.ref s.heap.objs.size,upd H s.heap.objs.size<|.tup [x,y],d9 (s:=s) (t':=s.toks) d M kk (Mi _) (by show 2<=sizeLine;decide) (.cons r1<|.cons r2 .nil) tp,rfl,
   ⟨_,x,y,rfl,d.fresh,rfl,λzs hz=>by rw[qj d hz s1];exact hx,λzs hz=>by rw[qj d hz N];exact hy⟩,?_,λb f=>?_⟩
  .exact⟨w1,(g.2 _ D.TIz).trans<|y7 _ _ D.TIz D.TITO D.TIi1 D.TIi2 j,⟨_,_,(g.2 _ D.TOz).trans y2⟩,y3.at λo e=>(g.2 _ D.i1z).trans e,y4.at λo e=>(g.2 _ D.i2z).trans e⟩
  .rw[ag<|Mu<|lt b f];exact(M b f).1
 done:=by intro X hP hw hK hc i F s σ H E d M l hg;subst hP hw hK;obtain⟨xs,ys,s1,N,hl⟩:=hg;obtain⟨m,j,⟨a,c,n⟩,p,r⟩:=l;obtain⟨A,v1,o1,z1⟩:=sY d s1;obtain⟨B,v2,o2,z2⟩:=sY d N;have l1:=v1.length;have l2:=v2.length;refine rW (d.ok.hd hc) D m j n p r o1 o2 (hl.imp (λq=>by simp;lia) λq=>by simp;lia) λG hk=>⟨rfl,iM (t':=s.toks) d M λb o f e=>?_⟩;simp only[Mm,MW,TC,not_or] at f;exact hk b o f.1 f.2.2.1 f.2.2.2.1 f.2.2.2.2 e
 self:=λ_ _ _ _ _ l h=>wpAny_pyIter_zip l.1 h
section
variable {X:Cx}
def IZ (K:L9)(f:TA):TI:=λj H R=>f j H λg a=>∃d e b c,g=[.ref b,.ref c]/\(∃h,Sq K a d b h)/\(∃i,Sq K a e c i)/\R (Itz K d e b c) a
theorem Ea {a b:Tq}{w:TA}{p j pt:Pos}{y:U Tq}{M:Y}(B:Gl X "zip")(D:X.mg "zip"=J)(A:PA X [a,b] w)(F:Me [a,b] X.env=[(L5,Tx a X.env),(L5,Tx b X.env)]:=by rfl)(g:Me [b] X.env=[(L5,Tx b X.env)]:=by rfl):
  PI X (.Tuple y M pt) (.Call (.Name "zip" p) [a,b] [] j) (IZ X.K w):=by
 intro i s σ H R c h;refine Call_ (gk c B D boot_zip<|Qr (thn (A j i s σ H _ c h) λus s1 ⟨vs,x,d,r1,k⟩=>?_) (by rw[F,g])<|by rw[g];rfl);obtain⟨k1,k2,a1,a2,rfl,⟨xs,m⟩,⟨ys,n⟩,q⟩:=k;cases r1 with
 | cons r l =>
  cases l with
  | cons r' l =>
   cases l;cases r;cases r';obtain⟨t,v1,v,z1⟩:=sY d m;obtain⟨u,v2,o2,z2⟩:=sY d n;refine zI v o2 λz k N P Q Z G=>?_;refine wpAny_pyIter_zip (s:={s1 with heap:=z}) k ?_;refine⟨_,_,_,_,x,rfl,d.kept (t':=s1.toks) G,u7<|zipApart_new v.lt o2.lt,⟨k,N,⟨_,_,P⟩,Q,Z⟩,λb o=>?_,q⟩;have f:s1.heap.objs.size<=b:=by simp only[Mm,MW,TC] at o;rcases o with e|e|e|e|e<;>(rw[e];first|exact Qh _ _|exact Mi _)
   exact d.fpOk f<|d.hok.fresh f
end
structure ay (pre ys:U Str)(scope:TM):Prop where
 kind:scope.kind=.function
 cell:∀y∈scope.names,y.2≠.cell
 nm:∀y∈scope.names,y.2=.local->scope.names.lookup y.1=O .local
 loc:∀x∈pre,scope.names.lookup x=O .local
 nd:(pre++ys).Nodup
theorem ua {pre:U Str}{b:L2.St}{j:Y}{v:V}(e:(Mr pre.length J++b)[j]?=O (O v)):∃i,j=pre.length+i/\b[i]?=O (O v):=by
 by_cases a:j<pre.length
 .rw [PQ<|by rw [OC]; exact a,Q6,Tf a] at e;cases MY e
 .refine ⟨j-pre.length,by lia,?_⟩;rw[OV<|by rw[OC];lia,OC] at e;exact e
theorem tI {X:Cx}{t:U<|S9×Obj}{σ:L2.St}{H:Hp}{s:L8}{pre B:U Str}{is:U Y}{g:TM}{A:U<|Str×S9}{Q:U S9}{C:S9}{Z:To}{t1:Y}{m1:Str->I L}
  (f:Inv X t σ H s) (M:∀b∈Q,jA X t H b) (hfo:∀b∈Q,b<s.heap.objs.size) (S:ay pre B g) (h:Clo X A)
  (hfr:(g.names.all λp=>p.2 != .free || (A.lookup p.1).isSome)=L7) (fr:Frees X g A B is)
  (G:s.heap.objs.size<=C) (m:∀b o,s.heap.get? b=O o->Z.get? b=O o) (hn:Z.Ns C m1):
  Inv (ao X (pre++B) g A C s H Q) t (Mr pre.length J++dh σ is) H {s with heap:=Z,toks:=t1}:=by
 have F:∀b,b≠X.env.locals->b ∉ X.fs->b ∉ frs X.stack:=λb q1 q2 w=>(Mm.mp<|f.stkSub b w).elim q1 q2
 have D:∀a k,(OE g X.env).names.lookup a=O k->(k=.cell\/k=.free)->∃c,A.lookup a=O c:=λa k e hk=>by
  have hm:=Pf e;obtain⟨⟨n,k0⟩,hp,ep⟩:=OL.mp hm
  have hk0:k0=.free/\n=a:=by
   dsimp only at ep;split at ep
   .rename_i hc;simp only[Mv] at hc;exact⟨eq_of_beq hc.1.1,(RO ep).1⟩
   .obtain ⟨e1,e2⟩:=RO ep;subst e2;rcases hk with z|z
    .exact Tg z (S.cell _ hp)
    .exact⟨z,e1⟩
  obtain⟨z1,z2⟩:=hk0;subst z1 z2;have q:=Nd.mp hfr _ hp;have q2:(A.lookup n).isSome=true:=by simpa using q
  exact Q9.mp q2
 refine⟨⟨f.ok.mod,S.kind,f.ok.glob,f.ok.blt,G,λa b c e1 e2=>f.ok.inj a b c (h.get e1)<|h.get e2,λa ha=>?_,λa c e=>Tg e MJ,f.ok.hd,f.ok.frames,.inl rfl,
   λb w=>⟨Mu<|MF (hfo b w) G,λa c e=>(M b w).2.2.2.2.1 a c<|h.get e⟩,f.bs,Mt f.ok.bsz f.sz,λb o e w=>?_,λb w=>F b (M b w).2.1 (M b w).2.2.1,f.stack,f.stkFree⟩,
  rfl,f.bare,Un.kept m,⟨m1,hn,λj y v e1 e2 e3=>?_⟩,λa c e=>?_,f.hok.fresh G,λa c e=>f.freeC a c<|h.get e,λp hp=>?_,f.hok.kept m,?_⟩
 .rcases ha with e | e
  .exact D a _ e (.inl rfl)
  .exact D a _ e (.inr rfl)
 .rcases (M b w).2.2.2.1 with z | z
  .exact f.ok.noex b o e z
  .exact Tg (MF (Heap.lt_size (f.ok.bs b o e).1) z) (NF _)
 .obtain ⟨k,rfl,P⟩:=ua e2;have N:B[k]?=O y:=by have x:(pre++B)[pre.length+k]?=O y:=e1;rw[OV (by lia),Q3] at x;exact x
  obtain⟨i,c,g1,g2,g3,g4,g5,g6,g7⟩:=fr.get (σ:=σ) N P;obtain⟨m0,hn0,hl0⟩:=f.loc;obtain⟨u,r,l⟩:=hl0 i y v g1 g2 g3;rcases l with⟨k,_⟩|⟨_,c',e',z⟩
  .rcases g4 with q | q
   .rw[k] at q;cases q
   .rw[k] at q;cases q
  .rw [g5] at e';cases e';obtain⟨o,ho,hd⟩:=z;exact⟨u,r,.inr ⟨g7,c,g6,⟨o,m _ _ ho,hd⟩⟩⟩
 .obtain ⟨v,o,ho,hd⟩:=f.cell a c<|h.get e;exact⟨v,o,m _ _ ho,hd⟩
 .obtain ⟨e,n,ne,nf,d⟩:=f.pin p hp;exact⟨m _ _ e,n,Mu<|MF (Heap.lt_size e) G,F _ ne nf,d⟩
 .show (Mr pre.length J++dh σ is).length=(pre++B).length;unfold dh;rw[MA,MA,OC,Mg,fr.len]
section
variable {X:Cx}
theorem oO {lo:Int}{a:Tv L}{n:Y}(h:ItemsOf (λ(i:Y) (v:L)=>∃t,v=Value.int (lo+(i:Int) * 1) t) a n):Vals ((Mj n).map λ(k:Y)=>V.int<|lo+(k:Int)) a.toList:=by
 have c:∀(l:U L) (m:Y),l.length+m=n->(∀j v,l[j]?=O v->∃t,v=Value.int (lo+((m+j:Y):Int)) t)->Vals ((Qf m l.length).map λ(k:Y)=>V.int (lo+(k:Int))) l:=by
  intro l;induction l with
  |nil=>intro m _ _;exact .nil
  |cons v l p=>intro m o d;obtain⟨t,e⟩:=d 0 v rfl;rw[Mw,List.range'_succ,ME];refine .cons ⟨t,by rw[e];rfl⟩<|p (m+1) (by rw[Mw] at o;lia) λj s b=>?_;obtain⟨r,f⟩:=d (j+1) s b;exact⟨r,by rw[f,show m+(j+1)=m+1+j by lia]⟩
 have g:a.toList.length=n:=by rw[N9];exact h.1
 have:=c a.toList 0 (by lia) λj v b=>by obtain⟨t,e⟩:=h.2 j v (by simpa using b);exact⟨t,by rw[e,Int.mul_one,Pb]⟩
 rw[g] at this;rw[RZ];exact this
theorem oi (A:X.calm=L7):bW X (.type "list") (λm H Q=>∃p i j,m=[.ref p]/\H p=O (.rng i j)/\(-(2 ^ 62)<=i/\i<2 ^ 62/\-(2 ^ 62)<=j/\j<2 ^ 62)/\(j-i).toNat<=sizeLine/\∀l,H l=J->Q (.ref l) (upd H l<|.lst<|(Mj (j-i).toNat).map λ(k:Y)=>V.int<|i+(k:Int))):=by intro g s M H m G Q a r h;obtain⟨p,i,j,rfl,hp,⟨o,w,x,y⟩,f,q⟩:=h;obtain⟨u,rfl,D⟩:=cU r;cases D;obtain⟨t,u,v,e⟩:=a.hok p _ hp;refine call_list_range (a.ok.hd A) e (small_one o w x y) (n:=(j-i).toNat) (by rw[rangeSize_one];split<;>lia) (Mt f<|by decide) λF tk b z hk d c=>?_;have B:=oO c;refine⟨.ref s.heap.objs.size,upd H s.heap.objs.size<|.lst<|(Mj (j-i).toNat).map λ(k:Y)=>V.int<|i+(k:Int),a.laid (t':=tk) hk (Mi _) ⟨?_,b.toList,z,B,by rw[d,Rn]⟩,rfl,q _ a.fresh⟩;rw[Mg,NZ];exact f
end
section
variable {prog:Td}{w:Mc}{A:Mh}{R:Result->L8->Prop}{s:L8}
theorem my {u M j f:Tq}{c:TM}{H:Pos}{it t:L}{b:Env}(a:Y->L8->Prop)
  (turn:∀ n s,a n s->Tc (Mb prog w) A (NQ it) (fun r d=>match r with
   |none=>R (.ok .next) d
   | some v=>Tc (Mb prog w) A (O3 M it v) (fun _ k=>Tc (Mb prog w) A (NR M b v) (fun _ l=>Tc (Mb prog w) A (Uq f b (Tx f b)) (fun ok e=>if ok=L7 then
     Tc (Mb prog w) A (Tx u b) (λy o=>Tc (Mb prog w) A (call (.builtin "list.append") [t,y]) (λ_ p=>∃m,m<n/\a m p) noX o) noX e else∃m,m<n/\a m e) noX l) noX k) noX d) noX s)
  (n:Y) (h:a n s):NJ (Mb prog w) A (.compLoop (.ListComp u [⟨M,j,[f],0⟩] c H) 0 it t b) R s:=by
 refine codeAny_loop rfl a (λn s N=>?_) n h;show Tc _ A ((compTurn (.ListComp u [⟨M,j,[f],0⟩] c H) 0 it t b).onRaise (λx=>do OY x b;theTreesLotGoes x)) _ _ s;refine wpAny_noted ?_;rw[compTurn_list];refine Ma<|O1<|Ma<|MD (turn n s N) (λr d g=>?_) λ_ _ z=>z.elim;cases r with
 |none=>exact Mf g
 |some v=>
  refine Ma<|MD g (λ_ k B=>?_) λ_ _ z=>z.elim;refine Ma<|MD B (λ_ l D=>?_) λ_ _ z=>z.elim;refine Ma<|wpAny_tests_one<|MD D (λok e i=>?_) λ_ _ z=>z.elim;cases ok with
  |true=>exact Ma<|Ma<|MD i (λy o F=>Ma<|MD F (λ_ p G=>Mf<|Mf ⟨rfl,G⟩) λ_ _ z=>z.elim) λ_ _ z=>z.elim
  |false=>exact Ma<|Mf<|Mf ⟨rfl,i⟩
end
end L3

namespace L3
open PySem PySem.Spec PyProof.Rows L2
def Ac (n:Y)(a:It)(g:TG)(o:TT)(r:TE)(c:L2.St)(j:Hp)(Q:VK):Prop:=∃W:Y->Y->U V->Hp->Prop,(∃m,W 0 m [] j)/\∀i m d H,W i m d H ->
 (a.stop i H/\d.length<=sizeLine/\∀p,H p=J->Q (.ref p) (upd H p<|.lst d)) \/
 (a.go i H/\d.length<sizeLine/\∀x f,a.yld i H x f->g x (Mr n J++c) f λb k=>(b.length=n+c.length/\b.drop n=c)/\o b k λok h=>if ok=L7 then r b h λy l=>∃e,e<m/\W (i+1) e (d++[y]) l else∃e,e<m/\W (i+1) e d h)
def yg (n:Y)(a:It)(g:TG)(l:TE)(b:L2.St)(h:Hp)(Q:VK):Prop:=∃W:Y->Y->U V->Hp->Prop,(∃m,W 0 m [] h)/\∀i m d H,W i m d H ->
 (a.stop i H/\d.length<=sizeLine/\∀p,H p=J->Q (.ref p) (upd H p<|.lst d)) \/
 (a.go i H/\d.length<sizeLine/\∀x e,a.yld i H x e->g x (Mr n J++b) e λc j=>(c.length=n+b.length/\c.drop n=b)/\l c j λy k=>∃f,f<m/\W (i+1) f (d++[y]) k)
def f9 (n:Y)(h:TI)(d:U Y)(g:TG)(e:TT)(f:TE):TE:=λb H Q=>h b H λa c=>Ac n a g e f (dh b d) c Q
def kB (n:Y)(f:TI)(d:U Y)(g:TG)(e:TE):TE:=λb H Q=>f b H λa c=>yg n a g e (dh b d) c Q
theorem vJ {n:Y}{b a:L2.St}(h:b.drop n=a){j:Y}{w:V}(e:(Mr n J++a)[j]?=O (O w)):b[j]?=O (O w):=by
 by_cases c:j<n
 .rw [PQ<|by simpa using c,Q6,Tf c] at e;cases MY e
 .rw [OV<|by simpa using c,OC,<- h,List.getElem?_drop,Nat.add_sub_cancel'<|by lia] at e;exact e
def CW (X:Cx)(a:U Tq)(k:Ta->L8->Prop)(s:L8):Prop:=match a with
|[]=>k L7 s
|[c]=>Tc (Mb X.prog X.w) X.A (Uq c X.env<|Tx c X.env) k noX s
|_=>Tw
def PC (X:Cx)(d:U Tq)(f:TT):Prop:=∀(a:U<|S9×Obj) (s:L8) (b:L2.St) (H:Hp) (Q:Ta->Hp->Prop),Inv X a b H s->f b H Q->CW X d (λok e=>∃c,Inv X a b c e/\Q ok c) s
theorem CW.mono {X:Cx}{a:U Tq}{k d:Ta->L8->Prop}{s:L8}(h:CW X a k s)(w:∀b s,k b s->d b s):CW X a d s:=by
 match a,h with
 |[],h=>exact w _ _ h
 |[c],h=>exact MD h w λ_ _ z=>z
theorem lK {X:Cx}{g x i:Tq}{p:U Tq}{e:TM}{u:Pos}{it f:L}{R:Result->L8->Prop}{s:L8}(a:Y->L8->Prop)
  (turn:∀ n s,a n s->Tc (Mb X.prog X.w) X.A (NQ it) (fun r b=>match r with
   |none=>R (.ok .next) b
   | some v=>Tc (Mb X.prog X.w) X.A (O3 x it v) (fun _ j=>Tc (Mb X.prog X.w) X.A (NR x X.env v) (fun _ k=>CW X p (fun ok d=>if ok=L7 then
     Tc (Mb X.prog X.w) X.A (Tx g X.env) (λy l=>Tc (Mb X.prog X.w) X.A (call (.builtin "list.append") [f,y]) (λ_ o=>∃m,m<n/\a m o) noX l) noX d else∃m,m<n/\a m d) k) noX j) noX b) noX s)
  (n:Y) (h:a n s) (t:p.length<=1):NJ (Mb X.prog X.w) X.A (.compLoop (.ListComp g [⟨x,i,p,0⟩] e u) 0 it f X.env) R s:=by
 match p,t with
 |[],_=>exact nU a turn n h
 |[c],_=>exact my a turn n h
theorem mC {X:Cx}{elt P tg:Tq}{cs:U Tq}{pre:U Str}{pos:Pos}{l:TM}{N:U<|Str×S9}{Z:U Str}{is:U Y}{wi:TI}{g:TG}{te:TE}{tc:TT}{use:I<|L->Sem Unit}{Q:VK}{Qp:L->L8->Prop}{t:U<|S9×Obj}{s:L8}{σ:L2.St}{H:Hp}{ip:Pos}
  (hc:X.calm=L7) (hi:PI X tg P wi) (hg:∀C s H F,PG (ao X (pre++Z) l N C s H F) tg g) (he:∀C s H F,PE (ao X (pre++Z) l N C s H F) elt te) (hcd:∀C s H F,PC (ao X (pre++Z) l N C s H F) cs tc) (hcs:cs.length<=1)
  (hclos:Nz l X.env=pure N) (S:ay pre Z l) (hcl:Clo X N) (hfr:(l.names.all λp=>p.2 != .free || (N.lookup p.1).isSome)=L7) (fr:Frees X l N Z is) (hs:∀v,Nb P X.env v=pure v)
  (fin:∀(s4:L8) (Hn:Hp) (D k:S9) (m4:Str->I L),Inv X t σ Hn s4->s4.heap.Ns k m4->k≠X.env.locals->(∀a c,X.env.cells.lookup a=O c->c≠k)->Hn k=J->X.s₀.heap.objs.size<=k->(∀p∈X.pn++t,p.1≠k)->Q (.ref D) Hn->compPost (Mb X.prog X.w) X.A X.xe use Qp (.ref D) k (.ok .next) s4)
  (d:Inv X t σ H s) (h:f9 pre.length wi is g tc te σ H Q):
  Tc (Mb X.prog X.w) X.A (Ua (.ListComp elt [⟨tg,P,cs,0⟩] l pos) l X.env ip (newList []) L5 (Tx P X.env) use) Qp X.xe s:=by
 refine wpAny_comprehension_free (use:=use) rfl hs hclos S.kind S.nm (thn (hi t s σ H _ d h) λxv s1 h1=>thn h1 λitv m h2=>?_);obtain⟨it,F,tn,f,M,rfl,I2,T,st2,f2,W,⟨m0,w0⟩,turn⟩:=h2;have fpo:∀b∈F,b<m.heap.objs.size:=λb x=>by obtain⟨o,e,_⟩:=T.obj _ _ st2 b x;exact Heap.lt_size e
 refine Of<|wpAny_newFunctionEnv S.cell (λy hy=>by cases hy) (λg' hns hsb=>?_) S.kind;dsimp only at hns hsb ⊢;generalize hP2:m.heap.push {cls:=.type "list",dict:=J,data:=.seq ([]:U L).toArray}=P2 at hns hsb ⊢;have hCs:P2.objs.size=m.heap.objs.size+1:=by rw[<- hP2,Heap.size_push]
 have hDC:m.heap.objs.size≠P2.objs.size:=by lia
 have hle:m.heap.objs.size<=P2.objs.size:=by lia
 have nc:∀b o,m.heap.get? b=O o->b≠P2.objs.size:=λb o e=>Mu<|MF (Heap.lt_size e) hle;have nd:∀b o,m.heap.get? b=O o->b≠m.heap.objs.size:=λb o e=>Mu<|Heap.lt_size e;have ndH:∀b u,M b=O u->b≠m.heap.objs.size:=λb u e=>Mu<|I2.hok.lt e;have old:∀b o,m.heap.get? b=O o->g'.get? b=O o:=λb o e=>hsb.extBut b o (nc b o e)<|Heap.get?_push_of_some _<|hP2 ▸ Heap.get?_push_of_some _ e;have accD:g'.get? m.heap.objs.size=O (kO []):=hsb.extBut _ _ hDC<|Heap.get?_push_of_some _<|hP2 ▸ Heap.get?_push_size _ rfl;have stkD:m.heap.objs.size ∉ frs X.stack:=λx=>(Mm.mp<|I2.stkSub _ x).elim (λz=>Tg z<|NC I2.lt)<|I2.nofs<|Mi _;generalize hσ':dh σ is=σ' at turn;have I3:Inv (ao X (pre++Z) l N P2.objs.size m M F) t (Mr pre.length J++σ') M {m with heap:=g',toks:=m.toks+([]:U<|Str×L).length}:=by rw[<- hσ'];exact tI (pre:=pre) I2 f2 fpo S hcl hfr fr hle old hns
 have stat:∀{H':Hp} {o:Obj},(∀b∈F,H' b=J)->∀b∈F,jA (ao X (pre++Z) l N P2.objs.size m M F) (t++[(m.heap.objs.size,o)]) H' b:=λ{H' o} hn b x=>by
  refine⟨hn b x,Mu<|MF (fpo b x) hle,λz=>(Mm.mp<|I2.stkSub _ z).elim (f2 b x).2.1 (f2 b x).2.2.1,.inl x,λa c e=>(f2 b x).2.2.2.2.1 a c<|hcl.get e,λp hp=>?_⟩;rcases OR.mp hp with z|z
  .exact(f2 b x).2.2.2.2.2 p<|OP _ z
  .rcases OR.mp z with z | z
   .exact(f2 b x).2.2.2.2.2 p<|MN _ z
   .rw [MZ.mp z];exact NC<|fpo b x
 have loop:NJ (Mb X.prog X.w) X.A (.compLoop (.ListComp elt [⟨tg,P,cs,0⟩] l pos) 0 (.ref it) (.ref m.heap.objs.size) (compEnvC l N P2.objs.size X.env))
   (compPost (Mb X.prog X.w) X.A X.xe use Qp (.ref m.heap.objs.size) P2.objs.size) {m with heap:=g',toks:=m.toks+([]:U<|Str×L).length}:=by
  refine lK (X:=ao X (pre++Z) l N P2.objs.size m M F) (λn s'=>∃i zs B H',Inv (ao X (pre++Z) l N P2.objs.size m M F) t (Mr pre.length J++σ') H' s'/\tn i s'.heap/\(∀b∈F,H' b=J)/\s'.heap.get? m.heap.objs.size=O (kO B)/\Vals zs B/\H' m.heap.objs.size=J/\W i n zs H')
   ?_ m0 ⟨0,[],[],M,I3,T.keep _ _ _ st2 λb _ o e=>old b o e,λb x=>(f2 b x).1,accD,.nil,I2.hok.fresh<|Mi _,w0⟩ hcs
  rintro n s3 ⟨i,zs,B,H3,J3,st3,fr3,d3,rv3,nd3,w3⟩;have hzl:=rv3.length
  have J3':Inv (ao X (pre++Z) l N P2.objs.size m M F) (t++[(m.heap.objs.size,kO B)]) (Mr pre.length J++σ') H3 s3:=J3.pins_of λp hp=>by
   rcases OR.mp hp with z|z
   .exact J3.pin p (MN _ z)
   .rw [MZ.mp z];exact⟨d3,nd3,hDC,stkD,λv q=>by cases q⟩
  rcases turn i n zs H3 w3 with⟨stop,hz,q⟩|⟨go,hz,step⟩
  .refine MD (T.done (ao X (pre++Z) l N P2.objs.size m M F) rfl rfl rfl hc i _ s3 _ H3 noX J3' (stat fr3) st3 stop) (fun r s4 h4=>?_) fun _ _ z=>z.elim;obtain⟨hr,I4⟩:=h4;subst hr;obtain⟨m4,hn4,_⟩:=id I4.loc;have f4:H3 P2.objs.size=none:=I4.free;have d4:s4.heap.get? m.heap.objs.size=O (kO B):=(I4.pin (m.heap.objs.size,kO B) (MN _ (MN _ (MZ.mpr rfl)))).1;have u4:Un (frs X.stack) F M H3 m.heap s4.heap:=I4.base
   have un:Un (frs X.stack) F M (upd H3 m.heap.objs.size (.lst zs)) m.heap s4.heap:=
    ⟨u4.keep,u4.slot,fun b o e n hx=>by rw [ag (nd b o e)]; exact u4.free b o e n hx,u4.there,
     λb xs q=>by rw[ag<|ndH b _ q];exact u4.tups b xs q,λb o u q=>by rw[ag<|ndH b _ q];exact u4.frzs b o u q,λb ps q=>by rw[ag<|ndH b _ q];exact u4.tbls b ps q⟩
   have IX:Inv X t σ (upd H3 m.heap.objs.size (.lst zs)) s4:=I2.call' (s':=s4) (ch:=F) I4.os un (jJ I4.hok nd3 ⟨hz,B,B.length,rv3,d4⟩) I4.bare
    (λb x=>⟨(f2 b x).2.2.2.1,(f2 b x).2.1,(f2 b x).2.2.2.2.1,(f2 b x).2.2.2.2.2⟩)
   have cL:P2.objs.size≠X.env.locals:=NC<|MF I2.lt hle;have cC:∀a c,X.env.cells.lookup a=O c->c≠P2.objs.size:=λa c e=>by obtain⟨v',o',ho',_⟩:=I2.cell a c e;exact nc c o' ho'
   exact fin s4 _ m.heap.objs.size P2.objs.size m4 IX hn4 cL cC (by rw[ag<|MI hDC];exact f4) (Mt I2.sz hle) (λp hp=>nc p.1 _ (I2.pin p hp).1)<|q _ nd3
  .refine MD (T.item (ao X (pre++Z) l N P2.objs.size m M F) rfl rfl rfl hc i _ s3 _ H3 noX J3' (stat fr3) st3 go) (fun r s4 h4=>?_) fun _ _ z=>z.elim;obtain⟨u,hr,h4⟩:=h4;subst hr;refine MD h4 (λ_ s5 h5=>?_) λ_ _ z=>z.elim;obtain⟨v,H5,I5,r5,y5,st5,fr5⟩:=h5;have I5':=I5.pinned (stat fr5) (T.obj _ _ st5);refine MD (hg P2.objs.size m M F _ s5 _ H5 v u _ I5' r5 (step v H5 y5)) (λ_ s6 h6=>?_) λ_ _ z=>z.elim;obtain⟨σ6,H6,I6,⟨hl6,hd6⟩,step'⟩:=h6;have back:∀{H7:Hp} {s7:L8},Inv (ao X (pre++Z) l N P2.objs.size m M F) ((t++[(m.heap.objs.size,kO B)])++il F s5.heap) σ6 H7 s7->Inv (ao X (pre++Z) l N P2.objs.size m M F) t (Mr pre.length J++σ') H7 s7:=λI7=>I7.unpinned.unpinned.weak (by rw[hl6,MA,OC]) λj w' e=>vJ hd6 e;refine CW.mono (hcd P2.objs.size m M F _ s6 _ H6 _ I6 step') λok s6' h6'=>?_;obtain⟨H6',I6',q6⟩:=h6';cases ok with
   | false =>
    rw[Ti MJ] at q6;obtain⟨m',hm',w7⟩:=q6;have G:=I6'.pin (m.heap.objs.size,kO B)<|MN _<|OP _<|MN _<|MZ.mpr rfl;rw[Ti MJ];refine⟨m',hm',i+1,zs,B,H6',back I6',T.keep _ _ _ st5 λb x o e=>?_,λb x=>?_,G.1,rv3,G.2.1,w7⟩
    .exact(I6'.pin (b,o)<|MN _<|MN _<|cp x e).1
    .obtain ⟨o,e,_⟩:=T.obj _ _ st5 b x;exact(I6'.pin (b,o)<|MN _<|MN _<|cp x e).2.1
   | true =>
    rw[Tf rfl] at q6 ⊢;refine MD (he P2.objs.size m M F _ s6' _ H6' _ I6' q6) (λyv s7 h7=>?_) λ_ _ z=>z.elim;obtain⟨y',H7,I7,r7,m',hm',w7⟩:=h7;have G:=I7.pin (m.heap.objs.size,kO B)<|MN _<|OP _<|MN _<|MZ.mpr rfl;refine append_at (hsz:=by show B.toArray.size<=sizeLine;rw[Mx];lia) G.1 λh8 sb8 hD8=>?_
    have I8:Inv (ao X (pre++Z) l N P2.objs.size m M F) t (Mr pre.length J++σ') H7 {s7 with heap:=h8}:=(back I7).turned (t':=s7.toks) (it:=m.heap.objs.size) (λb o x e=>(sb8.2 b x).trans e) G.2.1 hDC (.inr<|Mi _)
     (fun a c e z=>by
      obtain⟨v',o',ho',_⟩:=I2.cell a c<|hcl.get e;exact nd c o' ho' z)
     (λp hp=>nd p.1 _ (I2.pin p hp).1)
    refine⟨m',hm',i+1,zs++[y'],B++[yv],H7,I8,T.keep _ _ _ st5 λb x o e=>?_,λb x=>?_,?_,rv3.append<|.cons r7 .nil,G.2.1,w7⟩
    .exact(sb8.2 b<|Mu<|fpo b x).trans (I7.pin (b,o)<|MN _<|MN _<|cp x e).1
    .obtain ⟨o,e,_⟩:=T.obj _ _ st5 b x;exact(I7.pin (b,o)<|MN _<|MN _<|cp x e).2.1
    .show h8.get? m.heap.objs.size=_;rw[hD8];simp[kO]
 exact codeAny_compStart_list loop<|T.self X.A 0 _ _ _ (T.keep _ _ _ st2 λb _ o e=>old b o e) loop
section
variable {X:Cx}{elt iter tg cnd:Tq}{pre:U Str}{pos spos pz:Pos}{z:Str}{jz:Y}{scope:TM}{cl:U (Str×S9)}{ys:U Str}{is:U Y}{wi:TI}{g:TG}{te:TE}{tc:TT}
theorem pcF (h:PT X cnd tc)(hx:∀v s,X.xe v s->Tw):PC X [cnd] tc:=λb s c H Q a q=>MD (h b s c H Q a q) (λ_ _ z=>z) λv s z=>hx v s z
def tT:TT:=λ_ H Q=>Q L7 H
theorem pcN:PC X [] tT:=λb s c H Q a q=>⟨H,a,q⟩
theorem goN {n:Y}{a:L2.St}{H:Hp}{Q:VK}(h:kB n wi is g te a H Q):f9 n wi is g tT te a H Q:=h
theorem lT {i:U Tq}(y:X.calm=L7)(F:PI X tg iter wi)(B:∀C s H f,PG (ao X (pre++ys) scope cl C s H f) tg g)(A:∀C s H f,PE (ao X (pre++ys) scope cl C s H f) elt te)(j:∀C s H f,PC (ao X (pre++ys) scope cl C s H f) i tc)(l:i.length<=1)
  (d:Nz scope X.env=pure cl) (S:ay pre ys scope) (k:Clo X cl) (m:(scope.names.all λp=>p.2 != .free || (cl.lookup p.1).isSome)=L7) (fr:Frees X scope cl ys is) (M:∀v,Nb iter X.env v=pure v):
  PE X (.ListComp elt [⟨tg,iter,i,0⟩] scope pos) (f9 pre.length wi is g tc te):=by
 intro n s σ H Q a h;rw[eval_ListComp];show Tc _ _ (Ua _ scope X.env _ (newList []) L5 (Tx iter X.env) J) _ _ s;refine mC y F B A j l d S k m fr M (λZ Hn D c P r G u t w N hp q=>?_) a h;exact⟨P,G,λh' sb=>⟨.ref D,_,r.turned (t':=Z.toks) (it:=c) (λb o x e=>(sb.2 b x).trans e) w u (.inr N) t hp,rfl,q⟩⟩
theorem vf {j:U Tq}(hN:X.N.Nodup)(hj:X.N[jz]?=O z)(i:Loc X.env.scope z)(x:Nl (.ListComp elt [⟨tg,iter,j,0⟩] scope pos) (O<|.Name z pz) spos.line X.env=pure L7)(hc:X.calm=L7)(hi:PI X tg iter wi)(hg:∀C s H k,PG (ao X (pre++ys) scope cl C s H k) tg g)(he:∀C s H k,PE (ao X (pre++ys) scope cl C s H k) elt te)(n:∀C s H k,PC (ao X (pre++ys) scope cl C s H k) j tc)(t:j.length<=1)
  (f:Nz scope X.env=pure cl) (S:ay pre ys scope) (r:Clo X cl) (w:(scope.names.all λp=>p.2 != .free || (cl.lookup p.1).isSome)=L7) (fr:Frees X scope cl ys is) (hs:∀v,Nb iter X.env v=pure v) (u:X.fn z=L7\/X.env.scope.names.lookup z=O .local):
  PS X (.Assign [.Name z pz] (.ListComp elt [⟨tg,iter,j,0⟩] scope pos) spos) (mi (f9 pre.length wi is g tc te)<|cj jz):=by
 intro l s σ H D a h;rw[exec_Assign_Name_used _ _ _ _ x];refine Ma<|O1<|Ma ?_;show Tc _ _ (do let _ <- Ua (.ListComp elt [⟨tg,iter,j,0⟩] scope pos) scope X.env _ (newList []) L5 (Tx iter X.env) (O (NR (.Name z pz) X.env))) _ _ s;refine Ma<|thn (mC (use:=O<|NR (.Name z pz) X.env) (Qp:=λ_ F=>SP X l D .next F) hc hi hg he n t f S r w fr hs (λs4 Hn d c m4 M hn B A Z hz hp q=>?_) a h) λ_ F hq=>Mf<|Mf hq;show Tc _ _ (NR (.Name z pz) X.env<|.ref d) _ _ s4;refine wpAny_assign_Name<|jE M hN hj i (v:=.ref d) rfl (λs5 G Q=>?_) u;obtain⟨P,y,m⟩:=Q;have na:c≠P:=m.elim (λe=>by rw[e];exact B) λe=>MI<|A _ _ e;exact⟨m4,hn.sameBut y na,λh' sb=>⟨_,_,G.turned (t':=s5.toks) (it:=c) (λb o hb e=>(sb.2 b hb).trans e) Z B (.inr hz) A hp,q⟩⟩
theorem jQ (i:X.calm=L7)(l:PI X tg iter wi)(k:∀C s H d,PG (ao X (pre++ys) scope cl C s H d) tg g)(j:∀C s H d,PE (ao X (pre++ys) scope cl C s H d) elt te)
  (b:Nz scope X.env=pure cl) (S:ay pre ys scope) (e:Clo X cl) (f:(scope.names.all λp=>p.2 != .free || (cl.lookup p.1).isSome)=L7) (fr:Frees X scope cl ys is) (m:∀v,Nb iter X.env v=pure v:=by intro _;rfl):
  PE X (.ListComp elt [⟨tg,iter,[],0⟩] scope pos) (kB pre.length wi is g te):=λc s n H Q a h=>lT i l k j (λ_ _ _ _=>pcN) (MH _) b S e f fr m c s n H Q a<|goN h
theorem jL (f:X.calm=L7)(j:PI X tg iter wi)(i:∀C s H b,PG (ao X (pre++ys) scope cl C s H b) tg g)(h:∀C s H b,PE (ao X (pre++ys) scope cl C s H b) elt te)(c:∀C s H b,PT (ao X (pre++ys) scope cl C s H b) cnd tc)
  (a:Nz scope X.env=pure cl) (S:ay pre ys scope) (d:Clo X cl) (e:(scope.names.all λp=>p.2 != .free || (cl.lookup p.1).isSome)=L7) (fr:Frees X scope cl ys is) (k:∀v,Nb iter X.env v=pure v:=by intro _;rfl):
  PE X (.ListComp elt [⟨tg,iter,[cnd],0⟩] scope pos) (f9 pre.length wi is g tc te):=lT f j i h (λ_ _ _ _=>pcF (c _ _ _ _) λ_ _ z=>z) (Mi _) a S d e fr k
theorem j9 (l:X.N.Nodup)(t:X.N[jz]?=O z)(c:Loc X.env.scope z)(k:Nl (.ListComp elt [⟨tg,iter,[],0⟩] scope pos) (O<|.Name z pz) spos.line X.env=pure L7)(m:X.calm=L7)(r:PI X tg iter wi)(o:∀C s H e,PG (ao X (pre++ys) scope cl C s H e) tg g)(n:∀C s H e,PE (ao X (pre++ys) scope cl C s H e) elt te)
  (b:Nz scope X.env=pure cl) (S:ay pre ys scope) (f:Clo X cl) (j:(scope.names.all λp=>p.2 != .free || (cl.lookup p.1).isSome)=L7) (fr:Frees X scope cl ys is) (u:∀v,Nb iter X.env v=pure v:=by intro _;rfl) (i:X.fn z=L7\/X.env.scope.names.lookup z=O .local:=by first|exact .inl rfl|exact .inr rfl|assumption):
  PS X (.Assign [.Name z pz] (.ListComp elt [⟨tg,iter,[],0⟩] scope pos) spos) (mi (kB pre.length wi is g te)<|cj jz):=λd s w H D a h=>vf l t c k m r o n (λ_ _ _ _=>pcN) (MH _) b S f j fr u i d s w H D a<|goN h
end
end L3


namespace L3
open PySem PySem.Spec PyProof.Rows L2
theorem rA {X:Cx}(M:X.calm=L7):bW X (.builtin "any") (λB H Q=>∃(a:S9) (bs:U Ta),B=[.ref a]/\SqL X.K H a (bs.map V.bl)/\Q (.bl<|bs.any id) H):=by
 intro y s σ H B us Q c r h;obtain⟨a,bs,rfl,F,q⟩:=h;obtain⟨u,rfl,Z⟩:=cU r;cases Z;obtain⟨d,t,p,hz⟩:=c.list F;have l:d.toArray.size=bs.length:=by rw[Mx,<- t.length,Mg]
 have n:a<s.heap.objs.size:=by obtain⟨o,e,_⟩:=p.isList;exact Heap.lt_size e
 refine call_any_walk<|NS p.isList ?_;refine⟨s.heap.objs.size,_,_,_,_,_,λi=>bs.getD i L5,rfl,Walks.list (A:=X.A.in1) (show X.A.in1.handled=J from c.ok.hd M) s.heap.objs.size a (Mu n) d.toArray,⟨⟨_,Heap.get?_push_size _ rfl,rfl,rfl⟩,p.isList.push _⟩,λi v s' Q' E' P D=>?_,λh' tk k=>?_⟩
 .have m:d[i]?=O v:=by simpa using P
  have f:i<d.length:=(Na.mp m).1;have j:i<bs.length:=by have:=t.length;rw[Mg] at this;lia
  obtain⟨w',e1,e2⟩:=t.get (i:=i) (x:=.bl bs[i]) (by rw[MO,MP j];rfl);rw[m] at e1;cases e1;cases e2;refine O4 ?_;have e3:bs.getD i L5=bs[i]:=by rw[Nm,MP j];rfl
  rw[<- e3];exact D
 .have e:(Mj d.toArray.size).any (fun i=>bs.getD i L5)=bs.any id:=by
   rw[l,Oy,Ot,Ot];constructor
   .rintro ⟨i,f,z⟩;have g:=NX.mp f;rw[Nm,MP g] at z;exact⟨_,Rq g,z⟩
   .rintro ⟨b,G,z⟩;obtain⟨i,f,e⟩:=So G;refine⟨i,NX.mpr f,?_⟩;rw[Nm,MP f];simpa[e] using z
  rw[e]
  exact⟨.bl<|bs.any id,H,c.kept (λb o w=>k b o (λN=>by
   have:b=s.heap.objs.size:=by simpa using N
   exact Tg (this ▸ Heap.lt_size w)<|NF _)<|Heap.get?_push_of_some _ w),rfl,q⟩
theorem cq:∀{a:U Int} {b:U L},Vals (a.map V.int) b->TN b a
|[],_,.nil=>.nil
|n::a,_,.cons ⟨t,e⟩ r=>by cases e;exact .cons n t<|cq r
theorem sD {X:Cx}(B:X.calm=L7):bW X (.builtin "max") (λd H Q=>∃(a:S9) (e:U Int),d=[.ref a]/\SqL X.K H a (e.map V.int)/\e≠[]/\∀M,M∈e->(∀n∈e,n<=M)->Q (.int M) H):=by
 intro x s σ H d us Q b r h;obtain⟨a,e,rfl,z,k,q⟩:=h;obtain⟨u,rfl,N⟩:=cU r;cases N;obtain⟨m,P,p,hz⟩:=b.list z;have o:=cq P;obtain⟨d,i⟩:=o.allInts.items;have g:numsOf m=e:=o.numsOf;have F:s.heap.IsList a (intItems d):=by rw[<- i];exact p.isList
 have c:numsOf (intItems d).toList=e:=by rw[<- i];exact g
 rw[nums_intItems] at c;have f:d.size=e.length:=by rw[<- c,Mg,N9]
 have l:0<d.size:=by rw[f];exact Sn.mpr k
 refine max_intList (show X.A.handled=J from b.ok.hd B) F l λv Z tk G hk=>?_;obtain⟨t,rfl⟩:=intItems_at G;obtain⟨h1,y⟩:=argBest_gt (numAt d)<|d.size-1;refine⟨.int _,H,b.kept hk,⟨t,rfl⟩,q _ ?_ λn w=>?_⟩
 .rw[<- c,numAt_eq];exact getD_mem<|by rw[Mg,N9];lia
 .rw [<- c] at w;obtain⟨j,D,rfl⟩:=mem_getD w;rw[Mg,N9] at D;rw[<- numAt_eq];exact y j<|by lia
abbrev CM (h:To)(T:S9)(a b c:L):Prop:=h.get? T=O {cls:=.type "tuple",data:=.seq #[a,b,c]}
def Z3 (n d e f:Y)(i:Y)(h:To):Prop:=
 M8 h (n+5) (n+3) (n+4) .none/\CM h (n+3) (.ref n) (.ref<|n+1) (.ref<|n+2)/\(∃a b c,CM h (n+4) a b c)/\ItO h L5 n d i/\ItO h L5 (n+1) e i/\ItO h L5 (n+2) f i
end L3

namespace L3
open PySem PySem.Spec PyProof.Rows L2
noncomputable abbrev VE:U L:=[.type "Exception",.type "BaseException",.type "object"]
structure ik (h:To)(C N:S9)(up:U L)(names:Str->I L):Prop where
 obj:∃nm q bs hd sn sub ab col dd k0 k1 k2 k3 k5,h.get? C=O (excClassObj nm q C N bs up hd sn sub ab col dd k0 k1 k2 k3 k5 "Exception.__new__")
 ns:h.Ns N names
section
variable {prog:Td}{w:Mc}{h:To}{A:Mh}{g:Tv OX}{d:Drawn}{t:Y}{os:OD}{E:L->L8->Prop}
theorem uq {C N l:S9}{up i:U L}{a:Str->I L}{s:Obj}{Q:L->L8->Prop}(c:ik h C N up a)(T:OwnTail h VE up)
  (H:a "__init__"=O (.ref l)) (F:h.get? l=O s) (D:s.cls=.type "function") (M:i.length<=sizeLine)
  (k:∀p,Heap.MadeExcOf h p (h.objs.size+1) (.ref C) i->Tc (Mb prog w) (A.under<|.builtin "type.__call__" ⟨.ref C::i,[]⟩) (call (.ref l) (.ref (h.objs.size+1)::i)) (λr u=>r=.none/\Q (.ref<|h.objs.size+1) u) E ⟨p,g,d,t,os⟩):
  Tc (Mb prog w) A (call (.ref C) i) Q E ⟨h,g,d,t,os⟩:=by
 obtain⟨⟨nm,q,bs,hd,sn,sub,ab,v,dd,k0,k1,k2,k3,k5,f⟩,P⟩:=c;have B:=SN;have l1:=tc_lookup;have l2:=tc_bind<|.ref C;have ty:(⟨h,g,d,t,os⟩:L8).TypeIs (.ref C) "type":=⟨_,f,rfl⟩;refine OI<|codeAny_of_tree ?_;show Tc _ _ (callAny (.ref C) _) _ _ _
 repeat (any_goals (first|with_reducible refine OH f ?_|assumption|wp_step))
 refine⟨rfl,codeAny_call_builtin_at (Code.quiet_builtin _<|by decide +kernel) entry_typeCall<|wpAny_check_type_call_sub f ?_⟩
 repeat (first|with_reducible refine wpAny_madeBy_exc f ?_|with_reducible refine OH f ?_|wp_step)
 refine codeAny_call_builtin_code (Code.quiet_builtin _ B.quiet)<|wpAny_check_new_subU B B.hasB T f ?_;refine codeAny_exc_new_subU B B.hasB B T f ?_ M;show Tc _ _ _ _ _ (⟨(h.push {cls:=.type "tuple",data:=.seq i.toArray}).push {cls:=.ref C,data:=.fields #[.ref h.objs.size,.none,.none,.none,.bool L5,.none]},g,d,t,os⟩:L8);generalize m:(h.push {cls:=.type "tuple",data:=.seq i.toArray}).push {cls:=.ref C,data:=.fields #[.ref h.objs.size,.none,.none,.none,.bool L5,.none]}=G;have e:∀b o,h.get? b=O o->G.get? b=O o:=λb o z=>by rw[<- m];exact Heap.get?_push_of_some _<|Heap.get?_push_of_some _ z
 have new:G.get? (h.objs.size+1)=O {cls:=.ref C,data:=.fields #[.ref h.objs.size,.none,.none,.none,.bool L5,.none]}:=by rw[<- m];heap_get
 have n:G.get? h.objs.size=O {cls:=.type "tuple",data:=.seq i.toArray}:=by rw[<- m];exact Heap.get?_push_of_some _<|Heap.get?_push_at rfl rfl
 have own:(Value.ref C::up).contains (.ref C)=true:=by simp
 have j:=e _ _ f;unfold isInstance
 repeat (first|with_reducible refine OH new ?_|(with_reducible refine Qb j ?_;rw[own])|wp_step)
 show Tc _ _ (typeLookup (.ref C) _) _ _ _;refine wpAny_typeLookup_tail j (P.keeps e) (T.keeps e) B.mroIs B.init.lookup ?_;rw[H];refine Nq<|Ma ?_;unfold bindSpecial;refine Ma<|P1 (T:="function") ⟨_,e _ _ F,D⟩ ?_;rw[Tf<|by decide];refine Mf<|Ma<|MD (k G ⟨e,Heap.get?_none_of_le<|N8 _,h.objs.size,new,Heap.get?_none_of_le<|Mi _,n⟩) (λr u Z=>?_) λ_ _ x=>x;obtain⟨rfl,y⟩:=Z
 wp_walk
 exact y
def d7:U L->Ta
|.ref _::r=>d7 r
|l=>l==VE
theorem gw (a:L):∀{l:U L},d7 l=L7->refuseLoop a "__setattr__" l=pure ()
|.ref c::r,q=>by rw[refuseLoop_ref];exact gw a q
|[],q=>by cases q
|.type n::r,q=>by rw[show Value.type n::r=VE from beq_iff_eq.mp q];kernel_rfl
|.none::r,q=>by cases(show Value.none::r=VE from beq_iff_eq.mp q)
|.bool _::r,q=>by cases(show _::r=VE from beq_iff_eq.mp q)
|.int _ _::r,q=>by cases(show _::r=VE from beq_iff_eq.mp q)
|.float _ _::r,q=>by cases(show _::r=VE from beq_iff_eq.mp q)
|.str _ _::r,q=>by cases(show _::r=VE from beq_iff_eq.mp q)
|.bytes _ _::r,q=>by cases(show _::r=VE from beq_iff_eq.mp q)
|.builtin _::r,q=>by cases(show _::r=VE from beq_iff_eq.mp q)
|.ellipsis::r,q=>by cases(show _::r=VE from beq_iff_eq.mp q)
|.notImplemented::r,q=>by cases(show _::r=VE from beq_iff_eq.mp q)
end
section
variable {prog:Td}{w:Mc}{A:Mh}{E:L->L8->Prop}{s:L8}{K:L9}
theorem yA {e C:S9}{i:Obj}{vs:Tv L}{f:Str}{v:L}{Q:Unit->L8->Prop}(X:K.In s.heap)(m:s.heap.get? e=O i)(u:i.cls=.ref C)(B:i.dict=J)(F:i.data=.fields vs)
  (hs:MB K (.ref C) "__setattr__"=O (O<|.builtin "object.__setattr__")) (hp:(Pd K C).any (λj=>d7 j.mro)=L7) (ht:NH K C f=O J) (hh:N3 K C=L7)
  (h:∀k,k.get? e=O {i with dict:=O s.heap.objs.size}->k.Ns1 s.heap.objs.size (λy=>if y=f then O v else J)->(∀b o,b≠e->s.heap.get? b=O o->k.get? b=O o)->Q () {s with heap:=k,toks:=s.toks+2}):
  Tc (Mb prog w) A (Ue (.ref e) f v) Q E s:=by
 have d:Pe s.heap e i C none:=⟨m,u,by unfold QH;rw[F],by rw[B];trivial⟩;have n:=RY;refine Rg X d hs ?_;obtain⟨j,P,Z⟩:=Ph hp
 have top:j.mro.contains (.type "object")=true:=by
  have:∀l:U L,d7 l=L7->l.contains (.type "object")=true:=by
   intro l;induction l with
   |nil=>intro q;cases q
   | cons v r ih =>
    intro q;by_cases z:(∃a,v=.ref a)
    .obtain ⟨a,rfl⟩:=z;rw[Pl,ih q,My]
    .have:v::r=VE:=by
      cases v with
      |ref a=>exact Tg ⟨a,rfl⟩ z
      |_=>exact beq_iff_eq.mp q
     rw[this];decide +kernel
  exact this _ Z
 have ne:j.mro.isEmpty=false:=by cases q:j.mro with|nil=>rw[q] at top;cases top|cons _ _=>rfl
 have N:Ow (Mb prog w) s.heap (isInstance (.ref e) (.type "object")) true:=d.type.andThen (Sm X<|by unfold PM;rw[P,Qo,Ti<|by rw[ne];decide,top]);refine Qa n.slot.plain n.entry<|@Rj (Mb prog w) _ _ {s with toks:=s.toks+1} "object.__setattr__" "object" "__setattr__" (.ref e) [.str f s.toks,v] [] _ n.kind n.split N (n.args (.ref e) (.str f s.toks) v) ?_;obtain⟨g,ha,hr⟩:=(Qt).1 ht
 have taker:Ow (Mb prog w) s.heap (Builtin.ObjectAttr.storeTaker? g) none:=by
  cases g with
  |none=>exact .now
  |some a=>
   obtain⟨b,p,z⟩:=PY.mp hr;refine(R3 X p).andThen ?_;cases b with
   |false=>exact .now
   |true=>cases z
 have hm:Ow (Mb prog w) s.heap (mroOf (.ref C)) j.mro:=(PR X P).andThen .now;rw[RF,refuse_eq];refine Ma<|Ma<|Nf (s:={s with toks:=s.toks+1}) d.type<|Ma<|Nf (s:={s with toks:=s.toks+1}) hm ?_;rw[gw _ Z];refine Mf<|Ma<|Nf (s:={s with toks:=s.toks+1}) d.type<|Ma<|Nf (s:={s with toks:=s.toks+1}) (PU X ha)<|Ma<|Nf (s:={s with toks:=s.toks+1}) taker ?_;obtain⟨cd',M,kd⟩:=Ph hh;obtain⟨c,di,da,sl⟩:=i;dsimp only at u B F;subst u B F;refine Ma<|Mf<|Ma<|Ma<|T5 m<|Ma<|Nf (s:={s with toks:=s.toks+1}) (PR X M) ?_;rw[kd];have e1:(s.heap.push Nw).get? e=O _:=Heap.get?_push_of_some _ m;refine Ma<|wpAny_alloc<|Ma<|wpAny_update e1 ?_;show Tc _ _ (pure (O s.heap.objs.size)) _ _ _;refine Mf ?_;generalize t:(s.heap.push Nw).update e (λo=>{cls:=o.cls,dict:=O s.heap.objs.size,data:=o.data,slots:=o.slots})=G;have ng:s.heap.objs.size≠e:=NC<|Heap.lt_size m;have g1:G.get? e=O {cls:=.ref C,dict:=O s.heap.objs.size,data:=.fields vs,slots:=sl}:=by rw[<- t];exact Heap.get?_update_self _ e1 rfl
 have g2:G.get? s.heap.objs.size=O Nw:=by rw[<- t,Heap.get?_update_other _ _<|MI ng];exact Heap.get?_push_size s.heap rfl
 have g3:∀b o,b≠e->s.heap.get? b=O o->G.get? b=O o:=λb o p z=>by rw[<- t,Heap.get?_update_other _ _<|MI p];exact Heap.get?_push_of_some _ z
 have g4:G.Ns1 s.heap.objs.size (λ_=>J):=Heap.Ns1.of_empty ⟨Nw,#[],_,g2,rfl,(λe m=>Tg m<|by simp),λ_=>rfl⟩;show Tc _ _ (Builtin.ObjectAttr.storeInDict s.heap.objs.size (.str f s.toks) f v) _ _ (⟨G,s.gens,s.drawn,s.toks+1,s.os⟩:L8);refine Ma<|Mf<|Ma<|Ug (s:=⟨G,s.gens,s.drawn,s.toks+1,s.os⟩) g4 λk n2 s2=>?_;obtain⟨oD,esD,epD,H,D,x⟩:=n2.count<|Rf (ns:=[]) f v λ_ q=>Tg rfl q;refine Ma<|Qy H (by rw[D];exact Qx<|Mt x<|by rw[NA];simp) ?_;exact Mf<|h k ((s2.2 _<|MI ng).trans g1) n2 λb o p z=>(s2.2 b (λq=>by rw[q] at z;exact Tg (Heap.lt_size z)<|NF _)).trans<|g3 b o p z
theorem tS {e C N:S9}{f:Obj}{p:Tv L}{up j:U L}{a:Str->I L}{Q:L->L8->Prop}(c:ik s.heap C N up a)(T:OwnTail s.heap VE up)(n:s.heap.get? e=O f)(y:f.cls=.ref C)(l:f.data=.fields p){F:S9}(m:p[0]?=O (.ref F))
  (M:j.length<=sizeLine) (h:∀k,k.get? e=O (Obj.mapFields (·.setIfInBounds 0 (.ref s.heap.objs.size)) f)->(∀b o,b≠e->s.heap.get? b=O o->k.get? b=O o)->Q .none {s with heap:=k}):
  Tc (Mb prog w) A (call (.builtin "Exception.__init__") (.ref e::j)) Q E s:=by
 obtain⟨⟨nm,q,bs,H,sn,D,ab,r,G,Z,k1,k2,k3,k5,v⟩,P⟩:=c;obtain⟨hp,g,d,t,os⟩:=s;have B:=SN;have i:hp.get? e=O f:=n;refine OI<|Qa B.init.plain B.initEntry<|wpAny_check_init_subU B T v n y ?_;have e1:=Heap.get?_push_of_some (h:=hp) {cls:=.type "tuple",data:=.seq j.toArray} i;unfold Ob.«BaseException.__init__»
 wp_walk
 rw[l];refine Mf ?_;rw[m];refine Mf ?_
 wp_walk
 rw[l];dsimp only;rw[Tf (OA.mp m).1];refine wpAny_update e1 ?_;have ng:hp.objs.size≠e:=NC<|Heap.lt_size i;have u:((hp.push {cls:=.type "tuple",data:=.seq j.toArray}).update e (Obj.mapFields (·.setIfInBounds 0 (.ref hp.objs.size)))).get? e=O (Obj.mapFields (·.setIfInBounds 0 (.ref hp.objs.size)) f):=Heap.get?_update_self _ e1<|Obj.isFreed_of_fields<|Obj.data_mapFields l _
 wp_walk
 exact h _ u λb o x z=>by rw[Heap.get?_update_other _ _<|MI x];exact Heap.get?_push_of_some _ z
end
def Tb (h:To)(e:S9)(c:Tv L):Prop:=
 c[1]?=O .none\/∃T a b,c[1]?=O (.ref T)/\T≠e/\h.get? T=O a/\a.data=.fields b/\b[3]?=O .none
structure jH (fr:U S9)(h h':To)(e:S9)(oe:Obj)(vs:Tv L)(fl:L):Prop where
 ex:∃T oT ts,h'.get? e=O (Obj.mapFields (·.setIfInBounds 1 (.ref T)) oe)/\h.objs.size<=T/\h'.get? T=O oT/\oT.data=.fields ts/\ts[3]?=O fl
 keep:∀b o,h.get? b=O o->b≠e->b ∉ fr->h'.get? b=O o
 slot:∀b o,h.get? b=O o->b∈fr->∃sl,h'.get? b=O {o with slots:=sl}
 there:∀b o,h.get? b=O o->∃o',h'.get? b=O o'
theorem je (a:S9):(Value.ref a != Value.none)=true:=by simp
theorem vi (a:S9):¬((Value.none==Nk a)=L7):=by simp[Nk]
theorem CG {o:Obj}{e:Tv L}(g:o.data=.fields e)(f:e[3]?=O .none):Obj.mapFields (·.setIfInBounds 3 Value.none) o=o:=by
 obtain⟨a,b,c,d⟩:=o;cases g;show({cls:=a,dict:=b,data:=.fields<|e.setIfInBounds 3 .none,slots:=d}:Obj)=_;congr 2;obtain⟨l,h⟩:=OA.mp f;apply Array.ext
 .simp
 .intro i j k;rw[Array.getElem_setIfInBounds];split
  .rename_i z;subst z;exact h.symm
  .rfl
section
variable {M:Ud}{s:L8}{A:Mh}{E:L->L8->Prop}
theorem lV {j:To}{f:Env}{d:U Env}{c e:S9}{p:Obj}{D:Tv L}{g:L}{v:Ta}{Q:Unit->L8->Prop}(y:A.frames=O (f::d))(G:s.heap.FunFrames j (f::d))(hf:f.frame=O c)
  (F:s.heap.get? e=O p) (x:p.data=.fields D) (h1:1<D.size)
  (k:∀ l,(∃ T P ts,l.get? e=O (Obj.mapFields (·.setIfInBounds 1 (.ref T)) p)/\s.heap.objs.size<=T/\l.get? T=O P/\P.data=.fields ts/\ts[3]?=O (Nk c)) ->
   (∀b o,s.heap.get? b=O o->b≠e->b ∉ (f::d).filterMap (·.frame)->l.get? b=O o)->(∀b o,s.heap.get? b=O o->b∈(f::d).filterMap (·.frame)->∃B,l.get? b=O {o with slots:=B})->Q () {s with heap:=l}):
  Tc M A (do let a <- frameOf f;let t <- entryPlaceOf c v;let b <- EntryCells.newEntry g a .none (Nk c) .none t;setField (.ref e) 1 b) Q E s:=by
 have N:e ∉ (f::d).filterMap (·.frame):=λz=>by obtain⟨_,o,q,n⟩:=G.mem z;rw[F] at q;cases q;exact n D x
 refine Ma<|wpAny_frameOf_fun y G hf λi u=>Ma<|wpAny_entryPlaceOf λt m=>?_;unfold EntryCells.newEntry newFields;refine Ma<|Of ?_<|IsPlace.sizeOk5 m _ _ _ _ _;have Z:i.get? e=O p:=(u.2.1 e N).trans F;have sz:s.heap.objs.size<=i.objs.size:=QT u.1.symm;generalize H:({cls:=.type "traceback",dict:=J,data:=.fields ([g,.ref c,.none,Nk c,.none]++(if t.isEmpty then Mr 6 Value.none else t)).toArray}:Obj)=r;have q2:=Heap.get?_push_of_some (h:=i) r Z;have ng:i.objs.size≠e:=NC<|Heap.lt_size Z;refine O2 (o:=p) q2 x h1<|k _ ⟨i.objs.size,r,_,Heap.get?_update_self _ q2<|Obj.isFreed_of_fields<|Obj.data_mapFields x _,sz,?_,by rw[<- H],?_⟩ ?_ ?_
 .rw [Heap.get?_update_other _ _<|MI ng];exact Heap.get?_push_size i<|by rw[<- H];rfl
 .first|(simp;done)|(rcases m with rfl|⟨_,_,_,_,_,_,_,rfl⟩<;>simp)
 .intro b o q w hn;rw[Heap.get?_update_other _ _<|MI w];exact Heap.get?_push_of_some _<|(u.2.1 b hn).trans q
 .intro b o q w;obtain⟨B,z⟩:=u.2.2 b o q;refine⟨B,?_⟩;rw[Heap.get?_update_other _ _ (λz:e=b=>N<|by rw[z];exact w)];exact Heap.get?_push_of_some _ z
theorem qR {l:To}{d:Env}{c:U Env}{a e:S9}{B:Obj}{D:Tv L}{Q:Unit->L8->Prop}(m:A.frames=O (d::c))(y:s.heap.FunFrames l (d::c))(x:d.frame=O a)
  (w:s.heap.get? e=O B) (v:B.data=.fields D) (N:Tb s.heap e D) (k:∀i,jH ((d::c).filterMap (·.frame)) s.heap i e B D (Nk a)->Q () {s with heap:=i}):
  Tc M A (OY (.ref e) d) Q E s:=by
 have nf:∀b o,s.heap.get? b=O o->(∃p,o.data=.fields p)->b ∉ (d::c).filterMap (·.frame):=λb o q ⟨p,n⟩ z=>by obtain⟨_,F,G,P⟩:=y.mem z;rw[q] at G;cases G;exact P p n
 unfold OY;simp only[x];rcases N with h1|⟨T,oT,ts,h1,hT,hq,hdT,h3⟩
 .refine Ma (MX w v h1 ?_);rw[Ti (by decide)];refine lV m y x w v (OA.mp h1).1 λi r t u=>k i ⟨r,t,u,λb o q=>?_⟩;by_cases f:b=e
  .obtain⟨_,_,_,z,_⟩:=r;exact⟨_,f ▸ z⟩
  .by_cases g:b∈(d::c).filterMap (·.frame)
   .obtain⟨sl,z⟩:=u b o q g;exact⟨_,z⟩
   .exact⟨o,t b o q f g⟩
 .refine Ma (MX w v h1 ?_);rw[Tf (je T)];refine Ma (MX hq hdT h3 ?_);rw[Ti (vi a)];refine Ma (O2 hq hdT (OA.mp h3).1 ?_);have h:∀b,b≠T->(s.heap.update T (Obj.mapFields (·.setIfInBounds 3 Value.none))).get? b=s.heap.get? b:=λb f=>Heap.get?_update_other _ _ (MI f);have j:(s.heap.update T (Obj.mapFields (·.setIfInBounds 3 Value.none))).get? T=O oT:=by rw[Heap.get?_update_self (Obj.mapFields (·.setIfInBounds 3 Value.none)) hq (Obj.isFreed_of_fields (Obj.data_mapFields hdT _)),CG hdT h3]
  have all:∀b o,s.heap.get? b=O o->(s.heap.update T (Obj.mapFields (·.setIfInBounds 3 Value.none))).get? b=O o:=λb o q=>by
   by_cases z:b=T
   .rw[z] at q ⊢;rw[hq] at q;cases q;exact j
   .exact(h b z).trans q
  have Z:∀b o,s.heap.get? b=O o->(∀p,o.data≠.fields p)->b≠T:=λb o q n z=>by rw[z,hq] at q;cases q;exact n ts hdT
  have sz:(s.heap.update T (Obj.mapFields (·.setIfInBounds 3 Value.none))).objs.size=s.heap.objs.size:=by simp[Heap.update]
  refine lV (s:={s with heap:=s.heap.update T<|Obj.mapFields (·.setIfInBounds 3 Value.none)}) m (y.of_keeps λb o q n=>⟨o,(h b<|Z b o q n).trans q,rfl⟩) x ((h e<|MI hT).trans w) v (OA.mp h1).1 λi r t u=>k i ⟨?_,?_,?_,?_⟩
  .obtain ⟨H,F,t',y1,y2,y3⟩:=r;exact⟨H,F,t',y1,by rw[<- sz];exact y2,y3⟩
  .intro b o q f g;exact t b o (all b o q) f g
  .intro b o q f;exact u b o (all b o q) f
  .intro b o q;by_cases f:b=e
   .obtain⟨_,_,_,z,_⟩:=r;exact⟨_,f ▸ z⟩
   .by_cases g:b∈(d::c).filterMap (·.frame)
    .obtain⟨sl,z⟩:=u b o (all b o q) g;exact⟨_,z⟩
    .exact⟨o,t b o (all b o q) f g⟩
theorem qF {fr:U S9}{d:To}{e:S9}{j:Obj}{h:Tv L}{fl:L}{Q:Unit->L8->Prop}(w:j.data=.fields h)(v:1<h.size)(y:e<d.objs.size)(B:∀b∈fr,b<d.objs.size)(n:jH fr d s.heap e j h fl)
  (k:∀p,jH fr d p e j h .none->Q () {s with heap:=p}):Tc M A (Pw (.ref e) J) Q E s:=by
 obtain⟨⟨T,oT,Z,t,l,u,m,y5⟩,F,G,H⟩:=n;have i:=Obj.data_mapFields w (·.setIfInBounds 1 (Value.ref T));unfold Pw;refine Ma<|MX t i (x:=.ref T) (by simp[v]) ?_;rw[Tf<|je T];have a:∀b,b≠T->(s.heap.update T (Obj.mapFields (·.setIfInBounds 3 ((none:I S9).elim Value.none λf=>Nk f)))).get? b=s.heap.get? b:=λb g=>Heap.get?_update_other _ _<|MI g;have r:3<Z.size:=(OA.mp y5).1;have c:∀b o,d.get? b=O o->b≠T:=λb o q z=>Tg (Heap.lt_size q) (by rw[z];exact Nat.not_lt.mpr l);refine O2 u m r<|k _ ⟨⟨T,_,_,(a e<|Mu<|MF y l).trans t,l,Heap.get?_update_self _ u<|Obj.isFreed_of_fields<|Obj.data_mapFields m _,Obj.data_mapFields m _,by simp[r]⟩,?_,?_,?_⟩
 .intro b o q g D;exact(a b<|c b o q).trans<|F b o q g D
 .intro b o q g;obtain⟨P,z⟩:=G b o q g;exact⟨P,(a b<|c b o q).trans z⟩
 .intro b o q;obtain⟨N,z⟩:=H b o q;exact⟨N,(a b<|c b o q).trans z⟩
theorem wY {f:To}{d:Env}{c:U Env}{a e:S9}{l:Obj}{h:Tv L}{Q:Unit->L8->Prop}(j:A.frames=O (d::c))(r:s.heap.FunFrames f (d::c))(u:d.frame=O a)
  (p:s.heap.get? e=O l) (m:l.data=.fields h) (t:1<h.size) (v:Tb s.heap e h) (k:∀g,jH ((d::c).filterMap (·.frame)) s.heap g e l h .none->Q () {s with heap:=g}):
  Tc M A (leaving d<|.ref e) Q E s:=by
 unfold leaving;refine Ma<|qR j r u p m v λg n=>qF (s:={s with heap:=g}) m t (Heap.lt_size p) (λb z=>?_) n λi w=>k i w;obtain⟨_,o,q,_⟩:=r.mem z;exact Heap.lt_size q
end
def XOk (a C:S9)(c:I S9)(n:Ta)(h:To):Prop:=∃o b d,h.get? a=O o/\o.cls=.ref C/\o.dict=c/\o.data=.fields b/\b[0]?=O (.ref d)/\1<b.size/\(n=L7->b[1]?=O .none)
abbrev XO (a C:S9)(b:I S9)(n:Ta):HO:=.ext<|XOk a C b n
theorem XOk.stay {a C:S9}{c:I S9}{n:Ta}{h b:To}(x:XOk a C c n h)(k:∀o,h.get? a=O o->b.get? a=O o):XOk a C c n b:=
 let ⟨o,f,d,e,r⟩:=x;⟨o,f,d,k o e,r⟩
theorem XOk.ok {P:Td}{w:Mc}{H:Hp}{a C:S9}{b:I S9}{n:Ta}{h:To}(x:XOk a C b n h):ObjOk P w H h a (XO a C b n):=
 ⟨x,let ⟨o,_,_,e,_⟩:=x;⟨o,e⟩,λ_ _ y k=>y.stay k⟩
def Tr (lo:Y)(H:Hp)(h:To)(a:S9):Prop:=∃d b,h.get? a=O d/\d.data=.fields b /\
 (b[1]?=O .none\/∃T c e,b[1]?=O (.ref T)/\T≠a/\h.get? T=O c/\c.data=.fields e/\e[3]?=O .none/\lo<=T/\H T=J)
def CX1 (P:Td)(w:Mc):CXT:=λb H s E e d=>∃a C f c,e=.ref a/\d.os=s.os/\NN d.gens/\Un (frs b) [] H c s.heap d.heap/\HOk P w c d.heap/\c a=O (XO a C f L5)/\Tr s.heap.objs.size c d.heap a/\E (.ref a) J c
section
variable {P:Td}{w:Mc}{H:Hp}{h h':To}{a C:S9}{od:I S9}{n:Ta}
theorem HOk.touch (ok:HOk P w H h)(f:H a=O (XO a C od n))(k:∀b u o,H b=O o->b≠a->h.get? b=O u->h'.get? b=O u)(x:XOk a C od n h'):HOk P w H h':=λb o e=>by
 by_cases g:b=a
 .subst g;rw[f] at e;cases e;exact x.ok
 .refine (ok b o e).stay (fun c u d q=>?_) (fun _ z=>z) fun _ _ z=>z;rcases d with rfl|d
  .exact k c u o e g q
  .exact k c u _ d (λz=>by subst z;rw[f] at d;cases d) q
end
theorem w9 {P:Td}{w:Mc}{K:L9}{mg:Str->I L}{k:To}{N:U Str}{j:Str}{i:TM}{f:S9}{G:L}{A:Mh}{h:U Env}{s D:L8}{H p:Hp}{E:XK}{B:U<|S9×Obj}{σ:L2.St}{a C:S9}{od:I S9}
  (c:Inv (gq (CX1 P w) P w K mg k N j i f G A h s H E) B σ p D) (r:p a=O (XO a C od L5)) (t:Tr s.heap.objs.size p D.heap a) (q:E (.ref a) J p):
  (gq (CX1 P w) P w K mg k N j i f G A h s H E).xe (.ref a) D:=by
 obtain⟨oe,vs,e1,e2,e3⟩:=t;obtain⟨⟨o,ws,t0,x1,x2,x3,x4,x5,x6,-⟩,-,-⟩:=c.hok a _ r;rw[e1] at x1;cases x1;rw[e2] at x4;cases x4;have Z:=c.stack;have M:=c.ok.frames;have l:=c.stkFree;have na:a ∉ frs (Nc j i s.heap.objs.size f G::h):=λz=>by rw[l a z] at r;cases r
 show Tc _ _ (leaving _<|.ref a) _ _ _;refine wY M Z rfl e1 e2 x6 ?_ λh' n=>?_
 .rcases e3 with z | ⟨T,oT,ts,y1,y2,y3,y4,y5,_⟩
  .exact .inl z
  .exact .inr ⟨T,oT,ts,y1,y2,y3,y4,y5⟩
 obtain⟨⟨T',oT',ts',z1,z2,z3,z4,z5⟩,n2,n3,n4⟩:=n;have x:=Obj.data_mapFields e2 (·.setIfInBounds 1 (Value.ref T'));have low:s.heap.objs.size<=D.heap.objs.size:=c.sz;have xk:XOk a C od L5 h':=⟨_,_,t0,z1,by rw[Obj.cls_mapFields];exact x2,by rw[<- x3];obtain⟨_,_,_,_⟩:=oe;cases e2;rfl,x,by rw[Rv<|by decide];exact x5,by rw[Q7];exact x6,λz=>by cases z⟩;refine⟨a,C,od,p,rfl,c.os,c.bare,?_,?_,r,⟨_,_,z1,x,.inr ⟨T',oT',ts',by simp[x6],?_,z3,z4,z5,Mt low z2,c.hok.fresh z2⟩⟩,q⟩
 .have d:Un (frs h) [] H p s.heap D.heap:=c.base;refine⟨λb o e m hn hx=>?_,λb o e m hm hx=>?_,d.free,λb o e hx=>?_,d.tups,d.frzs,d.tbls⟩
  .have g:=d.keep b o e m hn hx;refine n2 b o g (λz=>?_) λz=>?_
   .have:=d.free b o e m hx;rw[z,r] at this;cases this
   .obtain ⟨v,y,F⟩:=Pn.mp z;rcases Mm.mp y with rfl|y
    .have:s.heap.objs.size=b:=MY F;exact Tg (Heap.lt_size e)<|by rw[this];exact NF _
    .exact hn (Pn.mpr ⟨v,y,F⟩)
  .obtain ⟨sl,g⟩:=d.slot b o e m hm hx;obtain⟨v,y,F⟩:=Pn.mp hm;obtain⟨sl',g'⟩:=n3 b _ g<|Pn.mpr ⟨v,MG _ y,F⟩;exact⟨sl',g'⟩
  .obtain ⟨o',g⟩:=d.there b o e hx;exact n4 b o' g
 .refine HOk.touch c.hok r (fun b u o m Q g=>n2 b u g Q fun z=>?_) xk;rw[l b z] at m;cases m
 .exactλz=>Tg (Heap.lt_size e1)<|by rw[<- z];exact Nat.not_lt.mpr z2
structure XC (K:L9)(C f:S9)(up:U L):Prop where
 ok:∀h,K.In h->∃N names,ik h C N up names/\OwnTail h VE up/\names "__init__"=O (.ref f)
 fn:∀h,K.In h->∃o,h.get? f=O o/\o.cls=.type "function"
 kp:Ny K (.ref C)=L7
 sa:MB K (.ref C) "__setattr__"=O (O (.builtin "object.__setattr__"))
 po:(Pd K C).any (λcd=>d7 cd.mro)=L7
 hd:N3 K C=L7
section
variable {X:Cx}{pins:U (S9×Obj)}{σ:L2.St}{H:Hp}{s:L8}{a C f:S9}{od:I S9}{n:Ta}{up:U L}{A:Mh}{E:L->L8->Prop}{fld:Str}
theorem XOk.weak {h:To}(x:XOk a C od n h):XOk a C od L5 h:=let ⟨o,g,d,e,e1,e2,e3,b,c,_⟩:=x;⟨o,g,d,e,e1,e2,e3,b,c,λz=>by cases z⟩
theorem Inv.xweak (b:Inv X pins σ H s)(e:H a=O (XO a C od n)):Inv X pins σ (upd H a<|XO a C od L5) s:=by have x:XOk a C od n s.heap:=(b.hok a _ e).1;exact b.write (x:=a) (e:=a) (t':=s.toks) (by rw[e];exact M0) (.inl rfl) (λ_ _ _ z=>z) (let ⟨o,_,_,q,_⟩:=x;⟨o,q⟩) x.weak.ok
theorem yK {y:V}{u:L}{Q:Unit->L8->Prop}(d:Inv X pins σ H s)(e:H a=O (XO a C J n))(c:XC X.K C f up)(ht:NH X.K C fld=O J)(ry:RelV y u)
  (h:∀k t,H k=J->k≠a->Inv X pins σ (upd (upd H k<|.xd [(fld,y)]) a<|XO a C (O k) n) t->Q () t):Tc (Mb X.prog X.w) A (Ue (.ref a) fld u) Q E s:=by
 obtain⟨o,vs,t0,p,e1,e2,e3,N,P,Z⟩:XOk a C J n s.heap:=(d.hok a _ e).1;have lt:=Heap.lt_size p;refine yA d.kIn p e1 e2 e3 c.sa c.po ht c.hd λh' v x2 x3=>h s.heap.objs.size _ (d.hok.fresh<|Mi _) (NC lt) ?_;obtain⟨i,es,ep,D,m,F,G,M⟩:=x2;have r:(s.heap.push i).get? s.heap.objs.size=O i:=Heap.get?_push_size s.heap (by obtain⟨_,_,_,_⟩:=i;cases m;rfl)
 have B:=d.laid (a:=s.heap.objs.size) (o:=.xd [(fld,y)]) (h':=s.heap.push i) (t':=s.toks) (λb u q=>Heap.get?_push_of_some _ q) (Mi _) ⟨_,⟨i,es,ep,r,m,F,G,M⟩,λg=>by
  show RelO (NB g [(fld,y)])<|if g=fld then O u else J;by_cases q:g=fld
  .rw[Tf q,q];simp[NB];exact ry
  .rw[Ti q];unfold NB;rw[show(g==fld)=L5 from TJ q];exact M0⟩
 have na:a≠s.heap.objs.size:=Mu lt;refine B.write (x:=a) (e:=a) (t':=s.toks+2) (by rw[ag na,e];exact M0) (.inl rfl) (λb u hb q=>?_) ⟨_,v⟩<|XOk.ok ⟨_,vs,t0,v,e1,rfl,e3,N,P,Z⟩;by_cases j:b=s.heap.objs.size
 .subst j;have l:(s.heap.push i).get? s.heap.objs.size=O u:=q;rw[r] at l;cases l;exact D
 .refine x3 b u hb ?_;have l:(s.heap.push i).get? b=O u:=q;rcases Heap.get?_push_cases l with z|z
  .exact Tg z.1 j
  .exact z
theorem uw {m:U L}{Q:L->L8->Prop}(d:Inv X pins σ H s)(e:H a=O (XO a C od n))(c:XC X.K C f up)(v:m.length<=sizeLine)
  (h:∀l,Inv X pins σ H l->Q .none l):Tc (Mb X.prog X.w) A (call (.builtin "Exception.__init__") (.ref a::m)) Q E s:=by
 obtain⟨o,D,B,r,e1,e2,e3,t,k,u⟩:XOk a C od n s.heap:=(d.hok a _ e).1;obtain⟨N,i,x,T,_⟩:=c.ok _ d.kIn;refine tS x T r e1 e3 t v λh' p y=>h _ ?_;have g:=Obj.data_mapFields e3 (·.setIfInBounds 0 (Value.ref s.heap.objs.size));have j:=d.write (x:=a) (e:=a) (o:=XO a C od n) (h':=h') (t':=s.toks) (by rw[e];exact M0) (.inl rfl) y ⟨_,p⟩<|XOk.ok ⟨_,_,s.heap.objs.size,p,by rw[Obj.cls_mapFields];exact e1,by rw[<- e2];obtain⟨_,_,_,_⟩:=o;cases e3;rfl,g,by simp[RV Nat.zero_lt_one k],by rw[Q7];exact k,λz=>by rw[Rv<|by decide];exact u z⟩
 have same:upd H a (XO a C od n)=H:=by
  funext b;by_cases q:b=a
  .rw[q,ah,e]
  .rw[ag q]
 rw[same] at j;exact j
end
section
variable {X:Cx}{x fld:Str}{p pos pos' apos:Pos}{e o value:Tq}{es:U Tq}{t:TA}{ta tv:TE}{B C f:S9}{up:U L}{k:Y}{fd:MK}{ps:U Str}{sp:Sp}{CX:CXT}{E:XK}
theorem yZ (G:PE X o ta)(N:PE X value tv)(M:Nl value (O<|.Attribute o fld pos') pos.line X.env=pure L5):PS X (.Assign [.Attribute o fld pos'] value pos)
  λD g H=>tv g H λy l=>ta g l λx j=>∃a C n f up,x=.ref a/\j a=O (XO a C J n)/\XC X.K C f up/\NH X.K C fld=O J/\∀i,j i=J->i≠a->D.nx g (upd (upd j i<|.xd [(fld,y)]) a<|XO a C (O i) n):=by
 intro d s g H D b h;refine QB (thn (N d s g H _ b h) λu s1 ⟨y,l,m,ry,q⟩=>thn (G d s1 g l _ m q) λP s2 ⟨x,j,r,Z,a,C,n,f,up,z,w,c,tk,Q⟩=>?_) M;subst z;obtain rfl:P=Value.ref a:=Z;exact yK r w c tk ry λi s3 A F v=>⟨g,_,v,Q i A F⟩
theorem rH {i:U<|S9×Obj}{D:L2.St}{H:Hp}{s:L8}{Q:VK}{j:U L}{n:U V}(c:XC X.K C f up)(F:FnOk X.prog X.w X.K X.mg X.base CX k f fd ps sp)(hr:Room (k+1) X.A)(hb:Binds X.K fd ps [])
  (hx:fw CX X E) (b:Inv X i D H s) (r:Vals n j) (hl:n.length<=sizeLine)
  (h:∀a,H a=J->sp (.ref a::n) (upd H a<|XO a C J L7) (λv Z=>v=.non/\Q (.ref a) Z) E):
  Tc (Mb X.prog X.w) X.A (call (.ref C) j) (EP X i D Q) X.xe s:=by
 obtain⟨N,y,xc,T,hi⟩:=c.ok _ b.kIn;obtain⟨oI,hf,hc⟩:=c.fn _ b.kIn;have G:=h (s.heap.objs.size+1)<|b.hok.fresh<|N8 _;refine uq (t:=s.toks) (g:=s.gens) (d:=s.drawn) (os:=s.os) xc T hi hf hc (by rw[<- r.length];exact hl) λh' m=>?_;obtain⟨t0,m1,m2,m3⟩:=m.there;have l:=b.laid (a:=s.heap.objs.size+1) (o:=XO (s.heap.objs.size+1) C J L7) (h':=h') (t':=s.toks) m.keeps (N8 _)<|XOk.ok ⟨_,_,t0,m1,rfl,rfl,rfl,rfl,by simp,λ_=>rfl⟩;have M:Vals (V.ref (s.heap.objs.size+1)::n) (Value.ref (s.heap.objs.size+1)::j):=.cons rfl r;have hn:(Value.ref (s.heap.objs.size+1)::j++[]).length=ps.length:=by rw[MV,<- M.length];exact F.len _ _ _ _ G
 have bd:=hb {s with heap:=h'} (Value.ref (s.heap.objs.size+1)::j) l.kIn hn;rw[MV] at bd;refine OI<|O9 (F.run _ X.stack _ _ ⟨Value.ref (s.heap.objs.size+1)::j,[]⟩ (Value.ref (s.heap.objs.size+1)::j) _ _ E (hr.make C j []) (l.env0.make C j []) bd M G) λr s' z=>?_;cases r with
 |error e=>exact hx i D _ _ e s' l z
 | ok fl =>
  cases fl with
  |ret u=>obtain⟨v,P,I3,rv,ev,q3⟩:=l.after z;subst ev;exact⟨rv,⟨V.ref<|s.heap.objs.size+1,P,I3,rfl,q3⟩⟩
  |next=>exact MQ z
  |brk=>exact MQ z
  |cont=>exact MQ z
theorem vo (c:XC X.K C f up)(F:FnOk X.prog X.w X.K X.mg X.base CX k f fd ps sp)(P:Room (k+1) X.A)(G:Gl X x)(N:X.mg x=O (.ref C))(z:Binds X.K fd ps [])(hx:fw CX X E)
  (y:PA X (e::es) t) (i:(x==("__debug__":Str))=false:=by decide) (D:Me (e::es) X.env=(L5,Tx e X.env)::Me es X.env:=by rfl) (j:(Mp pos<|Me es X.env).any (·.1)=false:=by rfl):
  PE X (.Call (.Name x p) (e::es) [] pos) λm H Q=>t m H λl g=>l.length<=sizeLine/\∀a,g a=J->sp (.ref a::l) (upd g a<|XO a C J L7) (λv u=>v=.non/\Q (.ref a) u) E:=by
 intro d s m H Q b h;refine O6<|eG b G N ?_ i;refine P0 (h₀:=X.base) b.ok.mod.kin c.kp (thn (y pos d s m H _ b h) λZ s1 ⟨l,g,n,r,M,q⟩=>⟨n.kIn,?_⟩) D j;exact rH c F P z hx n r M q
end
section
variable {M:Ud}{s:L8}{A:Mh}{env:Env}{E:L->L8->Prop}
theorem sE {x:Sem L}{Q:Flow->L8->Prop}(f:A.handled=J)
  (h:Tc M A x (λv a=>∃e C N up b l j m,v=.ref e/\ik a.heap C N up b/\up.contains (.type "BaseException")=L7/\a.heap.get? e=O {cls:=.ref C,dict:=l,data:=.fields j,slots:=m}/\j[1]?=O .none/\E (.ref e) a) E s):
  Tc M A (raiseStmt env (O x) J) Q E s:=by
 unfold raiseStmt;refine Ma<|MD h (λv a f=>?_) λ_ _ x=>x;obtain⟨e,C,N,up,b,l,j,m,ev,c,r,t,o,p⟩:=f;subst ev;obtain⟨⟨nm,q,bs,y,P,u,ab,n,w,B,D,F,G,H,k⟩,z⟩:=c;obtain⟨hp,g,d,tk,os⟩:=a;have i:(Value.ref C::up).contains (.type "BaseException")=true:=by rw[Pl,r,My]
 repeat (first|with_reducible refine OH t ?_|with_reducible refine OH k ?_|(with_reducible refine Qb k ?_;rw[i])|wp_step)
 rw[o];refine Mf ?_;rw[Ti<|by decide];exact Mf<|wpAny_raiseNew_none f p
end
def xw (X:Cx)(d:L2.St):VK:=λv H=>∀(b:U<|S9×Obj) (s:L8) (a C:S9) (c:I S9),v=.ref a->H a=O (XO a C c L5)->Inv X b d H s->Tr X.s₀.heap.objs.size H s.heap a->X.xe (.ref a) s
section
variable {X:Cx}{pos:Pos}{e:Tq}{te:TE}
theorem ky:∀{l:U L},d7 l=L7->l.contains (.type "BaseException")=L7
|.ref c::r,q=>by rw[Pl,ky (l:=r) q,My]
|[],q=>by cases q
|.type n::r,q=>by rw[show Value.type n::r=VE from beq_iff_eq.mp q];decide +kernel
|.none::r,q=>by cases(show Value.none::r=VE from beq_iff_eq.mp q)
|.bool _::r,q=>by cases(show _::r=VE from beq_iff_eq.mp q)
|.int _ _::r,q=>by cases(show _::r=VE from beq_iff_eq.mp q)
|.float _ _::r,q=>by cases(show _::r=VE from beq_iff_eq.mp q)
|.str _ _::r,q=>by cases(show _::r=VE from beq_iff_eq.mp q)
|.bytes _ _::r,q=>by cases(show _::r=VE from beq_iff_eq.mp q)
|.builtin _::r,q=>by cases(show _::r=VE from beq_iff_eq.mp q)
|.ellipsis::r,q=>by cases(show _::r=VE from beq_iff_eq.mp q)
|.notImplemented::r,q=>by cases(show _::r=VE from beq_iff_eq.mp q)
theorem xp (y:X.calm=L7)(z:PE X e te):PS X (.Raise (O e) J pos) λD j H=>te j H λv k=>∃a C i f up,v=.ref a/\k a=O (XO a C i L7)/\XC X.K C f up/\d7 up=L7/\xw X j (.ref a) (upd k a<|XO a C i L5):=by intro d s j H D b h;rw[arm_exec_Raise];refine Ma<|O1 ?_;refine sE (b.ok.hd y) ?_;show Tc _ _ (do let v <- Tx e X.env;standAt pos;pure v) _ _ _;refine Ma<|thn (z d s j H _ b h) λu s1 ⟨v,k,l,r,a,C,i,f,up,ev,t,c,A,q⟩=>Ma<|O1<|Mf ?_;subst ev;obtain rfl:u=Value.ref a:=r;obtain⟨o,x,Q,n,e1,e2,e3,G,M,p⟩:XOk a C i L7 s1.heap:=(l.hok a _ t).1;obtain⟨N,g,F,_,_⟩:=c.ok _ l.kIn;obtain⟨P,w,B,m⟩:=o;dsimp only at e1 e2 e3;subst e1 e2 e3;exact⟨a,C,N,up,g,w,x,m,rfl,F,ky A,n,p rfl,q d s1 a C w rfl ah (Inv.xweak l t) ⟨_,x,n,rfl,.inl<|p rfl⟩⟩
end
section
variable {X:Cx}{pins:U (S9×Obj)}{σ:L2.St}{H:Hp}{s:L8}{M:Ud}{A:Mh}{E:L->L8->Prop}{i:Y}{x:Str}
theorem Hi {v:V}{Q:Unit->L8->Prop}(a:Inv X pins σ H s)(hN:X.N.Nodup)(G:X.N[i]?=O x)(hk:X.env.scope.names.lookup x=O .local)(hv:σ[i]?=O (O v))
  (h:∀s',Inv X pins (σ.set i J) H s'->Q () s'):Tc M A (deleteName X.env x) Q E s:=by
 obtain⟨m,hn,P⟩:=id a.loc;have g:(X.env.scope.kind==.class || (X.env.scope.kind==.module&&X.env.locals != X.env.globals))=false:=by rw[a.ok.kind];rfl
 have l:X.env.kindOf x=O .local:=hk
 have hm:∃u,m x=O u:=by
  obtain⟨u,_,q⟩:=P i x v G hv<|.inl hk;rcases q with⟨_,q⟩|⟨z,_⟩
  .exact⟨u,q⟩
  .rw[l] at z;rcases z with z|z<;>cases z
 obtain⟨u,hu⟩:=hm;unfold deleteName;rw[l];dsimp only;rw[g];refine Ma<|wpAny_nsDel_keeps hn λh' v' F f=>?_;rw[hu];refine Mf<|h _ ⟨a.ok,a.os,a.bare,⟨λb o e n t hx=>?_,λb o e n t hx=>?_,a.base.free,λb o e hx=>?_,a.base.tups,a.base.frzs,a.base.tbls⟩,⟨_,F,λj y w e1 e2 e3=>?_⟩,λy c e=>?_,a.free,a.freeC,λp hp=>?_,λb ob e=>?_,by simpa using a.len⟩
 .exact(f.2 b<|Mu<|MF (Heap.lt_size e) a.ok.above).trans<|a.base.keep b o e n t hx
 .obtain ⟨sl,e1⟩:=a.base.slot b o e n t hx;exact⟨sl,(f.2 b<|Mu<|MF (Heap.lt_size e) a.ok.above).trans e1⟩
 .obtain ⟨o',e1⟩:=a.base.there b o e hx;exact⟨o',(f.2 b<|Mu<|MF (Heap.lt_size e) a.ok.above).trans e1⟩
 .by_cases B:j=i
  .rw [B] at e2;by_cases D:i < σ.length
   .rw[PZ D] at e2;cases e2
   .rw[List.getElem?_eq_none<|by rw[Ql];lia] at e2;cases e2
  .rw [ON (MI B)] at e2;obtain⟨u',r',q⟩:=P j y w e1 e2 e3;refine⟨u',r',?_⟩;rcases q with⟨k,e⟩|⟨k,c,e,z⟩
   .refine .inl ⟨k,?_⟩;have:y≠x:=λe=>B<|i5 hN e1<|e ▸ G;show(if y=x then v' else m y)=O u';rw[Ti this];exact e
   .exact .inr ⟨k,c,e,z.sameBut f<|a.cne y c e⟩
 .obtain ⟨w',z⟩:=a.cell y c e;exact⟨w',z.sameBut f<|a.cne y c e⟩
 .obtain ⟨e,n,Z,nf,d⟩:=a.pin p hp;exact⟨(f.2 p.1 Z).trans e,n,Z,nf,d⟩
 .refine (a.hok b ob e).stay (fun c w' r q=>(f.2 c ?_).trans q) (fun _ q=>q) fun _ _ q=>q;rintro rfl;rcases r with rfl|r
  .rw[a.free] at e;cases e
  .rw[a.free] at r;cases r
theorem eO {d:Pos}{Q:Unit->L8->Prop}(a:Inv X pins σ H s)(g:X.N.Nodup)(c:X.N[i]?=O x)(hk:X.env.scope.names.lookup x=O .local)
  (h:∀e,Inv X pins (σ.set i J) H e->Q () e):Tc M A (do bindName X.env x .none;Qz X.env x d) Q E s:=by
 have k:i < σ.length:=by rw[a.len];exact(Na.mp c).1
 refine Ma<|wpAny_bindName<|fR (v:=.non) a g c (.inl hk) rfl (λe j=>?_) (.inr hk);unfold Qz unbindName;refine Pu<|Ma<|wpAny_point<|Ma<|Hi j g c hk (v:=.non) (PZ k) λf b=>wpAny_point<|h f ?_;rw[List.set_set] at b;exact b
end
section
variable {M:Ud}{h:To}{A:Mh}{g:Tv OX}{d:Drawn}{t:Y}{os:OD}{E:L->L8->Prop}
theorem rF {e C B N n:S9}{up j:U L}{i a:Str->I L}{m:Obj}{Q:Ta->L8->Prop}(c:ik h C N up i)(b:ik h B n j a)(p:j.contains (.type "BaseException")=L7)(u:(Value.ref C::up).contains (.ref B)=L7)
  (s:h.get? e=O m) (r:m.cls=.ref C) (k:Q L7 ⟨h,g,d,t,os⟩):Tc M A (excMatches (.ref e)<|.ref B) Q E ⟨h,g,d,t,os⟩:=by
 obtain⟨⟨x,y,z,D,F,G,H,P,Z,b1,b2,b3,b4,b5,o⟩,-⟩:=c;obtain⟨⟨c1,c2,c3,c4,c5,c6,c7,c8,c9,d1,d2,d3,d4,d5,l⟩,-⟩:=b;have v:(Value.ref B::j).contains (.type "BaseException")=true:=by rw[Pl,p,My]
 have w:=u;have f:=tc_notTuple;unfold excMatches
 repeat (first|(with_reducible refine OH s ?_;rw[r])|with_reducible refine OH l ?_|(with_reducible refine Qb l ?_;rw[v])|(with_reducible refine Qb o ?_;rw[w])|wp_step)
 exact k
end
noncomputable abbrev hx (X:Cx)(a:S9):Cx:={X with A:=X.A.mark<|O<|.ref a,calm:=L5,xe:=λ_ _=>Tw}
section
variable {X:Cx}{pins:U (S9×Obj)}{σ:L2.St}{H:Hp}{s:L8}{a C:S9}{od:I S9}
theorem Inv.hx (b:Inv X pins σ H s)(a:S9):Inv (hx X a) pins σ H s:=
 ⟨⟨b.ok.mod,b.ok.kind,b.ok.glob,b.ok.blt,b.ok.above,b.ok.inj,b.ok.has,b.ok.cab,(λz=>by cases z),b.ok.frames,b.ok.stk,b.ok.exf,b.ok.bs,b.ok.bsz,b.ok.noex,b.ok.exfs,b.ok.funs,b.ok.frf⟩,b.os,b.bare,b.base,b.loc,b.cell,b.free,b.freeC,b.pin,b.hok,b.len⟩
theorem Inv.unhx (c:X.Ok)(b:Inv (L3.hx X a) pins σ H s):Inv X pins σ H s:=⟨c,b.os,b.bare,b.base,b.loc,b.cell,b.free,b.freeC,b.pin,b.hok,b.len⟩
theorem Inv.noted {h:To}{f:Obj}{m:Tv L}{fl:L}(c:Inv X pins σ H s)(i:H a=O (XO a C od L5))(e1:s.heap.get? a=O f)(e2:f.data=.fields m)(n:jH (frs X.stack) s.heap h a f m fl):Inv X pins σ H {s with heap:=h}:=by
 obtain⟨⟨t,A,D,P,z2,z3,z4,z5⟩,l,x,y⟩:=n;obtain⟨⟨o,Z,B,p,F,G,r,M,N,-⟩,-,-⟩:=c.hok a _ i;rw[e1] at p;cases p;rw[e2] at r;cases r;have j:=Obj.data_mapFields e2 (·.setIfInBounds 1 (Value.ref t));refine c.call' (s':={s with heap:=h}) (ch:=[]) rfl ⟨λb o e d w hx=>l b o e (λz=>?_) w,λb o e d v hx=>x b o e v,λb o e d hx=>d,λb o e hx=>y b o e,λ_ _ z=>z,λ_ _ _ z=>z,λb Q z=>⟨#[],by rw[z];simp⟩⟩ ?_ c.bare (λb z=>Tg z<|by simp)
 .rw[z,i] at d;cases d
 .refine HOk.touch c.hok i (fun b u o d k g=>l b u g k fun z=>?_) ⟨_,_,B,P,by rw [Obj.cls_mapFields]; exact F,by rw [<- G]; obtain ⟨_,_,_,_⟩:=f; cases e2; rfl,j,by rw [Rv<|by decide]; exact M,by rw [Q7]; exact N,fun z=>by cases z⟩;rw[c.stkFree b z] at d;cases d
end
abbrev tx (X:Cx)(E:L->L8->Prop)(pn:U<|S9×Obj):Cx:={X with xe:=E,pn:=pn}
section
variable {X:Cx}{pins pins':U (S9×Obj)}{σ:L2.St}{H:Hp}{s:L8}{E:L->L8->Prop}
theorem Inv.tx (a:Inv X pins σ H s)(E:L->L8->Prop):Inv (L3.tx X E<|X.pn++pins) [] σ H s:=
 ⟨⟨a.ok.mod,a.ok.kind,a.ok.glob,a.ok.blt,a.ok.above,a.ok.inj,a.ok.has,a.ok.cab,a.ok.hd,a.ok.frames,a.ok.stk,a.ok.exf,a.ok.bs,a.ok.bsz,a.ok.noex,a.ok.exfs,a.ok.funs,a.ok.frf⟩,a.os,a.bare,a.base,a.loc,a.cell,a.free,a.freeC,λp hp=>a.pin p<|by rw[MV] at hp;exact hp,a.hok,a.len⟩
theorem Inv.untx (c:X.Ok)(a:Inv (L3.tx X E<|X.pn++pins) pins' σ H s):Inv X pins σ H s:=⟨c,a.os,a.bare,a.base,a.loc,a.cell,a.free,a.freeC,λp hp=>a.pin p<|OP _ hp,a.hok,a.len⟩
theorem SP.untx {D:cx}{f:Flow}(c:X.Ok)(h:SP (L3.tx X E<|X.pn++pins) pins' D f s):SP X pins D f s:=by
 cases f with
 |next=>obtain⟨b,d,a,q⟩:=h;exact⟨b,d,Inv.untx c a,q⟩
 |brk=>obtain⟨b,d,a,q⟩:=h;exact⟨b,d,Inv.untx c a,q⟩
 |cont=>obtain⟨b,d,a,q⟩:=h;exact⟨b,d,Inv.untx c a,q⟩
 |ret u=>obtain⟨v,b,d,a,r,q⟩:=h;exact⟨v,b,d,Inv.untx c a,r,q⟩
theorem lh {M:Ud}{A:Mh}{E:L->L8->Prop}{a T:S9}{h g:Obj}{j i:Tv L}{Q:Unit->L8->Prop}(e1:s.heap.get? a=O h)(e2:h.data=.fields j)(e3:j[1]?=O (.ref T))(c:s.heap.get? T=O g)(d:g.data=.fields i)(e:i[3]?=O .none)
  (k:∀f,(∀b o,s.heap.get? b=O o->f.get? b=O o)->Q () {s with heap:=f}):Tc M A (Pw (.ref a) J) Q E s:=by
 unfold Pw;refine Ma<|MX e1 e2 e3 ?_;rw[Tf<|je T];refine O2 c d (OA.mp e).1<|k _ λb o q=>?_;by_cases z:b=T
 .rw [z] at q ⊢;rw[c] at q;cases q;show(s.heap.update T<|Obj.mapFields (·.setIfInBounds 3 Value.none)).get? T=_;rw[Heap.get?_update_self (Obj.mapFields (·.setIfInBounds 3 Value.none)) c<|Obj.isFreed_of_fields<|Obj.data_mapFields d _,CG d e]
 .rw[Heap.get?_update_other _ _<|MI z];exact q
end
section
variable {X:Cx}{pos pos' p:Pos}{i:Y}{x cn:Str}{B fB:S9}{upB:U L}{body suite:U Tz}{b₀:Tz}{tb:(L2.St->VK)->TS}{th:S9->TS}
theorem yy (M:X.stack=X.env::X.outer)(hf:X.env.frame=O X.env.locals)(hN:X.N.Nodup)(hi:X.N[i]?=O x)(hk:X.env.scope.names.lookup x=O .local)(hg:Gl X cn)(hm:X.mg cn=O (.ref B))
  (cb:∀h,X.K.In h->∃N' n,ik h B N' upB n) (hub:d7 upB=L7) (hb:∀Q pn,PSs (L3.tx X Q pn) body<|tb<|xw<|L3.tx X Q pn) (hs:∀a,PSs (hx X a) (b₀::suite)<|th a) (hdb:(cn==("__debug__":Str))=false:=by decide)
  (mono:∀W W' D m H,(∀m v H,W m v H->W' m v H)->tb W D m H->tb W' D m H):
  PS X (.Try body [.ExceptHandler (O<|.Name cn p) (O x) (b₀::suite) pos'] [] [] pos) λD m H=>
   tb (λk v y=>∃a C od f up,v=.ref a/\y a=O (XO a C od L5)/\XC X.K C f up/\(Value.ref C::up).contains (.ref B)=L7/\th a {nx:=λl Z=>D.nx (l.set i J) Z,rt:=D.rt,bk:=λl Z=>D.bk (l.set i J) Z,ct:=λl Z=>D.ct (l.set i J) Z} (k.set i<|O v) y) D m H:=by
 intro j s m H D d h;refine wpAny_Try_except ?_;generalize hE:(λ(e:L) (s₁:L8)=>Tc (Mb X.prog X.w) X.A (OY e X.env) (λ_ s₂=>Tc (Mb X.prog X.w) X.A (Pw e J) (λ_ s₃=>Tc (Mb X.prog X.w) X.A (handleBy e X.env [.ExceptHandler (O<|.Name cn p) (O x) (b₀::suite) pos']) (SP X j D) X.xe s₃) X.xe s₂) X.xe s₁)=Q;refine thn (hb Q (X.pn++j) [] s m H D (Inv.tx d Q)<|mono _ _ D m H ?_ h) λfl s' q=>?_
 .rintro k v y ⟨a,C,od,f,up,rfl,ha,c,hu,ht⟩ pins' s1 a' C' od' ev ha' I1 tr;cases ev;rw[ha] at ha';subst hE;obtain⟨oe,vs,e1,e2,e3⟩:=tr;have g:Inv X j k y s1:=Inv.untx d.ok I1;obtain⟨⟨o,ws,t0,x1,x2,x3,x4,x5,x6,-⟩,-,-⟩:=g.hok a _ ha;rw[e1] at x1;cases x1;rw[e2] at x4;cases x4;have hl:=g.stack;rw[M] at hl;have hfr:=g.ok.frames;rw[M] at hfr
  have tbx:Tb s1.heap a vs:=by
   rcases e3 with z|⟨T,oT,ts,y1,y2,y3,y4,y5,_⟩
   .exact .inl z
   .exact .inr ⟨T,oT,ts,y1,y2,y3,y4,y5⟩
  show Tc _ _ (OY (.ref a) X.env) _ _ _;refine qR hfr hl hf e1 e2 tbx λh2 n2=>qF (s:={s1 with heap:=h2}) e2 x6 (Heap.lt_size e1) (λb z=>by obtain⟨_,o,q,_⟩:=hl.mem z;exact Heap.lt_size q) n2 λh3 n3=>?_;have n3':jH (frs X.stack) s1.heap h3 a oe vs .none:=by rw[M];exact n3
  have J3:Inv X j k y {s1 with heap:=h3}:=Inv.noted g ha e1 e2 n3';obtain⟨⟨T',oT',ts',z1,z2,z3,z4,z5⟩,-,-,-⟩:=n3;have hd':=Obj.data_mapFields e2 (·.setIfInBounds 1 (Value.ref T'));refine wpAny_handleBy_cons (codeAny_handlers_test<|eG (X:=L3.hx X a) (Inv.hx J3 a) hg hm ?_ hdb) (by intro q;cases q);obtain⟨N1,names1,c1,_,_⟩:=c.ok _ J3.kIn;obtain⟨N2,names2,c2⟩:=cb _ J3.kIn;refine rF (h:=h3) c1 c2 (ky hub) hu z1 (by rw[Obj.cls_mapFields];exact x2) ?_;show NJ _ _ _ _ _;refine codeAny_handlers_suite_as<|lh (s:={s1 with heap:=h3}) z1 hd' (by simp[x6]) z3 z4 z5 λh4 k4=>?_;have J4:Inv X j k y {s1 with heap:=h4}:=J3.kept (t':=s1.toks) k4;refine fR (X:=L3.hx X a) (v:=.ref a) (Inv.hx J4 a) hN hi (.inl hk) rfl (λs5 I5=>?_) (.inr hk);refine MD (hs a j s5 _ y _ I5 ht) (λfl s6 q=>?_) λ_ _ z=>MQ z;show Tc _ _ (do bindName X.env x .none;Qz X.env x pos') _ _ _;cases fl with
  |next=>obtain⟨P,t,F,q⟩:=q;exact eO (Inv.unhx d.ok F) hN hi hk λs7 G=>⟨_,t,G,q⟩
  |brk=>obtain⟨P,t,F,q⟩:=q;exact eO (Inv.unhx d.ok F) hN hi hk λs7 G=>⟨_,t,G,q⟩
  |cont=>obtain⟨P,t,F,q⟩:=q;exact eO (Inv.unhx d.ok F) hN hi hk λs7 G=>⟨_,t,G,q⟩
  |ret u=>obtain⟨v,P,t,F,r,q⟩:=q;exact eO (Inv.unhx d.ok F) hN hi hk λs7 G=>⟨v,_,t,G,r,q⟩
 .have q:=SP.untx d.ok q;cases fl with
  |next=>exact P8 q
  |brk=>exact q
  |cont=>exact q
  |ret u=>exact q
end
theorem slot_bga:Slot "ValueError" "__getattribute__" "BaseException.__getattribute__":=PySem.F.excAttr_ValueError.ga
section
variable {prog:Td}{w:Mc}{A:Mh}{E:L->L8->Prop}{s:L8}{K:L9}
structure XG (K:L9)(C:S9):Prop where
 ga:MB K (.ref C) "__getattribute__"=O (O (.builtin "BaseException.__getattribute__"))
 hk:MB K (.ref C) "__getattr__"=O J
 sub:Qq K (.ref C) (.type "BaseException")=O L7
theorem Gs {e C:S9}{k:Obj}{j:I Obj}{b:Str}{tk:Tok}{g d:Ta}{Q:L->L8->Prop}(X:K.In s.heap)(a:Pe s.heap e k C j)(c:XG K C)
  (h:Tc (Mb prog w) A.in1 (Ob.«object.__getattribute__» ⟨[.ref e,.str b tk],[]⟩) (λf i=>match f with | .done (.ret v)=>Tc (Mb prog w) A (QO v) Q E i|_=>Tw) (λ_ _=>Tw) s):
  Tc (Mb prog w) A (getAttrBy (.ref e) (.str b tk) g d) Q E s:=by
 have ty:=a.type (M:=Mb prog w);refine Nq<|Ma<|ty _ _ _ _ (λ_ _ e=>e)<|Ma<|PU X c.ga _ _ _ _ (λ_ _ e=>e) ?_;dsimp only;rw[show(Value.builtin "BaseException.__getattribute__"==Value.builtin "object.__getattribute__")=L5 from by decide +kernel,QJ,Ti<|by decide];refine Ma<|Si X (r:=J) (by rw[Tf<|show onTheHeap (Value.ref C)=L7 from rfl];exact c.hk) _ _ _ _ (λ_ _ e=>e)<|Ma<|P4<|Nq ?_;unfold callGetattribute;rw[show(d&&onTheHeap (Value.builtin "BaseException.__getattribute__"))=L5 from QJ _,Ti<|by decide];unfold boundAndCalled;rw[slot_bga.bind];refine Ma<|Mf ?_;show Tc _ _ (call (.builtin "BaseException.__getattribute__") [.ref e,.str b tk]) _ _ _;refine OI<|Qa slot_bga.plain PySem.F.entry_bexc_ga ?_;refine@Rj (Mb prog w) _ _ s "BaseException.__getattribute__" "BaseException" "__getattribute__" (.ref e) [.str b tk] [] _ (by decide +kernel) (by decide +kernel) (ty.andThen<|PySem.W.looks_subIn X c.sub) (PySem.F.args_bexc_ga (.ref e)<|.str b tk) ?_;refine MD h (λf i z=>?_) λ_ _ z=>z.elim;rcases f with(_|_|_|_)|_<;>first|exact MQ z|exact z
theorem z0 {e C:S9}{k:Obj}{f:I Obj}{b:Str}{v:L}{d:Ta}{Q:L->L8->Prop}(X:K.In s.heap)(a:Pe s.heap e k C f)(c:XG K C)
  (i:PySem.W.findObj K C f b=O (.value v)) (j:Rt v=L7) (h:Q v {s with toks:=s.toks+1}):Tc (Mb prog w) A (Up (.ref e) b d) Q E s:=by
 refine Ma<|wpAny_mkText<|Gs (s:={s with toks:=s.toks+1}) X a c ?_;have ty:=a.type (M:=Mb prog w);have g:=PySem.W.looks_find (M:=Mb prog w) X a i;refine Ma<|Mf<|Ma<|Mf<|Ma<|Nf (s:={s with toks:=s.toks+1}) ty<|Ma<|Nf (s:={s with toks:=s.toks+1}) g ?_;refine Mf ?_;show Tc _ _ (QO v) _ _ _;rw[RX j];exact Mf h
end
structure XF (K:L9)(C:S9):Prop where
 xc:∃f up,XC K C f up/\d7 up=L7
 xg:XG K C
 hd:N3 K C=L7
 ca:MB K (.ref C) "__class__"=O (O (.builtin "object.__class__"))
 cg:Rb K (.builtin "object.__class__") "__get__"=O (O (.builtin "getset_descriptor.__get__"))
 ct:Qn K (.builtin "object.__class__")=O L7
 mo:PM K C (.type "object")=O L7
def XNm (K:L9)(c:Y)(C:S9):Prop:=c=C/\XF K C
section
variable {X:Cx}{pins:U (S9×Obj)}{σ:L2.St}{H:Hp}{s:L8}{a C dx:S9}{n:Ta}{fs:U (Str×V)}{fld:Str}{v:V}{A:Mh}{E:L->L8->Prop}
theorem A9 {b:Ta}{Q:L->L8->Prop}(g:Inv X pins σ H s)(e:H a=O (XO a C (O dx) n))(d:H dx=O (.xd fs))(c:XF X.K C)(t:MB X.K (.ref C) fld=O J)(l:fs.lookup fld=O v)
  (h:∀u m,Inv X pins σ H m->RelV v u->Q u m):Tc (Mb X.prog X.w) A (Up (.ref a) fld b) Q E s:=by
 obtain⟨o,N,M,p,e1,e2,e3,D,F,G⟩:XOk a C (O dx) n s.heap:=(g.hok a _ e).1;obtain⟨j,z,r⟩:∃j,s.heap.Ns1 dx j/\∀f,RelO (fs.lookup f) (j f):=g.hok dx _ d;obtain⟨u,y,k⟩:=RelO.some_of (v:=v) (o:=j fld) (by rw[<- l];exact r fld);obtain⟨B,ho,x⟩:=gc z;have i:Pe s.heap a o C (O B):=⟨p,e1,by unfold QH;rw[e3],by rw[e2];exact ho⟩;exact z0 g.kIn i c.xg (Sr c.hd t rfl (by rw[x,y])) (jU k)<|h u _ (g.tok _) k
end
section
variable {X:Cx}{e:Tq}{fld:Str}{pos:Pos}{ta:TE}
theorem zY (w:PE X e ta)(t:NT e fld X.env (Tx e X.env)=Tx e X.env):PE X (.Attribute e fld pos) λi H Q=>ta i H λx d=>∃a C g n fs v,x=.ref a/\d a=O (XO a C (O g) n)/\d g=O (.xd fs)/\XF X.K C/\MB X.K (.ref C) fld=O J/\fs.lookup fld=O v/\Q v d:=by intro f s i H Q b h;refine pj t<|thn (w f s i H _ b h) λu s1 y=>?_;obtain⟨x,d,j,A,a,C,g,n,fs,v,p,m,o,c,r,l,q⟩:=y;subst p;obtain rfl:u=Value.ref a:=A;exact A9 j m o c r l λD B k z=>⟨v,d,k,z,q⟩
end
end L3

namespace L3
open PySem PySem.Spec PyProof.Rows L2
noncomputable def hT (a:U Int):Int:=reduceHash<|Builtin.Tuple.tupleHashOf<|a.map hashInt
abbrev KZ:=U Int×S9×L
def DTk (a:S9)(d:U<|U Int)(f e:U V)(h:To):Prop:=(a==Ni)=L5/\∃b:U KZ,b.map (·.1)=d/\b.map (λz=>V.ref z.2.1)=f/\Vals e (b.map (·.2.2))/\∃o c ep,h.get? a=O o/\o.ExactDict/\o.data=.dict c ep/\c.toList=b.map λz=>⟨hT z.1,.ref z.2.1,z.2.2⟩
noncomputable abbrev DTO (a:S9)(b:U<|U Int)(d c:U V):HO:=.ext<|DTk a b d c
def KeyR (K:L9)(H:Hp):U (U Int)->U V->Prop
|[],a=>a=[]
|k::c,a=>∃b r,a=.ref b::r/\SqT K H b (k.map V.int)/\KeyR K H c r
theorem KeyR.keep {K:L9}{H H':Hp}(s:∀b (d:U V),SqT K H b d->SqT K H' b d):∀{a:U<|U Int} {c:U V},KeyR K H a c->KeyR K H' a c
|[],_,h=>h
|k::a,c,f=>by obtain⟨b,r,e,q,h⟩:=f;exact⟨b,r,e,s b _ q,h.keep s⟩
end L3

namespace L3
open PySem PySem.Spec PyProof.Rows L2
section
variable {prog:Td}{w:Mc}{A:Mh}{E:L->L8->Prop}{s:L8}{K:L9}
theorem Hx:∀{l:U L},d7 l=L7->l.contains (.type "object")=true:=by
 intro l;induction l with
 |nil=>intro q;cases q
 | cons v r b =>
  intro q;by_cases z:(∃a,v=.ref a)
  .obtain ⟨a,rfl⟩:=z;rw[Pl,b q,My]
  .have:v::r=VE:=by
    cases v with
    |ref a=>exact Tg ⟨a,rfl⟩ z
    |_=>exact beq_iff_eq.mp q
   rw[this];decide +kernel
theorem nt {h:To}{c:I L}(X:K.In h)(e:(match c with|some a=>(Qn K a).map λb=>if b then O a else J|none=>O J)=O J):Ow (Mb prog w) h (Builtin.ObjectAttr.storeTaker? c) none:=by
 cases c with
 |none=>exact .now
 |some a=>
  obtain⟨b,d,z⟩:=PY.mp e;refine(R3 X d).andThen ?_;cases b with
  |false=>exact .now
  |true=>cases z
theorem yb {e C k:S9}{g:Obj}{vs:Tv L}{f:Str}{v:L}{D:Str->I L}{ns:U Str}{Q:Unit->L8->Prop}(X:K.In s.heap)(H:s.heap.get? e=O g)(m:g.cls=.ref C)(p:g.dict=O k)(t:g.data=.fields vs)(M:s.heap.Ns1 k D)(hw:PL D ns)(hz:ns.length<1000)
  (hs:MB K (.ref C) "__setattr__"=O (O<|.builtin "object.__setattr__")) (hp:(Pd K C).any (λj=>d7 j.mro)=L7) (ht:NH K C f=O J) (hh:N3 K C=L7)
  (h:∀l,l.Ns1 k (λy=>if y=f then O v else D y)->(∀b o,b≠k->s.heap.get? b=O o->l.get? b=O o)->Q () {s with heap:=l,toks:=s.toks+2}):
  Tc (Mb prog w) A (Ue (.ref e) f v) Q E s:=by
 obtain⟨od,x,-⟩:=gc M;have d:Pe s.heap e g C (O od):=⟨H,m,by unfold QH;rw[t],by rw[p];exact x⟩;have i:=RY;refine Rg X d hs ?_;obtain⟨j,N,P⟩:=Ph hp;have top:=Hx P;have ne:j.mro.isEmpty=false:=by cases q:j.mro with|nil=>rw[q] at top;cases top|cons _ _=>rfl
 have F:Ow (Mb prog w) s.heap (isInstance (.ref e) (.type "object")) true:=d.type.andThen (Sm X<|by unfold PM;rw[N,Qo,Ti<|by rw[ne];decide,top]);refine Qa i.slot.plain i.entry<|@Rj (Mb prog w) _ _ {s with toks:=s.toks+1} "object.__setattr__" "object" "__setattr__" (.ref e) [.str f s.toks,v] [] _ i.kind i.split F (i.args (.ref e) (.str f s.toks) v) ?_;obtain⟨G,ha,hr⟩:=(Qt).1 ht;have taker:=nt (prog:=prog) (w:=w) X hr;have hm:Ow (Mb prog w) s.heap (mroOf (.ref C)) j.mro:=(PR X N).andThen .now;rw[RF,refuse_eq];refine Ma<|Ma<|Nf (s:={s with toks:=s.toks+1}) d.type<|Ma<|Nf (s:={s with toks:=s.toks+1}) hm ?_;rw[gw _ P];refine Mf<|Ma<|Nf (s:={s with toks:=s.toks+1}) d.type<|Ma<|Nf (s:={s with toks:=s.toks+1}) (PU X ha)<|Ma<|Nf (s:={s with toks:=s.toks+1}) taker ?_;obtain⟨cd',B,kd⟩:=Ph hh;obtain⟨c,di,da,sl⟩:=g;dsimp only at m p t;subst m p t;refine Ma<|Mf<|Ma<|Ma<|T5 H<|Ma<|Nf (s:={s with toks:=s.toks+1}) (PR X B) ?_;rw[kd];refine Mf (a:=O k)<|Ma<|Mf<|Ma<|Ug (s:={s with toks:=s.toks+1}) M λl Z s2=>?_;obtain⟨oD,esD,epD,u,r,n⟩:=Z.count<|Rf f v hw;refine Ma<|Qy u (by rw[r];exact Qx<|Mt n<|by rw[Mw,NA];lia) ?_;exact Mf<|h l Z λb o hb z=>(s2.2 b hb).trans z
end
section
variable {X:Cx}{pins:U (S9×Obj)}{σ:L2.St}{H:Hp}{s:L8}{a C f dx:S9}{n:Ta}{up:U L}{A:Mh}{E:L->L8->Prop}{fld:Str}{fs:U (Str×V)}
theorem x8 {y:V}{u:L}{Q:Unit->L8->Prop}(b:Inv X pins σ H s)(e:H a=O (XO a C (O dx) n))(d:H dx=O (.xd fs))(l:fs.length<1000)(c:XC X.K C f up)(F:NH X.K C fld=O J)(M:RelV y u)
  (h:∀t,Inv X pins σ (upd H dx<|.xd<|bU fld y fs) t->Q () t):Tc (Mb X.prog X.w) A (Ue (.ref a) fld u) Q E s:=by
 obtain⟨o,vs,t0,D,e1,e2,e3,Z,e5,e6⟩:XOk a C (O dx) n s.heap:=(b.hok a _ e).1;obtain⟨i,m,r⟩:∃i,s.heap.Ns1 dx i/\∀f,RelO (fs.lookup f) (i f):=b.hok dx _ d
 have N:PL i (fs.map (·.1)):=λg j=>by
  cases q:fs.lookup g with
  |none=>exact Tg (RelO.none_of<|by rw[<- q];exact r g) j
  | some v =>
   clear l d r m j e h;induction fs with
   |nil=>cases q
   | cons p fs G =>
    obtain⟨k,z⟩:=p;rw[M5] at q;by_cases hk:g=k
    .rw[hk];exact ML
    .rw [show (g==k)=L5 from TJ hk] at q;exact MG _<|G q
 refine yb b.kIn D e1 e2 e3 m N (by rw[Mg];exact l) c.sa c.po F c.hd λh' B P=>h _ ?_;refine b.write (x:=dx) (e:=dx) (t':=s.toks+2) (by rw[d];exact M0) (.inl rfl) P (let ⟨o,_,_,q,_⟩:=B;⟨o,q⟩) ⟨_,B,λg=>?_⟩;show RelO ((bU fld y fs).lookup g)<|if g=fld then O u else i g;rw[eB];by_cases q:g=fld
 .rw[Tf q,Tf q];exact M
 .rw[Ti q,Ti q];exact r g
end
section
variable {X:Cx}{x fld:Str}{p pos pos' apos:Pos}{e o value:Tq}{es:U Tq}{t:TA}{ta tv:TE}
theorem mU (A:PE X o ta)(G:PE X value tv)(F:Nl value (O<|.Attribute o fld pos') pos.line X.env=pure L5):PS X (.Assign [.Attribute o fld pos'] value pos)
  λD g H=>tv g H λy k=>ta g k λx i=>∃a C j n fs f up,x=.ref a/\i a=O (XO a C (O j) n)/\i j=O (.xd fs)/\fs.length<1000/\XC X.K C f up/\NH X.K C fld=O J/\D.nx g (upd i j<|.xd<|bU fld y fs):=by
 intro d s g H D b h;refine QB (thn (G d s g H _ b h) λu s1 ⟨y,k,l,Q,q⟩=>thn (A d s1 g k _ l q) λM Z ⟨x,i,m,P,a,C,j,n,fs,f,up,z,v,w,B,c,tk,N⟩=>?_) F;subst z;obtain rfl:M=Value.ref a:=P;exact x8 m v w B c tk Q λs3 r=>⟨g,_,r,N⟩
end
section
variable {prog:Td}{w:Mc}{A:Mh}{E:L->L8->Prop}{s:L8}{K:L9}
theorem zr {d:Sem Ta}{Q:L×U L->L8->Prop}(X:K.In s.heap)(e:RJ K (.type "Exception") (.type "type") "__init__"=O (.val<|.builtin "Exception.__init__"))
  (h:Q (.builtin "Exception.__init__",[]) {s with toks:=s.toks+1}):Tc (Mb prog w) A (getMethod (.type "Exception") "__init__" d) Q E s:=by
 have a:Ow (Mb prog w) s.heap (typeOf (.type "Exception")) (.type "type"):=.of_pure rfl;have c:Ow (Mb prog w) s.heap (opaqueClassAbove (.type "Exception")) none:=.of_pure (by unfold opaqueClassAbove;dsimp only;rw[show Manifest.isStub "Exception"=L5 by decide +kernel];rfl);have b:MB K (.type "type") "__getattribute__"=O (O (.builtin "type.__getattribute__")):=PySem.W.type_tga;unfold getMethod specialOf;refine Ma<|Ma<|a.here<|(PU X b).here ?_;dsimp only;rw[Tf PySem.W.canon_tga];refine Ma<|MD (E:=E) (Q:=λr=>Q (r,[])) (PySem.W.cls_open X c a b (Si X (r:=J)<|by rfl) (by show Qq K _ _=_;rfl) e<|Mf ?_) (λ_ _ z=>Mf z) λ_ _ z=>z;show Tc _ _ (QO _) _ _ _;rw[RX<|by decide +kernel];exact Mf h
end
section
variable {X:Cx}{x fld:Str}{p pos pos' apos:Pos}{e o value:Tq}{es:U Tq}{t:TA}{ta tv:TE}
structure XBt (K:L9):Prop where
 at_:RJ K (.type "Exception") (.type "type") "__init__"=O (.val (.builtin "Exception.__init__"))
theorem v7 {pl:Sem Ta}(b:XBt X.K)(hg:Gl X x)(hm:X.mg x=J)(Z:NI x=O (.type "Exception"))(hn:x≠"__name__")(P:PA X (e::es) t)(k:(x==("__debug__":Str))=false:=by decide)
  (m:Me (e::es) X.env=(L5,Tx e X.env)::Me es X.env:=by rfl) (l:(Mp pos<|Me es X.env).any (·.1)=false:=by rfl)
  (ht:Tx (.Call (.Attribute (.Name x p) "__init__" apos) (e::es) [] pos) X.env=(do
   let ov <- Tx (.Name x p) X.env
   standAt apos.atName
   let (f,first) <- holding [ov] (getMethod ov "__init__" pl)
   callWith pos f first (Mp pos<|Me (e::es) X.env) (OW pos<|O8 [] X.env)):=by rfl):
  PE X (.Call (.Attribute (.Name x p) "__init__" apos) (e::es) [] pos) λj H Q=>t j H λA i=>∃a C z n w f up,A=.ref a::w/\w.length<=sizeLine/\i a=O (XO a C z n)/\XC X.K C f up/\Q .non i:=by
 intro g s j H Q d h;refine PySem.W.methodCall_KW (pl:=pl) (thn (qz (T:="Exception") hg hm Z hn k g s j H (λv i=>v=.ty "Exception"/\i=H) d ⟨rfl,rfl⟩) λu s1 ⟨v,i,y,ru,ev,M⟩=>?_) ht;subst ev M;obtain rfl:u=Value.type "Exception":=ru;refine zr y.kIn b.at_ ?_;have D:=y.tok<|s1.toks+1;refine SG (thn (P pos g _ j _ _ D h) λus s2 ⟨A,B,F,r,a,C,z,n,w,f,up,ev,hl,N,c,q⟩=>?_) m l;subst ev;cases r with
 |cons r1 r2=>cases r1;exact uw F N c (by rw[<- r2.length];exact hl) λs' G=>⟨.non,B,G,rfl,q⟩
end
end L3

namespace M
open PySem (Str)
inductive T where
 |non|bl (b:Ta)|int (i:Int)|str (x:Str)|tup (ts:U T)|lst (ts:U T)|dct (ks:U (Int ⊕ Str)) (vs:U T)|ins (c:Y) (fs:U Str) (vs:U T)|obj (c:Y) (fs:U Str) (vs:U T)|dtt (ks:U (U Int)) (vs:U T)
 |scr (ns:U Int)
 |gone
 deriving TU
inductive Md where
 |s|d|o (m:Md)
 deriving TV,TU
def Md.kid:Md->Md
|.s=>.s | .d=>.d | .o m=>m
def Md.up:Md->Md
|.d=>.d|m=>.o m
noncomputable def Md.meet:Md->Md->Md
|.s,_=>.s | .d,m=>m | .o _,.s=>.s | .o a,.d=>.o a | .o a,.o b=>.o<|a.meet b
noncomputable def Md.le:Md->Md->Ta
|.s,_=>L7
|.o a,.o b=>a.le b
|.o _,.d=>L7
|.d,.d=>L7
|_,_=>L5
abbrev W:=Md×T
abbrev Env:=U<|I W
noncomputable def LIM:Y:=16777215
noncomputable def T.leaf:T->Ta
|.non | .bl _ | .int _ | .str _ | .scr _=>L7
|_=>L5
def T.isG:T->Ta
|.gone=>L7
|.dtt _ _=>L7
|_=>L5
noncomputable def T.isH:T->Ta
|.gone=>L7
|.dct _ _=>L7
|.dtt _ _=>L7
|.ins _ _ _=>L7
|.obj _ _ _=>L7
|_=>L5
def T.isN:T->Ta
|.non=>L7
|_=>L5
def leaves (a:U T):Ta:=a.all T.leaf
inductive Op where
 |add|sub|mul|fdiv|mod|pow|neg|eq|ne|lt|le|gt|ge|is|isnot|isin|notin|ix|sl|sl1|sl2|sl3
 |len|isI (cs:U Tu)|max1|count|fdivN|modN|list|tuple|sum|all|any|max|min|int|str|rng|sorted|join|split|abs|dict|get|lower|catT|dnew|ixD
 |getD
 |idxL|sortedL|ltB
 |att (fld:Str)|mk (c:Y) (fld:Str) (fk:Y)|mkP (c:Y) (fs:U Str) (cs:U Int)|attP (fld:Str)
  deriving TV,TU
inductive Ik where
 |seq|rng|zip|zip3|enmT
 deriving TV,TU
inductive E where
 |var (i:Y)|mv (i:Y)|io (i:Y)|cst (t:T)
 |tup (es:U E)|lst (h:Ta) (es:U E)|op (o:Op) (h:Ta) (es:U E)
 |and (a b:E)|or (a b:E)|not (a:E)|ifx (c a b:E)|chain (o p:Op) (a b c:E)
 |call (f:Y) (es:U E)|comp (h:Ta) (k:Ik) (src:U E) (tg:U Y) (cnd:I E) (elt:E)
 |callT (tab:U (Str×Y)) (k:E) (es:U E)|inT (neg:Ta) (ks:U Str) (e:E)
 deriving TU
inductive X where
 |q (vs ls:U Y)|l (vs:U Y)
 deriving TU
inductive S where
 |asg (x:X) (i:Y) (e:E)|asgT (x:X) (is:U Y) (e:E)|setS (x:X) (i:Y) (k e:E)
 |app (x:X) (i:Y) (e:E)|ext (x:X) (i:Y) (e:E)
 |ret (vs:U Y) (e:E)|ite (x:X) (c:E) (a b:U S)
 |forS (vs ls:U Y) (k:Ik) (src:U E) (tg:U Y) (body:U S)
 |brk|pas|stop
 |raiseN (c:Y) (fs:U Str) (vs:U Y) (es:U E)|asgL (x:X) (is:U Y) (e:E)|asgC (vs:U Y) (i f:Y) (es:U E)|raise (c:Y) (fld:Str) (fk:Y) (x:X) (e:E)|tryC (cs:U Y) (body:U S) (i:Y) (h:U S)
 deriving TU
structure Fn where
 ps:Y
 ns:Y
 io:U Y
 body:U S
inductive Res (α:Type) where
 |ok (a:α)|ex (t:T)|no
def Res.bind {b c:Type}:Res b->(b->Res c)->Res c
|.ok a,f=>f a
|.ex t,_=>.ex t
|.no,_=>.no
def ofO {b:Type}:I b->Res b
|some a=>.ok a
|none=>.no
inductive Fl where
 |nx (η:Env)|rt (w:W) (η:Env)|bk (η:Env)|ex (t:T) (η:Env)|no
noncomputable def truth:T->I Ta
|.non=>O L5 | .bl b=>O b | .int i=>O (i != 0) | .str x=>O (x.cps.size != 0) | .tup a=>O (!a.isEmpty) | .lst a=>O (!a.isEmpty) | .dct _ _=>J | .ins ..=>J | .obj ..=>J | .dtt ..=>J | .scr c=>O (!c.isEmpty) | .gone=>J
def b2i:Ta->Int
|true=>1|false=>0
mutual
def eqT:T->T->Ta
|.non,.non=>L7
|.bl a,.bl b=>a==b
|.bl a,.int i=>b2i a==i
|.int i,.bl a=>i==b2i a
|.int i,.int j=>i==j
|.str x,.str y=>x==y
|.tup ts,.tup us=>eqTs ts us
|.lst ts,.lst us=>eqTs ts us
|_,_=>L5
def eqTs:U T->U T->Ta
|[],[]=>L7
|t::ts,u::us=>eqT t u&&eqTs ts us
|_,_=>L5
end
mutual
def dp:T->Y
|.tup ts=>dps ts+1
|.lst ts=>dps ts+1
|.scr _=>1000
|.dct _ _=>1000
|.ins _ _ _=>1000
|.obj _ _ _=>1000
|.dtt _ _=>1000
|.gone=>1000
|_=>0
def dps:U T->Y
|[]=>0
|t::ts=>max (dp t)<|dps ts
end
def sOk (x:Str):Ta:=x.cps.all (· < 0x110000)&&decide (x.cps.size<=LIM)
def kOk:Int ⊕ Str->Ta
|.inl _=>L7
|.inr x=>sOk x
noncomputable def keyT:T->I (Int ⊕ Str)
|.int n=>O<|.inl n
|.str x=>O<|.inr x
|_=>J
def lookD (q:Int ⊕ Str):U (Int ⊕ Str)->U T->I T
|y::b,v::a=>if y=q then O v else lookD q b a
|_,_=>J
noncomputable def ixN (n:Y)(i:Int):I Y:=if 0<=i then(if i<n then O i.toNat else J) else if -(n:Int)<=i then O (i+n).toNat else J
def atI {b:Type}(a:U b)(i:Int):I b:=(ixN a.length i).bind λj=>a[j]?
noncomputable def sIx (n d:Y):I Int->Y
|none=>d
|some i=>if i<0 then(i+n).toNat else min i.toNat n
def cut {b:Type}(a:U b)(lo c:I Int):U b:=(a.drop<|sIx a.length 0 lo).take<|sIx a.length a.length c-sIx a.length 0 lo
noncomputable def T.ty:T->Tu
|.non=>"NoneType" |.bl _=>"bool" |.int _=>"int" |.str _=>"str" |.tup _=>"tuple" |.lst _=>"list" |.dct ..=>"dict" |.ins ..=>"object" |.obj ..=>"object" |.dtt ..=>"dict" |.scr _=>"list" |.gone=>"gone"
def isOne (c:Tu)(t:T):Ta:=t.ty==c || (t.ty=="bool"&&c=="int")
noncomputable def intsOf:U T->I (U Int)
|[]=>O []
|.int i::a=>(intsOf a).map (i::·)
|_::_=>J
noncomputable def boolsOf:U T->I (U Ta)
|[]=>O []
|.bl b::a=>(boolsOf a).map (b::·)
|_::_=>J
noncomputable def elems:W->I (U T)
|(_,.tup a)=>O a
|(_,.lst a)=>O a
|_=>J
def flatT:T->Ta
|.non | .bl _ | .int _ | .str _=>L7
|_=>L5
def isStr:T->Ta
|.str _=>L7
|_=>L5
def Hz (c:Y):Y:=if 65<=c/\c<=90 then c+32 else c
def maxI:U Int->Int
|[]=>0
|[n]=>n
|n::a=>max n<|maxI a
noncomputable def insI (x:Int):U Int->U Int
|[]=>[x]
|y::a=>if x<=y then x::y::a else y::insI x a
def sortI:U Int->U Int
|[]=>[]
|x::a=>insI x<|sortI a
noncomputable def strsOf:U T->I (U Str)
|[]=>O []
|.str x::a=>(strsOf a).map (x::·)
|_::_=>J
noncomputable def spl (c:Y):U Y->U Y->U (U Y)
|a,[]=>[a]
|a,x::b=>if x=c then a::spl c [] b else spl c (a++[x]) b
def HB (x:Str):U Str:=(spl 32 [] x.cps.toList).map λl=>⟨l.toArray⟩
def KY (i:Int):Str:=Str.ofString<|toString i
def newL (h:Ta)(m:Md)(a:U T):I W:=if h then(if leaves a then O (.d,.lst a) else J) else O (m.up,.lst a)
def fits (n:Y):Ta:=decide (n<=LIM)
mutual
def rOk:T->Ta
|.non | .bl _=>L7
|.int i=>decide (i.natAbs<1000000000000000000000000000000000000000000000000000000000000)
|.str x=>decide ((RD x).length<=100)&&sOk (RD x)
|.tup ts=>EK ts
|.lst ts=>EK ts
|_=>L5
def EK:U T->Ta
|[]=>L7
|t::ts=>rOk t&&EK ts
end
mutual
def szR:T->Y
|.tup ts=>GG ts+4
|.lst ts=>GG ts+4
|_=>100
def GG:U T->Y
|[]=>0
|t::ts=>szR t+2+GG ts
end
def wD:Y->Md->T->Ta
|0,_,.int n=>decide (n.natAbs.log2<1920)
|1,.s,.tup a=>decide (dp (.tup a)<=64)&&rOk (.tup a)&&decide (szR (.tup a)<=1000000)
|2,_,.str _=>L7
|_,_,_=>L5
def lfM (t:T):Md:=if t.leaf=L7 then .d else .s
def lookF (f:Str):U Str->U T->I T
|g::a,t::b=>if(g==f)=L7 then O t else lookF f a b
|_,_=>J
mutual
def spo:T->T
|.lst ts=>.lst<|spos ts++[.int 7]
|.tup ts=>.tup<|spos ts
|t=>t
def spos:U T->U T
|[]=>[]
|t::ts=>spo t::spos ts
end
mutual
def nl:T->Y
|.lst ts=>nls ts+1
|.tup ts=>nls ts
|_=>0
def nls:U T->Y
|[]=>0
|t::ts=>nl t+nls ts
end
def lngRow (c m:Y):U Int:=(Mj m).map λk=>(((c+k * k) % 11:Y):Int)
def cntI (a:U Int):U Int:=(Mj 11).flatMap λ(v:Y)=>Mr (a.count (v:Int)) (v:Int)
def lngOk (a:U Int):Ta:=(Mj 11).any λc=>[100,199,200].any λm=>a==lngRow c m
def oSem:Op->Ta->U W->I W
|.add,h,[(m,a),(n,b)]=>match a,b with
 |.int i,.int j=>O (.d,.int<|i+j)
 |.str x,.str y=>if fits (x.cps.size+y.cps.size) then O (.d,.str<|x++y) else J
 |.lst e,.lst g=>if fits (e.length+g.length) then newL h (m.kid.meet n.kid) (e++g) else J
 |.tup e,.tup g=>if fits (e.length+g.length)&&!e.isEmpty then O (.s,.tup<|e++g) else J
 |_,_=>J
|.sub,_,[(_,.int i),(_,.int j)]=>O (.d,.int<|i-j)
|.mul,h,[(m,a),(_,b)]=>match a,b with
 |.int i,.int j=>if(decide (i.natAbs<18446744073709551616)) || (decide (j.natAbs<18446744073709551616)) then O (.d,.int<|i * j) else J
 |.lst e,.int k=>if decide (k.natAbs<4611686018427387904)&&fits (e.length * k.toNat) then newL h .s (Mr k.toNat e).flatten else J
 |_,_=>J
|.fdiv,_,[(_,.int i),(_,.int j)]=>if decide (0<j)&&decide (j<1073741824) then O (.d,.int<|i / j) else J
|.mod,_,[(_,.int i),(_,.int j)]=>if decide (0<j) then O (.d,.int<|i % j) else J
|.pow,_,[(_,.int i),(_,.int j)]=>if decide (0<=j)&&decide (j<=1000000)&&decide (i.natAbs<18446744073709551616) then O (.d,.int<|i ^ j.toNat) else J
|.fdivN,_,[(_,.int i),(_,.int j)]=>if(j != 0)&&decide (j.natAbs<18446744073709551616) then O (.d,.int<|i.fdiv j) else J
|.modN,_,[(_,.int i),(_,.int j)]=>if j != 0 then O (.d,.int<|i.fmod j) else J
|.neg,_,[(_,.int i)]=>O (.d,.int (-i))
|.eq,_,[(_,a),(_,b)]=>if decide (dp a<=64)&&decide (dp b<=64) then O (.d,.bl<|eqT a b) else J
|.ne,_,[(_,a),(_,b)]=>if decide (dp a<=64)&&decide (dp b<=64) then O (.d,.bl<|!eqT a b) else J
|.lt,_,[(_,.int i),(_,.int j)]=>O (.d,.bl<|decide (i<j))
|.ltB,_,[(_,.int i),(_,.int j)]=>O (.d,.bl<|decide (i<j))
|.ltB,_,[(_,.bl a),(_,.bl b)]=>O (.d,.bl<|decide (b2i a<b2i b))
|.le,_,[(_,.int i),(_,.int j)]=>O (.d,.bl<|decide (i<=j))
|.gt,_,[(_,.int i),(_,.int j)]=>O (.d,.bl<|decide (j<i))
|.ge,_,[(_,.int i),(_,.int j)]=>O (.d,.bl<|decide (j<=i))
|.is,_,[(_,a),(_,.non)]=>if a.isG then J else O (.d,.bl a.isN)
|.isnot,_,[(_,a),(_,.non)]=>if a.isG then J else O (.d,.bl<|!a.isN)
|.ix,_,[(m,a),(_,.int i)]=>match a with
 |.lst e=>(atI e i).map λt=>(m.kid,t)
 |.tup e=>(atI e i).map λt=>(m.kid,t)
 |.str x=>(atI x.cps.toList i).map λc=>(.d,.str ⟨#[c]⟩)
 |.scr f=>(atI f i).map λn=>(.d,.int n)
 |_=>J
|.sl,h,[(m,.lst e)]=>newL h m.kid e
|.sl1,h,[(m,.lst e),(_,.int i)]=>newL h m.kid<|cut e (O i) J
|.sl2,h,[(m,.lst e),(_,.int i)]=>newL h m.kid<|cut e J<|O i
|.sl3,h,[(m,.lst e),(_,.int i),(_,.int j)]=>newL h m.kid<|cut e (O i)<|O j
|.sl2,_,[(_,.scr f),(_,.int i)]=>O (.d,.lst<|(cut f J<|O i).map T.int)
|.sl1,_,[(_,.scr f),(_,.int i)]=>O (.d,.lst<|(cut f (O i) J).map T.int)
|.sl,_,[(_,.scr f)]=>O (.d,.lst<|f.map T.int)
|.sl1,_,[(_,.tup e),(_,.int i)]=>O (.s,.tup<|cut e (O i) J)
|.sl2,_,[(_,.tup e),(_,.int i)]=>O (.s,.tup<|cut e J<|O i)
|.sl3,_,[(_,.tup e),(_,.int i),(_,.int j)]=>O (.s,.tup<|cut e (O i)<|O j)
|.len,_,[(_,a)]=>match a with
 |.lst e=>O (.d,.int e.length)
 |.tup e=>O (.d,.int e.length)
 |.str x=>O (.d,.int x.cps.size)
 |.scr f=>O (.d,.int f.length)
 |_=>J
|.attP fld,_,[(_,.obj _ fs p)]=>(lookF fld fs p).map λt=>(lfM t,t)
|.mkP c fs r,_,v=>if decide (fs.length=v.length+r.length)=L7 then O (.o .s,.obj c fs<|(v.map λw=>w.2)++r.map T.int) else J
|.att fld,_,[(_,.ins _ fs p)]=>(lookF fld fs p).map λt=>(lfM t,t)
|.mk c fld A,_,[(m,t)]=>if wD A m t=L7 then O (.s,.ins c [fld] [t]) else J
|.isI r,_,[(_,a)]=>if a.isH then J else O (.d,.bl<|r.any λc=>isOne c a)
|.list,h,[(m,a)]=>match a with
 |.lst e=>newL h m.kid e
 |.tup e=>newL h m.kid e
 |.scr f=>O (.d,.lst<|f.map T.int)
 |_=>J
|.tuple,_,[(m,a)]=>match a with
 |.lst e=>O (m.kid.up,.tup e)
 |.tup e=>O (m,.tup e)
 |_=>J
|.sum,_,[(_,.lst e)]=>(intsOf e).map λf=>(.d,.int f.sum)
|.all,_,[(_,.lst e)]=>(boolsOf e).map λbs=>(.d,.bl<|bs.all id)
|.any,_,[(_,.lst e)]=>(boolsOf e).map λbs=>(.d,.bl<|bs.any id)
|.max,_,[(_,.int i),(_,.int j)]=>O (.d,.int<|if j>i then j else i)
|.min,_,[(_,.int i),(_,.int j)]=>O (.d,.int<|if j<i then j else i)
|.rng,_,[(_,.int i),(_,.int j)]=>if decide (i.natAbs<4611686018427387904)&&decide (j.natAbs<4611686018427387904)&&fits (j-i).toNat then O (.d,.lst<|(Mj (j-i).toNat).map λ(k:Y)=>T.int<|i+k) else J
|.isin,_,[(_,a),(n,b)]=>(elems (n,b)).bind λe=>if flatT a&&e.all flatT then O (.d,.bl<|e.any λt=>eqT t a) else J
|.notin,_,[(_,a),(n,b)]=>(elems (n,b)).bind λe=>if flatT a&&e.all flatT then O (.d,.bl<|!e.any λt=>eqT t a) else J
|.int,_,[(_,.int i)]=>O (.d,.int i)
|.int,_,[(_,.bl b)]=>O (.d,.int<|b2i b)
|.abs,_,[(_,.int i)]=>O (.d,.int i.natAbs)
|.max1,_,[(_,.lst e)]=>(intsOf e).bind λf=>if f.isEmpty then J else O (.d,.int<|maxI f)
|.sorted,_,[(_,.lst e)]=>(intsOf e).bind λf=>if decide (f.length<64) then O (.d,.lst<|(sortI f).map T.int) else J
|.sortedL,_,[(_,.lst e)]=>(intsOf e).bind λf=>if decide (f.length<64)=L7 then O (.d,.lst<|(sortI f).map T.int) else if lngOk f=L7 then O (.d,.lst<|(cntI f).map T.int) else J
|.idxL,_,[(_,.lst e),(_,.str x)]=>(strsOf e).bind λl=>if(l.contains x&&decide (l.length<1000))=L7 then O (.d,.int<|l.idxOf x) else J
|.str,_,[(_,.int i)]=>if decide (i.natAbs<10000000000000000000) then O (.d,.str<|KY i) else J
|.join,_,[(_,.str z),(_,.lst e)]=>(strsOf e).bind λl=>if sOk (Str.join z l)&&decide ((l.map λs=>s.cps.size+z.cps.size).sum<=LIM) then O (.d,.str<|Str.join z l) else J
|.split,_,[(_,.str z),(_,.str y)]=>if(y==Str.ofString " ")&&decide (z.cps.size+2<=LIM)&&(HB z).all sOk then O (.d,.lst<|(HB z).map T.str) else J
|.count,_,[(_,.lst e),(_,.bl b)]=>(boolsOf e).map λbs=>(.d,.int<|bs.count b)
|.lower,_,[(_,.str x)]=>if x.cps.toList.all (λc=>decide (c<128)) then O (.d,.str ⟨x.cps.map Hz⟩) else J
|.catT,_,[(_,.tup e),(_,.tup g)]=>if fits (e.length+g.length) then O (.s,.tup<|e++g) else J
|.dnew,_,[]=>O (.d,.dct [] [])
|.ixD,_,[(.s,.dct u p),(_,k)]=>(keyT k).bind λq=>(lookD q u p).map λt=>(.s,t)
|.getD,_,[(.s,.dct u p),(_,k)]=>(keyT k).map λq=>(.s,(lookD q u p).getD .non)
|_,_,_=>J
noncomputable def rd:Env->Y->I W
|[],_=>J
|o::_,0=>o
|_::a,i+1=>rd a i
noncomputable def wr:Env->Y->I W->Env
|[],_,_=>[]
|_::a,0,w=>w::a
|o::a,i+1,w=>o::wr a i w
abbrev put (a:Env)(i:Y)(w:W):Env:=wr a i<|O w
abbrev del (a:Env)(i:Y):Env:=wr a i J
def look:W->I W
|(.s,t)=>O (.s,t)
|(_,t)=>if t.leaf=L7 then O (.d,t) else J
def toS:I W->I W
|some (_,t)=>O (.s,t)
|none=>J
def share:U Y->Env->Env
|[],a=>a
|i::b,a=>share b<|wr a i<|toS<|rd a i
def lfO:I W->I W
|some (_,t)=>if t.leaf=L7 then O (.d,t) else J
|none=>J
def ja:Env->Env
|[]=>[]
|_::a=>none::ja a
def pe:U Y->Env->Env->Env
|[],_,b=>b
|i::c,a,b=>pe c a<|wr b i<|toS<|rd a i
def iz:U Y->Env->Env->Env
|[],_,b=>b
|i::c,a,b=>iz c a<|wr b i<|lfO<|rd a i
def pick (c b:U Y)(a:Env):Env:=iz b a<|pe c a<|ja a
def after (m:Md)(b:U Y)(a:Env):Env:=match m with
|.d=>a
|_=>share b a
def bindT:U Y->U W->Env->I Env
|[],[],a=>O a
|i::b,w::c,a=>bindT b c<|put a i w
|_,_,_=>J
def eV (m:Md):Y->U T->U (U W)
|_,[]=>[]
|i,t::a=>[(.d,.int i),(m,t)]::eV m (i+1) a
def fm (m n:Md):U T->U T->U (U W)
|t::a,u::b=>[(m,t),(n,u)]::fm m n a b
|_,_=>[]
def vL:U T->U T->U T->U (U W)
|t::a,u::b,v::c=>[(.s,t),(.s,u),(.s,v)]::vL a b c
|_,_,_=>[]
def turns:Ik->U W->I (U<|U W)
|.seq,[(_,.lst e)]=>O<|e.map λt=>[(.s,t)]
|.seq,[(_,.tup e)]=>O<|e.map λt=>[(.s,t)]
|.seq,[(_,.scr g)]=>O<|g.map λn=>[(.d,.int n)]
|.rng,[(_,.int n)]=>if decide (n.natAbs<4611686018427387904)&&fits n.toNat then O ((Mj n.toNat).map λ(k:Y)=>[(.d,.int k)]) else J
|.rng,[(_,.int i),(_,.int j)]=>if decide (i.natAbs<4611686018427387904)&&decide (j.natAbs<4611686018427387904)&&fits (j-i).toNat then O ((Mj (j-i).toNat).map λ(k:Y)=>[(.d,.int<|i+k)]) else J
|.rng,[(_,.int i),(_,.int j),(_,.int c)]=>if decide (i.natAbs<4611686018427387904)&&decide (j.natAbs<4611686018427387904)&&decide (c=-1)&&fits (i-j).toNat then O ((Mj (i-j).toNat).map λ(k:Y)=>[(.d,.int<|i-k)]) else J
|.enmT,[(_,.tup e)]=>O<|eV .s 0 e
|.zip,[(m,a),(n,b)]=>(elems (m,a)).bind λe=>(elems (n,b)).bind λf=>O<|fm .s .s e f
|.zip3,[(_,.lst e),(_,.lst f),(_,.lst h)]=>O<|vL e f h
|_,_=>J
abbrev Call:=Y->U W->Res (W×U W)
abbrev RE:=Res<|W×Env
def lf (m:Md)(t:T):Md:=if t.leaf=L7 then .d else m
def jB:U W->Md
|[]=>.d
|w::a=>(lf w.1 w.2).meet<|jB a
def trees:U W->U T
|[]=>[]
|w::a=>w.2::trees a
def au:U Y->Env->Env
|[],a=>a
|i::b,a=>au b<|del a i
def ios:U E->U Y
|[]=>[]
|.io i::a=>i::ios a
|_::a=>ios a
def putAll:U Y->U W->Env->Env
|i::b,w::c,a=>putAll b c<|put a i w
|_,_,a=>a
def jx:W->W->I W
|(.s,_),_=>J
|(m,.lst a),(n,t)=>if a.length<LIM then O ((m.kid.meet<|lf n t).up,.lst<|a++[t]) else J
|_,_=>J
def jt:W->W->I W
|(.s,_),_=>J
|(m,.lst a),(n,.lst b)=>if a.length+b.length<=LIM then O ((m.kid.meet n.kid).up,.lst<|a++b) else J
|_,_=>J
def bj (k:Int ⊕ Str)(t:T):U (Int ⊕ Str)->U T->U (Int ⊕ Str)×U T
|[],_=>([k],[t])
|y::a,v::b=>if y=k then(y::a,t::b) else((y::(bj k t a b).1),(v::(bj k t a b).2))
|y::a,[]=>(y::a,[])
def HP:W->W->W->I W
|(.s,_),_,_=>J
|(m,.dct a b),(_,k),(_,t)=>(keyT k).bind λq=>if decide (a.length<LIM)&&flatT t then O (m,.dct (bj q t a b).1 (bj q t a b).2) else J
|_,_,_=>J
def dG:W->W->W->I W
|(.s,_),_,_=>J
|(m,.dct a b),(_,k),(_,t)=>(keyT k).bind λq=>if decide (a.length<LIM) then O (.o .s,.dct (bj q t a b).1 (bj q t a b).2) else J
|_,_,_=>J
def gh:W->W->W->I W
|(.s,_),_,_=>J
|(m,.lst a),(_,.int j),(n,t)=>(ixN a.length j).map λk=>((m.kid.meet<|lf n t).up,.lst<|a.set k t)
|_,_,_=>J
def mQ:I W->Res Unit
|some (_,.lst _)=>.ok ()
|_=>.no
def Ab:W->I (U W)
|(m,.tup a)=>O<|a.map λt=>(m.kid,t)
|_=>J
def ret {b:Type}(c:Env)(o:I b):Res (b×Env):=match o with
|some a=>.ok (a,c)
|none=>.no
def onB {a:Type}:T->(Env->Res a)->(Env->Res a)->Env->Res a
|.bl L7,f,_,b=>f b
|.bl L5,_,g,b=>g b
|_,_,_,_=>.no
def onT {a:Type}(f g:Env->Res a)(p:W×Env):Res a:=match truth p.1.2 with
|some L7=>f p.2
|some L5=>g p.2
|none=>.no
def okW {b:Type}(a:b)(c:Env):Res (b×Env):=.ok (a,c)
def vm (p:U W×Env):RE:=.ok (((jB p.1).up,.tup<|trees p.1),p.2)
def Br (h:Ta)(p:U W×Env):RE:=.ok ((if h then(jB p.1).up else .o .s,.lst<|trees p.1),p.2)
def kOp (o:Op)(h:Ta)(p:U W×Env):RE:=ret p.2<|oSem o h p.1
def vO (f:Env->RE)(p:W×Env):RE:=onT f (okW p.1) p
def kOr (f:Env->RE)(p:W×Env):RE:=onT (okW p.1) f p
def sW (p:W×Env):RE:=ret p.2<|(truth p.1.2).map λb=>(.d,.bl<|!b)
def kC3 (q:Op)(y:W)(z:W×Env):RE:=ret z.2<|oSem q L5 [y,z.1]
def then' {a b:Type}(f:Env->Res (a×Env))(k:a×Env->Res b)(c:Env):Res b:=(f c).bind k
def kC2 (o q:Op)(a:Env->RE)(x:W)(y:W×Env):RE:=(ret y.2<|oSem o L5 [x,y.1]).bind λk=>onB k.1.2 (then' a<|kC3 q y.1) (okW (.d,.bl L5)) k.2
def kC1 (o q:Op)(a b:Env->RE)(x:W×Env):RE:=(a x.2).bind<|kC2 o q b x.1
def mJ (a:U Y)(b:Env)(r:W×U W):RE:=.ok (r.1,putAll a r.2 b)
def iy (C:Call)(f:Y)(a:U Y)(p:U W×Env):RE:=(C f p.1).bind<|mJ a p.2
def gB (p:W×Env):Res (I W×Env):=.ok (O p.1,p.2)
def dW (f:Env->RE)(a:Env):Res (I W×Env):=(f a).bind gB
def f7 (c f:Env->RE)(a:Env):Res (I W×Env):=(c a).bind<|onT (dW f)<|okW J
def aG (b:U Y)(f:Env->Res (I W×Env)):U (U W)->Env->U W->Res (U W×Env)
|[],c,a=>.ok (a,c)
|e::r,c,a=>(ofO<|bindT b e c).bind λd=>(f d).bind λp=>aG b f r (au b p.2)<|a++p.1.toList
def okD (w:W):Ta:=w.1==.d || w.2.leaf
def lY (h:Ta)(q:U W×Env):RE:=ret q.2<|if h then(if q.1.all okD then O (.d,.lst<|trees q.1) else J) else O (.o .s,.lst<|trees q.1)
def fG (h:Ta)(k:Ik)(a:U Y)(f:Env->Res (I W×Env))(p:U W×Env):RE:=(ret (au a p.2)<|turns k p.1).bind λt=>(aG a f t.1 t.2 []).bind<|lY h
def qW (w:W)(q:U W×Env):Res (U W×Env):=.ok (w::q.1,q.2)
def bO (f:Env->Res (U W×Env))(p:W×Env):Res (U W×Env):=(f p.2).bind<|qW p.1
def kTab {b:Type}(tab:U<|Str×b)(f:b->Env->RE)(p:W×Env):RE:=match p.1.2 with
|.str x=>match tab.lookup x with
 |some a=>f a p.2
 |none=>.no
|_=>.no
def kCT (C:Call)(a:Env->Res (U W×Env))(b:U Y)(j:Y)(c:Env):RE:=(a c).bind<|iy C j b
def kIn (a:Ta)(b:U Str)(p:W×Env):RE:=match p.1.2 with
|.str x=>.ok ((.d,.bl<|b.contains x != a),p.2)
|_=>.no
def kX (a:U Y)(b:Env)(p:W×Env):RE:=.ok ((lf p.1.1 p.1.2,p.1.2),after (lf p.1.1 p.1.2) a b)
def kIo (i:Y)(p:U W×Env):Res (U W×Env):=(ofO<|rd p.2 i).bind λw=>.ok (w::p.1,del p.2 i)
section
variable (C:Call)
mutual
def evE:E->Env->RE
|.var i,η=>ret η<|(rd η i).bind look
|.mv i,η=>ret (del η i)<|rd η i
|.io i,η=>ret (del η i)<|rd η i
|.cst t,η=>.ok ((.d,t),η)
|.tup es,η=>(evL es η).bind vm
|.lst h es,η=>(evL es η).bind<|Br h
|.op o h es,η=>(evL es η).bind<|kOp o h
|.and a b,η=>(evE a η).bind<|vO<|evE b
|.or a b,η=>(evE a η).bind<|kOr<|evE b
|.not a,η=>(evE a η).bind sW
|.ifx c a b,η=>(evE c η).bind<|onT (evE a)<|evE b
|.chain o q a b c,η=>(evE a η).bind<|kC1 o q (evE b)<|evE c
|.call f es,η=>(evA es η).bind<|iy C f<|ios es
|.comp h k src tg J elt,η=>(evL src η).bind<|fG h k tg<|dW<|evE elt
|.comp h k src tg (O c) elt,η=>(evL src η).bind<|fG h k tg<|f7 (evE c)<|evE elt
|.callT tab k es,η=>(evE k η).bind<|kTab tab<|kCT C (evA es)<|ios es
|.inT neg ks e,η=>(evE e η).bind<|kIn neg ks
def evL:U E->Env->Res (U W×Env)
|[],η=>.ok ([],η)
|e::es,η=>(evE e η).bind<|bO<|evL es
def evA:U E->Env->Res (U W×Env)
|[],η=>.ok ([],η)
|.io i::es,η=>(evA es η).bind<|kIo i
|e::es,η=>(evE e η).bind<|bO<|evA es
end
def kT (a:Env)(p:W×Env):Res (Ta×Env):=ret a<|truth p.1.2
def kT2 (p:W×Env):Res (Ta×Env):=ret p.2<|truth p.1.2
def evX:X->E->Env->RE
|.q a c,e,b=>(evE C e<|pick a c b).bind<|kX a b
|.l a,e,b=>evE C e<|share a b
def evT:X->E->Env->Res (Ta×Env)
|.q b c,e,a=>(evE C e<|pick b c a).bind<|kT a
|.l b,e,a=>(evE C e<|share b a).bind kT2
def Fl.of {b:Type}(c:Env):Res b->(b->Fl)->Fl
|.ok a,f=>f a
|.ex _,_=>.no
|.no,_=>.no
noncomputable def Fl.seq:Fl->(Env->Fl)->Fl
|.nx a,f=>f a
|z,_=>z
noncomputable def Fl.turn:Fl->(Env->Fl)->Fl
|.nx a,f=>f a
|.bk a,_=>.nx a
|z,_=>z
noncomputable def onF:Ta->(Env->Fl)->(Env->Fl)->Env->Fl
|true,f,_,a=>f a
|false,_,g,a=>g a
def cT (c:U Y)(f:Env->Fl):U (U W)->Env->Fl
|[],a=>.nx a
|d::r,a=>Fl.of a (ofO<|bindT c d a) λb=>Fl.turn (f b)<|cT c f r
def kIf (f g:Env->Fl)(p:Ta×Env):Fl:=onF p.1 f g p.2
def Ke (f:Env->Fl)(g:Env->Fl)(a:Env):Fl:=Fl.turn (f a) g
def nxO (a:Env):I Env->Fl
|some a=>.nx a
|none=>.no
def y9 (i:Y)(p:W×Env):Fl:=.nx<|put p.2 i p.1
def mT (a:U Y)(p:W×Env):Fl:=nxO p.2<|(Ab p.1).bind λb=>bindT a b p.2
def uk (i:Y)(p:W×Env):Fl:=nxO p.2<|((rd p.2 i).bind λw=>jx w p.1).map λw=>put p.2 i w
def xU (i:Y)(p:W×Env):Fl:=nxO p.2<|((rd p.2 i).bind λw=>jt w p.1).map λw=>put p.2 i w
def Cw (i:Y)(x:W)(q:W×Env):Fl:=nxO q.2<|((rd q.2 i).bind λw=>gh w q.1 x).map λw=>put q.2 i w
def uR (i:Y)(x:W)(q:W×Env):Fl:=nxO q.2<|((rd q.2 i).bind λw=>HP w q.1 x).map λw=>put q.2 i w
def Ji (i:Y)(f:Env->RE)(a:Env)(p:W×Env):Fl:=Fl.of a (f p.2)<|uR i p.1
def oR (i:Y)(x:W)(q:W×Env):Fl:=nxO q.2<|((rd q.2 i).bind λw=>dG w q.1 x).map λw=>put q.2 i w
def qp (i:Y)(f:Env->RE)(a:Env)(p:W×Env):Fl:=Fl.of a (f p.2)<|oR i p.1
def Lb (i:Y)(f:Env->RE)(a:Env)(p:W×Env):Fl:=Fl.of a (f p.2)<|Cw i p.1
noncomputable def oG (f:Env->RE)(a:Env)(k:W×Env->Fl)(_:Unit):Fl:=Fl.of a (f a) k
def kNx (p:W×Env):Fl:=.nx p.2
def kRt (p:W×Env):Fl:=.rt p.1 p.2
def qt (a:U Y)(f:Env->Fl)(t:U (U W)×Env):Fl:=cT a f t.1 t.2
def xH (c:U Y)(k:Ik)(b:U Y)(f:Env->Fl)(a:Env)(p:U W×Env):Fl:=Fl.of a (ret (share c a)<|turns k p.1)<|qt b f
def outC (k:W->Env->Fl)(a:Env):Res (W×U W)->Fl
|.ok (w,[])=>k w a
|.ex t=>.ex t a
|_=>.no
def kC (f:Y)(k:W->Env->Fl)(p:U W×Env):Fl:=outC k p.2<|C f p.1
def kAsgC (i:Y)(w:W)(a:Env):Fl:=.nx<|put a i w
def IK (_:W)(a:Env):Fl:=.nx a
def nM (c:Y)(fld:Str)(a:Y)(p:W×Env):Fl:=if wD a p.1.1 p.1.2=L7 then .ex (.ins c [fld] [p.1.2]) p.2 else .no
def shW (w:W):Ta:=w.1==.s || w.2.leaf
def kRaiseN (c:Y)(fs:U Str)(p:U W×Env):Fl:=if(p.1.all shW&&decide (fs.length=p.1.length))=L7 then .ex (.ins c fs<|trees p.1) p.2 else .no
def lstT:W->I (U W)
|(m,.lst a)=>O<|a.map λt=>(m.kid,t)
|_=>J
def kAsgL (a:U Y)(p:W×Env):Fl:=nxO p.2<|(lstT p.1).bind λb=>bindT a b p.2
def Fl.drop (i:Y):Fl->Fl
|.nx a=>.nx<|del a i
|.rt w a=>.rt w<|del a i
|_=>.no
def Fl.caught (a:U Y)(i:Y)(h:Env->Fl):Fl->Fl
|.ex (.ins c fs b) d=>if a.contains c=L7 then Fl.drop i (h<|put d i (.s,.ins c fs b)) else .no
|.ex _ _=>.no
|z=>z
mutual
def evS:S->Env->Fl
|.asg x i e,η=>Fl.of η (evX C x e η)<|y9 i
|.asgT x is e,η=>Fl.of η (evX C x e η)<|mT is
|.setS x i k e,η=>Fl.of η (evX C x e η)<|qp i (evX C x k) η
|.app x i e,η=>Fl.of η (mQ<|rd η i)<|oG (evX C x e) η<|uk i
|.ext x i e,η=>Fl.of η (mQ<|rd η i)<|oG (evX C x e) η<|xU i
|.ret vs e,η=>Fl.of η (evE C e<|share vs η) kRt
|.ite x c a b,η=>Fl.of η (evT C x c η)<|kIf (evSs a)<|evSs b
|.forS vs ls k src tg body,η=>Fl.of η (evL C src<|pick vs ls η)<|xH vs k tg (evSs body) η
|.brk,η=>.bk η
|.pas,η=>.nx η
|.stop,_=>.no
|.asgC vs i f es,η=>Fl.of η (evL C es<|share vs η)<|kC C f<|kAsgC i
|.raise c fld fk x e,η=>Fl.of η (evX C x e η)<|nM c fld fk
|.raiseN c fs vs es,η=>Fl.of η (evL C es<|share vs η)<|kRaiseN c fs
|.asgL x is e,η=>Fl.of η (evX C x e η)<|kAsgL is
|.tryC cs body i h,η=>Fl.caught cs i (evSs h)<|evSs body η
def evSs:U S->Env->Fl
|[],η=>.nx η
|s::r,η=>Fl.seq (evS s η)<|evSs r
end
end
def backs:U Y->Env->I (U W)
|[],_=>O []
|i::b,a=>(rd a i).bind λw=>(backs b a).bind λc=>O (w::c)
def wo (w:W)(b:U W):Res (W×U W):=.ok (w,b)
def Fl.out (b:U Y):Fl->Res (W×U W)
|.nx a=>(ofO<|backs b a).bind<|wo (.d,.non)
|.rt w a=>(ofO<|backs b a).bind<|wo w
|.ex t _=>.ex t
|_=>.no
def runF (C:Call)(f:Fn)(a:U W):Res (W×U W):=
 if a.length=f.ps then Fl.out f.io (evSs C f.body<|a.map O++Mr f.ns J) else .no
abbrev Lj:=U Fn
def FK (n:Y):U W->Res (W×U W)
|[(m,t)]=>if(lf m t==.d&&(decide (dp t<=n)&&decide (dp t<=64)))=L7 then .ok ((.d,.non),[]) else .no
|_=>.no
def rowsT:U Y->U T->U T
|[],_=>[]
|n::b,a=>.lst (a.take n)::rowsT b (a.drop n)
noncomputable def natsOf:U T->I (U Y)
|[]=>O []
|.int (.ofNat n)::a=>(natsOf a).map (n::·)
|_::_=>J
def rowsW:U W->Res (W×U W)
|[(_,.lst a),(m,.lst c)]=>(ofO<|natsOf a).bind λb=>.ok ((m.kid.up.up,.lst<|rowsT b c),[])
|_=>.no
def callR (P:Lj)(s r:Y):Y->Call
|0=>λ_ _=>.no
|n+1=>λf a=>if f=s then FK n a else if f=r then rowsW a else(ofO P[f]?).bind λd=>runF (callR P s r n) d a
abbrev zf:Fn:={ps:=0,ns:=0,io:=[],body:=[.stop]}
theorem EE (C:Call)(i:Y)(a:Env):evE C (.var i) a=ret a ((rd a i).bind look):=rfl
theorem Dw (C:Call)(i:Y)(a:Env):evE C (.mv i) a=ret (del a i) (rd a i):=rfl
theorem GK (C:Call)(i:Y)(a:Env):evE C (.io i) a=ret (del a i) (rd a i):=rfl
theorem Dm (C:Call)(t:T)(a:Env):evE C (.cst t) a=.ok ((.d,t),a):=rfl
theorem C5 (C:Call)(a:U E)(b:Env):evE C (.tup a) b=(evL C a b).bind vm:=rfl
theorem D1 (C:Call)(h:Ta)(a:U E)(b:Env):evE C (.lst h a) b=(evL C a b).bind (Br h):=rfl
theorem Gh (C:Call)(o:Op)(h:Ta)(a:U E)(b:Env):evE C (.op o h a) b=(evL C a b).bind (kOp o h):=rfl
theorem Bb (C:Call)(a:E)(b:E)(c:Env):evE C (.and a b) c=(evE C a c).bind (vO<|evE C b):=rfl
theorem yk (C:Call)(a:E)(b:E)(c:Env):evE C (.or a b) c=(evE C a c).bind (kOr<|evE C b):=rfl
theorem Ay (C:Call)(a:E)(b:Env):evE C (.not a) b=(evE C a b).bind sW:=rfl
theorem yU (C:Call)(c:E)(a:E)(b:E)(d:Env):evE C (.ifx c a b) d=(evE C c d).bind (onT (evE C a)<|evE C b):=rfl
theorem yE (C:Call)(o:Op)(q:Op)(a:E)(b:E)(c:E)(d:Env):evE C (.chain o q a b c) d=(evE C a d).bind (kC1 o q (evE C b)<|evE C c):=rfl
theorem yW (C:Call)(f:Y)(a:U E)(b:Env):evE C (.call f a) b=(evA C a b).bind (iy C f<|ios a):=rfl
theorem zy (C:Call)(h:Ta)(k:Ik)(b:U E)(c:U Y)(a:E)(d:Env):evE C (.comp h k b c J a) d=(evL C b d).bind (fG h k c<|dW<|evE C a):=rfl
theorem yT (C:Call)(h:Ta)(k:Ik)(b:U E)(d:U Y)(c:E)(a:E)(e:Env):evE C (.comp h k b d (O c) a) e=(evL C b e).bind (fG h k d<|f7 (evE C c)<|evE C a):=rfl
theorem mM (C:Call)(tab:U<|Str×Y)(k:E)(a:U E)(b:Env):evE C (.callT tab k a) b=(evE C k b).bind (kTab tab<|kCT C (evA C a)<|ios a):=rfl
theorem rf (C:Call)(a:Ta)(b:U Str)(e:E)(c:Env):evE C (.inT a b e) c=(evE C e c).bind (kIn a b):=rfl
theorem ma (C:Call)(tab:U<|Str×Y)(k:E)(l:U E)(a:U E)(b:Env):evA C (.callT tab k l::a) b=(evE C (.callT tab k l) b).bind (bO<|evA C a):=rfl
theorem sr (C:Call)(a:Ta)(c:U Str)(e:E)(b:U E)(d:Env):evA C (.inT a c e::b) d=(evE C (.inT a c e) d).bind (bO<|evA C b):=rfl
theorem GL {b:Type}(tab:U<|Str×b)(f:b->Env->RE)(m:Md)(x:Str)(c:Env):kTab tab f ((m,.str x),c)=(match tab.lookup x with|some a=>f a c | none=>.no):=rfl
theorem E4 (h:Ta)(m n:Md)(a:U T)(i:Int):oSem .sl2 h [(m,.lst a),(n,.int i)]=newL h m.kid (cut a J<|O i):=rfl
theorem FC (h:Ta)(m n:Md)(a:U T)(i:Int):oSem .sl1 h [(m,.lst a),(n,.int i)]=newL h m.kid (cut a (O i) J):=rfl
theorem E3 (h:Ta)(m n:Md)(a:U T)(k:Int):oSem .mul h [(m,.lst a),(n,.int k)]=if decide (k.natAbs<4611686018427387904)&&fits (a.length * k.toNat) then newL h .s (Mr k.toNat a).flatten else none:=rfl
theorem Ij (h:Ta)(m:Md)(a:U T):oSem .any h [(m,.lst a)]=(boolsOf a).map λbs=>(.d,.bl<|bs.any id):=rfl
theorem Kk (h:Ta)(m n:Md)(i j:Int):oSem .min h [(m,.int i),(n,.int j)]=O (.d,.int<|if j<i then j else i):=rfl
theorem IM (h:Ta)(m n:Md)(i j:Int):oSem .max h [(m,.int i),(n,.int j)]=O (.d,.int<|if j>i then j else i):=rfl
theorem JC (h:Ta)(m n:Md)(i j:Int):oSem .rng h [(m,.int i),(n,.int j)]=if decide (i.natAbs<4611686018427387904)&&decide (j.natAbs<4611686018427387904)&&fits (j-i).toNat then O (.d,.lst<|(Mj (j-i).toNat).map λ(k:Y)=>T.int<|i+k) else none:=rfl
theorem Aa (m n:Md)(a b:U T):turns .zip [(m,.lst a),(n,.lst b)]=O (fm .s .s a b):=rfl
theorem zk (m n:Md)(a b:U T):turns .zip [(m,.tup a),(n,.tup b)]=O (fm .s .s a b):=rfl
theorem GB (m:Md)(a:U Int):turns .seq [(m,.scr a)]=O (a.map λn=>[(.d,.int n)]):=rfl
def lkM:Md->Md
|.s=>.s|_=>.d
theorem KL:lkM .s=.s:=rfl
theorem La:lkM .d=.d:=rfl
theorem K0 (m:Md):lkM (.o m)=.d:=rfl
theorem JP (m:Md)(i:Int):look (m,.int i)=O (lkM m,.int i):=by cases m<;>rfl
theorem II (m:Md)(b:Ta):look (m,.bl b)=O (lkM m,.bl b):=by cases m<;>rfl
theorem JS (m:Md)(x:Str):look (m,.str x)=O (lkM m,.str x):=by cases m<;>rfl
theorem Jh (m:Md):look (m,.non)=O (lkM m,.non):=by cases m<;>rfl
theorem Gu (m n k:Md)(a b c:U T):turns .zip3 [(m,.lst a),(n,.lst b),(k,.lst c)]=O (vL a b c):=rfl
theorem KS (a:Ta)(b:U Str)(m:Md)(x:Str)(c:Env):kIn a b ((m,.str x),c)=.ok ((.d,.bl<|b.contains x != a),c):=rfl
theorem GF (C:Call)(a:Env):evA C [] a=.ok ([],a):=rfl
theorem EW (C:Call)(i:Y)(a:U E)(b:Env):evA C (.io i::a) b=(evA C a b).bind (kIo i):=rfl
theorem rB (C:Call)(i:Y)(a:U E)(b:Env):evA C (.var i::a) b=(evE C (.var i) b).bind (bO<|evA C a):=rfl
theorem wK (C:Call)(i:Y)(a:U E)(b:Env):evA C (.mv i::a) b=(evE C (.mv i) b).bind (bO<|evA C a):=rfl
theorem sA (C:Call)(t:T)(a:U E)(b:Env):evA C (.cst t::a) b=(evE C (.cst t) b).bind (bO<|evA C a):=rfl
theorem rP (C:Call)(l:U E)(a:U E)(b:Env):evA C (.tup l::a) b=(evE C (.tup l) b).bind (bO<|evA C a):=rfl
theorem rk (C:Call)(h:Ta)(l:U E)(a:U E)(b:Env):evA C (.lst h l::a) b=(evE C (.lst h l) b).bind (bO<|evA C a):=rfl
theorem wF (C:Call)(o:Op)(h:Ta)(l:U E)(a:U E)(b:Env):evA C (.op o h l::a) b=(evE C (.op o h l) b).bind (bO<|evA C a):=rfl
theorem rQ (C:Call)(a b:E)(c:U E)(d:Env):evA C (.and a b::c) d=(evE C (.and a b) d).bind (bO<|evA C c):=rfl
theorem yd (C:Call)(a b:E)(c:U E)(d:Env):evA C (.or a b::c) d=(evE C (.or a b) d).bind (bO<|evA C c):=rfl
theorem sF (C:Call)(a:E)(b:U E)(c:Env):evA C (.not a::b) c=(evE C (.not a) c).bind (bO<|evA C b):=rfl
theorem qY (C:Call)(c a b:E)(d:U E)(e:Env):evA C (.ifx c a b::d) e=(evE C (.ifx c a b) e).bind (bO<|evA C d):=rfl
theorem mE (C:Call)(o p:Op)(a b c:E)(d:U E)(e:Env):evA C (.chain o p a b c::d) e=(evE C (.chain o p a b c) e).bind (bO<|evA C d):=rfl
theorem n8 (C:Call)(f:Y)(l:U E)(a:U E)(b:Env):evA C (.call f l::a) b=(evE C (.call f l) b).bind (bO<|evA C a):=rfl
theorem n9 (C:Call)(h:Ta)(k:Ik)(c:U E)(e:U Y)(a:I E)(b:E)(d:U E)(f:Env):evA C (.comp h k c e a b::d) f=(evE C (.comp h k c e a b) f).bind (bO<|evA C d):=rfl
theorem C8 {C:Call}{e:E}{a:U E}{b:Env}(c:∀i,e≠.io i):evA C (e::a) b=(evE C e b).bind (bO<|evA C a):=by
 cases e with
 |io i=>exact Tg rfl (c i)
 |_=>rfl
theorem ze (C:Call)(a:Env):evL C ([]) a=.ok ([],a):=rfl
theorem yw (C:Call)(e:E)(a:U E)(b:Env):evL C (e::a) b=(evE C e b).bind (bO<|evL C a):=rfl
theorem AK (C:Call)(x:X)(i:Y)(e:E)(a:Env):evS C (.asg x i e) a=Fl.of a (evX C x e a) (y9 i):=rfl
theorem AN (C:Call)(x:X)(b:U Y)(e:E)(a:Env):evS C (.asgT x b e) a=Fl.of a (evX C x e a) (mT b):=rfl
theorem yC (C:Call)(x:X)(i:Y)(e:E)(a:Env):evS C (.app x i e) a=Fl.of a (mQ<|rd a i) (oG (evX C x e) a<|uk i):=rfl
theorem Bz (C:Call)(x:X)(i:Y)(e:E)(a:Env):evS C (.ext x i e) a=Fl.of a (mQ<|rd a i) (oG (evX C x e) a<|xU i):=rfl
theorem zJ (C:Call)(b:U Y)(e:E)(a:Env):evS C (.ret b e) a=Fl.of a (evE C e<|share b a) kRt:=rfl
theorem zh (C:Call)(x:X)(c:E)(a:U S)(b:U S)(d:Env):evS C (.ite x c a b) d=Fl.of d (evT C x c d) (kIf (evSs C a)<|evSs C b):=rfl
theorem AY (C:Call)(d:U Y)(e:U Y)(k:Ik)(b:U E)(f:U Y)(a:U S)(c:Env):evS C (.forS d e k b f a) c=Fl.of c (evL C b<|pick d e c) (xH d k f (evSs C a) c):=rfl
theorem Bi (C:Call)(a:Env):evS C (.brk) a=.bk a:=rfl
theorem ym (C:Call)(a:Env):evS C (.pas) a=.nx a:=rfl
theorem wV (C:Call)(a:Env):evSs C ([]) a=.nx a:=rfl
theorem mK (C:Call)(s:S)(r:U S)(a:Env):evSs C (s::r) a=Fl.seq (evS C s a) (evSs C r):=rfl
theorem zN (C:Call)(a:U Y)(c:U Y)(e:E)(b:Env):evX C (.q a c) e b=(evE C e<|pick a c b).bind (kX a b):=rfl
theorem Bx (C:Call)(a:U Y)(e:E)(b:Env):evX C (.l a) e b=evE C e (share a b):=rfl
theorem Bl (C:Call)(c:U Y)(b:U Y)(e:E)(a:Env):evT C (.q c b) e a=(evE C e<|pick c b a).bind (kT a):=rfl
theorem zL (C:Call)(a:U Y)(e:E)(b:Env):evT C (.l a) e b=(evE C e<|share a b).bind kT2:=rfl
theorem Di {b c:Type}(a:b)(f:b->Res c):(Res.ok a).bind f=f a:=rfl
theorem LN {b:Type}(c:Env)(a:b)(f:b->Fl):Fl.of c (.ok a) f=f a:=rfl
theorem D4 (a:Env)(f:Env->Fl):Fl.seq (.nx a) f=f a:=rfl
theorem FU (w:W)(a:Env)(f:Env->Fl):Fl.seq (.rt w a) f=.rt w a:=rfl
theorem E8 (a:Env)(f:Env->Fl):Fl.seq (.bk a) f=.bk a:=rfl
theorem AI (a:Env)(f:Env->Fl):Fl.turn (.nx a) f=f a:=rfl
theorem AM (w:W)(a:Env)(f:Env->Fl):Fl.turn (.rt w a) f=.rt w a:=rfl
theorem Bu (a:Env)(f:Env->Fl):Fl.turn (.bk a) f=.nx a:=rfl
theorem GH {b:Type}(f g:Env->Res b)(a:Env):onB (.bl L7) f g a=f a:=rfl
theorem Gg {b:Type}(f g:Env->Res b)(a:Env):onB (.bl L5) f g a=g a:=rfl
theorem GX {c:Type}(f g:Env->Res c)(m:Md)(b:Ta)(a:Env):onT f g ((m,.bl b),a)=onB (.bl b) f g a:=by cases b<;>rfl
theorem Fo {b:Type}(f g:Env->Res b)(m:Md)(a:Env):onT f g ((m,.bl L7),a)=f a:=rfl
theorem DY {b:Type}(f g:Env->Res b)(m:Md)(a:Env):onT f g ((m,.bl L5),a)=g a:=rfl
theorem FH (f g:Env->Fl)(a:Env):onF L7 f g a=f a:=rfl
theorem ED (f g:Env->Fl)(a:Env):onF L5 f g a=g a:=rfl
theorem Jv {b:Type}(a:b):ofO (O a)=.ok a:=rfl
theorem Js {c:Type}(b:Env)(a:c):ret b (O a)=.ok (a,b):=rfl
theorem IY (o:I W)(a:Env):rd (o::a) 0=o:=rfl
theorem H8 (o:I W)(a:Env)(i:Y):rd (o::a) (i+1)=rd a i:=rfl
theorem JN (o w:I W)(a:Env):wr (o::a) 0 w=w::a:=rfl
theorem Jf (o w:I W)(a:Env)(i:Y):wr (o::a) (i+1) w=o::wr a i w:=rfl
theorem By (t:T):look (.s,t)=O (.s,t):=rfl
theorem aa (t:T):look (.d,t)=if t.leaf=L7 then O (.d,t) else none:=rfl
theorem As (m:Md)(i:Int):(look (.d,.int i))=O (.d,.int i):=rfl
theorem zE (m:Md)(b:Ta):(look (.d,.bl b))=O (.d,.bl b):=rfl
theorem zu (x:Str):(look (.d,.str x))=O (.d,.str x):=rfl
theorem Bo:(look (.d,.non))=O (.d,.non):=rfl
theorem Jj (m:Md)(t:T):toS (O (m,t))=O (.s,t):=rfl
theorem Eu:toS J=none:=rfl
theorem xn (a:Env):share [] a=a:=rfl
theorem wR (i:Y)(b:U Y)(a:Env):share (i::b) a=share b (wr a i<|toS<|rd a i):=rfl
theorem va:ja []=[]:=rfl
theorem vH (o:I W)(a:Env):ja (o::a)=none::ja a:=rfl
theorem DI (c b:U Y)(a:Env):pick c b a=iz b a (pe c a<|ja a):=rfl
theorem zO (a b:Env):pe [] a b=b:=rfl
theorem Bm (i:Y)(b:U Y)(a c:Env):pe (i::b) a c=pe b a (wr c i<|toS<|rd a i):=rfl
theorem vp (a b:Env):iz [] a b=b:=rfl
theorem vY (i:Y)(b:U Y)(a c:Env):iz (i::b) a c=iz b a (wr c i<|lfO<|rd a i):=rfl
theorem J5 (m:Md)(i:Int):lfO (O (m,.int i))=O (.d,.int i):=rfl
theorem Kj (m:Md)(b:Ta):lfO (O (m,.bl b))=O (.d,.bl b):=rfl
theorem Ja (m:Md)(x:Str):lfO (O (m,.str x))=O (.d,.str x):=rfl
theorem HV (m:Md):lfO (O (m,.non))=O (.d,.non):=rfl
theorem vt (b:U Y)(a:Env):after .d b a=a:=rfl
theorem wg (a:U Y)(b:Env):after .s a b=share a b:=rfl
theorem uI (m:Md)(a:U Y)(b:Env):after (.o m) a b=share a b:=rfl
theorem DE (m:Md)(i:Int):lf m (.int i)=.d:=rfl
theorem El (m:Md)(b:Ta):lf m (.bl b)=.d:=rfl
theorem Ff (m:Md)(x:Str):lf m (.str x)=.d:=rfl
theorem GS (m:Md):lf m .non=.d:=rfl
theorem Ex (m:Md)(a:U T):lf m (.lst a)=m:=rfl
theorem Gx (m:Md)(a:U T):lf m (.tup a)=m:=rfl
theorem Dq (t:T):lf .d t=.d:=by unfold lf;split<;>rfl
theorem Hu (m:Md):Md.s.le m=true:=by cases m<;>rfl
theorem yR:Md.d.le .d=true:=rfl
theorem Bn (m:Md):(Md.o m).le .d=true:=rfl
theorem Bq (m n:Md):(Md.o m).le (.o n)=m.le n:=rfl
theorem G8 (h:Ta)(m n:Md)(i j:Int):oSem .add h [(m,.int i),(n,.int j)]=O (.d,.int<|i+j):=rfl
theorem wH (h:Ta)(m n:Md)(a b:U T):oSem .add h [(m,.lst a),(n,.lst b)]=if fits (a.length+b.length) then newL h (m.kid.meet n.kid) (a++b) else none:=rfl
theorem u6 (h:Ta)(m n:Md)(x y:Str):oSem .add h [(m,.str x),(n,.str y)]=if fits (x.cps.size+y.cps.size) then O (.d,.str<|x++y) else none:=rfl
theorem ui (h:Ta)(m n:Md)(a b:U T):oSem .add h [(m,.tup a),(n,.tup b)]=if fits (a.length+b.length)&&!a.isEmpty then O (.s,.tup<|a++b) else none:=rfl
theorem JM (h:Ta)(m n:Md)(i j:Int):oSem .sub h [(m,.int i),(n,.int j)]=O (.d,.int<|i-j):=rfl
theorem xM (h:Ta)(m n:Md)(i j:Int):oSem .mul h [(m,.int i),(n,.int j)]=if(decide (i.natAbs<18446744073709551616)) || (decide (j.natAbs<18446744073709551616)) then O (.d,.int<|i * j) else none:=rfl
theorem ug (h:Ta)(m n:Md)(i j:Int):oSem .fdiv h [(m,.int i),(n,.int j)]=if decide (0<j)&&decide (j<1073741824) then O (.d,.int<|i / j) else none:=rfl
theorem BL (h:Ta)(m n:Md)(i j:Int):oSem .mod h [(m,.int i),(n,.int j)]=if decide (0<j) then O (.d,.int<|i % j) else none:=rfl
theorem JE (h:Ta)(m n:Md)(i j:Int):oSem .pow h [(m,.int i),(n,.int j)]=if decide (0<=j)&&decide (j<=1000000)&&decide (i.natAbs<18446744073709551616) then O (.d,.int<|i ^ j.toNat) else none:=rfl
theorem JR (h:Ta)(m:Md)(i:Int):oSem .neg h [(m,.int i)]=O (.d,.int (-i)):=rfl
theorem FY (h:Ta)(m n:Md)(i j:Int):oSem .eq h [(m,.int i),(n,.int j)]=O (.d,.bl<|i==j):=rfl
theorem F6 (h:Ta)(m n:Md)(x y:Str):oSem .eq h [(m,.str x),(n,.str y)]=O (.d,.bl<|x==y):=rfl
theorem EU (h:Ta)(m n:Md)(a b:Ta):oSem .eq h [(m,.bl a),(n,.bl b)]=O (.d,.bl<|a==b):=rfl
theorem Gw (h:Ta)(m n:Md)(i j:Int):oSem .ne h [(m,.int i),(n,.int j)]=O (.d,.bl<|!(i==j)):=rfl
theorem GU (h:Ta)(m n:Md)(x y:Str):oSem .ne h [(m,.str x),(n,.str y)]=O (.d,.bl<|!(x==y)):=rfl
theorem GY (h:Ta)(m n:Md)(a b:Ta):oSem .ne h [(m,.bl a),(n,.bl b)]=O (.d,.bl<|!(a==b)):=rfl
theorem Lc (h:Ta)(m n:Md)(i j:Int):oSem .lt h [(m,.int i),(n,.int j)]=O (.d,.bl<|decide (i<j)):=rfl
theorem LW (h:Ta)(m n:Md)(i j:Int):oSem .le h [(m,.int i),(n,.int j)]=O (.d,.bl<|decide (i<=j)):=rfl
theorem Lo (h:Ta)(m n:Md)(i j:Int):oSem .gt h [(m,.int i),(n,.int j)]=O (.d,.bl<|decide (j<i)):=rfl
theorem LH (h:Ta)(m n:Md)(i j:Int):oSem .ge h [(m,.int i),(n,.int j)]=O (.d,.bl<|decide (j<=i)):=rfl
theorem Lk (h:Ta)(m n:Md)(a:T):oSem .is h [(m,a),(n,.non)]=if a.isG then J else O (.d,.bl a.isN):=rfl
theorem yp (h:Ta)(m n:Md)(a:T):oSem .isnot h [(m,a),(n,.non)]=if a.isG then J else O (.d,.bl<|!a.isN):=rfl
theorem JF (h:Ta)(m n:Md)(a:U T)(i:Int):oSem .ix h [(m,.lst a),(n,.int i)]=(atI a i).map λt=>(m.kid,t):=rfl
theorem HJ (h:Ta)(m n:Md)(a:U T)(i:Int):oSem .ix h [(m,.tup a),(n,.int i)]=(atI a i).map λt=>(m.kid,t):=rfl
theorem CV (h:Ta)(m:Md)(a:U T):oSem .len h [(m,.lst a)]=O (.d,.int a.length):=rfl
theorem Eo (h:Ta)(m:Md)(a:U T):oSem .len h [(m,.tup a)]=O (.d,.int a.length):=rfl
theorem DB (h:Ta)(m:Md)(a:U Int):oSem .len h [(m,.scr a)]=O (.d,.int a.length):=rfl
theorem I0 (h:Ta)(m n:Md)(a:U Int)(i:Int):oSem .ix h [(m,.scr a),(n,.int i)]=(atI a i).map λn=>(.d,.int n):=rfl
theorem Il (h:Ta)(m n:Md)(a:U Int)(i:Int):oSem .sl2 h [(m,.scr a),(n,.int i)]=O (.d,.lst<|(cut a J<|O i).map T.int):=rfl
theorem Ds (m:Md)(a:U Int):lf m (.scr a)=.d:=rfl
theorem JJ (m:Md)(a:U Int):lfO (O (m,.scr a))=O (.d,.scr a):=rfl
theorem zi (a:U Int):look (.d,.scr a)=O (.d,.scr a):=rfl
theorem Fe (h:Ta)(m:Md)(x:Str):oSem .len h [(m,.str x)]=O (.d,.int x.cps.size):=rfl
theorem KN (c:Y)(fld:Str)(a:Y)(h:Ta)(m:Md)(t:T):oSem (.mk c fld a) h [(m,t)]=if wD a m t=L7 then O (.s,.ins c [fld] [t]) else none:=rfl
theorem J7 (fld:Str)(h:Ta)(m:Md)(c:Y)(fs:U Str)(a:U T):oSem (.att fld) h [(m,.ins c fs a)]=(lookF fld fs a).map λt=>(lfM t,t):=rfl
theorem Iv (b:U Tu)(h:Ta)(m:Md)(a:T):oSem (.isI b) h [(m,a)]=if a.isH then J else O (.d,.bl<|b.any λc=>isOne c a):=rfl
theorem Im (c:Y)(fs:U Str)(a:U T):T.isG (.ins c fs a)=false:=rfl
theorem HG (c:Y)(fs:U Str)(a:U T):T.isN (.ins c fs a)=false:=rfl
theorem JW:T.isH .non=false:=rfl
theorem KP (b:Ta):T.isH (.bl b)=false:=rfl
theorem Jk (i:Int):T.isH (.int i)=false:=rfl
theorem HU (x:Str):T.isH (.str x)=false:=rfl
theorem JV (a:U T):T.isH (.tup a)=false:=rfl
theorem Ii (a:U T):T.isH (.lst a)=false:=rfl
theorem HH (a:U Int):T.isH (.scr a)=false:=rfl
theorem IH:T.isG .non=false:=rfl
theorem Lv (b:Ta):T.isG (.bl b)=false:=rfl
theorem J6 (i:Int):T.isG (.int i)=false:=rfl
theorem HL (x:Str):T.isG (.str x)=false:=rfl
theorem Iu (a:U T):T.isG (.tup a)=false:=rfl
theorem IP (a:U T):T.isG (.lst a)=false:=rfl
theorem Jw (a:U<|Int ⊕ Str)(b:U T):T.isG (.dct a b)=false:=rfl
theorem HD (a:U<|Int ⊕ Str)(b:U T):T.isN (.dct a b)=false:=rfl
theorem Jb (a:U Int):T.isG (.scr a)=false:=rfl
theorem Jg:T.isN .non=true:=rfl
theorem LK (b:Ta):T.isN (.bl b)=false:=rfl
theorem Jm (i:Int):T.isN (.int i)=false:=rfl
theorem Ih (x:Str):T.isN (.str x)=false:=rfl
theorem H9 (a:U T):T.isN (.tup a)=false:=rfl
theorem Ib (a:U T):T.isN (.lst a)=false:=rfl
theorem yt (h:Ta)(m:Md)(a:U T):oSem .list h [(m,.lst a)]=newL h m.kid a:=rfl
theorem zT (h:Ta)(m:Md)(a:U T):oSem .list h [(m,.tup a)]=newL h m.kid a:=rfl
theorem De (h:Ta)(m n:Md)(a:T)(b:U T):oSem .isin h [(m,a),(n,.tup b)]=if flatT a&&b.all flatT then O (.d,.bl<|b.any λt=>eqT t a) else none:=rfl
theorem yP (h:Ta)(m n:Md)(a:T)(b:U T):oSem .isin h [(m,a),(n,.lst b)]=if flatT a&&b.all flatT then O (.d,.bl<|b.any λt=>eqT t a) else none:=rfl
theorem Ag (h:Ta)(m:Md)(x:Str):oSem .lower h [(m,.str x)]=if x.cps.toList.all (λc=>decide (c<128)) then O (.d,.str ⟨x.cps.map Hz⟩) else none:=rfl
theorem Fv (h:Ta)(m n:Md)(a b:U T):oSem .catT h [(m,.tup a),(n,.tup b)]=if fits (a.length+b.length) then O (.s,.tup<|a++b) else none:=rfl
theorem Ic (h:Ta)(n:Md)(a:U<|Int ⊕ Str)(b:U T)(k:T):oSem .ixD h [(.s,.dct a b),(n,k)]=(keyT k).bind λq=>(lookD q a b).map λt=>(.s,t):=rfl
theorem oW (C:Call)(x:X)(i:Y)(k e:E)(a:Env):evS C (.setS x i k e) a=Fl.of a (evX C x e a) (qp i (evX C x k) a):=rfl
theorem Gk (h:Ta):oSem .dnew h []=O (.d,.dct [] []):=rfl
theorem Dt (m:Md)(a:U T):turns .enmT [(m,.tup a)]=O (eV .s 0 a):=rfl
theorem D5 (h:Ta)(m:Md)(b:Ta):oSem .int h [(m,.bl b)]=O (.d,.int<|b2i b):=rfl
theorem GJ (h:Ta)(m:Md)(i:Int):oSem .int h [(m,.int i)]=O (.d,.int i):=rfl
theorem Ka (h:Ta)(m:Md)(i:Int):oSem .abs h [(m,.int i)]=O (.d,.int i.natAbs):=rfl
theorem CT (h:Ta)(m:Md)(b:U T):oSem .max1 h [(m,.lst b)]=(intsOf b).bind λa=>if a.isEmpty then J else O (.d,.int<|maxI a):=rfl
theorem uc (h:Ta)(m:Md)(b:U T):oSem .sorted h [(m,.lst b)]=(intsOf b).bind λa=>if decide (a.length<64) then O (.d,.lst<|(sortI a).map T.int) else none:=rfl
theorem nX (C:Call)(c:U Y)(i f:Y)(b:U E)(a:Env):evS C (.asgC c i f b) a=Fl.of a (evL C b<|share c a) (kC C f<|kAsgC i):=rfl
theorem m5 (C:Call)(c:Y)(fld:Str)(b:Y)(x:X)(e:E)(a:Env):evS C (.raise c fld b x e) a=Fl.of a (evX C x e a) (nM c fld b):=rfl
theorem nJ (C:Call)(b:U Y)(a:U S)(i:Y)(h:U S)(c:Env):evS C (.tryC b a i h) c=Fl.caught b i (evSs C h) (evSs C a c):=rfl
theorem LY (C:Call)(f:Y)(k:W->Env->Fl)(a:U W)(b:Env):kC C f k (a,b)=outC k b (C f a):=rfl
theorem CU (k:W->Env->Fl)(a:Env)(w:W):outC k a (.ok (w,[]))=k w a:=rfl
theorem DQ (k:W->Env->Fl)(a:Env)(t:T):outC k a (.ex t)=.ex t a:=rfl
theorem y8 (i:Y)(w:W)(a:Env):kAsgC i w a=.nx (put a i w):=rfl
theorem Bt (w:W)(a:Env):IK w a=.nx a:=rfl
theorem kE (C:Call)(c:Y)(fs:U Str)(d:U Y)(b:U E)(a:Env):evS C (.raiseN c fs d b) a=Fl.of a (evL C b<|share d a) (kRaiseN c fs):=rfl
theorem sJ (c:Y)(fs:U Str)(p:U W×Env):kRaiseN c fs p=if(p.1.all shW&&decide (fs.length=p.1.length))=L7 then .ex (.ins c fs<|trees p.1) p.2 else .no:=rfl
theorem nV (C:Call)(x:X)(b:U Y)(e:E)(a:Env):evS C (.asgL x b e) a=Fl.of a (evX C x e a) (kAsgL b):=rfl
theorem Em (m:Md)(a:U T):lstT (m,.lst a)=O (a.map λt=>(m.kid,t)):=rfl
theorem sQ (h:Ta)(m:Md)(b:U T):oSem .sortedL h [(m,.lst b)]=(intsOf b).bind λa=>if decide (a.length<64)=L7 then O (.d,.lst<|(sortI a).map T.int) else if lngOk a=L7 then O (.d,.lst<|(cntI a).map T.int) else none:=rfl
theorem Hb (h:Ta)(m n:Md)(i j:Int):oSem .ltB h [(m,.int i),(n,.int j)]=O (.d,.bl<|decide (i<j)):=rfl
theorem FV (h:Ta)(m n:Md)(a b:Ta):oSem .ltB h [(m,.bl a),(n,.bl b)]=O (.d,.bl<|decide (b2i a<b2i b)):=rfl
theorem FF (h:Ta)(m n:Md)(b:U T)(x:Str):oSem .idxL h [(m,.lst b),(n,.str x)]=(strsOf b).bind λa=>if(a.contains x&&decide (a.length<1000))=L7 then O (.d,.int<|a.idxOf x) else none:=rfl
theorem xJ (c:Y)(fld:Str)(m:Md)(n:Int)(a:Env):nM c fld 0 ((m,.int n),a)=if decide (n.natAbs.log2<1920)=L7 then .ex (.ins c [fld] [.int n]) a else .no:=rfl
theorem xr (a:U Y)(i:Y)(h:Env->Fl)(c:Y)(fs:U Str)(b:U T)(d:Env):Fl.caught a i h (.ex (.ins c fs b) d)=if a.contains c=L7 then Fl.drop i (h<|put d i (.s,.ins c fs b)) else .no:=rfl
theorem tM (b:U Y)(i:Y)(h:Env->Fl)(a:Env):Fl.caught b i h (.nx a)=.nx a:=rfl
theorem tq (b:U Y)(i:Y)(h:Env->Fl)(w:W)(a:Env):Fl.caught b i h (.rt w a)=.rt w a:=rfl
theorem Dj (i:Y)(a:Env):Fl.drop i (.nx a)=.nx (del a i):=rfl
theorem AD (i:Y)(w:W)(a:Env):Fl.drop i (.rt w a)=.rt w (del a i):=rfl
theorem C6 (fld:Str)(h:Ta)(m:Md)(c:Y)(fs:U Str)(a:U T):oSem (.attP fld) h [(m,.obj c fs a)]=(lookF fld fs a).map λt=>(lfM t,t):=rfl
theorem IT (c:Y)(fs:U Str)(a:U Int)(h:Ta)(b:U W):oSem (.mkP c fs a) h b=if decide (fs.length=b.length+a.length)=L7 then O (.o .s,.obj c fs<|(b.map λw=>w.2)++a.map T.int) else none:=by rfl
theorem AQ (h:Ta)(m n:Md)(i j:Int):oSem .fdivN h [(m,.int i),(n,.int j)]=if(j != 0)&&decide (j.natAbs<18446744073709551616) then O (.d,.int<|i.fdiv j) else none:=rfl
theorem vU (h:Ta)(m n:Md)(i j:Int):oSem .modN h [(m,.int i),(n,.int j)]=if j != 0 then O (.d,.int<|i.fmod j) else none:=rfl
theorem Fb (h:Ta)(m:Md)(a:U T):oSem .tuple h [(m,.lst a)]=O (m.kid.up,.tup a):=rfl
theorem FZ (h:Ta)(m n k:Md)(a:U T)(i j:Int):oSem .sl3 h [(m,.lst a),(n,.int i),(k,.int j)]=newL h m.kid (cut a (O i)<|O j):=rfl
theorem Ki (h:Ta)(m:Md)(a:U T):oSem .sum h [(m,.lst a)]=(intsOf a).map λb=>(.d,.int b.sum):=rfl
theorem JH (h:Ta)(m:Md)(a:U T):oSem .all h [(m,.lst a)]=(boolsOf a).map λbs=>(.d,.bl<|bs.all id):=rfl
theorem Fi (m:Md)(a:U T):newL L7 m a=if leaves a then O (.d,.lst a) else none:=rfl
theorem GC (m:Md)(a:U T):newL L5 m a=O (m.up,.lst a):=rfl
theorem EC (m:Md)(a:U T):turns .seq [(m,.lst a)]=O (a.map λt=>[(.s,t)]):=rfl
theorem GZ (m:Md)(a:U T):turns .seq [(m,.tup a)]=O (a.map λt=>[(.s,t)]):=rfl
theorem En (m n o:Md)(i j c:Int):turns .rng [(m,.int i),(n,.int j),(o,.int c)]=if decide (i.natAbs<4611686018427387904)&&decide (j.natAbs<4611686018427387904)&&decide (c=-1)&&fits (i-j).toNat then O ((Mj (i-j).toNat).map λ(k:Y)=>[(.d,.int<|i-k)]) else none:=rfl
theorem vD (m:Md)(n:Int):turns .rng [(m,.int n)]=if decide (n.natAbs<4611686018427387904)&&fits n.toNat then O ((Mj n.toNat).map λ(k:Y)=>[(.d,.int k)]) else none:=rfl
theorem vg (a:Env):bindT [] [] a=O a:=rfl
theorem v8 (i:Y)(a:U Y)(w:W)(b:U W)(c:Env):bindT (i::a) (w::b) c=bindT a b (put c i w):=rfl
theorem Ie {b c:Type}(f:b->c)(a:b):(O a).map f=O (f a):=rfl
theorem xh (b:Ta):truth (.bl b)=O b:=rfl
theorem ux (i:Int):truth (.int i)=O (i != 0):=rfl
theorem AZ {b c:Type}(a:b)(f:b->I c):(O a).bind f=f a:=rfl
theorem yY:Md.s.kid=.s:=rfl
theorem yx:Md.d.kid=.d:=rfl
theorem Au (m:Md):(Md.o m).kid=m:=rfl
theorem Gf:Md.s.up=.o .s:=rfl
theorem DV:Md.d.up=.d:=rfl
theorem FO (m:Md):(Md.o m).up=.o (.o m):=rfl
theorem vN (m:Md):Md.s.meet m=.s:=by cases m<;>rfl
theorem fE (m:Md):Md.d.meet m=m:=by cases m<;>rfl
theorem rK (m:Md):(Md.o m).meet .s=.s:=rfl
theorem rm (m:Md):(Md.o m).meet .d=.o m:=rfl
theorem rL (m n:Md):(Md.o m).meet (.o n)=.o (m.meet n):=rfl
theorem D9 (n:Md)(a:U T)(t:T):jx (.d,.lst a) (n,t)=if a.length<LIM then O ((lf n t).up,.lst<|a++[t]) else none:=by show(if _ then O ((Md.d.meet _).up,_) else J)=_;rw[fE]
theorem Ft (m n:Md)(a:U T)(t:T):jx (.o m,.lst a) (n,t)=if a.length<LIM then O ((m.meet<|lf n t).up,.lst<|a++[t]) else none:=rfl
theorem E9 (n:Md)(a b:U T):jt (.d,.lst a) (n,.lst b)=if a.length+b.length<=LIM then O (n.kid.up,.lst<|a++b) else none:=by show(if _ then O ((Md.d.meet _).up,_) else J)=_;rw[fE]
theorem oF (m n:Md)(a b:U T):jt (.o m,.lst a) (n,.lst b)=if a.length+b.length<=LIM then O ((m.meet n.kid).up,.lst<|a++b) else none:=rfl
theorem DZ (l n:Md)(a:U T)(t:T)(j:Int):gh (.d,.lst a) (l,.int j) (n,t)=(ixN a.length j).map λk=>((lf n t).up,.lst<|a.set k t):=by show((ixN a.length j).map λk=>((Md.d.meet _).up,_))=_;rw[fE]
theorem F4 (m l n:Md)(a:U T)(t:T)(j:Int):gh (.o m,.lst a) (l,.int j) (n,t)=(ixN a.length j).map λk=>((m.meet<|lf n t).up,.lst<|a.set k t):=rfl
theorem FP (m:Md)(a:U T):mQ (O (m,.lst a))=.ok ():=rfl
theorem Hg (m:Md)(a:U T):Ab (m,.tup a)=O (a.map λt=>(m.kid,t)):=rfl
theorem JB (b a:Env):nxO b (O a)=.nx a:=rfl
theorem xj (a:Env):backs [] a=O []:=rfl
theorem t9 (i:Y)(b:U Y)(a:Env):backs (i::b) a=(rd a i).bind λw=>(backs b a).bind λc=>O (w::c):=rfl
theorem DA (a:U Y)(b:Env):Fl.out a (.nx b)=(ofO<|backs a b).bind (wo (.d,.non)):=rfl
theorem Hj (a:U Y)(w:W)(b:Env):Fl.out a (.rt w b)=(ofO<|backs a b).bind (wo w):=rfl
theorem x_run (C:Call)(f:Fn)(a:U W)(h:a.length=f.ps):runF C f a=Fl.out f.io (evSs C f.body<|a.map O++Mr f.ns J):=Tf h
theorem at0 {b:Type}(a:b)(l:U b):atI (a::l) 0=O a:=by simp[atI,ixN]
theorem atN {c:Type}{b:U c}{i:Int}{n:Y}{a:c}(d:i=n)(h:b[n]?=O a):atI b i=O a:=by subst d;have:=(Na.mp h).1;rw[atI,ixN,Tf<|by lia,Tf<|by lia];exact h
theorem at1 {c:Type}(a b:c)(l:U c):atI (a::b::l) 1=O b:=atN (n:=1) rfl rfl
theorem at2 {d:Type}(a b c:d)(l:U d):atI (a::b::c::l) 2=O c:=atN (n:=2) rfl rfl
theorem at3 {e:Type}(a b c d:e)(l:U e):atI (a::b::c::d::l) 3=O d:=atN (n:=3) rfl rfl
theorem at4 {f:Type}(a b c d e:f)(l:U f):atI (a::b::c::d::e::l) 4=O e:=atN (n:=4) rfl rfl
theorem bG {j:Type}{d:U Y}{f:Env->Res (I W×Env)}{i:Env}{g:j->U W}(w:j->W):∀(e:U j) (a:U W),(∀x∈e,∃b c,bindT d (g x) i=O b/\f b=.ok (O<|w x,c)/\au d c=i) ->
 aG d f (e.map g) i a=.ok (a++e.map w,i)
|[],a,_=>by rw[Oz,Oz,MV];rfl
|x::e,a,h=>by obtain⟨b,c,k,l,m⟩:=h x ML;rw[ME,ME];show(ofO<|bindT d (g x) i).bind _=_;rw[k];show(f b).bind _=_;rw[l];show aG d f (e.map g) (au d c) (a++[w x])=_;rw[m,bG w e _ λy n=>h y<|MG _ n,N0];rfl
theorem qH {i:Type}{d:U Y}{f:Env->Fl}{g:i->U W}(b:U i->Env):∀(c pre:U i),(∀p x r,pre++c=p++x::r->∃a,bindT d (g x) (b p)=O a/\f a=.nx (b<|p++[x])) ->
 cT d f (c.map g) (b pre)=.nx (b<|pre++c)
|[],pre,_=>by rw[MV];rfl
|x::c,pre,h=>by obtain⟨a,j,k⟩:=h pre x c rfl;rw[ME];show Fl.of _ (ofO<|bindT d (g x)<|b pre) _=_;rw[j];show Fl.turn (f a) _=_;rw[k];show cT d f (c.map g) (b<|pre++[x])=_;rw[qH b c (pre++[x]) λp y r e=>h p y r<|by rw[<- e,N0];rfl,N0];rfl
end M

namespace MR
open L2 L3 M
open PySem (Addr Str sizeLine)
abbrev Fp:=S9->Prop
def ScrR (K:L9)(H:Hp)(a:S9)(b:U Int):Prop:=(∃o,H a=O (.frz o<|.lst<|b.map V.int))\/SqL K (λ_=>J) a (b.map V.int)
theorem ScrR.sq {K:L9}{H:Hp}{a:S9}{b:U Int}(h:ScrR K H a b):SqL K H a (b.map V.int):=by
 rcases h with⟨o,h⟩|((h|⟨o,h⟩)|h)
 .exact .inl (.inr ⟨o,h⟩)
 .cases h
 .cases h
 .exact .inr h
theorem ScrR.keep {K:L9}{H H':Hp}{a:S9}{b:U Int}(s:∀a o u,H a=O (.frz o u)->H' a=O (.frz o u))(h:ScrR K H a b):ScrR K H' a b:=h.imp (λ⟨o,e⟩=>⟨o,s a o _ e⟩) id
def LstR (K:L9)(Z:Fp)(H:Hp)(G:Fp)(a:S9)(b:U V):Md->Prop
|.s=>Z a/\H a=O (.lst b)
|_=>G a/\H a=O (.lst b)
def mkD (a:U<|Int ⊕ Str)(b:U V):U (Key×V):=a.zip b
def DctR (Z:Fp)(H:Hp)(G:Fp)(a:S9)(o:HO):Md->Prop
|.s=>Z a/\H a=O o
|_=>G a/\H a=O o
def InsR (Z:Fp)(H:Hp)(G:Fp)(a b:S9)(o:HO):Md->Prop
|.s=>Z a/\Z b/\H a=O o/\H b=O (.own a)
|_=>G a/\G b/\H a=O o/\H b=O (.own a)
def sH (K:L9)(c:Y)(fs:U Str):Prop:=Cls K c/\∀f∈fs,NoAttr K c f
def dmd:Md->Md
|.d=>.d
|_=>.s
mutual
def Rep (K:L9)(Z:Fp)(H:Hp):Md->T->V->Fp->Prop
|_,.non,v,_=>v=.non
|_,.bl b,v,_=>v=.bl b
|_,.int i,v,_=>v=.int i
|_,.str x,v,_=>v=.str x/\sOk x=L7
|m,.tup ts,v,G=>∃a xs,v=.ref a/\SqT K H a xs/\xs.length<=LIM/\RepL K Z H m.kid ts xs G
|m,.lst ts,v,G=>∃a xs,v=.ref a/\xs.length<=LIM/\LstR K Z H G a xs m/\RepL K Z H m.kid ts xs (λb=>G b/\b≠a)
|m,.dct ks vs,v,G=>∃a xs,v=.ref a/\ks.length<=LIM/\DctR Z H G a (.dK<|mkD ks xs) m/\(ks.Nodup/\∀k∈ks,kOk k=L7)/\vs.length=ks.length/\RepL K Z H (dmd m) vs xs (λ_=>Tw)
|m,.dtt ks vs,v,_=>m≠.d/\∃a ys xs,v=.ref a/\Z a/\H a=O (DTO a ks ys xs)/\ks.Nodup/\ks.length<=LIM/\vs.length=ks.length/\KeyR K H ks ys/\RepL K Z H .s vs xs (λ_=>Tw)
|m,.ins c fs vs,v,_=>m≠.d/\∃a dx C xs,v=.ref a/\Z a/\Z dx/\H a=O (XO a C (O dx) L5)/\H dx=O (.xd<|fs.zip xs)/\fs.length=vs.length/\XNm K c C/\RepL K Z H .s vs xs (λ_=>Tw)
|m,.obj c fs vs,v,G=>m≠.d/\∃a dx xs,v=.ref a/\InsR Z H G a dx (.ins c dx<|fs.zip xs) m/\sH K c fs/\fs.length=vs.length/\RepL K Z H .s vs xs (λ_=>Tw)
|_,.gone,_,_=>TZ
|_,.scr ns,v,_=>∃a,v=.ref a/\ns.length<=LIM/\ScrR K H a ns
def RepL (K:L9)(Z:Fp)(H:Hp):Md->U T->U V->Fp->Prop
|_,[],xs,_=>xs=[]
|m,t::ts,xs,G=>∃x r G1 G2,xs=x::r/\(∀a,G1 a->G a)/\(∀a,G2 a->G a)/\(∀a,G1 a->¬G2 a)/\Rep K Z H m t x G1/\RepL K Z H m ts r G2
end
section
variable {K:L9}{Z Z':Fp}{H H':Hp}{m:Md}{t:T}{ts:U T}{v:V}{xs:U V}{G G':Fp}
theorem LstR.mono {a:S9}(w:∀a,G a->G' a)(h:LstR K Z H G a xs m):LstR K Z H G' a xs m:=by
 cases m with
 |s=>exact h
 |d=>exact⟨w _ h.1,h.2⟩
 |o m=>exact⟨w _ h.1,h.2⟩
theorem InsR.mono {a b:S9}{o:HO}(w:∀a,G a->G' a)(h:InsR Z H G a b o m):InsR Z H G' a b o m:=by
 cases m with
 |s=>exact h
 |d=>exact⟨w _ h.1,w _ h.2.1,h.2.2⟩
 |o m=>exact⟨w _ h.1,w _ h.2.1,h.2.2⟩
theorem DctR.mono {a:S9}{o:HO}(w:∀a,G a->G' a)(h:DctR Z H G a o m):DctR Z H G' a o m:=by
 cases m with
 |s=>exact h
 |d=>exact⟨w _ h.1,h.2⟩
 |o m=>exact⟨w _ h.1,h.2⟩
mutual
theorem Rep.mono:∀{m:Md} {t:T} {v:V} {G G':Fp},(∀a,G a->G' a)->Rep K Z H m t v G->Rep K Z H m t v G'
|_,.non,_,_,_,_,h=>h
|_,.bl _,_,_,_,_,h=>h
|_,.int _,_,_,_,_,h=>h
|_,.str _,_,_,_,_,h=>h
|m,.tup ts,v,G,G',w,hh=>by obtain⟨a,xs,e,q,l,r⟩:=hh;exact⟨a,xs,e,q,l,RepL.mono w r⟩
|m,.lst ts,v,G,G',w,hh=>by obtain⟨a,xs,e,l,q,r⟩:=hh;exact⟨a,xs,e,l,q.mono w,RepL.mono (λb hb=>⟨w b hb.1,hb.2⟩) r⟩
|m,.dct ks vs,v,G,G',w,hh=>by obtain⟨a,xs,e,l,q,n,hl,r⟩:=hh;exact⟨a,xs,e,l,q.mono w,n,hl,r⟩
|_,.ins _ _ _,_,_,_,_,h=>h
|_,.dtt _ _,_,_,_,_,h=>h
|m,.obj c fs vs,v,G,G',w,hh=>by obtain⟨ne,a,dx,xs,e,q,r⟩:=hh;exact⟨ne,a,dx,xs,e,q.mono w,r⟩
|_,.gone,_,_,_,_,h=>h
|_,.scr _,_,_,_,_,h=>h
theorem RepL.mono:∀{m:Md} {ts:U T} {xs:U V} {G G':Fp},(∀a,G a->G' a)->RepL K Z H m ts xs G->RepL K Z H m ts xs G'
|_,[],_,_,_,_,h=>h
|m,t::ts,xs,G,G',w,hh=>by obtain⟨x,r,G1,G2,e,h1,h2,hd,p,q⟩:=hh;exact⟨x,r,G1,G2,e,λa ha=>w a<|h1 a ha,λa ha=>w a<|h2 a ha,hd,p,q⟩
end
def Stay (Z:Fp)(H H':Hp):Prop:=(∀a o,Z a->H a=O o->H' a=O o)/\(∀a xs,Rd H a (.tup xs)->Rd H' a (.tup xs))/\∀a o u,H a=O (.frz o u)->H' a=O (.frz o u)
theorem Stay.sqt (s:Stay Z H H'){a:S9}(h:SqT K H a xs):SqT K H' a xs:=by
 rcases h with h|h
 .exact .inl (s.2.1 a xs h)
 .exact .inr h
theorem LstR.keep {a:S9}(s:Stay Z H H')(z:∀a,Z a->Z' a)(g:∀a o,G a->H a=O o->H' a=O o)(h:LstR K Z H G a xs m):LstR K Z' H' G a xs m:=by
 cases m with
 |s=>exact⟨z _ h.1,s.1 _ _ h.1 h.2⟩
 |d=>exact⟨h.1,g _ _ h.1 h.2⟩
 |o m=>exact⟨h.1,g _ _ h.1 h.2⟩
theorem InsR.keep {a b:S9}{o:HO}(s:Stay Z H H')(z:∀a,Z a->Z' a)(g:∀a o,G a->H a=O o->H' a=O o)(h:InsR Z H G a b o m):InsR Z' H' G a b o m:=by
 cases m with
 |s=>exact⟨z _ h.1,z _ h.2.1,s.1 _ _ h.1 h.2.2.1,s.1 _ _ h.2.1 h.2.2.2⟩
 |d=>exact⟨h.1,h.2.1,g _ _ h.1 h.2.2.1,g _ _ h.2.1 h.2.2.2⟩
 |o m=>exact⟨h.1,h.2.1,g _ _ h.1 h.2.2.1,g _ _ h.2.1 h.2.2.2⟩
theorem InsR.sh {a b:S9}{o:HO}(h:InsR Z H G a b o m):InsR (λa=>Z a\/G a) H (λ_=>Tw) a b o .s:=by
 cases m with
 |s=>exact⟨.inl h.1,.inl h.2.1,h.2.2⟩
 |d=>exact⟨.inr h.1,.inr h.2.1,h.2.2⟩
 |o m=>exact⟨.inr h.1,.inr h.2.1,h.2.2⟩
theorem DctR.keep {a:S9}{o:HO}(s:Stay Z H H')(z:∀a,Z a->Z' a)(g:∀a o,G a->H a=O o->H' a=O o)(h:DctR Z H G a o m):DctR Z' H' G a o m:=by
 cases m with
 |s=>exact⟨z _ h.1,s.1 _ _ h.1 h.2⟩
 |d=>exact⟨h.1,g _ _ h.1 h.2⟩
 |o m=>exact⟨h.1,g _ _ h.1 h.2⟩
mutual
theorem Rep.keep (s:Stay Z H H')(z:∀a,Z a->Z' a):∀{m:Md} {t:T} {v:V} {G:Fp},(∀a o,G a->H a=O o->H' a=O o)->Rep K Z H m t v G->Rep K Z' H' m t v G
|_,.non,_,_,_,h=>h
|_,.bl _,_,_,_,h=>h
|_,.int _,_,_,_,h=>h
|_,.str _,_,_,_,h=>h
|m,.tup ts,v,G,g,hh=>by obtain⟨a,xs,e,q,l,r⟩:=hh;exact⟨a,xs,e,s.sqt q,l,RepL.keep s z g r⟩
|m,.lst ts,v,G,g,hh=>by obtain⟨a,xs,e,l,q,r⟩:=hh;exact⟨a,xs,e,l,q.keep s z g,RepL.keep s z (λb o hb=>g b o hb.1) r⟩
|m,.dct ks vs,v,G,g,hh=>by obtain⟨a,xs,e,l,q,n,hl,r⟩:=hh;exact⟨a,xs,e,l,q.keep s z g,n,hl,RepL.keep s z (λ_ _ hb=>hb.elim) r⟩
|_,.dtt _ _,_,_,_,hh=>by obtain⟨ne,a,ys,xs,e,z1,h1,n,l,hl,kr,r⟩:=hh;exact⟨ne,a,ys,xs,e,z _ z1,s.1 _ _ z1 h1,n,l,hl,kr.keep λb xs q=>s.sqt q,RepL.keep s z (λ_ _ hb=>hb.elim) r⟩
|_,.ins _ _ _,_,_,_,hh=>by obtain⟨ne,a,dx,C,xs,e,z1,z2,h1,h2,l,n,r⟩:=hh;exact⟨ne,a,dx,C,xs,e,z _ z1,z _ z2,s.1 _ _ z1 h1,s.1 _ _ z2 h2,l,n,RepL.keep s z (λ_ _ hb=>hb.elim) r⟩
|_,.obj _ _ _,_,_,g,hh=>by obtain⟨ne,a,dx,xs,e,q,n,l,r⟩:=hh;exact⟨ne,a,dx,xs,e,q.keep s z g,n,l,RepL.keep s z (λ_ _ hb=>hb.elim) r⟩
|_,.gone,_,_,_,h=>h
|_,.scr _,_,_,_,hh=>by obtain⟨a,e,l,q⟩:=hh;exact⟨a,e,l,q.keep s.2.2⟩
theorem RepL.keep (s:Stay Z H H')(z:∀a,Z a->Z' a):∀{m:Md} {ts:U T} {xs:U V} {G:Fp},(∀a o,G a->H a=O o->H' a=O o)->RepL K Z H m ts xs G->RepL K Z' H' m ts xs G
|_,[],_,_,_,h=>h
|m,t::ts,xs,G,g,hh=>by obtain⟨x,r,G1,G2,e,h1,h2,hd,p,q⟩:=hh;exact⟨x,r,G1,G2,e,h1,h2,hd,Rep.keep s z (λa o ha=>g a o<|h1 a ha) p,RepL.keep s z (λa o ha=>g a o<|h2 a ha) q⟩
end
theorem eD (Z:Fp)(H:Hp):Stay Z H H:=⟨λ_ _ _ h=>h,λ_ _ h=>h,λ_ _ _ h=>h⟩
theorem Rep.zmono (z:∀a,Z a->Z' a)(h:Rep K Z H m t v G):Rep K Z' H m t v G:=h.keep (eD Z H) z λ_ _ _ q=>q
theorem RepL.zmono (z:∀a,Z a->Z' a)(h:RepL K Z H m ts xs G):RepL K Z' H m ts xs G:=h.keep (eD Z H) z λ_ _ _ q=>q
theorem RepL.length:∀{ts:U T} {xs:U V} {G:Fp},RepL K Z H m ts xs G->xs.length=ts.length
|[],_,_,h=>by rw[show _=[] from h];rfl
|_::_,_,_,a=>by obtain⟨x,r,G1,G2,e,_,_,_,_,q⟩:=a;rw[e,Mw,Mw,RepL.length q]
theorem RepL.get:∀{ts:U T} {xs:U V} {G:Fp} {i:Y} {t:T},RepL K Z H m ts xs G->ts[i]?=O t->∃x,xs[i]?=O x/\Rep K Z H m t x G
|[],_,_,_,_,_,e=>by simp at e
|_::_,_,_,0,_,a,e2=>by obtain⟨x,r,G1,G2,e,b,_,_,p,_⟩:=a;rw[Q4] at e2;cases e2;exact⟨x,by rw[e];rfl,p.mono b⟩
|_::_,_,_,i+1,_,a,e2=>by obtain⟨x,r,G1,G2,e,_,c,_,_,q⟩:=a;rw[M1] at e2;obtain⟨y,d,p⟩:=RepL.get q e2;exact⟨y,by rw[e,M1];exact d,p.mono c⟩
theorem RepL.append:∀{ts f:U T} {xs c:U V} {G1 G2 G:Fp},(∀a,G1 a->G a)->(∀a,G2 a->G a)->(∀a,G1 a->¬G2 a)->RepL K Z H m ts xs G1->RepL K Z H m f c G2->RepL K Z H m (ts++f) (xs++c) G
|[],f,xs,c,G1,G2,G,g,i,d,h,k=>by rw[show xs=[] from h];exact k.mono i
|t::ts,f,xs,c,G1,G2,G,g,i,d,s,k=>by obtain⟨x,r,A,B,e,j,l,o,p,q⟩:=s;rw[e];refine⟨x,r++c,A,λa=>B a\/G2 a,rfl,λa b=>g a<|j a b,λa b=>b.elim (λz=>g a<|l a z)<|i a,λa b n=>n.elim (o a b)<|d a<|j a b,p,?_⟩;exact RepL.append (λa z=>.inl z) (λa z=>.inr z) (λa b=>d a<|l a b) q k
theorem RepL.one {x:V}(p:Rep K Z H m t x G):RepL K Z H m [t] [x] G:=⟨x,[],G,λ_=>Tw,rfl,λ_ h=>h,λ_ h=>h.elim,λ_ _ h=>h,p,rfl⟩
theorem RepL.take:∀{ts:U T} {xs:U V} {G:Fp} (n:Y),RepL K Z H m ts xs G->RepL K Z H m (ts.take n) (xs.take n) G
|[],_,_,n,h=>by rw[show _=[] from h,RB,RB];rfl
|_::_,_,_,0,h=>rfl
|_::_,_,_,n+1,d=>by obtain⟨x,r,A,B,e,a,b,c,p,q⟩:=d;rw[e];exact⟨x,r.take n,A,B,rfl,a,b,c,p,RepL.take n q⟩
theorem RepL.drop:∀{ts:U T} {xs:U V} {G:Fp} (n:Y),RepL K Z H m ts xs G->RepL K Z H m (ts.drop n) (xs.drop n) G
|[],_,_,n,h=>by rw[show _=[] from h,RA,RA];rfl
|_::_,_,_,0,h=>h
|_::_,_,_,n+1,b=>by obtain⟨x,r,A,B,e,c,a,d,p,q⟩:=b;rw[e];exact(RepL.drop n q).mono a
theorem Rep.leaf {m':Md}(c:∀a o u,H a=O (.frz o u)->H' a=O (.frz o u))(b:t.leaf=L7)(h:Rep K Z H m t v G):Rep K Z' H' m' t v G':=by
 cases t with
 |non=>exact h
 |bl _=>exact h
 |int _=>exact h
 |str _=>exact h
 |scr _=>obtain⟨a,e,l,q⟩:=h;exact⟨a,e,l,q.keep c⟩
 |_=>cases b
theorem RepL.leaves {m':Md}(c:∀a o u,H a=O (.frz o u)->H' a=O (.frz o u)):∀{ts:U T} {xs:U V} {G G':Fp},leaves ts=L7->RepL K Z H m ts xs G->RepL K Z' H' m' ts xs G'
|[],_,_,_,_,h=>h
|t::ts,_,_,G',f,d=>by obtain⟨x,r,A,B,e,g,i,j,p,q⟩:=d;have b:(t.leaf&&ts.all T.leaf)=true:=f;rw[Mv] at b;exact⟨x,r,λ_=>Tw,λ_=>Tw,e,λ_ z=>z.elim,λ_ z=>z.elim,λ_ z=>z.elim,p.leaf c b.1,RepL.leaves c b.2 q⟩
noncomputable def no:Fp:=λ_=>Tw
mutual
theorem Rep.sh:∀{m:Md} {t:T} {v:V} {G:Fp},Rep K Z H m t v G->Rep K (λa=>Z a\/G a) H .s t v no
|_,.non,_,_,h=>h
|_,.bl _,_,_,h=>h
|_,.int _,_,_,h=>h
|_,.str _,_,_,h=>h
|m,.tup ts,v,G,hh=>by obtain⟨a,xs,e,q,l,r⟩:=hh;exact⟨a,xs,e,q,l,RepL.sh r⟩
| m,.lst ts,v,G,hh=>by
 obtain⟨a,xs,e,l,q,r⟩:=hh
 exact⟨a,xs,e,l,by
  cases m with
  |s=>exact⟨.inl q.1,q.2⟩
  |d=>exact⟨.inr q.1,q.2⟩
  |o m=>exact⟨.inr q.1,q.2⟩,(RepL.zmono (λb hb=>hb.elim .inl λz=>.inr z.1)<|RepL.sh r).mono λ_ z=>z.elim⟩
| m,.dct ks vs,v,G,hh=>by
 obtain⟨a,xs,e,l,q,n,hl,r⟩:=hh
 exact⟨a,xs,e,l,by
  cases m with
  |s=>exact⟨.inl q.1,q.2⟩
  |d=>exact⟨.inr q.1,q.2⟩
  |o m=>exact⟨.inr q.1,q.2⟩,n,hl,RepL.zmono (λb hb=>hb.elim .inl λz=>z.elim)<|RepL.sh r⟩
|_,.dtt _ _,_,_,hh=>by obtain⟨ne,a,ys,xs,e,z1,h1,n,l,hl,kr,r⟩:=hh;exact⟨(λz=>by cases z),a,ys,xs,e,.inl z1,h1,n,l,hl,kr,RepL.zmono (λb hb=>hb.elim .inl λz=>z.elim)<|RepL.sh r⟩
|_,.ins _ _ _,_,_,hh=>by obtain⟨ne,a,dx,C,xs,e,z1,z2,h1,h2,l,n,r⟩:=hh;exact⟨(λz=>by cases z),a,dx,C,xs,e,.inl z1,.inl z2,h1,h2,l,n,RepL.zmono (λb hb=>hb.elim .inl λz=>z.elim)<|RepL.sh r⟩
|_,.obj _ _ _,_,_,hh=>by obtain⟨ne,a,dx,xs,e,q,n,l,r⟩:=hh;exact⟨(λz=>by cases z),a,dx,xs,e,q.sh,n,l,RepL.zmono (λb hb=>hb.elim .inl λz=>z.elim)<|RepL.sh r⟩
|_,.gone,_,_,h=>h
|_,.scr _,_,_,h=>h
theorem RepL.sh:∀{m:Md} {ts:U T} {xs:U V} {G:Fp},RepL K Z H m ts xs G->RepL K (λa=>Z a\/G a) H .s ts xs no
|_,[],_,_,h=>h
|m,t::ts,xs,G,hh=>by obtain⟨x,r,G1,G2,e,h1,h2,hd,p,q⟩:=hh;exact⟨x,r,no,no,e,λ_ z=>z,λ_ z=>z,λ_ z _=>z,Rep.zmono (λb hb=>hb.imp id (h1 b))<|Rep.sh p,RepL.zmono (λb hb=>hb.imp id (h2 b))<|RepL.sh q⟩
end
theorem LL:∀a:Md,a.le .d=L7
|.s=>rfl | .d=>rfl | .o _=>rfl
theorem le_refl:∀a:Md,a.le a=L7
|.s=>rfl | .d=>rfl | .o a=>le_refl a
theorem m8:∀{a b c:Md},a.le b=L7->b.le c=L7->a.le c=L7
|.s,_,.s,_,_=>rfl
|.s,_,.d,_,_=>rfl
|.s,_,.o _,_,_=>rfl
|.o a,.o b,.o c,h,k=>m8 (a:=a) (b:=b) (c:=c) h k
|.o a,.o b,.d,h,k=>rfl
|.o a,.d,.d,h,k=>rfl
|.d,.d,.d,_,_=>rfl
|.d,.s,_,h,_=>by cases h
|.d,.o _,_,h,_=>by cases h
|.o _,.s,_,h,_=>by cases h
|.o _,.o _,.s,_,k=>by cases k
|.o _,.d,.s,_,k=>by cases k
|.o _,.d,.o _,_,k=>by cases k
|.d,.d,.s,_,k=>by cases k
|.d,.d,.o _,_,k=>by cases k
theorem fL:∀a b:Md,(a.meet b).le a=L7/\(a.meet b).le b=L7
|.s,.s=>⟨rfl,rfl⟩
|.s,.d=>⟨rfl,rfl⟩
|.s,.o _=>⟨rfl,rfl⟩
|.d,.s=>⟨rfl,rfl⟩
|.d,.d=>⟨rfl,rfl⟩
|.d,.o b=>⟨rfl,le_refl b⟩
|.o _,.s=>⟨rfl,rfl⟩
|.o a,.d=>⟨le_refl a,rfl⟩
|.o a,.o b=>fL a b
theorem ue:∀{a b:Md},a.le b=L7->a.kid.le b.kid=L7
|.s,.s,_=>rfl
|.s,.d,_=>rfl
|.s,.o _,_=>by first|rfl|exact(by cases ‹Md›<;>rfl)
|.o a,.o b,h=>h
|.o a,.d,_=>LL a
|.d,.d,_=>rfl
|.d,.s,h=>by cases h
|.d,.o _,h=>by cases h
|.o _,.s,h=>by cases h
theorem fg:∀a:Md,a.up.kid=a
|.s=>rfl | .d=>rfl | .o _=>rfl
theorem dz (a:Md):a.up≠.s:=by cases a<;>intro h<;>cases h
theorem LstR.own {a:S9}(b:m≠.s):LstR K Z H G a xs m ↔ G a/\H a=O (.lst xs):=by
 cases m with
 |s=>exact Tg rfl b
 |d=>exact Iff.rfl
 |o m=>exact Iff.rfl
abbrev cB (Z G G':Fp):Fp:=λa=>Z a\/(G a/\¬G' a)
mutual
theorem Rep.weak:∀{m m':Md} {t:T} {v:V} {G:Fp},m'.le m=L7->Rep K Z H m t v G->∃G',(∀a,G' a->G a)/\Rep K (cB Z G G') H m' t v G'
|m,m',.non,_,G,_,h=>⟨G,λ_ z=>z,h⟩
|m,m',.bl _,_,G,_,h=>⟨G,λ_ z=>z,h⟩
|m,m',.int _,_,G,_,h=>⟨G,λ_ z=>z,h⟩
|m,m',.str _,_,G,_,h=>⟨G,λ_ z=>z,h⟩
|m,m',.scr _,_,G,_,h=>⟨G,λ_ z=>z,h⟩
|m,m',.tup ts,v,G,hm,hh=>by obtain⟨a,xs,e,q,l,r⟩:=hh;obtain⟨G',h1,h2⟩:=RepL.weak (ue hm) r;exact⟨G',h1,a,xs,e,q,l,h2⟩
| m,m',.lst ts,v,G,hm,h=>by
 cases m' with
 |s=>exact⟨no,λ_ z=>z.elim,(Rep.sh h).zmono λa ha=>ha.imp id λz=>⟨z,λq=>q⟩⟩
 |d=>
  cases m with
  |s=>cases hm
  |o _=>cases hm
  |d=>exact⟨G,λ_ z=>z,h.zmono λ_ z=>.inl z⟩
 |o k=>
  have hne:m≠.s:=by rintro rfl;cases hm
  obtain⟨a,xs,e,l,q,r⟩:=h;rw[LstR.own hne] at q;obtain⟨G',h1,h2⟩:=RepL.weak (ue hm) r;refine⟨λb=>G' b\/b=a,λb hb=>hb.elim (λz=>(h1 b z).1) λz=>z ▸ q.1,a,xs,e,l,⟨.inr rfl,q.2⟩,?_⟩;refine(h2.zmono λb hb=>?_).mono λb hb=>⟨.inl hb,(h1 b hb).2⟩;rcases hb with z|⟨⟨z1,z2⟩,z3⟩
  .exact .inl z
  .exact .inr ⟨z1,λq=>q.elim z3 z2⟩
| m,m',.dct ks vs,v,G,hm,h=>by
 cases m' with
 |s=>exact⟨no,λ_ z=>z.elim,(Rep.sh h).zmono λa ha=>ha.imp id λz=>⟨z,λq=>q⟩⟩
 |d=>
  cases m with
  |s=>cases hm
  |o _=>cases hm
  |d=>exact⟨G,λ_ z=>z,h.zmono λ_ z=>.inl z⟩
 |o k=>
  obtain⟨a,xs,e,l,q,n,hl,r⟩:=h;cases m with
  |s=>cases hm
  |d=>exact⟨G,λ_ z=>z,a,xs,e,l,q,n,hl,RepL.zmono (λb hb=>hb.elim .inl λz=>z.elim)<|RepL.sh r⟩
  |o k'=>exact⟨G,λ_ z=>z,a,xs,e,l,q,n,hl,RepL.zmono (λb hb=>.inl hb) r⟩
|m,m',.dtt _ _,v,G,hm,hh=>by obtain⟨ne,a,ys,xs,e,z1,h1,n,l,hl,kr,r⟩:=hh;exact⟨G,λ_ z=>z,(λz=>ne<|by subst z;cases m<;>first|rfl|cases hm),a,ys,xs,e,.inl z1,h1,n,l,hl,kr,RepL.zmono (λb hb=>.inl hb) r⟩
|m,m',.ins _ _ _,v,G,hm,hh=>by obtain⟨ne,a,dx,C,xs,e,z1,z2,h1,h2,l,n,r⟩:=hh;exact⟨G,λ_ z=>z,(λz=>ne<|by subst z;cases m<;>first|rfl|cases hm),a,dx,C,xs,e,.inl z1,.inl z2,h1,h2,l,n,RepL.zmono (λb hb=>.inl hb) r⟩
| m,m',.obj c fs vs,v,G,hm,h=>by
 cases m' with
 |s=>exact⟨no,λ_ z=>z.elim,(Rep.sh h).zmono λa ha=>ha.imp id λz=>⟨z,λq=>q⟩⟩
 |d=>
  cases m with
  |s=>cases hm
  |o _=>cases hm
  |d=>exact Tg rfl h.1
 |o k=>
  obtain⟨ne,a,dx,xs,e,q,n,l,r⟩:=h;cases m with
  |s=>cases hm
  |d=>exact Tg rfl ne
  |o k'=>exact⟨G,λ_ z=>z,(λz=>by cases z),a,dx,xs,e,q,n,l,RepL.zmono (λb hb=>.inl hb) r⟩
|m,m',.gone,_,G,_,h=>⟨G,λ_ z=>z,h⟩
theorem RepL.weak:∀{m m':Md} {ts:U T} {xs:U V} {G:Fp},m'.le m=L7->RepL K Z H m ts xs G->∃G',(∀a,G' a->G a)/\RepL K (cB Z G G') H m' ts xs G'
|m,m',[],_,G,_,h=>⟨G,λ_ z=>z,h⟩
|m,m',t::ts,xs,G,hm,hh=>by
 obtain⟨x,r,G1,G2,e,h1,h2,hd,p,q⟩:=hh;obtain⟨A,a1,a2⟩:=Rep.weak hm p;obtain⟨B,b1,b2⟩:=RepL.weak hm q;refine⟨λb=>A b\/B b,λb hb=>hb.elim (λz=>h1 b<|a1 b z) λz=>h2 b<|b1 b z,x,r,A,B,e,λ_ z=>.inl z,λ_ z=>.inr z,λb za zb=>hd b (a1 b za)<|b1 b zb,?_,?_⟩
 .refine a2.zmono λb hb=>hb.imp id λz=>⟨h1 b z.1,λq=>q.elim z.2 λw=>hd b z.1<|b1 b w⟩
 .refine b2.zmono λb hb=>hb.imp id λz=>⟨h2 b z.1,λq=>q.elim (λw=>hd b (a1 b w) z.1) z.2⟩
end
def RepW (K:L9)(Z:Fp)(H:Hp):U W->U V->Fp->Prop
|[],xs,_=>xs=[]
|w::b,xs,G=>∃x r G1 G2,xs=x::r/\(∀a,G1 a->G a)/\(∀a,G2 a->G a)/\(∀a,G1 a->¬G2 a)/\Rep K Z H w.1 w.2 x G1/\RepW K Z H b r G2
theorem RepW.length:∀{a:U W} {xs:U V} {G:Fp},RepW K Z H a xs G->xs.length=a.length
|[],_,_,h=>by rw[show _=[] from h];rfl
|_::_,_,_,b=>by obtain⟨x,r,G1,G2,e,_,_,_,_,q⟩:=b;rw[e,Mw,Mw,RepW.length q]
theorem RepW.mono:∀{c:U W} {xs:U V} {G G':Fp},(∀a,G a->G' a)->RepW K Z H c xs G->RepW K Z H c xs G'
|[],_,_,_,_,h=>h
|_::_,_,_,_,w,i=>by obtain⟨x,r,G1,G2,e,d,f,g,p,q⟩:=i;exact⟨x,r,G1,G2,e,λa b=>w a<|d a b,λa b=>w a<|f a b,g,p,q⟩
theorem RepW.keep (s:Stay Z H H')(z:∀a,Z a->Z' a):∀{f:U W} {xs:U V} {G:Fp},(∀a o,G a->H a=O o->H' a=O o)->RepW K Z H f xs G->RepW K Z' H' f xs G
|[],_,_,_,h=>h
|_::_,_,_,g,j=>by obtain⟨x,r,G1,G2,e,c,d,i,p,q⟩:=j;exact⟨x,r,G1,G2,e,c,d,i,p.keep s z λa o b=>g a o<|c a b,RepW.keep s z (λa o b=>g a o<|d a b) q⟩
theorem RepW.append:∀{n f:U W} {xs c:U V} {G1 G2 G:Fp},(∀a,G1 a->G a)->(∀a,G2 a->G a)->(∀a,G1 a->¬G2 a)->RepW K Z H n xs G1->RepW K Z H f c G2->RepW K Z H (n++f) (xs++c) G
|[],f,xs,c,G1,G2,G,g,i,d,h,k=>by rw[show xs=[] from h];exact k.mono i
|t::ts,f,xs,c,G1,G2,G,g,i,d,u,k=>by obtain⟨x,r,A,B,e,j,l,s,p,q⟩:=u;rw[e];refine⟨x,r++c,A,λa=>B a\/G2 a,rfl,λa b=>g a<|j a b,λa b=>b.elim (λz=>g a<|l a z)<|i a,λa b o=>o.elim (s a b)<|d a<|j a b,p,?_⟩;exact RepW.append (λa z=>.inl z) (λa z=>.inr z) (λa b=>d a<|l a b) q k
theorem RepW.one {w:W}{x:V}(p:Rep K Z H w.1 w.2 x G):RepW K Z H [w] [x] G:=⟨x,[],G,no,rfl,λ_ h=>h,λ_ h=>h.elim,λ_ _ h=>h,p,rfl⟩
theorem l9:∀{a:U W} {w:W},w∈a->(jB a).le (lf w.1 w.2)=L7
|u::a,w,h=>by
 rcases Mm.mp h with z|z
 .subst z;exact(fL _ _).1
 .exact m8 (fL _ _).2 (l9 z)
theorem Rep.lf (h:Rep K Z H m t v G):Rep K Z H (M.lf m t) t v G:=by
 unfold M.lf;split
 .rename_i a;exact h.leaf (λ_ _ _ q=>q) a
 .exact h
theorem RepW.to {N:Md}:∀{d:U W} {xs:U V} {G:Fp},(∀w∈d,N.le (M.lf w.1 w.2)=L7)->RepW K Z H d xs G->∃G',(∀a,G' a->G a)/\RepL K (cB Z G G') H N (trees d) xs G'
|[],_,G,_,h=>⟨G,λ_ z=>z,h⟩
|w::d,xs,G,l,s=>by
 obtain⟨x,r,G1,G2,e,j,k,i,p,q⟩:=s;obtain⟨A,f,n⟩:=Rep.weak (l w ML) p.lf;obtain⟨B,g,o⟩:=RepW.to (λu y=>l u<|MG _ y) q;refine⟨λb=>A b\/B b,λb c=>c.elim (λz=>j b<|f b z) λz=>k b<|g b z,x,r,A,B,e,λ_ z=>.inl z,λ_ z=>.inr z,λb D F=>i b (f b D)<|g b F,?_,?_⟩
 .refine n.zmono λb c=>c.imp id λz=>⟨j b z.1,λq=>q.elim z.2 λw=>i b z.1<|g b w⟩
 .refine o.zmono λb c=>c.imp id λz=>⟨k b z.1,λq=>q.elim (λw=>i b (f b w) z.1) z.2⟩
end
inductive OO where
 |inl (xs:U V)|inr (kvs:U (Key×V))|ins (C dx:S9) (fs:U (Str×V))|own (x:S9)
def OO.ho:OO->HO
|.inl c=>.lst c
|.inr a=>.dK a
|.ins C b fs=>.ins C b fs
|.own x=>.own x
def Own (Z:Fp)(H:Hp)(F:Fp):Prop:=∀a,F a->¬Z a/\∃b:OO,H a=O b.ho
theorem oV {b:U V}{a:OO}(e:O (HO.tup b)=O a.ho):Tw:=by cases a<;>cases e
theorem lg {o:PySem.Obj}{u:HO}{a:OO}(e:O (HO.frz o u)=O a.ho):Tw:=by cases a<;>cases e
structure Step (Z:Fp)(H:Hp)(F:Fp)(Z':Fp)(H':Hp)(F':Fp):Prop where
 keep:∀a o,H a=O o->¬F a->H' a=O o
 zm:∀a,Z a->Z' a
 zn:∀a,Z' a->Z a\/F a\/H a=J
 fn:∀a,F' a->F a\/H a=J
 al:∀a,H a≠J->H' a≠J
 za:(∀a,Z a->H a≠J)->∀a,Z' a->H' a≠J
section
variable {K:L9}{Z Z1 Z2 Z':Fp}{H H1 H2 H':Hp}{F F1 F2 F' R G:Fp}
theorem Step.refl (Z:Fp)(H:Hp)(F:Fp):Step Z H F Z H F:=⟨λ_ _ h _=>h,λ_ h=>h,λ_ h=>.inl h,λ_ h=>.inl h,λ_ h=>h,λz=>z⟩
theorem Step.trans (s:Step Z H F Z1 H1 F1)(t:Step Z1 H1 F1 Z2 H2 F2):Step Z H F Z2 H2 F2 where
 keep:=λa o h n=>t.keep a o (s.keep a o h n) λq=>(s.fn a q).elim n λz=>by rw[h] at z;cases z
 zm:=λa h=>t.zm a<|s.zm a h
 zn:=λa h=>by
  rcases t.zn a h with q|q|q
  .exact s.zn a q
  .exact .inr (s.fn a q)
  .exact .inr (.inr (by
    cases e:H a with
    |none=>rfl
    |some o=>exact Tg q<|s.al a<|by rw[e];simp))
 fn:=λa h=>by
  rcases t.fn a h with q|q
  .exact s.fn a q
  .exact .inr (by
    cases e:H a with
    |none=>rfl
    |some o=>exact Tg q<|s.al a<|by rw[e];simp)
 al:=λa h=>t.al a<|s.al a h
 za:=λz=>t.za<|s.za z
theorem Step.frame (R:Fp)(s:Step Z H F Z' H' F'):Step Z H (λa=>F a\/R a) Z' H' (λa=>F' a\/R a) where
 keep:=λa o h n=>s.keep a o h λq=>n<|.inl q
 zm:=s.zm
 zn:=λa h=>(s.zn a h).imp id λq=>q.imp .inl id
 fn:=λa h=>h.elim (λq=>(s.fn a q).imp .inl id) λq=>.inl<|.inr q
 al:=s.al
 za:=s.za
theorem Step.mono (s:Step Z H F Z' H' F')(b:∀a,F a->F1 a)(c:∀a,F2 a->F' a):Step Z H F1 Z' H' F2 where
 keep:=λa o h n=>s.keep a o h λq=>n<|b a q
 zm:=s.zm
 zn:=λa h=>(s.zn a h).imp id λq=>q.imp (b a) id
 fn:=λa h=>(s.fn a<|c a h).imp (b a) id
 al:=s.al
 za:=s.za
theorem Own.stay (o:Own Z H F)(s:Step Z H F Z' H' F'):Stay Z H H':=by
 refine⟨λa u c h=>s.keep a u h λq=>(o a q).1 c,λa d h=>?_,λa u v h=>s.keep a _ h λq=>?_⟩
 .rcases h with h | ⟨u,h⟩
  .refine .inl (s.keep a _ h fun q=>?_);obtain⟨_,b,e⟩:=o a q;rw[h] at e;exact oV e
  .refine .inr ⟨u,s.keep a _ h fun q=>?_⟩;obtain⟨_,b,e⟩:=o a q;rw[h] at e;exact lg e
 .obtain ⟨_,b,e⟩:=o a q;rw[h] at e;exact lg e
theorem Rep.frame {m:Md}{t:T}{v:V}(o:Own Z H F)(s:Step Z H F Z' H' F')(d:∀a,G a->¬F a)(h:Rep K Z H m t v G):Rep K Z' H' m t v G:=h.keep (o.stay s) s.zm λa u b e=>s.keep a u e<|d a b
theorem RepW.frame {b:U W}{c:U V}(o:Own Z H F)(s:Step Z H F Z' H' F')(d:∀a,G a->¬F a)(h:RepW K Z H b c G):RepW K Z' H' b c G:=h.keep (o.stay s) s.zm λa u f e=>s.keep a u e<|d a f
theorem Own.frame (o:Own Z H G)(s:Step Z H F Z' H' F')(d:∀a,G a->¬F a):Own Z' H' G/\∀a,G a->¬F' a:=by
 refine⟨λa b=>?_,λa b q=>?_⟩
 .obtain ⟨c,f,e⟩:=o a b;refine⟨λq=>?_,f,s.keep a _ e (d a b)⟩;rcases s.zn a q with z|z|z
  .exact c z
  .exact d a b z
  .rw[e] at z;cases z
 .obtain ⟨c,f,e⟩:=o a b;rcases s.fn a q with z|z
  .exact d a b z
  .rw[e] at z;cases z
end
abbrev Fps:=Y->Fp
def tot (b:Fps):Fp:=λa=>∃i,b i a
structure Gd (Z:Fp)(H:Hp)(Fs:Fps):Prop where
 own:Own Z H (tot Fs)
 dis:∀i j a,Fs i a->Fs j a->i=j
 zal:∀a,Z a->H a≠J
structure Cf where
 sl:Y->I Y
 pv:Y->I V
def Lh (K:L9)(a:Cf)(Z:Fp)(H:Hp)(c:Env)(d:L2.St)(b:Fps):Prop:=
 ∀i m t,rd c i=O (m,t)->∃v,Rep K Z H m t v (b i)/\(∀j,a.sl i=O j->d[j]?=O (O v))/\∀u,a.pv i=O u->v=u
structure At (K:L9)(sl:Cf)(σ:L2.St)(Z:Fp)(H:Hp)(Fs:Fps)(η:Env)(G:Fp):Prop where
 gd:Gd Z H Fs
 env:Lh K sl Z H η σ Fs
 own:Own Z H G
 dis:∀a,G a->¬tot Fs a
 lk:∀i u j,sl.pv i=O u->sl.sl i=O j->σ[j]?=O (O u)
 ln:∀i j,sl.sl i=O j->j < σ.length
section
variable {K:L9}{sl:Cf}{σ:L2.St}{Z Z':Fp}{H H':Hp}{Fs Fs':Fps}{η η':Env}{G G' R:Fp}
theorem At.frame (a:At K sl σ Z H Fs η R)(b:At K sl σ Z' H' Fs' η' G)(s:Step Z H (tot Fs) Z' H' λc=>tot Fs' c\/G c):
  At K sl σ Z' H' Fs' η' (λc=>R c\/G c)/\Step Z H (λc=>tot Fs c\/R c) Z' H' (λc=>tot Fs' c\/(R c\/G c))/\∀c,R c->¬G c:=by
 have o:=a.own.frame s a.dis;refine⟨⟨b.gd,b.env,λc d=>d.elim (o.1 c)<|b.own c,λc d=>d.elim (λz q=>o.2 c z<|.inl q)<|b.dis c,b.lk,b.ln⟩,(s.frame R).mono (λ_ z=>z) λc d=>?_,λc z q=>o.2 c z<|.inr q⟩;rcases d with z|z|z
 .exact .inl (.inl z)
 .exact .inr z
 .exact .inl (.inr z)
end
section
variable {K:L9}{sl:Cf}{sf:Y->I Y}{C:Call}{σ:L2.St}{Z Z' Z1:Fp}{H H' H1:Hp}{Fs Fs' Fs1:Fps}{η η' η1:Env}{G G' R F:Fp}
theorem At.mono (a:At K sl σ Z H Fs η G)(h:∀c,G' c->G c):At K sl σ Z H Fs η G':=⟨a.gd,a.env,λc b=>a.own c<|h c b,λc b=>a.dis c<|h c b,a.lk,a.ln⟩
theorem At.bare (a:At K sl σ Z H Fs η G):At K sl σ Z H Fs η no:=a.mono λ_ z=>z.elim
def wE (K:L9)(sl:Y->I Y)(C:Call)(e:E):TE:=λσ H Q=>∃pv Z Fs η w η',At K ⟨sl,pv⟩ σ Z H Fs η no/\evE C e η=.ok (w,η') /\
 ∀v Z' H' Fs' G,At K ⟨sl,pv⟩ σ Z' H' Fs' η' G->Rep K Z' H' w.1 w.2 v G->Step Z H (tot Fs) Z' H' (λa=>tot Fs' a\/G a)->Q v H'
def wL (K:L9)(sl:Y->I Y)(C:Call)(d:U E):TA:=λσ H Q=>∃pv Z Fs η c η',At K ⟨sl,pv⟩ σ Z H Fs η no/\evL C d η=.ok (c,η') /\
 ∀b Z' H' Fs' G,At K ⟨sl,pv⟩ σ Z' H' Fs' η' G->RepW K Z' H' c b G->Step Z H (tot Fs) Z' H' (λa=>tot Fs' a\/G a)->Q b H'
theorem gQ {e:E}{w:W}{Q:VK}(A:At K sl σ Z H Fs η R)(ev:evE C e η=.ok (w,η'))
  (k:∀ v Z' H' Fs' G,At K sl σ Z' H' Fs' η' (fun c=>R c\/G c)->Rep K Z' H' w.1 w.2 v G->(∀ c,R c->¬ G c)->Step Z H (tot Fs) Z' H' (fun a=>tot Fs' a\/G a) ->
   Step Z H (λc=>tot Fs c\/R c) Z' H' (λc=>tot Fs' c\/(R c\/G c))->Q v H'):wE K sl.sl C e σ H Q:=
 ⟨sl.pv,Z,Fs,η,w,η',A.bare,ev,fun v Z' H' Fs' G B r s=>by
  obtain⟨b,d,f⟩:=A.frame B s;exact k v Z' H' Fs' G b r f s d⟩
theorem HS {d:U E}{b:U W}{Q:U V->Hp->Prop}(A:At K sl σ Z H Fs η R)(ev:evL C d η=.ok (b,η'))
  (k:∀ e Z' H' Fs' G,At K sl σ Z' H' Fs' η' (fun c=>R c\/G c)->RepW K Z' H' b e G->(∀ c,R c->¬ G c)->Step Z H (tot Fs) Z' H' (fun a=>tot Fs' a\/G a) ->
   Step Z H (λc=>tot Fs c\/R c) Z' H' (λc=>tot Fs' c\/(R c\/G c))->Q e H'):wL K sl.sl C d σ H Q:=
 ⟨sl.pv,Z,Fs,η,b,η',A.bare,ev,fun v Z' H' Fs' G B r s=>by
  obtain⟨f,g,h⟩:=A.frame B s;exact k v Z' H' Fs' G f r h s g⟩
theorem ae {c d:Type}{r:Res c}{f:c->Res d}{b:d}(h:r.bind f=.ok b):∃a,r=.ok a/\f a=.ok b:=by
 cases r with
 |ok a=>exact⟨a,rfl,h⟩
 |ex t=>cases h
 |no=>cases h
theorem aA {c:Type}{η:Env}{o:I c}{b:c×Env}(h:ret η o=.ok b):∃a,o=O a/\b=(a,η):=by
 cases o with
 |none=>cases h
 |some a=>exact⟨a,rfl,by cases h;rfl⟩
theorem fV {c:Type}{o:I c}{b:c}(h:ofO o=.ok b):o=O b:=by
 cases o with
 |none=>cases h
 |some a=>cases h;rfl
theorem aq {e:E}{a:U E}{c:U W}(h:evL C (e::a) η=.ok (c,η')):∃w η1 b,evE C e η=.ok (w,η1)/\evL C a η1=.ok (b,η')/\c=w::b:=by obtain⟨⟨w,η1⟩,d,f⟩:=ae<|show(evE C e η).bind (bO<|evL C a)=_ from h;obtain⟨⟨b,j⟩,g,i⟩:=ae<|show(evL C a η1).bind (qW w)=_ from f;cases i;exact⟨w,η1,b,d,g,rfl⟩
theorem mr {e:E}{b:U E}{c:U W}(k:∀i,e≠.io i)(h:evA C (e::b) η=.ok (c,η')):∃w η1 a,evE C e η=.ok (w,η1)/\evA C b η1=.ok (a,η')/\c=w::a:=by rw[C8 k] at h;obtain⟨⟨w,η1⟩,d,f⟩:=ae h;obtain⟨⟨a,l⟩,g,j⟩:=ae<|show(evA C b η1).bind (qW w)=_ from f;cases j;exact⟨w,η1,a,d,g,rfl⟩
theorem qT {i:Y}{b:U E}{c:U W}(h:evA C (.io i::b) η=.ok (c,η')):∃a η1 w,evA C b η=.ok (a,η1)/\rd η1 i=O w/\c=w::a/\η'=del η1 i:=by obtain⟨⟨a,η1⟩,d,e⟩:=ae<|show(evA C b η).bind (kIo i)=_ from h;obtain⟨w,f,g⟩:=ae<|show(ofO<|rd η1 i).bind (λw=>.ok (w::a,del η1 i))=_ from e;cases g;exact⟨a,η1,w,d,fV f,rfl,rfl⟩
theorem IA (e:E):(∃i,e=.io i)\/∀i,e≠.io i:=by
 cases e with
 |io i=>exact .inl ⟨i,rfl⟩
 |_=>exact .inr λ_ z=>by cases z
theorem Ao {e:E}{d:U E}(σ:L2.St)(H:Hp)(Q:U V->Hp->Prop)(h:wL K sf C (e::d) σ H Q):CA (wE K sf C e) (wL K sf C d) σ H Q:=by obtain⟨pv,Z,Fs,η,u,η',A,ev,k⟩:=h;obtain⟨w,η1,t,m,n,rfl⟩:=aq ev;refine gQ A m λx Z1 H1 Fs1 G1 c o _ s1 _=>?_;have a:=c.mono (G':=G1) λ_ z=>.inr z;refine HS a n λf j i b G2 g p l r s=>?_;refine k (x::f) j i b _ g ⟨x,f,G1,G2,rfl,λ_ z=>.inl z,λ_ z=>.inr z,l,o.frame c.gd.own r a.dis,p⟩ ?_;exact s1.trans s
theorem Hv (σ:L2.St)(H:Hp)(Q:U V->Hp->Prop)(h:wL K sf C [] σ H Q):EA σ H Q:=by obtain⟨pv,Z,Fs,η,c,η',A,ev,k⟩:=h;cases ev;exact k [] Z H Fs no A rfl ((Step.refl _ _ _).mono (λ_ z=>z) λa b=>b.elim id λz=>z.elim)
def Out (K:L9)(Z:Fp)(H:Hp)(G:Fp)(w:W)(Q:VK):Prop:=∀v Z' H' G',Rep K Z' H' w.1 w.2 v G'->Own Z' H' G'->Step Z H G Z' H' G'->Q v H'
theorem At.op (A:At K sl σ Z H Fs η G)(o:Own Z' H' G')(s:Step Z H G Z' H' G'):At K sl σ Z' H' Fs η G'/\Step Z H (λc=>tot Fs c\/G c) Z' H' (λc=>tot Fs c\/G' c):=by
 have d:∀a,tot Fs a->¬G a:=λa h q=>A.dis a q h;have f:=A.gd.own.frame s d;refine⟨⟨⟨f.1,A.gd.dis,s.za A.gd.zal⟩,λi m t e=>?_,o,λa b q=>f.2 a q b,A.lk,A.ln⟩,?_⟩
 .obtain ⟨v,r,g⟩:=A.env i m t e;exact⟨v,r.frame A.own s λa b=>d a ⟨i,b⟩,g⟩
 .refine(s.frame<|tot Fs).mono (λ_ z=>z.symm) λ_ z=>z.symm
theorem cH {w:W}{Q:VK}(A:At K sl σ Z1 H1 Fs1 η1 G)(s:Step Z H F Z1 H1 λa=>tot Fs1 a\/G a)
  (k:∀v Z' H' Fs' G,At K sl σ Z' H' Fs' η1 G->Rep K Z' H' w.1 w.2 v G->Step Z H F Z' H' (λa=>tot Fs' a\/G a)->Q v H'):Out K Z1 H1 G w Q:=λv Z' H' G' r o t=>by
 obtain⟨B,u⟩:=A.op o t;exact k v Z' H' Fs1 G' B r<|s.trans u
def Loc (K:L9)(n:Y)(o:Op)(h:Ta)(r:U V->Hp->VK->Prop):Prop:=∀(b:U W) (w:W) (c:U V) (Z:Fp) (H:Hp) (G:Fp) (Q:VK),b.length=n->oSem o h b=O w->RepW K Z H b c G->Own Z H G->(∀a,Z a->H a≠J)->Out K Z H G w Q->r c H Q
theorem b8 {o:Op}{h:Ta}{c:U E}{w:W}(e:evE C (.op o h c) η=.ok (w,η')):∃b,evL C c η=.ok (b,η')/\oSem o h b=O w:=by obtain⟨⟨b,η1⟩,d,f⟩:=ae<|show(evL C c η).bind (kOp o h)=_ from e;obtain⟨a,g,i⟩:=aA<|show ret η1 (oSem o h b)=_ from f;cases i;exact⟨b,d,g⟩
theorem kU:∀{a:U E} {η η':Env} {b:U W},evL C a η=.ok (b,η')->b.length=a.length
|[],_,_,_,h=>by cases h;rfl
|e::a,_,_,_,h=>by obtain⟨w,η1,d,_,c,rfl⟩:=aq h;rw[Mw,Mw,kU c]
theorem dU {n:Y}{o:Op}{h:Ta}{a:U E}{r:U V->Hp->VK->Prop}(l:Loc K n o h r)(e:a.length=n)(σ:L2.St)(H:Hp)(Q:VK)(f:wE K sf C (.op o h a) σ H Q):tCB r (wL K sf C a) σ H Q:=by obtain⟨pv,Z,Fs,η,w,η',A,ev,k⟩:=f;obtain⟨c,b,d⟩:=b8 ev;exact⟨pv,Z,Fs,η,c,η',A,b,λg Z' H' Fs' G B r s=>l c w g Z' H' G Q ((kU b).trans e) d r B.own B.gd.zal<|cH B s k⟩
theorem Hk {o:Op}{h:Ta}{a:E}{r:V->Hp->VK->Prop}(l:Loc K 1 o h λf H Q=>∀x,f=[x]->r x H Q)(σ:L2.St)(H:Hp)(Q:VK)(e:wE K sf C (.op o h [a]) σ H Q):tUn r (wE K sf C a) σ H Q:=by obtain⟨pv,Z,Fs,η,w,η',A,ev,k⟩:=e;obtain⟨i,c,d⟩:=b8 ev;obtain⟨b,η1,g,e1,e2,rfl⟩:=aq c;cases e2;refine⟨pv,Z,Fs,η,b,η',A,e1,λx Z' H' Fs' G B r s=>l [b] w [x] Z' H' G Q rfl d (RepW.one r) B.own B.gd.zal (cH B s k) x rfl⟩
theorem aD {o:Op}{h:Ta}{a b:E}{r:R2}(l:Loc K 2 o h λP H Q=>∀x y,P=[x,y]->r x y H Q)(σ:L2.St)(H:Hp)(Q:VK)(s:wE K sf C (.op o h [a,b]) σ H Q):tOp r (wE K sf C a) (wE K sf C b) σ H Q:=by obtain⟨pv,Z,Fs,η,w,η',A,ev,k⟩:=s;obtain⟨ws,n,p⟩:=b8 ev;obtain⟨M,η1,D,e1,e2,rfl⟩:=aq n;obtain⟨N,η2,D,e3,m,rfl⟩:=aq e2;cases m;refine gQ A e1 λx Z1 H1 Fs1 G1 e t _ s1 _=>?_;have c:=e.mono (G':=G1) λ_ z=>.inr z;refine gQ c e3 λy i g f G2 d u j v B=>?_;exact l [M,N] w [x,y] i g _ Q rfl p ⟨x,[y],G1,G2,rfl,λ_ z=>.inl z,λ_ z=>.inr z,j,t.frame e.gd.own v c.dis,RepW.one u⟩ d.own d.gd.zal (cH d (s1.trans B) k) x y rfl
theorem cQ:Own Z H no:=λ_ z=>z.elim
theorem Step.drop:Step Z H G Z H no:=(Step.refl Z H G).mono (λ_ z=>z) λ_ z=>z.elim
section
variable {Q:VK}{m:Md}{ts:U T}{xs:U V}
theorem aF {i:Int}(k:Out K Z H G (m,.int i) Q):Q (.int i) H:=k _ Z H no rfl cQ .drop
theorem bI {b:Ta}(k:Out K Z H G (m,.bl b) Q):Q (.bl b) H:=k _ Z H no rfl cQ .drop
theorem qJ {x:Str}(k:Out K Z H G (m,.str x) Q)(h:sOk x=L7):Q (.str x) H:=k _ Z H no ⟨rfl,h⟩ cQ .drop
theorem fJ {t:T}{v:V}(o:Own Z H G)(k:Out K Z H G (m,t) Q)(r:Rep K Z H m t v G):Q v H:=k v Z H G r o<|.refl _ _ _
theorem lP {p:S9}{o:HO}(hp:H p=J):Stay Z H (upd H p o):=by
 have b:∀{a u},H a=O u->a≠p:=λ{a u} e z=>by subst z;rw[hp] at e;cases e
 refine⟨λa u _ e=>?_,λa xs e=>?_,λa u v e=>?_⟩
 .rw[ag<|b e];exact e
 .rcases e with e | ⟨u,e⟩
  .exact .inl (by rw[ag<|b e];exact e)
  .exact .inr ⟨u,by rw[ag<|b e];exact e⟩
 .rw[ag<|b e];exact e
theorem iI {p:S9}{o:HO}(hp:H p=J)(j:Own Z H G)(f:∀a,G' a->G a\/a=p)(z:Fp)(g:∀a,Z a->z a)(b:∀a,z a->Z a\/G a):Step Z H G z (upd H p o) G':=by
 have i:∀{a u},H a=O u->a≠p:=λ{a u} e q=>by subst q;rw[hp] at e;cases e
 have d:∀a,H a≠J->upd H p o a≠none:=λa h=>by
  by_cases e:a=p
  .rw[e,ah];simp
  .rw[ag e];exact h
 refine⟨λa u e _=>by rw[ag<|i e];exact e,g,λa h=>(b a h).imp id .inl,λa h=>(f a h).imp id λe=>by rw[e];exact hp,d,λq a h=>d a ?_⟩;rcases b a h with c|c
 .exact q a c
 .obtain ⟨_,xs,e⟩:=j a c;rw[e];simp
theorem cW {p:S9}(b:Own Z H G)(n:∀a,Z a->H a≠J)(c:∀a,G' a->G a)(g:xs.length<=LIM)(r:RepL K (cB Z G G') H m.kid ts xs G')(i:m≠.s)(k:Out K Z H G (m,.lst ts) Q)(hp:H p=J):Q (.ref p) (upd H p<|.lst xs):=by
 have d:∀{a u},H a=O u->a≠p:=λ{a u} e q=>by subst q;rw[hp] at e;cases e
 have j:∀a,G' a->a≠p:=λa h=>by obtain⟨_,f,e⟩:=b a<|c a h;exact d e
 refine k _ (cB Z G G') _ (λa=>G' a\/a=p) ⟨p,xs,rfl,g,(LstR.own i).mpr ⟨.inr rfl,ah⟩,?_⟩ ?_<|iI hp b (λa h=>h.imp (c a) id) _ (λa h=>.inl h) λa h=>h.imp id Om
 .refine(r.keep (lP hp) (λ_ z=>z) λa u _ e=>by rw[ag<|d e];exact e).mono λa h=>⟨.inl h,j a h⟩
 .rintro a (h | h)
  .obtain ⟨l,f,e⟩:=b a<|c a h;exact⟨λz=>z.elim l λq=>q.2 h,f,by rw[ag<|d e];exact e⟩
  .subst h;refine⟨λz=>z.elim (λq=>n a q hp) λq=>?_,.inl xs,ah⟩;obtain⟨_,f,e⟩:=b a q.1;rw[hp] at e;cases e
theorem qA {p:S9}(d:Own Z H G)(b:∀a,G' a->G a)(f:xs.length<=LIM)(r:RepL K (cB Z G G') H m.kid ts xs G')(k:Out K Z H G (m,.tup ts) Q)(hp:H p=J):Q (.ref p) (upd H p<|.tup xs):=by
 have c:∀{a u},H a=O u->a≠p:=λ{a u} e q=>by subst q;rw[hp] at e;cases e
 refine k _ (cB Z G G') _ G' ⟨p,xs,rfl,.inl<|.inl ah,f,?_⟩ ?_<|iI hp d (λa h=>.inl<|b a h) _ (λa h=>.inl h) λa h=>h.imp id Om
 .exact r.keep (lP hp) (λ_ z=>z) λa u _ e=>by rw[ag<|c e];exact e
 .intro a h;obtain⟨g,i,e⟩:=d a<|b a h;exact⟨λz=>z.elim g λq=>q.2 h,i,by rw[ag<|c e];exact e⟩
theorem ig {v:V}{H':Hp}(i:Own Z H G)(g:∀a,G' a->G a)(j:xs.length<=LIM)(r:RepL K (cB Z G G') H m.kid ts xs G')(k:Out K Z H G (m,.tup ts) Q)(same:∀b o,H b=O o->H' b=O o)(n:∃c,v=.ref c/\SqT K H' c xs):Q v H':=by
 obtain⟨c,rfl,l⟩:=n
 have f:∀a,H a≠J->H' a≠none:=λa h=>by
  cases e:H a with
  |none=>exact Tg e h
  |some o=>rw[same a o e];simp
 refine k _ (cB Z G G') _ G' ⟨c,xs,rfl,l,j,?_⟩ (λa h=>?_) ⟨λa o e _=>same a o e,λa h=>.inl h,λa h=>h.imp id λq=>.inl q.1,λa h=>.inl<|g a h,f,λq a h=>f a ?_⟩
 .refine r.keep ⟨fun a o _ e=>same a o e,fun a d e=>?_,fun a o u e=>same a _ e⟩ (fun _ z=>z) fun a u _ e=>same a u e;rcases e with e|⟨u,e⟩
  .exact .inl (same a _ e)
  .exact .inr ⟨u,same a _ e⟩
 .obtain ⟨p,d,e⟩:=i a<|g a h;exact⟨λz=>z.elim p λq=>q.2 h,d,same a _ e⟩
 .rcases h with h | h
  .exact q a h
  .obtain ⟨_,d,e⟩:=i a h.1;rw[e];simp
theorem eg {p:S9}{h:Ta}{w:W}(g:Own Z H G)(i:∀a,Z a->H a≠J)(f:xs.length<=LIM)(r:∃G',(∀a,G' a->G a)/\RepL K (cB Z G G') H m ts xs G')(b:newL h m ts=O w)(k:Out K Z H G w Q)(hp:H p=J):Q (.ref p) (upd H p<|.lst xs):=by
 obtain⟨G',j,r⟩:=r;unfold newL at b;split at b
 .split at b
  .rename_i c;cases b;refine cW (m:=.d) (G':=no) g i (λ_ z=>z.elim) f ?_ (by simp) k hp;exact r.leaves (λ_ _ _ e=>e) c
  .cases b
 .cases b;exact cW (m:=m.up) g i j f (by rw[fg];exact r) (dz m) k hp
end
end
section
variable {K:L9}{h:Ta}
theorem dD {d f:Type}{c:U d}{x y:f}(e:c.length=[x,y].length):∃a b,c=[a,b]:=by
 match c,e with
 |[a,b],_=>exact⟨a,b,rfl⟩
theorem IV {c d:Type}{b:U c}{x:d}(e:b.length=[x].length):∃a,b=[a]:=by
 match b,e with
 |[a],_=>exact⟨a,rfl⟩
theorem bM {Z:Fp}{H:Hp}{G:Fp}{u w:W}{x y:V}(r:RepW K Z H [u,w] [x,y] G):∃G1 G2,(∀a,G1 a->G a)/\(∀a,G2 a->G a)/\(∀a,G1 a->¬G2 a)/\Rep K Z H u.1 u.2 x G1/\Rep K Z H w.1 w.2 y G2:=by obtain⟨s,n,G1,G2,e,g,i,d,p,t,o,f,k,e2,c,m,l,q,z⟩:=r;cases e;cases e2;exact⟨G1,f,g,λa b=>i a<|c a b,λa b j=>d a b<|c a j,p,q⟩
theorem B7 {Z:Fp}{H:Hp}{G:Fp}{w:W}{x:V}(r:RepW K Z H [w] [x] G):Rep K Z H w.1 w.2 x G:=by obtain⟨f,c,G1,G2,e,a,b,d,p,z⟩:=r;cases e;exact p.mono a
theorem bE {b:U W}{a:U V}{Z:Fp}{H:Hp}{G:Fp}{w:W}(c:b=[w])(r:RepW K Z H b a G):∃x,a=[x]/\Rep K Z H w.1 w.2 x G:=by subst c;obtain⟨x,hx⟩:=IV (x:=())<|show a.length=[()].length from r.length;subst hx;exact⟨x,rfl,B7 r⟩
theorem oQ {n:Y}(h:n<=LIM):n<sizeLine:=Pm h<|by decide
theorem cw {n:Y}(h:n<=LIM):n<=sizeLine:=PK<|oQ h
theorem cM {n:Y}(h:fits n=L7):n<=LIM:=Ts h
theorem vd {o:Op}{C:Int->Int->Prop}{g:Int->Int->T}(a:∀{u v w:W},oSem o h [u,v]=O w->∃m n i j,u=(m,.int i)/\v=(n,.int j)/\C i j/\w=(.d,g i j))(b:Int->Int->V)(l:∀{Z:Fp} {H:Hp} {G:Fp} {Q:VK} {i j:Int},Out K Z H G (.d,g i j) Q->Q (b i j) H):
  Loc K 2 o h λf H Q=>∀x y,f=[x,y]->rI C b x y H Q:=by
 intro A w f Z H G Q t e r z B k x y hx;subst hx;obtain⟨u,v,rfl⟩:=dD r.length.symm;obtain⟨m,n,i,j,rfl,rfl,c,rfl⟩:=a e;obtain⟨G1,G2,_,_,_,p,s⟩:=bM r;exact⟨i,j,p,s,c,l k⟩
theorem jb {o:Op}{g:Int->Int->T}(a:∀{u v w:W},oSem o h [u,v]=O w->∃m n i j,u=(m,.int i)/\v=(n,.int j)/\w=(.d,g i j))(b:Int->Int->V)(f:∀{Z:Fp} {H:Hp} {G:Fp} {Q:VK} {i j:Int},Out K Z H G (.d,g i j) Q->Q (b i j) H):
  Loc K 2 o h λc H Q=>∀x y,c=[x,y]->rI0 b x y H Q:=by
 intro z w c Z H G Q s e r t A k x y hx;subst hx;obtain⟨u,v,rfl⟩:=dD r.length.symm;obtain⟨m,n,i,j,rfl,rfl,rfl⟩:=a e;obtain⟨G1,G2,_,_,_,l,p⟩:=bM r;exact⟨i,j,l,p,f k⟩
theorem yh {u v w:W}(e:oSem .sub h [u,v]=O w):∃m n i j,u=(m,.int i)/\v=(n,.int j)/\w=(.d,.int<|i-j):=by obtain⟨m,a⟩:=u;obtain⟨n,b⟩:=v;cases a<;>first|(cases e;done)|(cases b<;>first|(cases e;exact⟨_,_,_,_,rfl,rfl,rfl⟩)|cases e)
theorem kF {u v w:W}(e:oSem .lt h [u,v]=O w):∃m n i j,u=(m,.int i)/\v=(n,.int j)/\w=(.d,.bl<|decide (i<j)):=by obtain⟨m,a⟩:=u;obtain⟨n,b⟩:=v;cases a<;>first|(cases e;done)|(cases b<;>first|(cases e;exact⟨_,_,_,_,rfl,rfl,rfl⟩)|cases e)
theorem dZ {u v w:W}(e:oSem .le h [u,v]=O w):∃m n i j,u=(m,.int i)/\v=(n,.int j)/\w=(.d,.bl<|decide (i<=j)):=by obtain⟨m,a⟩:=u;obtain⟨n,b⟩:=v;cases a<;>first|(cases e;done)|(cases b<;>first|(cases e;exact⟨_,_,_,_,rfl,rfl,rfl⟩)|cases e)
theorem uH {u v w:W}(e:oSem .gt h [u,v]=O w):∃m n i j,u=(m,.int i)/\v=(n,.int j)/\w=(.d,.bl<|decide (j<i)):=by obtain⟨m,a⟩:=u;obtain⟨n,b⟩:=v;cases a<;>first|(cases e;done)|(cases b<;>first|(cases e;exact⟨_,_,_,_,rfl,rfl,rfl⟩)|cases e)
theorem wU {u v w:W}(e:oSem .ge h [u,v]=O w):∃m n i j,u=(m,.int i)/\v=(n,.int j)/\w=(.d,.bl<|decide (j<=i)):=by obtain⟨m,a⟩:=u;obtain⟨n,b⟩:=v;cases a<;>first|(cases e;done)|(cases b<;>first|(cases e;exact⟨_,_,_,_,rfl,rfl,rfl⟩)|cases e)
theorem ve {u v w:W}(e:oSem .fdiv h [u,v]=O w):∃m n i j,u=(m,.int i)/\v=(n,.int j)/\Fw i j/\w=(.d,.int<|i / j):=by
 obtain⟨m,a⟩:=u;obtain⟨n,b⟩:=v;cases a<;>first|(cases e;done)|(cases b<;>try (cases e;done))
 rename_i i j;rw[ug] at e;split at e
 .rename_i c;rw[Mv,Tj,Tj] at c;cases e;exact⟨_,_,_,_,rfl,rfl,c,rfl⟩
 .cases e
theorem Ah {u v w:W}(e:oSem .mod h [u,v]=O w):∃m n i j,u=(m,.int i)/\v=(n,.int j)/\(0<j)/\w=(.d,.int<|i % j):=by
 obtain⟨m,a⟩:=u;obtain⟨n,b⟩:=v;cases a<;>first|(cases e;done)|(cases b<;>try (cases e;done))
 rename_i i j;rw[BL] at e;split at e
 .rename_i c;rw[Tj] at c;cases e;exact⟨_,_,_,_,rfl,rfl,c,rfl⟩
 .cases e
theorem zM {u v w:W}(e:oSem .pow h [u,v]=O w):∃m n i j,u=(m,.int i)/\v=(n,.int j)/\Fg i j/\w=(.d,.int<|i ^ j.toNat):=by
 obtain⟨m,a⟩:=u;obtain⟨n,b⟩:=v;cases a<;>first|(cases e;done)|(cases b<;>try (cases e;done))
 rename_i i j;rw[JE] at e;split at e
 .rename_i c;rw[Mv,Mv,Tj,Tj,Tj] at c;cases e;exact⟨_,_,_,_,rfl,rfl,⟨c.1.1,c.1.2,c.2⟩,rfl⟩
 .cases e
theorem yz:Loc K 2 .sub h λa H Q=>∀x y,a=[x,y]->rI0 (λi j=>.int<|i-j) x y H Q:=jb yh _ λk=>aF k
theorem vV:Loc K 2 .lt h λa H Q=>∀x y,a=[x,y]->rI0 (λi j=>.bl<|decide (i<j)) x y H Q:=jb kF _ λk=>bI k
theorem tQ:Loc K 2 .le h λa H Q=>∀x y,a=[x,y]->rI0 (λi j=>.bl<|decide (i<=j)) x y H Q:=jb dZ _ λk=>bI k
theorem C9:Loc K 2 .gt h λa H Q=>∀x y,a=[x,y]->rI0 (λi j=>.bl<|decide (j<i)) x y H Q:=jb uH _ λk=>bI k
theorem xQ:Loc K 2 .ge h λa H Q=>∀x y,a=[x,y]->rI0 (λi j=>.bl<|decide (j<=i)) x y H Q:=jb wU _ λk=>bI k
theorem vZ:Loc K 2 .fdiv h λa H Q=>∀x y,a=[x,y]->rI Fw (λi j=>.int<|i / j) x y H Q:=vd ve _ λk=>aF k
theorem zK:Loc K 2 .mod h λa H Q=>∀x y,a=[x,y]->rI (λ_ j=>0<j) (λi j=>.int<|i % j) x y H Q:=vd Ah _ λk=>aF k
theorem BD:Loc K 2 .pow h λa H Q=>∀x y,a=[x,y]->rI Fg (λi j=>.int<|i ^ j.toNat) x y H Q:=vd zM _ λk=>aF k
theorem Bj:Loc K 1 .neg h λb H Q=>∀x,b=[x]->rU (λi=>.int (-i)) x H Q:=by intro f w b Z H G Q c e r d g k x hx;subst hx;obtain⟨⟨m,a⟩,rfl⟩:=IV r.length.symm;cases a<;>first|(cases e;exact⟨_,B7 r,aF k⟩)|cases e
theorem aM {Z:Fp}{H:Hp}{G:Fp}{m:Md}{c:U T}{v:V}(r:Rep K Z H m (.lst c) v G):∃a b,v=.ref a/\H a=O (.lst b)/\b.length<=LIM/\RepL K Z H m.kid c b G:=by obtain⟨a,b,e,l,q,p⟩:=r;exact⟨a,b,e,by cases m<;>exact q.2,l,p.mono λ_ z=>z.1⟩
theorem cO {Z:Fp}{H:Hp}{G:Fp}{m:Md}{c:U T}{v:V}(r:Rep K Z H m (.tup c) v G):∃a b,v=.ref a/\SqT K H a b/\b.length<=LIM/\RepL K Z H m.kid c b G:=r
theorem iT {Z:Fp}{H:Hp}{G G1 G2:Fp}{m n:Md}{i j:U T}{o p:U V}(k:∀a,G1 a->G a)(l:∀a,G2 a->G a)(d:∀a,G1 a->¬G2 a)(t:RepL K Z H m i o G1)(u:RepL K Z H n j p G2):
  ∃e,(∀a,e a->G a)/\RepL K (cB Z G e) H (m.meet n) (i++j) (o++p) e:=by
 obtain⟨A,f,r⟩:=RepL.weak (fL m n).1 t;obtain⟨B,g,s⟩:=RepL.weak (fL m n).2 u;refine⟨λb=>A b\/B b,λb c=>c.elim (λz=>k b<|f b z) λz=>l b<|g b z,RepL.append (λ_ z=>.inl z) (λ_ z=>.inr z) (λb v x=>d b (f b v)<|g b x) (r.zmono λb c=>?_)<|s.zmono λb c=>?_⟩
 .exact c.imp id λz=>⟨k b z.1,λq=>q.elim z.2 λw=>d b z.1<|g b w⟩
 .exact c.imp id λz=>⟨l b z.1,λq=>q.elim (λw=>d b (f b w) z.1) z.2⟩
theorem Aw {p q:Str}(a:sOk p=L7)(b:sOk q=L7)(c:p.cps.size+q.cps.size<=LIM):sOk (p++q)=true:=by
 unfold sOk at *;rw[Mv] at *;refine⟨?_,Te ?_⟩
 .show Array.all (p.cps++q.cps) _=L7;rw[Array.all_append,Mv];exact⟨a.1,b.1⟩
 .show (p.cps++q.cps).size<=LIM;rw[Array.size_append];exact c
theorem yj (rT:R2)(hT:∀{Z:Fp} {H:Hp} {G:Fp} {Q:VK} {a b:S9} {c l:U V} {A:U T},SqT K H a c->SqT K H b l->c≠[]->c.length+l.length<=LIM->Own Z H G->(∃B,(∀a,B a->G a)/\RepL K (cB Z G B) H .s A (c++l) B)->Out K Z H G (.s,.tup A) Q->rT (.ref a) (.ref b) H Q):
  Loc K 2 .add h λc H Q=>∀x y,c=[x,y]->rI0 (λi j=>.int<|i+j) x y H Q\/(∃i j,x=.str i/\y=.str j/\i.length+j.length<=sizeLine/\Q (.str<|i++j) H)\/Kb x y H Q\/rT x y H Q:=by
 intro ws w c Z H G Q hn e r P za k x y hx;subst hx;obtain⟨⟨m,a⟩,⟨n,b⟩,rfl⟩:=dD r.length.symm;obtain⟨G1,G2,w1,w2,d,u,v⟩:=bM r;cases a<;>first|(cases e;done)|(cases b<;>try (cases e;done))
 .cases e;exact .inl ⟨_,_,u,v,aF k⟩
 .rename_i p q;rw[u6] at e;split at e
  .rename_i f;cases e;refine .inr<|.inl ⟨p,q,u.1,v.1,cw<|cM f,qJ k ?_⟩;exact Aw u.2 v.2<|cM f
  .cases e
 .rename_i A us;rw[ui] at e;split at e
  .rename_i f;cases e;rw[Mv] at f;obtain⟨a,c,rfl,N,hl,p⟩:=cO u;obtain⟨b,l,rfl,g,F,t⟩:=cO v;have o:=cM f.1;have e1:=p.length;have e2:=t.length;refine .inr (.inr (.inr (hT N g ?_ (by lia) P ?_ k)))
   .rintro rfl;cases A with
    |nil=>simp at f
    |cons _ _=>simp at e1
   .refine ⟨no,fun _ z=>z.elim,RepL.append (G1:=no) (G2:=no) (fun _ z=>z) (fun _ z=>z) (fun _ z _=>z) ((RepL.sh p).zmono fun b D=>?_) ((RepL.sh t).zmono fun b D=>?_)⟩
    .exact D.imp id λz=>⟨w1 b z,λq=>q⟩
    .exact D.imp id λz=>⟨w2 b z,λq=>q⟩
  .cases e
 .rename_i A us;rw[wH] at e;split at e
  .rename_i f;obtain⟨a,c,rfl,N,hl,p⟩:=aM u;obtain⟨b,l,rfl,g,F,t⟩:=aM v;have o:=cM f;have e1:=p.length;have e2:=t.length;have M:(c++l).length<=LIM:=by rw[MA];lia
   refine .inr<|.inr<|.inl ⟨a,b,c,l,rfl,rfl,N,g,cw<|by lia,λq hq=>?_⟩;exact eg P za M (iT w1 w2 d p t) e k hq
  .cases e
theorem AU:Loc K 2 .mul h λg H Q=>∀x y,g=[x,y]->rI CMul (λi j=>.int<|i * j) x y H Q\/IJ x y H Q:=by
 intro ws w g Z H G Q hn e r P za k x y hx;subst hx;obtain⟨⟨m,a⟩,⟨n,b⟩,rfl⟩:=dD r.length.symm;obtain⟨G1,G2,w1,w2,d,v,A⟩:=bM r;cases a<;>first|(cases e;done)|(cases b<;>try (cases e;done))
 .rename_i i j;rw[xM] at e;split at e
  .rename_i l;cases e;refine .inl ⟨i,j,v,A,?_,aF k⟩;rw[QN,Tj,Tj] at l;have t:(2:Int) ^ 64=18446744073709551616:=by decide
   unfold CMul;rw[t];lia
  .cases e
 .rename_i B j;have o:(if decide (j.natAbs<4611686018427387904)&&fits (B.length * j.toNat) then newL h .s (Mr j.toNat B).flatten else J)=O w:=e;split at o
  .rename_i l;rw[Mv,Tj] at l;obtain⟨a,g,rfl,M,hl,p⟩:=aM v;have f:=cM l.2;have e1:=p.length;have u:((Mr j.toNat g).flatten).length<=LIM:=by rw[List.length_flatten,List.map_replicate,List.sum_replicate_nat,e1,Rw];exact f
   refine .inr ⟨a,j,g,rfl,A,M,by lia,by lia,cw<|by rw[e1];exact f,λq F=>?_⟩;refine eg P za u ⟨no,λ_ z=>z.elim,?_⟩ o k F;have ps:=(RepL.sh p).zmono (Z':=cB Z G no) λb D=>D.imp id λz=>⟨w1 b z,λq=>q⟩;generalize j.toNat=c;induction c with
   |zero=>exact rfl
   |succ c N=>exact RepL.append (λ_ z=>z) (λ_ z=>z) (λ_ z _=>z) ps N
  .cases o
theorem tV {Z:Fp}{H:Hp}{G:Fp}{m:Md}{a:U T}{b:U V}{i:Int}{t:T}(p:RepL K Z H m a b G)(e:M.atI a i=O t):∃x,L2.atI b i=O x/\Rep K Z H m t x G:=by
 unfold M.atI at e;have c:M.ixN a.length i=L2.ixN b.length i:=by rw[p.length];rfl
 cases e1:M.ixN a.length i with
 |none=>rw[e1] at e;cases e
 |some j=>rw[e1] at e;obtain⟨x,hx,r⟩:=p.get<|show a[j]?=O t from e;refine⟨x,?_,r⟩;unfold L2.atI;rw[<- c,e1];exact hx
theorem yr {x:Str}{c:Y}(h:sOk x=L7)(d:c∈x.cps.toList):sOk ⟨#[c]⟩=true:=by
 unfold sOk at *;rw[Mv] at *;refine⟨?_,rfl⟩;have a:=h.1;rw[Ri] at a;have b:=a c<|Array.mem_def.mpr d;rw[Ri];intro y e;have:y=c:=by simpa using e
 rw[this];exact b
theorem lz {x:Str}(h:sOk x=L7):x.cps.size<=LIM:=by unfold sOk at h;rw[Mv,Tj] at h;exact h.2
theorem D3:Loc K 2 .ix h λg H Q=>∀x y,g=[x,y]->(∃p g i v,x=.ref p/\y=.int i/\(SqL K H p g\/SqT K H p g)/\L2.atI g i=O v/\Q v H)\/(∃z i c,x=.str z/\y=.int i/\z.length<=sizeLine/\L2.atI z.cps.toList i=O c/\Q (.str ⟨#[c]⟩) H):=by
 intro ws w g Z H G Q hn e r F za k x y hx;subst hx;obtain⟨⟨m,a⟩,⟨n,b⟩,rfl⟩:=dD r.length.symm;obtain⟨G1,G2,N,w2,d,o,A⟩:=bM r;obtain⟨i,rfl⟩:∃i,b=.int i:=by cases b<;>first|exact⟨_,rfl⟩|(cases e;done)|(cases a<;>cases e)
 cases a with
 | lst u =>
  obtain⟨a,g,rfl,s,P,p⟩:=aM o;have f:(M.atI u i).map (λt=>(m.kid,t))=O w:=e;cases e1:M.atI u i with
  |none=>rw[e1] at f;cases f
  |some t=>rw[e1] at f;cases f;obtain⟨v,B,D⟩:=tV p e1;exact .inl ⟨a,g,i,v,rfl,A,.inl<|.inl<|.inl s,B,fJ F k<|D.mono N⟩
 | tup u =>
  obtain⟨a,g,rfl,s,P,p⟩:=cO o;have f:(M.atI u i).map (λt=>(m.kid,t))=O w:=e;cases e1:M.atI u i with
  |none=>rw[e1] at f;cases f
  |some t=>rw[e1] at f;cases f;obtain⟨v,B,D⟩:=tV p e1;exact .inl ⟨a,g,i,v,rfl,A,.inr s,B,fJ F k<|D.mono N⟩
 | str z =>
  have f:(M.atI z.cps.toList i).map (λc=>((.d,.str ⟨#[c]⟩):W))=O w:=e;cases e1:M.atI z.cps.toList i with
  |none=>rw[e1] at f;cases f
  |some c=>
   rw[e1] at f;cases f;refine .inr ⟨z,i,c,o.1,A,cw<|lz o.2,e1,qJ k<|yr o.2 ?_⟩;unfold M.atI at e1;cases e2:M.ixN z.cps.toList.length i with
   |none=>rw[e2] at e1;cases e1
   |some j=>rw[e2] at e1;exact Qu e1
 | scr l =>
  obtain⟨a,rfl,hL,s⟩:=o;have f:(M.atI l i).map (λn=>((.d,.int n):W))=O w:=e;cases e1:M.atI l i with
  |none=>rw[e1] at f;cases f
  | some n =>
   rw[e1] at f;cases f;refine .inl ⟨a,_,i,.int n,rfl,A,.inl s.sq,?_,aF k⟩;unfold M.atI at e1;unfold L2.atI;rw[Mg];cases e2:M.ixN l.length i with
   |none=>rw[e2] at e1;cases e1
   |some j=>rw[e2] at e1;rw[show L2.ixN l.length i=O j from e2];show(l.map V.int)[j]?=_;rw[MO,show l[j]?=O n from e1];rfl
 |_=>cases e
theorem Bw:Loc K 1 .len h λb H Q=>∃x n,b=[x]/\(match x with
  |.str y=>y.length<=sizeLine/\n=y.length
  |.byt y=>y.size<=sizeLine/\n=y.size
  |.ref p=>(∃b,SqL K H p b/\n=b.length)\/∃b,SqT K H p b/\n=b.length
  |_=>Tw)/\Q (.int (n:Y)) H:=by
 intro l w b Z H G Q i e r s t k
 match l,i with
 | [(m,a)],_ =>
  obtain⟨x,rfl,d⟩:=bE rfl r;cases a with
  |lst f=>obtain⟨a,b,hx,c,g,p⟩:=aM d;cases e;refine⟨x,f.length,rfl,?_,aF k⟩;rw[show x=.ref a from hx];exact .inl ⟨b,.inl<|.inl c,p.length.symm⟩
  |tup f=>obtain⟨a,b,hx,c,g,p⟩:=cO d;cases e;refine⟨x,f.length,rfl,?_,aF k⟩;rw[show x=.ref a from hx];exact .inr ⟨b,c,p.length.symm⟩
  |str z=>cases e;refine⟨x,z.length,rfl,?_,aF k⟩;rw[show x=.str z from d.1];exact⟨cw<|lz d.2,rfl⟩
  |scr j=>obtain⟨a,hx,o,c⟩:=d;cases e;refine⟨x,j.length,rfl,?_,aF k⟩;rw[show x=.ref a from hx];exact .inl ⟨_,c.sq,by rw[Mg]⟩
  |_=>cases e
theorem iu {Z:Fp}{H:Hp}{G:Fp}{m:Md}:∀a:U Int,RepL K Z H m (a.map T.int) (a.map V.int) G
|[]=>rfl
|n::a=>⟨.int n,a.map V.int,no,no,rfl,λ_ z=>z.elim,λ_ z=>z.elim,λ_ z=>z.elim,rfl,iu a⟩
theorem uK:Loc K 1 .list h λb H Q=>∃p j,b=[.ref p]/\(SqL K H p j\/SqT K H p j)/\∀l,H l=J->Q (.ref l) (upd H l<|.lst j):=by
 intro v w b Z H G Q s e r g n k
 match v,s with
 | [(m,a)],_ =>
  obtain⟨x,rfl,i⟩:=bE rfl r;cases a with
  |lst u=>obtain⟨a,b,hx,d,f,p⟩:=aM i;refine⟨a,b,by rw[hx],.inl<|.inl<|.inl d,λq c=>eg g n f ⟨G,λ_ z=>z,p.zmono λ_ z=>.inl z⟩ e k c⟩
  |tup u=>obtain⟨a,b,hx,d,f,p⟩:=cO i;refine⟨a,b,by rw[hx],.inr d,λq c=>eg g n f ⟨G,λ_ z=>z,p.zmono λ_ z=>.inl z⟩ e k c⟩
  |scr t=>obtain⟨a,hx,o,d⟩:=i;cases e;refine⟨a,_,by rw[hx],.inl d.sq,λq c=>cW (G':=no) g n (λ_ z=>z.elim) (by rw[Mg];exact o) (iu t) (by simp) k c⟩
  |_=>cases e
theorem iO {Z:Fp}{H:Hp}{G:Fp}{m:Md}:∀{a:U T} {b:U Int} {c:U V},intsOf a=O b->RepL K Z H m a c G->c=b.map V.int:=by
 intro a;induction a generalizing G with
 |nil=>intro b c e r;cases e;exact r
 | cons t a d =>
  intro b c e r;obtain⟨x,g,G1,G2,rfl,_,_,_,p,q⟩:=r;cases t with
  | int i =>
   cases e1:intsOf a with
   |none=>simp[intsOf,e1] at e
   |some f=>
    have:b=i::f:=by simpa[intsOf,e1] using e.symm
    subst this;rw[ME,<- d e1 q,show x=.int i from p]
  |_=>cases e
theorem jK {Z:Fp}{H:Hp}{G:Fp}{m:Md}:∀{a:U T} {b:U Ta} {c:U V},boolsOf a=O b->RepL K Z H m a c G->c=b.map V.bl:=by
 intro a;induction a generalizing G with
 |nil=>intro b c e r;cases e;exact r
 | cons t a d =>
  intro b c e r;obtain⟨x,g,G1,G2,rfl,_,_,_,p,q⟩:=r;cases t with
  | bl i =>
   cases e1:boolsOf a with
   |none=>simp[boolsOf,e1] at e
   |some f=>
    have:b=i::f:=by simpa[boolsOf,e1] using e.symm
    subst this;rw[ME,<- d e1 q,show x=.bl i from p]
  |_=>cases e
theorem AE:Loc K 1 .sum h λf H Q=>∃(a:S9) (b:U Int),f=[.ref a]/\SqL K H a (b.map V.int)/\Q (.int b.sum) H:=by
 intro n w f Z H G Q j e r s t k
 match n,j with
 | [(m,a)],_ =>
  obtain⟨x,rfl,l⟩:=bE rfl r;cases a with
  | lst i =>
   obtain⟨a,f,hx,g,o,p⟩:=aM l;have c:(intsOf i).map (λb=>((.d,.int b.sum):W))=O w:=e;cases e1:intsOf i with
   |none=>rw[e1] at c;cases c
   |some b=>rw[e1] at c;cases c;rw[iO e1 p] at g;exact⟨a,b,by rw[hx],.inl<|.inl g,aF k⟩
  |_=>cases e
theorem zZ:Loc K 1 .all h λf H Q=>∃(a:S9) (bs:U Ta),f=[.ref a]/\SqL K H a (bs.map V.bl)/\Q (.bl<|bs.all id) H:=by
 intro n w f Z H G Q j e r s t k
 match n,j with
 | [(m,a)],_ =>
  obtain⟨x,rfl,l⟩:=bE rfl r;cases a with
  | lst i =>
   obtain⟨a,f,hx,g,o,p⟩:=aM l;have b:(boolsOf i).map (λc=>((.d,.bl (c.all id)):W))=O w:=e;cases e1:boolsOf i with
   |none=>rw[e1] at b;cases b
   |some c=>rw[e1] at b;cases b;rw[jK e1 p] at g;exact⟨a,c,by rw[hx],.inl<|.inl g,bI k⟩
  |_=>cases e
theorem yN:Loc K 2 .max h λc H Q=>∃i j,c=[.int i,.int j]/\Q (.int<|if j>i then j else i) H:=by
 intro l w c Z H G Q d e r o p k
 match l,d with
 |[(m,a),(n,b)],_=>obtain⟨x,y,hx⟩:∃x y,c=[x,y]:=dD (x:=()) (y:=())<|show c.length=[(),()].length from r.length;subst hx;obtain⟨G1,G2,_,_,_,f,g⟩:=bM r;cases a<;>first|(cases e;done)|(cases b<;>first|(cases e;exact⟨_,_,by rw[show x=_ from f,show y=_ from g],aF k⟩)|cases e)
theorem yo:Loc K 2 .min h λc H Q=>∃i j,c=[.int i,.int j]/\Q (.int<|if j<i then j else i) H:=by
 intro l w c Z H G Q d e r o p k
 match l,d with
 |[(m,a),(n,b)],_=>obtain⟨x,y,hx⟩:∃x y,c=[x,y]:=dD (x:=()) (y:=())<|show c.length=[(),()].length from r.length;subst hx;obtain⟨G1,G2,_,_,_,f,g⟩:=bM r;cases a<;>first|(cases e;done)|(cases b<;>first|(cases e;exact⟨_,_,by rw[show x=_ from f,show y=_ from g],aF k⟩)|cases e)
end
section
variable {K:L9}{sl:Cf}{sf:Y->I Y}{C:Call}{σ:L2.St}{Z Z' Z1:Fp}{H H' H1:Hp}{Fs Fs' Fs1:Fps}{η η' η1:Env}{G G' R F:Fp}
mutual
theorem Rep.sany:∀{t:T} {v:V} {G G':Fp},Rep K Z H .s t v G->Rep K Z H .s t v G'
|.non,_,_,_,h=>h
|.bl _,_,_,_,h=>h
|.int _,_,_,_,h=>h
|.str _,_,_,_,h=>h
|.scr _,_,_,_,h=>h
|.tup ts,_,_,_,hh=>by obtain⟨a,xs,e,q,l,r⟩:=hh;exact⟨a,xs,e,q,l,RepL.sany r⟩
|.lst ts,_,_,_,hh=>by obtain⟨a,xs,e,l,q,r⟩:=hh;exact⟨a,xs,e,l,q,RepL.sany r⟩
|.dct _ _,_,_,_,hh=>by obtain⟨a,xs,e,l,q,n,hl,r⟩:=hh;exact⟨a,xs,e,l,q,n,hl,r⟩
|.ins _ _ _,_,_,_,h=>h
|.dtt _ _,_,_,_,h=>h
|.obj _ _ _,_,_,_,h=>h
|.gone,_,_,_,h=>h
theorem RepL.sany:∀{ts:U T} {xs:U V} {G G':Fp},RepL K Z H .s ts xs G->RepL K Z H .s ts xs G'
|[],_,_,_,h=>h
|t::ts,xs,_,_,hh=>by obtain⟨x,r,G1,G2,e,h1,h2,hd,p,q⟩:=hh;exact⟨x,r,no,no,e,λ_ z=>z.elim,λ_ z=>z.elim,λ_ z=>z.elim,Rep.sany p,RepL.sany q⟩
end
theorem cA:∀(η:Env) (i j:Y) (o:I W),rd (wr η i o) j=if j=i/\i < η.length then o else rd η j
|[],i,j,o=>by simp[wr,rd]
|p::η,0,0,o=>by simp[wr,rd]
|p::η,0,j+1,o=>by simp[wr,rd]
|p::η,i+1,0,o=>by simp[wr,rd]
|p::η,i+1,j+1,o=>by show rd (wr η i o) j=_;rw[cA η i j o];simp[rd]
theorem eU:∀{η:Env} {i:Y} {w:W},rd η i=O w->i < η.length
|[],_,_,h=>by cases h
|_::_,0,_,_=>by simp
|_::η,i+1,_,h=>by have:=eU (η:=η) (i:=i) h;simp;exact this
theorem fY (h:∀a,F a->G a):Step Z H G Z H F:=(Step.refl Z H G).mono (λ_ z=>z) h
theorem C4 {i j:Y}(f:sf i=O j)(σ:L2.St)(H:Hp)(Q:VK)(h:wE K sf C (.var i) σ H Q):wZ j σ H Q:=by
 obtain⟨pv,Z,Fs,η,w,η',A,ev,k⟩:=h;obtain⟨l,e1,e2⟩:=aA<|show ret η ((rd η i).bind look)=_ from ev;cases e2;cases e3:rd η i with
 |none=>rw[e3] at e1;cases e1
 | some u =>
  rw[e3] at e1;obtain⟨m,t⟩:=u;obtain⟨v,r,g⟩:=A.env i m t e3;refine⟨v,g.1 j f,k v Z H Fs no A ?_<|fY λa e=>e.elim id λz=>z.elim⟩;cases m with
  |s=>cases e1;exact r.sany
  |d=>
   have b:(if t.leaf=L7 then O (Md.d,t) else J)=O w:=e1;split at b
   .rename_i c;cases b;exact r.leaf (λ_ _ _ q=>q) c
   .cases b
  |o m=>
   have b:(if t.leaf=L7 then O (Md.d,t) else J)=O w:=e1;split at b
   .rename_i c;cases b;exact r.leaf (λ_ _ _ q=>q) c
   .cases b
def K3 (Fs:Fps)(i:Y):Fps:=λj a=>j≠i/\Fs j a
theorem GW {e:E}{i j:Y}(o:∀η,evE C e η=ret (del η i) (rd η i))(p:sf i=O j)(σ:L2.St)(H:Hp)(Q:VK)(h:wE K sf C e σ H Q):wZ j σ H Q:=by
 obtain⟨pv,Z,Fs,η,w,η',A,ev,k⟩:=h;rw[o] at ev;obtain⟨M,e1,e2⟩:=aA ev;cases e2;obtain⟨m,t⟩:=w;obtain⟨v,r,s⟩:=A.env i m t e1;refine⟨v,s.1 j p,k v Z H (K3 Fs i) (Fs i) ⟨⟨λa ⟨l,d,b⟩=>A.gd.own a ⟨l,b⟩,λl u a d b=>A.gd.dis l u a d.2 b.2,A.gd.zal⟩,λl x B e=>?_,λa c=>A.gd.own a ⟨i,c⟩,λa c ⟨l,d,b⟩=>d<|A.gd.dis l i a b c,A.lk,A.ln⟩ r<|fY λa c=>c.elim (λ⟨l,d,b⟩=>⟨l,b⟩) λz=>⟨i,z⟩⟩;rw[cA] at e;split at e
 .cases e
 .rename_i g;obtain⟨D,y,n⟩:=A.env l x B e;have f:l≠i:=λz=>g ⟨z,eU e1⟩;exact⟨D,y.mono λa c=>⟨f,c⟩,n⟩
theorem jf {t:T}{v:V}(c:∀{Z:Fp} {H:Hp},Rep K Z H .d t v no)(σ:L2.St)(H:Hp)(Q:VK)(h:wE K sf C (.cst t) σ H Q):tC v σ H Q:=by obtain⟨pv,Z,Fs,η,w,η',A,ev,k⟩:=h;cases ev;exact k v Z H Fs no A c<|fY λa b=>b.elim id λz=>z.elim
theorem GV {a:U E}(i:a.length<=LIM)(σ:L2.St)(H:Hp)(Q:VK)(h:wE K sf C (.tup a) σ H Q):Jr (wL K sf C a) σ H Q:=by
 obtain⟨pv,Z,Fs,η,w,η',A,ev,k⟩:=h;obtain⟨⟨d,η1⟩,b,g⟩:=ae<|show(evL C a η).bind vm=_ from ev;cases g;refine⟨pv,Z,Fs,η,d,_,A,b,λl Z' H' Fs' G B r s=>?_⟩;have c:l.length<=LIM:=by rw[r.length,kU b];exact i
 obtain⟨G',e,f⟩:=RepW.to (λu j=>l9 j) r;refine⟨cw c,λp hp=>qA (m:=(jB d).up) B.own e c (by rw[fg];exact f) (cH B s k) hp⟩
def wT (K:L9)(sl:Y->I Y)(C:Call)(e:E):TT:=λσ H Q=>∃pv Z Fs η w η' b,At K ⟨sl,pv⟩ σ Z H Fs η no/\evE C e η=.ok (w,η')/\truth w.2=O b /\
 ∀Z' H' Fs',At K ⟨sl,pv⟩ σ Z' H' Fs' η' no->Step Z H (tot Fs) Z' H' (tot Fs')->Q b H'
def TrV (K:L9)(x:V)(H:Hp)(k:Ta):Prop:=
 match x with
 |.non=>k=L5
 |.bl b=>k=b
 |.int i=>k=(i != 0)
 |.str y=>y.length<=sizeLine/\k=((y.length:Int) != 0)
 |.ref p=>(∃a,SqL K H p a/\k=!a.isEmpty)\/(∃a,SqT K H p a/\k=!a.isEmpty)
 |_=>Tw
theorem d6 {c d:Type}{a:U c}{b:U d}(h:a.length=b.length):a.isEmpty=b.isEmpty:=by cases a<;>cases b<;>first|rfl|simp at h
theorem gg {m:Md}{t:T}{v:V}{b:Ta}(e:truth t=O b)(r:Rep K Z H m t v G):TrV K v H b:=by
 cases t with
 |non=>cases e;rw[show v=_ from r];rfl
 |bl c=>cases e;rw[show v=_ from r];rfl
 |int i=>cases e;rw[show v=_ from r];rfl
 |str x=>
  cases e;rw[show v=_ from r.1];refine⟨cw<|lz r.2,?_⟩;show(x.cps.size != 0)=(((x.cps.size:Y):Int) != 0);cases x.cps.size with
  |zero=>rfl
  |succ n=>simp;lia
 |tup h=>obtain⟨a,f,rfl,d,g,p⟩:=cO r;cases e;exact .inr ⟨f,d,by rw[d6 p.length]⟩
 |lst h=>obtain⟨a,f,rfl,d,g,p⟩:=aM r;cases e;exact .inl ⟨f,.inl<|.inl d,by rw[d6 p.length]⟩
 |scr k=>obtain⟨a,rfl,j,d⟩:=r;cases e;exact .inl ⟨_,d.sq,by rw[d6<|Mg ..]⟩
 |dct _ _=>cases e
 |ins _ _ _=>cases e
 |obj _ _ _=>cases e
 |dtt _ _=>cases e
 |gone=>cases e
theorem uO {e:E}{w:W}{b:Ta}{Q:Ta->Hp->Prop}(A:At K sl σ Z H Fs η no)(ev:evE C e η=.ok (w,η'))(a:truth w.2=O b)(k:∀Z' H' Fs',At K sl σ Z' H' Fs' η' no->Step Z H (tot Fs) Z' H' (tot Fs')->Q b H'):wT K sl.sl C e σ H Q:=⟨sl.pv,Z,Fs,η,w,η',b,A,ev,a,k⟩
theorem cJ {a:Type}{f g:Env->Res a}{p:W×Env}{r:a}(h:onT f g p=.ok r):∃b,truth p.1.2=O b/\(if b=L7 then f p.2 else g p.2)=.ok r:=by
 unfold onT at h;split at h
 .rename_i e;exact⟨L7,e,h⟩
 .rename_i e;exact⟨L5,e,h⟩
 .cases h
theorem Ek {e:E}(σ:L2.St)(H:Hp)(Q:Ta->Hp->Prop)(h:wT K sf C (.not e) σ H Q):JZ (wT K sf C e) σ H Q:=by
 obtain⟨pv,Z,Fs,η,w,η',b,A,ev,g,k⟩:=h;obtain⟨⟨u,η1⟩,a,f⟩:=ae<|show(evE C e η).bind sW=_ from ev;obtain⟨i,e1,e2⟩:=aA<|show ret η1 ((truth u.2).map λb=>((.d,.bl<|!b):W))=_ from f;cases e2;cases e3:truth u.2 with
 |none=>rw[e3] at e1;cases e1
 |some c=>
  rw[e3] at e1;cases e1;have:b=!c:=by cases g;rfl
  subst this;exact uO A a e3 k
theorem Jc {a b:E}(σ:L2.St)(H:Hp)(Q:Ta->Hp->Prop)(h:wT K sf C (.or a b) σ H Q):tOr (wT K sf C a) (wT K sf C b) σ H Q:=by
 obtain⟨pv,Z,Fs,η,w,η',c,A,ev,j,k⟩:=h;obtain⟨⟨u,η1⟩,o,p⟩:=ae<|show(evE C a η).bind (kOr<|evE C b)=_ from ev;obtain⟨d,i,e⟩:=cJ<|show onT (okW u) (evE C b) (u,η1)=_ from p;refine uO A o i λZ1 H1 Fs1 g s1=>?_;cases d with
 |false=>rw[Ti MJ] at e ⊢;exact uO g e j λn m f l r=>k n m f l<|s1.trans r
 |true=>rw[Tf rfl] at e ⊢;cases e;cases(i.symm.trans j);exact k Z1 H1 Fs1 g s1
theorem D8 {c a b:E}(σ:L2.St)(H:Hp)(Q:VK)(h:wE K sf C (.ifx c a b) σ H Q):tIf (wT K sf C c) (wE K sf C a) (wE K sf C b) σ H Q:=by
 obtain⟨pv,Z,Fs,η,w,η',A,ev,k⟩:=h;obtain⟨⟨u,η1⟩,g,i⟩:=ae<|show(evE C c η).bind (onT (evE C a)<|evE C b)=_ from ev;obtain⟨d,j,e⟩:=cJ i;refine uO A g j λZ1 H1 Fs1 f s1=>?_;cases d with
 |true=>rw[Tf rfl] at e ⊢;exact⟨pv,Z1,Fs1,η1,w,η',f,e,λv Z' H' Fs' G B r s=>k v Z' H' Fs' G B r<|s1.trans s⟩
 |false=>rw[Ti MJ] at e ⊢;exact⟨pv,Z1,Fs1,η1,w,η',f,e,λv Z' H' Fs' G B r s=>k v Z' H' Fs' G B r<|s1.trans s⟩
theorem DC {e:E}(σ:L2.St)(H:Hp)(Q:VK)(h:wE K sf C (.not e) σ H Q):wE K sf C e σ H λx H1=>∃k,TrV K x H1 k/\Q (.bl<|!k) H1:=by
 obtain⟨pv,Z,Fs,η,w,η',A,ev,k⟩:=h;obtain⟨⟨u,η1⟩,f,g⟩:=ae<|show(evE C e η).bind sW=_ from ev;obtain⟨j,e1,e2⟩:=aA<|show ret η1 ((truth u.2).map λb=>((.d,.bl<|!b):W))=_ from g;cases e2;cases e3:truth u.2 with
 |none=>rw[e3] at e1;cases e1
 |some c=>rw[e3] at e1;cases e1;exact⟨pv,Z,Fs,η,u,_,A,f,λv Z' H' Fs' G B r s=>⟨c,gg e3 r,k _ Z' H' Fs' no B.bare rfl (s.mono (λ_ z=>z) λa i=>i.elim .inl λz=>z.elim)⟩⟩
theorem DH {a b:E}(σ:L2.St)(H:Hp)(Q:VK)(h:wE K sf C (.and a b) σ H Q):wE K sf C a σ H λx H1=>∃k,TrV K x H1 k/\if k=L7 then wE K sf C b σ H1 Q else Q x H1:=by
 obtain⟨pv,Z,Fs,η,w,η',A,ev,k⟩:=h;obtain⟨⟨u,η1⟩,f,g⟩:=ae<|show(evE C a η).bind (vO<|evE C b)=_ from ev;obtain⟨d,i,c⟩:=cJ<|show onT (evE C b) (okW u) (u,η1)=_ from g;refine⟨pv,Z,Fs,η,u,η1,A,f,λv Z1 H1 Fs1 G B r s=>⟨d,gg i r,?_⟩⟩;cases d with
 |true=>rw[Tf rfl] at c ⊢;exact⟨pv,Z1,Fs1,η1,w,η',B.bare,c,λm Z' H' Fs' G' e j l=>k m Z' H' Fs' G' e j<|(s.mono (λ_ z=>z) λ_ z=>.inl z).trans l⟩
 |false=>rw[Ti MJ] at c ⊢;cases c;exact k v Z1 H1 Fs1 G B r s
end
section
variable {K:L9}{sl:Cf}{sf:Y->I Y}{C:Call}{σ:L2.St}{Z Z' Z1:Fp}{H H' H1:Hp}{Fs Fs' Fs1:Fps}{η η' η1:Env}{G G' R F:Fp}
structure Wk (K:L9)(J:It)(Z:Fp)(H0:Hp)(ts:U (U W)):Prop where
 go:∀H i,Stay Z H0 H->i<ts.length->J.go i H
 stop:∀H i,Stay Z H0 H->ts.length<=i->J.stop i H
 len:ts.length<=LIM
def xY (K:L9)(a:It)(Z:Fp)(c:Hp)(b:U<|U W):Prop:=
 ∀H i x H',Stay Z c H->i<b.length->a.yld i H x H'->H'=H/\∃w,b[i]?=O [w]/\Rep K Z H w.1 w.2 x no
def K9 (K:L9)(a:It)(Z:Fp)(d:Hp)(c:U<|U W):Prop:=
 ∀H i x H',Stay Z d H->i<c.length->a.yld i H x H'->∃p y z u w,x=.ref p/\(∀b o,H b=O o->H' b=O o)/\SqT K H' p [y,z]/\c[i]?=O [u,w]/\Rep K Z H u.1 u.2 y no/\Rep K Z H w.1 w.2 z no
theorem mn (same:∀b o,H b=O o->H' b=O o):Stay Z H H':=by
 refine⟨λa o _ e=>same a o e,λa c e=>?_,λa o u e=>same a _ e⟩;rcases e with e|⟨u,e⟩
 .exact .inl (same a _ e)
 .exact .inr ⟨u,same a _ e⟩
theorem iS (same:∀a o,H a=O o->H' a=O o):Step Z H G Z H' G:=by
 have b:∀a,H a≠J->H' a≠none:=λa h=>by
  cases e:H a with
  |none=>exact Tg e h
  |some o=>rw[same a o e];simp
 exact⟨λa o h _=>same a o h,λ_ h=>h,λ_ h=>.inl h,λ_ h=>.inl h,b,λz a h=>b a<|z a h⟩
theorem uE {p:S9}{o:HO}(hp:H p=J):∀b u,H b=O u->upd H p o b=O u:=λa u e=>by
 have:a≠p:=λq=>by subst q;rw[hp] at e;cases e
 rw[ag this];exact e
def Yld (K:L9)(a:It)(Z:Fp)(b:Hp)(c:U<|U W):Y->Prop
|1=>xY K a Z b c
|2=>K9 K a Z b c
|_=>Tw
def wI (K:L9)(sl:Y->I Y)(C:Call)(n:Y)(k:Ik)(b:U E):TI:=λσ H R=>∃pv Z Fs η d η' c,At K ⟨sl,pv⟩ σ Z H Fs η no/\evL C b η=.ok (d,η')/\turns k d=O c /\
 ∀a Z' H' Fs',At K ⟨sl,pv⟩ σ Z' H' Fs' η' no->Step Z H (tot Fs) Z' H' (tot Fs')->Wk K a Z' H' c->Yld K a Z' H' c n->R a H'
theorem At.freeze (A:At K sl σ Z H Fs η G):At K sl σ (λa=>Z a\/G a) H Fs η no:=by
 refine⟨⟨λa b=>⟨λz=>z.elim (A.gd.own a b).1 λq=>A.dis a q b,(A.gd.own a b).2⟩,A.gd.dis,λa h=>h.elim (A.gd.zal a) λq=>?_⟩,λi m t e=>?_,cQ,λ_ z=>z.elim,A.lk,A.ln⟩
 .obtain ⟨_,c,e⟩:=A.own a q;rw[e];simp
 .obtain ⟨v,r,h⟩:=A.env i m t e;exact⟨v,r.zmono λa h=>.inl h,h⟩
theorem bZ (o:Own Z' H' G)(s:Step Z H F Z' H' λa=>F' a\/G a):Step Z H F (λa=>Z' a\/G a) H' F' where
 keep:=s.keep
 zm:=λa h=>.inl<|s.zm a h
 zn:=λa h=>h.elim (s.zn a) λq=>.inr<|s.fn a<|.inr q
 fn:=λa h=>s.fn a<|.inl h
 al:=s.al
 za:=λz a h=>h.elim (s.za z a) λq=>by obtain⟨_,b,e⟩:=o a q;rw[e];simp
theorem gX {a:S9}{c:U V}{b:Hp}(s:Stay Z b H)(d:Z a)(h:b a=O (.lst c)):SqL K H a c:=.inl<|.inl<|s.1 a _ d h
theorem yB {a:S9}{c:U V}{b:U T}(k:c.length<=LIM)(f:Z a)(h:H a=O (.lst c))(r:RepL K Z H .s b c no):Wk K (Itl K a) Z H (b.map λt=>[(.s,t)])/\xY K (Itl K a) Z H (b.map λt=>[(.s,t)]):=by
 have l:=r.length;refine⟨⟨λH' i s d=>?_,λH' i s d=>?_,by rw[Mg];lia⟩,λH' i x g s d y=>?_⟩
 .rw [Mg] at d;exact⟨c,c[i]'(by lia),gX s f h,by simp⟩
 .rw [Mg] at d;exact⟨c,gX s f h,by lia⟩
 .rw [Mg] at d;obtain⟨rfl,y⟩:=y;have hx:=y c<|gX s f h;obtain⟨m,e,j⟩:=r.get (show b[i]?=O b[i] by simp);rw[hx] at e;cases e;refine⟨rfl,(.s,b[i]),by rw[MO,show b[i]?=O b[i] by simp];rfl,j.keep s (λ_ z=>z) λ_ _ z=>z.elim⟩
theorem E2 {a:S9}{c:U V}{b:U T}(j:c.length<=LIM)(h:SqT K H a c)(r:RepL K Z H .s b c no):Wk K (Itt K a) Z H (b.map λt=>[(.s,t)])/\xY K (Itt K a) Z H (b.map λt=>[(.s,t)]):=by
 have k:=r.length;refine⟨⟨λH' i s d=>?_,λH' i s d=>?_,by rw[Mg];lia⟩,λH' i x f s d y=>?_⟩
 .rw [Mg] at d;exact⟨c,c[i]'(by lia),s.sqt h,by simp⟩
 .rw [Mg] at d;exact⟨c,s.sqt h,by lia⟩
 .rw [Mg] at d;obtain⟨rfl,y⟩:=y;have hx:=y c<|s.sqt h;obtain⟨l,e,g⟩:=r.get (show b[i]?=O b[i] by simp);rw[hx] at e;cases e;refine⟨rfl,(.s,b[i]),by rw[MO,show b[i]?=O b[i] by simp];rfl,g.keep s (λ_ z=>z) λ_ _ z=>z.elim⟩
theorem EZ {lo:Int}{n:Y}(c:n<=LIM):Wk K (Itr lo n) Z H ((Mj n).map λ(k:Y)=>[(.d,.int<|lo+k)])/\xY K (Itr lo n) Z H ((Mj n).map λ(k:Y)=>[(.d,.int<|lo+k)]):=by refine⟨⟨λH' i s a=>by show i<n;simpa using a,λH' i s a=>by show n<=i;simpa using a,by simpa using c⟩,λH' i x b s a y=>?_⟩;obtain⟨rfl,rfl⟩:=y;refine⟨rfl,(.d,.int<|lo+i),?_,rfl⟩;rw[Mg,NZ] at a;rw[MO,Sl a];rfl
theorem ou {a:S9}{c:U Int}{b:Hp}(s:Stay Z b H)(h:ScrR K b a c):SqL K H a (c.map V.int):=(h.keep s.2.2).sq
theorem Ge {a:S9}{b:U Int}(f:b.length<=LIM)(h:ScrR K H a b):Wk K (Itl K a) Z H (b.map λn=>[(.d,.int n)])/\xY K (Itl K a) Z H (b.map λn=>[(.d,.int n)]):=by
 refine⟨⟨λH' i s c=>?_,λH' i s c=>?_,by rw[Mg];exact f⟩,λH' i x e s c y=>?_⟩
 .rw [Mg] at c;exact⟨_,(b.map V.int)[i]'(by rw[Mg];exact c),ou s h,by simp⟩
 .rw [Mg] at c;exact⟨_,ou s h,by rw[Mg];exact c⟩
 .rw [Mg] at c;obtain⟨rfl,y⟩:=y;have hx:=y _<|ou s h;refine⟨rfl,(.d,.int b[i]),by rw[MO,show b[i]?=O b[i] by simp];rfl,?_⟩;rw[MO,show b[i]?=O b[i] by simp] at hx;exact(MY hx).symm
theorem Fj {e:E}(σ:L2.St)(H:Hp)(R:It->Hp->Prop)(h:wI K sf C 1 .seq [e] σ H R):BW K (wE K sf C e) σ H R\/HI K (wE K sf C e) σ H R:=by
 obtain⟨pv,Z,Fs,η,t,η',n,A,ev,d,k⟩:=h;obtain⟨⟨m,a⟩,η1,o,e1,e2,rfl⟩:=aq ev;cases e2;cases a with
 |lst f=>cases d;refine .inl ⟨pv,Z,Fs,η,_,_,A,e1,λv Z' H' Fs' G B r s=>?_⟩;obtain⟨a,g,rfl,l,q,p⟩:=Rep.sh r;obtain⟨b,c⟩:=yB l q.1 q.2 p.sany;exact⟨a,rfl,⟨g,.inl<|.inl q.2⟩,k _ _ H' Fs' B.freeze (bZ B.own s) b c⟩
 |tup f=>cases d;refine .inr ⟨pv,Z,Fs,η,_,_,A,e1,λv Z' H' Fs' G B r s=>?_⟩;obtain⟨a,g,rfl,q,l,p⟩:=Rep.sh r;obtain⟨b,c⟩:=E2 l q p.sany;exact⟨a,rfl,⟨g,q⟩,k _ _ H' Fs' B.freeze (bZ B.own s) b c⟩
 |scr j=>cases d;refine .inl ⟨pv,Z,Fs,η,_,_,A,e1,λv Z' H' Fs' G B r s=>?_⟩;obtain⟨a,rfl,i,q⟩:=r;obtain⟨b,c⟩:=Ge (Z:=λa=>Z' a\/G a) i q;exact⟨a,rfl,⟨_,q.sq⟩,k _ _ H' Fs' B.freeze (bZ B.own s) b c⟩
 |_=>cases d
theorem p62:(2:Int) ^ 62=4611686018427387904:=by decide
theorem Af {e:E}(σ:L2.St)(H:Hp)(R:It->Hp->Prop)(h:wI K sf C 1 .rng [e] σ H R):B9 (wL K sf C [e]) σ H R:=by
 obtain⟨pv,Z,Fs,η,j,η',l,A,ev,b,k⟩:=h;refine⟨pv,Z,Fs,η,j,η',A,ev,λp Z' H' Fs' G B r s=>?_⟩;obtain⟨⟨m,a⟩,η1,o,e1,e2,rfl⟩:=aq ev;cases e2;obtain⟨x,rfl,i⟩:=bE rfl r;cases a with
 | int n =>
  rw[vD] at b;split at b
  .rename_i c;rw[Mv,Tj] at c;cases b;refine⟨n,by rw[show x=_ from i],by rw[p62];lia,by rw[p62];lia,?_⟩;obtain⟨d,f⟩:=EZ (K:=K) (Z:=λa=>Z' a\/G a) (H:=H') (lo:=0) (n:=n.toNat) (cM c.2);have g:∀k:Y,(0:Int)+(k:Int)=k:=λk=>by lia
   simp only[g] at d f;exact k _ _ H' Fs' B.freeze (bZ B.own s) d f
  .cases b
 |_=>cases b
theorem Cj {m:Md}{t:T}{v:V}{c:U T}(e:elems (m,t)=O c)(r:Rep K Z H m t v G):∃k a b,v=.ref a/\b.length<=LIM/\RepL K (λa=>Z a\/G a) H .s c b no/\∀H',Stay (λa=>Z a\/G a) H H'->Sq K H' k a b:=by
 cases t with
 |lst d=>cases e;obtain⟨a,b,rfl,l,q,p⟩:=Rep.sh r;exact⟨L5,a,b,rfl,l,p.sany,λH' s=>gX s q.1 q.2⟩
 |tup d=>cases e;obtain⟨a,b,rfl,q,l,p⟩:=Rep.sh r;exact⟨L7,a,b,rfl,l,p.sany,λH' s=>s.sqt q⟩
 |_=>cases e
theorem lN {m n:Md}:∀{ts us:U T} {i:Y} {t u:T},ts[i]?=O t->us[i]?=O u->(fm m n ts us)[i]?=O [(m,t),(n,u)]
|t::ts,u::us,0,_,_,h,a=>by cases h;cases a;rfl
|t::ts,u::us,i+1,_,_,h,a=>lN (ts:=ts) (us:=us) (i:=i) h a
|[],_,_,_,_,h,_=>by simp at h
|_::_,[],_,_,_,_,a=>by simp at a
theorem eC {m n:Md}:∀{a b:U T},(fm m n a b).length=min a.length b.length
|[],_=>by simp[fm]
|_::_,[]=>by simp[fm]
|t::a,u::b=>by show(fm m n a b).length+1=_;rw[eC];simp
theorem FE {e e':E}(σ:L2.St)(H:Hp)(R:It->Hp->Prop)(h:wI K sf C 2 .zip [e,e'] σ H R):IZ K (wL K sf C [e,e']) σ H R:=by
 obtain⟨pv,Z,Fs,η,ws,η',ts,A,ev,ht,k⟩:=h;refine⟨pv,Z,Fs,η,ws,η',A,ev,λvs Z' H' Fs' G B r s=>?_⟩;obtain⟨⟨m,a⟩,η1,us,e1,e2,rfl⟩:=aq ev;obtain⟨⟨n,b⟩,η2,us,e3,e4,rfl⟩:=aq e2;cases e4;obtain⟨x,y,hx⟩:∃x y,vs=[x,y]:=dD (x:=()) (y:=())<|show vs.length=[(),()].length from r.length;subst hx;obtain⟨G1,G2,g1,g2,_,r1,r2⟩:=bM r;have d:((elems (m,a)).bind λts=>(elems (n,b)).bind λus=>O (fm .s .s ts us))=O ts:=ht;cases D:elems (m,a) with
 |none=>rw[D] at d;cases d
 | some M =>
  cases P:elems (n,b) with
  |none=>rw[D,P] at d;cases d
  | some N =>
   rw[D,P] at d;cases d;obtain⟨k1,a1,l,rfl,L1,p1,q1⟩:=Cj D r1;obtain⟨k2,a2,t,rfl,L2',p2,q2⟩:=Cj P r2;have z1:∀c,(Z' c\/G1 c)->(Z' c\/G c):=λc h=>h.imp id (g1 c);have z2:∀c,(Z' c\/G2 c)->(Z' c\/G c):=λc h=>h.imp id (g2 c);have g:∀f,Stay (λc=>Z' c\/G c) H' f->Sq K f k1 a1 l:=λf s=>q1 f ⟨λc o Q=>s.1 c o<|z1 c Q,s.2⟩;have j:∀f,Stay (λc=>Z' c\/G c) H' f->Sq K f k2 a2 t:=λf s=>q2 f ⟨λc o Q=>s.1 c o<|z2 c Q,s.2⟩;have l1:=p1.length;have l2:=p2.length;refine⟨k1,k2,a1,a2,rfl,⟨l,g _<|eD _ _⟩,⟨t,j _<|eD _ _⟩,k _ _ H' Fs' B.freeze (bZ B.own s) ⟨λf i s u=>?_,λf i s u=>?_,by rw[eC];lia⟩ λf i x H1 s u y=>?_⟩
   .rw [eC] at u;exact⟨l,t,l[i]'(by lia),t[i]'(by lia),g _ s,j _ s,by simp,by simp⟩
   .rw [eC] at u;exact⟨l,t,g _ s,j _ s,by lia⟩
   .rw [eC] at u;obtain⟨p,x1,y1,rfl,hp,rfl,hx,hy⟩:=y;have hi1:i<M.length:=by lia
    have hi2:i<N.length:=by lia
    obtain⟨x',v,rx⟩:=p1.get (show M[i]?=O M[i] by simp);obtain⟨y',w,ry⟩:=p2.get (show N[i]?=O N[i] by simp);rw[hx l<|g _ s] at v;cases v;rw[hy t<|j _ s] at w;cases w;exact⟨p,x1,y1,(.s,M[i]),(.s,N[i]),rfl,uE hp,.inl<|.inl ah,lN (by simp)<|by simp,(rx.zmono z1).keep s (λ_ z=>z) λ_ _ z=>z.elim,(ry.zmono z2).keep s (λ_ z=>z) λ_ _ z=>z.elim⟩
theorem ke {m:Md}:∀{ts:U T} {n i:Y} {t:T},ts[i]?=O t->(eV m n ts)[i]?=O [(.d,.int ((n+i:Y):Int)),(m,t)]
|t::ts,n,0,_,h=>by cases h;rfl
|t::ts,n,i+1,_,h=>by have:=ke (m:=m) (ts:=ts) (n:=n+1) (i:=i) h;rw[show n+1+i=n+(i+1) by lia] at this;exact this
|[],_,_,_,h=>by simp at h
theorem dF {m:Md}:∀{a:U T} {n:Y},(eV m n a).length=a.length
|[],_=>rfl
|t::a,n=>by show(eV m (n+1) a).length+1=a.length+1;rw[dF]
end
section
variable {K:L9}{sl:Cf}{sf sg:Y->I Y}{C:Call}{σ σ2:L2.St}{Z Z' Z1:Fp}{H H' H1:Hp}{Fs Fs' Fs1:Fps}{η η' η1:Env}{G G' R F:Fp}{tg is:U Y}{pv val:Y->I V}
theorem aL:∀(tg:U Y) (η:Env) (i:Y),rd (au tg η) i=if i∈tg then J else rd η i
|[],η,i=>by simp[au]
| t::tg,η,i=>by
 show rd (au tg<|wr η t J) i=_;rw[aL tg,cA];by_cases a:i∈tg
 .simp[a]
 .by_cases b:i=t
  .subst b;rw[Ti a,Tf ML];split
   .rfl
   .rename_i c;cases e:rd η i with
    |none=>rfl
    |some w=>exact Tg ⟨rfl,eU e⟩ c
  .rw[Ti a,Ti (show¬i∈t::tg by simp[a,b]),Ti<|show¬(i=t/\t < η.length) fromλh=>b h.1]
def Nn (η η':Env):Prop:=∀i,rd η i=J->rd η' i=J
theorem Nn.refl (η:Env):Nn η η:=λ_ h=>h
theorem Nn.trans {a b c:Env}(h:Nn a b)(k:Nn b c):Nn a c:=λi e=>k i<|h i e
theorem nq (η:Env)(j:Y):Nn η (del η j):=λi e=>by
 rw[cA];split
 .rfl
 .exact e
theorem gf:∀{is:U Y} {b:U W} {a η:Env},(∀i∈is,rd a i≠J)->Nn a η->Nn a (putAll is b η)
|[],_,_,_,_,h=>h
|_::_,[],_,_,_,h=>h
|i::is,w::b,a,η,c,h=>by
 show Nn a<|putAll is b<|put η i w;refine gf (λj f=>c j<|MG _ f) λj e=>?_;rw[cA];split
 .rename_i d;rw[d.1] at e;exact Tg e<|c i ML
 .exact h j e
theorem i9 {f:Env->Res (I W×Env)}(l:∀{η o η'},f η=.ok (o,η')->Nn η η'):∀{g:U<|U W} {η η':Env} {a k:U W},(∀i∈tg,rd η i=J)->aG tg f g η a=.ok (k,η')->Nn η η'
|[],η,η',a,k,_,h=>by cases h;exact Nn.refl _
| t::g,η,η',a,k,y,h=>by
 obtain⟨η1,m,n⟩:=ae<|show(ofO<|bindT tg t η).bind (λη1=>(f η1).bind λp=>aG tg f g (au tg p.2)<|a++p.1.toList)=_ from h;obtain⟨⟨o,d⟩,r,s⟩:=ae n
 have u:∀{tg:U Y} {t:U W} {η η1:Env},bindT tg t η=O η1->∀i,i ∉ tg->rd η1 i=rd η i:=λ{tg}=>by
  induction tg with
  |nil=>intro t η η1 h i c;cases t with
   |nil=>cases h;rfl
   |cons _ _=>cases h
  | cons j tg x=>intro t η η1 h i c; cases t with
   |nil=>cases h
   |cons w t=>have:=x (show bindT tg t (put η j w)=O η1 from h) i λz=>c<|MG _ z;rw[this,cA,Ti λz=>c<|by rw[z.1];exact ML]
 have e1:=u<|fV m
 have v:∀i,rd η i=J->rd (au tg d) i=none:=λi e=>by
  rw[aL];split
  .rfl
  .rename_i c;exact l r i<|by rw[e1 i c];exact e
 exact Nn.trans (b:=au tg d) v<|i9 l (λi c=>by rw[aL,Tf c]) s
def iQ (sf sg:Y->I Y)(tg:U Y)(is:U Y):Prop:=
 ∀i j,sg i=O j->(∃k:Y,tg[k]?=O i/\j=k)\/(i ∉ tg/\∃(k a:Y),j=tg.length+k/\is[k]?=O a/\sf i=O a)
theorem At.pin (A:At K ⟨sf,pv⟩ σ Z H Fs η G):∃val,(∀i u,pv i=O u->val i=O u)/\At K ⟨sf,val⟩ σ Z H Fs η G/\∀i m t,rd η i=O (m,t)->val i≠none:=by
 have ch:∀i,∃o:I V,(∀u,pv i=O u->o=O u)/\(∀u j,o=O u->sf i=O j->σ[j]?=O (O u))/\∀m t,rd η i=O (m,t)->∃v,o=O v/\Rep K Z H m t v (Fs i)/\(∀j,sf i=O j->σ[j]?=O (O v)):=λi=>by
  cases e:rd η i with
  |none=>exact⟨pv i,λ_ h=>h,λu j h c=>A.lk i u j h c,λ_ _ h=>by cases h⟩
  |some w=>obtain⟨m,t⟩:=w;obtain⟨v,r,b,d⟩:=A.env i m t e;refine⟨O v,λu h=>by rw[d u h],λu j h c=>?_,λg k h=>by cases h;exact⟨v,rfl,r,b⟩⟩;cases h;exact b j c
 obtain⟨val,a⟩:=Classical.axiomOfChoice ch;refine⟨val,λi u h=>(a i).1 u h,⟨A.gd,λi m t e=>?_,A.own,A.dis,λi u j h c=>(a i).2.1 u j h c,A.ln⟩,λi m t e=>?_⟩
 .obtain ⟨v,b,r,d⟩:=(a i).2.2 m t e;exact⟨v,r,d,λu f=>by rw[show val i=O u from f] at b;cases b;rfl⟩
 .obtain ⟨v,b,r,d⟩:=(a i).2.2 m t e;rw[b];simp
theorem At.unpin (h:∀i u,pv i=O u->val i=O u)(A:At K ⟨sf,val⟩ σ Z H Fs η G):At K ⟨sf,pv⟩ σ Z H Fs η G:=
 ⟨A.gd,λi m t e=>let ⟨v,r,b,c⟩:=A.env i m t e;⟨v,r,b,λu a=>c u<|h i u a⟩,A.own,A.dis,λi u j a d=>A.lk i u j (h i u a) d,A.ln⟩
def inV (val:Y->I V)(tg:U Y):Y->I V:=λi=>if i∈tg then J else val i
theorem At.into (a:iQ sf sg tg is)(x:∀i∈tg,rd η i=J)(l:∀(k c:Y) (v:V),is[k]?=O c->σ[c]?=O (O v)->σ2[tg.length+k]?=O (O v))(w:∀i j,sg i=O j->j < σ2.length)(A:At K ⟨sf,val⟩ σ Z H Fs η G):At K ⟨sg,inV val tg⟩ σ2 Z H Fs η G:=by
 refine⟨A.gd,λi m t e=>?_,A.own,A.dis,λi u j n g=>?_,w⟩
 .have f:i ∉ tg:=fun h=>by rw [x i h] at e; cases e
  obtain⟨v,r,o,p⟩:=A.env i m t e;refine⟨v,r,λj s=>?_,λu n=>p u (by have d:inV val tg i=O u:=n;unfold inV at d;rw[Ti f] at d;exact d)⟩;rcases a i j s with⟨k,hk,_⟩|⟨_,k,c,rfl,hk,g⟩
  .exact Tg (Qu hk) f
  .exact l k c v hk (o c g)
 .have f:i ∉ tg:=fun h=>by have b:inV val tg i=O u:=n;unfold inV at b;rw[Tf h] at b;cases b
  have b:val i=O u:=by have d:inV val tg i=O u:=n;unfold inV at d;rw[Ti f] at d;exact d
  rcases a i j g with⟨k,hk,_⟩|⟨_,k,c,rfl,hk,g⟩
  .exact Tg (Qu hk) f
  .exact l k c u hk (A.lk i u c b g)
theorem At.outof (g:∀i∈tg,rd η i=J)(k:∀i m t,rd η i=O (m,t)->val i≠J)(lk:∀i u j,val i=O u->sf i=O j->σ[j]?=O (O u))(l:∀i j,sf i=O j->j < σ.length)(A:At K ⟨sg,inV val tg⟩ σ2 Z H Fs η G):At K ⟨sf,val⟩ σ Z H Fs η G:=by
 refine⟨A.gd,λi m t e=>?_,A.own,A.dis,lk,l⟩;have d:i ∉ tg:=λh=>by rw[g i h] at e;cases e
 obtain⟨v,r,o,c⟩:=A.env i m t e;cases a:val i with
 |none=>exact Tg a<|k i m t e
 |some u=>have:v=u:=c u (by show inV val tg i=O u;unfold inV;rw[Ti d];exact a);subst this;exact⟨v,r,λj f=>lk i v j a f,λn b=>by rw[show val i=O n from b] at a;cases a;rfl⟩
end
section
variable {C:Call}
theorem lI {b:Type}{tab:U<|Str×b}{f:b->Env->RE}{p:W×Env}{r:W×Env}(h:kTab tab f p=.ok r):∃x a,p.1.2=.str x/\tab.lookup x=O a/\f a p.2=.ok r:=by
 unfold kTab at h;split at h
 .rename_i x hx;split at h
  .rename_i a c;exact⟨x,a,hx,c,h⟩
  .cases h
 .cases h
theorem lH {a:Ta}{b:U Str}{p r:W×Env}(h:kIn a b p=.ok r):∃x,p.1.2=.str x/\r.2=p.2/\r.1=(.d,.bl<|b.contains x != a):=by
 unfold kIn at h;split at h
 .rename_i x hx;cases h;exact⟨x,hx,rfl,rfl⟩
 .cases h
mutual
theorem aC:∀(e:E) {η η':Env} {w:W},evE C e η=.ok (w,η')->Nn η η'
|.var i,η,η',w,h=>by obtain⟨_,_,e⟩:=aA<|show ret η ((rd η i).bind look)=_ from h;cases e;exact Nn.refl _
|.mv i,η,η',w,h=>by obtain⟨_,_,e⟩:=aA<|show ret (del η i) (rd η i)=_ from h;cases e;exact nq _ _
|.io i,η,η',w,h=>by obtain⟨_,_,e⟩:=aA<|show ret (del η i) (rd η i)=_ from h;cases e;exact nq _ _
|.cst t,η,η',w,h=>by cases h;exact Nn.refl _
|.tup es,η,η',w,h=>by obtain⟨⟨ws,η1⟩,h1,h2⟩:=ae<|show(evL C es η).bind vm=_ from h;cases h2;exact gy es h1
|.lst b es,η,η',w,h=>by obtain⟨⟨ws,η1⟩,h1,h2⟩:=ae<|show(evL C es η).bind (Br b)=_ from h;cases h2;exact gy es h1
|.op o b es,η,η',w,h=>by obtain⟨ws,h1,h2⟩:=b8 h;exact gy es h1
|.and a b,η,η',w,h=>by
 obtain⟨⟨u,η1⟩,h1,h2⟩:=ae<|show(evE C a η).bind (vO<|evE C b)=_ from h;obtain⟨d,h3,h4⟩:=cJ<|show onT (evE C b) (okW u) (u,η1)=_ from h2;cases d with
 |true=>rw[Tf rfl] at h4;exact(aC a h1).trans<|aC b h4
 |false=>rw[Ti MJ] at h4;cases h4;exact aC a h1
|.or a b,η,η',w,h=>by
 obtain⟨⟨u,η1⟩,h1,h2⟩:=ae<|show(evE C a η).bind (kOr<|evE C b)=_ from h;obtain⟨d,h3,h4⟩:=cJ<|show onT (okW u) (evE C b) (u,η1)=_ from h2;cases d with
 |false=>rw[Ti MJ] at h4;exact(aC a h1).trans<|aC b h4
 |true=>rw[Tf rfl] at h4;cases h4;exact aC a h1
|.not a,η,η',w,h=>by obtain⟨⟨u,η1⟩,h1,h2⟩:=ae<|show(evE C a η).bind sW=_ from h;obtain⟨_,_,e3⟩:=aA<|show ret η1 _=_ from h2;cases e3;exact aC a h1
|.ifx c a b,η,η',w,h=>by
 obtain⟨⟨u,η1⟩,h1,h2⟩:=ae<|show(evE C c η).bind (onT (evE C a)<|evE C b)=_ from h;obtain⟨d,h3,h4⟩:=cJ h2;cases d with
 |true=>rw[Tf rfl] at h4;exact(aC c h1).trans<|aC a h4
 |false=>rw[Ti MJ] at h4;exact(aC c h1).trans<|aC b h4
| .chain o q a b c,η,η',w,h=>by
 obtain⟨⟨x,η1⟩,h1,h2⟩:=ae<|show(evE C a η).bind (kC1 o q (evE C b)<|evE C c)=_ from h;obtain⟨⟨y,η2⟩,h3,h4⟩:=ae<|show(evE C b η1).bind (kC2 o q (evE C c) x)=_ from h2;obtain⟨⟨k,η3⟩,h5,h6⟩:=ae<|show(ret η2<|oSem o L5 [x,y]).bind (λk=>onB k.1.2 (then' (evE C c)<|kC3 q y) (okW (.d,.bl L5)) k.2)=_ from h4;obtain⟨k',_,e5⟩:=aA h5;have e6:η3=η2:=Tn Nu e5;have n2:=(aC a h1).trans<|aC b h3;have h6':onB k.2 (then' (evE C c) (kC3 q y)) (okW (.d,.bl L5)) η2=.ok (w,η'):=by rw[<- e6];exact h6
 generalize k.2=kk at h6';cases kk with
 | bl b =>
  cases b with
  |true=>obtain⟨⟨z,η4⟩,h7,h8⟩:=ae<|show(evE C c η2).bind (kC3 q y)=_ from h6';obtain⟨z',_,e8⟩:=aA<|show ret η4 (oSem q L5 [y,z])=_ from h8;have e9:η'=η4:=Tn Nu e8;rw[e9];exact n2.trans<|aC c h7
  |false=>cases h6';exact n2
 |_=>cases h6'
|.call f es,η,η',w,h=>by obtain⟨⟨ws,η1⟩,h1,h2⟩:=ae<|show(evA C es η).bind (iy C f<|ios es)=_ from h;obtain⟨⟨u,us⟩,h3,h4⟩:=ae<|show(C f ws).bind (mJ (ios es) η1)=_ from h2;cases h4;exact gf (jh es h1)<|jg es h1
|.comp b k src tg J elt,η,η',w,h=>by obtain⟨⟨ws,η1⟩,h1,h2⟩:=ae<|show(evL C src η).bind (fG b k tg<|dW<|evE C elt)=_ from h;obtain⟨⟨ts,η2⟩,h3,h4⟩:=ae<|show(ret (au tg η1)<|turns k ws).bind (λt=>(aG tg (dW<|evE C elt) t.1 t.2 []).bind<|lY b)=_ from h2;obtain⟨_,_,e3⟩:=aA h3;have e4:η2=au tg η1:=Tn Nu e3;subst e4;obtain⟨⟨us,η3⟩,h5,h6⟩:=ae<|show(aG tg (dW<|evE C elt) ts (au tg η1) []).bind (lY b)=_ from h4;obtain⟨_,_,e6⟩:=aA<|show ret η3 _=_ from h6;have e7:η'=η3:=Tn Nu e6;subst e7;refine(gy src h1).trans<|Nn.trans (b:=au tg η1) (λi e=>by rw[aL];split<;>first|rfl|exact e)<|i9 (λ{η o η'} hf=>?_) (λi hi=>by rw[aL,Tf hi]) h5;obtain⟨⟨u,η4⟩,h7,h8⟩:=ae<|show(evE C elt η).bind gB=_ from hf;cases h8;exact aC elt h7
| .comp b k src tg (O c) elt,η,η',w,h=>by
 obtain⟨⟨ws,η1⟩,h1,h2⟩:=ae<|show(evL C src η).bind (fG b k tg<|f7 (evE C c)<|evE C elt)=_ from h;obtain⟨⟨ts,η2⟩,h3,h4⟩:=ae<|show(ret (au tg η1)<|turns k ws).bind (λt=>(aG tg (f7 (evE C c)<|evE C elt) t.1 t.2 []).bind<|lY b)=_ from h2;obtain⟨_,_,e3⟩:=aA h3;have e4:η2=au tg η1:=Tn Nu e3;subst e4;obtain⟨⟨us,η3⟩,h5,h6⟩:=ae<|show(aG tg (f7 (evE C c)<|evE C elt) ts (au tg η1) []).bind (lY b)=_ from h4;obtain⟨_,_,e6⟩:=aA<|show ret η3 _=_ from h6;have e7:η'=η3:=Tn Nu e6;subst e7;refine(gy src h1).trans<|Nn.trans (b:=au tg η1) (λi e=>by rw[aL];split<;>first|rfl|exact e)<|i9 (λ{η o η'} hf=>?_) (λi hi=>by rw[aL,Tf hi]) h5;obtain⟨⟨u,η4⟩,h7,h8⟩:=ae<|show(evE C c η).bind (onT (dW<|evE C elt)<|okW J)=_ from hf;obtain⟨d,h9,h10⟩:=cJ h8;cases d with
 |true=>rw[Tf rfl] at h10;obtain⟨⟨u2,η5⟩,h11,h12⟩:=ae<|show(evE C elt η4).bind gB=_ from h10;cases h12;exact(aC c h7).trans<|aC elt h11
 |false=>rw[Ti MJ] at h10;cases h10;exact aC c h7
|.callT tab k es,η,η',w,h=>by obtain⟨⟨u,η1⟩,h1,h2⟩:=ae<|show(evE C k η).bind (kTab tab<|kCT C (evA C es)<|ios es)=_ from h;obtain⟨x,j,_,_,h3⟩:=lI h2;obtain⟨⟨ws,η2⟩,h4,h5⟩:=ae<|show(evA C es η1).bind (iy C j<|ios es)=_ from h3;obtain⟨⟨r,bs⟩,h6,h7⟩:=ae<|show(C j ws).bind (mJ (ios es) η2)=_ from h5;cases h7;exact(aC k h1).trans<|gf (jh es h4)<|jg es h4
|.inT neg ks e,η,η',w,h=>by obtain⟨⟨u,η1⟩,h1,h2⟩:=ae<|show(evE C e η).bind (kIn neg ks)=_ from h;obtain⟨x,_,e2,_⟩:=lH h2;cases e2;exact aC e h1
theorem gy:∀(es:U E) {η η':Env} {ws:U W},evL C es η=.ok (ws,η')->Nn η η'
|[],η,η',ws,h=>by cases h;exact Nn.refl _
|e::es,η,η',ws,h=>by obtain⟨w,η1,us,h1,h2,_⟩:=aq h;exact(aC e h1).trans<|gy es h2
theorem jg:∀(es:U E) {η η':Env} {ws:U W},evA C es η=.ok (ws,η')->Nn η η'
|[],η,η',ws,h=>by cases h;exact Nn.refl _
| e::es,η,η',ws,h=>by
 rcases IA e with⟨i,hi⟩|he
 .subst hi;obtain⟨us,η1,w,h1,_,_,h4⟩:=qT h;rw[h4];exact(jg es h1).trans<|nq _ _
 .obtain ⟨w,η1,us,h1,h2,_⟩:=mr he h;exact(aC e h1).trans<|jg es h2
theorem jh:∀(es:U E) {η η':Env} {ws:U W},evA C es η=.ok (ws,η')->∀i∈ios es,rd η i≠J
|[],_,_,_,_,i,hi=>by simp[ios] at hi
| e::es,η,η',ws,h,i,hi=>by
 rcases IA e with⟨j,hj⟩|he
 .subst hj;obtain⟨us,η1,w,h1,h2,_,_⟩:=qT h;rcases Mm.mp (show i∈j::ios es from hi) with z|z
  .subst z;exactλz=>by rw[jg es h1 i z] at h2;cases h2
  .exact jh es h1 i z
 .obtain ⟨w,η1,us,h1,h2,_⟩:=mr he h
  have hi':i∈ios es:=by
   cases e with
   |io j=>exact Tg rfl (he j)
   |_=>exact hi
  exactλz=>jh es h2 i hi'<|aC e h1 i z
end
end
section
variable {K:L9}{sl:Cf}{sf sg:Y->I Y}{C:Call}{σ σ2:L2.St}{Z Z' Z1:Fp}{H H' H1:Hp}{Fs Fs' Fs1:Fps}{η η' η1 ηb:Env}{G G' R F:Fp}{tg is:U Y}{pv val:Y->I V}
def gT (K:L9):Y->TG
|1=>cj 0
|2=>uW K 2<|dS (cj 0)<|dS (cj 1) sZ
|_=>λ_ _ _ _=>Tw
theorem At.put1 {i:Y}{w:W}{x:V}(A:At K sl σ Z H Fs η G)(r:Rep K Z H w.1 w.2 x<|Fs i)(c:∀j,sl.sl i=O j->σ[j]?=O (O x))(hp:sl.pv i=J):At K sl σ Z H Fs (put η i w) G:=by
 refine⟨A.gd,λj m t e=>?_,A.own,A.dis,A.lk,A.ln⟩;rw[cA] at e;split at e
 .rename_i b;cases e;obtain⟨rfl,_⟩:=b;exact⟨x,r,c,λu a=>by rw[hp] at a;cases a⟩
 .exact A.env j m t e
theorem mq {k a:Y}{v:V}(b:is[k]?=O a)(c:σ[a]?=O (O v)):(dh σ is)[k]?=O (O v):=by unfold dh;rw[MO,b];show O ((σ[a]?).join)=_;rw[c];rfl
theorem jF (a:iQ sf sg tg is)(h:σ2.length=tg.length+is.length):∀i j,sg i=O j->j < σ2.length:=λi j b=>by
 rcases a i j b with⟨k,hk,rfl⟩|⟨_,k,c,rfl,hk,_⟩
 .have:=(Na.mp hk).1;lia
 .have:=(Na.mp hk).1;lia
theorem sd {n i:Y}{d:It}{ts:U<|U W}{ws:U W}{x:V}{Q:L2.St->Hp->Prop}(hn:tg.length=n)(nd:tg.Nodup)(c:iQ sf sg tg is)(hz:∀a,Z1 a->Z a)(st:Stay Z1 H1 H)(B:Yld K d Z1 H1 ts n)(A:At K ⟨sf,val⟩ σ Z H Fs η G)
  (ht:∀i∈tg,rd η i=J) (hw:ts[i]?=O ws) (hb:bindT tg ws η=O ηb) (y:d.yld i H x H')
  (k:∀σ2 M,At K ⟨sg,inV val tg⟩ σ2 Z M Fs ηb G->Step Z H no Z M no->(σ2.length=n+(dh σ is).length/\σ2.drop n=dh σ is)->Q σ2 M):gT K n x (Mr n J++dh σ is) H' Q:=by
 have hi:i<ts.length:=(Na.mp hw).1;have g:∀{t:Y},t∈tg->inV val tg t=none:=λ{t} h=>Tf h
 match n,B with
 | 1,B =>
  obtain⟨e0,w,f,r⟩:=B H i x H' st hi y;rw[e0];rw[hw] at f;cases f
  match tg,hn with
  | [t],_ =>
   cases hb;have r':Rep K Z H w.1 w.2 x (Fs t):=(r.zmono hz).mono λ_ z=>z.elim;refine k _ H ?_ (Step.refl _ _ _) ⟨by simp[Qe],rfl⟩;refine(A.into (σ2:=O x::dh σ is) c ht (λk j0 v N P=>?_)<|jF c<|by simp[dh,Qe]).put1 r' (λj m=>?_)<|g<|by simp
   .rw[NG,Qe,M1];exact mq N P
   .rcases c t j m with ⟨k,hk,rfl⟩ | ⟨h,_⟩
    .cases j with
     |zero=>rfl
     |succ _=>simp at hk
    .exact Tg (MZ.mpr rfl) h
 | 2,B =>
  obtain⟨p,s,l,u,w,rfl,sm,hq,f,r1,r2⟩:=B H i x H' st hi y;rw[hw] at f;cases f
  match tg,hn with
  | [t,D],_ =>
   cases hb;have o:t≠D:=λz=>by simp[z] at nd
   have s1:Step Z H G Z H' G:=iS sm;have o1:Own Z H' G:=λa ha=>by obtain⟨nz,ys,e⟩:=A.own a ha;exact⟨nz,ys,sm _ _ e⟩
   obtain⟨A1,_⟩:=A.op o1 s1;have sn:Stay Z H H':=mn sm;have r1':Rep K Z H' u.1 u.2 s (Fs t):=((r1.zmono hz).keep sn (λ_ z=>z) λ_ _ z=>z.elim).mono λ_ z=>z.elim;have r2':Rep K Z H' w.1 w.2 l (Fs D):=((r2.zmono hz).keep sn (λ_ z=>z) λ_ _ z=>z.elim).mono λ_ z=>z.elim;have s0:Step Z H no Z H' no:=iS sm;refine⟨p,[s,l],rfl,hq,rfl,s,[l],rfl,l,[],rfl,rfl,k (O s::O l::dh σ is) _ ?_ s0 ⟨by simp;lia,rfl⟩⟩;refine((A1.into (σ2:=O s::O l::dh σ is) c ht (λk j0 v N P=>?_)<|jF c<|by simp[dh];lia).put1 r1' (λj m=>?_)<|g<|by simp).put1 r2' (λj m=>?_)<|g<|by simp
   .rw[show[t,D].length+k=k+1+1 by simp;lia,M1,M1];exact mq N P
   .rcases c t j m with ⟨k,hk,rfl⟩ | ⟨h,_⟩
    .match j,hk with
     |0,_=>rfl
     |1,hk=>exact Tg (MY hk).symm o
    .exact Tg (by simp) h
   .rcases c D j m with ⟨k,hk,rfl⟩ | ⟨h,_⟩
    .match j,hk with
     |0,hk=>exact Tg (MY hk) o
     |1,_=>rfl
    .exact Tg (by simp) h
def fS (Fs:Fps)(tg:U Y):Fps:=λj a=>j ∉ tg/\Fs j a
theorem dJ {a:S9}(h:tot (fS Fs tg) a):tot Fs a:=let ⟨j,_,b⟩:=h;⟨j,b⟩
theorem At.dels (A:At K sl σ Z H Fs η G):At K sl σ Z H (fS Fs tg) (au tg η) G:=by
 refine⟨⟨λa h=>A.gd.own a<|dJ h,λi j a b c=>A.gd.dis i j a b.2 c.2,A.gd.zal⟩,λi m t e=>?_,A.own,λa h q=>A.dis a h<|dJ q,A.lk,A.ln⟩;rw[aL] at e;split at e
 .cases e
 .rename_i f;obtain⟨v,r,h⟩:=A.env i m t e;exact⟨v,r.mono λa d=>⟨f,d⟩,h⟩
theorem iR:∀{tg:U Y} {t:U W} {η η1:Env},bindT tg t η=O η1->∀i,i ∉ tg->rd η1 i=rd η i
|[],[],η,η1,h,i,_=>by cases h;rfl
|[],_::_,_,_,h,_,_=>by cases h
|_::_,[],_,_,h,_,_=>by cases h
|j::tg,w::t,η,η1,h,i,a=>by rw[iR (show bindT tg t (put η j w)=O η1 from h) i λz=>a<|MG _ z,cA,Ti λz=>a<|by rw[z.1];exact ML]
structure CSt (K:L9)(sf:Y->I Y)(val:Y->I V)(σ:L2.St)(tg:U Y)(f:Env->Res (I W×Env))(ts:U (U W))(η0:Env)(us:U W)(η3:Env)(Z1:Fp)(H1:Hp)(F1:Fp)(i:Y)(ys:U V)(H:Hp):Prop where
 ex:∃(Z:Fp) (Fs:Fps) (η:Env) (acc:U W) (G:Fp),At K ⟨sf,val⟩ σ Z H Fs η G/\RepW K Z H acc ys G/\aG tg f (ts.drop i) η acc=.ok (us,η3)/\(∀j∈tg,rd η j=J)/\(∀j∈tg,∀a,¬Fs j a)/\Nn η0 η/\Step Z1 H1 F1 Z H (λa=>tot Fs a\/G a)
 len:ys.length<=i
theorem w8 {h:Ta}{c:U W}{i:U V}{w:W}{Q:VK}(o:Own Z H G)(t:∀a,Z a->H a≠J)(r:RepW K Z H c i G)(l:i.length<=LIM)(b:(if h then(if c.all okD then O ((.d,.lst<|trees c):W) else J) else O (.o .s,.lst<|trees c))=O w)(k:Out K Z H G w Q):∀p,H p=J->Q (.ref p) (upd H p<|.lst i):=by
 intro p hp;cases h with
 | true =>
  rw[Tf rfl] at b;split at b
  .rename_i j;cases b;rw[Nd] at j
   obtain⟨G',e,f⟩:=RepW.to (N:=.d) (λu n=>by
    have:=j u n;unfold okD at this;rw[QN] at this;unfold M.lf;split
    .rfl
    .rename_i g;rcases this with z|z
     .rw[eq_of_beq z];rfl
     .exact Tg z g) r
   exact cW (m:=.d) o t e l f (by simp) k hp
  .cases b
 |false=>rw[Ti MJ] at b;cases b;obtain⟨G',e,f⟩:=RepW.to (N:=.s) (λu n=>by cases M.lf u.1 u.2<;>rfl) r;exact cW (m:=.o .s) o t e l f (by simp) k hp
end
section
variable {K:L9}{sf sg:Y->I Y}{C:Call}{tg is:U Y}
theorem jN {b:Type}{l:U b}{i:Y}{a:b}(h:l[i]?=O a):l.drop i=a::l.drop (i+1):=by obtain⟨c,d⟩:=Na.mp h;rw[List.drop_eq_getElem_cons c,d]
theorem ud {h:Ta}{k:Ik}{f:Env->Res (I W×Env)}{p:U W×Env}{w:W}{b:Env}(e:fG h k tg f p=.ok (w,b)):∃c a,turns k p.1=O c/\aG tg f c (au tg p.2) []=.ok (a,b)/\(if h then(if a.all okD then O ((.d,.lst<|trees a):W) else J) else O (.o .s,.lst<|trees a))=O w:=by obtain⟨⟨c,j⟩,v,x⟩:=ae<|show(ret (au tg p.2)<|turns k p.1).bind (λt=>(aG tg f t.1 t.2 []).bind<|lY h)=_ from e;obtain⟨i,A,e3⟩:=aA v;have m:c=i:=Tn Nt e3;have n:j=au tg p.2:=Tn Nu e3;subst m n;obtain⟨⟨a,g⟩,y,z⟩:=ae<|show(aG tg f c (au tg p.2) []).bind (lY h)=_ from x;obtain⟨D,B,l⟩:=aA<|show ret g (if h then(if a.all okD then O ((.d,.lst<|trees a):W) else J) else O (.o .s,.lst<|trees a))=_ from z;have r:w=D:=Tn Nt l;have u:b=g:=Tn Nu l;subst r u;exact⟨c,a,A,y,B⟩
theorem oZ {f:Env->Res (I W×Env)}{t:U W}{j:U<|U W}{k g:Env}{a m:U W}(e:aG tg f (t::j) k a=.ok (m,g)):∃h o i,bindT tg t k=O h/\f h=.ok (o,i)/\aG tg f j (au tg i) (a++o.toList)=.ok (m,g):=by obtain⟨d,n,r⟩:=ae<|show(ofO<|bindT tg t k).bind (λd=>(f d).bind λp=>aG tg f j (au tg p.2)<|a++p.1.toList)=_ from e;obtain⟨⟨o,l⟩,s,u⟩:=ae r;exact⟨d,o,l,fV n,s,u⟩
theorem jD {n:Y}{h:Ta}{k:Ik}{src:U E}{f:Env->Res (I W×Env)}{te:L2.St->Hp->(I V->Hp->Prop)->Prop}(hn:tg.length=n)(nd:tg.Nodup)(d:iQ sf sg tg is)
  (hf:∀{N o η'},f N=.ok (o,η')->Nn N η')
  (hte:∀ {val:Y->I V} {l:L2.St} {Z:Fp} {H:Hp} {Fs:Fps} {N F:Env} {R:Fp} {o:I W} {Q:I V->Hp->Prop},At K ⟨sg,val⟩ l Z H Fs N R->f N=.ok (o,F) ->
   (∀oy Z' H' Fs' G,At K ⟨sg,val⟩ l Z' H' Fs' F (λc=>R c\/G c)->(match o,oy with|some w,O y=>Rep K Z' H' w.1 w.2 y G|none,J=>TZ|_,_=>Tw)->(∀c,R c->¬G c)->Step Z H (tot Fs) Z' H' (λa=>tot Fs' a\/G a)->Q oy H')->te l H Q)
  {e:E} (he:∀N,evE C e N=(evL C src N).bind (fG h k tg f)) (σ:L2.St) (H:Hp) (Q:VK) (hw:wE K sf C e σ H Q):
  wI K sf C n k src σ H λg H1=>∃W:Y->Y->U V->Hp->Prop,(∃m,W 0 m [] H1)/\∀i m B H,W i m B H ->
   (g.stop i H/\B.length<=sizeLine/\∀p,H p=J->Q (.ref p) (upd H p<|.lst B)) \/
   (g.go i H/\B.length<sizeLine/\∀x H',g.yld i H x H'->gT K n x (Mr n J++dh σ is) H' λl H2=>(l.length=n+(dh σ is).length/\l.drop n=dh σ is)/\te l H2 λoy H3=>∃m',m'<m/\W (i+1) m' (B++oy.toList) H3):=by
 obtain⟨pv,Z,Fs,N,w,η',A,ev,kk⟩:=hw;rw[he] at ev;obtain⟨⟨ws,D⟩,h1,h2⟩:=ae ev;obtain⟨M,us,ht,h3,h4⟩:=ud h2;refine⟨pv,Z,Fs,N,ws,D,M,A,h1,ht,λg Z1 H1 P A1 s1 wk yl=>?_⟩;obtain⟨val,v1,A2,v2⟩:=(A1.dels (tg:=tg)).pin;have s1':Step Z H (tot Fs) Z1 H1 (tot (fS P tg)):=s1.mono (λ_ z=>z) λ_ z=>dJ z;refine⟨λi m B H=>m=M.length-i/\i<=M.length/\CSt K sf val σ tg f M (au tg D) us η' Z1 H1 (tot<|fS P tg) i B H,⟨M.length,by simp,MH _,⟨⟨Z1,fS P tg,au tg D,[],no,A2,rfl,h3,λj s=>by rw[aL,Tf s],λj s a v=>v.1 s,Nn.refl _,(Step.refl _ _ _).mono (λ_ z=>z) λa v=>v.elim id λz=>z.elim⟩,Mi _⟩⟩,?_⟩;rintro i m B H0 ⟨rfl,hi,⟨⟨Zi,Fsi,ηi,acc,Ga,Ai,ra,hc,htg,hfp,hnn,si⟩,r⟩⟩;have st:Stay Z1 H1 H0:=A2.gd.own.stay si;have hL:=wk.len;by_cases hlt:i<M.length
 .right;refine⟨wk.go H0 i st hlt,Pm (Mt r hi) (oQ hL),λx H2 y=>?_⟩;have hw:M[i]?=O M[i]:=by simp[hlt]
  rw[jN hw] at hc;obtain⟨ηb,o,F,hb,hfe,hc2⟩:=oZ hc;refine sd hn nd d si.zm st yl Ai htg hw hb y λl H3 A3 s3 hσ=>⟨hσ,?_⟩;refine hte A3 hfe λoy Z4 H4 Fs4 G4 A4 r4 d4 s4=>⟨M.length-(i+1),by lia,rfl,hlt,⟨?_,?_⟩⟩
  .have ra3:RepW K Zi H3 acc B Ga:=ra.frame cQ s3 fun _ _ z=>z;have ra4:RepW K Z4 H4 acc B Ga:=ra3.frame A3.gd.own s4 A3.dis
   have vv:∀j m t,rd (au tg F) j=O (m,t)->val j≠none:=λj m t e=>by
    rw[aL] at e;split at e
    .cases e
    .rename_i s;have n1:rd ηb j≠none:=λz=>by rw[hf hfe j z] at e;cases e
     rw[iR hb j s] at n1;have n2:rd (au tg D) j≠none:=λz=>n1<|hnn j z;cases e2:rd (au tg D) j with
     |none=>exact Tg e2 n2
     |some u=>exact v2 j u.1 u.2 e2
   have A5:=(A4.dels (tg:=tg)).outof (sf:=sf) (σ:=σ) (val:=val) (λj s=>by rw[aL,Tf s]) vv Ai.lk Ai.ln
   have s5:Step Z1 H1 (tot (fS P tg)) Z4 H4 (λa=>tot (fS Fs4 tg) a\/(Ga a\/G4 a)):=by
    refine(si.trans<|((s3.frame λa=>tot Fsi a\/Ga a).mono (λa v=>v.elim (λz=>z.elim) id) λa v=>.inr v).trans<|s4.frame Ga).mono (λ_ z=>z) λa v=>?_;rcases v with z|z|z
    .exact .inl (.inl<|dJ z)
    .exact .inr z
    .exact .inl (.inr z)
   refine⟨Z4,fS Fs4 tg,au tg F,acc++o.toList,λc=>Ga c\/G4 c,A5,?_,hc2,λj s=>by rw[aL,Tf s],λj s a v=>v.1 s,λj e=>?_,s5⟩
   .cases o with
    |none=>
     cases oy with
     |none=>rw[Qk,Qk,MV,MV];exact ra4.mono λ_ z=>.inl z
     |some _=>exact r4.elim
    |some w4=>
     cases oy with
     |none=>exact r4.elim
     |some y4=>exact RepW.append (λ_ z=>.inl z) (λ_ z=>.inr z) d4 ra4<|RepW.one r4
   .have e':=hnn j e;rw[aL];split
    .rfl
    .rename_i s;exact hf hfe j<|by rw[iR hb j s];exact e'
  .have:B.length<=i:=r;cases oy<;>simp<;>lia
 .left;have hi':i=M.length:=by lia
  subst hi';rw[Su] at hc;cases hc;refine⟨wk.stop H0 _ st<|Mi _,cw<|Mt r hL,w8 Ai.own Ai.gd.zal ra (Mt r hL) h4<|cH (Ai.unpin v1) (s1'.trans si) kk⟩
theorem fF {n:Y}{h:Ta}{k:Ik}{e:U E}{b:E}(z:tg.length=n)(F:tg.Nodup)(a:iQ sf sg tg is)(w:L2.St)(H:Hp)(Q:VK)(D:wE K sf C (.comp h k e tg J b) w H Q):kB n (wI K sf C n k e) is (gT K n) (wE K sg C b) w H Q:=by
 refine jD (te:=λf H Q=>wE K sg C b f H λy j=>Q (O y) j) z F a (λ{g o M} p=>?_) (λ{val f Z H P g N R o Q} A p k=>?_) (λg=>rfl) w H Q D
 .obtain ⟨⟨u,t⟩,l,m⟩:=ae<|show (evE C b g).bind gB=_ from p;cases m;exact aC b l
 .obtain ⟨⟨u,t⟩,l,m⟩:=ae<|show (evE C b g).bind gB=_ from p;cases m;exact gQ A l λv x j i G B r d s _=>k (O v) x j i G B r d s
theorem m6 {n:Y}{h:Ta}{k:Ik}{t:U E}{j p:E}(hn:tg.length=n)(nd:tg.Nodup)(e:iQ sf sg tg is)(σ:L2.St)(H:Hp)(Q:VK)(hw:wE K sf C (.comp h k t tg (O p) j) σ H Q):f9 n (wI K sf C n k t) is (gT K n) (wT K sg C p) (wE K sg C j) σ H Q:=by
 have main:=jD (te:=λσ2 H Q=>wT K sg C p σ2 H λok H2=>if ok=L7 then wE K sg C j σ2 H2 λy D=>Q (O y) D else Q J H2) hn nd e (f:=f7 (evE C p)<|evE C j) (λ{η o η'} hf=>by
  obtain⟨⟨u,P⟩,h7,h8⟩:=ae<|show(evE C p η).bind (onT (dW<|evE C j)<|okW J)=_ from hf;obtain⟨d,h9,l⟩:=cJ h8;cases d with
  |true=>rw[Tf rfl] at l;obtain⟨⟨u2,η5⟩,M,N⟩:=ae<|show(evE C j P).bind gB=_ from l;cases N;exact(aC p h7).trans<|aC j M
  |false=>rw[Ti MJ] at l;cases l;exact aC p h7) (λ{val σ2 Z H Fs η ηc R o Q} A hf k=>by
  obtain⟨⟨u,P⟩,h7,h8⟩:=ae<|show(evE C p η).bind (onT (dW<|evE C j)<|okW J)=_ from hf;obtain⟨d,h9,l⟩:=cJ h8;refine uO A.bare h7 h9 λZ1 H1 Fs1 A1 s1=>?_;have A1':=A.frame (A1.mono (G':=no) λ_ z=>z)<|s1.mono (λ_ z=>z) λa ha=>ha.elim id λz=>z.elim;have A2:=A1'.1.mono (G':=R) λ_ z=>.inl z;cases d with
  |true=>rw[Tf rfl] at l ⊢;obtain⟨⟨u2,η5⟩,M,N⟩:=ae<|show(evE C j P).bind gB=_ from l;cases N;exact gQ A2 M λv Z' D F G B r d s _=>k (O v) Z' D F G B r d<|s1.trans s
  |false=>
   rw[Ti MJ] at l ⊢;cases l;exact k J Z1 H1 Fs1 no (A2.mono λ_ z=>z.elim id λq=>q.elim) trivial (λ_ _ z=>z) (s1.mono (λ_ z=>z) λa ha=>ha.elim id λz=>z.elim)) (λη=>rfl) σ H Q hw
 refine(?_:∀{a b:It->Hp->Prop},(∀g H1,a g H1->b g H1)->wI K sf C n k t σ H a->wI K sf C n k t σ H b) ?_ main
 .rintro a b hab ⟨pv,Z,Fs,η,ws,η',ts,A,ev,ht,kk⟩;exact⟨pv,Z,Fs,η,ws,η',ts,A,ev,ht,λg Z' D F A' s' w' y'=>hab g D<|kk g Z' D F A' s' w' y'⟩
 .rintro g H1 ⟨W,w0,turn⟩;refine⟨W,w0,λi m ys H w=>?_⟩;rcases turn i m ys H w with c|⟨go,hz,step⟩
  .exact .inl c
  .refine .inr ⟨go,hz,fun x D y=>?_⟩;have st:=step x D y;simp only[Sh,Qk,MV] at st;exact st
end
section
variable {K:L9}{sl:Cf}{sf sg:Y->I Y}{C:Call}{σ σ2:L2.St}{Z Z' Z1:Fp}{H H' H1:Hp}{Fs Fs' Fs1:Fps}{η η' η1 ηb:Env}{G G' G1 R F:Fp}{tg is:U Y}{pv val:Y->I V}
noncomputable def lC (Fs:Fps)(i:Y)(G:Fp):Fps:=λj a=>(j=i/\G a)\/(j≠i/\Fs j a)
theorem aK {i:Y}{a:S9}(h:tot (lC Fs i G) a):tot Fs a\/G a:=by
 obtain⟨j,h|h⟩:=h
 .exact .inr h.2
 .exact .inl ⟨j,h.2⟩
theorem At.put {i:Y}{w:W}{x:V}(A:At K sl σ Z H Fs η G)(r:Rep K Z H w.1 w.2 x G1)(c:∀a,G1 a->G a)(f:∀a,R a->G a)(l:∀a,R a->¬G1 a)(n:∀j,sl.sl i=O j->σ[j]?=O (O x))(hp:∀u,sl.pv i=O u->x=u):
  At K sl σ Z H (lC Fs i G1) (M.put η i w) R:=by
 refine⟨⟨λa h=>(aK h).elim (A.gd.own a) λq=>A.own a<|c a q,λj k a b hk=>?_,A.gd.zal⟩,λj m t e=>?_,λa h=>A.own a<|f a h,λa h q=>(aK q).elim (A.dis a<|f a h)<|l a h,A.lk,A.ln⟩
 .rcases b with ⟨rfl,b⟩ | ⟨s,b⟩
  .rcases hk with ⟨rfl,_⟩ | ⟨o,hk⟩
   .rfl
   .exact Tg ⟨k,hk⟩ (A.dis a<|c a b)
  .rcases hk with ⟨rfl,hk⟩ | ⟨o,hk⟩
   .exact Tg ⟨j,b⟩ (A.dis a<|c a hk)
   .exact A.gd.dis j k a b hk
 .rw [cA] at e;split at e
  .rename_i d;cases e;obtain⟨rfl,_⟩:=d;exact⟨x,r.mono λa h=>.inl ⟨rfl,h⟩,n,hp⟩
  .rename_i d;obtain⟨v,p,g⟩:=A.env j m t e;by_cases b:j=i
   .subst b;exact Tg ⟨rfl,eU e⟩ d
   .exact⟨v,p.mono λa h=>.inr ⟨b,h⟩,g⟩
def wA (K:L9)(sl:Y->I Y)(C:Call)(c:U E):TA:=λσ H Q=>∃pv Z Fs η d η',At K ⟨sl,pv⟩ σ Z H Fs η no/\evA C c η=.ok (d,η') /\
 ∀b Z' H' Fs' G,At K ⟨sl,pv⟩ σ Z' H' Fs' η' G->RepW K Z' H' d b G->Step Z H (tot Fs) Z' H' (λa=>tot Fs' a\/G a)->(∀(k i:Y) (u:V),c[k]?=O (.io i)->pv i=O u->b[k]?=O u)->Q b H'
theorem Dg (σ:L2.St)(H:Hp)(Q:U V->Hp->Prop)(h:wA K sf C [] σ H Q):EA σ H Q:=by obtain⟨pv,Z,Fs,η,c,η',A,ev,k⟩:=h;cases ev;exact k [] Z H Fs no A rfl ((Step.refl _ _ _).mono (λ_ z=>z) λa b=>b.elim id λz=>z.elim) λk i u h _=>by simp at h
def atV (a:U Y)(b:U V):U V:=a.filterMap λi=>b[i]?
def spC (K:L9)(C:Call)(f:Y)(d:U Y):U V->Hp->VK->Prop:=λb H Q=>∃Z c G w bs,RepW K Z H c b G/\Own Z H G/\(∀a,Z a->H a≠J)/\C f c=.ok (w,bs) /\
 ∀v Z' H' G1 G2,Rep K Z' H' w.1 w.2 v G1->RepW K Z' H' bs (atV d b) G2->(∀a,G1 a->¬G2 a)->Own Z' H' (λa=>G1 a\/G2 a)->Step Z H G Z' H' (λa=>G1 a\/G2 a)->Q v H'
noncomputable def hX:U E->Y->U Y
|[],_=>[]
|.io _::a,n=>n::hX a (n+1)
|_::a,n=>hX a<|n+1
theorem Ce {vs:U V}:∀{es:U E} {n:Y},(∀(k i:Y) (u:V),es[k]?=O (.io i)->pv i=O u->vs[n+k]?=O u)->(∀i∈ios es,pv i≠J)->(ios es).filterMap pv=atV (hX es n) vs
|[],_,_,_=>rfl
| e::es,n,h,c=>by
 have rest:(∀i∈ios es,pv i≠J)->(ios es).filterMap pv=atV (hX es (n+1)) vs:=λq=>Ce (λk i u hk a=>by have:=h (k+1) i u hk a;rw[show n+(k+1)=n+1+k by lia] at this;exact this) q;cases e with
 | io i =>
  cases a:pv i with
  |none=>exact Tg a<|c i<|by simp[ios]
  |some u=>have d:=h 0 i u rfl a;rw[Nat.add_zero] at d;show(i::ios es).filterMap pv=(n::hX es (n+1)).filterMap λi=>vs[i]?;rw[Oa,Oa,a,d];exact Tn (u::·)<|rest λj b=>c j<|by simp[ios,b]
 |_=>exact rest λj b=>c j b
theorem At.putAll:∀{is:U Y} {bs:U W} {Fs:Fps} {η:Env} {G2:Fp},At K ⟨sf,val⟩ σ Z H Fs η (λa=>R a\/G2 a)->(∀a,R a->¬G2 a)->RepW K Z H bs (is.filterMap val) G2->(∀i∈is,val i≠J)->∃Fs',At K ⟨sf,val⟩ σ Z H Fs' (M.putAll is bs η) R/\∀a,tot Fs' a->tot Fs a\/G2 a
|[],bs,Fs,η,G2,A,_,_,_=>⟨Fs,A.mono λ_ z=>.inl z,λ_ z=>.inl z⟩
|i::is,[],Fs,η,G2,A,_,_,_=>⟨Fs,A.mono λ_ z=>.inl z,λ_ z=>.inl z⟩
| i::is,b::bs,Fs,η,G2,A,l,r,m=>by
 cases c:val i with
 |none=>exact Tg c<|m i ML
 |some u=>rw[Oa,c] at r;obtain⟨x,w,n,o,e,d,f,ad,p,q⟩:=r;cases e;have B:=At.put (i:=i) (R:=λa=>R a\/o a) (G1:=n) A p (λa h=>.inr<|d a h) (λa h=>h.imp id (f a)) (λa h q=>h.elim (λz=>l a z<|d a q) λz=>ad a q z) (λj g=>A.lk i u j c g) (λv k=>by rw[show val i=O v from k] at c;cases c;rfl);obtain⟨Fs',s,t⟩:=At.putAll (is:=is) (bs:=bs) B (λa h q=>l a h<|f a q) q λj g=>m j<|MG _ g;exact⟨Fs',s,λa h=>(t a h).elim (λz=>(aK z).imp id (d a)) λz=>.inr<|f a z⟩
theorem qO {f:Y}{es:U E}{io:U Y}(g:hX es 0=io\/ios es=[])(σ:L2.St)(H:Hp)(Q:VK)(h:wE K sf C (.call f es) σ H Q):wA K sf C es σ H λvs H1=>spC K C f io vs H1 Q:=by
 obtain⟨pv,Z,Fs,η,w,η',A,ev,k⟩:=h;obtain⟨⟨j,η1⟩,t,N⟩:=ae<|show(evA C es η).bind (iy C f<|ios es)=_ from ev;obtain⟨⟨u,bs⟩,P,h4⟩:=ae<|show(C f j).bind (mJ (ios es) η1)=_ from N;cases h4;obtain⟨val,v1,y,v2⟩:=A.pin
 have b:∀i∈ios es,val i≠none:=λi hi=>by
  cases e:rd η i with
  |none=>exact Tg e<|jh es t i hi
  |some q=>exact v2 i q.1 q.2 e
 refine⟨val,Z,Fs,η,j,η1,y,t,λvs Z1 H1 Fs1 G B r s hv=>?_⟩;refine⟨Z1,j,G,u,bs,r,B.own,B.gd.zal,P,λv p m G1 G2 r1 x d o st=>?_⟩;obtain⟨l,s2⟩:=B.op o st
 have c:∃Fs',At K ⟨sf,val⟩ σ p m Fs' (M.putAll (ios es) bs η1) G1/\∀a,tot Fs' a->tot Fs1 a\/G2 a:=by
  rcases g with e|e
  .have e2:=Ce (pv:=val) (es:=es) (n:=0) (vs:=vs) (fun k i u' hk hu=>by rw [Pb]; exact hv k i u' hk hu) b;rw[e] at e2;rw[<- e2] at x;exact At.putAll l d x b
  .rw [e];exact⟨Fs1,l.mono λ_ z=>.inl z,λ_ z=>.inl z⟩
 obtain⟨Fs',D,hF⟩:=c;refine k v p m Fs' G1 (D.unpin v1) r1<|(s.trans s2).mono (λ_ z=>z) λa ha=>?_;rcases ha with z|z
 .exact(hF a z).imp id .inr
 .exact .inr (.inl z)
end
section
variable {K:L9}{sl:Cf}{sf sg:Y->I Y}{C:Call}{σ σ2:L2.St}{Z Z' Z1:Fp}{H H' H1:Hp}{Fs Fs' Fs1:Fps}{η η' η1 ηb:Env}{G G' G1 R F F':Fp}{tg is vs ls:U Y}{pv val:Y->I V}
theorem uh (o:I W):toS (toS o)=toS o:=by
 cases o with
 |none=>rfl
 |some w=>rfl
theorem ij:∀(vs:U Y) (η:Env) (i:Y),rd (share vs η) i=if i∈vs then toS (rd η i) else rd η i
|[],η,i=>by simp[share]
| v::vs,η,i=>by
 show rd (share vs<|wr η v<|toS<|rd η v) i=_;rw[ij vs,cA];by_cases b:i=v
 .subst b;rw[Tf (show i∈i::vs from ML)];by_cases c:i < η.length
  .rw [Tf (show i=i/\i < η.length from ⟨rfl,c⟩)];split
   .exact uh _
   .rfl
  .have e:rd η i=none:=by
    cases e:rd η i with
    |none=>rfl
    |some w=>exact Tg (eU e) c
   rw[Ti<|show¬(i=i/\i < η.length) fromλh=>c h.2,e];split<;>rfl
 .rw [Ti (show ¬ (i=v/\v < η.length) from fun h=>b h.1)];by_cases a:i∈vs
  .rw[Tf a,Tf<|MG _ a]
  .rw[Ti a,Ti<|by simp[a,b]]
theorem mX:∀(η:Env) (i:Y),rd (ja η) i=J
|[],_=>rfl
|_::_,0=>rfl
|_::η,i+1=>mX η i
theorem qf:∀(vs:U Y) (a η:Env) (i:Y) (w:W),rd (pe vs a η) i=O w->rd η i=O w\/(i∈vs/\toS (rd a i)=O w)
|[],_,_,_,_,h=>.inl h
| v::vs,a,η,i,w,h=>by
 rcases qf vs a (wr η v<|toS<|rd a v) i w h with e|e
 .rw [cA] at e;split at e
  .rename_i b;obtain⟨rfl,_⟩:=b;exact .inr ⟨ML,e⟩
  .exact .inl e
 .exact .inr ⟨MG _ e.1,e.2⟩
theorem mS:∀(vs:U Y) (a η:Env) (i:Y) (w:W),rd (iz vs a η) i=O w->rd η i=O w\/lfO (rd a i)=O w
|[],_,_,_,_,h=>.inl h
| v::vs,a,η,i,w,h=>by
 rcases mS vs a (wr η v<|lfO<|rd a v) i w h with e|e
 .rw [cA] at e;split at e
  .rename_i b;obtain⟨rfl,_⟩:=b;exact .inr e
  .exact .inl e
 .exact .inr e
theorem yI {i:Y}{w:W}(h:rd (pick vs ls η) i=O w):∃m t,rd η i=O (m,t)/\((i∈vs/\w=(.s,t))\/(t.leaf=L7/\w=(.d,t))):=by
 rcases mS ls η _ i w h with e|e
 .rcases qf vs η _ i w e with e | ⟨hi,e⟩
  .rw[mX] at e;cases e
  .cases q:rd η i with
   |none=>rw[q] at e;cases e
   |some u=>rw[q] at e;cases e;exact⟨u.1,u.2,rfl,.inl ⟨hi,rfl⟩⟩
 .cases q:rd η i with
  |none=>rw[q] at e;cases e
  |some u=>
   rw[q] at e;obtain⟨m,t⟩:=u;have a:(if t.leaf=L7 then O ((.d,t):W) else J)=O w:=e;split at a
   .rename_i b;cases a;exact⟨m,t,rfl,.inr ⟨b,rfl⟩⟩
   .cases a
def cZ (Fs:Fps)(vs:U Y):Fp:=λa=>∃i,i∈vs/\Fs i a
def uN:Fps:=λ_ _=>Tw
theorem dt {a:S9}(h:cZ Fs vs a):tot Fs a:=let ⟨i,_,h⟩:=h;⟨i,h⟩
theorem kn {a:S9}(h:tot uN a):Tw:=let ⟨_,h⟩:=h;h
theorem At.quiet (A:At K sl σ Z H Fs η no):At K sl σ (λa=>Z a\/cZ Fs vs a) H uN (pick vs ls η) no:=by
 refine⟨⟨λa h=>(kn h).elim,λ_ _ _ h=>h.elim,λa h=>h.elim (A.gd.zal a) λq=>?_⟩,λi m t e=>?_,cQ,λ_ z=>z.elim,A.lk,A.ln⟩
 .obtain ⟨_,g,e⟩:=A.gd.own a<|dt q;rw[e];simp
 .obtain ⟨d,f,e1,e2⟩:=yI e;obtain⟨v,r,h⟩:=A.env i d f e1;rcases e2 with⟨b,e2⟩|⟨c,e2⟩
  .cases e2;exact⟨v,(r.sh.zmono λa h=>h.imp id λq=>⟨i,b,q⟩).sany,h⟩
  .cases e2;exact⟨v,r.leaf (λ_ _ _ q=>q) c,h⟩
mutual
theorem Rep.dany:∀{t:T} {v:V} {G:Fp},Rep K Z H .d t v G->Rep K Z' H .d t v G
|.non,_,_,h=>h
|.bl _,_,_,h=>h
|.int _,_,_,h=>h
|.str _,_,_,h=>h
|.scr _,_,_,h=>h
|.tup ts,_,_,hh=>by obtain⟨a,xs,e,q,l,r⟩:=hh;exact⟨a,xs,e,q,l,RepL.dany r⟩
|.lst ts,_,_,hh=>by obtain⟨a,xs,e,l,q,r⟩:=hh;exact⟨a,xs,e,l,q,RepL.dany r⟩
|.dct _ _,_,_,hh=>by obtain⟨a,xs,e,l,q,n,hl,r⟩:=hh;exact⟨a,xs,e,l,q,n,hl,RepL.dany r⟩
|.ins _ _ _,_,_,h=>Tg rfl h.1
|.dtt _ _,_,_,h=>Tg rfl h.1
|.obj _ _ _,_,_,h=>Tg rfl h.1
|.gone,_,_,h=>h
theorem RepL.dany:∀{ts:U T} {xs:U V} {G:Fp},RepL K Z H .d ts xs G->RepL K Z' H .d ts xs G
|[],_,_,h=>h
|t::ts,xs,_,hh=>by obtain⟨x,r,G1,G2,e,h1,h2,hd,p,q⟩:=hh;exact⟨x,r,G1,G2,e,h1,h2,hd,Rep.dany p,RepL.dany q⟩
end
theorem fj (A:At K sl σ Z H Fs η no)(B:Own Z' H' G)(c:∀a,Z' a->H' a≠J)(s:Step (λa=>Z a\/cZ Fs vs a) H F Z' H' λa=>F' a\/G a)(b:∀a,¬F a):
  At K sl σ (λa=>Z' a/\¬cZ Fs vs a) H' Fs η G/\Step Z H (tot Fs) (λa=>Z' a/\¬cZ Fs vs a) H' (λa=>tot Fs a\/G a):=by
 have keep:∀a o,H a=O o->H' a=O o:=λa o e=>s.keep a o e<|b a;have g:∀a,Z a->Z' a/\¬cZ Fs vs a:=λa h=>⟨s.zm a<|.inl h,λq=>(A.gd.own a<|dt q).1 h⟩
 have f:∀a,tot Fs a->¬(Z' a/\¬cZ Fs vs a):=λa h q=>by
  obtain⟨f,d,e⟩:=A.gd.own a h;rcases s.zn a q.1 with z|z|z
  .exact z.elim f q.2
  .exact b a z
  .rw[e] at z;cases z
 have j:∀a,G a->¬tot Fs a:=λa h q=>by
  obtain⟨_,d,e⟩:=A.gd.own a q;rcases s.fn a (.inr h) with z|z
  .exact b a z
  .rw[e] at z;cases z
 refine⟨⟨⟨λa h=>?_,A.gd.dis,λa h=>c a h.1⟩,λi m t e=>?_,λa h=>⟨λq=>(B a h).1 q.1,(B a h).2⟩,j,A.lk,A.ln⟩,⟨λa o e _=>keep a o e,g,λa h=>?_,λa h=>?_,s.al,λ_ a h=>c a h.1⟩⟩
 .obtain ⟨_,d,e⟩:=A.gd.own a h;exact⟨f a h,d,keep a _ e⟩
 .obtain ⟨v,r,h⟩:=A.env i m t e;refine⟨v,r.keep ⟨λa o _ e=>keep a o e,λa d e=>?_,λa o u e=>keep a _ e⟩ g λa o _ e=>keep a o e,h⟩;rcases e with e|⟨u,e⟩
  .exact .inl (keep a _ e)
  .exact .inr ⟨u,keep a _ e⟩
 .rcases s.zn a h.1 with z | z | z
  .exact z.elim .inl λq=>Tg q h.2
  .exact(b a z).elim
  .exact .inr (.inr z)
 .rcases h with h | h
  .exact .inl h
  .exact(s.fn a<|.inr h).elim (λz=>(b a z).elim) .inr
theorem At.share (A:At K sl σ Z H Fs η G):At K sl σ (λa=>Z a\/cZ Fs vs a) H (fS Fs vs) (M.share vs η) G/\∀{f d c},Step f d c Z H (λa=>tot Fs a\/G a)->Step f d c (λa=>Z a\/cZ Fs vs a) H (λa=>tot (fS Fs vs) a\/G a):=by
 refine⟨⟨⟨λa h=>?_,λi j a l n=>A.gd.dis i j a l.2 n.2,λa h=>h.elim (A.gd.zal a) λq=>?_⟩,λi m t e=>?_,λa h=>⟨λz=>z.elim (A.own a h).1 λq=>A.dis a h<|dt q,(A.own a h).2⟩,λa h q=>A.dis a h<|dJ q,A.lk,A.ln⟩,λ{f d c} s=>⟨s.keep,λa h=>.inl<|s.zm a h,λa h=>h.elim (s.zn a) λq=>.inr<|s.fn a<|.inl<|dt q,λa h=>s.fn a<|h.imp dJ id,s.al,λz a h=>h.elim (s.za z a) λq=>?_⟩⟩
 .obtain ⟨i,b,k⟩:=h;obtain⟨p,g,e⟩:=A.gd.own a ⟨i,k⟩;exact⟨λz=>z.elim p λ⟨j,o,q⟩=>b<|A.gd.dis i j a k q ▸ o,g,e⟩
 .obtain ⟨_,g,e⟩:=A.gd.own a<|dt q;rw[e];simp
 .rw [ij] at e;split at e
  .rename_i b;cases q:rd η i with
   |none=>rw[q] at e;cases e
   |some u=>rw[q] at e;cases e;obtain⟨v,r,h⟩:=A.env i u.1 u.2 q;exact⟨v,(r.sh.zmono λa h=>h.imp id λq=>⟨i,b,q⟩).sany,h⟩
  .rename_i b;obtain⟨v,r,h⟩:=A.env i m t e;exact⟨v,(r.zmono λa h=>.inl h).mono λa h=>⟨b,h⟩,h⟩
 .obtain ⟨_,g,e⟩:=A.gd.own a<|dt q;rw[e];simp
theorem lr {x:X}{e:E}{w:W}{Q:VK}(A:At K sl σ Z H Fs η no)(ev:evX C x e η=.ok (w,η'))(k:∀v Z' H' Fs' G,At K sl σ Z' H' Fs' η' G->Rep K Z' H' w.1 w.2 v G->Step Z H (tot Fs) Z' H' (λa=>tot Fs' a\/G a)->Q v H'):wE K sl.sl C e σ H Q:=by
 cases x with
 | q vs ls =>
  obtain⟨⟨u,j⟩,y,D⟩:=ae<|show(evE C e<|pick vs ls η).bind (kX vs η)=_ from ev;cases D;generalize g:M.lf u.1 u.2=m0 at k;refine⟨sl.pv,_,uN,_,_,j,A.quiet (vs:=vs) (ls:=ls),y,λv Z' H' Fs' G B r0 s=>?_⟩;have r:=r0.lf;rw[g] at r;obtain⟨n,s1⟩:=fj A B.own B.gd.zal s λa h=>kn h
  have b:Q v H'\/m0=.d:=by
   by_cases c:m0=.d
   .exact .inr c
   .refine .inl ?_
    have f:after m0 vs η=share vs η:=by
     cases N:m0 with
     |d=>exact Tg N c
     |s=>rfl
     |o m=>rfl
    obtain⟨t,P⟩:=n.share (vs:=vs);have zz:∀a,(Z' a/\¬cZ Fs vs a)\/cZ Fs vs a->Z' a:=λa h=>h.elim Om λq=>s.zm a<|.inr q;have i:∀a,Z' a->(Z' a/\¬cZ Fs vs a)\/cZ Fs vs a:=λa h=>(RU<|cZ Fs vs a).elim .inr λq=>.inl ⟨h,q⟩;exact k v _ H' _ G (f ▸ t) (r.zmono i)<|P s1
  rcases b with q|c
  .exact q
  .have f:after m0 vs η=η:=by rw [c]; rfl
   refine k v _ H' Fs G (f.symm ▸ n) ?_ s1;subst c;exact r.dany
 |l vs=>obtain⟨B,s0⟩:=A.share (vs:=vs);have s1:=s0<|(Step.refl Z H<|tot Fs).mono (F2:=λa=>tot Fs a\/no a) (λ_ z=>z) λa h=>h.elim id λz=>z.elim;refine⟨sl.pv,_,_,_,w,η',B,ev,λv Z' H' Fs' G p r s=>k v Z' H' Fs' G p r<|(s1.mono (λ_ z=>z) λa h=>.inl h).trans s⟩
theorem Lz {x:X}{e:E}{b:Ta}{Q:Ta->Hp->Prop}(A:At K sl σ Z H Fs η no)(ev:evT C x e η=.ok (b,η'))(k:∀Z' H' Fs',At K sl σ Z' H' Fs' η' no->Step Z H (tot Fs) Z' H' (tot Fs')->Q b H'):wT K sl.sl C e σ H Q:=by
 cases x with
 |q vs ls=>obtain⟨⟨u,c⟩,d,f⟩:=ae<|show(evE C e<|pick vs ls η).bind (kT η)=_ from ev;obtain⟨m,g,e3⟩:=aA<|show ret η (truth u.2)=_ from f;cases e3;refine⟨sl.pv,_,uN,_,u,c,b,A.quiet (vs:=vs) (ls:=ls),d,g,λZ' H' Fs' B s=>?_⟩;obtain⟨j,s1⟩:=fj (G:=no) A cQ B.gd.zal (s.mono (F2:=λa=>tot Fs' a\/no a) (λ_ z=>z) λa h=>h.elim id λz=>z.elim) λa h=>kn h;exact k _ H' Fs j<|s1.mono (λ_ z=>z) λa h=>.inl h
 |l vs=>obtain⟨⟨u,c⟩,d,f⟩:=ae<|show(evE C e<|M.share vs η).bind kT2=_ from ev;obtain⟨m,g,e3⟩:=aA<|show ret c (truth u.2)=_ from f;cases e3;obtain⟨B,s0⟩:=A.share (vs:=vs);have s1:=s0<|(Step.refl Z H<|tot Fs).mono (F2:=λa=>tot Fs a\/no a) (λ_ z=>z) λa h=>h.elim id λz=>z.elim;exact⟨sl.pv,_,_,_,u,_,b,B,d,g,λZ' H' Fs' i s=>k Z' H' Fs' i<|(s1.mono (λ_ z=>z) λa h=>.inl h).trans s⟩
end
section
variable {K:L9}{Wx:L2.St->VK}{sl:Cf}{sf sg:Y->I Y}{C:Call}{σ σ2:L2.St}{Z Z' Z1:Fp}{H H' H1:Hp}{Fs Fs' Fs1:Fps}{η η' η1 ηb:Env}{G G' G1 R F F':Fp}{tg is vs ls io:U Y}{pv val:Y->I V}{D:cx}
def Fin (K:L9)(Wx:L2.St->VK)(sl:Cf)(Z:Fp)(H:Hp)(F:Fp)(D:cx):Fl->Prop
|.nx η'=>∀b Z' H' Fs',At K sl b Z' H' Fs' η' no->Step Z H F Z' H' (tot Fs')->D.nx b H'
|.rt w η'=>∀v b Z' H' Fs' G,At K sl b Z' H' Fs' η' G->Rep K Z' H' w.1 w.2 v G->Step Z H F Z' H' (λa=>tot Fs' a\/G a)->D.rt v H'
|.bk η'=>∀b Z' H' Fs',At K sl b Z' H' Fs' η' no->Step Z H F Z' H' (tot Fs')->D.bk b H'
|.ex t η'=>∀v b Z' H' Fs',At K sl b Z' H' Fs' η' no->Rep K Z' H' .s t v no->Step Z H F Z' H' (tot Fs')->Wx b v H'
|_=>Tw
theorem Fin.step {fl:Fl}(s:Step Z H F Z1 H1 F')(h:Fin K Wx sl Z H F D fl):Fin K Wx sl Z1 H1 F' D fl:=by
 cases fl with
 |nx η=>exactλa Z' H' Fs' A t=>h a Z' H' Fs' A<|s.trans t
 |rt w η=>exactλv a Z' H' Fs' G A r t=>h v a Z' H' Fs' G A r<|s.trans t
 |bk η=>exactλa Z' H' Fs' A t=>h a Z' H' Fs' A<|s.trans t
 |ex t η=>exactλv a Z' H' Fs' A r t=>h v a Z' H' Fs' A r<|s.trans t
 |_=>exact h.elim
structure rG (sf:Y->I Y)(io:U Y)(pv:Y->I V):Prop where
 inj:∀i i' j,sf i=O j->sf i'=O j->i=i'
 io:∀i,i ∉ io->pv i=J
def wS (K:L9)(Wx:L2.St->VK)(sf:Y->I Y)(io:U Y)(C:Call)(a:S):TS:=λD σ H=>∃pv Z Fs η,rG sf io pv/\At K ⟨sf,pv⟩ σ Z H Fs η no/\Fin K Wx ⟨sf,pv⟩ Z H (tot Fs) D (evS C a η)
def wSs (K:L9)(Wx:L2.St->VK)(sf:Y->I Y)(io:U Y)(C:Call)(a:U S):TS:=λD σ H=>∃pv Z Fs η,rG sf io pv/\At K ⟨sf,pv⟩ σ Z H Fs η no/\Fin K Wx ⟨sf,pv⟩ Z H (tot Fs) D (evSs C a η)
theorem yL (D:cx)(σ:L2.St)(H:Hp)(h:wSs K Wx sf io C [] D σ H):Cm D σ H:=by obtain⟨pv,Z,Fs,η,N,A,f⟩:=h;exact f σ Z H Fs A<|Step.refl _ _ _
theorem vc {s:S}{r:U S}(D:cx)(σ:L2.St)(H:Hp)(h:wSs K Wx sf io C (s::r) D σ H):IQ (wS K Wx sf io C s) (wSs K Wx sf io C r) D σ H:=by
 obtain⟨pv,Z,Fs,η,N,A,f⟩:=h;refine⟨pv,Z,Fs,η,N,A,?_⟩;have a:Fin K Wx ⟨sf,pv⟩ Z H (tot Fs) D (Fl.seq (evS C s η) (evSs C r)):=f;cases e:evS C s η with
 |nx η1=>rw[e] at a;exactλc Z' H' Fs' b t=>⟨pv,Z',Fs',η1,N,b,a.step t⟩
 |rt w η1=>rw[e] at a;exact a
 |bk η1=>rw[e] at a;exact a
 |ex t η1=>rw[e] at a;exact a
 |no=>rw[e] at a;exact a.elim
theorem bx {b:Type}{r:Res b}{g:b->Fl}(f:Fin K Wx sl Z H F D<|Fl.of η r g):∃a,r=.ok a/\Fin K Wx sl Z H F D (g a):=by
 cases r with
 |ok a=>exact⟨a,rfl,f⟩
 |ex t=>exact f.elim
 |no=>exact f.elim
theorem eF {o:I Env}(f:Fin K Wx sl Z H F D<|nxO η o):∃η',o=O η'/\Fin K Wx sl Z H F D (.nx η'):=by
 cases o with
 |some a=>exact⟨a,rfl,f⟩
 |none=>exact f.elim
theorem At.setR {i j:Y}{w:W}{x:V}(N:rG sf io pv)(s:i ∉ io)(hs:sf i=O j)(A:At K ⟨sf,pv⟩ σ Z H Fs η G)(r:Rep K Z H w.1 w.2 x G1)(q1:∀a,G1 a->G a)(q2:∀a,R a->G a)(q3:∀a,R a->¬G1 a):At K ⟨sf,pv⟩ (σ.set j<|O x) Z H (lC Fs i G1) (M.put η i w) R:=by
 have hj:j < σ.length:=A.ln i j hs
 have B:At K ⟨λk=>if k=i then J else sf k,pv⟩ (σ.set j (O x)) Z H Fs (M.del η i) G:=by
  refine⟨A.gd,λl m t e=>?_,A.own,A.dis,λl u k f hk=>?_,λl k hk=>?_⟩
  .rw [cA] at e;split at e
   .cases e
   .rename_i Q;obtain⟨v,r',y,P⟩:=A.env l m t e;have d:l≠i:=λz=>Q ⟨z,by rw[<- z];exact eU e⟩;refine⟨v,r',λk hk=>?_,P⟩;have c:sf l=O k:=by have:(if l=i then J else sf l)=O k:=hk;rw[Ti d] at this;exact this
    have g:j≠k:=λz=>d (N.inj l i k c<|by rw[<- z];exact hs);rw[ON g];exact y k c
  .have d:l≠i:=fun z=>by have p:pv l=O u:=f;rw[z,N.io i s] at p;cases p
   have c:sf l=O k:=by have:(if l=i then J else sf l)=O k:=hk;rw[Ti d] at this;exact this
   have g:j≠k:=λz=>d (N.inj l i k c<|by rw[<- z];exact hs);rw[ON g];exact A.lk l u k f c
  .have c:sf l=O k:=by
    have:(if l=i then J else sf l)=O k:=hk;split at this
    .cases this
    .exact this
   rw[Ql];exact A.ln l k c
 have n:=At.put (i:=i) (w:=w) (G1:=G1) (R:=R) B r q1 q2 q3 (λk hk=>by have c:(if i=i then J else sf i)=O k:=hk;rw[Tf rfl] at c;cases c) (λu f=>by have:=N.io i s;rw[show pv i=O u from f] at this;cases this)
 have e1:M.put (M.del η i) i w=M.put η i w:=by
  have:∀(η:Env) (i:Y) (a b:I W),wr (wr η i a) i b=wr η i b:=λη=>by
   induction η with
   |nil=>intro i a b;rfl
   |cons o η ih=>intro i a b;cases i with
    |zero=>rfl
    |succ i=>show o::wr (wr η i a) i b=o::wr η i b;rw[ih]
  exact this η i J<|O w
 rw[e1] at n;refine⟨n.gd,λl m t e=>?_,n.own,n.dis,λl u k f hk=>?_,λl k hk=>by rw[Ql];exact A.ln l k hk⟩
 .obtain ⟨v,r',y,P⟩:=n.env l m t e;by_cases d:l=i
  .subst d;rw[cA] at e;split at e
   .cases e;refine⟨x,r.mono λa h=>.inl ⟨rfl,h⟩,λk hk=>?_,λu f=>by have:=N.io l s;rw[show pv l=O u from f] at this;cases this⟩;have:k=j:=by rw[show sf l=O k from hk] at hs;cases hs;rfl
    subst this;rw[PZ hj]
   .rename_i hc;exact Tg ⟨rfl,eU e⟩ hc
  .refine ⟨v,r',fun k hk=>y k ?_,P⟩;show(if l=i then J else sf l)=O k;rw[Ti d];exact hk
 .by_cases d:l=i
  .subst d;have:=N.io l s;rw[show pv l=O u from f] at this;cases this
  .exact n.lk l u k f (show(if l=i then J else sf l)=O k by rw[Ti d];exact hk)
theorem At.set {i j:Y}{w:W}{x:V}(N:rG sf io pv)(a:i ∉ io)(b:sf i=O j)(A:At K ⟨sf,pv⟩ σ Z H Fs η G)(r:Rep K Z H w.1 w.2 x G):At K ⟨sf,pv⟩ (σ.set j<|O x) Z H (lC Fs i G) (M.put η i w) no:=At.setR N a b A r (λ_ h=>h) (λ_ z=>z.elim) λ_ z=>z.elim
theorem wW {x:X}{i j:Y}{e:E}(g:i ∉ io)(k:sf i=O j)(D:cx)(σ:L2.St)(H:Hp)(h:wS K Wx sf io C (.asg x i e) D σ H):mi (wE K sf C e) (cj j) D σ H:=by obtain⟨pv,Z,Fs,η,N,A,f⟩:=h;obtain⟨⟨w,η1⟩,b,c⟩:=bx<|show Fin K Wx ⟨sf,pv⟩ Z H (tot Fs) D (Fl.of η (evX C x e η)<|y9 i) from f;refine lr (sl:=⟨sf,pv⟩) A b λv Z' H' Fs' G B r s=>?_;exact c _ Z' H' _ (At.set N g k B r)<|s.mono (λ_ z=>z) λa d=>aK d
theorem GD {e:E}(D:cx)(σ:L2.St)(H:Hp)(h:wS K Wx sf io C (.ret vs e) D σ H):Kg (wE K sf C e) D σ H:=by obtain⟨pv,Z,Fs,η,N,A,f⟩:=h;obtain⟨⟨w,η1⟩,a,b⟩:=bx<|show Fin K Wx ⟨sf,pv⟩ Z H (tot Fs) D (Fl.of η (evE C e<|M.share vs η) kRt) from f;exact lr (sl:=⟨sf,pv⟩) (x:=.l vs) A a λv Z' H' Fs' G B r s=>b v σ Z' H' Fs' G B r s
theorem Eb {x:X}{c:E}{a b:U S}(D:cx)(σ:L2.St)(H:Hp)(h:wS K Wx sf io C (.ite x c a b) D σ H):J1 (wT K sf C c) (wSs K Wx sf io C a) (wSs K Wx sf io C b) D σ H:=by
 obtain⟨pv,Z,Fs,η,N,A,f⟩:=h;obtain⟨⟨k,η1⟩,e,d⟩:=bx<|show Fin K Wx ⟨sf,pv⟩ Z H (tot Fs) D (Fl.of η (evT C x c η)<|kIf (evSs C a)<|evSs C b) from f;refine Lz (sl:=⟨sf,pv⟩) A e λZ' H' Fs' B s=>?_;cases k with
 |true=>rw[Tf rfl];exact⟨pv,Z',Fs',η1,N,B,Fin.step s d⟩
 |false=>rw[Ti MJ];exact⟨pv,Z',Fs',η1,N,B,Fin.step s d⟩
theorem AG {m:Md}{d:U T}{v:V}(f:m≠.s)(r:Rep K Z H m (.lst d) v G):∃a c,v=.ref a/\c.length<=LIM/\G a/\H a=O (.lst c)/\RepL K Z H m.kid d c (λb=>G b/\b≠a):=by obtain⟨a,c,e,l,q,p⟩:=r;rw[LstR.own f] at q;exact⟨a,c,e,l,q.1,q.2,p⟩
theorem Ax {i:Y}{a:S9}{ts':U T}{d:U V}{m':Md}(hm:m'≠.s)(A:At K ⟨sf,pv⟩ σ Z H Fs η G){w0:W}(hi:rd η i=O w0)(ha:Fs i a)(hx:∀j,sf i=O j->σ[j]?=O (O<|.ref a))(hl:d.length<=LIM)(hpv:∀u,pv i=O u->V.ref a=u)
  (hg:∀b,G' b->(Fs i b\/G b)/\b≠a) (P:∀b,R b->(Fs i b\/G b)/\b≠a) (hRG:∀b,R b->¬G' b) (p:RepL K (λb=>Z b\/((Fs i b\/G b)/\b≠a/\¬G' b/\¬R b)) H m'.kid ts' d G') {Q:Hp->Prop}
  (k:∀Z' Fs',At K ⟨sf,pv⟩ σ Z' (upd H a<|.lst d) Fs' (M.put η i (m',.lst ts')) R->Step Z H (λb=>tot Fs b\/G b) Z' (upd H a<|.lst d) (λb=>tot Fs' b\/R b)->(∀{m t v},Rep K (λb=>Z b\/((Fs i b\/G b)/\b≠a/\¬G' b/\¬R b)) H m t v R->Rep K Z' (upd H a<|.lst d) m t v R)->Q (upd H a<|.lst d)):Q (upd H a<|.lst d):=by
 have x:tot Fs a:=⟨i,ha⟩;obtain⟨nza,ys,hya⟩:=A.gd.own a x;have nGa:¬G a:=λq=>A.dis a q x
 have w:∀b,(Z b\/((Fs i b\/G b)/\b≠a/\¬G' b/\¬R b))->b≠a:=λb h z=>by
  subst z;rcases h with h|h
  .exact nza h
  .exact h.2.1 rfl
 have keep:∀b o,H b=O o->b≠a->upd H a (.lst d) b=O o:=λb o e f=>by rw[ag f];exact e
 have neT:∀b xs,H b=O (.tup xs)->b≠a:=λb xs e z=>by rw[z,hya] at e;exact oV e.symm
 have neF:∀b o u,H b=O (.frz o u)->b≠a:=λb o u e z=>by rw[z,hya] at e;exact lg e.symm
 have stay:∀{c:Fp},(∀b,c b->b≠a)->Stay c H (upd H a (.lst d)):=λ{c} hY=>⟨λb o f e=>keep b o e<|hY b f,λb xs e=>by
  rcases e with e|⟨u,e⟩
  .exact .inl (keep b _ e<|neT b xs e)
  .exact .inr ⟨u,keep b _ e<|neF b u _ e⟩,λb o u e=>keep b _ e<|neF b o u e⟩
 have al:∀b,H b≠J->upd H a (.lst d) b≠none:=λb h=>by
  by_cases e:b=a
  .rw[e,ah];simp
  .rw[ag e];exact h
 have B:∀b,(Z b\/((Fs i b\/G b)/\b≠a/\¬G' b/\¬R b))->H b≠none:=λb h=>by
  rcases h with h|⟨h|h,_⟩
  .exact A.gd.zal b h
  .obtain⟨_,N,e⟩:=A.gd.own b ⟨i,h⟩;rw[e];simp
  .obtain⟨_,N,e⟩:=A.own b h;rw[e];simp
 have listAt:∀b,(tot Fs b\/G b)->∃N:OO,upd H a (.lst d) b=O N.ho:=λb h=>by
  by_cases e:b=a
  .exact⟨.inl d,by rw[e,ah];rfl⟩
  .rcases h with h | h
   .obtain⟨_,N,q⟩:=A.gd.own b h;exact⟨N,by rw[ag e];exact q⟩
   .obtain⟨_,N,q⟩:=A.own b h;exact⟨N,by rw[ag e];exact q⟩
 have nZ:∀b,(Fs i b\/G b)->¬Z b:=λb h z=>h.elim (λy=>(A.gd.own b ⟨i,y⟩).1 z) λy=>(A.own b y).1 z
 have gh:∀b,tot (lC Fs i λb=>G' b\/b=a) b->(∃j,j≠i/\Fs j b)\/G' b\/b=a:=λb h=>by
  obtain⟨j,h|h⟩:=h
  .exact .inr h.2
  .exact .inl ⟨j,h⟩
 refine k (λb=>Z b\/((Fs i b\/G b)/\b≠a/\¬G' b/\¬R b)) (lC Fs i λb=>G' b\/b=a) ⟨⟨λb h=>⟨λz=>?_,?_⟩,λj l b g hk=>?_,λb h=>al b<|B b h⟩,λl m t e=>?_,λb h=>⟨λz=>?_,listAt b<|(P b h).1.imp (λz=>⟨i,z⟩) id⟩,λb h q=>?_,A.lk,A.ln⟩ ⟨λb o e n=>keep b o e λz=>n<|.inl<|z ▸ x,λb h=>.inl h,λb h=>h.imp id λq=>.inl<|q.1.imp (λz=>⟨i,z⟩) id,λb h=>?_,al,λ_ b h=>al b<|B b h⟩ λ{m t v} r=>r.keep (stay w) (λ_ z=>z) λb o f e=>keep b o e (P b f).2
 .rcases gh b h with ⟨j,g,q⟩ | q | q
  .rcases z with z | ⟨z | z,_⟩
   .exact(A.gd.own b ⟨j,q⟩).1 z
   .exact g (A.gd.dis j i b q z)
   .exact A.dis b z ⟨j,q⟩
  .rcases z with z | z
   .exact nZ b (hg b q).1 z
   .exact z.2.2.1 q
  .exact w b z q
 .rcases gh b h with ⟨j,g,q⟩ | q | q
  .exact listAt b (.inl ⟨j,q⟩)
  .exact listAt b ((hg b q).1.imp (λz=>⟨i,z⟩) id)
  .exact⟨.inl d,by rw[q,ah];rfl⟩
 .have key:∀ {j:Y},(G' b\/b=a)->Fs j b->j=i:=fun {j} h q=>by
   rcases h with h|h
   .rcases (hg b h).1 with y | y
    .exact A.gd.dis j i b q y
    .exact Tg ⟨j,q⟩ (A.dis b y)
   .rw[h] at q;exact A.gd.dis j i a q ha
  rcases g with⟨rfl,g⟩|⟨nj,g⟩
  .rcases hk with ⟨rfl,_⟩ | ⟨nk,hk⟩
   .rfl
   .exact Tg (key g hk) nk
  .rcases hk with ⟨rfl,hk⟩ | ⟨nk,hk⟩
   .exact Tg (key hk g) nj
   .exact A.gd.dis j l b g hk
 .rw [cA] at e;split at e
  .rename_i hc;obtain⟨rfl,_⟩:=hc;cases e;refine⟨.ref a,⟨a,d,rfl,hl,(LstR.own hm).mpr ⟨.inl ⟨rfl,.inr rfl⟩,ah⟩,?_⟩,hx,hpv⟩;exact(p.keep (stay w) (λ_ z=>z) λb o f e=>keep b o e (hg b f).2).mono λb f=>⟨.inl ⟨rfl,.inl f⟩,(hg b f).2⟩
  .rename_i hc;have hl':l≠i:=λz=>hc ⟨z,eU hi⟩;obtain⟨v,r,h⟩:=A.env l m t e;have nea:∀b,Fs l b->b≠a:=λb q z=>hl'<|A.gd.dis l i a (z ▸ q) ha;exact⟨v,((r.keep (stay λb f z=>nza<|z ▸ f) (λ_ z=>z) λb o f e=>keep b o e<|nea b f).zmono λb h=>.inl h).mono λb h=>.inr ⟨hl',h⟩,h⟩
 .rcases z with z | z
  .exact nZ b (P b h).1 z
  .exact z.2.2.2 h
 .rcases gh b q with ⟨j,g,y⟩ | y | y
  .rcases (P b h).1 with z | z
   .exact g (A.gd.dis j i b y z)
   .exact A.dis b z ⟨j,y⟩
  .exact hRG b h y
  .exact(P b h).2 y
 .rcases h with h | h
  .rcases gh b h with ⟨j,_,q⟩ | q | q
   .exact .inl (.inl ⟨j,q⟩)
   .exact .inl ((hg b q).1.imp (λz=>⟨i,z⟩) id)
   .exact .inl (.inl<|q ▸ x)
  .exact .inl ((P b h).1.imp (λz=>⟨i,z⟩) id)
theorem change {i:Y}{a:S9}{ts':U T}{c:U V}{m':Md}(m:m'≠.s)(A:At K ⟨sf,pv⟩ σ Z H Fs η G){n:W}(g:rd η i=O n)(e:Fs i a)(hx:∀j,sf i=O j->σ[j]?=O (O<|.ref a))(l:c.length<=LIM)(d:∀u,pv i=O u->V.ref a=u)
  (f:∀b,G' b->(Fs i b\/G b)/\b≠a) (p:RepL K (λb=>Z b\/((Fs i b\/G b)/\b≠a/\¬G' b)) H m'.kid ts' c G') {Q:Hp->Prop}
  (k:∀Z' Fs',At K ⟨sf,pv⟩ σ Z' (upd H a<|.lst c) Fs' (M.put η i (m',.lst ts')) no->Step Z H (λb=>tot Fs b\/G b) Z' (upd H a<|.lst c) (tot Fs')->Q (upd H a<|.lst c)):Q (upd H a<|.lst c):=
 Ax (R:=no) m A g e hx l d f (λ_ z=>z.elim) (λ_ z=>z.elim) (p.zmono λb h=>h.imp id λq=>⟨q.1,q.2.1,q.2.2,λz=>z⟩) λZ' Fs' B s _=>k Z' Fs' B<|s.mono (λ_ z=>z) λ_ z=>.inl z
end
section
variable {K:L9}{Wx:L2.St->VK}{sl:Cf}{sf sg:Y->I Y}{C:Call}{σ σ2:L2.St}{Z Z' Z1:Fp}{H H' H1:Hp}{Fs Fs' Fs1:Fps}{η η' η1 ηb:Env}{G G' G1 R F F':Fp}{tg is vs ls io:U Y}{pv val:Y->I V}{D:cx}
theorem mR {o:I W}{u:Unit}(h:mQ o=.ok u):∃m a,o=O (m,.lst a):=by
 cases o with
 |none=>cases h
 |some w=>
  obtain⟨m,t⟩:=w;cases t with
  |lst a=>exact⟨m,a,rfl⟩
  |_=>cases h
theorem At.listAt {i j:Y}{m:Md}{e:U T}(d:sf i=O j)(A:At K ⟨sf,pv⟩ σ Z H Fs η G)(h:rd η i=O (m,.lst e)):∃a b,σ[j]?=O (O<|.ref a)/\H a=O (.lst b):=by obtain⟨v,r,c,_⟩:=A.env i m _ h;obtain⟨a,b,rfl,hx,_⟩:=aM r;exact⟨a,b,c j d,hx⟩
theorem At.ourList {i j:Y}{a:S9}{m:Md}{d:U T}(o:sf i=O j)(n:m≠.s)(f:σ[j]?=O (O<|.ref a))(A:At K ⟨sf,pv⟩ σ Z H Fs η G)(h:rd η i=O (m,.lst d)):
  ∃c,c.length<=LIM/\Fs i a/\H a=O (.lst c)/\RepL K Z H m.kid d c (λb=>Fs i b/\b≠a)/\(∀u,pv i=O u->V.ref a=u):=by
 obtain⟨v,r,k,hp⟩:=A.env i m _ h;have e:=k j o;rw[f] at e;cases e;obtain⟨b,c,e,l,g,hx,p⟩:=AG n r;cases e;exact⟨c,l,g,hx,p,hp⟩
theorem uD {u w r:W}(h:jx u w=O r):∃m a,u=(m,.lst a)/\m≠.s/\a.length<LIM/\r=((m.kid.meet<|lf w.1 w.2).up,.lst<|a++[w.2]):=by
 obtain⟨m,t⟩:=u;obtain⟨n,c⟩:=w;cases m with
 |s=>cases h
 | d =>
  cases t with
  |lst a=>
   have b:(if a.length<LIM then O ((((Md.d.kid.meet (lf n c)).up,.lst (a++[c])):W)) else J)=O r:=h;split at b
   .rename_i e;cases b;exact⟨.d,a,rfl,by simp,e,rfl⟩
   .cases b
  |_=>cases h
 | o m =>
  cases t with
  |lst a=>
   have b:(if a.length<LIM then O (((((Md.o m).kid.meet (lf n c)).up,.lst (a++[c])):W)) else J)=O r:=h;split at b
   .rename_i e;cases b;exact⟨.o m,a,rfl,by simp,e,rfl⟩
   .cases b
  |_=>cases h
theorem we {u w r:W}(h:jt u w=O r):∃m a n b,u=(m,.lst a)/\w=(n,.lst b)/\m≠.s/\a.length+b.length<=LIM/\r=((m.kid.meet n.kid).up,.lst<|a++b):=by
 obtain⟨m,t⟩:=u;obtain⟨n,f⟩:=w;cases m with
 |s=>cases h
 | d =>
  cases t with
  | lst a =>
   cases f with
   |lst b=>
    have c:(if a.length+b.length<=LIM then O ((((Md.d.kid.meet n.kid).up,.lst (a++b)):W)) else J)=O r:=h;split at c
    .rename_i e;cases c;exact⟨.d,a,n,b,rfl,rfl,by simp,e,rfl⟩
    .cases c
   |_=>cases h
  |_=>cases h
 | o m =>
  cases t with
  | lst a =>
   cases f with
   |lst b=>
    have c:(if a.length+b.length<=LIM then O (((((Md.o m).kid.meet n.kid).up,.lst (a++b)):W)) else J)=O r:=h;split at c
    .rename_i e;cases c;exact⟨.o m,a,n,b,rfl,rfl,by simp,e,rfl⟩
    .cases c
   |_=>cases h
  |_=>cases h
theorem v5 {a:S9}{m:Md}{g:U T}{i:U V}{w:W}{y:V}{c:Fp}(k:∀b,c b->b≠a)(l:∀b,G b->b≠a)(d:∀b,c b->¬G b)(p:RepL K Z H m g i c)(r:Rep K Z H w.1 w.2 y G):
  ∃G',(∀b,G' b->(c b\/G b)/\b≠a)/\RepL K (λb=>Z b\/((c b\/G b)/\b≠a/\¬G' b)) H (m.meet<|lf w.1 w.2) (g++[w.2]) (i++[y]) G':=by
 obtain⟨G',e,j⟩:=iT (G:=λb=>c b\/G b) (λ_ z=>.inl z) (λ_ z=>.inr z) d p<|RepL.one r.lf;have f:∀b,(c b\/G b)->b≠a:=λb h=>h.elim (k b)<|l b;exact⟨G',λb h=>⟨e b h,f b<|e b h⟩,j.zmono λb h=>h.imp id λq=>⟨q.1,f b q.1,q.2⟩⟩
theorem EO {x:X}{i j:Y}{e:E}(g:sf i=O j)(D:cx)(σ:L2.St)(H:Hp)(h:wS K Wx sf io C (.app x i e) D σ H):
  ∃a d,σ[j]?=O (O<|.ref a)/\H a=O (.lst d)/\wE K sf C e σ H λy H1=>∃d,H1 a=O (.lst d)/\d.length<sizeLine/\D.nx σ (upd H1 a<|.lst<|d++[y]):=by
 obtain⟨pv,Z,Fs,η,N,A,f⟩:=h;obtain⟨u,h0,h1⟩:=bx<|show Fin K Wx ⟨sf,pv⟩ Z H (tot Fs) D (Fl.of η (mQ<|rd η i)<|oG (evX C x e) η<|uk i) from f;obtain⟨m0,t0,n⟩:=mR h0;obtain⟨a,v,o,ha⟩:=A.listAt g n;obtain⟨⟨w,η1⟩,h2,h3⟩:=bx<|show Fin K Wx ⟨sf,pv⟩ Z H (tot Fs) D (Fl.of η (evX C x e η)<|uk i) from h1;obtain⟨η2,c,h5⟩:=eF<|show Fin K Wx ⟨sf,pv⟩ Z H (tot Fs) D (nxO η1<|((rd η1 i).bind λu=>jx u w).map λu=>M.put η1 i u) from h3;refine⟨a,v,o,ha,lr (sl:=⟨sf,pv⟩) A h2 λy Z' H' Fs' G B r s=>?_⟩;cases e1:rd η1 i with
 |none=>rw[e1] at c;cases c
 | some u1 =>
  rw[e1] at c;cases e2:jx u1 w with
  |none=>rw[show(O u1).bind (λu=>jx u w)=jx u1 w from rfl,e2] at c;cases c
  |some r1=>rw[show(O u1).bind (λu=>jx u w)=jx u1 w from rfl,e2] at c;cases c;obtain⟨m,ts,rfl,hm,hlen,rfl⟩:=uD e2;obtain⟨d,hl,Q,hx,p,t⟩:=B.ourList g hm o e1;have e3:=p.length;obtain⟨G',P,g2⟩:=v5 (a:=a) (λb h=>h.2) (λb h z=>B.dis b h ⟨i,z ▸ Q⟩) (λb h q=>B.dis b q ⟨i,h.1⟩) p r;refine⟨d,hx,oQ hl,?_⟩;refine change (K:=K) (m':=(m.kid.meet<|lf w.1 w.2).up) (dz _) B e1 Q (λk hk=>by rw[show sf i=O k from hk] at g;cases g;exact o) (by rw[MA,e3,NG];lia) t (λb h=>⟨(P b h).1.imp Om id,(P b h).2⟩) (ts':=ts++[w.2]) (by rw[fg];exact g2.zmono λb h=>h.imp id λq=>⟨q.1.imp Om id,q.2⟩) λZ2 l B2 s2=>h5 σ Z2 _ l B2<|s.trans s2
theorem Gy {x:X}{i j:Y}{e:E}(l:sf i=O j)(D:cx)(σ:L2.St)(H:Hp)(h:wS K Wx sf io C (.ext x i e) D σ H):
  ∃a d,σ[j]?=O (O<|.ref a)/\H a=O (.lst d)/\wE K sf C e σ H λy H1=>∃b d g,y=.ref b/\H1 a=O (.lst d)/\H1 b=O (.lst g)/\d.length+g.length<=sizeLine/\D.nx σ (upd H1 a<|.lst<|d++g):=by
 obtain⟨pv,Z,Fs,η,N,A,f⟩:=h;obtain⟨u,h0,h1⟩:=bx<|show Fin K Wx ⟨sf,pv⟩ Z H (tot Fs) D (Fl.of η (mQ<|rd η i)<|oG (evX C x e) η<|xU i) from f;obtain⟨m0,t0,t⟩:=mR h0;obtain⟨a,Q,v,ha⟩:=A.listAt l t;obtain⟨⟨w,η1⟩,h2,h3⟩:=bx<|show Fin K Wx ⟨sf,pv⟩ Z H (tot Fs) D (Fl.of η (evX C x e η)<|xU i) from h1;obtain⟨η2,c,h5⟩:=eF<|show Fin K Wx ⟨sf,pv⟩ Z H (tot Fs) D (nxO η1<|((rd η1 i).bind λu=>jt u w).map λu=>M.put η1 i u) from h3;refine⟨a,Q,v,ha,lr (sl:=⟨sf,pv⟩) A h2 λy Z' H' Fs' G B r s=>?_⟩;cases e1:rd η1 i with
 |none=>rw[e1] at c;cases c
 | some u1 =>
  rw[e1] at c;cases e2:jt u1 w with
  |none=>rw[show(O u1).bind (λu=>jt u w)=jt u1 w from rfl,e2] at c;cases c
  |some r1=>rw[show(O u1).bind (λu=>jt u w)=jt u1 w from rfl,e2] at c;cases c;obtain⟨m,ts,n,us,rfl,rfl,hm,hlen,rfl⟩:=we e2;obtain⟨d,hl,hf,hx,p,P⟩:=B.ourList l hm v e1;obtain⟨b,g,rfl,hb,hl2,p2⟩:=aM r;have e3:=p.length;have e4:=p2.length;have hG:∀b,G b->b≠a:=λb h z=>B.dis b h ⟨i,z ▸ hf⟩;obtain⟨G',g1,g2⟩:=iT (G:=λb=>(Fs' i b/\b≠a)\/G b) (λ_ z=>.inl z) (λ_ z=>.inr z) (λb h q=>B.dis b q ⟨i,h.1⟩) p p2;have ne:∀b,((Fs' i b/\b≠a)\/G b)->b≠a:=λb h=>h.elim And.right<|hG b;refine⟨b,d,g,rfl,hx,hb,cw<|by lia,?_⟩;refine change (K:=K) (m':=(m.kid.meet n.kid).up) (dz _) B e1 hf (λk hk=>by rw[show sf i=O k from hk] at l;cases l;exact v) (by rw[MA];lia) P (λb h=>⟨(g1 b h).imp Om id,ne b<|g1 b h⟩) (ts':=ts++us) (by rw[fg];exact g2.zmono λb h=>h.imp id λq=>⟨q.1.imp Om id,ne b q.1,q.2⟩) λZ2 o B2 s2=>h5 σ Z2 _ o B2<|s.trans s2
theorem iG (vs:U Y)(η:Env):Nn η (M.share vs η):=λi e=>by
 rw[ij];split
 .rw[e];rfl
 .exact e
theorem E1 {x:X}{e:E}{w:W}(h:evX C x e η=.ok (w,η')):Nn η η':=by
 cases x with
 |q vs ls=>
  obtain⟨⟨u,b⟩,c,a⟩:=ae<|show(evE C e<|pick vs ls η).bind (kX vs η)=_ from h;cases a;show Nn η<|after (M.lf u.1 u.2) vs η;cases f:M.lf u.1 u.2 with
  |d=>intro i e;exact e
  |s=>exact iG vs η
  |o m=>exact iG vs η
 |l vs=>exact(iG vs η).trans<|aC e h
end
section
variable {K:L9}{Wx:L2.St->VK}{sl:Cf}{sf sg:Y->I Y}{C:Call}{σ σ2:L2.St}{Z Z' Z1:Fp}{H H' H1:Hp}{Fs Fs' Fs1:Fps}{η η' η1 ηb:Env}{G G' G1 R F F':Fp}{tg is vs ls io:U Y}{pv val:Y->I V}{D:cx}
def gF (K:L9):U Y->TG
|[j]=>cj j
|[j,l]=>uW K 2<|dS (cj j)<|dS (cj l) sZ
|_=>λ_ _ _ _=>Tw
theorem xI {fl:Fl}{g:Env->Fl}(f:Fin K Wx sl Z H F D<|Fl.turn fl g):(∃η',fl=.nx η'/\Fin K Wx sl Z H F D (g η'))\/(∃η',fl=.bk η'/\Fin K Wx sl Z H F D (.nx η'))\/(∃w η',fl=.rt w η'/\Fin K Wx sl Z H F D (.rt w η'))\/(∃t η',fl=.ex t η'/\Fin K Wx sl Z H F D (.ex t η')):=by
 cases fl with
 |nx η=>exact .inl ⟨η,rfl,f⟩
 |bk η=>exact .inr<|.inl ⟨η,rfl,f⟩
 |rt w η=>exact .inr<|.inr<|.inl ⟨w,η,rfl,f⟩
 |ex t η=>exact .inr<|.inr<|.inr ⟨t,η,rfl,f⟩
 |no=>exact f.elim
theorem tZ {fl:Fl}{g:Env->Fl}{N:L2.St->Hp->Prop}(f:Fin K Wx sl Z H F D<|Fl.turn fl g)(b:∀η' a Z' H' Fs',fl=.nx η'->Fin K Wx sl Z H F D (g η')->At K sl a Z' H' Fs' η' no->Step Z H F Z' H' (tot Fs')->N a H'):Fin K Wx sl Z H F {D with nx:=N,ct:=N,bk:=D.nx} fl:=by
 rcases xI f with⟨η',rfl,f⟩|⟨η',rfl,f⟩|⟨w,η',rfl,f⟩|⟨t,η',rfl,f⟩
 .exactλa Z' H' Fs' A s=>b η' a Z' H' Fs' rfl f A s
 .exact f
 .exact f
 .exact f
theorem uT {n i:Y}{c:It}{ts:U<|U W}{ws:U W}{o:U Y}{x:V}{Q:L2.St->Hp->Prop}(hn:tg.length=n)(nd:tg.Nodup)(N:rG sf io pv)(f:∀t∈tg,t ∉ io)(d:tg.map sf=o.map O)(hz:∀a,Z1 a->Z a)(st:Stay Z1 H1 H)(m:Yld K c Z1 H1 ts n)(A:At K ⟨sf,pv⟩ σ Z H Fs η no)
  (P:ts[i]?=O ws) (hb:bindT tg ws η=O ηb) (y:c.yld i H x H') (k:∀σ2 v g,At K ⟨sf,pv⟩ σ2 Z v g ηb no->Step Z H (tot Fs) Z v (tot g)->Q σ2 v):gF K o x σ H' Q:=by
 have hi:i<ts.length:=(Na.mp P).1
 match n,m with
 | 1,m =>
  obtain⟨e0,w,e,r⟩:=m H i x H' st hi y;rw[e0];rw[P] at e;cases e
  match tg,hn,o,d with
  |[t],_,[j],d=>
   cases hb;have B:sf t=O j:=by simpa using d
   exact k _ H _ (At.set N (f t<|by simp) B A<|r.zmono hz)<|(Step.refl _ _ _).mono (λ_ z=>z) λa h=>(aK h).elim id λz=>z.elim
  |[t],_,[],d=>simp at d
  |[t],_,_::_::_,d=>simp at d
 | 2,m =>
  obtain⟨p,y1,s,u,w,rfl,sm,hq,e,r1,r2⟩:=m H i x H' st hi y;rw[P] at e;cases e
  match tg,hn,o,d with
  |[t,l],_,[j,j'],d=>
   cases hb;have B:sf t=O j:=by simp at d;exact d.1
   have M:sf l=O j':=by simp at d;exact d.2
   have s0:Step Z H no Z H' no:=iS sm;obtain⟨A1,s1⟩:=A.op cQ s0;have sn:Stay Z H H':=mn sm;have r1':Rep K Z H' u.1 u.2 y1 no:=(r1.zmono hz).keep sn (λ_ z=>z) λ_ _ z=>z.elim;have r2':Rep K Z H' w.1 w.2 s no:=(r2.zmono hz).keep sn (λ_ z=>z) λ_ _ z=>z.elim;have A2:=At.set N (f t<|by simp) B A1 r1';have A3:=At.set N (f l<|by simp) M A2 r2';refine⟨p,[y1,s],rfl,hq,rfl,y1,[s],rfl,s,[],rfl,rfl,k _ _ _ A3<|s1.mono (λa h=>h.elim id λz=>z.elim) λa h=>?_⟩;rcases aK h with h|h
   .exact .inl ((aK h).elim id λz=>z.elim)
   .exact h.elim
  |[t,l],_,[],d=>simp at d
  |[t,l],_,[_],d=>simp at d
  |[t,l],_,_::_::_::_,d=>simp at d
theorem xG {n:Y}{k:Ik}{r:U E}{js:U Y}{d:U S}(hn:tg.length=n)(nd:tg.Nodup)(hio:∀t∈tg,t ∉ io)(hjs:tg.map sf=js.map O)(D:cx)(σ:L2.St)(H:Hp)(h:wS K Wx sf io C (.forS vs ls k r tg d) D σ H):
  Jp (wI K sf C n k r) (gF K js) (wSs K Wx sf io C d) D σ H:=by
 obtain⟨pv,Z,Fs,η,N,A,f⟩:=h;obtain⟨⟨ws,η2⟩,h1,h2⟩:=bx<|show Fin K Wx ⟨sf,pv⟩ Z H (tot Fs) D (Fl.of η (evL C r<|pick vs ls η)<|xH vs k tg (evSs C d) η) from f;obtain⟨⟨e,η3⟩,h3,h4⟩:=bx<|show Fin K Wx ⟨sf,pv⟩ Z H (tot Fs) D (Fl.of η (ret (M.share vs η)<|turns k ws)<|qt tg<|evSs C d) from h2;obtain⟨ts',ht,e3⟩:=aA h3;have e4:e=ts':=Tn Nt e3;have e5:η3=M.share vs η:=Tn Nu e3;subst e4 e5;have h4':Fin K Wx ⟨sf,pv⟩ Z H (tot Fs) D (cT tg (evSs C d) e (M.share vs η)):=h4;refine⟨pv,_,uN,_,ws,η2,e,A.quiet (vs:=vs) (ls:=ls),h1,ht,λc Z1 H1 Fs1 B s wk yl=>?_⟩;obtain⟨B1,s1⟩:=fj (G:=no) A cQ B.gd.zal (s.mono (F2:=λa=>tot Fs1 a\/no a) (λ_ z=>z) λa h=>h.elim id λz=>z.elim) λa h=>kn h;obtain⟨B2,s2⟩:=B1.share (vs:=vs);have s3:=(s2 s1).mono (F2:=tot<|fS Fs vs) (λ_ z=>z) λ_ z=>.inl z;have zz:∀a,Z1 a->((Z1 a/\¬cZ Fs vs a)\/cZ Fs vs a):=λa h=>(RU<|cZ Fs vs a).elim .inr λq=>.inl ⟨h,q⟩;refine⟨λi m u H'=>m=e.length-i/\i<=e.length/\∃l g j,At K ⟨sf,pv⟩ u l H' g j no/\Step (λa=>(Z1 a/\¬cZ Fs vs a)\/cZ Fs vs a) H1 (tot<|fS Fs vs) l H' (tot g)/\Fin K Wx ⟨sf,pv⟩ l H' (tot g) D (cT tg (evSs C d) (e.drop i) j),⟨e.length,by simp,MH _,_,_,_,B2,Step.refl _ _ _,h4'.step s3⟩,?_⟩;rintro i m σi v ⟨rfl,hi,l,g,j,Ai,si,w⟩;have st:Stay Z1 H1 v:=by have:=B2.gd.own.stay si;exact⟨λa o h=>this.1 a o<|zz a h,this.2⟩
 by_cases p:i<e.length
 .right;refine⟨wk.go v i st p,_,λu H' P=>⟨e.length-(i+1),by lia,P⟩,λx H' y=>?_⟩;have P:e[i]?=O e[i]:=by simp[p]
  rw[jN P] at w;obtain⟨ηb,hb,fb⟩:=bx<|show Fin K Wx ⟨sf,pv⟩ l v (tot g) D (Fl.of j (ofO<|bindT tg e[i] j) λη1=>Fl.turn (evSs C d η1)<|cT tg (evSs C d)<|e.drop<|i+1) from w;refine uT hn nd N hio hjs (λa h=>si.zm a<|zz a h) st yl Ai P (fV hb) y λσ2 H2 Q A2 t2=>?_;refine⟨pv,l,Q,ηb,N,A2,tZ (fb.step t2) λη' u Z' H' Fs' _ f' A' s'=>⟨rfl,p,Z',Fs',η',A',(si.trans t2).trans s',f'.step s'⟩⟩
 .left;have hi':i=e.length:=by lia
  subst hi';rw[Su] at w;exact⟨wk.stop v _ st<|Mi _,w σi l v g Ai<|Step.refl _ _ _⟩
theorem BF {x:X}{t g j P:Y}{e:E}(hne:t≠g)(hi:t ∉ io)(k:g ∉ io)(hs:sf t=O j)(l:sf g=O P)(D:cx)(σ:L2.St)(H:Hp)(h:wS K Wx sf io C (.asgT x [t,g] e) D σ H):
  mi (wE K sf C e) (uW K 2<|dS (cj j)<|dS (cj P) sZ) D σ H:=by
 obtain⟨pv,Z,Fs,η,N,A,f⟩:=h;obtain⟨⟨w,η1⟩,h1,h2⟩:=bx<|show Fin K Wx ⟨sf,pv⟩ Z H (tot Fs) D (Fl.of η (evX C x e η)<|mT [t,g]) from f;obtain⟨o,M,h4⟩:=eF<|show Fin K Wx ⟨sf,pv⟩ Z H (tot Fs) D (nxO η1<|(Ab w).bind λws=>bindT [t,g] ws η1) from h2;refine lr (sl:=⟨sf,pv⟩) A h1 λv Z' H' Fs' G B r s=>?_;obtain⟨m,t0⟩:=w;cases t0 with
 | tup Q =>
  have c:bindT [t,g] (Q.map λt=>(m.kid,t)) η1=O o:=M
  match Q,c with
  |[a,b],c=>
   cases c;obtain⟨p,xs,rfl,hq,hl,y1,r1,G1,G2,rfl,u,y,d,p1,n,r2,G3,G4,e2,i,g4,d2,p2,q⟩:=r;cases e2;obtain rfl:r2=[]:=q;have B1:=At.setR (w:=(m.kid,a)) (R:=G3) N hi hs B p1 u (λa h=>y a<|i a h) λa h z=>d a z<|i a h;have B2:=At.set (w:=(m.kid,b)) N k l B1 p2;refine⟨p,[y1,n],rfl,hq,rfl,y1,[n],rfl,n,[],rfl,rfl,h4 _ Z' H' _ B2<|s.mono (λ_ z=>z) λa h=>?_⟩;rcases aK h with h|h
   .exact(aK h).imp id (u a)
   .exact .inr (y a<|i a h)
  |[],c=>cases c
  |[_],c=>cases c
  |_::_::_::_,c=>cases c
 |_=>cases M
end
end MR

namespace MR
open PySem PySem.Spec PyProof.Rows L2 L3
section
variable {X:Cx}{sf sg:Y->I Y}{C:M.Call}{pos p2:Pos}{ea eb ec:Tq}{a b c:M.E}{h:Ta}{n:Y}
theorem aj {e:Tq}{t i:TE}(h:PE X e t)(j:∀g H Q,i g H Q->t g H Q):PE X e i:=λf s g H Q d q=>h f s g H Q d<|j g H Q q
theorem kf {e:Tq}{t i:TT}(h:PT X e t)(j:∀g H Q,i g H Q->t g H Q):PT X e i:=λf s g H Q d q=>h f s g H Q d<|j g H Q q
theorem J8 {e:Tq}{t j:TT}(h:PW X e t)(k:∀i H Q,j i H Q->t i H Q):PW X e j:=λf g s i H Q d q=>h f g s i H Q d<|k i H Q q
theorem xN {g:U Tq}{t i:TA}(h:PA X g t)(j:∀f H Q,i f H Q->t f H Q):PA X g i:=λpos e s f H Q d q=>h pos e s f H Q d<|j f H Q q
theorem cR {s:Tz}{t g:TS}(h:PS X s t)(i:∀D f H,g D f H->t D f H):PS X s g:=λe s f H D d q=>h e s f H D d<|i D f H q
theorem uM {s:U Tz}{t g:TS}(h:PSs X s t)(i:∀D f H,g D f H->t D f H):PSs X s g:=λe s f H D d q=>h e s f H D d<|i D f H q
theorem pZ {j e:Tq}{t i:TI}(h:PI X j e t)(k:∀g H R,i g H R->t g H R):PI X j e i:=λf s g H R d q=>h f s g H R d<|k g H R q
theorem Jz {i e:Tq}{t j:TI}(h:PI X i e t)(k:PI X i e j):PI X i e (λg H R=>t g H R\/j g H R):=λf s g H R d q=>q.elim (h f s g H R d)<|k f s g H R d
abbrev SE (X:Cx)(sf:Y->I Y)(C:M.Call)(d:Tq)(e:M.E):Prop:=PE X d<|wE X.K sf C e
abbrev SB (X:Cx)(sf:Y->I Y)(C:M.Call)(d:Tq)(e:M.E):Prop:=PT X d<|wT X.K sf C e
abbrev SL (X:Cx)(sf:Y->I Y)(C:M.Call)(e:U Tq)(d:U M.E):Prop:=PA X e<|wL X.K sf C d
abbrev SA (X:Cx)(sf:Y->I Y)(C:M.Call)(e:U Tq)(d:U M.E):Prop:=PA X e<|wA X.K sf C d
abbrev SS (X:Cx)(sf:Y->I Y)(d:U Y)(C:M.Call)(e:Tz)(s:M.S):Prop:=PS X e<|wS X.K (xw X) sf d C s
abbrev SSs (X:Cx)(sf:Y->I Y)(d:U Y)(C:M.Call)(e:U Tz)(s:U M.S):Prop:=PSs X e<|wSs X.K (xw X) sf d C s
theorem sV (j:Y){i:Y}{x:Str}(g:sf i=O j:=by rfl)(e:X.N[j]?=O x:=by rfl)(k:Vis X.env.scope x:=by first|exact Mz rfl|exact Ms (Mz rfl)|exact Ms<|Ms rfl)(f:(x==("__debug__":Str))=false:=by decide)
  (d:(x==("__classdict__":Str))=false:=by decide):SE X sf C (.Name x pos) (.var i):=aj (aO e k f d)<|C4 g
theorem sM (j:Y){i:Y}{x:Str}(g:sf i=O j:=by rfl)(e:X.N[j]?=O x:=by rfl)(k:Vis X.env.scope x:=by first|exact Mz rfl|exact Ms (Mz rfl)|exact Ms<|Ms rfl)(f:(x==("__debug__":Str))=false:=by decide)
  (d:(x==("__classdict__":Str))=false:=by decide):SE X sf C (.Name x pos) (.mv i):=aj (aO e k f d)<|GW (λ_=>rfl) g
theorem sI {i:Int}{k:Y}:SE X sf C (.Constant (.int i) k pos) (.cst<|.int i):=aj vF<|jf λ{_ _}=>rfl
theorem sO {i:Ta}{k:Y}:SE X sf C (.Constant (.bool i) k pos) (.cst<|.bl i):=aj J9<|jf λ{_ _}=>rfl
theorem sN {k:Y}:SE X sf C (.Constant .none k pos) (.cst .non):=aj EM<|jf λ{_ _}=>rfl
theorem yu (s:Tu)(f:s.length<=1000):M.sOk (Str.ofString s)=true:=by
 unfold M.sOk;rw[Str.ofString_eq_toList,Mv];refine⟨?_,Te ?_⟩
 .rw [Ri];intro x hx;rw[List.mem_toArray,OL] at hx;obtain⟨c,_,rfl⟩:=hx;refine Te ?_;have:=c.valid;have d:c.toNat<0x110000:=by have e:=c.valid;unfold UInt32.isValidChar Nat.isValidChar at e;show c.val.toNat<_;lia
  exact d
 .rw [Mx,Mg,String.length_toList];exact Mt f<|by decide
theorem sS {s:Tu}{k:Y}(d:s.length<=1000:=by decide):SE X sf C (.Constant (.str<|Str.ofString s) k pos) (.cst<|.str<|Str.ofString s):=aj DJ<|jf λ{_ _}=>⟨rfl,yu s d⟩
theorem sl0:SL X sf C [] []:=xN cI Hv
theorem slc {d:U Tq}{bs:U M.E}(e:SE X sf C ea a)(f:SL X sf C d bs)(g:Me (ea::d) X.env=(L5,Tx ea X.env)::Me d X.env:=by rfl):SL X sf C (ea::d) (a::bs):=xN (bf e f g) Ao
theorem sT {d:U Tq}{bs:U M.E}{f:Y}(h:SL X sf C d bs)(e:bs.length<=M.LIM:=by decide):SE X sf C (.Tuple d f pos) (.tup bs):=aj (uA h)<|GV e
theorem dg (l:SE X sf C ea a)(o:SE X sf C eb b):SE X sf C (.BinOp ea .Add eb pos) (.op .add h [a,b]):=
 aj (ek (op_add.or<|op_add_str.or<|op_cat.or qw) l o) (aD (yj (CC X.K) λ{Z H G Q a b u w z} g i j d t r k=>by
  obtain⟨x,e,f⟩:=r;refine⟨a,b,u,w,rfl,rfl,g,i,j,cw d,λv y same p=>ig (m:=.s) t e ?_ f k same p⟩;rw[MA];exact d))
theorem eR (d:SE X sf C ea a)(e:SE X sf C eb b):SE X sf C (.BinOp ea .Sub eb pos) (.op .sub h [a,b]):=aj (ek FD d e)<|aD yz
theorem lu (d:SE X sf C ea a)(e:SE X sf C eb b):SE X sf C (.BinOp ea .Mult eb pos) (.op .mul h [a,b]):=aj (ek (op_mul.or Gb) d e)<|aD AU
theorem df (d:SE X sf C ea a)(e:SE X sf C eb b):SE X sf C (.BinOp ea .FloorDiv eb pos) (.op .fdiv h [a,b]):=aj (ek zx d e)<|aD vZ
theorem cc (d:SE X sf C ea a)(e:SE X sf C eb b):SE X sf C (.BinOp ea .Mod eb pos) (.op .mod h [a,b]):=aj (ek FW d e)<|aD zK
theorem jv (d:SE X sf C ea a)(e:SE X sf C eb b):SE X sf C (.BinOp ea .Pow eb pos) (.op .pow h [a,b]):=aj (ek Hl d e)<|aD BD
theorem jo (d:SE X sf C ea a):SE X sf C (.UnaryOp .USub ea pos) (.op .neg h [a]):=aj (JU D7 d)<|Hk Bj
theorem sLt (d:SE X sf C ea a)(e:SE X sf C eb b):SE X sf C (.Compare ea [.Lt] [eb] pos) (.op .lt h [a,b]):=aj (eJ pV d e<|b9 _)<|aD vV
theorem sLe (d:SE X sf C ea a)(e:SE X sf C eb b):SE X sf C (.Compare ea [.LtE] [eb] pos) (.op .le h [a,b]):=aj (eJ mG d e<|b9 _)<|aD tQ
theorem sGe (d:SE X sf C ea a)(e:SE X sf C eb b):SE X sf C (.Compare ea [.GtE] [eb] pos) (.op .ge h [a,b]):=aj (eJ Co d e<|b9 _)<|aD xQ
theorem sIx (d:SE X sf C ea a)(e:SE X sf C eb b)(f:hU eb:=by intro _ _;rfl):SE X sf C (.Subscript ea eb pos) (.op .ix h [a,b]):=aj (Ct (ix_any.or GI) d e f)<|aD D3
mutual
def th:M.T->Th
|.non=>.non | .bl b=>.bl b | .int i=>.int i | .str x=>.str x | .tup ts=>.tup (ths ts) | .lst ts=>.lst (ths ts) | .dct _ _=>.non | .ins _ _ _=>.non | .obj _ _ _=>.non | .dtt _ _=>.non | .scr _=>.non | .gone=>.non
def ths:U M.T->U Th
|[]=>[]
|t::ts=>th t::ths ts
end
mutual
theorem qa {K:L9}{Z:Fp}{H:Hp}:∀{t:M.T} {m:M.Md} {v:V} {G:Fp} {n:Y},M.dp t<=n->n<=64->Rep K Z H m t v G->Has K H (th t) v/\(toD<|th t).canLay0=L7/\(toD<|th t).depth<=n
|.non,_,_,_,_,_,_,r=>⟨r,rfl,MH _⟩
|.bl _,_,_,_,_,_,_,r=>⟨r,rfl,MH _⟩
|.int _,_,_,_,_,_,_,r=>⟨r,rfl,MH _⟩
|.str x,_,_,_,_,_,_,r=>⟨r.1,by have h:=r.2;unfold M.sOk at h;rw[Mv] at h;exact h.1,MH _⟩
| .tup ts,m,v,G,n,hd,hn,hh=>by
 obtain⟨a,xs,e,q,l,r⟩:=hh;have hd':M.dps ts+1<=n:=hd
 match n,hd' with
 |n+1,hd'=>obtain⟨h1,h2,h3⟩:=iA (n:=n) (by lia) (by lia) r;exact⟨⟨a,xs,e,q,h1⟩,h2,PJ h3⟩
| .lst ts,m,v,G,n,hd,hn,hh=>by
 obtain⟨a,xs,e,l,q,r⟩:=hh;have hd':M.dps ts+1<=n:=hd
 match n,hd' with
 |n+1,hd'=>obtain⟨h1,h2,h3⟩:=iA (n:=n) (by lia) (by lia) r;exact⟨⟨a,xs,e,by cases m<;>exact q.2,h1⟩,h2,PJ h3⟩
|.dct _ _,_,_,_,_,hd,hn,_=>by have:1000<=64:=Mt hd hn;lia
|.dtt _ _,_,_,_,_,hd,hn,_=>by have:1000<=64:=Mt hd hn;lia
|.ins _ _ _,_,_,_,_,hd,hn,_=>by have:1000<=64:=Mt hd hn;lia
|.obj _ _ _,_,_,_,_,hd,hn,_=>by have:1000<=64:=Mt hd hn;lia
|.gone,_,_,_,_,hd,hn,_=>by have:1000<=64:=Mt hd hn;lia
|.scr _,_,_,_,_,hd,hn,_=>by have:1000<=64:=Mt hd hn;lia
theorem iA {K:L9}{Z:Fp}{H:Hp}:∀{ts:U M.T} {m:M.Md} {xs:U V} {G:Fp} {n:Y},M.dps ts<=n->n<=64->RepL K Z H m ts xs G->HasL K H (ths ts) xs/\PyData.canLayAll0 (gI<|ths ts)=L7/\PyData.depthAll (gI<|ths ts)<=n
|[],_,_,_,_,_,_,r=>⟨r,rfl,MH _⟩
| t::ts,m,xs,G,n,hd,hn,hh=>by
 obtain⟨x,r,G1,G2,e,_,_,_,p,q⟩:=hh;have hd':max (M.dp t) (M.dps ts)<=n:=hd;obtain⟨h1,h2,h3⟩:=qa (n:=n) (by lia) hn p;obtain⟨k1,k2,k3⟩:=iA (n:=n) (by lia) hn q;refine⟨⟨x,r,e,h1,k1⟩,?_,?_⟩
 .show ((toD<|th t).canLay0&&PyData.canLayAll0 (gI<|ths ts))=L7;rw[h2,k2];rfl
 .show max (toD<|th t).depth (PyData.depthAll<|gI<|ths ts)<=n;lia
end
mutual
theorem oA:∀(t u:M.T),M.dp t<=64->M.dp u<=64->PyData.eqv (toD<|th t) (toD<|th u)=M.eqT t u
|.dct _ _,_,h,_=>by have:1000<=64:=h;lia
|.dtt _ _,_,h,_=>by have:1000<=64:=h;lia
|.ins _ _ _,_,h,_=>by have:1000<=64:=h;lia
|.obj _ _ _,_,h,_=>by have:1000<=64:=h;lia
|.gone,_,h,_=>by have:1000<=64:=h;lia
|.scr _,_,h,_=>by have:1000<=64:=h;lia
|.non,u,_,h=>by cases u<;>first|rfl|(have:1000<=64:=h;lia)
|.bl a,u,_,h=>by cases u<;>first|rfl|(cases a<;>rfl)|(have:1000<=64:=h;lia)
|.int i,u,_,h=>by
 cases u with
 |bl b=>cases b<;>rfl
 |_=>first|rfl|(have:1000<=64:=h;lia)
|.str x,u,_,h=>by cases u<;>first|rfl|(have:1000<=64:=h;lia)
|.tup ts,u,h1,h=>by
 cases u with
 |tup us=>exact kH ts us (by have:M.dps ts+1<=64:=h1;lia) (by have:M.dps us+1<=64:=h;lia)
 |_=>first|rfl|(have:1000<=64:=h;lia)
|.lst ts,u,h1,h=>by
 cases u with
 |lst us=>exact kH ts us (by have:M.dps ts+1<=64:=h1;lia) (by have:M.dps us+1<=64:=h;lia)
 |_=>first|rfl|(have:1000<=64:=h;lia)
theorem kH:∀(ts us:U M.T),M.dps ts<=64->M.dps us<=64->PyData.eqvAll (gI<|ths ts) (gI<|ths us)=M.eqTs ts us
|[],[],_,_=>rfl
|[],_::_,_,_=>rfl
|_::_,[],_,_=>rfl
|t::ts,u::us,h1,h2=>by have h1':max (M.dp t) (M.dps ts)<=64:=h1;have h2':max (M.dp u) (M.dps us)<=64:=h2;show(PyData.eqv (toD<|th t) (toD<|th u)&&PyData.eqvAll (gI<|ths ts) (gI<|ths us))=(M.eqT t u&&M.eqTs ts us);rw[oA t u (by lia)<|by lia,kH ts us (by lia)<|by lia]
end
theorem kP {K:L9}{Z:Fp}{H:Hp}{t:M.T}{m:M.Md}{v:V}{G:Fp}(g:M.dp t<=64)(r:Rep K Z H m t v G):Has K H (th t) v/\kN (th t):=by obtain⟨d,e,f⟩:=qa g (Mi _) r;refine⟨d,?_⟩;show((toD<|th t).canLay0&&decide ((toD<|th t).depth<=64))=L7;rw[e,Te f];rfl
theorem vK {K:L9}:Loc K 2 .eq h λj H Q=>∀x y,j=[x,y]->∃t i,Has K H t x/\Has K H i y/\kN t/\kN i/\Q (.bl<|PyData.eqv (toD t)<|toD i) H:=by
 intro D w j Z H G Q v e r z F k x y hx;subst hx;obtain⟨⟨m,a⟩,⟨n,b⟩,rfl⟩:=dD r.length.symm;obtain⟨G1,G2,A,B,d,s,u⟩:=bM r;have g:(if decide (M.dp a<=64)&&decide (M.dp b<=64) then O ((.d,.bl (M.eqT a b)):M.W) else J)=O w:=e;split at g
 .rename_i f;rw[Mv,Tj,Tj] at f;cases g;obtain⟨l,p⟩:=kP f.1 s;obtain⟨o,o2⟩:=kP f.2 u;refine⟨th a,th b,l,o,p,o2,?_⟩;rw[oA a b f.1 f.2];exact bI k
 .cases g
theorem D6 {K:L9}:Loc K 2 .ne h λj H Q=>∀x y,j=[x,y]->∃t i,Has K H t x/\Has K H i y/\kN t/\kN i/\Q (.bl<|!PyData.eqv (toD t) (toD i)) H:=by
 intro D w j Z H G Q v e r z F k x y hx;subst hx;obtain⟨⟨m,a⟩,⟨n,b⟩,rfl⟩:=dD r.length.symm;obtain⟨G1,G2,A,B,d,s,u⟩:=bM r;have g:(if decide (M.dp a<=64)&&decide (M.dp b<=64) then O ((.d,.bl (!M.eqT a b)):M.W) else J)=O w:=e;split at g
 .rename_i f;rw[Mv,Tj,Tj] at f;cases g;obtain⟨l,p⟩:=kP f.1 s;obtain⟨o,o2⟩:=kP f.2 u;refine⟨th a,th b,l,o,p,o2,?_⟩;rw[oA a b f.1 f.2];exact bI k
 .cases g
theorem sEq (f:Room n X.A)(d:SE X sf C ea a)(e:SE X sf C eb b):SE X sf C (.Compare ea [.Eq] [eb] pos) (.op .eq h [a,b]):=aj (eJ (pN f.units) d e<|b9 _)<|aD vK
theorem qV {K:L9}{Z:Fp}{H:Hp}{t:M.T}{m:M.Md}{x:V}{G:Fp}(d:t.isG=L5)(r:Rep K Z H m t x G):decide (x=V.non)=t.isN:=by
 cases t with
 |non=>rw[show x=_ from r];rfl
 |bl _=>rw[show x=_ from r];rfl
 |int _=>rw[show x=_ from r];rfl
 |str _=>rw[show x=_ from r.1];rfl
 |tup _=>obtain⟨p,_,e,_⟩:=r;rw[show x=_ from e];rfl
 |lst _=>obtain⟨p,_,e,_⟩:=r;rw[show x=_ from e];rfl
 |scr _=>obtain⟨p,e,_⟩:=r;rw[show x=_ from e];rfl
 |dct _ _=>obtain⟨p,_,e,_⟩:=r;rw[show x=_ from e];rfl
 |ins _ _ _=>obtain⟨_,p,_,_,_,e,_⟩:=r;rw[show x=_ from e];rfl
 |obj _ _ _=>obtain⟨_,p,_,_,e,_⟩:=r;rw[show x=_ from e];rfl
 |dtt _ _=>cases d
 |gone=>cases d
theorem ifN {d:Type}{b:Ta}{x:I d}{y:d}(h:(if b=L7 then J else x)=O y):b=L5/\x=O y:=by cases b<;>first|exact⟨rfl,h⟩|cases h
theorem vj {K:L9}:Loc K 2 .is h λf H Q=>∀x y,f=[x,y]->y=.non/\Q (.bl<|decide (x=.non)) H:=by
 intro t w f Z H G Q l e r o u k x y hx;subst hx;obtain⟨⟨m,a⟩,⟨n,b⟩,rfl⟩:=dD r.length.symm;obtain⟨G1,G2,p,s,d,i,j⟩:=bM r;obtain rfl:b=.non:=by cases b<;>first|rfl|(cases e;done)|(cases a<;>cases e)
 obtain⟨g,e⟩:=ifN<|show(if a.isG=L7 then J else O _)=_ from e;cases e;rw[qV g i];exact⟨j,bI k⟩
theorem ti {K:L9}:Loc K 2 .isnot h λf H Q=>∀x y,f=[x,y]->y=.non/\Q (.bl<|!decide (x=.non)) H:=by
 intro t w f Z H G Q l e r o u k x y hx;subst hx;obtain⟨⟨m,a⟩,⟨n,b⟩,rfl⟩:=dD r.length.symm;obtain⟨G1,G2,p,s,d,i,j⟩:=bM r;obtain rfl:b=.non:=by cases b<;>first|rfl|(cases e;done)|(cases a<;>cases e)
 obtain⟨g,e⟩:=ifN<|show(if a.isG=L7 then J else O _)=_ from e;cases e;rw[qV g i];exact⟨j,bI k⟩
theorem sIs (d:SE X sf C ea a)(e:SE X sf C eb b):SE X sf C (.Compare ea [.Is] [eb] pos) (.op .is h [a,b]):=aj (eJ uG d e<|b9 _)<|aD vj
theorem qu {K:L9}{Z:Fp}{H:Hp}{G:Fp}{m:M.Md}{f:U M.T}{i:U V}(lo g:I Int)(r:RepL K Z H m f i G):RepL K Z H m (M.cut f lo g) (ej i lo g) G:=by
 have e:=r.length;have j:∀n d o,HT.sIx n d o=M.sIx n d o:=λn d o=>by cases o<;>rfl
 have k:ej i lo g=(i.drop (M.sIx f.length 0 lo)).take (M.sIx f.length f.length g-M.sIx f.length 0 lo):=by unfold ej;rw[j,j,e]
 rw[k];exact(r.drop _).take _
theorem ub (g:U Int)(lo e:I Int):ej (g.map V.int) lo e=(M.cut g lo e).map V.int:=by
 have f:∀n d o,HT.sIx n d o=M.sIx n d o:=λn d o=>by cases o<;>rfl
 unfold ej M.cut;rw[f,f,Mg,Ov,Rz]
theorem Fu {f:Type}(d:U f)(lo e:I Int):(M.cut d lo e).length<=d.length:=by unfold M.cut;rw[NO,Pq];lia
theorem nW {K:L9}{Z:Fp}{H:Hp}{G G1:Fp}{Q:VK}{m:M.Md}{a:M.T}{x:V}{w:M.W}{lo hi:I Int}(y:∀b,G1 b->G b)(u:Own Z H G)(A:∀a,Z a->H a≠J)(r:Rep K Z H m a x G1)
  (e:(match a with | .lst i=>M.newL h m.kid (M.cut i lo hi) | .tup i=>O ((.s,.tup<|M.cut i lo hi):M.W) | .scr t=>O (.d,.lst<|(M.cut t lo hi).map M.T.int)|_=>J)=O w) (k:Out K Z H G w Q):Ap K x lo hi H Q\/zq K x lo hi H Q:=by
 cases a with
 |lst i=>obtain⟨p,j,rfl,g,o,q⟩:=aM r;refine .inl ⟨p,j,rfl,.inl<|.inl g,λl f=>?_⟩;exact eg u A (Mt (cX j lo hi) o) ⟨G1,y,(qu lo hi q).zmono λ_ z=>.inl z⟩ e k f
 |tup i=>obtain⟨p,j,rfl,g,o,q⟩:=cO r;cases e;refine .inr ⟨p,j,rfl,g,λv N same F=>?_⟩;exact ig (m:=.s) (G':=no) u (λ_ z=>z.elim) (Mt (cX j lo hi) o) ((RepL.sh<|qu lo hi q).zmono λb D=>D.imp id λz=>⟨y b z,λq=>q⟩) k same F
 |scr t=>obtain⟨p,rfl,B,g⟩:=r;cases e;refine .inl ⟨p,_,rfl,g.sq,λl f=>?_⟩;rw[ub];exact cW (m:=.d) (G':=no) u A (λ_ z=>z.elim) (by rw[Mg];exact Mt (Fu t lo hi) B) (iu _) (by simp) k f
 |_=>cases e
theorem lj {o:Pos}(f:SE X sf C ea a)(g:SE X sf C eb b):SE X sf C (.Subscript ea (.Slice J (O eb) J o) pos) (.op .sl2 h [a,b]):=
 aj (fN (sl_list.or kD) f qd<|eP g) (λv H Q j=>aD (r:=λx y H Q=>∃i,y=.int i/\(Ap X.K x J (O i) H Q\/zq X.K x J (O i) H Q)) (by
  intro B w D Z H G Q z e r l u k x y hx;subst hx;obtain⟨⟨m,a⟩,⟨n,b⟩,rfl⟩:=dD r.length.symm;obtain⟨G1,G2,t,A,d,p,s⟩:=bM r;obtain⟨i,rfl⟩:∃i,b=.int i:=by cases a<;>first|(cases e;done)|(cases b<;>first|exact⟨_,rfl⟩|(cases e;done))
  exact⟨i,s,nW (h:=h) (lo:=J) (hi:=O i) t l u p (by cases a<;>exact e) k⟩) v H Q j)
theorem Kx {o:Pos}(f:SE X sf C ea a)(g:SE X sf C eb b):SE X sf C (.Subscript ea (.Slice (O eb) J J o) pos) (.op .sl1 h [a,b]):=
 aj (fN (sl_list.or kD) f (eP g) qd) (λv H Q j=>aD (r:=λx y H Q=>∃i,y=.int i/\(Ap X.K x (O i) J H Q\/zq X.K x (O i) J H Q)) (by
  intro B w D Z H G Q z e r l u k x y hx;subst hx;obtain⟨⟨m,a⟩,⟨n,b⟩,rfl⟩:=dD r.length.symm;obtain⟨G1,G2,t,A,d,p,s⟩:=bM r;obtain⟨i,rfl⟩:∃i,b=.int i:=by cases a<;>first|(cases e;done)|(cases b<;>first|exact⟨_,rfl⟩|(cases e;done))
  exact⟨i,s,nW (h:=h) (lo:=O i) (hi:=J) t l u p (by cases a<;>exact e) k⟩) v H Q j)
theorem uX {K:L9}:Loc K 1 .len h λd H Q=>∃x n,d=[x]/\Kd K x H n/\Q (.int n) H:=by intro j w d Z H G Q g e r i l k;obtain⟨x,n,hx,f,q⟩:=Bw (h:=h) j w d Z H G Q g e r i l k;exact⟨x,n,hx,by cases x<;>exact f,q⟩
section
variable {p:Pos}{x1:Str}
theorem bF (hm:X.mg "len"=J)(f:Gl X "len":=by rfl)(ha:SE X sf C ea a)(e:Me [ea] X.env=(L5,Tx ea X.env)::Me [] X.env:=by rfl)(d:(Mp pos<|Me [] X.env).any (·.1)=false:=by rfl):SE X sf C (.Call (.Name "len" p) [ea] [] pos) (.op .len h [a]):=
 aj (bA yc f hm PySem.boot_len (slc ha sl0 e) (by decide) (by decide) e d) (dU uX rfl)
theorem ro (f:X.calm=true:=by rfl)(hm:X.mg "sum"=J)(g:Gl X "sum":=by rfl)(ha:SE X sf C ea a)(e:Me [ea] X.env=(L5,Tx ea X.env)::Me [] X.env:=by rfl)(d:(Mp pos<|Me [] X.env).any (·.1)=false:=by rfl):SE X sf C (.Call (.Name "sum" p) [ea] [] pos) (.op .sum h [a]):=
 aj (bA (sL f) g hm (by rfl) (slc ha sl0 e) (by decide) (by decide) e d) (dU AE rfl)
theorem L0 (f:X.calm=true:=by rfl)(hm:X.mg "all"=J)(g:Gl X "all":=by rfl)(ha:SE X sf C ea a)(e:Me [ea] X.env=(L5,Tx ea X.env)::Me [] X.env:=by rfl)(d:(Mp pos<|Me [] X.env).any (·.1)=false:=by rfl):SE X sf C (.Call (.Name "all" p) [ea] [] pos) (.op .all h [a]):=
 aj (bA (rN f) g hm (by rfl) (slc ha sl0 e) (by decide) (by decide) e d) (dU zZ rfl)
theorem IS (hm:X.mg "list"=J)(f:Gl X "list":=by rfl)(ha:SE X sf C ea a)(e:Me [ea] X.env=(L5,Tx ea X.env)::Me [] X.env:=by rfl)(d:(Mp pos<|Me [] X.env).any (·.1)=false:=by rfl):SE X sf C (.Call (.Name "list" p) [ea] [] pos) (.op .list h [a]):=
 aj (dq lq f hm Pg (slc ha sl0 e) (by decide) (by decide) e d) (dU uK rfl)
theorem Ku (g:X.calm=true:=by rfl)(hm:X.mg "max"=J)(i:Gl X "max":=by rfl)(ha:SE X sf C ea a)(hb:SE X sf C eb b)(f:Me [ea,eb] X.env=(L5,Tx ea X.env)::Me [eb] X.env:=by rfl)(e:Me [eb] X.env=(L5,Tx eb X.env)::Me [] X.env:=by rfl)(d:(Mp pos<|Me [eb] X.env).any (·.1)=false:=by rfl):SE X sf C (.Call (.Name "max" p) [ea,eb] [] pos) (.op .max h [a,b]):=
 aj (bA (tD g) i hm (by rfl) (slc ha (slc hb sl0 e) f) (by decide) (by decide) f d) (dU yN rfl)
theorem Lg (g:X.calm=true:=by rfl)(hm:X.mg "min"=J)(i:Gl X "min":=by rfl)(ha:SE X sf C ea a)(hb:SE X sf C eb b)(f:Me [ea,eb] X.env=(L5,Tx ea X.env)::Me [eb] X.env:=by rfl)(e:Me [eb] X.env=(L5,Tx eb X.env)::Me [] X.env:=by rfl)(d:(Mp pos<|Me [eb] X.env).any (·.1)=false:=by rfl):SE X sf C (.Call (.Name "min" p) [ea,eb] [] pos) (.op .min h [a,b]):=
 aj (bA (rh g) i hm (by rfl) (slc ha (slc hb sl0 e) f) (by decide) (by decide) f d) (dU yo rfl)
end
theorem kI {K:L9}{x:V}{H:Hp}{k:Ta}(h:TrV K x H k):xV K x H k:=by
 cases x with
 |ref p=>exact h.imp id .inl
 |byt _=>exact h.elim
 |_=>exact h
theorem tB (l:SE X sf C ea a)(m:∀d,Uq ea X.env d=(do let v <- d;standAt ea.pos;holding [v] (truthy v)):=by intro _;rfl):SB X sf C ea a:=
 kf (uZ l m) λt H Q h=>by obtain⟨pv,Z,g,p,w,f,b,A,ev,o,k⟩:=h;exact⟨pv,Z,g,p,w,f,A,ev,λv j i e G B r s=>⟨b,kI<|gg o r,k j i e B.bare<|s.mono (λ_ z=>z) λ_ z=>.inl z⟩⟩
theorem BH (d:SB X sf C ea a):SB X sf C (.UnaryOp .Not ea pos) (.not a):=kf (GQ d) Ek
theorem vS {j:L2.St}{H:Hp}{Q:Ta->Hp->Prop}(p:∀g w d,M.evE C a g=.ok (w,d)->∃b,w.2=.bl b)(h:wT X.K sf C a j H Q):u5 (wE X.K sf C a) j H Q:=by obtain⟨pv,Z,l,g,w,d,b,A,ev,i,k⟩:=h;refine⟨pv,Z,l,g,w,d,A,ev,λv o m e G B r s=>⟨b,?_,k o m e B.bare<|s.mono (λ_ z=>z) λ_ z=>.inl z⟩⟩;obtain⟨t,f⟩:=p _ _ _ ev;rw[f] at i r;cases i;exact r
theorem HR {o:M.Op}(ho:∀u v w,M.oSem o h [u,v]=O w->∃b,w.2=.bl b):∀f w d,M.evE C (.op o h [a,b]) f=.ok (w,d)->∃b,w.2=.bl b:=λf w d e=>by obtain⟨p,i,j⟩:=b8 e;obtain⟨u,l,k,_,e2,rfl⟩:=aq i;obtain⟨v,m,k,_,g,rfl⟩:=aq e2;cases g;exact ho u v w j
theorem cK {op:CmpOp}{r:R2}{o:M.Op}(ho:OpR X (M7 op) r)(f:SE X sf C ea a)(g:SE X sf C eb b)(j:OF op eb=L5)(i:∀d H Q,wE X.K sf C (.op o h [a,b]) d H Q->tOp r (wE X.K sf C a) (wE X.K sf C b) d H Q)
  (e:∀u v w,M.oSem o h [u,v]=O w->∃b,w.2=.bl b):SB X sf C (.Compare ea [op] [eb] pos) (.op o h [a,b]):=
 kf (pC ho f g j) λd H Q k=>i d H _<|vS (HR e) k
theorem HY {u v w:M.W}(e:M.oSem .eq h [u,v]=O w):∃b,w.2=.bl b:=by
 obtain⟨m,a⟩:=u;obtain⟨n,b⟩:=v;have f:(if decide (M.dp a<=64)&&decide (M.dp b<=64) then O ((.d,.bl (M.eqT a b)):M.W) else J)=O w:=e;split at f
 .cases f;exact⟨_,rfl⟩
 .cases f
theorem IC {u v w:M.W}(e:M.oSem .ne h [u,v]=O w):∃b,w.2=.bl b:=by
 obtain⟨m,a⟩:=u;obtain⟨n,b⟩:=v;have f:(if decide (M.dp a<=64)&&decide (M.dp b<=64) then O ((.d,.bl (!M.eqT a b)):M.W) else J)=O w:=e;split at f
 .cases f;exact⟨_,rfl⟩
 .cases f
theorem HE {u v w:M.W}(e:M.oSem .is h [u,v]=O w):∃b,w.2=.bl b:=by
 obtain⟨m,a⟩:=u;obtain⟨n,b⟩:=v;obtain rfl:b=.non:=by cases b<;>first|rfl|(cases e;done)|(cases a<;>cases e)
 obtain⟨_,e⟩:=ifN<|show(if a.isG=L7 then J else O _)=_ from e;cases e;exact⟨_,rfl⟩
theorem xq {u v w:M.W}(e:M.oSem .isnot h [u,v]=O w):∃b,w.2=.bl b:=by
 obtain⟨m,a⟩:=u;obtain⟨n,b⟩:=v;obtain rfl:b=.non:=by cases b<;>first|rfl|(cases e;done)|(cases a<;>cases e)
 obtain⟨_,e⟩:=ifN<|show(if a.isG=L7 then J else O _)=_ from e;cases e;exact⟨_,rfl⟩
theorem Du (d:SE X sf C ea a)(f:SE X sf C eb b):SB X sf C (.Compare ea [.Lt] [eb] pos) (.op .lt h [a,b]):=cK pV d f (b9 _) (aD vV) λu v w e=>by obtain⟨_,_,_,_,_,_,rfl⟩:=kF e;exact⟨_,rfl⟩
theorem K4 (d:SE X sf C ea a)(f:SE X sf C eb b):SB X sf C (.Compare ea [.LtE] [eb] pos) (.op .le h [a,b]):=cK mG d f (b9 _) (aD tQ) λu v w e=>by obtain⟨_,_,_,_,_,_,rfl⟩:=dZ e;exact⟨_,rfl⟩
theorem kZ (d:SE X sf C ea a)(f:SE X sf C eb b):SB X sf C (.Compare ea [.Gt] [eb] pos) (.op .gt h [a,b]):=cK Iw d f (b9 _) (aD C9) λu v w e=>by obtain⟨_,_,_,_,_,_,rfl⟩:=uH e;exact⟨_,rfl⟩
theorem LC (d:SE X sf C ea a)(f:SE X sf C eb b):SB X sf C (.Compare ea [.GtE] [eb] pos) (.op .ge h [a,b]):=cK Co d f (b9 _) (aD xQ) λu v w e=>by obtain⟨_,_,_,_,_,_,rfl⟩:=wU e;exact⟨_,rfl⟩
theorem cY (g:Room n X.A)(d:SE X sf C ea a)(f:SE X sf C eb b):SB X sf C (.Compare ea [.Eq] [eb] pos) (.op .eq h [a,b]):=cK (pN g.units) d f (b9 _) (aD vK) λu v w e=>HY e
theorem um (g:Room n X.A)(d:SE X sf C ea a)(f:SE X sf C eb b):SB X sf C (.Compare ea [.NotEq] [eb] pos) (.op .ne h [a,b]):=cK (Be g.units) d f (b9 _) (aD D6) λu v w e=>IC e
theorem KQ (d:SE X sf C ea a)(f:SE X sf C eb b):SB X sf C (.Compare ea [.Is] [eb] pos) (.op .is h [a,b]):=cK uG d f (b9 _) (aD vj) λu v w e=>HE e
theorem rC (d:SE X sf C ea a)(f:SE X sf C eb b):SB X sf C (.Compare ea [.IsNot] [eb] pos) (.op .isnot h [a,b]):=cK Bv d f (b9 _) (aD ti) λu v w e=>xq e
abbrev SW (X:Cx)(sf:Y->I Y)(C:M.Call)(d:Tq)(e:M.E):Prop:=PW X d<|wT X.K sf C e
theorem wO1 (d:SB X sf C ea a):SW X sf C (.BoolOp .Or [ea] pos) a:=DT d
theorem wOr {rest:U Tq}(d:SB X sf C ea a)(e:SW X sf C (.BoolOp .Or (eb::rest) pos) b):SW X sf C (.BoolOp .Or (ea::eb::rest) pos) (.or a b):=J8 (Io d e) Jc
theorem tW (h:SW X sf C ea a):SB X sf C ea a:=h.pt
theorem yO {j:TE}(o:PE X ea j):PE X (.UnaryOp .Not ea pos) (λg H Q=>j g H λx f=>∃k,xV X.K x f k/\Q (.bl<|!k) f):=by intro e s g H Q d h;refine UnaryOp_<|thn (o e s g H _ d h) λv s1 ⟨x,f,l,t,p⟩=>?_;refine not_of<|thn (oC e s1 g f x v (λk i=>Q (.bl<|!k) i) l t p) λk u ⟨i,m,r⟩=>⟨.bl<|!k,i,m,rfl,r⟩
theorem Kc (j:SE X sf C ea a):SE X sf C (.UnaryOp .Not ea pos) (.not a):=aj (yO j) λm H Q h=>by obtain⟨pv,Z,f,l,w,e,A,ev,k⟩:=DC m H Q h;exact⟨pv,Z,f,l,w,e,A,ev,λv i g d G B r s=>let ⟨c,t,q⟩:=k v i g d G B r s;⟨c,kI t,q⟩⟩
theorem sIf (f:SB X sf C ec c)(d:SE X sf C ea a)(e:SE X sf C eb b):SE X sf C (.IfExp ec ea eb pos) (.ifx c a b):=aj (xF f d e) D8
theorem gi {e:Tq}(d:SE X sf C ea a):PI X e ea (wI X.K sf C 1 .seq [a]):=pZ (Jz (qi d)<|Ei d) Fj
theorem vq {f:Tq}{p:Pos}(hm:X.mg "range"=J)(e:Gl X "range":=by rfl)(ha:SE X sf C ea a)(d:Me [ea] X.env=[(L5,Tx ea X.env)]:=by rfl):PI X f (.Call (.Name "range" p) [ea] [] pos) (wI X.K sf C 1 .rng [a]):=pZ (rX e hm (slc ha sl0 d) d) Af
theorem vP {f:U Tq}{i:Y}{pt p:Pos}(j:X.calm=true:=by rfl)(hm:X.mg "zip"=J)(g:Gl X "zip":=by rfl)(ha:SE X sf C ea a)(hb:SE X sf C eb b)(e:Me [ea,eb] X.env=[(L5,Tx ea X.env),(L5,Tx eb X.env)]:=by rfl)(d:Me [eb] X.env=[(L5,Tx eb X.env)]:=by rfl):PI X (.Tuple f i pt) (.Call (.Name "zip" p) [ea,eb] [] pos) (wI X.K sf C 2 .zip [a,b]):=pZ (Ea g hm (slc ha (slc hb sl0 d)<|by rw[e,d]) e d) FE
def lkN:U Y->Y->Y->I Y
|[],_,_=>J
|t::d,n,i=>if i=t then O n else lkN d (n+1) i
theorem qP:∀{l:U Y} {n i j:Y},lkN l n i=O j->∃k,l[k]?=O i/\j=n+k/\i ∉ l.take k
|[],_,_,_,h=>by cases h
| t::m,n,i,j,h=>by
 have d:(if i=t then O n else lkN m (n+1) i)=O j:=h;split at d
 .rename_i e;cases d;exact⟨0,by rw[e];rfl,rfl,by simp⟩
 .rename_i e;obtain⟨k,f,o,g⟩:=qP d;exact⟨k+1,f,by lia,by rw[Rm,Mm];exactλz=>z.elim e g⟩
def inF (e d:U Y):Y->I Y:=lkN (e++d) 0
theorem dN {d g l:U Y}(h:g.map sf=l.map O):iQ sf (inF d g) d l:=λi j r=>by
 obtain⟨k,f,m,o⟩:=qP<|show lkN (d++g) 0 i=O j from r;rw[Pb] at m;subst m;by_cases hk:j<d.length
 .rw [PQ hk] at f;exact .inl ⟨j,f,rfl⟩
 .have e:d.length<=j:=Sw hk;rw[OV e] at f;refine .inr ⟨λp=>o ?_,?_⟩
  .rw [List.take_append,Q1 e];exact OP _ p
  .have e1:(g.map sf)[j-d.length]?=O (sf i):=by rw [MO,f]; rfl
   rw[h,MO] at e1;cases e2:l[j-d.length]? with
   |none=>rw[e2] at e1;cases e1
   |some s=>rw[e2] at e1;exact⟨j-d.length,s,by lia,e2,(MY e1).symm⟩
theorem DX {x:Str}{k:Pos}{e:U Str}{d:TM}{g:U<|Str×S9}(S:ay [x] e d)(f:S9)(s:L8)(H:Hp)(j:U S9):PG (ao X ([x]++e) d g f s H j) (.Name x k) (gT X.K 1):=
 bg (X:=ao X ([x]++e) d g f s H j) (i:=0) (x:=x) (pos:=k) S.nd rfl (.inl<|O7<|S.loc x<|by simp) (.inr<|O7<|S.loc x<|by simp)
theorem Dk {x y:Str}{m o pt:Pos}{l:Y}{e:U Str}{d:TM}{g:U<|Str×S9}(p:X.calm=L7)(S:ay [x,y] e d)(f:S9)(s:L8)(H:Hp)(j:U S9):PG (ao X ([x,y]++e) d g f s H j) (.Tuple [.Name x m,.Name y o] l pt) (gT X.K 2):=
 kY (X:=ao X ([x,y]++e) d g f s H j) (pos:=pt) (k:=l) (n:=2) p (bB (bg (pos:=m) (i:=0) (x:=x) S.nd rfl (.inl<|O7<|S.loc x<|by simp) (.inr<|O7<|S.loc x<|by simp))<|bB (bg (pos:=o) (i:=1) (x:=y) S.nd rfl (.inl<|O7<|S.loc y<|by simp) (.inr<|O7<|S.loc y<|by simp)) fP)
end
end MR

namespace MR
open PySem PySem.Spec PyProof.Rows L2 L3
section
variable {X:Cx}{sf sg:Y->I Y}{C:M.Call}{pos p2:Pos}{ea eb ec:Tq}{a b c:M.E}{h:Ta}{n:Y}{io:U Y}
section
variable {elt iter cnd:Tq}{x y:Str}{px py pt:Pos}{kt:Y}{scope:TM}{cl:U (Str×S9)}{ys:U Str}{tg ls is:U Y}{k:M.Ik}{src:U M.E}{e cd:M.E}
theorem sC1 (ls:U Y)(is:U Y)(cl:U<|Str×S9)(ys:U Str){t:Y}(o:PI X (.Name x px) iter<|wI X.K sf C 1 k src)(m:∀f s H g,SE (ao X ([x]++ys) scope cl f s H g) (inF [t] ls) C elt e)
  (S:ay [x] ys scope) (i:Clo X cl) (fr:Frees X scope cl ys is) (l:X.calm=true:=by rfl) (r:ls.map sf=is.map some:=by rfl)
  (d:Nz scope X.env=pure cl:=by with_unfolding_all rfl) (j:(scope.names.all λp=>p.2 != .free || (cl.lookup p.1).isSome)=true:=by rfl)
  (u:∀v,Nb iter X.env v=pure v:=by intro _;rfl):SE X sf C (.ListComp elt [⟨.Name x px,iter,[],0⟩] scope pos) (.comp h k src [t] J e):=
 aj (jQ (pre:=[x]) l o (DX S) (λf s H g=>m f s H g) d S i j fr u) (fF rfl (by simp) (dN r))
theorem Jq (ls:U Y)(is:U Y)(cl:U<|Str×S9)(ys:U Str){t:Y}(r:PI X (.Name x px) iter<|wI X.K sf C 1 k src)(i:∀d s H f,SB (ao X ([x]++ys) scope cl d s H f) (inF [t] ls) C cnd cd)(o:∀d s H f,SE (ao X ([x]++ys) scope cl d s H f) (inF [t] ls) C elt e)
  (S:ay [x] ys scope) (j:Clo X cl) (fr:Frees X scope cl ys is) (m:X.calm=true:=by rfl) (u:ls.map sf=is.map some:=by rfl)
  (g:Nz scope X.env=pure cl:=by with_unfolding_all rfl) (l:(scope.names.all λp=>p.2 != .free || (cl.lookup p.1).isSome)=true:=by rfl)
  (w:∀v,Nb iter X.env v=pure v:=by intro _;rfl):SE X sf C (.ListComp elt [⟨.Name x px,iter,[cnd],0⟩] scope pos) (.comp h k src [t] (O cd) e):=
 aj (jL (pre:=[x]) m r (DX S) (λd s H f=>o d s H f) (λd s H f=>i d s H f) g S j l fr w) (m6 rfl (by simp) (dN u))
theorem sC2 (ls:U Y)(is:U Y)(cl:U<|Str×S9)(ys:U Str){t l:Y}(r:PI X (.Tuple [.Name x px,.Name y py] kt pt) iter<|wI X.K sf C 2 k src)(o:∀f s H g,SE (ao X ([x,y]++ys) scope cl f s H g) (inF [t,l] ls) C elt e)
  (S:ay [x,y] ys scope) (i:Clo X cl) (fr:Frees X scope cl ys is) (m:X.calm=true:=by rfl) (u:ls.map sf=is.map some:=by rfl) (z:[t,l].Nodup:=by decide)
  (d:Nz scope X.env=pure cl:=by with_unfolding_all rfl) (j:(scope.names.all λp=>p.2 != .free || (cl.lookup p.1).isSome)=true:=by rfl)
  (w:∀v,Nb iter X.env v=pure v:=by intro _;rfl):SE X sf C (.ListComp elt [⟨.Tuple [.Name x px,.Name y py] kt pt,iter,[],0⟩] scope pos) (.comp h k src [t,l] J e):=
 aj (jQ (pre:=[x,y]) m r (Dk m S) (λf s H g=>o f s H g) d S i j fr w) (fF rfl z (dN u))
theorem LQ (ls:U Y)(is:U Y)(cl:U<|Str×S9)(ys:U Str){t i:Y}(u:PI X (.Tuple [.Name x px,.Name y py] kt pt) iter<|wI X.K sf C 2 k src)(j:∀d s H f,SB (ao X ([x,y]++ys) scope cl d s H f) (inF [t,i] ls) C cnd cd)(r:∀d s H f,SE (ao X ([x,y]++ys) scope cl d s H f) (inF [t,i] ls) C elt e)
  (S:ay [x,y] ys scope) (l:Clo X cl) (fr:Frees X scope cl ys is) (o:X.calm=true:=by rfl) (w:ls.map sf=is.map some:=by rfl) (A:[t,i].Nodup:=by decide)
  (g:Nz scope X.env=pure cl:=by with_unfolding_all rfl) (m:(scope.names.all λp=>p.2 != .free || (cl.lookup p.1).isSome)=true:=by rfl)
  (z:∀v,Nb iter X.env v=pure v:=by intro _;rfl):SE X sf C (.ListComp elt [⟨.Tuple [.Name x px,.Name y py] kt pt,iter,[cnd],0⟩] scope pos) (.comp h k src [t,i] (O cd) e):=
 aj (jL (pre:=[x,y]) o u (Dk o S) (λd s H f=>r d s H f) (λd s H f=>j d s H f) g S l m fr z) (m6 rfl A (dN w))
end
def spS (K:L9)(C:M.Call)(f:Y)(io:U Y):Sp:=λd H Q _=>spC K C f io d H Q
theorem sa0:SA X sf C [] []:=xN cI Dg
def et (P:Td)(w:Mc)(K:L9)(i:Str->I L)(d:To)(n:Y)(C:M.Call)(x:Str)(f:Y)(io:U Y):Prop:=
 ∃e g j,FnOk P w K i d CX0 n e g j (spS K C f io)/\i x=O (.ref e)/\Ny K (.ref e)=L7/\Binds K g j []
theorem az {x:Str}{p:Pos}{f:Y}{d:U Tq}{bs:U M.E}(c:et X.prog X.w X.K X.mg X.base n C x f io)(hr:Room n X.A)(y:SA X sf C (ea::d) bs)(i:hX bs 0=io\/M.ios bs=[]:=by first|exact .inl rfl|exact .inr rfl)(N:Gl X x:=by rfl)(g:(x==("__debug__":Str))=false:=by decide)
  (D:Me (ea::d) X.env=(L5,Tx ea X.env)::Me d X.env:=by rfl) (j:(Mp pos<|Me d X.env).any (·.1)=false:=by rfl):SE X sf C (.Call (.Name x p) (ea::d) [] pos) (.call f bs):=by
 obtain⟨fa,fd,ps,F,P,hk,z⟩:=c;refine aj (AL (E:=E0) F hr N P hk z .nil ql y g D j) λσ H Q hw=>?_;have v:=qO i σ H Q hw;obtain⟨pv,Z,t,η,ws,l,A,ev,k⟩:=v;exact⟨pv,Z,t,η,ws,l,A,ev,λo u m e G B r s hv=>by show spS X.K C f io (o++[]) m Q E0;rw[MV];exact k o u m e G B r s hv⟩
theorem ss0:SSs X sf io C [] []:=uM zt yL
theorem ssc {s:Tz}{t:M.S}{r:U Tz}{u:U M.S}(e:SS X sf io C s t)(d:SSs X sf io C r u):SSs X sf io C (s::r) (t::u):=uM (bq e d) vc
theorem ai {e:U Y}(d:SE X sf C ea a):SS X sf io C (.Return (O ea) pos) (.ret e a):=cR (vn d) GD
theorem zIf {g:M.X}{r u:U Tz}{s t:U M.S}(f:SB X sf C ec c)(d:SSs X sf io C r s)(e:SSs X sf io C u t):SS X sf io C (.If ec r u pos) (.ite g c s t):=cR (HX f d e) Eb
theorem ia (j:Y){t:Y}{x:Str}{l:Pos}{d:Tq}{r:U Tz}{s:U M.S}{F D:U Y}{k:M.Ik}{e:U M.E}(m:X.N.Nodup)(y:PI X (.Name x l) d<|wI X.K sf C 1 k e)(o:SSs X sf io C r s)(f:∀u∈[t],u ∉ io:=by decide)(g:[t].map sf=[j].map some:=by rfl)(z:X.N[j]?=O x:=by rfl)(hx:L2.Loc X.env.scope x:=by first|exact Mz rfl|exact Ms rfl)
  (p:X.calm=true:=by rfl) (hp:PassesOwn (Mb X.prog X.w) X.A X.env X.xe:=by exact PassesOwn.never) (v:X.fn x=L7\/X.env.scope.names.lookup x=O .local:=by first|exact .inl rfl|exact .inr rfl) (B:∀x,Nb d X.env x=pure x:=by intro _;rfl):SS X sf io C (.For (.Name x l) d r [] pos) (.forS F D k e [t] s):=
 cR (oP hp p y (bg (i:=j) m z hx v) o B) (xG rfl (by simp) f g)
theorem JL (j l:Y){t u:Y}{x y:Str}{B D pt:Pos}{z:Y}{d:Tq}{r:U Tz}{s:U M.S}{vs ls:U Y}{k:M.Ik}{e:U M.E}(o:X.N.Nodup)(H:PI X (.Tuple [.Name x B,.Name y D] z pt) d<|wI X.K sf C 2 k e)(F:SSs X sf io C r s)(g:∀v∈[t,u],v ∉ io:=by decide)(nd:[t,u].Nodup:=by decide)(m:[t,u].map sf=[j,l].map some:=by rfl)(P:X.N[j]?=O x:=by rfl)(Q:X.N[l]?=O y:=by rfl)
  (hx:L2.Loc X.env.scope x:=by first|exact Mz rfl|exact Ms rfl) (hy:L2.Loc X.env.scope y:=by first|exact Mz rfl|exact Ms rfl)
  (p:X.calm=true:=by rfl) (hp:PassesOwn (Mb X.prog X.w) X.A X.env X.xe:=by exact PassesOwn.never) (G:X.fn x=L7\/X.env.scope.names.lookup x=O .local:=by first|exact .inl rfl|exact .inr rfl) (f:X.fn y=L7\/X.env.scope.names.lookup y=O .local:=by first|exact .inl rfl|exact .inr rfl) (Z:∀x,Nb d X.env x=pure x:=by intro _;rfl):SS X sf io C (.For (.Tuple [.Name x B,.Name y D] z pt) d r [] pos) (.forS vs ls k e [t,u] s):=
 cR (oP hp p H (kY (n:=2) p<|bB (bg (i:=j) o P hx G)<|bB (bg (i:=l) o Q hy f) fP) F Z) (xG rfl nd g m)
theorem EV (j:Y){i:Y}{x:Str}{xx:M.X}{e d t:Pos}(ha:SE X sf C ea a)(hs:sf i=O j:=by rfl)(hN:X.N[j]?=O x:=by rfl)(hv:Vis X.env.scope x:=by first|exact Mz rfl|exact Ms (Mz rfl)|exact Ms<|Ms rfl)(hd:(x==("__debug__":Str))=false:=by decide)(y:(x==("__classdict__":Str))=false:=by decide)
  (g:NT (.Name x t) "append" X.env (Tx (.Name x t) X.env)=Tx (.Name x t) X.env:=by rfl)
  (m:((Mp d<|Me [ea] X.env).all (λx=>!x.1)&&(OW d<|O8 [] X.env).all (λx=>x.1.isSome)&&decide ([ea].length+([]:U Od).length+(if([]:U Od).isEmpty then 0 else 1)<30))=true:=by rfl)
  (l:(e.endLine==d.line)=true:=by rfl) (o:Me [ea] X.env=(L5,Tx ea X.env)::Me [] X.env:=by rfl) (f:(Mp d<|Me [] X.env).any (·.1)=false:=by rfl) (z:Nl (.Call (.Attribute (.Name x t) "append" e) [ea] [] d) J pos.line X.env=pure false:=by rfl):
  SS X sf io C (.Expr (.Call (.Attribute (.Name x t) "append" e) [ea] [] d) pos) (.app xx i a):=
 cR (hV (pT Qs SI SH jC (aO hN hv hd y) (bf ha cI o) g m l o f) z) λD σ H hw=>by obtain⟨p,xs,hj,hp,pv,Z,P,η,w,F,A,ev,k⟩:=EO hs D σ H hw;refine⟨.ref p,hj,.inl ⟨rfl,xs,.inl<|.inl hp⟩,pv,Z,P,η,w,F,A,ev,λv Z' Q u G B r s=>?_⟩;obtain⟨ys,h1,h2,h3⟩:=k v Z' Q u G B r s;exact⟨p,ys,v,rfl,rfl,h1,h2,h3⟩
theorem IF (j:Y){i:Y}{x:Str}{xx:M.X}{e d t:Pos}(ha:SE X sf C ea a)(hs:sf i=O j:=by rfl)(hN:X.N[j]?=O x:=by rfl)(hv:Vis X.env.scope x:=by first|exact Mz rfl|exact Ms (Mz rfl)|exact Ms<|Ms rfl)(hd:(x==("__debug__":Str))=false:=by decide)(y:(x==("__classdict__":Str))=false:=by decide)
  (g:NT (.Name x t) "extend" X.env (Tx (.Name x t) X.env)=Tx (.Name x t) X.env:=by rfl)
  (m:((Mp d<|Me [ea] X.env).all (λx=>!x.1)&&(OW d<|O8 [] X.env).all (λx=>x.1.isSome)&&decide ([ea].length+([]:U Od).length+(if([]:U Od).isEmpty then 0 else 1)<30))=true:=by rfl)
  (l:(e.endLine==d.line)=true:=by rfl) (o:Me [ea] X.env=(L5,Tx ea X.env)::Me [] X.env:=by rfl) (f:(Mp d<|Me [] X.env).any (·.1)=false:=by rfl) (z:Nl (.Call (.Attribute (.Name x t) "extend" e) [ea] [] d) J pos.line X.env=pure false:=by rfl):
  SS X sf io C (.Expr (.Call (.Attribute (.Name x t) "extend" e) [ea] [] d) pos) (.ext xx i a):=
 cR (hV (pT Qs PySem.F.slot_list_extend PySem.F.type_list_extend tJ (aO hN hv hd y) (bf ha cI o) g m l o f) z) λD σ H hw=>by obtain⟨p,xs,hj,hp,pv,Z,Q,η,w,P,A,ev,k⟩:=Gy hs D σ H hw;refine⟨.ref p,hj,.inl ⟨rfl,xs,.inl<|.inl hp⟩,pv,Z,Q,η,w,P,A,ev,λv Z' H' u G B r s=>?_⟩;obtain⟨b,ys,zs,rfl,h1,h2,h3,h4⟩:=k v Z' H' u G B r s;exact⟨p,b,ys,zs,rfl,rfl,h1,h2,h3,h4⟩
end
end MR

namespace MR
open PySem PySem.Spec PyProof.Rows L2 L3
section
variable {K:L9}{Z:Fp}{H:Hp}
theorem ki:∀{a:U M.W} {n i:Y} {w:M.W},M.rd (a.map O++Mr n J) i=O w->a[i]?=O w
|[],0,i,w,h=>by simp[M.rd] at h
|[],n+1,0,w,h=>by simp[OB,M.rd] at h
|[],n+1,i+1,w,h=>by
 have:M.rd (([]:U M.W).map O++Mr n J) i=O w:=by simpa[OB,M.rd] using h
 have:=ki this;simp at this
|u::a,n,0,w,h=>by simpa[M.rd] using h
|u::a,n,i+1,w,h=>by
 have:M.rd (a.map O++Mr n J) i=O w:=by simpa[M.rd] using h
 simpa using ki this
theorem xl:∀{k:U M.W} {c:U V} {G:Fp},RepW K Z H k c G->∃b:Fps,(∀i a,b i a->G a)/\(∀i j a,b i a->b j a->i=j)/\∀i w,k[i]?=O w->∃v,c[i]?=O v/\Rep K Z H w.1 w.2 v (b i)
|[],c,G,_=>⟨λ_=>no,λ_ _ h=>h.elim,λ_ _ _ h=>h.elim,λi w h=>by simp at h⟩
| w::k,c,G,t=>by
 obtain⟨x,r,G1,G2,e,o,s,l,p,q⟩:=t;obtain⟨b,d,m,n⟩:=xl q;subst e;refine⟨λi=>match i with | 0=>G1|i+1=>b i,λi a h=>?_,λi j a f g=>?_,λi u h=>?_⟩
 .cases i with
  |zero=>exact o a h
  |succ i=>exact s a<|d i a h
 .cases i with
  |zero=>
   cases j with
   |zero=>rfl
   |succ j=>exact Tg (d j a g)<|l a f
  |succ i=>
   cases j with
   |zero=>exact Tg (d i a f)<|l a g
   |succ j=>exact Tn (·+1)<|m i j a f g
 .cases i with
  |zero=>simp only[Q4,Ra] at h;subst h;exact⟨x,rfl,p⟩
  |succ i=>simpa using n i u<|by simpa using h
def slN (n:Y):Y->I Y:=λi=>if i<n then O i else J
theorem gr {o:Cf}{s:L2.St}{f:Fps}{g:M.Env}{G:Fp}{c:U V}(A:At K o s Z H f g G):∀{b:U Y} {bs:U M.W},b.Nodup->(∀i∈b,o.pv i=c[i]?/\i<c.length)->M.backs b g=O bs->RepW K Z H bs (atV b c) (λa=>∃i∈b,f i a)
|[],bs,_,_,h=>by simp only[M.backs,Ra] at h;subst h;rfl
| i::b,bs,n,m,h=>by
 simp only[M.backs] at h;cases e:M.rd g i with
 |none=>rw[e] at h;cases h
 | some w =>
  rw[e] at h;simp only[Qo] at h;cases e2:M.backs b g with
  |none=>rw[e2] at h;cases h
  |some t=>
   rw[e2] at h;simp only[Qo,Ra] at h;subst h;obtain⟨v,r,_,hp⟩:=A.env i w.1 w.2 e;have k:=m i ML;obtain⟨u,l⟩:∃u,c[i]?=O u:=⟨c[i]'k.2,MP k.2⟩;have:=hp u<|k.1.trans l;subst this;refine⟨v,atV b c,f i,λa=>∃j∈b,f j a,?_,λa h=>⟨i,ML,h⟩,λa ⟨j,d,h⟩=>⟨j,MG _ d,h⟩,λa h ⟨j,d,p⟩=>?_,r,gr A (NY.mp n).2 (λj d=>m j<|MG _ d) e2⟩
   .rw[atV,Oa,l];rfl
   .exact(NY.mp n).1<|A.gd.dis i j a h p ▸ d
end
section
variable {P:Td}{w:Mc}{K:L9}{mg:Str->I L}{base:To}
theorem l8 {Z:Fp}{H:Hp}{p:U M.W}{d:U V}{G:Fp}{N:U Str}{n:Y}{io:U Y}(r:RepW K Z H p d G)(o:Own Z H G)(z:∀a,Z a->H a≠J)(B:d.length<=N.length):
  ∃f,(∀a,tot f a->G a)/\At K ⟨slN N.length,λi=>if i∈io then d[i]? else J⟩ (L2.start N d) Z H f (p.map O++Mr n J) no:=by
 obtain⟨f,g,s,x⟩:=xl r;have l:∀i v,d[i]?=O v->(L2.start N d)[i]?=O (O v):=λi v h=>by have y:=(Na.mp h).1;rw[L2.start,PQ<|by simpa using y,MO,h];rfl
 refine⟨f,λa ⟨i,h⟩=>g i a h,⟨⟨λa ⟨i,h⟩=>o a<|g i a h,s,z⟩,λi m t e=>?_,λa h=>h.elim,λa h=>h.elim,λi u j c b=>?_,λi j b=>?_⟩⟩
 .obtain ⟨v,k,A⟩:=x i (m,t) (ki e);refine⟨v,A,λj b=>?_,λu c=>?_⟩
  .simp only [slN] at b;split at b
   .cases b;exact l i v k
   .cases b
  .simp only at c;split at c
   .rw[k] at c;cases c;rfl
   .cases c
 .simp only at c;simp only[slN] at b;split at b
  .cases b;split at c
   .exact l i u c
   .cases c
  .cases b
 .simp only [slN] at b;split at b
  .cases b;rename_i h;rw[L2.start,MA,Mg,OC];lia
  .cases b
theorem Fun.okM {x l:Str}{st:Tz}{f:S9}{fd:MK}{N ps:U Str}{k:Y}{C:M.Call}{d:M.Fn}(F:L2.Fun K x l st f fd)(S:bH N ps<|defScope st)(hps:d.ps=ps.length)(hle:ps.length<=N.length)(nd:d.io.Nodup)(hio:∀i∈d.io,i<ps.length)
  (D:∀ (m:L) (A:Mh) (c:U Env) (s:L8) (H:Hp) (E:XK),Room k (A.deeper (Nc l (defScope st) s.heap.objs.size f m)) ->
   SSs (gq CX0 P w K mg base N l (defScope st) f m A c s H E).nox (slN N.length) d.io C (defBody st) d.body) {g:Y} {C':M.Call} (hC:∀ws,C' g ws=M.runF C d ws):FnOk P w K mg base CX0 (k+1) f fd ps (spS K C' g d.io):=by
 have len:∀y H Q E,spS K C' g d.io y H Q E->y.length=ps.length:=λy H Q E ⟨Z,ws,G,w,bs,r,_,_,hr,_⟩=>by
  rw[hC] at hr;unfold M.runF at hr;split at hr
  .rename_i h;rw[r.length,h,hps]
  .cases hr
 refine F.ok S len λm A c s H y Q E hr h=>⟨_,D m A c s H E hr,?_⟩;have p:=len y H Q E h;obtain⟨Z,ws,G,w,bs,r,o,z,b,q⟩:=h;rw[hC] at b;have hwl:ws.length=d.ps:=by rw[<- r.length,p,hps]
 rw[M.x_run _ _ _ hwl] at b;obtain⟨Fs,ft,A0⟩:=l8 (n:=d.ns) (io:=d.io) r o z (N:=N) (by lia);refine⟨_,Z,Fs,_,⟨λi i' j h h'=>?_,λi h=>Ti h⟩,A0,?_⟩
 .simp only [slN] at h h';split at h
  .split at h'
   .cases h;cases h';rfl
   .cases h'
  .cases h
 have hv:∀i∈d.io,(if i∈d.io then y[i]? else J)=y[i]?/\i<y.length:=λi hi=>⟨Tf hi,p ▸ hio i hi⟩;cases e:M.evSs C d.body (ws.map O++Mr d.ns J) with
 | nx η =>
  rw[e] at b;intro σ' Z' H' Fs' B t;simp only[M.Fl.out] at b;cases e2:M.backs d.io η with
  |none=>rw[e2] at b;cases b
  |some cs=>rw[e2] at b;cases b;refine q .non Z' H' no _ rfl (gr B nd hv e2) (λ_ h=>h.elim) (λa h=>h.elim (λz=>z.elim) λ⟨i,_,z⟩=>B.gd.own a ⟨i,z⟩) (t.mono ft λa h=>h.elim (λz=>z.elim) λ⟨i,_,z⟩=>⟨i,z⟩)
 | rt u η =>
  rw[e] at b;intro v σ' Z' H' Fs' G' B rp t;simp only[M.Fl.out] at b;cases e2:M.backs d.io η with
  |none=>rw[e2] at b;cases b
  |some cs=>rw[e2] at b;cases b;exact q v Z' H' G' _ rp (gr B nd hv e2) (λa h ⟨i,_,z⟩=>B.dis a h ⟨i,z⟩) (λa h=>h.elim (B.own a) λ⟨i,_,z⟩=>B.gd.own a ⟨i,z⟩)<|t.mono ft λa h=>h.elim .inr λ⟨i,_,z⟩=>.inl ⟨i,z⟩
 |bk η=>rw[e] at b;cases b
 |ex t η=>rw[e] at b;cases b
 |no=>rw[e] at b;cases b
end
end MR

namespace MR
open PySem PySem.Spec PyProof.Rows L2 L3
def TopV (K:L9)(H:Hp):Th->V->Prop
|.tup _,x=>∃a c,x=.ref a/\SqT K H a c
|.lst _,x=>∃a c,x=.ref a/\SqL K H a c
|.non,x=>x=.non
|.bl b,x=>x=.bl b
|.int i,x=>x=.int i
|.str z,x=>x=.str z
theorem ya {X:Cx}{c:Tu}(B:c∈["tuple","str","bool","int","list"]):bW X (.builtin "isinstance") (λA H Q=>∃x t,A=[x,.ty c]/\TopV X.K H t x/\Q (.bl<|isI c t) H):=by
 intro k s G H A M Q d r h;obtain⟨x,t,rfl,g,q⟩:=h;obtain⟨u,N,rfl,j,y⟩:=mh r;cases y;have e:NW X.K (.type t.ty) (.type c)=O (isI c t):=kit_type.trans<|oB B t;have f:∀tk,EP X k G Q (.bool (isI c t)) {s with toks:=tk}:=λtk=>⟨.bl<|isI c t,H,d.tok tk,rfl,q⟩;cases t with
 |non=>obtain rfl:x=.non:=g;exact eN d j .non e f
 |bl b=>obtain rfl:x=.bl b:=g;exact eN d j (.bl b) e f
 |int i=>obtain rfl:x=.int i:=g;exact eN d j (.int i) e f
 |str z=>obtain rfl:x=.str z:=g;exact eN d j (.str z) e f
 |tup D=>obtain⟨a,F,rfl,v⟩:=g;cases j;obtain⟨w,_,p,_⟩:=d.tuple v;obtain⟨o,l,m,_⟩:=p;exact Nv Rk d.kIn ⟨o,l,m⟩ e (λz=>nomatch z) f
 |lst D=>obtain⟨a,F,rfl,v⟩:=g;cases j;obtain⟨w,_,p,_⟩:=d.list v;obtain⟨o,n,l,m,_⟩:=p;exact Nv Qj d.kIn ⟨o,l,m⟩ e (λz=>nomatch z) f
theorem zH {X:Cx}{f g:Tu}(Z:f∈["tuple","str","bool","int","list"])(h2:g∈["tuple","str","bool","int","list"]):
  bW X (.builtin "isinstance") (λM H Q=>∃x t p,M=[x,.ref p]/\SqT X.K H p [.ty f,.ty g]/\TopV X.K H t x/\Q (.bl (isI f t || isI g t)) H):=by
 intro v s σ H M us Q c r h;obtain⟨x,t,p,rfl,hp,k,q⟩:=h;obtain⟨u,w',rfl,l,G⟩:=mh r;cases G;obtain⟨m,rv,pt,_⟩:=c.tuple hp;obtain⟨y1,y2,rfl,r1,r2⟩:=mh rv;cases r1;cases r2;obtain⟨⟨oc,od,B,osl⟩,j,N,n,P⟩:=pt;have w:oc=.type "tuple":=N;have y:B=.seq _ n:=P;subst w y;have e1:NW X.K (.type t.ty) (.type f)=O (isI f t):=kit_type.trans<|oB Z t;have e2:NW X.K (.type t.ty) (.type g)=O (isI g t):=kit_type.trans<|oB h2 t
 have e:QG X.K (.type t.ty) [.type f,.type g]=O (isI f t || isI g t):=by
  unfold QG;rw[e1];cases isI f t with
  |true=>rfl
  |false=>unfold QG;rw[e2];cases isI g t<;>rfl
 have d:∀tk,EP X v σ Q (.bool (isI f t || isI g t)) {s with toks:=tk}:=λtk=>⟨.bl _,H,c.tok tk,rfl,q⟩;cases t with
 |non=>obtain rfl:x=.non:=k;cases l;exact Pp Sd c.kIn M0 j e (λz=>nomatch z) d
 |bl b=>obtain rfl:x=.bl b:=k;cases l;exact Pp Sb c.kIn M0 j e (λz=>nomatch z) d
 |int i=>obtain rfl:x=.int i:=k;obtain⟨t,rfl⟩:=l;exact Pp SD c.kIn M0 j e (λz=>nomatch z) d
 |str z=>obtain rfl:x=.str z:=k;obtain⟨t,rfl⟩:=l;exact Pp Sz c.kIn M0 j e (λz=>nomatch z) d
 |tup ts=>obtain⟨a,vs,rfl,A⟩:=k;cases l;obtain⟨m,_,⟨o,D,F,_⟩,_⟩:=c.tuple A;exact Pp Rk c.kIn ⟨o,D,F⟩ j e (λz=>nomatch z) d
 |lst ts=>obtain⟨a,vs,rfl,A⟩:=k;cases l;obtain⟨m,_,⟨o,n,D,F,_⟩,_⟩:=c.list A;exact Pp Qj c.kIn ⟨o,D,F⟩ j e (λz=>nomatch z) d
noncomputable def thT:M.T->Th
|.non=>.non | .bl b=>.bl b | .int i=>.int i | .str x=>.str x | .tup _=>.tup [] | .lst _=>.lst [] | .scr _=>.lst [] | .dct _ _=>.non | .ins _ _ _=>.non | .obj _ _ _=>.non | .dtt _ _=>.non | .gone=>.non
theorem qc {K:L9}{Z:Fp}{H:Hp}{t:M.T}{m:M.Md}{x:V}{G:Fp}(a:t.isH=L5)(r:Rep K Z H m t x G):TopV K H (thT t) x/\(thT t).ty=t.ty:=by
 cases t with
 |non=>exact⟨r,rfl⟩
 |bl _=>exact⟨r,rfl⟩
 |int _=>exact⟨r,rfl⟩
 |str _=>exact⟨r.1,rfl⟩
 |tup _=>obtain⟨p,b,e,q,_⟩:=r;exact⟨⟨p,b,e,q⟩,rfl⟩
 |lst _=>obtain⟨p,b,e,_,q,_⟩:=r;exact⟨⟨p,b,e,.inl<|.inl<|by cases m<;>exact q.2⟩,rfl⟩
 |scr _=>obtain⟨p,e,_,q⟩:=r;exact⟨⟨p,_,e,q.sq⟩,rfl⟩
 |dct _ _=>cases a
 |ins _ _ _=>cases a
 |obj _ _ _=>cases a
 |dtt _ _=>cases a
 |gone=>cases a
theorem kG {t:Th}{u:M.T}{c:Tu}(h:t.ty=u.ty):isI c t=M.isOne c u:=by unfold isI M.isOne;rw[h]
section
variable {X:Cx}{sf sg:Y->I Y}{C:M.Call}{pos p2 p3:Pos}{ea eb ec:Tq}{a b c:M.E}{h:Ta}{n:Y}{io:U Y}
theorem pR {Z:Fp}{H d:Hp}{G:Fp}(same:∀a o,H a=O o->d a=O o):Step Z H G Z d G:=by
 have f:∀a,H a≠J->d a≠none:=λa h=>by
  cases e:H a with
  |none=>exact Tg e h
  |some o=>rw[same a o e];simp
 exact⟨λa o h _=>same a o h,λ_ h=>h,λ_ h=>.inl h,λ_ h=>.inl h,f,λz a h=>f a<|z a h⟩
theorem mF {K:L9}{Z:Fp}{H d:Hp}{G:Fp}{w:M.W}{Q:VK}(same:∀a o,H a=O o->d a=O o)(k:Out K Z H G w Q):Out K Z d G w Q:=λv g f e r o t=>k v g f e r o<|(pR same).trans t
theorem fT {H:Hp}{p:S9}{o:HO}(hp:H p=J):∀a u,H a=O u->upd H p o a=O u:=λa u e=>by
 have:a≠p:=λq=>by subst q;rw[hp] at e;cases e
 rw[ag this];exact e
theorem TopV.same {K:L9}{H f:Hp}{t:Th}{x:V}(sm:∀a o,H a=O o->f a=O o)(h:TopV K H t x):TopV K f t x:=by
 cases t with
 |tup _=>
  obtain⟨a,d,e,q⟩:=h;refine⟨a,d,e,?_⟩;rcases q with(z|⟨o,z⟩)|z
  .exact .inl (.inl<|sm _ _ z)
  .exact .inl (.inr ⟨o,sm _ _ z⟩)
  .exact .inr z
 |lst _=>
  obtain⟨a,d,e,q⟩:=h;refine⟨a,d,e,?_⟩;rcases q with(z|⟨o,z⟩)|z
  .exact .inl (.inl<|sm _ _ z)
  .exact .inl (.inr ⟨o,sm _ _ z⟩)
  .exact .inr z
 |_=>exact h
theorem dC {c:Tu}{k:Str}(z:c∈["tuple","str","bool","int","list"])(hv:NI k=O (.type c))(N:X.mg "isinstance"=J)(f:X.mg k=J)(y:SE X sf C ea a)(F:Gl X "isinstance":=by rfl)(e:Gl X k:=by rfl)(P:k≠"__name__":=by decide)(D:(k==("__debug__":Str))=false:=by decide)
  (o:Me [ea,.Name k p2] X.env=(L5,Tx ea X.env)::Me [.Name k p2] X.env:=by rfl) (i:Me [.Name k p2] X.env=(L5,Tx (.Name k p2) X.env)::Me [] X.env:=by rfl) (g:(Mp pos<|Me [.Name k p2] X.env).any (·.1)=false:=by rfl):
  SE X sf C (.Call (.Name "isinstance" p3) [ea,.Name k p2] [] pos) (.op (.isI [c]) h [a]):=
 aj (bA (ya z) F N SR (bf y (bf (qz e f hv P D) cI i) o) (by decide) (by decide) o g) λσ H Q hw=>by obtain⟨pv,Z,p,η,w,l,A,ev,k⟩:=hw;obtain⟨ws,v,d⟩:=b8 ev;obtain⟨⟨m,u⟩,η1,us,e1,e2,rfl⟩:=aq v;cases e2;obtain⟨j,d⟩:=ifN<|show(if u.isH=L7 then J else O _)=_ from d;cases d;refine⟨pv,Z,p,η,(m,u),l,A,e1,λx Z' H' t G B r s=>?_⟩;obtain⟨t1,t2⟩:=qc j r;refine⟨x,thT u,rfl,t1,?_⟩;have:=bI<|cH B s k;rw[kG t2];rw[show([c].any λc=>M.isOne c u)=M.isOne c u by simp] at this;exact this
theorem JY {g i:Tu}{e d:Str}{f pt:Pos}{j:Y}(v:g∈["tuple","str","bool","int","list"])(hv1:NI e=O (.type g))(y:i∈["tuple","str","bool","int","list"])(hv2:NI d=O (.type i))(hm:X.mg "isinstance"=J)(P:X.mg e=J)(hm2:X.mg d=J)(ha:SE X sf C ea a)
  (hg:Gl X "isinstance":=by rfl) (F:Gl X e:=by rfl) (N:Gl X d:=by rfl) (hn1:e≠"__name__":=by decide) (z:(e==("__debug__":Str))=false:=by decide) (hn2:d≠"__name__":=by decide) (D:(d==("__debug__":Str))=false:=by decide)
  (hs:Me [ea,.Tuple [.Name e p2,.Name d f] j pt] X.env=(L5,Tx ea X.env)::Me [.Tuple [.Name e p2,.Name d f] j pt] X.env:=by rfl) (hs2:Me [.Tuple [.Name e p2,.Name d f] j pt] X.env=(L5,Tx (.Tuple [.Name e p2,.Name d f] j pt) X.env)::Me [] X.env:=by rfl)
  (hs3:Me [.Name e p2,.Name d f] X.env=(L5,Tx (.Name e p2) X.env)::Me [.Name d f] X.env:=by rfl) (hs4:Me [.Name d f] X.env=(L5,Tx (.Name d f) X.env)::Me [] X.env:=by rfl) (hpl:(Mp pos<|Me [.Tuple [.Name e p2,.Name d f] j pt] X.env).any (·.1)=false:=by rfl):
  SE X sf C (.Call (.Name "isinstance" p3) [ea,.Tuple [.Name e p2,.Name d f] j pt] [] pos) (.op (.isI [g,i]) h [a]):=
 aj (bA (zH v y) hg hm SR (bf ha (bf (uA<|bf (qz F P hv1 hn1 z) (bf (qz N hm2 hv2 hn2 D) cI hs4) hs3) cI hs2) hs) (by decide) (by decide) hs hpl) λσ H Q hw=>by obtain⟨pv,Z,Fs,η,w,η',A,ev,k⟩:=hw;obtain⟨ws,h1,t⟩:=b8 ev;obtain⟨⟨m,u⟩,η1,us,e1,e2,rfl⟩:=aq h1;cases e2;obtain⟨hug,t⟩:=ifN<|show(if u.isH=L7 then J else O _)=_ from t;cases t;refine⟨pv,Z,Fs,η,(m,u),η',A,e1,λx Z' H' l G B r s=>?_⟩;refine⟨(by show 2<=sizeLine;decide),λp hp=>?_⟩;have st:=pR (Z:=Z') (G:=λa=>tot l a\/G a)<|fT (o:=.tup [.ty g,.ty i]) hp;obtain⟨t0,t2⟩:=qc hug r;have t1:=t0.same<|fT (o:=.tup [.ty g,.ty i]) hp;refine⟨x,thT u,p,rfl,.inl<|.inl ah,t1,?_⟩;have:=bI<|mF (fT (o:=.tup [.ty g,.ty i]) hp)<|cH B s k;rw[kG t2,kG t2];rw[show([g,i].any λc=>M.isOne c u)=(M.isOne g u || M.isOne i u) by simp] at this;exact this
end
end MR

namespace MR
open PySem PySem.Spec PyProof.Rows L2 L3
structure Txt (mg:Str->I L):Prop where
 isin:mg "isinstance"=J
 int:mg "int"=J
 tup:mg "tuple"=J
 list:mg "list"=J
 bool:mg "bool"=J
 sum:mg "sum"=J
 len:mg "len"=J
 all:mg "all"=J
 zip:mg "zip"=J
 range:mg "range"=J
 enum:mg "enumerate"=J
 any:mg "any"=J
 max:mg "max"=J
 min:mg "min"=J
 sorted:mg "sorted"=J
 str:mg "str"=J
 repr:mg "repr"=J
 abs:mg "abs"=J
 dict:mg "dict"=J
 set:mg "set"=J
 rev:mg "reversed"=J
theorem frc {X:Cx}{a:TM}{b:U<|Str×S9}{y:Str}{e:U Str}{i:Y}{d:U Y}{c:S9}(r:Frees X a b e d)(f:X.N[i]?=O y:=by rfl)(g:Vis X.env.scope y:=by first|exact Mz rfl|exact Ms (Mz rfl)|exact Ms<|Ms rfl)(h:X.env.kindOf y=O .cell\/X.env.kindOf y=O .free:=by first|exact Mz rfl|exact Ms rfl)
  (j:X.env.cells.lookup y=O c:=by rfl) (k:b.lookup y=O c:=by rfl) (l:(OE a X.env).names.lookup y=O .cell\/(OE a X.env).names.lookup y=O .free:=by first|exact Mz rfl|exact Ms rfl):Frees X a b (y::e) (i::d):=.cons f g h j k l r
section
variable {X:Cx}{sf sg:Y->I Y}{C:M.Call}{pos p2 p3:Pos}{ea eb ec:Tq}{a b c:M.E}{h:Ta}{n:Y}{io:U Y}
section
variable {elt iter cnd:Tq}{x y:Str}{px py pt:Pos}{kt:Y}{scope:TM}{tg:U Y}{k:M.Ik}{src:U M.E}{e cd:M.E}
theorem zC1 (j:Y)(G:U Y)(F:U Y)(f:U<|Str×S9)(B:U Str){z:Str}{P spos:Pos}{xx:M.X}{i t:Y}(hi:PI X (.Name x px) iter<|wI X.K sf C 1 k src)(he:∀g s H l,SE (ao X ([x]++B) scope f g s H l) (inF [t] G) C elt e)
  (S:ay [x] B scope) (m:Clo X f) (fr:Frees X scope f B F) (Z:X.N.Nodup) (u:i ∉ io:=by decide) (w:sf i=O j:=by rfl) (hj:X.N[j]?=O z:=by rfl) (hz:L2.Loc X.env.scope z:=by first|exact Mz rfl|exact Ms rfl)
  (A:Nl (.ListComp elt [⟨(.Name x px),iter,[],0⟩] scope pos) (O<|.Name z P) spos.line X.env=pure true:=by rfl) (hc:X.calm=true:=by rfl) (hl:G.map sf=F.map some:=by rfl)
  (d:Nz scope X.env=pure f:=by with_unfolding_all rfl) (r:(scope.names.all λp=>p.2 != .free || (f.lookup p.1).isSome)=true:=by rfl)
  (hs:∀v,Nb iter X.env v=pure v:=by intro _;rfl) (o:X.fn z=L7\/X.env.scope.names.lookup z=O .local:=by first|exact .inl rfl|exact .inr rfl):SS X sf io C (.Assign [.Name z P] (.ListComp elt [⟨(.Name x px),iter,[],0⟩] scope pos) spos) (.asg xx i<|.comp h k src [t] J e):=
 cR (j9 (pre:=[x]) Z hj hz A hc hi (DX S) (λg s H l=>he g s H l) d S m r fr hs o) λD Q H hw=>fF rfl (by simp) (dN hl) Q H _ (wW u w D Q H hw)
theorem zC2 (j:Y)(Q:U Y)(P:U Y)(f:U<|Str×S9)(F:U Str){z:Str}{Z spos:Pos}{xx:M.X}{i t B:Y}(hi:PI X (.Tuple [.Name x px,.Name y py] kt pt) iter<|wI X.K sf C 2 k src)(he:∀g s H l,SE (ao X ([x,y]++F) scope f g s H l) (inF [t,B] Q) C elt e)
  (S:ay [x,y] F scope) (m:Clo X f) (fr:Frees X scope f F P) (hN:X.N.Nodup) (u:i ∉ io:=by decide) (w:sf i=O j:=by rfl) (hj:X.N[j]?=O z:=by rfl) (hz:L2.Loc X.env.scope z:=by first|exact Mz rfl|exact Ms rfl)
  (A:Nl (.ListComp elt [⟨(.Tuple [.Name x px,.Name y py] kt pt),iter,[],0⟩] scope pos) (O<|.Name z Z) spos.line X.env=pure true:=by rfl) (G:X.calm=true:=by rfl) (hl:Q.map sf=P.map some:=by rfl) (nd:[t,B].Nodup:=by decide)
  (d:Nz scope X.env=pure f:=by with_unfolding_all rfl) (r:(scope.names.all λp=>p.2 != .free || (f.lookup p.1).isSome)=true:=by rfl)
  (hs:∀v,Nb iter X.env v=pure v:=by intro _;rfl) (o:X.fn z=L7\/X.env.scope.names.lookup z=O .local:=by first|exact .inl rfl|exact .inr rfl):SS X sf io C (.Assign [.Name z Z] (.ListComp elt [⟨(.Tuple [.Name x px,.Name y py] kt pt),iter,[],0⟩] scope pos) spos) (.asg xx i<|.comp h k src [t,B] J e):=
 cR (j9 (pre:=[x,y]) hN hj hz A G hi (Dk G S) (λg s H l=>he g s H l) d S m r fr hs o) λD σ H hw=>fF rfl nd (dN hl) σ H _ (wW u w D σ H hw)
end
end
end MR

namespace MR
open PySem PySem.Spec PyProof.Rows L2 L3
section
variable {P:Td}{w:Mc}{K:L9}{mg:Str->I L}{base:To}
theorem mD {C:M.Call}{g:Y}{c:U Y}{d:U V}{H:Hp}{Q:VK}{E:XK}(b:∀a,C g a=.no)(h:spS K C g c d H Q E):Tw:=by obtain⟨Z,a,G,w,bs,_,_,_,e,_⟩:=h;rw[b] at e;cases e
theorem fn0 {f:S9}{b:MK}{d:U Str}{k g:Y}{c:U Y}{C:M.Call}(a:∀e,C g e=.no):FnOk P w K mg base CX0 k f b d (spS K C g c):=
 ⟨λ_ _ _ _ h=>(mD a h).elim,λ_ _ _ _ _ _ _ _ _ _ _ _ _ h=>(mD a h).elim⟩
theorem oz {Z:Fp}{H:Hp}{a:S9}{b:U Int}(c:xK H)(e:b.length<=63)(h:SqL K H a<|b.map V.int):Rep K Z H .d (.scr b) (.ref a) no:=by
 refine⟨a,rfl,Mt e<|by decide,?_⟩;rcases h with(z|⟨o,z⟩)|z
 .rcases c a with y|⟨o,xs,y⟩<;>rw[y] at z<;>cases z
 .exact .inl ⟨o,z⟩
 .exact .inr (.inr z)
theorem Fd {H:Hp}{a:S9}{b:U Int}{C:M.Call}{c:Y}(hp:∃m bs,C c [(.d,.scr b)]=.ok ((m,.bl L7),bs))(g:b.length<=63)(f:xK H)(h:SqL K H a<|b.map V.int):spS K C c [] [.ref a] H (λv _=>v=.bl L7) λ_ _ _=>Tw:=by obtain⟨m,bs,e⟩:=hp;exact⟨no,[(.d,.scr b)],no,(m,.bl L7),bs,RepW.one<|oz f g h,cQ,λ_ z=>z.elim,e,λv j i G1 G2 r _ _ _ _=>r⟩
end
end MR

namespace MR
open PySem PySem.Spec PyProof.Rows L2 L3
structure SBs (as:U S9)(H H':Hp):Prop where
 keep:∀b u,b ∉ as->H b=O u->H' b=O u
 al:∀b,H b≠J->H' b≠J
instance {as:U S9} {H H':Hp}:CoeFun (SBs as H H') (λ_=>∀b u,b ∉ as->H b=O u->H' b=O u):=⟨λs=>s.keep⟩
end MR

namespace MR
open PySem PySem.Spec PyProof.Rows L2 L3
section
variable {X:Cx}{sf sg:Y->I Y}{io:U Y}{C:M.Call}{pos p2:Pos}{ea eb ec:Tq}{a b c:M.E}{h:Ta}{n:Y}
theorem An {rest:U Tq}{p l:TE}(t:PE X ea p)(u:PE X (.BoolOp .And (eb::rest) pos) l):PE X (.BoolOp .And (ea::eb::rest) pos) (λf H Q=>p f H λx g=>∃k,xV X.K x g k/\if k=L7 then l f g Q else Q x g):=by
 intro e s f H Q d h;refine BoolOp_and<|thn (t e s f H _ d h) λv s1 ⟨x,g,r,o,w⟩=>?_;refine thn (oC e s1 f g x v (λk i=>if k=L7 then l f i Q else Q x i) r o w) λk y ⟨i,m,j⟩=>?_;cases k with
 |true=>exact u e y f i Q m<|by rw[Tf rfl] at j;exact j
 |false=>exact⟨x,i,m,o,by rw[Ti MJ] at j;exact j⟩
theorem vA1 (d:SE X sf C ea a):SE X sf C (.BoolOp .And [ea] pos) a:=Hm d
theorem mH {rest:U Tq}(j:SE X sf C ea a)(l:SE X sf C (.BoolOp .And (eb::rest) pos) b):SE X sf C (.BoolOp .And (ea::eb::rest) pos) (.and a b):=aj (An j l) λo H Q h=>by obtain⟨pv,Z,f,m,w,e,A,ev,k⟩:=DH o H Q h;exact⟨pv,Z,f,m,w,e,A,ev,λv i g d G B r s=>let ⟨c,t,q⟩:=k v i g d G B r s;⟨c,kI t,q⟩⟩
theorem A7 {g d f w:M.W}(e:M.oSem .sl3 h [g,d,f]=O w):∃n i k j,d=(n,.int i)/\f=(k,.int j):=by obtain⟨m,a⟩:=g;obtain⟨n,b⟩:=d;obtain⟨k,c⟩:=f;cases a<;>first|(cases e;done)|(cases b<;>first|(cases e;done)|(cases c<;>first|(cases e;done)|exact⟨_,_,_,_,rfl,rfl⟩))
theorem Li {p3:Pos}(ha:SE X sf C ea a)(hb:SE X sf C eb b)(hc:SE X sf C ec c):SE X sf C (.Subscript ea (.Slice (O eb) (O ec) J p3) pos) (.op .sl3 h [a,b,c]):=
 aj (fN (sl_list.or kD) ha (eP hb)<|eP hc) λσ H Q hw=>by obtain⟨pv,Z,Fs,η,w,η',A,ev,k⟩:=hw;obtain⟨ws,P,l⟩:=b8 ev;obtain⟨wa,η1,s,e1,e2,rfl⟩:=aq P;obtain⟨wb,η2,s,e3,F,rfl⟩:=aq e2;obtain⟨wc,η3,s,M,N,rfl⟩:=aq F;cases N;obtain⟨n2,i,n3,j,rfl,rfl⟩:=A7 l;refine gQ A e1 λx Z1 H1 u G1 r r1 _ s1 _=>?_;have d:=r.mono (G':=G1) λ_ z=>.inr z;refine gQ d e3 λy Z2 H2 v G2 f r2 d2 s2 t2=>⟨i,r2,?_⟩;refine gQ f M λz Z3 H3 B D g r3 d3 s3 t3=>⟨j,r3,?_⟩;have p:=r1.frame r.gd.own s2 d.dis;have e:=p.frame f.gd.own s3 λq o=>f.dis q<|.inl o;obtain⟨m,t⟩:=wa;exact nW (h:=h) (lo:=O i) (hi:=O j) (G:=λq=>(G1 q\/G2 q)\/D q) (λq o=>.inl<|.inl o) g.own g.gd.zal e (by cases t<;>first|exact l|(cases l))<|cH g ((s1.trans t2).trans t3) k
theorem rY {K:L9}:Loc K 1 .tuple h λt H Q=>∃p d,t=[.ref p]/\((SqL K H p d/\∀l,H l=J->Q (.ref l) (upd H l<|.tup d))\/(SqT K H p d/\Q (.ref p) H)):=by
 intro s w t Z H G Q u e r o y k;obtain⟨⟨m,a⟩,rfl⟩:∃a,s=[a]:=by match s,u with|[a],_=>exact⟨a,rfl⟩
 obtain⟨x,rfl,i⟩:=bE rfl r;cases a with
 |lst v=>obtain⟨p,d,rfl,g,j,q⟩:=aM i;cases e;exact⟨p,d,rfl,.inl ⟨SqL.of g,λl f=>qA (m:=m.kid.up) (G':=G) o (λ_ z=>z) j (by rw[fg];exact q.zmono λ_ z=>.inl z) k f⟩⟩
 |tup v=>obtain⟨p,d,rfl,g,j,q⟩:=cO i;cases e;exact⟨p,d,rfl,.inr ⟨g,fJ o k i⟩⟩
 |_=>cases e
theorem kz {p:Pos}(hm:X.mg "tuple"=J)(f:Gl X "tuple":=by rfl)(ha:SE X sf C ea a)(e:Me [ea] X.env=(L5,Tx ea X.env)::Me [] X.env:=by rfl)(d:(Mp pos<|Me [] X.env).any (·.1)=false:=by rfl):SE X sf C (.Call (.Name "tuple" p) [ea] [] pos) (.op .tuple h [a]):=
 aj (dq jw f hm PN (slc ha sl0 e) (by decide) (by decide) e d) (dU rY rfl)
end
end MR

namespace MR
open PySem PySem.Spec PyProof.Rows L2 L3
section
variable {K:L9}{Z:Fp}{H H':Hp}{G G' Gn:Fp}{Q:VK}
theorem sv (same:∀b o,H b=O o->H' b=O o):Stay Z H H':=by
 refine⟨λa o _ e=>same a o e,λa c e=>?_,λa o u e=>same a _ e⟩;rcases e with e|⟨u,e⟩
 .exact .inl (same a _ e)
 .exact .inr ⟨u,same a _ e⟩
theorem wu {w:M.W}{v:V}(d:Own Z H G)(n:∀a,Z a->H a≠J)(g:∀a,G' a->G a)(same:∀b o,H b=O o->H' b=O o)(i:∀a,Gn a->H a=J/\∃m,H' a=O (.lst m))
  (r:Rep K (cB Z G G') H' w.1 w.2 v λa=>G' a\/Gn a) (k:Out K Z H G w Q):Q v H':=by
 have f:∀a,H a≠J->H' a≠none:=λa h=>by
  cases e:H a with
  |none=>exact Tg e h
  |some o=>rw[same a o e];simp
 refine k v (cB Z G G') H' _ r (λa h=>?_) ⟨λa o e _=>same a o e,λa h=>.inl h,λa h=>h.imp id λq=>.inl q.1,λa h=>h.elim (λz=>.inl<|g a z) λz=>.inr (i a z).1,f,λq a h=>f a ?_⟩
 .rcases h with h | h
  .obtain ⟨l,c,e⟩:=d a<|g a h;exact⟨λz=>z.elim l λq=>q.2 h,c,same a _ e⟩
  .obtain ⟨e,c,j⟩:=i a h;refine⟨λz=>z.elim (λq=>n a q e) λq=>?_,.inl c,j⟩;obtain⟨_,p,e2⟩:=d a q.1;rw[e] at e2;cases e2
 .rcases h with h | h
  .exact q a h
  .obtain ⟨_,c,e⟩:=d a h.1;rw[e];simp
theorem RepL.split {m:M.Md}:∀{f g:U M.T} {d i:U V} {G:Fp},d.length=f.length->RepL K Z H m (f++g) (d++i) G->∃G1 G2,(∀a,G1 a->G a)/\(∀a,G2 a->G a)/\(∀a,G1 a->¬G2 a)/\RepL K Z H m f d G1/\RepL K Z H m g i G2
|[],g,[],i,G,_,r=>⟨no,G,λ_ z=>z.elim,λ_ z=>z,λ_ z=>z.elim,rfl,r⟩
|t::f,g,x::d,i,G,c,s=>by obtain⟨D,w,A,B,e,n,j,b,p,q⟩:=s;cases e;obtain⟨G1,G2,k,l,o,u,v⟩:=RepL.split (N4 c) q;exact⟨λa=>A a\/G1 a,G2,λa h=>h.elim (n a) λz=>j a<|k a z,λa h=>j a<|l a h,λa h z=>h.elim (λy=>b a y<|l a z) λy=>o a y z,⟨x,d,A,G1,rfl,λ_ z=>.inl z,λ_ z=>.inr z,λa h z=>b a h<|k a z,p,u⟩,v⟩
|[],_,_::_,_,_,c,_=>by cases c
|_::_,_,[],_,_,c,_=>by cases c
theorem RepL.cut {m:M.Md}:∀(n:Y) {b:U M.T} {c:U V} {G:Fp},RepL K Z H m b c G->∃G1 G2,(∀a,G1 a->G a)/\(∀a,G2 a->G a)/\(∀a,G1 a->¬G2 a)/\RepL K Z H m (b.take n) (c.take n) G1/\RepL K Z H m (b.drop n) (c.drop n) G2:=λn b c G r=>by refine RepL.split (by rw[NO,NO,r.length]) ?_;rw[PX,PX];exact r
end
theorem sR {H a:Hp}{p:S9}(s:Same H a)(h:a p=J):H p=none:=by
 cases e:H p with
 |none=>rfl
 |some o=>rw[s p o e] at h;cases h
theorem iB {K:L9}{H b:Hp}{a:S9}{c:U V}(e:Same H b)(h:SqL K H a c):SqL K b a c:=by
 rcases h with(z|⟨o,z⟩)|z
 .exact .inl (.inl<|e _ _ z)
 .exact .inl (.inr ⟨o,e _ _ z⟩)
 .exact .inr z
def iW (a:U Y):U V:=a.map λ(n:Y)=>V.int (n:Int)
def RowsAt (H b:Hp)(c:S9):U Y->U V->U S9->Prop
|[],_,a=>a=[]
|n::e,d,a=>∃p r,a=p::r/\H p=J/\p≠c/\p ∉ r/\b p=O (.lst<|d.take n)/\RowsAt H b c e (d.drop n) r
theorem RowsAt.length {H c:Hp}{f:S9}:∀{a:U Y} {g:U V} {b:U S9},RowsAt H c f a g b->b.length=a.length
|[],_,_,h=>by rw[show _=[] from h,Oo]
|_::_,_,_,d=>by obtain⟨_,_,e,_,_,_,_,q⟩:=d;rw[e,Mw,Mw,q.length]
theorem RowsAt.new {H a:Hp}{c:S9}:∀{j:U Y} {k:U V} {b:U S9},RowsAt H a c j k b->∀p∈b,H p=J/\p≠c/\∃l,a p=O (.lst l)
|[],_,_,h,p,hp=>by rw[show _=[] from h] at hp;cases hp
|_::_,_,_,i,p,hp=>by
 obtain⟨_,_,e,d,f,_,g,q⟩:=i;rw[e] at hp;rcases Mm.mp hp with z|z
 .rw[z];exact⟨d,f,_,g⟩
 .exact q.new p z
theorem RowsAt.keep {H c d:Hp}{a:S9}(k:∀b o,b≠a->c b=O o->d b=O o):∀{g:U Y} {j:U V} {i:U S9},RowsAt H c a g j i->RowsAt H d a g j i
|[],_,_,h=>h
|_::_,_,_,s=>by obtain⟨p,r,e,l,f,n,m,q⟩:=s;exact⟨p,r,e,l,f,n,k _ _ f m,q.keep k⟩
theorem RowsAt.snoc {H g:Hp}{j p:S9}{n:Y}(k:H p=J)(l:p≠j):∀{f:U Y} {a:U V} {i:U S9},RowsAt H g j f a i->p ∉ i->g p=O (.lst<|(a.drop f.sum).take n)->RowsAt H g j (f++[n]) a (i++[p])
|[],a,_,h,_,b=>by rw[show _=[] from h];exact⟨p,[],rfl,k,l,MW,b,rfl⟩
|m::f,a,_,o,d,b=>by
 obtain⟨c,r,e,s,t,v,u,q⟩:=o;rw[e] at d ⊢;rw[Mm,not_or] at d;rw[N7,<- QW] at b;refine⟨c,r++[p],rfl,s,t,λz=>?_,u,RowsAt.snoc k l q d.2 b⟩;rcases OR.mp z with z|z
 .exact v z
 .exact d.1 (MZ.mp z).symm
def qN (K:L9):Sp:=λh H Q _=>∃(d f:S9) (c:U Y) (g:U V),h=[.ref d,.ref f]/\SqL K H d (iW c)/\SqL K H f g/\c.length<=M.LIM /\
 ∀b e a,Same H a->H b=J->a b=O (.lst<|e.map V.ref)->RowsAt H a b c g e->Q (.ref b) a
theorem mz {K:L9}{Z:Fp}{H:Hp}{G:Fp}{m:M.Md}:∀{b:U M.T} {a:U Y} {d:U V} {G:Fp},M.natsOf b=O a->RepL K Z H m b d G->d=iW a
|[],a,d,_,e,r=>by cases e;exact r
| t::b,a,d,G,e,g=>by
 obtain⟨x,r,A,B,f,_,_,_,p,q⟩:=g;cases t with
 | int i =>
  cases i with
  | ofNat n =>
   have c:(M.natsOf b).map (n::·)=O a:=e;cases h:M.natsOf b with
   |none=>rw[h] at c;cases c
   |some j=>rw[h] at c;cases c;rw[f,mz (G:=B) h q,show x=_ from p];rfl
  |negSucc n=>cases e
 |_=>cases e
theorem mW {K:L9}{Z:Fp}{H c:Hp}{N:M.Md}{x:S9}:∀{i:U Y} {k:U M.T} {b:U V} {j:U S9} {A:Fp},RowsAt H c x i b j->RepL K Z c N k b A->b.length<=M.LIM->(∀a,A a->H a≠J)->RepL K Z c N.up (M.rowsT i k) (j.map V.ref) (λa=>A a\/a∈j)
|[],_,_,_,_,h,_,_,_=>by rw[show _=[] from h];rfl
| n::i,k,b,_,A,u,y,D,g=>by
 obtain⟨p,r,e,o,B,t,s,q⟩:=u;rw[e];obtain⟨G1,G2,d,f,m,v,w⟩:=RepL.cut n y;have l:∀a,A a->a≠p:=λa h z=>g a h<|by rw[z];exact o
 refine⟨.ref p,r.map V.ref,λa=>G1 a\/a=p,λa=>G2 a\/a∈r,rfl,λa h=>h.elim (λz=>.inl<|d a z) λz=>.inr<|by rw[z];exact ML,λa h=>h.elim (λz=>.inl<|f a z) λz=>.inr<|MG _ z,λa h z=>?_,
  ⟨p,b.take n,rfl,by rw[NO];lia,(LstR.own<|dz N).mpr ⟨.inr rfl,s⟩,by rw[fg];exact v.mono λa h=>⟨.inl h,l a<|d a h⟩⟩,mW q w (by rw[Pq];lia) λa h=>g a<|f a h⟩
 rcases h with h|h<;>rcases z with z|z
 .exact m a h z
 .exact g a (d a h) (q.new a z).1
 .rw[h] at z;exact l p (f p z) rfl
 .rw[h] at z;exact t z
theorem tX {K:L9}{C:M.Call}{g:Y}{A:U V}{H:Hp}{Q:VK}{E:XK}(hC:∀i,C g i=M.rowsW i)(h:spS K C g [] A H Q E):qN K A H Q E:=by
 obtain⟨Z,i,G,w,bs,r,ow,za,e,q⟩:=h;rw[hC] at e
 obtain⟨m1,ls,m,s,rfl⟩:∃m1 ls m s,i=[(m1,.lst ls),(m,.lst s)]:=by
  cases i with
  |nil=>cases e
  | cons a i =>
   obtain⟨m1,t⟩:=a;cases i with
   |nil=>cases t<;>cases e
   |cons b i=>
    obtain⟨m,u⟩:=b;cases i with
    |nil=>cases t<;>first|(cases e;done)|(cases u<;>first|(cases e;done)|exact⟨_,_,_,_,rfl⟩)
    |cons c i=>cases t<;>first|(cases e;done)|(cases u<;>cases e)
 obtain⟨j,e1,e2⟩:=ae<|show(M.ofO<|M.natsOf ls).bind (λj=>M.Res.ok (((m.kid.up.up,.lst<|M.rowsT j s):M.W),([]:U M.W)))=.ok (w,bs) from e;have B:=fV e1;cases e2
 obtain⟨x,y,rfl⟩:∃x y,A=[x,y]:=by
  have:=r.length
  match A,this with
  |[x,y],_=>exact⟨x,y,rfl⟩
 obtain⟨G1,G2,w1,w2,d,r1,r2⟩:=bM r;obtain⟨la,xs,rfl,hs,D,q1⟩:=aM r1;obtain⟨ta,ys,rfl,N,F,q2⟩:=aM r2;have ex:=mz (G:=G1) B q1;subst ex;have l:j.length<=M.LIM:=by unfold iW at D;rw[Mg] at D;exact D
 refine⟨la,ta,j,ys,rfl,SqL.of hs,SqL.of N,l,λra ps H' same n p k=>?_⟩;have f:∀b o,H b=O o->H' b=O o:=same;have P:Out K Z H G (m.kid.up.up,.lst (M.rowsT j s)) Q:=λv Z' H2 G' rv o t=>q v Z' H2 G' no rv rfl (λ_ _ z=>z) (λa h=>h.elim (o a) λz=>z.elim) (t.mono (λ_ z=>z) λa h=>h.elim id λz=>z.elim);have hG:∀a,G2 a->H a≠none:=λa h=>by obtain⟨_,zs,e⟩:=ow a<|w2 a h;rw[e];simp
 have q2':=(q2.zmono (Z':=cB Z G G2) λ_ z=>.inl z).keep (H':=H') (Z':=cB Z G G2) (sv f) (λ_ z=>z) λa o _ e=>f a o e;refine wu (w:=(m.kid.up.up,.lst<|M.rowsT j s)) (K:=K) (G':=G2) (Gn:=λa=>a=ra\/a∈ps) ow za w2 f (λa h=>?_) ⟨ra,ps.map V.ref,rfl,by rw[Mg,k.length];exact l,(LstR.own<|dz _).mpr ⟨.inr<|.inl rfl,p⟩,?_⟩ P
 .rcases h with h | h
  .rw[h];exact⟨n,_,p⟩
  .exact⟨(k.new a h).1,(k.new a h).2.2⟩
 .rw [fg];refine(mW k q2' F hG).mono λb hb=>?_;rcases hb with z|z
  .exact⟨.inl z,λy=>hG b z<|by rw[y];exact n⟩
  .exact⟨.inr<|.inr z,(k.new b z).2.1⟩
end MR

namespace MR
open PySem PySem.Spec PyProof.Rows L2 L3
section
variable {X:Cx}{sf sg:Y->I Y}{io:U Y}{C:M.Call}{pos p2:Pos}{ea eb ec:Tq}{a b c:M.E}{h:Ta}{n:Y}
theorem jM {K:L9}{o p:M.Op}{g g':Int->Int->Ta}(inv:∀{u v w:M.W},M.oSem o L5 [u,v]=O w->∃m n i j,u=(m,.int i)/\v=(n,.int j)/\w=(.d,.bl<|g i j))(t:∀{u v w:M.W},M.oSem p L5 [u,v]=O w->∃m n i j,u=(m,.int i)/\v=(n,.int j)/\w=(.d,.bl<|g' i j))
  (σ:L2.St) (H:Hp) (Q:VK) (hw:wE K sf C (.chain o p a b c) σ H Q):vw (rI0 λi j=>.bl<|g i j) (rI0 λi j=>.bl<|g' i j) (wE K sf C a) (wE K sf C b) (wE K sf C c) σ H Q:=by
 obtain⟨pv,Z,Fs,η,w,η',A,ev,k⟩:=hw;obtain⟨⟨x,η1⟩,h1,h2⟩:=ae<|show(M.evE C a η).bind (M.kC1 o p (M.evE C b)<|M.evE C c)=_ from ev;obtain⟨⟨y,l⟩,h3,h4⟩:=ae<|show(M.evE C b η1).bind (M.kC2 o p (M.evE C c) x)=_ from h2;obtain⟨⟨kk,η3⟩,h5,h6⟩:=ae<|show(M.ret l<|M.oSem o L5 [x,y]).bind (λk=>M.onB k.1.2 (M.then' (M.evE C c)<|M.kC3 p y) (M.okW (.d,.bl L5)) k.2)=_ from h4;obtain⟨k',e5,e5'⟩:=aA h5;cases e5';obtain⟨m1,m2,i,j,rfl,rfl,rfl⟩:=inv e5;have dr:∀{Z:Fp} {H:Hp} {F Z1:Fp} {P:Hp} {f:Fps} {G1:Fp},Step Z H F Z1 P (λa=>tot f a\/G1 a)->Step Z H F Z1 P (tot f):=λs=>s.mono (λ_ z=>z) λ_ z=>.inl z;refine gQ A h1 λvx Z1 P f G1 A1 r1 _ s1 _=>?_;have D:=A1.bare;refine gQ D h3 λvy Z2 H2 G G2 A2 r2 _ s2 _=>⟨i,j,r1,r2,g i j,rfl,?_⟩;have r:=A2.bare;have B:=(dr s1).trans<|dr s2;have e:M.onB (.bl (g i j)) (M.then' (M.evE C c) (M.kC3 p (m2,.int j))) (M.okW (.d,.bl L5)) l=.ok (w,η'):=h6;cases hg:g i j with
 |true=>rw[hg] at e;rw[Tf rfl];obtain⟨⟨z,η4⟩,h7,h8⟩:=ae<|show(M.evE C c l).bind (M.kC3 p (m2,.int j))=_ from e;obtain⟨z',e8,e8'⟩:=aA<|show M.ret η4 (M.oSem p L5 [(m2,.int j),z])=_ from h8;cases e8';obtain⟨n1,n2,i',j',e9,rfl,rfl⟩:=t e8;cases e9;refine gQ r h7 λvz Z3 H3 N G3 A3 r3 _ s3 _=>⟨j,j',r2,r3,?_⟩;exact k _ Z3 H3 N no A3.bare rfl ((B.trans<|dr s3).mono (λ_ z=>z) λ_ z=>z.elim id λq=>q.elim)
 |false=>rw[hg] at e;rw[Ti MJ];cases e;exact k _ Z2 H2 G no r rfl (B.mono (λ_ z=>z) λ_ z=>z.elim id λq=>q.elim)
theorem l6 {o p:M.Op}{g Q:Int->Int->Ta}(A:∀{u v w:M.W},M.oSem o L5 [u,v]=O w->∃m n i j,u=(m,.int i)/\v=(n,.int j)/\w=(.d,.bl<|g i j))(r:∀{u v w:M.W},M.oSem p L5 [u,v]=O w->∃m n i j,u=(m,.int i)/\v=(n,.int j)/\w=(.d,.bl<|Q i j)):
  ∀D w f,M.evE C (.chain o p a b c) D=.ok (w,f)->∃b,w.2=.bl b:=λD w f ev=>by
 obtain⟨⟨x,F⟩,h1,Z⟩:=ae<|show(M.evE C a D).bind (M.kC1 o p (M.evE C b)<|M.evE C c)=_ from ev;obtain⟨⟨y,l⟩,h3,h4⟩:=ae<|show(M.evE C b F).bind (M.kC2 o p (M.evE C c) x)=_ from Z;obtain⟨⟨kk,η3⟩,h5,h6⟩:=ae<|show(M.ret l<|M.oSem o L5 [x,y]).bind (λk=>M.onB k.1.2 (M.then' (M.evE C c)<|M.kC3 p y) (M.okW (.d,.bl L5)) k.2)=_ from h4;obtain⟨k',N,s⟩:=aA h5;cases s;obtain⟨m1,B,i,j,rfl,rfl,rfl⟩:=A N;have e:M.onB (.bl (g i j)) (M.then' (M.evE C c) (M.kC3 p (B,.int j))) (M.okW (.d,.bl L5)) l=.ok (w,f):=h6;cases H:g i j with
 |true=>rw[H] at e;obtain⟨⟨z,G⟩,h7,h8⟩:=ae<|show(M.evE C c l).bind (M.kC3 p (B,.int j))=_ from e;obtain⟨z',P,t⟩:=aA<|show M.ret G (M.oSem p L5 [(B,.int j),z])=_ from h8;cases t;obtain⟨n1,n2,i',j',e9,rfl,rfl⟩:=r P;exact⟨_,rfl⟩
 |false=>rw[H] at e;cases e;exact⟨_,rfl⟩
theorem qK (d:SE X sf C ea a)(e:SE X sf C eb b)(f:SE X sf C ec c)(g:lastMarks [.LtE,.LtE] [eb,ec]=false:=by with_unfolding_all rfl):SB X sf C (.Compare ea [.LtE,.LtE] [eb,ec] pos) (.chain .le .le a b c):=
 kf (mB mG mG d e f g) λj H Q i=>jM dZ dZ j H _<|vS (l6 dZ dZ) i
theorem zl (d:SE X sf C ea a)(e:SE X sf C eb b)(f:SE X sf C ec c)(g:lastMarks [.LtE,.Lt] [eb,ec]=false:=by with_unfolding_all rfl):SB X sf C (.Compare ea [.LtE,.Lt] [eb,ec] pos) (.chain .le .lt a b c):=
 kf (mB mG pV d e f g) λj H Q i=>jM dZ kF j H _<|vS (l6 dZ kF) i
theorem JQ (j l:Y){t u:Y}{x y:Str}{o p pt:Pos}{m:Y}{H:M.X}(r:X.N.Nodup)(s:SE X sf C ea a)(f:t≠u:=by decide)(z:t ∉ io:=by decide)(e:u ∉ io:=by decide)(D:sf t=O j:=by rfl)(g:sf u=O l:=by rfl)(A:X.N[j]?=O x:=by rfl)(B:X.N[l]?=O y:=by rfl)
  (hx:L2.Loc X.env.scope x:=by first|exact Mz rfl|exact Ms rfl) (G:L2.Loc X.env.scope y:=by first|exact Mz rfl|exact Ms rfl) (v:X.calm=true:=by rfl)
  (w:X.fn x=L7\/X.env.scope.names.lookup x=O .local:=by first|exact .inl rfl|exact .inr rfl) (d:X.fn y=L7\/X.env.scope.names.lookup y=O .local:=by first|exact .inl rfl|exact .inr rfl)
  (k:P6 [.Tuple [.Name x o,.Name y p] m pt] ea pos.line X.env=pure false:=by rfl) (F:P5 [.Tuple [.Name x o,.Name y p] m pt] ea X.env=pure none:=by rfl):
  SS X sf io C (.Assign [.Tuple [.Name x o,.Name y p] m pt] ea pos) (.asgT H [t,u] a):=
 cR (oY s (kY (n:=2) v<|bB (bg (i:=j) r A hx w)<|bB (bg (i:=l) r B G d) fP) k F) (BF f z e D g)
end
end MR

namespace MR
open PySem PySem.Spec PyProof.Rows L2 L3
section
variable {X:Cx}{sf sg:Y->I Y}{C:M.Call}{pos p2 p3:Pos}{ea eb ec:Tq}{a b c:M.E}{h:Ta}{n:Y}{io:U Y}
theorem vk {g:U Tz}:SSs X sf io C g [.stop]:=λe s k H D d q=>by obtain⟨pv,Z,i,j,N,A,f⟩:=q;exact(show Tw from f).elim
theorem sGc {x:Str}{i:Int}(d:∃t,X.mg x=O (.int i t))(f:Gl X x:=by rfl)(e:(x==("__debug__":Str))=false:=by decide):SE X sf C (.Name x pos) (.cst<|.int i):=by obtain⟨t,d⟩:=d;exact aj (qg (v:=.int i) f d ⟨t,rfl⟩ e)<|jf rfl
def BY (K:L9)(H:Hp):U Y->V->V->Prop
|[],v,u=>u=v
|j::p,v,u=>∃a d x,v=.ref a/\(SqL K H a d\/SqT K H a d)/\d[j]?=O x/\BY K H p x u
def wP (K:L9)(sf:Y->I Y)(i:Y)(p:U Y):TE:=λd H Q=>∃j v u,sf i=O j/\d[j]?=O (O v)/\BY K H p v u/\Q u H
abbrev SP (X:Cx)(sf:Y->I Y)(d:Tq)(i:Y)(p:U Y):Prop:=PE X d<|wP X.K sf i p
noncomputable def bU (d:Fps)(i:Y)(G:Fp):Fps:=λl a=>(l=i/\G a)\/(l≠i/\d l a)
def xS (K:L9)(w:Mc)(e:Str->I L)(x:Str)(d:U Str):Prop:=∃a T,e x=O (.ref a)/\DTab K w a T/\∀z,(T.lookup z).isSome=d.contains z
theorem DW {K:L9}{w:Mc}{ad:S9}{T:U<|Str×V}{g:U Str}{e:M.E}{d:Ta}(D:DTab K w ad T)(ht:∀z,(T.lookup z).isSome=g.contains z)(l:L2.St)(H:Hp)(Q:VK)(h:wE K sf C (.inT d g e) l H Q):
  wE K sf C e l H λx t=>∃z a i,x=.str z/\V.ref ad=.ref a/\DTab K w a i/\Q (.bl<|(i.lookup z).isSome != d) t:=by
 obtain⟨pv,Z,o,j,w',η',A,ev,k⟩:=h;obtain⟨⟨u,η1⟩,F,N⟩:=ae<|show(M.evE C e j).bind (M.kIn d g)=_ from ev;obtain⟨z,e1,e2,e3⟩:=lH N;cases e2;refine⟨pv,Z,o,j,u,_,A,F,λy v p f G B r s=>?_⟩;obtain⟨m,t0⟩:=u;cases(show t0=_ from e1);refine⟨z,ad,T,r.1,rfl,D,?_⟩;rw[ht z];refine k _ v p f no B.bare ?_<|s.mono (λ_ z=>z) λa P=>P.elim .inl λz=>z.elim;rw[show w'=_ from e3];rfl
def tR (P:Td)(w:Mc)(K:L9)(i:Str->I L)(d:To)(n:Y)(C:M.Call)(x:Str)(tab:U<|Str×Y):Prop:=
 ∃a T,i x=O (.ref a)/\DTab K w a T/\∀z f,tab.lookup z=O f->∃e g j,T.lookup z=O (.ref e)/\FnOk P w K i d CX0 n e g j (spS K C f [])/\Ny K (.ref e)=L7/\Binds K g j []
theorem u9 {x:Str}{p N:Pos}{g:U Tq}{t:TA}{tk:TE}{ad:S9}(hk:PE X eb tk)(hg:Gl X x)(hm:X.mg x=O (.ref ad))(ha:PA X (ea::g) t)(hr:Room n X.A)(D:(x==("__debug__":Str))=L5)(hs:hU eb)
  (he:Me (ea::g) X.env=(L5,Tx ea X.env)::Me g X.env) (M:(Mp pos<|Me g X.env).any (·.1)=L5):
  PE X (.Call (.Subscript (.Name x p) eb N) (ea::g) [] pos) λl H Q=>tk l H λy m=>∃a z T v,V.ref ad=.ref a/\y=.str z/\DTab X.K X.w a T/\T.lookup z=O v/\∃e i j k,v=.ref e/\FnOk X.prog X.w X.K X.mg X.base CX0 n e i j k/\Ny X.K (.ref e)=L7/\Binds X.K i j []/\t l m λB o=>k B o Q E0:=by
 intro f s l H Q d h
 rw[show Tx (.Call (.Subscript (.Name x p) eb N) (ea::g) [] pos) X.env=(do
  callWith pos (<- Tx (.Subscript (.Name x p) eb N) X.env) [] (Mp pos<|Me (ea::g) X.env) (OW pos<|O8 [] X.env)) from rfl]
 refine Ma<|thn (Ct Ej (uU hg hm D) hk hs f s l H (λv m=>∃e i j k,v=.ref e/\FnOk X.prog X.w X.K X.mg X.base CX0 n e i j k/\Ny X.K (.ref e)=L7/\Binds X.K i j []/\t l m λB o=>k B o Q E0) d h) λu s1 ⟨v,m,P,rv,e,i,j,k,ev,F,G,hb,q⟩=>?_;subst ev;obtain rfl:u=Value.ref e:=rv;refine P0 (h₀:=X.base) P.ok.mod.kin G (thn (ha pos f s1 l m _ P q) λus s2 ⟨B,o,Z,r,q2⟩=>⟨Z.kIn,?_⟩) he M;exact ye F hr hb .nil ql Z r<|by rw[MV];exact q2
theorem kh {x:Str}{p p4:Pos}{tab:U<|Str×Y}{d:U Tq}{bs:U M.E}{k:M.E}(T:tR X.prog X.w X.K X.mg X.base n C x tab)(hr:Room n X.A)(hk:SE X sf C eb k)(j:SA X sf C (ea::d) bs)(o:M.ios bs=[]:=by rfl)(hg:Gl X x:=by rfl)(l:(x==("__debug__":Str))=false:=by decide)(hs:hU eb:=by intro _ _;rfl)
  (he:Me (ea::d) X.env=(L5,Tx ea X.env)::Me d X.env:=by rfl) (t:(Mp pos<|Me d X.env).any (·.1)=false:=by rfl):SE X sf C (.Call (.Subscript (.Name x p) eb p4) (ea::d) [] pos) (.callT tab k bs):=by
 obtain⟨ad,T',hm,D,ht⟩:=T;refine aj (u9 hk hg hm j hr l hs he t) λσ H Q hw=>?_;obtain⟨pv,Z,Fs,η,w,F,A,ev,kk⟩:=hw;obtain⟨⟨u,e⟩,h1,h2⟩:=ae<|show(M.evE C k η).bind (M.kTab tab<|M.kCT C (M.evA C bs)<|M.ios bs)=_ from ev;obtain⟨z,f,e1,e2,h3⟩:=lI h2;refine⟨pv,Z,Fs,η,u,e,A,h1,λy Z' N g G B r s=>?_⟩;obtain⟨m,t0⟩:=u;cases(show t0=_ from e1);obtain⟨P,fd,ps,q1,q2,q3,q4⟩:=ht z f e2;refine⟨ad,z,T',.ref P,rfl,r.1,D,q1,P,fd,ps,_,rfl,q2,q3,q4,?_⟩;have h4:wE X.K sf C (.call f bs) σ N Q:=⟨pv,Z',g,e,w,F,B.bare,h3,λv Z2 H2 i G2 B2 r2 s2=>kk v Z2 H2 i G2 B2 r2<|(s.mono (λ_ z=>z) λa j=>.inl j).trans s2⟩;exact qO (io:=[]) (.inr o) σ N Q h4
end
end MR

namespace MR
open PySem PySem.Spec PyProof.Rows L2 L3
theorem fsc {N P:U Str}{sc:TM}(a:sc.kind=.function:=by rfl)(b:sc.isCoroutine=false:=by rfl)(c:sc.isGenerator=false:=by rfl)(d:N.Nodup:=by decide +kernel)(e:N.take P.length=P:=by rfl)(f:∀x∈P,sc.names.lookup x=O .local\/sc.names.lookup x=O .cell:=by decide +kernel)(g:∀y∈sc.names,y.2≠.free:=by decide +kernel):bH N P sc:=⟨a,b,c,d,e,f,g⟩
section
variable {P:Td}{w:Mc}{K:L9}{mg:Str->I L}{base:To}{x:Str}{st:Tz}{ps N:U Str}{n g:Y}{io:U Y}{C C':M.Call}{d:L}{t:M.T}
structure Df (K:L9)(mg:Str->I L)(x:Str)(st:Tz)(ps:U Str):Prop where
 ex:∃f fd,Fun K x x st f fd/\Binds K fd ps []/\mg x=O (.ref f)
theorem Df.ok (e:Df K mg x st ps)(h:∀f a,Fun K x x st f a->FnOk P w K mg base CX0 n f a ps (spS K C g io)):et P w K mg base n C x g io:=by obtain⟨f,a,F,b,m⟩:=e.ex;exact⟨f,a,ps,h f a F,m,F.kp,b⟩
theorem Df.z (e:Df K mg x st ps)(a:∀b,C g b=.no:=by intro _;rfl):et P w K mg base n C x g io:=e.ok λ_ _ _=>fn0 a
theorem Df.s (a:M.Fn)(e:Df K mg x st ps)(S:bH N ps<|defScope st)
  (p:∀{f:S9} {c:L} {A:Mh} {b:U Env} {s:L8} {H:Hp} {E:XK},Room n (A.deeper<|Nc x (defScope st) s.heap.objs.size f c)->SSs (gq CX0 P w K mg base N x (defScope st) f c A b s H E).nox (slN N.length) a.io C (defBody st) a.body)
  (o:∀m,C' g m=M.runF C a m:=by intro _;rfl) (l:a.ps=ps.length:=by rfl) (k:ps.length<=N.length:=by decide) (r:a.io.Nodup:=by decide) (j:∀i∈a.io,i<ps.length:=by decide):et P w K mg base (n+1) C' x g a.io:=
 e.ok λ_ _ F=>Fun.okM F S l k r j (λ_ _ _ _ _ _ h=>p h) o
def Raw (K:L9)(x:Str)(st:Tz)(dV:L):Prop:=∃f e h j kV c i an a b,M3 K Ml x=O (O<|.ref f)/\K.lookup f=O ⟨e,h,.func<|Nh x x (defArgs st) (defBody st) (defScope st) dV kV c i an a b,j⟩/\PF K a x=L7/\Ny K (.ref f)=L7
theorem BJ {h:To}(X:K.In h)(G:h.Ns Ml mg)(r:Raw K x st .none)(o:∀(kV b i:L) (an:I S9) (a e:L) (c:U L),c.length=ps.length->bindArgs (Nh x x (defArgs st) (defBody st) (defScope st) .none kV b i an a e) ⟨c,[]⟩=pure (ps.zip c)):Df K mg x st ps:=by obtain⟨f,u,v,y,kV,s,i,an,p,e,j,k,l,m⟩:=r;have F:=uB (st:=st) k l m;exact⟨f,_,F,F.binds o,N6 X G j⟩
def DU (K:L9):U Str->Prop
|[]=>TZ
|x::r=>M3 K Ml x=O J/\DU K r
theorem Hw {h:To}(X:K.In h)(G:h.Ns Ml mg)(r:DU K ["isinstance","int","tuple","list","bool","sum","len","all","zip","range","enumerate","any","max","min","sorted","str","repr","abs","dict","set","reversed"]):Txt mg:=by obtain⟨u,v,y,A,B,D,F,H,M,a,b,c,e,f,i,j,k,l,o,p,s,_⟩:=r;have m:=λ{x:Str} (z:M3 K Ml x=O J)=>PySem.W.mg_none_of X G z;exact⟨m u,m v,m y,m A,m B,m D,m F,m H,m M,m a,m b,m c,m e,m f,m i,m j,m k,m l,m o,m p,m s⟩
def TabRaw (K:L9)(w:Mc)(x:Str)(T:U<|Str×V):Prop:=∃a b n,M3 K Ml x=O (O<|.ref a)/\K.lookup a=O ⟨.type "dict",J,.dict b n,#[]⟩/\RL w.params b.toList/\Paired (λ(p:Str×V) (e:TH)=>(∃t,e.key=.str p.1 t)/\RelV p.2 e.val) T b.toList/\(a==Ni)=L5
theorem TabRaw.tab {h:To}{T:U<|Str×V}(X:K.In h)(G:h.Ns Ml mg)(r:TabRaw K w x T):∃a,mg x=O (.ref a)/\DTab K w a T:=by obtain⟨a,b,n,c,e,f,i,j⟩:=r;exact⟨a,N6 X G c,⟨b,n,e,f,i⟩,j⟩
theorem kg (z:Str):∀T:U<|Str×V,(T.lookup z).isSome=(T.map Nt).contains z
|[]=>rfl
|(k,v)::T=>by
 rw[M5,ME,Pl];cases z==k with
 |true=>rfl
 |false=>rw[kg z T];rfl
theorem kM {h:To}{T:U<|Str×V}{b:U Str}(X:K.In h)(G:h.Ns Ml mg)(r:TabRaw K w x T)(hk:T.map Nt=b):xS K w mg x b:=by obtain⟨a,c,e⟩:=r.tab X G;exact⟨a,T,c,e,λz=>by rw[kg,hk]⟩
def NamL (K:L9)(T:U<|Str×V):U (Str×Str)->Prop
|[]=>TZ
|(k,y)::r=>(∃a,T.lookup k=O (.ref a)/\M3 K Ml y=O (O<|.ref a))/\NamL K T r
def xT (K:L9)(w:Mc)(mg:Str->I L)(x:Str)(l:U<|Str×Str):Prop:=∃a T,mg x=O (.ref a)/\DTab K w a T/\∀z y,l.lookup z=O y->∃b,T.lookup z=O (.ref b)/\mg y=O (.ref b)
theorem kW {h:To}{T:U<|Str×V}{l:U<|Str×Str}(X:K.In h)(G:h.Ns Ml mg)(r:TabRaw K w x T)(c:NamL K T l):xT K w mg x l:=by
 obtain⟨a,i,j⟩:=r.tab X G;refine⟨a,T,i,j,λz y=>?_⟩;induction l with
 |nil=>intro e;cases e
 | cons p l m =>
  obtain⟨k,u⟩:=p;intro e;rw[M5] at e;cases b:z==k with
  |true=>rw[b] at e;cases e;obtain⟨f,o,s⟩:=c.1;rw[beq_iff_eq.mp b];exact⟨f,o,N6 X G s⟩
  |false=>rw[b] at e;exact m c.2 e
def Fy (P:Td)(w:Mc)(K:L9)(mg:Str->I L)(base:To)(n:Y)(C:M.Call):U (Str×Y)->U (Str×Str)->Prop
|[],_=>TZ
|(k,f)::r,l=>(∃y,l.lookup k=O y/\et P w K mg base n C y f [])/\Fy P w K mg base n C r l
theorem eL {l:U<|Str×Str}{tab:U<|Str×Y}(t:xT K w mg x l)(h:Fy P w K mg base n C tab l):tR P w K mg base n C x tab:=by
 obtain⟨a,T,o,r,s⟩:=t;refine⟨a,T,o,r,λz f=>?_⟩;induction tab with
 |nil=>intro e;cases e
 | cons p tab u =>
  obtain⟨k,g⟩:=p;intro e;rw[M5] at e;cases b:z==k with
  |true=>rw[b] at e;cases e;obtain⟨y,v,i,m,ps,A,B,D,F⟩:=h.1;rw[beq_iff_eq.mp b];obtain⟨j,G,c⟩:=s k y v;rw[B] at c;cases c;exact⟨i,m,ps,G,A,D,F⟩
  |false=>rw[b] at e;exact u h.2 e
end
end MR

namespace MR
open PySem PySem.Spec PyProof.Rows L2 L3
section
variable {X:Cx}{sf sg:Y->I Y}{C:M.Call}{pos p p2 p3:Pos}{ea eb ec:Tq}{a b c:M.E}{h:Ta}{n:Y}{io:U Y}{K:L9}
theorem Bc:Loc K 1 .any h λi H Q=>∃(a:S9) (bs:U Ta),i=[.ref a]/\SqL K H a (bs.map V.bl)/\Q (.bl<|bs.any id) H:=by
 intro t w i Z H G Q o e r v y k
 match t,o with
 | [(m,a)],_ =>
  obtain⟨x,rfl,s⟩:=bE rfl r;cases a with
  | lst l =>
   obtain⟨a,i,hx,j,u,p⟩:=aM s;have f:(M.boolsOf l).map (λg=>((.d,.bl (g.any id)):M.W))=O w:=e;cases e1:M.boolsOf l with
   |none=>rw[e1] at f;cases f
   |some g=>rw[e1] at f;cases f;rw[jK e1 p] at j;exact⟨a,g,by rw[hx],.inl<|.inl j,bI k⟩
  |_=>cases e
theorem Ko (f:X.calm=true:=by rfl)(hm:X.mg "any"=J)(g:Gl X "any":=by rfl)(ha:SE X sf C ea a)(e:Me [ea] X.env=(L5,Tx ea X.env)::Me [] X.env:=by rfl)(d:(Mp pos<|Me [] X.env).any (·.1)=false:=by rfl):SE X sf C (.Call (.Name "any" p) [ea] [] pos) (.op .any h [a]):=
 aj (bA (rA f) g hm (by rfl) (slc ha sl0 e) (by decide) (by decide) e d) (dU Bc rfl)
theorem Az:Loc K 1 .int h λd H Q=>(∃i,d=[.int i]/\Q (.int i) H)\/∃k,d=[.bl k]/\Q (.int<|if k then 1 else 0) H:=by
 intro j w d Z H G Q g e r l o k
 match j,g with
 |[(m,a)],_=>
  obtain⟨x,rfl,f⟩:=bE rfl r;cases a with
  |int i=>cases e;exact .inl ⟨i,by rw[show x=_ from f],aF k⟩
  |bl b=>cases e;exact .inr ⟨b,by rw[show x=_ from f],by cases b<;>exact aF k⟩
  |_=>cases e
theorem HZ (hm:X.mg "int"=J)(f:Gl X "int":=by rfl)(ha:SE X sf C ea a)(e:Me [ea] X.env=(L5,Tx ea X.env)::Me [] X.env:=by rfl)(d:(Mp pos<|Me [] X.env).any (·.1)=false:=by rfl):SE X sf C (.Call (.Name "int" p) [ea] [] pos) (.op .int h [a]):=
 aj (dq ri f hm Q0 (slc ha sl0 e) (by decide) (by decide) e d) (dU Az rfl)
theorem AJ:Loc K 1 .abs h λd H Q=>∃i,d=[.int i]/\Q (.int<|if i<0 then -i else i) H:=by
 intro j w d Z H G Q f e r l o k
 match j,f with
 | [(m,a)],_ =>
  obtain⟨x,rfl,g⟩:=bE rfl r;cases a with
  |int i=>cases e;refine⟨i,by rw[show x=_ from g],?_⟩;rw[show(if i<0 then -i else i)=(i.natAbs:Int) by split<;>lia];exact aF k
  |_=>cases e
theorem Kf (hm:X.mg "abs"=J)(f:Gl X "abs":=by rfl)(ha:SE X sf C ea a)(e:Me [ea] X.env=(L5,Tx ea X.env)::Me [] X.env:=by rfl)(d:(Mp pos<|Me [] X.env).any (·.1)=false:=by rfl):SE X sf C (.Call (.Name "abs" p) [ea] [] pos) (.op .abs h [a]):=
 aj (bA w5 f hm S5 (slc ha sl0 e) (by decide) (by decide) e d) (dU AJ rfl)
theorem pA:∀{d:U Int} {m:Int},m∈d->(∀n∈d,n<=m)->M.maxI d=m
|[n],m,h,_=>(MZ.mp h).symm
| n::i::d,m,h,f=>by
 show max n (M.maxI (i::d))=m;rcases Mm.mp h with e|e
 .subst e
  have g:∀l:U Int,l≠[]->(∀x∈l,x<=m)->M.maxI l<=m:=by
   intro l;induction l with
   |nil=>intro z;exact Tg rfl z
   | cons y l j =>
    intro _ z;cases l with
    |nil=>exact z y ML
    |cons k l=>have:=j (by simp) λx hx=>z x<|MG _ hx;have:=z y ML;show max y (M.maxI (k::l))<=m;lia
  have:=g (i::d) (by simp) λx hx=>f x<|MG _ hx;lia
 .have:=pA e fun x hx=>f x<|MG _ hx;have:=f n ML;lia
theorem xC:Loc K 1 .max1 h λj H Q=>∃(a:S9) (f:U Int),j=[.ref a]/\SqL K H a (f.map V.int)/\f≠[]/\∀M,M∈f->(∀n∈f,n<=M)->Q (.int M) H:=by
 intro y w j Z H G Q u e r B D k
 match y,u with
 | [(m,a)],_ =>
  obtain⟨x,rfl,v⟩:=bE rfl r;cases a with
  | lst o =>
   obtain⟨a,j,hx,l,A,p⟩:=aM v;have g:((M.intsOf o).bind λf=>if f.isEmpty then J else O ((.d,.int (M.maxI f)):M.W))=O w:=e;cases e1:M.intsOf o with
   |none=>rw[e1] at g;cases g
   | some f =>
    rw[e1] at g;have e2:(if f.isEmpty=L7 then J else O ((.d,.int (M.maxI f)):M.W))=O w:=g;split at e2
    .cases e2
    .rename_i i;cases e2;rw[iO e1 p] at l;refine⟨a,f,by rw[hx],.inl<|.inl l,λz=>i<|by rw[z];rfl,λm s t=>?_⟩;rw[<- pA s t];exact aF k
  |_=>cases e
theorem BK (f:X.calm=true:=by rfl)(hm:X.mg "max"=J)(g:Gl X "max":=by rfl)(ha:SE X sf C ea a)(e:Me [ea] X.env=(L5,Tx ea X.env)::Me [] X.env:=by rfl)(d:(Mp pos<|Me [] X.env).any (·.1)=false:=by rfl):SE X sf C (.Call (.Name "max" p) [ea] [] pos) (.op .max1 h [a]):=
 aj (bA (sD f) g hm (by rfl) (slc ha sl0 e) (by decide) (by decide) e d) (dU xC rfl)
theorem fW {Z:Fp}{H:Hp}{G:Fp}{m:M.Md}{t:M.T}{x:V}(j:M.flatT t=L7)(r:Rep K Z H m t x G):ef x=L7/\∀(u:M.T) (y:V) {m':M.Md} {g:Fp},M.flatT u=L7->Rep K Z H m' u y g->eqV y x=M.eqT u t:=by
 cases t with
 |non=>cases r;refine⟨rfl,λu y m' g f d=>?_⟩;cases u<;>first|(cases d;rfl)|(obtain⟨e,_⟩:=d;cases e;rfl)|cases f
 |bl b=>cases r;refine⟨rfl,λu y m' g f d=>?_⟩;cases u<;>first|(cases d;rfl)|(cases d;cases b<;>rfl)|(obtain⟨e,_⟩:=d;cases e;rfl)|cases f
 |int i=>cases r;refine⟨rfl,λu y m' g f d=>?_⟩;cases u with
  |bl c=>cases d;cases c<;>rfl
  |_=>first|(cases d;rfl)|(obtain⟨e,_⟩:=d;cases e;rfl)|cases f
 |str z=>obtain⟨e,_⟩:=r;cases e;refine⟨rfl,λu y m' g f d=>?_⟩;cases u<;>first|(cases d;rfl)|(obtain⟨e,_⟩:=d;cases e;rfl)|cases f
 |_=>cases j
theorem nF {Z:Fp}{H:Hp}{G:Fp}{m:M.Md}{t:M.T}{x:V}(i:M.flatT t=L7)(r:Rep K Z H m t x G):∀{f:U M.T} {g:U V} {m':M.Md} {j:Fp},f.all M.flatT=L7->RepL K Z H m' f g j->g.all ef=L7/\L2.inV x g=f.any λu=>M.eqT u t
|[],_,_,_,_,h=>by cases h;exact⟨rfl,rfl⟩
|u::f,_,m',_,d,o=>by obtain⟨y,v,G1,G2,e,_,_,_,q,s⟩:=o;cases e;rw[MC,Mv] at d;obtain⟨k,l⟩:=nF i r d.2 s;refine⟨by rw[MC,(fW d.1 q).1,k];rfl,?_⟩;show(eqV y x || L2.inV x v)=_;rw[Mn,l,(fW i r).2 u y d.1 q]
theorem uQ {neg:Ta}{u v w:M.W}{o:M.Op}(ho:o=if neg then .notin else .isin)(e:M.oSem o h [u,v]=O w):∃f,M.elems v=O f/\M.flatT u.2=L7/\f.all M.flatT=L7/\w=(.d,.bl<|if neg then !f.any (λt=>M.eqT t u.2) else f.any λt=>M.eqT t u.2):=by
 obtain⟨m,a⟩:=u;obtain⟨n,b⟩:=v;subst ho;cases neg with
 |true=>
  obtain⟨f,j,g⟩:=Qt.mp<|show(M.elems (n,b)).bind (λf=>if(M.flatT a&&f.all M.flatT)=L7 then O ((.d,.bl<|!f.any λt=>M.eqT t a):M.W) else J)=O w from e;split at g
  .rename_i i;rw[Mv] at i;cases g;exact⟨f,j,i.1,i.2,rfl⟩
  .cases g
 |false=>
  obtain⟨f,j,g⟩:=Qt.mp<|show(M.elems (n,b)).bind (λf=>if(M.flatT a&&f.all M.flatT)=L7 then O ((.d,.bl<|f.any λt=>M.eqT t a):M.W) else J)=O w from e;split at g
  .rename_i i;rw[Mv] at i;cases g;exact⟨f,j,i.1,i.2,rfl⟩
  .cases g
theorem FL (g:Ta){o:M.Op}(ho:o=if g then .notin else .isin):Loc K 2 o h λf H Q=>∀x y,f=[x,y]->rIn K g x y H Q:=by
 intro N w f Z H G Q z e r A P k x y hx;subst hx;obtain⟨⟨m,a⟩,⟨n,b⟩,rfl⟩:=dD r.length.symm;obtain⟨G1,G2,D,F,d,i,t⟩:=bM r;obtain⟨B,e1,e2,e3,rfl⟩:=uQ ho e;cases b with
 |lst v=>cases e1;obtain⟨p,f,rfl,s,u,q⟩:=aM t;obtain⟨j,l⟩:=nF e2 i e3 q;refine⟨p,f,rfl,.inl<|.inl<|.inl s,(fW e2 i).1,j,?_⟩;rw[l];exact bI k
 |tup v=>cases e1;obtain⟨p,f,rfl,s,u,q⟩:=cO t;obtain⟨j,l⟩:=nF e2 i e3 q;refine⟨p,f,rfl,.inr s,(fW e2 i).1,j,?_⟩;rw[l];exact bI k
 |_=>cases e1
theorem fq (d:SE X sf C ea a)(f:SE X sf C eb b)(g:OF .In eb=false:=by rfl):SB X sf C (.Compare ea [.In] [eb] pos) (.op .isin h [a,b]):=cK rE d f g (aD<|FL L5 rfl) λu v w e=>by obtain⟨_,_,_,_,rfl⟩:=uQ (neg:=L5) rfl e;exact⟨_,rfl⟩
end
theorem rZ {X:Cx}:bW X (.type "range") (λc H Q=>∃j,c=[.int j]/\∀p,H p=J->Q (.ref p) (upd H p<|.rng 0 j)):=by intro b s f H c d Q a r h;obtain⟨j,rfl,q⟩:=h;obtain⟨u,rfl,t,rfl⟩:=cU r;refine call_range_1 ?_;exact⟨.ref s.heap.objs.size,upd H s.heap.objs.size<|.rng 0 j,a.laid (t':=s.toks+2) (λ_ _ e=>Heap.get?_push_of_some _ e) (Mi _) ⟨_,_,_,Heap.get?_push_size _ rfl⟩,rfl,q _ a.fresh⟩
section
variable {X:Cx}{sf sg:Y->I Y}{C:M.Call}{pos p p2 p3:Pos}{ea eb ec:Tq}{a b c:M.E}{h:Ta}{io:U Y}
theorem JG (hm:X.mg "list"=J)(x:X.mg "range"=J)(f:SE X sf C ea a)(g:X.calm=true:=by rfl)(hg:Gl X "list":=by rfl)(v:Gl X "range":=by rfl)
  (N:Me [.Call (.Name "range" p3) [ea] [] p2] X.env=(L5,Tx (.Call (.Name "range" p3) [ea] [] p2) X.env)::Me [] X.env:=by rfl) (B:(Mp pos<|Me [] X.env).any (·.1)=false:=by rfl)
  (n:Me [ea] X.env=(L5,Tx ea X.env)::Me [] X.env:=by rfl) (i:(Mp p2<|Me [] X.env).any (·.1)=false:=by rfl) {p4:Pos}:
  SE X sf C (.Call (.Name "list" p4) [.Call (.Name "range" p3) [ea] [] p2] [] pos) (.op .rng h [.cst<|.int 0,a]):=
 aj (dq (oi g) hg hm Pg (bf (dq rZ v x SX (bf f cI n) (by decide) (by decide) n i) cI N) (by decide) (by decide) N B) fun σ H Q hw=>by
  obtain⟨pv,Z,P,η,w,D,A,ev,k⟩:=hw;obtain⟨ws,h1,G⟩:=b8 ev;obtain⟨⟨m,u⟩,η1,us,e1,e2,rfl⟩:=aq h1;obtain⟨⟨m',u'⟩,η2,us,e3,e4,rfl⟩:=aq e2;cases e4;cases e1;cases u' with
  | int j =>
   have t:(if(decide ((0:Int).natAbs<4611686018427387904)&&decide (j.natAbs<4611686018427387904)&&M.fits (j-0).toNat)=L7 then O ((.d,.lst ((Mj (j-0).toNat).map λ(k:Y)=>M.T.int (0+k))):M.W) else J)=O w:=G;split at t
   .rename_i g;rw[Mv,Mv,Tj,Tj] at g;cases t;refine⟨pv,Z,P,η,(m',.int j),D,A,e3,λy F s Fs2 G2 r r2 s2=>?_⟩;cases r2;refine⟨j,rfl,λp hp=>⟨p,0,j,rfl,ah,⟨by lia,by lia,by lia,by lia⟩,cw (cM g.2),λl hl=>?_⟩⟩;have sm:=fT (o:=.rng 0 j) hp;have ow:Own F (upd s p (.rng 0 j)) G2:=λa f=>by obtain⟨z1,ys,z2⟩:=r.own a f;exact⟨z1,ys,sm a _ z2⟩
    have za:∀a,F a->upd s p (.rng 0 j) a≠none:=λa f q=>by
     cases e:s a with
     |none=>exact r.gd.zal a f e
     |some o=>rw[sm a o e] at q;cases q
    have kk:=mF sm<|cH r s2 k;refine cW (m:=.d) (G':=no) ow za (λ_ z=>z.elim) ?_ ?_ (by simp) kk hl
    .rw[Mg,NZ];exact cM g.2
    .have q1:((Mj (j-0).toNat).map fun (k:Y)=>M.T.int (0+(k:Int)))=((Mj (j-0).toNat).map fun (k:Y)=>0+(k:Int)).map M.T.int:=by rw [NK]; rfl
     have q2:((Mj (j-0).toNat).map λ(k:Y)=>V.int (0+(k:Int)))=((Mj (j-0).toNat).map λ(k:Y)=>0+(k:Int)).map V.int:=by rw[NK];rfl
     rw[q1,q2];exact iu _
   .cases t
  |_=>cases G
end
section
variable {X:Cx}{sf sg:Y->I Y}{C:M.Call}{pos p p2 p3:Pos}{ea eb ec:Tq}{a b c:M.E}{h:Ta}{io:U Y}{K:L9}
theorem C2 {x y:Int}(h:y.natAbs<18446744073709551616):Builtin.divisionGoesByPylong x y=false:=by
 refine PyProof.noPylong_of_log2 ?_;by_cases d:y.natAbs=0
 .rw[d];decide +kernel
 .have e:y.natAbs.log2<64:=(Nat.log2_lt d).mpr h;lia
theorem xt:OpR X (M6 .FloorDiv) (rI (λ_ j=>j≠0/\j.natAbs<18446744073709551616) λi j=>.int<|i.fdiv j):=opI λ_ _ _ _ _ _ _ d q=>floordiv_int d.1 q<|.inl<|C2 d.2
theorem rJ:Loc K 2 .fdivN h λl H Q=>∀x y,l=[x,y]->rI (λ_ j=>j≠0/\j.natAbs<18446744073709551616) (λi j=>.int<|i.fdiv j) x y H Q:=by
 intro A w l Z H G Q t e r u B k x y hx;subst hx;obtain⟨⟨m,a⟩,⟨n,b⟩,rfl⟩:=dD r.length.symm;obtain⟨G1,G2,v,z,d,o,s⟩:=bM r;cases a<;>first|(cases e;done)|(cases b<;>try (cases e;done))
 rename_i i j;have f:(if((j != 0)&&decide (j.natAbs<18446744073709551616))=L7 then O ((.d,.int (i.fdiv j)):M.W) else J)=O w:=e;split at f
 .rename_i g;rw[Mv,Tj,bne_iff_ne] at g;cases f;exact⟨i,j,o,s,g,aF k⟩
 .cases f
theorem uo:Loc K 2 .modN h λl H Q=>∀x y,l=[x,y]->rI (λ_ j=>j≠0) (λi j=>.int<|i.fmod j) x y H Q:=by
 intro A w l Z H G Q t e r u B k x y hx;subst hx;obtain⟨⟨m,a⟩,⟨n,b⟩,rfl⟩:=dD r.length.symm;obtain⟨G1,G2,v,z,d,o,s⟩:=bM r;cases a<;>first|(cases e;done)|(cases b<;>try (cases e;done))
 rename_i i j;have f:(if(j != 0)=L7 then O ((.d,.int (i.fmod j)):M.W) else J)=O w:=e;split at f
 .rename_i g;rw[bne_iff_ne] at g;cases f;exact⟨i,j,o,s,g,aF k⟩
 .cases f
theorem xy (d:SE X sf C ea a)(e:SE X sf C eb b):SE X sf C (.BinOp ea .FloorDiv eb pos) (.op .fdivN h [a,b]):=aj (ek xt d e)<|aD rJ
theorem Kh (d:SE X sf C ea a)(e:SE X sf C eb b):SE X sf C (.BinOp ea .Mod eb pos) (.op .modN h [a,b]):=aj (ek zB d e)<|aD uo
end
section
variable {X:Cx}{sf sg:Y->I Y}{C:M.Call}{pos p p2 p3:Pos}{ea eb ec:Tq}{a b c:M.E}{h:Ta}{io:U Y}{K:L9}
theorem Ef {d:Ta}{g:U Str}{m:L2.St}{H:Hp}{Q:Ta->Hp->Prop}(y:wT K sf C (.inT d g a) m H Q):wE K sf C (.inT d g a) m H λx f=>∃k,x=.bl k/\Q k f:=by obtain⟨pv,Z,n,l,w,i,b,A,ev,j,k⟩:=y;refine⟨pv,Z,n,l,w,i,A,ev,λv o f e G B r s=>?_⟩;obtain⟨⟨u,D⟩,F,t⟩:=ae<|show(M.evE C a l).bind (M.kIn d g)=_ from ev;obtain⟨z,e1,e2,e3⟩:=lH t;rw[show w=_ from e3] at j r;cases j;exact⟨_,r,k o f e B.bare<|s.mono (λ_ z=>z) λ_ z=>.inl z⟩
theorem AA {x:Str}{f:U Str}(T:xS X.K X.w X.mg x f)(m:SE X sf C ea a)(t:Gl X x:=by rfl)(o:(x==("__debug__":Str))=false:=by decide)(n:OF .In (.Name x p2)=false:=by rfl):SB X sf C (.Compare ea [.In] [.Name x p2] pos) (.inT L5 f a):=by obtain⟨ad,T',u,D,y⟩:=T;refine kf (pC wy m (uU t u o) n) λP H Q F=>?_;obtain⟨pv,Z,g,N,M,e,A,ev,k⟩:=DW D y P H _<|Ef F;refine⟨pv,Z,g,N,M,e,A,ev,λv l i d G B r s=>?_⟩;obtain⟨z,a,j,e1,e2,e3,q⟩:=k v l i d G B r s;rw[Nx] at q;exact⟨z,a,j,e1,e2,e3,q⟩
end
end MR




namespace L3
open PySem PySem.Spec PyProof.Rows L2
theorem gj:∀{a:U Int} {b:U L},TN b a->Vals (a.map V.int) b
|_,_,.nil=>.nil
|_,_,.cons n t h=>.cons ⟨t,rfl⟩<|gj h
theorem oK {X:Cx}:bW X (.builtin "sorted") (λl H Q=>∃(a:S9) (d:U Int),l=[.ref a]/\SqL X.K H a (d.map V.int)/\d.length<64/\∀c:U Int,c.Perm d->c.Pairwise (·<=·)->∀p,H p=J->Q (.ref p) (upd H p<|.lst<|c.map V.int)):=by intro k s B H l A Q b r h;obtain⟨a,d,rfl,t,o,q⟩:=h;obtain⟨u,rfl,x⟩:=cU r;cases x;obtain⟨f,y,p,z⟩:=b.list t;have i:=cq y;have j:f.length=d.length:=IntsAre.length i;refine sorted_ints p.isList i (by lia) λout c m g n=>?_;obtain⟨e,v⟩:=sortedAll_at s.heap f out;have w:c.length=d.length:=g.length_eq;refine⟨.ref<|s.heap.objs.size+1,upd H (s.heap.objs.size+1)<|.lst<|c.map V.int,b.laid (t':=s.toks) (λ_ _=>sortedAll_old) (N8 _) ⟨by rw[Mg,NA];lia,out.toList,e,gj m,by rw[v,Rn]⟩,rfl,q _ g n _<|b.hok.fresh<|N8 _⟩
end L3
namespace MR
open PySem PySem.Spec PyProof.Rows L2 L3
section
variable {X:Cx}{sf sg:Y->I Y}{C:M.Call}{pos p p2 p3:Pos}{ea eb ec:Tq}{a b c:M.E}{h:Ta}{n:Y}{io:U Y}{K:L9}
theorem qD (x:Int):∀l:U Int,l.Pairwise (·<=·)->(M.insI x l).Perm (x::l)/\(M.insI x l).Pairwise (·<=·)
|[],_=>⟨.refl _,SV _ _⟩
| y::i,hp=>by
 obtain⟨g,j⟩:=Pk.mp hp;obtain⟨a,b⟩:=qD x i j;unfold M.insI;split
 .rename_i d;exact⟨.refl _,Pk.mpr ⟨λz f=>(Mm.mp f).elim (λe=>e ▸ d) λf=>RT d<|g z f,hp⟩⟩
 .rename_i d;refine⟨(a.cons y).trans (.swap x y i),Pk.mpr ⟨λz f=>?_,b⟩⟩;rcases Mm.mp (a.mem_iff.mp f) with rfl|f
  .omega
  .exact g z f
theorem fQ:∀l:U Int,(M.sortI l).Perm l/\(M.sortI l).Pairwise (·<=·)
|[]=>⟨.refl _,.nil⟩
|x::l=>by obtain⟨a,b⟩:=fQ l;obtain⟨c,d⟩:=qD x _ b;exact⟨c.trans<|a.cons x,d⟩
theorem vI {d e:U Int}(g:e.Perm d)(i:e.Pairwise (·<=·)):e=M.sortI d:=
 List.Perm.eq_of_pairwise (le:=λa b:Int=>a<=b) (λa b _ _ h f=>Int.le_antisymm h f) i (fQ d).2 (g.trans (fQ d).1.symm)
end
end MR

namespace MR
open PySem PySem.Spec PyProof.Rows L2 L3
section
variable {X:Cx}{sf sg:Y->I Y}{C:M.Call}{pos p p2 p3:Pos}{ea eb ec:Tq}{a b c:M.E}{h:Ta}{n:Y}{io:U Y}{K:L9}
theorem wN {Z:Fp}{H:Hp}{G:Fp}{m:M.Md}:∀{d:U M.T} {j:U Str} {f:U V},M.strsOf d=O j->RepL K Z H m d f G->f=j.map V.str:=by
 intro d;induction d generalizing G with
 |nil=>intro g f e r;cases e;exact r
 | cons t d k =>
  intro g f e r;obtain⟨x,o,G1,G2,rfl,_,_,_,p,q⟩:=r;cases t with
  | str i =>
   cases e1:M.strsOf d with
   |none=>simp[M.strsOf,e1] at e
   |some l=>
    have:g=i::l:=by simpa[M.strsOf,e1] using e.symm
    subst this;rw[ME,<- k e1 q,show x=.str i from p.1]
  |_=>cases e
end
end MR


namespace TP
open PySem PySem.W
def en (P:MM)(k:Str)(t:Y)(v:L):TH:=⟨PyData.keyHash P k,.str k t,v⟩
def tu (a:U L):Obj:=⟨.type "tuple",J,.seq a.toArray 0,#[]⟩
def fe (a:U L):Obj:=⟨.none,J,.fields a.toArray,#[]⟩
noncomputable def di (a:U TH)(n:Y):Obj:=⟨.type "dict",J,.dict a.toArray n,#[]⟩
abbrev fl:Str:="/claim/cut.py"
def iv (i:Int):L:=.int i 0
def cdo (n q:Str)(t d:Y)(c e:Y)(f:Y)(a:Y)(b:Ta)(x y z:L):Obj:=
 ⟨.type "code",J,.fields #[.str n t,.str q<|t+1,.str fl<|t+2,iv c,iv e,iv 0,iv 0,iv f,.ref a,.bool b,iv 181,.ref<|a+1,.none,x,y,z,iv d,iv c,.str fl<|d+1],#[]⟩
def ofn (c:L)(f:Tz)(q:Str)(g:Y)(d m:L)(e:L):Obj:=match f with
|.FunctionDef n a b _ _ _ sc _ _ _=>⟨c,J,.func {name:=n,qualname:=q,params:=a,body:=.stmts b,scope:=sc,globals:=g,closure:=[],defaults:=d,kwdefaults:=.none,pyModule:=m,code:=e},#[]⟩
|_=>default
def tks:U Str->Y->U L
|[],_=>[]
|x::r,t=>.str x t::tks r (t+1)
structure R where
 os:U Obj
 ns:U TH
 tb:U L
 n:Y
 tk:Y
 md:L
 ss:U TH
inductive Rc where
 |d|m|c
 |x (k:Str) (kt:Y) (v:L) (os:MM->U Obj) (tb:U L) (n tk:Y)
 |y (k:Str) (kt:Y) (v:L) (os:MM->U Obj) (tb:U L) (n tk:Y) (ss:MM->U TH)
def cv:Tq->L
|.Constant (.bool b) _ _=>.bool b
|_=>.none
def dO (P:MM)(n tk:Y)(md:L)(d:Tz):R:=match d with
| .FunctionDef nm e b _ _ _ sc _ _ c =>
 let pr:U Obj×L×Y:=match e.defaults with
  |[]=>([],.none,n)
  |ds=>([tu<|ds.map cv],.ref n,n+1)
 let a:=pr.2.2
 match localNames e sc (.stmts b) with
 | none=>⟨pr.1++[tu [],fe [],ofn .none d nm 0 .none .none .none,cdo nm nm tk (tk+3) c.line e.args.length 3 a L7 .none .none (.ref (a+2)),ofn (.type "function") d nm 3 pr.2.1 md (.ref (a+3))],
   [en P nm (tk+5)<|.ref<|a+4],[iv c.line,iv c.col,.ref<|a+3],a+5,tk+6,md,[]⟩
 | some l =>
  let k:=l.1.length;let j:=l.2.length
  ⟨pr.1++[tu [],fe [],tu (tks l.1 (tk+3)),tu (tks l.2 (tk+3+k)),ofn .none d nm 0 .none .none .none,cdo nm nm tk (tk+3+k+j) c.line e.args.length 3 a L7 (.ref (a+2)) (.ref (a+3)) (.ref (a+4)),ofn (.type "function") d nm 3 pr.2.1 md (.ref (a+5))],
   [en P nm (tk+5+k+j)<|.ref<|a+6],[iv c.line,iv c.col,.ref<|a+5],a+7,tk+6+k+j,md,[]⟩
|_=>⟨[],[],[],n,tk,md,[]⟩
def one (P:MM)(n tk:Y)(md:L)(f:Tz):Rc->R
|.d=>dO P n tk md f
|.m=>match f with
 |.Assign _ (.Constant (.str s) _ _) _=>⟨[],[],[],n,tk+2,.str s tk,[]⟩
 |_=>⟨[],[],[],n,tk,md,[]⟩
|.c=>match f with
 |.Assign (.Name x _::_) (.Constant (.str s) _ _) _=>⟨[],[en P x (tk+1)<|.str s tk],[],n,tk+2,md,[]⟩
 |.Assign (.Name x _::_) (.Constant (.int i) _ _) _=>⟨[],[en P x (tk+1)<|.int i tk],[],n,tk+2,md,[]⟩
 |_=>⟨[],[],[],n,tk,md,[]⟩
|.x k b v os g e a=>⟨os P,[en P k b v],g,e,a,md,[]⟩
|.y k b v os g e a h=>⟨os P,[en P k b v],g,e,a,md,h P⟩
def go (P:MM):U (Tz×Rc)->Y->Y->L->U R
|[],_,_,_=>[]
|(a,r)::l,n,tk,md=>let x:=one P n tk md a r
 x::go P l x.n x.tk x.md
def I9 (x:R):U R->R
|[]=>x
|y::l=>I9 y l
def ds:Data->U TH
|.dict a _=>a.toList
|_=>[]
noncomputable def ep:Data->Y
|.dict _ n=>n
|_=>0
def r0:R:=⟨[],[],[],15,187,.str "__main__" 164,[]⟩
def rs (P:MM)(l:U<|Tz×Rc):U R:=go P l 15 187<|.str "__main__" 164
def o3 (P:MM)(l:U R):Obj:=di (en P "__name__" 165 (I9 r0 l).md::((ds (boot_o_3 P).data).tail++l.flatMap R.ns))<|ep (boot_o_3 P).data+(l.flatMap R.ns).length
noncomputable def o2 (P:MM):U TH->Obj
|[]=>boot_o_2 P
|es=>⟨.none,J,.dict es.toArray es.length,#[]⟩
def os (P:MM)(l:U R):U Obj:=
 boot_o_0 P::boot_o_1 P::o2 P (l.flatMap R.ss)::o3 P l::boot_o_4 P::boot_o_5 P::boot_o_6 P::boot_o_7 P::boot_o_8 P::boot_o_9 P::boot_o_10 P ::
 tu []::fe (l.flatMap R.tb)::cdo "<module>" "<module>" 182 185 1 0 0 11 L5 .none .none .none ::
 ⟨.type "frame",J,.plain,#[O<|.ref 13,O<|.ref 3,O<|.ref 3,J,O<|.str "__main__" 164,J,O<|.ref 0]⟩::l.flatMap R.os
def odd {a:Type}:U a->U a×U a
|[]=>([],[])
|x::l=>(x::(odd l).2,(odd l).1)
noncomputable def bt:Y->U Obj->BT
|0,_=>.nil
|_+1,[]=>.nil
|k+1,x::l=>.node x (bt k (odd l).1)<|bt k (odd l).2
noncomputable abbrev p0:Pos:=⟨0,0,0,0⟩
abbrev B0:U Frame:=[topFrame p0]
abbrev an:I L:=O<|.ref 6
noncomputable def ev (p:Td):Env:={scope:=p.main.scope,locals:=mainNs,globals:=mainNs,cells:=[],code:=.ref 13,frame:=O 14}
def cE (p:Td):Code:=.body (Py p)<|ev p
def sT (p:Td)(rc:U Rc)(P:MM)(m n tk:Y)(o:OD):SharedT:=⟨bt 12<|os P<|rs P<|(p.main.body.zip rc).take m,n,{},#[],{},tk,o⟩
def hp (p:Td)(rc:U Rc)(m n:Y)(P:MM):To:=absHeap (bt 12<|os P<|rs P<|(p.main.body.zip rc).take m) n {}
def Cut (p:Td)(rc:U Rc)(i n t:Y)(c:Pos)(k N b d:Y)(a:Pos)(w:Mc):Prop:=∀o,segRunT Oj p w 11 an 1 N (sT p rc w.params i n t o) (piecesOf ((p.main.body.drop i).take k) (ev p) (cE p) c B0)=O (.next,sT p rc w.params (i+k) b d o,cE p,a)
def Ch (p:Td)(rc:U Rc)(m a c:Y)(i n t:Y)(b:Pos)(M:Y):Prop:=∀w o,topRun Oj p w 11 an M (sT p rc w.params i n t o).abs (restOf (p.main.body.drop i) (ev p) (cE p) b B0)=O (sT p rc w.params m a c o).abs
theorem bb {p:Td}{rc:U Rc}{m d g i n t k N b f M:Y}{e a:Pos}(c:∀w,Cut p rc i n t e k N b f a w)(h:Ch p rc m d g (i+k) b f a M):Ch p rc m d g i n t e (N+M):=λw o=>by have x:=piece_app (segRun_of<|c w o)<|h w o;rw[<- QW,PX] at x;exact x
theorem EF {p:Td}{rc:U Rc}{m a b:Y}{d:Pos}(c:p.main.body.drop m=[]):Ch p rc m a b m a b d 2:=λw o=>by rw[c];exact piece_nil rfl
theorem BC (w:Mc):((Nr w.params).isNs Ml&&(Qc []:Tv OX).size==0,(Nr w.params).objs.size,(Nr w.params).nsMap Ml "__annotations__")=(L7,11,an):=by kernel_rfl
theorem yf {p q:Td}{a:U Str}{Xt:L8->Ta}{l:Type}{j:L8->l}{i:Mc->l}{N M m b h:Y}{rc:U Rc}
  (e:opening p=plainProg p.main.scope.names) (n:Nat.ble 600 N=L7) (f:∀s,fenceModules? p s=O s) (r:Py p=p.main.body)
  (g:∀w:Mc,((Nr w.params).isNs Ml&&(Qc []:Tv OX).size==0,(Nr w.params).objs.size,(Nr w.params).nsMap Ml "__annotations__")=(L7,11,an))
  (pre:∀(w:Mc) (o:OD),topGo Oj p w 11 an 12 ⟨Nr w.params,Qc [],boot_drawn,boot_toks,o⟩ (topStub p)=O ((sT p rc w.params 0 15 187 o).abs,⟨denote Oj<|cE p,cE p,p0,B0⟩))
  (blk:∀(w:Mc) (o:OD),segRun Oj p w 11 an 1 1 (sT p rc w.params 0 15 187 o).abs (blockOf (Py p) (ev p) (cE p) p0 B0)=O (.next,(sT p rc w.params 0 15 187 o).abs,cE p,p0))
  (ch:Ch p rc m b h 0 15 187 p0 M) (le:Nat.ble (12+(1+M)) N=L7)
  (c:∀w:Mc,(λo=>((staticsOk (P7 p.main.body) (Nr w.params) (hp p rc m b w.params)&&namesBound p (hp p rc m b w.params)&&gensDone ⟨hp p rc m b w.params,#[],{},h,o⟩&&laidKept (Nr w.params) (hp p rc m b w.params)),
    openSeen q a (P7 p.main.body) Xt L7 ⟨hp p rc m b w.params,#[],{},h,o⟩,j ⟨hp p rc m b w.params,#[],{},h,o⟩))=λ_=>(L7,openGood q a,i w)):LeftO p q a Xt j i N:=
 LeftO.of_pieces (H₀:=Nr) (H₁:=hp p rc m b) (gs₁:=#[]) (d₁:={}) (k₁:=h) (boot_open e n f) g
  (λw o=>go_top (pre w o)<|piece_block (blk w o) (by have x:=ch w o;rw[OU,<- r] at x;exact x)) le c
noncomputable def cb (a:Tz)(j:Y):Tz:=match a with
|.ClassDef _ _ _ b _ _ _ _ _ _ _=>b.getD j a
|_=>a
noncomputable def drec (d:Tz):PySem.DefRec:=match d with
|.FunctionDef n a b _ _ _ sc _ _ c=>⟨n,a,b,sc,c⟩
|_=>⟨default,default,[],default,default⟩
theorem gW {a:Type}:∀(l:U a) (i:Y),(odd l).1[i]?=l[2 * i]?/\(odd l).2[i]?=l[2 * i+1]?
|[],i=>by simp[odd]
| x::l,i=>by
 refine⟨?_,?_⟩
 .cases i with
  |zero=>simp[odd]
  |succ j=>rw[show 2 * (j+1)=2 * j+1+1 by lia];simp only[odd,M1];exact(gW l j).2
 .simp only[odd,M1];exact(gW l i).1
theorem qo {a:Type}:∀(l:U a),(odd l).1.length=(l.length+1) / 2/\(odd l).2.length=l.length / 2
|[]=>by simp[odd]
|x::l=>by have h:=qo l;simp only[odd,Mw,h.1,h.2];exact⟨by lia,trivial⟩
theorem oa:∀(k:Y) (l:U Obj) (a:Y),l.length<2 ^ k->(bt k l).get a=l[a]?
|0,l,a,h=>by have:l=[]:=List.length_eq_zero_iff.mp (by simpa using h);subst this;simp[bt,BT.get]
|k+1,[],a,h=>by simp[bt,BT.get]
| k+1,x::l,a,h=>by
 have e:2 ^ (k+1)=2 * 2 ^ k:=by rw[Nat.pow_succ];lia
 have f:=qo l;simp only[Mw] at h;unfold bt;rw[BT.get_node];by_cases c:a=0
 .simp[c]
 .rw [Ti c];by_cases d:a % 2=1
  .rw [Tf d,oa k _ _<|by lia,(gW l<|a / 2).1];obtain⟨b,rfl⟩:∃b,a=b+1:=⟨a-1,by lia⟩;rw[M1];congr 1;lia
  .rw [Ti d,oa k _ _<|by lia,(gW l<|a / 2-1).2];obtain⟨b,rfl⟩:∃b,a=b+1:=⟨a-1,by lia⟩;rw[M1];congr 1;lia
def lL (p:Td)(rc:U Rc)(m:Y)(P:MM):U Obj:=os P<|rs P<|(p.main.body.zip rc).take m
def kK (p:Td)(rc:U Rc)(m:Y)(as:U S9)(P:MM):Frag:=as.map λa=>(a,(lL p rc m P).getD a default)
noncomputable def okO:I Obj->Ta
|some ⟨_,_,.freed,_⟩=>L5
|some _=>L7
|none=>L5
theorem qr {p:Td}{rc:U Rc}{m:Y}{P:MM}{a:S9}{o:Obj}:∀{as:U S9},(kK p rc m as P).lookup a=O o->a∈as/\o=(lL p rc m P).getD a default
|[],h=>by simp[kK] at h
| b::as,h=>by
 unfold kK at h;rw[ME,M5] at h;by_cases e:a=b
 .subst e;rw[Tp] at h;exact⟨ML ..,(MY h).symm⟩
 .rw [TJ e] at h;have x:=qr (as:=as) h;exact⟨MG _ x.1,x.2⟩
def hkk (p:Td)(rc:U Rc)(m n:Y):Hook where
 α:=Tv Obj
 obs s:=s.heap.objs
 val w:=(hp p rc m n w.params).objs
 says w h:=∀a o,(hp p rc m n w.params).get? a=O o->h.get? a=O o
 of w s e a o x:=by unfold Heap.get? at *;rw[e];exact x
 keeps w h h' X k a o x:=k _ _<|X a o x
theorem KG {p:Td}{rc:U Rc}{m n:Y}{as:U S9}{w:Mc}{h:To}(l:Nat.blt (lL p rc m w.params).length 4096=L7)(k:(as.all λa=>Nat.blt a n&&okO (lL p rc m w.params)[a]?)=L7)
  (b:(hkk p rc m n).says w h):(kK p rc m as w.params).In h:=λa o e=>by
 obtain⟨e1,e2⟩:=qr e;obtain⟨f,c⟩:=Ng.mp<|Nd.mp k a e1;refine b a o ?_;have i:a<n:=R1 f;have j:(lL p rc m w.params).length<2 ^ 12:=R1 l;have g:=oa 12 (lL p rc m w.params) a j;unfold hp Heap.get?;rw[absHeap_at,Tf i];show(match O (((bt 12<|lL p rc m w.params).get a).getD default) with|some ⟨_,_,.freed,_⟩=>J|o=>o)=O o;rw[g];rw[Nm] at e2;rw[<- e2];cases q:(lL p rc m w.params)[a]? with
 |none=>rw[q] at c;cases c
 |some x=>rw[q] at c e2;have e3:o=x:=e2;subst e3;obtain⟨_,_,d,_⟩:=o;cases d<;>first|rfl|cases c
noncomputable def pmO:I Obj->L
|some ⟨_,_,.func f,_⟩=>f.pyModule
|_=>.none
def rfO:I (I L)->Y
|some (O (.ref a))=>a
|_=>0
def tkO:I (I L)->Y
|some (O (.int _ t))=>t
|some (O (.str _ t))=>t
|_=>0
theorem raw_mk {K:Frag}{x:Str}{a:Tz}{dV:L}(b:Uc K Ml x=O (O<|.ref<|rfO<|Uc K Ml x))
  (c:K.lookup (rfO<|Uc K Ml x)=O ⟨.type "function",J,.func<|fnOf x x (L2.defArgs a) (L2.defBody a) (L2.defScope a) dV .none .none (pmO<|K.lookup<|rfO<|Uc K Ml x) J (.ref<|rfO (Uc K Ml x)-1) .none,#[]⟩)
  (d:codeIn K (.ref<|rfO (Uc K Ml x)-1) x=L7) (e:keepIn K (.ref<|rfO<|Uc K Ml x)=L7):MR.Raw K x a dV:=⟨_,_,_,_,_,_,_,_,_,_,b,c,d,e⟩
noncomputable def toV:L->L2.V
|.bool b=>.bl b
|.int i _=>.int i
|.str s _=>.str s
|.ref a=>.ref a
|_=>.non
noncomputable def okV:L->Ta
|.none=>L7
|.bool _=>L7
|.int _ _=>L7
|.str _ _=>L7
|.ref _=>L7
|_=>L5
theorem Bp:∀{v:L},okV v=L7->L2.RelV (toV v) v
|.none,_=>rfl
|.bool _,_=>rfl
|.int _ _,_=>⟨_,rfl⟩
|.str _ _,_=>⟨_,rfl⟩
|.ref _,_=>rfl
|.ellipsis,h=>by cases h
|.notImplemented,h=>by cases h
|.float _ _,h=>by cases h
|.bytes _ _,h=>by cases h
|.type _,h=>by cases h
|.builtin _,h=>by cases h
def eK (e:TH):Str×Y×L:=match e.key with
|.str k t=>(k,t,e.val)
|_=>("",0,e.val)
def tE:I Obj->U (Str×Y×L)
|some o=>(ds o.data).map eK
|none=>[]
def tN:I Obj->Y
|some o=>ep o.data
|none=>0
def enL (P:MM)(l:U<|Str×Y×L):U TH:=l.map λe=>en P e.1 e.2.1 e.2.2
def tL (l:U<|Str×Y×L):U (Str×L2.V):=l.map λe=>(e.1,toV e.2.2)
theorem m7 {P:MM}:∀l:U<|Str×Y×L,KeysLit P<|enL P l
|[]=>trivial
|e::l=>⟨⟨_,_,rfl,rfl⟩,m7 l⟩
theorem mx {P:MM}:∀{l:U<|Str×Y×L},(l.all λe=>okV e.2.2)=L7->PySem.Paired (λ(p:Str×L2.V) (e:TH)=>(∃t,e.key=.str p.1 t)/\L2.RelV p.2 e.val) (tL l) (enL P l)
|[],_=>.nil
|e::l,h=>by rw[MC,Ng] at h;exact .cons ⟨⟨_,rfl⟩,Bp h.1⟩<|mx h.2
theorem tab_mk {K:Frag}{w:Mc}{x:Str}(a:Uc K Ml x=O (O<|.ref<|rfO<|Uc K Ml x))
  (b:K.lookup (rfO<|Uc K Ml x)=O (di (enL w.params<|tE<|K.lookup<|rfO<|Uc K Ml x)<|tN<|K.lookup<|rfO<|Uc K Ml x))
  (c:((tE<|K.lookup<|rfO<|Uc K Ml x).all λe=>okV e.2.2)=L7) (d:(rfO (Uc K Ml x)==Ni)=L5):MR.TabRaw K w x (tL<|tE<|K.lookup<|rfO<|Uc K Ml x):=
 ⟨_,_,_,a,b,m7 _,mx c,d⟩
def Fx (K:Frag)(T:U<|Str×L2.V):U (Str×Str)->Ta
|[]=>L7
|e::r=>(match T.lookup e.1,Uc K Ml e.2 with
 |some (.ref a),O (O (.ref b))=>Ol a b
 |_,_=>L5)&&Fx K T r
theorem nam_of {K:Frag}{T:U<|Str×L2.V}:∀{l:U<|Str×Str},Fx K T l=L7->MR.NamL K T l
|[],_=>trivial
| e::r,h=>by
 unfold Fx at h;rw[Ng] at h;refine⟨?_,nam_of h.2⟩;have c:=h.1;split at c
 .rename_i a b d f;have e:=QZ c;subst e;exact⟨_,d,f⟩
 .cases c
end TP

namespace MR
open PySem PySem.Spec PyProof.Rows L2 L3
theorem walkX {sx:Str}{C:M.Call}{ix k:Y}{l:QR}{q:Td}{c:U Str}{t:(Str->I L)->To->Prop}{j:Mc->To->Prop}{d:DefRec}{K:MM->L9}(hp:∀g:U Int,g.length<=63->∃m bs,C ix [(.d,.scr g)]=.ok ((m,.bl L7),bs))(B:l.most=O 63)(i:d.params.defaults=[])(D:Room k Oc)
  (A:∀(w:Mc) (h:To),j w h->(K w.params).In h)
  (F:∀ (w:Mc) (e:Str->I L) (o:S9) (h:To),(K w.params).In h->h.Ns Ml e->e d.name=O (.ref o) ->
   ∃p:MK,(∀(s:L8) (u:L),Oe s p ⟨[u],[]⟩ [(sx,u)])/\∀b:To,(K w.params).In b->b.Ns Ml e->FnOk l.prog w (K w.params) e b CX0 k o p [sx] (spS (K w.params) C ix [])):
  RC q c t j l.row.toRowW d [] (λf G=>QD f G):=
 L2.walk_of (n:=63) (k:=k) (x:=sx) (CX:=λ_=>CX0) (sp:=λw=>spS (K w.params) C ix []) B (by decide) i D A F (λ_ _ a g r v y=>Fd (hp g r) r v y) λ_ _ _ _ _ z=>z
theorem zj {d:Str}{w:Mc}{K:L9}{c:Str->I L}{st:Tz}{h:To}{n:S9}{pr:Td}{k:Y}{o:Sp}(X:K.In h)(G:h.Ns Ml c)(l:c "law"=O (.ref n))(r:Raw K "law" st .none)(y:∀(kV j m:L) (an:I S9) (g i:L) (s:L8) (v:L),Oe s (Nh "law" "law" (defArgs st) (defBody st) (defScope st) .none kV j m an g i) ⟨[v],[]⟩ [(d,v)])
  (ok:∀f b,Fun K "law" "law" st f b->∀a,FnOk pr w K c a CX0 k f b [d] o):∃b:MK,(∀(s:L8) (v:L),Oe s b ⟨[v],[]⟩ [(d,v)])/\∀a:To,K.In a->a.Ns Ml c->FnOk pr w K c a CX0 k n b [d] o:=by
 obtain⟨f,z,A,B,kV,j,m,an,g,i,p,t,u,x⟩:=r;have e:=l.symm.trans<|N6 X G p;cases e;exact⟨_,y kV j m an g i,λa _ _=>ok _ _ (uB (st:=st) t u x) a⟩
end MR


namespace L3
open PySem PySem.Spec PyProof.Rows L2
noncomputable abbrev eT1 (h:To)(a:S9):To:=h.push {cls:=.type "tuple_iterator",data:=.fields #[.ref a,.int 0 0]}
abbrev eT2 (h:To)(a:S9):To:=(eT1 h a).push {cls:=.type "enumerate",data:=.fields #[.none,.bool L5,.ref h.objs.size,Nk 0,.none,.none]}
theorem E6 {e:Type}{c:Prop}[Decidable c]{M:Ud}{A:Mh}{E:L->L8->Prop}{s:L8}{a b:Sem e}{Q:e->L8->Prop}(f:Tc M A a Q E s)(g:Tc M A b Q E s):Tc M A (if c then a else b) Q E s:=by
 by_cases d:c
 .rw[Tf d];exact f
 .rw[Ti d];exact g
theorem mO (a:S9)(c:Tv L):
  Meets (Ob.«enumerate.__new__» ⟨[.type "enumerate",.ref a],[]⟩) (λ_ R s=>s.heap.IsTuple a c/\R (.ok<|.ret<|.ref (eT1 s.heap a).objs.size) {s with heap:=eT2 s.heap a}):=
 .of_wp λprog w A R s h=>by
  obtain⟨hp,g,d,tk,os⟩:=s;obtain⟨e,h⟩:=h;have b:=sub_enumerate;have e1:Heap.IsTuple (Shared.heap ⟨hp,g,d,tk,os⟩) a c:=e
  wp_walk using Og e1
  refine wpAny_stack λf _ _ _=>Mf ?_;show Tc _ _ (if _=L7 then(pure (Value.ref a,(none:I L)) >>= _) else(pure (Value.ref a,(none:I L)) >>= _)) _ _ _;refine E6 ?_ ?_
  .refine Ma (Mf ?_);show Tc _ _ (pyIter (.ref a) >>= _) _ _ _
   wp_walk using Og e1
   exact⟨_,rfl,h⟩
  .refine Ma (Mf ?_);show Tc _ _ (pyIter (.ref a) >>= _) _ _ _
   wp_walk using Og e1
   exact⟨_,rfl,h⟩
theorem pb {prog:Td}{w:Mc}{A:Mh}{E:L->L8->Prop}{s:L8}{a:S9}{e:Tv L}{Q:L->L8->Prop}(g:s.heap.IsTuple a e)
  (h:∀b,IsEnum b (s.heap.objs.size+1) s.heap.objs.size 0 .none->b.IsTupleIter s.heap.objs.size a 0->(∀c o,s.heap.get? c=O o->b.get? c=O o)->Q (.ref<|s.heap.objs.size+1) {s with heap:=b}):
  Tc (Mb prog w) A (call (.type "enumerate") [.ref a]) Q E s:=by
 refine callType_new F.called_enumerate (by decide) (F.typeCall_enumerate_1 _) (F.newCall_enumerate_1 _) (λobj=>F.args_object_init_2 obj _) F.entry_enumerate_new (mO a e) ⟨g,?_⟩;have e1:(eT1 s.heap a).objs.size=s.heap.objs.size+1:=Heap.size_push ..;have d:(eT2 s.heap a).get? (eT1 s.heap a).objs.size=O _:=Heap.get?_push_size _ rfl;have f:(eT2 s.heap a).get? s.heap.objs.size=O _:=Heap.get?_push_of_some _<|Heap.get?_push_size _ rfl;show _/\_;rw[e1] at d;rw[e1];exact⟨⟨_,d,rfl⟩,h _ d ⟨_,f,rfl,rfl⟩ λc o x=>Heap.get?_push_of_some _<|Heap.get?_push_of_some _ x⟩
theorem tO {prog:Td}{w:Mc}{A:Mh}(n:A.handled=J)(it t:S9)(d:t≠it)(c:Tv L):Draws prog w A it [it,t] c.size (λi v=>c[i]?=O v) (λi h=>h.IsTupleIter it t i/\h.IsTuple t c) where
 live:=λi h a=>let ⟨o,e,_⟩:=a.1;⟨o,e⟩
 frame:=λi h b a k=>⟨a.1.at λo e=>k it (by simp) o e,by obtain⟨o,e,r⟩:=a.2;exact⟨o,k t (by simp) o e,r⟩⟩
 item:=λi s Q E g a q=>by refine iD a.1 a.2 (x:=c[i]) (SK g) λb f j=>q _ b s.toks (SK g) ⟨f,?_⟩ j;obtain⟨o,e,r⟩:=a.2;exact⟨o,(j.2 t d).trans e,r⟩
 done:=λs Q E a q=>gp n a.1 a.2 (R5<|Mi _) λb e l m=>q b e l m
theorem rV {prog:Td}{w:Mc}{A:Mh}(g:A.handled=J)(it t:S9)(n:Y)(c:Tv L)(l:c.size<=n):Draws prog w A it [it,t] n (λ_ _=>Tw) (λi h=>i=n/\h.IsTupleIter it t n/\h.IsTuple t c) where
 live:=λi h a=>let ⟨o,e,_⟩:=a.2.1;⟨o,e⟩
 frame:=λi h b a k=>⟨a.1,a.2.1.at λo e=>k it (by simp) o e,by obtain⟨o,e,r⟩:=a.2.2;exact⟨o,k t (by simp) o e,r⟩⟩
 item:=λi s Q E j a q=>Tg a.1<|Mu j
 done:=λs Q E a q=>gp g a.2.1 a.2.2 (R5 l) λb e d f=>q b e d f
def Iy (K:L9)(a:S9):It:=
 ⟨fun i H=>∃ b x,SqT K H a b/\b[i]?=O x,
  λi H v c=>∃p x,v=.ref p/\H p=J/\c=upd H p (.tup [.int (i:Int),x])/\∀b,SqT K H a b->b[i]?=O x,
  λi H=>∃b,SqT K H a b/\b.length<=i⟩
theorem oh {P:Td}{w:Mc}{K:L9}{es:U Tq}{kt:Y}{pt:Pos}{e it a:S9}(p:e≠it)(N:a≠e)(Q:a≠it):so P w K (.Tuple es kt pt) (Iy K a) [e,it] e (λi h=>(∃j,IsEnum h e it (i:Int) j)/\h.IsTupleIter it a i) where
 mem:=by simp
 obj:=λi h m b g=>by
  obtain⟨⟨j,l⟩,n⟩:=m;simp only[Mm,MW,TC] at g;rcases g with rfl|rfl
  .exact⟨_,l,λv y=>by cases y⟩
  .obtain ⟨o,D,_,d⟩:=n;exact⟨o,D,λv y=>by rw[d] at y;cases y⟩
 keep:=λi h u m k=>by obtain⟨⟨j,l⟩,n⟩:=m;exact⟨⟨j,k e (by simp) _ l⟩,n.at λo z=>k it (by simp) o z⟩
 item:=by
  intro X M hw G Z i t s σ H E c B m hg;subst M hw G;obtain⟨xs,x,s1,hx⟩:=hg;obtain⟨⟨j,l⟩,n⟩:=m;obtain⟨f,v1,o1,z1⟩:=c.tuple s1;obtain⟨u1,e1,r1⟩:=v1.get hx
  have lt:∀b∈[e,it],b<s.heap.objs.size:=λb g=>by
   simp only[Mm,MW,TC] at g;rcases g with rfl|rfl
   .exact Heap.lt_size l
   .obtain⟨o,D,_⟩:=n;exact Heap.lt_size D
  have hit:i<f.toArray.size:=by have:=(Na.mp e1).1;simpa using this
  refine wpAny_pyNext_enum_itemD (tO (A:=X.A.in1) (c.ok.hd Z) it a Q f.toArray) l ⟨n,(show s.heap.IsTuple a f.toArray from o1)⟩ hit p (by simp only[Mm,MW,TC,not_or];exact⟨p,MI N⟩) λx' u tk px y1 y2 y3 y4 y5=>⟨_,rfl,?_⟩
  have ex:x'=u1:=by
   have:f[i]?=O x':=by simpa using px
   rw[e1] at this;cases this;rfl
  subst ex;refine wpAny_letOwnedTupleGo_enum (s:={s with heap:=u,toks:=tk+1}) y1 λF w1 sb=>?_;have r:Heap.SameBut e u F:=sb;have nz:s.heap.objs.size≠e:=NC (lt e<|by simp);have kk:∀b o,b ∉ [e,it]->s.heap.get? b=O o->F.get? b=O o:=λb o g z=>by simp only[Mm,MW,TC,not_or] at g;exact(r.2 b g.1).trans<|y5 b o g.1 g.2 z
  have tp:T7 F s.heap.objs.size [.int (i:Int) tk,x'].toArray:=⟨_,(r.2 _ nz).trans y3,rfl,_,rfl⟩
  refine⟨.ref s.heap.objs.size,upd H s.heap.objs.size<|.tup [.int (i:Int),x],d9 (s:=s) (t':=tk+1) c B kk (Mi _) (by show 2<=sizeLine;decide) (.cons ⟨_,rfl⟩<|.cons r1 .nil) tp,rfl,
   ⟨_,x,rfl,c.fresh,rfl,λzs hz=>by rw[c.tuple_inj hz s1];exact hx⟩,?_,λb g=>?_⟩
  .exact⟨⟨_,w1⟩,y2.1.at λo z=>(r.2 _<|MI p).trans z⟩
  .rw[ag<|Mu<|lt b g];exact(B b g).1
 done:=by
  intro X M hw G Z i t s σ H E c B m hg;subst M hw G;obtain⟨xs,s1,hl⟩:=hg;obtain⟨⟨j,l⟩,n⟩:=m;obtain⟨f,v1,o1,z1⟩:=c.tuple s1;have l1:=v1.length;have l2:f.toArray.size<=i:=by simp;lia
  refine wpAny_pyNext_enum_endD (rV (A:=X.A.in1) (c.ok.hd Z) it a i f.toArray l2) l ⟨rfl,n,(show s.heap.IsTuple a f.toArray from o1)⟩ λu eb=>⟨rfl,iM (t':=s.toks) c B λb o g z=>eb b o (λy=>g<|by simp[y]) z⟩
 self:=λ_ _ _ _ _ m h=>by obtain⟨⟨j,l⟩,_⟩:=m;exact wpAny_pyIter_enum l h
def vE (K:L9)(c:TA):TI:=λf H R=>c f H λd b=>∃a,d=[.ref a]/\(∃e,SqT K b a e)/\R (Iy K a) b
theorem wt {X:Cx}{a:Tq}{u:TA}{p i pt:Pos}{w:U Tq}{F:Y}(z:Gl X "enumerate")(A:X.mg "enumerate"=J)(y:PA X [a] u)(B:Me [a] X.env=[(L5,Tx a X.env)]:=by rfl):
  PI X (.Tuple w F pt) (.Call (.Name "enumerate" p) [a] [] i) (vE X.K u):=by
 intro g s P H R c h;refine Call_<|gk c z A boot_enumerate<|Qr (thn (y i g s P H _ c h) λQ s1 ⟨vs,v,j,M,k⟩=>?_) B rfl;obtain⟨a,rfl,⟨xs,m⟩,q⟩:=k;cases M with
 | cons r N =>
  cases N;cases r;obtain⟨l,Z,t,z1⟩:=j.tuple m;have f:a<s1.heap.objs.size:=by obtain⟨o,e,_⟩:=t;exact Heap.lt_size e
  refine pb (show s1.heap.IsTuple a l.toArray from t) λx k G D=>?_;refine wpAny_pyIter_enum (s:={s1 with heap:=x}) k ?_;refine⟨_,_,_,_,v,rfl,j.kept (t':=s1.toks) D,oh (Nat.succ_ne_self _) (Mu<|R9 f)<|Mu f,⟨⟨_,k⟩,G⟩,λb n=>?_,q⟩;have d:s1.heap.objs.size<=b:=by simp only[Mm,MW,TC] at n;rcases n with e|e<;>(rw[e];first|exact Qh _ _|exact Mi _)
  exact j.fpOk d<|j.hok.fresh d
end L3
namespace MR
open PySem PySem.Spec PyProof.Rows L2 L3
section
variable {X:Cx}{sf sg:Y->I Y}{C:M.Call}{pos p p2 p3:Pos}{ea eb ec:Tq}{a b c:M.E}{h:Ta}{n:Y}{io:U Y}{K:L9}
theorem yS {e:M.E}(D:L2.St)(H:Hp)(R:It->Hp->Prop)(h:wI K sf C 2 .enmT [e] D H R):vE K (wL K sf C [e]) D H R:=by
 obtain⟨pv,Z,F,η,ws,u,ts,A,ev,w,k⟩:=h;refine⟨pv,Z,F,η,ws,u,A,ev,λvs Z' N t G B r s=>?_⟩;obtain⟨⟨m,a⟩,η1,us,e1,e2,rfl⟩:=aq ev;cases e2;obtain⟨x,rfl,Q⟩:=bE rfl r;obtain⟨j,rfl⟩:∃j,a=.tup j:=by cases a<;>first|exact⟨_,rfl⟩|cases w
 cases w;obtain⟨a,o,rfl,q,l,p⟩:=Rep.sh Q;have l1:=p.length;refine⟨a,rfl,⟨o,q⟩,k _ _ N t B.freeze (bZ B.own s) ⟨λv i s f=>?_,λv i s f=>?_,by rw[dF];lia⟩ λv i x H1 s f y=>?_⟩
 .rw [dF] at f;exact⟨o,o[i]'(by lia),s.sqt q,by simp⟩
 .rw [dF] at f;exact⟨o,s.sqt q,by lia⟩
 .rw [dF] at f;obtain⟨P,x1,rfl,hp,rfl,hx⟩:=y;obtain⟨x',g,rx⟩:=p.get (show j[i]?=O j[i] by simp);rw[hx o<|s.sqt q] at g;cases g;refine⟨P,.int i,x1,(.d,.int ((0+i:Y):Int)),(.s,j[i]),rfl,uE hp,.inl<|.inl ah,ke<|by simp,?_,rx.sany.keep s (λ_ z=>z) λ_ _ z=>z.elim⟩;show V.int (i:Int)=V.int ((0+i:Y):Int);rw[Pb]
theorem xi {e:U Tq}{g:Y}{pt p:Pos}(hm:X.mg "enumerate"=J)(f:Gl X "enumerate":=by rfl)(ha:SE X sf C ea a)(d:Me [ea] X.env=[(L5,Tx ea X.env)]:=by rfl):PI X (.Tuple e g pt) (.Call (.Name "enumerate" p) [ea] [] pos) (wI X.K sf C 2 .enmT [a]):=pZ (wt f hm (slc ha sl0 d) d) yS
end
end MR

namespace L3
open PySem PySem.Spec PyProof.Rows L2
theorem Lp {prog:Td}{w:Mc}{A:Mh}{E:L->L8->Prop}{s:L8}{t b:S9}{l:U L}{Q:L->L8->Prop}(r:T7 s.heap t ([]:U L).toArray)(p:T7 s.heap b l.toArray)(h:Q (.ref b) s):Tc (Mb prog w) A (M6 .Add (.ref t)<|.ref b) Q E s:=by
 obtain⟨⟨m,o,i,v⟩,ho,j,n,k⟩:=id r;obtain⟨⟨g,e,data2,f⟩,d,a,u,c⟩:=id p;simp only at j k a c;subst j k a c
 exact Uh ⟨_,ho,rfl⟩ ⟨_,d,rfl⟩ Qw T8 Q2 Q5 (Q8 _ _)
  (tuple_addW0 t b ([]:U L).toArray l.toArray n u o e v f rfl) ⟨ho,d,h⟩
def Cy (K:L9):R2:=λx y H Q=>∃a b e f,x=.ref a/\y=.ref b/\SqT K H a e/\SqT K H b f/\e.length+f.length<=sizeLine/\∀v d,Same H d->(∃c,v=.ref c/\SqT K d c (e++f))->Q v d
theorem Av {X:Cx}:OpR X (M6 .Add) (Cy X.K):=λd s t H x y v u Q c j k h=>by
 obtain⟨a,b,l,r,e1,e2,g,e,m,q⟩:=h;by_cases hx:l=[]
 .subst hx e1 e2;cases j;cases k;obtain⟨f,p,n,_⟩:=c.tuple g;obtain⟨i,w,o,_⟩:=c.tuple e;have:f=[]:=by cases p;rfl
  subst this;exact Lp n o ⟨.ref b,H,c,rfl,q _ _ (Same.refl _) ⟨b,rfl,e⟩⟩
 .exact qw d s t H x y v u Q c j k ⟨a,b,l,r,e1,e2,g,e,hx,m,q⟩
end L3
namespace MR
open PySem PySem.Spec PyProof.Rows L2 L3
section
variable {X:Cx}{sf sg:Y->I Y}{C:M.Call}{pos p p2 p3:Pos}{ea eb ec:Tq}{a b c:M.E}{h:Ta}{n:Y}{io:U Y}{K:L9}
theorem uv:Loc K 2 .catT h λf H Q=>∀x y,f=[x,y]->Cy K x y H Q:=by
 intro ws w f Z H G Q hn e r F za k x y hx;subst hx;obtain⟨⟨m,a⟩,⟨n,b⟩,rfl⟩:=dD r.length.symm;obtain⟨G1,G2,w1,w2,d,N,P⟩:=bM r;cases a with
 | tup o =>
  cases b with
  | tup t =>
   have g:(if M.fits (o.length+t.length)=L7 then O ((.s,.tup (o++t)):M.W) else J)=O w:=e;split at g
   .rename_i u;cases g;obtain⟨a,f,rfl,B,hl,p⟩:=cO N;obtain⟨b,ys,rfl,j,A,p2⟩:=cO P;have l:=cM u;have e1:=p.length;have e2:=p2.length;refine⟨a,b,f,ys,rfl,rfl,B,j,cw (by lia),λv H' same D=>ig (m:=.s) (G':=no) F (λ_ z=>z.elim) (by rw[MA];lia) (RepL.append (G1:=no) (G2:=no) (λ_ z=>z) (λ_ z=>z) (λ_ z _=>z) ((RepL.sh p).zmono λb i=>?_) ((RepL.sh p2).zmono λb i=>?_)) k same D⟩
    .exact i.imp id λz=>⟨w1 b z,λq=>q⟩
    .exact i.imp id λz=>⟨w2 b z,λq=>q⟩
   .cases g
  |_=>cases e
 |_=>cases e
theorem BM (d:SE X sf C ea a)(e:SE X sf C eb b):SE X sf C (.BinOp ea .Add eb pos) (.op .catT h [a,b]):=aj (ek Av d e)<|aD uv
theorem AB {Z:Fp}{H:Hp}{G:Fp}{Q:VK}{p:S9}(e:Own Z H G)(f:∀a,Z a->H a≠J)(k:Out K Z H G (.d,.dct [] []) Q)(hp:H p=J):Q (.ref p) (upd H p<|.dK []):=by refine k _ Z _ (λa=>a=p) ⟨p,[],rfl,MH _,⟨rfl,ah⟩,⟨List.nodup_nil,λ_ z=>nomatch z⟩,rfl,rfl⟩ ?_<|iI hp e (λa h=>.inr h) Z (λ_ z=>z) λ_ z=>.inl z;rintro a rfl;exact⟨λz=>f a z hp,.inr [],ah⟩
theorem zw (e:L2.St)(H:Hp)(Q:VK)(j:wE K sf C (.op .dnew h []) e H Q):xP e H Q:=by obtain⟨pv,Z,d,l,w,m,A,ev,k⟩:=j;obtain⟨r,g,i⟩:=b8 ev;cases g;cases i;intro p hp;have f:At K ⟨sf,pv⟩ e Z H d l no:=A;have o:=cH (F:=tot d) f ((Step.refl Z H<|tot d).mono (λ_ z=>z) λ_ z=>z.elim id λq=>q.elim) k;exact AB cQ A.gd.zal o hp
theorem Jd:SE X sf C (.Dict [] [] pos) (.op .dnew h []):=aj xa zw
end
end MR


namespace MR
open L2 L3 M
open PySem (Addr Str sizeLine)
section
variable {K:L9}{Wx:L2.St->VK}{sl:Cf}{sf sg:Y->I Y}{C:Call}{σ σ2:L2.St}{Z Z' Z1:Fp}{H H' H1:Hp}{Fs Fs' Fs1:Fps}{η η' η1 ηb:Env}{G G' G1 R F F':Fp}{tg is vs ls io:U Y}{pv val:Y->I V}{D:cx}
theorem BG {Z:Fp}{H:Hp}{G:Fp}{a:S9}{o:HO}{m:Md}(b:m≠.s)(h:G a/\H a=O o):DctR Z H G a o m:=by
 cases m with
 |s=>exact Tg rfl b
 |d=>exact h
 |o m=>exact h
theorem Ad {i:Y}{a:S9}{d:U<|Int ⊕ Str}{P:U T}{f:U V}{m':Md}(hm:m'≠.s)(A:At K ⟨sf,pv⟩ σ Z H Fs η G){w0:W}(hi:rd η i=O w0)(ha:Fs i a)(hx:∀j,sf i=O j->σ[j]?=O (O<|.ref a))(hl:d.length<=LIM)(hnd:d.Nodup/\∀k∈d,kOk k=L7)(hvl:P.length=d.length)(hpv:∀u,pv i=O u->V.ref a=u)
  (hg:∀b,G' b->(Fs i b\/G b)/\b≠a) (hR:∀b,R b->(Fs i b\/G b)/\b≠a) (hRG:∀b,R b->¬G' b) (p:RepL K (λb=>Z b\/((Fs i b\/G b)/\b≠a/\¬G' b/\¬R b)) H (dmd m') P f λ_=>Tw) {Q:Hp->Prop}
  (k:∀Z' Fs',At K ⟨sf,pv⟩ σ Z' (upd H a<|.dK<|mkD d f) Fs' (M.put η i (m',.dct d P)) R->Step Z H (λb=>tot Fs b\/G b) Z' (upd H a<|.dK<|mkD d f) (λb=>tot Fs' b\/R b)->(∀{m t v},Rep K (λb=>Z b\/((Fs i b\/G b)/\b≠a/\¬G' b/\¬R b)) H m t v R->Rep K Z' (upd H a<|.dK<|mkD d f) m t v R)->Q (upd H a<|.dK<|mkD d f)):Q (upd H a<|.dK<|mkD d f):=by
 have B:tot Fs a:=⟨i,ha⟩;obtain⟨nza,ys,hya⟩:=A.gd.own a B;have nGa:¬G a:=λq=>A.dis a q B
 have x:∀b,(Z b\/((Fs i b\/G b)/\b≠a/\¬G' b/\¬R b))->b≠a:=λb h z=>by
  subst z;rcases h with h|h
  .exact nza h
  .exact h.2.1 rfl
 have keep:∀b o,H b=O o->b≠a->upd H a (.dK (mkD d f)) b=O o:=λb o e g=>by rw[ag g];exact e
 have neT:∀b xs,H b=O (.tup xs)->b≠a:=λb xs e z=>by rw[z,hya] at e;exact oV e.symm
 have neF:∀b o u,H b=O (.frz o u)->b≠a:=λb o u e z=>by rw[z,hya] at e;exact lg e.symm
 have stay:∀{c:Fp},(∀b,c b->b≠a)->Stay c H (upd H a (.dK (mkD d f))):=λ{c} hY=>⟨λb o g e=>keep b o e<|hY b g,λb xs e=>by
  rcases e with e|⟨u,e⟩
  .exact .inl (keep b _ e<|neT b xs e)
  .exact .inr ⟨u,keep b _ e<|neF b u _ e⟩,λb o u e=>keep b _ e<|neF b o u e⟩
 have al:∀b,H b≠J->upd H a (.dK (mkD d f)) b≠none:=λb h=>by
  by_cases e:b=a
  .rw[e,ah];simp
  .rw[ag e];exact h
 have N:∀b,(Z b\/((Fs i b\/G b)/\b≠a/\¬G' b/\¬R b))->H b≠none:=λb h=>by
  rcases h with h|⟨h|h,_⟩
  .exact A.gd.zal b h
  .obtain⟨_,zs,e⟩:=A.gd.own b ⟨i,h⟩;rw[e];simp
  .obtain⟨_,zs,e⟩:=A.own b h;rw[e];simp
 have listAt:∀b,(tot Fs b\/G b)->∃zs:OO,upd H a (.dK (mkD d f)) b=O zs.ho:=λb h=>by
  by_cases e:b=a
  .exact⟨(.inr<|mkD d f),by rw[e,ah];rfl⟩
  .rcases h with h | h
   .obtain⟨_,zs,q⟩:=A.gd.own b h;exact⟨zs,by rw[ag e];exact q⟩
   .obtain⟨_,zs,q⟩:=A.own b h;exact⟨zs,by rw[ag e];exact q⟩
 have nZ:∀b,(Fs i b\/G b)->¬Z b:=λb h z=>h.elim (λy=>(A.gd.own b ⟨i,y⟩).1 z) λy=>(A.own b y).1 z
 have gh:∀b,tot (lC Fs i λb=>G' b\/b=a) b->(∃j,j≠i/\Fs j b)\/G' b\/b=a:=λb h=>by
  obtain⟨j,h|h⟩:=h
  .exact .inr h.2
  .exact .inl ⟨j,h⟩
 refine k (λb=>Z b\/((Fs i b\/G b)/\b≠a/\¬G' b/\¬R b)) (lC Fs i λb=>G' b\/b=a) ⟨⟨λb h=>⟨λz=>?_,?_⟩,λj l b w hk=>?_,λb h=>al b<|N b h⟩,λl m t e=>?_,λb h=>⟨λz=>?_,listAt b<|(hR b h).1.imp (λz=>⟨i,z⟩) id⟩,λb h q=>?_,A.lk,A.ln⟩ ⟨λb o e n=>keep b o e λz=>n<|.inl<|z ▸ B,λb h=>.inl h,λb h=>h.imp id λq=>.inl<|q.1.imp (λz=>⟨i,z⟩) id,λb h=>?_,al,λ_ b h=>al b<|N b h⟩ λ{m t v} r=>r.keep (stay x) (λ_ z=>z) λb o g e=>keep b o e (hR b g).2
 .rcases gh b h with ⟨j,w,q⟩ | q | q
  .rcases z with z | ⟨z | z,_⟩
   .exact(A.gd.own b ⟨j,q⟩).1 z
   .exact w (A.gd.dis j i b q z)
   .exact A.dis b z ⟨j,q⟩
  .rcases z with z | z
   .exact nZ b (hg b q).1 z
   .exact z.2.2.1 q
  .exact x b z q
 .rcases gh b h with ⟨j,w,q⟩ | q | q
  .exact listAt b (.inl ⟨j,q⟩)
  .exact listAt b ((hg b q).1.imp (λz=>⟨i,z⟩) id)
  .exact⟨(.inr<|mkD d f),by rw[q,ah];rfl⟩
 .have key:∀ {j:Y},(G' b\/b=a)->Fs j b->j=i:=fun {j} h q=>by
   rcases h with h|h
   .rcases (hg b h).1 with y | y
    .exact A.gd.dis j i b q y
    .exact Tg ⟨j,q⟩ (A.dis b y)
   .rw[h] at q;exact A.gd.dis j i a q ha
  rcases w with⟨rfl,w⟩|⟨nj,w⟩
  .rcases hk with ⟨rfl,_⟩ | ⟨nk,hk⟩
   .rfl
   .exact Tg (key w hk) nk
  .rcases hk with ⟨rfl,hk⟩ | ⟨nk,hk⟩
   .exact Tg (key hk w) nj
   .exact A.gd.dis j l b w hk
 .rw [cA] at e;split at e
  .rename_i hc;obtain⟨rfl,_⟩:=hc;cases e;refine⟨.ref a,⟨a,f,rfl,hl,BG hm ⟨.inl ⟨rfl,.inr rfl⟩,ah⟩,hnd,hvl,?_⟩,hx,hpv⟩;exact p.keep (stay x) (λ_ z=>z) λb o g e=>g.elim
  .rename_i hc;have hl':l≠i:=λz=>hc ⟨z,eU hi⟩;obtain⟨v,r,h⟩:=A.env l m t e;have nea:∀b,Fs l b->b≠a:=λb q z=>hl'<|A.gd.dis l i a (z ▸ q) ha;exact⟨v,((r.keep (stay λb g z=>nza<|z ▸ g) (λ_ z=>z) λb o g e=>keep b o e<|nea b g).zmono λb h=>.inl h).mono λb h=>.inr ⟨hl',h⟩,h⟩
 .rcases z with z | z
  .exact nZ b (hR b h).1 z
  .exact z.2.2.2 h
 .rcases gh b q with ⟨j,w,y⟩ | y | y
  .rcases (hR b h).1 with z | z
   .exact w (A.gd.dis j i b y z)
   .exact A.dis b z ⟨j,y⟩
  .exact hRG b h y
  .exact(hR b h).2 y
 .rcases h with h | h
  .rcases gh b h with ⟨j,_,q⟩ | q | q
   .exact .inl (.inl ⟨j,q⟩)
   .exact .inl ((hg b q).1.imp (λz=>⟨i,z⟩) id)
   .exact .inl (.inl<|q ▸ B)
  .exact .inl ((hR b h).1.imp (λz=>⟨i,z⟩) id)
theorem yH {m:Md}{b:U<|Int ⊕ Str}{vs:U T}{v:V}(g:m≠.s)(r:Rep K Z H m (.dct b vs) v G):∃a c,v=.ref a/\b.length<=LIM/\G a/\H a=O (.dK<|mkD b c)/\(b.Nodup/\∀k∈b,kOk k=L7)/\vs.length=b.length/\RepL K Z H (dmd m) vs c (λ_=>Tw):=by
 obtain⟨a,c,e,l,q,n,f,p⟩:=r;cases m with
 |s=>exact Tg rfl g
 |d=>exact⟨a,c,e,l,q.1,q.2,n,f,p⟩
 |o m=>exact⟨a,c,e,l,q.1,q.2,n,f,p⟩
def kT:Int ⊕ Str->T
|.inl n=>.int n
|.inr x=>.str x
theorem mY {k:T}{q:Int ⊕ Str}(h:keyT k=O q):k=kT q:=by
 cases k with
 |int n=>cases h;rfl
 |str x=>cases h;rfl
 |_=>cases h
theorem xu {m:Md}{q:Int ⊕ Str}{v:V}(r:Rep K Z H m (kT q) v G):v=kV q/\kOk q=true:=by
 cases q with
 |inl n=>exact⟨r,rfl⟩
 |inr x=>exact⟨r.1,r.2⟩
noncomputable def oM (k:Int ⊕ Str)(y:V):U (Int ⊕ Str)->U V->U V
|[],_=>[y]
|z::b,x::a=>if z=k then y::a else x::oM k y b a
|_::_,[]=>[]
theorem lJ (k:Int ⊕ Str)(t:T):∀(c:U<|Int ⊕ Str) (vs:U T),vs.length=c.length->(bj k t c vs).2.length=(bj k t c vs).1.length/\(bj k t c vs).1.length<=c.length+1
|[],[],_=>⟨rfl,Mi _⟩
|[],_::_,e=>by cases e
|_::_,[],e=>by cases e
| z::d,v::vs,e=>by
 unfold bj;split
 .exact⟨e,N8 _⟩
 .obtain ⟨a,b⟩:=lJ k t d vs<|N4 e;exact⟨by rw[Mw,Mw,a],by rw[Mw,Mw];lia⟩
theorem hW (k:Int ⊕ Str)(t:T):∀(a:U<|Int ⊕ Str) (vs:U T),vs.length=a.length->∀z,z∈(bj k t a vs).1 ↔ z=k\/z∈a
|[],[],_,z=>by simp[bj]
|[],_::_,e,_=>by cases e
|_::_,[],e,_=>by cases e
| y::c,v::vs,e,z=>by
 unfold bj;split
 .rename_i b;subst b;simp
 .have:=hW k t c vs (N4 e) z;rw[Mm,this,Mm];constructor
  .rintro (h | h | h)
   .exact .inr (.inl h)
   .exact .inl h
   .exact .inr (.inr h)
  .rintro (h | h | h)
   .exact .inr (.inl h)
   .exact .inl h
   .exact .inr (.inr h)
theorem iY (k:Int ⊕ Str)(t:T):∀(a:U<|Int ⊕ Str) (vs:U T),vs.length=a.length->a.Nodup->(bj k t a vs).1.Nodup
|[],[],_,_=>by simp[bj]
|[],_::_,e,_=>by cases e
|_::_,[],e,_=>by cases e
| y::b,v::vs,e,h=>by
 unfold bj;split
 .exact h
 .rename_i f;obtain⟨c,d⟩:=NY.mp h;refine NY.mpr ⟨λq=>?_,iY k t b vs (N4 e) d⟩;rcases(hW k t b vs (N4 e) y).mp q with q|q
  .exact f q
  .exact c q
theorem qI (k:Int ⊕ Str)(t:T)(y:V):∀(g:U<|Int ⊕ Str) (vs:U T) (c:U V),vs.length=g.length->c.length=g.length->g.Nodup->eT (mkD g c) k y=mkD (bj k t g vs).1 (oM k y g c)
|[],[],[],_,_,_=>rfl
|[],[],_::_,_,e,_=>by cases e
|[],_::_,_,e,_,_=>by cases e
|_::_,[],_,e,_,_=>by cases e
|_::_,_::_,[],_,e,_=>by cases e
| z::d,v::vs,x::c,e1,e2,n=>by
 obtain⟨l,m⟩:=NY.mp n;have j:=qI k t y d vs c (N4 e1) (N4 e2) m;unfold bj oM;by_cases f:z=k
 .rw [Tf f,Tf f];subst f;have i:∀p∈mkD d c,p.1≠z:=λp hp q=>by obtain⟨a,b⟩:=p;have:=(Qm hp).1;have o:a=z:=q;rw[o] at this;exact l this
  show eT ((z,x)::mkD d c) z y=(z,y)::mkD d c;unfold eT;rw[Tf<|by simp];rw[ME,Tf rfl];congr 1
  conv=>rhs;rw[<- List.map_id (mkD d c)]
  refine Po λp hp=>?_;rw[Ti<|i p hp];rfl
 .rw [Ti f,Ti f];show eT ((z,x)::mkD d c) k y=(z,x)::mkD (bj k t d vs).1 (oM k y d c);rw[<- j];have h:¬(z=k):=f;unfold eT;rw[Mn,Tt h,M4];split
  .rw[ME,Ti h]
  .rfl
end
end MR





namespace MR
open L2 L3 M
open PySem (Addr Str sizeLine)
section
variable {K:L9}{Wx:L2.St->VK}{sl:Cf}{sf sg:Y->I Y}{C:Call}{σ σ2:L2.St}{Z Z' Z1:Fp}{H H' H1:Hp}{Fs Fs' Fs1:Fps}{η η' η1 ηb:Env}{G G' G1 R F F':Fp}{tg is vs ls io:U Y}{pv val:Y->I V}{D:cx}
theorem tm {u j w r:W}(h:dG u j w=O r):∃m c vs n k,u=(m,.dct c vs)/\j=(n,kT k)/\m≠.s/\c.length<LIM/\r=(.o .s,.dct (bj k w.2 c vs).1 (bj k w.2 c vs).2):=by
 obtain⟨m,t⟩:=u;obtain⟨n,k⟩:=j;obtain⟨p,x⟩:=w
 have g:∀c vs,((keyT k).bind λq=>if(decide (c.length<LIM))=L7 then O ((.o .s,.dct (bj q x c vs).1 (bj q x c vs).2):W) else J)=O r->∃f,(n,k)=(n,kT f)/\c.length<LIM/\r=(.o .s,.dct (bj f x c vs).1 (bj f x c vs).2):=λc vs h=>by
  cases e:keyT k with
  |none=>rw[e] at h;cases h
  | some q =>
   rw[e] at h;have i:(if(decide (c.length<LIM))=L7 then O ((.o .s,.dct (bj q x c vs).1 (bj q x c vs).2):W) else J)=O r:=h;split at i
   .rename_i l;cases i;exact⟨q,by rw[mY e],Ts l,rfl⟩
   .cases i
 cases m<;>first|(cases h;done)|(cases t<;>try (cases h;done))
 .obtain ⟨f,a,b,d⟩:=g _ _ h;exact⟨.d,_,_,n,f,rfl,a,by simp,b,d⟩
 .obtain ⟨f,a,b,d⟩:=g _ _ h;exact⟨.o _,_,_,n,f,rfl,a,by simp,b,d⟩
theorem j1 {k:Int ⊕ Str}{t:T}{y:V}(g:Rep K Z H .s t y no):∀(d:U<|Int ⊕ Str) (vs:U T) (c:U V),vs.length=d.length->RepL K Z H .s vs c (λ_=>Tw)->RepL K Z H .s (bj k t d vs).2 (oM k y d c) (λ_=>Tw)
|[],[],c,_,r=>by cases r;exact⟨y,[],λ_=>Tw,λ_=>Tw,rfl,λ_ z=>z,λ_ z=>z,λ_ z=>z.elim,g,rfl⟩
|[],_::_,_,e,_=>by cases e
|_::_,[],_,e,_=>by cases e
| z::i,v::vs,c,e,m=>by
 obtain⟨x,f,G1,G2,j,l,h,n,p,q⟩:=m;subst j;unfold bj oM;by_cases b:z=k
 .rw [Tf b,Tf b];exact⟨y,f,λ_=>Tw,G2,rfl,λ_ z=>z,h,λ_ z=>z.elim,g,q⟩
 .rw [Ti b,Ti b];exact⟨x,oM k y i f,G1,λ_=>Tw,rfl,l,λ_ z=>z,λa _ z=>z,p,j1 g i vs f (N4 e)<|q.mono h⟩
theorem yV {x:M.X}{i j:Y}{k e:E}(hs:sf i=O j)(D:cx)(σ:L2.St)(H:Hp)(h:wS K Wx sf io C (.setS x i k e) D σ H):
  wE K sf C e σ H λy H1=>wZ j σ H1 λo H1=>wE K sf C k σ H1 λz H2=>∃a P q,o=.ref a/\z=kV q/\H2 a=O (.dK P)/\P.length<sizeLine/\D.nx σ (upd H2 a<|.dK<|eT P q y):=by
 obtain⟨pv,Z,Fs,η,N,A,f⟩:=h;obtain⟨⟨w,η1⟩,h2,h3⟩:=bx<|show Fin K Wx ⟨sf,pv⟩ Z H (tot Fs) D (Fl.of η (evX C x e η)<|qp i (evX C x k) η) from f;obtain⟨⟨Q,d⟩,h6,h7⟩:=bx<|show Fin K Wx ⟨sf,pv⟩ Z H (tot Fs) D (Fl.of η (evX C x k η1)<|oR i w) from h3;obtain⟨η3,l,h5⟩:=eF<|show Fin K Wx ⟨sf,pv⟩ Z H (tot Fs) D (nxO d<|((rd d i).bind λu=>dG u Q w).map λu=>M.put d i u) from h7;refine lr (sl:=⟨sf,pv⟩) A h2 λy Z' H' Fs' G B r s=>?_;cases e1:rd d i with
 |none=>rw[e1] at l;cases l
 | some u1 =>
  rw[e1] at l;cases e2:dG u1 Q w with
  |none=>rw[show(O u1).bind (λu=>dG u Q w)=dG u1 Q w from rfl,e2] at l;cases l
  | some r1 =>
   rw[show(O u1).bind (λu=>dG u Q w)=dG u1 Q w from rfl,e2] at l;cases l;obtain⟨m,g,vs,n,v,rfl,rfl,hm,hlen,rfl⟩:=tm e2;have n1:rd η1 i≠none:=λz=>by rw[E1 h6 i z] at e1;cases e1
   cases e3:rd η1 i with
   |none=>exact Tg e3 n1
   | some u3 =>
    obtain⟨v3,r3,l3,p3⟩:=B.env i u3.1 u3.2 e3;refine⟨v3,l3 j hs,lr (sl:=⟨sf,pv⟩) B.bare h6 λz Z2 H2 Fs2 G2 B2 rz s2=>?_⟩;obtain⟨B3,s3,d3⟩:=B.frame B2 s2;have r':=r.frame B.gd.own s2 B.dis;have B4:=B3.mono (G':=G) λ_ z=>.inl z;obtain⟨v4,r4,l4,p4⟩:=B4.env i m _ e1;have hv:v3=v4:=by have e5:=l3 j hs;have e6:=l4 j hs;rw[e5] at e6;cases e6;rfl
    subst hv;obtain⟨a,xs,rfl,hl,hf,hx,t,c,p⟩:=yH hm r4;have hxl:xs.length=g.length:=by rw[p.length,c]
    obtain⟨q1,q2⟩:=lJ v w.2 g vs c;have rz':z=kV v/\kOk v=true:=xu rz;have nGa:¬G a:=λq=>B4.dis a q ⟨i,hf⟩;have pS:RepL K (λb=>Z2 b\/((Fs2 i b\/G b)/\b≠a/\¬no b/\¬no b)) H2 .s vs xs (λ_=>Tw):=by have:=RepL.sh p;exact(this.zmono λb h=>h.elim .inl λz=>z.elim).mono λ_ z=>z
    have rS:Rep K (λb=>Z2 b\/((Fs2 i b\/G b)/\b≠a/\¬no b/\¬no b)) H2 .s w.2 y no:=(Rep.sh r').zmono λb h=>h.imp id λq=>⟨.inr q,λe=>nGa<|e ▸ q,λz=>z,λz=>z⟩;refine⟨a,mkD g xs,v,rfl,rz'.1,hx,?_,?_⟩
    .show (g.zip xs).length<_;rw[RI,hxl,Nat.min_self];exact MF hlen<|cw<|Mi _
    .rw [qI v w.2 y g vs xs c hxl t.1];exact Ad (K:=K) (m':=.o .s) (G':=no) (R:=no) (by simp) B4 e1 hf (λk hk=>by rw[show sf i=O k from hk] at hs;cases hs;exact l3 _ hk) (by lia) ⟨iY v w.2 g vs c t.1,λz hz=>((hW v w.2 g vs c z).mp hz).elim (λe=>e ▸ rz'.2)<|t.2 z⟩ q1 p4 (λ_ z=>z.elim) (λ_ z=>z.elim) (λ_ z=>z.elim) (j1 rS g vs xs c pS) λZ5 Fs5 B5 s5 _=>h5 σ Z5 _ Fs5 B5<|(s.trans<|s3.mono (λ_ z=>z) λb h=>h.imp id .inl).trans<|s5.mono (λ_ z=>z) λ_ z=>.inl z
end
end MR
namespace MR
open PySem PySem.Spec PyProof.Rows L2 L3
section
variable {X:Cx}{sf sg:Y->I Y}{C:M.Call}{pos p p2 p3:Pos}{ea eb ec:Tq}{a b c:M.E}{h:Ta}{n:Y}{io:U Y}{K:L9}
theorem Jn (j:Y)(hr:Room n X.A){i:Y}{x:Str}{xx:M.X}{px Q:Pos}(ha:SE X sf C ea a)(hb:SE X sf C eb b)(hs:sf i=O j:=by rfl)(hN:X.N[j]?=O x:=by rfl)(hv:Vis X.env.scope x:=by first|exact Mz rfl|exact Ms (Mz rfl)|exact Ms<|Ms rfl)(hd:(x==("__debug__":Str))=false:=by decide)(l:(x==("__classdict__":Str))=false:=by decide)
  (m:Nl ea (O<|.Subscript (.Name x px) eb Q) pos.line X.env=pure false:=by rfl):
  SS X sf io C (.Assign [.Subscript (.Name x px) eb Q] ea pos) (.setS xx i b a):=
 cR (AS (CJ hr) (aO hN hv hd l) hb ha m) λD σ H hw=>by obtain⟨pv,Z,Fs,η,w,y,A,ev,k⟩:=yV hs D σ H hw;refine⟨pv,Z,Fs,η,w,y,A,ev,λv Z' H' d G B r s=>?_⟩;obtain⟨o,ho,u,Z2,e,F,w2,P,A2,g,k2⟩:=k v Z' H' d G B r s;refine⟨o,ho,u,Z2,e,F,w2,P,A2,g,λz Z3 H3 f G3 B3 r3 s3=>?_⟩;obtain⟨q,t,kk,rfl,rfl,g1,g2,g3⟩:=k2 z Z3 H3 f G3 B3 r3 s3;exact⟨q,_,rfl,.inl ⟨t,kk,g1,rfl,g2,rfl⟩,g3⟩
theorem m9 {Z:Fp}{H:Hp}{G:Fp}{q:Int ⊕ Str}{t:M.T}:∀{d:U<|Int ⊕ Str} {g:U M.T} {j:U V},RepL K Z H .s g j G->M.lookD q d g=O t->∃x,gJ (mkD d j) q=O x/\Rep K Z H .s t x no
|[],[],_,_,e=>by cases e
|[],_::_,_,_,e=>by cases e
|_::_,[],_,_,e=>by cases e
| k::d,v::g,j,m,e=>by
 obtain⟨x,r,G1,G2,l,_,z,_,p,u⟩:=m;subst l;have f:(if k=q then O v else M.lookD q d g)=O t:=e;by_cases hk:k=q
 .rw [Tf hk] at f;cases f;refine⟨x,?_,p.sany⟩;show(((k,x)::mkD d r).find? λi=>decide (i.1=q)).map (·.2)=O x;rw[List.find?_cons_of_pos<|by simpa using hk];rfl
 .rw [Ti hk] at f;obtain⟨y,o,w⟩:=m9 u f;refine⟨y,?_,w⟩;show(((k,x)::mkD d r).find? λi=>decide (i.1=q)).map (·.2)=O y;rw[List.find?_cons_of_neg<|by simpa using hk];exact o
theorem yG:Loc K 2 .ixD h λo H Q=>∀x y,o=[x,y]->∃a v,x=.ref a/\DGet H a y (O v)/\Q v H:=by
 intro ws w o Z H G Q hn e r P za k x y hx;subst hx;obtain⟨⟨m,a⟩,⟨n,b⟩,rfl⟩:=dD r.length.symm;obtain⟨G1,G2,w1,w2,d,r1,r2⟩:=bM r;obtain⟨f,g,rfl,rfl⟩:∃f g,a=.dct f g/\m=.s:=by cases m<;>first|(cases e;done)|(cases a<;>first|exact⟨_,_,rfl,rfl⟩|(cases e;done))
 have i:((M.keyT b).bind λq=>(M.lookD q f g).map λt=>((.s,t):M.W))=O w:=e;cases e1:M.keyT b with
 |none=>rw[e1] at i;cases i
 | some q =>
  rw[e1] at i;have e2:((M.lookD q f g).map λt=>((.s,t):M.W))=O w:=i;cases e3:M.lookD q f g with
  |none=>rw[e3] at e2;cases e2
  |some t=>rw[e3] at e2;cases e2;obtain⟨ad,ys,B,hl,z,A,F,pr⟩:=r1;have u:=mY e1;subst u;obtain⟨N,_⟩:=xu r2;obtain⟨v,D,rv⟩:=m9 pr e3;have j:x=.ref ad:=B;have l:y=kV q:=N;subst j l;refine⟨ad,v,rfl,?_,fJ P k<|rv.sany⟩;rw[<- D];exact DGet.k z.2
theorem wx (f:Room n X.A)(d:SE X sf C ea a)(e:SE X sf C eb b)(g:C7 eb:=by intro _ _;rfl):SE X sf C (.Subscript ea eb pos) (.op .ixD h [a,b]):=aj (yM (CJ f) d e g)<|aD yG
end
end MR



namespace L2
open PySem PySem.Spec PyProof.Rows
section
variable {X:Cx}{tg:Tq}
def Itd (lo:Int)(n:Y):It:=⟨λi _=>i<n,λi H x a=>a=H/\x=.int (lo-i),λi _=>n<=i⟩
end
end L2




namespace MR
open L2 L3
section
variable {f:PySem.Str}{K:L9}{Z:Fp}{H:Hp}
open PySem (Str)
theorem jl {f:Str}:∀{fs:U Str} {c:U M.T} {b:U V} {t:M.T},M.lookF f fs c=O t->RepL K Z H .s c b no->∃y,(fs.zip b).lookup f=O y/\f∈fs/\Rep K Z H .s t y no
| g::d,u::m,b,t,e,r=>by
 obtain⟨y,p,G1,G2,rfl,n,o,_,l,k⟩:=r;have e:(if(g==f)=L7 then O u else M.lookF f d m)=O t:=e;rw[List.zip_cons_cons,M5];cases a:(g==f) with
 |true=>rw[a,Tf rfl] at e;cases e;have:=eq_of_beq a;subst this;rw[Tp];exact⟨y,rfl,ML,l.mono n⟩
 |false=>rw[a,Ti<|by decide] at e;obtain⟨z,h,i,j⟩:=jl e<|k.mono o;rw[show(f==g)=L5 from by rw[PB];exact a];exact⟨z,h,MG _ i,j⟩
|[],_,_,_,e,_=>by cases e
|_::_,[],_,_,e,_=>by cases e
end
end MR

namespace MR
open PySem PySem.Spec PyProof.Rows L2 L3
def spX (K:L9)(C:M.Call)(g:Y):Sp:=λe H Q E=>∃Z d G,RepW K Z H d e G/\Own Z H G/\(∀a,Z a->H a≠J) /\
 ((∃ w,C g d=.ok (w,[])/\∀ v c b G1,Rep K c b w.1 w.2 v G1->Own c b G1->Step Z H G c b G1->Q v b) \/
  (∃t,C g d=.ex t/\∀a c b,Rep K c b .s t (.ref a) no->Step Z H G c b no->E (.ref a) J b))
section
variable {P:Td}{w:Mc}{K:L9}{mg:Str->I L}{base:To}
theorem Fun.okX {x l:Str}{y:Tz}{f:S9}{fd:MK}{N ps:U Str}{k:Y}{C:M.Call}{d:M.Fn}(F:L2.Fun K x l y f fd)(S:bH N ps<|defScope y)(hps:d.ps=ps.length)(hle:ps.length<=N.length)(hio:d.io=[])
  (p:∀ (m:L) (A:Mh) (c:U Env) (s:L8) (H:Hp) (E:XK),Room k (A.deeper (Nc l (defScope y) s.heap.objs.size f m)) ->
   SSs (gq (CX1 P w) P w K mg base N l (defScope y) f m A c s H E) (slN N.length) [] C (defBody y) d.body) {g:Y} {C':M.Call} (hC:∀B,C' g B=M.runF C d B):FnOk P w K mg base (CX1 P w) (k+1) f fd ps (spX K C' g):=by
 have len:∀vs H Q E,spX K C' g vs H Q E->vs.length=ps.length:=λvs H Q E ⟨Z,B,G,r,_,_,h⟩=>by
  have:M.runF C d B≠.no:=by rcases h with⟨w,h,_⟩|⟨t,h,_⟩<;>(rw[hC] at h;rw[h];intro z;cases z)
  unfold M.runF at this;split at this
  .rename_i h;rw[r.length,h,hps]
  .exact Tg rfl this
 obtain⟨oc,od,kV,doc,pm,an,m,ct,osl,rfl,lk,hcd⟩:=F.ex;refine Cv lk hcd S len λA c s H vs Q E hr h=>⟨_,p m A c s H E hr,?_⟩;have hlen:=len vs H Q E h;obtain⟨Z,B,G,r,o,z,h⟩:=h;have hwl:B.length=d.ps:=by rw[<- r.length,hlen,hps]
 rw[hC,M.x_run _ _ _ hwl,hio] at h;obtain⟨Fs,ft,A0⟩:=l8 (n:=d.ns) (io:=[]) r o z (N:=N) (by lia);refine⟨_,Z,Fs,_,⟨λi i' j h h'=>?_,λi h=>Ti h⟩,A0,?_⟩
 .simp only [slN] at h h';split at h
  .split at h'
   .cases h;cases h';rfl
   .cases h'
  .cases h
 cases e:M.evSs C d.body (B.map O++Mr d.ns J) with
 | nx η =>
  rw[e] at h;intro σ' Z' H' D A' t;rcases h with⟨w,h,q⟩|⟨t,h,q⟩
  .cases h;exact q .non Z' H' no rfl (λ_ z=>z.elim) (t.mono ft λa z=>z.elim)
  .cases h
 | rt u η =>
  rw[e] at h;intro v σ' Z' H' D G' A' rp t;rcases h with⟨w,h,q⟩|⟨t,h,q⟩
  .cases h;exact q v Z' H' G' rp A'.own<|t.mono ft λa z=>.inr z
  .cases h
 | ex t η =>
  rw[e] at h;intro v σ' Z' H' D A' rp y pins s1 a C0 od0 ev ha b tr;subst ev;rcases h with⟨w,h,q⟩|⟨t,h,q⟩
  .cases h
  .cases h;exact w9 b ha tr<|q a Z' H' rp<|y.mono ft λa z=>z.elim
 |bk η=>rw[e] at h;rcases h with⟨w,h,q⟩|⟨t,h,q⟩<;>cases h
 |no=>rw[e] at h;rcases h with⟨w,h,q⟩|⟨t,h,q⟩<;>cases h
theorem KA {f:S9}{b:MK}{d:U Str}{k g:Y}{C:M.Call}(c:∀a,C g a=.no):FnOk P w K mg base (CX1 P w) k f b d (spX K C g):=by
 have no:∀{vs H Q E},spX K C g vs H Q E->Tw:=λ⟨Z,a,G,_,_,_,h⟩=>by rcases h with⟨w,h,_⟩|⟨t,h,_⟩<;>(rw[c] at h;cases h)
 exact⟨λ_ _ _ _ h=>(no h).elim,λ_ _ _ _ _ _ _ _ _ _ _ _ _ h=>(no h).elim⟩
end
def jT (P:Td)(w:Mc)(K:L9)(d:Str->I L)(a:To)(n:Y)(C:M.Call)(x:Str)(g:Y):Prop:=
 ∃b c e,FnOk P w K d a (CX1 P w) n b c e (spX K C g)/\d x=O (.ref b)/\Ny K (.ref b)=L7/\Binds K c e []
def wC (K:L9)(l:L2.St->VK)(i:Y->I Y)(C:M.Call)(f:Y)(m:U M.E):TE:=λg H Q=>∃pv Z h k j e,At K ⟨i,pv⟩ g Z H h k no/\M.evL C m k=.ok (j,e) /\
 ((∃ w,C f j=.ok (w,[])/\∀ v d c b G,At K ⟨i,pv⟩ g d c b e G->Rep K d c w.1 w.2 v G->Step Z H (tot h) d c (fun a=>tot b a\/G a)->Q v c) \/
  (∃t,C f j=.ex t/\∀v d c b,At K ⟨i,pv⟩ g d c b e no->Rep K d c .s t v no->Step Z H (tot h) d c (tot b)->l g v c))
def EX (X:Cx)(c:L2.St):XK:=λu _ b=>∀a,u=.ref a->xw X c (.ref a) b
section
variable {X:Cx}{sf:Y->I Y}{C:M.Call}{pos p:Pos}{ea:Tq}{es:U Tq}{bs:U M.E}{x:Str}{n g:Y}{io:U Y}{vs:U Y}{i j:Y}
theorem r6 {k:Y}{f:S9}{y:MK}{v:U Str}{B:Sp}{d:U<|S9×Obj}{o:L2.St}{H:Hp}{s:L8}{Q:VK}{l:U L}{vs:U V}(F:FnOk X.prog X.w X.K X.mg X.base (CX1 X.prog X.w) k f y v B)(P:Room k X.A)(M:Binds X.K y v [])
  (c:Inv X d o H s) (r:Vals vs l) (h:B vs H Q<|EX X o):Tc (Mb X.prog X.w) X.A (call (.ref f) l) (EP X d o Q) X.xe s:=by
 have N:(l++[]).length=v.length:=by rw[MV,<- r.length];exact F.len _ _ _ _ h
 have bd:=M s l c.kIn N;rw[MV] at bd;refine OI<|O9 (F.run X.A X.stack s H ⟨l,[]⟩ l vs Q (EX X o) P c.env0 bd r h) λr s' m=>?_;cases r with
 |error e=>obtain⟨a,D,od,H',rfl,os,bare,un,t,G,tr,q⟩:=m;refine q a rfl d s' a D od rfl G (c.call' os un t bare λb z=>Tg z<|by simp) ?_;obtain⟨oe,ws,e1,e2,e3⟩:=tr;refine⟨oe,ws,e1,e2,e3.imp id λ⟨T,Z,ts,y1,y2,y3,y4,y5,y6,y7⟩=>⟨T,Z,ts,y1,y2,y3,y4,y5,Mt c.sz y6,y7⟩⟩
 |ok fl=>
  cases fl with
  |ret u=>exact c.after m
  |next=>exact MQ m
  |brk=>exact MQ m
  |cont=>exact MQ m
theorem G7 (c:jT X.prog X.w X.K X.mg X.base n C x g)(hr:Room n X.A)(ha:SL X sf C (ea::es) bs)(hg:Gl X x:=by rfl)(D:(x==("__debug__":Str))=false:=by decide)
  (he:Me (ea::es) X.env=(L5,Tx ea X.env)::Me es X.env:=by rfl) (M:(Mp pos<|Me es X.env).any (·.1)=false:=by rfl):PE X (.Call (.Name x p) (ea::es) [] pos) (wC X.K (xw X) sf C g bs):=by
 obtain⟨fa,fd,ps,F,hm,hk,hb⟩:=c;intro f s σ H Q b h;obtain⟨pv,Z,Fs,η,ws,η',A,ev,h⟩:=h;refine O6<|eG b hg hm ?_ D;refine P0 (h₀:=X.base) b.ok.mod.kin hk (thn (ha pos f s σ H (λvs l=>spX X.K C g vs l Q<|EX X σ) b ⟨pv,Z,Fs,η,ws,η',A,ev,λvs Z1 l d G B r st=>?_⟩) λus s1 ⟨vs,l,I1,r,q⟩=>⟨I1.kIn,?_⟩) he M
 .refine ⟨Z1,ws,G,r,B.own,B.gd.zal,?_⟩;rcases h with⟨w,e,q⟩|⟨t,e,q⟩
  .refine .inl ⟨w,e,fun v u m G1 N o P=>?_⟩;obtain⟨k,s3⟩:=B.op o P;exact q v u m d G1 k N<|st.trans s3
  .refine .inr ⟨t,e,fun a u m N P=>?_⟩;obtain⟨k,s3⟩:=B.op (λ_ z=>z.elim) P;intro a' y;cases y;exact q (.ref a) u m d k N<|(st.trans s3).mono (λ_ z=>z) λa z=>.inl z
 .exact r6 F hr hb I1 r q
theorem ID {k:M.W->M.Env->M.Fl}{K:L9}{s:L2.St->VK}{pv:Y->I V}{Z:Fp}{H:Hp}{d:Fps}{P:M.Env}{D:cx}{u:L2.St}{Q:VK}(A:At K ⟨sf,pv⟩ u Z H d P no)
  (f:Fin K s ⟨sf,pv⟩ Z H (tot d) D<|M.Fl.of P (M.evL C bs<|M.share vs P)<|M.kC C g k)
  (q:∀w c v o m b G,Fin K s ⟨sf,pv⟩ Z H (tot d) D (k w c)->At K ⟨sf,pv⟩ u o m b c G->Rep K o m w.1 w.2 v G->Step Z H (tot d) o m (λa=>tot b a\/G a)->Q v m):wC K s sf C g bs u H Q:=by
 obtain⟨⟨N,c⟩,h1,h⟩:=bx f;have h:Fin K s ⟨sf,pv⟩ Z H (tot d) D (M.outC k c (C g N)):=h;obtain⟨A1,s1⟩:=A.share (vs:=vs);have s0:Step Z H (tot d) (λa=>Z a\/cZ d vs a) H (tot (fS d vs)):=(s1<|(Step.refl Z H<|tot d).mono (λ_ z=>z) λa z=>z.elim id λy=>y.elim).mono (λ_ z=>z) λa z=>.inl z;refine⟨pv,_,_,_,N,c,A1,h1,?_⟩;cases e:C g N with
 |no=>rw[e] at h;exact h.elim
 |ex t=>rw[e] at h;exact .inr ⟨t,rfl,λv o m b B r F=>h v u o m b B r<|s0.trans F⟩
 |ok p=>
  obtain⟨w,l⟩:=p;rw[e] at h;cases l with
  |cons _ _=>exact h.elim
  |nil=>exact .inl ⟨w,rfl,λv o m b G B r F=>q w c v o m b G h B r<|s0.trans F⟩
theorem Jx (j:Y){i:Y}{x:Str}{b:Pos}(u:X.N.Nodup)(c:PE X ea<|wC X.K (xw X) sf C g bs)(F:i ∉ io:=by decide)(Q:sf i=O j:=by rfl)(P:X.N[j]?=O x:=by rfl)(hx:L2.Loc X.env.scope x:=by first|exact Mz rfl|exact Ms rfl)
  (d:Nl ea (O<|.Name x b) pos.line X.env=pure false:=by rfl) (y:X.fn x=L7\/X.env.scope.names.lookup x=O .local:=by first|exact .inl rfl|exact .inr rfl):SS X sf io C (.Assign [.Name x b] ea pos) (.asgC vs i g bs):=
 cR (kJ (i:=j) u P hx c d y) λD σ H h=>by obtain⟨pv,Z,l,η,N,A,f⟩:=h;exact ID (k:=M.kAsgC i) (vs:=vs) A f λw e v s o m G t B r st=>(show Fin X.K (xw X) ⟨sf,pv⟩ Z H (tot l) D (.nx<|M.put e i w) from t) _ s o _ (At.set N F Q B r)<|st.mono (λ_ z=>z) λa c=>aK c
end
theorem At.drop {K:L9}{d:Y->I Y}{pv:Y->I V}{p:U Y}{h:L2.St}{Z:Fp}{H:Hp}{k:Fps}{g:M.Env}{G:Fp}{i j:Y}(N:rG d p pv)(x:i ∉ p)(n:d i=O j)(A:At K ⟨d,pv⟩ h Z H k g G):At K ⟨d,pv⟩ (h.set j J) Z H k (M.del g i) G:=by
 refine⟨A.gd,λl m t e=>?_,A.own,A.dis,λl u q o b=>?_,λl q b=>by rw[Ql];exact A.ln l q b⟩
 .have c:M.rd (M.wr g i J) l=O (m,t):=e;rw[cA] at c;split at c
  .cases c
  .rename_i f;have a:l≠i:=λz=>f ⟨z,by rw[<- z];exact eU c⟩;obtain⟨v,r,s,w⟩:=A.env l m t c;refine⟨v,r,λq b=>?_,w⟩;have:q≠j:=λz=>a<|N.inj l i j (by rw[<- z];exact b) n;rw[ON<|MI this];exact s q b
 .have a:l≠i:=fun z=>by have:=N.io i x;rw[<- z,show pv l=O u from o] at this;cases this
  have:q≠j:=λz=>a<|N.inj l i j (by rw[<- z];exact b) n;show(h.set j J)[q]?=_;rw[ON<|MI this];exact A.lk l u q o b
theorem Fin.wish {K:L9}{W d:L2.St->VK}{e:Cf}{Z:Fp}{H:Hp}{F:Fp}{D:cx}{fl:M.Fl}(h:∀g v H,W g v H->d g v H)(f:Fin K W e Z H F D fl):Fin K d e Z H F D fl:=by
 cases fl with
 |nx b=>exact f
 |rt w b=>exact f
 |bk b=>exact f
 |ex t b=>exactλv c j i a A r s=>h _ _ _<|f v c j i a A r s
 |no=>exact f
section
variable {X:Cx}{sf:Y->I Y}{C:M.Call}{pos pos' p:Pos}{io:U Y}{cs:U Y}{cn x:Str}{i:Y}{B:S9}{upB:U L}{body suite:U Tz}{b₀:Tz}{ms hs:U M.S}
theorem JX (j:Y)(hN:X.N.Nodup)(cb:∀h,X.K.In h->∃N' g,ik h B N' upB g)(hub:d7 upB=L7)(hm:X.mg cn=O (.ref B))(hcs:∀c∈cs,∀C,XNm X.K c C->∃f up,XC X.K C f up/\(Value.ref C::up).contains (.ref B)=L7)
  (hb:∀P pn,SSs (L3.tx X P pn) sf io C body ms) (hh:∀a,SSs (L3.hx X a) sf io C (b₀::suite) hs)
  (hst:X.stack=X.env::X.outer:=by rfl) (hf:X.env.frame=O X.env.locals:=by rfl) (hi:i ∉ io:=by decide) (m:sf i=O j:=by rfl) (hj:X.N[j]?=O x:=by rfl) (hk:X.env.scope.names.lookup x=O .local:=by rfl) (hg:Gl X cn:=by rfl) (hdb:(cn==("__debug__":Str))=false:=by decide):
  SS X sf io C (.Try body [.ExceptHandler (O<|.Name cn p) (O x) (b₀::suite) pos'] [] [] pos) (.tryC cs ms i hs):=by
 refine cR (yy (i:=j) (tb:=λW=>wSs X.K W sf io C ms) (th:=λa=>wSs X.K (xw<|L3.hx X a) sf io C hs) hst hf hN hj hk hg hm cb hub (λP pn=>hb P pn) hh hdb λW W' D σ H h ⟨pv,Z,o,F,N,A,f⟩=>⟨pv,Z,o,F,N,A,Fin.wish h f⟩) λD σ H h=>?_;obtain⟨pv,Z,o,F,N,A,f⟩:=h;have f:Fin X.K (xw X) ⟨sf,pv⟩ Z H (tot o) D (M.Fl.caught cs i (M.evSs C hs) (M.evSs C ms F)):=f;refine⟨pv,Z,o,F,N,A,?_⟩;cases e:M.evSs C ms F with
 |nx d=>rw[e] at f;exact f
 |rt w d=>rw[e] at f;exact f
 |bk d=>rw[e] at f;exact f
 |no=>rw[e] at f;exact f
 | ex t d =>
  rw[e] at f;intro v σ' Z' H' u A' r st;cases t with
  | ins c fs vs =>
   have f:Fin X.K (xw X) ⟨sf,pv⟩ Z H (tot o) D (if cs.contains c=L7 then M.Fl.drop i (M.evSs C hs (M.put d i (.s,.ins c fs vs))) else .no):=f;split at f
   .rename_i hcc;have r0:=r;obtain⟨_,a,dx,Cc,xs,rfl,z1,z2,e1,e2,l,nm,_⟩:=r;obtain⟨fI,up,xc,hu⟩:=hcs c (by simpa using hcc) Cc nm;have A2:=At.set (w:=(.s,.ins c fs vs)) N hi m A' r0;have f:=f.step st;refine⟨a,Cc,O dx,fI,up,rfl,e1,xc,hu,pv,Z',_,_,N,A2,?_⟩;have tf:∀b,tot (lC u i no) b->tot u b:=λb z=>(aK z).elim id λy=>y.elim;cases e3:M.evSs C hs (M.put d i (.s,.ins c fs vs)) with
    |nx n=>rw[e3] at f;exactλσ2 Z2 Q k G s2=>f _ Z2 Q k (At.drop N hi m G)<|s2.mono tf λ_ z=>z
    |rt w n=>rw[e3] at f;exactλv2 σ2 Z2 Q k G2 G r3 s2=>f v2 _ Z2 Q k G2 (At.drop N hi m G) r3<|s2.mono tf λ_ z=>z
    |bk n=>rw[e3] at f;exact f.elim
    |ex t n=>rw[e3] at f;exact f.elim
    |no=>rw[e3] at f;exact f.elim
   .exact f.elim
  |_=>exact f.elim
end
end MR

namespace MR
open PySem PySem.Spec PyProof.Rows L2 L3
section
variable {X:Cx}{sf:Y->I Y}{C:M.Call}{pos p p2 p3:Pos}{ea:Tq}{a:M.E}{h:Ta}{k fld:Str}{cs:U Y}{cv:L}{rv:V}
theorem zc {K:L9}{Z:Fp}{H:Hp}{m:M.Md}{c:Y}{fs:U Str}{g:U M.T}{v:V}{G:Fp}(r:Rep K Z H m (.ins c fs g) v G):∃a b d,v=.ref a/\H a=O (XO a c (O b) L5)/\H b=O (.xd<|fs.zip d)/\fs.length=g.length/\XF K c/\RepL K Z H .s g d (λ_=>Tw):=by obtain⟨_,a,b,C,d,e,_,_,i,j,l,⟨rfl,f⟩,r⟩:=r;exact⟨a,b,d,e,i,j,l,f,r⟩
theorem DM (ha:SE X sf C ea a)(hn:∀c:Y,XF X.K c->MB X.K (.ref c) fld=O J)(hb:NT ea fld X.env (Tx ea X.env)=Tx ea X.env:=by rfl):SE X sf C (.Attribute ea fld pos) (.op (.att fld) h [a]):=
 aj (zY ha hb) fun σ H Q hw=>by
  obtain⟨pv,Z,D,η,w,i,A,ev,k⟩:=hw;obtain⟨ws,h1,o⟩:=b8 ev;obtain⟨⟨m,u⟩,η1,us,e1,e2,rfl⟩:=aq h1;cases e2;cases u with
  | ins c fs vs =>
   have h3:((M.lookF fld fs vs).map λt=>((M.lfM t,t):M.W))=O w:=o;obtain⟨t,ht,P⟩:=PY.mp h3;subst P;refine⟨pv,Z,D,η,_,i,A,e1,λx n j g G B r s=>?_⟩;obtain⟨F,N,xs,e,q1,q2,l,f,rl⟩:=zc r;obtain⟨y,ly,mf,v⟩:=jl ht rl;refine⟨F,c,N,L5,_,y,e,q1,q2,f,hn c f,ly,?_⟩;refine k y n j g no B.bare ?_<|s.mono (λ_ z=>z) λb z=>z.elim .inl λy=>y.elim;show Rep X.K n j (if t.leaf=L7 then .d else .s) t y no;split
   .rename_i hl;exact v.leaf (λ_ _ _ q=>q) hl
   .exact v
  |_=>cases o
end
end MR

namespace MR
open PySem PySem.Spec PyProof.Rows L2 L3
structure XBs (K:L9)(mg:Str->I L)(x:Str)(B:Y)(cs:U Y):Prop where
 nm:mg x=O (.ref B)
 cb:∃upB,d7 upB=L7/\∀h,K.In h->∃N' names',ik h B N' upB names'
 cs:∀c∈cs,∃f up,XC K c f up/\(Value.ref c::up).contains (.ref B)=L7
section
variable {X:Cx}{sf:Y->I Y}{C:M.Call}{pos pos' p p2 p3:Pos}{ea:Tq}{a:M.E}{x k fld cn:Str}{c B n i C' fk:Y}{io cs:U Y}{xx:M.X}{h:Ta}{body suite:U Tz}{b₀:Tz}{ms hs:U M.S}
theorem Hd (j:Y)(l:X.N.Nodup)(b:XBs X.K X.mg cn B cs)(m:∀g y,SSs (L3.tx X g y) sf io C body ms)(t:∀a,SSs (L3.hx X a) sf io C (b₀::suite) hs)
  (f:X.stack=X.env::X.outer:=by rfl) (r:X.env.frame=O X.env.locals:=by rfl) (u:i ∉ io:=by decide) (e:sf i=O j:=by rfl) (v:X.N[j]?=O x:=by rfl) (hk:X.env.scope.names.lookup x=O .local:=by rfl) (s:Gl X cn:=by rfl) (d:(cn==("__debug__":Str))=false:=by decide):
  SS X sf io C (.Try body [.ExceptHandler (O<|.Name cn p) (O x) (b₀::suite) pos'] [] [] pos) (.tryC cs ms i hs):=by
 obtain⟨z,w,cb⟩:=b.cb;exact JX j l cb w b.nm (λc o A nm=>by obtain⟨rfl,_⟩:=nm;exact b.cs c o) m t f r u e v hk s d
end
section
variable {P:Td}{w:Mc}{K:L9}{mg:Str->I L}{base:To}{x:Str}{st:Tz}{ps N:U Str}{n g:Y}{C C':M.Call}{fn:M.Fn}
theorem Df.okX (e:Df K mg x st ps)(h:∀f a,L2.Fun K x x st f a->FnOk P w K mg base (CX1 P w) n f a ps (spX K C g)):jT P w K mg base n C x g:=by obtain⟨f,a,F,b,m⟩:=e.ex;exact⟨f,a,ps,h f a F,m,F.kp,b⟩
theorem Df.zX (e:Df K mg x st ps)(a:∀b,C g b=.no:=by intro _;rfl):jT P w K mg base n C x g:=e.okX λ_ _ _=>KA a
theorem Df.sX (e:Df K mg x st ps)(fn:M.Fn)(S:bH N ps<|defScope st)
  (l:∀{f:S9} {b:L} {A:Mh} {a:U Env} {s:L8} {H:Hp} {E:XK},Room n (A.deeper<|Nc x (defScope st) s.heap.objs.size f b)->SSs (gq (CX1 P w) P w K mg base N x (defScope st) f b A a s H E) (slN N.length) [] C (defBody st) fn.body)
  (k:∀j,C' g j=M.runF C fn j:=by intro _;rfl) (i:fn.ps=ps.length:=by rfl) (d:ps.length<=N.length:=by decide) (c:fn.io=[]:=by rfl):jT P w K mg base (n+1) C' x g:=
 e.okX λf m F=>Fun.okX F S i d c (λ_ _ _ _ _ _ h=>l h) k
end
end MR

namespace MR
open PySem PySem.Spec PyProof.Rows L2 L3
def CK (K:L9)(C:S9)(up:U L)(a:ClassData)(b:Tv<|I L):Ta:=
 (match b.toList with|[_,_,_,_,O<|.builtin m,_]=>m=="Exception.__new__" |_=>L5)&&(a.mro==.ref C::up&&(!a.hasDel&&PySem.W.nsOkIn K a.ns))
def v9 (K:L9)(C:S9)(up:U L):Ta:=match K.lookup C with
|some ⟨.type "type",_,.cls a,b⟩=>CK K C up a b
|_=>L5
theorem pJ {K:L9}{h:To}{N:S9}{b:Str->I L}{x:Str}{r:I L}(X:K.In h)(G:h.Ns N b)(e:M3 K N x=O r):b x=r:=by
 cases r with
 |none=>exact PySem.W.ns_none_of X G e
 | some v =>
  obtain⟨o,a,ep,ho,c,_,d⟩:=G;rw[<- d x];unfold M3 at e;split at e
  .rename_i q;cases(X _ _ q).symm.trans ho;cases c;cases z:a.toList.find? (λy=>y.key.isStr x) with
   |none=>rw[z] at e;dsimp only at e;split at e<;>cases e
   |some en=>rw[z] at e;cases e;show(a.find? λy=>y.key.isStr x).map (·.val)=_;rw[<- Rl,z];rfl
  .cases e
theorem Eh {K:L9}{C:S9}{up:U L}(e:v9 K C up=L7):∃N,∀h,K.In h->ik h C N up (h.nsMap N)/\∀x r,M3 K N x=O r->h.nsMap N x=r:=by
 unfold v9 at e;split at e
 .rename_i u t s ho;unfold CK at e;rw[Mv] at e;obtain⟨e1,e2⟩:=e;split at e1
  .rename_i j k n o m p i;simp only[Mv,TQ,Pj] at e1 e2;obtain⟨g,a,b⟩:=e2;obtain⟨nm,bs,w,y,z,v,A,f,ab,c,del⟩:=t;dsimp only at g a b;subst g a e1;have d:s=#[j,k,n,o,O (.builtin "Exception.__new__"),p]:=by obtain⟨l⟩:=s;simp only at i;rw[i]
   subst d;exact⟨y,λh X=>⟨⟨⟨nm,z,bs,v,A,f,ab,c,u,j,k,n,o,p,X _ _ ho⟩,.of_isNs<|Sf X b⟩,λx r q=>pJ X (.of_isNs<|Sf X b) q⟩⟩
  .cases e1
 .cases e
def fnB (K:L9)(f:S9):Ta:=match K.lookup f with
|some ⟨.type "function",_,_,_⟩=>L7
|_=>L5
def nH (K:L9)(C:S9):S9:=match K.lookup C with
|some ⟨_,_,.cls a,_⟩=>a.ns
|_=>0
def xcB (K:L9)(C f:S9)(up:U L):Ta:=
 v9 K C up&&(M3 K (nH K C) "__init__"==O (O<|.ref f)&&(PySem.W.tailIn K VE up&&(fnB K f&&(Ny K (.ref C)&&(MB K (.ref C) "__setattr__"==O (O<|.builtin "object.__setattr__")&&((Pd K C).any (λa=>d7 a.mro)&&N3 K C))))))
theorem n5 {K:L9}{C:S9}{up:U L}(e:v9 K C up=L7):∀h,K.In h->ik h C (nH K C) up (h.nsMap<|nH K C)/\∀x r,M3 K (nH K C) x=O r->h.nsMap (nH K C) x=r:=by
 obtain⟨N,q⟩:=Eh e
 have:∀h,K.In h->N=nH K C:=λh X=>by
  obtain⟨⟨nm,m,bs,f,n,c,ab,b,d,g,i,j,k,l,ho⟩,_⟩:=(q h X).1;unfold v9 at e;unfold nH;split at e
  .rename_i a;rw[a];cases(X _ _ a).symm.trans ho;rfl
  .cases e
 intro h X;rw[<- this h X];exact q h X
theorem HM {K:L9}{C f:S9}{up:U L}(e:xcB K C f up=L7):XC K C f up:=by
 unfold xcB at e;simp only[Mv,TQ] at e;obtain⟨e1,e2,e3,a,b,c,d,g⟩:=e;refine⟨λh X=>⟨_,_,(n5 e1 h X).1,PySem.W.tail_of_in X e3,(n5 e1 h X).2 _ _ e2⟩,λh X=>?_,b,c,d,g⟩;unfold fnB at a;split at a
 .rename_i i;exact⟨_,X _ _ i,rfl⟩
 .cases a
def xfB (K:L9)(C:S9):Ta:=
 MB K (.ref C) "__getattribute__"==O (O<|.builtin "BaseException.__getattribute__")&&(MB K (.ref C) "__getattr__"==O J&&(Qq K (.ref C) (.type "BaseException")==O L7&&(N3 K C&&(MB K (.ref C) "__class__"==O (O<|.builtin "object.__class__")&&(Rb K (.builtin "object.__class__") "__get__"==O (O<|.builtin "getset_descriptor.__get__")&&(Qn K (.builtin "object.__class__")==O L7&&PM K C (.type "object")==O L7))))))
theorem Ig {K:L9}{C f:S9}{up:U L}(c:XC K C f up)(i:d7 up=L7)(e:xfB K C=L7):XF K C:=by unfold xfB at e;simp only[Mv,TQ] at e;obtain⟨e1,e2,e3,a,b,d,g,h⟩:=e;exact⟨⟨f,up,c,i⟩,⟨e1,e2,e3⟩,a,b,d,g,h⟩
def IE (K:L9)(p:Y->Ta):Ta:=K.all λq=>!((Pd K q.1).any λa=>d7 a.mro) || p q.1
theorem Dd {K:L9}{p:Y->Ta}(e:IE K p=L7){c:Y}(x:XF K c):p c=true:=by
 obtain⟨f,up,i,_⟩:=x.xc;have g:=i.po;obtain⟨n,d,_⟩:=Ph g
 have:∃o,(c,o)∈K:=by
  unfold Pd at d;split at d
  .rename_i j;have b:NB c K=O _:=j;clear d g i e x;induction K with
   |nil=>cases b
   | cons q r k =>
    obtain⟨a,o⟩:=q;rw[M5] at b;by_cases z:c=a
    .exact⟨o,by rw[z];exact ML ..⟩
    .rw [show (c==a)=L5 from TJ z] at b;obtain⟨l,h⟩:=k b b;exact⟨l,MG _ h⟩
  .cases d
 obtain⟨o,m⟩:=this;have q:=Nd.mp e (c,o) m;rw[g] at q;exact q
end MR




namespace MR
open PySem
section
variable {p:U L->Prop}
theorem u0 (h:p [])(a:U L)(e:a.length=0):p a:=by cases a;exact h;cases e
theorem uS {n:Y}(h:∀a b,Qg b=n->p (a::b))(b:U L)(e:b.length=n+1):p b:=by
 cases b with
 |nil=>cases e
 |cons a r=>exact h a r<|N4 e
theorem u1 (h:∀a,p [a])(b:U L)(e:b.length=1):p b:=uS (λa=>u0<|h a) b e
theorem u2 (h:∀a b,p [a,b])(c:U L)(e:c.length=2):p c:=uS (λa=>u1<|h a) c e
theorem u3 (h:∀a b c,p [a,b,c])(d:U L)(e:d.length=3):p d:=uS (λa=>u2<|h a) d e
end
end MR









namespace MR
open L2 L3 M
open PySem (Addr Str sizeLine)
section
variable {K:L9}{Wx:L2.St->VK}{sf:Y->I Y}{C:Call}{io:U Y}
theorem wB {x:X}{t k l j j' j2:Y}{e:E}(hi:t ∉ io)(M:k ∉ io)(P:l ∉ io)(hs:sf t=O j)(Q:sf k=O j')(hs2:sf l=O j2)(D:cx)(σ:L2.St)(H:Hp)(h:wS K Wx sf io C (.asgT x [t,k,l] e) D σ H):
  mi (wE K sf C e) (uW K 3<|dS (cj j)<|dS (cj j')<|dS (cj j2) sZ) D σ H:=by
 obtain⟨pv,Z,Fs,η,N,A,f⟩:=h;obtain⟨⟨w,i⟩,h1,h2⟩:=bx<|show Fin K Wx ⟨sf,pv⟩ Z H (tot Fs) D (Fl.of η (evX C x e η)<|mT [t,k,l]) from f;obtain⟨η2,h3,h4⟩:=eF<|show Fin K Wx ⟨sf,pv⟩ Z H (tot Fs) D (nxO i<|(Ab w).bind λws=>bindT [t,k,l] ws i) from h2;refine lr (sl:=⟨sf,pv⟩) A h1 λv Z' H' Fs' G B r s=>?_;obtain⟨m,t0⟩:=w;cases t0 with
 | tup ts =>
  have g:bindT [t,k,l] (ts.map λt=>(m.kid,t)) i=O η2:=h3
  match ts,g with
  | [a,b,c],g =>
   cases g;obtain⟨p,xs,rfl,hq,hl,y1,r1,G1,G2,rfl,g1,n,d,p1,y2,r2,G3,G4,e2,y,F,d2,p2,u,r3,G5,G6,e3,o,g6,d3,p3,q⟩:=r;cases e2;cases e3;obtain rfl:r3=[]:=q;have B1:=At.setR (w:=(m.kid,a)) (R:=λa=>G3 a\/G5 a) N hi hs B p1 g1 (λa h=>h.elim (λh=>n a<|y a h) λh=>n a<|F a<|o a h) λa h z=>h.elim (λh=>d a z<|y a h) λh=>d a z<|F a<|o a h;have B2:=At.setR (w:=(m.kid,b)) (R:=G5) N M Q B1 p2 (λa h=>.inl h) (λa h=>.inr h) λa h z=>d2 a z<|o a h;have B3:=At.set (w:=(m.kid,c)) N P hs2 B2 p3;refine⟨p,[y1,y2,u],rfl,hq,rfl,y1,[y2,u],rfl,y2,[u],rfl,u,[],rfl,rfl,h4 _ Z' H' _ B3<|s.mono (λ_ z=>z) λa h=>?_⟩;rcases aK h with h|h
   .rcases aK h with h | h
    .exact(aK h).imp id (g1 a)
    .exact .inr (n a<|y a h)
   .exact .inr (n a<|F a<|o a h)
  |[],g=>cases g
  |[_],g=>cases g
  |[_,_],g=>cases g
  |_::_::_::_::_,g=>cases g
 |_=>cases h3
end
end MR
namespace MR
open PySem PySem.Spec PyProof.Rows L2 L3
section
variable {X:Cx}{sf sg:Y->I Y}{C:M.Call}{pos p p2 p3:Pos}{ea eb ec:Tq}{a b c:M.E}{h:Ta}{n:Y}{io:U Y}{K:L9}
theorem vR (j l k:Y){t u v:Y}{x y z:Str}{A B D pt:Pos}{w:Y}{xx:M.X}(d:X.N.Nodup)(F:SE X sf C ea a)(P:t ∉ io:=by decide)(g:u ∉ io:=by decide)(m:v ∉ io:=by decide)(hs:sf t=O j:=by rfl)(o:sf u=O l:=by rfl)(r:sf v=O k:=by rfl)(Q:X.N[j]?=O x:=by rfl)(Z:X.N[l]?=O y:=by rfl)(hk:X.N[k]?=O z:=by rfl)
  (hx:L2.Loc X.env.scope x:=by first|exact Mz rfl|exact Ms rfl) (hy:L2.Loc X.env.scope y:=by first|exact Mz rfl|exact Ms rfl) (hz:L2.Loc X.env.scope z:=by first|exact Mz rfl|exact Ms rfl) (G:X.calm=true:=by rfl)
  (H:X.fn x=L7\/X.env.scope.names.lookup x=O .local:=by first|exact .inl rfl|exact .inr rfl) (e:X.fn y=L7\/X.env.scope.names.lookup y=O .local:=by first|exact .inl rfl|exact .inr rfl) (f:X.fn z=L7\/X.env.scope.names.lookup z=O .local:=by first|exact .inl rfl|exact .inr rfl)
  (s:P6 [.Tuple [.Name x A,.Name y B,.Name z D] w pt] ea pos.line X.env=pure false:=by rfl) (hw:P5 [.Tuple [.Name x A,.Name y B,.Name z D] w pt] ea X.env=pure none:=by rfl):
  SS X sf io C (.Assign [.Tuple [.Name x A,.Name y B,.Name z D] w pt] ea pos) (.asgT xx [t,u,v] a):=
 cR (oY F (kY (n:=3) G<|bB (bg (i:=j) d Q hx H)<|bB (bg (i:=l) d Z hy e)<|bB (bg (i:=k) d hk hz f) fP) s hw) (wB P g m hs o r)
end
end MR






namespace MR
open PySem PySem.Spec PyProof.Rows L2 L3
section
variable {X:Cx}{sf:Y->I Y}{C:M.Call}{pos p p2:Pos}{ea:Tq}{es:U Tq}{a:M.E}{bs:U M.E}{h:Ta}{x fld:Str}{n:Y}{K:L9}{Z:Fp}{H:Hp}{m:M.Md}{c:Y}{fs:U Str}{vs:U M.T}{v:V}{G:Fp}
theorem yq (r:Rep K Z H m (.obj c fs vs) v G):∃a b d,v=.ref a/\H a=O (.ins c b<|fs.zip d)/\H b=O (.own a)/\sH K c fs/\fs.length=vs.length/\RepL K Z H .s vs d no:=by
 obtain⟨_,a,b,d,e,q,g,l,r⟩:=r;have f:H a=O (.ins c b (fs.zip d))/\H b=O (.own a):=by cases m<;>exact q.2.2
 exact⟨a,b,d,e,f.1,f.2,g,l,r⟩
theorem j5 (ha:SE X sf C ea a)(hb:NT ea fld X.env (Tx ea X.env)=Tx ea X.env:=by rfl):SE X sf C (.Attribute ea fld pos) (.op (.attP fld) h [a]):=
 aj (FR ha hb) fun σ H Q hw=>by
  obtain⟨pv,Z,N,η,w,g,A,ev,k⟩:=hw;obtain⟨ws,h1,D⟩:=b8 ev;obtain⟨⟨m,u⟩,η1,us,e1,e2,rfl⟩:=aq h1;cases e2;cases u with
  | obj c fs vs =>
   have h3:((M.lookF fld fs vs).map λt=>((M.lfM t,t):M.W))=O w:=D;obtain⟨t,ht,ew⟩:=PY.mp h3;subst ew;refine⟨pv,Z,N,η,_,g,A,e1,λx j i f G B r s=>?_⟩;obtain⟨P,dx,xs,e,q1,q2,o,l,rl⟩:=yq r;obtain⟨y,ly,mf,F⟩:=jl ht rl;refine⟨P,c,dx,_,y,e,q1,o.1,o.2 fld mf,ly,?_⟩;refine k y j i f no B.bare ?_<|s.mono (λ_ z=>z) λb z=>z.elim .inl λy=>y.elim;show Rep X.K j i (if t.leaf=L7 then .d else .s) t y no;split
   .rename_i hl;exact F.leaf (λ_ _ _ q=>q) hl
   .exact F
  |_=>cases D
def spP (c:Y)(fs:U Str)(d:U Int):Sp:=λvs H Q _=>∃a e b,vs=.ref a::b/\fs.length=b.length+d.length/\H a=O (.ins c e [])/\Q .non (upd H a<|.ins c e<|fs.zip<|b++d.map V.int)
theorem qq:∀b:U M.W,(b.map λw=>w.2)=M.trees b
|[]=>rfl
|w::b=>by rw[ME,qq b];rfl
theorem jX {Z:Fp}{H:Hp}:∀b:U Int,RepL K Z H .s (b.map M.T.int) (b.map V.int) no
|[]=>rfl
|i::b=>⟨.int i,b.map V.int,no,no,rfl,λ_ z=>z,λ_ z=>z,λ_ z=>z.elim,rfl,jX b⟩
theorem Dl {i:U Int}(cf:sH K c fs)(σ:L2.St)(H:Hp)(Q:VK)(hw:wE K sf C (.op (.mkP c fs i) h bs) σ H Q):wL K sf C bs σ H (λvs B=>∀x d,B x=J->B d=J->d≠x->spP c fs i (.ref x::(vs++[])) (upd (upd B d<|.own x) x<|.ins c d []) (λv f=>v=.non/\Q (.ref x) f) E0):=by
 obtain⟨pv,Z,Fs,η,w,η',A,ev,k⟩:=hw;obtain⟨r,h1,h2⟩:=b8 ev;have D:(if decide (fs.length=r.length+i.length)=L7 then O ((.o .s,.obj c fs ((r.map λw=>w.2)++i.map M.T.int)):M.W) else J)=O w:=h2;split at D
 case isFalse=>cases D
 rename_i l;have l:=Ts l;cases D;refine⟨pv,Z,Fs,η,r,η',A,h1,λvs t f Fs2 G2 y r2 st x d hx F P=>?_⟩;have hvl:vs.length=r.length:=r2.length;rw[MV];refine⟨x,d,vs,rfl,by rw[hvl];exact l,ah,rfl,?_⟩;rw[fU];have o:=cH y st k;have ne:∀{b u},f b=O u->b≠x/\b≠d:=λ{b u} e=>⟨(λq=>by subst q;rw[hx] at e;cases e),(λq=>by subst q;rw[F] at e;cases e)⟩;have j:∀b u,f b=O u->upd (upd f d (.own x)) x (.ins c d (fs.zip (vs++i.map V.int))) b=O u:=λb u e=>by obtain⟨n1,n2⟩:=ne e;rw[ag n1,ag n2];exact e
 have gx:upd (upd f d (.own x)) x (.ins c d (fs.zip (vs++i.map V.int))) x=O (.ins c d (fs.zip (vs++i.map V.int))):=ah;have gd:upd (upd f d (.own x)) x (.ins c d (fs.zip (vs++i.map V.int))) d=O (.own x):=by rw[ag P,ah]
 have al:∀b,f b≠J->upd (upd f d (.own x)) x (.ins c d (fs.zip (vs++i.map V.int))) b≠none:=λb e=>by
  cases q:f b with
  |none=>exact Tg q e
  |some u=>rw[j b u q];simp
 obtain⟨G',g1,rl⟩:=r2.to (N:=.s) λw _=>by cases M.lf w.1 w.2<;>rfl
 have rl2:RepL K (λb=>t b\/G2 b) f .s (M.trees r) vs no:=(RepL.sh rl).zmono λb h=>h.elim (λh=>h.imp id Om) λh=>.inr<|g1 b h;have rl3:RepL K (λb=>t b\/G2 b) f .s (M.trees r++i.map M.T.int) (vs++i.map V.int) no:=RepL.append (λ_ z=>z) (λ_ z=>z) (λ_ z=>z.elim) rl2<|jX i;generalize hH:upd (upd f d<|.own x) x (.ins c d<|fs.zip<|vs++i.map V.int)=H3 at *;have sy:Stay (λb=>t b\/G2 b) f H3:=⟨λb u _ e=>j b u e,λb xs e=>e.imp (j b _) λ⟨u,q⟩=>⟨u,j b _ q⟩,λb u w e=>j b _ e⟩;have nn:∀b,G2 b->f b≠none:=λb g=>by obtain⟨_,xs,e⟩:=y.own b g;rw[e];simp
 have nz:∀b,(t b\/G2 b)->b≠x/\b≠d:=λb g=>by have:f b≠none:=g.elim (y.gd.zal b)<|nn b;exact⟨λq=>this<|by rw[q];exact hx,λq=>this<|by rw[q];exact F⟩
 refine o (.ref x) (λb=>t b\/G2 b) H3 (λb=>b=x\/b=d) ⟨(λz=>by cases z),x,d,_,rfl,⟨.inl rfl,.inr rfl,gx,gd⟩,cf,?_,?_⟩ ?_ ?_
 .rw[MA,Mg,Mg];exact l
 .rw [qq];exact(rl3.keep sy (λ_ z=>z) λ_ _ z=>z.elim).mono λ_ z=>z
 .rintro b (rfl | rfl)
  .exact⟨λz=>(nz _ z).1 rfl,.ins _ _ _,gx⟩
  .exact⟨λz=>(nz _ z).2 rfl,.own _,gd⟩
 .exact⟨λb u e _=>j b u e,λ_ z=>.inl z,λb z=>z.elim .inl λg=>.inr<|.inl g,λb z=>.inr (z.elim (λe=>by rw[e];exact hx) λe=>by rw[e];exact F),al,λz b q=>al b<|q.elim (z b)<|nn b⟩
structure PCl (P:Td)(w:Mc)(K:L9)(mg:Str->I L)(base:To)(x:Str)(c:Y)(fs:U Str)(cs:U Int):Prop where
 ex:∃f fd ps,Mk K c f/\Binds K fd ps []/\∀k,FnOk P w K mg base CX0 (k+1) f fd ps (spP c fs cs)
 cf:sH K c fs
 nm:mg x=O (.ref c)
theorem K7 {e:U Int}(r:PCl X.prog X.w X.K X.mg X.base x c fs e)(l:Room (n+2) X.A)(g:SL X sf C (ea::es) bs)(k:Gl X x:=by rfl)(b:(x==("__debug__":Str))=false:=by decide)(j:Me (ea::es) X.env=(L5,Tx ea X.env)::Me es X.env:=by rfl)(d:(Mp pos<|Me es X.env).any (·.1)=false:=by rfl):
  SE X sf C (.Call (.Name x p) (ea::es) [] pos) (.op (.mkP c fs e) h bs):=by
 obtain⟨f,o,s,M,i,F⟩:=r.ex;exact aj (zd M (F n) l k r.nm i .nil ql g b j d)<|Dl r.cf
end
end MR





namespace L3
open PySem PySem.Spec PyProof.Rows L2
def Fz (H:Hp)(a:S9)(o:Obj)(b:U<|Key×V):Prop:=H a=O (.frz o<|.dK b)
def Itd (a:S9)(o:Obj)(b:U<|Key×V):It where
 go i H:=Fz H a o b/\i<b.length
 yld i H x H':=H'=H/\∃k y,b[i]?=O (k,y)/\x=kV k
 stop i H:=Fz H a o b/\b.length<=i
end L3

namespace L3
open PySem PySem.Spec PyProof.Rows L2
section
variable {X:Cx}
theorem uV:MtR X "list.index" (λx G H Q=>∃(l:S9) (c:U Str) (y:Str),x=.ref l/\G=[.str y]/\SqL X.K H l (c.map V.str)/\y∈c/\c.length<1000/\Q (.int ((c.idxOf y:Y):Int)) H):=by
 intro D s σ H x G v us Q a rx rv h;obtain⟨l,c,y,rfl,rfl,P,hy,hl,q⟩:=h;cases rx;obtain⟨u,rfl,ru⟩:=rv.one;obtain⟨d,r,p,B⟩:=a.list P;obtain⟨⟨M,N,o,sl⟩,ho,t,n,A⟩:=id p.isList;simp only at t A;subst t A;have fs:(c.map V.str).all ef=true:=by rw[List.all_map];exact Nd.mpr λ_ _=>rfl
 have b:c.length=d.length:=by rw[<- r.length,Mg]
 have j:=List.idxOf_lt_length_iff.mpr hy;have f:∀i (g:i<d.length),eqU (.str y) d[i]=(c[i]'(b ▸ g)==y):=λi g=>by obtain⟨w,e1,e2⟩:=Vals.get (i:=i) r (by rw[MO,MP<|b ▸ g];rfl);rw[MP g] at e1;cases e1;rw[n6 e2 rfl];rfl
 refine Pt SU ⟨_,ho,rfl⟩ PySem.F.entry_list_index (PySem.F.args_list_index_2 _ _) (SeqAt.list_indexAt l d.toArray n N sl u (eqU<|.str y) (c.idxOf y) (by simpa[<- b] using j) (by lia) ?_ λm Z k=>?_) ⟨ho,λz B=>fM ru rfl r fs z (by simpa using B),.int _,H,a.tok _,⟨_,rfl⟩,q⟩
 .have:=f _<|b ▸ j;simp only[RW];rw[this,TQ];exact List.getElem_idxOf j
 .have:=f m (by simpa using Z);simp only[RW];rw[this];refine TJ λe=>?_;exact Tg (List.not_of_lt_findIdx (p:=(·==y)) (xs:=c) k)<|by simpa using e
end
section
variable {prog:Td}{w:Mc}{A:Mh}{E:L->L8->Prop}{s:L8}
theorem zW {l:S9}{u v:L}{d:U<|Ta×(L->Sem Unit)}{Q:Unit->L8->Prop}(M:A.handled=J)(i:s.heap.IsList l #[u,v])(N:d.length=2)(g:d.findIdx? (·.1)=J)
  (h:∀t,(∀b o,s.heap.get? b=O o->t.get? b=O o)->Tc (Mb prog w) A (assignInOrder (d.map (·.2)) [u,v]) Q E {s with heap:=t}):Tc (Mb prog w) A (unpack (.ref l) d) Q E s:=by
 have p:l<s.heap.objs.size:=by obtain⟨o,ho,_⟩:=i;exact Heap.lt_size ho
 have f:∀{b o},s.heap.get? b=O o->b≠s.heap.objs.size:=λe=>Mu<|Heap.lt_size e;have stay:∀{a b:To} {it:S9},a.IsList l #[u,v]->l≠it->(∀c o,c≠it->a.get? c=O o->b.get? c=O o)->b.IsList l #[u,v]:=λ⟨o,ho,x⟩ n k=>⟨o,k _ _ n ho,x⟩;unfold unpack;rw[N,g];refine Ma<|Nq ?_;unfold unpackItems notIterableAtAll;refine Ma<|Ma<|wpAny_specialOf i.typeIs slot_list_iter.lookup<|Mf ?_;simp only[OM,TR];generalize m:s.heap.push {cls:=.type "list_iterator",data:=.fields #[.ref l,.int 0 0]}=G;have r:∀b o,s.heap.get? b=O o->G.get? b=O o:=λb o e=>by rw[<- m];exact Heap.get?_push_of_some _ e
 have D:G.IsList l #[u,v]:=let ⟨o,ho,x⟩:=i;⟨o,r _ _ ho,x⟩;refine Ma<|Nq<|NS i ?_;rw[m];have P:G.IsListIter s.heap.objs.size l 0:=⟨_,by rw[<- m];exact Heap.get?_push_size _ rfl,rfl,rfl⟩;have nl:l≠s.heap.objs.size:=Mu p;refine Ma<|Nq ?_;show Tc _ _ (draw (.ref s.heap.objs.size) 2) _ _ _;unfold draw;refine Ma<|QC (x:=u) P D rfl λj Z s1=>?_;have z:∀b o,b≠s.heap.objs.size->G.get? b=O o->j.get? b=O o:=λb o n e=>(s1.2 b n).trans e;have F:=stay D nl z;refine Ma<|Nq ?_;unfold draw;refine Ma<|QC (x:=v) (s:={s with heap:=j}) Z F rfl λy i2 s2=>?_;have B:∀b o,b≠s.heap.objs.size->j.get? b=O o->y.get? b=O o:=λb o n e=>(s2.2 b n).trans e;have l2:=stay F nl B;refine Ma<|Nq ?_;unfold draw;refine Mf<|Mf<|Mf ?_;rw[Ti<|show¬([u,v].length<2) from NF 2];refine Ma<|Nq<|T4 (s:={s with heap:=y}) M i2 l2 rfl λH x3=>?_;simp only[Option.isSome_none,OM,TR];exact Mf<|h H λb o e=>x3 b o (f e)<|B b o (f e)<|z b o (f e)<|r b o e
end
section
variable {X:Cx}{pos:Pos}
def BR (K:L9)(t:TGs):TG:=λv c H Q=>∃a b,v=.ref a/\SqL K H a b/\b.length=2/\t b c H Q
theorem zG {e:U Tq}{k:Y}{t:TGs}(j:X.calm=L7)(h:PGs X e t)(m:(Oh e X.env).length=2:=by rfl)(f:(Oh e X.env).findIdx? (·.1)=none:=by rfl):PG X (.Tuple e k pos) (BR X.K t):=by
 intro d s w H v u Q b r g;obtain⟨a,o,e1,n,l,g⟩:=g;subst e1;cases r;obtain⟨c,i,p,A⟩:=b.list n;obtain⟨x,y,rfl⟩:∃x y,c=[x,y]:=match c,i.length.symm.trans l with|[_,_],_=>⟨_,_,rfl⟩
 rw[assign_Tuple];refine Ma<|O1<|zW (b.ok.hd j) p.isList m f λz hx=>?_;exact h d _ w H o _ Q (b.kept (t':=s.toks) hx) i g
end
end L3
namespace MR
open PySem PySem.Spec PyProof.Rows L2 L3
section
variable {K:L9}{Wx:L2.St->VK}{X:Cx}{sf:Y->I Y}{C:M.Call}{io:U Y}{pos p p2:Pos}{ea eb:Tq}{es:U Tq}{a b:M.E}{bs:U M.E}{h:Ta}{c k n:Y}{x:Str}{fs:U Str}{vs:U Y}{Cc f:S9}{up:U L}{fd:MK}{ps:U Str}
theorem zo {x:M.X}{t l j j':Y}{e:M.E}(hi:t ∉ io)(u:l ∉ io)(hs:sf t=O j)(y:sf l=O j')(D:cx)(σ:L2.St)(H:Hp)(h:wS K Wx sf io C (.asgL x [t,l] e) D σ H):
  mi (wE K sf C e) (BR K<|dS (cj j)<|dS (cj j') sZ) D σ H:=by
 obtain⟨pv,Z,Q,η,N,A,f⟩:=h;obtain⟨⟨w,i⟩,h1,h2⟩:=bx<|show Fin K Wx ⟨sf,pv⟩ Z H (tot Q) D (M.Fl.of η (M.evX C x e η)<|M.kAsgL [t,l]) from f;obtain⟨P,h3,h4⟩:=eF<|show Fin K Wx ⟨sf,pv⟩ Z H (tot Q) D (M.nxO i<|(M.lstT w).bind λws=>M.bindT [t,l] ws i) from h2;refine lr (sl:=⟨sf,pv⟩) A h1 λv Z' H' Fs' G B r s=>?_;obtain⟨m,t0⟩:=w;cases t0 with
 | lst ts =>
  have g:M.bindT [t,l] (ts.map λt=>(m.kid,t)) i=O P:=h3
  match ts,g with
  |[a,b],g=>
   cases g;obtain⟨p,xs,rfl,hq,hl,y1,r1,G1,G2,rfl,g1,g2,d,p1,F,r2,G3,G4,e2,o,g4,d2,p2,q⟩:=aM r;cases e2;obtain rfl:r2=[]:=q;have B1:=At.setR (w:=(m.kid,a)) (R:=G3) N hi hs B p1 g1 (λa h=>g2 a<|o a h) λa h z=>d a z<|o a h;have B2:=At.set (w:=(m.kid,b)) N u y B1 p2;refine⟨p,[y1,F],rfl,.inl<|.inl hq,rfl,y1,[F],rfl,F,[],rfl,rfl,h4 _ Z' H' _ B2<|s.mono (λ_ z=>z) λa h=>?_⟩;rcases aK h with h|h
   .exact(aK h).imp id (g1 a)
   .exact .inr (g2 a<|o a h)
  |[],g=>cases g
  |[_],g=>cases g
  |_::_::_::_,g=>cases g
 |_=>cases h3
theorem Jt (j l:Y){t u:Y}{x y:Str}{r s pt:Pos}{o:Y}{Q:M.X}(v:X.N.Nodup)(w:SE X sf C ea a)(B:t ∉ io:=by decide)(e:u ∉ io:=by decide)(G:sf t=O j:=by rfl)(g:sf u=O l:=by rfl)(D:X.N[j]?=O x:=by rfl)(F:X.N[l]?=O y:=by rfl)
  (hx:L2.Loc X.env.scope x:=by first|exact Mz rfl|exact Ms rfl) (P:L2.Loc X.env.scope y:=by first|exact Mz rfl|exact Ms rfl) (z:X.calm=true:=by rfl)
  (A:X.fn x=L7\/X.env.scope.names.lookup x=O .local:=by first|exact .inl rfl|exact .inr rfl) (d:X.fn y=L7\/X.env.scope.names.lookup y=O .local:=by first|exact .inl rfl|exact .inr rfl)
  (m:P6 [.Tuple [.Name x r,.Name y s] o pt] ea pos.line X.env=pure false:=by rfl) (H:P5 [.Tuple [.Name x r,.Name y s] o pt] ea X.env=pure none:=by rfl):
  SS X sf io C (.Assign [.Tuple [.Name x r,.Name y s] o pt] ea pos) (.asgL Q [t,u] a):=
 cR (oY w (zG z<|bB (bg (i:=j) v D hx A)<|bB (bg (i:=l) v F P d) fP) m H) (zo B e G g)
theorem zD {e1 e2:M.E}(P:L2.St)(H:Hp)(Q:VK)(hw:wE K sf C (.op .idxL h [e1,e2]) P H Q):tBM K "list" (λx vs H Q=>∃(l:S9) (o:U Str) (y:Str),x=.ref l/\vs=[.str y]/\SqL K H l (o.map V.str)/\y∈o/\o.length<1000/\Q (.int ((o.idxOf y:Y):Int)) H) (wE K sf C e1) (wL K sf C [e2]) P H Q:=by
 obtain⟨pv,Z,Fs,η,w,η',A,ev,k⟩:=hw;obtain⟨ws,h1,s⟩:=b8 ev;obtain⟨⟨m,t⟩,η1,us,g1,F,rfl⟩:=aq h1;obtain⟨⟨m',N⟩,η2,us,g3,g4,rfl⟩:=aq F;cases g4;obtain⟨r,b,rfl,rfl⟩:∃r b,t=.lst r/\N=.str b:=by cases t<;>first|(cases s;done)|(cases N<;>first|(cases s;done)|exact⟨_,_,rfl,rfl⟩)
 have j:(M.strsOf r).bind (λbs=>if(bs.contains b&&decide (bs.length<1000))=L7 then O ((.d,.int (bs.idxOf b:Y)):M.W) else J)=O w:=s;cases u:M.strsOf r with
 |none=>rw[u] at j;cases j
 |some bs=>
 rw[u] at j;have e2:(if(bs.contains b&&decide (bs.length<1000))=L7 then O ((.d,.int (bs.idxOf b:Y)):M.W) else J)=O w:=j;split at e2
 .rename_i v;rw[Mv] at v;cases e2;refine gQ A g1 λx Z1 H1 Fs1 G1 D G _ s1 _=>?_;have g:=D.mono (G':=G1) λ_ z=>.inr z;obtain⟨l,xs,rfl,hs,hl,q⟩:=aM G;refine⟨.inl ⟨rfl,_,.inl<|.inl hs⟩,?_⟩;refine HS g F λvs Z2 H2 Fs2 G2 A2 r2 d2 s2 t2=>?_;obtain⟨y,rfl,ry⟩:=bE rfl r2;have B:=G.frame D.gd.own s2 g.dis;obtain⟨l',xs',e,i,hl',q'⟩:=aM B;cases e;rw[wN u q'] at i;exact⟨l,bs,b,rfl,by rw[show y=.str b from ry.1],.inl<|.inl i,List.contains_iff_mem.mp v.1,Ts v.2,aF<|cH A2 (s1.trans t2) k⟩
 .cases e2
theorem BN {g d:Pos}(o:SE X sf C ea a)(r:SE X sf C eb b)(m:Me [eb] X.env=(L5,Tx eb X.env)::Me [] X.env:=by rfl)
  (i:NT ea "index" X.env (Tx ea X.env)=Tx ea X.env:=by rfl) (j:(g.endLine==d.line)=true:=by rfl) (e:(Mp d<|Me [] X.env).any (·.1)=false:=by rfl)
  (l:((Mp d<|Me [eb] X.env).all (λx=>!x.1)&&(OW d<|O8 [] X.env).all (λx=>x.1.isSome)&&decide ([eb].length+([]:U Od).length+(if([]:U Od).isEmpty then 0 else 1)<30))=true:=by rfl):SE X sf C (.Call (.Attribute ea "index" g) [eb] [] d) (.op .idxL h [a,b]):=
 aj (pT Qs SU PySem.F.type_list_index uV o (slc r sl0 m) i l j m e) zD
end
def spN (K:L9)(C:S9)(fs:U Str):Sp:=λd H Q _=>∃a c,d=.ref a::c/\fs.length=c.length/\H a=O (XO a C J L7)/\∀b,H b=J->b≠a->Q .non (upd (upd H b<|.xd<|fs.zip c) a<|XO a C (O b) L7)
structure XCN (P:Td)(w:Mc)(K:L9)(mg:Str->I L)(base:To)(x:Str)(c:Y)(fs:U Str):Prop where
 ex:∃f up fd ps,XC K c f up/\d7 up=L7/\Binds K fd ps []/\∀k,FnOk P w K mg base CX0 (k+1) f fd ps (spN K c fs)
 xf:XF K c
 nm:mg x=O (.ref c)
section
variable {K:L9}{Z Z' G:Fp}{H H':Hp}{X:Cx}{sf:Y->I Y}{C:M.Call}{io:U Y}{pos p p2:Pos}{ea:Tq}{es:U Tq}{bs:U M.E}{c k n:Y}{x:Str}{fs:U Str}{vs:U Y}{Cc f:S9}{up:U L}{fd:MK}{ps:U Str}
theorem RepW.shL:∀{a:U M.W} {g:U V} {G:Fp},a.all M.shW=L7->RepW K Z H a g G->RepL K Z H .s (M.trees a) g no
|[],_,_,_,h=>h
| (m,t)::a,g,G,d,l=>by
 obtain⟨x,r,G1,G2,e,o,u,v,p,q⟩:=l;have d:(M.shW (m,t)&&a.all M.shW)=true:=d;obtain⟨b,j⟩:=Ng.mp d;have b:(m==M.Md.s || t.leaf)=true:=b;refine⟨x,r,no,no,e,λ_ z=>z,λ_ z=>z,λ_ z=>z.elim,?_,RepW.shL j q⟩;cases i:t.leaf with
 |true=>exact p.leaf (λ_ _ _ q=>q) i
 |false=>rw[i,Mo] at b;obtain rfl:m=.s:=beq_iff_eq.mp b;exact Rep.sany p
theorem t4 {a d:S9}{ts:U M.T}{t:U V}(nm:XNm K c Cc)(u:H' a=J)(g:H' d=J)(B:d≠a)(A:fs.length=ts.length)(D:Own Z' H' G)(r:RepL K Z' H' .s ts t no){H3:Hp}(w:H3 a=O (XO a Cc (O d) L5))(y:H3 d=O (.xd<|fs.zip t))(l:∀b,b≠a->b≠d->H3 b=H' b):
  Step Z' H' G (λb=>Z' b\/b=a\/b=d) H3 no/\Rep K (λb=>Z' b\/b=a\/b=d) H3 .s (.ins c fs ts) (.ref a) no:=by
 have j:∀b,H' b≠J->b≠a/\b≠d:=λb z=>⟨λe=>z<|by rw[e];exact u,λe=>z<|by rw[e];exact g⟩
 have m:Step Z' H' G (λb=>Z' b\/b=a\/b=d) H3 no:={
  keep:=λb o e _=>by obtain⟨h,i⟩:=j b (by rw[e];simp);rw[l b h i];exact e
  zm:=λb z=>.inl z
  zn:=λb z=>z.elim .inl λz=>.inr<|.inr (z.elim (λe=>by rw[e];exact u) λe=>by rw[e];exact g)
  fn:=λ_ z=>z.elim
  al:=λb z=>by obtain⟨h,i⟩:=j b z;rw[l b h i];exact z
  za:=λv b z=>by
   rcases z with z|rfl|rfl
   .obtain⟨h,i⟩:=j b<|v b z;rw[l b h i];exact v b z
   .rw[w];simp
   .rw[y];simp}
 exact⟨m,(λz=>by cases z),a,d,Cc,t,rfl,.inr<|.inl rfl,.inr<|.inr rfl,w,y,A,nm,r.keep (D.stay m) m.zm λ_ _ z=>z.elim⟩
theorem qQ (r:XCN X.prog X.w X.K X.mg X.base x c fs)(hz:fs.length<1000)(hr:Room (n+2) X.A)(ha:SL X sf C (ea::es) bs)(hc:X.calm=true:=by rfl)(hg:Gl X x:=by rfl)
  (hdb:(x==("__debug__":Str))=false:=by decide) (hst:Me (ea::es) X.env=(L5,Tx ea X.env)::Me es X.env:=by rfl) (hpl:(Mp p2<|Me es X.env).any (·.1)=false:=by rfl):
  SS X sf io C (.Raise (O<|.Call (.Name x p) (ea::es) [] p2) J pos) (.raiseN c fs vs bs):=by
 obtain⟨f,up,fd,ps,xc,hu,hb,F⟩:=r.ex;refine cR (xp hc<|vo (E:=E0) xc (F n) hr hg r.nm hb ql ha hdb hst hpl) λD σ H h=>?_;obtain⟨pv,Z,i,η,N,A,g⟩:=h;obtain⟨⟨m,o⟩,h1,h2⟩:=bx<|show Fin X.K (xw X) ⟨sf,pv⟩ Z H (tot i) D (M.Fl.of η (M.evL C bs<|M.share vs η)<|M.kRaiseN c fs) from g;have v:Fin X.K (xw X) ⟨sf,pv⟩ Z H (tot i) D (if(m.all M.shW&&decide (fs.length=m.length))=L7 then .ex (.ins c fs (M.trees m)) o else .no):=h2;split at v
 .rename_i hlt;obtain⟨c1,s⟩:=Ng.mp hlt;have s:=Ts s;obtain⟨A1,s1⟩:=A.share (vs:=vs);have s0:Step Z H (tot i) (λa=>Z a\/cZ i vs a) H (tot (fS i vs)):=(s1 ((Step.refl Z H (tot i)).mono (λ_ z=>z) λa z=>z.elim id λy=>y.elim)).mono (λ_ z=>z) λa z=>.inl z;refine⟨pv,_,_,_,m,o,A1,h1,λxs Z' H' u G B t st=>?_⟩;have l:xs.length=fs.length:=by rw[t.length,s]
  refine⟨by rw[l,NA];exact PK<|MF hz<|by decide,λd h0=>⟨d,xs,rfl,l.symm,ah,λj hd e=>⟨rfl,d,c,O j,f,up,rfl,ah,xc,hu,?_⟩⟩⟩;have Q:H' j=none:=by rw[ag e] at hd;exact hd
  generalize P:upd (upd (upd (upd H' d<|XO d c J L7) j<|.xd<|fs.zip xs) d<|XO d c (O j) L7) d (XO d c (O j) L5)=H3;obtain⟨st',r3⟩:=t4 (ts:=M.trees m) ⟨rfl,r.xf⟩ h0 Q e (by rw[s,<- t.length,(t.shL c1).length]) B.own (t.shL c1) (H3:=H3) (by rw[<- P,ah]) (by rw[<- P,ag e,ag e,ah]) (λb n1 n2=>by rw[<- P,ag n1,ag n1,ag n2,ag n1]);obtain⟨B2,s2⟩:=B.op (λ_ z=>z.elim) st';exact v (.ref d) σ _ H3 u B2 r3<|(s0.trans<|st.trans s2).mono (λ_ z=>z) λb z=>.inl z
 .exact v.elim
end
end MR

set_option maxRecDepth 1000000
namespace SO
open PySem PyProof.Rows
abbrev SM:=StateT TL Sem
abbrev QM (a:Type):=TL->I (a×TL)
def qpu {b:Type}(a:b):QM b:=λc=>O (a,c)
def qit {b:Type}(c:Prop)[Decidable c](p q:QM b):QM b:=λa=>if c then p a else q a
structure R {α:Type}(m:SM α)(q:QM α):Prop where
 ok:∀{prog:Td} {w:Mc} {A:Mh} {E:L->L8->Prop} {s:L8} {Q:α->TL->Prop} {st st':TL} {r:α},kindOf st=TX->q st=O (r,st')->(kindOf st'=TX->Q r st')->wpS (Mb prog w) A E s m Q st
section
variable {α β γ:Type}
theorem R.pu (a:α):R (pure a) (qpu a):=⟨λhk e h=>by cases e;exact Uj<|h hk⟩
noncomputable def bd (o:I<|α×TL)(f:α->QM β):I (β×TL):=match o with
|some (a,b)=>f a b
|none=>J
def qb (p:QM α)(g:α->QM β):QM β:=λa=>bd (p a) g
theorem xZ {o:I<|α×TL}{f:α->QM β}{r:β×TL}(e:bd o f=O r):∃a b,o=O (a,b)/\f a b=O r:=by
 cases o with
 |none=>cases e
 |some p=>exact⟨p.1,p.2,rfl,e⟩
theorem R.bi {m:SM α}{f:α->SM β}{p:QM α}{g:α->QM β}(x:R m p)(y:∀a,R (f a)<|g a):R (m >>= f) (qb p g):=⟨λhk e h=>
 let ⟨a,_,e1,e2⟩:=xZ e
 Uk (x.ok hk e1 λb=>(y a).ok b e2 h)⟩
noncomputable def onO (f:α->QM β)(z:QM β):I α->QM β
|some a=>f a
|none=>z
theorem R.biO {m:SM<|I α}{f:I α->SM β}{p:QM<|I α}{g:α->QM β}{z:QM β}(x:R m p)(y:∀a,R (f<|O a)<|g a)(b:R (f J) z):R (m >>= f) (qb p<|onO g z):=R.bi x λo=>match o with
|some a=>y a
|none=>b
noncomputable def onP (f:α->γ->QM β)(z:γ->QM β):I α×γ->QM β
|(O a,c)=>f a c
|(J,c)=>z c
theorem R.biP {m:SM<|I α×γ}{f:I α×γ->SM β}{p:QM<|I α×γ}{g:α->γ->QM β}{z:γ->QM β}(x:R m p)(y:∀a c,R (f (O a,c))<|g a c)(b:∀c,R (f (J,c))<|z c):R (m >>= f) (qb p<|onP g z):=R.bi x λo=>match o with
|(O a,c)=>y a c
|(J,c)=>b c
def qge (q:Tv M9->Tv (Y×Y×Y)->Y->I L->QM β):QM β:=λa=>q (Ub a) (pendingOf a) (gallopOf a) (Ul a) a
theorem R.ge {f:TL->SM β}{q:Tv M9->Tv (Y×Y×Y)->Y->I L->QM β}(y:∀a p g fl,R (f<|SortSt.mk' TX a p g fl)<|q a p g fl):R (get >>= f) (qge q):=⟨λ{_ _ _ _ _ _ b _ _} hk e h=>by
 obtain⟨k,a,p,g,fl⟩:=b;obtain rfl:k=TX:=hk;exact Uk<|wpS_get<|(y a p g fl).ok rfl e h⟩
theorem R.mo (f:TL->TL)(c:∀b,kindOf (f b)=kindOf b):R (modify f:SM PUnit) (λb=>O (⟨⟩,f b)):=⟨λhk e h=>by cases e;exact wpS_modify<|h<|(c _).trans hk⟩
theorem R.md (f:TL->TL)(c:TL->Ta)(g:TL->TL)(k:∀a,kindOf (g a)=kindOf a)(j:∀a,c a=L7->f a=g a):R (modify f:SM PUnit) (λa=>if c a=L7 then O (⟨⟩,g a) else J):=⟨λ{_ _ _ _ _ _ a d r} hk e h=>by
 have e:(if c a=L7 then O ((⟨⟩:PUnit),g a) else J)=O (r,d):=e;split at e
 .rename_i i;cases e;refine wpS_modify ?_;rw[j _ i];exact h<|(k _).trans hk
 .cases e⟩
theorem R.se (a:TL)(b:kindOf a=TX):R (set a:SM PUnit) (λ_=>O (⟨⟩,a)):=⟨λhk e h=>by cases e;exact wpS_modify (f:=λ_=>_)<|h b⟩
theorem R.li {t:Tu}:R (liftM (rule t):SM Unit) (λa=>O ((),a)):=⟨λhk e h=>by cases e;exact wpS_lift<|OZ ⟨rfl,h hk⟩⟩
theorem R.it {c:Prop}[Decidable c]{a b:SM α}{p q:QM α}(x:R a p)(y:R b q):R (if c then a else b) (qit c p q):=⟨λ{_ _ _ _ _ _ g f r} hk e h=>by
 have e:(if c then p g else q g)=O (r,f):=e;split
 .rename_i d;rw[Tf d] at e;exact x.ok hk e h
 .rename_i d;rw[Ti d] at e;exact y.ok hk e h⟩
theorem R.pr {a b:α}(h:a=b):R (pure a) (qpu b):=h ▸ R.pu a
theorem R.no {m:SM α}:R m (λ_=>J):=⟨λ_ e _=>by cases e⟩
def fl (f:Y->β->QM (ForInStep β)):U Y->β->QM β
|[],b,a=>O (b,a)
|x::l,b,a=>bd (f x b a) λr a=>match r with
 |.done c=>O (c,a)
 |.yield c=>fl f l c a
theorem R.fo {a b:Y}{i:β}{f:Y->β->SM (ForInStep β)}{g:Y->β->QM (ForInStep β)}(x:∀k c,R (f k c)<|g k c):R (forIn [a:b] i f) (fl g (Qf a (b-a) 1) i):=⟨λ{_ _ _ _ _ Q n o r} hk e h=>by
 rw[S8,show([a:b]:Std.Legacy.Range).size=b-a by simp[S4]];show wpS _ _ _ _ (forIn (Qf a (b-a) 1) i f) _ _;generalize Qf a (b-a) 1=l at e ⊢;induction l generalizing i n with
 |nil=>cases e;rw[QI];exact Uj<|h hk
 |cons k l m=>
  rw[QP];obtain⟨a,s1,e1,e2⟩:=xZ e;refine Uk<|(x k i).ok hk e1 λd=>?_;cases a with
  |done j=>cases e2;exact Uj<|h d
  |yield j=>exact m d e2⟩
end
noncomputable def ltq (x y:M9):QM (I Ta):=λc=>match x.1,y.1 with
|.int a _,.int b _=>O (O<|decide (a<b),c)
|_,_=>J
theorem R.lt (x y:M9):R ((sortPriv% PySem.Builtin.lt) x y) (ltq x y):=⟨λhk e h=>by
 show wpS _ _ _ _ (lt' x y) _ _;obtain⟨x,c⟩:=x;obtain⟨y,d⟩:=y;obtain⟨a,t,rfl⟩:∃a t,x=.int a t:=by cases x<;>first|exact⟨_,_,rfl⟩|cases e
 obtain⟨b,u,rfl⟩:∃b u,y=.int b u:=by cases y<;>first|exact⟨_,_,rfl⟩|cases e
 cases e;rw[lt'_eq];refine Uk<|wpS_get ?_;rw[hk,keyLt'_oneType];exact Uk<|wpS_lift<|P4<|oneLt_int ⟨rfl,Uj<|h hk⟩⟩
section
variable {α:Type}
noncomputable def nth (l:U α):Y->I α:=NV (motive:=λ_=>Y->I α) (λ_=>J) (λx _ a n=>Pa (motive:=λ_=>I α) (O x) (λm _=>a m) n) l
theorem lG:∀(l:U α) (n:Y),nth l n=l[n]?
|[],_=>rfl
|_::_,0=>rfl
|_::l,n+1=>(lG l n).trans (M1).symm
noncomputable def x9 (l:U α):Y->U α:=NV (motive:=λ_=>Y->U α) (λ_=>[]) (λy l a n=>Pa (motive:=λ_=>U α) l (λm _=>y::a m) n) l
def mv0 (l:U α)(d:Y):I α->U α
|some x=>x::x9 l d
|none=>l
def mvd (n d:Y)(l:U α):U α:=Pa (motive:=λ_=>U α->U α) (λl=>mv0 l d<|nth l d) (λ_ a l=>NV (motive:=λ_=>U α) [] (λy r _=>y::a r) l) n l
theorem pH:∀(l:U α) (d k:Y),(x9 l d)[k]?=if k<d then l[k]? else l[k+1]?
|[],d,k=>by show([]:U α)[k]?=_;split<;>simp
|y::l,0,k=>by show l[k]?=_;rw[Ti<|Nat.not_lt_zero _,M1]
|y::l,d+1,0=>by show(y::x9 l d)[0]?=_;rw[Tf<|RS _];rfl
|y::l,d+1,k+1=>by
 show(y::x9 l d)[k+1]?=_;rw[M1,pH l d k,M1];by_cases h:k<d
 .rw[Tf h,Tf<|Nat.succ_lt_succ h]
 .rw[Ti h,Ti λz=>h<|Nat.lt_of_succ_lt_succ z,M1]
theorem qy:∀(n d:Y) (l:U α) (k:Y),n+d<l.length->(mvd n d l)[k]?=if k=n then l[n+d]? else if n<k/\k<=n+d then l[k-1]? else l[k]?
| 0,d,l,k,h=>by
 rw[Pb] at h;have e:nth l d=O l[d]:=by rw[lG,MP h]
 have e2:mvd 0 d l=l[d]::x9 l d:=by show mv0 l d (nth l d)=_;rw[e];rfl
 rw[e2,Pb,MP h];cases k with
 |zero=>rfl
 |succ k=>
  rw[M1,pH,Ti<|Nat.succ_ne_zero _];by_cases z:k<d
  .rw[Tf z,Tf ⟨RS _,z⟩];rfl
  .rw[Ti z,Ti λq=>z q.2]
|n+1,d,[],k,h=>by simp at h
| n+1,d,y::l,k,h=>by
 show(y::mvd n d l)[k]?=_;cases k with
 |zero=>rw[Ti<|by lia,Ti<|by lia];rfl
 | succ k =>
  rw[M1,qy n d l k<|by rw[Mw] at h;lia,show n+1+d=(n+d)+1 by lia,M1,M1];by_cases z:k=n
  .rw[Tf z,Tf<|by lia]
  .rw [Ti z,Ti (show ¬ k+1=n+1 by lia)];by_cases a:n<k/\k<=n+d
   .rw [Tf a,Tf<|by lia];obtain⟨j,rfl⟩:∃j,k=j+1:=⟨k-1,by lia⟩;rfl
   .rw[Ti a,Ti<|by lia]
theorem E7 (b:Tv α)(a d:Y)(h:a<b.size)(c:d<=a):bubble b a d=(mvd (a-d) d b.toList).toArray:=by refine Array.ext_getElem? λk=>?_;rw[getElem?_bubble h d c,show((mvd (a-d) d b.toList).toArray)[k]?=(mvd (a-d) d b.toList)[k]? by simp,qy _ _ _ _<|by rw[N9];lia,show a-d+d=a by lia,PV,PV,PV]
noncomputable def ov0 (b l:U α):U α:=NV (motive:=λ_=>U α->U α) (λl=>l) (λy _ a l=>NV (motive:=λ_=>U α) [] (λ_ r _=>y::a r) l) b l
def Lu (n:Y)(b l:U α):U α:=Pa (motive:=λ_=>U α->U α) (ov0 b) (λ_ a l=>NV (motive:=λ_=>U α) [] (λy r _=>y::a r) l) n l
end
section
variable {α:Type}
noncomputable def dr (n:Y)(l:U α):U α:=Pa (motive:=λ_=>U α->U α) (λl=>l) (λ_ a l=>NV (motive:=λ_=>U α) [] (λ_ r _=>a r) l) n l
noncomputable def tk (n:Y)(l:U α):U α:=Pa (motive:=λ_=>U α->U α) (λ_=>[]) (λ_ a l=>NV (motive:=λ_=>U α) [] (λy r _=>y::a r) l) n l
noncomputable def app (l r:U α):U α:=NV (motive:=λ_=>U α) r (λy _ a=>y::a) l
theorem B8:∀(n:Y) (l:U α),dr n l=l.drop n
|0,_=>rfl
|_+1,[]=>rfl
|n+1,_::l=>B8 n l
theorem BS:∀(n:Y) (l:U α),tk n l=l.take n
|0,_=>rfl
|_+1,[]=>rfl
|n+1,y::l=>Tn (y::·)<|BS n l
theorem nh:∀l r:U α,app l r=l++r
|[],_=>rfl
|y::l,r=>Tn (y::·)<|nh l r
theorem ic (a:Tv α)(i j:Y):a.extract i j=(tk (j-i)<|dr i a.toList).toArray:=by rw[BS,B8];apply PD;simp[List.extract_eq_take_drop]
theorem Dh (a b:Tv α):a++b=(app a.toList b.toList).toArray:=by rw[nh];apply PD;simp
theorem Es (a:Tv α)(x:α):a.push x=(app a.toList [x]).toArray:=by rw[nh];apply PD;simp
theorem GN (a:Tv α):a.reverse=(a.toList.reverse).toArray:=by apply PD;simp
end
section
local macro_rules
 | `(tactic| ac_rfl)=>`(tactic| with_reducible first
  |(refine' R.pr ?_;simp only[ic,Dh,Es,GN];exact rfl)
  |exact R.pu _
  |refine' R.ge (λ_ _ _ _=>?_)
  |exact R.li
  |exact R.mo _ (λ_=>rfl)
  |exact R.lt _ _
  |refine' R.it ?_ ?_
  |refine' R.fo (λ_ _=>?_)
  |refine' R.biP ?_ (λ_ _=>?_) (λ_=>?_)
  |refine' R.biO ?_ (λ_=>?_) ?_
  |refine' R.bi ?_ (λ_=>?_))
def el:{q:Tv M9->Y->QM M9 // ∀a i,R ((sortPriv% PySem.Builtin.elem) a i)<|q a i}:=⟨λa i b=>(nth a.toList i).map λp=>(p,b),λa i=>⟨λhk e h=>by
 show wpS _ _ _ _ (elem' a i) _ _;rw[elem'_eq];have e:(nth a.toList i).map (λp=>(p,_))=O (_,_):=e;rw[lG,PV] at e;cases e1:a[i]? with
 |none=>rw[e1] at e;cases e
 |some p=>rw[e1] at e;cases e;exact Uj<|h hk⟩⟩
local macro_rules | `(tactic| ac_rfl)=>`(tactic| with_reducible exact el.2 _ _)
def gal:{q:Ta->M9->Tv M9->Y->Y->Y->QM (I Y) // ∀l k a b n h,R ((sortPriv% PySem.Builtin.gallop) l k a b n h)<|q l k a b n h}:=⟨_,λl k a b n h=>by
 refine' R.biO ?_ (λx=>?_) ?_
 all_goals repeat' ac_rfl⟩
def LA:{q:Y->QM Unit // ∀g,R ((sortPriv% PySem.Builtin.setMinGallop) g)<|q g}:=⟨_,λ_=>R.mo _ λ_=>rfl⟩
local macro_rules | `(tactic| ac_rfl)=>`(tactic| with_reducible first | exact gal.2 _ _ _ _ _ _ | exact LA.2 _)
def qLo:{q:Tv M9->Tv M9->QM (Tv M9) // ∀a b,R ((sortPriv% PySem.Builtin.mergeLo) a b)<|q a b}:=⟨_,λa b=>by
 refine' R.bi R.li λ_=>?_
 all_goals repeat' ac_rfl
 any_goals exact R.no⟩
def qHi:{q:Tv M9->Tv M9->QM (Tv M9) // ∀a b,R ((sortPriv% PySem.Builtin.mergeHi) a b)<|q a b}:=⟨_,λa b=>by
 refine' R.bi R.li λ_=>?_
 all_goals repeat' ac_rfl
 any_goals exact R.no⟩
def qAt:{q:Y->Y->QM (I Ta) // ∀i j,R ((sortPriv% PySem.Builtin.ltAt) i j)<|q i j}:=⟨_,λi j=>by
 refine' R.ge λ_ _ _ _=>?_
 all_goals repeat' ac_rfl⟩
def qDn:{q:Y->Y->QM Unit // ∀i j,R ((sortPriv% PySem.Builtin.moveDown) i j)<|q i j}:=⟨_,λi j=>R.md _ (λa=>(nth (Ub a).toList i).isSome) (λa=>setArr a (mvd (i-(i-j)) (i-j) (Ub a).toList).toArray) (λ_=>rfl) (λa b=>by
 show setArr a (bubble (Ub a) i<|i-j)=_;rw[lG,PV] at b;obtain⟨x,e⟩:=Q9.mp b;rw[E7 _ _ _ (OA.mp e).1<|by lia])⟩
def qRv:{q:Y->Y->QM Unit // ∀i j,R ((sortPriv% PySem.Builtin.reverseSlice) i j)<|q i j}:=⟨_,λ_ _=>R.mo _ λ_=>rfl⟩
local macro_rules | `(tactic| ac_rfl)=>`(tactic| with_reducible first | exact qAt.2 _ _ | exact qDn.2 _ _ | exact qRv.2 _ _)
def Ll:{q:Y->Y->QM (I Y) // ∀i j,R ((sortPriv% PySem.Builtin.countRun) i j)<|q i j}:=⟨_,λi j=>by
 refine' R.biP ?_ (λ_ _=>?_) λ_=>?_
 all_goals repeat' ac_rfl⟩
def Ln:{q:Y->Y->Y->QM Ta // ∀i j k,R ((sortPriv% PySem.Builtin.binarySort) i j k)<|q i j k}:=⟨_,λi j k=>by
 refine' R.biP ?_ (λ_ _=>?_) λ_=>?_
 all_goals repeat' ac_rfl⟩
def on3 {d:Type}(f:Y->Y->Y->QM d)(z:QM d):I (Y×Y×Y)->QM d
|some (a,b,c)=>f a b c
|none=>z
theorem R.m1 {e:Type}{o:I<|Y×Y×Y}{m:SM e}{f:Y->Y->Y->QM e}{z:QM e}(y:∀a b c,o=O (a,b,c)->R m (f a b c))(d:o=J->R m z):R m (on3 f z o):=match o,y,d with
|some (a,b,c),y,_=>y a b c rfl
|none,_,d=>d rfl
def Kv:{q:Y->QM Ta // ∀i,R ((sortPriv% PySem.Builtin.mergeAt) i)<|q i}:=⟨_,λi=>by
 refine' R.ge λa p g fl=>?_
 rotate_left
 dsimp only
 refine' R.m1 (o:=p[i]?) (λb c d h=>?_) (λ_=>R.no)
 rotate_left
 refine' R.m1 (o:=p[i+1]?) (λf j k e=>?_) (λ_=>R.no)
 rotate_left
 rw[h,e];dsimp only
 refine' R.bi (R.se _ rfl) λ_=>?_
 all_goals repeat' first
  |with_reducible (rw[ic,ic];exact qLo.2 _ _)
  |with_reducible (rw[ic,ic];exact qHi.2 _ _)
  |with_reducible exact R.md _ (λ_=>L7) (λs=>setArr s (Lu _ _ (Ub s).toList).toArray) (λ_=>rfl) (λs _=>by show setArr s _=_;rw[<- over_eq];rfl)
  |ac_rfl⟩
def qAll:{q:QM Unit // R sortRuns' q}:=⟨_,by
 unfold sortRuns'
 refine' R.ge λ_ _ _ _=>?_
 all_goals repeat' first
  |with_reducible exact Kv.2 _
  |with_reducible exact Ll.2 _ _
  |with_reducible exact Ln.2 _ _ _
  | (refine' R.ge fun a p g fl=>?_
     rotate_left
     dsimp only
     refine' R.m1 (o:=p.back?) (λb c d h=>?_) (λh=>?_)
     rotate_left 2
     any_goals (rw[h];try dsimp only))
  | (refine' R.ge fun a p g fl=>?_
     rotate_left
     dsimp only
     refine' R.m1 (o:=if p.size>1 then p[p.size-2]? else J) (λb c d h=>?_) (λh=>?_)
     rotate_left 2
     any_goals (rw[h];try dsimp only))
  |ac_rfl⟩
end
noncomputable def lngRow (c m:Y):U Int:=(Mj m).map λk=>(((c+k * k) % 11:Y):Int)
noncomputable def cntI (a:U Int):U Int:=(Mj 11).flatMap λ(v:Y)=>Mr (a.count (v:Int)) (v:Int)
def go (t:Y->Tok):U Int->Y->U L
|[],_=>[]
|n::r,k=>.int n (t k)::go t r (k+1)
noncomputable def inSt (a:U L):TL:=SortSt.mk' TX (a.map λv=>(v,v)).toArray #[] 7 J
noncomputable def eqs:U M9->U Int->Ta
|[],[]=>L7
|(_,.int n _)::l,m::a=>decide (n=m)&&eqs l a
|_,_=>L5
def chkR (o:I<|Unit×TL)(b:U Int):Ta:=match o with
|some (_,a)=>(match Ul a with|none=>L7|some _=>L5)&&eqs (Ub a).toList b
|none=>L5
abbrev LR (c m:Y)(t:Y->Tok):Prop:=chkR (qAll.1<|inSt<|go t (lngRow c m) 0) (cntI<|lngRow c m)=L7
theorem Dy (t:Y->Tok):LR 0 100 t:=by kernel_rfl
theorem GO (t:Y->Tok):LR 0 199 t:=by kernel_rfl
theorem Gz (t:Y->Tok):LR 0 200 t:=by kernel_rfl
theorem EB (t:Y->Tok):LR 1 100 t:=by kernel_rfl
theorem FG (t:Y->Tok):LR 1 199 t:=by kernel_rfl
theorem F5 (t:Y->Tok):LR 1 200 t:=by kernel_rfl
theorem FQ (t:Y->Tok):LR 2 100 t:=by kernel_rfl
theorem Hf (t:Y->Tok):LR 2 199 t:=by kernel_rfl
theorem ES (t:Y->Tok):LR 2 200 t:=by kernel_rfl
theorem Ec (t:Y->Tok):LR 3 100 t:=by kernel_rfl
theorem Gi (t:Y->Tok):LR 3 199 t:=by kernel_rfl
theorem G9 (t:Y->Tok):LR 3 200 t:=by kernel_rfl
theorem DD (t:Y->Tok):LR 4 100 t:=by kernel_rfl
theorem Hh (t:Y->Tok):LR 4 199 t:=by kernel_rfl
theorem FX (t:Y->Tok):LR 4 200 t:=by kernel_rfl
theorem Dn (t:Y->Tok):LR 5 100 t:=by kernel_rfl
theorem Et (t:Y->Tok):LR 5 199 t:=by kernel_rfl
theorem EL (t:Y->Tok):LR 5 200 t:=by kernel_rfl
theorem FJ (t:Y->Tok):LR 6 100 t:=by kernel_rfl
theorem Ez (t:Y->Tok):LR 6 199 t:=by kernel_rfl
theorem Gr (t:Y->Tok):LR 6 200 t:=by kernel_rfl
theorem Fc (t:Y->Tok):LR 7 100 t:=by kernel_rfl
theorem Hs (t:Y->Tok):LR 7 199 t:=by kernel_rfl
theorem Gq (t:Y->Tok):LR 7 200 t:=by kernel_rfl
theorem G0 (t:Y->Tok):LR 8 100 t:=by kernel_rfl
theorem GP (t:Y->Tok):LR 8 199 t:=by kernel_rfl
theorem DO (t:Y->Tok):LR 8 200 t:=by kernel_rfl
theorem Fm (t:Y->Tok):LR 9 100 t:=by kernel_rfl
theorem FT (t:Y->Tok):LR 9 199 t:=by kernel_rfl
theorem CZ (t:Y->Tok):LR 9 200 t:=by kernel_rfl
theorem Ak (t:Y->Tok):LR 10 100 t:=by kernel_rfl
theorem BA (t:Y->Tok):LR 10 199 t:=by kernel_rfl
theorem Bf (t:Y->Tok):LR 10 200 t:=by kernel_rfl
theorem lng_ok (t:Y->Tok):∀c m:Y,c<11->m∈[100,199,200]->LR c m t:=by
 have e:∀{p:Y->Prop} {m:Y},m∈[100,199,200]->p 100->p 199->p 200->p m:=λh a b c=>by
  rcases Mm.mp h with rfl|h
  .exact a
  .rcases Mm.mp h with rfl | h
   .exact b
   .rw[MZ.mp h];exact c
 intro c m f d
 match c,f with
 |0,_=>exact e (p:=λm=>LR 0 m t) d (Dy t) (GO t)<|Gz t
 |1,_=>exact e (p:=λm=>LR 1 m t) d (EB t) (FG t)<|F5 t
 |2,_=>exact e (p:=λm=>LR 2 m t) d (FQ t) (Hf t)<|ES t
 |3,_=>exact e (p:=λm=>LR 3 m t) d (Ec t) (Gi t)<|G9 t
 |4,_=>exact e (p:=λm=>LR 4 m t) d (DD t) (Hh t)<|FX t
 |5,_=>exact e (p:=λm=>LR 5 m t) d (Dn t) (Et t)<|EL t
 |6,_=>exact e (p:=λm=>LR 6 m t) d (FJ t) (Ez t)<|Gr t
 |7,_=>exact e (p:=λm=>LR 7 m t) d (Fc t) (Hs t)<|Gq t
 |8,_=>exact e (p:=λm=>LR 8 m t) d (G0 t) (GP t)<|DO t
 |9,_=>exact e (p:=λm=>LR 9 m t) d (Fm t) (FT t)<|CZ t
 |10,_=>exact e (p:=λm=>LR 10 m t) d (Ak t) (BA t)<|Bf t
theorem go_of:∀{b:U L} {a:U Int},TN b a->∃t:Y->Tok,∀k,b=go (λi=>t<|i-k) a k
|_,_,.nil=>⟨λ_=>0,λ_=>rfl⟩
| _,_,.cons n u r=>by
 obtain⟨t,h⟩:=go_of r;refine⟨λi=>match i with | 0=>u|i+1=>t i,λk=>?_⟩
 have e:∀(a:U Int) (j:Y) (f g:Y->Tok),(∀i,j<=i->f i=g i)->go f a j=go g a j:=by
  intro a;induction a with
  |nil=>exactλ_ _ _ _=>rfl
  |cons n a l=>exactλj f g h=>by show _::_=_::_;rw[h j<|Mi _,l (j+1) f g λi c=>h i<|by lia]
 show _=Value.int n (match k-k with | 0=>u|i+1=>t i)::go _ _ (k+1);rw[QS,h<|k+1]
 exact Tn (_::·) (e _ _ _ _ λi c=>by
  obtain⟨d,rfl⟩:∃d,i=k+1+d:=⟨i-(k+1),by lia⟩;rw[show k+1+d-(k+1)=d by lia,show k+1+d-k=d+1 by lia])
theorem vA:∀{l:U M9} {a:U Int},eqs l a=L7->TN (l.map (·.2)) a
|[],[],_=>.nil
|(k,.int n u)::l,m::a,h=>by have h:(decide (n=m)&&eqs l a)=true:=h;obtain⟨b,c⟩:=Ng.mp h;obtain rfl:=Ts b;exact .cons n u<|vA c
theorem AW {o:I<|Unit×TL}{b:U Int}(h:chkR o b=L7):∃a,o=O ((),a)/\Ul a=J/\TN ((Ub a).toList.map (·.2)) b:=by
 cases o with
 |none=>cases h
 |some p=>
  obtain⟨⟨⟩,a⟩:=p;have h:((match Ul a with|none=>L7|some _=>L5)&&eqs (Ub a).toList b)=true:=h;obtain⟨c,d⟩:=Ng.mp h;refine⟨a,rfl,?_,vA d⟩;cases e:Ul a with
  |none=>rfl
  |some v=>rw[e] at c;cases c
section
variable {prog:Td}{w:Mc}{A:Mh}{E:L->L8->Prop}{s:L8}
theorem rg {a:S9}{b:U L}{D m:U Int}{n:Y}{P:Fin->L8->Prop}(ho:s.heap.get? a=O (Nj "list" b.toArray n))(f:TN b D)(t:2<=b.length)(l:b.length<=1000)(u:chkR (qAll.1<|inSt b) m=L7)(x:m.length<=1000)
  (h:∀out:Tv L,TN out.toList m->P (.done<|.ret .none) {s with heap:=sortedHeap s.heap a b out}):Tc (Mb prog w) A (Ob.«list.sort» ⟨[.ref a],[]⟩) P E s:=by
 obtain⟨g,e1,e2,e3⟩:=AW u;have lt:=Heap.lt_size ho;have big:∀{k:Y},k<=1000->k<=sizeLine:=λh=>by rw[NA];lia
 generalize d:(s.heap.update a<|Obj.mapSeq λ_=>#[])=G;obtain⟨o,i⟩:∃o,G.get? a=O (Nj "list" #[] o):=⟨_,by rw[<- d];exact get?_update_seq ho λ_=>#[]⟩;have j:((G.push (Nj "tuple" b.toArray 0)).push (Nj "list" #[] 0)).get? a=O (Nj "list" #[] o):=Heap.get?_push_of_some _<|Heap.get?_push_of_some _ i;have out:=h ((Ub g).map (·.2)) (by rw[Array.toList_map];exact e3);rw[show sortedHeap s.heap a b ((Ub g).map (·.2))=((G.push<|Nj "tuple" b.toArray 0).push<|Nj "list" #[] 0).update a (Obj.mapSeq λ_=>(Ub g).map (·.2)) by rw[<- d];rfl] at out;rw[list_sort_plain];refine Ma<|listItems_at ho rfl (Ma<|listUpdate_at ho rfl ?_ (by rw[Mx];exact big l) (MH _));rw[d];refine Ma<|seqEpoch_at (s:={s with heap:=G}) i rfl (Ma<|wpAny_newTuple ?_<|big l);refine Ma<|wpAny_newList (Nq ?_)<|MH _;show Tc _ _ _ _ _ {s with heap:=(G.push<|Nj "tuple" b.toArray 0).push<|Nj "list" #[] 0};have p:¬b.toArray.size<2:=by rw[Mx];lia
 dsimp only;rw[Ti p,Ti p]
 have F:b.toArray.zip b.toArray=(b.map λv=>(v,v)).toArray:=by
  apply PD;rw[Array.toList_zip];clear e3 e2 e1 u out h j i d lt l t f ho p;induction b with
  |nil=>rfl
  |cons v b z=>exact Tn ((v,v)::·) z
 have B:keyKind' b.toArray=pure TX:=match b,t,f with
  |v::M::r,_,f=>keyKind_ints f
 rw[F,B];refine Ma<|Mf<|Ma<|MD (qAll.2.ok (Q:=λ_ c=>c=g) rfl e1 λ_=>rfl) (λr H y=>?_) λ_ _ e=>e;obtain⟨⟨⟩,c⟩:=r;obtain⟨rfl,rfl⟩:=y;dsimp only;refine Ma<|seqEpoch_at j rfl (Ma<|listUpdate_at j rfl ?_ (MH _) ?_)
 .rw [e2];simp only[bne_self_eq_false,OM,TR];exact Mf out
 .have:=e3.length;rw[Mg,N9] at this;rw[Array.size_map,this];exact Nat.le_succ_of_le<|big x
theorem sorted_long {l:S9}{a:U L}{p c:U Int}{Q:L->L8->Prop}(j:s.heap.IsList l a.toArray)(i:TN a p)(g:2<=a.length)(o:a.length<=1000)(n:chkR (qAll.1<|inSt a) c=L7)(k:c.length<=1000)
  (h:∀out:Tv L,TN out.toList c->Q (.ref<|s.heap.objs.size+1) {s with heap:=sortedAll s.heap a out}):Tc (Mb prog w) A (call (.builtin "sorted") [.ref l]) Q E s:=by
 have big:a.length<=sizeLine:=by rw[NA];lia
 refine Calls.call_function_entry kind_sorted plain_sorted entry_sorted (args_sorted1 _) ?_;unfold Ob.«sorted»;refine Ma (m:=checkCount "sorted" 1 1 _)<|Mf<|Ma<|collect_list j ?_ big;generalize e:(s.heap.push<|Nj "list" #[] 0).update s.heap.objs.size (Obj.mapSeq (·++a.toArray))=G;have b:G.objs.size=s.heap.objs.size+1:=by rw[<- e,Heap.size_update,size_push']
 have f:(G.push (Nj "list" a.toArray 0)).get? (s.heap.objs.size+1)=O (Nj "list" a.toArray 0):=by rw[<- b];exact Heap.get?_push_size _ rfl
 have d:∀out,TN out.toList c->Q (.ref (s.heap.objs.size+1)) {s with heap:=sortedHeap (G.push<|Nj "list" a.toArray 0) (s.heap.objs.size+1) a out}:=λout q=>by rw[<- e];exact h out q
 refine Ma<|wpAny_newList ?_ big;show Tc _ _ _ _ _ {s with heap:=G.push<|Nj "list" a.toArray 0};rw[b];exact Ma<|Nq<|OG SY ⟨_,f,rfl⟩ S1 (rg f i g o n k λout q=>⟨_,rfl,Mf ⟨_,rfl,d out q⟩⟩)<|args_list_sort _
end
theorem cnt_len:(Mj 11).all (λc=>[100,199,200].all λm=>decide ((cntI<|lngRow c m).length<=1000))=true:=by kernel_rfl
end SO

namespace L3
open PySem PySem.Spec PyProof.Rows L2
theorem pD {a:U Int}(h:M.lngOk a=L7):(∀t,SO.chkR (SO.qAll.1<|SO.inSt<|SO.go t a 0) (M.cntI a)=L7)/\2<=a.length/\a.length<=1000/\(M.cntI a).length<=1000:=by
 obtain⟨c,e,h⟩:=Ot.mp h;obtain⟨m,d,h⟩:=Ot.mp h;obtain rfl:a=M.lngRow c m:=eq_of_beq h;have f:(M.lngRow c m).length=m:=by unfold M.lngRow;rw[Mg,NZ]
 have b:2<=m/\m<=1000:=by
  rcases Mm.mp d with rfl|h
  .decide
  .rcases Mm.mp h with rfl | h
   .decide
   .rw[MZ.mp h];decide
 refine⟨λt=>SO.lng_ok t c m (NX.mp e) d,by rw[f];exact b.1,by rw[f];exact b.2,?_⟩;exact Ts<|Nd.mp (Nd.mp SO.cnt_len c e) m d
theorem oN {X:Cx}:bW X (.builtin "sorted") (λm H Q=>∃(a:S9) (c:U Int),m=[.ref a]/\SqL X.K H a (c.map V.int)/\M.lngOk c=L7/\∀p,H p=J->Q (.ref p) (upd H p<|.lst<|(M.cntI c).map V.int)):=by intro l s N H m G Q b r h;obtain⟨a,c,rfl,v,g,q⟩:=h;obtain⟨u,rfl,z⟩:=cU r;cases z;obtain⟨d,A,p,F⟩:=b.list v;have f:=cq A;have j:d.length=c.length:=IntsAre.length f;obtain⟨n,B,D,o⟩:=pD g;obtain⟨t,x⟩:=SO.go_of f;have k:=n λi=>t<|i-0;rw[<- x 0] at k;refine SO.sorted_long p.isList f (by lia) (by lia) k o λout y=>?_;obtain⟨e,w⟩:=sortedAll_at s.heap d out;exact⟨.ref<|s.heap.objs.size+1,upd H (s.heap.objs.size+1)<|.lst<|(M.cntI c).map V.int,b.laid (t':=s.toks) (λ_ _=>sortedAll_old) (N8 _) ⟨by rw[Mg,NA];lia,out.toList,e,gj y,by rw[w,Rn]⟩,rfl,q _<|b.hok.fresh<|N8 _⟩
end L3
namespace MR
open PySem PySem.Spec PyProof.Rows L2 L3
section
variable {X:Cx}{sf:Y->I Y}{C:M.Call}{pos p:Pos}{ea:Tq}{a:M.E}{h:Ta}{K:L9}
theorem nK:bW X (.builtin "sorted") (λf H Q=>∃(a:S9) (c:U Int),f=[.ref a]/\SqL X.K H a (c.map V.int)/\(c.length<64/\(∀j:U Int,j.Perm c->j.Pairwise (·<=·)->∀p,H p=J->Q (.ref p) (upd H p<|.lst<|j.map V.int))\/M.lngOk c=L7/\∀p,H p=J->Q (.ref p) (upd H p<|.lst<|(M.cntI c).map V.int))):=by
 intro d s l H f k Q b r ⟨a,c,e,hs,h⟩;rcases h with⟨g,i⟩|⟨g,i⟩
 .exact oK d s l H f k Q b r ⟨a,c,e,hs,g,i⟩
 .exact oN d s l H f k Q b r ⟨a,c,e,hs,g,i⟩
theorem mV:Loc K 1 .sortedL h λl H Q=>∃(a:S9) (b:U Int),l=[.ref a]/\SqL K H a (b.map V.int)/\(b.length<64/\(∀f:U Int,f.Perm b->f.Pairwise (·<=·)->∀p,H p=J->Q (.ref p) (upd H p<|.lst<|f.map V.int))\/M.lngOk b=L7/\∀p,H p=J->Q (.ref p) (upd H p<|.lst<|(M.cntI b).map V.int)):=by
 intro B w l Z H G Q u e r y D k
 match B,u with
 | [(m,a)],_ =>
  obtain⟨x,rfl,A⟩:=bE rfl r;obtain⟨j,rfl⟩:∃j,a=.lst j:=by cases a<;>first|exact⟨_,rfl⟩|cases e
  obtain⟨a,l,hx,n,F,p⟩:=aM A;have i:((M.intsOf j).bind λb=>if decide (b.length<64)=L7 then O ((.d,.lst ((M.sortI b).map M.T.int)):M.W) else if M.lngOk b=L7 then O (.d,.lst ((M.cntI b).map M.T.int)) else J)=O w:=e;cases e1:M.intsOf j with
  |none=>rw[e1] at i;cases i
  | some b =>
   rw[e1] at i;have e2:(if decide (b.length<64)=L7 then O ((.d,.lst ((M.sortI b).map M.T.int)):M.W) else if M.lngOk b=L7 then O (.d,.lst ((M.cntI b).map M.T.int)) else J)=O w:=i;rw[iO e1 p] at n;have g:∀f:U Int,O ((.d,.lst (f.map M.T.int)):M.W)=O w->f.length<=16777215->∀q,H q=J->Q (.ref q) (upd H q (.lst (f.map V.int))):=λf e t q v=>by cases e;exact cW (G':=no) y D (λ_ z=>z.elim) (by rw[Mg];exact t) (iu _) (by simp) k v
   refine⟨a,b,by rw[hx],.inl<|.inl n,?_⟩;split at e2
   .rename_i c;have c:=Ts c;refine .inl ⟨c,λf o s=>?_⟩;rw[vI o s];exact g _ e2<|by rw[(fQ b).1.length_eq];lia
   .split at e2
    .rename_i c;exact .inr ⟨c,g _ e2<|Mt (pD c).2.2.2<|by decide⟩
    .cases e2
theorem uP (hm:X.mg "sorted"=J)(d:Gl X "sorted":=by rfl)(ha:SE X sf C ea a)(c:Me [ea] X.env=(L5,Tx ea X.env)::Me [] X.env:=by rfl)(b:(Mp pos<|Me [] X.env).any (·.1)=false:=by rfl):SE X sf C (.Call (.Name "sorted" p) [ea] [] pos) (.op .sortedL h [a]):=
 aj (bA nK d hm (by rfl) (slc ha sl0 c) (by decide) (by decide) c b) (dU mV rfl)
end
section
variable {X:Cx}{sf:Y->I Y}{C:M.Call}{pos:Pos}{ea eb:Tq}{a b:M.E}{h:Ta}{K:L9}
theorem Ha:OpR X (M7 .Lt) (λx y H Q=>(∃i j:Int,x=.int i/\y=.int j/\Q (.bl<|decide (i<j)) H)\/∃a b:Ta,x=.bl a/\y=.bl b/\Q (.bl<|decide (M.b2i a<M.b2i b)) H):=by
 intro d s g H x y v u Q c e f h;rcases h with⟨i,j,rfl,rfl,q⟩|⟨a,b,rfl,rfl,q⟩
 .exact pV d s g H _ _ v u Q c e f ⟨i,j,rfl,rfl,q⟩
 .cases e;cases f;exact lt_bool ⟨.bl _,H,c,by cases a<;>cases b<;>rfl,q⟩
theorem Am:Loc K 2 .ltB h λg H Q=>∀x y,g=[x,y]->(∃i j:Int,x=.int i/\y=.int j/\Q (.bl<|decide (i<j)) H)\/∃a b:Ta,x=.bl a/\y=.bl b/\Q (.bl<|decide (M.b2i a<M.b2i b)) H:=by
 intro t w g Z H G Q l e r o z k x y hx;subst hx;obtain⟨⟨m,u⟩,⟨n,v⟩,rfl⟩:=dD r.length.symm;obtain⟨G1,G2,p,s,d,c,f⟩:=bM r
 rcases(show(∃i j,u=.int i/\v=.int j/\w=(.d,.bl<|decide (i<j)))\/∃a b,u=.bl a/\v=.bl b/\w=(.d,.bl<|decide (M.b2i a<M.b2i b)) by
  cases u<;>first|(cases e;done)|(cases v<;>first|(cases e;done)|(cases e;exact .inl ⟨_,_,rfl,rfl,rfl⟩)|(cases e;exact .inr ⟨_,_,rfl,rfl,rfl⟩))) with⟨i,j,rfl,rfl,rfl⟩|⟨a,b,rfl,rfl,rfl⟩
 .exact .inl ⟨i,j,c,f,bI k⟩
 .exact .inr ⟨a,b,c,f,bI k⟩
theorem LF (c:SE X sf C ea a)(d:SE X sf C eb b):SE X sf C (.Compare ea [.Lt] [eb] pos) (.op .ltB h [a,b]):=aj (eJ Ha c d<|b9 _)<|aD Am
end
end MR

set_option maxRecDepth 100000
namespace MR
open PySem PySem.Spec PyProof.Rows L2 L3
structure Dr where
 x:Str
 g:Y
 i:Y
 ps:U Str
 N:U Str
 fn:M.Fn
 r:Ta
noncomputable def lcB (sc:TM)(x:Str):Ta:=match sc.names.lookup x with
|some .local=>L7
|some .cell=>L7
|_=>L5
def Dr.ok (top:Y->Tz)(e:Dr):Ta:=decide ((defScope<|top e.i).kind=.function)&&(!(defScope<|top e.i).isCoroutine&&(!(defScope<|top e.i).isGenerator&&(decide e.N.Nodup&&(decide (e.N.take e.ps.length=e.ps)&&(e.ps.all (lcB<|defScope<|top e.i)&&(((defScope<|top e.i).names.all λy=>y.2 != .free)&&(e.fn.ps==e.ps.length&&(decide (e.ps.length<=e.N.length)&&(decide e.fn.io.Nodup&&((e.fn.io.all λi=>decide (i<e.ps.length))&&(!e.r || e.fn.io.isEmpty)))))))))))
section
variable {P:Td}{w:Mc}{K:L9}{mg:Str->I L}{base:To}{n:Y}{C:M.Call}{tab:U Dr}{top:Y->Tz}
theorem Dr.sc {e:Dr}(h:e.ok top=L7):bH e.N e.ps (defScope<|top e.i)/\e.fn.ps=e.ps.length/\e.ps.length<=e.N.length/\e.fn.io.Nodup/\(∀i∈e.fn.io,i<e.ps.length)/\(e.r=L7->e.fn.io=[]):=by
 simp only[Dr.ok,Mv,Pj,Tj,TQ,Nd,QN,List.isEmpty_iff,bne_iff_ne] at h;obtain⟨a,b,c,d,e1,f,g,j,k,l,m,o⟩:=h;refine⟨⟨a,b,c,d,e1,λx hx=>?_,g⟩,j,k,l,m,λz=>o.resolve_left λy=>by rw[y] at z;cases z⟩;have:=f x hx;unfold lcB at this;split at this
 .exact .inl ‹_›
 .exact .inr ‹_›
 .cases this
def Oks (P:Td)(w:Mc)(K:L9)(mg:Str->I L)(base:To)(tab:U Dr)(n:Y)(C:M.Call):Prop:=∀g x a,((tab.find? λe=>Ol e.g g).map λe=>(e.x,e.fn.io))=O (x,a)->et P w K mg base n C x g a
def zv (P:Td)(w:Mc)(K:L9)(mg:Str->I L)(base:To)(tab:U Dr)(n:Y)(C:M.Call):Prop:=∀g x,((tab.find? λe=>Ol e.g g).map λe=>(e.x,e.r))=O (x,L7)->jT P w K mg base n C x g
theorem t7 (h:∀e∈tab,et P w K mg base n C e.x e.g e.fn.io):Oks P w K mg base tab n C:=λg x a e=>by
 cases f:tab.find? λe=>Ol e.g g with
 |none=>rw[f] at e;cases e
 |some d=>rw[f] at e;cases e;have q:=RH f;obtain rfl:=QZ q;exact h d<|SJ f
theorem pG (h:∀e∈tab,e.r=L7->jT P w K mg base n C e.x e.g):zv P w K mg base tab n C:=λg x e=>by
 cases f:tab.find? λe=>Ol e.g g with
 |none=>rw[f] at e;cases e
 |some d=>rw[f] at e;have z:(d.x,d.r)=(x,L7):=MY e;have a:d.x=x:=Tn Nt z;have b:d.r=true:=Tn Nu z;have q:=RH f;obtain rfl:=QZ q;exact a ▸ h d (SJ f) b
def Bd (d:CXT)(nox:Cx->Cx)(P:Td)(w:Mc)(K:L9)(mg:Str->I L)(base:To)(n:Y)(C:M.Call)(top:Y->Tz)(x:Str)(i:Y)(N:U Str)(c:M.Fn):Prop:=∀(f:S9) (b:L) (A:Mh) (a:U Env) (s:L8) (H:Hp) (E:XK),N.Nodup->Room n (A.deeper<|Nc x (defScope<|top i) s.heap.objs.size f b)->SSs (nox<|gq d P w K mg base N x (defScope<|top i) f b A a s H E) (slN N.length) c.io C (defBody<|top i) c.body
def Bds (P:Td)(w:Mc)(K:L9)(mg:Str->I L)(base:To)(n:Y)(C:M.Call)(top:Y->Tz):U Dr->Prop
|[]=>TZ
|e::l=>(Bd CX0 Cx.nox P w K mg base n C top e.x e.i e.N e.fn/\(e.r=L7->Bd (CX1 P w) id P w K mg base n C top e.x e.i e.N e.fn))/\Bds P w K mg base n C top l
theorem bd0:Bds P w K mg base n C top []:=trivial
theorem bd1 {x:Str}{g i:Y}{b N:U Str}{a:M.Fn}{l:U Dr}(h:Bd CX0 Cx.nox P w K mg base n C top x i N a)(t:Bds P w K mg base n C top l):Bds P w K mg base n C top (⟨x,g,i,b,N,a,L5⟩::l):=⟨⟨h,λz=>by cases z⟩,t⟩
theorem bd2 {x:Str}{g i:Y}{c N:U Str}{a:M.Fn}{l:U Dr}(h:Bd CX0 Cx.nox P w K mg base n C top x i N a)(b:Bd (CX1 P w) id P w K mg base n C top x i N a)(t:Bds P w K mg base n C top l):Bds P w K mg base n C top (⟨x,g,i,c,N,a,L7⟩::l):=⟨⟨h,λ_=>b⟩,t⟩
theorem Bds.get:∀{l:U Dr},Bds P w K mg base n C top l->∀e∈l,Bd CX0 Cx.nox P w K mg base n C top e.x e.i e.N e.fn/\(e.r=L7->Bd (CX1 P w) id P w K mg base n C top e.x e.i e.N e.fn)
|_::_,h,e,m=>by
 rcases Mm.mp m with rfl|m
 .exact h.1
 .exact h.2.get e m
theorem Je {p:M.Call}(D:∀e∈tab,Df K mg e.x (top e.i) e.ps)(o:(tab.all<|Dr.ok top)=L7)(b:Bds P w K mg base n C top tab)(t:∀e∈tab,∀u,p e.g u=M.runF C e.fn u):Oks P w K mg base tab (n+1) p/\zv P w K mg base tab (n+1) p:=by
 have k:=λe m=>Dr.sc<|Nd.mp o e m
 exact⟨t7 λe m=>let ⟨S,a,c,d,f,_⟩:=k e m
  (D e m).s e.fn S (λ{f l A j s H E} h=>(b.get e m).1 f l A j s H E S.nd h) (t e m) a c d f,pG λe m z=>let ⟨S,a,c,d,f,r⟩:=k e m
  (D e m).sX e.fn S (λ{f l A j s H E} h=>r z ▸ (b.get e m).2 z f l A j s H E S.nd h) (t e m) a c (r z)⟩
theorem J0 (D:∀e∈tab,Df K mg e.x (top e.i) e.ps)(a:∀g b,C g b=.no):Oks P w K mg base tab n C/\zv P w K mg base tab n C:=
 ⟨t7 λe m=>(D e m).z<|a _,pG λe m _=>(D e m).zX<|a _⟩
theorem Al {prog:U M.Fn}(h:(tab.map λe=>prog[e.g]?)=tab.map λe=>O e.fn):∀e∈tab,prog[e.g]?=O e.fn:=R8.mp h
theorem AR {prog:U M.Fn}{s r:Y}(h:(tab.map λe=>prog[e.g]?)=tab.map λe=>O e.fn)(b:(tab.all λe=>!Nat.beq e.g s&&!Nat.beq e.g r)=L7)(n:Y):∀e∈tab,∀a,M.callR prog s r (n+1) e.g a=M.runF (M.callR prog s r n) e.fn a:=λe m a=>by have z:=Nd.mp b e m;rw[Mv,Pj,Pj] at z;show(if e.g=s then _ else if e.g=r then _ else(M.ofO prog[e.g]?).bind λd=>M.runF (M.callR prog s r n) d a)=_;rw[Ti (λq=>by rw[q] at z;exact Tg z.1<|by rw[show Ol s s=L7 from RR s];decide),Ti (λq=>by rw[q] at z;exact Tg z.2<|by rw[show Ol r r=L7 from RR r];decide),Al h e m];rfl
def Ep (K:L9)(top:Y->Tz)(tab:U Dr):Prop:=∀e∈tab,Raw K e.x (top e.i) .none
def n0 (c:Tz)(x:Str)(e:U Str):Prop:=∀(kV b g:L) (an:I S9) (a f:L) (d:U L),d.length=e.length->bindArgs (Nh x x (defArgs c) (defBody c) (defScope c) .none kV b g an a f) ⟨d,[]⟩=pure (e.zip d)
def Binds' (top:Y->Tz):U Dr->Prop
|[]=>TZ
|e::l=>n0 (top e.i) e.x e.ps/\Binds' top l
theorem bn0:Binds' top []:=trivial
theorem bn1 {e:Dr}{l:U Dr}(h:n0 (top e.i) e.x e.ps)(t:Binds' top l):Binds' top (e::l):=⟨h,t⟩
theorem Binds'.get:∀{l:U Dr},Binds' top l->∀e∈l,n0 (top e.i) e.x e.ps
|_::_,h,e,m=>by
 rcases Mm.mp m with rfl|m
 .exact h.1
 .exact h.2.get e m
theorem DR {h:To}(X:K.In h)(G:h.Ns Ml mg)(r:Ep K top tab)(b:Binds' top tab):∀e∈tab,Df K mg e.x (top e.i) e.ps:=λe m=>BJ X G (r e m)<|b.get e m
def LS (K:L9)(e:Dr):(I<|I L)×(I Obj)×Ta×Ta:=(M3 K Ml e.x,K.lookup<|TP.rfO<|M3 K Ml e.x,PF K (.ref<|TP.rfO (M3 K Ml e.x)-1) e.x,Ny K<|.ref<|TP.rfO<|M3 K Ml e.x)
def Lf (K:L9)(a:Tz)(e:Dr):(I<|I L)×(I Obj)×Ta×Ta:=(O<|O<|.ref<|TP.rfO<|M3 K Ml e.x,O ⟨.type "function",J,.func<|Nh e.x e.x (defArgs a) (defBody a) (defScope a) .none .none .none (TP.pmO<|K.lookup<|TP.rfO<|M3 K Ml e.x) J (.ref<|TP.rfO (M3 K Ml e.x)-1) .none,#[]⟩,L7,L7)
theorem raws_mk (h:tab.map (LS K)=tab.map λe=>Lf K (top e.i) e):Ep K top tab:=λe m=>by have z:=R8.mp h e m;have a:=Tn Nu z;have b:=Tn Nu a;exact TP.raw_mk (Tn Nt z) (Tn Nt a) (Tn Nt b)<|Tn Nu b
def Jl (tab:U Dr):U (Str×Y)->U (Str×Str)->Prop
|[],_=>TZ
|e::r,l=>(∃y,l.lookup e.1=O y/\((tab.find? λd=>Ol d.g e.2).map λd=>(d.x,d.fn.io))=O (y,[]))/\Jl tab r l
theorem dQ (o:Oks P w K mg base tab n C):∀{r:U<|Str×Y} {l:U<|Str×Str},Jl tab r l->Fy P w K mg base n C r l
|[],_,_=>trivial
|_::_,_,c=>by obtain⟨⟨y,a,b⟩,t⟩:=c;exact⟨⟨y,a,o _ _ _ b⟩,dQ o t⟩
end
end MR

namespace A17
open M
open PySem (Str)
noncomputable abbrev q:=Str.ofString
noncomputable abbrev fZ:Y:=31
noncomputable abbrev iP:Y:=450
noncomputable def keys_AHEAD:U Str:=[q "num",q "name",q "none",q "let",q "each",q "times"]
noncomputable def tab_DOINGS:U (Str×Y):=[(q "not",42),(q "first",43),(q "second",44),(q "one",45),(q "upto",46),(q "long",47),(q "sum",48),(q "sums",49),(q "most",50),(q "flat",51),(q "add",52),(q "sub",53),(q "mul",54),(q "div",131),(q "rest",132),(q "less",57),(q "same",58),(q "both",59),(q "pair",60),(q "pick",61),(q "join",590),(q "keep",62),(q "cut",63)]
noncomputable def keys_WAYS:U Str:=[q "let",q "if",q "each",q "times"]
noncomputable def mP:U (Str×Y):=[]
noncomputable def keys_WORDS:U Str:=[q "upto",q "sum",q "sums",q "most",q "flat",q "add",q "sub",q "mul",q "div",q "rest",q "pick",q "join",q "keep",q "cut"]
noncomputable def tab_WORDS:U (Str×Y):=[(q "upto",64),(q "sum",65),(q "sums",65),(q "most",66),(q "flat",67),(q "add",68),(q "sub",69),(q "mul",70),(q "div",71),(q "rest",71),(q "pick",72),(q "join",73),(q "keep",74),(q "cut",75)]
noncomputable def aX:Fn:={ps:=1,ns:=0,io:=[],body:=[
  .ret [] (.ifx (.chain .le .le (.op .neg L5 [.cst<|.int 1000000000000000000]) (.mv 0)<|.cst<|.int 1000000000000000000) (.cst<|.non)<|.cst<|.str<|q "great")]}
noncomputable def bY:Fn:={ps:=1,ns:=2,io:=[],body:=[
  .asg (.q [] []) 1 (.cst<|.int 0),
  .forS [0] [] .seq [.var 0] [2] [
   .asg (.q [1] [2]) 1 (.op .add L5 [.var 1,.var 2]),
   .ite (.q [1] []) (.op .isnot L5 [.call 28 [.var 1],.cst (.non)]) [
    .ret [] (.cst<|.str<|q "great")] []],
  .ret [] (.cst<|.non)]}
noncomputable def aY:Fn:={ps:=1,ns:=0,io:=[],body:=[
  .ret [] (.ifx (.op .eq L5 [.mv 0,.cst<|.int 0]) (.cst<|.str<|q "nought")<|.cst<|.non)]}
noncomputable def aR:Fn:={ps:=2,ns:=0,io:=[],body:=[
  .ret [] (.ifx (.chain .le .lt (.cst<|.int 0) (.mv 1)<|.mv 0) (.cst<|.non)<|.cst<|.str<|q "beyond")]}
noncomputable def bC:Fn:={ps:=1,ns:=0,io:=[],body:=[
  .ret [] (.ifx (.op .eq L5 [.mv 0,.cst<|.int 0]) (.cst<|.str<|q "empty")<|.cst<|.non)]}
noncomputable def bu:Fn:={ps:=1,ns:=0,io:=[],body:=[
  .ret [] (.ifx (.chain .le .le (.cst<|.int 0) (.mv 0)<|.cst<|.int 200) (.cst<|.non)<|.cst<|.str<|q "far")]}
noncomputable def bX:Fn:={ps:=1,ns:=0,io:=[],body:=[
  .ret [] (.ifx (.op .le L5 [.mv 0,.cst<|.int 200]) (.cst<|.non)<|.cst<|.str<|q "far")]}
noncomputable def cD:Fn:={ps:=2,ns:=0,io:=[],body:=[
  .ret [] (.ifx (.op .eq L5 [.mv 0,.mv 1]) (.cst<|.non)<|.cst<|.str<|q "unlike")]}
noncomputable def bV:Fn:={ps:=2,ns:=1,io:=[],body:=[
  .ite (.q [1] [0]) (.or (.op .any L5 [.comp L5 .seq [.var 1] [2] J (.op .lt L5 [.var 2,.cst (.int 0)])]) (.op .ne L5 [.op .sum L5 [.var 1],.var 0])) [
   .ret [] (.cst<|.str<|q "unlike")] [],
  .ret [] (.cst<|.non)]}
noncomputable def fv:Fn:={ps:=2,ns:=1,io:=[],body:=[
  .asg (.q [0,1] []) 2 (.ifx (.inT L5 keys_WORDS<|.op .ix L5 [.var 0,.cst<|.int 0]) (.callT tab_WORDS (.op .ix L5 [.var 0,.cst<|.int 0]) [.var 1])<|.cst<|.non),
  .ite (.q [2] []) (.op .isnot L5 [.var 2,.cst (.non)]) [
   .ret [] (.tup [.cst<|.non,.mv 2])] [],
  .ite (.q [0] []) (.op .eq L5 [.op .ix L5 [.var 0,.cst (.int 0)],.cst (.str (q "num"))]) [
   .ret [] (.tup [.op .ix L5 [.mv 0,.cst<|.int 1],.cst<|.non])] [],
  .ret [] (.tup [.callT tab_DOINGS (.op .ix L5 [.mv 0,.cst<|.int 0]) [.mv 1],.cst<|.non])]}
noncomputable def aB:Fn:={ps:=1,ns:=2,io:=[],body:=[
  .ite (.q [0] []) (.op (.isI ["list"]) L5 [.var 0]) [
   .ret [] (.comp L7 .seq [.mv 0] [1] J<|.call 456 [.var 1])] [],
  .ite (.q [0] []) (.op (.isI ["tuple"]) L5 [.var 0]) [
   .ret [] (.op .tuple L7 [.comp L7 .seq [.mv 0] [2] J<|.call 456 [.var 2]])] [],
  .ret [] (.mv 0)]}
noncomputable def sP:Fn:={ps:=2,ns:=3,io:=[],body:=[.pas]}
noncomputable def er:Fn:={ps:=1,ns:=0,io:=[],body:=[
  .ret [] (.not<|.op .ix L5 [.mv 0,.cst<|.int 0])]}
noncomputable def cS:Fn:={ps:=1,ns:=0,io:=[],body:=[
  .ret [] (.op .ix L5 [.op .ix L5 [.mv 0,.cst<|.int 0],.cst<|.int 0])]}
noncomputable def cy:Fn:={ps:=1,ns:=0,io:=[],body:=[
  .ret [] (.op .ix L5 [.op .ix L5 [.mv 0,.cst<|.int 0],.cst<|.int 1])]}
noncomputable def eu:Fn:={ps:=1,ns:=0,io:=[],body:=[
  .ret [] (.lst L5 [.op .ix L5 [.mv 0,.cst<|.int 0]])]}
noncomputable def dk:Fn:={ps:=1,ns:=0,io:=[],body:=[
  .ret [] (.op .rng L5 [.cst<|.int 0,.op .ix L5 [.mv 0,.cst<|.int 0]])]}
noncomputable def dI:Fn:={ps:=1,ns:=0,io:=[],body:=[
  .ret [] (.op .len L5 [.op .ix L5 [.mv 0,.cst<|.int 0]])]}
noncomputable def dX:Fn:={ps:=1,ns:=0,io:=[],body:=[
  .ret [] (.op .sum L5 [.op .ix L5 [.mv 0,.cst<|.int 0]])]}
noncomputable def dB:Fn:={ps:=1,ns:=3,io:=[],body:=[
  .asg (.q [] []) 1 (.lst L5 []),
  .asg (.q [] []) 2 (.cst<|.int 0),
  .forS [0] [] .seq [.op .ix L5 [.var 0,.cst (.int 0)]] [3] [
   .app (.q [2] []) 1 (.var 2),
   .asg (.q [2] [3]) 2 (.op .add L5 [.var 2,.var 3])],
  .ret [] (.mv 1)]}
noncomputable def dw:Fn:={ps:=1,ns:=0,io:=[],body:=[
  .ret [] (.op .max1 L5 [.op .ix L5 [.mv 0,.cst<|.int 0]])]}
noncomputable def dH:Fn:={ps:=1,ns:=2,io:=[],body:=[
  .asg (.q [] []) 1 (.lst L5 []),
  .forS [0] [] .seq [.op .ix L5 [.var 0,.cst (.int 0)]] [2] [
   .ext (.q [2] []) 1 (.var 2)],
  .ret [] (.mv 1)]}
noncomputable def dY:Fn:={ps:=1,ns:=0,io:=[],body:=[
  .ret [0] (.op .add L5 [.op .ix L5 [.var 0,.cst<|.int 0],.op .ix L5 [.var 0,.cst<|.int 1]])]}
noncomputable def d8:Fn:={ps:=1,ns:=0,io:=[],body:=[
  .ret [0] (.op .sub L5 [.op .ix L5 [.var 0,.cst<|.int 0],.op .ix L5 [.var 0,.cst<|.int 1]])]}
noncomputable def ei:Fn:={ps:=1,ns:=0,io:=[],body:=[
  .ret [0] (.op .mul L5 [.op .ix L5 [.var 0,.cst<|.int 0],.op .ix L5 [.var 0,.cst<|.int 1]])]}
noncomputable def ee:Fn:={ps:=1,ns:=0,io:=[],body:=[
  .ret [0] (.op .fdivN L5 [.op .ix L5 [.var 0,.cst<|.int 0],.op .ix L5 [.var 0,.cst<|.int 1]])]}
noncomputable def dn:Fn:={ps:=1,ns:=0,io:=[],body:=[
  .ret [0] (.op .modN L5 [.op .ix L5 [.var 0,.cst<|.int 0],.op .ix L5 [.var 0,.cst<|.int 1]])]}
noncomputable def dA:Fn:={ps:=1,ns:=0,io:=[],body:=[
  .ret [0] (.op .lt L5 [.op .ix L5 [.var 0,.cst<|.int 0],.op .ix L5 [.var 0,.cst<|.int 1]])]}
noncomputable def cN:Fn:={ps:=1,ns:=0,io:=[],body:=[
  .ret [0] (.op .eq L5 [.op .ix L5 [.var 0,.cst<|.int 0],.op .ix L5 [.var 0,.cst<|.int 1]])]}
noncomputable def dy:Fn:={ps:=1,ns:=0,io:=[],body:=[
  .ret [0] (.and (.op .ix L5 [.var 0,.cst<|.int 0])<|.op .ix L5 [.var 0,.cst<|.int 1])]}
noncomputable def dP:Fn:={ps:=1,ns:=0,io:=[],body:=[
  .ret [0] (.tup [.op .ix L5 [.var 0,.cst<|.int 0],.op .ix L5 [.var 0,.cst<|.int 1]])]}
noncomputable def dj:Fn:={ps:=1,ns:=0,io:=[],body:=[
  .ret [0] (.op .ix L5 [.op .ix L5 [.var 0,.cst<|.int 0],.op .ix L5 [.var 0,.cst<|.int 1]])]}
noncomputable def dM:Fn:={ps:=1,ns:=0,io:=[],body:=[
  .ret [0] (.op .add L5 [.op .ix L5 [.var 0,.cst<|.int 0],.op .ix L5 [.var 0,.cst<|.int 1]])]}
noncomputable def dm:Fn:={ps:=1,ns:=2,io:=[],body:=[
  .ret [0] (.comp L5 .zip [.op .ix L5 [.var 0,.cst<|.int 0],.op .ix L5 [.var 0,.cst<|.int 1]] [1,2] (O<|.var 2)<|.var 1)]}
noncomputable def eA:Fn:={ps:=1,ns:=0,io:=[],body:=[
  .ret [0] (.call 1 [.op .ix L5 [.var 0,.cst<|.int 1],.op .ix L5 [.var 0,.cst<|.int 0]])]}
noncomputable def aW:Fn:={ps:=1,ns:=0,io:=[],body:=[
  .ret [] (.call 33 [.op .ix L5 [.mv 0,.cst<|.int 0]])]}
noncomputable def a0:Fn:={ps:=1,ns:=0,io:=[],body:=[
  .ret [] (.call 29 [.op .ix L5 [.mv 0,.cst<|.int 0]])]}
noncomputable def aV:Fn:={ps:=1,ns:=0,io:=[],body:=[
  .ret [] (.call 32 [.op .len L5 [.op .ix L5 [.mv 0,.cst<|.int 0]]])]}
noncomputable def bp:Fn:={ps:=1,ns:=1,io:=[],body:=[
  .ret [] (.call 34 [.op .sum L5 [.comp L5 .seq [.op .ix L5 [.mv 0,.cst<|.int 0]] [1] J<|.op .len L5 [.var 1]]])]}
noncomputable def bQ:Fn:={ps:=1,ns:=0,io:=[],body:=[
  .ret [0] (.call 28 [.op .add L5 [.op .ix L5 [.var 0,.cst<|.int 0],.op .ix L5 [.var 0,.cst<|.int 1]]])]}
noncomputable def bR:Fn:={ps:=1,ns:=0,io:=[],body:=[
  .ret [0] (.call 28 [.op .sub L5 [.op .ix L5 [.var 0,.cst<|.int 0],.op .ix L5 [.var 0,.cst<|.int 1]]])]}
noncomputable def bK:Fn:={ps:=1,ns:=0,io:=[],body:=[
  .ret [0] (.call 28 [.op .mul L5 [.op .ix L5 [.var 0,.cst<|.int 0],.op .ix L5 [.var 0,.cst<|.int 1]]])]}
noncomputable def bP:Fn:={ps:=1,ns:=0,io:=[],body:=[
  .ret [] (.call 30 [.op .ix L5 [.mv 0,.cst<|.int 1]])]}
noncomputable def br:Fn:={ps:=1,ns:=0,io:=[],body:=[
  .ret [0] (.call 31 [.op .len L5 [.op .ix L5 [.var 0,.cst<|.int 0]],.op .ix L5 [.var 0,.cst<|.int 1]])]}
noncomputable def bw:Fn:={ps:=1,ns:=0,io:=[],body:=[
  .ret [0] (.call 34 [.op .add L5 [.op .len L5 [.op .ix L5 [.var 0,.cst<|.int 0]],.op .len L5 [.op .ix L5 [.var 0,.cst<|.int 1]]]])]}
noncomputable def bz:Fn:={ps:=1,ns:=0,io:=[],body:=[
  .ret [0] (.call 35 [.op .len L5 [.op .ix L5 [.var 0,.cst<|.int 0]],.op .len L5 [.op .ix L5 [.var 0,.cst<|.int 1]]])]}
noncomputable def bS:Fn:={ps:=1,ns:=0,io:=[],body:=[
  .ret [0] (.call 36 [.op .len L5 [.op .ix L5 [.var 0,.cst<|.int 0]],.op .ix L5 [.var 0,.cst<|.int 1]])]}
noncomputable def aZ:Fn:={ps:=1,ns:=0,io:=[],body:=[
  .ret [] (.ifx (.inT L5 keys_AHEAD<|.mv 0) (.cst<|.int 2)<|.cst<|.int 1)]}
noncomputable def fX:Fn:={ps:=1,ns:=0,io:=[],body:=[
  .ret [0] (.op .sl1 L5 [.var 0,.call 175 [.op .ix L5 [.var 0,.cst<|.int 0]]])]}
noncomputable def f_reading:Fn:={ps:=3,ns:=5,io:=[],body:=[
  .asg (.q [] []) 3 (.op .dnew L5 []),
  .forS [0,1] [] .zip [.op .ix L5 [.var 0,.cst (.int 0)],.var 1] [4,5] [
   .setS (.q [4,5] []) 3 (.op .ix L5 [.var 4,.cst<|.int 0]) (.var 5)],
  .tryC [fZ] [
   .asgC [0,2,3] 7 576 [.op .ix L5 [.var 0,.cst<|.int 1],.tup [],.op (.mkP iP [q "names",q "turns",q "rounds",q "book"] []) L5 [.var 3,.tup [],.tup [],.var 2]]] 6 [
   .ret [6] (.tup [.cst<|.str<|q "stops",.op (.att<|q "word") L5 [.var 6],.op (.att<|q "place") L5 [.var 6],.op (.att<|q "turns") L5 [.var 6]])],
  .ret [] (.tup [.cst<|.str<|q "is",.mv 7])]}
noncomputable def aS:Fn:={ps:=3,ns:=4,io:=[],body:=[
  .ite (.q [0] []) (.op .eq L5 [.op .ix L5 [.var 0,.cst (.int 0)],.cst (.str (q "name"))]) [
   .ret [] (.op .ixD L5 [.op (.attP<|q "names") L5 [.mv 2],.op .ix L5 [.mv 0,.cst<|.int 1]])] [],
  .ite (.q [0] []) (.inT L5 keys_WAYS (.op .ix L5 [.var 0,.cst (.int 0)])) [
   .ret [0] (.callT mP (.op .ix L5 [.var 0,.cst<|.int 0]) [.var 0,.mv 1,.mv 2])] [],
  .asg (.q [0,1,2] []) 3 (.comp L5 .enmT [.call 176 [.var 0]] [5,6] J<|.call 576 [.var 6,.op .catT L5 [.var 1,.tup [.var 5]],.var 2]),
  .asg (.q [0,3] []) 4 (.call 130 [.var 0,.var 3]),
  .ite (.q [4] []) (.op .isnot L5 [.op .ix L5 [.var 4,.cst (.int 1)],.cst (.non)]) [
   .raiseN fZ [q "word",q "place",q "turns"] [1,2,4] [.op .ix L5 [.var 4,.cst<|.int 1],.var 1,.op (.attP<|q "turns") L5 [.var 2]]] [],
  .ite (.q [2] []) (.op .isnot L5 [.op (.attP<|q "book") L5 [.var 2],.cst<|.non]) [.stop] [],
  .ret [] (.op .ix L5 [.mv 4,.cst<|.int 0])]}
noncomputable def ib:Fn:={ps:=2,ns:=0,io:=[],body:=[
  .ret [] (.call 456 [.call 585 [.mv 0,.mv 1,.cst<|.non]])]}
noncomputable def ax:Fn:={ps:=2,ns:=2,io:=[],body:=[
  .ite (.q [1] []) (.op (.isI ["tuple","list"]) L5 [.var 1]) [
   .ite (.q [0,1] []) (.or (.op .ne L5 [.op (.isI ["tuple"]) L5 [.var 1],.op (.isI ["tuple"]) L5 [.var 0]]) (.op .ne L5 [.op (.isI ["list"]) L5 [.var 1],.op (.isI ["list"]) L5 [.var 0]])) [
    .ret [] (.cst<|.bl L5)] [],
   .ret [0,1] (.and (.op .eq L5 [.op .len L5 [.var 0],.op .len L5 [.var 1]])<|.op .all L5 [.comp L5 .zip [.var 0,.var 1] [2,3] J<|.call 170 [.var 2,.var 3]])] [],
  .ite (.q [0,1] []) (.or (.op (.isI ["bool"]) L5 [.var 1]) (.op (.isI ["bool"]) L5 [.var 0])) [
   .ret [0,1] (.and (.op (.isI ["bool"]) L5 [.var 1])<|.and (.op (.isI ["bool"]) L5 [.var 0])<|.op .eq L5 [.var 0,.var 1])] [],
  .ite (.q [1] []) (.op (.isI ["int"]) L5 [.var 1]) [
   .ret [0] (.and (.op (.isI ["int"]) L5 [.var 0])<|.op .eq L5 [.var 0,.mv 1])] [],
  .ite (.q [1] []) (.op .is L5 [.var 1,.cst (.non)]) [
   .ret [] (.op .is L5 [.mv 0,.cst<|.non])] [],
  .ret [0] (.and (.op (.isI ["str"]) L5 [.var 0])<|.op .eq L5 [.var 0,.mv 1])]}
noncomputable def aI:Fn:={ps:=3,ns:=1,io:=[],body:=[
  .ite (.q [0] []) (.op .isin L5 [.var 0,.tup [.cst (.str (q "div")),.cst (.str (q "rest"))]]) [
   .ite (.q [2] []) (.op .eq L5 [.var 2,.cst (.int 0)]) [
    .ret [] (.tup [.cst<|.int 0,.cst<|.str<|q "nought"])] [],
   .ret [1,2] (.tup [.op .ix L5 [.lst L5 [.op .fdivN L5 [.var 1,.var 2],.op .sub L5 [.var 1,.op .mul L5 [.op .fdivN L5 [.var 1,.var 2],.var 2]]],.op .int L5 [.op .eq L5 [.mv 0,.cst<|.str<|q "rest"]]],.cst<|.str<|q ""])] [],
  .asg (.q [0,1,2] []) 3 (.op .ix L5 [.lst L5 [.op .add L5 [.var 1,.var 2],.op .sub L5 [.var 1,.var 2],.op .mul L5 [.var 1,.var 2]],.op .idxL L5 [.lst L5 [.cst<|.str<|q "add",.cst<|.str<|q "sub",.cst<|.str<|q "mul"],.var 0]]),
  .ret [3] (.tup [.var 3,.ifx (.op .gt L5 [.op .abs L5 [.var 3],.op .pow L5 [.cst<|.int 10,.cst<|.int 18]]) (.cst<|.str<|q "great")<|.cst<|.str<|q ""])]}
noncomputable def aH:Fn:={ps:=2,ns:=6,io:=[],body:=[
  .ite (.q [0] []) (.op .eq L5 [.var 0,.cst (.str (q "long"))]) [
   .ret [] (.tup [.op .len L5 [.mv 1],.cst<|.str<|q ""])] [],
  .ite (.q [0] []) (.op .eq L5 [.var 0,.cst (.str (q "most"))]) [
   .ret [1] (.tup [.ifx (.op .gt L5 [.op .len L5 [.var 1],.cst<|.int 0]) (.op .ix L5 [.op .sortedL L5 [.var 1],.op .neg L5 [.cst<|.int 1]])<|.cst<|.int 0,.ifx (.op .gt L5 [.op .len L5 [.var 1],.cst<|.int 0]) (.cst<|.str<|q "")<|.cst<|.str<|q "empty"])] [],
  .ite (.q [0] []) (.op .eq L5 [.var 0,.cst (.str (q "flat"))]) [
   .asg (.q [] []) 2 (.lst L5 []),
   .forS [1] [] .seq [.var 1] [3] [
    .ext (.q [3] []) 2 (.var 3)],
   .ret [2] (.tup [.var 2,.ifx (.op .gt L5 [.op .len L5 [.var 2],.cst<|.int 200]) (.cst<|.str<|q "far")<|.cst<|.str<|q ""])] [],
  .asg (.q [] []) 4 (.lst L5 [.cst<|.int 0]),
  .forS [1] [] .seq [.var 1] [5] [
   .app (.q [4] [5]) 4 (.op .add L5 [.op .ix L5 [.var 4,.op .neg L5 [.cst<|.int 1]],.var 5])],
  .asg (.q [4] []) 6 (.ifx (.op .gt L5 [.op .max1 L5 [.comp L5 .seq [.var 4] [7] J<|.op .abs L5 [.var 7]],.op .pow L5 [.cst<|.int 10,.cst<|.int 18]]) (.cst<|.str<|q "great")<|.cst<|.str<|q ""),
  .ret [4] (.tup [.ifx (.op .eq L5 [.mv 0,.cst<|.str<|q "sum"]) (.op .ix L5 [.var 4,.op .neg L5 [.cst<|.int 1]])<|.op .sl2 L5 [.var 4,.op .neg L5 [.cst<|.int 1]],.mv 6])]}
noncomputable def av:Fn:={ps:=3,ns:=4,io:=[],body:=[
  .ite (.q [0] []) (.op .eq L5 [.var 0,.cst (.str (q "join"))]) [
   .ret [1,2] (.tup [.op .add L5 [.var 1,.var 2],.ifx (.op .gt L5 [.op .add L5 [.op .len L5 [.var 1],.op .len L5 [.var 2]],.cst<|.int 200]) (.cst<|.str<|q "far")<|.cst<|.str<|q ""])] [],
  .ite (.q [0] []) (.op .eq L5 [.var 0,.cst (.str (q "pick"))]) [
   .ite (.q [1,2] []) (.or (.op .lt L5 [.var 2,.cst (.int 0)]) (.op .ge L5 [.var 2,.op .len L5 [.var 1]])) [
    .ret [] (.tup [.cst<|.int 0,.cst<|.str<|q "beyond"])] [],
   .ret [] (.tup [.op .ix L5 [.mv 1,.mv 2],.cst<|.str<|q ""])] [],
  .ite (.q [0] []) (.op .eq L5 [.var 0,.cst (.str (q "keep"))]) [
   .ite (.q [1,2] []) (.op .ne L5 [.op .len L5 [.var 1],.op .len L5 [.var 2]]) [
    .ret [] (.tup [.lst L5 [],.cst<|.str<|q "unlike"])] [],
   .ret [1,2] (.tup [.comp L5 .rng [.op .len L5 [.var 1]] [5] (O<|.op .ix L5 [.var 2,.var 5])<|.op .ix L5 [.var 1,.var 5],.cst<|.str<|q ""])] [],
  .ite (.q [1,2] []) (.or (.op .gt L5 [.op .len L5 [.comp L5 .seq [.var 2] [6] (O (.op .lt L5 [.var 6,.cst (.int 0)])) (.var 6)],.cst (.int 0)]) (.op .ne L5 [.op .sum L5 [.var 2],.op .len L5 [.var 1]])) [
   .ret [] (.tup [.lst L5 [],.cst<|.str<|q "unlike"])] [],
  .asg (.q [] []) 3 (.lst L5 []),
  .forS [2] [] .rng [.op .len L5 [.var 2]] [4] [
   .app (.q [1,2] [4]) 3 (.op .sl3 L5 [.var 1,.op .sum L5 [.op .sl2 L5 [.var 2,.var 4]],.op .sum L5 [.op .sl2 L5 [.var 2,.op .add L5 [.var 4,.cst<|.int 1]]]])],
  .ret [] (.tup [.mv 3,.cst<|.str<|q ""])]}
noncomputable def ak:Fn:={ps:=2,ns:=4,io:=[],body:=[
  .asg (.q [0] []) 2 (.op .ix L5 [.var 0,.cst<|.int 0]),
  .ite (.q [2] []) (.op .eq L5 [.var 2,.cst (.str (q "num"))]) [
   .ret [] (.tup [.op .ix L5 [.mv 0,.cst<|.int 1],.cst<|.str<|q ""])] [],
  .ite (.q [2] []) (.op .isin L5 [.var 2,.tup [.cst (.str (q "yes")),.cst (.str (q "no")),.cst (.str (q "none"))]]) [
   .ret [2] (.tup [.ifx (.op .eq L5 [.var 2,.cst<|.str<|q "none"]) (.lst L5 [])<|.op .eq L5 [.var 2,.cst<|.str<|q "yes"],.cst<|.str<|q ""])] [],
  .ite (.q [2] []) (.op .eq L5 [.var 2,.cst (.str (q "not"))]) [
   .ret [] (.tup [.not<|.op .ix L5 [.mv 1,.cst<|.int 0],.cst<|.str<|q ""])] [],
  .ite (.q [2] []) (.op .isin L5 [.var 2,.tup [.cst (.str (q "first")),.cst (.str (q "second"))]]) [
   .ret [] (.tup [.op .ix L5 [.op .ix L5 [.mv 1,.cst<|.int 0],.op .int L5 [.op .eq L5 [.mv 2,.cst<|.str<|q "second"]]],.cst<|.str<|q ""])] [],
  .ite (.q [2] []) (.op .isin L5 [.var 2,.tup [.cst (.str (q "one")),.cst (.str (q "pair"))]]) [
   .ret [1] (.tup [.ifx (.op .eq L5 [.mv 2,.cst<|.str<|q "pair"]) (.op .tuple L5 [.var 1])<|.op .list L5 [.var 1],.cst<|.str<|q ""])] [],
  .ite (.q [2] []) (.op .eq L5 [.var 2,.cst (.str (q "upto"))]) [
   .asg (.q [1] []) 3 (.and (.op .ge L5 [.op .ix L5 [.var 1,.cst<|.int 0],.cst<|.int 0])<|.op .le L5 [.op .ix L5 [.var 1,.cst<|.int 0],.cst<|.int 200]),
   .ret [] (.tup [.ifx (.var 3) (.op .rng L5 [.cst<|.int 0,.op .ix L5 [.mv 1,.cst<|.int 0]])<|.lst L5 [],.ifx (.var 3) (.cst<|.str<|q "")<|.cst<|.str<|q "far"])] [],
  .ite (.q [2] []) (.op .isin L5 [.var 2,.tup [.cst (.str (q "less")),.cst (.str (q "same")),.cst (.str (q "both"))]]) [
   .asgL (.q [1] []) [4,5] (.var 1),
   .ret [4,5] (.tup [.op .ix L5 [.lst L5 [.op .ltB L5 [.var 4,.var 5],.op .eq L5 [.var 4,.var 5],.and (.var 4)<|.var 5],.op .idxL L5 [.lst L5 [.cst<|.str<|q "less",.cst<|.str<|q "same",.cst<|.str<|q "both"],.mv 2]],.cst<|.str<|q ""])] [],
  .ite (.q [2] []) (.op .isin L5 [.var 2,.tup [.cst (.str (q "add")),.cst (.str (q "sub")),.cst (.str (q "mul")),.cst (.str (q "div")),.cst (.str (q "rest"))]]) [
   .ret [1] (.call 587 [.mv 2,.op .ix L5 [.var 1,.cst<|.int 0],.op .ix L5 [.var 1,.cst<|.int 1]])] [],
  .ite (.q [2] []) (.op .isin L5 [.var 2,.tup [.cst (.str (q "sum")),.cst (.str (q "sums")),.cst (.str (q "most")),.cst (.str (q "long")),.cst (.str (q "flat"))]]) [
   .ret [] (.call 583 [.mv 2,.op .ix L5 [.mv 1,.cst<|.int 0]])] [],
  .ret [1] (.call 569 [.mv 2,.op .ix L5 [.var 1,.cst<|.int 0],.op .ix L5 [.var 1,.cst<|.int 1]])]}
noncomputable def bD:Fn:={ps:=1,ns:=1,io:=[],body:=[
  .asg (.q [] []) 1 (.lst L5 [.cst<|.int 0,.cst<|.int 1,.op .neg L5 [.cst<|.int 1],.op .pow L5 [.cst<|.int 10,.cst<|.int 18],.op .sub L5 [.cst<|.int 0,.op .pow L5 [.cst<|.int 10,.cst<|.int 18]],.op .sub L5 [.op .pow L5 [.cst<|.int 10,.cst<|.int 18],.cst<|.int 1],.op .sub L5 [.cst<|.int 1,.op .pow L5 [.cst<|.int 10,.cst<|.int 18]],.op .mul L5 [.cst<|.int 5,.op .pow L5 [.cst<|.int 10,.cst<|.int 17]],.cst<|.int 2,.op .neg L5 [.cst<|.int 3],.op .pow L5 [.cst<|.int 10,.cst<|.int 9],.cst<|.int 60,.cst<|.int 200]),
  .asg (.q [1] []) 1 (.op .add L5 [.var 1,.lst L5 [.cst<|.int 201,.cst<|.int 199,.op .neg L5 [.cst<|.int 7]]]),
  .ite (.q [] [0]) (.op .eq L5 [.op .mod L5 [.var 0,.cst (.int 5)],.cst (.int 0)]) [
   .ret [] (.op .sub L5 [.op .mod L5 [.op .fdiv L5 [.mv 0,.cst<|.int 5],.op .add L5 [.op .mul L5 [.cst<|.int 2,.op .pow L5 [.cst<|.int 10,.cst<|.int 18]],.cst<|.int 1]],.op .pow L5 [.cst<|.int 10,.cst<|.int 18]])] [],
  .ret [] (.op .ix L5 [.mv 1,.op .mod L5 [.op .fdiv L5 [.mv 0,.cst<|.int 5],.cst<|.int 16]])]}
noncomputable def bL:Fn:={ps:=1,ns:=2,io:=[],body:=[
  .asg (.q [] [0]) 1 (.op .ix L5 [.lst L5 [.cst<|.int 0,.cst<|.int 1,.cst<|.int 2,.cst<|.int 3,.cst<|.int 5,.cst<|.int 100,.cst<|.int 199,.cst<|.int 200],.op .mod L5 [.var 0,.cst<|.int 8]]),
  .ret [] (.comp L5 .rng [.var 1] [2] J<|.ifx (.op .lt L5 [.var 1,.cst<|.int 9]) (.call 571 [.op .add L5 [.op .fdiv L5 [.var 0,.cst<|.int 8],.op .mul L5 [.cst<|.int 7,.var 2]]])<|.op .mod L5 [.op .add L5 [.var 0,.op .mul L5 [.var 2,.var 2]],.cst<|.int 11])]}
noncomputable def b6:Fn:={ps:=2,ns:=6,io:=[],body:=[
  .asg (.q [0] [1]) 2 (.op .min L5 [.cst<|.int 200,.op .max L5 [.cst<|.int 0,.op .add L5 [.op .len L5 [.var 0],.op .ix L5 [.lst L5 [.cst<|.int 0,.cst<|.int 0,.cst<|.int 0,.cst<|.int 1,.op .neg L5 [.cst<|.int 1]],.op .mod L5 [.op .fdiv L5 [.var 1,.cst<|.int 8],.cst<|.int 5]]]]]),
  .asg (.q [] [1,2]) 3 (.comp L5 .rng [.var 2] [7] J<|.op .eq L5 [.op .mod L5 [.op .add L5 [.var 1,.op .mul L5 [.var 7,.var 7]],.cst<|.int 3],.cst<|.int 0]),
  .asg (.q [0] [1]) 4 (.op .sl2 L5 [.lst L5 [.op .fdiv L5 [.op .len L5 [.var 0],.cst<|.int 2],.cst<|.int 0,.op .sub L5 [.op .len L5 [.var 0],.op .fdiv L5 [.op .len L5 [.var 0],.cst<|.int 2]],.cst<|.int 0],.op .sub L5 [.cst<|.int 4,.op .mod L5 [.op .fdiv L5 [.var 1,.cst<|.int 8],.cst<|.int 2]]]),
  .asg (.q [0,4] [1]) 5 (.lst L5 [.var 4,.op .add L5 [.var 4,.lst L5 [.op .sub L5 [.op .mod L5 [.op .fdiv L5 [.var 1,.cst<|.int 16],.cst<|.int 3],.cst<|.int 1]]],.lst L5 [.op .neg L5 [.cst<|.int 1],.op .add L5 [.op .len L5 [.var 0],.cst<|.int 1]],.lst L5 [],.lst L5 [.op .len L5 [.var 0]]]),
  .asg (.q [0] [1]) 6 (.op .sl2 L5 [.lst L5 [.op .sl2 L5 [.var 0,.cst<|.int 100],.lst L5 [],.op .sl2 L5 [.var 0,.op .mod L5 [.op .fdiv L5 [.var 1,.cst<|.int 8],.cst<|.int 120]],.op .sl2 L5 [.var 0,.cst<|.int 3],.lst L5 [.cst<|.int 4]],.op .mod L5 [.op .fdiv L5 [.var 1,.cst<|.int 8],.cst<|.int 6]]),
  .ret [] (.tup [.mv 3,.op .ix L5 [.mv 5,.op .mod L5 [.op .fdiv L5 [.mv 1,.cst<|.int 48],.cst<|.int 5]],.mv 6])]}
noncomputable def cP:Fn:={ps:=1,ns:=12,io:=[],body:=[
  .asg (.q [] [0]) 1 (.op .fdiv L5 [.var 0,.cst<|.int 24]),
  .asg (.q [] [1]) 2 (.call 572 [.var 1]),
  .asgT (.q [2] [1]) [3,4,5] (.call 573 [.var 2,.var 1]),
  .asg (.q [] []) 6 (.tup [.cst<|.str<|q "row",.tup [.cst<|.str<|q "num"]]),
  .asg (.q [6] []) 7 (.op .ix L5 [.var 6,.cst<|.int 1]),
  .asg (.q [] []) 8 (.tup [.cst<|.str<|q "truth"]),
  .asg (.q [] [1]) 9 (.call 571 [.var 1]),
  .asg (.q [] [1]) 10 (.call 571 [.op .fdiv L5 [.var 1,.cst<|.int 80]]),
  .asg (.q [] [1]) 11 (.op .eq L5 [.op .mod L5 [.var 1,.cst<|.int 2],.cst<|.int 0]),
  .asg (.q [9] [1]) 12 (.op .ix L5 [.lst L5 [.var 9,.op .sub L5 [.op .mod L5 [.op .fdiv L5 [.var 1,.cst<|.int 3],.cst<|.int 204],.cst<|.int 2]],.op .mod L5 [.var 1,.cst<|.int 2]]),
  .ret [2,5,6,7,8,9,10] (.op .ix L5 [.lst L5 [.tup [.cst<|.str<|q "add",.lst L5 [.var 7,.var 7],.lst L5 [.var 9,.var 10]],.tup [.cst<|.str<|q "sub",.lst L5 [.var 7,.var 7],.lst L5 [.var 9,.var 10]],.tup [.cst<|.str<|q "mul",.lst L5 [.var 7,.var 7],.lst L5 [.var 9,.ifx (.op .gt L5 [.op .mod L5 [.var 1,.cst<|.int 3],.cst<|.int 0]) (.op .sub L5 [.op .mod L5 [.op .fdiv L5 [.var 1,.cst<|.int 80],.cst<|.int 7],.cst<|.int 3])<|.var 10]],.tup [.cst<|.str<|q "div",.lst L5 [.var 7,.var 7],.lst L5 [.var 9,.op .ix L5 [.lst L5 [.var 10,.cst<|.int 0,.op .sub L5 [.op .mod L5 [.op .fdiv L5 [.var 1,.cst<|.int 80],.cst<|.int 9],.cst<|.int 4]],.op .mod L5 [.var 1,.cst<|.int 3]]]],.tup [.cst<|.str<|q "rest",.lst L5 [.var 7,.var 7],.lst L5 [.var 9,.op .ix L5 [.lst L5 [.var 10,.cst<|.int 0,.op .sub L5 [.op .mod L5 [.op .fdiv L5 [.var 1,.cst<|.int 80],.cst<|.int 9],.cst<|.int 4]],.op .mod L5 [.var 1,.cst<|.int 3]]]],.tup [.cst<|.str<|q "less",.lst L5 [.var 7,.var 7],.lst L5 [.var 9,.op .ix L5 [.lst L5 [.var 10,.var 9],.op .mod L5 [.var 1,.cst<|.int 2]]]],.tup [.cst<|.str<|q "same",.lst L5 [.var 7,.var 7],.lst L5 [.var 9,.op .ix L5 [.lst L5 [.var 10,.var 9],.op .mod L5 [.var 1,.cst<|.int 2]]]],.tup [.cst<|.str<|q "same",.lst L5 [.var 8,.var 8],.lst L5 [.var 11,.op .eq L5 [.op .mod L5 [.op .fdiv L5 [.var 1,.cst<|.int 2],.cst<|.int 2],.cst<|.int 0]]],.tup [.cst<|.str<|q "both",.lst L5 [.var 8,.var 8],.lst L5 [.var 11,.op .eq L5 [.op .mod L5 [.op .fdiv L5 [.var 1,.cst<|.int 2],.cst<|.int 2],.cst<|.int 0]]],.tup [.cst<|.str<|q "pair",.lst L5 [.var 6,.var 8],.lst L5 [.var 2,.var 11]],.tup [.cst<|.str<|q "pick",.lst L5 [.var 6,.var 7],.lst L5 [.var 2,.op .ix L5 [.lst L5 [.op .sub L5 [.op .mod L5 [.op .fdiv L5 [.var 1,.cst<|.int 8],.op .add L5 [.op .len L5 [.var 2],.cst<|.int 2]],.cst<|.int 1],.op .len L5 [.var 2],.var 9],.op .mod L5 [.var 1,.cst<|.int 3]]]],.tup [.cst<|.str<|q "join",.lst L5 [.var 6,.var 6],.lst L5 [.var 2,.call 572 [.op .fdiv L5 [.var 1,.cst<|.int 8]]]],.tup [.cst<|.str<|q "keep",.lst L5 [.var 6,.tup [.cst<|.str<|q "row",.var 8]],.lst L5 [.var 2,.mv 3]],.tup [.cst<|.str<|q "cut",.lst L5 [.var 6,.var 6],.lst L5 [.var 2,.mv 4]],.tup [.cst<|.str<|q "not",.lst L5 [.var 8],.lst L5 [.var 11]],.tup [.cst<|.str<|q "first",.lst L5 [.tup [.cst<|.str<|q "pair",.var 7,.var 6]],.lst L5 [.tup [.var 9,.var 2]]],.tup [.cst<|.str<|q "second",.lst L5 [.tup [.cst<|.str<|q "pair",.var 7,.var 6]],.lst L5 [.tup [.var 9,.var 2]]],.tup [.cst<|.str<|q "one",.lst L5 [.var 6],.lst L5 [.var 2]],.tup [.cst<|.str<|q "upto",.lst L5 [.var 7],.lst L5 [.mv 12]],.tup [.cst<|.str<|q "long",.lst L5 [.tup [.cst<|.str<|q "row",.var 6]],.lst L5 [.var 5]],.tup [.cst<|.str<|q "sum",.lst L5 [.var 6],.lst L5 [.var 2]],.tup [.cst<|.str<|q "sums",.lst L5 [.var 6],.lst L5 [.var 2]],.tup [.cst<|.str<|q "most",.lst L5 [.var 6],.lst L5 [.var 2]],.tup [.cst<|.str<|q "flat",.lst L5 [.tup [.cst<|.str<|q "row",.var 6]],.lst L5 [.var 5]]],.op .mod L5 [.mv 0,.cst<|.int 24]])]}
noncomputable def j4:Fn:={ps:=1,ns:=11,io:=[],body:=[
  .forS [0] [] .seq [.ifx (.op .gt L5 [.op .len L5 [.var 0],.cst (.int 0)]) (.op .sl2 L5 [.var 0,.cst (.int 20)]) (.lst L5 [.cst (.int 0)])] [1] [
   .asgT (.q [] [1]) [2,3,4] (.call 574 [.var 1]),
   .asg (.q [3] []) 5 (.op .tuple L5 [.comp L5 .rng [.op .len L5 [.var 3]] [10] J<|.tup [.op .ix L5 [.lst L5 [.cst<|.str<|q "a",.cst<|.str<|q "rowb"],.var 10],.op .ix L5 [.var 3,.var 10]]]),
   .asg (.q [2,5] []) 6 (.op .add L5 [.tup [.var 2],.op .tuple L5 [.comp L5 .seq [.var 5] [11] J<|.tup [.cst<|.str<|q "name",.op .ix L5 [.var 11,.cst<|.int 0]]]]),
   .asgT (.q [4,6] []) [7,8] (.call 589 [.var 6,.var 4]),
   .asg (.q [7,8] []) 9 (.ifx (.op .eq L5 [.var 8,.cst<|.str<|q ""]) (.tup [.cst<|.str<|q "is",.var 7])<|.tup [.cst<|.str<|q "stops",.var 8,.tup [],.tup []]),
   .ite (.q [4,5,6,9] []) (.not (.call 170 [.call 586 [.tup [.var 5,.var 6],.var 4],.var 9])) [
    .ret [] (.cst<|.bl L5)] [],
   .ite (.q [4] [1]) (.not (.call 170 [.var 4,.op .ix L5 [.call 574 [.var 1],.cst (.int 2)]])) [
    .ret [] (.cst<|.bl L5)] []],
  .ret [] (.cst<|.bl L7)]}
noncomputable def prog:U Fn:=[j4,sP,zf,zf,zf,zf,zf,zf,zf,zf,zf,zf,zf,zf,zf,zf,zf,zf,zf,zf,zf,zf,zf,zf,zf,zf,zf,zf,aX,bY,aY,aR,bC,bu,bX,cD,bV,zf,zf,zf,zf,zf,er,cS,cy,eu,dk,dI,dX,dB,dw,dH,dY,d8,ei,zf,zf,dA,cN,dy,dP,dj,dm,eA,aW,a0,aV,bp,bQ,bR,bK,bP,br,bw,bz,bS,zf,zf,zf,zf,zf,zf,zf,zf,zf,zf,zf,zf,zf,zf,zf,zf,zf,zf,zf,zf,zf,zf,zf,zf,zf,zf,zf,zf,zf,zf,zf,zf,zf,zf,zf,zf,zf,zf,zf,zf,zf,zf,zf,zf,zf,zf,zf,zf,zf,zf,zf,zf,zf,zf,fv,ee,dn,zf,zf,zf,zf,zf,zf,zf,zf,zf,zf,zf,zf,zf,zf,zf,zf,zf,zf,zf,zf,zf,zf,zf,zf,zf,zf,zf,zf,zf,zf,zf,zf,zf,zf,zf,zf,zf,ax,zf,zf,zf,zf,aZ,fX,zf,zf,zf,zf,zf,zf,zf,zf,zf,zf,zf,zf,zf,zf,zf,zf,zf,zf,zf,zf,zf,zf,zf,zf,zf,zf,zf,zf,zf,zf,zf,zf,zf,zf,zf,zf,zf,zf,zf,zf,zf,zf,zf,zf,zf,zf,zf,zf,zf,zf,zf,zf,zf,zf,zf,zf,zf,zf,zf,zf,zf,zf,zf,zf,zf,zf,zf,zf,zf,zf,zf,zf,zf,zf,zf,zf,zf,zf,zf,zf,zf,zf,zf,zf,zf,zf,zf,zf,zf,zf,zf,zf,zf,zf,zf,zf,zf,zf,zf,zf,zf,zf,zf,zf,zf,zf,zf,zf,zf,zf,zf,zf,zf,zf,zf,zf,zf,zf,zf,zf,zf,zf,zf,zf,zf,zf,zf,zf,zf,zf,zf,zf,zf,zf,zf,zf,zf,zf,zf,zf,zf,zf,zf,zf,zf,zf,zf,zf,zf,zf,zf,zf,zf,zf,zf,zf,zf,zf,zf,zf,zf,zf,zf,zf,zf,zf,zf,zf,zf,zf,zf,zf,zf,zf,zf,zf,zf,zf,zf,zf,zf,zf,zf,zf,zf,zf,zf,zf,zf,zf,zf,zf,zf,zf,zf,zf,zf,zf,zf,zf,zf,zf,zf,zf,zf,zf,zf,zf,zf,zf,zf,zf,zf,zf,zf,zf,zf,zf,zf,zf,zf,zf,zf,zf,zf,zf,zf,zf,zf,zf,zf,zf,zf,zf,zf,zf,zf,zf,zf,zf,zf,zf,zf,zf,zf,zf,zf,zf,zf,zf,zf,zf,zf,zf,zf,zf,zf,zf,zf,zf,zf,zf,zf,zf,zf,zf,zf,zf,zf,zf,zf,zf,zf,zf,zf,zf,zf,zf,zf,aB,zf,zf,zf,zf,zf,zf,zf,zf,zf,zf,zf,zf,zf,zf,zf,zf,zf,zf,zf,zf,zf,zf,zf,zf,zf,zf,zf,zf,zf,zf,zf,zf,zf,zf,zf,zf,zf,zf,zf,zf,zf,zf,zf,zf,zf,zf,zf,zf,zf,zf,zf,zf,zf,zf,zf,zf,zf,zf,zf,zf,zf,zf,zf,zf,zf,zf,zf,zf,zf,zf,zf,zf,zf,zf,zf,zf,zf,zf,zf,zf,zf,zf,zf,zf,zf,zf,zf,zf,zf,zf,zf,zf,zf,zf,zf,zf,zf,zf,zf,zf,zf,zf,zf,zf,zf,zf,zf,zf,zf,zf,zf,zf,av,zf,bD,bL,b6,cP,zf,aS,zf,zf,zf,zf,zf,zf,aH,zf,f_reading,ib,aI,zf,ak,dM]
end A17

set_option compiler.extract_closed false
namespace P17
section
open M A17
open PySem (Str)
local macro_rules
 | `(tactic| simp_all only [$ls,*])=>`(tactic| simp only [EE,Dw,GK,Dm,C5,D1,Gh,Bb,yk,Ay,yU,yE,yW,zy,yT,ze,yw,AK,AN,yC,Bz,zJ,zh,AY,Bi,ym,wV,mK,zN,Bx,Bl,zL,vm,Br,kOp,vO,kOr,sW,kC3,kC2,kC1,mJ,iy,gB,dW,f7,lY,fG,qW,bO,kX,kT,kT2,kIf,y9,mT,uk,xU,Cw,Lb,oG,kNx,kRt,qt,xH,wo,okW,then',Ke,jB,trees,au,ios,putAll,Di,LN,D4,FU,E8,AI,AM,Bu,GH,Gg,GX,Fo,DY,FH,ED,Jv,Js,IY,H8,JN,Jf,As,zE,zu,Bo,Jj,Eu,xn,wR,va,vH,DI,zO,Bm,vp,vY,J5,Kj,Ja,HV,vt,wg,uI,DE,El,Ff,GS,Ex,Gx,Dq,Hu,yR,Bn,Bq,G8,wH,u6,ui,JM,xM,ug,BL,JR,FY,F6,EU,Gw,GU,GY,Lc,LW,Lo,LH,JF,HJ,CV,Eo,DB,I0,Il,Ds,JJ,zi,Fe,J7,Iv,yt,zT,Ki,JH,Fi,GC,EC,GZ,vD,vg,v8,Ie,xh,ux,AZ,yY,yx,Au,Gf,DV,FO,vN,fE,rK,rm,rL,D9,Ft,E9,oF,DZ,F4,FP,Hg,JB,xj,t9,DA,Hj,at0,at1,at2,at3,at4,Ss,MU,MV,ME,Oz,OB,List.replicate_zero,reduceIte,if_true,if_false,String.reduceBEq,N5,OT,OM,OS,Np,Ry,By,kIo,GF,EW,rB,wK,sA,rP,rk,wF,rQ,yd,sF,qY,mE,n8,n9,Fb,FZ,mM,rf,ma,sr,kCT,GL,KS,E4,FC,E3,Ij,Kk,IM,Aa,zk,GB,De,yP,Ag,Fv,Gk,Dt,Ji,uR,D5,GJ,Ka,CT,uc,nX,m5,nJ,LY,CU,DQ,y8,Bt,xJ,xr,tM,tq,Dj,AD,Lk,yp,Im,HG,JW,KP,Jk,HU,JV,Ii,HH,IH,Lv,J6,HL,Iu,IP,Jw,HD,Jb,Jg,LK,Jm,Ih,H9,Ib,JP,II,JS,Jh,KL,La,K0,Gu,AQ,vU,Ic,oW,qp,oR,En,KN,C6,IT,kE,sJ,nV,kAsgL,Em,sQ,FF,Hb,FV,$ls,*])
abbrev C (n:Y):Call:=callR prog 1000000 1 n
theorem Ew (n:Y)(a:U W):C (n+1) 0 a=runF (C n) j4 a:=rfl
theorem oj (n:Y)(a:U W):C (n+1) 1 a=rowsW a:=rfl
theorem ju (n:Y)(a:U W):C (n+1) 28 a=runF (C n) aX a:=rfl
theorem lF (n:Y)(a:U W):C (n+1) 29 a=runF (C n) bY a:=rfl
theorem iX (n:Y)(a:U W):C (n+1) 30 a=runF (C n) aY a:=rfl
theorem iE (n:Y)(a:U W):C (n+1) 31 a=runF (C n) aR a:=rfl
theorem jm (n:Y)(a:U W):C (n+1) 32 a=runF (C n) bC a:=rfl
theorem kS (n:Y)(a:U W):C (n+1) 33 a=runF (C n) bu a:=rfl
theorem fH (n:Y)(a:U W):C (n+1) 34 a=runF (C n) bX a:=rfl
theorem lA (n:Y)(a:U W):C (n+1) 35 a=runF (C n) cD a:=rfl
theorem lS (n:Y)(a:U W):C (n+1) 36 a=runF (C n) bV a:=rfl
theorem tj (n:Y)(a:U W):C (n+1) 42 a=runF (C n) er a:=rfl
theorem l7 (n:Y)(a:U W):C (n+1) 43 a=runF (C n) cS a:=rfl
theorem kx (n:Y)(a:U W):C (n+1) 44 a=runF (C n) cy a:=rfl
theorem q0 (n:Y)(a:U W):C (n+1) 45 a=runF (C n) eu a:=rfl
theorem oS (n:Y)(a:U W):C (n+1) 46 a=runF (C n) dk a:=rfl
theorem om (n:Y)(a:U W):C (n+1) 47 a=runF (C n) dI a:=rfl
theorem rj (n:Y)(a:U W):C (n+1) 48 a=runF (C n) dX a:=rfl
theorem nu (n:Y)(a:U W):C (n+1) 49 a=runF (C n) dB a:=rfl
theorem ox (n:Y)(a:U W):C (n+1) 50 a=runF (C n) dw a:=rfl
theorem oq (n:Y)(a:U W):C (n+1) 51 a=runF (C n) dH a:=rfl
theorem sj (n:Y)(a:U W):C (n+1) 52 a=runF (C n) dY a:=rfl
theorem sG (n:Y)(a:U W):C (n+1) 53 a=runF (C n) d8 a:=rfl
theorem rD (n:Y)(a:U W):C (n+1) 54 a=runF (C n) ei a:=rfl
theorem pf (n:Y)(a:U W):C (n+1) 57 a=runF (C n) dA a:=rfl
theorem iF (n:Y)(a:U W):C (n+1) 58 a=runF (C n) cN a:=rfl
theorem nI (n:Y)(a:U W):C (n+1) 59 a=runF (C n) dy a:=rfl
theorem nQ (n:Y)(a:U W):C (n+1) 60 a=runF (C n) dP a:=rfl
theorem ot (n:Y)(a:U W):C (n+1) 61 a=runF (C n) dj a:=rfl
theorem oE (n:Y)(a:U W):C (n+1) 62 a=runF (C n) dm a:=rfl
theorem rq (n:Y)(a:U W):C (n+1) 63 a=runF (C n) eA a:=rfl
theorem gV (n:Y)(a:U W):C (n+1) 64 a=runF (C n) aW a:=rfl
theorem i8 (n:Y)(a:U W):C (n+1) 65 a=runF (C n) a0 a:=rfl
theorem gM (n:Y)(a:U W):C (n+1) 66 a=runF (C n) aV a:=rfl
theorem gP (n:Y)(a:U W):C (n+1) 67 a=runF (C n) bp a:=rfl
theorem iK (n:Y)(a:U W):C (n+1) 68 a=runF (C n) bQ a:=rfl
theorem iN (n:Y)(a:U W):C (n+1) 69 a=runF (C n) bR a:=rfl
theorem i6 (n:Y)(a:U W):C (n+1) 70 a=runF (C n) bK a:=rfl
theorem jk (n:Y)(a:U W):C (n+1) 71 a=runF (C n) bP a:=rfl
theorem gR (n:Y)(a:U W):C (n+1) 72 a=runF (C n) br a:=rfl
theorem gL (n:Y)(a:U W):C (n+1) 73 a=runF (C n) bw a:=rfl
theorem gN (n:Y)(a:U W):C (n+1) 74 a=runF (C n) bz a:=rfl
theorem iC (n:Y)(a:U W):C (n+1) 75 a=runF (C n) bS a:=rfl
theorem lE (n:Y)(a:U W):C (n+1) 130 a=runF (C n) fv a:=rfl
theorem sC (n:Y)(a:U W):C (n+1) 131 a=runF (C n) ee a:=rfl
theorem ni (n:Y)(a:U W):C (n+1) 132 a=runF (C n) dn a:=rfl
theorem fO (n:Y)(a:U W):C (n+1) 170 a=runF (C n) ax a:=rfl
theorem ie (n:Y)(a:U W):C (n+1) 175 a=runF (C n) aZ a:=rfl
theorem wJ (n:Y)(a:U W):C (n+1) 176 a=runF (C n) fX a:=rfl
theorem gC (n:Y)(a:U W):C (n+1) 456 a=runF (C n) aB a:=rfl
theorem aT (n:Y)(a:U W):C (n+1) 569 a=runF (C n) av a:=rfl
theorem jq (n:Y)(a:U W):C (n+1) 571 a=runF (C n) bD a:=rfl
theorem i7 (n:Y)(a:U W):C (n+1) 572 a=runF (C n) bL a:=rfl
theorem jr (n:Y)(a:U W):C (n+1) 573 a=runF (C n) b6 a:=rfl
theorem lR (n:Y)(a:U W):C (n+1) 574 a=runF (C n) cP a:=rfl
theorem cF (n:Y)(a:U W):C (n+1) 576 a=runF (C n) aS a:=rfl
theorem bJ (n:Y)(a:U W):C (n+1) 583 a=runF (C n) aH a:=rfl
theorem iV (n:Y)(a:U W):C (n+1) 585 a=runF (C n) f_reading a:=rfl
theorem Ba (n:Y)(a:U W):C (n+1) 586 a=runF (C n) ib a:=rfl
theorem cG (n:Y)(a:U W):C (n+1) 587 a=runF (C n) aI a:=rfl
theorem aw (n:Y)(a:U W):C (n+1) 589 a=runF (C n) ak a:=rfl
theorem nY (n:Y)(a:U W):C (n+1) 590 a=runF (C n) dM a:=rfl
theorem qeq (a b:Tu):(q a==q b)=(a==b):=by
 by_cases h:a=b
 .subst h;simp
 .have g:q a≠q b:=fun z=>h (by
   have:=Tn (λs:Str=>s.cps.toList) z;rw[q,Str.ofString_eq_toList,Str.ofString_eq_toList] at this;simp only at this
   have j:a.toList=b.toList:=by
    have inj:∀f e:U Char,f.map Char.toNat=e.map Char.toNat->f=e:=by
     intro f;induction f with
     |nil=>intro e h;cases e with
      |nil=>rfl
      |cons=>cases h
     | cons c l k=>intro e h; cases e with
      |nil=>cases h
      |cons d ds=>
       rw[ME,ME] at h;injection h with i g
       rw[k ds g,Char.toNat_inj.mp i]
    exact inj _ _<|by simpa using this
   exact String.toList_inj.mp j)
  rw[beq_eq_false_iff_ne.mpr g,beq_eq_false_iff_ne.mpr h]
theorem aa (t:T):look (.s,t)=O (.s,t):=rfl
theorem qB (C:Call):∀(a b:U S) (c:Env),evSs C (a++b) c=(evSs C a c).seq (evSs C b)
|[],b,c=>rfl
|s::a,b,c=>by show(evS C s c).seq (evSs C<|a++b)=((evS C s c).seq<|evSs C a).seq (evSs C b);cases evS C s c<;>first|rfl|exact qB C a b _
theorem go1 {C:Call}{a b:U S}{d c:Env}(h:evSs C a d=.nx c):evSs C (a++b) d=evSs C b c:=by rw[qB,h];rfl
abbrev Bk (f:Fn)(i j:Y):U S:=(f.body.drop i).take j
theorem yD (a:U Y)(f:Env->Fl)(x:U W)(r:U<|U W)(b:Env):cT a f (x::r) b=Fl.of b (ofO<|bindT a x b) λc=>Fl.turn (f c) (cT a f r):=rfl
theorem wX (b:U Y)(f:Env->Fl)(a:Env):cT b f [] a=.nx a:=rfl
theorem qh {tg:U Y}{f:Env->Fl}{ws:U W}{r:U<|U W}{η a b:Env}(c:bindT tg ws η=O a)(d:f a=.nx b):cT tg f (ws::r) η=cT tg f r b:=by rw[yD,c];show Fl.turn (f a) _=_;rw[d];rfl
theorem CN {C:Call}{vs f:U Y}{k:Ik}{c:U E}{d:U Y}{a r:U S}{b i e:Env}{h:U W}{g:U<|U W}(j:evL C c (pick vs f b)=.ok (h,i))(l:turns k h=O g)(m:cT d (evSs C a) g (share vs b)=.nx e):evSs C (.forS vs f k c d a::r) b=evSs C r e:=by rw[mK];show Fl.seq (Fl.of b (evL C c<|pick vs f b)<|xH vs k d (evSs C a) b) _=_;rw[j];show Fl.seq (Fl.of b (ret (share vs b)<|turns k h)<|qt d<|evSs C a) _=_;rw[l];show Fl.seq (cT d (evSs C a) g<|share vs b) _=_;rw[m];rfl
mutual
theorem bT:∀t:T,dp t<1000->eqT t t=L7
|.non,_=>rfl
|.bl b,_=>by show(b==b)=L7;rw[Tp]
|.int i,_=>by show(i==i)=L7;rw[Tp]
|.str x,_=>by show(x==x)=L7;rw[Tp]
|.tup ts,h=>jc ts<|R7 h
|.lst ts,h=>jc ts<|R7 h
|.dct _ _,h=>Tg h<|by show¬1000<1000;lia
|.ins _ _ _,h=>Tg h<|by show¬1000<1000;lia
|.obj _ _ _,h=>Tg h<|by show¬1000<1000;lia
|.dtt _ _,h=>Tg h<|by show¬1000<1000;lia
|.scr _,h=>Tg h<|by show¬1000<1000;lia
|.gone,h=>Tg h<|by show¬1000<1000;lia
theorem jc:∀ts:U T,dps ts<1000->eqTs ts ts=L7
|[],_=>rfl
|t::ts,h=>by have h:max (dp t) (dps ts)<1000:=h;show(eqT t t&&eqTs ts ts)=L7;rw[bT t<|by lia,jc ts<|by lia];rfl
end
theorem BZ (a:U T):isOne "list" (.lst a)=true:=rfl
theorem Cr (a:U T):isOne "tuple" (.lst a)=false:=rfl
theorem Cb (a:U T):isOne "list" (.tup a)=false:=rfl
theorem Cu (a:U T):isOne "tuple" (.tup a)=true:=rfl
theorem pq (i:Int):isOne "list" (.int i)=false:=rfl
theorem qC (i:Int):isOne "tuple" (.int i)=false:=rfl
theorem pW (b:Ta):isOne "list" (.bl b)=false:=rfl
theorem ph (b:Ta):isOne "tuple" (.bl b)=false:=rfl
theorem qL (x:Str):isOne "list" (.str x)=false:=rfl
theorem pw (x:Str):isOne "tuple" (.str x)=false:=rfl
theorem pU:isOne "list" .non=false:=rfl
theorem qm:isOne "tuple" .non=false:=rfl
def cm (m:Md)(t:T):Md:=if t.leaf then m else .d
theorem EG (t:T):okD (cm .s t,t)=true:=by unfold okD cm;cases h:t.leaf<;>simp[h]
theorem aU {b:Type}(f:b->Md)(g:b->T):∀a:U b,trees (a.map λx=>(f x,g x))=a.map g
|[]=>rfl
|x::a=>by show g x::trees _=g x::a.map g;rw[aU f g a]
theorem pE {a:U T}{u:T}(h:u∈a):dp u<=dps a:=by
 induction a with
 |nil=>cases h
 |cons t a b=>
  show dp u<=max (dp t) (dps a);rcases Mm.mp h with rfl|h
  .lia
  .have:=b h;lia
theorem KJ:∀(d:Y) (t:T) (n:Y) (m:Md),dp t<=d->d<1000->C (n+d+1) 456 [(m,t)]=.ok ((cm m t,t),[]):=by
 intro d;induction d with
 |zero=>
  intro t n m h l;rw[gC,x_run _ _ _ rfl];cases t with
  |bl b=>simp_all only[aB,Mn,Mq,pW,ph,Mo];rfl
  |int i=>simp_all only[aB,Mn,Mq,pq,qC,Mo];rfl
  |str i=>simp_all only[aB,Mn,Mq,qL,pw,Mo];rfl
  |non=>simp_all only[aB,Mn,Mq,pU,qm,Mo];rfl
  |lst a=>exact Tg h<|by show¬dps a+1<=0;lia
  |tup a=>exact Tg h<|by show¬dps a+1<=0;lia
  |_=>exact Tg h<|by show¬1000<=0;lia
 | succ d g =>
  intro t n m h l;rw[show n+(d+1)+1=(n+d+1)+1 by lia,gC,x_run _ _ _ rfl];have ok:∀a:U T,(a.map λu=>((cm .s u,u):W)).all okD=true:=λa=>Nd.mpr λw o=>by obtain⟨u,_,rfl⟩:=OL.mp o;exact EG u
  have j:∀a:U T,(∀u∈a,dp u<=d)->∀c o2:I W,aG [1] (dW (evE (C (n+d+1)) (.call 456 [.var 1]))) (a.map λt=>[((.s,t):W)]) [c,J,o2] []=.ok ([]++a.map λu=>(cm .s u,u),[c,J,o2]):=by intro a e c o2;refine bG (λu=>((cm .s u,u):W)) a [] λu f=>⟨_,[c,O (.s,u),o2],rfl,?_,rfl⟩;simp_all only[aa,g u n .s (e u f)<|by lia]
  have k:∀a:U T,(∀u∈a,dp u<=d)->∀c o2:I W,aG [2] (dW (evE (C (n+d+1)) (.call 456 [.var 2]))) (a.map λt=>[((.s,t):W)]) [c,o2,J] []=.ok ([]++a.map λu=>(cm .s u,u),[c,o2,J]):=by intro a e c o2;refine bG (λu=>((cm .s u,u):W)) a [] λu f=>⟨_,[c,o2,O (.s,u)],rfl,?_,rfl⟩;simp_all only[aa,g u n .s (e u f)<|by lia]
  cases t with
  |bl b=>simp_all only[aB,Mn,Mq,pW,ph,Mo];rfl
  |int i=>simp_all only[aB,Mn,Mq,pq,qC,Mo];rfl
  |str i=>simp_all only[aB,Mn,Mq,qL,pw,Mo];rfl
  |non=>simp_all only[aB,Mn,Mq,pU,qm,Mo];rfl
  |lst a=>have h:dps a+1<=d+1:=h;simp_all only[aB,Mn,Mq,BZ,Cr,Mo,j a (λu f=>by have:=pE f;lia),ok,aU<|cm .s,RQ];rfl
  |tup a=>have h:dps a+1<=d+1:=h;simp_all only[aB,Mn,Mq,Cb,Cu,Mo,k a (λu f=>by have:=pE f;lia),ok,aU<|cm .s,RQ];rfl
  |_=>exact Tg h<|by show¬1000<=d+1;lia
theorem Lx {b:Type}(a:b)(r:U b):cut (a::r) (O 1) J=r:=by unfold cut sIx;simp
theorem DF (h:Ta)(m n:Md)(a:U T)(i:Int):oSem .sl1 h [(m,.tup a),(n,.int i)]=O (.s,.tup<|cut a (O i) J):=rfl
theorem FA (n:Y)(s:Str)(m:Md):C (n+1) 175 [(m,.str s)]=.ok ((.d,.int<|if keys_AHEAD.contains s then 2 else 1),[]):=by
 rw[ie,x_run _ _ _ rfl];cases h:keys_AHEAD.contains s with
 |true=>simp_all only[aZ,h,Nx]
 |false=>simp_all only[aZ,h,Nx]
theorem lx (n:Y){s:Str}(r:U T)(h:keys_AHEAD.contains s=L5)(m:Md):C (n+2) 176 [(m,.tup (.str s::r))]=.ok ((.s,.tup r),[]):=by have e:=λm=>FA n s m;rw[h] at e;rw[show n+2=(n+1)+1 from rfl,wJ,x_run _ _ _ rfl];simp_all only[fX,e,DF,Lx]
abbrev EN:=U<|Str×T
noncomputable abbrev dK (e:EN):U (Int ⊕ Str):=e.map λp=>.inr p.1
abbrev dV (e:EN):U T:=e.map λp=>p.2
abbrev dE (e:EN):T:=.dct (dK e)<|dV e
abbrev aN:U Str:=[q "names",q "turns",q "rounds",q "book"]
abbrev aE (e:EN)(tn a:U T):T:=.obj iP aN [dE e,.tup tn,.tup a,.non]
abbrev nmT (x:Str):T:=.tup [.str<|q "name",.str x]
theorem CP (x:Str):∀e:EN,lookD (.inr x) (dK e) (dV e)=e.lookup x
|[]=>rfl
| (y,k)::e=>by
 show(if(NU y:Int ⊕ Str)=.inr x then O k else lookD (.inr x) (dK e)<|dV e)=_;rw[CP x e,M5];by_cases h:y=x
 .subst h;rw[Tf rfl,Tp]
 .rw[Ti λz=>h<|QF z,beq_eq_false_iff_ne.mpr<|MI h]
theorem Fq (x:Str)(k:T):∀e:EN,e.lookup x=J->bj (.inr x) k (dK e) (dV e)=(dK<|e++[(x,k)],dV<|e++[(x,k)])
|[],_=>rfl
| (y,l)::e,h=>by
 rw[M5] at h;by_cases a:x=y
 .subst a;rw[Tp] at h;cases h
 .rw [beq_eq_false_iff_ne.mpr a] at h;have b:=Fq x k e h;show(if(NU y:Int ⊕ Str)=.inr x then _ else _)=_;rw[Ti λz=>a (QF z).symm];show(_::(bj (.inr x) k (dK e)<|dV e).1,_::(bj (.inr x) k (dK e)<|dV e).2)=_;rw[b];rfl
theorem an (e:EN)(tn a:U T):lookF (q "names") aN [dE e,.tup tn,.tup a,.non]=O (dE e):=by simp[lookF]
theorem at_ (e:EN)(tn a:U T):lookF (q "turns") aN [dE e,.tup tn,.tup a,.non]=O (.tup tn):=by simp[lookF,qeq]
theorem ab (e:EN)(tn a:U T):lookF (q "book") aN [dE e,.tup tn,.tup a,.non]=O .non:=by simp[lookF,qeq]
theorem Ky (e:EN):lfM (dE e)=.s:=rfl
theorem yi:lfM .non=.d:=rfl
theorem CF (m:Md)(e:EN):lf m (dE e)=m:=rfl
theorem j7 (m:Md)(c:Y)(fs:U Str)(a:U T):lf m (.obj c fs a)=m:=rfl
theorem nG:T.isG .non=false:=rfl
theorem nN:T.isN .non=true:=rfl
theorem eI {e:EN}{x:Str}{v:T}(h:e.lookup x=O v)(a:Y)(p tn f:U T)(c m1 d:Md):C (a+1) 576 [(c,nmT x),(m1,.tup p),(d,aE e tn f)]=.ok ((.s,v),[]):=by rw[cF,x_run _ _ _ rfl];have b:keyT (.str x)=O (.inr x):=rfl;simp_all only[aS,qeq,aa,an,Ky,b,CP,h]
theorem ny {m:Md}(a:m≠.s){e:EN}{x:Str}{k:T}(hx:e.lookup x=J)(c:e.length<=100)(m1 b:Md):dG (m,dE e) (m1,.str x) (b,k)=O (.o .s,dE<|e++[(x,k)]):=by
 have e1:decide ((dK e).length<LIM)=true:=Te (by rw[Mg];show _<16777215;lia);cases m with
 |s=>exact Tg rfl a
 |d=>show(if decide ((dK e).length<LIM)=L7 then O ((.o .s,.dct (bj (.inr x) k (dK e)<|dV e).1 (bj (.inr x) k (dK e)<|dV e).2):W) else J)=_;rw[Tf e1,Fq x k e hx]
 |o m=>show(if decide ((dK e).length<LIM)=L7 then O ((.o .s,.dct (bj (.inr x) k (dK e)<|dV e).1 (bj (.inr x) k (dK e)<|dV e).2):W) else J)=_;rw[Tf e1,Fq x k e hx]
theorem oJ (v:T):lf .s v=.d\/lf .s v=.s:=by
 unfold lf;cases v.leaf with
 |true=>exact .inl rfl
 |false=>exact .inr rfl
def PT:Y->T->Prop
|_,.bl _=>TZ
|_,.int _=>TZ
|_,.str _=>TZ
|_,.non=>TZ
|d+1,.tup a=>∀u∈a,PT d u
|d+1,.lst a=>∀u∈a,PT d u
|_,_=>Tw
theorem gb (m n:Md):∀a:U T,fm m n a a=a.map λt=>[(m,t),(n,t)]
|[]=>rfl
|t::a=>by show _::fm m n a a=_::_;rw[gb m n a]
theorem Hc (m n:Md)(a b:U T):turns .zip [(m,.lst a),(n,.lst b)]=O (fm .s .s a b):=rfl
theorem Ee (m n:Md)(a b:U T):turns .zip [(m,.tup a),(n,.tup b)]=O (fm .s .s a b):=rfl
theorem fh:∀a:U T,boolsOf (a.map λ_=>T.bl L7)=O (a.map λ_=>L7)
|[]=>rfl
|_::a=>by show(boolsOf<|a.map λ_=>T.bl L7).map _=_;rw[fh a];rfl
theorem iw:∀a:U T,(a.map λ_=>L7).all id=L7
|[]=>rfl
|_::a=>by show(L7&&(a.map λ_=>L7).all id)=L7;rw[iw a];rfl
theorem Cd (b:Ta):isOne "bool" (.bl b)=true:=rfl
theorem CD (i:Int):isOne "bool" (.int i)=false:=rfl
theorem Cp (x:Str):isOne "bool" (.str x)=false:=rfl
theorem CL:isOne "bool" .non=false:=rfl
theorem JD (h:Ta)(m n:Md):oSem .eq h [(m,.non),(n,.non)]=O (.d,.bl L7):=rfl
theorem BU (i:Int):isOne "int" (.int i)=true:=rfl
theorem Cg (x:Str):isOne "int" (.str x)=false:=rfl
theorem Cz:isOne "int" .non=false:=rfl
theorem BP (x:Str):isOne "str" (.str x)=true:=rfl
theorem qG (n:Y):∀(d:Y) (t:T) (m m':Md),PT d t->C (n+d+1) 170 [(m,t),(m',t)]=.ok ((.d,.bl L7),[]):=by
 intro d;induction d with
 |zero=>
  intro t m m' h;rw[fO,x_run _ _ _ rfl];cases t with
  |bl b=>simp_all only[ax,Mn,Mq,pW,ph,Cd,Mo,My,Tp]
  |int i=>simp_all only[ax,Mn,Mq,pq,qC,CD,BU,Mo,My,Tp]
  |str x=>simp_all only[ax,Mn,Mq,qL,pw,Cp,Cg,BP,Mo,My,Tp]
  |non=>simp_all only[ax,Mn,Mq,pU,qm,CL,Cz,Mo,My,Tp,JD]
  |_=>exact h.elim
 | succ d j =>
  intro t m m' h;rw[show n+(d+1)+1=(n+d+1)+1 by lia,fO,x_run _ _ _ rfl];have cm:∀a:U T,(∀u∈a,PT d u)->∀c e:I W,aG [2,3] (dW (evE (C (n+d+1)) (.call 170 [.var 2,.var 3]))) (a.map λt=>[((.s,t):W),(.s,t)]) [c,e,J,J] []=.ok ([]++a.map λ_=>(.d,.bl L7),[c,e,J,J]):=by intro a f c e;refine bG (λ_=>((.d,.bl L7):W)) a [] λu g=>⟨_,[c,e,O (.s,u),O (.s,u)],rfl,?_,rfl⟩;simp_all only[j u .s .s<|f u g]
  cases t with
  |bl b=>simp_all only[ax,Mn,Mq,pW,ph,Cd,Mo,My,Tp]
  |int i=>simp_all only[ax,Mn,Mq,pq,qC,CD,BU,Mo,My,Tp]
  |str x=>simp_all only[ax,Mn,Mq,qL,pw,Cp,Cg,BP,Mo,My,Tp]
  |non=>simp_all only[ax,Mn,Mq,pU,qm,CL,Cz,Mo,My,Tp,JD]
  |lst a=>simp_all only[ax,Mn,Mq,BZ,Cr,Mo,My,Tp,Hc,gb,cm a h,aU λ_=>Md.d,fh,iw]
  |tup a=>simp_all only[ax,Mn,Mq,Cb,Cu,Mo,My,Tp,Ee,gb,cm a h,aU λ_=>Md.d,fh,iw]
  |_=>exact h.elim
theorem ptM {a:Type}(d:Y)(f:a->Int)(l:U a):PT (d+1) (.lst<|l.map λk=>T.int<|f k):=λu b=>by obtain⟨k,_,rfl⟩:=OL.mp b;cases d<;>trivial
theorem JI (d:Y):∀t:T,PT d t->dp t<=d:=by
 induction d with
 |zero=>
  intro t h;cases t with
  |bl _=>exact MH _
  |int _=>exact MH _
  |str _=>exact MH _
  |non=>exact MH _
  |_=>exact h.elim
 | succ d i =>
  have e:∀c:U T,(∀u∈c,PT d u)->dps c<=d:=λc h=>by
   induction c with
   |nil=>exact MH _
   |cons t c f=>have a:=i t<|h t ML;have b:=f λu g=>h u<|MG _ g;show max (dp t) (dps c)<=d;lia
  intro t h;cases t with
  |bl _=>exact MH _
  |int _=>exact MH _
  |str _=>exact MH _
  |non=>exact MH _
  |tup c=>exact PJ<|e c h
  |lst c=>exact PJ<|e c h
  |_=>exact h.elim
theorem Jy (d:Y):∀t:T,PT d t->PT (d+1) t:=by
 induction d with
 |zero=>
  intro t h;cases t with
  |bl _=>trivial
  |int _=>trivial
  |str _=>trivial
  |non=>trivial
  |_=>exact h.elim
 |succ d b=>
  intro t h;cases t with
  |bl _=>trivial
  |int _=>trivial
  |str _=>trivial
  |non=>trivial
  |tup c=>exactλu a=>b u<|h u a
  |lst c=>exactλu a=>b u<|h u a
  |_=>exact h.elim
theorem ba (x y:Str):eqT (.str x) (.str y)=(x==y):=rfl
theorem de (x:Str):flatT (.str x)=true:=rfl
theorem vQ (m:Md)(t:T):lf m t=.d\/lf m t=m:=by
 unfold lf;cases t.leaf with
 |true=>exact .inl rfl
 |false=>exact .inr rfl
structure Ok1 (s:Tu)(ws:U T)(v:T):Prop where
 once:∀n pr,∃m,C (n+3) 589 [(.s,.tup (.str (q s)::pr)),(.s,.lst ws)]=.ok ((m,.tup [v,.str (q "")]),[])
 done:∀n pr,∃m,C (n+4) 130 [(.s,.tup (.str (q s)::pr)),(.s,.lst ws)]=.ok ((m,.tup [v,.non]),[])
 pt:PT 3 v
structure St1 (s:Tu)(ws:U T)(w:Tu):Prop where
 once:∀n pr,∃m v,C (n+3) 589 [(.s,.tup (.str (q s)::pr)),(.s,.lst ws)]=.ok ((m,.tup [v,.str (q w)]),[])
 done:∀n pr,∃m,C (n+4) 130 [(.s,.tup (.str (q s)::pr)),(.s,.lst ws)]=.ok ((m,.tup [.non,.str (q w)]),[])
 ne:(q w==q "")=L5
theorem dn0 {s:Tu}{r a:U T}{w:T}{mw:Md}{f L:Y}(c:(q s==q "num")=L5)(e:keys_WORDS.contains (q s)=L5)(d:tab_DOINGS.lookup (q s)=O f)(b:C L f [(.s,.lst a)]=.ok ((mw,w),[])):∃m,C (L+1) 130 [(.s,.tup (.str (q s)::r)),(.s,.lst a)]=.ok ((m,.tup [w,.non]),[]):=by rw[lE,x_run _ _ _ rfl];refine⟨?_,?_⟩;rotate_left;simp_all only[fv,aa,e,Nx,c,d,b];rfl
theorem dn1 {s:Tu}{r b:U T}{w:T}{mw:Md}{f g a:Y}(h:(q s==q "num")=L5)(k:keys_WORDS.contains (q s)=L7)(j:tab_WORDS.lookup (q s)=O g)(c:C a g [(.s,.lst b)]=.ok ((.d,.non),[]))(i:tab_DOINGS.lookup (q s)=O f)(e:C a f [(.s,.lst b)]=.ok ((mw,w),[])):∃m,C (a+1) 130 [(.s,.tup (.str (q s)::r)),(.s,.lst b)]=.ok ((m,.tup [w,.non]),[]):=by rw[lE,x_run _ _ _ rfl];refine⟨?_,?_⟩;rotate_left;simp_all only[fv,aa,k,Nx,h,j,c,i,e];rfl
theorem dn2 {s:Tu}{r b:U T}{w:Str}{g a:Y}(f:keys_WORDS.contains (q s)=L7)(e:tab_WORDS.lookup (q s)=O g)(c:C a g [(.s,.lst b)]=.ok ((.d,.str w),[])):∃m,C (a+1) 130 [(.s,.tup (.str (q s)::r)),(.s,.lst b)]=.ok ((m,.tup [.non,.str w]),[]):=by rw[lE,x_run _ _ _ rfl];refine⟨?_,?_⟩;rotate_left;simp_all only[fv,aa,f,Nx,e,c];rfl
theorem IL (b:Ta):Ok1 "not" [.bl b] (.bl<|!b) where
 once n pr:=by rw[show n+3=(n+2)+1 from rfl,aw,x_run _ _ _ rfl];refine⟨?_,?_⟩;rotate_left;simp_all only[ak,aa,qeq,ba,de,Mn,Mq,MC,MS,Mo];rfl
 done n pr:=dn0 (L:=n+3) (by decide +kernel) (by decide +kernel) (by kernel_rfl) (by
  rw[show n+3=(n+2)+1 from rfl,tj,x_run _ _ _ rfl];simp_all only[er,aa];rfl)
 pt:=trivial
theorem Ia (a b:T)(h:PT 3 a):Ok1 "first" [.tup [a,b]] a where
 once n pr:=by rw[show n+3=(n+2)+1 from rfl,aw,x_run _ _ _ rfl];refine⟨?_,?_⟩;rotate_left;simp_all only[ak,aa,qeq,ba,de,Mn,Mq,MC,MS,Mo,M4,My,MT,b2i];rfl
 done n pr:=dn0 (L:=n+3) (by decide +kernel) (by decide +kernel) (by kernel_rfl) (by
  rw[show n+3=(n+2)+1 from rfl,l7,x_run _ _ _ rfl];simp_all only[cS,aa];rfl)
 pt:=h
theorem Kl (a b:T)(h:PT 3 b):Ok1 "second" [.tup [a,b]] b where
 once n pr:=by rw[show n+3=(n+2)+1 from rfl,aw,x_run _ _ _ rfl];refine⟨?_,?_⟩;rotate_left;simp_all only[ak,aa,qeq,ba,de,Mn,Mq,MC,MS,Mo,M4,My,MT,b2i];rfl
 done n pr:=dn0 (L:=n+3) (by decide +kernel) (by decide +kernel) (by kernel_rfl) (by
  rw[show n+3=(n+2)+1 from rfl,kx,x_run _ _ _ rfl];simp_all only[cy,aa];rfl)
 pt:=h
theorem IG (a:T)(h:PT 2 a):Ok1 "one" [a] (.lst [a]) where
 once n pr:=by rw[show n+3=(n+2)+1 from rfl,aw,x_run _ _ _ rfl];refine⟨?_,?_⟩;rotate_left;simp_all only[ak,aa,qeq,ba,de,Mn,Mq,MC,MS,Mo,M4,My,MT,b2i];rfl
 done n pr:=dn0 (L:=n+3) (by decide +kernel) (by decide +kernel) (by kernel_rfl) (by
  rw[show n+3=(n+2)+1 from rfl,q0,x_run _ _ _ rfl];simp_all only[eu,aa];rfl)
 pt:=λu b=>by obtain rfl:=MZ.mp b;exact h
theorem E5 (a b:T)(h:PT 2 a)(d:PT 2 b):Ok1 "pair" [a,b] (.tup [a,b]) where
 once n pr:=by rw[show n+3=(n+2)+1 from rfl,aw,x_run _ _ _ rfl];refine⟨?_,?_⟩;rotate_left;simp_all only[ak,aa,qeq,ba,de,Mn,Mq,MC,MS,Mo,M4,My,MT,b2i];rfl
 done n pr:=dn0 (L:=n+3) (by decide +kernel) (by decide +kernel) (by kernel_rfl) (by
  rw[show n+3=(n+2)+1 from rfl,nQ,x_run _ _ _ rfl];simp_all only[dP,aa];rfl)
 pt:=λu c=>by
  rcases Mm.mp c with rfl|c
  .exact h
  .obtain rfl:=MZ.mp c;exact d
inductive Ar where|add|sub|mul
def Ar.nm:Ar->Tu
|.add=>"add" |.sub=>"sub" |.mul=>"mul"
noncomputable def Ar.val:Ar->Int->Int->Int
|.add,i,j=>i+j | .sub,i,j=>i-j | .mul,i,j=>i * j
theorem p18 (m n:Md):oSem .pow L5 [(m,.int 10),(n,.int 18)]=O (.d,.int 1000000000000000000):=rfl
theorem qU {s:Tu}(c:s∈["add","sub","mul","div","rest"]){n:Y}{pr:U T}{a b:T}{m:Md}{r:T}(h:∀e,C (n+2) 587 [(e,.str<|q s),(.s,a),(.s,b)]=.ok ((m,r),[]))(f:lf .s a=.d)(g:lf .s b=.d):C (n+3) 589 [(.s,.tup (.str (q s)::pr)),(.s,.lst [a,b])]=.ok ((m,r),[]):=by rw[show n+3=(n+2)+1 from rfl,aw,x_run _ _ _ rfl];simp only[Mm,MW,TC] at c;rcases c with rfl|rfl|rfl|rfl|rfl<;>simp_all only[ak,aa,qeq,ba,de,Mn,Mq,MC,MS,Mo,M4,My,MT,h]
theorem zS (n:Y)(a:Ar){i j:Int}(t:i.natAbs<=1000000000000000000)(r m1 s:Md):C (n+1) 587 [(r,.str<|q a.nm),(m1,.int i),(s,.int j)]=.ok ((.d,.tup [.int<|a.val i j,if decide (1000000000000000000<((a.val i j).natAbs:Int)) then .str (q "great") else .str<|q ""]),[]):=by
 have p:strsOf [T.str (q "add"),.str (q "sub"),.str (q "mul")]=O [q "add",q "sub",q "mul"]:=rfl;have c:(decide (i.natAbs<18446744073709551616) || decide (j.natAbs<18446744073709551616))=true:=by rw[Te<|show i.natAbs<18446744073709551616 by lia];rfl
 have e:decide ([q "add",q "sub",q "mul"].length<1000)=true:=rfl;rw[cG,x_run _ _ _ rfl]
 have b:∃k:Int,([q "add",q "sub",q "mul"].contains (q a.nm)=L7/\(([q "add",q "sub",q "mul"].idxOf (q a.nm):Y):Int)=k)/\atI [T.int (i+j),T.int (i-j),T.int (i * j)] k=O (.int (a.val i j))/\(q a.nm==q "div")=L5/\(q a.nm==q "rest")=false:=by
  cases a with
  |add=>exact⟨0,⟨by decide +kernel,by decide +kernel⟩,rfl,by decide +kernel,by decide +kernel⟩
  |sub=>exact⟨1,⟨by decide +kernel,by decide +kernel⟩,rfl,by decide +kernel,by decide +kernel⟩
  |mul=>exact⟨2,⟨by decide +kernel,by decide +kernel⟩,rfl,by decide +kernel,by decide +kernel⟩
 obtain⟨k,⟨f,g⟩,l,m,o⟩:=b;cases h:decide (1000000000000000000<((a.val i j).natAbs:Int)) with
 |true=>simp_all only[aI,aa,ba,de,Mn,Mq,MC,MS,Mo,PB (a:=q "div"),PB (a:=q "rest"),m,o,c,p,e,f,g,l,p18,h]
 |false=>simp_all only[aI,aa,ba,de,Mn,Mq,MC,MS,Mo,PB (a:=q "div"),PB (a:=q "rest"),m,o,c,p,e,f,g,l,p18,h]
theorem mN (n:Y)(m:Md)(i:Int):C (n+1) 28 [(m,.int i)]=.ok ((.d,if decide (1000000000000000000<(i.natAbs:Int)) then .str (q "great") else .non),[]):=by
 rw[ju,x_run _ _ _ rfl];by_cases h:1000000000000000000<(i.natAbs:Int)
 .rw [Tf (Te h)];by_cases a:-1000000000000000000<=i
  .simp_all only[aX,Te a,Tt<|show¬i<=1000000000000000000 by lia]
  .simp_all only[aX,Tt a]
 .rw [Tt h];simp_all only[aX,Te<|show -1000000000000000000<=i by lia,Te<|show i<=1000000000000000000 by lia]
theorem pX (n:Y)(a:Ar){i j:Int}(k:i.natAbs<=1000000000000000000):∃g f,keys_WORDS.contains (q a.nm)=L7/\tab_WORDS.lookup (q a.nm)=O g/\tab_DOINGS.lookup (q a.nm)=O f/\(q a.nm==q "num")=L5/\C (n+2) g [(.s,.lst [.int i,.int j])]=.ok ((.d,if decide (1000000000000000000<((a.val i j).natAbs:Int)) then .str (q "great") else .non),[])/\C (n+2) f [(.s,.lst [.int i,.int j])]=.ok ((.d,.int<|a.val i j),[]):=by
 have c:(decide (i.natAbs<18446744073709551616) || decide (j.natAbs<18446744073709551616))=true:=by rw[Te<|show i.natAbs<18446744073709551616 by lia];rfl
 have e:=λm=>mN n m<|a.val i j;cases a with
 | add =>
  refine⟨68,52,by kernel_rfl,by kernel_rfl,by kernel_rfl,by decide +kernel,?_,?_⟩
  .rw [show n+2=(n+1)+1 from rfl,iK,x_run _ _ _ rfl];cases h:decide (1000000000000000000<((Ar.val .add i j).natAbs:Int))<;>(rw[h] at e;have b:∀m,C (n+1) 28 [(m,.int (i+j))]=_:=e;simp_all only[bQ,aa,b])
  .rw [show n+2=(n+1)+1 from rfl,sj,x_run _ _ _ rfl];simp_all only[dY,aa];rfl
 | sub =>
  refine⟨69,53,by kernel_rfl,by kernel_rfl,by kernel_rfl,by decide +kernel,?_,?_⟩
  .rw [show n+2=(n+1)+1 from rfl,iN,x_run _ _ _ rfl];cases h:decide (1000000000000000000<((Ar.val .sub i j).natAbs:Int))<;>(rw[h] at e;have b:∀m,C (n+1) 28 [(m,.int (i-j))]=_:=e;simp_all only[bR,aa,b])
  .rw [show n+2=(n+1)+1 from rfl,sG,x_run _ _ _ rfl];simp_all only[d8,aa];rfl
 | mul =>
  refine⟨70,54,by kernel_rfl,by kernel_rfl,by kernel_rfl,by decide +kernel,?_,?_⟩
  .rw [show n+2=(n+1)+1 from rfl,i6,x_run _ _ _ rfl];cases h:decide (1000000000000000000<((Ar.val .mul i j).natAbs:Int))<;>(rw[h] at e;have b:∀m,C (n+1) 28 [(m,.int (i * j))]=_:=e;simp_all only[bK,aa,c,b])
  .rw [show n+2=(n+1)+1 from rfl,rD,x_run _ _ _ rfl];simp_all only[ei,aa,c];rfl
def Ans (s:Tu)(a:U T):Prop:=(∃v,Ok1 s a v)\/∃w,St1 s a w
theorem CS (a:Ar){i j:Int}(k:i.natAbs<=1000000000000000000):Ans a.nm [.int i,.int j]:=by
 have p:a.nm∈["add","sub","mul","div","rest"]:=by cases a<;>decide
 have R:=λn c m1 r=>zS n a (j:=j) k c m1 r;cases h:decide (1000000000000000000<((a.val i j).natAbs:Int)) with
 |true=>rw[h] at R;refine .inr ⟨"great",λn pr=>⟨_,_,qU p (λc=>R (n+1) c .s .s) rfl rfl⟩,λn pr=>?_,by decide +kernel⟩;obtain⟨g,f,d,e,l,m,b,o⟩:=pX (n+1) a (j:=j) k;rw[h] at b;exact dn2 d e b
 |false=>rw[h] at R;refine .inl ⟨.int<|a.val i j,λn pr=>⟨_,qU p (λc=>R (n+1) c .s .s) rfl rfl⟩,λn pr=>?_,trivial⟩;obtain⟨g,f,d,e,l,m,b,o⟩:=pX (n+1) a (j:=j) k;rw[h] at b;exact dn1 m d e b l o
def Dv.nm (b:Ta):Tu:=if b then "rest" else "div"
theorem tU (n:Y)(b:Ta){i:Int}(a m1 c:Md):C (n+1) 587 [(a,.str<|q<|Dv.nm b),(m1,.int i),(c,.int 0)]=.ok ((.d,.tup [.int 0,.str<|q "nought"]),[]):=by rw[cG,x_run _ _ _ rfl];cases b<;>simp_all only[aI,Dv.nm,aa,qeq,ba,de,Mn,Mq,MC,MS,Mo,My,show((0:Int)==0)=L7 from rfl]
theorem zF (n:Y)(b:Ta){i j:Int}(k:i.natAbs<=1000000000000000000)(l:j.natAbs<=1000000000000000000)(a:(j==0)=L5)(g m1 h:Md):C (n+1) 587 [(g,.str<|q<|Dv.nm b),(m1,.int i),(h,.int j)]=.ok ((.d,.tup [.int<|if b then i.fmod j else i.fdiv j,.str<|q ""]),[]):=by
 have e:((j != 0)&&decide (j.natAbs<18446744073709551616))=true:=by rw[show(j != 0)=L7 by rw[bne,a];rfl,Te<|show j.natAbs<18446744073709551616 by lia];rfl
 have f:(decide ((i.fdiv j).natAbs<18446744073709551616) || decide (j.natAbs<18446744073709551616))=true:=by rw[Te<|show j.natAbs<18446744073709551616 by lia,My]
 have c:i-i.fdiv j * j=i.fmod j:=by rw[Int.fmod_def,Int.mul_comm]
 rw[cG,x_run _ _ _ rfl];cases b<;>simp_all only[aI,Dv.nm,aa,qeq,ba,de,Mn,Mq,MC,MS,Mo,My,a,e,f,c,b2i]<;>rfl
theorem s9 (n:Y)(m:Md)(i:Int):C (n+1) 30 [(m,.int i)]=.ok ((.d,if(i==0)=L7 then .str (q "nought") else .non),[]):=by
 rw[iX,x_run _ _ _ rfl];cases h:i==0
 .simp_all only[aY,h]
 .simp_all only[aY,h]
theorem qx (n:Y)(b:Ta){i j:Int}:keys_WORDS.contains (q<|Dv.nm b)=L7/\tab_WORDS.lookup (q<|Dv.nm b)=O 71/\(q (Dv.nm b)==q "num")=L5/\C (n+2) 71 [(.s,.lst [.int i,.int j])]=.ok ((.d,if(j==0)=L7 then .str (q "nought") else .non),[]):=by have e:=λm=>s9 n m j;refine⟨by cases b<;>kernel_rfl,by cases b<;>kernel_rfl,by cases b<;>decide +kernel,?_⟩;rw[show n+2=(n+1)+1 from rfl,jk,x_run _ _ _ rfl];cases h:j==0<;>(rw[h] at e;simp_all only[bP,aa,e])
theorem HC (b:Ta){i j:Int}(o:i.natAbs<=1000000000000000000)(p:j.natAbs<=1000000000000000000):Ans (Dv.nm b) [.int i,.int j]:=by
 have m:Dv.nm b∈["add","sub","mul","div","rest"]:=by cases b<;>decide
 cases g:j==0 with
 |true=>obtain rfl:j=0:=eq_of_beq g;refine .inr ⟨"nought",λn pr=>⟨_,_,qU m (λl=>tU (n+1) b l .s .s) rfl rfl⟩,λn pr=>?_,by decide +kernel⟩;obtain⟨c,e,h,a⟩:=qx (n+1) b (i:=i) (j:=0);exact dn2 c e a
 | false =>
  refine .inl ⟨_,λn pr=>⟨_,qU m (λl=>zF (n+1) b o p g l .s .s) rfl rfl⟩,λn pr=>?_,trivial⟩;obtain⟨c,e,h,a⟩:=qx (n+1) b (i:=i) (j:=j);rw[g] at a;have k:((j != 0)&&decide (j.natAbs<18446744073709551616))=true:=by rw[show(j != 0)=L7 by rw[bne,g];rfl,Te<|show j.natAbs<18446744073709551616 by lia];rfl
  cases b with
  | true=>exact dn1 h c e a (f:=132 ) (by kernel_rfl) (mw:=.d) (by
    rw[show n+1+2=(n+2)+1 from rfl,ni,x_run _ _ _ rfl];simp_all only[dn,aa,vU,k,show(j != 0)=L7 from(Ng.mp k).1])
  | false=>exact dn1 h c e a (f:=131 ) (by kernel_rfl) (mw:=.d) (by
    rw[show n+1+2=(n+2)+1 from rfl,sC,x_run _ _ _ rfl];simp_all only[ee,aa,k])
theorem pQ:(([q "less",q "same",q "both"].idxOf (q "less"):Y):Int)=0:=by decide +kernel
theorem kA:(([q "less",q "same",q "both"].idxOf (q "same"):Y):Int)=1:=by decide +kernel
theorem zQ:(([q "less",q "same",q "both"].idxOf (q "both"):Y):Int)=2:=by decide +kernel
theorem qE:[q "less",q "same",q "both"].contains (q "less")=true:=by decide +kernel
theorem kl:[q "less",q "same",q "both"].contains (q "same")=true:=by decide +kernel
theorem Ae:[q "less",q "same",q "both"].contains (q "both")=true:=by decide +kernel
theorem eQ:strsOf [T.str<|q "less",.str<|q "same",.str<|q "both"]=O [q "less",q "same",q "both"]:=rfl
theorem eE:decide ([q "less",q "same",q "both"].length<1000)=true:=rfl
theorem BQ {b:Type}(f g:Env->Res b)(m:Md){i:Int}(h:(i != 0)=L7)(a:Env):onT f g ((m,.int i),a)=f a:=by show(match (O (i != 0):I Ta) with|some L7=>f a | some L5=>g a | none=>.no)=_;rw[h]
theorem Cq {b:Type}(f g:Env->Res b)(m:Md){i:Int}(h:(i != 0)=L5)(a:Env):onT f g ((m,.int i),a)=g a:=by show(match (O (i != 0):I Ta) with|some L7=>f a | some L5=>g a | none=>.no)=_;rw[h]
theorem F7 (i j:Int):Ok1 "less" [.int i,.int j] (.bl<|decide (i<j)) where
 once n pr:=by
  rw[show n+3=(n+2)+1 from rfl,aw,x_run _ _ _ rfl];refine⟨.d,?_⟩;cases h:i != 0
  .simp_all only[ak,aa,qeq,ba,de,Mn,Mq,MC,MS,Mo,M4,My,MT,Cq _ _ _ h,eQ,eE,qE,pQ]
  .simp_all only[ak,aa,qeq,ba,de,Mn,Mq,MC,MS,Mo,M4,My,MT,BQ _ _ _ h,eQ,eE,qE,pQ]
 done n pr:=dn0 (L:=n+3) (by decide +kernel) (by decide +kernel) (by kernel_rfl) (by
  rw[show n+3=(n+2)+1 from rfl,pf,x_run _ _ _ rfl];simp_all only[dA,aa];rfl)
 pt:=trivial
theorem Ht (i j:Int):Ok1 "same" [.int i,.int j] (.bl<|i==j) where
 once n pr:=by
  rw[show n+3=(n+2)+1 from rfl,aw,x_run _ _ _ rfl];refine⟨.d,?_⟩;cases h:i != 0
  .simp_all only[ak,aa,qeq,ba,de,Mn,Mq,MC,MS,Mo,M4,My,MT,Cq _ _ _ h,eQ,eE,kl,kA]
  .simp_all only[ak,aa,qeq,ba,de,Mn,Mq,MC,MS,Mo,M4,My,MT,BQ _ _ _ h,eQ,eE,kl,kA]
 done n pr:=dn0 (L:=n+3) (by decide +kernel) (by decide +kernel) (by kernel_rfl) (by
  rw[show n+3=(n+2)+1 from rfl,iF,x_run _ _ _ rfl];simp_all only[cN,aa];rfl)
 pt:=trivial
theorem zR (a b:Ta):Ok1 "same" [.bl a,.bl b] (.bl<|a==b) where
 once n pr:=by rw[show n+3=(n+2)+1 from rfl,aw,x_run _ _ _ rfl];refine⟨.d,?_⟩;cases a<;>simp_all only[ak,aa,qeq,ba,de,Mn,Mq,MC,MS,Mo,M4,My,MT,eQ,eE,kl,kA]
 done n pr:=dn0 (L:=n+3) (by decide +kernel) (by decide +kernel) (by kernel_rfl) (by
  rw[show n+3=(n+2)+1 from rfl,iF,x_run _ _ _ rfl];simp_all only[cN,aa];rfl)
 pt:=trivial
theorem Dc (a b:Ta):Ok1 "both" [.bl a,.bl b] (.bl<|a&&b) where
 once n pr:=by rw[show n+3=(n+2)+1 from rfl,aw,x_run _ _ _ rfl];refine⟨.d,?_⟩;cases a<;>simp_all only[ak,aa,qeq,ba,de,Mn,Mq,MC,MS,Mo,M4,My,MT,eQ,eE,Ae,zQ,Ox]
 done n pr:=dn0 (L:=n+3) (by decide +kernel) (by decide +kernel) (by kernel_rfl) (mw:=.s) (by
  rw[show n+3=(n+2)+1 from rfl,nI,x_run _ _ _ rfl];cases a<;>simp_all only[dy,aa,Ox])
 pt:=trivial
def okU (i:Int):Ta:=decide (0<=i)&&decide (i<=200)
def gU (i:Int):T:=.lst<|(Mj i.toNat).map λ(k:Y)=>T.int k
theorem r8 (n:Y)(i:Int):C (n+2) 64 [(.s,.lst [.int i])]=.ok ((.d,if okU i then .non else .str<|q "far"),[]):=by
 rw[show n+2=(n+1)+1 from rfl,gV,x_run _ _ _ rfl]
 have e:∀m,C (n+1) 33 [(m,.int i)]=.ok ((.d,if okU i then .non else .str (q "far")),[]):=λm=>by
  rw[kS,x_run _ _ _ rfl];unfold okU;cases a:decide (0<=i) with
  |false=>simp_all only[bu,a,Ox]
  |true=>
   cases b:decide (i<=200) with
   |false=>simp_all only[bu,a,b]
   |true=>simp_all only[bu,a,b]
 cases h:okU i with
 |true=>rw[h] at e;simp_all only[aW,aa,e]
 |false=>rw[h] at e;simp_all only[aW,aa,e]
theorem LZ {i:Int}(h:okU i=L7)(m n:Md):oSem .rng L5 [(m,.int 0),(n,.int i)]=O (.d,gU i):=by obtain⟨a,b⟩:=Ng.mp h;have a:=Ts a;have b:=Ts b;have c:decide ((0:Int).natAbs<4611686018427387904)=true:=rfl;have e:decide (i.natAbs<4611686018427387904)=true:=Te (by lia);have f:fits (i-0).toNat=true:=Te (by show _<=16777215;lia);rw[JC,c,e,f,Tf<|by rfl,gU,Int.sub_zero];exact Tn (λl=>O ((.d,T.lst l):W))<|Po λk _=>by rw[RP]
theorem DS (i:Int):Ans "upto" [.int i]:=by
 have w:=λn=>r8 n i;cases h:okU i with
 | true =>
  have r:=λm n=>LZ h m n;obtain⟨a,b⟩:=Ng.mp h;rw[h] at w;refine .inl ⟨gU i,λn pr=>?_,λn pr=>?_,ptM 2 (λk:Y=>(k:Int)) _⟩
  .rw [show n+3=(n+2)+1 from rfl,aw,x_run _ _ _ rfl];refine⟨?_,?_⟩;rotate_left;simp_all only[ak,aa,qeq,ba,de,Mn,Mq,MC,MS,Mo,M4,My,MT,a,b,r];rfl
  .exact dn1 (by decide +kernel) (by decide +kernel) (by kernel_rfl) (w<|n+1) (f:=46) (by kernel_rfl) (mw:=.d) (by
    rw[show n+1+2=(n+2)+1 from rfl,oS,x_run _ _ _ rfl];simp_all only[dk,aa,r])
 | false =>
  rw[h] at w;refine .inr ⟨"far",λn pr=>?_,λn pr=>dn2 (by decide +kernel) (by kernel_rfl)<|w<|n+1,by decide +kernel⟩;rw[show n+3=(n+2)+1 from rfl,aw,x_run _ _ _ rfl];refine⟨.o<|.o .s,.lst [],?_⟩;cases a:decide (0<=i) with
  |false=>simp_all only[ak,aa,qeq,ba,de,Mn,Mq,MC,MS,Mo,M4,My,MT,a]
  |true=>
   have b:decide (i<=200)=false:=by rw[okU,a,Np] at h;exact h
   simp_all only[ak,aa,qeq,ba,de,Mn,Mq,MC,MS,Mo,M4,My,MT,a,b]
noncomputable def af (a:U Int):U T:=a.map T.int
theorem cz (a b:U Int):af (a++b)=af a++af b:=PH ..
theorem aP:∀a:U Int,intsOf (af a)=O a
|[]=>rfl
|i::a=>by show(intsOf<|af a).map (i::·)=_;rw[aP a];rfl
def rwI (a:U Int):T:=.lst<|af a
def okP:Int->U Int->Ta
|_,[]=>L7
|t,x::a=>decide ((t+x).natAbs<=1000000000000000000)&&okP (t+x) a
def f6:Int->U Int->U Int
|_,[]=>[]
|t,x::a=>t::f6 (t+x) a
theorem xo (n:Y)(m:Md)(i:Int):C (n+1) 28 [(m,.int i)]=.ok ((.d,if decide (i.natAbs<=1000000000000000000) then .non else .str<|q "great"),[]):=by
 rw[mN];by_cases h:i.natAbs<=1000000000000000000
 .rw[Tf<|Te h,Tt<|show¬1000000000000000000<(i.natAbs:Int) by lia];rfl
 .rw[Tt h,Tf<|Te<|show 1000000000000000000<(i.natAbs:Int) by lia];rfl
abbrev l5:U S:=[
   .asg (.q [1] [2]) 1 (.op .add L5 [.var 1,.var 2]),
   .ite (.q [1] []) (.op .isnot L5 [.call 28 [.var 1],.cst (.non)]) [
    .ret [] (.cst<|.str<|q "great")] []]
theorem jG {n:Y}{o0:I W}:∀(l:U Int) (t:Int) (o2:I W),(okP t l=L7/\∃f,cT [2] (evSs (C<|n+1) l5) ((af l).map λt=>[((.s,t):W)]) [o0,O (.d,.int t),o2]=.nx [o0,O (.d,.int<|t+l.sum),f])\/(okP t l=L5/\∃c,cT [2] (evSs (C<|n+1) l5) ((af l).map λt=>[((.s,t):W)]) [o0,O (.d,.int t),o2]=.rt (.d,.str<|q "great") c)
|[],t,o2=>.inl ⟨rfl,o2,by rw[Qd,QY];rfl⟩
| x::l,t,o2=>by
 have g:=λm=>xo n m<|t+x;cases h:decide ((t+x).natAbs<=1000000000000000000) with
 | true =>
  rw[h] at g;have step:evSs (C (n+1)) l5 [o0,O (.d,.int t),O (.s,.int x)]=.nx [o0,O (.d,.int (t+x)),O (.s,.int x)]:=by simp_all only[g]
  have e:okP t (x::l)=okP (t+x) l:=by rw[okP,h,Np]
  rw[e,N7,<- QV];rcases jG (n:=n) (o0:=o0) l (t+x) (O (.s,.int x)) with⟨a,f,b⟩|⟨a,c,b⟩
  .exact .inl ⟨a,f,(Tn (Fl.turn · _) step).trans b⟩
  .exact .inr ⟨a,c,(Tn (Fl.turn · _) step).trans b⟩
 | false =>
  rw[h] at g
  obtain⟨c,step⟩:∃c,evSs (C (n+1)) l5 [o0,O (.d,.int t),O (.s,.int x)]=.rt (.d,.str (q "great")) c:=⟨_,by
   simp_all only[g];rfl⟩
  refine .inr ⟨by rw[okP,h];rfl,c,?_⟩;exact Tn (λz=>Fl.turn z<|cT [2] (evSs (C<|n+1) l5)<|(af l).map λt=>[((.s,t):W)]) step
theorem xA (n:Y)(l:U Int)(m:Md):C (n+3) 65 [(m,.lst [rwI l])]=.ok ((.d,if okP 0 l then .non else .str<|q "great"),[]):=by
 have e:∀m,C (n+2) 29 [(m,rwI l)]=.ok ((.d,if okP 0 l then .non else .str (q "great")),[]):=λm=>by
  rw[lF,x_run _ _ _ rfl,rwI];rcases jG (n:=n) (o0:=O (.s,.lst<|af l)) l 0 J with⟨a,c,b⟩|⟨a,f,b⟩
  .rw [a];simp_all only[bY,b]
  .rw [a];simp_all only[bY,b]
 rw[i8,x_run _ _ _ rfl];cases h:okP 0 l with
 |true=>rw[h] at e;simp_all only[a0,e]
 |false=>rw[h] at e;simp_all only[a0,e]
theorem do_sum (n:Y)(l:U Int)(m:Md):C (n+1) 48 [(m,.lst [rwI l])]=.ok ((.d,.int l.sum),[]):=by rw[rj,x_run _ _ _ rfl,rwI];simp_all only[dX,aP]
abbrev BV:U S:=[
   .app (.q [2] []) 1 (.var 2),
   .asg (.q [2] [3]) 2 (.op .add L5 [.var 2,.var 3])]
theorem gG {n:Y}{o0:I W}:∀(l:U Int) (a:U Int) (t:Int) (o3:I W),a.length+l.length<1000->∃b,cT [3] (evSs (C n) BV) ((af l).map λt=>[((.s,t):W)]) [o0,O (.o .s,.lst<|af a),O (.d,.int t),o3]=.nx [o0,O (.o .s,.lst<|af<|a++f6 t l),O (.d,.int<|t+l.sum),b]
|[],a,t,o3,_=>⟨o3,by rw[Qd,QY,f6,MV];rfl⟩
| x::l,a,t,o3,h=>by
 rw[Mw] at h;have c:(af a).length<LIM:=by rw[af,Mg];show _<16777215;lia
 have e1:af a++[.int t]=af (a++[t]):=(cz a [t]).symm;have step:evSs (C n) BV [o0,O (.o .s,.lst (af a)),O (.d,.int t),O (.s,.int x)]=.nx [o0,O (.o .s,.lst (af (a++[t]))),O (.d,.int (t+x)),O (.s,.int x)]:=by simp_all only[Tf c,e1]
 obtain⟨b,e⟩:=gG (n:=n) (o0:=o0) l (a++[t]) (t+x) (O (.s,.int x)) (by rw[MA,NG];lia);refine⟨b,?_⟩;rw[N7,<- QV,f6,show a++t::f6 (t+x) l=a++[t]++f6 (t+x) l by rw[N0];rfl];exact(Tn (Fl.turn · _) step).trans e
theorem do_sums (n:Y)(l:U Int)(c:l.length<1000)(m:Md):C (n+1) 49 [(m,.lst [rwI l])]=.ok ((.o .s,rwI<|f6 0 l),[]):=by rw[nu,x_run _ _ _ rfl];obtain⟨b,a⟩:=gG (n:=n) (o0:=O (.s,.lst [.lst<|af l])) l [] 0 J (by rw[Oo];lia);rw[MU,show af []=[] from rfl] at a;unfold rwI;simp_all only[dB,a]
def okM (l:U Int):Ta:=!l.isEmpty
theorem j3 (n:Y)(l:U Int)(m:Md):C (n+2) 66 [(m,.lst [rwI l])]=.ok ((.d,if okM l then .non else .str<|q "empty"),[]):=by
 rw[gM,x_run _ _ _ rfl];have a:(af l).length=l.length:=by rw[af,Mg]
 have e:∀m,C (n+1) 32 [(m,.int (((af l).length:Y):Int))]=.ok ((.d,if okM l then .non else .str (q "empty")),[]):=λm=>by
  rw[jm,x_run _ _ _ rfl];cases l with
  |nil=>simp_all only[bC,af,Oo,okM,List.isEmpty_nil];rfl
  |cons x l=>have h:(((af (x::l)).length:Int)==0)=false:=beq_eq_false_iff_ne.mpr (by rw[a,Mw];lia);simp_all only[bC,h,okM,List.isEmpty_cons]
 unfold rwI;cases h:okM l with
 |true=>rw[h] at e;simp_all only[aV,e]
 |false=>rw[h] at e;simp_all only[aV,e]
theorem do_most (n:Y)(l:U Int)(h:okM l=L7)(m:Md):C (n+1) 50 [(m,.lst [rwI l])]=.ok ((.d,.int<|maxI l),[]):=by
 rw[ox,x_run _ _ _ rfl,rwI]
 have a:l.isEmpty=false:=by
  unfold okM at h;cases b:l.isEmpty with
  |true=>rw[b] at h;cases h
  |false=>rfl
 simp_all only[dw,aP,a]
def ahL:Int->U Int->U Int
|t,[]=>[t]
|t,x::a=>t::ahL (t+x) a
theorem wq:∀(l:U Int) (t:Int),ahL t l=f6 t l++[t+l.sum]
|[],t=>by rw[Qd,QY];rfl
|x::l,t=>by rw[ahL,wq l<|t+x,N7,<- QV];rfl
theorem g9 (a:U T)(z:T):atI (a++[z]) (-1)=O z:=by rw[atI,ixN,Ti<|by decide,Tf<|by rw[MA,NG];lia];show(a++[z])[((-1:Int)+((a++[z]).length:Int)).toNat]?=O z;rw[show((-1:Int)+((a++[z]).length:Int)).toNat=a.length by rw[MA,NG];lia,OV<|Mi _,QS];rfl
theorem vG (a:U T)(z:T):cut (a++[z]) J (O (-1))=a:=by
 have e:sIx (a++[z]).length (a++[z]).length (O (-1))=a.length:=by show(if(-1:Int)<0 then((-1:Int)+((a++[z]).length:Int)).toNat else min (-1:Int).toNat (a++[z]).length)=_;rw[Tf<|by decide,MA,NG];lia
 have e2:sIx (a++[z]).length 0 J=0:=rfl;rw[cut,e,e2,OU,QX,List.take_left'];rfl
def eZ (i:Int):Int:=(i.natAbs:Int)
theorem pF:∀(l:U Int),l≠[]->decide (1000000000000000000<maxI (l.map eZ))=!(l.all λi=>decide (i.natAbs<=1000000000000000000))
|[],h=>Tg rfl h
|[i],_=>by
 show decide (1000000000000000000<eZ i)=!(decide (i.natAbs<=1000000000000000000)&&L7);rw[Ry];unfold eZ;cases h:decide (i.natAbs<=1000000000000000000) with
 |true=>exact Tt (by have:=Ts h;lia)
 |false=>exact Te (by have:=TB h;lia)
| i::j::l,_=>by
 have b:=pF (j::l) (by simp);have e:maxI ((i::j::l).map eZ)=max (eZ i) (maxI ((j::l).map eZ)):=rfl;rw[e,MC];cases h:decide (i.natAbs<=1000000000000000000) with
 |true=>
  rw[Np,<- b];have c:=Ts h;cases a:decide (1000000000000000000<maxI ((j::l).map eZ)) with
  |true=>exact Te (by have:=Ts a;lia)
  |false=>exact Tt (by have:=TB a;unfold eZ at *;lia)
 |false=>exact Te (by have:=TB h;unfold eZ;lia)
theorem Ey (t:Int)(l:U Int):ahL t l≠[]:=by cases l<;>simp[ahL]
theorem uj:∀(l:U Int) (t:Int),t.natAbs<=1000000000000000000->((ahL t l).all λi=>decide (i.natAbs<=1000000000000000000))=okP t l
|[],t,h=>by show(decide (t.natAbs<=1000000000000000000)&&L7)=L7;rw[Te h];rfl
| x::l,t,h=>by
 rw[ahL,MC,Te h,Np,okP];cases a:decide ((t+x).natAbs<=1000000000000000000) with
 |true=>rw[uj l (t+x)<|Ts a];rfl
 |false=>
  rw[Ox];cases l with
  |nil=>show(decide ((t+x).natAbs<=1000000000000000000)&&L7)=L5;rw[a];rfl
  |cons y l=>show(decide ((t+x).natAbs<=1000000000000000000)&&_)=L5;rw[a];rfl
theorem qS:∀(l:U Int),l≠[]->maxI l∈l/\∀x∈l,x<=maxI l
|[],z=>Tg rfl z
|[y],_=>⟨MZ.mpr rfl,λx hx=>by rw[MZ.mp hx];exact Int.le_refl _⟩
| y::z::l,_=>by
 obtain⟨a,b⟩:=qS (z::l) (by simp);have e:maxI (y::z::l)=max y (maxI (z::l)):=rfl;rw[e];refine⟨?_,λx hx=>?_⟩
 .rcases Int.le_total y (maxI (z::l)) with h | h
  .rw[Int.max_eq_right h];exact MG _ a
  .rw[Int.max_eq_left h];exact ML
 .rcases Mm.mp hx with rfl | hx
  .lia
  .have:=b x hx;lia
theorem gA (x:Int):∀l:U Int,(insI x l).Perm (x::l)
|[]=>.refl _
|y::a=>by
 unfold insI;split
 .exact .refl _
 .exact((gA x a).cons y).trans<|.swap x y a
theorem lU (x:Int):∀l:U Int,l.Pairwise (·<=·)->(insI x l).Pairwise (·<=·)
|[],_=>SV _ _
| y::d,hp=>by
 obtain⟨c,f⟩:=Pk.mp hp;unfold insI;split
 .rename_i a;exact Pk.mpr ⟨λz b=>(Mm.mp b).elim (λe=>e ▸ a) λb=>RT a<|c z b,hp⟩
 .rename_i a;refine Pk.mpr ⟨λz b=>?_,lU x d f⟩;rcases Mm.mp ((gA x d).mem_iff.mp b) with rfl|b
  .lia
  .exact c z b
theorem iJ:∀l:U Int,(sortI l).Perm l
|[]=>.refl _
|x::l=>(gA x _).trans<|(iJ l).cons x
theorem jV:∀l:U Int,(sortI l).Pairwise (·<=·)
|[]=>.nil
|x::l=>lU x _<|jV l
theorem tK (l:U Int)(h:l≠[]):atI ((sortI l).map T.int) (-1)=O (.int<|maxI l):=by
 have hp:=iJ l;have f:=jV l;have c:sortI l≠[]:=λz=>by rw[z] at hp;exact h<|List.nil_perm.mp hp
 have e:=List.dropLast_concat_getLast c;obtain⟨a,b⟩:=qS l h
 have g:(sortI l).getLast c=maxI l:=by
  have i:(sortI l).getLast c<=maxI l:=b _<|hp.mem_iff.mp<|List.getLast_mem c
  have j:maxI l<=(sortI l).getLast c:=by
   have d:maxI l∈sortI l:=hp.mem_iff.mpr a;rw[<- e] at d f;rcases OR.mp d with q|q
   .exact(List.pairwise_append.mp f).2.2 _ q _<|MZ.mpr rfl
   .rw[MZ.mp q];exact Int.le_refl _
  lia
 rw[<- e,PH,g];exact g9 _ _
theorem ir {s:Tu}(b:s∈["sum","sums","most","long","flat"]){n:Y}{pr:U T}{a:T}{m:Md}{r:T}(h:C (n+2) 583 [(.d,.str<|q s),(.s,a)]=.ok ((m,r),[])):C (n+3) 589 [(.s,.tup (.str (q s)::pr)),(.s,.lst [a])]=.ok ((m,r),[]):=by rw[show n+3=(n+2)+1 from rfl,aw,x_run _ _ _ rfl];simp only[Mm,MW,TC] at b;rcases b with rfl|rfl|rfl|rfl|rfl<;>simp_all only[ak,aa,qeq,ba,de,Mn,Mq,MC,MS,Mo,M4,My,MT,h]
theorem km (A:U Int):(af A).map (λt=>[((.s,t):W)])=A.map λi=>[((.s,.int i):W)]:=by rw[af,NK];rfl
def Srt (l:U Int):Prop:=l.length<64\/lngOk l=L7
theorem Aq:(Mj 11).all (λc=>[100,199,200].all λm=>(cntI<|lngRow c m).getLast?==O (maxI<|lngRow c m))=true:=by kernel_rfl
theorem uJ {l:U Int}(h:lngOk l=L7):atI ((cntI l).map T.int) (-1)=O (.int<|maxI l):=by obtain⟨c,a,h⟩:=Ot.mp h;obtain⟨m,b,h⟩:=Ot.mp h;obtain rfl:l=lngRow c m:=eq_of_beq h;have e:(cntI (lngRow c m)).getLast?=O (maxI (lngRow c m)):=eq_of_beq<|Nd.mp (Nd.mp Aq c a) m b;obtain⟨f,d⟩:=List.getLast?_eq_some_iff.mp e;rw[d,PH];exact g9 _ _
theorem wM (n:Y){l:U Int}(c:Srt l)(b:l≠[])(f m1:Md):C (n+1) 583 [(f,.str<|q "most"),(m1,rwI l)]=.ok ((.d,.tup [.int<|maxI l,.str<|q ""]),[]):=by
 have hp:decide (0<((af l).length:Int))=true:=Te (by rw[af,Mg];have:=Sn.mpr b;lia);rw[bJ,x_run _ _ _ rfl];unfold rwI;cases a:decide (l.length<64) with
 |true=>have e:=tK l b;simp_all only[aH,aa,qeq,hp,aP,a,e]
 |false=>have ok:lngOk l=true:=c.elim (λz=>Tg z<|TB a) id;have e:=uJ ok;simp_all only[aH,aa,qeq,hp,aP,a,ok,e]
theorem rO (n:Y)(a m1:Md):C (n+1) 583 [(a,.str<|q "most"),(m1,rwI [])]=.ok ((.d,.tup [.int 0,.str<|q "empty"]),[]):=by have hp:decide (0<(([]:U T).length:Int))=false:=rfl;rw[bJ,x_run _ _ _ rfl];unfold rwI;simp_all only[aH,aa,qeq,hp,af]
theorem vh (n:Y)(a:U T)(b m1:Md):C (n+1) 583 [(b,.str<|q "long"),(m1,.lst a)]=.ok ((.d,.tup [.int a.length,.str<|q ""]),[]):=by rw[bJ,x_run _ _ _ rfl];simp_all only[aH,aa,qeq]
theorem Hr (a:U T):Ok1 "long" [.lst a] (.int a.length) where
 once n pr:=⟨_,ir (by decide)<|vh (n+1) a .d .s⟩
 done n pr:=dn0 (L:=n+3) (by decide +kernel) (by decide +kernel) (by kernel_rfl) (mw:=.d) (by
  rw[show n+3=(n+2)+1 from rfl,om,x_run _ _ _ rfl];simp_all only[dI,aa])
 pt:=trivial
theorem FI {l:U Int}(a:Srt l):Ans "most" [rwI l]:=by
 cases l with
 |nil=>exact .inr ⟨"empty",λn pr=>⟨_,_,ir (by decide)<|rO (n+1) .d .s⟩,λn pr=>dn2 (by decide +kernel) (by kernel_rfl)<|j3 (n+1) [] .s,by decide +kernel⟩
 |cons x l=>exact .inl ⟨_,λn pr=>⟨_,ir (by decide)<|wM (n+1) a (by simp) .d .s⟩,λn pr=>dn1 (by decide +kernel) (by decide +kernel) (by kernel_rfl) (j3 (n+1) (x::l) .s) (by kernel_rfl)<|do_most (n+2) (x::l) rfl .s,trivial⟩
abbrev CI:U S:=[
   .app (.q [4] [5]) 4 (.op .add L5 [.op .ix L5 [.var 4,.op .neg L5 [.cst<|.int 1]],.var 5])]
theorem iZ {D:Call}{o0 o1 o2 o3 o6 o7:I W}:∀(l:U Int) (a:U Int) (t:Int) (c:I W),a.length+l.length<1000->∃b,cT [5] (evSs D CI) ((af l).map λt=>[((.s,t):W)]) [o0,o1,o2,o3,O (.o .s,.lst<|af<|a++[t]),c,o6,o7]=.nx [o0,o1,o2,o3,O (.o .s,.lst<|af<|a++ahL t l),b,o6,o7]
|[],a,t,c,_=>⟨c,rfl⟩
| x::l,a,t,c,h=>by
 rw[Mw] at h;have d:(af (a++[t])).length<LIM:=by rw[af,Mg,MA,NG];show _<16777215;lia
 have e1:af (a++[t])++[.int (t+x)]=af (a++[t]++[t+x]):=(cz _ [t+x]).symm;have e2:atI (af (a++[t])) (-1)=O (.int t):=by rw[cz];exact g9 _ _
 have step:evSs D CI [o0,o1,o2,o3,O (.o .s,.lst (af (a++[t]))),O (.s,.int x),o6,o7]=.nx [o0,o1,o2,o3,O (.o .s,.lst (af (a++[t]++[t+x]))),O (.s,.int x),o6,o7]:=by simp_all only[e2,Tf d,e1]
 obtain⟨b,e⟩:=iZ (D:=D) (o0:=o0) (o1:=o1) (o2:=o2) (o3:=o3) (o6:=o6) (o7:=o7) l (a++[t]) (t+x) (O (.s,.int x)) (by rw[MA,NG];lia);refine⟨b,?_⟩;rw[ahL,show a++t::ahL (t+x) l=a++[t]++ahL (t+x) l by rw[N0];rfl];exact(Tn (Fl.turn · _) step).trans e
def sm (b:Ta):Tu:=if b then "sum" else "sums"
def gS (b:Ta)(l:U Int):T:=if b then .int l.sum else rwI<|f6 0 l
theorem vX (n:Y)(b:Ta){l:U Int}(F:l.length<900)(k m1:Md):∃m,C (n+1) 583 [(k,.str<|q<|sm b),(m1,rwI l)]=.ok ((m,.tup [gS b l,if okP 0 l then .str (q "") else .str<|q "great"]),[]):=by
 have B:(q (sm b)==q "long")=L5/\(q (sm b)==q "most")=L5/\(q (sm b)==q "flat")=L5/\(q (sm b)==q "sum")=b:=by cases b<;>decide +kernel
 obtain⟨o,p,r,t⟩:=B;generalize q (sm b)=x at o p r t ⊢;obtain⟨w,g⟩:=iZ (D:=C n) (o0:=O (k,.str x)) (o1:=O (.s,.lst<|af l)) (o2:=J) (o3:=J) (o6:=J) (o7:=J) l [] 0 J (by rw[Oo];lia);rw[MU,MU,show af [0]=[.int 0] from rfl,km] at g;have a:=Ey 0 l;have c:=pF (ahL 0 l) a;rw[uj l 0<|by decide] at c;have v:af (ahL 0 l)=af (f6 0 l)++[.int l.sum]:=by rw[wq,cz,RP];rfl
 have e:=g9 (af<|f6 0 l)<|.int l.sum;have f:=vG (af<|f6 0 l)<|.int l.sum;rw[<- v] at e f
 have j:((ahL 0 l).map eZ).isEmpty=false:=by
  cases h:ahL 0 l with
  |nil=>exact Tg h a
  |cons y G=>rfl
 generalize ahL 0 l=A at g c e f j
 have u:aG [7] (dW (evE (C n) (.op .abs L5 [.var 7]))) (A.map λi=>[((.s,.int i):W)]) [J,J,J,J,O (.s,.lst (af A)),J,J,J] []=.ok ([]++A.map (λi=>((.d,.int (eZ i)):W)),[J,J,J,J,O (.s,.lst (af A)),J,J,J]):=bG _ _ [] λi _=>⟨_,[J,J,J,J,O (.s,.lst<|af A),J,J,O (.s,.int i)],rfl,by
  unfold eZ;simp_all only[],rfl⟩
 have z:trees (A.map λi=>((.d,.int (eZ i)):W))=af (A.map eZ):=by rw[aU (λ_=>Md.d) λi=>T.int<|eZ i,af,NK];rfl
 rw[bJ,x_run _ _ _ rfl];unfold rwI;cases hk:okP 0 l<;>rw[hk] at c<;>cases b<;>(refine⟨?_,?_⟩;rotate_left;simp_all only[aH,gS,aa,qeq,ba,o,p,r,t,g,km,u,MU,z,aP,j,p18,c,N5,OT,e,f,rwI];rfl)
theorem vC (b:Ta){l:U Int}(i:l.length<900):Ans (sm b) [rwI l]:=by
 have g:sm b∈["sum","sums","most","long","flat"]:=by cases b<;>decide
 have R:=λn j=>vX n b i j .s;have c:keys_WORDS.contains (q (sm b))=true:=by cases b<;>decide +kernel
 have e:(q (sm b)==q "num")=false:=by cases b<;>decide +kernel
 have a:tab_WORDS.lookup (q (sm b))=O 65:=by cases b<;>kernel_rfl
 have W:=λn=>xA n l .s;cases h:okP 0 l with
 | true =>
  rw[h] at R W;refine .inl ⟨gS b l,λn pr=>?_,λn pr=>?_,?_⟩
  .obtain ⟨m,R⟩:=R (n+1) .d;exact⟨m,ir g R⟩
  .cases b with
   |true=>exact dn1 e c a (W n) (f:=48) (by kernel_rfl)<|do_sum (n+2) l .s
   |false=>exact dn1 e c a (W n) (f:=49) (by kernel_rfl)<|do_sums (n+2) l (by lia) .s
  .cases b with
   |true=>exact trivial
   |false=>exact ptM 2 (λk=>k)<|f6 0 l
 |false=>rw[h] at R W;refine .inr ⟨"great",λn pr=>?_,λn pr=>dn2 c a<|W n,by decide +kernel⟩;obtain⟨m,R⟩:=R (n+1) .d;exact⟨m,_,ir g R⟩
abbrev qv (z:Y):U S:=[.ext (.q [z+1] []) z<|.var<|z+1]
theorem iq {D:Call}{o0 o1 o4 o5 o6 o7:I W}:∀(a:U<|U Int) (b:U Int) (o3:I W),b.length+a.flatten.length<100000->∃c,cT [3] (evSs D<|qv 2) (a.map λl=>[((.s,rwI l):W)]) [o0,o1,O (.o .s,.lst<|af b),o3,o4,o5,o6,o7]=.nx [o0,o1,O (.o .s,.lst<|af<|b++a.flatten),c,o4,o5,o6,o7]
|[],b,o3,_=>⟨o3,by rw[Rp,MV];rfl⟩
| l::a,b,o3,h=>by
 rw[NP,MA] at h;have d:(af b).length+(af l).length<=LIM:=by rw[af,af,Mg,Mg];show _<=16777215;lia
 have e1:af b++af l=af (b++l):=(cz _ _).symm;have step:evSs D (qv 2) [o0,o1,O (.o .s,.lst (af b)),O (.s,rwI l),o4,o5,o6,o7]=.nx [o0,o1,O (.o .s,.lst (af (b++l))),O (.s,rwI l),o4,o5,o6,o7]:=by unfold rwI;simp_all only[Tf d,e1,oF]
 obtain⟨c,e⟩:=iq (D:=D) (o0:=o0) (o1:=o1) (o4:=o4) (o5:=o5) (o6:=o6) (o7:=o7) a (b++l) (O (.s,rwI l)) (by rw[MA];lia);refine⟨c,?_⟩;rw[NP,<- N0];exact(Tn (Fl.turn · _) step).trans e
theorem i4 {D:Call}{o0:I W}:∀(a:U<|U Int) (b:U Int) (o3:I W),b.length+a.flatten.length<100000->∃c,cT [2] (evSs D<|qv 1) (a.map λl=>[((.s,rwI l):W)]) [o0,O (.o .s,.lst<|af b),o3]=.nx [o0,O (.o .s,.lst<|af<|b++a.flatten),c]
|[],b,o3,_=>⟨o3,by rw[Rp,MV];rfl⟩
| l::a,b,o3,h=>by
 rw[NP,MA] at h;have d:(af b).length+(af l).length<=LIM:=by rw[af,af,Mg,Mg];show _<=16777215;lia
 have e1:af b++af l=af (b++l):=(cz _ _).symm;have step:evSs D (qv 1) [o0,O (.o .s,.lst (af b)),O (.s,rwI l)]=.nx [o0,O (.o .s,.lst (af (b++l))),O (.s,rwI l)]:=by unfold rwI;simp_all only[Tf d,e1,oF]
 obtain⟨c,e⟩:=i4 (D:=D) (o0:=o0) a (b++l) (O (.s,rwI l)) (by rw[MA];lia);refine⟨c,?_⟩;rw[NP,<- N0];exact(Tn (Fl.turn · _) step).trans e
def rwL (a:U<|U Int):T:=.lst<|a.map rwI
theorem Eg (a:U<|U Int):(a.map rwI).map (λt=>[((.s,t):W)])=a.map λl=>[((.s,rwI l):W)]:=by rw[NK];rfl
theorem wm (n:Y){a:U<|U Int}(f:a.flatten.length<90000)(d m1:Md):C (n+1) 583 [(d,.str<|q "flat"),(m1,rwL a)]=.ok ((.o .s,.tup [.lst<|af a.flatten,if decide (a.flatten.length<=200) then .str (q "") else .str<|q "far"]),[]):=by
 obtain⟨e,c⟩:=iq (D:=C n) (o0:=O (d,.str<|q "flat")) (o1:=O (.s,.lst<|a.map rwI)) (o4:=J) (o5:=J) (o6:=J) (o7:=J) a [] J (by rw[Oo];lia);rw[MU,show af []=[] from rfl] at c;have b:decide ((200:Int)<((af a.flatten).length:Int))=!decide (a.flatten.length<=200):=by rw[af,Mg,Oy];simp only[Tj,Pj,TY];lia
 rw[bJ,x_run _ _ _ rfl];unfold rwL;cases hk:decide (a.flatten.length<=200)<;>rw[hk] at b<;>simp_all only[aH,aa,qeq,Eg,c,b,N5,OT]
theorem sU (n:Y)(b:U<|U Int)(j:b.flatten.length<90000):C (n+2) 67 [(.s,.lst [rwL b])]=.ok ((.d,if decide (b.flatten.length<=200) then .non else .str<|q "far"),[]):=by
 rw[show n+2=(n+1)+1 from rfl,gP,x_run _ _ _ rfl]
 have e:∀m (i:Y),C (n+1) 34 [(m,.int i)]=.ok ((.d,if decide (i<=200) then .non else .str (q "far")),[]):=λm i=>by
  rw[fH,x_run _ _ _ rfl];have h:decide ((i:Int)<=200)=decide (i<=200):=by rw[Oy,Tj,Tj];lia
  cases hk:decide (i<=200)<;>rw[hk] at h<;>simp_all only[bX,h]
 have c:∀w:I W,aG [1] (dW (evE (C (n+1)) (.op .len L5 [.var 1]))) (b.map λl=>[((.s,rwI l):W)]) [w,J] []=.ok ([]++b.map (λl=>((.d,.int (af l).length):W)),[w,J]):=λw=>bG _ _ [] λl _=>⟨_,[w,O (.s,rwI l)],rfl,by
  unfold rwI;simp_all only[],rfl⟩
 have g:trees (b.map λl=>((.d,.int (af l).length):W))=af (b.map λl=>(l.length:Int)):=by rw[aU (λ_=>Md.d) (λl:U Int=>T.int (af l).length),af,NK];exact Po λl _=>by show T.int ((af l).length:Int)=.int (l.length:Int);rw[af,Mg]
 have sm:∀b:U (U Int),(b.map λl=>(l.length:Int)).sum=(b.flatten.length:Int):=λb=>by
  induction b with
  |nil=>rfl
  |cons a b f=>rw[ME,N7,f,NP,MA,QL]
 unfold rwL;simp_all only[bp,aa,Eg,c,MU,g,aP,sm,e]
theorem do_flat (n:Y)(a:U<|U Int)(d:a.flatten.length<90000):C (n+1) 51 [(.s,.lst [rwL a])]=.ok ((.o .s,.lst<|af a.flatten),[]):=by obtain⟨c,b⟩:=i4 (D:=C n) (o0:=O (.s,.lst [.lst<|a.map rwI])) a [] J (by rw[Oo];lia);rw[MU,show af []=[] from rfl] at b;rw[oq,x_run _ _ _ rfl];unfold rwL;simp_all only[dH,aa,Eg,b]
theorem Gv {a:U<|U Int}(b:a.flatten.length<90000):Ans "flat" [rwL a]:=by
 have c:"flat"∈["sum","sums","most","long","flat"]:=by decide
 have R:=λn=>wm n b .d .s;have W:=λn=>sU n a b;cases h:decide (a.flatten.length<=200) with
 |true=>rw[h] at R W;exact .inl ⟨_,λn pr=>⟨_,ir c<|R<|n+1⟩,λn pr=>dn1 (by decide +kernel) (by decide +kernel) (by kernel_rfl) (W<|n+1) (f:=51) (by kernel_rfl)<|do_flat (n+2) a b,ptM 2 (λk=>k) a.flatten⟩
 |false=>rw[h] at R W;exact .inr ⟨"far",λn pr=>⟨_,_,ir c<|R<|n+1⟩,λn pr=>dn2 (by decide +kernel) (by kernel_rfl)<|W<|n+1,by decide +kernel⟩
theorem gH {s:Tu}(c:s∈["join","pick","keep","cut"]){n:Y}{pr:U T}{a b:T}{m:Md}{r:T}(h:C (n+2) 569 [(.d,.str<|q s),(.s,a),(.s,b)]=.ok ((m,r),[])):C (n+3) 589 [(.s,.tup (.str (q s)::pr)),(.s,.lst [a,b])]=.ok ((m,r),[]):=by rw[show n+3=(n+2)+1 from rfl,aw,x_run _ _ _ rfl];simp only[Mm,MW,TC] at c;rcases c with rfl|rfl|rfl|rfl<;>simp_all only[ak,aa,qeq,ba,de,Mn,Mq,MC,MS,Mo,M4,My,MT,h]
theorem uz (n:Y)(m:Md)(i:Y):C (n+1) 34 [(m,.int i)]=.ok ((.d,if decide (i<=200) then .non else .str<|q "far"),[]):=by
 rw[fH,x_run _ _ _ rfl];have h:decide ((i:Int)<=200)=decide (i<=200):=by rw[Oy,Tj,Tj];lia
 cases hk:decide (i<=200)<;>rw[hk] at h<;>simp_all only[bX,h]
theorem fA (l:U Int):((af l).length:Int)=(l.length:Int):=by rw[af,Mg]
theorem tY (l:U Int):(af l).length=l.length:=by rw[af,Mg]
theorem D2 {l r:U Int}(b:l.length<=200)(c:r.length<=200):Ans "join" [rwI l,rwI r]:=by
 have fl:fits (l.length+r.length)=true:=Te (by show _<=16777215;lia);have a:decide ((200:Int)<(l.length:Int)+(r.length:Int))=!decide (l.length+r.length<=200):=by rw[Oy];simp only[Tj,Pj,TY];lia
 have e1:af l++af r=af (l++r):=(cz _ _).symm;have R:∀n,C (n+1) 569 [(.d,.str (q "join")),(.s,rwI l),(.s,rwI r)]=.ok ((.o (.o .s),.tup [rwI (l++r),if decide (l.length+r.length<=200) then .str (q "") else .str (q "far")]),[]):=λn=>by rw[aT,x_run _ _ _ rfl];unfold rwI;cases hk:decide (l.length+r.length<=200)<;>rw[hk] at a<;>simp_all only[av,aa,qeq,fA,tY,fl,e1,a,N5,OT]
 have W:∀n,C (n+2) 73 [(.s,.lst [rwI l,rwI r])]=.ok ((.d,if decide (l.length+r.length<=200) then .non else .str (q "far")),[]):=λn=>by rw[show n+2=(n+1)+1 from rfl,gL,x_run _ _ _ rfl];have e:=λm=>uz n m<|l.length+r.length;rw[QL] at e;unfold rwI;simp_all only[bw,aa,fA,e]
 have D:∀n,∃m,C (n+1) 590 [(.s,.lst [rwI l,rwI r])]=.ok ((m,rwI (l++r)),[]):=λn=>by rw[nY,x_run _ _ _ rfl];unfold rwI;refine⟨?_,?_⟩;rotate_left;simp_all only[dM,aa,tY,fl,e1];rfl
 cases h:decide (l.length+r.length<=200) with
 |true=>rw[h] at W;refine .inl ⟨_,λn pr=>⟨_,gH (by decide) (by have:=R<|n+1;rw[h] at this;exact this)⟩,λn pr=>?_,ptM 2 (λk=>k)<|l++r⟩;obtain⟨m,D⟩:=D<|n+2;exact dn1 (by decide +kernel) (by decide +kernel) (by kernel_rfl) (W<|n+1) (by kernel_rfl) D
 |false=>rw[h] at W;exact .inr ⟨"far",λn pr=>⟨_,_,gH (by decide) (by have:=R<|n+1;rw[h] at this;exact this)⟩,λn pr=>dn2 (by decide +kernel) (by kernel_rfl)<|W<|n+1,by decide +kernel⟩
noncomputable def okX (l:U Int)(i:Int):Ta:=decide (0<=i)&&decide (i<(l.length:Int))
theorem EH (l:U Int)(i:Int):Ans "pick" [rwI l,.int i]:=by
 have W:∀n,C (n+2) 72 [(.s,.lst [rwI l,.int i])]=.ok ((.d,if okX l i then .non else .str (q "beyond")),[]):=λn=>by
  rw[show n+2=(n+1)+1 from rfl,gR,x_run _ _ _ rfl]
  have e:∀m j,C (n+1) 31 [(m,.int l.length),(j,.int i)]=.ok ((.d,if okX l i then .non else .str (q "beyond")),[]):=λm j=>by
   rw[iE,x_run _ _ _ rfl];unfold okX;cases a:decide (0<=i) with
   |false=>simp_all only[aR,aa,a,Ox]
   |true=>
    cases b:decide (i<(l.length:Int)) with
    |false=>simp_all only[aR,aa,a,b]
    |true=>simp_all only[aR,aa,a,b]
  unfold rwI;simp_all only[br,aa,fA,e]
 cases h:okX l i with
 | true =>
  rw[h] at W;obtain⟨a,b⟩:=Ng.mp h;have a:=Ts a;have b:=Ts b;have c:decide (i<0)=false:=Tt (by lia);have g:decide ((l.length:Int)<=i)=false:=Tt (by lia);have hx:atI (af l) i=O (.int (l.getD i.toNat 0)):=by rw[atI,ixN,tY,Tf a,Tf<|by lia];show(af l)[i.toNat]?=_;rw[af,MO,Nm,MP<|by lia];rfl
  refine .inl ⟨_,λn pr=>⟨.d,gH (by decide) (r:=.tup [.int<|l.getD i.toNat 0,.str<|q ""]) ?_⟩,λn pr=>dn1 (by decide +kernel) (by decide +kernel) (by kernel_rfl) (W<|n+1) (f:=61) (by kernel_rfl) (mw:=.s) ?_,trivial⟩
  .rw [show n+2=(n+1)+1 from rfl,aT,x_run _ _ _ rfl];unfold rwI;simp_all only[av,aa,qeq,fA,c,g,hx]
  .rw [show n+1+2=(n+2)+1 from rfl,ot,x_run _ _ _ rfl];unfold rwI;simp_all only[dj,aa,hx]
 | false =>
  rw[h] at W;refine .inr ⟨"beyond",λn pr=>⟨.d,.int 0,gH (by decide) ?_⟩,λn pr=>dn2 (by decide +kernel) (by kernel_rfl)<|W<|n+1,by decide +kernel⟩;rw[show n+2=(n+1)+1 from rfl,aT,x_run _ _ _ rfl];unfold rwI;cases a:decide (0<=i) with
  |false=>have c:decide (i<0)=true:=Te (by have:=TB a;lia);simp_all only[av,aa,qeq,fA,c]
  |true=>have c:decide (i<0)=false:=Tt (by have:=Ts a;lia);have g:decide ((l.length:Int)<=i)=true:=Te (by rw[okX,a,Np] at h;have:=TB h;lia);simp_all only[av,aa,qeq,fA,c,g]
theorem eM {j:Type}{d:U Y}{f:Env->Res (I W×Env)}{i:Env}{g:j->U W}(o:j->I W):∀(e:U j) (a:U W),(∀x∈e,∃b c,bindT d (g x) i=O b/\f b=.ok (o x,c)/\au d c=i)->aG d f (e.map g) i a=.ok (a++e.filterMap o,i)
|[],a,_=>by rw[Oz,List.filterMap_nil,MV];rfl
|x::e,a,h=>by
 obtain⟨b,c,k,l,m⟩:=h x ML;rw[ME];show(ofO<|bindT d (g x) i).bind _=_;rw[k];show(f b).bind _=_;rw[l];show aG d f (e.map g) (au d c) (a++(o x).toList)=_;rw[m,eM o e _ λy n=>h y<|MG _ n,Oa];cases o x with
 |none=>rw[Qk,MV]
 |some w=>rw[Sh,N0];rfl
noncomputable def kpF (m:Md)(p:Int×Ta):I W:=if p.2 then O (m,.int p.1) else J
noncomputable def kpI (l:U Int)(bs:U Ta):U Int:=(l.zip bs).filterMap λp=>if p.2 then O p.1 else J
theorem CB (m:Md)(a:U<|Int×Ta):trees (a.filterMap<|kpF m)=af (a.filterMap λp=>if p.2 then O p.1 else J):=by
 induction a with
 |nil=>rfl
 |cons p a c=>
  obtain⟨i,b⟩:=p;cases b with
  |true=>exact Tn (T.int i::·) c
  |false=>exact c
theorem Km (l:U Int)(bs:U Ta):fm .s .s (af l) (bs.map T.bl)=(l.zip bs).map λp=>[((.s,.int p.1):W),(.s,.bl p.2)]:=by
 induction l generalizing bs with
 |nil=>rfl
 |cons i l a=>
  cases bs with
  |nil=>rfl
  |cons b bs=>exact Tn (_::·)<|a bs
theorem Hq {b:Type}(a:U b):(Mj a.length).map (λ(k:Y)=>[((.d,.int k):W)])=a.zipIdx.map λp=>[((.d,.int p.2):W)]:=by rw[RZ,<- List.zipIdx_map_snd 0 a,NK];rfl
theorem Ju {b c:Type}(f:b->I c)(a:U b):a.zipIdx.filterMap (λp=>f p.1)=a.filterMap f:=by
 have e:=List.zipIdx_map_fst 0 a
 calc _=(a.zipIdx.map Nt).filterMap f:=by rw[Sj];rfl
  _=_:=by rw[e]
theorem C3 {l:U Int}{bs:U Ta}{p:(Int×Ta)×Y}(h:p∈(l.zip bs).zipIdx):atI (af l) (p.2:Int)=O (.int p.1.1)/\atI (bs.map T.bl) (p.2:Int)=O (.bl p.1.2):=by obtain⟨a,b⟩:=List.getElem?_zip_eq_some.mp<|List.mem_zipIdx_iff_getElem?.mp h;exact⟨atN rfl (by rw[af,MO,a];rfl),atN rfl (by rw[MO,b];rfl)⟩
def bsT (bs:U Ta):T:=.lst<|bs.map T.bl
theorem Er (l:U Int)(bs:U Ta)(y:l.length<1000)(i:bs.length<1000):Ans "keep" [rwI l,bsT bs]:=by
 have b:((l.length:Int)==(bs.length:Int))=(l.length==bs.length):=by rw[Oy,TQ,TQ];lia
 have j:((bs.map T.bl).length:Int)=(bs.length:Int):=by rw[Mg]
 have c:∀n,C (n+2) 74 [(.s,.lst [rwI l,bsT bs])]=.ok ((.d,if l.length==bs.length then .non else .str (q "unlike")),[]):=λn=>by
  rw[show n+2=(n+1)+1 from rfl,gN,x_run _ _ _ rfl];have e:∀m t,C (n+1) 35 [(m,.int l.length),(t,.int bs.length)]=.ok ((.d,if l.length==bs.length then .non else .str (q "unlike")),[]):=λm t=>by rw[lA,x_run _ _ _ rfl];cases hk:l.length==bs.length<;>rw[hk] at b<;>simp_all only[cD,aa,b]
  unfold rwI bsT;simp_all only[bz,aa,fA,j,e]
 cases h:l.length==bs.length with
 | true =>
  rw[h] at c b;have x:(l.zip bs).length=l.length:=by rw[RI];have:=eq_of_beq h;lia
  have fr:(decide ((l.length:Int).natAbs<4611686018427387904)&&fits l.length)=true:=by rw[Te<|by lia,Np];exact Te<|by show _<=16777215;lia
  have u:=Hq<|l.zip bs;rw[x] at u;refine .inl ⟨rwI<|kpI l bs,λn pr=>⟨_,gH (by decide) (m:=?_) ?_⟩,λn pr=>dn1 (by decide +kernel) (by decide +kernel) (by kernel_rfl) (c<|n+1) (f:=62) (by kernel_rfl) (mw:=?_) ?_,ptM 2 (λk=>k)<|kpI l bs⟩
  rotate_left
  .rw [show n+2=(n+1)+1 from rfl,aT,x_run _ _ _ rfl]
   have g:∀a,aG [5] (f7 (evE (C (n+1)) (.op .ix L5 [.var 2,.var 5])) (evE (C (n+1)) (.op .ix L5 [.var 1,.var 5]))) ((l.zip bs).zipIdx.map λp=>[((.d,.int p.2):W)]) [a,O (.s,.lst (af l)),O (.s,.lst (bs.map T.bl)),J,J,J,J] []=.ok ([]++(l.zip bs).zipIdx.filterMap (λp=>kpF .s p.1),[a,O (.s,.lst (af l)),O (.s,.lst (bs.map T.bl)),J,J,J,J]):=λa=>eM _ _ [] λp hp=>⟨_,[a,O (.s,.lst<|af l),O (.s,.lst<|bs.map T.bl),J,J,O (.d,.int p.2),J],rfl,by
    obtain⟨v,r⟩:=C3 hp;unfold kpF;cases i:p.1.2<;>rw[i] at r<;>simp_all only[f7,v,r],rfl⟩
   have w:=λm=>Ju (kpF m)<|l.zip bs;unfold rwI bsT;simp_all only[av,aa,qeq,fA,j,b,QU,Ou,fr,bT,TF,u,g,w,CB,MU];rfl
  rotate_left
  .rw [show n+1+2=(n+2)+1 from rfl,oE,x_run _ _ _ rfl]
   have g:∀a,aG [1,2] (f7 (evE (C (n+2)) (.var 2)) (evE (C (n+2)) (.var 1))) ((l.zip bs).map λp=>[((.s,.int p.1):W),(.s,.bl p.2)]) [a,J,J] []=.ok ([]++(l.zip bs).filterMap (λp=>kpF .s p),[a,J,J]):=λa=>eM _ _ [] λp hp=>⟨_,[a,O (.s,.int p.1),O (.s,.bl p.2)],rfl,by
    unfold kpF;cases i:p.2<;>simp_all only[f7],rfl⟩
   unfold rwI bsT;simp_all only[dm,aa,Km,g,CB,MU];rfl
 |false=>rw[h] at c b;refine .inr ⟨"unlike",λn pr=>⟨.o<|.o .s,.lst [],gH (by decide) ?_⟩,λn pr=>dn2 (by decide +kernel) (by kernel_rfl)<|c<|n+1,by decide +kernel⟩;rw[show n+2=(n+1)+1 from rfl,aT,x_run _ _ _ rfl];unfold rwI bsT;simp_all only[av,aa,qeq,fA,j,b,Nx]
noncomputable def okC (l a:U Int):Ta:=a.all (λi=>!decide (i<0))&&(a.sum==(l.length:Int))
theorem iH:∀(a:U Y) (b:U T),rowsT a b=(Mj a.length).map λk=>.lst<|(b.drop (a.take k).sum).take<|a.getD k 0
|[],b=>rfl
| m::a,b=>by
 rw[rowsT,iH a,Mw,List.range_succ_eq_map,ME,NK];refine congr (Tn List.cons ?_) ?_
 .rw[List.take_zero,Qd,OU];rfl
 .refine Po fun k _=>?_;show T.lst (((b.drop m).drop _).take _)=.lst ((b.drop<|m+_).take _);rw[QW];rfl
def jn (a:U Int):U Y:=a.map Int.toNat
theorem pM:∀{a:U Int},a.all (λi=>!decide (i<0))=L7->natsOf (af a)=O (jn a)/\∀k,(a.take k).sum=((jn a).take k).sum
|[],_=>⟨rfl,λk=>by cases k<;>rfl⟩
| i::a,h=>by
 rw[MC,Mv] at h;obtain⟨e1,e2⟩:=pM h.2;have c:¬i<0:=by have:=h.1;simpa using this
 have b:0<=i:=by lia
 obtain⟨m,rfl⟩:=Int.eq_ofNat_of_zero_le b;refine⟨?_,λk=>?_⟩
 .show (natsOf<|af a).map _=_;rw[e1];rfl
 .cases k with
  |zero=>rfl
  |succ k=>show((m:Int)::a.take k).sum=((m::(jn a).take k).sum:Y);rw[N7,N7,e2 k];lia
theorem A6 (a:U Y)(k:Y):(a.take k).sum<=a.sum:=by have:=Tn List.sum<|PX k a;rw[QQ] at this;lia
theorem ur (a:U Y)(k:Y):(a.take<|k+1).sum=(a.take k).sum+a.getD k 0:=by
 induction a generalizing k with
 |nil=>simp
 |cons m a b=>
  cases k with
  |zero=>simp
  |succ k=>rw[Rm,Rm,N7,N7,b k,Nat.add_assoc];rfl
theorem EI (c:U T){a b:Y}(d:a+b<=c.length):cut c (O (a:Int)) (O ((a+b:Y):Int))=(c.drop a).take b:=by
 rw[cut];have e1:sIx c.length 0 (O (a:Int))=a:=by simp only[sIx];split<;>lia
 have e2:sIx c.length c.length (O ((a+b:Y):Int))=a+b:=by simp only[sIx];split<;>lia
 rw[e1,e2,Q3]
theorem BX (a:U Int)(k:Y):cut (af a) J (O (k:Int))=af (a.take k):=by
 rw[cut];have e1:sIx (af a).length 0 J=0:=rfl;have e2:sIx (af a).length (af a).length (O (k:Int))=min k (af a).length:=by simp only[sIx];split<;>lia
 rw[e1,e2,OU,QX,<- R0,af,af,Ov]
theorem Aj (a:U Int):decide ((0:Int)<((trees<|a.filterMap λi=>if decide (i<0) then O ((.s,.int i):W) else J).length:Int))=!(a.all λi=>!decide (i<0)):=by
 induction a with
 |nil=>rfl
 | cons i a b =>
  rw[Oa,MC];cases h:decide (i<0) with
  |true=>rw[N5,Ox];exact Te<|by show(0:Int)<((trees _).length+1:Y);lia
  |false=>rw[OT,Np];exact b
theorem yX (a:U Int):(a.map λi=>decide (i<0)).any id=!(a.all λi=>!decide (i<0)):=by
 induction a with
 |nil=>rfl
 |cons i a b=>rw[ME,Mn,MC,b,Bool.not_and,Bool.not_not];rfl
theorem w6 (n:Y)(l a:U Int):C (n+2) 75 [(.s,.lst [rwI l,rwI a])]=.ok ((.d,if okC l a then .non else .str<|q "unlike"),[]):=by
 rw[show n+2=(n+1)+1 from rfl,iC,x_run _ _ _ rfl]
 have e:∀m r,C (n+1) 36 [(m,.int l.length),(r,rwI a)]=.ok ((.d,if okC l a then .non else .str (q "unlike")),[]):=λm r=>by
  rw[lS,x_run _ _ _ rfl]
  have j:∀f g,aG [2] (dW (evE (C n) (.op .lt L5 [.var 2,.cst (.int 0)]))) (a.map λi=>[((.s,.int i):W)]) [f,g,J] []=.ok ([]++a.map (λi=>((.d,.bl (decide (i<0))):W)),[f,g,J]):=λf g=>bG _ _ [] λi _=>⟨_,[f,g,O (.s,.int i)],rfl,by
   simp_all only[],rfl⟩
  have k:trees (a.map λi=>((.d,.bl (decide (i<0))):W))=(a.map λi=>decide (i<0)).map T.bl:=by rw[aU (λ_=>Md.d) (λi:Int=>T.bl<|decide (i<0)),NK];rfl
  have h:∀bs:U Ta,boolsOf (bs.map T.bl)=O bs:=λbs=>by
   induction bs with
   |nil=>rfl
   |cons b bs t=>show(boolsOf<|bs.map T.bl).map _=_;rw[t];rfl
  have c:=yX a;unfold okC rwI;cases o:a.all (λi=>!decide (i<0)) with
  |false=>rw[o] at c;simp_all only[bV,aa,km,j,MU,k,h,c,OT,Ox]
  |true=>
   rw[o] at c;cases p:a.sum==(l.length:Int) with
   |false=>simp_all only[bV,aa,km,j,MU,k,h,c,N5,aP,p,Nx,Np]
   |true=>simp_all only[bV,aa,km,j,MU,k,h,c,N5,aP,p,QU,Np]
 unfold rwI at e ⊢;simp_all only[bS,aa,fA,e]
def pcT (l a:U Int)(k:Y):T:=.lst<|cut (af l) (O (a.take k).sum)<|O (a.take<|k+1).sum
theorem DK {l a:U Int}(h:okC l a=L7):natsOf (af a)=O (jn a)/\(Mj a.length).map (pcT l a)=rowsT (jn a) (af l):=by
 obtain⟨c,d⟩:=Ng.mp h;obtain⟨e1,e2⟩:=pM c;refine⟨e1,?_⟩;rw[iH,show(jn a).length=a.length from Mg ..];refine Po λk _=>?_;have e:(jn a).sum=l.length:=by have:=e2 a.length;rw[Qi,show a.length=(jn a).length from(Mg ..).symm,Qi,eq_of_beq d] at this;lia
 have b:=A6 (jn a)<|k+1;rw[ur] at b;show T.lst _=_;rw[e2 k,e2<|k+1,ur,EI _<|by rw[tY];lia]
abbrev JA:U S:=[
   .app (.q [1,2] [4]) 3 (.op .sl3 L5 [.var 1,.op .sum L5 [.op .sl2 L5 [.var 2,.var 4]],.op .sum L5 [.op .sl2 L5 [.var 2,.op .add L5 [.var 4,.cst<|.int 1]]]])]
def stC (b:I W)(l a:U Int)(p:U Y):Env:=[b,O (.s,.lst<|af l),O (.s,.lst<|af a),O (.o .s,.lst<|(Mj p.length).map<|pcT l a),p.getLast?.map λk=>((.d,.int k):W),J,J]
theorem wO {D:Call}{w0:I W}{l a:U Int}(i:l.length<1000)(j:a.length<1000):cT [4] (evSs D JA) ((Mj a.length).map λ(k:Y)=>[((.d,.int k):W)]) (stC w0 l a [])=.nx (stC w0 l a<|Mj a.length):=by
 refine qH (stC w0 l a) (Mj a.length) [] λp x r e=>?_;rw[MU] at e;have h:p.length<a.length:=by have:=Tn Qg e;rw[NZ,MA,Mw] at this;lia
 have hx:x=p.length:=by have:=Tn (λl:U Y=>l[p.length]?) e;rw[show(Mj a.length)[p.length]?=O p.length by rw[Sl h],OV<|Mi _,QS] at this;exact(MY this).symm
 subst hx;refine⟨[w0,O (.s,.lst<|af l),O (.s,.lst<|af a),O (.o .s,.lst<|(Mj p.length).map<|pcT l a),O (.d,.int p.length),J,J],rfl,?_⟩;have b:((Mj p.length).map (pcT l a)).length<LIM:=by rw[Mg,NZ];show _<16777215;lia
 have f:=BX a p.length;have c:=BX a<|p.length+1;rw[QL,show((1:Y):Int)=1 from rfl] at c;have g:stC w0 l a (p++[p.length])=[w0,O (.s,.lst (af l)),O (.s,.lst (af a)),O (.o .s,.lst ((Mj p.length).map (pcT l a)++[pcT l a p.length])),O (.d,.int p.length),J,J]:=by rw[stC,MA,NG,List.range_succ,PH,List.getLast?_concat];rfl
 rw[g];unfold pcT at b ⊢;simp_all only[f,c,aP,Tf b]
theorem JT {l a:U Int}(v:l.length<1000)(w:a.length<1000):Ans "cut" [rwI l,rwI a]:=by
 have c:=λn=>w6 n l a
 have e:∀(n:Y) (w0:I W),aG [6] (f7 (evE (C (n+1)) (.op .lt L5 [.var 6,.cst (.int 0)])) (evE (C (n+1)) (.var 6))) (a.map λi=>[((.s,.int i):W)]) [w0,O (.s,.lst (af l)),O (.s,.lst (af a)),J,J,J,J] []=.ok ([]++a.filterMap (λi=>if decide (i<0) then O ((.s,.int i):W) else J),[w0,O (.s,.lst (af l)),O (.s,.lst (af a)),J,J,J,J]):=λn w0=>eM _ _ [] λi _=>⟨_,[w0,O (.s,.lst<|af l),O (.s,.lst<|af a),J,J,J,O (.s,.int i)],rfl,by
  cases h:decide (i<0)<;>simp_all only[f7,h],rfl⟩
 have nl:=Aj a;cases h:okC l a with
 | true =>
  rw[h] at c;obtain⟨y,t⟩:=DK h;obtain⟨b,g⟩:=Ng.mp h;rw[b] at nl;have fr:(decide ((a.length:Int).natAbs<4611686018427387904)&&fits a.length)=true:=by rw[Te<|by lia,Np];exact Te<|by show _<=16777215;lia
  refine .inl ⟨.lst<|rowsT (jn a)<|af l,λn pr=>⟨_,gH (by decide) (m:=?_) ?_⟩,λn pr=>dn1 (by decide +kernel) (by decide +kernel) (by kernel_rfl) (c<|n+1) (f:=63) (by kernel_rfl) (mw:=?_) ?_,?_⟩
  rotate_left
  .rw [show n+2=(n+1)+1 from rfl,aT,x_run _ _ _ rfl];have p:=wO (D:=C<|n+1) (w0:=O (.d,.str<|q "cut")) v w;rw[<- t];generalize hk:(Mj a.length).map (pcT l a)=K;have s1:stC (O (.d,.str (q "cut"))) l a []=[O (.d,.str (q "cut")),O (.s,.lst (af l)),O (.s,.lst (af a)),O (.o .s,.lst []),J,J,J]:=rfl;have j:∃r,stC (O (.d,.str (q "cut"))) l a (Mj a.length)=[O (.d,.str (q "cut")),O (.s,.lst (af l)),O (.s,.lst (af a)),O (.o .s,.lst K),r,J,J]:=⟨_,by rw[stC,NZ,hk]⟩;obtain⟨r,j⟩:=j;rw[s1,j] at p;unfold rwI;simp_all only[av,aa,qeq,fA,km,e,MU,nl,N5,aP,g,QU,Ou,fr,bT,TF,p];rfl
  rotate_left
  .rw [show n+1+2=(n+2)+1 from rfl,rq,x_run _ _ _ rfl];unfold rwI;simp_all only[eA,aa,oj,rowsW,y];rfl
  .rw [<- t];intro u x;obtain⟨k,_,rfl⟩:=OL.mp x;show PT 2<|.lst<|((af l).drop _).take _;rw[af,<- Rz,<- Ov];exact ptM 1 (λk=>k) _
 | false =>
  rw[h] at c;refine .inr ⟨"unlike",λn pr=>⟨.o<|.o .s,.lst [],gH (by decide) ?_⟩,λn pr=>dn2 (by decide +kernel) (by kernel_rfl)<|c<|n+1,by decide +kernel⟩;rw[show n+2=(n+1)+1 from rfl,aT,x_run _ _ _ rfl];unfold rwI;cases b:a.all (λi=>!decide (i<0)) with
  |false=>rw[b] at nl;simp_all only[av,aa,qeq,fA,km,e,MU,nl,OT]
  |true=>
   have g:(a.sum==(l.length:Int))=false:=by rw[okC,b,Np] at h;exact h
   rw[b] at nl;simp_all only[av,aa,qeq,fA,km,e,MU,nl,N5,aP,g,Nx]
structure Sg (s:Tu):Prop where
 a:keys_AHEAD.contains (q s)=L5
 b:(q s==q "name")=L5
 c:keys_WAYS.contains (q s)=L5
abbrev exS (w:Tu):T:=.ins fZ [q "word",q "place",q "turns"] [.str<|q w,.tup [],.tup []]
theorem CH (m:Md)(w:Str):([((m,T.str w):W),(.s,.tup []),(lfM<|.tup [],.tup [])].all shW&&decide ([q "word",q "place",q "turns"].length=[((m,T.str w):W),(.s,.tup []),(lfM<|.tup [],.tup [])].length))=true:=by cases m<;>rfl
theorem GA {s x:Tu}{a v:T}{e:EN}(S:Sg s)(h:e.lookup (q x)=O a)(d:Ok1 s [a] v)(n:Y):∃md,∀f m1 g,C (n+5) 576 [(f,.tup [.str<|q s,nmT<|q x]),(m1,.tup []),(g,aE e [] [])]=.ok ((md,v),[]):=by have e1:=λm=>lx (n+2) (s:=q s) [nmT<|q x] S.a m;have k:fits (([]:U T).length+[T.int ((0:Y):Int)].length)=true:=rfl;have i:∀f m1 g,C (n+4) 576 [(f,nmT (q x)),(m1,.tup [.int ((0:Y):Int)]),(g,aE e [] [])]=.ok ((.s,a),[]):=λf m1 g=>eI h (n+3) [.int ((0:Y):Int)] [] [] f m1 g;obtain⟨m,j⟩:=d.done n [nmT<|q x];cases m<;>(refine⟨?_,λf m1 g=>?_⟩;rotate_left;rw[show n+5=(n+4)+1 from rfl,cF,x_run _ _ _ rfl];simp_all only[aS,S.b,S.c,aa,Nx,e1,eV,aG,Pc,k,i,j,nG,nN,ab,yi,j7];rfl)
theorem Gj {s x y:Tu}{a b v:T}{e:EN}(S:Sg s)(h:e.lookup (q x)=O a)(p:e.lookup (q y)=O b)(d:Ok1 s [a,b] v)(n:Y):∃md,∀f m1 g,C (n+5) 576 [(f,.tup [.str<|q s,nmT<|q x,nmT<|q y]),(m1,.tup []),(g,aE e [] [])]=.ok ((md,v),[]):=by have e1:=λm=>lx (n+2) (s:=q s) [nmT<|q x,nmT<|q y] S.a m;have o:∀i:Int,fits (([]:U T).length+[T.int i].length)=true:=λ_=>rfl;have j:∀f m1 g,C (n+4) 576 [(f,nmT (q x)),(m1,.tup [.int ((0:Y):Int)]),(g,aE e [] [])]=.ok ((.s,a),[]):=λf m1 g=>eI h (n+3) [.int ((0:Y):Int)] [] [] f m1 g;have k:∀f m1 g,C (n+4) 576 [(f,nmT (q y)),(m1,.tup [.int ((0+1:Y):Int)]),(g,aE e [] [])]=.ok ((.s,b),[]):=λf m1 g=>eI p (n+3) [.int ((0+1:Y):Int)] [] [] f m1 g;obtain⟨m,l⟩:=d.done n [nmT<|q x,nmT<|q y];cases m<;>(refine⟨?_,λf m1 g=>?_⟩;rotate_left;rw[show n+5=(n+4)+1 from rfl,cF,x_run _ _ _ rfl];simp_all only[aS,S.b,S.c,aa,Nx,e1,eV,aG,Pc,o,j,k,l,nG,nN,ab,yi,j7];rfl)
theorem EY {s x:Tu}{a:T}{w:Tu}{e:EN}(S:Sg s)(h:e.lookup (q x)=O a)(d:St1 s [a] w)(n:Y):∀f m1 g,C (n+5) 576 [(f,.tup [.str<|q s,nmT<|q x]),(m1,.tup []),(g,aE e [] [])]=.ex (exS w):=by have e1:=λm=>lx (n+2) (s:=q s) [nmT<|q x] S.a m;have k:fits (([]:U T).length+[T.int ((0:Y):Int)].length)=true:=rfl;have i:∀f m1 g,C (n+4) 576 [(f,nmT (q x)),(m1,.tup [.int ((0:Y):Int)]),(g,aE e [] [])]=.ok ((.s,a),[]):=λf m1 g=>eI h (n+3) [.int ((0:Y):Int)] [] [] f m1 g;obtain⟨m,j⟩:=d.done n [nmT<|q x];intro f m1 g;rw[show n+5=(n+4)+1 from rfl,cF,x_run _ _ _ rfl];cases m<;>(skip;simp_all only[aS,S.b,S.c,aa,Nx,e1,eV,aG,Pc,k,i,j,nG,nN,ab,at_,yi,j7,Tf<|CH _ _];rfl)
theorem Fh {s x y:Tu}{a b:T}{w:Tu}{e:EN}(S:Sg s)(h:e.lookup (q x)=O a)(p:e.lookup (q y)=O b)(d:St1 s [a,b] w)(n:Y):∀f m1 g,C (n+5) 576 [(f,.tup [.str<|q s,nmT<|q x,nmT<|q y]),(m1,.tup []),(g,aE e [] [])]=.ex (exS w):=by have e1:=λm=>lx (n+2) (s:=q s) [nmT<|q x,nmT<|q y] S.a m;have o:∀i:Int,fits (([]:U T).length+[T.int i].length)=true:=λ_=>rfl;have j:∀f m1 g,C (n+4) 576 [(f,nmT (q x)),(m1,.tup [.int ((0:Y):Int)]),(g,aE e [] [])]=.ok ((.s,a),[]):=λf m1 g=>eI h (n+3) [.int ((0:Y):Int)] [] [] f m1 g;have k:∀f m1 g,C (n+4) 576 [(f,nmT (q y)),(m1,.tup [.int ((0+1:Y):Int)]),(g,aE e [] [])]=.ok ((.s,b),[]):=λf m1 g=>eI p (n+3) [.int ((0+1:Y):Int)] [] [] f m1 g;obtain⟨m,l⟩:=d.done n [nmT<|q x,nmT<|q y];intro f m1 g;rw[show n+5=(n+4)+1 from rfl,cF,x_run _ _ _ rfl];cases m<;>(skip;simp_all only[aS,S.b,S.c,aa,Nx,e1,eV,aG,Pc,o,j,k,l,nG,nN,ab,at_,yi,j7,Tf<|CH _ _];rfl)
abbrev stR (b m1 c:Md)(a:U T)(t:T)(f:U T)(o3 d e:I W):Env:=[O (b,.tup [.tup a,t]),O (m1,.lst f),O (c,.non),o3,d,e,J,J]
abbrev Kz:U S:=[.setS (.q [4,5] []) 3 (.op .ix L5 [.var 4,.cst<|.int 0])<|.var 5]
theorem setR (b:Y){hs ws:U T}{t a k:T}{x:Str}{m m2:Md}{e:EN}{o3:T}(c:∀m1 m2,dG (m,o3) (m1,.str x) (m2,a)=O (.o .s,dE<|e++[(x,a)])):evSs (C b) Kz (stR .s .s m2 hs t ws (O (m,o3)) (O (.s,.tup [.str x,k]))<|O (.s,a))=.nx (stR .s .s m2 hs t ws (O (.o .s,dE<|e++[(x,a)])) (O (.s,.tup [.str x,k]))<|O (.s,a)):=by unfold stR;rcases oJ a with hm|hm<;>simp_all only[aa,hm,c]
theorem Ci (c:Y)(x:Str)(k a t:T)(f m1 m2:Md):∃l n,evSs (C c) f_reading.body (stR f m1 m2 [.tup [.str x,k]] t [a] J J J)=evSs (C c) (f_reading.body.drop 2) (stR .s .s m2 [.tup [.str x,k]] t [a] (O (.o .s,dE [(x,a)])) l n):=by
 have g:∀m1 m2,dG (.d,.dct [] []) (m1,.str x) (m2,a)=O (.o .s,dE ([]++[(x,a)])):=λm1 m2=>ny (m:=.d) (e:=[]) (x:=x) (k:=a) (by decide) rfl (by decide) m1 m2;have i:evSs (C c) (Bk f_reading 0 1) (stR f m1 m2 [.tup [.str x,k]] t [a] J J J)=.nx (stR f m1 m2 [.tup [.str x,k]] t [a] (O (.d,.dct [] [])) J J):=by kernel_rfl
 have s1:evL (C c) [.op .ix L5 [.var 0,.cst (.int 0)],.var 1] (pick [0,1] [] (stR f m1 m2 [.tup [.str x,k]] t [a] (O (.d,.dct [] [])) J J))=.ok ([(.s,.tup [.tup [.str x,k]]),(.s,.lst [a])],pick [0,1] [] (stR f m1 m2 [.tup [.str x,k]] t [a] (O (.d,.dct [] [])) J J)):=by unfold stR;simp_all only[aa]
 have h:=setR c (hs:=[.tup [.str x,k]]) (ws:=[a]) (t:=t) (k:=k) (m2:=m2) (e:=[]) (m:=.d) g;have p:=(qh (tg:=[4,5]) (ws:=[((.s,.tup [.str x,k]):W),(.s,a)]) (r:=[]) (η:=stR .s .s m2 [.tup [.str x,k]] t [a] (O (.d,.dct [] [])) J J) rfl h).trans<|wX _ _ _;have j:=CN (vs:=[0,1]) (r:=[]) s1 (show turns .zip [(.s,.tup [.tup [.str x,k]]),(.s,.lst [a])]=O _ from rfl) p;exact⟨_,_,(go1 (b:=Bk f_reading 1 1++f_reading.body.drop 2) i).trans<|go1 j⟩
theorem BI (c:Y)(x y:Str)(f:([(x,T.non)]:EN).lookup y=J)(k l a b t:T)(g m1 m2:Md):∃z A,evSs (C c) f_reading.body (stR g m1 m2 [.tup [.str x,k],.tup [.str y,l]] t [a,b] J J J)=evSs (C c) (f_reading.body.drop 2) (stR .s .s m2 [.tup [.str x,k],.tup [.str y,l]] t [a,b] (O (.o .s,dE [(x,a),(y,b)])) z A):=by
 have i:([(x,a)]:EN).lookup y=none:=by
  rw[M5] at f ⊢;cases h:y==x with
  |true=>rw[h] at f;cases f
  |false=>rfl
 have j:∀m1 m2,dG (.d,.dct [] []) (m1,.str x) (m2,a)=O (.o .s,dE ([]++[(x,a)])):=λm1 m2=>ny (m:=.d) (e:=[]) (x:=x) (k:=a) (by decide) rfl (by decide) m1 m2;have n:∀m1 m2,dG (.o .s,dE [(x,a)]) (m1,.str y) (m2,b)=O (.o .s,dE ([(x,a)]++[(y,b)])):=λm1 m2=>ny (m:=.o .s) (e:=[(x,a)]) (x:=y) (k:=b) (by decide) i (by show 1<=100;lia) m1 m2;have v:evSs (C c) (Bk f_reading 0 1) (stR g m1 m2 [.tup [.str x,k],.tup [.str y,l]] t [a,b] J J J)=.nx (stR g m1 m2 [.tup [.str x,k],.tup [.str y,l]] t [a,b] (O (.d,.dct [] [])) J J):=by kernel_rfl
 have s1:evL (C c) [.op .ix L5 [.var 0,.cst (.int 0)],.var 1] (pick [0,1] [] (stR g m1 m2 [.tup [.str x,k],.tup [.str y,l]] t [a,b] (O (.d,.dct [] [])) J J))=.ok ([(.s,.tup [.tup [.str x,k],.tup [.str y,l]]),(.s,.lst [a,b])],pick [0,1] [] (stR g m1 m2 [.tup [.str x,k],.tup [.str y,l]] t [a,b] (O (.d,.dct [] [])) J J)):=by unfold stR;simp_all only[aa]
 have p:=setR c (hs:=[.tup [.str x,k],.tup [.str y,l]]) (ws:=[a,b]) (t:=t) (k:=k) (m2:=m2) (e:=[]) (m:=.d) j;have u:=setR c (hs:=[.tup [.str x,k],.tup [.str y,l]]) (ws:=[a,b]) (t:=t) (k:=l) (m2:=m2) (e:=[(x,a)]) (m:=.o .s) n;have B:=(qh (tg:=[4,5]) (ws:=[((.s,.tup [.str x,k]):W),(.s,a)]) (r:=[[(.s,.tup [.str y,l]),(.s,b)]]) (η:=stR .s .s m2 [.tup [.str x,k],.tup [.str y,l]] t [a,b] (O (.d,.dct [] [])) J J) rfl p).trans<|(qh rfl u).trans<|wX _ _ _;have w:=CN (vs:=[0,1]) (r:=[]) s1 (show turns .zip [(.s,.tup [.tup [.str x,k],.tup [.str y,l]]),(.s,.lst [a,b])]=O _ from rfl) B;exact⟨_,_,(go1 (b:=Bk f_reading 1 1++f_reading.body.drop 2) v).trans<|go1 w⟩
theorem CQ {a:Y}{f g:U T}{t v:T}{e:EN}{md c m1 b:Md}{l m:I W}(go:evSs (C a) f_reading.body (stR c m1 b f t g J J J)=evSs (C a) (f_reading.body.drop 2) (stR .s .s b f t g (O (.o .s,dE e)) l m))(i:∀c m1 b,C a 576 [(c,t),(m1,.tup []),(b,aE e [] [])]=.ok ((md,v),[])):∃k,C (a+1) 585 [(c,.tup [.tup f,t]),(m1,.lst g),(b,.non)]=.ok ((k,.tup [.str<|q "is",v]),[]):=by have h:decide (aN.length=[((.s,dE e):W),(.d,.tup []),(.d,.tup []),(.s,.non)].length+([]:U Int).length)=true:=rfl;rw[iV,x_run _ _ _ rfl];cases j:lf md v<;>exact⟨_,(Tn (Fl.out []) go).trans<|by unfold stR;simp_all only[f_reading,Sk,OU,aa,i,h,CF,j7,j];rfl⟩
theorem BO {a:Y}{f g:U T}{t:T}{w:Tu}{e:EN}{c m1 b:Md}{k l:I W}(go:evSs (C a) f_reading.body (stR c m1 b f t g J J J)=evSs (C a) (f_reading.body.drop 2) (stR .s .s b f t g (O (.o .s,dE e)) k l))(i:∀c m1 b,C a 576 [(c,t),(m1,.tup []),(b,aE e [] [])]=.ex (exS w)):∃j,C (a+1) 585 [(c,.tup [.tup f,t]),(m1,.lst g),(b,.non)]=.ok ((j,.tup [.str<|q "stops",.str<|q w,.tup [],.tup []]),[]):=by have h:decide (aN.length=[((.s,dE e):W),(.d,.tup []),(.d,.tup []),(.s,.non)].length+([]:U Int).length)=true:=rfl;rw[iV,x_run _ _ _ rfl];exact⟨_,(Tn (Fl.out []) go).trans<|by unfold stR;simp_all only[f_reading,Sk,OU,aa,i,h,CF,j7];rfl⟩
theorem F8 {n:Y}{t e:T}{a:U T}{c m1:Md}(h:∀g,∃b,C (n+19) 585 [(c,t),(m1,e),(g,.non)]=.ok ((b,.tup a),[]))(f:dp (.tup a)<=10):C (n+20) 586 [(c,t),(m1,e)]=.ok ((.d,.tup a),[]):=by obtain⟨b,e1⟩:=h .d;have e2:=KJ 10 (.tup a) (n+8) b f (by decide);have e3:cm b (.tup a)=.d:=rfl;rw[e3,show n+8+10+1=n+19 by lia] at e2;rw[show n+20=(n+19)+1 from rfl,Ba,x_run _ _ _ rfl];rcases vQ c t with h0|h0<;>rcases vQ m1 e with h1|h1<;>simp_all only[ib,h0,h1,e1,e2]
noncomputable def numL:U Int:=[0,1,-1,1000000000000000000,0-1000000000000000000,1000000000000000000-1,1-1000000000000000000,5 * 100000000000000000,2,-3,1000000000,60,200]++[201,199,-7]
def bN (c:Int):Int:=if c % 5==0 then c / 5 % 2000000000000000001-1000000000000000000 else numL.getD (c / 5 % 16).toNat 0
theorem vb (c:Int):(bN c).natAbs<=1000000000000000000:=by
 unfold bN;split
 .lia
 .have h:∀ k:Y,k<16->(numL.getD k 0).natAbs<=1000000000000000000:=by decide
  exact h _<|by lia
theorem p17:oSem .pow L5 [(.d,.int 10),(.d,.int 17)]=O (.d,.int 100000000000000000):=rfl
theorem p9:oSem .pow L5 [(.d,.int 10),(.d,.int 9)]=O (.d,.int 1000000000):=rfl
def mdN (c:Int):Md:=if c % 5==0 then .d else .s
theorem qk (n:Y)(m:Md)(c:Int):C (n+1) 571 [(m,.int c)]=.ok ((mdN c,.int<|bN c),[]):=by
 have a:decide ((2:Int).natAbs<18446744073709551616)=true:=rfl;have b:decide ((5:Int).natAbs<18446744073709551616)=true:=rfl;have e:decide ((0:Int)<5)=true:=rfl;have f:decide ((5:Int)<1073741824)=true:=rfl;have g:decide ((0:Int)<2 * 1000000000000000000+1)=true:=rfl;have i:decide ((0:Int)<16)=true:=rfl;have d:fits ([T.int 0,T.int 1,T.int (-1),T.int 1000000000000000000,T.int (0-1000000000000000000),T.int (1000000000000000000-1),T.int (1-1000000000000000000),T.int (5 * 100000000000000000),T.int 2,T.int (-3),T.int 1000000000,T.int 60,T.int 200].length+[T.int 201,T.int 199,T.int (-7)].length)=true:=rfl;rw[jq,x_run _ _ _ rfl];unfold bN mdN;cases h:c % 5==0 with
 |true=>
  simp_all only[bD,aa,p18,p17,p9,a,b,MT,Tf d,e,f,g,i,OS,TF,bT,h]
  try rfl
 | false =>
  have hx:atI (numL.map T.int) (c / 5 % 16)=O (.int (numL.getD (c / 5 % 16).toNat 0)):=by
   have k:0<=c / 5 % 16:=by lia
   have j:(c / 5 % 16).toNat<numL.length:=by show _<16;lia
   refine atN (n:=(c / 5 % 16).toNat) (by lia) ?_;rw[MO,Nm,MP j];rfl
  rw[show numL.map T.int=[T.int 0,T.int 1,T.int (-1),T.int 1000000000000000000,T.int<|0-1000000000000000000,T.int<|1000000000000000000-1,T.int<|1-1000000000000000000,T.int<|5 * 100000000000000000,T.int 2,T.int (-3),T.int 1000000000,T.int 60,T.int 200]++[T.int 201,T.int 199,T.int (-7)] from rfl] at hx;simp only[Ss,MU] at hx;simp_all only[bD,aa,p18,p17,p9,a,b,MT,Tf d,e,f,g,i,OS,TF,bT,h,hx]
  try rfl
noncomputable def manyL:U Y:=[0,1,2,3,5,100,199,200]
def ck (c:Int):Y:=manyL.getD (c % 8).toNat 0
def nC (c:Int):Ta:=decide (ck c<9)
def elC (c:Int)(k:Y):Int:=if nC c then bN (c / 8+7 * k) else(c+k * k) % 11
def bh (c:Int):U Int:=(Mj<|ck c).map<|elC c
theorem mm (c:Int):ck c∈manyL:=by
 have h:∀k:Y,k<8->manyL.getD k 0∈manyL:=by decide
 exact h _<|by lia
theorem fK (c:Int):(bh c).length=ck c:=by rw[bh,Mg,NZ]
theorem gY (c:Int):ck c<=200:=by
 have h:∀k∈manyL,k<=200:=by decide
 exact h _<|mm c
theorem vT (c:Int):Srt (bh c):=by
 cases h:nC c with
 |true=>exact .inl (by rw[fK];have:=Ts h;lia)
 | false =>
  refine .inr<|Ot.mpr ⟨(c % 11).toNat,NX.mpr<|by lia,Ot.mpr ⟨ck c,?_,?_⟩⟩
  .have a:=TB h;have b:∀k∈manyL,¬k<9->k∈[100,199,200]:=by decide
   exact b _ (mm c) a
  .rw [bh,TQ,lngRow];refine Po λk _=>?_;unfold elC;rw[h];show(c+(k:Int) * k) % 11=_;have e:((c % 11).toNat:Int)=c % 11:=by lia
   first|lia|(rw[Int.emod_def];lia)|(push_cast;rw[e];simp[Int.add_emod])
theorem zV (c:Int):atI (manyL.map λk:Y=>T.int k) (c % 8)=O (.int<|ck c):=by
 have a:(c % 8).toNat<manyL.length:=by show _<8;lia
 refine atN (n:=(c % 8).toNat) (by lia) ?_;rw[MO,ck,Nm,MP a];rfl
theorem xE (n:Y)(m:Md)(c:Int):C (n+2) 572 [(m,.int c)]=.ok ((.o .s,rwI<|bh c),[]):=by
 have hx:=zV c;rw[show(manyL.map λk:Y=>T.int k)=[T.int 0,.int 1,.int 2,.int 3,.int 5,.int 100,.int 199,.int 200] from rfl] at hx;have f:decide ((0:Int)<8)=true:=rfl;have j:decide ((8:Int)<1073741824)=true:=rfl;have l:decide ((0:Int)<11)=true:=rfl;have t:=gY c;have fr:(decide (((ck c:Y):Int).natAbs<4611686018427387904)&&fits (ck c))=true:=by rw[Te<|by lia,Np];exact Te<|by show _<=16777215;lia
 have b:decide (((ck c:Y):Int)<9)=nC c:=by rw[nC,Oy,Tj,Tj];lia
 have e:=λm x=>qk n m x;have r:(.d:Md)=.d:=rfl
 have h:∀m,aG [2] (dW (evE (C (n+1)) (.ifx (.op .lt L5 [.var 1,.cst (.int 9)]) (.call 571 [.op .add L5 [.op .fdiv L5 [.var 0,.cst (.int 8)],.op .mul L5 [.cst (.int 7),.var 2]]]) (.op .mod L5 [.op .add L5 [.var 0,.op .mul L5 [.var 2,.var 2]],.cst (.int 11)])))) ((Mj (ck c)).map λ(k:Y)=>[((.d,.int k):W)]) [O (m,.int c),O (.d,.int (ck c)),J] []=.ok ([]++(Mj (ck c)).map (λk:Y=>(((if nC c then mdN (c / 8+7 * k) else .d),.int (elC c k)):W)),[O (m,.int c),O (.d,.int (ck c)),J]):=λm=>bG _ _ [] λk hk=>⟨_,[O (m,.int c),O (.d,.int<|ck c),O (.d,.int k)],rfl,by
  have hk:=NX.mp hk;have g:decide ((7:Int).natAbs<18446744073709551616)=true:=rfl;have bk:decide ((k:Int).natAbs<18446744073709551616)=true:=Te (by lia);unfold elC;cases i:nC c<;>rw[i] at b<;>simp_all only[b,f,j,l,g,bk,MT,OS,TF,bT,e],rfl⟩
 have p:=aU (λk:Y=>if nC c then mdN (c / 8+7 * k) else .d) (λk=>T.int<|elC c k)<|Mj<|ck c;have a:(Mj (ck c)).map (λk=>T.int (elC c k))=af (bh c):=by rw[af,bh,NK];rfl
 rw[i7,x_run _ _ _ rfl];unfold rwI;simp_all only[bL,aa,f,TF,bT,hx,Ou,fr,h,MU,p,a]
noncomputable def stepL:U Int:=[0,0,0,1,-1]
def stB (l:U Int)(r:Int):Int:=(l.length:Int)+stepL.getD (r / 8 % 5).toNat 0
def nP (l:U Int)(r:Int):Int:=if stB l r>0 then stB l r else 0
def cV (l:U Int)(r:Int):Int:=if nP l r<200 then nP l r else 200
theorem uC (l:U Int)(r:Int):0<=cV l r/\cV l r<=200:=by
 unfold cV;have h:0<=nP l r:=by unfold nP;split<;>lia
 split<;>lia
def trB (l:U Int)(r:Int):U Ta:=(Mj (cV l r).toNat).map λk:Y=>(r+(k:Int) * k) % 3==0
noncomputable def fu (l:U Int)(r:Int):U Int:=[(l.length:Int) / 2,0,(l.length:Int)-(l.length:Int) / 2,0].take (4-r / 8 % 2).toNat
def lnB (l:U Int)(r:Int):U Int:=[fu l r,fu l r++[r / 16 % 3-1],[-1,(l.length:Int)+1],[],[(l.length:Int)]].getD (r / 48 % 5).toNat []
noncomputable def rwB (l:U Int)(r:Int):U (U Int):=[l.take 100,[],l.take (r / 8 % 120).toNat,l.take 3,[4]].take (r / 8 % 6).toNat
theorem pO (l:U Int)(r:Int):(fu l r).length<=4:=by rw[fu,NO];exact Sy _ _
theorem AH (l:U Int)(r:Int):(lnB l r).length<=5:=by
 have h:=pO l r;unfold lnB;obtain e|e|e|e|e:(r / 48 % 5).toNat=0\/(r / 48 % 5).toNat=1\/(r / 48 % 5).toNat=2\/(r / 48 % 5).toNat=3\/(r / 48 % 5).toNat=4:=by lia
 all_goals rw[e]
 .show(fu l r).length<=5;lia
 .show(fu l r++_).length<=5;rw[MA,NG];lia
 .show 2<=5;lia
 .show 0<=5;lia
 .show 1<=5;lia
theorem BB (l:U Int)(r:Int):(trB l r).length<=200:=by rw[trB,Mg,NZ];have:=uC l r;lia
theorem zp (l:U Int)(r:Int)(b:l.length<=200):(rwB l r).flatten.length<=1000:=by
 have h:∀(n:Y) (a:U (U Int)),(a.take n).flatten.length<=a.flatten.length:=λn a=>by have:=Tn Qg<|Tn List.flatten<|PX n a;rw[List.flatten_append,MA] at this;lia
 refine Mt (h _ _) ?_;simp only[NP,Rp,MA,Oo,NO,NG,Mw];lia
theorem eY {a:Type}{xs:U a}{f:a->T}{i:Int}{d:a}(c:0<=i)(h:i<(xs.length:Int)):atI (xs.map f) i=O (f<|xs.getD i.toNat d):=by
 have b:i.toNat<xs.length:=by lia
 refine atN (n:=i.toNat) (by lia) ?_;rw[MO,Nm,MP b];rfl
theorem mZ (a:U T){i:Int}(h:0<=i):cut a J (O i)=a.take i.toNat:=by
 rw[cut];have e1:sIx a.length 0 J=0:=rfl;have e2:sIx a.length a.length (O i)=min i.toNat a.length:=by simp only[sIx];split<;>lia
 rw[e1,e2,OU,QX,<- R0]
theorem og (n:Y){l:U Int}(hl:l.length<=200)(r:Int):C (n+1) 573 [(.s,rwI l),(.d,.int r)]=.ok ((.o .s,.tup [bsT<|trB l r,rwI<|lnB l r,rwL<|rwB l r]),[]):=by
 have y:decide ((0:Int)<8)=true:=rfl;have A:decide ((8:Int)<1073741824)=true:=rfl;have B:decide ((0:Int)<5)=true:=rfl;have h:decide ((0:Int)<3)=true:=rfl;have D:decide ((0:Int)<2)=true:=rfl;have F:decide ((2:Int)<1073741824)=true:=rfl;have G:decide ((0:Int)<16)=true:=rfl;have H:decide ((16:Int)<1073741824)=true:=rfl;have M:decide ((0:Int)<120)=true:=rfl;have N:decide ((0:Int)<6)=true:=rfl;have P:decide ((0:Int)<48)=true:=rfl;have Q:decide ((48:Int)<1073741824)=true:=rfl;have x1:atI [T.int 0,.int 0,.int 0,.int 1,.int (-1)] (r / 8 % 5)=O (.int (stepL.getD (r / 8 % 5).toNat 0)):=eY (xs:=stepL) (f:=T.int) (by lia) (by show _<(5:Int);lia);have mb:=uC l r;have fr:(decide ((cV l r).natAbs<4611686018427387904)&&fits (cV l r).toNat)=true:=by rw[Te<|by lia,Np];exact Te<|by show _<=16777215;lia
 have xs:(if stB l r>0 then stB l r else 0)=nP l r:=rfl;have xm:(if nP l r<200 then nP l r else 200)=cV l r:=rfl;have e:(l.length:Int)+stepL.getD (r / 8 % 5).toNat 0=stB l r:=rfl;have g:=mZ (T.int ((l.length:Int) / 2)::T.int 0::T.int ((l.length:Int)-(l.length:Int) / 2)::T.int 0::[]) (i:=4-r / 8 % 2) (by lia);have b:(T.int ((l.length:Int) / 2)::T.int 0::T.int ((l.length:Int)-(l.length:Int) / 2)::T.int 0::[]).take (4-r / 8 % 2).toNat=af (fu l r):=by rw[fu,af,Ov];rfl
 rw[b] at g
 have v:∀m a,aG [7] (dW (evE (C n) (.op .eq L5 [.op .mod L5 [.op .add L5 [.var 1,.op .mul L5 [.var 7,.var 7]],.cst (.int 3)],.cst (.int 0)]))) ((Mj (cV l r).toNat).map λ(k:Y)=>[((.d,.int k):W)]) [J,O (m,.int r),O (a,.int (cV l r)),J,J,J,J,J] []=.ok ([]++(Mj (cV l r).toNat).map (λk:Y=>((.d,.bl ((r+(k:Int) * k) % 3==0)):W)),[J,O (m,.int r),O (a,.int (cV l r)),J,J,J,J,J]):=λm a=>bG _ _ [] λk hk=>⟨_,[J,O (m,.int r),O (a,.int<|cV l r),J,J,J,J,O (.d,.int k)],rfl,by
  have hk:=NX.mp hk;have bk:decide ((k:Int).natAbs<18446744073709551616)=true:=Te (by lia);simp_all only[h,bk,MT,OS,TF,bT],rfl⟩
 have Z:=aU (λk:Y=>Md.d) (λk:Y=>T.bl<|(r+(k:Int) * k) % 3==0)<|Mj (cV l r).toNat;have c:(Mj (cV l r).toNat).map (λk:Y=>T.bl ((r+(k:Int) * k) % 3==0))=(trB l r).map T.bl:=by rw[trB,NK];rfl
 have x:∀z:Int,fits ((af (fu l r)).length+[T.int z].length)=true:=λz=>Te (by rw[tY];have:=pO l r;show _+1<=16777215;lia);have w:∀z:Int,af (fu l r)++[T.int z]=af (fu l r++[z]):=λz=>(cz _ [z]).symm;have j:cut (af l) J (O 100)=af (l.take 100):=by rw[mZ _<|by decide,af,af,Ov];rfl
 have p:cut (af l) J (O (r / 8 % 120))=af (l.take (r / 8 % 120).toNat):=by rw[mZ _<|by lia,af,af,Ov]
 have t:cut (af l) J (O 3)=af (l.take 3):=by rw[mZ _<|by decide,af,af,Ov];rfl
 have u:cut [T.lst (af (l.take 100)),.lst [],.lst (af (l.take (r / 8 % 120).toNat)),.lst (af (l.take 3)),.lst [.int 4]] J (O (r / 8 % 6))=(rwB l r).map rwI:=by rw[mZ _<|by lia,rwB,Ov];rfl
 have x2:atI [T.lst (af (fu l r)),.lst (af (fu l r++[r / 16 % 3-1])),.lst [.int (-1),.int ((l.length:Int)+1)],.lst [],.lst [.int (l.length:Int)]] (r / 48 % 5)=O (.lst (af (lnB l r))):=eY (xs:=[fu l r,fu l r++[r / 16 % 3-1],[-1,(l.length:Int)+1],[],[(l.length:Int)]]) (f:=rwI) (by lia) (by show _<(5:Int);lia);rw[jr,x_run _ _ _ rfl];unfold rwI;simp_all only[b6,aa,fA,y,A,B,h,D,F,G,H,M,N,P,Q,OS,TF,bT,x1,e,xs,xm,fr,v,MU,Z,c,g,Tf<|x _,w,j,p,t,u,x2];rfl
abbrev dR:T:=.tup [.str<|q "num"]
abbrev eS:T:=.tup [.str<|q "row",.tup [.str<|q "num"]]
abbrev trK:T:=.tup [.str<|q "truth"]
def JO (r:Int):Int:=if decide (0<r % 3) then r / 80 % 7-3 else bN<|r / 80
def xR (r:Int):Int:=[bN<|r / 80,0,r / 80 % 9-4].getD (r % 3).toNat 0
def DP (r:Int):Int:=[bN<|r / 80,bN r].getD (r % 2).toNat 0
def smC (r:Int):Int:=[bN r,r / 3 % 204-2].getD (r % 2).toNat 0
def pkC (r:Int):Int:=[r / 8 % ((bh r).length+2)-1,((bh r).length:Int),bN r].getD (r % 3).toNat 0
structure Cs where
 s:Tu
 ks:U T
 ws:U T
def Cs.t (c:Cs):T:=.tup [.str<|q c.s,.lst c.ks,.lst c.ws]
def eW (r:Int):U Cs:=[
 ⟨"add",[dR,dR],[.int<|bN r,.int<|bN<|r / 80]⟩,
 ⟨"sub",[dR,dR],[.int<|bN r,.int<|bN<|r / 80]⟩,
 ⟨"mul",[dR,dR],[.int<|bN r,.int<|JO r]⟩,
 ⟨"div",[dR,dR],[.int<|bN r,.int<|xR r]⟩,
 ⟨"rest",[dR,dR],[.int<|bN r,.int<|xR r]⟩,
 ⟨"less",[dR,dR],[.int<|bN r,.int<|DP r]⟩,
 ⟨"same",[dR,dR],[.int<|bN r,.int<|DP r]⟩,
 ⟨"same",[trK,trK],[.bl<|r % 2==0,.bl<|r / 2 % 2==0]⟩,
 ⟨"both",[trK,trK],[.bl<|r % 2==0,.bl<|r / 2 % 2==0]⟩,
 ⟨"pair",[eS,trK],[rwI<|bh r,.bl<|r % 2==0]⟩,
 ⟨"pick",[eS,dR],[rwI<|bh r,.int<|pkC r]⟩,
 ⟨"join",[eS,eS],[rwI<|bh r,rwI<|bh<|r / 8]⟩,
 ⟨"keep",[eS,.tup [.str<|q "row",trK]],[rwI<|bh r,bsT<|trB (bh r) r]⟩,
 ⟨"cut",[eS,eS],[rwI<|bh r,rwI<|lnB (bh r) r]⟩,
 ⟨"not",[trK],[.bl<|r % 2==0]⟩,
 ⟨"first",[.tup [.str<|q "pair",dR,eS]],[.tup [.int<|bN r,rwI<|bh r]]⟩,
 ⟨"second",[.tup [.str<|q "pair",dR,eS]],[.tup [.int<|bN r,rwI<|bh r]]⟩,
 ⟨"one",[eS],[rwI<|bh r]⟩,
 ⟨"upto",[dR],[.int<|smC r]⟩,
 ⟨"long",[.tup [.str<|q "row",eS]],[rwL<|rwB (bh r) r]⟩,
 ⟨"sum",[eS],[rwI<|bh r]⟩,
 ⟨"sums",[eS],[rwI<|bh r]⟩,
 ⟨"most",[eS],[rwI<|bh r]⟩,
 ⟨"flat",[.tup [.str<|q "row",eS]],[rwL<|rwB (bh r) r]⟩]
theorem xD (n:Y)(c:Int):C (n+3) 574 [(.d,.int c)]=.ok ((.s,((eW<|c / 24).getD (c % 24).toNat ⟨"",[],[]⟩).t),[]):=by
 have j:=λm x=>qk (n+1) m x;have e:=λm x=>xE n m x;have b:=og (n+1) (l:=bh<|c / 24) (by rw[fK];exact gY _)<|c / 24;have k:decide ((0:Int)<24)=true:=rfl;have o:decide ((24:Int)<1073741824)=true:=rfl;have p:decide ((0:Int)<80)=true:=rfl;have u:decide ((80:Int)<1073741824)=true:=rfl;have v:decide ((0:Int)<3)=true:=rfl;have w:decide ((0:Int)<2)=true:=rfl;have y:decide ((2:Int)<1073741824)=true:=rfl;have z:decide ((3:Int)<1073741824)=true:=rfl;have B:decide ((8:Int)<1073741824)=true:=rfl;have D:decide ((0:Int)<7)=true:=rfl;have F:decide ((0:Int)<9)=true:=rfl;have G:decide ((0:Int)<204)=true:=rfl;have H:decide ((0:Int)<8)=true:=rfl;have M:decide ((0:Int)<(bh (c / 24)).length+2)=true:=Te (by lia);have li:∀x i,look (mdN x,.int i)=O (mdN x,.int i):=λx i=>by unfold mdN;cases x % 5==0<;>rfl
 unfold rwI at e;unfold rwI rwL bsT at b;generalize g:c / 24=r at *;have N:atI [T.int (bN r),.int (r / 3 % 204-2)] (r % 2)=O (.int (smC r)):=eY (xs:=[bN r,r / 3 % 204-2]) (f:=T.int) (by lia) (by show _<(2:Int);lia);have P:atI [T.int (bN (r / 80)),.int (bN r)] (r % 2)=O (.int (DP r)):=eY (xs:=[bN<|r / 80,bN r]) (f:=T.int) (by lia) (by show _<(2:Int);lia);have Q:atI [T.int (bN (r / 80)),.int 0,.int (r / 80 % 9-4)] (r % 3)=O (.int (xR r)):=eY (xs:=[bN<|r / 80,0,r / 80 % 9-4]) (f:=T.int) (by lia) (by show _<(3:Int);lia);have Z:atI [T.int (r / 8 % ((bh r).length+2)-1),.int ((bh r).length:Int),.int (bN r)] (r % 3)=O (.int (pkC r)):=eY (xs:=[r / 8 % ((bh r).length+2)-1,((bh r).length:Int),bN r]) (f:=T.int) (by lia) (by show _<(3:Int);lia);have a:=eY (xs:=eW r) (f:=Cs.t) (d:=⟨"",[],[]⟩) (i:=c % 24) (by lia) (by show _<(24:Int);lia);generalize ((eW r).getD (c % 24).toNat ⟨"",[],[]⟩).t=A at a ⊢;rw[show n+3=(n+2)+1 from rfl,lR,x_run _ _ _ rfl];simp only[eW,ME,Oz,Cs.t,rwI,rwL,bsT,JO,dR,eS,trK] at a;cases h:decide (0<r % 3)<;>rw[h] at a<;>simp only[TF,TR,OM] at a
 all_goals
  simp_all only[cP,aa,j,e,b,g,k,o,p,u,v,w,y,z,B,D,F,G,H,OS,TF,bT,fA,M,li,N,P,Q,Z,h,a]
def lM (v:T)(w:Str):T:=if w==q "" then .tup [.str<|q "is",v] else .tup [.str<|q "stops",.str w,.tup [],.tup []]
def Fin (b a:U T)(t:T):Prop:=∃w D,(∀n,∃m v,C (n+3) 589 [(.s,t),(.s,.lst a)]=.ok ((m,.tup [v,.str w]),[])/\lM v w=D)/\(∀n c m1,C (n+20) 586 [(c,.tup [.tup b,t]),(m1,.lst a)]=.ok ((.d,D),[]))/\PT 5 D
theorem CO (w:Str):PT 5 (.tup [.str<|q "stops",.str w,.tup [],.tup []]):=by
 intro u a;simp only[Mm,MW,TC] at a;rcases a with rfl|rfl|rfl|rfl
 .trivial
 .trivial
 .exactλ_ h=>Tg h MW
 .exactλ_ h=>Tg h MW
theorem Cn {v:T}(h:PT 3 v):PT 5 (.tup [.str<|q "is",v]):=by
 intro u a;simp only[Mm,MW,TC] at a;rcases a with rfl|rfl
 .trivial
 .exact Jy 3 _ h
theorem Ed {t:T}(h:PT 5 t):dp t<=10:=Mt (JI 5 t h)<|by decide
theorem kQ {d c:U T}{t:T}{w:Str}{vs:U T}(e:∀n,∃m v,C (n+3) 589 [(.s,t),(.s,.lst c)]=.ok ((m,.tup [v,.str w]),[])/\lM v w=.tup vs)(f:∀n a m1 b,∃g,C (n+19) 585 [(a,.tup [.tup d,t]),(m1,.lst c),(b,.non)]=.ok ((g,.tup vs),[]))(p:PT 5<|.tup vs):Fin d c t:=⟨w,.tup vs,e,λn a m1=>F8 (λb=>f n a m1 b)<|Ed p,p⟩
theorem wG (v:T):lM v (q "")=.tup [.str<|q "is",v]:=by rw[lM,Tp];rfl
theorem vM {w:Str}(h:(w==q "")=L5)(v:T):lM v w=.tup [.str<|q "stops",.str w,.tup [],.tup []]:=by rw[lM,h];rfl
theorem K6 {s:Tu}{k a:T}(S:Sg s)(A:Ans s [a]):Fin [.tup [.str<|q "a",k]] [a] (.tup [.str<|q s,nmT<|q "a"]):=by
 have lk:([(q "a",a)]:EN).lookup (q "a")=O a:=by rw[M5,Tp]
 rcases A with⟨v,b⟩|⟨w,b⟩
 .refine kQ (w:=q "") (vs:=[.str<|q "is",v]) (fun n=>(b.once n [nmT<|q "a"]).elim fun m h=>⟨m,v,h,wG v⟩) (fun n c m1 d=>?_) (Cn b.pt);obtain⟨f,g,go⟩:=Ci (n+18) (q "a") k a (.tup [.str<|q s,nmT<|q "a"]) c m1 d;obtain⟨md,e⟩:=GA S lk b<|n+13;exact CQ go e
 .refine kQ (w:=q w) (vs:=[.str<|q "stops",.str<|q w,.tup [],.tup []]) (fun n=>(b.once n [nmT<|q "a"]).elim fun m h=>h.elim fun v h=>⟨m,v,h,vM b.ne v⟩) (fun n c m1 d=>?_) (CO _);obtain⟨f,g,go⟩:=Ci (n+18) (q "a") k a (.tup [.str<|q s,nmT<|q "a"]) c m1 d;exact BO go<|EY S lk b<|n+13
theorem Lr {s:Tu}{k l a b:T}(S:Sg s)(A:Ans s [a,b]):Fin [.tup [.str<|q "a",k],.tup [.str<|q "rowb",l]] [a,b] (.tup [.str<|q s,nmT<|q "a",nmT<|q "rowb"]):=by
 have lk:([(q "a",a),(q "rowb",b)]:EN).lookup (q "a")=O a:=by rw[M5,Tp]
 have f:(q "rowb"==q "a")=false:=by decide +kernel
 have e:([(q "a",a),(q "rowb",b)]:EN).lookup (q "rowb")=O b:=by rw[M5,f];show NB _ [_]=_;rw[M5,Tp]
 have d:([(q "a",T.non)]:EN).lookup (q "rowb")=none:=by rw[M5,f];rfl
 rcases A with⟨v,c⟩|⟨w,c⟩
 .refine kQ (w:=q "") (vs:=[.str<|q "is",v]) (fun n=>(c.once n [nmT<|q "a",nmT<|q "rowb"]).elim fun m h=>⟨m,v,h,wG v⟩) (fun n g m1 i=>?_) (Cn c.pt);obtain⟨o,p,go⟩:=BI (n+18) (q "a") (q "rowb") d k l a b (.tup [.str<|q s,nmT<|q "a",nmT<|q "rowb"]) g m1 i;obtain⟨md,j⟩:=Gj S lk e c<|n+13;exact CQ go j
 .refine kQ (w:=q w) (vs:=[.str<|q "stops",.str<|q w,.tup [],.tup []]) (fun n=>(c.once n [nmT<|q "a",nmT<|q "rowb"]).elim fun m h=>h.elim fun v h=>⟨m,v,h,vM c.ne v⟩) (fun n g m1 i=>?_) (CO _);obtain⟨o,p,go⟩:=BI (n+18) (q "a") (q "rowb") d k l a b (.tup [.str<|q s,nmT<|q "a",nmT<|q "rowb"]) g m1 i;exact BO go<|Fh S lk e c<|n+13
structure G1 (c:Cs)(k a:T):Prop where
 ks:c.ks=[k]
 ws:c.ws=[a]
 S:Sg c.s
 A:Ans c.s [a]
 p:PT 4 a
structure G2 (c:Cs)(k l a b:T):Prop where
 ks:c.ks=[k,l]
 ws:c.ws=[a,b]
 S:Sg c.s
 A:Ans c.s [a,b]
 p:PT 4 a
 p':PT 4 b
def GR (c:Cs):Prop:=(∃k a,G1 c k a)\/∃k l a b,G2 c k l a b
theorem pI (d:Y)(l:U Int):PT (d+1) (rwI l):=ptM d (λk=>k) l
theorem pB (d:Y)(l:U Ta):PT (d+1) (bsT l):=λu a=>by obtain⟨k,_,rfl⟩:=OL.mp a;cases d<;>trivial
theorem pL (d:Y)(l:U<|U Int):PT (d+2) (rwL l):=λu a=>by obtain⟨k,_,rfl⟩:=OL.mp a;exact pI d k
theorem pP (i:Int)(l:U Int):PT 4 (.tup [.int i,rwI l]):=λu a=>by
 simp only[Mm,MW,TC] at a;rcases a with rfl|rfl
 .trivial
 .exact pI 2 l
theorem xW (r:Int):(xR r).natAbs<=1000000000000000000:=by
 have h:=vb<|r / 80;unfold xR;obtain e|e|e:(r % 3).toNat=0\/(r % 3).toNat=1\/(r % 3).toNat=2:=by lia
 all_goals rw[e]
 .exact h
 .exact MH _
 .show(r / 80 % 9-4).natAbs<=_;lia
theorem gd1 {s:Tu}{k a:T}(S:Sg s)(A:Ans s [a])(p:PT 4 a):GR ⟨s,[k],[a]⟩:=.inl ⟨k,a,rfl,rfl,S,A,p⟩
theorem gd2 {s:Tu}{k l a b:T}(S:Sg s)(A:Ans s [a,b])(p:PT 4 a)(c:PT 4 b):GR ⟨s,[k,l],[a,b]⟩:=.inr ⟨k,l,a,b,rfl,rfl,S,A,p,c⟩
theorem wz:∀s∈["add","sub","mul","div","rest","less","same","both","pair","pick","join","keep","cut","not","first","second","one","upto","long","sum","sums","most","flat"],keys_AHEAD.contains (q s)=L5/\(q s==q "name")=L5/\keys_WAYS.contains (q s)=false:=by decide +kernel
theorem sg {s:Tu}(h:s∈["add","sub","mul","div","rest","less","same","both","pair","pick","join","keep","cut","not","first","second","one","upto","long","sum","sums","most","flat"]):Sg s:=⟨(wz s h).1,(wz s h).2.1,(wz s h).2.2⟩
theorem xO (r:Int):∀c∈eW r,GR c:=by
 have d:(bh r).length<=200:=by rw[fK];exact gY r
 have e:(bh (r / 8)).length<=200:=by rw[fK];exact gY _
 have f:=BB (bh r) r;have i:=AH (bh r) r;have g:=zp (bh r) r d;have a:=vb r;unfold eW;intro c b;simp only[Mm,MW,TC] at b;rcases b with h|h|h|h|h|h|h|h|h|h|h|h|h|h|h|h|h|h|h|h|h|h|h|h<;>subst h
 .exact gd2 (sg<|by decide) (CS .add a) trivial trivial
 .exact gd2 (sg<|by decide) (CS .sub a) trivial trivial
 .exact gd2 (sg<|by decide) (CS .mul a) trivial trivial
 .exact gd2 (sg<|by decide) (HC L5 a<|xW r) trivial trivial
 .exact gd2 (sg<|by decide) (HC L7 a<|xW r) trivial trivial
 .exact gd2 (sg<|by decide) (.inl ⟨_,F7 _ _⟩) trivial trivial
 .exact gd2 (sg<|by decide) (.inl ⟨_,Ht _ _⟩) trivial trivial
 .exact gd2 (sg<|by decide) (.inl ⟨_,zR _ _⟩) trivial trivial
 .exact gd2 (sg<|by decide) (.inl ⟨_,Dc _ _⟩) trivial trivial
 .exact gd2 (sg<|by decide) (.inl ⟨_,E5 _ _ (pI 1 _) trivial⟩) (pI 3 _) trivial
 .exact gd2 (sg<|by decide) (EH _ _) (pI 3 _) trivial
 .exact gd2 (sg<|by decide) (D2 d e) (pI 3 _) (pI 3 _)
 .exact gd2 (sg<|by decide) (Er _ _ (by lia)<|by lia) (pI 3 _) (pB 3 _)
 .exact gd2 (sg<|by decide) (JT (by lia)<|by lia) (pI 3 _) (pI 3 _)
 .exact gd1 (sg<|by decide) (.inl ⟨_,IL _⟩) trivial
 .exact gd1 (sg<|by decide) (.inl ⟨_,Ia _ _ trivial⟩) (pP _ _)
 .exact gd1 (sg<|by decide) (.inl ⟨_,Kl _ _<|pI 2 _⟩) (pP _ _)
 .exact gd1 (sg<|by decide) (.inl ⟨_,IG _<|pI 1 _⟩) (pI 3 _)
 .exact gd1 (sg<|by decide) (DS _) trivial
 .exact gd1 (sg<|by decide) (.inl ⟨_,Hr _⟩) (pL 2 _)
 .exact gd1 (sg<|by decide) (vC L7<|by lia) (pI 3 _)
 .exact gd1 (sg<|by decide) (vC L5<|by lia) (pI 3 _)
 .exact gd1 (sg<|by decide) (FI<|vT r) (pI 3 _)
 .exact gd1 (sg<|by decide) (Gv<|by lia) (pL 2 _)
abbrev lB:U S:=[
   .asgT (.q [] [1]) [2,3,4] (.call 574 [.var 1]),
   .asg (.q [3] []) 5 (.op .tuple L5 [.comp L5 .rng [.op .len L5 [.var 3]] [10] J<|.tup [.op .ix L5 [.lst L5 [.cst<|.str<|q "a",.cst<|.str<|q "rowb"],.var 10],.op .ix L5 [.var 3,.var 10]]]),
   .asg (.q [2,5] []) 6 (.op .add L5 [.tup [.var 2],.op .tuple L5 [.comp L5 .seq [.var 5] [11] J<|.tup [.cst<|.str<|q "name",.op .ix L5 [.var 11,.cst<|.int 0]]]]),
   .asgT (.q [4,6] []) [7,8] (.call 589 [.var 6,.var 4]),
   .asg (.q [7,8] []) 9 (.ifx (.op .eq L5 [.var 8,.cst<|.str<|q ""]) (.tup [.cst<|.str<|q "is",.var 7])<|.tup [.cst<|.str<|q "stops",.var 8,.tup [],.tup []]),
   .ite (.q [4,5,6,9] []) (.not (.call 170 [.call 586 [.tup [.var 5,.var 6],.var 4],.var 9])) [
    .ret [] (.cst<|.bl L5)] [],
   .ite (.q [4] [1]) (.not (.call 170 [.var 4,.op .ix L5 [.call 574 [.var 1],.cst (.int 2)]])) [
    .ret [] (.cst<|.bl L5)] []]
theorem rg1 (k:T):(decide ((([k]:U T).length:Int).natAbs<4611686018427387904)&&fits ([k]:U T).length)=true:=rfl
theorem rg2 (k l:T):(decide ((([k,l]:U T).length:Int).natAbs<4611686018427387904)&&fits ([k,l]:U T).length)=true:=rfl
theorem rn1 (k:T):(Mj ([k]:U T).length).map (λ(j:Y)=>[((.d,.int j):W)])=[[((.d,.int 0):W)]]:=rfl
theorem rn2 (k l:T):(Mj ([k,l]:U T).length).map (λ(j:Y)=>[((.d,.int j):W)])=[[((.d,.int 0):W)],[((.d,.int 1):W)]]:=rfl
theorem HN {x:Int}{s:Tu}{k a:T}(Q:C 39 574 [(.d,.int x)]=.ok ((.s,.tup [.str<|q s,.lst [k],.lst [a]]),[]))(F:Fin [.tup [.str<|q "a",k]] [a]<|.tup [.str<|q s,nmT<|q "a"])(p:PT 4 a)(m1:Md)(B o2 o3 o4 o5 o6 o7 o8 o9 h i:I W):∃g j l n o r t y z c e,evSs (C 39) lB [B,O (m1,.int x),o2,o3,o4,o5,o6,o7,o8,o9,h,i]=.nx [B,g,j,l,n,o,r,t,y,z,c,e]:=by
 obtain⟨w,D,f,M,N⟩:=F;obtain⟨m,v,f,P⟩:=f 36;have e1:C 39 589 [(.s,.tup [.str (q s),nmT (q "a")]),(.s,.lst [a])]=.ok ((m,.tup [v,.str w]),[]):=f;have e2:∀b m1,C 39 586 [(b,.tup [.tup [.tup [.str (q "a"),k]],.tup [.str (q s),nmT (q "a")]]),(m1,.lst [a])]=.ok ((.d,D),[]):=λb m1=>M 19 b m1;have e3:∀b m1,C 39 170 [(b,D),(m1,D)]=.ok ((.d,.bl L7),[]):=λb m1=>qG 33 5 D b m1 N;have G:∀b m1,C 39 170 [(b,.lst [a]),(m1,.lst [a])]=.ok ((.d,.bl L7),[]):=λb m1=>qG 33 5 (.lst [a]) b m1 λu Z=>by obtain rfl:=MZ.mp Z;exact p
 have H:(fits ([T.str (q s)].length+[T.tup [T.str (q "name"),T.str (q "a")]].length)&&![T.str (q s)].isEmpty)=true:=rfl;subst P;unfold lM at e2 e3;unfold lB;cases A:w==q ""<;>rw[A] at e2 e3<;>simp only[TF,TR,OM] at e2 e3
 all_goals
  rcases oJ v with lv|lv
 all_goals cases m
 all_goals
  refine⟨?_,?_,?_,?_,?_,?_,?_,?_,?_,?_,?_,?_⟩
  rotate_right
  simp_all only[aa,Q,Ou,rg1,bT,TF,rn1,aG,Pc,H,ba,A,lv,e1,e2,e3,G];rfl
theorem Kn {x:Int}{s:Tu}{k l a b:T}(hc:C 39 574 [(.d,.int x)]=.ok ((.s,.tup [.str<|q s,.lst [k,l],.lst [a,b]]),[]))(F:Fin [.tup [.str<|q "a",k],.tup [.str<|q "rowb",l]] [a,b]<|.tup [.str<|q s,nmT<|q "a",nmT<|q "rowb"])(p:PT 4 a)(p':PT 4 b)(m1:Md)(M o2 o3 o4 o5 o6 o7 o8 o9 j n:I W):∃i o r t y z A B G e f,evSs (C 39) lB [M,O (m1,.int x),o2,o3,o4,o5,o6,o7,o8,o9,j,n]=.nx [M,i,o,r,t,y,z,A,B,G,e,f]:=by
 obtain⟨w,D,g,Q,Z⟩:=F;obtain⟨m,v,g,hD⟩:=g 36;have e1:C 39 589 [(.s,.tup [.str (q s),nmT (q "a"),nmT (q "rowb")]),(.s,.lst [a,b])]=.ok ((m,.tup [v,.str w]),[]):=g;have e2:∀c m1,C 39 586 [(c,.tup [.tup [.tup [.str (q "a"),k],.tup [.str (q "rowb"),l]],.tup [.str (q s),nmT (q "a"),nmT (q "rowb")]]),(m1,.lst [a,b])]=.ok ((.d,D),[]):=λc m1=>Q 19 c m1;have e3:∀c m1,C 39 170 [(c,D),(m1,D)]=.ok ((.d,.bl L7),[]):=λc m1=>qG 33 5 D c m1 Z
 have N:∀c m1,C 39 170 [(c,.lst [a,b]),(m1,.lst [a,b])]=.ok ((.d,.bl L7),[]):=λc m1=>qG 33 5 (.lst [a,b]) c m1 λu h=>by
  rcases Mm.mp h with rfl|h
  .exact p
  .obtain rfl:=MZ.mp h;exact p'
 have P:(fits ([T.str (q s)].length+[T.tup [T.str (q "name"),T.str (q "a")],T.tup [T.str (q "name"),T.str (q "rowb")]].length)&&![T.str (q s)].isEmpty)=true:=rfl;subst hD;unfold lM at e2 e3;unfold lB;cases H:w==q ""<;>rw[H] at e2 e3<;>simp only[TF,TR,OM] at e2 e3
 all_goals
  rcases oJ v with lv|lv
 all_goals cases m
 all_goals
  refine⟨?_,?_,?_,?_,?_,?_,?_,?_,?_,?_,?_,?_⟩
  rotate_right
  simp_all only[aa,hc,Ou,rg2,bT,TF,rn2,aG,Pc,P,ba,H,lv,e1,e2,e3,N];rfl
theorem zP (x:Int)(m1:Md)(h o2 o3 t v y B F H d e:I W):∃n o r u w z D G M f g,evSs (C 39) lB [h,O (m1,.int x),o2,o3,t,v,y,B,F,H,d,e]=.nx [h,n,o,r,u,w,z,D,G,M,f,g]:=by
 have m:=xD 36 x;have P:(x % 24).toNat<(eW (x / 24)).length:=by show _<24;lia
 have Q:(eW (x / 24)).getD (x % 24).toNat ⟨"",[],[]⟩∈eW (x / 24):=by rw[Nm,MP P];exact Rq P
 have N:=xO (x / 24) _ Q;generalize (eW<|x / 24).getD (x % 24).toNat ⟨"",[],[]⟩=c at m N;obtain⟨s,ks,ws⟩:=c;rcases N with⟨k,a,⟨i,j,S,A,p⟩⟩|⟨k,l,a,b,⟨i,j,S,A,p,Z⟩⟩
 .cases i; cases j;exact HN m (K6 S A) p m1 h o2 o3 t v y B F H d e
 .cases i; cases j;exact Kn m (Lr S A) p Z m1 h o2 o3 t v y B F H d e
theorem nr (m1:Md)(l:I W):∀(n:U Int) (m o2 o3 e f g h j k a b:I W),∃o p r s t u v w y c d,cT [1] (evSs (C 39) lB) (n.map λi=>[((m1,.int i):W)]) [l,m,o2,o3,e,f,g,h,j,k,a,b]=.nx [l,o,p,r,s,t,u,v,w,y,c,d]
|[],m,o2,o3,e,f,g,h,j,k,a,b=>⟨m,o2,o3,e,f,g,h,j,k,a,b,rfl⟩
|x::n,m,o2,o3,e,f,g,h,j,k,a,b=>by obtain⟨F,G,H,M,N,P,Q,Z,p9,z,A,e1⟩:=zP x m1 l o2 o3 e f g h j k a b;obtain⟨q1,q2,q3,q4,q5,q6,q7,q8,q9,B,D,e2⟩:=nr m1 l n F G H M N P Q Z p9 z A;exact⟨q1,q2,q3,q4,q5,q6,q7,q8,q9,B,D,(qh rfl e1).trans e2⟩
theorem pure_law (a:U Int):∃m bs,C 40 0 [(.d,.scr a)]=.ok ((m,.bl L7),bs):=by
 rw[show(40:Y)=39+1 from rfl,Ew,x_run _ _ _ rfl];cases h:decide ((0:Int)<a.length) with
 |true=>
  obtain⟨g,j,k,l,n,o,p,r,u,b,c,e⟩:=nr .s (O (.s,.scr a)) (cut a J<|O 20) J J J J J J J J J J J;have f:((cut a J (O 20)).map T.int).map (λt=>[((.s,t):W)])=(cut a J (O 20)).map λi=>[((.s,.int i):W)]:=km _;refine⟨?_,?_,?_⟩
  rotate_left 2
  simp_all only[j4,aa,h,f,e];rfl
 |false=>
  obtain⟨g,j,k,l,n,o,p,r,u,b,c,e⟩:=nr .s (O (.s,.scr a)) [0] J J J J J J J J J J J;rw[ME,Oz] at e;refine⟨?_,?_,?_⟩
  rotate_left 2
  simp_all only[j4,aa,h,e];rfl
end
end P17

namespace A17
open PySem PySem.Spec PyProof.Rows L2 L3 MR
def top (i:Y):Tz:=PySem.Challenge.pw_broadrow_k17_single_pieces.main.body.getD i<|.Pass ⟨0,0,0,0⟩
abbrev s1:Tz:=top 18
abbrev s0:Tz:=top 97
structure Glb (K:L9)(w:Mc)(mg:Str->I L):Prop where
 GREATEST:∃t,mg "GREATEST"=O (.int 1000000000000000000 t)
 LONGEST:∃t,mg "LONGEST"=O (.int 200 t)
 k_AHEAD:xS K w mg "AHEAD" keys_AHEAD
 k_WAYS:xS K w mg "WAYS" keys_WAYS
 k_WORDS:xS K w mg "WORDS" keys_WORDS
structure Xs (P:Td)(w:Mc)(K:L9)(mg:Str->I L)(base:To):Prop where
 b_Stop:XBs K mg "Stop" fZ [fZ]
 f_place:∀c:Y,XF K c->MB K (.ref c) "place"=O J
 f_turns:∀c:Y,XF K c->MB K (.ref c) "turns"=O J
 f_word:∀c:Y,XF K c->MB K (.ref c) "word"=O J
 n_Stop:XCN P w K mg base "Stop" fZ [q "word",q "place",q "turns"]
 p_Around:PCl P w K mg base "Around" iP [q "names",q "turns",q "rounds",q "book"] []
def tab:U Dr:=[⟨"great_word",28,5,["number"],["number"],aX,L5⟩,
⟨"sums_word",29,6,["row"],["row","total","number"],bY,L5⟩,
⟨"nought_word",30,7,["number"],["number"],aY,L5⟩,
⟨"beyond_word",31,8,["length","number"],["length","number"],aR,L5⟩,
⟨"empty_word",32,9,["length"],["length"],bC,L5⟩,
⟨"upto_word",33,10,["number"],["number"],bu,L5⟩,
⟨"long_word",34,12,["length"],["length"],bX,L5⟩,
⟨"keep_word",35,13,["length","other"],["length","other"],cD,L5⟩,
⟨"cut_word",36,14,["length","lengths"],["length","lengths"],bV,L5⟩,
⟨"done",130,16,["piece","ins"],["piece","ins","word"],fv,L5⟩,
⟨"own_copy",456,17,["worth"],["worth"],aB,L5⟩,
⟨"do_not",42,22,["ins"],["ins"],er,L5⟩,
⟨"do_first",43,23,["ins"],["ins"],cS,L5⟩,
⟨"do_second",44,24,["ins"],["ins"],cy,L5⟩,
⟨"do_one",45,25,["ins"],["ins"],eu,L5⟩,
⟨"do_upto",46,26,["ins"],["ins"],dk,L5⟩,
⟨"do_long",47,27,["ins"],["ins"],dI,L5⟩,
⟨"do_sum",48,28,["ins"],["ins"],dX,L5⟩,
⟨"do_sums",49,29,["ins"],["ins","told","total","number"],dB,L5⟩,
⟨"do_most",50,30,["ins"],["ins"],dw,L5⟩,
⟨"do_flat",51,31,["ins"],["ins","things","row"],dH,L5⟩,
⟨"do_add",52,32,["ins"],["ins"],dY,L5⟩,
⟨"do_sub",53,33,["ins"],["ins"],d8,L5⟩,
⟨"do_mul",54,34,["ins"],["ins"],ei,L5⟩,
⟨"do_div",131,35,["ins"],["ins"],ee,L5⟩,
⟨"do_rest",132,36,["ins"],["ins"],dn,L5⟩,
⟨"do_less",57,37,["ins"],["ins"],dA,L5⟩,
⟨"do_same",58,38,["ins"],["ins"],cN,L5⟩,
⟨"do_both",59,39,["ins"],["ins"],dy,L5⟩,
⟨"do_pair",60,40,["ins"],["ins"],dP,L5⟩,
⟨"do_pick",61,41,["ins"],["ins"],dj,L5⟩,
⟨"do_join",590,42,["ins"],["ins"],dM,L5⟩,
⟨"do_keep",62,43,["ins"],["ins"],dm,L5⟩,
⟨"do_cut",63,44,["ins"],["ins"],eA,L5⟩,
⟨"word_of_upto",64,46,["ins"],["ins"],aW,L5⟩,
⟨"word_of_sum",65,47,["ins"],["ins"],a0,L5⟩,
⟨"word_of_most",66,48,["ins"],["ins"],aV,L5⟩,
⟨"word_of_flat",67,49,["ins"],["ins"],bp,L5⟩,
⟨"word_of_add",68,50,["ins"],["ins"],bQ,L5⟩,
⟨"word_of_sub",69,51,["ins"],["ins"],bR,L5⟩,
⟨"word_of_mul",70,52,["ins"],["ins"],bK,L5⟩,
⟨"word_of_div",71,53,["ins"],["ins"],bP,L5⟩,
⟨"word_of_pick",72,54,["ins"],["ins"],br,L5⟩,
⟨"word_of_join",73,55,["ins"],["ins"],bw,L5⟩,
⟨"word_of_keep",74,56,["ins"],["ins"],bz,L5⟩,
⟨"word_of_cut",75,57,["ins"],["ins"],bS,L5⟩,
⟨"parts_start",175,64,["sign"],["sign"],aZ,L5⟩,
⟨"parts",176,65,["tree"],["tree"],fX,L5⟩,
⟨"reading",585,75,["program","worths","book"],["program","worths","book","names","head","worth","stop","told"],f_reading,L5⟩,
⟨"worth_of",576,76,["tree","place","around"],["tree","place","around","ins","told"],aS,L7⟩,
⟨"read",586,86,["program","worths"],["program","worths"],ib,L5⟩,
⟨"_law_alike",170,88,["found","due"],["found","due"],ax,L5⟩,
⟨"_law_reckoned",587,89,["sign","one","other"],["sign","one","other","found"],aI,L5⟩,
⟨"_law_of_row",583,90,["sign","row"],["sign","row","found","one","sums","number","word"],aH,L5⟩,
⟨"_law_of_two",569,91,["sign","one","other"],["sign","one","other","found","k"],av,L5⟩,
⟨"_law_once",589,92,["tree","worths"],["tree","worths","sign","good","one","other"],ak,L5⟩,
⟨"_law_number",571,93,["cell"],["cell","some"],bD,L5⟩,
⟨"_law_numbers",572,94,["cell"],["cell","many"],bL,L5⟩,
⟨"_law_beside",573,95,["row","rest"],["row","rest","many","truths","halves","some","rows"],b6,L5⟩,
⟨"_law_case",574,96,["cell"],["cell","rest","row","truths","lengths","rows","nums","num","truth","one","other","flag","small"],cP,L5⟩]
structure Calls (P:Td)(w:Mc)(K:L9)(mg:Str->I L)(base:To)(n:Y)(C:M.Call):Prop where
 a:Oks P w K mg base tab n C
 b:zv P w K mg base tab n C
 c1:et P w K mg base n C "in_rows" 1 []
 t_DOINGS:tR P w K mg base n C "DOINGS" tab_DOINGS
 t_WAYS:tR P w K mg base n C "WAYS" mP
 t_WORDS:tR P w K mg base n C "WORDS" tab_WORDS
section
variable {P:Td}{w:Mc}{K:L9}{mg:Str->I L}{base:To}{n:Y}{C:M.Call}
abbrev lawR:Dr:=⟨"law",0,97,["script"],["script","cell","sign","kinds","worths","heads","tree","worth","word","due"],j4,L5⟩
theorem S0:bH ["script","cell","sign","kinds","worths","heads","tree","worth","word","due"] ["script"] (defScope s0):=fsc
variable (xs:Xs P w K mg base)(cs:Calls P w K mg base (n+2) C)(T:Txt mg)(G:Glb K w mg)
include xs cs T G
theorem Lq:Bd CX0 Cx.nox P w K mg base (n+2) C top "_law_case" 96 ["cell","rest","row","truths","lengths","rows","nums","num","truth","one","other","flag","small"] cP:=λf d A c s H E S b=>
 ((@ssc _ _ _ _ _ _ _ _ (@zA _ _ _ _ _ _ _ 1 _ _ _ _ S (df (sV 0) sI) rfl rfl rfl rfl rfl rfl)
    (@ssc _ _ _ _ _ _ _ _ (@zA _ _ _ _ _ _ _ 2 _ _ _ _ S (az (cs.a _ _ _ rfl) b (@say _ _ _ _ _ _ _ (sV 1) sa0 rfl rfl)) rfl rfl rfl rfl rfl rfl)
    (@ssc _ _ _ _ _ _ _ _ (vR 3 4 5 S (az (cs.a _ _ _ rfl) b (@say _ _ _ _ _ _ _ (sV 2) (@say _ _ _ _ _ _ _ (sV 1) sa0 rfl rfl) rfl rfl)))
    (@ssc _ _ _ _ _ _ _ _ (@zA _ _ _ _ _ _ _ 6 _ _ _ _ S (@sTx _ _ _ _ _ _ _ (by decide) (@slx _ _ _ _ _ _ _ sS (@slx _ _ _ _ _ _ _ (@sTx _ _ _ _ _ _ _ (by decide) (@slx _ _ _ _ _ _ _ sS sl0 rfl)) sl0 rfl) rfl)) rfl rfl rfl rfl rfl rfl)
    (@ssc _ _ _ _ _ _ _ _ (@zA _ _ _ _ _ _ _ 7 _ _ _ _ S (@sIxx _ _ _ _ _ _ _ _ _ (sV 6) sI (λ_ _=>rfl)) rfl rfl rfl rfl rfl rfl)
    (@ssc _ _ _ _ _ _ _ _ (@zA _ _ _ _ _ _ _ 8 _ _ _ _ S (@sTx _ _ _ _ _ _ _ (by decide) (@slx _ _ _ _ _ _ _ sS sl0 rfl)) rfl rfl rfl rfl rfl rfl)
    (@ssc _ _ _ _ _ _ _ _ (@zA _ _ _ _ _ _ _ 9 _ _ _ _ S (az (cs.a _ _ _ rfl) b (@say _ _ _ _ _ _ _ (sV 1) sa0 rfl rfl)) rfl rfl rfl rfl rfl rfl)
    (@ssc _ _ _ _ _ _ _ _ (@zA _ _ _ _ _ _ _ 10 _ _ _ _ S (az (cs.a _ _ _ rfl) b (@say _ _ _ _ _ _ _ (df (sV 1) sI) sa0 rfl rfl)) rfl rfl rfl rfl rfl rfl)
    (@ssc _ _ _ _ _ _ _ _ (@zA _ _ _ _ _ _ _ 11 _ _ _ _ S (sEq b (cc (sV 1) sI) sI) rfl rfl rfl rfl rfl rfl)
    (@ssc _ _ _ _ _ _ _ _ (@zA _ _ _ _ _ _ _ 12 _ _ _ _ S (@sIxx _ _ _ _ _ _ _ _ _ (@sLx _ _ _ _ _ _ _ (by decide) (@slx _ _ _ _ _ _ _ (sV 9) (@slx _ _ _ _ _ _ _ (eR (cc (df (sV 1) sI) sI) sI) sl0 rfl) rfl)) (cc (sV 1) sI) (λ_ _=>rfl)) rfl rfl rfl rfl rfl rfl)
    (@ss1 _ _ _ _ _ _ (@ai _ _ _ _ _ _ _ _ (@sIxx _ _ _ _ _ _ _ _ _ (@sLx _ _ _ _ _ _ _ (by decide) (@slx _ _ _ _ _ _ _ (@sTx _ _ _ _ _ _ _ (by decide) (@slx _ _ _ _ _ _ _ sS (@slx _ _ _ _ _ _ _ (@sLx _ _ _ _ _ _ _ (by decide) (@slx _ _ _ _ _ _ _ (sV 7) (@slx _ _ _ _ _ _ _ (sV 7) sl0 rfl) rfl)) (@slx _ _ _ _ _ _ _ (@sLx _ _ _ _ _ _ _ (by decide) (@slx _ _ _ _ _ _ _ (sV 9) (@slx _ _ _ _ _ _ _ (sV 10) sl0 rfl) rfl)) sl0 rfl) rfl) rfl)) (@slx _ _ _ _ _ _ _ (@sTx _ _ _ _ _ _ _ (by decide) (@slx _ _ _ _ _ _ _ sS (@slx _ _ _ _ _ _ _ (@sLx _ _ _ _ _ _ _ (by decide) (@slx _ _ _ _ _ _ _ (sV 7) (@slx _ _ _ _ _ _ _ (sV 7) sl0 rfl) rfl)) (@slx _ _ _ _ _ _ _ (@sLx _ _ _ _ _ _ _ (by decide) (@slx _ _ _ _ _ _ _ (sV 9) (@slx _ _ _ _ _ _ _ (sV 10) sl0 rfl) rfl)) sl0 rfl) rfl) rfl)) (@slx _ _ _ _ _ _ _ (@sTx _ _ _ _ _ _ _ (by decide) (@slx _ _ _ _ _ _ _ sS (@slx _ _ _ _ _ _ _ (@sLx _ _ _ _ _ _ _ (by decide) (@slx _ _ _ _ _ _ _ (sV 7) (@slx _ _ _ _ _ _ _ (sV 7) sl0 rfl) rfl)) (@slx _ _ _ _ _ _ _ (@sLx _ _ _ _ _ _ _ (by decide) (@slx _ _ _ _ _ _ _ (sV 9) (@slx _ _ _ _ _ _ _ (sIf (kZ (cc (sV 1) sI) sI) (eR (cc (df (sV 1) sI) sI) sI) (sV 10)) sl0 rfl) rfl)) sl0 rfl) rfl) rfl)) (@slx _ _ _ _ _ _ _ (@sTx _ _ _ _ _ _ _ (by decide) (@slx _ _ _ _ _ _ _ sS (@slx _ _ _ _ _ _ _ (@sLx _ _ _ _ _ _ _ (by decide) (@slx _ _ _ _ _ _ _ (sV 7) (@slx _ _ _ _ _ _ _ (sV 7) sl0 rfl) rfl)) (@slx _ _ _ _ _ _ _ (@sLx _ _ _ _ _ _ _ (by decide) (@slx _ _ _ _ _ _ _ (sV 9) (@slx _ _ _ _ _ _ _ (@sIxx _ _ _ _ _ _ _ _ _ (@sLx _ _ _ _ _ _ _ (by decide) (@slx _ _ _ _ _ _ _ (sV 10) (@slx _ _ _ _ _ _ _ sI (@slx _ _ _ _ _ _ _ (eR (cc (df (sV 1) sI) sI) sI) sl0 rfl) rfl) rfl)) (cc (sV 1) sI) (λ_ _=>rfl)) sl0 rfl) rfl)) sl0 rfl) rfl) rfl)) (@slx _ _ _ _ _ _ _ (@sTx _ _ _ _ _ _ _ (by decide) (@slx _ _ _ _ _ _ _ sS (@slx _ _ _ _ _ _ _ (@sLx _ _ _ _ _ _ _ (by decide) (@slx _ _ _ _ _ _ _ (sV 7) (@slx _ _ _ _ _ _ _ (sV 7) sl0 rfl) rfl)) (@slx _ _ _ _ _ _ _ (@sLx _ _ _ _ _ _ _ (by decide) (@slx _ _ _ _ _ _ _ (sV 9) (@slx _ _ _ _ _ _ _ (@sIxx _ _ _ _ _ _ _ _ _ (@sLx _ _ _ _ _ _ _ (by decide) (@slx _ _ _ _ _ _ _ (sV 10) (@slx _ _ _ _ _ _ _ sI (@slx _ _ _ _ _ _ _ (eR (cc (df (sV 1) sI) sI) sI) sl0 rfl) rfl) rfl)) (cc (sV 1) sI) (λ_ _=>rfl)) sl0 rfl) rfl)) sl0 rfl) rfl) rfl)) (@slx _ _ _ _ _ _ _ (@sTx _ _ _ _ _ _ _ (by decide) (@slx _ _ _ _ _ _ _ sS (@slx _ _ _ _ _ _ _ (@sLx _ _ _ _ _ _ _ (by decide) (@slx _ _ _ _ _ _ _ (sV 7) (@slx _ _ _ _ _ _ _ (sV 7) sl0 rfl) rfl)) (@slx _ _ _ _ _ _ _ (@sLx _ _ _ _ _ _ _ (by decide) (@slx _ _ _ _ _ _ _ (sV 9) (@slx _ _ _ _ _ _ _ (@sIxx _ _ _ _ _ _ _ _ _ (@sLx _ _ _ _ _ _ _ (by decide) (@slx _ _ _ _ _ _ _ (sV 10) (@slx _ _ _ _ _ _ _ (sV 9) sl0 rfl) rfl)) (cc (sV 1) sI) (λ_ _=>rfl)) sl0 rfl) rfl)) sl0 rfl) rfl) rfl)) (@slx _ _ _ _ _ _ _ (@sTx _ _ _ _ _ _ _ (by decide) (@slx _ _ _ _ _ _ _ sS (@slx _ _ _ _ _ _ _ (@sLx _ _ _ _ _ _ _ (by decide) (@slx _ _ _ _ _ _ _ (sV 7) (@slx _ _ _ _ _ _ _ (sV 7) sl0 rfl) rfl)) (@slx _ _ _ _ _ _ _ (@sLx _ _ _ _ _ _ _ (by decide) (@slx _ _ _ _ _ _ _ (sV 9) (@slx _ _ _ _ _ _ _ (@sIxx _ _ _ _ _ _ _ _ _ (@sLx _ _ _ _ _ _ _ (by decide) (@slx _ _ _ _ _ _ _ (sV 10) (@slx _ _ _ _ _ _ _ (sV 9) sl0 rfl) rfl)) (cc (sV 1) sI) (λ_ _=>rfl)) sl0 rfl) rfl)) sl0 rfl) rfl) rfl)) (@slx _ _ _ _ _ _ _ (@sTx _ _ _ _ _ _ _ (by decide) (@slx _ _ _ _ _ _ _ sS (@slx _ _ _ _ _ _ _ (@sLx _ _ _ _ _ _ _ (by decide) (@slx _ _ _ _ _ _ _ (sV 8) (@slx _ _ _ _ _ _ _ (sV 8) sl0 rfl) rfl)) (@slx _ _ _ _ _ _ _ (@sLx _ _ _ _ _ _ _ (by decide) (@slx _ _ _ _ _ _ _ (sV 11) (@slx _ _ _ _ _ _ _ (sEq b (cc (df (sV 1) sI) sI) sI) sl0 rfl) rfl)) sl0 rfl) rfl) rfl)) (@slx _ _ _ _ _ _ _ (@sTx _ _ _ _ _ _ _ (by decide) (@slx _ _ _ _ _ _ _ sS (@slx _ _ _ _ _ _ _ (@sLx _ _ _ _ _ _ _ (by decide) (@slx _ _ _ _ _ _ _ (sV 8) (@slx _ _ _ _ _ _ _ (sV 8) sl0 rfl) rfl)) (@slx _ _ _ _ _ _ _ (@sLx _ _ _ _ _ _ _ (by decide) (@slx _ _ _ _ _ _ _ (sV 11) (@slx _ _ _ _ _ _ _ (sEq b (cc (df (sV 1) sI) sI) sI) sl0 rfl) rfl)) sl0 rfl) rfl) rfl)) (@slx _ _ _ _ _ _ _ (@sTx _ _ _ _ _ _ _ (by decide) (@slx _ _ _ _ _ _ _ sS (@slx _ _ _ _ _ _ _ (@sLx _ _ _ _ _ _ _ (by decide) (@slx _ _ _ _ _ _ _ (sV 6) (@slx _ _ _ _ _ _ _ (sV 8) sl0 rfl) rfl)) (@slx _ _ _ _ _ _ _ (@sLx _ _ _ _ _ _ _ (by decide) (@slx _ _ _ _ _ _ _ (sV 2) (@slx _ _ _ _ _ _ _ (sV 11) sl0 rfl) rfl)) sl0 rfl) rfl) rfl)) (@slx _ _ _ _ _ _ _ (@sTx _ _ _ _ _ _ _ (by decide) (@slx _ _ _ _ _ _ _ sS (@slx _ _ _ _ _ _ _ (@sLx _ _ _ _ _ _ _ (by decide) (@slx _ _ _ _ _ _ _ (sV 6) (@slx _ _ _ _ _ _ _ (sV 7) sl0 rfl) rfl)) (@slx _ _ _ _ _ _ _ (@sLx _ _ _ _ _ _ _ (by decide) (@slx _ _ _ _ _ _ _ (sV 2) (@slx _ _ _ _ _ _ _ (@sIxx _ _ _ _ _ _ _ _ _ (@sLx _ _ _ _ _ _ _ (by decide) (@slx _ _ _ _ _ _ _ (eR (cc (df (sV 1) sI) (dg (bF (hm:=T.len) (ha:=(sV 2))) sI)) sI) (@slx _ _ _ _ _ _ _ (bF (hm:=T.len) (ha:=(sV 2))) (@slx _ _ _ _ _ _ _ (sV 9) sl0 rfl) rfl) rfl)) (cc (sV 1) sI) (λ_ _=>rfl)) sl0 rfl) rfl)) sl0 rfl) rfl) rfl)) (@slx _ _ _ _ _ _ _ (@sTx _ _ _ _ _ _ _ (by decide) (@slx _ _ _ _ _ _ _ sS (@slx _ _ _ _ _ _ _ (@sLx _ _ _ _ _ _ _ (by decide) (@slx _ _ _ _ _ _ _ (sV 6) (@slx _ _ _ _ _ _ _ (sV 6) sl0 rfl) rfl)) (@slx _ _ _ _ _ _ _ (@sLx _ _ _ _ _ _ _ (by decide) (@slx _ _ _ _ _ _ _ (sV 2) (@slx _ _ _ _ _ _ _ (az (cs.a _ _ _ rfl) b (@say _ _ _ _ _ _ _ (df (sV 1) sI) sa0 rfl rfl)) sl0 rfl) rfl)) sl0 rfl) rfl) rfl)) (@slx _ _ _ _ _ _ _ (@sTx _ _ _ _ _ _ _ (by decide) (@slx _ _ _ _ _ _ _ sS (@slx _ _ _ _ _ _ _ (@sLx _ _ _ _ _ _ _ (by decide) (@slx _ _ _ _ _ _ _ (sV 6) (@slx _ _ _ _ _ _ _ (@sTx _ _ _ _ _ _ _ (by decide) (@slx _ _ _ _ _ _ _ sS (@slx _ _ _ _ _ _ _ (sV 8) sl0 rfl) rfl)) sl0 rfl) rfl)) (@slx _ _ _ _ _ _ _ (@sLx _ _ _ _ _ _ _ (by decide) (@slx _ _ _ _ _ _ _ (sV 2) (@slx _ _ _ _ _ _ _ (sM 3) sl0 rfl) rfl)) sl0 rfl) rfl) rfl)) (@slx _ _ _ _ _ _ _ (@sTx _ _ _ _ _ _ _ (by decide) (@slx _ _ _ _ _ _ _ sS (@slx _ _ _ _ _ _ _ (@sLx _ _ _ _ _ _ _ (by decide) (@slx _ _ _ _ _ _ _ (sV 6) (@slx _ _ _ _ _ _ _ (sV 6) sl0 rfl) rfl)) (@slx _ _ _ _ _ _ _ (@sLx _ _ _ _ _ _ _ (by decide) (@slx _ _ _ _ _ _ _ (sV 2) (@slx _ _ _ _ _ _ _ (sM 4) sl0 rfl) rfl)) sl0 rfl) rfl) rfl)) (@slx _ _ _ _ _ _ _ (@sTx _ _ _ _ _ _ _ (by decide) (@slx _ _ _ _ _ _ _ sS (@slx _ _ _ _ _ _ _ (@sLx _ _ _ _ _ _ _ (by decide) (@slx _ _ _ _ _ _ _ (sV 8) sl0 rfl)) (@slx _ _ _ _ _ _ _ (@sLx _ _ _ _ _ _ _ (by decide) (@slx _ _ _ _ _ _ _ (sV 11) sl0 rfl)) sl0 rfl) rfl) rfl)) (@slx _ _ _ _ _ _ _ (@sTx _ _ _ _ _ _ _ (by decide) (@slx _ _ _ _ _ _ _ sS (@slx _ _ _ _ _ _ _ (@sLx _ _ _ _ _ _ _ (by decide) (@slx _ _ _ _ _ _ _ (@sTx _ _ _ _ _ _ _ (by decide) (@slx _ _ _ _ _ _ _ sS (@slx _ _ _ _ _ _ _ (sV 7) (@slx _ _ _ _ _ _ _ (sV 6) sl0 rfl) rfl) rfl)) sl0 rfl)) (@slx _ _ _ _ _ _ _ (@sLx _ _ _ _ _ _ _ (by decide) (@slx _ _ _ _ _ _ _ (@sTx _ _ _ _ _ _ _ (by decide) (@slx _ _ _ _ _ _ _ (sV 9) (@slx _ _ _ _ _ _ _ (sV 2) sl0 rfl) rfl)) sl0 rfl)) sl0 rfl) rfl) rfl)) (@slx _ _ _ _ _ _ _ (@sTx _ _ _ _ _ _ _ (by decide) (@slx _ _ _ _ _ _ _ sS (@slx _ _ _ _ _ _ _ (@sLx _ _ _ _ _ _ _ (by decide) (@slx _ _ _ _ _ _ _ (@sTx _ _ _ _ _ _ _ (by decide) (@slx _ _ _ _ _ _ _ sS (@slx _ _ _ _ _ _ _ (sV 7) (@slx _ _ _ _ _ _ _ (sV 6) sl0 rfl) rfl) rfl)) sl0 rfl)) (@slx _ _ _ _ _ _ _ (@sLx _ _ _ _ _ _ _ (by decide) (@slx _ _ _ _ _ _ _ (@sTx _ _ _ _ _ _ _ (by decide) (@slx _ _ _ _ _ _ _ (sV 9) (@slx _ _ _ _ _ _ _ (sV 2) sl0 rfl) rfl)) sl0 rfl)) sl0 rfl) rfl) rfl)) (@slx _ _ _ _ _ _ _ (@sTx _ _ _ _ _ _ _ (by decide) (@slx _ _ _ _ _ _ _ sS (@slx _ _ _ _ _ _ _ (@sLx _ _ _ _ _ _ _ (by decide) (@slx _ _ _ _ _ _ _ (sV 6) sl0 rfl)) (@slx _ _ _ _ _ _ _ (@sLx _ _ _ _ _ _ _ (by decide) (@slx _ _ _ _ _ _ _ (sV 2) sl0 rfl)) sl0 rfl) rfl) rfl)) (@slx _ _ _ _ _ _ _ (@sTx _ _ _ _ _ _ _ (by decide) (@slx _ _ _ _ _ _ _ sS (@slx _ _ _ _ _ _ _ (@sLx _ _ _ _ _ _ _ (by decide) (@slx _ _ _ _ _ _ _ (sV 7) sl0 rfl)) (@slx _ _ _ _ _ _ _ (@sLx _ _ _ _ _ _ _ (by decide) (@slx _ _ _ _ _ _ _ (sM 12) sl0 rfl)) sl0 rfl) rfl) rfl)) (@slx _ _ _ _ _ _ _ (@sTx _ _ _ _ _ _ _ (by decide) (@slx _ _ _ _ _ _ _ sS (@slx _ _ _ _ _ _ _ (@sLx _ _ _ _ _ _ _ (by decide) (@slx _ _ _ _ _ _ _ (@sTx _ _ _ _ _ _ _ (by decide) (@slx _ _ _ _ _ _ _ sS (@slx _ _ _ _ _ _ _ (sV 6) sl0 rfl) rfl)) sl0 rfl)) (@slx _ _ _ _ _ _ _ (@sLx _ _ _ _ _ _ _ (by decide) (@slx _ _ _ _ _ _ _ (sV 5) sl0 rfl)) sl0 rfl) rfl) rfl)) (@slx _ _ _ _ _ _ _ (@sTx _ _ _ _ _ _ _ (by decide) (@slx _ _ _ _ _ _ _ sS (@slx _ _ _ _ _ _ _ (@sLx _ _ _ _ _ _ _ (by decide) (@slx _ _ _ _ _ _ _ (sV 6) sl0 rfl)) (@slx _ _ _ _ _ _ _ (@sLx _ _ _ _ _ _ _ (by decide) (@slx _ _ _ _ _ _ _ (sV 2) sl0 rfl)) sl0 rfl) rfl) rfl)) (@slx _ _ _ _ _ _ _ (@sTx _ _ _ _ _ _ _ (by decide) (@slx _ _ _ _ _ _ _ sS (@slx _ _ _ _ _ _ _ (@sLx _ _ _ _ _ _ _ (by decide) (@slx _ _ _ _ _ _ _ (sV 6) sl0 rfl)) (@slx _ _ _ _ _ _ _ (@sLx _ _ _ _ _ _ _ (by decide) (@slx _ _ _ _ _ _ _ (sV 2) sl0 rfl)) sl0 rfl) rfl) rfl)) (@slx _ _ _ _ _ _ _ (@sTx _ _ _ _ _ _ _ (by decide) (@slx _ _ _ _ _ _ _ sS (@slx _ _ _ _ _ _ _ (@sLx _ _ _ _ _ _ _ (by decide) (@slx _ _ _ _ _ _ _ (sV 6) sl0 rfl)) (@slx _ _ _ _ _ _ _ (@sLx _ _ _ _ _ _ _ (by decide) (@slx _ _ _ _ _ _ _ (sV 2) sl0 rfl)) sl0 rfl) rfl) rfl)) (@slx _ _ _ _ _ _ _ (@sTx _ _ _ _ _ _ _ (by decide) (@slx _ _ _ _ _ _ _ sS (@slx _ _ _ _ _ _ _ (@sLx _ _ _ _ _ _ _ (by decide) (@slx _ _ _ _ _ _ _ (@sTx _ _ _ _ _ _ _ (by decide) (@slx _ _ _ _ _ _ _ sS (@slx _ _ _ _ _ _ _ (sV 6) sl0 rfl) rfl)) sl0 rfl)) (@slx _ _ _ _ _ _ _ (@sLx _ _ _ _ _ _ _ (by decide) (@slx _ _ _ _ _ _ _ (sV 5) sl0 rfl)) sl0 rfl) rfl) rfl)) sl0 rfl) rfl) rfl) rfl) rfl) rfl) rfl) rfl) rfl) rfl) rfl) rfl) rfl) rfl) rfl) rfl) rfl) rfl) rfl) rfl) rfl) rfl) rfl) rfl)) (cc (sM 0) sI) (λ_ _=>rfl)))))))))))))))
theorem Kw:Bd CX0 Cx.nox P w K mg base (n+2) C top "_law_beside" 95 ["row","rest","many","truths","halves","some","rows"] b6:=λf b A a s H E S c=>
 ((@ssc _ _ _ _ _ _ _ _ (@zA _ _ _ _ _ _ _ 2 _ _ _ _ S (Lg (hm:=T.min) (ha:=sI) (hb:=(Ku (hm:=T.max) (ha:=sI) (hb:=(dg (bF (hm:=T.len) (ha:=(sV 0))) (@sIxx _ _ _ _ _ _ _ _ _ (@sLx _ _ _ _ _ _ _ (by decide) (@slx _ _ _ _ _ _ _ sI (@slx _ _ _ _ _ _ _ sI (@slx _ _ _ _ _ _ _ sI (@slx _ _ _ _ _ _ _ sI (@slx _ _ _ _ _ _ _ (jo sI) sl0 rfl) rfl) rfl) rfl) rfl)) (cc (df (sV 1) sI) sI) (λ_ _=>rfl))))))) rfl rfl rfl rfl rfl rfl)
    (@ssc _ _ _ _ _ _ _ _ (zC1 3 [1] [1] [("rest",s.heap.objs.size+1)] ["rest"] (vq (hm:=T.range) (ha:=(sV 2))) (λ_ _ _ _=>(sEq c (cc (dg (sV 1) (lu (sV 0) (sV 0))) sI) sI)) csc (cloc .nil) (frc .nil) S)
    (@ssc _ _ _ _ _ _ _ _ (@zA _ _ _ _ _ _ _ 4 _ _ _ _ S (lj (@sLx _ _ _ _ _ _ _ (by decide) (@slx _ _ _ _ _ _ _ (df (bF (hm:=T.len) (ha:=(sV 0))) sI) (@slx _ _ _ _ _ _ _ sI (@slx _ _ _ _ _ _ _ (eR (bF (hm:=T.len) (ha:=(sV 0))) (df (bF (hm:=T.len) (ha:=(sV 0))) sI)) (@slx _ _ _ _ _ _ _ sI sl0 rfl) rfl) rfl) rfl)) (eR sI (cc (df (sV 1) sI) sI))) rfl rfl rfl rfl rfl rfl)
    (@ssc _ _ _ _ _ _ _ _ (@zA _ _ _ _ _ _ _ 5 _ _ _ _ S (@sLx _ _ _ _ _ _ _ (by decide) (@slx _ _ _ _ _ _ _ (sV 4) (@slx _ _ _ _ _ _ _ (dg (sV 4) (@sLx _ _ _ _ _ _ _ (by decide) (@slx _ _ _ _ _ _ _ (eR (cc (df (sV 1) sI) sI) sI) sl0 rfl))) (@slx _ _ _ _ _ _ _ (@sLx _ _ _ _ _ _ _ (by decide) (@slx _ _ _ _ _ _ _ (jo sI) (@slx _ _ _ _ _ _ _ (dg (bF (hm:=T.len) (ha:=(sV 0))) sI) sl0 rfl) rfl)) (@slx _ _ _ _ _ _ _ (@sLx _ _ _ _ _ _ _ (by decide) sl0) (@slx _ _ _ _ _ _ _ (@sLx _ _ _ _ _ _ _ (by decide) (@slx _ _ _ _ _ _ _ (bF (hm:=T.len) (ha:=(sV 0))) sl0 rfl)) sl0 rfl) rfl) rfl) rfl) rfl)) rfl rfl rfl rfl rfl rfl)
    (@ssc _ _ _ _ _ _ _ _ (@zA _ _ _ _ _ _ _ 6 _ _ _ _ S (lj (@sLx _ _ _ _ _ _ _ (by decide) (@slx _ _ _ _ _ _ _ (lj (sV 0) sI) (@slx _ _ _ _ _ _ _ (@sLx _ _ _ _ _ _ _ (by decide) sl0) (@slx _ _ _ _ _ _ _ (lj (sV 0) (cc (df (sV 1) sI) sI)) (@slx _ _ _ _ _ _ _ (lj (sV 0) sI) (@slx _ _ _ _ _ _ _ (@sLx _ _ _ _ _ _ _ (by decide) (@slx _ _ _ _ _ _ _ sI sl0 rfl)) sl0 rfl) rfl) rfl) rfl) rfl)) (cc (df (sV 1) sI) sI)) rfl rfl rfl rfl rfl rfl)
    (ss1 (ai (@sTx _ _ _ _ _ _ _ (by decide) (@slx _ _ _ _ _ _ _ (sM 3) (@slx _ _ _ _ _ _ _ (@sIxx _ _ _ _ _ _ _ _ _ (sM 5) (cc (df (sM 1) sI) sI) (λ_ _=>rfl)) (@slx _ _ _ _ _ _ _ (sM 6) sl0 rfl) rfl) rfl))))))))))
theorem Lm:Bd CX0 Cx.nox P w K mg base (n+2) C top "_law_numbers" 94 ["cell","many"] bL:=λf c A b s H E S d=>
 ((@ssc _ _ _ _ _ _ _ _ (@zA _ _ _ _ _ _ _ 1 _ _ _ _ S (@sIxx _ _ _ _ _ _ _ _ _ (@sLx _ _ _ _ _ _ _ (by decide) (@slx _ _ _ _ _ _ _ sI (@slx _ _ _ _ _ _ _ sI (@slx _ _ _ _ _ _ _ sI (@slx _ _ _ _ _ _ _ sI (@slx _ _ _ _ _ _ _ sI (@slx _ _ _ _ _ _ _ sI (@slx _ _ _ _ _ _ _ sI (@slx _ _ _ _ _ _ _ sI sl0 rfl) rfl) rfl) rfl) rfl) rfl) rfl) rfl)) (cc (sV 0) sI) (λ_ _=>rfl)) rfl rfl rfl rfl rfl rfl)
    (ss1 (ai (sC1 [0,1] [0,1] [("many",s.heap.objs.size+2),("cell",s.heap.objs.size+1)] ["cell","many"] (vq (hm:=T.range) (ha:=(sV 1))) (λ_ _ _ _=>(sIf (Du (sV 2) sI) (az (cs.a _ _ _ rfl) d (@say _ _ _ _ _ _ _ (dg (df (sV 1) sI) (lu sI (sV 0))) sa0 rfl rfl)) (cc (dg (sV 1) (lu (sV 0) (sV 0))) sI))) csc (cloc (cloc .nil)) (frc (frc .nil)))))))
theorem KW:Bd CX0 Cx.nox P w K mg base (n+2) C top "_law_number" 93 ["cell","some"] bD:=λf b A a s H E S c=>
 ((@ssc _ _ _ _ _ _ _ _ (@zA _ _ _ _ _ _ _ 1 _ _ _ _ S (@sLx _ _ _ _ _ _ _ (by decide) (@slx _ _ _ _ _ _ _ sI (@slx _ _ _ _ _ _ _ sI (@slx _ _ _ _ _ _ _ (jo sI) (@slx _ _ _ _ _ _ _ (jv sI sI) (@slx _ _ _ _ _ _ _ (eR sI (jv sI sI)) (@slx _ _ _ _ _ _ _ (eR (jv sI sI) sI) (@slx _ _ _ _ _ _ _ (eR sI (jv sI sI)) (@slx _ _ _ _ _ _ _ (lu sI (jv sI sI)) (@slx _ _ _ _ _ _ _ sI (@slx _ _ _ _ _ _ _ (jo sI) (@slx _ _ _ _ _ _ _ (jv sI sI) (@slx _ _ _ _ _ _ _ sI (@slx _ _ _ _ _ _ _ sI sl0 rfl) rfl) rfl) rfl) rfl) rfl) rfl) rfl) rfl) rfl) rfl) rfl) rfl)) rfl rfl rfl rfl rfl rfl)
    (@ssc _ _ _ _ _ _ _ _ (@zA _ _ _ _ _ _ _ 1 _ _ _ _ S (dg (sV 1) (@sLx _ _ _ _ _ _ _ (by decide) (@slx _ _ _ _ _ _ _ sI (@slx _ _ _ _ _ _ _ sI (@slx _ _ _ _ _ _ _ (jo sI) sl0 rfl) rfl) rfl))) rfl rfl rfl rfl rfl rfl)
    (@ssc _ _ _ _ _ _ _ _ (zIf (cY c (cc (sV 0) sI) sI) (ss1 (ai (eR (cc (df (sM 0) sI) (dg (lu sI (jv sI sI)) sI)) (jv sI sI)))) ss0)
    (@ss1 _ _ _ _ _ _ (@ai _ _ _ _ _ _ _ _ (@sIxx _ _ _ _ _ _ _ _ _ (sM 1) (cc (df (sM 0) sI) sI) (λ_ _=>rfl))))))))
theorem KR:Bd CX0 Cx.nox P w K mg base (n+2) C top "_law_once" 92 ["tree","worths","sign","good","one","other"] ak:=λf d A c s H E S b=>
 ((@ssc _ _ _ _ _ _ _ _ (@zA _ _ _ _ _ _ _ 2 _ _ _ _ S (@sIxx _ _ _ _ _ _ _ _ _ (sV 0) sI (λ_ _=>rfl)) rfl rfl rfl rfl rfl rfl)
    (@ssc _ _ _ _ _ _ _ _ (zIf (cY b (sV 2) sS) (ss1 (ai (@sTx _ _ _ _ _ _ _ (by decide) (@slx _ _ _ _ _ _ _ (@sIxx _ _ _ _ _ _ _ _ _ (sM 0) sI (λ_ _=>rfl)) (@slx _ _ _ _ _ _ _ sS sl0 rfl) rfl)))) ss0)
    (@ssc _ _ _ _ _ _ _ _ (zIf (fq (sV 2) (@sTx _ _ _ _ _ _ _ (by decide) (@slx _ _ _ _ _ _ _ sS (@slx _ _ _ _ _ _ _ sS (@slx _ _ _ _ _ _ _ sS sl0 rfl) rfl) rfl))) (ss1 (ai (@sTx _ _ _ _ _ _ _ (by decide) (@slx _ _ _ _ _ _ _ (sIf (cY b (sV 2) sS) (@sLx _ _ _ _ _ _ _ (by decide) sl0) (sEq b (sV 2) sS)) (@slx _ _ _ _ _ _ _ sS sl0 rfl) rfl)))) ss0)
    (@ssc _ _ _ _ _ _ _ _ (zIf (cY b (sV 2) sS) (ss1 (ai (@sTx _ _ _ _ _ _ _ (by decide) (@slx _ _ _ _ _ _ _ (Kc (@sIxx _ _ _ _ _ _ _ _ _ (sM 1) sI (λ_ _=>rfl))) (@slx _ _ _ _ _ _ _ sS sl0 rfl) rfl)))) ss0)
    (@ssc _ _ _ _ _ _ _ _ (zIf (fq (sV 2) (@sTx _ _ _ _ _ _ _ (by decide) (@slx _ _ _ _ _ _ _ sS (@slx _ _ _ _ _ _ _ sS sl0 rfl) rfl))) (ss1 (ai (@sTx _ _ _ _ _ _ _ (by decide) (@slx _ _ _ _ _ _ _ (@sIxx _ _ _ _ _ _ _ _ _ (@sIxx _ _ _ _ _ _ _ _ _ (sM 1) sI (λ_ _=>rfl)) (HZ (hm:=T.int) (ha:=(sEq b (sM 2) sS))) (λ_ _=>rfl)) (@slx _ _ _ _ _ _ _ sS sl0 rfl) rfl)))) ss0)
    (@ssc _ _ _ _ _ _ _ _ (zIf (fq (sV 2) (@sTx _ _ _ _ _ _ _ (by decide) (@slx _ _ _ _ _ _ _ sS (@slx _ _ _ _ _ _ _ sS sl0 rfl) rfl))) (ss1 (ai (@sTx _ _ _ _ _ _ _ (by decide) (@slx _ _ _ _ _ _ _ (sIf (cY b (sM 2) sS) (kz (hm:=T.tup) (ha:=(sV 1))) (IS (hm:=T.list) (ha:=(sV 1)))) (@slx _ _ _ _ _ _ _ sS sl0 rfl) rfl)))) ss0)
    (@ssc _ _ _ _ _ _ _ _ (zIf (cY b (sV 2) sS) (@ssc _ _ _ _ _ _ _ _ (@zA _ _ _ _ _ _ _ 3 _ _ _ _ S (sBW (mH (sGe (@sIxx _ _ _ _ _ _ _ _ _ (sV 1) sI (fun _ _=>rfl)) sI) (vA1 (sLe (@sIxx _ _ _ _ _ _ _ _ _ (sV 1) sI (fun _ _=>rfl)) sI)))) rfl rfl rfl rfl rfl rfl)
     (ss1 (ai (@sTx _ _ _ _ _ _ _ (by decide) (@slx _ _ _ _ _ _ _ (sIf (tB (sV 3)) (JG T.list T.range (@sIxx _ _ _ _ _ _ _ _ _ (sM 1) sI (λ_ _=>rfl))) (@sLx _ _ _ _ _ _ _ (by decide) sl0)) (@slx _ _ _ _ _ _ _ (sIf (tB (sV 3)) sS sS) sl0 rfl) rfl))))) ss0)
    (@ssc _ _ _ _ _ _ _ _ (zIf (fq (sV 2) (@sTx _ _ _ _ _ _ _ (by decide) (@slx _ _ _ _ _ _ _ sS (@slx _ _ _ _ _ _ _ sS (@slx _ _ _ _ _ _ _ sS sl0 rfl) rfl) rfl))) (@ssc _ _ _ _ _ _ _ _ (Jt 4 5 S (sV 1))
     (ss1 (ai (@sTx _ _ _ _ _ _ _ (by decide) (@slx _ _ _ _ _ _ _ (@sIxx _ _ _ _ _ _ _ _ _ (@sLx _ _ _ _ _ _ _ (by decide) (@slx _ _ _ _ _ _ _ (LF (sV 4) (sV 5)) (@slx _ _ _ _ _ _ _ (sEq b (sV 4) (sV 5)) (@slx _ _ _ _ _ _ _ (sBW (mH (sV 4) (vA1 (sV 5)))) sl0 rfl) rfl) rfl)) (BN (@sLx _ _ _ _ _ _ _ (by decide) (@slx _ _ _ _ _ _ _ sS (@slx _ _ _ _ _ _ _ sS (@slx _ _ _ _ _ _ _ sS sl0 rfl) rfl) rfl)) (sM 2)) (λ_ _=>rfl)) (@slx _ _ _ _ _ _ _ sS sl0 rfl) rfl))))) ss0)
    (@ssc _ _ _ _ _ _ _ _ (zIf (fq (sV 2) (@sTx _ _ _ _ _ _ _ (by decide) (@slx _ _ _ _ _ _ _ sS (@slx _ _ _ _ _ _ _ sS (@slx _ _ _ _ _ _ _ sS (@slx _ _ _ _ _ _ _ sS (@slx _ _ _ _ _ _ _ sS sl0 rfl) rfl) rfl) rfl) rfl))) (ss1 (ai (az (cs.a _ _ _ rfl) b (@say _ _ _ _ _ _ _ (sM 2) (@say _ _ _ _ _ _ _ (@sIxx _ _ _ _ _ _ _ _ _ (sV 1) sI (λ_ _=>rfl)) (@say _ _ _ _ _ _ _ (@sIxx _ _ _ _ _ _ _ _ _ (sV 1) sI (λ_ _=>rfl)) sa0 rfl rfl) rfl rfl) rfl rfl)))) ss0)
    (@ssc _ _ _ _ _ _ _ _ (zIf (fq (sV 2) (@sTx _ _ _ _ _ _ _ (by decide) (@slx _ _ _ _ _ _ _ sS (@slx _ _ _ _ _ _ _ sS (@slx _ _ _ _ _ _ _ sS (@slx _ _ _ _ _ _ _ sS (@slx _ _ _ _ _ _ _ sS sl0 rfl) rfl) rfl) rfl) rfl))) (ss1 (ai (az (cs.a _ _ _ rfl) b (@say _ _ _ _ _ _ _ (sM 2) (@say _ _ _ _ _ _ _ (@sIxx _ _ _ _ _ _ _ _ _ (sM 1) sI (λ_ _=>rfl)) sa0 rfl rfl) rfl rfl)))) ss0)
    (ss1 (ai (az (cs.a _ _ _ rfl) b (@say _ _ _ _ _ _ _ (sM 2) (@say _ _ _ _ _ _ _ (@sIxx _ _ _ _ _ _ _ _ _ (sV 1) sI (λ_ _=>rfl)) (@say _ _ _ _ _ _ _ (@sIxx _ _ _ _ _ _ _ _ _ (sV 1) sI (λ_ _=>rfl)) sa0 rfl rfl) rfl rfl) rfl rfl)))))))))))))))
theorem LB:Bd CX0 Cx.nox P w K mg base (n+2) C top "_law_of_two" 91 ["sign","one","other","found","k"] av:=λf c A b s H E S a=>
 ((@ssc _ _ _ _ _ _ _ _ (zIf (cY a (sV 0) sS) (ss1 (ai (@sTx _ _ _ _ _ _ _ (by decide) (@slx _ _ _ _ _ _ _ (dg (sV 1) (sV 2)) (@slx _ _ _ _ _ _ _ (sIf (kZ (dg (bF (hm:=T.len) (ha:=(sV 1))) (bF (hm:=T.len) (ha:=(sV 2)))) sI) sS sS) sl0 rfl) rfl)))) ss0)
    (@ssc _ _ _ _ _ _ _ _ (zIf (cY a (sV 0) sS) (@ssc _ _ _ _ _ _ _ _ (zIf (tW (wOr (Du (sV 2) sI) (wO1 (LC (sV 2) (bF (hm:=T.len) (ha:=(sV 1))))))) (ss1 (ai (@sTx _ _ _ _ _ _ _ (by decide) (@slx _ _ _ _ _ _ _ sI (@slx _ _ _ _ _ _ _ sS sl0 rfl) rfl)))) ss0)
     (ss1 (ai (@sTx _ _ _ _ _ _ _ (by decide) (@slx _ _ _ _ _ _ _ (@sIxx _ _ _ _ _ _ _ _ _ (sM 1) (sM 2) (λ_ _=>rfl)) (@slx _ _ _ _ _ _ _ sS sl0 rfl) rfl))))) ss0)
    (@ssc _ _ _ _ _ _ _ _ (zIf (cY a (sV 0) sS) (@ssc _ _ _ _ _ _ _ _ (zIf (um a (bF (hm:=T.len) (ha:=(sV 1))) (bF (hm:=T.len) (ha:=(sV 2)))) (ss1 (ai (@sTx _ _ _ _ _ _ _ (by decide) (@slx _ _ _ _ _ _ _ (@sLx _ _ _ _ _ _ _ (by decide) sl0) (@slx _ _ _ _ _ _ _ sS sl0 rfl) rfl)))) ss0)
     (ss1 (ai (@sTx _ _ _ _ _ _ _ (by decide) (@slx _ _ _ _ _ _ _ (Jq [1,2] [1,2] [("other",s.heap.objs.size+2),("one",s.heap.objs.size+1)] ["one","other"] (vq (hm:=T.range) (ha:=(bF (hm:=T.len) (ha:=(sV 1))))) (λ_ _ _ _=>(tB (@sIxx _ _ _ _ _ _ _ _ _ (sV 2) (sV 0) (λ_ _=>rfl)))) (λ_ _ _ _=>(@sIxx _ _ _ _ _ _ _ _ _ (sV 1) (sV 0) (λ_ _=>rfl))) csc (cloc (cloc .nil)) (frc (frc .nil))) (@slx _ _ _ _ _ _ _ sS sl0 rfl) rfl))))) ss0)
    (@ssc _ _ _ _ _ _ _ _ (zIf (tW (wOr (kZ (bF (hm:=T.len) (ha:=(Jq [] [] [] [] (gi (sV 2)) (λ_ _ _ _=>(Du (sV 0) sI)) (λ_ _ _ _=>(sV 0)) csc .nil .nil))) sI) (wO1 (um a (ro (hm:=T.sum) (ha:=(sV 2))) (bF (hm:=T.len) (ha:=(sV 1))))))) (ss1 (ai (@sTx _ _ _ _ _ _ _ (by decide) (@slx _ _ _ _ _ _ _ (@sLx _ _ _ _ _ _ _ (by decide) sl0) (@slx _ _ _ _ _ _ _ sS sl0 rfl) rfl)))) ss0)
    (@ssc _ _ _ _ _ _ _ _ (@zA _ _ _ _ _ _ _ 3 _ _ _ _ S (@sLx _ _ _ _ _ _ _ (by decide) sl0) rfl rfl rfl rfl rfl rfl)
    (@ssc _ _ _ _ _ _ _ _ (ia 4 S (vq (hm:=T.range) (ha:=(bF (hm:=T.len) (ha:=(sV 2))))) (ss1 (EV 3 (Li (sV 1) (ro (hm:=T.sum) (ha:=(lj (sV 2) (sV 4)))) (ro (hm:=T.sum) (ha:=(lj (sV 2) (dg (sV 4) sI))))))))
    (ss1 (ai (@sTx _ _ _ _ _ _ _ (by decide) (@slx _ _ _ _ _ _ _ (sM 3) (@slx _ _ _ _ _ _ _ sS sl0 rfl) rfl)))))))))))
theorem LV:Bd CX0 Cx.nox P w K mg base (n+2) C top "_law_of_row" 90 ["sign","row","found","one","sums","number","word"] aH:=λf c A b s H E S a=>
 ((@ssc _ _ _ _ _ _ _ _ (zIf (cY a (sV 0) sS) (ss1 (ai (@sTx _ _ _ _ _ _ _ (by decide) (@slx _ _ _ _ _ _ _ (bF (hm:=T.len) (ha:=(sM 1))) (@slx _ _ _ _ _ _ _ sS sl0 rfl) rfl)))) ss0)
    (@ssc _ _ _ _ _ _ _ _ (zIf (cY a (sV 0) sS) (ss1 (ai (@sTx _ _ _ _ _ _ _ (by decide) (@slx _ _ _ _ _ _ _ (sIf (kZ (bF (hm:=T.len) (ha:=(sV 1))) sI) (@sIxx _ _ _ _ _ _ _ _ _ (uP (hm:=T.sorted) (ha:=(sV 1))) (jo sI) (λ_ _=>rfl)) sI) (@slx _ _ _ _ _ _ _ (sIf (kZ (bF (hm:=T.len) (ha:=(sV 1))) sI) sS sS) sl0 rfl) rfl)))) ss0)
    (@ssc _ _ _ _ _ _ _ _ (zIf (cY a (sV 0) sS) (@ssc _ _ _ _ _ _ _ _ (@zA _ _ _ _ _ _ _ 2 _ _ _ _ S (@sLx _ _ _ _ _ _ _ (by decide) sl0) rfl rfl rfl rfl rfl rfl)
     (@ssc _ _ _ _ _ _ _ _ (ia 3 S (gi (sV 1)) (ss1 (IF 2 (sV 3))))
     (ss1 (ai (@sTx _ _ _ _ _ _ _ (by decide) (@slx _ _ _ _ _ _ _ (sV 2) (@slx _ _ _ _ _ _ _ (sIf (kZ (bF (hm:=T.len) (ha:=(sV 2))) sI) sS sS) sl0 rfl) rfl)))))) ss0)
    (@ssc _ _ _ _ _ _ _ _ (@zA _ _ _ _ _ _ _ 4 _ _ _ _ S (@sLx _ _ _ _ _ _ _ (by decide) (@slx _ _ _ _ _ _ _ sI sl0 rfl)) rfl rfl rfl rfl rfl rfl)
    (@ssc _ _ _ _ _ _ _ _ (ia 5 S (gi (sV 1)) (ss1 (EV 4 (dg (@sIxx _ _ _ _ _ _ _ _ _ (sV 4) (jo sI) (λ_ _=>rfl)) (sV 5)))))
    (@ssc _ _ _ _ _ _ _ _ (@zA _ _ _ _ _ _ _ 6 _ _ _ _ S (sIf (kZ (BK (hm:=T.max) (ha:=(sC1 [] [] [] [] (gi (sV 4)) (λ_ _ _ _=>(Kf (hm:=T.abs) (ha:=(sV 0)))) csc .nil .nil))) (jv sI sI)) sS sS) rfl rfl rfl rfl rfl rfl)
    (ss1 (ai (@sTx _ _ _ _ _ _ _ (by decide) (@slx _ _ _ _ _ _ _ (sIf (cY a (sM 0) sS) (@sIxx _ _ _ _ _ _ _ _ _ (sV 4) (jo sI) (λ_ _=>rfl)) (lj (sV 4) (jo sI))) (@slx _ _ _ _ _ _ _ (sM 6) sl0 rfl) rfl)))))))))))
theorem K1:Bd CX0 Cx.nox P w K mg base (n+2) C top "_law_reckoned" 89 ["sign","one","other","found"] aI:=λf c A a s H E S b=>
 ((@ssc _ _ _ _ _ _ _ _ (zIf (fq (sV 0) (@sTx _ _ _ _ _ _ _ (by decide) (@slx _ _ _ _ _ _ _ sS (@slx _ _ _ _ _ _ _ sS sl0 rfl) rfl))) (@ssc _ _ _ _ _ _ _ _ (zIf (cY b (sV 2) sI) (ss1 (ai (@sTx _ _ _ _ _ _ _ (by decide) (@slx _ _ _ _ _ _ _ sI (@slx _ _ _ _ _ _ _ sS sl0 rfl) rfl)))) ss0)
      (ss1 (ai (@sTx _ _ _ _ _ _ _ (by decide) (@slx _ _ _ _ _ _ _ (@sIxx _ _ _ _ _ _ _ _ _ (@sLx _ _ _ _ _ _ _ (by decide) (@slx _ _ _ _ _ _ _ (xy (sV 1) (sV 2)) (@slx _ _ _ _ _ _ _ (eR (sV 1) (lu (xy (sV 1) (sV 2)) (sV 2))) sl0 rfl) rfl)) (HZ (hm:=T.int) (ha:=(sEq b (sM 0) sS))) (λ_ _=>rfl)) (@slx _ _ _ _ _ _ _ sS sl0 rfl) rfl))))) ss0)
    (@ssc _ _ _ _ _ _ _ _ (@zA _ _ _ _ _ _ _ 3 _ _ _ _ S (@sIxx _ _ _ _ _ _ _ _ _ (@sLx _ _ _ _ _ _ _ (by decide) (@slx _ _ _ _ _ _ _ (dg (sV 1) (sV 2)) (@slx _ _ _ _ _ _ _ (eR (sV 1) (sV 2)) (@slx _ _ _ _ _ _ _ (lu (sV 1) (sV 2)) sl0 rfl) rfl) rfl)) (BN (@sLx _ _ _ _ _ _ _ (by decide) (@slx _ _ _ _ _ _ _ sS (@slx _ _ _ _ _ _ _ sS (@slx _ _ _ _ _ _ _ sS sl0 rfl) rfl) rfl)) (sV 0)) (λ_ _=>rfl)) rfl rfl rfl rfl rfl rfl)
    (ss1 (ai (@sTx _ _ _ _ _ _ _ (by decide) (@slx _ _ _ _ _ _ _ (sV 3) (@slx _ _ _ _ _ _ _ (sIf (kZ (Kf (hm:=T.abs) (ha:=(sV 3))) (jv sI sI)) sS sS) sl0 rfl) rfl)))))))
theorem LJ:Bd CX0 Cx.nox P w K mg base (n+2) C top "_law_alike" 88 ["found","due"] ax:=λf d A c s H E S b=>
 ((@ssc _ _ _ _ _ _ _ _ (zIf (tB (JY (by decide) PN (by decide) Pg T.isin T.tup T.list (sV 1))) (@ssc _ _ _ _ _ _ _ _ (zIf (tW (wOr (um b (dC (by decide) PN T.isin T.tup (sV 1)) (dC (by decide) PN T.isin T.tup (sV 0))) (wO1 (um b (dC (by decide) Pg T.isin T.list (sV 1)) (dC (by decide) Pg T.isin T.list (sV 0)))))) (ss1 (ai sO)) ss0)
      (ss1 (ai (sBW (mH (sEq b (bF (hm:=T.len) (ha:=(sV 0))) (bF (hm:=T.len) (ha:=(sV 1)))) (vA1 (L0 (hm:=T.all) (ha:=(sC2 [] [] [] [] (vP (hm:=T.zip) (ha:=(sV 0)) (hb:=(sV 1))) (λ_ _ _ _=>(az (cs.a _ _ _ rfl) b (@say _ _ _ _ _ _ _ (sV 0) (@say _ _ _ _ _ _ _ (sV 1) sa0 rfl rfl) rfl rfl))) csc .nil .nil))))))))) ss0)
    (@ssc _ _ _ _ _ _ _ _ (zIf (tW (wOr (tB (dC (by decide) Qv T.isin T.bool (sV 1))) (wO1 (tB (dC (by decide) Qv T.isin T.bool (sV 0)))))) (ss1 (ai (sBW (mH (dC (by decide) Qv T.isin T.bool (sV 1)) (mH (dC (by decide) Qv T.isin T.bool (sV 0)) (vA1 (sEq b (sV 0) (sV 1)))))))) ss0)
    (@ssc _ _ _ _ _ _ _ _ (zIf (tB (dC (by decide) Q0 T.isin T.int (sV 1))) (ss1 (ai (sBW (mH (dC (by decide) Q0 T.isin T.int (sV 0)) (vA1 (sEq b (sV 0) (sM 1))))))) ss0)
    (@ssc _ _ _ _ _ _ _ _ (zIf (KQ (sV 1) sN) (ss1 (ai (sIs (sM 0) sN))) ss0)
    (ss1 (ai (sBW (mH (dC (by decide) S3 T.isin T.str (sV 0)) (vA1 (sEq b (sV 0) (sM 1))))))))))))
theorem LD:Bd CX0 Cx.nox P w K mg base (n+2) C top "read" 86 ["program","worths"] ib:=λf d A b s H E S c=>
 ((ss1<|ai<|az (cs.a _ _ _ rfl) c<|@say _ _ _ _ _ _ _ (az (cs.a _ _ _ rfl) c<|@say _ _ _ _ _ _ _ (sM 0) (@say _ _ _ _ _ _ _ (sM 1) (@say _ _ _ _ _ _ _ sN sa0 rfl rfl) rfl rfl) rfl rfl) sa0 rfl rfl))
theorem Kq:Bd CX0 Cx.nox P w K mg base (n+2) C top "worth_of" 76 ["tree","place","around","ins","told"] aS:=λf d A c s H E S b=>
 ((@ssc _ _ _ _ _ _ _ _ (zIf (cY b (@sIxx _ _ _ _ _ _ _ _ _ (sV 0) sI (λ_ _=>rfl)) sS) (ss1 (ai (wx b (j5 (sM 2)) (@sIxx _ _ _ _ _ _ _ _ _ (sM 0) sI (λ_ _=>rfl))))) ss0)
    (@ssc _ _ _ _ _ _ _ _ (zIf (AA G.k_WAYS (@sIxx _ _ _ _ _ _ _ _ _ (sV 0) sI (λ_ _=>rfl))) (ss1 (ai (kh cs.t_WAYS b (@sIxx _ _ _ _ _ _ _ _ _ (sV 0) sI (λ_ _=>rfl)) (@say _ _ _ _ _ _ _ (sV 0) (@say _ _ _ _ _ _ _ (sM 1) (@say _ _ _ _ _ _ _ (sM 2) sa0 rfl rfl) rfl rfl) rfl rfl)))) ss0)
    (@ssc _ _ _ _ _ _ _ _ (zC2 3 [2,1] [2,1] [("place",s.heap.objs.size+1),("around",s.heap.objs.size+2)] ["around","place"] (xi (hm:=T.enum) (ha:=(az (cs.a _ _ _ rfl) b (@say _ _ _ _ _ _ _ (sV 0) sa0 rfl rfl)))) (λ_ _ _ _=>(az (cs.a _ _ _ rfl) b (@say _ _ _ _ _ _ _ (sV 1) (@say _ _ _ _ _ _ _ (BM (sV 3) (@sTx _ _ _ _ _ _ _ (by decide) (@slx _ _ _ _ _ _ _ (sV 0) sl0 rfl))) (@say _ _ _ _ _ _ _ (sV 2) sa0 rfl rfl) rfl rfl) rfl rfl))) csc (cloc (cloc .nil)) (frc (frc .nil)) S)
    (@ssc _ _ _ _ _ _ _ _ (@zA _ _ _ _ _ _ _ 4 _ _ _ _ S (az (cs.a _ _ _ rfl) b (@say _ _ _ _ _ _ _ (sV 0) (@say _ _ _ _ _ _ _ (sV 3) sa0 rfl rfl) rfl rfl)) rfl rfl rfl rfl rfl rfl)
    (@ssc _ _ _ _ _ _ _ _ (zIf (rC (@sIxx _ _ _ _ _ _ _ _ _ (sV 4) sI (λ_ _=>rfl)) sN) (ss1 (qQ xs.n_Stop (by decide) b (@slx _ _ _ _ _ _ _ (@sIxx _ _ _ _ _ _ _ _ _ (sV 4) sI (λ_ _=>rfl)) (@slx _ _ _ _ _ _ _ (sV 1) (@slx _ _ _ _ _ _ _ (j5 (sV 2)) sl0 rfl) rfl) rfl))) ss0)
    (@ssc _ _ _ _ _ _ _ _ (zIf (rC (j5 (sV 2)) sN) vk ss0)
    (@ss1 _ _ _ _ _ _ (@ai _ _ _ _ _ _ _ _ (@sIxx _ _ _ _ _ _ _ _ _ (sM 4) sI (λ_ _=>rfl)))))))))))
theorem Ly:Bd (CX1 P w) id P w K mg base (n+2) C top "worth_of" 76 ["tree","place","around","ins","told"] aS:=λf d A c s H E S b=>
 ((@ssc _ _ _ _ _ _ _ _ (zIf (cY b (@sIxx _ _ _ _ _ _ _ _ _ (sV 0) sI (λ_ _=>rfl)) sS) (ss1 (ai (wx b (j5 (sM 2)) (@sIxx _ _ _ _ _ _ _ _ _ (sM 0) sI (λ_ _=>rfl))))) ss0)
    (@ssc _ _ _ _ _ _ _ _ (zIf (AA G.k_WAYS (@sIxx _ _ _ _ _ _ _ _ _ (sV 0) sI (λ_ _=>rfl))) (ss1 (ai (kh cs.t_WAYS b (@sIxx _ _ _ _ _ _ _ _ _ (sV 0) sI (λ_ _=>rfl)) (@say _ _ _ _ _ _ _ (sV 0) (@say _ _ _ _ _ _ _ (sM 1) (@say _ _ _ _ _ _ _ (sM 2) sa0 rfl rfl) rfl rfl) rfl rfl)))) ss0)
    (@ssc _ _ _ _ _ _ _ _ (zC2 3 [2,1] [2,1] [("place",s.heap.objs.size+1),("around",s.heap.objs.size+2)] ["around","place"] (xi (hm:=T.enum) (ha:=(az (cs.a _ _ _ rfl) b (@say _ _ _ _ _ _ _ (sV 0) sa0 rfl rfl)))) (λ_ _ _ _=>(az (cs.a _ _ _ rfl) b (@say _ _ _ _ _ _ _ (sV 1) (@say _ _ _ _ _ _ _ (BM (sV 3) (@sTx _ _ _ _ _ _ _ (by decide) (@slx _ _ _ _ _ _ _ (sV 0) sl0 rfl))) (@say _ _ _ _ _ _ _ (sV 2) sa0 rfl rfl) rfl rfl) rfl rfl))) csc (cloc (cloc .nil)) (frc (frc .nil)) S)
    (@ssc _ _ _ _ _ _ _ _ (@zA _ _ _ _ _ _ _ 4 _ _ _ _ S (az (cs.a _ _ _ rfl) b (@say _ _ _ _ _ _ _ (sV 0) (@say _ _ _ _ _ _ _ (sV 3) sa0 rfl rfl) rfl rfl)) rfl rfl rfl rfl rfl rfl)
    (@ssc _ _ _ _ _ _ _ _ (zIf (rC (@sIxx _ _ _ _ _ _ _ _ _ (sV 4) sI (λ_ _=>rfl)) sN) (ss1 (qQ xs.n_Stop (by decide) b (@slx _ _ _ _ _ _ _ (@sIxx _ _ _ _ _ _ _ _ _ (sV 4) sI (λ_ _=>rfl)) (@slx _ _ _ _ _ _ _ (sV 1) (@slx _ _ _ _ _ _ _ (j5 (sV 2)) sl0 rfl) rfl) rfl))) ss0)
    (@ssc _ _ _ _ _ _ _ _ (zIf (rC (j5 (sV 2)) sN) vk ss0)
    (@ss1 _ _ _ _ _ _ (@ai _ _ _ _ _ _ _ _ (@sIxx _ _ _ _ _ _ _ _ _ (sM 4) sI (λ_ _=>rfl)))))))))))
theorem Ls:Bd CX0 Cx.nox P w K mg base (n+2) C top "reading" 75 ["program","worths","book","names","head","worth","stop","told"] f_reading:=λf d A c s H E S a=>
 ((@ssc _ _ _ _ _ _ _ _ (@zA _ _ _ _ _ _ _ 3 _ _ _ _ S Jd rfl rfl rfl rfl rfl rfl)
    (@ssc _ _ _ _ _ _ _ _ (JL 4 5 S (vP (hm:=T.zip) (ha:=(@sIxx _ _ _ _ _ _ _ _ _ (sV 0) sI (λ_ _=>rfl))) (hb:=(sV 1))) (ss1 (Jn 3 a (sV 5) (@sIxx _ _ _ _ _ _ _ _ _ (sV 4) sI (λ_ _=>rfl)))))
    (@ssc _ _ _ _ _ _ _ _ (Hd 6 S xs.b_Stop (λ_ _=>(ss1 (Jx 7 S (G7 (cs.b _ _ rfl) a (@slx _ _ _ _ _ _ _ (@sIxx _ _ _ _ _ _ _ _ _ (sV 0) sI (λ_ _=>rfl)) (@slx _ _ _ _ _ _ _ (@sTx _ _ _ _ _ _ _ (by decide) sl0) (@slx _ _ _ _ _ _ _ (K7 xs.p_Around a (@slx _ _ _ _ _ _ _ (sV 3) (@slx _ _ _ _ _ _ _ (@sTx _ _ _ _ _ _ _ (by decide) sl0) (@slx _ _ _ _ _ _ _ (@sTx _ _ _ _ _ _ _ (by decide) sl0) (@slx _ _ _ _ _ _ _ (sV 2) sl0 rfl) rfl) rfl) rfl)) sl0 rfl) rfl) rfl))))) (λ_=>(ss1 (ai (@sTx _ _ _ _ _ _ _ (by decide) (@slx _ _ _ _ _ _ _ sS (@slx _ _ _ _ _ _ _ (DM (sV 6) xs.f_word) (@slx _ _ _ _ _ _ _ (DM (sV 6) xs.f_place) (@slx _ _ _ _ _ _ _ (DM (sV 6) xs.f_turns) sl0 rfl) rfl) rfl) rfl))))))
    (ss1 (ai (@sTx _ _ _ _ _ _ _ (by decide) (@slx _ _ _ _ _ _ _ sS (@slx _ _ _ _ _ _ _ (sM 7) sl0 rfl) rfl))))))))
theorem K8:Bd CX0 Cx.nox P w K mg base (n+2) C top "parts" 65 ["tree"] fX:=λf c A b s H E S d=>
 ((ss1 (ai (Kx (sV 0) (az (cs.a _ _ _ rfl) d (@say _ _ _ _ _ _ _ (@sIxx _ _ _ _ _ _ _ _ _ (sV 0) sI (λ_ _=>rfl)) sa0 rfl rfl))))))
theorem LG:Bd CX0 Cx.nox P w K mg base (n+2) C top "parts_start" 64 ["sign"] aZ:=λf b A a s H E S c=>
 ((ss1<|ai<|sIf (AA G.k_AHEAD<|sM 0) sI sI))
theorem D75:Bd CX0 Cx.nox P w K mg base (n+2) C top "word_of_cut" 57 ["ins"] bS:=λf c A b s H E S d=>
 ((ss1 (ai (az (cs.a _ _ _ rfl) d (@say _ _ _ _ _ _ _ (bF (hm:=T.len) (ha:=(@sIxx _ _ _ _ _ _ _ _ _ (sV 0) sI (λ_ _=>rfl)))) (@say _ _ _ _ _ _ _ (@sIxx _ _ _ _ _ _ _ _ _ (sV 0) sI (λ_ _=>rfl)) sa0 rfl rfl) rfl rfl)))))
theorem D74:Bd CX0 Cx.nox P w K mg base (n+2) C top "word_of_keep" 56 ["ins"] bz:=λf c A b s H E S d=>
 ((ss1 (ai (az (cs.a _ _ _ rfl) d (@say _ _ _ _ _ _ _ (bF (hm:=T.len) (ha:=(@sIxx _ _ _ _ _ _ _ _ _ (sV 0) sI (λ_ _=>rfl)))) (@say _ _ _ _ _ _ _ (bF (hm:=T.len) (ha:=(@sIxx _ _ _ _ _ _ _ _ _ (sV 0) sI (λ_ _=>rfl)))) sa0 rfl rfl) rfl rfl)))))
theorem D73:Bd CX0 Cx.nox P w K mg base (n+2) C top "word_of_join" 55 ["ins"] bw:=λf c A b s H E S d=>
 ((ss1 (ai (az (cs.a _ _ _ rfl) d (@say _ _ _ _ _ _ _ (dg (bF (hm:=T.len) (ha:=(@sIxx _ _ _ _ _ _ _ _ _ (sV 0) sI (λ_ _=>rfl)))) (bF (hm:=T.len) (ha:=(@sIxx _ _ _ _ _ _ _ _ _ (sV 0) sI (λ_ _=>rfl))))) sa0 rfl rfl)))))
theorem D72:Bd CX0 Cx.nox P w K mg base (n+2) C top "word_of_pick" 54 ["ins"] br:=λf c A b s H E S d=>
 ((ss1 (ai (az (cs.a _ _ _ rfl) d (@say _ _ _ _ _ _ _ (bF (hm:=T.len) (ha:=(@sIxx _ _ _ _ _ _ _ _ _ (sV 0) sI (λ_ _=>rfl)))) (@say _ _ _ _ _ _ _ (@sIxx _ _ _ _ _ _ _ _ _ (sV 0) sI (λ_ _=>rfl)) sa0 rfl rfl) rfl rfl)))))
theorem D71:Bd CX0 Cx.nox P w K mg base (n+2) C top "word_of_div" 53 ["ins"] bP:=λf c A b s H E S d=>
 ((ss1<|ai<|az (cs.a _ _ _ rfl) d<|@say _ _ _ _ _ _ _ (@sIxx _ _ _ _ _ _ _ _ _ (sM 0) sI λ_ _=>rfl) sa0 rfl rfl))
theorem D70:Bd CX0 Cx.nox P w K mg base (n+2) C top "word_of_mul" 52 ["ins"] bK:=λf c A b s H E S d=>
 ((ss1 (ai (az (cs.a _ _ _ rfl) d (@say _ _ _ _ _ _ _ (lu (@sIxx _ _ _ _ _ _ _ _ _ (sV 0) sI (λ_ _=>rfl)) (@sIxx _ _ _ _ _ _ _ _ _ (sV 0) sI (λ_ _=>rfl))) sa0 rfl rfl)))))
theorem D69:Bd CX0 Cx.nox P w K mg base (n+2) C top "word_of_sub" 51 ["ins"] bR:=λf c A b s H E S d=>
 ((ss1 (ai (az (cs.a _ _ _ rfl) d (@say _ _ _ _ _ _ _ (eR (@sIxx _ _ _ _ _ _ _ _ _ (sV 0) sI (λ_ _=>rfl)) (@sIxx _ _ _ _ _ _ _ _ _ (sV 0) sI (λ_ _=>rfl))) sa0 rfl rfl)))))
theorem D68:Bd CX0 Cx.nox P w K mg base (n+2) C top "word_of_add" 50 ["ins"] bQ:=λf c A b s H E S d=>
 ((ss1 (ai (az (cs.a _ _ _ rfl) d (@say _ _ _ _ _ _ _ (dg (@sIxx _ _ _ _ _ _ _ _ _ (sV 0) sI (λ_ _=>rfl)) (@sIxx _ _ _ _ _ _ _ _ _ (sV 0) sI (λ_ _=>rfl))) sa0 rfl rfl)))))
theorem D67:Bd CX0 Cx.nox P w K mg base (n+2) C top "word_of_flat" 49 ["ins"] bp:=λf c A b s H E S d=>
 ((ss1 (ai (az (cs.a _ _ _ rfl) d (@say _ _ _ _ _ _ _ (ro (hm:=T.sum) (ha:=(sC1 [] [] [] [] (gi (@sIxx _ _ _ _ _ _ _ _ _ (sM 0) sI (λ_ _=>rfl))) (λ_ _ _ _=>(bF (hm:=T.len) (ha:=(sV 0)))) csc .nil .nil))) sa0 rfl rfl)))))
theorem D66:Bd CX0 Cx.nox P w K mg base (n+2) C top "word_of_most" 48 ["ins"] aV:=λf c A b s H E S d=>
 ((ss1<|ai<|az (cs.a _ _ _ rfl) d<|@say _ _ _ _ _ _ _ (bF (hm:=T.len) (ha:=(@sIxx _ _ _ _ _ _ _ _ _ (sM 0) sI λ_ _=>rfl))) sa0 rfl rfl))
theorem D65:Bd CX0 Cx.nox P w K mg base (n+2) C top "word_of_sum" 47 ["ins"] a0:=λf c A b s H E S d=>
 ((ss1<|ai<|az (cs.a _ _ _ rfl) d<|@say _ _ _ _ _ _ _ (@sIxx _ _ _ _ _ _ _ _ _ (sM 0) sI λ_ _=>rfl) sa0 rfl rfl))
theorem D64:Bd CX0 Cx.nox P w K mg base (n+2) C top "word_of_upto" 46 ["ins"] aW:=λf c A b s H E S d=>
 ((ss1<|ai<|az (cs.a _ _ _ rfl) d<|@say _ _ _ _ _ _ _ (@sIxx _ _ _ _ _ _ _ _ _ (sM 0) sI λ_ _=>rfl) sa0 rfl rfl))
theorem D63:Bd CX0 Cx.nox P w K mg base (n+2) C top "do_cut" 44 ["ins"] eA:=λf b A a s H E S c=>
 ((ss1 (ai (az cs.c1 c (@say _ _ _ _ _ _ _ (@sIxx _ _ _ _ _ _ _ _ _ (sV 0) sI (λ_ _=>rfl)) (@say _ _ _ _ _ _ _ (@sIxx _ _ _ _ _ _ _ _ _ (sV 0) sI (λ_ _=>rfl)) sa0 rfl rfl) rfl rfl)))))
theorem D62:Bd CX0 Cx.nox P w K mg base (n+2) C top "do_keep" 43 ["ins"] dm:=λf b A a s H E S c=>
 ((ss1 (ai (LQ [] [] [] [] (vP (hm:=T.zip) (ha:=(@sIxx _ _ _ _ _ _ _ _ _ (sV 0) sI (λ_ _=>rfl))) (hb:=(@sIxx _ _ _ _ _ _ _ _ _ (sV 0) sI (λ_ _=>rfl)))) (λ_ _ _ _=>(tB (sV 1))) (λ_ _ _ _=>(sV 0)) csc .nil .nil))))
theorem Lw:Bd CX0 Cx.nox P w K mg base (n+2) C top "do_join" 42 ["ins"] dM:=λf b A a s H E S c=>
 ((ss1 (ai (dg (@sIxx _ _ _ _ _ _ _ _ _ (sV 0) sI (λ_ _=>rfl)) (@sIxx _ _ _ _ _ _ _ _ _ (sV 0) sI (λ_ _=>rfl))))))
theorem D61:Bd CX0 Cx.nox P w K mg base (n+2) C top "do_pick" 41 ["ins"] dj:=λf b A a s H E S c=>
 ((@ss1 _ _ _ _ _ _ (@ai _ _ _ _ _ _ _ _ (@sIxx _ _ _ _ _ _ _ _ _ (@sIxx _ _ _ _ _ _ _ _ _ (sV 0) sI (λ_ _=>rfl)) (@sIxx _ _ _ _ _ _ _ _ _ (sV 0) sI (λ_ _=>rfl)) (λ_ _=>rfl)))))
theorem D60:Bd CX0 Cx.nox P w K mg base (n+2) C top "do_pair" 40 ["ins"] dP:=λf b A a s H E S c=>
 ((ss1 (ai (@sTx _ _ _ _ _ _ _ (by decide) (@slx _ _ _ _ _ _ _ (@sIxx _ _ _ _ _ _ _ _ _ (sV 0) sI (λ_ _=>rfl)) (@slx _ _ _ _ _ _ _ (@sIxx _ _ _ _ _ _ _ _ _ (sV 0) sI (λ_ _=>rfl)) sl0 rfl) rfl)))))
theorem D59:Bd CX0 Cx.nox P w K mg base (n+2) C top "do_both" 39 ["ins"] dy:=λf b A a s H E S c=>
 ((ss1 (ai (sBW (mH (@sIxx _ _ _ _ _ _ _ _ _ (sV 0) sI (λ_ _=>rfl)) (vA1 (@sIxx _ _ _ _ _ _ _ _ _ (sV 0) sI (λ_ _=>rfl))))))))
theorem D58:Bd CX0 Cx.nox P w K mg base (n+2) C top "do_same" 38 ["ins"] cN:=λf b A a s H E S c=>
 ((ss1 (ai (sEq c (@sIxx _ _ _ _ _ _ _ _ _ (sV 0) sI (λ_ _=>rfl)) (@sIxx _ _ _ _ _ _ _ _ _ (sV 0) sI (λ_ _=>rfl))))))
theorem D57:Bd CX0 Cx.nox P w K mg base (n+2) C top "do_less" 37 ["ins"] dA:=λf b A a s H E S c=>
 ((ss1 (ai (sLt (@sIxx _ _ _ _ _ _ _ _ _ (sV 0) sI (λ_ _=>rfl)) (@sIxx _ _ _ _ _ _ _ _ _ (sV 0) sI (λ_ _=>rfl))))))
theorem KD:Bd CX0 Cx.nox P w K mg base (n+2) C top "do_rest" 36 ["ins"] dn:=λf b A a s H E S c=>
 ((ss1 (ai (Kh (@sIxx _ _ _ _ _ _ _ _ _ (sV 0) sI (λ_ _=>rfl)) (@sIxx _ _ _ _ _ _ _ _ _ (sV 0) sI (λ_ _=>rfl))))))
theorem Kr:Bd CX0 Cx.nox P w K mg base (n+2) C top "do_div" 35 ["ins"] ee:=λf b A a s H E S c=>
 ((ss1 (ai (xy (@sIxx _ _ _ _ _ _ _ _ _ (sV 0) sI (λ_ _=>rfl)) (@sIxx _ _ _ _ _ _ _ _ _ (sV 0) sI (λ_ _=>rfl))))))
theorem D54:Bd CX0 Cx.nox P w K mg base (n+2) C top "do_mul" 34 ["ins"] ei:=λf b A a s H E S c=>
 ((ss1 (ai (lu (@sIxx _ _ _ _ _ _ _ _ _ (sV 0) sI (λ_ _=>rfl)) (@sIxx _ _ _ _ _ _ _ _ _ (sV 0) sI (λ_ _=>rfl))))))
theorem D53:Bd CX0 Cx.nox P w K mg base (n+2) C top "do_sub" 33 ["ins"] d8:=λf b A a s H E S c=>
 ((ss1 (ai (eR (@sIxx _ _ _ _ _ _ _ _ _ (sV 0) sI (λ_ _=>rfl)) (@sIxx _ _ _ _ _ _ _ _ _ (sV 0) sI (λ_ _=>rfl))))))
theorem D52:Bd CX0 Cx.nox P w K mg base (n+2) C top "do_add" 32 ["ins"] dY:=λf b A a s H E S c=>
 ((ss1 (ai (dg (@sIxx _ _ _ _ _ _ _ _ _ (sV 0) sI (λ_ _=>rfl)) (@sIxx _ _ _ _ _ _ _ _ _ (sV 0) sI (λ_ _=>rfl))))))
theorem D51:Bd CX0 Cx.nox P w K mg base (n+2) C top "do_flat" 31 ["ins","things","row"] dH:=λf b A a s H E S c=>
 ((@ssc _ _ _ _ _ _ _ _ (@zA _ _ _ _ _ _ _ 1 _ _ _ _ S (@sLx _ _ _ _ _ _ _ (by decide) sl0) rfl rfl rfl rfl rfl rfl)
    (@ssc _ _ _ _ _ _ _ _ (ia 2 S (gi (@sIxx _ _ _ _ _ _ _ _ _ (sV 0) sI (λ_ _=>rfl))) (ss1 (IF 1 (sV 2))))
    (ss1 (ai (sM 1))))))
theorem D50:Bd CX0 Cx.nox P w K mg base (n+2) C top "do_most" 30 ["ins"] dw:=λf b A a s H E S c=>
 ((ss1<|ai<|BK (hm:=T.max) (ha:=(@sIxx _ _ _ _ _ _ _ _ _ (sM 0) sI λ_ _=>rfl))))
theorem D49:Bd CX0 Cx.nox P w K mg base (n+2) C top "do_sums" 29 ["ins","told","total","number"] dB:=λf b A a s H E S c=>
 ((@ssc _ _ _ _ _ _ _ _ (@zA _ _ _ _ _ _ _ 1 _ _ _ _ S (@sLx _ _ _ _ _ _ _ (by decide) sl0) rfl rfl rfl rfl rfl rfl)
    (@ssc _ _ _ _ _ _ _ _ (@zA _ _ _ _ _ _ _ 2 _ _ _ _ S sI rfl rfl rfl rfl rfl rfl)
    (@ssc _ _ _ _ _ _ _ _ (ia 3 S (gi (@sIxx _ _ _ _ _ _ _ _ _ (sV 0) sI (fun _ _=>rfl))) (@ssc _ _ _ _ _ _ _ _ (EV 1 (sV 2))
     (ss1 (@zA _ _ _ _ _ _ _ 2 _ _ _ _ S (dg (sV 2) (sV 3)) rfl rfl rfl rfl rfl rfl))))
    (ss1 (ai (sM 1)))))))
theorem D48:Bd CX0 Cx.nox P w K mg base (n+2) C top "do_sum" 28 ["ins"] dX:=λf b A a s H E S c=>
 ((ss1<|ai<|ro (hm:=T.sum) (ha:=(@sIxx _ _ _ _ _ _ _ _ _ (sM 0) sI λ_ _=>rfl))))
theorem D47:Bd CX0 Cx.nox P w K mg base (n+2) C top "do_long" 27 ["ins"] dI:=λf b A a s H E S c=>
 ((ss1<|ai<|bF (hm:=T.len) (ha:=(@sIxx _ _ _ _ _ _ _ _ _ (sM 0) sI λ_ _=>rfl))))
theorem D46:Bd CX0 Cx.nox P w K mg base (n+2) C top "do_upto" 26 ["ins"] dk:=λf b A a s H E S c=>
 ((ss1<|ai<|JG T.list T.range<|@sIxx _ _ _ _ _ _ _ _ _ (sM 0) sI λ_ _=>rfl))
theorem D45:Bd CX0 Cx.nox P w K mg base (n+2) C top "do_one" 25 ["ins"] eu:=λf b A a s H E S c=>
 ((ss1<|ai<|@sLx _ _ _ _ _ _ _ (by decide)<|@slx _ _ _ _ _ _ _ (@sIxx _ _ _ _ _ _ _ _ _ (sM 0) sI λ_ _=>rfl) sl0 rfl))
theorem D44:Bd CX0 Cx.nox P w K mg base (n+2) C top "do_second" 24 ["ins"] cy:=λf b A a s H E S c=>
 ((@ss1 _ _ _ _ _ _<|@ai _ _ _ _ _ _ _ _<|@sIxx _ _ _ _ _ _ _ _ _ (@sIxx _ _ _ _ _ _ _ _ _ (sM 0) sI λ_ _=>rfl) sI λ_ _=>rfl))
theorem D43:Bd CX0 Cx.nox P w K mg base (n+2) C top "do_first" 23 ["ins"] cS:=λf b A a s H E S c=>
 ((@ss1 _ _ _ _ _ _<|@ai _ _ _ _ _ _ _ _<|@sIxx _ _ _ _ _ _ _ _ _ (@sIxx _ _ _ _ _ _ _ _ _ (sM 0) sI λ_ _=>rfl) sI λ_ _=>rfl))
theorem D42:Bd CX0 Cx.nox P w K mg base (n+2) C top "do_not" 22 ["ins"] er:=λf b A a s H E S c=>
 ((ss1<|ai<|Kc<|@sIxx _ _ _ _ _ _ _ _ _ (sM 0) sI λ_ _=>rfl))
theorem Ks:Bd CX0 Cx.nox P w K mg base (n+2) C top "own_copy" 17 ["worth"] aB:=λf d A b s H E S c=>
 ((@ssc _ _ _ _ _ _ _ _ (zIf (tB (dC (by decide) Pg T.isin T.list (sV 0))) (ss1 (ai (sC1 [] [] [] [] (gi (sM 0)) (λ_ _ _ _=>(az (cs.a _ _ _ rfl) c (@say _ _ _ _ _ _ _ (sV 0) sa0 rfl rfl))) csc .nil .nil))) ss0)
    (@ssc _ _ _ _ _ _ _ _ (zIf (tB (dC (by decide) PN T.isin T.tup (sV 0))) (ss1 (ai (kz (hm:=T.tup) (ha:=(sC1 [] [] [] [] (gi (sM 0)) (λ_ _ _ _=>(az (cs.a _ _ _ rfl) c (@say _ _ _ _ _ _ _ (sV 0) sa0 rfl rfl))) csc .nil .nil))))) ss0)
    (ss1 (ai (sM 0))))))
theorem LO:Bd CX0 Cx.nox P w K mg base (n+2) C top "done" 16 ["piece","ins","word"] fv:=λf c A b s H E S a=>
 ((@ssc _ _ _ _ _ _ _ _ (@zA _ _ _ _ _ _ _ 2 _ _ _ _ S (sIf (AA G.k_WORDS (@sIxx _ _ _ _ _ _ _ _ _ (sV 0) sI (λ_ _=>rfl))) (kh cs.t_WORDS a (@sIxx _ _ _ _ _ _ _ _ _ (sV 0) sI (λ_ _=>rfl)) (@say _ _ _ _ _ _ _ (sV 1) sa0 rfl rfl)) sN) rfl rfl rfl rfl rfl rfl)
    (@ssc _ _ _ _ _ _ _ _ (zIf (rC (sV 2) sN) (ss1 (ai (@sTx _ _ _ _ _ _ _ (by decide) (@slx _ _ _ _ _ _ _ sN (@slx _ _ _ _ _ _ _ (sM 2) sl0 rfl) rfl)))) ss0)
    (@ssc _ _ _ _ _ _ _ _ (zIf (cY a (@sIxx _ _ _ _ _ _ _ _ _ (sV 0) sI (λ_ _=>rfl)) sS) (ss1 (ai (@sTx _ _ _ _ _ _ _ (by decide) (@slx _ _ _ _ _ _ _ (@sIxx _ _ _ _ _ _ _ _ _ (sM 0) sI (λ_ _=>rfl)) (@slx _ _ _ _ _ _ _ sN sl0 rfl) rfl)))) ss0)
    (ss1 (ai (@sTx _ _ _ _ _ _ _ (by decide) (@slx _ _ _ _ _ _ _ (kh cs.t_DOINGS a (@sIxx _ _ _ _ _ _ _ _ _ (sM 0) sI (λ_ _=>rfl)) (@say _ _ _ _ _ _ _ (sM 1) sa0 rfl rfl)) (@slx _ _ _ _ _ _ _ sN sl0 rfl) rfl))))))))
theorem D36:Bd CX0 Cx.nox P w K mg base (n+2) C top "cut_word" 14 ["length","lengths"] bV:=λf b A a s H E S c=>
 ((@ssc _ _ _ _ _ _ _ _ (zIf (tW (wOr (tB (Ko (hm:=T.any) (ha:=(sC1 [] [] [] [] (gi (sV 1)) (λ_ _ _ _=>(sLt (sV 0) sI)) csc .nil .nil)))) (wO1 (um c (ro (hm:=T.sum) (ha:=(sV 1))) (sV 0))))) (ss1 (ai sS)) ss0)
    (ss1 (ai sN))))
theorem D35:Bd CX0 Cx.nox P w K mg base (n+2) C top "keep_word" 13 ["length","other"] cD:=λf b A a s H E S c=>
 ((ss1<|ai<|sIf (cY c (sM 0)<|sM 1) sN sS))
theorem D34:Bd CX0 Cx.nox P w K mg base (n+2) C top "long_word" 12 ["length"] bX:=λf b A a s H E S c=>
 ((ss1<|ai<|sIf (K4 (sM 0)<|sGc G.LONGEST) sN sS))
theorem D33:Bd CX0 Cx.nox P w K mg base (n+2) C top "upto_word" 10 ["number"] bu:=λf b A a s H E S c=>
 ((ss1<|ai<|sIf (qK sI (sM 0)<|sGc G.LONGEST) sN sS))
theorem D32:Bd CX0 Cx.nox P w K mg base (n+2) C top "empty_word" 9 ["length"] bC:=λf b A a s H E S c=>
 ((ss1<|ai<|sIf (cY c (sM 0) sI) sS sN))
theorem D31:Bd CX0 Cx.nox P w K mg base (n+2) C top "beyond_word" 8 ["length","number"] aR:=λf b A a s H E S c=>
 ((ss1<|ai<|sIf (zl sI (sM 1)<|sM 0) sN sS))
theorem D30:Bd CX0 Cx.nox P w K mg base (n+2) C top "nought_word" 7 ["number"] aY:=λf b A a s H E S c=>
 ((ss1<|ai<|sIf (cY c (sM 0) sI) sS sN))
theorem D29:Bd CX0 Cx.nox P w K mg base (n+2) C top "sums_word" 6 ["row","total","number"] bY:=λf c A b s H E S d=>
 ((@ssc _ _ _ _ _ _ _ _ (@zA _ _ _ _ _ _ _ 1 _ _ _ _ S sI rfl rfl rfl rfl rfl rfl)
    (@ssc _ _ _ _ _ _ _ _ (ia 2 S (gi (sV 0)) (@ssc _ _ _ _ _ _ _ _ (@zA _ _ _ _ _ _ _ 1 _ _ _ _ S (dg (sV 1) (sV 2)) rfl rfl rfl rfl rfl rfl)
     (ss1 (zIf (rC (az (cs.a _ _ _ rfl) d (@say _ _ _ _ _ _ _ (sV 1) sa0 rfl rfl)) sN) (ss1 (ai sS)) ss0))))
    (ss1 (ai sN)))))
theorem D28:Bd CX0 Cx.nox P w K mg base (n+2) C top "great_word" 5 ["number"] aX:=λf b A a s H E S c=>
 ((ss1<|ai<|sIf (qK (jo<|sGc G.GREATEST) (sM 0)<|sGc G.GREATEST) sN sS))
theorem D0:Bd CX0 Cx.nox P w K mg base (n+2) C top "law" 97 ["script","cell","sign","kinds","worths","heads","tree","worth","word","due"] j4:=λf d A c s H E S b=>
 ((@ssc _ _ _ _ _ _ _ _ (ia 1 S (gi (sIf (kZ (bF (hm:=T.len) (ha:=(sV 0))) sI) (lj (sV 0) sI) (@sLx _ _ _ _ _ _ _ (by decide) (@slx _ _ _ _ _ _ _ sI sl0 rfl)))) (@ssc _ _ _ _ _ _ _ _ (vR 2 3 4 S (az (cs.a _ _ _ rfl) b (@say _ _ _ _ _ _ _ (sV 1) sa0 rfl rfl)))
      (@ssc _ _ _ _ _ _ _ _ (@zA _ _ _ _ _ _ _ 5 _ _ _ _ S (kz (hm:=T.tup) (ha:=(sC1 [3] [3] [("kinds",s.heap.objs.size+1)] ["kinds"] (vq (hm:=T.range) (ha:=(bF (hm:=T.len) (ha:=(sV 3))))) (λ_ _ _ _=>(@sTx _ _ _ _ _ _ _ (by decide) (@slx _ _ _ _ _ _ _ (@sIxx _ _ _ _ _ _ _ _ _ (@sLx _ _ _ _ _ _ _ (by decide) (@slx _ _ _ _ _ _ _ sS (@slx _ _ _ _ _ _ _ sS sl0 rfl) rfl)) (sV 0) (λ_ _=>rfl)) (@slx _ _ _ _ _ _ _ (@sIxx _ _ _ _ _ _ _ _ _ (sV 1) (sV 0) (λ_ _=>rfl)) sl0 rfl) rfl))) csc (cloc .nil) (frc .nil)))) rfl rfl rfl rfl rfl rfl)
      (@ssc _ _ _ _ _ _ _ _ (@zA _ _ _ _ _ _ _ 6 _ _ _ _ S (dg (@sTx _ _ _ _ _ _ _ (by decide) (@slx _ _ _ _ _ _ _ (sV 2) sl0 rfl)) (kz (hm:=T.tup) (ha:=(sC1 [] [] [] [] (gi (sV 5)) (λ_ _ _ _=>(@sTx _ _ _ _ _ _ _ (by decide) (@slx _ _ _ _ _ _ _ sS (@slx _ _ _ _ _ _ _ (@sIxx _ _ _ _ _ _ _ _ _ (sV 0) sI (λ_ _=>rfl)) sl0 rfl) rfl))) csc .nil .nil)))) rfl rfl rfl rfl rfl rfl)
      (@ssc _ _ _ _ _ _ _ _ (JQ 7 8 S (az (cs.a _ _ _ rfl) b (@say _ _ _ _ _ _ _ (sV 6) (@say _ _ _ _ _ _ _ (sV 4) sa0 rfl rfl) rfl rfl)))
      (@ssc _ _ _ _ _ _ _ _ (@zA _ _ _ _ _ _ _ 9 _ _ _ _ S (sIf (cY b (sV 8) sS) (@sTx _ _ _ _ _ _ _ (by decide) (@slx _ _ _ _ _ _ _ sS (@slx _ _ _ _ _ _ _ (sV 7) sl0 rfl) rfl)) (@sTx _ _ _ _ _ _ _ (by decide) (@slx _ _ _ _ _ _ _ sS (@slx _ _ _ _ _ _ _ (sV 8) (@slx _ _ _ _ _ _ _ (@sTx _ _ _ _ _ _ _ (by decide) sl0) (@slx _ _ _ _ _ _ _ (@sTx _ _ _ _ _ _ _ (by decide) sl0) sl0 rfl) rfl) rfl) rfl))) rfl rfl rfl rfl rfl rfl)
      (@ssc _ _ _ _ _ _ _ _ (zIf (BH (tB (az (cs.a _ _ _ rfl) b (@say _ _ _ _ _ _ _ (az (cs.a _ _ _ rfl) b (@say _ _ _ _ _ _ _ (@sTx _ _ _ _ _ _ _ (by decide) (@slx _ _ _ _ _ _ _ (sV 5) (@slx _ _ _ _ _ _ _ (sV 6) sl0 rfl) rfl)) (@say _ _ _ _ _ _ _ (sV 4) sa0 rfl rfl) rfl rfl)) (@say _ _ _ _ _ _ _ (sV 9) sa0 rfl rfl) rfl rfl)))) (ss1 (ai sO)) ss0)
      (ss1 (zIf (BH (tB (az (cs.a _ _ _ rfl) b (@say _ _ _ _ _ _ _ (sV 4) (@say _ _ _ _ _ _ _ (@sIxx _ _ _ _ _ _ _ _ _ (az (cs.a _ _ _ rfl) b (@say _ _ _ _ _ _ _ (sV 1) sa0 rfl rfl)) sI (λ_ _=>rfl)) sa0 rfl rfl) rfl rfl)))) (ss1 (ai sO)) ss0)))))))))
    (ss1 (ai sO))))
theorem bds:Bds P w K mg base (n+2) C top (lawR::tab):=(bd1 (D0 xs cs T G)<|bd1 (D28 xs cs T G)<|bd1 (D29 xs cs T G)<|bd1 (D30 xs cs T G)<|bd1 (D31 xs cs T G)<|bd1 (D32 xs cs T G)<|bd1 (D33 xs cs T G)<|bd1 (D34 xs cs T G)<|bd1 (D35 xs cs T G)<|bd1 (D36 xs cs T G)<|bd1 (LO xs cs T G)<|bd1 (Ks xs cs T G)<|bd1 (D42 xs cs T G)<|bd1 (D43 xs cs T G)<|bd1 (D44 xs cs T G)<|bd1 (D45 xs cs T G)<|bd1 (D46 xs cs T G)<|bd1 (D47 xs cs T G)<|bd1 (D48 xs cs T G)<|bd1 (D49 xs cs T G)<|bd1 (D50 xs cs T G)<|bd1 (D51 xs cs T G)<|bd1 (D52 xs cs T G)<|bd1 (D53 xs cs T G)<|bd1 (D54 xs cs T G)<|bd1 (Kr xs cs T G)<|bd1 (KD xs cs T G)<|bd1 (D57 xs cs T G)<|bd1 (D58 xs cs T G)<|bd1 (D59 xs cs T G)<|bd1 (D60 xs cs T G)<|bd1 (D61 xs cs T G)<|bd1 (Lw xs cs T G)<|bd1 (D62 xs cs T G)<|bd1 (D63 xs cs T G)<|bd1 (D64 xs cs T G)<|bd1 (D65 xs cs T G)<|bd1 (D66 xs cs T G)<|bd1 (D67 xs cs T G)<|bd1 (D68 xs cs T G)<|bd1 (D69 xs cs T G)<|bd1 (D70 xs cs T G)<|bd1 (D71 xs cs T G)<|bd1 (D72 xs cs T G)<|bd1 (D73 xs cs T G)<|bd1 (D74 xs cs T G)<|bd1 (D75 xs cs T G)<|bd1 (LG xs cs T G)<|bd1 (K8 xs cs T G)<|bd1 (Ls xs cs T G)<|bd2 (Kq xs cs T G) (Ly xs cs T G)<|bd1 (LD xs cs T G)<|bd1 (LJ xs cs T G)<|bd1 (K1 xs cs T G)<|bd1 (LV xs cs T G)<|bd1 (LB xs cs T G)<|bd1 (KR xs cs T G)<|bd1 (KW xs cs T G)<|bd1 (Lm xs cs T G)<|bd1 (Kw xs cs T G)<|bd1 (Lq xs cs T G) bd0)
omit xs cs T G
theorem FN:(tab.all<|Dr.ok top)=true:=by kernel_rfl
end
end A17

namespace A17
open PySem PySem.Spec PyProof.Rows L2 L3 MR
abbrev Cl (n:Y):M.Call:=M.callR prog 1000000 1 n
abbrev uu:Tz:=s1
abbrev IU:Y:=1
section
variable {P:Td}{w:Mc}{K:L9}{mg:Str->I L}{base:To}{f:S9}{fd:MK}
theorem scRo:bH ["lengths","things","rows","start","length"] ["lengths","things"] (defScope uu):=⟨rfl,rfl,rfl,by decide +kernel,rfl,by decide +kernel,by decide +kernel⟩
theorem yQ (a:U V)(i n:Y):ej a (O (i:Int)) (O<|(i:Int)+(n:Int))=(a.drop i).take n:=by
 have e:(i:Int)+(n:Int)=((i+n:Y):Int):=by lia
 unfold ej;rw[e,HT.sIx_nat,HT.sIx_nat];by_cases h:i<=a.length
 .rw [RG h];by_cases b:i+n<=a.length
  .rw[RG b,Q3]
  .rw[Ro<|by lia,Q1<|by rw[Pq];lia,Q1<|by rw[Pq];lia]
 .rw [Ro (by lia:a.length<=i),Ro (by lia:a.length<=i+n),R4<|Mi _,R4<|by lia];simp
theorem AF {k:Y}(F:Fun K "in_rows" "in_rows" uu f fd)(T:Txt mg):FnOk P w K mg base CX0 (k+1) f fd ["lengths","things"] (qN K):=by
 refine F.ok scRo (λvs H Q E h=>?_) λcdv A outer s H vs Q E hr h=>?_
 .obtain ⟨t,G,c,M,rfl,_⟩:=h;rfl
 obtain⟨t,G,c,M,rfl,y,hta,hll,q⟩:=h
 refine⟨_,bq (kJ (i:=2) scRo.nd rfl (Mz rfl) (Dz cI))
  (bq (kJ (i:=3) scRo.nd rfl (Mz rfl) vF)
  (bq (oP PassesOwn.never rfl (qi (pv 0)) (bg (i:=4) scRo.nd rfl (Mz rfl))
   (bq (hV<|pT Qs SI SH jC (pv 2)<|bf (fN sl_list (pv 1) (eP<|pv 3)<|eP<|ek op_add (pv 3)<|pv 4) cI)
   (gZ<|kJ (i:=3) scRo.nd rfl (Mz rfl) (ek op_add (pv 3)<|pv 4))))
  (gZ<|vn<|pv 2))),?_⟩
 refine⟨MH _,λj l=>?_⟩;have s0:Same H (upd H j (.lst [])):=fD l _;refine⟨_,rfl,t,rfl,⟨_,iB s0 y⟩,?_⟩
 refine t6 (K:=K) (a:=t) (xs:=iW c) (λi N m=>i<=c.length/\(∃o,N=[O<|.ref t,O<|.ref G,O<|.ref j,O<|.int (((c.take i).sum:Y):Int),o])/\Same H m/\∃g:U S9,m j=O (.lst<|g.map V.ref)/\RowsAt H m j (c.take i) M g)
  ⟨MH _,⟨_,rfl⟩,s0,[],ah,rfl⟩ (λi N m _ h2=>iB h2.2.2.1 y) ?_ ?_
 .rintro i x N m hx ⟨hi,⟨o,rfl⟩,D,g,d,r⟩
  obtain⟨n,en,ex⟩:∃n,c[i]?=O n/\x=.int (n:Int):=by
   unfold iW at hx;rw[MO] at hx;cases e:c[i]? with
   |none=>rw[e] at hx;cases hx
   |some n=>rw[e] at hx;exact⟨n,rfl,(MY hx).symm⟩
  subst ex;have Z:i<c.length:=(Na.mp en).1;have hlr:=r.length;rw[NO] at hlr;refine⟨_,rfl,.inl ⟨rfl,_,SqL.of d⟩,_,rfl,_,rfl,_,rfl,_,rfl,_,rfl,_,_,rfl,rfl,_,rfl,G,M,rfl,iB D hta,λp hp=>?_⟩;have u:=fD hp<|.lst<|ej M (O (((c.take i).sum:Y):Int))<|O<|(((c.take i).sum:Y):Int)+(n:Int);have B:p≠j:=λe=>by rw[e,d] at hp;cases hp
  refine⟨j,g.map V.ref,_,rfl,rfl,u _ _ d,(by rw[Mg];exact MF (show g.length<c.length by lia)<|Mt hll<|by decide),?_⟩;refine⟨_,rfl,_,rfl,_,_,rfl,rfl,?_⟩;have v:c.take (i+1)=c.take i++[n]:=by rw[List.take_add_one,en];rfl
  refine⟨Z,⟨O<|.int (n:Int),?_⟩,Same.own (D.trans u) l _,g++[p],by rw[ah,PH];rfl,?_⟩
  .rw [v,QQ];show[O (V.ref t),O (V.ref G),O (V.ref j),O (V.int ((((c.take i).sum:Y):Int)+(n:Int))),O (V.int (n:Int))]=[O (V.ref t),O (V.ref G),O (V.ref j),O (V.int (((c.take i).sum+[n].sum:Y):Int)),O (V.int (n:Int))];have:[n].sum=n:=by simp
   rw[this];have e2:(((c.take i).sum:Y):Int)+(n:Int)=(((c.take i).sum+n:Y):Int):=by lia
   rw[e2]
  .rw [v];have hpH:H p=none:=sR D hp;have hpp:p ∉ g:=λz=>by obtain⟨zs,e⟩:=(r.new p z).2.2;rw[hp] at e;cases e
   refine RowsAt.snoc hpH B (r.keep λb o hb e=>?_) hpp ?_
   .rw[ag hb];exact u b o e
   .rw[ag B,ah,yQ]
 rintro N m ⟨_,⟨o,rfl⟩,D,g,d,r⟩;have el:(iW c).length=c.length:=by unfold iW;rw[Mg]
 rw[el,Qi] at r;exact⟨_,rfl,q _ _ _ D l d r⟩
theorem qe (F:Fun K "in_rows" "in_rows" uu f fd)(T:Txt mg):∀n,FnOk P w K mg base CX0 n f fd ["lengths","things"]<|spS K (Cl n) IU []
|0=>fn0 λ_=>rfl
|n+1=>(AF (k:=n) F T).imp λ_ _ _ _ h=>tX (λ_=>rfl) h
end
section
variable {P:Td}{w:Mc}{K:L9}{mg:Str->I L}{base:To}
noncomputable abbrev iU:U (Str×Str):=[("not","do_not"),("first","do_first"),("second","do_second"),("one","do_one"),("upto","do_upto"),("long","do_long"),("sum","do_sum"),("sums","do_sums"),("most","do_most"),("flat","do_flat"),("add","do_add"),("sub","do_sub"),("mul","do_mul"),("div","do_div"),("rest","do_rest"),("less","do_less"),("same","do_same"),("both","do_both"),("pair","do_pair"),("pick","do_pick"),("join","do_join"),("keep","do_keep"),("cut","do_cut")]
abbrev lZ:U (Str×Str):=[]
noncomputable abbrev jW:U (Str×Str):=[("upto","word_of_upto"),("sum","word_of_sum"),("sums","word_of_sum"),("most","word_of_most"),("flat","word_of_flat"),("add","word_of_add"),("sub","word_of_sub"),("mul","word_of_mul"),("div","word_of_div"),("rest","word_of_div"),("pick","word_of_pick"),("join","word_of_join"),("keep","word_of_keep"),("cut","word_of_cut")]
theorem all (D:∀e∈tab,Df K mg e.x (top e.i) e.ps)(h:Df K mg "in_rows" s1 ["lengths","things"])(d:xT K w mg "DOINGS" iU)(g:xT K w mg "WAYS" lZ)(f:xT K w mg "WORDS" jW)(T:Txt mg)(G:Glb K w mg)(j:Xs P w K mg base):∀n,Calls P w K mg base (n+2)<|Cl n
|0=>let ⟨a,b⟩:=J0 D λ_ _=>rfl;⟨a,b,(h.ok λ_ _ F=>(qe F T 0).mono<|Qh _ 2),(eL d<|dQ a<|by repeat' first|exact trivial|refine⟨⟨_,rfl,rfl⟩,?_⟩),(eL g<|dQ a<|by repeat' first|exact trivial|refine⟨⟨_,rfl,rfl⟩,?_⟩),(eL f<|dQ a<|by repeat' first|exact trivial|refine⟨⟨_,rfl,rfl⟩,?_⟩)⟩
|n+1=>let c:=all D h d g f T G j n;let ⟨a,b⟩:=Je D FN (bds j c T G).2<|AR rfl (by decide) n;⟨a,b,(h.ok λ_ _ F=>(qe F T<|n+1).mono<|Qh _ 2),(eL d<|dQ a<|by repeat' first|exact trivial|refine⟨⟨_,rfl,rfl⟩,?_⟩),(eL g<|dQ a<|by repeat' first|exact trivial|refine⟨⟨_,rfl,rfl⟩,?_⟩),(eL f<|dQ a<|by repeat' first|exact trivial|refine⟨⟨_,rfl,rfl⟩,?_⟩)⟩
end
theorem pure_law:∀a:U Int,a.length<=63->∃m bs,Cl 40 0 [(.d,.scr a)]=.ok ((m,.bl L7),bs):=λa _=>P17.pure_law a
theorem all_mk {l:QR}{w:Mc}{K:L9}{h:To}{x:Str->I L}{H:S9}(X:K.In h)(G:h.Ns Ml x)(A:x "law"=O (.ref H))(u:Ep K top tab)(Z:Raw K "in_rows" s1 .none)(r0:Raw K "law" s0 .none)(P:∃t,M3 K Ml "GREATEST"=O (O<|.int 1000000000000000000 t))(Q:∃t,M3 K Ml "LONGEST"=O (O<|.int 200 t))(e:∃T,TabRaw K w "AHEAD" T/\T.map Nt=keys_AHEAD)(b:∃T,TabRaw K w "DOINGS" T/\NamL K T iU)(d:∃T,TabRaw K w "WAYS" T/\T.map Nt=keys_WAYS/\NamL K T lZ)(a:∃T,TabRaw K w "WORDS" T/\T.map Nt=keys_WORDS/\NamL K T jW)(tx:DU K ["isinstance","int","tuple","list","bool","sum","len","all","zip","range","enumerate","any","max","min","sorted","str","repr","abs","dict","set","reversed"])(M:∀c,Xs l.prog w K x c):
  ∃y:MK,(∀(s:L8) (v:L),Oe s y ⟨[v],[]⟩ [("script",v)])/\∀c:To,K.In c->c.Ns Ml x->FnOk l.prog w K x c CX0 42 H y ["script"] (spS K (Cl 40) 0 []):=by
 have D:=DR X G u (by repeat' first|exact bn0|refine bn1 ?_ ?_|exactλ_ _ _ _ _ _=>u1 λ_=>rfl|exactλ_ _ _ _ _ _=>u2 λ_ _=>rfl|exactλ_ _ _ _ _ _=>u3 λ_ _ _=>rfl);have N:Df K x "in_rows" s1 ["lengths","things"]:=BJ X G Z λ_ _ _ _ _ _=>u2 λ_ _=>rfl;have T:=Hw X G tx;obtain⟨_,e,i⟩:=e;obtain⟨_,b,g⟩:=b;obtain⟨_,d,n,o⟩:=d;obtain⟨_,a,j,k⟩:=a;have B:Glb K w x:=⟨(let ⟨t,z⟩:=P;⟨t,N6 X G z⟩),(let ⟨t,z⟩:=Q;⟨t,N6 X G z⟩),(kM X G e i),(kM X G d n),(kM X G a j)⟩;have m:=kW X G b g;have r:=kW X G d o;have p:=kW X G a k;exact zj X G A r0 (λ_ _ _ _ _ _ _ _=>.of_eq rfl) λf y F c=>Fun.okM F S0 rfl (by decide) (by decide) (by decide) (λ_ _ _ _ _ _ h=>(bds (M c) (all D N m r p T B (M c) 39) T B).1.1 _ _ _ _ _ _ _ S0.nd h) λ_=>rfl
end A17

namespace I17
open PySem PySem.Spec PyProof.Rows L2 L3 MR
noncomputable def top (i:Y):Tz:=PySem.Challenge.pw_broadrow_k17_single_pieces.main.body.getD i<|.Pass ⟨0,0,0,0⟩
def DG:Tz->U Tz
|.ClassDef _ _ _ b _ _ _ _ _ _ _=>b
|_=>[]
def ini (i:Y):Tz:=(DG<|top i).getD 0<|.Pass ⟨0,0,0,0⟩
abbrev s_Around:Tz:=ini 74
abbrev fs:U Str:=["names","turns","rounds","book"]
theorem uF:bH ["self","names","turns","rounds","book"] ["self","names","turns","rounds","book"] (defScope s_Around):=fsc
theorem KI (a b c d:V):bU "book" d (bU "rounds" c<|bU "turns" b<|bU "names" a [])=fs.zip [a,b,c,d]:=by kernel_rfl
theorem ok_Around {P:Td}{w:Mc}{K:L9}{M:Str->I L}{d:To}{f:S9}{x:MK}{c k:Y}(F:L2.Fun K "__init__" "Around.__init__" s_Around f x)(b:sH K c fs):
  FnOk P w K M d CX0 (k+1) f x ["self","names","turns","rounds","book"] (spP c fs []):=by
 have len:∀m H Q E,spP c fs [] m H Q E->m.length=(["self","names","turns","rounds","book"]:U Str).length:=λm H Q E ⟨a,g,j,e,l,_⟩=>by rw[e,Mw];have l:4=j.length+0:=l;show j.length+1=5;lia
 refine F.ok uF len λB A t s H m Q E N h=>⟨_,bq (kR (aO (i:=0) rfl (.inl rfl)) (aO (i:=1) rfl (.inl rfl)) rfl)<|bq (kR (aO (i:=0) rfl (.inl rfl)) (aO (i:=2) rfl (.inl rfl)) rfl)<|bq (kR (aO (i:=0) rfl (.inl rfl)) (aO (i:=3) rfl (.inl rfl)) rfl)<|gZ<|kR (aO (i:=0) rfl (.inl rfl)) (aO (i:=4) rfl (.inl rfl)) rfl,?_⟩;obtain⟨a,g,j,rfl,l,D,q⟩:=h;obtain⟨o,p,r,u,rfl⟩:∃o p r u,j=[o,p,r,u]:=match j,l with|[_,_,_,_],_=>⟨_,_,_,_,rfl⟩
 have lt:∀{l:U (Str×V)} {n:Y} {f:Str} {v:V},l.length<=n->(bU f v l).length<=n+1:=λh=>Mt (d0 _ _ _)<|PJ h;have y:=lt (f:="names") (v:=o) (Mi 0) (l:=[]);have z:=lt (f:="turns") (v:=p) y;have G:=lt (f:="rounds") (v:=r) z;refine⟨o,rfl,.ref a,rfl,a,c,g,[],rfl,D,b.1,b.2 _<|by simp,(by show 0<1000;decide),?_⟩;refine⟨p,rfl,.ref a,rfl,a,c,g,_,rfl,ah,b.1,b.2 _<|by simp,Pm y<|by decide,?_⟩;refine⟨r,rfl,.ref a,rfl,a,c,g,_,rfl,ah,b.1,b.2 _<|by simp,Pm z<|by decide,?_⟩;refine⟨u,rfl,.ref a,rfl,a,c,g,_,rfl,ah,b.1,b.2 _<|by simp,Pm G<|by decide,?_⟩;rw[fU,fU,fU,KI];exact q
abbrev s_Stop:Tz:=ini 4
abbrev fsS:U Str:=["word","place","turns"]
theorem He:bH ["self","word","place","turns"] ["self","word","place","turns"] (defScope s_Stop):=fsc
theorem Ld (a b c:V):bU "turns" c (bU "place" b [("word",a)])=fsS.zip [a,b,c]:=by kernel_rfl
theorem ok_Stop {P:Td}{w:Mc}{K:L9}{B:Str->I L}{n:To}{f:S9}{v:MK}{C o:S9}{up:U L}{k:Y}(F:L2.Fun K "__init__" "Stop.__init__" s_Stop f v)(Z:B "Exception"=J)(b:XBt K)(c:XC K C o up)(t1:NH K C "word"=O J)(t2:NH K C "place"=O J)(t3:NH K C "turns"=O J):
  FnOk P w K B n CX0 (k+1) f v ["self","word","place","turns"] (spN K C fsS):=by
 have len:∀t H Q E,spN K C fsS t H Q E->t.length=(["self","word","place","turns"]:U Str).length:=λt H Q E ⟨a,r,e,l,_⟩=>by rw[e,Mw];have l:3=r.length:=l;show r.length+1=4;lia
 refine F.ok He len λG A u s H t Q E hr h=>⟨_,bq (hV<|v7 b rfl Z PyProof.Rows.Boot.«Exception» (by decide) (bf (aO (i:=0) rfl (.inl rfl))<|bf (aO (i:=1) rfl (.inl rfl)) cI))<|bq (yZ (aO (i:=0) rfl (.inl rfl)) (aO (i:=1) rfl (.inl rfl)) rfl)<|bq (mU (aO (i:=0) rfl (.inl rfl)) (aO (i:=2) rfl (.inl rfl)) rfl)<|gZ<|mU (aO (i:=0) rfl (.inl rfl)) (aO (i:=3) rfl (.inl rfl)) rfl,?_⟩;obtain⟨a,r,rfl,l,x,q⟩:=h;obtain⟨g,m,p,rfl⟩:∃g m p,r=[g,m,p]:=match r,l with|[_,_,_],_=>⟨_,_,_,rfl⟩
 refine⟨.ref a,rfl,g,rfl,a,C,J,L7,[g],o,up,rfl,(by show 1<=sizeLine;rw[NA];lia),x,c,g,rfl,.ref a,rfl,a,C,L7,o,up,rfl,x,c,t1,λd N j=>?_⟩;have M:upd (upd H d (.xd [("word",g)])) a (XO a C (O d) L7) d=O (.xd [("word",g)]):=by rw[ag j,ah]
 refine⟨m,rfl,.ref a,rfl,a,C,d,L7,_,o,up,rfl,ah,M,(by show 1<1000;decide),c,t2,?_⟩;have D:upd (upd (upd H d (.xd [("word",g)])) a (XO a C (O d) L7)) d (.xd (bU "place" m [("word",g)])) a=O (XO a C (O d) L7):=by rw[ag<|MI j,ah]
 refine⟨p,rfl,.ref a,rfl,a,C,d,L7,_,o,up,rfl,D,ah,(by show 2<1000;decide),c,t3,?_⟩
 have e:upd (upd (upd (upd H d (.xd [("word",g)])) a (XO a C (O d) L7)) d (.xd (bU "place" m [("word",g)]))) d (.xd (bU "turns" p (bU "place" m [("word",g)])))=upd (upd H d (.xd (fsS.zip [g,m,p]))) a (XO a C (O d) L7):=by
  rw[fU,Ld];funext b;by_cases z:b=d
  .subst z;rw[ah,ag j,ah]
  .rw [ag z];by_cases y:b=a
   .subst y;rw[ah,ah]
   .rw[ag y,ag z,ag y,ag z]
 rw[e];exact q d N j
end I17

set_option maxHeartbeats 0
namespace H17
open PySem PySem.W TP
noncomputable abbrev pr:Td:=PySem.Challenge.pw_broadrow_k17_single_pieces
def tn (i:Y):Tz:=pr.main.body.getD i<|.Pass p0
def rc:U Rc:=[.m,
.c,
.c,
.c,
.y "Stop" 227 (.ref 31) (λP=>[tu [.type "Exception"],⟨.type "builtin_function_or_method",J,.fields #[.builtin "type.__prepare__",.type "type"],#[]⟩,di [en P "__module__" 202<|.str "broadrow.stops" 187,en P "__qualname__" 204<|.str "Stop" 203,en P "__firstlineno__" 206<|.int (5) 205,en P "__init__" 216<|.ref 28,en P "__static_attributes__" 220<|.ref 29] 5,tu [],fe [iv 7,iv 4,.ref 27],cdo "Stop" "Stop" 197 200 5 0 0 18 L5 .none .none .none,⟨.type "frame",J,.plain,#[O<|.ref 20,O<|.ref 3,O<|.ref 17,J,O<|.str "broadrow.stops" 187,J,O<|.ref 0]⟩,tu [],fe [],tu [.str "self" 210,.str "word" 211,.str "place" 212,.str "turns" 213],tu [],ofn .none (cb (tn 4) 0) "Stop.__init__" 0 .none .none .none,cdo "__init__" "Stop.__init__" 207 214 7 4 3 22 L7 (.ref 24) (.ref 25)<|.ref 26,ofn (.type "function") (cb (tn 4) 0) "Stop.__init__" 3 .none (.str "broadrow.stops" 187)<|.ref 27,tu [.str "place" 217,.str "turns" 218,.str "word" 219],di [en P "__module__" 202<|.str "broadrow.stops" 187,en P "__firstlineno__" 206<|.int (5) 205,en P "__init__" 216<|.ref 28,en P "__static_attributes__" 220<|.ref 29,en P "__weakref__" 222<|.ref 32,en P "__doc__" 223 .none] 3,⟨.type "type",J,.cls {name:="Stop",bases:=[.type "Exception"],mro:=[.ref 31,.type "Exception",.type "BaseException",.type "object"],ns:=30,qualname:="Stop"},#[O<|.ref 15,J,O<|.str "Stop" 195,O<|.str "Stop" 203,O<|.builtin "Exception.__new__",O<|.bool L7]⟩,⟨.type "getset_descriptor",J,.fields #[.str "__weakref__" 221,.ref 31,.builtin "ExceptionGroup.__weakref__",.none],#[]⟩,⟨.type "super",J,.fields #[.ref 31,.ref 31,.ref 31],#[]⟩,⟨.type "builtin_function_or_method",J,.fields #[.builtin "object.__init_subclass__",.ref 31],#[]⟩]) [iv 5,iv 0,.ref 20] 35 228 (λP=>[en P "type.__subclasses__.Exception.0" 224<|iv 31,en P "type.__subclasses__.Exception.n" 225<|iv 1]),
.d,
.d,
.d,
.d,
.d,
.d,
.d,
.d,
.d,
.d,
.m,
.d,
.d,
.d,
.d,
.d,
.d,
.d,
.d,
.d,
.d,
.d,
.d,
.d,
.d,
.d,
.d,
.d,
.d,
.d,
.d,
.d,
.d,
.d,
.d,
.d,
.d,
.d,
.d,
.d,
.x "DOINGS" 567 (.ref 302) (λP=>[di [en P "yes" 515<|.ref 128,en P "no" 517<|.ref 135,en P "none" 519<|.ref 142,en P "not" 521<|.ref 149,en P "first" 523<|.ref 156,en P "second" 525<|.ref 163,en P "one" 527<|.ref 170,en P "upto" 529<|.ref 177,en P "long" 531<|.ref 184,en P "sum" 533<|.ref 191,en P "sums" 535<|.ref 198,en P "most" 537<|.ref 205,en P "flat" 539<|.ref 212,en P "add" 541<|.ref 219,en P "sub" 543<|.ref 226,en P "mul" 545<|.ref 233,en P "div" 547<|.ref 240,en P "rest" 549<|.ref 247,en P "less" 550<|.ref 254,en P "same" 551<|.ref 261,en P "both" 552<|.ref 268,en P "pair" 553<|.ref 275,en P "pick" 554<|.ref 282,en P "join" 555<|.ref 289,en P "keep" 556<|.ref 294,en P "cut" 557<|.ref 301] 26,di [en P "rest" 549<|.ref 247,en P "less" 550<|.ref 254,en P "same" 551<|.ref 261,en P "both" 552<|.ref 268,en P "pair" 553<|.ref 275,en P "pick" 554<|.ref 282,en P "join" 555<|.ref 289,en P "keep" 556<|.ref 294,en P "cut" 557<|.ref 301] 9]) [] 304 568,
.d,
.d,
.d,
.d,
.d,
.d,
.d,
.d,
.d,
.d,
.d,
.d,
.x "WORDS" 679 (.ref 386) (λP=>[di [en P "upto" 651<|.ref 310,en P "sum" 652<|.ref 317,en P "sums" 653<|.ref 317,en P "most" 654<|.ref 324,en P "flat" 655<|.ref 329,en P "add" 656<|.ref 336,en P "sub" 657<|.ref 343,en P "mul" 658<|.ref 350,en P "div" 659<|.ref 357,en P "rest" 660<|.ref 357,en P "pick" 661<|.ref 364,en P "join" 662<|.ref 371,en P "keep" 663<|.ref 378,en P "cut" 664<|.ref 385] 14]) [] 387 680,
.m,
.d,
.m,
.x "AHEAD" 708 (.ref 392) (λP=>[di [en P "num" 690<|.str "number" 691,en P "name" 692<|.str "name" 693,en P "none" 694<|.str "kind" 695,en P "let" 696<|.str "name" 697,en P "each" 698<|.str "name" 699,en P "times" 700<|.str "name" 701] 6]) [] 393 709,
.x "BINDING" 718 (.ref 393) (λP=>[di [en P "let" 709<|.int (1) 710,en P "each" 711<|.int (1) 712,en P "times" 713<|.int (2) 714] 3]) [] 394 719,
.d,
.d,
.d,
.m,
.x "COUNTED" 757 (.ref 415) (λP=>[di [en P "sum" 742<|.int (0) 743,en P "sums" 744<|.int (0) 745,en P "most" 746<|.int (0) 747,en P "flat" 748<|.int (0) 749,en P "cut" 750<|.int (1) 751] 5]) [] 416 758,
.x "SIZED" 761 (.ref 416) (λP=>[tu [.str "pick" 758,.str "join" 759,.str "keep" 760]]) [] 417 762,
.d,
.d,
.d,
.m,
.x "Around" 819 (.ref 450) (λP=>[tu [],⟨.type "builtin_function_or_method",J,.fields #[.builtin "type.__prepare__",.type "type"],#[]⟩,di [en P "__module__" 792<|.str "broadrow.reading" 783,en P "__qualname__" 794<|.str "Around" 793,en P "__firstlineno__" 796<|.int (175) 795,en P "__init__" 807<|.ref 447,en P "__static_attributes__" 812<|.ref 448] 5,tu [],fe [iv 177,iv 4,.ref 446],cdo "Around" "Around" 787 790 175 0 0 437 L5 .none .none .none,⟨.type "frame",J,.plain,#[O<|.ref 439,O<|.ref 3,O<|.ref 436,J,O<|.str "broadrow.reading" 783,J,O<|.ref 0]⟩,tu [],fe [],tu [.str "self" 800,.str "names" 801,.str "turns" 802,.str "rounds" 803,.str "book" 804],tu [],ofn .none (cb (tn 74) 0) "Around.__init__" 0 .none .none .none,cdo "__init__" "Around.__init__" 797 805 177 5 3 441 L7 (.ref 443) (.ref 444)<|.ref 445,ofn (.type "function") (cb (tn 74) 0) "Around.__init__" 3 .none (.str "broadrow.reading" 783)<|.ref 446,tu [.str "book" 808,.str "names" 809,.str "rounds" 810,.str "turns" 811],di [en P "__module__" 792<|.str "broadrow.reading" 783,en P "__firstlineno__" 796<|.int (175) 795,en P "__init__" 807<|.ref 447,en P "__static_attributes__" 812<|.ref 448,en P "__dict__" 814<|.ref 451,en P "__weakref__" 816<|.ref 452,en P "__doc__" 817 .none] 4,⟨.type "type",J,.cls {name:="Around",bases:=[.type "object"],mro:=[.ref 450,.type "object"],ns:=449,qualname:="Around"},#[J,J,O<|.str "Around" 785,O<|.str "Around" 793,O<|.builtin "object.__new__",O<|.bool L7]⟩,⟨.type "getset_descriptor",J,.fields #[.str "__dict__" 813,.ref 450,.builtin "function.__dict__",.builtin "function.__dict__#set"],#[]⟩,⟨.type "getset_descriptor",J,.fields #[.str "__weakref__" 815,.ref 450,.builtin "ExceptionGroup.__weakref__",.none],#[]⟩,⟨.type "super",J,.fields #[.ref 450,.ref 450,.ref 450],#[]⟩,⟨.type "builtin_function_or_method",J,.fields #[.builtin "object.__init_subclass__",.ref 450],#[]⟩]) [iv 175,iv 0,.ref 439] 455 820,
.d,
.d,
.d,
.d,
.d,
.d,
.d,
.d,
.d,
.x "WAYS" 930 (.ref 514) (λP=>[di [en P "let" 922<|.ref 485,en P "if" 923<|.ref 492,en P "each" 924<|.ref 499,en P "times" 925<|.ref 506] 4]) [] 515 931,
.m,
.d,
.m,
.d,
.d,
.d,
.d,
.d,
.d,
.d,
.d,
.d,
.d]
theorem c0 (w:Mc):Cut pr rc 0 15 187 p0 20 688 129 336 ⟨60,0,61,15⟩ w:=λo=>by kernel_rfl
theorem c20 (w:Mc):Cut pr rc 20 129 336 ⟨60,0,61,15⟩ 24 699 295 508 ⟨116,0,117,67⟩ w:=λo=>by kernel_rfl
theorem c44 (w:Mc):Cut pr rc 44 295 508 ⟨116,0,117,67⟩ 1 30 302 515 ⟨118,0,119,34⟩ w:=λo=>by kernel_rfl
theorem c45 (w:Mc):Cut pr rc 45 302 515 ⟨118,0,119,34⟩ 1 488 304 568 ⟨120,0,120,6⟩ w:=Uu (P:=Cut pr rc 45 302 515 ⟨118,0,119,34⟩ 1 488 304 568 ⟨120,0,120,6⟩) "special-get-raises" (λw o=>by kernel_rfl) (λw o=>by kernel_rfl) w
theorem c46 (w:Mc):Cut pr rc 46 304 568 ⟨120,0,120,6⟩ 12 346 386 651 ⟨143,0,144,40⟩ w:=λo=>by kernel_rfl
theorem c58 (w:Mc):Cut pr rc 58 386 651 ⟨143,0,144,40⟩ 1 235 387 680 ⟨145,0,145,5⟩ w:=Uu (P:=Cut pr rc 58 386 651 ⟨143,0,144,40⟩ 1 235 387 680 ⟨145,0,145,5⟩) "special-get-raises" (λw o=>by kernel_rfl) (λw o=>by kernel_rfl) w
theorem c59 (w:Mc):Cut pr rc 59 387 680 ⟨145,0,145,5⟩ 3 45 392 690 ⟨152,0,152,8⟩ w:=λo=>by kernel_rfl
theorem c62 (w:Mc):Cut pr rc 62 392 690 ⟨152,0,152,8⟩ 1 101 393 709 ⟨153,0,153,5⟩ w:=Uu (P:=Cut pr rc 62 392 690 ⟨152,0,152,8⟩ 1 101 393 709 ⟨153,0,153,5⟩) "special-get-raises" (λw o=>by kernel_rfl) (λw o=>by kernel_rfl) w
theorem c63 (w:Mc):Cut pr rc 63 393 709 ⟨153,0,153,5⟩ 1 56 394 719 ⟨154,0,154,7⟩ w:=Uu (P:=Cut pr rc 63 393 709 ⟨153,0,153,5⟩ 1 56 394 719 ⟨154,0,154,7⟩) "special-get-raises" (λw o=>by kernel_rfl) (λw o=>by kernel_rfl) w
theorem c64 (w:Mc):Cut pr rc 64 394 719 ⟨154,0,154,7⟩ 4 97 415 742 ⟨161,0,161,8⟩ w:=λo=>by kernel_rfl
theorem c68 (w:Mc):Cut pr rc 68 415 742 ⟨161,0,161,8⟩ 1 86 416 758 ⟨162,0,162,7⟩ w:=Uu (P:=Cut pr rc 68 415 742 ⟨161,0,161,8⟩ 1 86 416 758 ⟨162,0,162,7⟩) "special-get-raises" (λw o=>by kernel_rfl) (λw o=>by kernel_rfl) w
theorem c69 (w:Mc):Cut pr rc 69 416 758 ⟨162,0,162,7⟩ 15 630 514 922 ⟨241,0,244,53⟩ w:=λo=>by kernel_rfl
theorem c84 (w:Mc):Cut pr rc 84 514 922 ⟨241,0,244,53⟩ 1 75 515 931 ⟨245,0,245,4⟩ w:=Uu (P:=Cut pr rc 84 514 922 ⟨241,0,244,53⟩ 1 75 515 931 ⟨245,0,245,4⟩) "special-get-raises" (λw o=>by kernel_rfl) (λw o=>by kernel_rfl) w
theorem c85 (w:Mc):Cut pr rc 85 515 931 ⟨245,0,245,4⟩ 13 342 580 1028 ⟨352,0,363,15⟩ w:=λo=>by kernel_rfl
theorem ch:Ch pr rc 98 580 1028 0 15 187 p0 (688+(699+(30+(488+(346+(235+(45+(101+(56+(97+(86+(630+(75+(342+(2))))))))))))))):=bb c0<|bb c20<|bb c44<|bb c45<|bb c46<|bb c58<|bb c59<|bb c62<|bb c63<|bb c64<|bb c68<|bb c69<|bb c84<|bb c85<|EF<|by kernel_rfl
def q:Td:=view pr [97]
noncomputable def lo:U Str:=(["GREATEST","LONGEST","MOST_TURNS","Stop","great_word","sums_word","nought_word","beyond_word","empty_word","upto_word","turns_word","long_word","keep_word","cut_word","done","own_copy","in_rows","do_yes","do_no","do_none","do_not","do_first","do_second","do_one","do_upto","do_long","do_sum","do_sums","do_most","do_flat","do_add","do_sub","do_mul","do_div","do_rest","do_less","do_same","do_both","do_pair","do_pick","do_join","do_keep","do_cut","DOINGS","word_of_upto","word_of_sum","word_of_most","word_of_flat","word_of_add","word_of_sub","word_of_mul","word_of_div","word_of_pick","word_of_join","word_of_keep","word_of_cut","WORDS","size","AHEAD","BINDING","parts_start","parts","binding","COUNTED","SIZED","width_once","if_width_once","turns_width_once","Around","reading","worth_of","inside","brought_worths","let_worth","if_worth","each_worth","times_worth","meet_turns","WAYS","read","_law_alike","_law_reckoned","_law_of_row","_law_of_two","_law_once","_law_number","_law_numbers","_law_beside","_law_case"]:U Tu).map Str.ofString
noncomputable def as:U S9:=[3,31,40,41,47,48,54,55,61,62,68,69,75,76,82,83,89,90,96,97,101,102,108,109,113,114,120,121,127,128,134,135,141,142,148,149,155,156,162,163,169,170,176,177,183,184,190,191,197,198,204,205,211,212,218,219,225,226,232,233,239,240,246,247,253,254,260,261,267,268,274,275,281,282,288,289,293,294,300,301,302,309,310,316,317,323,324,328,329,335,336,342,343,349,350,356,357,363,364,370,371,377,378,384,385,386,390,391,392,393,399,400,406,407,413,414,415,416,422,423,427,428,432,433,450,460,461,465,466,472,473,477,478,484,485,491,492,498,499,505,506,512,513,514,520,521,525,526,532,533,537,538,542,543,549,550,556,557,561,562,566,567,573,574,578,579,2,30,28,27,449,447,446]
def K:MM->Frag:=kK pr rc 98 as
def hk:Hook:=hkk pr rc 98 580
abbrev Xt (s:L8):Ta:=xlAt q [] s&&recOk (RowW.records<|OpenRow.toRowW<|OpenLaw.row PySem.Challenge.rw_broadrow_k17_single_pieces) s
theorem kin (w:Mc)(h:To)(a:hk.says w h):(K w.params).In h:=KG (by kernel_rfl) (by kernel_rfl) a
theorem lk (w:Mc):(λo=>((staticsOk (P7 pr.main.body) (Nr w.params) (hp pr rc 98 580 w.params)&&namesBound pr (hp pr rc 98 580 w.params)&&gensDone ⟨hp pr rc 98 580 w.params,#[],{},1028,o⟩&&laidKept (Nr w.params) (hp pr rc 98 580 w.params)),openSeen q lo (P7 pr.main.body) Xt L7 ⟨hp pr rc 98 580 w.params,#[],{},1028,o⟩,Hook.obs hk ⟨hp pr rc 98 580 w.params,#[],{},1028,o⟩))=λ_=>(L7,openGood q lo,Hook.val hk w):=by kernel_rfl
theorem e1:opening pr=plainProg pr.main.scope.names:=by kernel_rfl
theorem e2:Py pr=pr.main.body:=by kernel_rfl
theorem e3 (s:L8):fenceModules? pr s=O s:=by kernel_rfl
theorem pre (w:Mc)(o:OD):topGo Oj pr w 11 an 12 ⟨Nr w.params,Qc [],boot_drawn,boot_toks,o⟩ (topStub pr)=O ((sT pr rc w.params 0 15 187 o).abs,⟨denote Oj<|cE pr,cE pr,p0,B0⟩):=by kernel_rfl
theorem blk (w:Mc)(o:OD):segRun Oj pr w 11 an 1 1 (sT pr rc w.params 0 15 187 o).abs (blockOf (Py pr) (ev pr) (cE pr) p0 B0)=O (.next,(sT pr rc w.params 0 15 187 o).abs,cE pr,p0):=by kernel_rfl
theorem left:LeftO pr q lo Xt (Hook.obs hk) (Hook.val hk) 7934:=yf e1 (by kernel_rfl) e3 e2 BC pre blk ch (by kernel_rfl) lk
end H17

namespace A17
open PySem PySem.Spec PyProof.Rows L2 L3 MR
abbrev KK (w:Mc):L9:=H17.K w.params
theorem JK (w:Mc):∀f∈I17.fs,NoAttr (KK w) 450 f:=by
 intro f a;simp only[I17.fs,Mm,MW,TC] at a;rcases a with rfl|rfl|rfl|rfl
 .show MB (KK w) (.ref 450) _=O J;kernel_rfl
 .show MB (KK w) (.ref 450) _=O J;kernel_rfl
 .show MB (KK w) (.ref 450) _=O J;kernel_rfl
 .show MB (KK w) (.ref 450) _=O J;kernel_rfl
theorem B6 (w:Mc):sH (KK w) 450 I17.fs:=⟨⟨by kernel_rfl,by kernel_rfl,by kernel_rfl,by kernel_rfl⟩,JK w⟩
theorem J2 (w:Mc):Mk (KK w) 450 447:=⟨by kernel_rfl,by kernel_rfl,by kernel_rfl,by kernel_rfl⟩
theorem Ip (w:Mc):∃a,L2.Fun (KK w) "__init__" "Around.__init__" I17.s_Around 447 a/\Binds (KK w) a ["self","names","turns","rounds","book"] []:=by refine⟨Nh "__init__" "Around.__init__" (defArgs I17.s_Around) (defBody I17.s_Around) (defScope I17.s_Around) .none .none .none (TP.pmO<|(KK w).lookup 447) J (.ref 446) .none,?_⟩;have F:L2.Fun (KK w) "__init__" "Around.__init__" I17.s_Around 447 (Nh "__init__" "Around.__init__" (defArgs I17.s_Around) (defBody I17.s_Around) (defScope I17.s_Around) .none .none .none (TP.pmO ((KK w).lookup 447)) J (.ref 446) .none):=⟨⟨.type "function",J,_,_,_,_,_,_,#[],rfl,by kernel_rfl,by kernel_rfl⟩,by kernel_rfl⟩;exact⟨F,F.binds λ_ _ _ _ _ _ c b=>match c,b with|[_,_,_,_,_],_=>rfl⟩
theorem x31 (w:Mc):XC (KK w) 31 28 VE:=HM<|by kernel_rfl
theorem KU (w:Mc):XF (KK w) 31:=Ig (x31 w) (by rfl)<|by kernel_rfl
theorem xbt (w:Mc):XBt (KK w):=⟨by kernel_rfl⟩
theorem K2 (w:Mc):∃a,L2.Fun (KK w) "__init__" "Stop.__init__" I17.s_Stop 28 a/\Binds (KK w) a ["self","word","place","turns"] []:=by refine⟨Nh "__init__" "Stop.__init__" (defArgs I17.s_Stop) (defBody I17.s_Stop) (defScope I17.s_Stop) .none .none .none (TP.pmO<|(KK w).lookup 28) J (.ref 27) .none,?_⟩;have F:L2.Fun (KK w) "__init__" "Stop.__init__" I17.s_Stop 28 (Nh "__init__" "Stop.__init__" (defArgs I17.s_Stop) (defBody I17.s_Stop) (defScope I17.s_Stop) .none .none .none (TP.pmO ((KK w).lookup 28)) J (.ref 27) .none):=⟨⟨.type "function",J,_,_,_,_,_,_,#[],rfl,by kernel_rfl,by kernel_rfl⟩,by kernel_rfl⟩;exact⟨F,F.binds λ_ _ _ _ _ _ c b=>match c,b with|[_,_,_,_],_=>rfl⟩
theorem fld (w:Mc)(f:Str)(e:IE (KK w) (λc=>MB (KK w) (.ref c) f==O J)=L7)(c:Y)(x:XF (KK w) c):MB (KK w) (.ref c) f=O none:=beq_iff_eq.mp<|Dd (p:=λc=>MB (KK w) (.ref c) f==O J) e x
theorem xs_mk {P:Td}{w:Mc}{h:To}{e:Str->I L}(X:(KK w).In h)(G:h.Ns Ml e)(a:To):Xs P w (KK w) e a:=by obtain⟨i,F,b⟩:=Ip w;obtain⟨d,f,g⟩:=K2 w;refine⟨⟨N6 X G<|by kernel_rfl,⟨VE,rfl,λh X=>⟨_,_,(n5 (K:=KK w) (C:=31) (up:=VE) (by kernel_rfl) h X).1⟩⟩,λc j=>?_⟩,fld w _<|by kernel_rfl,fld w _<|by kernel_rfl,fld w _<|by kernel_rfl,⟨⟨28,VE,d,_,x31 w,rfl,g,λk=>I17.ok_Stop f (pJ X G<|by kernel_rfl) (xbt w) (x31 w) (by kernel_rfl) (by kernel_rfl)<|by kernel_rfl⟩,KU w,N6 X G<|by kernel_rfl⟩,⟨⟨447,i,_,J2 w,b,λk=>I17.ok_Around F<|B6 w⟩,B6 w,N6 X G<|by kernel_rfl⟩⟩;obtain rfl:=MZ.mp j;exact⟨_,_,x31 w,by decide +kernel⟩
end A17

set_option maxHeartbeats 4000000
open PySem PySem.W PyProof.Rows
set_option maxRecDepth 100000 in
set_option maxHeartbeats 0 in
theorem PySem.Challenge.cw_broadrow_k17_single_pieces_holds : PySem.Challenge.rw_broadrow_k17_single_pieces.Holds := by
 w_on; refine holds_law (by kernel_rfl) fun said=>?_
 refine holds_open (q:=H17.q) (loose:=H17.lo) (Xt:=H17.Xt) (XP:=XL H17.q []) (Yf:=Hook.obs H17.hk) (Ya:=Hook.val H17.hk) (YP:=Hook.says H17.hk) (N:=7934) (d:=TP.drec (H17.tn 97)) (kwd:=[]) H17.left (Hook.of H17.hk) (Hook.keeps H17.hk) (fun s e=>xl_of s (Ng.mp e).1) XL.keeps (by kernel_rfl) (by kernel_rfl) (by kernel_rfl) (fun s e=>recFacts_of (Ng.mp e).2) (by rfl) (by first | assumption | decide +kernel) (by decide +kernel) ⟨rfl,rfl,rfl,rfl,rfl,by decide +kernel⟩ ?hw ?hc
 case hw=>w_witness2
 refine MR.walkX (sx:="script") (l:=PySem.Challenge.rw_broadrow_k17_single_pieces) (k:=42) (C:=A17.Cl 40) (ix:=0) (K:=H17.K) A17.pure_law rfl (by kernel_rfl) ⟨rfl,by decide,by decide,rfl⟩ H17.kin ?F
 case F =>
  intro w mg fa h KX G hmg
  refine' A17.all_mk KX G hmg ?zRaws ?zr1 ?zr0 ?zg0 ?zg1 ?zq_AHEAD ?zq_DOINGS ?zq_WAYS ?zq_WORDS ?ztx ?zxs
  case zg0=>exact ⟨TP.tkO (nsIn (H17.K w.params) mainGlobals "GREATEST"),by kernel_rfl⟩
  case zg1=>exact ⟨TP.tkO (nsIn (H17.K w.params) mainGlobals "LONGEST"),by kernel_rfl⟩
  case zq_AHEAD=>exact ⟨_,TP.tab_mk (by kernel_rfl) (by kernel_rfl) (by kernel_rfl) (by kernel_rfl),by kernel_rfl⟩
  case zq_DOINGS=>exact ⟨_,TP.tab_mk (by kernel_rfl) (by kernel_rfl) (by kernel_rfl) (by kernel_rfl),TP.nam_of (by kernel_rfl)⟩
  case zq_WAYS=>exact ⟨_,TP.tab_mk (by kernel_rfl) (by kernel_rfl) (by kernel_rfl) (by kernel_rfl),by kernel_rfl,TP.nam_of (by kernel_rfl)⟩
  case zq_WORDS=>exact ⟨_,TP.tab_mk (by kernel_rfl) (by kernel_rfl) (by kernel_rfl) (by kernel_rfl),by kernel_rfl,TP.nam_of (by kernel_rfl)⟩
  case zRaws=>exact MR.raws_mk (by kernel_rfl)
  case zxs=>exact fun base=>A17.xs_mk KX G base
  case ztx=>refine' ⟨?_,?_,?_,?_,?_,?_,?_,?_,?_,?_,?_,?_,?_,?_,?_,?_,?_,?_,?_,?_,?_,trivial⟩<;>kernel_rfl
  all_goals exact TP.raw_mk (by kernel_rfl) (by kernel_rfl) (by kernel_rfl) (by kernel_rfl)
