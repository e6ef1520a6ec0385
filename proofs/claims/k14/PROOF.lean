import PyProof.Rows.All
import Wide.All
import OpenK.AllK
import Wide.FinOn
import Lean
import PyProof.EqAt
import PyProof.EqKinds
import PyProof.TupleCall
import PyProof.ExcInit
import PyProof.ExcClass3
import PyProof.ExcBaseAll.ValueError
import PyProof.StationsW
import PyProof.FString
import PyProof.Rows.FStr
import PyProof.NsDelKeeps
import PyProof.RulesAs
import PyProof.ExcArgs
import PySem.Str
import PySem.Builtin.Str.Common
import PyProof.ReprReads
import PyProof.Rows.Range3
import PyProof.P3Eq
import PyProof.TableCode
import PySem.Challenge.RW_broadrow_k14_kinds_of_pieces
noncomputable section
open _root_ renaming List → U, Nat → O, Option → L, Int → I
open Option renaming some → Y, none → J
open PySem renaming Value → B
open PySem renaming Addr → OD, Program → OI, wpAny → OJ, Expr → ON, Heap → OT, eval → OV, Stmt → OW, DictEntry → OX, Scope → OZ, cLine → O0, wpAny_isTrue_Compare1 → O7, valueAt → O9, swapsWithSole → Pa, swappedStores → Pb, seq_tuple_add → Pd, wpAny_standAt → Pf, comprehension → Pg, strKind_is → Ph, GenState → Pk, codeAny_mono → Pl, concat_meets → Pm, wpAny_typeOf → Pn, OsState → Pp, strValues → Pt, atKey → Pu, isTrue → Px, bindL → Py, bindC → Pz
open _root_ renaming decide_eq_true → OE, Bool → OF, if_pos → OG, absurd → OH, if_neg → OK, String → OL, of_decide_eq_true → OM, decide_eq_true_eq → OP, congrArg → OQ, decide_eq_false → OR, False → OS, beq_self_eq_true → OU, Array → OY, Inhabited → O1, DecidableEq → O2, cond_true → O3, decide_false → O5, beq_false_of_ne → O6, decide_true → O8, or_false → Pr, if_true → Pw, True → PD
open PyProof.Rows renaming subscriptTail_builtinR → O4, subscriptTail → Pe, IsTup → Pj, IntsAre → Po
open PySem.W renaming nsIn → Pq
open Option renaming some → Jr, none → Js
open Bool renaming false → Jt, true → Ju
open PySem renaming Shared → Jv, starEach → Jz, wpAny_bind → JD, World → Jy, model → JA, mainGlobals → JT, wpAny_pure → JO, wpAny_mono → J5, Around → JU, foldedSetIterable → Kp, backTo → JZ, behindInMarks → Kt, compareOp → Kh, swapsWith → Kj, sysModules → Ko, Params → Kb, binaryOp → Kk, lookup_relabel_local → Ls, wpAny_newObj_type → Lc, FuncData → Kn, closureFor → KG, Keyword → Km, bootBuiltins → K4, wpAny_callSpecial?_slot → Ma, attributeBase → Li, letOwnedTupleGo → Lw, tupleKind_room_in1 → LN, wpAny_field → Lh, sliceBounds → Lg, keywordEach → Lf, wpAny_passesOwn → LL, wpAny_pyIter_tuple → L9, call_meetsIn → Lv, treeTable → K3, getItem → KO, call_meets → Le, wpAny_Call_method → L8, wpAny_call_entry → L7, tupleKind → Ld, wpAny_execs_nil → L6, assignEach → Lu, IsPart → KN, importedModules → L5, BindsTo → K2, codeAny → K1, backToKw → Lk, callerA → K5, assign → KW, wpAny_Call_Name_kw → MK, ExceptHandler → Mc, wpAny_truthy_bool → MJ, typeIs_str → LO, relabel → Lj, noFill_tuple_add → MI, sizeLine_eq → Mb, subscripted → L4
open PySem.W renaming boot_heap → Ks, behindTheImports → LM
open PyProof.Rows renaming envOfC → Ky, AllBare → KU
open List renaming length_append → Jx, drop_succ_cons → JC, take_succ_cons → JG, drop_zero → JB, mem_cons_self → JJ, length_singleton → JL, length_map → JF, take_zero → JH, append_assoc → JN, mem_cons_of_mem → JW, append_nil → JR, mem_append_right → J2, lookup → JI, length_cons → JY, map_cons → JQ, replicate → JV, size_toArray → J1, mem_singleton → J4, mem_cons → JX, map_nil → J0, getElem?_eq_some_iff → KD, getElem?_map → Ki, getElem?_cons_succ → KR, getElem?_eq_getElem → KZ, range → J6, mem_append → Kq, filterMap_cons → KQ, nil_append → Kw, lookup_cons → KC, length_replicate → La, mem_append_left → K8, replicate_succ → K7, nodup_cons → KP, map_append → KS, cons_ne_nil → K0, getElem?_append_right → LZ, getElem?_append_left → LY, any_cons → KL, all_eq_true → Lb, mem_map → KJ, flatten_cons → Lr, getD_eq_getElem?_getD → Mv, find?_cons → Lq, length_drop → LD, not_mem_nil → LC, length_nil → LA, map_map → K6, getElem?_set_ne → Mt, mem_of_getElem? → Ms, map_congr_left → Mp, getElem?_replicate → M8, all_cons → LI, getElem?_cons_zero → Nh, getElem?_set_self → Ng, take_of_length_le → Nd, append_eq_nil_iff → Nc, nodup_append → MD, isEmpty_cons → MC, length_take → MA, mem_filter → My, of_mem_zip → Mx, length → LG, length_zip → Mw, contains_cons → Nl, length_range → MX, drop_length → MT, cons_append → MS, getElem_mem → MQ, find?_cons_of_neg → NT, contains_iff_mem → Of, drop_drop → M5, length_pos_iff → Oc, map_eq_nil_iff → Ob, mem_filterMap → N9, take_nil → M3, filter_cons → NL, foldl_cons → NJ, length_set → NG, mem_range → ND, nodup_nil → Nz, foldl → MM, drop_nil → Nu, sum_cons → Nt, map_id → NM
open PySem.W renaming Frag → Jw, kia_one → Kx, fnOf → KY, kitOne → Lp, findIn → Lz, keepIn → Ly, nsIn → LW, codeIn → MF, methodObj → Nk, hasDictIn → M0, kitx_list → MZ, mg_of → Mj, cellsFrom_some → NX, instObj → MP, OpenLaw → MO, lookIn → M6, kitx_tuple → N7, specialIn → N5, kitx_dict → N4, plainGet → Om, takesIn → NK, KeysLit → NI, mroIn → Ny, WalkO → Nw, subIn → Nv
open Bool renaming and_eq_true → JM, and_eq_true_iff → Kc, false_ne_true → Ka, bne_false → KH, false_or → Ln, or_eq_false_iff → Mq, eq_false_iff → MB, true_or → LH, false_and → MG, not_eq_true' → MV, true_and → Mi, not_eq_true → Oi, or_eq_true → NH, or_false → Nx
open Nat renaming le_refl → JE, le_trans → JP, lt_of_lt_of_le → J8, ne_of_lt → J7, zero_le → Kl, lt_irrefl → Lo, pow_le_pow_right → Mr, le_of_ble_eq_true → Na, ne_of_gt → LS, lt_of_le_of_lt → Nq, zero_add → LX, succ_le_succ → MU, le_of_lt → Mh, add_comm → Mg, pow_succ → Mn, min_self → Mm, lt_succ_of_lt → Oo, le_of_not_lt → Oj, le_succ → MN, mul_comm → NR, lt_trans → NQ
open Option.some renaming inj → Kg, injEq → MW
open Array renaming length_toList → Kr, all_eq_true' → ME, toList_inj → Mz, getElem?_eq_getElem → Ot, getElem?_eq_none → NU, toList_append → Od, append_assoc → Oa, find?_toList → N8, mk → Mf, toList → NS
open PySem.Str renaming join → Ke, mk → M7
open PyProof.Rows renaming slot_tuple_getitem → LJ, callWith_type1 → MH, boot_list → NW, callWith_builtin1 → OC, boot_isinstance → Ox, boot_tuple → Ow, boot_dict → Ov, eq_dataH → OB, ne_dataH → OA, boot_int → Oz
open Or renaming inr → JK, inl → JS
open PySem.F renaming slot_dict_get → K9, entry_dict_get → LR, plainAttrs_dict → Mu, args_tuple_add_2 → M9, entry_tuple_add → Nj, args_dict_get_2 → Ni, slot_tuple_add → Nf, type_dict_get → Nb, slot_dict_setdefault → Oq, slot_dict_getitem → Ou, args_dict_get_3 → N1, plainAttrs_list → N0, plainAttrs_str → NV
open Prod renaming fst → J9, snd → Lm
open Nat.succ renaming inj → KI
open PySem renaming mem_of_lookup → LF, Str → Ku, NameKind → M4, reprText → NB, boot_len → NA, call → ML, Within → Nr
open False renaming elim → KA
open True renaming intro → Kz
open Sum renaming inr → Kf, inl → Ll
open Ne renaming symm → Kv
open List.cons renaming inj → LV
open Option renaming toList → LU, toList_none → Np, isSome_iff_exists → N2, bind_eq_some_iff → NZ, isSome_some → N6, isSome_map → N3, getD_none → Ol, bind_some → Oh, getD_some → Og
open Int renaming toNat_natCast → MY, reduceLT → Ml, toNat → LP, natAbs → Mo, emod_nonneg → NF
open Classical renaming propDecidable → NY, em → NP
open Char renaming toNat → LQ
open String renaming length_toList → Oe
open Sum.inr renaming inj → Mk
open And renaming left → Lx
open BEq renaming comm → Me
open Prod.mk renaming inj → NN
open List.Pairwise renaming nil → Oy
set_option compiler.extract_closed false
set_option bootstrap.genMatcherCode false
set_option genSizeOf false
set_option genInjectivity false
set_option Elab.async false
set_option linter.all false
set_option maxRecDepth 100000
namespace L2
open PySem PySem.Spec PyProof.Rows
abbrev Key:=Sum I Str
noncomputable def iW:Key->B->OF
|.inl k,v=>Value.isInt k v
|.inr x,v=>Value.isStrOf x v
noncomputable def Jp (w:Jy):Key->I
|.inl k=>hashInt k
|.inr x=>hashStr w x
theorem aW:∀{k:Key} {v:B},iW k v=Ju->(∃i t,k=Ll i/\v=Value.int i t)\/(∃x t,k=Kf x/\v=Value.str x t)
|.inl i,v,h=>by obtain⟨t,e⟩:=Value.isInt_shape (k:=i) (v:=v) h;exact .inl ⟨i,t,rfl,e⟩
|.inr x,v,h=>by obtain⟨t,e⟩:=Value.isStrOf_shape (x:=x) (v:=v) h;exact .inr ⟨x,t,rfl,e⟩
theorem qh (i:I)(t:Tok):iW (.inl i) (.int i t)=true:=by simp[iW,Value.isInt]
theorem pC (x:Str)(t:Tok):iW (.inr x) (.str x t)=true:=by simp[iW,Value.isStrOf]
theorem Cq (a b:I):decide ((Ll a:Key)=Ll b)=(a==b):=by
 by_cases e:a=b
 .subst e;simp
 .have h:¬ (Ll a:Key)=Ll b:=fun q=>e<|Sum.inl.inj q;rw[OR h];exact(beq_eq_false_iff_ne.mpr e).symm
theorem Az (a b:Str):decide ((Kf a:Key)=Kf b)=decide (a=b):=by
 by_cases e:a=b
 .subst e;simp
 .have h:¬ (Kf a:Key)=Kf b:=fun q=>e<|Mk q;rw[OR h,OR e]
theorem Ct (a:I)(b:Str):decide ((Ll a:Key)=Kf b)=false:=OR λq=>nomatch q
theorem BV (a:Str)(b:I):decide ((Kf a:Key)=Ll b)=false:=OR λq=>nomatch q
def aK (prog:OI)(w:Jy):PySem.KeyKind prog w Key where
 is:=iW
 hash:=Jp w
 inj:=λv a b f d=>by
  rcases aW f with⟨i,t,rfl,rfl⟩|⟨x,t,rfl,rfl⟩
  .rcases aW d with ⟨j,u,rfl,e⟩ | ⟨y,u,rfl,e⟩
   .injection e with e1 _;rw[e1]
   .exact nomatch e
  .rcases aW d with ⟨j,u,rfl,e⟩ | ⟨y,u,rfl,e⟩
   .exact nomatch e
   .injection e with e1 _;rw[e1]
 byValue:=λk v h=>by rcases aW h with⟨i,t,rfl,rfl⟩|⟨x,t,rfl,rfl⟩<;>rfl
 pyHash:=λc h=>by
  rcases aW c with⟨i,t,rfl,rfl⟩|⟨x,t,rfl,rfl⟩
  .exact wpAny_pyHash_int h
  .exact wpAny_pyHash_str h
 eqBool:=λg c h=>by
  rcases aW g with⟨i,t,rfl,rfl⟩|⟨x,t,rfl,rfl⟩
  .rcases aW c with ⟨j,u,rfl,rfl⟩ | ⟨y,u,rfl,rfl⟩
   .rw[Cq] at h;exact wpAny_eqBool_int h
   .rw[Ct] at h;exact SeqAt.EqAt.int_str i t y u _ _ _ _ h
  .rcases aW c with ⟨j,u,rfl,rfl⟩ | ⟨y,u,rfl,rfl⟩
   .rw[BV] at h;exact SeqAt.EqAt.str_int x t j u _ _ _ _ h
   .rw[Az] at h;exact wpAny_eqBool_str h
 «strs»:=λk x t v h=>by
  rcases aW h with⟨i,u,rfl,e⟩|⟨y,u,rfl,e⟩
  .exact nomatch e
  .injection e with e1 _
   subst e1;cases v<;>rfl
theorem j6 (prog:OI)(w:Jy)(i:I)(t:Tok):(aK prog w).is (.inl i) (.int i t)=true:=qh i t
theorem kr (prog:OI)(w:Jy)(x:Str)(t:Tok):(aK prog w).is (.inr x) (.str x t)=true:=pC x t
set_option genInjectivity true
inductive V where
 |non|bl (b:OF)|int (i:I)|str (x:Str)|byt (b:OY UInt8)|flt (b:UInt64)|ref (a:OD)|ty (n:OL)
 deriving O2
set_option genInjectivity false
def RelV:V->B->Prop
|.non,u=>u=Value.none
|.bl b,u=>u=Value.bool b
|.int i,u=>∃t,u=Value.int i t
|.str x,u=>∃t,u=Value.str x t
|.byt b,u=>∃t,u=Value.bytes b t
|.flt b,u=>∃t,u=Value.float b t
|.ref a,u=>u=Value.ref a
|.ty n,u=>u=Value.type n
abbrev Vals:U V->U B->Prop:=Paired RelV
theorem Vals.length {b:U V}{a:U B}(r:Vals b a):b.length=a.length:=Paired.length r
theorem Vals.get:∀{b:U V} {a:U B} {i:O} {x:V},Vals b a->b[i]?=Y x->∃u,a[i]?=Y u/\RelV x u
|_,_,_,_,.nil,e=>by simp at e
|_,_,0,_,.cons r _,e=>by simp at e;subst e;exact⟨_,rfl,r⟩
|_,_,i+1,x,.cons _ t,e=>by obtain⟨u,c,d⟩:=Vals.get (i:=i) (x:=x) t (by simpa using e);exact⟨u,by simpa using c,d⟩
theorem Vals.set {x:V}{u:B}(r:RelV x u):∀{b:U V} {a:U B} (i:O),Vals b a->Vals (b.set i x) (a.set i u)
|_,_,_,.nil=>.nil
|_,_,0,.cons _ t=>.cons r t
|_,_,i+1,.cons q t=>.cons q<|Vals.set r i t
theorem Vals.append:∀{c d:U V} {a b:U B},Vals c a->Vals d b->Vals (c++d) (a++b)
|_,_,_,_,.nil,s=>s
|_,_,_,_,.cons r t,s=>.cons r<|Vals.append t s
theorem Vals.take:∀{b:U V} {a:U B} (n:O),Vals b a->Vals (b.take n) (a.take n)
|_,_,0,_=>.nil
|_,_,_+1,.nil=>.nil
|_,_,n+1,.cons r t=>.cons r<|Vals.take n t
theorem Vals.drop:∀{b:U V} {a:U B} (n:O),Vals b a->Vals (b.drop n) (a.drop n)
|_,_,0,r=>r
|_,_,_+1,.nil=>.nil
|_,_,n+1,.cons _ t=>Vals.drop n t
def RelO:L V->L B->Prop
|some v,Y u=>RelV v u
|none,J=>PD
|_,_=>OS
def KV {a:Type}:U (a×V)->U (a×B)->Prop:=Paired λ(p:a×V) (q:a×B)=>p.1=q.1/\RelV p.2 q.2
def kV:Key->V
|.inl i=>.int i
|.inr x=>.str x
inductive HO where
 |lst (xs:U V)
 |tup (xs:U V)
 |dK (kvs:U (Key×V))|dT (kvs:U (U Key×V))
 |set (S:I->OF) (n:O)
 |ins (C dx:OD) (fs:U (Str×V))
 |own (x:OD)
 |xd (fs:U (Str×V))
 |met (f x:OD)
 |rng (lo hi:I)
 |frz (o:Obj) (u:HO)
 |tbl (ps:OY B)
 |ext (φ:OT->Prop)
abbrev Hp:=OD->L HO
noncomputable def upd (H:Hp)(a:OD)(o:HO):Hp:=λb=>if b=a then Y o else H b
theorem aq {H:Hp}{a:OD}{o:HO}:upd H a o a=Y o:=by unfold upd;rw[OG rfl]
theorem ag {H:Hp}{a b:OD}{o:HO}(h:b≠a):upd H a o b=H b:=by unfold upd;rw[OK h]
theorem EA {H:Hp}{a b:OD}{o u:HO}(h:H a=Y o)(c:H b=Y u)(d:o≠u):a≠b:=by intro e;subst e;rw[h] at c;exact d<|Kg c
theorem aR {H:Hp}{a b:OD}{o:HO}(h:H a=Y o)(c:H b=J):a≠b:=by intro e;subst e;rw[h] at c;cases c
section
variable (P:OI)(w:Jy)
def ObjOk (H:Hp)(h:OT)(a:OD):HO->Prop
|.lst d=>d.length<=sizeLine/\∃(b:U B) (n:O),Vals d b/\h.get? a=Y {cls:=.type "list",data:=.seq b.toArray n}
|.tup d=>d.length<=sizeLine/\∃b:U B,Vals d b/\Pj h a b.toArray
|.dK c=>c.length<=sizeLine/\(a==Ko)=Jt/\∃m,KV c m/\h.DictOf (aK P w) a m
| .dT c=>c.length<=sizeLine/\(a==Ko)=Jt/\∃ d:U (U Key×OD×B),
  Paired (λ(p:U Key×V) (q:U Key×OD×B)=>p.1=q.1/\H q.2.1=Y (.tup<|p.1.map kV)/\RelV p.2 q.2.2) c d /\
  ∃o j ep,h.get? a=Y o/\o.ExactDict/\o.data=.dict j ep/\j.toList=d.map (entryOfKey<|Ld<|aK P w)/\(d.map (·.1)).Nodup
|.set S n=>h.SetOf (intKind P w) a S n
| .ins C g fs=>H g=Y (.own a)/\fs.length<=1000/\g≠a/\h.get? a=Y (MP C g) /\
  ∃e,h.Ns1 g e/\(∀f,RelO (fs.lookup f)<|e f)/\Nr e (fs.map (·.1))
|.own _=>∃o,h.get? a=Y o
|.xd fs=>∃e,h.Ns1 a e/\∀f,RelO (fs.lookup f)<|e f
|.rng lo r=>∃t u v,h.get? a=Y {cls:=.type "range",data:=.fields #[.int lo t,.int r u,.int 1 v]}
|.frz o u=>h.get? a=Y o/\ObjOk H h a u
|.tbl ps=>h.get? a=Y {cls:=.none,data:=.fields ps}
|.met f x=>h.get? a=Y (Nk (.ref f)<|.ref x)
|.ext i=>i h/\(∃o,h.get? a=Y o)/\∀k l:OT,i k->(∀o,k.get? a=Y o->l.get? a=Y o)->i l
def HOk (H:Hp)(h:OT):Prop:=∀a o,H a=Y o->ObjOk P w H h a o
end
section
variable {P:OI}{w:Jy}{H H':Hp}{h h':OT}{a:OD}{o:HO}
theorem ObjOk.lt (x:ObjOk P w H h a o):a<h.objs.size:=by
 cases o with
 |lst c=>obtain⟨_,_,_,_,e⟩:=x;exact Heap.lt_size e
 |tup c=>obtain⟨_,_,_,p⟩:=x;exact p.lt
 |dK b=>obtain⟨_,_,_,_,o,_,_,e,_⟩:=x;exact Heap.lt_size e
 |dT b=>obtain⟨_,_,_,_,o,_,_,e,_⟩:=x;exact Heap.lt_size e
 |set S n=>obtain⟨o,_,_,_,e,_⟩:=x;exact Heap.lt_size e
 |ins C d fs=>obtain⟨_,_,_,e,_⟩:=x;exact Heap.lt_size e
 |own y=>obtain⟨_,e⟩:=x;exact Heap.lt_size e
 |xd fs=>obtain⟨_,⟨_,_,_,e,_⟩,_⟩:=x;exact Heap.lt_size e
 |rng lo g=>obtain⟨_,_,_,e⟩:=x;exact Heap.lt_size e
 |frz i u=>obtain⟨e,_⟩:=x;exact Heap.lt_size e
 |tbl ps=>exact Heap.lt_size<|show h.get? a=Y _ from x
 |met f y=>exact Heap.lt_size<|show h.get? a=Y _ from x
 |ext j=>obtain⟨_,⟨_,e⟩,_⟩:=x;exact Heap.lt_size e
theorem Paired.mapP {e g:Type}{F G:e->g->Prop}:∀{c:U e} {d:U g},Paired F c d->(∀a b,F a b->G a b)->Paired G c d
|_,_,.nil,_=>.nil
|_,_,.cons r t,f=>.cons (f _ _ r)<|Paired.mapP t f
theorem ObjOk.stay (x:ObjOk P w H h a o)(k:∀b u,(b=a\/H b=Y (.own a))->h.get? b=Y u->h'.get? b=Y u)
  (ho:∀b,H b=Y (.own a)->H' b=Y (.own a)) (F:∀b l,H b=Y (.tup l)->H' b=Y (.tup l)):ObjOk P w H' h' a o:=by
 induction o with
 |lst l=>obtain⟨z,j,n,r,e⟩:=x;exact⟨z,j,n,r,k _ _ (.inl rfl) e⟩
 |tup l=>obtain⟨z,j,r,g,e,c⟩:=x;exact⟨z,j,r,g,k _ _ (.inl rfl) e,c⟩
 |dK m=>obtain⟨z,y,N,r,g,i,ep,e,c⟩:=x;exact⟨z,y,N,r,g,i,ep,k _ _ (.inl rfl) e,c⟩
 |dT m=>obtain⟨z,y,l,r,g,i,ep,e,c⟩:=x;exact⟨z,y,l,Paired.mapP r λp q z=>⟨z.1,F _ _ z.2.1,z.2.2⟩,g,i,ep,k _ _ (.inl rfl) e,c⟩
 |set S n=>obtain⟨g,i,ep,t,e,c⟩:=x;exact⟨g,i,ep,t,k _ _ (.inl rfl) e,c⟩
 |ins C Q fs=>obtain⟨d,z,M,e,s,⟨A,i,ep,e2,c⟩,r⟩:=x;exact⟨ho _ d,z,M,k _ _ (.inl rfl) e,s,⟨A,i,ep,k _ _ (.inr d) e2,c⟩,r⟩
 |own y=>obtain⟨g,e⟩:=x;exact⟨g,k _ _ (.inl rfl) e⟩
 |xd fs=>obtain⟨s,⟨A,i,ep,e,c⟩,r⟩:=x;exact⟨s,⟨A,i,ep,k _ _ (.inl rfl) e,c⟩,r⟩
 |rng lo Z=>obtain⟨t,u,v,e⟩:=x;exact⟨t,u,v,k _ _ (.inl rfl) e⟩
 |frz g u G=>obtain⟨e,q⟩:=x;exact⟨k _ _ (.inl rfl) e,G q⟩
 |tbl ps=>have e:h.get? a=Y {cls:=.none,data:=.fields ps}:=x;show h'.get? a=Y {cls:=.none,data:=.fields ps};exact k a _ (.inl rfl) e
 |met f y=>have e:h.get? a=Y (Nk (.ref f) (.ref y)):=x;show h'.get? a=Y (Nk (.ref f)<|.ref y);exact k a _ (.inl rfl) e
 |ext φ=>obtain⟨p,⟨o,e⟩,D⟩:=x;exact⟨D _ _ p λo q=>k _ _ (.inl rfl) q,⟨o,k _ _ (.inl rfl) e⟩,D⟩
theorem HOk.lt (x:HOk P w H h)(e:H a=Y o):a<h.objs.size:=(x a o e).lt
theorem HOk.fresh (x:HOk P w H h)(e:h.objs.size<=a):H a=none:=by
 cases q:H a with
 |none=>rfl
 |some u=>exact OH (J8 (x.lt q) e)<|Lo _
theorem HOk.kept (x:HOk P w H h)(k:∀b u,h.get? b=Y u->h'.get? b=Y u):HOk P w H h':=λa o e=>
 (x a o e).stay (λb u _ q=>k b u q) (λ_ q=>q) λ_ _ q=>q
theorem HOk.laid (x:HOk P w H h)(k:∀b u,h.get? b=Y u->h'.get? b=Y u)(hp:h.objs.size<=a)(d:ObjOk P w (upd H a o) h' a o):HOk P w (upd H a o) h':=λb u e=>by
 have g:=x.fresh hp;by_cases f:b=a
 .subst f;rw[aq] at e;cases e;exact d
 .rw [ag f] at e;exact(x b u e).stay (λc v _ q=>k c v q) (λc q=>by rw[ag<|aR q g];exact q) λc i q=>by rw[ag<|aR q g];exact q
end
def Rd (H:Hp)(a:OD)(u:HO):Prop:=H a=Y u\/∃o,H a=Y (.frz o u)
theorem Rd.ok {P:OI}{w:Jy}{H:Hp}{h:OT}{a:OD}{u:HO}(r:Rd H a u)(x:HOk P w H h):ObjOk P w H h a u:=by
 rcases r with r|⟨o,r⟩
 .exact x a u r
 .obtain ⟨_,q⟩:=x a _ r;exact q
def Mut:L HO->Prop
|some (.lst _)=>PD
|some (.dK _)=>PD
|some (.dT _)=>PD
|some (.set _ _)=>PD
|some (.ins _ _ _)=>PD
|some (.ext _)=>PD
|_=>OS
section
variable {P:OI}{w:Jy}{H:Hp}{h h':OT}{x e:OD}{o':HO}
theorem HOk.write (ok:HOk P w H h)(j:Mut<|H x)(o:e=x\/H e=Y (.own x))(k:∀b u,b≠e->h.get? b=Y u->h'.get? b=Y u)(m:∃u,h'.get? e=Y u)
  (n:ObjOk P w (upd H x o') h' x o'):HOk P w (upd H x o') h':=λb u q=>by
 have d:∀c y,H c=Y (.own y)->c≠x:=λc y r z=>by subst z;rw[r] at j;exact j
 have f:∀c l,H c=Y (.tup l)->c≠x:=λc l r z=>by subst z;rw[r] at j;exact j
 by_cases g:b=x
 .subst g;rw[aq] at q;cases q;exact n
 .rw [ag g] at q;by_cases a:b=e
  .have p:H b=Y (.own x):=by
    rcases o with z|z
    .exact OH (a.trans z) g
    .rw[a];exact z
   rw[q] at p;cases p;obtain⟨v,s⟩:=m;exact⟨v,by rw[a];exact s⟩
  .refine (ok b u q).stay (fun c v i r=>k c v ?_ r) (fun c r=>by rw [ag (d c b r)]; exact r) fun c l r=>by rw [ag (f c l r)]; exact r
   rcases i with rfl|i
   .exact a
   .rintro rfl;rcases o with z|z
    .exact d c b i z
    .rw[i] at z;cases z;exact g rfl
end
structure Un (fs ex:U OD)(H H':Hp)(h h':OT):Prop where
 keep:∀b o,h.get? b=Y o->H b=J->b ∉ fs->b ∉ ex->h'.get? b=Y o
 slot:∀b o,h.get? b=Y o->H b=J->b∈fs->b ∉ ex->∃sl,h'.get? b=Y {o with slots:=sl}
 free:∀b o,h.get? b=Y o->H b=J->b ∉ ex->H' b=J
 there:∀b o,h.get? b=Y o->b ∉ ex->∃o',h'.get? b=Y o'
 tups:∀b xs,H b=Y (.tup xs)->H' b=Y (.tup xs)
 frzs:∀b o u,H b=Y (.frz o u)->H' b=Y (.frz o u)
 tbls:∀b ps,H b=Y (.tbl ps)->∃more,H' b=Y (.tbl (ps++more))
section
variable {fs fs' ex ex':U OD}{H H1 H2:Hp}{h h1 h2 h':OT}{a x e:OD}{o:HO}
theorem Un.any (u:Un fs ex H H1 h h1){b:OD}{c:Obj}(q:h.get? b=Y c)(n:H b=J)(hx:b ∉ ex):∃f,h1.get? b=Y {c with slots:=f}:=by
 by_cases d:b∈fs
 .exact u.slot b c q n d hx
 .exact⟨c.slots,u.keep b c q n d hx⟩
theorem Un.kept (k:∀b u,h.get? b=Y u->h'.get? b=Y u):Un fs ex H H h h':=
 ⟨λb c q _ _ _=>k b c q,λb c q _ _ _=>⟨c.slots,k b c q⟩,λ_ _ _ n _=>n,λb c q _=>⟨c,k b c q⟩,λ_ _ q=>q,λ_ _ _ q=>q,λ_ ps q=>⟨#[],by rw[q];simp⟩⟩
theorem Un.refl:Un fs ex H H h h:=Un.kept λ_ _ q=>q
theorem Un.laid (k:∀b u,h.get? b=Y u->h'.get? b=Y u)(hp:h.objs.size<=a)(c:H a=J):Un fs ex H (upd H a o) h h' where
 keep:=λb u q _ _ _=>k b u q
 slot:=λb u q _ _ _=>⟨u.slots,k b u q⟩
 free:=λb u q n _=>by rw[ag<|J7<|J8 (Heap.lt_size q) hp];exact n
 there:=λb u q _=>⟨u,k b u q⟩
 tups:=λb d q=>by rw[ag<|aR q c];exact q
 frzs:=λb u d q=>by rw[ag<|aR q c];exact q
 tbls:=λb ps q=>⟨#[],by rw[ag<|aR q c,q];simp⟩
theorem Un.write (d:Mut<|H x)(j:e=x\/H e=Y (.own x))(k:∀b u,b≠e->h.get? b=Y u->h'.get? b=Y u)(f:∃u,h'.get? e=Y u):Un fs ex H (upd H x o) h h':=by
 have hx:∀b,H b=J->b≠x:=λb n z=>by subst z;rw[n] at d;exact d
 have i:∀b,H b=J->b≠e:=λb n z=>by
  subst z;rcases j with r|r
  .exact hx b n r
  .rw[n] at r;cases r
 have g:∀b u,H b=Y u->¬Mut (Y u)->b≠x:=λb u q l z=>by subst z;rw[q] at d;exact l d
 refine⟨λb u q n _ _=>k b u (i b n) q,λb u q n _ _=>⟨u.slots,k b u (i b n) q⟩,λb u q n _=>by rw[ag<|hx b n];exact n,λb u q _=>?_,
  λb m q=>by rw[ag<|g b _ q λz=>z];exact q,λb u m q=>by rw[ag<|g b _ q λz=>z];exact q,λb ps q=>⟨#[],by rw[ag<|g b _ q λz=>z,q];simp⟩⟩
 by_cases c:b=e
 .subst c;exact f
 .exact⟨u,k b u c q⟩
end
noncomputable def trk (h:OT)(H:Hp):U OD:=(J6 h.objs.size).filter λa=>(H a).isSome
def jH (h:OT)(H:Hp):OT:=PySem.W.hideAll h<|trk h H
theorem pA (h:OT)(H:Hp):(jH h H).objs.size=h.objs.size:=PySem.W.hideAll_size _ _
theorem uG {h:OT}{H:Hp}{b:OD}{o:Obj}(e:h.get? b=Y o)(n:H b=J):(jH h H).get? b=Y o:=
 PySem.W.hideAll_get _ e λa=>by have q:(H b).isSome=true:=(My.mp a).2;rw[n] at q;simp at q
theorem zc {h:OT}{H:Hp}{b:OD}{o:Obj}(e:(jH h H).get? b=Y o):h.get? b=Y o/\H b=none:=by
 have a:h.get? b=Y o:=PySem.W.of_hideAll (trk h H) e;refine⟨a,?_⟩;cases q:H b with
 |none=>rfl
 |some x=>have c:b∈trk h H:=My.mpr ⟨ND.mpr<|Heap.lt_size a,by simp[q]⟩;have z:(jH h H).get? b=none:=PySem.W.hideAll_none (trk h H) c;rw[z] at e;cases e
noncomputable def yz (g h:OT)(b:OD):U (OD×Obj):=(J6 h.objs.size).filterMap λa=>if a=b\/(g.get? a).isSome=Ju then J else(h.get? a).map λo=>(a,o)
def rest (g h:OT)(a d:OD):U (OD×Obj):=(yz g h a).filter λp=>decide (p.1≠d)
structure Mod (K:Jw)(mg:Str->L B)(base:OT):Prop where
 kin:K.In base
 glob:base.Ns JT mg
 blt:∃mb,base.Ns builtinsNs mb/\∀x:Str,x≠"__name__"->mb x=K4 x
 nolimit:base.NoLimit
structure Cx where
 prog:OI
 w:Jy
 K:Jw
 mg:Str->L B
 base:OT
 A:JU
 N:U Str
 s₀:Jv
 H₀:Hp
 env:Env
 outer:U Env
 stack:U Env
 ex:U OD
 fn:Str->OF
 calm:OF
 pn:U (OD×Obj)
 xe:B->Jv->Prop
noncomputable def frs (l:U Env):U OD:=l.filterMap (·.frame)
abbrev Cx.fs (X:Cx):U OD:=frs X.outer
def Vis (a:OZ)(x:Str):Prop:=a.names.lookup x=Y .local\/a.names.lookup x=Y .cell\/a.names.lookup x=Y .free
def Loc (a:OZ)(x:Str):Prop:=a.names.lookup x=Y .local\/a.names.lookup x=Y .cell
def Iy (a:Env)(h:OT)(m:Str->L B)(x:Str)(u:B):Prop:=
 (a.kindOf x=Y .local/\m x=Y u)\/((a.kindOf x=Y .cell\/a.kindOf x=Y .free)/\∃c,a.cells.lookup x=Y c/\h.IsCell c (Y u))
structure Cx.Ok (X:Cx):Prop where
 mod:Mod X.K X.mg X.base
 kind:X.env.scope.kind=.function
 glob:X.env.globals=JT
 blt:X.env.builtins=builtinsNs
 above:X.s₀.heap.objs.size<=X.env.locals
 inj:∀x y c,X.env.cells.lookup x=Y c->X.env.cells.lookup y=Y c->x=y
 has:∀x,(X.env.kindOf x=Y .cell\/X.env.kindOf x=Y .free)->∃c,X.env.cells.lookup x=Y c
 cab:∀x c,X.fn x=Ju->X.env.cells.lookup x=Y c->X.s₀.heap.objs.size<=c
 hd:X.calm=Ju->X.A.handled=J
 frames:X.A.frames=Y X.stack
 stk:X.stack=X.outer\/(X.stack=X.env::X.outer/\X.env.frame=Y X.env.locals)
 exf:∀b∈X.ex,b≠X.env.locals/\∀x c,X.env.cells.lookup x=Y c->c≠b
 bs:∀b o,X.base.get? b=Y o->X.s₀.heap.get? b=Y o/\X.H₀ b=J
 bsz:X.base.objs.size<=X.s₀.heap.objs.size
 noex:∀b o,X.base.get? b=Y o->b ∉ X.ex
 exfs:∀b∈X.ex,b ∉ X.fs
 funs:X.s₀.heap.FunFrames X.base X.outer
 frf:∀b∈X.fs,X.H₀ b=J
structure Inv (X:Cx)(pins:U (OD×Obj))(σ:U (L V))(H:Hp)(s:Jv):Prop where
 ok:X.Ok
 os:s.os=X.s₀.os
 bare:KU s.gens
 base:Un X.fs X.ex X.H₀ H X.s₀.heap s.heap
 loc:∃m,s.heap.Ns X.env.locals m/\∀(i:O) (x:Str) (v:V),X.N[i]?=Y x->σ[i]?=Y (Y v)->Vis X.env.scope x->∃u,RelV v u/\Iy X.env s.heap m x u
 cell:∀x c,X.env.cells.lookup x=Y c->∃v,s.heap.IsCell c v
 free:H X.env.locals=J
 freeC:∀x c,X.env.cells.lookup x=Y c->H c=J
 pin:∀p∈X.pn++pins,s.heap.get? p.1=Y p.2/\H p.1=J/\p.1≠X.env.locals/\p.1 ∉ X.fs/\∀v,p.2.data≠.cell v
 hok:HOk X.prog X.w H s.heap
 len:σ.length=X.N.length
section
variable {X:Cx}{pins:U (OD×Obj)}{σ:U (L V)}{H H':Hp}{s:Jv}{h':OT}
theorem Cx.Ok.nofr (ok:X.Ok){b:OD}{o:Obj}(e:X.base.get? b=Y o):b ∉ X.fs:=λa=>by have:=(ok.funs.mem a).1;rw[e] at this;cases this
theorem Inv.bs (a:Inv X pins σ H s):∀b o,X.base.get? b=Y o->s.heap.get? b=Y o/\H b=none:=λb o e=>
 ⟨a.base.keep b o (a.ok.bs b o e).1 (a.ok.bs b o e).2 (a.ok.nofr e)<|a.ok.noex b o e,a.base.free b o (a.ok.bs b o e).1 (a.ok.bs b o e).2<|a.ok.noex b o e⟩
theorem Inv.bk (a:Inv X pins σ H s):∀b o,X.base.get? b=Y o->s.heap.get? b=Y o:=λb o e=>(a.bs b o e).1
theorem Inv.mod (a:Inv X pins σ H s):Mod X.K X.mg X.base:=a.ok.mod
theorem Inv.kIn (a:Inv X pins σ H s):X.K.In s.heap:=a.ok.mod.kin.keeps a.bk
theorem Inv.fr (a:Inv X pins σ H s):∃m,Fr X.base X.env.locals s.heap m:=
 let ⟨m,b,_⟩:=a.loc
 ⟨m,b,a.bk,JP a.ok.bsz a.ok.above⟩
theorem Inv.lt (a:Inv X pins σ H s):X.env.locals<s.heap.objs.size:=let ⟨_,b,_⟩:=a.loc;b.lt
theorem Inv.sz (a:Inv X pins σ H s):X.s₀.heap.objs.size<=s.heap.objs.size:=JP a.ok.above<|Mh a.lt
theorem Inv.nofs (b:Inv X pins σ H s){a:OD}(h:s.heap.objs.size<=a):a ∉ X.fs:=λc=>by obtain⟨_,o,ho,_⟩:=b.ok.funs.mem c;exact OH (J8 (Heap.lt_size ho)<|JP b.sz h)<|Lo _
theorem Inv.cne (a:Inv X pins σ H s):∀x c,X.env.cells.lookup x=Y c->c≠X.env.locals:=λx c e z=>by obtain⟨v,o,ho,hd⟩:=a.cell x c e;obtain⟨m,⟨g,f,ep,d,b,_⟩,_⟩:=a.loc;rw[z,d] at ho;cases ho;rw[b] at hd;cases hd
theorem Inv.funs (a:Inv X pins σ H s):s.heap.FunFrames X.base X.outer:=by
 have all:∀(l:U Env),(∀b∈frs l,b∈X.fs)->X.s₀.heap.FunFrames X.base l->s.heap.FunFrames X.base l:=by
  intro l;induction l with
  |nil=>intro _ _;trivial
  |cons i r n=>intro h j;obtain⟨hk,⟨c,o,g,k,ho,hd⟩,m⟩:=j;have d:c∈X.fs:=h c (by unfold frs;rw[KQ,g];exact JJ);obtain⟨p,e⟩:=a.base.slot c o ho (a.ok.frf c d) d λz=>a.ok.exfs c z d;exact⟨hk,⟨c,_,g,k,e,hd⟩,n (λb f=>h b<|by unfold frs;rw[KQ,g];exact JW _ f) m⟩
 exact all X.outer (λ_ f=>f) a.ok.funs
theorem Inv.stack (a:Inv X pins σ H s):s.heap.FunFrames X.base X.stack:=by
 rcases a.ok.stk with e|⟨e,hf⟩
 .rw[e];exact a.funs
 .rw [e];obtain⟨m,b,_⟩:=a.loc;refine .cons (by rw[a.ok.kind];decide) hf b ?_ a.funs;exact Heap.get?_none_of_le<|JP a.ok.bsz a.ok.above
theorem Inv.stkSub (a:Inv X pins σ H s):∀b∈frs X.stack,b∈X.env.locals::X.fs:=λb c=>by
 rcases a.ok.stk with e|⟨e,hf⟩
 .rw[e] at c;exact JW _ c
 .rw [e] at c;unfold frs at c;rw[KQ,hf] at c;exact c
theorem Inv.stkFree (a:Inv X pins σ H s):∀b∈frs X.stack,H b=none:=λb c=>by
 rcases JX.mp (a.stkSub b c) with e|c
 .rw[e];exact a.free
 .obtain ⟨_,o,ho,_⟩:=a.ok.funs.mem c;exact a.base.free b o ho (a.ok.frf b c) λz=>a.ok.exfs b z c
theorem Inv.step {g':OY Pk}{t':O}{d':Drawn}{ch:U OD}(a:Inv X pins σ H s)
  (g:∀b∈ch,(b∈X.ex\/X.s₀.heap.objs.size<=b)/\b≠X.env.locals/\(∀x c,X.env.cells.lookup x=Y c->c≠b)/\∀p∈X.pn++pins,p.1≠b)
  (keep:∀b o,b≠X.env.locals->b ∉ X.fs->b ∉ ch->s.heap.get? b=Y o->H b=J->h'.get? b=Y o)
  (t:∀b o,b≠X.env.locals->b∈X.fs->b ∉ ch->s.heap.get? b=Y o->H b=J->∃sl,h'.get? b=Y {o with slots:=sl}) (free:∀b o,b ∉ ch->s.heap.get? b=Y o->H b=J->H' b=J)
  (D:∀b o,b ∉ ch->s.heap.get? b=Y o->∃N,h'.get? b=Y N)
  (Q:∀b y,H b=Y (.tup y)->H' b=Y (.tup y)) (F:∀b o u,H b=Y (.frz o u)->H' b=Y (.frz o u)) (P:∀b ps,H b=Y (.tbl ps)->∃G,H' b=Y (.tbl<|ps++G))
  (ns:∀m,s.heap.Ns X.env.locals m->h'.Ns X.env.locals m) (Z:HOk X.prog X.w H' h') (hg:KU g'):
  Inv X pins σ H' {s with heap:=h',gens:=g',drawn:=d',toks:=t'}:=by
 have M:∀b o,X.s₀.heap.get? b=Y o->b≠X.env.locals:=λb o e=>J7<|J8 (Heap.lt_size e) a.ok.above
 have j:∀b o,X.s₀.heap.get? b=Y o->b ∉ X.ex->b ∉ ch:=λb o e hx A=>by
  rcases(g b A).1 with z|z
  .exact hx z
  .exact OH (J8 (Heap.lt_size e) z) (Lo _)
 have f:∀x c,X.env.cells.lookup x=Y c->∀v,s.heap.IsCell c v->h'.IsCell c v:=λx c e v ⟨o,ho,hd⟩=>by
  have h:c ∉ ch:=λz=>(g c z).2.2.1 x c e rfl;by_cases hc:c∈X.fs
  .obtain ⟨sl,q⟩:=t c o (a.cne x c e) hc h ho<|a.freeC x c e;exact⟨_,q,hd⟩
  .exact⟨o,keep c o (a.cne x c e) hc h ho<|a.freeC x c e,hd⟩
 refine⟨a.ok,a.os,hg,⟨λb o e n A hx=>?_,λb o e n A hx=>?_,λb o e n hx=>?_,λb o e hx=>?_,λb y e=>Q b y<|a.base.tups b y e,λb o y e=>F b o y<|a.base.frzs b o y e,λb ps e=>?_⟩,?_,λx c e=>?_,?_,λx c e=>?_,λp hp=>?_,Z,a.len⟩
 .exact keep b o (M b o e) A (j b o e hx) (a.base.keep b o e n A hx) (a.base.free b o e n hx)
 .obtain ⟨sl,e1⟩:=a.base.slot b o e n A hx;obtain⟨sl',e2⟩:=t b _ (M b o e) A (j b o e hx) e1<|a.base.free b o e n hx;exact⟨sl',e2⟩
 .obtain ⟨N,e1⟩:=a.base.there b o e hx;exact free b N (j b o e hx) e1<|a.base.free b o e n hx
 .obtain ⟨N,e1⟩:=a.base.there b o e hx;exact D b N (j b o e hx) e1
 .obtain ⟨m1,e1⟩:=a.base.tbls b ps e;obtain⟨m2,e2⟩:=P b _ e1;exact⟨m1++m2,by rw[e2,Oa]⟩
 .obtain ⟨m,hn,hl⟩:=a.loc;refine⟨m,ns m hn,λi x v e1 e2 e3=>?_⟩;obtain⟨u,r,l⟩:=hl i x v e1 e2 e3;refine⟨u,r,?_⟩;rcases l with l|⟨k,c,e,z⟩
  .exact .inl l
  .exact .inr ⟨k,c,e,f x c e _ z⟩
 .obtain ⟨v,z⟩:=a.cell x c e;exact⟨v,f x c e v z⟩
 .obtain ⟨m,⟨o,_,_,ho,_⟩,_⟩:=a.loc;exact free _ o (λz=>(g _ z).2.1 rfl) ho a.free
 .obtain ⟨v,o,ho,hd⟩:=a.cell x c e;exact free c o (λz=>(g c z).2.2.1 x c e rfl) ho<|a.freeC x c e
 .obtain ⟨e,n,ne,nf,d⟩:=a.pin p hp;have h:p.1 ∉ ch:=λz=>(g p.1 z).2.2.2 p hp rfl;exact⟨keep p.1 p.2 ne nf h e n,free p.1 p.2 h e n,ne,nf,d⟩
theorem Inv.un {t':O}(a:Inv X pins σ H s)(u:Un X.fs [] H H' s.heap h')(h:HOk X.prog X.w H' h'):Inv X pins σ H' {s with heap:=h',toks:=t'}:=by
 obtain⟨m,⟨o,l,ep,ho,r⟩,_⟩:=id a.loc;obtain⟨v,i⟩:=u.any ho a.free<|by simp
 exact a.step (g':=s.gens) (d':=s.drawn) (ch:=[]) (λ_ z=>nomatch z) (λb o _ g _ e n=>u.keep b o e n g<|by simp) (λb o _ g _ e n=>u.slot b o e n g<|by simp) (λb o _ e n=>u.free b o e n<|by simp) (λb o _ e=>u.there b o e<|by simp) u.tups u.frzs u.tbls (λp j=>by
  obtain⟨t,f,d,c,k⟩:=j;rw[ho] at c;cases c;exact⟨_,f,d,i,k⟩) h a.bare
theorem Inv.call {g':OY Pk}{t':O}{d':Drawn}{ch:U OD}(a:Inv X pins σ H s)(u:Un (frs X.stack) ch H H' s.heap h')(k:HOk X.prog X.w H' h')(t:KU g')
  (f:∀b∈ch,(b∈X.ex\/X.s₀.heap.objs.size<=b)/\b≠X.env.locals/\(∀x c,X.env.cells.lookup x=Y c->c≠b)/\∀p∈X.pn++pins,p.1≠b):
  Inv X pins σ H' {s with heap:=h',gens:=g',drawn:=d',toks:=t'}:=by
 obtain⟨m,⟨o,A,ep,ho,r⟩,_⟩:=id a.loc;obtain⟨G,j⟩:=u.any ho a.free λz=>(f _ z).2.1 rfl
 exact a.step (ch:=ch) f (λb o j l d e n=>u.keep b o e n (λz=>(JX.mp<|a.stkSub b z).elim j l) d) (λb o _ _ d e n=>u.any e n d) (λb o d e n=>u.free b o e n d) (λb o d e=>u.there b o e d) u.tups u.frzs u.tbls (λD v=>by
  obtain⟨F,i,h,g,y⟩:=v;rw[ho] at g;cases g;exact⟨_,i,h,j,y⟩) k t
theorem Inv.turned {t':O}{it:OD}(a:Inv X pins σ H s)(k:∀b o,b≠it->s.heap.get? b=Y o->h'.get? b=Y o)(y:H it=J)(g:it≠X.env.locals)
  (i:it∈X.ex\/X.s₀.heap.objs.size<=it) (j:∀x c,X.env.cells.lookup x=Y c->c≠it) (l:∀p∈X.pn++pins,p.1≠it):Inv X pins σ H {s with heap:=h',toks:=t'}:=by
 have f:∀b u,H b=Y u->b≠it:=λb u e z=>by rw[z,y] at e;cases e
 refine a.step (g':=s.gens) (d':=s.drawn) (ch:=[it]) (λb t=>?_) (λb o _ _ d e _=>k b o (λz=>d<|by simp[z]) e) (λb o _ _ d e _=>⟨o.slots,k b o (λz=>d<|by simp[z]) e⟩) (λ_ _ _ _ n=>n)
  (λb o d e=>⟨o,k b o (λz=>d<|by simp[z]) e⟩) (λ_ _ e=>e) (λ_ _ _ e=>e) (λb ps e=>⟨#[],by rw[e];simp⟩) (λm w=>?_) (λb u e=>?_) a.bare
 .have e:b=it:=by simpa using t
  subst e;exact⟨i,g,j,l⟩
 .obtain ⟨o,h,ep,ho,r⟩:=w;exact⟨o,h,ep,k _ o (Kv g) ho,r⟩
 .refine (a.hok b u e).stay (fun c v d q=>k c v ?_ q) (fun _ q=>q) fun _ _ q=>q;rcases d with z|z
  .rw[z];exact f b u e
  .exact f c _ z
theorem Inv.tok (a:Inv X pins σ H s)(t:O):Inv X pins σ H {s with toks:=t}:=a.un (h':=s.heap) (t':=t) Un.refl a.hok
theorem Inv.kept {t':O}(a:Inv X pins σ H s)(k:∀b u,s.heap.get? b=Y u->h'.get? b=Y u):Inv X pins σ H {s with heap:=h',toks:=t'}:=a.un (Un.kept k)<|a.hok.kept k
theorem Inv.laid {a:OD}{o:HO}{t':O}(c:Inv X pins σ H s)(k:∀b u,s.heap.get? b=Y u->h'.get? b=Y u)(hp:s.heap.objs.size<=a)(d:ObjOk X.prog X.w (upd H a o) h' a o):
  Inv X pins σ (upd H a o) {s with heap:=h',toks:=t'}:=c.un (Un.laid k hp<|c.hok.fresh hp)<|c.hok.laid k hp d
theorem Inv.write {x e:OD}{o:HO}{h:O}(a:Inv X pins σ H s)(g:Mut<|H x)(f:e=x\/H e=Y (.own x))(k:∀b u,b≠e->s.heap.get? b=Y u->h'.get? b=Y u)(c:∃u,h'.get? e=Y u)
  (d:ObjOk X.prog X.w (upd H x o) h' x o):Inv X pins σ (upd H x o) {s with heap:=h',toks:=h}:=a.un (Un.write g f k c)<|a.hok.write g f k c d
theorem Inv.weak {b:U<|L V}(a:Inv X pins σ H s)(d:b.length=σ.length)(w:∀(i:O) v,b[i]?=Y (Y v)->σ[i]?=Y (Y v)):Inv X pins b H s:=
 ⟨a.ok,a.os,a.bare,a.base,let ⟨m,e,c⟩:=a.loc;⟨m,e,λi x v e1 e2 e3=>c i x v e1 (w i v e2) e3⟩,a.cell,a.free,a.freeC,a.pin,a.hok,d.trans a.len⟩
theorem Inv.pins_of {b:U<|OD×Obj}(a:Inv X pins σ H s)(h:∀p∈b,s.heap.get? p.1=Y p.2/\H p.1=J/\p.1≠X.env.locals/\p.1 ∉ X.fs/\∀v,p.2.data≠.cell v):Inv X b σ H s:=
 ⟨a.ok,a.os,a.bare,a.base,a.loc,a.cell,a.free,a.freeC,λp hp=>(Kq.mp hp).elim (λz=>a.pin p<|K8 _ z)<|h p,a.hok,a.len⟩
theorem ly {N:U Str}(c:N.Nodup){i j:O}{x:Str}(a:N[i]?=Y x)(b:N[j]?=Y x):i=j:=by obtain⟨d,e1⟩:=KD.mp a;obtain⟨e,e2⟩:=KD.mp b;exact(List.getElem_inj c).mp<|e1.trans e2.symm
theorem iZ {M:Model}{A:JU}{E:B->Jv->Prop}{i:O}{x:Str}{v:V}{u:B}{Q:Unit->Jv->Prop}(f:Inv X pins σ H s)(hN:X.N.Nodup)(hi:X.N[i]?=Y x)(hx:Loc X.env.scope x)(r:RelV v u)
  (h:∀s',Inv X pins (σ.set i<|Y v) H s'->(∃a,Heap.SameBut a s.heap s'.heap/\(a=X.env.locals\/X.env.cells.lookup x=Y a))->Q () s') (hf:X.fn x=Ju\/X.env.scope.names.lookup x=Y .local:=by first|exact .inl rfl|exact .inr rfl|assumption):OJ M A (storeName X.env x u) Q E s:=by
 obtain⟨m,hn,hl⟩:=id f.loc;have hcls:(X.env.scope.kind==.class || (X.env.scope.kind==.module&&X.env.locals != X.env.globals))=false:=by rw[f.ok.kind];rfl
 have F:i < σ.length:=by rw[f.len];exact(KD.mp hi).1
 have cne:=f.cne
 have l:∀{a:OD} {h':OT},(∃o,s.heap.get? a=Y o/\H a=J)->Heap.SameBut a s.heap h'->HOk X.prog X.w H h':=λ{a h'} ha g b ob e=>by
  obtain⟨_,_,D⟩:=ha;refine(f.hok b ob e).stay (λc w' t q=>(g.2 c ?_).trans q) (λ_ q=>q) λ_ _ q=>q;rintro rfl;rcases t with rfl|t
  .rw[D] at e;cases e
  .rw[D] at t;cases t
 rcases hx with hk|hk
 .refine wpAny_storeName_local hk hn (fun h' hn' g=>?_) hcls;obtain⟨oL,_,_,hoL,_⟩:=id hn;refine h _ ⟨f.ok,f.os,f.bare,⟨λb o e n G hx=>?_,λb o e n G hx=>?_,f.base.free,λb o e hx=>?_,f.base.tups,f.base.frzs,f.base.tbls⟩,⟨_,hn',λj y v' e1 e2 e3=>?_⟩,λy c e=>?_,f.free,f.freeC,λp hp=>?_,l ⟨oL,hoL,f.free⟩ g,by simpa using f.len⟩ ⟨_,g,.inl rfl⟩
  .exact(g.2 b<|J7<|J8 (Heap.lt_size e) f.ok.above).trans<|f.base.keep b o e n G hx
  .obtain ⟨sl,e1⟩:=f.base.slot b o e n G hx;exact⟨sl,(g.2 b<|J7<|J8 (Heap.lt_size e) f.ok.above).trans e1⟩
  .obtain ⟨o',e1⟩:=f.base.there b o e hx;exact⟨o',(g.2 b<|J7<|J8 (Heap.lt_size e) f.ok.above).trans e1⟩
  .by_cases Z:j=i
   .subst Z;rw[hi] at e1;cases e1;rw[Ng F] at e2;cases e2;exact⟨u,r,.inl ⟨hk,by simp⟩⟩
   .rw [Mt (Kv Z)] at e2;obtain⟨u',r',q⟩:=hl j y v' e1 e2 e3;refine⟨u',r',?_⟩;rcases q with⟨k,e⟩|⟨k,c,e,z⟩
    .refine .inl ⟨k,?_⟩;have:y≠x:=λe=>Z<|ly hN e1<|e ▸ hi;simp[this,e]
    .exact .inr ⟨k,c,e,z.sameBut g<|cne y c e⟩
  .obtain ⟨w',z⟩:=f.cell y c e;exact⟨w',z.sameBut g<|cne y c e⟩
  .obtain ⟨e,n,ne,nf,d⟩:=f.pin p hp;exact⟨(g.2 p.1 ne).trans e,n,ne,nf,d⟩
 .have P:X.fn x=true:=by
   rcases hf with z|z
   .exact z
   .rw[z] at hk;cases hk
  obtain⟨c,t⟩:=f.ok.has x<|.inl hk;obtain⟨w',z⟩:=f.cell x c t;refine wpAny_storeName_cell f.ok.kind hk t z λh' hc' g=>?_;obtain⟨oc,hoc,hocd⟩:=id z;refine h {s with heap:=h'} ⟨f.ok,f.os,f.bare,⟨λb o e n G hx=>?_,λb o e n G hx=>?_,f.base.free,λb o e hx=>?_,f.base.tups,f.base.frzs,f.base.tbls⟩,⟨m,hn.sameBut g<|Kv<|cne x c t,λj y v' e1 e2 e3=>?_⟩,λy c' e=>?_,f.free,f.freeC,λp hp=>?_,l ⟨oc,hoc,f.freeC x c t⟩ g,by simpa using f.len⟩ ⟨c,g,.inr t⟩
  .exact(g.2 b<|J7<|J8 (Heap.lt_size e)<|f.ok.cab x c P t).trans<|f.base.keep b o e n G hx
  .obtain ⟨sl,e1⟩:=f.base.slot b o e n G hx;exact⟨sl,(g.2 b<|J7<|J8 (Heap.lt_size e)<|f.ok.cab x c P t).trans e1⟩
  .obtain ⟨o',e1⟩:=f.base.there b o e hx;exact⟨o',(g.2 b<|J7<|J8 (Heap.lt_size e)<|f.ok.cab x c P t).trans e1⟩
  .by_cases Z:j=i
   .subst Z;rw[hi] at e1;cases e1;rw[Ng F] at e2;cases e2;exact⟨u,r,.inr ⟨.inl hk,c,t,hc'⟩⟩
   .rw [Mt (Kv Z)] at e2;obtain⟨u',r',q⟩:=hl j y v' e1 e2 e3;refine⟨u',r',?_⟩;rcases q with q|⟨k,c',e,z'⟩
    .exact .inl q
    .refine .inr ⟨k,c',e,z'.sameBut g ?_⟩;rintro rfl;exact Z<|ly hN e1<|f.ok.inj _ _ _ e t ▸ hi
  .by_cases hcc:c'=c
   .subst hcc;exact⟨_,hc'⟩
   .obtain ⟨w2,z2⟩:=f.cell y c' e;exact⟨w2,z2.sameBut g hcc⟩
  .obtain ⟨e,n,ne,nf,d⟩:=f.pin p hp;refine⟨(g.2 p.1 ?_).trans e,n,ne,nf,d⟩;intro q;rw[q,hoc] at e;have q':oc=p.2:=Kg e;exact d w'<|by rw[<- q'];exact hocd
theorem ki {M:Model}{A:JU}{E:B->Jv->Prop}{i:O}{x:Str}{v:V}{u:B}{Q:Unit->Jv->Prop}(a:Inv X pins σ H s)(d:X.N.Nodup)(f:X.N[i]?=Y x)(hx:Loc X.env.scope x)(r:RelV v u)
  (h:∀b,Inv X pins (σ.set i<|Y v) H b->Q () b) (e:X.fn x=Ju\/X.env.scope.names.lookup x=Y .local:=by first|exact .inl rfl|exact .inr rfl|assumption):OJ M A (storeName X.env x u) Q E s:=
 iZ a d f hx r (λb c _=>h b c) e
theorem Inv.call' {s':Jv}{ch:U OD}(a:Inv X pins σ H s)(ho:s'.os=s.os)(u:Un (frs X.stack) ch H H' s.heap s'.heap)(f:HOk X.prog X.w H' s'.heap)(g:KU s'.gens)
  (d:∀b∈ch,(b∈X.ex\/X.s₀.heap.objs.size<=b)/\b≠X.env.locals/\(∀x c,X.env.cells.lookup x=Y c->c≠b)/\∀p∈X.pn++pins,p.1≠b):Inv X pins σ H' s':=by
 obtain⟨h',g',d',t',h⟩:=s';have e:h=s.os:=ho;subst e;exact a.call (g':=g') (t':=t') (d':=d') u f g d
end
abbrev XK:=B->L OD->Hp->Prop
abbrev St:=U<|L V
abbrev VK:=V->Hp->Prop
abbrev TE:=St->Hp->VK->Prop
abbrev TT:=St->Hp->(OF->Hp->Prop)->Prop
abbrev TA:=St->Hp->(U V->Hp->Prop)->Prop
structure b9 where
 nx:St->Hp->Prop
 rt:VK
 bk:St->Hp->Prop:=λ_ _=>OS
 ct:St->Hp->Prop:=λ_ _=>OS
abbrev TS:=b9->St->Hp->Prop
def EP (X:Cx)(a:U<|OD×Obj)(d:St)(Q:VK)(u:B)(c:Jv):Prop:=∃v b,Inv X a d b c/\RelV v u/\Q v b
def TP (X:Cx)(a:U<|OD×Obj)(e:St)(Q:OF->Hp->Prop)(b:OF)(d:Jv):Prop:=∃c,Inv X a e c d/\Q b c
def AP (X:Cx)(a:U<|OD×Obj)(f:St)(Q:U V->Hp->Prop)(e:U B)(d:Jv):Prop:=∃c b,Inv X a f b d/\Vals c e/\Q c b
def SP (X:Cx)(b:U<|OD×Obj)(D:b9)(f:Flow)(d:Jv):Prop:=
 match f with
 |.next=>∃a c,Inv X b a c d/\D.nx a c
 |.brk=>∃a c,Inv X b a c d/\D.bk a c
 |.cont=>∃a c,Inv X b a c d/\D.ct a c
 |.ret u=>∃v a c,Inv X b a c d/\RelV v u/\D.rt v c
def PE (X:Cx)(e:ON)(t:TE):Prop:=
 ∀(a:U<|OD×Obj) (s:Jv) (b:St) (H:Hp) (Q:VK),Inv X a b H s->t b H Q->OJ (JA X.prog X.w) X.A (OV e X.env) (EP X a b Q) X.xe s
def PT (X:Cx)(e:ON)(t:TT):Prop:=
 ∀(a:U<|OD×Obj) (s:Jv) (b:St) (H:Hp) (Q:OF->Hp->Prop),Inv X a b H s->t b H Q->OJ (JA X.prog X.w) X.A (Px e X.env<|OV e X.env) (TP X a b Q) X.xe s
def PW (X:Cx)(e:ON)(t:TT):Prop:=
 ∀(b:Sem B) (a:U<|OD×Obj) (s:Jv) (c:St) (H:Hp) (Q:OF->Hp->Prop),Inv X a c H s->t c H Q->OJ (JA X.prog X.w) X.A (Px e X.env b) (TP X a c Q) X.xe s
theorem PW.pt {X:Cx}{e:ON}{t:TT}(h:PW X e t):PT X e t:=h _
def PA (X:Cx)(d:U ON)(t:TA):Prop:=
 ∀(b:Pos) (a:U<|OD×Obj) (s:Jv) (c:St) (H:Hp) (Q:U V->Hp->Prop),Inv X a c H s->t c H Q->OJ (JA X.prog X.w) X.A (spliced<|JZ b<|Jz d X.env) (AP X a c Q) X.xe s
def PS (X:Cx)(c:OW)(t:TS):Prop:=
 ∀(a:U<|OD×Obj) (s:Jv) (b:St) (H:Hp) (D:b9),Inv X a b H s->t D b H->OJ (JA X.prog X.w) X.A (exec c X.env) (SP X a D) X.xe s
def PSs (X:Cx)(c:U OW)(t:TS):Prop:=
 ∀(a:U<|OD×Obj) (s:Jv) (b:St) (H:Hp) (D:b9),Inv X a b H s->t D b H->OJ (JA X.prog X.w) X.A (execs c X.env) (SP X a D) X.xe s
theorem thn {c:Type}{t:Sem c}{Q b:c->Jv->Prop}{M:Model}{A:JU}{E:B->Jv->Prop}{s:Jv}(h:OJ M A t Q E s)(d:∀a s,Q a s->b a s):OJ M A t b E s:=J5 h d λ_ _ x=>x
section
variable {X:Cx}
def i4 (i:O):TE:=λa H Q=>∃v,a[i]?=Y (Y v)/\Q v H
def tC (v:V):TE:=λ_ H Q=>Q v H
theorem bX {i:O}{x:Str}{j:Pos}(n:X.N[i]?=Y x)(w:Vis X.env.scope x)(hd:(x==("__debug__":Str))=false:=by decide)(g:(x==("__classdict__":Str))=false:=by decide):PE X (.Name x j) (i4 i):=by
 intro f s y H Q a h;obtain⟨v,e,h⟩:=h;obtain⟨m,t,o⟩:=a.loc;obtain⟨u,r,l⟩:=o i x v n e w;have d:EP X f y Q u s:=⟨v,H,a,r,h⟩;rcases l with⟨hk,p⟩|⟨hk,c,k,b⟩
 .exact wpAny_Name (wpAny_loadName_local a.ok.kind hk t p d) hd
 .rcases hk with hk | hk
  .exact wpAny_Name (wpAny_loadName_cell a.ok.kind hk k b d) hd
  .exact wpAny_Name (wpAny_loadName_free a.ok.kind hk k b d g) hd
theorem tS {i j pos}:PE X (.Constant (.int i) j pos) (tC<|.int i):=λ_ _ _ H _ a h=>wpAny_Constant_int ⟨.int i,H,a.tok _,⟨_,rfl⟩,h⟩
theorem FL {b j pos}:PE X (.Constant (.bool b) j pos) (tC<|.bl b):=λ_ _ _ H _ a h=>Constant_bool ⟨.bl b,H,a,rfl,h⟩
theorem Ci {j pos}:PE X (.Constant .none j pos) (tC .non):=λ_ _ _ H _ a h=>Constant_none ⟨.non,H,a,rfl,h⟩
theorem mM {x j pos}:PE X (.Constant (.str x) j pos) (tC<|.str x):=λ_ _ _ H _ a h=>Calls.Constant_str ⟨.str x,H,a.tok _,⟨_,rfl⟩,h⟩
def Gl (X:Cx)(x:Str):Prop:=X.env.kindOf x=Y .globalImplicit
theorem oo {E:B->Jv->Prop}{b:U<|OD×Obj}{s:Jv}{f:St}{H:Hp}{x:Str}{u:B}{c:Pos}{Q:B->Jv->Prop}(a:Inv X b f H s)(d:Gl X x)(e:X.mg x=Y u)(h:Q u s)
  (hd:(x==("__debug__":Str))=false:=by decide):OJ (JA X.prog X.w) X.A (OV (.Name x c) X.env) Q E s:=
 Calls.Name_function_global a.ok.kind d (Calls.loadGlobal_global (by rw[a.ok.glob];exact a.mod.glob.keeps a.bk) e h) hd
theorem fz {E:B->Jv->Prop}{b:U<|OD×Obj}{s:Jv}{k:St}{H:Hp}{x:Str}{u:B}{c:Pos}{Q:B->Jv->Prop}(a:Inv X b k H s)(f:Gl X x)(g:X.mg x=J)(j:K4 x=Y u)(h:Q u s)
  (i:x≠"__name__":=by decide) (hd:(x==("__debug__":Str))=false:=by decide):OJ (JA X.prog X.w) X.A (OV (.Name x c) X.env) Q E s:=by
 obtain⟨l,d,e⟩:=a.mod.blt;exact Calls.Name_function_global a.ok.kind f (Calls.loadGlobal_builtin (by rw[a.ok.glob];exact a.mod.glob.keeps a.bk) g (by rw[a.ok.blt];exact d.keeps a.bk) ((e x i).trans j) h) hd
theorem oB {x:Str}{v:V}{u:B}{b:Pos}(c:Gl X x)(d:X.mg x=Y u)(r:RelV v u)(hd:(x==("__debug__":Str))=false:=by decide):PE X (.Name x b) (tC v):=
 λ_ _ _ H _ a h=>oo a c d ⟨v,H,a,r,h⟩ hd
theorem wF {x:Str}{v:V}{u:B}{b:Pos}(c:Gl X x)(d:X.mg x=J)(f:K4 x=Y u)(r:RelV v u)(e:x≠"__name__":=by decide)(hd:(x==("__debug__":Str))=false:=by decide):PE X (.Name x b) (tC v):=
 λ_ _ _ H _ a h=>fz a c d f ⟨v,H,a,r,h⟩ e hd
variable {a b:ON}{ta tb:TE}{pos:Pos}
def PC (X:Cx)(op:CmpOp)(a b:ON)(t:TE):Prop:=
 ∀(c:U<|OD×Obj) (s:Jv) (f:St) (H:Hp) (Q:VK),Inv X c f H s->t f H Q ->
  OJ (JA X.prog X.w) X.A (OV a X.env) (λv d=>OJ (JA X.prog X.w) X.A (OV b X.env) (λu e=>OJ (JA X.prog X.w) X.A (Kh op v u) (EP X c f Q) X.xe e) X.xe d) X.xe s
def tB (t:TE):TT:=λe H Q=>t e H λx d=>∃c,x=.bl c/\Q c d
theorem AZ {op:CmpOp}{t:TE}(h:PC X op a b t)(g:Kt op b=false:=by first|exact nobehind _ (by decide) (by decide)|rfl):PT X (.Compare a [op] [b] pos) (tB t):=by intro f s n H Q e l;refine O7 (thn (h f s n H _ e l) λv o g=>thn g λu p k=>thn k λc r ⟨x,i,j,r1,m⟩=>?_) g;obtain⟨d,rfl,q⟩:=m;cases r1;exact MJ ⟨i,j,q⟩
variable {tA tB':TT}{rest:U ON}
noncomputable def Ej (t u:TT):TT:=λe H Q=>t e H λc d=>if c=Ju then u e d Q else Q Jt d
noncomputable def tOr (t u:TT):TT:=λe H Q=>t e H λc d=>if c=Ju then Q Ju d else u e d Q
def FO (t:TT):TT:=λe H Q=>t e H λc d=>Q (!c) d
theorem xE (g:PT X a tA):PW X (.BoolOp .And [a] pos) tA:=by
 intro k f s i H Q d h;refine isTrue_and<|thn (g f s i H Q d h) λc j e=>?_;cases c with
 |true=>exact isTrue_and_nil e
 |false=>exact e
theorem Bs (g:PT X a tA):PW X (.BoolOp .Or [a] pos) tA:=by
 intro k f s i H Q d h;refine isTrue_or<|thn (g f s i H Q d h) λc j e=>?_;cases c with
 |false=>exact isTrue_or_nil e
 |true=>exact e
theorem DA (k:PT X a tA)(l:PW X (.BoolOp .And (b::rest) pos) tB'):PW X (.BoolOp .And (a::b::rest) pos) (Ej tA tB'):=by
 intro n e s j H Q d h;refine isTrue_and<|thn (k e s j H _ d h) λc m ⟨f,g,i⟩=>?_;cases c with
 |true=>exact l n e m j f Q g i
 |false=>exact⟨f,g,i⟩
theorem E1 (k:PT X a tA)(l:PW X (.BoolOp .Or (b::rest) pos) tB'):PW X (.BoolOp .Or (a::b::rest) pos) (tOr tA tB'):=by
 intro n e s j H Q d h;refine isTrue_or<|thn (k e s j H _ d h) λc m ⟨f,g,i⟩=>?_;cases c with
 |true=>exact⟨f,g,i⟩
 |false=>exact l n e m j f Q g i
theorem Dw (g:PT X a tA):PT X (.UnaryOp .Not a pos) (FO tA):=by intro e s i H Q d h;exact isTrue_not<|g e s i H (λc f=>Q (!c) f) d h
def tIf (t:TT)(ta tb:TE):TE:=λd H Q=>t d H λc e=>if c=Ju then ta d e Q else tb d e Q
theorem uv {c:ON}(o:PT X c tA)(m:PE X a ta)(n:PE X b tb):PE X (.IfExp c a b pos) (tIf tA ta tb):=by
 intro f s g H Q e h;refine wpAny_IfExp<|thn (o f s g H _ e h) λd l ⟨i,j,k⟩=>?_;cases d with
 |true=>exact m f l g i Q j k
 |false=>exact n f l g i Q j k
end
def SqL (K:Jw)(H:Hp)(a:OD)(c:U V):Prop:=
 Rd H a (.lst c) \/
  ∃(o:Obj) (b:OY B) (n:O),K.lookup a=Y o/\o.cls=.type "list"/\o.dict=J/\o.data=.seq b n/\b.size<=sizeLine/\Vals c b.toList
def SqT (K:Jw)(H:Hp)(a:OD)(c:U V):Prop:=
 Rd H a (.tup c) \/
  ∃(o:Obj) (b:OY B) (n:O),K.lookup a=Y o/\o.cls=.type "tuple"/\o.data=.seq b n/\b.size<=sizeLine/\Vals c b.toList
def HZ:B->L V
|.none=>Y .non
|.bool b=>Y<|.bl b
|.int i _=>Y<|.int i
|.str x _=>Y<|.str x
|.bytes b _=>Y<|.byt b
|.float b _=>Y<|.flt b
|.ref a=>Y<|.ref a
|.type n=>Y<|.ty n
|_=>J
theorem RelV.abs {x:V}{u:B}(r:RelV x u):HZ u=Y x:=by
 cases x with
 |non=>cases r;rfl
 |bl _=>cases r;rfl
 |int _=>obtain⟨t,rfl⟩:=r;rfl
 |str _=>obtain⟨t,rfl⟩:=r;rfl
 |byt _=>obtain⟨t,rfl⟩:=r;rfl
 |flt _=>obtain⟨t,rfl⟩:=r;rfl
 |ref _=>cases r;rfl
 |ty _=>cases r;rfl
theorem RelV.inj {x y:V}{u:B}(r:RelV x u)(q:RelV y u):x=y:=Kg<|r.abs.symm.trans q.abs
theorem Vals.inj:∀{b c:U V} {a:U B},Vals b a->Vals c a->b=c
|_,_,_,.nil,.nil=>rfl
|_,_,_,.cons r t,.cons d e=>by rw[r.inj d,Vals.inj t e]
section
variable {X:Cx}{pins:U (OD×Obj)}{σ:St}{H:Hp}{s:Jv}{a:OD}{xs ys:U V}
theorem SqL.of {K:Jw}(h:H a=Y (.lst xs)):SqL K H a xs:=.inl<|.inl h
theorem SqT.of {K:Jw}(h:H a=Y (.tup xs)):SqT K H a xs:=.inl<|.inl h
theorem Inv.list (b:Inv X pins σ H s)(h:SqL X.K H a xs):∃c:U B,Vals xs c/\PlainL s.heap a c.toArray/\xs.length<=sizeLine:=by
 rcases h with h|⟨o,c,n,hk,hc,hd,hs,hz,r⟩
 .obtain ⟨z,c,n,r,e⟩:=h.ok b.hok;exact⟨c,r,⟨_,n,e,rfl,rfl,rfl⟩,z⟩
 .refine ⟨c.toList,r,⟨o,n,b.kIn a o hk,hc,hd,by simpa using hs⟩,?_⟩;have e:=r.length;simp only[Kr] at e;lia
theorem Inv.tuple (b:Inv X pins σ H s)(h:SqT X.K H a xs):∃c:U B,Vals xs c/\Pj s.heap a c.toArray/\xs.length<=sizeLine:=by
 rcases h with h|⟨o,c,n,hk,hc,hs,hz,r⟩
 .obtain ⟨z,c,r,p⟩:=h.ok b.hok;exact⟨c,r,p,z⟩
 .refine ⟨c.toList,r,⟨o,b.kIn a o hk,hc,n,by simpa using hs⟩,?_⟩;have e:=r.length;simp only[Kr] at e;lia
theorem Inv.list_inj (b:Inv X pins σ H s)(h:SqL X.K H a xs)(k:SqL X.K H a ys):xs=ys:=by
 obtain⟨f,r,⟨o,n,e,_,_,d⟩,_⟩:=b.list h;obtain⟨c,l,⟨p,m,i,_,_,g⟩,_⟩:=b.list k;rw[e] at i;cases i;rw[d] at g;injection g with j _
 have:f=c:=by simpa using OQ NS j
 subst this;exact r.inj l
theorem Inv.tuple_inj (b:Inv X pins σ H s)(h:SqT X.K H a xs)(k:SqT X.K H a ys):xs=ys:=by
 obtain⟨f,r,⟨o,e,_,n,d⟩,_⟩:=b.tuple h;obtain⟨c,l,⟨p,i,_,m,g⟩,_⟩:=b.tuple k;rw[e] at i;cases i;rw[d] at g;injection g with j _
 have:f=c:=by simpa using OQ NS j
 subst this;exact r.inj l
end
abbrev Cx.wish (X:Cx)(E:B->Jv->Prop):Cx:={X with xe:=E}
abbrev Cx.nox (X:Cx):Cx:=X.wish λ_ _=>OS
theorem Cx.Ok.wish {X:Cx}(ok:X.Ok)(E:B->Jv->Prop):(X.wish E).Ok:=
 ⟨ok.mod,ok.kind,ok.glob,ok.blt,ok.above,ok.inj,ok.has,ok.cab,ok.hd,ok.frames,ok.stk,ok.exf,ok.bs,ok.bsz,ok.noex,ok.exfs,ok.funs,ok.frf⟩
theorem Cx.Ok.unwish {X:Cx}{E:B->Jv->Prop}(ok:(X.wish E).Ok):X.Ok:=
 ⟨ok.mod,ok.kind,ok.glob,ok.blt,ok.above,ok.inj,ok.has,ok.cab,ok.hd,ok.frames,ok.stk,ok.exf,ok.bs,ok.bsz,ok.noex,ok.exfs,ok.funs,ok.frf⟩
section
variable {X:Cx}{pins:U (OD×Obj)}{σ:St}{H:Hp}{s:Jv}{E:B->Jv->Prop}
theorem Inv.wish (a:Inv X pins σ H s)(E:B->Jv->Prop):Inv (X.wish E) pins σ H s:=⟨a.ok.wish E,a.os,a.bare,a.base,a.loc,a.cell,a.free,a.freeC,a.pin,a.hok,a.len⟩
theorem Inv.unwish (a:Inv (X.wish E) pins σ H s):Inv X pins σ H s:=⟨a.ok.unwish,a.os,a.bare,a.base,a.loc,a.cell,a.free,a.freeC,a.pin,a.hok,a.len⟩
theorem SP.unwish {D:b9}{f:Flow}{d:Jv}(h:SP (X.wish E) pins D f d):SP X pins D f d:=by
 cases f with
 |next=>obtain⟨b,c,a,q⟩:=h;exact⟨b,c,a.unwish,q⟩
 |brk=>obtain⟨b,c,a,q⟩:=h;exact⟨b,c,a.unwish,q⟩
 |cont=>obtain⟨b,c,a,q⟩:=h;exact⟨b,c,a.unwish,q⟩
 |ret u=>obtain⟨v,b,c,a,r,q⟩:=h;exact⟨v,b,c,a.unwish,r,q⟩
theorem PSs.nox {b:U OW}{t:TS}(h:PSs X.nox b t):PSs X b t:=λpins s σ H D a c=>
 J5 (h pins s σ H D (a.wish _) c) (λ_ _ q=>q.unwish) λ_ _ z=>KA z
end
section
variable {X:Cx}{st:OW}{rest:U OW}{t u:TS}{e:ON}{te:TE}{pos:Pos}
def zW:TS:=λD a H=>D.nx a H
def EW (t u:TS):TS:=λD a H=>t {D with nx:=u D} a H
theorem xV:PSs X [] zW:=λ_ _ b H _ a h=>L6 ⟨b,H,a,h⟩
theorem rZ (i:PS X st t)(j:PSs X rest u):PSs X (st::rest) (EW t u):=by
 intro b s l H D a h;refine wpAny_execs_cons<|thn (i b s l H {D with nx:=u D} a h) λf k q=>?_;cases f with
 |next=>obtain⟨c,d,g,q⟩:=q;exact j b k c d D g q
 |ret v=>exact q
 |brk=>exact q
 |cont=>exact q
theorem wZ (c:PS X st t):PSs X [st] t:=by
 intro b s d H D a h;refine wpAny_execs_cons<|thn (c b s d H D a h) λf g q=>?_;cases f with
 |next=>exact L6 q
 |ret v=>exact q
 |brk=>exact q
 |cont=>exact q
theorem Inv.quiet {b:U<|OD×Obj}{c:St}{H:Hp}{s:Jv}(a:Inv X b c H s):interactive X.env=false:=by simp[interactive,a.ok.kind]
def zy (te:TE):TS:=λD a H=>te a H λ_ b=>D.nx a b
theorem nY (g:PE X e te)(i:Kj e J pos.line X.env=pure false:=by rfl):PS X (.Expr e pos) (zy te):=by intro b s c H D a h;exact wpAny_Expr_any (thn (g b s c H _ a h) λv k ⟨x,d,f,r1,j⟩=>⟨c,d,f,j⟩) a.quiet i
def F8 (te:TE):TS:=λD a H=>te a H D.rt
theorem BM (g:PE X e te):PS X (.Return (Y e) pos) (F8 te):=by intro b s c H D a h;exact wpAny_Return_some<|thn (g b s c H _ a h) λv j ⟨x,d,f,r1,i⟩=>⟨x,c,d,f,r1,i⟩
noncomputable def GC (c:TT)(t u:TS):TS:=λD a H=>c a H λb d=>if b=Ju then t D a d else u D a d
theorem GY {c:ON}{a b:U OW}{n:TT}(r:PT X c n)(o:PSs X a t)(p:PSs X b u):PS X (.If c a b pos) (GC n t u):=by
 intro g s i H D f h;refine wpAny_If<|thn (r g s i H _ f h) λd m ⟨j,k,l⟩=>?_;cases d with
 |true=>exact o g m i j D k l
 |false=>exact p g m i j D k l
end
abbrev TG:=V->St->Hp->(St->Hp->Prop)->Prop
abbrev TGs:=U V->St->Hp->(St->Hp->Prop)->Prop
def PG (X:Cx)(a:ON)(t:TG):Prop:=
 ∀(b:U<|OD×Obj) (s:Jv) (e:St) (H:Hp) (v:V) (u:B) (Q:St->Hp->Prop),Inv X b e H s->RelV v u->t v e H Q ->
  OJ (JA X.prog X.w) X.A (KW a X.env u) (λ_ f=>∃c d,Inv X b c d f/\Q c d) X.xe s
def PGs (X:Cx)(h:U ON)(t:TGs):Prop:=
 ∀(a:U<|OD×Obj) (s:Jv) (f:St) (H:Hp) (e:U V) (d:U B) (Q:St->Hp->Prop),Inv X a f H s->Vals e d->t e f H Q ->
  OJ (JA X.prog X.w) X.A (assignInOrder ((Lu h X.env).map (·.2)) d) (λ_ g=>∃b c,Inv X a b c g/\Q b c) X.xe s
section
variable {X:Cx}{pos:Pos}
def bT (i:O):TG:=λv a H Q=>Q (a.set i<|Y v) H
theorem bC {i:O}{x:Str}(d:X.N.Nodup)(f:X.N[i]?=Y x)(hx:Loc X.env.scope x)(e:X.fn x=Ju\/X.env.scope.names.lookup x=Y .local:=by first|exact .inl rfl|exact .inr rfl|assumption):PG X (.Name x pos) (bT i):=by intro b s j H v u Q a r h;exact wpAny_assign_Name<|ki a d f hx r (λg c=>⟨_,H,c,h⟩) e
def uA:TGs:=λa b H Q=>a=[]/\Q b H
noncomputable def dU (t:TG)(u:TGs):TGs:=λc d H Q=>∃v r,c=v::r/\t v d H λa b=>u r a b Q
theorem gc:PGs X [] uA:=by intro b s c H f d Q a r h;obtain⟨e,h⟩:=h;subst e;cases r;exact assignInOrder_nil ⟨c,H,a,h⟩
theorem bE {e:ON}{c:U ON}{t:TG}{u:TGs}(i:PG X e t)(j:PGs X c u)
  (k:(Lu (e::c) X.env).map (·.2)=KW e X.env::(Lu c X.env).map (·.2):=by rfl):PGs X (e::c) (dU t u):=by
 intro b s o H x p Q a r h;obtain⟨v,w,e1,h⟩:=h;subst e1;cases r with
 |cons r m=>rw[k];refine assignInOrder_cons<|thn (i b s o H _ _ _ a r h) λ_ n ⟨d,f,g,l⟩=>?_;exact j b n d f _ _ Q g m l
def uu (K:Jw)(n:O)(t:TGs):TG:=λv c H Q=>∃a b,v=.ref a/\SqT K H a b/\b.length=n/\t b c H Q
theorem jB {f:U ON}{k:O}{t:TGs}{n:O}(w:X.calm=Ju)(h:PGs X f t)
  (y:(Lu f X.env).length=n:=by rfl) (g:(Lu f X.env).findIdx? (·.1)=none:=by rfl):PG X (.Tuple f k pos) (uu X.K n t):=by
 intro d s l H v u Q c r i;obtain⟨a,F,e1,z,x,i⟩:=i;subst e1;cases r;obtain⟨D,j,A,G⟩:=c.tuple z;refine assign_Tuple_tuple (c.ok.hd w) A (by simp[y,<- x,j.length]) g λp hx=>?_;have m:Inv X d l H {s with heap:=p}:=c.kept (t':=s.toks) λb o e=>hx b o (J7<|Heap.lt_size e) e;exact h d _ l H F _ Q m (by simpa using j) i
def kW (c:TE)(g:TG):TS:=λD a H=>c a H λx b=>g x a b D.nx
theorem uW {c e:ON}{d:TE}{g:TG}(l:PE X e d)(m:PG X c g)(n:Pa [c] e pos.line X.env=pure false:=by rfl)(o:Pb [c] e X.env=pure none:=by rfl)
  (k:(Lu [c] X.env).map (·.2)=[KW c X.env]:=by rfl):PS X (.Assign [c] e pos) (kW d g):=by
 intro b s f H D a h;refine wpAny_Assign_stores (thn (l b s f H _ a h) λv r ⟨x,i,j,r1,p⟩=>?_) n o;rw[k];exact thn (m b r f i x v _ j r1 p) λ_ t q=>q
theorem Cu {i:O}{x:Str}{e:ON}{d:TE}{b:Pos}(k:X.N.Nodup)(n:X.N[i]?=Y x)(hx:Loc X.env.scope x)(l:PE X e d)(o:Kj e (Y<|.Name x b) pos.line X.env=pure false:=by rfl)(m:X.fn x=Ju\/X.env.scope.names.lookup x=Y .local:=by first|exact .inl rfl|exact .inr rfl|assumption):
  PS X (.Assign [.Name x b] e pos) (kW d<|bT i):=by
 intro c s r H D a h;refine wpAny_Assign_Name (thn (l c s r H _ a h) λv t ⟨y,f,g,r1,p⟩=>?_) o;exact ki g k n hx r1 (λu j=>⟨_,f,j,p⟩) m
end
structure It where
 go:O->Hp->Prop
 yld:O->Hp->V->Hp->Prop
 stop:O->Hp->Prop
def ij (X:Cx)(a:U<|OD×Obj)(H:Hp)(b:OD):Prop:=
 H b=J/\b≠X.env.locals/\b ∉ X.fs/\(b∈X.ex\/X.s₀.heap.objs.size<=b)/\(∀x c,X.env.cells.lookup x=Y c->c≠b)/\∀p∈X.pn++a,p.1≠b
theorem Inv.fpOk {X:Cx}{d:U<|OD×Obj}{i:St}{H g:Hp}{s:Jv}{b:OD}(a:Inv X d i H s)(f:s.heap.objs.size<=b)(h:g b=J):ij X d g b:=by
 refine⟨h,LS<|J8 a.lt f,a.nofs f,.inr<|JP a.sz f,λx c e z=>?_,λp hp z=>?_⟩
 .obtain ⟨v,q⟩:=a.cell x c e;exact OH (J8 q.lt<|by rw[z];exact f)<|Lo _
 .exact OH (J8 (Heap.lt_size (a.pin p hp).1)<|by rw[z];exact f) (Lo _)
structure tm (P:OI)(w:Jy)(K:Jw)(tg:ON)(J:It)(fp:U OD)(it:OD)(tn:O->OT->Prop):Prop where
 mem:it∈fp
 obj:∀i h,tn i h->∀b∈fp,∃o,h.get? b=Y o/\∀v,o.data≠.cell v
 keep:∀i h h',tn i h->(∀b∈fp,∀o,h.get? b=Y o->h'.get? b=Y o)->tn i h'
 item:∀(X:Cx),X.prog=P->X.w=w->X.K=K->X.calm=Ju->∀(i:O) (pins:U (OD×Obj)) (s:Jv) (σ:St) (H:Hp) (E:B->Jv->Prop),Inv X pins σ H s->(∀b∈fp,ij X pins H b)->tn i s.heap->J.go i H ->
  OJ (JA P w) X.A (pyNext (.ref it)) (λr s1=>∃u,r=Y u /\
   OJ (JA P w) X.A (Lw tg (.ref it) u) (λ_ s2=>∃x H',Inv X pins σ H' s2/\RelV x u/\J.yld i H x H'/\tn (i+1) s2.heap/\∀b∈fp,H' b=Js) E s1) E s
 done:∀(X:Cx),X.prog=P->X.w=w->X.K=K->X.calm=Ju->∀(i:O) (pins:U (OD×Obj)) (s:Jv) (σ:St) (H:Hp) (E:B->Jv->Prop),Inv X pins σ H s->(∀b∈fp,ij X pins H b)->tn i s.heap->J.stop i H ->
  OJ (JA P w) X.A (pyNext (.ref it)) (λr s1=>r=Js/\Inv X pins σ H s1) E s
 self:∀(A:JU) (i:O) (s:Jv) (Q:B->Jv->Prop) (E:B->Jv->Prop),tn i s.heap->Q (.ref it) s->OJ (JA P w) A (pyIter (.ref it)) Q E s
abbrev TI:=St->Hp->(It->Hp->Prop)->Prop
def PIE (X:Cx)(c:U<|OD×Obj)(j:St)(i:ON)(R:It->Hp->Prop)(e:B)(h:Jv):Prop:=
 ∃(g:OD) (f:U OD) (tn:O->OT->Prop) (a:It) (d:Hp),e=.ref g/\Inv X c j d h/\tm X.prog X.w X.K i a f g tn/\tn 0 h.heap/\(∀b∈f,ij X c d b)/\R a d
def PI (X:Cx)(e b:ON)(f:TI):Prop:=
 ∀(a:U<|OD×Obj) (s:Jv) (c:St) (H:Hp) (R:It->Hp->Prop),Inv X a c H s->f c H R ->
  OJ (JA X.prog X.w) X.A (OV b X.env) (λv d=>OJ (JA X.prog X.w) X.A (pyIter v) (PIE X a c e R) X.xe d) X.xe s
theorem qN {M:Model}{A:JU}{E:B->Jv->Prop}{s:Jv}{c:ON}{b:OD}{u:B}{o:Obj}{n:OL}{d:OY B}{Q:Unit->Jv->Prop}(ho:s.heap.get? b=Y o)(e:o.cls=.type n)(hd:o.data=.fields d)
  (f:["enumerate","zip","dict_itemiterator","dict_reverseitemiterator","odict_iterator","itertools.zip_longest","itertools.pairwise"].contains n=Jt) (a:Q () s):OJ M A (Lw c (.ref b) u) Q E s:=by
 unfold Lw
 cases c<;>first
  |exact JO a
  | (cases u<;>first
    |exact JO a
    | (refine JD (wpAny_load ho ?_)
       rw[e,hd];show OJ M A (if(["enumerate","zip","dict_itemiterator","dict_reverseitemiterator","odict_iterator","itertools.zip_longest","itertools.pairwise"].contains n&&d[0]?==Y (rawInt _))=Ju then _ else _) Q E s;rw[OK<|by intro h;rw[f,MG] at h;cases h];exact JO a))
def Itl (K:Jw)(a:OD):It:=
 ⟨λi H=>∃b x,SqL K H a b/\b[i]?=Y x,λi H x c=>c=H/\∀b,SqL K H a b->b[i]?=Y x,λi H=>∃b,SqL K H a b/\b.length<=i⟩
def Itt (K:Jw)(a:OD):It:=
 ⟨λi H=>∃b x,SqT K H a b/\b[i]?=Y x,λi H x c=>c=H/\∀b,SqT K H a b->b[i]?=Y x,λi H=>∃b,SqT K H a b/\b.length<=i⟩
def Itr (lo:I)(n:O):It:=⟨λi _=>i<n,λi H x a=>a=H/\x=.int (lo+i),λi _=>n<=i⟩
theorem qu {P:OI}{w:Jy}{K:Jw}{tg:ON}(a m:OD):tm P w K tg (Itl K a) [m] m (λi h=>h.IsListIter m a i) where
 mem:=by simp
 obj:=λi h g b l=>by
  have e:b=m:=by simpa using l
  subst e;obtain⟨o,e,c,d⟩:=g;exact⟨o,e,λv z=>by rw[d] at z;cases z⟩
 keep:=λi h r g k=>g.at λo e=>k m (by simp) o e
 item:=by intro X Q hw N hc i j s σ H E f t g Z;subst Q hw N;obtain⟨xs,x,y,hx⟩:=Z;obtain⟨its,rv,p,hz⟩:=f.list y;obtain⟨u,hu,ru⟩:=rv.get hx;obtain⟨A,D,f2,F,G,M⟩:=t m (by simp);refine wpAny_pyNext_list_item g p.isList (x:=u) (by simpa using hu) λr n sb=>?_;have I1:Inv X j σ H {s with heap:=r}:=f.turned (t':=s.toks) (λb o l e=>(sb.2 b l).trans e) A D F G M;obtain⟨o,e,c,d⟩:=id n;exact⟨u,rfl,qN (s:={s with heap:=r}) e c d (by decide) ⟨x,H,I1,ru,⟨rfl,λys hy=>by rw[f.list_inj hy y];exact hx⟩,n,λb l=>(t b l).1⟩⟩
 done:=by intro X Q hw N hc i j s σ H E f t g Z;subst Q hw N;obtain⟨xs,y,hx⟩:=Z;obtain⟨its,rv,p,hz⟩:=f.list y;obtain⟨A,D,f2,F,G,M⟩:=t m (by simp);have hl:=rv.length;exact wpAny_pyNext_list_end (f.ok.hd hc) g p.isList (by simp;lia) λr eb=>⟨rfl,f.turned (t':=s.toks) (λb o l e=>eb b o l e) A D F G M⟩
 self:=λ_ _ _ _ _ g h=>wpAny_pyIter_listiter g h
theorem mG {P:OI}{w:Jy}{K:Jw}{tg:ON}(a m:OD):tm P w K tg (Itt K a) [m] m (λi h=>h.IsTupleIter m a i) where
 mem:=by simp
 obj:=λi h g b l=>by
  have e:b=m:=by simpa using l
  subst e;obtain⟨o,e,c,d⟩:=g;exact⟨o,e,λv z=>by rw[d] at z;cases z⟩
 keep:=λi h t g k=>g.at λo e=>k m (by simp) o e
 item:=by intro X Z hw Q hc i j s σ H E f y g hg;subst Z hw Q;obtain⟨xs,x,A,hx⟩:=hg;obtain⟨n,rv,p,hz⟩:=f.tuple A;obtain⟨u,hu,ru⟩:=rv.get hx;obtain⟨D,F,f2,G,M,N⟩:=y m (by simp);refine wpAny_pyNext_tuple_item g (show s.heap.IsTuple a n.toArray from p) (x:=u) (by simpa using hu) λt r sb=>?_;have I1:Inv X j σ H {s with heap:=t}:=f.turned (t':=s.toks) (λb o l e=>(sb.2 b l).trans e) D F G M N;obtain⟨o,e,c,d⟩:=id r;exact⟨u,rfl,qN (s:={s with heap:=t}) e c d (by decide) ⟨x,H,I1,ru,⟨rfl,λys hy=>by rw[f.tuple_inj hy A];exact hx⟩,r,λb l=>(y b l).1⟩⟩
 done:=by intro X Z hw Q hc i j s σ H E f y g hg;subst Z hw Q;obtain⟨xs,A,hx⟩:=hg;obtain⟨n,rv,p,hz⟩:=f.tuple A;obtain⟨D,F,f2,G,M,N⟩:=y m (by simp);have hl:=rv.length;exact wpAny_pyNext_tuple_end (f.ok.hd hc) g (show s.heap.IsTuple a n.toArray from p) (by simp;lia) λt eb=>⟨rfl,f.turned (t':=s.toks) (λb o l e=>eb b o l e) D F G M N⟩
 self:=λ_ _ _ _ _ g h=>wpAny_pyIter_tupleiter g h
theorem mQ {P:OI}{w:Jy}{K:Jw}{tg:ON}(d:OD)(lo:I)(n:O):tm P w K tg (Itr lo n) [d] d (λi h=>IsRangeIter h d (lo+(i:O) * 1) ((n:I)-(i:O)) 1) where
 mem:=by simp
 obj:=λi h c b g=>by
  have e:b=d:=by simpa using g
  subst e
  exact⟨_,c,λv z=>by
   have z':Data.fields _=Data.cell v:=z;cases z'⟩
 keep:=λi h l c k=>k d (by simp) _ c
 item:=by intro X D M A F i f s Q H E a m c G;subst D M A;obtain⟨p,r,f2,u,x,y⟩:=m d (by simp);have W:=Walks.range (prog:=X.prog) (w:=X.w) (a.ok.hd F) d lo 1 n;refine W.item i s _ _ G c λv l N hv j kk=>?_;obtain⟨t,rfl⟩:=hv;have Z:Inv X f Q H {s with heap:=l,toks:=N}:=a.turned (λb o g e=>kk b o (by simpa using g) e) p r u x y;refine⟨_,rfl,qN (s:={s with heap:=l,toks:=N}) (n:="range_iterator") j rfl rfl (by decide) ⟨.int<|lo+i,H,Z,⟨t,?_⟩,⟨rfl,rfl⟩,j,λb g=>(m b g).1⟩⟩;rw[Int.mul_one]
 done:=by intro X D M A F i f s Q H E a m c G;subst D M A;obtain⟨p,r,f2,u,x,y⟩:=m d (by simp);exact wpAny_pyNext_range_end (a.ok.hd F) c (by have:n<=i:=G;lia) λl eb=>⟨rfl,a.turned (t':=s.toks) (λb o g e=>eb b o g e) p r u x y⟩
 self:=λ_ _ _ _ _ c h=>wpAny_pyIter_rangeiter c h
section
variable {X:Cx}{tg:ON}
def rM (K:Jw)(c:TE):TI:=λe H R=>c e H λx b=>∃a,x=.ref a/\(∃d,SqL K b a d)/\R (Itl K a) b
def Ed (K:Jw)(c:TE):TI:=λe H R=>c e H λx b=>∃a,x=.ref a/\(∃d,SqT K b a d)/\R (Itt K a) b
theorem oi {l:ON}{i:TE}(m:PE X l i):PI X tg l (rM X.K i):=by
 intro d s u H R c h;refine thn (m d s u H _ c h) λv g ⟨x,j,f,r1,t⟩=>?_;obtain⟨a,e,⟨z,n⟩,q⟩:=t;subst e;cases r1;obtain⟨r,y,p,w⟩:=f.list n;refine wpAny_pyIter_list p.isList ?_;refine⟨g.heap.objs.size,[g.heap.objs.size],_,_,j,rfl,f.kept (t':=g.toks) λb o e=>Heap.get?_push_of_some _ e,qu a _,⟨_,Heap.get?_push_size _ rfl,rfl,rfl⟩,λb k=>?_,q⟩;have e:b=g.heap.objs.size:=by simpa using k
 subst e;exact f.fpOk (JE _)<|f.hok.fresh<|JE _
theorem vw {l:ON}{j:TE}(n:PE X l j):PI X tg l (Ed X.K j):=by
 intro d s u H R c h;refine thn (n d s u H _ c h) λv f ⟨x,k,g,r1,t⟩=>?_;obtain⟨a,e,⟨z,r⟩,q⟩:=t;subst e;cases r1;obtain⟨i,y,p,w⟩:=g.tuple r;refine L9 (show f.heap.IsTuple a i.toArray from p) ?_;refine⟨f.heap.objs.size,[f.heap.objs.size],_,_,k,rfl,g.kept (t':=f.toks) λb o e=>Heap.get?_push_of_some _ e,mG a _,⟨_,Heap.get?_push_size _ rfl,rfl,rfl⟩,λb m=>?_,q⟩;have e:b=f.heap.objs.size:=by simpa using m
 subst e;exact g.fpOk (JE _)<|g.hok.fresh<|JE _
theorem j5 {d:U<|OD×Obj}{h:St}{H:Hp}{s:Jv}{R:It->Hp->Prop}{E:B->Jv->Prop}{lo c:I}{t u v:Tok}{g:O}(a:Inv X d h H s)(i:-(2 ^ 62)<=lo)(j:lo<2 ^ 62)(k:-(2 ^ 62)<=c)(l:c<2 ^ 62)
  (q:R (Itr lo (c-lo).toNat) H):OJ (JA X.prog X.w) X.A (pyIter<|.ref s.heap.objs.size) (PIE X d h tg R) E {s with heap:=s.heap.push {cls:=.type "range",data:=.fields #[.int lo t,.int c u,.int 1 v]},toks:=g}:=by
 refine wpAny_pyIter_range (IsRange.new ..) (small_one i j k l) ?_;have f:Inv X d h H {s with heap:=s.heap.push {cls:=.type "range",data:=.fields #[.int lo t,.int c u,.int 1 v]},toks:=g}:=a.kept λb o e=>Heap.get?_push_of_some _ e
 refine⟨(s.heap.push {cls:=.type "range",data:=.fields #[.int lo t,.int c u,.int 1 v]}).objs.size,[(s.heap.push {cls:=.type "range",data:=.fields #[.int lo t,.int c u,.int 1 v]}).objs.size],_,_,H,rfl,
  f.kept (t':=g) λb o e=>Heap.get?_push_of_some _ e,mQ _ lo (c-lo).toNat,?_,λb m=>?_,q⟩
 .have e1:lo+((0:O):I) * 1=lo:=by simp
  have e2:(((c-lo).toNat:O):I)-((0:O):I)=Builtin.Range.rangeSize lo c 1:=by rw[rangeSize_one];split<;>lia
  show IsRangeIter _ _ (lo+((0:O):I) * 1) ((((c-lo).toNat:O):I)-((0:O):I)) 1;rw[e1,e2];exact Heap.get?_push_size _ rfl
 .have e:b=(s.heap.push { cls:=.type "range",data:=.fields #[.int lo t,.int c u,.int 1 v] }).objs.size:=by simpa using m
  subst e;exact f.fpOk (JE _)<|f.hok.fresh<|JE _
def zr (b:TA):TI:=λd H R=>b d H λc a=>∃j:I,c=[.int j]/\-(2 ^ 62)<=j/\j<2 ^ 62/\R (Itr 0 j.toNat) a
def Ab (b:TA):TI:=λd H R=>b d H λc a=>∃i j:I,c=[.int i,.int j]/\(-(2 ^ 62)<=i/\i<2 ^ 62/\-(2 ^ 62)<=j/\j<2 ^ 62)/\R (Itr i (j-i).toNat) a
theorem pe {a:ON}{g:TA}{p d:Pos}(l:Gl X "range")(m:X.mg "range"=J)(k:PA X [a] g)(n:Jz [a] X.env=[(Jt,OV a X.env)]:=by rfl):PI X tg (.Call (.Name "range" p) [a] [] d) (zr g):=by
 intro c s v H R b h;refine Call_<|fz b l m boot_range<|MH (thn (k d c s v H _ b h) λy x ⟨z,w,i,r1,f⟩=>?_) n rfl;obtain⟨j,e,f,o,q⟩:=f;subst e;cases r1 with
 |cons r u=>cases u;obtain⟨t,rfl⟩:=r;exact call_range_1<|j5 i (by lia) (by lia) f o<|by simpa using q
theorem oY {a b:ON}{m:TA}{p g:Pos}(u:Gl X "range")(v:X.mg "range"=J)(o:PA X [a,b] m)(w:Jz [a,b] X.env=[(Jt,OV a X.env),(Jt,OV b X.env)]:=by rfl)(d:Jz [b] X.env=[(Jt,OV b X.env)]:=by rfl):
  PI X tg (.Call (.Name "range" p) [a,b] [] g) (Ab m):=by
 intro f s D H R c h;refine Call_ (fz c u v boot_range<|MH (thn (o g f s D H _ c h) λN G ⟨P,F,n,r1,k⟩=>?_) (by rw[w,d])<|by rw[d];rfl);obtain⟨i,j,e,⟨k,x,y,z⟩,q⟩:=k;subst e;cases r1 with
 | cons r l =>
  cases l with
  |cons A l=>cases l;obtain⟨t,rfl⟩:=r;obtain⟨M,rfl⟩:=A;exact call_range_2<|j5 n k x y z q
def EO (l:TI)(g:TG)(k:TS):TS:=λD b H=>l b H λa h=>∃W:O->O->St->Hp->Prop,(∃m,W 0 m b h)/\∀i m b H,W i m b H ->
 (a.stop i H/\D.nx b H)\/(a.go i H/\∃N:St->Hp->Prop,(∀d c,N d c->∃f,f<m/\W (i+1) f d c)/\∀x c,a.yld i H x c->g x b c λe j=>k {D with nx:=N,ct:=N,bk:=D.nx} e j)
noncomputable def gG (a:U OD)(h:OT):U (OD×Obj):=a.filterMap λb=>(h.get? b).map λo=>(b,o)
theorem bP {a:U OD}{h:OT}{b:OD}{o:Obj}(c:b∈a)(e:h.get? b=Y o):(b,o)∈gG a h:=N9.mpr ⟨b,c,by rw[e];rfl⟩
theorem oO {a:U OD}{h:OT}{p:OD×Obj}(hp:p∈gG a h):p.1∈a/\h.get? p.1=Y p.2:=by
 obtain⟨b,d,e⟩:=N9.mp hp;cases q:h.get? b with
 |none=>rw[q] at e;cases e
 |some o=>rw[q] at e;have c:(b,o)=p:=Kg e;subst c;exact⟨d,q⟩
theorem Inv.pinned {c:U<|OD×Obj}{i:St}{H:Hp}{s:Jv}{f:U OD}(a:Inv X c i H s)(m:∀b∈f,ij X c H b)(ho:∀b∈f,∃o,s.heap.get? b=Y o/\∀v,o.data≠.cell v):Inv X (c++gG f s.heap) i H s:=
 a.pins_of λp hp=>(Kq.mp hp).elim (λz=>a.pin p<|J2 _ z) λz=>by obtain⟨h,e⟩:=oO z;obtain⟨j,k,l,_⟩:=m p.1 h;obtain⟨o,g,d⟩:=ho p.1 h;rw[e] at g;cases g;exact⟨e,j,k,l,d⟩
theorem Inv.unpinned {b d:U<|OD×Obj}{c:St}{H:Hp}{s:Jv}(a:Inv X (b++d) c H s):Inv X b c H s:=a.pins_of λp hp=>a.pin p<|J2 _<|K8 _ hp
theorem uE {y:ON}{P:U OW}{wi:TI}{g:TG}{tb:TS}{pos:Pos}(hp:PassesOwn (JA X.prog X.w) X.A X.env X.xe)(hc:X.calm=Ju)(hi:PI X tg y wi)(hg:PG X tg g)(t:PSs X P tb)
  (hs:∀x,Kp y X.env x=pure x:=by intro _;rfl):PS X (.For tg y P [] pos) (EO wi g tb):=by
 intro j s σ H D a h;refine wpAny_For (thn (hi j s σ H _ a h) λv s1 h1=>thn h1 λitv s2 h2=>?_) hs;obtain⟨it,fp,tn,c,H2,e,I2,T,st2,f2,W,⟨m0,w0⟩,turn⟩:=h2;subst e
 -- what stays Ju of the iterator's objects through the loop
 have z:∀{M:Hp},(∀b∈fp,M b=J)->∀b∈fp,ij X j M b:=λhn b t=>⟨hn b t,(f2 b t).2⟩;refine codeAny_forLoop_any (λn s'=>∃i F M,Inv X j F M s'/\tn i s'.heap/\(∀b∈fp,M b=J)/\W i n F M) ?_ m0 ⟨0,σ,H2,I2,st2,λb t=>(f2 b t).1,w0⟩;rintro n s3 ⟨i,G,H3,I3,st3,fr3,w3⟩;rcases turn i n G H3 w3 with⟨stop,qn⟩|⟨go,N,hN,step⟩
 .refine LL hp (thn (T.done X rfl rfl rfl hc i j s3 G H3 X.xe I3 (z fr3) st3 stop) fun r s4 ⟨hr,I4⟩=>?_);subst hr;exact L6 ⟨G,H3,I4,qn⟩
 .refine LL hp (thn (T.item X rfl rfl rfl hc i j s3 G H3 X.xe I3 (z fr3) st3 go) fun r s4 ⟨u,hr,h4⟩=>?_);subst hr;refine LL hp (thn h4 λ_ s5 ⟨x,H5,I5,r5,y5,Z,fr5⟩=>?_);have I5':=I5.pinned (z fr5) (T.obj _ _ Z);refine LL hp (thn (hg _ s5 G H5 x u _ I5' r5 (step x H5 y5)) λ_ s6 ⟨σ6,H6,I6,q6⟩=>?_);refine LL hp (thn (t _ s6 σ6 H6 _ I6 q6) λf s7 Q=>?_);have again:∀{k:St} {l:Hp},Inv X (j++gG fp s5.heap) k l s7->N k l->∃m,m<n/\∃i F M,Inv X j F M s7/\tn i s7.heap/\(∀b∈fp,M b=J)/\W i m F M:=λ{k l} p n7=>by obtain⟨m',hm,w7⟩:=hN k l n7;refine⟨m',hm,i+1,k,l,p.unpinned,T.keep _ _ _ Z λb t o e=>(p.pin (b,o) (J2 _ (J2 _ (bP t e)))).1,λb t=>?_,w7⟩;obtain⟨o,e,d⟩:=T.obj _ _ Z b t;exact(p.pin (b,o) (J2 _ (J2 _ (bP t e)))).2.1
  cases f with
  |next=>obtain⟨k,l,p,n7⟩:=Q;exact again p n7
  |cont=>obtain⟨k,l,p,n7⟩:=Q;exact again p n7
  |brk=>obtain⟨k,l,p,Q⟩:=Q;exact⟨k,l,p.unpinned,Q⟩
  |ret v=>obtain⟨x7,k,l,p,r7,Q⟩:=Q;exact⟨x7,k,l,p.unpinned,r7,Q⟩
end
abbrev R2:=V->V->Hp->VK->Prop
def OpR (X:Cx)(f:B->B->Sem B)(r:R2):Prop:=
 ∀(a:U<|OD×Obj) (s:Jv) (b:St) (H:Hp) (x y:V) (v u:B) (Q:VK),Inv X a b H s->RelV x v->RelV y u->r x y H Q ->
  OJ (JA X.prog X.w) X.A (f v u) (EP X a b Q) X.xe s
def UnR (X:Cx)(f:B->Sem B)(r:V->Hp->VK->Prop):Prop:=
 ∀(a:U<|OD×Obj) (s:Jv) (b:St) (H:Hp) (x:V) (v:B) (Q:VK),Inv X a b H s->RelV x v->r x H Q ->
  OJ (JA X.prog X.w) X.A (f v) (EP X a b Q) X.xe s
def df (X:Cx)(f:B)(r:U V->Hp->VK->Prop):Prop:=
 ∀(a:U<|OD×Obj) (s:Jv) (d:St) (H:Hp) (c:U V) (b:U B) (Q:VK),Inv X a d H s->Vals c b->r c H Q ->
  OJ (JA X.prog X.w) X.A (call f b) (EP X a d Q) X.xe s
def IL (X:Cx)(r:V->Hp->(OF->Hp->Prop)->Prop):Prop:=
 ∀(a:U<|OD×Obj) (s:Jv) (b:St) (H:Hp) (x:V) (v:B) (Q:OF->Hp->Prop),Inv X a b H s->RelV x v->r x H Q ->
  OJ (JA X.prog X.w) X.A (truthy v) (TP X a b Q) X.xe s
def tOp (r:R2)(d e:TE):TE:=λa H Q=>d a H λx b=>e a b λy c=>r x y c Q
def tUn (r:V->Hp->VK->Prop)(b:TE):TE:=λc H Q=>b c H λx a=>r x a Q
def rI (C:I->I->Prop)(g:I->I->V):R2:=λx y H Q=>∃i j,x=.int i/\y=.int j/\C i j/\Q (g i j) H
noncomputable def rI0 (g:I->I->V):R2:=λx y H Q=>∃i j,x=.int i/\y=.int j/\Q (g i j) H
def rU (g:I->V):V->Hp->VK->Prop:=λx H Q=>∃i,x=.int i/\Q (g i) H
section
variable {X:Cx}{a b c:ON}{ta tb tc:TE}{pos:Pos}
theorem DK (p:PE X a ta)(r:PE X b tb){e:U<|OD×Obj}{s:Jv}{i:St}{H:Hp}{R:V->V->Hp->Prop}(d:Inv X e i H s)
  (h:ta i H λx m=>tb i m λy g=>R x y g) {Q:B->Jv->Prop} {f:B->B->Sem B}
  (t:∀v u l x y g,Inv X e i g l->RelV x v->RelV y u->R x y g->OJ (JA X.prog X.w) X.A (f v u) Q X.xe l):
  OJ (JA X.prog X.w) X.A (OV a X.env) (λv j=>OJ (JA X.prog X.w) X.A (OV b X.env) (λu k=>OJ (JA X.prog X.w) X.A (f v u) Q X.xe k) X.xe j) X.xe s:=by
 refine thn (p e s i H _ d h) λv F ⟨x,m,n,r1,z⟩=>?_;refine thn (r e F i m _ n z) λu l ⟨y,g,o,r2,D⟩=>?_;exact t v u l x y g o r1 r2 D
theorem gy {op:Operator}{r:R2}(ho:OpR X (Kk op) r)(i:PE X a ta)(j:PE X b tb):PE X (.BinOp a op b pos) (tOp r ta tb):=by intro e s n H Q d h;exact wpAny_BinOp<|DK i j d h λv u m x y f g k l q=>ho e m n f x y v u Q g k l q
theorem FA {op:UnaryOp}{r:V->Hp->VK->Prop}(ho:UnR X (unaryOp op) r)(j:PE X a ta):PE X (.UnaryOp op a pos) (tUn r ta):=by intro e s f H Q d h;exact UnaryOp_<|thn (j e s f H _ d h) λv l ⟨x,g,i,r1,k⟩=>ho e l f g x v Q i r1 k
theorem opI {f:B->B->Sem B}{C:I->I->Prop}{g:I->I->I}
  (rule:∀(i j:I) (t u:Tok) (s:Jv) (Q:B->Jv->Prop) (E:B->Jv->Prop),C i j->Q (.int (g i j) s.toks) {s with toks:=s.toks+1}->OJ (JA X.prog X.w) X.A (f (.int i t)<|.int j u) Q E s):
  OpR X f (rI C λi j=>.int<|g i j):=by
 intro e s o H x y v u Q d l m h;obtain⟨i,j,rfl,rfl,k,q⟩:=h;obtain⟨t,rfl⟩:=l;obtain⟨n,rfl⟩:=m;exact rule i j t n s _ _ k ⟨.int<|g i j,H,d.tok _,⟨_,rfl⟩,q⟩
theorem GB {f:B->B->Sem B}{g:I->I->I}
  (rule:∀(i j:I) (t u:Tok) (s:Jv) (Q:B->Jv->Prop) (E:B->Jv->Prop),Q (.int (g i j) s.toks) {s with toks:=s.toks+1}->OJ (JA X.prog X.w) X.A (f (.int i t)<|.int j u) Q E s):
  OpR X f (rI0 λi j=>.int<|g i j):=by
 intro e s n H x y v u Q d k l h;obtain⟨i,j,rfl,rfl,q⟩:=h;obtain⟨t,rfl⟩:=k;obtain⟨m,rfl⟩:=l;exact rule i j t m s _ _ ⟨.int<|g i j,H,d.tok _,⟨_,rfl⟩,q⟩
theorem vY {f:B->B->Sem B}{g:I->I->OF}
  (rule:∀(i j:I) (t u:Tok) (s:Jv) (Q:B->Jv->Prop) (E:B->Jv->Prop),Q (.bool<|g i j) s->OJ (JA X.prog X.w) X.A (f (.int i t)<|.int j u) Q E s):
  OpR X f (rI0 λi j=>.bl<|g i j):=by
 intro e s n H x y v u Q d k l h;obtain⟨i,j,rfl,rfl,q⟩:=h;obtain⟨t,rfl⟩:=k;obtain⟨m,rfl⟩:=l;exact rule i j t m s _ _ ⟨.bl<|g i j,H,d,rfl,q⟩
def Ec (i j:I):Prop:=0<j/\j<1073741824
def DN (i j:I):Prop:=0<=j/\j<=1000000/\i.natAbs<2 ^ 64
def CMul (i j:I):Prop:=(-(2 ^ 64)<i/\i<2 ^ 64)\/(-(2 ^ 64)<j/\j<2 ^ 64)
theorem CMul.ok {i j:I}(h:CMul i j):IntMulOk i j:=by
 rcases h with⟨d,e⟩|⟨d,e⟩
 .exact .of_left (intBits_le_64 d e)
 .exact .of_right (intBits_le_64 d e)
theorem op_add:OpR X (Kk .Add) (rI0 λi j=>.int<|i+j):=GB λ_ _ _ _ _ _ _ q=>add_int q
theorem Dx:OpR X (Kk .Sub) (rI0 λi j=>.int<|i-j):=GB λ_ _ _ _ _ _ _ q=>sub_int q
theorem op_mul:OpR X (Kk .Mult) (rI CMul λi j=>.int<|i * j):=opI λ_ _ _ _ _ _ _ d q=>mul_int q d.ok
theorem xI:OpR X (Kk .FloorDiv) (rI Ec λi j=>.int<|i / j):=opI λi j _ _ _ _ _ d q=>by have e:(0:I)<j:=d.1;have f:j<1073741824:=d.2;exact floordiv_int (by lia) (by rw[Int.fdiv_eq_ediv_of_nonneg i<|by lia];exact q)<|.inl<|PyProof.noPylong_small<|by lia
theorem DS:OpR X (Kk .Mod) (rI (λ_ j=>0<j) λi j=>.int<|i % j):=opI λi j _ _ _ _ _ d q=>by have e:(0:I)<j:=d;exact mod_int' (by lia)<|by rw[Int.fmod_eq_emod_of_nonneg i<|by lia];exact q
theorem AL:OpR X (Kk .Pow) (rI DN λi j=>.int<|i ^ j.toNat):=opI λ_ _ _ _ _ _ _ d q=>pow_int_small d.1 d.2.1 d.2.2 q
theorem unI {f:B->Sem B}{g:I->I}
  (rule:∀(i:I) (t:Tok) (s:Jv) (Q:B->Jv->Prop) (E:B->Jv->Prop),Q (.int (g i) s.toks) {s with toks:=s.toks+1}->OJ (JA X.prog X.w) X.A (f<|.int i t) Q E s):
  UnR X f (rU λi=>.int<|g i):=by
 intro e s k H x v Q d j h;obtain⟨i,rfl,q⟩:=h;obtain⟨t,rfl⟩:=j;exact rule i t s _ _ ⟨.int<|g i,H,d.tok _,⟨_,rfl⟩,q⟩
theorem AH:UnR X (unaryOp .USub) (rU λi=>.int (-i)):=unI λ_ _ _ _ _ q=>neg_int q
end
section
variable {X:Cx}{a b c:ON}{ta tb tc:TE}{pos:Pos}
theorem su {f:U<|OD×Obj}{h:St}{H:Hp}{s:Jv}{Q:VK}{k g:OF}(d:Inv X f h H s)(q:Q (.bl k) H)(e:k=g):EP X f h Q (.bool g) s:=by subst e;exact⟨.bl k,H,d,rfl,q⟩
theorem Fz:OpR X (Kh .Lt) (rI0 λi j=>.bl<|decide (i<j)):=vY λ_ _ _ _ _ _ _ q=>lt_int q
theorem Ew:OpR X (Kh .LtE) (rI0 λi j=>.bl<|decide (i<=j)):=vY λ_ _ _ _ _ _ _ q=>le_int q
theorem Gk:OpR X (Kh .Gt) (rI0 λi j=>.bl<|decide (j<i)):=vY λ_ _ _ _ _ _ _ q=>gt_int q
theorem EC:OpR X (Kh .GtE) (rI0 λi j=>.bl<|decide (j<=i)):=vY λ_ _ _ _ _ _ _ q=>ge_int q
theorem AX:OpR X (Kh .Is) (λx y H Q=>y=.non/\Q (.bl<|decide (x=.non)) H):=by
 intro e s i H x y v u Q d f g h;obtain⟨rfl,q⟩:=h;cases g;refine is_none_gen<|su d q ?_
 cases x<;>first
  |(cases f;rfl)
  |(obtain⟨t,rfl⟩:=f;rfl)
theorem yR:OpR X (Kh .IsNot) (λx y H Q=>y=.non/\Q (.bl<|!decide (x=.non)) H):=by
 intro e s i H x y v u Q d f g h;obtain⟨rfl,q⟩:=h;cases g;refine isnot_none_gen<|su d q ?_
 cases x<;>first
  |(cases f;rfl)
  |(obtain⟨t,rfl⟩:=f;rfl)
theorem OpR.or {f:B->B->Sem B}{r g:R2}(h:OpR X f r)(l:OpR X f g):OpR X f (λx y H Q=>r x y H Q\/g x y H Q):=by
 intro e s k H x y v u Q d i j q;rcases q with q|q
 .exact h e s k H x y v u Q d i j q
 .exact l e s k H x y v u Q d i j q
theorem cZ (b:ON){op:CmpOp}(h:op≠.In:=by decide)(d:op≠.NotIn:=by decide):Kt op b=false:=by
 have e1:(op==CmpOp.In)=false:=by cases op<;>first|rfl|exact OH rfl h
 have e2:(op==CmpOp.NotIn)=false:=by cases op<;>first|rfl|exact OH rfl d
 cases b<;>simp[Kt,e1,e2]
theorem oG {op:CmpOp}{r:R2}(ho:OpR X (Kh op) r)(i:PE X a ta)(j:PE X b tb)(k:Kt op b=Jt):PE X (.Compare a [op] [b] pos) (tOp r ta tb):=by intro e s o H Q d h;exact wpAny_Compare1 (DK i j d h λv u n x y f g l m q=>ho e n o f x y v u Q g l m q) k
def zE (t:TE):TT:=λe H Q=>t e H λx d=>∃k,x=.bl k/\Q k d
theorem jk {op:CmpOp}{r:R2}(ho:OpR X (Kh op) r)(p:PE X a ta)(t:PE X b tb)(w:Kt op b=Jt):PT X (.Compare a [op] [b] pos) (zE<|tOp r ta tb):=by
 intro f s g H Q d h
 refine O7 (thn (p f s g H _ d h) λv M ⟨x,i,m,r1,A⟩=>thn (t f M g i _ m A) λu N ⟨y,j,n,r2,D⟩=>
  thn (ho f N g j x y v u _ n r1 r2 D) λc P ⟨z,l,o,G,k,e,F⟩=>?_) w
 subst e;cases G;exact MJ ⟨l,o,F⟩
def BO (K:Jw)(x:V)(H:Hp)(k:OF):Prop:=
 match x with
 |.non=>k=Jt
 |.bl b=>k=b
 |.int i=>k=(i != 0)
 |.str y=>y.length<=sizeLine/\k=((y.length:I) != 0)
 |.byt y=>y.size<=sizeLine/\k=((y.size:I) != 0)
 |.ref p=>(∃e,SqL K H p e/\k=!e.isEmpty)\/(∃e,SqT K H p e/\k=!e.isEmpty)\/∃d,H p=Y (.dK d)/\k=!d.isEmpty
 |_=>OS
theorem mJ {f:Type}{d:U<|f×V}{e:U<|f×B}(r:KV d e):(!e.isEmpty)=!d.isEmpty:=by cases r<;>rfl
theorem hV {e:U V}{d:U B}(r:Vals e d):(!d.toArray.isEmpty)=!e.isEmpty:=by cases r<;>simp
theorem gQ:(sizeLine:O)<2 ^ 63:=by rw[Mb];decide
theorem Bl:IL X (λx H Q=>∃k,BO X.K x H k/\Q k H):=by
 intro D s Z H x v Q d n h;obtain⟨k,e,q⟩:=h;have M:=gQ;have N:sizeLine=16777216:=Mb;cases x with
 |non=>cases n;have f:k=false:=e;subst f;exact truthy_none ⟨H,d,q⟩
 |bl b=>cases n;have f:k=b:=e;subst f;exact MJ ⟨H,d,q⟩
 |int i=>obtain⟨t,rfl⟩:=n;have f:k=(i != 0):=e;subst f;exact PySem.P.truthy_int ⟨H,d,q⟩
 |str y=>obtain⟨t,rfl⟩:=n;obtain⟨G,f⟩:y.length<=sizeLine/\k=((y.length:I) != 0):=e;subst f;exact PySem.P.truthy_str (by lia) ⟨H,d.tok _,q⟩
 |byt y=>obtain⟨t,rfl⟩:=n;obtain⟨G,f⟩:y.size<=sizeLine/\k=((y.size:I) != 0):=e;subst f;exact PySem.W.truthy_bytes (by lia) ⟨H,d.tok _,q⟩
 | ref p =>
  cases n;have f:(∃l,SqL X.K H p l/\k=!l.isEmpty)\/(∃l,SqT X.K H p l/\k=!l.isEmpty)\/∃g,H p=Y (.dK g)/\k=!g.isEmpty:=e;rcases f with⟨l,hx,f⟩|⟨l,hx,f⟩|⟨g,hx,f⟩
  .subst f;obtain⟨u,r,z,A⟩:=d.list hx;have j:=r.length;exact wpAny_truthy_list z.isList (by simp only[J1];lia) ⟨H,d.tok _,by rw[hV r];exact q⟩
  .subst f;obtain⟨u,r,z,A⟩:=d.tuple hx;have j:=r.length;exact truthy_tuple z (by simp only[J1];lia) ⟨H,d.tok _,by rw[hV r];exact q⟩
  .subst f;obtain⟨A,F,o,r,m⟩:g.length<=sizeLine/\(p==Ko)=Jt/\∃o,KV g o/\s.heap.DictOf (aK X.prog X.w) p o:=d.hok p _ hx;have j:g.length=o.length:=Paired.length r;exact wpAny_truthy_dict F m (by lia) ⟨H,d.tok _,by rw[mJ r];exact q⟩
 |_=>exact(show OS from e).elim
theorem t7 (m:PE X a ta)(n:∀e,Px a X.env e=(do let v <- e;standAt a.pos;holding [v] (truthy v))):
  PT X a (λg H Q=>ta g H λx i=>∃k,BO X.K x i k/\Q k i):=by
 intro f s g H Q d h;exact isTrue_plain (thn (m f s g H _ d h) λv p ⟨x,j,l,r1,o⟩=>Bl f p g j x v Q l r1 o)<|n _
theorem op_add_str:OpR X (Kk .Add) (λx y H Q=>∃i j,x=.str i/\y=.str j/\i.length+j.length<=sizeLine/\Q (.str<|i++j) H):=by intro e s n H x y v u Q d g k h;obtain⟨i,j,rfl,rfl,f,q⟩:=h;obtain⟨t,rfl⟩:=g;obtain⟨l,rfl⟩:=k;exact add_str (λl m=>⟨.str<|i++j,H,d.tok _,⟨_,rfl⟩,q⟩) f
theorem fK {x:V}{d:U B}(r:Vals [x] d):∃u,d=[u]/\RelV x u:=by
 cases r with
 |cons r1 r2=>cases r2;exact⟨_,rfl,r1⟩
theorem rA {x y:V}{d:U B}(r:Vals [x,y] d):∃u e,d=[u,e]/\RelV x u/\RelV y e:=by
 cases r with
 |cons r1 r2=>
  cases r2 with
  |cons f g=>cases g;exact⟨_,_,rfl,r1,f⟩
theorem pR (l:X.calm=Ju):df X (.builtin "max") (λg H Q=>∃i j,g=[.int i,.int j]/\Q (.int<|if j>i then j else i) H):=by
 intro f s w H g p Q d r h;obtain⟨i,j,rfl,q⟩:=h;obtain⟨u,v,rfl,⟨t,rfl⟩,⟨n,rfl⟩⟩:=rA r;refine max_two_ints (d.ok.hd l) λm o k=>⟨_,H,d.kept k,?_,q⟩;by_cases e:j>i
 .rw[OG e,OG e];exact⟨_,rfl⟩
 .rw[OK e,OK e];exact⟨_,rfl⟩
theorem ql (l:X.calm=Ju):df X (.builtin "min") (λg H Q=>∃i j,g=[.int i,.int j]/\Q (.int<|if j<i then j else i) H):=by
 intro f s w H g p Q d r h;obtain⟨i,j,rfl,q⟩:=h;obtain⟨u,v,rfl,⟨t,rfl⟩,⟨n,rfl⟩⟩:=rA r;refine min_two_ints (d.ok.hd l) λm o k=>⟨_,H,d.kept k,?_,q⟩;by_cases e:j<i
 .rw[OG e,OG e];exact⟨_,rfl⟩
 .rw[OK e,OK e];exact⟨_,rfl⟩
theorem qk:df X (.type "int") (λe H Q=>(∃i,e=[.int i]/\Q (.int i) H)\/∃k,e=[.bl k]/\Q (.int<|if k then 1 else 0) H):=by
 intro f s j H e g Q d r h;rcases h with⟨i,rfl,q⟩|⟨k,rfl,q⟩
 .obtain ⟨u,rfl,t,rfl⟩:=fK r;exact call_int_int ⟨.int i,H,d,⟨_,rfl⟩,q⟩
 .obtain ⟨u,rfl,r1⟩:=fK r;cases r1;exact call_int_bool ⟨.int<|if k then 1 else 0,H,d.tok _,⟨_,rfl⟩,q⟩
def Gb (K:Jw)(x:V)(H:Hp)(n:O):Prop:=
 match x with
 |.str y=>y.length<=sizeLine/\n=y.length
 |.byt y=>y.size<=sizeLine/\n=y.size
 |.ref p=>(∃d,SqL K H p d/\n=d.length)\/∃d,SqT K H p d/\n=d.length
 |_=>OS
theorem lj:df X (.builtin "len") (λf H Q=>∃x n,f=[x]/\Gb X.K x H n/\Q (.int n) H):=by
 intro o s F H f D Q d r h;obtain⟨x,n,rfl,e,q⟩:=h;obtain⟨u,rfl,m⟩:=fK r;have z:=gQ;have A:sizeLine=16777216:=Mb;cases x with
 |str y=>obtain⟨t,rfl⟩:=m;obtain⟨v,i⟩:y.length<=sizeLine/\n=y.length:=e;subst i;exact len_str (by lia) ⟨.int _,H,d.tok _,⟨_,rfl⟩,q⟩
 |byt y=>obtain⟨t,rfl⟩:=m;obtain⟨v,i⟩:y.size<=sizeLine/\n=y.size:=e;subst i;exact PySem.W.len_bytes (by lia) ⟨.int _,H,d.tok _,⟨_,rfl⟩,q⟩
 | ref p =>
  cases m;have i:(∃f,SqL X.K H p f/\n=f.length)\/∃f,SqT X.K H p f/\n=f.length:=e;rcases i with⟨f,hx,i⟩|⟨f,hx,i⟩
  .subst i;obtain⟨j,l,k,w⟩:=d.list hx;have g:=l.length;exact Calls.call_len_list k.isList (by simp only[J1];lia) ⟨.int f.length,H,d.tok _,⟨_,by simp only[J1];rw[g]⟩,q⟩
  .subst i;obtain⟨j,l,k,w⟩:=d.tuple hx;have g:=l.length;exact len_tuple k (by simp only[J1];lia) ⟨.int f.length,H,d.tok _,⟨_,by simp only[J1];rw[g]⟩,q⟩
 |_=>exact(show OS from e).elim
end
structure ObjM (h:OT)(x dx C:OD)(mA:Str->L B):Prop where
 obj:h.get? x=Y (MP C dx)
 ns:h.Ns1 dx mA
 ne:dx≠x
theorem qt {h:OT}{d:OD}{g:Str->L B}(n:h.Ns1 d g):∃i,h.get? d=Y i/\∀b,M6 b i=Y (g b):=by
 obtain⟨o,f,ep,ho,hd,hk,_,k⟩:=n;refine⟨o,ho,λb=>?_⟩;have e:=k b;unfold nsFind findBy at e;rw[<- N8] at e;unfold M6;rw[hd];dsimp only;split
 .rename_i y q;rw[q] at e;exact OQ Y e
 .rename_i q;rw[q] at e;have a:f.toList.any (·.refKey)=false:=by rw[List.any_eq_false];intro y l;obtain⟨z,t,c⟩:=hk y (Array.mem_toList_iff.mp l);simp[DictEntry.refKey,c]
  have j:¬f.toList.any (·.refKey)=true:=by rw[a];exact Ka
  rw[OK j];exact OQ Y e
theorem ObjM.look {h:OT}{x d C:OD}{e:Str->L B}(a:ObjM h x d C e):∃c,PySem.W.InstAt h x (MP C d) C (Y c)/\∀b,M6 b c=Y (e b):=
 let ⟨c,ho,f⟩:=qt a.ns
 ⟨c,⟨a.obj,rfl,rfl,ho⟩,f⟩
def GA (f:Str)(v:V):U (Str×V)->U (Str×V)
|[]=>[(f,v)]
|(g,x)::r=>if g=f then(g,v)::r else(g,x)::GA f v r
theorem RelO.some_of {v:V}{o:L B}(r:RelO (Y v) o):∃u,o=Y u/\RelV v u:=by
 cases o with
 |none=>exact(show OS from r).elim
 |some u=>exact⟨u,rfl,r⟩
section
variable {P:OI}{w:Jy}{H H':Hp}{h h':OT}{a C dx:OD}{fs fs':U (Str×V)}
theorem wH (c:HOk P w H h)(e:H a=Y (.ins C dx fs)):∃b,ObjM h a dx C b/\(∀f,RelO (fs.lookup f)<|b f)/\Nr b (fs.map (·.1))/\fs.length<=1000/\H dx=Y (.own a):=by obtain⟨d,z,g,i,b,n,r,q⟩:=(show ObjOk P w H h a (.ins C dx fs) from c a _ e);exact⟨b,⟨i,n,g⟩,r,q,z,d⟩
end
structure Cls (K:Jw)(C:OD):Prop where
 pg:Om K C Str.empty=Ju
 hd:M0 K C=Ju
 po:PySem.W.plainOver K C=Ju
 sa:Lz K (.ref C) "__setattr__"=Y (Y (.builtin "object.__setattr__"))
theorem Cls.get {K:Jw}{C:OD}(c:Cls K C)(f:Str):Om K C f=true:=c.pg
section
variable {X:Cx}{pins:U (OD×Obj)}{σ:St}{H:Hp}{s:Jv}{A:JU}{E:B->Jv->Prop}{Q:B->Jv->Prop}{c:B}{b:OF}
inductive fO (K:Jw)(H:Hp):V->B->Prop where
 |non:fO K H .non (.type "NoneType")
 |bl (x:OF):fO K H (.bl x) (.type "bool")
 |int (i:I):fO K H (.int i) (.type "int")
 |str (x:Str):fO K H (.str x) (.type "str")
 |flt (x:UInt64):fO K H (.flt x) (.type "float")
 |lst {a:OD} {xs:U V} (e:H a=Y (.lst xs)):fO K H (.ref a) (.type "list")
 |frz {a:OD} {o:Obj} {xs:U V} (e:H a=Y (.frz o (.lst xs))):fO K H (.ref a) (.type "list")
 |tup {a:OD} {xs:U V} (e:H a=Y (.tup xs)):fO K H (.ref a) (.type "tuple")
 |dK {a:OD} {kvs:U (Key×V)} (e:H a=Y (.dK kvs)):fO K H (.ref a) (.type "dict")
 |dT {a:OD} {kvs:U (U Key×V)} (e:H a=Y (.dT kvs)):fO K H (.ref a) (.type "dict")
 | ins {a C dx:OD} {fs:U (Str×V)} (e:H a=Y (.ins C dx fs)) (cl:Cls K C) (ha:Lz K (.ref C) "__class__"=Y (Y (.builtin "object.__class__")))
   (hn:N5 K (.builtin "object.__class__") "__get__"=Y (Y (.builtin "getset_descriptor.__get__"))) (htk:NK K (.builtin "object.__class__")=Y Ju)
   (hm:Ny K C (.type "object")=Y Ju):fO K H (.ref a) (.ref C)
theorem dI {x:V}{u t:B}(d:Inv X pins σ H s)(k:RelV x u)(ty:fO X.K H x t)(e:Lp X.K t c=Y b)(h:∀tk,Q (.bool b) {s with toks:=tk}):
  OJ (JA X.prog X.w) A (call (.builtin "isinstance") [u,c]) Q E s:=by
 cases ty with
 |non=>cases(show u=Value.none from k);exact Kx PySem.W.kitx_none d.kIn Kz e (λz=>nomatch z) h
 |bl y=>cases(show u=Value.bool y from k);exact Kx PySem.W.kitx_bool d.kIn Kz e (λz=>nomatch z) h
 |int i=>obtain⟨t,q⟩:=(show∃t,u=Value.int i t from k);cases q;exact Kx PySem.W.kitx_int d.kIn Kz e (λz=>nomatch z) h
 |str y=>obtain⟨t,q⟩:=(show∃t,u=Value.str y t from k);cases q;exact Kx PySem.W.kitx_str d.kIn Kz e (λz=>nomatch z) h
 |flt y=>obtain⟨t,q⟩:=(show∃t,u=Value.float y t from k);cases q;exact Kx PySem.W.kitx_float d.kIn Kz e (λz=>nomatch z) h
 | @lst a r j=>cases(show u=Value.ref a from k);obtain⟨_,_,n,_,l⟩:=(show ObjOk X.prog X.w H s.heap a (.lst r) from d.hok a _ j);exact Kx MZ d.kIn ⟨_,l,rfl⟩ e (λz=>nomatch z) h
 | @frz a Z r j=>cases(show u=Value.ref a from k);obtain⟨_,_,_,n,_,l⟩:=(show ObjOk X.prog X.w H s.heap a (.frz Z<|.lst r) from d.hok a _ j);exact Kx MZ d.kIn ⟨_,l,rfl⟩ e (λz=>nomatch z) h
 | @tup a r j=>cases(show u=Value.ref a from k);obtain⟨_,_,_,p⟩:=(show ObjOk X.prog X.w H s.heap a (.tup r) from d.hok a _ j);obtain⟨o,l,v,_⟩:=p;exact Kx N7 d.kIn ⟨o,l,v⟩ e (λz=>nomatch z) h
 | @dK a m j=>cases(show u=Value.ref a from k);obtain⟨_,_,vs,_,p⟩:=(show ObjOk X.prog X.w H s.heap a (.dK m) from d.hok a _ j);obtain⟨o,G,ep,l,v,_⟩:=p;exact Kx N4 d.kIn ⟨o,l,v.1⟩ e (λz=>nomatch z) h
 | @dT a m j=>cases(show u=Value.ref a from k);obtain⟨_,_,r,_,o,G,ep,l,v,_⟩:=(show ObjOk X.prog X.w H s.heap a (.dT m) from d.hok a _ j);exact Kx N4 d.kIn ⟨o,l,v.1⟩ e (λz=>nomatch z) h
 | @ins a C dx fs j F M P D N=>cases(show u=Value.ref a from k);obtain⟨mA,g,_⟩:=wH d.hok j;obtain⟨od,f,_⟩:=g.look;exact Kx (PySem.W.kitx_own (F.get _) F.hd M P D N) d.kIn f e (λz=>nomatch z) h
end
structure Room (k:O)(A:JU):Prop where
 hd:A.handled=J
 dp:A.depth+3 * k+5<recursionLimit
 un:A.units+16 * k+200<O0
 gu:A.guards=Y []
theorem Room.deeper {k:O}{A:JU}(r:Room (k+1) A)(a:Env):Room k (A.deeper a):=
 ⟨r.hd,by have:=r.dp;show A.depth+1+3 * k+5<_;lia,by have:=r.un;show A.units+3+16 * k+200<_;lia,r.gu⟩
theorem Room.depth {k:O}{A:JU}(r:Room k A):A.depth<recursionLimit:=by have:=r.dp;lia
theorem Room.units {k:O}{A:JU}(r:Room k A):A.units+64<O0:=by have:=r.un;lia
def Cw:TA:=λ_ H Q=>Q [] H
def oH (d:TE)(e:TA):TA:=λa H Q=>d a H λx b=>e a b λf c=>Q (x::f) c
section
variable {X:Cx}{e:ON}{es:U ON}{te:TE}{t:TA}{pos:Pos}
theorem fh:PA X [] Cw:=λ_ _ _ _ H Q a h=>Calls.spliced_nil ⟨[],H,a,.nil,h⟩
theorem cn (j:PE X e te)(k:PA X es t)(l:Jz (e::es) X.env=(Jt,OV e X.env)::Jz es X.env:=by rfl):PA X (e::es) (oH te t):=by intro pos b s c H Q a h;rw[l];show OJ _ _ (spliced ((Jt,OV e X.env)::JZ pos (Jz es X.env))) _ _ s;refine Calls.spliced_cons<|thn (j b s c H _ a h) λu o ⟨x,d,g,r1,m⟩=>?_;exact thn (k pos b o c d _ g m) λv r ⟨p,f,i,r2,n⟩=>⟨x::p,f,i,.cons r1 r2,n⟩
def Hl (t:TA):TE:=λc H Q=>t c H λb a=>b.length<=sizeLine/\∀p,a p=J->Q (.ref p) (upd a p<|.tup b)
def Hh (t:TA):TE:=λc H Q=>t c H λb a=>b.length<=sizeLine/\∀p,a p=J->Q (.ref p) (upd a p<|.lst b)
theorem Cc {x1}(h:PA X es t):PE X (.Tuple es x1 pos) (Hl t):=by intro c s m H Q a j;refine wpAny_Tuple_spliced<|thn (h pos c s m H _ a j) λk d ⟨l,f,g,r,z,q⟩=>⟨by rw[<- r.length];exact z,?_⟩;have i:f d.heap.objs.size=none:=g.hok.fresh<|JE _;refine⟨.ref d.heap.objs.size,upd f d.heap.objs.size<|.tup l,g.laid (t':=d.toks) (λb u e=>Heap.get?_push_of_some _ e) (JE _) ?_,rfl,q _ i⟩;exact⟨z,k,r,⟨_,Heap.get?_push_size _ rfl,rfl,_,rfl⟩⟩
theorem Dg (h:PA X es t):PE X (.List es pos) (Hh t):=by intro c s m H Q a j;refine wpAny_List_spliced<|thn (h pos c s m H _ a j) λk d ⟨l,f,g,r,z,q⟩=>⟨by rw[<- r.length];exact z,?_⟩;have i:f d.heap.objs.size=none:=g.hok.fresh<|JE _;refine⟨.ref d.heap.objs.size,upd f d.heap.objs.size<|.lst l,g.laid (t':=d.toks) (λb u e=>Heap.get?_push_of_some _ e) (JE _) ?_,rfl,q _ i⟩;exact⟨z,k,0,r,Heap.get?_push_size _ rfl⟩
end
abbrev Sp:=U V->Hp->VK->XK->Prop
abbrev CXT:=U Env->Hp->Jv->XK->B->Jv->Prop
structure xR (P:OI)(w:Jy)(K:Jw)(mg:Str->L B)(base:OT)(A:JU)(outer:U Env)(s:Jv)(H:Hp):Prop where
 frames:A.frames=Y outer
 mod:Mod K mg base
 bs:∀b o,base.get? b=Y o->s.heap.get? b=Y o/\H b=J
 bsz:base.objs.size<=s.heap.objs.size
 funs:s.heap.FunFrames base outer
 frf:∀b∈frs outer,H b=J
 hok:HOk P w H s.heap
 bare:KU s.gens
def CE (a:U Env)(P:OI)(w:Jy)(H:Hp)(s:Jv)(Q:VK)(u:B)(b:Jv):Prop:=
 ∃v c,b.os=s.os/\KU b.gens/\Un (frs a) [] H c s.heap b.heap/\HOk P w c b.heap/\RelV v u/\Q v c
def CR (c:CXT)(a:U Env)(P:OI)(w:Jy)(H:Hp)(s:Jv)(Q:VK)(E:XK)(r:Result)(b:Jv):Prop:=
 match r with
 |.ok (.ret u)=>CE a P w H s Q u b
 |.ok _=>OS
 |.error e=>c a H s E e b
structure eA (P:OI)(w:Jy)(K:Jw)(mg:Str->L B)(base:OT)(CX:CXT)(k:O)(f:OD)(fd:Kn)(ps:U Str)(sp:Sp):Prop where
 len:∀vs H Q E,sp vs H Q E->vs.length=ps.length
 run:∀(A:JU) (outer:U Env) (s:Jv) (H:Hp) (args:Args) (us:U B) (vs:U V) (Q:VK) (E:XK),Room k A->xR P w K mg base A outer s H->K2 s fd args (ps.zip us)->Vals vs us->sp vs H Q E ->
  K1 (JA P w) A (.call (.ref f) args) (CR CX outer P w H s Q E) s
section
variable {X:Cx}{pins:U (OD×Obj)}{σ:St}{H:Hp}{s s':Jv}
theorem Inv.env0 (a:Inv X pins σ H s):xR X.prog X.w X.K X.mg X.base X.A X.stack s H:=
 ⟨a.ok.frames,a.ok.mod,a.bs,JP a.ok.bsz a.sz,a.stack,a.stkFree,a.hok,a.bare⟩
theorem Inv.after {Q:VK}{u:B}(a:Inv X pins σ H s)(h:CE X.stack X.prog X.w H s Q u s'):EP X pins σ Q u s':=by obtain⟨v,f,os,bare,un,c,r,q⟩:=h;obtain⟨i,g,d,t,e⟩:=s';obtain rfl:e=s.os:=os;exact⟨v,f,a.call (h':=i) (g':=g) (d':=d) (t':=t) (ch:=[]) un c bare λb z=>OH z<|by simp,r,q⟩
end
def Gp (sp:Sp)(a:U V)(E:XK)(t:TA):TE:=λd H Q=>t d H λc b=>sp (c++a) b Q E
def Binds (K:Jw)(b:Kn)(ps:U Str)(ds:U B):Prop:=
 ∀(s:Jv) (a:U B),K.In s.heap->(a++ds).length=ps.length->K2 s b ⟨a,[]⟩ (ps.zip<|a++ds)
theorem Binds.all {K:Jw}{b:Kn}{ps:U Str}(h:∀a:U B,a.length=ps.length->bindArgs b ⟨a,[]⟩=pure (ps.zip a)):Binds K b ps []:=λs a _ c=>by rw[JR] at c ⊢;exact .of_eq<|h a c
def mI (c:CXT)(X:Cx)(E:XK):Prop:=∀(a:U<|OD×Obj) (d:St) (H:Hp) (s:Jv) (e:B) (b:Jv),Inv X a d H s->c X.stack H s E e b->X.xe e b
section
variable {X:Cx}{CX:CXT}{k:O}{f C:OD}{fd:Kn}{ps:U Str}{sp:Sp}{dvs:U V}{ds:U B}{E:XK}{x m:Str}{p pos apos:Pos}{e o:ON}{es:U ON}{ta:TE}{t:TA}
theorem Ad {b:U<|OD×Obj}{i:St}{H:Hp}{s:Jv}{Q:VK}{c:U B}{g:U V}(F:eA X.prog X.w X.K X.mg X.base CX k f fd ps sp)(n:Room k X.A)(j:Binds X.K fd ps ds)(hd:Vals dvs ds)(hx:mI CX X E)
  (a:Inv X b i H s) (r:Vals g c) (h:sp (g++dvs) H Q E):OJ (JA X.prog X.w) X.A (call (.ref f) c) (EP X b i Q) X.xe s:=by
 have r2:Vals (g++dvs) (c++ds):=r.append hd;have l:(c++ds).length=ps.length:=by rw[<- r2.length];exact F.len _ _ _ _ h
 refine wpAny_call<|Pl (F.run X.A X.stack s H ⟨c,[]⟩ (c++ds) (g++dvs) Q E n a.env0 (j s c a.kIn l) r2 h) λr v d=>?_;cases r with
 |error e=>exact hx b i H s e v a d
 |ok fl=>
  cases fl with
  |ret u=>exact a.after d
  |next=>exact KA d
  |brk=>exact KA d
  |cont=>exact KA d
theorem vS (F:eA X.prog X.w X.K X.mg X.base CX k f fd ps sp)(v:Room k X.A)(n:Gl X x)(u:X.mg x=Y (.ref f))(hk:Ly X.K (.ref f)=Ju)(j:Binds X.K fd ps ds)(hd:Vals dvs ds)(hx:mI CX X E)
  (i:PA X (e::es) t) (c:(x==("__debug__":Str))=false:=by decide) (l:Jz (e::es) X.env=(Jt,OV e X.env)::Jz es X.env:=by rfl) (d:(JZ pos<|Jz es X.env).any (·.1)=false:=by rfl):
  PE X (.Call (.Name x p) (e::es) [] pos) (Gp sp dvs E t):=by
 intro b s y H Q a h;refine MK<|oo a n u ?_ c;refine PySem.W.callWith_K (h₀:=X.base) a.ok.mod.kin hk (thn (i pos b s y H _ a h) λG D ⟨M,z,g,r,q⟩=>⟨g.kIn,?_⟩) l d;exact Ad F v j hd hx g r q
end
structure au (N P:U Str)(sc:OZ):Prop where
 kind:sc.kind=.function
 co:sc.isCoroutine=Jt
 gen:sc.isGenerator=Jt
 nd:N.Nodup
 pre:N.take P.length=P
 par:∀x∈P,sc.names.lookup x=Y .local\/sc.names.lookup x=Y .cell
 nofree:∀y∈sc.names,y.2≠.free
theorem iy {kindOf:Str->L NameKind}{x:Str}:∀{binds:U<|Str×B} {m:Str->L B},(∀v,(x,v) ∉ binds)->Py kindOf binds m x=m x
|[],_,_=>rfl
| (n,v)::r,m,h=>by
 unfold Py;rw[iy λw a=>h w<|JW _ a];split
 .have:x≠n:=by rintro rfl; exact h v JJ
  simp[this]
 .rfl
theorem iM {kindOf:Str->L NameKind}{x:Str}:∀{binds:U<|Str×B} {m:Str->L B},(∀v,(x,v) ∉ binds)->Pz kindOf binds m x=m x
|[],_,_=>rfl
| (n,v)::r,m,h=>by
 unfold Pz;rw[iM λw a=>h w<|JW _ a];split
 .rfl
 .have:x≠n:=by rintro rfl; exact h v JJ
  simp[this]
theorem iA {kindOf:Str->L NameKind}{x:Str}{v:B}:∀{P:U Str} {a:U B} {i:O} {m:Str->L B},P.Nodup->P[i]?=Y x->a[i]?=Y v->kindOf x=Y .local ->
 Py kindOf (P.zip a) m x=Y v
|[],_,_,_,_,h,_,_=>by simp at h
|_::_,[],_,_,_,_,h,_=>by simp at h
|p::P,w::a,0,m,d,b,c,hk=>by simp at b c;subst b;subst c;show Py kindOf ((p,w)::P.zip a) m p=_;unfold Py;rw[iy λv e=>(KP.mp d).1 (Mx e).1,OG hk];simp
|p::P,w::a,i+1,m,d,b,c,hk=>by show Py kindOf ((p,w)::P.zip a) m x=_;unfold Py;exact iA (i:=i) (KP.mp d).2 (by simpa using b) (by simpa using c) hk
theorem iI {kindOf:Str->L NameKind}{x:Str}{v:B}:∀{P:U Str} {a:U B} {i:O} {m:Str->L B},P.Nodup->P[i]?=Y x->a[i]?=Y v->kindOf x≠Y .local ->
 Pz kindOf (P.zip a) m x=Y v
|[],_,_,_,_,h,_,_=>by simp at h
|_::_,[],_,_,_,_,h,_=>by simp at h
|p::P,w::a,0,m,d,b,c,hk=>by simp at b c;subst b;subst c;show Pz kindOf ((p,w)::P.zip a) m p=_;unfold Pz;rw[iM λv e=>(KP.mp d).1 (Mx e).1,OK hk];simp
|p::P,w::a,i+1,m,d,b,c,hk=>by show Pz kindOf ((p,w)::P.zip a) m x=_;unfold Pz;exact iI (i:=i) (KP.mp d).2 (by simpa using b) (by simpa using c) hk
def start (N:U Str)(a:U V):St:=a.map Y++JV (N.length-a.length) J
def jw (g:CXT)(P:OI)(w:Jy)(K:Jw)(mg:Str->L B)(base:OT)(N:U Str)(b:Str)(a:OZ)(f:OD)(d:B)(A:JU)(outer:U Env)(s:Jv)(H:Hp)(E:XK):Cx where
 prog:=P
 w:=w
 K:=K
 mg:=mg
 base:=base
 A:=A.deeper<|Ky b a s.heap.objs.size f d
 N:=N
 s₀:=s
 H₀:=H
 env:=Ky b a s.heap.objs.size f d
 outer:=outer
 stack:=Ky b a s.heap.objs.size f d::outer
 ex:=[]
 calm:=Ju
 fn:=λ_=>Ju
 pn:=[]
 xe:=λe i=>OJ (JA P w) (A.deeper<|Ky b a s.heap.objs.size f d) (leaving (Ky b a s.heap.objs.size f d) e) (λ_ c=>g outer H s E e c) (λh c=>g outer H s E h c) i
theorem j9 {a:OZ}{n:O}{x:Str}(h:a.names.lookup x=Y .cell):∃c,(cellsFrom n a.names []).lookup x=Y c:=by have q:=NX a.names n []<|.inl h;exact N2.mp q
theorem qf {CX:CXT}{P:OI}{w:Jy}{K:Jw}{mg:Str->L B}{m:OT}{N ps:U Str}{j:Str}{d:OZ}{f:OD}{M:B}{A:JU}{g:U Env}{s s1:Jv}{H:Hp}{E:XK}{us:U B}{F:U V}
  (S:au N ps d) (hd:A.handled=J) (o:xR P w K mg m A g s H) (hl:F.length=ps.length) (r:Vals F us)
  (x:InCallC s s.heap.objs.size (Py (Ky j d s.heap.objs.size f M).kindOf (ps.zip us) λ_=>J) (cellsFrom (s.heap.objs.size+1) d.names []) (Pz (Ky j d s.heap.objs.size f M).kindOf (ps.zip us) λ_=>J) s1):
  Inv (jw CX P w K mg m N j d f M A g s H E) [] (start N F) H s1:=by
 have hpl:ps.length<=N.length:=by have:=OQ LG S.pre;rw[MA] at this;lia
 obtain⟨Q,tk,rfl,hk⟩:=x.done;have D:∀b:OD,b ∉ (jw CX P w K mg m N j d f M A g s H E).ex:=λb z=>OH (show b∈([]:U OD) from z)<|by simp
 refine⟨⟨o.mod,S.kind,rfl,rfl,JE _,λy z c Q l=>?_,λy t=>?_,λy c _ h=>?_,λ_=>hd,Around.frames_deeper o.frames,.inr ⟨rfl,rfl⟩,λb z=>OH z<|D b,o.bs,o.bsz,λb _ _=>D b,λb z=>OH z<|D b,o.funs,o.frf⟩,
  rfl,o.bare,Un.kept hk,⟨_,x.toInCall.ns,λi y v Q l h3=>?_⟩,λy c h=>⟨_,x.cell y c h⟩,o.hok.fresh<|JE _,λy c h=>?_,λp hp=>OH (show p∈([]:U<|OD×Obj) from hp)<|by simp,o.hok.kept hk,?_⟩
 .exact name_of_addr x.apart (LF Q) (LF l)
 .have t:d.names.lookup y=Y .cell\/d.names.lookup y=Y .free:=t;rcases t with t|t
  .exact j9 t
  .exact OH rfl (S.nofree _<|LF t)
 .exact Mh (x.above y c<|LF h)
 .have Z:i<F.length:=by
   unfold start at l;by_cases Z:i<F.length
   .exact Z
   .rw [LZ<|by simpa using Z] at l;rw[M8] at l;split at l<;>cases l
  have ha:F[i]?=Y v:=by
   unfold start at l;rw[LY<|by simpa using Z,Ki] at l;cases e:F[i]? with
   |none=>rw[e] at l;cases l
   |some a=>rw[e] at l;cases l;rfl
  obtain⟨u,hu,rv⟩:=r.get ha;have hp:ps[i]?=Y y:=by rw[<- S.pre,List.getElem?_take_of_lt<|by lia];exact Q
  have G:ps.Nodup:=by rw[<- S.pre];exact S.nd.sublist<|List.take_sublist _ _
  refine⟨u,rv,?_⟩;rcases S.par y (Ms hp) with k|k
  .exact .inl ⟨k,iA G hp hu k⟩
  .obtain ⟨c,e⟩:=j9 (n:=s.heap.objs.size+1) k;refine .inr ⟨.inl k,c,e,?_⟩;have q:=x.cell y c e;rw[iI G hp hu<|by show d.names.lookup y≠_;rw[k];decide] at q;exact q
 .exact o.hok.fresh (Mh<|x.above y c<|LF h)
 .unfold start;show _=N.length;rw[Jx,JF,La];lia
theorem EY {CX:CXT}{P:OI}{w:Jy}{K:Jw}{mg:Str->L B}{j:OT}{k:O}{f:OD}{F h:Str}{l:Arguments}{m:U OW}{d:OZ}{dV kV doc pm i ct oc:B}{an od:L OD}
  {osl:OY<|L B} {N ps:U Str} {sp:Sp} (lk:K.lookup f=Y ⟨oc,od,.func<|KY F h l m d dV kV doc pm an i ct,osl⟩) (hcd:MF K i h=Ju) (S:au N ps d)
  (len:∀p H Q E,sp p H Q E->p.length=ps.length)
  (G:∀ (A:JU) (g:U Env) (s:Jv) (H:Hp) (p:U V) (Q:VK) (E:XK),Room k (A.deeper (Ky h d s.heap.objs.size f i))->sp p H Q E ->
   ∃t,PSs (jw CX P w K mg j N h d f i A g s H E) m t/\t {nx:=λ_ D=>Q .non D,rt:=Q} (start N p) H):
  eA P w K mg j CX (k+1) f (KY F h l m d dV kV doc pm an i ct) ps sp:=by
 refine⟨len,λA g s H args us p Q E hr e0 hb r hsp=>?_⟩;have hl:=len _ _ _ _ hsp;have KX:K.In s.heap:=e0.mod.kin.keeps λb o e=>(e0.bs b o e).1;have lim:s.heap.NoLimit:=e0.mod.nolimit.keeps λb o e=>(e0.bs b o e).1
 have M:∀y∈ps.zip us,d.names.lookup y.1=Y .local\/(d.names.lookup y.1=Y .cell/\((cellsFrom (s.heap.objs.size+1) d.names []).lookup y.1).isSome=Ju):=λ⟨n,v⟩ hy=>by
  rcases S.par n (Mx hy).1 with q|q
  .exact .inl q
  .exact .inr ⟨q,NX _ _ _<|.inl q⟩
 refine codeAny_call_function hr.depth (KX _ _ lk) rfl S.co S.gen rfl (PySem.W.codeRec_of KX hcd) (hb _ _ _ _ ?_);refine wpAny_newFunctionEnv_cells S.kind M λenv he s1 x=>?_;subst he;refine⟨lim.keeps x.toInCall.keep,codeAny_func ?_⟩;obtain⟨t,ht,hq⟩:=G A g s H p Q E (hr.deeper _) hsp;have a:Inv (jw CX P w K mg j N h d f i A g s H E) [] (start N p) H s1:=qf S hr.hd e0 hl r x;refine J5 (ht [] s1 (start N p) H _ a hq) (λfl s' Z=>?_) λe s' Z=>Z
 have fin:∀{z:St} {D:Hp} {v:V} {u:B},Inv (jw CX P w K mg j N h d f i A g s H E) [] z D s'->RelV v u->Q v D->CE g P w H s Q u s':=
  λ{z D v u} c rv q=>⟨v,D,c.os,c.bare,c.base,c.hok,rv,q⟩
 cases fl with
 |ret u=>obtain⟨v,z,D,c,rv,q⟩:=Z;exact fin c rv q
 |next=>obtain⟨z,D,c,q⟩:=Z;exact fin (v:=V.non) (u:=Value.none) c rfl q
 |brk=>obtain⟨_,_,_,q⟩:=Z;exact KA q
 |cont=>obtain⟨_,_,_,q⟩:=Z;exact KA q
section
variable {X:Cx}{x:Str}{p pos:Pos}{e:ON}{es:U ON}{t:TA}{id T:OL}{r:U V->Hp->VK->Prop}
def tCB (r:U V->Hp->VK->Prop)(t:TA):TE:=λc H Q=>t c H λb a=>r b a Q
theorem ck (k:df X (.builtin id) r)(m:Gl X x)(n:X.mg x=J)(u:K4 x=Y (.builtin id))(j:PA X (e::es) t)(o:x≠"__name__":=by decide)(c:(x==("__debug__":Str))=false:=by decide)
  (l:Jz (e::es) X.env=(Jt,OV e X.env)::Jz es X.env:=by rfl) (d:(JZ pos<|Jz es X.env).any (·.1)=false:=by rfl):PE X (.Call (.Name x p) (e::es) [] pos) (tCB r t):=by
 intro b s f H Q a h;refine MK<|fz a m n u ?_ o c;exact OC (thn (j pos b s f H _ a h) λy w ⟨z,g,i,r1,v⟩=>k b w f g z y Q i r1 v) l d
theorem dM (k:df X (.type T) r)(m:Gl X x)(n:X.mg x=J)(u:K4 x=Y (.type T))(j:PA X (e::es) t)(o:x≠"__name__":=by decide)(c:(x==("__debug__":Str))=false:=by decide)
  (l:Jz (e::es) X.env=(Jt,OV e X.env)::Jz es X.env:=by rfl) (d:(JZ pos<|Jz es X.env).any (·.1)=false:=by rfl):PE X (.Call (.Name x p) (e::es) [] pos) (tCB r t):=by
 intro b s f H Q a h;refine MK<|fz a m n u ?_ o c;exact MH (thn (j pos b s f H _ a h) λy w ⟨z,g,i,r1,v⟩=>k b w f g z y Q i r1 v) l d
end
end L2
namespace HT
open PySem PyProof.Rows
section
variable {prog:OI}{w:Jy}{A:JU}{E:B->Jv->Prop}{s:Jv}
theorem cat_tup {t b:OD}{d a:U B}{Q:B->Jv->Prop}(z:Pj s.heap t d.toArray)(y:Pj s.heap b a.toArray)(p:d≠[])
  (v:a=[]->Q (.ref t) s) (x:a≠[]->Q (.ref s.heap.objs.size) {s with heap:=s.heap.push {cls:=.type "tuple",data:=.seq (d++a).toArray}})
  (k:d.length+a.length<=sizeLine):OJ (JA prog w) A (Kk .Add (.ref t)<|.ref b) Q E s:=by
 obtain⟨⟨cls,m,data,u⟩,ho,o,n,hd⟩:=id z;obtain⟨⟨l,f,data2,i⟩,c,g,r,h⟩:=id y;simp only at o hd g h;subst o hd g h;have e:d.toArray++a.toArray=(d++a).toArray:=by simp
 by_cases j:a=[]
 .exact Pm ⟨_,ho,rfl⟩ ⟨_,c,rfl⟩ MI Pd Nf Nj (M9 _ _)
   (tuple_addW1 t b d.toArray a.toArray n r m f u i (by simpa using p)<|by simp[j]) ⟨ho,c,v j⟩
 .refine Pm ⟨_,ho,rfl⟩ ⟨_,c,rfl⟩ MI Pd Nf Nj (M9 _ _)
   (tuple_addW2 t b d.toArray a.toArray n r m f u i (by simpa using p) (by simpa using j)<|by rw[J1,J1];exact k) ⟨ho,c,?_⟩
  rw[e];exact x j
def sIx (n d:O):L I->O
|none=>d
|some v=>if v<0 then(v+(n:I)).toNat else min v.toNat n
theorem Di (n d:O)(hd:d<=n)(o:L I):sIx n d o<=n:=by
 cases o with
 |none=>exact hd
 |some v=>
  show(if v<0 then(v+(n:I)).toNat else min v.toNat n)<=n;by_cases a:v<0
  .rw[OG a];lia
  .rw[OK a];exact Nat.min_le_right _ _
theorem nJ (v:I)(n d:O):(if v<0 then max (v+(n:I)) 0 else min v (n:I))=((sIx n d (Y v):O):I):=by
 show(if v<0 then max (v+(n:I)) 0 else min v (n:I))=(((if v<0 then(v+(n:I)).toNat else min v.toNat n):O):I);by_cases a:v<0
 .simp only[OG a];lia
 .simp only[OK a];lia
theorem lT (lo a:L I)(n:O):Builtin.Slice.sliceAdjust lo a 1 (n:I)=(((sIx n 0 lo:O):I),((sIx n n a:O):I)):=by
 have b:¬((1:I)<0):=by lia
 unfold Builtin.Slice.sliceAdjust;simp only[b,if_false];refine Prod.ext ?_ ?_
 .cases lo with
  |none=>rfl
  |some v=>exact nJ v n 0
 .cases a with
  |none=>rfl
  |some v=>exact nJ v n n
theorem mi (i j:O):Builtin.Slice.slicePlaces (i:I) (j:I) 1=j-i:=by
 unfold Builtin.Slice.slicePlaces;have a:(1:I)>0:=by lia
 simp only[a,Pw,Int.ediv_one];split<;>lia
theorem gP {v:B}{o:L I}{Q:L I->Jv->Prop}(p:KN v o)(h:Q o s):OJ (JA prog w) A (Builtin.Slice.slicePartIndex v) Q E s:=by
 cases p with
 |none=>exact slicePart_none h
 |int i t=>exact slicePart_int h
theorem sliceApplied_gen {f:OD}{d e:B}{lo b:L I}{n:O}{Q:I×I×O->Jv->Prop}(i:s.heap.IsSliceOf f d e .none)(j:KN d lo)(k:KN e b)
  (h:Q (((sIx n 0 lo:O):I),1,sIx n n b-sIx n 0 lo) s):OJ (JA prog w) A (Builtin.Slice.sliceApplied (.ref f)<|pure (n:I)) Q E s:=by
 obtain⟨os,c,g,a⟩:=id i;unfold Builtin.Slice.sliceApplied Builtin.Slice.sliceFields;refine JD<|JD<|Lh c a (x:=d) rfl (JD<|Lh c a (x:=e) rfl (JD<|Lh c a (x:=.none) rfl (JO ?_)));refine JD<|slicePart_none ?_;show OJ _ _ (if((1:I)==0)=Ju then _ else _) _ _ s;rw[OK<|by decide];refine JD<|gP j<|JD<|gP k<|JD<|JO ?_;show OJ _ _ (match Builtin.Slice.sliceAdjust lo b 1 (n:I) with|(lo,b)=>pure (lo,(1:I),Builtin.Slice.slicePlaces lo b 1)) _ _ s;rw[lT lo b n];show OJ _ _ (pure (((sIx n 0 lo:O):I),(1:I),Builtin.Slice.slicePlaces ((sIx n 0 lo:O):I) ((sIx n n b:O):I) 1)) _ _ s;rw[mi];exact JO h
theorem rC (a:OY B)(i k:O):((J6 k).filterMap λ(m:O)=>a[((i:I)+(m:I) * 1).toNat]?).toArray=((a.toList.drop i).take k).toArray:=by
 have e:(λ(m:O)=>a[((i:I)+(m:I) * 1).toNat]?)=λm=>a[i+m]?:=by
  funext m;have:((i:I)+(m:I) * 1).toNat=i+m:=by lia
  rw[this]
 rw[e];have:=pick_run a i k;rw[List.filterMap_map] at this;have e2:((λx=>a[x]?) ∘ λx=>i+x)=λm=>a[i+m]?:=rfl;rw[e2] at this;rw[this]
theorem getItem_tuple_cut {t j:OD}{a:OY B}{l n:B}{lo c:L I}{Q:B->Jv->Prop}(d:Pj s.heap t a)(k:s.heap.IsSliceOf j l n .none)(u:KN l lo)(v:KN n c)
  (r:¬(sIx a.size 0 lo=0/\sIx a.size a.size c=a.size))
  (h:Q (.ref s.heap.objs.size) {s with heap:=s.heap.push {cls:=.type "tuple",data:=.seq ((a.toList.drop<|sIx a.size 0 lo).take<|sIx a.size a.size c-sIx a.size 0 lo).toArray}})
  (p:a.size<=sizeLine):OJ (JA prog w) A (KO (.ref t)<|.ref j) Q E s:=by
 have b:sizeOk (.seq ((a.toList.drop (sIx a.size 0 lo)).take (sIx a.size a.size c-sIx a.size 0 lo)).toArray):=by show((a.toList.drop<|sIx a.size 0 lo).take<|sIx a.size a.size c-sIx a.size 0 lo).toArray.size<=sizeLine;rw[J1,MA,LD,Kr];lia
 have x:sIx a.size a.size c<=a.size:=Di _ _ (JE _) c;obtain⟨os,i,f,o⟩:=id k;have e:s.TypeIs (.ref j) "slice":=⟨os,i,f⟩;unfold KO
 try with_reducible refine wpAny_holding ?_
 first|refine JD (JO ?_)|skip
 refine JD<|wpAny_sequenceKey d.typeIs (by decide) ?_
 refine JD (Ma (name:=Str.ofString "__getitem__") d.typeIs LJ
  (L7 LJ d.typeIs entry_tuple_getitem ?_<|args_tuple_getitem _ _))
 show OJ _ _ (Builtin.Tuple.tupleItemsOf (.ref t) >>= _) _ _ s;refine JD<|tupleItemsOf_ d ?_;refine JD<|Pn e ?_;rw[OG<|by decide];refine JD<|sliceApplied_gen k u v ?_;have g:¬((((sIx a.size 0 lo:O):I)==0&&(1:I)==1&&(sIx a.size a.size c-sIx a.size 0 lo)==a.size)=Ju):=by intro q;rw[JM,JM] at q;have y:((sIx a.size 0 lo:O):I)=0:=eq_of_beq q.1.1;have z:sIx a.size a.size c-sIx a.size 0 lo=a.size:=eq_of_beq q.2;exact r ⟨by lia,by lia⟩
 show OJ _ _ (if(((sIx a.size 0 lo:O):I)==0&&(1:I)==1&&(sIx a.size a.size c-sIx a.size 0 lo)==a.size)=Ju then _ else _) _ _ s;rw[OK g,rC]
 first
  |exact JD (m:=Builtin.Tuple.tupleExact _)<|Lc (JO ⟨_,rfl,JO h⟩) b
  |exact JD (m:=Builtin.Tuple.tupleExact _)<|Lc (JD<|JO<|JO ⟨_,rfl,JO h⟩) b
  |exact JD<|JD (m:=Builtin.Tuple.tupleExact _)<|Lc (JO<|JO ⟨_,rfl,JO h⟩) b
  |exact JD<|JD (m:=Builtin.Tuple.tupleExact _)<|Lc (JO ⟨_,rfl,JO h⟩) b
end
end HT
namespace L2
open PySem PySem.Spec PyProof.Rows
abbrev TO:=St->Hp->(L I->Hp->Prop)->Prop
def PO (X:Cx)(e:L ON)(t:TO):Prop:=
 ∀(a:U<|OD×Obj) (s:Jv) (b:St) (H:Hp) (Q:L I->Hp->Prop),Inv X a b H s->t b H Q ->
  OJ (JA X.prog X.w) X.A (evalPart e X.env) (λu d=>∃o c,Inv X a b c d/\KN u o/\Q o c) X.xe s
def vM:TO:=λ_ H Q=>Q J H
def Hb (t:TE):TO:=λb H Q=>t b H λx a=>∃i,x=.int i/\Q (Y i) a
section
variable {X:Cx}{e:ON}{te:TE}{lo hi:L ON}{tl th:TO}{pos p2:Pos}
theorem yX:PO X J vM:=by intro b s c H Q a h;rw[evalPart_none];exact JO ⟨J,H,a,.none,h⟩
theorem xU (h:PE X e te):PO X (Y e) (Hb te):=by intro b s j H Q a f;rw[evalPart_some];refine thn (h b s j H _ a f) λu k ⟨x,c,d,r1,g⟩=>?_;obtain⟨i,rfl,q⟩:=g;obtain⟨t,rfl⟩:=r1;exact⟨Y i,c,d,.int i t,q⟩
def SlR (X:Cx)(r:V->L I->L I->Hp->VK->Prop):Prop:=
 ∀(a:U<|OD×Obj) (s:Jv) (f:St) (H:Hp) (x:V) (v c d:B) (lo hi:L I) (b:OD) (Q:VK),Inv X a f H s->RelV x v->s.heap.IsSliceOf b c d .none->KN c lo->KN d hi->r x lo hi H Q ->
  ∃T id,typeLookup (.type T) "__getitem__"=pure (Y<|.builtin id)/\s.TypeIs v T/\OJ (JA X.prog X.w) X.A (KO v<|.ref b) (EP X a f Q) X.xe s
theorem SlR.or {r g:V->L I->L I->Hp->VK->Prop}(h:SlR X r)(n:SlR X g):SlR X (λx lo hi H Q=>r x lo hi H Q\/g x lo hi H Q):=by
 intro b s m H x v k l lo hi j Q a i c d f q;rcases q with q|q
 .exact h b s m H x v k l lo hi j Q a i c d f q
 .exact n b s m H x v k l lo hi j Q a i c d f q
def tSl (r:V->L I->L I->Hp->VK->Prop)(te:TE)(tl th:TO):TE:=λa H Q=>te a H λx b=>tl a b λl c=>th a c λu d=>r x l u d Q
theorem qz {r:V->L I->L I->Hp->VK->Prop}(F:SlR X r)(y:PE X e te)(D:PO X lo tl)(M:PO X hi th):PE X (.Subscript e (.Slice lo hi J p2) pos) (tSl r te tl th):=by intro c s f H Q a h;refine Subscript_<|thn (y c s f H _ a h) λv s1 ⟨x,k,n,r1,Z⟩=>?_;refine wpAny_Slice<|thn (D c s1 f k _ n Z) λg s2 ⟨l,m,o,N,q2⟩=>thn (M c s2 f m _ o q2) λi d ⟨u,j,p,P,q3⟩=>?_;rw[evalPart_none];refine JO ?_;have t:Inv X c f j {d with heap:=d.heap.push {cls:=.type "slice",data:=.fields #[g,i,.none]}}:=p.kept (t':=d.toks) λb ob q=>Heap.get?_push_of_some _ q;obtain⟨T,id,hT,G,z⟩:=F c {d with heap:=d.heap.push {cls:=.type "slice",data:=.fields #[g,i,.none]}} f j x v g i l u d.heap.objs.size Q t r1 (Heap.IsSliceOf.new ..) N P q3;show OJ (JA X.prog X.w) X.A (Pe e (.Slice lo hi J p2) v<|.ref d.heap.objs.size) (EP X c f Q) X.xe {d with heap:=d.heap.push {cls:=.type "slice",data:=.fields #[g,i,.none]}};exact tail_any (ops:=[.ref d.heap.objs.size,v]) G hT z<|by with_unfolding_all rfl
def eD (a:U V)(lo hi:L I):U V:=(a.drop<|HT.sIx a.length 0 lo).take<|HT.sIx a.length a.length hi-HT.sIx a.length 0 lo
theorem cq (a:U V)(lo hi:L I):(eD a lo hi).length<=a.length:=by unfold eD;rw[MA,LD];lia
def Jf (K:Jw):V->L I->L I->Hp->VK->Prop:=λx lo hi H Q=>∃a b,x=.ref a/\SqT K H a b /\
 ¬(HT.sIx b.length 0 lo=0/\HT.sIx b.length b.length hi=b.length)/\∀p,H p=J->Q (.ref p) (upd H p<|.tup<|eD b lo hi)
theorem BI:SlR X (Jf X.K):=by
 intro k s A H x v y z lo hi w Q c t l n p h;obtain⟨a,f,rfl,hx,m,q⟩:=h;cases t;obtain⟨g,r,i,j⟩:=c.tuple hx;have d:g.toArray.size=f.length:=by rw[J1];exact r.length.symm
 refine⟨"tuple",_,LJ.lookup,i.typeIs,?_⟩;refine HT.getItem_tuple_cut i l n p (by rw[d];exact m) ?_ (by rw[d];exact j);rw[d];refine⟨.ref s.heap.objs.size,_,c.laid (t':=s.toks) (o:=.tup<|eD f lo hi) (λb u q=>Heap.get?_push_of_some _ q) (JE _) ?_,rfl,q _<|c.hok.fresh<|JE _⟩;exact⟨JP (cq f lo hi) j,_,(r.drop<|HT.sIx f.length 0 lo).take<|HT.sIx f.length f.length hi-HT.sIx f.length 0 lo,IsTup.new _ _⟩
def Fw (K:Jw):R2:=λx y H Q=>∃a b d c,x=.ref a/\y=.ref b/\SqT K H a d/\SqT K H b c/\d≠[]/\d.length+c.length<=sizeLine /\
 (c=[]->Q (.ref a) H)/\(c≠[]->∀p,H p=J->Q (.ref p) (upd H p<|.tup<|d++c))
theorem Vals.nil_iff {b:U V}{a:U B}(r:Vals b a):a=[] ↔ b=[]:=by
 cases r with
 |nil=>simp
 |cons _ _=>simp
theorem yy:OpR X (Kk .Add) (Fw X.K):=by intro g s F H x y v u Q c p r h;obtain⟨a,b,t,A,rfl,rfl,i,j,hx,d,m,n⟩:=h;cases p;cases r;obtain⟨k,r1,l,_⟩:=c.tuple i;obtain⟨f,r2,p2,_⟩:=c.tuple j;refine HT.cat_tup l p2 (λz=>hx<|r1.nil_iff.mp z) (λz=>⟨.ref a,H,c,rfl,m<|r2.nil_iff.mp z⟩) (λz=>?_) (by rw[<- r1.length,<- r2.length];exact d);refine⟨.ref s.heap.objs.size,_,c.laid (t':=s.toks) (o:=.tup<|t++A) (λb D q=>Heap.get?_push_of_some _ q) (JE _) ?_,rfl,n (λw=>z<|r2.nil_iff.mpr w) _<|c.hok.fresh<|JE _⟩;exact⟨by rw[Jx];exact d,_,r1.append r2,IsTup.new _ _⟩
end
def ixN (n:O)(i:I):L O:=if 0<=i then(if i<n then Y i.toNat else J) else if -(n:I)<=i then Y (i+n).toNat else J
def atI {b:Type}(a:U b)(i:I):L b:=(ixN a.length i).bind λj=>a[j]?
theorem yN {n:O}{i:I}{j:O}(h:ixN n i=Y j):seqIndex? i n=Y j/\j<n/\-(n:I)<=i/\i<n:=by
 unfold ixN at h;by_cases b:0<=i
 .rw [OG b] at h;by_cases a:i<n
  .rw [OG a] at h;have e:i.toNat=j:=Kg h;exact⟨by rw[seqIndex_of b a,e],by lia,by lia,a⟩
  .rw[OK a] at h;cases h
 .rw [OK b] at h;by_cases a:-(n:I)<=i
  .rw [OG a] at h;have e:(i+n).toNat=j:=Kg h;exact⟨by rw[seqIndex_neg (by lia) a,e],by lia,a,by lia⟩
  .rw[OK a] at h;cases h
theorem i2 {b:Type}{a:U b}{i:I}{v:b}(h:atI a i=Y v):∃j,seqIndex? i a.length=Y j/\a[j]?=Y v/\j<a.length/\-(a.length:I)<=i/\i<a.length:=by
 unfold atI at h;cases e:ixN a.length i with
 |none=>rw[e] at h;cases h
 |some j=>rw[e] at h;obtain⟨c,d,f,g⟩:=yN e;exact⟨j,c,h,d,f,g⟩
def eQ (b:ON):Prop:=∀o i,L4 b Jt o i=operate [o,i] (KO o i)
def IxR (X:Cx)(r:R2):Prop:=
 ∀(c a:ON) (b:U<|OD×Obj) (s:Jv) (d:St) (H:Hp) (x y:V) (v u:B) (Q:VK),Inv X b d H s->RelV x v->RelV y u->r x y H Q ->
  L4 a Jt v u=operate [v,u] (KO v u)->OJ (JA X.prog X.w) X.A (Pe c a v u) (EP X b d Q) X.xe s
def MtR (X:Cx)(id:OL)(r:V->U V->Hp->VK->Prop):Prop:=
 ∀(a:U<|OD×Obj) (s:Jv) (d:St) (H:Hp) (x:V) (c:U V) (v:B) (b:U B) (Q:VK),Inv X a d H s->RelV x v->Vals c b->r x c H Q ->
  OJ (JA X.prog X.w) X.A (call (.builtin id) (v::b)) (EP X a d Q) X.xe s
section
variable {X:Cx}{a b:ON}{ta tb:TE}{pos:Pos}
theorem IxR.or {r i:R2}(h:IxR X r)(m:IxR X i):IxR X (λx y H Q=>r x y H Q\/i x y H Q):=by
 intro e d f s l H x y v u Q c j k q g;rcases q with q|q
 .exact h e d f s l H x y v u Q c j k q g
 .exact m e d f s l H x y v u Q c j k q g
theorem tH {r:R2}(j:IxR X r)(g:PE X a ta)(i:PE X b tb)(k:eQ b):PE X (.Subscript a b pos) (tOp r ta tb):=by intro d s o H Q c h;exact Subscript_<|DK g i c h λv u n x y e f l m q=>j a b d n o e x y v u Q f l m q<|k _ _
def Ic (K:Jw):R2:=λx y H Q=>∃p c i v,x=.ref p/\y=.int i/\SqL K H p c/\atI c i=Y v/\Q v H
def IU (K:Jw):R2:=λx y H Q=>∃p c i v,x=.ref p/\y=.int i/\SqT K H p c/\atI c i=Y v/\Q v H
noncomputable def IZ:R2:=λx y H Q=>∃z i c,x=.str z/\y=.int i/\z.length<=sizeLine/\atI z.cps.toList i=Y c/\Q (.str ⟨#[c]⟩) H
theorem zd:IxR X (Ic X.K):=by
 intro o n d s G H x y v u Q c rx ry h F;obtain⟨p,xs,i,z,rfl,rfl,hq,Z,q⟩:=h;cases rx;obtain⟨t,rfl⟩:=ry;obtain⟨k,r,l,hz⟩:=c.list hq;obtain⟨j,f,M,h3,N,P⟩:=i2 Z;obtain⟨w,A,m⟩:=r.get M;have hl:=r.length;have hn:=gQ;have e:EP X d G Q w s:=⟨z,H,c,m,q⟩;by_cases D:0<=i
 .have g:i.toNat=j:=by rw[seqIndex_of D P] at f;exact Kg f
  exact item_listR l.isList D (by lia) (by rw[g];simpa using A) e F
 .have g:(i+(k.toArray.size:I)).toNat=j:=by rw[seqIndex_neg (by lia) N] at f;rw[J1,<- hl];exact Kg f
  exact O4 (x:=w) l.isList.typeIs slot_list_getitem.lookup
   (wpAny_getItem_list_neg (Q:=λr s'=>r=w/\EP X d G Q r s') l.isList (by lia) (by rw[J1]<;>lia) (by lia) (by rw[g];simpa using A) ⟨rfl,e⟩) F
theorem Cd:IxR X (IU X.K):=by
 intro k g d s m H x y v u Q c P Z h M;obtain⟨p,xs,i,z,rfl,rfl,G,D,q⟩:=h;cases P;obtain⟨t,rfl⟩:=Z;obtain⟨N,r,l,hz⟩:=c.tuple G;obtain⟨j,o,A,h3,h4,h5⟩:=i2 D;obtain⟨w,n,f⟩:=r.get A;have F:=r.length;have hn:=gQ;have e:EP X d m Q w s:=⟨z,H,c,f,q⟩
 exact O4 (x:=w) l.typeIs slot_tuple_getitem.lookup
  (getItem_tuple (j:=j) (Q:=λr s'=>r=w/\EP X d m Q r s') l (by lia) (by lia) (by rw[J1,<- F];exact o) (by simpa using n) ⟨rfl,e⟩) M
theorem Ck:IxR X IZ:=by
 intro f e k s N H x y v u Q d w A h r;obtain⟨z,i,c,rfl,rfl,G,o,q⟩:=h;obtain⟨t,rfl⟩:=w;obtain⟨M,rfl⟩:=A;obtain⟨j,g,l,D,m,n⟩:=i2 o;have p:z.cps.toList.length=z.length:=by simp[Str.length]
 rw[p] at g m n;have F:=gQ
 exact tail_any (LO s z t) slot_str_getitem.lookup (getItem_str (c:=c) (by
  have e1:decide (i < -(2 ^ 63:I))=false:=OR (by lia);have e2:decide (i >= 2 ^ 63)=false:=OR (by lia);rw[e1,e2,Nx]) (by rw[g];simpa using l) ⟨.str ⟨#[c]⟩,H,d.tok _,⟨_,rfl⟩,q⟩) r
theorem jh (lo c:L I)(n:O):(Lg lo c J n).1=((HT.sIx n 0 lo:O):I)/\(Lg lo c J n).2.1=((HT.sIx n n c:O):I)/\(Lg lo c J n).2.2=1:=by
 refine⟨?_,?_,rfl⟩
 .cases lo with
  |none=>simp[Lg,HT.sIx]
  |some i=>
   simp only[Lg,HT.sIx,Ol,show(1:I)>0 by decide,Pw];by_cases h:i<0
   .simp only[h,Pw]<;>lia
   .simp only[h,if_false]<;>lia
 .cases c with
  |none=>simp[Lg,HT.sIx]
  |some i=>
   simp only[Lg,HT.sIx,Ol,show(1:I)>0 by decide,Pw];by_cases h:i<0
   .simp only[h,Pw]<;>lia
   .simp only[h,if_false]<;>lia
theorem hZ (c:U B)(lo d:L I):slicePick c.toArray lo d J=((c.drop<|HT.sIx c.length 0 lo).take<|HT.sIx c.length c.length d-HT.sIx c.length 0 lo).toArray:=by obtain⟨e,f,g⟩:=jh lo d c.toArray.size;unfold slicePick;rw[e,f,g];simp only[sliceRange_one,pick_run,J1]<;>rfl
def AM (K:Jw):V->L I->L I->Hp->VK->Prop:=λx lo d H Q=>∃a c,x=.ref a/\SqL K H a c/\∀p,H p=J->Q (.ref p) (upd H p<|.lst<|eD c lo d)
theorem sl_list:SlR X (AM X.K):=by intro i s z H x v w y lo f u Q c p j m n h;obtain⟨a,d,rfl,hx,q⟩:=h;cases p;obtain⟨l,r,g,k⟩:=c.list hx;have e:=r.length;refine⟨"list",_,slot_list_getitem.lookup,g.isList.typeIs,?_⟩;refine wpAny_getItem_list_slice g.isList j m n .none (by simp) ?_ (by rw[J1]<;>lia);rw[hZ,<- e];refine⟨.ref s.heap.objs.size,_,c.laid (t':=s.toks) (o:=.lst<|eD d lo f) (λb t q=>Heap.get?_push_of_some _ q) (JE _) ?_,rfl,q _<|c.hok.fresh<|JE _⟩;exact⟨JP (cq d lo f) k,_,0,(r.drop<|HT.sIx d.length 0 lo).take<|HT.sIx d.length d.length f-HT.sIx d.length 0 lo,Heap.get?_push_size _ rfl⟩
noncomputable def dP:V->OF
|.non=>Ju
|.bl _=>Ju
|.int _=>Ju
|.str _=>Ju
|_=>Jt
noncomputable def eqV:V->V->OF
|.non,.non=>Ju
|.bl a,.bl b=>a==b
|.bl a,.int b=>(if a then 1 else 0)==b
|.int a,.bl b=>a==(if b then 1 else 0)
|.int a,.int b=>a==b
|.str a,.str b=>a==b
|_,_=>Jt
theorem DW {A:JU}{s:Jv}{y x:V}{u v:B}(f:RelV y u)(c:RelV x v)(g:dP y=Ju)(e:dP x=Ju):SeqAt.EqAt A s u v (eqV y x):=by
 cases y with
 |non=>
  cases f;cases x with
  |non=>cases c;exact SeqAt.EqAt.same _
  |bl b=>cases c;exact SeqAt.EqAt.none_bool b
  |int b=>obtain⟨t,rfl⟩:=c;exact SeqAt.EqAt.none_int b t
  |str b=>obtain⟨t,rfl⟩:=c;exact SeqAt.EqAt.none_str b t
  |_=>exact OH (show Jt=Ju from e) Ka
 |bl a=>
  cases f;cases x with
  |non=>cases c;exact SeqAt.EqAt.bool_none a
  |bl b=>cases c;exact SeqAt.EqAt.bool_bool a b
  |int b=>obtain⟨t,rfl⟩:=c;exact SeqAt.EqAt.bool_int a b t
  |str b=>obtain⟨t,rfl⟩:=c;exact SeqAt.EqAt.bool_str a b t
  |_=>exact OH (show Jt=Ju from e) Ka
 |int a=>
  obtain⟨d,rfl⟩:=f;cases x with
  |non=>cases c;exact SeqAt.EqAt.int_none a d
  |bl b=>cases c;exact SeqAt.EqAt.int_bool a d b
  |int b=>obtain⟨t,rfl⟩:=c;exact SeqAt.EqAt.int_int a d b t
  |str b=>obtain⟨t,rfl⟩:=c;exact SeqAt.EqAt.int_str a d b t
  |_=>exact OH (show Jt=Ju from e) Ka
 |str a=>
  obtain⟨d,rfl⟩:=f;cases x with
  |non=>cases c;exact SeqAt.EqAt.str_none a d
  |bl b=>cases c;exact SeqAt.EqAt.str_bool a d b
  |int b=>obtain⟨t,rfl⟩:=c;exact SeqAt.EqAt.str_int a d b t
  |str b=>obtain⟨t,rfl⟩:=c;exact SeqAt.EqAt.str_str a d b t
  |_=>exact OH (show Jt=Ju from e) Ka
 |_=>exact OH (show Jt=Ju from g) Ka
def eqU (x:V)(u:B):OF:=match u with
|.none=>eqV .non x
|.bool b=>eqV (.bl b) x
|.int i _=>eqV (.int i) x
|.str z _=>eqV (.str z) x
|_=>Jt
theorem rq {x y:V}{u:B}(r:RelV y u)(f:dP y=Ju):eqU x u=eqV y x:=by
 cases y with
 |non=>cases r;rfl
 |bl b=>cases r;rfl
 |int i=>obtain⟨t,rfl⟩:=r;rfl
 |str z=>obtain⟨t,rfl⟩:=r;rfl
 |_=>exact OH (show Jt=Ju from f) Ka
theorem eR {x:V}:∀{c:U V} {d:U B},Vals c d->c.all dP=Ju->d.any (eqU x)=c.any λy=>eqV y x
|_,_,.nil,_=>rfl
|y::c,u::d,.cons r t,f=>by rw[LI,JM] at f;rw[KL,KL,rq r f.1,eR t f.2]
theorem dg {A:JU}{s:Jv}{x:V}{v:B}(h:RelV x v)(g:dP x=Ju):∀{e:U V} {d:U B},Vals e d->e.all dP=Ju->∀u∈d,SeqAt.EqAt A s u v<|eqU x u
|_,_,.nil,_=>λu c=>by cases c
|y::e,u::d,.cons r t,f=>λi c=>by
 rw[LI,JM] at f;rcases JX.mp c with rfl|c
 .rw[rq r f.1];exact DW r h f.1 g
 .exact dg h g t f.2 i c
def inV (x:V)(c:U V):OF:=c.any λy=>eqV y x
def rIn (K:Jw)(d:OF):R2:=λx y H Q=>∃p c,y=.ref p/\(SqL K H p c\/SqT K H p c)/\dP x=Ju/\c.all dP=Ju/\Q (.bl<|if d then !inV x c else inV x c) H
theorem iz:OpR X (Kh .In) (rIn X.K Jt):=by
 intro j s o H x y v u Q c k m h;obtain⟨p,n,rfl,e,i,fs,q⟩:=h;cases m;rcases e with e|e
 .obtain ⟨d,r,g,l⟩:=c.list e;refine SeqAt.in_listAt (eqU x) g.isList (λw f=>dg k i r fs w<|by simpa using f) ⟨.bl _,H,c,rfl,?_⟩;rw[show d.toArray.any (eqU x)=d.any (eqU x) by simp,eR r fs];exact q
 .obtain ⟨d,r,g,l⟩:=c.tuple e;refine SeqAt.in_tupleAt (eqU x) g (λw f=>dg k i r fs w<|by simpa using f) ⟨.bl _,H,c,rfl,?_⟩;rw[show d.toArray.any (eqU x)=d.any (eqU x) by simp,eR r fs];exact q
theorem jF:OpR X (Kh .NotIn) (rIn X.K Ju):=by
 intro j s o H x y v u Q c k m h;obtain⟨p,n,rfl,e,i,fs,q⟩:=h;cases m;rcases e with e|e
 .obtain ⟨d,r,g,l⟩:=c.list e;refine SeqAt.notIn_listAt (eqU x) g.isList (λw f=>dg k i r fs w<|by simpa using f) ⟨.bl _,H,c,rfl,?_⟩;rw[show d.toArray.any (eqU x)=d.any (eqU x) by simp,eR r fs];exact q
 .obtain ⟨d,r,g,l⟩:=c.tuple e;refine SeqAt.notIn_tupleAt (eqU x) g (λw f=>dg k i r fs w<|by simpa using f) ⟨.bl _,H,c,rfl,?_⟩;rw[show d.toArray.any (eqU x)=d.any (eqU x) by simp,eR r fs];exact q
theorem i1:df X (.type "list") (λF H Q=>∃p j,F=[.ref p]/\(SqL X.K H p j\/SqT X.K H p j)/\∀l,H l=J->Q (.ref l) (upd H l<|.lst j)):=by
 intro y s M H F N Q c r h;obtain⟨p,j,rfl,t,q⟩:=h;obtain⟨u,rfl,G⟩:=fK r;cases G
 have k:∀(d:U B),Vals j d->j.length<=sizeLine->∀(f:OT) (g:O),(∀b D,s.heap.get? b=Y D->f.get? b=Y D) ->
   f.get? s.heap.objs.size=Y {cls:=.type "list",dict:=J,data:=.seq d.toArray g,slots:=#[]}->EP X y M Q (.ref s.heap.objs.size) {s with heap:=f}:=λd i v f g x e=>
  ⟨.ref s.heap.objs.size,_,c.laid (t':=s.toks) x (JE _)<|show ObjOk X.prog X.w _ f _ (.lst j) from⟨v,d,g,i,e⟩,rfl,q _<|c.hok.fresh<|JE _⟩
 rcases t with t|t
 .obtain ⟨d,i,A,v⟩:=c.list t;have m:=i.length;obtain⟨o,ho,z,n,hd⟩:=A.isList;exact call_list_seq p (.inl rfl) ho z hd (λf g x e=>k d i v f g x e)<|by simp only[J1]<;>lia
 .obtain ⟨d,i,A,v⟩:=c.tuple t;have m:=i.length;obtain⟨o,ho,z,n,hd⟩:=A;exact call_list_seq p (.inr rfl) ho z hd (λf g x e=>k d i v f g x e)<|by simp only[J1]<;>lia
theorem ik:df X (.type "tuple") (λx H Q=>∃p g,x=[.ref p]/\((SqL X.K H p g/\∀l,H l=J->Q (.ref l) (upd H l<|.tup g))\/(SqT X.K H p g/\Q (.ref p) H))):=by
 intro d s y H x F Q c r h;obtain⟨p,g,rfl,h⟩:=h;obtain⟨u,rfl,D⟩:=fK r;cases D;rcases h with⟨j,q⟩|⟨j,q⟩
 .obtain ⟨f,m,k,v⟩:=c.list j;have t:=m.length;refine call_tuple_list k.isList (λi A=>?_) (by simp only[J1]<;>lia);have n:Inv X d y H {s with heap:=i}:=c.kept (t':=s.toks) A
  have z:Inv X d y (upd H i.objs.size (.tup g)) {s with heap:=i.push {cls:=.type "tuple",data:=.seq f.toArray}}:=
   n.laid (t':=s.toks) (λb o e=>Heap.get?_push_of_some _ e) (JE _) (show ObjOk X.prog X.w _ _ _ (.tup g) from⟨v,f,m,IsTup.new _ _⟩)
  exact⟨.ref i.objs.size,_,z,rfl,q _<|n.hok.fresh<|JE _⟩
 .obtain ⟨f,m,k,v⟩:=c.tuple j;exact call_tuple_same k ⟨.ref p,H,c,rfl,q⟩
def tyV (K:Jw)(T:OL)(x:V)(H:Hp):Prop:=match x with
|.str _=>T="str"
|.int _=>T="int"
| .ref p=>(T="list"/\∃ d,SqL K H p d)\/(T="tuple"/\∃ o,K.lookup p=Y o/\o.cls=.type "tuple"/\o.dict=J) \/
  (T="dict"/\((∃c,H p=Y (.dK c))\/∃c,H p=Y (.dT c)))\/(T="set"/\∃S n,H p=Y (.set S n))
|_=>OS
theorem Cn {g:U<|OD×Obj}{w:St}{H:Hp}{s:Jv}{T:OL}{x:V}{v:B}(d:Inv X g w H s)(r:RelV x v)(ty:tyV X.K T x H):
  s.TypeIs v T/\∀a,v=.ref a->∃j,s.heap.get? a=Y j/\j.dict=none:=by
 cases x with
 |str z=>obtain⟨t,rfl⟩:=r;cases(show T="str" from ty);exact⟨LO s z t,λ_ e=>nomatch e⟩
 |int i=>obtain⟨t,rfl⟩:=r;cases(show T="int" from ty);exact⟨typeIs_int s i t,λ_ e=>nomatch e⟩
 | ref p =>
  cases r;rcases ty with⟨rfl,y,m⟩|⟨rfl,o,hk,l,hd⟩|⟨rfl,hk⟩|⟨rfl,S,n,hk⟩
  .obtain ⟨u,_,k,_⟩:=d.list m;refine⟨k.isList.typeIs,λa e=>?_⟩;cases e;obtain⟨o,n,e,c,hd,_⟩:=k;exact⟨o,e,hd⟩
  .refine ⟨⟨o,d.kIn p o hk,l⟩,fun a e=>?_⟩;cases e;exact⟨o,d.kIn _ o hk,hd⟩
  .have z:∃ o,s.heap.get? p=Y o/\o.ExactDict:=by
    rcases hk with⟨h,hk⟩|⟨h,hk⟩
    .obtain ⟨_,_,_,_,o,_,_,e,f,_⟩:=d.hok p _ hk;exact⟨o,e,f⟩
    .obtain ⟨_,_,_,_,o,_,_,e,f,_⟩:=d.hok p _ hk;exact⟨o,e,f⟩
   obtain⟨o,e,f⟩:=z;refine⟨⟨o,e,f.1⟩,λa e2=>?_⟩;cases e2;exact⟨o,e,f.2.1⟩
  .obtain ⟨o,_,_,_,e,f,_⟩:=d.hok p _ hk;refine⟨⟨o,e,f.1⟩,λa e2=>?_⟩;cases e2;exact⟨o,e,f.2.1⟩
 |_=>exact KA ty
def tBM (K:Jw)(T:OL)(r:V->U V->Hp->VK->Prop)(to:TE)(t:TA):TE:=λd H Q=>to d H λx c=>tyV K T x c/\t d c λf e=>r x f e Q
variable {o e:ON}{es:U ON}{to:TE}{t:TA}{name:Str}{apos cpos:Pos}{T id:OL}{r:V->U V->Hp->VK->Prop}
theorem nr (M:PlainAttrs T)(k:Slot T name id)(l:typeOf (.builtin id)=pure (.type "method_descriptor"))(F:MtR X id r)(ho:PE X o to)(D:PA X (e::es) t)
  (g:Li o name X.env (OV o X.env)=OV o X.env:=by rfl)
  (j:((JZ cpos<|Jz (e::es) X.env).all (λx=>!x.1)&&(Lk cpos<|Lf [] X.env).all (λx=>x.1.isSome)
  &&decide ((e::es).length+([]:U Km).length+(if([]:U Km).isEmpty then 0 else 1)<30))=true:=by rfl)
  (i:(apos.endLine==cpos.line)=true:=by rfl) (G:Jz (e::es) X.env=(Jt,OV e X.env)::Jz es X.env:=by rfl) (f:(JZ cpos<|Jz es X.env).any (·.1)=false:=by rfl):
  PE X (.Call (.Attribute o name apos) (e::es) [] cpos) (tBM X.K T r to t):=by
 intro d s m H Q c h;refine wpAny_Call_method_late g j i rfl (thn (ho d s m H _ c h) λv Z ⟨x,u,n,r1,ty,N⟩=>?_);obtain⟨z,A⟩:=Cn n r1 ty;refine⟨T,id,M,k,l,z,A,?_⟩;have p:=D cpos d Z m u _ n N;rw[G] at p ⊢;refine Calls.callWith_builtin (by show(Jt || (JZ cpos<|Jz es X.env).any (·.1))=Jt;rw[f]<;>rfl)<|Calls.evalArgs_plain ?_;exact thn p λus s2 ⟨vs,w,y,r2,P⟩=>F d s2 m w x vs v us Q y r1 r2 P
end
def MtM (X:Cx)(id:OL)(r:V->U V->Hp->VK->Prop):Prop:=
 ∀(a:U<|OD×Obj) (s:Jv) (d:St) (H:Hp) (x:V) (c:U V) (v:B) (b:U B) (Q:VK),Inv X a d H s->RelV x v->Vals c b->r x c H Q ->
  OJ (JA X.prog X.w) X.A (call (.builtin id) (v::b)) (EP X a d Q) X.xe s
theorem Vals.one:∀{x:V} {a:U B},Vals [x] a->∃u,a=[u]/\RelV x u
|_,_,.cons r .nil=>⟨_,rfl,r⟩
theorem Vals.eraseIdx:∀{b:U V} {a:U B} (i:O),Vals b a->Vals (b.eraseIdx i) (a.eraseIdx i)
|_,_,_,.nil=>.nil
|_,_,0,.cons _ t=>t
|_,_,i+1,.cons r t=>.cons r<|Vals.eraseIdx i t
theorem Vals.rep {b:U V}{a:U B}(h:Vals b a):∀k:O,Vals (JV k b).flatten (JV k a).flatten
|0=>.nil
|k+1=>by rw[K7,K7,Lr,Lr];exact Vals.append h<|Vals.rep h k
theorem iC {a:Type}:∀(l:U a) (i:O),(l.eraseIdx i).length<=l.length
|[],_=>JE _
|_::_,0=>MN _
|_::r,i+1=>MU<|iC r i
theorem iV (b:U B):∀(k:O) (a:U B),
 MM (λc d=>c++d) a.toArray (JV k b.toArray)=(a++(JV k b).flatten).toArray
|0,a=>by simp
| k+1,a=>by
 have e:a.toArray++b.toArray=(a++b).toArray:=by simp
 have e2:(a++b)++(JV k b).flatten=a++(JV (k+1) b).flatten:=by rw[K7,Lr,JN]
 rw[<- e2,<- iV b k (a++b),<- e,K7,NJ]
section
variable {X:Cx}{pins:U (OD×Obj)}{σ:St}{H:Hp}{s:Jv}{l b:OD}{xs ys zs:U V}
theorem Inv.lset {c its':U B}{n:O}{f:OY B->OY B}{m:O}(a:Inv X pins σ H s)(d:H l=Y (.lst xs))
  (e:s.heap.get? l=Y {cls:=.type "list",data:=.seq c.toArray n}) (h:f c.toArray=its'.toArray) (j:Vals ys its') (k:ys.length<=sizeLine):
  Inv X pins σ (upd H l<|.lst ys) {s with heap:=s.heap.update l<|Obj.mapSeq f,toks:=m}:=by
 have q:=PySem.IsL.update e f;rw[h] at q;refine a.write (x:=l) (e:=l) (by rw[d];exact trivial) (.inl rfl) (λo u g i=>(Heap.get?_update_other s.heap (Obj.mapSeq f)<|Kv g).trans i) ⟨_,q⟩ ?_;exact⟨k,its',_,j,q⟩
theorem Inv.lnew {its:U B}{t':O}(a:Inv X pins σ H s)(c:Vals ys its)(d:ys.length<=sizeLine):
  Inv X pins σ (upd H s.heap.objs.size<|.lst ys) {s with heap:=s.heap.push {cls:=.type "list",data:=.seq its.toArray},toks:=t'}:=
 a.laid (λ_ _ q=>Heap.get?_push_of_some _ q) (JE _) ⟨d,its,0,c,Heap.get?_push_size _ rfl⟩
theorem Inv.fresh (a:Inv X pins σ H s):H s.heap.objs.size=none:=a.hok.fresh<|JE _
theorem Inv.lstM (a:Inv X pins σ H s)(d:H l=Y (.lst xs)):xs.length<=sizeLine/\∃(c:U B) (n:O),Vals xs c/\xs.length=c.length/\s.heap.get? l=Y {cls:=.type "list",data:=.seq c.toArray n}:=by obtain⟨z,c,n,r,e⟩:=a.hok l _ d;exact⟨z,c,n,r,r.length,e⟩
theorem rW {n:O}(h:n<=sizeLine):Builtin.List.listTooLong n=false:=by unfold Builtin.List.listTooLong;exact OR<|by lia
end
section
variable {X:Cx}
def v7:V->U V->Hp->VK->Prop:=λx b H Q=>∃l a y,x=.ref l/\b=[y]/\H l=Y (.lst a)/\a.length<sizeLine/\Q .non (upd H l<|.lst<|a++[y])
theorem pM:MtM X "list.append" v7:=by intro d s t H x o v m Q a i g h;obtain⟨l,p,y,rfl,rfl,c,k,q⟩:=h;cases i;obtain⟨u,rfl,f⟩:=g.one;obtain⟨z,b,n,r,j,e⟩:=a.lstM c;refine Le F.slot_list_append ⟨_,e,rfl⟩ F.entry_list_append (F.args_list_append_2 _ _) (PySem.list_append l b.toArray n u<|by rw[J1];lia) ⟨e,?_⟩;refine⟨.non,_,a.lset (its':=b++[u]) c e (by simp) (r.append<|.cons f .nil) ?_,rfl,q⟩;rw[Jx,JL];lia
def AF:V->U V->Hp->VK->Prop:=λx b H Q=>∃l a i k y,x=.ref l/\b=[.int i]/\H l=Y (.lst a)/\-(2 ^ 63)<=i/\i<2 ^ 63/\seqIndex? i a.length=Y k/\a[k]?=Y y/\Q y (upd H l<|.lst<|a.eraseIdx k)
theorem vD:MtM X "list.pop" AF:=by
 intro f s Z H x P v N Q a G D h;obtain⟨l,M,i,k,y,rfl,rfl,d,g,j,hk,p,q⟩:=h;cases G;obtain⟨u,rfl,A⟩:=D.one;obtain⟨t,rfl⟩:=A;obtain⟨z,b,n,r,m,e⟩:=a.lstM d;obtain⟨w,o,c⟩:=r.get p
 refine Le F.slot_list_pop ⟨_,e,rfl⟩ F.entry_list_pop (F.args_list_pop_2 _ _)
  (MeetsSeq.list_pop_at l b.toArray n i t k w (fitsIndex_both g j) (by rw[J1,<- m];exact hk) (by rw[<- Array.getElem?_toList];exact o)<|by rw[J1];lia) ⟨e,?_⟩
 refine⟨y,_,a.lset (its':=b.eraseIdx k) d e ?_ (r.eraseIdx k) ?_,c,q⟩
 .show b.toArray.eraseIdxIfInBounds k=(b.eraseIdx k).toArray;rw[List.eraseIdxIfInBounds_toArray]
 .have:=iC M k;lia
def GW:R2:=λx y H Q=>∃l b a c,x=.ref l/\y=.ref b/\H l=Y (.lst a)/\H b=Y (.lst c)/\a.length+c.length<=sizeLine/\∀p,H p=J->Q (.ref p) (upd H p<|.lst<|a++c)
theorem op_cat:OpR X (Kk .Add) GW:=by
 intro f s F H x y v u Q a m o h;obtain⟨l,b,A,D,rfl,rfl,j,i,t,q⟩:=h;cases m;cases o;obtain⟨z,d,n,r,p,e⟩:=a.lstM j;obtain⟨z2,c,w,r2,k,e2⟩:=a.lstM i;refine PySem.P.add_list e e2 ?_ (by rw[J1,J1];lia);have g:d.toArray++c.toArray=(d++c).toArray:=by simp
 rw[g];exact⟨.ref _,_,a.lnew (t':=s.toks) (r.append r2)<|by rw[Jx];lia,rfl,q _ a.fresh⟩
def FD:R2:=λx y H Q=>∃l k a,x=.ref l/\y=.int k/\H l=Y (.lst a)/\-(2 ^ 63)<=k/\k<2 ^ 63/\a.length * k.toNat<=sizeLine /\
 ∀p,H p=J->Q (.ref p) (upd H p<|.lst (JV k.toNat a).flatten)
theorem wx {c:Type}(a:U c)(k:O):(JV k a).flatten.length=k * a.length:=by
 induction k with
 |zero=>simp
 |succ k b=>rw[K7,Lr,Jx,b,Nat.succ_mul,Mg]
theorem Dd:OpR X (Kk .Mult) FD:=by
 intro A s σ H x y v u Q b Z ry h;obtain⟨l,k,xs,rfl,rfl,N,G,M,w,q⟩:=h;cases Z;obtain⟨t,rfl⟩:=ry;obtain⟨z,c,n,r,P,e⟩:=b.lstM N;have i:c.toArray.size * k.toNat<=sizeLine:=by rw[J1,<- P];exact w
 have f:¬c.toArray.size * k.toNat>(2 ^ 63-1) / 8:=by
  have:(sizeLine:O)<=(2 ^ 63-1) / 8:=by decide
  lia
 have g:¬(!Builtin.List.listFitsIndex k)=true:=by rw[fitsIndex_both G M];exact Ka
 have d:¬Builtin.List.listTooLong (c.toArray.size * k.toNat)=true:=by rw[rW i];exact Ka
 have j:MM (λo p=>o++p) #[] (JV (if c.toArray.isEmpty=Ju then 0 else k.toNat) c.toArray)=(JV k.toNat c).flatten.toArray:=by
  have D:∀m:O,MM (λo p=>o++p) #[] (JV m c.toArray)=(JV m c).flatten.toArray:=λm=>by have:=iV c m [];rw[Kw] at this;exact this
  rw[D];cases c with
  |nil=>simp
  |cons a r'=>rw[OK<|by simp]
 refine wpAny_binaryOp_repeat_ref (T:="list") (U:="int") (by decide) ⟨_,e,rfl⟩ (λs'=>typeIs_int s' k t) noFill_list_mul F.fills_int_mul F.slot_int_rmul repeat_list F.slot_int_index.lookup
  (Le F.slot_int_rmul (typeIs_int s k t) F.entry_int_rmul (F.args_int_rmul_2 _ _) (int___rmul___int_list k t l c.toArray n)
   ⟨e,rfl,⟨_,e,rfl⟩,Le F.slot_list_mul ⟨_,e,rfl⟩ F.entry_list_mul (F.args_list_mul_2 _ _) (AutoListH.list___mul___list_int_3 l c.toArray n k t g f d) ⟨e,?_⟩⟩)
 rw[j];exact⟨.ref _,_,b.lnew (t':=s.toks) (r.rep k.toNat)<|by rw[wx,NR];exact w,rfl,q _ b.fresh⟩
end
end L2
namespace Att
open PySem PySem.W PySem.Calls PyProof.Rows
theorem fS {P:Kb}{h:OT}:∀(c:U I) (d:U B),WellAll P h d (c.map WData.int)->Po d c:=by
 intro c;induction c with
 |nil=>intro d w;rw[J0] at w;cases w;exact .nil
 | cons n c e =>
  intro d w;rw[JQ] at w;cases w with
  |cons a b=>cases a;exact .cons _ _<|e _ b
theorem oJ {l:OpenLaw}{n:O}(v:l.most=Y n){P:Kb}{h:OT}{args:U WData}{e:U B}
  (c:l.row.toRowW.claim.pre args=Ju) (m:WellAll P h e args):
  ∃a p b,e=[Value.ref a]/\args=[WData.list<|b.map WData.int]/\h.get? a=Y {cls:=.type "list",data:=.seq p.toArray}/\Po p b/\b.length<=n:=by
 have k:WShape.hasAll [] args [.list .int]=true:=(pre_splitW c).1;have o:l.pre.holds [] {args:=args}=true:=(pre_splitW c).2;obtain⟨d,r,rfl,s,t⟩:=hasAllW_cons k;obtain rfl:=hasAllW_nil t;obtain⟨z,rfl,u⟩:=hasW_list s;obtain⟨b,rfl⟩:=items_int u
 have g:b.length<=n:=by
  unfold OpenLaw.pre at o;have i:(WTm.not (.lt (.lit (.int (n:I))) (.len (.arg 0)))).holds [] {args:=[.list<|b.map .int]}=true:=by have i:=(holds_andW o).1;rw[v] at i;exact i
  have j:=condW_of i<|w_not<|w_lt w_lit<|w_len_list<|w_arg rfl;rw[JF] at j;refine Oj λq=>?_;have w:(n:I)<((b.length:O):I):=by lia
  first
   |(rw[OE w] at j;exact OH j<|by decide)
   |(simp at j;lia)
 cases m with
 |cons x y=>
  cases y;cases x with
  |list ho f=>exact⟨_,_,b,rfl,rfl,ho,fS b _ f,g⟩
theorem oZ (l:OpenLaw)(args:U WData):l.row.toRowW.claim.post args (.bool Ju) args=true:=
 postW_of (r:=l.row.toRowW) (X:=(Ju==Ju))
  (show WShape.has [] (.bool Ju) .bool=Ju by first|rfl|decide|simp[WShape.has,WShape.arms,WShape.armsAll])
  (show(WTm.eq .res<|.lit<|.bool Ju).value [] {args:=args,res:=Y<|.bool Ju,after:=args}=Y (.bool<|Ju==Ju) from w_eq_bool (w_res rfl) w_lit) rfl
theorem attach_call {l:OpenLaw}{n:O}{q:OI}{e:U Str}{N:(Str->L B)->OT->Prop}{P:Jy->OT->Prop}{d:DefRec}
  (hn:l.most=Y n) (A:d.params.defaults=[])
  (call:∀ (w:Jy) (g c:Jv) (v H:Str->L B) (k:OD) (o:Obj) (M u h:B) (a:OD) (j:U B) (x:U I),
   Ground q e [] N w g v H c.heap->P w c.heap ->
   c.heap.get? k=Y o->o.data=.func (docDef d.name d.params d.body d.scope M u h)->c.heap.CodeRec u d.name->v d.name=Y (.ref k) ->
   c.heap.get? a=Y {cls:=.type "list",data:=.seq j.toArray}->Po j x->x.length<=n->c.gens=#[] ->
   K1 (JA l.prog w) K5 (.call (.ref k) ⟨[.ref a],[]⟩) (λr y=>r=.ok (.ret<|.bool Ju)/\OldK c.heap y.heap/\y.os=c.os/\KU y.gens) c):
  WalkO q e N P l.row.toRowW d [] (λf j=>ML f j):=by
 intro w g c v H G b k o M u h dV kV ho hd z Z D hg Q vals as t hlay hrd F hlo;obtain rfl:dV=.none:=Dflts.none Z A;obtain rfl:kV=.none:=Dflts.noKw Z;obtain⟨a,j,x,rfl,rfl,p,i,m⟩:=oJ hn t F;refine enter_call<|Pl (call w g c v H k o M u h a j x G b ho (fd_plain hd) z D p i m hg) λr y hq=>?_;obtain⟨rfl,h2,h3,h4⟩:=hq;exact⟨.inl ⟨.bool Ju,.bool Ju,[],rfl,λ_=>rfl,.bool Ju,oZ l _,λ_=>⟨Oy,λ_ hm=>(nomatch hm)⟩⟩,h2,h3,h4⟩
end Att
namespace L2
open PySem PySem.Spec PyProof.Rows
theorem cP:∀{b:U B} {a:U I},Po b a->Vals (a.map V.int) b
|_,_,.nil=>.nil
|_,_,.cons n t h=>.cons ⟨t,rfl⟩<|cP h
def qC (H:Hp):Prop:=∀b,H b=J\/∃o a,H b=Y (.frz o<|.lst a)
theorem uV {P:OI}{w:Jy}{K:Jw}{Z mb:Str->L B}{CX:CXT}{k:O}{fa a:OD}{fd:Kn}{x:Str}{sp:Sp}{c:Jv}{t:U B}{ns:U I}
  (KX:K.In c.heap) (G:c.heap.Ns JT Z) (g:c.heap.Ns builtinsNs mb) (hbb:∀x:Str,x≠"__name__"->mb x=K4 x) (D:c.heap.NoLimit) (hg:c.gens=#[])
  (ha:c.heap.get? a=Y {cls:=.type "list",data:=.seq t.toArray}) (hi:Po t ns) (hl:ns.length<=sizeLine) (hr:Room k K5)
  (F:∀i:OT,K.In i->i.Ns JT Z->eA P w K Z i CX k fa fd [x] sp) (p:∀(s:Jv) (u:B),K2 s fd ⟨[u],[]⟩ [(x,u)])
  (hsp:∀H:Hp,qC H->SqL K H a (ns.map V.int)->sp [.ref a] H (λv _=>v=.bl Ju) λ_ _ _=>OS)
  (hCX:∀H e j,CX [] H c (λ_ _ _=>OS) e j->OS):
  K1 (JA P w) K5 (.call (.ref fa) ⟨[.ref a],[]⟩) (λr j=>r=.ok (.ret<|.bool Ju)/\OldK c.heap j.heap/\j.os=c.os/\KU j.gens) c:=by
 have rv:=cP hi;have Q:=hi.length
 -- from an abstract heap in which nothing but the script may be tracked
 have core:∀ H:Hp,qC H->SqL K H a (ns.map V.int)->HOk P w H c.heap->(∀ b,H b≠J->b=a)->(H a≠J->K.lookup a=J) ->
   K1 (JA P w) K5 (.call (.ref fa) ⟨[.ref a],[]⟩) (λr j=>r=.ok (.ret<|.bool Ju)/\OldK c.heap j.heap/\j.os=c.os/\KU j.gens) c:=by
  intro H hO hS M hA hK;have f:∀{b:OD} {o:Obj},c.heap.get? b=Y o->H b=J->(jH c.heap H).get? b=Y o:=λe n=>uG e n
  have noA:∀{b:OD} {o:Obj} {y:OY OX} {ep:O},c.heap.get? b=Y o->o.data=.dict y ep->H b=none:=λ{b o y ep} e d=>by
   cases q:H b with
   |none=>rfl
   |some u=>have e':b=a:=hA b (by rw[q];simp);subst e';rw[ha] at e;cases e;have d':Data.seq t.toArray _=Data.dict y ep:=d;cases d'
  have l:∀{b:OD} {m:Str->L B},c.heap.Ns b m->(jH c.heap H).Ns b m:=λ{b m} ⟨o,y,ep,e,d,r⟩=>⟨o,y,ep,f e<|noA e d,d,r⟩
  have A:K.In (jH c.heap H):=λb o e=>f (KX b o e) (by
   cases q:H b with
   |none=>rfl
   |some u=>
    have e':b=a:=hA b (by rw[q];simp);subst e';rw[hK<|by rw[q];simp] at e;cases e)
  have hM:Mod K Z (jH c.heap H):=⟨A,l G,⟨mb,l g,hbb⟩,let ⟨mc,h1,h2⟩:=D;⟨mc,l h1,h2⟩⟩;have e0:xR P w K Z (jH c.heap H) K5 [] c H:=⟨rfl,hM,λb o e=>zc e,Nat.le_of_eq<|pA _ _,trivial,λb g=>OH (show b∈([]:U OD) from g)<|by simp,M,.of_eq hg⟩;refine Pl ((F _ A<|l G).run K5 [] c H ⟨[.ref a],[]⟩ [.ref a] [.ref a] _ _ hr e0 (p c<|.ref a) (.cons rfl .nil)<|hsp H hO hS) λr j h=>?_;cases r with
  |error e=>exact(hCX H e j h).elim
  | ok fl =>
   cases fl with
   |next=>exact KA h
   |brk=>exact KA h
   |cont=>exact KA h
   | ret u =>
    obtain⟨v,H',os,bare,un,N,r',q⟩:=h;have q':v=.bl true:=q;subst q';obtain rfl:u=Value.bool true:=r';refine⟨rfl,OldK.of_keep λb o e=>?_,os,bare⟩;cases q:H b with
    |none=>exact un.keep b o e q (by intro z;exact OH (show b∈([]:U OD) from z)<|by simp)<|by simp
    | some u =>
     rcases hO b with z|⟨ob,xs,z⟩
     .rw[q] at z;cases z
     .have z2:=un.frzs b ob _ z;obtain⟨e1,_⟩:=M b _ z;obtain⟨e2,_⟩:=N b _ z2;rw[e] at e1;cases e1;exact e2
 cases hk:K.lookup a with
 |some o=>
  -- the script is one of the module's own objects
  have e:=KX a o hk;rw[ha] at e;cases e;refine core (λ_=>J) (λ_=>.inl rfl) (.inr ⟨_,t.toArray,_,hk,rfl,rfl,rfl,by rw[J1,Q];exact hl,by simpa using rv⟩) (λb u z=>by have z':(none:L HO)=Y u:=z;cases z') (λb z=>OH rfl z) λz=>OH rfl z
 | none =>
  refine core (λb=>if b=a then Y (.frz {cls:=.type "list",data:=.seq t.toArray} (.lst<|ns.map V.int)) else J) (λb=>?_) (.inl<|.inr ⟨{cls:=.type "list",data:=.seq t.toArray},OG rfl⟩) (λb u z=>?_) (λb z=>?_) λ_=>hk
  .by_cases g:b=a
   .exact .inr ⟨_,_,OG g⟩
   .exact .inl (OK g)
  .by_cases g:b=a
   .have z':=(OG g).symm.trans z;cases z';subst g;exact⟨ha,by rw[JF];exact hl,t,_,rv,ha⟩
   .have z':=(OK g).symm.trans z;cases z'
  .by_cases g:b=a
   .exact g
   .exact OH (OK g) z
theorem walk_of {l:MO}{n k:O}{q:OI}{p:U Str}{XP:(Str->L B)->OT->Prop}{YP:Jy->OT->Prop}{d:DefRec}{K:Kb->Jw}{CX:Jy->CXT}{sp:Jy->Sp}{x:Str}
  (hn:l.most=Y n) (Q:n<=sizeLine) (N:d.params.defaults=[]) (hr:Room k K5)
  (hY:∀(w:Jy) (h:OT),YP w h->(K w.params).In h)
  (F:∀ (w:Jy) (r:Str->L B) (z:OD) (h:OT),(K w.params).In h->h.Ns JT r->r d.name=Y (.ref z) ->
   ∃D:Kn,(∀(s:Jv) (u:B),K2 s D ⟨[u],[]⟩ [(x,u)]) /\
    ∀i:OT,(K w.params).In i->i.Ns JT r->eA l.prog w (K w.params) r i (CX w) k z D [x] (sp w))
  (Z:∀(w:Jy) (H:Hp) (a:OD) (A:U I),A.length<=n->qC H->SqL (K w.params) H a (A.map V.int)->sp w [.ref a] H (λv _=>v=.bl Ju) λ_ _ _=>OS)
  (M:∀(w:Jy) (H:Hp) (s:Jv) (e:B) (s':Jv),CX w [] H s (λ_ _ _=>OS) e s'->OS):
  Nw q p XP YP l.row.toRowW d [] (λf vs=>ML f vs):=by
 refine Att.attach_call hn N λw s₀ y r mb z o pm cd doc a vs A G c ho hd hcd P t m j hg=>?_;have KX:=hY w _ c;obtain⟨D,hb,hF⟩:=F w r z _ KX G.T.g P;exact uV KX G.T.g G.T.b G.T.builtins G.T.nolimit hg t m (JP j Q) hr hF hb (λH hO hS=>Z w H a A j hO hS) λH e s'=>M w H y e s'
noncomputable def defArgs (s:OW):Arguments:=match s with
|.FunctionDef _ a _ _ _ _ _ _ _ _=>a
|_=>{posonlyargs:=[],args:=[],vararg:=J,kwonlyargs:=[],kw_defaults:=[],kwarg:=J,defaults:=[]}
noncomputable def defBody (s:OW):U OW:=match s with
|.FunctionDef _ _ b _ _ _ _ _ _ _=>b
|_=>[]
noncomputable def defScope (s:OW):OZ:=match s with
|.FunctionDef _ _ _ _ _ _ a _ _ _=>a
|_=>{kind:=.function,names:=[],isGenerator:=Jt,isCoroutine:=Jt}
abbrev CX0:CXT:=λ_ _ _ _ _ _=>OS
abbrev E0:XK:=λ_ _ _=>OS
theorem ES {X:Cx}:mI CX0 X E0:=λ_ _ _ _ _ _ _ h=>h.elim
structure Fun (K:Jw)(x qual:Str)(st:OW)(f:OD)(fd:Kn):Prop where
 ex:∃(oc:B) (od:L OD) (kV doc pm:B) (an:L OD) (cdv ct:B) (osl:OY (L B)),
  fd=KY x qual (defArgs st) (defBody st) (defScope st) .none kV doc pm an cdv ct/\K.lookup f=Y ⟨oc,od,.func fd,osl⟩/\MF K cdv qual=Ju
 kp:Ly K (.ref f)=Ju
section
variable {P:OI}{w:Jy}{K:Jw}{mg:Str->L B}{base:OT}
theorem Fun.ok {x b:Str}{g:OW}{f:OD}{l:Kn}{N ps:U Str}{k:O}{sp:Sp}(F:Fun K x b g f l)(S:au N ps<|defScope g)(len:∀e H Q E,sp e H Q E->e.length=ps.length)
  (d:∀ (c:B) (A:JU) (a:U Env) (s:Jv) (H:Hp) (e:U V) (Q:VK) (E:XK),Room k (A.deeper (Ky b (defScope g) s.heap.objs.size f c))->sp e H Q E ->
   ∃t,PSs (jw CX0 P w K mg base N b (defScope g) f c A a s H E).nox (defBody g) t/\t {nx:=λ_ m=>Q .non m,rt:=Q} (start N e) H):eA P w K mg base CX0 (k+1) f l ps sp:=by
 obtain⟨u,v,kV,n,y,an,c,r,p,rfl,lk,i⟩:=F.ex;refine EY lk i S len λA a s H e Q E o j=>?_;obtain⟨t,h,q⟩:=d c A a s H e Q E o j;exact⟨t,h.nox,q⟩
theorem Fun.binds {x a:Str}{d:OW}{f:OD}{j:Kn}{ps:U Str}(F:Fun K x a d f j)
  (h:∀(kV c g:B) (an:L OD) (b e:B) (i:U B),i.length=ps.length->bindArgs (KY x a (defArgs d) (defBody d) (defScope d) .none kV c g an b e) ⟨i,[]⟩=pure (ps.zip i)):Binds K j ps []:=by
 obtain⟨m,n,kV,c,g,an,b,e,l,rfl,lk,k⟩:=F.ex;exact .all<|h kV c g an b e
theorem uy {x a:Str}{st:OW}{f:OD}{i:B}{j an:L OD}{e:OY<|L B}{kV d h b g:B}(l:K.lookup f=Y ⟨i,j,.func<|KY x a (defArgs st) (defBody st) (defScope st) .none kV d h an b g,e⟩)
  (c:MF K b a=Ju) (k:Ly K (.ref f)=Ju):Fun K x a st f (KY x a (defArgs st) (defBody st) (defScope st) .none kV d h an b g):=⟨⟨i,j,kV,d,h,an,b,g,e,rfl,l,c⟩,k⟩
end
theorem iO {A:JU}{k:O}(a:Room k A):A.units+1<O0:=Nq (Nat.add_le_add_left (by decide:1<=64) _) a.units
def Same (H a:Hp):Prop:=∀b o,H b=Y o->a b=Y o
theorem Same.refl (H:Hp):Same H H:=λ_ _ h=>h
section
variable {κ:Type}[O2 κ]
noncomputable def b5 (a:U<|κ×V)(k:κ):L V:=(a.find? λb=>decide (b.1=k)).map (·.2)
noncomputable def bQ (a:U<|κ×V)(k:κ)(v:V):U (κ×V):=
 if(a.any λb=>decide (b.1=k))=Ju then a.map (λb=>if b.1=k then(b.1,v) else b) else a++[(k,v)]
theorem gU {p:κ×V}{r:U<|κ×V}{k:κ}(e:p.1=k):b5 (p::r) k=Y p.2:=by simp[b5,Lq,e]
theorem gI {p:κ×V}{r:U<|κ×V}{k:κ}(e:¬p.1=k):b5 (p::r) k=b5 r k:=by simp[b5,Lq,e]
theorem gi (k:κ):∀a:U<|κ×V,(a.any λb=>decide (b.1=k))=(b5 a k).isSome
|[]=>rfl
|p::r=>by
 rw[KL];by_cases e:p.1=k
 .simp only[gU e,OE e,LH,N6]
 .rw[gI e,OR e,Ln];exact gi k r
theorem cB (a:U<|κ×V)(k:κ)(v:V):(bQ a k v).length<=a.length+1:=by
 unfold bQ;split
 .rw[JF];lia
 .rw[Jx,JY,LA];lia
theorem qG {a:U<|κ×V}{k:κ}(v:V)(h:b5 a k=J):bQ a k v=a++[(k,v)]:=by unfold bQ;rw[gi,h];exact OK<|by decide
theorem RelO.isSome_eq {o:L V}{u:L B}(r:RelO o u):o.isSome=u.isSome:=by
 cases o with
 |none=>cases u with
  |none=>rfl
  |some _=>exact(show OS from r).elim
 |some _=>cases u with
  |none=>exact(show OS from r).elim
  |some _=>rfl
theorem RelO.getD {o:L V}{u:L B}{d:V}{a:B}(r:RelO o u)(rd:RelV d a):RelV (o.getD d) (u.getD a):=by
 cases o with
 |none=>cases u with
  |none=>exact rd
  |some _=>exact(show OS from r).elim
 |some _=>cases u with
  |none=>exact(show OS from r).elim
  |some _=>exact r
theorem KV.val {a:U<|κ×V}{g:U<|κ×B}(r:KV a g)(k:κ):RelO (b5 a k) (O9 g k):=by
 unfold KV at r;induction r with
 |nil=>exact Kz
 | @cons p q ps d h t j =>
  obtain⟨f,i⟩:=h;by_cases e:p.1=k
  .have c:q.1=k:=f.symm.trans e;have b:O9 (q::d) k=Y q.2:=by simp[O9,Lq,c]
   rw[gU e,b];exact i
  .have c:¬ q.1=k:=fun z=>e (f.trans z);have b:O9 (q::d) k=O9 d k:=by simp[O9,Lq,c]
   rw[gI e,b];exact j
theorem KV.any {a:U<|κ×V}{c:U<|κ×B}(r:KV a c)(k:κ):(a.any λb=>decide (b.1=k))=c.any λb=>decide (b.1=k):=by
 unfold KV at r;induction r with
 |nil=>rfl
 |cons h t d=>rw[KL,KL,d,h.1]
theorem KV.repl {b:U<|κ×V}{d:U<|κ×B}(r:KV b d)(k:κ){y:V}{u:B}(i:RelV y u):
  KV (b.map λa=>if a.1=k then(a.1,y) else a) (d.map λa=>if a.1=k then(a.1,u) else a):=by
 unfold KV at r ⊢;induction r with
 |nil=>exact .nil
 | @cons p q ps j h t g=>
  rw[JQ,JQ];refine .cons ?_ g;obtain⟨c,f⟩:=h;by_cases e:p.1=k
  .rw[OG e,OG<|c.symm.trans e];exact⟨c,i⟩
  .rw[OK e,OK λz=>e<|c.trans z];exact⟨c,f⟩
theorem KV.put {a:U<|κ×V}{b:U<|κ×B}(r:KV a b)(k:κ){y:V}{u:B}(c:RelV y u):KV (bQ a k y) (stored b k u):=by
 unfold bQ stored;rw[r.any k];by_cases e:(b.any λd=>decide (d.1=k))=Ju
 .rw[OG e,OG e];exact r.repl k c
 .rw[OK e,OK e];exact Paired.snoc r ⟨rfl,c⟩
theorem KV.length {a:U<|κ×V}{b:U<|κ×B}(r:KV a b):a.length=b.length:=Paired.length r
end
theorem fM {P:OI}{w:Jy}{k:Key}{u:B}(r:RelV (kV k) u):(aK P w).is k u=true:=by
 cases k with
 |inl i=>obtain⟨t,e⟩:=(show∃t,u=Value.int i t from r);subst e;exact j6 P w i t
 |inr x=>obtain⟨t,e⟩:=(show∃t,u=Value.str x t from r);subst e;exact kr P w x t
theorem iE {P:OI}{w:Jy}:∀{a:U Key} {b:U B},Vals (a.map kV) b->ItemsAre (aK P w) a b
|[],_,r=>by rw[J0] at r;cases r;exact .nil
|k::a,_,r=>by
 rw[JQ] at r;cases r with
 |cons h t=>exact .cons (fM h)<|iE t
abbrev KT (H:Hp):U (U Key×V)->U (U Key×OD×B)->Prop:=Paired λp q=>p.1=q.1/\H q.2.1=Y (.tup<|p.1.map kV)/\RelV p.2 q.2.2
theorem KT.val {H:Hp}{a:U<|U Key×V}{g:U<|U Key×OD×B}(r:KT H a g)(k:U Key):RelO (b5 a k) ((Pu g k).map (·.2)):=by
 induction r with
 |nil=>exact Kz
 | @cons p q ps d h t j =>
  obtain⟨f,_,i⟩:=h;by_cases e:p.1=k
  .have c:q.1=k:=f.symm.trans e;have b:Pu (q::d) k=Y q.2:=by simp[Pu,Lq,c]
   rw[gU e,b];exact i
  .have c:¬ q.1=k:=fun z=>e (f.trans z);have b:Pu (q::d) k=Pu d k:=by simp[Pu,Lq,c]
   rw[gI e,b];exact j
theorem KT.repl {H:Hp}{a:U<|U Key×V}{f:U<|U Key×OD×B}(r:KT H a f)(k:U Key){y:V}{u:B}(j:RelV y u):
  KT H (a.map λc=>if c.1=k then(c.1,y) else c) (f.map<|putAt k u):=by
 induction r with
 |nil=>exact .nil
 | @cons p q ps l h t i=>
  rw[JQ,JQ];refine .cons ?_ i;obtain⟨b,d,g⟩:=h;unfold putAt;by_cases e:p.1=k
  .rw[OG e,OG<|b.symm.trans e];exact⟨b,d,j⟩
  .rw[OK e,OK λz=>e<|b.trans z];exact⟨b,d,g⟩
theorem KT.put {H:Hp}{a:U<|U Key×V}{c:U<|U Key×OD×B}(r:KT H a c)(k:U Key){b:OD}{y:V}{u:B}(f:H b=Y (.tup<|k.map kV))(d:RelV y u):
  KT H (bQ a k y) (storedH c k b u):=by
 have e:(a.any λg=>decide (g.1=k))=(Pu c k).isSome:=by rw[gi,(r.val k).isSome_eq,N3]
 unfold bQ storedH;rw[e];by_cases q:(Pu c k).isSome=Ju
 .rw[OG q,OG q];exact r.repl k d
 .rw[OK q,OK q];exact Paired.snoc r ⟨rfl,f,d⟩
theorem KT.keeps {H c:Hp}{a:U<|U Key×V}{d:U<|U Key×OD×B}(r:KT H a d)(f:∀b e,H b=Y (.tup e)->c b=Y (.tup e)):KT c a d:=
 Paired.mapP r λ_ _ z=>⟨z.1,f _ _ z.2.1,z.2.2⟩
section
variable {P:OI}{w:Jy}{H:Hp}{h:OT}{a:OD}
theorem zx {u:HO}(ok:HOk P w H h)(e:Rd H a u):ObjOk P w H h a u:=e.ok ok
theorem fJ {b:U<|Key×V}(ok:HOk P w H h)(e:Rd H a<|.dK b):b.length<=sizeLine/\(a==Ko)=Jt/\∃c,KV b c/\h.DictOf (aK P w) a c:=
 show ObjOk P w H h a (.dK b) from zx ok e
theorem u7 {b:U<|Key×V}(ok:HOk P w H h)(e:H a=Y (.dK b)):b.length<=sizeLine/\(a==Ko)=Jt/\∃c,KV b c/\h.DictOf (aK P w) a c:=fJ ok<|.inl e
theorem fA {c:U Key}(ok:HOk P w H h)(e:H a=Y (.tup<|c.map kV)):(Ld<|aK P w).is h c a:=by obtain⟨_,b,r,o,d,f,n,g⟩:=(show ObjOk P w H h a (.tup<|c.map kV) from ok a _ e);exact⟨o,b.toArray,n,d,f,g,by simpa using iE r⟩
theorem gK {b:U<|U Key×V}(ok:HOk P w H h)(e:Rd H a<|.dT b):b.length<=sizeLine/\(a==Ko)=Jt /\
  ∃c,KT H b c/\h.DictOfH (Ld<|aK P w) a c:=by
 obtain⟨z,y,c,r,o,f,ep,g,i,j,k,n⟩:=(show ObjOk P w H h a (.dT b) from zx ok e);refine⟨z,y,c,r,o,f,ep,g,i,j,k,λx hx=>?_,n⟩
 have all:∀{l:U (U Key×V)} {m:U (U Key×OD×B)},KT H l m->∀x∈m,(Ld (aK P w)).is h x.1 x.2.1:=by
  intro l m q;induction q with
  |nil=>intro x hx;exact nomatch hx
  | @cons p q ps u d t s =>
   intro x hx;rcases JX.mp hx with e|hx
   .subst e;exact fA ok<|by rw[<- d.1];exact d.2.1
   .exact s x hx
 exact all r x hx
theorem Hm {b:U<|U Key×V}(ok:HOk P w H h)(e:H a=Y (.dT b)):b.length<=sizeLine/\(a==Ko)=Jt /\
  ∃c,KT H b c/\h.DictOfH (Ld<|aK P w) a c:=gK ok<|.inl e
end
def DGet (H:Hp)(a:OD)(y:V)(r:L V):Prop:=
 (∃c k,Rd H a (.dK c)/\y=kV k/\r=b5 c k)\/∃c k b,Rd H a (.dT c)/\y=.ref b/\H b=Y (.tup<|k.map kV)/\r=b5 c k
def ET (H:Hp)(a:OD)(y v:V)(d:Hp):Prop:=
 (∃c k,H a=Y (.dK c)/\y=kV k/\c.length<sizeLine/\d=upd H a (.dK<|bQ c k v)) \/
 ∃c k b,H a=Y (.dT c)/\y=.ref b/\H b=Y (.tup<|k.map kV)/\c.length<sizeLine/\d=upd H a (.dT<|bQ c k v)
theorem DGet.k {H:Hp}{a:OD}{b:U<|Key×V}{k:Key}(e:H a=Y (.dK b)):DGet H a (kV k) (b5 b k):=.inl ⟨b,k,.inl e,rfl,rfl⟩
section
variable {X:Cx}{pins:U (OD×Obj)}{σ:St}{H:Hp}{s:Jv}{a:OD}{y v:V}{u r:B}{o:L V}{A:JU}{E:B->Jv->Prop}
theorem Inv.big (b:Inv X pins σ H s):Ko<s.heap.objs.size:=by have h:JT<s.heap.objs.size:=(b.mod.glob.keeps b.bk).lt;exact NQ (by decide) h
theorem pb {Q:B->Jv->Prop}(M:A.units+1<O0)(c:Inv X pins σ H s)(g:DGet H a y<|Y v)(D:RelV y u)(h:∀i F,Inv X pins σ H F->RelV v i->Q i F):
  OJ (JA X.prog X.w) A (KO (.ref a) u) Q E s:=by
 rcases g with⟨x,k,e,m,l⟩|⟨x,k,b,e,m,G,l⟩
 .subst m;obtain⟨z,hd,N,d,j⟩:=fJ c.hok e;obtain⟨i,t,f⟩:=RelO.some_of (v:=v) (o:=O9 N k) (by rw[l];exact d.val k);exact wpAny_getItem_of (fM D) j.mapOf t<|h i _ (c.tok _) f
 .subst m;cases(show u=Value.ref b from D);obtain⟨z,hd,P,d,j⟩:=gK c.hok e;obtain⟨i,t,f⟩:=RelO.some_of (v:=v) (o:=(Pu P k).map (·.2)) (by rw[l];exact d.val k);obtain⟨p,hp,n⟩:=Option.map_eq_some_iff.mp t;refine wpAny_getItem_heap (LN M) (fA c.hok G) j hp ?_;rw[n];exact h i _ (c.tok _) f
theorem HV {Q:B->Jv->Prop}(t:A.units+1<O0)(c:Inv X pins σ H s)(g:DGet H a y o)(m:RelV y u)(h:∀n,Inv X pins σ H n->Q (.bool o.isSome) n):
  OJ (JA X.prog X.w) A (Kh .In u<|.ref a) Q E s:=by
 rcases g with⟨j,k,e,i,l⟩|⟨j,k,b,e,i,p,l⟩
 .subst i;obtain⟨z,hd,x,d,f⟩:=fJ c.hok e;refine wpAny_in_of (fM m) hd f.mapOf ?_;rw[<- (d.val k).isSome_eq,<- l];exact h _<|c.tok _
 .subst i;cases(show u=Value.ref b from m);obtain⟨z,hd,D,d,f⟩:=gK c.hok e;refine wpAny_in_heap (LN t) (fA c.hok p) hd f ?_;have q:=(d.val k).isSome_eq;rw[N3] at q;rw[<- q,<- l];exact h _<|c.tok _
theorem f6 {d:OT}{l:O}{g:HO}(c:Inv X pins σ H s)(k:Mut<|H a)(j:Heap.SameBut a s.heap d)(i:∃q,d.get? a=Y q)(f:ObjOk X.prog X.w (upd H a g) d a g):
  Inv X pins σ (upd H a g) {s with heap:=d,toks:=l}:=
 c.write (x:=a) (e:=a) k (.inl rfl) (λb q h z=>(j.2 b h).trans z) i f
theorem jR {P:OI}{w:Jy}{f:Hp}{e:OT}{b:U<|Key×V}{d:U<|Key×B}(z:b.length<=sizeLine)(hd:(a==Ko)=Jt)(c:KV b d)(g:e.DictOf (aK P w) a d):
  ObjOk P w f e a (.dK b):=⟨z,hd,d,c,g⟩
theorem pd {G:Hp}{Q:Unit->Jv->Prop}(hu:A.units+1<O0)(d:Inv X pins σ H s)(g:ET H a y v G)(ry:RelV y u)(Z:RelV v r)(h:∀s',Inv X pins σ G s'->Q () s'):
  OJ (JA X.prog X.w) A (setItem (.ref a) u r) Q E s:=by
 rcases g with⟨f,k,e,t,l,p⟩|⟨f,k,b,e,t,M,l,p⟩
 .subst t p;obtain⟨z,hd,vs,i,n⟩:=u7 d.hok e;have F:vs.length<=sizeLine:=by rw[<- i.length];exact z
  have x:(bQ f k v).length<=sizeLine:=by have:=cB f k v;lia
  refine wpAny_setItem_pairs (hsz:=F) (fM ry) n λP j D=>h _ ?_;have he:∃q,P.get? a=Y q:=let ⟨q,_,_,m,_⟩:=j;⟨q,m⟩;exact f6 d (by rw[e];exact Kz) D he<|jR x hd (i.put k Z) j
 .subst t p;cases(show u=Value.ref b from ry);obtain⟨z,hd,xs,i,n⟩:=Hm d.hok e;have F:xs.length<=sizeLine:=by rw[<- Paired.length i];exact z
  have x:(bQ f k v).length<=sizeLine:=by have:=cB f k v;lia
  refine wpAny_setItem_heap (hsz:=F) (LN hu) (fA d.hok M) n λP j D=>h _ ?_;obtain⟨q,es,ep,m,h2,h3,h4,_,h5⟩:=j;refine f6 d (by rw[e];exact Kz) D ⟨q,m⟩ ⟨x,hd,_,(i.put k M Z).keeps λc ys N=>?_,q,es,ep,m,h2,h3,h4,h5⟩;rw[ag<|EA N e λz=>nomatch z];exact N
end
def AY (i:ON):Prop:=∀a iv,L4 i Jt a iv=operate [a,iv] (KO a iv)
theorem xS {prog:OI}{w:Jy}{A:JU}{E:B->Jv->Prop}{s:Jv}{g:Env}{b a:ON}{m:Pos}{T id:OL}{Q:B->Jv->Prop}
  (n:typeLookup (.type T) "__getitem__"=pure (Y<|.builtin id)) (p:AY a)
  (h:OJ (JA prog w) A (OV b g) (λo e=>OJ (JA prog w) A (OV a g) (λi c=>c.TypeIs o T/\OJ (JA prog w) A (KO o i) Q E c) E e) E s):
  OJ (JA prog w) A (OV (.Subscript b a m) g) Q E s:=by
 refine Subscript_<|J5 h (λo e k=>J5 k (λi c d=>?_) λ_ _ x=>x) λ_ _ x=>x;obtain⟨hT,d⟩:=d;unfold Pe;refine JD ?_;rw[getitemInPython_of_ne hT.not_modules];refine JD<|wpAny_specialOf hT n ?_;have j:OJ (JA prog w) A (L4 a Jt o i) (λr f=>OJ (JA prog w) A (letTemporaryGo b o r >>= λ_=>pure r) Q E f) E c:=by rw[p o i];exact wpAny_operating<|J5 d (λr f l=>JD<|wpAny_letTemporaryGo<|JO l) λ_ _ x=>x
 first
  |exact JO<|JD j
  |exact JD<|JO<|JD j
  |exact JD j
theorem jZ {X:Cx}{d:U<|OD×Obj}{i:St}{H:Hp}{s:Jv}{a:OD}{y:V}{o:L V}(c:Inv X d i H s)(g:DGet H a y o):s.TypeIs (.ref a) "dict":=by
 rcases g with⟨h,k,e,_,_⟩|⟨h,k,b,e,_,_,_⟩
 .obtain ⟨_,_,j,_,f⟩:=fJ c.hok e;exact f.typeIs
 .obtain ⟨_,_,l,_,f⟩:=gK c.hok e;exact f.typeIs
def FN (e ty:TE):TE:=λc H Q=>e c H λx d=>ty c d λy b=>∃a v,x=.ref a/\DGet b a y (Y v)/\Q v b
def Iv (ty e:TE):TE:=λc H Q=>ty c H λy d=>e c d λx b=>∃a o,x=.ref a/\DGet b a y o/\Q (.bl o.isSome) b
def Es (g ty h:TE):TS:=λD b H=>h b H λv d=>g b d λx e=>ty b e λy f=>∃a c,x=.ref a/\ET f a y v c/\D.nx b c
section
variable {X:Cx}{o i e value:ON}{pos pos' tpos:Pos}{td ty tv:TE}
theorem zg (w:X.A.units+1<O0)(ho:PE X o td)(r:PE X i ty)(t:AY i):PE X (.Subscript o i pos) (FN td ty):=by intro c s j H Q b h;refine xS Ou.lookup t<|thn (ho c s j H _ b h) λu M ⟨x,k,m,F,z⟩=>thn (r c M j k _ m z) λiv N ⟨y,l,f,G,a,v,p,g,D⟩=>?_;subst p;obtain rfl:u=Value.ref a:=F;exact⟨jZ f g,pb w f g G λZ P n d=>⟨v,l,n,d,D⟩⟩
theorem Av (r:X.A.units+1<O0)(p:PE X i ty)(ho:PE X o td):PC X .In i o (Iv ty td):=by intro c s d H Q b h;refine thn (p c s d H _ b h) λiv F ⟨y,f,k,D,v⟩=>thn (ho c F d f _ k v) λu G ⟨x,j,l,z,a,t,n,g,w⟩=>?_;subst n;obtain rfl:u=Value.ref a:=z;exact HV r l g D λM m=>⟨.bl t.isSome,j,m,rfl,w⟩
theorem oa (F:X.A.units+1<O0)(ho:PE X o td)(w:PE X i ty)(G:PE X value tv)(z:Kj value (Y<|.Subscript o i pos') pos.line X.env=pure Jt):
  PS X (.Assign [.Subscript o i pos'] value pos) (Es td ty tv):=by
 intro c s d H D b h;refine wpAny_Assign_Subscript (thn (G c s d H _ b h) λr s1 ⟨v,f,l,Q,M⟩=>thn (ho c s1 d f _ l M) λu s2 ⟨x,j,m,Z,N⟩=>thn (w c s2 d j _ m N) λiv s3 ⟨y,H3,n,ry,a,k,t,g,P⟩=>?_) z;subst t;obtain rfl:u=Value.ref a:=Z;exact pd F n g ry Q λs4 p=>⟨d,k,p,P⟩
end
theorem kG {P:OI}{w:Jy}{H:Hp}(h:OT)(a:Ko<h.objs.size):ObjOk P w H (h.push {cls:=.type "dict",data:=.dict #[]}) h.objs.size (.dK []):=
 ⟨Kl _,beq_eq_false_iff_ne.mpr<|Kv<|J7 a,[],.nil,Heap.DictOf.new h⟩
def uC:TE:=λ_ H Q=>∀p,H p=J->Q (.ref p) (upd H p<|.dK [])
section
variable {X:Cx}{pos:Pos}
theorem vt:PE X (.Dict [] [] pos) uC:=λc s d H Q b h=>
 wpAny_Dict_empty ⟨.ref s.heap.objs.size,_,b.laid (a:=s.heap.objs.size) (o:=.dK []) (t':=s.toks) (λ_ _ q=>Heap.get?_push_of_some _ q) (JE _)<|kG s.heap b.big,rfl,h _<|b.hok.fresh<|JE _⟩
end
def jT:U (TE×TE)->St->Hp->(U (V×V)->Hp->Prop)->Prop
|[],_,H,Q=>Q [] H
|(e,f)::r,a,H,Q=>e a H λx b=>f a b λy c=>jT r a c λps d=>Q ((x,y)::ps) d
abbrev VV:U (V×V)->U (B×B)->Prop:=Paired λp q=>RelV p.1 q.1/\RelV p.2 q.2
def PPs (X:Cx)(d:Pos)(c:U<|L ON)(a:U ON)(e:U<|TE×TE):Prop:=
 ∀(b:U<|OD×Obj) (s:Jv) (f:St) (H:Hp) (Q:U (V×V)->Hp->Prop),Inv X b f H s->jT e f H Q ->
  OJ (JA X.prog X.w) X.A (evalPairs<|pairTrees c a X.env d) (λi h=>∃ps g,Inv X b f g h/\VV ps i/\Q ps g) X.xe s
theorem nh {X:Cx}{b:Pos}:PPs X b [] [] []:=λc s d H Q a h=>pairTrees_nil_walk ⟨[],H,a,.nil,h⟩
theorem jV {X:Cx}{c:Pos}{k v:ON}{g:U<|L ON}{l:U ON}{i j:TE}{d:U<|TE×TE}(hk:PE X k i)(z:PE X v j)(w:PPs X c g l d):
  PPs X c (Y k::g) (v::l) ((i,j)::d):=λb s f H Q a h=>
 pairTrees_cons_walk (thn (hk b s f H _ a h) λu N ⟨x,m,p,G,A⟩=>thn (z b N f m _ p A) λw2 P ⟨y,n,r,M,D⟩=>
  thn (w b P f n _ r D) λws Z ⟨ps,o,t,e,F⟩=>⟨(x,y)::ps,o,t,.cons ⟨G,M⟩ e,F⟩)
def d7 (c a:U<|Key×V):U (Key×V):=a.foldl (λb d=>bQ b d.1 d.2) c
theorem KV.merge:∀{b:U<|Key×V} {rs:U<|Key×B} {a:U<|Key×V} {c:U<|Key×B},KV b rs->KV a c->KV (d7 a b) (merged c rs):=by
 intro b rs a c r;unfold KV at r;induction r generalizing a c with
 |nil=>intro q;exact q
 | @cons p q ps f h t d =>
  intro r0;have e:KV (bQ a p.1 p.2) (stored c q.1 q.2):=by have:=r0.put p.1 h.2;rw[<- h.1];exact this
  exact d e
theorem dS:∀(b a:U<|Key×V),(d7 a b).length<=a.length+b.length
|[],a=>by show a.length<=a.length+0;lia
|p::r,a=>by have c:=dS r<|bQ a p.1 p.2;have d:=cB a p.1 p.2;show(d7 (bQ a p.1 p.2) r).length<=_;rw[JY];lia
theorem hW {P:OI}{w:Jy}:∀{d:U<|Key×V} {f:U<|B×B},VV (d.map λe=>(kV e.1,e.2)) f->∃rs,Carries (aK P w) f rs/\KV d rs
|[],_,r=>by rw[J0] at r;cases r;exact⟨[],Kz,.nil⟩
| p::d,_,r=>by
 rw[JQ] at r;cases r with
 | @cons a b as bs h t=>obtain⟨rs,c,q⟩:=hW (P:=P) (w:=w) t;obtain⟨i,g⟩:=b;exact⟨(p.1,g)::rs,⟨fM h.1,rfl,c⟩,.cons ⟨rfl,h.2⟩ q⟩
def vm (b:U<|TE×TE):TE:=λe H Q=>∀p,H p=J->jT b e (upd H p<|.dK []) λps c=>c p=Y (.dK [])/\∃a:U<|Key×V,ps=a.map (λd=>(kV d.1,d.2))/\a.length<=15/\Q (.ref p) (upd c p<|.dK<|d7 [] a)
theorem oj {X:Cx}{l:Pos}{d:U<|L ON}{f:U ON}{m:U<|TE×TE}(h:PPs X l d f m)(i:d.all (·.isSome)=Ju)(A:d.length=f.length)(v:d≠[])
  (n:d.length<=15):PE X (.Dict d f l) (vm m):=by
 intro k s σ H Q b q;have D:=b.hok.fresh<|JE s.heap.objs.size;have t:=b.laid (a:=s.heap.objs.size) (o:=.dK []) (h':=s.heap.push {cls:=.type "dict",data:=.dict #[]}) (t':=s.toks) (λ_ _ q=>Heap.get?_push_of_some _ q) (JE _)<|kG s.heap b.big;refine wpAny_Dict_walk (knd:=aK X.prog X.w) i A v n<|thn (h k _ σ _ _ t<|q _ D) λws s2 ⟨ps,H2,r,p,e,j,ep,lk,N⟩=>?_;subst ep;obtain⟨rs,c,Z⟩:=hW (P:=X.prog) (w:=X.w) p;obtain⟨z,hd,vs0,r0,u⟩:=u7 r.hok e;cases r0;refine⟨rs,c,u,λh' g G=>⟨.ref s.heap.objs.size,_,?_,rfl,N⟩⟩;have M:(d7 [] j).length<=sizeLine:=by have x:=dS j [];rw[LA] at x;rw[Mb];lia
 have y:∃q,h'.get? s.heap.objs.size=Y q:=let ⟨q,_,_,F,_⟩:=g;⟨q,F⟩;exact f6 r (by rw[e];exact Kz) G y<|jR M hd (Z.merge .nil) g
structure M1 (X:Cx)(o:ON)(m:Str)(apos:Pos)(e:ON)(cpos:Pos):Prop where
 base:Li o m X.env (OV o X.env)=OV o X.env
 few:((JZ cpos (Jz [e] X.env)).all (λx=>!x.1)&&(Lk cpos (Lf [] X.env)).all (λx=>x.1.isSome)
 &&decide (([e]:U ON).length+([]:U Km).length+(if([]:U Km).isEmpty then 0 else 1)<30))=Ju
 line:(apos.endLine==cpos.line)=Ju
 trees:JZ cpos (Jz [e] X.env)=[(Jt,OV e X.env)]
structure M2 (X:Cx)(o:ON)(m:Str)(apos:Pos)(e f:ON)(cpos:Pos):Prop where
 base:Li o m X.env (OV o X.env)=OV o X.env
 few:((JZ cpos (Jz [e,f] X.env)).all (λx=>!x.1)&&(Lk cpos (Lf [] X.env)).all (λx=>x.1.isSome)
 &&decide (([e,f]:U ON).length+([]:U Km).length+(if([]:U Km).isEmpty then 0 else 1)<30))=Ju
 line:(apos.endLine==cpos.line)=Ju
 trees:JZ cpos (Jz [e,f] X.env)=[(Jt,OV e X.env),(Jt,OV f X.env)]
def IsD (H:Hp)(a:OD):Prop:=(∃b,Rd H a<|.dK b)\/∃b,Rd H a<|.dT b
theorem lZ {X:Cx}{h:U<|OD×Obj}{l:St}{H:Hp}{s:Jv}{a:OD}(c:Inv X h l H s)(d:IsD H a):
  s.TypeIs (.ref a) "dict"/\(∀b,Value.ref a=.ref b->∃f,s.heap.get? b=Y f/\f.dict=J)/\(a==Ko)=false:=by
 rcases d with⟨k,e⟩|⟨k,e⟩
 .obtain ⟨_,hd,m,_,g⟩:=fJ c.hok e;refine⟨g.typeIs,λb q=>?_,hd⟩;cases q;obtain⟨f,_,_,i,j,_⟩:=g;exact⟨f,i,j.2.1⟩
 .obtain ⟨_,hd,n,_,g⟩:=gK c.hok e;refine⟨g.typeIs,λb q=>?_,hd⟩;cases q;obtain⟨f,_,_,i,j,_⟩:=g;exact⟨f,i,j.2.1⟩
section
variable {X:Cx}{pins:U (OD×Obj)}{σ:St}{H:Hp}{s:Jv}{a:OD}{y d:V}{u r:B}{o:L V}{A:JU}{E:B->Jv->Prop}
theorem Aq {Q:B->Jv->Prop}(x:A.units+1<O0)(c:Inv X pins σ H s)(g:DGet H a y o)(n:RelV y u)(h:∀t p,Inv X pins σ H p->RelV (o.getD .non) t->Q t p):
  OJ (JA X.prog X.w) A (call (.builtin "dict.get") [.ref a,u]) Q E s:=by
 rcases g with⟨m,k,e,j,l⟩|⟨m,k,b,e,j,v,l⟩
 .subst j;obtain⟨z,hd,F,f,i⟩:=fJ c.hok e;refine Lv K9 i.typeIs LR (Ni _ _) (meets_dict_get (aK X.prog X.w) a (fM n) hd) ⟨_,i.mapOf,h _ _ (c.tok _) ?_⟩;rw[l];exact(f.val k).getD rfl
 .subst j;cases(show u=Value.ref b from n);obtain⟨z,hd,D,f,i⟩:=gK c.hok e;refine Lv K9 i.typeIs LR (Ni _ _) (meetsH_dict_get (Ld<|aK X.prog X.w) a b hd) ⟨LN x,k,D,fA c.hok v,i,h _ _ (c.tok _) ?_⟩;rw[l];exact(f.val k).getD rfl
theorem B8 {Q:B->Jv->Prop}(x:A.units+1<O0)(c:Inv X pins σ H s)(g:DGet H a y o)(n:RelV y u)(rd:RelV d r)(h:∀t p,Inv X pins σ H p->RelV (o.getD d) t->Q t p):
  OJ (JA X.prog X.w) A (call (.builtin "dict.get") [.ref a,u,r]) Q E s:=by
 rcases g with⟨m,k,e,j,l⟩|⟨m,k,b,e,j,v,l⟩
 .subst j;obtain⟨z,hd,F,f,i⟩:=fJ c.hok e;refine Lv K9 i.typeIs LR (N1 _ _ _) (meets_dict_get_default (aK X.prog X.w) a (fM n) hd r) ⟨_,i.mapOf,h _ _ (c.tok _) ?_⟩;rw[l];exact(f.val k).getD rd
 .subst j;cases(show u=Value.ref b from n);obtain⟨z,hd,D,f,i⟩:=gK c.hok e;refine Lv K9 i.typeIs LR (N1 _ _ _) (meetsH_dict_get_default (Ld<|aK X.prog X.w) a b hd r) ⟨LN x,k,D,fA c.hok v,i,h _ _ (c.tok _) ?_⟩;rw[l];exact(f.val k).getD rd
end
def vC (e ty:TE):TE:=λd H Q=>e d H λx b=>∃a,x=.ref a/\IsD b a/\ty d b λy c=>∃o,DGet c a y o/\Q (o.getD .non) c
def q9 (f ty tx:TE):TE:=λb H Q=>f b H λx c=>∃a,x=.ref a/\IsD c a/\ty b c λy e=>tx b e λz d=>∃o,DGet d a y o/\Q (o.getD z) d
section
variable {X:Cx}{o e f:ON}{apos cpos:Pos}{td ty tx:TE}
theorem rj (w:X.A.units+1<O0)(ho:PE X o td)(v:PE X e ty)(m:M1 X o "get" apos e cpos):PE X (.Call (.Attribute o "get" apos) [e] [] cpos) (vC td ty):=by intro c s k H Q b h;refine L8 m.base m.few m.line Mu K9 Nb<|thn (ho c s k H _ b h) λu M ⟨x,l,j,F,a,t,d,z⟩=>?_;subst t;obtain rfl:u=Value.ref a:=F;obtain⟨N,P,_⟩:=lZ j d;refine⟨N,P,?_⟩;rw[m.trees];refine Calls.callWith_builtin rfl (Calls.evalArgs_plain<|Calls.spliced_cons<|thn (v c M k l _ j z) λiv s2 ⟨y,n,p,G,Z,g,D⟩=>Calls.spliced_nil ?_);exact Aq w p g G λw' s3 r i=>⟨_,n,r,i,D⟩
theorem rY (G:X.A.units+1<O0)(ho:PE X o td)(D:PE X e ty)(F:PE X f tx)(m:M2 X o "get" apos e f cpos):PE X (.Call (.Attribute o "get" apos) [e,f] [] cpos) (q9 td ty tx):=by
 intro c s j H Q b h;refine L8 m.base m.few m.line Mu K9 Nb<|thn (ho c s j H _ b h) λu s1 ⟨x,l,k,Z,a,w,d,M⟩=>?_;subst w;obtain rfl:u=Value.ref a:=Z;obtain⟨t1,t2,_⟩:=lZ k d;refine⟨t1,t2,?_⟩;rw[m.trees]
 refine Calls.callWith_builtin rfl (Calls.evalArgs_plain (Calls.spliced_cons (thn (D c s1 j l _ k M) λiv s2 ⟨y,n,r,ry,N⟩=>
  Calls.spliced_cons (thn (F c s2 j n _ r N) λfv s3 ⟨z,p,t,rz,ov,g,P⟩=>Calls.spliced_nil ?_))))
 exact B8 G t g ry rz λw' s4 v i=>⟨_,p,v,i,P⟩
end
section
variable {X:Cx}{pins:U (OD×Obj)}{σ:St}{H:Hp}{s:Jv}{a:OD}{kvs:U (Key×V)}{A:JU}{E:B->Jv->Prop}
theorem rK {Q:B->Jv->Prop}(c:Inv X pins σ H s)(e:Rd H a<|.dK kvs)(h:∀p i,H p=J->Inv X pins σ (upd H p<|.dK kvs) i->Q (.ref p) i):OJ (JA X.prog X.w) A (call (.type "dict") [.ref a]) Q E s:=by obtain⟨z,hd,m,d,j⟩:=fJ c.hok e;refine kt_call_dict hd j (by rw[<- d.length];exact z) λl f k=>?_;refine h _ _ (c.hok.fresh<|JE _)<|c.laid (a:=s.heap.objs.size) (o:=.dK kvs) (t':=s.toks) (λb q g=>?_) (JE _)<|jR z (beq_eq_false_iff_ne.mpr<|Kv<|J7 c.big) d f;exact(k.2 b<|J7<|Heap.lt_size g).trans<|Heap.get?_push_of_some _ g
end
end L2

set_option maxHeartbeats 4000000
namespace L3
open PySem PySem.Spec PyProof.Rows L2
abbrev noX:B->Jv->Prop:=λ_ _=>OS
theorem iw {P:OI}{w:Jy}{H:Hp}{h:OT}{a:OD}{o:HO}(x:HOk P w H h)(g:H a=J)(d:ObjOk P w (upd H a o) h a o):HOk P w (upd H a o) h:=by
 intro b u e;by_cases f:b=a
 .subst f;rw[aq] at e;cases e;exact d
 .rw [ag f] at e;refine(x b u e).stay (λc v _ q=>q) (λc q=>?_) (λc i q=>?_)
  .rw[ag<|aR q g];exact q
  .rw[ag<|aR q g];exact q
section
variable {prog:OI}{w:Jy}{A:JU}{R:Result->Jv->Prop}{s:Jv}
theorem mX {o H f:ON}{c:OZ}{F:Pos}{G l:B}{b:Env}(a:O->Jv->Prop)
  (turn:∀ n s,a n s->OJ (JA prog w) A (pyNext G) (fun r d=>match r with
   |none=>R (.ok .next) d
   | some v=>OJ (JA prog w) A (Lw H G v) (fun _ g=>OJ (JA prog w) A (KW H b v) (fun _ i =>
     OJ (JA prog w) A (OV o b) (λy j=>OJ (JA prog w) A (call (.builtin "list.append") [l,y]) (λ_ k=>∃m,m<n/\a m k) noX j) noX i) noX g) noX d) noX s)
  (n:O) (h:a n s):K1 (JA prog w) A (.compLoop (.ListComp o [⟨H,f,[],0⟩] c F) 0 G l b) R s:=by
 refine codeAny_loop rfl a (λn s M=>?_) n h;show OJ _ A ((compTurn (.ListComp o [⟨H,f,[],0⟩] c F) 0 G l b).onRaise (λx=>do noteFrame x b;theTreesLotGoes x)) _ _ s;refine wpAny_noted ?_;rw[compTurn_list];refine JD<|Pf<|JD<|J5 (turn n s M) (λr d e=>?_) λ_ _ z=>z.elim;cases r with
 |none=>exact JO e
 |some v=>refine JD<|J5 e (λ_ g p=>?_) λ_ _ z=>z.elim;refine JD<|J5 p (λ_ i t=>?_) λ_ _ z=>z.elim;refine JD<|wpAny_tests_nil ?_;exact JD<|JD<|J5 t (λy j u=>JD<|J5 u (λ_ k D=>JO<|JO ⟨rfl,D⟩) λ_ _ z=>z.elim) λ_ _ z=>z.elim
end
def az (X:Cx)(N:U Str)(a:OZ)(b:U<|Str×OD)(C:OD)(s:Jv)(H:Hp)(c:U OD):Cx where
 prog:=X.prog
 w:=X.w
 K:=X.K
 mg:=X.mg
 base:=X.base
 A:=X.A
 N:=N
 s₀:=s
 H₀:=H
 env:=compEnvC a b C X.env
 outer:=X.stack
 stack:=X.stack
 ex:=c
 fn:=λ_=>Jt
 calm:=X.calm
 pn:=X.pn
 xe:=noX
inductive Clo (X:Cx):U (Str×OD)->Prop
 |nil:Clo X []
 |cons {y:Str} {c:OD} {cl:U (Str×OD)}:X.env.cells.lookup y=Y c->Clo X cl->Clo X ((y,c)::cl)
theorem Clo.get {X:Cx}{a:U<|Str×OD}(h:Clo X a):∀{y:Str} {c:OD},a.lookup y=Y c->X.env.cells.lookup y=Y c:=by
 induction h with
 |nil=>intro y c e;cases e
 | @cons z d b f _ g =>
  intro y c e;cases q:y==z with
  |true=>simp only[KC,q] at e;cases e;rw[eq_of_beq q];exact f
  |false=>simp only[KC,q] at e;exact g e
inductive Frees (X:Cx)(scope:OZ)(cl:U (Str×OD)):U Str->U O->Prop
 |nil:Frees X scope cl [] []
 | cons {y:Str} {ys:U Str} {i:O} {is:U O} {c:OD}:X.N[i]?=Y y->Vis X.env.scope y->(X.env.kindOf y=Y .cell\/X.env.kindOf y=Y .free)->X.env.cells.lookup y=Y c->cl.lookup y=Y c ->
   ((Lj scope X.env).names.lookup y=Y .cell\/(Lj scope X.env).names.lookup y=Y .free)->Frees X scope cl ys is->Frees X scope cl (y::ys) (i::is)
theorem Frees.len {X:Cx}{a:OZ}{d:U<|Str×OD}{c:U Str}{b:U O}(F:Frees X a d c b):b.length=c.length:=by
 induction F with
 |nil=>rfl
 |cons _ _ _ _ _ _ _ e=>rw[JY,JY,e]
def cJ (b:L2.St)(a:U O):L2.St:=a.map λi=>(b[i]?).join
theorem Frees.get {X:Cx}{a:OZ}{d:U<|Str×OD}{f:U Str}{b:U O}{σ:L2.St}(F:Frees X a d f b):∀{j:O} {y:Str} {v:V},f[j]?=Y y->(cJ σ b)[j]?=Y (Y v) ->
  ∃(i:O) (c:OD),X.N[i]?=Y y/\σ[i]?=Y (Y v)/\Vis X.env.scope y/\(X.env.kindOf y=Y .cell\/X.env.kindOf y=Y .free)/\X.env.cells.lookup y=Y c/\d.lookup y=Y c /\
   ((Lj a X.env).names.lookup y=Y .cell\/(Lj a X.env).names.lookup y=Y .free):=by
 induction F with
 |nil=>intro j y v e;simp at e
 | @cons z r i b c g h k l m n _ p =>
  intro j y v e1 e2;unfold cJ at e2;rw[JQ] at e2;cases j with
  | zero =>
   rw[Nh] at e1 e2;cases e1;cases q:σ[i]? with
   |none=>rw[q] at e2;cases e2
   |some o=>rw[q] at e2;have e3:o=Y v:=Kg e2;subst e3;exact⟨i,c,g,q,h,k,l,m,n⟩
  |succ j=>rw[KR] at e1 e2;exact p e1 e2
abbrev jD (a:U B):Obj:={cls:=.type "list",data:=.seq a.toArray a.length}
inductive Th where
 |non|bl (b:OF)|int (i:I)|str (x:Str)|tup (ts:U Th)|lst (ts:U Th)
mutual
def Has (K:Jw)(H:Hp):Th->V->Prop
|.non,v=>v=.non
|.bl b,v=>v=.bl b
|.int i,v=>v=.int i
|.str x,v=>v=.str x
|.tup ts,v=>∃a vs,v=.ref a/\SqT K H a vs/\HasL K H ts vs
|.lst ts,v=>∃a vs,v=.ref a/\H a=Y (.lst vs)/\HasL K H ts vs
def HasL (K:Jw)(H:Hp):U Th->U V->Prop
|[],vs=>vs=[]
|t::ts,vs=>∃v r,vs=v::r/\Has K H t v/\HasL K H ts r
end
noncomputable def Th.ty:Th->OL
|.non=>"NoneType" |.bl _=>"bool" |.int _=>"int" |.str _=>"str" |.tup _=>"tuple" |.lst _=>"list"
def isI (c:OL)(t:Th):OF:=t.ty==c || (t.ty=="bool"&&c=="int")
theorem kit_type {K:Jw}{A a:OL}:Lp K (.type A) (.type a)=Lp [] (.type A) (.type a):=by unfold Lp PySem.W.kitCls Nv;rfl
theorem CK:∀c∈["tuple","str","bool","int","list"],∀n∈["NoneType","bool","int","str","tuple","list"],Lp [] (.type n) (.type c)=Y (n==c || (n=="bool"&&c=="int")):=by decide +kernel
theorem BN (t:Th):t.ty∈["NoneType","bool","int","str","tuple","list"]:=by cases t<;>simp[Th.ty]
theorem Al {c:OL}(a:c∈["tuple","str","bool","int","list"])(t:Th):Lp [] (.type t.ty) (.type c)=Y (isI c t):=CK c a t.ty<|BN t
structure DTab (K:Jw)(w:Jy)(a:OD)(T:U (Str×V)):Prop where
 ex:∃es n,K.lookup a=Y ⟨.type "dict",J,.dict es n,#[]⟩/\NI w.params es.toList/\Paired (λ(p:Str×V) (e:OX)=>(∃t,e.key=.str p.1 t)/\RelV p.2 e.val) T es.toList
 lo:(a==Ko)=Jt
theorem kJ {x:Str}:∀{T:U<|Str×V} {l:U OX},Paired (λ(p:Str×V) (e:OX)=>(∃t,e.key=.str p.1 t)/\RelV p.2 e.val) T l->RelO (T.lookup x) ((l.find? λd=>Value.isStrOf x d.key).map (·.val))
|_,_,.nil=>trivial
| (k,v)::T,e::l,.cons ⟨⟨t,b⟩,c⟩ r=>by
 have f:=kJ (x:=x) r
 have q:Value.isStrOf x e.key=(x==k):=by
  have a:e.key=.str k t:=b;rw[a];show(k==x)=(x==k);by_cases z:x=k
  .subst z;rfl
  .rw[O6 z,O6<|Kv z]
 rw[Lq,q,KC];cases x==k with
 |true=>exact c
 |false=>exact f
theorem DTab.map {K:Jw}{w:Jy}{a:OD}{T:U<|Str×V}{P:OI}{h:OT}(D:DTab K w a T)(X:K.In h):∃f:Str->L B,h.MapOf (strKind P w) a f/\∀x,RelO (T.lookup x) (f x):=by
 obtain⟨b,n,c,g,i⟩:=D.ex;refine⟨_,PySem.W.mapOf_K (prog:=P) X c g,λx=>?_⟩;have q:=kJ (x:=x) i;have e:findBy Value.isStrOf b x=(b.toList.find? λd=>Value.isStrOf x d.key).map (·.val):=by unfold findBy;rw[<- N8]
 rw[e];exact q
theorem RelO.some_is {v:V}{o:L B}(r:RelO (Y v) o):∃u,o=Y u/\RelV v u:=by
 cases o with
 |none=>exact r.elim
 |some u=>exact⟨u,rfl,r⟩
theorem RelO.same_some {o:L V}{u:L B}(r:RelO o u):u.isSome=o.isSome:=by
 cases o with
 |none=>
  cases u with
  |none=>rfl
  |some u=>exact r.elim
 |some v=>obtain⟨u,rfl,_⟩:=RelO.some_is r;rfl
section
variable {X:Cx}
theorem vG:OpR X (Kh .In) (λx y H Q=>∃z a T,x=.str z/\y=.ref a/\DTab X.K X.w a T/\Q (.bl (T.lookup z).isSome) H):=by intro c s j H x y v u Q b g i h;obtain⟨z,a,T,rfl,rfl,D,q⟩:=h;obtain⟨t,rfl⟩:=g;cases i;obtain⟨f,e,d⟩:=D.map (P:=X.prog) b.kIn;refine wpAny_in_of (Ph X.prog X.w z t) D.lo e ?_;rw[RelO.same_some<|d z];exact⟨.bl (T.lookup z).isSome,H,b.tok _,rfl,q⟩
theorem kf:OpR X (Kh .NotIn) (λx y H Q=>∃z a T,x=.str z/\y=.ref a/\DTab X.K X.w a T/\Q (.bl<|!(T.lookup z).isSome) H):=by intro c s j H x y v u Q b g i h;obtain⟨z,a,T,rfl,rfl,D,q⟩:=h;obtain⟨t,rfl⟩:=g;cases i;obtain⟨f,e,d⟩:=D.map (P:=X.prog) b.kIn;refine wpAny_notIn_of (Ph X.prog X.w z t) D.lo e ?_;rw[RelO.same_some<|d z];exact⟨.bl<|!(T.lookup z).isSome,H,b.tok _,rfl,q⟩
theorem BW:IxR X (λx y H Q=>∃a z T v,x=.ref a/\y=.str z/\DTab X.K X.w a T/\T.lookup z=Y v/\Q v H):=by intro d c i s p H x y v u Q b m n h k;obtain⟨a,z,T,r,rfl,rfl,D,l,q⟩:=h;cases m;obtain⟨t,rfl⟩:=n;obtain⟨f,g,j⟩:=D.map (P:=X.prog) b.kIn;have e:=j z;rw[l] at e;obtain⟨o,e1,e2⟩:=RelO.some_is e;exact tail_any g.typeIs Ou.lookup (wpAny_getItem_of (Ph X.prog X.w z t) g e1 ⟨r,H,b.tok _,e2,q⟩) k
end
theorem ku {H:Hp}{p:OD}(h:H p=J)(o:HO):Same H (upd H p o):=λb u q=>by rw[ag<|aR q h];exact q
def zN (K:Jw):R2:=λx y H Q=>∃a b d f,x=.ref a/\y=.ref b/\SqT K H a d/\SqT K H b f/\d≠[]/\d.length+f.length<=sizeLine/\∀v e,Same H e->(∃c,v=.ref c/\SqT K e c (d++f))->Q v e
theorem nW {X:Cx}:OpR X (Kk .Add) (zN X.K):=λd s m H x y v u Q c i j h=>by obtain⟨a,b,k,l,e1,e2,e,f,hx,g,q⟩:=h;exact yy d s m H x y v u Q c i j ⟨a,b,k,l,e1,e2,e,f,hx,g,λz=>q _ _ (Same.refl _) ⟨a,rfl,by rw[z,JR];exact e⟩,λ_ p hp=>q _ _ (ku hp _) ⟨p,rfl,SqT.of aq⟩⟩
theorem EJ {X:Cx}{x:Str}{T:OL}{a:Pos}(b:Gl X x)(c:X.mg x=J)(e:K4 x=Y (.type T))(d:x≠"__name__":=by decide)(hd:(x==("__debug__":Str))=false:=by decide):PE X (.Name x a) (tC<|.ty T):=wF (v:=.ty T) b c e rfl d hd
theorem jd {X:Cx}{x:Str}{a:OD}{b:Pos}(c:Gl X x)(d:X.mg x=Y (.ref a))(hd:(x==("__debug__":Str))=false:=by decide):PE X (.Name x b) (tC<|.ref a):=oB (v:=.ref a) c d rfl hd
theorem fL (a:U I):∀k,k<=a.length->preSum (λi=>a.getD i 0) k=(a.take k).sum
|0,_=>rfl
|k+1,h=>by have b:=fL a k (by lia);show preSum (λi=>a.getD i 0) k+a.getD k 0=_;rw[b,List.take_succ,List.sum_append,Mv,KZ<|show k<a.length by lia];simp
theorem oV {X:Cx}(G:X.calm=Ju):df X (.builtin "sum") (λD H Q=>∃(a:OD) (d:U I),D=[.ref a]/\SqL X.K H a (d.map V.int)/\Q (.int d.sum) H):=by
 intro z s σ H D us Q c r h;obtain⟨a,d,rfl,F,q⟩:=h;obtain⟨u,rfl,P⟩:=fK r;cases P;obtain⟨f,w,p,hz⟩:=c.list F;have j:f.toArray.size=d.length:=by rw[J1,<- w.length,JF]
 have l:a<s.heap.objs.size:=by obtain⟨o,e,_⟩:=p.isList;exact Heap.lt_size e
 refine call_sum_walkG<|wpAny_pyIter_list p.isList ?_;refine⟨s.heap.objs.size,_,_,_,_,_,λi=>d.getD i 0,rfl,Walks.list (A:=X.A.in1) (show X.A.in1.handled=J from c.ok.hd G) s.heap.objs.size a (J7 l) f.toArray,⟨⟨_,Heap.get?_push_size _ rfl,rfl,rfl⟩,p.isList.push _⟩,λb n=>?_,λi v N=>?_,λh' tk Z k=>?_⟩
 .show b<(s.heap.push _).objs.size;rw[Heap.size_push];rcases JX.mp n with rfl|n
  .exact Nat.lt_succ_self _
  .rw[J4.mp n];exact Oo l
 .have m:f[i]?=Y v:=by simpa using N
  have hi:i<f.length:=(KD.mp m).1;have g:i<d.length:=by have:=w.length;rw[JF] at this;lia
  obtain⟨w',e1,e2⟩:=w.get (i:=i) (x:=.int d[i]) (by rw[Ki,KZ g];rfl);rw[m] at e1;cases e1;obtain⟨t,rfl⟩:=e2;have e3:d.getD i 0=d[i]:=by rw[Mv,KZ g];rfl
  exact⟨t,by show Value.int d[i] t=Value.int (d.getD i 0) t;rw[e3]⟩
 .have e:preSum (fun i=>d.getD i 0) f.toArray.size=d.sum:=by rw[j,fL d _ (JE _),List.take_length]
  rw[e]
  exact⟨.int d.sum,H,c.kept (λb o y=>k b o (λM=>by
   have:b=s.heap.objs.size:=by simpa using M
   exact OH (this ▸ Heap.lt_size y)<|Lo _)<|Heap.get?_push_of_some _ y),⟨Z,rfl⟩,q⟩
mutual
def toD:Th->PyData
|.non=>.none
|.bl b=>.bool b
|.int i=>.int i
|.str x=>.str x
|.tup ts=>.tuple<|fR ts
|.lst ts=>.list<|fR ts
def fR:U Th->U PyData
|[]=>[]
|t::ts=>toD t::fR ts
end
section
variable {X:Cx}{pins:U (OD×Obj)}{σ:L2.St}{H:Hp}{s:Jv}
mutual
theorem Has.reads (I:Inv X pins σ H s):∀{t:Th} {v:V} {u:B},Has X.K H t v->RelV v u->∃as,Reads s.heap u (toD t) as
|.non,_,u,h,r=>by obtain rfl:_=V.non:=h;obtain rfl:u=Value.none:=r;exact⟨_,.none⟩
|.bl b,_,u,h,r=>by obtain rfl:_=V.bl b:=h;obtain rfl:u=Value.bool b:=r;exact⟨_,.bool b⟩
|.int i,_,u,h,r=>by obtain rfl:_=V.int i:=h;obtain⟨t,rfl⟩:∃t,u=Value.int i t:=r;exact⟨_,.int i t⟩
|.str x,_,u,h,r=>by obtain rfl:_=V.str x:=h;obtain⟨t,rfl⟩:∃t,u=Value.str x t:=r;exact⟨_,.str x t⟩
|.tup ts,_,u,⟨a,vs,e,hS,hL⟩,r=>by subst e;obtain rfl:u=Value.ref a:=r;obtain⟨its,rv,⟨o,h1,h2,n,h3⟩,_⟩:=I.tuple hS;obtain⟨as,ra⟩:=HasL.reads I hL rv;exact⟨_,.tuple h1 h2 h3<|by simpa using ra⟩
|.lst ts,_,u,⟨a,vs,e,hS,hL⟩,r=>by subst e;obtain rfl:u=Value.ref a:=r;obtain⟨its,rv,⟨o,n,h1,h2,_,h3⟩,_⟩:=I.list<|SqL.of hS;obtain⟨as,ra⟩:=HasL.reads I hL rv;exact⟨_,.list h1 h2 h3<|by simpa using ra⟩
theorem HasL.reads (I:Inv X pins σ H s):∀{ts:U Th} {vs:U V} {us:U B},HasL X.K H ts vs->Vals vs us->∃as,ReadsAll s.heap us (fR ts) as
|[],vs,us,h,r=>by obtain rfl:vs=[]:=h;cases r;exact⟨_,.nil⟩
| t::ts,vs,us,⟨v,w',e,h1,h2⟩,r=>by
 subst e;cases r with
 |cons r1 r2=>obtain⟨as,ra⟩:=Has.reads I h1 r1;obtain⟨bs,rb⟩:=HasL.reads I h2 r2;exact⟨_,.cons ra rb⟩
end
end
abbrev okTh (t:Th):Prop:=SeqAt.shaped (toD t)=Ju
theorem nR {X:Cx}(f:X.A.units+64<O0):OpR X (Kh .Eq) (λx y H Q=>∃t b,Has X.K H t x/\Has X.K H b y/\okTh t/\okTh b/\Q (.bl<|PyData.eqv (toD t)<|toD b) H):=by intro c s n H x y v u Q a l m h;obtain⟨t,b,d,e,g,i,q⟩:=h;obtain⟨as,j⟩:=Has.reads a d l;obtain⟨bs,k⟩:=Has.reads a e m;exact OB j k g i f ⟨.bl _,H,a,rfl,q⟩
theorem yx {X:Cx}(f:X.A.units+64<O0):OpR X (Kh .NotEq) (λx y H Q=>∃t b,Has X.K H t x/\Has X.K H b y/\okTh t/\okTh b/\Q (.bl<|!PyData.eqv (toD t) (toD b)) H):=by intro c s n H x y v u Q a l m h;obtain⟨t,b,d,e,g,i,q⟩:=h;obtain⟨as,j⟩:=Has.reads a d l;obtain⟨bs,k⟩:=Has.reads a e m;exact OA j k g i f ⟨.bl _,H,a,rfl,q⟩
section
variable {prog:OI}{w:Jy}{A:JU}{E:B->Jv->Prop}{s:Jv}
theorem eI {t i:OD}{a:OY B}{l m:B}{lo d:L I}{Q:B->Jv->Prop}(b:Pj s.heap t a)(j:s.heap.IsSliceOf i l m .none)(o:KN l lo)(p:KN m d)
  (k:HT.sIx a.size 0 lo=0/\HT.sIx a.size a.size d=a.size) (h:Q (.ref t) s):OJ (JA prog w) A (KO (.ref t)<|.ref i) Q E s:=by
 obtain⟨os,g,f,n⟩:=id j;have e:s.TypeIs (.ref i) "slice":=⟨os,g,f⟩;unfold KO
 try with_reducible refine wpAny_holding ?_
 first|refine JD (JO ?_)|skip
 refine JD<|wpAny_sequenceKey b.typeIs (by decide) ?_
 refine JD (Ma (name:=Str.ofString "__getitem__") b.typeIs LJ
  (L7 LJ b.typeIs entry_tuple_getitem ?_<|args_tuple_getitem _ _))
 show OJ _ _ (Builtin.Tuple.tupleItemsOf (.ref t) >>= _) _ _ s;refine JD<|tupleItemsOf_ b ?_;refine JD<|Pn e ?_;rw[OG<|by decide];refine JD<|HT.sliceApplied_gen j o p ?_;have c:(((HT.sIx a.size 0 lo:O):I)==0&&(1:I)==1&&(HT.sIx a.size a.size d-HT.sIx a.size 0 lo)==a.size)=true:=by rw[k.1,k.2];simp
 show OJ _ _ (if(((HT.sIx a.size 0 lo:O):I)==0&&(1:I)==1&&(HT.sIx a.size a.size d-HT.sIx a.size 0 lo)==a.size)=Ju then _ else _) _ _ s;rw[OG c];unfold Builtin.Tuple.tupleIsExact;refine JD<|JD<|Pn b.typeIs<|JO ?_;rw[OG<|by decide]
 first
  |exact JD<|wpAny_rule<|JO ⟨_,rfl,JO h⟩
  |exact JD<|wpAny_rule<|JD<|JO<|JO ⟨_,rfl,JO h⟩
end
section
variable {X:Cx}
def C9 (K:Jw):V->L I->L I->Hp->VK->Prop:=λx lo e H Q=>∃a d,x=.ref a/\SqT K H a d/\∀v b,Same H b->(∃c,v=.ref c/\SqT K b c (eD d lo e))->Q v b
theorem wB:SlR X (C9 X.K):=by
 intro f s y H x v u w lo i t Q b o k m n h;obtain⟨a,c,rfl,hx,q⟩:=h;by_cases g:HT.sIx c.length 0 lo=0/\HT.sIx c.length c.length i=c.length
 .cases o;obtain⟨j,r,l,z⟩:=b.tuple hx;have d:j.toArray.size=c.length:=by rw[J1];exact r.length.symm
  refine⟨"tuple",_,LJ.lookup,l.typeIs,?_⟩;refine eI l k m n (by rw[d];exact g) ⟨.ref a,H,b,rfl,q _ _ (Same.refl H) ⟨a,rfl,?_⟩⟩;have e:eD c lo i=c:=by unfold eD;rw[g.1,g.2];simp
  rw[e];exact hx
 .exact BI f s y H _ v u w lo i t Q b o k m n ⟨a,c,rfl,hx,g,λp hp=>q _ _ (ku hp _) ⟨p,rfl,SqT.of aq⟩⟩
end
def HB (K:Jw):R2:=λx y H Q=>∃p a i v,x=.ref p/\y=.int i/\(SqL K H p a\/SqT K H p a)/\atI a i=Y v/\Q v H
theorem ix_any {X:Cx}:IxR X (HB X.K):=λc b d s m H x y v u Q a j k h g=>by
 obtain⟨p,l,i,z,e1,e2,e,f,q⟩:=h;rcases e with e|e
 .exact zd c b d s m H x y v u Q a j k ⟨p,l,i,z,e1,e2,e,f,q⟩ g
 .exact Cd c b d s m H x y v u Q a j k ⟨p,l,i,z,e1,e2,e,f,q⟩ g
end L3

namespace L3
open PySem PySem.Spec PySem.Builtin PySem.Builtin.Str PyProof.Rows L2
theorem iB:∀{b:U Ku} {a:U B},Vals (b.map V.str) a->∃l:U<|Ku×Tok,a=Pt l/\l.map (·.1)=b
|[],_,h=>by cases h;exact⟨[],rfl,rfl⟩
| t::b,_,h=>by
 cases h with
 |cons c d=>obtain⟨k,rfl⟩:=c;obtain⟨l,rfl,e⟩:=iB d;exact⟨(t,k)::l,rfl,by rw[JQ,e]⟩
theorem ee:∀(l:U<|Ku×Tok),Vals ((l.map (·.1)).map V.str)<|Pt l
|[]=>.nil
|p::l=>.cons ⟨p.2,rfl⟩<|ee l
section
variable {X:Cx}
def zJ (K:Jw):V->U V->Hp->VK->Prop:=λx b H Q=>∃z p a,x=.str z/\b=[.ref p]/\SqL K H p (a.map V.str)/\JoinOk z a=Ju/\Q (.str<|Ke z a) H
theorem xH:MtR X "str.join" (zJ X.K):=by intro d s A H x y v w Q a n m h;obtain⟨z,p,b,rfl,rfl,f,c,q⟩:=h;obtain⟨t,rfl⟩:=n;obtain⟨u,rfl,j⟩:=m.one;cases j;obtain⟨g,r,i,_⟩:=a.list f;obtain⟨l,rfl,e⟩:=iB r;exact SC.join i.isList e c λo k=>⟨.str<|Ke z b,H,a.tok _,⟨o,by rw[show Txt.join z b=Ke z b from StrLaws.glued_eq_join z b]⟩,q⟩
def t5:V->U V->Hp->VK->Prop:=λx a H Q=>∃z y,x=.str z/\a=[.str y]/\(y.length==0)=Jt/\z.length+2<=sizeLine/\∀p,H p=J->Q (.ref p) (upd H p<|.lst<|(Txt.split z y).map V.str)
theorem ue:MtR X "str.split" t5:=by
 intro c s m H x r v p Q a j i h;obtain⟨x,y,rfl,rfl,d,f,q⟩:=h;obtain⟨t,rfl⟩:=j;obtain⟨n,rfl,g⟩:=i.one;obtain⟨u,rfl⟩:=g;have b:(Txt.split x y).length<=sizeLine:=by have:=StrLaws.occ_length_le x y 0 x.length<|x.length+1;simp only[Txt.split,apply_ite LG,length_partsBetween,JL];split<;>(try split)<;>lia
 have out:∀(l:U (Ku×Tok)) (k:O),Txt.split x y=l.map (·.1)->EP X c m Q (.ref s.heap.objs.size) {s with heap:=s.heap.push {cls:=.type "list",data:=.seq (Pt l).toArray},toks:=k}:=λl k e=>
  ⟨.ref _,_,a.lnew (t':=k) (its:=Pt l) (ys:=(Txt.split x y).map V.str) (by rw[e];exact ee l)<|by rw[JF];exact b,rfl,q _ a.fresh⟩
 unfold Txt.split at b out;split at out
 next no=>exact Le F.slot_str_split (LO _ _ _) F.entry_str_split (F.args_str_split_2 _ _) (meets_str_split_cannot_occur x y t u no)<|out [(x,t)] s.toks rfl
 next may=>
  rw[OK may] at b;rw[Oi] at may;split at out
  next no=>exact Le F.slot_str_split (LO _ _ _) F.entry_str_split (F.args_str_split_2 _ _) (meets_str_split_not_found x y t u may d no)<|out [(x,t)] s.toks rfl
  next yes=>rw[OK yes] at b;rw[Oi] at yes;have o:=λk=>out (numbered s.toks _) k (numbered_texts s.toks _).symm;rw[<- strsFrom_eq] at o;exact Le F.slot_str_split (LO _ _ _) F.entry_str_split (F.args_str_split_2 _ _) (meets_str_split_sep x y t u may d yes (by lia) b)<|o _
end
theorem jW {f:Type}{c:f}:∀{x y r z:U f},c ∉ x->c ∉ y->x++c::r=y++c::z->x=y/\r=z
|[],[],_,_,_,_,e=>⟨rfl,(LV e).2⟩
|[],b::y,_,_,_,d,e=>OH (by rw[(LV e).1];exact JJ) d
|a::x,[],_,_,hx,_,e=>OH (by rw[<- (LV e).1];exact JJ) hx
|a::x,b::y,r,z,hx,d,e=>by obtain⟨g,h⟩:=jW (λm=>hx<|JW _ m) (λm=>d<|JW _ m) (LV e).2;exact⟨by rw[g,(LV e).1],h⟩
theorem aU (x y:Ku):(x++y).cps.toList=x.cps.toList++y.cps.toList:=Od
theorem kB (c:O):∀(g i:U Ku),g≠[]->i≠[]->(∀p∈g,c ∉ p.cps.toList)->(∀p∈i,c ∉ p.cps.toList)->Ke ⟨#[c]⟩ g=Ke ⟨#[c]⟩ i->g=i
|[],_,h,_,_,_,_=>OH rfl h
|_::_,[],_,h,_,_,_=>OH rfl h
|[x],[y],_,_,_,_,e=>by rw[show x=y from e]
|[x],y::b::r,_,_,hx,_,e=>by have d:x=y++⟨#[c]⟩++Ke ⟨#[c]⟩ (b::r):=e;refine OH ?_<|hx x JJ;rw[d,aU,aU];exact K8 _<|J2 _ JJ
|x::a::r,[y],_,_,_,f,e=>by have d:x++⟨#[c]⟩++Ke ⟨#[c]⟩ (a::r)=y:=e;refine OH ?_<|f y JJ;rw[<- d,aU,aU];exact K8 _<|J2 _ JJ
| x::a::r,y::b::z,_,_,hx,f,e=>by
 have d:x++⟨#[c]⟩++Ke ⟨#[c]⟩ (a::r)=y++⟨#[c]⟩++Ke ⟨#[c]⟩ (b::z):=e;have e2:=OQ (λs=>s.cps.toList) d;simp only[aU] at e2;have e3:x.cps.toList++c::(Ke ⟨#[c]⟩ (a::r)).cps.toList=y.cps.toList++c::(Ke ⟨#[c]⟩ (b::z)).cps.toList:=by simpa using e2
 obtain⟨l,j⟩:=jW (hx x JJ) (f y JJ) e3;have k:x=y:=by cases x;cases y;exact OQ M7<|Mz.mp l
 have m:Ke ⟨#[c]⟩ (a::r)=Ke ⟨#[c]⟩ (b::z):=by revert j;generalize Ke ⟨#[c]⟩ (a::r)=u;generalize Ke ⟨#[c]⟩ (b::z)=v;intro j;cases u;cases v;exact OQ M7<|Mz.mp j
 rw[k,kB c (a::r) (b::z) (K0 _ _) (K0 _ _) (λp hp=>hx p<|JW _ hp) (λp hp=>f p<|JW _ hp) m]
theorem uj (x y:Ku):Txt.split x y≠[]:=by
 unfold Txt.split;split
 .exact K0 _ _
 .split
  .exact K0 _ _
  .intro h;have e:=OQ LG h;rw[length_partsBetween] at e;exact OH e<|Nat.succ_ne_zero _
end L3

namespace L3
open PySem PySem.Spec PyProof.Rows L2
def ItO (h:OT):OF->OD->OD->O->Prop
|true,b,a,n=>h.IsTupleIter b a n
|false,b,a,n=>h.IsListIter b a n
section
variable {prog:OI}{w:Jy}{A:JU}{E:B->Jv->Prop}{s:Jv}
theorem lV {b t:OD}{i:O}{f:OY B}{x:B}{Q:B->Jv->Prop}(a:s.heap.IsTupleIter b t i)(j:s.heap.IsTuple t f)(hx:f[i]?=Y x)
  (q:∀e,e.IsTupleIter b t (i+1)->Heap.SameBut b s.heap e->Q x {s with heap:=e}):OJ (JA prog w) A (Builtin.SmallTypes.nextOf<|.ref b) Q E s:=by
 obtain⟨u,d,g,c⟩:=id a;obtain⟨v,k,_,l,h⟩:=j;unfold Builtin.SmallTypes.nextOf;refine JD<|Ma (name:=Str.ofString "__next__") a.typeIs F.slot_tuple_iterator_next<|L7 F.slot_tuple_iterator_next a.typeIs F.entry_tuple_iterator_next ?_<|F.args_tuple_iterator_next_1 _;show OJ _ _ (field (.ref b) 0 >>= _) _ _ _;refine JD<|Lh d c (x:=.ref t) rfl ?_;show OJ _ _ (if(Value.ref t==Value.none)=Ju then _ else _) _ _ _;rw[OK<|by intro z;cases z];show OJ _ _ (field (.ref b) 1 >>= _) _ _ _;refine JD<|Lh d c (x:=.int i 0) rfl ?_;show OJ _ _ (seqItems? (.ref t) >>= _) _ _ _;refine JD<|wpAny_seqItems k h ?_;simp only[hx,MY];exact JD<|wpAny_setField d c (by simp)<|JO ⟨x,rfl,JO<|q _ ⟨_,Heap.get?_update_self _ d<|Obj.isFreed_of_fields<|Obj.data_mapFields c _,(Obj.cls_mapFields ..).trans g,by rw[Obj.data_mapFields c];simp[rawInt]⟩<|Heap.SameBut.update ..⟩
theorem i0 {c t:OD}{i:O}{j:OY B}{Q:B->Jv->Prop}(h:A.handled=J)(b:s.heap.IsTupleIter c t i)(l:s.heap.IsTuple t j)(hx:j[i]?=J)
  (q:∀f e,Heap.ExtBut c s.heap f->(∃o,f.get? e=Y o/\o.cls=.type "StopIteration")->E (.ref e) {s with heap:=f}):OJ (JA prog w) A (Builtin.SmallTypes.nextOf<|.ref c) Q E s:=by
 obtain⟨u,g,p,d⟩:=id b;obtain⟨v,n,_,r,k⟩:=l;unfold Builtin.SmallTypes.nextOf;refine JD<|Ma (name:=Str.ofString "__next__") b.typeIs F.slot_tuple_iterator_next<|L7 F.slot_tuple_iterator_next b.typeIs F.entry_tuple_iterator_next ?_<|F.args_tuple_iterator_next_1 _;show OJ _ _ (field (.ref c) 0 >>= _) _ _ _;refine JD<|Lh g d (x:=.ref t) rfl ?_;show OJ _ _ (if(Value.ref t==Value.none)=Ju then _ else _) _ _ _;rw[OK<|by intro z;cases z];show OJ _ _ (field (.ref c) 1 >>= _) _ _ _;refine JD<|Lh g d (x:=.int i 0) rfl ?_;show OJ _ _ (seqItems? (.ref t) >>= _) _ _ _;refine JD<|wpAny_seqItems n k ?_;simp only[hx,MY];refine JD<|wpAny_rule<|JD<|wpAny_setField g d (by simp) ?_;show OJ _ _ (newExc (.type "StopIteration") [] >>= _) _ _ _;refine JD ?_;simp only[newTuple,newExc];refine JD (Lc ?_<|by size_fits);refine JD (m:=firstArgMember _ _) (wpAny_of_eq (a:=Value.none) (by first|rfl|(simp only[firstArgMember];rfl))<|Lc ?_<|by size_fits);simp only[raiseNew];refine JD<|wpAny_handled ?_;first|rw[h]|rw[show A.in1.handled=J from h]
 exact JD<|JO<|wpAny_throw<|q _ _ (((Heap.SameBut.update ..).extBut.push _).push _) ⟨_,Heap.get?_push_size _ rfl,rfl⟩
end
section
variable {X:Cx}{pins:U (OD×Obj)}{σ:L2.St}{H:Hp}{s:Jv}
theorem g8 {f:OT}{ch:U OD}(a:Inv X pins σ H s)(h:∀b∈ch,H b=J)(k:∀b o,b ∉ ch->s.heap.get? b=Y o->f.get? b=Y o):HOk X.prog X.w H f:=λb u e=>by
 have d:∀b u,H b=Y u->b ∉ ch:=λb u e z=>by rw[h b z] at e;cases e
 refine(a.hok b u e).stay (λc v g q=>k c v ?_ q) (λ_ q=>q) λ_ _ q=>q;rcases g with z|z
 .rw[z];exact d b u e
 .exact d c _ z
theorem lJ {g:OT}{t':O}{ch:U OD}(a:Inv X pins σ H s)(d:∀b∈ch,ij X pins H b)(k:∀b o,b ∉ ch->s.heap.get? b=Y o->g.get? b=Y o):Inv X pins σ H {s with heap:=g,toks:=t'}:=by
 refine a.step (g':=s.gens) (d':=s.drawn) (ch:=ch) (λb c=>⟨(d b c).2.2.2.1,(d b c).2.1,(d b c).2.2.2.2.1,(d b c).2.2.2.2.2⟩) (λb o _ _ f e _=>k b o f e) (λb o _ _ f e _=>⟨o.slots,k b o f e⟩) (λ_ _ _ _ n=>n)
  (λb o f e=>⟨o,k b o f e⟩) (λ_ _ e=>e) (λ_ _ _ e=>e) (λb ps e=>⟨#[],by rw[e];simp⟩) (λm i=>?_) (g8 a (λb c=>(d b c).1) k) a.bare
 obtain⟨o,h,ep,ho,r⟩:=i;exact⟨o,h,ep,k _ o (λz=>(d _ z).2.1 rfl) ho,r⟩
theorem gR {i:OT}{t':O}{ch:U OD}{a:OD}{j:U V}{d:U B}(c:Inv X pins σ H s)(g:∀b∈ch,ij X pins H b)(k:∀b o,b ∉ ch->s.heap.get? b=Y o->i.get? b=Y o)
  (l:s.heap.objs.size<=a) (x:j.length<=sizeLine) (w:Vals j d) (v:Pj i a d.toArray):Inv X pins σ (upd H a<|.tup j) {s with heap:=i,toks:=t'}:=by
 have fr:H a=none:=c.hok.fresh l;have y:∀b o,s.heap.get? b=Y o->b≠a:=λb o e=>J7<|J8 (Heap.lt_size e) l
 refine c.step (g':=s.gens) (d':=s.drawn) (ch:=ch) (λb f=>⟨(g b f).2.2.2.1,(g b f).2.1,(g b f).2.2.2.2.1,(g b f).2.2.2.2.2⟩) (λb o _ _ h e _=>k b o h e) (λb o _ _ h e _=>⟨o.slots,k b o h e⟩) (λb o _ e n=>by rw[ag<|y b o e];exact n)
  (λb o h e=>⟨o,k b o h e⟩) (λb u e=>by rw[ag<|aR e fr];exact e) (λb o u e=>by rw[ag<|aR e fr];exact e) (λb ps e=>⟨#[],by rw[ag<|aR e fr,e];simp⟩) (λm t=>?_)
  (iw (g8 c (λb f=>(g b f).1) k) fr ⟨x,d,w,v⟩) c.bare
 obtain⟨o,p,ep,ho,r⟩:=t;exact⟨o,p,ep,k _ o (λz=>(g _ z).2.1 rfl) ho,r⟩
end
structure aE (pre ys:U Str)(scope:OZ):Prop where
 kind:scope.kind=.function
 cell:∀y∈scope.names,y.2≠.cell
 nm:∀y∈scope.names,y.2=.local->scope.names.lookup y.1=Y .local
 loc:∀x∈pre,scope.names.lookup x=Y .local
 nd:(pre++ys).Nodup
theorem ub {pre:U Str}{b:L2.St}{j:O}{v:V}(e:(JV pre.length J++b)[j]?=Y (Y v)):∃i,j=pre.length+i/\b[i]?=Y (Y v):=by
 by_cases a:j<pre.length
 .rw [LY<|by rw [La]; exact a,M8,OG a] at e;cases Kg e
 .refine ⟨j-pre.length,by lia,?_⟩;rw[LZ<|by rw[La];lia,La] at e;exact e
theorem pF {X:Cx}{t:U<|OD×Obj}{σ:L2.St}{H:Hp}{s:Jv}{pre D:U Str}{is:U O}{g:OZ}{A:U<|Str×OD}{Z:U OD}{C:OD}{h1:OT}{t1:O}{m1:Str->L B}
  (f:Inv X t σ H s) (N:∀b∈Z,ij X t H b) (hfo:∀b∈Z,b<s.heap.objs.size) (S:aE pre D g) (h:Clo X A)
  (hfr:(g.names.all λp=>p.2 != .free || (A.lookup p.1).isSome)=Ju) (fr:Frees X g A D is)
  (M:s.heap.objs.size<=C) (m:∀b o,s.heap.get? b=Y o->h1.get? b=Y o) (hn:h1.Ns C m1):
  Inv (az X (pre++D) g A C s H Z) t (JV pre.length J++cJ σ is) H {s with heap:=h1,toks:=t1}:=by
 have G:∀b,b≠X.env.locals->b ∉ X.fs->b ∉ frs X.stack:=λb q1 q2 w=>(JX.mp<|f.stkSub b w).elim q1 q2
 have F:∀a k,(Lj g X.env).names.lookup a=Y k->(k=.cell\/k=.free)->∃c,A.lookup a=Y c:=λa k e hk=>by
  have hm:=LF e;obtain⟨⟨n,k0⟩,hp,ep⟩:=KJ.mp hm
  have hk0:k0=.free/\n=a:=by
   dsimp only at ep;split at ep
   .rename_i hc;simp only[JM] at hc;exact⟨eq_of_beq hc.1.1,(NN ep).1⟩
   .obtain ⟨e1,e2⟩:=NN ep;subst e2;rcases hk with z|z
    .exact OH z (S.cell _ hp)
    .exact⟨z,e1⟩
  obtain⟨z1,z2⟩:=hk0;subst z1 z2;have q:=Lb.mp hfr _ hp;have q2:(A.lookup n).isSome=true:=by simpa using q
  exact N2.mp q2
 refine⟨⟨f.ok.mod,S.kind,f.ok.glob,f.ok.blt,M,λa b c e1 e2=>f.ok.inj a b c (h.get e1)<|h.get e2,λa ha=>?_,λa c e=>OH e Ka,f.ok.hd,f.ok.frames,.inl rfl,
   λb w=>⟨J7<|J8 (hfo b w) M,λa c e=>(N b w).2.2.2.2.1 a c<|h.get e⟩,f.bs,JP f.ok.bsz f.sz,λb o e w=>?_,λb w=>G b (N b w).2.1 (N b w).2.2.1,f.stack,f.stkFree⟩,
  rfl,f.bare,Un.kept m,⟨m1,hn,λj y v e1 e2 e3=>?_⟩,λa c e=>?_,f.hok.fresh M,λa c e=>f.freeC a c<|h.get e,λp hp=>?_,f.hok.kept m,?_⟩
 .rcases ha with e | e
  .exact F a _ e (.inl rfl)
  .exact F a _ e (.inr rfl)
 .rcases (N b w).2.2.2.1 with z | z
  .exact f.ok.noex b o e z
  .exact OH (J8 (Heap.lt_size (f.ok.bs b o e).1) z) (Lo _)
 .obtain ⟨k,rfl,Q⟩:=ub e2;have P:D[k]?=Y y:=by have x:(pre++D)[pre.length+k]?=Y y:=e1;rw[LZ (by lia),Nat.add_sub_cancel_left] at x;exact x
  obtain⟨i,c,g1,g2,g3,g4,g5,g6,g7⟩:=fr.get (σ:=σ) P Q;obtain⟨m0,hn0,hl0⟩:=f.loc;obtain⟨u,r,l⟩:=hl0 i y v g1 g2 g3;rcases l with⟨k,_⟩|⟨_,c',e',z⟩
  .rcases g4 with q | q
   .rw[k] at q;cases q
   .rw[k] at q;cases q
  .rw [g5] at e';cases e';obtain⟨o,ho,hd⟩:=z;exact⟨u,r,.inr ⟨g7,c,g6,⟨o,m _ _ ho,hd⟩⟩⟩
 .obtain ⟨v,o,ho,hd⟩:=f.cell a c<|h.get e;exact⟨v,o,m _ _ ho,hd⟩
 .obtain ⟨e,n,ne,nf,d⟩:=f.pin p hp;exact⟨m _ _ e,n,J7<|J8 (Heap.lt_size e) M,G _ ne nf,d⟩
 .show (JV pre.length J++cJ σ is).length=(pre++D).length;unfold cJ;rw[Jx,Jx,La,JF,fr.len]
section
variable {prog:OI}{w:Jy}{A:JU}{R:Result->Jv->Prop}{s:Jv}
theorem lr {u P j f:ON}{c:OZ}{M:Pos}{N t:B}{b:Env}(a:O->Jv->Prop)
  (turn:∀ n s,a n s->OJ (JA prog w) A (pyNext N) (fun r d=>match r with
   |none=>R (.ok .next) d
   | some v=>OJ (JA prog w) A (Lw P N v) (fun _ k=>OJ (JA prog w) A (KW P b v) (fun _ l=>OJ (JA prog w) A (Px f b (OV f b)) (fun ok e=>if ok=Ju then
     OJ (JA prog w) A (OV u b) (λy o=>OJ (JA prog w) A (call (.builtin "list.append") [t,y]) (λ_ p=>∃m,m<n/\a m p) noX o) noX e else∃m,m<n/\a m e) noX l) noX k) noX d) noX s)
  (n:O) (h:a n s):K1 (JA prog w) A (.compLoop (.ListComp u [⟨P,j,[f],0⟩] c M) 0 N t b) R s:=by
 refine codeAny_loop rfl a (λn s Q=>?_) n h;show OJ _ A ((compTurn (.ListComp u [⟨P,j,[f],0⟩] c M) 0 N t b).onRaise (λx=>do noteFrame x b;theTreesLotGoes x)) _ _ s;refine wpAny_noted ?_;rw[compTurn_list];refine JD<|Pf<|JD<|J5 (turn n s Q) (λr d g=>?_) λ_ _ z=>z.elim;cases r with
 |none=>exact JO g
 |some v=>
  refine JD<|J5 g (λ_ k D=>?_) λ_ _ z=>z.elim;refine JD<|J5 D (λ_ l F=>?_) λ_ _ z=>z.elim;refine JD<|wpAny_tests_one<|J5 F (λok e i=>?_) λ_ _ z=>z.elim;cases ok with
  |true=>exact JD<|JD<|J5 i (λy o G=>JD<|J5 G (λ_ p H=>JO<|JO ⟨rfl,H⟩) λ_ _ z=>z.elim) λ_ _ z=>z.elim
  |false=>exact JD<|JO<|JO ⟨rfl,i⟩
end
end L3

namespace L3
open PySem PySem.Spec PyProof.Rows L2
def xZ (n:O)(a:It)(g:TG)(o:TT)(r:TE)(c:L2.St)(j:Hp)(Q:VK):Prop:=∃W:O->O->U V->Hp->Prop,(∃m,W 0 m [] j)/\∀i m d H,W i m d H ->
 (a.stop i H/\d.length<=sizeLine/\∀p,H p=J->Q (.ref p) (upd H p<|.lst d)) \/
 (a.go i H/\d.length<sizeLine/\∀x f,a.yld i H x f->g x (JV n J++c) f λb k=>(b.length=n+c.length/\b.drop n=c)/\o b k λok h=>if ok=Ju then r b h λy l=>∃e,e<m/\W (i+1) e (d++[y]) l else∃e,e<m/\W (i+1) e d h)
def xT (n:O)(a:It)(g:TG)(l:TE)(b:L2.St)(h:Hp)(Q:VK):Prop:=∃W:O->O->U V->Hp->Prop,(∃m,W 0 m [] h)/\∀i m d H,W i m d H ->
 (a.stop i H/\d.length<=sizeLine/\∀p,H p=J->Q (.ref p) (upd H p<|.lst d)) \/
 (a.go i H/\d.length<sizeLine/\∀x e,a.yld i H x e->g x (JV n J++b) e λc j=>(c.length=n+b.length/\c.drop n=b)/\l c j λy k=>∃f,f<m/\W (i+1) f (d++[y]) k)
def eZ (n:O)(h:TI)(d:U O)(g:TG)(e:TT)(f:TE):TE:=λb H Q=>h b H λa c=>xZ n a g e f (cJ b d) c Q
def ji (n:O)(f:TI)(d:U O)(g:TG)(e:TE):TE:=λb H Q=>f b H λa c=>xT n a g e (cJ b d) c Q
theorem q5 {n:O}{b a:L2.St}(h:b.drop n=a){j:O}{w:V}(e:(JV n J++a)[j]?=Y (Y w)):b[j]?=Y (Y w):=by
 by_cases c:j<n
 .rw [LY<|by simpa using c,M8,OG c] at e;cases Kg e
 .rw [LZ<|by simpa using c,La,<- h,List.getElem?_drop,Nat.add_sub_cancel'<|by lia] at e;exact e
def CW (X:Cx)(cs:U ON)(k:OF->Jv->Prop)(s:Jv):Prop:=match cs with
|[]=>k Ju s
|[c]=>OJ (JA X.prog X.w) X.A (Px c X.env<|OV c X.env) k noX s
|_=>OS
def PC (X:Cx)(cs:U ON)(e:TT):Prop:=∀(a:U<|OD×Obj) (s:Jv) (b:L2.St) (H:Hp) (Q:OF->Hp->Prop),Inv X a b H s->e b H Q->CW X cs (λok d=>∃c,Inv X a b c d/\Q ok c) s
theorem CW.mono {X:Cx}{cs:U ON}{k a:OF->Jv->Prop}{s:Jv}(h:CW X cs k s)(w:∀b s,k b s->a b s):CW X cs a s:=by
 match cs,h with
 |[],h=>exact w _ _ h
 |[c],h=>exact J5 h w λ_ _ z=>z
theorem kq {X:Cx}{g x i:ON}{cs:U ON}{e:OZ}{u:Pos}{t f:B}{R:Result->Jv->Prop}{s:Jv}(a:O->Jv->Prop)
  (turn:∀ n s,a n s->OJ (JA X.prog X.w) X.A (pyNext t) (fun r b=>match r with
   |none=>R (.ok .next) b
   | some v=>OJ (JA X.prog X.w) X.A (Lw x t v) (fun _ j=>OJ (JA X.prog X.w) X.A (KW x X.env v) (fun _ k=>CW X cs (fun ok d=>if ok=Ju then
     OJ (JA X.prog X.w) X.A (OV g X.env) (λy l=>OJ (JA X.prog X.w) X.A (call (.builtin "list.append") [f,y]) (λ_ o=>∃m,m<n/\a m o) noX l) noX d else∃m,m<n/\a m d) k) noX j) noX b) noX s)
  (n:O) (h:a n s) (p:cs.length<=1):K1 (JA X.prog X.w) X.A (.compLoop (.ListComp g [⟨x,i,cs,0⟩] e u) 0 t f X.env) R s:=by
 match cs,p with
 |[],_=>exact mX a turn n h
 |[c],_=>exact lr a turn n h
theorem kO {X:Cx}{elt Z tg:ON}{cs:U ON}{pre:U Str}{pos:Pos}{l:OZ}{P:U<|Str×OD}{ys:U Str}{is:U O}{wi:TI}{g:TG}{te:TE}{tc:TT}{use:L<|B->Sem Unit}{Q:VK}{Qp:B->Jv->Prop}{t:U<|OD×Obj}{s:Jv}{σ:L2.St}{H:Hp}{ip:Pos}
  (hc:X.calm=Ju) (hi:PI X tg Z wi) (hg:∀C s H G,PG (az X (pre++ys) l P C s H G) tg g) (he:∀C s H G,PE (az X (pre++ys) l P C s H G) elt te) (hcd:∀C s H G,PC (az X (pre++ys) l P C s H G) cs tc) (hcs:cs.length<=1)
  (hclos:KG l X.env=pure P) (S:aE pre ys l) (hcl:Clo X P) (hfr:(l.names.all λp=>p.2 != .free || (P.lookup p.1).isSome)=Ju) (fr:Frees X l P ys is) (hs:∀v,Kp Z X.env v=pure v)
  (fin:∀(s4:Jv) (Hn:Hp) (D k:OD) (m4:Str->L B),Inv X t σ Hn s4->s4.heap.Ns k m4->k≠X.env.locals->(∀a c,X.env.cells.lookup a=Y c->c≠k)->Hn k=J->X.s₀.heap.objs.size<=k->(∀p∈X.pn++t,p.1≠k)->Q (.ref D) Hn->compPost (JA X.prog X.w) X.A X.xe use Qp (.ref D) k (.ok .next) s4)
  (d:Inv X t σ H s) (h:eZ pre.length wi is g tc te σ H Q):
  OJ (JA X.prog X.w) X.A (Pg (.ListComp elt [⟨tg,Z,cs,0⟩] l pos) l X.env ip (newList []) Jt (OV Z X.env) use) Qp X.xe s:=by
 refine wpAny_comprehension_free (use:=use) rfl hs hclos S.kind S.nm (thn (hi t s σ H _ d h) λxv s1 h1=>thn h1 λitv m h2=>?_);obtain⟨it,G,tn,f,N,rfl,I2,T,st2,f2,W,⟨m0,w0⟩,turn⟩:=h2;have fpo:∀b∈G,b<m.heap.objs.size:=λb x=>by obtain⟨o,e,_⟩:=T.obj _ _ st2 b x;exact Heap.lt_size e
 refine Lc<|wpAny_newFunctionEnv S.cell (λy hy=>by cases hy) (λg' hns hsb=>?_) S.kind;dsimp only at hns hsb ⊢;generalize hP2:m.heap.push {cls:=.type "list",dict:=J,data:=.seq ([]:U B).toArray}=P2 at hns hsb ⊢;have hCs:P2.objs.size=m.heap.objs.size+1:=by rw[<- hP2,Heap.size_push]
 have hDC:m.heap.objs.size≠P2.objs.size:=by lia
 have hle:m.heap.objs.size<=P2.objs.size:=by lia
 have nc:∀b o,m.heap.get? b=Y o->b≠P2.objs.size:=λb o e=>J7<|J8 (Heap.lt_size e) hle;have nd:∀b o,m.heap.get? b=Y o->b≠m.heap.objs.size:=λb o e=>J7<|Heap.lt_size e;have ndH:∀b u,N b=Y u->b≠m.heap.objs.size:=λb u e=>J7<|I2.hok.lt e;have old:∀b o,m.heap.get? b=Y o->g'.get? b=Y o:=λb o e=>hsb.extBut b o (nc b o e)<|Heap.get?_push_of_some _<|hP2 ▸ Heap.get?_push_of_some _ e;have accD:g'.get? m.heap.objs.size=Y (jD []):=hsb.extBut _ _ hDC<|Heap.get?_push_of_some _<|hP2 ▸ Heap.get?_push_size _ rfl;have stkD:m.heap.objs.size ∉ frs X.stack:=λx=>(JX.mp<|I2.stkSub _ x).elim (λz=>OH z<|LS I2.lt)<|I2.nofs<|JE _;generalize hσ':cJ σ is=σ' at turn;have I3:Inv (az X (pre++ys) l P P2.objs.size m N G) t (JV pre.length J++σ') N {m with heap:=g',toks:=m.toks+([]:U<|Str×B).length}:=by rw[<- hσ'];exact pF (pre:=pre) I2 f2 fpo S hcl hfr fr hle old hns
 have stat:∀{H':Hp} {o:Obj},(∀b∈G,H' b=J)->∀b∈G,ij (az X (pre++ys) l P P2.objs.size m N G) (t++[(m.heap.objs.size,o)]) H' b:=λ{H' o} hn b x=>by
  refine⟨hn b x,J7<|J8 (fpo b x) hle,λz=>(JX.mp<|I2.stkSub _ z).elim (f2 b x).2.1 (f2 b x).2.2.1,.inl x,λa c e=>(f2 b x).2.2.2.2.1 a c<|hcl.get e,λp hp=>?_⟩;rcases Kq.mp hp with z|z
  .exact(f2 b x).2.2.2.2.2 p<|K8 _ z
  .rcases Kq.mp z with z | z
   .exact(f2 b x).2.2.2.2.2 p<|J2 _ z
   .rw [J4.mp z];exact LS<|fpo b x
 have loop:K1 (JA X.prog X.w) X.A (.compLoop (.ListComp elt [⟨tg,Z,cs,0⟩] l pos) 0 (.ref it) (.ref m.heap.objs.size) (compEnvC l P P2.objs.size X.env))
   (compPost (JA X.prog X.w) X.A X.xe use Qp (.ref m.heap.objs.size) P2.objs.size) {m with heap:=g',toks:=m.toks+([]:U<|Str×B).length}:=by
  refine kq (X:=az X (pre++ys) l P P2.objs.size m N G) (λn s'=>∃i zs F H',Inv (az X (pre++ys) l P P2.objs.size m N G) t (JV pre.length J++σ') H' s'/\tn i s'.heap/\(∀b∈G,H' b=J)/\s'.heap.get? m.heap.objs.size=Y (jD F)/\Vals zs F/\H' m.heap.objs.size=J/\W i n zs H')
   ?_ m0 ⟨0,[],[],N,I3,T.keep _ _ _ st2 λb _ o e=>old b o e,λb x=>(f2 b x).1,accD,.nil,I2.hok.fresh<|JE _,w0⟩ hcs
  rintro n s3 ⟨i,zs,F,H3,J3,st3,fr3,d3,rv3,nd3,w3⟩;have hzl:=rv3.length
  have J3':Inv (az X (pre++ys) l P P2.objs.size m N G) (t++[(m.heap.objs.size,jD F)]) (JV pre.length J++σ') H3 s3:=J3.pins_of λp hp=>by
   rcases Kq.mp hp with z|z
   .exact J3.pin p (J2 _ z)
   .rw [J4.mp z];exact⟨d3,nd3,hDC,stkD,λv q=>by cases q⟩
  rcases turn i n zs H3 w3 with⟨stop,hz,q⟩|⟨go,hz,step⟩
  .refine J5 (T.done (az X (pre++ys) l P P2.objs.size m N G) rfl rfl rfl hc i _ s3 _ H3 noX J3' (stat fr3) st3 stop) (fun r s4 h4=>?_) fun _ _ z=>z.elim;obtain⟨hr,I4⟩:=h4;subst hr;obtain⟨m4,hn4,_⟩:=id I4.loc;have f4:H3 P2.objs.size=none:=I4.free;have d4:s4.heap.get? m.heap.objs.size=Y (jD F):=(I4.pin (m.heap.objs.size,jD F) (J2 _ (J2 _ (J4.mpr rfl)))).1;have u4:Un (frs X.stack) G N H3 m.heap s4.heap:=I4.base
   have un:Un (frs X.stack) G N (upd H3 m.heap.objs.size (.lst zs)) m.heap s4.heap:=
    ⟨u4.keep,u4.slot,fun b o e n hx=>by rw [ag (nd b o e)]; exact u4.free b o e n hx,u4.there,
     λb xs q=>by rw[ag<|ndH b _ q];exact u4.tups b xs q,λb o u q=>by rw[ag<|ndH b _ q];exact u4.frzs b o u q,λb ps q=>by rw[ag<|ndH b _ q];exact u4.tbls b ps q⟩
   have IX:Inv X t σ (upd H3 m.heap.objs.size (.lst zs)) s4:=I2.call' (s':=s4) (ch:=G) I4.os un (iw I4.hok nd3 ⟨hz,F,F.length,rv3,d4⟩) I4.bare
    (λb x=>⟨(f2 b x).2.2.2.1,(f2 b x).2.1,(f2 b x).2.2.2.2.1,(f2 b x).2.2.2.2.2⟩)
   have cL:P2.objs.size≠X.env.locals:=LS<|J8 I2.lt hle;have cC:∀a c,X.env.cells.lookup a=Y c->c≠P2.objs.size:=λa c e=>by obtain⟨v',o',ho',_⟩:=I2.cell a c e;exact nc c o' ho'
   exact fin s4 _ m.heap.objs.size P2.objs.size m4 IX hn4 cL cC (by rw[ag<|Kv hDC];exact f4) (JP I2.sz hle) (λp hp=>nc p.1 _ (I2.pin p hp).1)<|q _ nd3
  .refine J5 (T.item (az X (pre++ys) l P P2.objs.size m N G) rfl rfl rfl hc i _ s3 _ H3 noX J3' (stat fr3) st3 go) (fun r s4 h4=>?_) fun _ _ z=>z.elim;obtain⟨u,hr,h4⟩:=h4;subst hr;refine J5 h4 (λ_ s5 h5=>?_) λ_ _ z=>z.elim;obtain⟨v,H5,I5,r5,y5,st5,fr5⟩:=h5;have I5':=I5.pinned (stat fr5) (T.obj _ _ st5);refine J5 (hg P2.objs.size m N G _ s5 _ H5 v u _ I5' r5 (step v H5 y5)) (λ_ s6 h6=>?_) λ_ _ z=>z.elim;obtain⟨σ6,H6,I6,⟨hl6,hd6⟩,step'⟩:=h6;have back:∀{H7:Hp} {s7:Jv},Inv (az X (pre++ys) l P P2.objs.size m N G) ((t++[(m.heap.objs.size,jD F)])++gG G s5.heap) σ6 H7 s7->Inv (az X (pre++ys) l P P2.objs.size m N G) t (JV pre.length J++σ') H7 s7:=λI7=>I7.unpinned.unpinned.weak (by rw[hl6,Jx,La]) λj w' e=>q5 hd6 e;refine CW.mono (hcd P2.objs.size m N G _ s6 _ H6 _ I6 step') λok s6' h6'=>?_;obtain⟨H6',I6',q6⟩:=h6';cases ok with
   | false =>
    rw[OK Ka] at q6;obtain⟨m',hm',w7⟩:=q6;have M:=I6'.pin (m.heap.objs.size,jD F)<|J2 _<|K8 _<|J2 _<|J4.mpr rfl;rw[OK Ka];refine⟨m',hm',i+1,zs,F,H6',back I6',T.keep _ _ _ st5 λb x o e=>?_,λb x=>?_,M.1,rv3,M.2.1,w7⟩
    .exact(I6'.pin (b,o)<|J2 _<|J2 _<|bP x e).1
    .obtain ⟨o,e,_⟩:=T.obj _ _ st5 b x;exact(I6'.pin (b,o)<|J2 _<|J2 _<|bP x e).2.1
   | true =>
    rw[OG rfl] at q6 ⊢;refine J5 (he P2.objs.size m N G _ s6' _ H6' _ I6' q6) (λyv s7 h7=>?_) λ_ _ z=>z.elim;obtain⟨y',H7,I7,r7,m',hm',w7⟩:=h7;have M:=I7.pin (m.heap.objs.size,jD F)<|J2 _<|K8 _<|J2 _<|J4.mpr rfl;refine append_at (hsz:=by show F.toArray.size<=sizeLine;rw[J1];lia) M.1 λh8 sb8 hD8=>?_
    have I8:Inv (az X (pre++ys) l P P2.objs.size m N G) t (JV pre.length J++σ') H7 {s7 with heap:=h8}:=(back I7).turned (t':=s7.toks) (it:=m.heap.objs.size) (λb o x e=>(sb8.2 b x).trans e) M.2.1 hDC (.inr<|JE _)
     (fun a c e z=>by
      obtain⟨v',o',ho',_⟩:=I2.cell a c<|hcl.get e;exact nd c o' ho' z)
     (λp hp=>nd p.1 _ (I2.pin p hp).1)
    refine⟨m',hm',i+1,zs++[y'],F++[yv],H7,I8,T.keep _ _ _ st5 λb x o e=>?_,λb x=>?_,?_,rv3.append<|.cons r7 .nil,M.2.1,w7⟩
    .exact(sb8.2 b<|J7<|fpo b x).trans (I7.pin (b,o)<|J2 _<|J2 _<|bP x e).1
    .obtain ⟨o,e,_⟩:=T.obj _ _ st5 b x;exact(I7.pin (b,o)<|J2 _<|J2 _<|bP x e).2.1
    .show h8.get? m.heap.objs.size=_;rw[hD8];simp[jD]
 exact codeAny_compStart_list loop<|T.self X.A 0 _ _ _ (T.keep _ _ _ st2 λb _ o e=>old b o e) loop
section
variable {X:Cx}{elt iter tg cnd:ON}{pre:U Str}{pos spos pz:Pos}{z:Str}{jz:O}{scope:OZ}{cl:U (Str×OD)}{ys:U Str}{is:U O}{wi:TI}{g:TG}{te:TE}{tc:TT}
theorem pcF (h:PT X cnd tc)(hx:∀v s,X.xe v s->OS):PC X [cnd] tc:=λb s c H Q a q=>J5 (h b s c H Q a q) (λ_ _ z=>z) λv s z=>hx v s z
def tT:TT:=λ_ H Q=>Q Ju H
theorem pcN:PC X [] tT:=λb s c H Q a q=>⟨H,a,q⟩
theorem goN {n:O}{a:L2.St}{H:Hp}{Q:VK}(h:ji n wi is g te a H Q):eZ n wi is g tT te a H Q:=h
theorem vi {cs:U ON}(x:X.calm=Ju)(F:PI X tg iter wi)(A:∀C s H f,PG (az X (pre++ys) scope cl C s H f) tg g)(y:∀C s H f,PE (az X (pre++ys) scope cl C s H f) elt te)(i:∀C s H f,PC (az X (pre++ys) scope cl C s H f) cs tc)(k:cs.length<=1)
  (d:KG scope X.env=pure cl) (S:aE pre ys scope) (j:Clo X cl) (l:(scope.names.all λp=>p.2 != .free || (cl.lookup p.1).isSome)=Ju) (fr:Frees X scope cl ys is) (M:∀v,Kp iter X.env v=pure v):
  PE X (.ListComp elt [⟨tg,iter,cs,0⟩] scope pos) (eZ pre.length wi is g tc te):=by
 intro m s σ H Q a h;rw[eval_ListComp];show OJ _ _ (Pg _ scope X.env _ (newList []) Jt (OV iter X.env) J) _ _ s;refine kO x F A y i k d S j l fr M (λZ Hn D c P n G t r u N hp q=>?_) a h;exact⟨P,G,λh' sb=>⟨.ref D,_,n.turned (t':=Z.toks) (it:=c) (λb o w e=>(sb.2 b w).trans e) u t (.inr N) r hp,rfl,q⟩⟩
theorem k8 {cs:U ON}(hN:X.N.Nodup)(hj:X.N[jz]?=Y z)(i:Loc X.env.scope z)(w:Kj (.ListComp elt [⟨tg,iter,cs,0⟩] scope pos) (Y<|.Name z pz) spos.line X.env=pure Ju)(hc:X.calm=Ju)(hi:PI X tg iter wi)(hg:∀C s H j,PG (az X (pre++ys) scope cl C s H j) tg g)(he:∀C s H j,PE (az X (pre++ys) scope cl C s H j) elt te)(m:∀C s H j,PC (az X (pre++ys) scope cl C s H j) cs tc)(r:cs.length<=1)
  (f:KG scope X.env=pure cl) (S:aE pre ys scope) (n:Clo X cl) (u:(scope.names.all λp=>p.2 != .free || (cl.lookup p.1).isSome)=Ju) (fr:Frees X scope cl ys is) (hs:∀v,Kp iter X.env v=pure v) (t:X.fn z=Ju\/X.env.scope.names.lookup z=Y .local):
  PS X (.Assign [.Name z pz] (.ListComp elt [⟨tg,iter,cs,0⟩] scope pos) spos) (kW (eZ pre.length wi is g tc te)<|bT jz):=by
 intro k s σ H D a h;rw[exec_Assign_Name_used _ _ _ _ w];refine JD<|Pf<|JD ?_;show OJ _ _ (do let _ <- Pg (.ListComp elt [⟨tg,iter,cs,0⟩] scope pos) scope X.env _ (newList []) Jt (OV iter X.env) (Y (KW (.Name z pz) X.env))) _ _ s;refine JD<|thn (kO (use:=Y<|KW (.Name z pz) X.env) (Qp:=λ_ F=>SP X k D .next F) hc hi hg he m r f S n u fr hs (λs4 Hn d c m4 M hn A y Z hz hp q=>?_) a h) λ_ F hq=>JO<|JO hq;show OJ _ _ (KW (.Name z pz) X.env<|.ref d) _ _ s4;refine wpAny_assign_Name<|iZ M hN hj i (v:=.ref d) rfl (λs5 G Q=>?_) t;obtain⟨P,x,l⟩:=Q;have na:c≠P:=l.elim (λe=>by rw[e];exact A) λe=>Kv<|y _ _ e;exact⟨m4,hn.sameBut x na,λh' sb=>⟨_,_,G.turned (t':=s5.toks) (it:=c) (λb o hb e=>(sb.2 b hb).trans e) Z A (.inr hz) y hp,q⟩⟩
theorem qd (i:X.calm=Ju)(l:PI X tg iter wi)(k:∀C s H d,PG (az X (pre++ys) scope cl C s H d) tg g)(j:∀C s H d,PE (az X (pre++ys) scope cl C s H d) elt te)
  (b:KG scope X.env=pure cl) (S:aE pre ys scope) (e:Clo X cl) (f:(scope.names.all λp=>p.2 != .free || (cl.lookup p.1).isSome)=Ju) (fr:Frees X scope cl ys is) (m:∀v,Kp iter X.env v=pure v:=by intro _;rfl):
  PE X (.ListComp elt [⟨tg,iter,[],0⟩] scope pos) (ji pre.length wi is g te):=λc s n H Q a h=>vi i l k j (λ_ _ _ _=>pcN) (Kl _) b S e f fr m c s n H Q a<|goN h
theorem iR (l:X.N.Nodup)(t:X.N[jz]?=Y z)(c:Loc X.env.scope z)(k:Kj (.ListComp elt [⟨tg,iter,[],0⟩] scope pos) (Y<|.Name z pz) spos.line X.env=pure Ju)(m:X.calm=Ju)(r:PI X tg iter wi)(o:∀C s H e,PG (az X (pre++ys) scope cl C s H e) tg g)(n:∀C s H e,PE (az X (pre++ys) scope cl C s H e) elt te)
  (b:KG scope X.env=pure cl) (S:aE pre ys scope) (f:Clo X cl) (j:(scope.names.all λp=>p.2 != .free || (cl.lookup p.1).isSome)=Ju) (fr:Frees X scope cl ys is) (u:∀v,Kp iter X.env v=pure v:=by intro _;rfl) (i:X.fn z=Ju\/X.env.scope.names.lookup z=Y .local:=by first|exact .inl rfl|exact .inr rfl|assumption):
  PS X (.Assign [.Name z pz] (.ListComp elt [⟨tg,iter,[],0⟩] scope pos) spos) (kW (ji pre.length wi is g te)<|bT jz):=λd s w H D a h=>k8 l t c k m r o n (λ_ _ _ _=>pcN) (Kl _) b S f j fr u i d s w H D a<|goN h
theorem iN (j:X.N.Nodup)(o:X.N[jz]?=Y z)(b:Loc X.env.scope z)(i:Kj (.ListComp elt [⟨tg,iter,[cnd],0⟩] scope pos) (Y<|.Name z pz) spos.line X.env=pure Ju)(k:X.calm=Ju)(n:PI X tg iter wi)(m:∀C s H c,PG (az X (pre++ys) scope cl C s H c) tg g)(l:∀C s H c,PE (az X (pre++ys) scope cl C s H c) elt te)(d:∀C s H c,PT (az X (pre++ys) scope cl C s H c) cnd tc)
  (a:KG scope X.env=pure cl) (S:aE pre ys scope) (e:Clo X cl) (h:(scope.names.all λp=>p.2 != .free || (cl.lookup p.1).isSome)=Ju) (fr:Frees X scope cl ys is) (r:∀v,Kp iter X.env v=pure v:=by intro _;rfl) (f:X.fn z=Ju\/X.env.scope.names.lookup z=Y .local:=by first|exact .inl rfl|exact .inr rfl|assumption):
  PS X (.Assign [.Name z pz] (.ListComp elt [⟨tg,iter,[cnd],0⟩] scope pos) spos) (kW (eZ pre.length wi is g tc te)<|bT jz):=k8 j o b i k n m l (λ_ _ _ _=>pcF (d _ _ _ _) λ_ _ z=>z) (JE _) a S e h fr r f
end
end L3


namespace L3
open PySem PySem.Spec PyProof.Rows L2
theorem cP:∀{a:U I} {b:U B},Vals (a.map V.int) b->Po b a
|[],_,.nil=>.nil
|n::a,_,.cons ⟨t,e⟩ r=>by cases e;exact .cons n t<|cP r
theorem qj {X:Cx}(D:X.calm=Ju):df X (.builtin "max") (λd H Q=>∃(a:OD) (e:U I),d=[.ref a]/\SqL X.K H a (e.map V.int)/\e≠[]/\∀M,M∈e->(∀n∈e,n<=M)->Q (.int M) H):=by
 intro x s σ H d us Q b r h;obtain⟨a,e,rfl,z,k,q⟩:=h;obtain⟨u,rfl,P⟩:=fK r;cases P;obtain⟨m,Z,p,hz⟩:=b.list z;have o:=cP Z;obtain⟨d,i⟩:=o.allInts.items;have g:numsOf m=e:=o.numsOf;have G:s.heap.IsList a (intItems d):=by rw[<- i];exact p.isList
 have c:numsOf (intItems d).toList=e:=by rw[<- i];exact g
 rw[nums_intItems] at c;have f:d.size=e.length:=by rw[<- c,JF,Kr]
 have l:0<d.size:=by rw[f];exact Oc.mpr k
 refine max_intList (show X.A.handled=J from b.ok.hd D) G l λv h' tk N hk=>?_;obtain⟨t,rfl⟩:=intItems_at N;obtain⟨h1,y⟩:=argBest_gt (numAt d)<|d.size-1;refine⟨.int _,H,b.kept hk,⟨t,rfl⟩,q _ ?_ λn w=>?_⟩
 .rw[<- c,numAt_eq];exact getD_mem<|by rw[JF,Kr];lia
 .rw [<- c] at w;obtain⟨j,F,rfl⟩:=mem_getD w;rw[JF,Kr] at F;rw[<- numAt_eq];exact y j<|by lia
abbrev zS (h:OT)(T:OD)(a b c:B):Prop:=h.get? T=Y {cls:=.type "tuple",data:=.seq #[a,b,c]}
def Z3 (n d e f:O)(i:O)(h:OT):Prop:=
 IsZip h (n+5) (n+3) (n+4) .none/\zS h (n+3) (.ref n) (.ref<|n+1) (.ref<|n+2)/\(∃a b c,zS h (n+4) a b c)/\ItO h Jt n d i/\ItO h Jt (n+1) e i/\ItO h Jt (n+2) f i
end L3

namespace L3
open PySem PySem.Spec PyProof.Rows L2
noncomputable abbrev VE:U B:=[.type "ValueError",.type "Exception",.type "BaseException",.type "object"]
structure II (h:OT)(C N:OD)(up:U B)(names:Str->L B):Prop where
 obj:∃nm q bs hd sn sub ab col dd k0 k1 k2 k3 k5,h.get? C=Y (excClassObj nm q C N bs up hd sn sub ab col dd k0 k1 k2 k3 k5 "ValueError.__new__")
 ns:h.Ns N names
section
variable {prog:OI}{w:Jy}{h:OT}{A:JU}{g:OY Pk}{d:Drawn}{t:O}{os:Pp}{E:B->Jv->Prop}
def Bt:U B->OF
|.ref _::r=>Bt r
|l=>l==VE
end
def XOk (a C:OD)(c:L OD)(n:OF)(h:OT):Prop:=∃o b d,h.get? a=Y o/\o.cls=.ref C/\o.dict=c/\o.data=.fields b/\b[0]?=Y (.ref d)/\1<b.size/\(n=Ju->b[1]?=Y .none)
abbrev XO (a C:OD)(b:L OD)(n:OF):HO:=.ext<|XOk a C b n
def Tr (lo:O)(H:Hp)(h:OT)(a:OD):Prop:=∃d b,h.get? a=Y d/\d.data=.fields b /\
 (b[1]?=Y .none\/∃T c e,b[1]?=Y (.ref T)/\T≠a/\h.get? T=Y c/\c.data=.fields e/\e[3]?=Y .none/\lo<=T/\H T=J)
structure XC (K:Jw)(C f:OD)(up:U B):Prop where
 ok:∀h,K.In h->∃N names,II h C N up names/\OwnTail h VE up/\names "__init__"=Y (.ref f)
 fn:∀h,K.In h->∃o,h.get? f=Y o/\o.cls=.type "function"
 kp:Ly K (.ref C)=Ju
 sa:Lz K (.ref C) "__setattr__"=Y (Y (.builtin "object.__setattr__"))
 po:(PySem.W.clsIn K C).any (λcd=>Bt cd.mro)=Ju
 hd:M0 K C=Ju
def xw (X:Cx)(d:L2.St):VK:=λv H=>∀(b:U<|OD×Obj) (s:Jv) (a C:OD) (c:L OD),v=.ref a->H a=Y (XO a C c Jt)->Inv X b d H s->Tr X.s₀.heap.objs.size H s.heap a->X.xe (.ref a) s
noncomputable abbrev hx (X:Cx)(a:OD):Cx:={X with A:=X.A.mark<|Y<|.ref a,calm:=Jt,xe:=λ_ _=>OS}
abbrev tx (X:Cx)(E:B->Jv->Prop)(pn:U<|OD×Obj):Cx:={X with xe:=E,pn:=pn}
section
variable {prog:OI}{w:Jy}{A:JU}{E:B->Jv->Prop}{s:Jv}{K:Jw}
structure XG (K:Jw)(C:OD):Prop where
 ga:Lz K (.ref C) "__getattribute__"=Y (Y (.builtin "BaseException.__getattribute__"))
 hk:Lz K (.ref C) "__getattr__"=Y J
 sub:Nv K (.ref C) (.type "BaseException")=Y Ju
end
structure XF (K:Jw)(C:OD):Prop where
 xc:∃f up,XC K C f up/\Bt up=Ju
 xg:XG K C
 hd:M0 K C=Ju
 ca:Lz K (.ref C) "__class__"=Y (Y (.builtin "object.__class__"))
 cg:N5 K (.builtin "object.__class__") "__get__"=Y (Y (.builtin "getset_descriptor.__get__"))
 ct:NK K (.builtin "object.__class__")=Y Ju
 mo:Ny K C (.type "object")=Y Ju
def XNm (K:Jw)(c:O)(C:OD):Prop:=c=C/\XF K C
end L3

namespace M
open PySem (Str)
inductive T where
 |non|bl (b:OF)|int (i:I)|str (x:Str)|tup (ts:U T)|lst (ts:U T)|dct (ks:U (I ⊕ Str)) (vs:U T)|ins (c:O) (fs:U Str) (vs:U T)
 |scr (ns:U I)
 |gone
 deriving O1
inductive Md where
 |s|d|o (m:Md)
 deriving O2,O1
noncomputable def Md.kid:Md->Md
|.s=>.s | .d=>.d | .o m=>m
def Md.up:Md->Md
|.d=>.d|m=>.o m
noncomputable def Md.meet:Md->Md->Md
|.s,_=>.s | .d,m=>m | .o _,.s=>.s | .o a,.d=>.o a | .o a,.o b=>.o<|a.meet b
noncomputable def Md.le:Md->Md->OF
|.s,_=>Ju
|.o a,.o b=>a.le b
|.o _,.d=>Ju
|.d,.d=>Ju
|_,_=>Jt
abbrev W:=Md×T
abbrev Env:=U<|L W
noncomputable def LIM:O:=16777215
noncomputable def T.leaf:T->OF
|.non | .bl _ | .int _ | .str _ | .scr _=>Ju
|_=>Jt
def T.isG:T->OF
|.gone=>Ju
|_=>Jt
noncomputable def T.isH:T->OF
|.gone=>Ju
|.dct _ _=>Ju
|.ins _ _ _=>Ju
|_=>Jt
def T.isN:T->OF
|.non=>Ju
|_=>Jt
def leaves (a:U T):OF:=a.all T.leaf
inductive Op where
 |add|sub|mul|fdiv|mod|pow|neg|eq|ne|lt|le|gt|ge|is|isnot|isin|notin|ix|sl|sl1
 |len|isI (cs:U OL)|max1|count|list|tuple|sum|all|any|max|min|int|str|rng|sorted|join|split|abs|dict|get|lower|catT|dnew|ixD
 |getD|inD|dcpy|dsp1|getE|inLT
 |att (fld:Str)|dspN (ks:U Str)|mk (c:O) (fld:Str) (fk:O)
  deriving O2,O1
inductive Ik where
 |seq|rng|sq2|zip3|enmT|sq2T
 deriving O2,O1
inductive E where
 |var (i:O)|mv (i:O)|io (i:O)|cst (t:T)
 |tup (es:U E)|lst (h:OF) (es:U E)|op (o:Op) (h:OF) (es:U E)|wk (m:Md) (e:E)
 |and (a b:E)|or (a b:E)|not (a:E)|ifx (c a b:E)
 |call (f:O) (es:U E)|comp (h:OF) (k:Ik) (src:U E) (tg:U O) (cnd:L E) (elt:E)
 |pop (i:O) (es:U E)|lenV (i:O)
 |ixQ (i:O) (e:E)|qx (vs ls:U O) (e:E)|sdf (i j k:O)
 |inT (neg:OF) (ks:U Str) (e:E)|ixT (tab:U (Str×T)) (e:E)|getT (tab:U (Str×T)) (e:E)
 deriving O1
inductive X where
 |q (vs ls:U O)|l (vs:U O)
 deriving O1
inductive S where
 |asg (x:X) (i:O) (e:E)|asgT (x:X) (is:U O) (e:E)|setK (x:X) (i:O) (k e:E)|setS (x:X) (i:O) (k e:E)
 |exp (x:X) (e:E)|app (x:X) (i:O) (e:E)|ext (x:X) (i:O) (e:E)
 |ret (vs:U O) (e:E)|ite (x:X) (c:E) (a b:U S)
 |forS (vs ls:U O) (k:Ik) (src:U E) (tg:U O) (body:U S)
 |brk|pas|stop|tri (body:U S)
 |raise (c:O) (fld:Str) (fk:O) (x:X) (e:E)
 deriving O1
structure Fn where
 ps:O
 ns:O
 io:U O
 body:U S
inductive Res (α:Type) where
 |ok (a:α)|ex (t:T)|no
def Res.bind {b c:Type}:Res b->(b->Res c)->Res c
|.ok a,f=>f a
|.ex t,_=>.ex t
|.no,_=>.no
def ofO {b:Type}:L b->Res b
|some a=>.ok a
|none=>.no
inductive Fl where
 |nx (η:Env)|rt (w:W) (η:Env)|bk (η:Env)|ex (t:T) (η:Env)|no
noncomputable def truth:T->L OF
|.non=>Y Jt | .bl b=>Y b | .int i=>Y (i != 0) | .str x=>Y (x.cps.size != 0) | .tup a=>Y (!a.isEmpty) | .lst a=>Y (!a.isEmpty) | .dct _ _=>J | .ins ..=>J | .scr c=>Y (!c.isEmpty) | .gone=>J
noncomputable def b2i:OF->I
|true=>1|false=>0
mutual
def eqT:T->T->OF
|.non,.non=>Ju
|.bl a,.bl b=>a==b
|.bl a,.int i=>b2i a==i
|.int i,.bl a=>i==b2i a
|.int i,.int j=>i==j
|.str x,.str y=>x==y
|.tup ts,.tup us=>eqTs ts us
|.lst ts,.lst us=>eqTs ts us
|_,_=>Jt
def eqTs:U T->U T->OF
|[],[]=>Ju
|t::ts,u::us=>eqT t u&&eqTs ts us
|_,_=>Jt
end
mutual
def dp:T->O
|.tup ts=>dps ts+1
|.lst ts=>dps ts+1
|.scr _=>1000
|.dct _ _=>1000
|.ins _ _ _=>1000
|.gone=>1000
|_=>0
def dps:U T->O
|[]=>0
|t::ts=>max (dp t)<|dps ts
end
def sOk (x:Str):OF:=x.cps.all (· < 0x110000)&&decide (x.cps.size<=LIM)
def kOk:I ⊕ Str->OF
|.inl _=>Ju
|.inr x=>sOk x
noncomputable def keyT:T->L (I ⊕ Str)
|.int n=>Y<|.inl n
|.str x=>Y<|.inr x
|_=>J
def lookD (q:I ⊕ Str):U (I ⊕ Str)->U T->L T
|y::b,v::a=>if y=q then Y v else lookD q b a
|_,_=>J
noncomputable def ixN (n:O)(i:I):L O:=if 0<=i then(if i<n then Y i.toNat else J) else if -(n:I)<=i then Y (i+n).toNat else J
def atI {b:Type}(a:U b)(i:I):L b:=(ixN a.length i).bind λj=>a[j]?
noncomputable def sIx (n d:O):L I->O
|none=>d
|some i=>if i<0 then(i+n).toNat else min i.toNat n
def cut {b:Type}(a:U b)(lo c:L I):U b:=(a.drop<|sIx a.length 0 lo).take<|sIx a.length a.length c-sIx a.length 0 lo
noncomputable def T.ty:T->OL
|.non=>"NoneType" |.bl _=>"bool" |.int _=>"int" |.str _=>"str" |.tup _=>"tuple" |.lst _=>"list" |.dct ..=>"dict" |.ins ..=>"object" |.scr _=>"list" |.gone=>"gone"
def isOne (c:OL)(t:T):OF:=t.ty==c || (t.ty=="bool"&&c=="int")
noncomputable def intsOf:U T->L (U I)
|[]=>Y []
|.int i::a=>(intsOf a).map (i::·)
|_::_=>J
noncomputable def fY:U T->L (U OF)
|[]=>Y []
|.bl b::a=>(fY a).map (b::·)
|_::_=>J
noncomputable def elems:W->L (U T)
|(_,.tup a)=>Y a
|(_,.lst a)=>Y a
|_=>J
def flatT:T->OF
|.non | .bl _ | .int _ | .str _=>Ju
|_=>Jt
def E3 (c:O):O:=if 65<=c/\c<=90 then c+32 else c
def maxI:U I->I
|[]=>0
|[n]=>n
|n::a=>max n<|maxI a
noncomputable def FC (x:I):U I->U I
|[]=>[x]
|y::a=>if x<=y then x::y::a else y::FC x a
def zZ:U I->U I
|[]=>[]
|x::a=>FC x<|zZ a
noncomputable def strsOf:U T->L (U Str)
|[]=>Y []
|.str x::a=>(strsOf a).map (x::·)
|_::_=>J
noncomputable def spl (c:O):U O->U O->U (U O)
|a,[]=>[a]
|a,x::b=>if x=c then a::spl c [] b else spl c (a++[x]) b
def splS (x:Str):U Str:=(spl 32 [] x.cps.toList).map λl=>⟨l.toArray⟩
def IK (i:I):Str:=Str.ofString<|toString i
def newL (h:OF)(m:Md)(a:U T):L W:=if h then(if leaves a then Y (.d,.lst a) else J) else Y (m.up,.lst a)
def fits (n:O):OF:=decide (n<=LIM)
mutual
def rOk:T->OF
|.non | .bl _=>Ju
|.int i=>decide (i.natAbs<10000000000000000000)
|.str x=>decide ((NB x).length<=100)&&sOk (NB x)
|.tup ts=>Ah ts
|.lst ts=>Ah ts
|_=>Jt
def Ah:U T->OF
|[]=>Ju
|t::ts=>rOk t&&Ah ts
end
mutual
def szR:T->O
|.tup ts=>DH ts+4
|.lst ts=>DH ts+4
|_=>100
def DH:U T->O
|[]=>0
|t::ts=>szR t+2+DH ts
end
def uU:O->Md->T->OF
|0,_,.int n=>decide (n.natAbs.log2<1920)
|1,.s,.tup a=>decide (dp (.tup a)<=64)&&rOk (.tup a)&&decide (szR (.tup a)<=1000000)
|2,_,.str _=>Ju
|_,_,_=>Jt
def lfM (t:T):Md:=if t.leaf=Ju then .d else .s
def oSem:Op->OF->U W->L W
|.add,h,[(m,a),(n,b)]=>match a,b with
 |.int i,.int j=>Y (.d,.int<|i+j)
 |.str x,.str y=>if fits (x.cps.size+y.cps.size) then Y (.d,.str<|x++y) else J
 |.lst e,.lst r=>if fits (e.length+r.length) then newL h (m.kid.meet n.kid) (e++r) else J
 |.tup e,.tup r=>if fits (e.length+r.length)&&!e.isEmpty then Y (.s,.tup<|e++r) else J
 |_,_=>J
|.sub,_,[(_,.int i),(_,.int j)]=>Y (.d,.int<|i-j)
|.mul,h,[(m,a),(_,b)]=>match a,b with
 |.int i,.int j=>if(decide (i.natAbs<18446744073709551616)) || (decide (j.natAbs<18446744073709551616)) then Y (.d,.int<|i * j) else J
 |.lst e,.int k=>if decide (k.natAbs<4611686018427387904)&&fits (e.length * k.toNat) then newL h .s (JV k.toNat e).flatten else J
 |_,_=>J
|.fdiv,_,[(_,.int i),(_,.int j)]=>if decide (0<j)&&decide (j<1073741824) then Y (.d,.int<|i / j) else J
|.mod,_,[(_,.int i),(_,.int j)]=>if decide (0<j) then Y (.d,.int<|i % j) else J
|.pow,_,[(_,.int i),(_,.int j)]=>if decide (0<=j)&&decide (j<=1000000)&&decide (i.natAbs<18446744073709551616) then Y (.d,.int<|i ^ j.toNat) else J
|.neg,_,[(_,.int i)]=>Y (.d,.int (-i))
|.eq,_,[(_,a),(_,b)]=>if decide (dp a<=64)&&decide (dp b<=64) then Y (.d,.bl<|eqT a b) else J
|.ne,_,[(_,a),(_,b)]=>if decide (dp a<=64)&&decide (dp b<=64) then Y (.d,.bl<|!eqT a b) else J
|.lt,_,[(_,.int i),(_,.int j)]=>Y (.d,.bl<|decide (i<j))
|.le,_,[(_,.int i),(_,.int j)]=>Y (.d,.bl<|decide (i<=j))
|.gt,_,[(_,.int i),(_,.int j)]=>Y (.d,.bl<|decide (j<i))
|.ge,_,[(_,.int i),(_,.int j)]=>Y (.d,.bl<|decide (j<=i))
|.is,_,[(_,a),(_,.non)]=>if a.isG then J else Y (.d,.bl a.isN)
|.isnot,_,[(_,a),(_,.non)]=>if a.isG then J else Y (.d,.bl<|!a.isN)
|.ix,_,[(m,a),(_,.int i)]=>match a with
 |.lst e=>(atI e i).map λt=>(m.kid,t)
 |.tup e=>(atI e i).map λt=>(m.kid,t)
 |.str x=>(atI x.cps.toList i).map λc=>(.d,.str ⟨#[c]⟩)
 |.scr f=>(atI f i).map λn=>(.d,.int n)
 |_=>J
|.sl,h,[(m,.lst e)]=>newL h m.kid e
|.sl1,h,[(m,.lst e),(_,.int i)]=>newL h m.kid<|cut e (Y i) J
|.sl1,_,[(_,.scr f),(_,.int i)]=>Y (.d,.lst<|(cut f (Y i) J).map T.int)
|.sl,_,[(_,.scr f)]=>Y (.d,.lst<|f.map T.int)
|.sl1,_,[(_,.tup e),(_,.int i)]=>Y (.s,.tup<|cut e (Y i) J)
|.len,_,[(_,a)]=>match a with
 |.lst e=>Y (.d,.int e.length)
 |.tup e=>Y (.d,.int e.length)
 |.str x=>Y (.d,.int x.cps.size)
 |.scr f=>Y (.d,.int f.length)
 |_=>J
|.att fld,_,[(_,.ins _ [g] [t])]=>if(g==fld)=Ju then Y (lfM t,t) else J
|.mk c fld A,_,[(m,t)]=>if uU A m t=Ju then Y (.s,.ins c [fld] [t]) else J
|.isI cs,_,[(_,a)]=>if a.isH then J else Y (.d,.bl<|cs.any λc=>isOne c a)
|.list,h,[(m,a)]=>match a with
 |.lst e=>newL h m.kid e
 |.tup e=>newL h m.kid e
 |.scr f=>Y (.d,.lst<|f.map T.int)
 |_=>J
|.tuple,_,[(m,a)]=>match a with
 |.lst e=>Y (m.kid.up,.tup e)
 |.tup e=>Y (m,.tup e)
 |_=>J
|.sum,_,[(_,.lst e)]=>(intsOf e).map λf=>(.d,.int f.sum)
|.all,_,[(_,.lst e)]=>(fY e).map λbs=>(.d,.bl<|bs.all id)
|.any,_,[(_,.lst e)]=>(fY e).map λbs=>(.d,.bl<|bs.any id)
|.max,_,[(_,.int i),(_,.int j)]=>Y (.d,.int<|if j>i then j else i)
|.min,_,[(_,.int i),(_,.int j)]=>Y (.d,.int<|if j<i then j else i)
|.rng,_,[(_,.int i),(_,.int j)]=>if decide (i.natAbs<4611686018427387904)&&decide (j.natAbs<4611686018427387904)&&fits (j-i).toNat then Y (.d,.lst<|(J6 (j-i).toNat).map λ(k:O)=>T.int<|i+k) else J
|.isin,_,[(_,a),(n,b)]=>(elems (n,b)).bind λe=>if flatT a&&e.all flatT then Y (.d,.bl<|e.any λt=>eqT t a) else J
|.notin,_,[(_,a),(n,b)]=>(elems (n,b)).bind λe=>if flatT a&&e.all flatT then Y (.d,.bl<|!e.any λt=>eqT t a) else J
|.int,_,[(_,.int i)]=>Y (.d,.int i)
|.int,_,[(_,.bl b)]=>Y (.d,.int<|b2i b)
|.abs,_,[(_,.int i)]=>Y (.d,.int i.natAbs)
|.max1,_,[(_,.lst e)]=>(intsOf e).bind λf=>if f.isEmpty then J else Y (.d,.int<|maxI f)
|.sorted,_,[(_,.lst e)]=>(intsOf e).bind λf=>if decide (f.length<64) then Y (.d,.lst<|(zZ f).map T.int) else J
|.str,_,[(_,.int i)]=>if decide (i.natAbs<10000000000000000000) then Y (.d,.str<|IK i) else J
|.join,_,[(_,.str z),(_,.lst e)]=>(strsOf e).bind λu=>if sOk (Str.join z u)&&decide ((u.map λs=>s.cps.size+z.cps.size).sum<=LIM) then Y (.d,.str<|Str.join z u) else J
|.split,_,[(_,.str z),(_,.str y)]=>if(y==Str.ofString " ")&&decide (z.cps.size+2<=LIM)&&(splS z).all sOk then Y (.d,.lst<|(splS z).map T.str) else J
|.count,_,[(_,.lst e),(_,.bl b)]=>(fY e).map λbs=>(.d,.int<|bs.count b)
|.lower,_,[(_,.str x)]=>if x.cps.toList.all (λc=>decide (c<128)) then Y (.d,.str ⟨x.cps.map E3⟩) else J
|.inLT,_,[(_,a),(_,.tup e)]=>if decide (dp a<=64)&&decide (dps e<=64) then Y (.d,.bl<|e.any λt=>eqT t a) else J
|.catT,_,[(_,.tup e),(_,.tup r)]=>if fits (e.length+r.length) then Y (.s,.tup<|e++r) else J
|.dnew,_,[]=>Y (.d,.dct [] [])
|.ixD,_,[(.s,.dct l p),(_,k)]=>(keyT k).bind λq=>(lookD q l p).map λt=>(.s,t)
|.dspN l,_,v=>if decide (l.length=v.length)=Ju then Y (.o .s,.dct (l.map Kf)<|v.map λw=>w.2) else J
|.getD,_,[(.s,.dct l p),(_,k)]=>(keyT k).map λq=>(.s,(lookD q l p).getD .non)
|.getE,_,[(.s,.dct l p),(_,k),(.s,d)]=>(keyT k).map λq=>(.s,(lookD q l p).getD d)
|.inD,_,[(_,k),(.s,.dct l p)]=>(keyT k).map λq=>(.d,.bl (lookD q l p).isSome)
|.dcpy,_,[(.s,.dct l p)]=>Y (.o .s,.dct l p)
|.dsp1,_,[(_,.str x),(_,t)]=>Y (.o .s,.dct [.inr x] [t])
|_,_,_=>J
noncomputable def rd:Env->O->L W
|[],_=>J
|o::_,0=>o
|_::a,i+1=>rd a i
noncomputable def wr:Env->O->L W->Env
|[],_,_=>[]
|_::a,0,w=>w::a
|o::a,i+1,w=>o::wr a i w
abbrev put (a:Env)(i:O)(w:W):Env:=wr a i<|Y w
abbrev del (a:Env)(i:O):Env:=wr a i J
def look:W->L W
|(.s,t)=>Y (.s,t)
|(_,t)=>if t.leaf=Ju then Y (.d,t) else J
def toS:L W->L W
|some (_,t)=>Y (.s,t)
|none=>J
def share:U O->Env->Env
|[],a=>a
|i::b,a=>share b<|wr a i<|toS<|rd a i
def lfO:L W->L W
|some (_,t)=>if t.leaf=Ju then Y (.d,t) else J
|none=>J
def gZ:Env->Env
|[]=>[]
|_::a=>none::gZ a
def lS:U O->Env->Env->Env
|[],_,b=>b
|i::c,a,b=>lS c a<|wr b i<|toS<|rd a i
def gA:U O->Env->Env->Env
|[],_,b=>b
|i::c,a,b=>gA c a<|wr b i<|lfO<|rd a i
def pick (c b:U O)(a:Env):Env:=gA b a<|lS c a<|gZ a
def after (m:Md)(b:U O)(a:Env):Env:=match m with
|.d=>a
|_=>share b a
def aQ:U O->U W->Env->L Env
|[],[],a=>Y a
|i::b,w::c,a=>aQ b c<|put a i w
|_,_,_=>J
noncomputable def gE (m:Md):O->U T->U (U W)
|_,[]=>[]
|i,t::a=>[(.d,.int i),(m,t)]::gE m (i+1) a
noncomputable def pairsT:U T->L (U<|U W)
|[]=>Y []
|.tup [x,y]::a=>(pairsT a).map ([(.s,x),(.s,y)]::·)
|_::_=>J
noncomputable def qU:U T->U T->U T->U (U W)
|t::a,u::b,v::c=>[(.s,t),(.s,u),(.s,v)]::qU a b c
|_,_,_=>[]
def bj:Ik->U W->L (U<|U W)
|.seq,[(_,.lst a)]=>Y<|a.map λt=>[(.s,t)]
|.seq,[(_,.tup a)]=>Y<|a.map λt=>[(.s,t)]
|.seq,[(_,.scr b)]=>Y<|b.map λn=>[(.d,.int n)]
|.rng,[(_,.int n)]=>if decide (n.natAbs<4611686018427387904)&&fits n.toNat then Y ((J6 n.toNat).map λ(k:O)=>[(.d,.int k)]) else J
|.rng,[(_,.int i),(_,.int j)]=>if decide (i.natAbs<4611686018427387904)&&decide (j.natAbs<4611686018427387904)&&fits (j-i).toNat then Y ((J6 (j-i).toNat).map λ(k:O)=>[(.d,.int<|i+k)]) else J
|.rng,[(_,.int i),(_,.int j),(_,.int c)]=>if decide (i.natAbs<4611686018427387904)&&decide (j.natAbs<4611686018427387904)&&decide (c=-1)&&fits (i-j).toNat then Y ((J6 (i-j).toNat).map λ(k:O)=>[(.d,.int<|i-k)]) else J
|.enmT,[(_,.tup a)]=>Y<|gE .s 0 a
|.sq2,[(_,.lst a)]=>pairsT a
|.sq2T,[(_,.tup a)]=>pairsT a
|.zip3,[(_,.lst a),(_,.lst e),(_,.lst f)]=>Y<|qU a e f
|_,_=>J
abbrev Call:=O->U W->Res (W×U W)
abbrev RE:=Res<|W×Env
def lf (m:Md)(t:T):Md:=if t.leaf=Ju then .d else m
def gj:U W->Md
|[]=>.d
|w::a=>(lf w.1 w.2).meet<|gj a
def trees:U W->U T
|[]=>[]
|w::a=>w.2::trees a
def aB:U O->Env->Env
|[],a=>a
|i::b,a=>aB b<|del a i
def ios:U E->U O
|[]=>[]
|.io i::a=>i::ios a
|_::a=>ios a
def putAll:U O->U W->Env->Env
|i::b,w::c,a=>putAll b c<|put a i w
|_,_,a=>a
def jY:W->U W->L (W×W)
|(.s,_),_=>J
|(m,.lst a),[]=>(a.getLast?).map λt=>((m.kid,t),(m,.lst a.dropLast))
|(m,.lst (t::a)),[(_,.int 0)]=>Y ((m.kid,t),(m,.lst a))
|_,_=>J
def ib:W->W->L W
|(.s,_),_=>J
|(m,.lst a),(n,t)=>if a.length<LIM then Y ((m.kid.meet<|lf n t).up,.lst<|a++[t]) else J
|_,_=>J
def C6:W->W->L W
|(.s,_),_=>J
|(m,.lst a),(n,.lst b)=>if a.length+b.length<=LIM then Y ((m.kid.meet n.kid).up,.lst<|a++b) else J
|_,_=>J
noncomputable def putT (k:I ⊕ Str)(t:T):U (I ⊕ Str)->U T->U (I ⊕ Str)×U T
|[],_=>([k],[t])
|y::a,v::b=>if y=k then(y::a,t::b) else((y::(putT k t a b).1),(v::(putT k t a b).2))
|y::a,[]=>(y::a,[])
def dR:W->W->W->L W
|(.s,_),_,_=>J
|(m,.dct a b),(_,k),(_,t)=>(keyT k).bind λq=>if decide (a.length<LIM)&&flatT t then Y (m,.dct (putT q t a b).1 (putT q t a b).2) else J
|_,_,_=>J
def dC:W->W->W->L W
|(.s,_),_,_=>J
|(m,.dct a b),(_,k),(_,t)=>(keyT k).bind λq=>if decide (a.length<LIM) then Y (.o .s,.dct (putT q t a b).1 (putT q t a b).2) else J
|_,_,_=>J
def sdfT:L W->L W->L W->L (W×W)
|some (.s,_),_,_=>J
|some (m,.dct a b),Y (_,.str x),Y (.s,t)=>if decide (a.length<LIM)=Ju then Y (match lookD (.inr x) a b with
 |some u=>((.s,u),(m,.dct a b))
 |none=>((.s,t),(.o .s,.dct (putT (.inr x) t a b).1 (putT (.inr x) t a b).2))) else J
|_,_,_=>J
def fE:W->W->W->L W
|(.s,_),_,_=>J
|(m,.lst a),(_,.int j),(n,t)=>(ixN a.length j).map λk=>((m.kid.meet<|lf n t).up,.lst<|a.set k t)
|_,_,_=>J
def chkL:L W->Res Unit
|some (_,.lst _)=>.ok ()
|_=>.no
def xA:W->L (U W)
|(m,.tup a)=>Y<|a.map λt=>(m.kid,t)
|_=>J
def ret {b:Type}(c:Env)(o:L b):Res (b×Env):=match o with
|some a=>.ok (a,c)
|none=>.no
def onB {a:Type}:T->(Env->Res a)->(Env->Res a)->Env->Res a
|.bl Ju,f,_,b=>f b
|.bl Jt,_,g,b=>g b
|_,_,_,_=>.no
def onT {a:Type}(f g:Env->Res a)(p:W×Env):Res a:=match truth p.1.2 with
|some Ju=>f p.2
|some Jt=>g p.2
|none=>.no
def okW {b:Type}(a:b)(c:Env):Res (b×Env):=.ok (a,c)
def vd (p:U W×Env):RE:=.ok (((gj p.1).up,.tup<|trees p.1),p.2)
def sr (h:OF)(p:U W×Env):RE:=.ok ((if h then(gj p.1).up else .o .s,.lst<|trees p.1),p.2)
def kWk (m:Md)(p:W×Env):RE:=ret p.2<|if m.le p.1.1 then Y (m,p.1.2) else J
def kOp (o:Op)(h:OF)(p:U W×Env):RE:=ret p.2<|oSem o h p.1
def ud (f:Env->RE)(p:W×Env):RE:=onT f (okW p.1) p
def kOr (f:Env->RE)(p:W×Env):RE:=onT (okW p.1) f p
def rN (p:W×Env):RE:=ret p.2<|(truth p.1.2).map λb=>(.d,.bl<|!b)
def kC3 (q:Op)(y:W)(z:W×Env):RE:=ret z.2<|oSem q Jt [y,z.1]
def zU {a b:Type}(f:Env->Res (a×Env))(k:a×Env->Res b)(c:Env):Res b:=(f c).bind k
def kC2 (o q:Op)(a:Env->RE)(x:W)(y:W×Env):RE:=(ret y.2<|oSem o Jt [x,y.1]).bind λk=>onB k.1.2 (zU a<|kC3 q y.1) (okW (.d,.bl Jt)) k.2
def kC1 (o q:Op)(a b:Env->RE)(x:W×Env):RE:=(a x.2).bind<|kC2 o q b x.1
def oq (a:U O)(b:Env)(r:W×U W):RE:=.ok (r.1,putAll a r.2 b)
def kA (C:Call)(f:O)(a:U O)(p:U W×Env):RE:=(C f p.1).bind<|oq a p.2
noncomputable def fI (p:W×Env):Res (L W×Env):=.ok (Y p.1,p.2)
def dr (f:Env->RE)(a:Env):Res (L W×Env):=(f a).bind fI
def ir (c f:Env->RE)(a:Env):Res (L W×Env):=(c a).bind<|onT (dr f)<|okW J
def aM (b:U O)(f:Env->Res (L W×Env)):U (U W)->Env->U W->Res (U W×Env)
|[],c,a=>.ok (a,c)
|e::r,c,a=>(ofO<|aQ b e c).bind λd=>(f d).bind λp=>aM b f r (aB b p.2)<|a++p.1.toList
def okD (w:W):OF:=w.1==.d || w.2.leaf
def lx (h:OF)(q:U W×Env):RE:=ret q.2<|if h then(if q.1.all okD then Y (.d,.lst<|trees q.1) else J) else Y (.o .s,.lst<|trees q.1)
def er (h:OF)(k:Ik)(a:U O)(f:Env->Res (L W×Env))(p:U W×Env):RE:=(ret (aB a p.2)<|bj k p.1).bind λt=>(aM a f t.1 t.2 []).bind<|lx h
noncomputable def k9 (f:Env->Res (U W×Env))(a:Env)(k:U W×Env->RE)(_:Unit):RE:=(f a).bind k
def pq (i:O)(p:U W×Env):RE:=(ofO<|(rd p.2 i).bind λw=>jY w p.1).bind λr=>.ok (r.1,put p.2 i r.2)
noncomputable def ixVT:L W->L W->L W
|some (.o .s,.lst a),Y (_,.int j)=>(atI a j).map λt=>(.s,t)
|some (.s,.lst a),Y (_,.int j)=>(atI a j).map λt=>(.s,t)
|_,_=>J
noncomputable def kPopN0 (f:Env->RE)(a:Env)(k:W×Env->RE)(_:Unit):RE:=(f a).bind k
def kSdf (i:O)(a:Env)(r:W×W):RE:=.ok (r.1,put a i r.2)
def kIxQ (i:O)(p:W×Env):RE:=ret p.2<|ixVT (rd p.2 i)<|Y p.1
def nP (w:W)(q:U W×Env):Res (U W×Env):=.ok (w::q.1,q.2)
def a0 (f:Env->Res (U W×Env))(p:W×Env):Res (U W×Env):=(f p.2).bind<|nP p.1
def kTab {b:Type}(tab:U<|Str×b)(f:b->Env->RE)(p:W×Env):RE:=match p.1.2 with
|.str x=>match tab.lookup x with
 |some a=>f a p.2
 |none=>.no
|_=>.no
def kIn (a:OF)(b:U Str)(p:W×Env):RE:=match p.1.2 with
|.str x=>.ok ((.d,.bl<|b.contains x != a),p.2)
|_=>.no
def okS (t:T)(a:Env):RE:=.ok ((.s,t),a)
def kGet (tab:U<|Str×T)(p:W×Env):RE:=match p.1.2 with
|.str x=>.ok ((.s,(tab.lookup x).getD .non),p.2)
|_=>.no
def kX (a:U O)(b:Env)(p:W×Env):RE:=.ok ((lf p.1.1 p.1.2,p.1.2),after (lf p.1.1 p.1.2) a b)
def kIo (i:O)(p:U W×Env):Res (U W×Env):=(ofO<|rd p.2 i).bind λw=>.ok (w::p.1,del p.2 i)
section
variable (C:Call)
mutual
def evE:E->Env->RE
|.var i,η=>ret η<|(rd η i).bind look
|.mv i,η=>ret (del η i)<|rd η i
|.io i,η=>ret (del η i)<|rd η i
|.cst t,η=>.ok ((.d,t),η)
|.tup es,η=>(evL es η).bind vd
|.lst h es,η=>(evL es η).bind<|sr h
|.wk m e,η=>(evE e η).bind<|kWk m
|.op o h es,η=>(evL es η).bind<|kOp o h
|.and a b,η=>(evE a η).bind<|ud<|evE b
|.or a b,η=>(evE a η).bind<|kOr<|evE b
|.not a,η=>(evE a η).bind rN
|.ifx c a b,η=>(evE c η).bind<|onT (evE a)<|evE b
|.call f es,η=>(evA es η).bind<|kA C f<|ios es
|.comp h k src tg J elt,η=>(evL src η).bind<|er h k tg<|dr<|evE elt
|.comp h k src tg (Y c) elt,η=>(evL src η).bind<|er h k tg<|ir (evE c)<|evE elt
|.pop i es,η=>(chkL<|rd η i).bind<|k9 (evL es) η<|pq i
|.lenV i,η=>ret η<|(rd η i).bind λw=>oSem .len Jt [w]
|.ixQ i e,η=>(chkL<|rd η i).bind<|kPopN0 (evE e) η<|kIxQ i
|.qx vs ls e,η=>(evE e<|pick vs ls η).bind<|kX vs η
|.sdf i j k,η=>(ofO<|sdfT (rd η i) (rd η j)<|rd η k).bind<|kSdf i η
|.inT neg ks e,η=>(evE e η).bind<|kIn neg ks
|.ixT tab e,η=>(evE e η).bind<|kTab tab okS
|.getT tab e,η=>(evE e η).bind<|kGet tab
def evL:U E->Env->Res (U W×Env)
|[],η=>.ok ([],η)
|e::es,η=>(evE e η).bind<|a0<|evL es
def evA:U E->Env->Res (U W×Env)
|[],η=>.ok ([],η)
|.io i::es,η=>(evA es η).bind<|kIo i
|e::es,η=>(evE e η).bind<|a0<|evA es
end
def kT (a:Env)(p:W×Env):Res (OF×Env):=ret a<|truth p.1.2
def kT2 (p:W×Env):Res (OF×Env):=ret p.2<|truth p.1.2
def evX:X->E->Env->RE
|.q a c,e,b=>(evE C e<|pick a c b).bind<|kX a b
|.l a,e,b=>evE C e<|share a b
def evT:X->E->Env->Res (OF×Env)
|.q b c,e,a=>(evE C e<|pick b c a).bind<|kT a
|.l b,e,a=>(evE C e<|share b a).bind kT2
def Fl.of {b:Type}(c:Env):Res b->(b->Fl)->Fl
|.ok a,f=>f a
|.ex _,_=>.no
|.no,_=>.no
noncomputable def Fl.seq:Fl->(Env->Fl)->Fl
|.nx a,f=>f a
|z,_=>z
noncomputable def Fl.turn:Fl->(Env->Fl)->Fl
|.nx a,f=>f a
|.bk a,_=>.nx a
|z,_=>z
noncomputable def onF:OF->(Env->Fl)->(Env->Fl)->Env->Fl
|true,f,_,a=>f a
|false,_,g,a=>g a
def b4 (c:U O)(f:Env->Fl):U (U W)->Env->Fl
|[],a=>.nx a
|d::r,a=>Fl.of a (ofO<|aQ c d a) λb=>Fl.turn (f b)<|b4 c f r
def kIf (f g:Env->Fl)(p:OF×Env):Fl:=onF p.1 f g p.2
def EB (f:Env->Fl)(g:Env->Fl)(a:Env):Fl:=Fl.turn (f a) g
def nxO (a:Env):L Env->Fl
|some a=>.nx a
|none=>.no
def wC (i:O)(p:W×Env):Fl:=.nx<|put p.2 i p.1
def kM (a:U O)(p:W×Env):Fl:=nxO p.2<|(xA p.1).bind λb=>aQ a b p.2
def rV (i:O)(p:W×Env):Fl:=nxO p.2<|((rd p.2 i).bind λw=>ib w p.1).map λw=>put p.2 i w
def D8 (i:O)(p:W×Env):Fl:=nxO p.2<|((rd p.2 i).bind λw=>C6 w p.1).map λw=>put p.2 i w
def zF (i:O)(x:W)(q:W×Env):Fl:=nxO q.2<|((rd q.2 i).bind λw=>fE w q.1 x).map λw=>put q.2 i w
def mh (i:O)(x:W)(q:W×Env):Fl:=nxO q.2<|((rd q.2 i).bind λw=>dR w q.1 x).map λw=>put q.2 i w
def nL (i:O)(f:Env->RE)(a:Env)(p:W×Env):Fl:=Fl.of a (f p.2)<|mh i p.1
def lD (i:O)(x:W)(q:W×Env):Fl:=nxO q.2<|((rd q.2 i).bind λw=>dC w q.1 x).map λw=>put q.2 i w
def ox (i:O)(f:Env->RE)(a:Env)(p:W×Env):Fl:=Fl.of a (f p.2)<|lD i p.1
def HD (i:O)(f:Env->RE)(a:Env)(p:W×Env):Fl:=Fl.of a (f p.2)<|zF i p.1
noncomputable def oU (f:Env->RE)(a:Env)(k:W×Env->Fl)(_:Unit):Fl:=Fl.of a (f a) k
def kNx (p:W×Env):Fl:=.nx p.2
def kRt (p:W×Env):Fl:=.rt p.1 p.2
def oh (a:U O)(f:Env->Fl)(t:U (U W)×Env):Fl:=b4 a f t.1 t.2
def uO (c:U O)(k:Ik)(b:U O)(f:Env->Fl)(a:Env)(p:U W×Env):Fl:=Fl.of a (ret (share c a)<|bj k p.1)<|oh b f
def yo (k:W->Env->Fl)(a:Env):Res (W×U W)->Fl
|.ok (w,[])=>k w a
|.ex t=>.ex t a
|_=>.no
def kC (f:O)(k:W->Env->Fl)(p:U W×Env):Fl:=yo k p.2<|C f p.1
def Hd (i:O)(w:W)(a:Env):Fl:=.nx<|put a i w
def F3 (_:W)(a:Env):Fl:=.nx a
def lH (c:O)(fld:Str)(a:O)(p:W×Env):Fl:=if uU a p.1.1 p.1.2=Ju then .ex (.ins c [fld] [p.1.2]) p.2 else .no
def Fl.drop (i:O):Fl->Fl
|.nx a=>.nx<|del a i
|.rt w a=>.rt w<|del a i
|_=>.no
def Fl.caught (cs:U O)(i:O)(h:Env->Fl):Fl->Fl
|.ex (.ins c fs a) b=>if cs.contains c=Ju then Fl.drop i (h<|put b i (.s,.ins c fs a)) else .no
|.ex _ _=>.no
|z=>z
mutual
def evS:S->Env->Fl
|.asg x i e,η=>Fl.of η (evX C x e η)<|wC i
|.asgT x is e,η=>Fl.of η (evX C x e η)<|kM is
|.setK x i k e,η=>Fl.of η (evX C x e η)<|nL i (evX C x k) η
|.setS x i k e,η=>Fl.of η (evX C x e η)<|ox i (evX C x k) η
|.exp x e,η=>Fl.of η (evX C x e η) kNx
|.app x i e,η=>Fl.of η (chkL<|rd η i)<|oU (evX C x e) η<|rV i
|.ext x i e,η=>Fl.of η (chkL<|rd η i)<|oU (evX C x e) η<|D8 i
|.ret vs e,η=>Fl.of η (evE C e<|share vs η) kRt
|.ite x c a b,η=>Fl.of η (evT C x c η)<|kIf (evSs a)<|evSs b
|.forS vs ls k src tg body,η=>Fl.of η (evL C src<|pick vs ls η)<|uO vs k tg (evSs body) η
|.brk,η=>.bk η
|.pas,η=>.nx η
|.stop,_=>.no
|.tri body,η=>evSs body η
|.raise c fld fk x e,η=>Fl.of η (evX C x e η)<|lH c fld fk
def evSs:U S->Env->Fl
|[],η=>.nx η
|s::r,η=>Fl.seq (evS s η)<|evSs r
end
end
def backs:U O->Env->L (U W)
|[],_=>Y []
|i::b,a=>(rd a i).bind λw=>(backs b a).bind λc=>Y (w::c)
def ti (w:W)(b:U W):Res (W×U W):=.ok (w,b)
def Fl.out (b:U O):Fl->Res (W×U W)
|.nx a=>(ofO<|backs b a).bind<|ti (.d,.non)
|.rt w a=>(ofO<|backs b a).bind<|ti w
|.ex t _=>.ex t
|_=>.no
def runF (C:Call)(f:Fn)(a:U W):Res (W×U W):=
 if a.length=f.ps then Fl.out f.io (evSs C f.body<|a.map Y++JV f.ns J) else .no
abbrev Iz:=U Fn
def CI (n:O):U W->Res (W×U W)
|[(m,t)]=>if(lf m t==.d&&(decide (dp t<=n)&&decide (dp t<=64)))=Ju then .ok ((.d,.non),[]) else .no
|_=>.no
def zu:U O->U T->U T
|[],_=>[]
|n::b,a=>.lst (a.take n)::zu b (a.drop n)
noncomputable def qF:U T->L (U O)
|[]=>Y []
|.int (.ofNat n)::a=>(qF a).map (n::·)
|_::_=>J
def Er:U W->Res (W×U W)
|[(_,.lst a),(m,.lst c)]=>(ofO<|qF a).bind λb=>.ok ((m.kid.up.up,.lst<|zu b c),[])
|_=>.no
def callR (P:Iz)(s r:O):O->Call
|0=>λ_ _=>.no
|n+1=>λf a=>if f=s then CI n a else if f=r then Er a else(ofO P[f]?).bind λd=>runF (callR P s r n) d a
abbrev zf:Fn:={ps:=0,ns:=0,io:=[],body:=[.stop]}
theorem Ag (C:Call)(i:O)(a:Env):evE C (.var i) a=ret a ((rd a i).bind look):=rfl
theorem CS (C:Call)(i:O)(a:Env):evE C (.mv i) a=ret (del a i) (rd a i):=rfl
theorem Bb (C:Call)(i:O)(a:Env):evE C (.io i) a=ret (del a i) (rd a i):=rfl
theorem CF (C:Call)(t:T)(a:Env):evE C (.cst t) a=.ok ((.d,t),a):=rfl
theorem Ef (C:Call)(a:U E)(b:Env):evE C (.tup a) b=(evL C a b).bind vd:=rfl
theorem Dv (C:Call)(h:OF)(a:U E)(b:Env):evE C (.lst h a) b=(evL C a b).bind (sr h):=rfl
theorem AV (C:Call)(m:Md)(e:E)(a:Env):evE C (.wk m e) a=(evE C e a).bind (kWk m):=rfl
theorem DT (C:Call)(o:Op)(h:OF)(a:U E)(b:Env):evE C (.op o h a) b=(evL C a b).bind (kOp o h):=rfl
theorem wR (C:Call)(a:E)(b:E)(c:Env):evE C (.and a b) c=(evE C a c).bind (ud<|evE C b):=rfl
theorem wJ (C:Call)(a:E)(b:E)(c:Env):evE C (.or a b) c=(evE C a c).bind (kOr<|evE C b):=rfl
theorem yQ (C:Call)(a:E)(b:Env):evE C (.not a) b=(evE C a b).bind rN:=rfl
theorem xO (C:Call)(c:E)(a:E)(b:E)(d:Env):evE C (.ifx c a b) d=(evE C c d).bind (onT (evE C a)<|evE C b):=rfl
theorem xl (C:Call)(f:O)(a:U E)(b:Env):evE C (.call f a) b=(evA C a b).bind (kA C f<|ios a):=rfl
theorem xq (C:Call)(h:OF)(k:Ik)(b:U E)(c:U O)(a:E)(d:Env):evE C (.comp h k b c J a) d=(evL C b d).bind (er h k c<|dr<|evE C a):=rfl
theorem xN (C:Call)(h:OF)(k:Ik)(b:U E)(d:U O)(c:E)(a:E)(e:Env):evE C (.comp h k b d (Y c) a) e=(evL C b e).bind (er h k d<|ir (evE C c)<|evE C a):=rfl
theorem wm (C:Call)(i:O)(b:U E)(a:Env):evE C (.pop i b) a=(chkL<|rd a i).bind (k9 (evL C b) a<|pq i):=rfl
theorem r8 (C:Call)(a c:U O)(e:E)(b:Env):evE C (.qx a c e) b=(evE C e<|pick a c b).bind (kX a b):=rfl
theorem qp (C:Call)(a:OF)(b:U Str)(e:E)(c:Env):evE C (.inT a b e) c=(evE C e c).bind (kIn a b):=rfl
theorem pD (C:Call)(tab:U<|Str×T)(e:E)(a:Env):evE C (.ixT tab e) a=(evE C e a).bind (kTab tab okS):=rfl
theorem lY (C:Call)(tab:U<|Str×T)(e:E)(a:Env):evE C (.getT tab e) a=(evE C e a).bind (kGet tab):=rfl
theorem q8 (C:Call)(c b:U O)(e:E)(a:U E)(d:Env):evA C (.qx c b e::a) d=(evE C (.qx c b e) d).bind (a0<|evA C a):=rfl
theorem oR (C:Call)(a:OF)(c:U Str)(e:E)(b:U E)(d:Env):evA C (.inT a c e::b) d=(evE C (.inT a c e) d).bind (a0<|evA C b):=rfl
theorem qy (C:Call)(tab:U<|Str×T)(e:E)(a:U E)(b:Env):evA C (.ixT tab e::a) b=(evE C (.ixT tab e) b).bind (a0<|evA C a):=rfl
theorem lP (C:Call)(tab:U<|Str×T)(e:E)(a:U E)(b:Env):evA C (.getT tab e::a) b=(evE C (.getT tab e) b).bind (a0<|evA C a):=rfl
theorem Ea {b:Type}(tab:U<|Str×b)(f:b->Env->RE)(m:Md)(x:Str)(c:Env):kTab tab f ((m,.str x),c)=(match tab.lookup x with|some a=>f a c | none=>.no):=rfl
theorem Bf (h:OF)(m n:Md)(a:U T)(i:I):oSem .sl1 h [(m,.lst a),(n,.int i)]=newL h m.kid (cut a (Y i) J):=rfl
theorem AW (h:OF)(m n:Md)(a:U T)(k:I):oSem .mul h [(m,.lst a),(n,.int k)]=if decide (k.natAbs<4611686018427387904)&&fits (a.length * k.toNat) then newL h .s (JV k.toNat a).flatten else none:=rfl
theorem Gv (h:OF)(m n:Md)(i j:I):oSem .min h [(m,.int i),(n,.int j)]=Y (.d,.int<|if j<i then j else i):=rfl
theorem Ey (h:OF)(m n:Md)(i j:I):oSem .max h [(m,.int i),(n,.int j)]=Y (.d,.int<|if j>i then j else i):=rfl
def lkM:Md->Md
|.s=>.s|_=>.d
theorem H8:lkM .s=.s:=rfl
theorem Jh:lkM .d=.d:=rfl
theorem Jg (m:Md):lkM (.o m)=.d:=rfl
theorem Hu (m:Md)(i:I):look (m,.int i)=Y (lkM m,.int i):=by cases m<;>rfl
theorem FR (m:Md)(b:OF):look (m,.bl b)=Y (lkM m,.bl b):=by cases m<;>rfl
theorem Fm (m:Md)(x:Str):look (m,.str x)=Y (lkM m,.str x):=by cases m<;>rfl
theorem GP (m:Md):look (m,.non)=Y (lkM m,.non):=by cases m<;>rfl
theorem DG (m n k:Md)(a b c:U T):bj .zip3 [(m,.lst a),(n,.lst b),(k,.lst c)]=Y (qU a b c):=rfl
theorem HR (a:OF)(b:U Str)(m:Md)(x:Str)(c:Env):kIn a b ((m,.str x),c)=.ok ((.d,.bl<|b.contains x != a),c):=rfl
theorem Ho (tab:U<|Str×T)(m:Md)(x:Str)(a:Env):kGet tab ((m,.str x),a)=.ok ((.s,(tab.lookup x).getD .non),a):=rfl
theorem Ds (m:Md)(a:U T)(j:I):ixVT (Y (.o .s,.lst a)) (Y (m,.int j))=(atI a j).map λt=>(.s,t):=rfl
theorem BC (m:Md)(a:U T)(j:I):ixVT (Y (.s,.lst a)) (Y (m,.int j))=(atI a j).map λt=>(.s,t):=rfl
theorem mC (C:Call)(i:O)(a:Env):evE C (.lenV i) a=ret a ((rd a i).bind λw=>oSem .len Jt [w]):=rfl
theorem mB (C:Call)(i:O)(a:U E)(b:Env):evA C (.lenV i::a) b=(evE C (.lenV i) b).bind (a0<|evA C a):=rfl
theorem CP (C:Call)(a:Env):evA C [] a=.ok ([],a):=rfl
theorem DY (C:Call)(i:O)(a:U E)(b:Env):evA C (.io i::a) b=(evA C a b).bind (kIo i):=rfl
theorem pP (C:Call)(i:O)(a:U E)(b:Env):evA C (.var i::a) b=(evE C (.var i) b).bind (a0<|evA C a):=rfl
theorem uJ (C:Call)(i:O)(a:U E)(b:Env):evA C (.mv i::a) b=(evE C (.mv i) b).bind (a0<|evA C a):=rfl
theorem qi (C:Call)(t:T)(a:U E)(b:Env):evA C (.cst t::a) b=(evE C (.cst t) b).bind (a0<|evA C a):=rfl
theorem pU (C:Call)(l:U E)(a:U E)(b:Env):evA C (.tup l::a) b=(evE C (.tup l) b).bind (a0<|evA C a):=rfl
theorem pG (C:Call)(h:OF)(l:U E)(a:U E)(b:Env):evA C (.lst h l::a) b=(evE C (.lst h l) b).bind (a0<|evA C a):=rfl
theorem qY (C:Call)(o:Op)(h:OF)(l:U E)(a:U E)(b:Env):evA C (.op o h l::a) b=(evE C (.op o h l) b).bind (a0<|evA C a):=rfl
theorem vF (C:Call)(m:Md)(e:E)(a:U E)(b:Env):evA C (.wk m e::a) b=(evE C (.wk m e) b).bind (a0<|evA C a):=rfl
theorem pW (C:Call)(a b:E)(c:U E)(d:Env):evA C (.and a b::c) d=(evE C (.and a b) d).bind (a0<|evA C c):=rfl
theorem rf (C:Call)(a b:E)(c:U E)(d:Env):evA C (.or a b::c) d=(evE C (.or a b) d).bind (a0<|evA C c):=rfl
theorem pI (C:Call)(a:E)(b:U E)(c:Env):evA C (.not a::b) c=(evE C (.not a) c).bind (a0<|evA C b):=rfl
theorem qc (C:Call)(c a b:E)(d:U E)(e:Env):evA C (.ifx c a b::d) e=(evE C (.ifx c a b) e).bind (a0<|evA C d):=rfl
theorem my (C:Call)(f:O)(l:U E)(a:U E)(b:Env):evA C (.call f l::a) b=(evE C (.call f l) b).bind (a0<|evA C a):=rfl
theorem mH (C:Call)(h:OF)(k:Ik)(c:U E)(e:U O)(a:L E)(b:E)(d:U E)(f:Env):evA C (.comp h k c e a b::d) f=(evE C (.comp h k c e a b) f).bind (a0<|evA C d):=rfl
theorem qw (C:Call)(i:O)(l:U E)(a:U E)(b:Env):evA C (.pop i l::a) b=(evE C (.pop i l) b).bind (a0<|evA C a):=rfl
theorem An {C:Call}{e:E}{a:U E}{b:Env}(c:∀i,e≠.io i):evA C (e::a) b=(evE C e b).bind (a0<|evA C a):=by
 cases e with
 |io i=>exact OH rfl (c i)
 |_=>rfl
theorem yF (C:Call)(a:Env):evL C ([]) a=.ok ([],a):=rfl
theorem wG (C:Call)(e:E)(a:U E)(b:Env):evL C (e::a) b=(evE C e b).bind (a0<|evL C a):=rfl
theorem wt (C:Call)(x:X)(i:O)(e:E)(a:Env):evS C (.asg x i e) a=Fl.of a (evX C x e a) (wC i):=rfl
theorem xD (C:Call)(x:X)(b:U O)(e:E)(a:Env):evS C (.asgT x b e) a=Fl.of a (evX C x e a) (kM b):=rfl
theorem lI (C:Call)(x:X)(i:O)(k:E)(e:E)(a:Env):evS C (.setK x i k e) a=Fl.of a (evX C x e a) (nL i (evX C x k) a):=rfl
theorem wj (C:Call)(x:X)(e:E)(a:Env):evS C (.exp x e) a=Fl.of a (evX C x e a) kNx:=rfl
theorem xY (C:Call)(x:X)(i:O)(e:E)(a:Env):evS C (.app x i e) a=Fl.of a (chkL<|rd a i) (oU (evX C x e) a<|rV i):=rfl
theorem xa (C:Call)(x:X)(i:O)(e:E)(a:Env):evS C (.ext x i e) a=Fl.of a (chkL<|rd a i) (oU (evX C x e) a<|D8 i):=rfl
theorem xG (C:Call)(b:U O)(e:E)(a:Env):evS C (.ret b e) a=Fl.of a (evE C e<|share b a) kRt:=rfl
theorem zp (C:Call)(x:X)(c:E)(a:U S)(b:U S)(d:Env):evS C (.ite x c a b) d=Fl.of d (evT C x c d) (kIf (evSs C a)<|evSs C b):=rfl
theorem yS (C:Call)(d:U O)(e:U O)(k:Ik)(b:U E)(f:U O)(a:U S)(c:Env):evS C (.forS d e k b f a) c=Fl.of c (evL C b<|pick d e c) (uO d k f (evSs C a) c):=rfl
theorem wu (C:Call)(a:Env):evS C (.brk) a=.bk a:=rfl
theorem wW (C:Call)(a:Env):evS C (.pas) a=.nx a:=rfl
theorem q0 (C:Call)(a:Env):evSs C ([]) a=.nx a:=rfl
theorem gW (C:Call)(s:S)(r:U S)(a:Env):evSs C (s::r) a=Fl.seq (evS C s a) (evSs C r):=rfl
theorem wy (C:Call)(a:U O)(c:U O)(e:E)(b:Env):evX C (.q a c) e b=(evE C e<|pick a c b).bind (kX a b):=rfl
theorem vR (C:Call)(a:U O)(e:E)(b:Env):evX C (.l a) e b=evE C e (share a b):=rfl
theorem y8 (C:Call)(c:U O)(b:U O)(e:E)(a:Env):evT C (.q c b) e a=(evE C e<|pick c b a).bind (kT a):=rfl
theorem xb (C:Call)(a:U O)(e:E)(b:Env):evT C (.l a) e b=(evE C e<|share a b).bind kT2:=rfl
theorem BY {b c:Type}(a:b)(f:b->Res c):(Res.ok a).bind f=f a:=rfl
theorem IY {b:Type}(c:Env)(a:b)(f:b->Fl):Fl.of c (.ok a) f=f a:=rfl
theorem Bu (a:Env)(f:Env->Fl):Fl.seq (.nx a) f=f a:=rfl
theorem AE (w:W)(a:Env)(f:Env->Fl):Fl.seq (.rt w a) f=.rt w a:=rfl
theorem BJ (a:Env)(f:Env->Fl):Fl.seq (.bk a) f=.bk a:=rfl
theorem xJ (a:Env)(f:Env->Fl):Fl.turn (.nx a) f=f a:=rfl
theorem wz (w:W)(a:Env)(f:Env->Fl):Fl.turn (.rt w a) f=.rt w a:=rfl
theorem xK (a:Env)(f:Env->Fl):Fl.turn (.bk a) f=.nx a:=rfl
theorem Dm {b:Type}(f g:Env->Res b)(a:Env):onB (.bl Ju) f g a=f a:=rfl
theorem Bm {b:Type}(f g:Env->Res b)(a:Env):onB (.bl Jt) f g a=g a:=rfl
theorem CL {c:Type}(f g:Env->Res c)(m:Md)(b:OF)(a:Env):onT f g ((m,.bl b),a)=onB (.bl b) f g a:=by cases b<;>rfl
theorem CQ {b:Type}(f g:Env->Res b)(m:Md)(a:Env):onT f g ((m,.bl Ju),a)=f a:=rfl
theorem As {b:Type}(f g:Env->Res b)(m:Md)(a:Env):onT f g ((m,.bl Jt),a)=g a:=rfl
theorem DZ (f g:Env->Fl)(a:Env):onF Ju f g a=f a:=rfl
theorem BK (f g:Env->Fl)(a:Env):onF Jt f g a=g a:=rfl
theorem Gz {b:Type}(a:b):ofO (Y a)=.ok a:=rfl
theorem Eh {c:Type}(b:Env)(a:c):ret b (Y a)=.ok (a,b):=rfl
theorem G9 (o:L W)(a:Env):rd (o::a) 0=o:=rfl
theorem F7 (o:L W)(a:Env)(i:O):rd (o::a) (i+1)=rd a i:=rfl
theorem GN (o w:L W)(a:Env):wr (o::a) 0 w=w::a:=rfl
theorem EE (o w:L W)(a:Env)(i:O):wr (o::a) (i+1) w=o::wr a i w:=rfl
theorem xt (t:T):look (.s,t)=Y (.s,t):=rfl
theorem aa (t:T):look (.d,t)=if t.leaf=Ju then Y (.d,t) else none:=rfl
theorem wV (m:Md)(i:I):(look (.d,.int i))=Y (.d,.int i):=rfl
theorem xB (m:Md)(b:OF):(look (.d,.bl b))=Y (.d,.bl b):=rfl
theorem v9 (x:Str):(look (.d,.str x))=Y (.d,.str x):=rfl
theorem yu:(look (.d,.non))=Y (.d,.non):=rfl
theorem Hv (m:Md)(t:T):toS (Y (m,t))=Y (.s,t):=rfl
theorem BU:toS J=none:=rfl
theorem rH (a:Env):share [] a=a:=rfl
theorem rE (i:O)(b:U O)(a:Env):share (i::b) a=share b (wr a i<|toS<|rd a i):=rfl
theorem qH:gZ []=[]:=rfl
theorem vK (o:L W)(a:Env):gZ (o::a)=none::gZ a:=rfl
theorem Eb (c b:U O)(a:Env):pick c b a=gA b a (lS c a<|gZ a):=rfl
theorem zh (a b:Env):lS [] a b=b:=rfl
theorem yh (i:O)(b:U O)(a c:Env):lS (i::b) a c=lS b a (wr c i<|toS<|rd a i):=rfl
theorem tZ (a b:Env):gA [] a b=b:=rfl
theorem uz (i:O)(b:U O)(a c:Env):gA (i::b) a c=gA b a (wr c i<|lfO<|rd a i):=rfl
theorem EF (m:Md)(i:I):lfO (Y (m,.int i))=Y (.d,.int i):=rfl
theorem GF (m:Md)(b:OF):lfO (Y (m,.bl b))=Y (.d,.bl b):=rfl
theorem G7 (m:Md)(x:Str):lfO (Y (m,.str x))=Y (.d,.str x):=rfl
theorem F4 (m:Md):lfO (Y (m,.non))=Y (.d,.non):=rfl
theorem qA (b:U O)(a:Env):after .d b a=a:=rfl
theorem sX (a:U O)(b:Env):after .s a b=share a b:=rfl
theorem sL (m:Md)(a:U O)(b:Env):after (.o m) a b=share a b:=rfl
theorem Cb (m:Md)(i:I):lf m (.int i)=.d:=rfl
theorem D4 (m:Md)(b:OF):lf m (.bl b)=.d:=rfl
theorem D9 (m:Md)(x:Str):lf m (.str x)=.d:=rfl
theorem AQ (m:Md):lf m .non=.d:=rfl
theorem Dp (m:Md)(a:U T):lf m (.lst a)=m:=rfl
theorem Cz (m:Md)(a:U T):lf m (.tup a)=m:=rfl
theorem Aw (t:T):lf .d t=.d:=by unfold lf;split<;>rfl
theorem Ba (m:Md):Md.s.le m=true:=by cases m<;>rfl
theorem wg:Md.d.le .d=true:=rfl
theorem xy (m:Md):(Md.o m).le .d=true:=rfl
theorem yA (m n:Md):(Md.o m).le (.o n)=m.le n:=rfl
theorem CU (h:OF)(m n:Md)(i j:I):oSem .add h [(m,.int i),(n,.int j)]=Y (.d,.int<|i+j):=rfl
theorem rh (h:OF)(m n:Md)(a b:U T):oSem .add h [(m,.lst a),(n,.lst b)]=if fits (a.length+b.length) then newL h (m.kid.meet n.kid) (a++b) else none:=rfl
theorem um (h:OF)(m n:Md)(x y:Str):oSem .add h [(m,.str x),(n,.str y)]=if fits (x.cps.size+y.cps.size) then Y (.d,.str<|x++y) else none:=rfl
theorem uL (h:OF)(m n:Md)(a b:U T):oSem .add h [(m,.tup a),(n,.tup b)]=if fits (a.length+b.length)&&!a.isEmpty then Y (.s,.tup<|a++b) else none:=rfl
theorem Ff (h:OF)(m n:Md)(i j:I):oSem .sub h [(m,.int i),(n,.int j)]=Y (.d,.int<|i-j):=rfl
theorem uD (h:OF)(m n:Md)(i j:I):oSem .mul h [(m,.int i),(n,.int j)]=if(decide (i.natAbs<18446744073709551616)) || (decide (j.natAbs<18446744073709551616)) then Y (.d,.int<|i * j) else none:=rfl
theorem tU (h:OF)(m n:Md)(i j:I):oSem .fdiv h [(m,.int i),(n,.int j)]=if decide (0<j)&&decide (j<1073741824) then Y (.d,.int<|i / j) else none:=rfl
theorem zD (h:OF)(m n:Md)(i j:I):oSem .mod h [(m,.int i),(n,.int j)]=if decide (0<j) then Y (.d,.int<|i % j) else none:=rfl
theorem FT (h:OF)(m n:Md)(i j:I):oSem .pow h [(m,.int i),(n,.int j)]=if decide (0<=j)&&decide (j<=1000000)&&decide (i.natAbs<18446744073709551616) then Y (.d,.int<|i ^ j.toNat) else none:=rfl
theorem FQ (h:OF)(m:Md)(i:I):oSem .neg h [(m,.int i)]=Y (.d,.int (-i)):=rfl
theorem Ac (h:OF)(m n:Md)(i j:I):oSem .eq h [(m,.int i),(n,.int j)]=Y (.d,.bl<|i==j):=rfl
theorem Bi (h:OF)(m n:Md)(x y:Str):oSem .eq h [(m,.str x),(n,.str y)]=Y (.d,.bl<|x==y):=rfl
theorem BD (h:OF)(m n:Md)(a b:OF):oSem .eq h [(m,.bl a),(n,.bl b)]=Y (.d,.bl<|a==b):=rfl
theorem Cs (h:OF)(m n:Md)(i j:I):oSem .ne h [(m,.int i),(n,.int j)]=Y (.d,.bl<|!(i==j)):=rfl
theorem Ar (h:OF)(m n:Md)(x y:Str):oSem .ne h [(m,.str x),(n,.str y)]=Y (.d,.bl<|!(x==y)):=rfl
theorem DM (h:OF)(m n:Md)(a b:OF):oSem .ne h [(m,.bl a),(n,.bl b)]=Y (.d,.bl<|!(a==b)):=rfl
theorem Jn (h:OF)(m n:Md)(i j:I):oSem .lt h [(m,.int i),(n,.int j)]=Y (.d,.bl<|decide (i<j)):=rfl
theorem Ie (h:OF)(m n:Md)(i j:I):oSem .le h [(m,.int i),(n,.int j)]=Y (.d,.bl<|decide (i<=j)):=rfl
theorem IE (h:OF)(m n:Md)(i j:I):oSem .gt h [(m,.int i),(n,.int j)]=Y (.d,.bl<|decide (j<i)):=rfl
theorem Jj (h:OF)(m n:Md)(i j:I):oSem .ge h [(m,.int i),(n,.int j)]=Y (.d,.bl<|decide (j<=i)):=rfl
theorem Ii (h:OF)(m n:Md)(a:T):oSem .is h [(m,a),(n,.non)]=if a.isG then J else Y (.d,.bl a.isN):=rfl
theorem vO (h:OF)(m n:Md)(a:T):oSem .isnot h [(m,a),(n,.non)]=if a.isG then J else Y (.d,.bl<|!a.isN):=rfl
theorem E7 (h:OF)(m n:Md)(a:U T)(i:I):oSem .ix h [(m,.lst a),(n,.int i)]=(atI a i).map λt=>(m.kid,t):=rfl
theorem Ei (h:OF)(m n:Md)(a:U T)(i:I):oSem .ix h [(m,.tup a),(n,.int i)]=(atI a i).map λt=>(m.kid,t):=rfl
theorem CJ (h:OF)(m:Md)(a:U T):oSem .len h [(m,.lst a)]=Y (.d,.int a.length):=rfl
theorem Br (h:OF)(m:Md)(a:U T):oSem .len h [(m,.tup a)]=Y (.d,.int a.length):=rfl
theorem DC (h:OF)(m:Md)(a:U I):oSem .len h [(m,.scr a)]=Y (.d,.int a.length):=rfl
theorem E8 (h:OF)(m n:Md)(a:U I)(i:I):oSem .ix h [(m,.scr a),(n,.int i)]=(atI a i).map λn=>(.d,.int n):=rfl
theorem CG (m:Md)(a:U I):lf m (.scr a)=.d:=rfl
theorem FH (m:Md)(a:U I):lfO (Y (m,.scr a))=Y (.d,.scr a):=rfl
theorem y9 (a:U I):look (.d,.scr a)=Y (.d,.scr a):=rfl
theorem CY (h:OF)(m:Md)(x:Str):oSem .len h [(m,.str x)]=Y (.d,.int x.cps.size):=rfl
theorem Au (fld g:Str)(c:O)(h:OF)(m:Md)(a:U T):oSem (.att fld) h [(m,.ins c [g] [.tup a])]=if(g==fld)=Ju then Y (.s,.tup a) else none:=rfl
theorem Dz (fld g:Str)(c:O)(h:OF)(m:Md)(x:Str):oSem (.att fld) h [(m,.ins c [g] [.str x])]=if(g==fld)=Ju then Y (.d,.str x) else none:=rfl
theorem H9 (c:O)(fld:Str)(a:O)(h:OF)(m:Md)(t:T):oSem (.mk c fld a) h [(m,t)]=if uU a m t=Ju then Y (.s,.ins c [fld] [t]) else none:=rfl
theorem GS (fld g:Str)(c:O)(h:OF)(m:Md)(n:I):oSem (.att fld) h [(m,.ins c [g] [.int n])]=if(g==fld)=Ju then Y (.d,.int n) else none:=rfl
theorem Gx (cs:U OL)(h:OF)(m:Md)(a:T):oSem (.isI cs) h [(m,a)]=if a.isH then J else Y (.d,.bl<|cs.any λc=>isOne c a):=rfl
theorem ED (c:O)(fs:U Str)(a:U T):T.isG (.ins c fs a)=false:=rfl
theorem Gh (c:O)(fs:U Str)(a:U T):T.isN (.ins c fs a)=false:=rfl
theorem Eo:T.isH .non=false:=rfl
theorem Jk (b:OF):T.isH (.bl b)=false:=rfl
theorem FG (i:I):T.isH (.int i)=false:=rfl
theorem EN (x:Str):T.isH (.str x)=false:=rfl
theorem E9 (a:U T):T.isH (.tup a)=false:=rfl
theorem GH (a:U T):T.isH (.lst a)=false:=rfl
theorem GL (a:U I):T.isH (.scr a)=false:=rfl
theorem En:T.isG .non=false:=rfl
theorem Ia (b:OF):T.isG (.bl b)=false:=rfl
theorem Fu (i:I):T.isG (.int i)=false:=rfl
theorem Gq (x:Str):T.isG (.str x)=false:=rfl
theorem Fv (a:U T):T.isG (.tup a)=false:=rfl
theorem tV (a:U T):T.isG (.lst a)=false:=rfl
theorem Et (a:U<|I ⊕ Str)(b:U T):T.isG (.dct a b)=false:=rfl
theorem Hc (a:U<|I ⊕ Str)(b:U T):T.isN (.dct a b)=false:=rfl
theorem Fo (a:U I):T.isG (.scr a)=false:=rfl
theorem EG:T.isN .non=true:=rfl
theorem Jm (b:OF):T.isN (.bl b)=false:=rfl
theorem FF (i:I):T.isN (.int i)=false:=rfl
theorem F6 (x:Str):T.isN (.str x)=false:=rfl
theorem FZ (a:U T):T.isN (.tup a)=false:=rfl
theorem EI (a:U T):T.isN (.lst a)=false:=rfl
theorem yk (h:OF)(m:Md)(a:U T):oSem .list h [(m,.lst a)]=newL h m.kid a:=rfl
theorem yO (h:OF)(m:Md)(a:U T):oSem .list h [(m,.tup a)]=newL h m.kid a:=rfl
theorem CV (h:OF)(m n:Md)(a:T)(b:U T):oSem .isin h [(m,a),(n,.tup b)]=if flatT a&&b.all flatT then Y (.d,.bl<|b.any λt=>eqT t a) else none:=rfl
theorem yJ (h:OF)(m n:Md)(a:T)(b:U T):oSem .isin h [(m,a),(n,.lst b)]=if flatT a&&b.all flatT then Y (.d,.bl<|b.any λt=>eqT t a) else none:=rfl
theorem xu (h:OF)(m n:Md)(a:T)(b:U T):oSem .notin h [(m,a),(n,.tup b)]=if flatT a&&b.all flatT then Y (.d,.bl<|!b.any λt=>eqT t a) else none:=rfl
theorem xi (h:OF)(m:Md)(x:Str):oSem .lower h [(m,.str x)]=if x.cps.toList.all (λc=>decide (c<128)) then Y (.d,.str ⟨x.cps.map E3⟩) else none:=rfl
theorem D2 (h:OF)(m n:Md)(a b:U T):oSem .catT h [(m,.tup a),(n,.tup b)]=if fits (a.length+b.length) then Y (.s,.tup<|a++b) else none:=rfl
theorem El (h:OF)(n:Md)(a:U<|I ⊕ Str)(b:U T)(k:T):oSem .ixD h [(.s,.dct a b),(n,k)]=(keyT k).bind λq=>(lookD q a b).map λt=>(.s,t):=rfl
theorem Ay (a:U Str)(h:OF)(b:U W):oSem (.dspN a) h b=if decide (a.length=b.length)=Ju then Y (.o .s,.dct (a.map Kf)<|b.map λw=>w.2) else none:=rfl
theorem C1 (h:OF)(n:Md)(a:U<|I ⊕ Str)(b:U T)(k:T):oSem .getD h [(.s,.dct a b),(n,k)]=(keyT k).map λq=>(.s,(lookD q a b).getD .non):=rfl
theorem DL (h:OF)(n:Md)(a:U<|I ⊕ Str)(b:U T)(k d:T):oSem .getE h [(.s,.dct a b),(n,k),(.s,d)]=(keyT k).map λq=>(.s,(lookD q a b).getD d):=rfl
theorem Hk (h:OF)(n:Md)(a:U<|I ⊕ Str)(b:U T)(k:T):oSem .inD h [(n,k),(.s,.dct a b)]=(keyT k).map λq=>(.d,.bl (lookD q a b).isSome):=rfl
theorem AJ (h:OF)(a:U<|I ⊕ Str)(b:U T):oSem .dcpy h [(.s,.dct a b)]=Y (.o .s,.dct a b):=rfl
theorem Bw (h:OF)(m n:Md)(x:Str)(t:T):oSem .dsp1 h [(m,.str x),(n,t)]=Y (.o .s,.dct [.inr x] [t]):=rfl
theorem oP (C:Call)(i j k:O)(a:Env):evE C (.sdf i j k) a=(ofO<|sdfT (rd a i) (rd a j)<|rd a k).bind (kSdf i a):=rfl
theorem pE (C:Call)(i j k:O)(a:U E)(b:Env):evA C (.sdf i j k::a) b=(evE C (.sdf i j k) b).bind (a0<|evA C a):=rfl
theorem qo (C:Call)(i:O)(e:E)(a:Env):evE C (.ixQ i e) a=(chkL<|rd a i).bind (kPopN0 (evE C e) a<|kIxQ i):=rfl
theorem qv (C:Call)(i:O)(e:E)(a:U E)(b:Env):evA C (.ixQ i e::a) b=(evE C (.ixQ i e) b).bind (a0<|evA C a):=rfl
theorem l0 (C:Call)(x:X)(i:O)(k e:E)(a:Env):evS C (.setS x i k e) a=Fl.of a (evX C x e a) (ox i (evX C x k) a):=rfl
theorem BR (h:OF):oSem .dnew h []=Y (.d,.dct [] []):=rfl
theorem Ae (m:Md)(a:U T):bj .enmT [(m,.tup a)]=Y (gE .s 0 a):=rfl
theorem uf (h:OF)(m n:Md)(a:T)(b:U T):oSem .notin h [(m,a),(n,.lst b)]=if flatT a&&b.all flatT then Y (.d,.bl<|!b.any λt=>eqT t a) else none:=rfl
theorem Du (h:OF)(m:Md)(b:OF):oSem .int h [(m,.bl b)]=Y (.d,.int<|b2i b):=rfl
theorem CA (h:OF)(m:Md)(i:I):oSem .int h [(m,.int i)]=Y (.d,.int i):=rfl
theorem BZ (h:OF)(m:Md)(b:U T):oSem .max1 h [(m,.lst b)]=(intsOf b).bind λa=>if a.isEmpty then J else Y (.d,.int<|maxI a):=rfl
theorem AR (h:OF)(m n:Md)(z:Str)(b:U T):oSem .join h [(m,.str z),(n,.lst b)]=(strsOf b).bind λa=>if sOk (Str.join z a)&&decide ((a.map λs=>s.cps.size+z.cps.size).sum<=LIM) then Y (.d,.str<|Str.join z a) else none:=rfl
theorem xj (h:OF)(m n:Md)(z y:Str):oSem .split h [(m,.str z),(n,.str y)]=if(y==Str.ofString " ")&&decide (z.cps.size+2<=LIM)&&(splS z).all sOk then Y (.d,.lst<|(splS z).map T.str) else none:=rfl
theorem km (C:Call)(c:O)(fld:Str)(b:O)(x:X)(e:E)(a:Env):evS C (.raise c fld b x e) a=Fl.of a (evX C x e a) (lH c fld b):=rfl
theorem HI (C:Call)(f:O)(k:W->Env->Fl)(a:U W)(b:Env):kC C f k (a,b)=yo k b (C f a):=rfl
theorem Bx (k:W->Env->Fl)(a:Env)(w:W):yo k a (.ok (w,[]))=k w a:=rfl
theorem Aj (k:W->Env->Fl)(a:Env)(t:T):yo k a (.ex t)=.ex t a:=rfl
theorem zo (i:O)(w:W)(a:Env):Hd i w a=.nx (put a i w):=rfl
theorem zj (w:W)(a:Env):F3 w a=.nx a:=rfl
theorem vq (c:O)(fld:Str)(m:Md)(n:I)(a:Env):lH c fld 0 ((m,.int n),a)=if decide (n.natAbs.log2<1920)=Ju then .ex (.ins c [fld] [.int n]) a else .no:=rfl
theorem tI (cs:U O)(i:O)(h:Env->Fl)(c:O)(fs:U Str)(a:U T)(b:Env):Fl.caught cs i h (.ex (.ins c fs a) b)=if cs.contains c=Ju then Fl.drop i (h<|put b i (.s,.ins c fs a)) else .no:=rfl
theorem pZ (cs:U O)(i:O)(h:Env->Fl)(a:Env):Fl.caught cs i h (.nx a)=.nx a:=rfl
theorem qr (cs:U O)(i:O)(h:Env->Fl)(w:W)(a:Env):Fl.caught cs i h (.rt w a)=.rt w a:=rfl
theorem BH (i:O)(a:Env):Fl.drop i (.nx a)=.nx (del a i):=rfl
theorem wD (i:O)(w:W)(a:Env):Fl.drop i (.rt w a)=.rt w (del a i):=rfl
theorem ph (C:Call)(a:U S)(b:Env):evS C (.tri a) b=evSs C a b:=rfl
theorem C7 (h:OF)(m n:Md)(a:T)(b:U T):oSem .inLT h [(m,a),(n,.tup b)]=if decide (dp a<=64)&&decide (dps b<=64) then Y (.d,.bl<|b.any λt=>eqT t a) else none:=rfl
theorem Fb (m:Md)(a:U T):bj .sq2 [(m,.lst a)]=pairsT a:=rfl
theorem Dc (m:Md)(a:U T):bj .sq2T [(m,.tup a)]=pairsT a:=rfl
theorem CC (h:OF)(m:Md)(a:U T):oSem .tuple h [(m,.lst a)]=Y (m.kid.up,.tup a):=rfl
theorem EX (h:OF)(m:Md)(a:U T):oSem .sum h [(m,.lst a)]=(intsOf a).map λb=>(.d,.int b.sum):=rfl
theorem A9 (m:Md)(a:U T):newL Ju m a=if leaves a then Y (.d,.lst a) else none:=rfl
theorem B6 (m:Md)(a:U T):newL Jt m a=Y (m.up,.lst a):=rfl
theorem Dh (m:Md)(a:U T):bj .seq [(m,.lst a)]=Y (a.map λt=>[(.s,t)]):=rfl
theorem AA (m:Md)(a:U T):bj .seq [(m,.tup a)]=Y (a.map λt=>[(.s,t)]):=rfl
theorem D3 (m n o:Md)(i j c:I):bj .rng [(m,.int i),(n,.int j),(o,.int c)]=if decide (i.natAbs<4611686018427387904)&&decide (j.natAbs<4611686018427387904)&&decide (c=-1)&&fits (i-j).toNat then Y ((J6 (i-j).toNat).map λ(k:O)=>[(.d,.int<|i-k)]) else none:=rfl
theorem lW (m:Md)(n:I):bj .rng [(m,.int n)]=if decide (n.natAbs<4611686018427387904)&&fits n.toNat then Y ((J6 n.toNat).map λ(k:O)=>[(.d,.int k)]) else none:=rfl
theorem vL (a:Env):aQ [] [] a=Y a:=rfl
theorem rD (i:O)(a:U O)(w:W)(b:U W)(c:Env):aQ (i::a) (w::b) c=aQ a b (put c i w):=rfl
theorem GQ {b c:Type}(f:b->c)(a:b):(Y a).map f=Y (f a):=rfl
theorem qR (b:OF):truth (.bl b)=Y b:=rfl
theorem uP (i:I):truth (.int i)=Y (i != 0):=rfl
theorem x9 {b c:Type}(a:b)(f:b->L c):(Y a).bind f=f a:=rfl
theorem yw:Md.s.kid=.s:=rfl
theorem yf:Md.d.kid=.d:=rfl
theorem vW (m:Md):(Md.o m).kid=m:=rfl
theorem AU:Md.s.up=.o .s:=rfl
theorem A6:Md.d.up=.d:=rfl
theorem BL (m:Md):(Md.o m).up=.o (.o m):=rfl
theorem sv (m:Md):Md.s.meet m=.s:=by cases m<;>rfl
theorem ez (m:Md):Md.d.meet m=m:=by cases m<;>rfl
theorem pN (m:Md):(Md.o m).meet .s=.s:=rfl
theorem qb (m:Md):(Md.o m).meet .d=.o m:=rfl
theorem oK (m n:Md):(Md.o m).meet (.o n)=.o (m.meet n):=rfl
theorem AS (n:Md)(a:U T)(t:T):ib (.d,.lst a) (n,t)=if a.length<LIM then Y ((lf n t).up,.lst<|a++[t]) else none:=by show(if _ then Y ((Md.d.meet _).up,_) else J)=_;rw[ez]
theorem Dy (m n:Md)(a:U T)(t:T):ib (.o m,.lst a) (n,t)=if a.length<LIM then Y ((m.meet<|lf n t).up,.lst<|a++[t]) else none:=rfl
theorem BP (n:Md)(a b:U T):C6 (.d,.lst a) (n,.lst b)=if a.length+b.length<=LIM then Y (n.kid.up,.lst<|a++b) else none:=by show(if _ then Y ((Md.d.meet _).up,_) else J)=_;rw[ez]
theorem AI (m n:Md)(a b:U T):C6 (.o m,.lst a) (n,.lst b)=if a.length+b.length<=LIM then Y ((m.meet n.kid).up,.lst<|a++b) else none:=rfl
theorem Cj (l n:Md)(a:U T)(t:T)(j:I):fE (.d,.lst a) (l,.int j) (n,t)=(ixN a.length j).map λk=>((lf n t).up,.lst<|a.set k t):=by show((ixN a.length j).map λk=>((Md.d.meet _).up,_))=_;rw[ez]
theorem DO (m l n:Md)(a:U T)(t:T)(j:I):fE (.o m,.lst a) (l,.int j) (n,t)=(ixN a.length j).map λk=>((m.meet<|lf n t).up,.lst<|a.set k t):=rfl
theorem CZ (m:Md)(a:U T):chkL (Y (m,.lst a))=.ok ():=rfl
theorem Cv (m:Md)(a:U T):xA (m,.tup a)=Y (a.map λt=>(m.kid,t)):=rfl
theorem Gi (b a:Env):nxO b (Y a)=.nx a:=rfl
theorem sE (a:Env):backs [] a=Y []:=rfl
theorem ug (i:O)(b:U O)(a:Env):backs (i::b) a=(rd a i).bind λw=>(backs b a).bind λc=>Y (w::c):=rfl
theorem D7 (a:U O)(b:Env):Fl.out a (.nx b)=(ofO<|backs a b).bind (ti (.d,.non)):=rfl
theorem DB (a:U O)(w:W)(b:Env):Fl.out a (.rt w b)=(ofO<|backs a b).bind (ti w):=rfl
theorem x_run (C:Call)(f:Fn)(a:U W)(h:a.length=f.ps):runF C f a=Fl.out f.io (evSs C f.body<|a.map Y++JV f.ns J):=OG h
theorem at0 {b:Type}(a:b)(l:U b):atI (a::l) 0=Y a:=by simp[atI,ixN]
theorem atN {c:Type}{b:U c}{i:I}{n:O}{a:c}(d:i=n)(h:b[n]?=Y a):atI b i=Y a:=by subst d;have:=(KD.mp h).1;rw[atI,ixN,OG<|by lia,OG<|by lia];exact h
theorem at1 {c:Type}(a b:c)(l:U c):atI (a::b::l) 1=Y b:=atN (n:=1) rfl rfl
theorem at2 {d:Type}(a b c:d)(l:U d):atI (a::b::c::l) 2=Y c:=atN (n:=2) rfl rfl
theorem at3 {e:Type}(a b c d:e)(l:U e):atI (a::b::c::d::l) 3=Y d:=atN (n:=3) rfl rfl
theorem at4 {f:Type}(a b c d e:f)(l:U f):atI (a::b::c::d::e::l) 4=Y e:=atN (n:=4) rfl rfl
theorem fC {e:Type}{tg:U O}{f:Env->Res (L W×Env)}{η:Env}{g:e->U W}(w:e->W):∀(d:U e) (a:U W),(∀x∈d,∃b c,aQ tg (g x) η=Y b/\f b=.ok (Y<|w x,c)/\aB tg c=η) ->
 aM tg f (d.map g) η a=.ok (a++d.map w,η)
|[],a,_=>by rw[J0,J0,JR];rfl
|x::d,a,h=>by obtain⟨b,c,i,j,k⟩:=h x JJ;rw[JQ,JQ];show(ofO<|aQ tg (g x) η).bind _=_;rw[i];show(f b).bind _=_;rw[j];show aM tg f (d.map g) (aB tg c) (a++[w x])=_;rw[k,fC w d _ λy l=>h y<|JW _ l,JN];rfl
theorem dF {n:Type}{tg:U O}{f:Env->Res (L W×Env)}{g:n->U W}(a:U n->Env->U W->Prop):∀(l pre:U n) (c:Env) (b:U W),a pre c b ->
 (∀p x r c b,pre++l=p++x::r->a p c b->∃i o j,aQ tg (g x) c=Y i/\f i=.ok (o,j)/\a (p++[x]) (aB tg j) (b++o.toList)) ->
 ∃m d,aM tg f (l.map g) c b=.ok (m,d)/\a (pre++l) d m
|[],pre,c,b,h,_=>⟨b,c,rfl,by rw[JR];exact h⟩
|x::l,pre,c,b,h,k=>by obtain⟨i,o,j,t,u,v⟩:=k pre x l c b rfl h;obtain⟨m,d,e,s⟩:=dF a l (pre++[x]) (aB tg j) (b++o.toList) v (λp y r c b e=>k p y r c b<|by rw[<- e,JN];rfl);refine⟨m,d,?_,by rw[JN] at s;exact s⟩;rw[JQ];show(ofO<|aQ tg (g x) c).bind _=_;rw[t];show(f i).bind _=_;rw[u];exact e
theorem fD {b:Type}(m:Md)(g:b->T)(a:U b):trees (a.map λx=>(m,g x))=a.map g:=by
 induction a with
 |nil=>rfl
 |cons x r c=>rw[JQ,JQ,<- c];rfl
end M

namespace MR
open L2 L3 M
open PySem (Addr Str sizeLine)
abbrev Fp:=OD->Prop
def ScrR (K:Jw)(H:Hp)(a:OD)(b:U I):Prop:=(∃o,H a=Y (.frz o<|.lst<|b.map V.int))\/SqL K (λ_=>J) a (b.map V.int)
theorem ScrR.sq {K:Jw}{H:Hp}{a:OD}{b:U I}(h:ScrR K H a b):SqL K H a (b.map V.int):=by
 rcases h with⟨o,h⟩|((h|⟨o,h⟩)|h)
 .exact .inl (.inr ⟨o,h⟩)
 .cases h
 .cases h
 .exact .inr h
theorem ScrR.keep {K:Jw}{H b:Hp}{a:OD}{c:U I}(s:∀a o u,H a=Y (.frz o u)->b a=Y (.frz o u))(h:ScrR K H a c):ScrR K b a c:=h.imp (λ⟨o,e⟩=>⟨o,s a o _ e⟩) id
def LstR (K:Jw)(Z:Fp)(H:Hp)(G:Fp)(a:OD)(b:U V):Md->Prop
|.s=>Z a/\H a=Y (.lst b)
|_=>G a/\H a=Y (.lst b)
def mkD (a:U<|I ⊕ Str)(b:U V):U (Key×V):=a.zip b
def DctR (Z:Fp)(H:Hp)(G:Fp)(a:OD)(o:HO):Md->Prop
|.s=>Z a/\H a=Y o
|_=>G a/\H a=Y o
def dmd:Md->Md
|.d=>.d
|_=>.s
mutual
def Rep (K:Jw)(Z:Fp)(H:Hp):Md->T->V->Fp->Prop
|_,.non,v,_=>v=.non
|_,.bl b,v,_=>v=.bl b
|_,.int i,v,_=>v=.int i
|_,.str x,v,_=>v=.str x/\sOk x=Ju
|m,.tup ts,v,G=>∃a xs,v=.ref a/\SqT K H a xs/\xs.length<=LIM/\RepL K Z H m.kid ts xs G
|m,.lst ts,v,G=>∃a xs,v=.ref a/\xs.length<=LIM/\LstR K Z H G a xs m/\RepL K Z H m.kid ts xs (λb=>G b/\b≠a)
|m,.dct ks vs,v,G=>∃a xs,v=.ref a/\ks.length<=LIM/\DctR Z H G a (.dK<|mkD ks xs) m/\(ks.Nodup/\∀k∈ks,kOk k=Ju)/\vs.length=ks.length/\RepL K Z H (dmd m) vs xs (λ_=>OS)
|m,.ins c fs vs,v,_=>m≠.d/\∃a dx C xs,v=.ref a/\Z a/\Z dx/\H a=Y (XO a C (Y dx) Jt)/\H dx=Y (.xd<|fs.zip xs)/\fs.length=vs.length/\XNm K c C/\RepL K Z H .s vs xs (λ_=>OS)
|_,.gone,_,_=>PD
|_,.scr ns,v,_=>∃a,v=.ref a/\ns.length<=LIM/\ScrR K H a ns
def RepL (K:Jw)(Z:Fp)(H:Hp):Md->U T->U V->Fp->Prop
|_,[],xs,_=>xs=[]
|m,t::ts,xs,G=>∃x r G1 G2,xs=x::r/\(∀a,G1 a->G a)/\(∀a,G2 a->G a)/\(∀a,G1 a->¬G2 a)/\Rep K Z H m t x G1/\RepL K Z H m ts r G2
end
section
variable {K:Jw}{Z Z':Fp}{H H':Hp}{m:Md}{t:T}{ts:U T}{v:V}{xs:U V}{G G':Fp}
theorem LstR.mono {a:OD}(w:∀a,G a->G' a)(h:LstR K Z H G a xs m):LstR K Z H G' a xs m:=by
 cases m with
 |s=>exact h
 |d=>exact⟨w _ h.1,h.2⟩
 |o m=>exact⟨w _ h.1,h.2⟩
theorem DctR.mono {a:OD}{o:HO}(w:∀a,G a->G' a)(h:DctR Z H G a o m):DctR Z H G' a o m:=by
 cases m with
 |s=>exact h
 |d=>exact⟨w _ h.1,h.2⟩
 |o m=>exact⟨w _ h.1,h.2⟩
mutual
theorem Rep.mono:∀{m:Md} {t:T} {v:V} {G G':Fp},(∀a,G a->G' a)->Rep K Z H m t v G->Rep K Z H m t v G'
|_,.non,_,_,_,_,h=>h
|_,.bl _,_,_,_,_,h=>h
|_,.int _,_,_,_,_,h=>h
|_,.str _,_,_,_,_,h=>h
|m,.tup ts,v,G,G',w,⟨a,xs,e,q,l,r⟩=>⟨a,xs,e,q,l,RepL.mono w r⟩
|m,.lst ts,v,G,G',w,⟨a,xs,e,l,q,r⟩=>⟨a,xs,e,l,q.mono w,RepL.mono (λb hb=>⟨w b hb.1,hb.2⟩) r⟩
|m,.dct ks vs,v,G,G',w,⟨a,xs,e,l,q,n,hl,r⟩=>⟨a,xs,e,l,q.mono w,n,hl,r⟩
|_,.ins _ _ _,_,_,_,_,h=>h
|_,.gone,_,_,_,_,h=>h
|_,.scr _,_,_,_,_,h=>h
theorem RepL.mono:∀{m:Md} {ts:U T} {xs:U V} {G G':Fp},(∀a,G a->G' a)->RepL K Z H m ts xs G->RepL K Z H m ts xs G'
|_,[],_,_,_,_,h=>h
|m,t::ts,xs,G,G',w,⟨x,r,G1,G2,e,h1,h2,hd,p,q⟩=>⟨x,r,G1,G2,e,λa ha=>w a<|h1 a ha,λa ha=>w a<|h2 a ha,hd,p,q⟩
end
def Stay (Z:Fp)(H H':Hp):Prop:=(∀a o,Z a->H a=Y o->H' a=Y o)/\(∀a xs,Rd H a (.tup xs)->Rd H' a (.tup xs))/\∀a o u,H a=Y (.frz o u)->H' a=Y (.frz o u)
theorem Stay.sqt (s:Stay Z H H'){a:OD}(h:SqT K H a xs):SqT K H' a xs:=by
 rcases h with h|h
 .exact .inl (s.2.1 a xs h)
 .exact .inr h
theorem LstR.keep {a:OD}(s:Stay Z H H')(z:∀a,Z a->Z' a)(g:∀a o,G a->H a=Y o->H' a=Y o)(h:LstR K Z H G a xs m):LstR K Z' H' G a xs m:=by
 cases m with
 |s=>exact⟨z _ h.1,s.1 _ _ h.1 h.2⟩
 |d=>exact⟨h.1,g _ _ h.1 h.2⟩
 |o m=>exact⟨h.1,g _ _ h.1 h.2⟩
theorem DctR.keep {a:OD}{o:HO}(s:Stay Z H H')(z:∀a,Z a->Z' a)(g:∀a o,G a->H a=Y o->H' a=Y o)(h:DctR Z H G a o m):DctR Z' H' G a o m:=by
 cases m with
 |s=>exact⟨z _ h.1,s.1 _ _ h.1 h.2⟩
 |d=>exact⟨h.1,g _ _ h.1 h.2⟩
 |o m=>exact⟨h.1,g _ _ h.1 h.2⟩
mutual
theorem Rep.keep (s:Stay Z H H')(z:∀a,Z a->Z' a):∀{m:Md} {t:T} {v:V} {G:Fp},(∀a o,G a->H a=Y o->H' a=Y o)->Rep K Z H m t v G->Rep K Z' H' m t v G
|_,.non,_,_,_,h=>h
|_,.bl _,_,_,_,h=>h
|_,.int _,_,_,_,h=>h
|_,.str _,_,_,_,h=>h
|m,.tup ts,v,G,g,⟨a,xs,e,q,l,r⟩=>⟨a,xs,e,s.sqt q,l,RepL.keep s z g r⟩
|m,.lst ts,v,G,g,⟨a,xs,e,l,q,r⟩=>⟨a,xs,e,l,q.keep s z g,RepL.keep s z (λb o hb=>g b o hb.1) r⟩
|m,.dct ks vs,v,G,g,⟨a,xs,e,l,q,n,hl,r⟩=>⟨a,xs,e,l,q.keep s z g,n,hl,RepL.keep s z (λ_ _ hb=>hb.elim) r⟩
|_,.ins _ _ _,_,_,_,⟨ne,a,dx,C,xs,e,z1,z2,h1,h2,l,n,r⟩=>⟨ne,a,dx,C,xs,e,z _ z1,z _ z2,s.1 _ _ z1 h1,s.1 _ _ z2 h2,l,n,RepL.keep s z (λ_ _ hb=>hb.elim) r⟩
|_,.gone,_,_,_,h=>h
|_,.scr _,_,_,_,⟨a,e,l,q⟩=>⟨a,e,l,q.keep s.2.2⟩
theorem RepL.keep (s:Stay Z H H')(z:∀a,Z a->Z' a):∀{m:Md} {ts:U T} {xs:U V} {G:Fp},(∀a o,G a->H a=Y o->H' a=Y o)->RepL K Z H m ts xs G->RepL K Z' H' m ts xs G
|_,[],_,_,_,h=>h
|m,t::ts,xs,G,g,⟨x,r,G1,G2,e,h1,h2,hd,p,q⟩=>⟨x,r,G1,G2,e,h1,h2,hd,Rep.keep s z (λa o ha=>g a o<|h1 a ha) p,RepL.keep s z (λa o ha=>g a o<|h2 a ha) q⟩
end
theorem iu (Z:Fp)(H:Hp):Stay Z H H:=⟨λ_ _ _ h=>h,λ_ _ h=>h,λ_ _ _ h=>h⟩
theorem Rep.zmono (z:∀a,Z a->Z' a)(h:Rep K Z H m t v G):Rep K Z' H m t v G:=h.keep (iu Z H) z λ_ _ _ q=>q
theorem RepL.zmono (z:∀a,Z a->Z' a)(h:RepL K Z H m ts xs G):RepL K Z' H m ts xs G:=h.keep (iu Z H) z λ_ _ _ q=>q
theorem RepL.length:∀{ts:U T} {xs:U V} {G:Fp},RepL K Z H m ts xs G->xs.length=ts.length
|[],_,_,h=>by rw[show _=[] from h];rfl
|_::_,_,_,⟨x,r,a,b,e,_,_,_,_,q⟩=>by rw[e,JY,JY,RepL.length q]
theorem RepL.get:∀{ts:U T} {xs:U V} {G:Fp} {i:O} {t:T},RepL K Z H m ts xs G->ts[i]?=Y t->∃x,xs[i]?=Y x/\Rep K Z H m t x G
|[],_,_,_,_,_,e=>by simp at e
|_::_,_,_,0,_,⟨x,r,a,b,e,c,_,_,p,_⟩,e2=>by rw[Nh] at e2;cases e2;exact⟨x,by rw[e];rfl,p.mono c⟩
|_::_,_,_,i+1,_,⟨x,r,a,b,e,_,d,_,_,q⟩,e2=>by rw[KR] at e2;obtain⟨y,f,p⟩:=RepL.get q e2;exact⟨y,by rw[e,KR];exact f,p.mono d⟩
theorem RepL.append:∀{ts g:U T} {xs f:U V} {G1 G2 G:Fp},(∀a,G1 a->G a)->(∀a,G2 a->G a)->(∀a,G1 a->¬G2 a)->RepL K Z H m ts xs G1->RepL K Z H m g f G2->RepL K Z H m (ts++g) (xs++f) G
|[],g,xs,f,G1,G2,G,i,j,d,h,k=>by rw[show xs=[] from h];exact k.mono j
|t::ts,g,xs,f,G1,G2,G,i,j,d,⟨x,r,A,b,e,l,n,hd,p,q⟩,k=>by rw[e];refine⟨x,r++f,A,λa=>b a\/G2 a,rfl,λa c=>i a<|l a c,λa c=>c.elim (λz=>i a<|n a z)<|j a,λa c o=>o.elim (hd a c)<|d a<|l a c,p,?_⟩;exact RepL.append (λa z=>.inl z) (λa z=>.inr z) (λa c=>d a<|n a c) q k
theorem RepL.one {x:V}(p:Rep K Z H m t x G):RepL K Z H m [t] [x] G:=⟨x,[],G,λ_=>OS,rfl,λ_ h=>h,λ_ h=>h.elim,λ_ _ h=>h,p,rfl⟩
theorem RepL.take:∀{ts:U T} {xs:U V} {G:Fp} (n:O),RepL K Z H m ts xs G->RepL K Z H m (ts.take n) (xs.take n) G
|[],_,_,n,h=>by rw[show _=[] from h,M3,M3];rfl
|_::_,_,_,0,h=>rfl
|_::_,_,_,n+1,⟨x,r,A,a,e,b,c,hd,p,q⟩=>by rw[e];exact⟨x,r.take n,A,a,rfl,b,c,hd,p,RepL.take n q⟩
theorem RepL.drop:∀{ts:U T} {xs:U V} {G:Fp} (n:O),RepL K Z H m ts xs G->RepL K Z H m (ts.drop n) (xs.drop n) G
|[],_,_,n,h=>by rw[show _=[] from h,Nu,Nu];rfl
|_::_,_,_,0,h=>h
|_::_,_,_,n+1,⟨x,r,A,a,e,c,b,hd,p,q⟩=>by rw[e];exact(RepL.drop n q).mono b
theorem Rep.leaf {m':Md}(c:∀a o u,H a=Y (.frz o u)->H' a=Y (.frz o u))(b:t.leaf=Ju)(h:Rep K Z H m t v G):Rep K Z' H' m' t v G':=by
 cases t with
 |non=>exact h
 |bl _=>exact h
 |int _=>exact h
 |str _=>exact h
 |scr _=>obtain⟨a,e,l,q⟩:=h;exact⟨a,e,l,q.keep c⟩
 |_=>cases b
theorem RepL.leaves {m':Md}(d:∀a o u,H a=Y (.frz o u)->H' a=Y (.frz o u)):∀{ts:U T} {xs:U V} {G G':Fp},leaves ts=Ju->RepL K Z H m ts xs G->RepL K Z' H' m' ts xs G'
|[],_,_,_,_,h=>h
|t::ts,_,_,G',f,⟨x,r,A,b,e,g,i,hd,p,q⟩=>by have c:(t.leaf&&ts.all T.leaf)=true:=f;rw[JM] at c;exact⟨x,r,λ_=>OS,λ_=>OS,e,λ_ z=>z.elim,λ_ z=>z.elim,λ_ z=>z.elim,p.leaf d c.1,RepL.leaves d c.2 q⟩
noncomputable def no:Fp:=λ_=>OS
mutual
theorem Rep.sh:∀{m:Md} {t:T} {v:V} {G:Fp},Rep K Z H m t v G->Rep K (λa=>Z a\/G a) H .s t v no
|_,.non,_,_,h=>h
|_,.bl _,_,_,h=>h
|_,.int _,_,_,h=>h
|_,.str _,_,_,h=>h
|m,.tup ts,v,G,⟨a,xs,e,q,l,r⟩=>⟨a,xs,e,q,l,RepL.sh r⟩
| m,.lst ts,v,G,⟨a,xs,e,l,q,r⟩=>⟨a,xs,e,l,by
  cases m with
  |s=>exact⟨.inl q.1,q.2⟩
  |d=>exact⟨.inr q.1,q.2⟩
  |o m=>exact⟨.inr q.1,q.2⟩,(RepL.zmono (λb hb=>hb.elim .inl λz=>.inr z.1)<|RepL.sh r).mono λ_ z=>z.elim⟩
| m,.dct ks vs,v,G,⟨a,xs,e,l,q,n,hl,r⟩=>⟨a,xs,e,l,by
  cases m with
  |s=>exact⟨.inl q.1,q.2⟩
  |d=>exact⟨.inr q.1,q.2⟩
  |o m=>exact⟨.inr q.1,q.2⟩,n,hl,RepL.zmono (λb hb=>hb.elim .inl λz=>z.elim)<|RepL.sh r⟩
|_,.ins _ _ _,_,_,⟨ne,a,dx,C,xs,e,z1,z2,h1,h2,l,n,r⟩=>⟨(λz=>by cases z),a,dx,C,xs,e,.inl z1,.inl z2,h1,h2,l,n,RepL.zmono (λb hb=>hb.elim .inl λz=>z.elim)<|RepL.sh r⟩
|_,.gone,_,_,h=>h
|_,.scr _,_,_,h=>h
theorem RepL.sh:∀{m:Md} {ts:U T} {xs:U V} {G:Fp},RepL K Z H m ts xs G->RepL K (λa=>Z a\/G a) H .s ts xs no
|_,[],_,_,h=>h
|m,t::ts,xs,G,⟨x,r,G1,G2,e,h1,h2,hd,p,q⟩=>⟨x,r,no,no,e,λ_ z=>z,λ_ z=>z,λ_ z _=>z,Rep.zmono (λb hb=>hb.imp id (h1 b))<|Rep.sh p,RepL.zmono (λb hb=>hb.imp id (h2 b))<|RepL.sh q⟩
end
theorem Ji:∀a:Md,a.le .d=Ju
|.s=>rfl | .d=>rfl | .o _=>rfl
theorem jE:∀a:Md,a.le a=Ju
|.s=>rfl | .d=>rfl | .o a=>jE a
theorem kn:∀{a b c:Md},a.le b=Ju->b.le c=Ju->a.le c=Ju
|.s,_,.s,_,_=>rfl
|.s,_,.d,_,_=>rfl
|.s,_,.o _,_,_=>rfl
|.o a,.o b,.o c,h,k=>kn (a:=a) (b:=b) (c:=c) h k
|.o a,.o b,.d,h,k=>rfl
|.o a,.d,.d,h,k=>rfl
|.d,.d,.d,_,_=>rfl
|.d,.s,_,h,_=>by cases h
|.d,.o _,_,h,_=>by cases h
|.o _,.s,_,h,_=>by cases h
|.o _,.o _,.s,_,k=>by cases k
|.o _,.d,.s,_,k=>by cases k
|.o _,.d,.o _,_,k=>by cases k
|.d,.d,.s,_,k=>by cases k
|.d,.d,.o _,_,k=>by cases k
theorem eF:∀a b:Md,(a.meet b).le a=Ju/\(a.meet b).le b=Ju
|.s,.s=>⟨rfl,rfl⟩
|.s,.d=>⟨rfl,rfl⟩
|.s,.o _=>⟨rfl,rfl⟩
|.d,.s=>⟨rfl,rfl⟩
|.d,.d=>⟨rfl,rfl⟩
|.d,.o b=>⟨rfl,jE b⟩
|.o _,.s=>⟨rfl,rfl⟩
|.o a,.d=>⟨jE a,rfl⟩
|.o a,.o b=>eF a b
theorem vp:∀{a b:Md},a.le b=Ju->a.kid.le b.kid=Ju
|.s,.s,_=>rfl
|.s,.d,_=>rfl
|.s,.o _,_=>by first|rfl|exact(by cases ‹Md›<;>rfl)
|.o a,.o b,h=>h
|.o a,.d,_=>Ji a
|.d,.d,_=>rfl
|.d,.s,h=>by cases h
|.d,.o _,h=>by cases h
|.o _,.s,h=>by cases h
theorem gr:∀a:Md,a.up.kid=a
|.s=>rfl | .d=>rfl | .o _=>rfl
theorem fG (a:Md):a.up≠.s:=by cases a<;>intro h<;>cases h
theorem LstR.own {a:OD}(b:m≠.s):LstR K Z H G a xs m ↔ G a/\H a=Y (.lst xs):=by
 cases m with
 |s=>exact OH rfl b
 |d=>exact Iff.rfl
 |o m=>exact Iff.rfl
abbrev cI (Z G G':Fp):Fp:=λa=>Z a\/(G a/\¬G' a)
mutual
theorem Rep.weak:∀{m m':Md} {t:T} {v:V} {G:Fp},m'.le m=Ju->Rep K Z H m t v G->∃G',(∀a,G' a->G a)/\Rep K (cI Z G G') H m' t v G'
|m,m',.non,_,G,_,h=>⟨G,λ_ z=>z,h⟩
|m,m',.bl _,_,G,_,h=>⟨G,λ_ z=>z,h⟩
|m,m',.int _,_,G,_,h=>⟨G,λ_ z=>z,h⟩
|m,m',.str _,_,G,_,h=>⟨G,λ_ z=>z,h⟩
|m,m',.scr _,_,G,_,h=>⟨G,λ_ z=>z,h⟩
|m,m',.tup ts,v,G,hm,⟨a,xs,e,q,l,r⟩=>by obtain⟨G',h1,h2⟩:=RepL.weak (vp hm) r;exact⟨G',h1,a,xs,e,q,l,h2⟩
| m,m',.lst ts,v,G,hm,h=>by
 cases m' with
 |s=>exact⟨no,λ_ z=>z.elim,(Rep.sh h).zmono λa ha=>ha.imp id λz=>⟨z,λq=>q⟩⟩
 |d=>
  cases m with
  |s=>cases hm
  |o _=>cases hm
  |d=>exact⟨G,λ_ z=>z,h.zmono λ_ z=>.inl z⟩
 |o k=>
  have hne:m≠.s:=by rintro rfl;cases hm
  obtain⟨a,xs,e,l,q,r⟩:=h;rw[LstR.own hne] at q;obtain⟨G',h1,h2⟩:=RepL.weak (vp hm) r;refine⟨λb=>G' b\/b=a,λb hb=>hb.elim (λz=>(h1 b z).1) λz=>z ▸ q.1,a,xs,e,l,⟨.inr rfl,q.2⟩,?_⟩;refine(h2.zmono λb hb=>?_).mono λb hb=>⟨.inl hb,(h1 b hb).2⟩;rcases hb with z|⟨⟨z1,z2⟩,z3⟩
  .exact .inl z
  .exact .inr ⟨z1,λq=>q.elim z3 z2⟩
| m,m',.dct ks vs,v,G,hm,h=>by
 cases m' with
 |s=>exact⟨no,λ_ z=>z.elim,(Rep.sh h).zmono λa ha=>ha.imp id λz=>⟨z,λq=>q⟩⟩
 |d=>
  cases m with
  |s=>cases hm
  |o _=>cases hm
  |d=>exact⟨G,λ_ z=>z,h.zmono λ_ z=>.inl z⟩
 |o k=>
  obtain⟨a,xs,e,l,q,n,hl,r⟩:=h;cases m with
  |s=>cases hm
  |d=>exact⟨G,λ_ z=>z,a,xs,e,l,q,n,hl,RepL.zmono (λb hb=>hb.elim .inl λz=>z.elim)<|RepL.sh r⟩
  |o k'=>exact⟨G,λ_ z=>z,a,xs,e,l,q,n,hl,RepL.zmono (λb hb=>.inl hb) r⟩
|m,m',.ins _ _ _,v,G,hm,⟨ne,a,dx,C,xs,e,z1,z2,h1,h2,l,n,r⟩=>⟨G,λ_ z=>z,(λz=>ne<|by subst z;cases m<;>first|rfl|cases hm),a,dx,C,xs,e,.inl z1,.inl z2,h1,h2,l,n,RepL.zmono (λb hb=>.inl hb) r⟩
|m,m',.gone,_,G,_,h=>⟨G,λ_ z=>z,h⟩
theorem RepL.weak:∀{m m':Md} {ts:U T} {xs:U V} {G:Fp},m'.le m=Ju->RepL K Z H m ts xs G->∃G',(∀a,G' a->G a)/\RepL K (cI Z G G') H m' ts xs G'
|m,m',[],_,G,_,h=>⟨G,λ_ z=>z,h⟩
|m,m',t::ts,xs,G,hm,⟨x,r,G1,G2,e,h1,h2,hd,p,q⟩=>by
 obtain⟨A,a1,a2⟩:=Rep.weak hm p;obtain⟨B,b1,b2⟩:=RepL.weak hm q;refine⟨λb=>A b\/B b,λb hb=>hb.elim (λz=>h1 b<|a1 b z) λz=>h2 b<|b1 b z,x,r,A,B,e,λ_ z=>.inl z,λ_ z=>.inr z,λb za zb=>hd b (a1 b za)<|b1 b zb,?_,?_⟩
 .refine a2.zmono λb hb=>hb.imp id λz=>⟨h1 b z.1,λq=>q.elim z.2 λw=>hd b z.1<|b1 b w⟩
 .refine b2.zmono λb hb=>hb.imp id λz=>⟨h2 b z.1,λq=>q.elim (λw=>hd b (a1 b w) z.1) z.2⟩
end
def RepW (K:Jw)(Z:Fp)(H:Hp):U W->U V->Fp->Prop
|[],xs,_=>xs=[]
|w::d,xs,G=>∃x r b c,xs=x::r/\(∀a,b a->G a)/\(∀a,c a->G a)/\(∀a,b a->¬c a)/\Rep K Z H w.1 w.2 x b/\RepW K Z H d r c
theorem RepW.length:∀{a:U W} {xs:U V} {G:Fp},RepW K Z H a xs G->xs.length=a.length
|[],_,_,h=>by rw[show _=[] from h];rfl
|_::_,_,_,⟨x,r,b,c,e,_,_,_,_,q⟩=>by rw[e,JY,JY,RepW.length q]
theorem RepW.mono:∀{c:U W} {xs:U V} {G G':Fp},(∀a,G a->G' a)->RepW K Z H c xs G->RepW K Z H c xs G'
|[],_,_,_,_,h=>h
|_::_,_,_,_,w,⟨x,r,d,f,e,g,i,hd,p,q⟩=>⟨x,r,d,f,e,λa b=>w a<|g a b,λa b=>w a<|i a b,hd,p,q⟩
theorem RepW.keep (s:Stay Z H H')(z:∀a,Z a->Z' a):∀{f:U W} {xs:U V} {G:Fp},(∀a o,G a->H a=Y o->H' a=Y o)->RepW K Z H f xs G->RepW K Z' H' f xs G
|[],_,_,_,h=>h
|_::_,_,_,g,⟨x,r,i,j,e,c,d,hd,p,q⟩=>⟨x,r,i,j,e,c,d,hd,p.keep s z λa o b=>g a o<|c a b,RepW.keep s z (λa o b=>g a o<|d a b) q⟩
theorem RepW.append:∀{o g:U W} {xs f:U V} {G1 G2 G:Fp},(∀a,G1 a->G a)->(∀a,G2 a->G a)->(∀a,G1 a->¬G2 a)->RepW K Z H o xs G1->RepW K Z H g f G2->RepW K Z H (o++g) (xs++f) G
|[],g,xs,f,G1,G2,G,i,j,d,h,k=>by rw[show xs=[] from h];exact k.mono j
|t::ts,g,xs,f,G1,G2,G,i,j,d,⟨x,r,A,b,e,l,n,hd,p,q⟩,k=>by rw[e];refine⟨x,r++f,A,λa=>b a\/G2 a,rfl,λa c=>i a<|l a c,λa c=>c.elim (λz=>i a<|n a z)<|j a,λa c s=>s.elim (hd a c)<|d a<|l a c,p,?_⟩;exact RepW.append (λa z=>.inl z) (λa z=>.inr z) (λa c=>d a<|n a c) q k
theorem RepW.one {w:W}{x:V}(p:Rep K Z H w.1 w.2 x G):RepW K Z H [w] [x] G:=⟨x,[],G,no,rfl,λ_ h=>h,λ_ h=>h.elim,λ_ _ h=>h,p,rfl⟩
theorem gx:∀{a:U W} {w:W},w∈a->(gj a).le (lf w.1 w.2)=Ju
|u::a,w,h=>by
 rcases JX.mp h with z|z
 .subst z;exact(eF _ _).1
 .exact kn (eF _ _).2 (gx z)
theorem Rep.lf (h:Rep K Z H m t v G):Rep K Z H (M.lf m t) t v G:=by
 unfold M.lf;split
 .rename_i a;exact h.leaf (λ_ _ _ q=>q) a
 .exact h
theorem RepW.to {N:Md}:∀{f:U W} {xs:U V} {G:Fp},(∀w∈f,N.le (M.lf w.1 w.2)=Ju)->RepW K Z H f xs G->∃G',(∀a,G' a->G a)/\RepL K (cI Z G G') H N (trees f) xs G'
|[],_,G,_,h=>⟨G,λ_ z=>z,h⟩
|w::f,xs,G,l,⟨x,r,F,P,e,j,k,hd,p,q⟩=>by
 obtain⟨A,g,n⟩:=Rep.weak (l w JJ) p.lf;obtain⟨c,i,o⟩:=RepW.to (λu s=>l u<|JW _ s) q;refine⟨λb=>A b\/c b,λb d=>d.elim (λz=>j b<|g b z) λz=>k b<|i b z,x,r,A,c,e,λ_ z=>.inl z,λ_ z=>.inr z,λb y D=>hd b (g b y)<|i b D,?_,?_⟩
 .refine n.zmono λb d=>d.imp id λz=>⟨j b z.1,λq=>q.elim z.2 λw=>hd b z.1<|i b w⟩
 .refine o.zmono λb d=>d.imp id λz=>⟨k b z.1,λq=>q.elim (λw=>hd b (g b w) z.1) z.2⟩
end
def OO:=U V ⊕ U (Key×V)
def OO.ho:OO->HO
|.inl b=>.lst b
|.inr a=>.dK a
def Own (Z:Fp)(H:Hp)(F:Fp):Prop:=∀a,F a->¬Z a/\∃b:OO,H a=Y b.ho
theorem mS {b:U V}{a:OO}(e:Y (HO.tup b)=Y a.ho):OS:=by cases a<;>cases e
theorem i7 {o:PySem.Obj}{u:HO}{a:OO}(e:Y (HO.frz o u)=Y a.ho):OS:=by cases a<;>cases e
structure Step (Z:Fp)(H:Hp)(F:Fp)(Z':Fp)(H':Hp)(F':Fp):Prop where
 keep:∀a o,H a=Y o->¬F a->H' a=Y o
 zm:∀a,Z a->Z' a
 zn:∀a,Z' a->Z a\/F a\/H a=J
 fn:∀a,F' a->F a\/H a=J
 al:∀a,H a≠J->H' a≠J
 za:(∀a,Z a->H a≠J)->∀a,Z' a->H' a≠J
section
variable {K:Jw}{Z Z1 Z2 Z':Fp}{H H1 H2 H':Hp}{F F1 F2 F' R G:Fp}
theorem Step.refl (Z:Fp)(H:Hp)(F:Fp):Step Z H F Z H F:=⟨λ_ _ h _=>h,λ_ h=>h,λ_ h=>.inl h,λ_ h=>.inl h,λ_ h=>h,λz=>z⟩
theorem Step.trans (s:Step Z H F Z1 H1 F1)(t:Step Z1 H1 F1 Z2 H2 F2):Step Z H F Z2 H2 F2 where
 keep:=λa o h n=>t.keep a o (s.keep a o h n) λq=>(s.fn a q).elim n λz=>by rw[h] at z;cases z
 zm:=λa h=>t.zm a<|s.zm a h
 zn:=λa h=>by
  rcases t.zn a h with q|q|q
  .exact s.zn a q
  .exact .inr (s.fn a q)
  .exact .inr (.inr (by
    cases e:H a with
    |none=>rfl
    |some o=>exact OH q<|s.al a<|by rw[e];simp))
 fn:=λa h=>by
  rcases t.fn a h with q|q
  .exact s.fn a q
  .exact .inr (by
    cases e:H a with
    |none=>rfl
    |some o=>exact OH q<|s.al a<|by rw[e];simp)
 al:=λa h=>t.al a<|s.al a h
 za:=λz=>t.za<|s.za z
theorem Step.frame (R:Fp)(s:Step Z H F Z' H' F'):Step Z H (λa=>F a\/R a) Z' H' (λa=>F' a\/R a) where
 keep:=λa o h n=>s.keep a o h λq=>n<|.inl q
 zm:=s.zm
 zn:=λa h=>(s.zn a h).imp id λq=>q.imp .inl id
 fn:=λa h=>h.elim (λq=>(s.fn a q).imp .inl id) λq=>.inl<|.inr q
 al:=s.al
 za:=s.za
theorem Step.mono (s:Step Z H F Z' H' F')(b:∀a,F a->F1 a)(c:∀a,F2 a->F' a):Step Z H F1 Z' H' F2 where
 keep:=λa o h n=>s.keep a o h λq=>n<|b a q
 zm:=s.zm
 zn:=λa h=>(s.zn a h).imp id λq=>q.imp (b a) id
 fn:=λa h=>(s.fn a<|c a h).imp (b a) id
 al:=s.al
 za:=s.za
theorem Own.stay (o:Own Z H F)(s:Step Z H F Z' H' F'):Stay Z H H':=by
 refine⟨λa u c h=>s.keep a u h λq=>(o a q).1 c,λa d h=>?_,λa u v h=>s.keep a _ h λq=>?_⟩
 .rcases h with h | ⟨u,h⟩
  .refine .inl (s.keep a _ h fun q=>?_);obtain⟨_,b,e⟩:=o a q;rw[h] at e;exact mS e
  .refine .inr ⟨u,s.keep a _ h fun q=>?_⟩;obtain⟨_,b,e⟩:=o a q;rw[h] at e;exact i7 e
 .obtain ⟨_,b,e⟩:=o a q;rw[h] at e;exact i7 e
theorem Rep.frame {m:Md}{t:T}{v:V}(o:Own Z H F)(s:Step Z H F Z' H' F')(d:∀a,G a->¬F a)(h:Rep K Z H m t v G):Rep K Z' H' m t v G:=h.keep (o.stay s) s.zm λa u b e=>s.keep a u e<|d a b
theorem RepW.frame {b:U W}{c:U V}(o:Own Z H F)(s:Step Z H F Z' H' F')(d:∀a,G a->¬F a)(h:RepW K Z H b c G):RepW K Z' H' b c G:=h.keep (o.stay s) s.zm λa u f e=>s.keep a u e<|d a f
theorem Own.frame (o:Own Z H G)(s:Step Z H F Z' H' F')(d:∀a,G a->¬F a):Own Z' H' G/\∀a,G a->¬F' a:=by
 refine⟨λa b=>?_,λa b q=>?_⟩
 .obtain ⟨c,f,e⟩:=o a b;refine⟨λq=>?_,f,s.keep a _ e (d a b)⟩;rcases s.zn a q with z|z|z
  .exact c z
  .exact d a b z
  .rw[e] at z;cases z
 .obtain ⟨c,f,e⟩:=o a b;rcases s.fn a q with z|z
  .exact d a b z
  .rw[e] at z;cases z
end
abbrev Fps:=O->Fp
def tot (b:Fps):Fp:=λa=>∃i,b i a
structure Gd (Z:Fp)(H:Hp)(Fs:Fps):Prop where
 own:Own Z H (tot Fs)
 dis:∀i j a,Fs i a->Fs j a->i=j
 zal:∀a,Z a->H a≠J
structure Cf where
 sl:O->L O
 pv:O->L V
def HF (K:Jw)(a:Cf)(Z:Fp)(H:Hp)(c:Env)(d:L2.St)(b:Fps):Prop:=
 ∀i m t,rd c i=Y (m,t)->∃v,Rep K Z H m t v (b i)/\(∀j,a.sl i=Y j->d[j]?=Y (Y v))/\∀u,a.pv i=Y u->v=u
structure At (K:Jw)(sl:Cf)(σ:L2.St)(Z:Fp)(H:Hp)(Fs:Fps)(η:Env)(G:Fp):Prop where
 gd:Gd Z H Fs
 env:HF K sl Z H η σ Fs
 own:Own Z H G
 dis:∀a,G a->¬tot Fs a
 lk:∀i u j,sl.pv i=Y u->sl.sl i=Y j->σ[j]?=Y (Y u)
 ln:∀i j,sl.sl i=Y j->j < σ.length
section
variable {K:Jw}{sl:Cf}{σ:L2.St}{Z Z':Fp}{H H':Hp}{Fs Fs':Fps}{η η':Env}{G G' R:Fp}
theorem At.frame (a:At K sl σ Z H Fs η R)(b:At K sl σ Z' H' Fs' η' G)(s:Step Z H (tot Fs) Z' H' λc=>tot Fs' c\/G c):
  At K sl σ Z' H' Fs' η' (λc=>R c\/G c)/\Step Z H (λc=>tot Fs c\/R c) Z' H' (λc=>tot Fs' c\/(R c\/G c))/\∀c,R c->¬G c:=by
 have o:=a.own.frame s a.dis;refine⟨⟨b.gd,b.env,λc d=>d.elim (o.1 c)<|b.own c,λc d=>d.elim (λz q=>o.2 c z<|.inl q)<|b.dis c,b.lk,b.ln⟩,(s.frame R).mono (λ_ z=>z) λc d=>?_,λc z q=>o.2 c z<|.inr q⟩;rcases d with z|z|z
 .exact .inl (.inl z)
 .exact .inr z
 .exact .inl (.inr z)
end
section
variable {K:Jw}{sl:Cf}{sf:O->L O}{C:Call}{σ:L2.St}{Z Z' Z1:Fp}{H H' H1:Hp}{Fs Fs' Fs1:Fps}{η η' η1:Env}{G G' R F:Fp}
theorem At.mono (a:At K sl σ Z H Fs η G)(h:∀c,G' c->G c):At K sl σ Z H Fs η G':=⟨a.gd,a.env,λc b=>a.own c<|h c b,λc b=>a.dis c<|h c b,a.lk,a.ln⟩
theorem At.bare (a:At K sl σ Z H Fs η G):At K sl σ Z H Fs η no:=a.mono λ_ z=>z.elim
def wE (K:Jw)(sl:O->L O)(C:Call)(e:E):TE:=λσ H Q=>∃b Z Fs η w η',At K ⟨sl,b⟩ σ Z H Fs η no/\evE C e η=.ok (w,η') /\
 ∀v Z' H' Fs' G,At K ⟨sl,b⟩ σ Z' H' Fs' η' G->Rep K Z' H' w.1 w.2 v G->Step Z H (tot Fs) Z' H' (λa=>tot Fs' a\/G a)->Q v H'
def wL (K:Jw)(sl:O->L O)(C:Call)(e:U E):TA:=λσ H Q=>∃b Z Fs η d η',At K ⟨sl,b⟩ σ Z H Fs η no/\evL C e η=.ok (d,η') /\
 ∀c Z' H' Fs' G,At K ⟨sl,b⟩ σ Z' H' Fs' η' G->RepW K Z' H' d c G->Step Z H (tot Fs) Z' H' (λa=>tot Fs' a\/G a)->Q c H'
theorem eX {e:E}{w:W}{Q:VK}(A:At K sl σ Z H Fs η R)(ev:evE C e η=.ok (w,η'))
  (k:∀ v Z' H' Fs' G,At K sl σ Z' H' Fs' η' (fun c=>R c\/G c)->Rep K Z' H' w.1 w.2 v G->(∀ c,R c->¬ G c)->Step Z H (tot Fs) Z' H' (fun a=>tot Fs' a\/G a) ->
   Step Z H (λc=>tot Fs c\/R c) Z' H' (λc=>tot Fs' c\/(R c\/G c))->Q v H'):wE K sl.sl C e σ H Q:=
 ⟨sl.pv,Z,Fs,η,w,η',A.bare,ev,fun v Z' H' Fs' G b r s=>by
  obtain⟨d,f,g⟩:=A.frame b s;exact k v Z' H' Fs' G d r g s f⟩
theorem CM {e:U E}{d:U W}{Q:U V->Hp->Prop}(A:At K sl σ Z H Fs η R)(ev:evL C e η=.ok (d,η'))
  (k:∀ f Z' H' Fs' G,At K sl σ Z' H' Fs' η' (fun c=>R c\/G c)->RepW K Z' H' d f G->(∀ c,R c->¬ G c)->Step Z H (tot Fs) Z' H' (fun a=>tot Fs' a\/G a) ->
   Step Z H (λc=>tot Fs c\/R c) Z' H' (λc=>tot Fs' c\/(R c\/G c))->Q f H'):wL K sl.sl C e σ H Q:=
 ⟨sl.pv,Z,Fs,η,d,η',A.bare,ev,fun v Z' H' Fs' G b r s=>by
  obtain⟨g,h,i⟩:=A.frame b s;exact k v Z' H' Fs' G g r i s h⟩
theorem ae {c d:Type}{r:Res c}{f:c->Res d}{b:d}(h:r.bind f=.ok b):∃a,r=.ok a/\f a=.ok b:=by
 cases r with
 |ok a=>exact⟨a,rfl,h⟩
 |ex t=>cases h
 |no=>cases h
theorem aG {c:Type}{η:Env}{o:L c}{b:c×Env}(h:ret η o=.ok b):∃a,o=Y a/\b=(a,η):=by
 cases o with
 |none=>cases h
 |some a=>exact⟨a,rfl,by cases h;rfl⟩
theorem cG {c:Type}{o:L c}{b:c}(h:ofO o=.ok b):o=Y b:=by
 cases o with
 |none=>cases h
 |some a=>cases h;rfl
theorem ay {e:E}{a:U E}{c:U W}(h:evL C (e::a) η=.ok (c,η')):∃w η1 b,evE C e η=.ok (w,η1)/\evL C a η1=.ok (b,η')/\c=w::b:=by obtain⟨⟨w,η1⟩,d,f⟩:=ae<|show(evE C e η).bind (a0<|evL C a)=_ from h;obtain⟨⟨b,j⟩,g,i⟩:=ae<|show(evL C a η1).bind (nP w)=_ from f;cases i;exact⟨w,η1,b,d,g,rfl⟩
theorem gJ {e:E}{b:U E}{c:U W}(k:∀i,e≠.io i)(h:evA C (e::b) η=.ok (c,η')):∃w η1 a,evE C e η=.ok (w,η1)/\evA C b η1=.ok (a,η')/\c=w::a:=by rw[An k] at h;obtain⟨⟨w,η1⟩,d,f⟩:=ae h;obtain⟨⟨a,l⟩,g,j⟩:=ae<|show(evA C b η1).bind (nP w)=_ from f;cases j;exact⟨w,η1,a,d,g,rfl⟩
theorem i5 {i:O}{b:U E}{c:U W}(h:evA C (.io i::b) η=.ok (c,η')):∃a η1 w,evA C b η=.ok (a,η1)/\rd η1 i=Y w/\c=w::a/\η'=del η1 i:=by obtain⟨⟨a,η1⟩,d,e⟩:=ae<|show(evA C b η).bind (kIo i)=_ from h;obtain⟨w,f,g⟩:=ae<|show(ofO<|rd η1 i).bind (λw=>.ok (w::a,del η1 i))=_ from e;cases g;exact⟨a,η1,w,d,cG f,rfl,rfl⟩
theorem Fe (e:E):(∃i,e=.io i)\/∀i,e≠.io i:=by
 cases e with
 |io i=>exact .inl ⟨i,rfl⟩
 |_=>exact .inr λ_ z=>by cases z
theorem oA {e:E}{f:U E}(σ:L2.St)(H:Hp)(Q:U V->Hp->Prop)(h:wL K sf C (e::f) σ H Q):oH (wE K sf C e) (wL K sf C f) σ H Q:=by obtain⟨u,Z,Fs,η,y,η',A,ev,k⟩:=h;obtain⟨w,η1,v,o,p,rfl⟩:=ay ev;refine eX A o λx Z1 H1 Fs1 d c r1 _ r _=>?_;have a:=c.mono (G':=d) λ_ z=>.inr z;refine CM a p λg m l b j i r2 n s t=>?_;refine k (x::g) m l b _ i ⟨x,g,d,j,rfl,λ_ z=>.inl z,λ_ z=>.inr z,n,r1.frame c.gd.own s a.dis,r2⟩ ?_;exact r.trans t
theorem C5 (σ:L2.St)(H:Hp)(Q:U V->Hp->Prop)(h:wL K sf C [] σ H Q):Cw σ H Q:=by obtain⟨c,Z,Fs,η,d,η',A,ev,k⟩:=h;cases ev;exact k [] Z H Fs no A rfl ((Step.refl _ _ _).mono (λ_ z=>z) λa b=>b.elim id λz=>z.elim)
def Out (K:Jw)(Z:Fp)(H:Hp)(G:Fp)(w:W)(Q:VK):Prop:=∀v Z' H' G',Rep K Z' H' w.1 w.2 v G'->Own Z' H' G'->Step Z H G Z' H' G'->Q v H'
theorem At.op (A:At K sl σ Z H Fs η G)(o:Own Z' H' G')(s:Step Z H G Z' H' G'):At K sl σ Z' H' Fs η G'/\Step Z H (λc=>tot Fs c\/G c) Z' H' (λc=>tot Fs c\/G' c):=by
 have d:∀a,tot Fs a->¬G a:=λa h q=>A.dis a q h;have f:=A.gd.own.frame s d;refine⟨⟨⟨f.1,A.gd.dis,s.za A.gd.zal⟩,λi m t e=>?_,o,λa b q=>f.2 a q b,A.lk,A.ln⟩,?_⟩
 .obtain ⟨v,r,g⟩:=A.env i m t e;exact⟨v,r.frame A.own s λa b=>d a ⟨i,b⟩,g⟩
 .refine(s.frame<|tot Fs).mono (λ_ z=>z.symm) λ_ z=>z.symm
theorem bc {w:W}{Q:VK}(A:At K sl σ Z1 H1 Fs1 η1 G)(s:Step Z H F Z1 H1 λa=>tot Fs1 a\/G a)
  (k:∀v Z' H' Fs' G,At K sl σ Z' H' Fs' η1 G->Rep K Z' H' w.1 w.2 v G->Step Z H F Z' H' (λa=>tot Fs' a\/G a)->Q v H'):Out K Z1 H1 G w Q:=λv Z' H' G' r o t=>by
 obtain⟨b,u⟩:=A.op o t;exact k v Z' H' Fs1 G' b r<|s.trans u
def Loc (K:Jw)(n:O)(o:Op)(h:OF)(r:U V->Hp->VK->Prop):Prop:=∀(b:U W) (w:W) (c:U V) (Z:Fp) (H:Hp) (G:Fp) (Q:VK),b.length=n->oSem o h b=Y w->RepW K Z H b c G->Own Z H G->(∀a,Z a->H a≠J)->Out K Z H G w Q->r c H Q
theorem bW {o:Op}{h:OF}{c:U E}{w:W}(e:evE C (.op o h c) η=.ok (w,η')):∃b,evL C c η=.ok (b,η')/\oSem o h b=Y w:=by obtain⟨⟨b,η1⟩,d,f⟩:=ae<|show(evL C c η).bind (kOp o h)=_ from e;obtain⟨a,g,i⟩:=aG<|show ret η1 (oSem o h b)=_ from f;cases i;exact⟨b,d,g⟩
theorem fX:∀{a:U E} {η η':Env} {b:U W},evL C a η=.ok (b,η')->b.length=a.length
|[],_,_,_,h=>by cases h;rfl
|e::a,_,_,_,h=>by obtain⟨w,η1,d,_,c,rfl⟩:=ay h;rw[JY,JY,fX c]
theorem eC {n:O}{o:Op}{h:OF}{b:U E}{r:U V->Hp->VK->Prop}(l:Loc K n o h r)(f:b.length=n)(σ:L2.St)(H:Hp)(Q:VK)(g:wE K sf C (.op o h b) σ H Q):tCB r (wL K sf C b) σ H Q:=by obtain⟨i,Z,Fs,η,w,η',A,ev,k⟩:=g;obtain⟨d,c,e⟩:=bW ev;exact⟨i,Z,Fs,η,d,η',A,c,λj Z' H' Fs' G a r s=>l d w j Z' H' G Q ((fX c).trans f) e r a.own a.gd.zal<|bc a s k⟩
theorem A8 {o:Op}{h:OF}{a:E}{r:V->Hp->VK->Prop}(l:Loc K 1 o h λi H Q=>∀x,i=[x]->r x H Q)(σ:L2.St)(H:Hp)(Q:VK)(f:wE K sf C (.op o h [a]) σ H Q):tUn r (wE K sf C a) σ H Q:=by obtain⟨g,Z,Fs,η,w,η',A,ev,k⟩:=f;obtain⟨m,d,e⟩:=bW ev;obtain⟨c,η1,j,e1,e2,rfl⟩:=ay d;cases e2;refine⟨g,Z,Fs,η,c,η',A,e1,λx Z' H' Fs' G b r s=>l [c] w [x] Z' H' G Q rfl e (RepW.one r) b.own b.gd.zal (bc b s k) x rfl⟩
theorem aO {o:Op}{h:OF}{a b:E}{r:R2}(l:Loc K 2 o h λxs H Q=>∀x y,xs=[x,y]->r x y H Q)(σ:L2.St)(H:Hp)(Q:VK)(u:wE K sf C (.op o h [a,b]) σ H Q):tOp r (wE K sf C a) (wE K sf C b) σ H Q:=by obtain⟨pv,Z,Fs,η,w,η',A,ev,k⟩:=u;obtain⟨ws,s,t⟩:=bW ev;obtain⟨P,η1,N,e1,e2,rfl⟩:=ay s;obtain⟨wb,η2,N,e3,p,rfl⟩:=ay e2;cases p;refine eX A e1 λx Z1 H1 Fs1 f e r1 _ v _=>?_;have c:=e.mono (G':=f) λ_ z=>.inr z;refine eX c e3 λy m j g i d r2 n D M=>?_;exact l [P,wb] w [x,y] m j _ Q rfl t ⟨x,[y],f,i,rfl,λ_ z=>.inl z,λ_ z=>.inr z,n,r1.frame e.gd.own D c.dis,RepW.one r2⟩ d.own d.gd.zal (bc d (v.trans M) k) x y rfl
theorem bO:Own Z H no:=λ_ z=>z.elim
theorem Step.drop:Step Z H G Z H no:=(Step.refl Z H G).mono (λ_ z=>z) λ_ z=>z.elim
section
variable {Q:VK}{m:Md}{ts:U T}{xs:U V}
theorem aS {i:I}(k:Out K Z H G (m,.int i) Q):Q (.int i) H:=k _ Z H no rfl bO .drop
theorem bN {b:OF}(k:Out K Z H G (m,.bl b) Q):Q (.bl b) H:=k _ Z H no rfl bO .drop
theorem ju {x:Str}(k:Out K Z H G (m,.str x) Q)(h:sOk x=Ju):Q (.str x) H:=k _ Z H no ⟨rfl,h⟩ bO .drop
theorem bU {t:T}{v:V}(o:Own Z H G)(k:Out K Z H G (m,t) Q)(r:Rep K Z H m t v G):Q v H:=k v Z H G r o<|.refl _ _ _
theorem gq {p:OD}{o:HO}(hp:H p=J):Stay Z H (upd H p o):=by
 have b:∀{a u},H a=Y u->a≠p:=λ{a u} e z=>by subst z;rw[hp] at e;cases e
 refine⟨λa u _ e=>?_,λa xs e=>?_,λa u v e=>?_⟩
 .rw[ag<|b e];exact e
 .rcases e with e | ⟨u,e⟩
  .exact .inl (by rw[ag<|b e];exact e)
  .exact .inr ⟨u,by rw[ag<|b e];exact e⟩
 .rw[ag<|b e];exact e
theorem cT {p:OD}{o:HO}(hp:H p=J)(j:Own Z H G)(f:∀a,G' a->G a\/a=p)(z:Fp)(g:∀a,Z a->z a)(b:∀a,z a->Z a\/G a):Step Z H G z (upd H p o) G':=by
 have i:∀{a u},H a=Y u->a≠p:=λ{a u} e q=>by subst q;rw[hp] at e;cases e
 have d:∀a,H a≠J->upd H p o a≠none:=λa h=>by
  by_cases e:a=p
  .rw[e,aq];simp
  .rw[ag e];exact h
 refine⟨λa u e _=>by rw[ag<|i e];exact e,g,λa h=>(b a h).imp id .inl,λa h=>(f a h).imp id λe=>by rw[e];exact hp,d,λq a h=>d a ?_⟩;rcases b a h with c|c
 .exact q a c
 .obtain ⟨_,xs,e⟩:=j a c;rw[e];simp
theorem b6 {p:OD}(b:Own Z H G)(n:∀a,Z a->H a≠J)(c:∀a,G' a->G a)(g:xs.length<=LIM)(r:RepL K (cI Z G G') H m.kid ts xs G')(i:m≠.s)(k:Out K Z H G (m,.lst ts) Q)(hp:H p=J):Q (.ref p) (upd H p<|.lst xs):=by
 have d:∀{a u},H a=Y u->a≠p:=λ{a u} e q=>by subst q;rw[hp] at e;cases e
 have j:∀a,G' a->a≠p:=λa h=>by obtain⟨_,f,e⟩:=b a<|c a h;exact d e
 refine k _ (cI Z G G') _ (λa=>G' a\/a=p) ⟨p,xs,rfl,g,(LstR.own i).mpr ⟨.inr rfl,aq⟩,?_⟩ ?_<|cT hp b (λa h=>h.imp (c a) id) _ (λa h=>.inl h) λa h=>h.imp id Lx
 .refine(r.keep (gq hp) (λ_ z=>z) λa u _ e=>by rw[ag<|d e];exact e).mono λa h=>⟨.inl h,j a h⟩
 .rintro a (h | h)
  .obtain ⟨l,f,e⟩:=b a<|c a h;exact⟨λz=>z.elim l λq=>q.2 h,f,by rw[ag<|d e];exact e⟩
  .subst h;refine⟨λz=>z.elim (λq=>n a q hp) λq=>?_,.inl xs,aq⟩;obtain⟨_,f,e⟩:=b a q.1;rw[hp] at e;cases e
theorem nA {p:OD}(d:Own Z H G)(b:∀a,G' a->G a)(f:xs.length<=LIM)(r:RepL K (cI Z G G') H m.kid ts xs G')(k:Out K Z H G (m,.tup ts) Q)(hp:H p=J):Q (.ref p) (upd H p<|.tup xs):=by
 have c:∀{a u},H a=Y u->a≠p:=λ{a u} e q=>by subst q;rw[hp] at e;cases e
 refine k _ (cI Z G G') _ G' ⟨p,xs,rfl,.inl<|.inl aq,f,?_⟩ ?_<|cT hp d (λa h=>.inl<|b a h) _ (λa h=>.inl h) λa h=>h.imp id Lx
 .exact r.keep (gq hp) (λ_ z=>z) λa u _ e=>by rw[ag<|c e];exact e
 .intro a h;obtain⟨g,i,e⟩:=d a<|b a h;exact⟨λz=>z.elim g λq=>q.2 h,i,by rw[ag<|c e];exact e⟩
theorem g9 {v:V}{H':Hp}(j:Own Z H G)(i:∀a,G' a->G a)(l:xs.length<=LIM)(r:RepL K (cI Z G G') H m.kid ts xs G')(k:Out K Z H G (m,.tup ts) Q)(d:∀b o,H b=Y o->H' b=Y o)(p:∃c,v=.ref c/\SqT K H' c xs):Q v H':=by
 obtain⟨c,rfl,n⟩:=p
 have g:∀a,H a≠J->H' a≠none:=λa h=>by
  cases e:H a with
  |none=>exact OH e h
  |some o=>rw[d a o e];simp
 refine k _ (cI Z G G') _ G' ⟨c,xs,rfl,n,l,?_⟩ (λa h=>?_) ⟨λa o e _=>d a o e,λa h=>.inl h,λa h=>h.imp id λq=>.inl q.1,λa h=>.inl<|i a h,g,λq a h=>g a ?_⟩
 .refine r.keep ⟨fun a o _ e=>d a o e,fun a f e=>?_,fun a o u e=>d a _ e⟩ (fun _ z=>z) fun a u _ e=>d a u e;rcases e with e|⟨u,e⟩
  .exact .inl (d a _ e)
  .exact .inr ⟨u,d a _ e⟩
 .obtain ⟨s,f,e⟩:=j a<|i a h;exact⟨λz=>z.elim s λq=>q.2 h,f,d a _ e⟩
 .rcases h with h | h
  .exact q a h
  .obtain ⟨_,f,e⟩:=j a h.1;rw[e];simp
theorem dw {p:OD}{h:OF}{w:W}(g:Own Z H G)(i:∀a,Z a->H a≠J)(f:xs.length<=LIM)(r:∃G',(∀a,G' a->G a)/\RepL K (cI Z G G') H m ts xs G')(b:newL h m ts=Y w)(k:Out K Z H G w Q)(hp:H p=J):Q (.ref p) (upd H p<|.lst xs):=by
 obtain⟨G',j,r⟩:=r;unfold newL at b;split at b
 .split at b
  .rename_i c;cases b;refine b6 (m:=.d) (G':=no) g i (λ_ z=>z.elim) f ?_ (by simp) k hp;exact r.leaves (λ_ _ _ e=>e) c
  .cases b
 .cases b;exact b6 (m:=m.up) g i j f (by rw[gr];exact r) (fG m) k hp
end
end
section
variable {K:Jw}{h:OF}
theorem cK {d f:Type}{c:U d}{x y:f}(e:c.length=[x,y].length):∃a b,c=[a,b]:=by
 match c,e with
 |[a,b],_=>exact⟨a,b,rfl⟩
theorem pQ {c d:Type}{b:U c}{x:d}(e:b.length=[x].length):∃a,b=[a]:=by
 match b,e with
 |[a],_=>exact⟨a,rfl⟩
theorem bI {Z:Fp}{H:Hp}{G:Fp}{u w:W}{x y:V}(r:RepW K Z H [u,w] [x,y] G):∃b c,(∀a,b a->G a)/\(∀a,c a->G a)/\(∀a,b a->¬c a)/\Rep K Z H u.1 u.2 x b/\Rep K Z H w.1 w.2 y c:=by obtain⟨t,s,b,c,e,j,k,d,p,v,r2,i,m,e2,g,o,n,q,z⟩:=r;cases e;cases e2;exact⟨b,i,j,λa f=>k a<|g a f,λa f l=>d a f<|g a l,p,q⟩
theorem zG {Z:Fp}{H:Hp}{G:Fp}{w:W}{x:V}(r:RepW K Z H [w] [x] G):Rep K Z H w.1 w.2 x G:=by obtain⟨i,g,b,c,e,a,f,d,p,z⟩:=r;cases e;exact p.mono a
theorem br {b:U W}{a:U V}{Z:Fp}{H:Hp}{G:Fp}{w:W}(c:b=[w])(r:RepW K Z H b a G):∃x,a=[x]/\Rep K Z H w.1 w.2 x G:=by subst c;obtain⟨x,hx⟩:=pQ (x:=())<|show a.length=[()].length from r.length;subst hx;exact⟨x,rfl,zG r⟩
theorem lQ {n:O}(h:n<=LIM):n<sizeLine:=Nq h<|by decide
theorem LIM_le {n:O}(h:n<=LIM):n<=sizeLine:=Mh<|lQ h
theorem cH {n:O}(h:fits n=Ju):n<=LIM:=OM h
theorem tj {o:Op}{C:I->I->Prop}{g:I->I->T}(a:∀{u v w:W},oSem o h [u,v]=Y w->∃m n i j,u=(m,.int i)/\v=(n,.int j)/\C i j/\w=(.d,g i j))(b:I->I->V)(l:∀{Z:Fp} {H:Hp} {G:Fp} {Q:VK} {i j:I},Out K Z H G (.d,g i j) Q->Q (b i j) H):
  Loc K 2 o h λf H Q=>∀x y,f=[x,y]->rI C b x y H Q:=by
 intro A w f Z H G Q t e r z D k x y hx;subst hx;obtain⟨u,v,rfl⟩:=cK r.length.symm;obtain⟨m,n,i,j,rfl,rfl,c,rfl⟩:=a e;obtain⟨p,s,_,_,_,r1,r2⟩:=bI r;exact⟨i,j,r1,r2,c,l k⟩
theorem gp {o:Op}{g:I->I->T}(a:∀{u v w:W},oSem o h [u,v]=Y w->∃m n i j,u=(m,.int i)/\v=(n,.int j)/\w=(.d,g i j))(b:I->I->V)(f:∀{Z:Fp} {H:Hp} {G:Fp} {Q:VK} {i j:I},Out K Z H G (.d,g i j) Q->Q (b i j) H):
  Loc K 2 o h λc H Q=>∀x y,c=[x,y]->rI0 b x y H Q:=by
 intro z w c Z H G Q s e r t A k x y hx;subst hx;obtain⟨u,v,rfl⟩:=cK r.length.symm;obtain⟨m,n,i,j,rfl,rfl,rfl⟩:=a e;obtain⟨l,p,_,_,_,r1,r2⟩:=bI r;exact⟨i,j,r1,r2,f k⟩
theorem vU {u v w:W}(e:oSem .sub h [u,v]=Y w):∃m n i j,u=(m,.int i)/\v=(n,.int j)/\w=(.d,.int<|i-j):=by obtain⟨m,a⟩:=u;obtain⟨n,b⟩:=v;cases a<;>first|(cases e;done)|(cases b<;>first|(cases e;exact⟨_,_,_,_,rfl,rfl,rfl⟩)|cases e)
theorem vo {u v w:W}(e:oSem .lt h [u,v]=Y w):∃m n i j,u=(m,.int i)/\v=(n,.int j)/\w=(.d,.bl<|decide (i<j)):=by obtain⟨m,a⟩:=u;obtain⟨n,b⟩:=v;cases a<;>first|(cases e;done)|(cases b<;>first|(cases e;exact⟨_,_,_,_,rfl,rfl,rfl⟩)|cases e)
theorem uk {u v w:W}(e:oSem .le h [u,v]=Y w):∃m n i j,u=(m,.int i)/\v=(n,.int j)/\w=(.d,.bl<|decide (i<=j)):=by obtain⟨m,a⟩:=u;obtain⟨n,b⟩:=v;cases a<;>first|(cases e;done)|(cases b<;>first|(cases e;exact⟨_,_,_,_,rfl,rfl,rfl⟩)|cases e)
theorem qE {u v w:W}(e:oSem .gt h [u,v]=Y w):∃m n i j,u=(m,.int i)/\v=(n,.int j)/\w=(.d,.bl<|decide (j<i)):=by obtain⟨m,a⟩:=u;obtain⟨n,b⟩:=v;cases a<;>first|(cases e;done)|(cases b<;>first|(cases e;exact⟨_,_,_,_,rfl,rfl,rfl⟩)|cases e)
theorem vH {u v w:W}(e:oSem .ge h [u,v]=Y w):∃m n i j,u=(m,.int i)/\v=(n,.int j)/\w=(.d,.bl<|decide (j<=i)):=by obtain⟨m,a⟩:=u;obtain⟨n,b⟩:=v;cases a<;>first|(cases e;done)|(cases b<;>first|(cases e;exact⟨_,_,_,_,rfl,rfl,rfl⟩)|cases e)
theorem uZ {u v w:W}(e:oSem .fdiv h [u,v]=Y w):∃m n i j,u=(m,.int i)/\v=(n,.int j)/\Ec i j/\w=(.d,.int<|i / j):=by
 obtain⟨m,a⟩:=u;obtain⟨n,b⟩:=v;cases a<;>first|(cases e;done)|(cases b<;>try (cases e;done))
 rename_i i j;rw[tU] at e;split at e
 .rename_i c;rw[JM,OP,OP] at c;cases e;exact⟨_,_,_,_,rfl,rfl,c,rfl⟩
 .cases e
theorem xC {u v w:W}(e:oSem .mod h [u,v]=Y w):∃m n i j,u=(m,.int i)/\v=(n,.int j)/\(0<j)/\w=(.d,.int<|i % j):=by
 obtain⟨m,a⟩:=u;obtain⟨n,b⟩:=v;cases a<;>first|(cases e;done)|(cases b<;>try (cases e;done))
 rename_i i j;rw[zD] at e;split at e
 .rename_i c;rw[OP] at c;cases e;exact⟨_,_,_,_,rfl,rfl,c,rfl⟩
 .cases e
theorem we {u v w:W}(e:oSem .pow h [u,v]=Y w):∃m n i j,u=(m,.int i)/\v=(n,.int j)/\DN i j/\w=(.d,.int<|i ^ j.toNat):=by
 obtain⟨m,a⟩:=u;obtain⟨n,b⟩:=v;cases a<;>first|(cases e;done)|(cases b<;>try (cases e;done))
 rename_i i j;rw[FT] at e;split at e
 .rename_i c;rw[JM,JM,OP,OP,OP] at c;cases e;exact⟨_,_,_,_,rfl,rfl,⟨c.1.1,c.1.2,c.2⟩,rfl⟩
 .cases e
theorem v8:Loc K 2 .sub h λa H Q=>∀x y,a=[x,y]->rI0 (λi j=>.int<|i-j) x y H Q:=gp vU _ λk=>aS k
theorem Cg:Loc K 2 .lt h λa H Q=>∀x y,a=[x,y]->rI0 (λi j=>.bl<|decide (i<j)) x y H Q:=gp vo _ λk=>bN k
theorem Cy:Loc K 2 .le h λa H Q=>∀x y,a=[x,y]->rI0 (λi j=>.bl<|decide (i<=j)) x y H Q:=gp uk _ λk=>bN k
theorem Ax:Loc K 2 .gt h λa H Q=>∀x y,a=[x,y]->rI0 (λi j=>.bl<|decide (j<i)) x y H Q:=gp qE _ λk=>bN k
theorem A7:Loc K 2 .ge h λa H Q=>∀x y,a=[x,y]->rI0 (λi j=>.bl<|decide (j<=i)) x y H Q:=gp vH _ λk=>bN k
theorem tw:Loc K 2 .fdiv h λa H Q=>∀x y,a=[x,y]->rI Ec (λi j=>.int<|i / j) x y H Q:=tj uZ _ λk=>aS k
theorem yI:Loc K 2 .mod h λa H Q=>∀x y,a=[x,y]->rI (λ_ j=>0<j) (λi j=>.int<|i % j) x y H Q:=tj xC _ λk=>aS k
theorem yE:Loc K 2 .pow h λa H Q=>∀x y,a=[x,y]->rI DN (λi j=>.int<|i ^ j.toNat) x y H Q:=tj we _ λk=>aS k
theorem y7:Loc K 1 .neg h λb H Q=>∀x,b=[x]->rU (λi=>.int (-i)) x H Q:=by intro f w b Z H G Q c e r d g k x hx;subst hx;obtain⟨⟨m,a⟩,rfl⟩:=pQ r.length.symm;cases a<;>first|(cases e;exact⟨_,zG r,aS k⟩)|cases e
theorem bx {Z:Fp}{H:Hp}{G:Fp}{m:Md}{c:U T}{v:V}(r:Rep K Z H m (.lst c) v G):∃a b,v=.ref a/\H a=Y (.lst b)/\b.length<=LIM/\RepL K Z H m.kid c b G:=by obtain⟨a,b,e,l,q,p⟩:=r;exact⟨a,b,e,by cases m<;>exact q.2,l,p.mono λ_ z=>z.1⟩
theorem bY {Z:Fp}{H:Hp}{G:Fp}{m:Md}{c:U T}{v:V}(r:Rep K Z H m (.tup c) v G):∃a b,v=.ref a/\SqT K H a b/\b.length<=LIM/\RepL K Z H m.kid c b G:=r
theorem kN {Z:Fp}{H:Hp}{G g i:Fp}{m n:Md}{l o:U T}{s t:U V}(p:∀a,g a->G a)(r:∀a,i a->G a)(d:∀a,g a->¬i a)(r1:RepL K Z H m l s g)(r2:RepL K Z H n o t i):
  ∃f,(∀a,f a->G a)/\RepL K (cI Z G f) H (m.meet n) (l++o) (s++t) f:=by
 obtain⟨A,j,u⟩:=RepL.weak (eF m n).1 r1;obtain⟨c,k,v⟩:=RepL.weak (eF m n).2 r2;refine⟨λb=>A b\/c b,λb e=>e.elim (λz=>p b<|j b z) λz=>r b<|k b z,RepL.append (λ_ z=>.inl z) (λ_ z=>.inr z) (λb x y=>d b (j b x)<|k b y) (u.zmono λb e=>?_)<|v.zmono λb e=>?_⟩
 .exact e.imp id λz=>⟨p b z.1,λq=>q.elim z.2 λw=>d b z.1<|k b w⟩
 .exact e.imp id λz=>⟨r b z.1,λq=>q.elim (λw=>d b (j b w) z.1) z.2⟩
theorem yg {p q:Str}(a:sOk p=Ju)(b:sOk q=Ju)(c:p.cps.size+q.cps.size<=LIM):sOk (p++q)=true:=by
 unfold sOk at *;rw[JM] at *;refine⟨?_,OE ?_⟩
 .show Array.all (p.cps++q.cps) _=Ju;rw[Array.all_append,JM];exact⟨a.1,b.1⟩
 .show (p.cps++q.cps).size<=LIM;rw[Array.size_append];exact c
theorem yp (P:R2)(hT:∀{Z:Fp} {H:Hp} {G:Fp} {Q:VK} {a b:OD} {c l:U V} {u:U T},SqT K H a c->SqT K H b l->c≠[]->c.length+l.length<=LIM->Own Z H G->(∃v,(∀a,v a->G a)/\RepL K (cI Z G v) H .s u (c++l) v)->Out K Z H G (.s,.tup u) Q->P (.ref a) (.ref b) H Q):
  Loc K 2 .add h λc H Q=>∀x y,c=[x,y]->rI0 (λi j=>.int<|i+j) x y H Q\/(∃i j,x=.str i/\y=.str j/\i.length+j.length<=sizeLine/\Q (.str<|i++j) H)\/GW x y H Q\/P x y H Q:=by
 intro ws w c Z H G Q hn e r N za k x y hx;subst hx;obtain⟨⟨m,a⟩,⟨n,b⟩,rfl⟩:=cK r.length.symm;obtain⟨G1,G2,w1,w2,d,r1,r2⟩:=bI r;cases a<;>first|(cases e;done)|(cases b<;>try (cases e;done))
 .cases e;exact .inl ⟨_,_,r1,r2,aS k⟩
 .rename_i p q;rw[um] at e;split at e
  .rename_i f;cases e;refine .inr<|.inl ⟨p,q,r1.1,r2.1,LIM_le<|cH f,ju k ?_⟩;exact yg r1.2 r2.2<|cH f
  .cases e
 .rename_i u us;rw[uL] at e;split at e
  .rename_i f;cases e;rw[JM] at f;obtain⟨a,c,rfl,M,hl,p⟩:=bY r1;obtain⟨b,l,rfl,g,D,t⟩:=bY r2;have o:=cH f.1;have e1:=p.length;have e2:=t.length;refine .inr (.inr (.inr (hT M g ?_ (by lia) N ?_ k)))
   .rintro rfl;cases u with
    |nil=>simp at f
    |cons _ _=>simp at e1
   .refine ⟨no,fun _ z=>z.elim,RepL.append (G1:=no) (G2:=no) (fun _ z=>z) (fun _ z=>z) (fun _ z _=>z) ((RepL.sh p).zmono fun b A=>?_) ((RepL.sh t).zmono fun b A=>?_)⟩
    .exact A.imp id λz=>⟨w1 b z,λq=>q⟩
    .exact A.imp id λz=>⟨w2 b z,λq=>q⟩
  .cases e
 .rename_i u us;rw[rh] at e;split at e
  .rename_i f;obtain⟨a,c,rfl,M,hl,p⟩:=bx r1;obtain⟨b,l,rfl,g,D,t⟩:=bx r2;have o:=cH f;have e1:=p.length;have e2:=t.length;have F:(c++l).length<=LIM:=by rw[Jx];lia
   refine .inr<|.inr<|.inl ⟨a,b,c,l,rfl,rfl,M,g,LIM_le<|by lia,λq hq=>?_⟩;exact dw N za F (kN w1 w2 d p t) e k hq
  .cases e
theorem ye:Loc K 2 .mul h λg H Q=>∀x y,g=[x,y]->rI CMul (λi j=>.int<|i * j) x y H Q\/FD x y H Q:=by
 intro ws w g Z H G Q hn e r N za k x y hx;subst hx;obtain⟨⟨m,a⟩,⟨n,b⟩,rfl⟩:=cK r.length.symm;obtain⟨G1,G2,P,w2,d,r1,r2⟩:=bI r;cases a<;>first|(cases e;done)|(cases b<;>try (cases e;done))
 .rename_i i j;rw[uD] at e;split at e
  .rename_i l;cases e;refine .inl ⟨i,j,r1,r2,?_,aS k⟩;rw[NH,OP,OP] at l;have t:(2:I) ^ 64=18446744073709551616:=by decide
   unfold CMul;rw[t];lia
  .cases e
 .rename_i v j;have o:(if decide (j.natAbs<4611686018427387904)&&fits (v.length * j.toNat) then newL h .s (JV j.toNat v).flatten else J)=Y w:=e;split at o
  .rename_i l;rw[JM,OP] at l;obtain⟨a,g,rfl,F,hl,p⟩:=bx r1;have f:=cH l.2;have e1:=p.length;have u:((JV j.toNat g).flatten).length<=LIM:=by rw[List.length_flatten,List.map_replicate,List.sum_replicate_nat,e1,NR];exact f
   refine .inr ⟨a,j,g,rfl,r2,F,by lia,by lia,LIM_le<|by rw[e1];exact f,λq D=>?_⟩;refine dw N za u ⟨no,λ_ z=>z.elim,?_⟩ o k D;have ps:=(RepL.sh p).zmono (Z':=cI Z G no) λb A=>A.imp id λz=>⟨P b z,λq=>q⟩;generalize j.toNat=c;induction c with
   |zero=>exact rfl
   |succ c M=>exact RepL.append (λ_ z=>z) (λ_ z=>z) (λ_ z _=>z) ps M
  .cases o
theorem mP {Z:Fp}{H:Hp}{G:Fp}{m:Md}{a:U T}{b:U V}{i:I}{t:T}(p:RepL K Z H m a b G)(e:M.atI a i=Y t):∃x,L2.atI b i=Y x/\Rep K Z H m t x G:=by
 unfold M.atI at e;have c:M.ixN a.length i=L2.ixN b.length i:=by rw[p.length];rfl
 cases e1:M.ixN a.length i with
 |none=>rw[e1] at e;cases e
 |some j=>rw[e1] at e;obtain⟨x,hx,r⟩:=p.get<|show a[j]?=Y t from e;refine⟨x,?_,r⟩;unfold L2.atI;rw[<- c,e1];exact hx
theorem xM {x:Str}{c:O}(h:sOk x=Ju)(d:c∈x.cps.toList):sOk ⟨#[c]⟩=true:=by
 unfold sOk at *;rw[JM] at *;refine⟨?_,rfl⟩;have a:=h.1;rw[ME] at a;have b:=a c<|Array.mem_def.mpr d;rw[ME];intro y e;have:y=c:=by simpa using e
 rw[this];exact b
theorem jy {x:Str}(h:sOk x=Ju):x.cps.size<=LIM:=by unfold sOk at h;rw[JM,OP] at h;exact h.2
theorem DV:Loc K 2 .ix h λg H Q=>∀x y,g=[x,y]->(∃p g i v,x=.ref p/\y=.int i/\(SqL K H p g\/SqT K H p g)/\L2.atI g i=Y v/\Q v H)\/(∃z i c,x=.str z/\y=.int i/\z.length<=sizeLine/\L2.atI z.cps.toList i=Y c/\Q (.str ⟨#[c]⟩) H):=by
 intro ws w g Z H G Q hn e r D za k x y hx;subst hx;obtain⟨⟨m,a⟩,⟨n,b⟩,rfl⟩:=cK r.length.symm;obtain⟨P,G2,F,w2,d,r1,r2⟩:=bI r;obtain⟨i,rfl⟩:∃i,b=.int i:=by cases b<;>first|exact⟨_,rfl⟩|(cases e;done)|(cases a<;>cases e)
 cases a with
 | lst s =>
  obtain⟨a,g,rfl,o,N,p⟩:=bx r1;have f:(M.atI s i).map (λt=>(m.kid,t))=Y w:=e;cases e1:M.atI s i with
  |none=>rw[e1] at f;cases f
  |some t=>rw[e1] at f;cases f;obtain⟨v,u,A⟩:=mP p e1;exact .inl ⟨a,g,i,v,rfl,r2,.inl<|.inl<|.inl o,u,bU D k<|A.mono F⟩
 | tup s =>
  obtain⟨a,g,rfl,o,N,p⟩:=bY r1;have f:(M.atI s i).map (λt=>(m.kid,t))=Y w:=e;cases e1:M.atI s i with
  |none=>rw[e1] at f;cases f
  |some t=>rw[e1] at f;cases f;obtain⟨v,u,A⟩:=mP p e1;exact .inl ⟨a,g,i,v,rfl,r2,.inr o,u,bU D k<|A.mono F⟩
 | str z =>
  have f:(M.atI z.cps.toList i).map (λc=>((.d,.str ⟨#[c]⟩):W))=Y w:=e;cases e1:M.atI z.cps.toList i with
  |none=>rw[e1] at f;cases f
  |some c=>
   rw[e1] at f;cases f;refine .inr ⟨z,i,c,r1.1,r2,LIM_le<|jy r1.2,e1,ju k<|xM r1.2 ?_⟩;unfold M.atI at e1;cases e2:M.ixN z.cps.toList.length i with
   |none=>rw[e2] at e1;cases e1
   |some j=>rw[e2] at e1;exact Ms e1
 | scr l =>
  obtain⟨a,rfl,hL,o⟩:=r1;have f:(M.atI l i).map (λn=>((.d,.int n):W))=Y w:=e;cases e1:M.atI l i with
  |none=>rw[e1] at f;cases f
  | some n =>
   rw[e1] at f;cases f;refine .inl ⟨a,_,i,.int n,rfl,r2,.inl o.sq,?_,aS k⟩;unfold M.atI at e1;unfold L2.atI;rw[JF];cases e2:M.ixN l.length i with
   |none=>rw[e2] at e1;cases e1
   |some j=>rw[e2] at e1;rw[show L2.ixN l.length i=Y j from e2];show(l.map V.int)[j]?=_;rw[Ki,show l[j]?=Y n from e1];rfl
 |_=>cases e
theorem yD:Loc K 1 .len h λb H Q=>∃x n,b=[x]/\(match x with
  |.str y=>y.length<=sizeLine/\n=y.length
  |.byt y=>y.size<=sizeLine/\n=y.size
  |.ref p=>(∃b,SqL K H p b/\n=b.length)\/∃b,SqT K H p b/\n=b.length
  |_=>OS)/\Q (.int (n:O)) H:=by
 intro j w b Z H G Q g e r o s k
 match j,g with
 | [(m,a)],_ =>
  obtain⟨x,rfl,r1⟩:=br rfl r;cases a with
  |lst d=>obtain⟨a,b,hx,c,f,p⟩:=bx r1;cases e;refine⟨x,d.length,rfl,?_,aS k⟩;rw[show x=.ref a from hx];exact .inl ⟨b,.inl<|.inl c,p.length.symm⟩
  |tup d=>obtain⟨a,b,hx,c,f,p⟩:=bY r1;cases e;refine⟨x,d.length,rfl,?_,aS k⟩;rw[show x=.ref a from hx];exact .inr ⟨b,c,p.length.symm⟩
  |str z=>cases e;refine⟨x,z.length,rfl,?_,aS k⟩;rw[show x=.str z from r1.1];exact⟨LIM_le<|jy r1.2,rfl⟩
  |scr i=>obtain⟨a,hx,l,c⟩:=r1;cases e;refine⟨x,i.length,rfl,?_,aS k⟩;rw[show x=.ref a from hx];exact .inl ⟨_,c.sq,by rw[JF]⟩
  |_=>cases e
theorem mr {Z:Fp}{H:Hp}{G:Fp}{m:Md}:∀a:U I,RepL K Z H m (a.map T.int) (a.map V.int) G
|[]=>rfl
|n::a=>⟨.int n,a.map V.int,no,no,rfl,λ_ z=>z.elim,λ_ z=>z.elim,λ_ z=>z.elim,rfl,mr a⟩
theorem qP:Loc K 1 .list h λb H Q=>∃p i,b=[.ref p]/\(SqL K H p i\/SqT K H p i)/\∀l,H l=J->Q (.ref l) (upd H l<|.lst i):=by
 intro u w b Z H G Q o e r g j k
 match u,o with
 | [(m,a)],_ =>
  obtain⟨x,rfl,r1⟩:=br rfl r;cases a with
  |lst t=>obtain⟨a,b,hx,d,f,p⟩:=bx r1;refine⟨a,b,by rw[hx],.inl<|.inl<|.inl d,λq c=>dw g j f ⟨G,λ_ z=>z,p.zmono λ_ z=>.inl z⟩ e k c⟩
  |tup t=>obtain⟨a,b,hx,d,f,p⟩:=bY r1;refine⟨a,b,by rw[hx],.inr d,λq c=>dw g j f ⟨G,λ_ z=>z,p.zmono λ_ z=>.inl z⟩ e k c⟩
  |scr s=>obtain⟨a,hx,n,d⟩:=r1;cases e;refine⟨a,_,by rw[hx],.inl d.sq,λq c=>b6 (G':=no) g j (λ_ z=>z.elim) (by rw[JF];exact n) (mr s) (by simp) k c⟩
  |_=>cases e
theorem kL {Z:Fp}{H:Hp}{G:Fp}{m:Md}:∀{a:U T} {b:U I} {c:U V},intsOf a=Y b->RepL K Z H m a c G->c=b.map V.int:=by
 intro a;induction a generalizing G with
 |nil=>intro b c e r;cases e;exact r
 | cons t a d =>
  intro b c e r;obtain⟨x,k,g,j,rfl,_,_,_,p,q⟩:=r;cases t with
  | int i =>
   cases e1:intsOf a with
   |none=>simp[intsOf,e1] at e
   |some f=>
    have:b=i::f:=by simpa[intsOf,e1] using e.symm
    subst this;rw[JQ,<- d e1 q,show x=.int i from p]
  |_=>cases e
theorem y6:Loc K 1 .sum h λf H Q=>∃(a:OD) (b:U I),f=[.ref a]/\SqL K H a (b.map V.int)/\Q (.int b.sum) H:=by
 intro l w f Z H G Q j e r o s k
 match l,j with
 | [(m,a)],_ =>
  obtain⟨x,rfl,r1⟩:=br rfl r;cases a with
  | lst i =>
   obtain⟨a,f,hx,g,n,p⟩:=bx r1;have c:(intsOf i).map (λb=>((.d,.int b.sum):W))=Y w:=e;cases e1:intsOf i with
   |none=>rw[e1] at c;cases c
   |some b=>rw[e1] at c;cases c;rw[kL e1 p] at g;exact⟨a,b,by rw[hx],.inl<|.inl g,aS k⟩
  |_=>cases e
theorem yC:Loc K 2 .max h λc H Q=>∃i j,c=[.int i,.int j]/\Q (.int<|if j>i then j else i) H:=by
 intro f w c Z H G Q d e r o p k
 match f,d with
 |[(m,a),(n,b)],_=>obtain⟨x,y,hx⟩:∃x y,c=[x,y]:=cK (x:=()) (y:=())<|show c.length=[(),()].length from r.length;subst hx;obtain⟨g,l,_,_,_,r1,r2⟩:=bI r;cases a<;>first|(cases e;done)|(cases b<;>first|(cases e;exact⟨_,_,by rw[show x=_ from r1,show y=_ from r2],aS k⟩)|cases e)
theorem xh:Loc K 2 .min h λc H Q=>∃i j,c=[.int i,.int j]/\Q (.int<|if j<i then j else i) H:=by
 intro f w c Z H G Q d e r o p k
 match f,d with
 |[(m,a),(n,b)],_=>obtain⟨x,y,hx⟩:∃x y,c=[x,y]:=cK (x:=()) (y:=())<|show c.length=[(),()].length from r.length;subst hx;obtain⟨g,l,_,_,_,r1,r2⟩:=bI r;cases a<;>first|(cases e;done)|(cases b<;>first|(cases e;exact⟨_,_,by rw[show x=_ from r1,show y=_ from r2],aS k⟩)|cases e)
end
section
variable {K:Jw}{sl:Cf}{sf:O->L O}{C:Call}{σ:L2.St}{Z Z' Z1:Fp}{H H' H1:Hp}{Fs Fs' Fs1:Fps}{η η' η1:Env}{G G' R F:Fp}
mutual
theorem Rep.sany:∀{t:T} {v:V} {G G':Fp},Rep K Z H .s t v G->Rep K Z H .s t v G'
|.non,_,_,_,h=>h
|.bl _,_,_,_,h=>h
|.int _,_,_,_,h=>h
|.str _,_,_,_,h=>h
|.scr _,_,_,_,h=>h
|.tup ts,_,_,_,⟨a,xs,e,q,l,r⟩=>⟨a,xs,e,q,l,RepL.sany r⟩
|.lst ts,_,_,_,⟨a,xs,e,l,q,r⟩=>⟨a,xs,e,l,q,RepL.sany r⟩
|.dct _ _,_,_,_,⟨a,xs,e,l,q,n,hl,r⟩=>⟨a,xs,e,l,q,n,hl,r⟩
|.ins _ _ _,_,_,_,h=>h
|.gone,_,_,_,h=>h
theorem RepL.sany:∀{ts:U T} {xs:U V} {G G':Fp},RepL K Z H .s ts xs G->RepL K Z H .s ts xs G'
|[],_,_,_,h=>h
|t::ts,xs,_,_,⟨x,r,G1,G2,e,h1,h2,hd,p,q⟩=>⟨x,r,no,no,e,λ_ z=>z.elim,λ_ z=>z.elim,λ_ z=>z.elim,Rep.sany p,RepL.sany q⟩
end
theorem bG:∀(η:Env) (i j:O) (o:L W),rd (wr η i o) j=if j=i/\i < η.length then o else rd η j
|[],i,j,o=>by simp[wr,rd]
|p::η,0,0,o=>by simp[wr,rd]
|p::η,0,j+1,o=>by simp[wr,rd]
|p::η,i+1,0,o=>by simp[wr,rd]
|p::η,i+1,j+1,o=>by show rd (wr η i o) j=_;rw[bG η i j o];simp[rd]
theorem dW:∀{η:Env} {i:O} {w:W},rd η i=Y w->i < η.length
|[],_,_,h=>by cases h
|_::_,0,_,_=>by simp
|_::η,i+1,_,h=>by have:=dW (η:=η) (i:=i) h;simp;exact this
theorem fu (h:∀a,F a->G a):Step Z H G Z H F:=(Step.refl Z H G).mono (λ_ z=>z) h
theorem C0 {i j:O}(f:sf i=Y j)(σ:L2.St)(H:Hp)(Q:VK)(h:wE K sf C (.var i) σ H Q):i4 j σ H Q:=by
 obtain⟨l,Z,Fs,η,w,η',A,ev,k⟩:=h;obtain⟨n,e1,e2⟩:=aG<|show ret η ((rd η i).bind look)=_ from ev;cases e2;cases e3:rd η i with
 |none=>rw[e3] at e1;cases e1
 | some u =>
  rw[e3] at e1;obtain⟨m,t⟩:=u;obtain⟨v,r,g⟩:=A.env i m t e3;refine⟨v,g.1 j f,k v Z H Fs no A ?_<|fu λa e=>e.elim id λz=>z.elim⟩;cases m with
  |s=>cases e1;exact r.sany
  |d=>
   have b:(if t.leaf=Ju then Y (Md.d,t) else J)=Y w:=e1;split at b
   .rename_i c;cases b;exact r.leaf (λ_ _ _ q=>q) c
   .cases b
  |o m=>
   have b:(if t.leaf=Ju then Y (Md.d,t) else J)=Y w:=e1;split at b
   .rename_i c;cases b;exact r.leaf (λ_ _ _ q=>q) c
   .cases b
def Dn (Fs:Fps)(i:O):Fps:=λj a=>j≠i/\Fs j a
theorem C2 {e:E}{i j:O}(o:∀η,evE C e η=ret (del η i) (rd η i))(p:sf i=Y j)(σ:L2.St)(H:Hp)(Q:VK)(h:wE K sf C e σ H Q):i4 j σ H Q:=by
 obtain⟨N,Z,Fs,η,w,η',A,ev,k⟩:=h;rw[o] at ev;obtain⟨P,e1,e2⟩:=aG ev;cases e2;obtain⟨m,t⟩:=w;obtain⟨v,r,s⟩:=A.env i m t e1;refine⟨v,s.1 j p,k v Z H (Dn Fs i) (Fs i) ⟨⟨λa ⟨l,d,b⟩=>A.gd.own a ⟨l,b⟩,λl u a d b=>A.gd.dis l u a d.2 b.2,A.gd.zal⟩,λl x D e=>?_,λa c=>A.gd.own a ⟨i,c⟩,λa c ⟨l,d,b⟩=>d<|A.gd.dis l i a b c,A.lk,A.ln⟩ r<|fu λa c=>c.elim (λ⟨l,d,b⟩=>⟨l,b⟩) λz=>⟨i,z⟩⟩;rw[bG] at e;split at e
 .cases e
 .rename_i g;obtain⟨M,y,n⟩:=A.env l x D e;have f:l≠i:=λz=>g ⟨z,dW e1⟩;exact⟨M,y.mono λa c=>⟨f,c⟩,n⟩
theorem gC {t:T}{v:V}(c:∀{Z:Fp} {H:Hp},Rep K Z H .d t v no)(σ:L2.St)(H:Hp)(Q:VK)(h:wE K sf C (.cst t) σ H Q):tC v σ H Q:=by obtain⟨e,Z,Fs,η,w,η',A,ev,k⟩:=h;cases ev;exact k v Z H Fs no A c<|fu λa b=>b.elim id λz=>z.elim
theorem Am {b:U E}(j:b.length<=LIM)(σ:L2.St)(H:Hp)(Q:VK)(h:wE K sf C (.tup b) σ H Q):Hl (wL K sf C b) σ H Q:=by
 obtain⟨n,Z,Fs,η,w,η',A,ev,k⟩:=h;obtain⟨⟨e,η1⟩,c,i⟩:=ae<|show(evL C b η).bind vd=_ from ev;cases i;refine⟨n,Z,Fs,η,e,_,A,c,λo Z' H' Fs' G a r s=>?_⟩;have d:o.length<=LIM:=by rw[r.length,fX c];exact j
 obtain⟨G',f,g⟩:=RepW.to (λu l=>gx l) r;refine⟨LIM_le d,λp hp=>nA (m:=(gj e).up) a.own f d (by rw[gr];exact g) (bc a s k) hp⟩
theorem C4 {b:OF}{c:U E}(n:c.length<=LIM)(σ:L2.St)(H:Hp)(Q:VK)(h:wE K sf C (.lst b c) σ H Q):Hh (wL K sf C c) σ H Q:=by
 obtain⟨t,Z,Fs,η,w,η',A,ev,k⟩:=h;obtain⟨⟨j,η1⟩,g,l⟩:=ae<|show(evL C c η).bind (sr b)=_ from ev;cases l;refine⟨t,Z,Fs,η,j,_,A,g,λv Z' H' Fs' G a r s=>?_⟩;have f:v.length<=LIM:=by rw[r.length,fX g];exact n
 refine⟨LIM_le f,λp hp=>?_⟩;cases b with
 |true=>obtain⟨G',d,e⟩:=RepW.to (λu i=>gx i) r;exact b6 (m:=(gj j).up) a.own a.gd.zal d f (by rw[gr];exact e) (fG _) (bc a s k) hp
 |false=>obtain⟨G',d,e⟩:=RepW.to (N:=.s) (λu i=>by cases lf u.1 u.2<;>rfl) r;exact b6 (m:=.o .s) a.own a.gd.zal d f e (by simp) (bc a s k) hp
theorem Hx {e:E}{m:Md}(σ:L2.St)(H:Hp)(Q:VK)(h:wE K sf C (.wk m e) σ H Q):wE K sf C e σ H Q:=by
 obtain⟨o,Z,Fs,η,w,η',A,ev,k⟩:=h;obtain⟨⟨u,η1⟩,j,l⟩:=ae<|show(evE C e η).bind (kWk m)=_ from ev;obtain⟨p,e1,e2⟩:=aG<|show ret η1 (if m.le u.1 then Y (m,u.2) else J)=_ from l;cases e2;split at e1
 .rename_i c;cases e1;refine⟨o,Z,Fs,η,u,_,A,j,λv Z' H' Fs' G b r s=>?_⟩;obtain⟨G',d,i⟩:=r.weak c;refine bc b s k v (cI Z' G G') H' G' i (λa f=>?_) ⟨λ_ _ e _=>e,λa h=>.inl h,λa h=>h.imp id λq=>.inl q.1,λa h=>.inl (d a h),λ_ h=>h,λq a h=>?_⟩
  .obtain ⟨n,g,e⟩:=b.own a<|d a f;exact⟨λz=>z.elim n λq=>q.2 f,g,e⟩
  .rcases h with h | h
   .exact q a h
   .obtain ⟨_,g,e⟩:=b.own a h.1;rw[e];simp
 .cases e1
def wT (K:Jw)(sl:O->L O)(C:Call)(e:E):TT:=λσ H Q=>∃a Z Fs η w η' b,At K ⟨sl,a⟩ σ Z H Fs η no/\evE C e η=.ok (w,η')/\truth w.2=Y b /\
 ∀Z' H' Fs',At K ⟨sl,a⟩ σ Z' H' Fs' η' no->Step Z H (tot Fs) Z' H' (tot Fs')->Q b H'
def TrV (K:Jw)(x:V)(H:Hp)(k:OF):Prop:=
 match x with
 |.non=>k=Jt
 |.bl b=>k=b
 |.int i=>k=(i != 0)
 |.str y=>y.length<=sizeLine/\k=((y.length:I) != 0)
 |.ref p=>(∃a,SqL K H p a/\k=!a.isEmpty)\/(∃a,SqT K H p a/\k=!a.isEmpty)
 |_=>OS
theorem dA {c d:Type}{a:U c}{b:U d}(h:a.length=b.length):a.isEmpty=b.isEmpty:=by cases a<;>cases b<;>first|rfl|simp at h
theorem pO {m:Md}{t:T}{v:V}{b:OF}(e:truth t=Y b)(r:Rep K Z H m t v G):TrV K v H b:=by
 cases t with
 |non=>cases e;rw[show v=_ from r];rfl
 |bl c=>cases e;rw[show v=_ from r];rfl
 |int i=>cases e;rw[show v=_ from r];rfl
 |str x=>
  cases e;rw[show v=_ from r.1];refine⟨LIM_le<|jy r.2,?_⟩;show(x.cps.size != 0)=(((x.cps.size:O):I) != 0);cases x.cps.size with
  |zero=>rfl
  |succ n=>simp;lia
 |tup h=>obtain⟨a,f,rfl,d,g,p⟩:=bY r;cases e;exact .inr ⟨f,d,by rw[dA p.length]⟩
 |lst h=>obtain⟨a,f,rfl,d,g,p⟩:=bx r;cases e;exact .inl ⟨f,.inl<|.inl d,by rw[dA p.length]⟩
 |scr k=>obtain⟨a,rfl,j,d⟩:=r;cases e;exact .inl ⟨_,d.sq,by rw[dA<|JF ..]⟩
 |dct _ _=>cases e
 |ins _ _ _=>cases e
 |gone=>cases e
theorem mK {e:E}{w:W}{b:OF}{Q:OF->Hp->Prop}(A:At K sl σ Z H Fs η no)(ev:evE C e η=.ok (w,η'))(a:truth w.2=Y b)(k:∀Z' H' Fs',At K sl σ Z' H' Fs' η' no->Step Z H (tot Fs) Z' H' (tot Fs')->Q b H'):wT K sl.sl C e σ H Q:=⟨sl.pv,Z,Fs,η,w,η',b,A,ev,a,k⟩
theorem cc {a:Type}{f g:Env->Res a}{p:W×Env}{r:a}(h:onT f g p=.ok r):∃b,truth p.1.2=Y b/\(if b=Ju then f p.2 else g p.2)=.ok r:=by
 unfold onT at h;split at h
 .rename_i e;exact⟨Ju,e,h⟩
 .rename_i e;exact⟨Jt,e,h⟩
 .cases h
theorem BA {e:E}(σ:L2.St)(H:Hp)(Q:OF->Hp->Prop)(h:wT K sf C (.not e) σ H Q):FO (wT K sf C e) σ H Q:=by
 obtain⟨i,Z,Fs,η,w,η',b,A,ev,g,k⟩:=h;obtain⟨⟨u,η1⟩,a,f⟩:=ae<|show(evE C e η).bind rN=_ from ev;obtain⟨j,e1,e2⟩:=aG<|show ret η1 ((truth u.2).map λb=>((.d,.bl<|!b):W))=_ from f;cases e2;cases e3:truth u.2 with
 |none=>rw[e3] at e1;cases e1
 |some c=>
  rw[e3] at e1;cases e1;have:b=!c:=by cases g;rfl
  subst this;exact mK A a e3 k
theorem Bv {a b:E}(σ:L2.St)(H:Hp)(Q:OF->Hp->Prop)(h:wT K sf C (.and a b) σ H Q):Ej (wT K sf C a) (wT K sf C b) σ H Q:=by
 obtain⟨t,Z,Fs,η,w,η',c,A,ev,j,k⟩:=h;obtain⟨⟨u,η1⟩,p,r⟩:=ae<|show(evE C a η).bind (ud<|evE C b)=_ from ev;obtain⟨d,i,e⟩:=cc<|show onT (evE C b) (okW u) (u,η1)=_ from r;refine mK A p i λZ1 H1 Fs1 g l=>?_;cases d with
 |true=>rw[OG rfl] at e ⊢;exact mK g e j λo n f m s=>k o n f m<|l.trans s
 |false=>rw[OK Ka] at e ⊢;cases e;cases(i.symm.trans j);exact k Z1 H1 Fs1 g l
theorem EH {a b:E}(σ:L2.St)(H:Hp)(Q:OF->Hp->Prop)(h:wT K sf C (.or a b) σ H Q):tOr (wT K sf C a) (wT K sf C b) σ H Q:=by
 obtain⟨t,Z,Fs,η,w,η',c,A,ev,j,k⟩:=h;obtain⟨⟨u,η1⟩,p,r⟩:=ae<|show(evE C a η).bind (kOr<|evE C b)=_ from ev;obtain⟨d,i,e⟩:=cc<|show onT (okW u) (evE C b) (u,η1)=_ from r;refine mK A p i λZ1 H1 Fs1 g l=>?_;cases d with
 |false=>rw[OK Ka] at e ⊢;exact mK g e j λo n f m s=>k o n f m<|l.trans s
 |true=>rw[OG rfl] at e ⊢;cases e;cases(i.symm.trans j);exact k Z1 H1 Fs1 g l
theorem Ao {c a b:E}(σ:L2.St)(H:Hp)(Q:VK)(h:wE K sf C (.ifx c a b) σ H Q):tIf (wT K sf C c) (wE K sf C a) (wE K sf C b) σ H Q:=by
 obtain⟨i,Z,Fs,η,w,η',A,ev,k⟩:=h;obtain⟨⟨u,η1⟩,l,m⟩:=ae<|show(evE C c η).bind (onT (evE C a)<|evE C b)=_ from ev;obtain⟨d,n,f⟩:=cc m;refine mK A l n λZ1 H1 Fs1 g j=>?_;cases d with
 |true=>rw[OG rfl] at f ⊢;exact⟨i,Z1,Fs1,η1,w,η',g,f,λv Z' H' Fs' G e r s=>k v Z' H' Fs' G e r<|j.trans s⟩
 |false=>rw[OK Ka] at f ⊢;exact⟨i,Z1,Fs1,η1,w,η',g,f,λv Z' H' Fs' G e r s=>k v Z' H' Fs' G e r<|j.trans s⟩
end
section
variable {K:Jw}{sl:Cf}{sf:O->L O}{C:Call}{σ:L2.St}{Z Z' Z1:Fp}{H H' H1:Hp}{Fs Fs' Fs1:Fps}{η η' η1:Env}{G G' R F:Fp}
structure Wk (K:Jw)(J:It)(Z:Fp)(H0:Hp)(ts:U (U W)):Prop where
 go:∀H i,Stay Z H0 H->i<ts.length->J.go i H
 stop:∀H i,Stay Z H0 H->ts.length<=i->J.stop i H
 len:ts.length<=LIM
def vh (K:Jw)(a:It)(Z:Fp)(c:Hp)(b:U<|U W):Prop:=
 ∀H i x H',Stay Z c H->i<b.length->a.yld i H x H'->H'=H/\∃w,b[i]?=Y [w]/\Rep K Z H w.1 w.2 x no
def HU (K:Jw)(a:It)(Z:Fp)(d:Hp)(c:U<|U W):Prop:=
 ∀H i x H',Stay Z d H->i<c.length->a.yld i H x H'->∃p y z u w,x=.ref p/\(∀b o,H b=Y o->H' b=Y o)/\SqT K H' p [y,z]/\c[i]?=Y [u,w]/\Rep K Z H u.1 u.2 y no/\Rep K Z H w.1 w.2 z no
theorem kz (c:∀b o,H b=Y o->H' b=Y o):Stay Z H H':=by
 refine⟨λa o _ e=>c a o e,λa d e=>?_,λa o u e=>c a _ e⟩;rcases e with e|⟨u,e⟩
 .exact .inl (c a _ e)
 .exact .inr ⟨u,c a _ e⟩
theorem gw (b:∀a o,H a=Y o->H' a=Y o):Step Z H G Z H' G:=by
 have c:∀a,H a≠J->H' a≠none:=λa h=>by
  cases e:H a with
  |none=>exact OH e h
  |some o=>rw[b a o e];simp
 exact⟨λa o h _=>b a o h,λ_ h=>h,λ_ h=>.inl h,λ_ h=>.inl h,c,λz a h=>c a<|z a h⟩
theorem DI {p:OD}{o:HO}(hp:H p=J):∀b u,H b=Y u->upd H p o b=Y u:=λa u e=>by
 have:a≠p:=λq=>by subst q;rw[hp] at e;cases e
 rw[ag this];exact e
def Yld (K:Jw)(a:It)(Z:Fp)(b:Hp)(c:U<|U W):O->Prop
|1=>vh K a Z b c
|2=>HU K a Z b c
|_=>OS
def wI (K:Jw)(sl:O->L O)(C:Call)(n:O)(k:Ik)(b:U E):TI:=λσ H R=>∃d Z Fs η e η' c,At K ⟨sl,d⟩ σ Z H Fs η no/\evL C b η=.ok (e,η')/\bj k e=Y c /\
 ∀a Z' H' Fs',At K ⟨sl,d⟩ σ Z' H' Fs' η' no->Step Z H (tot Fs) Z' H' (tot Fs')->Wk K a Z' H' c->Yld K a Z' H' c n->R a H'
theorem At.freeze (A:At K sl σ Z H Fs η G):At K sl σ (λa=>Z a\/G a) H Fs η no:=by
 refine⟨⟨λa b=>⟨λz=>z.elim (A.gd.own a b).1 λq=>A.dis a q b,(A.gd.own a b).2⟩,A.gd.dis,λa h=>h.elim (A.gd.zal a) λq=>?_⟩,λi m t e=>?_,bO,λ_ z=>z.elim,A.lk,A.ln⟩
 .obtain ⟨_,c,e⟩:=A.own a q;rw[e];simp
 .obtain ⟨v,r,h⟩:=A.env i m t e;exact⟨v,r.zmono λa h=>.inl h,h⟩
theorem a7 (o:Own Z' H' G)(s:Step Z H F Z' H' λa=>F' a\/G a):Step Z H F (λa=>Z' a\/G a) H' F' where
 keep:=s.keep
 zm:=λa h=>.inl<|s.zm a h
 zn:=λa h=>h.elim (s.zn a) λq=>.inr<|s.fn a<|.inr q
 fn:=λa h=>s.fn a<|.inl h
 al:=s.al
 za:=λz a h=>h.elim (s.za z a) λq=>by obtain⟨_,b,e⟩:=o a q;rw[e];simp
theorem dJ {a:OD}{c:U V}{b:Hp}(s:Stay Z b H)(d:Z a)(h:b a=Y (.lst c)):SqL K H a c:=.inl<|.inl<|s.1 a _ d h
theorem vZ {a:OD}{c:U V}{b:U T}(k:c.length<=LIM)(f:Z a)(h:H a=Y (.lst c))(r:RepL K Z H .s b c no):Wk K (Itl K a) Z H (b.map λt=>[(.s,t)])/\vh K (Itl K a) Z H (b.map λt=>[(.s,t)]):=by
 have l:=r.length;refine⟨⟨λH' i s d=>?_,λH' i s d=>?_,by rw[JF];lia⟩,λH' i x g s d y=>?_⟩
 .rw [JF] at d;exact⟨c,c[i]'(by lia),dJ s f h,by simp⟩
 .rw [JF] at d;exact⟨c,dJ s f h,by lia⟩
 .rw [JF] at d;obtain⟨rfl,y⟩:=y;have hx:=y c<|dJ s f h;obtain⟨m,e,j⟩:=r.get (show b[i]?=Y b[i] by simp);rw[hx] at e;cases e;refine⟨rfl,(.s,b[i]),by rw[Ki,show b[i]?=Y b[i] by simp];rfl,j.keep s (λ_ z=>z) λ_ _ z=>z.elim⟩
theorem BG {a:OD}{c:U V}{b:U T}(j:c.length<=LIM)(h:SqT K H a c)(r:RepL K Z H .s b c no):Wk K (Itt K a) Z H (b.map λt=>[(.s,t)])/\vh K (Itt K a) Z H (b.map λt=>[(.s,t)]):=by
 have k:=r.length;refine⟨⟨λH' i s d=>?_,λH' i s d=>?_,by rw[JF];lia⟩,λH' i x f s d y=>?_⟩
 .rw [JF] at d;exact⟨c,c[i]'(by lia),s.sqt h,by simp⟩
 .rw [JF] at d;exact⟨c,s.sqt h,by lia⟩
 .rw [JF] at d;obtain⟨rfl,y⟩:=y;have hx:=y c<|s.sqt h;obtain⟨l,e,g⟩:=r.get (show b[i]?=Y b[i] by simp);rw[hx] at e;cases e;refine⟨rfl,(.s,b[i]),by rw[Ki,show b[i]?=Y b[i] by simp];rfl,g.keep s (λ_ z=>z) λ_ _ z=>z.elim⟩
theorem qT {lo:I}{n:O}(c:n<=LIM):Wk K (Itr lo n) Z H ((J6 n).map λ(k:O)=>[(.d,.int<|lo+k)])/\vh K (Itr lo n) Z H ((J6 n).map λ(k:O)=>[(.d,.int<|lo+k)]):=by refine⟨⟨λH' i s a=>by show i<n;simpa using a,λH' i s a=>by show n<=i;simpa using a,by simpa using c⟩,λH' i x b s a y=>?_⟩;obtain⟨rfl,rfl⟩:=y;refine⟨rfl,(.d,.int<|lo+i),?_,rfl⟩;rw[JF,MX] at a;rw[Ki,List.getElem?_range a];rfl
theorem lR {a:OD}{c:U I}{b:Hp}(s:Stay Z b H)(h:ScrR K b a c):SqL K H a (c.map V.int):=(h.keep s.2.2).sq
theorem Bh {a:OD}{b:U I}(f:b.length<=LIM)(h:ScrR K H a b):Wk K (Itl K a) Z H (b.map λn=>[(.d,.int n)])/\vh K (Itl K a) Z H (b.map λn=>[(.d,.int n)]):=by
 refine⟨⟨λH' i s c=>?_,λH' i s c=>?_,by rw[JF];exact f⟩,λH' i x e s c y=>?_⟩
 .rw [JF] at c;exact⟨_,(b.map V.int)[i]'(by rw[JF];exact c),lR s h,by simp⟩
 .rw [JF] at c;exact⟨_,lR s h,by rw[JF];exact c⟩
 .rw [JF] at c;obtain⟨rfl,y⟩:=y;have hx:=y _<|lR s h;refine⟨rfl,(.d,.int b[i]),by rw[Ki,show b[i]?=Y b[i] by simp];rfl,?_⟩;rw[Ki,show b[i]?=Y b[i] by simp] at hx;exact(Kg hx).symm
theorem DJ {e:E}(σ:L2.St)(H:Hp)(R:It->Hp->Prop)(h:wI K sf C 1 .seq [e] σ H R):rM K (wE K sf C e) σ H R\/Ed K (wE K sf C e) σ H R:=by
 obtain⟨g,Z,Fs,η,w,η',t,A,ev,f,k⟩:=h;obtain⟨⟨m,a⟩,η1,u,e1,e2,rfl⟩:=ay ev;cases e2;cases a with
 |lst i=>cases f;refine .inl ⟨g,Z,Fs,η,_,_,A,e1,λv Z' H' Fs' G b r s=>?_⟩;obtain⟨a,j,rfl,l,q,p⟩:=Rep.sh r;obtain⟨c,d⟩:=vZ l q.1 q.2 p.sany;exact⟨a,rfl,⟨j,.inl<|.inl q.2⟩,k _ _ H' Fs' b.freeze (a7 b.own s) c d⟩
 |tup i=>cases f;refine .inr ⟨g,Z,Fs,η,_,_,A,e1,λv Z' H' Fs' G b r s=>?_⟩;obtain⟨a,j,rfl,q,l,p⟩:=Rep.sh r;obtain⟨c,d⟩:=BG l q p.sany;exact⟨a,rfl,⟨j,q⟩,k _ _ H' Fs' b.freeze (a7 b.own s) c d⟩
 |scr o=>cases f;refine .inl ⟨g,Z,Fs,η,_,_,A,e1,λv Z' H' Fs' G b r s=>?_⟩;obtain⟨a,rfl,n,q⟩:=r;obtain⟨c,d⟩:=Bh (Z:=λa=>Z' a\/G a) n q;exact⟨a,rfl,⟨_,q.sq⟩,k _ _ H' Fs' b.freeze (a7 b.own s) c d⟩
 |_=>cases f
theorem p62:(2:I) ^ 62=4611686018427387904:=by decide
theorem zi {e:E}(σ:L2.St)(H:Hp)(R:It->Hp->Prop)(h:wI K sf C 1 .rng [e] σ H R):zr (wL K sf C [e]) σ H R:=by
 obtain⟨j,Z,Fs,η,l,η',o,A,ev,c,k⟩:=h;refine⟨j,Z,Fs,η,l,η',A,ev,λt Z' H' Fs' G b r s=>?_⟩;obtain⟨⟨m,a⟩,η1,p,e1,e2,rfl⟩:=ay ev;cases e2;obtain⟨x,rfl,r1⟩:=br rfl r;cases a with
 | int n =>
  rw[lW] at c;split at c
  .rename_i d;rw[JM,OP] at d;cases c;refine⟨n,by rw[show x=_ from r1],by rw[p62];lia,by rw[p62];lia,?_⟩;obtain⟨f,g⟩:=qT (K:=K) (Z:=λa=>Z' a\/G a) (H:=H') (lo:=0) (n:=n.toNat) (cH d.2);have i:∀k:O,(0:I)+(k:I)=k:=λk=>by lia
   simp only[i] at f g;exact k _ _ H' Fs' b.freeze (a7 b.own s) f g
  .cases c
 |_=>cases c
theorem wU {e l:E}(σ:L2.St)(H:Hp)(R:It->Hp->Prop)(h:wI K sf C 1 .rng [e,l] σ H R):Ab (wL K sf C [e,l]) σ H R:=by
 obtain⟨u,Z,Fs,η,M,η',v,A,ev,g,k⟩:=h;refine⟨u,Z,Fs,η,M,η',A,ev,λp Z' H' Fs' G c r s=>?_⟩;obtain⟨⟨m,a⟩,η1,w,e1,e2,rfl⟩:=ay ev;obtain⟨⟨n,b⟩,N,w,e3,t,rfl⟩:=ay e2;cases t;obtain⟨x,y,hx⟩:∃x y,p=[x,y]:=cK (x:=()) (y:=())<|show p.length=[(),()].length from r.length;subst hx;obtain⟨P,Q,_,_,_,r1,r2⟩:=bI r;cases a with
 | int i =>
  cases b with
  | int j =>
   have f:(if decide (i.natAbs<4611686018427387904)&&decide (j.natAbs<4611686018427387904)&&fits (j-i).toNat then Y ((J6 (j-i).toNat).map λ(k:O)=>[((.d,.int (i+k)):W)]) else J)=Y v:=g;split at f
   .rename_i o;rw[JM,JM,OP,OP] at o;cases f;refine⟨i,j,by rw[show x=_ from r1,show y=_ from r2],by rw[p62];lia,?_⟩;obtain⟨z,D⟩:=qT (K:=K) (Z:=λa=>Z' a\/G a) (H:=H') (lo:=i) (n:=(j-i).toNat)<|cH o.2;exact k _ _ H' Fs' c.freeze (a7 c.own s) z D
   .cases f
  |_=>cases g
 |_=>cases b<;>cases g
theorem iL {m:Md}:∀{ts:U T} {n i:O} {t:T},ts[i]?=Y t->(gE m n ts)[i]?=Y [(.d,.int ((n+i:O):I)),(m,t)]
|t::ts,n,0,_,h=>by cases h;rfl
|t::ts,n,i+1,_,h=>by have:=iL (m:=m) (ts:=ts) (n:=n+1) (i:=i) h;rw[show n+1+i=n+(i+1) by lia] at this;exact this
|[],_,_,_,h=>by simp at h
theorem cW {m:Md}:∀{a:U T} {n:O},(gE m n a).length=a.length
|[],_=>rfl
|t::a,n=>by show(gE m (n+1) a).length+1=a.length+1;rw[cW]
theorem dX:∀{ts:U T} {ps:U<|U W} {i:O} {t:T},pairsT ts=Y ps->ts[i]?=Y t->∃x y,t=.tup [x,y]/\ps[i]?=Y [(.s,x),(.s,y)]
|[],_,_,_,_,h=>by simp at h
| u::ts,ps,i,t,e,h=>by
 match u,e with
 | .tup [x,y],e =>
  have a:(pairsT ts).map ([(.s,x),(.s,y)]::·)=Y ps:=e;cases e1:pairsT ts with
  |none=>rw[e1] at a;cases a
  |some b=>
   rw[e1] at a;cases a;cases i with
   |zero=>cases h;exact⟨x,y,rfl,rfl⟩
   |succ i=>exact dX (ts:=ts) (ps:=b) (i:=i) e1 h
theorem d0:∀{a:U T} {ps:U<|U W},pairsT a=Y ps->ps.length=a.length
|[],_,e=>by cases e;rfl
| u::a,ps,e=>by
 match u,e with
 | .tup [x,y],e =>
  have b:(pairsT a).map ([(.s,x),(.s,y)]::·)=Y ps:=e;cases e1:pairsT a with
  |none=>rw[e1] at b;cases b
  |some c=>rw[e1] at b;cases b;rw[JY,JY,d0 e1]
theorem DP {e:E}(σ:L2.St)(H:Hp)(R:It->Hp->Prop)(h:wI K sf C 2 .sq2 [e] σ H R):rM K (wE K sf C e) σ H R:=by
 obtain⟨pv,Z,Fs,η,ws,η',ts,A,ev,M,k⟩:=h;obtain⟨⟨m,a⟩,η1,us,e1,e2,rfl⟩:=ay ev;cases e2;obtain⟨f,rfl⟩:∃f,a=.lst f:=by cases a<;>first|exact⟨_,rfl⟩|cases M
 have g:pairsT f=Y ts:=M;have D:=d0 g;refine⟨pv,Z,Fs,η,_,_,A,e1,λv Z' H' Fs' G b r s=>?_⟩;obtain⟨a,n,rfl,l,q,p⟩:=Rep.sh r;have hl:=p.length;refine⟨a,rfl,⟨n,.inl<|.inl q.2⟩,k _ _ H' Fs' b.freeze (a7 b.own s) ⟨λo i s t=>?_,λo i s t=>?_,by lia⟩ λo i x H1 s t y=>?_⟩
 .exact⟨n,n[i]'(by lia),dJ s q.1 q.2,by simp⟩
 .exact⟨n,dJ s q.1 q.2,by lia⟩
 .obtain ⟨rfl,y⟩:=y;have hx:=y n (dJ s q.1 q.2);have hi':i<f.length:=by lia
  obtain⟨x',j,N⟩:=p.get (show f[i]?=Y f[i] by simp);rw[hx] at j;cases j;obtain⟨u,w,P,Q⟩:=dX g (show f[i]?=Y f[i] by simp);rw[P] at N;obtain⟨c,ys,rfl,hq,_,y1,r1,G1,G2,rfl,g1,g2,d,p1,y2,r2,G3,G4,e2,g3,g4,d2,p2,q2⟩:=N;cases e2;obtain rfl:r2=[]:=q2;refine⟨c,y1,y2,(.s,u),(.s,w),rfl,λ_ _ e=>e,s.sqt hq,Q,(p1.mono (G':=no) λa h=>(g1 a h).1).sany.keep s (λ_ z=>z) λ_ _ z=>z.elim,(p2.mono (G':=no) λa h=>(g2 a<|g3 a h).1).sany.keep s (λ_ z=>z) λ_ _ z=>z.elim⟩
end
section
variable {K:Jw}{sl:Cf}{sf sg:O->L O}{C:Call}{σ σ2:L2.St}{Z Z' Z1:Fp}{H H' H1:Hp}{Fs Fs' Fs1:Fps}{η η' η1:Env}{G G' R F:Fp}{tg is:U O}{pv val:O->L V}
theorem aP:∀(tg:U O) (η:Env) (i:O),rd (aB tg η) i=if i∈tg then J else rd η i
|[],η,i=>by simp[aB]
| t::tg,η,i=>by
 show rd (aB tg<|wr η t J) i=_;rw[aP tg,bG];by_cases a:i∈tg
 .simp[a]
 .by_cases b:i=t
  .subst b;rw[OK a,OG JJ];split
   .rfl
   .rename_i c;cases e:rd η i with
    |none=>rfl
    |some w=>exact OH ⟨rfl,dW e⟩ c
  .rw[OK a,OK (show¬i∈t::tg by simp[a,b]),OK<|show¬(i=t/\t < η.length) fromλh=>b h.1]
def Nn (η η':Env):Prop:=∀i,rd η i=J->rd η' i=J
theorem Nn.refl (η:Env):Nn η η:=λ_ h=>h
theorem Nn.trans {a b c:Env}(h:Nn a b)(k:Nn b c):Nn a c:=λi e=>k i<|h i e
theorem lN (η:Env)(j:O):Nn η (del η j):=λi e=>by
 rw[bG];split
 .rfl
 .exact e
theorem qV {η:Env}{j:O}{w:W}(h:rd η j≠J):Nn η (put η j w):=λi e=>by
 rw[bG];split
 .rename_i a;rw[<- a.1] at h;exact OH e h
 .exact e
theorem iK:∀{is:U O} {b:U W} {a η:Env},(∀i∈is,rd a i≠J)->Nn a η->Nn a (putAll is b η)
|[],_,_,_,_,h=>h
|_::_,[],_,_,_,h=>h
|i::is,w::b,a,η,c,h=>by
 show Nn a<|putAll is b<|put η i w;refine iK (λj f=>c j<|JW _ f) λj e=>?_;rw[bG];split
 .rename_i d;rw[d.1] at e;exact OH e<|c i JJ
 .exact h j e
theorem gz {f:Env->Res (L W×Env)}(l:∀{η o η'},f η=.ok (o,η')->Nn η η'):∀{g:U<|U W} {η η':Env} {a k:U W},(∀i∈tg,rd η i=J)->aM tg f g η a=.ok (k,η')->Nn η η'
|[],η,η',a,k,_,h=>by cases h;exact Nn.refl _
| t::g,η,η',a,k,x,h=>by
 obtain⟨η1,m,n⟩:=ae<|show(ofO<|aQ tg t η).bind (λη1=>(f η1).bind λp=>aM tg f g (aB tg p.2)<|a++p.1.toList)=_ from h;obtain⟨⟨o,d⟩,r,s⟩:=ae n
 have u:∀{tg:U O} {t:U W} {η η1:Env},aQ tg t η=Y η1->∀i,i ∉ tg->rd η1 i=rd η i:=λ{tg}=>by
  induction tg with
  |nil=>intro t η η1 h i c;cases t with
   |nil=>cases h;rfl
   |cons _ _=>cases h
  | cons j tg v=>intro t η η1 h i c; cases t with
   |nil=>cases h
   |cons w t=>have:=v (show aQ tg t (put η j w)=Y η1 from h) i λz=>c<|JW _ z;rw[this,bG,OK λz=>c<|by rw[z.1];exact JJ]
 have e1:=u<|cG m
 have hd:∀i,rd η i=J->rd (aB tg d) i=none:=λi e=>by
  rw[aP];split
  .rfl
  .rename_i c;exact l r i<|by rw[e1 i c];exact e
 exact Nn.trans (b:=aB tg d) hd<|gz l (λi c=>by rw[aP,OG c]) s
def hE (sf sg:O->L O)(tg:U O)(is:U O):Prop:=
 ∀i j,sg i=Y j->(∃k:O,tg[k]?=Y i/\j=k)\/(i ∉ tg/\∃(k a:O),j=tg.length+k/\is[k]?=Y a/\sf i=Y a)
theorem At.pin (A:At K ⟨sf,pv⟩ σ Z H Fs η G):∃val,(∀i u,pv i=Y u->val i=Y u)/\At K ⟨sf,val⟩ σ Z H Fs η G/\∀i m t,rd η i=Y (m,t)->val i≠none:=by
 have ch:∀i,∃o:L V,(∀u,pv i=Y u->o=Y u)/\(∀u j,o=Y u->sf i=Y j->σ[j]?=Y (Y u))/\∀m t,rd η i=Y (m,t)->∃v,o=Y v/\Rep K Z H m t v (Fs i)/\(∀j,sf i=Y j->σ[j]?=Y (Y v)):=λi=>by
  cases e:rd η i with
  |none=>exact⟨pv i,λ_ h=>h,λu j h c=>A.lk i u j h c,λ_ _ h=>by cases h⟩
  |some w=>obtain⟨m,t⟩:=w;obtain⟨v,r,b,d⟩:=A.env i m t e;refine⟨Y v,λu h=>by rw[d u h],λu j h c=>?_,λg k h=>by cases h;exact⟨v,rfl,r,b⟩⟩;cases h;exact b j c
 obtain⟨val,a⟩:=Classical.axiomOfChoice ch;refine⟨val,λi u h=>(a i).1 u h,⟨A.gd,λi m t e=>?_,A.own,A.dis,λi u j h c=>(a i).2.1 u j h c,A.ln⟩,λi m t e=>?_⟩
 .obtain ⟨v,b,r,d⟩:=(a i).2.2 m t e;exact⟨v,r,d,λu f=>by rw[show val i=Y u from f] at b;cases b;rfl⟩
 .obtain ⟨v,b,r,d⟩:=(a i).2.2 m t e;rw[b];simp
theorem At.unpin (h:∀i u,pv i=Y u->val i=Y u)(A:At K ⟨sf,val⟩ σ Z H Fs η G):At K ⟨sf,pv⟩ σ Z H Fs η G:=
 ⟨A.gd,λi m t e=>let ⟨v,r,b,c⟩:=A.env i m t e;⟨v,r,b,λu a=>c u<|h i u a⟩,A.own,A.dis,λi u j a d=>A.lk i u j (h i u a) d,A.ln⟩
noncomputable def inV (val:O->L V)(tg:U O):O->L V:=λi=>if i∈tg then J else val i
theorem At.into (a:hE sf sg tg is)(x:∀i∈tg,rd η i=J)(l:∀(k c:O) (v:V),is[k]?=Y c->σ[c]?=Y (Y v)->σ2[tg.length+k]?=Y (Y v))(w:∀i j,sg i=Y j->j < σ2.length)(A:At K ⟨sf,val⟩ σ Z H Fs η G):At K ⟨sg,inV val tg⟩ σ2 Z H Fs η G:=by
 refine⟨A.gd,λi m t e=>?_,A.own,A.dis,λi u j n g=>?_,w⟩
 .have f:i ∉ tg:=fun h=>by rw [x i h] at e; cases e
  obtain⟨v,r,o,p⟩:=A.env i m t e;refine⟨v,r,λj s=>?_,λu n=>p u (by have d:inV val tg i=Y u:=n;unfold inV at d;rw[OK f] at d;exact d)⟩;rcases a i j s with⟨k,hk,_⟩|⟨_,k,c,rfl,hk,g⟩
  .exact OH (Ms hk) f
  .exact l k c v hk (o c g)
 .have f:i ∉ tg:=fun h=>by have b:inV val tg i=Y u:=n;unfold inV at b;rw[OG h] at b;cases b
  have b:val i=Y u:=by have d:inV val tg i=Y u:=n;unfold inV at d;rw[OK f] at d;exact d
  rcases a i j g with⟨k,hk,_⟩|⟨_,k,c,rfl,hk,g⟩
  .exact OH (Ms hk) f
  .exact l k c u hk (A.lk i u c b g)
theorem At.outof (g:∀i∈tg,rd η i=J)(k:∀i m t,rd η i=Y (m,t)->val i≠J)(lk:∀i u j,val i=Y u->sf i=Y j->σ[j]?=Y (Y u))(l:∀i j,sf i=Y j->j < σ.length)(A:At K ⟨sg,inV val tg⟩ σ2 Z H Fs η G):At K ⟨sf,val⟩ σ Z H Fs η G:=by
 refine⟨A.gd,λi m t e=>?_,A.own,A.dis,lk,l⟩;have d:i ∉ tg:=λh=>by rw[g i h] at e;cases e
 obtain⟨v,r,o,c⟩:=A.env i m t e;cases a:val i with
 |none=>exact OH a<|k i m t e
 |some u=>have:v=u:=c u (by show inV val tg i=Y u;unfold inV;rw[OK d];exact a);subst this;exact⟨v,r,λj f=>lk i v j a f,λn b=>by rw[show val i=Y n from b] at a;cases a;rfl⟩
end
section
variable {C:Call}
theorem hU:∀(c:U O) (a:Env),Nn a<|M.share c a
|[],a=>λ_ e=>e
| v::c,a=>Nn.trans (b:=wr a v (toS (rd a v))) (fun i e=>by
  rw[bG];split
  .rename_i d;rw[<- d.1,e];rfl
  .exact e) (hU c _)
theorem sP (m:Md)(b:U O)(a:Env):Nn a (after m b a):=by
 cases m with
 |d=>exactλ_ e=>e
 |s=>exact hU b a
 |o _=>exact hU b a
theorem kF {b:Type}{tab:U<|Str×b}{f:b->Env->RE}{p:W×Env}{r:W×Env}(h:kTab tab f p=.ok r):∃x a,p.1.2=.str x/\tab.lookup x=Y a/\f a p.2=.ok r:=by
 unfold kTab at h;split at h
 .rename_i x hx;split at h
  .rename_i a c;exact⟨x,a,hx,c,h⟩
  .cases h
 .cases h
theorem jr {a:OF}{b:U Str}{p r:W×Env}(h:kIn a b p=.ok r):∃x,p.1.2=.str x/\r.2=p.2/\r.1=(.d,.bl<|b.contains x != a):=by
 unfold kIn at h;split at h
 .rename_i x hx;cases h;exact⟨x,hx,rfl,rfl⟩
 .cases h
theorem lh {tab:U<|Str×T}{p r:W×Env}(h:kGet tab p=.ok r):∃x,p.1.2=.str x/\r.2=p.2/\r.1=(.s,(tab.lookup x).getD .non):=by
 unfold kGet at h;split at h
 .rename_i x hx;cases h;exact⟨x,hx,rfl,rfl⟩
 .cases h
mutual
theorem aH:∀(e:E) {η η':Env} {w:W},evE C e η=.ok (w,η')->Nn η η'
|.var i,η,η',w,h=>by obtain⟨_,_,e⟩:=aG<|show ret η ((rd η i).bind look)=_ from h;cases e;exact Nn.refl _
|.mv i,η,η',w,h=>by obtain⟨_,_,e⟩:=aG<|show ret (del η i) (rd η i)=_ from h;cases e;exact lN _ _
|.io i,η,η',w,h=>by obtain⟨_,_,e⟩:=aG<|show ret (del η i) (rd η i)=_ from h;cases e;exact lN _ _
|.cst t,η,η',w,h=>by cases h;exact Nn.refl _
|.tup es,η,η',w,h=>by obtain⟨⟨ws,η1⟩,h1,h2⟩:=ae<|show(evL C es η).bind vd=_ from h;cases h2;exact dZ es h1
|.lst b es,η,η',w,h=>by obtain⟨⟨ws,η1⟩,h1,h2⟩:=ae<|show(evL C es η).bind (sr b)=_ from h;cases h2;exact dZ es h1
|.wk m e,η,η',w,h=>by obtain⟨⟨u,η1⟩,h1,h2⟩:=ae<|show(evE C e η).bind (kWk m)=_ from h;obtain⟨_,_,e3⟩:=aG<|show ret η1 _=_ from h2;cases e3;exact aH e h1
|.op o b es,η,η',w,h=>by obtain⟨ws,h1,h2⟩:=bW h;exact dZ es h1
|.and a b,η,η',w,h=>by
 obtain⟨⟨u,η1⟩,h1,h2⟩:=ae<|show(evE C a η).bind (ud<|evE C b)=_ from h;obtain⟨d,h3,h4⟩:=cc<|show onT (evE C b) (okW u) (u,η1)=_ from h2;cases d with
 |true=>rw[OG rfl] at h4;exact(aH a h1).trans<|aH b h4
 |false=>rw[OK Ka] at h4;cases h4;exact aH a h1
|.or a b,η,η',w,h=>by
 obtain⟨⟨u,η1⟩,h1,h2⟩:=ae<|show(evE C a η).bind (kOr<|evE C b)=_ from h;obtain⟨d,h3,h4⟩:=cc<|show onT (okW u) (evE C b) (u,η1)=_ from h2;cases d with
 |false=>rw[OK Ka] at h4;exact(aH a h1).trans<|aH b h4
 |true=>rw[OG rfl] at h4;cases h4;exact aH a h1
|.not a,η,η',w,h=>by obtain⟨⟨u,η1⟩,h1,h2⟩:=ae<|show(evE C a η).bind rN=_ from h;obtain⟨_,_,e3⟩:=aG<|show ret η1 _=_ from h2;cases e3;exact aH a h1
|.ifx c a b,η,η',w,h=>by
 obtain⟨⟨u,η1⟩,h1,h2⟩:=ae<|show(evE C c η).bind (onT (evE C a)<|evE C b)=_ from h;obtain⟨d,h3,h4⟩:=cc h2;cases d with
 |true=>rw[OG rfl] at h4;exact(aH c h1).trans<|aH a h4
 |false=>rw[OK Ka] at h4;exact(aH c h1).trans<|aH b h4
|.call f es,η,η',w,h=>by obtain⟨⟨ws,η1⟩,h1,h2⟩:=ae<|show(evA C es η).bind (kA C f<|ios es)=_ from h;obtain⟨⟨u,us⟩,h3,h4⟩:=ae<|show(C f ws).bind (oq (ios es) η1)=_ from h2;cases h4;exact iK (jQ es h1)<|gL es h1
|.comp b k src tg J elt,η,η',w,h=>by obtain⟨⟨ws,η1⟩,h1,h2⟩:=ae<|show(evL C src η).bind (er b k tg<|dr<|evE C elt)=_ from h;obtain⟨⟨ts,η2⟩,h3,h4⟩:=ae<|show(ret (aB tg η1)<|bj k ws).bind (λt=>(aM tg (dr<|evE C elt) t.1 t.2 []).bind<|lx b)=_ from h2;obtain⟨_,_,e3⟩:=aG h3;have e4:η2=aB tg η1:=OQ Lm e3;subst e4;obtain⟨⟨us,η3⟩,h5,h6⟩:=ae<|show(aM tg (dr<|evE C elt) ts (aB tg η1) []).bind (lx b)=_ from h4;obtain⟨_,_,e6⟩:=aG<|show ret η3 _=_ from h6;have e7:η'=η3:=OQ Lm e6;subst e7;refine(dZ src h1).trans<|Nn.trans (b:=aB tg η1) (λi e=>by rw[aP];split<;>first|rfl|exact e)<|gz (λ{η o η'} hf=>?_) (λi hi=>by rw[aP,OG hi]) h5;obtain⟨⟨u,η4⟩,h7,h8⟩:=ae<|show(evE C elt η).bind fI=_ from hf;cases h8;exact aH elt h7
| .comp b k src tg (Y c) elt,η,η',w,h=>by
 obtain⟨⟨ws,η1⟩,h1,h2⟩:=ae<|show(evL C src η).bind (er b k tg<|ir (evE C c)<|evE C elt)=_ from h;obtain⟨⟨ts,η2⟩,h3,h4⟩:=ae<|show(ret (aB tg η1)<|bj k ws).bind (λt=>(aM tg (ir (evE C c)<|evE C elt) t.1 t.2 []).bind<|lx b)=_ from h2;obtain⟨_,_,e3⟩:=aG h3;have e4:η2=aB tg η1:=OQ Lm e3;subst e4;obtain⟨⟨us,η3⟩,h5,h6⟩:=ae<|show(aM tg (ir (evE C c)<|evE C elt) ts (aB tg η1) []).bind (lx b)=_ from h4;obtain⟨_,_,e6⟩:=aG<|show ret η3 _=_ from h6;have e7:η'=η3:=OQ Lm e6;subst e7;refine(dZ src h1).trans<|Nn.trans (b:=aB tg η1) (λi e=>by rw[aP];split<;>first|rfl|exact e)<|gz (λ{η o η'} hf=>?_) (λi hi=>by rw[aP,OG hi]) h5;obtain⟨⟨u,η4⟩,h7,h8⟩:=ae<|show(evE C c η).bind (onT (dr<|evE C elt)<|okW J)=_ from hf;obtain⟨d,h9,h10⟩:=cc h8;cases d with
 |true=>rw[OG rfl] at h10;obtain⟨⟨u2,η5⟩,h11,h12⟩:=ae<|show(evE C elt η4).bind fI=_ from h10;cases h12;exact(aH c h7).trans<|aH elt h11
 |false=>rw[OK Ka] at h10;cases h10;exact aH c h7
|.pop i es,η,η',w,h=>by obtain⟨_,_,h0⟩:=ae<|show(chkL<|rd η i).bind (k9 (evL C es) η<|pq i)=_ from h;obtain⟨⟨ws,η1⟩,h1,h2⟩:=ae<|show(evL C es η).bind (pq i)=_ from h0;obtain⟨r,h3,h4⟩:=ae<|show(ofO<|(rd η1 i).bind λw=>jY w ws).bind (λr=>.ok (r.1,put η1 i r.2))=_ from h2;cases h4;refine(dZ es h1).trans<|qV ?_;have:=cG h3;intro e;rw[e] at this;cases this
|.lenV i,η,η',w,h=>by obtain⟨_,_,e⟩:=aG<|show ret η ((rd η i).bind λw=>oSem .len Jt [w])=_ from h;cases e;exact Nn.refl _
|.ixQ i e,η,η',w,h=>by obtain⟨_,_,h0⟩:=ae<|show(chkL<|rd η i).bind (kPopN0 (evE C e) η<|kIxQ i)=_ from h;obtain⟨⟨u,η1⟩,h1,h2⟩:=ae<|show(evE C e η).bind (kIxQ i)=_ from h0;obtain⟨_,_,e2⟩:=aG<|show ret η1 (ixVT (rd η1 i)<|Y u)=_ from h2;cases e2;exact aH e h1
|.qx vs ls e,η,η',w,h=>by obtain⟨⟨u,η1⟩,h1,h2⟩:=ae<|show(evE C e<|pick vs ls η).bind (kX vs η)=_ from h;cases h2;exact sP _ vs η
|.sdf i j k,η,η',w,h=>by obtain⟨r,h1,h2⟩:=ae<|show(ofO<|sdfT (rd η i) (rd η j)<|rd η k).bind (kSdf i η)=_ from h;cases h2;refine qV λe=>?_;have:=cG h1;rw[e] at this;cases this
|.inT neg ks e,η,η',w,h=>by obtain⟨⟨u,η1⟩,h1,h2⟩:=ae<|show(evE C e η).bind (kIn neg ks)=_ from h;obtain⟨x,_,e2,_⟩:=jr h2;cases e2;exact aH e h1
|.ixT tab e,η,η',w,h=>by obtain⟨⟨u,η1⟩,h1,h2⟩:=ae<|show(evE C e η).bind (kTab tab okS)=_ from h;obtain⟨x,j,_,_,h3⟩:=kF h2;cases h3;exact aH e h1
|.getT tab e,η,η',w,h=>by obtain⟨⟨u,η1⟩,h1,h2⟩:=ae<|show(evE C e η).bind (kGet tab)=_ from h;obtain⟨x,_,e2,_⟩:=lh h2;cases e2;exact aH e h1
theorem dZ:∀(es:U E) {η η':Env} {ws:U W},evL C es η=.ok (ws,η')->Nn η η'
|[],η,η',ws,h=>by cases h;exact Nn.refl _
|e::es,η,η',ws,h=>by obtain⟨w,η1,us,h1,h2,_⟩:=ay h;exact(aH e h1).trans<|dZ es h2
theorem gL:∀(es:U E) {η η':Env} {ws:U W},evA C es η=.ok (ws,η')->Nn η η'
|[],η,η',ws,h=>by cases h;exact Nn.refl _
| e::es,η,η',ws,h=>by
 rcases Fe e with⟨i,hi⟩|he
 .subst hi;obtain⟨us,η1,w,h1,_,_,h4⟩:=i5 h;rw[h4];exact(gL es h1).trans<|lN _ _
 .obtain ⟨w,η1,us,h1,h2,_⟩:=gJ he h;exact(aH e h1).trans<|gL es h2
theorem jQ:∀(es:U E) {η η':Env} {ws:U W},evA C es η=.ok (ws,η')->∀i∈ios es,rd η i≠J
|[],_,_,_,_,i,hi=>by simp[ios] at hi
| e::es,η,η',ws,h,i,hi=>by
 rcases Fe e with⟨j,hj⟩|he
 .subst hj;obtain⟨us,η1,w,h1,h2,_,_⟩:=i5 h;rcases JX.mp (show i∈j::ios es from hi) with z|z
  .subst z;exactλz=>by rw[gL es h1 i z] at h2;cases h2
  .exact jQ es h1 i z
 .obtain ⟨w,η1,us,h1,h2,_⟩:=gJ he h
  have hi':i∈ios es:=by
   cases e with
   |io j=>exact OH rfl (he j)
   |_=>exact hi
  exactλz=>jQ es h2 i hi'<|aH e h1 i z
end
end
section
variable {K:Jw}{sl:Cf}{sf sg:O->L O}{C:Call}{σ σ2:L2.St}{Z Z' Z1:Fp}{H H' H1:Hp}{Fs Fs' Fs1:Fps}{η η' η1 ηb:Env}{G G' R F:Fp}{tg is:U O}{pv val:O->L V}
def gT (K:Jw):O->TG
|1=>bT 0
|2=>uu K 2<|dU (bT 0)<|dU (bT 1) uA
|_=>λ_ _ _ _=>OS
theorem At.put1 {i:O}{w:W}{x:V}(A:At K sl σ Z H Fs η G)(r:Rep K Z H w.1 w.2 x<|Fs i)(c:∀j,sl.sl i=Y j->σ[j]?=Y (Y x))(hp:sl.pv i=J):At K sl σ Z H Fs (put η i w) G:=by
 refine⟨A.gd,λj m t e=>?_,A.own,A.dis,A.lk,A.ln⟩;rw[bG] at e;split at e
 .rename_i b;cases e;obtain⟨rfl,_⟩:=b;exact⟨x,r,c,λu a=>by rw[hp] at a;cases a⟩
 .exact A.env j m t e
theorem j4 {k a:O}{v:V}(b:is[k]?=Y a)(c:σ[a]?=Y (Y v)):(cJ σ is)[k]?=Y (Y v):=by unfold cJ;rw[Ki,b];show Y ((σ[a]?).join)=_;rw[c];rfl
theorem iX (a:hE sf sg tg is)(h:σ2.length=tg.length+is.length):∀i j,sg i=Y j->j < σ2.length:=λi j b=>by
 rcases a i j b with⟨k,hk,rfl⟩|⟨_,k,c,rfl,hk,_⟩
 .have:=(KD.mp hk).1;lia
 .have:=(KD.mp hk).1;lia
theorem pL {n i:O}{d:It}{ts:U<|U W}{ws:U W}{x:V}{Q:L2.St->Hp->Prop}(hn:tg.length=n)(nd:tg.Nodup)(c:hE sf sg tg is)(hz:∀a,Z1 a->Z a)(st:Stay Z1 H1 H)(s:Yld K d Z1 H1 ts n)(A:At K ⟨sf,val⟩ σ Z H Fs η G)
  (ht:∀i∈tg,rd η i=J) (hw:ts[i]?=Y ws) (hb:aQ tg ws η=Y ηb) (y:d.yld i H x H')
  (k:∀σ2 N,At K ⟨sg,inV val tg⟩ σ2 Z N Fs ηb G->Step Z H no Z N no->(σ2.length=n+(cJ σ is).length/\σ2.drop n=cJ σ is)->Q σ2 N):gT K n x (JV n J++cJ σ is) H' Q:=by
 have hi:i<ts.length:=(KD.mp hw).1;have g:∀{t:O},t∈tg->inV val tg t=none:=λ{t} h=>OG h
 match n,s with
 | 1,s =>
  obtain⟨e0,w,f,r⟩:=s H i x H' st hi y;rw[e0];rw[hw] at f;cases f
  match tg,hn with
  | [t],_ =>
   cases hb;have r':Rep K Z H w.1 w.2 x (Fs t):=(r.zmono hz).mono λ_ z=>z.elim;refine k _ H ?_ (Step.refl _ _ _) ⟨by simp[Mg],rfl⟩;refine(A.into (σ2:=Y x::cJ σ is) c ht (λk j0 v P h2=>?_)<|iX c<|by simp[cJ,Mg]).put1 r' (λj l=>?_)<|g<|by simp
   .rw[JL,Mg,KR];exact j4 P h2
   .rcases c t j l with ⟨k,hk,rfl⟩ | ⟨h,_⟩
    .cases j with
     |zero=>rfl
     |succ _=>simp at hk
    .exact OH (J4.mpr rfl) h
 | 2,s =>
  obtain⟨p,o,z1,u,w,rfl,D,hq,f,r1,r2⟩:=s H i x H' st hi y;rw[hw] at f;cases f
  match tg,hn with
  | [t,M],_ =>
   cases hb;have m:t≠M:=λz=>by simp[z] at nd
   have s1:Step Z H G Z H' G:=gw D;have o1:Own Z H' G:=λa ha=>by obtain⟨nz,ys,e⟩:=A.own a ha;exact⟨nz,ys,D _ _ e⟩
   obtain⟨A1,_⟩:=A.op o1 s1;have sn:Stay Z H H':=kz D;have r1':Rep K Z H' u.1 u.2 o (Fs t):=((r1.zmono hz).keep sn (λ_ z=>z) λ_ _ z=>z.elim).mono λ_ z=>z.elim;have r2':Rep K Z H' w.1 w.2 z1 (Fs M):=((r2.zmono hz).keep sn (λ_ z=>z) λ_ _ z=>z.elim).mono λ_ z=>z.elim;have s0:Step Z H no Z H' no:=gw D;refine⟨p,[o,z1],rfl,hq,rfl,o,[z1],rfl,z1,[],rfl,rfl,k (Y o::Y z1::cJ σ is) _ ?_ s0 ⟨by simp;lia,rfl⟩⟩;refine((A1.into (σ2:=Y o::Y z1::cJ σ is) c ht (λk j0 v P h2=>?_)<|iX c<|by simp[cJ];lia).put1 r1' (λj l=>?_)<|g<|by simp).put1 r2' (λj l=>?_)<|g<|by simp
   .rw[show[t,M].length+k=k+1+1 by simp;lia,KR,KR];exact j4 P h2
   .rcases c t j l with ⟨k,hk,rfl⟩ | ⟨h,_⟩
    .match j,hk with
     |0,_=>rfl
     |1,hk=>exact OH (Kg hk).symm m
    .exact OH (by simp) h
   .rcases c M j l with ⟨k,hk,rfl⟩ | ⟨h,_⟩
    .match j,hk with
     |0,hk=>exact OH (Kg hk) m
     |1,_=>rfl
    .exact OH (by simp) h
def fT (Fs:Fps)(tg:U O):Fps:=λj a=>j ∉ tg/\Fs j a
theorem cN {a:OD}(h:tot (fT Fs tg) a):tot Fs a:=let ⟨j,_,b⟩:=h;⟨j,b⟩
theorem At.dels (A:At K sl σ Z H Fs η G):At K sl σ Z H (fT Fs tg) (aB tg η) G:=by
 refine⟨⟨λa h=>A.gd.own a<|cN h,λi j a b c=>A.gd.dis i j a b.2 c.2,A.gd.zal⟩,λi m t e=>?_,A.own,λa h q=>A.dis a h<|cN q,A.lk,A.ln⟩;rw[aP] at e;split at e
 .cases e
 .rename_i f;obtain⟨v,r,h⟩:=A.env i m t e;exact⟨v,r.mono λa d=>⟨f,d⟩,h⟩
theorem gD:∀{tg:U O} {t:U W} {η η1:Env},aQ tg t η=Y η1->∀i,i ∉ tg->rd η1 i=rd η i
|[],[],η,η1,h,i,_=>by cases h;rfl
|[],_::_,_,_,h,_,_=>by cases h
|_::_,[],_,_,h,_,_=>by cases h
|j::tg,w::t,η,η1,h,i,a=>by rw[gD (show aQ tg t (put η j w)=Y η1 from h) i λz=>a<|JW _ z,bG,OK λz=>a<|by rw[z.1];exact JJ]
structure CSt (K:Jw)(sf:O->L O)(val:O->L V)(σ:L2.St)(tg:U O)(f:Env->Res (L W×Env))(ts:U (U W))(η0:Env)(us:U W)(η3:Env)(Z1:Fp)(H1:Hp)(F1:Fp)(i:O)(ys:U V)(H:Hp):Prop where
 ex:∃(Z:Fp) (Fs:Fps) (η:Env) (acc:U W) (G:Fp),At K ⟨sf,val⟩ σ Z H Fs η G/\RepW K Z H acc ys G/\aM tg f (ts.drop i) η acc=.ok (us,η3)/\(∀j∈tg,rd η j=J)/\(∀j∈tg,∀a,¬Fs j a)/\Nn η0 η/\Step Z1 H1 F1 Z H (λa=>tot Fs a\/G a)
 len:ys.length<=i
theorem tF {h:OF}{c:U W}{i:U V}{w:W}{Q:VK}(o:Own Z H G)(t:∀a,Z a->H a≠J)(r:RepW K Z H c i G)(l:i.length<=LIM)(b:(if h then(if c.all okD then Y ((.d,.lst<|trees c):W) else J) else Y (.o .s,.lst<|trees c))=Y w)(k:Out K Z H G w Q):∀p,H p=J->Q (.ref p) (upd H p<|.lst i):=by
 intro p hp;cases h with
 | true =>
  rw[OG rfl] at b;split at b
  .rename_i j;cases b;rw[Lb] at j
   obtain⟨G',e,f⟩:=RepW.to (N:=.d) (λu n=>by
    have:=j u n;unfold okD at this;rw[NH] at this;unfold M.lf;split
    .rfl
    .rename_i g;rcases this with z|z
     .rw[eq_of_beq z];rfl
     .exact OH z g) r
   exact b6 (m:=.d) o t e l f (by simp) k hp
  .cases b
 |false=>rw[OK Ka] at b;cases b;obtain⟨G',e,f⟩:=RepW.to (N:=.s) (λu n=>by cases M.lf u.1 u.2<;>rfl) r;exact b6 (m:=.o .s) o t e l f (by simp) k hp
end
section
variable {K:Jw}{sf sg:O->L O}{C:Call}{tg is:U O}
theorem iG {b:Type}{l:U b}{i:O}{a:b}(h:l[i]?=Y a):l.drop i=a::l.drop (i+1):=by obtain⟨c,d⟩:=KD.mp h;rw[List.drop_eq_getElem_cons c,d]
theorem vc {h:OF}{k:Ik}{f:Env->Res (L W×Env)}{p:U W×Env}{w:W}{b:Env}(e:er h k tg f p=.ok (w,b)):∃c a,bj k p.1=Y c/\aM tg f c (aB tg p.2) []=.ok (a,b)/\(if h then(if a.all okD then Y ((.d,.lst<|trees a):W) else J) else Y (.o .s,.lst<|trees a))=Y w:=by obtain⟨⟨c,j⟩,v,x⟩:=ae<|show(ret (aB tg p.2)<|bj k p.1).bind (λt=>(aM tg f t.1 t.2 []).bind<|lx h)=_ from e;obtain⟨i,A,e3⟩:=aG v;have m:c=i:=OQ J9 e3;have n:j=aB tg p.2:=OQ Lm e3;subst m n;obtain⟨⟨a,g⟩,y,z⟩:=ae<|show(aM tg f c (aB tg p.2) []).bind (lx h)=_ from x;obtain⟨F,D,l⟩:=aG<|show ret g (if h then(if a.all okD then Y ((.d,.lst<|trees a):W) else J) else Y (.o .s,.lst<|trees a))=_ from z;have r:w=F:=OQ J9 l;have u:b=g:=OQ Lm l;subst r u;exact⟨c,a,A,y,D⟩
theorem lK {f:Env->Res (L W×Env)}{t:U W}{j:U<|U W}{k g:Env}{a m:U W}(e:aM tg f (t::j) k a=.ok (m,g)):∃h o i,aQ tg t k=Y h/\f h=.ok (o,i)/\aM tg f j (aB tg i) (a++o.toList)=.ok (m,g):=by obtain⟨d,n,r⟩:=ae<|show(ofO<|aQ tg t k).bind (λd=>(f d).bind λp=>aM tg f j (aB tg p.2)<|a++p.1.toList)=_ from e;obtain⟨⟨o,l⟩,s,u⟩:=ae r;exact⟨d,o,l,cG n,s,u⟩
theorem iH {n:O}{h:OF}{k:Ik}{src:U E}{f:Env->Res (L W×Env)}{te:L2.St->Hp->(L V->Hp->Prop)->Prop}(hn:tg.length=n)(nd:tg.Nodup)(d:hE sf sg tg is)
  (hf:∀{P o η'},f P=.ok (o,η')->Nn P η')
  (hte:∀ {val:O->L V} {l:L2.St} {Z:Fp} {H:Hp} {Fs:Fps} {P M:Env} {R:Fp} {o:L W} {Q:L V->Hp->Prop},At K ⟨sg,val⟩ l Z H Fs P R->f P=.ok (o,M) ->
   (∀oy Z' H' Fs' G,At K ⟨sg,val⟩ l Z' H' Fs' M (λc=>R c\/G c)->(match o,oy with|some w,Y y=>Rep K Z' H' w.1 w.2 y G|none,J=>PD|_,_=>OS)->(∀c,R c->¬G c)->Step Z H (tot Fs) Z' H' (λa=>tot Fs' a\/G a)->Q oy H')->te l H Q)
  {e:E} (he:∀P,evE C e P=(evL C src P).bind (er h k tg f)) (σ:L2.St) (H:Hp) (Q:VK) (hw:wE K sf C e σ H Q):
  wI K sf C n k src σ H λg H1=>∃W:O->O->U V->Hp->Prop,(∃m,W 0 m [] H1)/\∀i m D H,W i m D H ->
   (g.stop i H/\D.length<=sizeLine/\∀p,H p=J->Q (.ref p) (upd H p<|.lst D)) \/
   (g.go i H/\D.length<sizeLine/\∀x H',g.yld i H x H'->gT K n x (JV n J++cJ σ is) H' λl H2=>(l.length=n+(cJ σ is).length/\l.drop n=cJ σ is)/\te l H2 λoy H3=>∃m',m'<m/\W (i+1) m' (D++oy.toList) H3):=by
 obtain⟨pv,Z,Fs,P,w,η',A,ev,kk⟩:=hw;rw[he] at ev;obtain⟨⟨ws,F⟩,h1,h2⟩:=ae ev;obtain⟨N,us,ht,h3,h4⟩:=vc h2;refine⟨pv,Z,Fs,P,ws,F,N,A,h1,ht,λg Z1 H1 Fs1 A1 s1 wk yl=>?_⟩;obtain⟨val,v1,A2,v2⟩:=(A1.dels (tg:=tg)).pin;have s1':Step Z H (tot Fs) Z1 H1 (tot (fT Fs1 tg)):=s1.mono (λ_ z=>z) λ_ z=>cN z;refine⟨λi m D H=>m=N.length-i/\i<=N.length/\CSt K sf val σ tg f N (aB tg F) us η' Z1 H1 (tot<|fT Fs1 tg) i D H,⟨N.length,by simp,Kl _,⟨⟨Z1,fT Fs1 tg,aB tg F,[],no,A2,rfl,h3,λj s=>by rw[aP,OG s],λj s a v=>v.1 s,Nn.refl _,(Step.refl _ _ _).mono (λ_ z=>z) λa v=>v.elim id λz=>z.elim⟩,JE _⟩⟩,?_⟩;rintro i m D H0 ⟨rfl,hi,⟨⟨Zi,Fsi,ηi,acc,Ga,Ai,ra,hc,htg,hfp,hnn,si⟩,r⟩⟩;have st:Stay Z1 H1 H0:=A2.gd.own.stay si;have hL:=wk.len;by_cases hlt:i<N.length
 .right;refine⟨wk.go H0 i st hlt,Nq (JP r hi) (lQ hL),λx H2 y=>?_⟩;have hw:N[i]?=Y N[i]:=by simp[hlt]
  rw[iG hw] at hc;obtain⟨ηb,o,M,hb,hfe,hc2⟩:=lK hc;refine pL hn nd d si.zm st yl Ai htg hw hb y λl H3 A3 s3 hσ=>⟨hσ,?_⟩;refine hte A3 hfe λoy Z4 H4 Fs4 G4 A4 r4 d4 s4=>⟨N.length-(i+1),by lia,rfl,hlt,⟨?_,?_⟩⟩
  .have ra3:RepW K Zi H3 acc D Ga:=ra.frame bO s3 fun _ _ z=>z;have ra4:RepW K Z4 H4 acc D Ga:=ra3.frame A3.gd.own s4 A3.dis
   have vv:∀j m t,rd (aB tg M) j=Y (m,t)->val j≠none:=λj m t e=>by
    rw[aP] at e;split at e
    .cases e
    .rename_i s;have n1:rd ηb j≠none:=λz=>by rw[hf hfe j z] at e;cases e
     rw[gD hb j s] at n1;have n2:rd (aB tg F) j≠none:=λz=>n1<|hnn j z;cases e2:rd (aB tg F) j with
     |none=>exact OH e2 n2
     |some u=>exact v2 j u.1 u.2 e2
   have A5:=(A4.dels (tg:=tg)).outof (sf:=sf) (σ:=σ) (val:=val) (λj s=>by rw[aP,OG s]) vv Ai.lk Ai.ln
   have s5:Step Z1 H1 (tot (fT Fs1 tg)) Z4 H4 (λa=>tot (fT Fs4 tg) a\/(Ga a\/G4 a)):=by
    refine(si.trans<|((s3.frame λa=>tot Fsi a\/Ga a).mono (λa v=>v.elim (λz=>z.elim) id) λa v=>.inr v).trans<|s4.frame Ga).mono (λ_ z=>z) λa v=>?_;rcases v with z|z|z
    .exact .inl (.inl<|cN z)
    .exact .inr z
    .exact .inl (.inr z)
   refine⟨Z4,fT Fs4 tg,aB tg M,acc++o.toList,λc=>Ga c\/G4 c,A5,?_,hc2,λj s=>by rw[aP,OG s],λj s a v=>v.1 s,λj e=>?_,s5⟩
   .cases o with
    |none=>
     cases oy with
     |none=>rw[Np,Np,JR,JR];exact ra4.mono λ_ z=>.inl z
     |some _=>exact r4.elim
    |some w4=>
     cases oy with
     |none=>exact r4.elim
     |some y4=>exact RepW.append (λ_ z=>.inl z) (λ_ z=>.inr z) d4 ra4<|RepW.one r4
   .have e':=hnn j e;rw[aP];split
    .rfl
    .rename_i s;exact hf hfe j<|by rw[gD hb j s];exact e'
  .have:D.length<=i:=r;cases oy<;>simp<;>lia
 .left;have hi':i=N.length:=by lia
  subst hi';rw[MT] at hc;cases hc;refine⟨wk.stop H0 _ st<|JE _,LIM_le<|JP r hL,tF Ai.own Ai.gd.zal ra (JP r hL) h4<|bc (Ai.unpin v1) (s1'.trans si) kk⟩
theorem gm {n:O}{h:OF}{k:Ik}{f:U E}{e:E}(D:tg.length=n)(M:tg.Nodup)(b:hE sf sg tg is)(x:L2.St)(H:Hp)(Q:VK)(F:wE K sf C (.comp h k f tg J e) x H Q):ji n (wI K sf C n k f) is (gT K n) (wE K sg C e) x H Q:=by
 refine iH (te:=λg H Q=>wE K sg C e g H λy l=>Q (Y y) l) D M b (λ{i o N} t=>?_) (λ{val g Z H Fs i P R o Q} A t k=>?_) (λi=>rfl) x H Q F
 .obtain ⟨⟨u,w⟩,m,p⟩:=ae<|show (evE C e i).bind fI=_ from t;cases p;exact aH e m
 .obtain ⟨⟨u,w⟩,m,p⟩:=ae<|show (evE C e i).bind fI=_ from t;cases p;exact eX A m λv z l j G a r d s _=>k (Y v) z l j G a r d s
theorem jX {n:O}{h:OF}{k:Ik}{D:U E}{l t:E}(hn:tg.length=n)(nd:tg.Nodup)(g:hE sf sg tg is)(σ:L2.St)(H:Hp)(Q:VK)(hw:wE K sf C (.comp h k D tg (Y t) l) σ H Q):eZ n (wI K sf C n k D) is (gT K n) (wT K sg C t) (wE K sg C l) σ H Q:=by
 have main:=iH (te:=λσ2 H Q=>wT K sg C t σ2 H λok H2=>if ok=Ju then wE K sg C l σ2 H2 λy F=>Q (Y y) F else Q J H2) hn nd g (f:=ir (evE C t)<|evE C l) (λ{η o η'} hf=>by
  obtain⟨⟨u,η4⟩,h7,h8⟩:=ae<|show(evE C t η).bind (onT (dr<|evE C l)<|okW J)=_ from hf;obtain⟨d,h9,p⟩:=cc h8;cases d with
  |true=>rw[OG rfl] at p;obtain⟨⟨u2,η5⟩,N,P⟩:=ae<|show(evE C l η4).bind fI=_ from p;cases P;exact(aH t h7).trans<|aH l N
  |false=>rw[OK Ka] at p;cases p;exact aH t h7) (λ{val σ2 Z H Fs η ηc R o Q} A hf k=>by
  obtain⟨⟨u,η4⟩,h7,h8⟩:=ae<|show(evE C t η).bind (onT (dr<|evE C l)<|okW J)=_ from hf;obtain⟨d,h9,p⟩:=cc h8;refine mK A.bare h7 h9 λZ1 H1 Fs1 A1 s1=>?_;have A1':=A.frame (A1.mono (G':=no) λ_ z=>z)<|s1.mono (λ_ z=>z) λa ha=>ha.elim id λz=>z.elim;have A2:=A1'.1.mono (G':=R) λ_ z=>.inl z;cases d with
  |true=>rw[OG rfl] at p ⊢;obtain⟨⟨u2,η5⟩,N,P⟩:=ae<|show(evE C l η4).bind fI=_ from p;cases P;exact eX A2 N λv Z' F M G e r d s _=>k (Y v) Z' F M G e r d<|s1.trans s
  |false=>
   rw[OK Ka] at p ⊢;cases p;exact k J Z1 H1 Fs1 no (A2.mono λ_ z=>z.elim id λq=>q.elim) trivial (λ_ _ z=>z) (s1.mono (λ_ z=>z) λa ha=>ha.elim id λz=>z.elim)) (λη=>rfl) σ H Q hw
 refine(?_:∀{a b:It->Hp->Prop},(∀j H1,a j H1->b j H1)->wI K sf C n k D σ H a->wI K sf C n k D σ H b) ?_ main
 .rintro a b hab ⟨pv,Z,Fs,η,ws,η',ts,A,ev,ht,kk⟩;exact⟨pv,Z,Fs,η,ws,η',ts,A,ev,ht,λj Z' F M A' s' w' y'=>hab j F<|kk j Z' F M A' s' w' y'⟩
 .rintro j H1 ⟨W,w0,turn⟩;refine⟨W,w0,λi m ys H w=>?_⟩;rcases turn i m ys H w with c|⟨go,hz,step⟩
  .exact .inl c
  .refine .inr ⟨go,hz,fun x F y=>?_⟩;have st:=step x F y;simp only[Option.toList_some,Np,JR] at st;exact st
end
section
variable {K:Jw}{sl:Cf}{sf sg:O->L O}{C:Call}{σ σ2:L2.St}{Z Z' Z1:Fp}{H H' H1:Hp}{Fs Fs' Fs1:Fps}{η η' η1 ηb:Env}{G G' G1 R F:Fp}{tg is:U O}{pv val:O->L V}
noncomputable def j3 (Fs:Fps)(i:O)(G:Fp):Fps:=λj a=>(j=i/\G a)\/(j≠i/\Fs j a)
theorem ba {i:O}{a:OD}(h:tot (j3 Fs i G) a):tot Fs a\/G a:=by
 obtain⟨j,h|h⟩:=h
 .exact .inr h.2
 .exact .inl ⟨j,h.2⟩
theorem At.put {i:O}{w:W}{x:V}(A:At K sl σ Z H Fs η G)(r:Rep K Z H w.1 w.2 x G1)(c:∀a,G1 a->G a)(f:∀a,R a->G a)(hd:∀a,R a->¬G1 a)(l:∀j,sl.sl i=Y j->σ[j]?=Y (Y x))(hp:∀u,sl.pv i=Y u->x=u):
  At K sl σ Z H (j3 Fs i G1) (M.put η i w) R:=by
 refine⟨⟨λa h=>(ba h).elim (A.gd.own a) λq=>A.own a<|c a q,λj k a b hk=>?_,A.gd.zal⟩,λj m t e=>?_,λa h=>A.own a<|f a h,λa h q=>(ba q).elim (A.dis a<|f a h)<|hd a h,A.lk,A.ln⟩
 .rcases b with ⟨rfl,b⟩ | ⟨p,b⟩
  .rcases hk with ⟨rfl,_⟩ | ⟨n,hk⟩
   .rfl
   .exact OH ⟨k,hk⟩ (A.dis a<|c a b)
  .rcases hk with ⟨rfl,hk⟩ | ⟨n,hk⟩
   .exact OH ⟨j,b⟩ (A.dis a<|c a hk)
   .exact A.gd.dis j k a b hk
 .rw [bG] at e;split at e
  .rename_i d;cases e;obtain⟨rfl,_⟩:=d;exact⟨x,r.mono λa h=>.inl ⟨rfl,h⟩,l,hp⟩
  .rename_i d;obtain⟨v,o,g⟩:=A.env j m t e;by_cases b:j=i
   .subst b;exact OH ⟨rfl,dW e⟩ d
   .exact⟨v,o.mono λa h=>.inr ⟨b,h⟩,g⟩
def wA (K:Jw)(sl:O->L O)(C:Call)(c:U E):TA:=λσ H Q=>∃pv Z Fs η d η',At K ⟨sl,pv⟩ σ Z H Fs η no/\evA C c η=.ok (d,η') /\
 ∀b Z' H' Fs' G,At K ⟨sl,pv⟩ σ Z' H' Fs' η' G->RepW K Z' H' d b G->Step Z H (tot Fs) Z' H' (λa=>tot Fs' a\/G a)->(∀(k i:O) (u:V),c[k]?=Y (.io i)->pv i=Y u->b[k]?=Y u)->Q b H'
theorem BF (σ:L2.St)(H:Hp)(Q:U V->Hp->Prop)(h:wA K sf C [] σ H Q):Cw σ H Q:=by obtain⟨pv,Z,Fs,η,c,η',A,ev,k⟩:=h;cases ev;exact k [] Z H Fs no A rfl ((Step.refl _ _ _).mono (λ_ z=>z) λa b=>b.elim id λz=>z.elim) λk i u h _=>by simp at h
theorem Il {d:U E}{g:U W}{Q:U V->Hp->Prop}(A:At K sl σ Z H Fs η R)(ev:evA C d η=.ok (g,η'))
  (k:∀ f Z' H' Fs' G,At K sl σ Z' H' Fs' η' (fun c=>R c\/G c)->RepW K Z' H' g f G->(∀ c,R c->¬ G c)->Step Z H (tot Fs) Z' H' (fun a=>tot Fs' a\/G a) ->
   Step Z H (λc=>tot Fs c\/R c) Z' H' (λc=>tot Fs' c\/(R c\/G c))->(∀(k i:O) (u:V),d[k]?=Y (.io i)->sl.pv i=Y u->f[k]?=Y u)->Q f H'):wA K sl.sl C d σ H Q:=
 ⟨sl.pv,Z,Fs,η,g,η',A.bare,ev,fun v Z' H' Fs' G b r s e=>by
  obtain⟨h,j,l⟩:=A.frame b s;exact k v Z' H' Fs' G h r l s j e⟩
theorem vk {e:E}{f:U E}(g:∀i,e≠.io i)(σ:L2.St)(H:Hp)(Q:U V->Hp->Prop)(h:wA K sf C (e::f) σ H Q):oH (wE K sf C e) (wA K sf C f) σ H Q:=by
 obtain⟨pv,Z,Fs,η,N,η',A,ev,k⟩:=h;obtain⟨w,η1,M,r,s,rfl⟩:=gJ g ev;refine eX A r λx Z1 H1 Fs1 G1 d r1 _ v _=>?_;have a:=d.mono (G':=G1) λ_ z=>.inr z;refine Il a s λj o n b m l r2 p y D c=>?_;refine k (x::j) o n b _ l ⟨x,j,G1,m,rfl,λ_ z=>.inl z,λ_ z=>.inr z,p,r1.frame d.gd.own y a.dis,r2⟩ (v.trans D) λk i u h t=>?_;cases k with
 |zero=>exact OH (Kg h)<|g i
 |succ k=>exact c k i u h t
theorem oQ {i j:O}{p:U E}(N:sf i=Y j)(σ:L2.St)(H:Hp)(Q:U V->Hp->Prop)(h:wA K sf C (.io i::p) σ H Q):oH (i4 j) (wA K sf C p) σ H Q:=by
 obtain⟨pv,Z,Fs,η,ws,η',A,ev,k⟩:=h;obtain⟨us,η1,w,f,c,rfl,rfl⟩:=i5 ev;obtain⟨m,t⟩:=w;cases e0:rd η i with
 |none=>rw[gL p f i e0] at c;cases c
 | some w0 =>
  obtain⟨v,_,hv⟩:=A.env i w0.1 w0.2 e0;refine⟨v,hv.1 j N,pv,Z,Fs,η,us,η1,A,f,λxs Z2 H2 d G2 b r2 s2 x=>?_⟩;obtain⟨P,r,n⟩:=b.env i m t c;have s:P=v:=by have e1:=hv.1 j N;rw[n.1 j N] at e1;exact Kg<|Kg e1
  subst s
  have A3:At K ⟨sf,pv⟩ σ Z2 H2 (Dn d i) (del η1 i) (λa=>d i a\/G2 a):=by
   refine⟨⟨λa ⟨l,f,c⟩=>b.gd.own a ⟨l,c⟩,λl l' a f c=>b.gd.dis l l' a f.2 c.2,b.gd.zal⟩,λl m' t' e=>?_,λa g=>g.elim (λz=>b.gd.own a ⟨i,z⟩)<|b.own a,λa g ⟨l,f,c⟩=>g.elim (λz=>f<|b.gd.dis l i a c z) λz=>b.dis a z ⟨l,c⟩,b.lk,b.ln⟩;rw[bG] at e;split at e
   .cases e
   .rename_i M;obtain⟨v'',r',o⟩:=b.env l m' t' e;have D:l≠i:=λz=>M ⟨z,dW c⟩;exact⟨v'',r'.mono λa g=>⟨D,g⟩,o⟩
  refine k (P::xs) Z2 H2 (Dn d i) _ A3 ⟨P,xs,d i,G2,rfl,λ_ z=>.inl z,λ_ z=>.inr z,λa z y=>b.dis a y ⟨i,z⟩,r,r2⟩ (s2.mono (λ_ z=>z) λa g=>?_) λk i' u h hu=>?_
  .rcases g with ⟨l,_,z⟩ | z | z
   .exact .inl ⟨l,z⟩
   .exact .inl ⟨i,z⟩
   .exact .inr z
  .cases k with
   |zero=>cases h;rw[<- n.2 u hu];rfl
   |succ k=>exact x k i' u h hu
def atV (a:U O)(b:U V):U V:=a.filterMap λi=>b[i]?
def spC (K:Jw)(C:Call)(f:O)(e:U O):U V->Hp->VK->Prop:=λc H Q=>∃Z d G w bs,RepW K Z H d c G/\Own Z H G/\(∀a,Z a->H a≠J)/\C f d=.ok (w,bs) /\
 ∀v Z' H' G1 b,Rep K Z' H' w.1 w.2 v G1->RepW K Z' H' bs (atV e c) b->(∀a,G1 a->¬b a)->Own Z' H' (λa=>G1 a\/b a)->Step Z H G Z' H' (λa=>G1 a\/b a)->Q v H'
noncomputable def gN:U E->O->U O
|[],_=>[]
|.io _::a,n=>n::gN a (n+1)
|_::a,n=>gN a<|n+1
theorem zB {vs:U V}:∀{es:U E} {n:O},(∀(k i:O) (u:V),es[k]?=Y (.io i)->pv i=Y u->vs[n+k]?=Y u)->(∀i∈ios es,pv i≠J)->(ios es).filterMap pv=atV (gN es n) vs
|[],_,_,_=>rfl
| e::es,n,h,c=>by
 have rest:(∀i∈ios es,pv i≠J)->(ios es).filterMap pv=atV (gN es (n+1)) vs:=λq=>zB (λk i u hk a=>by have:=h (k+1) i u hk a;rw[show n+(k+1)=n+1+k by lia] at this;exact this) q;cases e with
 | io i =>
  cases a:pv i with
  |none=>exact OH a<|c i<|by simp[ios]
  |some u=>have d:=h 0 i u rfl a;rw[Nat.add_zero] at d;show(i::ios es).filterMap pv=(n::gN es (n+1)).filterMap λi=>vs[i]?;rw[KQ,KQ,a,d];exact OQ (u::·)<|rest λj b=>c j<|by simp[ios,b]
 |_=>exact rest λj b=>c j b
theorem At.putAll:∀{is:U O} {bs:U W} {Fs:Fps} {η:Env} {d:Fp},At K ⟨sf,val⟩ σ Z H Fs η (λa=>R a\/d a)->(∀a,R a->¬d a)->RepW K Z H bs (is.filterMap val) d->(∀i∈is,val i≠J)->∃Fs',At K ⟨sf,val⟩ σ Z H Fs' (M.putAll is bs η) R/\∀a,tot Fs' a->tot Fs a\/d a
|[],bs,Fs,η,d,A,_,_,_=>⟨Fs,A.mono λ_ z=>.inl z,λ_ z=>.inl z⟩
|i::is,[],Fs,η,d,A,_,_,_=>⟨Fs,A.mono λ_ z=>.inl z,λ_ z=>.inl z⟩
| i::is,b::bs,Fs,η,d,A,hd,r,n=>by
 cases f:val i with
 |none=>exact OH f<|n i JJ
 |some u=>rw[KQ,f] at r;obtain⟨x,y,o,s,e,g,k,ad,p,q⟩:=r;cases e;have c:=At.put (i:=i) (R:=λa=>R a\/s a) (G1:=o) A p (λa h=>.inr<|g a h) (λa h=>h.imp id (k a)) (λa h q=>h.elim (λz=>hd a z<|g a q) λz=>ad a q z) (λj l=>A.lk i u j f l) (λw m=>by rw[show val i=Y w from m] at f;cases f;rfl);obtain⟨Fs',t,v⟩:=At.putAll (is:=is) (bs:=bs) c (λa h q=>hd a h<|k a q) q λj l=>n j<|JW _ l;exact⟨Fs',t,λa h=>(v a h).elim (λz=>(ba z).imp id (g a)) λz=>.inr<|k a z⟩
theorem yG {f:O}{es:U E}{y:U O}(j:gN es 0=y\/ios es=[])(σ:L2.St)(H:Hp)(Q:VK)(h:wE K sf C (.call f es) σ H Q):wA K sf C es σ H λvs H1=>spC K C f y vs H1 Q:=by
 obtain⟨pv,Z,Fs,η,w,η',A,ev,k⟩:=h;obtain⟨⟨l,η1⟩,x,h2⟩:=ae<|show(evA C es η).bind (kA C f<|ios es)=_ from ev;obtain⟨⟨u,bs⟩,h3,h4⟩:=ae<|show(C f l).bind (oq (ios es) η1)=_ from h2;cases h4;obtain⟨val,v1,D,v2⟩:=A.pin
 have c:∀i∈ios es,val i≠none:=λi hi=>by
  cases e:rd η i with
  |none=>exact OH e<|jQ es x i hi
  |some q=>exact v2 i q.1 q.2 e
 refine⟨val,Z,Fs,η,l,η1,D,x,λvs Z1 H1 Fs1 G b r s hv=>?_⟩;refine⟨Z1,l,G,u,bs,r,b.own,b.gd.zal,h3,λv t p G1 P r1 r2 d o st=>?_⟩;obtain⟨m,s2⟩:=b.op o st
 have g:∃Fs',At K ⟨sf,val⟩ σ t p Fs' (M.putAll (ios es) bs η1) G1/\∀a,tot Fs' a->tot Fs1 a\/P a:=by
  rcases j with e|e
  .have e2:=zB (pv:=val) (es:=es) (n:=0) (vs:=vs) (fun k i u' hk hu=>by rw [LX]; exact hv k i u' hk hu) c;rw[e] at e2;rw[<- e2] at r2;exact At.putAll m d r2 c
  .rw [e];exact⟨Fs1,m.mono λ_ z=>.inl z,λ_ z=>.inl z⟩
 obtain⟨Fs',N,hF⟩:=g;refine k v t p Fs' G1 (N.unpin v1) r1<|(s.trans s2).mono (λ_ z=>z) λa ha=>?_;rcases ha with z|z
 .exact(hF a z).imp id .inr
 .exact .inr (.inl z)
end
section
variable {K:Jw}{sl:Cf}{sf sg:O->L O}{C:Call}{σ σ2:L2.St}{Z Z' Z1:Fp}{H H' H1:Hp}{Fs Fs' Fs1:Fps}{η η' η1 ηb:Env}{G G' G1 R F F':Fp}{tg is vs ls:U O}{pv val:O->L V}
theorem sJ (o:L W):toS (toS o)=toS o:=by
 cases o with
 |none=>rfl
 |some w=>rfl
theorem gM:∀(vs:U O) (η:Env) (i:O),rd (share vs η) i=if i∈vs then toS (rd η i) else rd η i
|[],η,i=>by simp[share]
| v::vs,η,i=>by
 show rd (share vs<|wr η v<|toS<|rd η v) i=_;rw[gM vs,bG];by_cases b:i=v
 .subst b;rw[OG (show i∈i::vs from JJ)];by_cases c:i < η.length
  .rw [OG (show i=i/\i < η.length from ⟨rfl,c⟩)];split
   .exact sJ _
   .rfl
  .have e:rd η i=none:=by
    cases e:rd η i with
    |none=>rfl
    |some w=>exact OH (dW e) c
   rw[OK<|show¬(i=i/\i < η.length) fromλh=>c h.2,e];split<;>rfl
 .rw [OK (show ¬ (i=v/\v < η.length) from fun h=>b h.1)];by_cases a:i∈vs
  .rw[OG a,OG<|JW _ a]
  .rw[OK a,OK<|by simp[a,b]]
theorem kH:∀(η:Env) (i:O),rd (gZ η) i=J
|[],_=>rfl
|_::_,0=>rfl
|_::η,i+1=>kH η i
theorem og:∀(vs:U O) (a η:Env) (i:O) (w:W),rd (lS vs a η) i=Y w->rd η i=Y w\/(i∈vs/\toS (rd a i)=Y w)
|[],_,_,_,_,h=>.inl h
| v::vs,a,η,i,w,h=>by
 rcases og vs a (wr η v<|toS<|rd a v) i w h with e|e
 .rw [bG] at e;split at e
  .rename_i b;obtain⟨rfl,_⟩:=b;exact .inr ⟨JJ,e⟩
  .exact .inl e
 .exact .inr ⟨JW _ e.1,e.2⟩
theorem kP:∀(vs:U O) (a η:Env) (i:O) (w:W),rd (gA vs a η) i=Y w->rd η i=Y w\/lfO (rd a i)=Y w
|[],_,_,_,_,h=>.inl h
| v::vs,a,η,i,w,h=>by
 rcases kP vs a (wr η v<|lfO<|rd a v) i w h with e|e
 .rw [bG] at e;split at e
  .rename_i b;obtain⟨rfl,_⟩:=b;exact .inr e
  .exact .inl e
 .exact .inr e
theorem zk {i:O}{w:W}(h:rd (pick vs ls η) i=Y w):∃m t,rd η i=Y (m,t)/\((i∈vs/\w=(.s,t))\/(t.leaf=Ju/\w=(.d,t))):=by
 rcases kP ls η _ i w h with e|e
 .rcases og vs η _ i w e with e | ⟨hi,e⟩
  .rw[kH] at e;cases e
  .cases q:rd η i with
   |none=>rw[q] at e;cases e
   |some u=>rw[q] at e;cases e;exact⟨u.1,u.2,rfl,.inl ⟨hi,rfl⟩⟩
 .cases q:rd η i with
  |none=>rw[q] at e;cases e
  |some u=>
   rw[q] at e;obtain⟨m,t⟩:=u;have a:(if t.leaf=Ju then Y ((.d,t):W) else J)=Y w:=e;split at a
   .rename_i b;cases a;exact⟨m,t,rfl,.inr ⟨b,rfl⟩⟩
   .cases a
def da (Fs:Fps)(vs:U O):Fp:=λa=>∃i,i∈vs/\Fs i a
def qD:Fps:=λ_ _=>OS
theorem cY {a:OD}(h:da Fs vs a):tot Fs a:=let ⟨i,_,h⟩:=h;⟨i,h⟩
theorem jL {a:OD}(h:tot qD a):OS:=let ⟨_,h⟩:=h;h
theorem At.quiet (A:At K sl σ Z H Fs η no):At K sl σ (λa=>Z a\/da Fs vs a) H qD (pick vs ls η) no:=by
 refine⟨⟨λa h=>(jL h).elim,λ_ _ _ h=>h.elim,λa h=>h.elim (A.gd.zal a) λq=>?_⟩,λi m t e=>?_,bO,λ_ z=>z.elim,A.lk,A.ln⟩
 .obtain ⟨_,g,e⟩:=A.gd.own a<|cY q;rw[e];simp
 .obtain ⟨d,f,e1,e2⟩:=zk e;obtain⟨v,r,h⟩:=A.env i d f e1;rcases e2 with⟨b,e2⟩|⟨c,e2⟩
  .cases e2;exact⟨v,(r.sh.zmono λa h=>h.imp id λq=>⟨i,b,q⟩).sany,h⟩
  .cases e2;exact⟨v,r.leaf (λ_ _ _ q=>q) c,h⟩
mutual
theorem Rep.dany:∀{t:T} {v:V} {G:Fp},Rep K Z H .d t v G->Rep K Z' H .d t v G
|.non,_,_,h=>h
|.bl _,_,_,h=>h
|.int _,_,_,h=>h
|.str _,_,_,h=>h
|.scr _,_,_,h=>h
|.tup ts,_,_,⟨a,xs,e,q,l,r⟩=>⟨a,xs,e,q,l,RepL.dany r⟩
|.lst ts,_,_,⟨a,xs,e,l,q,r⟩=>⟨a,xs,e,l,q,RepL.dany r⟩
|.dct _ _,_,_,⟨a,xs,e,l,q,n,hl,r⟩=>⟨a,xs,e,l,q,n,hl,RepL.dany r⟩
|.ins _ _ _,_,_,h=>OH rfl h.1
|.gone,_,_,h=>h
theorem RepL.dany:∀{ts:U T} {xs:U V} {G:Fp},RepL K Z H .d ts xs G->RepL K Z' H .d ts xs G
|[],_,_,h=>h
|t::ts,xs,_,⟨x,r,G1,G2,e,h1,h2,hd,p,q⟩=>⟨x,r,G1,G2,e,h1,h2,hd,Rep.dany p,RepL.dany q⟩
end
theorem d6 (A:At K sl σ Z H Fs η no)(b:Own Z' H' G)(d:∀a,Z' a->H' a≠J)(s:Step (λa=>Z a\/da Fs vs a) H F Z' H' λa=>F' a\/G a)(c:∀a,¬F a):
  At K sl σ (λa=>Z' a/\¬da Fs vs a) H' Fs η G/\Step Z H (tot Fs) (λa=>Z' a/\¬da Fs vs a) H' (λa=>tot Fs a\/G a):=by
 have keep:∀a o,H a=Y o->H' a=Y o:=λa o e=>s.keep a o e<|c a;have j:∀a,Z a->Z' a/\¬da Fs vs a:=λa h=>⟨s.zm a<|.inl h,λq=>(A.gd.own a<|cY q).1 h⟩
 have g:∀a,tot Fs a->¬(Z' a/\¬da Fs vs a):=λa h q=>by
  obtain⟨g,f,e⟩:=A.gd.own a h;rcases s.zn a q.1 with z|z|z
  .exact z.elim g q.2
  .exact c a z
  .rw[e] at z;cases z
 have k:∀a,G a->¬tot Fs a:=λa h q=>by
  obtain⟨_,f,e⟩:=A.gd.own a q;rcases s.fn a (.inr h) with z|z
  .exact c a z
  .rw[e] at z;cases z
 refine⟨⟨⟨λa h=>?_,A.gd.dis,λa h=>d a h.1⟩,λi m t e=>?_,λa h=>⟨λq=>(b a h).1 q.1,(b a h).2⟩,k,A.lk,A.ln⟩,⟨λa o e _=>keep a o e,j,λa h=>?_,λa h=>?_,s.al,λ_ a h=>d a h.1⟩⟩
 .obtain ⟨_,f,e⟩:=A.gd.own a h;exact⟨g a h,f,keep a _ e⟩
 .obtain ⟨v,r,h⟩:=A.env i m t e;refine⟨v,r.keep ⟨λa o _ e=>keep a o e,λa f e=>?_,λa o u e=>keep a _ e⟩ j λa o _ e=>keep a o e,h⟩;rcases e with e|⟨u,e⟩
  .exact .inl (keep a _ e)
  .exact .inr ⟨u,keep a _ e⟩
 .rcases s.zn a h.1 with z | z | z
  .exact z.elim .inl λq=>OH q h.2
  .exact(c a z).elim
  .exact .inr (.inr z)
 .rcases h with h | h
  .exact .inl h
  .exact(s.fn a<|.inr h).elim (λz=>(c a z).elim) .inr
theorem At.share (A:At K sl σ Z H Fs η G):At K sl σ (λa=>Z a\/da Fs vs a) H (fT Fs vs) (M.share vs η) G/\∀{f d c},Step f d c Z H (λa=>tot Fs a\/G a)->Step f d c (λa=>Z a\/da Fs vs a) H (λa=>tot (fT Fs vs) a\/G a):=by
 refine⟨⟨⟨λa h=>?_,λi j a l n=>A.gd.dis i j a l.2 n.2,λa h=>h.elim (A.gd.zal a) λq=>?_⟩,λi m t e=>?_,λa h=>⟨λz=>z.elim (A.own a h).1 λq=>A.dis a h<|cY q,(A.own a h).2⟩,λa h q=>A.dis a h<|cN q,A.lk,A.ln⟩,λ{f d c} s=>⟨s.keep,λa h=>.inl<|s.zm a h,λa h=>h.elim (s.zn a) λq=>.inr<|s.fn a<|.inl<|cY q,λa h=>s.fn a<|h.imp cN id,s.al,λz a h=>h.elim (s.za z a) λq=>?_⟩⟩
 .obtain ⟨i,b,k⟩:=h;obtain⟨p,g,e⟩:=A.gd.own a ⟨i,k⟩;exact⟨λz=>z.elim p λ⟨j,o,q⟩=>b<|A.gd.dis i j a k q ▸ o,g,e⟩
 .obtain ⟨_,g,e⟩:=A.gd.own a<|cY q;rw[e];simp
 .rw [gM] at e;split at e
  .rename_i b;cases q:rd η i with
   |none=>rw[q] at e;cases e
   |some u=>rw[q] at e;cases e;obtain⟨v,r,h⟩:=A.env i u.1 u.2 q;exact⟨v,(r.sh.zmono λa h=>h.imp id λq=>⟨i,b,q⟩).sany,h⟩
  .rename_i b;obtain⟨v,r,h⟩:=A.env i m t e;exact⟨v,(r.zmono λa h=>.inl h).mono λa h=>⟨b,h⟩,h⟩
 .obtain ⟨_,g,e⟩:=A.gd.own a<|cY q;rw[e];simp
theorem gX {x:X}{e:E}{w:W}{Q:VK}(A:At K sl σ Z H Fs η no)(ev:evX C x e η=.ok (w,η'))(k:∀v Z' H' Fs' G,At K sl σ Z' H' Fs' η' G->Rep K Z' H' w.1 w.2 v G->Step Z H (tot Fs) Z' H' (λa=>tot Fs' a\/G a)->Q v H'):wE K sl.sl C e σ H Q:=by
 cases x with
 | q vs ls =>
  obtain⟨⟨u,n⟩,D,N⟩:=ae<|show(evE C e<|pick vs ls η).bind (kX vs η)=_ from ev;cases N;generalize i:M.lf u.1 u.2=m0 at k;refine⟨sl.pv,_,qD,_,_,n,A.quiet (vs:=vs) (ls:=ls),D,λv Z' H' Fs' G b r0 s=>?_⟩;have r:=r0.lf;rw[i] at r;obtain⟨p,f⟩:=d6 A b.own b.gd.zal s λa h=>jL h
  have c:Q v H'\/m0=.d:=by
   by_cases hd:m0=.d
   .exact .inr hd
   .refine .inl ?_
    have g:after m0 vs η=share vs η:=by
     cases P:m0 with
     |d=>exact OH P hd
     |s=>rfl
     |o m=>rfl
    obtain⟨y,s2⟩:=p.share (vs:=vs);have zz:∀a,(Z' a/\¬da Fs vs a)\/da Fs vs a->Z' a:=λa h=>h.elim Lx λq=>s.zm a<|.inr q;have j:∀a,Z' a->(Z' a/\¬da Fs vs a)\/da Fs vs a:=λa h=>(NP<|da Fs vs a).elim .inr λq=>.inl ⟨h,q⟩;exact k v _ H' _ G (g ▸ y) (r.zmono j)<|s2 f
  rcases c with q|hd
  .exact q
  .have g:after m0 vs η=η:=by rw [hd]; rfl
   refine k v _ H' Fs G (g.symm ▸ p) ?_ f;subst hd;exact r.dany
 |l vs=>obtain⟨b,s0⟩:=A.share (vs:=vs);have f:=s0<|(Step.refl Z H<|tot Fs).mono (F2:=λa=>tot Fs a\/no a) (λ_ z=>z) λa h=>h.elim id λz=>z.elim;refine⟨sl.pv,_,_,_,w,η',b,ev,λv Z' H' Fs' G t r s=>k v Z' H' Fs' G t r<|(f.mono (λ_ z=>z) λa h=>.inl h).trans s⟩
theorem FY {x:X}{e:E}{b:OF}{Q:OF->Hp->Prop}(A:At K sl σ Z H Fs η no)(ev:evT C x e η=.ok (b,η'))(k:∀Z' H' Fs',At K sl σ Z' H' Fs' η' no->Step Z H (tot Fs) Z' H' (tot Fs')->Q b H'):wT K sl.sl C e σ H Q:=by
 cases x with
 |q vs ls=>obtain⟨⟨u,d⟩,f,g⟩:=ae<|show(evE C e<|pick vs ls η).bind (kT η)=_ from ev;obtain⟨o,i,e3⟩:=aG<|show ret η (truth u.2)=_ from g;cases e3;refine⟨sl.pv,_,qD,_,u,d,b,A.quiet (vs:=vs) (ls:=ls),f,i,λZ' H' Fs' c s=>?_⟩;obtain⟨n,j⟩:=d6 (G:=no) A bO c.gd.zal (s.mono (F2:=λa=>tot Fs' a\/no a) (λ_ z=>z) λa h=>h.elim id λz=>z.elim) λa h=>jL h;exact k _ H' Fs n<|j.mono (λ_ z=>z) λa h=>.inl h
 |l vs=>obtain⟨⟨u,d⟩,f,g⟩:=ae<|show(evE C e<|M.share vs η).bind kT2=_ from ev;obtain⟨o,i,e3⟩:=aG<|show ret d (truth u.2)=_ from g;cases e3;obtain⟨c,s0⟩:=A.share (vs:=vs);have j:=s0<|(Step.refl Z H<|tot Fs).mono (F2:=λa=>tot Fs a\/no a) (λ_ z=>z) λa h=>h.elim id λz=>z.elim;exact⟨sl.pv,_,_,_,u,_,b,c,f,i,λZ' H' Fs' m s=>k Z' H' Fs' m<|(j.mono (λ_ z=>z) λa h=>.inl h).trans s⟩
end
section
variable {K:Jw}{Wx:L2.St->VK}{sl:Cf}{sf sg:O->L O}{C:Call}{σ σ2:L2.St}{Z Z' Z1:Fp}{H H' H1:Hp}{Fs Fs' Fs1:Fps}{η η' η1 ηb:Env}{G G' G1 R F F':Fp}{tg is vs ls io:U O}{pv val:O->L V}{D:b9}
def Fin (K:Jw)(Wx:L2.St->VK)(sl:Cf)(Z:Fp)(H:Hp)(F:Fp)(D:b9):Fl->Prop
|.nx η'=>∀b Z' H' Fs',At K sl b Z' H' Fs' η' no->Step Z H F Z' H' (tot Fs')->D.nx b H'
|.rt w η'=>∀v b Z' H' Fs' G,At K sl b Z' H' Fs' η' G->Rep K Z' H' w.1 w.2 v G->Step Z H F Z' H' (λa=>tot Fs' a\/G a)->D.rt v H'
|.bk η'=>∀b Z' H' Fs',At K sl b Z' H' Fs' η' no->Step Z H F Z' H' (tot Fs')->D.bk b H'
|.ex t η'=>∀v b Z' H' Fs',At K sl b Z' H' Fs' η' no->Rep K Z' H' .s t v no->Step Z H F Z' H' (tot Fs')->Wx b v H'
|_=>OS
theorem Fin.step {fl:Fl}(s:Step Z H F Z1 H1 F')(h:Fin K Wx sl Z H F D fl):Fin K Wx sl Z1 H1 F' D fl:=by
 cases fl with
 |nx η=>exactλa Z' H' Fs' A t=>h a Z' H' Fs' A<|s.trans t
 |rt w η=>exactλv a Z' H' Fs' G A r t=>h v a Z' H' Fs' G A r<|s.trans t
 |bk η=>exactλa Z' H' Fs' A t=>h a Z' H' Fs' A<|s.trans t
 |ex t η=>exactλv a Z' H' Fs' A r t=>h v a Z' H' Fs' A r<|s.trans t
 |_=>exact h.elim
structure uc (sf:O->L O)(io:U O)(pv:O->L V):Prop where
 inj:∀i i' j,sf i=Y j->sf i'=Y j->i=i'
 io:∀i,i ∉ io->pv i=J
def wS (K:Jw)(Wx:L2.St->VK)(sf:O->L O)(io:U O)(C:Call)(a:S):TS:=λD σ H=>∃pv Z Fs η,uc sf io pv/\At K ⟨sf,pv⟩ σ Z H Fs η no/\Fin K Wx ⟨sf,pv⟩ Z H (tot Fs) D (evS C a η)
def wSs (K:Jw)(Wx:L2.St->VK)(sf:O->L O)(io:U O)(C:Call)(a:U S):TS:=λD σ H=>∃pv Z Fs η,uc sf io pv/\At K ⟨sf,pv⟩ σ Z H Fs η no/\Fin K Wx ⟨sf,pv⟩ Z H (tot Fs) D (evSs C a η)
theorem yT (D:b9)(σ:L2.St)(H:Hp)(h:wSs K Wx sf io C [] D σ H):zW D σ H:=by obtain⟨pv,Z,Fs,η,N,A,f⟩:=h;exact f σ Z H Fs A<|Step.refl _ _ _
theorem qJ {s:S}{r:U S}(D:b9)(σ:L2.St)(H:Hp)(h:wSs K Wx sf io C (s::r) D σ H):EW (wS K Wx sf io C s) (wSs K Wx sf io C r) D σ H:=by
 obtain⟨pv,Z,Fs,η,N,A,f⟩:=h;refine⟨pv,Z,Fs,η,N,A,?_⟩;have a:Fin K Wx ⟨sf,pv⟩ Z H (tot Fs) D (Fl.seq (evS C s η) (evSs C r)):=f;cases e:evS C s η with
 |nx η1=>rw[e] at a;exactλc Z' H' Fs' b t=>⟨pv,Z',Fs',η1,N,b,a.step t⟩
 |rt w η1=>rw[e] at a;exact a
 |bk η1=>rw[e] at a;exact a
 |ex t η1=>rw[e] at a;exact a
 |no=>rw[e] at a;exact a.elim
theorem yr {s:S}(D:b9)(σ:L2.St)(H:Hp)(h:wSs K Wx sf io C [s] D σ H):wS K Wx sf io C s D σ H:=by
 obtain⟨pv,Z,Fs,η,N,A,f⟩:=h;refine⟨pv,Z,Fs,η,N,A,?_⟩;have a:Fin K Wx ⟨sf,pv⟩ Z H (tot Fs) D (Fl.seq (evS C s η) (evSs C [])):=f;cases e:evS C s η with
 |nx η1=>rw[e] at a;exact a
 |rt w η1=>rw[e] at a;exact a
 |bk η1=>rw[e] at a;exact a
 |ex t η1=>rw[e] at a;exact a
 |no=>rw[e] at a;exact a.elim
theorem bz {b:Type}{r:Res b}{g:b->Fl}(f:Fin K Wx sl Z H F D<|Fl.of η r g):∃a,r=.ok a/\Fin K Wx sl Z H F D (g a):=by
 cases r with
 |ok a=>exact⟨a,rfl,f⟩
 |ex t=>exact f.elim
 |no=>exact f.elim
theorem eg {o:L Env}(f:Fin K Wx sl Z H F D<|nxO η o):∃η',o=Y η'/\Fin K Wx sl Z H F D (.nx η'):=by
 cases o with
 |some a=>exact⟨a,rfl,f⟩
 |none=>exact f.elim
theorem At.setR {i j:O}{w:W}{x:V}(N:uc sf io pv)(P:i ∉ io)(s:sf i=Y j)(A:At K ⟨sf,pv⟩ σ Z H Fs η G)(r:Rep K Z H w.1 w.2 x G1)(q1:∀a,G1 a->G a)(q2:∀a,R a->G a)(q3:∀a,R a->¬G1 a):At K ⟨sf,pv⟩ (σ.set j<|Y x) Z H (j3 Fs i G1) (M.put η i w) R:=by
 have hj:j < σ.length:=A.ln i j s
 have c:At K ⟨λk=>if k=i then J else sf k,pv⟩ (σ.set j (Y x)) Z H Fs (M.del η i) G:=by
  refine⟨A.gd,λl m t e=>?_,A.own,A.dis,λl u k g hk=>?_,λl k hk=>?_⟩
  .rw [bG] at e;split at e
   .cases e
   .rename_i hne;obtain⟨v,r',Q,h2⟩:=A.env l m t e;have f:l≠i:=λz=>hne ⟨z,by rw[<- z];exact dW e⟩;refine⟨v,r',λk hk=>?_,h2⟩;have d:sf l=Y k:=by have:(if l=i then J else sf l)=Y k:=hk;rw[OK f] at this;exact this
    have n:j≠k:=λz=>f (N.inj l i k d<|by rw[<- z];exact s);rw[Mt n];exact Q k d
  .have f:l≠i:=fun z=>by have y:pv l=Y u:=g;rw[z,N.io i P] at y;cases y
   have d:sf l=Y k:=by have:(if l=i then J else sf l)=Y k:=hk;rw[OK f] at this;exact this
   have n:j≠k:=λz=>f (N.inj l i k d<|by rw[<- z];exact s);rw[Mt n];exact A.lk l u k g d
  .have d:sf l=Y k:=by
    have:(if l=i then J else sf l)=Y k:=hk;split at this
    .cases this
    .exact this
   rw[NG];exact A.ln l k d
 have p:=At.put (i:=i) (w:=w) (G1:=G1) (R:=R) c r q1 q2 q3 (λk hk=>by have d:(if i=i then J else sf i)=Y k:=hk;rw[OG rfl] at d;cases d) (λu g=>by have:=N.io i P;rw[show pv i=Y u from g] at this;cases this)
 have e1:M.put (M.del η i) i w=M.put η i w:=by
  have:∀(η:Env) (i:O) (a b:L W),wr (wr η i a) i b=wr η i b:=λη=>by
   induction η with
   |nil=>intro i a b;rfl
   |cons o η ih=>intro i a b;cases i with
    |zero=>rfl
    |succ i=>show o::wr (wr η i a) i b=o::wr η i b;rw[ih]
  exact this η i J<|Y w
 rw[e1] at p;refine⟨p.gd,λl m t e=>?_,p.own,p.dis,λl u k g hk=>?_,λl k hk=>by rw[NG];exact A.ln l k hk⟩
 .obtain ⟨v,r',Q,h2⟩:=p.env l m t e;by_cases f:l=i
  .subst f;rw[bG] at e;split at e
   .cases e;refine⟨x,r.mono λa h=>.inl ⟨rfl,h⟩,λk hk=>?_,λu g=>by have:=N.io l P;rw[show pv l=Y u from g] at this;cases this⟩;have:k=j:=by rw[show sf l=Y k from hk] at s;cases s;rfl
    subst this;rw[Ng hj]
   .rename_i hc;exact OH ⟨rfl,dW e⟩ hc
  .refine ⟨v,r',fun k hk=>Q k ?_,h2⟩;show(if l=i then J else sf l)=Y k;rw[OK f];exact hk
 .by_cases f:l=i
  .subst f;have:=N.io l P;rw[show pv l=Y u from g] at this;cases this
  .exact p.lk l u k g (show(if l=i then J else sf l)=Y k by rw[OK f];exact hk)
theorem At.set {i j:O}{w:W}{x:V}(N:uc sf io pv)(a:i ∉ io)(b:sf i=Y j)(A:At K ⟨sf,pv⟩ σ Z H Fs η G)(r:Rep K Z H w.1 w.2 x G):At K ⟨sf,pv⟩ (σ.set j<|Y x) Z H (j3 Fs i G) (M.put η i w) no:=At.setR N a b A r (λ_ h=>h) (λ_ z=>z.elim) λ_ z=>z.elim
theorem gh {x:X}{i j:O}{e:E}(k:i ∉ io)(l:sf i=Y j)(D:b9)(σ:L2.St)(H:Hp)(h:wS K Wx sf io C (.asg x i e) D σ H):kW (wE K sf C e) (bT j) D σ H:=by obtain⟨pv,Z,Fs,η,N,A,f⟩:=h;obtain⟨⟨w,η1⟩,c,d⟩:=bz<|show Fin K Wx ⟨sf,pv⟩ Z H (tot Fs) D (Fl.of η (evX C x e η)<|wC i) from f;refine gX (sl:=⟨sf,pv⟩) A c λv Z' H' Fs' G b r s=>?_;exact d _ Z' H' _ (At.set N k l b r)<|s.mono (λ_ z=>z) λa g=>ba g
theorem Bz {x:X}{e:E}(D:b9)(σ:L2.St)(H:Hp)(h:wS K Wx sf io C (.exp x e) D σ H):zy (wE K sf C e) D σ H:=by obtain⟨pv,Z,Fs,η,N,A,f⟩:=h;obtain⟨⟨w,η1⟩,c,d⟩:=bz<|show Fin K Wx ⟨sf,pv⟩ Z H (tot Fs) D (Fl.of η (evX C x e η) kNx) from f;exact gX (sl:=⟨sf,pv⟩) A c λv Z' H' Fs' G b r s=>d σ Z' H' Fs' b.bare<|s.mono (λ_ z=>z) λa g=>.inl g
theorem BX {e:E}(D:b9)(σ:L2.St)(H:Hp)(h:wS K Wx sf io C (.ret vs e) D σ H):F8 (wE K sf C e) D σ H:=by obtain⟨pv,Z,Fs,η,N,A,f⟩:=h;obtain⟨⟨w,η1⟩,b,c⟩:=bz<|show Fin K Wx ⟨sf,pv⟩ Z H (tot Fs) D (Fl.of η (evE C e<|M.share vs η) kRt) from f;exact gX (sl:=⟨sf,pv⟩) (x:=.l vs) A b λv Z' H' Fs' G a r s=>c v σ Z' H' Fs' G a r s
theorem By {x:X}{c:E}{a b:U S}(D:b9)(σ:L2.St)(H:Hp)(h:wS K Wx sf io C (.ite x c a b) D σ H):GC (wT K sf C c) (wSs K Wx sf io C a) (wSs K Wx sf io C b) D σ H:=by
 obtain⟨pv,Z,Fs,η,N,A,f⟩:=h;obtain⟨⟨k,η1⟩,g,e⟩:=bz<|show Fin K Wx ⟨sf,pv⟩ Z H (tot Fs) D (Fl.of η (evT C x c η)<|kIf (evSs C a)<|evSs C b) from f;refine FY (sl:=⟨sf,pv⟩) A g λZ' H' Fs' d s=>?_;cases k with
 |true=>rw[OG rfl];exact⟨pv,Z',Fs',η1,N,d,Fin.step s e⟩
 |false=>rw[OK Ka];exact⟨pv,Z',Fs',η1,N,d,Fin.step s e⟩
theorem oz {m:Md}{d:U T}{v:V}(f:m≠.s)(r:Rep K Z H m (.lst d) v G):∃a c,v=.ref a/\c.length<=LIM/\G a/\H a=Y (.lst c)/\RepL K Z H m.kid d c (λb=>G b/\b≠a):=by obtain⟨a,c,e,l,q,p⟩:=r;rw[LstR.own f] at q;exact⟨a,c,e,l,q.1,q.2,p⟩
theorem nC {i:O}{a:OD}{ts':U T}{d:U V}{m':Md}(hm:m'≠.s)(A:At K ⟨sf,pv⟩ σ Z H Fs η G){w0:W}(hi:rd η i=Y w0)(ha:Fs i a)(hx:∀j,sf i=Y j->σ[j]?=Y (Y<|.ref a))(hl:d.length<=LIM)(hpv:∀u,pv i=Y u->V.ref a=u)
  (hg:∀b,G' b->(Fs i b\/G b)/\b≠a) (hR:∀b,R b->(Fs i b\/G b)/\b≠a) (hRG:∀b,R b->¬G' b) (p:RepL K (λb=>Z b\/((Fs i b\/G b)/\b≠a/\¬G' b/\¬R b)) H m'.kid ts' d G') {Q:Hp->Prop}
  (k:∀Z' Fs',At K ⟨sf,pv⟩ σ Z' (upd H a<|.lst d) Fs' (M.put η i (m',.lst ts')) R->Step Z H (λb=>tot Fs b\/G b) Z' (upd H a<|.lst d) (λb=>tot Fs' b\/R b)->(∀{m t v},Rep K (λb=>Z b\/((Fs i b\/G b)/\b≠a/\¬G' b/\¬R b)) H m t v R->Rep K Z' (upd H a<|.lst d) m t v R)->Q (upd H a<|.lst d)):Q (upd H a<|.lst d):=by
 have x:tot Fs a:=⟨i,ha⟩;obtain⟨nza,ys,hya⟩:=A.gd.own a x;have nGa:¬G a:=λq=>A.dis a q x
 have w:∀b,(Z b\/((Fs i b\/G b)/\b≠a/\¬G' b/\¬R b))->b≠a:=λb h z=>by
  subst z;rcases h with h|h
  .exact nza h
  .exact h.2.1 rfl
 have keep:∀b o,H b=Y o->b≠a->upd H a (.lst d) b=Y o:=λb o e f=>by rw[ag f];exact e
 have neT:∀b xs,H b=Y (.tup xs)->b≠a:=λb xs e z=>by rw[z,hya] at e;exact mS e.symm
 have neF:∀b o u,H b=Y (.frz o u)->b≠a:=λb o u e z=>by rw[z,hya] at e;exact i7 e.symm
 have stay:∀{c:Fp},(∀b,c b->b≠a)->Stay c H (upd H a (.lst d)):=λ{c} hY=>⟨λb o f e=>keep b o e<|hY b f,λb xs e=>by
  rcases e with e|⟨u,e⟩
  .exact .inl (keep b _ e<|neT b xs e)
  .exact .inr ⟨u,keep b _ e<|neF b u _ e⟩,λb o u e=>keep b _ e<|neF b o u e⟩
 have al:∀b,H b≠J->upd H a (.lst d) b≠none:=λb h=>by
  by_cases e:b=a
  .rw[e,aq];simp
  .rw[ag e];exact h
 have N:∀b,(Z b\/((Fs i b\/G b)/\b≠a/\¬G' b/\¬R b))->H b≠none:=λb h=>by
  rcases h with h|⟨h|h,_⟩
  .exact A.gd.zal b h
  .obtain⟨_,P,e⟩:=A.gd.own b ⟨i,h⟩;rw[e];simp
  .obtain⟨_,P,e⟩:=A.own b h;rw[e];simp
 have listAt:∀b,(tot Fs b\/G b)->∃P:OO,upd H a (.lst d) b=Y P.ho:=λb h=>by
  by_cases e:b=a
  .exact⟨.inl d,by rw[e,aq];rfl⟩
  .rcases h with h | h
   .obtain⟨_,P,q⟩:=A.gd.own b h;exact⟨P,by rw[ag e];exact q⟩
   .obtain⟨_,P,q⟩:=A.own b h;exact⟨P,by rw[ag e];exact q⟩
 have nZ:∀b,(Fs i b\/G b)->¬Z b:=λb h z=>h.elim (λy=>(A.gd.own b ⟨i,y⟩).1 z) λy=>(A.own b y).1 z
 have fE:∀b,tot (j3 Fs i λb=>G' b\/b=a) b->(∃j,j≠i/\Fs j b)\/G' b\/b=a:=λb h=>by
  obtain⟨j,h|h⟩:=h
  .exact .inr h.2
  .exact .inl ⟨j,h⟩
 refine k (λb=>Z b\/((Fs i b\/G b)/\b≠a/\¬G' b/\¬R b)) (j3 Fs i λb=>G' b\/b=a) ⟨⟨λb h=>⟨λz=>?_,?_⟩,λj l b g hk=>?_,λb h=>al b<|N b h⟩,λl m t e=>?_,λb h=>⟨λz=>?_,listAt b<|(hR b h).1.imp (λz=>⟨i,z⟩) id⟩,λb h q=>?_,A.lk,A.ln⟩ ⟨λb o e n=>keep b o e λz=>n<|.inl<|z ▸ x,λb h=>.inl h,λb h=>h.imp id λq=>.inl<|q.1.imp (λz=>⟨i,z⟩) id,λb h=>?_,al,λ_ b h=>al b<|N b h⟩ λ{m t v} r=>r.keep (stay w) (λ_ z=>z) λb o f e=>keep b o e (hR b f).2
 .rcases fE b h with ⟨j,g,q⟩ | q | q
  .rcases z with z | ⟨z | z,_⟩
   .exact(A.gd.own b ⟨j,q⟩).1 z
   .exact g (A.gd.dis j i b q z)
   .exact A.dis b z ⟨j,q⟩
  .rcases z with z | z
   .exact nZ b (hg b q).1 z
   .exact z.2.2.1 q
  .exact w b z q
 .rcases fE b h with ⟨j,g,q⟩ | q | q
  .exact listAt b (.inl ⟨j,q⟩)
  .exact listAt b ((hg b q).1.imp (λz=>⟨i,z⟩) id)
  .exact⟨.inl d,by rw[q,aq];rfl⟩
 .have key:∀ {j:O},(G' b\/b=a)->Fs j b->j=i:=fun {j} h q=>by
   rcases h with h|h
   .rcases (hg b h).1 with y | y
    .exact A.gd.dis j i b q y
    .exact OH ⟨j,q⟩ (A.dis b y)
   .rw[h] at q;exact A.gd.dis j i a q ha
  rcases g with⟨rfl,g⟩|⟨nj,g⟩
  .rcases hk with ⟨rfl,_⟩ | ⟨nk,hk⟩
   .rfl
   .exact OH (key g hk) nk
  .rcases hk with ⟨rfl,hk⟩ | ⟨nk,hk⟩
   .exact OH (key hk g) nj
   .exact A.gd.dis j l b g hk
 .rw [bG] at e;split at e
  .rename_i hc;obtain⟨rfl,_⟩:=hc;cases e;refine⟨.ref a,⟨a,d,rfl,hl,(LstR.own hm).mpr ⟨.inl ⟨rfl,.inr rfl⟩,aq⟩,?_⟩,hx,hpv⟩;exact(p.keep (stay w) (λ_ z=>z) λb o f e=>keep b o e (hg b f).2).mono λb f=>⟨.inl ⟨rfl,.inl f⟩,(hg b f).2⟩
  .rename_i hc;have hl':l≠i:=λz=>hc ⟨z,dW hi⟩;obtain⟨v,r,h⟩:=A.env l m t e;have nea:∀b,Fs l b->b≠a:=λb q z=>hl'<|A.gd.dis l i a (z ▸ q) ha;exact⟨v,((r.keep (stay λb f z=>nza<|z ▸ f) (λ_ z=>z) λb o f e=>keep b o e<|nea b f).zmono λb h=>.inl h).mono λb h=>.inr ⟨hl',h⟩,h⟩
 .rcases z with z | z
  .exact nZ b (hR b h).1 z
  .exact z.2.2.2 h
 .rcases fE b q with ⟨j,g,y⟩ | y | y
  .rcases (hR b h).1 with z | z
   .exact g (A.gd.dis j i b y z)
   .exact A.dis b z ⟨j,y⟩
  .exact hRG b h y
  .exact(hR b h).2 y
 .rcases h with h | h
  .rcases fE b h with ⟨j,_,q⟩ | q | q
   .exact .inl (.inl ⟨j,q⟩)
   .exact .inl ((hg b q).1.imp (λz=>⟨i,z⟩) id)
   .exact .inl (.inl<|q ▸ x)
  .exact .inl ((hR b h).1.imp (λz=>⟨i,z⟩) id)
theorem change {i:O}{a:OD}{ts':U T}{d:U V}{m':Md}(n:m'≠.s)(A:At K ⟨sf,pv⟩ σ Z H Fs η G){o:W}(l:rd η i=Y o)(f:Fs i a)(hx:∀j,sf i=Y j->σ[j]?=Y (Y<|.ref a))(m:d.length<=LIM)(e:∀u,pv i=Y u->V.ref a=u)
  (g:∀b,G' b->(Fs i b\/G b)/\b≠a) (p:RepL K (λb=>Z b\/((Fs i b\/G b)/\b≠a/\¬G' b)) H m'.kid ts' d G') {Q:Hp->Prop}
  (k:∀Z' Fs',At K ⟨sf,pv⟩ σ Z' (upd H a<|.lst d) Fs' (M.put η i (m',.lst ts')) no->Step Z H (λb=>tot Fs b\/G b) Z' (upd H a<|.lst d) (tot Fs')->Q (upd H a<|.lst d)):Q (upd H a<|.lst d):=
 nC (R:=no) n A l f hx m e g (λ_ z=>z.elim) (λ_ z=>z.elim) (p.zmono λb h=>h.imp id λq=>⟨q.1,q.2.1,q.2.2,λz=>z⟩) λZ' Fs' c s _=>k Z' Fs' c<|s.mono (λ_ z=>z) λ_ z=>.inl z
end
section
variable {K:Jw}{Wx:L2.St->VK}{sl:Cf}{sf sg:O->L O}{C:Call}{σ σ2:L2.St}{Z Z' Z1:Fp}{H H' H1:Hp}{Fs Fs' Fs1:Fps}{η η' η1 ηb:Env}{G G' G1 R F F':Fp}{tg is vs ls io:U O}{pv val:O->L V}{D:b9}
theorem kE {o:L W}{u:Unit}(h:chkL o=.ok u):∃m a,o=Y (m,.lst a):=by
 cases o with
 |none=>cases h
 |some w=>
  obtain⟨m,t⟩:=w;cases t with
  |lst a=>exact⟨m,a,rfl⟩
  |_=>cases h
theorem At.listAt {i j:O}{m:Md}{e:U T}(d:sf i=Y j)(A:At K ⟨sf,pv⟩ σ Z H Fs η G)(h:rd η i=Y (m,.lst e)):∃a b,σ[j]?=Y (Y<|.ref a)/\H a=Y (.lst b):=by obtain⟨v,r,c,_⟩:=A.env i m _ h;obtain⟨a,b,rfl,hx,_⟩:=bx r;exact⟨a,b,c j d,hx⟩
theorem At.ourList {i j:O}{a:OD}{m:Md}{d:U T}(o:sf i=Y j)(n:m≠.s)(f:σ[j]?=Y (Y<|.ref a))(A:At K ⟨sf,pv⟩ σ Z H Fs η G)(h:rd η i=Y (m,.lst d)):
  ∃c,c.length<=LIM/\Fs i a/\H a=Y (.lst c)/\RepL K Z H m.kid d c (λb=>Fs i b/\b≠a)/\(∀u,pv i=Y u->V.ref a=u):=by
 obtain⟨v,r,k,hp⟩:=A.env i m _ h;have e:=k j o;rw[f] at e;cases e;obtain⟨b,c,e,l,g,hx,p⟩:=oz n r;cases e;exact⟨c,l,g,hx,p,hp⟩
theorem se {u w r:W}(h:ib u w=Y r):∃m a,u=(m,.lst a)/\m≠.s/\a.length<LIM/\r=((m.kid.meet<|lf w.1 w.2).up,.lst<|a++[w.2]):=by
 obtain⟨m,t⟩:=u;obtain⟨n,c⟩:=w;cases m with
 |s=>cases h
 | d =>
  cases t with
  |lst a=>
   have b:(if a.length<LIM then Y ((((Md.d.kid.meet (lf n c)).up,.lst (a++[c])):W)) else J)=Y r:=h;split at b
   .rename_i e;cases b;exact⟨.d,a,rfl,by simp,e,rfl⟩
   .cases b
  |_=>cases h
 | o m =>
  cases t with
  |lst a=>
   have b:(if a.length<LIM then Y (((((Md.o m).kid.meet (lf n c)).up,.lst (a++[c])):W)) else J)=Y r:=h;split at b
   .rename_i e;cases b;exact⟨.o m,a,rfl,by simp,e,rfl⟩
   .cases b
  |_=>cases h
theorem sR {a:OD}{m:Md}{g:U T}{i:U V}{w:W}{y:V}{c:Fp}(k:∀b,c b->b≠a)(l:∀b,G b->b≠a)(d:∀b,c b->¬G b)(p:RepL K Z H m g i c)(r:Rep K Z H w.1 w.2 y G):
  ∃G',(∀b,G' b->(c b\/G b)/\b≠a)/\RepL K (λb=>Z b\/((c b\/G b)/\b≠a/\¬G' b)) H (m.meet<|lf w.1 w.2) (g++[w.2]) (i++[y]) G':=by
 obtain⟨G',e,j⟩:=kN (G:=λb=>c b\/G b) (λ_ z=>.inl z) (λ_ z=>.inr z) d p<|RepL.one r.lf;have f:∀b,(c b\/G b)->b≠a:=λb h=>h.elim (k b)<|l b;exact⟨G',λb h=>⟨e b h,f b<|e b h⟩,j.zmono λb h=>h.imp id λq=>⟨q.1,f b q.1,q.2⟩⟩
theorem DE {x:X}{i j:O}{e:E}(l:sf i=Y j)(D:b9)(σ:L2.St)(H:Hp)(h:wS K Wx sf io C (.app x i e) D σ H):
  ∃a g,σ[j]?=Y (Y<|.ref a)/\H a=Y (.lst g)/\wE K sf C e σ H λy H1=>∃g,H1 a=Y (.lst g)/\g.length<sizeLine/\D.nx σ (upd H1 a<|.lst<|g++[y]):=by
 obtain⟨pv,Z,Fs,η,N,A,f⟩:=h;obtain⟨u,h0,h1⟩:=bz<|show Fin K Wx ⟨sf,pv⟩ Z H (tot Fs) D (Fl.of η (chkL<|rd η i)<|oU (evX C x e) η<|rV i) from f;obtain⟨m0,t0,o⟩:=kE h0;obtain⟨a,P,t,ha⟩:=A.listAt l o;obtain⟨⟨w,η1⟩,h2,h3⟩:=bz<|show Fin K Wx ⟨sf,pv⟩ Z H (tot Fs) D (Fl.of η (evX C x e η)<|rV i) from h1;obtain⟨η2,d,h5⟩:=eg<|show Fin K Wx ⟨sf,pv⟩ Z H (tot Fs) D (nxO η1<|((rd η1 i).bind λu=>ib u w).map λu=>M.put η1 i u) from h3;refine⟨a,P,t,ha,gX (sl:=⟨sf,pv⟩) A h2 λy Z' H' Fs' G c r s=>?_⟩;cases e1:rd η1 i with
 |none=>rw[e1] at d;cases d
 | some u1 =>
  rw[e1] at d;cases e2:ib u1 w with
  |none=>rw[show(Y u1).bind (λu=>ib u w)=ib u1 w from rfl,e2] at d;cases d
  |some r1=>rw[show(Y u1).bind (λu=>ib u w)=ib u1 w from rfl,e2] at d;cases d;obtain⟨m,ts,rfl,hm,hlen,rfl⟩:=se e2;obtain⟨g,hl,hf,hx,p,v⟩:=c.ourList l hm t e1;have e3:=p.length;obtain⟨G',Q,g2⟩:=sR (a:=a) (λb h=>h.2) (λb h z=>c.dis b h ⟨i,z ▸ hf⟩) (λb h q=>c.dis b q ⟨i,h.1⟩) p r;refine⟨g,hx,lQ hl,?_⟩;refine change (K:=K) (m':=(m.kid.meet<|lf w.1 w.2).up) (fG _) c e1 hf (λk hk=>by rw[show sf i=Y k from hk] at l;cases l;exact t) (by rw[Jx,e3,JL];lia) v (λb h=>⟨(Q b h).1.imp Lx id,(Q b h).2⟩) (ts':=ts++[w.2]) (by rw[gr];exact g2.zmono λb h=>h.imp id λq=>⟨q.1.imp Lx id,q.2⟩) λZ2 n B2 s2=>h5 σ Z2 _ n B2<|s.trans s2
theorem gg (vs:U O)(η:Env):Nn η (M.share vs η):=λi e=>by
 rw[gM];split
 .rw[e];rfl
 .exact e
theorem rQ {x:X}{e:E}{w:W}(h:evX C x e η=.ok (w,η')):Nn η η':=by
 cases x with
 |q vs ls=>
  obtain⟨⟨u,b⟩,c,a⟩:=ae<|show(evE C e<|pick vs ls η).bind (kX vs η)=_ from h;cases a;show Nn η<|after (M.lf u.1 u.2) vs η;cases f:M.lf u.1 u.2 with
  |d=>intro i e;exact e
  |s=>exact gg vs η
  |o m=>exact gg vs η
 |l vs=>exact(gg vs η).trans<|aH e h
theorem sG {u:W}{g:U W}{r:W×W}(h:jY u g=Y r):∃m a,u=(m,.lst a)/\m≠.s/\((g=[]/\∃t,a.getLast?=Y t/\r=((m.kid,t),(m,.lst a.dropLast)))\/(∃n t j,g=[(n,.int 0)]/\a=t::j/\r=((m.kid,t),(m,.lst j)))):=by
 obtain⟨m,t⟩:=u
 have i:∀m:Md,m≠.s->jY (m,t) g=Y r->∃f a,(m,t)=(f,.lst a)/\f≠.s/\((g=[]/\∃t,a.getLast?=Y t/\r=((f.kid,t),(f,.lst a.dropLast)))\/(∃n t j,g=[(n,.int 0)]/\a=t::j/\r=((f.kid,t),(f,.lst j)))):=λm p h=>by
  unfold jY at h;split at h
  .cases h
  .rename_i v c k b l;cases b;cases e:c.getLast? with
   |none=>rw[e] at h;cases h
   |some t=>rw[e] at h;cases h;exact⟨_,c,rfl,p,.inl ⟨rfl,t,e,rfl⟩⟩
  .rename_i v x c w k b l;cases b;cases h;exact⟨_,_,rfl,p,.inr ⟨_,_,_,rfl,rfl,rfl⟩⟩
  .cases h
 cases m with
 |s=>cases h
 |d=>exact i .d (by simp) h
 |o m=>exact i (.o m) (by simp) h
theorem wX {i j:O}{b:E}(hs:sf i=Y j)(hb:b=.cst (.int 0))(σ:L2.St)(H:Hp)(Q:VK)(h:wE K sf C (.pop i [b]) σ H Q):∃a o y,σ[j]?=Y (Y<|.ref a)/\H a=Y (.lst (y::o))/\Q y (upd H a<|.lst o):=by
 subst hb;obtain⟨pv,Z,Fs,η,w,η',A,ev,k⟩:=h;obtain⟨_,_,h0⟩:=ae<|show(chkL<|rd η i).bind (k9 (evL C [.cst<|.int 0]) η<|pq i)=_ from ev;obtain⟨r,h3,h4⟩:=ae<|show(ofO<|(rd η i).bind λw=>jY w [(.d,.int 0)]).bind (λr=>.ok (r.1,M.put η i r.2))=_ from h0;cases h4;have g:=cG h3;cases e1:rd η i with
 |none=>rw[e1] at g;cases g
 | some u =>
  rw[e1] at g;obtain⟨m,ts,rfl,hm,⟨e,_⟩|⟨n,t,us,_,rfl,rfl⟩⟩:=sG<|show jY u [(.d,.int 0)]=Y r from g
  .cases e
  .obtain ⟨v,r4,l4,p4⟩:=A.env i m _ e1;obtain⟨a,o,rfl,hl,hf,hx,p⟩:=oz hm r4;obtain⟨y,f,x,G1,rfl,P,N,d,ry,p1⟩:=p;refine⟨a,f,y,l4 j hs,hx,?_⟩;have l:f.length<=LIM:=by rw[JY] at hl;lia
   refine nC (K:=K) (G':=G1) (R:=x) (Q:=λH'=>Q y H') hm A e1 hf (λk hk=>l4 k hk) l p4 (λb h=>⟨.inl (N b h).1,(N b h).2⟩) (λb h=>⟨.inl (P b h).1,(P b h).2⟩) (λb h z=>d b h z) (ts':=us) (p1.zmono λb h=>.inl h) λZ' Fs' c s tr=>?_;exact k y Z' _ Fs' x c (tr<|ry.zmono λb h=>.inl h)<|s.mono (λb h=>h.elim id λz=>z.elim) λ_ z=>z
end
section
variable {K:Jw}{Wx:L2.St->VK}{sl:Cf}{sf sg:O->L O}{C:Call}{σ σ2:L2.St}{Z Z' Z1:Fp}{H H' H1:Hp}{Fs Fs' Fs1:Fps}{η η' η1 ηb:Env}{G G' G1 R F F':Fp}{tg is vs ls io:U O}{pv val:O->L V}{D:b9}
def gF (K:Jw):U O->TG
|[j]=>bT j
|[j,l]=>uu K 2<|dU (bT j)<|dU (bT l) uA
|_=>λ_ _ _ _=>OS
theorem uM {fl:Fl}{g:Env->Fl}(f:Fin K Wx sl Z H F D<|Fl.turn fl g):(∃η',fl=.nx η'/\Fin K Wx sl Z H F D (g η'))\/(∃η',fl=.bk η'/\Fin K Wx sl Z H F D (.nx η'))\/(∃w η',fl=.rt w η'/\Fin K Wx sl Z H F D (.rt w η'))\/(∃t η',fl=.ex t η'/\Fin K Wx sl Z H F D (.ex t η')):=by
 cases fl with
 |nx η=>exact .inl ⟨η,rfl,f⟩
 |bk η=>exact .inr<|.inl ⟨η,rfl,f⟩
 |rt w η=>exact .inr<|.inr<|.inl ⟨w,η,rfl,f⟩
 |ex t η=>exact .inr<|.inr<|.inr ⟨t,η,rfl,f⟩
 |no=>exact f.elim
theorem tD {fl:Fl}{g:Env->Fl}{N:L2.St->Hp->Prop}(f:Fin K Wx sl Z H F D<|Fl.turn fl g)(b:∀η' a Z' H' Fs',fl=.nx η'->Fin K Wx sl Z H F D (g η')->At K sl a Z' H' Fs' η' no->Step Z H F Z' H' (tot Fs')->N a H'):Fin K Wx sl Z H F {D with nx:=N,ct:=N,bk:=D.nx} fl:=by
 rcases uM f with⟨η',rfl,f⟩|⟨η',rfl,f⟩|⟨w,η',rfl,f⟩|⟨t,η',rfl,f⟩
 .exactλa Z' H' Fs' A s=>b η' a Z' H' Fs' rfl f A s
 .exact f
 .exact f
 .exact f
theorem tJ {n i:O}{c:It}{ts:U<|U W}{ws:U W}{o:U O}{x:V}{Q:L2.St->Hp->Prop}(hn:tg.length=n)(nd:tg.Nodup)(N:uc sf io pv)(f:∀t∈tg,t ∉ io)(d:tg.map sf=o.map Y)(hz:∀a,Z1 a->Z a)(st:Stay Z1 H1 H)(m:Yld K c Z1 H1 ts n)(A:At K ⟨sf,pv⟩ σ Z H Fs η no)
  (P:ts[i]?=Y ws) (hb:aQ tg ws η=Y ηb) (y:c.yld i H x H') (k:∀σ2 s g,At K ⟨sf,pv⟩ σ2 Z s g ηb no->Step Z H (tot Fs) Z s (tot g)->Q σ2 s):gF K o x σ H' Q:=by
 have hi:i<ts.length:=(KD.mp P).1
 match n,m with
 | 1,m =>
  obtain⟨e0,w,e,r⟩:=m H i x H' st hi y;rw[e0];rw[P] at e;cases e
  match tg,hn,o,d with
  |[t],_,[j],d=>
   cases hb;have v:sf t=Y j:=by simpa using d
   exact k _ H _ (At.set N (f t<|by simp) v A<|r.zmono hz)<|(Step.refl _ _ _).mono (λ_ z=>z) λa h=>(ba h).elim id λz=>z.elim
  |[t],_,[],d=>simp at d
  |[t],_,_::_::_,d=>simp at d
 | 2,m =>
  obtain⟨p,y1,z1,u,w,rfl,sm,hq,e,r1,r2⟩:=m H i x H' st hi y;rw[P] at e;cases e
  match tg,hn,o,d with
  |[t,l],_,[j,j'],d=>
   cases hb;have v:sf t=Y j:=by simp at d;exact d.1
   have M:sf l=Y j':=by simp at d;exact d.2
   have s0:Step Z H no Z H' no:=gw sm;obtain⟨A1,s1⟩:=A.op bO s0;have sn:Stay Z H H':=kz sm;have r1':Rep K Z H' u.1 u.2 y1 no:=(r1.zmono hz).keep sn (λ_ z=>z) λ_ _ z=>z.elim;have r2':Rep K Z H' w.1 w.2 z1 no:=(r2.zmono hz).keep sn (λ_ z=>z) λ_ _ z=>z.elim;have A2:=At.set N (f t<|by simp) v A1 r1';have A3:=At.set N (f l<|by simp) M A2 r2';refine⟨p,[y1,z1],rfl,hq,rfl,y1,[z1],rfl,z1,[],rfl,rfl,k _ _ _ A3<|s1.mono (λa h=>h.elim id λz=>z.elim) λa h=>?_⟩;rcases ba h with h|h
   .exact .inl ((ba h).elim id λz=>z.elim)
   .exact h.elim
  |[t,l],_,[],d=>simp at d
  |[t,l],_,[_],d=>simp at d
  |[t,l],_,_::_::_::_,d=>simp at d
theorem uq {n:O}{k:Ik}{u:U E}{js:U O}{e:U S}(hn:tg.length=n)(nd:tg.Nodup)(hio:∀t∈tg,t ∉ io)(hjs:tg.map sf=js.map Y)(D:b9)(σ:L2.St)(H:Hp)(h:wS K Wx sf io C (.forS vs ls k u tg e) D σ H):
  EO (wI K sf C n k u) (gF K js) (wSs K Wx sf io C e) D σ H:=by
 obtain⟨pv,Z,Fs,η,N,A,f⟩:=h;obtain⟨⟨ws,η2⟩,h1,h2⟩:=bz<|show Fin K Wx ⟨sf,pv⟩ Z H (tot Fs) D (Fl.of η (evL C u<|pick vs ls η)<|uO vs k tg (evSs C e) η) from f;obtain⟨⟨g,η3⟩,h3,h4⟩:=bz<|show Fin K Wx ⟨sf,pv⟩ Z H (tot Fs) D (Fl.of η (ret (M.share vs η)<|bj k ws)<|oh tg<|evSs C e) from h2;obtain⟨ts',ht,e3⟩:=aG h3;have e4:g=ts':=OQ J9 e3;have e5:η3=M.share vs η:=OQ Lm e3;subst e4 e5;have h4':Fin K Wx ⟨sf,pv⟩ Z H (tot Fs) D (b4 tg (evSs C e) g (M.share vs η)):=h4;refine⟨pv,_,qD,_,ws,η2,g,A.quiet (vs:=vs) (ls:=ls),h1,ht,λd Z1 H1 Fs1 c s wk yl=>?_⟩;obtain⟨B1,s1⟩:=d6 (G:=no) A bO c.gd.zal (s.mono (F2:=λa=>tot Fs1 a\/no a) (λ_ z=>z) λa h=>h.elim id λz=>z.elim) λa h=>jL h;obtain⟨B2,s2⟩:=B1.share (vs:=vs);have s3:=(s2 s1).mono (F2:=tot<|fT Fs vs) (λ_ z=>z) λ_ z=>.inl z;have zz:∀a,Z1 a->((Z1 a/\¬da Fs vs a)\/da Fs vs a):=λa h=>(NP<|da Fs vs a).elim .inr λq=>.inl ⟨h,q⟩;refine⟨λi m v H'=>m=g.length-i/\i<=g.length/\∃p j l,At K ⟨sf,pv⟩ v p H' j l no/\Step (λa=>(Z1 a/\¬da Fs vs a)\/da Fs vs a) H1 (tot<|fT Fs vs) p H' (tot j)/\Fin K Wx ⟨sf,pv⟩ p H' (tot j) D (b4 tg (evSs C e) (g.drop i) l),⟨g.length,by simp,Kl _,_,_,_,B2,Step.refl _ _ _,h4'.step s3⟩,?_⟩;rintro i m σi w ⟨rfl,hi,p,j,l,Ai,si,P⟩;have st:Stay Z1 H1 w:=by have:=B2.gd.own.stay si;exact⟨λa o h=>this.1 a o<|zz a h,this.2⟩
 by_cases r:i<g.length
 .right;refine⟨wk.go w i st r,_,λv H' Q=>⟨g.length-(i+1),by lia,Q⟩,λx H' y=>?_⟩;have Q:g[i]?=Y g[i]:=by simp[r]
  rw[iG Q] at P;obtain⟨ηb,hb,fb⟩:=bz<|show Fin K Wx ⟨sf,pv⟩ p w (tot j) D (Fl.of l (ofO<|aQ tg g[i] l) λη1=>Fl.turn (evSs C e η1)<|b4 tg (evSs C e)<|g.drop<|i+1) from P;refine tJ hn nd N hio hjs (λa h=>si.zm a<|zz a h) st yl Ai Q (cG hb) y λσ2 H2 Fs2 A2 t2=>?_;refine⟨pv,p,Fs2,ηb,N,A2,tD (fb.step t2) λη' v Z' H' Fs' _ f' A' s'=>⟨rfl,r,Z',Fs',η',A',(si.trans t2).trans s',f'.step s'⟩⟩
 .left;have hi':i=g.length:=by lia
  subst hi';rw[MT] at P;exact⟨wk.stop w _ st<|JE _,P σi p w j Ai<|Step.refl _ _ _⟩
theorem yP {x:X}{t i j Q:O}{e:E}(hne:t≠i)(hi:t ∉ io)(l:i ∉ io)(hs:sf t=Y j)(n:sf i=Y Q)(D:b9)(σ:L2.St)(H:Hp)(h:wS K Wx sf io C (.asgT x [t,i] e) D σ H):
  kW (wE K sf C e) (uu K 2<|dU (bT j)<|dU (bT Q) uA) D σ H:=by
 obtain⟨pv,Z,Fs,η,N,A,f⟩:=h;obtain⟨⟨w,η1⟩,h1,h2⟩:=bz<|show Fin K Wx ⟨sf,pv⟩ Z H (tot Fs) D (Fl.of η (evX C x e η)<|kM [t,i]) from f;obtain⟨u,P,h4⟩:=eg<|show Fin K Wx ⟨sf,pv⟩ Z H (tot Fs) D (nxO η1<|(xA w).bind λws=>aQ [t,i] ws η1) from h2;refine gX (sl:=⟨sf,pv⟩) A h1 λv Z' H' Fs' G c r s=>?_;obtain⟨m,t0⟩:=w;cases t0 with
 | tup ts =>
  have g:aQ [t,i] (ts.map λt=>(m.kid,t)) η1=Y u:=P
  match ts,g with
  |[a,b],g=>
   cases g;obtain⟨p,xs,rfl,hq,hl,y1,r1,G1,G2,rfl,y,M,d,p1,o,r2,G3,G4,e2,k,g4,d2,p2,q⟩:=r;cases e2;obtain rfl:r2=[]:=q;have B1:=At.setR (w:=(m.kid,a)) (R:=G3) N hi hs c p1 y (λa h=>M a<|k a h) λa h z=>d a z<|k a h;have B2:=At.set (w:=(m.kid,b)) N l n B1 p2;refine⟨p,[y1,o],rfl,hq,rfl,y1,[o],rfl,o,[],rfl,rfl,h4 _ Z' H' _ B2<|s.mono (λ_ z=>z) λa h=>?_⟩;rcases ba h with h|h
   .exact(ba h).imp id (y a)
   .exact .inr (M a<|k a h)
  |[],g=>cases g
  |[_],g=>cases g
  |_::_::_::_,g=>cases g
 |_=>cases P
end
end MR

namespace MR
open PySem PySem.Spec PyProof.Rows L2 L3
section
variable {X:Cx}{sf sg:O->L O}{C:M.Call}{pos p2:Pos}{ea eb ec:ON}{a b c:M.E}{h:OF}{n:O}
theorem aA {e:ON}{t i:TE}(h:PE X e t)(j:∀g H Q,i g H Q->t g H Q):PE X e i:=λf s g H Q d q=>h f s g H Q d<|j g H Q q
theorem gY {e:ON}{t i:TT}(h:PT X e t)(j:∀g H Q,i g H Q->t g H Q):PT X e i:=λf s g H Q d q=>h f s g H Q d<|j g H Q q
theorem zP {e:ON}{t j:TT}(h:PW X e t)(k:∀i H Q,j i H Q->t i H Q):PW X e j:=λf g s i H Q d q=>h f g s i H Q d<|k i H Q q
theorem j8 {g:U ON}{t i:TA}(h:PA X g t)(j:∀f H Q,i f H Q->t f H Q):PA X g i:=λpos e s f H Q d q=>h pos e s f H Q d<|j f H Q q
theorem b0 {s:OW}{t g:TS}(h:PS X s t)(i:∀D f H,g D f H->t D f H):PS X s g:=λe s f H D d q=>h e s f H D d<|i D f H q
theorem mW {s:U OW}{t g:TS}(h:PSs X s t)(i:∀D f H,g D f H->t D f H):PSs X s g:=λe s f H D d q=>h e s f H D d<|i D f H q
theorem iT {j e:ON}{t i:TI}(h:PI X j e t)(k:∀g H R,i g H R->t g H R):PI X j e i:=λf s g H R d q=>h f s g H R d<|k g H R q
theorem E6 {i e:ON}{t j:TI}(h:PI X i e t)(k:PI X i e j):PI X i e (λg H R=>t g H R\/j g H R):=λf s g H R d q=>q.elim (h f s g H R d)<|k f s g H R d
abbrev SE (X:Cx)(sf:O->L O)(C:M.Call)(d:ON)(e:M.E):Prop:=PE X d<|wE X.K sf C e
abbrev SB (X:Cx)(sf:O->L O)(C:M.Call)(d:ON)(e:M.E):Prop:=PT X d<|wT X.K sf C e
abbrev SL (X:Cx)(sf:O->L O)(C:M.Call)(e:U ON)(d:U M.E):Prop:=PA X e<|wL X.K sf C d
abbrev SA (X:Cx)(sf:O->L O)(C:M.Call)(e:U ON)(d:U M.E):Prop:=PA X e<|wA X.K sf C d
abbrev SS (X:Cx)(sf:O->L O)(d:U O)(C:M.Call)(e:OW)(s:M.S):Prop:=PS X e<|wS X.K (xw X) sf d C s
abbrev SSs (X:Cx)(sf:O->L O)(d:U O)(C:M.Call)(e:U OW)(s:U M.S):Prop:=PSs X e<|wSs X.K (xw X) sf d C s
theorem sV (j:O){i:O}{x:Str}(f:sf i=Y j:=by rfl)(e:X.N[j]?=Y x:=by rfl)(g:Vis X.env.scope x:=by first|exact JS rfl|exact JK (JS rfl)|exact JK<|JK rfl)(hd:(x==("__debug__":Str))=false:=by decide)
  (d:(x==("__classdict__":Str))=false:=by decide):SE X sf C (.Name x pos) (.var i):=aA (bX e g hd d)<|C0 f
theorem sM (j:O){i:O}{x:Str}(f:sf i=Y j:=by rfl)(e:X.N[j]?=Y x:=by rfl)(g:Vis X.env.scope x:=by first|exact JS rfl|exact JK (JS rfl)|exact JK<|JK rfl)(hd:(x==("__debug__":Str))=false:=by decide)
  (d:(x==("__classdict__":Str))=false:=by decide):SE X sf C (.Name x pos) (.mv i):=aA (bX e g hd d)<|C2 (λ_=>rfl) f
theorem sI {i:I}{k:O}:SE X sf C (.Constant (.int i) k pos) (.cst<|.int i):=aA tS<|gC λ{_ _}=>rfl
theorem sO {i:OF}{k:O}:SE X sf C (.Constant (.bool i) k pos) (.cst<|.bl i):=aA FL<|gC λ{_ _}=>rfl
theorem sN {k:O}:SE X sf C (.Constant .none k pos) (.cst .non):=aA Ci<|gC λ{_ _}=>rfl
theorem nD (s:OL)(f:s.length<=1000):M.sOk (Str.ofString s)=true:=by
 unfold M.sOk;rw[Str.ofString_eq_toList,JM];refine⟨?_,OE ?_⟩
 .rw [ME];intro x hx;rw[List.mem_toArray,KJ] at hx;obtain⟨c,_,rfl⟩:=hx;refine OE ?_;have:=c.valid;have d:c.toNat<0x110000:=by have e:=c.valid;unfold UInt32.isValidChar Nat.isValidChar at e;show c.val.toNat<_;lia
  exact d
 .rw [J1,JF,Oe];exact JP f<|by decide
theorem sS {s:OL}{k:O}(d:s.length<=1000:=by decide):SE X sf C (.Constant (.str<|Str.ofString s) k pos) (.cst<|.str<|Str.ofString s):=aA mM<|gC λ{_ _}=>⟨rfl,nD s d⟩
theorem sl0:SL X sf C [] []:=j8 fh C5
theorem slc {d:U ON}{bs:U M.E}(e:SE X sf C ea a)(f:SL X sf C d bs)(g:Jz (ea::d) X.env=(Jt,OV ea X.env)::Jz d X.env:=by rfl):SL X sf C (ea::d) (a::bs):=j8 (cn e f g) oA
theorem sT {d:U ON}{bs:U M.E}{f:O}(h:SL X sf C d bs)(e:bs.length<=M.LIM:=by decide):SE X sf C (.Tuple d f pos) (.tup bs):=aA (Cc h)<|Am e
theorem sLs {d:U ON}{bs:U M.E}(e:SL X sf C d bs)(f:bs.length<=M.LIM:=by decide):SE X sf C (.List d pos) (.lst h bs):=aA (Dg e)<|C4 f
theorem sW {m:M.Md}(d:SE X sf C ea a):SE X sf C ea (.wk m a):=aA d Hx
theorem bK (o:SE X sf C ea a)(p:SE X sf C eb b):SE X sf C (.BinOp ea .Add eb pos) (.op .add h [a,b]):=
 aA (gy (op_add.or<|op_add_str.or<|op_cat.or nW) o p) (aO (yp (zN X.K) λ{Z H G Q a b w x A} i j l e u r k=>by
  obtain⟨y,f,g⟩:=r;refine⟨a,b,w,x,rfl,rfl,i,j,l,LIM_le e,λv z d t=>g9 (m:=.s) u f ?_ g k d t⟩;rw[Jx];exact e))
theorem hX (d:SE X sf C ea a)(e:SE X sf C eb b):SE X sf C (.BinOp ea .Sub eb pos) (.op .sub h [a,b]):=aA (gy Dx d e)<|aO v8
theorem vN (d:SE X sf C ea a)(e:SE X sf C eb b):SE X sf C (.BinOp ea .Mult eb pos) (.op .mul h [a,b]):=aA (gy (op_mul.or Dd) d e)<|aO ye
theorem bp (d:SE X sf C ea a)(e:SE X sf C eb b):SE X sf C (.BinOp ea .FloorDiv eb pos) (.op .fdiv h [a,b]):=aA (gy xI d e)<|aO tw
theorem bh (d:SE X sf C ea a)(e:SE X sf C eb b):SE X sf C (.BinOp ea .Mod eb pos) (.op .mod h [a,b]):=aA (gy DS d e)<|aO yI
theorem vT (d:SE X sf C ea a)(e:SE X sf C eb b):SE X sf C (.BinOp ea .Pow eb pos) (.op .pow h [a,b]):=aA (gy AL d e)<|aO yE
theorem Dk (d:SE X sf C ea a):SE X sf C (.UnaryOp .USub ea pos) (.op .neg h [a]):=aA (FA AH d)<|A8 y7
theorem sIx (d:SE X sf C ea a)(e:SE X sf C eb b)(f:eQ eb:=by intro _ _;rfl):SE X sf C (.Subscript ea eb pos) (.op .ix h [a,b]):=aA (tH (ix_any.or Ck) d e f)<|aO DV
mutual
def th:M.T->Th
|.non=>.non | .bl b=>.bl b | .int i=>.int i | .str x=>.str x | .tup ts=>.tup (ths ts) | .lst ts=>.lst (ths ts) | .dct _ _=>.non | .ins _ _ _=>.non | .scr _=>.non | .gone=>.non
def ths:U M.T->U Th
|[]=>[]
|t::ts=>th t::ths ts
end
mutual
theorem om {K:Jw}{Z:Fp}{H:Hp}:∀{t:M.T} {m:M.Md} {v:V} {G:Fp} {n:O},M.dp t<=n->n<=64->Rep K Z H m t v G->Has K H (th t) v/\(toD<|th t).canLay0=Ju/\(toD<|th t).depth<=n
|.non,_,_,_,_,_,_,r=>⟨r,rfl,Kl _⟩
|.bl _,_,_,_,_,_,_,r=>⟨r,rfl,Kl _⟩
|.int _,_,_,_,_,_,_,r=>⟨r,rfl,Kl _⟩
|.str x,_,_,_,_,_,_,r=>⟨r.1,by have h:=r.2;unfold M.sOk at h;rw[JM] at h;exact h.1,Kl _⟩
| .tup ts,m,v,G,n,hd,hn,⟨a,xs,e,q,l,r⟩=>by
 have hd':M.dps ts+1<=n:=hd
 match n,hd' with
 |n+1,hd'=>obtain⟨h1,h2,h3⟩:=eO (n:=n) (by lia) (by lia) r;exact⟨⟨a,xs,e,q,h1⟩,h2,MU h3⟩
| .lst ts,m,v,G,n,hd,hn,⟨a,xs,e,l,q,r⟩=>by
 have hd':M.dps ts+1<=n:=hd
 match n,hd' with
 |n+1,hd'=>obtain⟨h1,h2,h3⟩:=eO (n:=n) (by lia) (by lia) r;exact⟨⟨a,xs,e,by cases m<;>exact q.2,h1⟩,h2,MU h3⟩
|.dct _ _,_,_,_,_,hd,hn,_=>by have:1000<=64:=JP hd hn;lia
|.ins _ _ _,_,_,_,_,hd,hn,_=>by have:1000<=64:=JP hd hn;lia
|.gone,_,_,_,_,hd,hn,_=>by have:1000<=64:=JP hd hn;lia
|.scr _,_,_,_,_,hd,hn,_=>by have:1000<=64:=JP hd hn;lia
theorem eO {K:Jw}{Z:Fp}{H:Hp}:∀{ts:U M.T} {m:M.Md} {xs:U V} {G:Fp} {n:O},M.dps ts<=n->n<=64->RepL K Z H m ts xs G->HasL K H (ths ts) xs/\PyData.canLayAll0 (fR<|ths ts)=Ju/\PyData.depthAll (fR<|ths ts)<=n
|[],_,_,_,_,_,_,r=>⟨r,rfl,Kl _⟩
| t::ts,m,xs,G,n,hd,hn,⟨x,r,G1,G2,e,_,_,_,p,q⟩=>by
 have hd':max (M.dp t) (M.dps ts)<=n:=hd;obtain⟨h1,h2,h3⟩:=om (n:=n) (by lia) hn p;obtain⟨k1,k2,k3⟩:=eO (n:=n) (by lia) hn q;refine⟨⟨x,r,e,h1,k1⟩,?_,?_⟩
 .show ((toD<|th t).canLay0&&PyData.canLayAll0 (fR<|ths ts))=Ju;rw[h2,k2];rfl
 .show max (toD<|th t).depth (PyData.depthAll<|fR<|ths ts)<=n;lia
end
mutual
theorem jg:∀(t u:M.T),M.dp t<=64->M.dp u<=64->PyData.eqv (toD<|th t) (toD<|th u)=M.eqT t u
|.dct _ _,_,h,_=>by have:1000<=64:=h;lia
|.ins _ _ _,_,h,_=>by have:1000<=64:=h;lia
|.gone,_,h,_=>by have:1000<=64:=h;lia
|.scr _,_,h,_=>by have:1000<=64:=h;lia
|.non,u,_,h=>by cases u<;>first|rfl|(have:1000<=64:=h;lia)
|.bl a,u,_,h=>by cases u<;>first|rfl|(cases a<;>rfl)|(have:1000<=64:=h;lia)
|.int i,u,_,h=>by
 cases u with
 |bl b=>cases b<;>rfl
 |_=>first|rfl|(have:1000<=64:=h;lia)
|.str x,u,_,h=>by cases u<;>first|rfl|(have:1000<=64:=h;lia)
|.tup ts,u,h1,h=>by
 cases u with
 |tup us=>exact i6 ts us (by have:M.dps ts+1<=64:=h1;lia) (by have:M.dps us+1<=64:=h;lia)
 |_=>first|rfl|(have:1000<=64:=h;lia)
|.lst ts,u,h1,h=>by
 cases u with
 |lst us=>exact i6 ts us (by have:M.dps ts+1<=64:=h1;lia) (by have:M.dps us+1<=64:=h;lia)
 |_=>first|rfl|(have:1000<=64:=h;lia)
theorem i6:∀(ts us:U M.T),M.dps ts<=64->M.dps us<=64->PyData.eqvAll (fR<|ths ts) (fR<|ths us)=M.eqTs ts us
|[],[],_,_=>rfl
|[],_::_,_,_=>rfl
|_::_,[],_,_=>rfl
|t::ts,u::us,h1,h2=>by have h1':max (M.dp t) (M.dps ts)<=64:=h1;have h2':max (M.dp u) (M.dps us)<=64:=h2;show(PyData.eqv (toD<|th t) (toD<|th u)&&PyData.eqvAll (fR<|ths ts) (fR<|ths us))=(M.eqT t u&&M.eqTs ts us);rw[jg t u (by lia)<|by lia,i6 ts us (by lia)<|by lia]
end
theorem fg {K:Jw}{Z:Fp}{H:Hp}{t:M.T}{m:M.Md}{v:V}{G:Fp}(hd:M.dp t<=64)(r:Rep K Z H m t v G):Has K H (th t) v/\okTh (th t):=by obtain⟨d,e,f⟩:=om hd (JE _) r;refine⟨d,?_⟩;show((toD<|th t).canLay0&&decide ((toD<|th t).depth<=64))=Ju;rw[e,OE f];rfl
theorem rm {K:Jw}:Loc K 2 .eq h λj H Q=>∀x y,j=[x,y]->∃t i,Has K H t x/\Has K H i y/\okTh t/\okTh i/\Q (.bl<|PyData.eqv (toD t)<|toD i) H:=by
 intro N w j Z H G Q z e r A P k x y hx;subst hx;obtain⟨⟨m,a⟩,⟨n,b⟩,rfl⟩:=cK r.length.symm;obtain⟨u,v,D,F,d,r1,r2⟩:=bI r;have g:(if decide (M.dp a<=64)&&decide (M.dp b<=64) then Y ((.d,.bl (M.eqT a b)):M.W) else J)=Y w:=e;split at g
 .rename_i f;rw[JM,OP,OP] at f;cases g;obtain⟨l,p⟩:=fg f.1 r1;obtain⟨o,s⟩:=fg f.2 r2;refine⟨th a,th b,l,o,p,s,?_⟩;rw[jg a b f.1 f.2];exact bN k
 .cases g
theorem B9 {K:Jw}:Loc K 2 .ne h λj H Q=>∀x y,j=[x,y]->∃t i,Has K H t x/\Has K H i y/\okTh t/\okTh i/\Q (.bl<|!PyData.eqv (toD t) (toD i)) H:=by
 intro N w j Z H G Q z e r A P k x y hx;subst hx;obtain⟨⟨m,a⟩,⟨n,b⟩,rfl⟩:=cK r.length.symm;obtain⟨u,v,D,F,d,r1,r2⟩:=bI r;have g:(if decide (M.dp a<=64)&&decide (M.dp b<=64) then Y ((.d,.bl (!M.eqT a b)):M.W) else J)=Y w:=e;split at g
 .rename_i f;rw[JM,OP,OP] at f;cases g;obtain⟨l,p⟩:=fg f.1 r1;obtain⟨o,s⟩:=fg f.2 r2;refine⟨th a,th b,l,o,p,s,?_⟩;rw[jg a b f.1 f.2];exact bN k
 .cases g
theorem sEq (f:Room n X.A)(d:SE X sf C ea a)(e:SE X sf C eb b):SE X sf C (.Compare ea [.Eq] [eb] pos) (.op .eq h [a,b]):=aA (oG (nR f.units) d e<|cZ _)<|aO rm
theorem nu {K:Jw}{Z:Fp}{H:Hp}{t:M.T}{m:M.Md}{x:V}{G:Fp}(d:t.isG=Jt)(r:Rep K Z H m t x G):decide (x=V.non)=t.isN:=by
 cases t with
 |non=>rw[show x=_ from r];rfl
 |bl _=>rw[show x=_ from r];rfl
 |int _=>rw[show x=_ from r];rfl
 |str _=>rw[show x=_ from r.1];rfl
 |tup _=>obtain⟨p,_,e,_⟩:=r;rw[show x=_ from e];rfl
 |lst _=>obtain⟨p,_,e,_⟩:=r;rw[show x=_ from e];rfl
 |scr _=>obtain⟨p,e,_⟩:=r;rw[show x=_ from e];rfl
 |dct _ _=>obtain⟨p,_,e,_⟩:=r;rw[show x=_ from e];rfl
 |ins _ _ _=>obtain⟨_,p,_,_,_,e,_⟩:=r;rw[show x=_ from e];rfl
 |gone=>cases d
theorem ifN {d:Type}{b:OF}{x:L d}{y:d}(h:(if b=Ju then J else x)=Y y):b=Jt/\x=Y y:=by cases b<;>first|exact⟨rfl,h⟩|cases h
theorem BQ {K:Jw}:Loc K 2 .is h λf H Q=>∀x y,f=[x,y]->y=.non/\Q (.bl<|decide (x=.non)) H:=by
 intro t w f Z H G Q l e r o u k x y hx;subst hx;obtain⟨⟨m,a⟩,⟨n,b⟩,rfl⟩:=cK r.length.symm;obtain⟨i,j,p,s,d,r1,r2⟩:=bI r;obtain rfl:b=.non:=by cases b<;>first|rfl|(cases e;done)|(cases a<;>cases e)
 obtain⟨g,e⟩:=ifN<|show(if a.isG=Ju then J else Y _)=_ from e;cases e;rw[nu g r1];exact⟨r2,bN k⟩
theorem oX {K:Jw}:Loc K 2 .isnot h λf H Q=>∀x y,f=[x,y]->y=.non/\Q (.bl<|!decide (x=.non)) H:=by
 intro t w f Z H G Q l e r o u k x y hx;subst hx;obtain⟨⟨m,a⟩,⟨n,b⟩,rfl⟩:=cK r.length.symm;obtain⟨i,j,p,s,d,r1,r2⟩:=bI r;obtain rfl:b=.non:=by cases b<;>first|rfl|(cases e;done)|(cases a<;>cases e)
 obtain⟨g,e⟩:=ifN<|show(if a.isG=Ju then J else Y _)=_ from e;cases e;rw[nu g r1];exact⟨r2,bN k⟩
theorem nO {K:Jw}{Z:Fp}{H:Hp}{G:Fp}{m:M.Md}{f:U M.T}{i:U V}(lo g:L I)(r:RepL K Z H m f i G):RepL K Z H m (M.cut f lo g) (eD i lo g) G:=by
 have e:=r.length;have j:∀n d o,HT.sIx n d o=M.sIx n d o:=λn d o=>by cases o<;>rfl
 have k:eD i lo g=(i.drop (M.sIx f.length 0 lo)).take (M.sIx f.length f.length g-M.sIx f.length 0 lo):=by unfold eD;rw[j,j,e]
 rw[k];exact(r.drop _).take _
theorem rP (g:U I)(lo e:L I):eD (g.map V.int) lo e=(M.cut g lo e).map V.int:=by
 have f:∀n d o,HT.sIx n d o=M.sIx n d o:=λn d o=>by cases o<;>rfl
 unfold eD M.cut;rw[f,f,JF,List.map_take,List.map_drop]
theorem CT {f:Type}(d:U f)(lo e:L I):(M.cut d lo e).length<=d.length:=by unfold M.cut;rw[MA,LD];lia
theorem Af {K:Jw}{Z:Fp}{H:Hp}{G t:Fp}{Q:VK}{m:M.Md}{a:M.T}{x:V}{w:M.W}{lo hi:L I}(D:∀b,t b->G b)(A:Own Z H G)(F:∀a,Z a->H a≠J)(r:Rep K Z H m a x t)
  (e:(match a with | .lst j=>M.newL h m.kid (M.cut j lo hi) | .tup j=>Y ((.s,.tup<|M.cut j lo hi):M.W) | .scr y=>Y (.d,.lst<|(M.cut y lo hi).map M.T.int)|_=>J)=Y w) (k:Out K Z H G w Q):AM K x lo hi H Q\/C9 K x lo hi H Q:=by
 cases a with
 |lst j=>obtain⟨p,o,rfl,g,u,q⟩:=bx r;refine .inl ⟨p,o,rfl,.inl<|.inl g,λl f=>?_⟩;exact dw A F (JP (cq o lo hi) u) ⟨t,D,(nO lo hi q).zmono λ_ z=>.inl z⟩ e k f
 |tup j=>obtain⟨p,o,rfl,g,u,q⟩:=bY r;cases e;refine .inr ⟨p,o,rfl,g,λv H' i hv=>?_⟩;exact g9 (m:=.s) (G':=no) A (λ_ z=>z.elim) (JP (cq o lo hi) u) ((RepL.sh<|nO lo hi q).zmono λb P=>P.imp id λz=>⟨D b z,λq=>q⟩) k i hv
 |scr y=>obtain⟨p,rfl,N,g⟩:=r;cases e;refine .inl ⟨p,_,rfl,g.sq,λl f=>?_⟩;rw[rP];exact b6 (m:=.d) (G':=no) A F (λ_ z=>z.elim) (by rw[JF];exact JP (CT y lo hi) N) (mr _) (by simp) k f
 |_=>cases e
theorem pw {p3:Pos}(f:SE X sf C ea a)(g:SE X sf C eb b):SE X sf C (.Subscript ea (.Slice (Y eb) J J p3) pos) (.op .sl1 h [a,b]):=
 aA (qz (sl_list.or wB) f (xU g) yX) (λs H Q j=>aO (r:=λx y H Q=>∃i,y=.int i/\(AM X.K x (Y i) J H Q\/C9 X.K x (Y i) J H Q)) (by
  intro A w D Z H G Q v e r l p k x y hx;subst hx;obtain⟨⟨m,a⟩,⟨n,b⟩,rfl⟩:=cK r.length.symm;obtain⟨t,u,o,z,d,r1,r2⟩:=bI r;obtain⟨i,rfl⟩:∃i,b=.int i:=by cases a<;>first|(cases e;done)|(cases b<;>first|exact⟨_,rfl⟩|(cases e;done))
  exact⟨i,r2,Af (h:=h) (lo:=Y i) (hi:=J) o l p r1 (by cases a<;>exact e) k⟩) s H Q j)
theorem j1 {K:Jw}:Loc K 1 .len h λd H Q=>∃x n,d=[x]/\Gb K x H n/\Q (.int n) H:=by intro j w d Z H G Q g e r i l k;obtain⟨x,n,hx,f,q⟩:=yD (h:=h) j w d Z H G Q g e r i l k;exact⟨x,n,hx,by cases x<;>exact f,q⟩
section
variable {p:Pos}{x1:Str}
theorem iq (hm:X.mg "len"=J)(f:Gl X "len":=by rfl)(ha:SE X sf C ea a)(e:Jz [ea] X.env=(Jt,OV ea X.env)::Jz [] X.env:=by rfl)(d:(JZ pos<|Jz [] X.env).any (·.1)=false:=by rfl):SE X sf C (.Call (.Name "len" p) [ea] [] pos) (.op .len h [a]):=
 aA (ck lj f hm NA (slc ha sl0 e) (by decide) (by decide) e d) (eC j1 rfl)
theorem I0 (f:X.calm=true:=by rfl)(hm:X.mg "sum"=J)(g:Gl X "sum":=by rfl)(ha:SE X sf C ea a)(e:Jz [ea] X.env=(Jt,OV ea X.env)::Jz [] X.env:=by rfl)(d:(JZ pos<|Jz [] X.env).any (·.1)=false:=by rfl):SE X sf C (.Call (.Name "sum" p) [ea] [] pos) (.op .sum h [a]):=
 aA (ck (oV f) g hm (by rfl) (slc ha sl0 e) (by decide) (by decide) e d) (eC y6 rfl)
theorem tq (hm:X.mg "list"=J)(f:Gl X "list":=by rfl)(ha:SE X sf C ea a)(e:Jz [ea] X.env=(Jt,OV ea X.env)::Jz [] X.env:=by rfl)(d:(JZ pos<|Jz [] X.env).any (·.1)=false:=by rfl):SE X sf C (.Call (.Name "list" p) [ea] [] pos) (.op .list h [a]):=
 aA (dM i1 f hm NW (slc ha sl0 e) (by decide) (by decide) e d) (eC qP rfl)
theorem Ig (g:X.calm=true:=by rfl)(hm:X.mg "max"=J)(i:Gl X "max":=by rfl)(ha:SE X sf C ea a)(hb:SE X sf C eb b)(f:Jz [ea,eb] X.env=(Jt,OV ea X.env)::Jz [eb] X.env:=by rfl)(e:Jz [eb] X.env=(Jt,OV eb X.env)::Jz [] X.env:=by rfl)(d:(JZ pos<|Jz [eb] X.env).any (·.1)=false:=by rfl):SE X sf C (.Call (.Name "max" p) [ea,eb] [] pos) (.op .max h [a,b]):=
 aA (ck (pR g) i hm (by rfl) (slc ha (slc hb sl0 e) f) (by decide) (by decide) f d) (eC yC rfl)
theorem FU (g:X.calm=true:=by rfl)(hm:X.mg "min"=J)(i:Gl X "min":=by rfl)(ha:SE X sf C ea a)(hb:SE X sf C eb b)(f:Jz [ea,eb] X.env=(Jt,OV ea X.env)::Jz [eb] X.env:=by rfl)(e:Jz [eb] X.env=(Jt,OV eb X.env)::Jz [] X.env:=by rfl)(d:(JZ pos<|Jz [eb] X.env).any (·.1)=false:=by rfl):SE X sf C (.Call (.Name "min" p) [ea,eb] [] pos) (.op .min h [a,b]):=
 aA (ck (ql g) i hm (by rfl) (slc ha (slc hb sl0 e) f) (by decide) (by decide) f d) (eC xh rfl)
end
theorem ze {K:Jw}{x:V}{H:Hp}{k:OF}(h:TrV K x H k):BO K x H k:=by
 cases x with
 |ref p=>exact h.imp id .inl
 |byt _=>exact h.elim
 |_=>exact h
theorem tB (m:SE X sf C ea a)(o:∀e,Px ea X.env e=(do let v <- e;standAt ea.pos;holding [v] (truthy v)):=by intro _;rfl):SB X sf C ea a:=
 gY (t7 m o) λx H Q h=>by obtain⟨t,Z,i,u,w,g,b,A,ev,p,k⟩:=h;exact⟨t,Z,i,u,w,g,A,ev,λv l j f G d r s=>⟨b,ze<|pO p r,k l j f d.bare<|s.mono (λ_ z=>z) λ_ z=>.inl z⟩⟩
theorem Hf (d:SB X sf C ea a):SB X sf C (.UnaryOp .Not ea pos) (.not a):=gY (Dw d) BA
theorem zC {l:L2.St}{H:Hp}{Q:OF->Hp->Prop}(t:∀i w e,M.evE C a i=.ok (w,e)->∃b,w.2=.bl b)(h:wT X.K sf C a l H Q):zE (wE X.K sf C a) l H Q:=by obtain⟨u,Z,m,i,w,e,b,A,ev,j,k⟩:=h;refine⟨u,Z,m,i,w,e,A,ev,λv p o f G d r s=>⟨b,?_,k p o f d.bare<|s.mono (λ_ z=>z) λ_ z=>.inl z⟩⟩;obtain⟨x,g⟩:=t _ _ _ ev;rw[g] at j r;cases j;exact r
theorem zK {o:M.Op}(ho:∀u v w,M.oSem o h [u,v]=Y w->∃b,w.2=.bl b):∀f w d,M.evE C (.op o h [a,b]) f=.ok (w,d)->∃b,w.2=.bl b:=λf w d e=>by obtain⟨p,i,j⟩:=bW e;obtain⟨u,l,k,_,e2,rfl⟩:=ay i;obtain⟨v,m,k,_,g,rfl⟩:=ay e2;cases g;exact ho u v w j
theorem bF {op:CmpOp}{r:R2}{o:M.Op}(ho:OpR X (Kh op) r)(f:SE X sf C ea a)(g:SE X sf C eb b)(j:Kt op eb=Jt)(i:∀d H Q,wE X.K sf C (.op o h [a,b]) d H Q->tOp r (wE X.K sf C a) (wE X.K sf C b) d H Q)
  (e:∀u v w,M.oSem o h [u,v]=Y w->∃b,w.2=.bl b):SB X sf C (.Compare ea [op] [eb] pos) (.op o h [a,b]):=
 gY (jk ho f g j) λd H Q k=>i d H _<|zC (zK e) k
theorem Fd {u v w:M.W}(e:M.oSem .eq h [u,v]=Y w):∃b,w.2=.bl b:=by
 obtain⟨m,a⟩:=u;obtain⟨n,b⟩:=v;have f:(if decide (M.dp a<=64)&&decide (M.dp b<=64) then Y ((.d,.bl (M.eqT a b)):M.W) else J)=Y w:=e;split at f
 .cases f;exact⟨_,rfl⟩
 .cases f
theorem Gj {u v w:M.W}(e:M.oSem .ne h [u,v]=Y w):∃b,w.2=.bl b:=by
 obtain⟨m,a⟩:=u;obtain⟨n,b⟩:=v;have f:(if decide (M.dp a<=64)&&decide (M.dp b<=64) then Y ((.d,.bl (!M.eqT a b)):M.W) else J)=Y w:=e;split at f
 .cases f;exact⟨_,rfl⟩
 .cases f
theorem Gn {u v w:M.W}(e:M.oSem .is h [u,v]=Y w):∃b,w.2=.bl b:=by
 obtain⟨m,a⟩:=u;obtain⟨n,b⟩:=v;obtain rfl:b=.non:=by cases b<;>first|rfl|(cases e;done)|(cases a<;>cases e)
 obtain⟨_,e⟩:=ifN<|show(if a.isG=Ju then J else Y _)=_ from e;cases e;exact⟨_,rfl⟩
theorem tf {u v w:M.W}(e:M.oSem .isnot h [u,v]=Y w):∃b,w.2=.bl b:=by
 obtain⟨m,a⟩:=u;obtain⟨n,b⟩:=v;obtain rfl:b=.non:=by cases b<;>first|rfl|(cases e;done)|(cases a<;>cases e)
 obtain⟨_,e⟩:=ifN<|show(if a.isG=Ju then J else Y _)=_ from e;cases e;exact⟨_,rfl⟩
theorem pJ (d:SE X sf C ea a)(f:SE X sf C eb b):SB X sf C (.Compare ea [.Lt] [eb] pos) (.op .lt h [a,b]):=bF Fz d f (cZ _) (aO Cg) λu v w e=>by obtain⟨_,_,_,_,_,_,rfl⟩:=vo e;exact⟨_,rfl⟩
theorem IT (d:SE X sf C ea a)(f:SE X sf C eb b):SB X sf C (.Compare ea [.LtE] [eb] pos) (.op .le h [a,b]):=bF Ew d f (cZ _) (aO Cy) λu v w e=>by obtain⟨_,_,_,_,_,_,rfl⟩:=uk e;exact⟨_,rfl⟩
theorem fV (d:SE X sf C ea a)(f:SE X sf C eb b):SB X sf C (.Compare ea [.Gt] [eb] pos) (.op .gt h [a,b]):=bF Gk d f (cZ _) (aO Ax) λu v w e=>by obtain⟨_,_,_,_,_,_,rfl⟩:=qE e;exact⟨_,rfl⟩
theorem Hz (d:SE X sf C ea a)(f:SE X sf C eb b):SB X sf C (.Compare ea [.GtE] [eb] pos) (.op .ge h [a,b]):=bF EC d f (cZ _) (aO A7) λu v w e=>by obtain⟨_,_,_,_,_,_,rfl⟩:=vH e;exact⟨_,rfl⟩
theorem aD (g:Room n X.A)(d:SE X sf C ea a)(f:SE X sf C eb b):SB X sf C (.Compare ea [.Eq] [eb] pos) (.op .eq h [a,b]):=bF (nR g.units) d f (cZ _) (aO rm) λu v w e=>Fd e
theorem jU (g:Room n X.A)(d:SE X sf C ea a)(f:SE X sf C eb b):SB X sf C (.Compare ea [.NotEq] [eb] pos) (.op .ne h [a,b]):=bF (yx g.units) d f (cZ _) (aO B9) λu v w e=>Gj e
theorem xQ (d:SE X sf C ea a)(f:SE X sf C eb b):SB X sf C (.Compare ea [.Is] [eb] pos) (.op .is h [a,b]):=bF AX d f (cZ _) (aO BQ) λu v w e=>Gn e
theorem IJ (d:SE X sf C ea a)(f:SE X sf C eb b):SB X sf C (.Compare ea [.IsNot] [eb] pos) (.op .isnot h [a,b]):=bF yR d f (cZ _) (aO oX) λu v w e=>tf e
abbrev SW (X:Cx)(sf:O->L O)(C:M.Call)(d:ON)(e:M.E):Prop:=PW X d<|wT X.K sf C e
theorem wA1 (d:SB X sf C ea a):SW X sf C (.BoolOp .And [ea] pos) a:=xE d
theorem wO1 (d:SB X sf C ea a):SW X sf C (.BoolOp .Or [ea] pos) a:=Bs d
theorem fF {rest:U ON}(d:SB X sf C ea a)(e:SW X sf C (.BoolOp .And (eb::rest) pos) b):SW X sf C (.BoolOp .And (ea::eb::rest) pos) (.and a b):=zP (DA d e) Bv
theorem wOr {rest:U ON}(d:SB X sf C ea a)(e:SW X sf C (.BoolOp .Or (eb::rest) pos) b):SW X sf C (.BoolOp .Or (ea::eb::rest) pos) (.or a b):=zP (E1 d e) EH
theorem tW (h:SW X sf C ea a):SB X sf C ea a:=h.pt
theorem sIf (f:SB X sf C ec c)(d:SE X sf C ea a)(e:SE X sf C eb b):SE X sf C (.IfExp ec ea eb pos) (.ifx c a b):=aA (uv f d e) Ao
theorem jG {e:ON}(d:SE X sf C ea a):PI X e ea (wI X.K sf C 1 .seq [a]):=iT (E6 (oi d)<|vw d) DJ
theorem CB {f:ON}{p:Pos}(hm:X.mg "range"=J)(e:Gl X "range":=by rfl)(ha:SE X sf C ea a)(d:Jz [ea] X.env=[(Jt,OV ea X.env)]:=by rfl):PI X f (.Call (.Name "range" p) [ea] [] pos) (wI X.K sf C 1 .rng [a]):=iT (pe e hm (slc ha sl0 d) d) zi
theorem CN {g:ON}{p:Pos}(hm:X.mg "range"=J)(f:Gl X "range":=by rfl)(ha:SE X sf C ea a)(hb:SE X sf C eb b)(e:Jz [ea,eb] X.env=[(Jt,OV ea X.env),(Jt,OV eb X.env)]:=by rfl)(d:Jz [eb] X.env=[(Jt,OV eb X.env)]:=by rfl):PI X g (.Call (.Name "range" p) [ea,eb] [] pos) (wI X.K sf C 1 .rng [a,b]):=iT (oY f hm (slc ha (slc hb sl0 d)<|by rw[e,d]) e d) wU
noncomputable def lkN:U O->O->O->L O
|[],_,_=>J
|t::d,n,i=>if i=t then Y n else lkN d (n+1) i
theorem nG:∀{l:U O} {n i j:O},lkN l n i=Y j->∃k,l[k]?=Y i/\j=n+k/\i ∉ l.take k
|[],_,_,_,h=>by cases h
| t::m,n,i,j,h=>by
 have d:(if i=t then Y n else lkN m (n+1) i)=Y j:=h;split at d
 .rename_i e;cases d;exact⟨0,by rw[e];rfl,rfl,by simp⟩
 .rename_i e;obtain⟨k,f,o,g⟩:=nG d;exact⟨k+1,f,by lia,by rw[JG,JX];exactλz=>z.elim e g⟩
def inF (e d:U O):O->L O:=lkN (e++d) 0
theorem dn {d g l:U O}(h:g.map sf=l.map Y):hE sf (inF d g) d l:=λi j r=>by
 obtain⟨k,f,m,o⟩:=nG<|show lkN (d++g) 0 i=Y j from r;rw[LX] at m;subst m;by_cases hk:j<d.length
 .rw [LY hk] at f;exact .inl ⟨j,f,rfl⟩
 .have e:d.length<=j:=Oj hk;rw[LZ e] at f;refine .inr ⟨λp=>o ?_,?_⟩
  .rw [List.take_append,Nd e];exact K8 _ p
  .have e1:(g.map sf)[j-d.length]?=Y (sf i):=by rw [Ki,f]; rfl
   rw[h,Ki] at e1;cases e2:l[j-d.length]? with
   |none=>rw[e2] at e1;cases e1
   |some s=>rw[e2] at e1;exact⟨j-d.length,s,by lia,e2,(Kg e1).symm⟩
theorem D6 {x:Str}{k:Pos}{e:U Str}{d:OZ}{g:U<|Str×OD}(S:aE [x] e d)(f:OD)(s:Jv)(H:Hp)(j:U OD):PG (az X ([x]++e) d g f s H j) (.Name x k) (gT X.K 1):=
 bC (X:=az X ([x]++e) d g f s H j) (i:=0) (x:=x) (pos:=k) S.nd rfl (.inl<|Ls<|S.loc x<|by simp) (.inr<|Ls<|S.loc x<|by simp)
theorem Ek {x y:Str}{m o pt:Pos}{l:O}{e:U Str}{d:OZ}{g:U<|Str×OD}(p:X.calm=Ju)(S:aE [x,y] e d)(f:OD)(s:Jv)(H:Hp)(j:U OD):PG (az X ([x,y]++e) d g f s H j) (.Tuple [.Name x m,.Name y o] l pt) (gT X.K 2):=
 jB (X:=az X ([x,y]++e) d g f s H j) (pos:=pt) (k:=l) (n:=2) p (bE (bC (pos:=m) (i:=0) (x:=x) S.nd rfl (.inl<|Ls<|S.loc x<|by simp) (.inr<|Ls<|S.loc x<|by simp))<|bE (bC (pos:=o) (i:=1) (x:=y) S.nd rfl (.inl<|Ls<|S.loc y<|by simp) (.inr<|Ls<|S.loc y<|by simp)) gc)
end
end MR

namespace MR
open PySem PySem.Spec PyProof.Rows L2 L3
section
variable {X:Cx}{sf sg:O->L O}{C:M.Call}{pos p2:Pos}{ea eb ec:ON}{a b c:M.E}{h:OF}{n:O}{io:U O}
section
variable {elt iter cnd:ON}{x y:Str}{px py pt:Pos}{kt:O}{scope:OZ}{cl:U (Str×OD)}{ys:U Str}{tg ls is:U O}{k:M.Ik}{src:U M.E}{e cd:M.E}
theorem sC1 (ls:U O)(is:U O)(cl:U<|Str×OD)(ys:U Str){t:O}(o:PI X (.Name x px) iter<|wI X.K sf C 1 k src)(m:∀f s H g,SE (az X ([x]++ys) scope cl f s H g) (inF [t] ls) C elt e)
  (S:aE [x] ys scope) (i:Clo X cl) (fr:Frees X scope cl ys is) (l:X.calm=true:=by rfl) (r:ls.map sf=is.map some:=by rfl)
  (d:KG scope X.env=pure cl:=by with_unfolding_all rfl) (j:(scope.names.all λp=>p.2 != .free || (cl.lookup p.1).isSome)=true:=by rfl)
  (u:∀v,Kp iter X.env v=pure v:=by intro _;rfl):SE X sf C (.ListComp elt [⟨.Name x px,iter,[],0⟩] scope pos) (.comp h k src [t] J e):=
 aA (qd (pre:=[x]) l o (D6 S) (λf s H g=>m f s H g) d S i j fr u) (gm rfl (by simp) (dn r))
end
def spS (K:Jw)(C:M.Call)(f:O)(io:U O):Sp:=λd H Q _=>spC K C f io d H Q
theorem sa0:SA X sf C [] []:=j8 fh BF
theorem sac {d:U ON}{bs:U M.E}(e:SE X sf C ea a)(f:SA X sf C d bs)(g:∀i,a≠.io i:=by intro _ z;cases z)(j:Jz (ea::d) X.env=(Jt,OV ea X.env)::Jz d X.env:=by rfl):SA X sf C (ea::d) (a::bs):=j8 (cn e f j)<|vk g
theorem sai (j:O){i:O}{x:Str}{d:U ON}{bs:U M.E}(k:SA X sf C d bs)(l:sf i=Y j:=by rfl)(g:X.N[j]?=Y x:=by rfl)(m:Vis X.env.scope x:=by first|exact JS rfl|exact JK (JS rfl)|exact JK<|JK rfl)(hd:(x==("__debug__":Str))=false:=by decide)
  (e:(x==("__classdict__":Str))=false:=by decide) (f:Jz (.Name x pos::d) X.env=(Jt,OV (.Name x pos) X.env)::Jz d X.env:=by rfl):SA X sf C (.Name x pos::d) (.io i::bs):=j8 (cn (bX g m hd e) k f)<|oQ l
def af (P:OI)(w:Jy)(K:Jw)(i:Str->L B)(d:OT)(n:O)(C:M.Call)(x:Str)(f:O)(io:U O):Prop:=
 ∃e g ps,eA P w K i d CX0 n e g ps (spS K C f io)/\i x=Y (.ref e)/\Ly K (.ref e)=Ju/\Binds K g ps []
theorem ao {x:Str}{p:Pos}{f:O}{e:U ON}{bs:U M.E}(c:af X.prog X.w X.K X.mg X.base n C x f io)(hr:Room n X.A)(z:SA X sf C (ea::e) bs)(j:gN bs 0=io\/M.ios bs=[]:=by first|exact .inl rfl|exact .inr rfl)(P:Gl X x:=by rfl)(i:(x==("__debug__":Str))=false:=by decide)
  (N:Jz (ea::e) X.env=(Jt,OV ea X.env)::Jz e X.env:=by rfl) (l:(JZ pos<|Jz e X.env).any (·.1)=false:=by rfl):SE X sf C (.Call (.Name x p) (ea::e) [] pos) (.call f bs):=by
 obtain⟨fa,fd,ps,F,hm,hk,D⟩:=c;refine aA (vS (E:=E0) F hr P hm hk D .nil ES z i N l) λσ H Q hw=>?_;have y:=yG j σ H Q hw;obtain⟨pv,Z,u,η,ws,m,A,ev,k⟩:=y;exact⟨pv,Z,u,η,ws,m,A,ev,λt v o g G d r s hv=>by show spS X.K C f io (t++[]) o Q E0;rw[JR];exact k t v o g G d r s hv⟩
theorem ss0:SSs X sf io C [] []:=mW xV yT
theorem ss1 {s:OW}{t:M.S}(d:SS X sf io C s t):SSs X sf io C [s] [t]:=mW (wZ d) yr
theorem ssc {s:OW}{t:M.S}{r:U OW}{u:U M.S}(e:SS X sf io C s t)(d:SSs X sf io C r u):SSs X sf io C (s::r) (t::u):=mW (rZ e d) qJ
theorem HM (j:O){i:O}{x:Str}{p:M.X}{d:Pos}(f:X.N.Nodup)(g:SE X sf C ea a)(l:i ∉ io:=by decide)(o:sf i=Y j:=by rfl)(m:X.N[j]?=Y x:=by rfl)(hx:L2.Loc X.env.scope x:=by first|exact JS rfl|exact JK rfl)
  (e:Kj ea (Y<|.Name x d) pos.line X.env=pure false:=by rfl) (k:X.fn x=Ju\/X.env.scope.names.lookup x=Y .local:=by first|exact .inl rfl|exact .inr rfl):SS X sf io C (.Assign [.Name x d] ea pos) (.asg p i a):=b0 (Cu (i:=j) f m hx g e k)<|gh l o
theorem Hy {f:M.X}(d:SE X sf C ea a)(e:Kj ea J pos.line X.env=pure false:=by rfl):SS X sf io C (.Expr ea pos) (.exp f a):=b0 (nY d e) Bz
theorem ax {e:U O}(d:SE X sf C ea a):SS X sf io C (.Return (Y ea) pos) (.ret e a):=b0 (BM d) BX
theorem zIf {g:M.X}{r u:U OW}{s t:U M.S}(f:SB X sf C ec c)(d:SSs X sf io C r s)(e:SSs X sf io C u t):SS X sf io C (.If ec r u pos) (.ite g c s t):=b0 (GY f d e) By
theorem k7 (j:O){t:O}{x:Str}{l:Pos}{d:ON}{r:U OW}{s:U M.S}{G F:U O}{k:M.Ik}{e:U M.E}(m:X.N.Nodup)(y:PI X (.Name x l) d<|wI X.K sf C 1 k e)(o:SSs X sf io C r s)(f:∀u∈[t],u ∉ io:=by decide)(g:[t].map sf=[j].map some:=by rfl)(z:X.N[j]?=Y x:=by rfl)(hx:L2.Loc X.env.scope x:=by first|exact JS rfl|exact JK rfl)
  (p:X.calm=true:=by rfl) (hp:PassesOwn (JA X.prog X.w) X.A X.env X.xe:=by exact PassesOwn.never) (v:X.fn x=Ju\/X.env.scope.names.lookup x=Y .local:=by first|exact .inl rfl|exact .inr rfl) (D:∀x,Kp d X.env x=pure x:=by intro _;rfl):SS X sf io C (.For (.Name x l) d r [] pos) (.forS G F k e [t] s):=
 b0 (uE hp p y (bC (i:=j) m z hx v) o D) (uq rfl (by simp) f g)
theorem nT (j l:O){t u:O}{x y:Str}{D F pt:Pos}{z:O}{d:ON}{r:U OW}{s:U M.S}{vs ls:U O}{k:M.Ik}{e:U M.E}(o:X.N.Nodup)(P:PI X (.Tuple [.Name x D,.Name y F] z pt) d<|wI X.K sf C 2 k e)(G:SSs X sf io C r s)(g:∀v∈[t,u],v ∉ io:=by decide)(nd:[t,u].Nodup:=by decide)(m:[t,u].map sf=[j,l].map some:=by rfl)(Q:X.N[j]?=Y x:=by rfl)(Z:X.N[l]?=Y y:=by rfl)
  (hx:L2.Loc X.env.scope x:=by first|exact JS rfl|exact JK rfl) (hy:L2.Loc X.env.scope y:=by first|exact JS rfl|exact JK rfl)
  (p:X.calm=true:=by rfl) (hp:PassesOwn (JA X.prog X.w) X.A X.env X.xe:=by exact PassesOwn.never) (H:X.fn x=Ju\/X.env.scope.names.lookup x=Y .local:=by first|exact .inl rfl|exact .inr rfl) (f:X.fn y=Ju\/X.env.scope.names.lookup y=Y .local:=by first|exact .inl rfl|exact .inr rfl) (hs:∀x,Kp d X.env x=pure x:=by intro _;rfl):SS X sf io C (.For (.Tuple [.Name x D,.Name y F] z pt) d r [] pos) (.forS vs ls k e [t,u] s):=
 b0 (uE hp p P (jB (n:=2) p<|bE (bC (i:=j) o Q hx H)<|bE (bC (i:=l) o Z hy f) gc) G hs) (uq rfl nd g m)
theorem ie (j:O){i:O}{x:Str}{xx:M.X}{f e u:Pos}(ha:SE X sf C ea a)(hs:sf i=Y j:=by rfl)(hN:X.N[j]?=Y x:=by rfl)(hv:Vis X.env.scope x:=by first|exact JS rfl|exact JK (JS rfl)|exact JK<|JK rfl)(hd:(x==("__debug__":Str))=false:=by decide)(z:(x==("__classdict__":Str))=false:=by decide)
  (l:Li (.Name x u) "append" X.env (OV (.Name x u) X.env)=OV (.Name x u) X.env:=by rfl)
  (o:((JZ e<|Jz [ea] X.env).all (λx=>!x.1)&&(Lk e<|Lf [] X.env).all (λx=>x.1.isSome)&&decide ([ea].length+([]:U Km).length+(if([]:U Km).isEmpty then 0 else 1)<30))=true:=by rfl)
  (m:(f.endLine==e.line)=true:=by rfl) (t:Jz [ea] X.env=(Jt,OV ea X.env)::Jz [] X.env:=by rfl) (g:(JZ e<|Jz [] X.env).any (·.1)=false:=by rfl) (P:Kj (.Call (.Attribute (.Name x u) "append" f) [ea] [] e) J pos.line X.env=pure false:=by rfl):
  SS X sf io C (.Expr (.Call (.Attribute (.Name x u) "append" f) [ea] [] e) pos) (.app xx i a):=
 b0 (nY (nr N0 PySem.F.slot_list_append PySem.F.type_list_append pM (bX hN hv hd z) (cn ha fh t) l o m t g) P) λD σ H hw=>by obtain⟨p,xs,hj,hp,pv,Z,Fs,η,w,Q,A,ev,k⟩:=DE hs D σ H hw;refine⟨.ref p,hj,.inl ⟨rfl,xs,.inl<|.inl hp⟩,pv,Z,Fs,η,w,Q,A,ev,λv Z' H' y G d r s=>?_⟩;obtain⟨ys,h1,h2,h3⟩:=k v Z' H' y G d r s;exact⟨p,ys,v,rfl,rfl,h1,h2,h3⟩
end
end MR

namespace MR
open PySem PySem.Spec PyProof.Rows L2 L3
section
variable {K:Jw}{Z:Fp}{H:Hp}
theorem jb:∀{a:U M.W} {n i:O} {w:M.W},M.rd (a.map Y++JV n J) i=Y w->a[i]?=Y w
|[],0,i,w,h=>by simp[M.rd] at h
|[],n+1,0,w,h=>by simp[K7,M.rd] at h
|[],n+1,i+1,w,h=>by
 have:M.rd (([]:U M.W).map Y++JV n J) i=Y w:=by simpa[K7,M.rd] using h
 have:=jb this;simp at this
|u::a,n,0,w,h=>by simpa[M.rd] using h
|u::a,n,i+1,w,h=>by
 have:M.rd (a.map Y++JV n J) i=Y w:=by simpa[M.rd] using h
 simpa using jb this
theorem vI:∀{k:U M.W} {c:U V} {G:Fp},RepW K Z H k c G->∃b:Fps,(∀i a,b i a->G a)/\(∀i j a,b i a->b j a->i=j)/\∀i w,k[i]?=Y w->∃v,c[i]?=Y v/\Rep K Z H w.1 w.2 v (b i)
|[],c,G,_=>⟨λ_=>no,λ_ _ h=>h.elim,λ_ _ _ h=>h.elim,λi w h=>by simp at h⟩
| w::k,c,G,⟨x,r,l,t,e,o,s,hd,p,q⟩=>by
 obtain⟨b,d,m,n⟩:=vI q;subst e;refine⟨λi=>match i with | 0=>l|i+1=>b i,λi a h=>?_,λi j a f g=>?_,λi u h=>?_⟩
 .cases i with
  |zero=>exact o a h
  |succ i=>exact s a<|d i a h
 .cases i with
  |zero=>
   cases j with
   |zero=>rfl
   |succ j=>exact OH (d j a g)<|hd a f
  |succ i=>
   cases j with
   |zero=>exact OH (d i a f)<|hd a g
   |succ j=>exact OQ (·+1)<|m i j a f g
 .cases i with
  |zero=>simp only[Nh,MW] at h;subst h;exact⟨x,rfl,p⟩
  |succ i=>simpa using n i u<|by simpa using h
def slN (n:O):O->L O:=λi=>if i<n then Y i else J
theorem fw {o:Cf}{s:L2.St}{f:Fps}{g:M.Env}{G:Fp}{c:U V}(A:At K o s Z H f g G):∀{b:U O} {bs:U M.W},b.Nodup->(∀i∈b,o.pv i=c[i]?/\i<c.length)->M.backs b g=Y bs->RepW K Z H bs (atV b c) (λa=>∃i∈b,f i a)
|[],bs,_,_,h=>by simp only[M.backs,MW] at h;subst h;rfl
| i::b,bs,n,m,h=>by
 simp only[M.backs] at h;cases e:M.rd g i with
 |none=>rw[e] at h;cases h
 | some w =>
  rw[e] at h;simp only[Oh] at h;cases e2:M.backs b g with
  |none=>rw[e2] at h;cases h
  |some t=>
   rw[e2] at h;simp only[Oh,MW] at h;subst h;obtain⟨v,r,_,hp⟩:=A.env i w.1 w.2 e;have k:=m i JJ;obtain⟨u,l⟩:∃u,c[i]?=Y u:=⟨c[i]'k.2,KZ k.2⟩;have:=hp u<|k.1.trans l;subst this;refine⟨v,atV b c,f i,λa=>∃j∈b,f j a,?_,λa h=>⟨i,JJ,h⟩,λa ⟨j,d,h⟩=>⟨j,JW _ d,h⟩,λa h ⟨j,d,p⟩=>?_,r,fw A (KP.mp n).2 (λj d=>m j<|JW _ d) e2⟩
   .rw[atV,KQ,l];rfl
   .exact(KP.mp n).1<|A.gd.dis i j a h p ▸ d
end
section
variable {P:OI}{w:Jy}{K:Jw}{mg:Str->L B}{base:OT}
theorem sF {Z:Fp}{H:Hp}{p:U M.W}{d:U V}{G:Fp}{N:U Str}{n:O}{io:U O}(r:RepW K Z H p d G)(o:Own Z H G)(z:∀a,Z a->H a≠J)(D:d.length<=N.length):
  ∃f,(∀a,tot f a->G a)/\At K ⟨slN N.length,λi=>if i∈io then d[i]? else J⟩ (L2.start N d) Z H f (p.map Y++JV n J) no:=by
 obtain⟨f,g,s,x⟩:=vI r;have l:∀i v,d[i]?=Y v->(L2.start N d)[i]?=Y (Y v):=λi v h=>by have y:=(KD.mp h).1;rw[L2.start,LY<|by simpa using y,Ki,h];rfl
 refine⟨f,λa ⟨i,h⟩=>g i a h,⟨⟨λa ⟨i,h⟩=>o a<|g i a h,s,z⟩,λi m t e=>?_,λa h=>h.elim,λa h=>h.elim,λi u j c b=>?_,λi j b=>?_⟩⟩
 .obtain ⟨v,k,A⟩:=x i (m,t) (jb e);refine⟨v,A,λj b=>?_,λu c=>?_⟩
  .simp only [slN] at b;split at b
   .cases b;exact l i v k
   .cases b
  .simp only at c;split at c
   .rw[k] at c;cases c;rfl
   .cases c
 .simp only at c;simp only[slN] at b;split at b
  .cases b;split at c
   .exact l i u c
   .cases c
  .cases b
 .simp only [slN] at b;split at b
  .cases b;rename_i h;rw[L2.start,Jx,JF,La];lia
  .cases b
theorem Fun.okM {x l:Str}{st:OW}{f:OD}{fd:Kn}{N ps:U Str}{k:O}{C:M.Call}{d:M.Fn}(F:L2.Fun K x l st f fd)(S:au N ps<|defScope st)(hps:d.ps=ps.length)(hle:ps.length<=N.length)(nd:d.io.Nodup)(hio:∀i∈d.io,i<ps.length)
  (hbody:∀ (m:B) (A:JU) (c:U Env) (s:Jv) (H:Hp) (E:XK),Room k (A.deeper (Ky l (defScope st) s.heap.objs.size f m)) ->
   SSs (jw CX0 P w K mg base N l (defScope st) f m A c s H E).nox (slN N.length) d.io C (defBody st) d.body) {g:O} {C':M.Call} (hC:∀ws,C' g ws=M.runF C d ws):eA P w K mg base CX0 (k+1) f fd ps (spS K C' g d.io):=by
 have len:∀y H Q E,spS K C' g d.io y H Q E->y.length=ps.length:=λy H Q E ⟨Z,ws,G,w,bs,r,_,_,hr,_⟩=>by
  rw[hC] at hr;unfold M.runF at hr;split at hr
  .rename_i h;rw[r.length,h,hps]
  .cases hr
 refine F.ok S len λm A c s H y Q E hr h=>⟨_,hbody m A c s H E hr,?_⟩;have p:=len y H Q E h;obtain⟨Z,ws,G,w,bs,r,o,z,b,q⟩:=h;rw[hC] at b;have hwl:ws.length=d.ps:=by rw[<- r.length,p,hps]
 rw[M.x_run _ _ _ hwl] at b;obtain⟨Fs,ft,A0⟩:=sF (n:=d.ns) (io:=d.io) r o z (N:=N) (by lia);refine⟨_,Z,Fs,_,⟨λi i' j h h'=>?_,λi h=>OK h⟩,A0,?_⟩
 .simp only [slN] at h h';split at h
  .split at h'
   .cases h;cases h';rfl
   .cases h'
  .cases h
 have hv:∀i∈d.io,(if i∈d.io then y[i]? else J)=y[i]?/\i<y.length:=λi hi=>⟨OG hi,p ▸ hio i hi⟩;cases e:M.evSs C d.body (ws.map Y++JV d.ns J) with
 | nx η =>
  rw[e] at b;intro σ' Z' H' Fs' D t;simp only[M.Fl.out] at b;cases e2:M.backs d.io η with
  |none=>rw[e2] at b;cases b
  |some cs=>rw[e2] at b;cases b;refine q .non Z' H' no _ rfl (fw D nd hv e2) (λ_ h=>h.elim) (λa h=>h.elim (λz=>z.elim) λ⟨i,_,z⟩=>D.gd.own a ⟨i,z⟩) (t.mono ft λa h=>h.elim (λz=>z.elim) λ⟨i,_,z⟩=>⟨i,z⟩)
 | rt u η =>
  rw[e] at b;intro v σ' Z' H' Fs' G' D rp t;simp only[M.Fl.out] at b;cases e2:M.backs d.io η with
  |none=>rw[e2] at b;cases b
  |some cs=>rw[e2] at b;cases b;exact q v Z' H' G' _ rp (fw D nd hv e2) (λa h ⟨i,_,z⟩=>D.dis a h ⟨i,z⟩) (λa h=>h.elim (D.own a) λ⟨i,_,z⟩=>D.gd.own a ⟨i,z⟩)<|t.mono ft λa h=>h.elim .inr λ⟨i,_,z⟩=>.inl ⟨i,z⟩
 |bk η=>rw[e] at b;cases b
 |ex t η=>rw[e] at b;cases b
 |no=>rw[e] at b;cases b
end
end MR

namespace MR
open PySem PySem.Spec PyProof.Rows L2 L3
def Em (K:Jw)(H:Hp):Th->V->Prop
|.tup _,x=>∃a c,x=.ref a/\SqT K H a c
|.lst _,x=>∃a c,x=.ref a/\SqL K H a c
|.non,x=>x=.non
|.bl b,x=>x=.bl b
|.int i,x=>x=.int i
|.str z,x=>x=.str z
theorem rn {X:Cx}{c:OL}(F:c∈["tuple","str","bool","int","list"]):df X (.builtin "isinstance") (λD H Q=>∃x t,D=[x,.ty c]/\Em X.K H t x/\Q (.bl<|isI c t) H):=by
 intro k s N H D P Q d r h;obtain⟨x,t,rfl,g,q⟩:=h;obtain⟨u,Z,rfl,j,y⟩:=rA r;cases y;have e:Lp X.K (.type t.ty) (.type c)=Y (isI c t):=kit_type.trans<|Al F t;have f:∀A,EP X k N Q (.bool (isI c t)) {s with toks:=A}:=λA=>⟨.bl<|isI c t,H,d.tok A,rfl,q⟩;cases t with
 |non=>obtain rfl:x=.non:=g;exact dI d j .non e f
 |bl b=>obtain rfl:x=.bl b:=g;exact dI d j (.bl b) e f
 |int i=>obtain rfl:x=.int i:=g;exact dI d j (.int i) e f
 |str z=>obtain rfl:x=.str z:=g;exact dI d j (.str z) e f
 |tup G=>obtain⟨a,M,rfl,v⟩:=g;cases j;obtain⟨w,_,p,_⟩:=d.tuple v;obtain⟨o,l,m,_⟩:=p;exact Kx N7 d.kIn ⟨o,l,m⟩ e (λz=>nomatch z) f
 |lst G=>obtain⟨a,M,rfl,v⟩:=g;cases j;obtain⟨w,_,p,_⟩:=d.list v;obtain⟨o,n,l,m,_⟩:=p;exact Kx MZ d.kIn ⟨o,l,m⟩ e (λz=>nomatch z) f
noncomputable def thT:M.T->Th
|.non=>.non | .bl b=>.bl b | .int i=>.int i | .str x=>.str x | .tup _=>.tup [] | .lst _=>.lst [] | .scr _=>.lst [] | .dct _ _=>.non | .ins _ _ _=>.non | .gone=>.non
theorem wc {K:Jw}{Z:Fp}{H:Hp}{t:M.T}{m:M.Md}{x:V}{G:Fp}(a:t.isH=Jt)(r:Rep K Z H m t x G):Em K H (thT t) x/\(thT t).ty=t.ty:=by
 cases t with
 |non=>exact⟨r,rfl⟩
 |bl _=>exact⟨r,rfl⟩
 |int _=>exact⟨r,rfl⟩
 |str _=>exact⟨r.1,rfl⟩
 |tup _=>obtain⟨p,b,e,q,_⟩:=r;exact⟨⟨p,b,e,q⟩,rfl⟩
 |lst _=>obtain⟨p,b,e,_,q,_⟩:=r;exact⟨⟨p,b,e,.inl<|.inl<|by cases m<;>exact q.2⟩,rfl⟩
 |scr _=>obtain⟨p,e,_,q⟩:=r;exact⟨⟨p,_,e,q.sq⟩,rfl⟩
 |dct _ _=>cases a
 |ins _ _ _=>cases a
 |gone=>cases a
theorem vP {t:Th}{u:M.T}{c:OL}(h:t.ty=u.ty):isI c t=M.isOne c u:=by unfold isI M.isOne;rw[h]
section
variable {X:Cx}{sf sg:O->L O}{C:M.Call}{pos p2 p3:Pos}{ea eb ec:ON}{a b c:M.E}{h:OF}{n:O}{io:U O}
theorem Fy {c:OL}{k:Str}(D:c∈["tuple","str","bool","int","list"])(hv:K4 k=Y (.type c))(N:X.mg "isinstance"=J)(g:X.mg k=J)(z:SE X sf C ea a)(F:Gl X "isinstance":=by rfl)(f:Gl X k:=by rfl)(P:k≠"__name__":=by decide)(hd:(k==("__debug__":Str))=false:=by decide)
  (p:Jz [ea,.Name k p2] X.env=(Jt,OV ea X.env)::Jz [.Name k p2] X.env:=by rfl) (j:Jz [.Name k p2] X.env=(Jt,OV (.Name k p2) X.env)::Jz [] X.env:=by rfl) (i:(JZ pos<|Jz [.Name k p2] X.env).any (·.1)=false:=by rfl):
  SE X sf C (.Call (.Name "isinstance" p3) [ea,.Name k p2] [] pos) (.op (.isI [c]) h [a]):=
 aA (ck (rn D) F N Ox (cn z (cn (EJ f g hv P hd) fh j) p) (by decide) (by decide) p i) λσ H Q hw=>by obtain⟨pv,Z,t,η,w,o,A,ev,k⟩:=hw;obtain⟨ws,y,e⟩:=bW ev;obtain⟨⟨m,u⟩,η1,us,e1,e2,rfl⟩:=ay y;cases e2;obtain⟨l,e⟩:=ifN<|show(if u.isH=Ju then J else Y _)=_ from e;cases e;refine⟨pv,Z,t,η,(m,u),o,A,e1,λx Z' H' v G d r s=>?_⟩;obtain⟨t1,t2⟩:=wc l r;refine⟨x,thT u,rfl,t1,?_⟩;have:=bN<|bc d s k;rw[vP t2];rw[show([c].any λc=>M.isOne c u)=M.isOne c u by simp] at this;exact this
theorem He (j:O){i:O}{x:Str}{f d r p:Pos}{o:O}(v:sf i=Y j:=by rfl)(t:X.N[j]?=Y x:=by rfl)(w:Vis X.env.scope x:=by first|exact JS rfl|exact JK (JS rfl)|exact JK<|JK rfl)(hd:(x==("__debug__":Str))=false:=by decide)(s:(x==("__classdict__":Str))=false:=by decide)
  (g:Li (.Name x r) "pop" X.env (OV (.Name x r) X.env)=OV (.Name x r) X.env:=by rfl)
  (l:((JZ d<|Jz [.Constant (.int 0) o p] X.env).all (λx=>!x.1)&&(Lk d<|Lf [] X.env).all (λx=>x.1.isSome)&&decide ([Expr.Constant (.int 0) o p].length+([]:U Km).length+(if([]:U Km).isEmpty then 0 else 1)<30))=true:=by rfl)
  (k:(f.endLine==d.line)=true:=by rfl) (m:Jz [.Constant (.int 0) o p] X.env=(Jt,OV (.Constant (.int 0) o p) X.env)::Jz [] X.env:=by rfl) (e:(JZ d<|Jz [] X.env).any (·.1)=false:=by rfl):
  SE X sf C (.Call (.Attribute (.Name x r) "pop" f) [.Constant (.int 0) o p] [] d) (.pop i [.cst<|.int 0]):=
 aA (nr N0 PySem.F.slot_list_pop PySem.F.type_list_pop vD (bX t w hd s) (cn tS fh m) g l k m e) λA H Q z=>by obtain⟨a,D,y,u,hp,q⟩:=wX v rfl A H Q z;exact⟨.ref a,u,.inl ⟨rfl,_,.inl<|.inl hp⟩,a,_,0,0,y,rfl,rfl,hp,by decide,by decide,by simp[seqIndex?],rfl,q⟩
end
end MR

namespace MR
open PySem PySem.Spec PyProof.Rows L2 L3
structure Txt (mg:Str->L B):Prop where
 isin:mg "isinstance"=J
 int:mg "int"=J
 tup:mg "tuple"=J
 list:mg "list"=J
 bool:mg "bool"=J
 sum:mg "sum"=J
 len:mg "len"=J
 all:mg "all"=J
 zip:mg "zip"=J
 range:mg "range"=J
 enum:mg "enumerate"=J
 any:mg "any"=J
 max:mg "max"=J
 min:mg "min"=J
 sorted:mg "sorted"=J
 str:mg "str"=J
 repr:mg "repr"=J
 abs:mg "abs"=J
 dict:mg "dict"=J
 set:mg "set"=J
 rev:mg "reversed"=J
theorem frc {X:Cx}{a:OZ}{b:U<|Str×OD}{y:Str}{e:U Str}{i:O}{d:U O}{c:OD}(r:Frees X a b e d)(f:X.N[i]?=Y y:=by rfl)(g:Vis X.env.scope y:=by first|exact JS rfl|exact JK (JS rfl)|exact JK<|JK rfl)(h:X.env.kindOf y=Y .cell\/X.env.kindOf y=Y .free:=by first|exact JS rfl|exact JK rfl)
  (j:X.env.cells.lookup y=Y c:=by rfl) (k:b.lookup y=Y c:=by rfl) (l:(Lj a X.env).names.lookup y=Y .cell\/(Lj a X.env).names.lookup y=Y .free:=by first|exact JS rfl|exact JK rfl):Frees X a b (y::e) (i::d):=.cons f g h j k l r
theorem lB {X:Cx}{y:Str}{c:OD}{a:U<|Str×OD}(r:Clo X a)(h:X.env.cells.lookup y=Y c:=by rfl):Clo X ((y,c)::a):=.cons h r
section
variable {X:Cx}{sf sg:O->L O}{C:M.Call}{pos p2 p3:Pos}{ea eb ec:ON}{a b c:M.E}{h:OF}{n:O}{io:U O}
section
variable {elt iter cnd:ON}{x y:Str}{px py pt:Pos}{kt:O}{scope:OZ}{tg:U O}{k:M.Ik}{src:U M.E}{e cd:M.E}
theorem zC1 (j:O)(Q:U O)(P:U O)(g:U<|Str×OD)(G:U Str){z:Str}{Z d:Pos}{xx:M.X}{i t:O}(hi:PI X (.Name x px) iter<|wI X.K sf C 1 k src)(he:∀l s H m,SE (az X ([x]++G) scope g l s H m) (inF [t] Q) C elt e)
  (S:aE [x] G scope) (o:Clo X g) (fr:Frees X scope g G P) (hN:X.N.Nodup) (w:i ∉ io:=by decide) (A:sf i=Y j:=by rfl) (hj:X.N[j]?=Y z:=by rfl) (hz:L2.Loc X.env.scope z:=by first|exact JS rfl|exact JK rfl)
  (F:Kj (.ListComp elt [⟨(.Name x px),iter,[],0⟩] scope pos) (Y<|.Name z Z) d.line X.env=pure true:=by rfl) (hc:X.calm=true:=by rfl) (hl:Q.map sf=P.map some:=by rfl)
  (f:KG scope X.env=pure g:=by with_unfolding_all rfl) (u:(scope.names.all λp=>p.2 != .free || (g.lookup p.1).isSome)=true:=by rfl)
  (hs:∀v,Kp iter X.env v=pure v:=by intro _;rfl) (r:X.fn z=Ju\/X.env.scope.names.lookup z=Y .local:=by first|exact .inl rfl|exact .inr rfl):SS X sf io C (.Assign [.Name z Z] (.ListComp elt [⟨(.Name x px),iter,[],0⟩] scope pos) d) (.asg xx i<|.comp h k src [t] J e):=
 b0 (iR (pre:=[x]) hN hj hz F hc hi (D6 S) (λl s H m=>he l s H m) f S o u fr hs r) λD σ H hw=>gm rfl (by simp) (dn hl) σ H _ (gh w A D σ H hw)
theorem IP (j:O)(Q:U O)(Z:U O)(m:U<|Str×OD)(o:U Str){z:Str}{pz d:Pos}{xx:M.X}{i t:O}(hi:PI X (.Name x px) iter<|wI X.K sf C 1 k src)(r:∀f s H g,SB (az X ([x]++o) scope m f s H g) (inF [t] Q) C cnd cd)(he:∀f s H g,SE (az X ([x]++o) scope m f s H g) (inF [t] Q) C elt e)
  (S:aE [x] o scope) (u:Clo X m) (fr:Frees X scope m o Z) (hN:X.N.Nodup) (F:i ∉ io:=by decide) (G:sf i=Y j:=by rfl) (hj:X.N[j]?=Y z:=by rfl) (hz:L2.Loc X.env.scope z:=by first|exact JS rfl|exact JK rfl)
  (P:Kj (.ListComp elt [⟨(.Name x px),iter,[cnd],0⟩] scope pos) (Y<|.Name z pz) d.line X.env=pure true:=by rfl) (hc:X.calm=true:=by rfl) (hl:Q.map sf=Z.map some:=by rfl)
  (l:KG scope X.env=pure m:=by with_unfolding_all rfl) (A:(scope.names.all λp=>p.2 != .free || (m.lookup p.1).isSome)=true:=by rfl)
  (hs:∀v,Kp iter X.env v=pure v:=by intro _;rfl) (w:X.fn z=Ju\/X.env.scope.names.lookup z=Y .local:=by first|exact .inl rfl|exact .inr rfl):SS X sf io C (.Assign [.Name z pz] (.ListComp elt [⟨(.Name x px),iter,[cnd],0⟩] scope pos) d) (.asg xx i<|.comp h k src [t] (Y cd) e):=
 b0 (iN (pre:=[x]) hN hj hz P hc hi (D6 S) (λf s H g=>he f s H g) (λf s H g=>r f s H g) l S u A fr hs w) λD σ H hw=>jX rfl (by simp) (dn hl) σ H _ (gh F G D σ H hw)
theorem zC2 (j:O)(ls:U O)(Z:U O)(g:U<|Str×OD)(P:U Str){z:Str}{pz d:Pos}{xx:M.X}{i t G:O}(hi:PI X (.Tuple [.Name x px,.Name y py] kt pt) iter<|wI X.K sf C 2 k src)(he:∀l s H m,SE (az X ([x,y]++P) scope g l s H m) (inF [t,G] ls) C elt e)
  (S:aE [x,y] P scope) (o:Clo X g) (fr:Frees X scope g P Z) (hN:X.N.Nodup) (w:i ∉ io:=by decide) (A:sf i=Y j:=by rfl) (hj:X.N[j]?=Y z:=by rfl) (hz:L2.Loc X.env.scope z:=by first|exact JS rfl|exact JK rfl)
  (F:Kj (.ListComp elt [⟨(.Tuple [.Name x px,.Name y py] kt pt),iter,[],0⟩] scope pos) (Y<|.Name z pz) d.line X.env=pure true:=by rfl) (Q:X.calm=true:=by rfl) (hl:ls.map sf=Z.map some:=by rfl) (nd:[t,G].Nodup:=by decide)
  (f:KG scope X.env=pure g:=by with_unfolding_all rfl) (u:(scope.names.all λp=>p.2 != .free || (g.lookup p.1).isSome)=true:=by rfl)
  (hs:∀v,Kp iter X.env v=pure v:=by intro _;rfl) (r:X.fn z=Ju\/X.env.scope.names.lookup z=Y .local:=by first|exact .inl rfl|exact .inr rfl):SS X sf io C (.Assign [.Name z pz] (.ListComp elt [⟨(.Tuple [.Name x px,.Name y py] kt pt),iter,[],0⟩] scope pos) d) (.asg xx i<|.comp h k src [t,G] J e):=
 b0 (iR (pre:=[x,y]) hN hj hz F Q hi (Ek Q S) (λl s H m=>he l s H m) f S o u fr hs r) λD σ H hw=>gm rfl nd (dn hl) σ H _ (gh w A D σ H hw)
theorem I9 (j:O)(Z:U O)(is:U O)(m:U<|Str×OD)(r:U Str){z:Str}{pz d:Pos}{xx:M.X}{i t o:O}(hi:PI X (.Tuple [.Name x px,.Name y py] kt pt) iter<|wI X.K sf C 2 k src)(u:∀f s H g,SB (az X ([x,y]++r) scope m f s H g) (inF [t,o] Z) C cnd cd)(he:∀f s H g,SE (az X ([x,y]++r) scope m f s H g) (inF [t,o] Z) C elt e)
  (S:aE [x,y] r scope) (w:Clo X m) (fr:Frees X scope m r is) (hN:X.N.Nodup) (G:i ∉ io:=by decide) (P:sf i=Y j:=by rfl) (hj:X.N[j]?=Y z:=by rfl) (hz:L2.Loc X.env.scope z:=by first|exact JS rfl|exact JK rfl)
  (Q:Kj (.ListComp elt [⟨(.Tuple [.Name x px,.Name y py] kt pt),iter,[cnd],0⟩] scope pos) (Y<|.Name z pz) d.line X.env=pure true:=by rfl) (hc:X.calm=true:=by rfl) (hl:Z.map sf=is.map some:=by rfl) (nd:[t,o].Nodup:=by decide)
  (l:KG scope X.env=pure m:=by with_unfolding_all rfl) (F:(scope.names.all λp=>p.2 != .free || (m.lookup p.1).isSome)=true:=by rfl)
  (hs:∀v,Kp iter X.env v=pure v:=by intro _;rfl) (A:X.fn z=Ju\/X.env.scope.names.lookup z=Y .local:=by first|exact .inl rfl|exact .inr rfl):SS X sf io C (.Assign [.Name z pz] (.ListComp elt [⟨(.Tuple [.Name x px,.Name y py] kt pt),iter,[cnd],0⟩] scope pos) d) (.asg xx i<|.comp h k src [t,o] (Y cd) e):=
 b0 (iN (pre:=[x,y]) hN hj hz Q hc hi (Ek hc S) (λf s H g=>he f s H g) (λf s H g=>u f s H g) l S w F fr hs A) λD σ H hw=>jX rfl nd (dn hl) σ H _ (gh G P D σ H hw)
end
end
end MR

namespace MR
open PySem PySem.Spec PyProof.Rows L2 L3
section
variable {P:OI}{w:Jy}{K:Jw}{mg:Str->L B}{base:OT}
theorem lg {C:M.Call}{g:O}{c:U O}{d:U V}{H:Hp}{Q:VK}{E:XK}(b:∀a,C g a=.no)(h:spS K C g c d H Q E):OS:=by obtain⟨Z,a,G,w,bs,_,_,_,e,_⟩:=h;rw[b] at e;cases e
theorem fn0 {f:OD}{b:Kn}{ps:U Str}{k g:O}{c:U O}{C:M.Call}(a:∀d,C g d=.no):eA P w K mg base CX0 k f b ps (spS K C g c):=
 ⟨λ_ _ _ _ h=>(lg a h).elim,λ_ _ _ _ _ _ _ _ _ _ _ _ _ h=>(lg a h).elim⟩
theorem lU {Z:Fp}{H:Hp}{a:OD}{b:U I}(c:qC H)(e:b.length<=63)(h:SqL K H a<|b.map V.int):Rep K Z H .d (.scr b) (.ref a) no:=by
 refine⟨a,rfl,JP e<|by decide,?_⟩;rcases h with(z|⟨o,z⟩)|z
 .rcases c a with y|⟨o,xs,y⟩<;>rw[y] at z<;>cases z
 .exact .inl ⟨o,z⟩
 .exact .inr (.inr z)
theorem Bd {H:Hp}{a:OD}{b:U I}{C:M.Call}{c:O}(hp:∃m bs,C c [(.d,.scr b)]=.ok ((m,.bl Ju),bs))(g:b.length<=63)(f:qC H)(h:SqL K H a<|b.map V.int):spS K C c [] [.ref a] H (λv _=>v=.bl Ju) λ_ _ _=>OS:=by obtain⟨m,bs,e⟩:=hp;exact⟨no,[(.d,.scr b)],no,(m,.bl Ju),bs,RepW.one<|lU f g h,bO,λ_ z=>z.elim,e,λv l k i j r _ _ _ _=>r⟩
end
end MR

namespace MR
open PySem PySem.Spec PyProof.Rows L2 L3
structure SBs (as:U OD)(H H':Hp):Prop where
 keep:∀b u,b ∉ as->H b=Y u->H' b=Y u
 al:∀b,H b≠J->H' b≠J
instance {as:U OD} {H H':Hp}:CoeFun (SBs as H H') (λ_=>∀b u,b ∉ as->H b=Y u->H' b=Y u):=⟨λs=>s.keep⟩
end MR

namespace MR
open PySem PySem.Spec PyProof.Rows L2 L3
section
variable {X:Cx}{sf sg:O->L O}{io:U O}{C:M.Call}{pos p2:Pos}{ea eb ec:ON}{a b c:M.E}{h:OF}{n:O}
theorem pK {K:Jw}:Loc K 1 .tuple h λs H Q=>∃p d,s=[.ref p]/\((SqL K H p d/\∀l,H l=J->Q (.ref l) (upd H l<|.tup d))\/(SqT K H p d/\Q (.ref p) H)):=by
 intro o w s Z H G Q t e r j v k;obtain⟨⟨m,a⟩,rfl⟩:∃a,o=[a]:=by match o,t with|[a],_=>exact⟨a,rfl⟩
 obtain⟨x,rfl,r1⟩:=br rfl r;cases a with
 |lst u=>obtain⟨p,d,rfl,g,i,q⟩:=bx r1;cases e;exact⟨p,d,rfl,.inl ⟨SqL.of g,λl f=>nA (m:=m.kid.up) (G':=G) j (λ_ z=>z) i (by rw[gr];exact q.zmono λ_ z=>.inl z) k f⟩⟩
 |tup u=>obtain⟨p,d,rfl,g,i,q⟩:=bY r1;cases e;exact⟨p,d,rfl,.inr ⟨g,bU j k r1⟩⟩
 |_=>cases e
theorem va {p:Pos}(hm:X.mg "tuple"=J)(f:Gl X "tuple":=by rfl)(ha:SE X sf C ea a)(e:Jz [ea] X.env=(Jt,OV ea X.env)::Jz [] X.env:=by rfl)(d:(JZ pos<|Jz [] X.env).any (·.1)=false:=by rfl):SE X sf C (.Call (.Name "tuple" p) [ea] [] pos) (.op .tuple h [a]):=
 aA (dM ik f hm Ow (slc ha sl0 e) (by decide) (by decide) e d) (eC pK rfl)
theorem kl {g:OW}:SS X sf io C g .stop:=λe s l H D d q=>by obtain⟨j,Z,i,k,N,A,f⟩:=q;exact(show OS from f).elim
end
end MR


namespace MR
open PySem PySem.Spec PyProof.Rows L2 L3
section
variable {X:Cx}{sf sg:O->L O}{io:U O}{C:M.Call}{pos p2:Pos}{ea eb ec:ON}{a b c:M.E}{h:OF}{n:O}
theorem zw {e:ON}(d:SE X sf C ea a):PI X e ea (wI X.K sf C 2 .sq2 [a]):=iT (oi d) DP
theorem GV (j l:O){t u:O}{x y:Str}{o p pt:Pos}{m:O}{P:M.X}(r:X.N.Nodup)(s:SE X sf C ea a)(f:t≠u:=by decide)(z:t ∉ io:=by decide)(e:u ∉ io:=by decide)(F:sf t=Y j:=by rfl)(g:sf u=Y l:=by rfl)(A:X.N[j]?=Y x:=by rfl)(D:X.N[l]?=Y y:=by rfl)
  (hx:L2.Loc X.env.scope x:=by first|exact JS rfl|exact JK rfl) (H:L2.Loc X.env.scope y:=by first|exact JS rfl|exact JK rfl) (v:X.calm=true:=by rfl)
  (w:X.fn x=Ju\/X.env.scope.names.lookup x=Y .local:=by first|exact .inl rfl|exact .inr rfl) (d:X.fn y=Ju\/X.env.scope.names.lookup y=Y .local:=by first|exact .inl rfl|exact .inr rfl)
  (k:Pa [.Tuple [.Name x o,.Name y p] m pt] ea pos.line X.env=pure false:=by rfl) (G:Pb [.Tuple [.Name x o,.Name y p] m pt] ea X.env=pure none:=by rfl):
  SS X sf io C (.Assign [.Tuple [.Name x o,.Name y p] m pt] ea pos) (.asgT P [t,u] a):=
 b0 (uW s (jB (n:=2) v<|bE (bC (i:=j) r A hx w)<|bE (bC (i:=l) r D H d) gc) k G) (yP f z e F g)
theorem wq {u w:M.W}(e:M.oSem .len Jt [u]=Y w):∃n:O,w=(.d,.int n):=by obtain⟨m,a⟩:=u;cases a<;>first|(cases e;exact⟨_,rfl⟩)|(cases e;done)
theorem ER (j:O){i:O}{x:Str}{p u:Pos}(hm:X.mg "len"=J)(G:Gl X "len":=by rfl)(hs:sf i=Y j:=by rfl)(F:X.N[j]?=Y x:=by rfl)(hv:Vis X.env.scope x:=by first|exact JS rfl|exact JK (JS rfl)|exact JK<|JK rfl)(hd:(x==("__debug__":Str))=false:=by decide)
  (o:(x==("__classdict__":Str))=false:=by decide) (f:Jz [.Name x u] X.env=(Jt,OV (.Name x u) X.env)::Jz [] X.env:=by rfl) (s:(JZ pos<|Jz [] X.env).any (·.1)=false:=by rfl):SE X sf C (.Call (.Name "len" p) [.Name x u] [] pos) (.lenV i):=
 aA (ck lj G hm NA (cn (bX F hv hd o) fh f) (by decide) (by decide) f s) λσ H Q hw=>by
  obtain⟨pv,Z,D,y,w,η',A,ev,k⟩:=hw;obtain⟨w',e1,e2⟩:=aG<|show M.ret y ((M.rd y i).bind λw=>M.oSem .len Jt [w])=_ from ev;cases e2;cases l:M.rd y i with
  |none=>rw[l] at e1;cases e1
  |some g=>rw[l] at e1;have e:M.oSem .len Jt [g]=Y w:=e1;obtain⟨n,rfl⟩:=wq e;obtain⟨v,r,t⟩:=A.env i g.1 g.2 l;obtain⟨x',n',hx,P,hq⟩:=j1 (K:=X.K) (h:=Jt) [g] (.d,.int n) [v] Z H (D i) (λv' _=>v'=.int n) rfl e (RepW.one r) (λa m=>A.gd.own a ⟨i,m⟩) A.gd.zal (λ_ _ _ _ r _ _=>r);cases hx;cases hq;exact⟨v,t.1 j hs,v,n,rfl,P,k _ Z H D no A rfl ((Step.refl _ _ _).mono (λ_ z=>z) λa m=>m.elim id λz=>z.elim)⟩
end
end MR

namespace MR
open PySem PySem.Spec PyProof.Rows L2 L3
section
variable {X:Cx}{sf sg:O->L O}{C:M.Call}{pos p2 p3:Pos}{ea eb ec:ON}{a b c:M.E}{h:OF}{n:O}{io:U O}
theorem sGc {x:Str}{i:I}(d:∃t,X.mg x=Y (.int i t))(e:Gl X x:=by rfl)(hd:(x==("__debug__":Str))=false:=by decide):SE X sf C (.Name x pos) (.cst<|.int i):=by obtain⟨t,d⟩:=d;exact aA (oB (v:=.int i) e d ⟨t,rfl⟩ hd)<|gC rfl
theorem Ha {K:Jw}{f d:U O}{e:M.E}(g:L2.St)(H:Hp)(Q:VK)(h:wE K sf C (.qx f d e) g H Q):wE K sf C e g H Q:=by obtain⟨i,Z,l,m,w,j,A,ev,k⟩:=h;exact gX (x:=.q f d) (sl:=⟨sf,i⟩) A ev k
theorem sQ {f e:U O}(d:SE X sf C ea a):SE X sf C ea (.qx f e a):=aA d Ha
def zI (K:Jw)(H:Hp):U O->V->V->Prop
|[],v,u=>u=v
|j::p,v,u=>∃a d x,v=.ref a/\(SqL K H a d\/SqT K H a d)/\d[j]?=Y x/\zI K H p x u
def wP (K:Jw)(sf:O->L O)(i:O)(p:U O):TE:=λd H Q=>∃j v u,sf i=Y j/\d[j]?=Y (Y v)/\zI K H p v u/\Q u H
abbrev SP (X:Cx)(sf:O->L O)(d:ON)(i:O)(p:U O):Prop:=PE X d<|wP X.K sf i p
noncomputable def GA (d:Fps)(i:O)(G:Fp):Fps:=λl a=>(l=i/\G a)\/(l≠i/\d l a)
def CstR (K:Jw)(t:M.T)(v:V):Prop:=∀(Z:Fp) (H:Hp),Rep K Z H .s t v no
theorem cst_int {K:Jw}(i:I):CstR K (.int i) (.int i):=λ_ _=>rfl
theorem cst_non {K:Jw}:CstR K .non .non:=λ_ _=>rfl
theorem cst_bl {K:Jw}(b:OF):CstR K (.bl b) (.bl b):=λ_ _=>rfl
theorem cst_str {K:Jw}{x:Str}(h:M.sOk x=Ju):CstR K (.str x) (.str x):=λ_ _=>⟨rfl,h⟩
def mj (K:Jw)(w:Jy)(d:Str->L B)(x:Str)(tab:U<|Str×M.T):Prop:=
 ∃a T,d x=Y (.ref a)/\DTab K w a T/\∀z,match tab.lookup z with
  |some t=>∃v,T.lookup z=Y v/\CstR K t v
  |none=>T.lookup z=J
theorem C8 {K:Jw}{w:Jy}{ad:OD}{T:U<|Str×V}{tab:U<|Str×M.T}{e:M.E}(D:DTab K w ad T)(ht:∀z,match tab.lookup z with
  |some t=>∃v,T.lookup z=Y v/\CstR K t v
  |none=>T.lookup z=J) (o:L2.St) (H:Hp) (Q:VK) (h:wE K sf C (.ixT tab e) o H Q):tOp (λx y H Q=>∃a z T v,x=.ref a/\y=.str z/\DTab K w a T/\T.lookup z=Y v/\Q v H) (tC<|.ref ad) (wE K sf C e) o H Q:=by
 obtain⟨pv,Z,p,l,w',η',A,ev,k⟩:=h;obtain⟨⟨u,g⟩,F,N⟩:=ae<|show(M.evE C e l).bind (M.kTab tab M.okS)=_ from ev;obtain⟨z,t,e1,e2,P⟩:=kF N;cases P;refine⟨pv,Z,p,l,u,g,A,F,λy j i f G d r s=>?_⟩;obtain⟨m,t0⟩:=u;cases(show t0=_ from e1);have q:=ht z;rw[e2] at q;obtain⟨v,q1,q2⟩:=q;exact⟨ad,z,T,v,rfl,r.1,D,q1,k v j i f no d.bare (q2 j i)<|s.mono (λ_ z=>z) λa ha=>ha.elim .inl λz=>z.elim⟩
theorem Dl {x:Str}{tab:U<|Str×M.T}(T:mj X.K X.w X.mg x tab)(d:SE X sf C ea a)(e:Gl X x:=by rfl)(hd:(x==("__debug__":Str))=false:=by decide)(g:eQ ea:=by intro _ _;rfl):SE X sf C (.Subscript (.Name x p2) ea pos) (.ixT tab a):=by obtain⟨ad,j,f,D,i⟩:=T;exact aA (tH BW (jd e f hd) d g)<|C8 D i
def pX (K:Jw)(w:Jy)(e:Str->L B)(x:Str)(d:U Str):Prop:=∃a T,e x=Y (.ref a)/\DTab K w a T/\∀z,(T.lookup z).isSome=d.contains z
theorem r6 {K:Jw}{w:Jy}{ad:OD}{T:U<|Str×V}{i:U Str}{e:M.E}{f:OF}(D:DTab K w ad T)(ht:∀z,(T.lookup z).isSome=i.contains z)(o:L2.St)(H:Hp)(Q:VK)(h:wE K sf C (.inT f i e) o H Q):
  wE K sf C e o H λx v=>∃z a j,x=.str z/\V.ref ad=.ref a/\DTab K w a j/\Q (.bl<|(j.lookup z).isSome != f) v:=by
 obtain⟨pv,Z,p,l,w',η',A,ev,k⟩:=h;obtain⟨⟨u,η1⟩,N,P⟩:=ae<|show(M.evE C e l).bind (M.kIn f i)=_ from ev;obtain⟨z,e1,e2,e3⟩:=jr P;cases e2;refine⟨pv,Z,p,l,u,_,A,N,λy F t g G d r s=>?_⟩;obtain⟨m,t0⟩:=u;cases(show t0=_ from e1);refine⟨z,ad,T,r.1,rfl,D,?_⟩;rw[ht z];refine k _ F t g no d.bare ?_<|s.mono (λ_ z=>z) λa ha=>ha.elim .inl λz=>z.elim;rw[show w'=_ from e3];rfl
end
end MR

namespace MR
open PySem PySem.Spec PyProof.Rows L2 L3
theorem fsc {N P:U Str}{a:OZ}(b:a.kind=.function:=by rfl)(c:a.isCoroutine=false:=by rfl)(d:a.isGenerator=false:=by rfl)(e:N.Nodup:=by decide +kernel)(f:N.take P.length=P:=by rfl)(g:∀x∈P,a.names.lookup x=Y .local\/a.names.lookup x=Y .cell:=by decide +kernel)(h:∀y∈a.names,y.2≠.free:=by decide +kernel):au N P a:=⟨b,c,d,e,f,g,h⟩
theorem csc {pre b:U Str}{a:OZ}(c:a.kind=.function:=by rfl)(d:∀y∈a.names,y.2≠.cell:=by decide +kernel)(e:∀y∈a.names,y.2=.local->a.names.lookup y.1=Y .local:=by decide +kernel)(f:∀x∈pre,a.names.lookup x=Y .local:=by decide +kernel)(g:(pre++b).Nodup:=by decide +kernel):aE pre b a:=⟨c,d,e,f,g⟩
section
variable {P:OI}{w:Jy}{K:Jw}{mg:Str->L B}{base:OT}{x:Str}{st:OW}{ps N:U Str}{n g:O}{io:U O}{C C':M.Call}{d:B}{t:M.T}
structure Df (K:Jw)(mg:Str->L B)(x:Str)(st:OW)(ps:U Str):Prop where
 ex:∃f fd,Fun K x x st f fd/\Binds K fd ps []/\mg x=Y (.ref f)
theorem Df.ok (e:Df K mg x st ps)(h:∀f a,Fun K x x st f a->eA P w K mg base CX0 n f a ps (spS K C g io)):af P w K mg base n C x g io:=by obtain⟨f,a,F,b,m⟩:=e.ex;exact⟨f,a,ps,h f a F,m,F.kp,b⟩
theorem Df.z (e:Df K mg x st ps)(a:∀b,C g b=.no:=by intro _;rfl):af P w K mg base n C x g io:=e.ok λ_ _ _=>fn0 a
theorem Df.s (a:M.Fn)(e:Df K mg x st ps)(S:au N ps<|defScope st)
  (p:∀{f:OD} {c:B} {A:JU} {b:U Env} {s:Jv} {H:Hp} {E:XK},Room n (A.deeper<|Ky x (defScope st) s.heap.objs.size f c)->SSs (jw CX0 P w K mg base N x (defScope st) f c A b s H E).nox (slN N.length) a.io C (defBody st) a.body)
  (o:∀m,C' g m=M.runF C a m:=by intro _;rfl) (l:a.ps=ps.length:=by rfl) (k:ps.length<=N.length:=by decide) (r:a.io.Nodup:=by decide) (j:∀i∈a.io,i<ps.length:=by decide):af P w K mg base (n+1) C' x g a.io:=
 e.ok λ_ _ F=>Fun.okM F S l k r j (λ_ _ _ _ _ _ h=>p h) o
def Raw (K:Jw)(x:Str)(st:OW)(dV:B):Prop:=∃f e h j kV c i an a b,LW K JT x=Y (Y<|.ref f)/\K.lookup f=Y ⟨e,h,.func<|KY x x (defArgs st) (defBody st) (defScope st) dV kV c i an a b,j⟩/\MF K a x=Ju/\Ly K (.ref f)=Ju
theorem aT {h:OT}(X:K.In h)(G:h.Ns JT mg)(r:Raw K x st .none)(o:∀(kV b i:B) (an:L OD) (a e:B) (c:U B),c.length=ps.length->bindArgs (KY x x (defArgs st) (defBody st) (defScope st) .none kV b i an a e) ⟨c,[]⟩=pure (ps.zip c)):Df K mg x st ps:=by obtain⟨f,u,v,y,kV,s,i,an,p,e,j,k,l,m⟩:=r;have F:=uy (st:=st) k l m;exact⟨f,_,F,F.binds o,Mj X G j⟩
def De (K:Jw):U Str->Prop
|[]=>PD
|x::r=>LW K JT x=Y J/\De K r
theorem Be {h:OT}(X:K.In h)(G:h.Ns JT mg)(r:De K ["isinstance","int","tuple","list","bool","sum","len","all","zip","range","enumerate","any","max","min","sorted","str","repr","abs","dict","set","reversed"]):Txt mg:=by obtain⟨z1,z2,u,v,y,A,D,F,H,a,b,c,e,f,i,j,k,l,o,p,s,_⟩:=r;have m:=λ{x:Str} (z:LW K JT x=Y J)=>PySem.W.mg_none_of X G z;exact⟨m z1,m z2,m u,m v,m y,m A,m D,m F,m H,m a,m b,m c,m e,m f,m i,m j,m k,m l,m o,m p,m s⟩
def TabRaw (K:Jw)(w:Jy)(x:Str)(T:U<|Str×V):Prop:=∃a b n,LW K JT x=Y (Y<|.ref a)/\K.lookup a=Y ⟨.type "dict",J,.dict b n,#[]⟩/\NI w.params b.toList/\Paired (λ(p:Str×V) (e:OX)=>(∃t,e.key=.str p.1 t)/\RelV p.2 e.val) T b.toList/\(a==Ko)=Jt
theorem TabRaw.tab {h:OT}{T:U<|Str×V}(X:K.In h)(G:h.Ns JT mg)(r:TabRaw K w x T):∃a,mg x=Y (.ref a)/\DTab K w a T:=by obtain⟨a,b,n,c,e,f,i,j⟩:=r;exact⟨a,Mj X G c,⟨b,n,e,f,i⟩,j⟩
theorem iD (z:Str):∀T:U<|Str×V,(T.lookup z).isSome=(T.map J9).contains z
|[]=>rfl
|(k,v)::T=>by
 rw[KC,JQ,Nl];cases z==k with
 |true=>rfl
 |false=>rw[iD z T];rfl
theorem jq {h:OT}{T:U<|Str×V}{b:U Str}(X:K.In h)(G:h.Ns JT mg)(r:TabRaw K w x T)(hk:T.map J9=b):pX K w mg x b:=by obtain⟨a,c,e⟩:=r.tab X G;exact⟨a,T,c,e,λz=>by rw[iD,hk]⟩
def CstL (K:Jw):U (Str×M.T)->U (Str×V)->Prop
|[],[]=>PD
|e::r,p::T=>(p.1=e.1/\CstR K e.2 p.2)/\CstL K r T
|_,_=>OS
theorem iQ (z:Str):∀{tab:U<|Str×M.T} {T:U<|Str×V},CstL K tab T->match tab.lookup z with
 |some t=>∃v,T.lookup z=Y v/\CstR K t v
 |none=>T.lookup z=J
|[],[],_=>rfl
|(k,t)::r,(a,v)::T,⟨⟨e,c⟩,q⟩=>by
 have b:a=k:=e;subst b;have f:=iQ z q;rw[KC,KC];cases z==a with
 |true=>exact⟨v,rfl,c⟩
 |false=>exact f
|[],_::_,h=>h.elim
|_::_,[],h=>h.elim
theorem f9 {h:OT}{T:U<|Str×V}{tab:U<|Str×M.T}(X:K.In h)(G:h.Ns JT mg)(r:TabRaw K w x T)(e:CstL K tab T):mj K w mg x tab:=by obtain⟨a,b,c⟩:=r.tab X G;exact⟨a,T,b,c,λz=>iQ z e⟩
end
end MR

namespace MR
open PySem PySem.Spec PyProof.Rows L2 L3
section
variable {X:Cx}{sf sg:O->L O}{C:M.Call}{pos p p2 p3:Pos}{ea eb ec:ON}{a b c:M.E}{h:OF}{n:O}{io:U O}{K:Jw}
theorem yd:Loc K 1 .int h λd H Q=>(∃i,d=[.int i]/\Q (.int i) H)\/∃k,d=[.bl k]/\Q (.int<|if k then 1 else 0) H:=by
 intro g w d Z H G Q f e r j l k
 match g,f with
 |[(m,a)],_=>
  obtain⟨x,rfl,r1⟩:=br rfl r;cases a with
  |int i=>cases e;exact .inl ⟨i,by rw[show x=_ from r1],aS k⟩
  |bl b=>cases e;exact .inr ⟨b,by rw[show x=_ from r1],by cases b<;>exact aS k⟩
  |_=>cases e
theorem Ce (hm:X.mg "int"=J)(f:Gl X "int":=by rfl)(ha:SE X sf C ea a)(e:Jz [ea] X.env=(Jt,OV ea X.env)::Jz [] X.env:=by rfl)(d:(JZ pos<|Jz [] X.env).any (·.1)=false:=by rfl):SE X sf C (.Call (.Name "int" p) [ea] [] pos) (.op .int h [a]):=
 aA (dM qk f hm Oz (slc ha sl0 e) (by decide) (by decide) e d) (eC yd rfl)
theorem nH:∀{d:U I} {m:I},m∈d->(∀n∈d,n<=m)->M.maxI d=m
|[n],m,h,_=>(J4.mp h).symm
| n::i::d,m,h,f=>by
 show max n (M.maxI (i::d))=m;rcases JX.mp h with e|e
 .subst e
  have g:∀l:U I,l≠[]->(∀x∈l,x<=m)->M.maxI l<=m:=by
   intro l;induction l with
   |nil=>intro z;exact OH rfl z
   | cons y l j =>
    intro _ z;cases l with
    |nil=>exact z y JJ
    |cons k l=>have:=j (by simp) λx hx=>z x<|JW _ hx;have:=z y JJ;show max y (M.maxI (k::l))<=m;lia
  have:=g (i::d) (by simp) λx hx=>f x<|JW _ hx;lia
 .have:=nH e fun x hx=>f x<|JW _ hx;have:=f n JJ;lia
theorem uR:Loc K 1 .max1 h λj H Q=>∃(a:OD) (f:U I),j=[.ref a]/\SqL K H a (f.map V.int)/\f≠[]/\∀M,M∈f->(∀n∈f,n<=M)->Q (.int M) H:=by
 intro v w j Z H G Q u e r A D k
 match v,u with
 | [(m,a)],_ =>
  obtain⟨x,rfl,r1⟩:=br rfl r;cases a with
  | lst o =>
   obtain⟨a,j,hx,l,y,p⟩:=bx r1;have g:((M.intsOf o).bind λf=>if f.isEmpty then J else Y ((.d,.int (M.maxI f)):M.W))=Y w:=e;cases e1:M.intsOf o with
   |none=>rw[e1] at g;cases g
   | some f =>
    rw[e1] at g;have e2:(if f.isEmpty=Ju then J else Y ((.d,.int (M.maxI f)):M.W))=Y w:=g;split at e2
    .cases e2
    .rename_i i;cases e2;rw[kL e1 p] at l;refine⟨a,f,by rw[hx],.inl<|.inl l,λz=>i<|by rw[z];rfl,λm s t=>?_⟩;rw[<- nH s t];exact aS k
  |_=>cases e
theorem GR (f:X.calm=true:=by rfl)(hm:X.mg "max"=J)(g:Gl X "max":=by rfl)(ha:SE X sf C ea a)(e:Jz [ea] X.env=(Jt,OV ea X.env)::Jz [] X.env:=by rfl)(d:(JZ pos<|Jz [] X.env).any (·.1)=false:=by rfl):SE X sf C (.Call (.Name "max" p) [ea] [] pos) (.op .max1 h [a]):=
 aA (ck (qj f) g hm (by rfl) (slc ha sl0 e) (by decide) (by decide) e d) (eC uR rfl)
theorem eM {Z:Fp}{H:Hp}{G:Fp}{m:M.Md}{t:M.T}{x:V}(j:M.flatT t=Ju)(r:Rep K Z H m t x G):dP x=Ju/\∀(u:M.T) (y:V) {m':M.Md} {g:Fp},M.flatT u=Ju->Rep K Z H m' u y g->eqV y x=M.eqT u t:=by
 cases t with
 |non=>cases r;refine⟨rfl,λu y m' g f d=>?_⟩;cases u<;>first|(cases d;rfl)|(obtain⟨e,_⟩:=d;cases e;rfl)|cases f
 |bl b=>cases r;refine⟨rfl,λu y m' g f d=>?_⟩;cases u<;>first|(cases d;rfl)|(cases d;cases b<;>rfl)|(obtain⟨e,_⟩:=d;cases e;rfl)|cases f
 |int i=>cases r;refine⟨rfl,λu y m' g f d=>?_⟩;cases u with
  |bl c=>cases d;cases c<;>rfl
  |_=>first|(cases d;rfl)|(obtain⟨e,_⟩:=d;cases e;rfl)|cases f
 |str z=>obtain⟨e,_⟩:=r;cases e;refine⟨rfl,λu y m' g f d=>?_⟩;cases u<;>first|(cases d;rfl)|(obtain⟨e,_⟩:=d;cases e;rfl)|cases f
 |_=>cases j
theorem mL {Z:Fp}{H:Hp}{G:Fp}{m:M.Md}{t:M.T}{x:V}(i:M.flatT t=Ju)(r:Rep K Z H m t x G):∀{f:U M.T} {g:U V} {m':M.Md} {j:Fp},f.all M.flatT=Ju->RepL K Z H m' f g j->g.all dP=Ju/\L2.inV x g=f.any λu=>M.eqT u t
|[],_,_,_,_,h=>by cases h;exact⟨rfl,rfl⟩
|u::f,_,m',_,d,⟨y,s,v,w,e,_,_,_,q,o⟩=>by cases e;rw[LI,JM] at d;obtain⟨k,l⟩:=mL i r d.2 o;refine⟨by rw[LI,(eM d.1 q).1,k];rfl,?_⟩;show(eqV y x || L2.inV x s)=_;rw[KL,l,(eM i r).2 u y d.1 q]
theorem mE {neg:OF}{u v w:M.W}{o:M.Op}(ho:o=if neg then .notin else .isin)(e:M.oSem o h [u,v]=Y w):∃f,M.elems v=Y f/\M.flatT u.2=Ju/\f.all M.flatT=Ju/\w=(.d,.bl<|if neg then !f.any (λt=>M.eqT t u.2) else f.any λt=>M.eqT t u.2):=by
 obtain⟨m,a⟩:=u;obtain⟨n,b⟩:=v;subst ho;cases neg with
 |true=>
  obtain⟨f,j,g⟩:=NZ.mp<|show(M.elems (n,b)).bind (λf=>if(M.flatT a&&f.all M.flatT)=Ju then Y ((.d,.bl<|!f.any λt=>M.eqT t a):M.W) else J)=Y w from e;split at g
  .rename_i i;rw[JM] at i;cases g;exact⟨f,j,i.1,i.2,rfl⟩
  .cases g
 |false=>
  obtain⟨f,j,g⟩:=NZ.mp<|show(M.elems (n,b)).bind (λf=>if(M.flatT a&&f.all M.flatT)=Ju then Y ((.d,.bl<|f.any λt=>M.eqT t a):M.W) else J)=Y w from e;split at g
  .rename_i i;rw[JM] at i;cases g;exact⟨f,j,i.1,i.2,rfl⟩
  .cases g
theorem mz (g:OF){o:M.Op}(ho:o=if g then .notin else .isin):Loc K 2 o h λf H Q=>∀x y,f=[x,y]->rIn K g x y H Q:=by
 intro P w f Z H G Q z e r A za k x y hx;subst hx;obtain⟨⟨m,a⟩,⟨n,b⟩,rfl⟩:=cK r.length.symm;obtain⟨u,v,F,N,d,r1,r2⟩:=bI r;obtain⟨D,e1,e2,e3,rfl⟩:=mE ho e;cases b with
 |lst t=>cases e1;obtain⟨p,f,rfl,l,s,q⟩:=bx r2;obtain⟨i,j⟩:=mL e2 r1 e3 q;refine⟨p,f,rfl,.inl<|.inl<|.inl l,(eM e2 r1).1,i,?_⟩;rw[j];exact bN k
 |tup t=>cases e1;obtain⟨p,f,rfl,l,s,q⟩:=bY r2;obtain⟨i,j⟩:=mL e2 r1 e3 q;refine⟨p,f,rfl,.inr l,(eM e2 r1).1,i,?_⟩;rw[j];exact bN k
 |_=>cases e1
theorem zt (d:SE X sf C ea a)(e:SE X sf C eb b)(f:Kt .In eb=false:=by rfl):SE X sf C (.Compare ea [.In] [eb] pos) (.op .isin h [a,b]):=aA (oG iz d e f)<|aO<|mz Jt rfl
theorem dm (d:SE X sf C ea a)(f:SE X sf C eb b)(g:Kt .In eb=false:=by rfl):SB X sf C (.Compare ea [.In] [eb] pos) (.op .isin h [a,b]):=bF iz d f g (aO<|mz Jt rfl) λu v w e=>by obtain⟨_,_,_,_,rfl⟩:=mE (neg:=Jt) rfl e;exact⟨_,rfl⟩
theorem oE (d:SE X sf C ea a)(f:SE X sf C eb b)(g:Kt .NotIn eb=false:=by rfl):SB X sf C (.Compare ea [.NotIn] [eb] pos) (.op .notin h [a,b]):=bF jF d f g (aO<|mz Ju rfl) λu v w e=>by obtain⟨_,_,_,_,rfl⟩:=mE (neg:=Ju) rfl e;exact⟨_,rfl⟩
end
section
variable {X:Cx}{sf sg:O->L O}{C:M.Call}{pos p p2 p3:Pos}{ea eb ec:ON}{a b c:M.E}{h:OF}{io:U O}{K:Jw}
theorem ux {e:OF}{i:U Str}{n:L2.St}{H:Hp}{Q:OF->Hp->Prop}(D:wT K sf C (.inT e i a) n H Q):wE K sf C (.inT e i a) n H λx g=>∃k,x=.bl k/\Q k g:=by obtain⟨F,Z,o,m,w,j,b,A,ev,l,k⟩:=D;refine⟨F,Z,o,m,w,j,A,ev,λv t g f G d r s=>?_⟩;obtain⟨⟨u,N⟩,P,y⟩:=ae<|show(M.evE C a m).bind (M.kIn e i)=_ from ev;obtain⟨z,e1,e2,e3⟩:=jr y;rw[show w=_ from e3] at l r;cases l;exact⟨_,r,k t g f d.bare<|s.mono (λ_ z=>z) λ_ z=>.inl z⟩
theorem G8 {x:Str}{g:U Str}(T:pX X.K X.w X.mg x g)(n:SE X sf C ea a)(t:Gl X x:=by rfl)(hd:(x==("__debug__":Str))=false:=by decide)(o:Kt .In (.Name x p2)=false:=by rfl):SB X sf C (.Compare ea [.In] [.Name x p2] pos) (.inT Jt g a):=by obtain⟨ad,T',u,D,y⟩:=T;refine gY (jk vG n (jd t u hd) o) λσ H Q F=>?_;obtain⟨M,Z,i,P,N,f,A,ev,k⟩:=r6 D y σ H _<|ux F;refine⟨M,Z,i,P,N,f,A,ev,λv m j e G d r s=>?_⟩;obtain⟨z,a,l,e1,e2,e3,q⟩:=k v m j e G d r s;rw[KH] at q;exact⟨z,a,l,e1,e2,e3,q⟩
theorem wM {x:Str}{g:U Str}(T:pX X.K X.w X.mg x g)(n:SE X sf C ea a)(t:Gl X x:=by rfl)(hd:(x==("__debug__":Str))=false:=by decide)(o:Kt .NotIn (.Name x p2)=false:=by rfl):SB X sf C (.Compare ea [.NotIn] [.Name x p2] pos) (.inT Ju g a):=by obtain⟨ad,T',u,D,y⟩:=T;refine gY (jk kf n (jd t u hd) o) λσ H Q F=>?_;obtain⟨M,Z,i,P,N,f,A,ev,k⟩:=r6 D y σ H _<|ux F;refine⟨M,Z,i,P,N,f,A,ev,λv m j e G d r s=>?_⟩;obtain⟨z,a,l,e1,e2,e3,q⟩:=k v m j e G d r s;rw[Bool.bne_true] at q;exact⟨z,a,l,e1,e2,e3,q⟩
end
end MR

namespace MR
open PySem PySem.W L2 M
def CstRs (K:Jw)(a:U M.T)(b:U V):Prop:=∀(Z:Fp) (H:Hp),RepL K Z H .s a b no
theorem cst_nil {K:Jw}:CstRs K [] []:=λ_ _=>rfl
theorem cst_cons {K:Jw}{t:M.T}{b:U M.T}{x:V}{a:U V}(h:CstR K t x)(r:CstRs K b a):CstRs K (t::b) (x::a):=λZ H=>⟨x,a,no,no,rfl,λ_ h=>h,λ_ h=>h,λ_ h=>h.elim,h Z H,r Z H⟩
theorem cst_tup {K:Jw}{d:U M.T}{c:U V}{a:OD}{o:Obj}{b:OY B}{n:O}(h:K.lookup a=Y o)(e:o.cls=.type "tuple")(hd:o.data=.seq b n)(g:b.size<=sizeLine)(i:Vals c b.toList)(f:c.length<=LIM)(r:CstRs K d c):CstR K (.tup d) (.ref a):=λZ H=>⟨a,c,rfl,.inr ⟨o,b,n,h,e,hd,g,i⟩,f,r Z H⟩
end MR




namespace L3
open PySem PySem.Spec PySem.NumText PyProof.Rows L2
def spJ (c:O)(a:U<|U O):U Ku:=a.map λl=>⟨l.toArray⟩
theorem mN (c:O):∀(b a:U O),M.spl c a b≠[]
|[],a=>K0 _ _
|x::b,a=>by
 unfold M.spl;split
 .exact K0 _ _
 .exact mN c b _
theorem hI (c:O):∀(d a:U O),c ∉ a->∀l∈M.spl c a d,c ∉ l
|[],a,h,l,b=>by rw[J4.mp b];exact h
| x::d,a,h,l,b=>by
 unfold M.spl at b;split at b
 .rcases JX.mp b with rfl | b
  .exact h
  .exact hI c d [] (by simp) l b
 .rename_i hx;refine hI c d _ (λz=>?_) l b;rcases Kq.mp z with z|z
  .exact h z
  .exact hx (J4.mp z).symm
theorem cU (c:O):∀(b a:U O),(Ke ⟨#[c]⟩<|spJ c<|M.spl c a b).cps.toList=a++b
|[],a=>by rw[JR];rfl
| x::b,a=>by
 unfold M.spl;split
 .rename_i hx;have d:=cU c b []
  obtain⟨y,r,e⟩:∃y r,M.spl c [] b=y::r:=by
   cases h:M.spl c [] b with
   |nil=>exact OH h<|mN c b []
   |cons y r=>exact⟨y,r,rfl⟩
  rw[e] at d ⊢;show((⟨a.toArray⟩:Ku)++⟨#[c]⟩++Ke ⟨#[c]⟩ (spJ c (y::r))).cps.toList=_;rw[aU,aU,d,hx];simp
 .rw[cU c b<|a++[x],JN];rfl
theorem qa (x:Ku):PySem.Txt.split x (Str.ofString " ")=M.splS x:=by
 have c:Str.ofString " "=⟨#[32]⟩:=by decide +kernel
 rw[c]
 have e1:Ke ⟨#[32]⟩ (M.splS x)=x:=by
  have:=cU 32 x.cps.toList [];cases x with
  |mk a=>have b:(Ke ⟨#[32]⟩ (M.splS ⟨a⟩)).cps.toList=a.toList:=this;generalize Ke ⟨#[32]⟩ (M.splS ⟨a⟩)=u at b;cases u;exact OQ M7<|Mz.mp b
 refine kB 32 _ _ (uj _ _) (λz=>mN 32 _ _<|Ob.mp z) (StrLaws.split_free _ 32) (λp hp=>?_)<|(StrLaws.join_split _ _).trans e1.symm;obtain⟨l,d,rfl⟩:=KJ.mp hp;exact hI 32 _ _ LC l d
theorem oN {z:Ku}{b:U Ku}(h:(b.map λs=>s.cps.size+z.cps.size).sum<=M.LIM):JoinOk z b=true:=by
 have e:∀(l:U Ku) (a:O),l.foldl (λa s=>a+s.length+z.length) a=a+(l.map λs=>s.cps.size+z.cps.size).sum:=by
  intro l;induction l with
  |nil=>intro a;rfl
  |cons s l c=>intro a;rw[NJ,c,JQ,Nt];show a+s.cps.size+z.cps.size+_=_;lia
 unfold JoinOk;rw[show b.toArray.foldl (·+·.length+z.length) 0=b.foldl (λa s=>a+s.length+z.length) 0 from List.foldl_toArray ..,e,LX];unfold Builtin.Str.tooLong;have:¬(b.map λs=>s.cps.size+z.cps.size).sum>sizeLine:=by have:=MR.LIM_le h;lia
 rw[OR this];rfl
theorem Bq {X:Cx}{b:U OW}{g:Mc}{j:U Mc}{d:Pos}{t:TS}(hx:∀v s,X.xe v s->OS)(i:PSs X b t):PS X (.Try b (g::j) [] [] d) t:=by
 intro c s l H D a h;refine wpAny_Try_except<|J5 (i c s l H D a h) (λf k q=>?_) λe k q=>(hx _ _ q).elim;cases f with
 |next=>exact L6 q
 |brk=>exact q
 |cont=>exact q
 |ret u=>exact q
end L3
namespace MR
open PySem PySem.Spec PyProof.Rows L2 L3
section
variable {X:Cx}{sf sg:O->L O}{C:M.Call}{pos p p2 p3:Pos}{ea eb ec:ON}{a b c:M.E}{h:OF}{n:O}{io:U O}{K:Jw}
theorem Im {d:U OW}{e:Mc}{g:U Mc}{s:U M.S}(f:SSs X sf io C d s)(hx:∀v s,X.xe v s->OS:=by exactλ_ _ z=>z):SS X sf io C (.Try d (e::g) [] [] pos) (.tri s):=b0 (Bq hx f) λD j H i=>i
theorem u9 {Z:Fp}{H:Hp}{G:Fp}{m:M.Md}:∀{d:U M.T} {j:U Str} {f:U V},M.strsOf d=Y j->RepL K Z H m d f G->f=j.map V.str:=by
 intro d;induction d generalizing G with
 |nil=>intro g f e r;cases e;exact r
 | cons t d k =>
  intro g f e r;obtain⟨x,u,o,s,rfl,_,_,_,p,q⟩:=r;cases t with
  | str i =>
   cases e1:M.strsOf d with
   |none=>simp[M.strsOf,e1] at e
   |some l=>
    have:g=i::l:=by simpa[M.strsOf,e1] using e.symm
    subst this;rw[JQ,<- k e1 q,show x=.str i from p.1]
  |_=>cases e
theorem tP {Z:Fp}{H:Hp}{m:M.Md}:∀{d:U Str},(∀x∈d,M.sOk x=Ju)->RepL K Z H m (d.map M.T.str) (d.map V.str) no
|[],_=>rfl
|x::d,h=>⟨.str x,d.map V.str,no,no,rfl,λ_ z=>z.elim,λ_ z=>z.elim,λ_ z=>z.elim,⟨rfl,h x JJ⟩,tP λy e=>h y<|JW _ e⟩
theorem zH {o:M.Op}{e1 e2:M.E}{T:OL}{r:V->U V->Hp->VK->Prop}(ty:∀{m:M.Md} {t:M.T} {w2 w:M.W} {x:V} {Z:Fp} {H:Hp} {G:Fp},M.oSem o h [(m,t),w2]=Y w->Rep K Z H m t x G->tyV K T x H)
  (l:Loc K 2 o h λxs H Q=>∀x y,xs=[x,y]->r x [y] H Q) (s:L2.St) (H:Hp) (Q:VK) (hw:wE K sf C (.op o h [e1,e2]) s H Q):tBM K T r (wE K sf C e1) (wL K sf C [e2]) s H Q:=by
 obtain⟨pv,Z,Fs,η,w,η',A,ev,k⟩:=hw;obtain⟨ws,h1,j⟩:=bW ev;obtain⟨⟨m,t⟩,η1,us,g1,i,rfl⟩:=ay h1;obtain⟨wb,η2,us,g3,g4,rfl⟩:=ay i;cases g4;refine eX A g1 λx Z1 H1 u g f r1 _ s1 _=>?_;have d:=f.mono (G':=g) λ_ z=>.inr z;refine⟨ty j r1,?_⟩;refine CM d i λvs N F v D e r2 P s2 t2=>?_;obtain⟨y,rfl,ry⟩:=br rfl r2;exact l [(m,t),wb] w [x,y] N F _ Q rfl j ⟨x,[y],g,D,rfl,λ_ z=>.inl z,λ_ z=>.inr z,P,r1.frame f.gd.own s2 d.dis,r2⟩ e.own e.gd.zal (bc e (s1.trans t2) k) x y rfl
theorem tO:Loc K 2 .join h λj H Q=>∀x y,j=[x,y]->zJ K x [y] H Q:=by
 intro D w j Z H G Q u e r ow za k x y hx
 match D,u with
 | [(m,a),(m2,b)],_ =>
  subst hx;obtain⟨x',r',F,N,t,P,g2,gd,A,p2⟩:=r;cases t;obtain⟨y',e1,p3⟩:=br rfl p2;cases e1;cases a with
  | str z =>
   cases b with
   | lst o =>
    have e2:((M.strsOf o).bind λf=>if(M.sOk (Str.join z f)&&decide ((f.map λs=>s.cps.size+z.cps.size).sum<=M.LIM))=Ju then Y ((.d,.str (Str.join z f)):M.W) else J)=Y w:=e;cases e3:M.strsOf o with
    |none=>rw[e3] at e2;cases e2
    | some f =>
     rw[e3] at e2;have g:(if(M.sOk (Str.join z f)&&decide ((f.map λs=>s.cps.size+z.cps.size).sum<=M.LIM))=Ju then Y ((.d,.str (Str.join z f)):M.W) else J)=Y w:=e2;split at g
     .rename_i i;cases g;rw[JM] at i;obtain⟨q,j,v,l,hl,pr⟩:=bx p3;rw[u9 e3 pr] at l;exact⟨z,q,f,A.1,by rw[v],.inl<|.inl l,oN<|OM i.2,ju k i.1⟩
     .cases g
   |_=>cases e
  |_=>cases e
theorem qm:Loc K 2 .split h fun g H Q=>∀ x y,g=[x,y]->t5 x [y] H Q:=by
 intro N w g Z H G Q u e r D P k x y hx
 match N,u with
 | [(m,a),(m2,b)],_ =>
  subst hx;obtain⟨x',r',G1,G2,s,g1,g2,gd,F,p2⟩:=r;cases s;obtain⟨y',e1,p3⟩:=br rfl p2;cases e1;cases a with
  | str z =>
   cases b with
   | str y =>
    have j:(if((y==Str.ofString " ")&&decide (z.cps.size+2<=M.LIM)&&(M.splS z).all M.sOk)=Ju then Y ((.d,.lst ((M.splS z).map M.T.str)):M.W) else J)=Y w:=e;split at j
    .rename_i i;cases j;rw[JM,JM] at i;have l:y=Str.ofString " ":=eq_of_beq i.1.1;have A:=OM i.1.2
     have t:(M.splS z).length<=M.LIM:=by
      have:∀(g f:U O),(M.spl 32 f g).length<=g.length+1:=by
       intro g;induction g with
       |nil=>intro f;exact JE _
       |cons x g o=>
        intro f;unfold M.spl;split
        .rw[JY,JY];have:=o [];lia
        .rw[JY];have:=o<|f++[x];lia
      have h2:=this z.cps.toList [];have h3:z.cps.toList.length=z.cps.size:=Kr;unfold M.splS;rw[JF];lia
     refine⟨z,y,F.1,OQ (λv=>[v]) p3.1,by rw[l];decide +kernel,LIM_le A,λp hp=>?_⟩;rw[l,qa];exact b6 (G':=no) D P (λ_ z=>z.elim) (by rw[JF];exact t) (tP λx hx=>Lb.mp i.2 x hx) (by simp) k hp
    .cases j
   |_=>cases e
  |_=>cases e
section
variable {apos cpos:Pos}
theorem zT (k:SE X sf C ea a)(l:SE X sf C eb b)(j:Jz [eb] X.env=(Jt,OV eb X.env)::Jz [] X.env:=by rfl)
  (f:Li ea "join" X.env (OV ea X.env)=OV ea X.env:=by rfl) (g:(apos.endLine==cpos.line)=true:=by rfl) (d:(JZ cpos<|Jz [] X.env).any (·.1)=false:=by rfl)
  (i:((JZ cpos<|Jz [eb] X.env).all (λx=>!x.1)&&(Lk cpos<|Lf [] X.env).all (λx=>x.1.isSome)&&decide ([eb].length+([]:U Km).length+(if([]:U Km).isEmpty then 0 else 1)<30))=true:=by rfl):SE X sf C (.Call (.Attribute ea "join" apos) [eb] [] cpos) (.op .join h [a,b]):=
 aA (nr NV PySem.F.slot_str_join PySem.F.type_str_join xH k (slc l sl0 j) f i g j d) (zH (λ{m t o w x Z H G} e r=>by
  cases t with
  |str z=>rw[show x=_ from r.1];exact rfl
  |_=>cases e) tO)
theorem mT (k:SE X sf C ea a)(l:SE X sf C eb b)(j:Jz [eb] X.env=(Jt,OV eb X.env)::Jz [] X.env:=by rfl)
  (f:Li ea "split" X.env (OV ea X.env)=OV ea X.env:=by rfl) (g:(apos.endLine==cpos.line)=true:=by rfl) (d:(JZ cpos<|Jz [] X.env).any (·.1)=false:=by rfl)
  (i:((JZ cpos<|Jz [eb] X.env).all (λx=>!x.1)&&(Lk cpos<|Lf [] X.env).all (λx=>x.1.isSome)&&decide ([eb].length+([]:U Km).length+(if([]:U Km).isEmpty then 0 else 1)<30))=true:=by rfl):SE X sf C (.Call (.Attribute ea "split" apos) [eb] [] cpos) (.op .split h [a,b]):=
 aA (nr NV PySem.F.slot_str_split PySem.F.type_str_split ue k (slc l sl0 j) f i g j d) (zH (λ{m t o w x Z H G} e r=>by
  cases t with
  |str z=>rw[show x=_ from r.1];exact rfl
  |_=>cases e) qm)
end
end
end MR

namespace MR
open PySem PySem.Spec PyProof.Rows L2 L3
theorem slx {X:Cx}{d:O->L O}{C:M.Call}{b:ON}{a:M.E}{c:U ON}{bs:U M.E}(e:SE X d C b a)(f:SL X d C c bs)(g:Jz (b::c) X.env=(Jt,OV b X.env)::Jz c X.env):SL X d C (b::c) (a::bs):=slc e f g
theorem sTx {X:Cx}{c:O->L O}{C:M.Call}{a:Pos}{b:U ON}{bs:U M.E}{e:O}(d:bs.length<=M.LIM)(h:SL X c C b bs):SE X c C (.Tuple b e a) (.tup bs):=sT h d
theorem sLx {X:Cx}{c:O->L O}{C:M.Call}{a:Pos}{h:OF}{b:U ON}{bs:U M.E}(e:bs.length<=M.LIM)(d:SL X c C b bs):SE X c C (.List b a) (.lst h bs):=sLs d e
theorem ai {X:Cx}{e:O->L O}{C:M.Call}{d:Pos}{h:OF}{f c:ON}{a b:M.E}(g:SE X e C f a)(i:SE X e C c b)(j:eQ c):SE X e C (.Subscript f c d) (.op .ix h [a,b]):=sIx g i j
end MR

namespace TP
open PySem PySem.W
noncomputable def en (P:Kb)(k:Str)(t:O)(v:B):OX:=⟨PyData.keyHash P k,.str k t,v⟩
def tu (a:U B):Obj:=⟨.type "tuple",J,.seq a.toArray 0,#[]⟩
def fe (a:U B):Obj:=⟨.none,J,.fields a.toArray,#[]⟩
noncomputable def di (a:U OX)(n:O):Obj:=⟨.type "dict",J,.dict a.toArray n,#[]⟩
abbrev fl:Str:="/claim/cut.py"
def iv (i:I):B:=.int i 0
def cdo (n q:Str)(t d:O)(c e:O)(f:O)(a:O)(b:OF)(x y z:B):Obj:=
 ⟨.type "code",J,.fields #[.str n t,.str q<|t+1,.str fl<|t+2,iv c,iv e,iv 0,iv 0,iv f,.ref a,.bool b,iv 181,.ref<|a+1,.none,x,y,z,iv d,iv c,.str fl<|d+1],#[]⟩
def ofn (c:B)(h:OW)(q:Str)(g:O)(d m:B)(e:B):Obj:=match h with
|.FunctionDef n a b _ _ _ f _ _ _=>⟨c,J,.func {name:=n,qualname:=q,params:=a,body:=.stmts b,scope:=f,globals:=g,closure:=[],defaults:=d,kwdefaults:=.none,pyModule:=m,code:=e},#[]⟩
|_=>default
noncomputable def tks:U Str->O->U B
|[],_=>[]
|x::r,t=>.str x t::tks r (t+1)
structure R where
 os:U Obj
 ns:U OX
 tb:U B
 n:O
 tk:O
 md:B
inductive Rc where
 |d|m|c
 |x (k:Str) (kt:O) (v:B) (os:Kb->U Obj) (tb:U B) (n tk:O)
def cv:ON->B
|.Constant (.bool b) _ _=>.bool b
|_=>.none
def dO (P:Kb)(n d:O)(f:B)(g:OW):R:=match g with
| .FunctionDef e h b _ _ _ i _ _ c =>
 let pr:U Obj×B×O:=match h.defaults with
  |[]=>([],.none,n)
  |ds=>([tu<|ds.map cv],.ref n,n+1)
 let a:=pr.2.2
 match localNames h i (.stmts b) with
 | none=>⟨pr.1++[tu [],fe [],ofn .none g e 0 .none .none .none,cdo e e d (d+3) c.line h.args.length 3 a Ju .none .none (.ref (a+2)),ofn (.type "function") g e 3 pr.2.1 f (.ref (a+3))],
   [en P e (d+5)<|.ref<|a+4],[iv c.line,iv c.col,.ref<|a+3],a+5,d+6,f⟩
 | some l =>
  let k:=l.1.length;let j:=l.2.length
  ⟨pr.1++[tu [],fe [],tu (tks l.1 (d+3)),tu (tks l.2 (d+3+k)),ofn .none g e 0 .none .none .none,cdo e e d (d+3+k+j) c.line h.args.length 3 a Ju (.ref (a+2)) (.ref (a+3)) (.ref (a+4)),ofn (.type "function") g e 3 pr.2.1 f (.ref (a+5))],
   [en P e (d+5+k+j)<|.ref<|a+6],[iv c.line,iv c.col,.ref<|a+5],a+7,d+6+k+j,f⟩
|_=>⟨[],[],[],n,d,f⟩
def one (P:Kb)(n a:O)(b:B)(e:OW):Rc->R
|.d=>dO P n a b e
|.m=>match e with
 |.Assign _ (.Constant (.str s) _ _) _=>⟨[],[],[],n,a+2,.str s a⟩
 |_=>⟨[],[],[],n,a,b⟩
|.c=>match e with
 |.Assign (.Name x _::_) (.Constant (.str s) _ _) _=>⟨[],[en P x (a+1)<|.str s a],[],n,a+2,b⟩
 |.Assign (.Name x _::_) (.Constant (.int i) _ _) _=>⟨[],[en P x (a+1)<|.int i a],[],n,a+2,b⟩
 |_=>⟨[],[],[],n,a,b⟩
|.x k g v os j h f=>⟨os P,[en P k g v],j,h,f,b⟩
def go (P:Kb):U (OW×Rc)->O->O->B->U R
|[],_,_,_=>[]
|(b,r)::l,n,c,a=>let x:=one P n c a b r
 x::go P l x.n x.tk x.md
def FE (x:R):U R->R
|[]=>x
|y::l=>FE y l
def ds:Data->U OX
|.dict a _=>a.toList
|_=>[]
def ep:Data->O
|.dict _ n=>n
|_=>0
def r0:R:=⟨[],[],[],15,187,.str "__main__" 164⟩
def rs (P:Kb)(l:U<|OW×Rc):U R:=go P l 15 187<|.str "__main__" 164
def o3 (P:Kb)(l:U R):Obj:=di (en P "__name__" 165 (FE r0 l).md::((ds (boot_o_3 P).data).tail++l.flatMap R.ns))<|ep (boot_o_3 P).data+(l.flatMap R.ns).length
def os (P:Kb)(l:U R):U Obj:=
 boot_o_0 P::boot_o_1 P::boot_o_2 P::o3 P l::boot_o_4 P::boot_o_5 P::boot_o_6 P::boot_o_7 P::boot_o_8 P::boot_o_9 P::boot_o_10 P ::
 tu []::fe (l.flatMap R.tb)::cdo "<module>" "<module>" 182 185 1 0 0 11 Jt .none .none .none ::
 ⟨.type "frame",J,.plain,#[Y<|.ref 13,Y<|.ref 3,Y<|.ref 3,J,Y<|.str "__main__" 164,J,Y<|.ref 0]⟩::l.flatMap R.os
def odd {a:Type}:U a->U a×U a
|[]=>([],[])
|x::l=>(x::(odd l).2,(odd l).1)
noncomputable def bt:O->U Obj->BT
|0,_=>.nil
|_+1,[]=>.nil
|k+1,x::l=>.node x (bt k (odd l).1)<|bt k (odd l).2
noncomputable abbrev p0:Pos:=⟨0,0,0,0⟩
abbrev B0:U Frame:=[topFrame p0]
abbrev an:L B:=Y<|.ref 6
noncomputable def ev (p:OI):Env:={scope:=p.main.scope,locals:=mainNs,globals:=mainNs,cells:=[],code:=.ref 13,frame:=Y 14}
def cE (p:OI):Code:=.body (LM p)<|ev p
def sT (p:OI)(rc:U Rc)(P:Kb)(m n a:O)(o:Pp):SharedT:=⟨bt 12<|os P<|rs P<|(p.main.body.zip rc).take m,n,{},#[],{},a,o⟩
def hp (p:OI)(rc:U Rc)(m n:O)(P:Kb):OT:=absHeap (bt 12<|os P<|rs P<|(p.main.body.zip rc).take m) n {}
def Cut (p:OI)(rc:U Rc)(i n t:O)(ps:Pos)(k N b c:O)(a:Pos)(w:Jy):Prop:=∀o,segRunT K3 p w 11 an 1 N (sT p rc w.params i n t o) (piecesOf ((p.main.body.drop i).take k) (ev p) (cE p) ps B0)=Y (.next,sT p rc w.params (i+k) b c o,cE p,a)
def Ch (p:OI)(rc:U Rc)(m a b:O)(i n t:O)(ps:Pos)(M:O):Prop:=∀w o,topRun K3 p w 11 an M (sT p rc w.params i n t o).abs (restOf (p.main.body.drop i) (ev p) (cE p) ps B0)=Y (sT p rc w.params m a b o).abs
theorem bq {p:OI}{rc:U Rc}{m d f i n t k N b e M:O}{ps a:Pos}(c:∀w,Cut p rc i n t ps k N b e a w)(h:Ch p rc m d f (i+k) b e a M):Ch p rc m d f i n t ps (N+M):=λw o=>by have x:=piece_app (segRun_of<|c w o)<|h w o;rw[<- M5,List.take_append_drop] at x;exact x
theorem Bp {p:OI}{rc:U Rc}{m a b:O}{ps:Pos}(hd:p.main.body.drop m=[]):Ch p rc m a b m a b ps 2:=λw o=>by rw[hd];exact piece_nil rfl
theorem yj (w:Jy):((Ks w.params).isNs JT&&(Mf []:OY Pk).size==0,(Ks w.params).objs.size,(Ks w.params).nsMap JT "__annotations__")=(Ju,11,an):=by kernel_rfl
theorem yB {p q:OI}{a:U Str}{Xt:Jv->OF}{l:Type}{j:Jv->l}{i:Jy->l}{N M m b h:O}{rc:U Rc}
  (e:opening p=plainProg p.main.scope.names) (n:Nat.ble 600 N=Ju) (f:∀s,fenceModules? p s=Y s) (r:LM p=p.main.body)
  (g:∀w:Jy,((Ks w.params).isNs JT&&(Mf []:OY Pk).size==0,(Ks w.params).objs.size,(Ks w.params).nsMap JT "__annotations__")=(Ju,11,an))
  (pre:∀(w:Jy) (o:Pp),topGo K3 p w 11 an 12 ⟨Ks w.params,Mf [],boot_drawn,boot_toks,o⟩ (topStub p)=Y ((sT p rc w.params 0 15 187 o).abs,⟨denote K3<|cE p,cE p,p0,B0⟩))
  (blk:∀(w:Jy) (o:Pp),segRun K3 p w 11 an 1 1 (sT p rc w.params 0 15 187 o).abs (blockOf (LM p) (ev p) (cE p) p0 B0)=Y (.next,(sT p rc w.params 0 15 187 o).abs,cE p,p0))
  (ch:Ch p rc m b h 0 15 187 p0 M) (le:Nat.ble (12+(1+M)) N=Ju)
  (c:∀w:Jy,(λo=>((staticsOk (L5 p.main.body) (Ks w.params) (hp p rc m b w.params)&&namesBound p (hp p rc m b w.params)&&gensDone ⟨hp p rc m b w.params,#[],{},h,o⟩&&laidKept (Ks w.params) (hp p rc m b w.params)),
    openSeen q a (L5 p.main.body) Xt Ju ⟨hp p rc m b w.params,#[],{},h,o⟩,j ⟨hp p rc m b w.params,#[],{},h,o⟩))=λ_=>(Ju,openGood q a,i w)):LeftO p q a Xt j i N:=
 LeftO.of_pieces (H₀:=Ks) (H₁:=hp p rc m b) (gs₁:=#[]) (d₁:={}) (k₁:=h) (boot_open e n f) g
  (λw o=>go_top (pre w o)<|piece_block (blk w o) (by have x:=ch w o;rw[JB,<- r] at x;exact x)) le c
noncomputable def cb (a:OW)(j:O):OW:=match a with
|.ClassDef _ _ _ b _ _ _ _ _ _ _=>b.getD j a
|_=>a
noncomputable def drec (e:OW):PySem.DefRec:=match e with
|.FunctionDef n a b _ _ _ d _ _ c=>⟨n,a,b,d,c⟩
|_=>⟨default,default,[],default,default⟩
theorem fZ {a:Type}:∀(l:U a) (i:O),(odd l).1[i]?=l[2 * i]?/\(odd l).2[i]?=l[2 * i+1]?
|[],i=>by simp[odd]
| x::l,i=>by
 refine⟨?_,?_⟩
 .cases i with
  |zero=>simp[odd]
  |succ j=>rw[show 2 * (j+1)=2 * j+1+1 by lia];simp only[odd,KR];exact(fZ l j).2
 .simp only[odd,KR];exact(fZ l i).1
theorem nX {a:Type}:∀(l:U a),(odd l).1.length=(l.length+1) / 2/\(odd l).2.length=l.length / 2
|[]=>by simp[odd]
|x::l=>by have h:=nX l;simp only[odd,JY,h.1,h.2];exact⟨by lia,trivial⟩
theorem mw:∀(k:O) (l:U Obj) (a:O),l.length<2 ^ k->(bt k l).get a=l[a]?
|0,l,a,h=>by have:l=[]:=List.length_eq_zero_iff.mp (by simpa using h);subst this;simp[bt,BT.get]
|k+1,[],a,h=>by simp[bt,BT.get]
| k+1,x::l,a,h=>by
 have e:2 ^ (k+1)=2 * 2 ^ k:=by rw[Mn];lia
 have f:=nX l;simp only[JY] at h;unfold bt;rw[BT.get_node];by_cases c:a=0
 .simp[c]
 .rw [OK c];by_cases d:a % 2=1
  .rw [OG d,mw k _ _<|by lia,(fZ l<|a / 2).1];obtain⟨b,rfl⟩:∃b,a=b+1:=⟨a-1,by lia⟩;rw[KR];congr 1;lia
  .rw [OK d,mw k _ _<|by lia,(fZ l<|a / 2-1).2];obtain⟨b,rfl⟩:∃b,a=b+1:=⟨a-1,by lia⟩;rw[KR];congr 1;lia
def lL (p:OI)(rc:U Rc)(m:O)(P:Kb):U Obj:=os P<|rs P<|(p.main.body.zip rc).take m
def kK (p:OI)(rc:U Rc)(m:O)(as:U OD)(P:Kb):Frag:=as.map λa=>(a,(lL p rc m P).getD a default)
noncomputable def okO:L Obj->OF
|some ⟨_,_,.freed,_⟩=>Jt
|some _=>Ju
|none=>Jt
theorem nF {p:OI}{rc:U Rc}{m:O}{P:Kb}{a:OD}{o:Obj}:∀{as:U OD},(kK p rc m as P).lookup a=Y o->a∈as/\o=(lL p rc m P).getD a default
|[],h=>by simp[kK] at h
| b::as,h=>by
 unfold kK at h;rw[JQ,KC] at h;by_cases e:a=b
 .subst e;rw[OU] at h;exact⟨JJ ..,(Kg h).symm⟩
 .rw [O6 e] at h;have x:=nF (as:=as) h;exact⟨JW _ x.1,x.2⟩
def hkk (p:OI)(rc:U Rc)(m n:O):Hook where
 α:=OY Obj
 obs s:=s.heap.objs
 val w:=(hp p rc m n w.params).objs
 says w h:=∀a o,(hp p rc m n w.params).get? a=Y o->h.get? a=Y o
 of w s e a o x:=by unfold Heap.get? at *;rw[e];exact x
 keeps w h h' X k a o x:=k _ _<|X a o x
theorem Je {p:OI}{rc:U Rc}{m n:O}{as:U OD}{w:Jy}{h:OT}(j:Nat.blt (lL p rc m w.params).length 4096=Ju)(i:(as.all λa=>Nat.blt a n&&okO (lL p rc m w.params)[a]?)=Ju)
  (b:(hkk p rc m n).says w h):(kK p rc m as w.params).In h:=λa o e=>by
 obtain⟨e1,e2⟩:=nF e;obtain⟨c1,c⟩:=Kc.mp<|Lb.mp i a e1;refine b a o ?_;have f:a<n:=Na c1;have c4:(lL p rc m w.params).length<2 ^ 12:=Na j;have g:=mw 12 (lL p rc m w.params) a c4;unfold hp Heap.get?;rw[absHeap_at,OG f];show(match Y (((bt 12<|lL p rc m w.params).get a).getD default) with|some ⟨_,_,.freed,_⟩=>J|o=>o)=Y o;rw[g];rw[Mv] at e2;rw[<- e2];cases q:(lL p rc m w.params)[a]? with
 |none=>rw[q] at c;cases c
 |some x=>rw[q] at c e2;have e3:o=x:=e2;subst e3;obtain⟨_,_,d,_⟩:=o;cases d<;>first|rfl|cases c
noncomputable def pmO:L Obj->B
|some ⟨_,_,.func f,_⟩=>f.pyModule
|_=>.none
def rfO:L (L B)->O
|some (Y (.ref a))=>a
|_=>0
noncomputable def tkO:L (L B)->O
|some (Y (.int _ t))=>t
|some (Y (.str _ t))=>t
|_=>0
theorem raw_mk {K:Frag}{x:Str}{a:OW}{dV:B}(b:Pq K JT x=Y (Y<|.ref<|rfO<|Pq K JT x))
  (c:K.lookup (rfO<|Pq K JT x)=Y ⟨.type "function",J,.func<|fnOf x x (L2.defArgs a) (L2.defBody a) (L2.defScope a) dV .none .none (pmO<|K.lookup<|rfO<|Pq K JT x) J (.ref<|rfO (Pq K JT x)-1) .none,#[]⟩)
  (d:codeIn K (.ref<|rfO (Pq K JT x)-1) x=Ju) (e:keepIn K (.ref<|rfO<|Pq K JT x)=Ju):MR.Raw K x a dV:=⟨_,_,_,_,_,_,_,_,_,_,b,c,d,e⟩
noncomputable def toV:B->L2.V
|.bool b=>.bl b
|.int i _=>.int i
|.str s _=>.str s
|.ref a=>.ref a
|_=>.non
noncomputable def okV:B->OF
|.none=>Ju
|.bool _=>Ju
|.int _ _=>Ju
|.str _ _=>Ju
|.ref _=>Ju
|_=>Jt
theorem oI:∀{v:B},okV v=Ju->L2.RelV (toV v) v
|.none,_=>rfl
|.bool _,_=>rfl
|.int _ _,_=>⟨_,rfl⟩
|.str _ _,_=>⟨_,rfl⟩
|.ref _,_=>rfl
|.ellipsis,h=>by cases h
|.notImplemented,h=>by cases h
|.float _ _,h=>by cases h
|.bytes _ _,h=>by cases h
|.type _,h=>by cases h
|.builtin _,h=>by cases h
theorem ky:∀{l:U B},l.all okV=Ju->L2.Vals (l.map toV) l
|[],_=>.nil
|v::l,h=>by rw[LI,Kc] at h;exact .cons (oI h.1)<|ky h.2
noncomputable def eK (e:OX):Str×O×B:=match e.key with
|.str k t=>(k,t,e.val)
|_=>("",0,e.val)
def tE:L Obj->U (Str×O×B)
|some o=>(ds o.data).map eK
|none=>[]
def tN:L Obj->O
|some o=>ep o.data
|none=>0
def enL (P:Kb)(l:U<|Str×O×B):U OX:=l.map λe=>en P e.1 e.2.1 e.2.2
def tL (l:U<|Str×O×B):U (Str×L2.V):=l.map λe=>(e.1,toV e.2.2)
theorem lA {P:Kb}:∀l:U<|Str×O×B,KeysLit P<|enL P l
|[]=>trivial
|e::l=>⟨⟨_,_,rfl,rfl⟩,lA l⟩
theorem k6 {P:Kb}:∀{l:U<|Str×O×B},(l.all λe=>okV e.2.2)=Ju->PySem.Paired (λ(p:Str×L2.V) (e:OX)=>(∃t,e.key=.str p.1 t)/\L2.RelV p.2 e.val) (tL l) (enL P l)
|[],_=>.nil
|e::l,h=>by rw[LI,Kc] at h;exact .cons ⟨⟨_,rfl⟩,oI h.1⟩<|k6 h.2
theorem tab_mk {K:Frag}{w:Jy}{x:Str}(a:Pq K JT x=Y (Y<|.ref<|rfO<|Pq K JT x))
  (b:K.lookup (rfO<|Pq K JT x)=Y (di (enL w.params<|tE<|K.lookup<|rfO<|Pq K JT x)<|tN<|K.lookup<|rfO<|Pq K JT x))
  (c:((tE<|K.lookup<|rfO<|Pq K JT x).all λe=>okV e.2.2)=Ju) (d:(rfO (Pq K JT x)==Ko)=Jt):MR.TabRaw K w x (tL<|tE<|K.lookup<|rfO<|Pq K JT x):=
 ⟨_,_,_,a,b,lA _,k6 c,d⟩
def eU {c d:Type}(f:c->d->OF):U c->U d->OF
|[],[]=>Ju
|a::l,b::r=>f a b&&eU f l r
|_,_=>Jt
def mY (K:Frag):O->M.T->L2.V->OF
|_+1,.int i,.int j=>decide (i=j)
|_+1,.non,.non=>Ju
|_+1,.bl a,.bl b=>decide (a=b)
|_+1,.str x,.str y=>decide (x=y)&&M.sOk x
|n+1,.tup d,.ref a=>match K.lookup a with
 |some ⟨.type "tuple",_,.seq c _,_⟩=>Nat.ble c.size 1000&&(c.toList.all okV&&eU (mY K n) d (c.toList.map toV))
 |_=>Jt
|_,_,_=>Jt
theorem nU {K:Frag}{n:O}(c:∀t v,mY K n t v=Ju->MR.CstR K t v):∀{a:U M.T} {b:U L2.V},eU (mY K n) a b=Ju->MR.CstRs K a b
|[],[],_=>MR.cst_nil
|t::a,x::b,h=>by unfold eU at h;rw[Kc] at h;exact MR.cst_cons (c _ _ h.1)<|nU c h.2
|[],_::_,h=>by cases h
|_::_,[],h=>by cases h
theorem yi {K:Frag}:∀n t v,mY K n t v=Ju->MR.CstR K t v:=by
 intro n;induction n with
 |zero=>intro t v h;simp[mY] at h
 | succ n b =>
  intro t v h;unfold mY at h;split at h
  .rename_i q;cases q;have e:=OM h;subst e;exact MR.cst_int _
  .exact MR.cst_non
  .have e:=OM h;subst e;exact MR.cst_bl _
  .rw[Kc] at h;have e:=OM h.1;subst e;exact MR.cst_str h.2
  .rename_i q;cases q;split at h
   .rename_i c k d q;rw[Kc,Kc] at h;have a:=Na h.1;exact MR.cst_tup q rfl rfl (JP a<|by decide) (ky h.2.1) (by rw[JF,Kr];exact JP a<|by decide) (nU b h.2.2)
   .cases h
  .cases h
theorem cst_of {K:Frag}{n:O}:∀{tab:U<|Str×M.T} {T:U<|Str×L2.V},eU (λ(e:Str×M.T) (p:Str×L2.V)=>decide (p.1=e.1)&&mY K n e.2 p.2) tab T=Ju->MR.CstL K tab T
|[],[],_=>trivial
|e::tab,p::T,h=>by unfold eU at h;rw[Kc,Kc] at h;exact⟨⟨OM h.1.1,yi n _ _ h.1.2⟩,cst_of h.2⟩
|[],_::_,h=>by cases h
|_::_,[],h=>by cases h
end TP

namespace MR
open PySem PySem.Spec PyProof.Rows L2 L3
theorem walkX {sx:Str}{C:M.Call}{ix k:O}{l:MO}{q:OI}{c:U Str}{t:(Str->L B)->OT->Prop}{j:Jy->OT->Prop}{d:DefRec}{K:Kb->Jw}(hp:∀g:U I,g.length<=63->∃m bs,C ix [(.d,.scr g)]=.ok ((m,.bl Ju),bs))(D:l.most=Y 63)(i:d.params.defaults=[])(G:Room k K5)
  (A:∀(w:Jy) (h:OT),j w h->(K w.params).In h)
  (F:∀ (w:Jy) (e:Str->L B) (o:OD) (h:OT),(K w.params).In h->h.Ns JT e->e d.name=Y (.ref o) ->
   ∃p:Kn,(∀(s:Jv) (u:B),K2 s p ⟨[u],[]⟩ [(sx,u)])/\∀b:OT,(K w.params).In b->b.Ns JT e->eA l.prog w (K w.params) e b CX0 k o p [sx] (spS (K w.params) C ix [])):
  Nw q c t j l.row.toRowW d [] (λf H=>ML f H):=
 L2.walk_of (n:=63) (k:=k) (x:=sx) (CX:=λ_=>CX0) (sp:=λw=>spS (K w.params) C ix []) D (by decide) i G A F (λ_ _ a g r v y=>Bd (hp g r) r v y) λ_ _ _ _ _ z=>z
theorem yU {d:Str}{w:Jy}{K:Jw}{c:Str->L B}{st:OW}{h:OT}{n:OD}{pr:OI}{k:O}{sp:Sp}(X:K.In h)(G:h.Ns JT c)(l:c "law"=Y (.ref n))(r:Raw K "law" st .none)(x:∀(kV j m:B) (an:L OD) (g i:B) (s:Jv) (v:B),K2 s (KY "law" "law" (defArgs st) (defBody st) (defScope st) .none kV j m an g i) ⟨[v],[]⟩ [(d,v)])
  (ok:∀f b,Fun K "law" "law" st f b->∀a,eA pr w K c a CX0 k f b [d] sp):∃b:Kn,(∀(s:Jv) (v:B),K2 s b ⟨[v],[]⟩ [(d,v)])/\∀a:OT,K.In a->a.Ns JT c->eA pr w K c a CX0 k n b [d] sp:=by
 obtain⟨f,y,z,A,kV,j,m,an,g,i,o,p,t,u⟩:=r;have e:=l.symm.trans<|Mj X G o;cases e;exact⟨_,x kV j m an g i,λa _ _=>ok _ _ (uy (st:=st) p t u) a⟩
end MR


namespace L3
open PySem PySem.Spec PyProof.Rows L2
noncomputable abbrev eT1 (h:OT)(a:OD):OT:=h.push {cls:=.type "tuple_iterator",data:=.fields #[.ref a,.int 0 0]}
abbrev eT2 (h:OT)(a:OD):OT:=(eT1 h a).push {cls:=.type "enumerate",data:=.fields #[.none,.bool Jt,.ref h.objs.size,rawInt 0,.none,.none]}
theorem Bc {e:Type}{c:Prop}[Decidable c]{M:Model}{A:JU}{E:B->Jv->Prop}{s:Jv}{a b:Sem e}{Q:e->Jv->Prop}(f:OJ M A a Q E s)(g:OJ M A b Q E s):OJ M A (if c then a else b) Q E s:=by
 by_cases d:c
 .rw[OG d];exact f
 .rw[OK d];exact g
theorem kh (a:OD)(c:OY B):
  Meets (Builtin.«enumerate.__new__» ⟨[.type "enumerate",.ref a],[]⟩) (λ_ R s=>s.heap.IsTuple a c/\R (.ok<|.ret<|.ref (eT1 s.heap a).objs.size) {s with heap:=eT2 s.heap a}):=
 .of_wp λprog w A R s h=>by
  obtain⟨hp,g,d,f,os⟩:=s;obtain⟨e,h⟩:=h;have b:=sub_enumerate;have e1:Heap.IsTuple (Shared.heap ⟨hp,g,d,f,os⟩) a c:=e
  wp_walk using L9 e1
  refine wpAny_stack λi _ _ _=>JO ?_;show OJ _ _ (if _=Ju then(pure (Value.ref a,(none:L B)) >>= _) else(pure (Value.ref a,(none:L B)) >>= _)) _ _ _;refine Bc ?_ ?_
  .refine JD (JO ?_);show OJ _ _ (pyIter (.ref a) >>= _) _ _ _
   wp_walk using L9 e1
   exact⟨_,rfl,h⟩
  .refine JD (JO ?_);show OJ _ _ (pyIter (.ref a) >>= _) _ _ _
   wp_walk using L9 e1
   exact⟨_,rfl,h⟩
theorem mZ {prog:OI}{w:Jy}{A:JU}{E:B->Jv->Prop}{s:Jv}{a:OD}{f:OY B}{Q:B->Jv->Prop}(i:s.heap.IsTuple a f)
  (h:∀b,IsEnum b (s.heap.objs.size+1) s.heap.objs.size 0 .none->b.IsTupleIter s.heap.objs.size a 0->(∀c o,s.heap.get? c=Y o->b.get? c=Y o)->Q (.ref<|s.heap.objs.size+1) {s with heap:=b}):
  OJ (JA prog w) A (call (.type "enumerate") [.ref a]) Q E s:=by
 refine callType_new F.called_enumerate (by decide) (F.typeCall_enumerate_1 _) (F.newCall_enumerate_1 _) (λe=>F.args_object_init_2 e _) F.entry_enumerate_new (kh a f) ⟨i,?_⟩;have e1:(eT1 s.heap a).objs.size=s.heap.objs.size+1:=Heap.size_push ..;have d:(eT2 s.heap a).get? (eT1 s.heap a).objs.size=Y _:=Heap.get?_push_size _ rfl;have g:(eT2 s.heap a).get? s.heap.objs.size=Y _:=Heap.get?_push_of_some _<|Heap.get?_push_size _ rfl;show _/\_;rw[e1] at d;rw[e1];exact⟨⟨_,d,rfl⟩,h _ d ⟨_,g,rfl,rfl⟩ λc o x=>Heap.get?_push_of_some _<|Heap.get?_push_of_some _ x⟩
theorem oS {prog:OI}{w:Jy}{A:JU}(p:A.handled=J)(b t:OD)(f:t≠b)(d:OY B):Draws prog w A b [b,t] d.size (λi v=>d[i]?=Y v) (λi h=>h.IsTupleIter b t i/\h.IsTuple t d) where
 live:=λi h a=>let ⟨o,e,_⟩:=a.1;⟨o,e⟩
 frame:=λi h c a k=>⟨a.1.at λo e=>k b (by simp) o e,by obtain⟨o,e,r⟩:=a.2;exact⟨o,k t (by simp) o e,r⟩⟩
 item:=λi s Q E j a q=>by refine lV a.1 a.2 (x:=d[i]) (Ot j) λc g l=>q _ c s.toks (Ot j) ⟨g,?_⟩ l;obtain⟨o,e,r⟩:=a.2;exact⟨o,(l.2 t f).trans e,r⟩
 done:=λs Q E a q=>i0 p a.1 a.2 (NU<|JE _) λc e m n=>q c e m n
theorem pY {prog:OI}{w:Jy}{A:JU}(j:A.handled=J)(b t:OD)(n:O)(d:OY B)(m:d.size<=n):Draws prog w A b [b,t] n (λ_ _=>OS) (λi h=>i=n/\h.IsTupleIter b t n/\h.IsTuple t d) where
 live:=λi h a=>let ⟨o,e,_⟩:=a.2.1;⟨o,e⟩
 frame:=λi h c a k=>⟨a.1,a.2.1.at λo e=>k b (by simp) o e,by obtain⟨o,e,r⟩:=a.2.2;exact⟨o,k t (by simp) o e,r⟩⟩
 item:=λi s Q E l a q=>OH a.1<|J7 l
 done:=λs Q E a q=>i0 j a.2.1 a.2.2 (NU m) λc e f g=>q c e f g
def GI (K:Jw)(a:OD):It:=
 ⟨fun i H=>∃ b x,SqT K H a b/\b[i]?=Y x,
  λi H v c=>∃p x,v=.ref p/\H p=J/\c=upd H p (.tup [.int (i:I),x])/\∀b,SqT K H a b->b[i]?=Y x,
  λi H=>∃b,SqT K H a b/\b.length<=i⟩
theorem mV {P:OI}{w:Jy}{K:Jw}{es:U ON}{kt:O}{pt:Pos}{e l a:OD}(r:e≠l)(hae:a≠e)(hai:a≠l):tm P w K (.Tuple es kt pt) (GI K a) [e,l] e (λi h=>(∃j,IsEnum h e l (i:I) j)/\h.IsTupleIter l a i) where
 mem:=by simp
 obj:=λi h n b g=>by
  obtain⟨⟨j,m⟩,p⟩:=n;simp only[JX,LC,Pr] at g;rcases g with rfl|rfl
  .exact⟨_,m,λv y=>by cases y⟩
  .obtain ⟨o,M,_,d⟩:=p;exact⟨o,M,λv y=>by rw[d] at y;cases y⟩
 keep:=λi h D n k=>by obtain⟨⟨j,m⟩,p⟩:=n;exact⟨⟨j,k e (by simp) _ m⟩,p.at λo z=>k l (by simp) o z⟩
 item:=by
  intro X Z hw Q hc i u s σ H E c F n hg;subst Z hw Q;obtain⟨xs,x,G,hx⟩:=hg;obtain⟨⟨j,m⟩,p⟩:=n;obtain⟨f,v1,o1,z1⟩:=c.tuple G;obtain⟨u1,e1,r1⟩:=v1.get hx
  have lt:∀b∈[e,l],b<s.heap.objs.size:=λb g=>by
   simp only[JX,LC,Pr] at g;rcases g with rfl|rfl
   .exact Heap.lt_size m
   .obtain⟨o,M,_⟩:=p;exact Heap.lt_size M
  have hit:i<f.toArray.size:=by have:=(KD.mp e1).1;simpa using this
  refine wpAny_pyNext_enum_itemD (oS (A:=X.A.in1) (c.ok.hd hc) l a hai f.toArray) m ⟨p,(show s.heap.IsTuple a f.toArray from o1)⟩ hit r (by simp only[JX,LC,Pr,not_or];exact⟨r,Kv hae⟩) λx' D tk px y1 y2 y3 y4 y5=>⟨_,rfl,?_⟩
  have ex:x'=u1:=by
   have:f[i]?=Y x':=by simpa using px
   rw[e1] at this;cases this;rfl
  subst ex;refine wpAny_letOwnedTupleGo_enum (s:={s with heap:=D,toks:=tk+1}) y1 λN w1 sb=>?_;have t:Heap.SameBut e D N:=sb;have nz:s.heap.objs.size≠e:=LS (lt e<|by simp);have kk:∀b o,b ∉ [e,l]->s.heap.get? b=Y o->N.get? b=Y o:=λb o g z=>by simp only[JX,LC,Pr,not_or] at g;exact(t.2 b g.1).trans<|y5 b o g.1 g.2 z
  have tp:Pj N s.heap.objs.size [.int (i:I) tk,x'].toArray:=⟨_,(t.2 _ nz).trans y3,rfl,_,rfl⟩
  refine⟨.ref s.heap.objs.size,upd H s.heap.objs.size<|.tup [.int (i:I),x],gR (s:=s) (t':=tk+1) c F kk (JE _) (by show 2<=sizeLine;decide) (.cons ⟨_,rfl⟩<|.cons r1 .nil) tp,rfl,
   ⟨_,x,rfl,c.fresh,rfl,λzs hz=>by rw[c.tuple_inj hz G];exact hx⟩,?_,λb g=>?_⟩
  .exact⟨⟨_,w1⟩,y2.1.at λo z=>(t.2 _<|Kv r).trans z⟩
  .rw[ag<|J7<|lt b g];exact(F b g).1
 done:=by
  intro X Z hw Q hc i u s σ H E c F n hg;subst Z hw Q;obtain⟨xs,G,hl⟩:=hg;obtain⟨⟨j,m⟩,p⟩:=n;obtain⟨f,v1,o1,z1⟩:=c.tuple G;have l1:=v1.length;have l2:f.toArray.size<=i:=by simp;lia
  refine wpAny_pyNext_enum_endD (pY (A:=X.A.in1) (c.ok.hd hc) l a i f.toArray l2) m ⟨rfl,p,(show s.heap.IsTuple a f.toArray from o1)⟩ λD eb=>⟨rfl,lJ (t':=s.toks) c F λb o g z=>eb b o (λy=>g<|by simp[y]) z⟩
 self:=λ_ _ _ _ _ n h=>by obtain⟨⟨j,m⟩,_⟩:=n;exact wpAny_pyIter_enum m h
def uo (K:Jw)(c:TA):TI:=λf H R=>c f H λd b=>∃a,d=[.ref a]/\(∃e,SqT K b a e)/\R (GI K a) b
theorem vA {X:Cx}{a:ON}{v:TA}{p i pt:Pos}{x:U ON}{M:O}(A:Gl X "enumerate")(D:X.mg "enumerate"=J)(z:PA X [a] v)(F:Jz [a] X.env=[(Jt,OV a X.env)]:=by rfl):
  PI X (.Tuple x M pt) (.Call (.Name "enumerate" p) [a] [] i) (uo X.K v):=by
 intro g s Q H R c h;refine Call_<|fz c A D boot_enumerate<|MH (thn (z i g s Q H _ c h) λZ j ⟨vs,w,k,r1,l⟩=>?_) F rfl;obtain⟨a,rfl,⟨xs,n⟩,q⟩:=l;cases r1 with
 | cons r P =>
  cases P;cases r;obtain⟨m,v1,u,z1⟩:=k.tuple n;have f:a<j.heap.objs.size:=by obtain⟨o,e,_⟩:=u;exact Heap.lt_size e
  refine mZ (show j.heap.IsTuple a m.toArray from u) λy l N G=>?_;refine wpAny_pyIter_enum (s:={j with heap:=y}) l ?_;refine⟨_,_,_,_,w,rfl,k.kept (t':=j.toks) G,mV (Nat.succ_ne_self _) (J7<|Oo f)<|J7 f,⟨⟨_,l⟩,N⟩,λb t=>?_,q⟩;have d:j.heap.objs.size<=b:=by simp only[JX,LC,Pr] at t;rcases t with e|e<;>(rw[e];first|exact Nat.le_add_right _ _|exact JE _)
  exact k.fpOk d<|k.hok.fresh d
end L3
namespace MR
open PySem PySem.Spec PyProof.Rows L2 L3
section
variable {X:Cx}{sf sg:O->L O}{C:M.Call}{pos p p2 p3:Pos}{ea eb ec:ON}{a b c:M.E}{h:OF}{n:O}{io:U O}{K:Jw}
theorem wd {e:M.E}(F:L2.St)(H:Hp)(R:It->Hp->Prop)(h:wI K sf C 2 .enmT [e] F H R):uo K (wL K sf C [e]) F H R:=by
 obtain⟨pv,Z,N,η,ws,v,ts,A,ev,D,k⟩:=h;refine⟨pv,Z,N,η,ws,v,A,ev,λvs Z' P u G f r s=>?_⟩;obtain⟨⟨m,a⟩,η1,us,e1,e2,rfl⟩:=ay ev;cases e2;obtain⟨x,rfl,r1⟩:=br rfl r;obtain⟨o,rfl⟩:∃o,a=.tup o:=by cases a<;>first|exact⟨_,rfl⟩|cases D
 cases D;obtain⟨a,t,rfl,q,l,p⟩:=Rep.sh r1;have l1:=p.length;refine⟨a,rfl,⟨t,q⟩,k _ _ P u f.freeze (a7 f.own s) ⟨λw i s g=>?_,λw i s g=>?_,by rw[cW];lia⟩ λw i x H1 s g y=>?_⟩
 .rw [cW] at g;exact⟨t,t[i]'(by lia),s.sqt q,by simp⟩
 .rw [cW] at g;exact⟨t,s.sqt q,by lia⟩
 .rw [cW] at g;obtain⟨Q,x1,rfl,hp,rfl,hx⟩:=y;obtain⟨x',j,rx⟩:=p.get (show o[i]?=Y o[i] by simp);rw[hx t<|s.sqt q] at j;cases j;refine⟨Q,.int i,x1,(.d,.int ((0+i:O):I)),(.s,o[i]),rfl,DI hp,.inl<|.inl aq,iL<|by simp,?_,rx.sany.keep s (λ_ z=>z) λ_ _ z=>z.elim⟩;show V.int (i:I)=V.int ((0+i:O):I);rw[LX]
theorem Dj {e:U ON}{g:O}{pt p:Pos}(hm:X.mg "enumerate"=J)(f:Gl X "enumerate":=by rfl)(ha:SE X sf C ea a)(d:Jz [ea] X.env=[(Jt,OV ea X.env)]:=by rfl):PI X (.Tuple e g pt) (.Call (.Name "enumerate" p) [ea] [] pos) (wI X.K sf C 2 .enmT [a]):=iT (vA f hm (slc ha sl0 d) d) wd
end
end MR

namespace L3
open PySem PySem.Spec PyProof.Rows L2
theorem HA {prog:OI}{w:Jy}{A:JU}{E:B->Jv->Prop}{s:Jv}{t b:OD}{k:U B}{Q:B->Jv->Prop}(p:Pj s.heap t ([]:U B).toArray)(o:Pj s.heap b k.toArray)(h:Q (.ref b) s):OJ (JA prog w) A (Kk .Add (.ref t)<|.ref b) Q E s:=by
 obtain⟨⟨l,m,i,u⟩,ho,j,n,hd⟩:=id p;obtain⟨⟨g,e,data2,f⟩,d,a,r,c⟩:=id o;simp only at j hd a c;subst j hd a c
 exact Pm ⟨_,ho,rfl⟩ ⟨_,d,rfl⟩ MI Pd Nf Nj (M9 _ _)
  (tuple_addW0 t b ([]:U B).toArray k.toArray n r m e u f rfl) ⟨ho,d,h⟩
def zM (K:Jw):R2:=λx y H Q=>∃a b e f,x=.ref a/\y=.ref b/\SqT K H a e/\SqT K H b f/\e.length+f.length<=sizeLine/\∀v d,Same H d->(∃c,v=.ref c/\SqT K d c (e++f))->Q v d
theorem yq {X:Cx}:OpR X (Kk .Add) (zM X.K):=λd s r H x y v u Q c j k h=>by
 obtain⟨a,b,l,p,e1,e2,g,e,m,q⟩:=h;by_cases hx:l=[]
 .subst hx e1 e2;cases j;cases k;obtain⟨f,r1,n,_⟩:=c.tuple g;obtain⟨i,r2,o,_⟩:=c.tuple e;have:f=[]:=by cases r1;rfl
  subst this;exact HA n o ⟨.ref b,H,c,rfl,q _ _ (Same.refl _) ⟨b,rfl,e⟩⟩
 .exact nW d s r H x y v u Q c j k ⟨a,b,l,p,e1,e2,g,e,hx,m,q⟩
theorem yY {X:Cx}{o e:ON}{c d:Pos}{ty:TE}{ad:OD}{T:U<|Str×V}(D:DTab X.K X.w ad T)(ho:PE X o<|tC<|.ref ad)(M:PE X e ty)(m:M1 X o "get" c e d):PE X (.Call (.Attribute o "get" c) [e] [] d) (λk H Q=>ty k H λy i=>∃z,y=.str z/\Q ((T.lookup z).getD .non) i):=by
 intro g s k H Q a h;refine L8 m.base m.few m.line Mu K9 Nb<|thn (ho g s k H (λx l=>x=.ref ad/\ty k l λy i=>∃z,y=.str z/\Q ((T.lookup z).getD .non) i) a ⟨rfl,h⟩) λu s1 ⟨x,l,p,rx,A,q1⟩=>?_;subst A;obtain rfl:u=Value.ref ad:=rx;obtain⟨f,N,hf⟩:=D.map (P:=X.prog) p.kIn;obtain⟨es,n,Z,k2,k3⟩:=D.ex;refine⟨N.typeIs,λb q=>?_,?_⟩
 .cases q;exact⟨_,p.kIn _ _ Z,rfl⟩
 rw[m.trees];refine Calls.callWith_builtin rfl (Calls.evalArgs_plain<|Calls.spliced_cons<|thn (M g s1 k l _ p q1) λiv s2 ⟨y,i,v,ry,z,F,q2⟩=>Calls.spliced_nil ?_);subst F;obtain⟨t,rfl⟩:=ry;obtain⟨G,j,r⟩:=D.map (P:=X.prog) v.kIn;exact Lv K9 j.typeIs LR (Ni _ _) (meets_dict_get (strKind X.prog X.w) ad (Ph X.prog X.w z t) D.lo) ⟨G,j,(T.lookup z).getD .non,i,v.tok _,(r z).getD<|show L2.RelV .non Value.none from rfl,q2⟩
end L3
namespace MR
open PySem PySem.Spec PyProof.Rows L2 L3
section
variable {X:Cx}{sf sg:O->L O}{C:M.Call}{pos p p2 p3:Pos}{ea eb ec:ON}{a b c:M.E}{h:OF}{n:O}{io:U O}{K:Jw}
theorem ui:Loc K 2 .catT h λg H Q=>∀x y,g=[x,y]->zM K x y H Q:=by
 intro ws w g Z H G Q hn e r P za k x y hx;subst hx;obtain⟨⟨m,a⟩,⟨n,b⟩,rfl⟩:=cK r.length.symm;obtain⟨G1,G2,w1,w2,d,r1,r2⟩:=bI r;cases a with
 | tup t =>
  cases b with
  | tup u =>
   have i:(if M.fits (t.length+u.length)=Ju then Y ((.s,.tup (t++u)):M.W) else J)=Y w:=e;split at i
   .rename_i A;cases i;obtain⟨a,g,rfl,F,hl,p⟩:=bY r1;obtain⟨b,ys,rfl,l,D,p2⟩:=bY r2;have o:=cH A;have e1:=p.length;have e2:=p2.length;refine⟨a,b,g,ys,rfl,rfl,F,l,LIM_le (by lia),λv H' f N=>g9 (m:=.s) (G':=no) P (λ_ z=>z.elim) (by rw[Jx];lia) (RepL.append (G1:=no) (G2:=no) (λ_ z=>z) (λ_ z=>z) (λ_ z _=>z) ((RepL.sh p).zmono λb j=>?_) ((RepL.sh p2).zmono λb j=>?_)) k f N⟩
    .exact j.imp id λz=>⟨w1 b z,λq=>q⟩
    .exact j.imp id λz=>⟨w2 b z,λq=>q⟩
   .cases i
  |_=>cases e
 |_=>cases e
theorem t4 (d:SE X sf C ea a)(e:SE X sf C eb b):SE X sf C (.BinOp ea .Add eb pos) (.op .catT h [a,b]):=aA (gy yq d e)<|aO ui
theorem xF {w:Jy}{ad:OD}{T:U<|Str×V}{tab:U<|Str×M.T}{e:M.E}(ht:∀z,match tab.lookup z with
  |some t=>∃v,T.lookup z=Y v/\CstR K t v
  |none=>T.lookup z=J) (F:L2.St) (H:Hp) (Q:VK) (h:wE K sf C (.getT tab e) F H Q):wE K sf C e F H λy P=>∃z,y=.str z/\Q ((T.lookup z).getD .non) P:=by
 obtain⟨pv,Z,N,D,x,η',A,ev,k⟩:=h;obtain⟨⟨u,η1⟩,h1,h2⟩:=ae<|show(M.evE C e D).bind (M.kGet tab)=_ from ev;obtain⟨z,e1,e2,e3⟩:=lh h2;cases e2;refine⟨pv,Z,N,D,u,_,A,h1,λy i g f G d r s=>?_⟩;obtain⟨m,t0⟩:=u;cases(show t0=_ from e1);have q:=ht z;refine⟨z,r.1,?_⟩;cases o:tab.lookup z with
 |none=>rw[o] at q e3;rw[show T.lookup z=J from q];have j:x=(.s,.non):=e3;subst j;exact k _ i g f no d.bare rfl (s.mono (λ_ z=>z) λa l=>l.elim .inl λz=>z.elim)
 |some t=>rw[o] at q e3;obtain⟨v,q1,q2⟩:=q;rw[q1];have j:x=(.s,t):=e3;subst j;exact k v i g f no d.bare (q2 i g)<|s.mono (λ_ z=>z) λa l=>l.elim .inl λz=>z.elim
theorem Hg {x:Str}{tab:U<|Str×M.T}{d e:Pos}(T:mj X.K X.w X.mg x tab)(f:SE X sf C ea a)(g:Gl X x:=by rfl)(hd:(x==("__debug__":Str))=false:=by decide)(m:M1 X (.Name x p2) "get" d ea e:=by exact⟨rfl,rfl,rfl,rfl⟩):SE X sf C (.Call (.Attribute (.Name x p2) "get" d) [ea] [] e) (.getT tab a):=by obtain⟨ad,k,i,D,j⟩:=T;exact aA (yY D (jd g i hd) f m)<|xF (w:=X.w) (ad:=ad) j
theorem wY {Z:Fp}{H:Hp}{G:Fp}{Q:VK}{p:OD}(e:Own Z H G)(f:∀a,Z a->H a≠J)(k:Out K Z H G (.d,.dct [] []) Q)(hp:H p=J):Q (.ref p) (upd H p<|.dK []):=by refine k _ Z _ (λa=>a=p) ⟨p,[],rfl,Kl _,⟨rfl,aq⟩,⟨Nz,λ_ z=>nomatch z⟩,rfl,rfl⟩ ?_<|cT hp e (λa h=>.inr h) Z (λ_ z=>z) λ_ z=>.inl z;rintro a rfl;exact⟨λz=>f a z hp,.inr [],aq⟩
theorem yK (e:L2.St)(H:Hp)(Q:VK)(j:wE K sf C (.op .dnew h []) e H Q):uC e H Q:=by obtain⟨l,Z,d,m,w,r,A,ev,k⟩:=j;obtain⟨s,g,i⟩:=bW ev;cases g;cases i;intro p hp;have f:At K ⟨sf,l⟩ e Z H d m no:=A;have o:=bc (F:=tot d) f ((Step.refl Z H<|tot d).mono (λ_ z=>z) λ_ z=>z.elim id λq=>q.elim) k;exact wY bO A.gd.zal o hp
theorem uh:SE X sf C (.Dict [] [] pos) (.op .dnew h []):=aA vt yK
end
end MR


namespace MR
open L2 L3 M
open PySem (Addr Str sizeLine)
section
variable {K:Jw}{Wx:L2.St->VK}{sl:Cf}{sf sg:O->L O}{C:Call}{σ σ2:L2.St}{Z Z' Z1:Fp}{H H' H1:Hp}{Fs Fs' Fs1:Fps}{η η' η1 ηb:Env}{G G' G1 R F F':Fp}{tg is vs ls io:U O}{pv val:O->L V}{D:b9}
theorem yZ {Z:Fp}{H:Hp}{G:Fp}{a:OD}{o:HO}{m:Md}(b:m≠.s)(h:G a/\H a=Y o):DctR Z H G a o m:=by
 cases m with
 |s=>exact OH rfl b
 |d=>exact h
 |o m=>exact h
theorem jI {i:O}{a:OD}{d:U<|I ⊕ Str}{vs':U T}{f:U V}{m':Md}(hm:m'≠.s)(A:At K ⟨sf,pv⟩ σ Z H Fs η G){w0:W}(hi:rd η i=Y w0)(ha:Fs i a)(hx:∀j,sf i=Y j->σ[j]?=Y (Y<|.ref a))(hl:d.length<=LIM)(hnd:d.Nodup/\∀k∈d,kOk k=Ju)(hvl:vs'.length=d.length)(hpv:∀u,pv i=Y u->V.ref a=u)
  (hg:∀b,G' b->(Fs i b\/G b)/\b≠a) (hR:∀b,R b->(Fs i b\/G b)/\b≠a) (hRG:∀b,R b->¬G' b) (p:RepL K (λb=>Z b\/((Fs i b\/G b)/\b≠a/\¬G' b/\¬R b)) H (dmd m') vs' f λ_=>OS) {Q:Hp->Prop}
  (k:∀Z' Fs',At K ⟨sf,pv⟩ σ Z' (upd H a<|.dK<|mkD d f) Fs' (M.put η i (m',.dct d vs')) R->Step Z H (λb=>tot Fs b\/G b) Z' (upd H a<|.dK<|mkD d f) (λb=>tot Fs' b\/R b)->(∀{m t v},Rep K (λb=>Z b\/((Fs i b\/G b)/\b≠a/\¬G' b/\¬R b)) H m t v R->Rep K Z' (upd H a<|.dK<|mkD d f) m t v R)->Q (upd H a<|.dK<|mkD d f)):Q (upd H a<|.dK<|mkD d f):=by
 have N:tot Fs a:=⟨i,ha⟩;obtain⟨nza,ys,hya⟩:=A.gd.own a N;have nGa:¬G a:=λq=>A.dis a q N
 have x:∀b,(Z b\/((Fs i b\/G b)/\b≠a/\¬G' b/\¬R b))->b≠a:=λb h z=>by
  subst z;rcases h with h|h
  .exact nza h
  .exact h.2.1 rfl
 have keep:∀b o,H b=Y o->b≠a->upd H a (.dK (mkD d f)) b=Y o:=λb o e g=>by rw[ag g];exact e
 have neT:∀b xs,H b=Y (.tup xs)->b≠a:=λb xs e z=>by rw[z,hya] at e;exact mS e.symm
 have neF:∀b o u,H b=Y (.frz o u)->b≠a:=λb o u e z=>by rw[z,hya] at e;exact i7 e.symm
 have stay:∀{c:Fp},(∀b,c b->b≠a)->Stay c H (upd H a (.dK (mkD d f))):=λ{c} hY=>⟨λb o g e=>keep b o e<|hY b g,λb xs e=>by
  rcases e with e|⟨u,e⟩
  .exact .inl (keep b _ e<|neT b xs e)
  .exact .inr ⟨u,keep b _ e<|neF b u _ e⟩,λb o u e=>keep b _ e<|neF b o u e⟩
 have al:∀b,H b≠J->upd H a (.dK (mkD d f)) b≠none:=λb h=>by
  by_cases e:b=a
  .rw[e,aq];simp
  .rw[ag e];exact h
 have P:∀b,(Z b\/((Fs i b\/G b)/\b≠a/\¬G' b/\¬R b))->H b≠none:=λb h=>by
  rcases h with h|⟨h|h,_⟩
  .exact A.gd.zal b h
  .obtain⟨_,zs,e⟩:=A.gd.own b ⟨i,h⟩;rw[e];simp
  .obtain⟨_,zs,e⟩:=A.own b h;rw[e];simp
 have listAt:∀b,(tot Fs b\/G b)->∃zs:OO,upd H a (.dK (mkD d f)) b=Y zs.ho:=λb h=>by
  by_cases e:b=a
  .exact⟨(.inr<|mkD d f),by rw[e,aq];rfl⟩
  .rcases h with h | h
   .obtain⟨_,zs,q⟩:=A.gd.own b h;exact⟨zs,by rw[ag e];exact q⟩
   .obtain⟨_,zs,q⟩:=A.own b h;exact⟨zs,by rw[ag e];exact q⟩
 have nZ:∀b,(Fs i b\/G b)->¬Z b:=λb h z=>h.elim (λy=>(A.gd.own b ⟨i,y⟩).1 z) λy=>(A.own b y).1 z
 have fE:∀b,tot (j3 Fs i λb=>G' b\/b=a) b->(∃j,j≠i/\Fs j b)\/G' b\/b=a:=λb h=>by
  obtain⟨j,h|h⟩:=h
  .exact .inr h.2
  .exact .inl ⟨j,h⟩
 refine k (λb=>Z b\/((Fs i b\/G b)/\b≠a/\¬G' b/\¬R b)) (j3 Fs i λb=>G' b\/b=a) ⟨⟨λb h=>⟨λz=>?_,?_⟩,λj l b w hk=>?_,λb h=>al b<|P b h⟩,λl m t e=>?_,λb h=>⟨λz=>?_,listAt b<|(hR b h).1.imp (λz=>⟨i,z⟩) id⟩,λb h q=>?_,A.lk,A.ln⟩ ⟨λb o e n=>keep b o e λz=>n<|.inl<|z ▸ N,λb h=>.inl h,λb h=>h.imp id λq=>.inl<|q.1.imp (λz=>⟨i,z⟩) id,λb h=>?_,al,λ_ b h=>al b<|P b h⟩ λ{m t v} r=>r.keep (stay x) (λ_ z=>z) λb o g e=>keep b o e (hR b g).2
 .rcases fE b h with ⟨j,w,q⟩ | q | q
  .rcases z with z | ⟨z | z,_⟩
   .exact(A.gd.own b ⟨j,q⟩).1 z
   .exact w (A.gd.dis j i b q z)
   .exact A.dis b z ⟨j,q⟩
  .rcases z with z | z
   .exact nZ b (hg b q).1 z
   .exact z.2.2.1 q
  .exact x b z q
 .rcases fE b h with ⟨j,w,q⟩ | q | q
  .exact listAt b (.inl ⟨j,q⟩)
  .exact listAt b ((hg b q).1.imp (λz=>⟨i,z⟩) id)
  .exact⟨(.inr<|mkD d f),by rw[q,aq];rfl⟩
 .have key:∀ {j:O},(G' b\/b=a)->Fs j b->j=i:=fun {j} h q=>by
   rcases h with h|h
   .rcases (hg b h).1 with y | y
    .exact A.gd.dis j i b q y
    .exact OH ⟨j,q⟩ (A.dis b y)
   .rw[h] at q;exact A.gd.dis j i a q ha
  rcases w with⟨rfl,w⟩|⟨nj,w⟩
  .rcases hk with ⟨rfl,_⟩ | ⟨nk,hk⟩
   .rfl
   .exact OH (key w hk) nk
  .rcases hk with ⟨rfl,hk⟩ | ⟨nk,hk⟩
   .exact OH (key hk w) nj
   .exact A.gd.dis j l b w hk
 .rw [bG] at e;split at e
  .rename_i hc;obtain⟨rfl,_⟩:=hc;cases e;refine⟨.ref a,⟨a,f,rfl,hl,yZ hm ⟨.inl ⟨rfl,.inr rfl⟩,aq⟩,hnd,hvl,?_⟩,hx,hpv⟩;exact p.keep (stay x) (λ_ z=>z) λb o g e=>g.elim
  .rename_i hc;have hl':l≠i:=λz=>hc ⟨z,dW hi⟩;obtain⟨v,r,h⟩:=A.env l m t e;have nea:∀b,Fs l b->b≠a:=λb q z=>hl'<|A.gd.dis l i a (z ▸ q) ha;exact⟨v,((r.keep (stay λb g z=>nza<|z ▸ g) (λ_ z=>z) λb o g e=>keep b o e<|nea b g).zmono λb h=>.inl h).mono λb h=>.inr ⟨hl',h⟩,h⟩
 .rcases z with z | z
  .exact nZ b (hR b h).1 z
  .exact z.2.2.2 h
 .rcases fE b q with ⟨j,w,y⟩ | y | y
  .rcases (hR b h).1 with z | z
   .exact w (A.gd.dis j i b y z)
   .exact A.dis b z ⟨j,y⟩
  .exact hRG b h y
  .exact(hR b h).2 y
 .rcases h with h | h
  .rcases fE b h with ⟨j,_,q⟩ | q | q
   .exact .inl (.inl ⟨j,q⟩)
   .exact .inl ((hg b q).1.imp (λz=>⟨i,z⟩) id)
   .exact .inl (.inl<|q ▸ N)
  .exact .inl ((hR b h).1.imp (λz=>⟨i,z⟩) id)
theorem jJ {m:Md}{b:U<|I ⊕ Str}{vs:U T}{v:V}(g:m≠.s)(r:Rep K Z H m (.dct b vs) v G):∃a c,v=.ref a/\b.length<=LIM/\G a/\H a=Y (.dK<|mkD b c)/\(b.Nodup/\∀k∈b,kOk k=Ju)/\vs.length=b.length/\RepL K Z H (dmd m) vs c (λ_=>OS):=by
 obtain⟨a,c,e,l,q,n,f,p⟩:=r;cases m with
 |s=>exact OH rfl g
 |d=>exact⟨a,c,e,l,q.1,q.2,n,f,p⟩
 |o m=>exact⟨a,c,e,l,q.1,q.2,n,f,p⟩
def kT:I ⊕ Str->T
|.inl n=>.int n
|.inr x=>.str x
theorem cS {k:T}{q:I ⊕ Str}(h:keyT k=Y q):k=kT q:=by
 cases k with
 |int n=>cases h;rfl
 |str x=>cases h;rfl
 |_=>cases h
theorem fB {m:Md}{q:I ⊕ Str}{v:V}(r:Rep K Z H m (kT q) v G):v=kV q/\kOk q=true:=by
 cases q with
 |inl n=>exact⟨r,rfl⟩
 |inr x=>exact⟨r.1,r.2⟩
theorem qq {u kw w r:W}(h:dR u kw w=Y r):∃m f vs n k,u=(m,.dct f vs)/\kw=(n,kT k)/\m≠.s/\f.length<LIM/\flatT w.2=Ju/\r=(m,.dct (putT k w.2 f vs).1 (putT k w.2 f vs).2):=by
 obtain⟨m,t⟩:=u;obtain⟨n,k⟩:=kw;obtain⟨v,x⟩:=w
 have i:∀f vs,m≠.s->((keyT k).bind λq=>if(decide (f.length<LIM)&&flatT x)=Ju then Y ((m,.dct (putT q x f vs).1 (putT q x f vs).2):W) else J)=Y r->∃g,(n,k)=(n,kT g)/\f.length<LIM/\flatT x=Ju/\r=(m,.dct (putT g x f vs).1 (putT g x f vs).2):=λf vs p h=>by
  cases e:keyT k with
  |none=>rw[e] at h;cases h
  | some q =>
   rw[e] at h;have j:(if(decide (f.length<LIM)&&flatT x)=Ju then Y ((m,.dct (putT q x f vs).1 (putT q x f vs).2):W) else J)=Y r:=h;split at j
   .rename_i l;rw[JM] at l;cases j;exact⟨q,by rw[cS e],OM l.1,l.2,rfl⟩
   .cases j
 cases m<;>first|(cases h;done)|(cases t<;>try (cases h;done))
 .obtain ⟨g,a,b,c,d⟩:=i _ _ (by simp) h;exact⟨.d,_,_,n,g,rfl,a,by simp,b,c,d⟩
 .obtain ⟨g,a,b,c,d⟩:=i _ _ (by simp) h;exact⟨.o _,_,_,n,g,rfl,a,by simp,b,c,d⟩
noncomputable def ia (k:I ⊕ Str)(y:V):U (I ⊕ Str)->U V->U V
|[],_=>[y]
|z::b,x::a=>if z=k then y::a else x::ia k y b a
|_::_,[]=>[]
theorem eN (k:I ⊕ Str)(t:T):∀(c:U<|I ⊕ Str) (vs:U T),vs.length=c.length->(putT k t c vs).2.length=(putT k t c vs).1.length/\(putT k t c vs).1.length<=c.length+1
|[],[],_=>⟨rfl,JE _⟩
|[],_::_,e=>by cases e
|_::_,[],e=>by cases e
| z::d,v::vs,e=>by
 unfold putT;split
 .exact⟨e,MN _⟩
 .obtain ⟨a,b⟩:=eN k t d vs<|KI e;exact⟨by rw[JY,JY,a],by rw[JY,JY];lia⟩
theorem dt (k:I ⊕ Str)(t:T):∀(a:U<|I ⊕ Str) (vs:U T),vs.length=a.length->∀z,z∈(putT k t a vs).1 ↔ z=k\/z∈a
|[],[],_,z=>by simp[putT]
|[],_::_,e,_=>by cases e
|_::_,[],e,_=>by cases e
| y::c,v::vs,e,z=>by
 unfold putT;split
 .rename_i b;subst b;simp
 .have:=dt k t c vs (KI e) z;rw[JX,this,JX];constructor
  .rintro (h | h | h)
   .exact .inr (.inl h)
   .exact .inl h
   .exact .inr (.inr h)
  .rintro (h | h | h)
   .exact .inr (.inl h)
   .exact .inl h
   .exact .inr (.inr h)
theorem de (k:I ⊕ Str)(t:T):∀(a:U<|I ⊕ Str) (vs:U T),vs.length=a.length->a.Nodup->(putT k t a vs).1.Nodup
|[],[],_,_=>by simp[putT]
|[],_::_,e,_=>by cases e
|_::_,[],e,_=>by cases e
| y::b,v::vs,e,h=>by
 unfold putT;split
 .exact h
 .rename_i f;obtain⟨c,d⟩:=KP.mp h;refine KP.mpr ⟨λq=>?_,de k t b vs (KI e) d⟩;rcases(dt k t b vs (KI e) y).mp q with q|q
  .exact f q
  .exact c q
theorem f7 (k:I ⊕ Str)(t:T)(y:V):∀(g:U<|I ⊕ Str) (vs:U T) (c:U V),vs.length=g.length->c.length=g.length->g.Nodup->bQ (mkD g c) k y=mkD (putT k t g vs).1 (ia k y g c)
|[],[],[],_,_,_=>rfl
|[],[],_::_,_,e,_=>by cases e
|[],_::_,_,e,_,_=>by cases e
|_::_,[],_,e,_,_=>by cases e
|_::_,_::_,[],_,e,_=>by cases e
| z::d,v::vs,x::c,e1,e2,n=>by
 obtain⟨l,m⟩:=KP.mp n;have j:=f7 k t y d vs c (KI e1) (KI e2) m;unfold putT ia;by_cases f:z=k
 .rw [OG f,OG f];subst f;have i:∀p∈mkD d c,p.1≠z:=λp hp q=>by obtain⟨a,b⟩:=p;have:=(Mx hp).1;have o:a=z:=q;rw[o] at this;exact l this
  show bQ ((z,x)::mkD d c) z y=(z,y)::mkD d c;unfold bQ;rw[OG<|by simp];rw[JQ,OG rfl];congr 1
  conv=>rhs;rw[<- NM (mkD d c)]
  refine Mp λp hp=>?_;rw[OK<|i p hp];rfl
 .rw [OK f,OK f];show bQ ((z,x)::mkD d c) k y=(z,x)::mkD (putT k t d vs).1 (ia k y d c);rw[<- j];have h:¬(z=k):=f;unfold bQ;rw[KL,OR h,Ln];split
  .rw[JQ,OK h]
  .rfl
theorem iF {m m':Md}{t:T}{v:V}{G G' Z':Fp}{H':Hp}(a:flatT t=Ju)(r:Rep K Z H m t v G):Rep K Z' H' m' t v G':=by
 cases t with
 |non=>exact r
 |bl _=>exact r
 |int _=>exact r
 |str _=>exact r
 |_=>cases a
theorem kc {m:Md}{k:I ⊕ Str}{t:T}{y:V}{l:Fp}{u:Md}(d:flatT t=Ju)(h:Rep K Z H u t y l):∀(f:U<|I ⊕ Str) (vs:U T) (c:U V),vs.length=f.length->RepL K Z H m vs c (λ_=>OS)->RepL K Z H m (putT k t f vs).2 (ia k y f c) (λ_=>OS)
|[],[],c,_,r=>by cases r;exact⟨y,[],λ_=>OS,λ_=>OS,rfl,λ_ z=>z,λ_ z=>z,λ_ z=>z.elim,iF d h,rfl⟩
|[],_::_,_,e,_=>by cases e
|_::_,[],_,e,_=>by cases e
| z::j,v::vs,c,e,⟨x,g,G1,n,o,s,i,hd,p,q⟩=>by
 subst o;unfold putT ia;by_cases b:z=k
 .rw [OG b,OG b];exact⟨y,g,λ_=>OS,n,rfl,λ_ z=>z,i,λ_ z=>z.elim,iF d h,q⟩
 .rw [OK b,OK b];exact⟨x,ia k y j g,G1,λ_=>OS,rfl,s,λ_ z=>z,λa _ z=>z,p,kc d h j vs g (KI e)<|q.mono i⟩
theorem ym {x:M.X}{i j:O}{k e:E}(hs:sf i=Y j)(D:b9)(σ:L2.St)(H:Hp)(h:wS K Wx sf io C (.setK x i k e) D σ H):
  wE K sf C e σ H λy H1=>i4 j σ H1 λo H1=>wE K sf C k σ H1 λz H2=>∃a Q q,o=.ref a/\z=kV q/\H2 a=Y (.dK Q)/\Q.length<sizeLine/\D.nx σ (upd H2 a<|.dK<|bQ Q q y):=by
 obtain⟨pv,Z,Fs,η,N,A,f⟩:=h;obtain⟨⟨w,η1⟩,h2,h3⟩:=bz<|show Fin K Wx ⟨sf,pv⟩ Z H (tot Fs) D (Fl.of η (evX C x e η)<|nL i (evX C x k) η) from f;obtain⟨⟨kw,g⟩,h6,h7⟩:=bz<|show Fin K Wx ⟨sf,pv⟩ Z H (tot Fs) D (Fl.of η (evX C x k η1)<|mh i w) from h3;obtain⟨η3,t,h5⟩:=eg<|show Fin K Wx ⟨sf,pv⟩ Z H (tot Fs) D (nxO g<|((rd g i).bind λu=>dR u kw w).map λu=>M.put g i u) from h7;refine gX (sl:=⟨sf,pv⟩) A h2 λy Z' H' Fs' G c r s=>?_;cases e1:rd g i with
 |none=>rw[e1] at t;cases t
 | some u1 =>
  rw[e1] at t;cases e2:dR u1 kw w with
  |none=>rw[show(Y u1).bind (λu=>dR u kw w)=dR u1 kw w from rfl,e2] at t;cases t
  | some r1 =>
   rw[show(Y u1).bind (λu=>dR u kw w)=dR u1 kw w from rfl,e2] at t;cases t;obtain⟨m,l,vs,n,P,rfl,rfl,hm,hlen,hfl,rfl⟩:=qq e2;have n1:rd η1 i≠none:=λz=>by rw[rQ h6 i z] at e1;cases e1
   cases e3:rd η1 i with
   |none=>exact OH e3 n1
   | some u3 =>
    obtain⟨v3,r3,l3,p3⟩:=c.env i u3.1 u3.2 e3;refine⟨v3,l3 j hs,gX (sl:=⟨sf,pv⟩) c.bare h6 λz Z2 H2 Fs2 G2 B2 rz s2=>?_⟩;obtain⟨B3,s3,d3⟩:=c.frame B2 s2;have r':=r.frame c.gd.own s2 c.dis;have B4:=B3.mono (G':=G) λ_ z=>.inl z;obtain⟨v4,r4,l4,p4⟩:=B4.env i m _ e1;have hv:v3=v4:=by have e5:=l3 j hs;have e6:=l4 j hs;rw[e5] at e6;cases e6;rfl
    subst hv;obtain⟨a,xs,rfl,hl,hf,hx,v,d,p⟩:=jJ hm r4;have hxl:xs.length=l.length:=by rw[p.length,d]
    obtain⟨q1,q2⟩:=eN P w.2 l vs d;have rz':z=kV P/\kOk P=true:=fB rz;refine⟨a,mkD l xs,P,rfl,rz'.1,hx,?_,?_⟩
    .show (l.zip xs).length<_;rw[Mw,hxl,Mm];exact J8 hlen<|LIM_le<|JE _
    .rw [f7 P w.2 y l vs xs d hxl v.1];exact jI (K:=K) (G':=no) (R:=no) hm B4 e1 hf (λk hk=>by rw[show sf i=Y k from hk] at hs;cases hs;exact l3 _ hk) (by lia) ⟨de P w.2 l vs d v.1,λz hz=>((dt P w.2 l vs d z).mp hz).elim (λe=>e ▸ rz'.2)<|v.2 z⟩ q1 p4 (λ_ z=>z.elim) (λ_ z=>z.elim) (λ_ z=>z.elim) ((kc hfl r' l vs xs d p).zmono λb h=>.inl h) λZ5 Fs5 B5 s5 _=>h5 σ Z5 _ Fs5 B5<|(s.trans<|s3.mono (λ_ z=>z) λb h=>h.imp id .inl).trans<|s5.mono (λ_ z=>z) λ_ z=>.inl z
end
end MR
namespace MR
open PySem PySem.Spec PyProof.Rows L2 L3
section
variable {X:Cx}{sf sg:O->L O}{C:M.Call}{pos p p2 p3:Pos}{ea eb ec:ON}{a b c:M.E}{h:OF}{n:O}{io:U O}{K:Jw}
theorem zv (j:O)(hr:Room n X.A){i:O}{x:Str}{xx:M.X}{px ps:Pos}(ha:SE X sf C ea a)(hb:SE X sf C eb b)(hs:sf i=Y j:=by rfl)(hN:X.N[j]?=Y x:=by rfl)(hv:Vis X.env.scope x:=by first|exact JS rfl|exact JK (JS rfl)|exact JK<|JK rfl)(hd:(x==("__debug__":Str))=false:=by decide)(m:(x==("__classdict__":Str))=false:=by decide)
  (t:Kj ea (Y<|.Subscript (.Name x px) eb ps) pos.line X.env=pure false:=by rfl):
  SS X sf io C (.Assign [.Subscript (.Name x px) eb ps] ea pos) (.setK xx i b a):=
 b0 (oa (iO hr) (bX hN hv hd m) hb ha t) λD σ H hw=>by obtain⟨pv,Z,Fs,η,w,F,A,ev,k⟩:=ym hs D σ H hw;refine⟨pv,Z,Fs,η,w,F,A,ev,λv Z' H' e G d r s=>?_⟩;obtain⟨o,ho,y,Z2,f,P,w2,Q,A2,l,k2⟩:=k v Z' H' e G d r s;refine⟨o,ho,y,Z2,f,P,w2,Q,A2,l,λz Z3 H3 g G3 B3 r3 s3=>?_⟩;obtain⟨q,u,kk,rfl,rfl,g1,g2,g3⟩:=k2 z Z3 H3 g G3 B3 r3 s3;exact⟨q,_,rfl,.inl ⟨u,kk,g1,rfl,g2,rfl⟩,g3⟩
end
end MR




namespace MR
open PySem PySem.Spec PyProof.Rows L2 L3
section
variable {X:Cx}{sf sg:O->L O}{C:M.Call}{pos p p2 p3:Pos}{ea eb ec:ON}{a b c:M.E}{h:OF}{n:O}{io:U O}{K:Jw}
theorem yH {o f:L M.W}{w:M.W}(e:M.ixVT o f=Y w):∃m d n j t,o=Y (m,.lst d)/\m.kid=.s/\f=Y (n,.int j)/\M.atI d j=Y t/\w=(.s,t):=by
 unfold M.ixVT at e;split at e
 .rename_i d n j;cases e1:M.atI d j with
  |none=>rw[e1] at e;cases e
  |some t=>rw[e1] at e;cases e;exact⟨_,d,n,j,t,rfl,rfl,rfl,e1,rfl⟩
 .rename_i d n j;cases e1:M.atI d j with
  |none=>rw[e1] at e;cases e
  |some t=>rw[e1] at e;cases e;exact⟨_,d,n,j,t,rfl,rfl,rfl,e1,rfl⟩
 .cases e
end
end MR

namespace MR
open L2 L3 M
open PySem (Addr Str sizeLine)
section
variable {K:Jw}{Wx:L2.St->VK}{sl:Cf}{sf sg:O->L O}{C:Call}{σ σ2:L2.St}{Z Z' Z1:Fp}{H H' H1:Hp}{Fs Fs' Fs1:Fps}{η η' η1 ηb:Env}{G G' G1 R F F':Fp}{tg is vs ls io:U O}{pv val:O->L V}{D:b9}
theorem pH {u kw w r:W}(h:dC u kw w=Y r):∃m c vs n k,u=(m,.dct c vs)/\kw=(n,kT k)/\m≠.s/\c.length<LIM/\r=(.o .s,.dct (putT k w.2 c vs).1 (putT k w.2 c vs).2):=by
 obtain⟨m,t⟩:=u;obtain⟨n,k⟩:=kw;obtain⟨l,x⟩:=w
 have g:∀c vs,((keyT k).bind λq=>if(decide (c.length<LIM))=Ju then Y ((.o .s,.dct (putT q x c vs).1 (putT q x c vs).2):W) else J)=Y r->∃f,(n,k)=(n,kT f)/\c.length<LIM/\r=(.o .s,.dct (putT f x c vs).1 (putT f x c vs).2):=λc vs h=>by
  cases e:keyT k with
  |none=>rw[e] at h;cases h
  | some q =>
   rw[e] at h;have i:(if(decide (c.length<LIM))=Ju then Y ((.o .s,.dct (putT q x c vs).1 (putT q x c vs).2):W) else J)=Y r:=h;split at i
   .rename_i j;cases i;exact⟨q,by rw[cS e],OM j,rfl⟩
   .cases i
 cases m<;>first|(cases h;done)|(cases t<;>try (cases h;done))
 .obtain ⟨f,a,b,d⟩:=g _ _ h;exact⟨.d,_,_,n,f,rfl,a,by simp,b,d⟩
 .obtain ⟨f,a,b,d⟩:=g _ _ h;exact⟨.o _,_,_,n,f,rfl,a,by simp,b,d⟩
theorem fo {k:I ⊕ Str}{t:T}{y:V}(g:Rep K Z H .s t y no):∀(d:U<|I ⊕ Str) (vs:U T) (c:U V),vs.length=d.length->RepL K Z H .s vs c (λ_=>OS)->RepL K Z H .s (putT k t d vs).2 (ia k y d c) (λ_=>OS)
|[],[],c,_,r=>by cases r;exact⟨y,[],λ_=>OS,λ_=>OS,rfl,λ_ z=>z,λ_ z=>z,λ_ z=>z.elim,g,rfl⟩
|[],_::_,_,e,_=>by cases e
|_::_,[],_,e,_=>by cases e
| z::i,v::vs,c,e,⟨x,f,G1,j,l,m,h,hd,p,q⟩=>by
 subst l;unfold putT ia;by_cases b:z=k
 .rw [OG b,OG b];exact⟨y,f,λ_=>OS,j,rfl,λ_ z=>z,h,λ_ z=>z.elim,g,q⟩
 .rw [OK b,OK b];exact⟨x,ia k y i f,G1,λ_=>OS,rfl,m,λ_ z=>z,λa _ z=>z,p,fo g i vs f (KI e)<|q.mono h⟩
theorem wQ {x:M.X}{i j:O}{k e:E}(hs:sf i=Y j)(D:b9)(σ:L2.St)(H:Hp)(h:wS K Wx sf io C (.setS x i k e) D σ H):
  wE K sf C e σ H λy H1=>i4 j σ H1 λo H1=>wE K sf C k σ H1 λz H2=>∃a Q q,o=.ref a/\z=kV q/\H2 a=Y (.dK Q)/\Q.length<sizeLine/\D.nx σ (upd H2 a<|.dK<|bQ Q q y):=by
 obtain⟨pv,Z,Fs,η,N,A,f⟩:=h;obtain⟨⟨w,η1⟩,h2,h3⟩:=bz<|show Fin K Wx ⟨sf,pv⟩ Z H (tot Fs) D (Fl.of η (evX C x e η)<|ox i (evX C x k) η) from f;obtain⟨⟨kw,g⟩,h6,h7⟩:=bz<|show Fin K Wx ⟨sf,pv⟩ Z H (tot Fs) D (Fl.of η (evX C x k η1)<|lD i w) from h3;obtain⟨η3,t,h5⟩:=eg<|show Fin K Wx ⟨sf,pv⟩ Z H (tot Fs) D (nxO g<|((rd g i).bind λu=>dC u kw w).map λu=>M.put g i u) from h7;refine gX (sl:=⟨sf,pv⟩) A h2 λy Z' H' Fs' G c r s=>?_;cases e1:rd g i with
 |none=>rw[e1] at t;cases t
 | some u1 =>
  rw[e1] at t;cases e2:dC u1 kw w with
  |none=>rw[show(Y u1).bind (λu=>dC u kw w)=dC u1 kw w from rfl,e2] at t;cases t
  | some r1 =>
   rw[show(Y u1).bind (λu=>dC u kw w)=dC u1 kw w from rfl,e2] at t;cases t;obtain⟨m,l,vs,n,P,rfl,rfl,hm,hlen,rfl⟩:=pH e2;have n1:rd η1 i≠none:=λz=>by rw[rQ h6 i z] at e1;cases e1
   cases e3:rd η1 i with
   |none=>exact OH e3 n1
   | some u3 =>
    obtain⟨v3,r3,l3,p3⟩:=c.env i u3.1 u3.2 e3;refine⟨v3,l3 j hs,gX (sl:=⟨sf,pv⟩) c.bare h6 λz Z2 H2 Fs2 G2 B2 rz s2=>?_⟩;obtain⟨B3,s3,d3⟩:=c.frame B2 s2;have r':=r.frame c.gd.own s2 c.dis;have B4:=B3.mono (G':=G) λ_ z=>.inl z;obtain⟨v4,r4,l4,p4⟩:=B4.env i m _ e1;have hv:v3=v4:=by have e5:=l3 j hs;have e6:=l4 j hs;rw[e5] at e6;cases e6;rfl
    subst hv;obtain⟨a,xs,rfl,hl,hf,hx,v,d,p⟩:=jJ hm r4;have hxl:xs.length=l.length:=by rw[p.length,d]
    obtain⟨q1,q2⟩:=eN P w.2 l vs d;have rz':z=kV P/\kOk P=true:=fB rz;have nGa:¬G a:=λq=>B4.dis a q ⟨i,hf⟩;have pS:RepL K (λb=>Z2 b\/((Fs2 i b\/G b)/\b≠a/\¬no b/\¬no b)) H2 .s vs xs (λ_=>OS):=by have:=RepL.sh p;exact(this.zmono λb h=>h.elim .inl λz=>z.elim).mono λ_ z=>z
    have rS:Rep K (λb=>Z2 b\/((Fs2 i b\/G b)/\b≠a/\¬no b/\¬no b)) H2 .s w.2 y no:=(Rep.sh r').zmono λb h=>h.imp id λq=>⟨.inr q,λe=>nGa<|e ▸ q,λz=>z,λz=>z⟩;refine⟨a,mkD l xs,P,rfl,rz'.1,hx,?_,?_⟩
    .show (l.zip xs).length<_;rw[Mw,hxl,Mm];exact J8 hlen<|LIM_le<|JE _
    .rw [f7 P w.2 y l vs xs d hxl v.1];exact jI (K:=K) (m':=.o .s) (G':=no) (R:=no) (by simp) B4 e1 hf (λk hk=>by rw[show sf i=Y k from hk] at hs;cases hs;exact l3 _ hk) (by lia) ⟨de P w.2 l vs d v.1,λz hz=>((dt P w.2 l vs d z).mp hz).elim (λe=>e ▸ rz'.2)<|v.2 z⟩ q1 p4 (λ_ z=>z.elim) (λ_ z=>z.elim) (λ_ z=>z.elim) (fo rS l vs xs d pS) λZ5 Fs5 B5 s5 _=>h5 σ Z5 _ Fs5 B5<|(s.trans<|s3.mono (λ_ z=>z) λb h=>h.imp id .inl).trans<|s5.mono (λ_ z=>z) λ_ z=>.inl z
end
end MR
namespace MR
open PySem PySem.Spec PyProof.Rows L2 L3
section
variable {X:Cx}{sf sg:O->L O}{C:M.Call}{pos p p2 p3:Pos}{ea eb ec:ON}{a b c:M.E}{h:OF}{n:O}{io:U O}{K:Jw}
theorem ot (j:O)(hr:Room n X.A){i:O}{x:Str}{xx:M.X}{px ps:Pos}(ha:SE X sf C ea a)(hb:SE X sf C eb b)(hs:sf i=Y j:=by rfl)(hN:X.N[j]?=Y x:=by rfl)(hv:Vis X.env.scope x:=by first|exact JS rfl|exact JK (JS rfl)|exact JK<|JK rfl)(hd:(x==("__debug__":Str))=false:=by decide)(m:(x==("__classdict__":Str))=false:=by decide)
  (t:Kj ea (Y<|.Subscript (.Name x px) eb ps) pos.line X.env=pure false:=by rfl):
  SS X sf io C (.Assign [.Subscript (.Name x px) eb ps] ea pos) (.setS xx i b a):=
 b0 (oa (iO hr) (bX hN hv hd m) hb ha t) λD σ H hw=>by obtain⟨pv,Z,Fs,η,w,F,A,ev,k⟩:=wQ hs D σ H hw;refine⟨pv,Z,Fs,η,w,F,A,ev,λv Z' H' e G d r s=>?_⟩;obtain⟨o,ho,y,Z2,f,P,w2,Q,A2,l,k2⟩:=k v Z' H' e G d r s;refine⟨o,ho,y,Z2,f,P,w2,Q,A2,l,λz Z3 H3 g G3 B3 r3 s3=>?_⟩;obtain⟨q,u,kk,rfl,rfl,g1,g2,g3⟩:=k2 z Z3 H3 g G3 B3 r3 s3;exact⟨q,_,rfl,.inl ⟨u,kk,g1,rfl,g2,rfl⟩,g3⟩
theorem cf {Z:Fp}{H:Hp}{G:Fp}{q:I ⊕ Str}{t:M.T}:∀{d:U<|I ⊕ Str} {g:U M.T} {j:U V},RepL K Z H .s g j G->M.lookD q d g=Y t->∃x,b5 (mkD d j) q=Y x/\Rep K Z H .s t x no
|[],[],_,_,e=>by cases e
|[],_::_,_,_,e=>by cases e
|_::_,[],_,_,e=>by cases e
| k::d,v::g,j,⟨x,r,u,w,l,_,z,_,p,r2⟩,e=>by
 subst l;have f:(if k=q then Y v else M.lookD q d g)=Y t:=e;by_cases hk:k=q
 .rw [OG hk] at f;cases f;refine⟨x,?_,p.sany⟩;show(((k,x)::mkD d r).find? λi=>decide (i.1=q)).map (·.2)=Y x;rw[List.find?_cons_of_pos<|by simpa using hk];rfl
 .rw [OK hk] at f;obtain⟨y,m,o⟩:=cf r2 f;refine⟨y,?_,o⟩;show(((k,x)::mkD d r).find? λi=>decide (i.1=q)).map (·.2)=Y y;rw[NT<|by simpa using hk];exact m
theorem xX:Loc K 2 .ixD h λo H Q=>∀x y,o=[x,y]->∃a v,x=.ref a/\DGet H a y (Y v)/\Q v H:=by
 intro ws w o Z H G Q hn e r P za k x y hx;subst hx;obtain⟨⟨m,a⟩,⟨n,b⟩,rfl⟩:=cK r.length.symm;obtain⟨G1,G2,w1,w2,d,r1,r2⟩:=bI r;obtain⟨f,g,rfl,rfl⟩:∃f g,a=.dct f g/\m=.s:=by cases m<;>first|(cases e;done)|(cases a<;>first|exact⟨_,_,rfl,rfl⟩|(cases e;done))
 have i:((M.keyT b).bind λq=>(M.lookD q f g).map λt=>((.s,t):M.W))=Y w:=e;cases e1:M.keyT b with
 |none=>rw[e1] at i;cases i
 | some q =>
  rw[e1] at i;have e2:((M.lookD q f g).map λt=>((.s,t):M.W))=Y w:=i;cases e3:M.lookD q f g with
  |none=>rw[e3] at e2;cases e2
  |some t=>rw[e3] at e2;cases e2;obtain⟨ad,ys,A,hl,hd,z,F,pr⟩:=r1;have u:=cS e1;subst u;obtain⟨N,_⟩:=fB r2;obtain⟨v,D,rv⟩:=cf pr e3;have j:x=.ref ad:=A;have l:y=kV q:=N;subst j l;refine⟨ad,v,rfl,?_,bU P k<|rv.sany⟩;rw[<- D];exact DGet.k hd.2
theorem dq (f:Room n X.A)(d:SE X sf C ea a)(e:SE X sf C eb b)(g:AY eb:=by intro _ _;rfl):SE X sf C (.Subscript ea eb pos) (.op .ixD h [a,b]):=aA (zg (iO f) d e g)<|aO xX
end
end MR








namespace L3
open PySem PySem.Spec PyProof.Rows L2
theorem okTh.lay {t:Th}(o:okTh t):(toD t).canLay0=true:=SeqAt.canLay_of_shaped o
theorem kU {X:Cx}{f:U<|OD×Obj}{s:Jv}{P:L2.St}{H:Hp}{t:Th}{v:B}{as:U OD}(G:X.A.units+65<O0)(a:Inv X f P H s)(n:Reads s.heap v (toD t) as)(m:okTh t)(e:B->OF)(l:∀w,e w=Ju ↔ ∃d bs,Reads s.heap w d bs/\PyData.eqv d (toD t)=Ju):
 ∀{g:U Th} {p:U V} {b:U B},HasL X.K H g p->Vals p b->(∀u∈g,okTh u)->(∀w∈b,SeqAt.EqAt X.A.in1 s w v<|e w)/\b.any e=g.any λu=>PyData.eqv (toD u)<|toD t
|[],_,b,h,r,_=>by obtain rfl:_=[]:=h;cases r;exact⟨(λ_ h=>nomatch h),rfl⟩
| u::g,_,b,⟨x,Q,y,D,F⟩,r,o=>by
 subst y;cases r with
 | cons r1 r2 =>
  rename_i w Z;obtain⟨bs,j⟩:=Has.reads a D r1;have i:=o u JJ;have k:e w=PyData.eqv (toD u) (toD t):=by rw[Bool.eq_iff_iff,l w];refine⟨λ⟨d,ds,rd,q⟩=>?_,λq=>⟨_,_,j,q⟩⟩;rw[SeqAt.Reads.unique _ _ _ _ _ i.lay j rd];exact q
  obtain⟨M,N⟩:=kU G a n m e l F r2 λz c=>o z<|JW _ c;refine⟨λz c=>?_,by rw[KL,KL,k,N]⟩;rcases JX.mp c with rfl|c
  .rw [k];refine SeqAt.eqAt_reads _ _ X.A.in1 s _ _ _ _ j n i.lay m.lay ?_;have:=SeqAt.depth_of_shaped (d:=toD u) i;show X.A.units+1+_<O0;lia
  .exact M z c
end L3
namespace MR
open PySem PySem.Spec PyProof.Rows L2 L3
section
variable {X:Cx}{sf sg:O->L O}{C:M.Call}{pos p p2 p3:Pos}{ea eb ec:ON}{a b c:M.E}{h:OF}{n:O}{io:U O}{K:Jw}
theorem nS {a:M.T}(e:M.dp a<=64):∀d:U M.T,M.dps d<=64->((ths d).any λu=>PyData.eqv (toD u)<|toD<|th a)=d.any λt=>M.eqT t a
|[],_=>rfl
|t::d,h=>by have f:max (M.dp t) (M.dps d)<=64:=h;show(PyData.eqv (toD<|th t) (toD<|th a) || (ths d).any _)=_;rw[jg t a (by lia) e,nS e d<|by lia];rfl
theorem qS {Z:Fp}{H:Hp}:∀{d:U M.T} {m:M.Md} {g:U V} {G:Fp},M.dps d<=64->RepL K Z H m d g G->∀u∈ths d,okTh u
|[],_,_,_,_,_=>(λ_ h=>nomatch h)
|t::d,m,g,G,hd,⟨x,r,j,k,e,_,_,_,p,q⟩=>λu f=>by
 have i:max (M.dp t) (M.dps d)<=64:=hd;rcases JX.mp (show u∈th t::ths d from f) with rfl|f
 .exact(fg (by lia) p).2
 .exact qS (by lia) q u f
theorem oM (j:O){i:O}{x:Str}{px:Pos}(ha:SE X sf C ea a)(D:eQ ea:=by intro _ _;rfl)(hs:sf i=Y j:=by rfl)(hN:X.N[j]?=Y x:=by rfl)(hv:Vis X.env.scope x:=by first|exact JS rfl|exact JK (JS rfl)|exact JK<|JK rfl)(hd:(x==("__debug__":Str))=false:=by decide)(r:(x==("__classdict__":Str))=false:=by decide):
  SE X sf C (.Subscript (.Name x px) ea pos) (.ixQ i a):=
 aA (tH ix_any (bX hN hv hd r) ha D) λσ H Q hw=>by obtain⟨pv,Z,Fs,g,w,η',A,ev,k⟩:=hw;obtain⟨_,h0,h1⟩:=ae<|show(M.chkL<|M.rd g i).bind (M.kPopN0 (M.evE C a) g<|M.kIxQ i)=_ from ev;obtain⟨m0,t0,o⟩:=kE h0;obtain⟨a',xs0,hj,ha'⟩:=A.listAt hs o;obtain⟨⟨u,f⟩,h2,h3⟩:=ae<|show(M.evE C a g).bind (M.kIxQ i)=_ from h1;obtain⟨w',e1,e2⟩:=aG<|show M.ret f (M.ixVT (M.rd f i)<|Y u)=_ from h3;cases e2;obtain⟨m,ts,n,q,t,r1,hm,r2,r3,rfl⟩:=yH e1;cases r2;refine⟨.ref a',hj,pv,Z,Fs,g,_,_,A,h2,λz Z' H' l G d rz s=>?_⟩;obtain⟨v,rv,P⟩:=d.env i m (.lst ts) r1;have e:=P.1 j hs;rw[hj] at e;cases e;obtain⟨a2,xs,e3,F,hl,p⟩:=bx rv;cases e3;rw[hm] at p;obtain⟨y,hy,ry⟩:=mP p r3;obtain rfl:z=V.int q:=rz;exact⟨a',xs,q,y,rfl,rfl,.inl<|.inl<|.inl F,hy,k y Z' H' l no d.bare ry.sany<|s.mono (λ_ z=>z) λb hb=>hb.elim .inl λz=>z.elim⟩
end
end MR

namespace MR
open PySem PySem.Spec PyProof.Rows L2 L3
def nIo:M.E->OF
|.io _=>Jt
|_=>Ju
noncomputable def lcl (o:L M4):OF:=match o with
|some .local=>Ju
|some .cell=>Ju
|_=>Jt
def lcO (o:L M4):OF:=match o with
|some .local=>Ju
|_=>Jt
theorem Cm {a:M.E}(h:nIo a=Ju)(i:O):a≠.io i:=by rintro rfl;cases h
theorem y0 {a:OZ}{x:Str}(h:lcl (a.names.lookup x)=Ju):L2.Loc a x:=by
 unfold lcl at h;split at h
 .rename_i e;exact JS e
 .rename_i e;exact JK e
 .cases h
theorem v5 {o:L M4}{b:OF}(h:(b || lcO o)=Ju):b=Ju\/o=Y .local:=by
 cases b
 .refine JK ?_;unfold lcO at h;simp at h;split at h
  .rfl
  .cases h
 .exact JS rfl
section
variable {X:Cx}{sf:O->L O}{io:U O}{C:M.Call}{pos:Pos}{ea eb:ON}{a b:M.E}{h:OF}
theorem zA (j:O){i:O}{x:Str}{n:M.X}{c:Pos}(f:X.N.Nodup)(g:SE X sf C ea a)(e:io.contains i=Jt)(m:sf i=Y j)(l:X.N[j]?=Y x)(hx:lcl (X.env.scope.names.lookup x)=Ju)
  (d:Kj ea (Y<|.Name x c) pos.line X.env=pure Jt) (k:(X.fn x || lcO (X.env.scope.names.lookup x))=Ju):SS X sf io C (.Assign [.Name x c] ea pos) (.asg n i a):=HM j f g (λz=>by rw[show io.contains i=Ju from List.elem_eq_true_of_mem z] at e;cases e) m l (y0 hx) d<|v5 k
theorem say {c:U ON}{bs:U M.E}(d:SE X sf C ea a)(e:SA X sf C c bs)(f:nIo a=Ju)(g:Jz (ea::c) X.env=(Jt,OV ea X.env)::Jz c X.env):SA X sf C (ea::c) (a::bs):=sac d e (Cm f) g
end
end MR

namespace MR
open PySem
section
variable {p:U B->Prop}
theorem u0 (h:p [])(a:U B)(e:a.length=0):p a:=by cases a;exact h;cases e
theorem uS {n:O}(h:∀a b,LG b=n->p (a::b))(b:U B)(e:b.length=n+1):p b:=by
 cases b with
 |nil=>cases e
 |cons a r=>exact h a r<|KI e
theorem u1 (h:∀a,p [a])(b:U B)(e:b.length=1):p b:=uS (λa=>u0<|h a) b e
theorem u2 (h:∀a b,p [a,b])(c:U B)(e:c.length=2):p c:=uS (λa=>u1<|h a) c e
theorem u3 (h:∀a b c,p [a,b,c])(d:U B)(e:d.length=3):p d:=uS (λa=>u2<|h a) d e
theorem u4 (h:∀a b c d,p [a,b,c,d])(f:U B)(e:f.length=4):p f:=uS (λa=>u3<|h a) f e
theorem u5 (h:∀a b c d e,p [a,b,c,d,e])(f:U B)(e:f.length=5):p f:=uS (λa=>u4<|h a) f e
theorem u6 (h:∀a b c d e f,p [a,b,c,d,e,f])(g:U B)(e:g.length=6):p g:=uS (λa=>u5<|h a) g e
end
end MR


namespace L3
open PySem PySem.Spec PyProof.Rows L2
theorem pB {X:Cx}:df X (.type "dict") (λf H Q=>∃(a:OD) (c:U<|Key×V),f=[.ref a]/\H a=Y (.dK c)/\∀p,H p=J->Q (.ref p) (upd H p<|.dK c)):=by intro d s l H f k Q b r h;obtain⟨a,c,rfl,e,q⟩:=h;obtain⟨u,rfl,i⟩:=fK r;cases i;exact rK b (.inl e) λp j hp g=>⟨.ref p,_,g,rfl,q p hp⟩
end L3
namespace MR
open PySem PySem.Spec PyProof.Rows L2 L3
section
variable {X:Cx}{sf sg:O->L O}{C:M.Call}{pos p p2 p3:Pos}{ea eb ec:ON}{a b c:M.E}{h:OF}{n:O}{io:U O}{K:Jw}
theorem cO {Z:Fp}{H:Hp}{G:Fp}{q:I ⊕ Str}:∀{d:U<|I ⊕ Str} {f:U M.T} {i:U V},RepL K Z H .s f i G->f.length=d.length->M.lookD q d f=J->b5 (mkD d i) q=J
|[],[],_,r,_,_=>by cases(show _=[] from r);rfl
|[],_::_,_,_,e,_=>by cases e
|_::_,[],_,_,e,_=>by cases e
| k::d,v::f,i,⟨x,r,t,u,j,_,w,_,p,r2⟩,l,e=>by
 subst j;have g:(if k=q then Y v else M.lookD q d f)=none:=e;by_cases hk:k=q
 .rw[OG hk] at g;cases g
 .rw [OK hk] at g;have m:=cO r2 (KI l) g;show(((k,x)::mkD d r).find? λo=>decide (o.1=q)).map (·.2)=J;rw[NT<|by simpa using hk];exact m
theorem xr {Z:Fp}{H:Hp}{G:Fp}{q:I ⊕ Str}{d:U<|I ⊕ Str}{f:U M.T}{g:U V}(r:RepL K Z H .s f g G)(i:f.length=d.length):(b5 (mkD d g) q).isSome=(M.lookD q d f).isSome:=by
 cases e:M.lookD q d f with
 |none=>rw[cO r i e];rfl
 |some t=>obtain⟨x,hx,_⟩:=cf r e;rw[hx];rfl
theorem yW:Loc K 2 .inD h λu H Q=>∀y x,u=[y,x]->∃a o,x=.ref a/\DGet H a y o/\Q (.bl o.isSome) H:=by
 intro ws w u Z H G Q hn e r ow za k y x hx;subst hx;obtain⟨⟨n,b⟩,⟨m,a⟩,rfl⟩:=cK r.length.symm;obtain⟨F,N,w1,w2,d,r1,r2⟩:=bI r;obtain⟨l,t,rfl,rfl⟩:∃l t,a=.dct l t/\m=.s:=by cases m<;>first|(cases e;done)|(cases a<;>first|exact⟨_,_,rfl,rfl⟩|(cases e;done))
 have f:((M.keyT b).map λq=>((.d,.bl (M.lookD q l t).isSome):M.W))=Y w:=e;cases e1:M.keyT b with
 |none=>rw[e1] at f;cases f
 |some q=>rw[e1] at f;cases f;obtain⟨ad,ys,A,P,hd,z,g,pr⟩:=r2;have v:=cS e1;subst v;obtain⟨D,_⟩:=fB r1;have i:x=.ref ad:=A;have j:y=kV q:=D;subst i j;refine⟨ad,_,rfl,DGet.k hd.2,?_⟩;rw[xr pr g];exact bN k
theorem Cp {u v w:M.W}(e:M.oSem .inD h [u,v]=Y w):∃b,w.2=.bl b:=by
 obtain⟨n,b⟩:=u;obtain⟨m,a⟩:=v;obtain⟨g,i,rfl,rfl⟩:∃g i,a=.dct g i/\m=.s:=by cases m<;>first|(cases e;done)|(cases a<;>first|exact⟨_,_,rfl,rfl⟩|(cases e;done))
 have f:((M.keyT b).map λq=>((.d,.bl (M.lookD q g i).isSome):M.W))=Y w:=e;cases e1:M.keyT b with
 |none=>rw[e1] at f;cases f
 |some q=>rw[e1] at f;cases f;exact⟨_,rfl⟩
theorem EZ (i:Room n X.A)(d:SE X sf C ea a)(f:SE X sf C eb b)(g:Kt .In eb=false:=by rfl):SB X sf C (.Compare ea [.In] [eb] pos) (.op .inD h [a,b]):=
 gY (AZ (Av (iO i) d f) g) λk H Q j=>aO yW k H _<|zC (zK λu v w e=>Cp e) j
theorem xm {e1 e2:M.E}(σ:L2.St)(H:Hp)(Q:VK)(hw:wE K sf C (.op .getD h [e1,e2]) σ H Q):vC (wE K sf C e1) (wE K sf C e2) σ H Q:=by
 obtain⟨pv,Z,Fs,η,w,η',A,ev,k⟩:=hw;obtain⟨ws,h1,r⟩:=bW ev;obtain⟨⟨m,t⟩,η1,us,g1,g2,rfl⟩:=ay h1;obtain⟨⟨m',t'⟩,η2,us,g3,g4,rfl⟩:=ay g2;cases g4;obtain⟨l,o,rfl,rfl⟩:∃l o,t=.dct l o/\m=.s:=by cases m<;>first|(cases r;done)|(cases t<;>first|exact⟨_,_,rfl,rfl⟩|(cases r;done))
 have j:((M.keyT t').map λq=>((.s,(M.lookD q l o).getD .non):M.W))=Y w:=r;refine eX A g1 λx Z1 H1 Fs1 G1 P r1 _ s1 _=>?_;have d:=P.mono (G':=G1) λ_ z=>.inr z;obtain⟨ad,ys,hq,hl,hd,hnk,hvl,pr⟩:=id r1;refine⟨ad,hq,.inl ⟨_,.inl hd.2⟩,?_⟩;refine eX d g3 λy Z2 H2 Fs2 G2 i r2 d2 s2 t2=>?_;have N:=r1.frame P.gd.own s2 d.dis;obtain⟨ad',ys',e,hl',D,hnk',f,g⟩:=N;have F:x=.ref ad:=hq;rw[F] at e;cases e;cases e1:M.keyT t' with
 |none=>rw[e1] at j;cases j
 | some q =>
  rw[e1] at j;cases j;have hb:=cS e1;subst hb;obtain⟨hy,_⟩:=fB r2;have G:y=kV q:=hy;subst G;refine⟨_,DGet.k D.2,?_⟩;cases e3:M.lookD q l o with
  |none=>rw[cO g f e3];dsimp only at k;rw[e3] at k;exact bU (m:=.s) (t:=.non) i.own (bc i (s1.trans t2) k) rfl
  |some u=>obtain⟨v,hv,rv⟩:=cf g e3;rw[hv];dsimp only at k;rw[e3] at k;exact bU i.own (bc i (s1.trans t2) k) rv.sany
theorem zR {d e:Pos}(i:Room n X.A)(f:SE X sf C ea a)(g:SE X sf C eb b)(m:M1 X ea "get" d eb e:=by exact⟨rfl,rfl,rfl,rfl⟩):SE X sf C (.Call (.Attribute ea "get" d) [eb] [] e) (.op .getD h [a,b]):=aA (rj (iO i) f g m) xm
theorem uw {Z:Fp}{H:Hp}{G:Fp}{Q:VK}{p:OD}{d:U<|I ⊕ Str}{i:U M.T}{j:U V}(r:Own Z H G)(t:∀a,Z a->H a≠J)(l:d.length<=M.LIM)(f:d.Nodup/\∀k∈d,M.kOk k=Ju)(g:i.length=d.length)(pr:RepL K Z H .s i j λ_=>OS)(k:Out K Z H G (.o .s,.dct d i) Q)(hp:H p=J):Q (.ref p) (upd H p<|.dK<|mkD d j):=by
 have m:∀{a u},H a=Y u->a≠p:=λ{a u} e q=>by subst q;rw[hp] at e;cases e
 refine k _ Z _ (λa=>a=p) ⟨p,j,rfl,l,⟨rfl,aq⟩,f,g,pr.keep (gq hp) (λ_ z=>z) λa u _ e=>by rw[ag<|m e];exact e⟩ ?_<|cT hp r (λa h=>.inr h) Z (λ_ z=>z) λ_ z=>.inl z;rintro a rfl;exact⟨λz=>t a z hp,.inr _,aq⟩
theorem sy:Loc K 1 .dcpy h λl H Q=>∃(a:OD) (d:U<|Key×V),l=[.ref a]/\H a=Y (.dK d)/\∀p,H p=J->Q (.ref p) (upd H p<|.dK d):=by
 intro z w l Z H G Q u e r y A k
 match z,u with
 |[(m,a)],_=>
  obtain⟨x,rfl,r1⟩:=br rfl r;obtain⟨i,j,rfl,rfl⟩:∃i j,a=.dct i j/\m=.s:=by cases m<;>first|(cases e;done)|(cases a<;>first|exact⟨_,_,rfl,rfl⟩|(cases e;done))
  cases(show Y ((.o .s,.dct i j):M.W)=Y w from e);obtain⟨ad,D,v,t,hd,f,g,pr⟩:=r1;exact⟨ad,_,by rw[show x=_ from v],hd.2,λp hp=>uw y A t f g pr k hp⟩
theorem zY (hm:X.mg "dict"=J)(f:Gl X "dict":=by rfl)(ha:SE X sf C ea a)(e:Jz [ea] X.env=(Jt,OV ea X.env)::Jz [] X.env:=by rfl)(d:(JZ pos<|Jz [] X.env).any (·.1)=false:=by rfl):SE X sf C (.Call (.Name "dict" p) [ea] [] pos) (.op .dcpy h [a]):=
 aA (dM pB f hm Ov (slc ha sl0 e) (by decide) (by decide) e d) (eC sy rfl)
theorem vQ {x:Str}{e2:M.E}(hx:M.sOk x=Ju)(N:L2.St)(H:Hp)(Q:VK)(hw:wE K sf C (.op .dsp1 h [.cst<|.str x,e2]) N H Q):vm [(tC<|.str x,wE K sf C e2)] N H Q:=by
 obtain⟨pv,Z,y,η,w,η',A,ev,k⟩:=hw;obtain⟨ws,h1,h2⟩:=bW ev;obtain⟨u0,η1,us,g1,g2,rfl⟩:=ay h1;obtain⟨⟨m',t'⟩,η2,us,g3,g4,rfl⟩:=ay g2;cases g4;cases g1;cases(show Y ((.o .s,.dct [.inr x] [t']):M.W)=Y w from h2);intro p hp;have t:Own Z (upd H p (.dK [])) (λa=>a=p):=by rintro a rfl;exact⟨λz=>A.gd.zal a z hp,.inr [],aq⟩
 have st:Step Z H no Z (upd H p (.dK [])) (λa=>a=p):=cT hp bO (λa h=>.inr h) Z (λ_ z=>z) λ_ z=>.inl z;obtain⟨P,s0⟩:=A.op t st;have np:¬tot y p:=λq=>by obtain⟨_,d,e⟩:=A.gd.own p q;rw[hp] at e;cases e
 refine eX (R:=λa=>a=p) P g3 λv m f Fs2 l j r2 d2 s2 t2=>?_;have hk:=s2.keep p _ aq np;refine⟨hk,[(.inr x,v)],rfl,by show 1<=15;decide,?_⟩;have o:=bc j ((s0.mono (F':=λc=>tot y c\/c=p) (λ_ q=>q.elim id λq=>q.elim) λ_ q=>q).trans t2) k;have G:¬m p:=(j.own p<|.inl rfl).1;have F:¬l p:=d2 p rfl;have neT:∀b d,f b=Y (.tup d)->b≠p:=λb d e z=>by rw[z,hk] at e;cases e
 have i:∀b o u,f b=Y (.frz o u)->b≠p:=λb o u e z=>by rw[z,hk] at e;cases e
 have r:∀b,m b\/l b->b≠p:=λb h z=>by subst z;exact h.elim G F
 have D:∀b,f b≠J->upd f p (.dK (mkD [.inr x] [v])) b≠none:=λb h=>by
  by_cases e:b=p
  .rw[e,aq];simp
  .rw[ag e];exact h
 refine o (.ref p) (λa=>m a\/l a) (upd f p<|.dK<|mkD [.inr x] [v]) (λa=>a=p) ⟨p,[v],rfl,by show 1<=16777215;decide,⟨rfl,aq⟩,⟨by simp,λk hk=>by rw[J4.mp hk];exact hx⟩,rfl,?_⟩ ?_ ?_
 .refine ⟨v,[],no,no,rfl,fun _ z=>z.elim,fun _ z=>z.elim,fun _ z=>z.elim,r2.sh.keep ⟨fun b o hb e=>by rw [ag (r b hb)]; exact e,fun b d e=>?_,fun b o u e=>by rw [ag (i b o u e)]; exact e⟩ (fun _ z=>z) fun _ _ z=>z.elim,rfl⟩;rcases e with e|⟨u,e⟩
  .exact .inl (by rw[ag<|neT b d e];exact e)
  .exact .inr ⟨u,by rw[ag<|i b u _ e];exact e⟩
 .rintro a rfl;exact⟨λz=>z.elim G F,.inr _,aq⟩
 .exact⟨λa o e hF=>by rw[ag λz=>hF<|.inl z];exact e,λ_ z=>.inl z,λa h=>h.elim .inl λz=>.inr<|.inl<|.inr z,λa h=>.inl<|.inl h,D,λz a h=>D a (h.elim (z a) λg=>by
   obtain⟨_,d,e⟩:=j.own a<|.inr g;rw[e];simp)⟩
theorem Eu {s:OL}{e:O}{f:Pos}(d:s.length<=1000:=by decide)(ha:SE X sf C ea a):SE X sf C (.Dict [Y<|.Constant (.str<|Str.ofString s) e f] [ea] pos) (.op .dsp1 h [.cst<|.str<|Str.ofString s,a]):=
 aA (oj (jV mM ha nh) rfl rfl (by simp) (by show 1<=15;decide)) (vQ<|nD s d)
end
end MR

namespace L3
open PySem PySem.Spec PyProof.Rows L2
section
variable {X:Cx}{pins:U (OD×Obj)}{σ:L2.St}{H:Hp}{s:Jv}{a:OD}{A:JU}{E:B->Jv->Prop}{pos apos cpos:Pos}{o e f:ON}{td ty tx:TE}
theorem Fq {c:U<|Key×V}{k:Key}{z:V}{u r:B}{Q:B->Jv->Prop}(b:L2.Inv X pins σ H s)(e:H a=Y (.dK c))(hl:c.length<sizeLine)(N:RelV (kV k) u)(P:RelV z r)
  (t:∀v,b5 c k=Y v->∀n i,L2.Inv X pins σ H i->RelV v n->Q n i) (x:b5 c k=J->∀i,L2.Inv X pins σ (upd H a<|.dK<|bQ c k z) i->Q r i):
  OJ (JA X.prog X.w) A (call (.builtin "dict.setdefault") [.ref a,u,r]) Q E s:=by
 obtain⟨zl,hd,Z,g,m⟩:=u7 b.hok e;have d:=g.val k;refine Lv Oq m.typeIs PySem.F.entry_dict_setdefault (PySem.F.args_dict_setdefault_3 _ _ _) (kt_meets_setdefault (aK X.prog X.w) a (fM N) hd r) ⟨Z,m,by rw[<- g.length];exact zl,λv' l=>?_,λD p h M=>?_⟩
 .rw [l] at d;cases ev:b5 c k with
  |none=>rw[ev] at d;exact d.elim
  |some v=>rw[ev] at d;exact t v ev _ _ (b.tok _) d
 .rw [D] at d
  have ev:b5 c k=none:=by
   cases ev:b5 c k with
   |none=>rfl
   |some v=>rw[ev] at d;exact d.elim
  have y:∃q,p.get? a=Y q:=let ⟨q,_,_,G,_⟩:=h;⟨q,G⟩;have j:(bQ c k z).length<=sizeLine:=by have:=cB c k z;lia
  exact x ev _<|f6 b (by rw[e];exact Kz) M y<|jR j hd (g.put k P) h
def GZ (td ty tx:TE):TE:=λσ H Q=>td σ H λx d=>∃a,x=.ref a/\IsD d a/\ty σ d λy g=>tx σ g λz c=>∃(b:U<|Key×V) (k:Key),c a=Y (.dK b)/\y=kV k/\b.length<sizeLine/\(∀v,b5 b k=Y v->Q v c)/\(b5 b k=J->Q z (upd c a<|.dK<|bQ b k z))
theorem wN (ho:PE X o td)(N:PE X e ty)(P:PE X f tx)(m:M2 X o "setdefault" apos e f cpos):PE X (.Call (.Attribute o "setdefault" apos) [e,f] [] cpos) (GZ td ty tx):=by intro pins s σ H Q b h;refine L8 m.base m.few m.line Mu Oq PySem.F.type_dict_setdefault<|thn (ho pins s σ H _ b h) λu s1 ⟨x,l,i,rx,a,w,d,q1⟩=>?_;subst w;cases(show u=Value.ref a from rx);obtain⟨t1,t2,_⟩:=lZ i d;refine⟨t1,t2,?_⟩;rw[m.trees];refine Calls.callWith_builtin rfl (Calls.evalArgs_plain<|Calls.spliced_cons<|thn (N pins s1 σ l _ i q1) λiv s2 ⟨y,n,r,ry,q2⟩=>Calls.spliced_cons<|thn (P pins s2 σ n _ r q2) λfv s3 ⟨z,p,t,j,kvs,k,hx,D,Z,G,M⟩=>Calls.spliced_nil ?_);subst D;exact Fq t hx Z ry j (λv hv w' s4 c g=>⟨v,p,c,g,G v hv⟩) λhn s4 c=>⟨z,_,c,j,M hn⟩
end
end L3
namespace MR
open PySem PySem.Spec PyProof.Rows L2 L3
section
variable {X:Cx}{sf sg:O->L O}{C:M.Call}{pos p p2 p3:Pos}{ea eb ec:ON}{a b c:M.E}{h:OF}{n:O}{io:U O}{K:Jw}
theorem tY {u v w:L M.W}{r:M.W×M.W}(e:M.sdfT u v w=Y r):∃m d f n x t,u=Y (m,.dct d f)/\v=Y (n,.str x)/\w=Y (.s,t)/\m≠.s/\d.length<M.LIM/\((∃z,M.lookD (.inr x) d f=Y z/\r=((.s,z),(m,.dct d f)))\/(M.lookD (.inr x) d f=J/\r=((.s,t),(.o .s,.dct (M.putT (.inr x) t d f).1 (M.putT (.inr x) t d f).2)))):=by
 unfold M.sdfT at e;split at e
 .cases e
 .rename_i m d f n x t i;split at e
  .rename_i g;refine⟨m,d,f,n,x,t,rfl,rfl,rfl,λz=>i z,OM g,?_⟩;cases e1:M.lookD (.inr x) d f with
   |none=>rw[e1] at e;cases e;exact .inr ⟨rfl,rfl⟩
   |some z=>rw[e1] at e;cases e;exact .inl ⟨z,rfl,rfl⟩
  .cases e
 .cases e
theorem ke:∀{η:M.Env} {i:O} {w:M.W},M.rd η i=Y w->M.put η i w=η
|o::η,0,w,e=>by have e:o=Y w:=e;subst e;rfl
|o::η,i+1,w,e=>by show o::M.wr η i (Y w)=o::η;rw[show M.wr η i (Y w)=η from ke (η:=η) (i:=i) (w:=w) e]
theorem DU {i j k si sj sk:O}(hi:sf i=Y si)(hj:sf j=Y sj)(hk:sf k=Y sk)(σ:L2.St)(H:Hp)(Q:VK)(hw:wE K sf C (.sdf i j k) σ H Q):GZ (i4 si) (i4 sj) (i4 sk) σ H Q:=by
 obtain⟨pv,Z,P,η,w,η',A,ev,k0⟩:=hw;obtain⟨r,h4,h5⟩:=ae<|show(M.ofO<|M.sdfT (M.rd η i) (M.rd η j)<|M.rd η k).bind (M.kSdf i η)=_ from ev;cases h5;obtain⟨m,g,u,nn,x,t,e1,e2,e3,hm,F,hc⟩:=tY<|cG h4;obtain⟨v1,r1,l1,p1⟩:=A.env i m _ e1;obtain⟨v2,r2,l2,_⟩:=A.env j nn _ e2;obtain⟨v3,r3,l3,_⟩:=A.env k .s t e3;obtain⟨a,D,rfl,hl,hf,hx,l,d,p⟩:=jJ hm r1;have G:D.length=g.length:=by rw[p.length,d]
 have pS:RepL K (λb=>Z b\/OS) H .s u D no:=RepL.sh p;refine⟨.ref a,l1 si hi,a,rfl,.inl ⟨_,.inl hx⟩,v2,l2 sj hj,v3,l3 sk hk,mkD g D,.inr x,hx,r2.1,?_,λv hv=>?_,λhn=>?_⟩
 .show (g.zip D).length<_;rw[Mw,G,Mm];exact J8 F<|LIM_le<|JE _
 .rcases hc with ⟨z,f,rfl⟩ | ⟨f,rfl⟩
  .obtain ⟨y,N,ry⟩:=cf pS f;rw[hv] at N;cases N;rw[ke e1] at k0;exact k0 v Z H P no A (ry.zmono λb h=>h.elim id KA)<|(Step.refl Z H<|tot P).mono (λ_ z=>z) λ_ z=>z.elim id λq=>q.elim
  .rw[cO pS d f] at hv;cases hv
 .rcases hc with ⟨z,f,rfl⟩ | ⟨f,rfl⟩
  .obtain ⟨y,N,ry⟩:=cf pS f;rw[hn] at N;cases N
  .obtain ⟨q1,q2⟩:=eN (.inr x) t g u d;have rS:Rep K (λb=>Z b\/((P i b\/no b)/\b≠a/\¬no b/\¬no b)) H .s t v3 no:=(r3.sany (G':=no)).zmono λb h=>.inl h;have pS2:RepL K (λb=>Z b\/((P i b\/no b)/\b≠a/\¬no b/\¬no b)) H .s u D (λ_=>OS):=pS.zmono λb h=>h.elim .inl KA;rw[f7 (.inr x) t v3 g u D d G l.1];exact jI (K:=K) (m':=.o .s) (G':=no) (R:=no) (by simp) A e1 hf (λk hk=>by rw[show sf i=Y k from hk] at hi;cases hi;exact l1 _ hk) (by lia) ⟨de (.inr x) t g u d l.1,λz f=>((dt (.inr x) t g u d z).mp f).elim (λe=>e ▸ r2.2)<|l.2 z⟩ q1 p1 (λ_ z=>z.elim) (λ_ z=>z.elim) (λ_ z=>z.elim) (fo rS g u D d pS2) λZ5 Fs5 B5 s5 tr=>k0 v3 Z5 _ Fs5 no B5 (tr rS)<|s5.mono (λ_ z=>z.elim id λq=>q.elim) λ_ z=>z
theorem IG (o r s:O){i j k:O}{x y z:Str}{d e f g l:Pos}(F:sf i=Y o:=by rfl)(G:sf j=Y r:=by rfl)(hk:sf k=Y s:=by rfl)(H:X.N[o]?=Y x:=by rfl)(M:X.N[r]?=Y y:=by rfl)(P:X.N[s]?=Y z:=by rfl)
  (Q:Vis X.env.scope x:=by first|exact JS rfl|exact JK (JS rfl)|exact JK<|JK rfl) (Z:Vis X.env.scope y:=by first|exact JS rfl|exact JK (JS rfl)|exact JK<|JK rfl) (vz:Vis X.env.scope z:=by first|exact JS rfl|exact JK (JS rfl)|exact JK<|JK rfl)
  (w:(x==("__debug__":Str))=false:=by decide) (A:(y==("__debug__":Str))=false:=by decide) (D:(z==("__debug__":Str))=false:=by decide) (t:(x==("__classdict__":Str))=false:=by decide) (u:(y==("__classdict__":Str))=false:=by decide) (v:(z==("__classdict__":Str))=false:=by decide)
  (m:M2 X (.Name x f) "setdefault" d (.Name y g) (.Name z l) e:=by exact⟨rfl,rfl,rfl,rfl⟩):SE X sf C (.Call (.Attribute (.Name x f) "setdefault" d) [.Name y g,.Name z l] [] e) (.sdf i j k):=
 aA (wN (bX H Q w t) (bX M Z A u) (bX P vz D v) m) (DU F G hk)
end
end MR


namespace MR
open PySem PySem.Spec PyProof.Rows L2 L3
section
variable {X:Cx}{sf sg:O->L O}{C:M.Call}{pos p p2 p3:Pos}{ea eb ec:ON}{a b c:M.E}{h:OF}{n:O}{io:U O}{K:Jw}
def mR (K:Jw)(sf:O->L O)(C:M.Call):U Str->U M.E->U (TE×TE)
|k::f,e::d=>(tC<|.str k,wE K sf C e)::mR K sf C f d
|_,_=>[]
theorem j7 {u:L2.St}:∀(i:U Str) (f:U M.E) (H:Hp) (Q:U (V×V)->Hp->Prop),i.length=f.length->wL K sf C f u H (λP m=>Q ((i.map V.str).zip P) m)->jT (mR K sf C i f) u H Q
|[],[],H,Q,_,t=>by obtain⟨x,Z,l,y,ws,j,A,ev,k⟩:=t;cases ev;exact k [] Z H l no A rfl ((Step.refl Z H<|tot l).mono (λ_ z=>z) λ_ z=>z.elim id λq=>q.elim)
|k::i,e::f,H,Q,N,t=>by obtain⟨x,Z,l,y,w,j,A,ev,g⟩:=oA u H _ t;refine⟨x,Z,l,y,w,j,A,ev,λv F m o G d r s=>?_⟩;exact j7 i f m (λps D=>Q ((.str k,v)::ps) D) (KI N)<|g v F m o G d r s
|[],_::_,_,_,e,_=>by cases e
|_::_,[],_,_,e,_=>by cases e
theorem iY:∀d:U M.W,(d.map λw=>w.2)=M.trees d
|[]=>rfl
|w::d=>by rw[JQ,iY d];rfl
theorem iS:∀(l d:U<|Key×V),((d++l).map (·.1)).Nodup->d7 d l=d++l
|[],d,_=>(JR d).symm
| (k,v)::l,d,f=>by
 show d7 (bQ d k v) l=_
 have hk:b5 d k=none:=by
  unfold b5;have:d.find? (λg=>decide (g.1=k))=none:=List.find?_eq_none.mpr λg e=>by have:=(MD.mp<|by rw[KS] at f;exact f).2.2 g.1 (List.mem_map_of_mem e) k (by simp);simpa using this
  rw[this];rfl
 rw[qG v hk,iS l (d++[(k,v)])<|by rw[JN];exact f,JN];rfl
theorem tX:∀(d:U Str) (e:U V),(d.map V.str).zip e=((d.map Kf).zip e).map λf=>(kV f.1,f.2)
|[],_=>rfl
|_::_,[]=>rfl
|k::d,v::e=>by show(V.str k,v)::(d.map V.str).zip e=(kV<|.inr k,v)::_;rw[tX d e];rfl
theorem vX {d:U Str}{D:U M.E}(hx:d.all M.sOk=Ju)(hnd:d.Nodup)(hl:d.length=D.length)(G:d.length<=15)(σ:L2.St)(H:Hp)(Q:VK)(hw:wE K sf C (.op (.dspN d) h D) σ H Q):vm (mR K sf C d D) σ H Q:=by
 obtain⟨pv,Z,Fs,η,w,η',A,ev,k⟩:=hw;obtain⟨ws,h1,h2⟩:=bW ev;have P:(if decide (d.length=ws.length)=Ju then Y ((.o .s,.dct (d.map Kf) (ws.map λw=>w.2)):M.W) else J)=Y w:=h2;split at P
 case isFalse=>cases P
 rename_i f;have f:=OM f;cases P;intro p hp;have owp:Own Z (upd H p (.dK [])) (λa=>a=p):=by rintro a rfl;exact⟨λz=>A.gd.zal a z hp,.inr [],aq⟩
 have st:Step Z H no Z (upd H p (.dK [])) (λa=>a=p):=cT hp bO (λa h=>.inr h) Z (λ_ z=>z) λ_ z=>.inl z;obtain⟨A1,s0⟩:=A.op owp st;have np:¬tot Fs p:=λq=>by obtain⟨_,l,e⟩:=A.gd.own p q;rw[hp] at e;cases e
 refine j7 d D _ _ hl ?_;refine CM (R:=λa=>a=p) A1 h1 λi y j Fs2 v F r2 d2 s2 t2=>?_;have hk:=s2.keep p _ aq np;have r:i.length=d.length:=by rw[r2.length,f]
 have hmf:((d.map (Kf:Str->I ⊕ Str)).zip i).map (·.1)=d.map Kf:=List.map_fst_zip (by rw[JF,r];exact JE _);have m:(d.map (Kf:Str->I ⊕ Str)).Nodup:=List.pairwise_map.mpr<|hnd.imp λh e=>h<|Mk e;refine⟨hk,(d.map Kf).zip i,tX d i,by rw[Mw,JF,r,Mm];exact G,?_⟩;rw[iS _ []<|by rw[Kw,hmf];exact m,Kw];have o:=bc F ((s0.mono (F':=λc=>tot Fs c\/c=p) (λ_ q=>q.elim id λq=>q.elim) λ_ q=>q).trans t2) k;have nz:¬y p:=(F.own p<|.inl rfl).1;have ng:¬v p:=d2 p rfl;have neT:∀b l,j b=Y (.tup l)->b≠p:=λb l e z=>by rw[z,hk] at e;cases e
 have t:∀b o u,j b=Y (.frz o u)->b≠p:=λb o u e z=>by rw[z,hk] at e;cases e
 have neZ:∀b,y b\/v b->b≠p:=λb h z=>by subst z;exact h.elim nz ng
 have al:∀b,j b≠J->upd j p (.dK (mkD (d.map Kf) i)) b≠none:=λb h=>by
  by_cases e:b=p
  .rw[e,aq];simp
  .rw[ag e];exact h
 obtain⟨G',g1,rl⟩:=r2.to (N:=.s) λw _=>by cases M.lf w.1 w.2<;>rfl
 have rl2:RepL K (λb=>y b\/v b) j .s (M.trees ws) i no:=(RepL.sh rl).zmono λb h=>h.elim (λh=>h.imp id Lx) λh=>.inr<|g1 b h;refine o (.ref p) (λa=>y a\/v a) (upd j p<|.dK<|mkD (d.map Kf) i) (λa=>a=p) ⟨p,i,rfl,by rw[JF];show _<=16777215;lia,⟨rfl,aq⟩,⟨m,λk hk=>?_⟩,by rw[JF,JF,f],?_⟩ ?_ ?_
 .obtain ⟨x,hxk,rfl⟩:=KJ.mp hk;exact Lb.mp hx x hxk
 .rw [iY];refine(rl2.keep ⟨λb o hb e=>by rw[ag (neZ b hb)];exact e,λb l e=>?_,λb o u e=>by rw[ag (t b o u e)];exact e⟩ (λ_ z=>z) λ_ _ z=>z.elim).mono λ_ z=>z;rcases e with e|⟨u,e⟩
  .exact .inl (by rw[ag<|neT b l e];exact e)
  .exact .inr ⟨u,by rw[ag<|t b u _ e];exact e⟩
 .rintro a rfl;exact⟨λz=>z.elim nz ng,.inr _,aq⟩
 .exact⟨λa o e hF=>by rw[ag λz=>hF<|.inl z];exact e,λ_ z=>.inl z,λa h=>h.elim .inl λz=>.inr<|.inl<|.inr z,λa h=>.inl<|.inl h,al,λz a h=>al a (h.elim (z a) λg=>by
   obtain⟨_,l,e⟩:=F.own a<|.inr g;rw[e];simp)⟩
theorem Gr {X:Cx}{pos:Pos}:PPs X pos [] [] (mR X.K sf C [] []):=nh
theorem pf {X:Cx}{pos l:Pos}{s:OL}{k:O}{ea:ON}{a:M.E}{e:U<|L ON}{d:U ON}{g:U Str}{f:U M.E}(i:SE X sf C ea a)(j:PPs X pos e d<|mR X.K sf C g f):PPs X pos (Y (.Constant (.str<|Str.ofString s) k l)::e) (ea::d) (mR X.K sf C (Str.ofString s::g) (a::f)):=jV mM i j
theorem zL {d:U<|L ON}{e:U ON}{f:U Str}{i:U M.E}(hp:PPs X pos d e<|mR X.K sf C f i)(hx:f.all M.sOk=true:=by decide +kernel)(l:f.Nodup:=by decide +kernel)(o:f.length=i.length:=by rfl)(j:f.length<=15:=by decide)(g:d.all (·.isSome)=true:=by rfl)(k:d.length=e.length:=by rfl)(m:d≠[]:=by intro z;cases z)(hk:d.length<=15:=by decide):SE X sf C (.Dict d e pos) (.op (.dspN f) h i):=
 aA (oj hp g k m hk) (vX hx l o j)
end
end MR

namespace MR
open PySem PySem.Spec PyProof.Rows L2 L3
section
variable {X:Cx}{sf sg:O->L O}{C:M.Call}{pos p p2 p3:Pos}{ea eb ec:ON}{a b c:M.E}{h:OF}{n:O}{io:U O}{K:Jw}
theorem xp {e1 e2 e3:M.E}(σ:L2.St)(H:Hp)(Q:VK)(hw:wE K sf C (.op .getE h [e1,e2,e3]) σ H Q):q9 (wE K sf C e1) (wE K sf C e2) (wE K sf C e3) σ H Q:=by
 obtain⟨pv,Z,Fs,η,w,η',A,ev,k⟩:=hw;obtain⟨ws,h1,r⟩:=bW ev;obtain⟨⟨m,t⟩,η1,us,g1,g2,rfl⟩:=ay h1;obtain⟨⟨m',t'⟩,η2,us,g3,g4,rfl⟩:=ay g2;obtain⟨⟨m3,d⟩,η3,us,g5,g6,rfl⟩:=ay g4;cases g6;obtain⟨D,F,rfl,rfl⟩:∃D F,t=.dct D F/\m=.s:=by cases m<;>first|(cases r;done)|(cases t<;>first|exact⟨_,_,rfl,rfl⟩|(cases r;done))
 obtain rfl:m3=.s:=by cases m3<;>first|rfl|(cases r;done)
 have o:((M.keyT t').map λq=>((.s,(M.lookD q D F).getD d):M.W))=Y w:=r;refine eX A g1 λx Z1 H1 Fs1 G1 A1 r1 _ s1 _=>?_;have e:=A1.mono (G':=G1) λ_ z=>.inr z;obtain⟨ad,ys,hq,hl,hd,hnk,hvl,pr⟩:=id r1;refine⟨ad,hq,.inl ⟨_,.inl hd.2⟩,?_⟩;refine eX e g3 λy Z2 H2 Fs2 G2 G r2 d2 s2 t2=>?_;have r1':=r1.frame A1.gd.own s2 e.dis;refine eX G g5 λz Z3 H3 Fs3 G3 l r3 d3 s3 t3=>?_;have j:=r1'.frame G.gd.own s3 λc hc=>G.dis c<|.inl hc;obtain⟨ad',ys',f,hl',N,hnk',g,i⟩:=j;have P:x=.ref ad:=hq;rw[P] at f;cases f;cases e1:M.keyT t' with
 |none=>rw[e1] at o;cases o
 | some q =>
  rw[e1] at o;cases o;have hb:=cS e1;subst hb;obtain⟨hy,_⟩:=fB r2;have hy':y=kV q:=hy;subst hy';refine⟨_,DGet.k N.2,?_⟩;cases e3:M.lookD q D F with
  |none=>rw[cO i g e3];dsimp only at k;rw[e3] at k;exact bU l.own (bc l ((s1.trans t2).trans t3) k) r3.sany
  |some u=>obtain⟨v,hv,rv⟩:=cf i e3;rw[hv];dsimp only at k;rw[e3] at k;exact bU l.own (bc l ((s1.trans t2).trans t3) k) rv.sany
theorem Gy {d e:Pos}(j:Room n X.A)(f:SE X sf C ea a)(g:SE X sf C eb b)(i:SE X sf C ec c)(m:M2 X ea "get" d eb ec e:=by exact⟨rfl,rfl,rfl,rfl⟩):SE X sf C (.Call (.Attribute ea "get" d) [eb,ec] [] e) (.op .getE h [a,b,c]):=aA (rY (iO j) f g i m) xp
end
end MR

namespace MR
open PySem PySem.Spec PyProof.Rows L2 L3
section
variable {X:Cx}{sf sg:O->L O}{C:M.Call}{pos p p2 p3:Pos}{ea eb ec:ON}{a b c:M.E}{h:OF}{n:O}{io:U O}{K:Jw}
theorem xf {e:M.E}(σ:L2.St)(H:Hp)(R:It->Hp->Prop)(h:wI K sf C 2 .sq2T [e] σ H R):Ed K (wE K sf C e) σ H R:=by
 obtain⟨pv,Z,Fs,η,ws,η',ts,A,ev,Q,k⟩:=h;obtain⟨⟨m,a⟩,η1,us,e1,e2,rfl⟩:=ay ev;cases e2;obtain⟨g,rfl⟩:∃g,a=.tup g:=by cases a<;>first|exact⟨_,rfl⟩|cases Q
 have j:M.pairsT g=Y ts:=Q;have P:=d0 j;refine⟨pv,Z,Fs,η,_,_,A,e1,λv Z' H' D G f r s=>?_⟩;obtain⟨a,t,rfl,q,l,p⟩:=Rep.sh r;have hl:=p.length;refine⟨a,rfl,⟨t,q⟩,k _ _ H' D f.freeze (a7 f.own s) ⟨λF i s N=>?_,λF i s N=>?_,by lia⟩ λF i x H1 s N y=>?_⟩
 .exact⟨t,t[i]'(by lia),s.sqt q,by simp⟩
 .exact⟨t,s.sqt q,by lia⟩
 .obtain ⟨rfl,y⟩:=y;have hx:=y t (s.sqt q);have hi':i<g.length:=by lia
  obtain⟨x',o,rx⟩:=p.get (show g[i]?=Y g[i] by simp);rw[hx] at o;cases o;obtain⟨u,w,et,eu⟩:=dX j (show g[i]?=Y g[i] by simp);rw[et] at rx;obtain⟨c,ys,rfl,hq,_,y1,r1,G1,G2,rfl,g1,g2,d,p1,y2,r2,G3,G4,e2,g3,g4,d2,p2,q2⟩:=rx;cases e2;obtain rfl:r2=[]:=q2;refine⟨c,y1,y2,(.s,u),(.s,w),rfl,λ_ _ e=>e,s.sqt hq,eu,(p1.mono (G':=no) λa h=>g1 a h).sany.keep s (λ_ z=>z) λ_ _ z=>z.elim,(p2.mono (G':=no) λa h=>g2 a<|g3 a h).sany.keep s (λ_ z=>z) λ_ _ z=>z.elim⟩
theorem lO {e:ON}(d:SE X sf C ea a):PI X e ea (wI X.K sf C 2 .sq2T [a]):=iT (vw d) xf
end
end MR

namespace L3
open PySem PySem.Spec PyProof.Rows L2
theorem t8 {X:Cx}(m:X.A.units+65<O0):OpR X (Kh .In) (λx y H Q=>∃t f,Has X.K H t x/\okTh t/\Has X.K H (.tup f) y/\(∀u∈f,okTh u)/\Q (.bl<|f.any λu=>PyData.eqv (toD u)<|toD t) H):=by intro g s σ H x y v u Q b M N h;obtain⟨t,f,i,r,⟨a,Z,rfl,j,l⟩,z,q⟩:=h;obtain⟨as,F⟩:=Has.reads b i M;cases N;obtain⟨c,G,D,P⟩:=b.tuple j;obtain⟨e,k⟩:∃e:B->OF,∀w,e w=Ju ↔ ∃d bs,Reads s.heap w d bs/\PyData.eqv d (toD t)=true:=⟨λw=>@decide _ (NY _),λw=>@decide_eq_true_iff _<|NY _⟩;obtain⟨o,p⟩:=kU m b F r e k l G z;refine SeqAt.in_tupleAt e D (λw n=>o w<|by simpa using n) ⟨.bl _,H,b,rfl,?_⟩;rw[show c.toArray.any e=c.any e by simp,p];exact q
end L3
namespace MR
open PySem PySem.Spec PyProof.Rows L2 L3
section
variable {X:Cx}{sf sg:O->L O}{C:M.Call}{pos p p2 p3:Pos}{ea eb ec:ON}{a b c:M.E}{h:OF}{n:O}{io:U O}{K:Jw}
theorem kD {m n:M.Md}{t u:M.T}{w:M.W}(e:M.oSem .inLT h [(m,t),(n,u)]=Y w):∃f,u=.tup f/\M.dp t<=64/\M.dps f<=64/\w=(.d,.bl<|f.any λx=>M.eqT x t):=by
 obtain⟨f,rfl⟩:∃f,u=.tup f:=by cases u<;>first|exact⟨_,rfl⟩|cases e
 have g:(if decide (M.dp t<=64)&&decide (M.dps f<=64) then Y ((.d,.bl (f.any λx=>M.eqT x t)):M.W) else J)=Y w:=e;split at g
 .rename_i i;rw[JM,OP,OP] at i;cases g;exact⟨f,rfl,i.1,i.2,rfl⟩
 .cases g
theorem ri:Loc K 2 .inLT h λg H Q=>∀x y,g=[x,y]->∃t f,Has K H t x/\okTh t/\Has K H (.tup f) y/\(∀u∈f,okTh u)/\Q (.bl<|f.any λu=>PyData.eqv (toD u)<|toD t) H:=by intro ws w g Z H G Q F e r P za k x y hx;subst hx;obtain⟨⟨m,a⟩,⟨n,b⟩,rfl⟩:=cK r.length.symm;obtain⟨z,A,w1,w2,d,r1,r2⟩:=bI r;obtain⟨f,e1,j,i,rfl⟩:=kD e;subst e1;obtain⟨s,v⟩:=fg j r1;obtain⟨p,g,rfl,l,D,q⟩:=bY r2;obtain⟨o,M,N⟩:=eO (n:=64) i (JE _) q;refine⟨th a,ths f,s,v,⟨p,g,rfl,l,o⟩,qS i q,?_⟩;rw[nS j f i];exact bN k
theorem AD (i:Room n X.A)(d:SE X sf C ea a)(f:SE X sf C eb b)(g:Kt .In eb=false:=by rfl):SB X sf C (.Compare ea [.In] [eb] pos) (.op .inLT h [a,b]):=bF (t8 (by have:=i.un;lia)) d f g (aO ri) λu v w e=>by obtain⟨_,_,_,_,rfl⟩:=kD e;exact⟨_,rfl⟩
end
end MR

namespace MR
open L2 L3 M
open PySem (Addr Str sizeLine)
section
variable {K:Jw}{Wx:L2.St->VK}{sf:O->L O}{C:Call}{io:U O}
theorem Hq {vs i:U O}{e:E}(l:L2.St)(H:Hp)(Q:OF->Hp->Prop)(h:wT K sf C (.qx vs i e) l H Q):wT K sf C e l H Q:=by
 obtain⟨F,Z,Fs,f,w,η',b,A,ev,D,k⟩:=h;obtain⟨⟨u,P⟩,t,v⟩:=ae<|show(evE C e<|pick vs i f).bind (kX vs f)=_ from ev;cases v;refine FY (x:=.q vs i) (sl:=⟨sf,F⟩) (b:=b) (η':=f) A ?_ λp j g c s=>?_
 .show (evE C e<|pick vs i f).bind (M.kT f)=_;rw[t];show ret f (truth u.2)=_;rw[show truth u.2=Y b from D];rfl
 .by_cases hd:M.lf u.1 u.2=.d
  .exact k p j g (by rw[hd];exact c) s
  .have r:after (M.lf u.1 u.2) vs f=M.share vs f:=by
    cases y:M.lf u.1 u.2 with
    |d=>exact OH y hd
    |s=>rfl
    |o m=>rfl
   obtain⟨n,G⟩:=c.share (vs:=vs);have N:=G<|s.mono (F2:=λa=>tot g a\/no a) (λ_ z=>z) λa h=>h.elim id λz=>z.elim;exact k _ j _ (by rw[r];exact n)<|N.mono (λ_ z=>z) λa h=>.inl h
theorem vj {x:X}{t l n j j' j2:O}{e:E}(hi:t ∉ io)(P:l ∉ io)(Q:n ∉ io)(hs:sf t=Y j)(hs':sf l=Y j')(hs2:sf n=Y j2)(D:b9)(σ:L2.St)(H:Hp)(h:wS K Wx sf io C (.asgT x [t,l,n] e) D σ H):
  kW (wE K sf C e) (uu K 3<|dU (bT j)<|dU (bT j')<|dU (bT j2) uA) D σ H:=by
 obtain⟨pv,Z,Fs,η,N,A,f⟩:=h;obtain⟨⟨w,k⟩,h1,h2⟩:=bz<|show Fin K Wx ⟨sf,pv⟩ Z H (tot Fs) D (Fl.of η (evX C x e η)<|kM [t,l,n]) from f;obtain⟨η2,h3,h4⟩:=eg<|show Fin K Wx ⟨sf,pv⟩ Z H (tot Fs) D (nxO k<|(xA w).bind λws=>aQ [t,l,n] ws k) from h2;refine gX (sl:=⟨sf,pv⟩) A h1 λv Z' H' Fs' G g r s=>?_;obtain⟨m,t0⟩:=w;cases t0 with
 | tup ts =>
  have i:aQ [t,l,n] (ts.map λt=>(m.kid,t)) k=Y η2:=h3
  match ts,i with
  | [a,b,c],i =>
   cases i;obtain⟨p,xs,rfl,hq,hl,y1,r1,G1,G2,rfl,g1,o,d,p1,y2,r2,G3,G4,e2,F,M,d2,p2,y,r3,G5,G6,e3,u,g6,d3,p3,q⟩:=r;cases e2;cases e3;obtain rfl:r3=[]:=q;have B1:=At.setR (w:=(m.kid,a)) (R:=λa=>G3 a\/G5 a) N hi hs g p1 g1 (λa h=>h.elim (λh=>o a<|F a h) λh=>o a<|M a<|u a h) λa h z=>h.elim (λh=>d a z<|F a h) λh=>d a z<|M a<|u a h;have B2:=At.setR (w:=(m.kid,b)) (R:=G5) N P hs' B1 p2 (λa h=>.inl h) (λa h=>.inr h) λa h z=>d2 a z<|u a h;have B3:=At.set (w:=(m.kid,c)) N Q hs2 B2 p3;refine⟨p,[y1,y2,y],rfl,hq,rfl,y1,[y2,y],rfl,y2,[y],rfl,y,[],rfl,rfl,h4 _ Z' H' _ B3<|s.mono (λ_ z=>z) λa h=>?_⟩;rcases ba h with h|h
   .rcases ba h with h | h
    .exact(ba h).imp id (g1 a)
    .exact .inr (o a<|F a h)
   .exact .inr (o a<|M a<|u a h)
  |[],i=>cases i
  |[_],i=>cases i
  |[_,_],i=>cases i
  |_::_::_::_::_,i=>cases i
 |_=>cases h3
end
end MR
namespace MR
open PySem PySem.Spec PyProof.Rows L2 L3
section
variable {X:Cx}{sf sg:O->L O}{C:M.Call}{pos p p2 p3:Pos}{ea eb ec:ON}{a b c:M.E}{h:OF}{n:O}{io:U O}{K:Jw}
theorem tQ {f e:U O}(d:SB X sf C ea a):SB X sf C ea (.qx f e a):=gY d Hq
theorem C3 (j l k:O){t u v:O}{x y z:Str}{A D F pt:Pos}{w:O}{xx:M.X}(d:X.N.Nodup)(G:SE X sf C ea a)(Q:t ∉ io:=by decide)(g:u ∉ io:=by decide)(m:v ∉ io:=by decide)(hs:sf t=Y j:=by rfl)(o:sf u=Y l:=by rfl)(r:sf v=Y k:=by rfl)(Z:X.N[j]?=Y x:=by rfl)(hl:X.N[l]?=Y y:=by rfl)(hk:X.N[k]?=Y z:=by rfl)
  (hx:L2.Loc X.env.scope x:=by first|exact JS rfl|exact JK rfl) (hy:L2.Loc X.env.scope y:=by first|exact JS rfl|exact JK rfl) (hz:L2.Loc X.env.scope z:=by first|exact JS rfl|exact JK rfl) (H:X.calm=true:=by rfl)
  (P:X.fn x=Ju\/X.env.scope.names.lookup x=Y .local:=by first|exact .inl rfl|exact .inr rfl) (e:X.fn y=Ju\/X.env.scope.names.lookup y=Y .local:=by first|exact .inl rfl|exact .inr rfl) (f:X.fn z=Ju\/X.env.scope.names.lookup z=Y .local:=by first|exact .inl rfl|exact .inr rfl)
  (s:Pa [.Tuple [.Name x A,.Name y D,.Name z F] w pt] ea pos.line X.env=pure false:=by rfl) (hw:Pb [.Tuple [.Name x A,.Name y D,.Name z F] w pt] ea X.env=pure none:=by rfl):
  SS X sf io C (.Assign [.Tuple [.Name x A,.Name y D,.Name z F] w pt] ea pos) (.asgT xx [t,u,v] a):=
 b0 (uW G (jB (n:=3) H<|bE (bC (i:=j) d Z hx P)<|bE (bC (i:=l) d hl hy e)<|bE (bC (i:=k) d hk hz f) gc) s hw) (vj Q g m hs o r)
end
end MR

namespace L3
open PySem PySem.Spec PyProof.Rows L2
noncomputable def hT (a:U I):I:=reduceHash<|Builtin.Tuple.tupleHashOf<|a.map hashInt
end L3

namespace A14
open M
open PySem (Str)
noncomputable abbrev q:=Str.ofString
noncomputable def keys_AHEAD:U Str:=[q "num",q "name",q "none",q "let",q "each",q "times"]
noncomputable def tab_BINDING:U (Str×T):=[(q "let",.int 1),(q "each",.int 1),(q "times",.int 2)]
noncomputable def keys_LEAVES:U Str:=[q "num",q "yes",q "no"]
noncomputable def tab_LEAVES:U (Str×T):=[(q "num",.tup [.str<|q "num"]),(q "yes",.tup [.str<|q "truth"]),(q "no",.tup [.str<|q "truth"])]
noncomputable def tab_RULES:U (Str×T):=[(q "not",.tup [.tup [.str<|q "truth",.str<|q "truth"]]),(q "first",.tup [.tup [.str<|q "pair K L",.str<|q "K"]]),(q "second",.tup [.tup [.str<|q "pair K L",.str<|q "L"]]),(q "one",.tup [.tup [.str<|q "K",.str<|q "row K"]]),(q "upto",.tup [.tup [.str<|q "num",.str<|q "row num"]]),(q "long",.tup [.tup [.str<|q "row K",.str<|q "num"]]),(q "sum",.tup [.tup [.str<|q "row num",.str<|q "num"]]),(q "sums",.tup [.tup [.str<|q "row num",.str<|q "row num"]]),(q "most",.tup [.tup [.str<|q "row num",.str<|q "num"]]),(q "flat",.tup [.tup [.str<|q "row row K",.str<|q "row K"]]),(q "add",.tup [.tup [.str<|q "num num",.str<|q "num"]]),(q "sub",.tup [.tup [.str<|q "num num",.str<|q "num"]]),(q "mul",.tup [.tup [.str<|q "num num",.str<|q "num"]]),(q "div",.tup [.tup [.str<|q "num num",.str<|q "num"]]),(q "rest",.tup [.tup [.str<|q "num num",.str<|q "num"]]),(q "less",.tup [.tup [.str<|q "num num",.str<|q "truth"]]),(q "same",.tup [.tup [.str<|q "num num",.str<|q "truth"],.tup [.str<|q "truth truth",.str<|q "truth"]]),(q "both",.tup [.tup [.str<|q "truth truth",.str<|q "truth"]]),(q "pair",.tup [.tup [.str<|q "K L",.str<|q "pair K L"]]),(q "pick",.tup [.tup [.str<|q "row K num",.str<|q "K"]]),(q "join",.tup [.tup [.str<|q "row K row K",.str<|q "row K"]]),(q "keep",.tup [.tup [.str<|q "row K row truth",.str<|q "row K"]]),(q "cut",.tup [.tup [.str<|q "row K row num",.str<|q "row row K"]]),(q "let",.tup [.tup [.str<|q "K L",.str<|q "L"]]),(q "if",.tup [.tup [.str<|q "truth K K",.str<|q "K"]]),(q "each",.tup [.tup [.str<|q "row K L",.str<|q "row L"]]),(q "times",.tup [.tup [.str<|q "num K K",.str<|q "K"]])]
noncomputable def keys_WITHIN:U Str:=[q "num",q "truth",q "pair",q "row"]
noncomputable def tab_WITHIN:U (Str×T):=[(q "num",.int 0),(q "truth",.int 0),(q "pair",.int 2),(q "row",.int 1)]
noncomputable def a8:Fn:={ps:=1,ns:=1,io:=[],body:=[
  .ret [0] (.op .join Jt [.cst<|.str<|q " ",.op .add Jt [.lst Jt [.op .ix Jt [.var 0,.cst<|.int 0]],.comp Jt .seq [.op .sl1 Jt [.var 0,.cst<|.int 1]] [1] J<|.call 364 [.var 1]]])]}
noncomputable def bR:Fn:={ps:=1,ns:=2,io:=[],body:=[
  .asg (.q [0] []) 1 (.op .split Jt [.var 0,.cst<|.str<|q " "]),
  .asg (.q [1] []) 2 (.call 366 [.var 1,.cst<|.int 0]),
  .ite (.q [1,2] []) (.op .lt Jt [.op .ix Jt [.var 2,.cst (.int 1)],.op .len Jt [.var 1]]) [
   .stop] [],
  .ret [] (.op .ix Jt [.mv 2,.cst<|.int 0])]}
noncomputable def bV:Fn:={ps:=2,ns:=0,io:=[],body:=[
  .ret [] (.call 367 [.mv 0,.mv 1,.cst<|.int 5])]}
noncomputable def aC:Fn:={ps:=3,ns:=5,io:=[],body:=[
  .ite (.q [0,1] []) (.or (.op .ge Jt [.var 1,.op .len Jt [.var 0]]) (.inT Ju keys_WITHIN (.op .ix Jt [.var 0,.var 1]))) [
   .stop] [],
  .asg (.q [0,1] []) 3 (.ixT tab_WITHIN<|.op .ix Jt [.var 0,.var 1]),
  .ite (.q [2] [3]) (.and (.op .gt Jt [.var 3,.cst (.int 0)]) (.op .eq Jt [.var 2,.cst (.int 1)])) [
   .stop] [],
  .asg (.q [0,1] []) 4 (.lst Jt [.op .ix Jt [.var 0,.var 1]]),
  .asg (.q [1] []) 5 (.op .add Jt [.var 1,.cst<|.int 1]),
  .forS [] [3] .rng [.var 3] [6] [
   .asg (.q [0,2] [5]) 7 (.call 367 [.var 0,.var 5,.op .sub Jt [.var 2,.cst<|.int 1]]),
   .app (.q [7] []) 4 (.op .ix Jt [.var 7,.cst<|.int 0]),
   .asg (.q [7] []) 5 (.op .ix Jt [.var 7,.cst<|.int 1])],
  .ret [] (.tup [.op .tuple Jt [.mv 4],.mv 5])]}
noncomputable def bb:Fn:={ps:=1,ns:=0,io:=[],body:=[
  .ret [] (.ifx (.inT Jt keys_AHEAD<|.mv 0) (.cst<|.int 2)<|.cst<|.int 1)]}
noncomputable def dG:Fn:={ps:=1,ns:=0,io:=[],body:=[
  .ret [0] (.op .sl1 Jt [.var 0,.call 175 [.op .ix Jt [.var 0,.cst<|.int 0]]])]}
noncomputable def cX:Fn:={ps:=1,ns:=0,io:=[],body:=[
  .ret [] (.getT tab_BINDING<|.op .ix Jt [.mv 0,.cst<|.int 0])]}
noncomputable def f_kinds_of:Fn:={ps:=1,ns:=4,io:=[],body:=[
  .asg (.q [] []) 1 (.op .dnew Jt []),
  .forS [0] [] .sq2T [.op .ix Jt [.var 0,.cst (.int 0)]] [2,3] [
   .setS (.q [2,3] []) 1 (.var 2) (.var 3)],
  .asg (.q [] []) 4 (.lst Jt []),
  .exp (.l [0,1]) (.call 369 [.op .ix Jt [.var 0,.cst<|.int 1],.tup [],.var 1,.io 4]),
  .ret [] (.mv 4)]}
noncomputable def f_add_kinds:Fn:={ps:=4,ns:=5,io:=[3],body:=[
  .asg (.q [] []) 4 (.lst Jt []),
  .forS [0] [] .enmT [.call 176 [.var 0]] [5,6] [
   .asg (.q [2] []) 7 (.var 2),
   .ite (.q [0] [5]) (.op .eq Jt [.var 5,.call 233 [.var 0]]) [
    .asg (.l [0,1,2]) 7 (.call 370 [.var 0,.var 1,.var 2,.io 4])] [],
   .app (.l [1,6,7]) 4 (.call 369 [.var 6,.op .catT Jt [.var 1,.tup [.var 5]],.var 7,.io 3])],
  .asg (.q [0,2,4] []) 8 (.call 372 [.var 0,.var 2,.var 4]),
  .ite (.q [8] []) (.op .is Jt [.var 8,.cst (.non)]) [
   .stop] [],
  .app (.q [1,8] []) 3 (.tup [.var 1,.var 8]),
  .ret [] (.mv 8)]}
noncomputable def bB:Fn:={ps:=4,ns:=2,io:=[3],body:=[
  .asg (.l [0]) 4 (.call 371 [.op .ix Jt [.var 0,.cst<|.int 0],.io 3]),
  .ite (.q [4] []) (.op .is Jt [.var 4,.cst (.non)]) [
   .stop] [],
  .asg (.q [2] []) 5 (.op .dcpy Jt [.var 2]),
  .setS (.q [0,4] []) 5 (.op .ix Jt [.var 0,.cst<|.int 1]) (.var 4),
  .ret [] (.mv 5)]}
noncomputable def a9:Fn:={ps:=2,ns:=0,io:=[1],body:=[
  .ite (.q [0] []) (.op .eq Jt [.var 0,.cst (.str (q "let"))]) [
   .ret [] (.ixQ 1<|.cst<|.int 0)] [],
  .ite (.q [0] []) (.op .eq Jt [.var 0,.cst (.str (q "each"))]) [
   .ret [] (.ifx (.op .eq Jt [.op .ix Jt [.ixQ 1<|.cst<|.int 0,.cst<|.int 0],.cst<|.str<|q "row"]) (.op .ix Jt [.ixQ 1<|.cst<|.int 0,.cst<|.int 1])<|.cst<|.non)] [],
  .ret [] (.ifx (.op .eq Jt [.ixQ 1<|.cst<|.int 0,.tup [.cst<|.str<|q "num"]]) (.ixQ 1<|.cst<|.int 1)<|.cst<|.non)]}
noncomputable def aJ:Fn:={ps:=3,ns:=3,io:=[],body:=[
  .ite (.q [0] []) (.op .eq Jt [.op .ix Jt [.var 0,.cst (.int 0)],.cst (.str (q "name"))]) [
   .ret [] (.op .getD Jt [.mv 1,.op .ix Jt [.mv 0,.cst<|.int 1]])] [],
  .ite (.q [0] []) (.inT Jt keys_LEAVES (.op .ix Jt [.var 0,.cst (.int 0)])) [
   .ret [] (.ixT tab_LEAVES<|.op .ix Jt [.mv 0,.cst<|.int 0])] [],
  .ite (.q [0] []) (.op .eq Jt [.op .ix Jt [.var 0,.cst (.int 0)],.cst (.str (q "none"))]) [
   .ret [] (.call 374 [.cst<|.str<|q "row K",.op .dsp1 Jt [.cst<|.str<|q "K",.op .ix Jt [.mv 0,.cst<|.int 1]]])] [],
  .forS [0] [] .sq2T [.ixT tab_RULES (.op .ix Jt [.var 0,.cst (.int 0)])] [3,4] [
   .asg (.q [2,3] []) 5 (.call 373 [.var 3,.var 2]),
   .ite (.q [5] []) (.op .isnot Jt [.var 5,.cst (.non)]) [
    .ret [] (.call 374 [.mv 4,.mv 5])] []],
  .ret [] (.cst<|.non)]}
noncomputable def dh:Fn:={ps:=2,ns:=4,io:=[],body:=[
  .asg (.q [] []) 2 (.op .dnew Jt []),
  .asg (.q [1] []) 3 (.op .list Jt [.var 1]),
  .forS [0] [] .seq [.op .split Jt [.var 0,.cst (.str (q " "))]] [4] [
   .asg (.l []) 5 (.pop 3 [.cst<|.int 0]),
   .ite (.q [4] []) (.op .isin Jt [.var 4,.tup [.cst (.str (q "K")),.cst (.str (q "L"))]]) [
    .ite (.l [5]) (.op .ne Jt [.sdf 2 4 5,.var 5]) [
     .ret [] (.cst<|.non)] []] [
    .ite (.q [4,5] []) (.op .eq Jt [.var 4,.op .ix Jt [.var 5,.cst (.int 0)]]) [
     .asg (.q [3,5] []) 3 (.op .add Jt [.op .list Jt [.op .sl1 Jt [.var 5,.cst<|.int 1]],.var 3])] [
     .ret [] (.cst<|.non)]]],
  .ret [] (.mv 2)]}
noncomputable def cQ:Fn:={ps:=2,ns:=3,io:=[],body:=[
  .asg (.q [1] [0]) 2 (.comp Jt .seq [.op .split Jt [.var 0,.cst<|.str<|q " "]] [4] J<|.ifx (.op .inD Jt [.var 4,.var 1]) (.call 364 [.op .ixD Jt [.var 1,.var 4]])<|.var 4),
  .tri [
   .asg (.q [2] []) 3 (.call 365 [.op .join Jt [.cst<|.str<|q " ",.var 2]])],
  .ret [] (.mv 3)]}
noncomputable def bM:Fn:={ps:=1,ns:=0,io:=[0],body:=[
  .setK (.q [0] []) 0 (.cst<|.str<|q "at") (.op .add Jt [.op .ixD Jt [.var 0,.cst<|.str<|q "at"],.cst<|.int 1]),
  .ret [] (.qx [0] []<|.ifx (.op .le Jt [.op .ixD Jt [.var 0,.cst<|.str<|q "at"],.op .len Jt [.op .ixD Jt [.var 0,.cst<|.str<|q "script"]]]) (.op .ix Jt [.op .ixD Jt [.var 0,.cst<|.str<|q "script"],.op .sub Jt [.op .ixD Jt [.var 0,.cst<|.str<|q "at"],.cst<|.int 1]])<|.cst<|.int 0)]}
noncomputable def f_law_name:Fn:={ps:=3,ns:=6,io:=[0,1],body:=[
  .asg (.q [] []) 3 (.cst<|.str<|q "abcdefghijklmnopqrstuvwxyz"),
  .asg (.q [] []) 4 (.lst Jt [.cst<|.str<|q "v",.cst<|.str<|q "addx",.cst<|.str<|q "rowe",.cst<|.str<|q "numb",.cst<|.str<|q "q",.cst<|.str<|q "eachz"]),
  .asg (.l [4]) 5 (.comp Jt .seq [.var 4] [7] (Y<|.qx [1,7] []<|.op .notin Jt [.var 7,.comp Jt .seq [.var 1] [8] J<|.op .ix Jt [.var 8,.cst<|.int 0]])<|.var 7),
  .ite (.q [5] [2]) (.and (.op .gt Jt [.op .mod Jt [.var 2,.cst (.int 3)],.cst (.int 0)]) (.op .gt Jt [.op .len Jt [.var 5],.cst (.int 0)])) [
   .ret [5] (.op .ix Jt [.var 5,.op .mod Jt [.op .fdiv Jt [.mv 2,.cst<|.int 3],.op .len Jt [.var 5]]])] [],
  .asg (.q [0] []) 6 (.op .ixD Jt [.var 0,.cst<|.str<|q "names"]),
  .setK (.q [] [6]) 0 (.cst<|.str<|q "names") (.op .add Jt [.var 6,.cst<|.int 1]),
  .ret [] (.op .add Jt [.op .add Jt [.op .ix Jt [.mv 4,.op .mod Jt [.op .fdiv Jt [.mv 2,.cst<|.int 3],.cst<|.int 6]],.op .ix Jt [.var 3,.op .mod Jt [.var 6,.cst<|.int 26]]],.op .ix Jt [.var 3,.op .mod Jt [.op .fdiv Jt [.var 6,.cst<|.int 26],.cst<|.int 26]]])]}
noncomputable def aY:Fn:={ps:=2,ns:=1,io:=[],body:=[
  .asg (.q [] [0]) 2 (.op .mod Jt [.var 0,.cst<|.int 6]),
  .ite (.q [] [1,2]) (.or (.op .eq Jt [.var 1,.cst (.int 0)]) (.op .lt Jt [.var 2,.cst (.int 2)])) [
   .ret [] (.op .ix Jt [.lst Jt [.tup [.cst<|.str<|q "num"],.tup [.cst<|.str<|q "truth"]],.op .mod Jt [.mv 0,.cst<|.int 2]])] [],
  .ite (.q [] [2]) (.op .eq Jt [.var 2,.cst (.int 2)]) [
   .ret [] (.tup [.cst<|.str<|q "pair",.call 171 [.op .fdiv Jt [.var 0,.cst<|.int 6],.op .sub Jt [.var 1,.cst<|.int 1]],.call 171 [.op .fdiv Jt [.var 0,.cst<|.int 216],.op .sub Jt [.var 1,.cst<|.int 1]]])] [],
  .ret [] (.tup [.cst<|.str<|q "row",.call 171 [.op .fdiv Jt [.mv 0,.cst<|.int 6],.op .sub Jt [.mv 1,.cst<|.int 1]]])]}
noncomputable def a6:Fn:={ps:=1,ns:=1,io:=[],body:=[
  .ret [] (.op .add Jt [.cst<|.int 1,.op .max1 Jt [.op .add Jt [.lst Jt [.cst<|.int 0],.comp Jt .seq [.op .sl1 Jt [.mv 0,.cst<|.int 1]] [1] J<|.call 377 [.var 1]]]])]}
noncomputable def f_law_number:Fn:={ps:=1,ns:=1,io:=[],body:=[
  .asg (.q [] []) 1 (.lst Jt [.cst<|.int 0,.cst<|.int 1,.cst<|.int 2,.cst<|.int 3,.cst<|.int 1,.cst<|.int 2,.cst<|.int 5,.cst<|.int 4,.cst<|.int 3,.cst<|.int 2,.cst<|.int 7,.cst<|.int 1,.cst<|.int 60,.cst<|.int 61,.cst<|.int 200,.cst<|.int 201,.op .pow Jt [.cst<|.int 10,.cst<|.int 18],.op .sub Jt [.op .pow Jt [.cst<|.int 10,.cst<|.int 18],.cst<|.int 1]]),
  .asg (.q [1] []) 1 (.op .add Jt [.var 1,.lst Jt [.op .mul Jt [.cst<|.int 9,.op .pow Jt [.cst<|.int 10,.cst<|.int 17]],.op .pow Jt [.cst<|.int 10,.cst<|.int 9]]]),
  .ret [] (.op .ix Jt [.mv 1,.ifx (.op .gt Jt [.op .mod Jt [.op .fdiv Jt [.var 0,.cst<|.int 12],.cst<|.int 4],.cst<|.int 0]) (.op .mod Jt [.var 0,.cst<|.int 12])<|.op .mod Jt [.op .fdiv Jt [.var 0,.cst<|.int 48],.cst<|.int 20]])]}
noncomputable def f_law_leaf:Fn:={ps:=3,ns:=4,io:=[],body:=[
  .asg (.q [0,1] []) 3 (.comp Jt .sq2 [.var 1] [5,6] (Y<|.op .eq Jt [.var 6,.var 0])<|.var 5),
  .ite (.q [3] [2]) (.and (.op .gt Jt [.op .len Jt [.var 3],.cst (.int 0)]) (.op .gt Jt [.op .mod Jt [.var 2,.cst (.int 4)],.cst (.int 0)])) [
   .ret [3] (.tup [.cst<|.str<|q "name",.op .ix Jt [.var 3,.op .mod Jt [.op .fdiv Jt [.mv 2,.cst<|.int 4],.op .len Jt [.var 3]]]])] [],
  .ite (.q [0] []) (.op .eq Jt [.op .ix Jt [.var 0,.cst (.int 0)],.cst (.str (q "num"))]) [
   .ret [] (.tup [.cst<|.str<|q "num",.call 378 [.op .fdiv Jt [.mv 2,.cst<|.int 4]]])] [],
  .ite (.q [0] []) (.op .eq Jt [.op .ix Jt [.var 0,.cst (.int 0)],.cst (.str (q "truth"))]) [
   .ret [] (.tup [.op .ix Jt [.lst Jt [.cst<|.str<|q "yes",.cst<|.str<|q "no"],.op .mod Jt [.op .fdiv Jt [.mv 2,.cst<|.int 4],.cst<|.int 2]]])] [],
  .ite (.q [0] []) (.op .eq Jt [.op .ix Jt [.var 0,.cst (.int 0)],.cst (.str (q "pair"))]) [
   .asg (.q [0,1] [2]) 4 (.call 379 [.op .ix Jt [.var 0,.cst<|.int 1],.var 1,.op .fdiv Jt [.var 2,.cst<|.int 4]]),
   .ret [] (.tup [.cst<|.str<|q "pair",.mv 4,.call 379 [.op .ix Jt [.mv 0,.cst<|.int 2],.mv 1,.op .fdiv Jt [.mv 2,.cst<|.int 64]]])] [],
  .ite (.q [] [2]) (.op .eq Jt [.op .mod Jt [.op .fdiv Jt [.var 2,.cst (.int 4)],.cst (.int 2)],.cst (.int 0)]) [
   .ret [] (.tup [.cst<|.str<|q "none",.op .ix Jt [.mv 0,.cst<|.int 1]])] [],
  .ret [] (.tup [.cst<|.str<|q "one",.call 379 [.op .ix Jt [.mv 0,.cst<|.int 1],.mv 1,.op .fdiv Jt [.mv 2,.cst<|.int 8]]])]}
noncomputable def f_law_signs:Fn:={ps:=2,ns:=4,io:=[],body:=[
  .asg (.q [] []) 2 (.tup [.cst<|.str<|q "num"]),
  .asg (.q [2] []) 3 (.tup [.cst<|.str<|q "row",.var 2]),
  .asg (.q [] []) 4 (.lst Jt []),
  .ite (.q [0] []) (.op .lt Jt [.call 377 [.var 0],.cst (.int 5)]) [
   .asg (.q [0,1,2] []) 4 (.lst Jt [.tup [.cst<|.str<|q "pick",.lst Jt [.tup [.cst<|.str<|q "row",.var 0],.var 2]],.tup [.cst<|.str<|q "first",.lst Jt [.tup [.cst<|.str<|q "pair",.var 0,.var 1]]]]),
   .app (.q [0,1] []) 4 (.tup [.cst<|.str<|q "second",.lst Jt [.tup [.cst<|.str<|q "pair",.var 1,.var 0]]])] [],
  .ite (.q [0,2] []) (.op .eq Jt [.var 0,.var 2]) [
   .asg (.q [2,4] []) 4 (.op .add Jt [.var 4,.comp Jt .seq [.lst Jt [.cst<|.str<|q "add",.cst<|.str<|q "sub",.cst<|.str<|q "mul",.cst<|.str<|q "div",.cst<|.str<|q "rest",.cst<|.str<|q "add"]] [5] J<|.tup [.var 5,.lst Jt [.var 2,.var 2]]]),
   .asg (.q [1,3,4] []) 4 (.op .add Jt [.var 4,.lst Jt [.tup [.cst<|.str<|q "sum",.lst Jt [.var 3]],.tup [.cst<|.str<|q "most",.lst Jt [.var 3]],.tup [.cst<|.str<|q "long",.lst Jt [.tup [.cst<|.str<|q "row",.var 1]]]]])] [],
  .ite (.q [0] []) (.op .eq Jt [.var 0,.tup [.cst (.str (q "truth"))]]) [
   .asg (.q [0,4] []) 4 (.op .add Jt [.var 4,.lst Jt [.tup [.cst<|.str<|q "not",.lst Jt [.var 0]],.tup [.cst<|.str<|q "both",.lst Jt [.var 0,.var 0]],.tup [.cst<|.str<|q "same",.lst Jt [.var 0,.var 0]]]]),
   .asg (.q [2,4] []) 4 (.op .add Jt [.var 4,.lst Jt [.tup [.cst<|.str<|q "same",.lst Jt [.var 2,.var 2]],.tup [.cst<|.str<|q "less",.lst Jt [.var 2,.var 2]]]])] [],
  .ite (.q [0] []) (.op .eq Jt [.op .ix Jt [.var 0,.cst (.int 0)],.cst (.str (q "pair"))]) [
   .asg (.q [0,4] []) 4 (.op .add Jt [.var 4,.op .mul Jt [.lst Jt [.tup [.cst<|.str<|q "pair",.op .list Jt [.op .sl1 Jt [.var 0,.cst<|.int 1]]]],.cst<|.int 3]])] [],
  .ite (.q [0] []) (.op .eq Jt [.op .ix Jt [.var 0,.cst (.int 0)],.cst (.str (q "row"))]) [
   .asg (.q [0,4] []) 4 (.op .add Jt [.var 4,.lst Jt [.tup [.cst<|.str<|q "one",.lst Jt [.op .ix Jt [.var 0,.cst<|.int 1]]],.tup [.cst<|.str<|q "join",.lst Jt [.var 0,.var 0]],.tup [.cst<|.str<|q "keep",.lst Jt [.var 0,.tup [.cst<|.str<|q "row",.tup [.cst<|.str<|q "truth"]]]]]])] [],
  .ite (.q [0] []) (.and (.op .eq Jt [.op .ix Jt [.var 0,.cst (.int 0)],.cst (.str (q "row"))]) (.op .lt Jt [.call 377 [.var 0],.cst (.int 5)])) [
   .app (.q [0] []) 4 (.tup [.cst<|.str<|q "flat",.lst Jt [.tup [.cst<|.str<|q "row",.var 0]]])] [],
  .ite (.q [0,3] []) (.op .eq Jt [.var 0,.var 3]) [
   .asg (.q [2,3,4] []) 4 (.op .add Jt [.var 4,.lst Jt [.tup [.cst<|.str<|q "sums",.lst Jt [.var 3]],.tup [.cst<|.str<|q "upto",.lst Jt [.var 2]],.tup [.cst<|.str<|q "upto",.lst Jt [.var 2]]]])] [],
  .ite (.q [0] []) (.and (.op .eq Jt [.op .ix Jt [.var 0,.cst (.int 0)],.cst (.str (q "row"))]) (.op .eq Jt [.op .ix Jt [.op .ix Jt [.var 0,.cst (.int 1)],.cst (.int 0)],.cst (.str (q "row"))])) [
   .asg (.q [0,3,4] []) 4 (.op .add Jt [.var 4,.lst Jt [.tup [.cst<|.str<|q "cut",.lst Jt [.op .ix Jt [.var 0,.cst<|.int 1],.var 3]],.tup [.cst<|.str<|q "cut",.lst Jt [.op .ix Jt [.var 0,.cst<|.int 1],.var 3]]]])] [],
  .ret [] (.mv 4)]}
noncomputable def f_law_binder:Fn:={ps:=6,ns:=4,io:=[0],body:=[
  .asg (.l []) 6 (.call 376 [.io 0,.io 2,.op .fdiv Jt [.var 4,.cst<|.int 7]]),
  .ite (.q [] [4]) (.op .eq Jt [.op .mod Jt [.var 4,.cst (.int 7)],.cst (.int 1)]) [
   .asg (.l [2]) 7 (.call 382 [.io 0,.tup [.cst<|.str<|q "truth"],.var 2,.var 3]),
   .asg (.l [1,2]) 8 (.call 382 [.io 0,.var 1,.var 2,.var 3]),
   .ret [] (.tup [.cst<|.str<|q "if",.mv 7,.mv 8,.call 382 [.io 0,.mv 1,.mv 2,.mv 3]])] [],
  .ite (.q [] [4]) (.op .eq Jt [.op .mod Jt [.var 4,.cst (.int 7)],.cst (.int 0)]) [
   .asg (.l [2,5]) 8 (.call 382 [.io 0,.var 5,.var 2,.var 3]),
   .ret [6] (.tup [.cst<|.str<|q "let",.var 6,.mv 8,.call 382 [.io 0,.mv 1,.op .add Jt [.mv 2,.lst Jt [.tup [.var 6,.mv 5]]],.mv 3]])] [],
  .ite (.q [1] [4]) (.and (.op .eq Jt [.op .ix Jt [.var 1,.cst (.int 0)],.cst (.str (q "row"))]) (.op .gt Jt [.op .mod Jt [.op .fdiv Jt [.var 4,.cst (.int 7)],.cst (.int 4)],.cst (.int 0)])) [
   .asg (.l [2,5]) 8 (.call 382 [.io 0,.tup [.cst<|.str<|q "row",.var 5],.var 2,.var 3]),
   .ret [6] (.tup [.cst<|.str<|q "each",.var 6,.mv 8,.call 382 [.io 0,.op .ix Jt [.mv 1,.cst<|.int 1],.op .add Jt [.mv 2,.lst Jt [.tup [.var 6,.mv 5]]],.mv 3]])] [],
  .asg (.q [] [4]) 9 (.tup [.cst<|.str<|q "num",.op .mod Jt [.op .fdiv Jt [.var 4,.cst<|.int 28],.cst<|.int 4]]),
  .ite (.q [] [4]) (.op .eq Jt [.op .mod Jt [.op .fdiv Jt [.var 4,.cst (.int 112)],.cst (.int 4)],.cst (.int 0)]) [
   .asg (.l [2]) 9 (.call 382 [.io 0,.tup [.cst<|.str<|q "num"],.var 2,.op .min Jt [.cst<|.int 1,.var 3]])] [],
  .asg (.l [1,2]) 8 (.call 382 [.io 0,.var 1,.var 2,.var 3]),
  .ret [1,6] (.tup [.cst<|.str<|q "times",.var 6,.mv 9,.mv 8,.call 382 [.io 0,.var 1,.op .add Jt [.mv 2,.lst Jt [.tup [.var 6,.var 1]]],.mv 3]])]}
noncomputable def f_law_tree:Fn:={ps:=4,ns:=8,io:=[0],body:=[
  .asg (.l []) 4 (.call 375 [.io 0]),
  .ite (.q [0] [3,4]) (.or (.op .eq Jt [.var 3,.cst (.int 0)]) (.or (.op .eq Jt [.op .mod Jt [.var 4,.cst (.int 9)],.cst (.int 0)]) (.op .gt Jt [.op .ixD Jt [.var 0,.cst (.str (q "at"))],.cst (.int 60)]))) [
   .ret [] (.call 379 [.mv 1,.mv 2,.op .fdiv Jt [.mv 4,.cst<|.int 9]])] [],
  .asg (.q [] [4]) 5 (.op .fdiv Jt [.var 4,.cst<|.int 9]),
  .asg (.q [] [5]) 6 (.call 171 [.op .mod Jt [.op .fdiv Jt [.var 5,.cst<|.int 7],.cst<|.int 216],.cst<|.int 1]),
  .ite (.q [1] [5]) (.or (.op .lt Jt [.op .mod Jt [.var 5,.cst (.int 7)],.cst (.int 2)]) (.or (.and (.op .lt Jt [.op .mod Jt [.var 5,.cst (.int 7)],.cst (.int 4)]) (.op .eq Jt [.op .ix Jt [.var 1,.cst (.int 0)],.cst (.str (q "row"))])) (.and (.op .eq Jt [.op .mod Jt [.var 5,.cst (.int 7)],.cst (.int 2)]) (.op .eq Jt [.op .mod Jt [.op .fdiv Jt [.var 5,.cst (.int 7)],.cst (.int 2)],.cst (.int 0)])))) [
   .ret [] (.call 381 [.io 0,.mv 1,.mv 2,.op .sub Jt [.mv 3,.cst<|.int 1],.mv 5,.mv 6])] [],
  .asg (.q [1,6] []) 7 (.call 380 [.var 1,.var 6]),
  .asgT (.l [7]) [8,9] (.op .ix Jt [.var 7,.op .mod Jt [.op .fdiv Jt [.var 5,.cst<|.int 7],.lenV 7]]),
  .ite (.q [8] [5]) (.and (.op .eq Jt [.var 8,.cst (.str (q "upto"))]) (.op .gt Jt [.op .mod Jt [.op .fdiv Jt [.var 5,.cst (.int 7)],.cst (.int 3)],.cst (.int 0)])) [
   .ret [] (.tup [.mv 8,.tup [.cst<|.str<|q "num",.call 378 [.op .fdiv Jt [.mv 5,.cst<|.int 21]]]])] [],
  .asg (.q [8] []) 10 (.tup [.var 8]),
  .forS [9] [] .seq [.var 9] [11] [
   .asg (.l [2,10,11]) 10 (.op .catT Jt [.var 10,.tup [.call 382 [.io 0,.var 11,.var 2,.op .sub Jt [.var 3,.cst<|.int 1]]]])],
  .ret [] (.mv 10)]}
noncomputable def bA:Fn:={ps:=1,ns:=0,io:=[],body:=[
  .ite (.q [0] []) (.op .isin Jt [.op .ix Jt [.var 0,.cst (.int 0)],.tup [.cst (.str (q "num")),.cst (.str (q "name")),.cst (.str (q "none"))]]) [
   .ret [] (.op .len Jt [.mv 0])] [],
  .ret [] (.op .add Jt [.cst<|.int 1,.op .int Jt [.op .isin Jt [.op .ix Jt [.mv 0,.cst<|.int 0],.tup [.cst<|.str<|q "let",.cst<|.str<|q "each",.cst<|.str<|q "times"]]]])]}
noncomputable def cj:Fn:={ps:=1,ns:=1,io:=[],body:=[
  .ret [0] (.op .add Jt [.cst<|.int 1,.op .sum Jt [.comp Jt .seq [.op .sl1 Jt [.var 0,.call 244 [.var 0]]] [1] J<|.call 245 [.var 1]]])]}
noncomputable def aV:Fn:={ps:=3,ns:=2,io:=[0],body:=[
  .asg (.l []) 3 (.call 375 [.io 0]),
  .ite (.q [1] []) (.op .eq Jt [.op .ix Jt [.var 1,.cst (.int 0)],.cst (.str (q "num"))]) [
   .ret [] (.op .mul Jt [.call 378 [.op .fdiv Jt [.var 3,.cst<|.int 2]],.op .ix Jt [.lst Jt [.cst<|.int 1,.op .neg Jt [.cst<|.int 1]],.op .mod Jt [.var 3,.cst<|.int 2]]])] [],
  .ite (.q [1] []) (.op .eq Jt [.op .ix Jt [.var 1,.cst (.int 0)],.cst (.str (q "truth"))]) [
   .ret [] (.op .eq Jt [.op .mod Jt [.mv 3,.cst<|.int 2],.cst<|.int 1])] [],
  .ite (.q [1] []) (.op .eq Jt [.op .ix Jt [.var 1,.cst (.int 0)],.cst (.str (q "pair"))]) [
   .ret [1] (.tup [.call 383 [.io 0,.op .ix Jt [.var 1,.cst<|.int 1],.var 2],.call 383 [.io 0,.op .ix Jt [.var 1,.cst<|.int 2],.var 2]])] [],
  .ret [1] (.comp Jt .rng [.op .mod Jt [.mv 3,.op .ix Jt [.lst Jt [.cst<|.int 1,.cst<|.int 3,.cst<|.int 5],.op .max Jt [.cst<|.int 0,.op .min Jt [.cst<|.int 2,.var 2]]]]] [4] J<|.call 383 [.io 0,.op .ix Jt [.var 1,.cst<|.int 1],.op .sub Jt [.var 2,.cst<|.int 1]])]}
noncomputable def f_law_program:Fn:={ps:=2,ns:=8,io:=[0],body:=[
  .asg (.l []) 2 (.call 375 [.io 0]),
  .asg (.q [] []) 3 (.lst Jt []),
  .forS [] [2] .rng [.ifx (.op .gt Jt [.op .mod Jt [.op .fdiv Jt [.var 2,.cst (.int 4)],.cst (.int 4)],.cst (.int 0)]) (.op .mod Jt [.var 2,.cst (.int 4)]) (.op .mod Jt [.op .fdiv Jt [.var 2,.cst (.int 16)],.cst (.int 7)])] [4] [
   .asg (.q [] [2,4]) 5 (.call 171 [.op .mod Jt [.op .fdiv Jt [.var 2,.op .add Jt [.cst<|.int 4,.op .mul Jt [.cst<|.int 9,.var 4]]],.cst<|.int 46656],.cst<|.int 3]),
   .app (.l [5]) 3 (.tup [.call 376 [.io 0,.io 3,.op .add Jt [.op .fdiv Jt [.var 2,.cst<|.int 7],.var 4]],.var 5])],
  .asg (.q [] [2]) 5 (.call 171 [.op .fdiv Jt [.var 2,.cst<|.int 864],.cst<|.int 3]),
  .asg (.l [3]) 6 (.comp Jt .sq2 [.var 3] [8,9] J<|.call 383 [.io 0,.var 9,.cst<|.int 2]),
  .asg (.l [1,3,5]) 7 (.call 382 [.io 0,.var 5,.var 3,.var 1]),
  .ite (.q [7] []) (.op .gt Jt [.call 245 [.var 7],.cst (.int 200)]) [
   .asg (.q [3,5] [2]) 7 (.call 379 [.var 5,.var 3,.var 2])] [],
  .ret [] (.tup [.tup [.op .tuple Jt [.mv 3],.mv 7],.mv 6,.mv 5])]}
noncomputable def f_law_kind_by:Fn:={ps:=2,ns:=4,io:=[],body:=[
  .asg (.q [] []) 2 (.tup [.cst<|.str<|q "num"]),
  .asg (.q [] []) 3 (.tup [.cst<|.str<|q "truth"]),
  .asg (.q [0] []) 4 (.op .ix Jt [.var 0,.cst<|.int 0]),
  .ite (.q [4] []) (.op .isin Jt [.var 4,.tup [.cst (.str (q "add")),.cst (.str (q "sub")),.cst (.str (q "mul")),.cst (.str (q "div")),.cst (.str (q "rest"))]]) [
   .ret [2] (.ifx (.op .eq Jt [.mv 1,.lst Jt [.var 2,.var 2]]) (.var 2)<|.cst<|.non)] [],
  .ite (.q [4] []) (.op .isin Jt [.var 4,.tup [.cst (.str (q "yes")),.cst (.str (q "no")),.cst (.str (q "less")),.cst (.str (q "both")),.cst (.str (q "not"))]]) [
   .asg (.q [2,3,4] []) 5 (.op .getE Jt [.wk .s<|.op (.dspN [q "less",q "both",q "not"]) Jt [.lst Jt [.var 2,.var 2],.lst Jt [.var 3,.var 3],.lst Jt [.var 3]],.var 4,.wk .s<|.lst Jt []]),
   .ret [] (.ifx (.op .eq Jt [.mv 1,.mv 5]) (.mv 3)<|.cst<|.non)] [],
  .ite (.q [4] []) (.op .eq Jt [.var 4,.cst (.str (q "same"))]) [
   .ret [2,3] (.ifx (.op .inLT Jt [.mv 1,.tup [.lst Jt [.var 2,.var 2],.lst Jt [.var 3,.var 3]]]) (.var 3)<|.cst<|.non)] [],
  .ite (.q [4] []) (.op .isin Jt [.var 4,.tup [.cst (.str (q "num")),.cst (.str (q "none"))]]) [
   .ret [] (.ifx (.op .eq Jt [.mv 4,.cst<|.str<|q "num"]) (.mv 2)<|.tup [.cst<|.str<|q "row",.op .ix Jt [.mv 0,.cst<|.int 1]])] [],
  .ite (.q [4] []) (.op .isin Jt [.var 4,.tup [.cst (.str (q "one")),.cst (.str (q "pair"))]]) [
   .ret [1] (.ifx (.op .eq Jt [.mv 4,.cst<|.str<|q "one"]) (.tup [.cst<|.str<|q "row",.op .ix Jt [.var 1,.cst<|.int 0]])<|.tup [.cst<|.str<|q "pair",.op .ix Jt [.var 1,.cst<|.int 0],.op .ix Jt [.var 1,.cst<|.int 1]])] [],
  .ite (.q [4] []) (.op .isin Jt [.var 4,.tup [.cst (.str (q "first")),.cst (.str (q "second"))]]) [
   .ret [1] (.ifx (.op .eq Jt [.op .ix Jt [.op .ix Jt [.var 1,.cst<|.int 0],.cst<|.int 0],.cst<|.str<|q "pair"]) (.op .ix Jt [.op .ix Jt [.var 1,.cst<|.int 0],.op .add Jt [.cst<|.int 1,.op .int Jt [.op .eq Jt [.mv 4,.cst<|.str<|q "second"]]]])<|.cst<|.non)] [],
  .ite (.q [4] []) (.op .eq Jt [.var 4,.cst (.str (q "if"))]) [
   .ret [1] (.ifx (.and (.op .eq Jt [.op .ix Jt [.var 1,.cst<|.int 0],.mv 3])<|.op .eq Jt [.op .ix Jt [.var 1,.cst<|.int 1],.op .ix Jt [.var 1,.cst<|.int 2]]) (.op .ix Jt [.var 1,.cst<|.int 1])<|.cst<|.non)] [],
  .ite (.q [4] []) (.op .eq Jt [.var 4,.cst (.str (q "upto"))]) [
   .ret [2] (.ifx (.op .eq Jt [.op .ix Jt [.mv 1,.cst<|.int 0],.var 2]) (.tup [.cst<|.str<|q "row",.var 2])<|.cst<|.non)] [],
  .ite (.q [1] []) (.op .ne Jt [.op .ix Jt [.op .ix Jt [.var 1,.cst (.int 0)],.cst (.int 0)],.cst (.str (q "row"))]) [
   .ret [] (.cst<|.non)] [],
  .ite (.q [4] []) (.op .eq Jt [.var 4,.cst (.str (q "flat"))]) [
   .ret [1] (.ifx (.op .eq Jt [.op .ix Jt [.op .ix Jt [.op .ix Jt [.var 1,.cst<|.int 0],.cst<|.int 1],.cst<|.int 0],.cst<|.str<|q "row"]) (.op .ix Jt [.op .ix Jt [.var 1,.cst<|.int 0],.cst<|.int 1])<|.cst<|.non)] [],
  .ite (.q [4] []) (.op .isin Jt [.var 4,.tup [.cst (.str (q "sum")),.cst (.str (q "most")),.cst (.str (q "sums"))]]) [
   .ret [1,2] (.ifx (.op .ne Jt [.op .ix Jt [.op .ix Jt [.var 1,.cst<|.int 0],.cst<|.int 1],.var 2]) (.cst<|.non)<|.ifx (.op .eq Jt [.mv 4,.cst<|.str<|q "sums"]) (.op .ix Jt [.var 1,.cst<|.int 0])<|.var 2)] [],
  .ite (.q [4] []) (.op .eq Jt [.var 4,.cst (.str (q "long"))]) [
   .ret [] (.mv 2)] [],
  .ite (.q [4] []) (.op .eq Jt [.var 4,.cst (.str (q "join"))]) [
   .ret [1] (.ifx (.op .eq Jt [.op .ix Jt [.var 1,.cst<|.int 0],.op .ix Jt [.var 1,.cst<|.int 1]]) (.op .ix Jt [.var 1,.cst<|.int 0])<|.cst<|.non)] [],
  .ite (.q [4] []) (.op .eq Jt [.var 4,.cst (.str (q "keep"))]) [
   .ret [1] (.ifx (.op .eq Jt [.op .ix Jt [.var 1,.cst<|.int 1],.tup [.cst<|.str<|q "row",.mv 3]]) (.op .ix Jt [.var 1,.cst<|.int 0])<|.cst<|.non)] [],
  .ite (.q [4] []) (.op .eq Jt [.var 4,.cst (.str (q "cut"))]) [
   .ret [1] (.ifx (.op .eq Jt [.op .ix Jt [.var 1,.cst<|.int 1],.tup [.cst<|.str<|q "row",.mv 2]]) (.tup [.cst<|.str<|q "row",.op .ix Jt [.var 1,.cst<|.int 0]])<|.cst<|.non)] [],
  .ret [1] (.ifx (.op .eq Jt [.op .ix Jt [.var 1,.cst<|.int 1],.mv 2]) (.op .ix Jt [.op .ix Jt [.var 1,.cst<|.int 0],.cst<|.int 1])<|.cst<|.non)]}
noncomputable def bS:Fn:={ps:=3,ns:=0,io:=[2],body:=[
  .ite (.q [1] []) (.or (.op .is Jt [.var 1,.cst (.non)]) (.op .gt Jt [.call 377 [.var 1],.cst (.int 5)])) [
   .app (.q [0] []) 2 (.tup [.var 0,.cst<|.non]),
   .ret [] (.cst<|.non)] [],
  .app (.q [0,1] []) 2 (.tup [.var 0,.var 1]),
  .ret [] (.mv 1)]}
noncomputable def f_law_kinds:Fn:={ps:=4,ns:=6,io:=[3],body:=[
  .ite (.q [0] []) (.op .eq Jt [.op .ix Jt [.var 0,.cst (.int 0)],.cst (.str (q "name"))]) [
   .ret [] (.call 386 [.mv 2,.op .getD Jt [.mv 1,.op .ix Jt [.mv 0,.cst<|.int 1]],.io 3])] [],
  .asg (.q [0] []) 4 (.op .add Jt [.cst<|.int 1,.op .int Jt [.op .isin Jt [.op .ix Jt [.var 0,.cst<|.int 0],.tup [.cst<|.str<|q "let",.cst<|.str<|q "each",.cst<|.str<|q "times"]]]]),
  .asg (.q [] []) 5 (.lst Jt []),
  .forS [0] [4] .rng [.var 4,.ifx (.op .notin Jt [.op .ix Jt [.var 0,.cst (.int 0)],.tup [.cst (.str (q "num")),.cst (.str (q "none"))]]) (.op .len Jt [.var 0]) (.var 4)] [6] [
   .asg (.q [1] []) 7 (.op .dcpy Jt [.var 1]),
   .ite (.q [0] [4,6]) (.and (.op .eq Jt [.var 4,.cst (.int 2)]) (.op .eq Jt [.var 6,.op .sub Jt [.op .len Jt [.var 0],.cst (.int 1)]])) [
    .asg (.l []) 8 (.ixQ 5<|.op .neg Jt [.cst<|.int 1]),
    .ite (.q [0,5,8] []) (.or (.and (.op .eq Jt [.op .ix Jt [.var 0,.cst (.int 0)],.cst (.str (q "each"))]) (.op .ne Jt [.op .ix Jt [.var 8,.cst (.int 0)],.cst (.str (q "row"))])) (.and (.op .eq Jt [.op .ix Jt [.var 0,.cst (.int 0)],.cst (.str (q "times"))]) (.op .ne Jt [.op .ix Jt [.var 5,.cst (.int 0)],.tup [.cst (.str (q "num"))]]))) [
     .ret [] (.call 386 [.mv 2,.cst<|.non,.io 3])] [],
    .setS (.q [0,8] []) 7 (.op .ix Jt [.var 0,.cst<|.int 1]) (.ifx (.op .eq Jt [.op .ix Jt [.var 0,.cst<|.int 0],.cst<|.str<|q "each"]) (.op .ix Jt [.var 8,.cst<|.int 1])<|.var 8)] [],
   .asg (.l [0,2,7]) 9 (.call 387 [.op .ix Jt [.var 0,.var 6],.var 7,.op .catT Jt [.var 2,.tup [.op .sub Jt [.var 6,.var 4]]],.io 3]),
   .ite (.q [9] []) (.op .is Jt [.var 9,.cst (.non)]) [
    .ret [] (.cst<|.non)] [],
   .app (.q [9] []) 5 (.var 9)],
  .ite (.q [0] []) (.op .eq Jt [.op .ix Jt [.var 0,.cst (.int 0)],.cst (.str (q "let"))]) [
   .ret [] (.call 386 [.mv 2,.op .ix Jt [.mv 5,.cst<|.int 1],.io 3])] [],
  .ite (.q [0] []) (.op .eq Jt [.op .ix Jt [.var 0,.cst (.int 0)],.cst (.str (q "each"))]) [
   .ret [] (.call 386 [.mv 2,.tup [.cst<|.str<|q "row",.op .ix Jt [.mv 5,.cst<|.int 1]],.io 3])] [],
  .ite (.q [0] []) (.op .eq Jt [.op .ix Jt [.var 0,.cst (.int 0)],.cst (.str (q "times"))]) [
   .ret [5] (.call 386 [.mv 2,.ifx (.op .eq Jt [.op .ix Jt [.var 5,.cst<|.int 1],.op .ix Jt [.var 5,.cst<|.int 2]]) (.op .ix Jt [.var 5,.cst<|.int 1])<|.cst<|.non,.io 3])] [],
  .ret [] (.call 386 [.mv 2,.call 385 [.mv 0,.mv 5],.io 3])]}
noncomputable def f_law:Fn:={ps:=1,ns:=8,io:=[],body:=[
  .asgT (.q [0] []) [1,2,3] (.call 384 [.op (.dspN [q "script",q "at",q "names"]) Jt [.var 0,.cst<|.int 0,.cst<|.int 0],.cst<|.int 6]),
  .asg (.q [] []) 4 (.lst Jt []),
  .asg (.q [] []) 5 (.op .dnew Jt []),
  .forS [1] [] .sq2T [.op .ix Jt [.var 1,.cst (.int 0)]] [6,7] [
   .setS (.q [6,7] []) 5 (.var 6) (.var 7)],
  .ite (.l [1,3,5]) (.op .ne Jt [.call 387 [.op .ix Jt [.var 1,.cst (.int 1)],.var 5,.tup [],.io 4],.var 3]) [
   .ret [] (.cst<|.bl Jt)] [],
  .asg (.q [1] []) 8 (.call 368 [.var 1]),
  .ite (.q [3,4,8] []) (.or (.not (.op (.isI ["list"]) Jt [.var 8])) (.or (.op .ne Jt [.var 8,.var 4]) (.op .ne Jt [.op .ix Jt [.var 8,.op .neg Jt [.cst (.int 1)]],.tup [.tup [],.var 3]]))) [
   .ret [] (.cst<|.bl Jt)] [],
  .app (.q [] []) 8 (.tup [.tup [.cst<|.int 0],.tup [.cst<|.str<|q "num"]]),
  .ret [] (.op .eq Jt [.call 368 [.mv 1],.mv 4])]}
noncomputable def prog:U Fn:=[f_law,zf,zf,zf,zf,zf,zf,zf,zf,zf,zf,zf,zf,zf,zf,zf,zf,zf,zf,zf,zf,zf,zf,zf,zf,zf,zf,zf,zf,zf,zf,zf,zf,zf,zf,zf,zf,zf,zf,zf,zf,zf,zf,zf,zf,zf,zf,zf,zf,zf,zf,zf,zf,zf,zf,zf,zf,zf,zf,zf,zf,zf,zf,zf,zf,zf,zf,zf,zf,zf,zf,zf,zf,zf,zf,zf,zf,zf,zf,zf,zf,zf,zf,zf,zf,zf,zf,zf,zf,zf,zf,zf,zf,zf,zf,zf,zf,zf,zf,zf,zf,zf,zf,zf,zf,zf,zf,zf,zf,zf,zf,zf,zf,zf,zf,zf,zf,zf,zf,zf,zf,zf,zf,zf,zf,zf,zf,zf,zf,zf,zf,zf,zf,zf,zf,zf,zf,zf,zf,zf,zf,zf,zf,zf,zf,zf,zf,zf,zf,zf,zf,zf,zf,zf,zf,zf,zf,zf,zf,zf,zf,zf,zf,zf,zf,zf,zf,zf,zf,zf,zf,aY,zf,zf,zf,bb,dG,zf,zf,zf,zf,zf,zf,zf,zf,zf,zf,zf,zf,zf,zf,zf,zf,zf,zf,zf,zf,zf,zf,zf,zf,zf,zf,zf,zf,zf,zf,zf,zf,zf,zf,zf,zf,zf,zf,zf,zf,zf,zf,zf,zf,zf,zf,zf,zf,zf,zf,zf,zf,zf,zf,zf,zf,cX,zf,zf,zf,zf,zf,zf,zf,zf,zf,zf,bA,cj,zf,zf,zf,zf,zf,zf,zf,zf,zf,zf,zf,zf,zf,zf,zf,zf,zf,zf,zf,zf,zf,zf,zf,zf,zf,zf,zf,zf,zf,zf,zf,zf,zf,zf,zf,zf,zf,zf,zf,zf,zf,zf,zf,zf,zf,zf,zf,zf,zf,zf,zf,zf,zf,zf,zf,zf,zf,zf,zf,zf,zf,zf,zf,zf,zf,zf,zf,zf,zf,zf,zf,zf,zf,zf,zf,zf,zf,zf,zf,zf,zf,zf,zf,zf,zf,zf,zf,zf,zf,zf,zf,zf,zf,zf,zf,zf,zf,zf,zf,zf,zf,zf,zf,zf,zf,zf,zf,zf,zf,zf,zf,zf,zf,zf,zf,zf,zf,zf,a8,bR,bV,aC,f_kinds_of,f_add_kinds,bB,a9,aJ,dh,cQ,bM,f_law_name,a6,f_law_number,f_law_leaf,f_law_signs,f_law_binder,f_law_tree,aV,f_law_program,f_law_kind_by,bS,f_law_kinds]
end A14

set_option compiler.extract_closed false
namespace P14
section
open M A14
open PySem (Str)
local macro_rules
 | `(tactic| simp_all only [$ls,*])=>`(tactic| simp only [Ag,CS,Bb,CF,Ef,Dv,AV,DT,wR,wJ,yQ,xO,xl,xq,xN,wm,yF,wG,wt,xD,wj,xY,xa,xG,zp,yS,wu,wW,q0,gW,wy,vR,y8,xb,vd,sr,kWk,kOp,ud,kOr,rN,kC3,kC2,kC1,oq,kA,fI,dr,ir,lx,er,k9,pq,nP,a0,kX,kT,kT2,kIf,wC,kM,rV,D8,zF,HD,oU,kNx,kRt,oh,uO,ti,okW,zU,EB,gj,trees,aB,ios,putAll,BY,IY,Bu,AE,BJ,xJ,wz,xK,Dm,Bm,CL,CQ,As,DZ,BK,Gz,Eh,G9,F7,GN,EE,wV,xB,v9,yu,Hv,BU,rH,rE,qH,vK,Eb,zh,yh,tZ,uz,EF,GF,G7,F4,qA,sX,sL,Cb,D4,D9,AQ,Dp,Cz,Aw,Ba,wg,xy,yA,CU,rh,um,uL,Ff,uD,tU,zD,FQ,Ac,Bi,BD,Cs,Ar,DM,Jn,Ie,IE,Jj,E7,Ei,CJ,Br,DC,E8,CG,FH,y9,CY,GS,Gx,yk,yO,EX,A9,B6,Dh,AA,lW,vL,rD,GQ,qR,uP,x9,yw,yf,vW,AU,A6,BL,sv,ez,pN,qb,oK,AS,Dy,BP,AI,Cj,DO,CZ,Cv,Gi,sE,ug,D7,DB,at0,at1,at2,at3,at4,MS,Kw,JR,JQ,J0,K7,List.replicate_zero,reduceIte,if_true,if_false,String.reduceBEq,Bool.not_true,Bool.not_false,Bool.false_eq_true,Bool.and_self,Mi,Bool.and_true,xt,kIo,CP,DY,pP,uJ,qi,pU,pG,qY,vF,pW,rf,pI,qc,my,mH,qw,CC,mC,mB,r8,qp,pD,lY,q8,oR,qy,lP,okS,Ea,HR,Ho,Bf,AW,Gv,Ey,CV,yJ,xu,uf,xi,D2,BR,Ae,lI,nL,mh,Du,CA,BZ,AR,xj,km,HI,Bx,Aj,zo,zj,vq,tI,pZ,qr,BH,wD,ph,Ii,vO,Fb,Dc,ED,Gh,Eo,Jk,FG,EN,E9,GH,GL,En,Ia,Fu,Gq,Fv,tV,Et,Hc,Fo,EG,Jm,FF,F6,FZ,EI,Hu,FR,Fm,GP,H8,Jh,Jg,DG,Ds,BC,El,Ay,C1,DL,Hk,AJ,Bw,kPopN0,l0,ox,lD,D3,Au,Dz,H9,qo,oP,pE,kSdf,qv,kIxQ,C7,$ls,*])
abbrev C (n:O):Call:=callR prog 1000000 1000001 n
theorem Bg (n:O)(a:U W):C (n+1) 0 a=runF (C n) f_law a:=rfl
theorem cF (n:O)(a:U W):C (n+1) 171 a=runF (C n) aY a:=rfl
theorem gH (n:O)(a:U W):C (n+1) 175 a=runF (C n) bb a:=rfl
theorem kR (n:O)(a:U W):C (n+1) 176 a=runF (C n) dG a:=rfl
theorem lC (n:O)(a:U W):C (n+1) 233 a=runF (C n) cX a:=rfl
theorem jo (n:O)(a:U W):C (n+1) 244 a=runF (C n) bA a:=rfl
theorem kQ (n:O)(a:U W):C (n+1) 245 a=runF (C n) cj a:=rfl
theorem b7 (n:O)(a:U W):C (n+1) 364 a=runF (C n) a8 a:=rfl
theorem jK (n:O)(a:U W):C (n+1) 365 a=runF (C n) bR a:=rfl
theorem jS (n:O)(a:U W):C (n+1) 366 a=runF (C n) bV a:=rfl
theorem aZ (n:O)(a:U W):C (n+1) 367 a=runF (C n) aC a:=rfl
theorem lu (n:O)(a:U W):C (n+1) 368 a=runF (C n) f_kinds_of a:=rfl
theorem i3 (n:O)(a:U W):C (n+1) 369 a=runF (C n) f_add_kinds a:=rfl
theorem ig (n:O)(a:U W):C (n+1) 370 a=runF (C n) bB a:=rfl
theorem cM (n:O)(a:U W):C (n+1) 371 a=runF (C n) a9 a:=rfl
theorem bg (n:O)(a:U W):C (n+1) 372 a=runF (C n) aJ a:=rfl
theorem oW (n:O)(a:U W):C (n+1) 373 a=runF (C n) dh a:=rfl
theorem mm (n:O)(a:U W):C (n+1) 374 a=runF (C n) cQ a:=rfl
theorem ll (n:O)(a:U W):C (n+1) 375 a=runF (C n) bM a:=rfl
theorem kI (n:O)(a:U W):C (n+1) 376 a=runF (C n) f_law_name a:=rfl
theorem b8 (n:O)(a:U W):C (n+1) 377 a=runF (C n) a6 a:=rfl
theorem il (n:O)(a:U W):C (n+1) 378 a=runF (C n) f_law_number a:=rfl
theorem k4 (n:O)(a:U W):C (n+1) 379 a=runF (C n) f_law_leaf a:=rfl
theorem jj (n:O)(a:U W):C (n+1) 380 a=runF (C n) f_law_signs a:=rfl
theorem ic (n:O)(a:U W):C (n+1) 381 a=runF (C n) f_law_binder a:=rfl
theorem kS (n:O)(a:U W):C (n+1) 382 a=runF (C n) f_law_tree a:=rfl
theorem jt (n:O)(a:U W):C (n+1) 383 a=runF (C n) aV a:=rfl
theorem gB (n:O)(a:U W):C (n+1) 384 a=runF (C n) f_law_program a:=rfl
theorem bf (n:O)(a:U W):C (n+1) 385 a=runF (C n) f_law_kind_by a:=rfl
theorem je (n:O)(a:U W):C (n+1) 386 a=runF (C n) bS a:=rfl
theorem eJ (n:O)(a:U W):C (n+1) 387 a=runF (C n) f_law_kinds a:=rfl
theorem qeq (a b:OL):(q a==q b)=(a==b):=by
 by_cases h:a=b
 .subst h;simp
 .have g:q a≠q b:=fun z=>h (by
   have:=OQ (λs:Str=>s.cps.toList) z;rw[q,Str.ofString_eq_toList,Str.ofString_eq_toList] at this;simp only at this
   have j:a.toList=b.toList:=by
    have inj:∀f e:U Char,f.map LQ=e.map LQ->f=e:=by
     intro f;induction f with
     |nil=>intro e h;cases e with
      |nil=>rfl
      |cons=>cases h
     | cons c cs k=>intro e h; cases e with
      |nil=>cases h
      |cons d ds=>
       rw[JQ,JQ] at h;injection h with i g
       rw[k ds g,Char.toNat_inj.mp i]
    exact inj _ _<|by simpa using this
   exact String.toList_inj.mp j)
  rw[beq_eq_false_iff_ne.mpr g,beq_eq_false_iff_ne.mpr h]
abbrev sp:Str:=q " "
theorem nE:sp=⟨#[32]⟩:=by decide +kernel
theorem aU (x y:Str):(x++y).cps.toList=x.cps.toList++y.cps.toList:=Od
theorem xn {x y:Str}(h:x.cps.toList=y.cps.toList):x=y:=by cases x;cases y;exact OQ Str.mk<|Mz.mp h
theorem iJ (a b d:Str):a++(b++d)=(a++b)++d:=by cases a;cases b;cases d;exact OQ Str.mk (Oa).symm
theorem gV (s:Str):∀(b a:U Str),b≠[]->a≠[]->Str.join s (b++a)=Str.join s b++s++Str.join s a
|[],_,h,_=>OH rfl h
|_::_,[],_,h=>OH rfl h
|[x],y::a,_,_=>rfl
|x::c::b,y::a,_,d=>by have e:=gV s (c::b) (y::a) (K0 _ _) d;show x++s++Str.join s ((c::b)++(y::a))=(x++s++Str.join s (c::b))++s++Str.join s (y::a);rw[e,iJ,iJ]
theorem fj (s:Str):∀(c:U<|U Str),(∀l∈c,l≠[])->∀d,Str.join s (c.map (Str.join s)++d)=Str.join s (c.flatten++d)
|[],_,d=>rfl
| l::c,h,d=>by
 have k:=h l JJ;have p:=fj s c (λm n=>h m<|JW _ n) d;rw[JQ,Lr,JN,MS];by_cases e:c.flatten++d=[]
 .have i:c=[]:=by
   cases c with
   |nil=>rfl
   |cons m c=>rw[Lr,JN] at e;exact OH (Nc.mp e).1<|h m<|JW _ JJ
  subst i;have j:d=[]:=e;subst j;show Str.join s l=Str.join s (l++[]);rw[JR]
 .have g:c.map (Str.join s)++d≠[]:=by intro z;obtain⟨a,b⟩:=Nc.mp z;rw[Ob.mp a,b] at e;exact e rfl
  rw[gV s l _ k e,<- p]
  have:∀f:U Str,f≠[]->Str.join s (Str.join s l::f)=Str.join s l++s++Str.join s f:=λf o=>by
   cases f with
   |nil=>exact OH rfl o
   |cons z f=>rfl
  exact this _ g
structure Gw (x:Str):Prop where
 sz:x.cps.size<=20
 cp:∀c∈x.cps.toList,c<0x110000
 fr:32 ∉ x.cps.toList
theorem dY (s:OL)(d:s.length<=20)(f:32 ∉ s.toList.map LQ):Gw (q s):=by
 have e:(q s).cps.toList=s.toList.map LQ:=by rw[q,Str.ofString_eq_toList]
 refine⟨?_,λc b=>?_,by rw[e];exact f⟩
 .rw[<- Kr,e,JF,Oe];exact d
 .rw [e] at b;obtain⟨ch,_,rfl⟩:=KJ.mp b;have a:=ch.valid;rcases a with a|a
  .exact NQ a (by decide)
  .exact a.2
theorem vn {x:Str}(a:∀c∈x.cps.toList,c<0x110000)(b:x.cps.size<=LIM):sOk x=true:=by unfold sOk;rw[JM];refine⟨?_,OE b⟩;rw[ME];intro c d;exact OE<|a c<|by simpa using d
theorem AN {x:Str}(h:Gw x):sOk x=true:=vn h.cp<|JP h.sz<|by show 20<=16777215;decide
theorem nK:∀{b:U Str},(∀x∈b,∀c∈x.cps.toList,c<0x110000)->∀c∈(Str.join sp b).cps.toList,c<0x110000
|[],_,c,a=>by cases a
|[x],h,c,a=>h x JJ c a
| x::y::r,h,c,a=>by
 have e:(Str.join sp (x::y::r)).cps.toList=x.cps.toList++sp.cps.toList++(Str.join sp (y::r)).cps.toList:=by show(x++sp++Str.join sp (y::r)).cps.toList=_;rw[aU,aU]
 rw[e] at a;rcases Kq.mp a with a|a
 .rcases Kq.mp a with a | a
  .exact h x JJ c a
  .rw [nE] at a;rw[J4.mp a];decide
 .exact nK (λz d=>h z<|JW _ d) c a
theorem jM:∀{ws:U Str},(∀x∈ws,Gw x)->(Str.join sp ws).cps.size<=21 * ws.length
|[],_=>JE _
|[x],h=>JP (h x JJ).sz<|by show 20<=21;decide
| x::y::r,h=>by
 have c:=jM (ws:=y::r) λz a=>h z<|JW _ a;have b:=(h x JJ).sz;have e:(Str.join sp (x::y::r)).cps.size=x.cps.size+1+(Str.join sp (y::r)).cps.size:=by rw[<- Kr,<- Kr,<- Kr];show(x++sp++Str.join sp (y::r)).cps.toList.length=_;rw[aU,aU,Jx,Jx,nE];rfl
 rw[e,JY];lia
theorem jx (c:O):∀(x b y:U O),c ∉ x->spl c b (x++y)=spl c (b++x) y
|[],b,y,_=>by rw[JR];rfl
|a::x,b,y,h=>by have d:a≠c:=λz=>h<|z ▸ JJ;show spl c b (a::(x++y))=_;rw[spl,OK d,jx c x (b++[a]) y λz=>h<|JW _ z,JN];rfl
theorem cU:∀{ws:U Str},ws≠[]->(∀x∈ws,Gw x)->spl 32 [] (Str.join sp ws).cps.toList=ws.map λx=>x.cps.toList
|[],h,_=>OH rfl h
|[x],_,h=>by have:=jx 32 x.cps.toList [] [] (h x JJ).fr;rw[JR] at this;exact this
| x::y::r,_,h=>by
 have b:=cU (ws:=y::r) (K0 _ _) λz a=>h z<|JW _ a;have e:(Str.join sp (x::y::r)).cps.toList=x.cps.toList++32::(Str.join sp (y::r)).cps.toList:=by show(x++sp++Str.join sp (y::r)).cps.toList=_;rw[aU,aU,nE,JN];rfl
 rw[e,jx 32 _ _ _ (h x JJ).fr,Kw,spl,OG rfl,b];rfl
theorem pV {a:U Str}(b:a≠[])(h:∀x∈a,Gw x):splS (Str.join sp a)=a:=by
 unfold splS;rw[cU b h,K6]
 conv=>rhs;rw[<- NM a]
 exact Mp λx _=>xn rfl
theorem nM:∀a:U Str,strsOf (a.map T.str)=Y a
|[]=>rfl
|x::a=>by show(strsOf<|a.map T.str).map (x::·)=_;rw[nM a];rfl
theorem fH {e:Type}{tg:U O}{f:Env->Res (L W×Env)}{η:Env}{g:e->U W}(w:e->L W):∀(d:U e) (a:U W),(∀x∈d,∃b c,aQ tg (g x) η=Y b/\f b=.ok (w x,c)/\aB tg c=η) ->
 aM tg f (d.map g) η a=.ok (a++d.filterMap w,η)
|[],a,_=>by rw[J0,List.filterMap_nil,JR];rfl
|x::d,a,h=>by obtain⟨b,c,i,j,k⟩:=h x JJ;rw[JQ];show(ofO<|aQ tg (g x) η).bind _=_;rw[i];show(f b).bind _=_;rw[j];show aM tg f (d.map g) (aB tg c) (a++(w x).toList)=_;rw[k,fH w d _ λy l=>h y<|JW _ l,JN,KQ];cases w x<;>rfl
theorem kg {l:Type}{tg:U O}{f:Env->Fl}{g:l->U W}(a:U l->Env->Prop):∀(j pre:U l) (b:Env),a pre b->(∀p x r b,pre++j=p++x::r->a p b->∃d i,aQ tg (g x) b=Y d/\f d=.nx i/\a (p++[x]) i) ->
 ∃c,b4 tg f (j.map g) b=.nx c/\a (pre++j) c
|[],pre,b,h,_=>⟨b,rfl,by rw[JR];exact h⟩
|x::j,pre,b,h,k=>by obtain⟨d,i,n,o,s⟩:=k pre x j b rfl h;obtain⟨c,e,m⟩:=kg a j (pre++[x]) i s λp y r b e=>k p y r b (by rw[<- e,JN];rfl);refine⟨c,?_,by rw[JN] at m;exact m⟩;rw[JQ];show Fl.of _ (ofO<|aQ tg (g x) b) _=_;rw[n];show Fl.turn (f d) _=_;rw[o];exact e
theorem dN {b:Type}(a:b)(r:U b):cut (a::r) (Y 1) J=r:=by
 have e:sIx (a::r).length 0 (Y 1)=1:=by show(if(1:I)<0 then((1:I)+((a::r).length:I)).toNat else min (1:I).toNat (a::r).length)=1;rw[OK<|by decide,JY];show min 1 (r.length+1)=1;lia
 have e2:sIx (a::r).length (a::r).length J=(a::r).length:=rfl;rw[cut,e,e2];exact Nd<|by rw[LD];lia
theorem yn {c:Type}(a b:c)(r:U c):cut (a::b::r) (Y 2) J=r:=by
 have e:sIx (a::b::r).length 0 (Y 2)=2:=by show(if(2:I)<0 then((2:I)+((a::b::r).length:I)).toNat else min (2:I).toNat (a::b::r).length)=2;rw[OK<|by decide,JY,JY];show min 2 (r.length+1+1)=2;lia
 have e2:sIx (a::b::r).length (a::b::r).length J=(a::b::r).length:=rfl;rw[cut,e,e2];exact Nd<|by rw[LD];lia
theorem bJ (h:OF)(m n:Md)(a:U T)(i:I):oSem .sl1 h [(m,.tup a),(n,.int i)]=Y (.s,.tup<|cut a (Y i) J):=rfl
theorem uX (n:O)(s:Str)(m:Md):C (n+1) 175 [(m,.str s)]=.ok ((.d,.int<|if keys_AHEAD.contains s then 2 else 1),[]):=by
 rw[gH,x_run _ _ _ rfl];cases h:keys_AHEAD.contains s with
 |true=>simp_all only[bb,h,KH]
 |false=>simp_all only[bb,h,KH]
inductive Kd where|num|truth|pair (a b:Kd)|row (a:Kd)
def Kd.th:Kd->T
|.num=>.tup [.str<|q "num"]
|.truth=>.tup [.str<|q "truth"]
|.pair a b=>.tup [.str<|q "pair",a.th,b.th]
|.row a=>.tup [.str<|q "row",a.th]
def Kd.deep:Kd->O
|.num=>0 | .truth=>0 | .pair a b=>max a.deep b.deep+1 | .row a=>a.deep+1
def Kd.hd:Kd->Str
|.num=>q "num" |.truth=>q "truth" |.pair _ _=>q "pair" |.row _=>q "row"
def Kd.ps:Kd->U Kd
|.num=>[] | .truth=>[] | .pair a b=>[a,b] | .row a=>[a]
theorem nQ:∀k:Kd,k.th=.tup (.str k.hd::k.ps.map Kd.th)
|.num=>rfl
|.truth=>rfl
|.pair _ _=>rfl
|.row _=>rfl
def kw:Kd->U Str
|.num=>[q "num"] | .truth=>[q "truth"] | .pair a b=>q "pair"::(kw a++kw b) | .row a=>q "row"::kw a
theorem av:∀k:Kd,eqT k.th k.th=Ju
|.num=>by show(q "num"==q "num"&&Ju)=Ju;rw[OU];rfl
|.truth=>by show(q "truth"==q "truth"&&Ju)=Ju;rw[OU];rfl
|.pair a b=>by show(q "pair"==q "pair"&&(eqT a.th a.th&&(eqT b.th b.th&&Ju)))=Ju;rw[OU,av a,av b];rfl
|.row a=>by show(q "row"==q "row"&&(eqT a.th a.th&&Ju))=Ju;rw[OU,av a];rfl
theorem cD:∀k:Kd,dp k.th<=k.deep+1
|.num=>JE _
|.truth=>JE _
|.pair a b=>by have:=cD a;have:=cD b;show max 0 (max (dp a.th)<|max (dp b.th) 0)+1<=max a.deep b.deep+1+1;lia
|.row a=>by have:=cD a;show max 0 (max (dp a.th) 0)+1<=a.deep+1+1;lia
theorem cA {a b:OL}{c d:U T}:eqT (.tup (.str (q a)::c)) (.tup (.str (q b)::d))=((a==b)&&eqTs c d):=by show(q a==q b&&eqTs c d)=_;rw[qeq]
theorem eq1 (a b:T):eqTs [a] [b]=(eqT a b&&Ju):=rfl
theorem eq2 (a b c d:T):eqTs [a,b] [c,d]=(eqT a c&&(eqT b d&&Ju)):=rfl
theorem dB:∀{a b:Kd},eqT a.th b.th=Ju->a=b
|.num,.num,_=>rfl
|.truth,.truth,_=>rfl
|.pair a b,.pair c d,h=>by rw[Kd.th,Kd.th,cA,eq2,JM,JM,JM] at h;rw[dB h.2.1,dB h.2.2.1]
|.row a,.row c,h=>by rw[Kd.th,Kd.th,cA,eq1,JM,JM] at h;rw[dB h.2.1]
|.num,.truth,h=>by rw[Kd.th,Kd.th,cA] at h;cases h
|.num,.pair _ _,h=>by rw[Kd.th,Kd.th,cA] at h;cases h
|.num,.row _,h=>by rw[Kd.th,Kd.th,cA] at h;cases h
|.truth,.num,h=>by rw[Kd.th,Kd.th,cA] at h;cases h
|.truth,.pair _ _,h=>by rw[Kd.th,Kd.th,cA] at h;cases h
|.truth,.row _,h=>by rw[Kd.th,Kd.th,cA] at h;cases h
|.pair _ _,.num,h=>by rw[Kd.th,Kd.th,cA] at h;cases h
|.pair _ _,.truth,h=>by rw[Kd.th,Kd.th,cA] at h;cases h
|.pair _ _,.row _,h=>by rw[Kd.th,Kd.th,cA] at h;cases h
|.row _,.num,h=>by rw[Kd.th,Kd.th,cA] at h;cases h
|.row _,.truth,h=>by rw[Kd.th,Kd.th,cA] at h;cases h
|.row _,.pair _ _,h=>by rw[Kd.th,Kd.th,cA] at h;cases h
theorem aF (k:Kd):look (.s,k.th)=Y (.s,k.th):=rfl
theorem aL (m:Md):∀k:Kd,lf m k.th=m
|.num=>rfl
|.truth=>rfl
|.pair _ _=>rfl
|.row _=>rfl
theorem bZ (h:OF)(m n:Md)(a b:T)(c:dp a<=64)(e:dp b<=64):oSem .eq h [(m,a),(n,b)]=Y (.d,.bl<|eqT a b):=by show(if(decide (dp a<=64)&&decide (dp b<=64))=Ju then _ else J)=_;rw[OE c,OE e];rfl
theorem eY (h:OF)(m n:Md)(a b:T)(c:dp a<=64)(e:dp b<=64):oSem .ne h [(m,a),(n,b)]=Y (.d,.bl<|!eqT a b):=by show(if(decide (dp a<=64)&&decide (dp b<=64))=Ju then _ else J)=_;rw[OE c,OE e];rfl
theorem md2 (i:I)(n:I)(a:0<n):∃j:O,(j:I)<n/\i % n=(j:I):=⟨(i % n).toNat,by have:=NF i (show n≠0 by lia);have:=Int.emod_lt_of_pos i a;lia,by have:=NF i (show n≠0 by lia);lia⟩
theorem eS:∀(l n:O) (c:I),∃z k,(∀m g,C (n+l+1) 171 [(m,.int c),(g,.int (l:I))]=.ok ((z,Kd.th k),[]))/\k.deep<=l
| l,n,c=>by
 obtain⟨j,N,o⟩:=md2 c 6 (by decide);obtain⟨i,M,u⟩:=md2 c 2<|by decide
 have d:((((l:I)==0)=Ju)\/(((l:I)==0)=Jt/\decide ((j:I)<2)=Ju))->∃z k,(∀m g,C (n+l+1) 171 [(m,.int c),(g,.int (l:I))]=.ok ((z,Kd.th k),[]))/\k.deep<=l:=λx=>by
  have y:i=0\/i=1:=by lia
  have v:decide ((0:I)<2)=true:=rfl;have h:decide ((0:I)<6)=true:=rfl;rcases y with rfl|rfl
  .refine ⟨.s,.num,fun m g=>?_,Kl _⟩;rw[cF,x_run _ _ _ rfl];have e1:atI [T.tup [.str (q "num")],.tup [.str (q "truth")]] ((0:O):I)=Y (.tup [.str (q "num")]):=rfl;rcases x with h1|⟨h1,h2⟩
   .simp_all only[aY,v,h,o,u,h1,e1,Kd.th]
   .simp_all only[aY,v,h,o,u,h1,h2,e1,Kd.th]
  .refine ⟨.s,.truth,fun m g=>?_,Kl _⟩;rw[cF,x_run _ _ _ rfl];have e1:atI [T.tup [.str (q "num")],.tup [.str (q "truth")]] ((1:O):I)=Y (.tup [.str (q "truth")]):=rfl;rcases x with h1|⟨h1,h2⟩
   .simp_all only[aY,v,h,o,u,h1,e1,Kd.th]
   .simp_all only[aY,v,h,o,u,h1,h2,e1,Kd.th]
 cases l with
 |zero=>exact d<|.inl rfl
 | succ l =>
  have w:(((l+1:O):I)==0)=false:=beq_eq_false_iff_ne.mpr (by lia);by_cases p:(j:I)<2
  .exact d (.inr ⟨w,OE p⟩)
  .have A:decide ((j:I)<2)=false:=OR p;have h:decide ((0:I)<6)=true:=rfl;have t:decide ((6:I)<1073741824)=true:=rfl;have e:decide ((216:I)<1073741824)=true:=rfl;have f:decide ((0:I)<216)=true:=rfl;have F:((l+1:O):I)-1=(l:I):=by lia
   obtain⟨P,a,D,H⟩:=eS l n<|c / 6;obtain⟨Q,b,G,x⟩:=eS l n<|c / 216;cases r:((j:I)==2) with
   |true=>exact⟨_,.pair a b,λm g=>by rw[show n+(l+1)+1=(n+l+1)+1 from rfl,cF,x_run _ _ _ rfl];simp_all only[aY,h,t,e,f,o,w,A,r,F,D,G,Kd.th,aL];rfl,by show max a.deep b.deep+1<=l+1;lia⟩
   |false=>exact⟨_,.row a,λm g=>by rw[show n+(l+1)+1=(n+l+1)+1 from rfl,cF,x_run _ _ _ rfl];simp_all only[aY,h,t,e,f,o,w,A,r,F,D,Kd.th,aL];rfl,by show a.deep+1<=l+1;lia⟩
abbrev sT (a:U Str):T:=.lst<|a.map T.str
theorem gk:∀k:Kd,kw k≠[]
|.num=>by simp[kw]
|.truth=>by simp[kw]
|.pair _ _=>by simp[kw]
|.row _=>by simp[kw]
theorem cV:∀k:Kd,∀x∈kw k,Gw x
|.num,x,h=>by rw[J4.mp h];exact dY _ (by decide)<|by decide
|.truth,x,h=>by rw[J4.mp h];exact dY _ (by decide)<|by decide
| .pair a b,x,h=>by
 rcases JX.mp h with h|h
 .rw[h];exact dY _ (by decide)<|by decide
 .rcases Kq.mp h with h | h
  .exact cV a x h
  .exact cV b x h
|.row a,x,h=>by
 rcases JX.mp h with h|h
 .rw[h];exact dY _ (by decide)<|by decide
 .exact cV a x h
theorem jf:∀k:Kd,(kw k).length+1<=2 ^ (k.deep+1)
|.num=>by decide
|.truth=>by decide
|.pair a b=>by have c:=jf a;have d:=jf b;have e:2 ^ (a.deep+1)<=2 ^ (max a.deep b.deep+1):=Mr (by decide) (by lia);have f:2 ^ (b.deep+1)<=2 ^ (max a.deep b.deep+1):=Mr (by decide) (by lia);show(kw a++kw b).length+1+1<=2 ^ (max a.deep b.deep+1+1);rw[Jx,Mn];lia
|.row a=>by have c:=jf a;show(kw a).length+1+1<=2 ^ (a.deep+1+1);rw[Mn];lia
theorem x8 {k:Kd}(h:k.deep<=4):(kw k).length<=31:=by have a:=jf k;have b:2 ^ (k.deep+1)<=2 ^ 5:=Mr (by decide) (by lia);lia
theorem eG {a:U Str}(h:∀x∈a,Gw x)(b:a.length<=1000):sOk (Str.join sp a)=true:=vn (nK λx hx=>(h x hx).cp) (by
 have:=jM h;show _<=16777215;lia)
theorem rF:∀{ws:U Str} {b:O},(∀x∈ws,x.cps.size<=b)->(ws.map λs=>s.cps.size+sp.cps.size).sum<=ws.length * (b+1)
|[],_,_=>Kl _
|x::ws,b,h=>by
 have c:=rF (ws:=ws) (b:=b) λy a=>h y<|JW _ a;have:=h x JJ;have e:sp.cps.size=1:=by rw[nE];rfl
 rw[JQ,Nt,JY,Nat.add_mul,Nat.one_mul,e];rw[e] at c;lia
theorem kY {k:Kd}(h:k.deep<=4):(Str.join sp<|kw k).cps.size<=651:=by have a:=jM<|cV k;have b:=x8 h;lia
theorem rO {xs:U Str}(h:∀x∈xs,x.cps.size<=700)(a:xs.length<=10):decide ((xs.map λs=>s.cps.size+sp.cps.size).sum<=LIM)=true:=OE (by
 have:=rF h;have b:xs.length * (700+1)<=10 * 701:=Nat.mul_le_mul a<|JE _;show _<=16777215;lia)
theorem jn1 (a:Str)(k:Kd):Str.join sp [a,Str.join sp<|kw k]=Str.join sp (a::kw k):=by
 have:=fj sp [kw k] (λl c=>by rw[J4.mp c];exact gk k) [];rw[JR,JR] at this
 have e:∀b:U Str,b≠[]->Str.join sp (a::b)=a++sp++Str.join sp b:=λb hx=>by
  cases b with
  |nil=>exact OH rfl hx
  |cons=>rfl
 rw[e _<|by simp,e _<|gk k];rfl
theorem jn2 (a:Str)(k l:Kd):Str.join sp [a,Str.join sp<|kw k,Str.join sp<|kw l]=Str.join sp (a::(kw k++kw l)):=by
 have e:∀b:U Str,b≠[]->Str.join sp (a::b)=a++sp++Str.join sp b:=λb hx=>by
  cases b with
  |nil=>exact OH rfl hx
  |cons=>rfl
 rw[e _<|by simp,e _<|by simp[gk k],gV sp _ _ (gk k)<|gk l];rfl
theorem oF:∀(k:Kd) (n:O) (m:Md),k.deep<=4->C (n+k.deep+1) 364 [(m,k.th)]=.ok ((.d,.str<|Str.join sp<|kw k),[])
|.num,n,m,_=>by
 rw[b7,x_run _ _ _ rfl];have c:=rO (xs:=[q "num"]) (λx hx=>JP (cV .num x hx).sz<|by decide) (by decide);have e:sOk (Str.join sp [q "num"])=true:=eG (cV .num) (by decide);have f:fits ([T.str (q "num")].length+([]:U T).length)=true:=by decide
 simp only[JQ,J0] at c;simp_all only[a8,Kd.th,bJ,dN,aM,OG f,strsOf,c,e,show kw .num=[q "num"] from rfl]
|.truth,n,m,_=>by
 rw[b7,x_run _ _ _ rfl];have c:=rO (xs:=[q "truth"]) (λx hx=>JP (cV .truth x hx).sz<|by decide) (by decide);have e:sOk (Str.join sp [q "truth"])=true:=eG (cV .truth) (by decide);have f:fits ([T.str (q "truth")].length+([]:U T).length)=true:=by decide
 simp only[JQ,J0] at c;simp_all only[a8,Kd.th,bJ,dN,aM,OG f,strsOf,c,e,show kw .truth=[q "truth"] from rfl]
| .row a,n,m,h=>by
 have l:a.deep+1<=4:=h;rw[show n+(Kd.row a).deep+1=(n+a.deep+1)+1 from rfl,b7,x_run _ _ _ rfl];have o:=λm=>oF a n m<|by lia
 have c:=rO (xs:=[q "row",Str.join sp<|kw a]) (λx hx=>by
  rcases JX.mp hx with hx|hx
  .rw[hx];exact JP (dY "row" (by decide)<|by decide).sz<|by decide
  .rw[J4.mp hx];exact JP (kY<|by lia)<|by decide)<|by simp
 have j:=eG (cV<|.row a) (JP (x8 h)<|by decide);have e2:Str.join sp [q "row",Str.join sp (kw a)]=Str.join sp (kw (.row a)):=jn1 _ _;have f:fits ([T.str (q "row")].length+[T.str (Str.join sp (kw a))].length)=true:=rfl;simp only[JQ,J0] at c;simp_all only[a8,Kd.th,bJ,dN,aM,OG f,strsOf,c,j,e2,aF,o,LU]
| .pair a b,n,m,h=>by
 have l:max a.deep b.deep+1<=4:=h;rw[show n+(Kd.pair a b).deep+1=(n+max a.deep b.deep+1)+1 from rfl,b7,x_run _ _ _ rfl];have g:=λm=>oF a (n+max a.deep b.deep-a.deep) m (by lia);have i:=λm=>oF b (n+max a.deep b.deep-b.deep) m (by lia);rw[show n+max a.deep b.deep-a.deep+a.deep=n+max a.deep b.deep by lia] at g;rw[show n+max a.deep b.deep-b.deep+b.deep=n+max a.deep b.deep by lia] at i
 have c:=rO (xs:=[q "pair",Str.join sp<|kw a,Str.join sp<|kw b]) (λx hx=>by
  rcases JX.mp hx with hx|hx
  .rw[hx];exact JP (dY "pair" (by decide)<|by decide).sz<|by decide
  .rcases JX.mp hx with hx | hx
   .rw[hx];exact JP (kY<|by lia)<|by decide
   .rw[J4.mp hx];exact JP (kY<|by lia)<|by decide)<|by simp
 have j:=eG (cV<|.pair a b) (JP (x8 h)<|by decide);have e2:Str.join sp [q "pair",Str.join sp (kw a),Str.join sp (kw b)]=Str.join sp (kw (.pair a b)):=jn2 _ _ _;have f:fits ([T.str (q "pair")].length+[T.str (Str.join sp (kw a)),T.str (Str.join sp (kw b))].length)=true:=rfl;simp only[JQ,J0] at c;simp_all only[a8,Kd.th,bJ,dN,aM,OG f,strsOf,c,j,e2,aF,g,i,LU]
theorem cw (a:U O)(f:Env->Fl)(x:U W)(r:U<|U W)(b:Env):b4 a f (x::r) b=Fl.of b (ofO<|aQ a x b) λc=>Fl.turn (f c) (b4 a f r):=rfl
theorem i9 (b:U O)(f:Env->Fl)(a:Env):b4 b f [] a=.nx a:=rfl
theorem kw0:keys_WITHIN.contains (q "num")=Ju/\tab_WITHIN.lookup (q "num")=Y (.int 0):=by simp[keys_WITHIN,tab_WITHIN,qeq,JI]
theorem kw1:keys_WITHIN.contains (q "truth")=Ju/\tab_WITHIN.lookup (q "truth")=Y (.int 0):=by simp[keys_WITHIN,tab_WITHIN,qeq,JI]
theorem kw2:keys_WITHIN.contains (q "pair")=Ju/\tab_WITHIN.lookup (q "pair")=Y (.int 2):=by simp[keys_WITHIN,tab_WITHIN,qeq,JI]
theorem kw3:keys_WITHIN.contains (q "row")=Ju/\tab_WITHIN.lookup (q "row")=Y (.int 1):=by simp[keys_WITHIN,tab_WITHIN,qeq,JI]
theorem bt:(Ju != Ju)=false:=rfl
theorem r0:J6 (0:I).toNat=[]:=rfl
theorem r1:J6 (1:I).toNat=[0]:=rfl
theorem r2:J6 (2:I).toNat=[0,1]:=rfl
theorem z0:(decide (Mo 0<4611686018427387904)&&fits (LP 0))=true:=rfl
theorem z1:(decide (Mo 1<4611686018427387904)&&fits (LP 1))=true:=rfl
theorem z2:(decide (Mo 2<4611686018427387904)&&fits (LP 2))=true:=rfl
theorem gf {b r:U Str}{w:Str}{a:O}(h:b.drop a=w::r):a<b.length/\b.drop (a+1)=r/\atI (b.map T.str) (a:I)=Y (.str w):=by
 have c:a<b.length:=by have:=OQ LG h;rw[LD,JY] at this;lia
 refine⟨c,by rw[<- M5,h];rfl,atN rfl ?_⟩;have:b[a]?=Y w:=by rw[<- List.head?_drop,h];rfl
 rw[Ki,this];rfl
theorem tkP:∀(k:Kd) (d n:O) (b r:U Str) (a:O) (m c e:Md),k.deep<d->b.drop a=kw k++r->C (n+d+1) 367 [(m,sT b),(c,.int (a:O)),(e,.int (d:O))]=.ok ((.o<|.o .s,.tup [k.th,.int ((a+(kw k).length:O):I)]),[])
|_,0,_,_,_,_,_,_,_,h,_=>OH h<|by lia
|.num,d+1,n,b,r,a,m,c,e,_,p=>by rw[show n+(d+1)+1=(n+d+1)+1 from rfl,aZ,x_run _ _ _ rfl];obtain⟨u,f,i⟩:=gf (w:=q "num") (r:=r) p;have g:decide (((b.map T.str).length:I)<=(a:I))=false:=OR (by rw[JF];lia);unfold sT;simp_all only[aC,g,i,kw0.1,kw0.2,bt,z0,r0,i9,Ml,O8,O5];rfl
|.truth,d+1,n,b,r,a,m,c,e,_,p=>by rw[show n+(d+1)+1=(n+d+1)+1 from rfl,aZ,x_run _ _ _ rfl];obtain⟨u,f,i⟩:=gf (w:=q "truth") (r:=r) p;have g:decide (((b.map T.str).length:I)<=(a:I))=false:=OR (by rw[JF];lia);unfold sT;simp_all only[aC,g,i,kw1.1,kw1.2,bt,z0,r0,i9,Ml,O8,O5];rfl
|.row k,d+1,n,b,r,a,m,c,e,h,p=>by
 have F:k.deep+1<d+1:=h;rw[show n+(d+1)+1=(n+d+1)+1 from rfl,aZ,x_run _ _ _ rfl];obtain⟨u,f,i⟩:=gf (w:=q "row") (r:=kw k++r) p;have g:decide (((b.map T.str).length:I)<=(a:I))=false:=OR (by rw[JF];lia);have e2:(((d+1:O):I)==1)=false:=by rw[beq_eq_false_iff_ne];lia
 have D:((d+1:O):I)-1=(d:I):=by lia
 have y:∀m c e,C (n+d+1) 367 [(m,.lst (b.map T.str)),(c,.int ((a:I)+1)),(e,.int (d:O))]=.ok ((.o (.o .s),.tup [k.th,.int ((a+1+(kw k).length:O):I)]),[]):=λm c e=>tkP k d n b r (a+1) m c e (by lia) f;have t:[T.str (q "row")].length<LIM:=by decide
 have j:a+(kw (.row k)).length=a+1+(kw k).length:=by show a+((kw k).length+1)=_;lia
 rw[j];unfold sT;simp_all only[aC,g,i,kw3.1,kw3.2,bt,z1,r1,cw,i9,Ml,O8,O5,e2,D,y,OG t,Kd.th,aL]
|.pair k l,d+1,n,b,r,a,m,c,e,h,p=>by
 have F:max k.deep l.deep+1<d+1:=h;rw[show n+(d+1)+1=(n+d+1)+1 from rfl,aZ,x_run _ _ _ rfl];have v:b.drop a=q "pair"::(kw k++(kw l++r)):=by rw[p];show q "pair"::(kw k++kw l)++r=_;rw[MS,JN]
 obtain⟨u,f,i⟩:=gf (w:=q "pair") (r:=kw k++(kw l++r)) v;have g:decide (((b.map T.str).length:I)<=(a:I))=false:=OR (by rw[JF];lia);have e2:(((d+1:O):I)==1)=false:=by rw[beq_eq_false_iff_ne];lia
 have D:((d+1:O):I)-1=(d:I):=by lia
 have y:∀m c e,C (n+d+1) 367 [(m,.lst (b.map T.str)),(c,.int ((a:I)+1)),(e,.int (d:O))]=.ok ((.o (.o .s),.tup [k.th,.int ((a+1+(kw k).length:O):I)]),[]):=λm c e=>tkP k d n b _ (a+1) m c e (by lia) f;have x:b.drop (a+1+(kw k).length)=kw l++r:=by rw[<- M5,f,List.drop_left]
 have z:∀m c e,C (n+d+1) 367 [(m,.lst (b.map T.str)),(c,.int ((a+1+(kw k).length:O):I)),(e,.int (d:O))]=.ok ((.o (.o .s),.tup [l.th,.int ((a+1+(kw k).length+(kw l).length:O):I)]),[]):=λm c e=>tkP l d n b r _ m c e (by lia) x;have t:[T.str (q "pair")].length<LIM:=by decide
 have A:[T.str (q "pair"),k.th].length<LIM:=by show 2<16777215;decide
 have j:a+(kw (.pair k l)).length=a+1+(kw k).length+(kw l).length:=by show a+((kw k++kw l).length+1)=_;rw[Jx];lia
 rw[j];unfold sT;simp_all only[aC,g,i,kw2.1,kw2.2,bt,z2,r2,cw,i9,Ml,O8,O5,e2,D,y,z,OG t,OG A,Kd.th,aL]
theorem Hw (k:Kd)(n:O)(m:Md)(h:k.deep<=4):C (n+8) 365 [(m,.str<|Str.join sp<|kw k)]=.ok ((.o .s,k.th),[]):=by
 rw[show n+8=(n+7)+1 from rfl,jK,x_run _ _ _ rfl];have e1:splS (Str.join sp (kw k))=kw k:=pV (gk k)<|cV k;have sz:=kY h;have c:decide ((Str.join sp (kw k)).cps.size+2<=LIM)=true:=OE (by show _<=16777215;lia);have d:(kw k).all sOk=true:=Lb.mpr λx hx=>AN<|cV k x hx;have f:(q " "==Str.ofString " ")=true:=OU _
 have e:∀m a,C (n+7) 366 [(m,.lst ((kw k).map T.str)),(a,.int 0)]=.ok ((.o (.o .s),.tup [k.th,.int ((kw k).length:O)]),[]):=λm a=>by
  rw[show n+7=(n+6)+1 from rfl,jS,x_run _ _ _ rfl];have e:∀m a b,C (n+6) 367 [(m,.lst ((kw k).map T.str)),(a,.int 0),(b,.int 5)]=.ok ((.o (.o .s),.tup [k.th,.int ((kw k).length:O)]),[]):=λm a b=>by have:=tkP k 5 n (kw k) [] 0 m a b (by lia) (by rw[JR];rfl);rw[LX] at this;exact this
  simp_all only[bV,e]
 have g:decide (((kw k).length:I)<(((kw k).map T.str).length:O))=false:=OR (by rw[JF];lia);simp_all only[bR,c,d,f,e1,e,g]
abbrev EV:=U<|Str×Kd
noncomputable abbrev dK (e:EV):U (I ⊕ Str):=e.map λp=>.inr p.1
abbrev dV (e:EV):U T:=e.map λp=>p.2.th
abbrev dE (e:EV):T:=.dct (dK e)<|dV e
theorem eV (x:Str):∀e:EV,lookD (.inr x) (dK e) (dV e)=(e.lookup x).map Kd.th
|[]=>rfl
| (y,k)::e=>by
 show(if(Kf y:I ⊕ Str)=.inr x then Y k.th else lookD (.inr x) (dK e)<|dV e)=_;rw[eV x e,KC];by_cases h:y=x
 .subst h;rw[OG rfl,OU];rfl
 .rw[OK λz=>h<|Mk z,beq_eq_false_iff_ne.mpr<|Kv h]
theorem mD (x:Str)(k:Kd):∀e:EV,e.lookup x=J->putT (.inr x) k.th (dK e) (dV e)=(dK<|e++[(x,k)],dV<|e++[(x,k)])
|[],_=>rfl
| (y,l)::e,h=>by
 rw[KC] at h;by_cases a:x=y
 .subst a;rw[OU] at h;cases h
 .rw [beq_eq_false_iff_ne.mpr a] at h;have b:=mD x k e h;show(if(Kf y:I ⊕ Str)=.inr x then _ else _)=_;rw[OK λz=>a (Mk z).symm];show(_::(putT (.inr x) k.th (dK e)<|dV e).1,_::(putT (.inr x) k.th (dK e)<|dV e).2)=_;rw[b];rfl
def bu (w:Str):OF:=w==q "K" || w==q "L"
def fit:U Str->U Kd->EV->L EV
|[],_,a=>Y a
|_::_,[],_=>J
| w::c,k::b,a=>bif bu w then (match a.lookup w with
  |some u=>bif eqT u.th k.th then fit c b a else J
  |none=>fit c b<|a++[(w,k)]) else bif w==k.hd then fit c (k.ps++b) a else J
abbrev FB:U S:=[.asg (.l []) 5<|.pop 3 [.cst<|.int 0],
   .ite (.q [4] []) (.op .isin Jt [.var 4,.tup [.cst (.str (q "K")),.cst (.str (q "L"))]]) [
    .ite (.l [5]) (.op .ne Jt [.sdf 2 4 5,.var 5]) [
     .ret [] (.cst<|.non)] []] [
    .ite (.q [4,5] []) (.op .eq Jt [.var 4,.op .ix Jt [.var 5,.cst (.int 0)]]) [
     .asg (.q [3,5] []) 3 (.op .add Jt [.op .list Jt [.op .sl1 Jt [.var 5,.cst<|.int 1]],.var 3])] [
     .ret [] (.cst<|.non)]]]
theorem Ee (t:T)(a:U T)(m:Md):jY (.o .s,.lst (t::a)) [(m,.int 0)]=Y ((.s,t),(.o .s,.lst a)):=rfl
theorem IW {a:Md}(b:a≠.s){e:EV}(f:e.length<=100){w:Str}{u:Kd}(h:e.lookup w=Y u)(c:Md)(t:T):sdfT (Y (a,dE e)) (Y (c,.str w)) (Y (.s,t))=Y ((.s,u.th),(a,dE e)):=by
 have e1:decide ((dK e).length<LIM)=true:=OE (by rw[JF];show _<16777215;lia);cases a with
 |s=>exact OH rfl b
 |d=>show(if decide ((dK e).length<LIM)=Ju then Y (match lookD (.inr w) (dK e) (dV e) with|some u=>_|none=>_) else J)=_;rw[OG e1,eV,h];rfl
 |o m=>show(if decide ((dK e).length<LIM)=Ju then Y (match lookD (.inr w) (dK e) (dV e) with|some u=>_|none=>_) else J)=_;rw[OG e1,eV,h];rfl
theorem HW {a:Md}(b:a≠.s){e:EV}(f:e.length<=100){w:Str}(h:e.lookup w=J)(c:Md)(k:Kd):sdfT (Y (a,dE e)) (Y (c,.str w)) (Y (.s,k.th))=Y ((.s,k.th),(.o .s,dE<|e++[(w,k)])):=by
 have e1:decide ((dK e).length<LIM)=true:=OE (by rw[JF];show _<16777215;lia);cases a with
 |s=>exact OH rfl b
 |d=>show(if decide ((dK e).length<LIM)=Ju then Y (match lookD (.inr w) (dK e) (dV e) with|some u=>_|none=>_) else J)=_;rw[OG e1,eV,h,mD w k e h];rfl
 |o m=>show(if decide ((dK e).length<LIM)=Ju then Y (match lookD (.inr w) (dK e) (dV e) with|some u=>_|none=>_) else J)=_;rw[OG e1,eV,h,mD w k e h];rfl
theorem Ak (w:Str):(flatT (.str w)&&[T.str<|q "K",.str<|q "L"].all flatT)=true:=rfl
theorem uY (w:Str):([T.str<|q "K",.str<|q "L"].any λt=>eqT t<|.str w)=bu w:=by show(q "K"==w || (q "L"==w || false))=(w==q "K" || w==q "L");rw[Nx,Me (a:=w),Me (a:=w) (b:=q "L")]
theorem eP (n:O)(N P:L W):∀(v:U Str) (r:U Kd) (m d:EV) (x:Md) (H M:L W),fit v r m=Y d->x≠.s->m.length+v.length<=100->(∀k∈r,k.deep<=10)->r.length+v.length * 2<=100->(∀p∈m,p.2.deep<=10) ->
 ∃(g:U Kd) (f:Md) (i j:L W),f≠.s/\b4 [4] (evSs (C n) FB) (v.map λw=>[(.s,.str w)]) [N,P,Y (x,dE m),Y (.o .s,.lst<|r.map Kd.th),H,M]=.nx [N,P,Y (f,dE d),Y (.o .s,.lst<|g.map Kd.th),i,j]
|[],r,m,d,x,H,M,h,F,_,_,_,_=>by cases h;exact⟨r,x,H,M,F,rfl⟩
|w::v,[],m,d,x,H,M,h,_,_,_,_,_=>by cases h
| w::v,k::r,m,d,x,H,M,h,F,c,hk,hl2,hf=>by
 rw[JQ,cw];have z:=hk k JJ;have A:=λl c=>hk l<|JW _ c;have Q:dp k.th<=64:=by have:=cD k;lia
 rw[JY] at c;rw[JY,JY] at hl2;rw[fit] at h;cases G:bu w with
 | true =>
  rw[G,O3] at h;cases Z:m.lookup w with
  | some u =>
   rw[Z] at h;simp only at h;cases y:eqT u.th k.th with
   |false=>rw[y] at h;cases h
   |true=>rw[y,O3] at h;have:=dB y;subst this;obtain⟨g,f,i,j,t,e⟩:=eP n N P v r m d x (Y (.s,.str w)) (Y (.s,u.th)) h F (by lia) A (by lia) hf;refine⟨g,f,i,j,t,?_⟩;rw[<- e];have s1:=IW F (e:=m) (by lia) Z .s u.th;simp_all only[Ee,Ak,uY,G,s1,aF,eY _ _ _ _ _ Q Q,av,aL]
  | none =>
   rw[Z] at h;simp only at h
   obtain⟨g,f,i,j,t,e⟩:=eP n N P v r (m++[(w,k)]) d (.o .s) (Y (.s,.str w)) (Y (.s,k.th)) h (by decide) (by rw[Jx,JL];lia) A (by lia) (λp hp=>by
    rcases Kq.mp hp with hp|hp
    .exact hf p hp
    .rw[J4.mp hp];exact z)
   refine⟨g,f,i,j,t,?_⟩;rw[<- e];have s1:=HW F (e:=m) (by lia) Z .s k;simp_all only[Ee,Ak,uY,G,s1,aF,eY _ _ _ _ _ Q Q,av,aL]
 | false =>
  rw[G,cond_false] at h;cases y:w==k.hd with
  |false=>rw[y] at h;cases h
  | true =>
   rw[y,O3] at h
   have D:k.ps.length<=2/\∀l∈k.ps,l.deep<=10:=by
    cases k with
    |num=>exact⟨by decide,λl c=>nomatch c⟩
    |truth=>exact⟨by decide,λl c=>nomatch c⟩
    |pair a b=>
     have:max a.deep b.deep+1<=10:=z;refine⟨by show 2<=2;decide,λl c=>?_⟩;rcases JX.mp c with c|c
     .rw[c];lia
     .rw[J4.mp c];lia
    |row a=>have:a.deep+1<=10:=z;refine⟨by show 1<=2;decide,λl c=>?_⟩;rw[J4.mp c];lia
   obtain⟨g,f,i,j,t,e⟩:=eP n N P v (k.ps++r) m d x (Y (.s,.str w)) (Y (.s,k.th)) h F (by lia) (λl c=>by
    rcases Kq.mp c with c|c
    .exact D.2 l c
    .exact A l c) (by rw[Jx];have:=D.1;lia) hf
   refine⟨g,f,i,j,t,?_⟩;rw[<- e];have f1:fits ((k.ps.map Kd.th).length+(r.map Kd.th).length)=true:=OE (by rw[JF,JF];have:=D.1;show _<=16777215;lia);rw[KS];simp_all only[Ee,Ak,uY,G,nQ k,dN,bJ,y,OG f1]
theorem iP (n:O)(c:Str)(a:U Str)(b:U Kd)(f:EV)(v:splS c=a)(h:(decide (c.cps.size+2<=LIM)&&a.all sOk)=Ju)(u:fit a b []=Y f)(hk:∀k∈b,k.deep<=10)(z:b.length<=10)(A:a.length<=10)(m m':Md):∃j,j≠.s/\C (n+1) 373 [(m,.str c),(m',.lst<|b.map Kd.th)]=.ok ((j,dE f),[]):=by
 obtain⟨l,i,x,y,g,e⟩:=eP n (Y (.s,.str c)) (Y (.s,.lst<|b.map Kd.th)) a b [] f .d J J u (by decide) (by rw[LA];lia) hk (by lia) λp hp=>nomatch hp;refine⟨i,g,?_⟩;rw[oW,x_run _ _ _ rfl];have o:(q " "==Str.ofString " ")=true:=OU _;rw[JM] at h;have r:(a.map T.str).map (λt=>[((.s,t):W)])=a.map λw=>[(.s,.str w)]:=by rw[K6];rfl
 simp_all only[dh,o,v,h.1,h.2,r];rw[show T.dct [] []=dE [] from rfl,e];simp_all only[]
def sbs (a:EV):U Str->U Str
|[]=>[]
|w::b=>(match a.lookup w with|some k=>kw k|none=>[w])++sbs a b
def sb1 (a:EV)(w:Str):Str:=match a.lookup w with|some k=>Str.join sp (kw k)|none=>w
theorem vE (a:EV)(b:U Str):Str.join sp (b.map<|sb1 a)=Str.join sp (sbs a b):=by
 have c:b.map (sb1 a)=(b.map λw=>match a.lookup w with|some k=>kw k|none=>[w]).map (Str.join sp):=by rw[K6];refine Mp λw _=>?_;show sb1 a w=Str.join sp (match a.lookup w with|some k=>kw k|none=>[w]);unfold sb1;cases a.lookup w<;>rfl
 have d:sbs a b=(b.map λw=>match a.lookup w with|some k=>kw k|none=>[w]).flatten:=by
  induction b with
  |nil=>rfl
  |cons w b f=>rw[sbs,JQ,Lr,f (by rw[K6];refine Mp λw _=>?_;show sb1 a w=Str.join sp (match a.lookup w with|some k=>kw k|none=>[w]);unfold sb1;cases a.lookup w<;>rfl)]
 have:=fj sp (b.map λw=>match a.lookup w with|some k=>kw k|none=>[w]) (λl e=>by
  obtain⟨w,_,rfl⟩:=KJ.mp e;show(match a.lookup w with|some k=>kw k|none=>[w])≠[];cases a.lookup w with
  |none=>exact K0 _ _
  |some k=>exact gk k) []
 rw[JR,JR] at this;rw[c,d,this]
noncomputable def sbm (a:EV)(w:Str):Md:=match a.lookup w with|some _=>.d|none=>.s
theorem nq {b:Type}(m:b->Md)(g:b->T):∀a:U b,trees (a.map λx=>(m x,g x))=a.map g
|[]=>rfl
|x::a=>by show g x::trees (a.map λx=>(m x,g x))=_;rw[nq m g a];rfl
theorem aa (t:T):look (.s,t)=Y (.s,t):=rfl
theorem d9 (n:O)(j:Str)(i:U Str)(c:EV)(K:Kd)(Q:splS j=i)(y:(decide (j.cps.size+2<=LIM)&&i.all sOk)=Ju)(P:∀w∈i,Gw w)(v:sbs c i=kw K)(A:K.deep<=4)(N:∀p∈c,p.2.deep<=4)(u:i.length<=10)(m m':Md):C (n+9) 374 [(m,.str j),(m',dE c)]=.ok ((.o .s,K.th),[]):=by
 rw[show n+9=(n+8)+1 from rfl,mm,x_run _ _ _ rfl];have F:(q " "==Str.ofString " ")=true:=OU _;rw[JM] at y;have rk:=λm=>Hw K n m A;have Z:Str.join sp (i.map (sb1 c))=Str.join sp (kw K):=by rw[vE,v]
 have l:∀{w:Str} {k:Kd},c.lookup w=Y k->k.deep<=4:=λ{w k} h=>by obtain⟨a,b,e,_⟩:=List.lookup_eq_some_iff.mp h;exact N _<|by rw[e];exact J2 _ JJ
 have H:(i.map T.str).map (λt=>[((.s,t):W)])=i.map λw=>[(.s,.str w)]:=by rw[K6];rfl
 have G:=fC (tg:=[4]) (f:=dr<|evE (C<|n+8)<|.ifx (.op .inD Jt [.var 4,.var 1]) (.call 364 [.op .ixD Jt [.var 1,.var 4]])<|.var 4) (η:=[Y (.d,.str j),Y (.s,dE c),J,J,J]) (g:=λw:Str=>[((.s,.str w):W)]) (λw=>(sbm c w,.str<|sb1 c w)) i [] (λw u=>by
  refine⟨_,[Y (.d,.str j),Y (.s,dE c),J,J,Y (.s,.str w)],rfl,?_,rfl⟩;have D:keyT (.str w)=Y (.inr w):=rfl;cases h:c.lookup w with
  |none=>
   have z:lookD (.inr w) (dK c) (dV c)=none:=by rw[eV,h];rfl
   have r:sbm c w=.s/\sb1 c w=w:=by unfold sbm sb1;rw[h];exact⟨rfl,rfl⟩
   rw[r.1,r.2];simp_all only[aa,D,z,Option.isSome_none]
  | some k =>
   have z:lookD (.inr w) (dK c) (dV c)=Y k.th:=by rw[eV,h];rfl
   have r:sbm c w=.d/\sb1 c w=Str.join sp (kw k):=by unfold sbm sb1;rw[h];exact⟨rfl,rfl⟩
   rw[r.1,r.2];have kx:C (n+8) 364 [(.s,k.th)]=.ok ((.d,.str (Str.join sp (kw k))),[]):=by have M:=l h;have:=oF k (n+7-k.deep) .s M;rw[show n+7-k.deep+k.deep+1=n+8 by lia] at this;exact this
   simp_all only[aa,D,z,N6,kx])
 have so:sOk (Str.join sp (kw K))=true:=eG (cV K) (JP (x8 A)<|by decide);have tr:trees (i.map λw=>((sbm c w,.str (sb1 c w)):W))=(i.map (sb1 c)).map T.str:=by rw[nq,K6];rfl
 have sm:=rO (xs:=i.map<|sb1 c) (λx hx=>by
  obtain⟨w,u,rfl⟩:=KJ.mp hx;unfold sb1;cases h:c.lookup w with
  |none=>exact JP (P w u).sz<|by decide
  |some k=>exact JP (kY<|l h)<|by decide)<|by rw[JF];exact u
 simp_all only[cQ,F,Q,y.1,y.2,H,G,tr,nM,Z,so,sm,rk,aL]
inductive Rl:OL->U Kd->Kd->Prop
 |not:Rl "not" [.truth] .truth
 |first (a b:Kd):Rl "first" [.pair a b] a
 |second (a b:Kd):Rl "second" [.pair a b] b
 |one (a:Kd):Rl "one" [a] (.row a)
 |upto:Rl "upto" [.num] (.row .num)
 |long (a:Kd):Rl "long" [.row a] .num
 |sum:Rl "sum" [.row .num] .num
 |sums:Rl "sums" [.row .num] (.row .num)
 |most:Rl "most" [.row .num] .num
 |flat (a:Kd):Rl "flat" [.row (.row a)] (.row a)
 |add:Rl "add" [.num,.num] .num
 |sub:Rl "sub" [.num,.num] .num
 |mul:Rl "mul" [.num,.num] .num
 |div:Rl "div" [.num,.num] .num
 |rest:Rl "rest" [.num,.num] .num
 |less:Rl "less" [.num,.num] .truth
 |same:Rl "same" [.num,.num] .truth
 |same2:Rl "same" [.truth,.truth] .truth
 |both:Rl "both" [.truth,.truth] .truth
 |pair (a b:Kd):Rl "pair" [a,b] (.pair a b)
 |pick (a:Kd):Rl "pick" [.row a,.num] a
 |join (a:Kd):Rl "join" [.row a,.row a] (.row a)
 |keep (a:Kd):Rl "keep" [.row a,.row .truth] (.row a)
 |cut (a:Kd):Rl "cut" [.row a,.row .num] (.row (.row a))
 |ifs (a:Kd):Rl "if" [.truth,a,a] a
 |lets (a b:Kd):Rl "let" [a,b] b
 |each (a b:Kd):Rl "each" [.row a,b] (.row b)
 |times (a:Kd):Rl "times" [.num,a,a] a
structure Row (s bw aw:OL)(bs as:U OL):Prop where
 c1:(q s==q "name")=Jt
 c2:keys_LEAVES.contains (q s)=Jt
 c3:(q s==q "none")=Jt
 c4:splS (q bw)=bs.map q
 c5:(decide ((q bw).cps.size+2<=LIM)&&(bs.map q).all sOk)=Ju
 c6:bs.length<=10
 c7:splS (q aw)=as.map q
 c8:(decide ((q aw).cps.size+2<=LIM)&&(as.map q).all sOk)=Ju
 c9:as.length<=10
 cg:∀w∈as.map q,Gw w
def chk (s b a:OL)(bs as:U OL):OF:=!(s=="name")&&!(keys_LEAVES.contains<|q s)&&!(s=="none")&&((splS (q b)==bs.map q)&&(decide ((q b).cps.size+2<=LIM)&&(bs.map q).all sOk)&&decide (bs.length<=10))&&((splS (q a)==as.map q)&&(decide ((q a).cps.size+2<=LIM)&&(as.map q).all sOk)&&decide (as.length<=10))&&as.all (λw=>decide (w.length<=20)&&!(w.toList.map LQ).contains 32)
theorem jl {s f e:OL}{bs as:U OL}(a:chk s f e bs as=Ju):Row s f e bs as:=by
 unfold chk at a;have ⟨a,b⟩:=Kc.mp a;have ⟨a,c⟩:=Kc.mp a;have ⟨a,d⟩:=Kc.mp a;have ⟨a,k⟩:=Kc.mp a;have ⟨i,j⟩:=Kc.mp a;have ⟨c,r⟩:=Kc.mp c;have ⟨o,p⟩:=Kc.mp c;have ⟨d,n⟩:=Kc.mp d;have ⟨l,m⟩:=Kc.mp d;refine⟨by rw[qeq];simpa using i,by simpa using j,by rw[qeq];simpa using k,eq_of_beq l,m,OM n,eq_of_beq o,p,OM r,λw t=>?_⟩;obtain⟨x,hx,rfl⟩:=KJ.mp t;have ⟨h,g⟩:=Kc.mp<|Lb.mp b x hx
 exact dY x (OM h) (λz=>by
  rw[Of.mpr z] at g;cases g)
theorem aI (n:O){s bw aw:OL}{bs as:U OL}{r more:U T}{v:U<|U W}{fd:EV}{a:U Kd}{K:Kd}(c:EV)(G:chk s bw aw bs as=Ju)(u:tab_RULES.lookup (q s)=Y (.tup (.tup [.str<|q bw,.str<|q aw]::more)))(hp:pairsT more=Y v)(H:fit (bs.map q) a []=Y fd)(g:sbs fd (as.map q)=kw K)(F:K.deep<=4)(e:∀p∈fd,p.2.deep<=4)(hk:∀k∈a,k.deep<=10)(N:a.length<=10)(Q Z m2:Md):C (n+10) 372 [(Q,.tup (.str (q s)::r)),(Z,dE c),(m2,.lst<|a.map Kd.th)]=.ok ((.o .s,K.th),[]):=by
 obtain⟨j,l,t,w,x,y,z,A,D,M⟩:=jl G;obtain⟨mf,f,h⟩:=iP (n+8) (q bw) (bs.map q) a fd w x H hk N (by rw[JF];exact y) .s .s;have i:=λm P=>d9 n (q aw) (as.map q) fd K z A M g F e (by rw[JF];exact D) m P;have ep:pairsT (.tup [.str (q bw),.str (q aw)]::more)=Y ([(.s,.str (q bw)),(.s,.str (q aw))]::v):=by show(pairsT more).map _=_;rw[hp];rfl
 have b:∀m,lf m (dE fd)=m:=λm=>rfl;have el:∀m,look (m,dE fd)=if m=.s then Y (.s,dE fd) else none:=λm=>by cases m<;>rfl
 rw[show n+10=(n+9)+1 from rfl,bg,x_run _ _ _ rfl];cases mf with
 |s=>exact OH rfl f
 |d=>simp_all only[aJ,j,l,t,KH,u,ep,h,cw,b,aa,i]
 |o m=>simp_all only[aJ,j,l,t,KH,u,ep,h,cw,b,aa,i]
theorem fd0:∀p∈([]:EV),p.2.deep<=4:=λp h=>nomatch h
theorem fd1 {x:Str}{a:Kd}(h:a.deep<=4):∀p∈([(x,a)]:EV),p.2.deep<=4:=λp hp=>by rw[J4.mp hp];exact h
theorem fd2 {x y:Str}{a b:Kd}(h:a.deep<=4)(c:b.deep<=4):∀p∈([(x,a),(y,b)]:EV),p.2.deep<=4:=λp hp=>by
 rcases JX.mp hp with hp|hp
 .rw[hp];exact h
 .rw[J4.mp hp];exact c
theorem uQ (n:O)(r:U T)(c:EV)(A D F:Md):C (n+10) 372 [(A,.tup (.str (q "same")::r)),(D,dE c),(F,.lst [Kd.truth.th,Kd.truth.th])]=.ok ((.o .s,Kd.truth.th),[]):=by
 have x:chk "same" "truth truth" "truth" ["truth","truth"] ["truth"]=true:=by decide +kernel
 obtain⟨h,i,j,t,u,G,v,w,H,y⟩:=jl x;obtain⟨p,e,b⟩:=iP (n+8) (q "truth truth") (["truth","truth"].map q) [.truth,.truth] [] t u (by simp[fit,bu,qeq,Kd.hd,Kd.ps]) (λk hk=>by rcases JX.mp hk with rfl|hk;decide;rw[J4.mp hk];decide) (by decide) (by decide) .s .s;have f:=λm z=>d9 n (q "truth") (["truth"].map q) [] .truth v w y (by simp[sbs,kw]) (by decide) fd0 (by decide) m z;have g:C (n+8+1) 373 [(.s,.str (q "num num")),(.s,.lst [Kd.truth.th,Kd.truth.th])]=.ok ((.d,.non),[]):=by kernel_rfl
 have l:tab_RULES.lookup (q "same")=Y (.tup [.tup [.str (q "num num"),.str (q "truth")],.tup [.str (q "truth truth"),.str (q "truth")]]):=by kernel_rfl
 have ep:pairsT [.tup [.str (q "num num"),.str (q "truth")],.tup [.str (q "truth truth"),.str (q "truth")]]=Y [[(.s,.str (q "num num")),(.s,.str (q "truth"))],[(.s,.str (q "truth truth")),(.s,.str (q "truth"))]]:=rfl;have a:∀m,lf m (dE [])=m:=λm=>rfl;have b:C (n+8+1) 373 [(.s,.str (q "truth truth")),(.s,.lst [Kd.truth.th,Kd.truth.th])]=.ok ((p,dE []),[]):=b;rw[show n+10=(n+9)+1 from rfl,bg,x_run _ _ _ rfl];cases p with
 |s=>exact OH rfl e
 |d=>simp_all only[aJ,h,i,j,KH,l,ep,g,b,cw,a,aa,f]
 |o m=>simp_all only[aJ,h,i,j,KH,l,ep,g,b,cw,a,aa,f]
theorem rw1 {a:Kd}(h:(Kd.row a).deep<=4):a.deep<=4:=by have:a.deep+1<=4:=h;lia
theorem DR {s:OL}{j:U Kd}{K:Kd}(h:Rl s j K)(hk:∀k∈j,k.deep<=4)(e:K.deep<=4)(n:O)(r:U T)(c:EV)(f g i:Md):C (n+10) 372 [(f,.tup (.str (q s)::r)),(g,dE c),(i,.lst<|j.map Kd.th)]=.ok ((.o .s,K.th),[]):=by
 have d:∀k∈j,k.deep<=10:=λk h=>JP (hk k h) (by decide);cases h with
 |same2=>exact uQ n r c f g i
 |not=>exact aI n (bw:="truth") (aw:="truth") (bs:=["truth"]) (as:=["truth"]) (more:=[]) (fd:=[]) c (by decide +kernel) (by kernel_rfl) rfl (by simp[fit,bu,qeq,Kd.hd,Kd.ps,JI,av]) (by simp[sbs,kw,qeq,JI]) e (fd0) d (by simp) f g i
 |first a b=>exact aI n (bw:="pair K L") (aw:="K") (bs:=["pair","K","L"]) (as:=["K"]) (more:=[]) (fd:=[(q "K",K),(q "L",b)]) c (by decide +kernel) (by kernel_rfl) rfl (by simp[fit,bu,qeq,Kd.hd,Kd.ps,JI,av]) (by simp[sbs,kw,qeq,JI]) e (fd2 (by have:max K.deep b.deep+1<=4:=hk _ JJ;lia) (by have:max K.deep b.deep+1<=4:=hk _ JJ;lia)) d (by simp) f g i
 |second a b=>exact aI n (bw:="pair K L") (aw:="L") (bs:=["pair","K","L"]) (as:=["L"]) (more:=[]) (fd:=[(q "K",a),(q "L",K)]) c (by decide +kernel) (by kernel_rfl) rfl (by simp[fit,bu,qeq,Kd.hd,Kd.ps,JI,av]) (by simp[sbs,kw,qeq,JI]) e (fd2 (by have:max a.deep K.deep+1<=4:=hk _ JJ;lia) (by have:max a.deep K.deep+1<=4:=hk _ JJ;lia)) d (by simp) f g i
 |one a=>exact aI n (bw:="K") (aw:="row K") (bs:=["K"]) (as:=["row","K"]) (more:=[]) (fd:=[(q "K",a)]) c (by decide +kernel) (by kernel_rfl) rfl (by simp[fit,bu,qeq,Kd.hd,Kd.ps,JI,av]) (by simp[sbs,kw,qeq,JI]) e (fd1<|hk _ JJ) d (by simp) f g i
 |upto=>exact aI n (bw:="num") (aw:="row num") (bs:=["num"]) (as:=["row","num"]) (more:=[]) (fd:=[]) c (by decide +kernel) (by kernel_rfl) rfl (by simp[fit,bu,qeq,Kd.hd,Kd.ps,JI,av]) (by simp[sbs,kw,qeq,JI]) e (fd0) d (by simp) f g i
 |long a=>exact aI n (bw:="row K") (aw:="num") (bs:=["row","K"]) (as:=["num"]) (more:=[]) (fd:=[(q "K",a)]) c (by decide +kernel) (by kernel_rfl) rfl (by simp[fit,bu,qeq,Kd.hd,Kd.ps,JI,av]) (by simp[sbs,kw,qeq,JI]) e (fd1<|rw1<|hk _ JJ) d (by simp) f g i
 |sum=>exact aI n (bw:="row num") (aw:="num") (bs:=["row","num"]) (as:=["num"]) (more:=[]) (fd:=[]) c (by decide +kernel) (by kernel_rfl) rfl (by simp[fit,bu,qeq,Kd.hd,Kd.ps,JI,av]) (by simp[sbs,kw,qeq,JI]) e (fd0) d (by simp) f g i
 |sums=>exact aI n (bw:="row num") (aw:="row num") (bs:=["row","num"]) (as:=["row","num"]) (more:=[]) (fd:=[]) c (by decide +kernel) (by kernel_rfl) rfl (by simp[fit,bu,qeq,Kd.hd,Kd.ps,JI,av]) (by simp[sbs,kw,qeq,JI]) e (fd0) d (by simp) f g i
 |most=>exact aI n (bw:="row num") (aw:="num") (bs:=["row","num"]) (as:=["num"]) (more:=[]) (fd:=[]) c (by decide +kernel) (by kernel_rfl) rfl (by simp[fit,bu,qeq,Kd.hd,Kd.ps,JI,av]) (by simp[sbs,kw,qeq,JI]) e (fd0) d (by simp) f g i
 |flat a=>exact aI n (bw:="row row K") (aw:="row K") (bs:=["row","row","K"]) (as:=["row","K"]) (more:=[]) (fd:=[(q "K",a)]) c (by decide +kernel) (by kernel_rfl) rfl (by simp[fit,bu,qeq,Kd.hd,Kd.ps,JI,av]) (by simp[sbs,kw,qeq,JI]) e (fd1<|rw1 e) d (by simp) f g i
 |add=>exact aI n (bw:="num num") (aw:="num") (bs:=["num","num"]) (as:=["num"]) (more:=[]) (fd:=[]) c (by decide +kernel) (by kernel_rfl) rfl (by simp[fit,bu,qeq,Kd.hd,Kd.ps,JI,av]) (by simp[sbs,kw,qeq,JI]) e (fd0) d (by simp) f g i
 |sub=>exact aI n (bw:="num num") (aw:="num") (bs:=["num","num"]) (as:=["num"]) (more:=[]) (fd:=[]) c (by decide +kernel) (by kernel_rfl) rfl (by simp[fit,bu,qeq,Kd.hd,Kd.ps,JI,av]) (by simp[sbs,kw,qeq,JI]) e (fd0) d (by simp) f g i
 |mul=>exact aI n (bw:="num num") (aw:="num") (bs:=["num","num"]) (as:=["num"]) (more:=[]) (fd:=[]) c (by decide +kernel) (by kernel_rfl) rfl (by simp[fit,bu,qeq,Kd.hd,Kd.ps,JI,av]) (by simp[sbs,kw,qeq,JI]) e (fd0) d (by simp) f g i
 |div=>exact aI n (bw:="num num") (aw:="num") (bs:=["num","num"]) (as:=["num"]) (more:=[]) (fd:=[]) c (by decide +kernel) (by kernel_rfl) rfl (by simp[fit,bu,qeq,Kd.hd,Kd.ps,JI,av]) (by simp[sbs,kw,qeq,JI]) e (fd0) d (by simp) f g i
 |rest=>exact aI n (bw:="num num") (aw:="num") (bs:=["num","num"]) (as:=["num"]) (more:=[]) (fd:=[]) c (by decide +kernel) (by kernel_rfl) rfl (by simp[fit,bu,qeq,Kd.hd,Kd.ps,JI,av]) (by simp[sbs,kw,qeq,JI]) e (fd0) d (by simp) f g i
 |less=>exact aI n (bw:="num num") (aw:="truth") (bs:=["num","num"]) (as:=["truth"]) (more:=[]) (fd:=[]) c (by decide +kernel) (by kernel_rfl) rfl (by simp[fit,bu,qeq,Kd.hd,Kd.ps,JI,av]) (by simp[sbs,kw,qeq,JI]) e (fd0) d (by simp) f g i
 |same=>exact aI n (bw:="num num") (aw:="truth") (bs:=["num","num"]) (as:=["truth"]) (more:=[.tup [.str<|q "truth truth",.str<|q "truth"]]) (fd:=[]) c (by decide +kernel) (by kernel_rfl) rfl (by simp[fit,bu,qeq,Kd.hd,Kd.ps,JI,av]) (by simp[sbs,kw,qeq,JI]) e (fd0) d (by simp) f g i
 |both=>exact aI n (bw:="truth truth") (aw:="truth") (bs:=["truth","truth"]) (as:=["truth"]) (more:=[]) (fd:=[]) c (by decide +kernel) (by kernel_rfl) rfl (by simp[fit,bu,qeq,Kd.hd,Kd.ps,JI,av]) (by simp[sbs,kw,qeq,JI]) e (fd0) d (by simp) f g i
 |pair a b=>exact aI n (bw:="K L") (aw:="pair K L") (bs:=["K","L"]) (as:=["pair","K","L"]) (more:=[]) (fd:=[(q "K",a),(q "L",b)]) c (by decide +kernel) (by kernel_rfl) rfl (by simp[fit,bu,qeq,Kd.hd,Kd.ps,JI,av]) (by simp[sbs,kw,qeq,JI]) e (fd2 (hk _ JJ)<|hk _<|JW _ JJ) d (by simp) f g i
 |pick a=>exact aI n (bw:="row K num") (aw:="K") (bs:=["row","K","num"]) (as:=["K"]) (more:=[]) (fd:=[(q "K",K)]) c (by decide +kernel) (by kernel_rfl) rfl (by simp[fit,bu,qeq,Kd.hd,Kd.ps,JI,av]) (by simp[sbs,kw,qeq,JI]) e (fd1 e) d (by simp) f g i
 |join a=>exact aI n (bw:="row K row K") (aw:="row K") (bs:=["row","K","row","K"]) (as:=["row","K"]) (more:=[]) (fd:=[(q "K",a)]) c (by decide +kernel) (by kernel_rfl) rfl (by simp[fit,bu,qeq,Kd.hd,Kd.ps,JI,av]) (by simp[sbs,kw,qeq,JI]) e (fd1<|rw1 e) d (by simp) f g i
 |keep a=>exact aI n (bw:="row K row truth") (aw:="row K") (bs:=["row","K","row","truth"]) (as:=["row","K"]) (more:=[]) (fd:=[(q "K",a)]) c (by decide +kernel) (by kernel_rfl) rfl (by simp[fit,bu,qeq,Kd.hd,Kd.ps,JI,av]) (by simp[sbs,kw,qeq,JI]) e (fd1<|rw1 e) d (by simp) f g i
 |cut a=>exact aI n (bw:="row K row num") (aw:="row row K") (bs:=["row","K","row","num"]) (as:=["row","row","K"]) (more:=[]) (fd:=[(q "K",a)]) c (by decide +kernel) (by kernel_rfl) rfl (by simp[fit,bu,qeq,Kd.hd,Kd.ps,JI,av]) (by simp[sbs,kw,qeq,JI]) e (fd1<|rw1<|rw1 e) d (by simp) f g i
 |lets a b=>exact aI n (bw:="K L") (aw:="L") (bs:=["K","L"]) (as:=["L"]) (more:=[]) (fd:=[(q "K",a),(q "L",K)]) c (by decide +kernel) (by kernel_rfl) rfl (by simp[fit,bu,qeq,Kd.hd,Kd.ps,JI,av]) (by simp[sbs,kw,qeq,JI]) e (fd2 (hk _ JJ) e) d (by simp) f g i
 |ifs a=>exact aI n (bw:="truth K K") (aw:="K") (bs:=["truth","K","K"]) (as:=["K"]) (more:=[]) (fd:=[(q "K",K)]) c (by decide +kernel) (by kernel_rfl) rfl (by simp[fit,bu,qeq,Kd.hd,Kd.ps,JI,av]) (by simp[sbs,kw,qeq,JI]) e (fd1 e) d (by simp) f g i
 |each a b=>exact aI n (bw:="row K L") (aw:="row L") (bs:=["row","K","L"]) (as:=["row","L"]) (more:=[]) (fd:=[(q "K",a),(q "L",b)]) c (by decide +kernel) (by kernel_rfl) rfl (by simp[fit,bu,qeq,Kd.hd,Kd.ps,JI,av]) (by simp[sbs,kw,qeq,JI]) e (fd2 (rw1<|hk _ JJ)<|rw1 e) d (by simp) f g i
 |times a=>exact aI n (bw:="num K K") (aw:="K") (bs:=["num","K","K"]) (as:=["K"]) (more:=[]) (fd:=[(q "K",K)]) c (by decide +kernel) (by kernel_rfl) rfl (by simp[fit,bu,qeq,Kd.hd,Kd.ps,JI,av]) (by simp[sbs,kw,qeq,JI]) e (fd1 e) d (by simp) f g i
def nob (s:OL):OF:=!(s=="let" || s=="each" || s=="times")
theorem pQ {b:Type}{r:U b}(h:r.length=1):∃a,r=[a]:=by
 match r,h with
 |[a],_=>exact⟨a,rfl⟩
theorem cK {c:Type}{r:U c}(h:r.length=2):∃a b,r=[a,b]:=by
 match r,h with
 |[a,b],_=>exact⟨a,b,rfl⟩
theorem xo (s:OL):∀a:U OL,((a.map λx=>T.str<|q x).any λt=>eqT t<|.str<|q s)=a.contains s
|[]=>rfl
|x::a=>by rw[JQ,KL,Nl,xo s a];show(q x==q s || _)=_;rw[qeq,Me]
theorem fP (s a b:OL):([T.str<|q a,.str<|q b].any λt=>eqT t<|.str<|q s)=[a,b].contains s:=xo s [a,b]
theorem fQ (s a b c:OL):([T.str<|q a,.str<|q b,.str<|q c].any λt=>eqT t<|.str<|q s)=[a,b,c].contains s:=xo s [a,b,c]
theorem jC (s a b c d e:OL):([T.str<|q a,.str<|q b,.str<|q c,.str<|q d,.str<|q e].any λt=>eqT t<|.str<|q s)=[a,b,c,d,e].contains s:=xo s [a,b,c,d,e]
theorem fl2 (s a b:Str):(flatT (.str s)&&[T.str a,.str b].all flatT)=true:=rfl
theorem fl3 (s a b c:Str):(flatT (.str s)&&[T.str a,.str b,.str c].all flatT)=true:=rfl
theorem fl5 (s a b c d e:Str):(flatT (.str s)&&[T.str a,.str b,.str c,.str d,.str e].all flatT)=true:=rfl
theorem nN (C:Call):∀(a b:U S) (c:Env),evSs C (a++b) c=(evSs C a c).seq (evSs C b)
|[],b,c=>rfl
|s::a,b,c=>by show(evS C s c).seq (evSs C<|a++b)=((evS C s c).seq<|evSs C a).seq (evSs C b);cases evS C s c<;>first|rfl|exact nN C a b _
theorem go1 {C:Call}{a b:U S}{d c:Env}(h:evSs C a d=.nx c):evSs C (a++b) d=evSs C b c:=by rw[nN,h];rfl
abbrev Bk (f:Fn)(i j:O):U S:=(f.body.drop i).take j
abbrev kbE (s:OL)(r:U T)(k:T):Env:=[Y (.s,.tup (.str (q s)::r)),Y (.o .s,k),Y (.d,.tup [.str<|q "num"]),Y (.d,.tup [.str<|q "truth"]),Y (.d,.str<|q s),J]
theorem AO {s:OL}{l:U Kd}{K:Kd}(h:Rl s l K)(p:nob s=Ju)(hk:∀k∈l,k.deep<=4)(n:O)(r:U T)(i:r.length=l.length):∃v,C (n+1) 385 [(.s,.tup (.str (q s)::r)),(.o .s,.lst<|l.map Kd.th)]=.ok ((v,K.th),[]):=by
 cases h with
 |lets=>cases p
 |each=>cases p
 |times=>cases p
 | join a =>
  refine⟨.s,?_⟩;have:=cD<|.row a;have u:(Kd.row a).deep<=4:=hk _ JJ;have e1:=λm j=>bZ Jt m j (Kd.row a).th (Kd.row a).th (by lia) (by lia);have e2:=av<|.row a;have c1:["add","sub","mul","div","rest"].contains "join"=false:=by decide
  have e:["yes","no","less","both","not"].contains "join"=false:=by decide
  have f:["num","none"].contains "join"=false:=by decide
  have c4:["one","pair"].contains "join"=false:=by decide
  have g:["first","second"].contains "join"=false:=by decide
  have c6:["sum","most","sums"].contains "join"=false:=by decide
  have H:evSs (C n) (Bk f_law_kind_by 0 14) [Y (.s,.tup (.str (q "join")::r)),Y (.o .s,.lst [(Kd.row a).th,(Kd.row a).th]),J,J,J,J]=.nx (kbE "join" r (.lst [(Kd.row a).th,(Kd.row a).th])):=by simp_all only[Bk,JC,JB,JG,JH,f_law_kind_by,qeq,fP,fQ,jC,fl2,fl3,fl5,c1,e,f,c4,g,c6,Kd.th]
  rw[bf,x_run _ _ _ rfl,show f_law_kind_by.body=Bk f_law_kind_by 0 14++f_law_kind_by.body.drop 14 from rfl];show Fl.out _ (evSs (C n) _ [Y (.s,.tup (.str (q "join")::r)),Y (.o .s,.lst [(Kd.row a).th,(Kd.row a).th]),J,J,J,J])=_;rw[go1 H];simp_all only[Bk,JC,JB,JG,JH,f_law_kind_by,qeq,fP,fQ,jC,fl2,fl3,fl5,c1,e,f,c4,g,c6,e1,e2,aF]
 | ifs =>
  refine⟨.s,?_⟩;have:=cD K;have u:K.deep<=4:=hk _<|JW _ JJ;have e1:=λm j=>bZ Jt m j K.th K.th (by lia) (by lia);have t:=λm j=>bZ Jt m j Kd.truth.th Kd.truth.th (by decide) (by decide);have e2:=av K;have e3:=av .truth;rw[show Kd.truth.th=.tup [.str<|q "truth"] from rfl] at t e3;have c1:["add","sub","mul","div","rest"].contains "if"=false:=by decide
  have e:["yes","no","less","both","not"].contains "if"=false:=by decide
  have f:["num","none"].contains "if"=false:=by decide
  have c4:["one","pair"].contains "if"=false:=by decide
  have g:["first","second"].contains "if"=false:=by decide
  have H:evSs (C n) (Bk f_law_kind_by 0 9) [Y (.s,.tup (.str (q "if")::r)),Y (.o .s,.lst [Kd.truth.th,K.th,K.th]),J,J,J,J]=.nx (kbE "if" r (.lst [Kd.truth.th,K.th,K.th])):=by simp_all only[Bk,JC,JB,JG,JH,f_law_kind_by,qeq,fP,fQ,jC,fl2,fl3,fl5,c1,e,f,c4,g]
  rw[bf,x_run _ _ _ rfl,show f_law_kind_by.body=Bk f_law_kind_by 0 9++f_law_kind_by.body.drop 9 from rfl];show Fl.out _ (evSs (C n) _ [Y (.s,.tup (.str (q "if")::r)),Y (.o .s,.lst [Kd.truth.th,K.th,K.th]),J,J,J,J])=_;rw[go1 H];simp_all only[Bk,JC,JB,JG,JH,f_law_kind_by,qeq,fP,fQ,jC,fl2,fl3,fl5,c1,e,f,c4,g,show Kd.truth.th=.tup [.str<|q "truth"] from rfl,e1,e2,t,e3,aF]
 | one a =>
  refine⟨.o .s,?_⟩;have c1:["add","sub","mul","div","rest"].contains "one"=false:=by decide
  have e:["yes","no","less","both","not"].contains "one"=false:=by decide
  have f:["num","none"].contains "one"=false:=by decide
  have c4:["one","pair"].contains "one"=true:=by decide
  have H:evSs (C n) (Bk f_law_kind_by 0 7) [Y (.s,.tup (.str (q "one")::r)),Y (.o .s,.lst [a.th]),J,J,J,J]=.nx (kbE "one" r (.lst [a.th])):=by simp_all only[Bk,JC,JB,JG,JH,f_law_kind_by,qeq,fP,fQ,jC,fl2,fl3,fl5,c1,e,f,c4]
  rw[bf,x_run _ _ _ rfl,show f_law_kind_by.body=Bk f_law_kind_by 0 7++f_law_kind_by.body.drop 7 from rfl];show Fl.out _ (evSs (C n) _ [Y (.s,.tup (.str (q "one")::r)),Y (.o .s,.lst [a.th]),J,J,J,J])=_;rw[go1 H];simp_all only[Bk,JC,JB,JG,JH,f_law_kind_by,qeq,fP,fQ,jC,fl2,fl3,fl5,c1,e,f,c4,aL];rfl
 | pair a b =>
  refine⟨.o .s,?_⟩;have c1:["add","sub","mul","div","rest"].contains "pair"=false:=by decide
  have e:["yes","no","less","both","not"].contains "pair"=false:=by decide
  have f:["num","none"].contains "pair"=false:=by decide
  have c4:["one","pair"].contains "pair"=true:=by decide
  have H:evSs (C n) (Bk f_law_kind_by 0 7) [Y (.s,.tup (.str (q "pair")::r)),Y (.o .s,.lst [a.th,b.th]),J,J,J,J]=.nx (kbE "pair" r (.lst [a.th,b.th])):=by simp_all only[Bk,JC,JB,JG,JH,f_law_kind_by,qeq,fP,fQ,jC,fl2,fl3,fl5,c1,e,f,c4]
  rw[bf,x_run _ _ _ rfl,show f_law_kind_by.body=Bk f_law_kind_by 0 7++f_law_kind_by.body.drop 7 from rfl];show Fl.out _ (evSs (C n) _ [Y (.s,.tup (.str (q "pair")::r)),Y (.o .s,.lst [a.th,b.th]),J,J,J,J])=_;rw[go1 H];simp_all only[Bk,JC,JB,JG,JH,f_law_kind_by,qeq,fP,fQ,jC,fl2,fl3,fl5,c1,e,f,c4,aL];rfl
 |upto=>obtain⟨A,rfl⟩:=pQ i;exact⟨.o .s,by kernel_rfl⟩
 |long=>obtain⟨A,rfl⟩:=pQ i;exact⟨.d,by kernel_rfl⟩
 |cut=>obtain⟨A,c,rfl⟩:=cK i;exact⟨.o .s,by kernel_rfl⟩
 |_=>first
  |(obtain⟨A,rfl⟩:=pQ i;exact⟨.s,by kernel_rfl⟩)
  |(obtain⟨A,c,rfl⟩:=cK i;exact⟨.s,by kernel_rfl⟩)
theorem jP:∀(k:Kd) (n:O) (m:Md),C (n+k.deep+1) 377 [(m,k.th)]=.ok ((.d,.int ((k.deep+1:O):I)),[])
|.num,n,m=>by
 rw[b8,x_run _ _ _ rfl];have c:fits ([T.int 0].length+([]:U T).length)=true:=by decide
 simp_all only[a6,Kd.th,bJ,dN,aM,OG c,intsOf,maxI,MC];rfl
|.truth,n,m=>by
 rw[b8,x_run _ _ _ rfl];have c:fits ([T.int 0].length+([]:U T).length)=true:=by decide
 simp_all only[a6,Kd.th,bJ,dN,aM,OG c,intsOf,maxI,MC];rfl
|.row a,n,m=>by
 rw[show n+(Kd.row a).deep+1=(n+a.deep+1)+1 from rfl,b8,x_run _ _ _ rfl];have g:=λm=>jP a n m;have c:fits ([T.int 0].length+[T.int ((a.deep+1:O):I)].length)=true:=rfl;have e1:(1:I)+max 0 ((a.deep+1:O):I)=(((Kd.row a).deep+1:O):I):=by show _=((a.deep+1+1:O):I);lia
 simp_all only[a6,Kd.th,bJ,dN,aM,OG c,intsOf,maxI,MC,aF,g,LU,e1]
|.pair a b,n,m=>by
 rw[show n+(Kd.pair a b).deep+1=(n+max a.deep b.deep+1)+1 from rfl,b8,x_run _ _ _ rfl];have e:=λm=>jP a (n+max a.deep b.deep-a.deep) m;have f:=λm=>jP b (n+max a.deep b.deep-b.deep) m;rw[show n+max a.deep b.deep-a.deep+a.deep=n+max a.deep b.deep by lia] at e;rw[show n+max a.deep b.deep-b.deep+b.deep=n+max a.deep b.deep by lia] at f;have c:fits ([T.int 0].length+[T.int ((a.deep+1:O):I),T.int ((b.deep+1:O):I)].length)=true:=rfl;have e1:(1:I)+max 0 (max ((a.deep+1:O):I) ((b.deep+1:O):I))=(((Kd.pair a b).deep+1:O):I):=by show _=((max a.deep b.deep+1+1:O):I);lia
 simp_all only[a6,Kd.th,bJ,dN,aM,OG c,intsOf,maxI,MC,aF,e,f,LU,e1]
theorem jN {k:Kd}{L:O}(h:k.deep<L)(m:Md):C L 377 [(m,k.th)]=.ok ((.d,.int ((k.deep+1:O):I)),[]):=by have:=jP k (L-k.deep-1) m;rwa[show L-k.deep-1+k.deep+1=L by lia] at this
theorem fN (k:Kd):k.th.isG=Jt/\k.th.isN=false:=by cases k<;>exact⟨rfl,rfl⟩
noncomputable abbrev pT (p:U O):U T:=p.map λ(i:O)=>T.int (i:I)
abbrev nt (p:U O)(k:Kd):T:=.tup [.tup<|pT p,k.th]
theorem cR {k:Kd}(hk:k.deep<=4){L:O}(f:7<=L)(p:U O)(a:U T)(c:a.length<LIM)(d e:Md):C L 386 [(d,.tup<|pT p),(e,k.th),(.o .s,.lst a)]=.ok ((.s,k.th),[(.o .s,.lst<|a++[nt p k])]):=by obtain⟨l,rfl⟩:∃l,L=l+1:=⟨L-1,by lia⟩;have hd:=λm=>jN (k:=k) (L:=l) (by lia) m;have b:decide ((5:I)<((k.deep+1:O):I))=false:=OR (by lia);rw[je,x_run _ _ _ rfl];simp_all only[bS,aF,(fN k).1,(fN k).2,hd,b,aa,OG c,aL]
inductive Ty:O->EV->Kd->T->Prop
 |name {d:O} {e:EV} {x:Str} {k:Kd}:e.lookup x=Y k->k.deep<=4->Ty (d+1) e k (.tup [.str (q "name"),.str x])
 |num {d:O} {e:EV} {i:I}:Ty (d+1) e .num (.tup [.str (q "num"),.int i])
 |yes {d:O} {e:EV}:Ty (d+1) e .truth (.tup [.str (q "yes")])
 |no {d:O} {e:EV}:Ty (d+1) e .truth (.tup [.str (q "no")])
 |none {d:O} {e:EV} {a:Kd}:a.deep<=3->Ty (d+1) e (.row a) (.tup [.str (q "none"),a.th])
 |op1 {d:O} {e:EV} {s:OL} {a k:Kd} {A:T}:Rl s [a] k->k.deep<=4->Ty d e a A->Ty (d+1) e k (.tup [.str (q s),A])
 |op2 {d:O} {e:EV} {s:OL} {a b k:Kd} {A B:T}:Rl s [a,b] k->nob s=Ju->k.deep<=4->Ty d e a A->Ty d e b B->Ty (d+1) e k (.tup [.str (q s),A,B])
 |ifs {d:O} {e:EV} {k:Kd} {A B D:T}:Ty d e .truth A->Ty d e k B->Ty d e k D->Ty (d+1) e k (.tup [.str (q "if"),A,B,D])
 |lets {d:O} {e:EV} {x:Str} {a k:Kd} {A B:T}:e.lookup x=J->Ty d e a A->Ty d (e++[(x,a)]) k B->Ty (d+1) e k (.tup [.str (q "let"),.str x,A,B])
 |each {d:O} {e:EV} {x:Str} {a b:Kd} {A B:T}:e.lookup x=J->b.deep<=3->Ty d e (.row a) A->Ty d (e++[(x,a)]) b B->Ty (d+1) e (.row b) (.tup [.str (q "each"),.str x,A,B])
 |times {d:O} {e:EV} {x:Str} {k:Kd} {A B D:T}:e.lookup x=J->Ty d e .num A->Ty d e k B->Ty d (e++[(x,k)]) k D->Ty (d+1) e k (.tup [.str (q "times"),.str x,A,B,D])
theorem Ty.dk:∀{d:O} {e:EV} {k:Kd} {t:T},Ty d e k t->k.deep<=4
|0,_,_,_,h=>nomatch h
|d+1,_,_,_,h=>by
 cases h with
 |name _ h=>exact h
 |num=>decide
 |yes=>decide
 |no=>decide
 |none h=>show _+1<=4;lia
 |op1 _ h _=>exact h
 |op2 _ _ h _ _=>exact h
 |ifs _ h _=>exact h.dk
 |lets _ _ h=>exact h.dk
 |each _ h _ _=>show _+1<=4;lia
 |times _ _ h _=>exact h.dk
theorem Ty.up:∀{d f:O} {e:EV} {k:Kd} {t:T},Ty d e k t->d<=f->Ty f e k t
|0,_,_,_,_,h,_=>nomatch h
|d+1,0,_,_,_,_,e=>OH e<|by lia
|d+1,f+1,_,_,_,h,e=>by
 cases h with
 |name h g=>exact .name h g
 |num=>exact .num
 |yes=>exact .yes
 |no=>exact .no
 |none h=>exact .none h
 |op1 r h a=>exact .op1 r h<|a.up<|by lia
 |op2 r n h a b=>exact .op2 r n h (a.up<|by lia)<|b.up<|by lia
 |ifs a b c=>exact .ifs (a.up<|by lia) (b.up<|by lia)<|c.up<|by lia
 |lets h a b=>exact .lets h (a.up<|by lia)<|b.up<|by lia
 |each h g a b=>exact .each h g (a.up<|by lia)<|b.up<|by lia
 |times h a b c=>exact .times h (a.up<|by lia) (b.up<|by lia)<|c.up<|by lia
theorem gO (n:O){s:Str}(r:U T)(h:keys_AHEAD.contains s=Jt)(m:Md):C (n+2) 176 [(m,.tup (.str s::r))]=.ok ((.s,.tup r),[]):=by have e:=λm=>uX n s m;rw[h] at e;rw[show n+2=(n+1)+1 from rfl,kR,x_run _ _ _ rfl];simp_all only[dG,e,bJ,dN]
theorem eW (n:O){s:Str}(x:T)(r:U T)(h:keys_AHEAD.contains s=Ju)(m:Md):C (n+2) 176 [(m,.tup (.str s::x::r))]=.ok ((.s,.tup r),[]):=by have e:=λm=>uX n s m;rw[h] at e;rw[show n+2=(n+1)+1 from rfl,kR,x_run _ _ _ rfl];simp_all only[dG,e,bJ,yn]
theorem ni (n:O)(s:Str)(r:U T)(m:Md):C (n+1) 233 [(m,.tup (.str s::r))]=.ok ((.s,(tab_BINDING.lookup s).getD .non),[]):=by rw[lC,x_run _ _ _ rfl];simp_all only[cX]
abbrev AB:U S:=[
   .asg (.q [2] []) 7 (.var 2),
   .ite (.q [0] [5]) (.op .eq Jt [.var 5,.call 233 [.var 0]]) [
    .asg (.l [0,1,2]) 7 (.call 370 [.var 0,.var 1,.var 2,.io 4])] [],
   .app (.l [1,6,7]) 4 (.call 369 [.var 6,.op .catT Jt [.var 1,.tup [.var 5]],.var 7,.io 3])]
def AK (d:O)(e:EV)(k:Kd)(t:T)(p:U O)(c:U T):Prop:=∀a,d+12<=a->∀(b:U T) (f g h:Md),b.length+c.length<LIM->C a 369 [(f,t),(g,.tup<|pT p),(h,dE e),(.o .s,.lst b)]=.ok ((.s,k.th),[(.o .s,.lst<|b++c)])
def LK (d:O)(e:EV)(k:Kd)(t:T)(p:U O)(c:U T):Prop:=∀a,d+12<=a->∀(b:U T) (f g:Md),b.length+c.length<LIM->C a 387 [(f,t),(.s,dE e),(g,.tup<|pT p),(.o .s,.lst b)]=.ok ((.s,k.th),[(.o .s,.lst<|b++c)])
theorem eh (m:Md)(e:EV):lf m (dE e)=m:=rfl
theorem mU (p:U O)(i:O):pT p++[T.int (i:I)]=pT (p++[i]):=by rw[pT,pT,KS];rfl
theorem jA {p:U O}(h:p.length<=100)(x:T):fits ((pT p).length+[x].length)=true:=OE<|by rw[JF,JL];show _<=16777215;lia
theorem tA {c d i:O}{t A b:T}{a:Kd}{p:U O}{e:EV}{g f ins:U T}(k:C c 233 [(.s,t)]=.ok ((.s,b),[]))(l:eqT (.int (i:I)) b=Jt)(hd:dp b<=64)(h:AK d e a A (p++[i]) g)(j:d+12<=c)(r:f.length+g.length<LIM)(z:ins.length<=10)(hp:p.length<=100)(w x:Md)(y:L W):
  evSs (C c) AB [Y (.s,t),Y (w,.tup<|pT p),Y (x,dE e),Y (.o .s,.lst f),Y (.o .s,.lst ins),Y (.d,.int (i:I)),Y (.s,A),y,J]=.nx [Y (.s,t),Y (.s,.tup<|pT p),Y (.s,dE e),Y (.o .s,.lst<|f++g),Y (.o .s,.lst<|ins++[a.th]),Y (.d,.int (i:I)),Y (.s,A),Y (.s,dE e),J]:=by
 have u:=h c j f .s .s .s r;have e1:=λm n=>bZ Jt m n (.int (i:I)) b (by show 0<=64;decide) hd;have v:ins.length<LIM:=by show _<16777215;lia
 simp_all only[aa,eh,k,e1,l,mU,jA hp,u,OG v,aL]
theorem Ep (n:O){s x:Str}{r:U T}{p:T}{e:EV}{a:U Kd}{k:Kd}(hx:e.lookup x=J)(i:e.length<=100)(c:∀m,C (n+1) 371 [(m,.str s),(.o .s,.lst<|a.map Kd.th)]=.ok ((.s,k.th),[(.o .s,.lst<|a.map Kd.th)]))(d f g:Md):
  C (n+2) 370 [(d,.tup (.str s::.str x::r)),(f,p),(g,dE e),(.o .s,.lst<|a.map Kd.th)]=.ok ((.o .s,dE<|e++[(x,k)]),[(.o .s,.lst<|a.map Kd.th)]):=by
 have h:∀m b,dC (.o .s,dE e) (m,.str x) (b,k.th)=Y (.o .s,dE (e++[(x,k)])):=λm b=>by show(if decide ((dK e).length<LIM)=Ju then Y ((.o .s,.dct (putT (.inr x) k.th (dK e)<|dV e).1 (putT (.inr x) k.th (dK e)<|dV e).2):W) else J)=_;rw[OG<|OE<|by rw[JF];show _<16777215;lia,mD x k e hx]
 rw[show n+2=(n+1)+1 from rfl,ig,x_run _ _ _ rfl];simp_all only[bB,c,aL,aF,(fN k).1,(fN k).2,aa,eh,h]
theorem Dq (n:O)(a:Kd)(m:Md):C (n+1) 371 [(m,.str<|q "let"),(.o .s,.lst<|[a].map Kd.th)]=.ok ((.s,a.th),[(.o .s,.lst<|[a].map Kd.th)]):=by rw[cM,x_run _ _ _ rfl];simp_all only[a9,qeq]
theorem xP (n:O)(a:Kd)(m:Md):C (n+1) 371 [(m,.str<|q "each"),(.o .s,.lst<|[.row a].map Kd.th)]=.ok ((.s,a.th),[(.o .s,.lst<|[.row a].map Kd.th)]):=by rw[cM,x_run _ _ _ rfl];simp_all only[a9,qeq,Kd.th]
theorem ur (n:O)(k:Kd)(m:Md):C (n+1) 371 [(m,.str<|q "times"),(.o .s,.lst<|[.num,k].map Kd.th)]=.ok ((.s,k.th),[(.o .s,.lst<|[.num,k].map Kd.th)]):=by have a:=λm b=>bZ Jt m b Kd.num.th Kd.num.th (by decide) (by decide);have e3:=av .num;rw[show Kd.num.th=.tup [.str<|q "num"] from rfl] at a e3;rw[cM,x_run _ _ _ rfl];simp_all only[a9,qeq,show Kd.num.th=.tup [.str<|q "num"] from rfl,a,e3]
theorem tB {b d i:O}{s x:Str}{r:U T}{A:T}{a k:Kd}{p:U O}{e:EV}{h c:U T}{ins:U Kd}(u:C b 233 [(.s,.tup (.str s::.str x::r))]=.ok ((.s,.int (i:I)),[]))(hx:e.lookup x=J)(g:e.length<=100)(f:∀m,C (b-1) 371 [(m,.str s),(.o .s,.lst<|ins.map Kd.th)]=.ok ((.s,k.th),[(.o .s,.lst<|ins.map Kd.th)]))(j:AK d (e++[(x,k)]) a A (p++[i]) h)(t:d+12<=b)(v:c.length+h.length<LIM)(H:ins.length<=10)(hp:p.length<=100)(z D:Md)(F:L W):
  evSs (C b) AB [Y (.s,.tup (.str s::.str x::r)),Y (z,.tup<|pT p),Y (D,dE e),Y (.o .s,.lst c),Y (.o .s,.lst<|ins.map Kd.th),Y (.d,.int (i:I)),Y (.s,A),F,J]=.nx [Y (.s,.tup (.str s::.str x::r)),Y (.s,.tup<|pT p),Y (.s,dE e),Y (.o .s,.lst<|c++h),Y (.o .s,.lst<|(ins++[a]).map Kd.th),Y (.d,.int (i:I)),Y (.s,A),Y (.s,dE<|e++[(x,k)]),J]:=by
 have w:=j b t c .s .s .s v;have e1:=λm n=>bZ Jt m n (.int (i:I)) (.int (i:I)) (by show 0<=64;decide) (by show 0<=64;decide);have e2:eqT (.int (i:I)) (.int (i:I))=true:=by show((i:I)==(i:I))=Ju;exact OU _
 have y:(ins.map Kd.th).length<LIM:=by rw[JF];show _<16777215;lia
 obtain⟨l,rfl⟩:∃l,b=l+2:=⟨b-2,by lia⟩;have G:=Ep l (r:=r) (p:=.tup<|pT p) hx g f .s .s .s;rw[KS];simp_all only[aa,eh,u,e1,e2,G,mU,jA hp,w,OG y,aL]
abbrev LBc:E:=.or (.and (.op .eq Jt [.op .ix Jt [.var 0,.cst<|.int 0],.cst<|.str<|q "each"])<|.op .ne Jt [.op .ix Jt [.var 8,.cst<|.int 0],.cst<|.str<|q "row"])<|.and (.op .eq Jt [.op .ix Jt [.var 0,.cst<|.int 0],.cst<|.str<|q "times"])<|.op .ne Jt [.op .ix Jt [.var 5,.cst<|.int 0],.tup [.cst<|.str<|q "num"]]
abbrev LB1:U S:=[
    .asg (.l []) 8 (.ixQ 5<|.op .neg Jt [.cst<|.int 1]),
    .ite (.q [0,5,8] []) LBc [
     .ret [] (.call 386 [.mv 2,.cst<|.non,.io 3])] [],
    .setS (.q [0,8] []) 7 (.op .ix Jt [.var 0,.cst<|.int 1]) (.ifx (.op .eq Jt [.op .ix Jt [.var 0,.cst<|.int 0],.cst<|.str<|q "each"]) (.op .ix Jt [.var 8,.cst<|.int 1])<|.var 8)]
abbrev LB2:U S:=[
   .asg (.l [0,2,7]) 9 (.call 387 [.op .ix Jt [.var 0,.var 6],.var 7,.op .catT Jt [.var 2,.tup [.op .sub Jt [.var 6,.var 4]]],.io 3]),
   .ite (.q [9] []) (.op .is Jt [.var 9,.cst (.non)]) [
    .ret [] (.cst<|.non)] [],
   .app (.q [9] []) 5 (.var 9)]
abbrev LB:U S:=.asg (.q [1] []) 7 (.op .dcpy Jt [.var 1])::
   .ite (.q [0] [4,6]) (.and (.op .eq Jt [.var 4,.cst<|.int 2])<|.op .eq Jt [.var 6,.op .sub Jt [.op .len Jt [.var 0],.cst<|.int 1]]) LB1 []::LB2
theorem tL2 {L d i:O}{st:I}{ts:U T}{A:T}{a:Kd}{p:U O}{c:EV}{f b ins:U T}(e:atI ts (st+(i:I))=Y A)(j:LK d c a A (p++[i]) f)(l:d+12<=L)(m:b.length+f.length<LIM)(w:ins.length<=10)(hp:p.length<=100)(t u:Md)(g h v:Option W):
  evSs (C L) LB2 [Y (.s,.tup ts),g,Y (t,.tup<|pT p),Y (.o .s,.lst b),Y (.d,.int st),Y (.o .s,.lst ins),Y (.d,.int<|st+(i:I)),Y (u,dE c),h,v]=.nx [Y (.s,.tup ts),g,Y (.s,.tup<|pT p),Y (.o .s,.lst<|b++f),Y (.d,.int st),Y (.o .s,.lst<|ins++[a.th]),Y (.d,.int<|st+(i:I)),Y (.s,dE c),h,Y (.s,a.th)]:=by
 have n:=j L l b .s .s m;have r:ins.length<LIM:=by show _<16777215;lia
 have k:st+(i:I)-st=(i:I):=by lia
 simp_all only[aa,eh,e,k,mU,jA hp,n,OG r,aL,(fN a).1,(fN a).2]
theorem tL {L d i:O}{st:I}{f:U T}{A:T}{a:Kd}{p:U O}{e:EV}{m c ins:U T}(l:atI f (st+(i:I))=Y A)(g:(st==2)=Jt\/(st==2)=Ju/\(st+(i:I)==(f.length:I)-1)=Jt)(t:LK d e a A (p++[i]) m)(v:d+12<=L)(x:c.length+m.length<LIM)(w:ins.length<=10)(hp:p.length<=100)(n j:Md)(r h k:Option W):
  evSs (C L) LB [Y (.s,.tup f),Y (n,dE e),Y (j,.tup<|pT p),Y (.o .s,.lst c),Y (.d,.int st),Y (.o .s,.lst ins),Y (.d,.int<|st+(i:I)),r,h,k]=.nx [Y (.s,.tup f),Y (.s,dE e),Y (.s,.tup<|pT p),Y (.o .s,.lst<|c++m),Y (.d,.int st),Y (.o .s,.lst<|ins++[a.th]),Y (.d,.int<|st+(i:I)),Y (.s,dE e),h,Y (.s,a.th)]:=by
 have u:=λy=>tL2 (L:=L) l t v x w hp j y (Y (.s,dE e)) h k
 have H:evSs (C L) (LB.take 2) [Y (.s,.tup f),Y (n,dE e),Y (j,.tup (pT p)),Y (.o .s,.lst c),Y (.d,.int st),Y (.o .s,.lst ins),Y (.d,.int (st+(i:I))),r,h,k]=.nx [Y (.s,.tup f),Y (.s,dE e),Y (j,.tup (pT p)),Y (.o .s,.lst c),Y (.d,.int st),Y (.o .s,.lst ins),Y (.d,.int (st+(i:I))),Y (.o .s,dE e),h,k]:=by
  rcases g with g|⟨g,hc2⟩
  .simp_all only[JG,JH,aa,eh,g]
  .simp_all only[JG,JH,aa,eh,g,hc2]
 exact(go1 (b:=LB2) H).trans<|u _
theorem stE {e:EV}{x:Str}{k:Kd}(hx:e.lookup x=J)(a:e.length<=100)(m m':Md):dC (.o .s,dE e) (m,.str x) (m',k.th)=Y (.o .s,dE<|e++[(x,k)]):=by show(if decide ((dK e).length<LIM)=Ju then Y ((.o .s,.dct (putT (.inr x) k.th (dK e)<|dV e).1 (putT (.inr x) k.th (dK e)<|dV e).2):W) else J)=_;rw[OG<|OE<|by rw[JF];show _<16777215;lia,mD x k e hx]
theorem fW {a:T}:∀l:U T,atI (l++[a]) (-1)=Y a:=λl=>by unfold atI ixN;rw[OK<|by decide,OG<|by rw[Jx,JL];lia,Jx,JL];show(l++[a])[(-1+((l.length+1:O):I)).toNat]?=Y a;rw[show(-1+((l.length+1:O):I)).toNat=l.length by lia];exact List.getElem?_concat_length
theorem IM {L d:O}{x:Str}{A c:T}{a k:Kd}{p:U O}{e:EV}{j acc:U T}(hx:e.lookup x=J)(h:e.length<=100)(u:LK d (e++[(x,a)]) k c (p++[1]) j)(z:d+12<=L)(D:acc.length+j.length<LIM)(hp:p.length<=100)(m f:Md)(r t g:Option W):
  ∃l,evSs (C L) LB [Y (.s,.tup [.str<|q "let",.str x,A,c]),Y (m,dE e),Y (f,.tup<|pT p),Y (.o .s,.lst acc),Y (.d,.int 2),Y (.o .s,.lst [a.th]),Y (.d,.int<|2+((1:O):I)),r,t,g]=.nx [Y (.s,.tup [.str<|q "let",.str x,A,c]),Y (.s,dE e),Y (.s,.tup<|pT p),Y (.o .s,.lst<|acc++j),Y (.d,.int 2),Y (.o .s,.lst [a.th,k.th]),Y (.d,.int<|2+((1:O):I)),Y (.s,dE<|e++[(x,a)]),l,Y (.s,k.th)]:=by
 have y:=tL2 (L:=L) (i:=1) (st:=2) (ts:=[.str<|q "let",.str x,A,c]) (ins:=[a.th]) (atN (n:=3) rfl rfl) u z D (by show 1<=10;decide) hp f (.o .s) (Y (.s,dE e)) (Y (.s,a.th)) g;have H:evSs (C L) (LB.take 2) [Y (.s,.tup [.str (q "let"),.str x,A,c]),Y (m,dE e),Y (f,.tup (pT p)),Y (.o .s,.lst acc),Y (.d,.int 2),Y (.o .s,.lst [a.th]),Y (.d,.int (2+((1:O):I))),r,t,g]=.nx [Y (.s,.tup [.str (q "let"),.str x,A,c]),Y (.s,dE e),Y (f,.tup (pT p)),Y (.o .s,.lst acc),Y (.d,.int 2),Y (.o .s,.lst [a.th]),Y (.d,.int (2+((1:O):I))),Y (.o .s,dE (e++[(x,a)])),Y (.s,a.th),g]:=by have c1:(2+((1:O):I)==(([T.str (q "let"),.str x,A,c].length:O):I)-1)=true:=rfl;have w:((2:I)==2)=true:=rfl;have v:atI [a.th] (-1)=Y a.th:=fW [];simp_all only[JG,JH,aa,eh,c1,w,v,qeq,aF,stE hx h,aL]
 exact⟨_,(go1 (b:=LB2) H).trans y⟩
theorem GU {L d:O}{x:Str}{A c:T}{a k:Kd}{p:U O}{e:EV}{j acc:U T}(hx:e.lookup x=J)(h:e.length<=100)(v:LK d (e++[(x,a)]) k c (p++[1]) j)(z:d+12<=L)(D:acc.length+j.length<LIM)(hp:p.length<=100)(r f:Md)(t u g:Option W):
  ∃l,evSs (C L) LB [Y (.s,.tup [.str<|q "each",.str x,A,c]),Y (r,dE e),Y (f,.tup<|pT p),Y (.o .s,.lst acc),Y (.d,.int 2),Y (.o .s,.lst [(Kd.row a).th]),Y (.d,.int<|2+((1:O):I)),t,u,g]=.nx [Y (.s,.tup [.str<|q "each",.str x,A,c]),Y (.s,dE e),Y (.s,.tup<|pT p),Y (.o .s,.lst<|acc++j),Y (.d,.int 2),Y (.o .s,.lst [(Kd.row a).th,k.th]),Y (.d,.int<|2+((1:O):I)),Y (.s,dE<|e++[(x,a)]),l,Y (.s,k.th)]:=by
 have y:=tL2 (L:=L) (i:=1) (st:=2) (ts:=[.str<|q "each",.str x,A,c]) (ins:=[(Kd.row a).th]) (atN (n:=3) rfl rfl) v z D (by show 1<=10;decide) hp f (.o .s) (Y (.s,dE e)) (Y (.s,(Kd.row a).th)) g;have H:evSs (C L) (LB.take 2) [Y (.s,.tup [.str (q "each"),.str x,A,c]),Y (r,dE e),Y (f,.tup (pT p)),Y (.o .s,.lst acc),Y (.d,.int 2),Y (.o .s,.lst [(Kd.row a).th]),Y (.d,.int (2+((1:O):I))),t,u,g]=.nx [Y (.s,.tup [.str (q "each"),.str x,A,c]),Y (.s,dE e),Y (f,.tup (pT p)),Y (.o .s,.lst acc),Y (.d,.int 2),Y (.o .s,.lst [(Kd.row a).th]),Y (.d,.int (2+((1:O):I))),Y (.o .s,dE (e++[(x,a)])),Y (.s,(Kd.row a).th),g]:=by have c1:(2+((1:O):I)==(([T.str (q "each"),.str x,A,c].length:O):I)-1)=true:=rfl;have w:((2:I)==2)=true:=rfl;have m:atI [(Kd.row a).th] (-1)=Y (Kd.row a).th:=fW [];rw[show(Kd.row a).th=.tup [.str<|q "row",a.th] from rfl] at m ⊢;simp_all only[JG,JH,aa,eh,c1,w,m,qeq,aF,stE hx h,aL]
 exact⟨_,(go1 (b:=LB2) H).trans y⟩
theorem Cr {L d:O}{x:Str}{A B D:T}{k:Kd}{p:U O}{e:EV}{g acc:U T}(hx:e.lookup x=J)(f:e.length<=100)(v:LK d (e++[(x,k)]) k D (p++[2]) g)(z:d+12<=L)(F:acc.length+g.length<LIM)(hp:p.length<=100)(r a:Md)(t u c:Option W):
  ∃h,evSs (C L) LB [Y (.s,.tup [.str<|q "times",.str x,A,B,D]),Y (r,dE e),Y (a,.tup<|pT p),Y (.o .s,.lst acc),Y (.d,.int 2),Y (.o .s,.lst [Kd.num.th,k.th]),Y (.d,.int<|2+((2:O):I)),t,u,c]=.nx [Y (.s,.tup [.str<|q "times",.str x,A,B,D]),Y (.s,dE e),Y (.s,.tup<|pT p),Y (.o .s,.lst<|acc++g),Y (.d,.int 2),Y (.o .s,.lst [Kd.num.th,k.th,k.th]),Y (.d,.int<|2+((2:O):I)),Y (.s,dE<|e++[(x,k)]),h,Y (.s,k.th)]:=by
 have y:=tL2 (L:=L) (i:=2) (st:=2) (ts:=[.str<|q "times",.str x,A,B,D]) (ins:=[Kd.num.th,k.th]) (atN (n:=4) rfl rfl) v z F (by show 2<=10;decide) hp a (.o .s) (Y (.s,dE e)) (Y (.s,k.th)) c;have H:evSs (C L) (LB.take 2) [Y (.s,.tup [.str (q "times"),.str x,A,B,D]),Y (r,dE e),Y (a,.tup (pT p)),Y (.o .s,.lst acc),Y (.d,.int 2),Y (.o .s,.lst [Kd.num.th,k.th]),Y (.d,.int (2+((2:O):I))),t,u,c]=.nx [Y (.s,.tup [.str (q "times"),.str x,A,B,D]),Y (.s,dE e),Y (a,.tup (pT p)),Y (.o .s,.lst acc),Y (.d,.int 2),Y (.o .s,.lst [Kd.num.th,k.th]),Y (.d,.int (2+((2:O):I))),Y (.o .s,dE (e++[(x,k)])),Y (.s,k.th),c]:=by have c1:(2+((2:O):I)==(([T.str (q "times"),.str x,A,B,D].length:O):I)-1)=true:=rfl;have w:((2:I)==2)=true:=rfl;have j:atI [Kd.num.th,k.th] (-1)=Y k.th:=fW [Kd.num.th];have l:=λm G=>eY Jt m G Kd.num.th Kd.num.th (by decide) (by decide);have e3:=av .num;rw[show Kd.num.th=.tup [.str<|q "num"] from rfl] at l e3 j ⊢;simp_all only[JG,JH,aa,eh,c1,w,j,qeq,aF,stE hx f,l,e3,aL]
 exact⟨_,(go1 (b:=LB2) H).trans y⟩
theorem mF {l:O}{t:T}{p:U O}{e:EV}{ins:U Kd}{k:Kd}{b a rs:U T}{i c d:Md}{j m n:L W}(h f g:Md)(hp:C l 176 [(.s,t)]=.ok ((.s,.tup rs),[]))(u:b4 [5,6] (evSs (C l) AB) (gE .s 0 rs) [Y (.s,t),Y (f,.tup<|pT p),Y (g,dE e),Y (.o .s,.lst b),Y (.o .s,.lst []),J,J,J,J]=.nx [Y (.s,t),Y (c,.tup<|pT p),Y (d,dE e),Y (.o .s,.lst a),Y (.o .s,.lst<|ins.map Kd.th),j,m,n,J])
  (ho:C l 372 [(.s,t),(.s,dE e),(.s,.lst<|ins.map Kd.th)]=.ok ((i,k.th),[])) (r:a.length<LIM):C (l+1) 369 [(h,t),(f,.tup<|pT p),(g,dE e),(.o .s,.lst b)]=.ok ((.s,k.th),[(.o .s,.lst<|a++[nt p k])]):=by
 rw[i3,x_run _ _ _ rfl];have H:evSs (C l) (Bk f_add_kinds 0 2) [Y (h,t),Y (f,.tup (pT p)),Y (g,dE e),Y (.o .s,.lst b),J,J,J,J,J]=.nx [Y (.s,t),Y (c,.tup (pT p)),Y (d,dE e),Y (.o .s,.lst a),Y (.o .s,.lst (ins.map Kd.th)),j,m,n,J]:=by simp_all only[Bk,JC,JB,JG,JH,f_add_kinds,aa,hp,u]
 rw[show f_add_kinds.body=Bk f_add_kinds 0 2++f_add_kinds.body.drop 2 from rfl];show Fl.out [3] (evSs (C l) _ [Y (h,t),Y (f,.tup<|pT p),Y (g,dE e),Y (.o .s,.lst b),J,J,J,J,J])=_;rw[go1 H];cases i<;>simp_all only[JC,JB,f_add_kinds,aa,ho,aL,(fN k).1,(fN k).2,OG r]
theorem vb (m n:Md)(i j:I):bj .rng [(m,.int i),(n,.int j)]=if decide (i.natAbs<4611686018427387904)&&decide (j.natAbs<4611686018427387904)&&fits (j-i).toNat then Y ((J6 (j-i).toNat).map λ(k:O)=>[(.d,.int<|i+k)]) else none:=rfl
theorem dQ {l n:O}{s:OL}{r:U T}{p:U O}{e:EV}{a:U T}{st:I}{c:OF}{j:Env}(x h i:Md)(w:(s=="name")=Jt)(f:1+b2i (["let","each","times"].contains s)=st)(u:["num","none"].contains s=c)(z:0<=st/\st<=2)(m:(bif c then st else(((T.str (q s)::r).length:O):I))=st+(n:I))(y:n<=3)
  (v:b4 [6] (evSs (C l) LB) ((J6 n).map λ(k:O)=>[(.d,.int<|st+(k:I))]) [Y (.s,.tup (.str (q s)::r)),Y (h,dE e),Y (i,.tup<|pT p),Y (.o .s,.lst a),Y (.d,.int st),Y (.o .s,.lst []),J,J,J,J]=.nx j):C (l+1) 387 [(x,.tup (.str (q s)::r)),(h,dE e),(i,.tup<|pT p),(.o .s,.lst a)]=Fl.out [3] (evSs (C l) (f_law_kinds.body.drop 4) j):=by
 rw[eJ,x_run _ _ _ rfl];have g:(decide (st.natAbs<4611686018427387904)&&decide ((st+(n:I)).natAbs<4611686018427387904)&&fits (st+(n:I)-st).toNat)=true:=by rw[JM,JM];exact⟨⟨OE<|by lia,OE<|by lia⟩,OE<|by show _<=16777215;lia⟩
 have t:(st+(n:I)-st).toNat=n:=by lia
 have H:evSs (C l) (Bk f_law_kinds 0 4) [Y (x,.tup (.str (q s)::r)),Y (h,dE e),Y (i,.tup (pT p)),Y (.o .s,.lst a),J,J,J,J,J,J]=.nx j:=by
  cases c with
  | true =>
   rw[O3] at m;have e1:b4 [6] (evSs (C l) LB) ((J6 (st-st).toNat).map λ(k:O)=>[(.d,.int (st+(k:I)))]) [Y (.s,.tup (.str (q s)::r)),Y (h,dE e),Y (i,.tup (pT p)),Y (.o .s,.lst a),Y (.d,.int st),Y (.o .s,.lst []),J,J,J,J]=.nx j:=by rw[show(st-st).toNat=n by lia];exact v
   have g:(decide (st.natAbs<4611686018427387904)&&fits (st-st).toNat)=true:=by rw[JM];exact⟨OE<|by lia,OE<|by show _<=16777215;lia⟩
   simp_all only[Bk,JC,JB,JG,JH,f_law_kinds,qeq,w,fP,fQ,fl2,fl3,u,f,vb,g,e1]
  |false=>rw[cond_false] at m;rw[t] at g;simp_all only[Bk,JC,JB,JG,JH,f_law_kinds,qeq,w,fP,fQ,fl2,fl3,u,f,vb,m,g,t,v]
 exact OQ (Fl.out [3])<|go1 (b:=f_law_kinds.body.drop 4) H
theorem Ft {l:O}{x:Str}{k:Kd}{p:U O}{e:EV}{a:U T}(d:7<=l)(hx:e.lookup x=Y k)(hk:k.deep<=4)(c:a.length<LIM)(b i:Md):C (l+1) 387 [(b,.tup [.str<|q "name",.str x]),(.s,dE e),(i,.tup<|pT p),(.o .s,.lst a)]=.ok ((.s,k.th),[(.o .s,.lst<|a++[nt p k])]):=by
 have j:=λb h=>cR hk d p a c b h;have f:keyT (.str x)=Y (.inr x):=rfl;have g:lookD (.inr x) (dK e) (dV e)=Y k.th:=by rw[eV,hx];rfl
 rw[eJ,x_run _ _ _ rfl];simp_all only[f_law_kinds,qeq,f,g,j,Og]
theorem Co {l:O}{s:OL}{r:U T}{d:U Kd}{k:Kd}{p:U O}{b:U T}{v w x y z A:L W}(h:Rl s d k)(c:nob s=Ju)(j:r.length=d.length)(hk:∀a∈d,a.deep<=4)(e:k.deep<=4)(i:7<=l)(g:b.length<LIM)(t:Md):Fl.out [3] (evSs (C l) (f_law_kinds.body.drop 4) [Y (.s,.tup (.str (q s)::r)),v,Y (t,.tup<|pT p),Y (.o .s,.lst b),w,Y (.o .s,.lst<|d.map Kd.th),x,y,z,A])=.ok ((.s,k.th),[(.o .s,.lst<|b++[nt p k])]):=by obtain⟨f,rfl⟩:∃f,l=f+1:=⟨l-1,by lia⟩;obtain⟨D,e1⟩:=AO h c hk f r j;have u:=λm n=>cR e i p b g m n;unfold nob at c;rw[MV,Mq,Mq] at c;simp_all only[JC,JB,f_law_kinds,qeq,c.1.1,c.1.2,c.2,e1,u]
def Gd (u:T):Prop:=eqT u u=Ju/\dp u<=20
theorem jm:∀p:U O,eqTs (pT p) (pT p)=Ju/\dps (pT p)=0
|[]=>⟨rfl,rfl⟩
| i::p=>by
 have a:=jm p;refine⟨?_,?_⟩
 .show ((i:I)==(i:I)&&eqTs (pT p) (pT p))=Ju;rw[OU,a.1];rfl
 .show max 0 (dps<|pT p)=0;rw[a.2];rfl
theorem zV (p:U O){k:Kd}(hk:k.deep<=4):Gd (nt p k):=by
 refine⟨?_,?_⟩
 .show (eqTs (pT p) (pT p)&&(eqT k.th k.th&&Ju))=Ju;rw[(jm p).1,av];rfl
 .have:=cD k;show max (dps (pT p)+1) (max (dp k.th) 0)+1<=20;rw[(jm p).2];lia
def Bo (d:O)(e:EV)(k:Kd)(t:T):Prop:=∀p:U O,p.length+d<=100->∃a:U T,2 * a.length+1<=3 ^ d/\(∀u∈a,Gd u)/\(∃l,a=l++[nt p k])/\AK d e k t p a/\LK d e k t p a
theorem bL {l m:U T}(h:∀u∈l,Gd u)(a:∀u∈m,Gd u):∀u∈l++m,Gd u:=λu b=>(Kq.mp b).elim (h u)<|a u
theorem d8 (p:U O){k:Kd}(hk:k.deep<=4):∀u∈[nt p k],Gd u:=λu a=>by rw[J4.mp a];exact zV p hk
theorem p3 (d:O):3 ^ (d+1)=3 * 3 ^ d:=by rw[Mn];lia
theorem p3' (d:O):1<=3 ^ d:=Nat.one_le_pow _ _<|by decide
theorem eE {d:O}{e:EV}{k:Kd}{t:T}(hk:k.deep<=4)(hp:∀l,C (l+2) 176 [(.s,t)]=.ok ((.s,.tup []),[]))(ho:∀l,11<=l->∃i,C l 372 [(.s,t),(.s,dE e),(.s,.lst [])]=.ok ((i,k.th),[]))(n:∀l p b c f,11<=l->b.length<LIM->C (l+1) 387 [(c,t),(.s,dE e),(f,.tup<|pT p),(.o .s,.lst b)]=.ok ((.s,k.th),[(.o .s,.lst<|b++[nt p k])])):Bo (d+1) e k t:=λp r=>by
 refine⟨[nt p k],?_,d8 p hk,⟨[],rfl⟩,λa m b c u f g=>?_,λa m b c f g=>?_⟩
 .have:=p3' d;rw[p3];show 2 * 1+1<=_;lia
 .obtain ⟨l,rfl⟩:∃ l,a=l+1:=⟨a-1,by lia⟩;obtain⟨i,ho⟩:=ho l (by lia);obtain⟨h,j⟩:∃h,l=h+2:=⟨l-2,by lia⟩;exact mF (ins:=[]) (rs:=[]) c u f (by rw[j];exact hp h) rfl ho (by rw[JL] at g;lia)
 .obtain ⟨l,rfl⟩:∃ l,a=l+1:=⟨a-1,by lia⟩;exact n l p b c f (by lia)<|by rw[JL] at g;lia
theorem zq {d:O}{e:EV}{x:Str}{k:Kd}(hx:e.lookup x=Y k)(hk:k.deep<=4):Bo (d+1) e k (.tup [.str<|q "name",.str x]):=by
 refine eE hk (λl=>eW l _ _ (by kernel_rfl) .s) (λl c=>⟨.s,?_⟩) λl p a i j c b=>Ft (by lia) hx hk b i j;obtain⟨l,rfl⟩:∃g,l=g+1:=⟨l-1,by lia⟩;have f:keyT (.str x)=Y (.inr x):=rfl;have h:lookD (.inr x) (dK e) (dV e)=Y k.th:=by rw[eV,hx];rfl
 rw[bg,x_run _ _ _ rfl];simp_all only[aJ,qeq,f,h,Og]
theorem oD {l:O}{s:OL}{r:U T}{k:Kd}{p:U O}{a:U T}{m n t u v w:L W}{md:Md}(b:nob s=Ju)(h:C l 385 [(.s,.tup (.str (q s)::r)),(.o .s,.lst [])]=.ok ((md,k.th),[]))(c:k.deep<=4)(e:7<=l)(d:a.length<LIM)(i:Md):Fl.out [3] (evSs (C l) (f_law_kinds.body.drop 4) [Y (.s,.tup (.str (q s)::r)),m,Y (i,.tup<|pT p),Y (.o .s,.lst a),n,Y (.o .s,.lst []),t,u,v,w])=.ok ((.s,k.th),[(.o .s,.lst<|a++[nt p k])]):=by have j:=λf g=>cR c e p a d f g;unfold nob at b;rw[MV,Mq,Mq] at b;simp_all only[JC,JB,f_law_kinds,qeq,b.1.1,b.1.2,b.2,h,j]
theorem Bn {d:O}{e:EV}{i:I}:Bo (d+1) e .num (.tup [.str<|q "num",.int i]):=by
 refine eE (by decide) (λl=>eW l _ _ (by kernel_rfl) .s) (λl j=>⟨.s,?_⟩) λl p g k f j h=>?_
 .obtain ⟨l,rfl⟩:∃ a,l=a+1:=⟨l-1,by lia⟩;have b:keys_LEAVES.contains (q "num")=Ju/\tab_LEAVES.lookup (q "num")=Y (.tup [.str (q "num")]):=by simp[keys_LEAVES,tab_LEAVES,qeq,JI]
  rw[bg,x_run _ _ _ rfl];simp_all only[aJ,qeq,b.1,b.2,KH,Kd.th]
 .rw [dQ (st:=1) (n:=0) (c:=Ju) k .s f (by decide) (by decide) (by decide) (by decide) rfl (by decide) rfl];obtain⟨l,rfl⟩:∃a,l=a+1:=⟨l-1,by lia⟩;exact oD (by decide) (md:=.d) (by kernel_rfl) (by decide) (by lia) h f
theorem D5 {d:O}{e:EV}:Bo (d+1) e .truth (.tup [.str<|q "yes"]):=by
 refine eE (by decide) (λl=>gO l _ (by kernel_rfl) .s) (λl i=>⟨.s,?_⟩) λl p g j f i h=>?_
 .obtain ⟨l,rfl⟩:∃ a,l=a+1:=⟨l-1,by lia⟩;have b:keys_LEAVES.contains (q "yes")=Ju/\tab_LEAVES.lookup (q "yes")=Y (.tup [.str (q "truth")]):=by simp[keys_LEAVES,tab_LEAVES,qeq,JI]
  rw[bg,x_run _ _ _ rfl];simp_all only[aJ,qeq,b.1,b.2,KH,Kd.th]
 .rw [dQ (st:=1) (n:=0) (c:=Jt) j .s f (by decide) (by decide) (by decide) (by decide) rfl (by decide) rfl];obtain⟨l,rfl⟩:∃a,l=a+1:=⟨l-1,by lia⟩;exact oD (by decide) (md:=.s) (by kernel_rfl) (by decide) (by lia) h f
theorem Eg {d:O}{e:EV}:Bo (d+1) e .truth (.tup [.str<|q "no"]):=by
 refine eE (by decide) (λl=>gO l _ (by kernel_rfl) .s) (λl i=>⟨.s,?_⟩) λl p g j f i h=>?_
 .obtain ⟨l,rfl⟩:∃ a,l=a+1:=⟨l-1,by lia⟩;have b:keys_LEAVES.contains (q "no")=Ju/\tab_LEAVES.lookup (q "no")=Y (.tup [.str (q "truth")]):=by simp[keys_LEAVES,tab_LEAVES,qeq,JI]
  rw[bg,x_run _ _ _ rfl];simp_all only[aJ,qeq,b.1,b.2,KH,Kd.th]
 .rw [dQ (st:=1) (n:=0) (c:=Jt) j .s f (by decide) (by decide) (by decide) (by decide) rfl (by decide) rfl];obtain⟨l,rfl⟩:∃a,l=a+1:=⟨l-1,by lia⟩;exact oD (by decide) (md:=.s) (by kernel_rfl) (by decide) (by lia) h f
theorem vf (l:O)(a:Kd):C (l+1) 385 [(.s,.tup [.str<|q "none",a.th]),(.o .s,.lst [])]=.ok ((.o .s,(Kd.row a).th),[]):=by
 have c1:["add","sub","mul","div","rest"].contains "none"=false:=by decide
 have c:["yes","no","less","both","not"].contains "none"=false:=by decide
 have d:["num","none"].contains "none"=true:=by decide
 have H:evSs (C l) (Bk f_law_kind_by 0 6) [Y (.s,.tup [.str (q "none"),a.th]),Y (.o .s,.lst []),J,J,J,J]=.nx (kbE "none" [a.th] (.lst [])):=by simp_all only[Bk,JC,JB,JG,JH,f_law_kind_by,qeq,fP,jC,fl2,fl5,c1,c]
 rw[bf,x_run _ _ _ rfl];refine(OQ (Fl.out [])<|go1 (b:=f_law_kind_by.body.drop 6) H).trans ?_;simp_all only[JC,JB,f_law_kind_by,qeq,fP,fl2,d,aL];rfl
theorem wo {d:O}{e:EV}{a:Kd}(h:a.deep<=3):Bo (d+1) e (.row a) (.tup [.str<|q "none",a.th]):=by
 have b:(Kd.row a).deep<=4:=by show a.deep+1<=4;lia
 refine eE b (λl=>eW l _ _ (by kernel_rfl) .s) (λl u=>⟨.o .s,?_⟩) λl p k w j u r=>?_
 .obtain ⟨l,rfl⟩:∃ g,l=g+10:=⟨l-10,by lia⟩;have v:keys_LEAVES.contains (q "none")=false:=by decide +kernel
  have t:chk "not" "truth" "row K" ["truth"] ["row","K"]=true:=by decide +kernel
  have R:=jl t;have f:=λm i=>d9 l (q "row K") (["row","K"].map q) [(q "K",a)] (.row a) R.c7 R.c8 R.cg (by simp[sbs,kw,qeq,JI]) b (fd1<|by lia) (by decide) m i;rw[show l+10=(l+9)+1 from rfl,bg,x_run _ _ _ rfl];have f:∀m i,C (l+9) 374 [(m,.str (q "row K")),(i,.dct [.inr (q "K")] [a.th])]=.ok ((.o .s,(Kd.row a).th),[]):=f;simp_all only[aJ,qeq,v,KH,f]
 .rw [dQ (st:=1) (n:=0) (c:=Ju) w .s j (by decide) (by decide) (by decide) (by decide) rfl (by decide) rfl];obtain⟨l,rfl⟩:∃g,l=g+1:=⟨l-1,by lia⟩;exact oD (by decide) (md:=.o .s) (vf l a) b (by lia) r j
theorem aX {c:U O}{f:Env->Fl}{d:U W}{r:U<|U W}{e a b:Env}(g:aQ c d e=Y a)(h:f a=.nx b):b4 c f (d::r) e=b4 c f r b:=by rw[cw,g];show Fl.turn (f a) _=_;rw[h];rfl
def cs (s:OL):OF:=!(keys_AHEAD.contains<|q s)&&(tab_BINDING.lookup<|q s).isNone&&!(s=="name")&&!(["let","each","times"].contains s)&&!(["num","none"].contains s)
theorem Ex {s:OL}{b:U Kd}{k:Kd}(h:Rl s b k)(a:nob s=Ju):cs s=true:=by
 cases h with
 |lets=>cases a
 |each=>cases a
 |times=>cases a
 |_=>decide +kernel
structure Sg (s:OL):Prop where
 a:keys_AHEAD.contains (q s)=Jt
 b:tab_BINDING.lookup (q s)=J
 c:(s=="name")=Jt
 d:1+b2i (["let","each","times"].contains s)=1
 e:["num","none"].contains s=Jt
theorem FP {s:OL}(h:cs s=Ju):Sg s:=by unfold cs at h;simp only[JM,MV,Option.isNone_iff_eq_none] at h;obtain⟨⟨⟨⟨a,b⟩,c⟩,d⟩,e⟩:=h;exact⟨a,b,c,by rw[d];rfl,e⟩
theorem kj {s:OL}{b:U Kd}{k:Kd}(h:Rl s b k)(a:nob s=Ju):Sg s:=FP<|Ex h a
theorem dD {s:OL}(h:Sg s)(l:O)(r:U T):C (l+1) 233 [(.s,.tup (.str (q s)::r))]=.ok ((.s,.non),[]):=by have:=ni l (q s) r .s;rw[h.b] at this;exact this
theorem ff {s:OL}{b:U Kd}{K:Kd}(h:Rl s b K)(hk:∀k∈b,k.deep<=4)(c:K.deep<=4){l:O}(d:10<=l)(r:U T)(a:EV):C l 372 [(.s,.tup (.str (q s)::r)),(.s,dE a),(.s,.lst<|b.map Kd.th)]=.ok ((.o .s,K.th),[]):=by obtain⟨n,rfl⟩:∃n,l=n+10:=⟨l-10,by lia⟩;exact DR h hk c n r a .s .s .s
theorem qO {a:Kd}(h:a.deep<=4):∀k∈[a],k.deep<=4:=λk hk=>by rw[J4.mp hk];exact h
theorem eU {a b:Kd}(h:a.deep<=4)(c:b.deep<=4):∀k∈[a,b],k.deep<=4:=λk hk=>by
 rcases JX.mp hk with rfl|hk
 .exact h
 .exact qO c k hk
theorem Gu {a b c:Kd}(h:a.deep<=4)(d:b.deep<=4)(e:c.deep<=4):∀k∈[a,b,c],k.deep<=4:=λk hk=>by
 rcases JX.mp hk with rfl|hk
 .exact h
 .exact eU d e k hk
theorem Iq {d n:O}(h:n<=3 ^ d)(hd:d<=14):n<5000000:=by
 have:3 ^ d<=3 ^ 14:=Mr (by decide) hd;have:3 ^ 14<5000000:=by decide
 lia
theorem DX {d:O}{e:EV}{s:OL}{a k:Kd}{A:T}(h:Rl s [a] k)(u:nob s=Ju)(hk:k.deep<=4)(t:a.deep<=4)(w:Bo d e a A):Bo (d+1) e k (.tup [.str<|q s,A]):=λp hp=>by
 have S:=kj h u;obtain⟨z,D,x,_,j,o⟩:=w (p++[0]) (by rw[Jx,JL];lia);refine⟨z++[nt p k],by rw[Jx,JL,p3];lia,bL x<|d8 p hk,⟨_,rfl⟩,λb y g r v f m=>?_,λb y g r f m=>?_⟩
 .obtain ⟨l,rfl⟩:∃ l,b=l+3:=⟨b-3,by lia⟩;rw[Jx,JL] at m;rw[<- JN];exact mF (ins:=[a]) (rs:=[A]) r v f (gO l _ S.a .s) ((aX rfl (tA (ins:=[]) (dD S _ _) rfl (by decide) j (by lia) (by lia) (by decide) (by lia) v f J)).trans rfl) (ff h (qO t) hk (by lia) _ e)<|by rw[Jx];lia
 .obtain ⟨l,rfl⟩:∃ l,b=l+1:=⟨b-1,by lia⟩;rw[Jx,JL] at m;rw[<- JN,dQ (st:=1) (n:=1) (c:=Jt) r .s f S.c S.d S.e (by decide) rfl (by decide) ((aX rfl (tL (st:=1) (i:=0) (ins:=[]) (atN (n:=1) rfl rfl) (.inl rfl) o (by lia) (by lia) (by decide) (by lia) .s f J J J)).trans rfl)];exact Co h u rfl (qO t) hk (by lia) (by rw[Jx];lia) .s
theorem Ap {d:O}{e:EV}{s:OL}{a b k:Kd}{A f:T}(h:Rl s [a,b] k)(z:nob s=Ju)(hk:k.deep<=4)(x:a.deep<=4)(y:b.deep<=4)(F:Bo d e a A)(G:Bo d e b f):Bo (d+1) e k (.tup [.str<|q s,A,f]):=λp hp=>by
 have S:=kj h z;obtain⟨P,Z,H,_,o,u⟩:=F (p++[0]) (by rw[Jx,JL];lia);obtain⟨Q,lb,M,_,r,v⟩:=G (p++[1]) (by rw[Jx,JL];lia);have:=p3' d;refine⟨P++Q++[nt p k],by rw[Jx,Jx,JL,p3];lia,bL (bL H M)<|d8 p hk,⟨_,rfl⟩,λg N m w D j t=>?_,λg N m w j t=>?_⟩
 .obtain ⟨l,rfl⟩:∃ l,g=l+3:=⟨g-3,by lia⟩;rw[Jx,Jx,JL] at t;rw[<- JN,<- JN];exact mF (ins:=[a,b]) (rs:=[A,f]) w D j (gO l _ S.a .s) ((aX rfl (tA (ins:=[]) (dD S _ _) rfl (by decide) o (by lia) (by lia) (by decide) (by lia) D j J)).trans<|(aX rfl (tA (ins:=[a.th]) (dD S _ _) rfl (by decide) r (by lia) (by rw[Jx];lia) (by show 1<=10;decide) (by lia) .s .s _)).trans rfl) (ff h (eU x y) hk (by lia) _ e)<|by rw[Jx,Jx];lia
 .obtain ⟨l,rfl⟩:∃ l,g=l+1:=⟨g-1,by lia⟩;rw[Jx,Jx,JL] at t;rw[<- JN,<- JN,dQ (st:=1) (n:=2) (c:=Jt) w .s j S.c S.d S.e (by decide) rfl (by decide) ((aX rfl (tL (st:=1) (i:=0) (ins:=[]) (atN (n:=1) rfl rfl) (.inl rfl) u (by lia) (by lia) (by decide) (by lia) .s j J J J)).trans<|(aX rfl (tL (st:=1) (i:=1) (ins:=[a.th]) (atN (n:=2) rfl rfl) (.inl rfl) v (by lia) (by rw[Jx];lia) (by show 1<=10;decide) (by lia) .s .s _ _ _)).trans rfl)];exact Co h z rfl (eU x y) hk (by lia) (by rw[Jx,Jx];lia) .s
theorem CH {d:O}{e:EV}{k:Kd}{A b D:T}(hk:k.deep<=4)(G:Bo d e .truth A)(H:Bo d e k b)(M:Bo d e k D):Bo (d+1) e k (.tup [.str<|q "if",A,b,D]):=λp hp=>by
 have h:Rl "if" [.truth,k,k] k:=.ifs k;have z:nob "if"=true:=by decide
 have S:=kj h z;have g:∀a∈[Kd.truth,k,k],a.deep<=4:=Gu (by decide) hk hk;obtain⟨ka,la,N,_,o,v⟩:=G (p++[0]) (by rw[Jx,JL];lia);obtain⟨kb,lb,P,_,r,w⟩:=H (p++[1]) (by rw[Jx,JL];lia);obtain⟨kd,ld,Q,_,t,x⟩:=M (p++[2]) (by rw[Jx,JL];lia);refine⟨ka++kb++kd++[nt p k],by rw[Jx,Jx,Jx,JL,p3];lia,bL (bL (bL N P) Q)<|d8 p hk,⟨_,rfl⟩,λf Z m y F j u=>?_,λf Z m y j u=>?_⟩
 .obtain ⟨l,rfl⟩:∃ l,f=l+3:=⟨f-3,by lia⟩;rw[Jx,Jx,Jx,JL] at u;rw[<- JN,<- JN,<- JN];exact mF (ins:=[.truth,k,k]) (rs:=[A,b,D]) y F j (gO l _ S.a .s) ((aX rfl (tA (ins:=[]) (dD S _ _) rfl (by decide) o (by lia) (by lia) (by decide) (by lia) F j J)).trans<|(aX rfl (tA (ins:=[Kd.truth.th]) (dD S _ _) rfl (by decide) r (by lia) (by rw[Jx];lia) (by show 1<=10;decide) (by lia) .s .s _)).trans<|(aX rfl (tA (ins:=[Kd.truth.th,k.th]) (dD S _ _) rfl (by decide) t (by lia) (by rw[Jx,Jx];lia) (by show 2<=10;decide) (by lia) .s .s _)).trans rfl) (ff h g hk (by lia) _ e)<|by rw[Jx,Jx,Jx];lia
 .obtain ⟨l,rfl⟩:∃ l,f=l+1:=⟨f-1,by lia⟩;rw[Jx,Jx,Jx,JL] at u;rw[<- JN,<- JN,<- JN,dQ (st:=1) (n:=3) (c:=Jt) y .s j S.c S.d S.e (by decide) rfl (by decide) ((aX rfl (tL (st:=1) (i:=0) (ins:=[]) (atN (n:=1) rfl rfl) (.inl rfl) v (by lia) (by lia) (by decide) (by lia) .s j J J J)).trans<|(aX rfl (tL (st:=1) (i:=1) (ins:=[Kd.truth.th]) (atN (n:=2) rfl rfl) (.inl rfl) w (by lia) (by rw[Jx];lia) (by show 1<=10;decide) (by lia) .s .s _ _ _)).trans<|(aX rfl (tL (st:=1) (i:=2) (ins:=[Kd.truth.th,k.th]) (atN (n:=3) rfl rfl) (.inl rfl) x (by lia) (by rw[Jx,Jx];lia) (by show 2<=10;decide) (by lia) .s .s _ _ _)).trans rfl)];exact Co h z rfl g hk (by lia) (by rw[Jx,Jx,Jx];lia) .s
theorem bd {s:OL}{i:O}(h:tab_BINDING.lookup (q s)=Y (.int (i:I)))(l:O)(r:U T):C (l+1) 233 [(.s,.tup (.str (q s)::r))]=.ok ((.s,.int (i:I)),[]):=by have:=ni l (q s) r .s;rw[h] at this;exact this
theorem Jd {l:O}{r:U T}{a k:Kd}{p:U O}{b:U T}{j m n t u v:L W}(c:k.deep<=4)(e:7<=l)(d:b.length<LIM)(h:Md):Fl.out [3] (evSs (C l) (f_law_kinds.body.drop 4) [Y (.s,.tup (.str (q "let")::r)),j,Y (h,.tup<|pT p),Y (.o .s,.lst b),m,Y (.o .s,.lst [a.th,k.th]),n,t,u,v])=.ok ((.s,k.th),[(.o .s,.lst<|b++[nt p k])]):=by have i:=λf g=>cR c e p b d f g;simp_all only[JC,JB,f_law_kinds,qeq,i]
theorem GJ {l:O}{r:U T}{a k:Kd}{p:U O}{b:U T}{j m n t u v:L W}(c:(Kd.row k).deep<=4)(g:7<=l)(f:b.length<LIM)(h:Md):Fl.out [3] (evSs (C l) (f_law_kinds.body.drop 4) [Y (.s,.tup (.str (q "each")::r)),j,Y (h,.tup<|pT p),Y (.o .s,.lst b),m,Y (.o .s,.lst [a.th,k.th]),n,t,u,v])=.ok ((.s,(Kd.row k).th),[(.o .s,.lst<|b++[nt p<|.row k])]):=by have i:∀d e,C l 386 [(d,.tup (pT p)),(e,.tup [.str (q "row"),k.th]),(.o .s,.lst b)]=.ok ((.s,(Kd.row k).th),[(.o .s,.lst (b++[nt p (.row k)]))]):=λd e=>cR c g p b f d e;simp_all only[JC,JB,f_law_kinds,qeq,i]
theorem B7 {l:O}{r:U T}{a k:Kd}{p:U O}{b:U T}{n t u v w x:L W}(c:k.deep<=4)(e:7<=l)(d:b.length<LIM)(h:Md):Fl.out [3] (evSs (C l) (f_law_kinds.body.drop 4) [Y (.s,.tup (.str (q "times")::r)),n,Y (h,.tup<|pT p),Y (.o .s,.lst b),t,Y (.o .s,.lst [a.th,k.th,k.th]),u,v,w,x])=.ok ((.s,k.th),[(.o .s,.lst<|b++[nt p k])]):=by have j:=λf g=>cR c e p b d f g;have:=cD k;have e1:=λm i=>bZ Jt m i k.th k.th (by lia) (by lia);simp_all only[JC,JB,f_law_kinds,qeq,aF,e1,av,j]
theorem xk {d:O}{e:EV}{x:Str}{a k:Kd}{A b:T}(hx:e.lookup x=J)(f:e.length<=100)(N:a.deep<=4)(hk:k.deep<=4)(z:Bo d e a A)(D:Bo d (e++[(x,a)]) k b):Bo (d+1) e k (.tup [.str<|q "let",.str x,A,b]):=λp hp=>by
 obtain⟨w,Q,G,_,h,r⟩:=z (p++[0]) (by rw[Jx,JL];lia);obtain⟨P,Z,H,_,j,t⟩:=D (p++[1]) (by rw[Jx,JL];lia);have v:tab_BINDING.lookup (q "let")=Y (.int ((1:O):I)):=by kernel_rfl
 have:=p3' d;refine⟨w++P++[nt p k],by rw[Jx,Jx,JL,p3];lia,bL (bL G H)<|d8 p hk,⟨_,rfl⟩,λL M acc u y g o=>?_,λL M acc u g o=>?_⟩
 .obtain ⟨l,rfl⟩:∃ l,L=l+3:=⟨L-3,by lia⟩;rw[Jx,Jx,JL] at o;rw[<- JN,<- JN];exact mF (ins:=[a,k]) (rs:=[A,b]) u y g (eW l _ _ (by kernel_rfl) .s) ((aX rfl (tA (ins:=[]) (bd v _ _) rfl (by decide) h (by lia) (by lia) (by decide) (by lia) y g J)).trans<|(aX rfl (tB (ins:=[a]) (bd v _ _) hx f (λm=>Dq l a m) j (by lia) (by rw[Jx];lia) (by show 1<=10;decide) (by lia) .s .s _)).trans rfl) (ff (.lets a k) (eU N hk) hk (by lia) _ e)<|by rw[Jx,Jx];lia
 .obtain ⟨l,rfl⟩:∃ l,L=l+1:=⟨L-1,by lia⟩;rw[Jx,Jx,JL] at o;obtain⟨o8,F⟩:=IM (L:=l) (A:=A) (acc:=acc++w) hx f t (by lia) (by rw[Jx];lia) (by lia) .s .s (Y (.s,dE e)) J<|Y (.s,a.th);rw[<- JN,<- JN,dQ (st:=2) (n:=2) (c:=Jt) u .s g (by decide) (by decide) (by decide) (by decide) rfl (by decide) ((aX rfl (tL (st:=2) (i:=0) (ins:=[]) (atN (n:=2) rfl rfl) (.inr ⟨rfl,rfl⟩) r (by lia) (by lia) (by decide) (by lia) .s g J J J)).trans<|(aX rfl F).trans rfl)];exact Jd hk (by lia) (by rw[Jx,Jx];lia) .s
theorem xW {d:O}{e:EV}{x:Str}{a k:Kd}{A b:T}(hx:e.lookup x=J)(f:e.length<=100)(N:(Kd.row a).deep<=4)(P:k.deep<=3)(z:Bo d e (.row a) A)(D:Bo d (e++[(x,a)]) k b):Bo (d+1) e (.row k) (.tup [.str<|q "each",.str x,A,b]):=λp hp=>by
 have hk:(Kd.row k).deep<=4:=by show k.deep+1<=4;lia
 obtain⟨w,Z,G,_,h,r⟩:=z (p++[0]) (by rw[Jx,JL];lia);obtain⟨Q,lb,H,_,j,t⟩:=D (p++[1]) (by rw[Jx,JL];lia);have v:tab_BINDING.lookup (q "each")=Y (.int ((1:O):I)):=by kernel_rfl
 have:=p3' d;refine⟨w++Q++[nt p<|.row k],by rw[Jx,Jx,JL,p3];lia,bL (bL G H)<|d8 p hk,⟨_,rfl⟩,λL M acc u y g o=>?_,λL M acc u g o=>?_⟩
 .obtain ⟨l,rfl⟩:∃ l,L=l+3:=⟨L-3,by lia⟩;rw[Jx,Jx,JL] at o;rw[<- JN,<- JN];exact mF (ins:=[.row a,k]) (rs:=[A,b]) u y g (eW l _ _ (by kernel_rfl) .s) ((aX rfl (tA (ins:=[]) (bd v _ _) rfl (by decide) h (by lia) (by lia) (by decide) (by lia) y g J)).trans<|(aX rfl (tB (ins:=[.row a]) (bd v _ _) hx f (λm=>xP l a m) j (by lia) (by rw[Jx];lia) (by show 1<=10;decide) (by lia) .s .s _)).trans rfl) (ff (.each a k) (eU N<|by lia) hk (by lia) _ e)<|by rw[Jx,Jx];lia
 .obtain ⟨l,rfl⟩:∃ l,L=l+1:=⟨L-1,by lia⟩;rw[Jx,Jx,JL] at o;obtain⟨o8,F⟩:=GU (L:=l) (A:=A) (acc:=acc++w) hx f t (by lia) (by rw[Jx];lia) (by lia) .s .s (Y (.s,dE e)) J<|Y (.s,(Kd.row a).th);rw[<- JN,<- JN,dQ (st:=2) (n:=2) (c:=Jt) u .s g (by decide) (by decide) (by decide) (by decide) rfl (by decide) ((aX rfl (tL (st:=2) (i:=0) (ins:=[]) (atN (n:=2) rfl rfl) (.inr ⟨rfl,rfl⟩) r (by lia) (by lia) (by decide) (by lia) .s g J J J)).trans<|(aX rfl F).trans rfl)];exact GJ hk (by lia) (by rw[Jx,Jx];lia) .s
theorem sA {d:O}{e:EV}{x:Str}{k:Kd}{A B D:T}(hx:e.lookup x=J)(a:e.length<=100)(hk:k.deep<=4)(F:Bo d e .num A)(G:Bo d e k B)(H:Bo d (e++[(x,k)]) k D):Bo (d+1) e k (.tup [.str<|q "times",.str x,A,B,D]):=λp hp=>by
 obtain⟨w,la,N,_,f,r⟩:=F (p++[0]) (by rw[Jx,JL];lia);obtain⟨y,lb,P,_,g,t⟩:=G (p++[1]) (by rw[Jx,JL];lia);obtain⟨kd,ld,Q,_,h,u⟩:=H (p++[2]) (by rw[Jx,JL];lia);have j:tab_BINDING.lookup (q "times")=Y (.int ((2:O):I)):=by kernel_rfl
 refine⟨w++y++kd++[nt p k],by rw[Jx,Jx,Jx,JL,p3];lia,bL (bL (bL N P) Q)<|d8 p hk,⟨_,rfl⟩,λL Z acc v z b o=>?_,λL Z acc v b o=>?_⟩
 .obtain ⟨l,rfl⟩:∃ l,L=l+3:=⟨L-3,by lia⟩;rw[Jx,Jx,Jx,JL] at o;rw[<- JN,<- JN,<- JN];exact mF (ins:=[.num,k,k]) (rs:=[A,B,D]) v z b (eW l _ _ (by kernel_rfl) .s) ((aX rfl (tA (ins:=[]) (bd j _ _) rfl (by decide) f (by lia) (by lia) (by decide) (by lia) z b J)).trans<|(aX rfl (tA (ins:=[Kd.num.th]) (bd j _ _) rfl (by decide) g (by lia) (by rw[Jx];lia) (by show 1<=10;decide) (by lia) .s .s _)).trans<|(aX rfl (tB (ins:=[.num,k]) (bd j _ _) hx a (λm=>ur l k m) h (by lia) (by rw[Jx,Jx];lia) (by show 2<=10;decide) (by lia) .s .s _)).trans rfl) (ff (.times k) (Gu (by decide) hk hk) hk (by lia) _ e)<|by rw[Jx,Jx,Jx];lia
 .obtain ⟨l,rfl⟩:∃ l,L=l+1:=⟨L-1,by lia⟩;rw[Jx,Jx,Jx,JL] at o;obtain⟨o8,M⟩:=Cr (L:=l) (A:=A) (B:=B) (acc:=acc++w++y) hx a u (by lia) (by rw[Jx,Jx];lia) (by lia) .s .s (Y (.s,dE e)) J<|Y (.s,k.th);rw[<- JN,<- JN,<- JN,dQ (st:=2) (n:=3) (c:=Jt) v .s b (by decide) (by decide) (by decide) (by decide) rfl (by decide) ((aX rfl (tL (st:=2) (i:=0) (ins:=[]) (atN (n:=2) rfl rfl) (.inr ⟨rfl,rfl⟩) r (by lia) (by lia) (by decide) (by lia) .s b J J J)).trans<|(aX rfl (tL (st:=2) (i:=1) (ins:=[Kd.num.th]) (atN (n:=3) rfl rfl) (.inr ⟨rfl,rfl⟩) t (by lia) (by rw[Jx];lia) (by show 1<=10;decide) (by lia) .s .s _ _ _)).trans<|(aX rfl M).trans rfl)];exact B7 hk (by lia) (by rw[Jx,Jx,Jx];lia) .s
theorem Ty.bo:∀{d:O} {e:EV} {k:Kd} {t:T},Ty d e k t->e.length+d<=100->Bo d e k t
|0,_,_,_,h,_=>nomatch h
|d+1,e,_,_,h,i=>by
 have g:∀z:Str×Kd,(e++[z]).length+d<=100:=λz=>by rw[Jx,JL];lia
 cases h with
 |name h f=>exact zq h f
 |num=>exact Bn
 |yes=>exact D5
 |no=>exact Eg
 |none h=>exact wo h
 |op1 r h a=>exact DX r (by cases r<;>decide) h a.dk<|a.bo<|by lia
 |op2 r n h a b=>exact Ap r n h a.dk b.dk (a.bo<|by lia)<|b.bo<|by lia
 |ifs a b c=>exact CH b.dk (a.bo<|by lia) (b.bo<|by lia)<|c.bo<|by lia
 |lets h a b=>exact xk h (by lia) a.dk b.dk (a.bo<|by lia)<|b.bo<|g _
 |each h f a b=>exact xW h (by lia) a.dk f (a.bo<|by lia)<|b.bo<|g _
 |times h a b c=>exact sA h (by lia) b.dk (a.bo<|by lia) (b.bo<|by lia)<|c.bo<|g _
abbrev sK:U (I ⊕ Str):=[.inr<|q "script",.inr<|q "at",.inr<|q "names"]
abbrev St (b:U I)(a k:O):T:=.dct sK [.scr b,.int (a:I),.int (k:I)]
theorem lkA (x y z:T):lookD (.inr<|q "at") sK [x,y,z]=Y y:=by kernel_rfl
theorem lkS (x y z:T):lookD (.inr<|q "script") sK [x,y,z]=Y x:=by kernel_rfl
theorem lkN (x y z:T):lookD (.inr<|q "names") sK [x,y,z]=Y z:=by kernel_rfl
theorem ptA (x y z w:T):putT (.inr<|q "at") w sK [x,y,z]=(sK,[x,w,z]):=by kernel_rfl
theorem ptN (x y z w:T):putT (.inr<|q "names") w sK [x,y,z]=(sK,[x,y,w]):=by kernel_rfl
theorem ktS (x:Str):keyT (.str x)=Y (.inr x):=rfl
theorem skA (x y z:T)(i:I)(m m':Md):dR (.o .s,.dct sK [x,y,z]) (m,.str<|q "at") (m',.int i)=Y (.o .s,.dct sK [x,.int i,z]):=by show(if decide (sK.length<LIM)&&flatT (.int i) then Y ((.o .s,.dct (putT (.inr<|q "at") (.int i) sK [x,y,z]).1 (putT (.inr<|q "at") (.int i) sK [x,y,z]).2):W) else J)=_;rw[ptA];rfl
theorem skN (x y z:T)(i:I)(m m':Md):dR (.o .s,.dct sK [x,y,z]) (m,.str<|q "names") (m',.int i)=Y (.o .s,.dct sK [x,y,.int i]):=by show(if decide (sK.length<LIM)&&flatT (.int i) then Y ((.o .s,.dct (putT (.inr<|q "names") (.int i) sK [x,y,z]).1 (putT (.inr<|q "names") (.int i) sK [x,y,z]).2):W) else J)=_;rw[ptN];rfl
theorem jO (n:O)(b:U I)(a k:O):∃c:I,C (n+1) 375 [(.o .s,St b a k)]=.ok ((.d,.int c),[(.o .s,St b (a+1) k)]):=by
 rw[ll,x_run _ _ _ rfl];by_cases h:a<b.length
 .have e:decide ((a:I)+1<=(b.length:I))=true:=OE (by lia);have f:atI b ((a:I)+1-1)=Y b[a]:=atN (n:=a) (by lia)<|KZ h;exact⟨b[a],by simp_all only[bM,ktS,lkA,lkS,skA,aa,e,f];rfl⟩
 .have e:decide ((a:I)+1<=(b.length:I))=false:=OR (by lia);exact⟨0,by simp_all only[bM,ktS,lkA,lkS,skA,aa,e];rfl⟩
abbrev SOME:U OL:=["v","addx","rowe","numb","q","eachz"]
def gen (i k:O):Str:=q (SOME.getD i "")++⟨#[97+k % 26]⟩++⟨#[97+k / 26 % 26]⟩
def Nm (k:O)(x:Str):Prop:=(∃s∈SOME,x=q s)\/∃i<6,∃j<k,x=gen i j
theorem Nm.up {k a:O}{x:Str}(h:Nm k x)(hk:k<=a):Nm a x:=h.elim .inl λ⟨i,b,j,c,e⟩=>.inr ⟨i,b,j,by lia,e⟩
theorem nI (i k:O):(gen i k).cps.toList=(q<|SOME.getD i "").cps.toList++[97+k % 26,97+k / 26 % 26]:=by unfold gen;rw[aU,aU,JN];rfl
theorem wO {k:O}(hk:k<676){i:O}(b:i<6){x:Str}(h:Nm k x):gen i k≠x:=λz=>by
 rcases h with⟨s,d,rfl⟩|⟨f,c,j,e,rfl⟩
 .have:=OQ (fun y:Str=>y.cps.toList.length) z;simp only[nI,Jx,JY,LA] at this;have a:∀i<6,∀s∈SOME,(q (SOME.getD i "")).cps.toList.length+(0+1+1)≠(q s).cps.toList.length:=by decide +kernel
  exact a i b s d this
 .have z:=OQ (fun y:Str=>y.cps.toList) z;simp only[nI] at z;have:=(List.append_inj' z rfl).2;simp only[List.cons.injEq] at this;lia
structure Ev (k:O)(e:EV):Prop where
 nm:∀p∈e,Nm k p.1/\p.2.deep<=4
 nd:(e.map J9).Nodup
theorem Ev.up {k a:O}{e:EV}(h:Ev k e)(hk:k<=a):Ev a e:=⟨λp hp=>⟨(h.nm p hp).1.up hk,(h.nm p hp).2⟩,h.nd⟩
theorem dH {x:Str}:∀{e:EV},x ∉ e.map J9->e.lookup x=J
|[],_=>rfl
|(y,k)::e,h=>by rw[KC,beq_eq_false_iff_ne.mpr λz=>h<|by rw[z];exact JJ];exact dH λz=>h<|JW _ z
theorem nV {x:Str}{k:Kd}:∀{e:EV},(e.map J9).Nodup->(x,k)∈e->e.lookup x=Y k
|[],_,h=>nomatch h
| (y,l)::e,c,h=>by
 obtain⟨a,b⟩:=KP.mp c;rcases JX.mp h with h|h
 .cases h;rw[KC,OU]
 .have:x≠y:=fun z=>a (by rw [<- z]; exact KJ.mpr ⟨_,h,rfl⟩);rw[KC,beq_eq_false_iff_ne.mpr this];exact nV b h
theorem Ev.add {k:O}{e:EV}{x:Str}{a:Kd}(h:Ev k e)(hx:Nm k x)(c:a.deep<=4)(f:x ∉ e.map J9):Ev k (e++[(x,a)]):=by
 refine⟨λp hp=>?_,?_⟩
 .rcases Kq.mp hp with hp | hp
  .exact h.nm p hp
  .rw[J4.mp hp];exact⟨hx,c⟩
 .rw [KS];exact MD.mpr ⟨h.nd,by simp,λa c b d=>by rw[J4.mp d];rintro rfl;exact f c⟩
abbrev eT (e:EV):U T:=e.map λp=>.tup [.str p.1,p.2.th]
def lF (e:EV)(s:OL):OF:=(e.map J9).contains<|q s
theorem Ge (e:EV)(s:Str):(flatT (.str s)&&(e.map λp=>T.str p.1).all flatT)=true:=by show(e.map λp=>T.str p.1).all flatT=Ju;rw[List.all_map,Lb];intro x _;rfl
theorem DF (s:OL):∀e:EV,((e.map λp=>T.str p.1).any λt=>eqT t<|.str<|q s)=lF e s
|[]=>rfl
|p::e=>by unfold lF;rw[JQ,KL,JQ,Nl,DF s e];show(p.1==q s || _)=_;rw[Me];rfl
abbrev free (e:EV):U OL:=SOME.filter λs=>!lF e s
abbrev NC:E:=.qx [1,7] []<|.op .notin Jt [.var 7,.comp Jt .seq [.var 1] [8] J<|.op .ix Jt [.var 8,.cst<|.int 0]]
theorem yL (n:O)(e:EV)(b:L W)(a:Md)(c d:L W)(i:L W):aM [7] (ir (evE (C n) NC)<|evE (C n)<|.var 7) (SOME.map λs=>[((.s,.str<|q s):W)]) [b,Y (a,.lst<|eT e),c,d,i,J,J,J,J] []=.ok ((free e).map λs=>(.s,.str<|q s),[b,Y (a,.lst<|eT e),c,d,i,J,J,J,J]):=by
 rw[fH (λs=>if lF e s then J else Y (.s,.str<|q s)) SOME [] λs r=>?_]
 .rw [Kw];congr 2;unfold free;generalize SOME=l;induction l with
  |nil=>rfl
  |cons s l m=>
   rw[KQ,NL];cases h:lF e s with
   |true=>simpa using m
   |false=>simpa using m
 .refine ⟨_,[b,Y (a,.lst (eT e)),c,d,i,J,J,Y (.s,.str (q s)),J],rfl,?_,rfl⟩;have k:(eT e).map (λt=>[((.s,t):W)])=e.map λp=>[((.s,.tup [.str p.1,p.2.th]):W)]:=by rw[K6];rfl
  have j:=fC (tg:=[8]) (f:=dr<|evE (C n)<|.op .ix Jt [.var 8,.cst<|.int 0]) (η:=[J,Y (.s,.lst<|eT e),J,J,J,J,J,Y (.s,.str<|q s),J]) (g:=λp:Str×Kd=>[((.s,.tup [.str p.1,p.2.th]):W)]) (λp=>(.s,.str p.1)) e [] λp hp=>⟨_,[J,Y (.s,.lst<|eT e),J,J,J,J,J,Y (.s,.str<|q s),Y (.s,.tup [.str p.1,p.2.th])],rfl,by simp_all only[aa],rfl⟩;have o:trees (e.map λp=>((.s,.str p.1):W))=e.map λp=>T.str p.1:=fD .s _ _;cases h:lF e s with
  |true=>simp_all only[k,j,o,Ge,DF,h,aa]
  |false=>simp_all only[k,j,o,Ge,DF,h,aa]
theorem uH {e:EV}{s:OL}(h:s∈free e):s∈SOME/\q s ∉ e.map J9:=by obtain⟨b,a⟩:=My.mp h;refine⟨b,λz=>?_⟩;unfold lF at a;rw[Of.mpr z] at a;cases a
theorem qI (j:O)(a:j<26):atI (q "abcdefghijklmnopqrstuvwxyz").cps.toList (j:I)=Y (97+j):=by
 have:∀j<26,(q "abcdefghijklmnopqrstuvwxyz").cps.toList[j]?=Y (97+j):=by decide +kernel
 exact atN rfl (this j a)
theorem vV (j:O)(a:j<6):atI [T.str<|q "v",.str<|q "addx",.str<|q "rowe",.str<|q "numb",.str<|q "q",.str<|q "eachz"] (j:I)=Y (.str<|q<|SOME.getD j ""):=by
 refine atN rfl ?_
 match j,a with
 |0,_=>rfl
 |1,_=>rfl
 |2,_=>rfl
 |3,_=>rfl
 |4,_=>rfl
 |5,_=>rfl
theorem zQ (h:OF)(m n:Md)(x:Str)(i:I):oSem .ix h [(m,.str x),(n,.int i)]=(atI x.cps.toList i).map λc=>(.d,.str ⟨#[c]⟩):=rfl
theorem nB (n:O)(m:U I)(a k:O)(e:EV)(he:Ev k e)(hk:k<676)(c:I)(l Q:Md):∃md x D,C (n+1) 376 [(.o .s,St m a k),(l,.lst<|eT e),(Q,.int c)]=.ok ((md,.str x),[(.o .s,St m a D),(l,.lst<|eT e)])/\Nm D x/\x ∉ e.map J9/\k<=D/\D<=k+1:=by
 have p3:decide ((0:I)<3)=true:=rfl;have p3':decide ((3:I)<1073741824)=true:=rfl;have p6:decide ((0:I)<6)=true:=rfl;have v:decide ((0:I)<26)=true:=rfl;have f:decide ((26:I)<1073741824)=true:=rfl;have fr:∀F G M,aM [7] (ir (evE (C n) NC) (evE (C n) (.var 7))) [[(.s,.str (q "v"))],[(.s,.str (q "addx"))],[(.s,.str (q "rowe"))],[(.s,.str (q "numb"))],[(.s,.str (q "q"))],[(.s,.str (q "eachz"))]] [Y (.o .s,St m a k),Y (l,.lst (eT e)),F,G,M,J,J,J,J] []=.ok ((free e).map λs=>(.s,.str (q s)),[Y (.o .s,St m a k),Y (l,.lst (eT e)),F,G,M,J,J,J,J]):=λF G M=>yL n e (Y (.o .s,St m a k)) l F G M;have tr:trees ((free e).map λs=>((.s,.str (q s)):W))=(free e).map λs=>T.str (q s):=fD .s _ _;have H:evSs (C n) (Bk f_law_name 0 3) [Y (.o .s,St m a k),Y (l,.lst (eT e)),Y (Q,.int c),J,J,J,J,J,J]=.nx [Y (.o .s,St m a k),Y (l,.lst (eT e)),Y (Q,.int c),Y (.d,.str (q "abcdefghijklmnopqrstuvwxyz")),Y (.s,.lst [T.str (q "v"),.str (q "addx"),.str (q "rowe"),.str (q "numb"),.str (q "q"),.str (q "eachz")]),Y (.o .s,.lst ((free e).map λs=>T.str (q s))),J,J,J]:=by simp_all only[Bk,JC,JB,JG,JH,f_law_name,aa,fr,tr]
 rw[kI,x_run _ _ _ rfl];have go:=OQ (Fl.out [0,1])<|go1 (b:=f_law_name.body.drop 3) H;by_cases r:(decide ((0:I)<c % 3)&&decide ((0:I)<(((free e).map λs=>T.str<|q s).length:O)))=Ju
 .rw [JM] at r;have hl:=OM r.2;obtain⟨j,hj,w⟩:=md2 (c / 3) (((free e).map λs=>T.str (q s)).length:O) (by exact hl);have u:j<(free e).length:=by rw[JF] at hj;lia
  have t:atI ((free e).map λs=>T.str (q s)) (j:I)=Y (.str (q (free e)[j])):=atN rfl (by rw[Ki,KZ u];rfl);have fm:=uH<|MQ u;have P:decide ((0:I)<(((free e).map λs=>T.str (q s)).length:O))=true:=r.2;exact⟨_,_,k,go.trans<|by simp_all only[JC,JB,f_law_name,p3,p3',r.1,P,w,t,aa];rfl,.inl ⟨_,fm.1,rfl⟩,fm.2,JE _,MN _⟩
 .obtain ⟨j,hj,w⟩:=md2 (c / 3) 6 (by decide);have t:=vV j (by lia);have k1:(k:I) % 26=((k % 26:O):I):=by lia
  have k2:(k:I) / 26 % 26=((k / 26 % 26:O):I):=by lia
  have a1:=qI (k % 26) (Nat.mod_lt _<|by decide);have a2:=qI (k / 26 % 26) (Nat.mod_lt _<|by decide);have A:∀(x:Str) (y:O),x.cps.size<=100->fits (x.cps.size+(⟨#[y]⟩:Str).cps.size)=true:=λx y h=>OE<|by show x.cps.size+1<=16777215;lia
  have Z:(q (SOME.getD j "")).cps.size<=50:=by
   have:∀j<6,(q<|SOME.getD j "").cps.size<=50:=by decide +kernel
   exact this j<|by lia
  have s2:(q (SOME.getD j "")++(⟨#[97+k % 26]⟩:Str)).cps.size<=100:=by rw[<- Kr,aU,Jx,Kr];show _+1<=100;lia
  refine⟨.d,gen j k,k+1,go.trans ?_,.inr ⟨j,by lia,k,by lia,rfl⟩,λz=>?_,by lia,by lia⟩
  .have i:q (SOME.getD j "")++(⟨#[97+k % 26]⟩:Str)++(⟨#[97+k / 26 % 26]⟩:Str)=gen j k:=rfl;generalize hg:SOME.getD j ""=g at t Z s2 i;cases N:decide ((0:I)<c % 3) with
   | true =>
    have h2:decide ((0:I)<(((free e).map λs=>T.str (q s)).length:O))=false:=by rw[N,Mi] at r;exact MB.mpr r
    simp_all only[JC,JB,f_law_name,p3,p3',p6,v,f,N,h2,w,t,aa,ktS,lkN,skN,k1,k2,a1,a2,zQ,A _ _<|JP Z<|by decide,A _ _ s2,i];rfl
   |false=>simp_all only[JC,JB,f_law_name,p3,p3',p6,v,f,N,w,t,aa,ktS,lkN,skN,k1,k2,a1,a2,zQ,A _ _<|JP Z<|by decide,A _ _ s2,i];rfl
  .obtain ⟨p,hp,e1⟩:=KJ.mp z;exact wO hk (by lia) (he.nm p hp).1 e1.symm
noncomputable abbrev N20:U I:=[0,1,2,3,1,2,5,4,3,2,7,1,60,61,200,201,1000000000000000000,999999999999999999,900000000000000000,1000000000]
theorem fq (n:O)(c:I)(m:Md):∃i:I,i.natAbs<=1000000000000000000/\C (n+1) 378 [(m,.int c)]=.ok ((.s,.int i),[]):=by
 have H:evSs (C n) (Bk f_law_number 0 2) [Y (m,.int c),J]=.nx [Y (m,.int c),Y (.o .s,.lst (N20.map T.int))]:=by kernel_rfl
 have e:decide ((0:I)<12)=true:=rfl;have a:decide ((12:I)<1073741824)=true:=rfl;have x:decide ((0:I)<4)=true:=rfl;have g:decide ((0:I)<48)=true:=rfl;have d:decide ((48:I)<1073741824)=true:=rfl;have f:decide ((0:I)<20)=true:=rfl;have v:∀j<20,(N20.getD j 0).natAbs<=1000000000000000000:=by decide
 have r:∀j:O,j<20->atI (N20.map T.int) (j:I)=Y (.int (N20.getD j 0)):=λj w=>atN rfl (by rw[Ki,Mv,KZ<|show j<N20.length from w];rfl);obtain⟨j,w,u⟩:=md2 c 12 (by decide);obtain⟨i,y,t⟩:=md2 (c / 48) 20 (by decide);have go:=OQ (Fl.out [])<|go1 (b:=f_law_number.body.drop 2) H;rw[il,x_run _ _ _ rfl];have k:=r j (by lia);have p:=r i (by lia);generalize N20.map T.int=l at go k p;cases h:decide ((0:I)<c / 12 % 4) with
 |true=>exact⟨_,v j<|by lia,go.trans<|by simp_all only[JC,JB,f_law_number,e,a,x,g,d,f,h,u,t,k,p]⟩
 |false=>exact⟨_,v i<|by lia,go.trans<|by simp_all only[JC,JB,f_law_number,e,a,x,g,d,f,h,u,t,k,p]⟩
abbrev fU (e:EV)(k:Kd):U Str:=(e.filter λp=>eqT p.2.th k.th).map J9
theorem dj:∀e:EV,pairsT (eT e)=Y (e.map λp=>[(.s,.str p.1),(.s,p.2.th)])
|[]=>rfl
|p::e=>by show(pairsT<|eT e).map _=_;rw[dj e];rfl
theorem yV {e:EV}{k:Kd}{x:Str}(h:x∈fU e k):(x,k)∈e:=by obtain⟨⟨y,l⟩,a,rfl⟩:=KJ.mp h;obtain⟨b,c⟩:=My.mp a;have:=dB c;subst this;exact b
theorem m8 (n:O)(e:EV)(k:Kd)(hk:k.deep<=4)(b:∀p∈e,p.2.deep<=4)(c:I)(l r i:Md):evSs (C n) (Bk f_law_leaf 0 1) [Y (l,k.th),Y (r,.lst<|eT e),Y (i,.int c),J,J,J,J]=.nx [Y (.s,k.th),Y (.s,.lst<|eT e),Y (i,.int c),Y (.o .s,.lst<|(fU e k).map T.str),J,J,J]:=by
 have a:=fH (tg:=[5,6]) (f:=ir (evE (C n)<|.op .eq Jt [.var 6,.var 0])<|evE (C n)<|.var 5) (η:=[Y (.s,k.th),Y (.s,.lst<|eT e),J,J,J,J,J]) (g:=λp:Str×Kd=>[((.s,.str p.1):W),(.s,p.2.th)]) (λp=>if eqT p.2.th k.th then Y (.s,.str p.1) else J) e [] (λp hp=>by
  refine⟨_,[Y (.s,k.th),Y (.s,.lst<|eT e),J,J,J,Y (.s,.str p.1),Y (.s,p.2.th)],rfl,?_,rfl⟩;have:=cD k;have:=cD p.2;have:=b p hp;have e1:=λm t=>bZ Jt m t p.2.th k.th (by lia) (by lia);cases h:eqT p.2.th k.th with
  |true=>simp_all only[aF,e1,h,aa]
  |false=>simp_all only[aF,e1,h,aa])
 have j:trees (e.filterMap λp=>if eqT p.2.th k.th then Y ((.s,.str p.1):W) else J)=(fU e k).map T.str:=by
  clear a b;unfold fU;induction e with
  |nil=>rfl
  | cons p e d =>
   rw[KQ,NL];cases h:eqT p.2.th k.th with
   |true=>show T.str p.1::trees (e.filterMap _)=T.str p.1::((e.filter _).map J9).map T.str;rw[<- d]
   |false=>exact d
 rw[Kw] at a;simp_all only[Bk,JC,JB,JG,JH,f_law_leaf,aa,dj,a,j]
theorem Ty.tp {d:O}{e:EV}{k:Kd}{t:T}(h:Ty d e k t):∃a,t=.tup a:=by cases h<;>exact⟨_,rfl⟩
theorem eL {nm:O}{e:EV}(u:Ev nm e):∀(f:O) (k:Kd) {L:O} (c:I) (P Q w:Md),k.deep<f->k.deep<=4->k.deep+3<=L->∃md t,C L 379 [(P,k.th),(Q,.lst<|eT e),(w,.int c)]=.ok ((md,t),[])/\Ty (k.deep+1) e k t
|0,_,_,_,_,_,_,h,_,_=>OH h<|by lia
| f+1,k,L,c,P,Q,w,hf,hk,hL=>by
 obtain⟨n,rfl⟩:∃n,L=n+1:=⟨L-1,by lia⟩;have H:=m8 n e k hk (λp hp=>(u.nm p hp).2) c P Q w;have go:=OQ (Fl.out [])<|go1 (b:=f_law_leaf.body.drop 1) H;have l:decide ((0:I)<4)=true:=rfl;have g:decide ((4:I)<1073741824)=true:=rfl;have z:decide ((0:I)<2)=true:=rfl;have Z:decide ((0:I)<64)=true:=rfl;have x:decide ((64:I)<1073741824)=true:=rfl;have p8:decide ((0:I)<8)=true:=rfl;have p8':decide ((8:I)<1073741824)=true:=rfl;rw[k4,x_run _ _ _ rfl];by_cases m:(decide ((0:I)<(((fU e k).map T.str).length:O))&&decide ((0:I)<c % 4))=Ju
 .rw [JM] at m;obtain⟨j,hj,y⟩:=md2 (c / 4) (((fU e k).map T.str).length:O) (OM m.1);have v:j<(fU e k).length:=by rw[JF] at hj;lia
  have r:atI ((fU e k).map T.str) (j:I)=Y (.str (fU e k)[j]):=atN rfl (by rw[Ki,KZ v];rfl);have fm:=yV<|MQ v;exact⟨_,_,go.trans<|by simp_all only[JC,JB,f_law_leaf,l,g,m.1,m.2,y,r,aa];rfl,.name (nV u.nd fm) hk⟩
 .have skip:evSs (C n) (Bk f_law_leaf 1 1) [Y (.s,k.th),Y (.s,.lst (eT e)),Y (w,.int c),Y (.o .s,.lst ((fU e k).map T.str)),J,J,J]=.nx [Y (.s,k.th),Y (.s,.lst (eT e)),Y (w,.int c),Y (.o .s,.lst ((fU e k).map T.str)),J,J,J]:=by
   cases F:decide ((0:I)<(((fU e k).map T.str).length:O)) with
   |true=>
    have h2:decide ((0:I)<c % 4)=false:=by rw[F,Mi] at m;exact MB.mpr m
    simp_all only[Bk,JC,JB,JG,JH,f_law_leaf,l,g,F,h2,aa]
   |false=>simp_all only[Bk,JC,JB,JG,JH,f_law_leaf,l,g,F,aa]
  have go:=go.trans<|OQ (Fl.out [])<|go1 (b:=f_law_leaf.body.drop 2) skip;obtain⟨n,rfl⟩:∃n',n=n'+1:=⟨n-1,by lia⟩;cases k with
  |num=>obtain⟨i,_,ei⟩:=fq n (c / 4) .d;exact⟨_,_,go.trans<|by simp_all only[JC,JB,f_law_leaf,l,g,Kd.th,qeq,ei];rfl,.num⟩
  | truth =>
   obtain⟨j,hj,y⟩:=md2 (c / 4) 2 (by decide);rcases(show j=0\/j=1 by lia) with rfl|rfl
   .have r:atI [T.str (q "yes"),.str (q "no")] ((0:O):I)=Y (.str (q "yes")):=rfl;exact⟨_,_,go.trans<|by simp_all only[JC,JB,f_law_leaf,l,g,z,Kd.th,qeq,y,r];rfl,.yes⟩
   .have r:atI [T.str (q "yes"),.str (q "no")] ((1:O):I)=Y (.str (q "no")):=rfl;exact⟨_,_,go.trans<|by simp_all only[JC,JB,f_law_leaf,l,g,z,Kd.th,qeq,y,r];rfl,.no⟩
  |pair a b=>have N:max a.deep b.deep+1<=4:=hk;have M:max a.deep b.deep+1<f+1:=hf;have G:max a.deep b.deep+1+3<=n+2:=hL;obtain⟨ma,ta,D,A⟩:=eL u f a (L:=n+1) (c / 4) .s .s .d (by lia) (by lia) (by lia);obtain⟨mb,tb,eb,yb⟩:=eL u f b (L:=n+1) (c / 64) .s .s .d (by lia) (by lia) (by lia);obtain⟨ta,rfl⟩:=A.tp;obtain⟨tb,rfl⟩:=yb.tp;cases ma<;>exact⟨_,.tup [.str<|q "pair",.tup ta,.tup tb],go.trans<|by simp_all only[JC,JB,f_law_leaf,l,g,Z,x,Kd.th,qeq,aa,D,eb];rfl,.op2 (d:=max a.deep b.deep+1) (.pair a b) rfl hk (A.up<|by lia) (yb.up<|by lia)⟩
  | row a =>
   have N:a.deep+1<=4:=hk;have M:a.deep+1<f+1:=hf;have G:a.deep+1+3<=n+2:=hL;cases h:(c / 4 % 2==0) with
   |true=>exact⟨_,_,go.trans<|by simp_all only[JC,JB,f_law_leaf,l,g,z,Kd.th,qeq,h];rfl,.none<|by lia⟩
   |false=>obtain⟨ma,ta,D,A⟩:=eL u f a (L:=n+1) (c / 8) .s .s .d (by lia) (by lia) (by lia);exact⟨_,_,go.trans<|by simp_all only[JC,JB,f_law_leaf,l,g,z,p8,p8',Kd.th,qeq,h,D];rfl,.op1 (d:=a.deep+1) (.one a) hk A⟩
abbrev SP:=OL×U Kd
def sgT (p:SP):T:=.tup [.str<|q p.1,.lst<|p.2.map Kd.th]
structure Sgn (k:Kd)(p:SP):Prop where
 r:Rl p.1 p.2 k
 n:nob p.1=Ju
 d:∀a∈p.2,a.deep<=4
abbrev E5 (k o:Kd)(a b c d:Md)(e:U T):Env:=[Y (a,k.th),Y (b,o.th),Y (c,.tup [.str<|q "num"]),Y (d,.tup [.str<|q "row",.tup [.str<|q "num"]]),Y (.o .s,.lst e),J]
def lz (a j:O)(k o:Kd)(P:Prop):Prop:=∀g h i l f,f.length<=1000->∃b c d e ps,evSs (C a) (Bk f_law_signs j 1) (E5 k o g h i l f)=.nx (E5 k o b c d e<|f++ps.map sgT)/\ps.length<=20/\(∀p∈ps,Sgn k p)/\(P->ps≠[])
theorem f20 {us:U T}(h:us.length<=1020){xs:U T}(hx:xs.length<=20):fits (us.length+xs.length)=true:=OE<|by show _<=16777215;lia
theorem bD {P:SP->Prop}{a:SP}{l:U SP}(h:P a)(b:∀u∈l,P u):∀u∈a::l,P u:=λu c=>(JX.mp c).elim (λz=>z ▸ h)<|b u
theorem bH {P:SP->Prop}:∀u∈([]:U SP),P u:=λu a=>nomatch a
theorem n01:(Kd.num).deep<=4:=by decide
theorem n02:(Kd.row .num).deep<=4:=by decide
theorem n03:(Kd.truth).deep<=4:=by decide
theorem n04:(Kd.row .truth).deep<=4:=by decide
abbrev tN:T:=.tup [.str<|q "num"]
abbrev tR:T:=.tup [.str<|q "row",.tup [.str<|q "num"]]
theorem ad4 (c:O)(k o:Kd)(hk:k.deep<=4)(ho:o.deep<=1):lz c 4 k o (k=.num):=λu F G H us N=>by
 have e1:=λm M=>bZ Jt m M k.th (.tup [.str<|q "num"]) (by have:=cD k;lia) (by decide);cases h:eqT k.th (.tup [.str<|q "num"]) with
 |false=>exact⟨u,F,G,H,[],by rw[J0,JR];simp_all only[Bk,JC,JB,JG,JH,f_law_signs,aa,e1,h],by decide,bH,λz=>by subst z;rw[show T.tup [.str<|q "num"]=Kd.num.th from rfl,av] at h;cases h⟩
 |true=>
  have t:k=.num:=dB (a:=k) (b:=.num) h;have D:(Kd.row o).deep<=4:=by show o.deep+1<=4;lia
  have e2:us++[.tup [.str (q "add"),.lst [tN,tN]],.tup [.str (q "sub"),.lst [tN,tN]],.tup [.str (q "mul"),.lst [tN,tN]],.tup [.str (q "div"),.lst [tN,tN]],.tup [.str (q "rest"),.lst [tN,tN]],.tup [.str (q "add"),.lst [tN,tN]]]++[.tup [.str (q "sum"),.lst [tR]],.tup [.str (q "most"),.lst [tR]],.tup [.str (q "long"),.lst [.tup [.str (q "row"),o.th]]]]=us++([("add",[.num,.num]),("sub",[.num,.num]),("mul",[.num,.num]),("div",[.num,.num]),("rest",[.num,.num]),("add",[.num,.num]),("sum",[.row .num]),("most",[.row .num]),("long",[.row o])]:U SP).map sgT:=by rw[JN];rfl
  have y:=λe f g i j l=>f20 (us:=us) (by lia) (xs:=[e,f,g,i,j,l]) (by show 6<=20;decide);have A:∀e f g i j l v w x:T,fits ((us++[e,f,g,i,j,l]).length+[v,w,x].length)=true:=λe f g i j l v w x=>f20 (by rw[Jx];show _+6<=1020;lia) (by show 3<=20;decide);have d:∀{s:OL},Rl s [.num,.num] .num->nob s=Ju->Sgn k (s,[.num,.num]):=λr n=>⟨t ▸ r,n,eU n01 n01⟩;have p:∀{s:OL} {a:Kd},Rl s [a] .num->nob s=Ju->a.deep<=4->Sgn k (s,[a]):=λr n h=>⟨t ▸ r,n,qO h⟩;exact⟨u,.s,.s,.s,_,by rw[<- e2];simp_all only[Bk,JC,JB,JG,JH,f_law_signs,aa,e1,h,aM,LU,OG<|y _ _ _ _ _ _,OG<|A _ _ _ _ _ _ _ _ _,aL],by show 9<=20;decide,bD (d .add rfl)<|bD (d .sub rfl)<|bD (d .mul rfl)<|bD (d .div rfl)<|bD (d .rest rfl)<|bD (d .add rfl)<|bD (p .sum rfl n02)<|bD (p .most rfl n02)<|bD (p (.long o) rfl D) bH,λ_=>by simp⟩
theorem sg1 {s:OL}{a k:Kd}(r:Rl s [a] k)(n:nob s=Ju)(h:a.deep<=4):Sgn k (s,[a]):=⟨r,n,qO h⟩
theorem sg2 {s:OL}{a b k:Kd}(r:Rl s [a,b] k)(n:nob s=Ju)(h:a.deep<=4)(c:b.deep<=4):Sgn k (s,[a,b]):=⟨r,n,eU h c⟩
theorem ad5 (c:O)(k o:Kd)(hk:k.deep<=4):lz c 5 k o (k=.truth):=λt g u i us w=>by
 have e1:=λm v=>bZ Jt m v k.th (.tup [.str<|q "truth"]) (by have:=cD k;lia) (by decide);cases h:eqT k.th (.tup [.str<|q "truth"]) with
 |false=>exact⟨t,g,u,i,[],by rw[J0,JR];simp_all only[Bk,JC,JB,JG,JH,f_law_signs,aa,e1,h],by decide,bH,λz=>by subst z;rw[show T.tup [.str<|q "truth"]=Kd.truth.th from rfl,av] at h;cases h⟩
 |true=>
  have n:k=.truth:=dB (a:=k) (b:=.truth) h;have e2:us++[.tup [.str (q "not"),.lst [k.th]],.tup [.str (q "both"),.lst [k.th,k.th]],.tup [.str (q "same"),.lst [k.th,k.th]]]++[.tup [.str (q "same"),.lst [tN,tN]],.tup [.str (q "less"),.lst [tN,tN]]]=us++([("not",[k]),("both",[k,k]),("same",[k,k]),("same",[.num,.num]),("less",[.num,.num])]:U SP).map sgT:=by rw[JN];rfl
  have p:=λd e f=>f20 (us:=us) (by lia) (xs:=[d,e,f]) (by show 3<=20;decide);have r:∀d e f j l:T,fits ((us++[d,e,f]).length+[j,l].length)=true:=λd e f j l=>f20 (by rw[Jx];show _+3<=1020;lia) (by show 2<=20;decide);exact⟨.s,g,.s,i,_,by rw[<- e2];simp_all only[Bk,JC,JB,JG,JH,f_law_signs,aa,e1,h,OG<|p _ _ _,OG<|r _ _ _ _ _,aL],by show 5<=20;decide,(by subst n;exact bD (sg1 .not rfl hk)<|bD (sg2 .both rfl hk hk)<|bD (sg2 .same2 rfl hk hk)<|bD (sg2 .same rfl n01 n01)<|bD (sg2 .less rfl n01 n01) bH),λ_=>by simp⟩
theorem ad6 (c:O)(k o:Kd)(hk:k.deep<=4):lz c 6 k o (∃a b,k=.pair a b):=λg d e f us l=>by
 cases k with
 |pair a b=>have j:max a.deep b.deep+1<=4:=hk;have e2:(JV (LP 3) [T.tup [.str (q "pair"),.lst [a.th,b.th]]]).flatten=([("pair",[a,b]),("pair",[a,b]),("pair",[a,b])]:U SP).map sgT:=rfl;have i:(decide (Mo 3<4611686018427387904)&&fits ([T.tup [.str (q "pair"),.lst [a.th,b.th]]].length * LP 3))=true:=rfl;have h:=f20 (us:=us) (by lia) (xs:=([("pair",[a,b]),("pair",[a,b]),("pair",[a,b])]:U SP).map sgT) (by show 3<=20;decide);have S:=sg2 (Rl.pair a b) rfl (show a.deep<=4 by lia) (show b.deep<=4 by lia);refine⟨.s,d,e,f,[("pair",[a,b]),("pair",[a,b]),("pair",[a,b])],?_,by show 3<=20;decide,bD S<|bD S<|bD S bH,λ_=>by simp⟩;generalize ([("pair",[a,b]),("pair",[a,b]),("pair",[a,b])]:U SP).map sgT=xs at e2 h;simp_all only[Bk,JC,JB,JG,JH,f_law_signs,aa,Kd.th,qeq,bJ,dN,i,e2,OG h,aL];rfl
 |num=>exact⟨g,d,e,f,[],by rw[J0,JR];simp_all only[Bk,JC,JB,JG,JH,f_law_signs,aa,Kd.th,qeq],by decide,bH,λ⟨_,_,z⟩=>nomatch z⟩
 |truth=>exact⟨g,d,e,f,[],by rw[J0,JR];simp_all only[Bk,JC,JB,JG,JH,f_law_signs,aa,Kd.th,qeq],by decide,bH,λ⟨_,_,z⟩=>nomatch z⟩
 |row a=>exact⟨g,d,e,f,[],by rw[J0,JR];simp_all only[Bk,JC,JB,JG,JH,f_law_signs,aa,Kd.th,qeq],by decide,bH,λ⟨_,_,z⟩=>nomatch z⟩
theorem ad7 (c:O)(k o:Kd)(hk:k.deep<=4):lz c 7 k o (∃a,k=.row a):=λg d e f us n=>by
 cases k with
 |row a=>have i:a.deep+1<=4:=hk;have h:=λj l m=>f20 (us:=us) (by lia) (xs:=[j,l,m]) (by show 3<=20;decide);refine⟨.s,d,e,f,[("one",[a]),("join",[.row a,.row a]),("keep",[.row a,.row .truth])],?_,by show 3<=20;decide,bD (sg1 (.one a) rfl (by lia))<|bD (sg2 (.join a) rfl hk hk)<|bD (sg2 (.keep a) rfl hk n04) bH,λ_=>by simp⟩;simp_all only[Bk,JC,JB,JG,JH,f_law_signs,aa,Kd.th,qeq,OG<|h _ _ _,aL];rfl
 |num=>exact⟨g,d,e,f,[],by rw[J0,JR];simp_all only[Bk,JC,JB,JG,JH,f_law_signs,aa,Kd.th,qeq],by decide,bH,λ⟨_,z⟩=>nomatch z⟩
 |truth=>exact⟨g,d,e,f,[],by rw[J0,JR];simp_all only[Bk,JC,JB,JG,JH,f_law_signs,aa,Kd.th,qeq],by decide,bH,λ⟨_,z⟩=>nomatch z⟩
 |pair a b=>exact⟨g,d,e,f,[],by rw[J0,JR];simp_all only[Bk,JC,JB,JG,JH,f_law_signs,aa,Kd.th,qeq],by decide,bH,λ⟨_,z⟩=>nomatch z⟩
theorem ad8 (c:O)(k o:Kd)(hk:k.deep<=4)(p:6<=c):lz c 8 k o OS:=λi e f g m r=>by
 have n:∀{k:Kd},OS->([]:U SP)≠[]:=λz=>z.elim;cases k with
 | row a =>
  have j:a.deep+1<=4:=hk;have l:m.length<LIM:=by show _<16777215;lia
  have hd:C c 377 [(.s,.tup [.str (q "row"),a.th])]=.ok ((.d,.int (((Kd.row a).deep+1:O):I)),[]):=jN (k:=.row a) (by lia) .s;cases h:decide ((((Kd.row a).deep+1:O):I)<5) with
  |true=>have:((a.deep+1+1:O):I)<5:=OM h;refine⟨.s,e,f,g,[("flat",[.row<|.row a])],?_,by show 1<=20;decide,bD (sg1 (.flat a) rfl (by show a.deep+1+1<=4;lia)) bH,λz=>z.elim⟩;simp_all only[Bk,JC,JB,JG,JH,f_law_signs,aa,Kd.th,qeq,hd,h,OG l,aL];rfl
  |false=>exact⟨i,e,f,g,[],by rw[J0,JR];simp_all only[Bk,JC,JB,JG,JH,f_law_signs,aa,Kd.th,qeq,hd,h],by decide,bH,λz=>z.elim⟩
 |num=>exact⟨i,e,f,g,[],by rw[J0,JR];simp_all only[Bk,JC,JB,JG,JH,f_law_signs,aa,Kd.th,qeq],by decide,bH,λz=>z.elim⟩
 |truth=>exact⟨i,e,f,g,[],by rw[J0,JR];simp_all only[Bk,JC,JB,JG,JH,f_law_signs,aa,Kd.th,qeq],by decide,bH,λz=>z.elim⟩
 |pair a b=>exact⟨i,e,f,g,[],by rw[J0,JR];simp_all only[Bk,JC,JB,JG,JH,f_law_signs,aa,Kd.th,qeq],by decide,bH,λz=>z.elim⟩
theorem ad9 (c:O)(k o:Kd)(hk:k.deep<=4):lz c 9 k o OS:=λd e i j us t=>by
 have e1:=λm l=>bZ Jt m l k.th (.tup [.str<|q "row",.tup [.str<|q "num"]]) (by have:=cD k;lia) (by decide);cases h:eqT k.th (.tup [.str<|q "row",.tup [.str<|q "num"]]) with
 |false=>exact⟨d,e,i,j,[],by rw[J0,JR];simp_all only[Bk,JC,JB,JG,JH,f_law_signs,aa,e1,h],by decide,bH,λz=>z.elim⟩
 |true=>have f:k=.row .num:=dB (a:=k) (b:=.row .num) h;have g:=λn p r=>f20 (us:=us) (by lia) (xs:=[n,p,r]) (by show 3<=20;decide);refine⟨d,e,.s,.s,[("sums",[.row .num]),("upto",[.num]),("upto",[.num])],?_,by show 3<=20;decide,(by subst f;exact bD (sg1 .sums rfl n02)<|bD (sg1 .upto rfl n01)<|bD (sg1 .upto rfl n01) bH),λz=>z.elim⟩;simp_all only[Bk,JC,JB,JG,JH,f_law_signs,aa,e1,h,OG<|g _ _ _,aL];rfl
theorem HJ (c:O)(k o:Kd)(hk:k.deep<=4):lz c 10 k o OS:=λf d e g us m=>by
 cases k with
 | row b =>
  cases b with
  |row a=>have i:a.deep+1+1<=4:=hk;have h:=λj l=>f20 (us:=us) (by lia) (xs:=[j,l]) (by show 2<=20;decide);have S:=sg2 (Rl.cut a) rfl (show a.deep+1<=4 by lia) n02;refine⟨.s,d,e,.s,[("cut",[.row a,.row .num]),("cut",[.row a,.row .num])],?_,by show 2<=20;decide,bD S<|bD S bH,λz=>z.elim⟩;simp_all only[Bk,JC,JB,JG,JH,f_law_signs,aa,Kd.th,qeq,OG<|h _ _,aL];rfl
  |num=>exact⟨f,d,e,g,[],by rw[J0,JR];simp_all only[Bk,JC,JB,JG,JH,f_law_signs,aa,Kd.th,qeq],by decide,bH,λz=>z.elim⟩
  |truth=>exact⟨f,d,e,g,[],by rw[J0,JR];simp_all only[Bk,JC,JB,JG,JH,f_law_signs,aa,Kd.th,qeq],by decide,bH,λz=>z.elim⟩
  |pair a b=>exact⟨f,d,e,g,[],by rw[J0,JR];simp_all only[Bk,JC,JB,JG,JH,f_law_signs,aa,Kd.th,qeq],by decide,bH,λz=>z.elim⟩
 |num=>exact⟨f,d,e,g,[],by rw[J0,JR];simp_all only[Bk,JC,JB,JG,JH,f_law_signs,aa,Kd.th,qeq],by decide,bH,λz=>z.elim⟩
 |truth=>exact⟨f,d,e,g,[],by rw[J0,JR];simp_all only[Bk,JC,JB,JG,JH,f_law_signs,aa,Kd.th,qeq],by decide,bH,λz=>z.elim⟩
 |pair a b=>exact⟨f,d,e,g,[],by rw[J0,JR];simp_all only[Bk,JC,JB,JG,JH,f_law_signs,aa,Kd.th,qeq],by decide,bH,λz=>z.elim⟩
theorem ad3 (L:O)(k o:Kd)(hk:k.deep<=4)(ho:o.deep<=1)(r:6<=L)(e f:Md):∃(a b c d:Md) (ps:U SP),evSs (C L) (Bk f_law_signs 0 4) [Y (e,k.th),Y (f,o.th),J,J,J,J]=.nx (E5 k o a b c d<|ps.map sgT)/\ps.length<=20/\∀p∈ps,Sgn k p:=by
 have hd:=λm=>jN (k:=k) (L:=L) (by lia) m;cases h:decide (((k.deep+1:O):I)<5) with
 |true=>
  have n:((k.deep+1:O):I)<5:=OM h;have g:(Kd.row k).deep<=4:=by show k.deep+1<=4;lia
  have i:(Kd.pair k o).deep<=4:=by show max k.deep o.deep+1<=4;lia
  have j:(Kd.pair o k).deep<=4:=by show max o.deep k.deep+1<=4;lia
  have l:∀x y:T,[x,y].length<LIM:=λx y=>by show 2<16777215;decide
  refine⟨.s,.s,.s,.o .s,[("pick",[.row k,.num]),("first",[.pair k o]),("second",[.pair o k])],?_,by show 3<=20;decide,bD (sg2 (.pick k) rfl g n01)<|bD (sg1 (.first k o) rfl i)<|bD (sg1 (.second o k) rfl j) bH⟩;simp_all only[Bk,JC,JB,JG,JH,f_law_signs,aa,hd,h,OG<|l _ _,aL];rfl
 |false=>refine⟨e,f,.s,.o .s,[],?_,by decide,bH⟩;simp_all only[Bk,JC,JB,JG,JH,f_law_signs,aa,hd,h,aL]
theorem lM {f j:O}{k o:Kd}{P:Prop}(h:lz f j k o P){s t x y:Md}{ps:U SP}(M:ps.length<=900)(F:∀p∈ps,Sgn k p)(r:U S):∃(i l m n:Md) (g:U SP),evSs (C f) (Bk f_law_signs j 1++r) (E5 k o s t x y<|ps.map sgT)=evSs (C f) r (E5 k o i l m n<|g.map sgT)/\g.length<=ps.length+20/\(∀p∈g,Sgn k p)/\(P\/ps≠[]->g≠[]):=by
 obtain⟨a,b,c,d,G,e,H,A,D⟩:=h s t x y (ps.map sgT) (by rw[JF];lia);refine⟨a,b,c,d,ps++G,?_,by rw[Jx];lia,λp hp=>(Kq.mp hp).elim (F p)<|A p,λz w=>?_⟩
 .rw[KS];exact go1 e
 .obtain ⟨u,v⟩:=Nc.mp w;exact z.elim (λz=>D z v) λz=>z u
theorem qK {c:O}(hL:7<=c)(k o:Kd)(hk:k.deep<=4)(ho:o.deep<=1)(i j:Md):∃ps:U SP,C c 380 [(i,k.th),(j,o.th)]=.ok ((.o .s,.lst<|ps.map sgT),[])/\ps≠[]/\∀p∈ps,Sgn k p:=by
 obtain⟨l,rfl⟩:∃l,c=l+1:=⟨c-1,by lia⟩;obtain⟨_,_,_,_,p3,e3,l3,Q⟩:=ad3 l k o hk ho (by lia) i j;obtain⟨_,_,_,_,F,n,l4,Z,y⟩:=lM (ad4 l k o hk ho) (ps:=p3) (by lia) Q<|Bk f_law_signs 5 1++(Bk f_law_signs 6 1++(Bk f_law_signs 7 1++(Bk f_law_signs 8 1++(Bk f_law_signs 9 1++(Bk f_law_signs 10 1++f_law_signs.body.drop 11)))));obtain⟨_,_,_,_,G,r,l5,s5,m⟩:=lM (ad5 l k o hk) (ps:=F) (by lia) Z<|Bk f_law_signs 6 1++(Bk f_law_signs 7 1++(Bk f_law_signs 8 1++(Bk f_law_signs 9 1++(Bk f_law_signs 10 1++f_law_signs.body.drop 11))));obtain⟨_,_,_,_,H,t,l6,s6,f⟩:=lM (ad6 l k o hk) (ps:=G) (by lia) s5<|Bk f_law_signs 7 1++(Bk f_law_signs 8 1++(Bk f_law_signs 9 1++(Bk f_law_signs 10 1++f_law_signs.body.drop 11)));obtain⟨_,_,_,_,M,u,l7,s7,z⟩:=lM (ad7 l k o hk) (ps:=H) (by lia) s6<|Bk f_law_signs 8 1++(Bk f_law_signs 9 1++(Bk f_law_signs 10 1++f_law_signs.body.drop 11));obtain⟨_,_,_,_,N,v,l8,s8,A⟩:=lM (ad8 l k o hk<|by lia) (ps:=M) (by lia) s7<|Bk f_law_signs 9 1++(Bk f_law_signs 10 1++f_law_signs.body.drop 11);obtain⟨_,_,_,_,P,w,l9,s9,D⟩:=lM (ad9 l k o hk) (ps:=N) (by lia) s8<|Bk f_law_signs 10 1++f_law_signs.body.drop 11;obtain⟨_,_,_,_,g,d,x,h,e⟩:=lM (HJ l k o hk) (ps:=P) (by lia) s9<|f_law_signs.body.drop 11;refine⟨g,?_,e<|.inr<|D<|.inr<|A<|.inr<|z ?_,h⟩
 .rw [jj,x_run _ _ _ rfl];refine(OQ (Fl.out [])<|(go1 (b:=Bk f_law_signs 4 1++(Bk f_law_signs 5 1++(Bk f_law_signs 6 1++(Bk f_law_signs 7 1++(Bk f_law_signs 8 1++(Bk f_law_signs 9 1++(Bk f_law_signs 10 1++f_law_signs.body.drop 11))))))) e3).trans<|n.trans<|r.trans<|t.trans<|u.trans<|v.trans<|w.trans d).trans ?_;simp_all only[JC,JB,f_law_signs]
 .cases k with
  |num=>exact .inr<|f<|.inr<|m<|.inr<|y<|.inl rfl
  |truth=>exact .inr<|f<|.inr<|m<|.inl rfl
  |pair a b=>exact .inr<|f<|.inl ⟨a,b,rfl⟩
  |row a=>exact .inl ⟨a,rfl⟩
def Dr (l b:O):Prop:=∀(g:U I) (a d:O) (e:EV) (k:Kd) (h i j:Md),Ev d e->d<=a+6->k.deep<=4->e.length+l<=40->∃m t f c,C b 382 [(.o .s,St g a d),(h,k.th),(i,.lst<|eT e),(j,.int (l:I))]=.ok ((m,t),[(.o .s,St g f c)])/\Ty (l+5) e k t/\d<=c/\c<=f+6
theorem jv (e:EV)(x:Str)(k:Kd):eT e++[.tup [.str x,k.th]]=eT (e++[(x,k)]):=by rw[eT,eT,KS];rfl
theorem ja {e:EV}(h:e.length<=100)(x:T):fits ((eT e).length+[x].length)=true:=OE<|by rw[JF,JL];show _<=16777215;lia
abbrev BE (j:U I)(a i:O)(k o:Kd)(e:EV)(l:O)(c:I)(b f g h:Md)(x:Str):Env:=[Y (.o .s,St j a i),Y (b,k.th),Y (f,.lst<|eT e),Y (.d,.int (l:I)),Y (.d,.int c),Y (g,o.th),Y (h,.str x),J,J,J]
def jc (l a:O)(h:U I)(e:EV)(k:Kd)(g:O)(f:Fl):Prop:=∃d t c b,Fl.out [0] f=.ok ((d,t),[(.o .s,St h c b)])/\Ty (l+6) e k t/\g<=b/\b<=c+6
abbrev BB:U S:=f_law_binder.body.drop 1
theorem Ib {l b:O}(D:Dr l b)(f:U I)(a g:O)(e:EV)(k o:Kd)(c:I)(y z A F:Md)(x:Str)(i:Ev g e)(w:g<=a+6)(hk:k.deep<=4)(j:e.length+l<=40)(v:(c % 7==1)=Ju):jc l b f e k g (evSs (C b) BB<|BE f a g k o e l c y z A F x):=by obtain⟨G,P,m,n,h,ya,u1,Q⟩:=D f a g e .truth .d .s .d i w n03 j;obtain⟨mb,tb,p,H,t,yb,u2,Z⟩:=D f m n e k .s .s .d (i.up u1) Q hk j;obtain⟨mc,tc,r,M,u,yc,u3,v3⟩:=D f p H e k .s .s .d (i.up<|by lia) Z hk j;have N:decide ((0:I)<7)=true:=rfl;have h:C b 382 [(.o .s,St f a g),(.d,.tup [.str (q "truth")]),(.s,.lst (eT e)),(.d,.int (l:I))]=.ok ((G,P),[(.o .s,St f m n)]):=h;exact⟨_,_,r,M,by simp_all only[BB,f_law_binder,JC,JB,N,v,aa,h,t,u];rfl,.ifs ya yb yc,by lia,v3⟩
theorem Fc {l b:O}(D:Dr l b)(h:U I)(a f:O)(e:EV)(k o:Kd)(c:I)(m z A F:Md)(x:Str)(j:Ev f e)(y:f<=a+6)(hk:k.deep<=4)(ho:o.deep<=1)(Z:e.length+l+1<=40)(hx:Nm f x)(g:x ∉ e.map J9)(w:(c % 7==1)=Jt)(v:(c % 7==0)=Ju):jc l b h e k f (evSs (C b) BB<|BE h a f k o e l c m z A F x):=by obtain⟨ma,ta,p,n,t,P,u1,M⟩:=D h a f e o .s .s .d j y (by lia) (by lia);have i:Ev n (e++[(x,o)]):=(j.add hx (by lia) g).up u1;obtain⟨mb,tb,r,G,u,Q,u2,N⟩:=D h p n (e++[(x,o)]) k m (.o .s) .d i M hk (by rw[Jx,JL];lia);have H:decide ((0:I)<7)=true:=rfl;exact⟨_,_,r,G,by simp_all only[BB,f_law_binder,JC,JB,H,w,v,aa,t,jv,OG<|ja (e:=e) (by lia) _,u];rfl,.lets (dH g) P Q,by lia,N⟩
theorem Bj {l b:O}(D:Dr l b)(g:U I)(a f:O)(e:EV)(k o:Kd)(c:I)(t G H M:Md)(x:Str)(r:Ev f e)(F:f<=a+6)(hk:(Kd.row k).deep<=4)(ho:o.deep<=1)(hl:e.length+l+1<=40)(hx:Nm f x)(h:x ∉ e.map J9)(y:(c % 7==1)=Jt)(w:(c % 7==0)=Jt)(z:decide ((0:I)<c / 7 % 4)=Ju):jc l b g e (.row k) f (evSs (C b) BB<|BE g a f (.row k) o e l c t G H M x):=by have A:k.deep+1<=4:=hk;obtain⟨N,ta,p,m,i,ya,u1,v1⟩:=D g a f e (.row o) (.o .s) .s .d r F (by show o.deep+1<=4;lia) (by lia);have j:Ev m (e++[(x,o)]):=(r.add hx (by lia) h).up u1;obtain⟨mb,tb,u,P,v,yb,u2,v2⟩:=D g p m (e++[(x,o)]) k t.kid (.o .s) .d j v1 (by lia) (by rw[Jx,JL];lia);have Z:decide ((0:I)<7)=true:=rfl;have n:decide ((7:I)<1073741824)=true:=rfl;have Q:decide ((0:I)<4)=true:=rfl;have i:C b 382 [(.o .s,St g a f),(.o .s,.tup [.str (q "row"),o.th]),(.s,.lst (eT e)),(.d,.int (l:I))]=.ok ((N,ta),[(.o .s,St g p m)]):=i;exact⟨_,_,u,P,by simp_all only[BB,f_law_binder,JC,JB,Z,n,Q,y,w,z,aa,show(Kd.row k).th=.tup [.str<|q "row",k.th] from rfl,qeq,aL,i,jv,OG<|ja (e:=e) (by lia) _,v];rfl,.each (dH h) (by lia) ya yb,by lia,v2⟩
theorem CD (k:Kd):(k.hd==q "row")=Ju->∃a,k=.row a:=λh=>by
 cases k with
 |row a=>exact⟨a,rfl⟩
 |num=>rw[Kd.hd,qeq] at h;cases h
 |truth=>rw[Kd.hd,qeq] at h;cases h
 |pair _ _=>rw[Kd.hd,qeq] at h;cases h
theorem lq {l b:O}(D:Dr l b)(g:U I)(a c:O)(e:EV)(k:Kd)(G H:L W)(M:U T)(u v w y:Md)(x:Str)(i:Ev c e)(t:c<=a+6)(hk:k.deep<=4)(Z:e.length+l+1<=40)(hx:Nm c x)(f:x ∉ e.map J9)(N:Ty (l+5) e .num<|.tup M):jc l b g e k c (evSs (C b) (f_law_binder.body.drop 6) [Y (.o .s,St g a c),Y (u,k.th),Y (v,.lst<|eT e),Y (.d,.int (l:I)),G,H,Y (w,.str x),J,J,Y (y,.tup M)]):=by obtain⟨ma,ta,m,j,p,P,u1,A⟩:=D g a c e k .s .s .d i t hk (by lia);have h:Ev j (e++[(x,k)]):=(i.add hx hk f).up u1;obtain⟨mb,tb,n,z,r,Q,u2,F⟩:=D g m j (e++[(x,k)]) k .s (.o .s) .d h A hk (by rw[Jx,JL];lia);exact⟨_,_,n,z,by simp_all only[f_law_binder,JC,JB,aa,p,jv,OG<|ja (e:=e) (by lia) _,r];rfl,.times (dH f) N P Q,by lia,F⟩
theorem oC {l f:O}(D:Dr l f)(D1:Dr (min 1 l) f)(h:U I)(a g:O)(e:EV)(k o:Kd)(c:I)(j p n m:Md)(x:Str)(Q:Ev g e)(hn:g<=a+6)(hk:k.deep<=4)(hl:e.length+l+1<=40)(hx:Nm g x)(y:x ∉ e.map J9)(h1:(c % 7==1)=Jt)(h0:(c % 7==0)=Jt)(w:(k.hd==q "row")=Jt\/(k.hd==q "row")=Ju/\decide ((0:I)<c / 7 % 4)=Jt):jc l f h e k g (evSs (C f) BB<|BE h a g k o e l c j p n m x):=by
 have p7:decide ((0:I)<7)=true:=rfl;have A:decide ((7:I)<1073741824)=true:=rfl;have F:decide ((0:I)<4)=true:=rfl;have z:decide ((0:I)<28)=true:=rfl;have u:decide ((28:I)<1073741824)=true:=rfl;have r:decide ((0:I)<112)=true:=rfl;have i:decide ((112:I)<1073741824)=true:=rfl
 have H:evSs (C f) (Bk f_law_binder 1 4) (BE h a g k o e l c j p n m x)=.nx [Y (.o .s,St h a g),Y (j,k.th),Y (p,.lst (eT e)),Y (.d,.int (l:I)),Y (.d,.int c),Y (n,o.th),Y (m,.str x),J,J,Y (.d,.tup [.str (q "num"),.int (c / 28 % 4)])]:=by
  rcases w with w|⟨w,h5⟩
  .simp_all only[Bk,f_law_binder,JC,JB,JG,JH,p7,A,F,z,u,h1,h0,w,aa,nQ k]
  .simp_all only[Bk,f_law_binder,JC,JB,JG,JH,p7,A,F,z,u,h1,h0,w,h5,aa,nQ k]
 have v:=go1 (b:=f_law_binder.body.drop 5) H;show jc l f h e k g<|evSs (C f) (Bk f_law_binder 1 4++f_law_binder.body.drop 5)<|BE h a g k o e l c j p n m x;rw[v];cases h6:(c / 112 % 4==0) with
 | false =>
  have M:evSs (C f) (Bk f_law_binder 5 1) [Y (.o .s,St h a g),Y (j,k.th),Y (p,.lst (eT e)),Y (.d,.int (l:I)),Y (.d,.int c),Y (n,o.th),Y (m,.str x),J,J,Y (.d,.tup [.str (q "num"),.int (c / 28 % 4)])]=.nx [Y (.o .s,St h a g),Y (j,k.th),Y (p,.lst (eT e)),Y (.d,.int (l:I)),Y (.d,.int c),Y (n,o.th),Y (m,.str x),J,J,Y (.d,.tup [.str (q "num"),.int (c / 28 % 4)])]:=by simp_all only[Bk,f_law_binder,JC,JB,JG,JH,r,i,F,h6]
  show jc l f h e k g<|evSs (C f) (Bk f_law_binder 5 1++f_law_binder.body.drop 6) _;rw[go1 M];exact lq D h a g e k _ _ _ j p m .d x Q hn hk hl hx y .num
 | true =>
  obtain⟨Z,G,N,n1,P,ya,u1,v1⟩:=D1 h a g e .num .d .s .d Q hn n01 (by lia);obtain⟨G,rfl⟩:=ya.tp;have em:(if(l:I)<1 then(l:I) else 1)=((min 1 l:O):I):=by split<;>lia
  have P:C f 382 [(.o .s,St h a g),(.d,.tup [.str (q "num")]),(.s,.lst (eT e)),(.d,.int ((min 1 l:O):I))]=.ok ((Z,.tup G),[(.o .s,St h N n1)]):=P;have M:evSs (C f) (Bk f_law_binder 5 1) [Y (.o .s,St h a g),Y (j,k.th),Y (p,.lst (eT e)),Y (.d,.int (l:I)),Y (.d,.int c),Y (n,o.th),Y (m,.str x),J,J,Y (.d,.tup [.str (q "num"),.int (c / 28 % 4)])]=.nx [Y (.o .s,St h N n1),Y (j,k.th),Y (.s,.lst (eT e)),Y (.d,.int (l:I)),Y (.d,.int c),Y (n,o.th),Y (m,.str x),J,J,Y (Z,.tup G)]:=by simp_all only[Bk,f_law_binder,JC,JB,JG,JH,r,i,F,h6,aa,em,P]
  show jc l f h e k g<|evSs (C f) (Bk f_law_binder 5 1++f_law_binder.body.drop 6) _;rw[go1 M];obtain⟨md,t,a',nm',r1,r2,r3,r4⟩:=lq D h N n1 e k (Y (.d,.int c)) (Y (n,o.th)) G j .s m Z x (Q.up u1) v1 hk hl (hx.up u1) y (ya.up<|by lia);exact⟨md,t,a',nm',r1,r2,by lia,r4⟩
theorem qg {l L:O}(hL:1<=L)(D:∀Z:O,Z<=l->Dr Z L)(h:U I)(a w:O)(e:EV)(k o:Kd)(c:I)(p m r:Md)(Q:Ev w e)(hn:w+1<=a+6)(ha:a<=60)(hk:k.deep<=4)(ho:o.deep<=1)(F:e.length+l+1<=40):∃M t z j,C (L+1) 381 [(.o .s,St h a w),(p,k.th),(m,.lst<|eT e),(.d,.int (l:I)),(.d,.int c),(r,o.th)]=.ok ((M,t),[(.o .s,St h z j)])/\Ty (l+6) e k t/\w<=j/\j<=z+6:=by
 obtain⟨v,rfl⟩:∃v,L=v+1:=⟨L-1,by lia⟩;obtain⟨u,x,g,en,hx,n,q1,q2⟩:=nB v h a w e Q (by lia) (c / 7) m .d;have p7:decide ((0:I)<7)=true:=rfl;have N:decide ((7:I)<1073741824)=true:=rfl;have H:evSs (C (v+1)) (Bk f_law_binder 0 1) [Y (.o .s,St h a w),Y (p,k.th),Y (m,.lst (eT e)),Y (.d,.int (l:I)),Y (.d,.int c),Y (r,o.th),J,J,J,J]=.nx (BE h a g k o e l c p m r u x):=by simp_all only[Bk,f_law_binder,JC,JB,JG,JH,p7,N,en]
 have i:=Q.up q1
 have f:jc l (v+1) h e k g (evSs (C (v+1)) BB (BE h a g k o e l c p m r u x)):=by
  cases y:(c % 7==1) with
  |true=>exact Ib (D l<|JE _) h a g e k o c p m r u x i (by lia) hk (by lia) y
  | false =>
   cases A:(c % 7==0) with
   |true=>exact Fc (D l<|JE _) h a g e k o c p m r u x i (by lia) hk ho F hx n y A
   | false =>
    cases G:(k.hd==q "row") with
    | true =>
     cases P:decide ((0:I)<c / 7 % 4) with
     |true=>obtain⟨k',rfl⟩:=CD k G;exact Bj (D l<|JE _) h a g e k' o c p m r u x i (by lia) hk ho F hx n y A P
     |false=>exact oC (D l<|JE _) (D _<|by lia) h a g e k o c p m r u x i (by lia) hk F hx n y A<|.inr ⟨G,P⟩
    |false=>exact oC (D l<|JE _) (D _<|by lia) h a g e k o c p m r u x i (by lia) hk F hx n y A<|.inl G
 obtain⟨M,t,z,j,r1,r2,r3,r4⟩:=f;refine⟨M,t,z,j,?_,r2,by lia,r4⟩;rw[ic,x_run _ _ _ rfl];exact(OQ (Fl.out [0])<|go1 (b:=BB) H).trans r1
inductive TyL (d:O)(e:EV):U Kd->U T->Prop
 |nil:TyL d e [] []
 |cons {a:Kd} {ks:U Kd} {t:T} {ts:U T}:Ty d e a t->TyL d e ks ts->TyL d e (a::ks) (t::ts)
theorem EU {d:O}{e:EV}{s:OL}{j:U Kd}{k:Kd}{f:U T}(h:Rl s j k)(g:nob s=Ju)(hk:k.deep<=4)(hT:TyL d e j f):Ty (d+1) e k (.tup (.str (q s)::f)):=by
 have one:∀{a:Kd},Rl s [a] k->TyL d e [a] f->Ty (d+1) e k (.tup (.str (q s)::f)):=λr hT=>by
  match f,hT with
  |[t],.cons y .nil=>exact .op1 r hk y
 have c:∀{a b:Kd},Rl s [a,b] k->TyL d e [a,b] f->Ty (d+1) e k (.tup (.str (q s)::f)):=λr hT=>by
  match f,hT with
  |[t,u],.cons y (.cons z .nil)=>exact .op2 r g hk y z
 have i:∀{a:Kd},s="if"->TyL d e [.truth,a,a] f->a=k->Ty (d+1) e k (.tup (.str (q s)::f)):=λm hT l=>by
  subst m l;cases hT with
  | cons y n=>cases n with
   |cons z o=>cases o with
    |cons w p=>cases p;exact .ifs y z w
 cases h with
 |lets=>cases g
 |each=>cases g
 |times=>cases g
 |ifs=>exact i rfl hT rfl
 |not=>exact one .not hT
 |first _ b=>exact one (.first _ b) hT
 |second a _=>exact one (.second a _) hT
 |one a=>exact one (.one a) hT
 |upto=>exact one .upto hT
 |long a=>exact one (.long a) hT
 |sum=>exact one .sum hT
 |sums=>exact one .sums hT
 |most=>exact one .most hT
 |flat a=>exact one (.flat a) hT
 |add=>exact c .add hT
 |sub=>exact c .sub hT
 |mul=>exact c .mul hT
 |div=>exact c .div hT
 |rest=>exact c .rest hT
 |less=>exact c .less hT
 |same=>exact c .same hT
 |same2=>exact c .same2 hT
 |both=>exact c .both hT
 |pair a b=>exact c (.pair a b) hT
 |pick _=>exact c (.pick _) hT
 |join a=>exact c (.join a) hT
 |keep a=>exact c (.keep a) hT
 |cut a=>exact c (.cut a) hT
noncomputable abbrev TB:U S:=[.asg (.l [2,10,11]) 10<|.op .catT Jt [.var 10,.tup [.call 382 [.io 0,.var 11,.var 2,.op .sub Jt [.var 3,.cst<|.int 1]]]]]
theorem tM {l c:O}(D:Dr l c)(y:U I)(e:EV)(F G H M N P Q:L W)(x:Md)(hl:e.length+l<=40):∀(r:U Kd),(∀a∈r,a.deep<=4)->∀(a n:O) (f:U T) (w j:Md) (m:L W),f.length+r.length<=100->Ev n e->n<=a+6 ->
 ∃v h u p g i,b4 [11] (evSs (C c) TB) (r.map λa=>[(.s,a.th)]) [Y (.o .s,St y a n),F,Y (w,.lst<|eT e),Y (x,.int ((l+1:O):I)),G,H,M,N,P,Q,Y (j,.tup f),m]=.nx [Y (.o .s,St y v h),F,Y (p,.lst<|eT e),Y (x,.int ((l+1:O):I)),G,H,M,N,P,Q,Y (g,.tup<|f++u),i]/\TyL (l+5) e r u/\n<=h/\h<=v+6
|[],_,a,n,f,w,j,m,_,z,A=>⟨a,n,[],w,j,m,by rw[JR];rfl,.nil,JE _,A⟩
|k::r,hk,a,n,f,w,j,m,hm,z,A=>by
 rw[JY] at hm;obtain⟨mt,t,a1,n1,et,yt,u1,v1⟩:=D y a n e k .s .s .d z A (hk k JJ) hl;obtain⟨v,h,u,p,g,i,ef,Z,u2,v2⟩:=tM D y e F G H M N P Q x hl r (λb hb=>hk b<|JW _ hb) a1 n1 (f++[t]) .s .s (Y (.s,k.th)) (by rw[Jx,JL];lia) (z.up u1) v1;refine⟨v,h,t::u,p,g,i,?_,.cons yt Z,by lia,v2⟩;rw[show f++t::u=f++[t]++u by rw[JN];rfl,<- ef,JQ];have es:((l+1:O):I)-1=(l:I):=by lia
 have f1:fits (f.length+[t].length)=true:=OE (by rw[JL];show _<=16777215;lia);refine aX rfl ?_;cases x<;>simp_all only[aa,es,et,OG f1]
theorem wK {s:OL}{a:U Kd}{k:Kd}(h:Rl s a k)(e:s="upto"):k=.row .num:=by cases h<;>first|rfl|exact OH e<|by decide
theorem Fj {ps:U SP}{i:O}(h:i<ps.length):atI (ps.map sgT) (i:I)=Y (.tup [.str<|q ps[i].1,.lst<|ps[i].2.map Kd.th]):=atN rfl (by rw[Ki,KZ h];rfl)
abbrev TE (i:U I)(a h:O)(k:Kd)(e:EV)(l c:I)(b f g:Md):Env:=[Y (.o .s,St i a h),Y (b,k.th),Y (f,.lst<|eT e),Y (g,.int l),Y (.d,.int c),J,J,J,J,J,J,J]
def lG (d:O)(h:U I)(e:EV)(k:Kd)(g:O)(f:Fl):Prop:=∃c t b a,Fl.out [0] f=.ok ((c,t),[(.o .s,St h b a)])/\Ty d e k t/\g<=a/\a<=b+6
theorem DQ {l b:O}(hL:7<=b)(D:Dr l b)(g:U I)(a f:O)(e:EV)(k o:Kd)(c:I)(m1 u v m6:Md)(w:L W)(he:Ev f e)(hn:f<=a+6)(hk:k.deep<=4)(ho:o.deep<=1)(hl:e.length+l<=40):lG (l+6) g e k f (evSs (C b) (f_law_tree.body.drop 5) [Y (.o .s,St g a f),Y (m1,k.th),Y (u,.lst<|eT e),Y (v,.int ((l+1:O):I)),w,Y (.d,.int c),Y (m6,o.th),J,J,J,J,J]):=by
 obtain⟨ps,x,Q,hS⟩:=qK hL k o hk ho .s .s;have G:decide ((0:I)<7)=true:=rfl;have h:decide ((7:I)<1073741824)=true:=rfl;have p3:decide ((0:I)<3)=true:=rfl;have p21:decide ((0:I)<21)=true:=rfl;have F:decide ((21:I)<1073741824)=true:=rfl;have hpl:0<ps.length:=Oc.mpr Q;have pl:decide ((0:I)<(((ps.map sgT).length:O):I))=true:=OE (by rw[JF];lia);obtain⟨i,hi,ei⟩:=md2 (c / 7) (((ps.map sgT).length:O):I)<|OM pl;have y:i<ps.length:=by rw[JF] at hi;lia
 have N:=Fj y;have S:=hS _<|MQ y;generalize ps[i]=p at N S;obtain⟨s,m⟩:=p;have H:evSs (C b) (Bk f_law_tree 5 2) [Y (.o .s,St g a f),Y (m1,k.th),Y (u,.lst (eT e)),Y (v,.int ((l+1:O):I)),w,Y (.d,.int c),Y (m6,o.th),J,J,J,J,J]=.nx [Y (.o .s,St g a f),Y (.s,k.th),Y (u,.lst (eT e)),Y (v,.int ((l+1:O):I)),w,Y (.d,.int c),Y (.s,o.th),Y (.s,.lst (ps.map sgT)),Y (.s,.str (q s)),Y (.s,.lst (m.map Kd.th)),J,J]:=by generalize ps.map sgT=us at x pl ei N;simp_all only[Bk,f_law_tree,JC,JB,JG,JH,G,h,pl,aa,x,ei,N]
 show lG (l+6) g e k f<|evSs (C b) (Bk f_law_tree 5 2++f_law_tree.body.drop 7) _;rw[go1 H];by_cases z:((s=="upto")&&decide ((0:I)<c / 7 % 3))=Ju
 .rw [JM] at z;obtain⟨M,rfl⟩:∃M,b=M+1:=⟨b-1,by lia⟩;obtain⟨j,_,ej⟩:=fq M (c / 21) .d;have x:=eq_of_beq z.1;have ek:=wK S.r x;subst x ek;exact⟨_,_,a,f,by simp_all only[f_law_tree,JC,JB,G,h,p3,p21,F,qeq,z.2,ej];rfl,.op1 (d:=l+5) .upto hk<|.num (d:=l+4),JE _,hn⟩
 .have H2:evSs (C b) (Bk f_law_tree 7 2) [Y (.o .s,St g a f),Y (.s,k.th),Y (u,.lst (eT e)),Y (v,.int ((l+1:O):I)),w,Y (.d,.int c),Y (.s,o.th),Y (.s,.lst (ps.map sgT)),Y (.s,.str (q s)),Y (.s,.lst (m.map Kd.th)),J,J]=.nx [Y (.o .s,St g a f),Y (.s,k.th),Y (u,.lst (eT e)),Y (v,.int ((l+1:O):I)),w,Y (.d,.int c),Y (.s,o.th),Y (.s,.lst (ps.map sgT)),Y (.s,.str (q s)),Y (.s,.lst (m.map Kd.th)),Y (.d,.tup [.str (q s)]),J]:=by
   cases P:(s=="upto") with
   |true=>
    have h2:decide ((0:I)<c / 7 % 3)=false:=by rw[P,Mi] at z;exact MB.mpr z
    simp_all only[Bk,f_law_tree,JC,JB,JG,JH,G,h,p3,qeq,P,h2]
   |false=>simp_all only[Bk,f_law_tree,JC,JB,JG,JH,G,h,p3,qeq,P]
  show lG (l+6) g e k f<|evSs (C b) (Bk f_law_tree 7 2++f_law_tree.body.drop 9) _;rw[go1 H2];have hkl:m.length<=3:=by have r:=S.r;cases r<;>(first|(show 1<=3;decide)|(show 2<=3;decide)|(show 3<=3;decide))
  obtain⟨a',Z,ts,m2',A,o11',ef,yts,u2,v2⟩:=tM D g e (Y (.s,k.th)) w (Y (.d,.int c)) (Y (.s,o.th)) (Y (.s,.lst<|ps.map sgT)) (Y (.s,.str<|q s)) (Y (.s,.lst<|m.map Kd.th)) v hl m S.d a f [.str<|q s] u .d J (by rw[JL];lia) he hn;have em:(m.map Kd.th).map (λt=>[((.s,t):W)])=m.map λa=>[(.s,a.th)]:=by rw[K6];rfl
  refine⟨A,_,a',Z,?_,EU S.r S.n hk yts,u2,v2⟩;simp_all only[f_law_tree,JC,JB,aa,em,ef]
theorem lX {d L:O}(v:8<=L)(hd:5<=d)(n:U I)(a f:O)(e:EV)(k:Kd)(l c:I)(j m r:Md)(o:Ev f e)(p:f<=a+6)(hk:k.deep<=4)(h:(l==0)=Ju\/(l==0)=Jt/\((c % 9==0)=Ju\/(c % 9==0)=Jt/\decide ((60:I)<(a:I))=Ju)):lG d n e k f (evSs (C L) (f_law_tree.body.drop 1)<|TE n a f k e l c j m r):=by
 obtain⟨s,t,g,u⟩:=eL o 5 k (L:=L) (c / 9) j m .d (by lia) hk (by lia);have i:decide ((0:I)<9)=true:=rfl;have b:decide ((9:I)<1073741824)=true:=rfl;refine⟨s,t,a,f,?_,u.up<|by lia,JE _,p⟩;rcases h with h|⟨h,h'|⟨h',h2⟩⟩
 .simp_all only[f_law_tree,JC,JB,i,b,h,g]
 .simp_all only[f_law_tree,JC,JB,i,b,h,h',g]
 .simp_all only[f_law_tree,JC,JB,i,b,h,h',h2,ktS,lkA,aa,g]
abbrev CO:E:=.or (.op .lt Jt [.op .mod Jt [.var 5,.cst<|.int 7],.cst<|.int 2])<|.or (.and (.op .lt Jt [.op .mod Jt [.var 5,.cst<|.int 7],.cst<|.int 4])<|.op .eq Jt [.op .ix Jt [.var 1,.cst<|.int 0],.cst<|.str<|q "row"])<|.and (.op .eq Jt [.op .mod Jt [.var 5,.cst<|.int 7],.cst<|.int 2])<|.op .eq Jt [.op .mod Jt [.op .fdiv Jt [.var 5,.cst<|.int 7],.cst<|.int 2],.cst<|.int 0]
abbrev cob (r:I)(k:Kd):OF:=decide (r % 7<2) || ((decide (r % 7<4)&&(k.hd==q "row")) || ((r % 7==2)&&(r / 7 % 2==0)))
theorem Aa (a:O)(l:L W)(i:Md)(k:Kd)(m n o:L W)(r:I)(p:L W):evT (C a) (.q [1] [5]) CO [l,Y (i,k.th),m,n,o,Y (.d,.int r),p,J,J,J,J,J]=.ok (cob r k,[l,Y (i,k.th),m,n,o,Y (.d,.int r),p,J,J,J,J,J]):=by
 have c:decide ((0:I)<7)=true:=rfl;have g:decide ((7:I)<1073741824)=true:=rfl;have j:decide ((0:I)<2)=true:=rfl;unfold cob;rw[nQ k];cases b:decide (r % 7<2) with
 |true=>simp_all only[c,b,LH]
 | false =>
  cases e:decide (r % 7<4) with
  | true =>
   cases h:(k.hd==q "row") with
   |true=>simp_all only[c,b,e,h,LH,Ln]
   |false=>
    cases f:(r % 7==2) with
    |true=>simp_all only[c,g,j,b,e,h,f,Ln]
    |false=>simp_all only[c,b,e,h,f,Ln,MG]
  |false=>
   cases f:(r % 7==2) with
   |true=>simp_all only[c,g,j,b,e,f,Ln,MG]
   |false=>simp_all only[c,b,e,f,Ln,MG]
theorem zX {C:Call}{d:Env}{x:X}{c:E}{a b r:U S}{v:OF}(h:evT C x c d=.ok (v,d)):evSs C (.ite x c a b::r) d=Fl.seq (bif v then evSs C a d else evSs C b d) (evSs C r):=by rw[gW];show Fl.seq (Fl.of d (evT C x c d)<|kIf (evSs C a)<|evSs C b) _=_;rw[h];cases v<;>rfl
noncomputable abbrev BS:S:=.ret []<|.call 381 [.io 0,.mv 1,.mv 2,.op .sub Jt [.mv 3,.cst<|.int 1],.mv 5,.mv 6]
theorem gS:∀ (l i:O),i<=l->∀ L,2 * i+9<=L->Dr i L
| l,i,hl,L,hL=>fun h a g e k n p r A hn hk hel=>by
 obtain⟨f,rfl⟩:∃f,L=f+2:=⟨L-2,by lia⟩;obtain⟨c,ec⟩:=jO f h a g;have H:evSs (C (f+1)) (Bk f_law_tree 0 1) [Y (.o .s,St h a g),Y (n,k.th),Y (p,.lst (eT e)),Y (r,.int (i:I)),J,J,J,J,J,J,J,J]=.nx (TE h (a+1) g k e (i:I) c n p r):=by simp_all only[Bk,f_law_tree,JC,JB,JG,JH,ec]
 have R:lG (i+5) h e k g (evSs (C (f+1)) (f_law_tree.body.drop 1) (TE h (a+1) g k e (i:I) c n p r)):=by
  cases y:((i:I)==0) with
  |true=>exact lX (by lia) (by lia) h (a+1) g e k _ c n p r A (by lia) hk<|.inl y
  | false =>
   cases G:(c % 9==0) with
   |true=>exact lX (by lia) (by lia) h (a+1) g e k _ c n p r A (by lia) hk<|.inr ⟨y,.inl G⟩
   | false =>
    cases u:decide ((60:I)<((a+1:O):I)) with
    |true=>exact lX (by lia) (by lia) h (a+1) g e k _ c n p r A (by lia) hk<|.inr ⟨y,.inr ⟨G,u⟩⟩
    | false =>
     have ha:a+1<=60:=by have:=of_decide_eq_false u;lia
     have hl0:i≠0:=λz=>by subst z;cases y
     obtain⟨j,rfl⟩:∃j,i=j+1:=⟨i-1,by lia⟩;obtain⟨m,rfl⟩:∃m,l=m+1:=⟨l-1,by lia⟩;obtain⟨v,o,x,ho⟩:=eS 1 (f-1)<|c / 9 / 7 % 216;rw[show f-1+1+1=f+1 by lia] at x;have x:=x .d .d;have p9:decide ((0:I)<9)=true:=rfl;have P:decide ((9:I)<1073741824)=true:=rfl;have p7:decide ((0:I)<7)=true:=rfl;have N:decide ((7:I)<1073741824)=true:=rfl;have p2:decide ((0:I)<2)=true:=rfl;have D:decide ((0:I)<216)=true:=rfl;have x:C (f+1) 171 [(.d,.int (c / 9 / 7 % 216)),(.d,.int 1)]=.ok ((v,o.th),[]):=x;have H1:evSs (C (f+1)) (Bk f_law_tree 1 3) (TE h (a+1) g k e ((j+1:O):I) c n p r)=.nx [Y (.o .s,St h (a+1) g),Y (n,k.th),Y (p,.lst (eT e)),Y (r,.int ((j+1:O):I)),Y (.d,.int c),Y (.d,.int (c / 9)),Y (v,o.th),J,J,J,J,J]:=by cases v<;>simp_all only[Bk,f_law_tree,JC,JB,JG,JH,y,G,u,ktS,lkA,aa,p9,P,p7,N,D,x,aL]
     show lG (j+1+5) h e k g<|evSs (C<|f+1) (Bk f_law_tree 1 3++f_law_tree.body.drop 4) _;rw[go1 H1];by_cases hb:cob (c / 9) k=Ju
     .obtain ⟨M,t,F,w,r1,r2,Q,Z⟩:=qg (l:=j) (L:=f) (by lia) (fun i hl'=>gS m i (by lia) f (by lia)) h (a+1) g e k o (c / 9) n p v A (by lia) ha hk ho (by lia);refine⟨M,t,F,w,?_,r2,Q,Z⟩;rw[show f_law_tree.body.drop 4=.ite (.q [1] [5]) CO [BS] []::f_law_tree.body.drop 5 from rfl,zX (Aa _ _ _ _ _ _ _ _ _),hb,O3];have es:((j+1:O):I)-1=(j:I):=by lia
      simp_all only[es,r1]
     .have H2:evSs (C (f+1)) (Bk f_law_tree 4 1) [Y (.o .s,St h (a+1) g),Y (n,k.th),Y (p,.lst (eT e)),Y (r,.int ((j+1:O):I)),Y (.d,.int c),Y (.d,.int (c / 9)),Y (v,o.th),J,J,J,J,J]=.nx [Y (.o .s,St h (a+1) g),Y (n,k.th),Y (p,.lst (eT e)),Y (r,.int ((j+1:O):I)),Y (.d,.int c),Y (.d,.int (c / 9)),Y (v,o.th),J,J,J,J,J]:=by rw[show Bk f_law_tree 4 1=[.ite (.q [1] [5]) CO [BS] []] from rfl,zX (Aa _ _ _ _ _ _ _ _ _),MB.mpr hb];rfl
      show lG (j+6) h e k g<|evSs (C<|f+1) (Bk f_law_tree 4 1++f_law_tree.body.drop 5) _;rw[go1 H2];exact DQ (by lia) (gS m j (by lia) (f+1)<|by lia) h (a+1) g e k o (c / 9) n p r v _ A (by lia) hk ho<|by lia
 obtain⟨M,t,F,w,r1,r2,Q,Z⟩:=R;refine⟨M,t,F,w,?_,r2,Q,Z⟩;rw[kS,x_run _ _ _ rfl];exact(OQ (Fl.out [0])<|go1 (b:=f_law_tree.body.drop 1) H).trans r1
theorem ou:∀l:U I,intsOf (l.map T.int)=Y l
|[]=>rfl
|x::l=>by show(intsOf<|l.map T.int).map (x::·)=_;rw[ou l];rfl
theorem mO:∀l:U I,trees (l.map λi=>((.d,.int i):W))=l.map T.int:=λl=>fD .d T.int l
theorem qB (n:O)(s:OL)(r:U T)(m:Md):C (n+1) 244 [(m,.tup (.str (q s)::r))]=.ok ((.d,.int<|bif ["num","name","none"].contains s then(((T.str (q s)::r).length:O):I) else 1+b2i (["let","each","times"].contains s)),[]):=by
 rw[jo,x_run _ _ _ rfl];cases h:["num","name","none"].contains s with
 |true=>simp_all only[bA,fQ,fl3,h,O3]
 |false=>simp_all only[bA,fQ,fl3,h,cond_false]
theorem a4 {a:O}{s:OL}{r ps:U T}{st:I}(u:(bif ["num","name","none"].contains s then(((T.str (q s)::r).length:O):I) else 1+b2i (["let","each","times"].contains s))=st)(n:cut (T.str (q s)::r) (Y st) J=ps)(h:∀p∈ps,∃i:I,C (a+1) 245 [(.s,p)]=.ok ((.d,.int i),[]))(m:Md):∃i:I,C (a+2) 245 [(m,.tup (.str (q s)::r))]=.ok ((.d,.int i),[]):=by
 obtain⟨y,v,k,rfl,c,rfl⟩:=dF (tg:=[1]) (f:=dr<|evE (C<|a+1)<|.call 245 [.var 1]) (g:=λt:T=>[((.s,t):W)]) (λ_ j b=>j=[Y (.s,.tup (.str (q s)::r)),J]/\∃c:U I,b=c.map λi=>(.d,.int i)) ps [] [Y (.s,.tup (.str (q s)::r)),J] [] ⟨rfl,[],rfl⟩ (by
  rintro p x w j b hp ⟨e,c,o⟩;subst e o;obtain⟨i,l⟩:=h x (by rw[Kw] at hp;rw[hp];exact J2 _ JJ);exact⟨_,Y (.d,.int i),[Y (.s,.tup (.str (q s)::r)),Y (.s,x)],rfl,by simp_all only[aa,l],rfl,c++[i],by rw[KS];rfl⟩)
 have e1:=λm=>qB a s r m;rw[u] at e1;refine⟨1+c.sum,?_⟩;rw[show a+2=(a+1)+1 from rfl,kQ,x_run _ _ _ rfl];simp_all only[cj,aa,e1,bJ,n,k,mO,ou]
theorem i8 {a:Type}(l:U a)(n:O)(h:l.length<=n):cut l (Y (n:I)) J=[]:=by
 unfold cut;have:sIx l.length 0 (Y (n:I))=l.length:=by show(if(n:I)<0 then((n:I)+(l.length:I)).toNat else min (n:I).toNat l.length)=_;rw[OK<|by lia];lia
 rw[this,MT,M3]
theorem zO {s:OL}{b:U Kd}{k:Kd}(h:Rl s b k)(a:nob s=Ju):["num","name","none"].contains s=false:=by
 cases h with
 |lets=>cases a
 |each=>cases a
 |times=>cases a
 |_=>decide
theorem rl1 {s:OL}{a k:Kd}(r:Rl s [a] k):nob s=true:=by cases r<;>decide
theorem n0:∀(d:O) {e:EV} {k:Kd} {t:T} (_:Ty d e k t) {L:O},d+2<=L->∀m,∃i:I,C L 245 [(m,t)]=.ok ((.d,.int i),[])
|0,_,_,_,h,_,_,_=>nomatch h
| d+1,e,k,t,h,L,v,m=>by
 obtain⟨l,rfl⟩:∃l,L=l+2:=⟨L-2,by lia⟩;have u:∀{e:EV} {k:Kd} {t:T},Ty d e k t->∃i:I,C (l+1) 245 [(.s,t)]=.ok ((.d,.int i),[]):=λy=>n0 d y (by lia) .s;have g:∀p∈([]:U T),∃i:I,C (l+1) 245 [(.s,p)]=.ok ((.d,.int i),[]):=λp hp=>nomatch hp
 have f:∀{e:EV} {k:Kd} {t:T} {ps:U T},Ty d e k t->(∀p∈ps,∃i:I,C (l+1) 245 [(.s,p)]=.ok ((.d,.int i),[]))->∀p∈t::ps,∃i:I,C (l+1) 245 [(.s,p)]=.ok ((.d,.int i),[]):=λy hp p h=>(JX.mp h).elim (λz=>z ▸ u y)<|hp p;cases h with
 |name h o=>exact a4 (s:="name") rfl (i8 _ 2<|by show 2<=2;decide) g m
 |num=>exact a4 (s:="num") rfl (i8 _ 2<|by show 2<=2;decide) g m
 |yes=>exact a4 (s:="yes") rfl (dN _ _) g m
 |no=>exact a4 (s:="no") rfl (dN _ _) g m
 |none h=>exact a4 (s:="none") rfl (i8 _ 2<|by show 2<=2;decide) g m
 |op1 r h a=>have j:=rl1 r;have S:=kj r j;exact a4 (st:=1) (by rw[show["num","name","none"].contains _=Jt from zO r j];exact S.d) (dN _ _) (f a g) m
 |op2 r n h a b=>have S:=kj r n;exact a4 (st:=1) (by rw[show["num","name","none"].contains _=Jt from zO r n];exact S.d) (dN _ _) (f a<|f b g) m
 |ifs a b c=>exact a4 (s:="if") (st:=1) rfl (dN _ _) (f a<|f b<|f c g) m
 |lets h a b=>exact a4 (s:="let") (st:=2) rfl (yn _ _ _) (f a<|f b g) m
 |each h o a b=>exact a4 (s:="each") (st:=2) rfl (yn _ _ _) (f a<|f b g) m
 |times h a b c=>exact a4 (s:="times") (st:=2) rfl (yn _ _ _) (f a<|f b<|f c g) m
theorem EM (l:I):∃n:O,n<=4/\atI [T.int 1,.int 3,.int 5] (if(if l<2 then l else 2)>0 then(if l<2 then l else 2) else 0)=Y (.int ((n+1:O):I)):=by
 by_cases h:l<2
 .rw [OG h];by_cases a:l>0
  .rw [OG a,show l=1 by lia];exact⟨2,by decide,rfl⟩
  .rw [OK a];exact⟨0,by decide,rfl⟩
 .rw [OK h];exact⟨4,by decide,rfl⟩
theorem AG (h:OF)(m n:Md)(i j:I):oSem .max h [(m,.int i),(n,.int j)]=Y (.d,.int<|if j>i then j else i):=rfl
theorem eB:∀(k:Kd) {L:O} (m:U I) (a e:O) (l:I) (y t:Md),k.deep+3<=L->∃md w r,C L 383 [(.o .s,St m a e),(y,k.th),(t,.int l)]=.ok ((md,w),[(.o .s,St m r e)])/\a<=r
| k,L,m,a,e,l,y,t,Z=>by
 obtain⟨n,rfl⟩:∃n,L=n+2:=⟨L-2,by lia⟩;obtain⟨c,v⟩:=jO n m a e;have P:decide ((0:I)<2)=true:=rfl;have z:decide ((2:I)<1073741824)=true:=rfl;rw[jt,x_run _ _ _ rfl];cases k with
 | num =>
  obtain⟨i,hi,D⟩:=fq n (c / 2) .d;obtain⟨j,hj,Q⟩:=md2 c 2 (by decide);have y:(decide (i.natAbs<18446744073709551616))=true:=OE (by lia);rcases(show j=0\/j=1 by lia) with rfl|rfl
  .have u:atI [T.int 1,.int (-1)] ((0:O):I)=Y (.int 1):=rfl;exact⟨_,_,a+1,by simp_all only[aV,v,Kd.th,qeq,P,z,D,Q,u,y,LH];rfl,by lia⟩
  .have u:atI [T.int 1,.int (-1)] ((1:O):I)=Y (.int (-1)):=rfl;exact⟨_,_,a+1,by simp_all only[aV,v,Kd.th,qeq,P,z,D,Q,u,y,LH];rfl,by lia⟩
 |truth=>exact⟨_,_,a+1,by simp_all only[aV,v,Kd.th,qeq,P];rfl,by lia⟩
 |pair b d=>have M:max b.deep d.deep+1+3<=n+2:=Z;obtain⟨mb,tb,A,G,hb⟩:=eB b (L:=n+1) m (a+1) e l .s (lkM t) (by lia);obtain⟨mc,tc,ac,ed,hd⟩:=eB d (L:=n+1) m A e l .s (lkM t) (by lia);exact⟨_,_,ac,by simp_all only[aV,v,Kd.th,qeq,G,ed];rfl,by lia⟩
 | row b =>
  have M:b.deep+1+3<=n+2:=Z;obtain⟨j,hj,u⟩:=EM l;have pj:decide ((0:I)<((j+1:O):I))=true:=OE (by lia);obtain⟨i,hi,D⟩:=md2 c ((j+1:O):I)<|OM pj
  obtain⟨ws,η',H,r,rfl,ha⟩:=dF (tg:=[4]) (f:=dr<|evE (C<|n+1)<|.call 383 [.io 0,.op .ix Jt [.var 1,.cst<|.int 1],.op .sub Jt [.var 2,.cst<|.int 1]]) (g:=λk:O=>[((.d,.int (k:I)):W)]) (λ_ η F=>∃r,η=[Y (.o .s,St m r e),Y (.s,(Kd.row b).th),Y (t,.int l),J,J]/\a<=r) (J6 i) [] [Y (.o .s,St m (a+1) e),Y (.s,(Kd.row b).th),Y (t,.int l),J,J] [] ⟨a+1,rfl,by lia⟩ (by
   rintro p x rr η F hp ⟨r,N,ha⟩;subst N;obtain⟨mb,tb,A,G,hb⟩:=eB b (L:=n+1) m r e (l-1) .s .d (by lia);exact⟨_,Y (mb,tb),[Y (.o .s,St m A e),Y (.s,(Kd.row b).th),Y (t,.int l),J,Y (.d,.int (x:I))],rfl,by simp_all only[Kd.th,G],A,rfl,by lia⟩)
  have rg:(decide ((i:I).natAbs<4611686018427387904)&&fits (i:I).toNat)=true:=by rw[JM];exact⟨OE<|by lia,OE<|by show _<=16777215;lia⟩
  have H:aM [4] (dr (evE (C (n+1)) (.call 383 [.io 0,.op .ix Jt [.var 1,.cst (.int 1)],.op .sub Jt [.var 2,.cst (.int 1)]]))) ((J6 (i:I).toNat).map λk:O=>[((.d,.int (k:I)):W)]) [Y (.o .s,St m (a+1) e),Y (.s,.tup [.str (q "row"),b.th]),Y (t,.int l),J,J] []=.ok (ws,[Y (.o .s,St m r e),Y (.s,.tup [.str (q "row"),b.th]),Y (t,.int l),J,J]):=H;exact⟨_,_,r,by simp_all only[aV,v,Kd.th,qeq,AG,u,pj,D,rg,H];rfl,ha⟩
abbrev PB:U S:=[
   .asg (.q [] [2,4]) 5 (.call 171 [.op .mod Jt [.op .fdiv Jt [.var 2,.op .add Jt [.cst<|.int 4,.op .mul Jt [.cst<|.int 9,.var 4]]],.cst<|.int 46656],.cst<|.int 3]),
   .app (.l [5]) 3 (.tup [.call 376 [.io 0,.io 3,.op .add Jt [.op .fdiv Jt [.var 2,.cst<|.int 7],.var 4]],.var 5])]
theorem Dt (b:O)(j:U I)(a:O)(u:L W)(c:I)(n:O)(hn:n<=6):∃i e l m,Ev i e/\e.length=n/\i<=n/\b4 [4] (evSs (C<|b+5) PB) ((J6 n).map λ(k:O)=>[((.d,.int (k:I)):W)]) [Y (.o .s,St j a 0),u,Y (.d,.int c),Y (.o .s,.lst []),J,J,J,J,J,J]=.nx [Y (.o .s,St j a i),u,Y (.d,.int c),Y (.o .s,.lst<|eT e),l,m,J,J,J,J]:=by
 obtain⟨η',lp,i,e,l,m,v,w,D,rfl⟩:=kg (tg:=[4]) (f:=evSs (C<|b+5) PB) (g:=λ(k:O)=>[((.d,.int (k:I)):W)])
  (λpre P=>∃(i:O) (e:EV) (l m:L W),Ev i e/\e.length=pre.length/\i<=pre.length/\P=[Y (.o .s,St j a i),u,Y (.d,.int c),Y (.o .s,.lst<|eT e),l,m,J,J,J,J])
  (J6 n) [] [Y (.o .s,St j a 0),u,Y (.d,.int c),Y (.o .s,.lst []),J,J,J,J,J,J] ⟨0,[],J,J,⟨(fun p hp=>nomatch hp),Nz⟩,rfl,JE _,rfl⟩ (by
   rintro p k r P hp ⟨i,e,l,m,v,w,D,H⟩;subst H;rw[Kw] at hp;have F:=OQ LG hp;rw[MX,Jx,JY] at F;have A:k∈J6 n:=by rw[hp];exact J2 _ JJ
   have hk:k<n:=ND.mp A;obtain⟨mk,y,z,dk⟩:=eS 3 (b+1)<|c / (4+9 * (k:I)) % 46656;obtain⟨mx,x,t,Q,hx,G,u1,u2⟩:=nB (b+4) j a i e v (by lia) (c / 7+(k:I)) (.o .s) .d;have z:C (b+5) 171 [(.d,.int (c / (4+9 * (k:I)) % 46656)),(.d,.int 3)]=.ok ((mk,y.th),[]):=z .d .d;have p1:decide ((0:I)<4+9 * (k:I))=true:=OE (by lia);have M:decide (4+9 * (k:I)<1073741824)=true:=OE (by lia);have p2:decide ((0:I)<46656)=true:=rfl;have p7:decide ((0:I)<7)=true:=rfl;have N:decide ((7:I)<1073741824)=true:=rfl;have m9:(decide ((9:I).natAbs<18446744073709551616))=true:=rfl;have Z:(eT e).length<LIM:=by rw[JF];show _<16777215;lia
   refine⟨_,[Y (.o .s,St j a t),u,Y (.d,.int c),Y (.o .s,.lst<|eT<|e++[(x,y)]),Y (.d,.int (k:I)),Y (.s,y.th),J,J,J,J],rfl,?_,t,e++[(x,y)],_,_,(v.up u1).add hx (by lia) G,by rw[Jx,Jx,w];rfl,by rw[Jx,JL];lia,rfl⟩;rw[<- jv];cases mk<;>simp_all only[p1,M,p2,p7,N,m9,LH,z,Q,aL,aF,OG Z])
 rw[Kw,MX] at w D;exact⟨i,e,l,m,v,w,D,lp⟩
theorem rG (L:O)(i:U I)(c:O)(e:EV)(D:∀p∈e,p.2.deep<=4)(a:O)(j k l m n:Option W):∃u b,a<=b/\aM [8,9] (dr<|evE (C<|L+7)<|.call 383 [.io 0,.var 9,.cst<|.int 2]) (e.map λp=>[((.s,.str p.1):W),(.s,p.2.th)]) [Y (.o .s,St i a c),j,k,l,m,n,J,J,J,J] []=.ok (u,[Y (.o .s,St i b c),j,k,l,m,n,J,J,J,J]):=by
 obtain⟨u,H,A,b,rfl,w⟩:=dF (tg:=[8,9]) (f:=dr<|evE (C<|L+7)<|.call 383 [.io 0,.var 9,.cst<|.int 2]) (g:=λp:Str×Kd=>[((.s,.str p.1):W),(.s,p.2.th)]) (λ_ y r=>∃b,y=[Y (.o .s,St i b c),j,k,l,m,n,J,J,J,J]/\a<=b) e [] [Y (.o .s,St i a c),j,k,l,m,n,J,J,J,J] [] ⟨a,rfl,JE _⟩ (by
  rintro p x N y r hp ⟨b,t,w⟩;subst t;have hx:=D x (by rw[Kw] at hp;rw[hp];exact J2 _ JJ);obtain⟨F,G,v,z,M⟩:=eB x.2 (L:=L+7) i b c 2 .s .d (by lia);exact⟨_,Y (F,G),[Y (.o .s,St i v c),j,k,l,m,n,J,J,Y (.s,.str x.1),Y (.s,x.2.th)],rfl,by simp_all only[aF,z],v,rfl,by lia⟩)
 exact⟨u,b,w,A⟩
theorem vg {C:Call}{d g:U O}{k:Ik}{c:U E}{e:U O}{a r:U S}{b j f:Env}{i:U W}{h:U<|U W}(l:evL C c (pick d g b)=.ok (i,j))(m:bj k i=Y h)(n:b4 e (evSs C a) h (share d b)=.nx f):evSs C (.forS d g k c e a::r) b=evSs C r f:=by rw[gW];show Fl.seq (Fl.of b (evL C c<|pick d g b)<|uO d k e (evSs C a) b) _=_;rw[l];show Fl.seq (Fl.of b (ret (share d b)<|bj k i)<|oh e<|evSs C a) _=_;rw[m];show Fl.seq (b4 e (evSs C a) h<|share d b) _=_;rw[n];rfl
theorem lE (L:O)(hL:22<=L)(f:U I)(a:Md):∃md e k t u bs l,C (L+1) 384 [(.o .s,St f 0 0),(a,.int 6)]=.ok ((md,.tup [.tup [.tup<|eT e,t],u,k.th]),bs)/\Ev l e/\e.length<=6/\Ty 11 e k t:=by
 obtain⟨g,rfl⟩:∃g,L=g+7:=⟨L-7,by lia⟩;obtain⟨c,ec⟩:=jO (g+6) f 0 0
 obtain⟨n,hn,en⟩:∃n:O,n<=6/\evL (C (g+7)) [.ifx (.op .gt Jt [.op .mod Jt [.op .fdiv Jt [.var 2,.cst (.int 4)],.cst (.int 4)],.cst (.int 0)]) (.op .mod Jt [.var 2,.cst (.int 4)]) (.op .mod Jt [.op .fdiv Jt [.var 2,.cst (.int 16)],.cst (.int 7)])] [J,J,Y (.d,.int c),J,J,J,J,J,J,J]=.ok ([(.d,.int (n:I))],[J,J,Y (.d,.int c),J,J,J,J,J,J,J]):=by
  have p4:decide ((0:I)<4)=true:=rfl;have A:decide ((4:I)<1073741824)=true:=rfl;have p16:decide ((0:I)<16)=true:=rfl;have z:decide ((16:I)<1073741824)=true:=rfl;have p7:decide ((0:I)<7)=true:=rfl;cases h:decide ((0:I)<c / 4 % 4) with
  |true=>obtain⟨j,hj,P⟩:=md2 c 4 (by decide);exact⟨j,by lia,by simp_all only[p4,A,h,P]⟩
  |false=>obtain⟨j,hj,P⟩:=md2 (c / 16) 7 (by decide);exact⟨j,by lia,by simp_all only[p4,A,p16,z,p7,h,P]⟩
 obtain⟨l,e,m,o5,G,hl,hm,N⟩:=Dt (g+2) f 1 (Y (a,.int 6)) c n hn;obtain⟨mk,k,Q,dk⟩:=eS 3 (g+3)<|c / 864;have Q:C (g+7) 171 [(.d,.int (c / 864)),(.d,.int 3)]=.ok ((mk,k.th),[]):=Q .d .d;have rg:(decide ((n:I).natAbs<4611686018427387904)&&fits (n:I).toNat)=true:=by rw[JM];exact⟨OE<|by lia,OE<|by show _<=16777215;lia⟩
 have tn:(n:I).toNat=n:=MY n;have D:decide ((0:I)<864)=true:=rfl;have v:decide ((864:I)<1073741824)=true:=rfl;have N:b4 [4] (evSs (C (g+7)) PB) ((J6 n).map λ(k:O)=>[((.d,.int (k:I)):W)]) [Y (.o .s,St f (0+1) 0),Y (a,.int 6),Y (.d,.int c),Y (.o .s,.lst []),J,J,J,J,J,J]=.nx [Y (.o .s,St f 1 l),Y (a,.int 6),Y (.d,.int c),Y (.o .s,.lst (eT e)),m,o5,J,J,J,J]:=N;have H0:evSs (C (g+7)) (Bk f_law_program 0 2) [Y (.o .s,St f 0 0),Y (a,.int 6),J,J,J,J,J,J,J,J]=.nx [Y (.o .s,St f (0+1) 0),Y (a,.int 6),Y (.d,.int c),Y (.o .s,.lst []),J,J,J,J,J,J]:=by simp_all only[Bk,f_law_program,JC,JB,JG,JH,ec]
 have H1:evSs (C (g+7)) (Bk f_law_program 2 1) [Y (.o .s,St f (0+1) 0),Y (a,.int 6),Y (.d,.int c),Y (.o .s,.lst []),J,J,J,J,J,J]=.nx [Y (.o .s,St f 1 l),Y (a,.int 6),Y (.d,.int c),Y (.o .s,.lst (eT e)),m,o5,J,J,J,J]:=by
  have tu:bj .rng [(.d,.int (n:I))]=Y ((J6 n).map λ(k:O)=>[((.d,.int (k:I)):W)]):=by rw[lW,rg,tn];rfl
  exact vg (r:=[]) en tu N
 have H2:evSs (C (g+7)) (Bk f_law_program 3 1) [Y (.o .s,St f 1 l),Y (a,.int 6),Y (.d,.int c),Y (.o .s,.lst (eT e)),m,o5,J,J,J,J]=.nx [Y (.o .s,St f 1 l),Y (a,.int 6),Y (.d,.int c),Y (.o .s,.lst (eT e)),m,Y (mk,k.th),J,J,J,J]:=by cases mk<;>simp_all only[Bk,f_law_program,JC,JB,JG,JH,D,v,Q,aL]
 obtain⟨u,F,ha',ew⟩:=rG g f l e (λp hp=>(G.nm p hp).2) 1 (Y (a,.int 6)) (Y (.d,.int c)) (Y (.s,.lst<|eT e)) m<|Y (mk,k.th);have H3:evSs (C (g+7)) (Bk f_law_program 4 1) [Y (.o .s,St f 1 l),Y (a,.int 6),Y (.d,.int c),Y (.o .s,.lst (eT e)),m,Y (mk,k.th),J,J,J,J]=.nx [Y (.o .s,St f F l),Y (a,.int 6),Y (.d,.int c),Y (.s,.lst (eT e)),m,Y (mk,k.th),Y (.o .s,.lst (trees u)),J,J,J]:=by simp_all only[Bk,f_law_program,JC,JB,JG,JH,aa,dj,ew]
 obtain⟨H,t,w,y,Z,yt,_,_⟩:=gS 6 6 (JE _) (g+7) (by lia) f F l e k .s .s .s G (by lia) (by lia) (by lia);obtain⟨ts,rfl⟩:=yt.tp;have Z:C (g+7) 382 [(.o .s,St f F l),(.s,k.th),(.s,.lst (eT e)),(.s,.int 6)]=.ok ((H,.tup ts),[(.o .s,St f w y)]):=Z;have H4:evSs (C (g+7)) (Bk f_law_program 5 1) [Y (.o .s,St f F l),Y (a,.int 6),Y (.d,.int c),Y (.s,.lst (eT e)),m,Y (mk,k.th),Y (.o .s,.lst (trees u)),J,J,J]=.nx [Y (.o .s,St f w y),Y (.s,.int 6),Y (.d,.int c),Y (.s,.lst (eT e)),m,Y (.s,k.th),Y (.o .s,.lst (trees u)),Y (H,.tup ts),J,J]:=by simp_all only[Bk,f_law_program,JC,JB,JG,JH,aa,Z]
 obtain⟨i,ei⟩:=n0 11 yt (L:=g+7) (by lia) .s
 obtain⟨x,M,H5,y2⟩:∃x M,evSs (C (g+7)) (Bk f_law_program 6 1) [Y (.o .s,St f w y),Y (.s,.int 6),Y (.d,.int c),Y (.s,.lst (eT e)),m,Y (.s,k.th),Y (.o .s,.lst (trees u)),Y (H,.tup ts),J,J]=.nx [Y (.o .s,St f w y),Y (.s,.int 6),Y (.d,.int c),Y (.s,.lst (eT e)),m,Y (.s,k.th),Y (.o .s,.lst (trees u)),Y (x,M),J,J]/\Ty 11 e k M:=by
  cases h:decide ((200:I)<i) with
  |true=>obtain⟨ml,tl,el,yl⟩:=eL G 5 k (L:=g+7) c .s .s .d (by lia) (by lia) (by lia);obtain⟨tl,rfl⟩:=yl.tp;refine⟨ml,_,?_,yl.up<|by lia⟩;cases ml<;>simp_all only[Bk,f_law_program,JC,JB,JG,JH,aa,ei,h,el]
  |false=>refine⟨H,_,?_,yt⟩;simp_all only[Bk,f_law_program,JC,JB,JG,JH,aa,ei,h]
 rw[gB,x_run _ _ _ rfl];have go:=OQ (Fl.out [0])<|(go1 (b:=Bk f_law_program 2 1++(Bk f_law_program 3 1++(Bk f_law_program 4 1++(Bk f_law_program 5 1++(Bk f_law_program 6 1++f_law_program.body.drop 7))))) H0).trans<|(go1 H1).trans<|(go1 H2).trans<|(go1 H3).trans<|(go1 H4).trans<|go1 H5;exact⟨_,e,k,M,.lst<|trees u,[(.o .s,St f w y)],l,go.trans<|by simp_all only[f_law_program,JC,JB];rfl,G,by lia,y2⟩
theorem sU {m:Md}(a:m≠.s){e:EV}{x:Str}{k:Kd}(hx:e.lookup x=J)(f:e.length<=100)(b c:Md):dC (m,dE e) (b,.str x) (c,k.th)=Y (.o .s,dE<|e++[(x,k)]):=by
 have e1:decide ((dK e).length<LIM)=true:=OE (by rw[JF];show _<16777215;lia);cases m with
 |s=>exact OH rfl a
 |d=>show(if decide ((dK e).length<LIM)=Ju then Y ((.o .s,.dct (putT (.inr x) k.th (dK e)<|dV e).1 (putT (.inr x) k.th (dK e)<|dV e).2):W) else J)=_;rw[OG e1,mD x k e hx]
 |o m=>show(if decide ((dK e).length<LIM)=Ju then Y ((.o .s,.dct (putT (.inr x) k.th (dK e)<|dV e).1 (putT (.inr x) k.th (dK e)<|dV e).2):W) else J)=_;rw[OG e1,mD x k e hx]
theorem sd (a:O)(n r:L W):∀(e b:EV) (m:Md) (g o3:L W),m≠.s->((b++e).map J9).Nodup->(b++e).length<=100->∃f c d,f≠.s/\b4 [2,3] (evSs (C a) [.setS (.q [2,3] []) 1 (.var 2)<|.var 3]) (e.map λp=>[((.s,.str p.1):W),(.s,p.2.th)]) [n,Y (m,dE b),g,o3,r]=.nx [n,Y (f,dE<|b++e),c,d,r]
|[],b,m,g,o3,i,_,_=>⟨m,g,o3,i,by rw[JR];rfl⟩
| p::e,b,m,g,o3,i,l,t=>by
 have h:b++p::e=b++[p]++e:=by rw[JN];rfl
 have hx:b.lookup p.1=none:=dH λz=>by rw[KS,JQ] at l;exact(MD.mp l).2.2 _ z _ JJ rfl
 obtain⟨f,c,d,j,u⟩:=sd a n r e (b++[p]) (.o .s) (Y (.s,.str p.1)) (Y (.s,p.2.th)) (by decide) (by rw[<- h];exact l) (by rw[<- h];exact t);refine⟨f,c,d,j,?_⟩;rw[h,<- u,JQ];have x:=λv w=>sU i (k:=p.2) hx (by rw[Jx] at t;lia) v w;refine aX rfl ?_;simp_all only[aF,aL,x]
theorem uF (a:O)(n r t u v w:L W):∀(e b:EV) (m:Md) (g o3:L W),m≠.s->((b++e).map J9).Nodup->(b++e).length<=100->∃f c d,f≠.s/\b4 [6,7] (evSs (C a) [.setS (.q [6,7] []) 5 (.var 6)<|.var 7]) (e.map λp=>[((.s,.str p.1):W),(.s,p.2.th)]) [n,r,t,u,v,Y (m,dE b),g,o3,w]=.nx [n,r,t,u,v,Y (f,dE<|b++e),c,d,w]
|[],b,m,g,o3,i,_,_=>⟨m,g,o3,i,by rw[JR];rfl⟩
| p::e,b,m,g,o3,i,l,x=>by
 have h:b++p::e=b++[p]++e:=by rw[JN];rfl
 have hx:b.lookup p.1=none:=dH λz=>by rw[KS,JQ] at l;exact(MD.mp l).2.2 _ z _ JJ rfl
 obtain⟨f,c,d,j,y⟩:=uF a n r t u v w e (b++[p]) (.o .s) (Y (.s,.str p.1)) (Y (.s,p.2.th)) (by decide) (by rw[<- h];exact l) (by rw[<- h];exact x);refine⟨f,c,d,j,?_⟩;rw[h,<- y,JQ];have F:=λA D=>sU i (k:=p.2) hx (by rw[Jx] at x;lia) A D;refine aX rfl ?_;simp_all only[aF,aL,F]
theorem kZ {L d:O}{e:EV}{k:Kd}{t:T}{f:U T}(u:d+12<=L)(x:(e.map J9).Nodup)(v:e.length<=100)(n:AK d e k t [] f)(hk:f.length<LIM)(m:Md):C (L+1) 368 [(m,.tup [.tup<|eT e,t])]=.ok ((.o .s,.lst f),[]):=by
 obtain⟨h,a,c,w,g⟩:=sd L (Y (.s,.tup [.tup<|eT e,t])) J e [] .d J J (by decide) x v;have g:b4 [2,3] (evSs (C L) [.setS (.q [2,3] []) 1 (.var 2) (.var 3)]) (e.map λp=>[((.s,.str p.1):W),(.s,p.2.th)]) [Y (.s,.tup [.tup (eT e),t]),Y (.d,.dct [] []),J,J,J]=.nx [Y (.s,.tup [.tup (eT e),t]),Y (h,dE e),a,c,J]:=g;have l:C L 369 [(.s,t),(.d,.tup []),(.s,dE e),(.o .s,.lst [])]=.ok ((.s,k.th),[(.o .s,.lst f)]):=by have:=n L u [] .s .d .s (by rw[LA];lia);rw[Kw] at this;exact this
 have i:evSs (C L) (Bk f_kinds_of 0 1) [Y (m,.tup [.tup (eT e),t]),J,J,J,J]=.nx [Y (m,.tup [.tup (eT e),t]),Y (.d,.dct [] []),J,J,J]:=by kernel_rfl
 have y:evL (C L) [.op .ix Jt [.var 0,.cst (.int 0)]] (pick [0] [] [Y (m,.tup [.tup (eT e),t]),Y (.d,.dct [] []),J,J,J])=.ok ([(.s,.tup (eT e))],[Y (.s,.tup [.tup (eT e),t]),J,J,J,J]):=by simp_all only[aa]
 have j:evSs (C L) (Bk f_kinds_of 1 1) [Y (m,.tup [.tup (eT e),t]),Y (.d,.dct [] []),J,J,J]=.nx [Y (.s,.tup [.tup (eT e),t]),Y (h,dE e),a,c,J]:=vg (r:=[]) y (show bj .sq2T [(.s,.tup<|eT e)]=_ from dj e) g;rw[lu,x_run _ _ _ rfl];refine(OQ (Fl.out [])<|(go1 (b:=Bk f_kinds_of 1 1++f_kinds_of.body.drop 2) i).trans<|go1 j).trans ?_;simp_all only[f_kinds_of,JC,JB,aa,l]
theorem iU:∀{l:U T},(∀u∈l,Gd u)->eqTs l l=Ju/\dps l<=20
|[],_=>⟨rfl,Kl _⟩
| u::l,h=>by
 have a:=h u JJ;have c:=iU λv b=>h v<|JW _ b;refine⟨?_,?_⟩
 .show (eqT u u&&eqTs l l)=Ju;rw[a.1,c.1];rfl
 .show max (dp u) (dps l)<=20;have:=a.2;lia
theorem tV (l:U T):(["list"].any λc=>isOne c<|.lst l)=true:=rfl
theorem pure_law (n:U I):∃m bs,C 40 0 [(.d,.scr n)]=.ok ((m,.bl Ju),bs):=by
 obtain⟨N,e,k,t,i,bs,nm,ep,G,hl,F⟩:=lE 38 (by decide) n .d;obtain⟨ks,l1,gd,⟨l,rfl⟩,ak,lk⟩:=F.bo (by lia) [] (by decide);have hd:=F.dk;have H:(l++[nt [] k]).length<5000000:=Iq (d:=11) (by lia) (by decide);have g:(l++[nt [] k]).length<LIM:=by show _<16777215;lia
 obtain⟨c,rfl⟩:=F.tp;have ko:=λm=>kZ (L:=38) (by decide) G.nd (by lia) ak g m;have lw:C 39 387 [(.s,.tup c),(.s,dE e),(.d,.tup []),(.o .s,.lst [])]=.ok ((.s,k.th),[(.o .s,.lst (l++[nt [] k]))]):=by have:=lk 39 (by decide) [] .s .d (by rw[LA];lia);rw[Kw] at this;exact this
 obtain⟨q1,q2⟩:=iU gd;have f:dp (.lst (l++[nt [] k]))<=64:=by show dps _+1<=64;lia
 have qe:eqT (.lst (l++[nt [] k])) (.lst (l++[nt [] k]))=true:=q1;have x:=zV [] hd;have dk:=cD k;have z:=λm j=>eY Jt m j k.th k.th (by lia) (by lia);have A:=λm j=>eY Jt m j (.lst<|l++[nt [] k]) (.lst<|l++[nt [] k]) f f;have D:=λm j=>eY Jt m j (.tup [.tup [],k.th]) (.tup [.tup [],k.th]) (JP x.2<|by decide) (JP x.2<|by decide);have v:eqT (.tup [.tup [],k.th]) (.tup [.tup [],k.th])=true:=x.1;have w:=λm j=>bZ Jt m j (.lst<|l++[nt [] k]) (.lst<|l++[nt [] k]) f f;have al:atI (l++[nt [] k]) (-1)=Y (.tup [.tup [],k.th]):=fW l;have ep:C 39 384 [(.o .s,.dct [.inr (q "script"),.inr (q "at"),.inr (q "names")] [.scr n,.int 0,.int 0]),(.d,.int 6)]=.ok ((N,.tup [.tup [.tup (eT e),.tup c],i,k.th]),bs):=ep;obtain⟨h,a,Z⟩:∃h a,evSs (C 39) (Bk f_law 0 3) [Y (.d,.scr n),J,J,J,J,J,J,J,J]=.nx [h,Y (a,.tup [.tup (eT e),.tup c]),Y (a,i),Y (a,k.th),Y (.o .s,.lst []),Y (.d,.dct [] []),J,J,J]:=by have d3:decide ([q "script",q "at",q "names"].length=[((Md.s,T.scr n):W),(Md.d,T.int 0),(Md.d,T.int 0)].length)=true:=rfl;cases N<;>exact⟨_,_,by simp_all only[Bk,f_law,JC,JB,JG,JH,aa,ep,d3];rfl⟩
 obtain⟨M,P,Q,hm',u⟩:=uF 39 h (Y (.s,.tup [.tup<|eT e,.tup c])) (Y (a,i)) (Y (a,k.th)) (Y (.o .s,.lst [])) J e [] .d J J (by decide) G.nd (JP hl<|by decide);have u:b4 [6,7] (evSs (C 39) [.setS (.q [6,7] []) 5 (.var 6) (.var 7)]) (e.map λp=>[((.s,.str p.1):W),(.s,p.2.th)]) [h,Y (.s,.tup [.tup (eT e),.tup c]),Y (a,i),Y (a,k.th),Y (.o .s,.lst []),Y (.d,.dct [] []),J,J,J]=.nx [h,Y (.s,.tup [.tup (eT e),.tup c]),Y (a,i),Y (a,k.th),Y (.o .s,.lst []),Y (M,dE e),P,Q,J]:=u;have s1:evL (C 39) [.op .ix Jt [.var 1,.cst (.int 0)]] (pick [1] [] [h,Y (a,.tup [.tup (eT e),.tup c]),Y (a,i),Y (a,k.th),Y (.o .s,.lst []),Y (.d,.dct [] []),J,J,J])=.ok ([(.s,.tup (eT e))],[J,Y (.s,.tup [.tup (eT e),.tup c]),J,J,J,J,J,J,J]):=by simp_all only[aa]
 have H1:evSs (C 39) (Bk f_law 3 1) [h,Y (a,.tup [.tup (eT e),.tup c]),Y (a,i),Y (a,k.th),Y (.o .s,.lst []),Y (.d,.dct [] []),J,J,J]=.nx [h,Y (.s,.tup [.tup (eT e),.tup c]),Y (a,i),Y (a,k.th),Y (.o .s,.lst []),Y (M,dE e),P,Q,J]:=vg (r:=[]) s1 (show bj .sq2T [(.s,.tup<|eT e)]=_ from dj e) u;have go:=OQ (Fl.out [])<|(go1 (b:=Bk f_law 3 1++f_law.body.drop 4) Z).trans<|go1 H1;rw[show(40:O)=39+1 from rfl,Bg,x_run _ _ _ rfl];have y:(l++[nt [] k]).length<LIM:=g;generalize hg:l++[nt [] k]=ks at *;exact⟨_,_,go.trans<|by simp_all only[f_law,JC,JB,aa,lw,z,av,ko,A,qe,al,D,v,w,tV,OG y];rfl⟩
end
end P14

namespace A14
open PySem PySem.Spec PyProof.Rows L2 L3 MR
noncomputable def top (i:O):OW:=PySem.Challenge.pw_broadrow_k14_kinds_of_pieces.main.body.getD i<|.Pass ⟨0,0,0,0⟩
abbrev sD:OW:=top 7
abbrev qZ:OW:=top 8
abbrev rL:OW:=top 9
abbrev qQ:OW:=top 10
abbrev qX:OW:=top 14
abbrev vJ:OW:=top 15
abbrev uI:OW:=top 16
abbrev uK:OW:=top 20
abbrev qM:OW:=top 21
abbrev sC:OW:=top 22
abbrev qL:OW:=top 23
abbrev rB:OW:=top 24
abbrev qW:OW:=top 25
abbrev rR:OW:=top 26
abbrev uN:OW:=top 28
abbrev ua:OW:=top 29
abbrev t6:OW:=top 30
abbrev rJ:OW:=top 31
abbrev ve:OW:=top 32
abbrev sH:OW:=top 33
abbrev rX:OW:=top 34
abbrev vB:OW:=top 35
abbrev r9:OW:=top 36
abbrev tG:OW:=top 37
abbrev t9:OW:=top 38
abbrev sZ:OW:=top 39
abbrev sY:OW:=top 40
abbrev tK:OW:=top 41
abbrev uT:OW:=top 42
abbrev uB:OW:=top 43
abbrev s0:OW:=top 44
structure Glb (K:Jw)(w:Jy)(mg:Str->L B):Prop where
 DEEPEST:∃t,mg "DEEPEST"=Y (.int 5 t)
 k_AHEAD:pX K w mg "AHEAD" keys_AHEAD
 c_BINDING:mj K w mg "BINDING" tab_BINDING
 k_LEAVES:pX K w mg "LEAVES" keys_LEAVES
 c_LEAVES:mj K w mg "LEAVES" tab_LEAVES
 c_RULES:mj K w mg "RULES" tab_RULES
 k_WITHIN:pX K w mg "WITHIN" keys_WITHIN
 c_WITHIN:mj K w mg "WITHIN" tab_WITHIN
structure Calls (P:OI)(w:Jy)(K:Jw)(mg:Str->L B)(base:OT)(n:O)(C:M.Call):Prop where
 c364:af P w K mg base n C "kind_text" 364 []
 c365:af P w K mg base n C "read_kind" 365 []
 c366:af P w K mg base n C "take_kind" 366 []
 c367:af P w K mg base n C "take_kind_within" 367 []
 c175:af P w K mg base n C "parts_start" 175 []
 c176:af P w K mg base n C "parts" 176 []
 c233:af P w K mg base n C "binding" 233 []
 c368:af P w K mg base n C "kinds_of" 368 []
 c369:af P w K mg base n C "add_kinds" 369 [3]
 c370:af P w K mg base n C "with_bound" 370 [3]
 c371:af P w K mg base n C "bound_kind" 371 [1]
 c372:af P w K mg base n C "own_kind" 372 []
 c373:af P w K mg base n C "fitted" 373 []
 c374:af P w K mg base n C "kind_by" 374 []
 c375:af P w K mg base n C "_law_cell" 375 [0]
 c376:af P w K mg base n C "_law_name" 376 [0,1]
 c171:af P w K mg base n C "_law_kind" 171 []
 c377:af P w K mg base n C "_law_depth" 377 []
 c378:af P w K mg base n C "_law_number" 378 []
 c379:af P w K mg base n C "_law_leaf" 379 []
 c380:af P w K mg base n C "_law_signs" 380 []
 c381:af P w K mg base n C "_law_binder" 381 [0]
 c382:af P w K mg base n C "_law_tree" 382 [0]
 c244:af P w K mg base n C "_law_start" 244 []
 c245:af P w K mg base n C "_law_many" 245 []
 c383:af P w K mg base n C "_law_worth" 383 [0]
 c384:af P w K mg base n C "_law_program" 384 [0]
 c385:af P w K mg base n C "_law_kind_by" 385 []
 c386:af P w K mg base n C "_law_noted" 386 [2]
 c387:af P w K mg base n C "_law_kinds" 387 [3]
abbrev DD (x:Str)(e:OW)(N:U Str)(g:M.Fn):Prop:=∀{P:OI} {w:Jy} {K:Jw} {d:Str->L B} {a:OT} {n:O} {C:M.Call} {f:OD} {c:B} {A:JU} {b:U Env} {s:Jv} {H:Hp} {E:XK},Calls P w K d a n C->Txt d->Glb K w d->Room n (A.deeper<|Ky x (defScope e) s.heap.objs.size f c)->SSs (jw CX0 P w K d a N x (defScope e) f c A b s H E).nox (slN N.length) g.io C (defBody e) g.body
theorem GX:au ["kind"] ["kind"] (defScope sD):=fsc
theorem Ip:DD "kind_text" sD ["kind"] a8:=λ{_ _ _ _ _ _ _ _ _ _ _ s _ _} cs T G a=>
 have S:=GX
 (ss1 (ax (zT sS (bK (@sLx _ _ _ _ _ _ _ (by decide) (@slx _ _ _ _ _ _ _ (@ai _ _ _ _ _ _ _ _ _ (sV 0) sI (λ_ _=>rfl)) sl0 rfl)) (sC1 [] [] [] [] (jG (pw (sV 0) sI)) (λ_ _ _ _=>(ao cs.c364 a (@say _ _ _ _ _ _ _ (sV 0) sa0 rfl rfl))) csc .nil .nil)))))
theorem FW:au ["text","words","taken"] ["text"] (defScope qZ):=fsc
theorem HX:DD "read_kind" qZ ["text","words","taken"] bR:=λ{_ _ _ _ _ _ _ _ _ _ _ s _ _} cs T G a=>
 have S:=FW
 (@ssc _ _ _ _ _ _ _ _ (@zA _ _ _ _ _ _ _ 1 _ _ _ _ S.nd (mT (sV 0) sS) rfl rfl rfl rfl rfl rfl)
    (@ssc _ _ _ _ _ _ _ _ (@zA _ _ _ _ _ _ _ 2 _ _ _ _ S.nd (ao cs.c366 a (@say _ _ _ _ _ _ _ (sV 1) (@say _ _ _ _ _ _ _ sI sa0 rfl rfl) rfl rfl)) rfl rfl rfl rfl rfl rfl)
    (@ssc _ _ _ _ _ _ _ _ (zIf (pJ (@ai _ _ _ _ _ _ _ _ _ (sV 2) sI (λ_ _=>rfl)) (iq (hm:=T.len) (ha:=(sV 1)))) (ss1 kl) ss0)
    (@ss1 _ _ _ _ _ _ (@ax _ _ _ _ _ _ _ _ (@ai _ _ _ _ _ _ _ _ _ (sM 2) sI (λ_ _=>rfl)))))))
theorem GO:au ["words","at"] ["words","at"] (defScope rL):=fsc
theorem IQ:DD "take_kind" rL ["words","at"] bV:=λ{_ _ _ _ _ _ _ _ _ _ _ s _ _} cs T G a=>
 have S:=GO
 (ss1<|ax<|ao cs.c367 a<|@say _ _ _ _ _ _ _ (sM 0) (@say _ _ _ _ _ _ _ (sM 1) (@say _ _ _ _ _ _ _ (sGc G.DEEPEST) sa0 rfl rfl) rfl rfl) rfl rfl)
theorem Hi:au ["words","at","depth","many","kind","after","number","taken"] ["words","at","depth"] (defScope qQ):=fsc
theorem HL:DD "take_kind_within" qQ ["words","at","depth","many","kind","after","number","taken"] aC:=λ{_ _ _ _ _ _ _ _ _ _ _ s _ _} cs T G a=>
 have S:=Hi
 (@ssc _ _ _ _ _ _ _ _ (zIf (tW (wOr (Hz (sV 1) (iq (hm:=T.len) (ha:=(sV 0)))) (wO1 (wM G.k_WITHIN (@ai _ _ _ _ _ _ _ _ _ (sV 0) (sV 1) (λ_ _=>rfl)))))) (ss1 kl) ss0)
    (@ssc _ _ _ _ _ _ _ _ (@zA _ _ _ _ _ _ _ 3 _ _ _ _ S.nd (Dl G.c_WITHIN (@ai _ _ _ _ _ _ _ _ _ (sV 0) (sV 1) (λ_ _=>rfl))) rfl rfl rfl rfl rfl rfl)
    (@ssc _ _ _ _ _ _ _ _ (zIf (tW (fF (fV (sV 3) sI) (wA1 (aD a (sV 2) sI)))) (ss1 kl) ss0)
    (@ssc _ _ _ _ _ _ _ _ (@zA _ _ _ _ _ _ _ 4 _ _ _ _ S.nd (@sLx _ _ _ _ _ _ _ (by decide) (@slx _ _ _ _ _ _ _ (@ai _ _ _ _ _ _ _ _ _ (sV 0) (sV 1) (λ_ _=>rfl)) sl0 rfl)) rfl rfl rfl rfl rfl rfl)
    (@ssc _ _ _ _ _ _ _ _ (@zA _ _ _ _ _ _ _ 5 _ _ _ _ S.nd (bK (sV 1) sI) rfl rfl rfl rfl rfl rfl)
    (@ssc _ _ _ _ _ _ _ _ (k7 6 S.nd (CB (hm:=T.range) (ha:=(sV 3))) (@ssc _ _ _ _ _ _ _ _ (@zA _ _ _ _ _ _ _ 7 _ _ _ _ S.nd (ao cs.c367 a (@say _ _ _ _ _ _ _ (sV 0) (@say _ _ _ _ _ _ _ (sV 5) (@say _ _ _ _ _ _ _ (hX (sV 2) sI) sa0 rfl rfl) rfl rfl) rfl rfl)) rfl rfl rfl rfl rfl rfl)
     (@ssc _ _ _ _ _ _ _ _ (ie 4 (@ai _ _ _ _ _ _ _ _ _ (sV 7) sI (λ_ _=>rfl)))
     (ss1 (@zA _ _ _ _ _ _ _ 5 _ _ _ _ S.nd (@ai _ _ _ _ _ _ _ _ _ (sV 7) sI (λ_ _=>rfl)) rfl rfl rfl rfl rfl rfl)))))
    (ss1 (ax (@sTx _ _ _ _ _ _ _ (by decide) (@slx _ _ _ _ _ _ _ (va (hm:=T.tup) (ha:=(sM 4))) (@slx _ _ _ _ _ _ _ (sM 5) sl0 rfl) rfl))))))))))
theorem F9:au ["sign"] ["sign"] (defScope qX):=fsc
theorem IC:DD "parts_start" qX ["sign"] bb:=λ{_ _ _ _ _ _ _ _ _ _ _ s _ _} cs T G a=>
 have S:=F9
 (ss1<|ax<|sIf (G8 G.k_AHEAD<|sM 0) sI sI)
theorem E4:au ["tree"] ["tree"] (defScope vJ):=fsc
theorem Jo:DD "parts" vJ ["tree"] dG:=λ{_ _ _ _ _ _ _ _ _ _ _ s _ _} cs T G a=>
 have S:=E4
 (ss1 (ax (pw (sV 0) (ao cs.c175 a (@say _ _ _ _ _ _ _ (@ai _ _ _ _ _ _ _ _ _ (sV 0) sI (λ_ _=>rfl)) sa0 rfl rfl)))))
theorem GD:au ["tree"] ["tree"] (defScope uI):=fsc
theorem IF:DD "binding" uI ["tree"] cX:=λ{_ _ _ _ _ _ _ _ _ _ _ s _ _} cs T G a=>
 have S:=GD
 (ss1<|ax<|Hg G.c_BINDING<|@ai _ _ _ _ _ _ _ _ _ (sM 0) sI λ_ _=>rfl)
theorem Gf:au ["program","names","name","kind","told"] ["program"] (defScope uK):=fsc
theorem HS:DD "kinds_of" uK ["program","names","name","kind","told"] f_kinds_of:=λ{_ _ _ _ _ _ _ _ _ _ _ s _ _} cs T G a=>
 have S:=Gf
 (@ssc _ _ _ _ _ _ _ _ (@zA _ _ _ _ _ _ _ 1 _ _ _ _ S.nd uh rfl rfl rfl rfl rfl rfl)
    (@ssc _ _ _ _ _ _ _ _ (nT 2 3 S.nd (lO (@ai _ _ _ _ _ _ _ _ _ (sV 0) sI (λ_ _=>rfl))) (ss1 (ot 1 a (sV 3) (sV 2))))
    (@ssc _ _ _ _ _ _ _ _ (@zA _ _ _ _ _ _ _ 4 _ _ _ _ S.nd (@sLx _ _ _ _ _ _ _ (by decide) sl0) rfl rfl rfl rfl rfl rfl)
    (@ssc _ _ _ _ _ _ _ _ (Hy (ao cs.c369 a (@say _ _ _ _ _ _ _ (@ai _ _ _ _ _ _ _ _ _ (sV 0) sI (λ_ _=>rfl)) (@say _ _ _ _ _ _ _ (@sTx _ _ _ _ _ _ _ (by decide) sl0) (@say _ _ _ _ _ _ _ (sV 1) (sai 4 sa0) rfl rfl) rfl rfl) rfl rfl)))
    (ss1 (ax (sM 4)))))))
theorem F5:au ["tree","place","names","told","ins","number","part","inner","kind"] ["tree","place","names","told"] (defScope qM):=fsc
theorem Jl:DD "add_kinds" qM ["tree","place","names","told","ins","number","part","inner","kind"] f_add_kinds:=λ{_ _ _ _ _ _ _ _ _ _ _ s _ _} cs T G a=>
 have S:=F5
 (@ssc _ _ _ _ _ _ _ _ (@zA _ _ _ _ _ _ _ 4 _ _ _ _ S.nd (@sLx _ _ _ _ _ _ _ (by decide) sl0) rfl rfl rfl rfl rfl rfl)
    (@ssc _ _ _ _ _ _ _ _ (nT 5 6 S.nd (Dj (hm:=T.enum) (ha:=(ao cs.c176 a (@say _ _ _ _ _ _ _ (sV 0) sa0 rfl rfl)))) (@ssc _ _ _ _ _ _ _ _ (@zA _ _ _ _ _ _ _ 7 _ _ _ _ S.nd (sV 2) rfl rfl rfl rfl rfl rfl)
     (@ssc _ _ _ _ _ _ _ _ (zIf (aD a (sV 5) (ao cs.c233 a (@say _ _ _ _ _ _ _ (sV 0) sa0 rfl rfl))) (ss1 (@zA _ _ _ _ _ _ _ 7 _ _ _ _ S.nd (ao cs.c370 a (@say _ _ _ _ _ _ _ (sV 0) (@say _ _ _ _ _ _ _ (sV 1) (@say _ _ _ _ _ _ _ (sV 2) (sai 4 sa0) rfl rfl) rfl rfl) rfl rfl)) rfl rfl rfl rfl rfl rfl)) ss0)
     (ss1 (ie 4 (ao cs.c369 a (@say _ _ _ _ _ _ _ (sV 6) (@say _ _ _ _ _ _ _ (t4 (sV 1) (@sTx _ _ _ _ _ _ _ (by decide) (@slx _ _ _ _ _ _ _ (sV 5) sl0 rfl))) (@say _ _ _ _ _ _ _ (sV 7) (sai 3 sa0) rfl rfl) rfl rfl) rfl rfl)))))))
    (@ssc _ _ _ _ _ _ _ _ (@zA _ _ _ _ _ _ _ 8 _ _ _ _ S.nd (ao cs.c372 a (@say _ _ _ _ _ _ _ (sV 0) (@say _ _ _ _ _ _ _ (sV 2) (@say _ _ _ _ _ _ _ (sV 4) sa0 rfl rfl) rfl rfl) rfl rfl)) rfl rfl rfl rfl rfl rfl)
    (@ssc _ _ _ _ _ _ _ _ (zIf (xQ (sV 8) sN) (ss1 kl) ss0)
    (@ssc _ _ _ _ _ _ _ _ (ie 3 (@sTx _ _ _ _ _ _ _ (by decide) (@slx _ _ _ _ _ _ _ (sV 1) (@slx _ _ _ _ _ _ _ (sV 8) sl0 rfl) rfl)))
    (ss1 (ax (sM 8))))))))
theorem FV:au ["tree","place","names","ins","kind","inner"] ["tree","place","names","ins"] (defScope sC):=fsc
theorem Ir:DD "with_bound" sC ["tree","place","names","ins","kind","inner"] bB:=λ{_ _ _ _ _ _ _ _ _ _ _ s _ _} cs T G a=>
 have S:=FV
 (@ssc _ _ _ _ _ _ _ _ (@zA _ _ _ _ _ _ _ 4 _ _ _ _ S.nd (ao cs.c371 a (@say _ _ _ _ _ _ _ (@ai _ _ _ _ _ _ _ _ _ (sV 0) sI (λ_ _=>rfl)) (sai 3 sa0) rfl rfl)) rfl rfl rfl rfl rfl rfl)
    (@ssc _ _ _ _ _ _ _ _ (zIf (xQ (sV 4) sN) (ss1 kl) ss0)
    (@ssc _ _ _ _ _ _ _ _ (@zA _ _ _ _ _ _ _ 5 _ _ _ _ S.nd (zY (hm:=T.dict) (ha:=(sV 2))) rfl rfl rfl rfl rfl rfl)
    (@ssc _ _ _ _ _ _ _ _ (ot 5 a (sV 4) (@ai _ _ _ _ _ _ _ _ _ (sV 0) sI (λ_ _=>rfl)))
    (ss1 (ax (sM 5)))))))
theorem Fx:au ["sign","ins"] ["sign","ins"] (defScope qL):=fsc
theorem HK:DD "bound_kind" qL ["sign","ins"] a9:=λ{_ _ _ _ _ _ _ _ _ _ _ s _ _} cs T G a=>
 have S:=Fx
 (@ssc _ _ _ _ _ _ _ _ (zIf (aD a (sV 0) sS) (ss1 (ax (oM 1 sI))) ss0)
    (@ssc _ _ _ _ _ _ _ _ (zIf (aD a (sV 0) sS) (ss1 (ax (sIf (aD a (@ai _ _ _ _ _ _ _ _ _ (oM 1 sI) sI (λ_ _=>rfl)) sS) (@ai _ _ _ _ _ _ _ _ _ (oM 1 sI) sI (λ_ _=>rfl)) sN))) ss0)
    (ss1 (ax (sIf (aD a (oM 1 sI) (@sTx _ _ _ _ _ _ _ (by decide) (@slx _ _ _ _ _ _ _ sS sl0 rfl))) (oM 1 sI) sN)))))
theorem GK:au ["tree","names","ins","before","after","found"] ["tree","names","ins"] (defScope rB):=fsc
theorem Ih:DD "own_kind" rB ["tree","names","ins","before","after","found"] aJ:=λ{_ _ _ _ _ _ _ _ _ _ _ s _ _} cs T G a=>
 have S:=GK
 (@ssc _ _ _ _ _ _ _ _ (zIf (aD a (@ai _ _ _ _ _ _ _ _ _ (sV 0) sI (λ_ _=>rfl)) sS) (ss1 (ax (zR a (sM 1) (@ai _ _ _ _ _ _ _ _ _ (sM 0) sI (λ_ _=>rfl))))) ss0)
    (@ssc _ _ _ _ _ _ _ _ (zIf (G8 G.k_LEAVES (@ai _ _ _ _ _ _ _ _ _ (sV 0) sI (λ_ _=>rfl))) (ss1 (ax (Dl G.c_LEAVES (@ai _ _ _ _ _ _ _ _ _ (sM 0) sI (λ_ _=>rfl))))) ss0)
    (@ssc _ _ _ _ _ _ _ _ (zIf (aD a (@ai _ _ _ _ _ _ _ _ _ (sV 0) sI (λ_ _=>rfl)) sS) (ss1 (ax (ao cs.c374 a (@say _ _ _ _ _ _ _ sS (@say _ _ _ _ _ _ _ (Eu (ha:=(@ai _ _ _ _ _ _ _ _ _ (sM 0) sI (λ_ _=>rfl)))) sa0 rfl rfl) rfl rfl)))) ss0)
    (@ssc _ _ _ _ _ _ _ _ (nT 3 4 S.nd (lO (Dl G.c_RULES (@ai _ _ _ _ _ _ _ _ _ (sV 0) sI (fun _ _=>rfl)))) (@ssc _ _ _ _ _ _ _ _ (@zA _ _ _ _ _ _ _ 5 _ _ _ _ S.nd (ao cs.c373 a (@say _ _ _ _ _ _ _ (sV 3) (@say _ _ _ _ _ _ _ (sV 2) sa0 rfl rfl) rfl rfl)) rfl rfl rfl rfl rfl rfl)
     (ss1 (zIf (IJ (sV 5) sN) (ss1 (ax (ao cs.c374 a (@say _ _ _ _ _ _ _ (sM 4) (@say _ _ _ _ _ _ _ (sM 5) sa0 rfl rfl) rfl rfl)))) ss0))))
    (ss1 (ax sN))))))
theorem GG:au ["before","kinds","found","ahead","word","kind"] ["before","kinds"] (defScope qW):=fsc
theorem HC:DD "fitted" qW ["before","kinds","found","ahead","word","kind"] dh:=λ{_ _ _ _ _ _ _ _ _ _ _ s _ _} cs T G a=>
 have S:=GG
 (@ssc _ _ _ _ _ _ _ _ (@zA _ _ _ _ _ _ _ 2 _ _ _ _ S.nd uh rfl rfl rfl rfl rfl rfl)
    (@ssc _ _ _ _ _ _ _ _ (@zA _ _ _ _ _ _ _ 3 _ _ _ _ S.nd (tq (hm:=T.list) (ha:=(sV 1))) rfl rfl rfl rfl rfl rfl)
    (@ssc _ _ _ _ _ _ _ _ (k7 4 S.nd (jG (mT (sV 0) sS)) (@ssc _ _ _ _ _ _ _ _ (@zA _ _ _ _ _ _ _ 5 _ _ _ _ S.nd (He 3) rfl rfl rfl rfl rfl rfl)
     (ss1 (zIf (dm (sV 4) (@sTx _ _ _ _ _ _ _ (by decide) (@slx _ _ _ _ _ _ _ sS (@slx _ _ _ _ _ _ _ sS sl0 rfl) rfl))) (ss1 (zIf (jU a (IG 2 4 5) (sV 5)) (ss1 (ax sN)) ss0)) (ss1 (zIf (aD a (sV 4) (@ai _ _ _ _ _ _ _ _ _ (sV 5) sI (λ_ _=>rfl))) (ss1 (@zA _ _ _ _ _ _ _ 3 _ _ _ _ S.nd (bK (tq (hm:=T.list) (ha:=(pw (sV 5) sI))) (sV 3)) rfl rfl rfl rfl rfl rfl)) (ss1 (ax sN))))))))
    (ss1 (ax (sM 2))))))
theorem FK:au ["after","found","words","kind"] ["after","found"] (defScope rR):=fsc
theorem Ij:DD "kind_by" rR ["after","found","words","kind"] cQ:=λ{_ _ _ _ _ _ _ _ _ _ _ s _ _} cs T G a=>
 have S:=FK
 (@ssc _ _ _ _ _ _ _ _ (zC1 2 [1] [1] [("found",s.heap.objs.size+1)] ["found"] (jG (mT (sV 0) sS)) (λ_ _ _ _=>(sIf (EZ a (sV 0) (sV 1)) (ao cs.c364 a (@say _ _ _ _ _ _ _ (dq a (sV 1) (sV 0)) sa0 rfl rfl)) (sV 0))) csc (lB .nil) (frc .nil) S.nd)
    (@ssc _ _ _ _ _ _ _ _ (Im (ss1 (@zA _ _ _ _ _ _ _ 3 _ _ _ _ S.nd (ao cs.c365 a (@say _ _ _ _ _ _ _ (zT sS (sV 2)) sa0 rfl rfl)) rfl rfl rfl rfl rfl rfl)))
    (ss1 (ax (sM 3)))))
theorem EK:au ["state"] ["state"] (defScope uN):=fsc
theorem HP:DD "_law_cell" uN ["state"] bM:=λ{_ _ _ _ _ _ _ _ _ _ _ s _ _} cs T G a=>
 have S:=EK
 (@ssc _ _ _ _ _ _ _ _ (zv 0 a (bK (dq a (sV 0) sS) sI) sS)
    (ss1 (ax (sQ (sIf (IT (dq a (sV 0) sS) (iq (hm:=T.len) (ha:=(dq a (sV 0) sS)))) (@ai _ _ _ _ _ _ _ _ _ (dq a (sV 0) sS) (hX (dq a (sV 0) sS) sI) (λ_ _=>rfl)) sI)))))
theorem Hr:au ["state","names","cell","letters","some","free","k"] ["state","names","cell"] (defScope ua):=fsc
theorem IS:DD "_law_name" ua ["state","names","cell","letters","some","free","k"] f_law_name:=λ{_ _ _ _ _ _ _ _ _ _ _ s _ _} cs T G a=>
 have S:=Hr
 (@ssc _ _ _ _ _ _ _ _ (@zA _ _ _ _ _ _ _ 3 _ _ _ _ S.nd sS rfl rfl rfl rfl rfl rfl)
    (@ssc _ _ _ _ _ _ _ _ (@zA _ _ _ _ _ _ _ 4 _ _ _ _ S.nd (@sLx _ _ _ _ _ _ _ (by decide) (@slx _ _ _ _ _ _ _ sS (@slx _ _ _ _ _ _ _ sS (@slx _ _ _ _ _ _ _ sS (@slx _ _ _ _ _ _ _ sS (@slx _ _ _ _ _ _ _ sS (@slx _ _ _ _ _ _ _ sS sl0 rfl) rfl) rfl) rfl) rfl) rfl)) rfl rfl rfl rfl rfl rfl)
    (@ssc _ _ _ _ _ _ _ _ (IP 5 [1] [1] [("names",s.heap.objs.size+1)] ["names"] (jG (sV 4)) (λ_ _ _ _=>(tQ (oE (sV 0) (sC1 [] [] [] [] (jG (sV 1)) (λ_ _ _ _=>(@ai _ _ _ _ _ _ _ _ _ (sV 0) sI (λ_ _=>rfl))) csc .nil .nil)))) (λ_ _ _ _=>(sV 0)) csc (lB .nil) (frc .nil) S.nd)
    (@ssc _ _ _ _ _ _ _ _ (zIf (tW (fF (fV (bh (sV 2) sI) sI) (wA1 (fV (iq (hm:=T.len) (ha:=(sV 5))) sI)))) (@ss1 _ _ _ _ _ _ (@ax _ _ _ _ _ _ _ _ (@ai _ _ _ _ _ _ _ _ _ (sV 5) (bh (bp (sM 2) sI) (iq (hm:=T.len) (ha:=(sV 5)))) (λ_ _=>rfl)))) ss0)
    (@ssc _ _ _ _ _ _ _ _ (@zA _ _ _ _ _ _ _ 6 _ _ _ _ S.nd (dq a (sV 0) sS) rfl rfl rfl rfl rfl rfl)
    (@ssc _ _ _ _ _ _ _ _ (zv 0 a (bK (sV 6) sI) sS)
    (ss1 (ax (bK (bK (@ai _ _ _ _ _ _ _ _ _ (sM 4) (bh (bp (sM 2) sI) sI) (λ_ _=>rfl)) (@ai _ _ _ _ _ _ _ _ _ (sV 3) (bh (sV 6) sI) (λ_ _=>rfl))) (@ai _ _ _ _ _ _ _ _ _ (sV 3) (bh (bp (sV 6) sI) sI) (λ_ _=>rfl)))))))))))
theorem E2:au ["cell","left","way"] ["cell","left"] (defScope t6):=fsc
theorem Iw:DD "_law_kind" t6 ["cell","left","way"] aY:=λ{_ _ _ _ _ _ _ _ _ _ _ s _ _} cs T G a=>
 have S:=E2
 (@ssc _ _ _ _ _ _ _ _ (@zA _ _ _ _ _ _ _ 2 _ _ _ _ S.nd (bh (sV 0) sI) rfl rfl rfl rfl rfl rfl)
    (@ssc _ _ _ _ _ _ _ _ (zIf (tW (wOr (aD a (sV 1) sI) (wO1 (pJ (sV 2) sI)))) (@ss1 _ _ _ _ _ _ (@ax _ _ _ _ _ _ _ _ (@ai _ _ _ _ _ _ _ _ _ (@sLx _ _ _ _ _ _ _ (by decide) (@slx _ _ _ _ _ _ _ (@sTx _ _ _ _ _ _ _ (by decide) (@slx _ _ _ _ _ _ _ sS sl0 rfl)) (@slx _ _ _ _ _ _ _ (@sTx _ _ _ _ _ _ _ (by decide) (@slx _ _ _ _ _ _ _ sS sl0 rfl)) sl0 rfl) rfl)) (bh (sM 0) sI) (λ_ _=>rfl)))) ss0)
    (@ssc _ _ _ _ _ _ _ _ (zIf (aD a (sV 2) sI) (ss1 (ax (@sTx _ _ _ _ _ _ _ (by decide) (@slx _ _ _ _ _ _ _ sS (@slx _ _ _ _ _ _ _ (ao cs.c171 a (@say _ _ _ _ _ _ _ (bp (sV 0) sI) (@say _ _ _ _ _ _ _ (hX (sV 1) sI) sa0 rfl rfl) rfl rfl)) (@slx _ _ _ _ _ _ _ (ao cs.c171 a (@say _ _ _ _ _ _ _ (bp (sV 0) sI) (@say _ _ _ _ _ _ _ (hX (sV 1) sI) sa0 rfl rfl) rfl rfl)) sl0 rfl) rfl) rfl)))) ss0)
    (ss1 (ax (@sTx _ _ _ _ _ _ _ (by decide) (@slx _ _ _ _ _ _ _ sS (@slx _ _ _ _ _ _ _ (ao cs.c171 a (@say _ _ _ _ _ _ _ (bp (sM 0) sI) (@say _ _ _ _ _ _ _ (hX (sM 1) sI) sa0 rfl rfl) rfl rfl)) sl0 rfl) rfl)))))))
theorem FJ:au ["kind"] ["kind"] (defScope rJ):=fsc
theorem Ja:DD "_law_depth" rJ ["kind"] a6:=λ{_ _ _ _ _ _ _ _ _ _ _ s _ _} cs T G a=>
 have S:=FJ
 (ss1 (ax (bK sI (GR (hm:=T.max) (ha:=(bK (@sLx _ _ _ _ _ _ _ (by decide) (@slx _ _ _ _ _ _ _ sI sl0 rfl)) (sC1 [] [] [] [] (jG (pw (sM 0) sI)) (λ_ _ _ _=>(ao cs.c377 a (@say _ _ _ _ _ _ _ (sV 0) sa0 rfl rfl))) csc .nil .nil)))))))
theorem Hj:au ["cell","some"] ["cell"] (defScope ve):=fsc
theorem HH:DD "_law_number" ve ["cell","some"] f_law_number:=λ{_ _ _ _ _ _ _ _ _ _ _ s _ _} cs T G a=>
 have S:=Hj
 (@ssc _ _ _ _ _ _ _ _ (@zA _ _ _ _ _ _ _ 1 _ _ _ _ S.nd (@sLx _ _ _ _ _ _ _ (by decide) (@slx _ _ _ _ _ _ _ sI (@slx _ _ _ _ _ _ _ sI (@slx _ _ _ _ _ _ _ sI (@slx _ _ _ _ _ _ _ sI (@slx _ _ _ _ _ _ _ sI (@slx _ _ _ _ _ _ _ sI (@slx _ _ _ _ _ _ _ sI (@slx _ _ _ _ _ _ _ sI (@slx _ _ _ _ _ _ _ sI (@slx _ _ _ _ _ _ _ sI (@slx _ _ _ _ _ _ _ sI (@slx _ _ _ _ _ _ _ sI (@slx _ _ _ _ _ _ _ sI (@slx _ _ _ _ _ _ _ sI (@slx _ _ _ _ _ _ _ sI (@slx _ _ _ _ _ _ _ sI (@slx _ _ _ _ _ _ _ (vT sI sI) (@slx _ _ _ _ _ _ _ (hX (vT sI sI) sI) sl0 rfl) rfl) rfl) rfl) rfl) rfl) rfl) rfl) rfl) rfl) rfl) rfl) rfl) rfl) rfl) rfl) rfl) rfl)) rfl rfl rfl rfl rfl rfl)
    (@ssc _ _ _ _ _ _ _ _ (@zA _ _ _ _ _ _ _ 1 _ _ _ _ S.nd (bK (sV 1) (@sLx _ _ _ _ _ _ _ (by decide) (@slx _ _ _ _ _ _ _ (vN sI (vT sI sI)) (@slx _ _ _ _ _ _ _ (vT sI sI) sl0 rfl) rfl))) rfl rfl rfl rfl rfl rfl)
    (@ss1 _ _ _ _ _ _ (@ax _ _ _ _ _ _ _ _ (@ai _ _ _ _ _ _ _ _ _ (sM 1) (sIf (fV (bh (bp (sV 0) sI) sI) sI) (bh (sV 0) sI) (bh (bp (sV 0) sI) sI)) (λ_ _=>rfl))))))
theorem Gg:au ["kind","names","cell","some","one"] ["kind","names","cell"] (defScope sH):=fsc
theorem Iu:DD "_law_leaf" sH ["kind","names","cell","some","one"] f_law_leaf:=λ{_ _ _ _ _ _ _ _ _ _ _ s _ _} cs T G a=>
 have S:=Gg
 (@ssc _ _ _ _ _ _ _ _ (I9 3 [0] [0] [("kind",s.heap.objs.size+1)] ["kind"] (zw (sV 1)) (λ_ _ _ _=>(aD a (sV 1) (sV 2))) (λ_ _ _ _=>(sV 0)) csc (lB .nil) (frc .nil) S.nd)
    (@ssc _ _ _ _ _ _ _ _ (zIf (tW (fF (fV (iq (hm:=T.len) (ha:=(sV 3))) sI) (wA1 (fV (bh (sV 2) sI) sI)))) (ss1 (ax (@sTx _ _ _ _ _ _ _ (by decide) (@slx _ _ _ _ _ _ _ sS (@slx _ _ _ _ _ _ _ (@ai _ _ _ _ _ _ _ _ _ (sV 3) (bh (bp (sM 2) sI) (iq (hm:=T.len) (ha:=(sV 3)))) (λ_ _=>rfl)) sl0 rfl) rfl)))) ss0)
    (@ssc _ _ _ _ _ _ _ _ (zIf (aD a (@ai _ _ _ _ _ _ _ _ _ (sV 0) sI (λ_ _=>rfl)) sS) (ss1 (ax (@sTx _ _ _ _ _ _ _ (by decide) (@slx _ _ _ _ _ _ _ sS (@slx _ _ _ _ _ _ _ (ao cs.c378 a (@say _ _ _ _ _ _ _ (bp (sM 2) sI) sa0 rfl rfl)) sl0 rfl) rfl)))) ss0)
    (@ssc _ _ _ _ _ _ _ _ (zIf (aD a (@ai _ _ _ _ _ _ _ _ _ (sV 0) sI (λ_ _=>rfl)) sS) (ss1 (ax (@sTx _ _ _ _ _ _ _ (by decide) (@slx _ _ _ _ _ _ _ (@ai _ _ _ _ _ _ _ _ _ (@sLx _ _ _ _ _ _ _ (by decide) (@slx _ _ _ _ _ _ _ sS (@slx _ _ _ _ _ _ _ sS sl0 rfl) rfl)) (bh (bp (sM 2) sI) sI) (λ_ _=>rfl)) sl0 rfl)))) ss0)
    (@ssc _ _ _ _ _ _ _ _ (zIf (aD a (@ai _ _ _ _ _ _ _ _ _ (sV 0) sI (fun _ _=>rfl)) sS) (@ssc _ _ _ _ _ _ _ _ (@zA _ _ _ _ _ _ _ 4 _ _ _ _ S.nd (ao cs.c379 a (@say _ _ _ _ _ _ _ (@ai _ _ _ _ _ _ _ _ _ (sV 0) sI (fun _ _=>rfl)) (@say _ _ _ _ _ _ _ (sV 1) (@say _ _ _ _ _ _ _ (bp (sV 2) sI) sa0 rfl rfl) rfl rfl) rfl rfl)) rfl rfl rfl rfl rfl rfl)
     (ss1 (ax (@sTx _ _ _ _ _ _ _ (by decide) (@slx _ _ _ _ _ _ _ sS (@slx _ _ _ _ _ _ _ (sM 4) (@slx _ _ _ _ _ _ _ (ao cs.c379 a (@say _ _ _ _ _ _ _ (@ai _ _ _ _ _ _ _ _ _ (sM 0) sI (λ_ _=>rfl)) (@say _ _ _ _ _ _ _ (sM 1) (@say _ _ _ _ _ _ _ (bp (sM 2) sI) sa0 rfl rfl) rfl rfl) rfl rfl)) sl0 rfl) rfl) rfl))))) ss0)
    (@ssc _ _ _ _ _ _ _ _ (zIf (aD a (bh (bp (sV 2) sI) sI) sI) (ss1 (ax (@sTx _ _ _ _ _ _ _ (by decide) (@slx _ _ _ _ _ _ _ sS (@slx _ _ _ _ _ _ _ (@ai _ _ _ _ _ _ _ _ _ (sM 0) sI (λ_ _=>rfl)) sl0 rfl) rfl)))) ss0)
    (ss1 (ax (@sTx _ _ _ _ _ _ _ (by decide) (@slx _ _ _ _ _ _ _ sS (@slx _ _ _ _ _ _ _ (ao cs.c379 a (@say _ _ _ _ _ _ _ (@ai _ _ _ _ _ _ _ _ _ (sM 0) sI (λ_ _=>rfl)) (@say _ _ _ _ _ _ _ (sM 1) (@say _ _ _ _ _ _ _ (bp (sM 2) sI) sa0 rfl rfl) rfl rfl) rfl rfl)) sl0 rfl) rfl))))))))))
theorem Fg:au ["kind","other","num","nums","found"] ["kind","other"] (defScope rX):=fsc
theorem HN:DD "_law_signs" rX ["kind","other","num","nums","found"] f_law_signs:=λ{_ _ _ _ _ _ _ _ _ _ _ s _ _} cs T G a=>
 have S:=Fg
 (@ssc _ _ _ _ _ _ _ _ (@zA _ _ _ _ _ _ _ 2 _ _ _ _ S.nd (@sTx _ _ _ _ _ _ _ (by decide) (@slx _ _ _ _ _ _ _ sS sl0 rfl)) rfl rfl rfl rfl rfl rfl)
    (@ssc _ _ _ _ _ _ _ _ (@zA _ _ _ _ _ _ _ 3 _ _ _ _ S.nd (@sTx _ _ _ _ _ _ _ (by decide) (@slx _ _ _ _ _ _ _ sS (@slx _ _ _ _ _ _ _ (sV 2) sl0 rfl) rfl)) rfl rfl rfl rfl rfl rfl)
    (@ssc _ _ _ _ _ _ _ _ (@zA _ _ _ _ _ _ _ 4 _ _ _ _ S.nd (@sLx _ _ _ _ _ _ _ (by decide) sl0) rfl rfl rfl rfl rfl rfl)
    (@ssc _ _ _ _ _ _ _ _ (zIf (pJ (ao cs.c377 a (@say _ _ _ _ _ _ _ (sV 0) sa0 rfl rfl)) sI) (@ssc _ _ _ _ _ _ _ _ (@zA _ _ _ _ _ _ _ 4 _ _ _ _ S.nd (@sLx _ _ _ _ _ _ _ (by decide) (@slx _ _ _ _ _ _ _ (@sTx _ _ _ _ _ _ _ (by decide) (@slx _ _ _ _ _ _ _ sS (@slx _ _ _ _ _ _ _ (@sLx _ _ _ _ _ _ _ (by decide) (@slx _ _ _ _ _ _ _ (@sTx _ _ _ _ _ _ _ (by decide) (@slx _ _ _ _ _ _ _ sS (@slx _ _ _ _ _ _ _ (sV 0) sl0 rfl) rfl)) (@slx _ _ _ _ _ _ _ (sV 2) sl0 rfl) rfl)) sl0 rfl) rfl)) (@slx _ _ _ _ _ _ _ (@sTx _ _ _ _ _ _ _ (by decide) (@slx _ _ _ _ _ _ _ sS (@slx _ _ _ _ _ _ _ (@sLx _ _ _ _ _ _ _ (by decide) (@slx _ _ _ _ _ _ _ (@sTx _ _ _ _ _ _ _ (by decide) (@slx _ _ _ _ _ _ _ sS (@slx _ _ _ _ _ _ _ (sV 0) (@slx _ _ _ _ _ _ _ (sV 1) sl0 rfl) rfl) rfl)) sl0 rfl)) sl0 rfl) rfl)) sl0 rfl) rfl)) rfl rfl rfl rfl rfl rfl)
     (ss1 (ie 4 (@sTx _ _ _ _ _ _ _ (by decide) (@slx _ _ _ _ _ _ _ sS (@slx _ _ _ _ _ _ _ (@sLx _ _ _ _ _ _ _ (by decide) (@slx _ _ _ _ _ _ _ (@sTx _ _ _ _ _ _ _ (by decide) (@slx _ _ _ _ _ _ _ sS (@slx _ _ _ _ _ _ _ (sV 1) (@slx _ _ _ _ _ _ _ (sV 0) sl0 rfl) rfl) rfl)) sl0 rfl)) sl0 rfl) rfl))))) ss0)
    (@ssc _ _ _ _ _ _ _ _ (zIf (aD a (sV 0) (sV 2)) (@ssc _ _ _ _ _ _ _ _ (@zA _ _ _ _ _ _ _ 4 _ _ _ _ S.nd (bK (sV 4) (sC1 [2] [2] [("num",s.heap.objs.size+1)] ["num"] (jG (@sLx _ _ _ _ _ _ _ (by decide) (@slx _ _ _ _ _ _ _ sS (@slx _ _ _ _ _ _ _ sS (@slx _ _ _ _ _ _ _ sS (@slx _ _ _ _ _ _ _ sS (@slx _ _ _ _ _ _ _ sS (@slx _ _ _ _ _ _ _ sS sl0 rfl) rfl) rfl) rfl) rfl) rfl))) (fun _ _ _ _=>(@sTx _ _ _ _ _ _ _ (by decide) (@slx _ _ _ _ _ _ _ (sV 0) (@slx _ _ _ _ _ _ _ (@sLx _ _ _ _ _ _ _ (by decide) (@slx _ _ _ _ _ _ _ (sV 1) (@slx _ _ _ _ _ _ _ (sV 1) sl0 rfl) rfl)) sl0 rfl) rfl))) csc (lB .nil) (frc .nil))) rfl rfl rfl rfl rfl rfl)
     (ss1 (@zA _ _ _ _ _ _ _ 4 _ _ _ _ S.nd (bK (sV 4) (@sLx _ _ _ _ _ _ _ (by decide) (@slx _ _ _ _ _ _ _ (@sTx _ _ _ _ _ _ _ (by decide) (@slx _ _ _ _ _ _ _ sS (@slx _ _ _ _ _ _ _ (@sLx _ _ _ _ _ _ _ (by decide) (@slx _ _ _ _ _ _ _ (sV 3) sl0 rfl)) sl0 rfl) rfl)) (@slx _ _ _ _ _ _ _ (@sTx _ _ _ _ _ _ _ (by decide) (@slx _ _ _ _ _ _ _ sS (@slx _ _ _ _ _ _ _ (@sLx _ _ _ _ _ _ _ (by decide) (@slx _ _ _ _ _ _ _ (sV 3) sl0 rfl)) sl0 rfl) rfl)) (@slx _ _ _ _ _ _ _ (@sTx _ _ _ _ _ _ _ (by decide) (@slx _ _ _ _ _ _ _ sS (@slx _ _ _ _ _ _ _ (@sLx _ _ _ _ _ _ _ (by decide) (@slx _ _ _ _ _ _ _ (@sTx _ _ _ _ _ _ _ (by decide) (@slx _ _ _ _ _ _ _ sS (@slx _ _ _ _ _ _ _ (sV 1) sl0 rfl) rfl)) sl0 rfl)) sl0 rfl) rfl)) sl0 rfl) rfl) rfl))) rfl rfl rfl rfl rfl rfl))) ss0)
    (@ssc _ _ _ _ _ _ _ _ (zIf (aD a (sV 0) (@sTx _ _ _ _ _ _ _ (by decide) (@slx _ _ _ _ _ _ _ sS sl0 rfl))) (@ssc _ _ _ _ _ _ _ _ (@zA _ _ _ _ _ _ _ 4 _ _ _ _ S.nd (bK (sV 4) (@sLx _ _ _ _ _ _ _ (by decide) (@slx _ _ _ _ _ _ _ (@sTx _ _ _ _ _ _ _ (by decide) (@slx _ _ _ _ _ _ _ sS (@slx _ _ _ _ _ _ _ (@sLx _ _ _ _ _ _ _ (by decide) (@slx _ _ _ _ _ _ _ (sV 0) sl0 rfl)) sl0 rfl) rfl)) (@slx _ _ _ _ _ _ _ (@sTx _ _ _ _ _ _ _ (by decide) (@slx _ _ _ _ _ _ _ sS (@slx _ _ _ _ _ _ _ (@sLx _ _ _ _ _ _ _ (by decide) (@slx _ _ _ _ _ _ _ (sV 0) (@slx _ _ _ _ _ _ _ (sV 0) sl0 rfl) rfl)) sl0 rfl) rfl)) (@slx _ _ _ _ _ _ _ (@sTx _ _ _ _ _ _ _ (by decide) (@slx _ _ _ _ _ _ _ sS (@slx _ _ _ _ _ _ _ (@sLx _ _ _ _ _ _ _ (by decide) (@slx _ _ _ _ _ _ _ (sV 0) (@slx _ _ _ _ _ _ _ (sV 0) sl0 rfl) rfl)) sl0 rfl) rfl)) sl0 rfl) rfl) rfl))) rfl rfl rfl rfl rfl rfl)
     (ss1 (@zA _ _ _ _ _ _ _ 4 _ _ _ _ S.nd (bK (sV 4) (@sLx _ _ _ _ _ _ _ (by decide) (@slx _ _ _ _ _ _ _ (@sTx _ _ _ _ _ _ _ (by decide) (@slx _ _ _ _ _ _ _ sS (@slx _ _ _ _ _ _ _ (@sLx _ _ _ _ _ _ _ (by decide) (@slx _ _ _ _ _ _ _ (sV 2) (@slx _ _ _ _ _ _ _ (sV 2) sl0 rfl) rfl)) sl0 rfl) rfl)) (@slx _ _ _ _ _ _ _ (@sTx _ _ _ _ _ _ _ (by decide) (@slx _ _ _ _ _ _ _ sS (@slx _ _ _ _ _ _ _ (@sLx _ _ _ _ _ _ _ (by decide) (@slx _ _ _ _ _ _ _ (sV 2) (@slx _ _ _ _ _ _ _ (sV 2) sl0 rfl) rfl)) sl0 rfl) rfl)) sl0 rfl) rfl))) rfl rfl rfl rfl rfl rfl))) ss0)
    (@ssc _ _ _ _ _ _ _ _ (zIf (aD a (@ai _ _ _ _ _ _ _ _ _ (sV 0) sI (λ_ _=>rfl)) sS) (ss1 (@zA _ _ _ _ _ _ _ 4 _ _ _ _ S.nd (bK (sV 4) (vN (@sLx _ _ _ _ _ _ _ (by decide) (@slx _ _ _ _ _ _ _ (@sTx _ _ _ _ _ _ _ (by decide) (@slx _ _ _ _ _ _ _ sS (@slx _ _ _ _ _ _ _ (tq (hm:=T.list) (ha:=(pw (sV 0) sI))) sl0 rfl) rfl)) sl0 rfl)) sI)) rfl rfl rfl rfl rfl rfl)) ss0)
    (@ssc _ _ _ _ _ _ _ _ (zIf (aD a (@ai _ _ _ _ _ _ _ _ _ (sV 0) sI (λ_ _=>rfl)) sS) (ss1 (@zA _ _ _ _ _ _ _ 4 _ _ _ _ S.nd (bK (sV 4) (@sLx _ _ _ _ _ _ _ (by decide) (@slx _ _ _ _ _ _ _ (@sTx _ _ _ _ _ _ _ (by decide) (@slx _ _ _ _ _ _ _ sS (@slx _ _ _ _ _ _ _ (@sLx _ _ _ _ _ _ _ (by decide) (@slx _ _ _ _ _ _ _ (@ai _ _ _ _ _ _ _ _ _ (sV 0) sI (λ_ _=>rfl)) sl0 rfl)) sl0 rfl) rfl)) (@slx _ _ _ _ _ _ _ (@sTx _ _ _ _ _ _ _ (by decide) (@slx _ _ _ _ _ _ _ sS (@slx _ _ _ _ _ _ _ (@sLx _ _ _ _ _ _ _ (by decide) (@slx _ _ _ _ _ _ _ (sV 0) (@slx _ _ _ _ _ _ _ (sV 0) sl0 rfl) rfl)) sl0 rfl) rfl)) (@slx _ _ _ _ _ _ _ (@sTx _ _ _ _ _ _ _ (by decide) (@slx _ _ _ _ _ _ _ sS (@slx _ _ _ _ _ _ _ (@sLx _ _ _ _ _ _ _ (by decide) (@slx _ _ _ _ _ _ _ (sV 0) (@slx _ _ _ _ _ _ _ (@sTx _ _ _ _ _ _ _ (by decide) (@slx _ _ _ _ _ _ _ sS (@slx _ _ _ _ _ _ _ (@sTx _ _ _ _ _ _ _ (by decide) (@slx _ _ _ _ _ _ _ sS sl0 rfl)) sl0 rfl) rfl)) sl0 rfl) rfl)) sl0 rfl) rfl)) sl0 rfl) rfl) rfl))) rfl rfl rfl rfl rfl rfl)) ss0)
    (@ssc _ _ _ _ _ _ _ _ (zIf (tW (fF (aD a (@ai _ _ _ _ _ _ _ _ _ (sV 0) sI (λ_ _=>rfl)) sS) (wA1 (pJ (ao cs.c377 a (@say _ _ _ _ _ _ _ (sV 0) sa0 rfl rfl)) sI)))) (ss1 (ie 4 (@sTx _ _ _ _ _ _ _ (by decide) (@slx _ _ _ _ _ _ _ sS (@slx _ _ _ _ _ _ _ (@sLx _ _ _ _ _ _ _ (by decide) (@slx _ _ _ _ _ _ _ (@sTx _ _ _ _ _ _ _ (by decide) (@slx _ _ _ _ _ _ _ sS (@slx _ _ _ _ _ _ _ (sV 0) sl0 rfl) rfl)) sl0 rfl)) sl0 rfl) rfl)))) ss0)
    (@ssc _ _ _ _ _ _ _ _ (zIf (aD a (sV 0) (sV 3)) (ss1 (@zA _ _ _ _ _ _ _ 4 _ _ _ _ S.nd (bK (sV 4) (@sLx _ _ _ _ _ _ _ (by decide) (@slx _ _ _ _ _ _ _ (@sTx _ _ _ _ _ _ _ (by decide) (@slx _ _ _ _ _ _ _ sS (@slx _ _ _ _ _ _ _ (@sLx _ _ _ _ _ _ _ (by decide) (@slx _ _ _ _ _ _ _ (sV 3) sl0 rfl)) sl0 rfl) rfl)) (@slx _ _ _ _ _ _ _ (@sTx _ _ _ _ _ _ _ (by decide) (@slx _ _ _ _ _ _ _ sS (@slx _ _ _ _ _ _ _ (@sLx _ _ _ _ _ _ _ (by decide) (@slx _ _ _ _ _ _ _ (sV 2) sl0 rfl)) sl0 rfl) rfl)) (@slx _ _ _ _ _ _ _ (@sTx _ _ _ _ _ _ _ (by decide) (@slx _ _ _ _ _ _ _ sS (@slx _ _ _ _ _ _ _ (@sLx _ _ _ _ _ _ _ (by decide) (@slx _ _ _ _ _ _ _ (sV 2) sl0 rfl)) sl0 rfl) rfl)) sl0 rfl) rfl) rfl))) rfl rfl rfl rfl rfl rfl)) ss0)
    (@ssc _ _ _ _ _ _ _ _ (zIf (tW (fF (aD a (@ai _ _ _ _ _ _ _ _ _ (sV 0) sI (λ_ _=>rfl)) sS) (wA1 (aD a (@ai _ _ _ _ _ _ _ _ _ (@ai _ _ _ _ _ _ _ _ _ (sV 0) sI (λ_ _=>rfl)) sI (λ_ _=>rfl)) sS)))) (ss1 (@zA _ _ _ _ _ _ _ 4 _ _ _ _ S.nd (bK (sV 4) (@sLx _ _ _ _ _ _ _ (by decide) (@slx _ _ _ _ _ _ _ (@sTx _ _ _ _ _ _ _ (by decide) (@slx _ _ _ _ _ _ _ sS (@slx _ _ _ _ _ _ _ (@sLx _ _ _ _ _ _ _ (by decide) (@slx _ _ _ _ _ _ _ (@ai _ _ _ _ _ _ _ _ _ (sV 0) sI (λ_ _=>rfl)) (@slx _ _ _ _ _ _ _ (sV 3) sl0 rfl) rfl)) sl0 rfl) rfl)) (@slx _ _ _ _ _ _ _ (@sTx _ _ _ _ _ _ _ (by decide) (@slx _ _ _ _ _ _ _ sS (@slx _ _ _ _ _ _ _ (@sLx _ _ _ _ _ _ _ (by decide) (@slx _ _ _ _ _ _ _ (@ai _ _ _ _ _ _ _ _ _ (sV 0) sI (λ_ _=>rfl)) (@slx _ _ _ _ _ _ _ (sV 3) sl0 rfl) rfl)) sl0 rfl) rfl)) sl0 rfl) rfl))) rfl rfl rfl rfl rfl rfl)) ss0)
    (ss1 (ax (sM 4))))))))))))))
theorem EL:au ["state","kind","names","left","cell","other","name","test","one","many"] ["state","kind","names","left","cell","other"] (defScope vB):=fsc
theorem HY:DD "_law_binder" vB ["state","kind","names","left","cell","other","name","test","one","many"] f_law_binder:=λ{_ _ _ _ _ _ _ _ _ _ _ s _ _} cs T G a=>
 have S:=EL
 (@ssc _ _ _ _ _ _ _ _ (@zA _ _ _ _ _ _ _ 6 _ _ _ _ S.nd (ao cs.c376 a (sai 0 (sai 2 (@say _ _ _ _ _ _ _ (bp (sV 4) sI) sa0 rfl rfl)))) rfl rfl rfl rfl rfl rfl)
    (@ssc _ _ _ _ _ _ _ _ (zIf (aD a (bh (sV 4) sI) sI) (@ssc _ _ _ _ _ _ _ _ (@zA _ _ _ _ _ _ _ 7 _ _ _ _ S.nd (ao cs.c382 a (sai 0 (@say _ _ _ _ _ _ _ (@sTx _ _ _ _ _ _ _ (by decide) (@slx _ _ _ _ _ _ _ sS sl0 rfl)) (@say _ _ _ _ _ _ _ (sV 2) (@say _ _ _ _ _ _ _ (sV 3) sa0 rfl rfl) rfl rfl) rfl rfl))) rfl rfl rfl rfl rfl rfl)
     (@ssc _ _ _ _ _ _ _ _ (@zA _ _ _ _ _ _ _ 8 _ _ _ _ S.nd (ao cs.c382 a (sai 0 (@say _ _ _ _ _ _ _ (sV 1) (@say _ _ _ _ _ _ _ (sV 2) (@say _ _ _ _ _ _ _ (sV 3) sa0 rfl rfl) rfl rfl) rfl rfl))) rfl rfl rfl rfl rfl rfl)
     (ss1 (ax (@sTx _ _ _ _ _ _ _ (by decide) (@slx _ _ _ _ _ _ _ sS (@slx _ _ _ _ _ _ _ (sM 7) (@slx _ _ _ _ _ _ _ (sM 8) (@slx _ _ _ _ _ _ _ (ao cs.c382 a (sai 0 (@say _ _ _ _ _ _ _ (sM 1) (@say _ _ _ _ _ _ _ (sM 2) (@say _ _ _ _ _ _ _ (sM 3) sa0 rfl rfl) rfl rfl) rfl rfl))) sl0 rfl) rfl) rfl) rfl)))))) ss0)
    (@ssc _ _ _ _ _ _ _ _ (zIf (aD a (bh (sV 4) sI) sI) (@ssc _ _ _ _ _ _ _ _ (@zA _ _ _ _ _ _ _ 8 _ _ _ _ S.nd (ao cs.c382 a (sai 0 (@say _ _ _ _ _ _ _ (sV 5) (@say _ _ _ _ _ _ _ (sV 2) (@say _ _ _ _ _ _ _ (sV 3) sa0 rfl rfl) rfl rfl) rfl rfl))) rfl rfl rfl rfl rfl rfl)
     (ss1 (ax (@sTx _ _ _ _ _ _ _ (by decide) (@slx _ _ _ _ _ _ _ sS (@slx _ _ _ _ _ _ _ (sV 6) (@slx _ _ _ _ _ _ _ (sM 8) (@slx _ _ _ _ _ _ _ (ao cs.c382 a (sai 0 (@say _ _ _ _ _ _ _ (sM 1) (@say _ _ _ _ _ _ _ (bK (sM 2) (@sLx _ _ _ _ _ _ _ (by decide) (@slx _ _ _ _ _ _ _ (@sTx _ _ _ _ _ _ _ (by decide) (@slx _ _ _ _ _ _ _ (sV 6) (@slx _ _ _ _ _ _ _ (sM 5) sl0 rfl) rfl)) sl0 rfl))) (@say _ _ _ _ _ _ _ (sM 3) sa0 rfl rfl) rfl rfl) rfl rfl))) sl0 rfl) rfl) rfl) rfl))))) ss0)
    (@ssc _ _ _ _ _ _ _ _ (zIf (tW (fF (aD a (@ai _ _ _ _ _ _ _ _ _ (sV 1) sI (fun _ _=>rfl)) sS) (wA1 (fV (bh (bp (sV 4) sI) sI) sI)))) (@ssc _ _ _ _ _ _ _ _ (@zA _ _ _ _ _ _ _ 8 _ _ _ _ S.nd (ao cs.c382 a (sai 0 (@say _ _ _ _ _ _ _ (@sTx _ _ _ _ _ _ _ (by decide) (@slx _ _ _ _ _ _ _ sS (@slx _ _ _ _ _ _ _ (sV 5) sl0 rfl) rfl)) (@say _ _ _ _ _ _ _ (sV 2) (@say _ _ _ _ _ _ _ (sV 3) sa0 rfl rfl) rfl rfl) rfl rfl))) rfl rfl rfl rfl rfl rfl)
     (ss1 (ax (@sTx _ _ _ _ _ _ _ (by decide) (@slx _ _ _ _ _ _ _ sS (@slx _ _ _ _ _ _ _ (sV 6) (@slx _ _ _ _ _ _ _ (sM 8) (@slx _ _ _ _ _ _ _ (ao cs.c382 a (sai 0 (@say _ _ _ _ _ _ _ (@ai _ _ _ _ _ _ _ _ _ (sM 1) sI (λ_ _=>rfl)) (@say _ _ _ _ _ _ _ (bK (sM 2) (@sLx _ _ _ _ _ _ _ (by decide) (@slx _ _ _ _ _ _ _ (@sTx _ _ _ _ _ _ _ (by decide) (@slx _ _ _ _ _ _ _ (sV 6) (@slx _ _ _ _ _ _ _ (sM 5) sl0 rfl) rfl)) sl0 rfl))) (@say _ _ _ _ _ _ _ (sM 3) sa0 rfl rfl) rfl rfl) rfl rfl))) sl0 rfl) rfl) rfl) rfl))))) ss0)
    (@ssc _ _ _ _ _ _ _ _ (@zA _ _ _ _ _ _ _ 9 _ _ _ _ S.nd (@sTx _ _ _ _ _ _ _ (by decide) (@slx _ _ _ _ _ _ _ sS (@slx _ _ _ _ _ _ _ (bh (bp (sV 4) sI) sI) sl0 rfl) rfl)) rfl rfl rfl rfl rfl rfl)
    (@ssc _ _ _ _ _ _ _ _ (zIf (aD a (bh (bp (sV 4) sI) sI) sI) (ss1 (@zA _ _ _ _ _ _ _ 9 _ _ _ _ S.nd (ao cs.c382 a (sai 0 (@say _ _ _ _ _ _ _ (@sTx _ _ _ _ _ _ _ (by decide) (@slx _ _ _ _ _ _ _ sS sl0 rfl)) (@say _ _ _ _ _ _ _ (sV 2) (@say _ _ _ _ _ _ _ (FU (hm:=T.min) (ha:=sI) (hb:=(sV 3))) sa0 rfl rfl) rfl rfl) rfl rfl))) rfl rfl rfl rfl rfl rfl)) ss0)
    (@ssc _ _ _ _ _ _ _ _ (@zA _ _ _ _ _ _ _ 8 _ _ _ _ S.nd (ao cs.c382 a (sai 0 (@say _ _ _ _ _ _ _ (sV 1) (@say _ _ _ _ _ _ _ (sV 2) (@say _ _ _ _ _ _ _ (sV 3) sa0 rfl rfl) rfl rfl) rfl rfl))) rfl rfl rfl rfl rfl rfl)
    (ss1 (ax (@sTx _ _ _ _ _ _ _ (by decide) (@slx _ _ _ _ _ _ _ sS (@slx _ _ _ _ _ _ _ (sV 6) (@slx _ _ _ _ _ _ _ (sM 9) (@slx _ _ _ _ _ _ _ (sM 8) (@slx _ _ _ _ _ _ _ (ao cs.c382 a (sai 0 (@say _ _ _ _ _ _ _ (sV 1) (@say _ _ _ _ _ _ _ (bK (sM 2) (@sLx _ _ _ _ _ _ _ (by decide) (@slx _ _ _ _ _ _ _ (@sTx _ _ _ _ _ _ _ (by decide) (@slx _ _ _ _ _ _ _ (sV 6) (@slx _ _ _ _ _ _ _ (sV 1) sl0 rfl) rfl)) sl0 rfl))) (@say _ _ _ _ _ _ _ (sM 3) sa0 rfl rfl) rfl rfl) rfl rfl))) sl0 rfl) rfl) rfl) rfl) rfl)))))))))))
theorem Gs:au ["state","kind","names","left","cell","rest","other","some","sign","kinds","made","one"] ["state","kind","names","left"] (defScope r9):=fsc
theorem HQ:DD "_law_tree" r9 ["state","kind","names","left","cell","rest","other","some","sign","kinds","made","one"] f_law_tree:=λ{_ _ _ _ _ _ _ _ _ _ _ s _ _} cs T G a=>
 have S:=Gs
 (@ssc _ _ _ _ _ _ _ _ (@zA _ _ _ _ _ _ _ 4 _ _ _ _ S.nd (ao cs.c375 a (sai 0 sa0)) rfl rfl rfl rfl rfl rfl)
    (@ssc _ _ _ _ _ _ _ _ (zIf (tW (wOr (aD a (sV 3) sI) (wOr (aD a (bh (sV 4) sI) sI) (wO1 (fV (dq a (sV 0) sS) sI))))) (ss1 (ax (ao cs.c379 a (@say _ _ _ _ _ _ _ (sM 1) (@say _ _ _ _ _ _ _ (sM 2) (@say _ _ _ _ _ _ _ (bp (sM 4) sI) sa0 rfl rfl) rfl rfl) rfl rfl)))) ss0)
    (@ssc _ _ _ _ _ _ _ _ (@zA _ _ _ _ _ _ _ 5 _ _ _ _ S.nd (bp (sV 4) sI) rfl rfl rfl rfl rfl rfl)
    (@ssc _ _ _ _ _ _ _ _ (@zA _ _ _ _ _ _ _ 6 _ _ _ _ S.nd (ao cs.c171 a (@say _ _ _ _ _ _ _ (bh (bp (sV 5) sI) sI) (@say _ _ _ _ _ _ _ sI sa0 rfl rfl) rfl rfl)) rfl rfl rfl rfl rfl rfl)
    (@ssc _ _ _ _ _ _ _ _ (zIf (tW (wOr (pJ (bh (sV 5) sI) sI) (wOr (tW (fF (pJ (bh (sV 5) sI) sI) (wA1 (aD a (@ai _ _ _ _ _ _ _ _ _ (sV 1) sI (λ_ _=>rfl)) sS)))) (wO1 (tW (fF (aD a (bh (sV 5) sI) sI) (wA1 (aD a (bh (bp (sV 5) sI) sI) sI)))))))) (ss1 (ax (ao cs.c381 a (sai 0 (@say _ _ _ _ _ _ _ (sM 1) (@say _ _ _ _ _ _ _ (sM 2) (@say _ _ _ _ _ _ _ (hX (sM 3) sI) (@say _ _ _ _ _ _ _ (sM 5) (@say _ _ _ _ _ _ _ (sM 6) sa0 rfl rfl) rfl rfl) rfl rfl) rfl rfl) rfl rfl))))) ss0)
    (@ssc _ _ _ _ _ _ _ _ (@zA _ _ _ _ _ _ _ 7 _ _ _ _ S.nd (ao cs.c380 a (@say _ _ _ _ _ _ _ (sV 1) (@say _ _ _ _ _ _ _ (sV 6) sa0 rfl rfl) rfl rfl)) rfl rfl rfl rfl rfl rfl)
    (@ssc _ _ _ _ _ _ _ _ (GV 8 9 S.nd (@ai _ _ _ _ _ _ _ _ _ (sV 7) (bh (bp (sV 5) sI) (ER 7 T.len)) (λ_ _=>rfl)))
    (@ssc _ _ _ _ _ _ _ _ (zIf (tW (fF (aD a (sV 8) sS) (wA1 (fV (bh (bp (sV 5) sI) sI) sI)))) (ss1 (ax (@sTx _ _ _ _ _ _ _ (by decide) (@slx _ _ _ _ _ _ _ (sM 8) (@slx _ _ _ _ _ _ _ (@sTx _ _ _ _ _ _ _ (by decide) (@slx _ _ _ _ _ _ _ sS (@slx _ _ _ _ _ _ _ (ao cs.c378 a (@say _ _ _ _ _ _ _ (bp (sM 5) sI) sa0 rfl rfl)) sl0 rfl) rfl)) sl0 rfl) rfl)))) ss0)
    (@ssc _ _ _ _ _ _ _ _ (@zA _ _ _ _ _ _ _ 10 _ _ _ _ S.nd (@sTx _ _ _ _ _ _ _ (by decide) (@slx _ _ _ _ _ _ _ (sV 8) sl0 rfl)) rfl rfl rfl rfl rfl rfl)
    (@ssc _ _ _ _ _ _ _ _ (k7 11 S.nd (jG (sV 9)) (ss1 (@zA _ _ _ _ _ _ _ 10 _ _ _ _ S.nd (t4 (sV 10) (@sTx _ _ _ _ _ _ _ (by decide) (@slx _ _ _ _ _ _ _ (ao cs.c382 a (sai 0 (@say _ _ _ _ _ _ _ (sV 11) (@say _ _ _ _ _ _ _ (sV 2) (@say _ _ _ _ _ _ _ (hX (sV 3) sI) sa0 rfl rfl) rfl rfl) rfl rfl))) sl0 rfl))) rfl rfl rfl rfl rfl rfl)))
    (ss1 (ax (sM 10)))))))))))))
theorem Ez:au ["tree"] ["tree"] (defScope tG):=fsc
theorem Jb:DD "_law_start" tG ["tree"] bA:=λ{_ _ _ _ _ _ _ _ _ _ _ s _ _} cs T G a=>
 have S:=Ez
 (@ssc _ _ _ _ _ _ _ _ (zIf (dm (@ai _ _ _ _ _ _ _ _ _ (sV 0) sI (λ_ _=>rfl)) (@sTx _ _ _ _ _ _ _ (by decide) (@slx _ _ _ _ _ _ _ sS (@slx _ _ _ _ _ _ _ sS (@slx _ _ _ _ _ _ _ sS sl0 rfl) rfl) rfl))) (ss1 (ax (iq (hm:=T.len) (ha:=(sM 0))))) ss0)
    (ss1 (ax (bK sI (Ce (hm:=T.int) (ha:=(zt (@ai _ _ _ _ _ _ _ _ _ (sM 0) sI (λ_ _=>rfl)) (@sTx _ _ _ _ _ _ _ (by decide) (@slx _ _ _ _ _ _ _ sS (@slx _ _ _ _ _ _ _ sS (@slx _ _ _ _ _ _ _ sS sl0 rfl) rfl) rfl)))))))))
theorem Ht:au ["tree"] ["tree"] (defScope t9):=fsc
theorem Jc:DD "_law_many" t9 ["tree"] cj:=λ{_ _ _ _ _ _ _ _ _ _ _ s _ _} cs T G a=>
 have S:=Ht
 (ss1 (ax (bK sI (I0 (hm:=T.sum) (ha:=(sC1 [] [] [] [] (jG (pw (sV 0) (ao cs.c244 a (@say _ _ _ _ _ _ _ (sV 0) sa0 rfl rfl)))) (λ_ _ _ _=>(ao cs.c245 a (@say _ _ _ _ _ _ _ (sV 0) sa0 rfl rfl))) csc .nil .nil))))))
theorem Fh:au ["state","kind","left","cell"] ["state","kind","left"] (defScope sZ):=fsc
theorem Jq:DD "_law_worth" sZ ["state","kind","left","cell"] aV:=λ{_ _ _ _ _ _ _ _ _ _ _ s _ _} cs T G a=>
 have S:=Fh
 (@ssc _ _ _ _ _ _ _ _ (@zA _ _ _ _ _ _ _ 3 _ _ _ _ S.nd (ao cs.c375 a (sai 0 sa0)) rfl rfl rfl rfl rfl rfl)
    (@ssc _ _ _ _ _ _ _ _ (zIf (aD a (@ai _ _ _ _ _ _ _ _ _ (sV 1) sI (λ_ _=>rfl)) sS) (ss1 (ax (vN (ao cs.c378 a (@say _ _ _ _ _ _ _ (bp (sV 3) sI) sa0 rfl rfl)) (@ai _ _ _ _ _ _ _ _ _ (@sLx _ _ _ _ _ _ _ (by decide) (@slx _ _ _ _ _ _ _ sI (@slx _ _ _ _ _ _ _ (Dk sI) sl0 rfl) rfl)) (bh (sV 3) sI) (λ_ _=>rfl))))) ss0)
    (@ssc _ _ _ _ _ _ _ _ (zIf (aD a (@ai _ _ _ _ _ _ _ _ _ (sV 1) sI (λ_ _=>rfl)) sS) (ss1 (ax (sEq a (bh (sM 3) sI) sI))) ss0)
    (@ssc _ _ _ _ _ _ _ _ (zIf (aD a (@ai _ _ _ _ _ _ _ _ _ (sV 1) sI (λ_ _=>rfl)) sS) (ss1 (ax (@sTx _ _ _ _ _ _ _ (by decide) (@slx _ _ _ _ _ _ _ (ao cs.c383 a (sai 0 (@say _ _ _ _ _ _ _ (@ai _ _ _ _ _ _ _ _ _ (sV 1) sI (λ_ _=>rfl)) (@say _ _ _ _ _ _ _ (sV 2) sa0 rfl rfl) rfl rfl))) (@slx _ _ _ _ _ _ _ (ao cs.c383 a (sai 0 (@say _ _ _ _ _ _ _ (@ai _ _ _ _ _ _ _ _ _ (sV 1) sI (λ_ _=>rfl)) (@say _ _ _ _ _ _ _ (sV 2) sa0 rfl rfl) rfl rfl))) sl0 rfl) rfl)))) ss0)
    (ss1 (ax (sC1 [1,2,0] [1,2,0] [("state",s.heap.objs.size+1),("left",s.heap.objs.size+3),("kind",s.heap.objs.size+2)] ["kind","left","state"] (CB (hm:=T.range) (ha:=(bh (sM 3) (@ai _ _ _ _ _ _ _ _ _ (@sLx _ _ _ _ _ _ _ (by decide) (@slx _ _ _ _ _ _ _ sI (@slx _ _ _ _ _ _ _ sI (@slx _ _ _ _ _ _ _ sI sl0 rfl) rfl) rfl)) (Ig (hm:=T.max) (ha:=sI) (hb:=(FU (hm:=T.min) (ha:=sI) (hb:=(sV 2))))) (λ_ _=>rfl))))) (λ_ _ _ _=>(ao cs.c383 a (sai 3 (@say _ _ _ _ _ _ _ (@ai _ _ _ _ _ _ _ _ _ (sV 1) sI (λ_ _=>rfl)) (@say _ _ _ _ _ _ _ (hX (sV 2) sI) sa0 rfl rfl) rfl rfl)))) csc (lB (lB (lB .nil))) (frc (frc (frc .nil))))))))))
theorem Hs:au ["state","deep","cell","names","k","kind","worths","tree"] ["state","deep"] (defScope sY):=fsc
theorem IV:DD "_law_program" sY ["state","deep","cell","names","k","kind","worths","tree"] f_law_program:=λ{_ _ _ _ _ _ _ _ _ _ _ s _ _} cs T G a=>
 have S:=Hs
 (@ssc _ _ _ _ _ _ _ _ (@zA _ _ _ _ _ _ _ 2 _ _ _ _ S.nd (ao cs.c375 a (sai 0 sa0)) rfl rfl rfl rfl rfl rfl)
    (@ssc _ _ _ _ _ _ _ _ (@zA _ _ _ _ _ _ _ 3 _ _ _ _ S.nd (@sLx _ _ _ _ _ _ _ (by decide) sl0) rfl rfl rfl rfl rfl rfl)
    (@ssc _ _ _ _ _ _ _ _ (k7 4 S.nd (CB (hm:=T.range) (ha:=(sIf (fV (bh (bp (sV 2) sI) sI) sI) (bh (sV 2) sI) (bh (bp (sV 2) sI) sI)))) (@ssc _ _ _ _ _ _ _ _ (@zA _ _ _ _ _ _ _ 5 _ _ _ _ S.nd (ao cs.c171 a (@say _ _ _ _ _ _ _ (bh (bp (sV 2) (bK sI (vN sI (sV 4)))) sI) (@say _ _ _ _ _ _ _ sI sa0 rfl rfl) rfl rfl)) rfl rfl rfl rfl rfl rfl)
     (ss1 (ie 3 (@sTx _ _ _ _ _ _ _ (by decide) (@slx _ _ _ _ _ _ _ (ao cs.c376 a (sai 0 (sai 3 (@say _ _ _ _ _ _ _ (bK (bp (sV 2) sI) (sV 4)) sa0 rfl rfl)))) (@slx _ _ _ _ _ _ _ (sV 5) sl0 rfl) rfl))))))
    (@ssc _ _ _ _ _ _ _ _ (@zA _ _ _ _ _ _ _ 5 _ _ _ _ S.nd (ao cs.c171 a (@say _ _ _ _ _ _ _ (bp (sV 2) sI) (@say _ _ _ _ _ _ _ sI sa0 rfl rfl) rfl rfl)) rfl rfl rfl rfl rfl rfl)
    (@ssc _ _ _ _ _ _ _ _ (zC2 6 [0] [0] [("state",s.heap.objs.size+1)] ["state"] (zw (sV 3)) (λ_ _ _ _=>(ao cs.c383 a (sai 2 (@say _ _ _ _ _ _ _ (sV 1) (@say _ _ _ _ _ _ _ sI sa0 rfl rfl) rfl rfl)))) csc (lB .nil) (frc .nil) S.nd)
    (@ssc _ _ _ _ _ _ _ _ (@zA _ _ _ _ _ _ _ 7 _ _ _ _ S.nd (ao cs.c382 a (sai 0 (@say _ _ _ _ _ _ _ (sV 5) (@say _ _ _ _ _ _ _ (sV 3) (@say _ _ _ _ _ _ _ (sV 1) sa0 rfl rfl) rfl rfl) rfl rfl))) rfl rfl rfl rfl rfl rfl)
    (@ssc _ _ _ _ _ _ _ _ (zIf (fV (ao cs.c245 a (@say _ _ _ _ _ _ _ (sV 7) sa0 rfl rfl)) sI) (ss1 (@zA _ _ _ _ _ _ _ 7 _ _ _ _ S.nd (ao cs.c379 a (@say _ _ _ _ _ _ _ (sV 5) (@say _ _ _ _ _ _ _ (sV 3) (@say _ _ _ _ _ _ _ (sV 2) sa0 rfl rfl) rfl rfl) rfl rfl)) rfl rfl rfl rfl rfl rfl)) ss0)
    (ss1 (ax (@sTx _ _ _ _ _ _ _ (by decide) (@slx _ _ _ _ _ _ _ (@sTx _ _ _ _ _ _ _ (by decide) (@slx _ _ _ _ _ _ _ (va (hm:=T.tup) (ha:=(sM 3))) (@slx _ _ _ _ _ _ _ (sM 7) sl0 rfl) rfl)) (@slx _ _ _ _ _ _ _ (sM 6) (@slx _ _ _ _ _ _ _ (sM 5) sl0 rfl) rfl) rfl)))))))))))
theorem FI:au ["tree","kinds","num","truth","sign","due"] ["tree","kinds"] (defScope tK):=fsc
theorem HG:DD "_law_kind_by" tK ["tree","kinds","num","truth","sign","due"] f_law_kind_by:=λ{_ _ _ _ _ _ _ _ _ _ _ s _ _} cs T G a=>
 have S:=FI
 (@ssc _ _ _ _ _ _ _ _ (@zA _ _ _ _ _ _ _ 2 _ _ _ _ S.nd (@sTx _ _ _ _ _ _ _ (by decide) (@slx _ _ _ _ _ _ _ sS sl0 rfl)) rfl rfl rfl rfl rfl rfl)
    (@ssc _ _ _ _ _ _ _ _ (@zA _ _ _ _ _ _ _ 3 _ _ _ _ S.nd (@sTx _ _ _ _ _ _ _ (by decide) (@slx _ _ _ _ _ _ _ sS sl0 rfl)) rfl rfl rfl rfl rfl rfl)
    (@ssc _ _ _ _ _ _ _ _ (@zA _ _ _ _ _ _ _ 4 _ _ _ _ S.nd (@ai _ _ _ _ _ _ _ _ _ (sV 0) sI (λ_ _=>rfl)) rfl rfl rfl rfl rfl rfl)
    (@ssc _ _ _ _ _ _ _ _ (zIf (dm (sV 4) (@sTx _ _ _ _ _ _ _ (by decide) (@slx _ _ _ _ _ _ _ sS (@slx _ _ _ _ _ _ _ sS (@slx _ _ _ _ _ _ _ sS (@slx _ _ _ _ _ _ _ sS (@slx _ _ _ _ _ _ _ sS sl0 rfl) rfl) rfl) rfl) rfl))) (ss1 (ax (sIf (aD a (sM 1) (@sLx _ _ _ _ _ _ _ (by decide) (@slx _ _ _ _ _ _ _ (sV 2) (@slx _ _ _ _ _ _ _ (sV 2) sl0 rfl) rfl))) (sV 2) sN))) ss0)
    (@ssc _ _ _ _ _ _ _ _ (zIf (dm (sV 4) (@sTx _ _ _ _ _ _ _ (by decide) (@slx _ _ _ _ _ _ _ sS (@slx _ _ _ _ _ _ _ sS (@slx _ _ _ _ _ _ _ sS (@slx _ _ _ _ _ _ _ sS (@slx _ _ _ _ _ _ _ sS sl0 rfl) rfl) rfl) rfl) rfl))) (@ssc _ _ _ _ _ _ _ _ (@zA _ _ _ _ _ _ _ 5 _ _ _ _ S.nd (Gy a (sW (zL (pf (@sLx _ _ _ _ _ _ _ (by decide) (@slx _ _ _ _ _ _ _ (sV 2) (@slx _ _ _ _ _ _ _ (sV 2) sl0 rfl) rfl)) (pf (@sLx _ _ _ _ _ _ _ (by decide) (@slx _ _ _ _ _ _ _ (sV 3) (@slx _ _ _ _ _ _ _ (sV 3) sl0 rfl) rfl)) (pf (@sLx _ _ _ _ _ _ _ (by decide) (@slx _ _ _ _ _ _ _ (sV 3) sl0 rfl)) Gr))))) (sV 4) (sW (@sLx _ _ _ _ _ _ _ (by decide) sl0))) rfl rfl rfl rfl rfl rfl)
     (ss1 (ax (sIf (aD a (sM 1) (sM 5)) (sM 3) sN)))) ss0)
    (@ssc _ _ _ _ _ _ _ _ (zIf (aD a (sV 4) sS) (ss1 (ax (sIf (AD a (sM 1) (@sTx _ _ _ _ _ _ _ (by decide) (@slx _ _ _ _ _ _ _ (@sLx _ _ _ _ _ _ _ (by decide) (@slx _ _ _ _ _ _ _ (sV 2) (@slx _ _ _ _ _ _ _ (sV 2) sl0 rfl) rfl)) (@slx _ _ _ _ _ _ _ (@sLx _ _ _ _ _ _ _ (by decide) (@slx _ _ _ _ _ _ _ (sV 3) (@slx _ _ _ _ _ _ _ (sV 3) sl0 rfl) rfl)) sl0 rfl) rfl))) (sV 3) sN))) ss0)
    (@ssc _ _ _ _ _ _ _ _ (zIf (dm (sV 4) (@sTx _ _ _ _ _ _ _ (by decide) (@slx _ _ _ _ _ _ _ sS (@slx _ _ _ _ _ _ _ sS sl0 rfl) rfl))) (ss1 (ax (sIf (aD a (sM 4) sS) (sM 2) (@sTx _ _ _ _ _ _ _ (by decide) (@slx _ _ _ _ _ _ _ sS (@slx _ _ _ _ _ _ _ (@ai _ _ _ _ _ _ _ _ _ (sM 0) sI (λ_ _=>rfl)) sl0 rfl) rfl))))) ss0)
    (@ssc _ _ _ _ _ _ _ _ (zIf (dm (sV 4) (@sTx _ _ _ _ _ _ _ (by decide) (@slx _ _ _ _ _ _ _ sS (@slx _ _ _ _ _ _ _ sS sl0 rfl) rfl))) (ss1 (ax (sIf (aD a (sM 4) sS) (@sTx _ _ _ _ _ _ _ (by decide) (@slx _ _ _ _ _ _ _ sS (@slx _ _ _ _ _ _ _ (@ai _ _ _ _ _ _ _ _ _ (sV 1) sI (λ_ _=>rfl)) sl0 rfl) rfl)) (@sTx _ _ _ _ _ _ _ (by decide) (@slx _ _ _ _ _ _ _ sS (@slx _ _ _ _ _ _ _ (@ai _ _ _ _ _ _ _ _ _ (sV 1) sI (λ_ _=>rfl)) (@slx _ _ _ _ _ _ _ (@ai _ _ _ _ _ _ _ _ _ (sV 1) sI (λ_ _=>rfl)) sl0 rfl) rfl) rfl))))) ss0)
    (@ssc _ _ _ _ _ _ _ _ (zIf (dm (sV 4) (@sTx _ _ _ _ _ _ _ (by decide) (@slx _ _ _ _ _ _ _ sS (@slx _ _ _ _ _ _ _ sS sl0 rfl) rfl))) (ss1 (ax (sIf (aD a (@ai _ _ _ _ _ _ _ _ _ (@ai _ _ _ _ _ _ _ _ _ (sV 1) sI (λ_ _=>rfl)) sI (λ_ _=>rfl)) sS) (@ai _ _ _ _ _ _ _ _ _ (@ai _ _ _ _ _ _ _ _ _ (sV 1) sI (λ_ _=>rfl)) (bK sI (Ce (hm:=T.int) (ha:=(sEq a (sM 4) sS)))) (λ_ _=>rfl)) sN))) ss0)
    (@ssc _ _ _ _ _ _ _ _ (zIf (aD a (sV 4) sS) (ss1 (ax (sIf (tW (fF (aD a (@ai _ _ _ _ _ _ _ _ _ (sV 1) sI (λ_ _=>rfl)) (sM 3)) (wA1 (aD a (@ai _ _ _ _ _ _ _ _ _ (sV 1) sI (λ_ _=>rfl)) (@ai _ _ _ _ _ _ _ _ _ (sV 1) sI (λ_ _=>rfl)))))) (@ai _ _ _ _ _ _ _ _ _ (sV 1) sI (λ_ _=>rfl)) sN))) ss0)
    (@ssc _ _ _ _ _ _ _ _ (zIf (aD a (sV 4) sS) (ss1 (ax (sIf (aD a (@ai _ _ _ _ _ _ _ _ _ (sM 1) sI (λ_ _=>rfl)) (sV 2)) (@sTx _ _ _ _ _ _ _ (by decide) (@slx _ _ _ _ _ _ _ sS (@slx _ _ _ _ _ _ _ (sV 2) sl0 rfl) rfl)) sN))) ss0)
    (@ssc _ _ _ _ _ _ _ _ (zIf (jU a (@ai _ _ _ _ _ _ _ _ _ (@ai _ _ _ _ _ _ _ _ _ (sV 1) sI (λ_ _=>rfl)) sI (λ_ _=>rfl)) sS) (ss1 (ax sN)) ss0)
    (@ssc _ _ _ _ _ _ _ _ (zIf (aD a (sV 4) sS) (ss1 (ax (sIf (aD a (@ai _ _ _ _ _ _ _ _ _ (@ai _ _ _ _ _ _ _ _ _ (@ai _ _ _ _ _ _ _ _ _ (sV 1) sI (λ_ _=>rfl)) sI (λ_ _=>rfl)) sI (λ_ _=>rfl)) sS) (@ai _ _ _ _ _ _ _ _ _ (@ai _ _ _ _ _ _ _ _ _ (sV 1) sI (λ_ _=>rfl)) sI (λ_ _=>rfl)) sN))) ss0)
    (@ssc _ _ _ _ _ _ _ _ (zIf (dm (sV 4) (@sTx _ _ _ _ _ _ _ (by decide) (@slx _ _ _ _ _ _ _ sS (@slx _ _ _ _ _ _ _ sS (@slx _ _ _ _ _ _ _ sS sl0 rfl) rfl) rfl))) (ss1 (ax (sIf (jU a (@ai _ _ _ _ _ _ _ _ _ (@ai _ _ _ _ _ _ _ _ _ (sV 1) sI (λ_ _=>rfl)) sI (λ_ _=>rfl)) (sV 2)) sN (sIf (aD a (sM 4) sS) (@ai _ _ _ _ _ _ _ _ _ (sV 1) sI (λ_ _=>rfl)) (sV 2))))) ss0)
    (@ssc _ _ _ _ _ _ _ _ (zIf (aD a (sV 4) sS) (ss1 (ax (sM 2))) ss0)
    (@ssc _ _ _ _ _ _ _ _ (zIf (aD a (sV 4) sS) (ss1 (ax (sIf (aD a (@ai _ _ _ _ _ _ _ _ _ (sV 1) sI (λ_ _=>rfl)) (@ai _ _ _ _ _ _ _ _ _ (sV 1) sI (λ_ _=>rfl))) (@ai _ _ _ _ _ _ _ _ _ (sV 1) sI (λ_ _=>rfl)) sN))) ss0)
    (@ssc _ _ _ _ _ _ _ _ (zIf (aD a (sV 4) sS) (ss1 (ax (sIf (aD a (@ai _ _ _ _ _ _ _ _ _ (sV 1) sI (λ_ _=>rfl)) (@sTx _ _ _ _ _ _ _ (by decide) (@slx _ _ _ _ _ _ _ sS (@slx _ _ _ _ _ _ _ (sM 3) sl0 rfl) rfl))) (@ai _ _ _ _ _ _ _ _ _ (sV 1) sI (λ_ _=>rfl)) sN))) ss0)
    (@ssc _ _ _ _ _ _ _ _ (zIf (aD a (sV 4) sS) (ss1 (ax (sIf (aD a (@ai _ _ _ _ _ _ _ _ _ (sV 1) sI (λ_ _=>rfl)) (@sTx _ _ _ _ _ _ _ (by decide) (@slx _ _ _ _ _ _ _ sS (@slx _ _ _ _ _ _ _ (sM 2) sl0 rfl) rfl))) (@sTx _ _ _ _ _ _ _ (by decide) (@slx _ _ _ _ _ _ _ sS (@slx _ _ _ _ _ _ _ (@ai _ _ _ _ _ _ _ _ _ (sV 1) sI (λ_ _=>rfl)) sl0 rfl) rfl)) sN))) ss0)
    (ss1 (ax (sIf (aD a (@ai _ _ _ _ _ _ _ _ _ (sV 1) sI (λ_ _=>rfl)) (sM 2)) (@ai _ _ _ _ _ _ _ _ _ (@ai _ _ _ _ _ _ _ _ _ (sV 1) sI (λ_ _=>rfl)) sI (λ_ _=>rfl)) sN)))))))))))))))))))))
theorem FX:au ["place","kind","found"] ["place","kind","found"] (defScope uT):=fsc
theorem Io:DD "_law_noted" uT ["place","kind","found"] bS:=λ{_ _ _ _ _ _ _ _ _ _ _ s _ _} cs T G a=>
 have S:=FX
 (@ssc _ _ _ _ _ _ _ _ (zIf (tW (wOr (xQ (sV 1) sN) (wO1 (fV (ao cs.c377 a (@say _ _ _ _ _ _ _ (sV 1) sa0 rfl rfl)) sI)))) (@ssc _ _ _ _ _ _ _ _ (ie 2 (@sTx _ _ _ _ _ _ _ (by decide) (@slx _ _ _ _ _ _ _ (sV 0) (@slx _ _ _ _ _ _ _ sN sl0 rfl) rfl)))
      (ss1 (ax sN))) ss0)
    (@ssc _ _ _ _ _ _ _ _ (ie 2 (@sTx _ _ _ _ _ _ _ (by decide) (@slx _ _ _ _ _ _ _ (sV 0) (@slx _ _ _ _ _ _ _ (sV 1) sl0 rfl) rfl)))
    (ss1 (ax (sM 1)))))
theorem Fi:au ["tree","names","place","found","start","kinds","at","more","bound","kind"] ["tree","names","place","found"] (defScope uB):=fsc
theorem HE:DD "_law_kinds" uB ["tree","names","place","found","start","kinds","at","more","bound","kind"] f_law_kinds:=λ{_ _ _ _ _ _ _ _ _ _ _ s _ _} cs T G a=>
 have S:=Fi
 (@ssc _ _ _ _ _ _ _ _ (zIf (aD a (@ai _ _ _ _ _ _ _ _ _ (sV 0) sI (λ_ _=>rfl)) sS) (ss1 (ax (ao cs.c386 a (@say _ _ _ _ _ _ _ (sM 2) (@say _ _ _ _ _ _ _ (zR a (sM 1) (@ai _ _ _ _ _ _ _ _ _ (sM 0) sI (λ_ _=>rfl))) (sai 3 sa0) rfl rfl) rfl rfl)))) ss0)
    (@ssc _ _ _ _ _ _ _ _ (@zA _ _ _ _ _ _ _ 4 _ _ _ _ S.nd (bK sI (Ce (hm:=T.int) (ha:=(zt (@ai _ _ _ _ _ _ _ _ _ (sV 0) sI (λ_ _=>rfl)) (@sTx _ _ _ _ _ _ _ (by decide) (@slx _ _ _ _ _ _ _ sS (@slx _ _ _ _ _ _ _ sS (@slx _ _ _ _ _ _ _ sS sl0 rfl) rfl) rfl)))))) rfl rfl rfl rfl rfl rfl)
    (@ssc _ _ _ _ _ _ _ _ (@zA _ _ _ _ _ _ _ 5 _ _ _ _ S.nd (@sLx _ _ _ _ _ _ _ (by decide) sl0) rfl rfl rfl rfl rfl rfl)
    (@ssc _ _ _ _ _ _ _ _ (k7 6 S.nd (CN (hm:=T.range) (ha:=(sV 4)) (hb:=(sIf (oE (@ai _ _ _ _ _ _ _ _ _ (sV 0) sI (fun _ _=>rfl)) (@sTx _ _ _ _ _ _ _ (by decide) (@slx _ _ _ _ _ _ _ sS (@slx _ _ _ _ _ _ _ sS sl0 rfl) rfl))) (iq (hm:=T.len) (ha:=(sV 0))) (sV 4)))) (@ssc _ _ _ _ _ _ _ _ (@zA _ _ _ _ _ _ _ 7 _ _ _ _ S.nd (zY (hm:=T.dict) (ha:=(sV 1))) rfl rfl rfl rfl rfl rfl)
     (@ssc _ _ _ _ _ _ _ _ (zIf (tW (fF (aD a (sV 4) sI) (wA1 (aD a (sV 6) (hX (iq (hm:=T.len) (ha:=(sV 0))) sI))))) (@ssc _ _ _ _ _ _ _ _ (@zA _ _ _ _ _ _ _ 8 _ _ _ _ S.nd (oM 5 (Dk sI)) rfl rfl rfl rfl rfl rfl)
      (@ssc _ _ _ _ _ _ _ _ (zIf (tW (wOr (tW (fF (aD a (@ai _ _ _ _ _ _ _ _ _ (sV 0) sI (λ_ _=>rfl)) sS) (wA1 (jU a (@ai _ _ _ _ _ _ _ _ _ (sV 8) sI (λ_ _=>rfl)) sS)))) (wO1 (tW (fF (aD a (@ai _ _ _ _ _ _ _ _ _ (sV 0) sI (λ_ _=>rfl)) sS) (wA1 (jU a (@ai _ _ _ _ _ _ _ _ _ (sV 5) sI (λ_ _=>rfl)) (@sTx _ _ _ _ _ _ _ (by decide) (@slx _ _ _ _ _ _ _ sS sl0 rfl))))))))) (ss1 (ax (ao cs.c386 a (@say _ _ _ _ _ _ _ (sM 2) (@say _ _ _ _ _ _ _ sN (sai 3 sa0) rfl rfl) rfl rfl)))) ss0)
      (ss1 (ot 7 a (sIf (aD a (@ai _ _ _ _ _ _ _ _ _ (sV 0) sI (λ_ _=>rfl)) sS) (@ai _ _ _ _ _ _ _ _ _ (sV 8) sI (λ_ _=>rfl)) (sV 8)) (@ai _ _ _ _ _ _ _ _ _ (sV 0) sI (λ_ _=>rfl)))))) ss0)
     (@ssc _ _ _ _ _ _ _ _ (@zA _ _ _ _ _ _ _ 9 _ _ _ _ S.nd (ao cs.c387 a (@say _ _ _ _ _ _ _ (@ai _ _ _ _ _ _ _ _ _ (sV 0) (sV 6) (λ_ _=>rfl)) (@say _ _ _ _ _ _ _ (sV 7) (@say _ _ _ _ _ _ _ (t4 (sV 2) (@sTx _ _ _ _ _ _ _ (by decide) (@slx _ _ _ _ _ _ _ (hX (sV 6) (sV 4)) sl0 rfl))) (sai 3 sa0) rfl rfl) rfl rfl) rfl rfl)) rfl rfl rfl rfl rfl rfl)
     (@ssc _ _ _ _ _ _ _ _ (zIf (xQ (sV 9) sN) (ss1 (ax sN)) ss0)
     (ss1 (ie 5 (sV 9))))))))
    (@ssc _ _ _ _ _ _ _ _ (zIf (aD a (@ai _ _ _ _ _ _ _ _ _ (sV 0) sI (λ_ _=>rfl)) sS) (ss1 (ax (ao cs.c386 a (@say _ _ _ _ _ _ _ (sM 2) (@say _ _ _ _ _ _ _ (@ai _ _ _ _ _ _ _ _ _ (sM 5) sI (λ_ _=>rfl)) (sai 3 sa0) rfl rfl) rfl rfl)))) ss0)
    (@ssc _ _ _ _ _ _ _ _ (zIf (aD a (@ai _ _ _ _ _ _ _ _ _ (sV 0) sI (λ_ _=>rfl)) sS) (ss1 (ax (ao cs.c386 a (@say _ _ _ _ _ _ _ (sM 2) (@say _ _ _ _ _ _ _ (@sTx _ _ _ _ _ _ _ (by decide) (@slx _ _ _ _ _ _ _ sS (@slx _ _ _ _ _ _ _ (@ai _ _ _ _ _ _ _ _ _ (sM 5) sI (λ_ _=>rfl)) sl0 rfl) rfl)) (sai 3 sa0) rfl rfl) rfl rfl)))) ss0)
    (@ssc _ _ _ _ _ _ _ _ (zIf (aD a (@ai _ _ _ _ _ _ _ _ _ (sV 0) sI (λ_ _=>rfl)) sS) (ss1 (ax (ao cs.c386 a (@say _ _ _ _ _ _ _ (sM 2) (@say _ _ _ _ _ _ _ (sIf (aD a (@ai _ _ _ _ _ _ _ _ _ (sV 5) sI (λ_ _=>rfl)) (@ai _ _ _ _ _ _ _ _ _ (sV 5) sI (λ_ _=>rfl))) (@ai _ _ _ _ _ _ _ _ _ (sV 5) sI (λ_ _=>rfl)) sN) (sai 3 sa0) rfl rfl) rfl rfl)))) ss0)
    (ss1 (ax (ao cs.c386 a (@say _ _ _ _ _ _ _ (sM 2) (@say _ _ _ _ _ _ _ (ao cs.c385 a (@say _ _ _ _ _ _ _ (sM 0) (@say _ _ _ _ _ _ _ (sM 5) sa0 rfl rfl) rfl rfl)) (sai 3 sa0) rfl rfl) rfl rfl)))))))))))
theorem S0:au ["script","program","worths","kind","found","names","name","one","told"] ["script"] (defScope s0):=fsc
theorem D0:DD "law" s0 ["script","program","worths","kind","found","names","name","one","told"] f_law:=λ{_ _ _ _ _ _ _ _ _ _ _ s _ _} cs T G a=>
 have S:=S0
 (@ssc _ _ _ _ _ _ _ _ (C3 1 2 3 S.nd (ao cs.c384 a (@say _ _ _ _ _ _ _ (zL (pf (sV 0) (pf sI (pf sI Gr)))) (@say _ _ _ _ _ _ _ sI sa0 rfl rfl) rfl rfl)))
    (@ssc _ _ _ _ _ _ _ _ (@zA _ _ _ _ _ _ _ 4 _ _ _ _ S.nd (@sLx _ _ _ _ _ _ _ (by decide) sl0) rfl rfl rfl rfl rfl rfl)
    (@ssc _ _ _ _ _ _ _ _ (@zA _ _ _ _ _ _ _ 5 _ _ _ _ S.nd uh rfl rfl rfl rfl rfl rfl)
    (@ssc _ _ _ _ _ _ _ _ (nT 6 7 S.nd (lO (@ai _ _ _ _ _ _ _ _ _ (sV 1) sI (λ_ _=>rfl))) (ss1 (ot 5 a (sV 7) (sV 6))))
    (@ssc _ _ _ _ _ _ _ _ (zIf (jU a (ao cs.c387 a (@say _ _ _ _ _ _ _ (@ai _ _ _ _ _ _ _ _ _ (sV 1) sI (λ_ _=>rfl)) (@say _ _ _ _ _ _ _ (sV 5) (@say _ _ _ _ _ _ _ (@sTx _ _ _ _ _ _ _ (by decide) sl0) (sai 4 sa0) rfl rfl) rfl rfl) rfl rfl)) (sV 3)) (ss1 (ax sO)) ss0)
    (@ssc _ _ _ _ _ _ _ _ (@zA _ _ _ _ _ _ _ 8 _ _ _ _ S.nd (ao cs.c368 a (@say _ _ _ _ _ _ _ (sV 1) sa0 rfl rfl)) rfl rfl rfl rfl rfl rfl)
    (@ssc _ _ _ _ _ _ _ _ (zIf (tW (wOr (Hf (tB (Fy (by decide) NW T.isin T.list (sV 8)))) (wOr (jU a (sV 8) (sV 4)) (wO1 (jU a (@ai _ _ _ _ _ _ _ _ _ (sV 8) (Dk sI) (λ_ _=>rfl)) (@sTx _ _ _ _ _ _ _ (by decide) (@slx _ _ _ _ _ _ _ (@sTx _ _ _ _ _ _ _ (by decide) sl0) (@slx _ _ _ _ _ _ _ (sV 3) sl0 rfl) rfl))))))) (ss1 (ax sO)) ss0)
    (@ssc _ _ _ _ _ _ _ _ (ie 8 (@sTx _ _ _ _ _ _ _ (by decide) (@slx _ _ _ _ _ _ _ (@sTx _ _ _ _ _ _ _ (by decide) (@slx _ _ _ _ _ _ _ sI sl0 rfl)) (@slx _ _ _ _ _ _ _ (@sTx _ _ _ _ _ _ _ (by decide) (@slx _ _ _ _ _ _ _ sS sl0 rfl)) sl0 rfl) rfl)))
    (ss1 (ax (sEq a (ao cs.c368 a (@say _ _ _ _ _ _ _ (sM 1) sa0 rfl rfl)) (sM 4))))))))))))
end A14

namespace A14
open PySem PySem.Spec PyProof.Rows L2 L3 MR
abbrev Cl (n:O):M.Call:=M.callR prog 1000000 1000001 n
section
variable {P:OI}{w:Jy}{K:Jw}{mg:Str->L B}{base:OT}
theorem all (d364:Df K mg "kind_text" sD ["kind"])(d365:Df K mg "read_kind" qZ ["text"])(d366:Df K mg "take_kind" rL ["words","at"])(d367:Df K mg "take_kind_within" qQ ["words","at","depth"])(d175:Df K mg "parts_start" qX ["sign"])(d176:Df K mg "parts" vJ ["tree"])(d233:Df K mg "binding" uI ["tree"])(d368:Df K mg "kinds_of" uK ["program"])(d369:Df K mg "add_kinds" qM ["tree","place","names","told"])(d370:Df K mg "with_bound" sC ["tree","place","names","ins"])(d371:Df K mg "bound_kind" qL ["sign","ins"])(d372:Df K mg "own_kind" rB ["tree","names","ins"])(d373:Df K mg "fitted" qW ["before","kinds"])(d374:Df K mg "kind_by" rR ["after","found"])(d375:Df K mg "_law_cell" uN ["state"])(d376:Df K mg "_law_name" ua ["state","names","cell"])(d171:Df K mg "_law_kind" t6 ["cell","left"])(d377:Df K mg "_law_depth" rJ ["kind"])(d378:Df K mg "_law_number" ve ["cell"])(d379:Df K mg "_law_leaf" sH ["kind","names","cell"])(d380:Df K mg "_law_signs" rX ["kind","other"])(d381:Df K mg "_law_binder" vB ["state","kind","names","left","cell","other"])(d382:Df K mg "_law_tree" r9 ["state","kind","names","left"])(d244:Df K mg "_law_start" tG ["tree"])(d245:Df K mg "_law_many" t9 ["tree"])(d383:Df K mg "_law_worth" sZ ["state","kind","left"])(d384:Df K mg "_law_program" sY ["state","deep"])(d385:Df K mg "_law_kind_by" tK ["tree","kinds"])(d386:Df K mg "_law_noted" uT ["place","kind","found"])(d387:Df K mg "_law_kinds" uB ["tree","names","place","found"])  (T:Txt mg)(G:Glb K w mg):∀n,Calls P w K mg base n<|Cl n
|0=>
 have l:af P w K mg base 0 (Cl 0) "kind_text" 364 []:=d364.z;have m:af P w K mg base 0 (Cl 0) "read_kind" 365 []:=d365.z;have o:af P w K mg base 0 (Cl 0) "take_kind" 366 []:=d366.z;have p:af P w K mg base 0 (Cl 0) "take_kind_within" 367 []:=d367.z;have e:af P w K mg base 0 (Cl 0) "parts_start" 175 []:=d175.z;have g:af P w K mg base 0 (Cl 0) "parts" 176 []:=d176.z;have i:af P w K mg base 0 (Cl 0) "binding" 233 []:=d233.z;have r:af P w K mg base 0 (Cl 0) "kinds_of" 368 []:=d368.z;have t:af P w K mg base 0 (Cl 0) "add_kinds" 369 [3]:=d369.z;have u:af P w K mg base 0 (Cl 0) "with_bound" 370 [3]:=d370.z;have v:af P w K mg base 0 (Cl 0) "bound_kind" 371 [1]:=d371.z;have x:af P w K mg base 0 (Cl 0) "own_kind" 372 []:=d372.z;have y:af P w K mg base 0 (Cl 0) "fitted" 373 []:=d373.z;have D:af P w K mg base 0 (Cl 0) "kind_by" 374 []:=d374.z;have F:af P w K mg base 0 (Cl 0) "_law_cell" 375 [0]:=d375.z;have M:af P w K mg base 0 (Cl 0) "_law_name" 376 [0,1]:=d376.z;have d:af P w K mg base 0 (Cl 0) "_law_kind" 171 []:=d171.z;have N:af P w K mg base 0 (Cl 0) "_law_depth" 377 []:=d377.z;have Q:af P w K mg base 0 (Cl 0) "_law_number" 378 []:=d378.z;have Z:af P w K mg base 0 (Cl 0) "_law_leaf" 379 []:=d379.z;have c380:af P w K mg base 0 (Cl 0) "_law_signs" 380 []:=d380.z;have c381:af P w K mg base 0 (Cl 0) "_law_binder" 381 [0]:=d381.z;have c382:af P w K mg base 0 (Cl 0) "_law_tree" 382 [0]:=d382.z;have j:af P w K mg base 0 (Cl 0) "_law_start" 244 []:=d244.z;have k:af P w K mg base 0 (Cl 0) "_law_many" 245 []:=d245.z;have c383:af P w K mg base 0 (Cl 0) "_law_worth" 383 [0]:=d383.z;have c384:af P w K mg base 0 (Cl 0) "_law_program" 384 [0]:=d384.z;have c385:af P w K mg base 0 (Cl 0) "_law_kind_by" 385 []:=d385.z;have c386:af P w K mg base 0 (Cl 0) "_law_noted" 386 [2]:=d386.z;have c387:af P w K mg base 0 (Cl 0) "_law_kinds" 387 [3]:=d387.z
 ⟨l,m,o,p,e,g,i,r,t,u,v,x,y,D,F,M,d,N,Q,Z,c380,c381,c382,j,k,c383,c384,c385,c386,c387⟩
|n+1=>
 have c:=all d364 d365 d366 d367 d175 d176 d233 d368 d369 d370 d371 d372 d373 d374 d375 d376 d171 d377 d378 d379 d380 d381 d382 d244 d245 d383 d384 d385 d386 d387  T G n;have l:af P w K mg base (n+1) (Cl (n+1)) "kind_text" 364 []:=d364.s a8 GX (C:=Cl n) (by intro f b A a s H E h;exact@Ip P w K mg base n (Cl n) f b A a s H E c T G h);have m:af P w K mg base (n+1) (Cl (n+1)) "read_kind" 365 []:=d365.s bR FW (C:=Cl n) (by intro f b A a s H E h;exact@HX P w K mg base n (Cl n) f b A a s H E c T G h);have o:af P w K mg base (n+1) (Cl (n+1)) "take_kind" 366 []:=d366.s bV GO (C:=Cl n) (by intro f b A a s H E h;exact@IQ P w K mg base n (Cl n) f b A a s H E c T G h);have p:af P w K mg base (n+1) (Cl (n+1)) "take_kind_within" 367 []:=d367.s aC Hi (C:=Cl n) (by intro f b A a s H E h;exact@HL P w K mg base n (Cl n) f b A a s H E c T G h);have e:af P w K mg base (n+1) (Cl (n+1)) "parts_start" 175 []:=d175.s bb F9 (C:=Cl n) (by intro f b A a s H E h;exact@IC P w K mg base n (Cl n) f b A a s H E c T G h);have g:af P w K mg base (n+1) (Cl (n+1)) "parts" 176 []:=d176.s dG E4 (C:=Cl n) (by intro f b A a s H E h;exact@Jo P w K mg base n (Cl n) f b A a s H E c T G h);have i:af P w K mg base (n+1) (Cl (n+1)) "binding" 233 []:=d233.s cX GD (C:=Cl n) (by intro f b A a s H E h;exact@IF P w K mg base n (Cl n) f b A a s H E c T G h);have r:af P w K mg base (n+1) (Cl (n+1)) "kinds_of" 368 []:=d368.s f_kinds_of Gf (C:=Cl n) (by intro f b A a s H E h;exact@HS P w K mg base n (Cl n) f b A a s H E c T G h);have t:af P w K mg base (n+1) (Cl (n+1)) "add_kinds" 369 [3]:=d369.s f_add_kinds F5 (C:=Cl n) (by intro f b A a s H E h;exact@Jl P w K mg base n (Cl n) f b A a s H E c T G h);have u:af P w K mg base (n+1) (Cl (n+1)) "with_bound" 370 [3]:=d370.s bB FV (C:=Cl n) (by intro f b A a s H E h;exact@Ir P w K mg base n (Cl n) f b A a s H E c T G h);have v:af P w K mg base (n+1) (Cl (n+1)) "bound_kind" 371 [1]:=d371.s a9 Fx (C:=Cl n) (by intro f b A a s H E h;exact@HK P w K mg base n (Cl n) f b A a s H E c T G h);have x:af P w K mg base (n+1) (Cl (n+1)) "own_kind" 372 []:=d372.s aJ GK (C:=Cl n) (by intro f b A a s H E h;exact@Ih P w K mg base n (Cl n) f b A a s H E c T G h);have y:af P w K mg base (n+1) (Cl (n+1)) "fitted" 373 []:=d373.s dh GG (C:=Cl n) (by intro f b A a s H E h;exact@HC P w K mg base n (Cl n) f b A a s H E c T G h);have D:af P w K mg base (n+1) (Cl (n+1)) "kind_by" 374 []:=d374.s cQ FK (C:=Cl n) (by intro f b A a s H E h;exact@Ij P w K mg base n (Cl n) f b A a s H E c T G h);have F:af P w K mg base (n+1) (Cl (n+1)) "_law_cell" 375 [0]:=d375.s bM EK (C:=Cl n) (by intro f b A a s H E h;exact@HP P w K mg base n (Cl n) f b A a s H E c T G h);have M:af P w K mg base (n+1) (Cl (n+1)) "_law_name" 376 [0,1]:=d376.s f_law_name Hr (C:=Cl n) (by intro f b A a s H E h;exact@IS P w K mg base n (Cl n) f b A a s H E c T G h);have d:af P w K mg base (n+1) (Cl (n+1)) "_law_kind" 171 []:=d171.s aY E2 (C:=Cl n) (by intro f b A a s H E h;exact@Iw P w K mg base n (Cl n) f b A a s H E c T G h);have N:af P w K mg base (n+1) (Cl (n+1)) "_law_depth" 377 []:=d377.s a6 FJ (C:=Cl n) (by intro f b A a s H E h;exact@Ja P w K mg base n (Cl n) f b A a s H E c T G h);have Q:af P w K mg base (n+1) (Cl (n+1)) "_law_number" 378 []:=d378.s f_law_number Hj (C:=Cl n) (by intro f b A a s H E h;exact@HH P w K mg base n (Cl n) f b A a s H E c T G h);have Z:af P w K mg base (n+1) (Cl (n+1)) "_law_leaf" 379 []:=d379.s f_law_leaf Gg (C:=Cl n) (by intro f b A a s H E h;exact@Iu P w K mg base n (Cl n) f b A a s H E c T G h);have c380:af P w K mg base (n+1) (Cl (n+1)) "_law_signs" 380 []:=d380.s f_law_signs Fg (C:=Cl n) (by intro f b A a s H E h;exact@HN P w K mg base n (Cl n) f b A a s H E c T G h);have c381:af P w K mg base (n+1) (Cl (n+1)) "_law_binder" 381 [0]:=d381.s f_law_binder EL (C:=Cl n) (by intro f b A a s H E h;exact@HY P w K mg base n (Cl n) f b A a s H E c T G h);have c382:af P w K mg base (n+1) (Cl (n+1)) "_law_tree" 382 [0]:=d382.s f_law_tree Gs (C:=Cl n) (by intro f b A a s H E h;exact@HQ P w K mg base n (Cl n) f b A a s H E c T G h);have j:af P w K mg base (n+1) (Cl (n+1)) "_law_start" 244 []:=d244.s bA Ez (C:=Cl n) (by intro f b A a s H E h;exact@Jb P w K mg base n (Cl n) f b A a s H E c T G h);have k:af P w K mg base (n+1) (Cl (n+1)) "_law_many" 245 []:=d245.s cj Ht (C:=Cl n) (by intro f b A a s H E h;exact@Jc P w K mg base n (Cl n) f b A a s H E c T G h);have c383:af P w K mg base (n+1) (Cl (n+1)) "_law_worth" 383 [0]:=d383.s aV Fh (C:=Cl n) (by intro f b A a s H E h;exact@Jq P w K mg base n (Cl n) f b A a s H E c T G h);have c384:af P w K mg base (n+1) (Cl (n+1)) "_law_program" 384 [0]:=d384.s f_law_program Hs (C:=Cl n) (by intro f b A a s H E h;exact@IV P w K mg base n (Cl n) f b A a s H E c T G h);have c385:af P w K mg base (n+1) (Cl (n+1)) "_law_kind_by" 385 []:=d385.s f_law_kind_by FI (C:=Cl n) (by intro f b A a s H E h;exact@HG P w K mg base n (Cl n) f b A a s H E c T G h);have c386:af P w K mg base (n+1) (Cl (n+1)) "_law_noted" 386 [2]:=d386.s bS FX (C:=Cl n) (by intro f b A a s H E h;exact@Io P w K mg base n (Cl n) f b A a s H E c T G h);have c387:af P w K mg base (n+1) (Cl (n+1)) "_law_kinds" 387 [3]:=d387.s f_law_kinds Fi (C:=Cl n)<|by intro f b A a s H E h;exact@HE P w K mg base n (Cl n) f b A a s H E c T G h
 ⟨l,m,o,p,e,g,i,r,t,u,v,x,y,D,F,M,d,N,Q,Z,c380,c381,c382,j,k,c383,c384,c385,c386,c387⟩
end
theorem pure_law:∀a:U I,a.length<=63->∃m bs,Cl 40 0 [(.d,.scr a)]=.ok ((m,.bl Ju),bs):=λa _=>P14.pure_law a
theorem all_mk {l:MO}{w:Jy}{K:Jw}{h:OT}{a:Str->L B}{fa:OD}(X:K.In h)(G:h.Ns JT a)(hfa:a "law"=Y (.ref fa))(r364:Raw K "kind_text" sD .none)(r365:Raw K "read_kind" qZ .none)(r366:Raw K "take_kind" rL .none)(r367:Raw K "take_kind_within" qQ .none)(r175:Raw K "parts_start" qX .none)(r176:Raw K "parts" vJ .none)(r233:Raw K "binding" uI .none)(r368:Raw K "kinds_of" uK .none)(r369:Raw K "add_kinds" qM .none)(r370:Raw K "with_bound" sC .none)(r371:Raw K "bound_kind" qL .none)(r372:Raw K "own_kind" rB .none)(r373:Raw K "fitted" qW .none)(r374:Raw K "kind_by" rR .none)(r375:Raw K "_law_cell" uN .none)(r376:Raw K "_law_name" ua .none)(r171:Raw K "_law_kind" t6 .none)(r377:Raw K "_law_depth" rJ .none)(r378:Raw K "_law_number" ve .none)(r379:Raw K "_law_leaf" sH .none)(r380:Raw K "_law_signs" rX .none)(r381:Raw K "_law_binder" vB .none)(r382:Raw K "_law_tree" r9 .none)(r244:Raw K "_law_start" tG .none)(r245:Raw K "_law_many" t9 .none)(r383:Raw K "_law_worth" sZ .none)(r384:Raw K "_law_program" sY .none)(r385:Raw K "_law_kind_by" tK .none)(r386:Raw K "_law_noted" uT .none)(r387:Raw K "_law_kinds" uB .none)(r0:Raw K "law" s0 .none)(g0:∃t,LW K JT "DEEPEST"=Y (Y<|.int 5 t))(e:∃T,TabRaw K w "AHEAD" T/\T.map J9=keys_AHEAD)(d:∃T,TabRaw K w "BINDING" T/\CstL K tab_BINDING T)(b:∃T,TabRaw K w "LEAVES" T/\T.map J9=keys_LEAVES/\CstL K tab_LEAVES T)(g:∃T,TabRaw K w "RULES" T/\CstL K tab_RULES T)(c:∃T,TabRaw K w "WITHIN" T/\T.map J9=keys_WITHIN/\CstL K tab_WITHIN T)(tx:De K ["isinstance","int","tuple","list","bool","sum","len","all","zip","range","enumerate","any","max","min","sorted","str","repr","abs","dict","set","reversed"]):
  ∃fd:Kn,(∀(s:Jv) (v:B),K2 s fd ⟨[v],[]⟩ [("script",v)])/\∀o:OT,K.In o->o.Ns JT a->eA l.prog w K a o CX0 40 fa fd ["script"] (spS K (Cl 40) 0 []):=by
 have M:Df K a "kind_text" sD ["kind"]:=aT X G r364 λ_ _ _ _ _ _=>u1 λ_=>rfl;have N:Df K a "read_kind" qZ ["text"]:=aT X G r365 λ_ _ _ _ _ _=>u1 λ_=>rfl;have P:Df K a "take_kind" rL ["words","at"]:=aT X G r366 λ_ _ _ _ _ _=>u2 λ_ _=>rfl;have Q:Df K a "take_kind_within" qQ ["words","at","depth"]:=aT X G r367 λ_ _ _ _ _ _=>u3 λ_ _ _=>rfl;have x:Df K a "parts_start" qX ["sign"]:=aT X G r175 λ_ _ _ _ _ _=>u1 λ_=>rfl;have y:Df K a "parts" vJ ["tree"]:=aT X G r176 λ_ _ _ _ _ _=>u1 λ_=>rfl;have A:Df K a "binding" uI ["tree"]:=aT X G r233 λ_ _ _ _ _ _=>u1 λ_=>rfl;have Z:Df K a "kinds_of" uK ["program"]:=aT X G r368 λ_ _ _ _ _ _=>u1 λ_=>rfl;have d369:Df K a "add_kinds" qM ["tree","place","names","told"]:=aT X G r369 λ_ _ _ _ _ _=>u4 λ_ _ _ _=>rfl;have d370:Df K a "with_bound" sC ["tree","place","names","ins"]:=aT X G r370 λ_ _ _ _ _ _=>u4 λ_ _ _ _=>rfl;have d371:Df K a "bound_kind" qL ["sign","ins"]:=aT X G r371 λ_ _ _ _ _ _=>u2 λ_ _=>rfl;have d372:Df K a "own_kind" rB ["tree","names","ins"]:=aT X G r372 λ_ _ _ _ _ _=>u3 λ_ _ _=>rfl;have d373:Df K a "fitted" qW ["before","kinds"]:=aT X G r373 λ_ _ _ _ _ _=>u2 λ_ _=>rfl;have d374:Df K a "kind_by" rR ["after","found"]:=aT X G r374 λ_ _ _ _ _ _=>u2 λ_ _=>rfl;have d375:Df K a "_law_cell" uN ["state"]:=aT X G r375 λ_ _ _ _ _ _=>u1 λ_=>rfl;have d376:Df K a "_law_name" ua ["state","names","cell"]:=aT X G r376 λ_ _ _ _ _ _=>u3 λ_ _ _=>rfl;have u:Df K a "_law_kind" t6 ["cell","left"]:=aT X G r171 λ_ _ _ _ _ _=>u2 λ_ _=>rfl;have d377:Df K a "_law_depth" rJ ["kind"]:=aT X G r377 λ_ _ _ _ _ _=>u1 λ_=>rfl;have d378:Df K a "_law_number" ve ["cell"]:=aT X G r378 λ_ _ _ _ _ _=>u1 λ_=>rfl;have d379:Df K a "_law_leaf" sH ["kind","names","cell"]:=aT X G r379 λ_ _ _ _ _ _=>u3 λ_ _ _=>rfl;have d380:Df K a "_law_signs" rX ["kind","other"]:=aT X G r380 λ_ _ _ _ _ _=>u2 λ_ _=>rfl;have d381:Df K a "_law_binder" vB ["state","kind","names","left","cell","other"]:=aT X G r381 λ_ _ _ _ _ _=>u6 λ_ _ _ _ _ _=>rfl;have d382:Df K a "_law_tree" r9 ["state","kind","names","left"]:=aT X G r382 λ_ _ _ _ _ _=>u4 λ_ _ _ _=>rfl;have D:Df K a "_law_start" tG ["tree"]:=aT X G r244 λ_ _ _ _ _ _=>u1 λ_=>rfl;have H:Df K a "_law_many" t9 ["tree"]:=aT X G r245 λ_ _ _ _ _ _=>u1 λ_=>rfl;have d383:Df K a "_law_worth" sZ ["state","kind","left"]:=aT X G r383 λ_ _ _ _ _ _=>u3 λ_ _ _=>rfl;have d384:Df K a "_law_program" sY ["state","deep"]:=aT X G r384 λ_ _ _ _ _ _=>u2 λ_ _=>rfl;have d385:Df K a "_law_kind_by" tK ["tree","kinds"]:=aT X G r385 λ_ _ _ _ _ _=>u2 λ_ _=>rfl;have d386:Df K a "_law_noted" uT ["place","kind","found"]:=aT X G r386 λ_ _ _ _ _ _=>u3 λ_ _ _=>rfl;have d387:Df K a "_law_kinds" uB ["tree","names","place","found"]:=aT X G r387 λ_ _ _ _ _ _=>u4 λ_ _ _ _=>rfl;have T:=Be X G tx;obtain⟨_,e,r⟩:=e;obtain⟨_,d,i⟩:=d;obtain⟨_,b,m,j⟩:=b;obtain⟨_,g,p⟩:=g;obtain⟨_,c,n,k⟩:=c;have Gm:Glb K w a:=⟨(let ⟨t,z⟩:=g0;⟨t,Mj X G z⟩),(jq X G e r),(f9 X G d i),(jq X G b m),(f9 X G b j),(f9 X G g p),(jq X G c n),(f9 X G c k)⟩;exact yU X G hfa r0 (λ_ _ _ _ _ _ _ _=>.of_eq rfl) λf fd F o=>Fun.okM F S0 rfl (by decide) (by decide) (by decide) (λ_ _ _ _ _ _ h=>D0 (all M N P Q x y A Z d369 d370 d371 d372 d373 d374 d375 d376 u d377 d378 d379 d380 d381 d382 D H d383 d384 d385 d386 d387  T Gm 39) T Gm h) λ_=>rfl
end A14

set_option maxHeartbeats 0
namespace H14
open PySem PySem.W TP
noncomputable abbrev pr:OI:=PySem.Challenge.pw_broadrow_k14_kinds_of_pieces
def tn (i:O):OW:=pr.main.body.getD i<|.Pass p0
def rc:U Rc:=[.m,
.x "BroadError" 206 (.ref 24) (λP=>[tu [.type "ValueError"],⟨.type "builtin_function_or_method",J,.fields #[.builtin "type.__prepare__",.type "type"],#[]⟩,di [en P "__module__" 196<|.str "broadrow.errors" 187,en P "__qualname__" 198<|.str "BroadError" 197,en P "__firstlineno__" 200<|.int (2) 199,en P "__static_attributes__" 201<|.ref 22] 4,tu [],fe [],cdo "BroadError" "BroadError" 191 194 2 0 0 18 Jt .none .none .none,⟨.type "frame",J,.plain,#[Y<|.ref 20,Y<|.ref 3,Y<|.ref 17,J,Y<|.str "broadrow.errors" 187,J,Y<|.ref 0]⟩,tu [],di [en P "__module__" 196<|.str "broadrow.errors" 187,en P "__firstlineno__" 200<|.int (2) 199,en P "__static_attributes__" 201<|.ref 22,en P "__weakref__" 203<|.ref 25,en P "__doc__" 204 .none] 3,⟨.type "type",J,.cls {name:="BroadError",bases:=[.type "ValueError"],mro:=[.ref 24,.type "ValueError",.type "Exception",.type "BaseException",.type "object"],ns:=23,qualname:="BroadError",subclasses:=[.ref 44,.ref 63]},#[Y<|.ref 15,J,Y<|.str "BroadError" 189,Y<|.str "BroadError" 197,Y<|.builtin "ValueError.__new__",Y<|.bool Ju]⟩,⟨.type "getset_descriptor",J,.fields #[.str "__weakref__" 202,.ref 24,.builtin "ExceptionGroup.__weakref__",.none],#[]⟩,⟨.type "super",J,.fields #[.ref 24,.ref 24,.ref 24],#[]⟩,⟨.type "builtin_function_or_method",J,.fields #[.builtin "object.__init_subclass__",.ref 24],#[]⟩]) [iv 2,iv 0,.ref 20] 28 207,
.x "NoText" 231 (.ref 44) (λP=>[tu [.ref 24],⟨.type "builtin_function_or_method",J,.fields #[.builtin "type.__prepare__",.type "type"],#[]⟩,di [en P "__module__" 214<|.str "broadrow.errors" 187,en P "__qualname__" 216<|.str "NoText" 215,en P "__firstlineno__" 218<|.int (4) 217,en P "__init__" 226<|.ref 41,en P "__static_attributes__" 228<|.ref 42] 5,tu [],fe [iv 6,iv 4,.ref 40],cdo "NoText" "NoText" 209 212 4 0 0 31 Jt .none .none .none,⟨.type "frame",J,.plain,#[Y<|.ref 33,Y<|.ref 3,Y<|.ref 30,J,Y<|.str "broadrow.errors" 187,J,Y<|.ref 0]⟩,tu [],fe [],tu [.str "self" 222,.str "at" 223],tu [],ofn .none (cb (tn 2) 0) "NoText.__init__" 0 .none .none .none,cdo "__init__" "NoText.__init__" 219 224 6 2 3 35 Ju (.ref 37) (.ref 38)<|.ref 39,ofn (.type "function") (cb (tn 2) 0) "NoText.__init__" 3 .none (.str "broadrow.errors" 187)<|.ref 40,tu [.str "at" 227],di [en P "__module__" 214<|.str "broadrow.errors" 187,en P "__firstlineno__" 218<|.int (4) 217,en P "__init__" 226<|.ref 41,en P "__static_attributes__" 228<|.ref 42,en P "__doc__" 229 .none] 2,⟨.type "type",J,.cls {name:="NoText",bases:=[.ref 24],mro:=[.ref 44,.ref 24,.type "ValueError",.type "Exception",.type "BaseException",.type "object"],ns:=43,qualname:="NoText"},#[Y<|.ref 28,J,Y<|.str "NoText" 207,Y<|.str "NoText" 215,Y<|.builtin "ValueError.__new__",Y<|.bool Ju]⟩,⟨.type "super",J,.fields #[.ref 44,.ref 44,.ref 44],#[]⟩,⟨.type "builtin_function_or_method",J,.fields #[.builtin "object.__init_subclass__",.ref 44],#[]⟩]) [iv 4,iv 0,.ref 33] 47 232,
.x "NoKind" 256 (.ref 63) (λP=>[tu [.ref 24],⟨.type "builtin_function_or_method",J,.fields #[.builtin "type.__prepare__",.type "type"],#[]⟩,di [en P "__module__" 239<|.str "broadrow.errors" 187,en P "__qualname__" 241<|.str "NoKind" 240,en P "__firstlineno__" 243<|.int (9) 242,en P "__init__" 251<|.ref 60,en P "__static_attributes__" 253<|.ref 61] 5,tu [],fe [iv 11,iv 4,.ref 59],cdo "NoKind" "NoKind" 234 237 9 0 0 50 Jt .none .none .none,⟨.type "frame",J,.plain,#[Y<|.ref 52,Y<|.ref 3,Y<|.ref 49,J,Y<|.str "broadrow.errors" 187,J,Y<|.ref 0]⟩,tu [],fe [],tu [.str "self" 247,.str "place" 248],tu [],ofn .none (cb (tn 3) 0) "NoKind.__init__" 0 .none .none .none,cdo "__init__" "NoKind.__init__" 244 249 11 2 3 54 Ju (.ref 56) (.ref 57)<|.ref 58,ofn (.type "function") (cb (tn 3) 0) "NoKind.__init__" 3 .none (.str "broadrow.errors" 187)<|.ref 59,tu [.str "place" 252],di [en P "__module__" 239<|.str "broadrow.errors" 187,en P "__firstlineno__" 243<|.int (9) 242,en P "__init__" 251<|.ref 60,en P "__static_attributes__" 253<|.ref 61,en P "__doc__" 254 .none] 2,⟨.type "type",J,.cls {name:="NoKind",bases:=[.ref 24],mro:=[.ref 63,.ref 24,.type "ValueError",.type "Exception",.type "BaseException",.type "object"],ns:=62,qualname:="NoKind"},#[Y<|.ref 47,J,Y<|.str "NoKind" 232,Y<|.str "NoKind" 240,Y<|.builtin "ValueError.__new__",Y<|.bool Ju]⟩,⟨.type "super",J,.fields #[.ref 63,.ref 63,.ref 63],#[]⟩,⟨.type "builtin_function_or_method",J,.fields #[.builtin "object.__init_subclass__",.ref 63],#[]⟩]) [iv 9,iv 0,.ref 52] 66 257,
.m,
.c,
.x "WITHIN" 273 (.ref 66) (λP=>[di [en P "num" 261<|.int (0) 262,en P "truth" 263<|.int (0) 264,en P "pair" 265<|.int (2) 266,en P "row" 267<|.int (1) 268] 4]) [] 67 274,
.d,
.d,
.d,
.d,
.m,
.x "AHEAD" 331 (.ref 93) (λP=>[di [en P "num" 313<|.str "number" 314,en P "name" 315<|.str "name" 316,en P "none" 317<|.str "kind" 318,en P "let" 319<|.str "name" 320,en P "each" 321<|.str "name" 322,en P "times" 323<|.str "name" 324] 6]) [] 94 332,
.x "BINDING" 341 (.ref 94) (λP=>[di [en P "let" 332<|.int (1) 333,en P "each" 334<|.int (1) 335,en P "times" 336<|.int (2) 337] 3]) [] 95 342,
.d,
.d,
.d,
.m,
.x "LEAVES" 374 (.ref 116) (λP=>[di [en P "num" 365<|.ref 117,en P "yes" 367<|.ref 118,en P "no" 369<|.ref 119] 3,tu [.str "num" 366],tu [.str "truth" 368],tu [.str "truth" 370]]) [] 120 375,
.x "RULES" 485 (.ref 120) (λP=>[di [en P "not" 375<|.ref 122,en P "first" 379<|.ref 124,en P "second" 383<|.ref 126,en P "one" 387<|.ref 128,en P "upto" 391<|.ref 130,en P "long" 395<|.ref 132,en P "sum" 399<|.ref 134,en P "sums" 403<|.ref 136,en P "most" 407<|.ref 138,en P "flat" 411<|.ref 140,en P "add" 415<|.ref 142,en P "sub" 419<|.ref 144,en P "mul" 423<|.ref 146,en P "div" 427<|.ref 148,en P "rest" 431<|.ref 150,en P "less" 435<|.ref 152,en P "same" 439<|.ref 155,en P "both" 445<|.ref 158,en P "pair" 448<|.ref 160,en P "pick" 451<|.ref 162,en P "join" 454<|.ref 164,en P "keep" 457<|.ref 166,en P "cut" 460<|.ref 168,en P "let" 463<|.ref 170,en P "if" 466<|.ref 172,en P "each" 469<|.ref 174,en P "times" 472<|.ref 176] 27,tu [.str "truth" 376,.str "truth" 377],tu [.ref 121],tu [.str "pair K L" 380,.str "K" 381],tu [.ref 123],tu [.str "pair K L" 384,.str "L" 385],tu [.ref 125],tu [.str "K" 388,.str "row K" 389],tu [.ref 127],tu [.str "num" 392,.str "row num" 393],tu [.ref 129],tu [.str "row K" 396,.str "num" 397],tu [.ref 131],tu [.str "row num" 400,.str "num" 401],tu [.ref 133],tu [.str "row num" 404,.str "row num" 405],tu [.ref 135],tu [.str "row num" 408,.str "num" 409],tu [.ref 137],tu [.str "row row K" 412,.str "row K" 413],tu [.ref 139],tu [.str "num num" 416,.str "num" 417],tu [.ref 141],tu [.str "num num" 420,.str "num" 421],tu [.ref 143],tu [.str "num num" 424,.str "num" 425],tu [.ref 145],tu [.str "num num" 428,.str "num" 429],tu [.ref 147],tu [.str "num num" 432,.str "num" 433],tu [.ref 149],tu [.str "num num" 436,.str "truth" 437],tu [.ref 151],tu [.str "num num" 440,.str "truth" 441],tu [.str "truth truth" 442,.str "truth" 443],tu [.ref 153,.ref 154],di [en P "both" 445<|.ref 158,en P "pair" 448<|.ref 160,en P "pick" 451<|.ref 162,en P "join" 454<|.ref 164,en P "keep" 457<|.ref 166,en P "cut" 460<|.ref 168,en P "let" 463<|.ref 170,en P "if" 466<|.ref 172,en P "each" 469<|.ref 174,en P "times" 472<|.ref 176] 10,tu [.str "truth truth" 446,.str "truth" 447],tu [.ref 157],tu [.str "K L" 449,.str "pair K L" 450],tu [.ref 159],tu [.str "row K num" 452,.str "K" 453],tu [.ref 161],tu [.str "row K row K" 455,.str "row K" 456],tu [.ref 163],tu [.str "row K row truth" 458,.str "row K" 459],tu [.ref 165],tu [.str "row K row num" 461,.str "row row K" 462],tu [.ref 167],tu [.str "K L" 464,.str "L" 465],tu [.ref 169],tu [.str "truth K K" 467,.str "K" 468],tu [.ref 171],tu [.str "row K L" 470,.str "row L" 471],tu [.ref 173],tu [.str "num K K" 473,.str "K" 474],tu [.ref 175]]) [] 177 486,
.d,
.d,
.d,
.d,
.d,
.d,
.d,
.m,
.d,
.d,
.d,
.d,
.d,
.d,
.d,
.d,
.d,
.d,
.d,
.d,
.d,
.d,
.d,
.d,
.d]
theorem c0 (w:Jy):Cut pr rc 0 15 187 p0 1 10 15 189 ⟨1,0,1,8⟩ w:=λo=>by kernel_rfl
theorem c1 (w:Jy):Cut pr rc 1 15 189 ⟨1,0,1,8⟩ 3 677 66 257 ⟨9,0,13,26⟩ w:=λo=>by kernel_rfl
theorem c4 (w:Jy):Cut pr rc 4 66 257 ⟨9,0,13,26⟩ 2 19 66 261 ⟨15,0,15,7⟩ w:=λo=>by kernel_rfl
theorem c6 (w:Jy):Cut pr rc 6 66 261 ⟨15,0,15,7⟩ 1 71 67 274 ⟨16,0,16,6⟩ w:=byRow2 (P:=Cut pr rc 6 66 261 ⟨15,0,15,7⟩ 1 71 67 274 ⟨16,0,16,6⟩) "special-get-raises" (λw o=>by kernel_rfl) (λw o=>by kernel_rfl) w
theorem c7 (w:Jy):Cut pr rc 7 67 274 ⟨16,0,16,6⟩ 5 133 93 313 ⟨40,0,40,8⟩ w:=λo=>by kernel_rfl
theorem c12 (w:Jy):Cut pr rc 12 93 313 ⟨40,0,40,8⟩ 1 101 94 332 ⟨41,0,41,5⟩ w:=byRow2 (P:=Cut pr rc 12 93 313 ⟨40,0,40,8⟩ 1 101 94 332 ⟨41,0,41,5⟩) "special-get-raises" (λw o=>by kernel_rfl) (λw o=>by kernel_rfl) w
theorem c13 (w:Jy):Cut pr rc 13 94 332 ⟨41,0,41,5⟩ 1 56 95 342 ⟨42,0,42,7⟩ w:=byRow2 (P:=Cut pr rc 13 94 332 ⟨41,0,41,5⟩ 1 56 95 342 ⟨42,0,42,7⟩) "special-get-raises" (λw o=>by kernel_rfl) (λw o=>by kernel_rfl) w
theorem c14 (w:Jy):Cut pr rc 14 95 342 ⟨42,0,42,7⟩ 4 97 116 365 ⟨49,0,49,8⟩ w:=λo=>by kernel_rfl
theorem c18 (w:Jy):Cut pr rc 18 116 365 ⟨49,0,49,8⟩ 1 62 120 375 ⟨50,0,50,6⟩ w:=byRow2 (P:=Cut pr rc 18 116 365 ⟨49,0,49,8⟩ 1 62 120 375 ⟨50,0,50,6⟩) "special-get-raises" (λw o=>by kernel_rfl) (λw o=>by kernel_rfl) w
theorem c19 (w:Jy):Cut pr rc 19 120 375 ⟨50,0,50,6⟩ 1 622 177 486 ⟨51,0,51,5⟩ w:=byRow2 (P:=Cut pr rc 19 120 375 ⟨50,0,50,6⟩ 1 622 177 486 ⟨51,0,51,5⟩) "special-get-raises" (λw o=>by kernel_rfl) (λw o=>by kernel_rfl) w
theorem c20 (w:Jy):Cut pr rc 20 177 486 ⟨51,0,51,5⟩ 23 682 315 692 ⟨276,0,281,15⟩ w:=λo=>by kernel_rfl
theorem c43 (w:Jy):Cut pr rc 43 315 692 ⟨276,0,281,15⟩ 2 76 329 723 ⟨305,0,317,37⟩ w:=λo=>by kernel_rfl
theorem ch:Ch pr rc 45 329 723 0 15 187 p0 (10+(677+(19+(71+(133+(101+(56+(97+(62+(622+(682+(76+(2))))))))))))):=bq c0<|bq c1<|bq c4<|bq c6<|bq c7<|bq c12<|bq c13<|bq c14<|bq c18<|bq c19<|bq c20<|bq c43<|Bp<|by kernel_rfl
def q:OI:=view pr [44]
noncomputable def lo:U Str:=(["BroadError","NoText","NoKind","DEEPEST","WITHIN","kind_text","read_kind","take_kind","take_kind_within","AHEAD","BINDING","parts_start","parts","binding","LEAVES","RULES","kinds_of","add_kinds","with_bound","bound_kind","own_kind","fitted","kind_by","_law_cell","_law_name","_law_kind","_law_depth","_law_number","_law_leaf","_law_signs","_law_binder","_law_tree","_law_start","_law_many","_law_worth","_law_program","_law_kind_by","_law_noted","_law_kinds"]:U OL).map Str.ofString
noncomputable def as:U OD:=[3,24,44,63,66,70,71,77,78,84,85,91,92,93,94,100,101,107,108,114,115,116,117,118,119,120,121,122,123,124,125,126,127,128,129,130,131,132,133,134,135,136,137,138,139,140,141,142,143,144,145,146,147,148,149,150,151,152,153,154,155,157,158,159,160,161,162,163,164,165,166,167,168,169,170,171,172,173,174,175,176,182,183,189,190,196,197,203,204,210,211,217,218,222,223,229,230,234,235,241,242,246,247,253,254,258,259,263,264,270,271,277,278,284,285,289,290,294,295,299,300,306,307,313,314,320,321,327,328]
def K:Kb->Frag:=kK pr rc 45 as
def hk:Hook:=hkk pr rc 45 329
abbrev Xt (s:Jv):OF:=xlAt q [] s&&recOk (RowW.records<|OpenRow.toRowW<|OpenLaw.row PySem.Challenge.rw_broadrow_k14_kinds_of_pieces) s
theorem kin (w:Jy)(h:OT)(a:hk.says w h):(K w.params).In h:=Je (by kernel_rfl) (by kernel_rfl) a
theorem lk (w:Jy):(λo=>((staticsOk (L5 pr.main.body) (Ks w.params) (hp pr rc 45 329 w.params)&&namesBound pr (hp pr rc 45 329 w.params)&&gensDone ⟨hp pr rc 45 329 w.params,#[],{},723,o⟩&&laidKept (Ks w.params) (hp pr rc 45 329 w.params)),openSeen q lo (L5 pr.main.body) Xt Ju ⟨hp pr rc 45 329 w.params,#[],{},723,o⟩,Hook.obs hk ⟨hp pr rc 45 329 w.params,#[],{},723,o⟩))=λ_=>(Ju,openGood q lo,Hook.val hk w):=by kernel_rfl
theorem e1:opening pr=plainProg pr.main.scope.names:=by kernel_rfl
theorem e2:LM pr=pr.main.body:=by kernel_rfl
theorem e3 (s:Jv):fenceModules? pr s=Y s:=by kernel_rfl
theorem pre (w:Jy)(o:Pp):topGo K3 pr w 11 an 12 ⟨Ks w.params,Mf [],boot_drawn,boot_toks,o⟩ (topStub pr)=Y ((sT pr rc w.params 0 15 187 o).abs,⟨denote K3<|cE pr,cE pr,p0,B0⟩):=by kernel_rfl
theorem blk (w:Jy)(o:Pp):segRun K3 pr w 11 an 1 1 (sT pr rc w.params 0 15 187 o).abs (blockOf (LM pr) (ev pr) (cE pr) p0 B0)=Y (.next,(sT pr rc w.params 0 15 187 o).abs,cE pr,p0):=by kernel_rfl
theorem left:LeftO pr q lo Xt (Hook.obs hk) (Hook.val hk) 5314:=yB e1 (by kernel_rfl) e3 e2 yj pre blk ch (by kernel_rfl) lk
end H14

set_option maxHeartbeats 4000000
open PySem PySem.W PyProof.Rows
set_option maxRecDepth 100000 in
set_option maxHeartbeats 0 in
theorem PySem.Challenge.cw_broadrow_k14_kinds_of_pieces_holds : PySem.Challenge.rw_broadrow_k14_kinds_of_pieces.Holds := by
 w_on; o_law
 refine holds_open (q:=H14.q) (loose:=H14.lo) (Xt:=H14.Xt) (XP:=XL H14.q []) (Yf:=Hook.obs H14.hk) (Ya:=Hook.val H14.hk) (YP:=Hook.says H14.hk) (N:=5314) (d:=TP.drec (H14.tn 44)) (kwd:=[]) H14.left (Hook.of H14.hk) (Hook.keeps H14.hk) (fun s e=>xl_of s (Kc.mp e).1) XL.keeps (by kernel_rfl) (by kernel_rfl) (by kernel_rfl) (fun s e=>recFacts_of (Kc.mp e).2) (by rfl) (by first | assumption | decide +kernel) (by decide +kernel) ⟨rfl,rfl,rfl,rfl,rfl,by decide +kernel⟩ ?hw ?hc
 case hw=>w_witness2
 refine MR.walkX (sx:="script") (l:=PySem.Challenge.rw_broadrow_k14_kinds_of_pieces) (k:=40) (C:=A14.Cl 40) (ix:=0) (K:=H14.K) A14.pure_law rfl (by kernel_rfl) ⟨rfl,by decide,by decide,rfl⟩ H14.kin ?F
 case F =>
  intro w mg fa h KX G hmg
  refine' A14.all_mk KX G hmg ?zr364 ?zr365 ?zr366 ?zr367 ?zr175 ?zr176 ?zr233 ?zr368 ?zr369 ?zr370 ?zr371 ?zr372 ?zr373 ?zr374 ?zr375 ?zr376 ?zr171 ?zr377 ?zr378 ?zr379 ?zr380 ?zr381 ?zr382 ?zr244 ?zr245 ?zr383 ?zr384 ?zr385 ?zr386 ?zr387 ?zr0 ?zg0 ?zq_AHEAD ?zq_BINDING ?zq_LEAVES ?zq_RULES ?zq_WITHIN ?ztx
  case zg0=>exact ⟨TP.tkO (nsIn (H14.K w.params) mainGlobals "DEEPEST"),by kernel_rfl⟩
  case zq_AHEAD=>exact ⟨_,TP.tab_mk (by kernel_rfl) (by kernel_rfl) (by kernel_rfl) (by kernel_rfl),by kernel_rfl⟩
  case zq_BINDING=>exact ⟨_,TP.tab_mk (by kernel_rfl) (by kernel_rfl) (by kernel_rfl) (by kernel_rfl),TP.cst_of (n:=9) (by kernel_rfl)⟩
  case zq_LEAVES=>exact ⟨_,TP.tab_mk (by kernel_rfl) (by kernel_rfl) (by kernel_rfl) (by kernel_rfl),by kernel_rfl,TP.cst_of (n:=9) (by kernel_rfl)⟩
  case zq_RULES=>exact ⟨_,TP.tab_mk (by kernel_rfl) (by kernel_rfl) (by kernel_rfl) (by kernel_rfl),TP.cst_of (n:=9) (by kernel_rfl)⟩
  case zq_WITHIN=>exact ⟨_,TP.tab_mk (by kernel_rfl) (by kernel_rfl) (by kernel_rfl) (by kernel_rfl),by kernel_rfl,TP.cst_of (n:=9) (by kernel_rfl)⟩
  case ztx=>refine' ⟨?_,?_,?_,?_,?_,?_,?_,?_,?_,?_,?_,?_,?_,?_,?_,?_,?_,?_,?_,?_,?_,trivial⟩<;>kernel_rfl
  all_goals exact TP.raw_mk (by kernel_rfl) (by kernel_rfl) (by kernel_rfl) (by kernel_rfl)
