import PyProof.Rows.All
import Wide.All
import OpenK.AllK
import Wide.FinOn
import Lean
import PyProof.EqAt
import PyProof.EqKinds
import PyProof.TupleCall
import PyProof.ExcInit
import PyProof.ExcClass3
import PyProof.ExcBaseAll.ValueError
import PyProof.StationsW
import PyProof.FString
import PyProof.Rows.FStr
import PyProof.NsDelKeeps
import PyProof.RulesAs
import PyProof.ExcArgs
import PySem.Str
import PySem.Builtin.Str.Common
import PyProof.ReprReads
import PyProof.Rows.Range3
import PyProof.P3Eq
import PyProof.TableCode
import PySem.Challenge.RW_broadrow_k47_rows_of_pieces_without_rows
noncomputable section
open _root_ renaming List → U, Nat → O, Option → B, Int → j
open Option renaming some → Y, none → J
open PySem renaming Value → L
open PySem renaming Addr → NM, wpAny → NO, Program → NQ, Expr → NV, Heap → NX, eval → N3, Stmt → N4, IsPair → N6, DictEntry → N7, Scope → N9, cLine → Ob, wpAny_letOwnedTupleGo_enum → Oe, atKey → Og, wpAny_pyNext_list_item → Oh, wpAny_isTrue_Compare1 → Om, wpAny_pyNext_list_end → Oo, builtinLookup_eq_fast → Oq, valueAt → Ov, seq_tuple_add → Ow, comprehension → Oy, typeLookup → Oz, GenState → OB, codeAny_mono → OC, concat_meets → OD, seqIndex_neg → OE, ZipApart → OF, OsState → OG, PassesOwn → OI, strValues → OJ, isTrue → OL, bindL → OM, bindC → ON, field → OP
open _root_ renaming Bool → NN, absurd → NP, if_pos → NR, decide_eq_true → NS, beq_self_eq_true → NT, String → NU, if_neg → NW, of_decide_eq_true → NY, decide_eq_true_eq → NZ, decide_eq_false → N0, congrArg → N1, False → N2, Array → N5, or_false → N8, decide_true → Oa, beq_eq_false_iff_ne → Oc, Inhabited → Od, DecidableEq → Of, decide_false → Oj, beq_false_of_ne → Ol, if_true → Ou, True → OA
open PyProof.Rows renaming subscriptTail_builtinR → Oi, IsTup → Ot, subscriptTail → Ox, IntsAre → OK
open PySem.W renaming nsIn → OH, byRow2 → OQ
open Option renaming some → HR, none → HS
open Bool renaming false → HU, true → HV
open PySem renaming wpAny_bind → HY, Shared → HW, starEach → H9, wpAny_pure → Ia, model → HZ, World → H8, mainGlobals → Im, Around → Il, wpAny_mono → ID, foldedSetIterable → Ji, backTo → Iy, wpAny_field → Ja, sysModules → I9, wpAny_pyIter_tuple → J1, wpAny_callSpecial?_slot → Kt, compareOp → I0, behindInMarks → JA, binaryOp → IU, swapsWith → Jf, Keyword → IP, Params → II, wpAny_seqItems → JJ, bootBuiltins → Jz, lookup_relabel_local → Kx, wpAny_pyIter_list → Kh, wpAny_newObj_type → Kg, attributeBase → JN, FuncData → Jg, wpAny_setField_rec → Kw, keywordEach → JM, wpAny_call_entry → Kv, wpAny_holding → Kf, letOwnedTupleGo → Ku, tupleKind_room_in1 → KR, closureFor → JL, IsZip → IQ, call_meets → J4, getItem → Jv, sliceBounds → Ke, wpAny_passesOwn → KP, assign → Jq, backToKw → JK, treeTable → J2, assignEach → Kc, wpAny_truthy_bool → Lg, wpAny_Call_method → Lf, wpAny_pyIter_enum → Li, tupleKind → Ki, codeAny → JP, Builtin → JO, wpAny_execs_nil → Lh, rawInt → JC, IsPart → JB, wpAny_typeOf → KU, call_meetsIn → KS, wpAny_rule → Ks, wpAny_updateSeq_pair → LM, importedModules → Le, holding → J0, BindsTo → JZ, callerA → JY, pyNext → JI, wpAny_Call_Name_kw → LL, wpAny_standAt → Ld, wpAny_onRaise → Lc, ExceptHandler → Lb, typeIs_str → KO, strKind_is → KN, relabel → Kb, noFill_tuple_add → LK, sizeLine_eq → La, subscripted → K9
open PySem.W renaming boot_heap → Jj, behindTheImports → KQ
open PyProof.Rows renaming envOfC → Jp, AllBare → JQ
open PySem.W renaming Frag → HX, kia_one → Jm, kitOne → JX, fnOf → JT, kia_tup → Kz, findIn → KJ, keepIn → KI, kitx_list → LC, kitx_tuple → Mx, nsIn → K3, codeIn → Ln, methodObj → L5, hasDictIn → L4, mg_of → Lm, cellsFrom_some → Nb, instObj → LV, OpenLaw → Mf, lookIn → Mb, kitAny → Ma, specialIn → ND, kitx_none → NC, kitx_bool → NB, kitx_dict → NA, plainGet → MS, kitx_int → MQ, kitx_str → MP, takesIn → MI, KeysLit → MG, mroIn → My, WalkO → M6, subIn → M4
open List renaming mem_cons_self → Ih, length_map → Ie, length_cons → Ii, mem_cons_of_mem → Iz, size_toArray → Iv, lookup → Ib, mem_append_right → IC, replicate → Iu, length_append → IA, mem_cons → Ip, map_cons → Io, mem_singleton → IE, getElem?_eq_some_iff → Jc, getElem?_cons_succ → Jh, drop_succ_cons → Jb, getElem?_map → IW, take_succ_cons → Jn, append_nil → IT, lookup_cons → Je, not_mem_nil → Jd, range → IB, drop_zero → IY, any_cons → IS, append_assoc → Ju, getElem?_eq_getElem → Kq, nodup_cons → Jt, length_replicate → Ka, take_zero → Jl, mem_append_left → J9, mem_of_getElem? → J8, mem_append → Jw, replicate_succ → J7, length_singleton → Kp, all_eq_true → JW, cons_ne_nil → JV, getElem?_append_right → K8, filterMap_cons → Kr, getElem?_append_left → K7, getElem?_cons_zero → K6, map_nil → Jy, flatten_cons → Kn, length_nil → J6, getD_eq_getElem?_getD → Ly, mem_map → JF, any_nil → JE, find?_cons → Km, length_drop → KA, take_of_length_le → Lr, getElem?_set_ne → LG, length_take → K2, map_congr_left → LF, getElem?_replicate → Ms, all_cons → KH, getElem?_set_self → Mp, find?_cons_of_neg → Mm, map_map → KD, of_mem_zip → LJ, length_set → LI, nil_append → LH, set_cons_zero → Mv, set_cons_succ → L6, length → KW, drop_length → LX, cons_append → LW, find?_cons_of_pos → M9, append_eq_nil_iff → M8, map_append → Me, forall_mem_cons → Nv, mem_range → Mc, drop_drop → L9, nodup_nil → L8, map_eq_nil_iff → Nt, length_pos_iff → Nr, mem_filterMap → Np, map → Ky, zipIdx_cons → MM, mem_filter → MJ, foldl_cons → MH, forIn_cons → MF, zipIdx_nil → ME, length_zip → MC, forIn_nil → MA, foldl → LP, take_nil → M3, drop_nil → M0, sum_cons → MZ, map_id → MT
open Bool renaming and_eq_true → Iq, and_eq_true_iff → IK, false_ne_true → IG, or_false → Js, bne_false → JU, or_true → JD, not_eq_true' → Nx, true_or → Mh, not_eq_true → MN, or_eq_true → MD, false_or → M5
open Nat renaming le_refl → Ic, le_trans → Ij, lt_of_lt_of_le → IF, ne_of_lt → Iw, zero_le → Jo, zero_add → Jx, ne_of_gt → JG, lt_irrefl → Kl, lt_trans → KG, le_of_ble_eq_true → Mk, reduceLeDiff → Lz, pow_le_pow_right → Mj, lt_of_le_of_lt → Mw, reduceAdd → Ll, succ_le_succ → LZ, le_add_right → LY, le_of_lt → Lq, add_comm → Lp, pow_succ → LR, le_of_not_lt → MO, succ_ne_self → ML, mul_comm → MW, min_self → MV
open Option.some renaming inj → IJ, injEq → L0
open PySem.Str renaming join → IL, mk → Mg
open PyProof.Rows renaming slot_tuple_getitem → KL, callWith_type1 → K5, boot_tuple → Lv, boot_list → Ls, boot_isinstance → NG, boot_bool → M7, callWith_builtin1 → NL, boot_dict → NK, eq_dataH → NJ, ne_dataH → NI
open Array renaming length_toList → JH, all_eq_true' → LD, getElem?_eq_none → Mn, toList_inj → LA, getElem?_eq_getElem → Ni, toList_append → Nu, append_assoc → Nq, find?_toList → Nm, mk → Lk, toList → MX
open Or renaming inr → Ig, inl → Ir
open PySem.F renaming slot_dict_get → Ko, plainAttrs_dict → Lx, plainAttrs_list → Lw, entry_dict_get → Lu, slot_dict_getitem → Mu, args_tuple_add_2 → Mt, entry_tuple_add → Mr, args_dict_get_2 → Mq, slot_tuple_add → Mo, type_dict_get → Ml, slot_dict_setdefault → NF, slot_list_append → Nf, type_list_append → Nd, plainAttrs_str → Na
open True renaming intro → IZ
open PySem renaming mem_of_lookup → KC, Str → Jk, NameKind → L7, reprText → Mz, call → LO, Within → MY
open False renaming elim → Jr
open Nat.succ renaming inj → JS
open Prod renaming fst → IV, snd → J5
open Ne renaming symm → IM
open Int renaming fmod_eq_emod_of_nonneg → Mi, reduceLT → Lo, emod_lt_of_pos → Nj, toNat_natCast → Ny, emod_nonneg → MB, natAbs → LN, toNat → LU
open Option renaming getD_none → K1, toList → K4, isNone_iff_eq_none → Nh, isSome_iff_exists → Ng, bind_eq_some_iff → Nc, isSome_some → Nl, toList_none → Nk, isSome_map → Nz, bind_some → MK
open List.cons renaming inj → K0
open Sum renaming inr → JR, inl → Kj
open And renaming left → Kk
open Char renaming toNat → KY
open String renaming length_toList → Nw
open Classical renaming em → LS
open Sum.inr renaming inj → LQ
open BEq renaming comm → Lj
open Prod.mk renaming inj → MU
open List.Pairwise renaming nil → NH
set_option compiler.extract_closed false
set_option bootstrap.genMatcherCode false
set_option genSizeOf false
set_option genInjectivity false
set_option Elab.async false
set_option linter.all false
set_option maxRecDepth 100000
namespace L2
open PySem PySem.Spec PyProof.Rows
abbrev Key:=Sum j Str
noncomputable def iy:Key->L->NN
|.inl k,v=>Value.isInt k v
|.inr x,v=>Value.isStrOf x v
noncomputable def GF (w:H8):Key->j
|.inl k=>hashInt k
|.inr x=>hashStr w x
theorem aN:∀{k:Key} {v:L},iy k v=HV->(∃i t,k=Kj i/\v=Value.int i t)\/(∃x t,k=JR x/\v=Value.str x t)
|.inl i,v,h=>by obtain⟨t,e⟩:=Value.isInt_shape (k:=i) (v:=v) h;exact .inl ⟨i,t,rfl,e⟩
|.inr x,v,h=>by obtain⟨t,e⟩:=Value.isStrOf_shape (x:=x) (v:=v) h;exact .inr ⟨x,t,rfl,e⟩
theorem n6 (i:j)(t:Tok):iy (.inl i) (.int i t)=true:=by simp[iy,Value.isInt]
theorem oG (x:Str)(t:Tok):iy (.inr x) (.str x t)=true:=by simp[iy,Value.isStrOf]
theorem Bd (a b:j):decide ((Kj a:Key)=Kj b)=(a==b):=by
 by_cases e:a=b
 .subst e;simp
 .have h:¬ (Kj a:Key)=Kj b:=fun q=>e<|Sum.inl.inj q;rw[N0 h];exact(beq_eq_false_iff_ne.mpr e).symm
theorem BS (a b:Str):decide ((JR a:Key)=JR b)=decide (a=b):=by
 by_cases e:a=b
 .subst e;simp
 .have h:¬ (JR a:Key)=JR b:=fun q=>e<|LQ q;rw[N0 h,N0 e]
theorem Ar (a:j)(b:Str):decide ((Kj a:Key)=JR b)=false:=N0 λq=>nomatch q
theorem Bc (a:Str)(b:j):decide ((JR a:Key)=Kj b)=false:=N0 λq=>nomatch q
def aI (prog:NQ)(w:H8):PySem.KeyKind prog w Key where
 is:=iy
 hash:=GF w
 inj:=λv a b g f=>by
  rcases aN g with⟨i,t,rfl,rfl⟩|⟨x,t,rfl,rfl⟩
  .rcases aN f with ⟨c,u,rfl,e⟩ | ⟨y,u,rfl,e⟩
   .injection e with e1 _;rw[e1]
   .exact nomatch e
  .rcases aN f with ⟨c,u,rfl,e⟩ | ⟨y,u,rfl,e⟩
   .exact nomatch e
   .injection e with e1 _;rw[e1]
 byValue:=λk v h=>by rcases aN h with⟨i,t,rfl,rfl⟩|⟨x,t,rfl,rfl⟩<;>rfl
 pyHash:=λd h=>by
  rcases aN d with⟨i,t,rfl,rfl⟩|⟨x,t,rfl,rfl⟩
  .exact wpAny_pyHash_int h
  .exact wpAny_pyHash_str h
 eqBool:=λl d h=>by
  rcases aN l with⟨i,t,rfl,rfl⟩|⟨x,t,rfl,rfl⟩
  .rcases aN d with ⟨c,u,rfl,rfl⟩ | ⟨y,u,rfl,rfl⟩
   .rw[Bd] at h;exact wpAny_eqBool_int h
   .rw[Ar] at h;exact SeqAt.EqAt.int_str i t y u _ _ _ _ h
  .rcases aN d with ⟨c,u,rfl,rfl⟩ | ⟨y,u,rfl,rfl⟩
   .rw[Bc] at h;exact SeqAt.EqAt.str_int x t c u _ _ _ _ h
   .rw[BS] at h;exact wpAny_eqBool_str h
 «strs»:=λk x t v h=>by
  rcases aN h with⟨i,u,rfl,e⟩|⟨y,u,rfl,e⟩
  .exact nomatch e
  .injection e with e1 _
   subst e1;cases v<;>rfl
theorem ko (prog:NQ)(w:H8)(i:j)(t:Tok):(aI prog w).is (.inl i) (.int i t)=true:=n6 i t
theorem jQ (prog:NQ)(w:H8)(x:Str)(t:Tok):(aI prog w).is (.inr x) (.str x t)=true:=oG x t
set_option genInjectivity true
inductive V where
 |non|bl (b:NN)|int (i:j)|str (x:Str)|byt (b:N5 UInt8)|flt (b:UInt64)|ref (a:NM)|ty (n:NU)
 deriving Of
set_option genInjectivity false
def RelV:V->L->Prop
|.non,u=>u=Value.none
|.bl b,u=>u=Value.bool b
|.int i,u=>∃t,u=Value.int i t
|.str x,u=>∃t,u=Value.str x t
|.byt b,u=>∃t,u=Value.bytes b t
|.flt b,u=>∃t,u=Value.float b t
|.ref a,u=>u=Value.ref a
|.ty n,u=>u=Value.type n
abbrev Vals:U V->U L->Prop:=Paired RelV
theorem Vals.length {b:U V}{a:U L}(r:Vals b a):b.length=a.length:=Paired.length r
theorem Vals.get:∀{b:U V} {a:U L} {i:O} {x:V},Vals b a->b[i]?=Y x->∃u,a[i]?=Y u/\RelV x u
|_,_,_,_,.nil,e=>by simp at e
|_,_,0,_,.cons r _,e=>by simp at e;subst e;exact⟨_,rfl,r⟩
|_,_,i+1,x,.cons _ t,e=>by obtain⟨u,c,d⟩:=Vals.get (i:=i) (x:=x) t (by simpa using e);exact⟨u,by simpa using c,d⟩
theorem Vals.set {x:V}{u:L}(r:RelV x u):∀{b:U V} {a:U L} (i:O),Vals b a->Vals (b.set i x) (a.set i u)
|_,_,_,.nil=>.nil
|_,_,0,.cons _ t=>.cons r t
|_,_,i+1,.cons q t=>.cons q<|Vals.set r i t
theorem Vals.append:∀{c d:U V} {a b:U L},Vals c a->Vals d b->Vals (c++d) (a++b)
|_,_,_,_,.nil,s=>s
|_,_,_,_,.cons r t,s=>.cons r<|Vals.append t s
theorem Vals.take:∀{b:U V} {a:U L} (n:O),Vals b a->Vals (b.take n) (a.take n)
|_,_,0,_=>.nil
|_,_,_+1,.nil=>.nil
|_,_,n+1,.cons r t=>.cons r<|Vals.take n t
theorem Vals.drop:∀{b:U V} {a:U L} (n:O),Vals b a->Vals (b.drop n) (a.drop n)
|_,_,0,r=>r
|_,_,_+1,.nil=>.nil
|_,_,n+1,.cons _ t=>Vals.drop n t
def RelO:B V->B L->Prop
|some v,Y u=>RelV v u
|none,J=>OA
|_,_=>N2
def KV {a:Type}:U (a×V)->U (a×L)->Prop:=Paired λ(p:a×V) (q:a×L)=>p.1=q.1/\RelV p.2 q.2
def kV:Key->V
|.inl i=>.int i
|.inr x=>.str x
inductive HO where
 |lst (xs:U V)
 |tup (xs:U V)
 |dK (kvs:U (Key×V))|dT (kvs:U (U Key×V))
 |set (S:j->NN) (n:O)
 |ins (C dx:NM) (fs:U (Str×V))
 |own (x:NM)
 |xd (fs:U (Str×V))
 |met (f x:NM)
 |rng (lo hi:j)
 |frz (o:Obj) (u:HO)
 |tbl (ps:N5 L)
 |ext (φ:NX->Prop)
abbrev Hp:=NM->B HO
noncomputable def upd (H:Hp)(a:NM)(o:HO):Hp:=λb=>if b=a then Y o else H b
theorem ag {H:Hp}{a:NM}{o:HO}:upd H a o a=Y o:=by unfold upd;rw[NR rfl]
theorem af {H:Hp}{a b:NM}{o:HO}(h:b≠a):upd H a o b=H b:=by unfold upd;rw[NW h]
theorem C3 {H:Hp}{a b:NM}{o u:HO}(h:H a=Y o)(c:H b=Y u)(d:o≠u):a≠b:=by intro e;subst e;rw[h] at c;exact d<|IJ c
theorem aK {H:Hp}{a b:NM}{o:HO}(h:H a=Y o)(c:H b=J):a≠b:=by intro e;subst e;rw[h] at c;cases c
section
variable (P:NQ)(w:H8)
def ObjOk (H:Hp)(h:NX)(a:NM):HO->Prop
|.lst d=>d.length<=sizeLine/\∃(b:U L) (n:O),Vals d b/\h.get? a=Y {cls:=.type "list",data:=.seq b.toArray n}
|.tup d=>d.length<=sizeLine/\∃b:U L,Vals d b/\Ot h a b.toArray
|.dK c=>c.length<=sizeLine/\(a==I9)=HU/\∃r,KV c r/\h.DictOf (aI P w) a r
| .dT c=>c.length<=sizeLine/\(a==I9)=HU/\∃ d:U (U Key×NM×L),
  Paired (λ(p:U Key×V) (q:U Key×NM×L)=>p.1=q.1/\H q.2.1=Y (.tup<|p.1.map kV)/\RelV p.2 q.2.2) c d /\
  ∃o k ep,h.get? a=Y o/\o.ExactDict/\o.data=.dict k ep/\k.toList=d.map (entryOfKey<|Ki<|aI P w)/\(d.map (·.1)).Nodup
|.set S n=>h.SetOf (intKind P w) a S n
| .ins C g fs=>H g=Y (.own a)/\fs.length<=1000/\g≠a/\h.get? a=Y (LV C g) /\
  ∃e,h.Ns1 g e/\(∀f,RelO (fs.lookup f)<|e f)/\MY e (fs.map (·.1))
|.own _=>∃o,h.get? a=Y o
|.xd fs=>∃e,h.Ns1 a e/\∀f,RelO (fs.lookup f)<|e f
|.rng lo s=>∃t u v,h.get? a=Y {cls:=.type "range",data:=.fields #[.int lo t,.int s u,.int 1 v]}
|.frz o u=>h.get? a=Y o/\ObjOk H h a u
|.tbl ps=>h.get? a=Y {cls:=.none,data:=.fields ps}
|.met f x=>h.get? a=Y (L5 (.ref f)<|.ref x)
|.ext i=>i h/\(∃o,h.get? a=Y o)/\∀l m:NX,i l->(∀o,l.get? a=Y o->m.get? a=Y o)->i m
def HOk (H:Hp)(h:NX):Prop:=∀a o,H a=Y o->ObjOk P w H h a o
end
section
variable {P:NQ}{w:H8}{H H':Hp}{h h':NX}{a:NM}{o:HO}
theorem ObjOk.lt (x:ObjOk P w H h a o):a<h.objs.size:=by
 cases o with
 |lst c=>obtain⟨_,_,_,_,e⟩:=x;exact Heap.lt_size e
 |tup c=>obtain⟨_,_,_,p⟩:=x;exact p.lt
 |dK b=>obtain⟨_,_,_,_,o,_,_,e,_⟩:=x;exact Heap.lt_size e
 |dT b=>obtain⟨_,_,_,_,o,_,_,e,_⟩:=x;exact Heap.lt_size e
 |set S n=>obtain⟨o,_,_,_,e,_⟩:=x;exact Heap.lt_size e
 |ins C d fs=>obtain⟨_,_,_,e,_⟩:=x;exact Heap.lt_size e
 |own y=>obtain⟨_,e⟩:=x;exact Heap.lt_size e
 |xd fs=>obtain⟨_,⟨_,_,_,e,_⟩,_⟩:=x;exact Heap.lt_size e
 |rng lo g=>obtain⟨_,_,_,e⟩:=x;exact Heap.lt_size e
 |frz i u=>obtain⟨e,_⟩:=x;exact Heap.lt_size e
 |tbl ps=>exact Heap.lt_size<|show h.get? a=Y _ from x
 |met f y=>exact Heap.lt_size<|show h.get? a=Y _ from x
 |ext k=>obtain⟨_,⟨_,e⟩,_⟩:=x;exact Heap.lt_size e
theorem Paired.mapP {e g:Type}{F G:e->g->Prop}:∀{c:U e} {d:U g},Paired F c d->(∀a b,F a b->G a b)->Paired G c d
|_,_,.nil,_=>.nil
|_,_,.cons r t,f=>.cons (f _ _ r)<|Paired.mapP t f
theorem ObjOk.stay (x:ObjOk P w H h a o)(k:∀b u,(b=a\/H b=Y (.own a))->h.get? b=Y u->h'.get? b=Y u)
  (ho:∀b,H b=Y (.own a)->H' b=Y (.own a)) (G:∀b m,H b=Y (.tup m)->H' b=Y (.tup m)):ObjOk P w H' h' a o:=by
 induction o with
 |lst m=>obtain⟨z,l,n,r,e⟩:=x;exact⟨z,l,n,r,k _ _ (.inl rfl) e⟩
 |tup m=>obtain⟨z,l,r,g,e,c⟩:=x;exact⟨z,l,r,g,k _ _ (.inl rfl) e,c⟩
 |dK s=>obtain⟨z,y,N,r,g,i,ep,e,c⟩:=x;exact⟨z,y,N,r,g,i,ep,k _ _ (.inl rfl) e,c⟩
 |dT s=>obtain⟨z,y,m,r,g,i,ep,e,c⟩:=x;exact⟨z,y,m,Paired.mapP r λp q z=>⟨z.1,G _ _ z.2.1,z.2.2⟩,g,i,ep,k _ _ (.inl rfl) e,c⟩
 |set S n=>obtain⟨g,i,ep,t,e,c⟩:=x;exact⟨g,i,ep,t,k _ _ (.inl rfl) e,c⟩
 |ins C Q fs=>obtain⟨d,z,M,e,A,⟨D,i,ep,e2,c⟩,r⟩:=x;exact⟨ho _ d,z,M,k _ _ (.inl rfl) e,A,⟨D,i,ep,k _ _ (.inr d) e2,c⟩,r⟩
 |own y=>obtain⟨g,e⟩:=x;exact⟨g,k _ _ (.inl rfl) e⟩
 |xd fs=>obtain⟨A,⟨D,i,ep,e,c⟩,r⟩:=x;exact⟨A,⟨D,i,ep,k _ _ (.inl rfl) e,c⟩,r⟩
 |rng lo Z=>obtain⟨t,u,v,e⟩:=x;exact⟨t,u,v,k _ _ (.inl rfl) e⟩
 |frz g u I=>obtain⟨e,q⟩:=x;exact⟨k _ _ (.inl rfl) e,I q⟩
 |tbl ps=>have e:h.get? a=Y {cls:=.none,data:=.fields ps}:=x;show h'.get? a=Y {cls:=.none,data:=.fields ps};exact k a _ (.inl rfl) e
 |met f y=>have e:h.get? a=Y (L5 (.ref f) (.ref y)):=x;show h'.get? a=Y (L5 (.ref f)<|.ref y);exact k a _ (.inl rfl) e
 |ext φ=>obtain⟨p,⟨o,e⟩,F⟩:=x;exact⟨F _ _ p λo q=>k _ _ (.inl rfl) q,⟨o,k _ _ (.inl rfl) e⟩,F⟩
theorem HOk.lt (x:HOk P w H h)(e:H a=Y o):a<h.objs.size:=(x a o e).lt
theorem HOk.fresh (x:HOk P w H h)(e:h.objs.size<=a):H a=none:=by
 cases q:H a with
 |none=>rfl
 |some u=>exact NP (IF (x.lt q) e)<|Kl _
theorem HOk.kept (x:HOk P w H h)(k:∀b u,h.get? b=Y u->h'.get? b=Y u):HOk P w H h':=λa o e=>
 (x a o e).stay (λb u _ q=>k b u q) (λ_ q=>q) λ_ _ q=>q
theorem HOk.laid (x:HOk P w H h)(k:∀b u,h.get? b=Y u->h'.get? b=Y u)(hp:h.objs.size<=a)(d:ObjOk P w (upd H a o) h' a o):HOk P w (upd H a o) h':=λb u e=>by
 have g:=x.fresh hp;by_cases f:b=a
 .subst f;rw[ag] at e;cases e;exact d
 .rw [af f] at e;exact(x b u e).stay (λc v _ q=>k c v q) (λc q=>by rw[af<|aK q g];exact q) λc i q=>by rw[af<|aK q g];exact q
end
def Rd (H:Hp)(a:NM)(u:HO):Prop:=H a=Y u\/∃o,H a=Y (.frz o u)
theorem Rd.ok {P:NQ}{w:H8}{H:Hp}{h:NX}{a:NM}{u:HO}(r:Rd H a u)(x:HOk P w H h):ObjOk P w H h a u:=by
 rcases r with r|⟨o,r⟩
 .exact x a u r
 .obtain ⟨_,q⟩:=x a _ r;exact q
def Mut:B HO->Prop
|some (.lst _)=>OA
|some (.dK _)=>OA
|some (.dT _)=>OA
|some (.set _ _)=>OA
|some (.ins _ _ _)=>OA
|some (.ext _)=>OA
|_=>N2
section
variable {P:NQ}{w:H8}{H:Hp}{h h':NX}{x e:NM}{o':HO}
theorem HOk.write (ok:HOk P w H h)(l:Mut<|H x)(p:e=x\/H e=Y (.own x))(k:∀b u,b≠e->h.get? b=Y u->h'.get? b=Y u)(n:∃u,h'.get? e=Y u)
  (o:ObjOk P w (upd H x o') h' x o'):HOk P w (upd H x o') h':=λb u q=>by
 have d:∀c y,H c=Y (.own y)->c≠x:=λc y r z=>by subst z;rw[r] at l;exact l
 have f:∀c m,H c=Y (.tup m)->c≠x:=λc m r z=>by subst z;rw[r] at l;exact l
 by_cases g:b=x
 .subst g;rw[ag] at q;cases q;exact o
 .rw [af g] at q;by_cases a:b=e
  .have s:H b=Y (.own x):=by
    rcases p with z|z
    .exact NP (a.trans z) g
    .rw[a];exact z
   rw[q] at s;cases s;obtain⟨v,t⟩:=n;exact⟨v,by rw[a];exact t⟩
  .refine (ok b u q).stay (fun c v i r=>k c v ?_ r) (fun c r=>by rw [af (d c b r)]; exact r) fun c m r=>by rw [af (f c m r)]; exact r
   rcases i with rfl|i
   .exact a
   .rintro rfl;rcases p with z|z
    .exact d c b i z
    .rw[i] at z;cases z;exact g rfl
end
structure Un (fs ex:U NM)(H H':Hp)(h h':NX):Prop where
 keep:∀b o,h.get? b=Y o->H b=J->b ∉ fs->b ∉ ex->h'.get? b=Y o
 slot:∀b o,h.get? b=Y o->H b=J->b∈fs->b ∉ ex->∃sl,h'.get? b=Y {o with slots:=sl}
 free:∀b o,h.get? b=Y o->H b=J->b ∉ ex->H' b=J
 there:∀b o,h.get? b=Y o->b ∉ ex->∃o',h'.get? b=Y o'
 tups:∀b xs,H b=Y (.tup xs)->H' b=Y (.tup xs)
 frzs:∀b o u,H b=Y (.frz o u)->H' b=Y (.frz o u)
 tbls:∀b ps,H b=Y (.tbl ps)->∃more,H' b=Y (.tbl (ps++more))
section
variable {fs fs' ex ex':U NM}{H H1 H2:Hp}{h h1 h2 h':NX}{a x e:NM}{o:HO}
theorem Un.any (u:Un fs ex H H1 h h1){b:NM}{c:Obj}(q:h.get? b=Y c)(n:H b=J)(hx:b ∉ ex):∃f,h1.get? b=Y {c with slots:=f}:=by
 by_cases d:b∈fs
 .exact u.slot b c q n d hx
 .exact⟨c.slots,u.keep b c q n d hx⟩
theorem Un.kept (k:∀b u,h.get? b=Y u->h'.get? b=Y u):Un fs ex H H h h':=
 ⟨λb c q _ _ _=>k b c q,λb c q _ _ _=>⟨c.slots,k b c q⟩,λ_ _ _ n _=>n,λb c q _=>⟨c,k b c q⟩,λ_ _ q=>q,λ_ _ _ q=>q,λ_ ps q=>⟨#[],by rw[q];simp⟩⟩
theorem Un.refl:Un fs ex H H h h:=Un.kept λ_ _ q=>q
theorem Un.laid (k:∀b u,h.get? b=Y u->h'.get? b=Y u)(hp:h.objs.size<=a)(c:H a=J):Un fs ex H (upd H a o) h h' where
 keep:=λb u q _ _ _=>k b u q
 slot:=λb u q _ _ _=>⟨u.slots,k b u q⟩
 free:=λb u q n _=>by rw[af<|Iw<|IF (Heap.lt_size q) hp];exact n
 there:=λb u q _=>⟨u,k b u q⟩
 tups:=λb d q=>by rw[af<|aK q c];exact q
 frzs:=λb u d q=>by rw[af<|aK q c];exact q
 tbls:=λb ps q=>⟨#[],by rw[af<|aK q c,q];simp⟩
theorem Un.write (d:Mut<|H x)(l:e=x\/H e=Y (.own x))(k:∀b u,b≠e->h.get? b=Y u->h'.get? b=Y u)(f:∃u,h'.get? e=Y u):Un fs ex H (upd H x o) h h':=by
 have hx:∀b,H b=J->b≠x:=λb n z=>by subst z;rw[n] at d;exact d
 have i:∀b,H b=J->b≠e:=λb n z=>by
  subst z;rcases l with r|r
  .exact hx b n r
  .rw[n] at r;cases r
 have g:∀b u,H b=Y u->¬Mut (Y u)->b≠x:=λb u q m z=>by subst z;rw[q] at d;exact m d
 refine⟨λb u q n _ _=>k b u (i b n) q,λb u q n _ _=>⟨u.slots,k b u (i b n) q⟩,λb u q n _=>by rw[af<|hx b n];exact n,λb u q _=>?_,
  λb p q=>by rw[af<|g b _ q λz=>z];exact q,λb u p q=>by rw[af<|g b _ q λz=>z];exact q,λb ps q=>⟨#[],by rw[af<|g b _ q λz=>z,q];simp⟩⟩
 by_cases c:b=e
 .subst c;exact f
 .exact⟨u,k b u c q⟩
end
noncomputable def trk (h:NX)(H:Hp):U NM:=(IB h.objs.size).filter λa=>(H a).isSome
def jq (h:NX)(H:Hp):NX:=PySem.W.hideAll h<|trk h H
theorem om (h:NX)(H:Hp):(jq h H).objs.size=h.objs.size:=PySem.W.hideAll_size _ _
theorem qS {h:NX}{H:Hp}{b:NM}{o:Obj}(e:h.get? b=Y o)(n:H b=J):(jq h H).get? b=Y o:=
 PySem.W.hideAll_get _ e λa=>by have q:(H b).isSome=true:=(MJ.mp a).2;rw[n] at q;simp at q
theorem xP {h:NX}{H:Hp}{b:NM}{o:Obj}(e:(jq h H).get? b=Y o):h.get? b=Y o/\H b=none:=by
 have a:h.get? b=Y o:=PySem.W.of_hideAll (trk h H) e;refine⟨a,?_⟩;cases q:H b with
 |none=>rfl
 |some x=>have c:b∈trk h H:=MJ.mpr ⟨Mc.mpr<|Heap.lt_size a,by simp[q]⟩;have z:(jq h H).get? b=none:=PySem.W.hideAll_none (trk h H) c;rw[z] at e;cases e
noncomputable def w9 (g h:NX)(b:NM):U (NM×Obj):=(IB h.objs.size).filterMap λa=>if a=b\/(g.get? a).isSome=HV then J else(h.get? a).map λo=>(a,o)
def rest (g h:NX)(a d:NM):U (NM×Obj):=(w9 g h a).filter λp=>decide (p.1≠d)
structure Mod (K:HX)(mg:Str->B L)(base:NX):Prop where
 kin:K.In base
 glob:base.Ns Im mg
 blt:∃mb,base.Ns builtinsNs mb/\∀x:Str,x≠"__name__"->mb x=Jz x
 nolimit:base.NoLimit
structure Cx where
 prog:NQ
 w:H8
 K:HX
 mg:Str->B L
 base:NX
 A:Il
 N:U Str
 s₀:HW
 H₀:Hp
 env:Env
 outer:U Env
 stack:U Env
 ex:U NM
 fn:Str->NN
 calm:NN
 pn:U (NM×Obj)
 xe:L->HW->Prop
noncomputable def frs (l:U Env):U NM:=l.filterMap (·.frame)
abbrev Cx.fs (X:Cx):U NM:=frs X.outer
def Vis (a:N9)(x:Str):Prop:=a.names.lookup x=Y .local\/a.names.lookup x=Y .cell\/a.names.lookup x=Y .free
def Loc (a:N9)(x:Str):Prop:=a.names.lookup x=Y .local\/a.names.lookup x=Y .cell
def Hy (a:Env)(h:NX)(m:Str->B L)(x:Str)(u:L):Prop:=
 (a.kindOf x=Y .local/\m x=Y u)\/((a.kindOf x=Y .cell\/a.kindOf x=Y .free)/\∃c,a.cells.lookup x=Y c/\h.IsCell c (Y u))
structure Cx.Ok (X:Cx):Prop where
 mod:Mod X.K X.mg X.base
 kind:X.env.scope.kind=.function
 glob:X.env.globals=Im
 blt:X.env.builtins=builtinsNs
 above:X.s₀.heap.objs.size<=X.env.locals
 inj:∀x y c,X.env.cells.lookup x=Y c->X.env.cells.lookup y=Y c->x=y
 has:∀x,(X.env.kindOf x=Y .cell\/X.env.kindOf x=Y .free)->∃c,X.env.cells.lookup x=Y c
 cab:∀x c,X.fn x=HV->X.env.cells.lookup x=Y c->X.s₀.heap.objs.size<=c
 hd:X.calm=HV->X.A.handled=J
 frames:X.A.frames=Y X.stack
 stk:X.stack=X.outer\/(X.stack=X.env::X.outer/\X.env.frame=Y X.env.locals)
 exf:∀b∈X.ex,b≠X.env.locals/\∀x c,X.env.cells.lookup x=Y c->c≠b
 bs:∀b o,X.base.get? b=Y o->X.s₀.heap.get? b=Y o/\X.H₀ b=J
 bsz:X.base.objs.size<=X.s₀.heap.objs.size
 noex:∀b o,X.base.get? b=Y o->b ∉ X.ex
 exfs:∀b∈X.ex,b ∉ X.fs
 funs:X.s₀.heap.FunFrames X.base X.outer
 frf:∀b∈X.fs,X.H₀ b=J
structure Inv (X:Cx)(pins:U (NM×Obj))(σ:U (B V))(H:Hp)(s:HW):Prop where
 ok:X.Ok
 os:s.os=X.s₀.os
 bare:JQ s.gens
 base:Un X.fs X.ex X.H₀ H X.s₀.heap s.heap
 loc:∃m,s.heap.Ns X.env.locals m/\∀(i:O) (x:Str) (v:V),X.N[i]?=Y x->σ[i]?=Y (Y v)->Vis X.env.scope x->∃u,RelV v u/\Hy X.env s.heap m x u
 cell:∀x c,X.env.cells.lookup x=Y c->∃v,s.heap.IsCell c v
 free:H X.env.locals=J
 freeC:∀x c,X.env.cells.lookup x=Y c->H c=J
 pin:∀p∈X.pn++pins,s.heap.get? p.1=Y p.2/\H p.1=J/\p.1≠X.env.locals/\p.1 ∉ X.fs/\∀v,p.2.data≠.cell v
 hok:HOk X.prog X.w H s.heap
 len:σ.length=X.N.length
section
variable {X:Cx}{pins:U (NM×Obj)}{σ:U (B V)}{H H':Hp}{s:HW}{h':NX}
theorem Cx.Ok.nofr (ok:X.Ok){b:NM}{o:Obj}(e:X.base.get? b=Y o):b ∉ X.fs:=λa=>by have:=(ok.funs.mem a).1;rw[e] at this;cases this
theorem Inv.bs (I:Inv X pins σ H s):∀b o,X.base.get? b=Y o->s.heap.get? b=Y o/\H b=none:=λb o e=>
 ⟨I.base.keep b o (I.ok.bs b o e).1 (I.ok.bs b o e).2 (I.ok.nofr e)<|I.ok.noex b o e,I.base.free b o (I.ok.bs b o e).1 (I.ok.bs b o e).2<|I.ok.noex b o e⟩
theorem Inv.bk (I:Inv X pins σ H s):∀b o,X.base.get? b=Y o->s.heap.get? b=Y o:=λb o e=>(I.bs b o e).1
theorem Inv.mod (I:Inv X pins σ H s):Mod X.K X.mg X.base:=I.ok.mod
theorem Inv.kIn (I:Inv X pins σ H s):X.K.In s.heap:=I.ok.mod.kin.keeps I.bk
theorem Inv.fr (I:Inv X pins σ H s):∃m,Fr X.base X.env.locals s.heap m:=
 let ⟨m,a,_⟩:=I.loc
 ⟨m,a,I.bk,Ij I.ok.bsz I.ok.above⟩
theorem Inv.lt (I:Inv X pins σ H s):X.env.locals<s.heap.objs.size:=let ⟨_,a,_⟩:=I.loc;a.lt
theorem Inv.sz (I:Inv X pins σ H s):X.s₀.heap.objs.size<=s.heap.objs.size:=Ij I.ok.above<|Lq I.lt
theorem Inv.nofs (I:Inv X pins σ H s){a:NM}(h:s.heap.objs.size<=a):a ∉ X.fs:=λb=>by obtain⟨_,o,ho,_⟩:=I.ok.funs.mem b;exact NP (IF (Heap.lt_size ho)<|Ij I.sz h)<|Kl _
theorem Inv.cne (I:Inv X pins σ H s):∀x c,X.env.cells.lookup x=Y c->c≠X.env.locals:=λx c e z=>by obtain⟨v,o,ho,hd⟩:=I.cell x c e;obtain⟨m,⟨f,d,ep,b,a,_⟩,_⟩:=I.loc;rw[z,b] at ho;cases ho;rw[a] at hd;cases hd
theorem Inv.funs (I:Inv X pins σ H s):s.heap.FunFrames X.base X.outer:=by
 have all:∀(l:U Env),(∀b∈frs l,b∈X.fs)->X.s₀.heap.FunFrames X.base l->s.heap.FunFrames X.base l:=by
  intro l;induction l with
  |nil=>intro _ _;trivial
  |cons h r n=>intro g i;obtain⟨hk,⟨a,o,f,k,ho,hd⟩,m⟩:=i;have c:a∈X.fs:=g a (by unfold frs;rw[Kr,f];exact Ih);obtain⟨p,e⟩:=I.base.slot a o ho (I.ok.frf a c) c λz=>I.ok.exfs a z c;exact⟨hk,⟨a,_,f,k,e,hd⟩,n (λb d=>g b<|by unfold frs;rw[Kr,f];exact Iz _ d) m⟩
 exact all X.outer (λ_ d=>d) I.ok.funs
theorem Inv.stack (I:Inv X pins σ H s):s.heap.FunFrames X.base X.stack:=by
 rcases I.ok.stk with e|⟨e,hf⟩
 .rw[e];exact I.funs
 .rw [e];obtain⟨m,a,_⟩:=I.loc;refine .cons (by rw[I.ok.kind];decide) hf a ?_ I.funs;exact Heap.get?_none_of_le<|Ij I.ok.bsz I.ok.above
theorem Inv.stkSub (I:Inv X pins σ H s):∀b∈frs X.stack,b∈X.env.locals::X.fs:=λb a=>by
 rcases I.ok.stk with e|⟨e,hf⟩
 .rw[e] at a;exact Iz _ a
 .rw [e] at a;unfold frs at a;rw[Kr,hf] at a;exact a
theorem Inv.stkFree (I:Inv X pins σ H s):∀b∈frs X.stack,H b=none:=λb a=>by
 rcases Ip.mp (I.stkSub b a) with e|a
 .rw[e];exact I.free
 .obtain ⟨_,o,ho,_⟩:=I.ok.funs.mem a;exact I.base.free b o ho (I.ok.frf b a) λz=>I.ok.exfs b z a
theorem Inv.step {g':N5 OB}{t':O}{d':Drawn}{ch:U NM}(I:Inv X pins σ H s)
  (g:∀b∈ch,(b∈X.ex\/X.s₀.heap.objs.size<=b)/\b≠X.env.locals/\(∀x c,X.env.cells.lookup x=Y c->c≠b)/\∀p∈X.pn++pins,p.1≠b)
  (keep:∀b o,b≠X.env.locals->b ∉ X.fs->b ∉ ch->s.heap.get? b=Y o->H b=J->h'.get? b=Y o)
  (y:∀b o,b≠X.env.locals->b∈X.fs->b ∉ ch->s.heap.get? b=Y o->H b=J->∃sl,h'.get? b=Y {o with slots:=sl}) (a:∀b o,b ∉ ch->s.heap.get? b=Y o->H b=J->H' b=J)
  (F:∀b o,b ∉ ch->s.heap.get? b=Y o->∃N,h'.get? b=Y N)
  (Q:∀b A,H b=Y (.tup A)->H' b=Y (.tup A)) (G:∀b o u,H b=Y (.frz o u)->H' b=Y (.frz o u)) (P:∀b ps,H b=Y (.tbl ps)->∃more,H' b=Y (.tbl<|ps++more))
  (ns:∀m,s.heap.Ns X.env.locals m->h'.Ns X.env.locals m) (Z:HOk X.prog X.w H' h') (hg:JQ g'):
  Inv X pins σ H' {s with heap:=h',gens:=g',drawn:=d',toks:=t'}:=by
 have M:∀b o,X.s₀.heap.get? b=Y o->b≠X.env.locals:=λb o e=>Iw<|IF (Heap.lt_size e) I.ok.above
 have t:∀b o,X.s₀.heap.get? b=Y o->b ∉ X.ex->b ∉ ch:=λb o e hx D=>by
  rcases(g b D).1 with z|z
  .exact hx z
  .exact NP (IF (Heap.lt_size e) z) (Kl _)
 have f:∀x c,X.env.cells.lookup x=Y c->∀v,s.heap.IsCell c v->h'.IsCell c v:=λx c e v ⟨o,ho,hd⟩=>by
  have h:c ∉ ch:=λz=>(g c z).2.2.1 x c e rfl;by_cases hc:c∈X.fs
  .obtain ⟨sl,q⟩:=y c o (I.cne x c e) hc h ho<|I.freeC x c e;exact⟨_,q,hd⟩
  .exact⟨o,keep c o (I.cne x c e) hc h ho<|I.freeC x c e,hd⟩
 refine⟨I.ok,I.os,hg,⟨λb o e n D hx=>?_,λb o e n D hx=>?_,λb o e n hx=>?_,λb o e hx=>?_,λb A e=>Q b A<|I.base.tups b A e,λb o A e=>G b o A<|I.base.frzs b o A e,λb ps e=>?_⟩,?_,λx c e=>?_,?_,λx c e=>?_,λp hp=>?_,Z,I.len⟩
 .exact keep b o (M b o e) D (t b o e hx) (I.base.keep b o e n D hx) (I.base.free b o e n hx)
 .obtain ⟨sl,e1⟩:=I.base.slot b o e n D hx;obtain⟨sl',e2⟩:=y b _ (M b o e) D (t b o e hx) e1<|I.base.free b o e n hx;exact⟨sl',e2⟩
 .obtain ⟨N,e1⟩:=I.base.there b o e hx;exact a b N (t b o e hx) e1<|I.base.free b o e n hx
 .obtain ⟨N,e1⟩:=I.base.there b o e hx;exact F b N (t b o e hx) e1
 .obtain ⟨m1,e1⟩:=I.base.tbls b ps e;obtain⟨m2,e2⟩:=P b _ e1;exact⟨m1++m2,by rw[e2,Nq]⟩
 .obtain ⟨m,hn,hl⟩:=I.loc;refine⟨m,ns m hn,λi x v e1 e2 e3=>?_⟩;obtain⟨u,r,l⟩:=hl i x v e1 e2 e3;refine⟨u,r,?_⟩;rcases l with l|⟨k,c,e,z⟩
  .exact .inl l
  .exact .inr ⟨k,c,e,f x c e _ z⟩
 .obtain ⟨v,z⟩:=I.cell x c e;exact⟨v,f x c e v z⟩
 .obtain ⟨m,⟨o,_,_,ho,_⟩,_⟩:=I.loc;exact a _ o (λz=>(g _ z).2.1 rfl) ho I.free
 .obtain ⟨v,o,ho,hd⟩:=I.cell x c e;exact a c o (λz=>(g c z).2.2.1 x c e rfl) ho<|I.freeC x c e
 .obtain ⟨e,n,ne,nf,d⟩:=I.pin p hp;have h:p.1 ∉ ch:=λz=>(g p.1 z).2.2.2 p hp rfl;exact⟨keep p.1 p.2 ne nf h e n,a p.1 p.2 h e n,ne,nf,d⟩
theorem Inv.un {t':O}(I:Inv X pins σ H s)(u:Un X.fs [] H H' s.heap h')(g:HOk X.prog X.w H' h'):Inv X pins σ H' {s with heap:=h',toks:=t'}:=by
 obtain⟨m,⟨o,l,ep,ho,r⟩,_⟩:=id I.loc;obtain⟨v,h⟩:=u.any ho I.free<|by simp
 exact I.step (g':=s.gens) (d':=s.drawn) (ch:=[]) (λ_ z=>nomatch z) (λb o _ f _ e n=>u.keep b o e n f<|by simp) (λb o _ f _ e n=>u.slot b o e n f<|by simp) (λb o _ e n=>u.free b o e n<|by simp) (λb o _ e=>u.there b o e<|by simp) u.tups u.frzs u.tbls (λp i=>by
  obtain⟨t,d,c,a,k⟩:=i;rw[ho] at a;cases a;exact⟨_,d,c,h,k⟩) g I.bare
theorem Inv.call {g':N5 OB}{t':O}{d':Drawn}{ch:U NM}(I:Inv X pins σ H s)(u:Un (frs X.stack) ch H H' s.heap h')(k:HOk X.prog X.w H' h')(t:JQ g')
  (d:∀b∈ch,(b∈X.ex\/X.s₀.heap.objs.size<=b)/\b≠X.env.locals/\(∀x c,X.env.cells.lookup x=Y c->c≠b)/\∀p∈X.pn++pins,p.1≠b):
  Inv X pins σ H' {s with heap:=h',gens:=g',drawn:=d',toks:=t'}:=by
 obtain⟨m,⟨o,A,ep,ho,r⟩,_⟩:=id I.loc;obtain⟨G,i⟩:=u.any ho I.free λz=>(d _ z).2.1 rfl
 exact I.step (ch:=ch) d (λb o i l a e n=>u.keep b o e n (λz=>(Ip.mp<|I.stkSub b z).elim i l) a) (λb o _ _ a e n=>u.any e n a) (λb o a e n=>u.free b o e n a) (λb o a e=>u.there b o e a) u.tups u.frzs u.tbls (λD v=>by
  obtain⟨F,h,g,f,y⟩:=v;rw[ho] at f;cases f;exact⟨_,h,g,i,y⟩) k t
theorem Inv.turned {t':O}{it:NM}(I:Inv X pins σ H s)(k:∀b o,b≠it->s.heap.get? b=Y o->h'.get? b=Y o)(y:H it=J)(f:it≠X.env.locals)
  (h:it∈X.ex\/X.s₀.heap.objs.size<=it) (i:∀x c,X.env.cells.lookup x=Y c->c≠it) (l:∀p∈X.pn++pins,p.1≠it):Inv X pins σ H {s with heap:=h',toks:=t'}:=by
 have d:∀b u,H b=Y u->b≠it:=λb u e z=>by rw[z,y] at e;cases e
 refine I.step (g':=s.gens) (d':=s.drawn) (ch:=[it]) (λb t=>?_) (λb o _ _ a e _=>k b o (λz=>a<|by simp[z]) e) (λb o _ _ a e _=>⟨o.slots,k b o (λz=>a<|by simp[z]) e⟩) (λ_ _ _ _ n=>n)
  (λb o a e=>⟨o,k b o (λz=>a<|by simp[z]) e⟩) (λ_ _ e=>e) (λ_ _ _ e=>e) (λb ps e=>⟨#[],by rw[e];simp⟩) (λm w=>?_) (λb u e=>?_) I.bare
 .have e:b=it:=by simpa using t
  subst e;exact⟨h,f,i,l⟩
 .obtain ⟨o,g,ep,ho,r⟩:=w;exact⟨o,g,ep,k _ o (IM f) ho,r⟩
 .refine (I.hok b u e).stay (fun c v a q=>k c v ?_ q) (fun _ q=>q) fun _ _ q=>q;rcases a with z|z
  .rw[z];exact d b u e
  .exact d c _ z
theorem Inv.tok (I:Inv X pins σ H s)(t:O):Inv X pins σ H {s with toks:=t}:=I.un (h':=s.heap) (t':=t) Un.refl I.hok
theorem Inv.kept {t':O}(I:Inv X pins σ H s)(k:∀b u,s.heap.get? b=Y u->h'.get? b=Y u):Inv X pins σ H {s with heap:=h',toks:=t'}:=I.un (Un.kept k)<|I.hok.kept k
theorem Inv.laid {a:NM}{o:HO}{t':O}(I:Inv X pins σ H s)(k:∀b u,s.heap.get? b=Y u->h'.get? b=Y u)(hp:s.heap.objs.size<=a)(c:ObjOk X.prog X.w (upd H a o) h' a o):
  Inv X pins σ (upd H a o) {s with heap:=h',toks:=t'}:=I.un (Un.laid k hp<|I.hok.fresh hp)<|I.hok.laid k hp c
theorem Inv.write {x e:NM}{o:HO}{g:O}(I:Inv X pins σ H s)(f:Mut<|H x)(d:e=x\/H e=Y (.own x))(k:∀b u,b≠e->s.heap.get? b=Y u->h'.get? b=Y u)(a:∃u,h'.get? e=Y u)
  (c:ObjOk X.prog X.w (upd H x o) h' x o):Inv X pins σ (upd H x o) {s with heap:=h',toks:=g}:=I.un (Un.write f d k a)<|I.hok.write f d k a c
theorem Inv.weak {a:U<|B V}(I:Inv X pins σ H s)(c:a.length=σ.length)(w:∀(i:O) v,a[i]?=Y (Y v)->σ[i]?=Y (Y v)):Inv X pins a H s:=
 ⟨I.ok,I.os,I.bare,I.base,let ⟨m,d,b⟩:=I.loc;⟨m,d,λi x v e1 e2 e3=>b i x v e1 (w i v e2) e3⟩,I.cell,I.free,I.freeC,I.pin,I.hok,c.trans I.len⟩
theorem Inv.pins_of {a:U<|NM×Obj}(I:Inv X pins σ H s)(h:∀p∈a,s.heap.get? p.1=Y p.2/\H p.1=J/\p.1≠X.env.locals/\p.1 ∉ X.fs/\∀v,p.2.data≠.cell v):Inv X a σ H s:=
 ⟨I.ok,I.os,I.bare,I.base,I.loc,I.cell,I.free,I.freeC,λp hp=>(Jw.mp hp).elim (λz=>I.pin p<|J9 _ z)<|h p,I.hok,I.len⟩
theorem jH {N:U Str}(d:N.Nodup){i c:O}{x:Str}(a:N[i]?=Y x)(b:N[c]?=Y x):i=c:=by obtain⟨e,e1⟩:=Jc.mp a;obtain⟨f,e2⟩:=Jc.mp b;exact(List.getElem_inj d).mp<|e1.trans e2.symm
theorem iB {M:Model}{A:Il}{E:L->HW->Prop}{i:O}{x:Str}{v:V}{u:L}{Q:Unit->HW->Prop}(I:Inv X pins σ H s)(hN:X.N.Nodup)(hi:X.N[i]?=Y x)(hx:Loc X.env.scope x)(r:RelV v u)
  (h:∀s',Inv X pins (σ.set i<|Y v) H s'->(∃a,Heap.SameBut a s.heap s'.heap/\(a=X.env.locals\/X.env.cells.lookup x=Y a))->Q () s') (hf:X.fn x=HV\/X.env.scope.names.lookup x=Y .local:=by first|exact .inl rfl|exact .inr rfl|assumption):NO M A (storeName X.env x u) Q E s:=by
 obtain⟨m,hn,hl⟩:=id I.loc;have hcls:(X.env.scope.kind==.class || (X.env.scope.kind==.module&&X.env.locals != X.env.globals))=false:=by rw[I.ok.kind];rfl
 have F:i < σ.length:=by rw[I.len];exact(Jc.mp hi).1
 have cne:=I.cne
 have l:∀{a:NM} {h':NX},(∃o,s.heap.get? a=Y o/\H a=J)->Heap.SameBut a s.heap h'->HOk X.prog X.w H h':=λ{a h'} ha g b ob e=>by
  obtain⟨_,_,D⟩:=ha;refine(I.hok b ob e).stay (λc w' t q=>(g.2 c ?_).trans q) (λ_ q=>q) λ_ _ q=>q;rintro rfl;rcases t with rfl|t
  .rw[D] at e;cases e
  .rw[D] at t;cases t
 rcases hx with hk|hk
 .refine wpAny_storeName_local hk hn (fun h' hn' g=>?_) hcls;obtain⟨oL,_,_,hoL,_⟩:=id hn;refine h _ ⟨I.ok,I.os,I.bare,⟨λb o e n G hx=>?_,λb o e n G hx=>?_,I.base.free,λb o e hx=>?_,I.base.tups,I.base.frzs,I.base.tbls⟩,⟨_,hn',λf y v' e1 e2 e3=>?_⟩,λy c e=>?_,I.free,I.freeC,λp hp=>?_,l ⟨oL,hoL,I.free⟩ g,by simpa using I.len⟩ ⟨_,g,.inl rfl⟩
  .exact(g.2 b<|Iw<|IF (Heap.lt_size e) I.ok.above).trans<|I.base.keep b o e n G hx
  .obtain ⟨sl,e1⟩:=I.base.slot b o e n G hx;exact⟨sl,(g.2 b<|Iw<|IF (Heap.lt_size e) I.ok.above).trans e1⟩
  .obtain ⟨o',e1⟩:=I.base.there b o e hx;exact⟨o',(g.2 b<|Iw<|IF (Heap.lt_size e) I.ok.above).trans e1⟩
  .by_cases Z:f=i
   .subst Z;rw[hi] at e1;cases e1;rw[Mp F] at e2;cases e2;exact⟨u,r,.inl ⟨hk,by simp⟩⟩
   .rw [LG (IM Z)] at e2;obtain⟨u',r',q⟩:=hl f y v' e1 e2 e3;refine⟨u',r',?_⟩;rcases q with⟨k,e⟩|⟨k,c,e,z⟩
    .refine .inl ⟨k,?_⟩;have:y≠x:=λe=>Z<|jH hN e1<|e ▸ hi;simp[this,e]
    .exact .inr ⟨k,c,e,z.sameBut g<|cne y c e⟩
  .obtain ⟨w',z⟩:=I.cell y c e;exact⟨w',z.sameBut g<|cne y c e⟩
  .obtain ⟨e,n,ne,nf,d⟩:=I.pin p hp;exact⟨(g.2 p.1 ne).trans e,n,ne,nf,d⟩
 .have P:X.fn x=true:=by
   rcases hf with z|z
   .exact z
   .rw[z] at hk;cases hk
  obtain⟨c,t⟩:=I.ok.has x<|.inl hk;obtain⟨w',z⟩:=I.cell x c t;refine wpAny_storeName_cell I.ok.kind hk t z λh' hc' g=>?_;obtain⟨oc,hoc,hocd⟩:=id z;refine h {s with heap:=h'} ⟨I.ok,I.os,I.bare,⟨λb o e n G hx=>?_,λb o e n G hx=>?_,I.base.free,λb o e hx=>?_,I.base.tups,I.base.frzs,I.base.tbls⟩,⟨m,hn.sameBut g<|IM<|cne x c t,λf y v' e1 e2 e3=>?_⟩,λy c' e=>?_,I.free,I.freeC,λp hp=>?_,l ⟨oc,hoc,I.freeC x c t⟩ g,by simpa using I.len⟩ ⟨c,g,.inr t⟩
  .exact(g.2 b<|Iw<|IF (Heap.lt_size e)<|I.ok.cab x c P t).trans<|I.base.keep b o e n G hx
  .obtain ⟨sl,e1⟩:=I.base.slot b o e n G hx;exact⟨sl,(g.2 b<|Iw<|IF (Heap.lt_size e)<|I.ok.cab x c P t).trans e1⟩
  .obtain ⟨o',e1⟩:=I.base.there b o e hx;exact⟨o',(g.2 b<|Iw<|IF (Heap.lt_size e)<|I.ok.cab x c P t).trans e1⟩
  .by_cases Z:f=i
   .subst Z;rw[hi] at e1;cases e1;rw[Mp F] at e2;cases e2;exact⟨u,r,.inr ⟨.inl hk,c,t,hc'⟩⟩
   .rw [LG (IM Z)] at e2;obtain⟨u',r',q⟩:=hl f y v' e1 e2 e3;refine⟨u',r',?_⟩;rcases q with q|⟨k,c',e,z'⟩
    .exact .inl q
    .refine .inr ⟨k,c',e,z'.sameBut g ?_⟩;rintro rfl;exact Z<|jH hN e1<|I.ok.inj _ _ _ e t ▸ hi
  .by_cases hcc:c'=c
   .subst hcc;exact⟨_,hc'⟩
   .obtain ⟨w2,z2⟩:=I.cell y c' e;exact⟨w2,z2.sameBut g hcc⟩
  .obtain ⟨e,n,ne,nf,d⟩:=I.pin p hp;refine⟨(g.2 p.1 ?_).trans e,n,ne,nf,d⟩;intro q;rw[q,hoc] at e;have q':oc=p.2:=IJ e;exact d w'<|by rw[<- q'];exact hocd
theorem jw {M:Model}{A:Il}{E:L->HW->Prop}{i:O}{x:Str}{v:V}{u:L}{Q:Unit->HW->Prop}(I:Inv X pins σ H s)(c:X.N.Nodup)(e:X.N[i]?=Y x)(hx:Loc X.env.scope x)(r:RelV v u)
  (h:∀a,Inv X pins (σ.set i<|Y v) H a->Q () a) (d:X.fn x=HV\/X.env.scope.names.lookup x=Y .local:=by first|exact .inl rfl|exact .inr rfl|assumption):NO M A (storeName X.env x u) Q E s:=
 iB I c e hx r (λa b _=>h a b) d
theorem Inv.call' {s':HW}{ch:U NM}(I:Inv X pins σ H s)(ho:s'.os=s.os)(u:Un (frs X.stack) ch H H' s.heap s'.heap)(d:HOk X.prog X.w H' s'.heap)(f:JQ s'.gens)
  (a:∀b∈ch,(b∈X.ex\/X.s₀.heap.objs.size<=b)/\b≠X.env.locals/\(∀x c,X.env.cells.lookup x=Y c->c≠b)/\∀p∈X.pn++pins,p.1≠b):Inv X pins σ H' s':=by
 obtain⟨h',g',d',t',g⟩:=s';have e:g=s.os:=ho;subst e;exact I.call (g':=g') (t':=t') (d':=d') u d f a
end
abbrev XK:=L->B NM->Hp->Prop
abbrev St:=U<|B V
abbrev VK:=V->Hp->Prop
abbrev TE:=St->Hp->VK->Prop
abbrev TT:=St->Hp->(NN->Hp->Prop)->Prop
abbrev TA:=St->Hp->(U V->Hp->Prop)->Prop
structure bp where
 nx:St->Hp->Prop
 rt:VK
 bk:St->Hp->Prop:=λ_ _=>N2
 ct:St->Hp->Prop:=λ_ _=>N2
abbrev TS:=bp->St->Hp->Prop
def EP (X:Cx)(a:U<|NM×Obj)(d:St)(Q:VK)(u:L)(c:HW):Prop:=∃v b,Inv X a d b c/\RelV v u/\Q v b
def TP (X:Cx)(a:U<|NM×Obj)(e:St)(Q:NN->Hp->Prop)(b:NN)(d:HW):Prop:=∃c,Inv X a e c d/\Q b c
def AP (X:Cx)(a:U<|NM×Obj)(f:St)(Q:U V->Hp->Prop)(e:U L)(d:HW):Prop:=∃c b,Inv X a f b d/\Vals c e/\Q c b
def SP (X:Cx)(b:U<|NM×Obj)(D:bp)(f:Flow)(d:HW):Prop:=
 match f with
 |.next=>∃a c,Inv X b a c d/\D.nx a c
 |.brk=>∃a c,Inv X b a c d/\D.bk a c
 |.cont=>∃a c,Inv X b a c d/\D.ct a c
 |.ret u=>∃v a c,Inv X b a c d/\RelV v u/\D.rt v c
def PE (X:Cx)(e:NV)(t:TE):Prop:=
 ∀(a:U<|NM×Obj) (s:HW) (b:St) (H:Hp) (Q:VK),Inv X a b H s->t b H Q->NO (HZ X.prog X.w) X.A (N3 e X.env) (EP X a b Q) X.xe s
def PT (X:Cx)(e:NV)(t:TT):Prop:=
 ∀(a:U<|NM×Obj) (s:HW) (b:St) (H:Hp) (Q:NN->Hp->Prop),Inv X a b H s->t b H Q->NO (HZ X.prog X.w) X.A (OL e X.env<|N3 e X.env) (TP X a b Q) X.xe s
def PW (X:Cx)(e:NV)(t:TT):Prop:=
 ∀(b:Sem L) (a:U<|NM×Obj) (s:HW) (c:St) (H:Hp) (Q:NN->Hp->Prop),Inv X a c H s->t c H Q->NO (HZ X.prog X.w) X.A (OL e X.env b) (TP X a c Q) X.xe s
theorem PW.pt {X:Cx}{e:NV}{t:TT}(h:PW X e t):PT X e t:=h _
def PA (X:Cx)(d:U NV)(t:TA):Prop:=
 ∀(b:Pos) (a:U<|NM×Obj) (s:HW) (c:St) (H:Hp) (Q:U V->Hp->Prop),Inv X a c H s->t c H Q->NO (HZ X.prog X.w) X.A (spliced<|Iy b<|H9 d X.env) (AP X a c Q) X.xe s
def PS (X:Cx)(c:N4)(t:TS):Prop:=
 ∀(a:U<|NM×Obj) (s:HW) (b:St) (H:Hp) (D:bp),Inv X a b H s->t D b H->NO (HZ X.prog X.w) X.A (exec c X.env) (SP X a D) X.xe s
def PSs (X:Cx)(c:U N4)(t:TS):Prop:=
 ∀(a:U<|NM×Obj) (s:HW) (b:St) (H:Hp) (D:bp),Inv X a b H s->t D b H->NO (HZ X.prog X.w) X.A (execs c X.env) (SP X a D) X.xe s
theorem thn {c:Type}{t:Sem c}{Q b:c->HW->Prop}{M:Model}{A:Il}{E:L->HW->Prop}{s:HW}(h:NO M A t Q E s)(d:∀a s,Q a s->b a s):NO M A t b E s:=ID h d λ_ _ x=>x
section
variable {X:Cx}
def iR (i:O):TE:=λa H Q=>∃v,a[i]?=Y (Y v)/\Q v H
def tC (v:V):TE:=λ_ H Q=>Q v H
theorem bE {i:O}{x:Str}{g:Pos}(n:X.N[i]?=Y x)(w:Vis X.env.scope x)(hd:(x==("__debug__":Str))=false:=by decide)(f:(x==("__classdict__":Str))=false:=by decide):PE X (.Name x g) (iR i):=by
 intro d s y H Q I h;obtain⟨v,e,h⟩:=h;obtain⟨m,t,o⟩:=I.loc;obtain⟨u,r,l⟩:=o i x v n e w;have b:EP X d y Q u s:=⟨v,H,I,r,h⟩;rcases l with⟨hk,p⟩|⟨hk,c,k,a⟩
 .exact wpAny_Name (wpAny_loadName_local I.ok.kind hk t p b) hd
 .rcases hk with hk | hk
  .exact wpAny_Name (wpAny_loadName_cell I.ok.kind hk k a b) hd
  .exact wpAny_Name (wpAny_loadName_free I.ok.kind hk k a b f) hd
theorem gm {i j pos}:PE X (.Constant (.int i) j pos) (tC<|.int i):=λ_ _ _ H _ I h=>wpAny_Constant_int ⟨.int i,H,I.tok _,⟨_,rfl⟩,h⟩
theorem FJ {b j pos}:PE X (.Constant (.bool b) j pos) (tC<|.bl b):=λ_ _ _ H _ I h=>Constant_bool ⟨.bl b,H,I,rfl,h⟩
theorem AY {j pos}:PE X (.Constant .none j pos) (tC .non):=λ_ _ _ H _ I h=>Constant_none ⟨.non,H,I,rfl,h⟩
theorem q8 {x j pos}:PE X (.Constant (.str x) j pos) (tC<|.str x):=λ_ _ _ H _ I h=>Calls.Constant_str ⟨.str x,H,I.tok _,⟨_,rfl⟩,h⟩
def Gl (X:Cx)(x:Str):Prop:=X.env.kindOf x=Y .globalImplicit
theorem mM {E:L->HW->Prop}{a:U<|NM×Obj}{s:HW}{e:St}{H:Hp}{x:Str}{u:L}{b:Pos}{Q:L->HW->Prop}(I:Inv X a e H s)(c:Gl X x)(d:X.mg x=Y u)(h:Q u s)
  (hd:(x==("__debug__":Str))=false:=by decide):NO (HZ X.prog X.w) X.A (N3 (.Name x b) X.env) Q E s:=
 Calls.Name_function_global I.ok.kind c (Calls.loadGlobal_global (by rw[I.ok.glob];exact I.mod.glob.keeps I.bk) d h) hd
theorem dq {E:L->HW->Prop}{a:U<|NM×Obj}{s:HW}{k:St}{H:Hp}{x:Str}{u:L}{b:Pos}{Q:L->HW->Prop}(I:Inv X a k H s)(e:Gl X x)(f:X.mg x=J)(i:Jz x=Y u)(h:Q u s)
  (g:x≠"__name__":=by decide) (hd:(x==("__debug__":Str))=false:=by decide):NO (HZ X.prog X.w) X.A (N3 (.Name x b) X.env) Q E s:=by
 obtain⟨l,c,d⟩:=I.mod.blt;exact Calls.Name_function_global I.ok.kind e (Calls.loadGlobal_builtin (by rw[I.ok.glob];exact I.mod.glob.keeps I.bk) f (by rw[I.ok.blt];exact c.keeps I.bk) ((d x g).trans i) h) hd
theorem lU {x:Str}{v:V}{u:L}{a:Pos}(b:Gl X x)(c:X.mg x=Y u)(r:RelV v u)(hd:(x==("__debug__":Str))=false:=by decide):PE X (.Name x a) (tC v):=
 λ_ _ _ H _ I h=>mM I b c ⟨v,H,I,r,h⟩ hd
theorem wX {x:Str}{v:V}{u:L}{a:Pos}(b:Gl X x)(c:X.mg x=J)(e:Jz x=Y u)(r:RelV v u)(d:x≠"__name__":=by decide)(hd:(x==("__debug__":Str))=false:=by decide):PE X (.Name x a) (tC v):=
 λ_ _ _ H _ I h=>dq I b c e ⟨v,H,I,r,h⟩ d hd
variable {a b:NV}{ta tb:TE}{pos:Pos}
def PC (X:Cx)(op:CmpOp)(a b:NV)(t:TE):Prop:=
 ∀(c:U<|NM×Obj) (s:HW) (f:St) (H:Hp) (Q:VK),Inv X c f H s->t f H Q ->
  NO (HZ X.prog X.w) X.A (N3 a X.env) (λv d=>NO (HZ X.prog X.w) X.A (N3 b X.env) (λu e=>NO (HZ X.prog X.w) X.A (I0 op v u) (EP X c f Q) X.xe e) X.xe d) X.xe s
noncomputable def tB (t:TE):TT:=λe H Q=>t e H λx d=>∃c,x=.bl c/\Q c d
theorem AX {op:CmpOp}{t:TE}(h:PC X op a b t)(f:JA op b=false:=by first|exact nobehind _ (by decide) (by decide)|rfl):PT X (.Compare a [op] [b] pos) (tB t):=by intro e s n H Q I l;refine Om (thn (h e s n H _ I l) λv o f=>thn f λu p k=>thn k λc r ⟨x,g,i,r1,m⟩=>?_) f;obtain⟨d,rfl,q⟩:=m;cases r1;exact Lg ⟨g,i,q⟩
variable {tA tB':TT}{rest:U NV}
noncomputable def Ek (t u:TT):TT:=λe H Q=>t e H λc d=>if c=HV then u e d Q else Q HU d
noncomputable def tOr (t u:TT):TT:=λe H Q=>t e H λc d=>if c=HV then Q HV d else u e d Q
def DC (t:TT):TT:=λe H Q=>t e H λc d=>Q (!c) d
theorem uM (f:PT X a tA):PW X (.BoolOp .And [a] pos) tA:=by
 intro k d s g H Q I h;refine isTrue_and<|thn (f d s g H Q I h) λc i e=>?_;cases c with
 |true=>exact isTrue_and_nil e
 |false=>exact e
theorem AH (f:PT X a tA):PW X (.BoolOp .Or [a] pos) tA:=by
 intro k d s g H Q I h;refine isTrue_or<|thn (f d s g H Q I h) λc i e=>?_;cases c with
 |false=>exact isTrue_or_nil e
 |true=>exact e
theorem y9 (k:PT X a tA)(l:PW X (.BoolOp .And (b::rest) pos) tB'):PW X (.BoolOp .And (a::b::rest) pos) (Ek tA tB'):=by
 intro n d s i H Q I h;refine isTrue_and<|thn (k d s i H _ I h) λc m ⟨e,f,g⟩=>?_;cases c with
 |true=>exact l n d m i e Q f g
 |false=>exact⟨e,f,g⟩
theorem Fv (k:PT X a tA)(l:PW X (.BoolOp .Or (b::rest) pos) tB'):PW X (.BoolOp .Or (a::b::rest) pos) (tOr tA tB'):=by
 intro n d s i H Q I h;refine isTrue_or<|thn (k d s i H _ I h) λc m ⟨e,f,g⟩=>?_;cases c with
 |true=>exact⟨e,f,g⟩
 |false=>exact l n d m i e Q f g
theorem A8 (f:PT X a tA):PT X (.UnaryOp .Not a pos) (DC tA):=by intro d s g H Q I h;exact isTrue_not<|f d s g H (λc e=>Q (!c) e) I h
noncomputable def tIf (t:TT)(ta tb:TE):TE:=λd H Q=>t d H λc e=>if c=HV then ta d e Q else tb d e Q
theorem oZ {c:NV}(o:PT X c tA)(m:PE X a ta)(n:PE X b tb):PE X (.IfExp c a b pos) (tIf tA ta tb):=by
 intro e s f H Q I h;refine wpAny_IfExp<|thn (o e s f H _ I h) λd l ⟨g,i,k⟩=>?_;cases d with
 |true=>exact m e l f g Q i k
 |false=>exact n e l f g Q i k
end
def SqL (K:HX)(H:Hp)(a:NM)(c:U V):Prop:=
 Rd H a (.lst c) \/
  ∃(o:Obj) (b:N5 L) (n:O),K.lookup a=Y o/\o.cls=.type "list"/\o.dict=J/\o.data=.seq b n/\b.size<=sizeLine/\Vals c b.toList
def SqT (K:HX)(H:Hp)(a:NM)(c:U V):Prop:=
 Rd H a (.tup c) \/
  ∃(o:Obj) (b:N5 L) (n:O),K.lookup a=Y o/\o.cls=.type "tuple"/\o.data=.seq b n/\b.size<=sizeLine/\Vals c b.toList
def GY:L->B V
|.none=>Y .non
|.bool b=>Y<|.bl b
|.int i _=>Y<|.int i
|.str x _=>Y<|.str x
|.bytes b _=>Y<|.byt b
|.float b _=>Y<|.flt b
|.ref a=>Y<|.ref a
|.type n=>Y<|.ty n
|_=>J
theorem RelV.abs {x:V}{u:L}(r:RelV x u):GY u=Y x:=by
 cases x with
 |non=>cases r;rfl
 |bl _=>cases r;rfl
 |int _=>obtain⟨t,rfl⟩:=r;rfl
 |str _=>obtain⟨t,rfl⟩:=r;rfl
 |byt _=>obtain⟨t,rfl⟩:=r;rfl
 |flt _=>obtain⟨t,rfl⟩:=r;rfl
 |ref _=>cases r;rfl
 |ty _=>cases r;rfl
theorem RelV.inj {x y:V}{u:L}(r:RelV x u)(q:RelV y u):x=y:=IJ<|r.abs.symm.trans q.abs
theorem Vals.inj:∀{b c:U V} {a:U L},Vals b a->Vals c a->b=c
|_,_,_,.nil,.nil=>rfl
|_,_,_,.cons r t,.cons d e=>by rw[r.inj d,Vals.inj t e]
section
variable {X:Cx}{pins:U (NM×Obj)}{σ:St}{H:Hp}{s:HW}{a:NM}{xs ys:U V}
theorem SqL.of {K:HX}(h:H a=Y (.lst xs)):SqL K H a xs:=.inl<|.inl h
theorem SqT.of {K:HX}(h:H a=Y (.tup xs)):SqT K H a xs:=.inl<|.inl h
theorem Inv.list (I:Inv X pins σ H s)(h:SqL X.K H a xs):∃b:U L,Vals xs b/\PlainL s.heap a b.toArray/\xs.length<=sizeLine:=by
 rcases h with h|⟨o,b,n,hk,hc,hd,hs,hz,r⟩
 .obtain ⟨z,b,n,r,e⟩:=h.ok I.hok;exact⟨b,r,⟨_,n,e,rfl,rfl,rfl⟩,z⟩
 .refine ⟨b.toList,r,⟨o,n,I.kIn a o hk,hc,hd,by simpa using hs⟩,?_⟩;have e:=r.length;simp only[JH] at e;lia
theorem Inv.tuple (I:Inv X pins σ H s)(h:SqT X.K H a xs):∃b:U L,Vals xs b/\Ot s.heap a b.toArray/\xs.length<=sizeLine:=by
 rcases h with h|⟨o,b,n,hk,hc,hs,hz,r⟩
 .obtain ⟨z,b,r,p⟩:=h.ok I.hok;exact⟨b,r,p,z⟩
 .refine ⟨b.toList,r,⟨o,I.kIn a o hk,hc,n,by simpa using hs⟩,?_⟩;have e:=r.length;simp only[JH] at e;lia
theorem Inv.list_inj (I:Inv X pins σ H s)(h:SqL X.K H a xs)(i:SqL X.K H a ys):xs=ys:=by
 obtain⟨c,r,⟨o,n,e,_,_,d⟩,_⟩:=I.list h;obtain⟨b,k,⟨m,l,g,_,_,f⟩,_⟩:=I.list i;rw[e] at g;cases g;rw[d] at f;injection f with d1 _
 have:c=b:=by simpa using N1 MX d1
 subst this;exact r.inj k
theorem Inv.tuple_inj (I:Inv X pins σ H s)(h:SqT X.K H a xs)(i:SqT X.K H a ys):xs=ys:=by
 obtain⟨c,r,⟨o,e,_,n,d⟩,_⟩:=I.tuple h;obtain⟨b,k,⟨m,g,_,l,f⟩,_⟩:=I.tuple i;rw[e] at g;cases g;rw[d] at f;injection f with d1 _
 have:c=b:=by simpa using N1 MX d1
 subst this;exact r.inj k
end
abbrev Cx.wish (X:Cx)(E:L->HW->Prop):Cx:={X with xe:=E}
abbrev Cx.nox (X:Cx):Cx:=X.wish λ_ _=>N2
theorem Cx.Ok.wish {X:Cx}(ok:X.Ok)(E:L->HW->Prop):(X.wish E).Ok:=
 ⟨ok.mod,ok.kind,ok.glob,ok.blt,ok.above,ok.inj,ok.has,ok.cab,ok.hd,ok.frames,ok.stk,ok.exf,ok.bs,ok.bsz,ok.noex,ok.exfs,ok.funs,ok.frf⟩
theorem Cx.Ok.unwish {X:Cx}{E:L->HW->Prop}(ok:(X.wish E).Ok):X.Ok:=
 ⟨ok.mod,ok.kind,ok.glob,ok.blt,ok.above,ok.inj,ok.has,ok.cab,ok.hd,ok.frames,ok.stk,ok.exf,ok.bs,ok.bsz,ok.noex,ok.exfs,ok.funs,ok.frf⟩
section
variable {X:Cx}{pins:U (NM×Obj)}{σ:St}{H:Hp}{s:HW}{E:L->HW->Prop}
theorem Inv.wish (I:Inv X pins σ H s)(E:L->HW->Prop):Inv (X.wish E) pins σ H s:=⟨I.ok.wish E,I.os,I.bare,I.base,I.loc,I.cell,I.free,I.freeC,I.pin,I.hok,I.len⟩
theorem Inv.unwish (I:Inv (X.wish E) pins σ H s):Inv X pins σ H s:=⟨I.ok.unwish,I.os,I.bare,I.base,I.loc,I.cell,I.free,I.freeC,I.pin,I.hok,I.len⟩
theorem SP.unwish {D:bp}{f:Flow}{c:HW}(h:SP (X.wish E) pins D f c):SP X pins D f c:=by
 cases f with
 |next=>obtain⟨a,b,I,q⟩:=h;exact⟨a,b,I.unwish,q⟩
 |brk=>obtain⟨a,b,I,q⟩:=h;exact⟨a,b,I.unwish,q⟩
 |cont=>obtain⟨a,b,I,q⟩:=h;exact⟨a,b,I.unwish,q⟩
 |ret u=>obtain⟨v,a,b,I,r,q⟩:=h;exact⟨v,a,b,I.unwish,r,q⟩
theorem PSs.nox {a:U N4}{t:TS}(h:PSs X.nox a t):PSs X a t:=λpins s σ H D I b=>
 ID (h pins s σ H D (I.wish _) b) (λ_ _ q=>q.unwish) λ_ _ z=>Jr z
end
section
variable {X:Cx}{st:N4}{rest:U N4}{t u:TS}{e:NV}{te:TE}{pos:Pos}
def yO:TS:=λD a H=>D.nx a H
def C7 (t u:TS):TS:=λD a H=>t {D with nx:=u D} a H
theorem uO:PSs X [] yO:=λ_ _ a H _ I h=>Lh ⟨a,H,I,h⟩
theorem r6 (g:PS X st t)(i:PSs X rest u):PSs X (st::rest) (C7 t u):=by
 intro a s l H D I h;refine wpAny_execs_cons<|thn (g a s l H {D with nx:=u D} I h) λf k q=>?_;cases f with
 |next=>obtain⟨b,c,d,q⟩:=q;exact i a k b c D d q
 |ret v=>exact q
 |brk=>exact q
 |cont=>exact q
theorem wM (b:PS X st t):PSs X [st] t:=by
 intro a s c H D I h;refine wpAny_execs_cons<|thn (b a s c H D I h) λf d q=>?_;cases f with
 |next=>exact Lh q
 |ret v=>exact q
 |brk=>exact q
 |cont=>exact q
theorem Inv.quiet {a:U<|NM×Obj}{b:St}{H:Hp}{s:HW}(I:Inv X a b H s):interactive X.env=false:=by simp[interactive,I.ok.kind]
def yk (te:TE):TS:=λD a H=>te a H λ_ b=>D.nx a b
theorem eY (f:PE X e te)(g:Jf e J pos.line X.env=pure false:=by rfl):PS X (.Expr e pos) (yk te):=by intro a s b H D I h;exact wpAny_Expr_any (thn (f a s b H _ I h) λv k ⟨x,c,d,r1,i⟩=>⟨b,c,d,i⟩) I.quiet g
def FU (te:TE):TS:=λD a H=>te a H D.rt
theorem Av (f:PE X e te):PS X (.Return (Y e) pos) (FU te):=by intro a s b H D I h;exact wpAny_Return_some<|thn (f a s b H _ I h) λv i ⟨x,c,d,r1,g⟩=>⟨x,b,c,d,r1,g⟩
noncomputable def DZ (c:TT)(t u:TS):TS:=λD a H=>c a H λb d=>if b=HV then t D a d else u D a d
theorem F5 {c:NV}{a b:U N4}{n:TT}(r:PT X c n)(o:PSs X a t)(p:PSs X b u):PS X (.If c a b pos) (DZ n t u):=by
 intro f s g H D I h;refine wpAny_If<|thn (r f s g H _ I h) λd m ⟨i,k,l⟩=>?_;cases d with
 |true=>exact o f m g i D k l
 |false=>exact p f m g i D k l
end
abbrev TG:=V->St->Hp->(St->Hp->Prop)->Prop
abbrev TGs:=U V->St->Hp->(St->Hp->Prop)->Prop
def PG (X:Cx)(a:NV)(t:TG):Prop:=
 ∀(b:U<|NM×Obj) (s:HW) (e:St) (H:Hp) (v:V) (u:L) (Q:St->Hp->Prop),Inv X b e H s->RelV v u->t v e H Q ->
  NO (HZ X.prog X.w) X.A (Jq a X.env u) (λ_ f=>∃c d,Inv X b c d f/\Q c d) X.xe s
def PGs (X:Cx)(h:U NV)(t:TGs):Prop:=
 ∀(a:U<|NM×Obj) (s:HW) (f:St) (H:Hp) (e:U V) (d:U L) (Q:St->Hp->Prop),Inv X a f H s->Vals e d->t e f H Q ->
  NO (HZ X.prog X.w) X.A (assignInOrder ((Kc h X.env).map (·.2)) d) (λ_ g=>∃b c,Inv X a b c g/\Q b c) X.xe s
abbrev Cn:=V->V->V->Hp->(Hp->Prop)->Prop
def FP (X:Cx)(t:Cn):Prop:=
 ∀(a:U<|NM×Obj) (s:HW) (d:St) (H:Hp) (o i v:V) (c iv u:L) (Q:Hp->Prop),Inv X a d H s->RelV o c->RelV i iv->RelV v u->t o i v H Q ->
  NO (HZ X.prog X.w) X.A (setItem c iv u) (λ_ e=>∃b,Inv X a d b e/\Q b) X.xe s
section
variable {X:Cx}{pos:Pos}
def bZ (i:O):TG:=λv a H Q=>Q (a.set i<|Y v) H
theorem bF {i:O}{x:Str}(c:X.N.Nodup)(e:X.N[i]?=Y x)(hx:Loc X.env.scope x)(d:X.fn x=HV\/X.env.scope.names.lookup x=Y .local:=by first|exact .inl rfl|exact .inr rfl|assumption):PG X (.Name x pos) (bZ i):=by intro a s g H v u Q I r h;exact wpAny_assign_Name<|jw I c e hx r (λf b=>⟨_,H,b,h⟩) d
def vX:TGs:=λa b H Q=>a=[]/\Q b H
noncomputable def eQ (t:TG)(u:TGs):TGs:=λc d H Q=>∃v r,c=v::r/\t v d H λa b=>u r a b Q
theorem i5:PGs X [] vX:=by intro a s b H d c Q I r h;obtain⟨e,h⟩:=h;subst e;cases r;exact assignInOrder_nil ⟨b,H,I,h⟩
theorem bN {e:NV}{b:U NV}{t:TG}{u:TGs}(g:PG X e t)(i:PGs X b u)
  (k:(Kc (e::b) X.env).map (·.2)=Jq e X.env::(Kc b X.env).map (·.2):=by rfl):PGs X (e::b) (eQ t u):=by
 intro a s o H x p Q I r h;obtain⟨v,w,e1,h⟩:=h;subst e1;cases r with
 |cons r m=>rw[k];refine assignInOrder_cons<|thn (g a s o H _ _ _ I r h) λ_ n ⟨c,d,f,l⟩=>?_;exact i a n c d _ _ Q f m l
def vV (K:HX)(n:O)(t:TGs):TG:=λv c H Q=>∃a b,v=.ref a/\SqT K H a b/\b.length=n/\t b c H Q
theorem lE {d:U NV}{k:O}{t:TGs}{n:O}(w:X.calm=HV)(h:PGs X d t)
  (y:(Kc d X.env).length=n:=by rfl) (f:(Kc d X.env).findIdx? (·.1)=none:=by rfl):PG X (.Tuple d k pos) (vV X.K n t):=by
 intro c s l H v u Q I r g;obtain⟨a,F,e1,z,x,g⟩:=g;subst e1;cases r;obtain⟨D,i,A,G⟩:=I.tuple z;refine assign_Tuple_tuple (I.ok.hd w) A (by simp[y,<- x,i.length]) f λp hx=>?_;have m:Inv X c l H {s with heap:=p}:=I.kept (t':=s.toks) λb o e=>hx b o (Iw<|Heap.lt_size e) e;exact h c _ l H F _ Q m (by simpa using i) g
noncomputable def Gv (to e:TE)(t:Cn):TG:=λv a H Q=>to a H λo b=>e a b λi c=>t o i v c λd=>Q a d
theorem AL {o i:NV}{to d:TE}{t:Cn}(ho:PE X o to)(p:PE X i d)(w:FP X t)
  (n:∀ v,Jq (.Subscript o i pos) X.env v=(do
   let b <- J0 [v] (N3 o X.env);let iv <- J0 [v,b] (N3 i X.env)
   standAt pos
   J0 [v,b,iv] (setItem b iv v)
   release [v,b,iv] []):=by intro _;rfl):PG X (.Subscript o i pos) (Gv to d t):=by
 intro a s c H v u Q I r h;rw[n];refine HY<|Kf<|thn (ho a s c H _ I h) λb F ⟨x,e,k,r1,z⟩=>?_;refine HY<|Kf<|thn (p a F c e _ k z) λiv G ⟨y,f,l,r2,A⟩=>?_;refine HY<|Ld<|HY<|Kf<|thn (w a G c f x y v b iv u _ l r1 r2 r A) λ_ M ⟨g,m,D⟩=>?_;exact wpAny_release ⟨c,g,m,D⟩
def qL (c:TE)(g:TG):TS:=λD a H=>c a H λx b=>g x a b D.nx
theorem BA {b e:NV}{c:TE}{g:TG}(l:PE X e c)(m:PG X b g)(n:swapsWithSole [b] e pos.line X.env=pure false:=by rfl)(o:swappedStores [b] e X.env=pure none:=by rfl)
  (k:(Kc [b] X.env).map (·.2)=[Jq b X.env]:=by rfl):PS X (.Assign [b] e pos) (qL c g):=by
 intro a s d H D I h;refine wpAny_Assign_stores (thn (l a s d H _ I h) λv r ⟨x,f,i,r1,p⟩=>?_) n o;rw[k];exact thn (m a r d f x v _ i r1 p) λ_ t q=>q
theorem zI {i:O}{x:Str}{e:NV}{c:TE}{a:Pos}(k:X.N.Nodup)(n:X.N[i]?=Y x)(hx:Loc X.env.scope x)(l:PE X e c)(o:Jf e (Y<|.Name x a) pos.line X.env=pure false:=by rfl)(m:X.fn x=HV\/X.env.scope.names.lookup x=Y .local:=by first|exact .inl rfl|exact .inr rfl|assumption):
  PS X (.Assign [.Name x a] e pos) (qL c<|bZ i):=by
 intro b s r H D I h;refine wpAny_Assign_Name (thn (l b s r H _ I h) λv t ⟨y,d,f,r1,p⟩=>?_) o;exact jw f k n hx r1 (λu g=>⟨_,d,g,p⟩) m
end
structure It where
 go:O->Hp->Prop
 yld:O->Hp->V->Hp->Prop
 stop:O->Hp->Prop
def gK (X:Cx)(a:U<|NM×Obj)(H:Hp)(b:NM):Prop:=
 H b=J/\b≠X.env.locals/\b ∉ X.fs/\(b∈X.ex\/X.s₀.heap.objs.size<=b)/\(∀x c,X.env.cells.lookup x=Y c->c≠b)/\∀p∈X.pn++a,p.1≠b
theorem Inv.fpOk {X:Cx}{a:U<|NM×Obj}{h:St}{H f:Hp}{s:HW}{b:NM}(I:Inv X a h H s)(d:s.heap.objs.size<=b)(g:f b=J):gK X a f b:=by
 refine⟨g,JG<|IF I.lt d,I.nofs d,.inr<|Ij I.sz d,λx c e z=>?_,λp hp z=>?_⟩
 .obtain ⟨v,q⟩:=I.cell x c e;exact NP (IF q.lt<|by rw[z];exact d)<|Kl _
 .exact NP (IF (Heap.lt_size (I.pin p hp).1)<|by rw[z];exact d) (Kl _)
structure lR (P:NQ)(w:H8)(K:HX)(tg:NV)(J:It)(fp:U NM)(it:NM)(tn:O->NX->Prop):Prop where
 mem:it∈fp
 obj:∀i h,tn i h->∀b∈fp,∃o,h.get? b=Y o/\∀v,o.data≠.cell v
 keep:∀i h h',tn i h->(∀b∈fp,∀o,h.get? b=Y o->h'.get? b=Y o)->tn i h'
 item:∀(X:Cx),X.prog=P->X.w=w->X.K=K->X.calm=HV->∀(i:O) (pins:U (NM×Obj)) (s:HW) (σ:St) (H:Hp) (E:L->HW->Prop),Inv X pins σ H s->(∀b∈fp,gK X pins H b)->tn i s.heap->J.go i H ->
  NO (HZ P w) X.A (JI (.ref it)) (λr s1=>∃u,r=Y u /\
   NO (HZ P w) X.A (Ku tg (.ref it) u) (λ_ s2=>∃x H',Inv X pins σ H' s2/\RelV x u/\J.yld i H x H'/\tn (i+1) s2.heap/\∀b∈fp,H' b=HS) E s1) E s
 done:∀(X:Cx),X.prog=P->X.w=w->X.K=K->X.calm=HV->∀(i:O) (pins:U (NM×Obj)) (s:HW) (σ:St) (H:Hp) (E:L->HW->Prop),Inv X pins σ H s->(∀b∈fp,gK X pins H b)->tn i s.heap->J.stop i H ->
  NO (HZ P w) X.A (JI (.ref it)) (λr s1=>r=HS/\Inv X pins σ H s1) E s
 self:∀(A:Il) (i:O) (s:HW) (Q:L->HW->Prop) (E:L->HW->Prop),tn i s.heap->Q (.ref it) s->NO (HZ P w) A (pyIter (.ref it)) Q E s
abbrev TI:=St->Hp->(It->Hp->Prop)->Prop
def PIE (X:Cx)(c:U<|NM×Obj)(k:St)(i:NV)(R:It->Hp->Prop)(e:L)(h:HW):Prop:=
 ∃(g:NM) (f:U NM) (tn:O->NX->Prop) (a:It) (d:Hp),e=.ref g/\Inv X c k d h/\lR X.prog X.w X.K i a f g tn/\tn 0 h.heap/\(∀b∈f,gK X c d b)/\R a d
def PI (X:Cx)(e b:NV)(f:TI):Prop:=
 ∀(a:U<|NM×Obj) (s:HW) (c:St) (H:Hp) (R:It->Hp->Prop),Inv X a c H s->f c H R ->
  NO (HZ X.prog X.w) X.A (N3 b X.env) (λv d=>NO (HZ X.prog X.w) X.A (pyIter v) (PIE X a c e R) X.xe d) X.xe s
theorem sY {M:Model}{A:Il}{E:L->HW->Prop}{s:HW}{c:NV}{b:NM}{u:L}{o:Obj}{n:NU}{d:N5 L}{Q:Unit->HW->Prop}(ho:s.heap.get? b=Y o)(e:o.cls=.type n)(hd:o.data=.fields d)
  (f:["enumerate","zip","dict_itemiterator","dict_reverseitemiterator","odict_iterator","itertools.zip_longest","itertools.pairwise"].contains n=HU) (a:Q () s):NO M A (Ku c (.ref b) u) Q E s:=by
 unfold Ku
 cases c<;>first
  |exact Ia a
  | (cases u<;>first
    |exact Ia a
    | (refine HY (wpAny_load ho ?_)
       rw[e,hd];show NO M A (if(["enumerate","zip","dict_itemiterator","dict_reverseitemiterator","odict_iterator","itertools.zip_longest","itertools.pairwise"].contains n&&d[0]?==Y (JC _))=HV then _ else _) Q E s;rw[NW<|by intro h;rw[f,Bool.false_and] at h;cases h];exact Ia a))
def Itl (K:HX)(a:NM):It:=
 ⟨λi H=>∃b x,SqL K H a b/\b[i]?=Y x,λi H x c=>c=H/\∀b,SqL K H a b->b[i]?=Y x,λi H=>∃b,SqL K H a b/\b.length<=i⟩
def Itt (K:HX)(a:NM):It:=
 ⟨λi H=>∃b x,SqT K H a b/\b[i]?=Y x,λi H x c=>c=H/\∀b,SqT K H a b->b[i]?=Y x,λi H=>∃b,SqT K H a b/\b.length<=i⟩
def Itr (lo:j)(n:O):It:=⟨λi _=>i<n,λi H x a=>a=H/\x=.int (lo+i),λi _=>n<=i⟩
theorem nL {P:NQ}{w:H8}{K:HX}{tg:NV}(a m:NM):lR P w K tg (Itl K a) [m] m (λi h=>h.IsListIter m a i) where
 mem:=by simp
 obj:=λi h f b l=>by
  have e:b=m:=by simpa using l
  subst e;obtain⟨o,e,c,d⟩:=f;exact⟨o,e,λv z=>by rw[d] at z;cases z⟩
 keep:=λi h r f k=>f.at λo e=>k m (by simp) o e
 item:=by intro X Q hw N hc i g s σ H E I t f Z;subst Q hw N;obtain⟨xs,x,y,hx⟩:=Z;obtain⟨its,rv,p,hz⟩:=I.list y;obtain⟨u,hu,ru⟩:=rv.get hx;obtain⟨A,D,f2,F,G,M⟩:=t m (by simp);refine Oh f p.isList (x:=u) (by simpa using hu) λr n sb=>?_;have I1:Inv X g σ H {s with heap:=r}:=I.turned (t':=s.toks) (λb o l e=>(sb.2 b l).trans e) A D F G M;obtain⟨o,e,c,d⟩:=id n;exact⟨u,rfl,sY (s:={s with heap:=r}) e c d (by decide) ⟨x,H,I1,ru,⟨rfl,λys hy=>by rw[I.list_inj hy y];exact hx⟩,n,λb l=>(t b l).1⟩⟩
 done:=by intro X Q hw N hc i g s σ H E I t f Z;subst Q hw N;obtain⟨xs,y,hx⟩:=Z;obtain⟨its,rv,p,hz⟩:=I.list y;obtain⟨A,D,f2,F,G,M⟩:=t m (by simp);have hl:=rv.length;exact Oo (I.ok.hd hc) f p.isList (by simp;lia) λr eb=>⟨rfl,I.turned (t':=s.toks) (λb o l e=>eb b o l e) A D F G M⟩
 self:=λ_ _ _ _ _ f h=>wpAny_pyIter_listiter f h
theorem lQ {P:NQ}{w:H8}{K:HX}{tg:NV}(a m:NM):lR P w K tg (Itt K a) [m] m (λi h=>h.IsTupleIter m a i) where
 mem:=by simp
 obj:=λi h f b l=>by
  have e:b=m:=by simpa using l
  subst e;obtain⟨o,e,c,d⟩:=f;exact⟨o,e,λv z=>by rw[d] at z;cases z⟩
 keep:=λi h t f k=>f.at λo e=>k m (by simp) o e
 item:=by intro X Z hw Q hc i g s σ H E I y f hg;subst Z hw Q;obtain⟨xs,x,A,hx⟩:=hg;obtain⟨n,rv,p,hz⟩:=I.tuple A;obtain⟨u,hu,ru⟩:=rv.get hx;obtain⟨D,F,f2,G,M,N⟩:=y m (by simp);refine wpAny_pyNext_tuple_item f (show s.heap.IsTuple a n.toArray from p) (x:=u) (by simpa using hu) λt r sb=>?_;have I1:Inv X g σ H {s with heap:=t}:=I.turned (t':=s.toks) (λb o l e=>(sb.2 b l).trans e) D F G M N;obtain⟨o,e,c,d⟩:=id r;exact⟨u,rfl,sY (s:={s with heap:=t}) e c d (by decide) ⟨x,H,I1,ru,⟨rfl,λys hy=>by rw[I.tuple_inj hy A];exact hx⟩,r,λb l=>(y b l).1⟩⟩
 done:=by intro X Z hw Q hc i g s σ H E I y f hg;subst Z hw Q;obtain⟨xs,A,hx⟩:=hg;obtain⟨n,rv,p,hz⟩:=I.tuple A;obtain⟨D,F,f2,G,M,N⟩:=y m (by simp);have hl:=rv.length;exact wpAny_pyNext_tuple_end (I.ok.hd hc) f (show s.heap.IsTuple a n.toArray from p) (by simp;lia) λt eb=>⟨rfl,I.turned (t':=s.toks) (λb o l e=>eb b o l e) D F G M N⟩
 self:=λ_ _ _ _ _ f h=>wpAny_pyIter_tupleiter f h
theorem kF {P:NQ}{w:H8}{K:HX}{tg:NV}(c:NM)(lo:j)(n:O):lR P w K tg (Itr lo n) [c] c (λi h=>IsRangeIter h c (lo+(i:O) * 1) ((n:j)-(i:O)) 1) where
 mem:=by simp
 obj:=λi h a b f=>by
  have e:b=c:=by simpa using f
  subst e
  exact⟨_,a,λv z=>by
   have z':Data.fields _=Data.cell v:=z;cases z'⟩
 keep:=λi h l a k=>k c (by simp) _ a
 item:=by intro X D M A F i d s Q H E I m a G;subst D M A;obtain⟨p,r,f2,u,x,y⟩:=m c (by simp);have W:=Walks.range (prog:=X.prog) (w:=X.w) (I.ok.hd F) c lo 1 n;refine W.item i s _ _ G a λv l N hv g kk=>?_;obtain⟨t,rfl⟩:=hv;have Z:Inv X d Q H {s with heap:=l,toks:=N}:=I.turned (λb o f e=>kk b o (by simpa using f) e) p r u x y;refine⟨_,rfl,sY (s:={s with heap:=l,toks:=N}) (n:="range_iterator") g rfl rfl (by decide) ⟨.int<|lo+i,H,Z,⟨t,?_⟩,⟨rfl,rfl⟩,g,λb f=>(m b f).1⟩⟩;rw[Int.mul_one]
 done:=by intro X D M A F i d s Q H E I m a G;subst D M A;obtain⟨p,r,f2,u,x,y⟩:=m c (by simp);exact wpAny_pyNext_range_end (I.ok.hd F) a (by have:n<=i:=G;lia) λl eb=>⟨rfl,I.turned (t':=s.toks) (λb o f e=>eb b o f e) p r u x y⟩
 self:=λ_ _ _ _ _ a h=>wpAny_pyIter_rangeiter a h
section
variable {X:Cx}{tg:NV}
def pB (K:HX)(c:TE):TI:=λe H R=>c e H λx b=>∃a,x=.ref a/\(∃d,SqL K b a d)/\R (Itl K a) b
def zP (K:HX)(c:TE):TI:=λe H R=>c e H λx b=>∃a,x=.ref a/\(∃d,SqT K b a d)/\R (Itt K a) b
theorem l9 {l:NV}{g:TE}(m:PE X l g):PI X tg l (pB X.K g):=by
 intro c s u H R I h;refine thn (m c s u H _ I h) λv f ⟨x,i,d,r1,t⟩=>?_;obtain⟨a,e,⟨z,n⟩,q⟩:=t;subst e;cases r1;obtain⟨r,y,p,w⟩:=d.list n;refine Kh p.isList ?_;refine⟨f.heap.objs.size,[f.heap.objs.size],_,_,i,rfl,d.kept (t':=f.toks) λb o e=>Heap.get?_push_of_some _ e,nL a _,⟨_,Heap.get?_push_size _ rfl,rfl,rfl⟩,λb k=>?_,q⟩;have e:b=f.heap.objs.size:=by simpa using k
 subst e;exact d.fpOk (Ic _)<|d.hok.fresh<|Ic _
theorem rj {l:NV}{i:TE}(n:PE X l i):PI X tg l (zP X.K i):=by
 intro c s u H R I h;refine thn (n c s u H _ I h) λv d ⟨x,k,f,r1,t⟩=>?_;obtain⟨a,e,⟨z,r⟩,q⟩:=t;subst e;cases r1;obtain⟨g,y,p,w⟩:=f.tuple r;refine J1 (show d.heap.IsTuple a g.toArray from p) ?_;refine⟨d.heap.objs.size,[d.heap.objs.size],_,_,k,rfl,f.kept (t':=d.toks) λb o e=>Heap.get?_push_of_some _ e,lQ a _,⟨_,Heap.get?_push_size _ rfl,rfl,rfl⟩,λb m=>?_,q⟩;have e:b=d.heap.objs.size:=by simpa using m
 subst e;exact f.fpOk (Ic _)<|f.hok.fresh<|Ic _
theorem qU {c:U<|NM×Obj}{g:St}{H:Hp}{s:HW}{R:It->Hp->Prop}{E:L->HW->Prop}{lo a:j}{t u v:Tok}{f:O}(I:Inv X c g H s)(h:-(2 ^ 62)<=lo)(i:lo<2 ^ 62)(k:-(2 ^ 62)<=a)(l:a<2 ^ 62)
  (q:R (Itr lo (a-lo).toNat) H):NO (HZ X.prog X.w) X.A (pyIter<|.ref s.heap.objs.size) (PIE X c g tg R) E {s with heap:=s.heap.push {cls:=.type "range",data:=.fields #[.int lo t,.int a u,.int 1 v]},toks:=f}:=by
 refine wpAny_pyIter_range (IsRange.new ..) (small_one h i k l) ?_;have d:Inv X c g H {s with heap:=s.heap.push {cls:=.type "range",data:=.fields #[.int lo t,.int a u,.int 1 v]},toks:=f}:=I.kept λb o e=>Heap.get?_push_of_some _ e
 refine⟨(s.heap.push {cls:=.type "range",data:=.fields #[.int lo t,.int a u,.int 1 v]}).objs.size,[(s.heap.push {cls:=.type "range",data:=.fields #[.int lo t,.int a u,.int 1 v]}).objs.size],_,_,H,rfl,
  d.kept (t':=f) λb o e=>Heap.get?_push_of_some _ e,kF _ lo (a-lo).toNat,?_,λb m=>?_,q⟩
 .have e1:lo+((0:O):j) * 1=lo:=by simp
  have e2:(((a-lo).toNat:O):j)-((0:O):j)=Builtin.Range.rangeSize lo a 1:=by rw[rangeSize_one];split<;>lia
  show IsRangeIter _ _ (lo+((0:O):j) * 1) ((((a-lo).toNat:O):j)-((0:O):j)) 1;rw[e1,e2];exact Heap.get?_push_size _ rfl
 .have e:b=(s.heap.push { cls:=.type "range",data:=.fields #[.int lo t,.int a u,.int 1 v] }).objs.size:=by simpa using m
  subst e;exact d.fpOk (Ic _)<|d.hok.fresh<|Ic _
def yb (c:TA):TI:=λe H R=>c e H λd b=>∃a:j,d=[.int a]/\-(2 ^ 62)<=a/\a<2 ^ 62/\R (Itr 0 a.toNat) b
theorem nS {a:NV}{g:TA}{p d:Pos}(l:Gl X "range")(m:X.mg "range"=J)(k:PA X [a] g)(n:H9 [a] X.env=[(HU,N3 a X.env)]:=by rfl):PI X tg (.Call (.Name "range" p) [a] [] d) (yb g):=by
 intro c s v H R I h;refine Call_<|dq I l m boot_range<|K5 (thn (k d c s v H _ I h) λy x ⟨z,w,i,r1,f⟩=>?_) n rfl;obtain⟨b,e,f,o,q⟩:=f;subst e;cases r1 with
 |cons r u=>cases u;obtain⟨t,rfl⟩:=r;exact call_range_1<|qU i (by lia) (by lia) f o<|by simpa using q
def Ba (n:TI)(g:TG)(l:TS):TS:=λD b H=>n b H λa h=>∃W:O->O->St->Hp->Prop,(∃m,W 0 m b h)/\∀i m b H,W i m b H ->
 (a.stop i H/\D.nx b H)\/(a.go i H/\∃N:St->Hp->Prop,(∀d c,N d c->∃f,f<m/\W (i+1) f d c)/\∀x c,a.yld i H x c->g x b c λe k=>l {D with nx:=N,ct:=N,bk:=D.nx} e k)
noncomputable def gr (a:U NM)(h:NX):U (NM×Obj):=a.filterMap λb=>(h.get? b).map λo=>(b,o)
theorem bu {a:U NM}{h:NX}{b:NM}{o:Obj}(c:b∈a)(e:h.get? b=Y o):(b,o)∈gr a h:=Np.mpr ⟨b,c,by rw[e];rfl⟩
theorem m7 {a:U NM}{h:NX}{p:NM×Obj}(hp:p∈gr a h):p.1∈a/\h.get? p.1=Y p.2:=by
 obtain⟨b,d,e⟩:=Np.mp hp;cases q:h.get? b with
 |none=>rw[q] at e;cases e
 |some o=>rw[q] at e;have c:(b,o)=p:=IJ e;subst c;exact⟨d,q⟩
theorem Inv.pinned {a:U<|NM×Obj}{h:St}{H:Hp}{s:HW}{c:U NM}(I:Inv X a h H s)(m:∀b∈c,gK X a H b)(ho:∀b∈c,∃o,s.heap.get? b=Y o/\∀v,o.data≠.cell v):Inv X (a++gr c s.heap) h H s:=
 I.pins_of λp hp=>(Jw.mp hp).elim (λz=>I.pin p<|IC _ z) λz=>by obtain⟨g,e⟩:=m7 z;obtain⟨i,k,l,_⟩:=m p.1 g;obtain⟨o,f,d⟩:=ho p.1 g;rw[e] at f;cases f;exact⟨e,i,k,l,d⟩
theorem Inv.unpinned {a c:U<|NM×Obj}{b:St}{H:Hp}{s:HW}(I:Inv X (a++c) b H s):Inv X a b H s:=I.pins_of λp hp=>I.pin p<|IC _<|J9 _ hp
theorem lI {y:NV}{P:U N4}{wi:TI}{g:TG}{tb:TS}{pos:Pos}(hp:OI (HZ X.prog X.w) X.A X.env X.xe)(hc:X.calm=HV)(hi:PI X tg y wi)(hg:PG X tg g)(t:PSs X P tb)
  (hs:∀x,Ji y X.env x=pure x:=by intro _;rfl):PS X (.For tg y P [] pos) (Ba wi g tb):=by
 intro c s σ H D I h;refine wpAny_For (thn (hi c s σ H _ I h) λv s1 h1=>thn h1 λitv s2 h2=>?_) hs;obtain⟨it,fp,tn,a,H2,e,I2,T,st2,f2,W,⟨m0,w0⟩,turn⟩:=h2;subst e
 -- what stays HV of the iterator's objects through the loop
 have z:∀{M:Hp},(∀b∈fp,M b=J)->∀b∈fp,gK X c M b:=λhn b t=>⟨hn b t,(f2 b t).2⟩;refine codeAny_forLoop_any (λn s'=>∃i F M,Inv X c F M s'/\tn i s'.heap/\(∀b∈fp,M b=J)/\W i n F M) ?_ m0 ⟨0,σ,H2,I2,st2,λb t=>(f2 b t).1,w0⟩;rintro n s3 ⟨i,G,H3,I3,st3,fr3,w3⟩;rcases turn i n G H3 w3 with⟨stop,qn⟩|⟨go,N,hN,step⟩
 .refine KP hp (thn (T.done X rfl rfl rfl hc i c s3 G H3 X.xe I3 (z fr3) st3 stop) fun r s4 ⟨hr,I4⟩=>?_);subst hr;exact Lh ⟨G,H3,I4,qn⟩
 .refine KP hp (thn (T.item X rfl rfl rfl hc i c s3 G H3 X.xe I3 (z fr3) st3 go) fun r s4 ⟨u,hr,h4⟩=>?_);subst hr;refine KP hp (thn h4 λ_ s5 ⟨x,H5,I5,r5,y5,Z,fr5⟩=>?_);have I5':=I5.pinned (z fr5) (T.obj _ _ Z);refine KP hp (thn (hg _ s5 G H5 x u _ I5' r5 (step x H5 y5)) λ_ s6 ⟨σ6,H6,I6,q6⟩=>?_);refine KP hp (thn (t _ s6 σ6 H6 _ I6 q6) λf s7 Q=>?_);have again:∀{k:St} {l:Hp},Inv X (c++gr fp s5.heap) k l s7->N k l->∃m,m<n/\∃i F M,Inv X c F M s7/\tn i s7.heap/\(∀b∈fp,M b=J)/\W i m F M:=λ{k l} p n7=>by obtain⟨m',hm,w7⟩:=hN k l n7;refine⟨m',hm,i+1,k,l,p.unpinned,T.keep _ _ _ Z λb t o e=>(p.pin (b,o) (IC _ (IC _ (bu t e)))).1,λb t=>?_,w7⟩;obtain⟨o,e,d⟩:=T.obj _ _ Z b t;exact(p.pin (b,o) (IC _ (IC _ (bu t e)))).2.1
  cases f with
  |next=>obtain⟨k,l,p,n7⟩:=Q;exact again p n7
  |cont=>obtain⟨k,l,p,n7⟩:=Q;exact again p n7
  |brk=>obtain⟨k,l,p,Q⟩:=Q;exact⟨k,l,p.unpinned,Q⟩
  |ret v=>obtain⟨x7,k,l,p,r7,Q⟩:=Q;exact⟨x7,k,l,p.unpinned,r7,Q⟩
end
abbrev R2:=V->V->Hp->VK->Prop
def OpR (X:Cx)(f:L->L->Sem L)(r:R2):Prop:=
 ∀(a:U<|NM×Obj) (s:HW) (b:St) (H:Hp) (x y:V) (v u:L) (Q:VK),Inv X a b H s->RelV x v->RelV y u->r x y H Q ->
  NO (HZ X.prog X.w) X.A (f v u) (EP X a b Q) X.xe s
def UnR (X:Cx)(f:L->Sem L)(r:V->Hp->VK->Prop):Prop:=
 ∀(a:U<|NM×Obj) (s:HW) (b:St) (H:Hp) (x:V) (v:L) (Q:VK),Inv X a b H s->RelV x v->r x H Q ->
  NO (HZ X.prog X.w) X.A (f v) (EP X a b Q) X.xe s
def dI (X:Cx)(f:L)(r:U V->Hp->VK->Prop):Prop:=
 ∀(a:U<|NM×Obj) (s:HW) (d:St) (H:Hp) (c:U V) (b:U L) (Q:VK),Inv X a d H s->Vals c b->r c H Q ->
  NO (HZ X.prog X.w) X.A (call f b) (EP X a d Q) X.xe s
def Hs (X:Cx)(r:V->Hp->(NN->Hp->Prop)->Prop):Prop:=
 ∀(a:U<|NM×Obj) (s:HW) (b:St) (H:Hp) (x:V) (v:L) (Q:NN->Hp->Prop),Inv X a b H s->RelV x v->r x H Q ->
  NO (HZ X.prog X.w) X.A (truthy v) (TP X a b Q) X.xe s
noncomputable def tOp (r:R2)(d e:TE):TE:=λa H Q=>d a H λx b=>e a b λy c=>r x y c Q
def tUn (r:V->Hp->VK->Prop)(b:TE):TE:=λc H Q=>b c H λx a=>r x a Q
def rI (C:j->j->Prop)(g:j->j->V):R2:=λx y H Q=>∃i a,x=.int i/\y=.int a/\C i a/\Q (g i a) H
noncomputable def rI0 (g:j->j->V):R2:=λx y H Q=>∃i a,x=.int i/\y=.int a/\Q (g i a) H
def rU (g:j->V):V->Hp->VK->Prop:=λx H Q=>∃i,x=.int i/\Q (g i) H
section
variable {X:Cx}{a b c:NV}{ta tb tc:TE}{pos:Pos}
theorem A9 (p:PE X a ta)(r:PE X b tb){d:U<|NM×Obj}{s:HW}{g:St}{H:Hp}{R:V->V->Hp->Prop}(I:Inv X d g H s)
  (h:ta g H λx m=>tb g m λy e=>R x y e) {Q:L->HW->Prop} {f:L->L->Sem L}
  (t:∀v u l x y e,Inv X d g e l->RelV x v->RelV y u->R x y e->NO (HZ X.prog X.w) X.A (f v u) Q X.xe l):
  NO (HZ X.prog X.w) X.A (N3 a X.env) (λv i=>NO (HZ X.prog X.w) X.A (N3 b X.env) (λu k=>NO (HZ X.prog X.w) X.A (f v u) Q X.xe k) X.xe i) X.xe s:=by
 refine thn (p d s g H _ I h) λv F ⟨x,m,n,r1,z⟩=>?_;refine thn (r d F g m _ n z) λu l ⟨y,e,o,r2,D⟩=>?_;exact t v u l x y e o r1 r2 D
theorem eM {op:Operator}{r:R2}(ho:OpR X (IU op) r)(g:PE X a ta)(i:PE X b tb):PE X (.BinOp a op b pos) (tOp r ta tb):=by intro d s m H Q I h;exact wpAny_BinOp<|A9 g i I h λv u l x y e f rx k q=>ho d l m e x y v u Q f rx k q
theorem ER {op:UnaryOp}{r:V->Hp->VK->Prop}(ho:UnR X (unaryOp op) r)(i:PE X a ta):PE X (.UnaryOp op a pos) (tUn r ta):=by intro d s e H Q I h;exact UnaryOp_<|thn (i d s e H _ I h) λv l ⟨x,f,g,r1,k⟩=>ho d l e f x v Q g r1 k
theorem opI {f:L->L->Sem L}{C:j->j->Prop}{g:j->j->j}
  (rule:∀(i d:j) (t u:Tok) (s:HW) (Q:L->HW->Prop) (E:L->HW->Prop),C i d->Q (.int (g i d) s.toks) {s with toks:=s.toks+1}->NO (HZ X.prog X.w) X.A (f (.int i t)<|.int d u) Q E s):
  OpR X f (rI C λi d=>.int<|g i d):=by
 intro e s n H x y v u Q I rx l h;obtain⟨i,d,rfl,rfl,k,q⟩:=h;obtain⟨t,rfl⟩:=rx;obtain⟨m,rfl⟩:=l;exact rule i d t m s _ _ k ⟨.int<|g i d,H,I.tok _,⟨_,rfl⟩,q⟩
theorem DM {f:L->L->Sem L}{g:j->j->j}
  (rule:∀(i d:j) (t u:Tok) (s:HW) (Q:L->HW->Prop) (E:L->HW->Prop),Q (.int (g i d) s.toks) {s with toks:=s.toks+1}->NO (HZ X.prog X.w) X.A (f (.int i t)<|.int d u) Q E s):
  OpR X f (rI0 λi d=>.int<|g i d):=by
 intro e s m H x y v u Q I rx k h;obtain⟨i,d,rfl,rfl,q⟩:=h;obtain⟨t,rfl⟩:=rx;obtain⟨l,rfl⟩:=k;exact rule i d t l s _ _ ⟨.int<|g i d,H,I.tok _,⟨_,rfl⟩,q⟩
theorem Bh {f:L->L->Sem L}{g:j->j->NN}
  (rule:∀(i d:j) (t u:Tok) (s:HW) (Q:L->HW->Prop) (E:L->HW->Prop),Q (.bool<|g i d) s->NO (HZ X.prog X.w) X.A (f (.int i t)<|.int d u) Q E s):
  OpR X f (rI0 λi d=>.bl<|g i d):=by
 intro e s m H x y v u Q I rx k h;obtain⟨i,d,rfl,rfl,q⟩:=h;obtain⟨t,rfl⟩:=rx;obtain⟨l,rfl⟩:=k;exact rule i d t l s _ _ ⟨.bl<|g i d,H,I,rfl,q⟩
def Cm (i d:j):Prop:=0<=d/\d<=1000000/\i.natAbs<2 ^ 64
def CMul (i d:j):Prop:=(-(2 ^ 64)<i/\i<2 ^ 64)\/(-(2 ^ 64)<d/\d<2 ^ 64)
theorem CMul.ok {i d:j}(h:CMul i d):IntMulOk i d:=by
 rcases h with⟨e,f⟩|⟨e,f⟩
 .exact .of_left (intBits_le_64 e f)
 .exact .of_right (intBits_le_64 e f)
theorem op_add:OpR X (IU .Add) (rI0 λi d=>.int<|i+d):=DM λ_ _ _ _ _ _ _ q=>add_int q
theorem A6:OpR X (IU .Sub) (rI0 λi d=>.int<|i-d):=DM λ_ _ _ _ _ _ _ q=>sub_int q
theorem op_mul:OpR X (IU .Mult) (rI CMul λi d=>.int<|i * d):=opI λ_ _ _ _ _ _ _ e q=>mul_int q e.ok
theorem B9:OpR X (IU .Mod) (rI (λ_ d=>0<d) λi d=>.int<|i % d):=opI λi d _ _ _ _ _ e q=>by have f:(0:j)<d:=e;exact mod_int' (by lia)<|by rw[Mi i<|by lia];exact q
theorem xn:OpR X (IU .Mod) (rI (λ_ d=>d≠0) λi d=>.int<|i.fmod d):=opI λ_ _ _ _ _ _ _ e q=>mod_int' e q
theorem zh:OpR X (IU .Pow) (rI Cm λi d=>.int<|i ^ d.toNat):=opI λ_ _ _ _ _ _ _ e q=>pow_int_small e.1 e.2.1 e.2.2 q
theorem unI {f:L->Sem L}{g:j->j}
  (rule:∀(i:j) (t:Tok) (s:HW) (Q:L->HW->Prop) (E:L->HW->Prop),Q (.int (g i) s.toks) {s with toks:=s.toks+1}->NO (HZ X.prog X.w) X.A (f<|.int i t) Q E s):
  UnR X f (rU λi=>.int<|g i):=by
 intro d s e H x v Q I rx h;obtain⟨i,rfl,q⟩:=h;obtain⟨t,rfl⟩:=rx;exact rule i t s _ _ ⟨.int<|g i,H,I.tok _,⟨_,rfl⟩,q⟩
theorem Bs:UnR X (unaryOp .USub) (rU λi=>.int (-i)):=unI λ_ _ _ _ _ q=>neg_int q
end
section
variable {X:Cx}{a b c:NV}{ta tb tc:TE}{pos:Pos}
theorem pA {d:U<|NM×Obj}{g:St}{H:Hp}{s:HW}{Q:VK}{k f:NN}(I:Inv X d g H s)(q:Q (.bl k) H)(e:k=f):EP X d g Q (.bool f) s:=by subst e;exact⟨.bl k,H,I,rfl,q⟩
theorem D8:OpR X (I0 .Lt) (rI0 λi d=>.bl<|decide (i<d)):=Bh λ_ _ _ _ _ _ _ q=>lt_int q
theorem E9:OpR X (I0 .Gt) (rI0 λi d=>.bl<|decide (d<i)):=Bh λ_ _ _ _ _ _ _ q=>gt_int q
theorem Dw:OpR X (I0 .GtE) (rI0 λi d=>.bl<|decide (d<=i)):=Bh λ_ _ _ _ _ _ _ q=>ge_int q
theorem zD:OpR X (I0 .Is) (λx y H Q=>y=.non/\Q (.bl<|decide (x=.non)) H):=by
 intro d s f H x y v u Q I rx e h;obtain⟨rfl,q⟩:=h;cases e;refine is_none_gen<|pA I q ?_
 cases x<;>first
  |(cases rx;rfl)
  |(obtain⟨t,rfl⟩:=rx;rfl)
theorem wm:OpR X (I0 .IsNot) (λx y H Q=>y=.non/\Q (.bl<|!decide (x=.non)) H):=by
 intro d s f H x y v u Q I rx e h;obtain⟨rfl,q⟩:=h;cases e;refine isnot_none_gen<|pA I q ?_
 cases x<;>first
  |(cases rx;rfl)
  |(obtain⟨t,rfl⟩:=rx;rfl)
theorem OpR.or {f:L->L->Sem L}{r e:R2}(h:OpR X f r)(k:OpR X f e):OpR X f (λx y H Q=>r x y H Q\/e x y H Q):=by
 intro d s i H x y v u Q I rx g q;rcases q with q|q
 .exact h d s i H x y v u Q I rx g q
 .exact k d s i H x y v u Q I rx g q
theorem cJ (b:NV){op:CmpOp}(h:op≠.In:=by decide)(d:op≠.NotIn:=by decide):JA op b=false:=by
 have e1:(op==CmpOp.In)=false:=by cases op<;>first|rfl|exact NP rfl h
 have e2:(op==CmpOp.NotIn)=false:=by cases op<;>first|rfl|exact NP rfl d
 cases b<;>simp[JA,e1,e2]
theorem wc {op:CmpOp}{r:R2}(ho:OpR X (I0 op) r)(g:PE X a ta)(i:PE X b tb)(k:JA op b=HU):PE X (.Compare a [op] [b] pos) (tOp r ta tb):=by intro d s n H Q I h;exact wpAny_Compare1 (A9 g i I h λv u m x y e f rx l q=>ho d m n e x y v u Q f rx l q) k
noncomputable def yj (t:TE):TT:=λe H Q=>t e H λx d=>∃k,x=.bl k/\Q k d
theorem jv {op:CmpOp}{r:R2}(ho:OpR X (I0 op) r)(p:PE X a ta)(t:PE X b tb)(w:JA op b=HU):PT X (.Compare a [op] [b] pos) (yj<|tOp r ta tb):=by
 intro d s f H Q I h
 refine Om (thn (p d s f H _ I h) λv M ⟨x,g,m,r1,A⟩=>thn (t d M f g _ m A) λu N ⟨y,i,n,r2,D⟩=>
  thn (ho d N f i x y v u _ n r1 r2 D) λc P ⟨z,l,o,G,k,e,F⟩=>?_) w
 subst e;cases G;exact Lg ⟨l,o,F⟩
def CL (K:HX)(x:V)(H:Hp)(k:NN):Prop:=
 match x with
 |.non=>k=HU
 |.bl b=>k=b
 |.int i=>k=(i != 0)
 |.str y=>y.length<=sizeLine/\k=((y.length:j) != 0)
 |.byt y=>y.size<=sizeLine/\k=((y.size:j) != 0)
 |.ref p=>(∃e,SqL K H p e/\k=!e.isEmpty)\/(∃e,SqT K H p e/\k=!e.isEmpty)\/∃d,H p=Y (.dK d)/\k=!d.isEmpty
 |_=>N2
theorem kU {f:Type}{d:U<|f×V}{e:U<|f×L}(r:KV d e):(!e.isEmpty)=!d.isEmpty:=by cases r<;>rfl
theorem fC {e:U V}{d:U L}(r:Vals e d):(!d.toArray.isEmpty)=!e.isEmpty:=by cases r<;>simp
theorem eA:(sizeLine:O)<2 ^ 63:=by rw[La];decide
theorem Ah:Hs X (λx H Q=>∃k,CL X.K x H k/\Q k H):=by
 intro A s N H x v Q I rx h;obtain⟨k,e,q⟩:=h;have G:=eA;have M:sizeLine=16777216:=La;cases x with
 |non=>cases rx;have d:k=false:=e;subst d;exact truthy_none ⟨H,I,q⟩
 |bl b=>cases rx;have d:k=b:=e;subst d;exact Lg ⟨H,I,q⟩
 |int i=>obtain⟨t,rfl⟩:=rx;have d:k=(i != 0):=e;subst d;exact PySem.P.truthy_int ⟨H,I,q⟩
 |str y=>obtain⟨t,rfl⟩:=rx;obtain⟨F,d⟩:y.length<=sizeLine/\k=((y.length:j) != 0):=e;subst d;exact PySem.P.truthy_str (by lia) ⟨H,I.tok _,q⟩
 |byt y=>obtain⟨t,rfl⟩:=rx;obtain⟨F,d⟩:y.size<=sizeLine/\k=((y.size:j) != 0):=e;subst d;exact PySem.W.truthy_bytes (by lia) ⟨H,I.tok _,q⟩
 | ref p =>
  cases rx;have d:(∃l,SqL X.K H p l/\k=!l.isEmpty)\/(∃l,SqT X.K H p l/\k=!l.isEmpty)\/∃f,H p=Y (.dK f)/\k=!f.isEmpty:=e;rcases d with⟨l,hx,d⟩|⟨l,hx,d⟩|⟨f,hx,d⟩
  .subst d;obtain⟨o,r,u,z⟩:=I.list hx;have g:=r.length;exact wpAny_truthy_list u.isList (by simp only[Iv];lia) ⟨H,I.tok _,by rw[fC r];exact q⟩
  .subst d;obtain⟨o,r,u,z⟩:=I.tuple hx;have g:=r.length;exact truthy_tuple u (by simp only[Iv];lia) ⟨H,I.tok _,by rw[fC r];exact q⟩
  .subst d;obtain⟨z,D,n,r,m⟩:f.length<=sizeLine/\(p==I9)=HU/\∃n,KV f n/\s.heap.DictOf (aI X.prog X.w) p n:=I.hok p _ hx;have g:f.length=n.length:=Paired.length r;exact wpAny_truthy_dict D m (by lia) ⟨H,I.tok _,by rw[kU r];exact q⟩
 |_=>exact(show N2 from e).elim
theorem pH (m:PE X a ta)(n:∀d,OL a X.env d=(do let v <- d;standAt a.pos;J0 [v] (truthy v))):
  PT X a (λf H Q=>ta f H λx g=>∃k,CL X.K x g k/\Q k g):=by
 intro e s f H Q I h;exact isTrue_plain (thn (m e s f H _ I h) λv p ⟨x,i,l,r1,o⟩=>Ah e p f i x v Q l r1 o)<|n _
theorem op_add_str:OpR X (IU .Add) (λx y H Q=>∃i d,x=.str i/\y=.str d/\i.length+d.length<=sizeLine/\Q (.str<|i++d) H):=by intro e s m H x y v u Q I rx g h;obtain⟨i,d,rfl,rfl,f,q⟩:=h;obtain⟨t,rfl⟩:=rx;obtain⟨k,rfl⟩:=g;exact add_str (λk l=>⟨.str<|i++d,H,I.tok _,⟨_,rfl⟩,q⟩) f
theorem jA {x:V}{d:U L}(r:Vals [x] d):∃u,d=[u]/\RelV x u:=by
 cases r with
 |cons r1 r2=>cases r2;exact⟨_,rfl,r1⟩
theorem pP {x y:V}{d:U L}(r:Vals [x,y] d):∃u e,d=[u,e]/\RelV x u/\RelV y e:=by
 cases r with
 |cons r1 r2=>
  cases r2 with
  |cons f g=>cases g;exact⟨_,_,rfl,r1,f⟩
def DR (K:HX)(x:V)(H:Hp)(n:O):Prop:=
 match x with
 |.str y=>y.length<=sizeLine/\n=y.length
 |.byt y=>y.size<=sizeLine/\n=y.size
 |.ref p=>(∃d,SqL K H p d/\n=d.length)\/∃d,SqT K H p d/\n=d.length
 |_=>N2
theorem qT:dI X (.builtin "len") (λd H Q=>∃x n,d=[x]/\DR X.K x H n/\Q (.int n) H):=by
 intro m s D H d A Q I r h;obtain⟨x,n,rfl,e,q⟩:=h;obtain⟨u,rfl,rx⟩:=jA r;have w:=eA;have z:sizeLine=16777216:=La;cases x with
 |str y=>obtain⟨t,rfl⟩:=rx;obtain⟨o,g⟩:y.length<=sizeLine/\n=y.length:=e;subst g;exact len_str (by lia) ⟨.int _,H,I.tok _,⟨_,rfl⟩,q⟩
 |byt y=>obtain⟨t,rfl⟩:=rx;obtain⟨o,g⟩:y.size<=sizeLine/\n=y.size:=e;subst g;exact PySem.W.len_bytes (by lia) ⟨.int _,H,I.tok _,⟨_,rfl⟩,q⟩
 | ref p =>
  cases rx;have g:(∃d,SqL X.K H p d/\n=d.length)\/∃d,SqT X.K H p d/\n=d.length:=e;rcases g with⟨d,hx,g⟩|⟨d,hx,g⟩
  .subst g;obtain⟨i,l,k,v⟩:=I.list hx;have f:=l.length;exact Calls.call_len_list k.isList (by simp only[Iv];lia) ⟨.int d.length,H,I.tok _,⟨_,by simp only[Iv];rw[f]⟩,q⟩
  .subst g;obtain⟨i,l,k,v⟩:=I.tuple hx;have f:=l.length;exact len_tuple k (by simp only[Iv];lia) ⟨.int d.length,H,I.tok _,⟨_,by simp only[Iv];rw[f]⟩,q⟩
 |_=>exact(show N2 from e).elim
end
structure ObjM (h:NX)(x dx C:NM)(mA:Str->B L):Prop where
 obj:h.get? x=Y (LV C dx)
 ns:h.Ns1 dx mA
 ne:dx≠x
theorem nq {h:NX}{d:NM}{g:Str->B L}(n:h.Ns1 d g):∃i,h.get? d=Y i/\∀b,Mb b i=Y (g b):=by
 obtain⟨o,f,ep,ho,hd,hk,_,l⟩:=n;refine⟨o,ho,λb=>?_⟩;have e:=l b;unfold nsFind findBy at e;rw[<- Nm] at e;unfold Mb;rw[hd];dsimp only;split
 .rename_i y q;rw[q] at e;exact N1 Y e
 .rename_i q;rw[q] at e;have a:f.toList.any (·.refKey)=false:=by rw[List.any_eq_false];intro y m;obtain⟨z,t,c⟩:=hk y (Array.mem_toList_iff.mp m);simp[DictEntry.refKey,c]
  have k:¬f.toList.any (·.refKey)=true:=by rw[a];exact IG
  rw[NW k];exact N1 Y e
theorem ObjM.look {h:NX}{x c C:NM}{d:Str->B L}(I:ObjM h x c C d):∃b,PySem.W.InstAt h x (LV C c) C (Y b)/\∀a,Mb a b=Y (d a):=
 let ⟨b,ho,e⟩:=nq I.ns
 ⟨b,⟨I.obj,rfl,rfl,ho⟩,e⟩
def Dy (f:Str)(v:V):U (Str×V)->U (Str×V)
|[]=>[(f,v)]
|(g,x)::r=>if g=f then(g,v)::r else(g,x)::Dy f v r
theorem RelO.some_of {v:V}{o:B L}(r:RelO (Y v) o):∃u,o=Y u/\RelV v u:=by
 cases o with
 |none=>exact(show N2 from r).elim
 |some u=>exact⟨u,rfl,r⟩
section
variable {P:NQ}{w:H8}{H H':Hp}{h h':NX}{a C dx:NM}{fs fs':U (Str×V)}
theorem vw (c:HOk P w H h)(e:H a=Y (.ins C dx fs)):∃b,ObjM h a dx C b/\(∀f,RelO (fs.lookup f)<|b f)/\MY b (fs.map (·.1))/\fs.length<=1000/\H dx=Y (.own a):=by obtain⟨d,z,g,i,b,n,r,q⟩:=(show ObjOk P w H h a (.ins C dx fs) from c a _ e);exact⟨b,⟨i,n,g⟩,r,q,z,d⟩
end
structure Cls (K:HX)(C:NM):Prop where
 pg:MS K C Str.empty=HV
 hd:L4 K C=HV
 po:PySem.W.plainOver K C=HV
 sa:KJ K (.ref C) "__setattr__"=Y (Y (.builtin "object.__setattr__"))
theorem Cls.get {K:HX}{C:NM}(c:Cls K C)(f:Str):MS K C f=true:=c.pg
section
variable {X:Cx}{pins:U (NM×Obj)}{σ:St}{H:Hp}{s:HW}{A:Il}{E:L->HW->Prop}{Q:L->HW->Prop}{c:L}{b:NN}
inductive eS (K:HX)(H:Hp):V->L->Prop where
 |non:eS K H .non (.type "NoneType")
 |bl (x:NN):eS K H (.bl x) (.type "bool")
 |int (i:j):eS K H (.int i) (.type "int")
 |str (x:Str):eS K H (.str x) (.type "str")
 |flt (x:UInt64):eS K H (.flt x) (.type "float")
 |lst {a:NM} {xs:U V} (e:H a=Y (.lst xs)):eS K H (.ref a) (.type "list")
 |frz {a:NM} {o:Obj} {xs:U V} (e:H a=Y (.frz o (.lst xs))):eS K H (.ref a) (.type "list")
 |tup {a:NM} {xs:U V} (e:H a=Y (.tup xs)):eS K H (.ref a) (.type "tuple")
 |dK {a:NM} {kvs:U (Key×V)} (e:H a=Y (.dK kvs)):eS K H (.ref a) (.type "dict")
 |dT {a:NM} {kvs:U (U Key×V)} (e:H a=Y (.dT kvs)):eS K H (.ref a) (.type "dict")
 | ins {a C dx:NM} {fs:U (Str×V)} (e:H a=Y (.ins C dx fs)) (cl:Cls K C) (ha:KJ K (.ref C) "__class__"=Y (Y (.builtin "object.__class__")))
   (hn:ND K (.builtin "object.__class__") "__get__"=Y (Y (.builtin "getset_descriptor.__get__"))) (htk:MI K (.builtin "object.__class__")=Y HV)
   (hm:My K C (.type "object")=Y HV):eS K H (.ref a) (.ref C)
theorem cU {x:V}{u t:L}(I:Inv X pins σ H s)(rx:RelV x u)(ty:eS X.K H x t)(e:JX X.K t c=Y b)(h:∀Z,Q (.bool b) {s with toks:=Z}):
  NO (HZ X.prog X.w) A (call (.builtin "isinstance") [u,c]) Q E s:=by
 cases ty with
 |non=>cases(show u=Value.none from rx);exact Jm NC I.kIn IZ e (λz=>nomatch z) h
 |bl y=>cases(show u=Value.bool y from rx);exact Jm NB I.kIn IZ e (λz=>nomatch z) h
 |int i=>obtain⟨t,q⟩:=(show∃t,u=Value.int i t from rx);cases q;exact Jm MQ I.kIn IZ e (λz=>nomatch z) h
 |str y=>obtain⟨t,q⟩:=(show∃t,u=Value.str y t from rx);cases q;exact Jm MP I.kIn IZ e (λz=>nomatch z) h
 |flt y=>obtain⟨t,q⟩:=(show∃t,u=Value.float y t from rx);cases q;exact Jm PySem.W.kitx_float I.kIn IZ e (λz=>nomatch z) h
 | @lst a m g=>cases(show u=Value.ref a from rx);obtain⟨_,_,n,_,k⟩:=(show ObjOk X.prog X.w H s.heap a (.lst m) from I.hok a _ g);exact Jm LC I.kIn ⟨_,k,rfl⟩ e (λz=>nomatch z) h
 | @frz a P m g=>cases(show u=Value.ref a from rx);obtain⟨_,_,_,n,_,k⟩:=(show ObjOk X.prog X.w H s.heap a (.frz P<|.lst m) from I.hok a _ g);exact Jm LC I.kIn ⟨_,k,rfl⟩ e (λz=>nomatch z) h
 | @tup a m g=>cases(show u=Value.ref a from rx);obtain⟨_,_,_,p⟩:=(show ObjOk X.prog X.w H s.heap a (.tup m) from I.hok a _ g);obtain⟨o,k,r,_⟩:=p;exact Jm Mx I.kIn ⟨o,k,r⟩ e (λz=>nomatch z) h
 | @dK a l g=>cases(show u=Value.ref a from rx);obtain⟨_,_,vs,_,p⟩:=(show ObjOk X.prog X.w H s.heap a (.dK l) from I.hok a _ g);obtain⟨o,F,ep,k,r,_⟩:=p;exact Jm NA I.kIn ⟨o,k,r.1⟩ e (λz=>nomatch z) h
 | @dT a l g=>cases(show u=Value.ref a from rx);obtain⟨_,_,m,_,o,F,ep,k,r,_⟩:=(show ObjOk X.prog X.w H s.heap a (.dT l) from I.hok a _ g);exact Jm NA I.kIn ⟨o,k,r.1⟩ e (λz=>nomatch z) h
 | @ins a C dx fs g D G N v M=>cases(show u=Value.ref a from rx);obtain⟨mA,f,_⟩:=vw I.hok g;obtain⟨od,d,_⟩:=f.look;exact Jm (PySem.W.kitx_own (D.get _) D.hd G N v M) I.kIn d e (λz=>nomatch z) h
end
structure Room (k:O)(A:Il):Prop where
 hd:A.handled=J
 dp:A.depth+3 * k+5<recursionLimit
 un:A.units+16 * k+200<Ob
 gu:A.guards=Y []
theorem Room.deeper {k:O}{A:Il}(r:Room (k+1) A)(a:Env):Room k (A.deeper a):=
 ⟨r.hd,by have:=r.dp;show A.depth+1+3 * k+5<_;lia,by have:=r.un;show A.units+3+16 * k+200<_;lia,r.gu⟩
theorem Room.depth {k:O}{A:Il}(r:Room k A):A.depth<recursionLimit:=by have:=r.dp;lia
theorem Room.units {k:O}{A:Il}(r:Room k A):A.units+64<Ob:=by have:=r.un;lia
def BH:TA:=λ_ H Q=>Q [] H
noncomputable def mG (d:TE)(e:TA):TA:=λa H Q=>d a H λx b=>e a b λf c=>Q (x::f) c
section
variable {X:Cx}{e:NV}{es:U NV}{te:TE}{t:TA}{pos:Pos}
theorem b5:PA X [] BH:=λ_ _ _ _ H Q I h=>Calls.spliced_nil ⟨[],H,I,.nil,h⟩
theorem aW (i:PE X e te)(k:PA X es t)(l:H9 (e::es) X.env=(HU,N3 e X.env)::H9 es X.env:=by rfl):PA X (e::es) (mG te t):=by intro pos a s b H Q I h;rw[l];show NO _ _ (spliced ((HU,N3 e X.env)::Iy pos (H9 es X.env))) _ _ s;refine Calls.spliced_cons<|thn (i a s b H _ I h) λu o ⟨x,c,f,r1,m⟩=>?_;exact thn (k pos a o b c _ f m) λv r ⟨p,d,g,r2,n⟩=>⟨x::p,d,g,.cons r1 r2,n⟩
def Ei (t:TA):TE:=λc H Q=>t c H λb a=>b.length<=sizeLine/\∀p,a p=J->Q (.ref p) (upd a p<|.tup b)
def EG (t:TA):TE:=λc H Q=>t c H λb a=>b.length<=sizeLine/\∀p,a p=J->Q (.ref p) (upd a p<|.lst b)
theorem lx {x1}(h:PA X es t):PE X (.Tuple es x1 pos) (Ei t):=by intro a s m H Q I i;refine wpAny_Tuple_spliced<|thn (h pos a s m H _ I i) λk c ⟨l,d,f,r,z,q⟩=>⟨by rw[<- r.length];exact z,?_⟩;have g:d c.heap.objs.size=none:=f.hok.fresh<|Ic _;refine⟨.ref c.heap.objs.size,upd d c.heap.objs.size<|.tup l,f.laid (t':=c.toks) (λb u e=>Heap.get?_push_of_some _ e) (Ic _) ?_,rfl,q _ g⟩;exact⟨z,k,r,⟨_,Heap.get?_push_size _ rfl,rfl,_,rfl⟩⟩
theorem AU (h:PA X es t):PE X (.List es pos) (EG t):=by intro a s m H Q I i;refine wpAny_List_spliced<|thn (h pos a s m H _ I i) λk c ⟨l,d,f,r,z,q⟩=>⟨by rw[<- r.length];exact z,?_⟩;have g:d c.heap.objs.size=none:=f.hok.fresh<|Ic _;refine⟨.ref c.heap.objs.size,upd d c.heap.objs.size<|.lst l,f.laid (t':=c.toks) (λb u e=>Heap.get?_push_of_some _ e) (Ic _) ?_,rfl,q _ g⟩;exact⟨z,k,0,r,Heap.get?_push_size _ rfl⟩
end
abbrev Sp:=U V->Hp->VK->XK->Prop
abbrev CXT:=U Env->Hp->HW->XK->L->HW->Prop
structure uT (P:NQ)(w:H8)(K:HX)(mg:Str->B L)(base:NX)(A:Il)(outer:U Env)(s:HW)(H:Hp):Prop where
 frames:A.frames=Y outer
 mod:Mod K mg base
 bs:∀b o,base.get? b=Y o->s.heap.get? b=Y o/\H b=J
 bsz:base.objs.size<=s.heap.objs.size
 funs:s.heap.FunFrames base outer
 frf:∀b∈frs outer,H b=J
 hok:HOk P w H s.heap
 bare:JQ s.gens
def CE (a:U Env)(P:NQ)(w:H8)(H:Hp)(s:HW)(Q:VK)(u:L)(b:HW):Prop:=
 ∃v c,b.os=s.os/\JQ b.gens/\Un (frs a) [] H c s.heap b.heap/\HOk P w c b.heap/\RelV v u/\Q v c
def CR (c:CXT)(a:U Env)(P:NQ)(w:H8)(H:Hp)(s:HW)(Q:VK)(E:XK)(r:Result)(b:HW):Prop:=
 match r with
 |.ok (.ret u)=>CE a P w H s Q u b
 |.ok _=>N2
 |.error e=>c a H s E e b
structure ee (P:NQ)(w:H8)(K:HX)(mg:Str->B L)(base:NX)(CX:CXT)(k:O)(f:NM)(fd:Jg)(ps:U Str)(sp:Sp):Prop where
 len:∀vs H Q E,sp vs H Q E->vs.length=ps.length
 run:∀(A:Il) (outer:U Env) (s:HW) (H:Hp) (args:Args) (us:U L) (vs:U V) (Q:VK) (E:XK),Room k A->uT P w K mg base A outer s H->JZ s fd args (ps.zip us)->Vals vs us->sp vs H Q E ->
  JP (HZ P w) A (.call (.ref f) args) (CR CX outer P w H s Q E) s
section
variable {X:Cx}{pins:U (NM×Obj)}{σ:St}{H:Hp}{s s':HW}
theorem Inv.env0 (I:Inv X pins σ H s):uT X.prog X.w X.K X.mg X.base X.A X.stack s H:=
 ⟨I.ok.frames,I.ok.mod,I.bs,Ij I.ok.bsz I.sz,I.stack,I.stkFree,I.hok,I.bare⟩
theorem Inv.after {Q:VK}{u:L}(I:Inv X pins σ H s)(h:CE X.stack X.prog X.w H s Q u s'):EP X pins σ Q u s':=by obtain⟨v,e,os,bare,un,a,r,q⟩:=h;obtain⟨f,g,d,t,c⟩:=s';obtain rfl:c=s.os:=os;exact⟨v,e,I.call (h':=f) (g':=g) (d':=d) (t':=t) (ch:=[]) un a bare λb z=>NP z<|by simp,r,q⟩
end
def Fx (sp:Sp)(a:U V)(E:XK)(t:TA):TE:=λd H Q=>t d H λc b=>sp (c++a) b Q E
def Binds (K:HX)(b:Jg)(ps:U Str)(ds:U L):Prop:=
 ∀(s:HW) (a:U L),K.In s.heap->(a++ds).length=ps.length->JZ s b ⟨a,[]⟩ (ps.zip<|a++ds)
theorem Binds.all {K:HX}{b:Jg}{ps:U Str}(h:∀a:U L,a.length=ps.length->bindArgs b ⟨a,[]⟩=pure (ps.zip a)):Binds K b ps []:=λs a _ c=>by rw[IT] at c ⊢;exact .of_eq<|h a c
def k8 (c:CXT)(X:Cx)(E:XK):Prop:=∀(a:U<|NM×Obj) (d:St) (H:Hp) (s:HW) (e:L) (b:HW),Inv X a d H s->c X.stack H s E e b->X.xe e b
section
variable {X:Cx}{CX:CXT}{k:O}{f C:NM}{fd:Jg}{ps:U Str}{sp:Sp}{dvs:U V}{ds:U L}{E:XK}{x m:Str}{p pos apos:Pos}{e o:NV}{es:U NV}{ta:TE}{t:TA}
theorem yU {a:U<|NM×Obj}{g:St}{H:Hp}{s:HW}{Q:VK}{b:U L}{d:U V}(F:ee X.prog X.w X.K X.mg X.base CX k f fd ps sp)(n:Room k X.A)(i:Binds X.K fd ps ds)(hd:Vals dvs ds)(hx:k8 CX X E)
  (I:Inv X a g H s) (r:Vals d b) (h:sp (d++dvs) H Q E):NO (HZ X.prog X.w) X.A (call (.ref f) b) (EP X a g Q) X.xe s:=by
 have r2:Vals (d++dvs) (b++ds):=r.append hd;have l:(b++ds).length=ps.length:=by rw[<- r2.length];exact F.len _ _ _ _ h
 refine wpAny_call<|OC (F.run X.A X.stack s H ⟨b,[]⟩ (b++ds) (d++dvs) Q E n I.env0 (i s b I.kIn l) r2 h) λr v c=>?_;cases r with
 |error e=>exact hx a g H s e v I c
 |ok fl=>
  cases fl with
  |ret u=>exact I.after c
  |next=>exact Jr c
  |brk=>exact Jr c
  |cont=>exact Jr c
theorem xF (F:ee X.prog X.w X.K X.mg X.base CX k f fd ps sp)(v:Room k X.A)(n:Gl X x)(u:X.mg x=Y (.ref f))(hk:KI X.K (.ref f)=HV)(i:Binds X.K fd ps ds)(hd:Vals dvs ds)(hx:k8 CX X E)
  (g:PA X (e::es) t) (b:(x==("__debug__":Str))=false:=by decide) (l:H9 (e::es) X.env=(HU,N3 e X.env)::H9 es X.env:=by rfl) (c:(Iy pos<|H9 es X.env).any (·.1)=false:=by rfl):
  PE X (.Call (.Name x p) (e::es) [] pos) (Fx sp dvs E t):=by
 intro a s y H Q I h;refine LL<|mM I n u ?_ b;refine PySem.W.callWith_K (h₀:=X.base) I.ok.mod.kin hk (thn (g pos a s y H _ I h) λG D ⟨M,z,d,r,q⟩=>⟨d.kIn,?_⟩) l c;exact yU F v i hd hx d r q
end
structure ao (N P:U Str)(sc:N9):Prop where
 kind:sc.kind=.function
 co:sc.isCoroutine=HU
 gen:sc.isGenerator=HU
 nd:N.Nodup
 pre:N.take P.length=P
 par:∀x∈P,sc.names.lookup x=Y .local\/sc.names.lookup x=Y .cell
 nofree:∀y∈sc.names,y.2≠.free
theorem hV {kindOf:Str->B NameKind}{x:Str}:∀{binds:U<|Str×L} {m:Str->B L},(∀v,(x,v) ∉ binds)->OM kindOf binds m x=m x
|[],_,_=>rfl
| (n,v)::r,m,h=>by
 unfold OM;rw[hV λw a=>h w<|Iz _ a];split
 .have:x≠n:=by rintro rfl; exact h v Ih
  simp[this]
 .rfl
theorem ic {kindOf:Str->B NameKind}{x:Str}:∀{binds:U<|Str×L} {m:Str->B L},(∀v,(x,v) ∉ binds)->ON kindOf binds m x=m x
|[],_,_=>rfl
| (n,v)::r,m,h=>by
 unfold ON;rw[ic λw a=>h w<|Iz _ a];split
 .rfl
 .have:x≠n:=by rintro rfl; exact h v Ih
  simp[this]
theorem hZ {kindOf:Str->B NameKind}{x:Str}{v:L}:∀{P:U Str} {a:U L} {i:O} {m:Str->B L},P.Nodup->P[i]?=Y x->a[i]?=Y v->kindOf x=Y .local ->
 OM kindOf (P.zip a) m x=Y v
|[],_,_,_,_,h,_,_=>by simp at h
|_::_,[],_,_,_,_,h,_=>by simp at h
|p::P,w::a,0,m,d,b,c,hk=>by simp at b c;subst b;subst c;show OM kindOf ((p,w)::P.zip a) m p=_;unfold OM;rw[hV λv e=>(Jt.mp d).1 (LJ e).1,NR hk];simp
|p::P,w::a,i+1,m,d,b,c,hk=>by show OM kindOf ((p,w)::P.zip a) m x=_;unfold OM;exact hZ (i:=i) (Jt.mp d).2 (by simpa using b) (by simpa using c) hk
theorem gW {kindOf:Str->B NameKind}{x:Str}{v:L}:∀{P:U Str} {a:U L} {i:O} {m:Str->B L},P.Nodup->P[i]?=Y x->a[i]?=Y v->kindOf x≠Y .local ->
 ON kindOf (P.zip a) m x=Y v
|[],_,_,_,_,h,_,_=>by simp at h
|_::_,[],_,_,_,_,h,_=>by simp at h
|p::P,w::a,0,m,d,b,c,hk=>by simp at b c;subst b;subst c;show ON kindOf ((p,w)::P.zip a) m p=_;unfold ON;rw[ic λv e=>(Jt.mp d).1 (LJ e).1,NW hk];simp
|p::P,w::a,i+1,m,d,b,c,hk=>by show ON kindOf ((p,w)::P.zip a) m x=_;unfold ON;exact gW (i:=i) (Jt.mp d).2 (by simpa using b) (by simpa using c) hk
noncomputable def start (N:U Str)(a:U V):St:=a.map Y++Iu (N.length-a.length) J
def iM (g:CXT)(P:NQ)(w:H8)(K:HX)(mg:Str->B L)(base:NX)(N:U Str)(b:Str)(a:N9)(f:NM)(d:L)(A:Il)(outer:U Env)(s:HW)(H:Hp)(E:XK):Cx where
 prog:=P
 w:=w
 K:=K
 mg:=mg
 base:=base
 A:=A.deeper<|Jp b a s.heap.objs.size f d
 N:=N
 s₀:=s
 H₀:=H
 env:=Jp b a s.heap.objs.size f d
 outer:=outer
 stack:=Jp b a s.heap.objs.size f d::outer
 ex:=[]
 calm:=HV
 fn:=λ_=>HV
 pn:=[]
 xe:=λe i=>NO (HZ P w) (A.deeper<|Jp b a s.heap.objs.size f d) (leaving (Jp b a s.heap.objs.size f d) e) (λ_ c=>g outer H s E e c) (λh c=>g outer H s E h c) i
theorem ki {a:N9}{n:O}{x:Str}(h:a.names.lookup x=Y .cell):∃c,(cellsFrom n a.names []).lookup x=Y c:=by have q:=Nb a.names n []<|.inl h;exact Ng.mp q
theorem oP {CX:CXT}{P:NQ}{w:H8}{K:HX}{mg:Str->B L}{o:NX}{N ps:U Str}{l:Str}{d:N9}{f:NM}{M:L}{A:Il}{g:U Env}{s s1:HW}{H:Hp}{E:XK}{us:U L}{G:U V}
  (S:ao N ps d) (hd:A.handled=J) (t:uT P w K mg o A g s H) (hl:G.length=ps.length) (r:Vals G us)
  (x:InCallC s s.heap.objs.size (OM (Jp l d s.heap.objs.size f M).kindOf (ps.zip us) λ_=>J) (cellsFrom (s.heap.objs.size+1) d.names []) (ON (Jp l d s.heap.objs.size f M).kindOf (ps.zip us) λ_=>J) s1):
  Inv (iM CX P w K mg o N l d f M A g s H E) [] (start N G) H s1:=by
 have hpl:ps.length<=N.length:=by have:=N1 KW S.pre;rw[K2] at this;lia
 obtain⟨Q,tk,rfl,hk⟩:=x.done;have F:∀b:NM,b ∉ (iM CX P w K mg o N l d f M A g s H E).ex:=λb z=>NP (show b∈([]:U NM) from z)<|by simp
 refine⟨⟨t.mod,S.kind,rfl,rfl,Ic _,λy z c Q m=>?_,λy D=>?_,λy c _ h=>?_,λ_=>hd,Around.frames_deeper t.frames,.inr ⟨rfl,rfl⟩,λb z=>NP z<|F b,t.bs,t.bsz,λb _ _=>F b,λb z=>NP z<|F b,t.funs,t.frf⟩,
  rfl,t.bare,Un.kept hk,⟨_,x.toInCall.ns,λi y v Q m h3=>?_⟩,λy c h=>⟨_,x.cell y c h⟩,t.hok.fresh<|Ic _,λy c h=>?_,λp hp=>NP (show p∈([]:U<|NM×Obj) from hp)<|by simp,t.hok.kept hk,?_⟩
 .exact name_of_addr x.apart (KC Q) (KC m)
 .have D:d.names.lookup y=Y .cell\/d.names.lookup y=Y .free:=D;rcases D with D|D
  .exact ki D
  .exact NP rfl (S.nofree _<|KC D)
 .exact Lq (x.above y c<|KC h)
 .have Z:i<G.length:=by
   unfold start at m;by_cases Z:i<G.length
   .exact Z
   .rw [K8<|by simpa using Z] at m;rw[Ms] at m;split at m<;>cases m
  have ha:G[i]?=Y v:=by
   unfold start at m;rw[K7<|by simpa using Z,IW] at m;cases e:G[i]? with
   |none=>rw[e] at m;cases m
   |some a=>rw[e] at m;cases m;rfl
  obtain⟨u,hu,rv⟩:=r.get ha;have hp:ps[i]?=Y y:=by rw[<- S.pre,List.getElem?_take_of_lt<|by lia];exact Q
  have I:ps.Nodup:=by rw[<- S.pre];exact S.nd.sublist<|List.take_sublist _ _
  refine⟨u,rv,?_⟩;rcases S.par y (J8 hp) with k|k
  .exact .inl ⟨k,hZ I hp hu k⟩
  .obtain ⟨c,e⟩:=ki (n:=s.heap.objs.size+1) k;refine .inr ⟨.inl k,c,e,?_⟩;have q:=x.cell y c e;rw[gW I hp hu<|by show d.names.lookup y≠_;rw[k];decide] at q;exact q
 .exact t.hok.fresh (Lq<|x.above y c<|KC h)
 .unfold start;show _=N.length;rw[IA,Ie,Ka];lia
theorem FC {CX:CXT}{P:NQ}{w:H8}{K:HX}{mg:Str->B L}{i:NX}{k:O}{f:NM}{F g:Str}{l:Arguments}{m:U N4}{c:N9}{dV kV doc pm h ct oc:L}{an od:B NM}
  {osl:N5<|B L} {N ps:U Str} {sp:Sp} (lk:K.lookup f=Y ⟨oc,od,.func<|JT F g l m c dV kV doc pm an h ct,osl⟩) (hcd:Ln K h g=HV) (S:ao N ps c)
  (len:∀p H Q E,sp p H Q E->p.length=ps.length)
  (G:∀ (A:Il) (d:U Env) (s:HW) (H:Hp) (p:U V) (Q:VK) (E:XK),Room k (A.deeper (Jp g c s.heap.objs.size f h))->sp p H Q E ->
   ∃t,PSs (iM CX P w K mg i N g c f h A d s H E) m t/\t {nx:=λ_ D=>Q .non D,rt:=Q} (start N p) H):
  ee P w K mg i CX (k+1) f (JT F g l m c dV kV doc pm an h ct) ps sp:=by
 refine⟨len,λA d s H args us p Q E hr e0 hb r hsp=>?_⟩;have hl:=len _ _ _ _ hsp;have KX:K.In s.heap:=e0.mod.kin.keeps λb o e=>(e0.bs b o e).1;have lim:s.heap.NoLimit:=e0.mod.nolimit.keeps λb o e=>(e0.bs b o e).1
 have M:∀y∈ps.zip us,c.names.lookup y.1=Y .local\/(c.names.lookup y.1=Y .cell/\((cellsFrom (s.heap.objs.size+1) c.names []).lookup y.1).isSome=HV):=λ⟨n,v⟩ hy=>by
  rcases S.par n (LJ hy).1 with q|q
  .exact .inl q
  .exact .inr ⟨q,Nb _ _ _<|.inl q⟩
 refine codeAny_call_function hr.depth (KX _ _ lk) rfl S.co S.gen rfl (PySem.W.codeRec_of KX hcd) (hb _ _ _ _ ?_);refine wpAny_newFunctionEnv_cells S.kind M λenv he s1 x=>?_;subst he;refine⟨lim.keeps x.toInCall.keep,codeAny_func ?_⟩;obtain⟨t,ht,hq⟩:=G A d s H p Q E (hr.deeper _) hsp;have I:Inv (iM CX P w K mg i N g c f h A d s H E) [] (start N p) H s1:=oP S hr.hd e0 hl r x;refine ID (ht [] s1 (start N p) H _ I hq) (λfl s' Z=>?_) λe s' Z=>Z
 have fin:∀{z:St} {D:Hp} {v:V} {u:L},Inv (iM CX P w K mg i N g c f h A d s H E) [] z D s'->RelV v u->Q v D->CE d P w H s Q u s':=
  λ{z D v u} a rv q=>⟨v,D,a.os,a.bare,a.base,a.hok,rv,q⟩
 cases fl with
 |ret u=>obtain⟨v,z,D,a,rv,q⟩:=Z;exact fin a rv q
 |next=>obtain⟨z,D,a,q⟩:=Z;exact fin (v:=V.non) (u:=Value.none) a rfl q
 |brk=>obtain⟨_,_,_,q⟩:=Z;exact Jr q
 |cont=>obtain⟨_,_,_,q⟩:=Z;exact Jr q
section
variable {X:Cx}{x:Str}{p pos:Pos}{e:NV}{es:U NV}{t:TA}{id T:NU}{r:U V->Hp->VK->Prop}
def tCB (r:U V->Hp->VK->Prop)(t:TA):TE:=λc H Q=>t c H λb a=>r b a Q
theorem dF (k:dI X (.builtin id) r)(m:Gl X x)(n:X.mg x=J)(u:Jz x=Y (.builtin id))(i:PA X (e::es) t)(o:x≠"__name__":=by decide)(b:(x==("__debug__":Str))=false:=by decide)
  (l:H9 (e::es) X.env=(HU,N3 e X.env)::H9 es X.env:=by rfl) (c:(Iy pos<|H9 es X.env).any (·.1)=false:=by rfl):PE X (.Call (.Name x p) (e::es) [] pos) (tCB r t):=by
 intro a s d H Q I h;refine LL<|dq I m n u ?_ o b;exact NL (thn (i pos a s d H _ I h) λy w ⟨z,f,g,r1,v⟩=>k a w d f z y Q g r1 v) l c
theorem eJ (k:dI X (.type T) r)(m:Gl X x)(n:X.mg x=J)(u:Jz x=Y (.type T))(i:PA X (e::es) t)(o:x≠"__name__":=by decide)(b:(x==("__debug__":Str))=false:=by decide)
  (l:H9 (e::es) X.env=(HU,N3 e X.env)::H9 es X.env:=by rfl) (c:(Iy pos<|H9 es X.env).any (·.1)=false:=by rfl):PE X (.Call (.Name x p) (e::es) [] pos) (tCB r t):=by
 intro a s d H Q I h;refine LL<|dq I m n u ?_ o b;exact K5 (thn (i pos a s d H _ I h) λy w ⟨z,f,g,r1,v⟩=>k a w d f z y Q g r1 v) l c
end
end L2
namespace HT
open PySem PyProof.Rows
section
variable {prog:NQ}{w:H8}{A:Il}{E:L->HW->Prop}{s:HW}
theorem cat_tup {t b:NM}{d a:U L}{Q:L->HW->Prop}(D:Ot s.heap t d.toArray)(z:Ot s.heap b a.toArray)(r:d≠[])
  (x:a=[]->Q (.ref t) s) (y:a≠[]->Q (.ref s.heap.objs.size) {s with heap:=s.heap.push {cls:=.type "tuple",data:=.seq (d++a).toArray}})
  (l:d.length+a.length<=sizeLine):NO (HZ prog w) A (IU .Add (.ref t)<|.ref b) Q E s:=by
 obtain⟨⟨cls,o,data,v⟩,ho,p,n,hd⟩:=id D;obtain⟨⟨m,f,data2,i⟩,c,g,u,h⟩:=id z;simp only at p hd g h;subst p hd g h;have e:d.toArray++a.toArray=(d++a).toArray:=by simp
 by_cases k:a=[]
 .exact OD ⟨_,ho,rfl⟩ ⟨_,c,rfl⟩ LK Ow Mo Mr (Mt _ _)
   (tuple_addW1 t b d.toArray a.toArray n u o f v i (by simpa using r)<|by simp[k]) ⟨ho,c,x k⟩
 .refine OD ⟨_,ho,rfl⟩ ⟨_,c,rfl⟩ LK Ow Mo Mr (Mt _ _)
   (tuple_addW2 t b d.toArray a.toArray n u o f v i (by simpa using r) (by simpa using k)<|by rw[Iv,Iv];exact l) ⟨ho,c,?_⟩
  rw[e];exact y k
def sIx (n d:O):B j->O
|none=>d
|some v=>if v<0 then(v+(n:j)).toNat else min v.toNat n
theorem AQ (n d:O)(hd:d<=n)(o:B j):sIx n d o<=n:=by
 cases o with
 |none=>exact hd
 |some v=>
  show(if v<0 then(v+(n:j)).toNat else min v.toNat n)<=n;by_cases a:v<0
  .rw[NR a];lia
  .rw[NW a];exact Nat.min_le_right _ _
theorem lX (v:j)(n d:O):(if v<0 then max (v+(n:j)) 0 else min v (n:j))=((sIx n d (Y v):O):j):=by
 show(if v<0 then max (v+(n:j)) 0 else min v (n:j))=(((if v<0 then(v+(n:j)).toNat else min v.toNat n):O):j);by_cases a:v<0
 .simp only[NR a];lia
 .simp only[NW a];lia
theorem kO (lo a:B j)(n:O):Builtin.Slice.sliceAdjust lo a 1 (n:j)=(((sIx n 0 lo:O):j),((sIx n n a:O):j)):=by
 have b:¬((1:j)<0):=by lia
 unfold Builtin.Slice.sliceAdjust;simp only[b,if_false];refine Prod.ext ?_ ?_
 .cases lo with
  |none=>rfl
  |some v=>exact lX v n 0
 .cases a with
  |none=>rfl
  |some v=>exact lX v n n
theorem kJ (i a:O):Builtin.Slice.slicePlaces (i:j) (a:j) 1=a-i:=by
 unfold Builtin.Slice.slicePlaces;have b:(1:j)>0:=by lia
 simp only[b,Ou,Int.ediv_one];split<;>lia
theorem fU {v:L}{o:B j}{Q:B j->HW->Prop}(p:JB v o)(h:Q o s):NO (HZ prog w) A (Builtin.Slice.slicePartIndex v) Q E s:=by
 cases p with
 |none=>exact slicePart_none h
 |int i t=>exact slicePart_int h
theorem sliceApplied_gen {f:NM}{d e:L}{lo b:B j}{n:O}{Q:j×j×O->HW->Prop}(i:s.heap.IsSliceOf f d e .none)(k:JB d lo)(l:JB e b)
  (h:Q (((sIx n 0 lo:O):j),1,sIx n n b-sIx n 0 lo) s):NO (HZ prog w) A (Builtin.Slice.sliceApplied (.ref f)<|pure (n:j)) Q E s:=by
 obtain⟨os,c,g,a⟩:=id i;unfold Builtin.Slice.sliceApplied Builtin.Slice.sliceFields;refine HY<|HY<|Ja c a (x:=d) rfl (HY<|Ja c a (x:=e) rfl (HY<|Ja c a (x:=.none) rfl (Ia ?_)));refine HY<|slicePart_none ?_;show NO _ _ (if((1:j)==0)=HV then _ else _) _ _ s;rw[NW<|by decide];refine HY<|fU k<|HY<|fU l<|HY<|Ia ?_;show NO _ _ (match Builtin.Slice.sliceAdjust lo b 1 (n:j) with|(lo,b)=>pure (lo,(1:j),Builtin.Slice.slicePlaces lo b 1)) _ _ s;rw[kO lo b n];show NO _ _ (pure (((sIx n 0 lo:O):j),(1:j),Builtin.Slice.slicePlaces ((sIx n 0 lo:O):j) ((sIx n n b:O):j) 1)) _ _ s;rw[kJ];exact Ia h
theorem qu (a:N5 L)(i k:O):((IB k).filterMap λ(m:O)=>a[((i:j)+(m:j) * 1).toNat]?).toArray=((a.toList.drop i).take k).toArray:=by
 have e:(λ(m:O)=>a[((i:j)+(m:j) * 1).toNat]?)=λm=>a[i+m]?:=by
  funext m;have:((i:j)+(m:j) * 1).toNat=i+m:=by lia
  rw[this]
 rw[e];have:=pick_run a i k;rw[List.filterMap_map] at this;have e2:((λx=>a[x]?) ∘ λx=>i+x)=λm=>a[i+m]?:=rfl;rw[e2] at this;rw[this]
theorem getItem_tuple_cut {t k:NM}{a:N5 L}{n o:L}{lo c:B j}{Q:L->HW->Prop}(d:Ot s.heap t a)(l:s.heap.IsSliceOf k n o .none)(v:JB n lo)(x:JB o c)
  (u:¬(sIx a.size 0 lo=0/\sIx a.size a.size c=a.size))
  (h:Q (.ref s.heap.objs.size) {s with heap:=s.heap.push {cls:=.type "tuple",data:=.seq ((a.toList.drop<|sIx a.size 0 lo).take<|sIx a.size a.size c-sIx a.size 0 lo).toArray}})
  (r:a.size<=sizeLine):NO (HZ prog w) A (Jv (.ref t)<|.ref k) Q E s:=by
 have b:sizeOk (.seq ((a.toList.drop (sIx a.size 0 lo)).take (sIx a.size a.size c-sIx a.size 0 lo)).toArray):=by show((a.toList.drop<|sIx a.size 0 lo).take<|sIx a.size a.size c-sIx a.size 0 lo).toArray.size<=sizeLine;rw[Iv,K2,KA,JH];lia
 have y:sIx a.size a.size c<=a.size:=AQ _ _ (Ic _) c;obtain⟨os,i,f,p⟩:=id l;have e:s.TypeIs (.ref k) "slice":=⟨os,i,f⟩;unfold Jv
 try with_reducible refine Kf ?_
 first|refine HY (Ia ?_)|skip
 refine HY<|wpAny_sequenceKey d.typeIs (by decide) ?_
 refine HY (Kt (name:=Str.ofString "__getitem__") d.typeIs KL
  (Kv KL d.typeIs entry_tuple_getitem ?_<|args_tuple_getitem _ _))
 show NO _ _ (Builtin.Tuple.tupleItemsOf (.ref t) >>= _) _ _ s;refine HY<|tupleItemsOf_ d ?_;refine HY<|KU e ?_;rw[NR<|by decide];refine HY<|sliceApplied_gen l v x ?_;have g:¬((((sIx a.size 0 lo:O):j)==0&&(1:j)==1&&(sIx a.size a.size c-sIx a.size 0 lo)==a.size)=HV):=by intro q;rw[Iq,Iq] at q;have z:((sIx a.size 0 lo:O):j)=0:=eq_of_beq q.1.1;have D:sIx a.size a.size c-sIx a.size 0 lo=a.size:=eq_of_beq q.2;exact u ⟨by lia,by lia⟩
 show NO _ _ (if(((sIx a.size 0 lo:O):j)==0&&(1:j)==1&&(sIx a.size a.size c-sIx a.size 0 lo)==a.size)=HV then _ else _) _ _ s;rw[NW g,qu]
 first
  |exact HY (m:=Builtin.Tuple.tupleExact _)<|Kg (Ia ⟨_,rfl,Ia h⟩) b
  |exact HY (m:=Builtin.Tuple.tupleExact _)<|Kg (HY<|Ia<|Ia ⟨_,rfl,Ia h⟩) b
  |exact HY<|HY (m:=Builtin.Tuple.tupleExact _)<|Kg (Ia<|Ia ⟨_,rfl,Ia h⟩) b
  |exact HY<|HY (m:=Builtin.Tuple.tupleExact _)<|Kg (Ia ⟨_,rfl,Ia h⟩) b
end
end HT
namespace L2
open PySem PySem.Spec PyProof.Rows
abbrev TO:=St->Hp->(B j->Hp->Prop)->Prop
def PO (X:Cx)(e:B NV)(t:TO):Prop:=
 ∀(a:U<|NM×Obj) (s:HW) (b:St) (H:Hp) (Q:B j->Hp->Prop),Inv X a b H s->t b H Q ->
  NO (HZ X.prog X.w) X.A (evalPart e X.env) (λu d=>∃o c,Inv X a b c d/\JB u o/\Q o c) X.xe s
def wq:TO:=λ_ H Q=>Q J H
noncomputable def DE (t:TE):TO:=λb H Q=>t b H λx a=>∃i,x=.int i/\Q (Y i) a
section
variable {X:Cx}{e:NV}{te:TE}{lo hi:B NV}{tl th:TO}{pos p2:Pos}
theorem mB:PO X J wq:=by intro a s b H Q I h;rw[evalPart_none];exact Ia ⟨J,H,I,.none,h⟩
theorem ml (h:PE X e te):PO X (Y e) (DE te):=by intro a s g H Q I d;rw[evalPart_some];refine thn (h a s g H _ I d) λu k ⟨x,b,c,r1,f⟩=>?_;obtain⟨i,rfl,q⟩:=f;obtain⟨t,rfl⟩:=r1;exact⟨Y i,b,c,.int i t,q⟩
def SlR (X:Cx)(r:V->B j->B j->Hp->VK->Prop):Prop:=
 ∀(a:U<|NM×Obj) (s:HW) (f:St) (H:Hp) (x:V) (v c d:L) (lo hi:B j) (b:NM) (Q:VK),Inv X a f H s->RelV x v->s.heap.IsSliceOf b c d .none->JB c lo->JB d hi->r x lo hi H Q ->
  ∃T id,Oz (.type T) "__getitem__"=pure (Y<|.builtin id)/\s.TypeIs v T/\NO (HZ X.prog X.w) X.A (Jv v<|.ref b) (EP X a f Q) X.xe s
theorem SlR.or {r f:V->B j->B j->Hp->VK->Prop}(h:SlR X r)(m:SlR X f):SlR X (λx lo hi H Q=>r x lo hi H Q\/f x lo hi H Q):=by
 intro a s l H x v i k lo hi g Q I rx b c d q;rcases q with q|q
 .exact h a s l H x v i k lo hi g Q I rx b c d q
 .exact m a s l H x v i k lo hi g Q I rx b c d q
def tSl (r:V->B j->B j->Hp->VK->Prop)(te:TE)(tl th:TO):TE:=λa H Q=>te a H λx b=>tl a b λl c=>th a c λu d=>r x l u d Q
theorem kn {r:V->B j->B j->Hp->VK->Prop}(F:SlR X r)(y:PE X e te)(D:PO X lo tl)(M:PO X hi th):PE X (.Subscript e (.Slice lo hi J p2) pos) (tSl r te tl th):=by intro a s d H Q I h;refine Subscript_<|thn (y a s d H _ I h) λv s1 ⟨x,k,n,r1,Z⟩=>?_;refine wpAny_Slice<|thn (D a s1 d k _ n Z) λf s2 ⟨l,m,o,N,q2⟩=>thn (M a s2 d m _ o q2) λg c ⟨u,i,p,P,q3⟩=>?_;rw[evalPart_none];refine Ia ?_;have t:Inv X a d i {c with heap:=c.heap.push {cls:=.type "slice",data:=.fields #[f,g,.none]}}:=p.kept (t':=c.toks) λb ob q=>Heap.get?_push_of_some _ q;obtain⟨T,id,hT,G,z⟩:=F a {c with heap:=c.heap.push {cls:=.type "slice",data:=.fields #[f,g,.none]}} d i x v f g l u c.heap.objs.size Q t r1 (Heap.IsSliceOf.new ..) N P q3;show NO (HZ X.prog X.w) X.A (Ox e (.Slice lo hi J p2) v<|.ref c.heap.objs.size) (EP X a d Q) X.xe {c with heap:=c.heap.push {cls:=.type "slice",data:=.fields #[f,g,.none]}};exact tail_any (ops:=[.ref c.heap.objs.size,v]) G hT z<|by with_unfolding_all rfl
def dM (a:U V)(lo hi:B j):U V:=(a.drop<|HT.sIx a.length 0 lo).take<|HT.sIx a.length a.length hi-HT.sIx a.length 0 lo
theorem bY (a:U V)(lo hi:B j):(dM a lo hi).length<=a.length:=by unfold dM;rw[K2,KA];lia
def Hu (K:HX):V->B j->B j->Hp->VK->Prop:=λx lo hi H Q=>∃a b,x=.ref a/\SqT K H a b /\
 ¬(HT.sIx b.length 0 lo=0/\HT.sIx b.length b.length hi=b.length)/\∀p,H p=J->Q (.ref p) (upd H p<|.tup<|dM b lo hi)
theorem zF:SlR X (Hu X.K):=by
 intro k s z H x v w y lo hi u Q I rx l n p h;obtain⟨a,d,rfl,hx,m,q⟩:=h;cases rx;obtain⟨f,r,g,i⟩:=I.tuple hx;have c:f.toArray.size=d.length:=by rw[Iv];exact r.length.symm
 refine⟨"tuple",_,KL.lookup,g.typeIs,?_⟩;refine HT.getItem_tuple_cut g l n p (by rw[c];exact m) ?_ (by rw[c];exact i);rw[c];refine⟨.ref s.heap.objs.size,_,I.laid (t':=s.toks) (o:=.tup<|dM d lo hi) (λb t q=>Heap.get?_push_of_some _ q) (Ic _) ?_,rfl,q _<|I.hok.fresh<|Ic _⟩;exact⟨Ij (bY d lo hi) i,_,(r.drop<|HT.sIx d.length 0 lo).take<|HT.sIx d.length d.length hi-HT.sIx d.length 0 lo,IsTup.new _ _⟩
def D9 (K:HX):R2:=λx y H Q=>∃a b d c,x=.ref a/\y=.ref b/\SqT K H a d/\SqT K H b c/\d≠[]/\d.length+c.length<=sizeLine /\
 (c=[]->Q (.ref a) H)/\(c≠[]->∀p,H p=J->Q (.ref p) (upd H p<|.tup<|d++c))
theorem Vals.nil_iff {b:U V}{a:U L}(r:Vals b a):a=[] ↔ b=[]:=by
 cases r with
 |nil=>simp
 |cons _ _=>simp
theorem xm:OpR X (IU .Add) (D9 X.K):=by intro f s D H x y v u Q I rx p h;obtain⟨a,b,r,t,rfl,rfl,g,i,hx,c,m,n⟩:=h;cases rx;cases p;obtain⟨k,r1,l,_⟩:=I.tuple g;obtain⟨d,r2,p2,_⟩:=I.tuple i;refine HT.cat_tup l p2 (λz=>hx<|r1.nil_iff.mp z) (λz=>⟨.ref a,H,I,rfl,m<|r2.nil_iff.mp z⟩) (λz=>?_) (by rw[<- r1.length,<- r2.length];exact c);refine⟨.ref s.heap.objs.size,_,I.laid (t':=s.toks) (o:=.tup<|r++t) (λb A q=>Heap.get?_push_of_some _ q) (Ic _) ?_,rfl,n (λw=>z<|r2.nil_iff.mpr w) _<|I.hok.fresh<|Ic _⟩;exact⟨by rw[IA];exact c,_,r1.append r2,IsTup.new _ _⟩
end
def ixN (n:O)(i:j):B O:=if 0<=i then(if i<n then Y i.toNat else J) else if -(n:j)<=i then Y (i+n).toNat else J
def atI {c:Type}(b:U c)(i:j):B c:=(ixN b.length i).bind λa=>b[a]?
theorem mq {n:O}{i:j}{a:O}(h:ixN n i=Y a):seqIndex? i n=Y a/\a<n/\-(n:j)<=i/\i<n:=by
 unfold ixN at h;by_cases c:0<=i
 .rw [NR c] at h;by_cases b:i<n
  .rw [NR b] at h;have e:i.toNat=a:=IJ h;exact⟨by rw[seqIndex_of c b,e],by lia,by lia,b⟩
  .rw[NW b] at h;cases h
 .rw [NW c] at h;by_cases b:-(n:j)<=i
  .rw [NR b] at h;have e:(i+n).toNat=a:=IJ h;exact⟨by rw[OE (by lia) b,e],by lia,b,by lia⟩
  .rw[NW b] at h;cases h
theorem iV {c:Type}{b:U c}{i:j}{v:c}(h:atI b i=Y v):∃a,seqIndex? i b.length=Y a/\b[a]?=Y v/\a<b.length/\-(b.length:j)<=i/\i<b.length:=by
 unfold atI at h;cases e:ixN b.length i with
 |none=>rw[e] at h;cases h
 |some a=>rw[e] at h;obtain⟨d,f,g,k⟩:=mq e;exact⟨a,d,h,f,g,k⟩
def ff (b:NV):Prop:=∀o i,K9 b HU o i=operate [o,i] (Jv o i)
def IxR (X:Cx)(r:R2):Prop:=
 ∀(c a:NV) (b:U<|NM×Obj) (s:HW) (d:St) (H:Hp) (x y:V) (v u:L) (Q:VK),Inv X b d H s->RelV x v->RelV y u->r x y H Q ->
  K9 a HU v u=operate [v,u] (Jv v u)->NO (HZ X.prog X.w) X.A (Ox c a v u) (EP X b d Q) X.xe s
def MtR (X:Cx)(id:NU)(r:V->U V->Hp->VK->Prop):Prop:=
 ∀(a:U<|NM×Obj) (s:HW) (d:St) (H:Hp) (x:V) (c:U V) (v:L) (b:U L) (Q:VK),Inv X a d H s->RelV x v->Vals c b->r x c H Q ->
  NO (HZ X.prog X.w) X.A (call (.builtin id) (v::b)) (EP X a d Q) X.xe s
section
variable {X:Cx}{a b:NV}{ta tb:TE}{pos:Pos}
theorem IxR.or {r g:R2}(h:IxR X r)(l:IxR X g):IxR X (λx y H Q=>r x y H Q\/g x y H Q):=by
 intro d c e s k H x y v u Q I rx i q f;rcases q with q|q
 .exact h d c e s k H x y v u Q I rx i q f
 .exact l d c e s k H x y v u Q I rx i q f
theorem mL {r:R2}(i:IxR X r)(f:PE X a ta)(g:PE X b tb)(k:ff b):PE X (.Subscript a b pos) (tOp r ta tb):=by intro c s n H Q I h;exact Subscript_<|A9 f g I h λv u m x y d e rx l q=>i a b c m n d x y v u Q e rx l q<|k _ _
def GB (K:HX):R2:=λx y H Q=>∃p c i v,x=.ref p/\y=.int i/\SqL K H p c/\atI c i=Y v/\Q v H
def Gz (K:HX):R2:=λx y H Q=>∃p c i v,x=.ref p/\y=.int i/\SqT K H p c/\atI c i=Y v/\Q v H
noncomputable def G8:R2:=λx y H Q=>∃z i c,x=.str z/\y=.int i/\z.length<=sizeLine/\atI z.cps.toList i=Y c/\Q (.str ⟨#[c]⟩) H
theorem uI:IxR X (GB X.K):=by
 intro o n d s G H x y v u Q I rx ry h F;obtain⟨p,xs,i,z,rfl,rfl,hq,Z,q⟩:=h;cases rx;obtain⟨t,rfl⟩:=ry;obtain⟨k,r,l,hz⟩:=I.list hq;obtain⟨c,f,M,h3,N,P⟩:=iV Z;obtain⟨w,A,m⟩:=r.get M;have hl:=r.length;have hn:=eA;have e:EP X d G Q w s:=⟨z,H,I,m,q⟩;by_cases D:0<=i
 .have g:i.toNat=c:=by rw[seqIndex_of D P] at f;exact IJ f
  exact item_listR l.isList D (by lia) (by rw[g];simpa using A) e F
 .have g:(i+(k.toArray.size:j)).toNat=c:=by rw[OE (by lia) N] at f;rw[Iv,<- hl];exact IJ f
  exact Oi (x:=w) l.isList.typeIs slot_list_getitem.lookup
   (wpAny_getItem_list_neg (Q:=λr s'=>r=w/\EP X d G Q r s') l.isList (by lia) (by rw[Iv]<;>lia) (by lia) (by rw[g];simpa using A) ⟨rfl,e⟩) F
theorem zB:IxR X (Gz X.K):=by
 intro g f c s l H x y v u Q I rx N h G;obtain⟨p,xs,i,z,rfl,rfl,F,A,q⟩:=h;cases rx;obtain⟨t,rfl⟩:=N;obtain⟨M,r,k,hz⟩:=I.tuple F;obtain⟨j,n,o,Z,h4,h5⟩:=iV A;obtain⟨w,m,e⟩:=r.get o;have D:=r.length;have hn:=eA;have d:EP X c l Q w s:=⟨z,H,I,e,q⟩
 exact Oi (x:=w) k.typeIs slot_tuple_getitem.lookup
  (getItem_tuple (j:=j) (Q:=λr P=>r=w/\EP X c l Q r P) k (by lia) (by lia) (by rw[Iv,<- D];exact n) (by simpa using m) ⟨rfl,d⟩) G
theorem yQ:IxR X G8:=by
 intro f e k s M H x y v u Q I rx w h r;obtain⟨z,i,c,rfl,rfl,F,o,q⟩:=h;obtain⟨t,rfl⟩:=rx;obtain⟨G,rfl⟩:=w;obtain⟨d,g,l,A,m,n⟩:=iV o;have p:z.cps.toList.length=z.length:=by simp[Str.length]
 rw[p] at g m n;have D:=eA
 exact tail_any (KO s z t) slot_str_getitem.lookup (getItem_str (c:=c) (by
  have e1:decide (i < -(2 ^ 63:j))=false:=N0 (by lia);have e2:decide (i >= 2 ^ 63)=false:=N0 (by lia);rw[e1,e2,Js]) (by rw[g];simpa using l) ⟨.str ⟨#[c]⟩,H,I.tok _,⟨_,rfl⟩,q⟩) r
theorem k6 (d:U L)(n c:O)(u:L):Obj.mapSeq (·.setIfInBounds c u) {cls:=.type "list",data:=.seq d.toArray n}={cls:=.type "list",data:=.seq (d.set c u).toArray n}:=by simp[Obj.mapSeq]
theorem Inv.lst {d:U<|NM×Obj}{g:St}{H:Hp}{s:HW}{p:NM}{f:U V}(I:Inv X d g H s)(h:H p=Y (.lst f)):
  ∃(c:U L) (n:O),Vals f c/\s.heap.get? p=Y {cls:=.type "list",data:=.seq c.toArray n}/\f.length<=sizeLine:=by
 obtain⟨z,c,n,r,e⟩:=I.hok p _ h;exact⟨c,n,r,e,z⟩
theorem Inv.lstUpd {d:U<|NM×Obj}{m:St}{H:Hp}{s:HW}{p:NM}{w k:U V}{g c:U L}{n i:O}{f:Obj->Obj}(I:Inv X d m H s)(h:H p=Y (.lst w))
  (ho:s.heap.get? p=Y {cls:=.type "list",data:=.seq g.toArray n}) (l:f {cls:=.type "list",data:=.seq g.toArray n}={cls:=.type "list",data:=.seq c.toArray i}) (r:Vals k c) (v:k.length<=sizeLine) (t:O):
  Inv X d m (upd H p<|.lst k) {s with heap:=s.heap.update p f,toks:=t}:=by
 have e:(s.heap.update p f).get? p=Y {cls:=.type "list",data:=.seq c.toArray i}:=by rw[Heap.get?_update_self f ho<|by rw[l]<;>rfl,l]
 refine I.write (x:=p) (e:=p) (by rw[h];trivial) (.inl rfl) (λb u o q=>(Heap.get?_update_other _ _<|IM o).trans q) ⟨_,e⟩ ?_;exact⟨v,c,i,r,e⟩
def E4:V->V->V->Hp->(Hp->Prop)->Prop:=λo i v H Q=>∃p d k c,o=.ref p/\i=.int k/\H p=Y (.lst d)/\ixN d.length k=Y c/\Q (upd H p<|.lst<|d.set c v)
theorem rJ:FP X E4:=by
 intro e s M H o i v Z iv u Q I D A F h;obtain⟨p,G,k,c,rfl,rfl,hp,y,q⟩:=h;cases D;obtain⟨t,rfl⟩:=A;obtain⟨d,n,r,ho,z⟩:=I.lst hp;obtain⟨f,N,w,x⟩:=mq y;have g:=r.length;have P:=eA
 have l:Inv X e M (upd H p (.lst (G.set c v))) {s with heap:=s.heap.update p<|Obj.mapSeq (·.setIfInBounds c u)}:=
  I.lstUpd hp ho (k6 d n c u) (r.set F c) (by rw[LI];exact z) s.toks
 by_cases m:0<=k
 .have hk:k.toNat=c:=by rw[seqIndex_of m x] at f;exact IJ f
  exact PySem.W.ki_setAt ho m (by lia) (by rw[Iv,<- g];exact x)<|by rw[hk];exact⟨_,l,q⟩
 .have hk:(k+(d.toArray.size:j)).toNat=c:=by rw[OE (by lia) w] at f;rw[Iv,<- g];exact IJ f
  exact PySem.W.ki_setBack ho (by lia) (by rw[Iv,<- g];exact w) (by lia)<|by rw[hk];exact⟨_,l,q⟩
theorem jg (lo c:B j)(n:O):(Ke lo c J n).1=((HT.sIx n 0 lo:O):j)/\(Ke lo c J n).2.1=((HT.sIx n n c:O):j)/\(Ke lo c J n).2.2=1:=by
 refine⟨?_,?_,rfl⟩
 .cases lo with
  |none=>simp[Ke,HT.sIx]
  |some i=>
   simp only[Ke,HT.sIx,K1,show(1:j)>0 by decide,Ou];by_cases h:i<0
   .simp only[h,Ou]<;>lia
   .simp only[h,if_false]<;>lia
 .cases c with
  |none=>simp[Ke,HT.sIx]
  |some i=>
   simp only[Ke,HT.sIx,K1,show(1:j)>0 by decide,Ou];by_cases h:i<0
   .simp only[h,Ou]<;>lia
   .simp only[h,if_false]<;>lia
theorem gO (c:U L)(lo d:B j):slicePick c.toArray lo d J=((c.drop<|HT.sIx c.length 0 lo).take<|HT.sIx c.length c.length d-HT.sIx c.length 0 lo).toArray:=by obtain⟨e,f,g⟩:=jg lo d c.toArray.size;unfold slicePick;rw[e,f,g];simp only[sliceRange_one,pick_run,Iv]<;>rfl
def uP (K:HX):V->B j->B j->Hp->VK->Prop:=λx lo d H Q=>∃a c,x=.ref a/\SqL K H a c/\∀p,H p=J->Q (.ref p) (upd H p<|.lst<|dM c lo d)
theorem sl_list:SlR X (uP X.K):=by intro g s y H x v u w lo e t Q I rx i m n h;obtain⟨a,c,rfl,hx,q⟩:=h;cases rx;obtain⟨l,r,f,k⟩:=I.list hx;have d:=r.length;refine⟨"list",_,slot_list_getitem.lookup,f.isList.typeIs,?_⟩;refine wpAny_getItem_list_slice f.isList i m n .none (by simp) ?_ (by rw[Iv]<;>lia);rw[gO,<- d];refine⟨.ref s.heap.objs.size,_,I.laid (t':=s.toks) (o:=.lst<|dM c lo e) (λb p q=>Heap.get?_push_of_some _ q) (Ic _) ?_,rfl,q _<|I.hok.fresh<|Ic _⟩;exact⟨Ij (bY c lo e) k,_,0,(r.drop<|HT.sIx c.length 0 lo).take<|HT.sIx c.length c.length e-HT.sIx c.length 0 lo,Heap.get?_push_size _ rfl⟩
noncomputable def cY:V->NN
|.non=>HV
|.bl _=>HV
|.int _=>HV
|.str _=>HV
|_=>HU
noncomputable def eqV:V->V->NN
|.non,.non=>HV
|.bl a,.bl b=>a==b
|.bl a,.int b=>(if a then 1 else 0)==b
|.int a,.bl b=>a==(if b then 1 else 0)
|.int a,.int b=>a==b
|.str a,.str b=>a==b
|_,_=>HU
theorem AZ {A:Il}{s:HW}{y x:V}{u v:L}(e:RelV y u)(rx:RelV x v)(f:cY y=HV)(d:cY x=HV):SeqAt.EqAt A s u v (eqV y x):=by
 cases y with
 |non=>
  cases e;cases x with
  |non=>cases rx;exact SeqAt.EqAt.same _
  |bl b=>cases rx;exact SeqAt.EqAt.none_bool b
  |int b=>obtain⟨t,rfl⟩:=rx;exact SeqAt.EqAt.none_int b t
  |str b=>obtain⟨t,rfl⟩:=rx;exact SeqAt.EqAt.none_str b t
  |_=>exact NP (show HU=HV from d) IG
 |bl a=>
  cases e;cases x with
  |non=>cases rx;exact SeqAt.EqAt.bool_none a
  |bl b=>cases rx;exact SeqAt.EqAt.bool_bool a b
  |int b=>obtain⟨t,rfl⟩:=rx;exact SeqAt.EqAt.bool_int a b t
  |str b=>obtain⟨t,rfl⟩:=rx;exact SeqAt.EqAt.bool_str a b t
  |_=>exact NP (show HU=HV from d) IG
 |int a=>
  obtain⟨c,rfl⟩:=e;cases x with
  |non=>cases rx;exact SeqAt.EqAt.int_none a c
  |bl b=>cases rx;exact SeqAt.EqAt.int_bool a c b
  |int b=>obtain⟨t,rfl⟩:=rx;exact SeqAt.EqAt.int_int a c b t
  |str b=>obtain⟨t,rfl⟩:=rx;exact SeqAt.EqAt.int_str a c b t
  |_=>exact NP (show HU=HV from d) IG
 |str a=>
  obtain⟨c,rfl⟩:=e;cases x with
  |non=>cases rx;exact SeqAt.EqAt.str_none a c
  |bl b=>cases rx;exact SeqAt.EqAt.str_bool a c b
  |int b=>obtain⟨t,rfl⟩:=rx;exact SeqAt.EqAt.str_int a c b t
  |str b=>obtain⟨t,rfl⟩:=rx;exact SeqAt.EqAt.str_str a c b t
  |_=>exact NP (show HU=HV from d) IG
 |_=>exact NP (show HU=HV from f) IG
def eqU (x:V)(u:L):NN:=match u with
|.none=>eqV .non x
|.bool b=>eqV (.bl b) x
|.int i _=>eqV (.int i) x
|.str z _=>eqV (.str z) x
|_=>HU
theorem pD {x y:V}{u:L}(r:RelV y u)(f:cY y=HV):eqU x u=eqV y x:=by
 cases y with
 |non=>cases r;rfl
 |bl b=>cases r;rfl
 |int i=>obtain⟨t,rfl⟩:=r;rfl
 |str z=>obtain⟨t,rfl⟩:=r;rfl
 |_=>exact NP (show HU=HV from f) IG
theorem je {x:V}:∀{c:U V} {d:U L},Vals c d->c.all cY=HV->d.any (eqU x)=c.any λy=>eqV y x
|_,_,.nil,_=>rfl
|y::c,u::d,.cons r t,f=>by rw[KH,Iq] at f;rw[IS,IS,pD r f.1,je t f.2]
theorem gD {A:Il}{s:HW}{x:V}{v:L}(rx:RelV x v)(g:cY x=HV):∀{e:U V} {d:U L},Vals e d->e.all cY=HV->∀u∈d,SeqAt.EqAt A s u v<|eqU x u
|_,_,.nil,_=>λu c=>by cases c
|y::e,u::d,.cons r t,f=>λh c=>by
 rw[KH,Iq] at f;rcases Ip.mp c with rfl|c
 .rw[pD r f.1];exact AZ r rx f.1 g
 .exact gD rx g t f.2 h c
def inV (x:V)(c:U V):NN:=c.any λy=>eqV y x
def rIn (K:HX)(d:NN):R2:=λx y H Q=>∃p c,y=.ref p/\(SqL K H p c\/SqT K H p c)/\cY x=HV/\c.all cY=HV/\Q (.bl<|if d then !inV x c else inV x c) H
theorem nJ:OpR X (I0 .In) (rIn X.K HU):=by
 intro i s n H x y v u Q I rx l h;obtain⟨p,m,rfl,d,g,fs,q⟩:=h;cases l;rcases d with d|d
 .obtain ⟨c,r,f,k⟩:=I.list d;refine SeqAt.in_listAt (eqU x) f.isList (λw e=>gD rx g r fs w<|by simpa using e) ⟨.bl _,H,I,rfl,?_⟩;rw[show c.toArray.any (eqU x)=c.any (eqU x) by simp,je r fs];exact q
 .obtain ⟨c,r,f,k⟩:=I.tuple d;refine SeqAt.in_tupleAt (eqU x) f (λw e=>gD rx g r fs w<|by simpa using e) ⟨.bl _,H,I,rfl,?_⟩;rw[show c.toArray.any (eqU x)=c.any (eqU x) by simp,je r fs];exact q
theorem iZ:dI X (.type "list") (λF H Q=>∃p i,F=[.ref p]/\(SqL X.K H p i\/SqT X.K H p i)/\∀l,H l=J->Q (.ref l) (upd H l<|.lst i)):=by
 intro y s G H F M Q I r h;obtain⟨p,i,rfl,t,q⟩:=h;obtain⟨u,rfl,rx⟩:=jA r;cases rx
 have k:∀(c:U L),Vals i c->i.length<=sizeLine->∀(d:NX) (f:O),(∀b D,s.heap.get? b=Y D->d.get? b=Y D) ->
   d.get? s.heap.objs.size=Y {cls:=.type "list",dict:=J,data:=.seq c.toArray f,slots:=#[]}->EP X y G Q (.ref s.heap.objs.size) {s with heap:=d}:=λc g v d f x e=>
  ⟨.ref s.heap.objs.size,_,I.laid (t':=s.toks) x (Ic _)<|show ObjOk X.prog X.w _ d _ (.lst i) from⟨v,c,f,g,e⟩,rfl,q _<|I.hok.fresh<|Ic _⟩
 rcases t with t|t
 .obtain ⟨c,g,A,v⟩:=I.list t;have m:=g.length;obtain⟨o,ho,z,n,hd⟩:=A.isList;exact call_list_seq p (.inl rfl) ho z hd (λd f x e=>k c g v d f x e)<|by simp only[Iv]<;>lia
 .obtain ⟨c,g,A,v⟩:=I.tuple t;have m:=g.length;obtain⟨o,ho,z,n,hd⟩:=A;exact call_list_seq p (.inr rfl) ho z hd (λd f x e=>k c g v d f x e)<|by simp only[Iv]<;>lia
theorem gJ:dI X (.type "tuple") (λx H Q=>∃p f,x=[.ref p]/\((SqL X.K H p f/\∀l,H l=J->Q (.ref l) (upd H l<|.tup f))\/(SqT X.K H p f/\Q (.ref p) H))):=by
 intro c s y H x D Q I r h;obtain⟨p,f,rfl,h⟩:=h;obtain⟨u,rfl,rx⟩:=jA r;cases rx;rcases h with⟨i,q⟩|⟨i,q⟩
 .obtain ⟨d,m,k,v⟩:=I.list i;have t:=m.length;refine call_tuple_list k.isList (λg A=>?_) (by simp only[Iv]<;>lia);have n:Inv X c y H {s with heap:=g}:=I.kept (t':=s.toks) A
  have z:Inv X c y (upd H g.objs.size (.tup f)) {s with heap:=g.push {cls:=.type "tuple",data:=.seq d.toArray}}:=
   n.laid (t':=s.toks) (λb o e=>Heap.get?_push_of_some _ e) (Ic _) (show ObjOk X.prog X.w _ _ _ (.tup f) from⟨v,d,m,IsTup.new _ _⟩)
  exact⟨.ref g.objs.size,_,z,rfl,q _<|n.hok.fresh<|Ic _⟩
 .obtain ⟨d,m,k,v⟩:=I.tuple i;exact call_tuple_same k ⟨.ref p,H,I,rfl,q⟩
def tyV (K:HX)(T:NU)(x:V)(H:Hp):Prop:=match x with
|.str _=>T="str"
|.int _=>T="int"
| .ref p=>(T="list"/\∃ d,SqL K H p d)\/(T="tuple"/\∃ o,K.lookup p=Y o/\o.cls=.type "tuple"/\o.dict=J) \/
  (T="dict"/\((∃c,H p=Y (.dK c))\/∃c,H p=Y (.dT c)))\/(T="set"/\∃S n,H p=Y (.set S n))
|_=>N2
theorem zv {f:U<|NM×Obj}{w:St}{H:Hp}{s:HW}{T:NU}{x:V}{v:L}(I:Inv X f w H s)(r:RelV x v)(ty:tyV X.K T x H):
  s.TypeIs v T/\∀a,v=.ref a->∃h,s.heap.get? a=Y h/\h.dict=none:=by
 cases x with
 |str z=>obtain⟨t,rfl⟩:=r;cases(show T="str" from ty);exact⟨KO s z t,λ_ e=>nomatch e⟩
 |int i=>obtain⟨t,rfl⟩:=r;cases(show T="int" from ty);exact⟨typeIs_int s i t,λ_ e=>nomatch e⟩
 | ref p =>
  cases r;rcases ty with⟨rfl,y,m⟩|⟨rfl,o,hk,l,hd⟩|⟨rfl,hk⟩|⟨rfl,S,n,hk⟩
  .obtain ⟨u,_,k,_⟩:=I.list m;refine⟨k.isList.typeIs,λa e=>?_⟩;cases e;obtain⟨o,n,e,c,hd,_⟩:=k;exact⟨o,e,hd⟩
  .refine ⟨⟨o,I.kIn p o hk,l⟩,fun a e=>?_⟩;cases e;exact⟨o,I.kIn _ o hk,hd⟩
  .have z:∃ o,s.heap.get? p=Y o/\o.ExactDict:=by
    rcases hk with⟨g,hk⟩|⟨g,hk⟩
    .obtain ⟨_,_,_,_,o,_,_,e,d,_⟩:=I.hok p _ hk;exact⟨o,e,d⟩
    .obtain ⟨_,_,_,_,o,_,_,e,d,_⟩:=I.hok p _ hk;exact⟨o,e,d⟩
   obtain⟨o,e,d⟩:=z;refine⟨⟨o,e,d.1⟩,λa e2=>?_⟩;cases e2;exact⟨o,e,d.2.1⟩
  .obtain ⟨o,_,_,_,e,d,_⟩:=I.hok p _ hk;refine⟨⟨o,e,d.1⟩,λa e2=>?_⟩;cases e2;exact⟨o,e,d.2.1⟩
 |_=>exact Jr ty
def tBM (K:HX)(T:NU)(r:V->U V->Hp->VK->Prop)(to:TE)(t:TA):TE:=λd H Q=>to d H λx c=>tyV K T x c/\t d c λf e=>r x f e Q
variable {o e:NV}{es:U NV}{to:TE}{t:TA}{name:Str}{apos cpos:Pos}{T id:NU}{r:V->U V->Hp->VK->Prop}
theorem gX (M:PlainAttrs T)(k:Slot T name id)(l:typeOf (.builtin id)=pure (.type "method_descriptor"))(F:MtR X id r)(ho:PE X o to)(D:PA X (e::es) t)
  (f:JN o name X.env (N3 o X.env)=N3 o X.env:=by rfl)
  (i:((Iy cpos<|H9 (e::es) X.env).all (λx=>!x.1)&&(JK cpos<|JM [] X.env).all (λx=>x.1.isSome)
  &&decide ((e::es).length+([]:U IP).length+(if([]:U IP).isEmpty then 0 else 1)<30))=true:=by rfl)
  (g:(apos.endLine==cpos.line)=true:=by rfl) (G:H9 (e::es) X.env=(HU,N3 e X.env)::H9 es X.env:=by rfl) (d:(Iy cpos<|H9 es X.env).any (·.1)=false:=by rfl):
  PE X (.Call (.Attribute o name apos) (e::es) [] cpos) (tBM X.K T r to t):=by
 intro c s m H Q I h;refine wpAny_Call_method_late f i g rfl (thn (ho c s m H _ I h) λv Z ⟨x,u,n,r1,ty,N⟩=>?_);obtain⟨z,A⟩:=zv n r1 ty;refine⟨T,id,M,k,l,z,A,?_⟩;have p:=D cpos c Z m u _ n N;rw[G] at p ⊢;refine Calls.callWith_builtin (by show(HU || (Iy cpos<|H9 es X.env).any (·.1))=HU;rw[d]<;>rfl)<|Calls.evalArgs_plain ?_;exact thn p λus s2 ⟨vs,w,y,r2,P⟩=>F c s2 m w x vs v us Q y r1 r2 P
end
def MtM (X:Cx)(id:NU)(r:V->U V->Hp->VK->Prop):Prop:=
 ∀(a:U<|NM×Obj) (s:HW) (d:St) (H:Hp) (x:V) (c:U V) (v:L) (b:U L) (Q:VK),Inv X a d H s->RelV x v->Vals c b->r x c H Q ->
  NO (HZ X.prog X.w) X.A (call (.builtin id) (v::b)) (EP X a d Q) X.xe s
theorem Vals.one:∀{x:V} {a:U L},Vals [x] a->∃u,a=[u]/\RelV x u
|_,_,.cons r .nil=>⟨_,rfl,r⟩
theorem Vals.eraseIdx:∀{b:U V} {a:U L} (i:O),Vals b a->Vals (b.eraseIdx i) (a.eraseIdx i)
|_,_,_,.nil=>.nil
|_,_,0,.cons _ t=>t
|_,_,i+1,.cons r t=>.cons r<|Vals.eraseIdx i t
theorem Vals.rep {b:U V}{a:U L}(h:Vals b a):∀k:O,Vals (Iu k b).flatten (Iu k a).flatten
|0=>.nil
|k+1=>by rw[J7,J7,Kn,Kn];exact Vals.append h<|Vals.rep h k
theorem gV {a:Type}:∀(l:U a) (i:O),(l.eraseIdx i).length<=l.length
|[],_=>Ic _
|_::_,0=>Nat.le_succ _
|_::r,i+1=>LZ<|gV r i
theorem ir (b:U L):∀(k:O) (a:U L),
 LP (λc d=>c++d) a.toArray (Iu k b.toArray)=(a++(Iu k b).flatten).toArray
|0,a=>by simp
| k+1,a=>by
 have e:a.toArray++b.toArray=(a++b).toArray:=by simp
 have e2:(a++b)++(Iu k b).flatten=a++(Iu (k+1) b).flatten:=by rw[J7,Kn,Ju]
 rw[<- e2,<- ir b k (a++b),<- e,J7,MH]
section
variable {X:Cx}{pins:U (NM×Obj)}{σ:St}{H:Hp}{s:HW}{l b:NM}{xs ys zs:U V}
theorem Inv.lset {a its':U L}{n:O}{f:N5 L->N5 L}{m:O}(I:Inv X pins σ H s)(c:H l=Y (.lst xs))
  (e:s.heap.get? l=Y {cls:=.type "list",data:=.seq a.toArray n}) (g:f a.toArray=its'.toArray) (i:Vals ys its') (k:ys.length<=sizeLine):
  Inv X pins σ (upd H l<|.lst ys) {s with heap:=s.heap.update l<|Obj.mapSeq f,toks:=m}:=by
 have q:=PySem.IsL.update e f;rw[g] at q;refine I.write (x:=l) (e:=l) (by rw[c];exact trivial) (.inl rfl) (λo u d h=>(Heap.get?_update_other s.heap (Obj.mapSeq f)<|IM d).trans h) ⟨_,q⟩ ?_;exact⟨k,its',_,i,q⟩
theorem Inv.lnew {its:U L}{t':O}(I:Inv X pins σ H s)(a:Vals ys its)(c:ys.length<=sizeLine):
  Inv X pins σ (upd H s.heap.objs.size<|.lst ys) {s with heap:=s.heap.push {cls:=.type "list",data:=.seq its.toArray},toks:=t'}:=
 I.laid (λ_ _ q=>Heap.get?_push_of_some _ q) (Ic _) ⟨c,its,0,a,Heap.get?_push_size _ rfl⟩
theorem Inv.fresh (I:Inv X pins σ H s):H s.heap.objs.size=none:=I.hok.fresh<|Ic _
theorem Inv.lstM (I:Inv X pins σ H s)(c:H l=Y (.lst xs)):xs.length<=sizeLine/\∃(a:U L) (n:O),Vals xs a/\xs.length=a.length/\s.heap.get? l=Y {cls:=.type "list",data:=.seq a.toArray n}:=by obtain⟨z,a,n,r,e⟩:=I.hok l _ c;exact⟨z,a,n,r,r.length,e⟩
theorem kg {n:O}(h:n<=sizeLine):Builtin.List.listTooLong n=false:=by unfold Builtin.List.listTooLong;exact N0<|by lia
end
section
variable {X:Cx}
def wj:V->U V->Hp->VK->Prop:=λx b H Q=>∃l a y,x=.ref l/\b=[y]/\H l=Y (.lst a)/\a.length<sizeLine/\Q .non (upd H l<|.lst<|a++[y])
theorem il:MtM X "list.append" wj:=by intro c s p H x m v k Q I rx f h;obtain⟨l,o,y,rfl,rfl,b,i,q⟩:=h;cases rx;obtain⟨u,rfl,d⟩:=f.one;obtain⟨z,a,n,r,g,e⟩:=I.lstM b;refine J4 F.slot_list_append ⟨_,e,rfl⟩ F.entry_list_append (F.args_list_append_2 _ _) (PySem.list_append l a.toArray n u<|by rw[Iv];lia) ⟨e,?_⟩;refine⟨.non,_,I.lset (its':=a++[u]) b e (by simp) (r.append<|.cons d .nil) ?_,rfl,q⟩;rw[IA,Kp];lia
def wy:V->U V->Hp->VK->Prop:=λx d H Q=>∃l b a c,x=.ref l/\d=[.ref b]/\H l=Y (.lst a)/\H b=Y (.lst c)/\a.length+c.length<=sizeLine/\Q .non (upd H l<|.lst<|a++c)
theorem oY:MtM X "list.extend" wy:=by
 intro i s N H x D v A Q I rx t h;obtain⟨l,b,G,M,rfl,rfl,g,k,y,q⟩:=h;cases rx;obtain⟨u,rfl,p⟩:=t.one;cases p;obtain⟨z,c,n,r,w,e⟩:=I.lstM g;obtain⟨z2,a,o,r2,m,e2⟩:=I.lstM k;have f:c.toArray.size+a.toArray.size<=sizeLine:=by rw[Iv,Iv];lia
 have d:¬(!c.toArray.isEmpty&&Builtin.List.listTooLong (c.toArray.size+a.toArray.size))=true:=by rw[kg f,Bool.and_false];exact IG
 refine J4 F.slot_list_extend ⟨_,e,rfl⟩ F.entry_list_extend (F.args_list_extend_2 _ _)
  (AutoSeq1.list_extend_list_list_0 l c.toArray n b a.toArray o d (by rw[Iv];lia)<|by lia) ⟨e,e2,?_⟩
 refine⟨.non,_,I.lset (its':=c++a) g e (by simp) (r.append r2) ?_,rfl,q⟩;rw[IA];lia
def Cs:V->U V->Hp->VK->Prop:=λx b H Q=>∃l a i k y,x=.ref l/\b=[.int i]/\H l=Y (.lst a)/\-(2 ^ 63)<=i/\i<2 ^ 63/\seqIndex? i a.length=Y k/\a[k]?=Y y/\Q y (upd H l<|.lst<|a.eraseIdx k)
theorem rA:MtM X "list.pop" Cs:=by
 intro d s P H x N v M Q I rx D h;obtain⟨l,G,i,k,y,rfl,rfl,c,f,g,hk,p,q⟩:=h;cases rx;obtain⟨u,rfl,A⟩:=D.one;obtain⟨t,rfl⟩:=A;obtain⟨z,a,n,r,m,e⟩:=I.lstM c;obtain⟨w,o,b⟩:=r.get p
 refine J4 F.slot_list_pop ⟨_,e,rfl⟩ F.entry_list_pop (F.args_list_pop_2 _ _)
  (MeetsSeq.list_pop_at l a.toArray n i t k w (fitsIndex_both f g) (by rw[Iv,<- m];exact hk) (by rw[<- Array.getElem?_toList];exact o)<|by rw[Iv];lia) ⟨e,?_⟩
 refine⟨y,_,I.lset (its':=a.eraseIdx k) c e ?_ (r.eraseIdx k) ?_,b,q⟩
 .show a.toArray.eraseIdxIfInBounds k=(a.eraseIdx k).toArray;rw[List.eraseIdxIfInBounds_toArray]
 .have:=gV G k;lia
def DT:R2:=λx y H Q=>∃l b a c,x=.ref l/\y=.ref b/\H l=Y (.lst a)/\H b=Y (.lst c)/\a.length+c.length<=sizeLine/\∀p,H p=J->Q (.ref p) (upd H p<|.lst<|a++c)
theorem op_cat:OpR X (IU .Add) DT:=by
 intro d s D H x y v u Q I rx m h;obtain⟨l,b,w,A,rfl,rfl,i,g,p,q⟩:=h;cases rx;cases m;obtain⟨z,c,n,r,o,e⟩:=I.lstM i;obtain⟨z2,a,t,r2,k,e2⟩:=I.lstM g;refine PySem.P.add_list e e2 ?_ (by rw[Iv,Iv];lia);have f:c.toArray++a.toArray=(c++a).toArray:=by simp
 rw[f];exact⟨.ref _,_,I.lnew (t':=s.toks) (r.append r2)<|by rw[IA];lia,rfl,q _ I.fresh⟩
def Fd:R2:=λx y H Q=>∃l k a,x=.ref l/\y=.int k/\H l=Y (.lst a)/\-(2 ^ 63)<=k/\k<2 ^ 63/\a.length * k.toNat<=sizeLine /\
 ∀p,H p=J->Q (.ref p) (upd H p<|.lst (Iu k.toNat a).flatten)
theorem xh {c:Type}(a:U c)(k:O):(Iu k a).flatten.length=k * a.length:=by
 induction k with
 |zero=>simp
 |succ k b=>rw[J7,Kn,IA,b,Nat.succ_mul,Lp]
theorem BY:OpR X (IU .Mult) Fd:=by
 intro A s σ H x y v u Q I rx Z h;obtain⟨l,k,xs,rfl,rfl,N,G,M,w,q⟩:=h;cases rx;obtain⟨t,rfl⟩:=Z;obtain⟨z,b,n,r,P,e⟩:=I.lstM N;have g:b.toArray.size * k.toNat<=sizeLine:=by rw[Iv,<- P];exact w
 have d:¬b.toArray.size * k.toNat>(2 ^ 63-1) / 8:=by
  have:(sizeLine:O)<=(2 ^ 63-1) / 8:=by decide
  lia
 have f:¬(!Builtin.List.listFitsIndex k)=true:=by rw[fitsIndex_both G M];exact IG
 have c:¬Builtin.List.listTooLong (b.toArray.size * k.toNat)=true:=by rw[kg g];exact IG
 have i:LP (λo p=>o++p) #[] (Iu (if b.toArray.isEmpty=HV then 0 else k.toNat) b.toArray)=(Iu k.toNat b).flatten.toArray:=by
  have D:∀m:O,LP (λo p=>o++p) #[] (Iu m b.toArray)=(Iu m b).flatten.toArray:=λm=>by have:=ir b m [];rw[LH] at this;exact this
  rw[D];cases b with
  |nil=>simp
  |cons a r'=>rw[NW<|by simp]
 refine wpAny_binaryOp_repeat_ref (T:="list") (U:="int") (by decide) ⟨_,e,rfl⟩ (λs'=>typeIs_int s' k t) noFill_list_mul F.fills_int_mul F.slot_int_rmul repeat_list F.slot_int_index.lookup
  (J4 F.slot_int_rmul (typeIs_int s k t) F.entry_int_rmul (F.args_int_rmul_2 _ _) (int___rmul___int_list k t l b.toArray n)
   ⟨e,rfl,⟨_,e,rfl⟩,J4 F.slot_list_mul ⟨_,e,rfl⟩ F.entry_list_mul (F.args_list_mul_2 _ _) (AutoListH.list___mul___list_int_3 l b.toArray n k t f d c) ⟨e,?_⟩⟩)
 rw[i];exact⟨.ref _,_,I.lnew (t':=s.toks) (r.rep k.toNat)<|by rw[xh,MW];exact w,rfl,q _ I.fresh⟩
end
end L2
namespace Att
open PySem PySem.W PySem.Calls PyProof.Rows
theorem eW {P:II}{h:NX}:∀(c:U j) (d:U L),WellAll P h d (c.map WData.int)->OK d c:=by
 intro c;induction c with
 |nil=>intro d w;rw[Jy] at w;cases w;exact .nil
 | cons n c e =>
  intro d w;rw[Io] at w;cases w with
  |cons a b=>cases a;exact .cons _ _<|e _ b
theorem oz {l:OpenLaw}{n:O}(w:l.most=Y n){P:II}{h:NX}{args:U WData}{e:U L}
  (c:l.row.toRowW.claim.pre args=HV) (o:WellAll P h e args):
  ∃a s b,e=[Value.ref a]/\args=[WData.list<|b.map WData.int]/\h.get? a=Y {cls:=.type "list",data:=.seq s.toArray}/\OK s b/\b.length<=n:=by
 have m:WShape.hasAll [] args [.list .int]=true:=(pre_splitW c).1;have p:l.pre.holds [] {args:=args}=true:=(pre_splitW c).2;obtain⟨d,r,rfl,t,u⟩:=hasAllW_cons m;obtain rfl:=hasAllW_nil u;obtain⟨A,rfl,v⟩:=hasW_list t;obtain⟨b,rfl⟩:=items_int v
 have g:b.length<=n:=by
  unfold OpenLaw.pre at p;have i:(WTm.not (.lt (.lit (.int (n:j))) (.len (.arg 0)))).holds [] {args:=[.list<|b.map .int]}=true:=by have i:=(holds_andW p).1;rw[w] at i;exact i
  have k:=condW_of i<|w_not<|w_lt w_lit<|w_len_list<|w_arg rfl;rw[Ie] at k;refine MO λq=>?_;have x:(n:j)<((b.length:O):j):=by lia
  first
   |(rw[NS x] at k;exact NP k<|by decide)
   |(simp at k;lia)
 cases o with
 |cons y z=>
  cases z;cases y with
  |list ho f=>exact⟨_,_,b,rfl,rfl,ho,eW b _ f,g⟩
theorem oW (l:OpenLaw)(args:U WData):l.row.toRowW.claim.post args (.bool HV) args=true:=
 postW_of (r:=l.row.toRowW) (X:=(HV==HV))
  (show WShape.has [] (.bool HV) .bool=HV by first|rfl|decide|simp[WShape.has,WShape.arms,WShape.armsAll])
  (show(WTm.eq .res<|.lit<|.bool HV).value [] {args:=args,res:=Y<|.bool HV,after:=args}=Y (.bool<|HV==HV) from w_eq_bool (w_res rfl) w_lit) rfl
theorem attach_call {l:OpenLaw}{n:O}{q:NQ}{e:U Str}{N:(Str->B L)->NX->Prop}{P:H8->NX->Prop}{d:DefRec}
  (hn:l.most=Y n) (D:d.params.defaults=[])
  (call:∀ (w:H8) (g c:HW) (x I:Str->B L) (m:NM) (o:Obj) (M v h:L) (a:NM) (k:U L) (y:U j),
   Ground q e [] N w g x I c.heap->P w c.heap ->
   c.heap.get? m=Y o->o.data=.func (docDef d.name d.params d.body d.scope M v h)->c.heap.CodeRec v d.name->x d.name=Y (.ref m) ->
   c.heap.get? a=Y {cls:=.type "list",data:=.seq k.toArray}->OK k y->y.length<=n->c.gens=#[] ->
   JP (HZ l.prog w) JY (.call (.ref m) ⟨[.ref a],[]⟩) (λr z=>r=.ok (.ret<|.bool HV)/\OldK c.heap z.heap/\z.os=c.os/\JQ z.gens) c):
  WalkO q e N P l.row.toRowW d [] (λf k=>LO f k):=by
 intro w g c x I G b m o M v h dV kV ho hd A Z F hg Q vals as u hlay hrd H hlo;obtain rfl:dV=.none:=Dflts.none Z D;obtain rfl:kV=.none:=Dflts.noKw Z;obtain⟨a,k,y,rfl,rfl,t,i,p⟩:=oz hn u H;refine enter_call<|OC (call w g c x I m o M v h a k y G b ho (fd_plain hd) A F t i p hg) λr z hq=>?_;obtain⟨rfl,h2,h3,h4⟩:=hq;exact⟨.inl ⟨.bool HV,.bool HV,[],rfl,λ_=>rfl,.bool HV,oW l _,λ_=>⟨NH,λ_ hm=>(nomatch hm)⟩⟩,h2,h3,h4⟩
end Att
namespace L2
open PySem PySem.Spec PyProof.Rows
theorem hW:∀{b:U L} {a:U j},OK b a->Vals (a.map V.int) b
|_,_,.nil=>.nil
|_,_,.cons n t h=>.cons ⟨t,rfl⟩<|hW h
def sP (H:Hp):Prop:=∀b,H b=J\/∃o a,H b=Y (.frz o<|.lst a)
theorem r9 {P:NQ}{w:H8}{K:HX}{Z mb:Str->B L}{CX:CXT}{k:O}{fa a:NM}{fd:Jg}{x:Str}{sp:Sp}{c:HW}{y:U L}{ns:U j}
  (KX:K.In c.heap) (I:c.heap.Ns Im Z) (g:c.heap.Ns builtinsNs mb) (hbb:∀x:Str,x≠"__name__"->mb x=Jz x) (G:c.heap.NoLimit) (hg:c.gens=#[])
  (ha:c.heap.get? a=Y {cls:=.type "list",data:=.seq y.toArray}) (hi:OK y ns) (hl:ns.length<=sizeLine) (hr:Room k JY)
  (F:∀i:NX,K.In i->i.Ns Im Z->ee P w K Z i CX k fa fd [x] sp) (t:∀(s:HW) (u:L),JZ s fd ⟨[u],[]⟩ [(x,u)])
  (hsp:∀H:Hp,sP H->SqL K H a (ns.map V.int)->sp [.ref a] H (λv _=>v=.bl HV) λ_ _ _=>N2)
  (hCX:∀H e l,CX [] H c (λ_ _ _=>N2) e l->N2):
  JP (HZ P w) JY (.call (.ref fa) ⟨[.ref a],[]⟩) (λr l=>r=.ok (.ret<|.bool HV)/\OldK c.heap l.heap/\l.os=c.os/\JQ l.gens) c:=by
 have rv:=hW hi;have Q:=hi.length
 -- from an abstract heap in which nothing but the script may be tracked
 have core:∀ H:Hp,sP H->SqL K H a (ns.map V.int)->HOk P w H c.heap->(∀ b,H b≠J->b=a)->(H a≠J->K.lookup a=J) ->
   JP (HZ P w) JY (.call (.ref fa) ⟨[.ref a],[]⟩) (λr l=>r=.ok (.ret<|.bool HV)/\OldK c.heap l.heap/\l.os=c.os/\JQ l.gens) c:=by
  intro H hO hS M hA hK;have f:∀{b:NM} {o:Obj},c.heap.get? b=Y o->H b=J->(jq c.heap H).get? b=Y o:=λe n=>qS e n
  have noA:∀{b:NM} {o:Obj} {A:N5 N7} {ep:O},c.heap.get? b=Y o->o.data=.dict A ep->H b=none:=λ{b o A ep} e d=>by
   cases q:H b with
   |none=>rfl
   |some u=>have e':b=a:=hA b (by rw[q];simp);subst e';rw[ha] at e;cases e;have d':Data.seq y.toArray _=Data.dict A ep:=d;cases d'
  have p:∀{b:NM} {m:Str->B L},c.heap.Ns b m->(jq c.heap H).Ns b m:=λ{b m} ⟨o,A,ep,e,d,r⟩=>⟨o,A,ep,f e<|noA e d,d,r⟩
  have D:K.In (jq c.heap H):=λb o e=>f (KX b o e) (by
   cases q:H b with
   |none=>rfl
   |some u=>
    have e':b=a:=hA b (by rw[q];simp);subst e';rw[hK<|by rw[q];simp] at e;cases e)
  have hM:Mod K Z (jq c.heap H):=⟨D,p I,⟨mb,p g,hbb⟩,let ⟨mc,h1,h2⟩:=G;⟨mc,p h1,h2⟩⟩;have e0:uT P w K Z (jq c.heap H) JY [] c H:=⟨rfl,hM,λb o e=>xP e,Nat.le_of_eq<|om _ _,trivial,λb g=>NP (show b∈([]:U NM) from g)<|by simp,M,.of_eq hg⟩;refine OC ((F _ D<|p I).run JY [] c H ⟨[.ref a],[]⟩ [.ref a] [.ref a] _ _ hr e0 (t c<|.ref a) (.cons rfl .nil)<|hsp H hO hS) λr l h=>?_;cases r with
  |error e=>exact(hCX H e l h).elim
  | ok fl =>
   cases fl with
   |next=>exact Jr h
   |brk=>exact Jr h
   |cont=>exact Jr h
   | ret u =>
    obtain⟨v,H',os,bare,un,N,r',q⟩:=h;have q':v=.bl true:=q;subst q';obtain rfl:u=Value.bool true:=r';refine⟨rfl,OldK.of_keep λb o e=>?_,os,bare⟩;cases q:H b with
    |none=>exact un.keep b o e q (by intro z;exact NP (show b∈([]:U NM) from z)<|by simp)<|by simp
    | some u =>
     rcases hO b with z|⟨ob,xs,z⟩
     .rw[q] at z;cases z
     .have z2:=un.frzs b ob _ z;obtain⟨e1,_⟩:=M b _ z;obtain⟨e2,_⟩:=N b _ z2;rw[e] at e1;cases e1;exact e2
 cases hk:K.lookup a with
 |some o=>
  -- the script is one of the module's own objects
  have e:=KX a o hk;rw[ha] at e;cases e;refine core (λ_=>J) (λ_=>.inl rfl) (.inr ⟨_,y.toArray,_,hk,rfl,rfl,rfl,by rw[Iv,Q];exact hl,by simpa using rv⟩) (λb u z=>by have z':(none:B HO)=Y u:=z;cases z') (λb z=>NP rfl z) λz=>NP rfl z
 | none =>
  refine core (λb=>if b=a then Y (.frz {cls:=.type "list",data:=.seq y.toArray} (.lst<|ns.map V.int)) else J) (λb=>?_) (.inl<|.inr ⟨{cls:=.type "list",data:=.seq y.toArray},NR rfl⟩) (λb u z=>?_) (λb z=>?_) λ_=>hk
  .by_cases g:b=a
   .exact .inr ⟨_,_,NR g⟩
   .exact .inl (NW g)
  .by_cases g:b=a
   .have z':=(NR g).symm.trans z;cases z';subst g;exact⟨ha,by rw[Ie];exact hl,y,_,rv,ha⟩
   .have z':=(NW g).symm.trans z;cases z'
  .by_cases g:b=a
   .exact g
   .exact NP (NW g) z
theorem walk_of {l:Mf}{n k:O}{q:NQ}{r:U Str}{XP:(Str->B L)->NX->Prop}{YP:H8->NX->Prop}{d:DefRec}{K:II->HX}{CX:H8->CXT}{sp:H8->Sp}{x:Str}
  (hn:l.most=Y n) (Q:n<=sizeLine) (N:d.params.defaults=[]) (hr:Room k JY)
  (hY:∀(w:H8) (h:NX),YP w h->(K w.params).In h)
  (F:∀ (w:H8) (t:Str->B L) (A:NM) (h:NX),(K w.params).In h->h.Ns Im t->t d.name=Y (.ref A) ->
   ∃I:Jg,(∀(s:HW) (u:L),JZ s I ⟨[u],[]⟩ [(x,u)]) /\
    ∀i:NX,(K w.params).In i->i.Ns Im t->ee l.prog w (K w.params) t i (CX w) k A I [x] (sp w))
  (Z:∀(w:H8) (H:Hp) (a:NM) (D:U j),D.length<=n->sP H->SqL (K w.params) H a (D.map V.int)->sp w [.ref a] H (λv _=>v=.bl HV) λ_ _ _=>N2)
  (M:∀(w:H8) (H:Hp) (s:HW) (e:L) (s':HW),CX w [] H s (λ_ _ _=>N2) e s'->N2):
  M6 q r XP YP l.row.toRowW d [] (λf vs=>LO f vs):=by
 refine Att.attach_call hn N λw s₀ z t mb A o pm cd doc a vs D G c ho hd hcd P y p m hg=>?_;have KX:=hY w _ c;obtain⟨I,hb,hF⟩:=F w t A _ KX G.T.g P;exact r9 KX G.T.g G.T.b G.T.builtins G.T.nolimit hg y p (Ij m Q) hr hF hb (λH hO hS=>Z w H a D m hO hS) λH e s'=>M w H z e s'
noncomputable def defArgs (s:N4):Arguments:=match s with
|.FunctionDef _ a _ _ _ _ _ _ _ _=>a
|_=>{posonlyargs:=[],args:=[],vararg:=J,kwonlyargs:=[],kw_defaults:=[],kwarg:=J,defaults:=[]}
noncomputable def defBody (s:N4):U N4:=match s with
|.FunctionDef _ _ b _ _ _ _ _ _ _=>b
|_=>[]
noncomputable def defScope (s:N4):N9:=match s with
|.FunctionDef _ _ _ _ _ _ a _ _ _=>a
|_=>{kind:=.function,names:=[],isGenerator:=HU,isCoroutine:=HU}
abbrev CX0:CXT:=λ_ _ _ _ _ _=>N2
abbrev E0:XK:=λ_ _ _=>N2
theorem Es {X:Cx}:k8 CX0 X E0:=λ_ _ _ _ _ _ _ h=>h.elim
structure Fun (K:HX)(x qual:Str)(st:N4)(f:NM)(fd:Jg):Prop where
 ex:∃(oc:L) (od:B NM) (kV doc pm:L) (an:B NM) (cdv ct:L) (osl:N5 (B L)),
  fd=JT x qual (defArgs st) (defBody st) (defScope st) .none kV doc pm an cdv ct/\K.lookup f=Y ⟨oc,od,.func fd,osl⟩/\Ln K cdv qual=HV
 kp:KI K (.ref f)=HV
section
variable {P:NQ}{w:H8}{K:HX}{mg:Str->B L}{base:NX}
theorem Fun.ok {x b:Str}{g:N4}{f:NM}{m:Jg}{N ps:U Str}{k:O}{sp:Sp}(F:Fun K x b g f m)(S:ao N ps<|defScope g)(len:∀e H Q E,sp e H Q E->e.length=ps.length)
  (d:∀ (c:L) (A:Il) (a:U Env) (s:HW) (H:Hp) (e:U V) (Q:VK) (E:XK),Room k (A.deeper (Jp b (defScope g) s.heap.objs.size f c))->sp e H Q E ->
   ∃t,PSs (iM CX0 P w K mg base N b (defScope g) f c A a s H E).nox (defBody g) t/\t {nx:=λ_ n=>Q .non n,rt:=Q} (start N e) H):ee P w K mg base CX0 (k+1) f m ps sp:=by
 obtain⟨v,y,kV,o,z,an,c,u,r,rfl,lk,i⟩:=F.ex;refine FC lk i S len λA a s H e Q E p l=>?_;obtain⟨t,h,q⟩:=d c A a s H e Q E p l;exact⟨t,h.nox,q⟩
theorem Fun.binds {x a:Str}{d:N4}{f:NM}{k:Jg}{ps:U Str}(F:Fun K x a d f k)
  (h:∀(kV c g:L) (an:B NM) (b e:L) (i:U L),i.length=ps.length->bindArgs (JT x a (defArgs d) (defBody d) (defScope d) .none kV c g an b e) ⟨i,[]⟩=pure (ps.zip i)):Binds K k ps []:=by
 obtain⟨n,o,kV,c,g,an,b,e,m,rfl,lk,l⟩:=F.ex;exact .all<|h kV c g an b e
theorem tU {x a:Str}{st:N4}{f:NM}{i:L}{m an:B NM}{e:N5<|B L}{kV d h b g:L}(l:K.lookup f=Y ⟨i,m,.func<|JT x a (defArgs st) (defBody st) (defScope st) .none kV d h an b g,e⟩)
  (c:Ln K b a=HV) (k:KI K (.ref f)=HV):Fun K x a st f (JT x a (defArgs st) (defBody st) (defScope st) .none kV d h an b g):=⟨⟨i,m,kV,d,h,an,b,g,e,rfl,l,c⟩,k⟩
end
theorem jI {A:Il}{k:O}(a:Room k A):A.units+1<Ob:=Mw (Nat.add_le_add_left (by decide:1<=64) _) a.units
def Same (H a:Hp):Prop:=∀b o,H b=Y o->a b=Y o
theorem Same.refl (H:Hp):Same H H:=λ_ _ h=>h
section
variable {κ:Type}[Of κ]
noncomputable def b4 (a:U<|κ×V)(k:κ):B V:=(a.find? λb=>decide (b.1=k)).map (·.2)
noncomputable def bQ (a:U<|κ×V)(k:κ)(v:V):U (κ×V):=
 if(a.any λb=>decide (b.1=k))=HV then a.map (λb=>if b.1=k then(b.1,v) else b) else a++[(k,v)]
theorem gx {p:κ×V}{r:U<|κ×V}{k:κ}(e:p.1=k):b4 (p::r) k=Y p.2:=by simp[b4,Km,e]
theorem gp {p:κ×V}{r:U<|κ×V}{k:κ}(e:¬p.1=k):b4 (p::r) k=b4 r k:=by simp[b4,Km,e]
theorem jU (k:κ):∀a:U<|κ×V,(a.any λb=>decide (b.1=k))=(b4 a k).isSome
|[]=>rfl
|p::r=>by
 rw[IS];by_cases e:p.1=k
 .simp only[gx e,NS e,Mh,Nl]
 .rw[gp e,N0 e,M5];exact jU k r
theorem bV (a:U<|κ×V)(k:κ)(v:V):(bQ a k v).length<=a.length+1:=by
 unfold bQ;split
 .rw[Ie];lia
 .rw[IA,Ii,J6];lia
theorem RelO.isSome_eq {o:B V}{u:B L}(r:RelO o u):o.isSome=u.isSome:=by
 cases o with
 |none=>cases u with
  |none=>rfl
  |some _=>exact(show N2 from r).elim
 |some _=>cases u with
  |none=>exact(show N2 from r).elim
  |some _=>rfl
theorem RelO.getD {o:B V}{u:B L}{d:V}{a:L}(r:RelO o u)(rd:RelV d a):RelV (o.getD d) (u.getD a):=by
 cases o with
 |none=>cases u with
  |none=>exact rd
  |some _=>exact(show N2 from r).elim
 |some _=>cases u with
  |none=>exact(show N2 from r).elim
  |some _=>exact r
theorem KV.val {a:U<|κ×V}{g:U<|κ×L}(r:KV a g)(k:κ):RelO (b4 a k) (Ov g k):=by
 unfold KV at r;induction r with
 |nil=>exact IZ
 | @cons p q ps d h t l =>
  obtain⟨f,i⟩:=h;by_cases e:p.1=k
  .have c:q.1=k:=f.symm.trans e;have b:Ov (q::d) k=Y q.2:=by simp[Ov,Km,c]
   rw[gx e,b];exact i
  .have c:¬ q.1=k:=fun z=>e (f.trans z);have b:Ov (q::d) k=Ov d k:=by simp[Ov,Km,c]
   rw[gp e,b];exact l
theorem KV.any {a:U<|κ×V}{c:U<|κ×L}(r:KV a c)(k:κ):(a.any λb=>decide (b.1=k))=c.any λb=>decide (b.1=k):=by
 unfold KV at r;induction r with
 |nil=>rfl
 |cons h t d=>rw[IS,IS,d,h.1]
theorem KV.repl {b:U<|κ×V}{d:U<|κ×L}(r:KV b d)(k:κ){y:V}{u:L}(i:RelV y u):
  KV (b.map λa=>if a.1=k then(a.1,y) else a) (d.map λa=>if a.1=k then(a.1,u) else a):=by
 unfold KV at r ⊢;induction r with
 |nil=>exact .nil
 | @cons p q ps l h t g=>
  rw[Io,Io];refine .cons ?_ g;obtain⟨c,f⟩:=h;by_cases e:p.1=k
  .rw[NR e,NR<|c.symm.trans e];exact⟨c,i⟩
  .rw[NW e,NW λz=>e<|c.trans z];exact⟨c,f⟩
theorem KV.put {a:U<|κ×V}{b:U<|κ×L}(r:KV a b)(k:κ){y:V}{u:L}(c:RelV y u):KV (bQ a k y) (stored b k u):=by
 unfold bQ stored;rw[r.any k];by_cases e:(b.any λd=>decide (d.1=k))=HV
 .rw[NR e,NR e];exact r.repl k c
 .rw[NW e,NW e];exact Paired.snoc r ⟨rfl,c⟩
theorem KV.length {a:U<|κ×V}{b:U<|κ×L}(r:KV a b):a.length=b.length:=Paired.length r
end
theorem fX {P:NQ}{w:H8}{k:Key}{u:L}(r:RelV (kV k) u):(aI P w).is k u=true:=by
 cases k with
 |inl i=>obtain⟨t,e⟩:=(show∃t,u=Value.int i t from r);subst e;exact ko P w i t
 |inr x=>obtain⟨t,e⟩:=(show∃t,u=Value.str x t from r);subst e;exact jQ P w x t
theorem g9 {P:NQ}{w:H8}:∀{a:U Key} {b:U L},Vals (a.map kV) b->ItemsAre (aI P w) a b
|[],_,r=>by rw[Jy] at r;cases r;exact .nil
|k::a,_,r=>by
 rw[Io] at r;cases r with
 |cons h t=>exact .cons (fX h)<|g9 t
abbrev KT (H:Hp):U (U Key×V)->U (U Key×NM×L)->Prop:=Paired λp q=>p.1=q.1/\H q.2.1=Y (.tup<|p.1.map kV)/\RelV p.2 q.2.2
theorem KT.val {H:Hp}{a:U<|U Key×V}{g:U<|U Key×NM×L}(r:KT H a g)(k:U Key):RelO (b4 a k) ((Og g k).map (·.2)):=by
 induction r with
 |nil=>exact IZ
 | @cons p q ps d h t l =>
  obtain⟨f,_,i⟩:=h;by_cases e:p.1=k
  .have c:q.1=k:=f.symm.trans e;have b:Og (q::d) k=Y q.2:=by simp[Og,Km,c]
   rw[gx e,b];exact i
  .have c:¬ q.1=k:=fun z=>e (f.trans z);have b:Og (q::d) k=Og d k:=by simp[Og,Km,c]
   rw[gp e,b];exact l
theorem KT.repl {H:Hp}{a:U<|U Key×V}{f:U<|U Key×NM×L}(r:KT H a f)(k:U Key){y:V}{u:L}(l:RelV y u):
  KT H (a.map λc=>if c.1=k then(c.1,y) else c) (f.map<|putAt k u):=by
 induction r with
 |nil=>exact .nil
 | @cons p q ps m h t i=>
  rw[Io,Io];refine .cons ?_ i;obtain⟨b,d,g⟩:=h;unfold putAt;by_cases e:p.1=k
  .rw[NR e,NR<|b.symm.trans e];exact⟨b,d,l⟩
  .rw[NW e,NW λz=>e<|b.trans z];exact⟨b,d,g⟩
theorem KT.put {H:Hp}{a:U<|U Key×V}{c:U<|U Key×NM×L}(r:KT H a c)(k:U Key){b:NM}{y:V}{u:L}(f:H b=Y (.tup<|k.map kV))(d:RelV y u):
  KT H (bQ a k y) (storedH c k b u):=by
 have e:(a.any λg=>decide (g.1=k))=(Og c k).isSome:=by rw[jU,(r.val k).isSome_eq,Nz]
 unfold bQ storedH;rw[e];by_cases q:(Og c k).isSome=HV
 .rw[NR q,NR q];exact r.repl k d
 .rw[NW q,NW q];exact Paired.snoc r ⟨rfl,f,d⟩
theorem KT.keeps {H c:Hp}{a:U<|U Key×V}{d:U<|U Key×NM×L}(r:KT H a d)(f:∀b e,H b=Y (.tup e)->c b=Y (.tup e)):KT c a d:=
 Paired.mapP r λ_ _ z=>⟨z.1,f _ _ z.2.1,z.2.2⟩
section
variable {P:NQ}{w:H8}{H:Hp}{h:NX}{a:NM}
theorem yh {u:HO}(ok:HOk P w H h)(e:Rd H a u):ObjOk P w H h a u:=e.ok ok
theorem ib {b:U<|Key×V}(ok:HOk P w H h)(e:Rd H a<|.dK b):b.length<=sizeLine/\(a==I9)=HU/\∃c,KV b c/\h.DictOf (aI P w) a c:=
 show ObjOk P w H h a (.dK b) from yh ok e
theorem qC {b:U<|Key×V}(ok:HOk P w H h)(e:H a=Y (.dK b)):b.length<=sizeLine/\(a==I9)=HU/\∃c,KV b c/\h.DictOf (aI P w) a c:=ib ok<|.inl e
theorem fP {c:U Key}(ok:HOk P w H h)(e:H a=Y (.tup<|c.map kV)):(Ki<|aI P w).is h c a:=by obtain⟨_,b,r,o,d,f,n,g⟩:=(show ObjOk P w H h a (.tup<|c.map kV) from ok a _ e);exact⟨o,b.toArray,n,d,f,g,by simpa using g9 r⟩
theorem gU {b:U<|U Key×V}(ok:HOk P w H h)(e:Rd H a<|.dT b):b.length<=sizeLine/\(a==I9)=HU /\
  ∃c,KT H b c/\h.DictOfH (Ki<|aI P w) a c:=by
 obtain⟨z,y,c,r,o,f,ep,g,i,k,n,s⟩:=(show ObjOk P w H h a (.dT b) from yh ok e);refine⟨z,y,c,r,o,f,ep,g,i,k,n,λx hx=>?_,s⟩
 have all:∀{l:U (U Key×V)} {m:U (U Key×NM×L)},KT H l m->∀x∈m,(Ki (aI P w)).is h x.1 x.2.1:=by
  intro l m q;induction q with
  |nil=>intro x hx;exact nomatch hx
  | @cons p q ps v d t u =>
   intro x hx;rcases Ip.mp hx with e|hx
   .subst e;exact fP ok<|by rw[<- d.1];exact d.2.1
   .exact u x hx
 exact all r x hx
theorem Fq {b:U<|U Key×V}(ok:HOk P w H h)(e:H a=Y (.dT b)):b.length<=sizeLine/\(a==I9)=HU /\
  ∃c,KT H b c/\h.DictOfH (Ki<|aI P w) a c:=gU ok<|.inl e
end
def DGet (H:Hp)(a:NM)(y:V)(r:B V):Prop:=
 (∃c k,Rd H a (.dK c)/\y=kV k/\r=b4 c k)\/∃c k b,Rd H a (.dT c)/\y=.ref b/\H b=Y (.tup<|k.map kV)/\r=b4 c k
def D2 (H:Hp)(a:NM)(y v:V)(d:Hp):Prop:=
 (∃c k,H a=Y (.dK c)/\y=kV k/\c.length<sizeLine/\d=upd H a (.dK<|bQ c k v)) \/
 ∃c k b,H a=Y (.dT c)/\y=.ref b/\H b=Y (.tup<|k.map kV)/\c.length<sizeLine/\d=upd H a (.dT<|bQ c k v)
theorem DGet.k {H:Hp}{a:NM}{b:U<|Key×V}{k:Key}(e:H a=Y (.dK b)):DGet H a (kV k) (b4 b k):=.inl ⟨b,k,.inl e,rfl,rfl⟩
section
variable {X:Cx}{pins:U (NM×Obj)}{σ:St}{H:Hp}{s:HW}{a:NM}{y v:V}{u r:L}{o:B V}{A:Il}{E:L->HW->Prop}
theorem Inv.big (I:Inv X pins σ H s):I9<s.heap.objs.size:=by have h:Im<s.heap.objs.size:=(I.mod.glob.keeps I.bk).lt;exact KG (by decide) h
theorem nO {Q:L->HW->Prop}(M:A.units+1<Ob)(I:Inv X pins σ H s)(g:DGet H a y<|Y v)(D:RelV y u)(h:∀f F,Inv X pins σ H F->RelV v f->Q f F):
  NO (HZ X.prog X.w) A (Jv (.ref a) u) Q E s:=by
 rcases g with⟨x,k,e,m,l⟩|⟨x,k,b,e,m,G,l⟩
 .subst m;obtain⟨z,hd,N,c,i⟩:=ib I.hok e;obtain⟨f,t,d⟩:=RelO.some_of (v:=v) (o:=Ov N k) (by rw[l];exact c.val k);exact wpAny_getItem_of (fX D) i.mapOf t<|h f _ (I.tok _) d
 .subst m;cases(show u=Value.ref b from D);obtain⟨z,hd,P,c,i⟩:=gU I.hok e;obtain⟨f,t,d⟩:=RelO.some_of (v:=v) (o:=(Og P k).map (·.2)) (by rw[l];exact c.val k);obtain⟨p,hp,n⟩:=Option.map_eq_some_iff.mp t;refine wpAny_getItem_heap (KR M) (fP I.hok G) i hp ?_;rw[n];exact h f _ (I.tok _) d
theorem GG {Q:L->HW->Prop}(t:A.units+1<Ob)(I:Inv X pins σ H s)(g:DGet H a y o)(m:RelV y u)(h:∀n,Inv X pins σ H n->Q (.bool o.isSome) n):
  NO (HZ X.prog X.w) A (I0 .In u<|.ref a) Q E s:=by
 rcases g with⟨i,k,e,f,l⟩|⟨i,k,b,e,f,p,l⟩
 .subst f;obtain⟨z,hd,x,c,d⟩:=ib I.hok e;refine wpAny_in_of (fX m) hd d.mapOf ?_;rw[<- (c.val k).isSome_eq,<- l];exact h _<|I.tok _
 .subst f;cases(show u=Value.ref b from m);obtain⟨z,hd,D,c,d⟩:=gU I.hok e;refine wpAny_in_heap (KR t) (fP I.hok p) hd d ?_;have q:=(c.val k).isSome_eq;rw[Nz] at q;rw[<- q,<- l];exact h _<|I.tok _
theorem fg {c:NX}{l:O}{f:HO}(I:Inv X pins σ H s)(k:Mut<|H a)(i:Heap.SameBut a s.heap c)(h:∃q,c.get? a=Y q)(d:ObjOk X.prog X.w (upd H a f) c a f):
  Inv X pins σ (upd H a f) {s with heap:=c,toks:=l}:=
 I.write (x:=a) (e:=a) k (.inl rfl) (λb q g z=>(i.2 b g).trans z) h d
theorem kN {P:NQ}{w:H8}{f:Hp}{e:NX}{b:U<|Key×V}{d:U<|Key×L}(z:b.length<=sizeLine)(hd:(a==I9)=HU)(c:KV b d)(g:e.DictOf (aI P w) a d):
  ObjOk P w f e a (.dK b):=⟨z,hd,d,c,g⟩
theorem oD {G:Hp}{Q:Unit->HW->Prop}(hu:A.units+1<Ob)(I:Inv X pins σ H s)(g:D2 H a y v G)(ry:RelV y u)(Z:RelV v r)(h:∀s',Inv X pins σ G s'->Q () s'):
  NO (HZ X.prog X.w) A (setItem (.ref a) u r) Q E s:=by
 rcases g with⟨d,k,e,t,l,p⟩|⟨d,k,b,e,t,M,l,p⟩
 .subst t p;obtain⟨z,hd,vs,f,n⟩:=qC I.hok e;have F:vs.length<=sizeLine:=by rw[<- f.length];exact z
  have x:(bQ d k v).length<=sizeLine:=by have:=bV d k v;lia
  refine wpAny_setItem_pairs (hsz:=F) (fX ry) n λP i D=>h _ ?_;have he:∃q,P.get? a=Y q:=let ⟨q,_,_,m,_⟩:=i;⟨q,m⟩;exact fg I (by rw[e];exact IZ) D he<|kN x hd (f.put k Z) i
 .subst t p;cases(show u=Value.ref b from ry);obtain⟨z,hd,xs,f,n⟩:=Fq I.hok e;have F:xs.length<=sizeLine:=by rw[<- Paired.length f];exact z
  have x:(bQ d k v).length<=sizeLine:=by have:=bV d k v;lia
  refine wpAny_setItem_heap (hsz:=F) (KR hu) (fP I.hok M) n λP i D=>h _ ?_;obtain⟨q,es,ep,m,h2,h3,h4,_,h5⟩:=i;refine fg I (by rw[e];exact IZ) D ⟨q,m⟩ ⟨x,hd,_,(f.put k M Z).keeps λc ys N=>?_,q,es,ep,m,h2,h3,h4,h5⟩;rw[af<|C3 N e λz=>nomatch z];exact N
end
def pf (i:NV):Prop:=∀a iv,K9 i HU a iv=operate [a,iv] (Jv a iv)
theorem mF {prog:NQ}{w:H8}{A:Il}{E:L->HW->Prop}{s:HW}{g:Env}{b a:NV}{n:Pos}{T id:NU}{Q:L->HW->Prop}
  (p:Oz (.type T) "__getitem__"=pure (Y<|.builtin id)) (t:pf a)
  (h:NO (HZ prog w) A (N3 b g) (λo e=>NO (HZ prog w) A (N3 a g) (λi c=>c.TypeIs o T/\NO (HZ prog w) A (Jv o i) Q E c) E e) E s):
  NO (HZ prog w) A (N3 (.Subscript b a n) g) Q E s:=by
 refine Subscript_<|ID h (λo e l=>ID l (λi c d=>?_) λ_ _ x=>x) λ_ _ x=>x;obtain⟨hT,d⟩:=d;unfold Ox;refine HY ?_;rw[getitemInPython_of_ne hT.not_modules];refine HY<|wpAny_specialOf hT p ?_;have k:NO (HZ prog w) A (K9 a HU o i) (λr f=>NO (HZ prog w) A (letTemporaryGo b o r >>= λ_=>pure r) Q E f) E c:=by rw[t o i];exact wpAny_operating<|ID d (λr f m=>HY<|wpAny_letTemporaryGo<|Ia m) λ_ _ x=>x
 first
  |exact Ia<|HY k
  |exact HY<|Ia<|HY k
  |exact HY k
theorem kl {X:Cx}{c:U<|NM×Obj}{h:St}{H:Hp}{s:HW}{a:NM}{y:V}{o:B V}(I:Inv X c h H s)(g:DGet H a y o):s.TypeIs (.ref a) "dict":=by
 rcases g with⟨f,k,e,_,_⟩|⟨f,k,b,e,_,_,_⟩
 .obtain ⟨_,_,i,_,d⟩:=ib I.hok e;exact d.typeIs
 .obtain ⟨_,_,l,_,d⟩:=gU I.hok e;exact d.typeIs
def Em (e ty:TE):TE:=λc H Q=>e c H λx d=>ty c d λy b=>∃a v,x=.ref a/\DGet b a y (Y v)/\Q v b
def Hz (ty e:TE):TE:=λc H Q=>ty c H λy d=>e c d λx b=>∃a o,x=.ref a/\DGet b a y o/\Q (.bl o.isSome) b
def E6 (g ty h:TE):TS:=λD b H=>h b H λv d=>g b d λx e=>ty b e λy f=>∃a c,x=.ref a/\D2 f a y v c/\D.nx b c
section
variable {X:Cx}{o i e value:NV}{pos pos' tpos:Pos}{td ty tv:TE}
theorem uE (w:X.A.units+1<Ob)(ho:PE X o td)(r:PE X i ty)(t:pf i):PE X (.Subscript o i pos) (Em td ty):=by intro b s f H Q I h;refine mF Mu.lookup t<|thn (ho b s f H _ I h) λu G ⟨x,k,m,rx,z⟩=>thn (r b G f k _ m z) λiv M ⟨y,l,d,F,a,v,p,g,D⟩=>?_;subst p;obtain rfl:u=Value.ref a:=rx;exact⟨kl d g,nO w d g F λP N n c=>⟨v,l,n,c,D⟩⟩
theorem Cd (r:X.A.units+1<Ob)(p:PE X i ty)(ho:PE X o td):PC X .In i o (Hz ty td):=by intro b s c H Q I h;refine thn (p b s c H _ I h) λiv D ⟨y,d,k,z,v⟩=>thn (ho b D c d _ k v) λu F ⟨x,f,l,rx,a,t,n,g,w⟩=>?_;subst n;obtain rfl:u=Value.ref a:=rx;exact GG r l g z λG m=>⟨.bl t.isSome,f,m,rfl,w⟩
theorem xr (F:X.A.units+1<Ob)(ho:PE X o td)(w:PE X i ty)(G:PE X value tv)(z:Jf value (Y<|.Subscript o i pos') pos.line X.env=pure HU):
  PS X (.Assign [.Subscript o i pos'] value pos) (E6 td ty tv):=by
 intro b s c H D I h;refine wpAny_Assign_Subscript (thn (G b s c H _ I h) λr s1 ⟨v,d,l,Q,M⟩=>thn (ho b s1 c d _ l M) λu s2 ⟨x,f,m,rx,N⟩=>thn (w b s2 c f _ m N) λiv s3 ⟨y,H3,n,Z,a,k,t,g,P⟩=>?_) z;subst t;obtain rfl:u=Value.ref a:=rx;exact oD F n g Z Q λs4 p=>⟨c,k,p,P⟩
end
theorem jW {P:NQ}{w:H8}{H:Hp}(h:NX)(a:I9<h.objs.size):ObjOk P w H (h.push {cls:=.type "dict",data:=.dict #[]}) h.objs.size (.dK []):=
 ⟨Jo _,beq_eq_false_iff_ne.mpr<|IM<|Iw a,[],.nil,Heap.DictOf.new h⟩
def pX:TE:=λ_ H Q=>∀p,H p=J->Q (.ref p) (upd H p<|.dK [])
section
variable {X:Cx}{pos:Pos}
theorem tI:PE X (.Dict [] [] pos) pX:=λb s c H Q I h=>
 wpAny_Dict_empty ⟨.ref s.heap.objs.size,_,I.laid (a:=s.heap.objs.size) (o:=.dK []) (t':=s.toks) (λ_ _ q=>Heap.get?_push_of_some _ q) (Ic _)<|jW s.heap I.big,rfl,h _<|I.hok.fresh<|Ic _⟩
end
def lg:U (TE×TE)->St->Hp->(U (V×V)->Hp->Prop)->Prop
|[],_,H,Q=>Q [] H
|(e,f)::r,a,H,Q=>e a H λx b=>f a b λy c=>lg r a c λps d=>Q ((x,y)::ps) d
abbrev VV:U (V×V)->U (L×L)->Prop:=Paired λp q=>RelV p.1 q.1/\RelV p.2 q.2
def PPs (X:Cx)(d:Pos)(c:U<|B NV)(a:U NV)(e:U<|TE×TE):Prop:=
 ∀(b:U<|NM×Obj) (s:HW) (f:St) (H:Hp) (Q:U (V×V)->Hp->Prop),Inv X b f H s->lg e f H Q ->
  NO (HZ X.prog X.w) X.A (evalPairs<|pairTrees c a X.env d) (λi h=>∃ps g,Inv X b f g h/\VV ps i/\Q ps g) X.xe s
theorem uA {X:Cx}{a:Pos}:PPs X a [] [] []:=λb s c H Q I h=>pairTrees_nil_walk ⟨[],H,I,.nil,h⟩
theorem sA {X:Cx}{b:Pos}{k v:NV}{f:U<|B NV}{l:U NV}{g i:TE}{c:U<|TE×TE}(hk:PE X k g)(z:PE X v i)(w:PPs X b f l c):
  PPs X b (Y k::f) (v::l) ((g,i)::c):=λa s e H Q I h=>
 pairTrees_cons_walk (thn (hk a s e H _ I h) λu M ⟨x,m,p,rx,A⟩=>thn (z a M e m _ p A) λZ N ⟨y,n,r,G,D⟩=>
  thn (w a N e n _ r D) λws P ⟨ps,o,t,d,F⟩=>⟨(x,y)::ps,o,t,.cons ⟨rx,G⟩ d,F⟩)
def gk (b more:U<|Key×V):U (Key×V):=more.foldl (λa c=>bQ a c.1 c.2) b
theorem KV.merge:∀{more:U<|Key×V} {rs:U<|Key×L} {a:U<|Key×V} {b:U<|Key×L},KV more rs->KV a b->KV (gk a more) (merged b rs):=by
 intro more rs a b r;unfold KV at r;induction r generalizing a b with
 |nil=>intro q;exact q
 | @cons p q ps d h t c =>
  intro r0;have e:KV (bQ a p.1 p.2) (stored b q.1 q.2):=by have:=r0.put p.1 h.2;rw[<- h.1];exact this
  exact c e
theorem cW:∀(more a:U<|Key×V),(gk a more).length<=a.length+more.length
|[],a=>by show a.length<=a.length+0;lia
|p::r,a=>by have b:=cW r<|bQ a p.1 p.2;have c:=bV a p.1 p.2;show(gk (bQ a p.1 p.2) r).length<=_;rw[Ii];lia
theorem gh {P:NQ}{w:H8}:∀{d:U<|Key×V} {f:U<|L×L},VV (d.map λe=>(kV e.1,e.2)) f->∃rs,Carries (aI P w) f rs/\KV d rs
|[],_,r=>by rw[Jy] at r;cases r;exact⟨[],IZ,.nil⟩
| p::d,_,r=>by
 rw[Io] at r;cases r with
 | @cons a b as bs h t=>obtain⟨rs,c,q⟩:=gh (P:=P) (w:=w) t;obtain⟨i,g⟩:=b;exact⟨(p.1,g)::rs,⟨fX h.1,rfl,c⟩,.cons ⟨rfl,h.2⟩ q⟩
def yi (b:U<|TE×TE):TE:=λe H Q=>∀p,H p=J->lg b e (upd H p<|.dK []) λps c=>c p=Y (.dK [])/\∃a:U<|Key×V,ps=a.map (λd=>(kV d.1,d.2))/\a.length<=15/\Q (.ref p) (upd c p<|.dK<|gk [] a)
theorem xS {X:Cx}{l:Pos}{b:U<|B NV}{d:U NV}{m:U<|TE×TE}(h:PPs X l b d m)(g:b.all (·.isSome)=HV)(A:b.length=d.length)(v:b≠[])
  (n:b.length<=15):PE X (.Dict b d l) (yi m):=by
 intro k s σ H Q I q;have D:=I.hok.fresh<|Ic s.heap.objs.size;have t:=I.laid (a:=s.heap.objs.size) (o:=.dK []) (h':=s.heap.push {cls:=.type "dict",data:=.dict #[]}) (t':=s.toks) (λ_ _ q=>Heap.get?_push_of_some _ q) (Ic _)<|jW s.heap I.big;refine wpAny_Dict_walk (knd:=aI X.prog X.w) g A v n<|thn (h k _ σ _ _ t<|q _ D) λws s2 ⟨ps,H2,r,p,e,i,ep,lk,N⟩=>?_;subst ep;obtain⟨rs,c,Z⟩:=gh (P:=X.prog) (w:=X.w) p;obtain⟨z,hd,vs0,r0,u⟩:=qC r.hok e;cases r0;refine⟨rs,c,u,λh' f G=>⟨.ref s.heap.objs.size,_,?_,rfl,N⟩⟩;have M:(gk [] i).length<=sizeLine:=by have x:=cW i [];rw[J6] at x;rw[La];lia
 have y:∃q,h'.get? s.heap.objs.size=Y q:=let ⟨q,_,_,F,_⟩:=f;⟨q,F⟩;exact fg r (by rw[e];exact IZ) G y<|kN M hd (Z.merge .nil) f
structure M1 (X:Cx)(o:NV)(m:Str)(apos:Pos)(e:NV)(cpos:Pos):Prop where
 base:JN o m X.env (N3 o X.env)=N3 o X.env
 few:((Iy cpos (H9 [e] X.env)).all (λx=>!x.1)&&(JK cpos (JM [] X.env)).all (λx=>x.1.isSome)
 &&decide (([e]:U NV).length+([]:U IP).length+(if([]:U IP).isEmpty then 0 else 1)<30))=HV
 line:(apos.endLine==cpos.line)=HV
 trees:Iy cpos (H9 [e] X.env)=[(HU,N3 e X.env)]
structure M2 (X:Cx)(o:NV)(m:Str)(apos:Pos)(e f:NV)(cpos:Pos):Prop where
 base:JN o m X.env (N3 o X.env)=N3 o X.env
 few:((Iy cpos (H9 [e,f] X.env)).all (λx=>!x.1)&&(JK cpos (JM [] X.env)).all (λx=>x.1.isSome)
 &&decide (([e,f]:U NV).length+([]:U IP).length+(if([]:U IP).isEmpty then 0 else 1)<30))=HV
 line:(apos.endLine==cpos.line)=HV
 trees:Iy cpos (H9 [e,f] X.env)=[(HU,N3 e X.env),(HU,N3 f X.env)]
def IsD (H:Hp)(a:NM):Prop:=(∃b,Rd H a<|.dK b)\/∃b,Rd H a<|.dT b
theorem ug {X:Cx}{g:U<|NM×Obj}{l:St}{H:Hp}{s:HW}{a:NM}(I:Inv X g l H s)(d:IsD H a):
  s.TypeIs (.ref a) "dict"/\(∀b,Value.ref a=.ref b->∃c,s.heap.get? b=Y c/\c.dict=J)/\(a==I9)=false:=by
 rcases d with⟨k,e⟩|⟨k,e⟩
 .obtain ⟨_,hd,m,_,f⟩:=ib I.hok e;refine⟨f.typeIs,λb q=>?_,hd⟩;cases q;obtain⟨c,_,_,h,i,_⟩:=f;exact⟨c,h,i.2.1⟩
 .obtain ⟨_,hd,n,_,f⟩:=gU I.hok e;refine⟨f.typeIs,λb q=>?_,hd⟩;cases q;obtain⟨c,_,_,h,i,_⟩:=f;exact⟨c,h,i.2.1⟩
section
variable {X:Cx}{pins:U (NM×Obj)}{σ:St}{H:Hp}{s:HW}{a:NM}{y d:V}{u r:L}{o:B V}{A:Il}{E:L->HW->Prop}
theorem Cr {Q:L->HW->Prop}(x:A.units+1<Ob)(I:Inv X pins σ H s)(g:DGet H a y o)(n:RelV y u)(h:∀t p,Inv X pins σ H p->RelV (o.getD .non) t->Q t p):
  NO (HZ X.prog X.w) A (call (.builtin "dict.get") [.ref a,u]) Q E s:=by
 rcases g with⟨m,k,e,i,l⟩|⟨m,k,b,e,i,v,l⟩
 .subst i;obtain⟨z,hd,F,c,f⟩:=ib I.hok e;refine KS Ko f.typeIs Lu (Mq _ _) (meets_dict_get (aI X.prog X.w) a (fX n) hd) ⟨_,f.mapOf,h _ _ (I.tok _) ?_⟩;rw[l];exact(c.val k).getD rfl
 .subst i;cases(show u=Value.ref b from n);obtain⟨z,hd,D,c,f⟩:=gU I.hok e;refine KS Ko f.typeIs Lu (Mq _ _) (meetsH_dict_get (Ki<|aI X.prog X.w) a b hd) ⟨KR x,k,D,fP I.hok v,f,h _ _ (I.tok _) ?_⟩;rw[l];exact(c.val k).getD rfl
end
def rC (e ty:TE):TE:=λd H Q=>e d H λx b=>∃a,x=.ref a/\IsD b a/\ty d b λy c=>∃o,DGet c a y o/\Q (o.getD .non) c
section
variable {X:Cx}{o e f:NV}{apos cpos:Pos}{td ty tx:TE}
theorem tw (w:X.A.units+1<Ob)(ho:PE X o td)(v:PE X e ty)(m:M1 X o "get" apos e cpos):PE X (.Call (.Attribute o "get" apos) [e] [] cpos) (rC td ty):=by intro b s k H Q I h;refine Lf m.base m.few m.line Lx Ko Ml<|thn (ho b s k H _ I h) λu G ⟨x,l,i,rx,a,t,d,z⟩=>?_;subst t;obtain rfl:u=Value.ref a:=rx;obtain⟨M,N,_⟩:=ug i d;refine⟨M,N,?_⟩;rw[m.trees];refine Calls.callWith_builtin rfl (Calls.evalArgs_plain<|Calls.spliced_cons<|thn (v b G k l _ i z) λiv Z ⟨y,n,p,F,P,g,D⟩=>Calls.spliced_nil ?_);exact Cr w p g F λw' s3 r c=>⟨_,n,r,c,D⟩
end
end L2

set_option maxHeartbeats 4000000
namespace L3
open PySem PySem.Spec PyProof.Rows L2
abbrev noX:L->HW->Prop:=λ_ _=>N2
theorem ia {P:NQ}{w:H8}{H:Hp}{h:NX}{a:NM}{o:HO}(x:HOk P w H h)(g:H a=J)(d:ObjOk P w (upd H a o) h a o):HOk P w (upd H a o) h:=by
 intro b u e;by_cases f:b=a
 .subst f;rw[ag] at e;cases e;exact d
 .rw [af f] at e;refine(x b u e).stay (λc v _ q=>q) (λc q=>?_) (λc i q=>?_)
  .rw[af<|aK q g];exact q
  .rw[af<|aK q g];exact q
section
variable {prog:NQ}{w:H8}{A:Il}{R:Result->HW->Prop}{s:HW}
theorem kR {p I f:NV}{c:N9}{G:Pos}{H o:L}{b:Env}(a:O->HW->Prop)
  (turn:∀ n s,a n s->NO (HZ prog w) A (JI H) (fun r d=>match r with
   |none=>R (.ok .next) d
   | some v=>NO (HZ prog w) A (Ku I H v) (fun _ g=>NO (HZ prog w) A (Jq I b v) (fun _ i =>
     NO (HZ prog w) A (N3 p b) (λy k=>NO (HZ prog w) A (call (.builtin "list.append") [o,y]) (λ_ l=>∃m,m<n/\a m l) noX k) noX i) noX g) noX d) noX s)
  (n:O) (h:a n s):JP (HZ prog w) A (.compLoop (.ListComp p [⟨I,f,[],0⟩] c G) 0 H o b) R s:=by
 refine codeAny_loop rfl a (λn s M=>?_) n h;show NO _ A ((compTurn (.ListComp p [⟨I,f,[],0⟩] c G) 0 H o b).onRaise (λx=>do noteFrame x b;theTreesLotGoes x)) _ _ s;refine wpAny_noted ?_;rw[compTurn_list];refine HY<|Ld<|HY<|ID (turn n s M) (λr d e=>?_) λ_ _ z=>z.elim;cases r with
 |none=>exact Ia e
 |some v=>refine HY<|ID e (λ_ g t=>?_) λ_ _ z=>z.elim;refine HY<|ID t (λ_ i u=>?_) λ_ _ z=>z.elim;refine HY<|wpAny_tests_nil ?_;exact HY<|HY<|ID u (λy k D=>HY<|ID D (λ_ l F=>Ia<|Ia ⟨rfl,F⟩) λ_ _ z=>z.elim) λ_ _ z=>z.elim
end
def aB (X:Cx)(N:U Str)(a:N9)(b:U<|Str×NM)(C:NM)(s:HW)(H:Hp)(c:U NM):Cx where
 prog:=X.prog
 w:=X.w
 K:=X.K
 mg:=X.mg
 base:=X.base
 A:=X.A
 N:=N
 s₀:=s
 H₀:=H
 env:=compEnvC a b C X.env
 outer:=X.stack
 stack:=X.stack
 ex:=c
 fn:=λ_=>HU
 calm:=X.calm
 pn:=X.pn
 xe:=noX
inductive Clo (X:Cx):U (Str×NM)->Prop
 |nil:Clo X []
 |cons {y:Str} {c:NM} {cl:U (Str×NM)}:X.env.cells.lookup y=Y c->Clo X cl->Clo X ((y,c)::cl)
theorem Clo.get {X:Cx}{a:U<|Str×NM}(h:Clo X a):∀{y:Str} {c:NM},a.lookup y=Y c->X.env.cells.lookup y=Y c:=by
 induction h with
 |nil=>intro y c e;cases e
 | @cons z d b f _ g =>
  intro y c e;cases q:y==z with
  |true=>simp only[Je,q] at e;cases e;rw[eq_of_beq q];exact f
  |false=>simp only[Je,q] at e;exact g e
inductive Frees (X:Cx)(scope:N9)(cl:U (Str×NM)):U Str->U O->Prop
 |nil:Frees X scope cl [] []
 | cons {y:Str} {ys:U Str} {i:O} {is:U O} {c:NM}:X.N[i]?=Y y->Vis X.env.scope y->(X.env.kindOf y=Y .cell\/X.env.kindOf y=Y .free)->X.env.cells.lookup y=Y c->cl.lookup y=Y c ->
   ((Kb scope X.env).names.lookup y=Y .cell\/(Kb scope X.env).names.lookup y=Y .free)->Frees X scope cl ys is->Frees X scope cl (y::ys) (i::is)
theorem Frees.len {X:Cx}{a:N9}{d:U<|Str×NM}{c:U Str}{b:U O}(F:Frees X a d c b):b.length=c.length:=by
 induction F with
 |nil=>rfl
 |cons _ _ _ _ _ _ _ e=>rw[Ii,Ii,e]
noncomputable def b0 (b:L2.St)(a:U O):L2.St:=a.map λi=>(b[i]?).join
theorem Frees.get {X:Cx}{b:N9}{f:U<|Str×NM}{g:U Str}{d:U O}{σ:L2.St}(F:Frees X b f g d):∀{a:O} {y:Str} {v:V},g[a]?=Y y->(b0 σ d)[a]?=Y (Y v) ->
  ∃(i:O) (c:NM),X.N[i]?=Y y/\σ[i]?=Y (Y v)/\Vis X.env.scope y/\(X.env.kindOf y=Y .cell\/X.env.kindOf y=Y .free)/\X.env.cells.lookup y=Y c/\f.lookup y=Y c /\
   ((Kb b X.env).names.lookup y=Y .cell\/(Kb b X.env).names.lookup y=Y .free):=by
 induction F with
 |nil=>intro a y v e;simp at e
 | @cons z s i d c h k l m n p _ r =>
  intro a y v e1 e2;unfold b0 at e2;rw[Io] at e2;cases a with
  | zero =>
   rw[K6] at e1 e2;cases e1;cases q:σ[i]? with
   |none=>rw[q] at e2;cases e2
   |some o=>rw[q] at e2;have e3:o=Y v:=IJ e2;subst e3;exact⟨i,c,h,q,k,l,m,n,p⟩
  |succ a=>rw[Jh] at e1 e2;exact r e1 e2
abbrev iH (a:U L):Obj:={cls:=.type "list",data:=.seq a.toArray a.length}
theorem nK {X:Cx}(N:X.calm=HV):dI X (.builtin "all") (λD H Q=>∃(a:NM) (bs:U NN),D=[.ref a]/\SqL X.K H a (bs.map V.bl)/\Q (.bl<|bs.all id) H):=by
 intro y s σ H D us Q I r h;obtain⟨a,bs,rfl,G,q⟩:=h;obtain⟨u,rfl,ru⟩:=jA r;cases ru;obtain⟨c,t,p,hz⟩:=I.list G;have l:c.toArray.size=bs.length:=by rw[Iv,<- t.length,Ie]
 have n:a<s.heap.objs.size:=by obtain⟨o,e,_⟩:=p.isList;exact Heap.lt_size e
 refine call_all_walk<|Kh p.isList ?_;refine⟨s.heap.objs.size,_,_,_,_,_,λi=>bs.getD i HV,rfl,Walks.list (A:=X.A.in1) (show X.A.in1.handled=J from I.ok.hd N) s.heap.objs.size a (Iw n) c.toArray,⟨⟨_,Heap.get?_push_size _ rfl,rfl,rfl⟩,p.isList.push _⟩,λi v s' Q' E' Z F=>?_,λh' tk k=>?_⟩
 .have m:c[i]?=Y v:=by simpa using Z
  have d:i<c.length:=(Jc.mp m).1;have g:i<bs.length:=by have:=t.length;rw[Ie] at this;lia
  obtain⟨w',e1,e2⟩:=t.get (i:=i) (x:=.bl bs[i]) (by rw[IW,Kq g];rfl);rw[m] at e1;cases e1;cases e2;refine Lg ?_;have e3:bs.getD i HV=bs[i]:=by rw[Ly,Kq g];rfl
  rw[<- e3];exact F
 .have e:(IB c.toArray.size).all (fun i=>bs.getD i HV)=bs.all id:=by
   rw[l,Bool.eq_iff_iff,JW,JW];constructor
   .intro z b M;obtain⟨i,d,e⟩:=List.getElem_of_mem M;have:=z i<|Mc.mpr d;rw[Ly,Kq d] at this;simpa[e] using this
   .intro z i d;have f:=Mc.mp d;rw[Ly,Kq f];exact z _<|List.getElem_mem f
  rw[e]
  exact⟨.bl<|bs.all id,H,I.kept (λb o w=>k b o (λP=>by
   have:b=s.heap.objs.size:=by simpa using P
   exact NP (this ▸ Heap.lt_size w)<|Kl _)<|Heap.get?_push_of_some _ w),rfl,q⟩
inductive Th where
 |non|bl (b:NN)|int (i:j)|str (x:Str)|tup (ts:U Th)|lst (ts:U Th)
mutual
def Has (K:HX)(H:Hp):Th->V->Prop
|.non,v=>v=.non
|.bl b,v=>v=.bl b
|.int i,v=>v=.int i
|.str x,v=>v=.str x
|.tup ts,v=>∃a vs,v=.ref a/\SqT K H a vs/\HasL K H ts vs
|.lst ts,v=>∃a vs,v=.ref a/\H a=Y (.lst vs)/\HasL K H ts vs
def HasL (K:HX)(H:Hp):U Th->U V->Prop
|[],vs=>vs=[]
|t::ts,vs=>∃v r,vs=v::r/\Has K H t v/\HasL K H ts r
end
noncomputable def Th.ty:Th->NU
|.non=>"NoneType" |.bl _=>"bool" |.int _=>"int" |.str _=>"str" |.tup _=>"tuple" |.lst _=>"list"
def isI (c:NU)(t:Th):NN:=t.ty==c || (t.ty=="bool"&&c=="int")
theorem kit_type {K:HX}{A a:NU}:JX K (.type A) (.type a)=JX [] (.type A) (.type a):=by unfold JX PySem.W.kitCls M4;rfl
theorem Ab:∀c∈["tuple","str","bool","int","list"],∀n∈["NoneType","bool","int","str","tuple","list"],JX [] (.type n) (.type c)=Y (n==c || (n=="bool"&&c=="int")):=by decide +kernel
theorem AI (t:Th):t.ty∈["NoneType","bool","int","str","tuple","list"]:=by cases t<;>simp[Th.ty]
theorem lu {c:NU}(a:c∈["tuple","str","bool","int","list"])(t:Th):JX [] (.type t.ty) (.type c)=Y (isI c t):=Ab c a t.ty<|AI t
structure DTab (K:HX)(w:H8)(a:NM)(T:U (Str×V)):Prop where
 ex:∃es n,K.lookup a=Y ⟨.type "dict",J,.dict es n,#[]⟩/\MG w.params es.toList/\Paired (λ(p:Str×V) (e:N7)=>(∃t,e.key=.str p.1 t)/\RelV p.2 e.val) T es.toList
 lo:(a==I9)=HU
theorem j2 {x:Str}:∀{T:U<|Str×V} {l:U N7},Paired (λ(p:Str×V) (e:N7)=>(∃t,e.key=.str p.1 t)/\RelV p.2 e.val) T l->RelO (T.lookup x) ((l.find? λd=>Value.isStrOf x d.key).map (·.val))
|_,_,.nil=>trivial
| (k,v)::T,e::l,.cons ⟨⟨t,b⟩,c⟩ r=>by
 have f:=j2 (x:=x) r
 have q:Value.isStrOf x e.key=(x==k):=by
  have a:e.key=.str k t:=b;rw[a];show(k==x)=(x==k);by_cases z:x=k
  .subst z;rfl
  .rw[Ol z,Ol<|IM z]
 rw[Km,q,Je];cases x==k with
 |true=>exact c
 |false=>exact f
theorem DTab.map {K:HX}{w:H8}{a:NM}{T:U<|Str×V}{P:NQ}{h:NX}(D:DTab K w a T)(X:K.In h):∃f:Str->B L,h.MapOf (strKind P w) a f/\∀x,RelO (T.lookup x) (f x):=by
 obtain⟨b,n,c,g,i⟩:=D.ex;refine⟨_,PySem.W.mapOf_K (prog:=P) X c g,λx=>?_⟩;have q:=j2 (x:=x) i;have e:findBy Value.isStrOf b x=(b.toList.find? λd=>Value.isStrOf x d.key).map (·.val):=by unfold findBy;rw[<- Nm]
 rw[e];exact q
theorem RelO.some_is {v:V}{o:B L}(r:RelO (Y v) o):∃u,o=Y u/\RelV v u:=by
 cases o with
 |none=>exact r.elim
 |some u=>exact⟨u,rfl,r⟩
theorem RelO.same_some {o:B V}{u:B L}(r:RelO o u):u.isSome=o.isSome:=by
 cases o with
 |none=>
  cases u with
  |none=>rfl
  |some u=>exact r.elim
 |some v=>obtain⟨u,rfl,_⟩:=RelO.some_is r;rfl
section
variable {X:Cx}
theorem qH:OpR X (I0 .In) (λx y H Q=>∃z a T,x=.str z/\y=.ref a/\DTab X.K X.w a T/\Q (.bl (T.lookup z).isSome) H):=by intro b s g H x y v u Q I rx e h;obtain⟨z,a,T,rfl,rfl,D,q⟩:=h;obtain⟨t,rfl⟩:=rx;cases e;obtain⟨f,d,c⟩:=D.map (P:=X.prog) I.kIn;refine wpAny_in_of (KN X.prog X.w z t) D.lo d ?_;rw[RelO.same_some<|c z];exact⟨.bl (T.lookup z).isSome,H,I.tok _,rfl,q⟩
theorem jY:OpR X (I0 .NotIn) (λx y H Q=>∃z a T,x=.str z/\y=.ref a/\DTab X.K X.w a T/\Q (.bl<|!(T.lookup z).isSome) H):=by intro b s g H x y v u Q I rx e h;obtain⟨z,a,T,rfl,rfl,D,q⟩:=h;obtain⟨t,rfl⟩:=rx;cases e;obtain⟨f,d,c⟩:=D.map (P:=X.prog) I.kIn;refine wpAny_notIn_of (KN X.prog X.w z t) D.lo d ?_;rw[RelO.same_some<|c z];exact⟨.bl<|!(T.lookup z).isSome,H,I.tok _,rfl,q⟩
theorem zp:IxR X (λx y H Q=>∃a z T v,x=.ref a/\y=.str z/\DTab X.K X.w a T/\T.lookup z=Y v/\Q v H):=by intro c b g s o H x y v u Q I rx m h k;obtain⟨a,z,T,r,rfl,rfl,D,l,q⟩:=h;cases rx;obtain⟨t,rfl⟩:=m;obtain⟨f,d,i⟩:=D.map (P:=X.prog) I.kIn;have e:=i z;rw[l] at e;obtain⟨n,e1,e2⟩:=RelO.some_is e;exact tail_any d.typeIs Mu.lookup (wpAny_getItem_of (KN X.prog X.w z t) d e1 ⟨r,H,I.tok _,e2,q⟩) k
end
theorem ke {H:Hp}{p:NM}(h:H p=J)(o:HO):Same H (upd H p o):=λb u q=>by rw[af<|aK q h];exact q
def yN (K:HX):R2:=λx y H Q=>∃a b d f,x=.ref a/\y=.ref b/\SqT K H a d/\SqT K H b f/\d≠[]/\d.length+f.length<=sizeLine/\∀v e,Same H e->(∃c,v=.ref c/\SqT K e c (d++f))->Q v e
theorem l7 {X:Cx}:OpR X (IU .Add) (yN X.K):=λc s l H x y v u Q I rx g h=>by obtain⟨a,b,i,k,e1,e2,d,e,hx,f,q⟩:=h;exact xm c s l H x y v u Q I rx g ⟨a,b,i,k,e1,e2,d,e,hx,f,λz=>q _ _ (Same.refl _) ⟨a,rfl,by rw[z,IT];exact d⟩,λ_ p hp=>q _ _ (ke hp _) ⟨p,rfl,SqT.of ag⟩⟩
theorem pZ {X:Cx}{x:Str}{T:NU}{a:Pos}(b:Gl X x)(c:X.mg x=J)(e:Jz x=Y (.type T))(d:x≠"__name__":=by decide)(hd:(x==("__debug__":Str))=false:=by decide):PE X (.Name x a) (tC<|.ty T):=wX (v:=.ty T) b c e rfl d hd
theorem gq {X:Cx}{x:Str}{a:NM}{b:Pos}(c:Gl X x)(d:X.mg x=Y (.ref a))(hd:(x==("__debug__":Str))=false:=by decide):PE X (.Name x b) (tC<|.ref a):=lU (v:=.ref a) c d rfl hd
mutual
def toD:Th->PyData
|.non=>.none
|.bl b=>.bool b
|.int i=>.int i
|.str x=>.str x
|.tup ts=>.tuple<|eU ts
|.lst ts=>.list<|eU ts
def eU:U Th->U PyData
|[]=>[]
|t::ts=>toD t::eU ts
end
section
variable {X:Cx}{pins:U (NM×Obj)}{σ:L2.St}{H:Hp}{s:HW}
mutual
theorem Has.reads (I:Inv X pins σ H s):∀{t:Th} {v:V} {u:L},Has X.K H t v->RelV v u->∃as,Reads s.heap u (toD t) as
|.non,_,u,h,r=>by obtain rfl:_=V.non:=h;obtain rfl:u=Value.none:=r;exact⟨_,.none⟩
|.bl b,_,u,h,r=>by obtain rfl:_=V.bl b:=h;obtain rfl:u=Value.bool b:=r;exact⟨_,.bool b⟩
|.int i,_,u,h,r=>by obtain rfl:_=V.int i:=h;obtain⟨t,rfl⟩:∃t,u=Value.int i t:=r;exact⟨_,.int i t⟩
|.str x,_,u,h,r=>by obtain rfl:_=V.str x:=h;obtain⟨t,rfl⟩:∃t,u=Value.str x t:=r;exact⟨_,.str x t⟩
|.tup ts,_,u,⟨a,vs,e,hS,hL⟩,r=>by subst e;obtain rfl:u=Value.ref a:=r;obtain⟨its,rv,⟨o,h1,h2,n,h3⟩,_⟩:=I.tuple hS;obtain⟨as,ra⟩:=HasL.reads I hL rv;exact⟨_,.tuple h1 h2 h3<|by simpa using ra⟩
|.lst ts,_,u,⟨a,vs,e,hS,hL⟩,r=>by subst e;obtain rfl:u=Value.ref a:=r;obtain⟨its,rv,⟨o,n,h1,h2,_,h3⟩,_⟩:=I.list<|SqL.of hS;obtain⟨as,ra⟩:=HasL.reads I hL rv;exact⟨_,.list h1 h2 h3<|by simpa using ra⟩
theorem HasL.reads (I:Inv X pins σ H s):∀{ts:U Th} {vs:U V} {us:U L},HasL X.K H ts vs->Vals vs us->∃as,ReadsAll s.heap us (eU ts) as
|[],vs,us,h,r=>by obtain rfl:vs=[]:=h;cases r;exact⟨_,.nil⟩
| t::ts,vs,us,⟨v,w',e,h1,h2⟩,r=>by
 subst e;cases r with
 |cons r1 r2=>obtain⟨as,ra⟩:=Has.reads I h1 r1;obtain⟨bs,rb⟩:=HasL.reads I h2 r2;exact⟨_,.cons ra rb⟩
end
end
abbrev iD (t:Th):Prop:=SeqAt.shaped (toD t)=HV
theorem l6 {X:Cx}(e:X.A.units+64<Ob):OpR X (I0 .Eq) (λx y H Q=>∃t a,Has X.K H t x/\Has X.K H a y/\iD t/\iD a/\Q (.bl<|PyData.eqv (toD t)<|toD a) H):=by intro b s m H x y v u Q I rx l h;obtain⟨t,a,c,d,f,g,q⟩:=h;obtain⟨as,i⟩:=Has.reads I c rx;obtain⟨bs,k⟩:=Has.reads I d l;exact NJ i k f g e ⟨.bl _,H,I,rfl,q⟩
theorem xJ {X:Cx}(e:X.A.units+64<Ob):OpR X (I0 .NotEq) (λx y H Q=>∃t a,Has X.K H t x/\Has X.K H a y/\iD t/\iD a/\Q (.bl<|!PyData.eqv (toD t) (toD a)) H):=by intro b s m H x y v u Q I rx l h;obtain⟨t,a,c,d,f,g,q⟩:=h;obtain⟨as,i⟩:=Has.reads I c rx;obtain⟨bs,k⟩:=Has.reads I d l;exact NI i k f g e ⟨.bl _,H,I,rfl,q⟩
section
variable {prog:NQ}{w:H8}{A:Il}{E:L->HW->Prop}{s:HW}
theorem dP {t i:NM}{a:N5 L}{m n:L}{lo d:B j}{Q:L->HW->Prop}(b:Ot s.heap t a)(k:s.heap.IsSliceOf i m n .none)(p:JB m lo)(r:JB n d)
  (l:HT.sIx a.size 0 lo=0/\HT.sIx a.size a.size d=a.size) (h:Q (.ref t) s):NO (HZ prog w) A (Jv (.ref t)<|.ref i) Q E s:=by
 obtain⟨os,g,f,o⟩:=id k;have e:s.TypeIs (.ref i) "slice":=⟨os,g,f⟩;unfold Jv
 try with_reducible refine Kf ?_
 first|refine HY (Ia ?_)|skip
 refine HY<|wpAny_sequenceKey b.typeIs (by decide) ?_
 refine HY (Kt (name:=Str.ofString "__getitem__") b.typeIs KL
  (Kv KL b.typeIs entry_tuple_getitem ?_<|args_tuple_getitem _ _))
 show NO _ _ (Builtin.Tuple.tupleItemsOf (.ref t) >>= _) _ _ s;refine HY<|tupleItemsOf_ b ?_;refine HY<|KU e ?_;rw[NR<|by decide];refine HY<|HT.sliceApplied_gen k p r ?_;have c:(((HT.sIx a.size 0 lo:O):j)==0&&(1:j)==1&&(HT.sIx a.size a.size d-HT.sIx a.size 0 lo)==a.size)=true:=by rw[l.1,l.2];simp
 show NO _ _ (if(((HT.sIx a.size 0 lo:O):j)==0&&(1:j)==1&&(HT.sIx a.size a.size d-HT.sIx a.size 0 lo)==a.size)=HV then _ else _) _ _ s;rw[NR c];unfold Builtin.Tuple.tupleIsExact;refine HY<|HY<|KU b.typeIs<|Ia ?_;rw[NR<|by decide]
 first
  |exact HY<|Ks<|Ia ⟨_,rfl,Ia h⟩
  |exact HY<|Ks<|HY<|Ia<|Ia ⟨_,rfl,Ia h⟩
end
section
variable {X:Cx}
def vi (K:HX):V->B j->B j->Hp->VK->Prop:=λx lo e H Q=>∃a d,x=.ref a/\SqT K H a d/\∀v b,Same H b->(∃c,v=.ref c/\SqT K b c (dM d lo e))->Q v b
theorem l5:SlR X (vi X.K):=by
 intro d s w H x v t u lo g o Q I rx k m n h;obtain⟨a,b,rfl,hx,q⟩:=h;by_cases f:HT.sIx b.length 0 lo=0/\HT.sIx b.length b.length g=b.length
 .cases rx;obtain⟨i,r,l,y⟩:=I.tuple hx;have c:i.toArray.size=b.length:=by rw[Iv];exact r.length.symm
  refine⟨"tuple",_,KL.lookup,l.typeIs,?_⟩;refine dP l k m n (by rw[c];exact f) ⟨.ref a,H,I,rfl,q _ _ (Same.refl H) ⟨a,rfl,?_⟩⟩;have e:dM b lo g=b:=by unfold dM;rw[f.1,f.2];simp
  rw[e];exact hx
 .exact zF d s w H _ v t u lo g o Q I rx k m n ⟨a,b,rfl,hx,f,λp hp=>q _ _ (ke hp _) ⟨p,rfl,SqT.of ag⟩⟩
end
def GI (K:HX):R2:=λx y H Q=>∃p a i v,x=.ref p/\y=.int i/\(SqL K H p a\/SqT K H p a)/\atI a i=Y v/\Q v H
theorem ix_any {X:Cx}:IxR X (GI X.K):=λb a c s l H x y v u Q I rx g h f=>by
 obtain⟨p,k,i,z,e1,e2,d,e,q⟩:=h;rcases d with d|d
 .exact uI b a c s l H x y v u Q I rx g ⟨p,k,i,z,e1,e2,d,e,q⟩ f
 .exact zB b a c s l H x y v u Q I rx g ⟨p,k,i,z,e1,e2,d,e,q⟩ f
end L3

namespace L3
open PySem PySem.Spec PySem.Builtin PySem.Builtin.Str PyProof.Rows L2
theorem iq:∀{b:U Jk} {a:U L},Vals (b.map V.str) a->∃l:U<|Jk×Tok,a=OJ l/\l.map (·.1)=b
|[],_,h=>by cases h;exact⟨[],rfl,rfl⟩
| t::b,_,h=>by
 cases h with
 |cons c d=>obtain⟨k,rfl⟩:=c;obtain⟨l,rfl,e⟩:=iq d;exact⟨(t,k)::l,rfl,by rw[Io,e]⟩
theorem dH:∀(l:U<|Jk×Tok),Vals ((l.map (·.1)).map V.str)<|OJ l
|[]=>.nil
|p::l=>.cons ⟨p.2,rfl⟩<|dH l
section
variable {X:Cx}
def yo (K:HX):V->U V->Hp->VK->Prop:=λx b H Q=>∃z p a,x=.str z/\b=[.ref p]/\SqL K H p (a.map V.str)/\JoinOk z a=HV/\Q (.str<|IL z a) H
theorem wU:MtR X "str.join" (yo X.K):=by intro c s y H x w v o Q I rx m h;obtain⟨z,p,a,rfl,rfl,d,b,q⟩:=h;obtain⟨t,rfl⟩:=rx;obtain⟨u,rfl,i⟩:=m.one;cases i;obtain⟨f,r,g,_⟩:=I.list d;obtain⟨l,rfl,e⟩:=iq r;exact SC.join g.isList e b λn k=>⟨.str<|IL z a,H,I.tok _,⟨n,by rw[show Txt.join z a=IL z a from StrLaws.glued_eq_join z a]⟩,q⟩
def tM:V->U V->Hp->VK->Prop:=λx a H Q=>∃z y,x=.str z/\a=[.str y]/\(y.length==0)=HU/\z.length+2<=sizeLine/\∀p,H p=J->Q (.ref p) (upd H p<|.lst<|(Txt.split z y).map V.str)
theorem t6:MtR X "str.split" tM:=by
 intro b s i H x p v n Q I rx g h;obtain⟨x,y,rfl,rfl,c,d,q⟩:=h;obtain⟨t,rfl⟩:=rx;obtain⟨m,rfl,f⟩:=g.one;obtain⟨u,rfl⟩:=f;have a:(Txt.split x y).length<=sizeLine:=by have:=StrLaws.occ_length_le x y 0 x.length<|x.length+1;simp only[Txt.split,apply_ite KW,length_partsBetween,Kp];split<;>(try split)<;>lia
 have out:∀(l:U (Jk×Tok)) (k:O),Txt.split x y=l.map (·.1)->EP X b i Q (.ref s.heap.objs.size) {s with heap:=s.heap.push {cls:=.type "list",data:=.seq (OJ l).toArray},toks:=k}:=λl k e=>
  ⟨.ref _,_,I.lnew (t':=k) (its:=OJ l) (ys:=(Txt.split x y).map V.str) (by rw[e];exact dH l)<|by rw[Ie];exact a,rfl,q _ I.fresh⟩
 unfold Txt.split at a out;split at out
 next no=>exact J4 F.slot_str_split (KO _ _ _) F.entry_str_split (F.args_str_split_2 _ _) (meets_str_split_cannot_occur x y t u no)<|out [(x,t)] s.toks rfl
 next may=>
  rw[NW may] at a;rw[MN] at may;split at out
  next no=>exact J4 F.slot_str_split (KO _ _ _) F.entry_str_split (F.args_str_split_2 _ _) (meets_str_split_not_found x y t u may c no)<|out [(x,t)] s.toks rfl
  next yes=>rw[NW yes] at a;rw[MN] at yes;have o:=λk=>out (numbered s.toks _) k (numbered_texts s.toks _).symm;rw[<- strsFrom_eq] at o;exact J4 F.slot_str_split (KO _ _ _) F.entry_str_split (F.args_str_split_2 _ _) (meets_str_split_sep x y t u may c yes (by lia) a)<|o _
end
theorem kf {f:Type}{c:f}:∀{x y r z:U f},c ∉ x->c ∉ y->x++c::r=y++c::z->x=y/\r=z
|[],[],_,_,_,_,e=>⟨rfl,(K0 e).2⟩
|[],b::y,_,_,_,d,e=>NP (by rw[(K0 e).1];exact Ih) d
|a::x,[],_,_,hx,_,e=>NP (by rw[<- (K0 e).1];exact Ih) hx
|a::x,b::y,r,z,hx,d,e=>by obtain⟨g,h⟩:=kf (λm=>hx<|Iz _ m) (λm=>d<|Iz _ m) (K0 e).2;exact⟨by rw[g,(K0 e).1],h⟩
theorem aV (x y:Jk):(x++y).cps.toList=x.cps.toList++y.cps.toList:=Nu
theorem jP (c:O):∀(g i:U Jk),g≠[]->i≠[]->(∀p∈g,c ∉ p.cps.toList)->(∀p∈i,c ∉ p.cps.toList)->IL ⟨#[c]⟩ g=IL ⟨#[c]⟩ i->g=i
|[],_,h,_,_,_,_=>NP rfl h
|_::_,[],_,h,_,_,_=>NP rfl h
|[x],[y],_,_,_,_,e=>by rw[show x=y from e]
|[x],y::b::r,_,_,hx,_,e=>by have d:x=y++⟨#[c]⟩++IL ⟨#[c]⟩ (b::r):=e;refine NP ?_<|hx x Ih;rw[d,aV,aV];exact J9 _<|IC _ Ih
|x::a::r,[y],_,_,_,f,e=>by have d:x++⟨#[c]⟩++IL ⟨#[c]⟩ (a::r)=y:=e;refine NP ?_<|f y Ih;rw[<- d,aV,aV];exact J9 _<|IC _ Ih
| x::a::r,y::b::z,_,_,hx,f,e=>by
 have d:x++⟨#[c]⟩++IL ⟨#[c]⟩ (a::r)=y++⟨#[c]⟩++IL ⟨#[c]⟩ (b::z):=e;have e2:=N1 (λs=>s.cps.toList) d;simp only[aV] at e2;have e3:x.cps.toList++c::(IL ⟨#[c]⟩ (a::r)).cps.toList=y.cps.toList++c::(IL ⟨#[c]⟩ (b::z)).cps.toList:=by simpa using e2
 obtain⟨m,k⟩:=kf (hx x Ih) (f y Ih) e3;have l:x=y:=by cases x;cases y;exact N1 Mg<|LA.mp m
 have n:IL ⟨#[c]⟩ (a::r)=IL ⟨#[c]⟩ (b::z):=by revert k;generalize IL ⟨#[c]⟩ (a::r)=u;generalize IL ⟨#[c]⟩ (b::z)=v;intro k;cases u;cases v;exact N1 Mg<|LA.mp k
 rw[l,jP c (a::r) (b::z) (JV _ _) (JV _ _) (λp hp=>hx p<|Iz _ hp) (λp hp=>f p<|Iz _ hp) n]
theorem tH (x y:Jk):Txt.split x y≠[]:=by
 unfold Txt.split;split
 .exact JV _ _
 .split
  .exact JV _ _
  .intro h;have e:=N1 KW h;rw[length_partsBetween] at e;exact NP e<|Nat.succ_ne_zero _
end L3

namespace L3
open PySem PySem.Spec PyProof.Rows L2
def SqO (h:NX):NN->NM->N5 L->Prop
|true,a,b=>h.IsTuple a b
|false,a,b=>h.IsList a b
def ItO (h:NX):NN->NM->NM->O->Prop
|true,b,a,n=>h.IsTupleIter b a n
|false,b,a,n=>h.IsListIter b a n
theorem SqO.at {h b:NX}{k:NN}{a:NM}{c:N5 L}(x:SqO h k a c)(e:∀o,h.get? a=Y o->b.get? a=Y o):SqO b k a c:=by cases k<;>(obtain⟨o,ho,r⟩:=x;exact⟨o,e o ho,r⟩)
theorem ItO.at {h c:NX}{k:NN}{b a:NM}{n:O}(x:ItO h k b a n)(e:∀o,h.get? b=Y o->c.get? b=Y o):ItO c k b a n:=by cases k<;>(obtain⟨o,ho,r⟩:=x;exact⟨o,e o ho,r⟩)
theorem ItO.obj {h:NX}{k:NN}{b a:NM}{n:O}(x:ItO h k b a n):∃o,h.get? b=Y o/\∀v,o.data≠.cell v:=by cases k<;>(obtain⟨o,ho,_,d⟩:=x;exact⟨o,ho,λv z=>by rw[d] at z;cases z⟩)
theorem SqO.lt {h:NX}{k:NN}{a:NM}{b:N5 L}(x:SqO h k a b):a<h.objs.size:=by cases k<;>(obtain⟨o,ho,_⟩:=x;exact Heap.lt_size ho)
section
variable {prog:NQ}{w:H8}{A:Il}{E:L->HW->Prop}{s:HW}
theorem f9 {b t:NM}{i:O}{f:N5 L}{x:L}{Q:L->HW->Prop}(a:s.heap.IsTupleIter b t i)(k:s.heap.IsTuple t f)(hx:f[i]?=Y x)
  (q:∀e,e.IsTupleIter b t (i+1)->Heap.SameBut b s.heap e->Q x {s with heap:=e}):NO (HZ prog w) A (Builtin.SmallTypes.nextOf<|.ref b) Q E s:=by
 obtain⟨u,d,g,c⟩:=id a;obtain⟨v,l,_,m,h⟩:=k;unfold Builtin.SmallTypes.nextOf;refine HY<|Kt (name:=Str.ofString "__next__") a.typeIs F.slot_tuple_iterator_next<|Kv F.slot_tuple_iterator_next a.typeIs F.entry_tuple_iterator_next ?_<|F.args_tuple_iterator_next_1 _;show NO _ _ (OP (.ref b) 0 >>= _) _ _ _;refine HY<|Ja d c (x:=.ref t) rfl ?_;show NO _ _ (if(Value.ref t==Value.none)=HV then _ else _) _ _ _;rw[NW<|by intro z;cases z];show NO _ _ (OP (.ref b) 1 >>= _) _ _ _;refine HY<|Ja d c (x:=.int i 0) rfl ?_;show NO _ _ (seqItems? (.ref t) >>= _) _ _ _;refine HY<|JJ l h ?_;simp only[hx,Ny];exact HY<|wpAny_setField d c (by simp)<|Ia ⟨x,rfl,Ia<|q _ ⟨_,Heap.get?_update_self _ d<|Obj.isFreed_of_fields<|Obj.data_mapFields c _,(Obj.cls_mapFields ..).trans g,by rw[Obj.data_mapFields c];simp[JC]⟩<|Heap.SameBut.update ..⟩
theorem eL {c t:NM}{i:O}{k:N5 L}{Q:L->HW->Prop}(h:A.handled=J)(b:s.heap.IsTupleIter c t i)(n:s.heap.IsTuple t k)(hx:k[i]?=J)
  (q:∀f e,Heap.ExtBut c s.heap f->(∃o,f.get? e=Y o/\o.cls=.type "StopIteration")->E (.ref e) {s with heap:=f}):NO (HZ prog w) A (Builtin.SmallTypes.nextOf<|.ref c) Q E s:=by
 obtain⟨u,g,r,d⟩:=id b;obtain⟨v,p,_,y,l⟩:=n;unfold Builtin.SmallTypes.nextOf;refine HY<|Kt (name:=Str.ofString "__next__") b.typeIs F.slot_tuple_iterator_next<|Kv F.slot_tuple_iterator_next b.typeIs F.entry_tuple_iterator_next ?_<|F.args_tuple_iterator_next_1 _;show NO _ _ (OP (.ref c) 0 >>= _) _ _ _;refine HY<|Ja g d (x:=.ref t) rfl ?_;show NO _ _ (if(Value.ref t==Value.none)=HV then _ else _) _ _ _;rw[NW<|by intro z;cases z];show NO _ _ (OP (.ref c) 1 >>= _) _ _ _;refine HY<|Ja g d (x:=.int i 0) rfl ?_;show NO _ _ (seqItems? (.ref t) >>= _) _ _ _;refine HY<|JJ p l ?_;simp only[hx,Ny];refine HY<|Ks<|HY<|wpAny_setField g d (by simp) ?_;show NO _ _ (newExc (.type "StopIteration") [] >>= _) _ _ _;refine HY ?_;simp only[newTuple,newExc];refine HY (Kg ?_<|by size_fits);refine HY (m:=firstArgMember _ _) (wpAny_of_eq (a:=Value.none) (by first|rfl|(simp only[firstArgMember];rfl))<|Kg ?_<|by size_fits);simp only[raiseNew];refine HY<|wpAny_handled ?_;first|rw[h]|rw[show A.in1.handled=J from h]
 exact HY<|Ia<|wpAny_throw<|q _ _ (((Heap.SameBut.update ..).extBut.push _).push _) ⟨_,Heap.get?_push_size _ rfl,rfl⟩
theorem dm {k:NN}{b t:NM}{i:O}{d:N5 L}{x:L}{Q:L->HW->Prop}(a:ItO s.heap k b t i)(e:SqO s.heap k t d)(hx:d[i]?=Y x)
  (q:∀c,ItO c k b t (i+1)->Heap.SameBut b s.heap c->Q x {s with heap:=c}):NO (HZ prog w) A (Builtin.SmallTypes.nextOf<|.ref b) Q E s:=by
 cases k with
 |false=>exact wpAny_nextOf_list_item (show s.heap.IsListIter b t i from a) (show s.heap.IsList t d from e) hx q
 |true=>exact f9 a e hx q
theorem ie {k:NN}{b t:NM}{i:O}{d:N5 L}{Q:L->HW->Prop}(f:A.handled=J)(a:ItO s.heap k b t i)(g:SqO s.heap k t d)(hx:d[i]?=J)
  (q:∀c e,Heap.ExtBut b s.heap c->(∃o,c.get? e=Y o/\o.cls=.type "StopIteration")->E (.ref e) {s with heap:=c}):NO (HZ prog w) A (Builtin.SmallTypes.nextOf<|.ref b) Q E s:=by
 cases k with
 |false=>exact wpAny_nextOf_list_end f (show s.heap.IsListIter b t i from a) (show s.heap.IsList t d from g) hx q
 |true=>exact eL f a g hx q
theorem nB {z TI TO g h r t:NM}{M N:NN}{n m:O}{xs ys:N5 L}{x y a b:L}{Q:L->HW->Prop}(D:OF z TI TO g h r t)
  (F:IQ s.heap z TI TO .none) (hI:N6 s.heap TI (.ref g)<|.ref h) (hO:N6 s.heap TO a b) (h1:ItO s.heap M g r n) (h2:ItO s.heap N h t m) (q1:SqO s.heap M r xs) (q2:SqO s.heap N t ys) (hx:xs[n]?=Y x) (hy:ys[m]?=Y y)
  (q:∀ f,IQ f z TI TO (JC s.heap.objs.size)->N6 f TO x y->ItO f M g r (n+1)->ItO f N h t (m+1)->N6 f s.heap.objs.size x y->f.objs.size=s.heap.objs.size+1 ->
   (∀c o,c≠z->c≠TO->c≠g->c≠h->s.heap.get? c=Y o->f.get? c=Y o)->Q (.ref s.heap.objs.size) {s with heap:=f}):
  NO (HZ prog w) A (JO.«zip.__next__» ⟨[.ref z],[]⟩) (λfin s'=>∃v,fin=.done (.ret v)/\Q v s') E s:=by
 show NO _ _ (OP (.ref z) 2 >>= _) _ _ _;refine HY<|Ja F rfl (x:=.bool HU) rfl ?_;show NO _ _ (OP (.ref z) 3 >>= _) _ _ _;refine HY<|Ja F rfl (x:=.ref TI) rfl (HY<|JJ hI rfl ?_);show NO _ _ (Builtin.SmallTypes.ownedTupleIsFree (.ref z) >>= _) _ _ _;refine HY ?_;unfold Builtin.SmallTypes.ownedTupleIsFree;refine HY<|Ja F rfl (x:=.none) rfl (Ia ?_);simp only[Ou];refine HY<|Ks<|HY<|Ja F rfl (x:=.ref TO) rfl (HY<|Kw F (by simp) λg1 z1 k=>?_)
 replace z1:IQ g1 z TI TO .ellipsis:=z1
 refine HY ?_;simp only[MF,MA,MM,ME];refine HY<|HY<|Lc ?_;show NO _ _ (Builtin.SmallTypes.nextOf (.ref g) >>= _) _ _ _;refine HY<|dm (h1.at λo e=>k.extBut _ _ D.i1z e) (q1.at λo e=>k.extBut _ _ D.l1z e) hx λg2 r2 l=>Ia ?_;have p2:N6 g2 TO a b:=l.extBut _ _ D.TOi1<|k.extBut _ _ D.TOz hO;refine HY<|JJ p2 rfl (HY<|LM p2 λg3 p3 p=>HY<|wpAny_letGo<|Ia ?_)
 replace p3:N6 g3 TO x b:=p3
 refine HY<|HY<|Lc ?_;show NO _ _ (Builtin.SmallTypes.nextOf (.ref h) >>= _) _ _ _;refine HY<|dm (h2.at λo e=>p.extBut _ _ D.TOi2.symm<|l.extBut _ _ D.i12.symm<|k.extBut _ _ D.i2z e) (q2.at λo e=>p.extBut _ _ D.l2TO<|l.extBut _ _ D.l2i1<|k.extBut _ _ D.l2z e) hy λg4 r4 G=>Ia ?_;have p4:N6 g4 TO x b:=G.extBut _ _ D.TOi2 p3;refine HY<|JJ p4 rfl (HY<|LM p4 λd Z H=>HY<|wpAny_letGo<|Ia<|Ia ?_)
 replace Z:N6 d TO x y:=Z
 refine HY<|JJ Z rfl (HY<|wpAny_newTuple ?_);have sz:d.objs.size=s.heap.objs.size:=by rw[H.1,G.1,p.1,l.1,k.1]
 have z5:IQ d z TI TO .ellipsis:=H.extBut _ _ D.TOz.symm<|G.extBut _ _ D.i2z.symm<|p.extBut _ _ D.TOz.symm<|l.extBut _ _ D.i1z.symm z1;have k5:∀c o,c≠z->c≠TO->c≠g->c≠h->s.heap.get? c=Y o->d.get? c=Y o:=λc o i P n3 n4 e=>H.extBut _ _ P<|G.extBut _ _ n4<|p.extBut _ _ P<|l.extBut _ _ n3<|k.extBut _ _ i e;have r5:ItO d M g r (n+1):=r2.at λo e=>H.extBut _ _ D.TOi1.symm<|G.extBut _ _ D.i12<|p.extBut _ _ D.TOi1.symm e;have t5:ItO d N h t (m+1):=r4.at λo e=>H.extBut _ _ D.TOi2.symm e;have I:z<d.objs.size:=Heap.lt_size z5;show NO _ _ (Builtin.SmallTypes.ownedTupleHandOut (.ref z) (.ref d.objs.size) >>= _) _ _ _;refine HY ?_;unfold Builtin.SmallTypes.ownedTupleHandOut;have z6:IQ (d.push {cls:=.type "tuple",data:=.seq #[x,y]}) z TI TO .ellipsis:=Heap.get?_push_of_some _ z5;refine HY<|Kw z6 (by simp) λg7 z7 s7=>?_
 replace z7:IQ g7 z TI TO (JC d.objs.size):=z7
 refine Kw z7 (by simp) λu z8 s8=>?_
 replace z8:IQ u z TI TO (JC d.objs.size):=z8
 have up:∀c o,c≠z->d.get? c=Y o->u.get? c=Y o:=λc o i e=>s8.extBut _ _ i<|s7.extBut _ _ i<|Heap.get?_push_of_some _ e;have p8:N6 u d.objs.size x y:=s8.extBut _ _ (JG I)<|s7.extBut _ _ (JG I)<|Heap.get?_push_size _ rfl;have e8:u.objs.size=d.objs.size+1:=by rw[s8.1,s7.1,Heap.size_push]
 rw[sz] at z8 p8 e8;refine Ia ⟨_,rfl,?_⟩;show Q (.ref d.objs.size) _;rw[sz];exact q u z8 (up _ _ D.TOz Z) (r5.at λo e=>up _ o D.i1z e) (t5.at λo e=>up _ o D.i2z e) p8 e8 λc o i P n3 n4 e=>up c o i<|k5 c o i P n3 n4 e
theorem qX {z TI TO l p t u:NM}{k1 k2:NN}{n m:O}{N P:N5 L}{a b:L}{Q:Fin->HW->Prop}(hh:A.handled=J)(D:OF z TI TO l p t u)
  (k:IQ s.heap z TI TO .none) (hI:N6 s.heap TI (.ref l)<|.ref p) (hO:N6 s.heap TO a b) (h1:ItO s.heap k1 l t n) (h2:ItO s.heap k2 p u m) (q1:SqO s.heap k1 t N) (q2:SqO s.heap k2 u P) (i:N[n]?=J\/P[m]?=J)
  (q:∀G e,(∀c o,c≠z->c≠TO->c≠l->c≠p->s.heap.get? c=Y o->G.get? c=Y o)->(∃o,G.get? e=Y o/\o.cls=.type "StopIteration")->E (.ref e) {s with heap:=G}):
  NO (HZ prog w) A (JO.«zip.__next__» ⟨[.ref z],[]⟩) Q E s:=by
 show NO _ _ (OP (.ref z) 2 >>= _) _ _ _;refine HY<|Ja k rfl (x:=.bool HU) rfl ?_;show NO _ _ (OP (.ref z) 3 >>= _) _ _ _;refine HY<|Ja k rfl (x:=.ref TI) rfl (HY<|JJ hI rfl ?_);show NO _ _ (Builtin.SmallTypes.ownedTupleIsFree (.ref z) >>= _) _ _ _;refine HY ?_;unfold Builtin.SmallTypes.ownedTupleIsFree;refine HY<|Ja k rfl (x:=.none) rfl (Ia ?_);simp only[Ou];refine HY<|Ks<|HY<|Ja k rfl (x:=.ref TO) rfl (HY<|Kw k (by simp) λg1 z1 d=>?_)
 replace z1:IQ g1 z TI TO .ellipsis:=z1
 refine HY ?_;simp only[MF,MA,MM,ME];refine HY<|HY<|Lc ?_;show NO _ _ (Builtin.SmallTypes.nextOf (.ref l) >>= _) _ _ _;cases hx:N[n]? with
 |none=>
  refine HY<|ie hh (h1.at λo e=>d.extBut _ _ D.i1z e) (q1.at λo e=>d.extBut _ _ D.l1z e) hx λF e f H=>?_;obtain⟨M,ho,h⟩:=H;have z2:IQ F z TI TO .ellipsis:=f _ _ D.i1z.symm z1;have v:e≠z:=λy=>by subst y;rw[z2] at ho;cases ho;simp at h
  exact Kw z2 (by simp) λZ _ g=>q Z e (λc o r _ I _ y=>g.extBut _ _ r<|f _ _ I<|d.extBut _ _ r y) ⟨M,g.extBut _ _ v ho,h⟩
 |some x=>
  have hy:P[m]?=none:=i.elim (λy=>by rw[hx] at y;cases y) id;refine HY<|dm (h1.at λo e=>d.extBut _ _ D.i1z e) (q1.at λo e=>d.extBut _ _ D.l1z e) hx λF r2 f=>Ia ?_;have p2:N6 F TO a b:=f.extBut _ _ D.TOi1<|d.extBut _ _ D.TOz hO;refine HY<|JJ p2 rfl (HY<|LM p2 λZ p3 g=>HY<|wpAny_letGo<|Ia ?_);refine HY<|HY<|Lc ?_;show NO _ _ (Builtin.SmallTypes.nextOf (.ref p) >>= _) _ _ _;refine HY<|ie hh (h2.at λo e=>g.extBut _ _ D.TOi2.symm<|f.extBut _ _ D.i12.symm<|d.extBut _ _ D.i2z e) (q2.at λo e=>g.extBut _ _ D.l2TO<|f.extBut _ _ D.l2i1<|d.extBut _ _ D.l2z e) hy λg4 e s4 H=>?_;obtain⟨M,ho,h⟩:=H;have z4:IQ g4 z TI TO .ellipsis:=s4 _ _ D.i2z.symm<|g.extBut _ _ D.TOz.symm<|f.extBut _ _ D.i1z.symm z1;have v:e≠z:=λy=>by subst y;rw[z4] at ho;cases ho;simp at h
  exact Kw z4 (by simp) λg5 _ s5=>q g5 e (λc o r n2 I n4 y=>s5.extBut _ _ r<|s4 _ _ n4<|g.extBut _ _ n2<|f.extBut _ _ I<|d.extBut _ _ r y) ⟨M,s5.extBut _ _ v ho,h⟩
theorem lq {z TI TO e f g h:NM}{i k:NN}{n m:O}{p r:N5 L}{x y a b:L}{Q:B L->HW->Prop}(D:OF z TI TO e f g h)
  (l:IQ s.heap z TI TO .none) (v:N6 s.heap TI (.ref e)<|.ref f) (G:N6 s.heap TO a b) (t:ItO s.heap i e g n) (u:ItO s.heap k f h m) (I:SqO s.heap i g p) (M:SqO s.heap k h r) (hx:p[n]?=Y x) (H:r[m]?=Y y)
  (q:∀ d,IQ d z TI TO (JC s.heap.objs.size)->N6 d TO x y->ItO d i e g (n+1)->ItO d k f h (m+1)->N6 d s.heap.objs.size x y->d.objs.size=s.heap.objs.size+1 ->
   (∀c o,c≠z->c≠TO->c≠e->c≠f->s.heap.get? c=Y o->d.get? c=Y o)->Q (Y<|.ref s.heap.objs.size) {s with heap:=d}):NO (HZ prog w) A (JI<|.ref z) Q E s:=by
 have hT:s.TypeIs (.ref z) "zip":=⟨_,l,rfl⟩;unfold JI;exact HY<|wpAny_attempt<|Kt (name:=Str.ofString "__next__") hT F.slot_zip_next<|Kv F.slot_zip_next hT F.entry_zip_next (nB D l v G t u I M hx H λd N P Z y4 y5 y6 y7=>Ia<|q d N P Z y4 y5 y6 y7)<|F.args_zip_next_1 _
theorem nA {z TI TO f g h i:NM}{p r:NN}{n m:O}{t u:N5 L}{a b:L}{Q:B L->HW->Prop}(M:A.handled=J)(D:OF z TI TO f g h i)
  (l:IQ s.heap z TI TO .none) (y:N6 s.heap TI (.ref f)<|.ref g) (G:N6 s.heap TO a b) (v:ItO s.heap p f h n) (x:ItO s.heap r g i m) (N:SqO s.heap p h t) (P:SqO s.heap r i u) (d:t[n]?=J\/u[m]?=J)
  (q:∀k,(∀c o,c≠z->c≠TO->c≠f->c≠g->s.heap.get? c=Y o->k.get? c=Y o)->Q J {s with heap:=k}):NO (HZ prog w) A (JI<|.ref z) Q E s:=by
 have hT:s.TypeIs (.ref z) "zip":=⟨_,l,rfl⟩;unfold JI;refine HY<|wpAny_attempt<|Kt (name:=Str.ofString "__next__") hT F.slot_zip_next<|Kv F.slot_zip_next hT F.entry_zip_next (qX M D l y G v x N P d λk e hk I=>?_)<|F.args_zip_next_1 _;obtain⟨o,ho,H⟩:=I;exact HY<|wpAny_isInstance (T:="StopIteration") (b:=HV) ⟨o,ho,H⟩ isSubtype_stop<|Ia<|q _ hk
end
noncomputable def nN (k:NN)(a:NM):Obj:=match k with
|true=>{cls:=.type "tuple_iterator",data:=.fields #[.ref a,.int 0 0]}
|false=>{cls:=.type "list_iterator",data:=.fields #[.ref a,.int 0 0]}
abbrev zO1 (h:NX)(b:NN)(a:NM):NX:=h.push<|nN b a
abbrev zO2 (h:NX)(c d:NN)(a b:NM):NX:=(zO1 h c a).push<|nN d b
abbrev zO3 (h:NX)(b d:NN)(a c:NM):NX:=(zO2 h b d a c).push {cls:=.type "tuple",data:=.seq #[.ref h.objs.size,.ref (zO1 h b a).objs.size]}
abbrev zO4 (h:NX)(c d:NN)(a b:NM):NX:=(zO3 h c d a b).push {cls:=.type "tuple",data:=.seq #[.none,.none]}
abbrev zO5 (h:NX)(c d:NN)(a b:NM):NX:=(zO4 h c d a b).push {cls:=.type "zip",data:=.fields #[.none,.bool HU,.bool HU,.ref (zO2 h c d a b).objs.size,.ref (zO3 h c d a b).objs.size]}
theorem lB (i k:NN)(a b:NM)(e f:N5 L):
  Meets (JO.«zip.__new__» ⟨[.type "zip",.ref a,.ref b],[]⟩) (λ_ R s=>SqO s.heap i a e/\SqO s.heap k b f/\R (.ok<|.ret<|.ref (zO4 s.heap i k a b).objs.size) {s with heap:=zO5 s.heap i k a b}):=
 .of_wp λprog w A R s h=>by
  obtain⟨hp,g,d,c,os⟩:=s;obtain⟨l,m,h⟩:=h;have n:=sub_zip;cases i<;>cases k
  .have e1:Heap.IsList (Shared.heap ⟨hp,g,d,c,os⟩) a e:=l;have e2:Heap.IsList (Shared.heap ⟨hp.push {cls:=.type "list_iterator",data:=.fields #[.ref a,.int 0 0]},g,d,c,os⟩) b f:=Heap.IsList.push m _
   wp_walk using Kh e1,Kh e2
   exact⟨_,rfl,h⟩
  .have e1:Heap.IsList (Shared.heap ⟨hp,g,d,c,os⟩) a e:=l;have e2:Heap.IsTuple (Shared.heap ⟨hp.push {cls:=.type "list_iterator",data:=.fields #[.ref a,.int 0 0]},g,d,c,os⟩) b f:=Heap.IsTuple.push m _
   wp_walk using Kh e1,J1 e2
   exact⟨_,rfl,h⟩
  .have e1:Heap.IsTuple (Shared.heap ⟨hp,g,d,c,os⟩) a e:=l;have e2:Heap.IsList (Shared.heap ⟨hp.push {cls:=.type "tuple_iterator",data:=.fields #[.ref a,.int 0 0]},g,d,c,os⟩) b f:=Heap.IsList.push m _
   wp_walk using J1 e1,Kh e2
   exact⟨_,rfl,h⟩
  .have e1:Heap.IsTuple (Shared.heap ⟨hp,g,d,c,os⟩) a e:=l;have e2:Heap.IsTuple (Shared.heap ⟨hp.push {cls:=.type "tuple_iterator",data:=.fields #[.ref a,.int 0 0]},g,d,c,os⟩) b f:=Heap.IsTuple.push m _
   wp_walk using J1 e1,J1 e2
   exact⟨_,rfl,h⟩
theorem mO {h:NX}{k:NN}{b a:NM}(e:h.get? b=Y (nN k a)):ItO h k b a 0:=by cases k<;>exact⟨_,e,rfl,rfl⟩
theorem iA (k:NN)(a:NM):(nN k a).isFreed=false:=by cases k<;>rfl
section
variable {prog:NQ}{w:H8}{A:Il}{E:L->HW->Prop}{s:HW}
theorem vn {b e:NN}{a d:NM}{n p:N5 L}{Q:L->HW->Prop}(t:SqO s.heap b a n)(u:SqO s.heap e d p)
  (h:∀ f,IQ f (s.heap.objs.size+4) (s.heap.objs.size+2) (s.heap.objs.size+3) .none->N6 f (s.heap.objs.size+2) (.ref s.heap.objs.size) (.ref (s.heap.objs.size+1)) ->
   N6 f (s.heap.objs.size+3) .none .none->ItO f b s.heap.objs.size a 0->ItO f e (s.heap.objs.size+1) d 0->(∀c o,s.heap.get? c=Y o->f.get? c=Y o)->Q (.ref<|s.heap.objs.size+4) {s with heap:=f}):
  NO (HZ prog w) A (call (.type "zip") [.ref a,.ref d]) Q E s:=by
 refine callType_new F.called_zip (by decide) (F.typeCall_zip_2 _ _) (F.newCall_zip_2 _ _) (λobj=>F.args_object_init_3 obj _ _) F.entry_zip_new (lB b e a d n p) ⟨t,u,?_⟩;have e1:(zO1 s.heap b a).objs.size=s.heap.objs.size+1:=Heap.size_push ..;have e2:(zO2 s.heap b e a d).objs.size=s.heap.objs.size+2:=by rw[Heap.size_push,e1]
 have e3:(zO3 s.heap b e a d).objs.size=s.heap.objs.size+3:=by rw[Heap.size_push,e2]
 have i:(zO4 s.heap b e a d).objs.size=s.heap.objs.size+4:=by rw[Heap.size_push,e3]
 have g:(zO5 s.heap b e a d).get? (zO4 s.heap b e a d).objs.size=Y _:=Heap.get?_push_size _ rfl;have m:(zO5 s.heap b e a d).get? (zO3 s.heap b e a d).objs.size=Y _:=Heap.get?_push_of_some _<|Heap.get?_push_size _ rfl;have l:(zO5 s.heap b e a d).get? (zO2 s.heap b e a d).objs.size=Y _:=Heap.get?_push_of_some _<|Heap.get?_push_of_some _<|Heap.get?_push_size _ rfl;have k:(zO5 s.heap b e a d).get? (zO1 s.heap b a).objs.size=Y (nN e d):=Heap.get?_push_of_some _<|Heap.get?_push_of_some _<|Heap.get?_push_of_some _<|Heap.get?_push_size _<|iA e d;have r:(zO5 s.heap b e a d).get? s.heap.objs.size=Y (nN b a):=Heap.get?_push_of_some _<|Heap.get?_push_of_some _<|Heap.get?_push_of_some _<|Heap.get?_push_of_some _<|Heap.get?_push_size _<|iA b a;show _/\_;rw[e2,e3,i] at g;rw[e1,e2] at l;rw[e3] at m;rw[e1] at k;rw[i];exact⟨⟨_,g,rfl⟩,h _ g l m (mO r) (mO k) λc o x=>Heap.get?_push_of_some _<|Heap.get?_push_of_some _<|Heap.get?_push_of_some _<|Heap.get?_push_of_some _<|Heap.get?_push_of_some _ x⟩
end
def Sq (K:HX)(H:Hp):NN->NM->U V->Prop
|true,a,b=>SqT K H a b
|false,a,b=>SqL K H a b
section
variable {X:Cx}{pins:U (NM×Obj)}{σ:L2.St}{H:Hp}{s:HW}
theorem nC (I:Inv X pins σ H s){k:NN}{a:NM}{c:U V}(h:Sq X.K H k a c):∃b:U L,Vals c b/\SqO s.heap k a b.toArray/\c.length<=sizeLine:=by
 cases k with
 |true=>obtain⟨b,r,p,z⟩:=I.tuple h;exact⟨b,r,p,z⟩
 |false=>obtain⟨b,r,p,z⟩:=I.list h;exact⟨b,r,p.isList,z⟩
theorem mj (I:Inv X pins σ H s){k:NN}{a:NM}{c d:U V}(h:Sq X.K H k a c)(b:Sq X.K H k a d):c=d:=by
 cases k with
 |true=>exact I.tuple_inj h b
 |false=>exact I.list_inj h b
theorem fq {d:NX}{ch:U NM}(I:Inv X pins σ H s)(g:∀b∈ch,H b=J)(k:∀b o,b ∉ ch->s.heap.get? b=Y o->d.get? b=Y o):HOk X.prog X.w H d:=λb u e=>by
 have a:∀b u,H b=Y u->b ∉ ch:=λb u e z=>by rw[g b z] at e;cases e
 refine(I.hok b u e).stay (λc v f q=>k c v ?_ q) (λ_ q=>q) λ_ _ q=>q;rcases f with z|z
 .rw[z];exact a b u e
 .exact a c _ z
theorem dj {f:NX}{t':O}{ch:U NM}(I:Inv X pins σ H s)(c:∀b∈ch,gK X pins H b)(k:∀b o,b ∉ ch->s.heap.get? b=Y o->f.get? b=Y o):Inv X pins σ H {s with heap:=f,toks:=t'}:=by
 refine I.step (g':=s.gens) (d':=s.drawn) (ch:=ch) (λb a=>⟨(c b a).2.2.2.1,(c b a).2.1,(c b a).2.2.2.2.1,(c b a).2.2.2.2.2⟩) (λb o _ _ d e _=>k b o d e) (λb o _ _ d e _=>⟨o.slots,k b o d e⟩) (λ_ _ _ _ n=>n)
  (λb o d e=>⟨o,k b o d e⟩) (λ_ _ e=>e) (λ_ _ _ e=>e) (λb ps e=>⟨#[],by rw[e];simp⟩) (λm h=>?_) (fq I (λb a=>(c b a).1) k) I.bare
 obtain⟨o,g,ep,ho,r⟩:=h;exact⟨o,g,ep,k _ o (λz=>(c _ z).2.1 rfl) ho,r⟩
theorem bL {h:NX}{t':O}{ch:U NM}{a:NM}{i:U V}{c:U L}(I:Inv X pins σ H s)(f:∀b∈ch,gK X pins H b)(k:∀b o,b ∉ ch->s.heap.get? b=Y o->h.get? b=Y o)
  (l:s.heap.objs.size<=a) (x:i.length<=sizeLine) (w:Vals i c) (v:Ot h a c.toArray):Inv X pins σ (upd H a<|.tup i) {s with heap:=h,toks:=t'}:=by
 have fr:H a=none:=I.hok.fresh l;have y:∀b o,s.heap.get? b=Y o->b≠a:=λb o e=>Iw<|IF (Heap.lt_size e) l
 refine I.step (g':=s.gens) (d':=s.drawn) (ch:=ch) (λb d=>⟨(f b d).2.2.2.1,(f b d).2.1,(f b d).2.2.2.2.1,(f b d).2.2.2.2.2⟩) (λb o _ _ g e _=>k b o g e) (λb o _ _ g e _=>⟨o.slots,k b o g e⟩) (λb o _ e n=>by rw[af<|y b o e];exact n)
  (λb o g e=>⟨o,k b o g e⟩) (λb u e=>by rw[af<|aK e fr];exact e) (λb o u e=>by rw[af<|aK e fr];exact e) (λb ps e=>⟨#[],by rw[af<|aK e fr,e];simp⟩) (λm t=>?_)
  (ia (fq I (λb d=>(f b d).1) k) fr ⟨x,c,w,v⟩) I.bare
 obtain⟨o,p,ep,ho,r⟩:=t;exact⟨o,p,ep,k _ o (λz=>(f _ z).2.1 rfl) ho,r⟩
end
def Itz (K:HX)(e f:NN)(c d:NM):It:=
 ⟨fun i H=>∃ a b x y,Sq K H e c a/\Sq K H f d b/\a[i]?=Y x/\b[i]?=Y y,
  λi H v g=>∃p x y,v=.ref p/\H p=J/\g=upd H p (.tup [x,y])/\(∀a,Sq K H e c a->a[i]?=Y x)/\∀b,Sq K H f d b->b[i]?=Y y,
  λi H=>∃a b,Sq K H e c a/\Sq K H f d b/\(a.length<=i\/b.length<=i)⟩
def ZSt (z TI TO c d:NM)(g k:NN)(e f:NM)(i:O)(h:NX):Prop:=
 IQ h z TI TO .none/\N6 h TI (.ref c) (.ref d)/\(∃a b,N6 h TO a b)/\ItO h g c e i/\ItO h k d f i
theorem pG {P:NQ}{w:H8}{K:HX}{es:U NV}{kt:O}{pt:Pos}{z TI TO t u a1 a2:NM}{k1 k2:NN}(D:OF z TI TO t u a1 a2):
  lR P w K (.Tuple es kt pt) (Itz K k1 k2 a1 a2) [z,TI,TO,t,u] z (ZSt z TI TO t u k1 k2 a1 a2) where
 mem:=by simp
 obj:=λi h l b d=>by
  obtain⟨m,g,⟨a,c,n⟩,p,r⟩:=l;simp only[Ip,Jd,N8] at d;rcases d with rfl|rfl|rfl|rfl|rfl
  .exact⟨_,m,λv y=>by cases y⟩
  .exact⟨_,g,λv y=>by cases y⟩
  .exact⟨_,n,λv y=>by cases y⟩
  .exact p.obj
  .exact r.obj
 keep:=λi h M l k=>by obtain⟨m,g,⟨a,c,n⟩,p,r⟩:=l;exact⟨k z (by simp) _ m,k TI (by simp) _ g,⟨a,c,k TO (by simp) _ n⟩,p.at λo e=>k t (by simp) o e,r.at λo e=>k u (by simp) o e⟩
 item:=by
  intro X hP hw hK hc i G s σ H E I N l hg;subst hP hw hK;obtain⟨xs,ys,x,y,Q,Z,hx,hy⟩:=hg;obtain⟨m,g,⟨a,c,n⟩,p,r⟩:=l;obtain⟨A,v1,o1,z1⟩:=nC I Q;obtain⟨F,v2,o2,z2⟩:=nC I Z;obtain⟨u1,e1,r1⟩:=v1.get hx;obtain⟨u2,e2,r2⟩:=v2.get hy
  have lt:∀b∈[z,TI,TO,t,u],b<s.heap.objs.size:=λb d=>by
   simp only[Ip,Jd,N8] at d;rcases d with rfl|rfl|rfl|rfl|rfl
   .exact Heap.lt_size m
   .exact Heap.lt_size g
   .exact Heap.lt_size n
   .obtain⟨o,e,_⟩:=p.obj;exact Heap.lt_size e
   .obtain⟨o,e,_⟩:=r.obj;exact Heap.lt_size e
  refine lq D m g n p r o1 o2 (x:=u1) (y:=u2) (by simpa using e1) (by simpa using e2) λM y1 y2 y3 y4 y5 y6 y7=>⟨_,rfl,?_⟩;refine wpAny_letOwnedTupleGo_zip (s:={s with heap:=M}) y1 λh2 w1 sb=>?_;have f:Heap.SameBut z M h2:=sb;have nz:s.heap.objs.size≠z:=JG (lt z<|by simp);have kk:∀b o,b ∉ [z,TI,TO,t,u]->s.heap.get? b=Y o->h2.get? b=Y o:=λb o d e=>by simp only[Ip,Jd,N8,not_or] at d;exact(f.2 b d.1).trans<|y7 b o d.1 d.2.2.1 d.2.2.2.1 d.2.2.2.2 e
  have tp:Ot h2 s.heap.objs.size [u1,u2].toArray:=⟨_,(f.2 _ nz).trans y5,rfl,_,rfl⟩
  refine⟨.ref s.heap.objs.size,upd H s.heap.objs.size<|.tup [x,y],bL (s:=s) (t':=s.toks) I N kk (Ic _) (by show 2<=sizeLine;decide) (.cons r1<|.cons r2 .nil) tp,rfl,
   ⟨_,x,y,rfl,I.fresh,rfl,λzs hz=>by rw[mj I hz Q];exact hx,λzs hz=>by rw[mj I hz Z];exact hy⟩,?_,λb d=>?_⟩
  .exact⟨w1,(f.2 _ D.TIz).trans<|y7 _ _ D.TIz D.TITO D.TIi1 D.TIi2 g,⟨_,_,(f.2 _ D.TOz).trans y2⟩,y3.at λo e=>(f.2 _ D.i1z).trans e,y4.at λo e=>(f.2 _ D.i2z).trans e⟩
  .rw[af<|Iw<|lt b d];exact(N b d).1
 done:=by intro X hP hw hK hc i G s σ H E I N l hg;subst hP hw hK;obtain⟨xs,ys,Q,Z,hl⟩:=hg;obtain⟨m,g,⟨a,c,n⟩,p,r⟩:=l;obtain⟨A,v1,o1,z1⟩:=nC I Q;obtain⟨F,v2,o2,z2⟩:=nC I Z;have l1:=v1.length;have l2:=v2.length;refine nA (I.ok.hd hc) D m g n p r o1 o2 (hl.imp (λq=>by simp;lia) λq=>by simp;lia) λM hk=>⟨rfl,dj (t':=s.toks) I N λb o d e=>?_⟩;simp only[Ip,Jd,N8,not_or] at d;exact hk b o d.1 d.2.2.1 d.2.2.2.1 d.2.2.2.2 e
 self:=λ_ _ _ _ _ l h=>wpAny_pyIter_zip l.1 h
section
variable {X:Cx}
def Eu (K:HX)(f:TA):TI:=λk H R=>f k H λg a=>∃d e b c,g=[.ref b,.ref c]/\(∃h,Sq K a d b h)/\(∃i,Sq K a e c i)/\R (Itz K d e b c) a
theorem AF {a b:NV}{y:TA}{p i pt:Pos}{A:U NV}{Q:O}(G:Gl X "zip")(M:X.mg "zip"=J)(F:PA X [a,b] y)(N:H9 [a,b] X.env=[(HU,N3 a X.env),(HU,N3 b X.env)]:=by rfl)(f:H9 [b] X.env=[(HU,N3 b X.env)]:=by rfl):
  PI X (.Tuple A Q pt) (.Call (.Name "zip" p) [a,b] [] i) (Eu X.K y):=by
 intro g s σ H R I h;refine Call_ (dq I G M boot_zip<|K5 (thn (F i g s σ H _ I h) λus m ⟨vs,z,c,r1,k⟩=>?_) (by rw[N,f])<|by rw[f];rfl);obtain⟨k1,k2,a1,a2,rfl,⟨xs,n⟩,⟨ys,o⟩,q⟩:=k;cases r1 with
 | cons r l =>
  cases l with
  | cons r' l =>
   cases l;cases r;cases r';obtain⟨u,v1,w,z1⟩:=nC c n;obtain⟨v,v2,x,z2⟩:=nC c o;refine vn w x λD k Z q3 q4 q5 P=>?_;refine wpAny_pyIter_zip (s:={m with heap:=D}) k ?_;refine⟨_,_,_,_,z,rfl,c.kept (t':=m.toks) P,pG<|zipApart_new w.lt x.lt,⟨k,Z,⟨_,_,q3⟩,q4,q5⟩,λb t=>?_,q⟩;have d:m.heap.objs.size<=b:=by simp only[Ip,Jd,N8] at t;rcases t with e|e|e|e|e<;>(rw[e];first|exact LY _ _|exact Ic _)
   exact c.fpOk d<|c.hok.fresh d
end
structure aC (pre ys:U Str)(scope:N9):Prop where
 kind:scope.kind=.function
 cell:∀y∈scope.names,y.2≠.cell
 nm:∀y∈scope.names,y.2=.local->scope.names.lookup y.1=Y .local
 loc:∀x∈pre,scope.names.lookup x=Y .local
 nd:(pre++ys).Nodup
theorem qZ {pre:U Str}{c:L2.St}{a:O}{v:V}(e:(Iu pre.length J++c)[a]?=Y (Y v)):∃i,a=pre.length+i/\c[i]?=Y (Y v):=by
 by_cases b:a<pre.length
 .rw [K7<|by rw [Ka]; exact b,Ms,NR b] at e;cases IJ e
 .refine ⟨a-pre.length,by lia,?_⟩;rw[K8<|by rw[Ka];lia,Ka] at e;exact e
theorem nQ {X:Cx}{t:U<|NM×Obj}{σ:L2.St}{H:Hp}{s:HW}{pre D:U Str}{is:U O}{g:N9}{A:U<|Str×NM}{Z:U NM}{C:NM}{h1:NX}{t1:O}{m1:Str->B L}
  (I:Inv X t σ H s) (N:∀b∈Z,gK X t H b) (hfo:∀b∈Z,b<s.heap.objs.size) (S:aC pre D g) (h:Clo X A)
  (hfr:(g.names.all λp=>p.2 != .free || (A.lookup p.1).isSome)=HV) (fr:Frees X g A D is)
  (M:s.heap.objs.size<=C) (m:∀b o,s.heap.get? b=Y o->h1.get? b=Y o) (hn:h1.Ns C m1):
  Inv (aB X (pre++D) g A C s H Z) t (Iu pre.length J++b0 σ is) H {s with heap:=h1,toks:=t1}:=by
 have G:∀b,b≠X.env.locals->b ∉ X.fs->b ∉ frs X.stack:=λb q1 q2 w=>(Ip.mp<|I.stkSub b w).elim q1 q2
 have F:∀a k,(Kb g X.env).names.lookup a=Y k->(k=.cell\/k=.free)->∃c,A.lookup a=Y c:=λa k e hk=>by
  have hm:=KC e;obtain⟨⟨n,k0⟩,hp,ep⟩:=JF.mp hm
  have hk0:k0=.free/\n=a:=by
   dsimp only at ep;split at ep
   .rename_i hc;simp only[Iq] at hc;exact⟨eq_of_beq hc.1.1,(MU ep).1⟩
   .obtain ⟨e1,e2⟩:=MU ep;subst e2;rcases hk with z|z
    .exact NP z (S.cell _ hp)
    .exact⟨z,e1⟩
  obtain⟨z1,z2⟩:=hk0;subst z1 z2;have q:=JW.mp hfr _ hp;have q2:(A.lookup n).isSome=true:=by simpa using q
  exact Ng.mp q2
 refine⟨⟨I.ok.mod,S.kind,I.ok.glob,I.ok.blt,M,λa b c e1 e2=>I.ok.inj a b c (h.get e1)<|h.get e2,λa ha=>?_,λa c e=>NP e IG,I.ok.hd,I.ok.frames,.inl rfl,
   λb w=>⟨Iw<|IF (hfo b w) M,λa c e=>(N b w).2.2.2.2.1 a c<|h.get e⟩,I.bs,Ij I.ok.bsz I.sz,λb o e w=>?_,λb w=>G b (N b w).2.1 (N b w).2.2.1,I.stack,I.stkFree⟩,
  rfl,I.bare,Un.kept m,⟨m1,hn,λf y v e1 e2 e3=>?_⟩,λa c e=>?_,I.hok.fresh M,λa c e=>I.freeC a c<|h.get e,λp hp=>?_,I.hok.kept m,?_⟩
 .rcases ha with e | e
  .exact F a _ e (.inl rfl)
  .exact F a _ e (.inr rfl)
 .rcases (N b w).2.2.2.1 with z | z
  .exact I.ok.noex b o e z
  .exact NP (IF (Heap.lt_size (I.ok.bs b o e).1) z) (Kl _)
 .obtain ⟨k,rfl,Q⟩:=qZ e2;have P:D[k]?=Y y:=by have x:(pre++D)[pre.length+k]?=Y y:=e1;rw[K8 (by lia),Nat.add_sub_cancel_left] at x;exact x
  obtain⟨i,c,g1,g2,g3,g4,g5,g6,g7⟩:=fr.get (σ:=σ) P Q;obtain⟨m0,hn0,hl0⟩:=I.loc;obtain⟨u,r,l⟩:=hl0 i y v g1 g2 g3;rcases l with⟨k,_⟩|⟨_,c',e',z⟩
  .rcases g4 with q | q
   .rw[k] at q;cases q
   .rw[k] at q;cases q
  .rw [g5] at e';cases e';obtain⟨o,ho,hd⟩:=z;exact⟨u,r,.inr ⟨g7,c,g6,⟨o,m _ _ ho,hd⟩⟩⟩
 .obtain ⟨v,o,ho,hd⟩:=I.cell a c<|h.get e;exact⟨v,o,m _ _ ho,hd⟩
 .obtain ⟨e,n,ne,nf,d⟩:=I.pin p hp;exact⟨m _ _ e,n,Iw<|IF (Heap.lt_size e) M,G _ ne nf,d⟩
 .show (Iu pre.length J++b0 σ is).length=(pre++D).length;unfold b0;rw[IA,IA,Ka,Ie,fr.len]
def Ite (K:HX)(a:NM):It:=
 ⟨fun i H=>∃ b x,SqL K H a b/\b[i]?=Y x,
  λi H v c=>∃p x,v=.ref p/\H p=J/\c=upd H p (.tup [.int (i:j),x])/\∀b,SqL K H a b->b[i]?=Y x,
  λi H=>∃b,SqL K H a b/\b.length<=i⟩
theorem oB {P:NQ}{w:H8}{K:HX}{es:U NV}{kt:O}{pt:Pos}{e n a:NM}(r:e≠n):lR P w K (.Tuple es kt pt) (Ite K a) [e,n] e (λi h=>(∃f,IsEnum h e n (i:j) f)/\h.IsListIter n a i) where
 mem:=by simp
 obj:=λi h l b c=>by
  obtain⟨⟨f,g⟩,m⟩:=l;simp only[Ip,Jd,N8] at c;rcases c with rfl|rfl
  .exact⟨_,g,λv y=>by cases y⟩
  .obtain ⟨o,F,_,d⟩:=m;exact⟨o,F,λv y=>by rw[d] at y;cases y⟩
 keep:=λi h u l k=>by obtain⟨⟨f,g⟩,m⟩:=l;exact⟨⟨f,k e (by simp) _ g⟩,m.at λo z=>k n (by simp) o z⟩
 item:=by
  intro X N Z M hc i t s σ H E I A l Q;subst N Z M;obtain⟨xs,x,D,hx⟩:=Q;obtain⟨⟨f,g⟩,m⟩:=l;obtain⟨its,v1,o1,z1⟩:=I.list D;obtain⟨u1,e1,r1⟩:=v1.get hx
  have lt:∀b∈[e,n],b<s.heap.objs.size:=λb c=>by
   simp only[Ip,Jd,N8] at c;rcases c with rfl|rfl
   .exact Heap.lt_size g
   .obtain⟨o,F,_⟩:=m;exact Heap.lt_size F
  refine wpAny_pyNext_enum_item g m o1.isList (x:=u1) (by simpa using e1) r λu y1 y2 y3 y4 y5=>⟨_,rfl,?_⟩;refine Oe (s:={s with heap:=u,toks:=s.toks+1}) y1 λG w1 sb=>?_;have p:Heap.SameBut e u G:=sb;have nz:s.heap.objs.size≠e:=JG (lt e<|by simp);have kk:∀b o,b ∉ [e,n]->s.heap.get? b=Y o->G.get? b=Y o:=λb o c z=>by simp only[Ip,Jd,N8,not_or] at c;exact(p.2 b c.1).trans<|y5 b o c.1 c.2 z
  have tp:Ot G s.heap.objs.size [.int (i:j) s.toks,u1].toArray:=⟨_,(p.2 _ nz).trans y3,rfl,_,rfl⟩
  refine⟨.ref s.heap.objs.size,upd H s.heap.objs.size<|.tup [.int (i:j),x],bL (s:=s) (t':=s.toks+1) I A kk (Ic _) (by show 2<=sizeLine;decide) (.cons ⟨_,rfl⟩<|.cons r1 .nil) tp,rfl,
   ⟨_,x,rfl,I.fresh,rfl,λzs hz=>by rw[I.list_inj hz D];exact hx⟩,?_,λb c=>?_⟩
  .exact⟨⟨_,w1⟩,y2.at λo z=>(p.2 _<|IM r).trans z⟩
  .rw[af<|Iw<|lt b c];exact(A b c).1
 done:=by intro X N Z M hc i t s σ H E I A l Q;subst N Z M;obtain⟨xs,D,hl⟩:=Q;obtain⟨⟨f,g⟩,m⟩:=l;obtain⟨its,v1,o1,z1⟩:=I.list D;have l1:=v1.length;refine wpAny_pyNext_enum_end (I.ok.hd hc) g m o1.isList (by simp;lia) λu eb=>⟨rfl,dj (t':=s.toks) I A λb o c z=>eb b o (λy=>c<|by simp[y]) z⟩
 self:=λ_ _ _ _ _ l h=>by obtain⟨⟨f,g⟩,_⟩:=l;exact Li g h
section
variable {X:Cx}
def yu (K:HX)(c:TA):TI:=λf H R=>c f H λd b=>∃a,d=[.ref a]/\(∃e,SqL K b a e)/\R (Ite K a) b
theorem uv {a:NV}{n:TA}{p f pt:Pos}{t:U NV}{D:O}(w:Gl X "enumerate")(x:X.mg "enumerate"=J)(v:PA X [a] n)(y:H9 [a] X.env=[(HU,N3 a X.env)]:=by rfl):
  PI X (.Tuple t D pt) (.Call (.Name "enumerate" p) [a] [] f) (yu X.K n):=by
 intro d s N H R I h;refine Call_<|dq I w x boot_enumerate<|K5 (thn (v f d s N H _ I h) λP k ⟨Z,o,g,r1,i⟩=>?_) y rfl;obtain⟨a,rfl,⟨xs,l⟩,q⟩:=i;cases r1 with
 | cons r M =>
  cases M;cases r;obtain⟨z,Q,F,z1⟩:=g.list l;refine call_enumerate_list F.isList λu i G _ A=>?_;refine Li (s:={k with heap:=u}) i ?_;refine⟨_,_,_,_,o,rfl,g.kept (t':=k.toks) A,oB<|ML _,⟨⟨_,i⟩,G⟩,λb m=>?_,q⟩;have c:k.heap.objs.size<=b:=by simp only[Ip,Jd,N8] at m;rcases m with e|e<;>(rw[e];first|exact LY _ _|exact Ic _)
  exact g.fpOk c<|g.hok.fresh c
end
section
variable {prog:NQ}{w:H8}{A:Il}{R:Result->HW->Prop}{s:HW}
theorem jC {D P k f:NV}{c:N9}{M:Pos}{N u:L}{b:Env}(a:O->HW->Prop)
  (turn:∀ n s,a n s->NO (HZ prog w) A (JI N) (fun r d=>match r with
   |none=>R (.ok .next) d
   | some v=>NO (HZ prog w) A (Ku P N v) (fun _ l=>NO (HZ prog w) A (Jq P b v) (fun _ o=>NO (HZ prog w) A (OL f b (N3 f b)) (fun ok e=>if ok=HV then
     NO (HZ prog w) A (N3 D b) (λy p=>NO (HZ prog w) A (call (.builtin "list.append") [u,y]) (λ_ t=>∃m,m<n/\a m t) noX p) noX e else∃m,m<n/\a m e) noX o) noX l) noX d) noX s)
  (n:O) (h:a n s):JP (HZ prog w) A (.compLoop (.ListComp D [⟨P,k,[f],0⟩] c M) 0 N u b) R s:=by
 refine codeAny_loop rfl a (λn s Q=>?_) n h;show NO _ A ((compTurn (.ListComp D [⟨P,k,[f],0⟩] c M) 0 N u b).onRaise (λx=>do noteFrame x b;theTreesLotGoes x)) _ _ s;refine wpAny_noted ?_;rw[compTurn_list];refine HY<|Ld<|HY<|ID (turn n s Q) (λr d g=>?_) λ_ _ z=>z.elim;cases r with
 |none=>exact Ia g
 |some v=>
  refine HY<|ID g (λ_ l F=>?_) λ_ _ z=>z.elim;refine HY<|ID F (λ_ o G=>?_) λ_ _ z=>z.elim;refine HY<|wpAny_tests_one<|ID G (λok e i=>?_) λ_ _ z=>z.elim;cases ok with
  |true=>exact HY<|HY<|ID i (λy p H=>HY<|ID H (λ_ t I=>Ia<|Ia ⟨rfl,I⟩) λ_ _ z=>z.elim) λ_ _ z=>z.elim
  |false=>exact HY<|Ia<|Ia ⟨rfl,i⟩
end
end L3

namespace L3
open PySem PySem.Spec PyProof.Rows L2
def vf (n:O)(a:It)(g:TG)(r:TT)(s:TE)(c:L2.St)(k:Hp)(Q:VK):Prop:=∃W:O->O->U V->Hp->Prop,(∃m,W 0 m [] k)/\∀i m d H,W i m d H ->
 (a.stop i H/\d.length<=sizeLine/\∀p,H p=J->Q (.ref p) (upd H p<|.lst d)) \/
 (a.go i H/\d.length<sizeLine/\∀x f,a.yld i H x f->g x (Iu n J++c) f λb l=>(b.length=n+c.length/\b.drop n=c)/\r b l λok h=>if ok=HV then s b h λy o=>∃e,e<m/\W (i+1) e (d++[y]) o else∃e,e<m/\W (i+1) e d h)
def xD (n:O)(a:It)(g:TG)(o:TE)(b:L2.St)(h:Hp)(Q:VK):Prop:=∃W:O->O->U V->Hp->Prop,(∃m,W 0 m [] h)/\∀i m d H,W i m d H ->
 (a.stop i H/\d.length<=sizeLine/\∀p,H p=J->Q (.ref p) (upd H p<|.lst d)) \/
 (a.go i H/\d.length<sizeLine/\∀x e,a.yld i H x e->g x (Iu n J++b) e λc k=>(c.length=n+b.length/\c.drop n=b)/\o c k λy l=>∃f,f<m/\W (i+1) f (d++[y]) l)
def jd (n:O)(h:TI)(d:U O)(g:TG)(e:TT)(f:TE):TE:=λb H Q=>h b H λa c=>vf n a g e f (b0 b d) c Q
def jb (n:O)(f:TI)(d:U O)(g:TG)(e:TE):TE:=λb H Q=>f b H λa c=>xD n a g e (b0 b d) c Q
theorem qq {n:O}{c b:L2.St}(h:c.drop n=b){a:O}{w:V}(e:(Iu n J++b)[a]?=Y (Y w)):c[a]?=Y (Y w):=by
 by_cases d:a<n
 .rw [K7<|by simpa using d,Ms,NR d] at e;cases IJ e
 .rw [K8<|by simpa using d,Ka,<- h,List.getElem?_drop,Nat.add_sub_cancel'<|by lia] at e;exact e
def CW (X:Cx)(cs:U NV)(k:NN->HW->Prop)(s:HW):Prop:=match cs with
|[]=>k HV s
|[c]=>NO (HZ X.prog X.w) X.A (OL c X.env<|N3 c X.env) k noX s
|_=>N2
def PC (X:Cx)(cs:U NV)(e:TT):Prop:=∀(a:U<|NM×Obj) (s:HW) (b:L2.St) (H:Hp) (Q:NN->Hp->Prop),Inv X a b H s->e b H Q->CW X cs (λok d=>∃c,Inv X a b c d/\Q ok c) s
theorem CW.mono {X:Cx}{cs:U NV}{k a:NN->HW->Prop}{s:HW}(h:CW X cs k s)(w:∀b s,k b s->a b s):CW X cs a s:=by
 match cs,h with
 |[],h=>exact w _ _ h
 |[c],h=>exact ID h w λ_ _ z=>z
theorem j4 {X:Cx}{g z i:NV}{cs:U NV}{e:N9}{x:Pos}{u f:L}{R:Result->HW->Prop}{s:HW}(a:O->HW->Prop)
  (turn:∀ n s,a n s->NO (HZ X.prog X.w) X.A (JI u) (fun r b=>match r with
   |none=>R (.ok .next) b
   | some v=>NO (HZ X.prog X.w) X.A (Ku z u v) (fun _ k=>NO (HZ X.prog X.w) X.A (Jq z X.env v) (fun _ l=>CW X cs (fun ok d=>if ok=HV then
     NO (HZ X.prog X.w) X.A (N3 g X.env) (λy o=>NO (HZ X.prog X.w) X.A (call (.builtin "list.append") [f,y]) (λ_ p=>∃m,m<n/\a m p) noX o) noX d else∃m,m<n/\a m d) l) noX k) noX b) noX s)
  (n:O) (h:a n s) (t:cs.length<=1):JP (HZ X.prog X.w) X.A (.compLoop (.ListComp g [⟨z,i,cs,0⟩] e x) 0 u f X.env) R s:=by
 match cs,t with
 |[],_=>exact kR a turn n h
 |[c],_=>exact jC a turn n h
theorem jD {X:Cx}{elt Z tg:NV}{cs:U NV}{pre:U Str}{pos:Pos}{l:N9}{P:U<|Str×NM}{ys:U Str}{is:U O}{wi:TI}{g:TG}{te:TE}{tc:TT}{use:B<|L->Sem Unit}{Q:VK}{Qp:L->HW->Prop}{t:U<|NM×Obj}{s:HW}{σ:L2.St}{H:Hp}{ip:Pos}
  (hc:X.calm=HV) (hi:PI X tg Z wi) (hg:∀C s H G,PG (aB X (pre++ys) l P C s H G) tg g) (he:∀C s H G,PE (aB X (pre++ys) l P C s H G) elt te) (hcd:∀C s H G,PC (aB X (pre++ys) l P C s H G) cs tc) (hcs:cs.length<=1)
  (hclos:JL l X.env=pure P) (S:aC pre ys l) (hcl:Clo X P) (hfr:(l.names.all λp=>p.2 != .free || (P.lookup p.1).isSome)=HV) (fr:Frees X l P ys is) (hs:∀v,Ji Z X.env v=pure v)
  (fin:∀(s4:HW) (Hn:Hp) (D f:NM) (m4:Str->B L),Inv X t σ Hn s4->s4.heap.Ns f m4->f≠X.env.locals->(∀a c,X.env.cells.lookup a=Y c->c≠f)->Hn f=J->X.s₀.heap.objs.size<=f->(∀p∈X.pn++t,p.1≠f)->Q (.ref D) Hn->compPost (HZ X.prog X.w) X.A X.xe use Qp (.ref D) f (.ok .next) s4)
  (I:Inv X t σ H s) (h:jd pre.length wi is g tc te σ H Q):
  NO (HZ X.prog X.w) X.A (Oy (.ListComp elt [⟨tg,Z,cs,0⟩] l pos) l X.env ip (newList []) HU (N3 Z X.env) use) Qp X.xe s:=by
 refine wpAny_comprehension_free (use:=use) rfl hs hclos S.kind S.nm (thn (hi t s σ H _ I h) λxv s1 h1=>thn h1 λitv m h2=>?_);obtain⟨it,G,tn,d,N,rfl,I2,T,st2,f2,W,⟨m0,w0⟩,turn⟩:=h2;have fpo:∀b∈G,b<m.heap.objs.size:=λb x=>by obtain⟨o,e,_⟩:=T.obj _ _ st2 b x;exact Heap.lt_size e
 refine Kg<|wpAny_newFunctionEnv S.cell (λy hy=>by cases hy) (λg' hns hsb=>?_) S.kind;dsimp only at hns hsb ⊢;generalize hP2:m.heap.push {cls:=.type "list",dict:=J,data:=.seq ([]:U L).toArray}=P2 at hns hsb ⊢;have hCs:P2.objs.size=m.heap.objs.size+1:=by rw[<- hP2,Heap.size_push]
 have hDC:m.heap.objs.size≠P2.objs.size:=by lia
 have hle:m.heap.objs.size<=P2.objs.size:=by lia
 have nc:∀b o,m.heap.get? b=Y o->b≠P2.objs.size:=λb o e=>Iw<|IF (Heap.lt_size e) hle;have nd:∀b o,m.heap.get? b=Y o->b≠m.heap.objs.size:=λb o e=>Iw<|Heap.lt_size e;have ndH:∀b u,N b=Y u->b≠m.heap.objs.size:=λb u e=>Iw<|I2.hok.lt e;have old:∀b o,m.heap.get? b=Y o->g'.get? b=Y o:=λb o e=>hsb.extBut b o (nc b o e)<|Heap.get?_push_of_some _<|hP2 ▸ Heap.get?_push_of_some _ e;have accD:g'.get? m.heap.objs.size=Y (iH []):=hsb.extBut _ _ hDC<|Heap.get?_push_of_some _<|hP2 ▸ Heap.get?_push_size _ rfl;have stkD:m.heap.objs.size ∉ frs X.stack:=λx=>(Ip.mp<|I2.stkSub _ x).elim (λz=>NP z<|JG I2.lt)<|I2.nofs<|Ic _;generalize hσ':b0 σ is=σ' at turn;have I3:Inv (aB X (pre++ys) l P P2.objs.size m N G) t (Iu pre.length J++σ') N {m with heap:=g',toks:=m.toks+([]:U<|Str×L).length}:=by rw[<- hσ'];exact nQ (pre:=pre) I2 f2 fpo S hcl hfr fr hle old hns
 have stat:∀{H':Hp} {o:Obj},(∀b∈G,H' b=J)->∀b∈G,gK (aB X (pre++ys) l P P2.objs.size m N G) (t++[(m.heap.objs.size,o)]) H' b:=λ{H' o} hn b x=>by
  refine⟨hn b x,Iw<|IF (fpo b x) hle,λz=>(Ip.mp<|I2.stkSub _ z).elim (f2 b x).2.1 (f2 b x).2.2.1,.inl x,λa c e=>(f2 b x).2.2.2.2.1 a c<|hcl.get e,λp hp=>?_⟩;rcases Jw.mp hp with z|z
  .exact(f2 b x).2.2.2.2.2 p<|J9 _ z
  .rcases Jw.mp z with z | z
   .exact(f2 b x).2.2.2.2.2 p<|IC _ z
   .rw [IE.mp z];exact JG<|fpo b x
 have loop:JP (HZ X.prog X.w) X.A (.compLoop (.ListComp elt [⟨tg,Z,cs,0⟩] l pos) 0 (.ref it) (.ref m.heap.objs.size) (compEnvC l P P2.objs.size X.env))
   (compPost (HZ X.prog X.w) X.A X.xe use Qp (.ref m.heap.objs.size) P2.objs.size) {m with heap:=g',toks:=m.toks+([]:U<|Str×L).length}:=by
  refine j4 (X:=aB X (pre++ys) l P P2.objs.size m N G) (λn s'=>∃i zs F H',Inv (aB X (pre++ys) l P P2.objs.size m N G) t (Iu pre.length J++σ') H' s'/\tn i s'.heap/\(∀b∈G,H' b=J)/\s'.heap.get? m.heap.objs.size=Y (iH F)/\Vals zs F/\H' m.heap.objs.size=J/\W i n zs H')
   ?_ m0 ⟨0,[],[],N,I3,T.keep _ _ _ st2 λb _ o e=>old b o e,λb x=>(f2 b x).1,accD,.nil,I2.hok.fresh<|Ic _,w0⟩ hcs
  rintro n s3 ⟨i,zs,F,H3,J3,st3,fr3,d3,rv3,nd3,w3⟩;have hzl:=rv3.length
  have J3':Inv (aB X (pre++ys) l P P2.objs.size m N G) (t++[(m.heap.objs.size,iH F)]) (Iu pre.length J++σ') H3 s3:=J3.pins_of λp hp=>by
   rcases Jw.mp hp with z|z
   .exact J3.pin p (IC _ z)
   .rw [IE.mp z];exact⟨d3,nd3,hDC,stkD,λv q=>by cases q⟩
  rcases turn i n zs H3 w3 with⟨stop,hz,q⟩|⟨go,hz,step⟩
  .refine ID (T.done (aB X (pre++ys) l P P2.objs.size m N G) rfl rfl rfl hc i _ s3 _ H3 noX J3' (stat fr3) st3 stop) (fun r s4 h4=>?_) fun _ _ z=>z.elim;obtain⟨hr,I4⟩:=h4;subst hr;obtain⟨m4,hn4,_⟩:=id I4.loc;have f4:H3 P2.objs.size=none:=I4.free;have d4:s4.heap.get? m.heap.objs.size=Y (iH F):=(I4.pin (m.heap.objs.size,iH F) (IC _ (IC _ (IE.mpr rfl)))).1;have u4:Un (frs X.stack) G N H3 m.heap s4.heap:=I4.base
   have un:Un (frs X.stack) G N (upd H3 m.heap.objs.size (.lst zs)) m.heap s4.heap:=
    ⟨u4.keep,u4.slot,fun b o e n hx=>by rw [af (nd b o e)]; exact u4.free b o e n hx,u4.there,
     λb xs q=>by rw[af<|ndH b _ q];exact u4.tups b xs q,λb o u q=>by rw[af<|ndH b _ q];exact u4.frzs b o u q,λb ps q=>by rw[af<|ndH b _ q];exact u4.tbls b ps q⟩
   have IX:Inv X t σ (upd H3 m.heap.objs.size (.lst zs)) s4:=I2.call' (s':=s4) (ch:=G) I4.os un (ia I4.hok nd3 ⟨hz,F,F.length,rv3,d4⟩) I4.bare
    (λb x=>⟨(f2 b x).2.2.2.1,(f2 b x).2.1,(f2 b x).2.2.2.2.1,(f2 b x).2.2.2.2.2⟩)
   have cL:P2.objs.size≠X.env.locals:=JG<|IF I2.lt hle;have cC:∀a c,X.env.cells.lookup a=Y c->c≠P2.objs.size:=λa c e=>by obtain⟨v',o',ho',_⟩:=I2.cell a c e;exact nc c o' ho'
   exact fin s4 _ m.heap.objs.size P2.objs.size m4 IX hn4 cL cC (by rw[af<|IM hDC];exact f4) (Ij I2.sz hle) (λp hp=>nc p.1 _ (I2.pin p hp).1)<|q _ nd3
  .refine ID (T.item (aB X (pre++ys) l P P2.objs.size m N G) rfl rfl rfl hc i _ s3 _ H3 noX J3' (stat fr3) st3 go) (fun r s4 h4=>?_) fun _ _ z=>z.elim;obtain⟨u,hr,h4⟩:=h4;subst hr;refine ID h4 (λ_ s5 h5=>?_) λ_ _ z=>z.elim;obtain⟨v,H5,I5,r5,y5,st5,fr5⟩:=h5;have I5':=I5.pinned (stat fr5) (T.obj _ _ st5);refine ID (hg P2.objs.size m N G _ s5 _ H5 v u _ I5' r5 (step v H5 y5)) (λ_ s6 h6=>?_) λ_ _ z=>z.elim;obtain⟨σ6,H6,I6,⟨hl6,hd6⟩,step'⟩:=h6;have back:∀{H7:Hp} {s7:HW},Inv (aB X (pre++ys) l P P2.objs.size m N G) ((t++[(m.heap.objs.size,iH F)])++gr G s5.heap) σ6 H7 s7->Inv (aB X (pre++ys) l P P2.objs.size m N G) t (Iu pre.length J++σ') H7 s7:=λI7=>I7.unpinned.unpinned.weak (by rw[hl6,IA,Ka]) λk w' e=>qq hd6 e;refine CW.mono (hcd P2.objs.size m N G _ s6 _ H6 _ I6 step') λok s6' h6'=>?_;obtain⟨H6',I6',q6⟩:=h6';cases ok with
   | false =>
    rw[NW IG] at q6;obtain⟨m',hm',w7⟩:=q6;have M:=I6'.pin (m.heap.objs.size,iH F)<|IC _<|J9 _<|IC _<|IE.mpr rfl;rw[NW IG];refine⟨m',hm',i+1,zs,F,H6',back I6',T.keep _ _ _ st5 λb x o e=>?_,λb x=>?_,M.1,rv3,M.2.1,w7⟩
    .exact(I6'.pin (b,o)<|IC _<|IC _<|bu x e).1
    .obtain ⟨o,e,_⟩:=T.obj _ _ st5 b x;exact(I6'.pin (b,o)<|IC _<|IC _<|bu x e).2.1
   | true =>
    rw[NR rfl] at q6 ⊢;refine ID (he P2.objs.size m N G _ s6' _ H6' _ I6' q6) (λyv s7 h7=>?_) λ_ _ z=>z.elim;obtain⟨y',H7,I7,r7,m',hm',w7⟩:=h7;have M:=I7.pin (m.heap.objs.size,iH F)<|IC _<|J9 _<|IC _<|IE.mpr rfl;refine append_at (hsz:=by show F.toArray.size<=sizeLine;rw[Iv];lia) M.1 λh8 sb8 hD8=>?_
    have I8:Inv (aB X (pre++ys) l P P2.objs.size m N G) t (Iu pre.length J++σ') H7 {s7 with heap:=h8}:=(back I7).turned (t':=s7.toks) (it:=m.heap.objs.size) (λb o x e=>(sb8.2 b x).trans e) M.2.1 hDC (.inr<|Ic _)
     (fun a c e z=>by
      obtain⟨v',o',ho',_⟩:=I2.cell a c<|hcl.get e;exact nd c o' ho' z)
     (λp hp=>nd p.1 _ (I2.pin p hp).1)
    refine⟨m',hm',i+1,zs++[y'],F++[yv],H7,I8,T.keep _ _ _ st5 λb x o e=>?_,λb x=>?_,?_,rv3.append<|.cons r7 .nil,M.2.1,w7⟩
    .exact(sb8.2 b<|Iw<|fpo b x).trans (I7.pin (b,o)<|IC _<|IC _<|bu x e).1
    .obtain ⟨o,e,_⟩:=T.obj _ _ st5 b x;exact(I7.pin (b,o)<|IC _<|IC _<|bu x e).2.1
    .show h8.get? m.heap.objs.size=_;rw[hD8];simp[iH]
 exact codeAny_compStart_list loop<|T.self X.A 0 _ _ _ (T.keep _ _ _ st2 λb _ o e=>old b o e) loop
section
variable {X:Cx}{elt iter tg cnd:NV}{pre:U Str}{pos spos pz:Pos}{z:Str}{jz:O}{scope:N9}{cl:U (Str×NM)}{ys:U Str}{is:U O}{wi:TI}{g:TG}{te:TE}{tc:TT}
def tT:TT:=λ_ H Q=>Q HV H
theorem pcN:PC X [] tT:=λa s b H Q I q=>⟨H,I,q⟩
theorem goN {n:O}{a:L2.St}{H:Hp}{Q:VK}(h:jb n wi is g te a H Q):jd n wi is g tT te a H Q:=h
theorem qB {cs:U NV}(x:X.calm=HV)(F:PI X tg iter wi)(A:∀C s H d,PG (aB X (pre++ys) scope cl C s H d) tg g)(y:∀C s H d,PE (aB X (pre++ys) scope cl C s H d) elt te)(f:∀C s H d,PC (aB X (pre++ys) scope cl C s H d) cs tc)(k:cs.length<=1)
  (c:JL scope X.env=pure cl) (S:aC pre ys scope) (i:Clo X cl) (l:(scope.names.all λp=>p.2 != .free || (cl.lookup p.1).isSome)=HV) (fr:Frees X scope cl ys is) (M:∀v,Ji iter X.env v=pure v):
  PE X (.ListComp elt [⟨tg,iter,cs,0⟩] scope pos) (jd pre.length wi is g tc te):=by
 intro m s σ H Q I h;rw[eval_ListComp];show NO _ _ (Oy _ scope X.env _ (newList []) HU (N3 iter X.env) J) _ _ s;refine jD x F A y f k c S i l fr M (λZ Hn D a P n G t r u N hp q=>?_) I h;exact⟨P,G,λh' sb=>⟨.ref D,_,n.turned (t':=Z.toks) (it:=a) (λb o w e=>(sb.2 b w).trans e) u t (.inr N) r hp,rfl,q⟩⟩
theorem pC {cs:U NV}(hN:X.N.Nodup)(hj:X.N[jz]?=Y z)(f:Loc X.env.scope z)(w:Jf (.ListComp elt [⟨tg,iter,cs,0⟩] scope pos) (Y<|.Name z pz) spos.line X.env=pure HV)(hc:X.calm=HV)(hi:PI X tg iter wi)(hg:∀C s H i,PG (aB X (pre++ys) scope cl C s H i) tg g)(he:∀C s H i,PE (aB X (pre++ys) scope cl C s H i) elt te)(m:∀C s H i,PC (aB X (pre++ys) scope cl C s H i) cs tc)(r:cs.length<=1)
  (c:JL scope X.env=pure cl) (S:aC pre ys scope) (n:Clo X cl) (u:(scope.names.all λp=>p.2 != .free || (cl.lookup p.1).isSome)=HV) (fr:Frees X scope cl ys is) (hs:∀v,Ji iter X.env v=pure v) (t:X.fn z=HV\/X.env.scope.names.lookup z=Y .local):
  PS X (.Assign [.Name z pz] (.ListComp elt [⟨tg,iter,cs,0⟩] scope pos) spos) (qL (jd pre.length wi is g tc te)<|bZ jz):=by
 intro k s σ H D I h;rw[exec_Assign_Name_used _ _ _ _ w];refine HY<|Ld<|HY ?_;show NO _ _ (do let _ <- Oy (.ListComp elt [⟨tg,iter,cs,0⟩] scope pos) scope X.env _ (newList []) HU (N3 iter X.env) (Y (Jq (.Name z pz) X.env))) _ _ s;refine HY<|thn (jD (use:=Y<|Jq (.Name z pz) X.env) (Qp:=λ_ F=>SP X k D .next F) hc hi hg he m r c S n u fr hs (λs4 Hn d a m4 M hn A y Z hz hp q=>?_) I h) λ_ F hq=>Ia<|Ia hq;show NO _ _ (Jq (.Name z pz) X.env<|.ref d) _ _ s4;refine wpAny_assign_Name<|iB M hN hj f (v:=.ref d) rfl (λs5 G Q=>?_) t;obtain⟨P,x,l⟩:=Q;have na:a≠P:=l.elim (λe=>by rw[e];exact A) λe=>IM<|y _ _ e;exact⟨m4,hn.sameBut x na,λh' sb=>⟨_,_,G.turned (t':=s5.toks) (it:=a) (λb o hb e=>(sb.2 b hb).trans e) Z A (.inr hz) y hp,q⟩⟩
theorem gZ (f:X.calm=HV)(l:PI X tg iter wi)(k:∀C s H c,PG (aB X (pre++ys) scope cl C s H c) tg g)(i:∀C s H c,PE (aB X (pre++ys) scope cl C s H c) elt te)
  (a:JL scope X.env=pure cl) (S:aC pre ys scope) (d:Clo X cl) (e:(scope.names.all λp=>p.2 != .free || (cl.lookup p.1).isSome)=HV) (fr:Frees X scope cl ys is) (m:∀v,Ji iter X.env v=pure v:=by intro _;rfl):
  PE X (.ListComp elt [⟨tg,iter,[],0⟩] scope pos) (jb pre.length wi is g te):=λb s n H Q I h=>qB f l k i (λ_ _ _ _=>pcN) (Jo _) a S d e fr m b s n H Q I<|goN h
theorem iw (l:X.N.Nodup)(t:X.N[jz]?=Y z)(b:Loc X.env.scope z)(k:Jf (.ListComp elt [⟨tg,iter,[],0⟩] scope pos) (Y<|.Name z pz) spos.line X.env=pure HV)(m:X.calm=HV)(r:PI X tg iter wi)(o:∀C s H d,PG (aB X (pre++ys) scope cl C s H d) tg g)(n:∀C s H d,PE (aB X (pre++ys) scope cl C s H d) elt te)
  (a:JL scope X.env=pure cl) (S:aC pre ys scope) (e:Clo X cl) (i:(scope.names.all λp=>p.2 != .free || (cl.lookup p.1).isSome)=HV) (fr:Frees X scope cl ys is) (u:∀v,Ji iter X.env v=pure v:=by intro _;rfl) (f:X.fn z=HV\/X.env.scope.names.lookup z=Y .local:=by first|exact .inl rfl|exact .inr rfl|assumption):
  PS X (.Assign [.Name z pz] (.ListComp elt [⟨tg,iter,[],0⟩] scope pos) spos) (qL (jb pre.length wi is g te)<|bZ jz):=λc s w H D I h=>pC l t b k m r o n (λ_ _ _ _=>pcN) (Jo _) a S e i fr u f c s w H D I<|goN h
end
end L3


namespace L3
open PySem PySem.Spec PyProof.Rows L2
abbrev yw (h:NX)(T:NM)(a b c:L):Prop:=h.get? T=Y {cls:=.type "tuple",data:=.seq #[a,b,c]}
def Z3 (n d e f:O)(i:O)(h:NX):Prop:=
 IQ h (n+5) (n+3) (n+4) .none/\yw h (n+3) (.ref n) (.ref<|n+1) (.ref<|n+2)/\(∃a b c,yw h (n+4) a b c)/\ItO h HU n d i/\ItO h HU (n+1) e i/\ItO h HU (n+2) f i
end L3

namespace L3
open PySem PySem.Spec PyProof.Rows L2
noncomputable abbrev VE:U L:=[.type "ValueError",.type "Exception",.type "BaseException",.type "object"]
structure Hw (h:NX)(C N:NM)(up:U L)(names:Str->B L):Prop where
 obj:∃nm q bs hd sn sub ab col dd k0 k1 k2 k3 k5,h.get? C=Y (excClassObj nm q C N bs up hd sn sub ab col dd k0 k1 k2 k3 k5 "ValueError.__new__")
 ns:h.Ns N names
section
variable {prog:NQ}{w:H8}{h:NX}{A:Il}{g:N5 OB}{d:Drawn}{t:O}{os:OG}{E:L->HW->Prop}
def AN:U L->NN
|.ref _::r=>AN r
|l=>l==VE
end
def XOk (a C:NM)(c:B NM)(n:NN)(h:NX):Prop:=∃o b d,h.get? a=Y o/\o.cls=.ref C/\o.dict=c/\o.data=.fields b/\b[0]?=Y (.ref d)/\1<b.size/\(n=HV->b[1]?=Y .none)
abbrev XO (a C:NM)(b:B NM)(n:NN):HO:=.ext<|XOk a C b n
def Tr (lo:O)(H:Hp)(h:NX)(a:NM):Prop:=∃d b,h.get? a=Y d/\d.data=.fields b /\
 (b[1]?=Y .none\/∃T c e,b[1]?=Y (.ref T)/\T≠a/\h.get? T=Y c/\c.data=.fields e/\e[3]?=Y .none/\lo<=T/\H T=J)
structure XC (K:HX)(C f:NM)(up:U L):Prop where
 ok:∀h,K.In h->∃N names,Hw h C N up names/\OwnTail h VE up/\names "__init__"=Y (.ref f)
 fn:∀h,K.In h->∃o,h.get? f=Y o/\o.cls=.type "function"
 kp:KI K (.ref C)=HV
 sa:KJ K (.ref C) "__setattr__"=Y (Y (.builtin "object.__setattr__"))
 po:(PySem.W.clsIn K C).any (λcd=>AN cd.mro)=HV
 hd:L4 K C=HV
def xw (X:Cx)(d:L2.St):VK:=λv H=>∀(b:U<|NM×Obj) (s:HW) (a C:NM) (c:B NM),v=.ref a->H a=Y (XO a C c HU)->Inv X b d H s->Tr X.s₀.heap.objs.size H s.heap a->X.xe (.ref a) s
noncomputable abbrev hx (X:Cx)(a:NM):Cx:={X with A:=X.A.mark<|Y<|.ref a,calm:=HU,xe:=λ_ _=>N2}
abbrev tx (X:Cx)(E:L->HW->Prop)(pn:U<|NM×Obj):Cx:={X with xe:=E,pn:=pn}
section
variable {prog:NQ}{w:H8}{A:Il}{E:L->HW->Prop}{s:HW}{K:HX}
structure XG (K:HX)(C:NM):Prop where
 ga:KJ K (.ref C) "__getattribute__"=Y (Y (.builtin "BaseException.__getattribute__"))
 hk:KJ K (.ref C) "__getattr__"=Y J
 sub:M4 K (.ref C) (.type "BaseException")=Y HV
end
structure XF (K:HX)(C:NM):Prop where
 xc:∃f up,XC K C f up/\AN up=HV
 xg:XG K C
 hd:L4 K C=HV
 ca:KJ K (.ref C) "__class__"=Y (Y (.builtin "object.__class__"))
 cg:ND K (.builtin "object.__class__") "__get__"=Y (Y (.builtin "getset_descriptor.__get__"))
 ct:MI K (.builtin "object.__class__")=Y HV
 mo:My K C (.type "object")=Y HV
def XNm (K:HX)(c:O)(C:NM):Prop:=c=C/\XF K C
end L3

namespace L3
open PySem PySem.Spec PyProof.Rows L2
noncomputable def hT (a:U j):j:=reduceHash<|Builtin.Tuple.tupleHashOf<|a.map hashInt
abbrev KZ:=U j×NM×L
def DTk (a:NM)(d:U<|U j)(f e:U V)(h:NX):Prop:=(a==I9)=HU/\∃b:U KZ,b.map (·.1)=d/\b.map (λz=>V.ref z.2.1)=f/\Vals e (b.map (·.2.2))/\∃o c ep,h.get? a=Y o/\o.ExactDict/\o.data=.dict c ep/\c.toList=b.map λz=>⟨hT z.1,.ref z.2.1,z.2.2⟩
abbrev DTO (a:NM)(b:U<|U j)(d c:U V):HO:=.ext<|DTk a b d c
theorem DTk.ok {P:NQ}{w:H8}{H:Hp}{a:NM}{b:U<|U j}{d c:U V}{h:NX}(x:DTk a b d c h):ObjOk P w H h a (DTO a b d c):=by
 refine⟨x,?_,λk l y e=>?_⟩
 .obtain ⟨_,f,_,_,_,o,_,_,g,_⟩:=x;exact⟨o,g⟩
 .obtain ⟨z,f,e1,e2,e3,o,i,ep,g,r⟩:=y;exact⟨z,f,e1,e2,e3,o,i,ep,e o g,r⟩
def KeyR (K:HX)(H:Hp):U (U j)->U V->Prop
|[],a=>a=[]
|k::c,a=>∃b r,a=.ref b::r/\SqT K H b (k.map V.int)/\KeyR K H c r
theorem KeyR.keep {K:HX}{H d:Hp}(s:∀b (f:U V),SqT K H b f->SqT K d b f):∀{a:U<|U j} {c:U V},KeyR K H a c->KeyR K d a c
|[],_,h=>h
|k::a,c,⟨b,r,e,q,h⟩=>⟨b,r,e,s b _ q,h.keep s⟩
end L3

namespace M
open PySem (Str)
inductive T where
 |non|bl (b:NN)|int (i:j)|str (x:Str)|tup (ts:U T)|lst (ts:U T)|dct (ks:U (j ⊕ Str)) (vs:U T)|ins (c:O) (fs:U Str) (vs:U T)|dtt (ks:U (U j)) (vs:U T)
 |scr (ns:U j)
 |gone
 deriving Od
inductive Md where
 |s|d|o (m:Md)
 deriving Of,Od
noncomputable def Md.kid:Md->Md
|.s=>.s | .d=>.d | .o m=>m
def Md.up:Md->Md
|.d=>.d|m=>.o m
noncomputable def Md.meet:Md->Md->Md
|.s,_=>.s | .d,m=>m | .o _,.s=>.s | .o a,.d=>.o a | .o a,.o b=>.o<|a.meet b
noncomputable def Md.le:Md->Md->NN
|.s,_=>HV
|.o a,.o b=>a.le b
|.o _,.d=>HV
|.d,.d=>HV
|_,_=>HU
abbrev W:=Md×T
abbrev Env:=U<|B W
noncomputable def LIM:O:=16777215
noncomputable def T.leaf:T->NN
|.non | .bl _ | .int _ | .str _ | .scr _=>HV
|_=>HU
def T.isG:T->NN
|.gone=>HV
|.dtt _ _=>HV
|_=>HU
noncomputable def T.isH:T->NN
|.gone=>HV
|.dct _ _=>HV
|.dtt _ _=>HV
|.ins _ _ _=>HV
|_=>HU
def T.isN:T->NN
|.non=>HV
|_=>HU
def leaves (a:U T):NN:=a.all T.leaf
inductive Op where
 |add|sub|mul|fdiv|mod|pow|eq|ne|lt|le|gt|ge|is|isnot|isin|notin|ix|sl|sl1|sl2
 |len|isI (cs:U NU)|count|fdivN|modN|list|tuple|sum|all|any|max|min|int|str|rng|sorted|join|split|abs|dict|get|lower|catT|dnew|ixD
 |getD|inD|dsp1
 |dtup|ixDT|nl
 |att (fld:Str)|getI (tab:U (Str×j))|mk (c:O) (fld:Str) (fk:O)
  deriving Of,Od
inductive Ik where
 |seq|rng|enm|zip|zip3|enmT|sq2T|sq3
 deriving Of,Od
inductive E where
 |var (i:O)|mv (i:O)|io (i:O)|cst (t:T)
 |tup (es:U E)|lst (h:NN) (es:U E)|op (o:Op) (h:NN) (es:U E)|wk (m:Md) (e:E)
 |and (a b:E)|or (a b:E)|not (a:E)|ifx (c a b:E)
 |call (f:O) (es:U E)|comp (h:NN) (k:Ik) (src:U E) (tg:U O) (cnd:B E) (elt:E)
 |pop (i:O) (es:U E)
 |sdf (i j k:O)
 |inT (neg:NN) (ks:U Str) (e:E)|ixT (tab:U (Str×T)) (e:E)|getT (tab:U (Str×T)) (e:E)
 deriving Od
inductive X where
 |q (vs ls:U O)|l (vs:U O)
 deriving Od
inductive S where
 |asg (x:X) (i:O) (e:E)|setI (x:X) (i:O) (k e:E)|setS (x:X) (i:O) (k e:E)|apG (i:O)
 |exp (x:X) (e:E)|app (x:X) (i:O) (e:E)|ext (x:X) (i:O) (e:E)
 |ret (vs:U O) (e:E)|ite (x:X) (c:E) (a b:U S)
 |forS (vs ls:U O) (k:Ik) (src:U E) (tg:U O) (body:U S)
 |brk|pas|stop|tri (body:U S)
 |raise (c:O) (fld:Str) (fk:O) (x:X) (e:E)
 deriving Od
structure Fn where
 ps:O
 ns:O
 io:U O
 body:U S
inductive Res (α:Type) where
 |ok (a:α)|ex (t:T)|no
def Res.bind {b c:Type}:Res b->(b->Res c)->Res c
|.ok a,f=>f a
|.ex t,_=>.ex t
|.no,_=>.no
def ofO {b:Type}:B b->Res b
|some a=>.ok a
|none=>.no
inductive Fl where
 |nx (η:Env)|rt (w:W) (η:Env)|bk (η:Env)|ex (t:T) (η:Env)|no
noncomputable def truth:T->B NN
|.non=>Y HU | .bl b=>Y b | .int i=>Y (i != 0) | .str x=>Y (x.cps.size != 0) | .tup a=>Y (!a.isEmpty) | .lst a=>Y (!a.isEmpty) | .dct _ _=>J | .ins ..=>J | .dtt ..=>J | .scr c=>Y (!c.isEmpty) | .gone=>J
noncomputable def b2i:NN->j
|true=>1|false=>0
mutual
def eqT:T->T->NN
|.non,.non=>HV
|.bl a,.bl b=>a==b
|.bl a,.int i=>b2i a==i
|.int i,.bl a=>i==b2i a
|.int i,.int j=>i==j
|.str x,.str y=>x==y
|.tup ts,.tup us=>eqTs ts us
|.lst ts,.lst us=>eqTs ts us
|_,_=>HU
def eqTs:U T->U T->NN
|[],[]=>HV
|t::ts,u::us=>eqT t u&&eqTs ts us
|_,_=>HU
end
mutual
def dp:T->O
|.tup ts=>dps ts+1
|.lst ts=>dps ts+1
|.scr _=>1000
|.dct _ _=>1000
|.ins _ _ _=>1000
|.dtt _ _=>1000
|.gone=>1000
|_=>0
def dps:U T->O
|[]=>0
|t::ts=>max (dp t)<|dps ts
end
def sOk (x:Str):NN:=x.cps.all (· < 0x110000)&&decide (x.cps.size<=LIM)
def kOk:j ⊕ Str->NN
|.inl _=>HV
|.inr x=>sOk x
noncomputable def keyT:T->B (j ⊕ Str)
|.int n=>Y<|.inl n
|.str x=>Y<|.inr x
|_=>J
def lookD (q:j ⊕ Str):U (j ⊕ Str)->U T->B T
|y::b,v::a=>if y=q then Y v else lookD q b a
|_,_=>J
noncomputable def ixN (n:O)(i:j):B O:=if 0<=i then(if i<n then Y i.toNat else J) else if -(n:j)<=i then Y (i+n).toNat else J
def atI {c:Type}(b:U c)(i:j):B c:=(ixN b.length i).bind λa=>b[a]?
noncomputable def sIx (n d:O):B j->O
|none=>d
|some i=>if i<0 then(i+n).toNat else min i.toNat n
def cut {b:Type}(a:U b)(lo c:B j):U b:=(a.drop<|sIx a.length 0 lo).take<|sIx a.length a.length c-sIx a.length 0 lo
noncomputable def T.ty:T->NU
|.non=>"NoneType" |.bl _=>"bool" |.int _=>"int" |.str _=>"str" |.tup _=>"tuple" |.lst _=>"list" |.dct ..=>"dict" |.ins ..=>"object" |.dtt ..=>"dict" |.scr _=>"list" |.gone=>"gone"
def isOne (c:NU)(t:T):NN:=t.ty==c || (t.ty=="bool"&&c=="int")
noncomputable def intsOf:U T->B (U j)
|[]=>Y []
|.int i::a=>(intsOf a).map (i::·)
|_::_=>J
noncomputable def a0:U T->B (U NN)
|[]=>Y []
|.bl b::a=>(a0 a).map (b::·)
|_::_=>J
noncomputable def elems:W->B (U T)
|(_,.tup a)=>Y a
|(_,.lst a)=>Y a
|_=>J
def flatT:T->NN
|.non | .bl _ | .int _ | .str _=>HV
|_=>HU
def F6 (c:O):O:=if 65<=c/\c<=90 then c+32 else c
noncomputable def DB (x:j):U j->U j
|[]=>[x]
|y::a=>if x<=y then x::y::a else y::DB x a
def yL:U j->U j
|[]=>[]
|x::a=>DB x<|yL a
noncomputable def strsOf:U T->B (U Str)
|[]=>Y []
|.str x::a=>(strsOf a).map (x::·)
|_::_=>J
noncomputable def spl (c:O):U O->U O->U (U O)
|a,[]=>[a]
|a,x::b=>if x=c then a::spl c [] b else spl c (a++[x]) b
def splS (x:Str):U Str:=(spl 32 [] x.cps.toList).map λl=>⟨l.toArray⟩
def HN (i:j):Str:=Str.ofString<|toString i
def newL (h:NN)(m:Md)(a:U T):B W:=if h then(if leaves a then Y (.d,.lst a) else J) else Y (m.up,.lst a)
def fits (n:O):NN:=decide (n<=LIM)
mutual
def rOk:T->NN
|.non | .bl _=>HV
|.int i=>decide (i.natAbs<10000000000000000000)
|.str x=>decide ((Mz x).length<=100)&&sOk (Mz x)
|.tup ts=>Al ts
|.lst ts=>Al ts
|_=>HU
def Al:U T->NN
|[]=>HV
|t::ts=>rOk t&&Al ts
end
mutual
def szR:T->O
|.tup ts=>BF ts+4
|.lst ts=>BF ts+4
|_=>100
def BF:U T->O
|[]=>0
|t::ts=>szR t+2+BF ts
end
mutual
def noL:T->NN
|.non | .bl _ | .int _ | .str _=>HV
|.tup ts=>noLs ts
|_=>HU
def noLs:U T->NN
|[]=>HV
|t::ts=>noL t&&noLs ts
end
def dtPs:U T->B (U (U j)×U T)
|[]=>Y ([],[])
|.tup [.tup b,v]::a=>(intsOf b).bind λk=>(dtPs a).map λp=>(k::p.1,v::p.2)
|_::_=>J
def lookT (q:U j):U (U j)->U T->B T
|y::b,v::a=>if y=q then Y v else lookT q b a
|_,_=>J
def qY:O->Md->T->NN
|0,_,.int n=>decide (n.natAbs.log2<1920)
|1,.s,.tup a=>decide (dp (.tup a)<=64)&&rOk (.tup a)&&decide (szR (.tup a)<=1000000)
|2,_,.str _=>HV
|_,_,_=>HU
def lfM (t:T):Md:=if t.leaf=HV then .d else .s
noncomputable def getI:B j->B j->T
|some i,_=>.int i
|none,Y i=>.int i
|none,J=>.non
def oSem:Op->NN->U W->B W
|.add,h,[(m,a),(n,b)]=>match a,b with
 |.int i,.int e=>Y (.d,.int<|i+e)
 |.str x,.str y=>if fits (x.cps.size+y.cps.size) then Y (.d,.str<|x++y) else J
 |.lst f,.lst r=>if fits (f.length+r.length) then newL h (m.kid.meet n.kid) (f++r) else J
 |.tup f,.tup r=>if fits (f.length+r.length)&&!f.isEmpty then Y (.s,.tup<|f++r) else J
 |_,_=>J
|.sub,_,[(_,.int i),(_,.int e)]=>Y (.d,.int<|i-e)
|.mul,h,[(m,a),(_,b)]=>match a,b with
 |.int i,.int e=>if(decide (i.natAbs<18446744073709551616)) || (decide (e.natAbs<18446744073709551616)) then Y (.d,.int<|i * e) else J
 |.lst f,.int k=>if decide (k.natAbs<4611686018427387904)&&fits (f.length * k.toNat) then newL h .s (Iu k.toNat f).flatten else J
 |_,_=>J
|.fdiv,_,[(_,.int i),(_,.int e)]=>if decide (0<e)&&decide (e<1073741824) then Y (.d,.int<|i / e) else J
|.mod,_,[(_,.int i),(_,.int e)]=>if decide (0<e) then Y (.d,.int<|i % e) else J
|.pow,_,[(_,.int i),(_,.int e)]=>if decide (0<=e)&&decide (e<=1000000)&&decide (i.natAbs<18446744073709551616) then Y (.d,.int<|i ^ e.toNat) else J
|.fdivN,_,[(_,.int i),(_,.int e)]=>if(e != 0)&&decide (e.natAbs<18446744073709551616) then Y (.d,.int<|i.fdiv e) else J
|.modN,_,[(_,.int i),(_,.int e)]=>if e != 0 then Y (.d,.int<|i.fmod e) else J
|.eq,_,[(_,a),(_,b)]=>if decide (dp a<=64)&&decide (dp b<=64) then Y (.d,.bl<|eqT a b) else J
|.ne,_,[(_,a),(_,b)]=>if decide (dp a<=64)&&decide (dp b<=64) then Y (.d,.bl<|!eqT a b) else J
|.lt,_,[(_,.int i),(_,.int e)]=>Y (.d,.bl<|decide (i<e))
|.le,_,[(_,.int i),(_,.int e)]=>Y (.d,.bl<|decide (i<=e))
|.gt,_,[(_,.int i),(_,.int e)]=>Y (.d,.bl<|decide (e<i))
|.ge,_,[(_,.int i),(_,.int e)]=>Y (.d,.bl<|decide (e<=i))
|.is,_,[(_,a),(_,.non)]=>if a.isG then J else Y (.d,.bl a.isN)
|.isnot,_,[(_,a),(_,.non)]=>if a.isG then J else Y (.d,.bl<|!a.isN)
|.ix,_,[(m,a),(_,.int i)]=>match a with
 |.lst f=>(atI f i).map λt=>(m.kid,t)
 |.tup f=>(atI f i).map λt=>(m.kid,t)
 |.str x=>(atI x.cps.toList i).map λc=>(.d,.str ⟨#[c]⟩)
 |.scr l=>(atI l i).map λn=>(.d,.int n)
 |_=>J
|.sl,h,[(m,.lst f)]=>newL h m.kid f
|.sl1,h,[(m,.lst f),(_,.int i)]=>newL h m.kid<|cut f (Y i) J
|.sl2,h,[(m,.lst f),(_,.int i)]=>newL h m.kid<|cut f J<|Y i
|.sl2,_,[(_,.scr l),(_,.int i)]=>Y (.d,.lst<|(cut l J<|Y i).map T.int)
|.sl1,_,[(_,.scr l),(_,.int i)]=>Y (.d,.lst<|(cut l (Y i) J).map T.int)
|.sl,_,[(_,.scr l)]=>Y (.d,.lst<|l.map T.int)
|.sl1,_,[(_,.tup f),(_,.int i)]=>Y (.s,.tup<|cut f (Y i) J)
|.sl2,_,[(_,.tup f),(_,.int i)]=>Y (.s,.tup<|cut f J<|Y i)
|.len,_,[(_,a)]=>match a with
 |.lst f=>Y (.d,.int f.length)
 |.tup f=>Y (.d,.int f.length)
 |.str x=>Y (.d,.int x.cps.size)
 |.scr l=>Y (.d,.int l.length)
 |_=>J
|.att fld,_,[(_,.ins _ [g] [t])]=>if(g==fld)=HV then Y (lfM t,t) else J
|.mk c fld A,_,[(m,t)]=>if qY A m t=HV then Y (.s,.ins c [fld] [t]) else J
|.isI cs,_,[(_,a)]=>if a.isH then J else Y (.d,.bl<|cs.any λc=>isOne c a)
|.list,h,[(m,a)]=>match a with
 |.lst f=>newL h m.kid f
 |.tup f=>newL h m.kid f
 |.scr l=>Y (.d,.lst<|l.map T.int)
 |_=>J
|.tuple,_,[(m,a)]=>match a with
 |.lst f=>Y (m.kid.up,.tup f)
 |.tup f=>Y (m,.tup f)
 |_=>J
|.sum,_,[(_,.lst f)]=>(intsOf f).map λl=>(.d,.int l.sum)
|.all,_,[(_,.lst f)]=>(a0 f).map λbs=>(.d,.bl<|bs.all id)
|.any,_,[(_,.lst f)]=>(a0 f).map λbs=>(.d,.bl<|bs.any id)
|.max,_,[(_,.int i),(_,.int e)]=>Y (.d,.int<|if e>i then e else i)
|.min,_,[(_,.int i),(_,.int e)]=>Y (.d,.int<|if e<i then e else i)
|.rng,_,[(_,.int i),(_,.int e)]=>if decide (i.natAbs<4611686018427387904)&&decide (e.natAbs<4611686018427387904)&&fits (e-i).toNat then Y (.d,.lst<|(IB (e-i).toNat).map λ(k:O)=>T.int<|i+k) else J
|.isin,_,[(_,a),(n,b)]=>(elems (n,b)).bind λf=>if flatT a&&f.all flatT then Y (.d,.bl<|f.any λt=>eqT t a) else J
|.notin,_,[(_,a),(n,b)]=>(elems (n,b)).bind λf=>if flatT a&&f.all flatT then Y (.d,.bl<|!f.any λt=>eqT t a) else J
|.int,_,[(_,.int i)]=>Y (.d,.int i)
|.int,_,[(_,.bl b)]=>Y (.d,.int<|b2i b)
|.abs,_,[(_,.int i)]=>Y (.d,.int i.natAbs)
|.sorted,_,[(_,.lst f)]=>(intsOf f).bind λl=>if decide (l.length<64) then Y (.d,.lst<|(yL l).map T.int) else J
|.str,_,[(_,.int i)]=>if decide (i.natAbs<10000000000000000000) then Y (.d,.str<|HN i) else J
|.join,_,[(_,.str z),(_,.lst f)]=>(strsOf f).bind λw=>if sOk (Str.join z w)&&decide ((w.map λs=>s.cps.size+z.cps.size).sum<=LIM) then Y (.d,.str<|Str.join z w) else J
|.split,_,[(_,.str z),(_,.str y)]=>if(y==Str.ofString " ")&&decide (z.cps.size+2<=LIM)&&(splS z).all sOk then Y (.d,.lst<|(splS z).map T.str) else J
|.count,_,[(_,.lst f),(_,.bl b)]=>(a0 f).map λbs=>(.d,.int<|bs.count b)
|.lower,_,[(_,.str x)]=>if x.cps.toList.all (λc=>decide (c<128)) then Y (.d,.str ⟨x.cps.map F6⟩) else J
|.catT,_,[(_,.tup f),(_,.tup r)]=>if fits (f.length+r.length) then Y (.s,.tup<|f++r) else J
|.dnew,_,[]=>Y (.d,.dct [] [])
|.ixD,_,[(.s,.dct u v),(_,k)]=>(keyT k).bind λq=>(lookD q u v).map λt=>(.s,t)
|.nl,_,[(_,t)]=>if noL t then Y (.d,t) else J
|.dtup,_,[(.s,.lst f)]=>(dtPs f).bind λp=>if decide p.1.Nodup&&decide (f.length<=LIM) then Y (.s,.dtt p.1 p.2) else J
|.ixDT,_,[(_,.dtt u v),(_,.tup r)]=>(intsOf r).bind λk=>(lookT k u v).map λt=>(.s,t)
|.getI tab,_,[(_,.str x),(_,.int d)]=>Y (.d,.int<|(tab.lookup x).getD d)
|.getD,_,[(.s,.dct u v),(_,k)]=>(keyT k).map λq=>(.s,(lookD q u v).getD .non)
|.inD,_,[(_,k),(.s,.dct u v)]=>(keyT k).map λq=>(.d,.bl (lookD q u v).isSome)
|.dsp1,_,[(_,.str x),(_,t)]=>Y (.o .s,.dct [.inr x] [t])
|_,_,_=>J
noncomputable def rd:Env->O->B W
|[],_=>J
|o::_,0=>o
|_::a,i+1=>rd a i
noncomputable def wr:Env->O->B W->Env
|[],_,_=>[]
|_::a,0,w=>w::a
|o::a,i+1,w=>o::wr a i w
abbrev put (a:Env)(i:O)(w:W):Env:=wr a i<|Y w
abbrev del (a:Env)(i:O):Env:=wr a i J
def look:W->B W
|(.s,t)=>Y (.s,t)
|(_,t)=>if t.leaf=HV then Y (.d,t) else J
def toS:B W->B W
|some (_,t)=>Y (.s,t)
|none=>J
def share:U O->Env->Env
|[],a=>a
|i::b,a=>share b<|wr a i<|toS<|rd a i
def lfO:B W->B W
|some (_,t)=>if t.leaf=HV then Y (.d,t) else J
|none=>J
def fE:Env->Env
|[]=>[]
|_::a=>none::fE a
def ly:U O->Env->Env->Env
|[],_,b=>b
|i::c,a,b=>ly c a<|wr b i<|toS<|rd a i
def gn:U O->Env->Env->Env
|[],_,b=>b
|i::c,a,b=>gn c a<|wr b i<|lfO<|rd a i
def pick (c b:U O)(a:Env):Env:=gn b a<|ly c a<|fE a
def after (m:Md)(b:U O)(a:Env):Env:=match m with
|.d=>a
|_=>share b a
def bindT:U O->U W->Env->B Env
|[],[],a=>Y a
|i::b,w::c,a=>bindT b c<|put a i w
|_,_,_=>J
noncomputable def cH (m:Md):O->U T->U (U W)
|_,[]=>[]
|i,t::a=>[(.d,.int i),(m,t)]::cH m (i+1) a
noncomputable def cV (m n:Md):U T->U T->U (U W)
|t::a,u::b=>[(m,t),(n,u)]::cV m n a b
|_,_=>[]
noncomputable def pairsT:U T->B (U<|U W)
|[]=>Y []
|.tup [x,y]::a=>(pairsT a).map ([(.s,x),(.s,y)]::·)
|_::_=>J
noncomputable def tripsT:U T->B (U<|U W)
|[]=>Y []
|.tup [x,y,z]::a=>(tripsT a).map ([(.s,x),(.s,y),(.s,z)]::·)
|_::_=>J
noncomputable def qg:U T->U T->U T->U (U W)
|t::a,u::b,v::c=>[(.s,t),(.s,u),(.s,v)]::qg a b c
|_,_,_=>[]
def turns:Ik->U W->B (U<|U W)
|.seq,[(_,.lst f)]=>Y<|f.map λt=>[(.s,t)]
|.seq,[(_,.tup f)]=>Y<|f.map λt=>[(.s,t)]
|.seq,[(_,.scr h)]=>Y<|h.map λn=>[(.d,.int n)]
|.rng,[(_,.int n)]=>if decide (n.natAbs<4611686018427387904)&&fits n.toNat then Y ((IB n.toNat).map λ(k:O)=>[(.d,.int k)]) else J
|.rng,[(_,.int i),(_,.int e)]=>if decide (i.natAbs<4611686018427387904)&&decide (e.natAbs<4611686018427387904)&&fits (e-i).toNat then Y ((IB (e-i).toNat).map λ(k:O)=>[(.d,.int<|i+k)]) else J
|.rng,[(_,.int i),(_,.int e),(_,.int c)]=>if decide (i.natAbs<4611686018427387904)&&decide (e.natAbs<4611686018427387904)&&decide (c=-1)&&fits (i-e).toNat then Y ((IB (i-e).toNat).map λ(k:O)=>[(.d,.int<|i-k)]) else J
|.enm,[(_,.lst f)]=>Y<|cH .s 0 f
|.enmT,[(_,.tup f)]=>Y<|cH .s 0 f
|.zip,[(m,a),(n,b)]=>(elems (m,a)).bind λf=>(elems (n,b)).bind λg=>Y<|cV .s .s f g
|.sq2T,[(_,.tup f)]=>pairsT f
|.sq3,[(_,.lst f)]=>tripsT f
|.zip3,[(_,.lst f),(_,.lst g),(_,.lst l)]=>Y<|qg f g l
|_,_=>J
abbrev Call:=O->U W->Res (W×U W)
abbrev RE:=Res<|W×Env
def lf (m:Md)(t:T):Md:=if t.leaf=HV then .d else m
def fR:U W->Md
|[]=>.d
|w::a=>(lf w.1 w.2).meet<|fR a
def trees:U W->U T
|[]=>[]
|w::a=>w.2::trees a
def ax:U O->Env->Env
|[],a=>a
|i::b,a=>ax b<|del a i
def ios:U E->U O
|[]=>[]
|.io i::a=>i::ios a
|_::a=>ios a
def putAll:U O->U W->Env->Env
|i::b,w::c,a=>putAll b c<|put a i w
|_,_,a=>a
def j5:W->U W->B (W×W)
|(.s,_),_=>J
|(m,.lst a),[]=>(a.getLast?).map λt=>((m.kid,t),(m,.lst a.dropLast))
|(m,.lst (t::a)),[(_,.int 0)]=>Y ((m.kid,t),(m,.lst a))
|_,_=>J
def gN:W->W->B W
|(.s,_),_=>J
|(m,.lst a),(n,t)=>if a.length<LIM then Y ((m.kid.meet<|lf n t).up,.lst<|a++[t]) else J
|_,_=>J
def gL:W->W->B W
|(.s,_),_=>J
|(m,.lst a),(n,.lst b)=>if a.length+b.length<=LIM then Y ((m.kid.meet n.kid).up,.lst<|a++b) else J
|_,_=>J
noncomputable def putT (k:j ⊕ Str)(t:T):U (j ⊕ Str)->U T->U (j ⊕ Str)×U T
|[],_=>([k],[t])
|y::a,v::b=>if y=k then(y::a,t::b) else((y::(putT k t a b).1),(v::(putT k t a b).2))
|y::a,[]=>(y::a,[])
def El:W->W->W->B W
|(.s,_),_,_=>J
|(m,.dct a b),(_,k),(_,t)=>(keyT k).bind λq=>if decide (a.length<LIM)&&flatT t then Y (m,.dct (putT q t a b).1 (putT q t a b).2) else J
|_,_,_=>J
def dC:W->W->W->B W
|(.s,_),_,_=>J
|(m,.dct a b),(_,k),(_,t)=>(keyT k).bind λq=>if decide (a.length<LIM) then Y (.o .s,.dct (putT q t a b).1 (putT q t a b).2) else J
|_,_,_=>J
def EI:B T->NN
|some (.lst a)=>decide (a.length<LIM)
|_=>HU
def DL:B T->NN
|some (.tup ps)=>EI ps[4]?
|_=>HU
def kZ:B W->B W
|some (.d,.lst a)=>if DL a.getLast? then Y (.o .s,.lst<|a.map λ_=>.gone) else J
|_=>J
def sdfT:B W->B W->B W->B (W×W)
|some (.s,_),_,_=>J
|some (m,.dct a b),Y (_,.str x),Y (.s,t)=>if decide (a.length<LIM)=HV then Y (match lookD (.inr x) a b with
 |some u=>((.s,u),(m,.dct a b))
 |none=>((.s,t),(.o .s,.dct (putT (.inr x) t a b).1 (putT (.inr x) t a b).2))) else J
|_,_,_=>J
def cn:W->W->W->B W
|(.s,_),_,_=>J
|(m,.lst b),(_,.int a),(n,t)=>(ixN b.length a).map λk=>((m.kid.meet<|lf n t).up,.lst<|b.set k t)
|_,_,_=>J
def eV:B W->Res Unit
|some (_,.lst _)=>.ok ()
|_=>.no
def Gq:W->B (U W)
|(m,.tup a)=>Y<|a.map λt=>(m.kid,t)
|_=>J
def ret {b:Type}(c:Env)(o:B b):Res (b×Env):=match o with
|some a=>.ok (a,c)
|none=>.no
def onB {a:Type}:T->(Env->Res a)->(Env->Res a)->Env->Res a
|.bl HV,f,_,b=>f b
|.bl HU,_,g,b=>g b
|_,_,_,_=>.no
def onT {a:Type}(f g:Env->Res a)(p:W×Env):Res a:=match truth p.1.2 with
|some HV=>f p.2
|some HU=>g p.2
|none=>.no
def okW {b:Type}(a:b)(c:Env):Res (b×Env):=.ok (a,c)
def pw (p:U W×Env):RE:=.ok (((fR p.1).up,.tup<|trees p.1),p.2)
def qd (h:NN)(p:U W×Env):RE:=.ok ((if h then(fR p.1).up else .o .s,.lst<|trees p.1),p.2)
def kWk (m:Md)(p:W×Env):RE:=ret p.2<|if m.le p.1.1 then Y (m,p.1.2) else J
def kOp (o:Op)(h:NN)(p:U W×Env):RE:=ret p.2<|oSem o h p.1
def rO (f:Env->RE)(p:W×Env):RE:=onT f (okW p.1) p
def kOr (f:Env->RE)(p:W×Env):RE:=onT (okW p.1) f p
def sv (p:W×Env):RE:=ret p.2<|(truth p.1.2).map λb=>(.d,.bl<|!b)
def kC3 (q:Op)(y:W)(z:W×Env):RE:=ret z.2<|oSem q HU [y,z.1]
def x8 {a b:Type}(f:Env->Res (a×Env))(k:a×Env->Res b)(c:Env):Res b:=(f c).bind k
def kC2 (o q:Op)(a:Env->RE)(x:W)(y:W×Env):RE:=(ret y.2<|oSem o HU [x,y.1]).bind λk=>onB k.1.2 (x8 a<|kC3 q y.1) (okW (.d,.bl HU)) k.2
def kC1 (o q:Op)(a b:Env->RE)(x:W×Env):RE:=(a x.2).bind<|kC2 o q b x.1
def kBack (a:U O)(b:Env)(r:W×U W):RE:=.ok (r.1,putAll a r.2 b)
def kCall (C:Call)(f:O)(a:U O)(p:U W×Env):RE:=(C f p.1).bind<|kBack a p.2
noncomputable def ij (p:W×Env):Res (B W×Env):=.ok (Y p.1,p.2)
def fw (f:Env->RE)(a:Env):Res (B W×Env):=(f a).bind ij
def qh (c f:Env->RE)(a:Env):Res (B W×Env):=(c a).bind<|onT (fw f)<|okW J
def aQ (b:U O)(f:Env->Res (B W×Env)):U (U W)->Env->U W->Res (U W×Env)
|[],c,a=>.ok (a,c)
|e::r,c,a=>(ofO<|bindT b e c).bind λd=>(f d).bind λp=>aQ b f r (ax b p.2)<|a++p.1.toList
def okD (w:W):NN:=w.1==.d || w.2.leaf
def kz (h:NN)(q:U W×Env):RE:=ret q.2<|if h then(if q.1.all okD then Y (.d,.lst<|trees q.1) else J) else Y (.o .s,.lst<|trees q.1)
def d9 (h:NN)(k:Ik)(a:U O)(f:Env->Res (B W×Env))(p:U W×Env):RE:=(ret (ax a p.2)<|turns k p.1).bind λt=>(aQ a f t.1 t.2 []).bind<|kz h
noncomputable def kc (f:Env->Res (U W×Env))(a:Env)(k:U W×Env->RE)(_:Unit):RE:=(f a).bind k
def oH (i:O)(p:U W×Env):RE:=(ofO<|(rd p.2 i).bind λw=>j5 w p.1).bind λr=>.ok (r.1,put p.2 i r.2)
def kSdf (i:O)(a:Env)(r:W×W):RE:=.ok (r.1,put a i r.2)
def mR (w:W)(q:U W×Env):Res (U W×Env):=.ok (w::q.1,q.2)
def aY (f:Env->Res (U W×Env))(p:W×Env):Res (U W×Env):=(f p.2).bind<|mR p.1
def kTab {b:Type}(tab:U<|Str×b)(f:b->Env->RE)(p:W×Env):RE:=match p.1.2 with
|.str x=>match tab.lookup x with
 |some a=>f a p.2
 |none=>.no
|_=>.no
def kIn (a:NN)(b:U Str)(p:W×Env):RE:=match p.1.2 with
|.str x=>.ok ((.d,.bl<|b.contains x != a),p.2)
|_=>.no
def okS (t:T)(a:Env):RE:=.ok ((.s,t),a)
def kGet (tab:U<|Str×T)(p:W×Env):RE:=match p.1.2 with
|.str x=>.ok ((.s,(tab.lookup x).getD .non),p.2)
|_=>.no
def kX (a:U O)(b:Env)(p:W×Env):RE:=.ok ((lf p.1.1 p.1.2,p.1.2),after (lf p.1.1 p.1.2) a b)
def kIo (i:O)(p:U W×Env):Res (U W×Env):=(ofO<|rd p.2 i).bind λw=>.ok (w::p.1,del p.2 i)
section
variable (C:Call)
mutual
def evE:E->Env->RE
|.var i,η=>ret η<|(rd η i).bind look
|.mv i,η=>ret (del η i)<|rd η i
|.io i,η=>ret (del η i)<|rd η i
|.cst t,η=>.ok ((.d,t),η)
|.tup es,η=>(evL es η).bind pw
|.lst h es,η=>(evL es η).bind<|qd h
|.wk m e,η=>(evE e η).bind<|kWk m
|.op o h es,η=>(evL es η).bind<|kOp o h
|.and a b,η=>(evE a η).bind<|rO<|evE b
|.or a b,η=>(evE a η).bind<|kOr<|evE b
|.not a,η=>(evE a η).bind sv
|.ifx c a b,η=>(evE c η).bind<|onT (evE a)<|evE b
|.call f es,η=>(evA es η).bind<|kCall C f<|ios es
|.comp h k src tg J elt,η=>(evL src η).bind<|d9 h k tg<|fw<|evE elt
|.comp h k src tg (Y c) elt,η=>(evL src η).bind<|d9 h k tg<|qh (evE c)<|evE elt
|.pop i es,η=>(eV<|rd η i).bind<|kc (evL es) η<|oH i
|.sdf i j k,η=>(ofO<|sdfT (rd η i) (rd η j)<|rd η k).bind<|kSdf i η
|.inT neg ks e,η=>(evE e η).bind<|kIn neg ks
|.ixT tab e,η=>(evE e η).bind<|kTab tab okS
|.getT tab e,η=>(evE e η).bind<|kGet tab
def evL:U E->Env->Res (U W×Env)
|[],η=>.ok ([],η)
|e::es,η=>(evE e η).bind<|aY<|evL es
def evA:U E->Env->Res (U W×Env)
|[],η=>.ok ([],η)
|.io i::es,η=>(evA es η).bind<|kIo i
|e::es,η=>(evE e η).bind<|aY<|evA es
end
def kT (a:Env)(p:W×Env):Res (NN×Env):=ret a<|truth p.1.2
def kT2 (p:W×Env):Res (NN×Env):=ret p.2<|truth p.1.2
def evX:X->E->Env->RE
|.q a c,e,b=>(evE C e<|pick a c b).bind<|kX a b
|.l a,e,b=>evE C e<|share a b
def evT:X->E->Env->Res (NN×Env)
|.q b c,e,a=>(evE C e<|pick b c a).bind<|kT a
|.l b,e,a=>(evE C e<|share b a).bind kT2
def Fl.of {b:Type}(c:Env):Res b->(b->Fl)->Fl
|.ok a,f=>f a
|.ex _,_=>.no
|.no,_=>.no
noncomputable def Fl.seq:Fl->(Env->Fl)->Fl
|.nx a,f=>f a
|z,_=>z
noncomputable def Fl.turn:Fl->(Env->Fl)->Fl
|.nx a,f=>f a
|.bk a,_=>.nx a
|z,_=>z
noncomputable def onF:NN->(Env->Fl)->(Env->Fl)->Env->Fl
|true,f,_,a=>f a
|false,_,g,a=>g a
def forL (c:U O)(f:Env->Fl):U (U W)->Env->Fl
|[],a=>.nx a
|d::r,a=>Fl.of a (ofO<|bindT c d a) λb=>Fl.turn (f b)<|forL c f r
def kIf (f g:Env->Fl)(p:NN×Env):Fl:=onF p.1 f g p.2
def FQ (f:Env->Fl)(g:Env->Fl)(a:Env):Fl:=Fl.turn (f a) g
def nxO (a:Env):B Env->Fl
|some a=>.nx a
|none=>.no
def wo (i:O)(p:W×Env):Fl:=.nx<|put p.2 i p.1
def qa (i:O)(p:W×Env):Fl:=nxO p.2<|((rd p.2 i).bind λw=>gN w p.1).map λw=>put p.2 i w
def rH (i:O)(p:W×Env):Fl:=nxO p.2<|((rd p.2 i).bind λw=>gL w p.1).map λw=>put p.2 i w
def rX (i:O)(x:W)(q:W×Env):Fl:=nxO q.2<|((rd q.2 i).bind λw=>cn w q.1 x).map λw=>put q.2 i w
def tq (i:O)(x:W)(q:W×Env):Fl:=nxO q.2<|((rd q.2 i).bind λw=>El w q.1 x).map λw=>put q.2 i w
def DJ (i:O)(f:Env->RE)(a:Env)(p:W×Env):Fl:=Fl.of a (f p.2)<|tq i p.1
def lG (i:O)(x:W)(q:W×Env):Fl:=nxO q.2<|((rd q.2 i).bind λw=>dC w q.1 x).map λw=>put q.2 i w
def ma (i:O)(f:Env->RE)(a:Env)(p:W×Env):Fl:=Fl.of a (f p.2)<|lG i p.1
def vK (i:O)(f:Env->RE)(a:Env)(p:W×Env):Fl:=Fl.of a (f p.2)<|rX i p.1
noncomputable def kG (f:Env->RE)(a:Env)(k:W×Env->Fl)(_:Unit):Fl:=Fl.of a (f a) k
def kNx (p:W×Env):Fl:=.nx p.2
def kRt (p:W×Env):Fl:=.rt p.1 p.2
def kFor2 (a:U O)(f:Env->Fl)(t:U (U W)×Env):Fl:=forL a f t.1 t.2
def kFor (c:U O)(k:Ik)(b:U O)(f:Env->Fl)(a:Env)(p:U W×Env):Fl:=Fl.of a (ret (share c a)<|turns k p.1)<|kFor2 b f
def xV (k:W->Env->Fl)(a:Env):Res (W×U W)->Fl
|.ok (w,[])=>k w a
|.ex t=>.ex t a
|_=>.no
def kC (f:O)(k:W->Env->Fl)(p:U W×Env):Fl:=xV k p.2<|C f p.1
def FA (i:O)(w:W)(a:Env):Fl:=.nx<|put a i w
def EL (_:W)(a:Env):Fl:=.nx a
def lh (c:O)(fld:Str)(a:O)(p:W×Env):Fl:=if qY a p.1.1 p.1.2=HV then .ex (.ins c [fld] [p.1.2]) p.2 else .no
def Fl.drop (i:O):Fl->Fl
|.nx a=>.nx<|del a i
|.rt w a=>.rt w<|del a i
|_=>.no
def Fl.caught (cs:U O)(i:O)(h:Env->Fl):Fl->Fl
|.ex (.ins c fs a) b=>if cs.contains c=HV then Fl.drop i (h<|put b i (.s,.ins c fs a)) else .no
|.ex _ _=>.no
|z=>z
mutual
def evS:S->Env->Fl
|.asg x i e,η=>Fl.of η (evX C x e η)<|wo i
|.setI x i k e,η=>Fl.of η (evX C x e η)<|vK i (evX C x k) η
|.setS x i k e,η=>Fl.of η (evX C x e η)<|ma i (evX C x k) η
|.apG i,η=>nxO η<|(kZ<|rd η i).map λw=>put η i w
|.exp x e,η=>Fl.of η (evX C x e η) kNx
|.app x i e,η=>Fl.of η (eV<|rd η i)<|kG (evX C x e) η<|qa i
|.ext x i e,η=>Fl.of η (eV<|rd η i)<|kG (evX C x e) η<|rH i
|.ret vs e,η=>Fl.of η (evE C e<|share vs η) kRt
|.ite x c a b,η=>Fl.of η (evT C x c η)<|kIf (evSs a)<|evSs b
|.forS vs ls k src tg body,η=>Fl.of η (evL C src<|pick vs ls η)<|kFor vs k tg (evSs body) η
|.brk,η=>.bk η
|.pas,η=>.nx η
|.stop,_=>.no
|.tri body,η=>evSs body η
|.raise c fld fk x e,η=>Fl.of η (evX C x e η)<|lh c fld fk
def evSs:U S->Env->Fl
|[],η=>.nx η
|s::r,η=>Fl.seq (evS s η)<|evSs r
end
end
def backs:U O->Env->B (U W)
|[],_=>Y []
|i::b,a=>(rd a i).bind λw=>(backs b a).bind λc=>Y (w::c)
def rh (w:W)(b:U W):Res (W×U W):=.ok (w,b)
def Fl.out (b:U O):Fl->Res (W×U W)
|.nx a=>(ofO<|backs b a).bind<|rh (.d,.non)
|.rt w a=>(ofO<|backs b a).bind<|rh w
|.ex t _=>.ex t
|_=>.no
def runF (C:Call)(f:Fn)(a:U W):Res (W×U W):=
 if a.length=f.ps then Fl.out f.io (evSs C f.body<|a.map Y++Iu f.ns J) else .no
abbrev Gp:=U Fn
def AO (n:O):U W->Res (W×U W)
|[(m,t)]=>if(lf m t==.d&&(decide (dp t<=n)&&decide (dp t<=64)))=HV then .ok ((.d,.non),[]) else .no
|_=>.no
def yF:U O->U T->U T
|[],_=>[]
|n::b,a=>.lst (a.take n)::yF b (a.drop n)
noncomputable def pb:U T->B (U O)
|[]=>Y []
|.int (.ofNat n)::a=>(pb a).map (n::·)
|_::_=>J
def FL:U W->Res (W×U W)
|[(_,.lst a),(m,.lst c)]=>(ofO<|pb a).bind λb=>.ok ((m.kid.up.up,.lst<|yF b c),[])
|_=>.no
def callR (P:Gp)(s r:O):O->Call
|0=>λ_ _=>.no
|n+1=>λf a=>if f=s then AO n a else if f=r then FL a else(ofO P[f]?).bind λd=>runF (callR P s r n) d a
abbrev zf:Fn:={ps:=0,ns:=0,io:=[],body:=[.stop]}
theorem zf_no (C:Call)(a:U W):runF C zf a=.no:=by cases a<;>rfl
theorem zr (C:Call)(i:O)(a:Env):evE C (.var i) a=ret a ((rd a i).bind look):=rfl
theorem BM (C:Call)(i:O)(a:Env):evE C (.mv i) a=ret (del a i) (rd a i):=rfl
theorem CY (C:Call)(i:O)(a:Env):evE C (.io i) a=ret (del a i) (rd a i):=rfl
theorem Ck (C:Call)(t:T)(a:Env):evE C (.cst t) a=.ok ((.d,t),a):=rfl
theorem zU (C:Call)(a:U E)(b:Env):evE C (.tup a) b=(evL C a b).bind pw:=rfl
theorem yY (C:Call)(h:NN)(a:U E)(b:Env):evE C (.lst h a) b=(evL C a b).bind (qd h):=rfl
theorem Bg (C:Call)(m:Md)(e:E)(a:Env):evE C (.wk m e) a=(evE C e a).bind (kWk m):=rfl
theorem zx (C:Call)(o:Op)(h:NN)(a:U E)(b:Env):evE C (.op o h a) b=(evL C a b).bind (kOp o h):=rfl
theorem xi (C:Call)(a:E)(b:E)(c:Env):evE C (.and a b) c=(evE C a c).bind (rO<|evE C b):=rfl
theorem xt (C:Call)(a:E)(b:E)(c:Env):evE C (.or a b) c=(evE C a c).bind (kOr<|evE C b):=rfl
theorem vg (C:Call)(a:E)(b:Env):evE C (.not a) b=(evE C a b).bind sv:=rfl
theorem xq (C:Call)(c:E)(a:E)(b:E)(d:Env):evE C (.ifx c a b) d=(evE C c d).bind (onT (evE C a)<|evE C b):=rfl
theorem xU (C:Call)(f:O)(a:U E)(b:Env):evE C (.call f a) b=(evA C a b).bind (kCall C f<|ios a):=rfl
theorem wD (C:Call)(h:NN)(k:Ik)(b:U E)(c:U O)(a:E)(d:Env):evE C (.comp h k b c J a) d=(evL C b d).bind (d9 h k c<|fw<|evE C a):=rfl
theorem vQ (C:Call)(h:NN)(k:Ik)(b:U E)(d:U O)(c:E)(a:E)(e:Env):evE C (.comp h k b d (Y c) a) e=(evL C b e).bind (d9 h k d<|qh (evE C c)<|evE C a):=rfl
theorem uK (C:Call)(i:O)(b:U E)(a:Env):evE C (.pop i b) a=(eV<|rd a i).bind (kc (evL C b) a<|oH i):=rfl
theorem n5 (C:Call)(a:NN)(b:U Str)(e:E)(c:Env):evE C (.inT a b e) c=(evE C e c).bind (kIn a b):=rfl
theorem nF (C:Call)(tab:U<|Str×T)(e:E)(a:Env):evE C (.ixT tab e) a=(evE C e a).bind (kTab tab okS):=rfl
theorem lJ (C:Call)(tab:U<|Str×T)(e:E)(a:Env):evE C (.getT tab e) a=(evE C e a).bind (kGet tab):=rfl
theorem nM (C:Call)(a:NN)(c:U Str)(e:E)(b:U E)(d:Env):evA C (.inT a c e::b) d=(evE C (.inT a c e) d).bind (aY<|evA C b):=rfl
theorem ox (C:Call)(tab:U<|Str×T)(e:E)(a:U E)(b:Env):evA C (.ixT tab e::a) b=(evE C (.ixT tab e) b).bind (aY<|evA C a):=rfl
theorem lj (C:Call)(tab:U<|Str×T)(e:E)(a:U E)(b:Env):evA C (.getT tab e::a) b=(evE C (.getT tab e) b).bind (aY<|evA C a):=rfl
theorem Bm {b:Type}(tab:U<|Str×b)(f:b->Env->RE)(m:Md)(x:Str)(c:Env):kTab tab f ((m,.str x),c)=(match tab.lookup x with|some a=>f a c | none=>.no):=rfl
theorem C2 (h:NN)(m n:Md)(a:U T)(i:j):oSem .sl2 h [(m,.lst a),(n,.int i)]=newL h m.kid (cut a J<|Y i):=rfl
theorem zN (h:NN)(m n:Md)(a:U T)(i:j):oSem .sl1 h [(m,.lst a),(n,.int i)]=newL h m.kid (cut a (Y i) J):=rfl
theorem yZ (h:NN)(m n:Md)(a:U T)(k:j):oSem .mul h [(m,.lst a),(n,.int k)]=if decide (k.natAbs<4611686018427387904)&&fits (a.length * k.toNat) then newL h .s (Iu k.toNat a).flatten else none:=rfl
theorem EU (m:Md)(a:U T):turns .enm [(m,.lst a)]=Y (cH .s 0 a):=rfl
theorem vL (m n:Md)(a b:U T):turns .zip [(m,.lst a),(n,.lst b)]=Y (cV .s .s a b):=rfl
theorem xR (m n:Md)(a b:U T):turns .zip [(m,.tup a),(n,.tup b)]=Y (cV .s .s a b):=rfl
def lkM:Md->Md
|.s=>.s|_=>.d
theorem Hh:lkM .s=.s:=rfl
theorem F7:lkM .d=.d:=rfl
theorem Gk (m:Md):lkM (.o m)=.d:=rfl
theorem En (m:Md)(i:j):look (m,.int i)=Y (lkM m,.int i):=by cases m<;>rfl
theorem F4 (m:Md)(b:NN):look (m,.bl b)=Y (lkM m,.bl b):=by cases m<;>rfl
theorem FY (m:Md)(x:Str):look (m,.str x)=Y (lkM m,.str x):=by cases m<;>rfl
theorem FZ (m:Md):look (m,.non)=Y (lkM m,.non):=by cases m<;>rfl
theorem CP (m n k:Md)(a b c:U T):turns .zip3 [(m,.lst a),(n,.lst b),(k,.lst c)]=Y (qg a b c):=rfl
theorem Gg (a:NN)(b:U Str)(m:Md)(x:Str)(c:Env):kIn a b ((m,.str x),c)=.ok ((.d,.bl<|b.contains x != a),c):=rfl
theorem DX (tab:U<|Str×T)(m:Md)(x:Str)(a:Env):kGet tab ((m,.str x),a)=.ok ((.s,(tab.lookup x).getD .non),a):=rfl
theorem B7 (C:Call)(a:Env):evA C [] a=.ok ([],a):=rfl
theorem zO (C:Call)(i:O)(a:U E)(b:Env):evA C (.io i::a) b=(evA C a b).bind (kIo i):=rfl
theorem nX (C:Call)(i:O)(a:U E)(b:Env):evA C (.var i::a) b=(evE C (.var i) b).bind (aY<|evA C a):=rfl
theorem pd (C:Call)(i:O)(a:U E)(b:Env):evA C (.mv i::a) b=(evE C (.mv i) b).bind (aY<|evA C a):=rfl
theorem nY (C:Call)(t:T)(a:U E)(b:Env):evA C (.cst t::a) b=(evE C (.cst t) b).bind (aY<|evA C a):=rfl
theorem oA (C:Call)(l:U E)(a:U E)(b:Env):evA C (.tup l::a) b=(evE C (.tup l) b).bind (aY<|evA C a):=rfl
theorem nu (C:Call)(h:NN)(l:U E)(a:U E)(b:Env):evA C (.lst h l::a) b=(evE C (.lst h l) b).bind (aY<|evA C a):=rfl
theorem qt (C:Call)(o:Op)(h:NN)(l:U E)(a:U E)(b:Env):evA C (.op o h l::a) b=(evE C (.op o h l) b).bind (aY<|evA C a):=rfl
theorem sU (C:Call)(m:Md)(e:E)(a:U E)(b:Env):evA C (.wk m e::a) b=(evE C (.wk m e) b).bind (aY<|evA C a):=rfl
theorem nI (C:Call)(a b:E)(c:U E)(d:Env):evA C (.and a b::c) d=(evE C (.and a b) d).bind (aY<|evA C c):=rfl
theorem qp (C:Call)(a b:E)(c:U E)(d:Env):evA C (.or a b::c) d=(evE C (.or a b) d).bind (aY<|evA C c):=rfl
theorem oN (C:Call)(a:E)(b:U E)(c:Env):evA C (.not a::b) c=(evE C (.not a) c).bind (aY<|evA C b):=rfl
theorem ni (C:Call)(c a b:E)(d:U E)(e:Env):evA C (.ifx c a b::d) e=(evE C (.ifx c a b) e).bind (aY<|evA C d):=rfl
theorem kM (C:Call)(f:O)(l:U E)(a:U E)(b:Env):evA C (.call f l::a) b=(evE C (.call f l) b).bind (aY<|evA C a):=rfl
theorem ll (C:Call)(h:NN)(k:Ik)(c:U E)(e:U O)(a:B E)(b:E)(d:U E)(f:Env):evA C (.comp h k c e a b::d) f=(evE C (.comp h k c e a b) f).bind (aY<|evA C d):=rfl
theorem m8 (C:Call)(i:O)(l:U E)(a:U E)(b:Env):evA C (.pop i l::a) b=(evE C (.pop i l) b).bind (aY<|evA C a):=rfl
theorem Ax {C:Call}{e:E}{a:U E}{b:Env}(c:∀i,e≠.io i):evA C (e::a) b=(evE C e b).bind (aY<|evA C a):=by
 cases e with
 |io i=>exact NP rfl (c i)
 |_=>rfl
theorem wV (C:Call)(a:Env):evL C ([]) a=.ok ([],a):=rfl
theorem v7 (C:Call)(e:E)(a:U E)(b:Env):evL C (e::a) b=(evE C e b).bind (aY<|evL C a):=rfl
theorem xf (C:Call)(x:X)(i:O)(e:E)(a:Env):evS C (.asg x i e) a=Fl.of a (evX C x e a) (wo i):=rfl
theorem wN (C:Call)(x:X)(i:O)(k:E)(e:E)(a:Env):evS C (.setI x i k e) a=Fl.of a (evX C x e a) (vK i (evX C x k) a):=rfl
theorem vU (C:Call)(x:X)(e:E)(a:Env):evS C (.exp x e) a=Fl.of a (evX C x e a) kNx:=rfl
theorem uF (C:Call)(x:X)(i:O)(e:E)(a:Env):evS C (.app x i e) a=Fl.of a (eV<|rd a i) (kG (evX C x e) a<|qa i):=rfl
theorem xH (C:Call)(x:X)(i:O)(e:E)(a:Env):evS C (.ext x i e) a=Fl.of a (eV<|rd a i) (kG (evX C x e) a<|rH i):=rfl
theorem v9 (C:Call)(b:U O)(e:E)(a:Env):evS C (.ret b e) a=Fl.of a (evE C e<|share b a) kRt:=rfl
theorem xu (C:Call)(x:X)(c:E)(a:U S)(b:U S)(d:Env):evS C (.ite x c a b) d=Fl.of d (evT C x c d) (kIf (evSs C a)<|evSs C b):=rfl
theorem vW (C:Call)(d:U O)(e:U O)(k:Ik)(b:U E)(f:U O)(a:U S)(c:Env):evS C (.forS d e k b f a) c=Fl.of c (evL C b<|pick d e c) (kFor d k f (evSs C a) c):=rfl
theorem wz (C:Call)(a:Env):evS C (.brk) a=.bk a:=rfl
theorem xa (C:Call)(a:Env):evS C (.pas) a=.nx a:=rfl
theorem rY (C:Call)(a:Env):evSs C ([]) a=.nx a:=rfl
theorem j1 (C:Call)(s:S)(r:U S)(a:Env):evSs C (s::r) a=Fl.seq (evS C s a) (evSs C r):=rfl
theorem w8 (C:Call)(a:U O)(c:U O)(e:E)(b:Env):evX C (.q a c) e b=(evE C e<|pick a c b).bind (kX a b):=rfl
theorem wH (C:Call)(a:U O)(e:E)(b:Env):evX C (.l a) e b=evE C e (share a b):=rfl
theorem v5 (C:Call)(c:U O)(b:U O)(e:E)(a:Env):evT C (.q c b) e a=(evE C e<|pick c b a).bind (kT a):=rfl
theorem uD (C:Call)(a:U O)(e:E)(b:Env):evT C (.l a) e b=(evE C e<|share a b).bind kT2:=rfl
theorem Bv {b c:Type}(a:b)(f:b->Res c):(Res.ok a).bind f=f a:=rfl
theorem Gj {b:Type}(c:Env)(a:b)(f:b->Fl):Fl.of c (.ok a) f=f a:=rfl
theorem AD (a:Env)(f:Env->Fl):Fl.seq (.nx a) f=f a:=rfl
theorem Ao (w:W)(a:Env)(f:Env->Fl):Fl.seq (.rt w a) f=.rt w a:=rfl
theorem yP (a:Env)(f:Env->Fl):Fl.seq (.bk a) f=.bk a:=rfl
theorem uU (a:Env)(f:Env->Fl):Fl.turn (.nx a) f=f a:=rfl
theorem uC (w:W)(a:Env)(f:Env->Fl):Fl.turn (.rt w a) f=.rt w a:=rfl
theorem xC (a:Env)(f:Env->Fl):Fl.turn (.bk a) f=.nx a:=rfl
theorem ze {b:Type}(f g:Env->Res b)(a:Env):onB (.bl HV) f g a=f a:=rfl
theorem y8 {b:Type}(f g:Env->Res b)(a:Env):onB (.bl HU) f g a=g a:=rfl
theorem CA {c:Type}(f g:Env->Res c)(m:Md)(b:NN)(a:Env):onT f g ((m,.bl b),a)=onB (.bl b) f g a:=by cases b<;>rfl
theorem zq {b:Type}(f g:Env->Res b)(m:Md)(a:Env):onT f g ((m,.bl HV),a)=f a:=rfl
theorem AW {b:Type}(f g:Env->Res b)(m:Md)(a:Env):onT f g ((m,.bl HU),a)=g a:=rfl
theorem BL (f g:Env->Fl)(a:Env):onF HV f g a=f a:=rfl
theorem CQ (f g:Env->Fl)(a:Env):onF HU f g a=g a:=rfl
theorem EN {b:Type}(a:b):ofO (Y a)=.ok a:=rfl
theorem DW {c:Type}(b:Env)(a:c):ret b (Y a)=.ok (a,b):=rfl
theorem ED (o:B W)(a:Env):rd (o::a) 0=o:=rfl
theorem C4 (o:B W)(a:Env)(i:O):rd (o::a) (i+1)=rd a i:=rfl
theorem EE (o w:B W)(a:Env):wr (o::a) 0 w=w::a:=rfl
theorem Fu (o w:B W)(a:Env)(i:O):wr (o::a) (i+1) w=o::wr a i w:=rfl
theorem vp (t:T):look (.s,t)=Y (.s,t):=rfl
theorem ai (t:T):look (.d,t)=if t.leaf=HV then Y (.d,t) else none:=rfl
theorem vo (m:Md)(i:j):(look (.d,.int i))=Y (.d,.int i):=rfl
theorem uN (m:Md)(b:NN):(look (.d,.bl b))=Y (.d,.bl b):=rfl
theorem vj (x:Str):(look (.d,.str x))=Y (.d,.str x):=rfl
theorem xB:(look (.d,.non))=Y (.d,.non):=rfl
theorem Dd (m:Md)(t:T):toS (Y (m,t))=Y (.s,t):=rfl
theorem Bl:toS J=none:=rfl
theorem sC (a:Env):share [] a=a:=rfl
theorem sE (i:O)(b:U O)(a:Env):share (i::b) a=share b (wr a i<|toS<|rd a i):=rfl
theorem sD:fE []=[]:=rfl
theorem tP (o:B W)(a:Env):fE (o::a)=none::fE a:=rfl
theorem zW (c b:U O)(a:Env):pick c b a=gn b a (ly c a<|fE a):=rfl
theorem vP (a b:Env):ly [] a b=b:=rfl
theorem wt (i:O)(b:U O)(a c:Env):ly (i::b) a c=ly b a (wr c i<|toS<|rd a i):=rfl
theorem q9 (a b:Env):gn [] a b=b:=rfl
theorem uh (i:O)(b:U O)(a c:Env):gn (i::b) a c=gn b a (wr c i<|lfO<|rd a i):=rfl
theorem FF (m:Md)(i:j):lfO (Y (m,.int i))=Y (.d,.int i):=rfl
theorem DG (m:Md)(b:NN):lfO (Y (m,.bl b))=Y (.d,.bl b):=rfl
theorem DA (m:Md)(x:Str):lfO (Y (m,.str x))=Y (.d,.str x):=rfl
theorem Dh (m:Md):lfO (Y (m,.non))=Y (.d,.non):=rfl
theorem uf (b:U O)(a:Env):after .d b a=a:=rfl
theorem pE (a:U O)(b:Env):after .s a b=share a b:=rfl
theorem r8 (m:Md)(a:U O)(b:Env):after (.o m) a b=share a b:=rfl
theorem Bw (m:Md)(i:j):lf m (.int i)=.d:=rfl
theorem zS (m:Md)(b:NN):lf m (.bl b)=.d:=rfl
theorem zT (m:Md)(x:Str):lf m (.str x)=.d:=rfl
theorem BP (m:Md):lf m .non=.d:=rfl
theorem BI (m:Md)(a:U T):lf m (.lst a)=m:=rfl
theorem Cq (m:Md)(a:U T):lf m (.tup a)=m:=rfl
theorem CJ (t:T):lf .d t=.d:=by unfold lf;split<;>rfl
theorem zQ (m:Md):Md.s.le m=true:=by cases m<;>rfl
theorem wg:Md.d.le .d=true:=rfl
theorem xl (m:Md):(Md.o m).le .d=true:=rfl
theorem uz (m n:Md):(Md.o m).le (.o n)=m.le n:=rfl
theorem Ag (h:NN)(m n:Md)(i a:j):oSem .add h [(m,.int i),(n,.int a)]=Y (.d,.int<|i+a):=rfl
theorem ua (h:NN)(m n:Md)(a b:U T):oSem .add h [(m,.lst a),(n,.lst b)]=if fits (a.length+b.length) then newL h (m.kid.meet n.kid) (a++b) else none:=rfl
theorem qJ (h:NN)(m n:Md)(x y:Str):oSem .add h [(m,.str x),(n,.str y)]=if fits (x.cps.size+y.cps.size) then Y (.d,.str<|x++y) else none:=rfl
theorem qv (h:NN)(m n:Md)(a b:U T):oSem .add h [(m,.tup a),(n,.tup b)]=if fits (a.length+b.length)&&!a.isEmpty then Y (.s,.tup<|a++b) else none:=rfl
theorem Eh (h:NN)(m n:Md)(i a:j):oSem .sub h [(m,.int i),(n,.int a)]=Y (.d,.int<|i-a):=rfl
theorem tF (h:NN)(m n:Md)(i a:j):oSem .mul h [(m,.int i),(n,.int a)]=if(decide (i.natAbs<18446744073709551616)) || (decide (a.natAbs<18446744073709551616)) then Y (.d,.int<|i * a) else none:=rfl
theorem Bq (h:NN)(m n:Md)(i a:j):oSem .fdiv h [(m,.int i),(n,.int a)]=if decide (0<a)&&decide (a<1073741824) then Y (.d,.int<|i / a) else none:=rfl
theorem yp (h:NN)(m n:Md)(i a:j):oSem .mod h [(m,.int i),(n,.int a)]=if decide (0<a) then Y (.d,.int<|i % a) else none:=rfl
theorem EB (h:NN)(m n:Md)(i a:j):oSem .pow h [(m,.int i),(n,.int a)]=if decide (0<=a)&&decide (a<=1000000)&&decide (i.natAbs<18446744073709551616) then Y (.d,.int<|i ^ a.toNat) else none:=rfl
theorem CN (h:NN)(m n:Md)(i a:j):oSem .eq h [(m,.int i),(n,.int a)]=Y (.d,.bl<|i==a):=rfl
theorem Aq (h:NN)(m n:Md)(x y:Str):oSem .eq h [(m,.str x),(n,.str y)]=Y (.d,.bl<|x==y):=rfl
theorem Au (h:NN)(m n:Md)(a b:NN):oSem .eq h [(m,.bl a),(n,.bl b)]=Y (.d,.bl<|a==b):=rfl
theorem zw (h:NN)(m n:Md)(i a:j):oSem .ne h [(m,.int i),(n,.int a)]=Y (.d,.bl<|!(i==a)):=rfl
theorem Bf (h:NN)(m n:Md)(x y:Str):oSem .ne h [(m,.str x),(n,.str y)]=Y (.d,.bl<|!(x==y)):=rfl
theorem zy (h:NN)(m n:Md)(a b:NN):oSem .ne h [(m,.bl a),(n,.bl b)]=Y (.d,.bl<|!(a==b)):=rfl
theorem GX (h:NN)(m n:Md)(i a:j):oSem .lt h [(m,.int i),(n,.int a)]=Y (.d,.bl<|decide (i<a)):=rfl
theorem HJ (h:NN)(m n:Md)(i a:j):oSem .le h [(m,.int i),(n,.int a)]=Y (.d,.bl<|decide (i<=a)):=rfl
theorem GR (h:NN)(m n:Md)(i a:j):oSem .gt h [(m,.int i),(n,.int a)]=Y (.d,.bl<|decide (a<i)):=rfl
theorem GO (h:NN)(m n:Md)(i a:j):oSem .ge h [(m,.int i),(n,.int a)]=Y (.d,.bl<|decide (a<=i)):=rfl
theorem GV (h:NN)(m n:Md)(a:T):oSem .is h [(m,a),(n,.non)]=if a.isG then J else Y (.d,.bl a.isN):=rfl
theorem uX (h:NN)(m n:Md)(a:T):oSem .isnot h [(m,a),(n,.non)]=if a.isG then J else Y (.d,.bl<|!a.isN):=rfl
theorem D3 (h:NN)(m n:Md)(a:U T)(i:j):oSem .ix h [(m,.lst a),(n,.int i)]=(atI a i).map λt=>(m.kid,t):=rfl
theorem EJ (h:NN)(m n:Md)(a:U T)(i:j):oSem .ix h [(m,.tup a),(n,.int i)]=(atI a i).map λt=>(m.kid,t):=rfl
theorem Az (h:NN)(m:Md)(a:U T):oSem .len h [(m,.lst a)]=Y (.d,.int a.length):=rfl
theorem Bx (h:NN)(m:Md)(a:U T):oSem .len h [(m,.tup a)]=Y (.d,.int a.length):=rfl
theorem Bi (h:NN)(m:Md)(a:U j):oSem .len h [(m,.scr a)]=Y (.d,.int a.length):=rfl
theorem FN (h:NN)(m n:Md)(a:U j)(i:j):oSem .ix h [(m,.scr a),(n,.int i)]=(atI a i).map λn=>(.d,.int n):=rfl
theorem Ec (h:NN)(m n:Md)(a:U j)(i:j):oSem .sl2 h [(m,.scr a),(n,.int i)]=Y (.d,.lst<|(cut a J<|Y i).map T.int):=rfl
theorem zo (m:Md)(a:U j):lf m (.scr a)=.d:=rfl
theorem Dt (m:Md)(a:U j):lfO (Y (m,.scr a))=Y (.d,.scr a):=rfl
theorem xT (a:U j):look (.d,.scr a)=Y (.d,.scr a):=rfl
theorem Ak (h:NN)(m:Md)(x:Str):oSem .len h [(m,.str x)]=Y (.d,.int x.cps.size):=rfl
theorem zG (fld g:Str)(c:O)(h:NN)(m:Md)(a:U T):oSem (.att fld) h [(m,.ins c [g] [.tup a])]=if(g==fld)=HV then Y (.s,.tup a) else none:=rfl
theorem zM (fld g:Str)(c:O)(h:NN)(m:Md)(x:Str):oSem (.att fld) h [(m,.ins c [g] [.str x])]=if(g==fld)=HV then Y (.d,.str x) else none:=rfl
theorem GP (c:O)(fld:Str)(a:O)(h:NN)(m:Md)(t:T):oSem (.mk c fld a) h [(m,t)]=if qY a m t=HV then Y (.s,.ins c [fld] [t]) else none:=rfl
theorem ES (fld g:Str)(c:O)(h:NN)(m:Md)(n:j):oSem (.att fld) h [(m,.ins c [g] [.int n])]=if(g==fld)=HV then Y (.d,.int n) else none:=rfl
theorem EZ (cs:U NU)(h:NN)(m:Md)(a:T):oSem (.isI cs) h [(m,a)]=if a.isH then J else Y (.d,.bl<|cs.any λc=>isOne c a):=rfl
theorem D4 (c:O)(fs:U Str)(a:U T):T.isG (.ins c fs a)=false:=rfl
theorem Fe (c:O)(fs:U Str)(a:U T):T.isN (.ins c fs a)=false:=rfl
theorem FE:T.isH .non=false:=rfl
theorem Hd (b:NN):T.isH (.bl b)=false:=rfl
theorem EA (i:j):T.isH (.int i)=false:=rfl
theorem Ea (x:Str):T.isH (.str x)=false:=rfl
theorem FG (a:U T):T.isH (.tup a)=false:=rfl
theorem EC (a:U T):T.isH (.lst a)=false:=rfl
theorem Ff (a:U j):T.isH (.scr a)=false:=rfl
theorem Fz:T.isG .non=false:=rfl
theorem GL (b:NN):T.isG (.bl b)=false:=rfl
theorem DI (i:j):T.isG (.int i)=false:=rfl
theorem Ft (x:Str):T.isG (.str x)=false:=rfl
theorem Fh (a:U T):T.isG (.tup a)=false:=rfl
theorem DN (a:U T):T.isG (.lst a)=false:=rfl
theorem Ef (a:U<|j ⊕ Str)(b:U T):T.isG (.dct a b)=false:=rfl
theorem D5 (a:U<|j ⊕ Str)(b:U T):T.isN (.dct a b)=false:=rfl
theorem DU (a:U j):T.isG (.scr a)=false:=rfl
theorem DQ:T.isN .non=true:=rfl
theorem HQ (b:NN):T.isN (.bl b)=false:=rfl
theorem Ex (i:j):T.isN (.int i)=false:=rfl
theorem DY (x:Str):T.isN (.str x)=false:=rfl
theorem FH (a:U T):T.isN (.tup a)=false:=rfl
theorem Ed (a:U T):T.isN (.lst a)=false:=rfl
theorem vd (h:NN)(m:Md)(a:U T):oSem .list h [(m,.lst a)]=newL h m.kid a:=rfl
theorem wZ (h:NN)(m:Md)(a:U T):oSem .list h [(m,.tup a)]=newL h m.kid a:=rfl
theorem Cu (h:NN)(m n:Md)(a:T)(b:U T):oSem .isin h [(m,a),(n,.tup b)]=if flatT a&&b.all flatT then Y (.d,.bl<|b.any λt=>eqT t a) else none:=rfl
theorem vc (h:NN)(m n:Md)(a:T)(b:U T):oSem .isin h [(m,a),(n,.lst b)]=if flatT a&&b.all flatT then Y (.d,.bl<|b.any λt=>eqT t a) else none:=rfl
theorem xo (h:NN)(m:Md)(x:Str):oSem .lower h [(m,.str x)]=if x.cps.toList.all (λc=>decide (c<128)) then Y (.d,.str ⟨x.cps.map F6⟩) else none:=rfl
theorem Cb (h:NN)(m n:Md)(a b:U T):oSem .catT h [(m,.tup a),(n,.tup b)]=if fits (a.length+b.length) then Y (.s,.tup<|a++b) else none:=rfl
theorem Fj (h:NN)(n:Md)(a:U<|j ⊕ Str)(b:U T)(k:T):oSem .ixD h [(.s,.dct a b),(n,k)]=(keyT k).bind λq=>(lookD q a b).map λt=>(.s,t):=rfl
theorem An (tab:U<|Str×j)(h:NN)(m n:Md)(x:Str)(d:j):oSem (.getI tab) h [(m,.str x),(n,.int d)]=Y (.d,.int<|(tab.lookup x).getD d):=rfl
theorem BD (h:NN)(n:Md)(a:U<|j ⊕ Str)(b:U T)(k:T):oSem .getD h [(.s,.dct a b),(n,k)]=(keyT k).map λq=>(.s,(lookD q a b).getD .non):=rfl
theorem E8 (h:NN)(n:Md)(a:U<|j ⊕ Str)(b:U T)(k:T):oSem .inD h [(n,k),(.s,.dct a b)]=(keyT k).map λq=>(.d,.bl (lookD q a b).isSome):=rfl
theorem Bb (h:NN)(m n:Md)(x:Str)(t:T):oSem .dsp1 h [(m,.str x),(n,t)]=Y (.o .s,.dct [.inr x] [t]):=rfl
theorem nH (C:Call)(i a k:O)(b:Env):evE C (.sdf i a k) b=(ofO<|sdfT (rd b i) (rd b a)<|rd b k).bind (kSdf i b):=rfl
theorem oo (C:Call)(i a k:O)(b:U E)(c:Env):evA C (.sdf i a k::b) c=(evE C (.sdf i a k) c).bind (aY<|evA C b):=rfl
theorem lC (C:Call)(x:X)(i:O)(k e:E)(a:Env):evS C (.setS x i k e) a=Fl.of a (evX C x e a) (ma i (evX C x k) a):=rfl
theorem BG (h:NN):oSem .dnew h []=Y (.d,.dct [] []):=rfl
theorem AA (m:Md)(a:U T):turns .enmT [(m,.tup a)]=Y (cH .s 0 a):=rfl
theorem Cz (h:NN)(m n:Md)(z:Str)(b:U T):oSem .join h [(m,.str z),(n,.lst b)]=(strsOf b).bind λa=>if sOk (Str.join z a)&&decide ((a.map λs=>s.cps.size+z.cps.size).sum<=LIM) then Y (.d,.str<|Str.join z a) else none:=rfl
theorem vT (h:NN)(m n:Md)(z y:Str):oSem .split h [(m,.str z),(n,.str y)]=if(y==Str.ofString " ")&&decide (z.cps.size+2<=LIM)&&(splS z).all sOk then Y (.d,.lst<|(splS z).map T.str) else none:=rfl
theorem j3 (C:Call)(c:O)(fld:Str)(b:O)(x:X)(e:E)(a:Env):evS C (.raise c fld b x e) a=Fl.of a (evX C x e a) (lh c fld b):=rfl
theorem GZ (C:Call)(f:O)(k:W->Env->Fl)(a:U W)(b:Env):kC C f k (a,b)=xV k b (C f a):=rfl
theorem BQ (k:W->Env->Fl)(a:Env)(w:W):xV k a (.ok (w,[]))=k w a:=rfl
theorem B6 (k:W->Env->Fl)(a:Env)(t:T):xV k a (.ex t)=.ex t a:=rfl
theorem vk (i:O)(w:W)(a:Env):FA i w a=.nx (put a i w):=rfl
theorem wC (w:W)(a:Env):EL w a=.nx a:=rfl
theorem tj (c:O)(fld:Str)(m:Md)(n:j)(a:Env):lh c fld 0 ((m,.int n),a)=if decide (n.natAbs.log2<1920)=HV then .ex (.ins c [fld] [.int n]) a else .no:=rfl
theorem um (cs:U O)(i:O)(h:Env->Fl)(c:O)(fs:U Str)(a:U T)(b:Env):Fl.caught cs i h (.ex (.ins c fs a) b)=if cs.contains c=HV then Fl.drop i (h<|put b i (.s,.ins c fs a)) else .no:=rfl
theorem oQ (cs:U O)(i:O)(h:Env->Fl)(a:Env):Fl.caught cs i h (.nx a)=.nx a:=rfl
theorem oj (cs:U O)(i:O)(h:Env->Fl)(w:W)(a:Env):Fl.caught cs i h (.rt w a)=.rt w a:=rfl
theorem Bu (i:O)(a:Env):Fl.drop i (.nx a)=.nx (del a i):=rfl
theorem uY (i:O)(w:W)(a:Env):Fl.drop i (.rt w a)=.rt w (del a i):=rfl
theorem oC (C:Call)(i:O)(a:Env):evS C (.apG i) a=nxO a ((kZ<|rd a i).map λw=>put a i w):=rfl
theorem oV (C:Call)(a:U S)(b:Env):evS C (.tri a) b=evSs C a b:=rfl
theorem vY (h:NN)(m n:Md)(i a:j):oSem .fdivN h [(m,.int i),(n,.int a)]=if(a != 0)&&decide (a.natAbs<18446744073709551616) then Y (.d,.int<|i.fdiv a) else none:=rfl
theorem yX (h:NN)(m n:Md)(i a:j):oSem .modN h [(m,.int i),(n,.int a)]=if a != 0 then Y (.d,.int<|i.fmod a) else none:=rfl
theorem HI (h:NN)(m:Md)(t:T):oSem .nl h [(m,t)]=if noL t then Y (.d,t) else none:=rfl
theorem Cy (h:NN)(a:U T):oSem .dtup h [(.s,.lst a)]=(dtPs a).bind λp=>if decide p.1.Nodup&&decide (a.length<=LIM) then Y (.s,.dtt p.1 p.2) else none:=rfl
theorem Bt (h:NN)(m n:Md)(a:U<|U j)(c b:U T):oSem .ixDT h [(m,.dtt a c),(n,.tup b)]=(intsOf b).bind λk=>(lookT k a c).map λt=>(.s,t):=rfl
theorem EK (m:Md)(a:U T):turns .sq3 [(m,.lst a)]=tripsT a:=rfl
theorem CK (m:Md)(a:U T):turns .sq2T [(m,.tup a)]=pairsT a:=rfl
theorem BJ (h:NN)(m:Md)(a:U T):oSem .tuple h [(m,.lst a)]=Y (m.kid.up,.tup a):=rfl
theorem E7 (h:NN)(m:Md)(a:U T):oSem .all h [(m,.lst a)]=(a0 a).map λbs=>(.d,.bl<|bs.all id):=rfl
theorem C0 (m:Md)(a:U T):newL HV m a=if leaves a then Y (.d,.lst a) else none:=rfl
theorem A7 (m:Md)(a:U T):newL HU m a=Y (m.up,.lst a):=rfl
theorem CO (m:Md)(a:U T):turns .seq [(m,.lst a)]=Y (a.map λt=>[(.s,t)]):=rfl
theorem yW (m:Md)(a:U T):turns .seq [(m,.tup a)]=Y (a.map λt=>[(.s,t)]):=rfl
theorem zJ (m n o:Md)(i a c:j):turns .rng [(m,.int i),(n,.int a),(o,.int c)]=if decide (i.natAbs<4611686018427387904)&&decide (a.natAbs<4611686018427387904)&&decide (c=-1)&&fits (i-a).toNat then Y ((IB (i-a).toNat).map λ(k:O)=>[(.d,.int<|i-k)]) else none:=rfl
theorem sR (m:Md)(n:j):turns .rng [(m,.int n)]=if decide (n.natAbs<4611686018427387904)&&fits n.toNat then Y ((IB n.toNat).map λ(k:O)=>[(.d,.int k)]) else none:=rfl
theorem qV (a:Env):bindT [] [] a=Y a:=rfl
theorem pJ (i:O)(a:U O)(w:W)(b:U W)(c:Env):bindT (i::a) (w::b) c=bindT a b (put c i w):=rfl
theorem Dj {b c:Type}(f:b->c)(a:b):(Y a).map f=Y (f a):=rfl
theorem pK (b:NN):truth (.bl b)=Y b:=rfl
theorem qj (i:j):truth (.int i)=Y (i != 0):=rfl
theorem wd {b c:Type}(a:b)(f:b->B c):(Y a).bind f=f a:=rfl
theorem v8:Md.s.kid=.s:=rfl
theorem wR:Md.d.kid=.d:=rfl
theorem vb (m:Md):(Md.o m).kid=m:=rfl
theorem zK:Md.s.up=.o .s:=rfl
theorem AJ:Md.d.up=.d:=rfl
theorem AR (m:Md):(Md.o m).up=.o (.o m):=rfl
theorem sQ (m:Md):Md.s.meet m=.s:=by cases m<;>rfl
theorem dQ (m:Md):Md.d.meet m=m:=by cases m<;>rfl
theorem nT (m:Md):(Md.o m).meet .s=.s:=rfl
theorem oX (m:Md):(Md.o m).meet .d=.o m:=rfl
theorem nD (m n:Md):(Md.o m).meet (.o n)=.o (m.meet n):=rfl
theorem Cg (n:Md)(a:U T)(t:T):gN (.d,.lst a) (n,t)=if a.length<LIM then Y ((lf n t).up,.lst<|a++[t]) else none:=by show(if _ then Y ((Md.d.meet _).up,_) else J)=_;rw[dQ]
theorem B8 (m n:Md)(a:U T)(t:T):gN (.o m,.lst a) (n,t)=if a.length<LIM then Y ((m.meet<|lf n t).up,.lst<|a++[t]) else none:=rfl
theorem CC (n:Md)(a b:U T):gL (.d,.lst a) (n,.lst b)=if a.length+b.length<=LIM then Y (n.kid.up,.lst<|a++b) else none:=by show(if _ then Y ((Md.d.meet _).up,_) else J)=_;rw[dQ]
theorem Bn (m n:Md)(a b:U T):gL (.o m,.lst a) (n,.lst b)=if a.length+b.length<=LIM then Y ((m.meet n.kid).up,.lst<|a++b) else none:=rfl
theorem BB (l n:Md)(b:U T)(t:T)(a:j):cn (.d,.lst b) (l,.int a) (n,t)=(ixN b.length a).map λk=>((lf n t).up,.lst<|b.set k t):=by show((ixN b.length a).map λk=>((Md.d.meet _).up,_))=_;rw[dQ]
theorem CI (m l n:Md)(b:U T)(t:T)(a:j):cn (.o m,.lst b) (l,.int a) (n,t)=(ixN b.length a).map λk=>((m.meet<|lf n t).up,.lst<|b.set k t):=rfl
theorem Ci (m:Md)(a:U T):eV (Y (m,.lst a))=.ok ():=rfl
theorem CF (m:Md)(a:U T):Gq (m,.tup a)=Y (a.map λt=>(m.kid,t)):=rfl
theorem Fo (b a:Env):nxO b (Y a)=.nx a:=rfl
theorem sL (a:Env):backs [] a=Y []:=rfl
theorem qm (i:O)(b:U O)(a:Env):backs (i::b) a=(rd a i).bind λw=>(backs b a).bind λc=>Y (w::c):=rfl
theorem Aw (a:U O)(b:Env):Fl.out a (.nx b)=(ofO<|backs a b).bind (rh (.d,.non)):=rfl
theorem CV (a:U O)(w:W)(b:Env):Fl.out a (.rt w b)=(ofO<|backs a b).bind (rh w):=rfl
theorem x_run (C:Call)(f:Fn)(a:U W)(h:a.length=f.ps):runF C f a=Fl.out f.io (evSs C f.body<|a.map Y++Iu f.ns J):=NR h
theorem at0 {b:Type}(a:b)(l:U b):atI (a::l) 0=Y a:=by simp[atI,ixN]
theorem atN {c:Type}{b:U c}{i:j}{n:O}{a:c}(d:i=n)(h:b[n]?=Y a):atI b i=Y a:=by subst d;have:=(Jc.mp h).1;rw[atI,ixN,NR<|by lia,NR<|by lia];exact h
theorem at1 {c:Type}(a b:c)(l:U c):atI (a::b::l) 1=Y b:=atN (n:=1) rfl rfl
theorem at2 {d:Type}(a b c:d)(l:U d):atI (a::b::c::l) 2=Y c:=atN (n:=2) rfl rfl
theorem at3 {e:Type}(a b c d:e)(l:U e):atI (a::b::c::d::l) 3=Y d:=atN (n:=3) rfl rfl
theorem at4 {f:Type}(a b c d e:f)(l:U f):atI (a::b::c::d::e::l) 4=Y e:=atN (n:=4) rfl rfl
theorem cS {e:Type}{tg:U O}{f:Env->Res (B W×Env)}{η:Env}{g:e->U W}(w:e->W):∀(d:U e) (a:U W),(∀x∈d,∃b c,bindT tg (g x) η=Y b/\f b=.ok (Y<|w x,c)/\ax tg c=η) ->
 aQ tg f (d.map g) η a=.ok (a++d.map w,η)
|[],a,_=>by rw[Jy,Jy,IT];rfl
|x::d,a,h=>by obtain⟨b,c,i,k,l⟩:=h x Ih;rw[Io,Io];show(ofO<|bindT tg (g x) η).bind _=_;rw[i];show(f b).bind _=_;rw[k];show aQ tg f (d.map g) (ax tg c) (a++[w x])=_;rw[l,cS w d _ λy m=>h y<|Iz _ m,Ju];rfl
theorem nr {b:Type}(m:Md)(g:b->T)(a:U b):trees (a.map λx=>(m,g x))=a.map g:=by
 induction a with
 |nil=>rfl
 |cons x r c=>rw[Io,Io,<- c];rfl
theorem wY {a:Type}(g:a->T)(b:U a):(b.map λx=>((Md.d,g x):W)).all okD=true:=by rw[List.all_map,JW];intro x _;rfl
end M

namespace MR
open L2 L3 M
open PySem (Addr Str sizeLine)
abbrev Fp:=NM->Prop
def ScrR (K:HX)(H:Hp)(a:NM)(b:U j):Prop:=(∃o,H a=Y (.frz o<|.lst<|b.map V.int))\/SqL K (λ_=>J) a (b.map V.int)
theorem ScrR.sq {K:HX}{H:Hp}{a:NM}{b:U j}(h:ScrR K H a b):SqL K H a (b.map V.int):=by
 rcases h with⟨o,h⟩|((h|⟨o,h⟩)|h)
 .exact .inl (.inr ⟨o,h⟩)
 .cases h
 .cases h
 .exact .inr h
theorem ScrR.keep {K:HX}{H b:Hp}{a:NM}{c:U j}(s:∀a o u,H a=Y (.frz o u)->b a=Y (.frz o u))(h:ScrR K H a c):ScrR K b a c:=h.imp (λ⟨o,e⟩=>⟨o,s a o _ e⟩) id
def LstR (K:HX)(Z:Fp)(H:Hp)(G:Fp)(a:NM)(b:U V):Md->Prop
|.s=>Z a/\H a=Y (.lst b)
|_=>G a/\H a=Y (.lst b)
def mkD (a:U<|j ⊕ Str)(b:U V):U (Key×V):=a.zip b
def DctR (Z:Fp)(H:Hp)(G:Fp)(a:NM)(o:HO):Md->Prop
|.s=>Z a/\H a=Y o
|_=>G a/\H a=Y o
def dmd:Md->Md
|.d=>.d
|_=>.s
mutual
def Rep (K:HX)(Z:Fp)(H:Hp):Md->T->V->Fp->Prop
|_,.non,v,_=>v=.non
|_,.bl b,v,_=>v=.bl b
|_,.int i,v,_=>v=.int i
|_,.str x,v,_=>v=.str x/\sOk x=HV
|m,.tup ts,v,G=>∃a xs,v=.ref a/\SqT K H a xs/\xs.length<=LIM/\RepL K Z H m.kid ts xs G
|m,.lst ts,v,G=>∃a xs,v=.ref a/\xs.length<=LIM/\LstR K Z H G a xs m/\RepL K Z H m.kid ts xs (λb=>G b/\b≠a)
|m,.dct ks vs,v,G=>∃a xs,v=.ref a/\ks.length<=LIM/\DctR Z H G a (.dK<|mkD ks xs) m/\(ks.Nodup/\∀k∈ks,kOk k=HV)/\vs.length=ks.length/\RepL K Z H (dmd m) vs xs (λ_=>N2)
|m,.dtt ks vs,v,_=>m≠.d/\∃a ys xs,v=.ref a/\Z a/\H a=Y (DTO a ks ys xs)/\ks.Nodup/\ks.length<=LIM/\vs.length=ks.length/\KeyR K H ks ys/\RepL K Z H .s vs xs (λ_=>N2)
|m,.ins c fs vs,v,_=>m≠.d/\∃a dx C xs,v=.ref a/\Z a/\Z dx/\H a=Y (XO a C (Y dx) HU)/\H dx=Y (.xd<|fs.zip xs)/\fs.length=vs.length/\XNm K c C/\RepL K Z H .s vs xs (λ_=>N2)
|_,.gone,_,_=>OA
|_,.scr ns,v,_=>∃a,v=.ref a/\ns.length<=LIM/\ScrR K H a ns
def RepL (K:HX)(Z:Fp)(H:Hp):Md->U T->U V->Fp->Prop
|_,[],xs,_=>xs=[]
|m,t::ts,xs,G=>∃x r G1 G2,xs=x::r/\(∀a,G1 a->G a)/\(∀a,G2 a->G a)/\(∀a,G1 a->¬G2 a)/\Rep K Z H m t x G1/\RepL K Z H m ts r G2
end
section
variable {K:HX}{Z Z':Fp}{H H':Hp}{m:Md}{t:T}{ts:U T}{v:V}{xs:U V}{G G':Fp}
theorem LstR.mono {a:NM}(w:∀a,G a->G' a)(h:LstR K Z H G a xs m):LstR K Z H G' a xs m:=by
 cases m with
 |s=>exact h
 |d=>exact⟨w _ h.1,h.2⟩
 |o m=>exact⟨w _ h.1,h.2⟩
theorem DctR.mono {a:NM}{o:HO}(w:∀a,G a->G' a)(h:DctR Z H G a o m):DctR Z H G' a o m:=by
 cases m with
 |s=>exact h
 |d=>exact⟨w _ h.1,h.2⟩
 |o m=>exact⟨w _ h.1,h.2⟩
mutual
theorem Rep.mono:∀{m:Md} {t:T} {v:V} {G G':Fp},(∀a,G a->G' a)->Rep K Z H m t v G->Rep K Z H m t v G'
|_,.non,_,_,_,_,h=>h
|_,.bl _,_,_,_,_,h=>h
|_,.int _,_,_,_,_,h=>h
|_,.str _,_,_,_,_,h=>h
|m,.tup ts,v,G,G',w,⟨a,xs,e,q,l,r⟩=>⟨a,xs,e,q,l,RepL.mono w r⟩
|m,.lst ts,v,G,G',w,⟨a,xs,e,l,q,r⟩=>⟨a,xs,e,l,q.mono w,RepL.mono (λb hb=>⟨w b hb.1,hb.2⟩) r⟩
|m,.dct ks vs,v,G,G',w,⟨a,xs,e,l,q,n,hl,r⟩=>⟨a,xs,e,l,q.mono w,n,hl,r⟩
|_,.ins _ _ _,_,_,_,_,h=>h
|_,.dtt _ _,_,_,_,_,h=>h
|_,.gone,_,_,_,_,h=>h
|_,.scr _,_,_,_,_,h=>h
theorem RepL.mono:∀{m:Md} {ts:U T} {xs:U V} {G G':Fp},(∀a,G a->G' a)->RepL K Z H m ts xs G->RepL K Z H m ts xs G'
|_,[],_,_,_,_,h=>h
|m,t::ts,xs,G,G',w,⟨x,r,G1,G2,e,h1,h2,hd,p,q⟩=>⟨x,r,G1,G2,e,λa ha=>w a<|h1 a ha,λa ha=>w a<|h2 a ha,hd,p,q⟩
end
def Stay (Z:Fp)(H H':Hp):Prop:=(∀a o,Z a->H a=Y o->H' a=Y o)/\(∀a xs,Rd H a (.tup xs)->Rd H' a (.tup xs))/\∀a o u,H a=Y (.frz o u)->H' a=Y (.frz o u)
theorem Stay.sqt (s:Stay Z H H'){a:NM}(h:SqT K H a xs):SqT K H' a xs:=by
 rcases h with h|h
 .exact .inl (s.2.1 a xs h)
 .exact .inr h
theorem LstR.keep {a:NM}(s:Stay Z H H')(z:∀a,Z a->Z' a)(g:∀a o,G a->H a=Y o->H' a=Y o)(h:LstR K Z H G a xs m):LstR K Z' H' G a xs m:=by
 cases m with
 |s=>exact⟨z _ h.1,s.1 _ _ h.1 h.2⟩
 |d=>exact⟨h.1,g _ _ h.1 h.2⟩
 |o m=>exact⟨h.1,g _ _ h.1 h.2⟩
theorem DctR.keep {a:NM}{o:HO}(s:Stay Z H H')(z:∀a,Z a->Z' a)(g:∀a o,G a->H a=Y o->H' a=Y o)(h:DctR Z H G a o m):DctR Z' H' G a o m:=by
 cases m with
 |s=>exact⟨z _ h.1,s.1 _ _ h.1 h.2⟩
 |d=>exact⟨h.1,g _ _ h.1 h.2⟩
 |o m=>exact⟨h.1,g _ _ h.1 h.2⟩
mutual
theorem Rep.keep (s:Stay Z H H')(z:∀a,Z a->Z' a):∀{m:Md} {t:T} {v:V} {G:Fp},(∀a o,G a->H a=Y o->H' a=Y o)->Rep K Z H m t v G->Rep K Z' H' m t v G
|_,.non,_,_,_,h=>h
|_,.bl _,_,_,_,h=>h
|_,.int _,_,_,_,h=>h
|_,.str _,_,_,_,h=>h
|m,.tup ts,v,G,g,⟨a,xs,e,q,l,r⟩=>⟨a,xs,e,s.sqt q,l,RepL.keep s z g r⟩
|m,.lst ts,v,G,g,⟨a,xs,e,l,q,r⟩=>⟨a,xs,e,l,q.keep s z g,RepL.keep s z (λb o hb=>g b o hb.1) r⟩
|m,.dct ks vs,v,G,g,⟨a,xs,e,l,q,n,hl,r⟩=>⟨a,xs,e,l,q.keep s z g,n,hl,RepL.keep s z (λ_ _ hb=>hb.elim) r⟩
|_,.dtt _ _,_,_,_,⟨ne,a,ys,xs,e,z1,h1,n,l,hl,kr,r⟩=>⟨ne,a,ys,xs,e,z _ z1,s.1 _ _ z1 h1,n,l,hl,kr.keep λb xs q=>s.sqt q,RepL.keep s z (λ_ _ hb=>hb.elim) r⟩
|_,.ins _ _ _,_,_,_,⟨ne,a,dx,C,xs,e,z1,z2,h1,h2,l,n,r⟩=>⟨ne,a,dx,C,xs,e,z _ z1,z _ z2,s.1 _ _ z1 h1,s.1 _ _ z2 h2,l,n,RepL.keep s z (λ_ _ hb=>hb.elim) r⟩
|_,.gone,_,_,_,h=>h
|_,.scr _,_,_,_,⟨a,e,l,q⟩=>⟨a,e,l,q.keep s.2.2⟩
theorem RepL.keep (s:Stay Z H H')(z:∀a,Z a->Z' a):∀{m:Md} {ts:U T} {xs:U V} {G:Fp},(∀a o,G a->H a=Y o->H' a=Y o)->RepL K Z H m ts xs G->RepL K Z' H' m ts xs G
|_,[],_,_,_,h=>h
|m,t::ts,xs,G,g,⟨x,r,G1,G2,e,h1,h2,hd,p,q⟩=>⟨x,r,G1,G2,e,h1,h2,hd,Rep.keep s z (λa o ha=>g a o<|h1 a ha) p,RepL.keep s z (λa o ha=>g a o<|h2 a ha) q⟩
end
theorem cQ (Z:Fp)(H:Hp):Stay Z H H:=⟨λ_ _ _ h=>h,λ_ _ h=>h,λ_ _ _ h=>h⟩
theorem Rep.zmono (z:∀a,Z a->Z' a)(h:Rep K Z H m t v G):Rep K Z' H m t v G:=h.keep (cQ Z H) z λ_ _ _ q=>q
theorem RepL.zmono (z:∀a,Z a->Z' a)(h:RepL K Z H m ts xs G):RepL K Z' H m ts xs G:=h.keep (cQ Z H) z λ_ _ _ q=>q
theorem RepL.length:∀{ts:U T} {xs:U V} {G:Fp},RepL K Z H m ts xs G->xs.length=ts.length
|[],_,_,h=>by rw[show _=[] from h];rfl
|_::_,_,_,⟨x,r,a,b,e,_,_,_,_,q⟩=>by rw[e,Ii,Ii,RepL.length q]
theorem RepL.get:∀{ts:U T} {xs:U V} {G:Fp} {i:O} {t:T},RepL K Z H m ts xs G->ts[i]?=Y t->∃x,xs[i]?=Y x/\Rep K Z H m t x G
|[],_,_,_,_,_,e=>by simp at e
|_::_,_,_,0,_,⟨x,r,a,b,e,c,_,_,p,_⟩,e2=>by rw[K6] at e2;cases e2;exact⟨x,by rw[e];rfl,p.mono c⟩
|_::_,_,_,i+1,_,⟨x,r,a,b,e,_,d,_,_,q⟩,e2=>by rw[Jh] at e2;obtain⟨y,f,p⟩:=RepL.get q e2;exact⟨y,by rw[e,Jh];exact f,p.mono d⟩
theorem RepL.append:∀{ts g:U T} {xs f:U V} {G1 G2 G:Fp},(∀a,G1 a->G a)->(∀a,G2 a->G a)->(∀a,G1 a->¬G2 a)->RepL K Z H m ts xs G1->RepL K Z H m g f G2->RepL K Z H m (ts++g) (xs++f) G
|[],g,xs,f,G1,G2,G,i,l,d,h,k=>by rw[show xs=[] from h];exact k.mono l
|t::ts,g,xs,f,G1,G2,G,i,l,d,⟨x,r,A,b,e,n,o,hd,p,q⟩,k=>by rw[e];refine⟨x,r++f,A,λa=>b a\/G2 a,rfl,λa c=>i a<|n a c,λa c=>c.elim (λz=>i a<|o a z)<|l a,λa c s=>s.elim (hd a c)<|d a<|n a c,p,?_⟩;exact RepL.append (λa z=>.inl z) (λa z=>.inr z) (λa c=>d a<|o a c) q k
theorem RepL.one {x:V}(p:Rep K Z H m t x G):RepL K Z H m [t] [x] G:=⟨x,[],G,λ_=>N2,rfl,λ_ h=>h,λ_ h=>h.elim,λ_ _ h=>h,p,rfl⟩
theorem RepL.take:∀{ts:U T} {xs:U V} {G:Fp} (n:O),RepL K Z H m ts xs G->RepL K Z H m (ts.take n) (xs.take n) G
|[],_,_,n,h=>by rw[show _=[] from h,M3,M3];rfl
|_::_,_,_,0,h=>rfl
|_::_,_,_,n+1,⟨x,r,A,a,e,b,c,hd,p,q⟩=>by rw[e];exact⟨x,r.take n,A,a,rfl,b,c,hd,p,RepL.take n q⟩
theorem RepL.drop:∀{ts:U T} {xs:U V} {G:Fp} (n:O),RepL K Z H m ts xs G->RepL K Z H m (ts.drop n) (xs.drop n) G
|[],_,_,n,h=>by rw[show _=[] from h,M0,M0];rfl
|_::_,_,_,0,h=>h
|_::_,_,_,n+1,⟨x,r,A,a,e,c,b,hd,p,q⟩=>by rw[e];exact(RepL.drop n q).mono b
theorem Rep.leaf {m':Md}(c:∀a o u,H a=Y (.frz o u)->H' a=Y (.frz o u))(b:t.leaf=HV)(h:Rep K Z H m t v G):Rep K Z' H' m' t v G':=by
 cases t with
 |non=>exact h
 |bl _=>exact h
 |int _=>exact h
 |str _=>exact h
 |scr _=>obtain⟨a,e,l,q⟩:=h;exact⟨a,e,l,q.keep c⟩
 |_=>cases b
theorem RepL.leaves {m':Md}(d:∀a o u,H a=Y (.frz o u)->H' a=Y (.frz o u)):∀{ts:U T} {xs:U V} {G G':Fp},leaves ts=HV->RepL K Z H m ts xs G->RepL K Z' H' m' ts xs G'
|[],_,_,_,_,h=>h
|t::ts,_,_,G',f,⟨x,r,A,b,e,g,i,hd,p,q⟩=>by have c:(t.leaf&&ts.all T.leaf)=true:=f;rw[Iq] at c;exact⟨x,r,λ_=>N2,λ_=>N2,e,λ_ z=>z.elim,λ_ z=>z.elim,λ_ z=>z.elim,p.leaf d c.1,RepL.leaves d c.2 q⟩
noncomputable def no:Fp:=λ_=>N2
mutual
theorem Rep.sh:∀{m:Md} {t:T} {v:V} {G:Fp},Rep K Z H m t v G->Rep K (λa=>Z a\/G a) H .s t v no
|_,.non,_,_,h=>h
|_,.bl _,_,_,h=>h
|_,.int _,_,_,h=>h
|_,.str _,_,_,h=>h
|m,.tup ts,v,G,⟨a,xs,e,q,l,r⟩=>⟨a,xs,e,q,l,RepL.sh r⟩
| m,.lst ts,v,G,⟨a,xs,e,l,q,r⟩=>⟨a,xs,e,l,by
  cases m with
  |s=>exact⟨.inl q.1,q.2⟩
  |d=>exact⟨.inr q.1,q.2⟩
  |o m=>exact⟨.inr q.1,q.2⟩,(RepL.zmono (λb hb=>hb.elim .inl λz=>.inr z.1)<|RepL.sh r).mono λ_ z=>z.elim⟩
| m,.dct ks vs,v,G,⟨a,xs,e,l,q,n,hl,r⟩=>⟨a,xs,e,l,by
  cases m with
  |s=>exact⟨.inl q.1,q.2⟩
  |d=>exact⟨.inr q.1,q.2⟩
  |o m=>exact⟨.inr q.1,q.2⟩,n,hl,RepL.zmono (λb hb=>hb.elim .inl λz=>z.elim)<|RepL.sh r⟩
|_,.dtt _ _,_,_,⟨ne,a,ys,xs,e,z1,h1,n,l,hl,kr,r⟩=>⟨(λz=>by cases z),a,ys,xs,e,.inl z1,h1,n,l,hl,kr,RepL.zmono (λb hb=>hb.elim .inl λz=>z.elim)<|RepL.sh r⟩
|_,.ins _ _ _,_,_,⟨ne,a,dx,C,xs,e,z1,z2,h1,h2,l,n,r⟩=>⟨(λz=>by cases z),a,dx,C,xs,e,.inl z1,.inl z2,h1,h2,l,n,RepL.zmono (λb hb=>hb.elim .inl λz=>z.elim)<|RepL.sh r⟩
|_,.gone,_,_,h=>h
|_,.scr _,_,_,h=>h
theorem RepL.sh:∀{m:Md} {ts:U T} {xs:U V} {G:Fp},RepL K Z H m ts xs G->RepL K (λa=>Z a\/G a) H .s ts xs no
|_,[],_,_,h=>h
|m,t::ts,xs,G,⟨x,r,G1,G2,e,h1,h2,hd,p,q⟩=>⟨x,r,no,no,e,λ_ z=>z,λ_ z=>z,λ_ z _=>z,Rep.zmono (λb hb=>hb.imp id (h1 b))<|Rep.sh p,RepL.zmono (λb hb=>hb.imp id (h2 b))<|RepL.sh q⟩
end
theorem Hx:∀a:Md,a.le .d=HV
|.s=>rfl | .d=>rfl | .o _=>rfl
theorem iY:∀a:Md,a.le a=HV
|.s=>rfl | .d=>rfl | .o a=>iY a
theorem j8:∀{a b c:Md},a.le b=HV->b.le c=HV->a.le c=HV
|.s,_,.s,_,_=>rfl
|.s,_,.d,_,_=>rfl
|.s,_,.o _,_,_=>rfl
|.o a,.o b,.o c,h,k=>j8 (a:=a) (b:=b) (c:=c) h k
|.o a,.o b,.d,h,k=>rfl
|.o a,.d,.d,h,k=>rfl
|.d,.d,.d,_,_=>rfl
|.d,.s,_,h,_=>by cases h
|.d,.o _,_,h,_=>by cases h
|.o _,.s,_,h,_=>by cases h
|.o _,.o _,.s,_,k=>by cases k
|.o _,.d,.s,_,k=>by cases k
|.o _,.d,.o _,_,k=>by cases k
|.d,.d,.s,_,k=>by cases k
|.d,.d,.o _,_,k=>by cases k
theorem cA:∀a b:Md,(a.meet b).le a=HV/\(a.meet b).le b=HV
|.s,.s=>⟨rfl,rfl⟩
|.s,.d=>⟨rfl,rfl⟩
|.s,.o _=>⟨rfl,rfl⟩
|.d,.s=>⟨rfl,rfl⟩
|.d,.d=>⟨rfl,rfl⟩
|.d,.o b=>⟨rfl,iY b⟩
|.o _,.s=>⟨rfl,rfl⟩
|.o a,.d=>⟨iY a,rfl⟩
|.o a,.o b=>cA a b
theorem pV:∀{a b:Md},a.le b=HV->a.kid.le b.kid=HV
|.s,.s,_=>rfl
|.s,.d,_=>rfl
|.s,.o _,_=>by first|rfl|exact(by cases ‹Md›<;>rfl)
|.o a,.o b,h=>h
|.o a,.d,_=>Hx a
|.d,.d,_=>rfl
|.d,.s,h=>by cases h
|.d,.o _,h=>by cases h
|.o _,.s,h=>by cases h
theorem df:∀a:Md,a.up.kid=a
|.s=>rfl | .d=>rfl | .o _=>rfl
theorem ck (a:Md):a.up≠.s:=by cases a<;>intro h<;>cases h
theorem LstR.own {a:NM}(b:m≠.s):LstR K Z H G a xs m ↔ G a/\H a=Y (.lst xs):=by
 cases m with
 |s=>exact NP rfl b
 |d=>exact Iff.rfl
 |o m=>exact Iff.rfl
abbrev bW (Z G G':Fp):Fp:=λa=>Z a\/(G a/\¬G' a)
mutual
theorem Rep.weak:∀{m m':Md} {t:T} {v:V} {G:Fp},m'.le m=HV->Rep K Z H m t v G->∃G',(∀a,G' a->G a)/\Rep K (bW Z G G') H m' t v G'
|m,m',.non,_,G,_,h=>⟨G,λ_ z=>z,h⟩
|m,m',.bl _,_,G,_,h=>⟨G,λ_ z=>z,h⟩
|m,m',.int _,_,G,_,h=>⟨G,λ_ z=>z,h⟩
|m,m',.str _,_,G,_,h=>⟨G,λ_ z=>z,h⟩
|m,m',.scr _,_,G,_,h=>⟨G,λ_ z=>z,h⟩
|m,m',.tup ts,v,G,hm,⟨a,xs,e,q,l,r⟩=>by obtain⟨G',h1,h2⟩:=RepL.weak (pV hm) r;exact⟨G',h1,a,xs,e,q,l,h2⟩
| m,m',.lst ts,v,G,hm,h=>by
 cases m' with
 |s=>exact⟨no,λ_ z=>z.elim,(Rep.sh h).zmono λa ha=>ha.imp id λz=>⟨z,λq=>q⟩⟩
 |d=>
  cases m with
  |s=>cases hm
  |o _=>cases hm
  |d=>exact⟨G,λ_ z=>z,h.zmono λ_ z=>.inl z⟩
 |o k=>
  have hne:m≠.s:=by rintro rfl;cases hm
  obtain⟨a,xs,e,l,q,r⟩:=h;rw[LstR.own hne] at q;obtain⟨G',h1,h2⟩:=RepL.weak (pV hm) r;refine⟨λb=>G' b\/b=a,λb hb=>hb.elim (λz=>(h1 b z).1) λz=>z ▸ q.1,a,xs,e,l,⟨.inr rfl,q.2⟩,?_⟩;refine(h2.zmono λb hb=>?_).mono λb hb=>⟨.inl hb,(h1 b hb).2⟩;rcases hb with z|⟨⟨z1,z2⟩,z3⟩
  .exact .inl z
  .exact .inr ⟨z1,λq=>q.elim z3 z2⟩
| m,m',.dct ks vs,v,G,hm,h=>by
 cases m' with
 |s=>exact⟨no,λ_ z=>z.elim,(Rep.sh h).zmono λa ha=>ha.imp id λz=>⟨z,λq=>q⟩⟩
 |d=>
  cases m with
  |s=>cases hm
  |o _=>cases hm
  |d=>exact⟨G,λ_ z=>z,h.zmono λ_ z=>.inl z⟩
 |o k=>
  obtain⟨a,xs,e,l,q,n,hl,r⟩:=h;cases m with
  |s=>cases hm
  |d=>exact⟨G,λ_ z=>z,a,xs,e,l,q,n,hl,RepL.zmono (λb hb=>hb.elim .inl λz=>z.elim)<|RepL.sh r⟩
  |o k'=>exact⟨G,λ_ z=>z,a,xs,e,l,q,n,hl,RepL.zmono (λb hb=>.inl hb) r⟩
|m,m',.dtt _ _,v,G,hm,⟨ne,a,ys,xs,e,z1,h1,n,l,hl,kr,r⟩=>⟨G,λ_ z=>z,(λz=>ne<|by subst z;cases m<;>first|rfl|cases hm),a,ys,xs,e,.inl z1,h1,n,l,hl,kr,RepL.zmono (λb hb=>.inl hb) r⟩
|m,m',.ins _ _ _,v,G,hm,⟨ne,a,dx,C,xs,e,z1,z2,h1,h2,l,n,r⟩=>⟨G,λ_ z=>z,(λz=>ne<|by subst z;cases m<;>first|rfl|cases hm),a,dx,C,xs,e,.inl z1,.inl z2,h1,h2,l,n,RepL.zmono (λb hb=>.inl hb) r⟩
|m,m',.gone,_,G,_,h=>⟨G,λ_ z=>z,h⟩
theorem RepL.weak:∀{m m':Md} {ts:U T} {xs:U V} {G:Fp},m'.le m=HV->RepL K Z H m ts xs G->∃G',(∀a,G' a->G a)/\RepL K (bW Z G G') H m' ts xs G'
|m,m',[],_,G,_,h=>⟨G,λ_ z=>z,h⟩
|m,m',t::ts,xs,G,hm,⟨x,r,G1,G2,e,h1,h2,hd,p,q⟩=>by
 obtain⟨A,a1,a2⟩:=Rep.weak hm p;obtain⟨B,b1,b2⟩:=RepL.weak hm q;refine⟨λb=>A b\/B b,λb hb=>hb.elim (λz=>h1 b<|a1 b z) λz=>h2 b<|b1 b z,x,r,A,B,e,λ_ z=>.inl z,λ_ z=>.inr z,λb za zb=>hd b (a1 b za)<|b1 b zb,?_,?_⟩
 .refine a2.zmono λb hb=>hb.imp id λz=>⟨h1 b z.1,λq=>q.elim z.2 λw=>hd b z.1<|b1 b w⟩
 .refine b2.zmono λb hb=>hb.imp id λz=>⟨h2 b z.1,λq=>q.elim (λw=>hd b (a1 b w) z.1) z.2⟩
end
def RepW (K:HX)(Z:Fp)(H:Hp):U W->U V->Fp->Prop
|[],xs,_=>xs=[]
|w::d,xs,G=>∃x r b c,xs=x::r/\(∀a,b a->G a)/\(∀a,c a->G a)/\(∀a,b a->¬c a)/\Rep K Z H w.1 w.2 x b/\RepW K Z H d r c
theorem RepW.length:∀{a:U W} {xs:U V} {G:Fp},RepW K Z H a xs G->xs.length=a.length
|[],_,_,h=>by rw[show _=[] from h];rfl
|_::_,_,_,⟨x,r,b,c,e,_,_,_,_,q⟩=>by rw[e,Ii,Ii,RepW.length q]
theorem RepW.mono:∀{c:U W} {xs:U V} {G G':Fp},(∀a,G a->G' a)->RepW K Z H c xs G->RepW K Z H c xs G'
|[],_,_,_,_,h=>h
|_::_,_,_,_,w,⟨x,r,d,f,e,g,i,hd,p,q⟩=>⟨x,r,d,f,e,λa b=>w a<|g a b,λa b=>w a<|i a b,hd,p,q⟩
theorem RepW.keep (s:Stay Z H H')(z:∀a,Z a->Z' a):∀{f:U W} {xs:U V} {G:Fp},(∀a o,G a->H a=Y o->H' a=Y o)->RepW K Z H f xs G->RepW K Z' H' f xs G
|[],_,_,_,h=>h
|_::_,_,_,g,⟨x,r,i,k,e,c,d,hd,p,q⟩=>⟨x,r,i,k,e,c,d,hd,p.keep s z λa o b=>g a o<|c a b,RepW.keep s z (λa o b=>g a o<|d a b) q⟩
theorem RepW.append:∀{s g:U W} {xs f:U V} {G1 G2 G:Fp},(∀a,G1 a->G a)->(∀a,G2 a->G a)->(∀a,G1 a->¬G2 a)->RepW K Z H s xs G1->RepW K Z H g f G2->RepW K Z H (s++g) (xs++f) G
|[],g,xs,f,G1,G2,G,i,l,d,h,k=>by rw[show xs=[] from h];exact k.mono l
|t::ts,g,xs,f,G1,G2,G,i,l,d,⟨x,r,A,b,e,n,o,hd,p,q⟩,k=>by rw[e];refine⟨x,r++f,A,λa=>b a\/G2 a,rfl,λa c=>i a<|n a c,λa c=>c.elim (λz=>i a<|o a z)<|l a,λa c u=>u.elim (hd a c)<|d a<|n a c,p,?_⟩;exact RepW.append (λa z=>.inl z) (λa z=>.inr z) (λa c=>d a<|o a c) q k
theorem RepW.one {w:W}{x:V}(p:Rep K Z H w.1 w.2 x G):RepW K Z H [w] [x] G:=⟨x,[],G,no,rfl,λ_ h=>h,λ_ h=>h.elim,λ_ _ h=>h,p,rfl⟩
theorem gj:∀{a:U W} {w:W},w∈a->(fR a).le (lf w.1 w.2)=HV
|u::a,w,h=>by
 rcases Ip.mp h with z|z
 .subst z;exact(cA _ _).1
 .exact j8 (cA _ _).2 (gj z)
theorem Rep.lf (h:Rep K Z H m t v G):Rep K Z H (M.lf m t) t v G:=by
 unfold M.lf;split
 .rename_i a;exact h.leaf (λ_ _ _ q=>q) a
 .exact h
theorem RepW.to {N:Md}:∀{f:U W} {xs:U V} {G:Fp},(∀w∈f,N.le (M.lf w.1 w.2)=HV)->RepW K Z H f xs G->∃G',(∀a,G' a->G a)/\RepL K (bW Z G G') H N (trees f) xs G'
|[],_,G,_,h=>⟨G,λ_ z=>z,h⟩
|w::f,xs,G,n,⟨x,r,I,P,e,k,l,hd,p,q⟩=>by
 obtain⟨A,g,o⟩:=Rep.weak (n w Ih) p.lf;obtain⟨c,i,s⟩:=RepW.to (λu y=>n u<|Iz _ y) q;refine⟨λb=>A b\/c b,λb d=>d.elim (λz=>k b<|g b z) λz=>l b<|i b z,x,r,A,c,e,λ_ z=>.inl z,λ_ z=>.inr z,λb D F=>hd b (g b D)<|i b F,?_,?_⟩
 .refine o.zmono λb d=>d.imp id λz=>⟨k b z.1,λq=>q.elim z.2 λw=>hd b z.1<|i b w⟩
 .refine s.zmono λb d=>d.imp id λz=>⟨l b z.1,λq=>q.elim (λw=>hd b (g b w) z.1) z.2⟩
end
def OO:=U V ⊕ U (Key×V)
def OO.ho:OO->HO
|.inl b=>.lst b
|.inr a=>.dK a
def Own (Z:Fp)(H:Hp)(F:Fp):Prop:=∀a,F a->¬Z a/\∃b:OO,H a=Y b.ho
theorem jo {b:U V}{a:OO}(e:Y (HO.tup b)=Y a.ho):N2:=by cases a<;>cases e
theorem eB {o:PySem.Obj}{u:HO}{a:OO}(e:Y (HO.frz o u)=Y a.ho):N2:=by cases a<;>cases e
structure Step (Z:Fp)(H:Hp)(F:Fp)(Z':Fp)(H':Hp)(F':Fp):Prop where
 keep:∀a o,H a=Y o->¬F a->H' a=Y o
 zm:∀a,Z a->Z' a
 zn:∀a,Z' a->Z a\/F a\/H a=J
 fn:∀a,F' a->F a\/H a=J
 al:∀a,H a≠J->H' a≠J
 za:(∀a,Z a->H a≠J)->∀a,Z' a->H' a≠J
section
variable {K:HX}{Z Z1 Z2 Z':Fp}{H H1 H2 H':Hp}{F F1 F2 F' R G:Fp}
theorem Step.refl (Z:Fp)(H:Hp)(F:Fp):Step Z H F Z H F:=⟨λ_ _ h _=>h,λ_ h=>h,λ_ h=>.inl h,λ_ h=>.inl h,λ_ h=>h,λz=>z⟩
theorem Step.trans (s:Step Z H F Z1 H1 F1)(t:Step Z1 H1 F1 Z2 H2 F2):Step Z H F Z2 H2 F2 where
 keep:=λa o h n=>t.keep a o (s.keep a o h n) λq=>(s.fn a q).elim n λz=>by rw[h] at z;cases z
 zm:=λa h=>t.zm a<|s.zm a h
 zn:=λa h=>by
  rcases t.zn a h with q|q|q
  .exact s.zn a q
  .exact .inr (s.fn a q)
  .exact .inr (.inr (by
    cases e:H a with
    |none=>rfl
    |some o=>exact NP q<|s.al a<|by rw[e];simp))
 fn:=λa h=>by
  rcases t.fn a h with q|q
  .exact s.fn a q
  .exact .inr (by
    cases e:H a with
    |none=>rfl
    |some o=>exact NP q<|s.al a<|by rw[e];simp)
 al:=λa h=>t.al a<|s.al a h
 za:=λz=>t.za<|s.za z
theorem Step.frame (R:Fp)(s:Step Z H F Z' H' F'):Step Z H (λa=>F a\/R a) Z' H' (λa=>F' a\/R a) where
 keep:=λa o h n=>s.keep a o h λq=>n<|.inl q
 zm:=s.zm
 zn:=λa h=>(s.zn a h).imp id λq=>q.imp .inl id
 fn:=λa h=>h.elim (λq=>(s.fn a q).imp .inl id) λq=>.inl<|.inr q
 al:=s.al
 za:=s.za
theorem Step.mono (s:Step Z H F Z' H' F')(b:∀a,F a->F1 a)(c:∀a,F2 a->F' a):Step Z H F1 Z' H' F2 where
 keep:=λa o h n=>s.keep a o h λq=>n<|b a q
 zm:=s.zm
 zn:=λa h=>(s.zn a h).imp id λq=>q.imp (b a) id
 fn:=λa h=>(s.fn a<|c a h).imp (b a) id
 al:=s.al
 za:=s.za
theorem Own.stay (o:Own Z H F)(s:Step Z H F Z' H' F'):Stay Z H H':=by
 refine⟨λa u c h=>s.keep a u h λq=>(o a q).1 c,λa d h=>?_,λa u v h=>s.keep a _ h λq=>?_⟩
 .rcases h with h | ⟨u,h⟩
  .refine .inl (s.keep a _ h fun q=>?_);obtain⟨_,b,e⟩:=o a q;rw[h] at e;exact jo e
  .refine .inr ⟨u,s.keep a _ h fun q=>?_⟩;obtain⟨_,b,e⟩:=o a q;rw[h] at e;exact eB e
 .obtain ⟨_,b,e⟩:=o a q;rw[h] at e;exact eB e
theorem Rep.frame {m:Md}{t:T}{v:V}(o:Own Z H F)(s:Step Z H F Z' H' F')(d:∀a,G a->¬F a)(h:Rep K Z H m t v G):Rep K Z' H' m t v G:=h.keep (o.stay s) s.zm λa u b e=>s.keep a u e<|d a b
theorem RepW.frame {b:U W}{c:U V}(o:Own Z H F)(s:Step Z H F Z' H' F')(d:∀a,G a->¬F a)(h:RepW K Z H b c G):RepW K Z' H' b c G:=h.keep (o.stay s) s.zm λa u f e=>s.keep a u e<|d a f
theorem Own.frame (o:Own Z H G)(s:Step Z H F Z' H' F')(d:∀a,G a->¬F a):Own Z' H' G/\∀a,G a->¬F' a:=by
 refine⟨λa b=>?_,λa b q=>?_⟩
 .obtain ⟨c,f,e⟩:=o a b;refine⟨λq=>?_,f,s.keep a _ e (d a b)⟩;rcases s.zn a q with z|z|z
  .exact c z
  .exact d a b z
  .rw[e] at z;cases z
 .obtain ⟨c,f,e⟩:=o a b;rcases s.fn a q with z|z
  .exact d a b z
  .rw[e] at z;cases z
end
abbrev Fps:=O->Fp
def tot (b:Fps):Fp:=λa=>∃i,b i a
structure Gd (Z:Fp)(H:Hp)(Fs:Fps):Prop where
 own:Own Z H (tot Fs)
 dis:∀i j a,Fs i a->Fs j a->i=j
 zal:∀a,Z a->H a≠J
structure Cf where
 sl:O->B O
 pv:O->B V
def Gu (K:HX)(b:Cf)(Z:Fp)(H:Hp)(d:Env)(e:L2.St)(c:Fps):Prop:=
 ∀i m t,rd d i=Y (m,t)->∃v,Rep K Z H m t v (c i)/\(∀a,b.sl i=Y a->e[a]?=Y (Y v))/\∀u,b.pv i=Y u->v=u
structure At (K:HX)(sl:Cf)(σ:L2.St)(Z:Fp)(H:Hp)(Fs:Fps)(η:Env)(G:Fp):Prop where
 gd:Gd Z H Fs
 env:Gu K sl Z H η σ Fs
 own:Own Z H G
 dis:∀a,G a->¬tot Fs a
 lk:∀i u j,sl.pv i=Y u->sl.sl i=Y j->σ[j]?=Y (Y u)
 ln:∀i j,sl.sl i=Y j->j < σ.length
section
variable {K:HX}{sl:Cf}{σ:L2.St}{Z Z':Fp}{H H':Hp}{Fs Fs':Fps}{η η':Env}{G G' R:Fp}
theorem At.frame (a:At K sl σ Z H Fs η R)(b:At K sl σ Z' H' Fs' η' G)(s:Step Z H (tot Fs) Z' H' λc=>tot Fs' c\/G c):
  At K sl σ Z' H' Fs' η' (λc=>R c\/G c)/\Step Z H (λc=>tot Fs c\/R c) Z' H' (λc=>tot Fs' c\/(R c\/G c))/\∀c,R c->¬G c:=by
 have o:=a.own.frame s a.dis;refine⟨⟨b.gd,b.env,λc d=>d.elim (o.1 c)<|b.own c,λc d=>d.elim (λz q=>o.2 c z<|.inl q)<|b.dis c,b.lk,b.ln⟩,(s.frame R).mono (λ_ z=>z) λc d=>?_,λc z q=>o.2 c z<|.inr q⟩;rcases d with z|z|z
 .exact .inl (.inl z)
 .exact .inr z
 .exact .inl (.inr z)
end
section
variable {K:HX}{sl:Cf}{sf:O->B O}{C:Call}{σ:L2.St}{Z Z' Z1:Fp}{H H' H1:Hp}{Fs Fs' Fs1:Fps}{η η' η1:Env}{G G' R F:Fp}
theorem At.mono (a:At K sl σ Z H Fs η G)(h:∀c,G' c->G c):At K sl σ Z H Fs η G':=⟨a.gd,a.env,λc b=>a.own c<|h c b,λc b=>a.dis c<|h c b,a.lk,a.ln⟩
theorem At.bare (a:At K sl σ Z H Fs η G):At K sl σ Z H Fs η no:=a.mono λ_ z=>z.elim
def wE (K:HX)(sl:O->B O)(C:Call)(e:E):TE:=λσ H Q=>∃b Z Fs η w η',At K ⟨sl,b⟩ σ Z H Fs η no/\evE C e η=.ok (w,η') /\
 ∀v Z' H' Fs' G,At K ⟨sl,b⟩ σ Z' H' Fs' η' G->Rep K Z' H' w.1 w.2 v G->Step Z H (tot Fs) Z' H' (λa=>tot Fs' a\/G a)->Q v H'
def wL (K:HX)(sl:O->B O)(C:Call)(e:U E):TA:=λσ H Q=>∃b Z Fs η d η',At K ⟨sl,b⟩ σ Z H Fs η no/\evL C e η=.ok (d,η') /\
 ∀c Z' H' Fs' G,At K ⟨sl,b⟩ σ Z' H' Fs' η' G->RepW K Z' H' d c G->Step Z H (tot Fs) Z' H' (λa=>tot Fs' a\/G a)->Q c H'
theorem ju {e:E}{w:W}{Q:VK}(A:At K sl σ Z H Fs η R)(ev:evE C e η=.ok (w,η'))
  (k:∀ v Z' H' Fs' G,At K sl σ Z' H' Fs' η' (fun c=>R c\/G c)->Rep K Z' H' w.1 w.2 v G->(∀ c,R c->¬ G c)->Step Z H (tot Fs) Z' H' (fun a=>tot Fs' a\/G a) ->
   Step Z H (λc=>tot Fs c\/R c) Z' H' (λc=>tot Fs' c\/(R c\/G c))->Q v H'):wE K sl.sl C e σ H Q:=
 ⟨sl.pv,Z,Fs,η,w,η',A.bare,ev,fun v Z' H' Fs' G b r s=>by
  obtain⟨d,f,g⟩:=A.frame b s;exact k v Z' H' Fs' G d r g s f⟩
theorem Du {e:U E}{d:U W}{Q:U V->Hp->Prop}(A:At K sl σ Z H Fs η R)(ev:evL C e η=.ok (d,η'))
  (k:∀ f Z' H' Fs' G,At K sl σ Z' H' Fs' η' (fun c=>R c\/G c)->RepW K Z' H' d f G->(∀ c,R c->¬ G c)->Step Z H (tot Fs) Z' H' (fun a=>tot Fs' a\/G a) ->
   Step Z H (λc=>tot Fs c\/R c) Z' H' (λc=>tot Fs' c\/(R c\/G c))->Q f H'):wL K sl.sl C e σ H Q:=
 ⟨sl.pv,Z,Fs,η,d,η',A.bare,ev,fun v Z' H' Fs' G b r s=>by
  obtain⟨g,h,i⟩:=A.frame b s;exact k v Z' H' Fs' G g r i s h⟩
theorem aa {c d:Type}{r:Res c}{f:c->Res d}{b:d}(h:r.bind f=.ok b):∃a,r=.ok a/\f a=.ok b:=by
 cases r with
 |ok a=>exact⟨a,rfl,h⟩
 |ex t=>cases h
 |no=>cases h
theorem aE {c:Type}{η:Env}{o:B c}{b:c×Env}(h:ret η o=.ok b):∃a,o=Y a/\b=(a,η):=by
 cases o with
 |none=>cases h
 |some a=>exact⟨a,rfl,by cases h;rfl⟩
theorem bH {c:Type}{o:B c}{b:c}(h:ofO o=.ok b):o=Y b:=by
 cases o with
 |none=>cases h
 |some a=>cases h;rfl
theorem aq {e:E}{a:U E}{c:U W}(h:evL C (e::a) η=.ok (c,η')):∃w η1 b,evE C e η=.ok (w,η1)/\evL C a η1=.ok (b,η')/\c=w::b:=by obtain⟨⟨w,η1⟩,d,f⟩:=aa<|show(evE C e η).bind (aY<|evL C a)=_ from h;obtain⟨⟨b,k⟩,g,i⟩:=aa<|show(evL C a η1).bind (mR w)=_ from f;cases i;exact⟨w,η1,b,d,g,rfl⟩
theorem fJ {e:E}{b:U E}{c:U W}(l:∀i,e≠.io i)(h:evA C (e::b) η=.ok (c,η')):∃w η1 a,evE C e η=.ok (w,η1)/\evA C b η1=.ok (a,η')/\c=w::a:=by rw[Ax l] at h;obtain⟨⟨w,η1⟩,d,f⟩:=aa h;obtain⟨⟨a,m⟩,g,k⟩:=aa<|show(evA C b η1).bind (mR w)=_ from f;cases k;exact⟨w,η1,a,d,g,rfl⟩
theorem jc {i:O}{b:U E}{c:U W}(h:evA C (.io i::b) η=.ok (c,η')):∃a η1 w,evA C b η=.ok (a,η1)/\rd η1 i=Y w/\c=w::a/\η'=del η1 i:=by obtain⟨⟨a,η1⟩,d,e⟩:=aa<|show(evA C b η).bind (kIo i)=_ from h;obtain⟨w,f,g⟩:=aa<|show(ofO<|rd η1 i).bind (λw=>.ok (w::a,del η1 i))=_ from e;cases g;exact⟨a,η1,w,d,bH f,rfl,rfl⟩
theorem EF (e:E):(∃i,e=.io i)\/∀i,e≠.io i:=by
 cases e with
 |io i=>exact .inl ⟨i,rfl⟩
 |_=>exact .inr λ_ z=>by cases z
theorem uB {e:E}{f:U E}(σ:L2.St)(H:Hp)(Q:U V->Hp->Prop)(h:wL K sf C (e::f) σ H Q):mG (wE K sf C e) (wL K sf C f) σ H Q:=by obtain⟨v,Z,Fs,η,D,η',A,ev,k⟩:=h;obtain⟨w,η1,y,p,r,rfl⟩:=aq ev;refine ju A p λx Z1 H1 Fs1 d c r1 _ s _=>?_;have a:=c.mono (G':=d) λ_ z=>.inr z;refine Du a r λg n m b l i r2 o t u=>?_;refine k (x::g) n m b _ i ⟨x,g,d,l,rfl,λ_ z=>.inl z,λ_ z=>.inr z,o,r1.frame c.gd.own t a.dis,r2⟩ ?_;exact s.trans u
theorem CT (σ:L2.St)(H:Hp)(Q:U V->Hp->Prop)(h:wL K sf C [] σ H Q):BH σ H Q:=by obtain⟨c,Z,Fs,η,d,η',A,ev,k⟩:=h;cases ev;exact k [] Z H Fs no A rfl ((Step.refl _ _ _).mono (λ_ z=>z) λa b=>b.elim id λz=>z.elim)
def Out (K:HX)(Z:Fp)(H:Hp)(G:Fp)(w:W)(Q:VK):Prop:=∀v Z' H' G',Rep K Z' H' w.1 w.2 v G'->Own Z' H' G'->Step Z H G Z' H' G'->Q v H'
theorem At.op (A:At K sl σ Z H Fs η G)(o:Own Z' H' G')(s:Step Z H G Z' H' G'):At K sl σ Z' H' Fs η G'/\Step Z H (λc=>tot Fs c\/G c) Z' H' (λc=>tot Fs c\/G' c):=by
 have d:∀a,tot Fs a->¬G a:=λa h q=>A.dis a q h;have f:=A.gd.own.frame s d;refine⟨⟨⟨f.1,A.gd.dis,s.za A.gd.zal⟩,λi m t e=>?_,o,λa b q=>f.2 a q b,A.lk,A.ln⟩,?_⟩
 .obtain ⟨v,r,g⟩:=A.env i m t e;exact⟨v,r.frame A.own s λa b=>d a ⟨i,b⟩,g⟩
 .refine(s.frame<|tot Fs).mono (λ_ z=>z.symm) λ_ z=>z.symm
theorem bb {w:W}{Q:VK}(A:At K sl σ Z1 H1 Fs1 η1 G)(s:Step Z H F Z1 H1 λa=>tot Fs1 a\/G a)
  (k:∀v Z' H' Fs' G,At K sl σ Z' H' Fs' η1 G->Rep K Z' H' w.1 w.2 v G->Step Z H F Z' H' (λa=>tot Fs' a\/G a)->Q v H'):Out K Z1 H1 G w Q:=λv Z' H' G' r o t=>by
 obtain⟨b,u⟩:=A.op o t;exact k v Z' H' Fs1 G' b r<|s.trans u
def Loc (K:HX)(n:O)(o:Op)(h:NN)(r:U V->Hp->VK->Prop):Prop:=∀(b:U W) (w:W) (c:U V) (Z:Fp) (H:Hp) (G:Fp) (Q:VK),b.length=n->oSem o h b=Y w->RepW K Z H b c G->Own Z H G->(∀a,Z a->H a≠J)->Out K Z H G w Q->r c H Q
theorem bS {o:Op}{h:NN}{c:U E}{w:W}(e:evE C (.op o h c) η=.ok (w,η')):∃b,evL C c η=.ok (b,η')/\oSem o h b=Y w:=by obtain⟨⟨b,η1⟩,d,f⟩:=aa<|show(evL C c η).bind (kOp o h)=_ from e;obtain⟨a,g,i⟩:=aE<|show ret η1 (oSem o h b)=_ from f;cases i;exact⟨b,d,g⟩
theorem eZ:∀{a:U E} {η η':Env} {b:U W},evL C a η=.ok (b,η')->b.length=a.length
|[],_,_,_,h=>by cases h;rfl
|e::a,_,_,_,h=>by obtain⟨w,η1,d,_,c,rfl⟩:=aq h;rw[Ii,Ii,eZ c]
theorem jx {n:O}{o:Op}{h:NN}{b:U E}{r:U V->Hp->VK->Prop}(l:Loc K n o h r)(f:b.length=n)(σ:L2.St)(H:Hp)(Q:VK)(g:wE K sf C (.op o h b) σ H Q):tCB r (wL K sf C b) σ H Q:=by obtain⟨i,Z,Fs,η,w,η',A,ev,k⟩:=g;obtain⟨d,c,e⟩:=bS ev;exact⟨i,Z,Fs,η,d,η',A,c,λm Z' H' Fs' G a r s=>l d w m Z' H' G Q ((eZ c).trans f) e r a.own a.gd.zal<|bb a s k⟩
theorem aH {o:Op}{h:NN}{a b:E}{r:R2}(l:Loc K 2 o h λxs H Q=>∀x y,xs=[x,y]->r x y H Q)(σ:L2.St)(H:Hp)(Q:VK)(v:wE K sf C (.op o h [a,b]) σ H Q):tOp r (wE K sf C a) (wE K sf C b) σ H Q:=by obtain⟨pv,Z,Fs,η,w,η',A,ev,k⟩:=v;obtain⟨ws,t,u⟩:=bS ev;obtain⟨P,η1,N,e1,e2,rfl⟩:=aq t;obtain⟨wb,η2,N,e3,s,rfl⟩:=aq e2;cases s;refine ju A e1 λx Z1 H1 Fs1 f e r1 _ D _=>?_;have c:=e.mono (G':=f) λ_ z=>.inr z;refine ju c e3 λy n m g i d r2 p I M=>?_;exact l [P,wb] w [x,y] n m _ Q rfl u ⟨x,[y],f,i,rfl,λ_ z=>.inl z,λ_ z=>.inr z,p,r1.frame e.gd.own I c.dis,RepW.one r2⟩ d.own d.gd.zal (bb d (D.trans M) k) x y rfl
theorem bj:Own Z H no:=λ_ z=>z.elim
theorem Step.drop:Step Z H G Z H no:=(Step.refl Z H G).mono (λ_ z=>z) λ_ z=>z.elim
section
variable {Q:VK}{m:Md}{ts:U T}{xs:U V}
theorem aX {i:j}(k:Out K Z H G (m,.int i) Q):Q (.int i) H:=k _ Z H no rfl bj .drop
theorem br {b:NN}(k:Out K Z H G (m,.bl b) Q):Q (.bl b) H:=k _ Z H no rfl bj .drop
theorem iS {x:Str}(k:Out K Z H G (m,.str x) Q)(h:sOk x=HV):Q (.str x) H:=k _ Z H no ⟨rfl,h⟩ bj .drop
theorem bM {t:T}{v:V}(o:Own Z H G)(k:Out K Z H G (m,t) Q)(r:Rep K Z H m t v G):Q v H:=k v Z H G r o<|.refl _ _ _
theorem f6 {p:NM}{o:HO}(hp:H p=J):Stay Z H (upd H p o):=by
 have b:∀{a u},H a=Y u->a≠p:=λ{a u} e z=>by subst z;rw[hp] at e;cases e
 refine⟨λa u _ e=>?_,λa xs e=>?_,λa u v e=>?_⟩
 .rw[af<|b e];exact e
 .rcases e with e | ⟨u,e⟩
  .exact .inl (by rw[af<|b e];exact e)
  .exact .inr ⟨u,by rw[af<|b e];exact e⟩
 .rw[af<|b e];exact e
theorem dZ {p:NM}{o:HO}(hp:H p=J)(k:Own Z H G)(f:∀a,G' a->G a\/a=p)(z:Fp)(g:∀a,Z a->z a)(b:∀a,z a->Z a\/G a):Step Z H G z (upd H p o) G':=by
 have i:∀{a u},H a=Y u->a≠p:=λ{a u} e q=>by subst q;rw[hp] at e;cases e
 have d:∀a,H a≠J->upd H p o a≠none:=λa h=>by
  by_cases e:a=p
  .rw[e,ag];simp
  .rw[af e];exact h
 refine⟨λa u e _=>by rw[af<|i e];exact e,g,λa h=>(b a h).imp id .inl,λa h=>(f a h).imp id λe=>by rw[e];exact hp,d,λq a h=>d a ?_⟩;rcases b a h with c|c
 .exact q a c
 .obtain ⟨_,xs,e⟩:=k a c;rw[e];simp
theorem bG {p:NM}(b:Own Z H G)(o:∀a,Z a->H a≠J)(c:∀a,G' a->G a)(g:xs.length<=LIM)(r:RepL K (bW Z G G') H m.kid ts xs G')(i:m≠.s)(k:Out K Z H G (m,.lst ts) Q)(hp:H p=J):Q (.ref p) (upd H p<|.lst xs):=by
 have d:∀{a u},H a=Y u->a≠p:=λ{a u} e q=>by subst q;rw[hp] at e;cases e
 have l:∀a,G' a->a≠p:=λa h=>by obtain⟨_,f,e⟩:=b a<|c a h;exact d e
 refine k _ (bW Z G G') _ (λa=>G' a\/a=p) ⟨p,xs,rfl,g,(LstR.own i).mpr ⟨.inr rfl,ag⟩,?_⟩ ?_<|dZ hp b (λa h=>h.imp (c a) id) _ (λa h=>.inl h) λa h=>h.imp id Kk
 .refine(r.keep (f6 hp) (λ_ z=>z) λa u _ e=>by rw[af<|d e];exact e).mono λa h=>⟨.inl h,l a h⟩
 .rintro a (h | h)
  .obtain ⟨n,f,e⟩:=b a<|c a h;exact⟨λz=>z.elim n λq=>q.2 h,f,by rw[af<|d e];exact e⟩
  .subst h;refine⟨λz=>z.elim (λq=>o a q hp) λq=>?_,.inl xs,ag⟩;obtain⟨_,f,e⟩:=b a q.1;rw[hp] at e;cases e
theorem mV {p:NM}(d:Own Z H G)(b:∀a,G' a->G a)(f:xs.length<=LIM)(r:RepL K (bW Z G G') H m.kid ts xs G')(k:Out K Z H G (m,.tup ts) Q)(hp:H p=J):Q (.ref p) (upd H p<|.tup xs):=by
 have c:∀{a u},H a=Y u->a≠p:=λ{a u} e q=>by subst q;rw[hp] at e;cases e
 refine k _ (bW Z G G') _ G' ⟨p,xs,rfl,.inl<|.inl ag,f,?_⟩ ?_<|dZ hp d (λa h=>.inl<|b a h) _ (λa h=>.inl h) λa h=>h.imp id Kk
 .exact r.keep (f6 hp) (λ_ z=>z) λa u _ e=>by rw[af<|c e];exact e
 .intro a h;obtain⟨g,i,e⟩:=d a<|b a h;exact⟨λz=>z.elim g λq=>q.2 h,i,by rw[af<|c e];exact e⟩
theorem fW {v:V}{H':Hp}(i:Own Z H G)(g:∀a,G' a->G a)(l:xs.length<=LIM)(r:RepL K (bW Z G G') H m.kid ts xs G')(k:Out K Z H G (m,.tup ts) Q)(same:∀b o,H b=Y o->H' b=Y o)(p:∃c,v=.ref c/\SqT K H' c xs):Q v H':=by
 obtain⟨c,rfl,n⟩:=p
 have f:∀a,H a≠J->H' a≠none:=λa h=>by
  cases e:H a with
  |none=>exact NP e h
  |some o=>rw[same a o e];simp
 refine k _ (bW Z G G') _ G' ⟨c,xs,rfl,n,l,?_⟩ (λa h=>?_) ⟨λa o e _=>same a o e,λa h=>.inl h,λa h=>h.imp id λq=>.inl q.1,λa h=>.inl<|g a h,f,λq a h=>f a ?_⟩
 .refine r.keep ⟨fun a o _ e=>same a o e,fun a d e=>?_,fun a o u e=>same a _ e⟩ (fun _ z=>z) fun a u _ e=>same a u e;rcases e with e|⟨u,e⟩
  .exact .inl (same a _ e)
  .exact .inr ⟨u,same a _ e⟩
 .obtain ⟨s,d,e⟩:=i a<|g a h;exact⟨λz=>z.elim s λq=>q.2 h,d,same a _ e⟩
 .rcases h with h | h
  .exact q a h
  .obtain ⟨_,d,e⟩:=i a h.1;rw[e];simp
theorem cP {p:NM}{h:NN}{w:W}(g:Own Z H G)(i:∀a,Z a->H a≠J)(f:xs.length<=LIM)(r:∃G',(∀a,G' a->G a)/\RepL K (bW Z G G') H m ts xs G')(b:newL h m ts=Y w)(k:Out K Z H G w Q)(hp:H p=J):Q (.ref p) (upd H p<|.lst xs):=by
 obtain⟨G',l,r⟩:=r;unfold newL at b;split at b
 .split at b
  .rename_i c;cases b;refine bG (m:=.d) (G':=no) g i (λ_ z=>z.elim) f ?_ (by simp) k hp;exact r.leaves (λ_ _ _ e=>e) c
  .cases b
 .cases b;exact bG (m:=m.up) g i l f (by rw[df];exact r) (ck m) k hp
end
end
section
variable {K:HX}{h:NN}
theorem cj {d f:Type}{c:U d}{x y:f}(e:c.length=[x,y].length):∃a b,c=[a,b]:=by
 match c,e with
 |[a,b],_=>exact⟨a,b,rfl⟩
theorem Gf {c d:Type}{b:U c}{x:d}(e:b.length=[x].length):∃a,b=[a]:=by
 match b,e with
 |[a],_=>exact⟨a,rfl⟩
theorem bf {Z:Fp}{H:Hp}{G:Fp}{u w:W}{x y:V}(r:RepW K Z H [u,w] [x,y] G):∃b c,(∀a,b a->G a)/\(∀a,c a->G a)/\(∀a,b a->¬c a)/\Rep K Z H u.1 u.2 x b/\Rep K Z H w.1 w.2 y c:=by obtain⟨v,t,b,c,e,k,l,d,p,A,r2,i,n,e2,g,s,o,q,z⟩:=r;cases e;cases e2;exact⟨b,i,k,λa f=>l a<|g a f,λa f m=>d a f<|g a m,p,q⟩
theorem Eb {Z:Fp}{H:Hp}{G:Fp}{w:W}{x:V}(r:RepW K Z H [w] [x] G):Rep K Z H w.1 w.2 x G:=by obtain⟨i,g,b,c,e,a,f,d,p,z⟩:=r;cases e;exact p.mono a
theorem bh {b:U W}{a:U V}{Z:Fp}{H:Hp}{G:Fp}{w:W}(c:b=[w])(r:RepW K Z H b a G):∃x,a=[x]/\Rep K Z H w.1 w.2 x G:=by subst c;obtain⟨x,hx⟩:=Gf (x:=())<|show a.length=[()].length from r.length;subst hx;exact⟨x,rfl,Eb r⟩
theorem jf {n:O}(h:n<=LIM):n<sizeLine:=Mw h<|by decide
theorem LIM_le {n:O}(h:n<=LIM):n<=sizeLine:=Lq<|jf h
theorem cw {n:O}(h:fits n=HV):n<=LIM:=NY h
theorem x9 {o:Op}{C:j->j->Prop}{g:j->j->T}(b:∀{u v w:W},oSem o h [u,v]=Y w->∃m n i a,u=(m,.int i)/\v=(n,.int a)/\C i a/\w=(.d,g i a))(f:j->j->V)(p:∀{Z:Fp} {H:Hp} {G:Fp} {Q:VK} {i a:j},Out K Z H G (.d,g i a) Q->Q (f i a) H):
  Loc K 2 o h λl H Q=>∀x y,l=[x,y]->rI C f x y H Q:=by
 intro D w l Z H G Q z e r A F k x y hx;subst hx;obtain⟨u,v,rfl⟩:=cj r.length.symm;obtain⟨m,n,i,a,rfl,rfl,c,rfl⟩:=b e;obtain⟨s,t,_,_,_,r1,r2⟩:=bf r;exact⟨i,a,r1,r2,c,p k⟩
theorem iN {o:Op}{g:j->j->T}(b:∀{u v w:W},oSem o h [u,v]=Y w->∃m n i a,u=(m,.int i)/\v=(n,.int a)/\w=(.d,g i a))(c:j->j->V)(l:∀{Z:Fp} {H:Hp} {G:Fp} {Q:VK} {i a:j},Out K Z H G (.d,g i a) Q->Q (c i a) H):
  Loc K 2 o h λf H Q=>∀x y,f=[x,y]->rI0 c x y H Q:=by
 intro A w f Z H G Q t e r z D k x y hx;subst hx;obtain⟨u,v,rfl⟩:=cj r.length.symm;obtain⟨m,n,i,a,rfl,rfl,rfl⟩:=b e;obtain⟨p,s,_,_,_,r1,r2⟩:=bf r;exact⟨i,a,r1,r2,l k⟩
theorem va {u v w:W}(e:oSem .sub h [u,v]=Y w):∃m n i c,u=(m,.int i)/\v=(n,.int c)/\w=(.d,.int<|i-c):=by obtain⟨m,a⟩:=u;obtain⟨n,b⟩:=v;cases a<;>first|(cases e;done)|(cases b<;>first|(cases e;exact⟨_,_,_,_,rfl,rfl,rfl⟩)|cases e)
theorem uk {u v w:W}(e:oSem .lt h [u,v]=Y w):∃m n i c,u=(m,.int i)/\v=(n,.int c)/\w=(.d,.bl<|decide (i<c)):=by obtain⟨m,a⟩:=u;obtain⟨n,b⟩:=v;cases a<;>first|(cases e;done)|(cases b<;>first|(cases e;exact⟨_,_,_,_,rfl,rfl,rfl⟩)|cases e)
theorem qk {u v w:W}(e:oSem .gt h [u,v]=Y w):∃m n i c,u=(m,.int i)/\v=(n,.int c)/\w=(.d,.bl<|decide (c<i)):=by obtain⟨m,a⟩:=u;obtain⟨n,b⟩:=v;cases a<;>first|(cases e;done)|(cases b<;>first|(cases e;exact⟨_,_,_,_,rfl,rfl,rfl⟩)|cases e)
theorem tD {u v w:W}(e:oSem .ge h [u,v]=Y w):∃m n i c,u=(m,.int i)/\v=(n,.int c)/\w=(.d,.bl<|decide (c<=i)):=by obtain⟨m,a⟩:=u;obtain⟨n,b⟩:=v;cases a<;>first|(cases e;done)|(cases b<;>first|(cases e;exact⟨_,_,_,_,rfl,rfl,rfl⟩)|cases e)
theorem vN {u v w:W}(e:oSem .mod h [u,v]=Y w):∃m n i c,u=(m,.int i)/\v=(n,.int c)/\(0<c)/\w=(.d,.int<|i % c):=by
 obtain⟨m,a⟩:=u;obtain⟨n,b⟩:=v;cases a<;>first|(cases e;done)|(cases b<;>try (cases e;done))
 rename_i i c;rw[yp] at e;split at e
 .rename_i f;rw[NZ] at f;cases e;exact⟨_,_,_,_,rfl,rfl,f,rfl⟩
 .cases e
theorem vS {u v w:W}(e:oSem .pow h [u,v]=Y w):∃m n i c,u=(m,.int i)/\v=(n,.int c)/\Cm i c/\w=(.d,.int<|i ^ c.toNat):=by
 obtain⟨m,a⟩:=u;obtain⟨n,b⟩:=v;cases a<;>first|(cases e;done)|(cases b<;>try (cases e;done))
 rename_i i c;rw[EB] at e;split at e
 .rename_i f;rw[Iq,Iq,NZ,NZ,NZ] at f;cases e;exact⟨_,_,_,_,rfl,rfl,⟨f.1.1,f.1.2,f.2⟩,rfl⟩
 .cases e
theorem vD:Loc K 2 .sub h λb H Q=>∀x y,b=[x,y]->rI0 (λi a=>.int<|i-a) x y H Q:=iN va _ λk=>aX k
theorem zt:Loc K 2 .lt h λb H Q=>∀x y,b=[x,y]->rI0 (λi a=>.bl<|decide (i<a)) x y H Q:=iN uk _ λk=>br k
theorem CB:Loc K 2 .gt h λb H Q=>∀x y,b=[x,y]->rI0 (λi a=>.bl<|decide (a<i)) x y H Q:=iN qk _ λk=>br k
theorem Aa:Loc K 2 .ge h λb H Q=>∀x y,b=[x,y]->rI0 (λi a=>.bl<|decide (a<=i)) x y H Q:=iN tD _ λk=>br k
theorem vE:Loc K 2 .mod h λb H Q=>∀x y,b=[x,y]->rI (λ_ a=>0<a) (λi a=>.int<|i % a) x y H Q:=x9 vN _ λk=>aX k
theorem wQ:Loc K 2 .pow h λb H Q=>∀x y,b=[x,y]->rI Cm (λi a=>.int<|i ^ a.toNat) x y H Q:=x9 vS _ λk=>aX k
theorem bg {Z:Fp}{H:Hp}{G:Fp}{m:Md}{c:U T}{v:V}(r:Rep K Z H m (.lst c) v G):∃a b,v=.ref a/\H a=Y (.lst b)/\b.length<=LIM/\RepL K Z H m.kid c b G:=by obtain⟨a,b,e,l,q,p⟩:=r;exact⟨a,b,e,by cases m<;>exact q.2,l,p.mono λ_ z=>z.1⟩
theorem bT {Z:Fp}{H:Hp}{G:Fp}{m:Md}{c:U T}{v:V}(r:Rep K Z H m (.tup c) v G):∃a b,v=.ref a/\SqT K H a b/\b.length<=LIM/\RepL K Z H m.kid c b G:=r
theorem gE {Z:Fp}{H:Hp}{G g i:Fp}{m n:Md}{o p:U T}{t u:U V}(r:∀a,g a->G a)(s:∀a,i a->G a)(d:∀a,g a->¬i a)(r1:RepL K Z H m o t g)(r2:RepL K Z H n p u i):
  ∃f,(∀a,f a->G a)/\RepL K (bW Z G f) H (m.meet n) (o++p) (t++u) f:=by
 obtain⟨A,k,v⟩:=RepL.weak (cA m n).1 r1;obtain⟨c,l,x⟩:=RepL.weak (cA m n).2 r2;refine⟨λb=>A b\/c b,λb e=>e.elim (λz=>r b<|k b z) λz=>s b<|l b z,RepL.append (λ_ z=>.inl z) (λ_ z=>.inr z) (λb y D=>d b (k b y)<|l b D) (v.zmono λb e=>?_)<|x.zmono λb e=>?_⟩
 .exact e.imp id λz=>⟨r b z.1,λq=>q.elim z.2 λw=>d b z.1<|l b w⟩
 .exact e.imp id λz=>⟨s b z.1,λq=>q.elim (λw=>d b (k b w) z.1) z.2⟩
theorem vB {p q:Str}(a:sOk p=HV)(b:sOk q=HV)(c:p.cps.size+q.cps.size<=LIM):sOk (p++q)=true:=by
 unfold sOk at *;rw[Iq] at *;refine⟨?_,NS ?_⟩
 .show Array.all (p.cps++q.cps) _=HV;rw[Array.all_append,Iq];exact⟨a.1,b.1⟩
 .show (p.cps++q.cps).size<=LIM;rw[Array.size_append];exact c
theorem vq (P:R2)(hT:∀{Z:Fp} {H:Hp} {G:Fp} {Q:VK} {a b:NM} {f o:U V} {v:U T},SqT K H a f->SqT K H b o->f≠[]->f.length+o.length<=LIM->Own Z H G->(∃A,(∀a,A a->G a)/\RepL K (bW Z G A) H .s v (f++o) A)->Out K Z H G (.s,.tup v) Q->P (.ref a) (.ref b) H Q):
  Loc K 2 .add h λf H Q=>∀x y,f=[x,y]->rI0 (λi c=>.int<|i+c) x y H Q\/(∃i c,x=.str i/\y=.str c/\i.length+c.length<=sizeLine/\Q (.str<|i++c) H)\/DT x y H Q\/P x y H Q:=by
 intro ws w f Z H G Q hn e r N za k x y hx;subst hx;obtain⟨⟨m,a⟩,⟨n,b⟩,rfl⟩:=cj r.length.symm;obtain⟨G1,G2,w1,w2,d,r1,r2⟩:=bf r;cases a<;>first|(cases e;done)|(cases b<;>try (cases e;done))
 .cases e;exact .inl ⟨_,_,r1,r2,aX k⟩
 .rename_i p q;rw[qJ] at e;split at e
  .rename_i g;cases e;refine .inr<|.inl ⟨p,q,r1.1,r2.1,LIM_le<|cw g,iS k ?_⟩;exact vB r1.2 r2.2<|cw g
  .cases e
 .rename_i v us;rw[qv] at e;split at e
  .rename_i g;cases e;rw[Iq] at g;obtain⟨a,f,rfl,M,hl,p⟩:=bT r1;obtain⟨b,o,rfl,l,F,u⟩:=bT r2;have t:=cw g.1;have e1:=p.length;have e2:=u.length;refine .inr (.inr (.inr (hT M l ?_ (by lia) N ?_ k)))
   .rintro rfl;cases v with
    |nil=>simp at g
    |cons _ _=>simp at e1
   .refine ⟨no,fun _ z=>z.elim,RepL.append (G1:=no) (G2:=no) (fun _ z=>z) (fun _ z=>z) (fun _ z _=>z) ((RepL.sh p).zmono fun b D=>?_) ((RepL.sh u).zmono fun b D=>?_)⟩
    .exact D.imp id λz=>⟨w1 b z,λq=>q⟩
    .exact D.imp id λz=>⟨w2 b z,λq=>q⟩
  .cases e
 .rename_i v us;rw[ua] at e;split at e
  .rename_i g;obtain⟨a,f,rfl,M,hl,p⟩:=bg r1;obtain⟨b,o,rfl,l,F,u⟩:=bg r2;have t:=cw g;have e1:=p.length;have e2:=u.length;have I:(f++o).length<=LIM:=by rw[IA];lia
   refine .inr<|.inr<|.inl ⟨a,b,f,o,rfl,rfl,M,l,LIM_le<|by lia,λq hq=>?_⟩;exact cP N za I (gE w1 w2 d p u) e k hq
  .cases e
theorem u7:Loc K 2 .mul h λl H Q=>∀x y,l=[x,y]->rI CMul (λi f=>.int<|i * f) x y H Q\/Fd x y H Q:=by
 intro ws w l Z H G Q hn e r N za k x y hx;subst hx;obtain⟨⟨m,a⟩,⟨n,b⟩,rfl⟩:=cj r.length.symm;obtain⟨G1,G2,P,w2,d,r1,r2⟩:=bf r;cases a<;>first|(cases e;done)|(cases b<;>try (cases e;done))
 .rename_i i f;rw[tF] at e;split at e
  .rename_i o;cases e;refine .inl ⟨i,f,r1,r2,?_,aX k⟩;rw[MD,NZ,NZ] at o;have u:(2:j) ^ 64=18446744073709551616:=by decide
   unfold CMul;rw[u];lia
  .cases e
 .rename_i A f;have t:(if decide (f.natAbs<4611686018427387904)&&fits (A.length * f.toNat) then newL h .s (Iu f.toNat A).flatten else J)=Y w:=e;split at t
  .rename_i o;rw[Iq,NZ] at o;obtain⟨a,l,rfl,I,hl,p⟩:=bg r1;have g:=cw o.2;have e1:=p.length;have v:((Iu f.toNat l).flatten).length<=LIM:=by rw[List.length_flatten,List.map_replicate,List.sum_replicate_nat,e1,MW];exact g
   refine .inr ⟨a,f,l,rfl,r2,I,by lia,by lia,LIM_le<|by rw[e1];exact g,λq F=>?_⟩;refine cP N za v ⟨no,λ_ z=>z.elim,?_⟩ t k F;have ps:=(RepL.sh p).zmono (Z':=bW Z G no) λb D=>D.imp id λz=>⟨P b z,λq=>q⟩;generalize f.toNat=c;induction c with
   |zero=>exact rfl
   |succ c M=>exact RepL.append (λ_ z=>z) (λ_ z=>z) (λ_ z _=>z) ps M
  .cases t
theorem tJ {Z:Fp}{H:Hp}{G:Fp}{m:Md}{b:U T}{c:U V}{i:j}{t:T}(p:RepL K Z H m b c G)(e:M.atI b i=Y t):∃x,L2.atI c i=Y x/\Rep K Z H m t x G:=by
 unfold M.atI at e;have d:M.ixN b.length i=L2.ixN c.length i:=by rw[p.length];rfl
 cases e1:M.ixN b.length i with
 |none=>rw[e1] at e;cases e
 |some a=>rw[e1] at e;obtain⟨x,hx,r⟩:=p.get<|show b[a]?=Y t from e;refine⟨x,?_,r⟩;unfold L2.atI;rw[<- d,e1];exact hx
theorem vM {x:Str}{c:O}(h:sOk x=HV)(d:c∈x.cps.toList):sOk ⟨#[c]⟩=true:=by
 unfold sOk at *;rw[Iq] at *;refine⟨?_,rfl⟩;have a:=h.1;rw[LD] at a;have b:=a c<|Array.mem_def.mpr d;rw[LD];intro y e;have:y=c:=by simpa using e
 rw[this];exact b
theorem iO {x:Str}(h:sOk x=HV):x.cps.size<=LIM:=by unfold sOk at h;rw[Iq,NZ] at h;exact h.2
theorem CS:Loc K 2 .ix h λl H Q=>∀x y,l=[x,y]->(∃p l i v,x=.ref p/\y=.int i/\(SqL K H p l\/SqT K H p l)/\L2.atI l i=Y v/\Q v H)\/(∃z i c,x=.str z/\y=.int i/\z.length<=sizeLine/\L2.atI z.cps.toList i=Y c/\Q (.str ⟨#[c]⟩) H):=by
 intro ws w l Z H G Q hn e r F za k x y hx;subst hx;obtain⟨⟨m,a⟩,⟨n,b⟩,rfl⟩:=cj r.length.symm;obtain⟨P,G2,I,w2,d,r1,r2⟩:=bf r;obtain⟨i,rfl⟩:∃i,b=.int i:=by cases b<;>first|exact⟨_,rfl⟩|(cases e;done)|(cases a<;>cases e)
 cases a with
 | lst u =>
  obtain⟨a,l,rfl,s,N,p⟩:=bg r1;have g:(M.atI u i).map (λt=>(m.kid,t))=Y w:=e;cases e1:M.atI u i with
  |none=>rw[e1] at g;cases g
  |some t=>rw[e1] at g;cases g;obtain⟨v,A,D⟩:=tJ p e1;exact .inl ⟨a,l,i,v,rfl,r2,.inl<|.inl<|.inl s,A,bM F k<|D.mono I⟩
 | tup u =>
  obtain⟨a,l,rfl,s,N,p⟩:=bT r1;have g:(M.atI u i).map (λt=>(m.kid,t))=Y w:=e;cases e1:M.atI u i with
  |none=>rw[e1] at g;cases g
  |some t=>rw[e1] at g;cases g;obtain⟨v,A,D⟩:=tJ p e1;exact .inl ⟨a,l,i,v,rfl,r2,.inr s,A,bM F k<|D.mono I⟩
 | str z =>
  have g:(M.atI z.cps.toList i).map (λc=>((.d,.str ⟨#[c]⟩):W))=Y w:=e;cases e1:M.atI z.cps.toList i with
  |none=>rw[e1] at g;cases g
  |some c=>
   rw[e1] at g;cases g;refine .inr ⟨z,i,c,r1.1,r2,LIM_le<|iO r1.2,e1,iS k<|vM r1.2 ?_⟩;unfold M.atI at e1;cases e2:M.ixN z.cps.toList.length i with
   |none=>rw[e2] at e1;cases e1
   |some f=>rw[e2] at e1;exact J8 e1
 | scr o =>
  obtain⟨a,rfl,hL,s⟩:=r1;have g:(M.atI o i).map (λn=>((.d,.int n):W))=Y w:=e;cases e1:M.atI o i with
  |none=>rw[e1] at g;cases g
  | some n =>
   rw[e1] at g;cases g;refine .inl ⟨a,_,i,.int n,rfl,r2,.inl s.sq,?_,aX k⟩;unfold M.atI at e1;unfold L2.atI;rw[Ie];cases e2:M.ixN o.length i with
   |none=>rw[e2] at e1;cases e1
   |some f=>rw[e2] at e1;rw[show L2.ixN o.length i=Y f from e2];show(o.map V.int)[f]?=_;rw[IW,show o[f]?=Y n from e1];rfl
 |_=>cases e
theorem u6:Loc K 1 .len h λb H Q=>∃x n,b=[x]/\(match x with
  |.str y=>y.length<=sizeLine/\n=y.length
  |.byt y=>y.size<=sizeLine/\n=y.size
  |.ref p=>(∃b,SqL K H p b/\n=b.length)\/∃b,SqT K H p b/\n=b.length
  |_=>N2)/\Q (.int (n:O)) H:=by
 intro l w b Z H G Q g e r s t k
 match l,g with
 | [(m,a)],_ =>
  obtain⟨x,rfl,r1⟩:=bh rfl r;cases a with
  |lst d=>obtain⟨a,b,hx,c,f,p⟩:=bg r1;cases e;refine⟨x,d.length,rfl,?_,aX k⟩;rw[show x=.ref a from hx];exact .inl ⟨b,.inl<|.inl c,p.length.symm⟩
  |tup d=>obtain⟨a,b,hx,c,f,p⟩:=bT r1;cases e;refine⟨x,d.length,rfl,?_,aX k⟩;rw[show x=.ref a from hx];exact .inr ⟨b,c,p.length.symm⟩
  |str z=>cases e;refine⟨x,z.length,rfl,?_,aX k⟩;rw[show x=.str z from r1.1];exact⟨LIM_le<|iO r1.2,rfl⟩
  |scr i=>obtain⟨a,hx,o,c⟩:=r1;cases e;refine⟨x,i.length,rfl,?_,aX k⟩;rw[show x=.ref a from hx];exact .inl ⟨_,c.sq,by rw[Ie]⟩
  |_=>cases e
theorem kA {Z:Fp}{H:Hp}{G:Fp}{m:Md}:∀a:U j,RepL K Z H m (a.map T.int) (a.map V.int) G
|[]=>rfl
|n::a=>⟨.int n,a.map V.int,no,no,rfl,λ_ z=>z.elim,λ_ z=>z.elim,λ_ z=>z.elim,rfl,kA a⟩
theorem uj:Loc K 1 .list h λb H Q=>∃p i,b=[.ref p]/\(SqL K H p i\/SqT K H p i)/\∀l,H l=J->Q (.ref l) (upd H l<|.lst i):=by
 intro v w b Z H G Q s e r g n k
 match v,s with
 | [(m,a)],_ =>
  obtain⟨x,rfl,r1⟩:=bh rfl r;cases a with
  |lst u=>obtain⟨a,b,hx,d,f,p⟩:=bg r1;refine⟨a,b,by rw[hx],.inl<|.inl<|.inl d,λq c=>cP g n f ⟨G,λ_ z=>z,p.zmono λ_ z=>.inl z⟩ e k c⟩
  |tup u=>obtain⟨a,b,hx,d,f,p⟩:=bT r1;refine⟨a,b,by rw[hx],.inr d,λq c=>cP g n f ⟨G,λ_ z=>z,p.zmono λ_ z=>.inl z⟩ e k c⟩
  |scr t=>obtain⟨a,hx,o,d⟩:=r1;cases e;refine⟨a,_,by rw[hx],.inl d.sq,λq c=>bG (G':=no) g n (λ_ z=>z.elim) (by rw[Ie];exact o) (kA t) (by simp) k c⟩
  |_=>cases e
theorem nR {Z:Fp}{H:Hp}{G:Fp}{m:Md}:∀{a:U T} {b:U NN} {c:U V},a0 a=Y b->RepL K Z H m a c G->c=b.map V.bl:=by
 intro a;induction a generalizing G with
 |nil=>intro b c e r;cases e;exact r
 | cons t a d =>
  intro b c e r;obtain⟨x,l,g,k,rfl,_,_,_,p,q⟩:=r;cases t with
  | bl i =>
   cases e1:a0 a with
   |none=>simp[a0,e1] at e
   |some f=>
    have:b=i::f:=by simpa[a0,e1] using e.symm
    subst this;rw[Io,<- d e1 q,show x=.bl i from p]
  |_=>cases e
theorem vF:Loc K 1 .all h λf H Q=>∃(a:NM) (bs:U NN),f=[.ref a]/\SqL K H a (bs.map V.bl)/\Q (.bl<|bs.all id) H:=by
 intro n w f Z H G Q l e r s t k
 match n,l with
 | [(m,a)],_ =>
  obtain⟨x,rfl,r1⟩:=bh rfl r;cases a with
  | lst i =>
   obtain⟨a,f,hx,g,o,p⟩:=bg r1;have b:(a0 i).map (λc=>((.d,.bl (c.all id)):W))=Y w:=e;cases e1:a0 i with
   |none=>rw[e1] at b;cases b
   |some c=>rw[e1] at b;cases b;rw[nR e1 p] at g;exact⟨a,c,by rw[hx],.inl<|.inl g,br k⟩
  |_=>cases e
end
section
variable {K:HX}{sl:Cf}{sf:O->B O}{C:Call}{σ:L2.St}{Z Z' Z1:Fp}{H H' H1:Hp}{Fs Fs' Fs1:Fps}{η η' η1:Env}{G G' R F:Fp}
mutual
theorem Rep.sany:∀{t:T} {v:V} {G G':Fp},Rep K Z H .s t v G->Rep K Z H .s t v G'
|.non,_,_,_,h=>h
|.bl _,_,_,_,h=>h
|.int _,_,_,_,h=>h
|.str _,_,_,_,h=>h
|.scr _,_,_,_,h=>h
|.tup ts,_,_,_,⟨a,xs,e,q,l,r⟩=>⟨a,xs,e,q,l,RepL.sany r⟩
|.lst ts,_,_,_,⟨a,xs,e,l,q,r⟩=>⟨a,xs,e,l,q,RepL.sany r⟩
|.dct _ _,_,_,_,⟨a,xs,e,l,q,n,hl,r⟩=>⟨a,xs,e,l,q,n,hl,r⟩
|.ins _ _ _,_,_,_,h=>h
|.dtt _ _,_,_,_,h=>h
|.gone,_,_,_,h=>h
theorem RepL.sany:∀{ts:U T} {xs:U V} {G G':Fp},RepL K Z H .s ts xs G->RepL K Z H .s ts xs G'
|[],_,_,_,h=>h
|t::ts,xs,_,_,⟨x,r,G1,G2,e,h1,h2,hd,p,q⟩=>⟨x,r,no,no,e,λ_ z=>z.elim,λ_ z=>z.elim,λ_ z=>z.elim,Rep.sany p,RepL.sany q⟩
end
theorem bo:∀(η:Env) (i a:O) (o:B W),rd (wr η i o) a=if a=i/\i < η.length then o else rd η a
|[],i,a,o=>by simp[wr,rd]
|p::η,0,0,o=>by simp[wr,rd]
|p::η,0,a+1,o=>by simp[wr,rd]
|p::η,i+1,0,o=>by simp[wr,rd]
|p::η,i+1,a+1,o=>by show rd (wr η i o) a=_;rw[bo η i a o];simp[rd]
theorem cM:∀{η:Env} {i:O} {w:W},rd η i=Y w->i < η.length
|[],_,_,h=>by cases h
|_::_,0,_,_=>by simp
|_::η,i+1,_,h=>by have:=cM (η:=η) (i:=i) h;simp;exact this
theorem ej (h:∀a,F a->G a):Step Z H G Z H F:=(Step.refl Z H G).mono (λ_ z=>z) h
theorem BV {i b:O}(g:sf i=Y b)(σ:L2.St)(H:Hp)(Q:VK)(h:wE K sf C (.var i) σ H Q):iR b σ H Q:=by
 obtain⟨n,Z,Fs,η,w,η',A,ev,k⟩:=h;obtain⟨p,e1,e2⟩:=aE<|show ret η ((rd η i).bind look)=_ from ev;cases e2;cases e3:rd η i with
 |none=>rw[e3] at e1;cases e1
 | some u =>
  rw[e3] at e1;obtain⟨m,t⟩:=u;obtain⟨v,r,l⟩:=A.env i m t e3;refine⟨v,l.1 b g,k v Z H Fs no A ?_<|ej λa f=>f.elim id λz=>z.elim⟩;cases m with
  |s=>cases e1;exact r.sany
  |d=>
   have c:(if t.leaf=HV then Y (Md.d,t) else J)=Y w:=e1;split at c
   .rename_i e;cases c;exact r.leaf (λ_ _ _ q=>q) e
   .cases c
  |o m=>
   have c:(if t.leaf=HV then Y (Md.d,t) else J)=Y w:=e1;split at c
   .rename_i e;cases c;exact r.leaf (λ_ _ _ q=>q) e
   .cases c
def Cp (Fs:Fps)(i:O):Fps:=λb a=>b≠i/\Fs b a
theorem AS {e:E}{i b:O}(p:∀η,evE C e η=ret (del η i) (rd η i))(s:sf i=Y b)(σ:L2.St)(H:Hp)(Q:VK)(h:wE K sf C e σ H Q):iR b σ H Q:=by
 obtain⟨N,Z,Fs,η,w,η',A,ev,k⟩:=h;rw[p] at ev;obtain⟨P,e1,e2⟩:=aE ev;cases e2;obtain⟨m,t⟩:=w;obtain⟨v,r,u⟩:=A.env i m t e1;refine⟨v,u.1 b s,k v Z H (Cp Fs i) (Fs i) ⟨⟨λa ⟨l,f,c⟩=>A.gd.own a ⟨l,c⟩,λl x a f c=>A.gd.dis l x a f.2 c.2,A.gd.zal⟩,λl y I e=>?_,λa d=>A.gd.own a ⟨i,d⟩,λa d ⟨l,f,c⟩=>f<|A.gd.dis l i a c d,A.lk,A.ln⟩ r<|ej λa d=>d.elim (λ⟨l,f,c⟩=>⟨l,c⟩) λz=>⟨i,z⟩⟩;rw[bo] at e;split at e
 .cases e
 .rename_i n;obtain⟨M,D,o⟩:=A.env l y I e;have g:l≠i:=λz=>n ⟨z,cM e1⟩;exact⟨M,D.mono λa d=>⟨g,d⟩,o⟩
theorem fH {t:T}{v:V}(c:∀{Z:Fp} {H:Hp},Rep K Z H .d t v no)(σ:L2.St)(H:Hp)(Q:VK)(h:wE K sf C (.cst t) σ H Q):tC v σ H Q:=by obtain⟨e,Z,Fs,η,w,η',A,ev,k⟩:=h;cases ev;exact k v Z H Fs no A c<|ej λa b=>b.elim id λz=>z.elim
theorem yR {b:U E}(l:b.length<=LIM)(σ:L2.St)(H:Hp)(Q:VK)(h:wE K sf C (.tup b) σ H Q):Ei (wL K sf C b) σ H Q:=by
 obtain⟨o,Z,Fs,η,w,η',A,ev,k⟩:=h;obtain⟨⟨e,η1⟩,c,i⟩:=aa<|show(evL C b η).bind pw=_ from ev;cases i;refine⟨o,Z,Fs,η,e,_,A,c,λt Z' H' Fs' G a r s=>?_⟩;have d:t.length<=LIM:=by rw[r.length,eZ c];exact l
 obtain⟨G',f,g⟩:=RepW.to (λu n=>gj n) r;refine⟨LIM_le d,λp hp=>mV (m:=(fR e).up) a.own f d (by rw[df];exact g) (bb a s k) hp⟩
theorem Aj {b:NN}{c:U E}(t:c.length<=LIM)(σ:L2.St)(H:Hp)(Q:VK)(h:wE K sf C (.lst b c) σ H Q):EG (wL K sf C c) σ H Q:=by
 obtain⟨v,Z,Fs,η,w,η',A,ev,k⟩:=h;obtain⟨⟨l,η1⟩,g,n⟩:=aa<|show(evL C c η).bind (qd b)=_ from ev;cases n;refine⟨v,Z,Fs,η,l,_,A,g,λx Z' H' Fs' G a r s=>?_⟩;have f:x.length<=LIM:=by rw[r.length,eZ g];exact t
 refine⟨LIM_le f,λp hp=>?_⟩;cases b with
 |true=>obtain⟨G',d,e⟩:=RepW.to (λu i=>gj i) r;exact bG (m:=(fR l).up) a.own a.gd.zal d f (by rw[df];exact e) (ck _) (bb a s k) hp
 |false=>obtain⟨G',d,e⟩:=RepW.to (N:=.s) (λu i=>by cases lf u.1 u.2<;>rfl) r;exact bG (m:=.o .s) a.own a.gd.zal d f e (by simp) (bb a s k) hp
theorem Fi {e:E}{m:Md}(σ:L2.St)(H:Hp)(Q:VK)(h:wE K sf C (.wk m e) σ H Q):wE K sf C e σ H Q:=by
 obtain⟨p,Z,Fs,η,w,η',A,ev,k⟩:=h;obtain⟨⟨u,η1⟩,l,n⟩:=aa<|show(evE C e η).bind (kWk m)=_ from ev;obtain⟨t,e1,e2⟩:=aE<|show ret η1 (if m.le u.1 then Y (m,u.2) else J)=_ from n;cases e2;split at e1
 .rename_i c;cases e1;refine⟨p,Z,Fs,η,u,_,A,l,λv Z' H' Fs' G b r s=>?_⟩;obtain⟨G',d,i⟩:=r.weak c;refine bb b s k v (bW Z' G G') H' G' i (λa f=>?_) ⟨λ_ _ e _=>e,λa h=>.inl h,λa h=>h.imp id λq=>.inl q.1,λa h=>.inl (d a h),λ_ h=>h,λq a h=>?_⟩
  .obtain ⟨o,g,e⟩:=b.own a<|d a f;exact⟨λz=>z.elim o λq=>q.2 f,g,e⟩
  .rcases h with h | h
   .exact q a h
   .obtain ⟨_,g,e⟩:=b.own a h.1;rw[e];simp
 .cases e1
def wT (K:HX)(sl:O->B O)(C:Call)(e:E):TT:=λσ H Q=>∃a Z Fs η w η' b,At K ⟨sl,a⟩ σ Z H Fs η no/\evE C e η=.ok (w,η')/\truth w.2=Y b /\
 ∀Z' H' Fs',At K ⟨sl,a⟩ σ Z' H' Fs' η' no->Step Z H (tot Fs) Z' H' (tot Fs')->Q b H'
def TrV (K:HX)(x:V)(H:Hp)(k:NN):Prop:=
 match x with
 |.non=>k=HU
 |.bl b=>k=b
 |.int i=>k=(i != 0)
 |.str y=>y.length<=sizeLine/\k=((y.length:j) != 0)
 |.ref p=>(∃a,SqL K H p a/\k=!a.isEmpty)\/(∃a,SqT K H p a/\k=!a.isEmpty)
 |_=>N2
theorem cO {c d:Type}{a:U c}{b:U d}(h:a.length=b.length):a.isEmpty=b.isEmpty:=by cases a<;>cases b<;>first|rfl|simp at h
theorem nU {m:Md}{t:T}{v:V}{b:NN}(e:truth t=Y b)(r:Rep K Z H m t v G):TrV K v H b:=by
 cases t with
 |non=>cases e;rw[show v=_ from r];rfl
 |bl c=>cases e;rw[show v=_ from r];rfl
 |int i=>cases e;rw[show v=_ from r];rfl
 |str x=>
  cases e;rw[show v=_ from r.1];refine⟨LIM_le<|iO r.2,?_⟩;show(x.cps.size != 0)=(((x.cps.size:O):j) != 0);cases x.cps.size with
  |zero=>rfl
  |succ n=>simp;lia
 |tup h=>obtain⟨a,f,rfl,d,g,p⟩:=bT r;cases e;exact .inr ⟨f,d,by rw[cO p.length]⟩
 |lst h=>obtain⟨a,f,rfl,d,g,p⟩:=bg r;cases e;exact .inl ⟨f,.inl<|.inl d,by rw[cO p.length]⟩
 |scr l=>obtain⟨a,rfl,k,d⟩:=r;cases e;exact .inl ⟨_,d.sq,by rw[cO<|Ie ..]⟩
 |dct _ _=>cases e
 |ins _ _ _=>cases e
 |dtt _ _=>cases e
 |gone=>cases e
theorem mZ {e:E}{w:W}{b:NN}{Q:NN->Hp->Prop}(A:At K sl σ Z H Fs η no)(ev:evE C e η=.ok (w,η'))(a:truth w.2=Y b)(k:∀Z' H' Fs',At K sl σ Z' H' Fs' η' no->Step Z H (tot Fs) Z' H' (tot Fs')->Q b H'):wT K sl.sl C e σ H Q:=⟨sl.pv,Z,Fs,η,w,η',b,A,ev,a,k⟩
theorem cD {a:Type}{f g:Env->Res a}{p:W×Env}{r:a}(h:onT f g p=.ok r):∃b,truth p.1.2=Y b/\(if b=HV then f p.2 else g p.2)=.ok r:=by
 unfold onT at h;split at h
 .rename_i e;exact⟨HV,e,h⟩
 .rename_i e;exact⟨HU,e,h⟩
 .cases h
theorem BU {e:E}(σ:L2.St)(H:Hp)(Q:NN->Hp->Prop)(h:wT K sf C (.not e) σ H Q):DC (wT K sf C e) σ H Q:=by
 obtain⟨i,Z,Fs,η,w,η',b,A,ev,g,k⟩:=h;obtain⟨⟨u,η1⟩,a,f⟩:=aa<|show(evE C e η).bind sv=_ from ev;obtain⟨l,e1,e2⟩:=aE<|show ret η1 ((truth u.2).map λb=>((.d,.bl<|!b):W))=_ from f;cases e2;cases e3:truth u.2 with
 |none=>rw[e3] at e1;cases e1
 |some c=>
  rw[e3] at e1;cases e1;have:b=!c:=by cases g;rfl
  subst this;exact mZ A a e3 k
theorem Ce {a b:E}(σ:L2.St)(H:Hp)(Q:NN->Hp->Prop)(h:wT K sf C (.and a b) σ H Q):Ek (wT K sf C a) (wT K sf C b) σ H Q:=by
 obtain⟨v,Z,Fs,η,w,η',c,A,ev,l,k⟩:=h;obtain⟨⟨u,η1⟩,r,s⟩:=aa<|show(evE C a η).bind (rO<|evE C b)=_ from ev;obtain⟨d,i,e⟩:=cD<|show onT (evE C b) (okW u) (u,η1)=_ from s;refine mZ A r i λZ1 H1 Fs1 g m=>?_;cases d with
 |true=>rw[NR rfl] at e ⊢;exact mZ g e l λp o f n t=>k p o f n<|m.trans t
 |false=>rw[NW IG] at e ⊢;cases e;cases(i.symm.trans l);exact k Z1 H1 Fs1 g m
theorem Et {a b:E}(σ:L2.St)(H:Hp)(Q:NN->Hp->Prop)(h:wT K sf C (.or a b) σ H Q):tOr (wT K sf C a) (wT K sf C b) σ H Q:=by
 obtain⟨v,Z,Fs,η,w,η',c,A,ev,l,k⟩:=h;obtain⟨⟨u,η1⟩,r,s⟩:=aa<|show(evE C a η).bind (kOr<|evE C b)=_ from ev;obtain⟨d,i,e⟩:=cD<|show onT (okW u) (evE C b) (u,η1)=_ from s;refine mZ A r i λZ1 H1 Fs1 g m=>?_;cases d with
 |false=>rw[NW IG] at e ⊢;exact mZ g e l λp o f n t=>k p o f n<|m.trans t
 |true=>rw[NR rfl] at e ⊢;cases e;cases(i.symm.trans l);exact k Z1 H1 Fs1 g m
theorem Ay {c a b:E}(σ:L2.St)(H:Hp)(Q:VK)(h:wE K sf C (.ifx c a b) σ H Q):tIf (wT K sf C c) (wE K sf C a) (wE K sf C b) σ H Q:=by
 obtain⟨i,Z,Fs,η,w,η',A,ev,k⟩:=h;obtain⟨⟨u,η1⟩,m,n⟩:=aa<|show(evE C c η).bind (onT (evE C a)<|evE C b)=_ from ev;obtain⟨d,o,f⟩:=cD n;refine mZ A m o λZ1 H1 Fs1 g l=>?_;cases d with
 |true=>rw[NR rfl] at f ⊢;exact⟨i,Z1,Fs1,η1,w,η',g,f,λv Z' H' Fs' G e r s=>k v Z' H' Fs' G e r<|l.trans s⟩
 |false=>rw[NW IG] at f ⊢;exact⟨i,Z1,Fs1,η1,w,η',g,f,λv Z' H' Fs' G e r s=>k v Z' H' Fs' G e r<|l.trans s⟩
end
section
variable {K:HX}{sl:Cf}{sf:O->B O}{C:Call}{σ:L2.St}{Z Z' Z1:Fp}{H H' H1:Hp}{Fs Fs' Fs1:Fps}{η η' η1:Env}{G G' R F:Fp}
structure Wk (K:HX)(J:It)(Z:Fp)(H0:Hp)(ts:U (U W)):Prop where
 go:∀H i,Stay Z H0 H->i<ts.length->J.go i H
 stop:∀H i,Stay Z H0 H->ts.length<=i->J.stop i H
 len:ts.length<=LIM
def qW (K:HX)(a:It)(Z:Fp)(c:Hp)(b:U<|U W):Prop:=
 ∀H i x H',Stay Z c H->i<b.length->a.yld i H x H'->H'=H/\∃w,b[i]?=Y [w]/\Rep K Z H w.1 w.2 x no
def Ht (K:HX)(a:It)(Z:Fp)(d:Hp)(c:U<|U W):Prop:=
 ∀H i x H',Stay Z d H->i<c.length->a.yld i H x H'->∃p y z u w,x=.ref p/\(∀b o,H b=Y o->H' b=Y o)/\SqT K H' p [y,z]/\c[i]?=Y [u,w]/\Rep K Z H u.1 u.2 y no/\Rep K Z H w.1 w.2 z no
theorem fN (same:∀b o,H b=Y o->H' b=Y o):Stay Z H H':=by
 refine⟨λa o _ e=>same a o e,λa c e=>?_,λa o u e=>same a _ e⟩;rcases e with e|⟨u,e⟩
 .exact .inl (same a _ e)
 .exact .inr ⟨u,same a _ e⟩
theorem d8 (same:∀a o,H a=Y o->H' a=Y o):Step Z H G Z H' G:=by
 have b:∀a,H a≠J->H' a≠none:=λa h=>by
  cases e:H a with
  |none=>exact NP e h
  |some o=>rw[same a o e];simp
 exact⟨λa o h _=>same a o h,λ_ h=>h,λ_ h=>.inl h,λ_ h=>.inl h,b,λz a h=>b a<|z a h⟩
theorem lP {p:NM}{o:HO}(hp:H p=J):∀b u,H b=Y u->upd H p o b=Y u:=λa u e=>by
 have:a≠p:=λq=>by subst q;rw[hp] at e;cases e
 rw[af this];exact e
def Yld (K:HX)(a:It)(Z:Fp)(b:Hp)(c:U<|U W):O->Prop
|1=>qW K a Z b c
|2=>Ht K a Z b c
|_=>N2
def wI (K:HX)(sl:O->B O)(C:Call)(n:O)(k:Ik)(b:U E):TI:=λσ H R=>∃d Z Fs η e η' c,At K ⟨sl,d⟩ σ Z H Fs η no/\evL C b η=.ok (e,η')/\turns k e=Y c /\
 ∀a Z' H' Fs',At K ⟨sl,d⟩ σ Z' H' Fs' η' no->Step Z H (tot Fs) Z' H' (tot Fs')->Wk K a Z' H' c->Yld K a Z' H' c n->R a H'
theorem At.freeze (A:At K sl σ Z H Fs η G):At K sl σ (λa=>Z a\/G a) H Fs η no:=by
 refine⟨⟨λa b=>⟨λz=>z.elim (A.gd.own a b).1 λq=>A.dis a q b,(A.gd.own a b).2⟩,A.gd.dis,λa h=>h.elim (A.gd.zal a) λq=>?_⟩,λi m t e=>?_,bj,λ_ z=>z.elim,A.lk,A.ln⟩
 .obtain ⟨_,c,e⟩:=A.own a q;rw[e];simp
 .obtain ⟨v,r,h⟩:=A.env i m t e;exact⟨v,r.zmono λa h=>.inl h,h⟩
theorem aO (o:Own Z' H' G)(s:Step Z H F Z' H' λa=>F' a\/G a):Step Z H F (λa=>Z' a\/G a) H' F' where
 keep:=s.keep
 zm:=λa h=>.inl<|s.zm a h
 zn:=λa h=>h.elim (s.zn a) λq=>.inr<|s.fn a<|.inr q
 fn:=λa h=>s.fn a<|.inl h
 al:=s.al
 za:=λz a h=>h.elim (s.za z a) λq=>by obtain⟨_,b,e⟩:=o a q;rw[e];simp
theorem bx {a:NM}{c:U V}{b:Hp}(s:Stay Z b H)(d:Z a)(h:b a=Y (.lst c)):SqL K H a c:=.inl<|.inl<|s.1 a _ d h
theorem uw {a:NM}{c:U V}{b:U T}(k:c.length<=LIM)(f:Z a)(h:H a=Y (.lst c))(r:RepL K Z H .s b c no):Wk K (Itl K a) Z H (b.map λt=>[(.s,t)])/\qW K (Itl K a) Z H (b.map λt=>[(.s,t)]):=by
 have l:=r.length;refine⟨⟨λH' i s d=>?_,λH' i s d=>?_,by rw[Ie];lia⟩,λH' i x g s d y=>?_⟩
 .rw [Ie] at d;exact⟨c,c[i]'(by lia),bx s f h,by simp⟩
 .rw [Ie] at d;exact⟨c,bx s f h,by lia⟩
 .rw [Ie] at d;obtain⟨rfl,y⟩:=y;have hx:=y c<|bx s f h;obtain⟨m,e,rx⟩:=r.get (show b[i]?=Y b[i] by simp);rw[hx] at e;cases e;refine⟨rfl,(.s,b[i]),by rw[IW,show b[i]?=Y b[i] by simp];rfl,rx.keep s (λ_ z=>z) λ_ _ z=>z.elim⟩
theorem zi {a:NM}{c:U V}{b:U T}(g:c.length<=LIM)(h:SqT K H a c)(r:RepL K Z H .s b c no):Wk K (Itt K a) Z H (b.map λt=>[(.s,t)])/\qW K (Itt K a) Z H (b.map λt=>[(.s,t)]):=by
 have k:=r.length;refine⟨⟨λH' i s d=>?_,λH' i s d=>?_,by rw[Ie];lia⟩,λH' i x f s d y=>?_⟩
 .rw [Ie] at d;exact⟨c,c[i]'(by lia),s.sqt h,by simp⟩
 .rw [Ie] at d;exact⟨c,s.sqt h,by lia⟩
 .rw [Ie] at d;obtain⟨rfl,y⟩:=y;have hx:=y c<|s.sqt h;obtain⟨l,e,rx⟩:=r.get (show b[i]?=Y b[i] by simp);rw[hx] at e;cases e;refine⟨rfl,(.s,b[i]),by rw[IW,show b[i]?=Y b[i] by simp];rfl,rx.keep s (λ_ z=>z) λ_ _ z=>z.elim⟩
theorem CG {lo:j}{n:O}(c:n<=LIM):Wk K (Itr lo n) Z H ((IB n).map λ(k:O)=>[(.d,.int<|lo+k)])/\qW K (Itr lo n) Z H ((IB n).map λ(k:O)=>[(.d,.int<|lo+k)]):=by refine⟨⟨λH' i s a=>by show i<n;simpa using a,λH' i s a=>by show n<=i;simpa using a,by simpa using c⟩,λH' i x b s a y=>?_⟩;obtain⟨rfl,rfl⟩:=y;refine⟨rfl,(.d,.int<|lo+i),?_,rfl⟩;rw[Ie,List.length_range] at a;rw[IW,List.getElem?_range a];rfl
theorem kH {a:NM}{c:U j}{b:Hp}(s:Stay Z b H)(h:ScrR K b a c):SqL K H a (c.map V.int):=(h.keep s.2.2).sq
theorem Bo {a:NM}{b:U j}(f:b.length<=LIM)(h:ScrR K H a b):Wk K (Itl K a) Z H (b.map λn=>[(.d,.int n)])/\qW K (Itl K a) Z H (b.map λn=>[(.d,.int n)]):=by
 refine⟨⟨λH' i s c=>?_,λH' i s c=>?_,by rw[Ie];exact f⟩,λH' i x e s c y=>?_⟩
 .rw [Ie] at c;exact⟨_,(b.map V.int)[i]'(by rw[Ie];exact c),kH s h,by simp⟩
 .rw [Ie] at c;exact⟨_,kH s h,by rw[Ie];exact c⟩
 .rw [Ie] at c;obtain⟨rfl,y⟩:=y;have hx:=y _<|kH s h;refine⟨rfl,(.d,.int b[i]),by rw[IW,show b[i]?=Y b[i] by simp];rfl,?_⟩;rw[IW,show b[i]?=Y b[i] by simp] at hx;exact(IJ hx).symm
theorem zR {e:E}(σ:L2.St)(H:Hp)(R:It->Hp->Prop)(h:wI K sf C 1 .seq [e] σ H R):pB K (wE K sf C e) σ H R\/zP K (wE K sf C e) σ H R:=by
 obtain⟨g,Z,Fs,η,x,η',u,A,ev,f,k⟩:=h;obtain⟨⟨m,a⟩,η1,w,e1,e2,rfl⟩:=aq ev;cases e2;cases a with
 |lst i=>cases f;refine .inl ⟨g,Z,Fs,η,_,_,A,e1,λv Z' H' Fs' G b r s=>?_⟩;obtain⟨a,n,rfl,l,q,p⟩:=Rep.sh r;obtain⟨c,d⟩:=uw l q.1 q.2 p.sany;exact⟨a,rfl,⟨n,.inl<|.inl q.2⟩,k _ _ H' Fs' b.freeze (aO b.own s) c d⟩
 |tup i=>cases f;refine .inr ⟨g,Z,Fs,η,_,_,A,e1,λv Z' H' Fs' G b r s=>?_⟩;obtain⟨a,n,rfl,q,l,p⟩:=Rep.sh r;obtain⟨c,d⟩:=zi l q p.sany;exact⟨a,rfl,⟨n,q⟩,k _ _ H' Fs' b.freeze (aO b.own s) c d⟩
 |scr t=>cases f;refine .inl ⟨g,Z,Fs,η,_,_,A,e1,λv Z' H' Fs' G b r s=>?_⟩;obtain⟨a,rfl,o,q⟩:=r;obtain⟨c,d⟩:=Bo (Z:=λa=>Z' a\/G a) o q;exact⟨a,rfl,⟨_,q.sq⟩,k _ _ H' Fs' b.freeze (aO b.own s) c d⟩
 |_=>cases f
theorem p62:(2:j) ^ 62=4611686018427387904:=by decide
theorem xM {e:E}(σ:L2.St)(H:Hp)(R:It->Hp->Prop)(h:wI K sf C 1 .rng [e] σ H R):yb (wL K sf C [e]) σ H R:=by
 obtain⟨l,Z,Fs,η,o,η',p,A,ev,c,k⟩:=h;refine⟨l,Z,Fs,η,o,η',A,ev,λu Z' H' Fs' G b r s=>?_⟩;obtain⟨⟨m,a⟩,η1,t,e1,e2,rfl⟩:=aq ev;cases e2;obtain⟨x,rfl,r1⟩:=bh rfl r;cases a with
 | int n =>
  rw[sR] at c;split at c
  .rename_i d;rw[Iq,NZ] at d;cases c;refine⟨n,by rw[show x=_ from r1],by rw[p62];lia,by rw[p62];lia,?_⟩;obtain⟨f,g⟩:=CG (K:=K) (Z:=λa=>Z' a\/G a) (H:=H') (lo:=0) (n:=n.toNat) (cw d.2);have i:∀k:O,(0:j)+(k:j)=k:=λk=>by lia
   simp only[i] at f g;exact k _ _ H' Fs' b.freeze (aO b.own s) f g
  .cases c
 |_=>cases c
theorem x6 {m:Md}{t:T}{v:V}{c:U T}(e:elems (m,t)=Y c)(r:Rep K Z H m t v G):∃k a b,v=.ref a/\b.length<=LIM/\RepL K (λa=>Z a\/G a) H .s c b no/\∀H',Stay (λa=>Z a\/G a) H H'->Sq K H' k a b:=by
 cases t with
 |lst d=>cases e;obtain⟨a,b,rfl,l,q,p⟩:=Rep.sh r;exact⟨HU,a,b,rfl,l,p.sany,λH' s=>bx s q.1 q.2⟩
 |tup d=>cases e;obtain⟨a,b,rfl,q,l,p⟩:=Rep.sh r;exact⟨HV,a,b,rfl,l,p.sany,λH' s=>s.sqt q⟩
 |_=>cases e
theorem kd {m n:Md}:∀{ts us:U T} {i:O} {t u:T},ts[i]?=Y t->us[i]?=Y u->(cV m n ts us)[i]?=Y [(m,t),(n,u)]
|t::ts,u::us,0,_,_,h,a=>by cases h;cases a;rfl
|t::ts,u::us,i+1,_,_,h,a=>kd (ts:=ts) (us:=us) (i:=i) h a
|[],_,_,_,_,h,_=>by simp at h
|_::_,[],_,_,_,_,a=>by simp at a
theorem cN {m n:Md}:∀{a b:U T},(cV m n a b).length=min a.length b.length
|[],_=>by simp[cV]
|_::_,[]=>by simp[cV]
|t::a,u::b=>by show(cV m n a b).length+1=_;rw[cN];simp
theorem C1 {e e':E}(σ:L2.St)(H:Hp)(R:It->Hp->Prop)(h:wI K sf C 2 .zip [e,e'] σ H R):Eu K (wL K sf C [e,e']) σ H R:=by
 obtain⟨pv,Z,Fs,η,ws,η',ts,A,ev,ht,k⟩:=h;refine⟨pv,Z,Fs,η,ws,η',A,ev,λvs Z' H' Fs' G d r s=>?_⟩;obtain⟨⟨m,a⟩,η1,us,e1,e2,rfl⟩:=aq ev;obtain⟨⟨n,b⟩,η2,us,e3,e4,rfl⟩:=aq e2;cases e4;obtain⟨x,y,hx⟩:∃x y,vs=[x,y]:=cj (x:=()) (y:=())<|show vs.length=[(),()].length from r.length;subst hx;obtain⟨G1,G2,g1,g2,_,r1,r2⟩:=bf r;have f:((elems (m,a)).bind λts=>(elems (n,b)).bind λus=>Y (cV .s .s ts us))=Y ts:=ht;cases M:elems (m,a) with
 |none=>rw[M] at f;cases f
 | some N =>
  cases Q:elems (n,b) with
  |none=>rw[M,Q] at f;cases f
  | some P =>
   rw[M,Q] at f;cases f;obtain⟨k1,a1,u,rfl,L1,p1,q1⟩:=x6 M r1;obtain⟨k2,a2,v,rfl,L2',p2,q2⟩:=x6 Q r2;have z1:∀c,(Z' c\/G1 c)->(Z' c\/G c):=λc h=>h.imp id (g1 c);have z2:∀c,(Z' c\/G2 c)->(Z' c\/G c):=λc h=>h.imp id (g2 c);have l:∀g,Stay (λc=>Z' c\/G c) H' g->Sq K g k1 a1 u:=λg s=>q1 g ⟨λc o hc=>s.1 c o<|z1 c hc,s.2⟩;have t:∀g,Stay (λc=>Z' c\/G c) H' g->Sq K g k2 a2 v:=λg s=>q2 g ⟨λc o hc=>s.1 c o<|z2 c hc,s.2⟩;have l1:=p1.length;have l2:=p2.length;refine⟨k1,k2,a1,a2,rfl,⟨u,l _<|cQ _ _⟩,⟨v,t _<|cQ _ _⟩,k _ _ H' Fs' d.freeze (aO d.own s) ⟨λg i s w=>?_,λg i s w=>?_,by rw[cN];lia⟩ λg i x H1 s w y=>?_⟩
   .rw [cN] at w;exact⟨u,v,u[i]'(by lia),v[i]'(by lia),l _ s,t _ s,by simp,by simp⟩
   .rw [cN] at w;exact⟨u,v,l _ s,t _ s,by lia⟩
   .rw [cN] at w;obtain⟨p,x1,y1,rfl,hp,rfl,hx,hy⟩:=y;have hi1:i<N.length:=by lia
    have hi2:i<P.length:=by lia
    obtain⟨x',D,rx⟩:=p1.get (show N[i]?=Y N[i] by simp);obtain⟨y',I,ry⟩:=p2.get (show P[i]?=Y P[i] by simp);rw[hx u<|l _ s] at D;cases D;rw[hy v<|t _ s] at I;cases I;exact⟨p,x1,y1,(.s,N[i]),(.s,P[i]),rfl,lP hp,.inl<|.inl ag,kd (by simp)<|by simp,(rx.zmono z1).keep s (λ_ z=>z) λ_ _ z=>z.elim,(ry.zmono z2).keep s (λ_ z=>z) λ_ _ z=>z.elim⟩
theorem eC {m:Md}:∀{ts:U T} {n i:O} {t:T},ts[i]?=Y t->(cH m n ts)[i]?=Y [(.d,.int ((n+i:O):j)),(m,t)]
|t::ts,n,0,_,h=>by cases h;rfl
|t::ts,n,i+1,_,h=>by have:=eC (m:=m) (ts:=ts) (n:=n+1) (i:=i) h;rw[show n+1+i=n+(i+1) by lia] at this;exact this
|[],_,_,_,h=>by simp at h
theorem a4 {m:Md}:∀{a:U T} {n:O},(cH m n a).length=a.length
|[],_=>rfl
|t::a,n=>by show(cH m (n+1) a).length+1=a.length+1;rw[a4]
theorem Cv {e:E}(σ:L2.St)(H:Hp)(R:It->Hp->Prop)(h:wI K sf C 2 .enm [e] σ H R):yu K (wL K sf C [e]) σ H R:=by
 obtain⟨v,Z,Fs,η,w,η',M,A,ev,t,k⟩:=h;refine⟨v,Z,Fs,η,w,η',A,ev,λP Z' H' Fs' G b r s=>?_⟩;obtain⟨⟨m,a⟩,η1,N,e1,e2,rfl⟩:=aq ev;cases e2;obtain⟨x,rfl,r1⟩:=bh rfl r;obtain⟨g,rfl⟩:∃g,a=.lst g:=by cases a<;>first|exact⟨_,rfl⟩|cases t
 cases t;obtain⟨a,n,rfl,l,q,p⟩:=Rep.sh r1;have I:=p.length;refine⟨a,rfl,⟨n,.inl<|.inl q.2⟩,k _ _ H' Fs' b.freeze (aO b.own s) ⟨λo i s c=>?_,λo i s c=>?_,by rw[a4];lia⟩ λo i x H1 s c y=>?_⟩
 .rw [a4] at c;exact⟨n,n[i]'(by lia),bx s q.1 q.2,by simp⟩
 .rw [a4] at c;exact⟨n,bx s q.1 q.2,by lia⟩
 .rw [a4] at c;obtain⟨u,D,rfl,hp,rfl,hx⟩:=y;obtain⟨Q,f,rx⟩:=p.get (show g[i]?=Y g[i] by simp);rw[hx n<|bx s q.1 q.2] at f;cases f;refine⟨u,.int i,D,(.d,.int ((0+i:O):j)),(.s,g[i]),rfl,lP hp,.inl<|.inl ag,eC<|by simp,?_,rx.sany.keep s (λ_ z=>z) λ_ _ z=>z.elim⟩;show V.int (i:j)=V.int ((0+i:O):j);rw[Jx]
theorem fZ:∀{ts:U T} {ps:U<|U W} {i:O} {t:T},pairsT ts=Y ps->ts[i]?=Y t->∃x y,t=.tup [x,y]/\ps[i]?=Y [(.s,x),(.s,y)]
|[],_,_,_,_,h=>by simp at h
| u::ts,ps,i,t,e,h=>by
 match u,e with
 | .tup [x,y],e =>
  have a:(pairsT ts).map ([(.s,x),(.s,y)]::·)=Y ps:=e;cases e1:pairsT ts with
  |none=>rw[e1] at a;cases a
  |some b=>
   rw[e1] at a;cases a;cases i with
   |zero=>cases h;exact⟨x,y,rfl,rfl⟩
   |succ i=>exact fZ (ts:=ts) (ps:=b) (i:=i) e1 h
theorem f7:∀{a:U T} {ps:U<|U W},pairsT a=Y ps->ps.length=a.length
|[],_,e=>by cases e;rfl
| u::a,ps,e=>by
 match u,e with
 | .tup [x,y],e =>
  have b:(pairsT a).map ([(.s,x),(.s,y)]::·)=Y ps:=e;cases e1:pairsT a with
  |none=>rw[e1] at b;cases b
  |some c=>rw[e1] at b;cases b;rw[Ii,Ii,f7 e1]
end
section
variable {K:HX}{sl:Cf}{sf sg:O->B O}{C:Call}{σ σ2:L2.St}{Z Z' Z1:Fp}{H H' H1:Hp}{Fs Fs' Fs1:Fps}{η η' η1:Env}{G G' R F:Fp}{tg is:U O}{pv val:O->B V}
theorem aJ:∀(tg:U O) (η:Env) (i:O),rd (ax tg η) i=if i∈tg then J else rd η i
|[],η,i=>by simp[ax]
| t::tg,η,i=>by
 show rd (ax tg<|wr η t J) i=_;rw[aJ tg,bo];by_cases a:i∈tg
 .simp[a]
 .by_cases b:i=t
  .subst b;rw[NW a,NR Ih];split
   .rfl
   .rename_i c;cases e:rd η i with
    |none=>rfl
    |some w=>exact NP ⟨rfl,cM e⟩ c
  .rw[NW a,NW (show¬i∈t::tg by simp[a,b]),NW<|show¬(i=t/\t < η.length) fromλh=>b h.1]
def Nn (η η':Env):Prop:=∀i,rd η i=J->rd η' i=J
theorem Nn.refl (η:Env):Nn η η:=λ_ h=>h
theorem Nn.trans {a b c:Env}(h:Nn a b)(k:Nn b c):Nn a c:=λi e=>k i<|h i e
theorem k7 (η:Env)(a:O):Nn η (del η a):=λi e=>by
 rw[bo];split
 .rfl
 .exact e
theorem rZ {η:Env}{a:O}{w:W}(h:rd η a≠J):Nn η (put η a w):=λi e=>by
 rw[bo];split
 .rename_i b;rw[<- b.1] at h;exact NP e h
 .exact e
theorem gR:∀{is:U O} {c:U W} {b η:Env},(∀i∈is,rd b i≠J)->Nn b η->Nn b (putAll is c η)
|[],_,_,_,_,h=>h
|_::_,[],_,_,_,h=>h
|i::is,w::c,b,η,d,h=>by
 show Nn b<|putAll is c<|put η i w;refine gR (λa g=>d a<|Iz _ g) λa e=>?_;rw[bo];split
 .rename_i f;rw[f.1] at e;exact NP e<|d i Ih
 .exact h a e
theorem gf {f:Env->Res (B W×Env)}(m:∀{η o η'},f η=.ok (o,η')->Nn η η'):∀{k:U<|U W} {η η':Env} {c l:U W},(∀i∈tg,rd η i=J)->aQ tg f k η c=.ok (l,η')->Nn η η'
|[],η,η',c,l,_,h=>by cases h;exact Nn.refl _
| t::k,η,η',c,l,y,h=>by
 obtain⟨η1,n,r⟩:=aa<|show(ofO<|bindT tg t η).bind (λη1=>(f η1).bind λp=>aQ tg f k (ax tg p.2)<|c++p.1.toList)=_ from h;obtain⟨⟨o,g⟩,s,u⟩:=aa r
 have v:∀{tg:U O} {t:U W} {η η1:Env},bindT tg t η=Y η1->∀i,i ∉ tg->rd η1 i=rd η i:=λ{tg}=>by
  induction tg with
  |nil=>intro t η η1 h i d;cases t with
   |nil=>cases h;rfl
   |cons _ _=>cases h
  | cons a tg x=>intro t η η1 h i d; cases t with
   |nil=>cases h
   |cons w t=>have:=x (show bindT tg t (put η a w)=Y η1 from h) i λz=>d<|Iz _ z;rw[this,bo,NW λz=>d<|by rw[z.1];exact Ih]
 have e1:=v<|bH n
 have hd:∀i,rd η i=J->rd (ax tg g) i=none:=λi e=>by
  rw[aJ];split
  .rfl
  .rename_i d;exact m s i<|by rw[e1 i d];exact e
 exact Nn.trans (b:=ax tg g) hd<|gf m (λi d=>by rw[aJ,NR d]) u
def hX (sf sg:O->B O)(tg:U O)(is:U O):Prop:=
 ∀i a,sg i=Y a->(∃k:O,tg[k]?=Y i/\a=k)\/(i ∉ tg/\∃(k b:O),a=tg.length+k/\is[k]?=Y b/\sf i=Y b)
theorem At.pin (A:At K ⟨sf,pv⟩ σ Z H Fs η G):∃val,(∀i u,pv i=Y u->val i=Y u)/\At K ⟨sf,val⟩ σ Z H Fs η G/\∀i m t,rd η i=Y (m,t)->val i≠none:=by
 have ch:∀i,∃o:B V,(∀u,pv i=Y u->o=Y u)/\(∀u a,o=Y u->sf i=Y a->σ[a]?=Y (Y u))/\∀m t,rd η i=Y (m,t)->∃v,o=Y v/\Rep K Z H m t v (Fs i)/\(∀a,sf i=Y a->σ[a]?=Y (Y v)):=λi=>by
  cases e:rd η i with
  |none=>exact⟨pv i,λ_ h=>h,λu a h d=>A.lk i u a h d,λ_ _ h=>by cases h⟩
  |some w=>obtain⟨m,t⟩:=w;obtain⟨v,r,c,f⟩:=A.env i m t e;refine⟨Y v,λu h=>by rw[f u h],λu a h d=>?_,λk l h=>by cases h;exact⟨v,rfl,r,c⟩⟩;cases h;exact c a d
 obtain⟨val,b⟩:=Classical.axiomOfChoice ch;refine⟨val,λi u h=>(b i).1 u h,⟨A.gd,λi m t e=>?_,A.own,A.dis,λi u a h d=>(b i).2.1 u a h d,A.ln⟩,λi m t e=>?_⟩
 .obtain ⟨v,c,r,f⟩:=(b i).2.2 m t e;exact⟨v,r,f,λu g=>by rw[show val i=Y u from g] at c;cases c;rfl⟩
 .obtain ⟨v,c,r,f⟩:=(b i).2.2 m t e;rw[c];simp
theorem At.unpin (h:∀i u,pv i=Y u->val i=Y u)(A:At K ⟨sf,val⟩ σ Z H Fs η G):At K ⟨sf,pv⟩ σ Z H Fs η G:=
 ⟨A.gd,λi m t e=>let ⟨v,r,c,d⟩:=A.env i m t e;⟨v,r,c,λu b=>d u<|h i u b⟩,A.own,A.dis,λi u a b f=>A.lk i u a (h i u b) f,A.ln⟩
noncomputable def inV (val:O->B V)(tg:U O):O->B V:=λi=>if i∈tg then J else val i
theorem At.into (I:hX sf sg tg is)(x:∀i∈tg,rd η i=J)(l:∀(k c:O) (v:V),is[k]?=Y c->σ[c]?=Y (Y v)->σ2[tg.length+k]?=Y (Y v))(w:∀i a,sg i=Y a->a < σ2.length)(A:At K ⟨sf,val⟩ σ Z H Fs η G):At K ⟨sg,inV val tg⟩ σ2 Z H Fs η G:=by
 refine⟨A.gd,λi m t e=>?_,A.own,A.dis,λi u a n g=>?_,w⟩
 .have f:i ∉ tg:=fun h=>by rw [x i h] at e; cases e
  obtain⟨v,r,o,p⟩:=A.env i m t e;refine⟨v,r,λa s=>?_,λu n=>p u (by have d:inV val tg i=Y u:=n;unfold inV at d;rw[NW f] at d;exact d)⟩;rcases I i a s with⟨k,hk,_⟩|⟨_,k,c,rfl,hk,g⟩
  .exact NP (J8 hk) f
  .exact l k c v hk (o c g)
 .have f:i ∉ tg:=fun h=>by have b:inV val tg i=Y u:=n;unfold inV at b;rw[NR h] at b;cases b
  have b:val i=Y u:=by have d:inV val tg i=Y u:=n;unfold inV at d;rw[NW f] at d;exact d
  rcases I i a g with⟨k,hk,_⟩|⟨_,k,c,rfl,hk,g⟩
  .exact NP (J8 hk) f
  .exact l k c u hk (A.lk i u c b g)
theorem At.outof (k:∀i∈tg,rd η i=J)(l:∀i m t,rd η i=Y (m,t)->val i≠J)(lk:∀i u a,val i=Y u->sf i=Y a->σ[a]?=Y (Y u))(n:∀i a,sf i=Y a->a < σ.length)(A:At K ⟨sg,inV val tg⟩ σ2 Z H Fs η G):At K ⟨sf,val⟩ σ Z H Fs η G:=by
 refine⟨A.gd,λi m t e=>?_,A.own,A.dis,lk,n⟩;have f:i ∉ tg:=λh=>by rw[k i h] at e;cases e
 obtain⟨v,r,p,d⟩:=A.env i m t e;cases b:val i with
 |none=>exact NP b<|l i m t e
 |some u=>have:v=u:=d u (by show inV val tg i=Y u;unfold inV;rw[NW f];exact b);subst this;exact⟨v,r,λa g=>lk i v a b g,λo c=>by rw[show val i=Y o from c] at b;cases b;rfl⟩
end
section
variable {C:Call}
theorem kj {b:Type}{tab:U<|Str×b}{f:b->Env->RE}{p:W×Env}{r:W×Env}(h:kTab tab f p=.ok r):∃x a,p.1.2=.str x/\tab.lookup x=Y a/\f a p.2=.ok r:=by
 unfold kTab at h;split at h
 .rename_i x hx;split at h
  .rename_i a c;exact⟨x,a,hx,c,h⟩
  .cases h
 .cases h
theorem i6 {a:NN}{b:U Str}{p r:W×Env}(h:kIn a b p=.ok r):∃x,p.1.2=.str x/\r.2=p.2/\r.1=(.d,.bl<|b.contains x != a):=by
 unfold kIn at h;split at h
 .rename_i x hx;cases h;exact⟨x,hx,rfl,rfl⟩
 .cases h
theorem jN {tab:U<|Str×T}{p r:W×Env}(h:kGet tab p=.ok r):∃x,p.1.2=.str x/\r.2=p.2/\r.1=(.s,(tab.lookup x).getD .non):=by
 unfold kGet at h;split at h
 .rename_i x hx;cases h;exact⟨x,hx,rfl,rfl⟩
 .cases h
mutual
theorem aG:∀(e:E) {η η':Env} {w:W},evE C e η=.ok (w,η')->Nn η η'
|.var i,η,η',w,h=>by obtain⟨_,_,e⟩:=aE<|show ret η ((rd η i).bind look)=_ from h;cases e;exact Nn.refl _
|.mv i,η,η',w,h=>by obtain⟨_,_,e⟩:=aE<|show ret (del η i) (rd η i)=_ from h;cases e;exact k7 _ _
|.io i,η,η',w,h=>by obtain⟨_,_,e⟩:=aE<|show ret (del η i) (rd η i)=_ from h;cases e;exact k7 _ _
|.cst t,η,η',w,h=>by cases h;exact Nn.refl _
|.tup es,η,η',w,h=>by obtain⟨⟨ws,η1⟩,h1,h2⟩:=aa<|show(evL C es η).bind pw=_ from h;cases h2;exact de es h1
|.lst b es,η,η',w,h=>by obtain⟨⟨ws,η1⟩,h1,h2⟩:=aa<|show(evL C es η).bind (qd b)=_ from h;cases h2;exact de es h1
|.wk m e,η,η',w,h=>by obtain⟨⟨u,η1⟩,h1,h2⟩:=aa<|show(evE C e η).bind (kWk m)=_ from h;obtain⟨_,_,e3⟩:=aE<|show ret η1 _=_ from h2;cases e3;exact aG e h1
|.op o b es,η,η',w,h=>by obtain⟨ws,h1,h2⟩:=bS h;exact de es h1
|.and a b,η,η',w,h=>by
 obtain⟨⟨u,η1⟩,h1,h2⟩:=aa<|show(evE C a η).bind (rO<|evE C b)=_ from h;obtain⟨d,h3,h4⟩:=cD<|show onT (evE C b) (okW u) (u,η1)=_ from h2;cases d with
 |true=>rw[NR rfl] at h4;exact(aG a h1).trans<|aG b h4
 |false=>rw[NW IG] at h4;cases h4;exact aG a h1
|.or a b,η,η',w,h=>by
 obtain⟨⟨u,η1⟩,h1,h2⟩:=aa<|show(evE C a η).bind (kOr<|evE C b)=_ from h;obtain⟨d,h3,h4⟩:=cD<|show onT (okW u) (evE C b) (u,η1)=_ from h2;cases d with
 |false=>rw[NW IG] at h4;exact(aG a h1).trans<|aG b h4
 |true=>rw[NR rfl] at h4;cases h4;exact aG a h1
|.not a,η,η',w,h=>by obtain⟨⟨u,η1⟩,h1,h2⟩:=aa<|show(evE C a η).bind sv=_ from h;obtain⟨_,_,e3⟩:=aE<|show ret η1 _=_ from h2;cases e3;exact aG a h1
|.ifx c a b,η,η',w,h=>by
 obtain⟨⟨u,η1⟩,h1,h2⟩:=aa<|show(evE C c η).bind (onT (evE C a)<|evE C b)=_ from h;obtain⟨d,h3,h4⟩:=cD h2;cases d with
 |true=>rw[NR rfl] at h4;exact(aG c h1).trans<|aG a h4
 |false=>rw[NW IG] at h4;exact(aG c h1).trans<|aG b h4
|.call f es,η,η',w,h=>by obtain⟨⟨ws,η1⟩,h1,h2⟩:=aa<|show(evA C es η).bind (kCall C f<|ios es)=_ from h;obtain⟨⟨u,us⟩,h3,h4⟩:=aa<|show(C f ws).bind (kBack (ios es) η1)=_ from h2;cases h4;exact gR (iF es h1)<|fD es h1
|.comp b k src tg J elt,η,η',w,h=>by obtain⟨⟨ws,η1⟩,h1,h2⟩:=aa<|show(evL C src η).bind (d9 b k tg<|fw<|evE C elt)=_ from h;obtain⟨⟨ts,η2⟩,h3,h4⟩:=aa<|show(ret (ax tg η1)<|turns k ws).bind (λt=>(aQ tg (fw<|evE C elt) t.1 t.2 []).bind<|kz b)=_ from h2;obtain⟨_,_,e3⟩:=aE h3;have e4:η2=ax tg η1:=N1 J5 e3;subst e4;obtain⟨⟨us,η3⟩,h5,h6⟩:=aa<|show(aQ tg (fw<|evE C elt) ts (ax tg η1) []).bind (kz b)=_ from h4;obtain⟨_,_,e6⟩:=aE<|show ret η3 _=_ from h6;have e7:η'=η3:=N1 J5 e6;subst e7;refine(de src h1).trans<|Nn.trans (b:=ax tg η1) (λi e=>by rw[aJ];split<;>first|rfl|exact e)<|gf (λ{η o η'} hf=>?_) (λi hi=>by rw[aJ,NR hi]) h5;obtain⟨⟨u,η4⟩,h7,h8⟩:=aa<|show(evE C elt η).bind ij=_ from hf;cases h8;exact aG elt h7
| .comp b k src tg (Y c) elt,η,η',w,h=>by
 obtain⟨⟨ws,η1⟩,h1,h2⟩:=aa<|show(evL C src η).bind (d9 b k tg<|qh (evE C c)<|evE C elt)=_ from h;obtain⟨⟨ts,η2⟩,h3,h4⟩:=aa<|show(ret (ax tg η1)<|turns k ws).bind (λt=>(aQ tg (qh (evE C c)<|evE C elt) t.1 t.2 []).bind<|kz b)=_ from h2;obtain⟨_,_,e3⟩:=aE h3;have e4:η2=ax tg η1:=N1 J5 e3;subst e4;obtain⟨⟨us,η3⟩,h5,h6⟩:=aa<|show(aQ tg (qh (evE C c)<|evE C elt) ts (ax tg η1) []).bind (kz b)=_ from h4;obtain⟨_,_,e6⟩:=aE<|show ret η3 _=_ from h6;have e7:η'=η3:=N1 J5 e6;subst e7;refine(de src h1).trans<|Nn.trans (b:=ax tg η1) (λi e=>by rw[aJ];split<;>first|rfl|exact e)<|gf (λ{η o η'} hf=>?_) (λi hi=>by rw[aJ,NR hi]) h5;obtain⟨⟨u,η4⟩,h7,h8⟩:=aa<|show(evE C c η).bind (onT (fw<|evE C elt)<|okW J)=_ from hf;obtain⟨d,h9,h10⟩:=cD h8;cases d with
 |true=>rw[NR rfl] at h10;obtain⟨⟨u2,η5⟩,h11,h12⟩:=aa<|show(evE C elt η4).bind ij=_ from h10;cases h12;exact(aG c h7).trans<|aG elt h11
 |false=>rw[NW IG] at h10;cases h10;exact aG c h7
|.pop i es,η,η',w,h=>by obtain⟨_,_,h0⟩:=aa<|show(eV<|rd η i).bind (kc (evL C es) η<|oH i)=_ from h;obtain⟨⟨ws,η1⟩,h1,h2⟩:=aa<|show(evL C es η).bind (oH i)=_ from h0;obtain⟨r,h3,h4⟩:=aa<|show(ofO<|(rd η1 i).bind λw=>j5 w ws).bind (λr=>.ok (r.1,put η1 i r.2))=_ from h2;cases h4;refine(de es h1).trans<|rZ ?_;have:=bH h3;intro e;rw[e] at this;cases this
|.sdf i j k,η,η',w,h=>by obtain⟨r,h1,h2⟩:=aa<|show(ofO<|sdfT (rd η i) (rd η j)<|rd η k).bind (kSdf i η)=_ from h;cases h2;refine rZ λe=>?_;have:=bH h1;rw[e] at this;cases this
|.inT neg ks e,η,η',w,h=>by obtain⟨⟨u,η1⟩,h1,h2⟩:=aa<|show(evE C e η).bind (kIn neg ks)=_ from h;obtain⟨x,_,e2,_⟩:=i6 h2;cases e2;exact aG e h1
|.ixT tab e,η,η',w,h=>by obtain⟨⟨u,η1⟩,h1,h2⟩:=aa<|show(evE C e η).bind (kTab tab okS)=_ from h;obtain⟨x,j,_,_,h3⟩:=kj h2;cases h3;exact aG e h1
|.getT tab e,η,η',w,h=>by obtain⟨⟨u,η1⟩,h1,h2⟩:=aa<|show(evE C e η).bind (kGet tab)=_ from h;obtain⟨x,_,e2,_⟩:=jN h2;cases e2;exact aG e h1
theorem de:∀(es:U E) {η η':Env} {ws:U W},evL C es η=.ok (ws,η')->Nn η η'
|[],η,η',ws,h=>by cases h;exact Nn.refl _
|e::es,η,η',ws,h=>by obtain⟨w,η1,us,h1,h2,_⟩:=aq h;exact(aG e h1).trans<|de es h2
theorem fD:∀(es:U E) {η η':Env} {ws:U W},evA C es η=.ok (ws,η')->Nn η η'
|[],η,η',ws,h=>by cases h;exact Nn.refl _
| e::es,η,η',ws,h=>by
 rcases EF e with⟨i,hi⟩|he
 .subst hi;obtain⟨us,η1,w,h1,_,_,h4⟩:=jc h;rw[h4];exact(fD es h1).trans<|k7 _ _
 .obtain ⟨w,η1,us,h1,h2,_⟩:=fJ he h;exact(aG e h1).trans<|fD es h2
theorem iF:∀(es:U E) {η η':Env} {ws:U W},evA C es η=.ok (ws,η')->∀i∈ios es,rd η i≠J
|[],_,_,_,_,i,hi=>by simp[ios] at hi
| e::es,η,η',ws,h,i,hi=>by
 rcases EF e with⟨j,hj⟩|he
 .subst hj;obtain⟨us,η1,w,h1,h2,_,_⟩:=jc h;rcases Ip.mp (show i∈j::ios es from hi) with z|z
  .subst z;exactλz=>by rw[fD es h1 i z] at h2;cases h2
  .exact iF es h1 i z
 .obtain ⟨w,η1,us,h1,h2,_⟩:=fJ he h
  have hi':i∈ios es:=by
   cases e with
   |io j=>exact NP rfl (he j)
   |_=>exact hi
  exactλz=>iF es h2 i hi'<|aG e h1 i z
end
end
section
variable {K:HX}{sl:Cf}{sf sg:O->B O}{C:Call}{σ σ2:L2.St}{Z Z' Z1:Fp}{H H' H1:Hp}{Fs Fs' Fs1:Fps}{η η' η1 ηb:Env}{G G' R F:Fp}{tg is:U O}{pv val:O->B V}
def gT (K:HX):O->TG
|1=>bZ 0
|2=>vV K 2<|eQ (bZ 0)<|eQ (bZ 1) vX
|_=>λ_ _ _ _=>N2
theorem At.put1 {i:O}{w:W}{x:V}(A:At K sl σ Z H Fs η G)(r:Rep K Z H w.1 w.2 x<|Fs i)(d:∀a,sl.sl i=Y a->σ[a]?=Y (Y x))(hp:sl.pv i=J):At K sl σ Z H Fs (put η i w) G:=by
 refine⟨A.gd,λa m t e=>?_,A.own,A.dis,A.lk,A.ln⟩;rw[bo] at e;split at e
 .rename_i c;cases e;obtain⟨rfl,_⟩:=c;exact⟨x,r,d,λu b=>by rw[hp] at b;cases b⟩
 .exact A.env a m t e
theorem jE {k a:O}{v:V}(b:is[k]?=Y a)(c:σ[a]?=Y (Y v)):(b0 σ is)[k]?=Y (Y v):=by unfold b0;rw[IW,b];show Y ((σ[a]?).join)=_;rw[c];rfl
theorem iz (I:hX sf sg tg is)(h:σ2.length=tg.length+is.length):∀i a,sg i=Y a->a < σ2.length:=λi a b=>by
 rcases I i a b with⟨k,hk,rfl⟩|⟨_,k,c,rfl,hk,_⟩
 .have:=(Jc.mp hk).1;lia
 .have:=(Jc.mp hk).1;lia
theorem oO {n i:O}{c:It}{ts:U<|U W}{ws:U W}{x:V}{Q:L2.St->Hp->Prop}(hn:tg.length=n)(nd:tg.Nodup)(I:hX sf sg tg is)(hz:∀a,Z1 a->Z a)(st:Stay Z1 H1 H)(s:Yld K c Z1 H1 ts n)(A:At K ⟨sf,val⟩ σ Z H Fs η G)
  (ht:∀i∈tg,rd η i=J) (hw:ts[i]?=Y ws) (hb:bindT tg ws η=Y ηb) (y:c.yld i H x H')
  (k:∀σ2 N,At K ⟨sg,inV val tg⟩ σ2 Z N Fs ηb G->Step Z H no Z N no->(σ2.length=n+(b0 σ is).length/\σ2.drop n=b0 σ is)->Q σ2 N):gT K n x (Iu n J++b0 σ is) H' Q:=by
 have hi:i<ts.length:=(Jc.mp hw).1;have g:∀{t:O},t∈tg->inV val tg t=none:=λ{t} h=>NR h
 match n,s with
 | 1,s =>
  obtain⟨e0,w,f,r⟩:=s H i x H' st hi y;rw[e0];rw[hw] at f;cases f
  match tg,hn with
  | [t],_ =>
   cases hb;have r':Rep K Z H w.1 w.2 x (Fs t):=(r.zmono hz).mono λ_ z=>z.elim;refine k _ H ?_ (Step.refl _ _ _) ⟨by simp[Lp],rfl⟩;refine(A.into (σ2:=Y x::b0 σ is) I ht (λk j0 v P h2=>?_)<|iz I<|by simp[b0,Lp]).put1 r' (λd l=>?_)<|g<|by simp
   .rw[Kp,Lp,Jh];exact jE P h2
   .rcases I t d l with ⟨k,hk,rfl⟩ | ⟨h,_⟩
    .cases d with
     |zero=>rfl
     |succ _=>simp at hk
    .exact NP (IE.mpr rfl) h
 | 2,s =>
  obtain⟨p,o,z1,u,w,rfl,D,hq,f,r1,r2⟩:=s H i x H' st hi y;rw[hw] at f;cases f
  match tg,hn with
  | [t,M],_ =>
   cases hb;have m:t≠M:=λz=>by simp[z] at nd
   have s1:Step Z H G Z H' G:=d8 D;have o1:Own Z H' G:=λa ha=>by obtain⟨nz,ys,e⟩:=A.own a ha;exact⟨nz,ys,D _ _ e⟩
   obtain⟨A1,_⟩:=A.op o1 s1;have sn:Stay Z H H':=fN D;have r1':Rep K Z H' u.1 u.2 o (Fs t):=((r1.zmono hz).keep sn (λ_ z=>z) λ_ _ z=>z.elim).mono λ_ z=>z.elim;have r2':Rep K Z H' w.1 w.2 z1 (Fs M):=((r2.zmono hz).keep sn (λ_ z=>z) λ_ _ z=>z.elim).mono λ_ z=>z.elim;have s0:Step Z H no Z H' no:=d8 D;refine⟨p,[o,z1],rfl,hq,rfl,o,[z1],rfl,z1,[],rfl,rfl,k (Y o::Y z1::b0 σ is) _ ?_ s0 ⟨by simp;lia,rfl⟩⟩;refine((A1.into (σ2:=Y o::Y z1::b0 σ is) I ht (λk j0 v P h2=>?_)<|iz I<|by simp[b0];lia).put1 r1' (λd l=>?_)<|g<|by simp).put1 r2' (λd l=>?_)<|g<|by simp
   .rw[show[t,M].length+k=k+1+1 by simp;lia,Jh,Jh];exact jE P h2
   .rcases I t d l with ⟨k,hk,rfl⟩ | ⟨h,_⟩
    .match d,hk with
     |0,_=>rfl
     |1,hk=>exact NP (IJ hk).symm m
    .exact NP (by simp) h
   .rcases I M d l with ⟨k,hk,rfl⟩ | ⟨h,_⟩
    .match d,hk with
     |0,hk=>exact NP (IJ hk) m
     |1,_=>rfl
    .exact NP (by simp) h
def eg (Fs:Fps)(tg:U O):Fps:=λb a=>b ∉ tg/\Fs b a
theorem b6 {a:NM}(h:tot (eg Fs tg) a):tot Fs a:=let ⟨b,_,c⟩:=h;⟨b,c⟩
theorem At.dels (A:At K sl σ Z H Fs η G):At K sl σ Z H (eg Fs tg) (ax tg η) G:=by
 refine⟨⟨λa h=>A.gd.own a<|b6 h,λi b a c d=>A.gd.dis i b a c.2 d.2,A.gd.zal⟩,λi m t e=>?_,A.own,λa h q=>A.dis a h<|b6 q,A.lk,A.ln⟩;rw[aJ] at e;split at e
 .cases e
 .rename_i g;obtain⟨v,r,h⟩:=A.env i m t e;exact⟨v,r.mono λa f=>⟨g,f⟩,h⟩
theorem fM:∀{tg:U O} {t:U W} {η η1:Env},bindT tg t η=Y η1->∀i,i ∉ tg->rd η1 i=rd η i
|[],[],η,η1,h,i,_=>by cases h;rfl
|[],_::_,_,_,h,_,_=>by cases h
|_::_,[],_,_,h,_,_=>by cases h
|a::tg,w::t,η,η1,h,i,b=>by rw[fM (show bindT tg t (put η a w)=Y η1 from h) i λz=>b<|Iz _ z,bo,NW λz=>b<|by rw[z.1];exact Ih]
structure CSt (K:HX)(sf:O->B O)(val:O->B V)(σ:L2.St)(tg:U O)(f:Env->Res (B W×Env))(ts:U (U W))(η0:Env)(us:U W)(η3:Env)(Z1:Fp)(H1:Hp)(F1:Fp)(i:O)(ys:U V)(H:Hp):Prop where
 ex:∃(Z:Fp) (Fs:Fps) (η:Env) (acc:U W) (G:Fp),At K ⟨sf,val⟩ σ Z H Fs η G/\RepW K Z H acc ys G/\aQ tg f (ts.drop i) η acc=.ok (us,η3)/\(∀j∈tg,rd η j=J)/\(∀j∈tg,∀a,¬Fs j a)/\Nn η0 η/\Step Z1 H1 F1 Z H (λa=>tot Fs a\/G a)
 len:ys.length<=i
theorem sG {h:NN}{c:U W}{i:U V}{w:W}{Q:VK}(o:Own Z H G)(v:∀a,Z a->H a≠J)(r:RepW K Z H c i G)(n:i.length<=LIM)(b:(if h then(if c.all okD then Y ((.d,.lst<|trees c):W) else J) else Y (.o .s,.lst<|trees c))=Y w)(k:Out K Z H G w Q):∀p,H p=J->Q (.ref p) (upd H p<|.lst i):=by
 intro p hp;cases h with
 | true =>
  rw[NR rfl] at b;split at b
  .rename_i l;cases b;rw[JW] at l
   obtain⟨G',e,f⟩:=RepW.to (N:=.d) (λu t=>by
    have:=l u t;unfold okD at this;rw[MD] at this;unfold M.lf;split
    .rfl
    .rename_i g;rcases this with z|z
     .rw[eq_of_beq z];rfl
     .exact NP z g) r
   exact bG (m:=.d) o v e n f (by simp) k hp
  .cases b
 |false=>rw[NW IG] at b;cases b;obtain⟨G',e,f⟩:=RepW.to (N:=.s) (λu t=>by cases M.lf u.1 u.2<;>rfl) r;exact bG (m:=.o .s) o v e n f (by simp) k hp
end
section
variable {K:HX}{sf sg:O->B O}{C:Call}{tg is:U O}
theorem eE {b:Type}{l:U b}{i:O}{a:b}(h:l[i]?=Y a):l.drop i=a::l.drop (i+1):=by obtain⟨c,d⟩:=Jc.mp h;rw[List.drop_eq_getElem_cons c,d]
theorem rR {h:NN}{k:Ik}{f:Env->Res (B W×Env)}{p:U W×Env}{w:W}{b:Env}(e:d9 h k tg f p=.ok (w,b)):∃c a,turns k p.1=Y c/\aQ tg f c (ax tg p.2) []=.ok (a,b)/\(if h then(if a.all okD then Y ((.d,.lst<|trees a):W) else J) else Y (.o .s,.lst<|trees a))=Y w:=by obtain⟨⟨c,l⟩,x,y⟩:=aa<|show(ret (ax tg p.2)<|turns k p.1).bind (λt=>(aQ tg f t.1 t.2 []).bind<|kz h)=_ from e;obtain⟨i,D,e3⟩:=aE x;have n:c=i:=N1 IV e3;have r:l=ax tg p.2:=N1 J5 e3;subst n r;obtain⟨⟨a,g⟩,z,A⟩:=aa<|show(aQ tg f c (ax tg p.2) []).bind (kz h)=_ from y;obtain⟨G,F,m⟩:=aE<|show ret g (if h then(if a.all okD then Y ((.d,.lst<|trees a):W) else J) else Y (.o .s,.lst<|trees a))=_ from A;have u:w=G:=N1 IV m;have v:b=g:=N1 J5 m;subst u v;exact⟨c,a,D,z,F⟩
theorem k9 {f:Env->Res (B W×Env)}{t:U W}{k:U<|U W}{l g:Env}{a n:U W}(e:aQ tg f (t::k) l a=.ok (n,g)):∃h o i,bindT tg t l=Y h/\f h=.ok (o,i)/\aQ tg f k (ax tg i) (a++o.toList)=.ok (n,g):=by obtain⟨d,r,s⟩:=aa<|show(ofO<|bindT tg t l).bind (λd=>(f d).bind λp=>aQ tg f k (ax tg p.2)<|a++p.1.toList)=_ from e;obtain⟨⟨o,m⟩,u,v⟩:=aa s;exact⟨d,o,m,bH r,u,v⟩
theorem oE {n:O}{h:NN}{k:Ik}{src:U E}{f:Env->Res (B W×Env)}{te:L2.St->Hp->(B V->Hp->Prop)->Prop}(hn:tg.length=n)(nd:tg.Nodup)(I:hX sf sg tg is)
  (hf:∀{P o η'},f P=.ok (o,η')->Nn P η')
  (hte:∀ {val:O->B V} {l:L2.St} {Z:Fp} {H:Hp} {Fs:Fps} {P M:Env} {R:Fp} {o:B W} {Q:B V->Hp->Prop},At K ⟨sg,val⟩ l Z H Fs P R->f P=.ok (o,M) ->
   (∀oy Z' H' Fs' G,At K ⟨sg,val⟩ l Z' H' Fs' M (λc=>R c\/G c)->(match o,oy with|some w,Y y=>Rep K Z' H' w.1 w.2 y G|none,J=>OA|_,_=>N2)->(∀c,R c->¬G c)->Step Z H (tot Fs) Z' H' (λa=>tot Fs' a\/G a)->Q oy H')->te l H Q)
  {e:E} (he:∀P,evE C e P=(evL C src P).bind (d9 h k tg f)) (σ:L2.St) (H:Hp) (Q:VK) (hw:wE K sf C e σ H Q):
  wI K sf C n k src σ H λd H1=>∃W:O->O->U V->Hp->Prop,(∃m,W 0 m [] H1)/\∀i m D H,W i m D H ->
   (d.stop i H/\D.length<=sizeLine/\∀p,H p=J->Q (.ref p) (upd H p<|.lst D)) \/
   (d.go i H/\D.length<sizeLine/\∀x H',d.yld i H x H'->gT K n x (Iu n J++b0 σ is) H' λl H2=>(l.length=n+(b0 σ is).length/\l.drop n=b0 σ is)/\te l H2 λoy H3=>∃m',m'<m/\W (i+1) m' (D++oy.toList) H3):=by
 obtain⟨pv,Z,Fs,P,w,η',A,ev,kk⟩:=hw;rw[he] at ev;obtain⟨⟨ws,F⟩,h1,h2⟩:=aa ev;obtain⟨N,us,ht,h3,h4⟩:=rR h2;refine⟨pv,Z,Fs,P,ws,F,N,A,h1,ht,λd Z1 H1 Fs1 A1 s1 wk yl=>?_⟩;obtain⟨val,v1,A2,v2⟩:=(A1.dels (tg:=tg)).pin;have s1':Step Z H (tot Fs) Z1 H1 (tot (eg Fs1 tg)):=s1.mono (λ_ z=>z) λ_ z=>b6 z;refine⟨λi m D H=>m=N.length-i/\i<=N.length/\CSt K sf val σ tg f N (ax tg F) us η' Z1 H1 (tot<|eg Fs1 tg) i D H,⟨N.length,by simp,Jo _,⟨⟨Z1,eg Fs1 tg,ax tg F,[],no,A2,rfl,h3,λg s=>by rw[aJ,NR s],λg s a v=>v.1 s,Nn.refl _,(Step.refl _ _ _).mono (λ_ z=>z) λa v=>v.elim id λz=>z.elim⟩,Ic _⟩⟩,?_⟩;rintro i m D H0 ⟨rfl,hi,⟨⟨Zi,Fsi,ηi,acc,Ga,Ai,ra,hc,htg,hfp,hnn,si⟩,r⟩⟩;have st:Stay Z1 H1 H0:=A2.gd.own.stay si;have hL:=wk.len;by_cases hlt:i<N.length
 .right;refine⟨wk.go H0 i st hlt,Mw (Ij r hi) (jf hL),λx H2 y=>?_⟩;have hw:N[i]?=Y N[i]:=by simp[hlt]
  rw[eE hw] at hc;obtain⟨ηb,o,M,hb,hfe,hc2⟩:=k9 hc;refine oO hn nd I si.zm st yl Ai htg hw hb y λl H3 A3 s3 hσ=>⟨hσ,?_⟩;refine hte A3 hfe λoy Z4 H4 Fs4 G4 A4 r4 d4 s4=>⟨N.length-(i+1),by lia,rfl,hlt,⟨?_,?_⟩⟩
  .have ra3:RepW K Zi H3 acc D Ga:=ra.frame bj s3 fun _ _ z=>z;have ra4:RepW K Z4 H4 acc D Ga:=ra3.frame A3.gd.own s4 A3.dis
   have vv:∀g m t,rd (ax tg M) g=Y (m,t)->val g≠none:=λg m t e=>by
    rw[aJ] at e;split at e
    .cases e
    .rename_i s;have n1:rd ηb g≠none:=λz=>by rw[hf hfe g z] at e;cases e
     rw[fM hb g s] at n1;have n2:rd (ax tg F) g≠none:=λz=>n1<|hnn g z;cases e2:rd (ax tg F) g with
     |none=>exact NP e2 n2
     |some u=>exact v2 g u.1 u.2 e2
   have A5:=(A4.dels (tg:=tg)).outof (sf:=sf) (σ:=σ) (val:=val) (λg s=>by rw[aJ,NR s]) vv Ai.lk Ai.ln
   have s5:Step Z1 H1 (tot (eg Fs1 tg)) Z4 H4 (λa=>tot (eg Fs4 tg) a\/(Ga a\/G4 a)):=by
    refine(si.trans<|((s3.frame λa=>tot Fsi a\/Ga a).mono (λa v=>v.elim (λz=>z.elim) id) λa v=>.inr v).trans<|s4.frame Ga).mono (λ_ z=>z) λa v=>?_;rcases v with z|z|z
    .exact .inl (.inl<|b6 z)
    .exact .inr z
    .exact .inl (.inr z)
   refine⟨Z4,eg Fs4 tg,ax tg M,acc++o.toList,λc=>Ga c\/G4 c,A5,?_,hc2,λg s=>by rw[aJ,NR s],λg s a v=>v.1 s,λg e=>?_,s5⟩
   .cases o with
    |none=>
     cases oy with
     |none=>rw[Nk,Nk,IT,IT];exact ra4.mono λ_ z=>.inl z
     |some _=>exact r4.elim
    |some w4=>
     cases oy with
     |none=>exact r4.elim
     |some y4=>exact RepW.append (λ_ z=>.inl z) (λ_ z=>.inr z) d4 ra4<|RepW.one r4
   .have e':=hnn g e;rw[aJ];split
    .rfl
    .rename_i s;exact hf hfe g<|by rw[fM hb g s];exact e'
  .have:D.length<=i:=r;cases oy<;>simp<;>lia
 .left;have hi':i=N.length:=by lia
  subst hi';rw[LX] at hc;cases hc;refine⟨wk.stop H0 _ st<|Ic _,LIM_le<|Ij r hL,sG Ai.own Ai.gd.zal ra (Ij r hL) h4<|bb (Ai.unpin v1) (s1'.trans si) kk⟩
theorem dU {n:O}{h:NN}{k:Ik}{e:U E}{b:E}(D:tg.length=n)(M:tg.Nodup)(I:hX sf sg tg is)(x:L2.St)(H:Hp)(Q:VK)(F:wE K sf C (.comp h k e tg J b) x H Q):jb n (wI K sf C n k e) is (gT K n) (wE K sg C b) x H Q:=by
 refine oE (te:=λf H Q=>wE K sg C b f H λy l=>Q (Y y) l) D M I (λ{g o N} t=>?_) (λ{val f Z H Fs g P R o Q} A t k=>?_) (λg=>rfl) x H Q F
 .obtain ⟨⟨u,w⟩,m,p⟩:=aa<|show (evE C b g).bind ij=_ from t;cases p;exact aG b m
 .obtain ⟨⟨u,w⟩,m,p⟩:=aa<|show (evE C b g).bind ij=_ from t;cases p;exact ju A m λv z l i G a r d s _=>k (Y v) z l i G a r d s
end
section
variable {K:HX}{sl:Cf}{sf sg:O->B O}{C:Call}{σ σ2:L2.St}{Z Z' Z1:Fp}{H H' H1:Hp}{Fs Fs' Fs1:Fps}{η η' η1 ηb:Env}{G G' G1 R F:Fp}{tg is:U O}{pv val:O->B V}
noncomputable def jX (Fs:Fps)(i:O)(G:Fp):Fps:=λb a=>(b=i/\G a)\/(b≠i/\Fs b a)
theorem a9 {i:O}{a:NM}(h:tot (jX Fs i G) a):tot Fs a\/G a:=by
 obtain⟨b,h|h⟩:=h
 .exact .inr h.2
 .exact .inl ⟨b,h.2⟩
theorem At.put {i:O}{w:W}{x:V}(A:At K sl σ Z H Fs η G)(r:Rep K Z H w.1 w.2 x G1)(d:∀a,G1 a->G a)(g:∀a,R a->G a)(hd:∀a,R a->¬G1 a)(n:∀b,sl.sl i=Y b->σ[b]?=Y (Y x))(hp:∀u,sl.pv i=Y u->x=u):
  At K sl σ Z H (jX Fs i G1) (M.put η i w) R:=by
 refine⟨⟨λa h=>(a9 h).elim (A.gd.own a) λq=>A.own a<|d a q,λb k a c hk=>?_,A.gd.zal⟩,λb m t e=>?_,λa h=>A.own a<|g a h,λa h q=>(a9 q).elim (A.dis a<|g a h)<|hd a h,A.lk,A.ln⟩
 .rcases c with ⟨rfl,c⟩ | ⟨s,c⟩
  .rcases hk with ⟨rfl,_⟩ | ⟨o,hk⟩
   .rfl
   .exact NP ⟨k,hk⟩ (A.dis a<|d a c)
  .rcases hk with ⟨rfl,hk⟩ | ⟨o,hk⟩
   .exact NP ⟨b,c⟩ (A.dis a<|d a hk)
   .exact A.gd.dis b k a c hk
 .rw [bo] at e;split at e
  .rename_i f;cases e;obtain⟨rfl,_⟩:=f;exact⟨x,r.mono λa h=>.inl ⟨rfl,h⟩,n,hp⟩
  .rename_i f;obtain⟨v,p,l⟩:=A.env b m t e;by_cases c:b=i
   .subst c;exact NP ⟨rfl,cM e⟩ f
   .exact⟨v,p.mono λa h=>.inr ⟨c,h⟩,l⟩
def wA (K:HX)(sl:O->B O)(C:Call)(c:U E):TA:=λσ H Q=>∃pv Z Fs η d η',At K ⟨sl,pv⟩ σ Z H Fs η no/\evA C c η=.ok (d,η') /\
 ∀b Z' H' Fs' G,At K ⟨sl,pv⟩ σ Z' H' Fs' η' G->RepW K Z' H' d b G->Step Z H (tot Fs) Z' H' (λa=>tot Fs' a\/G a)->(∀(k i:O) (u:V),c[k]?=Y (.io i)->pv i=Y u->b[k]?=Y u)->Q b H'
theorem zY (σ:L2.St)(H:Hp)(Q:U V->Hp->Prop)(h:wA K sf C [] σ H Q):BH σ H Q:=by obtain⟨pv,Z,Fs,η,c,η',A,ev,k⟩:=h;cases ev;exact k [] Z H Fs no A rfl ((Step.refl _ _ _).mono (λ_ z=>z) λa b=>b.elim id λz=>z.elim) λk i u h _=>by simp at h
theorem HK {d:U E}{g:U W}{Q:U V->Hp->Prop}(A:At K sl σ Z H Fs η R)(ev:evA C d η=.ok (g,η'))
  (k:∀ f Z' H' Fs' G,At K sl σ Z' H' Fs' η' (fun c=>R c\/G c)->RepW K Z' H' g f G->(∀ c,R c->¬ G c)->Step Z H (tot Fs) Z' H' (fun a=>tot Fs' a\/G a) ->
   Step Z H (λc=>tot Fs c\/R c) Z' H' (λc=>tot Fs' c\/(R c\/G c))->(∀(k i:O) (u:V),d[k]?=Y (.io i)->sl.pv i=Y u->f[k]?=Y u)->Q f H'):wA K sl.sl C d σ H Q:=
 ⟨sl.pv,Z,Fs,η,g,η',A.bare,ev,fun v Z' H' Fs' G b r s e=>by
  obtain⟨h,l,m⟩:=A.frame b s;exact k v Z' H' Fs' G h r m s l e⟩
theorem rP {e:E}{f:U E}(g:∀i,e≠.io i)(σ:L2.St)(H:Hp)(Q:U V->Hp->Prop)(h:wA K sf C (e::f) σ H Q):mG (wE K sf C e) (wA K sf C f) σ H Q:=by
 obtain⟨pv,Z,Fs,η,N,η',A,ev,k⟩:=h;obtain⟨w,η1,M,s,t,rfl⟩:=fJ g ev;refine ju A s λx Z1 H1 Fs1 G1 d r1 _ y _=>?_;have a:=d.mono (G':=G1) λ_ z=>.inr z;refine HK a t λl p o b n m r2 r D I c=>?_;refine k (x::l) p o b _ m ⟨x,l,G1,n,rfl,λ_ z=>.inl z,λ_ z=>.inr z,r,r1.frame d.gd.own D a.dis,r2⟩ (y.trans I) λk i u h v=>?_;cases k with
 |zero=>exact NP (IJ h)<|g i
 |succ k=>exact c k i u h v
theorem oM {i b:O}{s:U E}(N:sf i=Y b)(σ:L2.St)(H:Hp)(Q:U V->Hp->Prop)(h:wA K sf C (.io i::s) σ H Q):mG (iR b) (wA K sf C s) σ H Q:=by
 obtain⟨pv,Z,Fs,η,ws,η',A,ev,k⟩:=h;obtain⟨us,η1,w,g,d,rfl,rfl⟩:=jc ev;obtain⟨m,t⟩:=w;cases e0:rd η i with
 |none=>rw[fD s g i e0] at d;cases d
 | some w0 =>
  obtain⟨v,_,hv⟩:=A.env i w0.1 w0.2 e0;refine⟨v,hv.1 b N,pv,Z,Fs,η,us,η1,A,g,λxs Z2 H2 f G2 c r2 s2 D=>?_⟩;obtain⟨P,r,o⟩:=c.env i m t d;have x:P=v:=by have e1:=hv.1 b N;rw[o.1 b N] at e1;exact IJ<|IJ e1
  subst x
  have A3:At K ⟨sf,pv⟩ σ Z2 H2 (Cp f i) (del η1 i) (λa=>f i a\/G2 a):=by
   refine⟨⟨λa ⟨l,g,d⟩=>c.gd.own a ⟨l,d⟩,λl l' a g d=>c.gd.dis l l' a g.2 d.2,c.gd.zal⟩,λl m' t' e=>?_,λa n=>n.elim (λz=>c.gd.own a ⟨i,z⟩)<|c.own a,λa n ⟨l,g,d⟩=>n.elim (λz=>g<|c.gd.dis l i a d z) λz=>c.dis a z ⟨l,d⟩,c.lk,c.ln⟩;rw[bo] at e;split at e
   .cases e
   .rename_i M;obtain⟨v'',r',p⟩:=c.env l m' t' e;have I:l≠i:=λz=>M ⟨z,cM d⟩;exact⟨v'',r'.mono λa n=>⟨I,n⟩,p⟩
  refine k (P::xs) Z2 H2 (Cp f i) _ A3 ⟨P,xs,f i,G2,rfl,λ_ z=>.inl z,λ_ z=>.inr z,λa z y=>c.dis a y ⟨i,z⟩,r,r2⟩ (s2.mono (λ_ z=>z) λa n=>?_) λk i' u h hu=>?_
  .rcases n with ⟨l,_,z⟩ | z | z
   .exact .inl ⟨l,z⟩
   .exact .inl ⟨i,z⟩
   .exact .inr z
  .cases k with
   |zero=>cases h;rw[<- o.2 u hu];rfl
   |succ k=>exact D k i' u h hu
def atV (a:U O)(b:U V):U V:=a.filterMap λi=>b[i]?
def spC (K:HX)(C:Call)(f:O)(e:U O):U V->Hp->VK->Prop:=λc H Q=>∃Z d G w bs,RepW K Z H d c G/\Own Z H G/\(∀a,Z a->H a≠J)/\C f d=.ok (w,bs) /\
 ∀v Z' H' G1 b,Rep K Z' H' w.1 w.2 v G1->RepW K Z' H' bs (atV e c) b->(∀a,G1 a->¬b a)->Own Z' H' (λa=>G1 a\/b a)->Step Z H G Z' H' (λa=>G1 a\/b a)->Q v H'
noncomputable def gH:U E->O->U O
|[],_=>[]
|.io _::a,n=>n::gH a (n+1)
|_::a,n=>gH a<|n+1
theorem yJ {vs:U V}:∀{es:U E} {n:O},(∀(k i:O) (u:V),es[k]?=Y (.io i)->pv i=Y u->vs[n+k]?=Y u)->(∀i∈ios es,pv i≠J)->(ios es).filterMap pv=atV (gH es n) vs
|[],_,_,_=>rfl
| e::es,n,h,d=>by
 have rest:(∀i∈ios es,pv i≠J)->(ios es).filterMap pv=atV (gH es (n+1)) vs:=λq=>yJ (λk i u hk b=>by have:=h (k+1) i u hk b;rw[show n+(k+1)=n+1+k by lia] at this;exact this) q;cases e with
 | io i =>
  cases b:pv i with
  |none=>exact NP b<|d i<|by simp[ios]
  |some u=>have f:=h 0 i u rfl b;rw[Nat.add_zero] at f;show(i::ios es).filterMap pv=(n::gH es (n+1)).filterMap λi=>vs[i]?;rw[Kr,Kr,b,f];exact N1 (u::·)<|rest λa c=>d a<|by simp[ios,c]
 |_=>exact rest λa c=>d a c
theorem At.putAll:∀{is:U O} {bs:U W} {Fs:Fps} {η:Env} {f:Fp},At K ⟨sf,val⟩ σ Z H Fs η (λa=>R a\/f a)->(∀a,R a->¬f a)->RepW K Z H bs (is.filterMap val) f->(∀i∈is,val i≠J)->∃Fs',At K ⟨sf,val⟩ σ Z H Fs' (M.putAll is bs η) R/\∀a,tot Fs' a->tot Fs a\/f a
|[],bs,Fs,η,f,A,_,_,_=>⟨Fs,A.mono λ_ z=>.inl z,λ_ z=>.inl z⟩
|i::is,[],Fs,η,f,A,_,_,_=>⟨Fs,A.mono λ_ z=>.inl z,λ_ z=>.inl z⟩
| i::is,b::bs,Fs,η,f,A,hd,r,o=>by
 cases g:val i with
 |none=>exact NP g<|o i Ih
 |some u=>rw[Kr,g] at r;obtain⟨x,D,s,t,e,k,l,ad,p,q⟩:=r;cases e;have c:=At.put (i:=i) (R:=λa=>R a\/t a) (G1:=s) A p (λa h=>.inr<|k a h) (λa h=>h.imp id (l a)) (λa h q=>h.elim (λz=>hd a z<|k a q) λz=>ad a q z) (λd m=>A.lk i u d g m) (λy n=>by rw[show val i=Y y from n] at g;cases g;rfl);obtain⟨Fs',v,w⟩:=At.putAll (is:=is) (bs:=bs) c (λa h q=>hd a h<|l a q) q λd m=>o d<|Iz _ m;exact⟨Fs',v,λa h=>(w a h).elim (λz=>(a9 z).imp id (k a)) λz=>.inr<|l a z⟩
theorem w5 {f:O}{es:U E}{D:U O}(l:gH es 0=D\/ios es=[])(σ:L2.St)(H:Hp)(Q:VK)(h:wE K sf C (.call f es) σ H Q):wA K sf C es σ H λvs H1=>spC K C f D vs H1 Q:=by
 obtain⟨pv,Z,Fs,η,w,η',A,ev,k⟩:=h;obtain⟨⟨m,η1⟩,y,h2⟩:=aa<|show(evA C es η).bind (kCall C f<|ios es)=_ from ev;obtain⟨⟨u,bs⟩,h3,h4⟩:=aa<|show(C f m).bind (kBack (ios es) η1)=_ from h2;cases h4;obtain⟨val,v1,I,v2⟩:=A.pin
 have c:∀i∈ios es,val i≠none:=λi hi=>by
  cases e:rd η i with
  |none=>exact NP e<|iF es y i hi
  |some q=>exact v2 i q.1 q.2 e
 refine⟨val,Z,Fs,η,m,η1,I,y,λvs Z1 H1 Fs1 G b r s hv=>?_⟩;refine⟨Z1,m,G,u,bs,r,b.own,b.gd.zal,h3,λv x t G1 P r1 r2 d o st=>?_⟩;obtain⟨p,s2⟩:=b.op o st
 have g:∃Fs',At K ⟨sf,val⟩ σ x t Fs' (M.putAll (ios es) bs η1) G1/\∀a,tot Fs' a->tot Fs1 a\/P a:=by
  rcases l with e|e
  .have e2:=yJ (pv:=val) (es:=es) (n:=0) (vs:=vs) (fun k i u' hk hu=>by rw [Jx]; exact hv k i u' hk hu) c;rw[e] at e2;rw[<- e2] at r2;exact At.putAll p d r2 c
  .rw [e];exact⟨Fs1,p.mono λ_ z=>.inl z,λ_ z=>.inl z⟩
 obtain⟨Fs',N,hF⟩:=g;refine k v x t Fs' G1 (N.unpin v1) r1<|(s.trans s2).mono (λ_ z=>z) λa ha=>?_;rcases ha with z|z
 .exact(hF a z).imp id .inr
 .exact .inr (.inl z)
end
section
variable {K:HX}{sl:Cf}{sf sg:O->B O}{C:Call}{σ σ2:L2.St}{Z Z' Z1:Fp}{H H' H1:Hp}{Fs Fs' Fs1:Fps}{η η' η1 ηb:Env}{G G' G1 R F F':Fp}{tg is vs ls:U O}{pv val:O->B V}
theorem pR (o:B W):toS (toS o)=toS o:=by
 cases o with
 |none=>rfl
 |some w=>rfl
theorem fT:∀(vs:U O) (η:Env) (i:O),rd (share vs η) i=if i∈vs then toS (rd η i) else rd η i
|[],η,i=>by simp[share]
| v::vs,η,i=>by
 show rd (share vs<|wr η v<|toS<|rd η v) i=_;rw[fT vs,bo];by_cases b:i=v
 .subst b;rw[NR (show i∈i::vs from Ih)];by_cases c:i < η.length
  .rw [NR (show i=i/\i < η.length from ⟨rfl,c⟩)];split
   .exact pR _
   .rfl
  .have e:rd η i=none:=by
    cases e:rd η i with
    |none=>rfl
    |some w=>exact NP (cM e) c
   rw[NW<|show¬(i=i/\i < η.length) fromλh=>c h.2,e];split<;>rfl
 .rw [NW (show ¬ (i=v/\v < η.length) from fun h=>b h.1)];by_cases a:i∈vs
  .rw[NR a,NR<|Iz _ a]
  .rw[NW a,NW<|by simp[a,b]]
theorem kh:∀(η:Env) (i:O),rd (fE η) i=J
|[],_=>rfl
|_::_,0=>rfl
|_::η,i+1=>kh η i
theorem mQ:∀(vs:U O) (a η:Env) (i:O) (w:W),rd (ly vs a η) i=Y w->rd η i=Y w\/(i∈vs/\toS (rd a i)=Y w)
|[],_,_,_,_,h=>.inl h
| v::vs,a,η,i,w,h=>by
 rcases mQ vs a (wr η v<|toS<|rd a v) i w h with e|e
 .rw [bo] at e;split at e
  .rename_i b;obtain⟨rfl,_⟩:=b;exact .inr ⟨Ih,e⟩
  .exact .inl e
 .exact .inr ⟨Iz _ e.1,e.2⟩
theorem ky:∀(vs:U O) (a η:Env) (i:O) (w:W),rd (gn vs a η) i=Y w->rd η i=Y w\/lfO (rd a i)=Y w
|[],_,_,_,_,h=>.inl h
| v::vs,a,η,i,w,h=>by
 rcases ky vs a (wr η v<|lfO<|rd a v) i w h with e|e
 .rw [bo] at e;split at e
  .rename_i b;obtain⟨rfl,_⟩:=b;exact .inr e
  .exact .inl e
 .exact .inr e
theorem u5 {i:O}{w:W}(h:rd (pick vs ls η) i=Y w):∃m t,rd η i=Y (m,t)/\((i∈vs/\w=(.s,t))\/(t.leaf=HV/\w=(.d,t))):=by
 rcases ky ls η _ i w h with e|e
 .rcases mQ vs η _ i w e with e | ⟨hi,e⟩
  .rw[kh] at e;cases e
  .cases q:rd η i with
   |none=>rw[q] at e;cases e
   |some u=>rw[q] at e;cases e;exact⟨u.1,u.2,rfl,.inl ⟨hi,rfl⟩⟩
 .cases q:rd η i with
  |none=>rw[q] at e;cases e
  |some u=>
   rw[q] at e;obtain⟨m,t⟩:=u;have a:(if t.leaf=HV then Y ((.d,t):W) else J)=Y w:=e;split at a
   .rename_i b;cases a;exact⟨m,t,rfl,.inr ⟨b,rfl⟩⟩
   .cases a
def bJ (Fs:Fps)(vs:U O):Fp:=λa=>∃i,i∈vs/\Fs i a
def m9:Fps:=λ_ _=>N2
theorem cc {a:NM}(h:bJ Fs vs a):tot Fs a:=let ⟨i,_,h⟩:=h;⟨i,h⟩
theorem fL {a:NM}(h:tot m9 a):N2:=let ⟨_,h⟩:=h;h
theorem At.quiet (A:At K sl σ Z H Fs η no):At K sl σ (λa=>Z a\/bJ Fs vs a) H m9 (pick vs ls η) no:=by
 refine⟨⟨λa h=>(fL h).elim,λ_ _ _ h=>h.elim,λa h=>h.elim (A.gd.zal a) λq=>?_⟩,λi m t e=>?_,bj,λ_ z=>z.elim,A.lk,A.ln⟩
 .obtain ⟨_,g,e⟩:=A.gd.own a<|cc q;rw[e];simp
 .obtain ⟨d,f,e1,e2⟩:=u5 e;obtain⟨v,r,h⟩:=A.env i d f e1;rcases e2 with⟨b,e2⟩|⟨c,e2⟩
  .cases e2;exact⟨v,(r.sh.zmono λa h=>h.imp id λq=>⟨i,b,q⟩).sany,h⟩
  .cases e2;exact⟨v,r.leaf (λ_ _ _ q=>q) c,h⟩
mutual
theorem Rep.dany:∀{t:T} {v:V} {G:Fp},Rep K Z H .d t v G->Rep K Z' H .d t v G
|.non,_,_,h=>h
|.bl _,_,_,h=>h
|.int _,_,_,h=>h
|.str _,_,_,h=>h
|.scr _,_,_,h=>h
|.tup ts,_,_,⟨a,xs,e,q,l,r⟩=>⟨a,xs,e,q,l,RepL.dany r⟩
|.lst ts,_,_,⟨a,xs,e,l,q,r⟩=>⟨a,xs,e,l,q,RepL.dany r⟩
|.dct _ _,_,_,⟨a,xs,e,l,q,n,hl,r⟩=>⟨a,xs,e,l,q,n,hl,RepL.dany r⟩
|.ins _ _ _,_,_,h=>NP rfl h.1
|.dtt _ _,_,_,h=>NP rfl h.1
|.gone,_,_,h=>h
theorem RepL.dany:∀{ts:U T} {xs:U V} {G:Fp},RepL K Z H .d ts xs G->RepL K Z' H .d ts xs G
|[],_,_,h=>h
|t::ts,xs,_,⟨x,r,G1,G2,e,h1,h2,hd,p,q⟩=>⟨x,r,G1,G2,e,h1,h2,hd,Rep.dany p,RepL.dany q⟩
end
theorem cB (A:At K sl σ Z H Fs η no)(b:Own Z' H' G)(d:∀a,Z' a->H' a≠J)(s:Step (λa=>Z a\/bJ Fs vs a) H F Z' H' λa=>F' a\/G a)(c:∀a,¬F a):
  At K sl σ (λa=>Z' a/\¬bJ Fs vs a) H' Fs η G/\Step Z H (tot Fs) (λa=>Z' a/\¬bJ Fs vs a) H' (λa=>tot Fs a\/G a):=by
 have keep:∀a o,H a=Y o->H' a=Y o:=λa o e=>s.keep a o e<|c a;have k:∀a,Z a->Z' a/\¬bJ Fs vs a:=λa h=>⟨s.zm a<|.inl h,λq=>(A.gd.own a<|cc q).1 h⟩
 have g:∀a,tot Fs a->¬(Z' a/\¬bJ Fs vs a):=λa h q=>by
  obtain⟨g,f,e⟩:=A.gd.own a h;rcases s.zn a q.1 with z|z|z
  .exact z.elim g q.2
  .exact c a z
  .rw[e] at z;cases z
 have l:∀a,G a->¬tot Fs a:=λa h q=>by
  obtain⟨_,f,e⟩:=A.gd.own a q;rcases s.fn a (.inr h) with z|z
  .exact c a z
  .rw[e] at z;cases z
 refine⟨⟨⟨λa h=>?_,A.gd.dis,λa h=>d a h.1⟩,λi m t e=>?_,λa h=>⟨λq=>(b a h).1 q.1,(b a h).2⟩,l,A.lk,A.ln⟩,⟨λa o e _=>keep a o e,k,λa h=>?_,λa h=>?_,s.al,λ_ a h=>d a h.1⟩⟩
 .obtain ⟨_,f,e⟩:=A.gd.own a h;exact⟨g a h,f,keep a _ e⟩
 .obtain ⟨v,r,h⟩:=A.env i m t e;refine⟨v,r.keep ⟨λa o _ e=>keep a o e,λa f e=>?_,λa o u e=>keep a _ e⟩ k λa o _ e=>keep a o e,h⟩;rcases e with e|⟨u,e⟩
  .exact .inl (keep a _ e)
  .exact .inr ⟨u,keep a _ e⟩
 .rcases s.zn a h.1 with z | z | z
  .exact z.elim .inl λq=>NP q h.2
  .exact(c a z).elim
  .exact .inr (.inr z)
 .rcases h with h | h
  .exact .inl h
  .exact(s.fn a<|.inr h).elim (λz=>(c a z).elim) .inr
theorem At.share (A:At K sl σ Z H Fs η G):At K sl σ (λa=>Z a\/bJ Fs vs a) H (eg Fs vs) (M.share vs η) G/\∀{g f d},Step g f d Z H (λa=>tot Fs a\/G a)->Step g f d (λa=>Z a\/bJ Fs vs a) H (λa=>tot (eg Fs vs) a\/G a):=by
 refine⟨⟨⟨λa h=>?_,λi b a n o=>A.gd.dis i b a n.2 o.2,λa h=>h.elim (A.gd.zal a) λq=>?_⟩,λi m t e=>?_,λa h=>⟨λz=>z.elim (A.own a h).1 λq=>A.dis a h<|cc q,(A.own a h).2⟩,λa h q=>A.dis a h<|b6 q,A.lk,A.ln⟩,λ{g f d} s=>⟨s.keep,λa h=>.inl<|s.zm a h,λa h=>h.elim (s.zn a) λq=>.inr<|s.fn a<|.inl<|cc q,λa h=>s.fn a<|h.imp b6 id,s.al,λz a h=>h.elim (s.za z a) λq=>?_⟩⟩
 .obtain ⟨i,c,l⟩:=h;obtain⟨w,k,e⟩:=A.gd.own a ⟨i,l⟩;exact⟨λz=>z.elim w λ⟨b,p,q⟩=>c<|A.gd.dis i b a l q ▸ p,k,e⟩
 .obtain ⟨_,k,e⟩:=A.gd.own a<|cc q;rw[e];simp
 .rw [fT] at e;split at e
  .rename_i c;cases q:rd η i with
   |none=>rw[q] at e;cases e
   |some u=>rw[q] at e;cases e;obtain⟨v,r,h⟩:=A.env i u.1 u.2 q;exact⟨v,(r.sh.zmono λa h=>h.imp id λq=>⟨i,c,q⟩).sany,h⟩
  .rename_i c;obtain⟨v,r,h⟩:=A.env i m t e;exact⟨v,(r.zmono λa h=>.inl h).mono λa h=>⟨c,h⟩,h⟩
 .obtain ⟨_,k,e⟩:=A.gd.own a<|cc q;rw[e];simp
theorem iK {x:X}{e:E}{w:W}{Q:VK}(A:At K sl σ Z H Fs η no)(ev:evX C x e η=.ok (w,η'))(k:∀v Z' H' Fs' G,At K sl σ Z' H' Fs' η' G->Rep K Z' H' w.1 w.2 v G->Step Z H (tot Fs) Z' H' (λa=>tot Fs' a\/G a)->Q v H'):wE K sl.sl C e σ H Q:=by
 cases x with
 | q vs ls =>
  obtain⟨⟨u,p⟩,I,N⟩:=aa<|show(evE C e<|pick vs ls η).bind (kX vs η)=_ from ev;cases N;generalize i:M.lf u.1 u.2=m0 at k;refine⟨sl.pv,_,m9,_,_,p,A.quiet (vs:=vs) (ls:=ls),I,λv Z' H' Fs' G b r0 s=>?_⟩;have r:=r0.lf;rw[i] at r;obtain⟨t,f⟩:=cB A b.own b.gd.zal s λa h=>fL h
  have c:Q v H'\/m0=.d:=by
   by_cases hd:m0=.d
   .exact .inr hd
   .refine .inl ?_
    have g:after m0 vs η=share vs η:=by
     cases P:m0 with
     |d=>exact NP P hd
     |s=>rfl
     |o m=>rfl
    obtain⟨D,s2⟩:=t.share (vs:=vs);have zz:∀a,(Z' a/\¬bJ Fs vs a)\/bJ Fs vs a->Z' a:=λa h=>h.elim Kk λq=>s.zm a<|.inr q;have n:∀a,Z' a->(Z' a/\¬bJ Fs vs a)\/bJ Fs vs a:=λa h=>(LS<|bJ Fs vs a).elim .inr λq=>.inl ⟨h,q⟩;exact k v _ H' _ G (g ▸ D) (r.zmono n)<|s2 f
  rcases c with q|hd
  .exact q
  .have g:after m0 vs η=η:=by rw [hd]; rfl
   refine k v _ H' Fs G (g.symm ▸ t) ?_ f;subst hd;exact r.dany
 |l vs=>obtain⟨b,s0⟩:=A.share (vs:=vs);have f:=s0<|(Step.refl Z H<|tot Fs).mono (F2:=λa=>tot Fs a\/no a) (λ_ z=>z) λa h=>h.elim id λz=>z.elim;refine⟨sl.pv,_,_,_,w,η',b,ev,λv Z' H' Fs' G y r s=>k v Z' H' Fs' G y r<|(f.mono (λ_ z=>z) λa h=>.inl h).trans s⟩
theorem Hm {x:X}{e:E}{b:NN}{Q:NN->Hp->Prop}(A:At K sl σ Z H Fs η no)(ev:evT C x e η=.ok (b,η'))(k:∀Z' H' Fs',At K sl σ Z' H' Fs' η' no->Step Z H (tot Fs) Z' H' (tot Fs')->Q b H'):wT K sl.sl C e σ H Q:=by
 cases x with
 |q vs ls=>obtain⟨⟨u,d⟩,f,g⟩:=aa<|show(evE C e<|pick vs ls η).bind (kT η)=_ from ev;obtain⟨p,i,e3⟩:=aE<|show ret η (truth u.2)=_ from g;cases e3;refine⟨sl.pv,_,m9,_,u,d,b,A.quiet (vs:=vs) (ls:=ls),f,i,λZ' H' Fs' c s=>?_⟩;obtain⟨o,m⟩:=cB (G:=no) A bj c.gd.zal (s.mono (F2:=λa=>tot Fs' a\/no a) (λ_ z=>z) λa h=>h.elim id λz=>z.elim) λa h=>fL h;exact k _ H' Fs o<|m.mono (λ_ z=>z) λa h=>.inl h
 |l vs=>obtain⟨⟨u,d⟩,f,g⟩:=aa<|show(evE C e<|M.share vs η).bind kT2=_ from ev;obtain⟨p,i,e3⟩:=aE<|show ret d (truth u.2)=_ from g;cases e3;obtain⟨c,s0⟩:=A.share (vs:=vs);have m:=s0<|(Step.refl Z H<|tot Fs).mono (F2:=λa=>tot Fs a\/no a) (λ_ z=>z) λa h=>h.elim id λz=>z.elim;exact⟨sl.pv,_,_,_,u,_,b,c,f,i,λZ' H' Fs' n s=>k Z' H' Fs' n<|(m.mono (λ_ z=>z) λa h=>.inl h).trans s⟩
end
section
variable {K:HX}{Wx:L2.St->VK}{sl:Cf}{sf sg:O->B O}{C:Call}{σ σ2:L2.St}{Z Z' Z1:Fp}{H H' H1:Hp}{Fs Fs' Fs1:Fps}{η η' η1 ηb:Env}{G G' G1 R F F':Fp}{tg is vs ls io:U O}{pv val:O->B V}{D:bp}
def Fin (K:HX)(Wx:L2.St->VK)(sl:Cf)(Z:Fp)(H:Hp)(F:Fp)(D:bp):Fl->Prop
|.nx η'=>∀b Z' H' Fs',At K sl b Z' H' Fs' η' no->Step Z H F Z' H' (tot Fs')->D.nx b H'
|.rt w η'=>∀v b Z' H' Fs' G,At K sl b Z' H' Fs' η' G->Rep K Z' H' w.1 w.2 v G->Step Z H F Z' H' (λa=>tot Fs' a\/G a)->D.rt v H'
|.bk η'=>∀b Z' H' Fs',At K sl b Z' H' Fs' η' no->Step Z H F Z' H' (tot Fs')->D.bk b H'
|.ex t η'=>∀v b Z' H' Fs',At K sl b Z' H' Fs' η' no->Rep K Z' H' .s t v no->Step Z H F Z' H' (tot Fs')->Wx b v H'
|_=>N2
theorem Fin.step {fl:Fl}(s:Step Z H F Z1 H1 F')(h:Fin K Wx sl Z H F D fl):Fin K Wx sl Z1 H1 F' D fl:=by
 cases fl with
 |nx η=>exactλa Z' H' Fs' A t=>h a Z' H' Fs' A<|s.trans t
 |rt w η=>exactλv a Z' H' Fs' G A r t=>h v a Z' H' Fs' G A r<|s.trans t
 |bk η=>exactλa Z' H' Fs' A t=>h a Z' H' Fs' A<|s.trans t
 |ex t η=>exactλv a Z' H' Fs' A r t=>h v a Z' H' Fs' A r<|s.trans t
 |_=>exact h.elim
structure oJ (sf:O->B O)(io:U O)(pv:O->B V):Prop where
 inj:∀i i' j,sf i=Y j->sf i'=Y j->i=i'
 io:∀i,i ∉ io->pv i=J
def wS (K:HX)(Wx:L2.St->VK)(sf:O->B O)(io:U O)(C:Call)(a:S):TS:=λD σ H=>∃pv Z Fs η,oJ sf io pv/\At K ⟨sf,pv⟩ σ Z H Fs η no/\Fin K Wx ⟨sf,pv⟩ Z H (tot Fs) D (evS C a η)
def wSs (K:HX)(Wx:L2.St->VK)(sf:O->B O)(io:U O)(C:Call)(a:U S):TS:=λD σ H=>∃pv Z Fs η,oJ sf io pv/\At K ⟨sf,pv⟩ σ Z H Fs η no/\Fin K Wx ⟨sf,pv⟩ Z H (tot Fs) D (evSs C a η)
theorem xA (D:bp)(σ:L2.St)(H:Hp)(h:wSs K Wx sf io C [] D σ H):yO D σ H:=by obtain⟨pv,Z,Fs,η,N,A,f⟩:=h;exact f σ Z H Fs A<|Step.refl _ _ _
theorem sZ {s:S}{r:U S}(D:bp)(σ:L2.St)(H:Hp)(h:wSs K Wx sf io C (s::r) D σ H):C7 (wS K Wx sf io C s) (wSs K Wx sf io C r) D σ H:=by
 obtain⟨pv,Z,Fs,η,N,A,f⟩:=h;refine⟨pv,Z,Fs,η,N,A,?_⟩;have a:Fin K Wx ⟨sf,pv⟩ Z H (tot Fs) D (Fl.seq (evS C s η) (evSs C r)):=f;cases e:evS C s η with
 |nx η1=>rw[e] at a;exactλc Z' H' Fs' b t=>⟨pv,Z',Fs',η1,N,b,a.step t⟩
 |rt w η1=>rw[e] at a;exact a
 |bk η1=>rw[e] at a;exact a
 |ex t η1=>rw[e] at a;exact a
 |no=>rw[e] at a;exact a.elim
theorem wB {s:S}(D:bp)(σ:L2.St)(H:Hp)(h:wSs K Wx sf io C [s] D σ H):wS K Wx sf io C s D σ H:=by
 obtain⟨pv,Z,Fs,η,N,A,f⟩:=h;refine⟨pv,Z,Fs,η,N,A,?_⟩;have a:Fin K Wx ⟨sf,pv⟩ Z H (tot Fs) D (Fl.seq (evS C s η) (evSs C [])):=f;cases e:evS C s η with
 |nx η1=>rw[e] at a;exact a
 |rt w η1=>rw[e] at a;exact a
 |bk η1=>rw[e] at a;exact a
 |ex t η1=>rw[e] at a;exact a
 |no=>rw[e] at a;exact a.elim
theorem aU {b:Type}{r:Res b}{g:b->Fl}(f:Fin K Wx sl Z H F D<|Fl.of η r g):∃a,r=.ok a/\Fin K Wx sl Z H F D (g a):=by
 cases r with
 |ok a=>exact⟨a,rfl,f⟩
 |ex t=>exact f.elim
 |no=>exact f.elim
theorem dY {o:B Env}(f:Fin K Wx sl Z H F D<|nxO η o):∃η',o=Y η'/\Fin K Wx sl Z H F D (.nx η'):=by
 cases o with
 |some a=>exact⟨a,rfl,f⟩
 |none=>exact f.elim
theorem At.setR {i d:O}{w:W}{x:V}(N:oJ sf io pv)(P:i ∉ io)(y:sf i=Y d)(A:At K ⟨sf,pv⟩ σ Z H Fs η G)(r:Rep K Z H w.1 w.2 x G1)(q1:∀a,G1 a->G a)(q2:∀a,R a->G a)(q3:∀a,R a->¬G1 a):At K ⟨sf,pv⟩ (σ.set d<|Y x) Z H (jX Fs i G1) (M.put η i w) R:=by
 have hj:d < σ.length:=A.ln i d y
 have c:At K ⟨λk=>if k=i then J else sf k,pv⟩ (σ.set d (Y x)) Z H Fs (M.del η i) G:=by
  refine⟨A.gd,λl m t e=>?_,A.own,A.dis,λl u k n hk=>?_,λl k hk=>?_⟩
  .rw [bo] at e;split at e
   .cases e
   .rename_i hne;obtain⟨v,r',Q,h2⟩:=A.env l m t e;have g:l≠i:=λz=>hne ⟨z,by rw[<- z];exact cM e⟩;refine⟨v,r',λk hk=>?_,h2⟩;have f:sf l=Y k:=by have:(if l=i then J else sf l)=Y k:=hk;rw[NW g] at this;exact this
    have p:d≠k:=λz=>g (N.inj l i k f<|by rw[<- z];exact y);rw[LG p];exact Q k f
  .have g:l≠i:=fun z=>by have I:pv l=Y u:=n;rw[z,N.io i P] at I;cases I
   have f:sf l=Y k:=by have:(if l=i then J else sf l)=Y k:=hk;rw[NW g] at this;exact this
   have p:d≠k:=λz=>g (N.inj l i k f<|by rw[<- z];exact y);rw[LG p];exact A.lk l u k n f
  .have f:sf l=Y k:=by
    have:(if l=i then J else sf l)=Y k:=hk;split at this
    .cases this
    .exact this
   rw[LI];exact A.ln l k f
 have s:=At.put (i:=i) (w:=w) (G1:=G1) (R:=R) c r q1 q2 q3 (λk hk=>by have f:(if i=i then J else sf i)=Y k:=hk;rw[NR rfl] at f;cases f) (λu n=>by have:=N.io i P;rw[show pv i=Y u from n] at this;cases this)
 have e1:M.put (M.del η i) i w=M.put η i w:=by
  have:∀(η:Env) (i:O) (a b:B W),wr (wr η i a) i b=wr η i b:=λη=>by
   induction η with
   |nil=>intro i a b;rfl
   |cons o η ih=>intro i a b;cases i with
    |zero=>rfl
    |succ i=>show o::wr (wr η i a) i b=o::wr η i b;rw[ih]
  exact this η i J<|Y w
 rw[e1] at s;refine⟨s.gd,λl m t e=>?_,s.own,s.dis,λl u k n hk=>?_,λl k hk=>by rw[LI];exact A.ln l k hk⟩
 .obtain ⟨v,r',Q,h2⟩:=s.env l m t e;by_cases g:l=i
  .subst g;rw[bo] at e;split at e
   .cases e;refine⟨x,r.mono λa h=>.inl ⟨rfl,h⟩,λk hk=>?_,λu n=>by have:=N.io l P;rw[show pv l=Y u from n] at this;cases this⟩;have:k=d:=by rw[show sf l=Y k from hk] at y;cases y;rfl
    subst this;rw[Mp hj]
   .rename_i hc;exact NP ⟨rfl,cM e⟩ hc
  .refine ⟨v,r',fun k hk=>Q k ?_,h2⟩;show(if l=i then J else sf l)=Y k;rw[NW g];exact hk
 .by_cases g:l=i
  .subst g;have:=N.io l P;rw[show pv l=Y u from n] at this;cases this
  .exact s.lk l u k n (show(if l=i then J else sf l)=Y k by rw[NW g];exact hk)
theorem At.set {i a:O}{w:W}{x:V}(N:oJ sf io pv)(b:i ∉ io)(c:sf i=Y a)(A:At K ⟨sf,pv⟩ σ Z H Fs η G)(r:Rep K Z H w.1 w.2 x G):At K ⟨sf,pv⟩ (σ.set a<|Y x) Z H (jX Fs i G) (M.put η i w) no:=At.setR N b c A r (λ_ h=>h) (λ_ z=>z.elim) λ_ z=>z.elim
theorem lH {x:X}{i c:O}{e:E}(l:i ∉ io)(m:sf i=Y c)(D:bp)(σ:L2.St)(H:Hp)(h:wS K Wx sf io C (.asg x i e) D σ H):qL (wE K sf C e) (bZ c) D σ H:=by obtain⟨pv,Z,Fs,η,N,A,f⟩:=h;obtain⟨⟨w,η1⟩,d,g⟩:=aU<|show Fin K Wx ⟨sf,pv⟩ Z H (tot Fs) D (Fl.of η (evX C x e η)<|wo i) from f;refine iK (sl:=⟨sf,pv⟩) A d λv Z' H' Fs' G b r s=>?_;exact g _ Z' H' _ (At.set N l m b r)<|s.mono (λ_ z=>z) λa k=>a9 k
theorem BX {x:X}{e:E}(D:bp)(σ:L2.St)(H:Hp)(h:wS K Wx sf io C (.exp x e) D σ H):yk (wE K sf C e) D σ H:=by obtain⟨pv,Z,Fs,η,N,A,f⟩:=h;obtain⟨⟨w,η1⟩,c,d⟩:=aU<|show Fin K Wx ⟨sf,pv⟩ Z H (tot Fs) D (Fl.of η (evX C x e η) kNx) from f;exact iK (sl:=⟨sf,pv⟩) A c λv Z' H' Fs' G b r s=>d σ Z' H' Fs' b.bare<|s.mono (λ_ z=>z) λa g=>.inl g
theorem yS {e:E}(D:bp)(σ:L2.St)(H:Hp)(h:wS K Wx sf io C (.ret vs e) D σ H):FU (wE K sf C e) D σ H:=by obtain⟨pv,Z,Fs,η,N,A,f⟩:=h;obtain⟨⟨w,η1⟩,b,c⟩:=aU<|show Fin K Wx ⟨sf,pv⟩ Z H (tot Fs) D (Fl.of η (evE C e<|M.share vs η) kRt) from f;exact iK (sl:=⟨sf,pv⟩) (x:=.l vs) A b λv Z' H' Fs' G a r s=>c v σ Z' H' Fs' G a r s
theorem Be {x:X}{c:E}{a b:U S}(D:bp)(σ:L2.St)(H:Hp)(h:wS K Wx sf io C (.ite x c a b) D σ H):DZ (wT K sf C c) (wSs K Wx sf io C a) (wSs K Wx sf io C b) D σ H:=by
 obtain⟨pv,Z,Fs,η,N,A,f⟩:=h;obtain⟨⟨k,η1⟩,g,e⟩:=aU<|show Fin K Wx ⟨sf,pv⟩ Z H (tot Fs) D (Fl.of η (evT C x c η)<|kIf (evSs C a)<|evSs C b) from f;refine Hm (sl:=⟨sf,pv⟩) A g λZ' H' Fs' d s=>?_;cases k with
 |true=>rw[NR rfl];exact⟨pv,Z',Fs',η1,N,d,Fin.step s e⟩
 |false=>rw[NW IG];exact⟨pv,Z',Fs',η1,N,d,Fin.step s e⟩
theorem dX {m:Md}{d:U T}{v:V}(f:m≠.s)(r:Rep K Z H m (.lst d) v G):∃a c,v=.ref a/\c.length<=LIM/\G a/\H a=Y (.lst c)/\RepL K Z H m.kid d c (λb=>G b/\b≠a):=by obtain⟨a,c,e,l,q,p⟩:=r;rw[LstR.own f] at q;exact⟨a,c,e,l,q.1,q.2,p⟩
theorem mU {i:O}{a:NM}{ts':U T}{f:U V}{m':Md}(hm:m'≠.s)(A:At K ⟨sf,pv⟩ σ Z H Fs η G){w0:W}(hi:rd η i=Y w0)(ha:Fs i a)(hx:∀d,sf i=Y d->σ[d]?=Y (Y<|.ref a))(hl:f.length<=LIM)(hpv:∀u,pv i=Y u->V.ref a=u)
  (hg:∀b,G' b->(Fs i b\/G b)/\b≠a) (hR:∀b,R b->(Fs i b\/G b)/\b≠a) (hRG:∀b,R b->¬G' b) (p:RepL K (λb=>Z b\/((Fs i b\/G b)/\b≠a/\¬G' b/\¬R b)) H m'.kid ts' f G') {Q:Hp->Prop}
  (k:∀Z' Fs',At K ⟨sf,pv⟩ σ Z' (upd H a<|.lst f) Fs' (M.put η i (m',.lst ts')) R->Step Z H (λb=>tot Fs b\/G b) Z' (upd H a<|.lst f) (λb=>tot Fs' b\/R b)->(∀{m t v},Rep K (λb=>Z b\/((Fs i b\/G b)/\b≠a/\¬G' b/\¬R b)) H m t v R->Rep K Z' (upd H a<|.lst f) m t v R)->Q (upd H a<|.lst f)):Q (upd H a<|.lst f):=by
 have I:tot Fs a:=⟨i,ha⟩;obtain⟨nza,ys,hya⟩:=A.gd.own a I;have nGa:¬G a:=λq=>A.dis a q I
 have x:∀b,(Z b\/((Fs i b\/G b)/\b≠a/\¬G' b/\¬R b))->b≠a:=λb h z=>by
  subst z;rcases h with h|h
  .exact nza h
  .exact h.2.1 rfl
 have keep:∀b o,H b=Y o->b≠a->upd H a (.lst f) b=Y o:=λb o e g=>by rw[af g];exact e
 have neT:∀b xs,H b=Y (.tup xs)->b≠a:=λb xs e z=>by rw[z,hya] at e;exact jo e.symm
 have neF:∀b o u,H b=Y (.frz o u)->b≠a:=λb o u e z=>by rw[z,hya] at e;exact eB e.symm
 have stay:∀{c:Fp},(∀b,c b->b≠a)->Stay c H (upd H a (.lst f)):=λ{c} hY=>⟨λb o g e=>keep b o e<|hY b g,λb xs e=>by
  rcases e with e|⟨u,e⟩
  .exact .inl (keep b _ e<|neT b xs e)
  .exact .inr ⟨u,keep b _ e<|neF b u _ e⟩,λb o u e=>keep b _ e<|neF b o u e⟩
 have al:∀b,H b≠J->upd H a (.lst f) b≠none:=λb h=>by
  by_cases e:b=a
  .rw[e,ag];simp
  .rw[af e];exact h
 have N:∀b,(Z b\/((Fs i b\/G b)/\b≠a/\¬G' b/\¬R b))->H b≠none:=λb h=>by
  rcases h with h|⟨h|h,_⟩
  .exact A.gd.zal b h
  .obtain⟨_,P,e⟩:=A.gd.own b ⟨i,h⟩;rw[e];simp
  .obtain⟨_,P,e⟩:=A.own b h;rw[e];simp
 have listAt:∀b,(tot Fs b\/G b)->∃P:OO,upd H a (.lst f) b=Y P.ho:=λb h=>by
  by_cases e:b=a
  .exact⟨.inl f,by rw[e,ag];rfl⟩
  .rcases h with h | h
   .obtain⟨_,P,q⟩:=A.gd.own b h;exact⟨P,by rw[af e];exact q⟩
   .obtain⟨_,P,q⟩:=A.own b h;exact⟨P,by rw[af e];exact q⟩
 have nZ:∀b,(Fs i b\/G b)->¬Z b:=λb h z=>h.elim (λy=>(A.gd.own b ⟨i,y⟩).1 z) λy=>(A.own b y).1 z
 have cn:∀b,tot (jX Fs i λb=>G' b\/b=a) b->(∃d,d≠i/\Fs d b)\/G' b\/b=a:=λb h=>by
  obtain⟨d,h|h⟩:=h
  .exact .inr h.2
  .exact .inl ⟨d,h⟩
 refine k (λb=>Z b\/((Fs i b\/G b)/\b≠a/\¬G' b/\¬R b)) (jX Fs i λb=>G' b\/b=a) ⟨⟨λb h=>⟨λz=>?_,?_⟩,λd l b w hk=>?_,λb h=>al b<|N b h⟩,λl m t e=>?_,λb h=>⟨λz=>?_,listAt b<|(hR b h).1.imp (λz=>⟨i,z⟩) id⟩,λb h q=>?_,A.lk,A.ln⟩ ⟨λb o e n=>keep b o e λz=>n<|.inl<|z ▸ I,λb h=>.inl h,λb h=>h.imp id λq=>.inl<|q.1.imp (λz=>⟨i,z⟩) id,λb h=>?_,al,λ_ b h=>al b<|N b h⟩ λ{m t v} r=>r.keep (stay x) (λ_ z=>z) λb o g e=>keep b o e (hR b g).2
 .rcases cn b h with ⟨d,w,q⟩ | q | q
  .rcases z with z | ⟨z | z,_⟩
   .exact(A.gd.own b ⟨d,q⟩).1 z
   .exact w (A.gd.dis d i b q z)
   .exact A.dis b z ⟨d,q⟩
  .rcases z with z | z
   .exact nZ b (hg b q).1 z
   .exact z.2.2.1 q
  .exact x b z q
 .rcases cn b h with ⟨d,w,q⟩ | q | q
  .exact listAt b (.inl ⟨d,q⟩)
  .exact listAt b ((hg b q).1.imp (λz=>⟨i,z⟩) id)
  .exact⟨.inl f,by rw[q,ag];rfl⟩
 .have key:∀ {d:O},(G' b\/b=a)->Fs d b->d=i:=fun {d} h q=>by
   rcases h with h|h
   .rcases (hg b h).1 with y | y
    .exact A.gd.dis d i b q y
    .exact NP ⟨d,q⟩ (A.dis b y)
   .rw[h] at q;exact A.gd.dis d i a q ha
  rcases w with⟨rfl,w⟩|⟨nj,w⟩
  .rcases hk with ⟨rfl,_⟩ | ⟨nk,hk⟩
   .rfl
   .exact NP (key w hk) nk
  .rcases hk with ⟨rfl,hk⟩ | ⟨nk,hk⟩
   .exact NP (key hk w) nj
   .exact A.gd.dis d l b w hk
 .rw [bo] at e;split at e
  .rename_i hc;obtain⟨rfl,_⟩:=hc;cases e;refine⟨.ref a,⟨a,f,rfl,hl,(LstR.own hm).mpr ⟨.inl ⟨rfl,.inr rfl⟩,ag⟩,?_⟩,hx,hpv⟩;exact(p.keep (stay x) (λ_ z=>z) λb o g e=>keep b o e (hg b g).2).mono λb g=>⟨.inl ⟨rfl,.inl g⟩,(hg b g).2⟩
  .rename_i hc;have hl':l≠i:=λz=>hc ⟨z,cM hi⟩;obtain⟨v,r,h⟩:=A.env l m t e;have nea:∀b,Fs l b->b≠a:=λb q z=>hl'<|A.gd.dis l i a (z ▸ q) ha;exact⟨v,((r.keep (stay λb g z=>nza<|z ▸ g) (λ_ z=>z) λb o g e=>keep b o e<|nea b g).zmono λb h=>.inl h).mono λb h=>.inr ⟨hl',h⟩,h⟩
 .rcases z with z | z
  .exact nZ b (hR b h).1 z
  .exact z.2.2.2 h
 .rcases cn b q with ⟨d,w,y⟩ | y | y
  .rcases (hR b h).1 with z | z
   .exact w (A.gd.dis d i b y z)
   .exact A.dis b z ⟨d,y⟩
  .exact hRG b h y
  .exact(hR b h).2 y
 .rcases h with h | h
  .rcases cn b h with ⟨d,_,q⟩ | q | q
   .exact .inl (.inl ⟨d,q⟩)
   .exact .inl ((hg b q).1.imp (λz=>⟨i,z⟩) id)
   .exact .inl (.inl<|q ▸ I)
  .exact .inl ((hR b h).1.imp (λz=>⟨i,z⟩) id)
theorem change {i:O}{a:NM}{ts':U T}{e:U V}{m':Md}(o:m'≠.s)(A:At K ⟨sf,pv⟩ σ Z H Fs η G){r:W}(m:rd η i=Y r)(g:Fs i a)(hx:∀d,sf i=Y d->σ[d]?=Y (Y<|.ref a))(n:e.length<=LIM)(f:∀u,pv i=Y u->V.ref a=u)
  (l:∀b,G' b->(Fs i b\/G b)/\b≠a) (p:RepL K (λb=>Z b\/((Fs i b\/G b)/\b≠a/\¬G' b)) H m'.kid ts' e G') {Q:Hp->Prop}
  (k:∀Z' Fs',At K ⟨sf,pv⟩ σ Z' (upd H a<|.lst e) Fs' (M.put η i (m',.lst ts')) no->Step Z H (λb=>tot Fs b\/G b) Z' (upd H a<|.lst e) (tot Fs')->Q (upd H a<|.lst e)):Q (upd H a<|.lst e):=
 mU (R:=no) o A m g hx n f l (λ_ z=>z.elim) (λ_ z=>z.elim) (p.zmono λb h=>h.imp id λq=>⟨q.1,q.2.1,q.2.2,λz=>z⟩) λZ' Fs' c s _=>k Z' Fs' c<|s.mono (λ_ z=>z) λ_ z=>.inl z
end
section
variable {K:HX}{Wx:L2.St->VK}{sl:Cf}{sf sg:O->B O}{C:Call}{σ σ2:L2.St}{Z Z' Z1:Fp}{H H' H1:Hp}{Fs Fs' Fs1:Fps}{η η' η1 ηb:Env}{G G' G1 R F F':Fp}{tg is vs ls io:U O}{pv val:O->B V}{D:bp}
theorem jZ {o:B W}{u:Unit}(h:eV o=.ok u):∃m a,o=Y (m,.lst a):=by
 cases o with
 |none=>cases h
 |some w=>
  obtain⟨m,t⟩:=w;cases t with
  |lst a=>exact⟨m,a,rfl⟩
  |_=>cases h
theorem At.listAt {i b:O}{m:Md}{f:U T}(e:sf i=Y b)(A:At K ⟨sf,pv⟩ σ Z H Fs η G)(h:rd η i=Y (m,.lst f)):∃a c,σ[b]?=Y (Y<|.ref a)/\H a=Y (.lst c):=by obtain⟨v,r,d,_⟩:=A.env i m _ h;obtain⟨a,c,rfl,hx,_⟩:=bg r;exact⟨a,c,d b e,hx⟩
theorem At.ourList {i c:O}{a:NM}{m:Md}{f:U T}(t:sf i=Y c)(o:m≠.s)(k:σ[c]?=Y (Y<|.ref a))(A:At K ⟨sf,pv⟩ σ Z H Fs η G)(h:rd η i=Y (m,.lst f)):
  ∃d,d.length<=LIM/\Fs i a/\H a=Y (.lst d)/\RepL K Z H m.kid f d (λb=>Fs i b/\b≠a)/\(∀u,pv i=Y u->V.ref a=u):=by
 obtain⟨v,r,n,hp⟩:=A.env i m _ h;have e:=n c t;rw[k] at e;cases e;obtain⟨b,d,e,l,g,hx,p⟩:=dX o r;cases e;exact⟨d,l,g,hx,p,hp⟩
theorem ql {u w r:W}(h:gN u w=Y r):∃m a,u=(m,.lst a)/\m≠.s/\a.length<LIM/\r=((m.kid.meet<|lf w.1 w.2).up,.lst<|a++[w.2]):=by
 obtain⟨m,t⟩:=u;obtain⟨n,c⟩:=w;cases m with
 |s=>cases h
 | d =>
  cases t with
  |lst a=>
   have b:(if a.length<LIM then Y ((((Md.d.kid.meet (lf n c)).up,.lst (a++[c])):W)) else J)=Y r:=h;split at b
   .rename_i e;cases b;exact⟨.d,a,rfl,by simp,e,rfl⟩
   .cases b
  |_=>cases h
 | o m =>
  cases t with
  |lst a=>
   have b:(if a.length<LIM then Y (((((Md.o m).kid.meet (lf n c)).up,.lst (a++[c])):W)) else J)=Y r:=h;split at b
   .rename_i e;cases b;exact⟨.o m,a,rfl,by simp,e,rfl⟩
   .cases b
  |_=>cases h
theorem pW {u w r:W}(h:gL u w=Y r):∃m a n b,u=(m,.lst a)/\w=(n,.lst b)/\m≠.s/\a.length+b.length<=LIM/\r=((m.kid.meet n.kid).up,.lst<|a++b):=by
 obtain⟨m,t⟩:=u;obtain⟨n,f⟩:=w;cases m with
 |s=>cases h
 | d =>
  cases t with
  | lst a =>
   cases f with
   |lst b=>
    have c:(if a.length+b.length<=LIM then Y ((((Md.d.kid.meet n.kid).up,.lst (a++b)):W)) else J)=Y r:=h;split at c
    .rename_i e;cases c;exact⟨.d,a,n,b,rfl,rfl,by simp,e,rfl⟩
    .cases c
   |_=>cases h
  |_=>cases h
 | o m =>
  cases t with
  | lst a =>
   cases f with
   |lst b=>
    have c:(if a.length+b.length<=LIM then Y (((((Md.o m).kid.meet n.kid).up,.lst (a++b)):W)) else J)=Y r:=h;split at c
    .rename_i e;cases c;exact⟨.o m,a,n,b,rfl,rfl,by simp,e,rfl⟩
    .cases c
   |_=>cases h
  |_=>cases h
theorem rn {u k w r:W}(h:cn u k w=Y r):∃m b n a q,u=(m,.lst b)/\k=(n,.int a)/\m≠.s/\M.ixN b.length a=Y q/\r=((m.kid.meet<|lf w.1 w.2).up,.lst<|b.set q w.2):=by
 obtain⟨m,t⟩:=u;obtain⟨n,d⟩:=k;cases m<;>first|(cases h;done)|(cases t<;>first|(cases h;done)|(cases d<;>try (cases h;done)))
 all_goals
  rename_i b a;have c:(M.ixN b.length a).map _=Y r:=h;cases e:M.ixN b.length a with
  |none=>rw[e] at c;cases c
  |some q=>rw[e] at c;cases c;exact⟨_,b,n,a,q,rfl,rfl,by simp,e,rfl⟩
theorem uc {a:NM}{m:Md}{g:U T}{i:U V}{w:W}{y:V}{c:Fp}(l:∀b,c b->b≠a)(n:∀b,G b->b≠a)(d:∀b,c b->¬G b)(p:RepL K Z H m g i c)(r:Rep K Z H w.1 w.2 y G):
  ∃G',(∀b,G' b->(c b\/G b)/\b≠a)/\RepL K (λb=>Z b\/((c b\/G b)/\b≠a/\¬G' b)) H (m.meet<|lf w.1 w.2) (g++[w.2]) (i++[y]) G':=by
 obtain⟨G',e,k⟩:=gE (G:=λb=>c b\/G b) (λ_ z=>.inl z) (λ_ z=>.inr z) d p<|RepL.one r.lf;have f:∀b,(c b\/G b)->b≠a:=λb h=>h.elim (l b)<|n b;exact⟨G',λb h=>⟨e b h,f b<|e b h⟩,k.zmono λb h=>h.imp id λq=>⟨q.1,f b q.1,q.2⟩⟩
theorem zX {x:X}{i d:O}{e:E}(n:sf i=Y d)(D:bp)(σ:L2.St)(H:Hp)(h:wS K Wx sf io C (.app x i e) D σ H):
  ∃a l,σ[d]?=Y (Y<|.ref a)/\H a=Y (.lst l)/\wE K sf C e σ H λy H1=>∃l,H1 a=Y (.lst l)/\l.length<sizeLine/\D.nx σ (upd H1 a<|.lst<|l++[y]):=by
 obtain⟨pv,Z,Fs,η,N,A,f⟩:=h;obtain⟨u,h0,h1⟩:=aU<|show Fin K Wx ⟨sf,pv⟩ Z H (tot Fs) D (Fl.of η (eV<|rd η i)<|kG (evX C x e) η<|qa i) from f;obtain⟨m0,t0,t⟩:=jZ h0;obtain⟨a,P,v,ha⟩:=A.listAt n t;obtain⟨⟨w,η1⟩,h2,h3⟩:=aU<|show Fin K Wx ⟨sf,pv⟩ Z H (tot Fs) D (Fl.of η (evX C x e η)<|qa i) from h1;obtain⟨η2,g,h5⟩:=dY<|show Fin K Wx ⟨sf,pv⟩ Z H (tot Fs) D (nxO η1<|((rd η1 i).bind λu=>gN u w).map λu=>M.put η1 i u) from h3;refine⟨a,P,v,ha,iK (sl:=⟨sf,pv⟩) A h2 λy Z' H' Fs' G c r s=>?_⟩;cases e1:rd η1 i with
 |none=>rw[e1] at g;cases g
 | some u1 =>
  rw[e1] at g;cases e2:gN u1 w with
  |none=>rw[show(Y u1).bind (λu=>gN u w)=gN u1 w from rfl,e2] at g;cases g
  |some r1=>rw[show(Y u1).bind (λu=>gN u w)=gN u1 w from rfl,e2] at g;cases g;obtain⟨m,ts,rfl,hm,hlen,rfl⟩:=ql e2;obtain⟨l,hl,hf,hx,p,I⟩:=c.ourList n hm v e1;have e3:=p.length;obtain⟨G',Q,g2⟩:=uc (a:=a) (λb h=>h.2) (λb h z=>c.dis b h ⟨i,z ▸ hf⟩) (λb h q=>c.dis b q ⟨i,h.1⟩) p r;refine⟨l,hx,jf hl,?_⟩;refine change (K:=K) (m':=(m.kid.meet<|lf w.1 w.2).up) (ck _) c e1 hf (λk hk=>by rw[show sf i=Y k from hk] at n;cases n;exact v) (by rw[IA,e3,Kp];lia) I (λb h=>⟨(Q b h).1.imp Kk id,(Q b h).2⟩) (ts':=ts++[w.2]) (by rw[df];exact g2.zmono λb h=>h.imp id λq=>⟨q.1.imp Kk id,q.2⟩) λZ2 o B2 s2=>h5 σ Z2 _ o B2<|s.trans s2
theorem zu {x:X}{i d:O}{e:E}(t:sf i=Y d)(D:bp)(σ:L2.St)(H:Hp)(h:wS K Wx sf io C (.ext x i e) D σ H):
  ∃a l,σ[d]?=Y (Y<|.ref a)/\H a=Y (.lst l)/\wE K sf C e σ H λy H1=>∃b l o,y=.ref b/\H1 a=Y (.lst l)/\H1 b=Y (.lst o)/\l.length+o.length<=sizeLine/\D.nx σ (upd H1 a<|.lst<|l++o):=by
 obtain⟨pv,Z,Fs,η,N,A,f⟩:=h;obtain⟨u,h0,h1⟩:=aU<|show Fin K Wx ⟨sf,pv⟩ Z H (tot Fs) D (Fl.of η (eV<|rd η i)<|kG (evX C x e) η<|rH i) from f;obtain⟨m0,t0,I⟩:=jZ h0;obtain⟨a,xs0,P,ha⟩:=A.listAt t I;obtain⟨⟨w,η1⟩,h2,h3⟩:=aU<|show Fin K Wx ⟨sf,pv⟩ Z H (tot Fs) D (Fl.of η (evX C x e η)<|rH i) from h1;obtain⟨η2,g,h5⟩:=dY<|show Fin K Wx ⟨sf,pv⟩ Z H (tot Fs) D (nxO η1<|((rd η1 i).bind λu=>gL u w).map λu=>M.put η1 i u) from h3;refine⟨a,xs0,P,ha,iK (sl:=⟨sf,pv⟩) A h2 λy Z' H' Fs' G c r s=>?_⟩;cases e1:rd η1 i with
 |none=>rw[e1] at g;cases g
 | some u1 =>
  rw[e1] at g;cases e2:gL u1 w with
  |none=>rw[show(Y u1).bind (λu=>gL u w)=gL u1 w from rfl,e2] at g;cases g
  |some r1=>rw[show(Y u1).bind (λu=>gL u w)=gL u1 w from rfl,e2] at g;cases g;obtain⟨m,ts,n,us,rfl,rfl,hm,hlen,rfl⟩:=pW e2;obtain⟨l,hl,hf,hx,p,Q⟩:=c.ourList t hm P e1;obtain⟨b,o,rfl,hb,hl2,p2⟩:=bg r;have e3:=p.length;have e4:=p2.length;have hG:∀b,G b->b≠a:=λb h z=>c.dis b h ⟨i,z ▸ hf⟩;obtain⟨G',g1,g2⟩:=gE (G:=λb=>(Fs' i b/\b≠a)\/G b) (λ_ z=>.inl z) (λ_ z=>.inr z) (λb h q=>c.dis b q ⟨i,h.1⟩) p p2;have ne:∀b,((Fs' i b/\b≠a)\/G b)->b≠a:=λb h=>h.elim And.right<|hG b;refine⟨b,l,o,rfl,hx,hb,LIM_le<|by lia,?_⟩;refine change (K:=K) (m':=(m.kid.meet n.kid).up) (ck _) c e1 hf (λk hk=>by rw[show sf i=Y k from hk] at t;cases t;exact P) (by rw[IA];lia) Q (λb h=>⟨(g1 b h).imp Kk id,ne b<|g1 b h⟩) (ts':=ts++us) (by rw[df];exact g2.zmono λb h=>h.imp id λq=>⟨q.1.imp Kk id,ne b q.1,q.2⟩) λZ2 v B2 s2=>h5 σ Z2 _ v B2<|s.trans s2
theorem RepL.setAt:∀{k:U T} {f:U V} {A0 G0 G:Fp} {q:O} {t:T} {y:V} {m:Md},(∀b,A0 b->G b)->(∀b,G0 b->G b)->(∀b,A0 b->¬G0 b)->RepL K Z H m k f A0->Rep K Z H m t y G0->RepL K Z H m (k.set q t) (f.set q y) G
|[],f,A0,G0,G,q,t,y,m,i,l,d,h,r=>by rw[show f=[] from h];exact rfl
|u::k,f,A0,G0,G,0,t,y,m,i,l,d,⟨x,s,A,c,e,o,g,hd,p,q⟩,r=>by rw[e];exact⟨y,s,G0,c,rfl,l,λa h=>i a<|g a h,λa h q=>d a (g a q) h,r,q⟩
|u::k,f,A0,G0,G,n+1,t,y,m,i,l,d,⟨x,s,A,c,e,o,g,hd,p,q⟩,r=>by rw[e];refine⟨x,s.set n y,A,λa=>c a\/G0 a,rfl,λa h=>i a<|o a h,λa h=>h.elim (λz=>i a<|g a z)<|l a,λa h q=>q.elim (hd a h)<|d a<|o a h,p,?_⟩;exact RepL.setAt (λ_ z=>.inl z) (λ_ z=>.inr z) (λb h=>d b<|g b h) q r
theorem fA (vs:U O)(η:Env):Nn η (M.share vs η):=λi e=>by
 rw[fT];split
 .rw[e];rfl
 .exact e
theorem qx {x:X}{e:E}{w:W}(h:evX C x e η=.ok (w,η')):Nn η η':=by
 cases x with
 |q vs ls=>
  obtain⟨⟨u,b⟩,c,a⟩:=aa<|show(evE C e<|pick vs ls η).bind (kX vs η)=_ from h;cases a;show Nn η<|after (M.lf u.1 u.2) vs η;cases f:M.lf u.1 u.2 with
  |d=>intro i e;exact e
  |s=>exact fA vs η
  |o m=>exact fA vs η
 |l vs=>exact(fA vs η).trans<|aG e h
theorem xI {x:X}{i d:O}{k e:E}(v:sf i=Y d)(D:bp)(σ:L2.St)(H:Hp)(h:wS K Wx sf io C (.setI x i k e) D σ H):
  wE K sf C e σ H λy H1=>iR d σ H1 λo H1=>wE K sf C k σ H1 λz H2=>∃a I n q,o=.ref a/\z=.int n/\H2 a=Y (.lst I)/\L2.ixN I.length n=Y q/\D.nx σ (upd H2 a<|.lst<|I.set q y):=by
 obtain⟨pv,Z,Fs,η,N,A,f⟩:=h;obtain⟨⟨w,η1⟩,h2,h3⟩:=aU<|show Fin K Wx ⟨sf,pv⟩ Z H (tot Fs) D (Fl.of η (evX C x e η)<|vK i (evX C x k) η) from f;obtain⟨⟨kw,g⟩,h6,h7⟩:=aU<|show Fin K Wx ⟨sf,pv⟩ Z H (tot Fs) D (Fl.of η (evX C x k η1)<|rX i w) from h3;obtain⟨η3,t,h5⟩:=dY<|show Fin K Wx ⟨sf,pv⟩ Z H (tot Fs) D (nxO g<|((rd g i).bind λu=>cn u kw w).map λu=>M.put g i u) from h7;refine iK (sl:=⟨sf,pv⟩) A h2 λy Z' H' Fs' G c r s=>?_;cases e1:rd g i with
 |none=>rw[e1] at t;cases t
 | some u1 =>
  rw[e1] at t;cases e2:cn u1 kw w with
  |none=>rw[show(Y u1).bind (λu=>cn u kw w)=cn u1 kw w from rfl,e2] at t;cases t
  | some r1 =>
   rw[show(Y u1).bind (λu=>cn u kw w)=cn u1 kw w from rfl,e2] at t;cases t;obtain⟨m,ts,n,jj,q,rfl,rfl,hm,hq,rfl⟩:=rn e2;have n1:rd η1 i≠none:=λz=>by rw[qx h6 i z] at e1;cases e1
   cases e3:rd η1 i with
   |none=>exact NP e3 n1
   |some u3=>
    obtain⟨v3,r3,l3,p3⟩:=c.env i u3.1 u3.2 e3;refine⟨v3,l3 d v,iK (sl:=⟨sf,pv⟩) c.bare h6 λz Z2 H2 Fs2 G2 B2 rz s2=>?_⟩;obtain⟨B3,s3,d3⟩:=c.frame B2 s2;have r':=r.frame c.gd.own s2 c.dis;have P:=B3.mono (G':=G) λ_ z=>.inl z;obtain⟨v4,r4,l4,p4⟩:=P.env i m _ e1;have hv:v3=v4:=by have e5:=l3 d v;have e6:=l4 d v;rw[e5] at e6;cases e6;rfl
    subst hv;obtain⟨a,I,rfl,hl,hf,hx,p⟩:=dX hm r4;have e7:=p.length;obtain⟨A1,Q,a2⟩:=RepL.weak (cA m.kid<|lf w.1 w.2).1 p;obtain⟨A2,b1,b2⟩:=Rep.weak (cA m.kid<|lf w.1 w.2).2 r'.lf;have l:∀b,(Fs2 i b/\b≠a)->¬G b:=λb h q=>P.dis b q ⟨i,h.1⟩;have hG:∀b,G b->b≠a:=λb h z=>P.dis b h ⟨i,z ▸ hf⟩;refine⟨a,I,jj,q,rfl,show z=_ from rz,hx,by rw[e7];exact hq,?_⟩;refine change (K:=K) (G':=λb=>A1 b\/A2 b) (m':=(m.kid.meet<|lf w.1 w.2).up) (ck _) P e1 hf (λk hk=>by rw[show sf i=Y k from hk] at v;cases v;exact l3 _ hk) (by rw[LI];exact hl) p4 (λb h=>h.elim (λz=>⟨.inl (Q b z).1,(Q b z).2⟩) λz=>⟨.inr<|b1 b z,hG b<|b1 b z⟩) (ts':=ts.set q w.2) ?_ λZ5 Fs5 B5 s5=>h5 σ Z5 _ Fs5 B5<|(s.trans<|s3.mono (λ_ z=>z) λb h=>h.imp id .inl).trans s5;rw[df];refine RepL.setAt (A0:=A1) (G0:=A2) (λ_ z=>.inl z) (λ_ z=>.inr z) (λb h q=>l b (Q b h)<|b1 b q) (a2.zmono λb h=>?_)<|b2.zmono λb h=>?_
    .exact h.imp id λq=>⟨.inl q.1.1,q.1.2,λz=>z.elim q.2 λz=>l b q.1<|b1 b z⟩
    .exact h.imp id λq=>⟨.inr q.1,hG b q.1,λz=>z.elim (λz=>l b (Q b z) q.1) q.2⟩
theorem uq {u:W}{g:U W}{r:W×W}(h:j5 u g=Y r):∃m a,u=(m,.lst a)/\m≠.s/\((g=[]/\∃t,a.getLast?=Y t/\r=((m.kid,t),(m,.lst a.dropLast)))\/(∃n t k,g=[(n,.int 0)]/\a=t::k/\r=((m.kid,t),(m,.lst k)))):=by
 obtain⟨m,t⟩:=u
 have i:∀m:Md,m≠.s->j5 (m,t) g=Y r->∃f a,(m,t)=(f,.lst a)/\f≠.s/\((g=[]/\∃t,a.getLast?=Y t/\r=((f.kid,t),(f,.lst a.dropLast)))\/(∃n t k,g=[(n,.int 0)]/\a=t::k/\r=((f.kid,t),(f,.lst k)))):=λm v h=>by
  unfold j5 at h;split at h
  .cases h
  .rename_i w c l b p;cases b;cases e:c.getLast? with
   |none=>rw[e] at h;cases h
   |some t=>rw[e] at h;cases h;exact⟨_,c,rfl,v,.inl ⟨rfl,t,e,rfl⟩⟩
  .rename_i w y c x l b p;cases b;cases h;exact⟨_,_,rfl,v,.inr ⟨_,_,_,rfl,rfl,rfl⟩⟩
  .cases h
 cases m with
 |s=>cases h
 |d=>exact i .d (by simp) h
 |o m=>exact i (.o m) (by simp) h
theorem wu {i f:O}{b:E}(hs:sf i=Y f)(hb:b=.cst (.int 0))(σ:L2.St)(H:Hp)(Q:VK)(h:wE K sf C (.pop i [b]) σ H Q):∃a x y,σ[f]?=Y (Y<|.ref a)/\H a=Y (.lst (y::x))/\Q y (upd H a<|.lst x):=by
 subst hb;obtain⟨pv,Z,Fs,η,w,η',A,ev,k⟩:=h;obtain⟨_,_,h0⟩:=aa<|show(eV<|rd η i).bind (kc (evL C [.cst<|.int 0]) η<|oH i)=_ from ev;obtain⟨r,h3,h4⟩:=aa<|show(ofO<|(rd η i).bind λw=>j5 w [(.d,.int 0)]).bind (λr=>.ok (r.1,M.put η i r.2))=_ from h0;cases h4;have l:=bH h3;cases e1:rd η i with
 |none=>rw[e1] at l;cases l
 | some u =>
  rw[e1] at l;obtain⟨m,ts,rfl,hm,⟨e,_⟩|⟨n,t,us,_,rfl,rfl⟩⟩:=uq<|show j5 u [(.d,.int 0)]=Y r from l
  .cases e
  .obtain ⟨v,r4,l4,p4⟩:=A.env i m _ e1;obtain⟨a,x,rfl,hl,hf,hx,p⟩:=dX hm r4;obtain⟨y,g,I,G1,rfl,P,N,d,ry,p1⟩:=p;refine⟨a,g,y,l4 f hs,hx,?_⟩;have o:g.length<=LIM:=by rw[Ii] at hl;lia
   refine mU (K:=K) (G':=G1) (R:=I) (Q:=λH'=>Q y H') hm A e1 hf (λk hk=>l4 k hk) o p4 (λb h=>⟨.inl (N b h).1,(N b h).2⟩) (λb h=>⟨.inl (P b h).1,(P b h).2⟩) (λb h z=>d b h z) (ts':=us) (p1.zmono λb h=>.inl h) λZ' Fs' c s tr=>?_;exact k y Z' _ Fs' I c (tr<|ry.zmono λb h=>.inl h)<|s.mono (λb h=>h.elim id λz=>z.elim) λ_ z=>z
end
section
variable {K:HX}{Wx:L2.St->VK}{sl:Cf}{sf sg:O->B O}{C:Call}{σ σ2:L2.St}{Z Z' Z1:Fp}{H H' H1:Hp}{Fs Fs' Fs1:Fps}{η η' η1 ηb:Env}{G G' G1 R F F':Fp}{tg is vs ls io:U O}{pv val:O->B V}{D:bp}
def gF (K:HX):U O->TG
|[a]=>bZ a
|[a,l]=>vV K 2<|eQ (bZ a)<|eQ (bZ l) vX
|_=>λ_ _ _ _=>N2
theorem qw {fl:Fl}{g:Env->Fl}(f:Fin K Wx sl Z H F D<|Fl.turn fl g):(∃η',fl=.nx η'/\Fin K Wx sl Z H F D (g η'))\/(∃η',fl=.bk η'/\Fin K Wx sl Z H F D (.nx η'))\/(∃w η',fl=.rt w η'/\Fin K Wx sl Z H F D (.rt w η'))\/(∃t η',fl=.ex t η'/\Fin K Wx sl Z H F D (.ex t η')):=by
 cases fl with
 |nx η=>exact .inl ⟨η,rfl,f⟩
 |bk η=>exact .inr<|.inl ⟨η,rfl,f⟩
 |rt w η=>exact .inr<|.inr<|.inl ⟨w,η,rfl,f⟩
 |ex t η=>exact .inr<|.inr<|.inr ⟨t,η,rfl,f⟩
 |no=>exact f.elim
theorem j9 {fl:Fl}{g:Env->Fl}{N:L2.St->Hp->Prop}(f:Fin K Wx sl Z H F D<|Fl.turn fl g)(b:∀η' a Z' H' Fs',fl=.nx η'->Fin K Wx sl Z H F D (g η')->At K sl a Z' H' Fs' η' no->Step Z H F Z' H' (tot Fs')->N a H'):Fin K Wx sl Z H F {D with nx:=N,ct:=N,bk:=D.nx} fl:=by
 rcases qw f with⟨η',rfl,f⟩|⟨η',rfl,f⟩|⟨w,η',rfl,f⟩|⟨t,η',rfl,f⟩
 .exactλa Z' H' Fs' A s=>b η' a Z' H' Fs' rfl f A s
 .exact f
 .exact f
 .exact f
theorem sX {n i:O}{c:It}{ts:U<|U W}{ws:U W}{s:U O}{x:V}{Q:L2.St->Hp->Prop}(hn:tg.length=n)(nd:tg.Nodup)(N:oJ sf io pv)(g:∀t∈tg,t ∉ io)(e:tg.map sf=s.map Y)(hz:∀a,Z1 a->Z a)(st:Stay Z1 H1 H)(o:Yld K c Z1 H1 ts n)(A:At K ⟨sf,pv⟩ σ Z H Fs η no)
  (P:ts[i]?=Y ws) (hb:bindT tg ws η=Y ηb) (y:c.yld i H x H') (k:∀σ2 v l,At K ⟨sf,pv⟩ σ2 Z v l ηb no->Step Z H (tot Fs) Z v (tot l)->Q σ2 v):gF K s x σ H' Q:=by
 have hi:i<ts.length:=(Jc.mp P).1
 match n,o with
 | 1,o =>
  obtain⟨e0,w,f,r⟩:=o H i x H' st hi y;rw[e0];rw[P] at f;cases f
  match tg,hn,s,e with
  |[t],_,[d],e=>
   cases hb;have I:sf t=Y d:=by simpa using e
   exact k _ H _ (At.set N (g t<|by simp) I A<|r.zmono hz)<|(Step.refl _ _ _).mono (λ_ z=>z) λa h=>(a9 h).elim id λz=>z.elim
  |[t],_,[],e=>simp at e
  |[t],_,_::_::_,e=>simp at e
 | 2,o =>
  obtain⟨p,y1,z1,u,w,rfl,sm,hq,f,r1,r2⟩:=o H i x H' st hi y;rw[P] at f;cases f
  match tg,hn,s,e with
  |[t,m],_,[d,j'],e=>
   cases hb;have I:sf t=Y d:=by simp at e;exact e.1
   have M:sf m=Y j':=by simp at e;exact e.2
   have s0:Step Z H no Z H' no:=d8 sm;obtain⟨A1,s1⟩:=A.op bj s0;have sn:Stay Z H H':=fN sm;have r1':Rep K Z H' u.1 u.2 y1 no:=(r1.zmono hz).keep sn (λ_ z=>z) λ_ _ z=>z.elim;have r2':Rep K Z H' w.1 w.2 z1 no:=(r2.zmono hz).keep sn (λ_ z=>z) λ_ _ z=>z.elim;have A2:=At.set N (g t<|by simp) I A1 r1';have A3:=At.set N (g m<|by simp) M A2 r2';refine⟨p,[y1,z1],rfl,hq,rfl,y1,[z1],rfl,z1,[],rfl,rfl,k _ _ _ A3<|s1.mono (λa h=>h.elim id λz=>z.elim) λa h=>?_⟩;rcases a9 h with h|h
   .exact .inl ((a9 h).elim id λz=>z.elim)
   .exact h.elim
  |[t,m],_,[],e=>simp at e
  |[t,m],_,[_],e=>simp at e
  |[t,m],_,_::_::_::_,e=>simp at e
theorem tY {n:O}{k:Ik}{v:U E}{js:U O}{e:U S}(hn:tg.length=n)(nd:tg.Nodup)(hio:∀t∈tg,t ∉ io)(hjs:tg.map sf=js.map Y)(D:bp)(σ:L2.St)(H:Hp)(h:wS K Wx sf io C (.forS vs ls k v tg e) D σ H):
  Ba (wI K sf C n k v) (gF K js) (wSs K Wx sf io C e) D σ H:=by
 obtain⟨pv,Z,Fs,η,N,A,f⟩:=h;obtain⟨⟨ws,η2⟩,h1,h2⟩:=aU<|show Fin K Wx ⟨sf,pv⟩ Z H (tot Fs) D (Fl.of η (evL C v<|pick vs ls η)<|kFor vs k tg (evSs C e) η) from f;obtain⟨⟨g,η3⟩,h3,h4⟩:=aU<|show Fin K Wx ⟨sf,pv⟩ Z H (tot Fs) D (Fl.of η (ret (M.share vs η)<|turns k ws)<|kFor2 tg<|evSs C e) from h2;obtain⟨ts',ht,e3⟩:=aE h3;have e4:g=ts':=N1 IV e3;have e5:η3=M.share vs η:=N1 J5 e3;subst e4 e5;have h4':Fin K Wx ⟨sf,pv⟩ Z H (tot Fs) D (forL tg (evSs C e) g (M.share vs η)):=h4;refine⟨pv,_,m9,_,ws,η2,g,A.quiet (vs:=vs) (ls:=ls),h1,ht,λd Z1 H1 Fs1 c s wk yl=>?_⟩;obtain⟨B1,s1⟩:=cB (G:=no) A bj c.gd.zal (s.mono (F2:=λa=>tot Fs1 a\/no a) (λ_ z=>z) λa h=>h.elim id λz=>z.elim) λa h=>fL h;obtain⟨B2,s2⟩:=B1.share (vs:=vs);have s3:=(s2 s1).mono (F2:=tot<|eg Fs vs) (λ_ z=>z) λ_ z=>.inl z;have zz:∀a,Z1 a->((Z1 a/\¬bJ Fs vs a)\/bJ Fs vs a):=λa h=>(LS<|bJ Fs vs a).elim .inr λq=>.inl ⟨h,q⟩;refine⟨λi m w H'=>m=g.length-i/\i<=g.length/\∃r l p,At K ⟨sf,pv⟩ w r H' l p no/\Step (λa=>(Z1 a/\¬bJ Fs vs a)\/bJ Fs vs a) H1 (tot<|eg Fs vs) r H' (tot l)/\Fin K Wx ⟨sf,pv⟩ r H' (tot l) D (forL tg (evSs C e) (g.drop i) p),⟨g.length,by simp,Jo _,_,_,_,B2,Step.refl _ _ _,h4'.step s3⟩,?_⟩;rintro i m σi I ⟨rfl,hi,r,l,p,Ai,si,P⟩;have st:Stay Z1 H1 I:=by have:=B2.gd.own.stay si;exact⟨λa o h=>this.1 a o<|zz a h,this.2⟩
 by_cases u:i<g.length
 .right;refine⟨wk.go I i st u,_,λw H' Q=>⟨g.length-(i+1),by lia,Q⟩,λx H' y=>?_⟩;have Q:g[i]?=Y g[i]:=by simp[u]
  rw[eE Q] at P;obtain⟨ηb,hb,fb⟩:=aU<|show Fin K Wx ⟨sf,pv⟩ r I (tot l) D (Fl.of p (ofO<|bindT tg g[i] p) λη1=>Fl.turn (evSs C e η1)<|forL tg (evSs C e)<|g.drop<|i+1) from P;refine sX hn nd N hio hjs (λa h=>si.zm a<|zz a h) st yl Ai Q (bH hb) y λσ2 H2 Fs2 A2 t2=>?_;refine⟨pv,r,Fs2,ηb,N,A2,j9 (fb.step t2) λη' w Z' H' Fs' _ f' A' s'=>⟨rfl,u,Z',Fs',η',A',(si.trans t2).trans s',f'.step s'⟩⟩
 .left;have hi':i=g.length:=by lia
  subst hi';rw[LX] at P;exact⟨wk.stop I _ st<|Ic _,P σi r I l Ai<|Step.refl _ _ _⟩
end
end MR

namespace MR
open PySem PySem.Spec PyProof.Rows L2 L3
section
variable {X:Cx}{sf sg:O->B O}{C:M.Call}{pos p2:Pos}{ea eb ec:NV}{a b c:M.E}{h:NN}{n:O}
theorem av {e:NV}{t g:TE}(h:PE X e t)(i:∀f H Q,g f H Q->t f H Q):PE X e g:=λd s f H Q I q=>h d s f H Q I<|i f H Q q
theorem gS {e:NV}{t g:TT}(h:PT X e t)(i:∀f H Q,g f H Q->t f H Q):PT X e g:=λd s f H Q I q=>h d s f H Q I<|i f H Q q
theorem x3 {e:NV}{t i:TT}(h:PW X e t)(k:∀g H Q,i g H Q->t g H Q):PW X e i:=λd f s g H Q I q=>h d f s g H Q I<|k g H Q q
theorem jy {f:U NV}{t g:TA}(h:PA X f t)(i:∀e H Q,g e H Q->t e H Q):PA X f g:=λpos d s e H Q I q=>h pos d s e H Q I<|i e H Q q
theorem bP {s:N4}{t f:TS}(h:PS X s t)(g:∀D e H,f D e H->t D e H):PS X s f:=λd s e H D I q=>h d s e H D I<|g D e H q
theorem kD {s:U N4}{t f:TS}(h:PSs X s t)(g:∀D e H,f D e H->t D e H):PSs X s f:=λd s e H D I q=>h d s e H D I<|g D e H q
theorem fV {i e:NV}{t g:TI}(h:PI X i e t)(k:∀f H R,g f H R->t f H R):PI X i e g:=λd s f H R I q=>h d s f H R I<|k f H R q
theorem D6 {g e:NV}{t i:TI}(h:PI X g e t)(k:PI X g e i):PI X g e (λf H R=>t f H R\/i f H R):=λd s f H R I q=>q.elim (h d s f H R I)<|k d s f H R I
abbrev SE (X:Cx)(sf:O->B O)(C:M.Call)(d:NV)(e:M.E):Prop:=PE X d<|wE X.K sf C e
abbrev SB (X:Cx)(sf:O->B O)(C:M.Call)(d:NV)(e:M.E):Prop:=PT X d<|wT X.K sf C e
abbrev SL (X:Cx)(sf:O->B O)(C:M.Call)(e:U NV)(d:U M.E):Prop:=PA X e<|wL X.K sf C d
abbrev SA (X:Cx)(sf:O->B O)(C:M.Call)(e:U NV)(d:U M.E):Prop:=PA X e<|wA X.K sf C d
abbrev SS (X:Cx)(sf:O->B O)(d:U O)(C:M.Call)(e:N4)(s:M.S):Prop:=PS X e<|wS X.K (xw X) sf d C s
abbrev SSs (X:Cx)(sf:O->B O)(d:U O)(C:M.Call)(e:U N4)(s:U M.S):Prop:=PSs X e<|wSs X.K (xw X) sf d C s
theorem sV (d:O){i:O}{x:Str}(g:sf i=Y d:=by rfl)(f:X.N[d]?=Y x:=by rfl)(k:Vis X.env.scope x:=by first|exact Ir rfl|exact Ig (Ir rfl)|exact Ig<|Ig rfl)(hd:(x==("__debug__":Str))=false:=by decide)
  (e:(x==("__classdict__":Str))=false:=by decide):SE X sf C (.Name x pos) (.var i):=av (bE f k hd e)<|BV g
theorem sM (d:O){i:O}{x:Str}(g:sf i=Y d:=by rfl)(f:X.N[d]?=Y x:=by rfl)(k:Vis X.env.scope x:=by first|exact Ir rfl|exact Ig (Ir rfl)|exact Ig<|Ig rfl)(hd:(x==("__debug__":Str))=false:=by decide)
  (e:(x==("__classdict__":Str))=false:=by decide):SE X sf C (.Name x pos) (.mv i):=av (bE f k hd e)<|AS (λ_=>rfl) g
theorem sI {i:j}{k:O}:SE X sf C (.Constant (.int i) k pos) (.cst<|.int i):=av gm<|fH λ{_ _}=>rfl
theorem sO {i:NN}{k:O}:SE X sf C (.Constant (.bool i) k pos) (.cst<|.bl i):=av FJ<|fH λ{_ _}=>rfl
theorem sN {k:O}:SE X sf C (.Constant .none k pos) (.cst .non):=av AY<|fH λ{_ _}=>rfl
theorem mr (s:NU)(f:s.length<=1000):M.sOk (Str.ofString s)=true:=by
 unfold M.sOk;rw[Str.ofString_eq_toList,Iq];refine⟨?_,NS ?_⟩
 .rw [LD];intro x hx;rw[List.mem_toArray,JF] at hx;obtain⟨c,_,rfl⟩:=hx;refine NS ?_;have:=c.valid;have d:c.toNat<0x110000:=by have e:=c.valid;unfold UInt32.isValidChar Nat.isValidChar at e;show c.val.toNat<_;lia
  exact d
 .rw [Iv,Ie,Nw];exact Ij f<|by decide
theorem sS {s:NU}{k:O}(d:s.length<=1000:=by decide):SE X sf C (.Constant (.str<|Str.ofString s) k pos) (.cst<|.str<|Str.ofString s):=av q8<|fH λ{_ _}=>⟨rfl,mr s d⟩
theorem sl0:SL X sf C [] []:=jy b5 CT
theorem slc {d:U NV}{bs:U M.E}(e:SE X sf C ea a)(f:SL X sf C d bs)(g:H9 (ea::d) X.env=(HU,N3 ea X.env)::H9 d X.env:=by rfl):SL X sf C (ea::d) (a::bs):=jy (aW e f g) uB
theorem sT {d:U NV}{bs:U M.E}{f:O}(h:SL X sf C d bs)(e:bs.length<=M.LIM:=by decide):SE X sf C (.Tuple d f pos) (.tup bs):=av (lx h)<|yR e
theorem sLs {d:U NV}{bs:U M.E}(e:SL X sf C d bs)(f:bs.length<=M.LIM:=by decide):SE X sf C (.List d pos) (.lst h bs):=av (AU e)<|Aj f
theorem sW {m:M.Md}(d:SE X sf C ea a):SE X sf C ea (.wk m a):=av d Fi
theorem bq (o:SE X sf C ea a)(p:SE X sf C eb b):SE X sf C (.BinOp ea .Add eb pos) (.op .add h [a,b]):=
 av (eM (op_add.or<|op_add_str.or<|op_cat.or l7) o p) (aH (vq (yN X.K) λ{Z H G Q a b w x A} g i l d u r k=>by
  obtain⟨y,e,f⟩:=r;refine⟨a,b,w,x,rfl,rfl,g,i,l,LIM_le d,λv z same t=>fW (m:=.s) u e ?_ f k same t⟩;rw[IA];exact d))
theorem oh (d:SE X sf C ea a)(e:SE X sf C eb b):SE X sf C (.BinOp ea .Sub eb pos) (.op .sub h [a,b]):=av (eM A6 d e)<|aH vD
theorem pQ (d:SE X sf C ea a)(e:SE X sf C eb b):SE X sf C (.BinOp ea .Mult eb pos) (.op .mul h [a,b]):=av (eM (op_mul.or BY) d e)<|aH u7
theorem G9 (d:SE X sf C ea a)(e:SE X sf C eb b):SE X sf C (.BinOp ea .Mod eb pos) (.op .mod h [a,b]):=av (eM B9 d e)<|aH vE
theorem zk (d:SE X sf C ea a)(e:SE X sf C eb b):SE X sf C (.BinOp ea .Pow eb pos) (.op .pow h [a,b]):=av (eM zh d e)<|aH wQ
theorem sIx (d:SE X sf C ea a)(e:SE X sf C eb b)(f:ff eb:=by intro _ _;rfl):SE X sf C (.Subscript ea eb pos) (.op .ix h [a,b]):=av (mL (ix_any.or yQ) d e f)<|aH CS
mutual
def th:M.T->Th
|.non=>.non | .bl b=>.bl b | .int i=>.int i | .str x=>.str x | .tup ts=>.tup (ths ts) | .lst ts=>.lst (ths ts) | .dct _ _=>.non | .ins _ _ _=>.non | .dtt _ _=>.non | .scr _=>.non | .gone=>.non
def ths:U M.T->U Th
|[]=>[]
|t::ts=>th t::ths ts
end
mutual
theorem lZ {K:HX}{Z:Fp}{H:Hp}:∀{t:M.T} {m:M.Md} {v:V} {G:Fp} {n:O},M.dp t<=n->n<=64->Rep K Z H m t v G->Has K H (th t) v/\(toD<|th t).canLay0=HV/\(toD<|th t).depth<=n
|.non,_,_,_,_,_,_,r=>⟨r,rfl,Jo _⟩
|.bl _,_,_,_,_,_,_,r=>⟨r,rfl,Jo _⟩
|.int _,_,_,_,_,_,_,r=>⟨r,rfl,Jo _⟩
|.str x,_,_,_,_,_,_,r=>⟨r.1,by have h:=r.2;unfold M.sOk at h;rw[Iq] at h;exact h.1,Jo _⟩
| .tup ts,m,v,G,n,hd,hn,⟨a,xs,e,q,l,r⟩=>by
 have hd':M.dps ts+1<=n:=hd
 match n,hd' with
 |n+1,hd'=>obtain⟨h1,h2,h3⟩:=fQ (n:=n) (by lia) (by lia) r;exact⟨⟨a,xs,e,q,h1⟩,h2,LZ h3⟩
| .lst ts,m,v,G,n,hd,hn,⟨a,xs,e,l,q,r⟩=>by
 have hd':M.dps ts+1<=n:=hd
 match n,hd' with
 |n+1,hd'=>obtain⟨h1,h2,h3⟩:=fQ (n:=n) (by lia) (by lia) r;exact⟨⟨a,xs,e,by cases m<;>exact q.2,h1⟩,h2,LZ h3⟩
|.dct _ _,_,_,_,_,hd,hn,_=>by have:1000<=64:=Ij hd hn;lia
|.dtt _ _,_,_,_,_,hd,hn,_=>by have:1000<=64:=Ij hd hn;lia
|.ins _ _ _,_,_,_,_,hd,hn,_=>by have:1000<=64:=Ij hd hn;lia
|.gone,_,_,_,_,hd,hn,_=>by have:1000<=64:=Ij hd hn;lia
|.scr _,_,_,_,_,hd,hn,_=>by have:1000<=64:=Ij hd hn;lia
theorem fQ {K:HX}{Z:Fp}{H:Hp}:∀{ts:U M.T} {m:M.Md} {xs:U V} {G:Fp} {n:O},M.dps ts<=n->n<=64->RepL K Z H m ts xs G->HasL K H (ths ts) xs/\PyData.canLayAll0 (eU<|ths ts)=HV/\PyData.depthAll (eU<|ths ts)<=n
|[],_,_,_,_,_,_,r=>⟨r,rfl,Jo _⟩
| t::ts,m,xs,G,n,hd,hn,⟨x,r,G1,G2,e,_,_,_,p,q⟩=>by
 have hd':max (M.dp t) (M.dps ts)<=n:=hd;obtain⟨h1,h2,h3⟩:=lZ (n:=n) (by lia) hn p;obtain⟨k1,k2,k3⟩:=fQ (n:=n) (by lia) hn q;refine⟨⟨x,r,e,h1,k1⟩,?_,?_⟩
 .show ((toD<|th t).canLay0&&PyData.canLayAll0 (eU<|ths ts))=HV;rw[h2,k2];rfl
 .show max (toD<|th t).depth (PyData.depthAll<|eU<|ths ts)<=n;lia
end
mutual
theorem kY:∀(t u:M.T),M.dp t<=64->M.dp u<=64->PyData.eqv (toD<|th t) (toD<|th u)=M.eqT t u
|.dct _ _,_,h,_=>by have:1000<=64:=h;lia
|.dtt _ _,_,h,_=>by have:1000<=64:=h;lia
|.ins _ _ _,_,h,_=>by have:1000<=64:=h;lia
|.gone,_,h,_=>by have:1000<=64:=h;lia
|.scr _,_,h,_=>by have:1000<=64:=h;lia
|.non,u,_,h=>by cases u<;>first|rfl|(have:1000<=64:=h;lia)
|.bl a,u,_,h=>by cases u<;>first|rfl|(cases a<;>rfl)|(have:1000<=64:=h;lia)
|.int i,u,_,h=>by
 cases u with
 |bl b=>cases b<;>rfl
 |_=>first|rfl|(have:1000<=64:=h;lia)
|.str x,u,_,h=>by cases u<;>first|rfl|(have:1000<=64:=h;lia)
|.tup ts,u,h1,h=>by
 cases u with
 |tup us=>exact i8 ts us (by have:M.dps ts+1<=64:=h1;lia) (by have:M.dps us+1<=64:=h;lia)
 |_=>first|rfl|(have:1000<=64:=h;lia)
|.lst ts,u,h1,h=>by
 cases u with
 |lst us=>exact i8 ts us (by have:M.dps ts+1<=64:=h1;lia) (by have:M.dps us+1<=64:=h;lia)
 |_=>first|rfl|(have:1000<=64:=h;lia)
theorem i8:∀(ts us:U M.T),M.dps ts<=64->M.dps us<=64->PyData.eqvAll (eU<|ths ts) (eU<|ths us)=M.eqTs ts us
|[],[],_,_=>rfl
|[],_::_,_,_=>rfl
|_::_,[],_,_=>rfl
|t::ts,u::us,h1,h2=>by have h1':max (M.dp t) (M.dps ts)<=64:=h1;have h2':max (M.dp u) (M.dps us)<=64:=h2;show(PyData.eqv (toD<|th t) (toD<|th u)&&PyData.eqvAll (eU<|ths ts) (eU<|ths us))=(M.eqT t u&&M.eqTs ts us);rw[kY t u (by lia)<|by lia,i8 ts us (by lia)<|by lia]
end
theorem iU {K:HX}{Z:Fp}{H:Hp}{t:M.T}{m:M.Md}{v:V}{G:Fp}(hd:M.dp t<=64)(r:Rep K Z H m t v G):Has K H (th t) v/\iD (th t):=by obtain⟨d,e,f⟩:=lZ hd (Ic _) r;refine⟨d,?_⟩;show((toD<|th t).canLay0&&decide ((toD<|th t).depth<=64))=HV;rw[e,NS f];rfl
theorem rE {K:HX}:Loc K 2 .eq h λl H Q=>∀x y,l=[x,y]->∃t i,Has K H t x/\Has K H i y/\iD t/\iD i/\Q (.bl<|PyData.eqv (toD t)<|toD i) H:=by
 intro N w l Z H G Q A e r D P k x y hx;subst hx;obtain⟨⟨m,a⟩,⟨n,b⟩,rfl⟩:=cj r.length.symm;obtain⟨v,z,F,I,d,r1,r2⟩:=bf r;have g:(if decide (M.dp a<=64)&&decide (M.dp b<=64) then Y ((.d,.bl (M.eqT a b)):M.W) else J)=Y w:=e;split at g
 .rename_i f;rw[Iq,NZ,NZ] at f;cases g;obtain⟨o,s⟩:=iU f.1 r1;obtain⟨p,u⟩:=iU f.2 r2;refine⟨th a,th b,o,p,s,u,?_⟩;rw[kY a b f.1 f.2];exact br k
 .cases g
theorem y0 {K:HX}:Loc K 2 .ne h λl H Q=>∀x y,l=[x,y]->∃t i,Has K H t x/\Has K H i y/\iD t/\iD i/\Q (.bl<|!PyData.eqv (toD t) (toD i)) H:=by
 intro N w l Z H G Q A e r D P k x y hx;subst hx;obtain⟨⟨m,a⟩,⟨n,b⟩,rfl⟩:=cj r.length.symm;obtain⟨v,z,F,I,d,r1,r2⟩:=bf r;have g:(if decide (M.dp a<=64)&&decide (M.dp b<=64) then Y ((.d,.bl (!M.eqT a b)):M.W) else J)=Y w:=e;split at g
 .rename_i f;rw[Iq,NZ,NZ] at f;cases g;obtain⟨o,s⟩:=iU f.1 r1;obtain⟨p,u⟩:=iU f.2 r2;refine⟨th a,th b,o,p,s,u,?_⟩;rw[kY a b f.1 f.2];exact br k
 .cases g
theorem sEq (f:Room n X.A)(d:SE X sf C ea a)(e:SE X sf C eb b):SE X sf C (.Compare ea [.Eq] [eb] pos) (.op .eq h [a,b]):=av (wc (l6 f.units) d e<|cJ _)<|aH rE
theorem lY {K:HX}{Z:Fp}{H:Hp}{t:M.T}{m:M.Md}{x:V}{G:Fp}(d:t.isG=HU)(r:Rep K Z H m t x G):decide (x=V.non)=t.isN:=by
 cases t with
 |non=>rw[show x=_ from r];rfl
 |bl _=>rw[show x=_ from r];rfl
 |int _=>rw[show x=_ from r];rfl
 |str _=>rw[show x=_ from r.1];rfl
 |tup _=>obtain⟨p,_,e,_⟩:=r;rw[show x=_ from e];rfl
 |lst _=>obtain⟨p,_,e,_⟩:=r;rw[show x=_ from e];rfl
 |scr _=>obtain⟨p,e,_⟩:=r;rw[show x=_ from e];rfl
 |dct _ _=>obtain⟨p,_,e,_⟩:=r;rw[show x=_ from e];rfl
 |ins _ _ _=>obtain⟨_,p,_,_,_,e,_⟩:=r;rw[show x=_ from e];rfl
 |dtt _ _=>cases d
 |gone=>cases d
theorem ifN {d:Type}{b:NN}{x:B d}{y:d}(h:(if b=HV then J else x)=Y y):b=HU/\x=Y y:=by cases b<;>first|exact⟨rfl,h⟩|cases h
theorem Cw {K:HX}:Loc K 2 .is h λf H Q=>∀x y,f=[x,y]->y=.non/\Q (.bl<|decide (x=.non)) H:=by
 intro u w f Z H G Q o e r p v k x y hx;subst hx;obtain⟨⟨m,a⟩,⟨n,b⟩,rfl⟩:=cj r.length.symm;obtain⟨i,l,s,t,d,r1,r2⟩:=bf r;obtain rfl:b=.non:=by cases b<;>first|rfl|(cases e;done)|(cases a<;>cases e)
 obtain⟨g,e⟩:=ifN<|show(if a.isG=HV then J else Y _)=_ from e;cases e;rw[lY g r1];exact⟨r2,br k⟩
theorem oI {K:HX}:Loc K 2 .isnot h λf H Q=>∀x y,f=[x,y]->y=.non/\Q (.bl<|!decide (x=.non)) H:=by
 intro u w f Z H G Q o e r p v k x y hx;subst hx;obtain⟨⟨m,a⟩,⟨n,b⟩,rfl⟩:=cj r.length.symm;obtain⟨i,l,s,t,d,r1,r2⟩:=bf r;obtain rfl:b=.non:=by cases b<;>first|rfl|(cases e;done)|(cases a<;>cases e)
 obtain⟨g,e⟩:=ifN<|show(if a.isG=HV then J else Y _)=_ from e;cases e;rw[lY g r1];exact⟨r2,br k⟩
theorem my {K:HX}{Z:Fp}{H:Hp}{G:Fp}{m:M.Md}{f:U M.T}{i:U V}(lo g:B j)(r:RepL K Z H m f i G):RepL K Z H m (M.cut f lo g) (dM i lo g) G:=by
 have e:=r.length;have k:∀n d o,HT.sIx n d o=M.sIx n d o:=λn d o=>by cases o<;>rfl
 have l:dM i lo g=(i.drop (M.sIx f.length 0 lo)).take (M.sIx f.length f.length g-M.sIx f.length 0 lo):=by unfold dM;rw[k,k,e]
 rw[l];exact(r.drop _).take _
theorem pF (g:U j)(lo e:B j):dM (g.map V.int) lo e=(M.cut g lo e).map V.int:=by
 have f:∀n d o,HT.sIx n d o=M.sIx n d o:=λn d o=>by cases o<;>rfl
 unfold dM M.cut;rw[f,f,Ie,List.map_take,List.map_drop]
theorem CM {f:Type}(d:U f)(lo e:B j):(M.cut d lo e).length<=d.length:=by unfold M.cut;rw[K2,KA];lia
theorem rK {K:HX}{Z:Fp}{H:Hp}{G t:Fp}{Q:VK}{m:M.Md}{a:M.T}{x:V}{w:M.W}{lo hi:B j}(D:∀b,t b->G b)(A:Own Z H G)(F:∀a,Z a->H a≠J)(r:Rep K Z H m a x t)
  (e:(match a with | .lst i=>M.newL h m.kid (M.cut i lo hi) | .tup i=>Y ((.s,.tup<|M.cut i lo hi):M.W) | .scr y=>Y (.d,.lst<|(M.cut y lo hi).map M.T.int)|_=>J)=Y w) (k:Out K Z H G w Q):uP K x lo hi H Q\/vi K x lo hi H Q:=by
 cases a with
 |lst i=>obtain⟨p,o,rfl,g,u,q⟩:=bg r;refine .inl ⟨p,o,rfl,.inl<|.inl g,λl f=>?_⟩;exact cP A F (Ij (bY o lo hi) u) ⟨t,D,(my lo hi q).zmono λ_ z=>.inl z⟩ e k f
 |tup i=>obtain⟨p,o,rfl,g,u,q⟩:=bT r;cases e;refine .inr ⟨p,o,rfl,g,λv H' same P=>?_⟩;exact fW (m:=.s) (G':=no) A (λ_ z=>z.elim) (Ij (bY o lo hi) u) ((RepL.sh<|my lo hi q).zmono λb N=>N.imp id λz=>⟨D b z,λq=>q⟩) k same P
 |scr y=>obtain⟨p,rfl,I,g⟩:=r;cases e;refine .inl ⟨p,_,rfl,g.sq,λl f=>?_⟩;rw[pF];exact bG (m:=.d) (G':=no) A F (λ_ z=>z.elim) (by rw[Ie];exact Ij (CM y lo hi) I) (kA _) (by simp) k f
 |_=>cases e
theorem EY {p:Pos}(f:SE X sf C ea a)(g:SE X sf C eb b):SE X sf C (.Subscript ea (.Slice J (Y eb) J p) pos) (.op .sl2 h [a,b]):=
 av (kn (sl_list.or l5) f mB<|ml g) (λu H Q l=>aH (r:=λx y H Q=>∃i,y=.int i/\(uP X.K x J (Y i) H Q\/vi X.K x J (Y i) H Q)) (by
  intro F w I Z H G Q A e r o t k x y hx;subst hx;obtain⟨⟨m,a⟩,⟨n,b⟩,rfl⟩:=cj r.length.symm;obtain⟨v,z,s,D,d,r1,r2⟩:=bf r;obtain⟨i,rfl⟩:∃i,b=.int i:=by cases a<;>first|(cases e;done)|(cases b<;>first|exact⟨_,rfl⟩|(cases e;done))
  exact⟨i,r2,rK (h:=h) (lo:=J) (hi:=Y i) s o t r1 (by cases a<;>exact e) k⟩) u H Q l)
theorem zC {p:Pos}(f:SE X sf C ea a)(g:SE X sf C eb b):SE X sf C (.Subscript ea (.Slice (Y eb) J J p) pos) (.op .sl1 h [a,b]):=
 av (kn (sl_list.or l5) f (ml g) mB) (λu H Q l=>aH (r:=λx y H Q=>∃i,y=.int i/\(uP X.K x (Y i) J H Q\/vi X.K x (Y i) J H Q)) (by
  intro F w I Z H G Q A e r o t k x y hx;subst hx;obtain⟨⟨m,a⟩,⟨n,b⟩,rfl⟩:=cj r.length.symm;obtain⟨v,z,s,D,d,r1,r2⟩:=bf r;obtain⟨i,rfl⟩:∃i,b=.int i:=by cases a<;>first|(cases e;done)|(cases b<;>first|exact⟨_,rfl⟩|(cases e;done))
  exact⟨i,r2,rK (h:=h) (lo:=Y i) (hi:=J) s o t r1 (by cases a<;>exact e) k⟩) u H Q l)
theorem qr {K:HX}:Loc K 1 .len h λd H Q=>∃x n,d=[x]/\DR K x H n/\Q (.int n) H:=by intro l w d Z H G Q g e r i m k;obtain⟨x,n,hx,f,q⟩:=u6 (h:=h) l w d Z H G Q g e r i m k;exact⟨x,n,hx,by cases x<;>exact f,q⟩
section
variable {p:Pos}{x1:Str}
theorem gi (hm:X.mg "len"=J)(f:Gl X "len":=by rfl)(ha:SE X sf C ea a)(e:H9 [ea] X.env=(HU,N3 ea X.env)::H9 [] X.env:=by rfl)(d:(Iy pos<|H9 [] X.env).any (·.1)=false:=by rfl):SE X sf C (.Call (.Name "len" p) [ea] [] pos) (.op .len h [a]):=
 av (dF qT f hm PySem.boot_len (slc ha sl0 e) (by decide) (by decide) e d) (jx qr rfl)
theorem GC (f:X.calm=true:=by rfl)(hm:X.mg "all"=J)(g:Gl X "all":=by rfl)(ha:SE X sf C ea a)(e:H9 [ea] X.env=(HU,N3 ea X.env)::H9 [] X.env:=by rfl)(d:(Iy pos<|H9 [] X.env).any (·.1)=false:=by rfl):SE X sf C (.Call (.Name "all" p) [ea] [] pos) (.op .all h [a]):=
 av (dF (nK f) g hm (by rfl) (slc ha sl0 e) (by decide) (by decide) e d) (jx vF rfl)
theorem qc (hm:X.mg "list"=J)(f:Gl X "list":=by rfl)(ha:SE X sf C ea a)(e:H9 [ea] X.env=(HU,N3 ea X.env)::H9 [] X.env:=by rfl)(d:(Iy pos<|H9 [] X.env).any (·.1)=false:=by rfl):SE X sf C (.Call (.Name "list" p) [ea] [] pos) (.op .list h [a]):=
 av (eJ iZ f hm Ls (slc ha sl0 e) (by decide) (by decide) e d) (jx uj rfl)
end
theorem uJ {K:HX}{x:V}{H:Hp}{k:NN}(h:TrV K x H k):CL K x H k:=by
 cases x with
 |ref p=>exact h.imp id .inl
 |byt _=>exact h.elim
 |_=>exact h
theorem tB (o:SE X sf C ea a)(p:∀e,OL ea X.env e=(do let v <- e;standAt ea.pos;J0 [v] (truthy v)):=by intro _;rfl):SB X sf C ea a:=
 gS (pH o p) λy H Q h=>by obtain⟨u,Z,i,x,w,g,b,A,ev,t,k⟩:=h;exact⟨u,Z,i,x,w,g,A,ev,λv m l f G d r s=>⟨b,uJ<|nU t r,k m l f d.bare<|s.mono (λ_ z=>z) λ_ z=>.inl z⟩⟩
theorem fz (d:SB X sf C ea a):SB X sf C (.UnaryOp .Not ea pos) (.not a):=gS (A8 d) BU
theorem xZ {m:L2.St}{H:Hp}{Q:NN->Hp->Prop}(u:∀i w e,M.evE C a i=.ok (w,e)->∃b,w.2=.bl b)(h:wT X.K sf C a m H Q):yj (wE X.K sf C a) m H Q:=by obtain⟨x,Z,o,i,w,e,b,A,ev,l,k⟩:=h;refine⟨x,Z,o,i,w,e,A,ev,λv t p f G d r s=>⟨b,?_,k t p f d.bare<|s.mono (λ_ z=>z) λ_ z=>.inl z⟩⟩;obtain⟨y,g⟩:=u _ _ _ ev;rw[g] at l r;cases l;exact r
theorem ye {o:M.Op}(ho:∀u v w,M.oSem o h [u,v]=Y w->∃b,w.2=.bl b):∀f w d,M.evE C (.op o h [a,b]) f=.ok (w,d)->∃b,w.2=.bl b:=λf w d e=>by obtain⟨r,i,k⟩:=bS e;obtain⟨u,m,l,_,e2,rfl⟩:=aq i;obtain⟨v,p,l,_,g,rfl⟩:=aq e2;cases g;exact ho u v w k
theorem bX {op:CmpOp}{r:R2}{o:M.Op}(ho:OpR X (I0 op) r)(f:SE X sf C ea a)(g:SE X sf C eb b)(k:JA op eb=HU)(i:∀d H Q,wE X.K sf C (.op o h [a,b]) d H Q->tOp r (wE X.K sf C a) (wE X.K sf C b) d H Q)
  (e:∀u v w,M.oSem o h [u,v]=Y w->∃b,w.2=.bl b):SB X sf C (.Compare ea [op] [eb] pos) (.op o h [a,b]):=
 gS (jv ho f g k) λd H Q l=>i d H _<|xZ (ye e) l
theorem FX {u v w:M.W}(e:M.oSem .eq h [u,v]=Y w):∃b,w.2=.bl b:=by
 obtain⟨m,a⟩:=u;obtain⟨n,b⟩:=v;have f:(if decide (M.dp a<=64)&&decide (M.dp b<=64) then Y ((.d,.bl (M.eqT a b)):M.W) else J)=Y w:=e;split at f
 .cases f;exact⟨_,rfl⟩
 .cases f
theorem Ep {u v w:M.W}(e:M.oSem .ne h [u,v]=Y w):∃b,w.2=.bl b:=by
 obtain⟨m,a⟩:=u;obtain⟨n,b⟩:=v;have f:(if decide (M.dp a<=64)&&decide (M.dp b<=64) then Y ((.d,.bl (!M.eqT a b)):M.W) else J)=Y w:=e;split at f
 .cases f;exact⟨_,rfl⟩
 .cases f
theorem Di {u v w:M.W}(e:M.oSem .is h [u,v]=Y w):∃b,w.2=.bl b:=by
 obtain⟨m,a⟩:=u;obtain⟨n,b⟩:=v;obtain rfl:b=.non:=by cases b<;>first|rfl|(cases e;done)|(cases a<;>cases e)
 obtain⟨_,e⟩:=ifN<|show(if a.isG=HV then J else Y _)=_ from e;cases e;exact⟨_,rfl⟩
theorem pj {u v w:M.W}(e:M.oSem .isnot h [u,v]=Y w):∃b,w.2=.bl b:=by
 obtain⟨m,a⟩:=u;obtain⟨n,b⟩:=v;obtain rfl:b=.non:=by cases b<;>first|rfl|(cases e;done)|(cases a<;>cases e)
 obtain⟨_,e⟩:=ifN<|show(if a.isG=HV then J else Y _)=_ from e;cases e;exact⟨_,rfl⟩
theorem wW (d:SE X sf C ea a)(f:SE X sf C eb b):SB X sf C (.Compare ea [.Lt] [eb] pos) (.op .lt h [a,b]):=bX D8 d f (cJ _) (aH zt) λu v w e=>by obtain⟨_,_,_,_,_,_,rfl⟩:=uk e;exact⟨_,rfl⟩
theorem CD (d:SE X sf C ea a)(f:SE X sf C eb b):SB X sf C (.Compare ea [.Gt] [eb] pos) (.op .gt h [a,b]):=bX E9 d f (cJ _) (aH CB) λu v w e=>by obtain⟨_,_,_,_,_,_,rfl⟩:=qk e;exact⟨_,rfl⟩
theorem E3 (d:SE X sf C ea a)(f:SE X sf C eb b):SB X sf C (.Compare ea [.GtE] [eb] pos) (.op .ge h [a,b]):=bX Dw d f (cJ _) (aH Aa) λu v w e=>by obtain⟨_,_,_,_,_,_,rfl⟩:=tD e;exact⟨_,rfl⟩
theorem gG (g:Room n X.A)(d:SE X sf C ea a)(f:SE X sf C eb b):SB X sf C (.Compare ea [.Eq] [eb] pos) (.op .eq h [a,b]):=bX (l6 g.units) d f (cJ _) (aH rE) λu v w e=>FX e
theorem t7 (g:Room n X.A)(d:SE X sf C ea a)(f:SE X sf C eb b):SB X sf C (.Compare ea [.NotEq] [eb] pos) (.op .ne h [a,b]):=bX (xJ g.units) d f (cJ _) (aH y0) λu v w e=>Ep e
theorem HP (d:SE X sf C ea a)(f:SE X sf C eb b):SB X sf C (.Compare ea [.Is] [eb] pos) (.op .is h [a,b]):=bX zD d f (cJ _) (aH Cw) λu v w e=>Di e
theorem HF (d:SE X sf C ea a)(f:SE X sf C eb b):SB X sf C (.Compare ea [.IsNot] [eb] pos) (.op .isnot h [a,b]):=bX wm d f (cJ _) (aH oI) λu v w e=>pj e
abbrev SW (X:Cx)(sf:O->B O)(C:M.Call)(d:NV)(e:M.E):Prop:=PW X d<|wT X.K sf C e
theorem wA1 (d:SB X sf C ea a):SW X sf C (.BoolOp .And [ea] pos) a:=uM d
theorem wO1 (d:SB X sf C ea a):SW X sf C (.BoolOp .Or [ea] pos) a:=AH d
theorem FO {rest:U NV}(d:SB X sf C ea a)(e:SW X sf C (.BoolOp .And (eb::rest) pos) b):SW X sf C (.BoolOp .And (ea::eb::rest) pos) (.and a b):=x3 (y9 d e) Ce
theorem wOr {rest:U NV}(d:SB X sf C ea a)(e:SW X sf C (.BoolOp .Or (eb::rest) pos) b):SW X sf C (.BoolOp .Or (ea::eb::rest) pos) (.or a b):=x3 (Fv d e) Et
theorem tW (h:SW X sf C ea a):SB X sf C ea a:=h.pt
theorem sIf (f:SB X sf C ec c)(d:SE X sf C ea a)(e:SE X sf C eb b):SE X sf C (.IfExp ec ea eb pos) (.ifx c a b):=av (oZ f d e) Ay
theorem qN {e:NV}(d:SE X sf C ea a):PI X e ea (wI X.K sf C 1 .seq [a]):=fV (D6 (l9 d)<|rj d) zR
theorem vO {f:NV}{p:Pos}(hm:X.mg "range"=J)(e:Gl X "range":=by rfl)(ha:SE X sf C ea a)(d:H9 [ea] X.env=[(HU,N3 ea X.env)]:=by rfl):PI X f (.Call (.Name "range" p) [ea] [] pos) (wI X.K sf C 1 .rng [a]):=fV (nS e hm (slc ha sl0 d) d) xM
theorem ym {f:U NV}{i:O}{pt p:Pos}(k:X.calm=true:=by rfl)(hm:X.mg "zip"=J)(g:Gl X "zip":=by rfl)(ha:SE X sf C ea a)(hb:SE X sf C eb b)(e:H9 [ea,eb] X.env=[(HU,N3 ea X.env),(HU,N3 eb X.env)]:=by rfl)(d:H9 [eb] X.env=[(HU,N3 eb X.env)]:=by rfl):PI X (.Tuple f i pt) (.Call (.Name "zip" p) [ea,eb] [] pos) (wI X.K sf C 2 .zip [a,b]):=fV (AF g hm (slc ha (slc hb sl0 d)<|by rw[e,d]) e d) C1
noncomputable def lkN:U O->O->O->B O
|[],_,_=>J
|t::d,n,i=>if i=t then Y n else lkN d (n+1) i
theorem mI:∀{l:U O} {n i d:O},lkN l n i=Y d->∃k,l[k]?=Y i/\d=n+k/\i ∉ l.take k
|[],_,_,_,h=>by cases h
| t::o,n,i,d,h=>by
 have f:(if i=t then Y n else lkN o (n+1) i)=Y d:=h;split at f
 .rename_i e;cases f;exact⟨0,by rw[e];rfl,rfl,by simp⟩
 .rename_i e;obtain⟨k,g,p,m⟩:=mI f;exact⟨k+1,g,by lia,by rw[Jn,Ip];exactλz=>z.elim e m⟩
def inF (e d:U O):O->B O:=lkN (e++d) 0
theorem dD {e l m:U O}(h:l.map sf=m.map Y):hX sf (inF e l) e m:=λi d s=>by
 obtain⟨k,g,o,p⟩:=mI<|show lkN (e++l) 0 i=Y d from s;rw[Jx] at o;subst o;by_cases hk:d<e.length
 .rw [K7 hk] at g;exact .inl ⟨d,g,rfl⟩
 .have f:e.length<=d:=MO hk;rw[K8 f] at g;refine .inr ⟨λr=>p ?_,?_⟩
  .rw [List.take_append,Lr f];exact J9 _ r
  .have e1:(l.map sf)[d-e.length]?=Y (sf i):=by rw [IW,g]; rfl
   rw[h,IW] at e1;cases e2:m[d-e.length]? with
   |none=>rw[e2] at e1;cases e1
   |some t=>rw[e2] at e1;exact⟨d-e.length,t,by lia,e2,(IJ e1).symm⟩
theorem Eg {x:Str}{l:Pos}{e:U Str}{d:N9}{g:U<|Str×NM}(S:aC [x] e d)(f:NM)(s:HW)(H:Hp)(k:U NM):PG (aB X ([x]++e) d g f s H k) (.Name x l) (gT X.K 1):=
 bF (X:=aB X ([x]++e) d g f s H k) (i:=0) (x:=x) (pos:=l) S.nd rfl (.inl<|Kx<|S.loc x<|by simp) (.inr<|Kx<|S.loc x<|by simp)
theorem Dc {x y:Str}{o p pt:Pos}{m:O}{e:U Str}{d:N9}{g:U<|Str×NM}(r:X.calm=HV)(S:aC [x,y] e d)(f:NM)(s:HW)(H:Hp)(l:U NM):PG (aB X ([x,y]++e) d g f s H l) (.Tuple [.Name x o,.Name y p] m pt) (gT X.K 2):=
 lE (X:=aB X ([x,y]++e) d g f s H l) (pos:=pt) (k:=m) (n:=2) r (bN (bF (pos:=o) (i:=0) (x:=x) S.nd rfl (.inl<|Kx<|S.loc x<|by simp) (.inr<|Kx<|S.loc x<|by simp))<|bN (bF (pos:=p) (i:=1) (x:=y) S.nd rfl (.inl<|Kx<|S.loc y<|by simp) (.inr<|Kx<|S.loc y<|by simp)) i5)
end
end MR

namespace MR
open PySem PySem.Spec PyProof.Rows L2 L3
section
variable {X:Cx}{sf sg:O->B O}{C:M.Call}{pos p2:Pos}{ea eb ec:NV}{a b c:M.E}{h:NN}{n:O}{io:U O}
section
variable {elt iter cnd:NV}{x y:Str}{px py pt:Pos}{kt:O}{scope:N9}{cl:U (Str×NM)}{ys:U Str}{tg ls is:U O}{k:M.Ik}{src:U M.E}{e cd:M.E}
theorem sC1 (ls:U O)(is:U O)(cl:U<|Str×NM)(ys:U Str){t:O}(r:PI X (.Name x px) iter<|wI X.K sf C 1 k src)(o:∀f s H g,SE (aB X ([x]++ys) scope cl f s H g) (inF [t] ls) C elt e)
  (S:aC [x] ys scope) (i:Clo X cl) (fr:Frees X scope cl ys is) (m:X.calm=true:=by rfl) (u:ls.map sf=is.map some:=by rfl)
  (d:JL scope X.env=pure cl:=by with_unfolding_all rfl) (l:(scope.names.all λp=>p.2 != .free || (cl.lookup p.1).isSome)=true:=by rfl)
  (w:∀v,Ji iter X.env v=pure v:=by intro _;rfl):SE X sf C (.ListComp elt [⟨.Name x px,iter,[],0⟩] scope pos) (.comp h k src [t] J e):=
 av (gZ (pre:=[x]) m r (Eg S) (λf s H g=>o f s H g) d S i l fr w) (dU rfl (by simp) (dD u))
theorem sC2 (ls:U O)(is:U O)(cl:U<|Str×NM)(ys:U Str){t m:O}(u:PI X (.Tuple [.Name x px,.Name y py] kt pt) iter<|wI X.K sf C 2 k src)(r:∀f s H g,SE (aB X ([x,y]++ys) scope cl f s H g) (inF [t,m] ls) C elt e)
  (S:aC [x,y] ys scope) (i:Clo X cl) (fr:Frees X scope cl ys is) (o:X.calm=true:=by rfl) (w:ls.map sf=is.map some:=by rfl) (A:[t,m].Nodup:=by decide)
  (d:JL scope X.env=pure cl:=by with_unfolding_all rfl) (l:(scope.names.all λp=>p.2 != .free || (cl.lookup p.1).isSome)=true:=by rfl)
  (z:∀v,Ji iter X.env v=pure v:=by intro _;rfl):SE X sf C (.ListComp elt [⟨.Tuple [.Name x px,.Name y py] kt pt,iter,[],0⟩] scope pos) (.comp h k src [t,m] J e):=
 av (gZ (pre:=[x,y]) o u (Dc o S) (λf s H g=>r f s H g) d S i l fr z) (dU rfl A (dD w))
end
def spS (K:HX)(C:M.Call)(f:O)(io:U O):Sp:=λd H Q _=>spC K C f io d H Q
theorem sa0:SA X sf C [] []:=jy b5 zY
theorem sac {d:U NV}{bs:U M.E}(e:SE X sf C ea a)(f:SA X sf C d bs)(g:∀i,a≠.io i:=by intro _ z;cases z)(k:H9 (ea::d) X.env=(HU,N3 ea X.env)::H9 d X.env:=by rfl):SA X sf C (ea::d) (a::bs):=jy (aW e f k)<|rP g
theorem sai (d:O){i:O}{x:Str}{e:U NV}{bs:U M.E}(l:SA X sf C e bs)(m:sf i=Y d:=by rfl)(k:X.N[d]?=Y x:=by rfl)(o:Vis X.env.scope x:=by first|exact Ir rfl|exact Ig (Ir rfl)|exact Ig<|Ig rfl)(hd:(x==("__debug__":Str))=false:=by decide)
  (f:(x==("__classdict__":Str))=false:=by decide) (g:H9 (.Name x pos::e) X.env=(HU,N3 (.Name x pos) X.env)::H9 e X.env:=by rfl):SA X sf C (.Name x pos::e) (.io i::bs):=jy (aW (bE k o hd f) l g)<|oM m
def ae (P:NQ)(w:H8)(K:HX)(i:Str->B L)(d:NX)(n:O)(C:M.Call)(x:Str)(f:O)(io:U O):Prop:=
 ∃e g ps,ee P w K i d CX0 n e g ps (spS K C f io)/\i x=Y (.ref e)/\KI K (.ref e)=HV/\Binds K g ps []
theorem aj {x:Str}{p:Pos}{f:O}{e:U NV}{bs:U M.E}(c:ae X.prog X.w X.K X.mg X.base n C x f io)(hr:Room n X.A)(D:SA X sf C (ea::e) bs)(l:gH bs 0=io\/M.ios bs=[]:=by first|exact .inl rfl|exact .inr rfl)(P:Gl X x:=by rfl)(i:(x==("__debug__":Str))=false:=by decide)
  (N:H9 (ea::e) X.env=(HU,N3 ea X.env)::H9 e X.env:=by rfl) (m:(Iy pos<|H9 e X.env).any (·.1)=false:=by rfl):SE X sf C (.Call (.Name x p) (ea::e) [] pos) (.call f bs):=by
 obtain⟨fa,fd,ps,F,hm,hk,I⟩:=c;refine av (xF (E:=E0) F hr P hm hk I .nil Es D i N m) λσ H Q hw=>?_;have z:=w5 l σ H Q hw;obtain⟨pv,Z,v,η,ws,o,A,ev,k⟩:=z;exact⟨pv,Z,v,η,ws,o,A,ev,λu y t g G d r s hv=>by show spS X.K C f io (u++[]) t Q E0;rw[IT];exact k u y t g G d r s hv⟩
theorem ss0:SSs X sf io C [] []:=kD uO xA
theorem ss1 {s:N4}{t:M.S}(d:SS X sf io C s t):SSs X sf io C [s] [t]:=kD (wM d) wB
theorem ssc {s:N4}{t:M.S}{r:U N4}{u:U M.S}(e:SS X sf io C s t)(d:SSs X sf io C r u):SSs X sf io C (s::r) (t::u):=kD (r6 e d) sZ
theorem Gb (d:O){i:O}{x:Str}{r:M.X}{e:Pos}(g:X.N.Nodup)(k:SE X sf C ea a)(m:i ∉ io:=by decide)(p:sf i=Y d:=by rfl)(o:X.N[d]?=Y x:=by rfl)(hx:L2.Loc X.env.scope x:=by first|exact Ir rfl|exact Ig rfl)
  (f:Jf ea (Y<|.Name x e) pos.line X.env=pure false:=by rfl) (l:X.fn x=HV\/X.env.scope.names.lookup x=Y .local:=by first|exact .inl rfl|exact .inr rfl):SS X sf io C (.Assign [.Name x e] ea pos) (.asg r i a):=bP (zI (i:=d) g o hx k f l)<|lH m p
theorem Ge {f:M.X}(d:SE X sf C ea a)(e:Jf ea J pos.line X.env=pure false:=by rfl):SS X sf io C (.Expr ea pos) (.exp f a):=bP (eY d e) BX
theorem aF {e:U O}(d:SE X sf C ea a):SS X sf io C (.Return (Y ea) pos) (.ret e a):=bP (Av d) yS
theorem zIf {g:M.X}{r u:U N4}{s t:U M.S}(f:SB X sf C ec c)(d:SSs X sf io C r s)(e:SSs X sf io C u t):SS X sf io C (.If ec r u pos) (.ite g c s t):=bP (F5 f d e) Be
theorem rF (d:O){t:O}{x:Str}{m:Pos}{e:NV}{r:U N4}{s:U M.S}{H G:U O}{k:M.Ik}{f:U M.E}(o:X.N.Nodup)(z:PI X (.Name x m) e<|wI X.K sf C 1 k f)(p:SSs X sf io C r s)(g:∀u∈[t],u ∉ io:=by decide)(l:[t].map sf=[d].map some:=by rfl)(D:X.N[d]?=Y x:=by rfl)(hx:L2.Loc X.env.scope x:=by first|exact Ir rfl|exact Ig rfl)
  (v:X.calm=true:=by rfl) (hp:OI (HZ X.prog X.w) X.A X.env X.xe:=by exact PassesOwn.never) (y:X.fn x=HV\/X.env.scope.names.lookup x=Y .local:=by first|exact .inl rfl|exact .inr rfl) (F:∀x,Ji e X.env x=pure x:=by intro _;rfl):SS X sf io C (.For (.Name x m) e r [] pos) (.forS H G k f [t] s):=
 bP (lI hp v z (bF (i:=d) o D hx y) p F) (tY rfl (by simp) g l)
theorem se (d l:O){t u:O}{x y:Str}{F G pt:Pos}{D:O}{e:NV}{r:U N4}{s:U M.S}{vs ls:U O}{k:M.Ik}{f:U M.E}(p:X.N.Nodup)(P:PI X (.Tuple [.Name x F,.Name y G] D pt) e<|wI X.K sf C 2 k f)(H:SSs X sf io C r s)(m:∀v∈[t,u],v ∉ io:=by decide)(nd:[t,u].Nodup:=by decide)(o:[t,u].map sf=[d,l].map some:=by rfl)(Q:X.N[d]?=Y x:=by rfl)(Z:X.N[l]?=Y y:=by rfl)
  (hx:L2.Loc X.env.scope x:=by first|exact Ir rfl|exact Ig rfl) (hy:L2.Loc X.env.scope y:=by first|exact Ir rfl|exact Ig rfl)
  (z:X.calm=true:=by rfl) (hp:OI (HZ X.prog X.w) X.A X.env X.xe:=by exact PassesOwn.never) (I:X.fn x=HV\/X.env.scope.names.lookup x=Y .local:=by first|exact .inl rfl|exact .inr rfl) (g:X.fn y=HV\/X.env.scope.names.lookup y=Y .local:=by first|exact .inl rfl|exact .inr rfl) (hs:∀x,Ji e X.env x=pure x:=by intro _;rfl):SS X sf io C (.For (.Tuple [.Name x F,.Name y G] D pt) e r [] pos) (.forS vs ls k f [t,u] s):=
 bP (lI hp z P (lE (n:=2) z<|bN (bF (i:=d) p Q hx I)<|bN (bF (i:=l) p Z hy g) i5) H hs) (tY rfl nd m o)
theorem nV (e:O){i:O}{x:Str}{xx:M.X}{g f y:Pos}(ha:SE X sf C ea a)(hs:sf i=Y e:=by rfl)(hN:X.N[e]?=Y x:=by rfl)(hv:Vis X.env.scope x:=by first|exact Ir rfl|exact Ig (Ir rfl)|exact Ig<|Ig rfl)(hd:(x==("__debug__":Str))=false:=by decide)(F:(x==("__classdict__":Str))=false:=by decide)
  (m:JN (.Name x y) "append" X.env (N3 (.Name x y) X.env)=N3 (.Name x y) X.env:=by rfl)
  (t:((Iy f<|H9 [ea] X.env).all (λx=>!x.1)&&(JK f<|JM [] X.env).all (λx=>x.1.isSome)&&decide ([ea].length+([]:U IP).length+(if([]:U IP).isEmpty then 0 else 1)<30))=true:=by rfl)
  (o:(g.endLine==f.line)=true:=by rfl) (u:H9 [ea] X.env=(HU,N3 ea X.env)::H9 [] X.env:=by rfl) (l:(Iy f<|H9 [] X.env).any (·.1)=false:=by rfl) (I:Jf (.Call (.Attribute (.Name x y) "append" g) [ea] [] f) J pos.line X.env=pure false:=by rfl):
  SS X sf io C (.Expr (.Call (.Attribute (.Name x y) "append" g) [ea] [] f) pos) (.app xx i a):=
 bP (eY (gX Lw Nf Nd il (bE hN hv hd F) (aW ha b5 u) m t o u l) I) λD σ H hw=>by obtain⟨p,xs,hj,hp,pv,Z,Q,η,w,P,A,ev,k⟩:=zX hs D σ H hw;refine⟨.ref p,hj,.inl ⟨rfl,xs,.inl<|.inl hp⟩,pv,Z,Q,η,w,P,A,ev,λv Z' H' z G d r s=>?_⟩;obtain⟨ys,h1,h2,h3⟩:=k v Z' H' z G d r s;exact⟨p,ys,v,rfl,rfl,h1,h2,h3⟩
theorem Hv (e:O){i:O}{x:Str}{xx:M.X}{g f y:Pos}(ha:SE X sf C ea a)(hs:sf i=Y e:=by rfl)(hN:X.N[e]?=Y x:=by rfl)(hv:Vis X.env.scope x:=by first|exact Ir rfl|exact Ig (Ir rfl)|exact Ig<|Ig rfl)(hd:(x==("__debug__":Str))=false:=by decide)(I:(x==("__classdict__":Str))=false:=by decide)
  (m:JN (.Name x y) "extend" X.env (N3 (.Name x y) X.env)=N3 (.Name x y) X.env:=by rfl)
  (t:((Iy f<|H9 [ea] X.env).all (λx=>!x.1)&&(JK f<|JM [] X.env).all (λx=>x.1.isSome)&&decide ([ea].length+([]:U IP).length+(if([]:U IP).isEmpty then 0 else 1)<30))=true:=by rfl)
  (o:(g.endLine==f.line)=true:=by rfl) (u:H9 [ea] X.env=(HU,N3 ea X.env)::H9 [] X.env:=by rfl) (l:(Iy f<|H9 [] X.env).any (·.1)=false:=by rfl) (P:Jf (.Call (.Attribute (.Name x y) "extend" g) [ea] [] f) J pos.line X.env=pure false:=by rfl):
  SS X sf io C (.Expr (.Call (.Attribute (.Name x y) "extend" g) [ea] [] f) pos) (.ext xx i a):=
 bP (eY (gX Lw PySem.F.slot_list_extend PySem.F.type_list_extend oY (bE hN hv hd I) (aW ha b5 u) m t o u l) P) λD σ H hw=>by obtain⟨p,xs,hj,hp,pv,Z,Fs,η,w,Q,A,ev,k⟩:=zu hs D σ H hw;refine⟨.ref p,hj,.inl ⟨rfl,xs,.inl<|.inl hp⟩,pv,Z,Fs,η,w,Q,A,ev,λv Z' H' z G d r s=>?_⟩;obtain⟨b,ys,zs,rfl,h1,h2,h3,h4⟩:=k v Z' H' z G d r s;exact⟨p,b,ys,zs,rfl,rfl,h1,h2,h3,h4⟩
theorem qG (e:O){i:O}{x:Str}{xx:M.X}{f ps:Pos}(ha:SE X sf C ea a)(hb:SE X sf C eb b)(hs:sf i=Y e:=by rfl)(hN:X.N[e]?=Y x:=by rfl)(hv:Vis X.env.scope x:=by first|exact Ir rfl|exact Ig (Ir rfl)|exact Ig<|Ig rfl)(hd:(x==("__debug__":Str))=false:=by decide)(y:(x==("__classdict__":Str))=false:=by decide)
  (u:∀ v,Jq (.Subscript (.Name x f) eb ps) X.env v=(do
   let ov <- J0 [v] (N3 (.Name x f) X.env);let iv <- J0 [v,ov] (N3 eb X.env)
   standAt ps
   J0 [v,ov,iv] (setItem ov iv v)
   release [v,ov,iv] []):=by intro _;rfl)
  (h1:swapsWithSole [.Subscript (.Name x f) eb ps] ea pos.line X.env=pure false:=by rfl) (h2:swappedStores [.Subscript (.Name x f) eb ps] ea X.env=pure none:=by rfl) (h3:(Kc [.Subscript (.Name x f) eb ps] X.env).map (·.2)=[Jq (.Subscript (.Name x f) eb ps) X.env]:=by rfl):
  SS X sf io C (.Assign [.Subscript (.Name x f) eb ps] ea pos) (.setI xx i b a):=
 bP (BA ha (AL (bE hN hv hd y) hb rJ u) h1 h2 h3) λD σ H hw=>by obtain⟨pv,Z,Fs,η,w,I,A,ev,k⟩:=xI hs D σ H hw;refine⟨pv,Z,Fs,η,w,I,A,ev,λv Z' H' g G d r s=>?_⟩;obtain⟨o,ho,F,Z2,l,P,w2,Q,A2,t,k2⟩:=k v Z' H' g G d r s;refine⟨o,ho,F,Z2,l,P,w2,Q,A2,t,λz Z3 H3 p G3 B3 r3 s3=>?_⟩;obtain⟨q,xs,n,m,rfl,rfl,g1,g2,g3⟩:=k2 z Z3 H3 p G3 B3 r3 s3;exact⟨q,xs,n,m,rfl,rfl,g1,g2,g3⟩
end
end MR

namespace MR
open PySem PySem.Spec PyProof.Rows L2 L3
section
variable {K:HX}{Z:Fp}{H:Hp}
theorem jl:∀{a:U M.W} {n i:O} {w:M.W},M.rd (a.map Y++Iu n J) i=Y w->a[i]?=Y w
|[],0,i,w,h=>by simp[M.rd] at h
|[],n+1,0,w,h=>by simp[J7,M.rd] at h
|[],n+1,i+1,w,h=>by
 have:M.rd (([]:U M.W).map Y++Iu n J) i=Y w:=by simpa[J7,M.rd] using h
 have:=jl this;simp at this
|u::a,n,0,w,h=>by simpa[M.rd] using h
|u::a,n,i+1,w,h=>by
 have:M.rd (a.map Y++Iu n J) i=Y w:=by simpa[M.rd] using h
 simpa using jl this
theorem qP:∀{l:U M.W} {d:U V} {G:Fp},RepW K Z H l d G->∃c:Fps,(∀i a,c i a->G a)/\(∀i b a,c i a->c b a->i=b)/\∀i w,l[i]?=Y w->∃v,d[i]?=Y v/\Rep K Z H w.1 w.2 v (c i)
|[],d,G,_=>⟨λ_=>no,λ_ _ h=>h.elim,λ_ _ _ h=>h.elim,λi w h=>by simp at h⟩
| w::l,d,G,⟨x,r,m,y,e,s,t,hd,p,q⟩=>by
 obtain⟨c,f,n,o⟩:=qP q;subst e;refine⟨λi=>match i with | 0=>m|i+1=>c i,λi a h=>?_,λi b a g k=>?_,λi u h=>?_⟩
 .cases i with
  |zero=>exact s a h
  |succ i=>exact t a<|f i a h
 .cases i with
  |zero=>
   cases b with
   |zero=>rfl
   |succ b=>exact NP (f b a k)<|hd a g
  |succ i=>
   cases b with
   |zero=>exact NP (f i a g)<|hd a k
   |succ b=>exact N1 (·+1)<|n i b a g k
 .cases i with
  |zero=>simp only[K6,L0] at h;subst h;exact⟨x,rfl,p⟩
  |succ i=>simpa using o i u<|by simpa using h
def slN (n:O):O->B O:=λi=>if i<n then Y i else J
theorem eG {p:Cf}{t:L2.St}{g:Fps}{k:M.Env}{G:Fp}{d:U V}(A:At K p t Z H g k G):∀{c:U O} {bs:U M.W},c.Nodup->(∀i∈c,p.pv i=d[i]?/\i<d.length)->M.backs c k=Y bs->RepW K Z H bs (atV c d) (λa=>∃i∈c,g i a)
|[],bs,_,_,h=>by simp only[M.backs,L0] at h;subst h;rfl
| i::c,bs,o,n,h=>by
 simp only[M.backs] at h;cases e:M.rd k i with
 |none=>rw[e] at h;cases h
 | some w =>
  rw[e] at h;simp only[MK] at h;cases e2:M.backs c k with
  |none=>rw[e2] at h;cases h
  |some x=>
   rw[e2] at h;simp only[MK,L0] at h;subst h;obtain⟨v,r,_,hp⟩:=A.env i w.1 w.2 e;have l:=n i Ih;obtain⟨u,m⟩:∃u,d[i]?=Y u:=⟨d[i]'l.2,Kq l.2⟩;have:=hp u<|l.1.trans m;subst this;refine⟨v,atV c d,g i,λa=>∃b∈c,g b a,?_,λa h=>⟨i,Ih,h⟩,λa ⟨b,f,h⟩=>⟨b,Iz _ f,h⟩,λa h ⟨b,f,s⟩=>?_,r,eG A (Jt.mp o).2 (λb f=>n b<|Iz _ f) e2⟩
   .rw[atV,Kr,m];rfl
   .exact(Jt.mp o).1<|A.gd.dis i b a h s ▸ f
end
section
variable {P:NQ}{w:H8}{K:HX}{mg:Str->B L}{base:NX}
theorem tR {Z:Fp}{H:Hp}{s:U M.W}{f:U V}{G:Fp}{N:U Str}{n:O}{io:U O}(r:RepW K Z H s f G)(o:Own Z H G)(z:∀a,Z a->H a≠J)(F:f.length<=N.length):
  ∃g,(∀a,tot g a->G a)/\At K ⟨slN N.length,λi=>if i∈io then f[i]? else J⟩ (L2.start N f) Z H g (s.map Y++Iu n J) no:=by
 obtain⟨g,k,x,y⟩:=qP r;have p:∀i v,f[i]?=Y v->(L2.start N f)[i]?=Y (Y v):=λi v h=>by have A:=(Jc.mp h).1;rw[L2.start,K7<|by simpa using A,IW,h];rfl
 refine⟨g,λa ⟨i,h⟩=>k i a h,⟨⟨λa ⟨i,h⟩=>o a<|k i a h,x,z⟩,λi m t e=>?_,λa h=>h.elim,λa h=>h.elim,λi u b d c=>?_,λi b c=>?_⟩⟩
 .obtain ⟨v,l,D⟩:=y i (m,t) (jl e);refine⟨v,D,λb c=>?_,λu d=>?_⟩
  .simp only [slN] at c;split at c
   .cases c;exact p i v l
   .cases c
  .simp only at d;split at d
   .rw[l] at d;cases d;rfl
   .cases d
 .simp only at d;simp only[slN] at c;split at c
  .cases c;split at d
   .exact p i u d
   .cases d
  .cases c
 .simp only [slN] at c;split at c
  .cases c;rename_i h;rw[L2.start,IA,Ie,Ka];lia
  .cases c
theorem Fun.okM {x m:Str}{st:N4}{f:NM}{fd:Jg}{N ps:U Str}{k:O}{C:M.Call}{d:M.Fn}(F:L2.Fun K x m st f fd)(S:ao N ps<|defScope st)(hps:d.ps=ps.length)(hle:ps.length<=N.length)(nd:d.io.Nodup)(hio:∀i∈d.io,i<ps.length)
  (hbody:∀ (p:L) (A:Il) (l:U Env) (s:HW) (H:Hp) (E:XK),Room k (A.deeper (Jp m (defScope st) s.heap.objs.size f p)) ->
   SSs (iM CX0 P w K mg base N m (defScope st) f p A l s H E).nox (slN N.length) d.io C (defBody st) d.body) {g:O} {C':M.Call} (hC:∀ws,C' g ws=M.runF C d ws):ee P w K mg base CX0 (k+1) f fd ps (spS K C' g d.io):=by
 have len:∀D H Q E,spS K C' g d.io D H Q E->D.length=ps.length:=λD H Q E ⟨Z,ws,G,w,bs,r,_,_,hr,_⟩=>by
  rw[hC] at hr;unfold M.runF at hr;split at hr
  .rename_i h;rw[r.length,h,hps]
  .cases hr
 refine F.ok S len λp A l s H D Q E hr h=>⟨_,hbody p A l s H E hr,?_⟩;have y:=len D H Q E h;obtain⟨Z,ws,G,w,bs,r,o,z,c,q⟩:=h;rw[hC] at c;have hwl:ws.length=d.ps:=by rw[<- r.length,y,hps]
 rw[M.x_run _ _ _ hwl] at c;obtain⟨Fs,ft,A0⟩:=tR (n:=d.ns) (io:=d.io) r o z (N:=N) (by lia);refine⟨_,Z,Fs,_,⟨λi i' b h h'=>?_,λi h=>NW h⟩,A0,?_⟩
 .simp only [slN] at h h';split at h
  .split at h'
   .cases h;cases h';rfl
   .cases h'
  .cases h
 have hv:∀i∈d.io,(if i∈d.io then D[i]? else J)=D[i]?/\i<D.length:=λi hi=>⟨NR hi,y ▸ hio i hi⟩;cases e:M.evSs C d.body (ws.map Y++Iu d.ns J) with
 | nx η =>
  rw[e] at c;intro σ' Z' H' Fs' I t;simp only[M.Fl.out] at c;cases e2:M.backs d.io η with
  |none=>rw[e2] at c;cases c
  |some cs=>rw[e2] at c;cases c;refine q .non Z' H' no _ rfl (eG I nd hv e2) (λ_ h=>h.elim) (λa h=>h.elim (λz=>z.elim) λ⟨i,_,z⟩=>I.gd.own a ⟨i,z⟩) (t.mono ft λa h=>h.elim (λz=>z.elim) λ⟨i,_,z⟩=>⟨i,z⟩)
 | rt u η =>
  rw[e] at c;intro v σ' Z' H' Fs' G' I rp t;simp only[M.Fl.out] at c;cases e2:M.backs d.io η with
  |none=>rw[e2] at c;cases c
  |some cs=>rw[e2] at c;cases c;exact q v Z' H' G' _ rp (eG I nd hv e2) (λa h ⟨i,_,z⟩=>I.dis a h ⟨i,z⟩) (λa h=>h.elim (I.own a) λ⟨i,_,z⟩=>I.gd.own a ⟨i,z⟩)<|t.mono ft λa h=>h.elim .inr λ⟨i,_,z⟩=>.inl ⟨i,z⟩
 |bk η=>rw[e] at c;cases c
 |ex t η=>rw[e] at c;cases c
 |no=>rw[e] at c;cases c
end
end MR

namespace MR
open PySem PySem.Spec PyProof.Rows L2 L3
def TopV (K:HX)(H:Hp):Th->V->Prop
|.tup _,x=>∃a c,x=.ref a/\SqT K H a c
|.lst _,x=>∃a c,x=.ref a/\SqL K H a c
|.non,x=>x=.non
|.bl b,x=>x=.bl b
|.int i,x=>x=.int i
|.str z,x=>x=.str z
theorem qf {X:Cx}{c:NU}(F:c∈["tuple","str","bool","int","list"]):dI X (.builtin "isinstance") (λD H Q=>∃x t,D=[x,.ty c]/\TopV X.K H t x/\Q (.bl<|isI c t) H):=by
 intro k s N H D P Q I r h;obtain⟨x,t,rfl,f,q⟩:=h;obtain⟨u,Z,rfl,g,y⟩:=pP r;cases y;have e:JX X.K (.type t.ty) (.type c)=Y (isI c t):=kit_type.trans<|lu F t;have d:∀A,EP X k N Q (.bool (isI c t)) {s with toks:=A}:=λA=>⟨.bl<|isI c t,H,I.tok A,rfl,q⟩;cases t with
 |non=>obtain rfl:x=.non:=f;exact cU I g .non e d
 |bl b=>obtain rfl:x=.bl b:=f;exact cU I g (.bl b) e d
 |int i=>obtain rfl:x=.int i:=f;exact cU I g (.int i) e d
 |str z=>obtain rfl:x=.str z:=f;exact cU I g (.str z) e d
 |tup G=>obtain⟨a,M,rfl,v⟩:=f;cases g;obtain⟨w,_,p,_⟩:=I.tuple v;obtain⟨o,l,m,_⟩:=p;exact Jm Mx I.kIn ⟨o,l,m⟩ e (λz=>nomatch z) d
 |lst G=>obtain⟨a,M,rfl,v⟩:=f;cases g;obtain⟨w,_,p,_⟩:=I.list v;obtain⟨o,n,l,m,_⟩:=p;exact Jm LC I.kIn ⟨o,l,m⟩ e (λz=>nomatch z) d
theorem vC {X:Cx}{c1 d:NU}(h1:c1∈["tuple","str","bool","int","list"])(h2:d∈["tuple","str","bool","int","list"]):
  dI X (.builtin "isinstance") (λN H Q=>∃x t p,N=[x,.ref p]/\SqT X.K H p [.ty c1,.ty d]/\TopV X.K H t x/\Q (.bl (isI c1 t || isI d t)) H):=by
 intro m s σ H N us Q I r h;obtain⟨x,t,p,rfl,hp,g,q⟩:=h;obtain⟨u,w',rfl,k,G⟩:=pP r;cases G;obtain⟨l,rv,pt,_⟩:=I.tuple hp;obtain⟨y1,y2,rfl,r1,r2⟩:=pP rv;cases r1;cases r2;obtain⟨⟨oc,od,A,osl⟩,f,P,n,Z⟩:=pt;have v:oc=.type "tuple":=P;have w:A=.seq _ n:=Z;subst v w;have e1:JX X.K (.type t.ty) (.type c1)=Y (isI c1 t):=kit_type.trans<|lu h1 t;have e2:JX X.K (.type t.ty) (.type d)=Y (isI d t):=kit_type.trans<|lu h2 t
 have e:Ma X.K (.type t.ty) [.type c1,.type d]=Y (isI c1 t || isI d t):=by
  unfold Ma;rw[e1];cases isI c1 t with
  |true=>rfl
  |false=>unfold Ma;rw[e2];cases isI d t<;>rfl
 have c:∀M,EP X m σ Q (.bool (isI c1 t || isI d t)) {s with toks:=M}:=λM=>⟨.bl _,H,I.tok M,rfl,q⟩;cases t with
 |non=>obtain rfl:x=.non:=g;cases k;exact Kz NC I.kIn IZ f e (λz=>nomatch z) c
 |bl b=>obtain rfl:x=.bl b:=g;cases k;exact Kz NB I.kIn IZ f e (λz=>nomatch z) c
 |int i=>obtain rfl:x=.int i:=g;obtain⟨t,rfl⟩:=k;exact Kz MQ I.kIn IZ f e (λz=>nomatch z) c
 |str z=>obtain rfl:x=.str z:=g;obtain⟨t,rfl⟩:=k;exact Kz MP I.kIn IZ f e (λz=>nomatch z) c
 |tup ts=>obtain⟨a,vs,rfl,y⟩:=g;cases k;obtain⟨l,_,⟨o,D,F,_⟩,_⟩:=I.tuple y;exact Kz Mx I.kIn ⟨o,D,F⟩ f e (λz=>nomatch z) c
 |lst ts=>obtain⟨a,vs,rfl,y⟩:=g;cases k;obtain⟨l,_,⟨o,n,D,F,_⟩,_⟩:=I.list y;exact Kz LC I.kIn ⟨o,D,F⟩ f e (λz=>nomatch z) c
noncomputable def thT:M.T->Th
|.non=>.non | .bl b=>.bl b | .int i=>.int i | .str x=>.str x | .tup _=>.tup [] | .lst _=>.lst [] | .scr _=>.lst [] | .dct _ _=>.non | .ins _ _ _=>.non | .dtt _ _=>.non | .gone=>.non
theorem mY {K:HX}{Z:Fp}{H:Hp}{t:M.T}{m:M.Md}{x:V}{G:Fp}(a:t.isH=HU)(r:Rep K Z H m t x G):TopV K H (thT t) x/\(thT t).ty=t.ty:=by
 cases t with
 |non=>exact⟨r,rfl⟩
 |bl _=>exact⟨r,rfl⟩
 |int _=>exact⟨r,rfl⟩
 |str _=>exact⟨r.1,rfl⟩
 |tup _=>obtain⟨p,b,e,q,_⟩:=r;exact⟨⟨p,b,e,q⟩,rfl⟩
 |lst _=>obtain⟨p,b,e,_,q,_⟩:=r;exact⟨⟨p,b,e,.inl<|.inl<|by cases m<;>exact q.2⟩,rfl⟩
 |scr _=>obtain⟨p,e,_,q⟩:=r;exact⟨⟨p,_,e,q.sq⟩,rfl⟩
 |dct _ _=>cases a
 |ins _ _ _=>cases a
 |dtt _ _=>cases a
 |gone=>cases a
theorem iT {t:Th}{u:M.T}{c:NU}(h:t.ty=u.ty):isI c t=M.isOne c u:=by unfold isI M.isOne;rw[h]
section
variable {X:Cx}{sf sg:O->B O}{C:M.Call}{pos p2 p3:Pos}{ea eb ec:NV}{a b c:M.E}{h:NN}{n:O}{io:U O}
theorem lV {Z:Fp}{H d:Hp}{G:Fp}(same:∀a o,H a=Y o->d a=Y o):Step Z H G Z d G:=by
 have f:∀a,H a≠J->d a≠none:=λa h=>by
  cases e:H a with
  |none=>exact NP e h
  |some o=>rw[same a o e];simp
 exact⟨λa o h _=>same a o h,λ_ h=>h,λ_ h=>.inl h,λ_ h=>.inl h,f,λz a h=>f a<|z a h⟩
theorem rL {K:HX}{Z:Fp}{H d:Hp}{G:Fp}{w:M.W}{Q:VK}(same:∀a o,H a=Y o->d a=Y o)(k:Out K Z H G w Q):Out K Z d G w Q:=λv g f e r o t=>k v g f e r o<|(lV same).trans t
theorem fu {H:Hp}{p:NM}{o:HO}(hp:H p=J):∀a u,H a=Y u->upd H p o a=Y u:=λa u e=>by
 have:a≠p:=λq=>by subst q;rw[hp] at e;cases e
 rw[af this];exact e
theorem TopV.same {K:HX}{H g:Hp}{t:Th}{x:V}(d:∀a o,H a=Y o->g a=Y o)(h:TopV K H t x):TopV K g t x:=by
 cases t with
 |tup _=>
  obtain⟨a,f,e,q⟩:=h;refine⟨a,f,e,?_⟩;rcases q with(z|⟨o,z⟩)|z
  .exact .inl (.inl<|d _ _ z)
  .exact .inl (.inr ⟨o,d _ _ z⟩)
  .exact .inr z
 |lst _=>
  obtain⟨a,f,e,q⟩:=h;refine⟨a,f,e,?_⟩;rcases q with(z|⟨o,z⟩)|z
  .exact .inl (.inl<|d _ _ z)
  .exact .inl (.inr ⟨o,d _ _ z⟩)
  .exact .inr z
 |_=>exact h
theorem gP {c:NU}{k:Str}(F:c∈["tuple","str","bool","int","list"])(hv:Jz k=Y (.type c))(N:X.mg "isinstance"=J)(g:X.mg k=J)(D:SE X sf C ea a)(I:Gl X "isinstance":=by rfl)(f:Gl X k:=by rfl)(P:k≠"__name__":=by decide)(hd:(k==("__debug__":Str))=false:=by decide)
  (t:H9 [ea,.Name k p2] X.env=(HU,N3 ea X.env)::H9 [.Name k p2] X.env:=by rfl) (l:H9 [.Name k p2] X.env=(HU,N3 (.Name k p2) X.env)::H9 [] X.env:=by rfl) (i:(Iy pos<|H9 [.Name k p2] X.env).any (·.1)=false:=by rfl):
  SE X sf C (.Call (.Name "isinstance" p3) [ea,.Name k p2] [] pos) (.op (.isI [c]) h [a]):=
 av (dF (qf F) I N NG (aW D (aW (pZ f g hv P hd) b5 l) t) (by decide) (by decide) t i) λσ H Q hw=>by obtain⟨pv,Z,v,η,w,p,A,ev,k⟩:=hw;obtain⟨ws,z,e⟩:=bS ev;obtain⟨⟨m,u⟩,η1,us,e1,e2,rfl⟩:=aq z;cases e2;obtain⟨o,e⟩:=ifN<|show(if u.isH=HV then J else Y _)=_ from e;cases e;refine⟨pv,Z,v,η,(m,u),p,A,e1,λx Z' H' y G d r s=>?_⟩;obtain⟨t1,t2⟩:=mY o r;refine⟨x,thT u,rfl,t1,?_⟩;have:=br<|bb d s k;rw[iT t2];rw[show([c].any λc=>M.isOne c u)=M.isOne c u by simp] at this;exact this
theorem E2 {c1 i:NU}{f e:Str}{g pt:Pos}{l:O}(y:c1∈["tuple","str","bool","int","list"])(hv1:Jz f=Y (.type c1))(z:i∈["tuple","str","bool","int","list"])(hv2:Jz e=Y (.type i))(hm:X.mg "isinstance"=J)(P:X.mg f=J)(hm2:X.mg e=J)(ha:SE X sf C ea a)
  (hg:Gl X "isinstance":=by rfl) (I:Gl X f:=by rfl) (N:Gl X e:=by rfl) (hn1:f≠"__name__":=by decide) (D:(f==("__debug__":Str))=false:=by decide) (hn2:e≠"__name__":=by decide) (F:(e==("__debug__":Str))=false:=by decide)
  (hs:H9 [ea,.Tuple [.Name f p2,.Name e g] l pt] X.env=(HU,N3 ea X.env)::H9 [.Tuple [.Name f p2,.Name e g] l pt] X.env:=by rfl) (hs2:H9 [.Tuple [.Name f p2,.Name e g] l pt] X.env=(HU,N3 (.Tuple [.Name f p2,.Name e g] l pt) X.env)::H9 [] X.env:=by rfl)
  (hs3:H9 [.Name f p2,.Name e g] X.env=(HU,N3 (.Name f p2) X.env)::H9 [.Name e g] X.env:=by rfl) (hs4:H9 [.Name e g] X.env=(HU,N3 (.Name e g) X.env)::H9 [] X.env:=by rfl) (hpl:(Iy pos<|H9 [.Tuple [.Name f p2,.Name e g] l pt] X.env).any (·.1)=false:=by rfl):
  SE X sf C (.Call (.Name "isinstance" p3) [ea,.Tuple [.Name f p2,.Name e g] l pt] [] pos) (.op (.isI [c1,i]) h [a]):=
 av (dF (vC y z) hg hm NG (aW ha (aW (lx<|aW (pZ I P hv1 hn1 D) (aW (pZ N hm2 hv2 hn2 F) b5 hs4) hs3) b5 hs2) hs) (by decide) (by decide) hs hpl) λσ H Q hw=>by obtain⟨pv,Z,Fs,η,w,η',A,ev,k⟩:=hw;obtain⟨ws,h1,v⟩:=bS ev;obtain⟨⟨m,u⟩,η1,us,e1,e2,rfl⟩:=aq h1;cases e2;obtain⟨hug,v⟩:=ifN<|show(if u.isH=HV then J else Y _)=_ from v;cases v;refine⟨pv,Z,Fs,η,(m,u),η',A,e1,λx Z' H' t G d r s=>?_⟩;refine⟨(by show 2<=sizeLine;decide),λp hp=>?_⟩;have st:=lV (Z:=Z') (G:=λa=>tot t a\/G a)<|fu (o:=.tup [.ty c1,.ty i]) hp;obtain⟨t0,t2⟩:=mY hug r;have t1:=t0.same<|fu (o:=.tup [.ty c1,.ty i]) hp;refine⟨x,thT u,p,rfl,.inl<|.inl ag,t1,?_⟩;have:=br<|rL (fu (o:=.tup [.ty c1,.ty i]) hp)<|bb d s k;rw[iT t2,iT t2];rw[show([c1,i].any λc=>M.isOne c u)=(M.isOne c1 u || M.isOne i u) by simp] at this;exact this
theorem Fm (d:O){i:O}{x:Str}{g e s r:Pos}{p:O}(w:sf i=Y d:=by rfl)(u:X.N[d]?=Y x:=by rfl)(z:Vis X.env.scope x:=by first|exact Ir rfl|exact Ig (Ir rfl)|exact Ig<|Ig rfl)(hd:(x==("__debug__":Str))=false:=by decide)(t:(x==("__classdict__":Str))=false:=by decide)
  (k:JN (.Name x s) "pop" X.env (N3 (.Name x s) X.env)=N3 (.Name x s) X.env:=by rfl)
  (m:((Iy e<|H9 [.Constant (.int 0) p r] X.env).all (λx=>!x.1)&&(JK e<|JM [] X.env).all (λx=>x.1.isSome)&&decide ([Expr.Constant (.int 0) p r].length+([]:U IP).length+(if([]:U IP).isEmpty then 0 else 1)<30))=true:=by rfl)
  (l:(g.endLine==e.line)=true:=by rfl) (o:H9 [.Constant (.int 0) p r] X.env=(HU,N3 (.Constant (.int 0) p r) X.env)::H9 [] X.env:=by rfl) (f:(Iy e<|H9 [] X.env).any (·.1)=false:=by rfl):
  SE X sf C (.Call (.Attribute (.Name x s) "pop" g) [.Constant (.int 0) p r] [] e) (.pop i [.cst<|.int 0]):=
 av (gX Lw PySem.F.slot_list_pop PySem.F.type_list_pop rA (bE u z hd t) (aW gm b5 o) k m l o f) λD H Q A=>by obtain⟨a,G,y,v,hp,q⟩:=wu w rfl D H Q A;exact⟨.ref a,v,.inl ⟨rfl,_,.inl<|.inl hp⟩,a,_,0,0,y,rfl,rfl,hp,by decide,by decide,by simp[seqIndex?],rfl,q⟩
theorem C6 {e:U NV}{g:O}{pt p:Pos}(hm:X.mg "enumerate"=J)(f:Gl X "enumerate":=by rfl)(ha:SE X sf C ea a)(d:H9 [ea] X.env=[(HU,N3 ea X.env)]:=by rfl):PI X (.Tuple e g pt) (.Call (.Name "enumerate" p) [ea] [] pos) (wI X.K sf C 2 .enm [a]):=fV (uv f hm (slc ha sl0 d) d) Cv
end
end MR

namespace MR
open PySem PySem.Spec PyProof.Rows L2 L3
structure Txt (mg:Str->B L):Prop where
 isin:mg "isinstance"=J
 int:mg "int"=J
 tup:mg "tuple"=J
 list:mg "list"=J
 bool:mg "bool"=J
 sum:mg "sum"=J
 len:mg "len"=J
 all:mg "all"=J
 zip:mg "zip"=J
 range:mg "range"=J
 enum:mg "enumerate"=J
 any:mg "any"=J
 max:mg "max"=J
 min:mg "min"=J
 sorted:mg "sorted"=J
 str:mg "str"=J
 repr:mg "repr"=J
 abs:mg "abs"=J
 dict:mg "dict"=J
 set:mg "set"=J
 rev:mg "reversed"=J
theorem frc {X:Cx}{a:N9}{b:U<|Str×NM}{y:Str}{e:U Str}{i:O}{d:U O}{c:NM}(r:Frees X a b e d)(f:X.N[i]?=Y y:=by rfl)(g:Vis X.env.scope y:=by first|exact Ir rfl|exact Ig (Ir rfl)|exact Ig<|Ig rfl)(h:X.env.kindOf y=Y .cell\/X.env.kindOf y=Y .free:=by first|exact Ir rfl|exact Ig rfl)
  (k:X.env.cells.lookup y=Y c:=by rfl) (l:b.lookup y=Y c:=by rfl) (m:(Kb a X.env).names.lookup y=Y .cell\/(Kb a X.env).names.lookup y=Y .free:=by first|exact Ir rfl|exact Ig rfl):Frees X a b (y::e) (i::d):=.cons f g h k l m r
theorem zj {X:Cx}{y:Str}{c:NM}{a:U<|Str×NM}(r:Clo X a)(h:X.env.cells.lookup y=Y c:=by rfl):Clo X ((y,c)::a):=.cons h r
section
variable {X:Cx}{sf sg:O->B O}{C:M.Call}{pos p2 p3:Pos}{ea eb ec:NV}{a b c:M.E}{h:NN}{n:O}{io:U O}
section
variable {elt iter cnd:NV}{x y:Str}{px py pt:Pos}{kt:O}{scope:N9}{tg:U O}{k:M.Ik}{src:U M.E}{e cd:M.E}
theorem zC1 (d:O)(Q:U O)(P:U O)(l:U<|Str×NM)(I:U Str){z:Str}{Z f:Pos}{xx:M.X}{i t:O}(hi:PI X (.Name x px) iter<|wI X.K sf C 1 k src)(he:∀m s H o,SE (aB X ([x]++I) scope l m s H o) (inF [t] Q) C elt e)
  (S:aC [x] I scope) (r:Clo X l) (fr:Frees X scope l I P) (hN:X.N.Nodup) (A:i ∉ io:=by decide) (F:sf i=Y d:=by rfl) (hj:X.N[d]?=Y z:=by rfl) (hz:L2.Loc X.env.scope z:=by first|exact Ir rfl|exact Ig rfl)
  (G:Jf (.ListComp elt [⟨(.Name x px),iter,[],0⟩] scope pos) (Y<|.Name z Z) f.line X.env=pure true:=by rfl) (hc:X.calm=true:=by rfl) (hl:Q.map sf=P.map some:=by rfl)
  (g:JL scope X.env=pure l:=by with_unfolding_all rfl) (w:(scope.names.all λp=>p.2 != .free || (l.lookup p.1).isSome)=true:=by rfl)
  (hs:∀v,Ji iter X.env v=pure v:=by intro _;rfl) (u:X.fn z=HV\/X.env.scope.names.lookup z=Y .local:=by first|exact .inl rfl|exact .inr rfl):SS X sf io C (.Assign [.Name z Z] (.ListComp elt [⟨(.Name x px),iter,[],0⟩] scope pos) f) (.asg xx i<|.comp h k src [t] J e):=
 bP (iw (pre:=[x]) hN hj hz G hc hi (Eg S) (λm s H o=>he m s H o) g S r w fr hs u) λD σ H hw=>dU rfl (by simp) (dD hl) σ H _ (lH A F D σ H hw)
theorem zC2 (d:O)(ls:U O)(Z:U O)(l:U<|Str×NM)(P:U Str){z:Str}{pz f:Pos}{xx:M.X}{i t I:O}(hi:PI X (.Tuple [.Name x px,.Name y py] kt pt) iter<|wI X.K sf C 2 k src)(he:∀m s H o,SE (aB X ([x,y]++P) scope l m s H o) (inF [t,I] ls) C elt e)
  (S:aC [x,y] P scope) (r:Clo X l) (fr:Frees X scope l P Z) (hN:X.N.Nodup) (A:i ∉ io:=by decide) (F:sf i=Y d:=by rfl) (hj:X.N[d]?=Y z:=by rfl) (hz:L2.Loc X.env.scope z:=by first|exact Ir rfl|exact Ig rfl)
  (G:Jf (.ListComp elt [⟨(.Tuple [.Name x px,.Name y py] kt pt),iter,[],0⟩] scope pos) (Y<|.Name z pz) f.line X.env=pure true:=by rfl) (Q:X.calm=true:=by rfl) (hl:ls.map sf=Z.map some:=by rfl) (nd:[t,I].Nodup:=by decide)
  (g:JL scope X.env=pure l:=by with_unfolding_all rfl) (w:(scope.names.all λp=>p.2 != .free || (l.lookup p.1).isSome)=true:=by rfl)
  (hs:∀v,Ji iter X.env v=pure v:=by intro _;rfl) (u:X.fn z=HV\/X.env.scope.names.lookup z=Y .local:=by first|exact .inl rfl|exact .inr rfl):SS X sf io C (.Assign [.Name z pz] (.ListComp elt [⟨(.Tuple [.Name x px,.Name y py] kt pt),iter,[],0⟩] scope pos) f) (.asg xx i<|.comp h k src [t,I] J e):=
 bP (iw (pre:=[x,y]) hN hj hz G Q hi (Dc Q S) (λm s H o=>he m s H o) g S r w fr hs u) λD σ H hw=>dU rfl nd (dD hl) σ H _ (lH A F D σ H hw)
end
end
end MR

namespace MR
open PySem PySem.Spec PyProof.Rows L2 L3
section
variable {P:NQ}{w:H8}{K:HX}{mg:Str->B L}{base:NX}
theorem jF {C:M.Call}{g:O}{c:U O}{d:U V}{H:Hp}{Q:VK}{E:XK}(b:∀a,C g a=.no)(h:spS K C g c d H Q E):N2:=by obtain⟨Z,a,G,w,bs,_,_,_,e,_⟩:=h;rw[b] at e;cases e
theorem fn0 {f:NM}{b:Jg}{ps:U Str}{k g:O}{c:U O}{C:M.Call}(a:∀d,C g d=.no):ee P w K mg base CX0 k f b ps (spS K C g c):=
 ⟨λ_ _ _ _ h=>(jF a h).elim,λ_ _ _ _ _ _ _ _ _ _ _ _ _ h=>(jF a h).elim⟩
theorem kL {Z:Fp}{H:Hp}{a:NM}{b:U j}(c:sP H)(e:b.length<=63)(h:SqL K H a<|b.map V.int):Rep K Z H .d (.scr b) (.ref a) no:=by
 refine⟨a,rfl,Ij e<|by decide,?_⟩;rcases h with(z|⟨o,z⟩)|z
 .rcases c a with y|⟨o,xs,y⟩<;>rw[y] at z<;>cases z
 .exact .inl ⟨o,z⟩
 .exact .inr (.inr z)
theorem Af {H:Hp}{a:NM}{b:U j}{C:M.Call}{c:O}(hp:∃m bs,C c [(.d,.scr b)]=.ok ((m,.bl HV),bs))(g:b.length<=63)(f:sP H)(h:SqL K H a<|b.map V.int):spS K C c [] [.ref a] H (λv _=>v=.bl HV) λ_ _ _=>N2:=by obtain⟨m,bs,e⟩:=hp;exact⟨no,[(.d,.scr b)],no,(m,.bl HV),bs,RepW.one<|kL f g h,bj,λ_ z=>z.elim,e,λv n l i k r _ _ _ _=>r⟩
end
end MR

namespace MR
open PySem PySem.Spec PyProof.Rows L2 L3
structure SBs (as:U NM)(H H':Hp):Prop where
 keep:∀b u,b ∉ as->H b=Y u->H' b=Y u
 al:∀b,H b≠J->H' b≠J
instance {as:U NM} {H H':Hp}:CoeFun (SBs as H H') (λ_=>∀b u,b ∉ as->H b=Y u->H' b=Y u):=⟨λs=>s.keep⟩
end MR

namespace MR
open PySem PySem.Spec PyProof.Rows L2 L3
section
variable {X:Cx}{sf sg:O->B O}{io:U O}{C:M.Call}{pos p2:Pos}{ea eb ec:NV}{a b c:M.E}{h:NN}{n:O}
theorem nE {K:HX}:Loc K 1 .tuple h λt H Q=>∃p d,t=[.ref p]/\((SqL K H p d/\∀l,H l=J->Q (.ref l) (upd H l<|.tup d))\/(SqT K H p d/\Q (.ref p) H)):=by
 intro s w t Z H G Q u e r o y k;obtain⟨⟨m,a⟩,rfl⟩:∃a,s=[a]:=by match s,u with|[a],_=>exact⟨a,rfl⟩
 obtain⟨x,rfl,r1⟩:=bh rfl r;cases a with
 |lst v=>obtain⟨p,d,rfl,g,i,q⟩:=bg r1;cases e;exact⟨p,d,rfl,.inl ⟨SqL.of g,λl f=>mV (m:=m.kid.up) (G':=G) o (λ_ z=>z) i (by rw[df];exact q.zmono λ_ z=>.inl z) k f⟩⟩
 |tup v=>obtain⟨p,d,rfl,g,i,q⟩:=bT r1;cases e;exact⟨p,d,rfl,.inr ⟨g,bM o k r1⟩⟩
 |_=>cases e
theorem lz {p:Pos}(hm:X.mg "tuple"=J)(f:Gl X "tuple":=by rfl)(ha:SE X sf C ea a)(e:H9 [ea] X.env=(HU,N3 ea X.env)::H9 [] X.env:=by rfl)(d:(Iy pos<|H9 [] X.env).any (·.1)=false:=by rfl):SE X sf C (.Call (.Name "tuple" p) [ea] [] pos) (.op .tuple h [a]):=
 av (eJ gJ f hm Lv (slc ha sl0 e) (by decide) (by decide) e d) (jx nE rfl)
theorem mP {e:N4}:SS X sf io C e .stop:=λd s l H D I q=>by obtain⟨i,Z,g,k,N,A,f⟩:=q;exact(show N2 from f).elim
end
end MR



namespace MR
open PySem PySem.Spec PyProof.Rows L2 L3
section
variable {X:Cx}{sf sg:O->B O}{C:M.Call}{pos p2 p3:Pos}{ea eb ec:NV}{a b c:M.E}{h:NN}{n:O}{io:U O}
theorem sGc {x:Str}{i:j}(d:∃t,X.mg x=Y (.int i t))(e:Gl X x:=by rfl)(hd:(x==("__debug__":Str))=false:=by decide):SE X sf C (.Name x pos) (.cst<|.int i):=by obtain⟨t,d⟩:=d;exact av (lU (v:=.int i) e d ⟨t,rfl⟩ hd)<|fH rfl
def yC (K:HX)(H:Hp):U O->V->V->Prop
|[],v,u=>u=v
|d::p,v,u=>∃a e x,v=.ref a/\(SqL K H a e\/SqT K H a e)/\e[d]?=Y x/\yC K H p x u
def wP (K:HX)(sf:O->B O)(i:O)(p:U O):TE:=λe H Q=>∃d v u,sf i=Y d/\e[d]?=Y (Y v)/\yC K H p v u/\Q u H
abbrev SP (X:Cx)(sf:O->B O)(d:NV)(i:O)(p:U O):Prop:=PE X d<|wP X.K sf i p
noncomputable def Dy (d:Fps)(i:O)(G:Fp):Fps:=λl a=>(l=i/\G a)\/(l≠i/\d l a)
def CstR (K:HX)(t:M.T)(v:V):Prop:=∀(Z:Fp) (H:Hp),Rep K Z H .s t v no
theorem cst_int {K:HX}(i:j):CstR K (.int i) (.int i):=λ_ _=>rfl
theorem cst_non {K:HX}:CstR K .non .non:=λ_ _=>rfl
theorem cst_bl {K:HX}(b:NN):CstR K (.bl b) (.bl b):=λ_ _=>rfl
theorem cst_str {K:HX}{x:Str}(h:M.sOk x=HV):CstR K (.str x) (.str x):=λ_ _=>⟨rfl,h⟩
def jr (K:HX)(w:H8)(d:Str->B L)(x:Str)(tab:U<|Str×M.T):Prop:=
 ∃a T,d x=Y (.ref a)/\DTab K w a T/\∀z,match tab.lookup z with
  |some t=>∃v,T.lookup z=Y v/\CstR K t v
  |none=>T.lookup z=J
theorem zL {K:HX}{w:H8}{ad:NM}{T:U<|Str×V}{tab:U<|Str×M.T}{e:M.E}(D:DTab K w ad T)(ht:∀z,match tab.lookup z with
  |some t=>∃v,T.lookup z=Y v/\CstR K t v
  |none=>T.lookup z=J) (p:L2.St) (H:Hp) (Q:VK) (h:wE K sf C (.ixT tab e) p H Q):tOp (λx y H Q=>∃a z T v,x=.ref a/\y=.str z/\DTab K w a T/\T.lookup z=Y v/\Q v H) (tC<|.ref ad) (wE K sf C e) p H Q:=by
 obtain⟨pv,Z,F,o,w',η',A,ev,k⟩:=h;obtain⟨⟨u,g⟩,I,N⟩:=aa<|show(M.evE C e o).bind (M.kTab tab M.okS)=_ from ev;obtain⟨z,t,e1,e2,P⟩:=kj N;cases P;refine⟨pv,Z,F,o,u,g,A,I,λy l i f G d r s=>?_⟩;obtain⟨m,t0⟩:=u;cases(show t0=_ from e1);have q:=ht z;rw[e2] at q;obtain⟨v,q1,q2⟩:=q;exact⟨ad,z,T,v,rfl,r.1,D,q1,k v l i f no d.bare (q2 l i)<|s.mono (λ_ z=>z) λa ha=>ha.elim .inl λz=>z.elim⟩
theorem AV {x:Str}{tab:U<|Str×M.T}(T:jr X.K X.w X.mg x tab)(d:SE X sf C ea a)(e:Gl X x:=by rfl)(hd:(x==("__debug__":Str))=false:=by decide)(g:ff ea:=by intro _ _;rfl):SE X sf C (.Subscript (.Name x p2) ea pos) (.ixT tab a):=by obtain⟨ad,k,f,D,i⟩:=T;exact av (mL zp (gq e f hd) d g)<|zL D i
def oR (K:HX)(w:H8)(e:Str->B L)(x:Str)(d:U Str):Prop:=∃a T,e x=Y (.ref a)/\DTab K w a T/\∀z,(T.lookup z).isSome=d.contains z
theorem pU {K:HX}{w:H8}{ad:NM}{T:U<|Str×V}{i:U Str}{e:M.E}{f:NN}(D:DTab K w ad T)(ht:∀z,(T.lookup z).isSome=i.contains z)(p:L2.St)(H:Hp)(Q:VK)(h:wE K sf C (.inT f i e) p H Q):
  wE K sf C e p H λx F=>∃z a l,x=.str z/\V.ref ad=.ref a/\DTab K w a l/\Q (.bl<|(l.lookup z).isSome != f) F:=by
 obtain⟨pv,Z,t,o,w',η',A,ev,k⟩:=h;obtain⟨⟨u,η1⟩,N,P⟩:=aa<|show(M.evE C e o).bind (M.kIn f i)=_ from ev;obtain⟨z,e1,e2,e3⟩:=i6 P;cases e2;refine⟨pv,Z,t,o,u,_,A,N,λy I v g G d r s=>?_⟩;obtain⟨m,t0⟩:=u;cases(show t0=_ from e1);refine⟨z,ad,T,r.1,rfl,D,?_⟩;rw[ht z];refine k _ I v g no d.bare ?_<|s.mono (λ_ z=>z) λa ha=>ha.elim .inl λz=>z.elim;rw[show w'=_ from e3];rfl
end
end MR

namespace MR
open PySem PySem.Spec PyProof.Rows L2 L3
section
variable {X:Cx}{sf:O->B O}{C:M.Call}{me:NV}{f:O}{bs:U M.E}
theorem tG (h:∀b,C f b=.no):SE X sf C me (.call f bs):=λd s n H Q I ⟨m,Z,i,e,w,g,A,ev,k⟩=>by obtain⟨⟨b,a⟩,l,c⟩:=aa<|show(M.evA C bs e).bind (M.kCall C f<|M.ios bs)=_ from ev;rw[show M.kCall C f (M.ios bs) (b,a)=(C f b).bind (M.kBack (M.ios bs) a) from rfl,h] at c;cases c
end
theorem fsc {N P:U Str}{a:N9}(b:a.kind=.function:=by rfl)(c:a.isCoroutine=false:=by rfl)(d:a.isGenerator=false:=by rfl)(e:N.Nodup:=by decide +kernel)(f:N.take P.length=P:=by rfl)(g:∀x∈P,a.names.lookup x=Y .local\/a.names.lookup x=Y .cell:=by decide +kernel)(h:∀y∈a.names,y.2≠.free:=by decide +kernel):ao N P a:=⟨b,c,d,e,f,g,h⟩
theorem csc {pre b:U Str}{a:N9}(c:a.kind=.function:=by rfl)(d:∀y∈a.names,y.2≠.cell:=by decide +kernel)(e:∀y∈a.names,y.2=.local->a.names.lookup y.1=Y .local:=by decide +kernel)(f:∀x∈pre,a.names.lookup x=Y .local:=by decide +kernel)(g:(pre++b).Nodup:=by decide +kernel):aC pre b a:=⟨c,d,e,f,g⟩
section
variable {P:NQ}{w:H8}{K:HX}{mg:Str->B L}{base:NX}{x:Str}{st:N4}{ps N:U Str}{n g:O}{io:U O}{C C':M.Call}{d:L}{t:M.T}
structure Df (K:HX)(mg:Str->B L)(x:Str)(st:N4)(ps:U Str):Prop where
 ex:∃f fd,Fun K x x st f fd/\Binds K fd ps []/\mg x=Y (.ref f)
theorem Df.ok (e:Df K mg x st ps)(h:∀f a,Fun K x x st f a->ee P w K mg base CX0 n f a ps (spS K C g io)):ae P w K mg base n C x g io:=by obtain⟨f,a,F,b,m⟩:=e.ex;exact⟨f,a,ps,h f a F,m,F.kp,b⟩
theorem Df.z (e:Df K mg x st ps)(a:∀b,C g b=.no:=by intro _;rfl):ae P w K mg base n C x g io:=e.ok λ_ _ _=>fn0 a
theorem Df.s (a:M.Fn)(e:Df K mg x st ps)(S:ao N ps<|defScope st)
  (r:∀{f:NM} {c:L} {A:Il} {b:U Env} {s:HW} {H:Hp} {E:XK},Room n (A.deeper<|Jp x (defScope st) s.heap.objs.size f c)->SSs (iM CX0 P w K mg base N x (defScope st) f c A b s H E).nox (slN N.length) a.io C (defBody st) a.body)
  (p:∀o,C' g o=M.runF C a o:=by intro _;rfl) (m:a.ps=ps.length:=by rfl) (l:ps.length<=N.length:=by decide) (u:a.io.Nodup:=by decide) (k:∀i∈a.io,i<ps.length:=by decide):ae P w K mg base (n+1) C' x g a.io:=
 e.ok λ_ _ F=>Fun.okM F S m l u k (λ_ _ _ _ _ _ h=>r h) p
def Raw (K:HX)(x:Str)(st:N4)(dV:L):Prop:=∃f e h k kV c i an a b,K3 K Im x=Y (Y<|.ref f)/\K.lookup f=Y ⟨e,h,.func<|JT x x (defArgs st) (defBody st) (defScope st) dV kV c i an a b,k⟩/\Ln K a x=HV/\KI K (.ref f)=HV
theorem a8 {h:NX}(X:K.In h)(G:h.Ns Im mg)(r:Raw K x st .none)(p:∀(kV b i:L) (an:B NM) (a e:L) (c:U L),c.length=ps.length->bindArgs (JT x x (defArgs st) (defBody st) (defScope st) .none kV b i an a e) ⟨c,[]⟩=pure (ps.zip c)):Df K mg x st ps:=by obtain⟨f,v,y,z,kV,u,i,an,s,e,k,l,m,o⟩:=r;have F:=tU (st:=st) l m o;exact⟨f,_,F,F.binds p,Lm X G k⟩
def Bp (K:HX):U Str->Prop
|[]=>OA
|x::r=>K3 K Im x=Y J/\Bp K r
theorem zg {h:NX}(X:K.In h)(G:h.Ns Im mg)(r:Bp K ["isinstance","int","tuple","list","bool","sum","len","all","zip","range","enumerate","any","max","min","sorted","str","repr","abs","dict","set","reversed"]):Txt mg:=by obtain⟨z1,z2,v,y,A,D,F,H,I,a,b,c,e,f,i,k,l,o,p,s,u,_⟩:=r;have m:=λ{x:Str} (z:K3 K Im x=Y J)=>PySem.W.mg_none_of X G z;exact⟨m z1,m z2,m v,m y,m A,m D,m F,m H,m I,m a,m b,m c,m e,m f,m i,m k,m l,m o,m p,m s,m u⟩
def TabRaw (K:HX)(w:H8)(x:Str)(T:U<|Str×V):Prop:=∃a b n,K3 K Im x=Y (Y<|.ref a)/\K.lookup a=Y ⟨.type "dict",J,.dict b n,#[]⟩/\MG w.params b.toList/\Paired (λ(p:Str×V) (e:N7)=>(∃t,e.key=.str p.1 t)/\RelV p.2 e.val) T b.toList/\(a==I9)=HU
theorem TabRaw.tab {h:NX}{T:U<|Str×V}(X:K.In h)(G:h.Ns Im mg)(r:TabRaw K w x T):∃a,mg x=Y (.ref a)/\DTab K w a T:=by obtain⟨a,b,n,c,e,f,i,k⟩:=r;exact⟨a,Lm X G c,⟨b,n,e,f,i⟩,k⟩
theorem iu (z:Str):∀T:U<|Str×V,(T.lookup z).isSome=(T.map IV).contains z
|[]=>rfl
|(k,v)::T=>by
 rw[Je,Io,List.contains_cons];cases z==k with
 |true=>rfl
 |false=>rw[iu z T];rfl
theorem jm {h:NX}{T:U<|Str×V}{b:U Str}(X:K.In h)(G:h.Ns Im mg)(r:TabRaw K w x T)(hk:T.map IV=b):oR K w mg x b:=by obtain⟨a,c,e⟩:=r.tab X G;exact⟨a,T,c,e,λz=>by rw[iu,hk]⟩
def CstL (K:HX):U (Str×M.T)->U (Str×V)->Prop
|[],[]=>OA
|e::r,p::T=>(p.1=e.1/\CstR K e.2 p.2)/\CstL K r T
|_,_=>N2
theorem ik (z:Str):∀{tab:U<|Str×M.T} {T:U<|Str×V},CstL K tab T->match tab.lookup z with
 |some t=>∃v,T.lookup z=Y v/\CstR K t v
 |none=>T.lookup z=J
|[],[],_=>rfl
|(k,t)::r,(a,v)::T,⟨⟨e,c⟩,q⟩=>by
 have b:a=k:=e;subst b;have f:=ik z q;rw[Je,Je];cases z==a with
 |true=>exact⟨v,rfl,c⟩
 |false=>exact f
|[],_::_,h=>h.elim
|_::_,[],h=>h.elim
theorem dS {h:NX}{T:U<|Str×V}{tab:U<|Str×M.T}(X:K.In h)(G:h.Ns Im mg)(r:TabRaw K w x T)(e:CstL K tab T):jr K w mg x tab:=by obtain⟨a,b,c⟩:=r.tab X G;exact⟨a,T,b,c,λz=>ik z e⟩
end
end MR

namespace MR
open PySem PySem.Spec PyProof.Rows L2 L3
section
variable {X:Cx}{sf sg:O->B O}{C:M.Call}{pos p p2 p3:Pos}{ea eb ec:NV}{a b c:M.E}{h:NN}{n:O}{io:U O}{K:HX}
theorem dG {Z:Fp}{H:Hp}{G:Fp}{m:M.Md}{t:M.T}{x:V}(g:M.flatT t=HV)(r:Rep K Z H m t x G):cY x=HV/\∀(u:M.T) (y:V) {m':M.Md} {G':Fp},M.flatT u=HV->Rep K Z H m' u y G'->eqV y x=M.eqT u t:=by
 cases t with
 |non=>cases r;refine⟨rfl,λu y m' G' f d=>?_⟩;cases u<;>first|(cases d;rfl)|(obtain⟨e,_⟩:=d;cases e;rfl)|cases f
 |bl b=>cases r;refine⟨rfl,λu y m' G' f d=>?_⟩;cases u<;>first|(cases d;rfl)|(cases d;cases b<;>rfl)|(obtain⟨e,_⟩:=d;cases e;rfl)|cases f
 |int i=>cases r;refine⟨rfl,λu y m' G' f d=>?_⟩;cases u with
  |bl c=>cases d;cases c<;>rfl
  |_=>first|(cases d;rfl)|(obtain⟨e,_⟩:=d;cases e;rfl)|cases f
 |str z=>obtain⟨e,_⟩:=r;cases e;refine⟨rfl,λu y m' G' f d=>?_⟩;cases u<;>first|(cases d;rfl)|(obtain⟨e,_⟩:=d;cases e;rfl)|cases f
 |_=>cases g
theorem kS {Z:Fp}{H:Hp}{G:Fp}{m:M.Md}{t:M.T}{x:V}(i:M.flatT t=HV)(r:Rep K Z H m t x G):∀{f:U M.T} {g:U V} {m':M.Md} {G':Fp},f.all M.flatT=HV->RepL K Z H m' f g G'->g.all cY=HV/\L2.inV x g=f.any λu=>M.eqT u t
|[],_,_,_,_,h=>by cases h;exact⟨rfl,rfl⟩
|u::f,_,m',_,d,⟨y,s,v,w,e,_,_,_,q,o⟩=>by cases e;rw[KH,Iq] at d;obtain⟨k,l⟩:=kS i r d.2 o;refine⟨by rw[KH,(dG d.1 q).1,k];rfl,?_⟩;show(eqV y x || L2.inV x s)=_;rw[IS,l,(dG i r).2 u y d.1 q]
theorem rm {neg:NN}{u v w:M.W}{o:M.Op}(ho:o=if neg then .notin else .isin)(e:M.oSem o h [u,v]=Y w):∃f,M.elems v=Y f/\M.flatT u.2=HV/\f.all M.flatT=HV/\w=(.d,.bl<|if neg then !f.any (λt=>M.eqT t u.2) else f.any λt=>M.eqT t u.2):=by
 obtain⟨m,a⟩:=u;obtain⟨n,b⟩:=v;subst ho;cases neg with
 |true=>
  obtain⟨f,k,g⟩:=Nc.mp<|show(M.elems (n,b)).bind (λf=>if(M.flatT a&&f.all M.flatT)=HV then Y ((.d,.bl<|!f.any λt=>M.eqT t a):M.W) else J)=Y w from e;split at g
  .rename_i i;rw[Iq] at i;cases g;exact⟨f,k,i.1,i.2,rfl⟩
  .cases g
 |false=>
  obtain⟨f,k,g⟩:=Nc.mp<|show(M.elems (n,b)).bind (λf=>if(M.flatT a&&f.all M.flatT)=HV then Y ((.d,.bl<|f.any λt=>M.eqT t a):M.W) else J)=Y w from e;split at g
  .rename_i i;rw[Iq] at i;cases g;exact⟨f,k,i.1,i.2,rfl⟩
  .cases g
theorem Ae (g:NN){o:M.Op}(ho:o=if g then .notin else .isin):Loc K 2 o h λf H Q=>∀x y,f=[x,y]->rIn K g x y H Q:=by
 intro P w f Z H G Q A e r D za k x y hx;subst hx;obtain⟨⟨m,a⟩,⟨n,b⟩,rfl⟩:=cj r.length.symm;obtain⟨v,z,I,N,d,r1,r2⟩:=bf r;obtain⟨F,e1,e2,e3,rfl⟩:=rm ho e;cases b with
 |lst u=>cases e1;obtain⟨p,f,rfl,s,t,q⟩:=bg r2;obtain⟨i,l⟩:=kS e2 r1 e3 q;refine⟨p,f,rfl,.inl<|.inl<|.inl s,(dG e2 r1).1,i,?_⟩;rw[l];exact br k
 |tup u=>cases e1;obtain⟨p,f,rfl,s,t,q⟩:=bT r2;obtain⟨i,l⟩:=kS e2 r1 e3 q;refine⟨p,f,rfl,.inr s,(dG e2 r1).1,i,?_⟩;rw[l];exact br k
 |_=>cases e1
theorem pN (d:SE X sf C ea a)(f:SE X sf C eb b)(g:JA .In eb=false:=by rfl):SB X sf C (.Compare ea [.In] [eb] pos) (.op .isin h [a,b]):=bX nJ d f g (aH<|Ae HU rfl) λu v w e=>by obtain⟨_,_,_,_,rfl⟩:=rm (neg:=HU) rfl e;exact⟨_,rfl⟩
end
section
variable {K:HX}{Wx:L2.St->VK}{sl:Cf}{sf:O->B O}{C:M.Call}{σ:L2.St}{Z Z' Z1:Fp}{H H' H1:Hp}{Fs:Fps}{η ηb:M.Env}{vs ls io:U O}{pv:O->B V}{D:bp}
def C9 (K:HX)(a:It)(Z:Fp)(d:Hp)(c:U<|U M.W):Prop:=
 ∀H i x H',Stay Z d H->i<c.length->a.yld i H x H'->∃p y z q u w g,x=.ref p/\(∀b o,H b=Y o->H' b=Y o)/\SqT K H' p [y,z,q]/\c[i]?=Y [u,w,g]/\Rep K Z H u.1 u.2 y no/\Rep K Z H w.1 w.2 z no/\Rep K Z H g.1 g.2 q no
def gF3 (K:HX)(a l o:O):TG:=vV K 3<|eQ (bZ a)<|eQ (bZ l)<|eQ (bZ o) vX
theorem oq {i:O}{c:It}{ts:U<|U M.W}{ws:U M.W}{t F e d j' o:O}{x:V}{Q:L2.St->Hp->Prop}(N:oJ sf io pv)(f:∀v∈[t,F,e],v ∉ io)(hs:sf t=Y d)(I:sf F=Y j')(m:sf e=Y o)(P:∀a,Z1 a->Z a)(st:Stay Z1 H1 H)(yl:C9 K c Z1 H1 ts)(A:At K ⟨sf,pv⟩ σ Z H Fs η no)
  (hw:ts[i]?=Y ws) (hb:M.bindT [t,F,e] ws η=Y ηb) (y:c.yld i H x H') (k:∀s G l,At K ⟨sf,pv⟩ s Z G l ηb no->Step Z H (tot Fs) Z G (tot l)->Q s G):gF3 K d j' o x σ H' Q:=by
 have hi:i<ts.length:=(Jc.mp hw).1;obtain⟨p,y1,z1,r,u,w,g,rfl,sm,hq,n,r1,r2,r3⟩:=yl H i x H' st hi y;rw[hw] at n;cases n;cases hb;have s0:Step Z H no Z H' no:=d8 sm;obtain⟨A1,s1⟩:=A.op bj s0;have sn:Stay Z H H':=fN sm;have r1':Rep K Z H' u.1 u.2 y1 no:=(r1.zmono P).keep sn (λ_ z=>z) λ_ _ z=>z.elim;have r2':Rep K Z H' w.1 w.2 z1 no:=(r2.zmono P).keep sn (λ_ z=>z) λ_ _ z=>z.elim;have r3':Rep K Z H' g.1 g.2 r no:=(r3.zmono P).keep sn (λ_ z=>z) λ_ _ z=>z.elim;have A2:=At.set N (f t<|by simp) hs A1 r1';have A3:=At.set N (f F<|by simp) I A2 r2';have A4:=At.set N (f e<|by simp) m A3 r3';refine⟨p,[y1,z1,r],rfl,hq,rfl,y1,[z1,r],rfl,z1,[r],rfl,r,[],rfl,rfl,k _ _ _ A4<|s1.mono (λa h=>h.elim id λz=>z.elim) λa h=>?_⟩;rcases a9 h with h|h
 .rcases a9 h with h | h
  .exact .inl ((a9 h).elim id λz=>z.elim)
  .exact h.elim
 .exact h.elim
end
section
variable {X:Cx}{sf sg:O->B O}{C:M.Call}{pos p p2 p3:Pos}{ea eb ec:NV}{a b c:M.E}{h:NN}{io:U O}{K:HX}
theorem BZ {x y:j}(h:y.natAbs<18446744073709551616):Builtin.divisionGoesByPylong x y=false:=by
 refine PyProof.noPylong_of_log2 ?_;by_cases d:y.natAbs=0
 .rw[d];decide +kernel
 .have e:y.natAbs.log2<64:=(Nat.log2_lt d).mpr h;lia
theorem su:OpR X (IU .FloorDiv) (rI (λ_ d=>d≠0/\d.natAbs<18446744073709551616) λi d=>.int<|i.fdiv d):=opI λ_ _ _ _ _ _ _ e q=>floordiv_int e.1 q<|.inl<|BZ e.2
theorem oF:Loc K 2 .fdivN h λo H Q=>∀x y,o=[x,y]->rI (λ_ f=>f≠0/\f.natAbs<18446744073709551616) (λi f=>.int<|i.fdiv f) x y H Q:=by
 intro D w o Z H G Q u e r v F k x y hx;subst hx;obtain⟨⟨m,a⟩,⟨n,b⟩,rfl⟩:=cj r.length.symm;obtain⟨s,t,z,A,d,r1,r2⟩:=bf r;cases a<;>first|(cases e;done)|(cases b<;>try (cases e;done))
 rename_i i f;have g:(if((f != 0)&&decide (f.natAbs<18446744073709551616))=HV then Y ((.d,.int (i.fdiv f)):M.W) else J)=Y w:=e;split at g
 .rename_i l;rw[Iq,NZ,bne_iff_ne] at l;cases g;exact⟨i,f,r1,r2,l,aX k⟩
 .cases g
theorem t9:Loc K 2 .modN h λo H Q=>∀x y,o=[x,y]->rI (λ_ f=>f≠0) (λi f=>.int<|i.fmod f) x y H Q:=by
 intro D w o Z H G Q u e r v F k x y hx;subst hx;obtain⟨⟨m,a⟩,⟨n,b⟩,rfl⟩:=cj r.length.symm;obtain⟨s,t,z,A,d,r1,r2⟩:=bf r;cases a<;>first|(cases e;done)|(cases b<;>try (cases e;done))
 rename_i i f;have g:(if(f != 0)=HV then Y ((.d,.int (i.fmod f)):M.W) else J)=Y w:=e;split at g
 .rename_i l;rw[bne_iff_ne] at l;cases g;exact⟨i,f,r1,r2,l,aX k⟩
 .cases g
theorem yf (d:SE X sf C ea a)(e:SE X sf C eb b):SE X sf C (.BinOp ea .FloorDiv eb pos) (.op .fdivN h [a,b]):=av (eM su d e)<|aH oF
theorem dB (d:SE X sf C ea a)(e:SE X sf C eb b):SE X sf C (.BinOp ea .Mod eb pos) (.op .modN h [a,b]):=av (eM xn d e)<|aH t9
end
section
variable {X:Cx}{sf sg:O->B O}{C:M.Call}{pos p p2 p3:Pos}{ea eb ec:NV}{a b c:M.E}{h:NN}{io:U O}{K:HX}
theorem rG {e:NN}{i:U Str}{o:L2.St}{H:Hp}{Q:NN->Hp->Prop}(F:wT K sf C (.inT e i a) o H Q):wE K sf C (.inT e i a) o H λx g=>∃k,x=.bl k/\Q k g:=by obtain⟨I,Z,t,n,w,l,b,A,ev,m,k⟩:=F;refine⟨I,Z,t,n,w,l,A,ev,λv y g f G d r s=>?_⟩;obtain⟨⟨u,N⟩,P,D⟩:=aa<|show(M.evE C a n).bind (M.kIn e i)=_ from ev;obtain⟨z,e1,e2,e3⟩:=i6 D;rw[show w=_ from e3] at m r;cases m;exact⟨_,r,k y g f d.bare<|s.mono (λ_ z=>z) λ_ z=>.inl z⟩
theorem E1 {x:Str}{g:U Str}(T:oR X.K X.w X.mg x g)(o:SE X sf C ea a)(u:Gl X x:=by rfl)(hd:(x==("__debug__":Str))=false:=by decide)(t:JA .In (.Name x p2)=false:=by rfl):SB X sf C (.Compare ea [.In] [.Name x p2] pos) (.inT HU g a):=by obtain⟨ad,T',y,D,F⟩:=T;refine gS (jv qH o (gq u y hd) t) λσ H Q I=>?_;obtain⟨M,Z,i,P,N,f,A,ev,k⟩:=pU D F σ H _<|rG I;refine⟨M,Z,i,P,N,f,A,ev,λv n l e G d r s=>?_⟩;obtain⟨z,a,m,e1,e2,e3,q⟩:=k v n l e G d r s;rw[JU] at q;exact⟨z,a,m,e1,e2,e3,q⟩
theorem vH {x:Str}{g:U Str}(T:oR X.K X.w X.mg x g)(o:SE X sf C ea a)(u:Gl X x:=by rfl)(hd:(x==("__debug__":Str))=false:=by decide)(t:JA .NotIn (.Name x p2)=false:=by rfl):SB X sf C (.Compare ea [.NotIn] [.Name x p2] pos) (.inT HV g a):=by obtain⟨ad,T',y,D,F⟩:=T;refine gS (jv jY o (gq u y hd) t) λσ H Q I=>?_;obtain⟨M,Z,i,P,N,f,A,ev,k⟩:=pU D F σ H _<|rG I;refine⟨M,Z,i,P,N,f,A,ev,λv n l e G d r s=>?_⟩;obtain⟨z,a,m,e1,e2,e3,q⟩:=k v n l e G d r s;rw[Bool.bne_true] at q;exact⟨z,a,m,e1,e2,e3,q⟩
end
end MR

namespace MR
open PySem PySem.W L2 M
def CstRs (K:HX)(a:U M.T)(b:U V):Prop:=∀(Z:Fp) (H:Hp),RepL K Z H .s a b no
theorem cst_nil {K:HX}:CstRs K [] []:=λ_ _=>rfl
theorem cst_cons {K:HX}{t:M.T}{b:U M.T}{x:V}{a:U V}(h:CstR K t x)(r:CstRs K b a):CstRs K (t::b) (x::a):=λZ H=>⟨x,a,no,no,rfl,λ_ h=>h,λ_ h=>h,λ_ h=>h.elim,h Z H,r Z H⟩
theorem cst_tup {K:HX}{d:U M.T}{c:U V}{a:NM}{o:Obj}{b:N5 L}{n:O}(h:K.lookup a=Y o)(e:o.cls=.type "tuple")(hd:o.data=.seq b n)(g:b.size<=sizeLine)(i:Vals c b.toList)(f:c.length<=LIM)(r:CstRs K d c):CstR K (.tup d) (.ref a):=λZ H=>⟨a,c,rfl,.inr ⟨o,b,n,h,e,hd,g,i⟩,f,r Z H⟩
end MR




namespace L3
open PySem PySem.Spec PySem.NumText PyProof.Rows L2
def spJ (c:O)(a:U<|U O):U Jk:=a.map λl=>⟨l.toArray⟩
theorem kQ (c:O):∀(b a:U O),M.spl c a b≠[]
|[],a=>JV _ _
|x::b,a=>by
 unfold M.spl;split
 .exact JV _ _
 .exact kQ c b _
theorem gI (c:O):∀(d a:U O),c ∉ a->∀l∈M.spl c a d,c ∉ l
|[],a,h,l,b=>by rw[IE.mp b];exact h
| x::d,a,h,l,b=>by
 unfold M.spl at b;split at b
 .rcases Ip.mp b with rfl | b
  .exact h
  .exact gI c d [] (by simp) l b
 .rename_i hx;refine gI c d _ (λz=>?_) l b;rcases Jw.mp z with z|z
  .exact h z
  .exact hx (IE.mp z).symm
theorem b8 (c:O):∀(b a:U O),(IL ⟨#[c]⟩<|spJ c<|M.spl c a b).cps.toList=a++b
|[],a=>by rw[IT];rfl
| x::b,a=>by
 unfold M.spl;split
 .rename_i hx;have d:=b8 c b []
  obtain⟨y,r,e⟩:∃y r,M.spl c [] b=y::r:=by
   cases h:M.spl c [] b with
   |nil=>exact NP h<|kQ c b []
   |cons y r=>exact⟨y,r,rfl⟩
  rw[e] at d ⊢;show((⟨a.toArray⟩:Jk)++⟨#[c]⟩++IL ⟨#[c]⟩ (spJ c (y::r))).cps.toList=_;rw[aV,aV,d,hx];simp
 .rw[b8 c b<|a++[x],Ju];rfl
theorem nh (x:Jk):PySem.Txt.split x (Str.ofString " ")=M.splS x:=by
 have c:Str.ofString " "=⟨#[32]⟩:=by decide +kernel
 rw[c]
 have e1:IL ⟨#[32]⟩ (M.splS x)=x:=by
  have:=b8 32 x.cps.toList [];cases x with
  |mk a=>have b:(IL ⟨#[32]⟩ (M.splS ⟨a⟩)).cps.toList=a.toList:=this;generalize IL ⟨#[32]⟩ (M.splS ⟨a⟩)=u at b;cases u;exact N1 Mg<|LA.mp b
 refine jP 32 _ _ (tH _ _) (λz=>kQ 32 _ _<|Nt.mp z) (StrLaws.split_free _ 32) (λp hp=>?_)<|(StrLaws.join_split _ _).trans e1.symm;obtain⟨l,d,rfl⟩:=JF.mp hp;exact gI 32 _ _ Jd l d
theorem oK {z:Jk}{b:U Jk}(h:(b.map λs=>s.cps.size+z.cps.size).sum<=M.LIM):JoinOk z b=true:=by
 have e:∀(l:U Jk) (a:O),l.foldl (λa s=>a+s.length+z.length) a=a+(l.map λs=>s.cps.size+z.cps.size).sum:=by
  intro l;induction l with
  |nil=>intro a;rfl
  |cons s l c=>intro a;rw[MH,c,Io,MZ];show a+s.cps.size+z.cps.size+_=_;lia
 unfold JoinOk;rw[show b.toArray.foldl (·+·.length+z.length) 0=b.foldl (λa s=>a+s.length+z.length) 0 from List.foldl_toArray ..,e,Jx];unfold Builtin.Str.tooLong;have:¬(b.map λs=>s.cps.size+z.cps.size).sum>sizeLine:=by have:=MR.LIM_le h;lia
 rw[N0 this];rfl
theorem BN {X:Cx}{a:U N4}{d:Lb}{i:U Lb}{c:Pos}{t:TS}(hx:∀v s,X.xe v s->N2)(g:PSs X a t):PS X (.Try a (d::i) [] [] c) t:=by
 intro b s l H D I h;refine wpAny_Try_except<|ID (g b s l H D I h) (λf k q=>?_) λe k q=>(hx _ _ q).elim;cases f with
 |next=>exact Lh q
 |brk=>exact q
 |cont=>exact q
 |ret u=>exact q
end L3
namespace MR
open PySem PySem.Spec PyProof.Rows L2 L3
section
variable {X:Cx}{sf sg:O->B O}{C:M.Call}{pos p p2 p3:Pos}{ea eb ec:NV}{a b c:M.E}{h:NN}{n:O}{io:U O}{K:HX}
theorem Hq {d:U N4}{e:Lb}{g:U Lb}{s:U M.S}(f:SSs X sf io C d s)(hx:∀v s,X.xe v s->N2:=by exactλ_ _ z=>z):SS X sf io C (.Try d (e::g) [] [] pos) (.tri s):=bP (BN hx f) λD k H i=>i
theorem qF {Z:Fp}{H:Hp}{G:Fp}{m:M.Md}:∀{d:U M.T} {k:U Str} {f:U V},M.strsOf d=Y k->RepL K Z H m d f G->f=k.map V.str:=by
 intro d;induction d generalizing G with
 |nil=>intro g f e r;cases e;exact r
 | cons t d l =>
  intro g f e r;obtain⟨x,v,s,u,rfl,_,_,_,p,q⟩:=r;cases t with
  | str i =>
   cases e1:M.strsOf d with
   |none=>simp[M.strsOf,e1] at e
   |some o=>
    have:g=i::o:=by simpa[M.strsOf,e1] using e.symm
    subst this;rw[Io,<- l e1 q,show x=.str i from p.1]
  |_=>cases e
theorem rN {Z:Fp}{H:Hp}{m:M.Md}:∀{d:U Str},(∀x∈d,M.sOk x=HV)->RepL K Z H m (d.map M.T.str) (d.map V.str) no
|[],_=>rfl
|x::d,h=>⟨.str x,d.map V.str,no,no,rfl,λ_ z=>z.elim,λ_ z=>z.elim,λ_ z=>z.elim,⟨rfl,h x Ih⟩,rN λy e=>h y<|Iz _ e⟩
theorem yg {o:M.Op}{e1 e2:M.E}{T:NU}{r:V->U V->Hp->VK->Prop}(ty:∀{m:M.Md} {t:M.T} {w2 w:M.W} {x:V} {Z:Fp} {H:Hp} {G:Fp},M.oSem o h [(m,t),w2]=Y w->Rep K Z H m t x G->tyV K T x H)
  (l:Loc K 2 o h λxs H Q=>∀x y,xs=[x,y]->r x [y] H Q) (u:L2.St) (H:Hp) (Q:VK) (hw:wE K sf C (.op o h [e1,e2]) u H Q):tBM K T r (wE K sf C e1) (wL K sf C [e2]) u H Q:=by
 obtain⟨pv,Z,Fs,η,w,η',A,ev,k⟩:=hw;obtain⟨ws,h1,s⟩:=bS ev;obtain⟨⟨m,t⟩,η1,us,g1,i,rfl⟩:=aq h1;obtain⟨wb,η2,us,g3,g4,rfl⟩:=aq i;cases g4;refine ju A g1 λx Z1 H1 v g f r1 _ s1 _=>?_;have d:=f.mono (G':=g) λ_ z=>.inr z;refine⟨ty s r1,?_⟩;refine Du d i λvs N I D F e r2 P s2 t2=>?_;obtain⟨y,rfl,ry⟩:=bh rfl r2;exact l [(m,t),wb] w [x,y] N I _ Q rfl s ⟨x,[y],g,F,rfl,λ_ z=>.inl z,λ_ z=>.inr z,P,r1.frame f.gd.own s2 d.dis,r2⟩ e.own e.gd.zal (bb e (s1.trans t2) k) x y rfl
theorem qR:Loc K 2 .join h λl H Q=>∀x y,l=[x,y]->yo K x [y] H Q:=by
 intro F w l Z H G Q v e r ow za k x y hx
 match F,v with
 | [(m,a),(m2,b)],_ =>
  subst hx;obtain⟨x',r',I,N,u,P,g2,gd,D,p2⟩:=r;cases u;obtain⟨y',e1,p3⟩:=bh rfl p2;cases e1;cases a with
  | str z =>
   cases b with
   | lst t =>
    have e2:((M.strsOf t).bind λf=>if(M.sOk (Str.join z f)&&decide ((f.map λs=>s.cps.size+z.cps.size).sum<=M.LIM))=HV then Y ((.d,.str (Str.join z f)):M.W) else J)=Y w:=e;cases e3:M.strsOf t with
    |none=>rw[e3] at e2;cases e2
    | some f =>
     rw[e3] at e2;have g:(if(M.sOk (Str.join z f)&&decide ((f.map λs=>s.cps.size+z.cps.size).sum<=M.LIM))=HV then Y ((.d,.str (Str.join z f)):M.W) else J)=Y w:=e2;split at g
     .rename_i i;cases g;rw[Iq] at i;obtain⟨q,l,A,o,hl,pr⟩:=bg p3;rw[qF e3 pr] at o;exact⟨z,q,f,D.1,by rw[A],.inl<|.inl o,oK<|NY i.2,iS k i.1⟩
     .cases g
   |_=>cases e
  |_=>cases e
theorem oi:Loc K 2 .split h fun g H Q=>∀ x y,g=[x,y]->tM x [y] H Q:=by
 intro N w g Z H G Q A e r F P k x y hx
 match N,A with
 | [(m,a),(m2,b)],_ =>
  subst hx;obtain⟨x',r',G1,G2,t,g1,g2,gd,I,p2⟩:=r;cases t;obtain⟨y',e1,p3⟩:=bh rfl p2;cases e1;cases a with
  | str z =>
   cases b with
   | str y =>
    have l:(if((y==Str.ofString " ")&&decide (z.cps.size+2<=M.LIM)&&(M.splS z).all M.sOk)=HV then Y ((.d,.lst ((M.splS z).map M.T.str)):M.W) else J)=Y w:=e;split at l
    .rename_i i;cases l;rw[Iq,Iq] at i;have o:y=Str.ofString " ":=eq_of_beq i.1.1;have D:=NY i.1.2
     have u:(M.splS z).length<=M.LIM:=by
      have:∀(g f:U O),(M.spl 32 f g).length<=g.length+1:=by
       intro g;induction g with
       |nil=>intro f;exact Ic _
       |cons x g s=>
        intro f;unfold M.spl;split
        .rw[Ii,Ii];have:=s [];lia
        .rw[Ii];have:=s<|f++[x];lia
      have h2:=this z.cps.toList [];have h3:z.cps.toList.length=z.cps.size:=JH;unfold M.splS;rw[Ie];lia
     refine⟨z,y,I.1,N1 (λv=>[v]) p3.1,by rw[o];decide +kernel,LIM_le D,λp hp=>?_⟩;rw[o,nh];exact bG (G':=no) F P (λ_ z=>z.elim) (by rw[Ie];exact u) (rN λx hx=>JW.mp i.2 x hx) (by simp) k hp
    .cases l
   |_=>cases e
  |_=>cases e
section
variable {apos cpos:Pos}
theorem ya (l:SE X sf C ea a)(o:SE X sf C eb b)(k:H9 [eb] X.env=(HU,N3 eb X.env)::H9 [] X.env:=by rfl)
  (f:JN ea "join" X.env (N3 ea X.env)=N3 ea X.env:=by rfl) (g:(apos.endLine==cpos.line)=true:=by rfl) (d:(Iy cpos<|H9 [] X.env).any (·.1)=false:=by rfl)
  (i:((Iy cpos<|H9 [eb] X.env).all (λx=>!x.1)&&(JK cpos<|JM [] X.env).all (λx=>x.1.isSome)&&decide ([eb].length+([]:U IP).length+(if([]:U IP).isEmpty then 0 else 1)<30))=true:=by rfl):SE X sf C (.Call (.Attribute ea "join" apos) [eb] [] cpos) (.op .join h [a,b]):=
 av (gX Na PySem.F.slot_str_join PySem.F.type_str_join wU l (slc o sl0 k) f i g k d) (yg (λ{m t s w x Z H G} e r=>by
  cases t with
  |str z=>rw[show x=_ from r.1];exact rfl
  |_=>cases e) qR)
theorem lD (l:SE X sf C ea a)(o:SE X sf C eb b)(k:H9 [eb] X.env=(HU,N3 eb X.env)::H9 [] X.env:=by rfl)
  (f:JN ea "split" X.env (N3 ea X.env)=N3 ea X.env:=by rfl) (g:(apos.endLine==cpos.line)=true:=by rfl) (d:(Iy cpos<|H9 [] X.env).any (·.1)=false:=by rfl)
  (i:((Iy cpos<|H9 [eb] X.env).all (λx=>!x.1)&&(JK cpos<|JM [] X.env).all (λx=>x.1.isSome)&&decide ([eb].length+([]:U IP).length+(if([]:U IP).isEmpty then 0 else 1)<30))=true:=by rfl):SE X sf C (.Call (.Attribute ea "split" apos) [eb] [] cpos) (.op .split h [a,b]):=
 av (gX Na PySem.F.slot_str_split PySem.F.type_str_split t6 l (slc o sl0 k) f i g k d) (yg (λ{m t s w x Z H G} e r=>by
  cases t with
  |str z=>rw[show x=_ from r.1];exact rfl
  |_=>cases e) oi)
end
end
end MR

namespace MR
open PySem PySem.Spec PyProof.Rows L2 L3
theorem slx {X:Cx}{d:O->B O}{C:M.Call}{b:NV}{a:M.E}{c:U NV}{bs:U M.E}(e:SE X d C b a)(f:SL X d C c bs)(g:H9 (b::c) X.env=(HU,N3 b X.env)::H9 c X.env):SL X d C (b::c) (a::bs):=slc e f g
theorem sTx {X:Cx}{c:O->B O}{C:M.Call}{a:Pos}{b:U NV}{bs:U M.E}{e:O}(d:bs.length<=M.LIM)(h:SL X c C b bs):SE X c C (.Tuple b e a) (.tup bs):=sT h d
theorem sLx {X:Cx}{c:O->B O}{C:M.Call}{a:Pos}{h:NN}{b:U NV}{bs:U M.E}(e:bs.length<=M.LIM)(d:SL X c C b bs):SE X c C (.List b a) (.lst h bs):=sLs d e
theorem aM {X:Cx}{e:O->B O}{C:M.Call}{d:Pos}{h:NN}{f c:NV}{a b:M.E}(g:SE X e C f a)(i:SE X e C c b)(k:ff c):SE X e C (.Subscript f c d) (.op .ix h [a,b]):=sIx g i k
end MR

namespace TP
open PySem PySem.W
noncomputable def en (P:II)(k:Str)(t:O)(v:L):N7:=⟨PyData.keyHash P k,.str k t,v⟩
def tu (a:U L):Obj:=⟨.type "tuple",J,.seq a.toArray 0,#[]⟩
def fe (a:U L):Obj:=⟨.none,J,.fields a.toArray,#[]⟩
noncomputable def di (a:U N7)(n:O):Obj:=⟨.type "dict",J,.dict a.toArray n,#[]⟩
abbrev fl:Str:="/claim/cut.py"
def iv (i:j):L:=.int i 0
def cdo (n q:Str)(t d:O)(c e:O)(f:O)(a:O)(b:NN)(x y z:L):Obj:=
 ⟨.type "code",J,.fields #[.str n t,.str q<|t+1,.str fl<|t+2,iv c,iv e,iv 0,iv 0,iv f,.ref a,.bool b,iv 181,.ref<|a+1,.none,x,y,z,iv d,iv c,.str fl<|d+1],#[]⟩
def ofn (c:L)(h:N4)(q:Str)(g:O)(d m:L)(e:L):Obj:=match h with
|.FunctionDef n a b _ _ _ f _ _ _=>⟨c,J,.func {name:=n,qualname:=q,params:=a,body:=.stmts b,scope:=f,globals:=g,closure:=[],defaults:=d,kwdefaults:=.none,pyModule:=m,code:=e},#[]⟩
|_=>default
noncomputable def tks:U Str->O->U L
|[],_=>[]
|x::r,t=>.str x t::tks r (t+1)
structure R where
 os:U Obj
 ns:U N7
 tb:U L
 n:O
 tk:O
 md:L
inductive Rc where
 |d|m|c
 |x (k:Str) (kt:O) (v:L) (os:II->U Obj) (tb:U L) (n tk:O)
def cv:NV->L
|.Constant (.bool b) _ _=>.bool b
|_=>.none
def dO (P:II)(n e:O)(g:L)(h:N4):R:=match h with
| .FunctionDef f i b _ _ _ m _ _ d =>
 let pr:U Obj×L×O:=match i.defaults with
  |[]=>([],.none,n)
  |ds=>([tu<|ds.map cv],.ref n,n+1)
 let a:=pr.2.2
 match localNames i m (.stmts b) with
 | none=>⟨pr.1++[tu [],fe [],ofn .none h f 0 .none .none .none,cdo f f e (e+3) d.line i.args.length 3 a HV .none .none (.ref (a+2)),ofn (.type "function") h f 3 pr.2.1 g (.ref (a+3))],
   [en P f (e+5)<|.ref<|a+4],[iv d.line,iv d.col,.ref<|a+3],a+5,e+6,g⟩
 | some l =>
  let k:=l.1.length;let c:=l.2.length
  ⟨pr.1++[tu [],fe [],tu (tks l.1 (e+3)),tu (tks l.2 (e+3+k)),ofn .none h f 0 .none .none .none,cdo f f e (e+3+k+c) d.line i.args.length 3 a HV (.ref (a+2)) (.ref (a+3)) (.ref (a+4)),ofn (.type "function") h f 3 pr.2.1 g (.ref (a+5))],
   [en P f (e+5+k+c)<|.ref<|a+6],[iv d.line,iv d.col,.ref<|a+5],a+7,e+6+k+c,g⟩
|_=>⟨[],[],[],n,e,g⟩
def one (P:II)(n a:O)(b:L)(e:N4):Rc->R
|.d=>dO P n a b e
|.m=>match e with
 |.Assign _ (.Constant (.str s) _ _) _=>⟨[],[],[],n,a+2,.str s a⟩
 |_=>⟨[],[],[],n,a,b⟩
|.c=>match e with
 |.Assign (.Name x _::_) (.Constant (.str s) _ _) _=>⟨[],[en P x (a+1)<|.str s a],[],n,a+2,b⟩
 |.Assign (.Name x _::_) (.Constant (.int i) _ _) _=>⟨[],[en P x (a+1)<|.int i a],[],n,a+2,b⟩
 |_=>⟨[],[],[],n,a,b⟩
|.x k g v os l h f=>⟨os P,[en P k g v],l,h,f,b⟩
def go (P:II):U (N4×Rc)->O->O->L->U R
|[],_,_,_=>[]
|(b,r)::l,n,c,a=>let x:=one P n c a b r
 x::go P l x.n x.tk x.md
def Er (x:R):U R->R
|[]=>x
|y::l=>Er y l
def ds:Data->U N7
|.dict a _=>a.toList
|_=>[]
noncomputable def ep:Data->O
|.dict _ n=>n
|_=>0
def r0:R:=⟨[],[],[],15,187,.str "__main__" 164⟩
def rs (P:II)(l:U<|N4×Rc):U R:=go P l 15 187<|.str "__main__" 164
def o3 (P:II)(l:U R):Obj:=di (en P "__name__" 165 (Er r0 l).md::((ds (boot_o_3 P).data).tail++l.flatMap R.ns))<|ep (boot_o_3 P).data+(l.flatMap R.ns).length
def os (P:II)(l:U R):U Obj:=
 boot_o_0 P::boot_o_1 P::boot_o_2 P::o3 P l::boot_o_4 P::boot_o_5 P::boot_o_6 P::boot_o_7 P::boot_o_8 P::boot_o_9 P::boot_o_10 P ::
 tu []::fe (l.flatMap R.tb)::cdo "<module>" "<module>" 182 185 1 0 0 11 HU .none .none .none ::
 ⟨.type "frame",J,.plain,#[Y<|.ref 13,Y<|.ref 3,Y<|.ref 3,J,Y<|.str "__main__" 164,J,Y<|.ref 0]⟩::l.flatMap R.os
def odd {a:Type}:U a->U a×U a
|[]=>([],[])
|x::l=>(x::(odd l).2,(odd l).1)
noncomputable def bt:O->U Obj->BT
|0,_=>.nil
|_+1,[]=>.nil
|k+1,x::l=>.node x (bt k (odd l).1)<|bt k (odd l).2
noncomputable abbrev p0:Pos:=⟨0,0,0,0⟩
abbrev B0:U Frame:=[topFrame p0]
abbrev an:B L:=Y<|.ref 6
noncomputable def ev (p:NQ):Env:={scope:=p.main.scope,locals:=mainNs,globals:=mainNs,cells:=[],code:=.ref 13,frame:=Y 14}
def cE (p:NQ):Code:=.body (KQ p)<|ev p
def sT (p:NQ)(rc:U Rc)(P:II)(m n a:O)(o:OG):SharedT:=⟨bt 12<|os P<|rs P<|(p.main.body.zip rc).take m,n,{},#[],{},a,o⟩
def hp (p:NQ)(rc:U Rc)(m n:O)(P:II):NX:=absHeap (bt 12<|os P<|rs P<|(p.main.body.zip rc).take m) n {}
def Cut (p:NQ)(rc:U Rc)(i n t:O)(ps:Pos)(k N b c:O)(a:Pos)(w:H8):Prop:=∀o,segRunT J2 p w 11 an 1 N (sT p rc w.params i n t o) (piecesOf ((p.main.body.drop i).take k) (ev p) (cE p) ps B0)=Y (.next,sT p rc w.params (i+k) b c o,cE p,a)
def Ch (p:NQ)(rc:U Rc)(m a b:O)(i n t:O)(ps:Pos)(M:O):Prop:=∀w o,topRun J2 p w 11 an M (sT p rc w.params i n t o).abs (restOf (p.main.body.drop i) (ev p) (cE p) ps B0)=Y (sT p rc w.params m a b o).abs
theorem a6 {p:NQ}{rc:U Rc}{m d f i n t k N b e M:O}{ps a:Pos}(c:∀w,Cut p rc i n t ps k N b e a w)(h:Ch p rc m d f (i+k) b e a M):Ch p rc m d f i n t ps (N+M):=λw o=>by have x:=piece_app (segRun_of<|c w o)<|h w o;rw[<- L9,List.take_append_drop] at x;exact x
theorem BO {p:NQ}{rc:U Rc}{m a b:O}{ps:Pos}(hd:p.main.body.drop m=[]):Ch p rc m a b m a b ps 2:=λw o=>by rw[hd];exact piece_nil rfl
theorem vt (w:H8):((Jj w.params).isNs Im&&(Lk []:N5 OB).size==0,(Jj w.params).objs.size,(Jj w.params).nsMap Im "__annotations__")=(HV,11,an):=by kernel_rfl
theorem xQ {p q:NQ}{a:U Str}{Xt:HW->NN}{n:Type}{l:HW->n}{i:H8->n}{N M m b h:O}{rc:U Rc}
  (e:opening p=plainProg p.main.scope.names) (r:Nat.ble 600 N=HV) (f:∀s,fenceModules? p s=Y s) (t:KQ p=p.main.body)
  (g:∀w:H8,((Jj w.params).isNs Im&&(Lk []:N5 OB).size==0,(Jj w.params).objs.size,(Jj w.params).nsMap Im "__annotations__")=(HV,11,an))
  (pre:∀(w:H8) (o:OG),topGo J2 p w 11 an 12 ⟨Jj w.params,Lk [],boot_drawn,boot_toks,o⟩ (topStub p)=Y ((sT p rc w.params 0 15 187 o).abs,⟨denote J2<|cE p,cE p,p0,B0⟩))
  (blk:∀(w:H8) (o:OG),segRun J2 p w 11 an 1 1 (sT p rc w.params 0 15 187 o).abs (blockOf (KQ p) (ev p) (cE p) p0 B0)=Y (.next,(sT p rc w.params 0 15 187 o).abs,cE p,p0))
  (ch:Ch p rc m b h 0 15 187 p0 M) (le:Nat.ble (12+(1+M)) N=HV)
  (c:∀w:H8,(λo=>((staticsOk (Le p.main.body) (Jj w.params) (hp p rc m b w.params)&&namesBound p (hp p rc m b w.params)&&gensDone ⟨hp p rc m b w.params,#[],{},h,o⟩&&laidKept (Jj w.params) (hp p rc m b w.params)),
    openSeen q a (Le p.main.body) Xt HV ⟨hp p rc m b w.params,#[],{},h,o⟩,l ⟨hp p rc m b w.params,#[],{},h,o⟩))=λ_=>(HV,openGood q a,i w)):LeftO p q a Xt l i N:=
 LeftO.of_pieces (H₀:=Jj) (H₁:=hp p rc m b) (gs₁:=#[]) (d₁:={}) (k₁:=h) (boot_open e r f) g
  (λw o=>go_top (pre w o)<|piece_block (blk w o) (by have x:=ch w o;rw[IY,<- t] at x;exact x)) le c
noncomputable def cb (c:N4)(a:O):N4:=match c with
|.ClassDef _ _ _ b _ _ _ _ _ _ _=>b.getD a c
|_=>c
noncomputable def drec (e:N4):PySem.DefRec:=match e with
|.FunctionDef n a b _ _ _ d _ _ c=>⟨n,a,b,d,c⟩
|_=>⟨default,default,[],default,default⟩
theorem fo {b:Type}:∀(l:U b) (i:O),(odd l).1[i]?=l[2 * i]?/\(odd l).2[i]?=l[2 * i+1]?
|[],i=>by simp[odd]
| x::l,i=>by
 refine⟨?_,?_⟩
 .cases i with
  |zero=>simp[odd]
  |succ a=>rw[show 2 * (a+1)=2 * a+1+1 by lia];simp only[odd,Jh];exact(fo l a).2
 .simp only[odd,Jh];exact(fo l i).1
theorem mJ {a:Type}:∀(l:U a),(odd l).1.length=(l.length+1) / 2/\(odd l).2.length=l.length / 2
|[]=>by simp[odd]
|x::l=>by have h:=mJ l;simp only[odd,Ii,h.1,h.2];exact⟨by lia,trivial⟩
theorem kB:∀(k:O) (l:U Obj) (a:O),l.length<2 ^ k->(bt k l).get a=l[a]?
|0,l,a,h=>by have:l=[]:=List.length_eq_zero_iff.mp (by simpa using h);subst this;simp[bt,BT.get]
|k+1,[],a,h=>by simp[bt,BT.get]
| k+1,x::l,a,h=>by
 have e:2 ^ (k+1)=2 * 2 ^ k:=by rw[LR];lia
 have f:=mJ l;simp only[Ii] at h;unfold bt;rw[BT.get_node];by_cases c:a=0
 .simp[c]
 .rw [NW c];by_cases d:a % 2=1
  .rw [NR d,kB k _ _<|by lia,(fo l<|a / 2).1];obtain⟨b,rfl⟩:∃b,a=b+1:=⟨a-1,by lia⟩;rw[Jh];congr 1;lia
  .rw [NW d,kB k _ _<|by lia,(fo l<|a / 2-1).2];obtain⟨b,rfl⟩:∃b,a=b+1:=⟨a-1,by lia⟩;rw[Jh];congr 1;lia
def lL (p:NQ)(rc:U Rc)(m:O)(P:II):U Obj:=os P<|rs P<|(p.main.body.zip rc).take m
def kK (p:NQ)(rc:U Rc)(m:O)(as:U NM)(P:II):Frag:=as.map λa=>(a,(lL p rc m P).getD a default)
noncomputable def okO:B Obj->NN
|some ⟨_,_,.freed,_⟩=>HU
|some _=>HV
|none=>HU
theorem mh {p:NQ}{rc:U Rc}{m:O}{P:II}{a:NM}{o:Obj}:∀{as:U NM},(kK p rc m as P).lookup a=Y o->a∈as/\o=(lL p rc m P).getD a default
|[],h=>by simp[kK] at h
| b::as,h=>by
 unfold kK at h;rw[Io,Je] at h;by_cases e:a=b
 .subst e;rw[NT] at h;exact⟨Ih ..,(IJ h).symm⟩
 .rw [Ol e] at h;have x:=mh (as:=as) h;exact⟨Iz _ x.1,x.2⟩
def hkk (p:NQ)(rc:U Rc)(m n:O):Hook where
 α:=N5 Obj
 obs s:=s.heap.objs
 val w:=(hp p rc m n w.params).objs
 says w h:=∀a o,(hp p rc m n w.params).get? a=Y o->h.get? a=Y o
 of w s e a o x:=by unfold Heap.get? at *;rw[e];exact x
 keeps w h h' X k a o x:=k _ _<|X a o x
theorem Hf {p:NQ}{rc:U Rc}{m n:O}{as:U NM}{w:H8}{h:NX}(k:Nat.blt (lL p rc m w.params).length 4096=HV)(i:(as.all λa=>Nat.blt a n&&okO (lL p rc m w.params)[a]?)=HV)
  (b:(hkk p rc m n).says w h):(kK p rc m as w.params).In h:=λa o e=>by
 obtain⟨e1,e2⟩:=mh e;obtain⟨c1,c⟩:=IK.mp<|JW.mp i a e1;refine b a o ?_;have f:a<n:=Mk c1;have c4:(lL p rc m w.params).length<2 ^ 12:=Mk k;have g:=kB 12 (lL p rc m w.params) a c4;unfold hp Heap.get?;rw[absHeap_at,NR f];show(match Y (((bt 12<|lL p rc m w.params).get a).getD default) with|some ⟨_,_,.freed,_⟩=>J|o=>o)=Y o;rw[g];rw[Ly] at e2;rw[<- e2];cases q:(lL p rc m w.params)[a]? with
 |none=>rw[q] at c;cases c
 |some x=>rw[q] at c e2;have e3:o=x:=e2;subst e3;obtain⟨_,_,d,_⟩:=o;cases d<;>first|rfl|cases c
noncomputable def pmO:B Obj->L
|some ⟨_,_,.func f,_⟩=>f.pyModule
|_=>.none
def rfO:B (B L)->O
|some (Y (.ref a))=>a
|_=>0
noncomputable def tkO:B (B L)->O
|some (Y (.int _ t))=>t
|some (Y (.str _ t))=>t
|_=>0
theorem raw_mk {K:Frag}{x:Str}{a:N4}{dV:L}(b:OH K Im x=Y (Y<|.ref<|rfO<|OH K Im x))
  (c:K.lookup (rfO<|OH K Im x)=Y ⟨.type "function",J,.func<|fnOf x x (L2.defArgs a) (L2.defBody a) (L2.defScope a) dV .none .none (pmO<|K.lookup<|rfO<|OH K Im x) J (.ref<|rfO (OH K Im x)-1) .none,#[]⟩)
  (d:codeIn K (.ref<|rfO (OH K Im x)-1) x=HV) (e:keepIn K (.ref<|rfO<|OH K Im x)=HV):MR.Raw K x a dV:=⟨_,_,_,_,_,_,_,_,_,_,b,c,d,e⟩
noncomputable def toV:L->L2.V
|.bool b=>.bl b
|.int i _=>.int i
|.str s _=>.str s
|.ref a=>.ref a
|_=>.non
noncomputable def okV:L->NN
|.none=>HV
|.bool _=>HV
|.int _ _=>HV
|.str _ _=>HV
|.ref _=>HV
|_=>HU
theorem mK:∀{v:L},okV v=HV->L2.RelV (toV v) v
|.none,_=>rfl
|.bool _,_=>rfl
|.int _ _,_=>⟨_,rfl⟩
|.str _ _,_=>⟨_,rfl⟩
|.ref _,_=>rfl
|.ellipsis,h=>by cases h
|.notImplemented,h=>by cases h
|.float _ _,h=>by cases h
|.bytes _ _,h=>by cases h
|.type _,h=>by cases h
|.builtin _,h=>by cases h
theorem ku:∀{l:U L},l.all okV=HV->L2.Vals (l.map toV) l
|[],_=>.nil
|v::l,h=>by rw[KH,IK] at h;exact .cons (mK h.1)<|ku h.2
noncomputable def eK (e:N7):Str×O×L:=match e.key with
|.str k t=>(k,t,e.val)
|_=>("",0,e.val)
def tE:B Obj->U (Str×O×L)
|some o=>(ds o.data).map eK
|none=>[]
def tN:B Obj->O
|some o=>ep o.data
|none=>0
def enL (P:II)(l:U<|Str×O×L):U N7:=l.map λe=>en P e.1 e.2.1 e.2.2
def tL (l:U<|Str×O×L):U (Str×L2.V):=l.map λe=>(e.1,toV e.2.2)
theorem j6 {P:II}:∀l:U<|Str×O×L,KeysLit P<|enL P l
|[]=>trivial
|e::l=>⟨⟨_,_,rfl,rfl⟩,j6 l⟩
theorem jR {P:II}:∀{l:U<|Str×O×L},(l.all λe=>okV e.2.2)=HV->PySem.Paired (λ(p:Str×L2.V) (e:N7)=>(∃t,e.key=.str p.1 t)/\L2.RelV p.2 e.val) (tL l) (enL P l)
|[],_=>.nil
|e::l,h=>by rw[KH,IK] at h;exact .cons ⟨⟨_,rfl⟩,mK h.1⟩<|jR h.2
theorem tab_mk {K:Frag}{w:H8}{x:Str}(a:OH K Im x=Y (Y<|.ref<|rfO<|OH K Im x))
  (b:K.lookup (rfO<|OH K Im x)=Y (di (enL w.params<|tE<|K.lookup<|rfO<|OH K Im x)<|tN<|K.lookup<|rfO<|OH K Im x))
  (c:((tE<|K.lookup<|rfO<|OH K Im x).all λe=>okV e.2.2)=HV) (d:(rfO (OH K Im x)==I9)=HU):MR.TabRaw K w x (tL<|tE<|K.lookup<|rfO<|OH K Im x):=
 ⟨_,_,_,a,b,j6 _,jR c,d⟩
def jM {c d:Type}(f:c->d->NN):U c->U d->NN
|[],[]=>HV
|a::l,b::r=>f a b&&jM f l r
|_,_=>HU
def kE (K:Frag):O->M.T->L2.V->NN
|_+1,.int i,.int c=>decide (i=c)
|_+1,.non,.non=>HV
|_+1,.bl a,.bl b=>decide (a=b)
|_+1,.str x,.str y=>decide (x=y)&&M.sOk x
|n+1,.tup e,.ref a=>match K.lookup a with
 |some ⟨.type "tuple",_,.seq d _,_⟩=>Nat.ble d.size 1000&&(d.toList.all okV&&jM (kE K n) e (d.toList.map toV))
 |_=>HU
|_,_,_=>HU
theorem mx {K:Frag}{n:O}(c:∀t v,kE K n t v=HV->MR.CstR K t v):∀{a:U M.T} {b:U L2.V},jM (kE K n) a b=HV->MR.CstRs K a b
|[],[],_=>MR.cst_nil
|t::a,x::b,h=>by unfold jM at h;rw[IK] at h;exact MR.cst_cons (c _ _ h.1)<|mx c h.2
|[],_::_,h=>by cases h
|_::_,[],h=>by cases h
theorem wO {K:Frag}:∀n t v,kE K n t v=HV->MR.CstR K t v:=by
 intro n;induction n with
 |zero=>intro t v h;simp[kE] at h
 | succ n b =>
  intro t v h;unfold kE at h;split at h
  .rename_i q;cases q;have e:=NY h;subst e;exact MR.cst_int _
  .exact MR.cst_non
  .have e:=NY h;subst e;exact MR.cst_bl _
  .rw[IK] at h;have e:=NY h.1;subst e;exact MR.cst_str h.2
  .rename_i q;cases q;split at h
   .rename_i c k d q;rw[IK,IK] at h;have a:=Mk h.1;exact MR.cst_tup q rfl rfl (Ij a<|by decide) (ku h.2.1) (by rw[Ie,JH];exact Ij a<|by decide) (mx b h.2.2)
   .cases h
  .cases h
theorem cst_of {K:Frag}{n:O}:∀{tab:U<|Str×M.T} {T:U<|Str×L2.V},jM (λ(e:Str×M.T) (p:Str×L2.V)=>decide (p.1=e.1)&&kE K n e.2 p.2) tab T=HV->MR.CstL K tab T
|[],[],_=>trivial
|e::tab,p::T,h=>by unfold jM at h;rw[IK,IK] at h;exact⟨⟨NY h.1.1,wO n _ _ h.1.2⟩,cst_of h.2⟩
|[],_::_,h=>by cases h
|_::_,[],h=>by cases h
end TP

namespace MR
open PySem PySem.Spec PyProof.Rows L2 L3
theorem walkX {sx:Str}{C:M.Call}{ix k:O}{l:Mf}{q:NQ}{c:U Str}{v:(Str->B L)->NX->Prop}{o:H8->NX->Prop}{d:DefRec}{K:II->HX}(hp:∀g:U j,g.length<=63->∃m bs,C ix [(.d,.scr g)]=.ok ((m,.bl HV),bs))(G:l.most=Y 63)(i:d.params.defaults=[])(H:Room k JY)
  (D:∀(w:H8) (h:NX),o w h->(K w.params).In h)
  (F:∀ (w:H8) (e:Str->B L) (p:NM) (h:NX),(K w.params).In h->h.Ns Im e->e d.name=Y (.ref p) ->
   ∃r:Jg,(∀(s:HW) (u:L),JZ s r ⟨[u],[]⟩ [(sx,u)])/\∀b:NX,(K w.params).In b->b.Ns Im e->ee l.prog w (K w.params) e b CX0 k p r [sx] (spS (K w.params) C ix [])):
  M6 q c v o l.row.toRowW d [] (λf I=>LO f I):=
 L2.walk_of (n:=63) (k:=k) (x:=sx) (CX:=λ_=>CX0) (sp:=λw=>spS (K w.params) C ix []) G (by decide) i H D F (λ_ _ a g t y A=>Af (hp g t) t y A) λ_ _ _ _ _ z=>z
theorem vG {d:Str}{w:H8}{K:HX}{c:Str->B L}{st:N4}{h:NX}{o:NM}{pr:NQ}{k:O}{sp:Sp}(X:K.In h)(G:h.Ns Im c)(m:c "law"=Y (.ref o))(r:Raw K "law" st .none)(y:∀(kV l n:L) (an:B NM) (g i:L) (s:HW) (v:L),JZ s (JT "law" "law" (defArgs st) (defBody st) (defScope st) .none kV l n an g i) ⟨[v],[]⟩ [(d,v)])
  (ok:∀f b,Fun K "law" "law" st f b->∀a,ee pr w K c a CX0 k f b [d] sp):∃b:Jg,(∀(s:HW) (v:L),JZ s b ⟨[v],[]⟩ [(d,v)])/\∀a:NX,K.In a->a.Ns Im c->ee pr w K c a CX0 k o b [d] sp:=by
 obtain⟨f,z,A,D,kV,l,n,an,g,i,p,t,u,x⟩:=r;have e:=m.symm.trans<|Lm X G p;cases e;exact⟨_,y kV l n an g i,λa _ _=>ok _ _ (tU (st:=st) t u x) a⟩
end MR


namespace L3
open PySem PySem.Spec PyProof.Rows L2
noncomputable abbrev eT1 (h:NX)(a:NM):NX:=h.push {cls:=.type "tuple_iterator",data:=.fields #[.ref a,.int 0 0]}
abbrev eT2 (h:NX)(a:NM):NX:=(eT1 h a).push {cls:=.type "enumerate",data:=.fields #[.none,.bool HU,.ref h.objs.size,JC 0,.none,.none]}
theorem CH {e:Type}{c:Prop}[Decidable c]{M:Model}{A:Il}{E:L->HW->Prop}{s:HW}{a b:Sem e}{Q:e->HW->Prop}(f:NO M A a Q E s)(g:NO M A b Q E s):NO M A (if c then a else b) Q E s:=by
 by_cases d:c
 .rw[NR d];exact f
 .rw[NW d];exact g
theorem jG (a:NM)(c:N5 L):
  Meets (JO.«enumerate.__new__» ⟨[.type "enumerate",.ref a],[]⟩) (λ_ R s=>s.heap.IsTuple a c/\R (.ok<|.ret<|.ref (eT1 s.heap a).objs.size) {s with heap:=eT2 s.heap a}):=
 .of_wp λprog w A R s h=>by
  obtain⟨hp,g,d,f,os⟩:=s;obtain⟨e,h⟩:=h;have b:=sub_enumerate;have e1:Heap.IsTuple (Shared.heap ⟨hp,g,d,f,os⟩) a c:=e
  wp_walk using J1 e1
  refine wpAny_stack λi _ _ _=>Ia ?_;show NO _ _ (if _=HV then(pure (Value.ref a,(none:B L)) >>= _) else(pure (Value.ref a,(none:B L)) >>= _)) _ _ _;refine CH ?_ ?_
  .refine HY (Ia ?_);show NO _ _ (pyIter (.ref a) >>= _) _ _ _
   wp_walk using J1 e1
   exact⟨_,rfl,h⟩
  .refine HY (Ia ?_);show NO _ _ (pyIter (.ref a) >>= _) _ _ _
   wp_walk using J1 e1
   exact⟨_,rfl,h⟩
theorem lO {prog:NQ}{w:H8}{A:Il}{E:L->HW->Prop}{s:HW}{a:NM}{e:N5 L}{Q:L->HW->Prop}(g:s.heap.IsTuple a e)
  (h:∀b,IsEnum b (s.heap.objs.size+1) s.heap.objs.size 0 .none->b.IsTupleIter s.heap.objs.size a 0->(∀c o,s.heap.get? c=Y o->b.get? c=Y o)->Q (.ref<|s.heap.objs.size+1) {s with heap:=b}):
  NO (HZ prog w) A (call (.type "enumerate") [.ref a]) Q E s:=by
 refine callType_new F.called_enumerate (by decide) (F.typeCall_enumerate_1 _) (F.newCall_enumerate_1 _) (λobj=>F.args_object_init_2 obj _) F.entry_enumerate_new (jG a e) ⟨g,?_⟩;have e1:(eT1 s.heap a).objs.size=s.heap.objs.size+1:=Heap.size_push ..;have d:(eT2 s.heap a).get? (eT1 s.heap a).objs.size=Y _:=Heap.get?_push_size _ rfl;have f:(eT2 s.heap a).get? s.heap.objs.size=Y _:=Heap.get?_push_of_some _<|Heap.get?_push_size _ rfl;show _/\_;rw[e1] at d;rw[e1];exact⟨⟨_,d,rfl⟩,h _ d ⟨_,f,rfl,rfl⟩ λc o x=>Heap.get?_push_of_some _<|Heap.get?_push_of_some _ x⟩
theorem nP {prog:NQ}{w:H8}{A:Il}(u:A.handled=J)(b t:NM)(f:t≠b)(d:N5 L):Draws prog w A b [b,t] d.size (λi v=>d[i]?=Y v) (λi h=>h.IsTupleIter b t i/\h.IsTuple t d) where
 live:=λi h a=>let ⟨o,e,_⟩:=a.1;⟨o,e⟩
 frame:=λi h c a k=>⟨a.1.at λo e=>k b (by simp) o e,by obtain⟨o,e,r⟩:=a.2;exact⟨o,k t (by simp) o e,r⟩⟩
 item:=λi s Q E l a q=>by refine f9 a.1 a.2 (x:=d[i]) (Ni l) λc g m=>q _ c s.toks (Ni l) ⟨g,?_⟩ m;obtain⟨o,e,r⟩:=a.2;exact⟨o,(m.2 t f).trans e,r⟩
 done:=λs Q E a q=>eL u a.1 a.2 (Mn<|Ic _) λc e n p=>q c e n p
theorem oS {prog:NQ}{w:H8}{A:Il}(l:A.handled=J)(b t:NM)(n:O)(d:N5 L)(p:d.size<=n):Draws prog w A b [b,t] n (λ_ _=>N2) (λi h=>i=n/\h.IsTupleIter b t n/\h.IsTuple t d) where
 live:=λi h a=>let ⟨o,e,_⟩:=a.2.1;⟨o,e⟩
 frame:=λi h c a k=>⟨a.1,a.2.1.at λo e=>k b (by simp) o e,by obtain⟨o,e,r⟩:=a.2.2;exact⟨o,k t (by simp) o e,r⟩⟩
 item:=λi s Q E m a q=>NP a.1<|Iw m
 done:=λs Q E a q=>eL l a.2.1 a.2.2 (Mn p) λc e f g=>q c e f g
def EX (K:HX)(a:NM):It:=
 ⟨fun i H=>∃ b x,SqT K H a b/\b[i]?=Y x,
  λi H v c=>∃p x,v=.ref p/\H p=J/\c=upd H p (.tup [.int (i:j),x])/\∀b,SqT K H a b->b[i]?=Y x,
  λi H=>∃b,SqT K H a b/\b.length<=i⟩
theorem lb {P:NQ}{w:H8}{K:HX}{es:U NV}{kt:O}{pt:Pos}{e l a:NM}(r:e≠l)(hae:a≠e)(hai:a≠l):lR P w K (.Tuple es kt pt) (EX K a) [e,l] e (λi h=>(∃g,IsEnum h e l (i:j) g)/\h.IsTupleIter l a i) where
 mem:=by simp
 obj:=λi h n b f=>by
  obtain⟨⟨g,m⟩,p⟩:=n;simp only[Ip,Jd,N8] at f;rcases f with rfl|rfl
  .exact⟨_,m,λv y=>by cases y⟩
  .obtain ⟨o,M,_,d⟩:=p;exact⟨o,M,λv y=>by rw[d] at y;cases y⟩
 keep:=λi h D n k=>by obtain⟨⟨g,m⟩,p⟩:=n;exact⟨⟨g,k e (by simp) _ m⟩,p.at λo z=>k l (by simp) o z⟩
 item:=by
  intro X Z hw Q hc i u s σ H E I F n hg;subst Z hw Q;obtain⟨xs,x,G,hx⟩:=hg;obtain⟨⟨g,m⟩,p⟩:=n;obtain⟨c,v1,o1,z1⟩:=I.tuple G;obtain⟨u1,e1,r1⟩:=v1.get hx
  have lt:∀b∈[e,l],b<s.heap.objs.size:=λb f=>by
   simp only[Ip,Jd,N8] at f;rcases f with rfl|rfl
   .exact Heap.lt_size m
   .obtain⟨o,M,_⟩:=p;exact Heap.lt_size M
  have hit:i<c.toArray.size:=by have:=(Jc.mp e1).1;simpa using this
  refine wpAny_pyNext_enum_itemD (nP (A:=X.A.in1) (I.ok.hd hc) l a hai c.toArray) m ⟨p,(show s.heap.IsTuple a c.toArray from o1)⟩ hit r (by simp only[Ip,Jd,N8,not_or];exact⟨r,IM hae⟩) λx' D tk px y1 y2 y3 y4 y5=>⟨_,rfl,?_⟩
  have ex:x'=u1:=by
   have:c[i]?=Y x':=by simpa using px
   rw[e1] at this;cases this;rfl
  subst ex;refine Oe (s:={s with heap:=D,toks:=tk+1}) y1 λN w1 sb=>?_;have t:Heap.SameBut e D N:=sb;have nz:s.heap.objs.size≠e:=JG (lt e<|by simp);have kk:∀b o,b ∉ [e,l]->s.heap.get? b=Y o->N.get? b=Y o:=λb o f z=>by simp only[Ip,Jd,N8,not_or] at f;exact(t.2 b f.1).trans<|y5 b o f.1 f.2 z
  have tp:Ot N s.heap.objs.size [.int (i:j) tk,x'].toArray:=⟨_,(t.2 _ nz).trans y3,rfl,_,rfl⟩
  refine⟨.ref s.heap.objs.size,upd H s.heap.objs.size<|.tup [.int (i:j),x],bL (s:=s) (t':=tk+1) I F kk (Ic _) (by show 2<=sizeLine;decide) (.cons ⟨_,rfl⟩<|.cons r1 .nil) tp,rfl,
   ⟨_,x,rfl,I.fresh,rfl,λzs hz=>by rw[I.tuple_inj hz G];exact hx⟩,?_,λb f=>?_⟩
  .exact⟨⟨_,w1⟩,y2.1.at λo z=>(t.2 _<|IM r).trans z⟩
  .rw[af<|Iw<|lt b f];exact(F b f).1
 done:=by
  intro X Z hw Q hc i u s σ H E I F n hg;subst Z hw Q;obtain⟨xs,G,hl⟩:=hg;obtain⟨⟨g,m⟩,p⟩:=n;obtain⟨c,v1,o1,z1⟩:=I.tuple G;have l1:=v1.length;have l2:c.toArray.size<=i:=by simp;lia
  refine wpAny_pyNext_enum_endD (oS (A:=X.A.in1) (I.ok.hd hc) l a i c.toArray l2) m ⟨rfl,p,(show s.heap.IsTuple a c.toArray from o1)⟩ λD eb=>⟨rfl,dj (t':=s.toks) I F λb o f z=>eb b o (λy=>f<|by simp[y]) z⟩
 self:=λ_ _ _ _ _ n h=>by obtain⟨⟨g,m⟩,_⟩:=n;exact Li m h
def qb (K:HX)(c:TA):TI:=λf H R=>c f H λd b=>∃a,d=[.ref a]/\(∃e,SqT K b a e)/\R (EX K a) b
theorem qD {X:Cx}{a:NV}{v:TA}{p g pt:Pos}{x:U NV}{M:O}(A:Gl X "enumerate")(D:X.mg "enumerate"=J)(z:PA X [a] v)(F:H9 [a] X.env=[(HU,N3 a X.env)]:=by rfl):
  PI X (.Tuple x M pt) (.Call (.Name "enumerate" p) [a] [] g) (qb X.K v):=by
 intro f s Q H R I h;refine Call_<|dq I A D boot_enumerate<|K5 (thn (z g f s Q H _ I h) λZ i ⟨vs,w,k,r1,l⟩=>?_) F rfl;obtain⟨a,rfl,⟨xs,n⟩,q⟩:=l;cases r1 with
 | cons r P =>
  cases P;cases r;obtain⟨m,v1,u,z1⟩:=k.tuple n;have d:a<i.heap.objs.size:=by obtain⟨o,e,_⟩:=u;exact Heap.lt_size e
  refine lO (show i.heap.IsTuple a m.toArray from u) λy l N G=>?_;refine Li (s:={i with heap:=y}) l ?_;refine⟨_,_,_,_,w,rfl,k.kept (t':=i.toks) G,lb (ML _) (Iw<|Nat.lt_succ_of_lt d)<|Iw d,⟨⟨_,l⟩,N⟩,λb t=>?_,q⟩;have c:i.heap.objs.size<=b:=by simp only[Ip,Jd,N8] at t;rcases t with e|e<;>(rw[e];first|exact LY _ _|exact Ic _)
  exact k.fpOk c<|k.hok.fresh c
end L3
namespace MR
open PySem PySem.Spec PyProof.Rows L2 L3
section
variable {X:Cx}{sf sg:O->B O}{C:M.Call}{pos p p2 p3:Pos}{ea eb ec:NV}{a b c:M.E}{h:NN}{n:O}{io:U O}{K:HX}
theorem uH {e:M.E}(I:L2.St)(H:Hp)(R:It->Hp->Prop)(h:wI K sf C 2 .enmT [e] I H R):qb K (wL K sf C [e]) I H R:=by
 obtain⟨pv,Z,N,η,ws,w,ts,A,ev,F,k⟩:=h;refine⟨pv,Z,N,η,ws,w,A,ev,λvs Z' P v G f r s=>?_⟩;obtain⟨⟨m,a⟩,η1,us,e1,e2,rfl⟩:=aq ev;cases e2;obtain⟨x,rfl,r1⟩:=bh rfl r;obtain⟨t,rfl⟩:∃t,a=.tup t:=by cases a<;>first|exact⟨_,rfl⟩|cases F
 cases F;obtain⟨a,u,rfl,q,l,p⟩:=Rep.sh r1;have l1:=p.length;refine⟨a,rfl,⟨u,q⟩,k _ _ P v f.freeze (aO f.own s) ⟨λD i s g=>?_,λD i s g=>?_,by rw[a4];lia⟩ λD i x H1 s g y=>?_⟩
 .rw [a4] at g;exact⟨u,u[i]'(by lia),s.sqt q,by simp⟩
 .rw [a4] at g;exact⟨u,s.sqt q,by lia⟩
 .rw [a4] at g;obtain⟨Q,x1,rfl,hp,rfl,hx⟩:=y;obtain⟨x',o,rx⟩:=p.get (show t[i]?=Y t[i] by simp);rw[hx u<|s.sqt q] at o;cases o;refine⟨Q,.int i,x1,(.d,.int ((0+i:O):j)),(.s,t[i]),rfl,lP hp,.inl<|.inl ag,eC<|by simp,?_,rx.sany.keep s (λ_ z=>z) λ_ _ z=>z.elim⟩;show V.int (i:j)=V.int ((0+i:O):j);rw[Jx]
theorem zE {e:U NV}{g:O}{pt p:Pos}(hm:X.mg "enumerate"=J)(f:Gl X "enumerate":=by rfl)(ha:SE X sf C ea a)(d:H9 [ea] X.env=[(HU,N3 ea X.env)]:=by rfl):PI X (.Tuple e g pt) (.Call (.Name "enumerate" p) [ea] [] pos) (wI X.K sf C 2 .enmT [a]):=fV (qD f hm (slc ha sl0 d) d) uH
end
end MR

namespace L3
open PySem PySem.Spec PyProof.Rows L2
theorem Gi {prog:NQ}{w:H8}{A:Il}{E:L->HW->Prop}{s:HW}{t b:NM}{l:U L}{Q:L->HW->Prop}(r:Ot s.heap t ([]:U L).toArray)(p:Ot s.heap b l.toArray)(h:Q (.ref b) s):NO (HZ prog w) A (IU .Add (.ref t)<|.ref b) Q E s:=by
 obtain⟨⟨m,o,i,v⟩,ho,k,n,hd⟩:=id r;obtain⟨⟨g,e,data2,f⟩,d,a,u,c⟩:=id p;simp only at k hd a c;subst k hd a c
 exact OD ⟨_,ho,rfl⟩ ⟨_,d,rfl⟩ LK Ow Mo Mr (Mt _ _)
  (tuple_addW0 t b ([]:U L).toArray l.toArray n u o e v f rfl) ⟨ho,d,h⟩
def yE (K:HX):R2:=λx y H Q=>∃a b e f,x=.ref a/\y=.ref b/\SqT K H a e/\SqT K H b f/\e.length+f.length<=sizeLine/\∀v d,Same H d->(∃c,v=.ref c/\SqT K d c (e++f))->Q v d
theorem xp {X:Cx}:OpR X (IU .Add) (yE X.K):=λc s p H x y v u Q I rx i h=>by
 obtain⟨a,b,k,o,e1,e2,f,d,l,q⟩:=h;by_cases hx:k=[]
 .subst hx e1 e2;cases rx;cases i;obtain⟨e,r1,m,_⟩:=I.tuple f;obtain⟨g,r2,n,_⟩:=I.tuple d;have:e=[]:=by cases r1;rfl
  subst this;exact Gi m n ⟨.ref b,H,I,rfl,q _ _ (Same.refl _) ⟨b,rfl,d⟩⟩
 .exact l7 c s p H x y v u Q I rx i ⟨a,b,k,o,e1,e2,f,d,hx,l,q⟩
theorem xE {X:Cx}{o e:NV}{a c:Pos}{ty:TE}{ad:NM}{T:U<|Str×V}(D:DTab X.K X.w ad T)(ho:PE X o<|tC<|.ref ad)(M:PE X e ty)(m:M1 X o "get" a e c):PE X (.Call (.Attribute o "get" a) [e] [] c) (λk H Q=>ty k H λy g=>∃z,y=.str z/\Q ((T.lookup z).getD .non) g):=by
 intro d s k H Q I h;refine Lf m.base m.few m.line Lx Ko Ml<|thn (ho d s k H (λx l=>x=.ref ad/\ty k l λy g=>∃z,y=.str z/\Q ((T.lookup z).getD .non) g) I ⟨rfl,h⟩) λu s1 ⟨x,l,p,rx,A,q1⟩=>?_;subst A;obtain rfl:u=Value.ref ad:=rx;obtain⟨f,N,hf⟩:=D.map (P:=X.prog) p.kIn;obtain⟨es,n,Z,k2,k3⟩:=D.ex;refine⟨N.typeIs,λb q=>?_,?_⟩
 .cases q;exact⟨_,p.kIn _ _ Z,rfl⟩
 rw[m.trees];refine Calls.callWith_builtin rfl (Calls.evalArgs_plain<|Calls.spliced_cons<|thn (M d s1 k l _ p q1) λiv s2 ⟨y,g,v,ry,z,F,q2⟩=>Calls.spliced_nil ?_);subst F;obtain⟨t,rfl⟩:=ry;obtain⟨G,i,r⟩:=D.map (P:=X.prog) v.kIn;exact KS Ko i.typeIs Lu (Mq _ _) (meets_dict_get (strKind X.prog X.w) ad (KN X.prog X.w z t) D.lo) ⟨G,i,(T.lookup z).getD .non,g,v.tok _,(r z).getD<|show L2.RelV .non Value.none from rfl,q2⟩
end L3
namespace MR
open PySem PySem.Spec PyProof.Rows L2 L3
section
variable {X:Cx}{sf sg:O->B O}{C:M.Call}{pos p p2 p3:Pos}{ea eb ec:NV}{a b c:M.E}{h:NN}{n:O}{io:U O}{K:HX}
theorem pL:Loc K 2 .catT h λf H Q=>∀x y,f=[x,y]->yE K x y H Q:=by
 intro ws w f Z H G Q hn e r N za k x y hx;subst hx;obtain⟨⟨m,a⟩,⟨n,b⟩,rfl⟩:=cj r.length.symm;obtain⟨G1,G2,P,w2,d,r1,r2⟩:=bf r;cases a with
 | tup t =>
  cases b with
  | tup u =>
   have g:(if M.fits (t.length+u.length)=HV then Y ((.s,.tup (t++u)):M.W) else J)=Y w:=e;split at g
   .rename_i A;cases g;obtain⟨a,f,rfl,F,hl,p⟩:=bT r1;obtain⟨b,ys,rfl,l,D,p2⟩:=bT r2;have o:=cw A;have e1:=p.length;have e2:=p2.length;refine⟨a,b,f,ys,rfl,rfl,F,l,LIM_le (by lia),λv H' same I=>fW (m:=.s) (G':=no) N (λ_ z=>z.elim) (by rw[IA];lia) (RepL.append (G1:=no) (G2:=no) (λ_ z=>z) (λ_ z=>z) (λ_ z _=>z) ((RepL.sh p).zmono λb i=>?_) ((RepL.sh p2).zmono λb i=>?_)) k same I⟩
    .exact i.imp id λz=>⟨P b z,λq=>q⟩
    .exact i.imp id λz=>⟨w2 b z,λq=>q⟩
   .cases g
  |_=>cases e
 |_=>cases e
theorem cG (d:SE X sf C ea a)(e:SE X sf C eb b):SE X sf C (.BinOp ea .Add eb pos) (.op .catT h [a,b]):=av (eM xp d e)<|aH pL
theorem wx {w:H8}{ad:NM}{T:U<|Str×V}{tab:U<|Str×M.T}{e:M.E}(ht:∀z,match tab.lookup z with
  |some t=>∃v,T.lookup z=Y v/\CstR K t v
  |none=>T.lookup z=J) (I:L2.St) (H:Hp) (Q:VK) (h:wE K sf C (.getT tab e) I H Q):wE K sf C e I H λy P=>∃z,y=.str z/\Q ((T.lookup z).getD .non) P:=by
 obtain⟨pv,Z,N,F,D,η',A,ev,k⟩:=h;obtain⟨⟨u,η1⟩,h1,h2⟩:=aa<|show(M.evE C e F).bind (M.kGet tab)=_ from ev;obtain⟨z,e1,e2,e3⟩:=jN h2;cases e2;refine⟨pv,Z,N,F,u,_,A,h1,λy i g f G d r s=>?_⟩;obtain⟨m,t0⟩:=u;cases(show t0=_ from e1);have q:=ht z;refine⟨z,r.1,?_⟩;cases x:tab.lookup z with
 |none=>rw[x] at q e3;rw[show T.lookup z=J from q];have l:D=(.s,.non):=e3;subst l;exact k _ i g f no d.bare rfl (s.mono (λ_ z=>z) λa o=>o.elim .inl λz=>z.elim)
 |some t=>rw[x] at q e3;obtain⟨v,q1,q2⟩:=q;rw[q1];have l:D=(.s,t):=e3;subst l;exact k v i g f no d.bare (q2 i g)<|s.mono (λ_ z=>z) λa o=>o.elim .inl λz=>z.elim
theorem Dl {x:Str}{tab:U<|Str×M.T}{d e:Pos}(T:jr X.K X.w X.mg x tab)(f:SE X sf C ea a)(g:Gl X x:=by rfl)(hd:(x==("__debug__":Str))=false:=by decide)(m:M1 X (.Name x p2) "get" d ea e:=by exact⟨rfl,rfl,rfl,rfl⟩):SE X sf C (.Call (.Attribute (.Name x p2) "get" d) [ea] [] e) (.getT tab a):=by obtain⟨ad,l,i,D,k⟩:=T;exact av (xE D (gq g i hd) f m)<|wx (w:=X.w) (ad:=ad) k
theorem uQ {Z:Fp}{H:Hp}{G:Fp}{Q:VK}{p:NM}(e:Own Z H G)(f:∀a,Z a->H a≠J)(k:Out K Z H G (.d,.dct [] []) Q)(hp:H p=J):Q (.ref p) (upd H p<|.dK []):=by refine k _ Z _ (λa=>a=p) ⟨p,[],rfl,Jo _,⟨rfl,ag⟩,⟨L8,λ_ z=>nomatch z⟩,rfl,rfl⟩ ?_<|dZ hp e (λa h=>.inr h) Z (λ_ z=>z) λ_ z=>.inl z;rintro a rfl;exact⟨λz=>f a z hp,.inr [],ag⟩
theorem xk (e:L2.St)(H:Hp)(Q:VK)(l:wE K sf C (.op .dnew h []) e H Q):pX e H Q:=by obtain⟨m,Z,d,r,w,s,A,ev,k⟩:=l;obtain⟨t,g,i⟩:=bS ev;cases g;cases i;intro p hp;have f:At K ⟨sf,m⟩ e Z H d r no:=A;have o:=bb (F:=tot d) f ((Step.refl Z H<|tot d).mono (λ_ z=>z) λ_ z=>z.elim id λq=>q.elim) k;exact uQ bj A.gd.zal o hp
theorem yG:SE X sf C (.Dict [] [] pos) (.op .dnew h []):=av tI xk
end
end MR


namespace MR
open L2 L3 M
open PySem (Addr Str sizeLine)
section
variable {K:HX}{Wx:L2.St->VK}{sl:Cf}{sf sg:O->B O}{C:Call}{σ σ2:L2.St}{Z Z' Z1:Fp}{H H' H1:Hp}{Fs Fs' Fs1:Fps}{η η' η1 ηb:Env}{G G' G1 R F F':Fp}{tg is vs ls io:U O}{pv val:O->B V}{D:bp}
theorem xO {Z:Fp}{H:Hp}{G:Fp}{a:NM}{o:HO}{m:Md}(b:m≠.s)(h:G a/\H a=Y o):DctR Z H G a o m:=by
 cases m with
 |s=>exact NP rfl b
 |d=>exact h
 |o m=>exact h
theorem mE {i:O}{a:NM}{f:U<|j ⊕ Str}{vs':U T}{g:U V}{m':Md}(hm:m'≠.s)(A:At K ⟨sf,pv⟩ σ Z H Fs η G){w0:W}(hi:rd η i=Y w0)(ha:Fs i a)(hx:∀d,sf i=Y d->σ[d]?=Y (Y<|.ref a))(hl:f.length<=LIM)(hnd:f.Nodup/\∀k∈f,kOk k=HV)(hvl:vs'.length=f.length)(hpv:∀u,pv i=Y u->V.ref a=u)
  (hg:∀b,G' b->(Fs i b\/G b)/\b≠a) (hR:∀b,R b->(Fs i b\/G b)/\b≠a) (hRG:∀b,R b->¬G' b) (p:RepL K (λb=>Z b\/((Fs i b\/G b)/\b≠a/\¬G' b/\¬R b)) H (dmd m') vs' g λ_=>N2) {Q:Hp->Prop}
  (k:∀Z' Fs',At K ⟨sf,pv⟩ σ Z' (upd H a<|.dK<|mkD f g) Fs' (M.put η i (m',.dct f vs')) R->Step Z H (λb=>tot Fs b\/G b) Z' (upd H a<|.dK<|mkD f g) (λb=>tot Fs' b\/R b)->(∀{m t v},Rep K (λb=>Z b\/((Fs i b\/G b)/\b≠a/\¬G' b/\¬R b)) H m t v R->Rep K Z' (upd H a<|.dK<|mkD f g) m t v R)->Q (upd H a<|.dK<|mkD f g)):Q (upd H a<|.dK<|mkD f g):=by
 have N:tot Fs a:=⟨i,ha⟩;obtain⟨nza,ys,hya⟩:=A.gd.own a N;have nGa:¬G a:=λq=>A.dis a q N
 have I:∀b,(Z b\/((Fs i b\/G b)/\b≠a/\¬G' b/\¬R b))->b≠a:=λb h z=>by
  subst z;rcases h with h|h
  .exact nza h
  .exact h.2.1 rfl
 have keep:∀b o,H b=Y o->b≠a->upd H a (.dK (mkD f g)) b=Y o:=λb o e w=>by rw[af w];exact e
 have neT:∀b xs,H b=Y (.tup xs)->b≠a:=λb xs e z=>by rw[z,hya] at e;exact jo e.symm
 have neF:∀b o u,H b=Y (.frz o u)->b≠a:=λb o u e z=>by rw[z,hya] at e;exact eB e.symm
 have stay:∀{c:Fp},(∀b,c b->b≠a)->Stay c H (upd H a (.dK (mkD f g))):=λ{c} hY=>⟨λb o w e=>keep b o e<|hY b w,λb xs e=>by
  rcases e with e|⟨u,e⟩
  .exact .inl (keep b _ e<|neT b xs e)
  .exact .inr ⟨u,keep b _ e<|neF b u _ e⟩,λb o u e=>keep b _ e<|neF b o u e⟩
 have al:∀b,H b≠J->upd H a (.dK (mkD f g)) b≠none:=λb h=>by
  by_cases e:b=a
  .rw[e,ag];simp
  .rw[af e];exact h
 have P:∀b,(Z b\/((Fs i b\/G b)/\b≠a/\¬G' b/\¬R b))->H b≠none:=λb h=>by
  rcases h with h|⟨h|h,_⟩
  .exact A.gd.zal b h
  .obtain⟨_,zs,e⟩:=A.gd.own b ⟨i,h⟩;rw[e];simp
  .obtain⟨_,zs,e⟩:=A.own b h;rw[e];simp
 have listAt:∀b,(tot Fs b\/G b)->∃zs:OO,upd H a (.dK (mkD f g)) b=Y zs.ho:=λb h=>by
  by_cases e:b=a
  .exact⟨(.inr<|mkD f g),by rw[e,ag];rfl⟩
  .rcases h with h | h
   .obtain⟨_,zs,q⟩:=A.gd.own b h;exact⟨zs,by rw[af e];exact q⟩
   .obtain⟨_,zs,q⟩:=A.own b h;exact⟨zs,by rw[af e];exact q⟩
 have nZ:∀b,(Fs i b\/G b)->¬Z b:=λb h z=>h.elim (λy=>(A.gd.own b ⟨i,y⟩).1 z) λy=>(A.own b y).1 z
 have cn:∀b,tot (jX Fs i λb=>G' b\/b=a) b->(∃d,d≠i/\Fs d b)\/G' b\/b=a:=λb h=>by
  obtain⟨d,h|h⟩:=h
  .exact .inr h.2
  .exact .inl ⟨d,h⟩
 refine k (λb=>Z b\/((Fs i b\/G b)/\b≠a/\¬G' b/\¬R b)) (jX Fs i λb=>G' b\/b=a) ⟨⟨λb h=>⟨λz=>?_,?_⟩,λd l b x hk=>?_,λb h=>al b<|P b h⟩,λl m t e=>?_,λb h=>⟨λz=>?_,listAt b<|(hR b h).1.imp (λz=>⟨i,z⟩) id⟩,λb h q=>?_,A.lk,A.ln⟩ ⟨λb o e n=>keep b o e λz=>n<|.inl<|z ▸ N,λb h=>.inl h,λb h=>h.imp id λq=>.inl<|q.1.imp (λz=>⟨i,z⟩) id,λb h=>?_,al,λ_ b h=>al b<|P b h⟩ λ{m t v} r=>r.keep (stay I) (λ_ z=>z) λb o w e=>keep b o e (hR b w).2
 .rcases cn b h with ⟨d,x,q⟩ | q | q
  .rcases z with z | ⟨z | z,_⟩
   .exact(A.gd.own b ⟨d,q⟩).1 z
   .exact x (A.gd.dis d i b q z)
   .exact A.dis b z ⟨d,q⟩
  .rcases z with z | z
   .exact nZ b (hg b q).1 z
   .exact z.2.2.1 q
  .exact I b z q
 .rcases cn b h with ⟨d,x,q⟩ | q | q
  .exact listAt b (.inl ⟨d,q⟩)
  .exact listAt b ((hg b q).1.imp (λz=>⟨i,z⟩) id)
  .exact⟨(.inr<|mkD f g),by rw[q,ag];rfl⟩
 .have key:∀ {d:O},(G' b\/b=a)->Fs d b->d=i:=fun {d} h q=>by
   rcases h with h|h
   .rcases (hg b h).1 with y | y
    .exact A.gd.dis d i b q y
    .exact NP ⟨d,q⟩ (A.dis b y)
   .rw[h] at q;exact A.gd.dis d i a q ha
  rcases x with⟨rfl,x⟩|⟨nj,x⟩
  .rcases hk with ⟨rfl,_⟩ | ⟨nk,hk⟩
   .rfl
   .exact NP (key x hk) nk
  .rcases hk with ⟨rfl,hk⟩ | ⟨nk,hk⟩
   .exact NP (key hk x) nj
   .exact A.gd.dis d l b x hk
 .rw [bo] at e;split at e
  .rename_i hc;obtain⟨rfl,_⟩:=hc;cases e;refine⟨.ref a,⟨a,g,rfl,hl,xO hm ⟨.inl ⟨rfl,.inr rfl⟩,ag⟩,hnd,hvl,?_⟩,hx,hpv⟩;exact p.keep (stay I) (λ_ z=>z) λb o w e=>w.elim
  .rename_i hc;have hl':l≠i:=λz=>hc ⟨z,cM hi⟩;obtain⟨v,r,h⟩:=A.env l m t e;have nea:∀b,Fs l b->b≠a:=λb q z=>hl'<|A.gd.dis l i a (z ▸ q) ha;exact⟨v,((r.keep (stay λb w z=>nza<|z ▸ w) (λ_ z=>z) λb o w e=>keep b o e<|nea b w).zmono λb h=>.inl h).mono λb h=>.inr ⟨hl',h⟩,h⟩
 .rcases z with z | z
  .exact nZ b (hR b h).1 z
  .exact z.2.2.2 h
 .rcases cn b q with ⟨d,x,y⟩ | y | y
  .rcases (hR b h).1 with z | z
   .exact x (A.gd.dis d i b y z)
   .exact A.dis b z ⟨d,y⟩
  .exact hRG b h y
  .exact(hR b h).2 y
 .rcases h with h | h
  .rcases cn b h with ⟨d,_,q⟩ | q | q
   .exact .inl (.inl ⟨d,q⟩)
   .exact .inl ((hg b q).1.imp (λz=>⟨i,z⟩) id)
   .exact .inl (.inl<|q ▸ N)
  .exact .inl ((hR b h).1.imp (λz=>⟨i,z⟩) id)
theorem mT {m:Md}{b:U<|j ⊕ Str}{vs:U T}{v:V}(g:m≠.s)(r:Rep K Z H m (.dct b vs) v G):∃a c,v=.ref a/\b.length<=LIM/\G a/\H a=Y (.dK<|mkD b c)/\(b.Nodup/\∀k∈b,kOk k=HV)/\vs.length=b.length/\RepL K Z H (dmd m) vs c (λ_=>N2):=by
 obtain⟨a,c,e,l,q,n,f,p⟩:=r;cases m with
 |s=>exact NP rfl g
 |d=>exact⟨a,c,e,l,q.1,q.2,n,f,p⟩
 |o m=>exact⟨a,c,e,l,q.1,q.2,n,f,p⟩
def kT:j ⊕ Str->T
|.inl n=>.int n
|.inr x=>.str x
theorem dJ {k:T}{q:j ⊕ Str}(h:keyT k=Y q):k=kT q:=by
 cases k with
 |int n=>cases h;rfl
 |str x=>cases h;rfl
 |_=>cases h
theorem jt {m:Md}{q:j ⊕ Str}{v:V}(r:Rep K Z H m (kT q) v G):v=kV q/\kOk q=true:=by
 cases q with
 |inl n=>exact⟨r,rfl⟩
 |inr x=>exact⟨r.1,r.2⟩
noncomputable def lS (k:j ⊕ Str)(y:V):U (j ⊕ Str)->U V->U V
|[],_=>[y]
|z::b,x::a=>if z=k then y::a else x::lS k y b a
|_::_,[]=>[]
theorem gA (k:j ⊕ Str)(t:T):∀(c:U<|j ⊕ Str) (vs:U T),vs.length=c.length->(putT k t c vs).2.length=(putT k t c vs).1.length/\(putT k t c vs).1.length<=c.length+1
|[],[],_=>⟨rfl,Ic _⟩
|[],_::_,e=>by cases e
|_::_,[],e=>by cases e
| z::d,v::vs,e=>by
 unfold putT;split
 .exact⟨e,Nat.le_succ _⟩
 .obtain ⟨a,b⟩:=gA k t d vs<|JS e;exact⟨by rw[Ii,Ii,a],by rw[Ii,Ii];lia⟩
theorem ed (k:j ⊕ Str)(t:T):∀(a:U<|j ⊕ Str) (vs:U T),vs.length=a.length->∀z,z∈(putT k t a vs).1 ↔ z=k\/z∈a
|[],[],_,z=>by simp[putT]
|[],_::_,e,_=>by cases e
|_::_,[],e,_=>by cases e
| y::c,v::vs,e,z=>by
 unfold putT;split
 .rename_i b;subst b;simp
 .have:=ed k t c vs (JS e) z;rw[Ip,this,Ip];constructor
  .rintro (h | h | h)
   .exact .inr (.inl h)
   .exact .inl h
   .exact .inr (.inr h)
  .rintro (h | h | h)
   .exact .inr (.inl h)
   .exact .inl h
   .exact .inr (.inr h)
theorem dw (k:j ⊕ Str)(t:T):∀(a:U<|j ⊕ Str) (vs:U T),vs.length=a.length->a.Nodup->(putT k t a vs).1.Nodup
|[],[],_,_=>by simp[putT]
|[],_::_,e,_=>by cases e
|_::_,[],e,_=>by cases e
| y::b,v::vs,e,h=>by
 unfold putT;split
 .exact h
 .rename_i f;obtain⟨c,d⟩:=Jt.mp h;refine Jt.mpr ⟨λq=>?_,dw k t b vs (JS e) d⟩;rcases(ed k t b vs (JS e) y).mp q with q|q
  .exact f q
  .exact c q
theorem i9 (k:j ⊕ Str)(t:T)(y:V):∀(g:U<|j ⊕ Str) (vs:U T) (c:U V),vs.length=g.length->c.length=g.length->g.Nodup->bQ (mkD g c) k y=mkD (putT k t g vs).1 (lS k y g c)
|[],[],[],_,_,_=>rfl
|[],[],_::_,_,e,_=>by cases e
|[],_::_,_,e,_,_=>by cases e
|_::_,[],_,e,_,_=>by cases e
|_::_,_::_,[],_,e,_=>by cases e
| z::d,v::vs,x::c,e1,e2,o=>by
 obtain⟨m,n⟩:=Jt.mp o;have l:=i9 k t y d vs c (JS e1) (JS e2) n;unfold putT lS;by_cases f:z=k
 .rw [NR f,NR f];subst f;have i:∀p∈mkD d c,p.1≠z:=λp hp q=>by obtain⟨a,b⟩:=p;have:=(LJ hp).1;have r:a=z:=q;rw[r] at this;exact m this
  show bQ ((z,x)::mkD d c) z y=(z,y)::mkD d c;unfold bQ;rw[NR<|by simp];rw[Io,NR rfl];congr 1
  conv=>rhs;rw[<- MT (mkD d c)]
  refine LF λp hp=>?_;rw[NW<|i p hp];rfl
 .rw [NW f,NW f];show bQ ((z,x)::mkD d c) k y=(z,x)::mkD (putT k t d vs).1 (lS k y d c);rw[<- l];have h:¬(z=k):=f;unfold bQ;rw[IS,N0 h,M5];split
  .rw[Io,NW h]
  .rfl
end
end MR





namespace MR
open L2 L3 M
open PySem (Addr Str sizeLine)
section
variable {K:HX}{Wx:L2.St->VK}{sl:Cf}{sf sg:O->B O}{C:Call}{σ σ2:L2.St}{Z Z' Z1:Fp}{H H' H1:Hp}{Fs Fs' Fs1:Fps}{η η' η1 ηb:Env}{G G' G1 R F F':Fp}{tg is vs ls io:U O}{pv val:O->B V}{D:bp}
theorem ot {u kw w r:W}(h:dC u kw w=Y r):∃m c vs n k,u=(m,.dct c vs)/\kw=(n,kT k)/\m≠.s/\c.length<LIM/\r=(.o .s,.dct (putT k w.2 c vs).1 (putT k w.2 c vs).2):=by
 obtain⟨m,t⟩:=u;obtain⟨n,k⟩:=kw;obtain⟨p,x⟩:=w
 have g:∀c vs,((keyT k).bind λq=>if(decide (c.length<LIM))=HV then Y ((.o .s,.dct (putT q x c vs).1 (putT q x c vs).2):W) else J)=Y r->∃f,(n,k)=(n,kT f)/\c.length<LIM/\r=(.o .s,.dct (putT f x c vs).1 (putT f x c vs).2):=λc vs h=>by
  cases e:keyT k with
  |none=>rw[e] at h;cases h
  | some q =>
   rw[e] at h;have i:(if(decide (c.length<LIM))=HV then Y ((.o .s,.dct (putT q x c vs).1 (putT q x c vs).2):W) else J)=Y r:=h;split at i
   .rename_i l;cases i;exact⟨q,by rw[dJ e],NY l,rfl⟩
   .cases i
 cases m<;>first|(cases h;done)|(cases t<;>try (cases h;done))
 .obtain ⟨f,a,b,d⟩:=g _ _ h;exact⟨.d,_,_,n,f,rfl,a,by simp,b,d⟩
 .obtain ⟨f,a,b,d⟩:=g _ _ h;exact⟨.o _,_,_,n,f,rfl,a,by simp,b,d⟩
theorem eF {k:j ⊕ Str}{t:T}{y:V}(g:Rep K Z H .s t y no):∀(d:U<|j ⊕ Str) (vs:U T) (c:U V),vs.length=d.length->RepL K Z H .s vs c (λ_=>N2)->RepL K Z H .s (putT k t d vs).2 (lS k y d c) (λ_=>N2)
|[],[],c,_,r=>by cases r;exact⟨y,[],λ_=>N2,λ_=>N2,rfl,λ_ z=>z,λ_ z=>z,λ_ z=>z.elim,g,rfl⟩
|[],_::_,_,e,_=>by cases e
|_::_,[],_,e,_=>by cases e
| z::i,v::vs,c,e,⟨x,f,G1,l,m,n,h,hd,p,q⟩=>by
 subst m;unfold putT lS;by_cases b:z=k
 .rw [NR b,NR b];exact⟨y,f,λ_=>N2,l,rfl,λ_ z=>z,h,λ_ z=>z.elim,g,q⟩
 .rw [NW b,NW b];exact⟨x,lS k y i f,G1,λ_=>N2,rfl,n,λ_ z=>z,λa _ z=>z,p,eF g i vs f (JS e)<|q.mono h⟩
theorem w6 {x:M.X}{i d:O}{k e:E}(hs:sf i=Y d)(D:bp)(σ:L2.St)(H:Hp)(h:wS K Wx sf io C (.setS x i k e) D σ H):
  wE K sf C e σ H λy H1=>iR d σ H1 λo H1=>wE K sf C k σ H1 λz H2=>∃a Q q,o=.ref a/\z=kV q/\H2 a=Y (.dK Q)/\Q.length<sizeLine/\D.nx σ (upd H2 a<|.dK<|bQ Q q y):=by
 obtain⟨pv,Z,Fs,η,N,A,f⟩:=h;obtain⟨⟨w,η1⟩,h2,h3⟩:=aU<|show Fin K Wx ⟨sf,pv⟩ Z H (tot Fs) D (Fl.of η (evX C x e η)<|ma i (evX C x k) η) from f;obtain⟨⟨kw,l⟩,h6,h7⟩:=aU<|show Fin K Wx ⟨sf,pv⟩ Z H (tot Fs) D (Fl.of η (evX C x k η1)<|lG i w) from h3;obtain⟨η3,v,h5⟩:=dY<|show Fin K Wx ⟨sf,pv⟩ Z H (tot Fs) D (nxO l<|((rd l i).bind λu=>dC u kw w).map λu=>M.put l i u) from h7;refine iK (sl:=⟨sf,pv⟩) A h2 λy Z' H' Fs' G c r s=>?_;cases e1:rd l i with
 |none=>rw[e1] at v;cases v
 | some u1 =>
  rw[e1] at v;cases e2:dC u1 kw w with
  |none=>rw[show(Y u1).bind (λu=>dC u kw w)=dC u1 kw w from rfl,e2] at v;cases v
  | some r1 =>
   rw[show(Y u1).bind (λu=>dC u kw w)=dC u1 kw w from rfl,e2] at v;cases v;obtain⟨m,t,vs,n,P,rfl,rfl,hm,hlen,rfl⟩:=ot e2;have n1:rd η1 i≠none:=λz=>by rw[qx h6 i z] at e1;cases e1
   cases e3:rd η1 i with
   |none=>exact NP e3 n1
   | some u3 =>
    obtain⟨v3,r3,l3,p3⟩:=c.env i u3.1 u3.2 e3;refine⟨v3,l3 d hs,iK (sl:=⟨sf,pv⟩) c.bare h6 λz Z2 H2 Fs2 G2 B2 rz s2=>?_⟩;obtain⟨B3,s3,d3⟩:=c.frame B2 s2;have r':=r.frame c.gd.own s2 c.dis;have B4:=B3.mono (G':=G) λ_ z=>.inl z;obtain⟨v4,r4,l4,p4⟩:=B4.env i m _ e1;have hv:v3=v4:=by have e5:=l3 d hs;have e6:=l4 d hs;rw[e5] at e6;cases e6;rfl
    subst hv;obtain⟨a,xs,rfl,hl,hf,hx,I,g,p⟩:=mT hm r4;have hxl:xs.length=t.length:=by rw[p.length,g]
    obtain⟨q1,q2⟩:=gA P w.2 t vs g;have rz':z=kV P/\kOk P=true:=jt rz;have nGa:¬G a:=λq=>B4.dis a q ⟨i,hf⟩;have pS:RepL K (λb=>Z2 b\/((Fs2 i b\/G b)/\b≠a/\¬no b/\¬no b)) H2 .s vs xs (λ_=>N2):=by have:=RepL.sh p;exact(this.zmono λb h=>h.elim .inl λz=>z.elim).mono λ_ z=>z
    have rS:Rep K (λb=>Z2 b\/((Fs2 i b\/G b)/\b≠a/\¬no b/\¬no b)) H2 .s w.2 y no:=(Rep.sh r').zmono λb h=>h.imp id λq=>⟨.inr q,λe=>nGa<|e ▸ q,λz=>z,λz=>z⟩;refine⟨a,mkD t xs,P,rfl,rz'.1,hx,?_,?_⟩
    .show (t.zip xs).length<_;rw[MC,hxl,MV];exact IF hlen<|LIM_le<|Ic _
    .rw [i9 P w.2 y t vs xs g hxl I.1];exact mE (K:=K) (m':=.o .s) (G':=no) (R:=no) (by simp) B4 e1 hf (λk hk=>by rw[show sf i=Y k from hk] at hs;cases hs;exact l3 _ hk) (by lia) ⟨dw P w.2 t vs g I.1,λz hz=>((ed P w.2 t vs g z).mp hz).elim (λe=>e ▸ rz'.2)<|I.2 z⟩ q1 p4 (λ_ z=>z.elim) (λ_ z=>z.elim) (λ_ z=>z.elim) (eF rS t vs xs g pS) λZ5 Fs5 B5 s5 _=>h5 σ Z5 _ Fs5 B5<|(s.trans<|s3.mono (λ_ z=>z) λb h=>h.imp id .inl).trans<|s5.mono (λ_ z=>z) λ_ z=>.inl z
end
end MR
namespace MR
open PySem PySem.Spec PyProof.Rows L2 L3
section
variable {X:Cx}{sf sg:O->B O}{C:M.Call}{pos p p2 p3:Pos}{ea eb ec:NV}{a b c:M.E}{h:NN}{n:O}{io:U O}{K:HX}
theorem Dz (e:O)(hr:Room n X.A){i:O}{x:Str}{xx:M.X}{px ps:Pos}(ha:SE X sf C ea a)(hb:SE X sf C eb b)(hs:sf i=Y e:=by rfl)(hN:X.N[e]?=Y x:=by rfl)(hv:Vis X.env.scope x:=by first|exact Ir rfl|exact Ig (Ir rfl)|exact Ig<|Ig rfl)(hd:(x==("__debug__":Str))=false:=by decide)(t:(x==("__classdict__":Str))=false:=by decide)
  (u:Jf ea (Y<|.Subscript (.Name x px) eb ps) pos.line X.env=pure false:=by rfl):
  SS X sf io C (.Assign [.Subscript (.Name x px) eb ps] ea pos) (.setS xx i b a):=
 bP (xr (jI hr) (bE hN hv hd t) hb ha u) λD σ H hw=>by obtain⟨pv,Z,Fs,η,w,I,A,ev,k⟩:=w6 hs D σ H hw;refine⟨pv,Z,Fs,η,w,I,A,ev,λv Z' H' f G d r s=>?_⟩;obtain⟨o,ho,F,Z2,g,P,w2,Q,A2,m,k2⟩:=k v Z' H' f G d r s;refine⟨o,ho,F,Z2,g,P,w2,Q,A2,m,λz Z3 H3 l G3 B3 r3 s3=>?_⟩;obtain⟨q,y,kk,rfl,rfl,g1,g2,g3⟩:=k2 z Z3 H3 l G3 B3 r3 s3;exact⟨q,_,rfl,.inl ⟨y,kk,g1,rfl,g2,rfl⟩,g3⟩
theorem b7 {Z:Fp}{H:Hp}{G:Fp}{q:j ⊕ Str}{t:M.T}:∀{d:U<|j ⊕ Str} {g:U M.T} {l:U V},RepL K Z H .s g l G->M.lookD q d g=Y t->∃x,b4 (mkD d l) q=Y x/\Rep K Z H .s t x no
|[],[],_,_,e=>by cases e
|[],_::_,_,_,e=>by cases e
|_::_,[],_,_,e=>by cases e
| k::d,v::g,l,⟨x,r,w,z,m,_,A,_,p,r2⟩,e=>by
 subst m;have f:(if k=q then Y v else M.lookD q d g)=Y t:=e;by_cases hk:k=q
 .rw [NR hk] at f;cases f;refine⟨x,?_,p.sany⟩;show(((k,x)::mkD d r).find? λi=>decide (i.1=q)).map (·.2)=Y x;rw[M9<|by simpa using hk];rfl
 .rw [NW hk] at f;obtain⟨y,o,u⟩:=b7 r2 f;refine⟨y,?_,u⟩;show(((k,x)::mkD d r).find? λi=>decide (i.1=q)).map (·.2)=Y y;rw[Mm<|by simpa using hk];exact o
theorem uV:Loc K 2 .ixD h λu H Q=>∀x y,u=[x,y]->∃a v,x=.ref a/\DGet H a y (Y v)/\Q v H:=by
 intro ws w u Z H G Q hn e r P za k x y hx;subst hx;obtain⟨⟨m,a⟩,⟨n,b⟩,rfl⟩:=cj r.length.symm;obtain⟨G1,G2,w1,w2,d,r1,r2⟩:=bf r;obtain⟨f,g,rfl,rfl⟩:∃f g,a=.dct f g/\m=.s:=by cases m<;>first|(cases e;done)|(cases a<;>first|exact⟨_,_,rfl,rfl⟩|(cases e;done))
 have i:((M.keyT b).bind λq=>(M.lookD q f g).map λt=>((.s,t):M.W))=Y w:=e;cases e1:M.keyT b with
 |none=>rw[e1] at i;cases i
 | some q =>
  rw[e1] at i;have e2:((M.lookD q f g).map λt=>((.s,t):M.W))=Y w:=i;cases e3:M.lookD q f g with
  |none=>rw[e3] at e2;cases e2
  |some t=>rw[e3] at e2;cases e2;obtain⟨ad,ys,D,hl,hd,A,I,pr⟩:=r1;have z:=dJ e1;subst z;obtain⟨N,_⟩:=jt r2;obtain⟨v,F,rv⟩:=b7 pr e3;have l:x=.ref ad:=D;have o:y=kV q:=N;subst l o;refine⟨ad,v,rfl,?_,bM P k<|rv.sany⟩;rw[<- F];exact DGet.k hd.2
theorem AM (f:Room n X.A)(d:SE X sf C ea a)(e:SE X sf C eb b)(g:pf eb:=by intro _ _;rfl):SE X sf C (.Subscript ea eb pos) (.op .ixD h [a,b]):=av (uE (jI f) d e g)<|aH uV
end
end MR





namespace MR
open L2 L3 M
open PySem (Addr Str sizeLine)
section
variable {K:HX}{Wx:L2.St->VK}{sl:Cf}{sf sg:O->B O}{C:Call}{σ σ2:L2.St}{Z Z' Z1:Fp}{H H' H1:Hp}{Fs Fs' Fs1:Fps}{η η' η1 ηb:Env}{G G' G1 R F F':Fp}{tg is vs ls io:U O}{pv val:O->B V}{D:bp}
theorem vR {i:O}{b:NM}{xs':U V}{w':W}{v:V}(A:At K ⟨sf,pv⟩ σ Z H Fs η no){w0:W}(P:rd η i=Y w0)(y:Fs i b)(hx:∀c,sf i=Y c->σ[c]?=Y (Y v))(k:∀u,pv i=Y u->v=u)(p:Rep K Z (upd H b<|.lst xs') w'.1 w'.2 v<|Fs i):
  At K ⟨sf,pv⟩ σ Z (upd H b<|.lst xs') Fs (M.put η i w') no/\Step Z H (tot Fs) Z (upd H b<|.lst xs') (tot Fs):=by
 have I:tot Fs b:=⟨i,y⟩;obtain⟨nz,ys,s⟩:=A.gd.own b I
 have f:∀a,H a≠J->upd H b (.lst xs') a≠none:=λa h=>by
  by_cases e:a=b
  .rw[e,ag];simp
  .rw[af e];exact h
 have d:∀a o,H a=Y o->a≠b->upd H b (.lst xs') a=Y o:=λa o e ne=>by rw[af ne];exact e
 have stay:Stay Z H (upd H b (.lst xs')):=⟨λa o x e=>d a o e λz=>nz<|z ▸ x,λa xs e=>by
  rcases e with e|⟨o,e⟩
  .exact .inl (d a _ e λz=>by rw[z,s] at e;exact jo e.symm)
  .exact .inr ⟨o,d a _ e λz=>by rw[z,s] at e;exact eB e.symm⟩,λa o u e=>d a _ e λz=>by rw[z,s] at e;exact eB e.symm⟩
 refine⟨⟨⟨λa ta=>?_,A.gd.dis,λa x=>f a<|A.gd.zal a x⟩,λl m t e=>?_,λa z=>z.elim,λa z=>z.elim,A.lk,A.ln⟩,⟨λa o e n=>d a o e λz=>n<|z ▸ I,λ_ z=>z,λ_ z=>.inl z,λ_ z=>.inl z,f,λz a h=>f a<|z a h⟩⟩
 .obtain ⟨w,zs,hz⟩:=A.gd.own a ta;refine⟨w,?_⟩;by_cases e:a=b
  .exact⟨.inl xs',by rw[e,ag];rfl⟩
  .exact⟨zs,by rw[af e];exact hz⟩
 .rw [bo] at e;split at e
  .rename_i g;obtain⟨rfl,_⟩:=g;cases e;exact⟨v,p,hx,k⟩
  .rename_i g;have Q:l≠i:=λz=>g ⟨z,cM P⟩;obtain⟨u,r,h⟩:=A.env l m t e;exact⟨u,r.keep stay (λ_ z=>z) λa o N e=>d a o e λz=>Q<|A.gd.dis l i b (z ▸ N) y,h⟩
end
end MR


namespace MR
open L2 L3 M
open PySem (Addr Str sizeLine)
section
variable {K:HX}{Wx:L2.St->VK}{sl:Cf}{sf sg:O->B O}{C:Call}{σ σ2:L2.St}{Z Z' Z1:Fp}{H H' H1:Hp}{Fs Fs' Fs1:Fps}{η η' η1 ηb:Env}{G G' G1 R F F':Fp}{tg is vs ls io:U O}{pv val:O->B V}{D:bp}
theorem At.more (b:∀a o,H a=Y o->H1 a=Y o)(A:At K sl σ Z H Fs η no):At K sl σ Z H1 Fs η no/\Step Z H (tot Fs) Z H1 (tot Fs):=by
 have c:∀a,H a≠J->H1 a≠none:=λa h=>by
  cases e:H a with
  |none=>exact NP e h
  |some o=>rw[b a o e];simp
 have stay:Stay Z H H1:=⟨λa o _ e=>b a o e,λa n e=>e.imp (b a _) λ⟨o,e⟩=>⟨o,b a _ e⟩,λa o u e=>b a _ e⟩;refine⟨⟨⟨λa g=>?_,A.gd.dis,λa i=>c a<|A.gd.zal a i⟩,λl m t e=>?_,λa z=>z.elim,λa z=>z.elim,A.lk,A.ln⟩,⟨λa o e _=>b a o e,λ_ z=>z,λ_ z=>.inl z,λ_ z=>.inl z,c,λz a h=>c a<|z a h⟩⟩
 .obtain ⟨f,k,d⟩:=A.gd.own a g;exact⟨f,k,b a _ d⟩
 .obtain ⟨u,r,h⟩:=A.env l m t e;exact⟨u,r.keep stay (λ_ z=>z) λa o _ e=>b a o e,h⟩
end
end MR


namespace MR
open PySem PySem.Spec PyProof.Rows L2 L3
def nIo:M.E->NN
|.io _=>HU
|_=>HV
noncomputable def lcl (o:B L7):NN:=match o with
|some .local=>HV
|some .cell=>HV
|_=>HU
def lcO (o:B L7):NN:=match o with
|some .local=>HV
|_=>HU
theorem zV {a:M.E}(h:nIo a=HV)(i:O):a≠.io i:=by rintro rfl;cases h
theorem vZ {a:N9}{x:Str}(h:lcl (a.names.lookup x)=HV):L2.Loc a x:=by
 unfold lcl at h;split at h
 .rename_i e;exact Ir e
 .rename_i e;exact Ig e
 .cases h
theorem uW {o:B L7}{b:NN}(h:(b || lcO o)=HV):b=HV\/o=Y .local:=by
 cases b
 .refine Ig ?_;unfold lcO at h;simp at h;split at h
  .rfl
  .cases h
 .exact Ir rfl
section
variable {X:Cx}{sf:O->B O}{io:U O}{C:M.Call}{pos:Pos}{ea eb:NV}{a b:M.E}{h:NN}
theorem zA (c:O){i:O}{x:Str}{o:M.X}{d:Pos}(g:X.N.Nodup)(k:SE X sf C ea a)(f:io.contains i=HU)(n:sf i=Y c)(m:X.N[c]?=Y x)(hx:lcl (X.env.scope.names.lookup x)=HV)
  (e:Jf ea (Y<|.Name x d) pos.line X.env=pure HU) (l:(X.fn x || lcO (X.env.scope.names.lookup x))=HV):SS X sf io C (.Assign [.Name x d] ea pos) (.asg o i a):=Gb c g k (λz=>by rw[show io.contains i=HV from List.elem_eq_true_of_mem z] at f;cases f) n m (vZ hx) e<|uW l
theorem say {c:U NV}{bs:U M.E}(d:SE X sf C ea a)(e:SA X sf C c bs)(f:nIo a=HV)(g:H9 (ea::c) X.env=(HU,N3 ea X.env)::H9 c X.env):SA X sf C (ea::c) (a::bs):=sac d e (zV f) g
end
end MR

namespace MR
open PySem
section
variable {p:U L->Prop}
theorem u0 (h:p [])(a:U L)(e:a.length=0):p a:=by cases a;exact h;cases e
theorem uS {n:O}(h:∀a b,KW b=n->p (a::b))(b:U L)(e:b.length=n+1):p b:=by
 cases b with
 |nil=>cases e
 |cons a r=>exact h a r<|JS e
theorem u1 (h:∀a,p [a])(b:U L)(e:b.length=1):p b:=uS (λa=>u0<|h a) b e
theorem u2 (h:∀a b,p [a,b])(c:U L)(e:c.length=2):p c:=uS (λa=>u1<|h a) c e
theorem u3 (h:∀a b c,p [a,b,c])(d:U L)(e:d.length=3):p d:=uS (λa=>u2<|h a) d e
theorem u4 (h:∀a b c d,p [a,b,c,d])(f:U L)(e:f.length=4):p f:=uS (λa=>u3<|h a) f e
end
end MR


namespace MR
open PySem PySem.Spec PyProof.Rows L2 L3
section
variable {X:Cx}{sf sg:O->B O}{C:M.Call}{pos p p2 p3:Pos}{ea eb ec:NV}{a b c:M.E}{h:NN}{n:O}{io:U O}{K:HX}
theorem cT {Z:Fp}{H:Hp}{G:Fp}{q:j ⊕ Str}:∀{d:U<|j ⊕ Str} {f:U M.T} {i:U V},RepL K Z H .s f i G->f.length=d.length->M.lookD q d f=J->b4 (mkD d i) q=J
|[],[],_,r,_,_=>by cases(show _=[] from r);rfl
|[],_::_,_,_,e,_=>by cases e
|_::_,[],_,_,e,_=>by cases e
| k::d,v::f,i,⟨x,r,u,w,l,_,y,_,p,r2⟩,m,e=>by
 subst l;have g:(if k=q then Y v else M.lookD q d f)=none:=e;by_cases hk:k=q
 .rw[NR hk] at g;cases g
 .rw [NW hk] at g;have o:=cT r2 (JS m) g;show(((k,x)::mkD d r).find? λt=>decide (t.1=q)).map (·.2)=J;rw[Mm<|by simpa using hk];exact o
theorem u9 {Z:Fp}{H:Hp}{G:Fp}{q:j ⊕ Str}{d:U<|j ⊕ Str}{f:U M.T}{g:U V}(r:RepL K Z H .s f g G)(i:f.length=d.length):(b4 (mkD d g) q).isSome=(M.lookD q d f).isSome:=by
 cases e:M.lookD q d f with
 |none=>rw[cT r i e];rfl
 |some t=>obtain⟨x,hx,_⟩:=b7 r e;rw[hx];rfl
theorem uL:Loc K 2 .inD h λv H Q=>∀y x,v=[y,x]->∃a o,x=.ref a/\DGet H a y o/\Q (.bl o.isSome) H:=by
 intro ws w v Z H G Q hn e r ow za k y x hx;subst hx;obtain⟨⟨n,b⟩,⟨m,a⟩,rfl⟩:=cj r.length.symm;obtain⟨I,N,w1,w2,d,r1,r2⟩:=bf r;obtain⟨t,u,rfl,rfl⟩:∃t u,a=.dct t u/\m=.s:=by cases m<;>first|(cases e;done)|(cases a<;>first|exact⟨_,_,rfl,rfl⟩|(cases e;done))
 have f:((M.keyT b).map λq=>((.d,.bl (M.lookD q t u).isSome):M.W))=Y w:=e;cases e1:M.keyT b with
 |none=>rw[e1] at f;cases f
 |some q=>rw[e1] at f;cases f;obtain⟨ad,ys,D,P,hd,A,g,pr⟩:=r2;have z:=dJ e1;subst z;obtain⟨F,_⟩:=jt r1;have i:x=.ref ad:=D;have l:y=kV q:=F;subst i l;refine⟨ad,_,rfl,DGet.k hd.2,?_⟩;rw[u9 pr g];exact br k
theorem Co {u v w:M.W}(e:M.oSem .inD h [u,v]=Y w):∃b,w.2=.bl b:=by
 obtain⟨n,b⟩:=u;obtain⟨m,a⟩:=v;obtain⟨g,i,rfl,rfl⟩:∃g i,a=.dct g i/\m=.s:=by cases m<;>first|(cases e;done)|(cases a<;>first|exact⟨_,_,rfl,rfl⟩|(cases e;done))
 have f:((M.keyT b).map λq=>((.d,.bl (M.lookD q g i).isSome):M.W))=Y w:=e;cases e1:M.keyT b with
 |none=>rw[e1] at f;cases f
 |some q=>rw[e1] at f;cases f;exact⟨_,rfl⟩
theorem C5 (i:Room n X.A)(d:SE X sf C ea a)(f:SE X sf C eb b)(g:JA .In eb=false:=by rfl):SB X sf C (.Compare ea [.In] [eb] pos) (.op .inD h [a,b]):=
 gS (AX (Cd (jI i) d f) g) λl H Q k=>aH uL l H _<|xZ (ye λu v w e=>Co e) k
theorem wF {e1 e2:M.E}(σ:L2.St)(H:Hp)(Q:VK)(hw:wE K sf C (.op .getD h [e1,e2]) σ H Q):rC (wE K sf C e1) (wE K sf C e2) σ H Q:=by
 obtain⟨pv,Z,Fs,η,w,η',A,ev,k⟩:=hw;obtain⟨ws,h1,D⟩:=bS ev;obtain⟨⟨m,t⟩,η1,us,g1,g2,rfl⟩:=aq h1;obtain⟨⟨m',t'⟩,η2,us,g3,g4,rfl⟩:=aq g2;cases g4;obtain⟨o,r,rfl,rfl⟩:∃o r,t=.dct o r/\m=.s:=by cases m<;>first|(cases D;done)|(cases t<;>first|exact⟨_,_,rfl,rfl⟩|(cases D;done))
 have l:((M.keyT t').map λq=>((.s,(M.lookD q o r).getD .non):M.W))=Y w:=D;refine ju A g1 λx Z1 H1 Fs1 G1 P r1 _ s1 _=>?_;have d:=P.mono (G':=G1) λ_ z=>.inr z;obtain⟨ad,ys,hq,hl,hd,hnk,hvl,pr⟩:=id r1;refine⟨ad,hq,.inl ⟨_,.inl hd.2⟩,?_⟩;refine ju d g3 λy Z2 H2 Fs2 G2 i r2 d2 s2 t2=>?_;have N:=r1.frame P.gd.own s2 d.dis;obtain⟨ad',ys',e,hl',F,hnk',f,g⟩:=N;have G:x=.ref ad:=hq;rw[G] at e;cases e;cases e1:M.keyT t' with
 |none=>rw[e1] at l;cases l
 | some q =>
  rw[e1] at l;cases l;have hb:=dJ e1;subst hb;obtain⟨hy,_⟩:=jt r2;have I:y=kV q:=hy;subst I;refine⟨_,DGet.k F.2,?_⟩;cases e3:M.lookD q o r with
  |none=>rw[cT g f e3];dsimp only at k;rw[e3] at k;exact bM (m:=.s) (t:=.non) i.own (bb i (s1.trans t2) k) rfl
  |some u=>obtain⟨v,hv,rv⟩:=b7 g e3;rw[hv];dsimp only at k;rw[e3] at k;exact bM i.own (bb i (s1.trans t2) k) rv.sany
theorem DV {d e:Pos}(i:Room n X.A)(f:SE X sf C ea a)(g:SE X sf C eb b)(m:M1 X ea "get" d eb e:=by exact⟨rfl,rfl,rfl,rfl⟩):SE X sf C (.Call (.Attribute ea "get" d) [eb] [] e) (.op .getD h [a,b]):=av (tw (jI i) f g m) wF
theorem xj {x:Str}{e2:M.E}(hx:M.sOk x=HV)(N:L2.St)(H:Hp)(Q:VK)(hw:wE K sf C (.op .dsp1 h [.cst<|.str x,e2]) N H Q):yi [(tC<|.str x,wE K sf C e2)] N H Q:=by
 obtain⟨pv,Z,D,η,w,η',A,ev,k⟩:=hw;obtain⟨ws,h1,h2⟩:=bS ev;obtain⟨u0,η1,us,g1,g2,rfl⟩:=aq h1;obtain⟨⟨m',t'⟩,η2,us,g3,g4,rfl⟩:=aq g2;cases g4;cases g1;cases(show Y ((.o .s,.dct [.inr x] [t']):M.W)=Y w from h2);intro p hp;have y:Own Z (upd H p (.dK [])) (λa=>a=p):=by rintro a rfl;exact⟨λz=>A.gd.zal a z hp,.inr [],ag⟩
 have st:Step Z H no Z (upd H p (.dK [])) (λa=>a=p):=dZ hp bj (λa h=>.inr h) Z (λ_ z=>z) λ_ z=>.inl z;obtain⟨P,s0⟩:=A.op y st;have np:¬tot D p:=λq=>by obtain⟨_,d,e⟩:=A.gd.own p q;rw[hp] at e;cases e
 refine ju (R:=λa=>a=p) P g3 λv r f Fs2 m l r2 d2 s2 t2=>?_;have hk:=s2.keep p _ ag np;refine⟨hk,[(.inr x,v)],rfl,by show 1<=15;decide,?_⟩;have o:=bb l ((s0.mono (F':=λc=>tot D c\/c=p) (λ_ q=>q.elim id λq=>q.elim) λ_ q=>q).trans t2) k;have I:¬r p:=(l.own p<|.inl rfl).1;have G:¬m p:=d2 p rfl;have neT:∀b d,f b=Y (.tup d)->b≠p:=λb d e z=>by rw[z,hk] at e;cases e
 have i:∀b o u,f b=Y (.frz o u)->b≠p:=λb o u e z=>by rw[z,hk] at e;cases e
 have t:∀b,r b\/m b->b≠p:=λb h z=>by subst z;exact h.elim I G
 have F:∀b,f b≠J->upd f p (.dK (mkD [.inr x] [v])) b≠none:=λb h=>by
  by_cases e:b=p
  .rw[e,ag];simp
  .rw[af e];exact h
 refine o (.ref p) (λa=>r a\/m a) (upd f p<|.dK<|mkD [.inr x] [v]) (λa=>a=p) ⟨p,[v],rfl,by show 1<=16777215;decide,⟨rfl,ag⟩,⟨by simp,λk hk=>by rw[IE.mp hk];exact hx⟩,rfl,?_⟩ ?_ ?_
 .refine ⟨v,[],no,no,rfl,fun _ z=>z.elim,fun _ z=>z.elim,fun _ z=>z.elim,r2.sh.keep ⟨fun b o hb e=>by rw [af (t b hb)]; exact e,fun b d e=>?_,fun b o u e=>by rw [af (i b o u e)]; exact e⟩ (fun _ z=>z) fun _ _ z=>z.elim,rfl⟩;rcases e with e|⟨u,e⟩
  .exact .inl (by rw[af<|neT b d e];exact e)
  .exact .inr ⟨u,by rw[af<|i b u _ e];exact e⟩
 .rintro a rfl;exact⟨λz=>z.elim I G,.inr _,ag⟩
 .exact⟨λa o e hF=>by rw[af λz=>hF<|.inl z];exact e,λ_ z=>.inl z,λa h=>h.elim .inl λz=>.inr<|.inl<|.inr z,λa h=>.inl<|.inl h,F,λz a h=>F a (h.elim (z a) λg=>by
   obtain⟨_,d,e⟩:=l.own a<|.inr g;rw[e];simp)⟩
theorem Fw {s:NU}{e:O}{f:Pos}(d:s.length<=1000:=by decide)(ha:SE X sf C ea a):SE X sf C (.Dict [Y<|.Constant (.str<|Str.ofString s) e f] [ea] pos) (.op .dsp1 h [.cst<|.str<|Str.ofString s,a]):=
 av (xS (sA q8 ha uA) rfl rfl (by simp) (by show 1<=15;decide)) (xj<|mr s d)
end
end MR

namespace L3
open PySem PySem.Spec PyProof.Rows L2
section
variable {X:Cx}{pins:U (NM×Obj)}{σ:L2.St}{H:Hp}{s:HW}{a:NM}{A:Il}{E:L->HW->Prop}{pos apos cpos:Pos}{o e f:NV}{td ty tx:TE}
theorem Dg {b:U<|Key×V}{k:Key}{z:V}{u r:L}{Q:L->HW->Prop}(I:L2.Inv X pins σ H s)(e:H a=Y (.dK b))(hl:b.length<sizeLine)(N:RelV (kV k) u)(P:RelV z r)
  (t:∀v,b4 b k=Y v->∀n h,L2.Inv X pins σ H h->RelV v n->Q n h) (x:b4 b k=J->∀h,L2.Inv X pins σ (upd H a<|.dK<|bQ b k z) h->Q r h):
  NO (HZ X.prog X.w) A (call (.builtin "dict.setdefault") [.ref a,u,r]) Q E s:=by
 obtain⟨zl,hd,Z,d,m⟩:=qC I.hok e;have c:=d.val k;refine KS NF m.typeIs PySem.F.entry_dict_setdefault (PySem.F.args_dict_setdefault_3 _ _ _) (kt_meets_setdefault (aI X.prog X.w) a (fX N) hd r) ⟨Z,m,by rw[<- d.length];exact zl,λv' l=>?_,λD p g M=>?_⟩
 .rw [l] at c;cases ev:b4 b k with
  |none=>rw[ev] at c;exact c.elim
  |some v=>rw[ev] at c;exact t v ev _ _ (I.tok _) c
 .rw [D] at c
  have ev:b4 b k=none:=by
   cases ev:b4 b k with
   |none=>rfl
   |some v=>rw[ev] at c;exact c.elim
  have y:∃q,p.get? a=Y q:=let ⟨q,_,_,G,_⟩:=g;⟨q,G⟩;have i:(bQ b k z).length<=sizeLine:=by have:=bV b k z;lia
  exact x ev _<|fg I (by rw[e];exact IZ) M y<|kN i hd (d.put k P) g
def Dn (td ty tx:TE):TE:=λσ H Q=>td σ H λx d=>∃a,x=.ref a/\IsD d a/\ty σ d λy g=>tx σ g λz c=>∃(b:U<|Key×V) (k:Key),c a=Y (.dK b)/\y=kV k/\b.length<sizeLine/\(∀v,b4 b k=Y v->Q v c)/\(b4 b k=J->Q z (upd c a<|.dK<|bQ b k z))
theorem ve (ho:PE X o td)(N:PE X e ty)(P:PE X f tx)(m:M2 X o "setdefault" apos e f cpos):PE X (.Call (.Attribute o "setdefault" apos) [e,f] [] cpos) (Dn td ty tx):=by intro pins s σ H Q I h;refine Lf m.base m.few m.line Lx NF PySem.F.type_dict_setdefault<|thn (ho pins s σ H _ I h) λu s1 ⟨x,l,g,rx,a,w,d,q1⟩=>?_;subst w;cases(show u=Value.ref a from rx);obtain⟨t1,t2,_⟩:=ug g d;refine⟨t1,t2,?_⟩;rw[m.trees];refine Calls.callWith_builtin rfl (Calls.evalArgs_plain<|Calls.spliced_cons<|thn (N pins s1 σ l _ g q1) λiv s2 ⟨y,n,r,ry,q2⟩=>Calls.spliced_cons<|thn (P pins s2 σ n _ r q2) λfv s3 ⟨z,p,t,i,kvs,k,hx,D,Z,G,M⟩=>Calls.spliced_nil ?_);subst D;exact Dg t hx Z ry i (λv hv w' s4 b c=>⟨v,p,b,c,G v hv⟩) λhn s4 b=>⟨z,_,b,i,M hn⟩
end
end L3
namespace MR
open PySem PySem.Spec PyProof.Rows L2 L3
section
variable {X:Cx}{sf sg:O->B O}{C:M.Call}{pos p p2 p3:Pos}{ea eb ec:NV}{a b c:M.E}{h:NN}{n:O}{io:U O}{K:HX}
theorem tV {u v w:B M.W}{r:M.W×M.W}(e:M.sdfT u v w=Y r):∃m d f n x t,u=Y (m,.dct d f)/\v=Y (n,.str x)/\w=Y (.s,t)/\m≠.s/\d.length<M.LIM/\((∃z,M.lookD (.inr x) d f=Y z/\r=((.s,z),(m,.dct d f)))\/(M.lookD (.inr x) d f=J/\r=((.s,t),(.o .s,.dct (M.putT (.inr x) t d f).1 (M.putT (.inr x) t d f).2)))):=by
 unfold M.sdfT at e;split at e
 .cases e
 .rename_i m d f n x t i;split at e
  .rename_i g;refine⟨m,d,f,n,x,t,rfl,rfl,rfl,λz=>i z,NY g,?_⟩;cases e1:M.lookD (.inr x) d f with
   |none=>rw[e1] at e;cases e;exact .inr ⟨rfl,rfl⟩
   |some z=>rw[e1] at e;cases e;exact .inl ⟨z,rfl,rfl⟩
  .cases e
 .cases e
theorem jL:∀{η:M.Env} {i:O} {w:M.W},M.rd η i=Y w->M.put η i w=η
|o::η,0,w,e=>by have e:o=Y w:=e;subst e;rfl
|o::η,i+1,w,e=>by show o::M.wr η i (Y w)=o::η;rw[show M.wr η i (Y w)=η from jL (η:=η) (i:=i) (w:=w) e]
theorem yV {i d k si sj sk:O}(hi:sf i=Y si)(hj:sf d=Y sj)(hk:sf k=Y sk)(σ:L2.St)(H:Hp)(Q:VK)(hw:wE K sf C (.sdf i d k) σ H Q):Dn (iR si) (iR sj) (iR sk) σ H Q:=by
 obtain⟨pv,Z,P,η,w,η',A,ev,k0⟩:=hw;obtain⟨r,h4,h5⟩:=aa<|show(M.ofO<|M.sdfT (M.rd η i) (M.rd η d)<|M.rd η k).bind (M.kSdf i η)=_ from ev;cases h5;obtain⟨m,l,D,nn,x,t,e1,e2,e3,hm,G,hc⟩:=tV<|bH h4;obtain⟨v1,r1,l1,p1⟩:=A.env i m _ e1;obtain⟨v2,r2,l2,_⟩:=A.env d nn _ e2;obtain⟨v3,r3,l3,_⟩:=A.env k .s t e3;obtain⟨a,F,rfl,hl,hf,hx,u,f,p⟩:=mT hm r1;have I:F.length=l.length:=by rw[p.length,f]
 have pS:RepL K (λb=>Z b\/N2) H .s D F no:=RepL.sh p;refine⟨.ref a,l1 si hi,a,rfl,.inl ⟨_,.inl hx⟩,v2,l2 sj hj,v3,l3 sk hk,mkD l F,.inr x,hx,r2.1,?_,λv hv=>?_,λhn=>?_⟩
 .show (l.zip F).length<_;rw[MC,I,MV];exact IF G<|LIM_le<|Ic _
 .rcases hc with ⟨z,g,rfl⟩ | ⟨g,rfl⟩
  .obtain ⟨y,N,ry⟩:=b7 pS g;rw[hv] at N;cases N;rw[jL e1] at k0;exact k0 v Z H P no A (ry.zmono λb h=>h.elim id Jr)<|(Step.refl Z H<|tot P).mono (λ_ z=>z) λ_ z=>z.elim id λq=>q.elim
  .rw[cT pS f g] at hv;cases hv
 .rcases hc with ⟨z,g,rfl⟩ | ⟨g,rfl⟩
  .obtain ⟨y,N,ry⟩:=b7 pS g;rw[hn] at N;cases N
  .obtain ⟨q1,q2⟩:=gA (.inr x) t l D f;have rS:Rep K (λb=>Z b\/((P i b\/no b)/\b≠a/\¬no b/\¬no b)) H .s t v3 no:=(r3.sany (G':=no)).zmono λb h=>.inl h;have pS2:RepL K (λb=>Z b\/((P i b\/no b)/\b≠a/\¬no b/\¬no b)) H .s D F (λ_=>N2):=pS.zmono λb h=>h.elim .inl Jr;rw[i9 (.inr x) t v3 l D F f I u.1];exact mE (K:=K) (m':=.o .s) (G':=no) (R:=no) (by simp) A e1 hf (λk hk=>by rw[show sf i=Y k from hk] at hi;cases hi;exact l1 _ hk) (by lia) ⟨dw (.inr x) t l D f u.1,λz g=>((ed (.inr x) t l D f z).mp g).elim (λe=>e ▸ r2.2)<|u.2 z⟩ q1 p1 (λ_ z=>z.elim) (λ_ z=>z.elim) (λ_ z=>z.elim) (eF rS l D F f pS2) λZ5 Fs5 B5 s5 tr=>k0 v3 Z5 _ Fs5 no B5 (tr rS)<|s5.mono (λ_ z=>z.elim id λq=>q.elim) λ_ z=>z
theorem Hi (r s t:O){i d k:O}{x y z:Str}{e f g l o:Pos}(G:sf i=Y r:=by rfl)(H:sf d=Y s:=by rfl)(hk:sf k=Y t:=by rfl)(I:X.N[r]?=Y x:=by rfl)(M:X.N[s]?=Y y:=by rfl)(P:X.N[t]?=Y z:=by rfl)
  (Q:Vis X.env.scope x:=by first|exact Ir rfl|exact Ig (Ir rfl)|exact Ig<|Ig rfl) (Z:Vis X.env.scope y:=by first|exact Ir rfl|exact Ig (Ir rfl)|exact Ig<|Ig rfl) (vz:Vis X.env.scope z:=by first|exact Ir rfl|exact Ig (Ir rfl)|exact Ig<|Ig rfl)
  (A:(x==("__debug__":Str))=false:=by decide) (D:(y==("__debug__":Str))=false:=by decide) (F:(z==("__debug__":Str))=false:=by decide) (u:(x==("__classdict__":Str))=false:=by decide) (v:(y==("__classdict__":Str))=false:=by decide) (w:(z==("__classdict__":Str))=false:=by decide)
  (m:M2 X (.Name x g) "setdefault" e (.Name y l) (.Name z o) f:=by exact⟨rfl,rfl,rfl,rfl⟩):SE X sf C (.Call (.Attribute (.Name x g) "setdefault" e) [.Name y l,.Name z o] [] f) (.sdf i d k):=
 av (ve (bE I Q A u) (bE M Z D v) (bE P vz F w) m) (yV G H hk)
end
end MR

namespace L3
open PySem PySem.Spec PyProof.Rows L2
theorem ue {X:Cx}{o e f:NV}{c i:Pos}{ty tx:TE}{ad:NM}{T:U<|Str×V}(D:DTab X.K X.w ad T)(ho:PE X o<|tC<|.ref ad)(he:PE X e ty)(hf:PE X f tx)(m:M2 X o "get" c e f i):PE X (.Call (.Attribute o "get" c) [e,f] [] i) (λk H Q=>ty k H λy l=>tx k l λd p=>∃z,y=.str z/\Q ((T.lookup z).getD d) p):=by
 intro a s k H Q I h;refine Lf m.base m.few m.line Lx Ko Ml<|thn (ho a s k H (λx v=>x=.ref ad/\ty k v λy l=>tx k l λd p=>∃z,y=.str z/\Q ((T.lookup z).getD d) p) I ⟨rfl,h⟩) λu s1 ⟨x,v,A,rx,Z,q1⟩=>?_;subst Z;cases(show u=Value.ref ad from rx);obtain⟨g,hm,hg⟩:=D.map (P:=X.prog) A.kIn;obtain⟨es,n,k1,k2,k3⟩:=D.ex;refine⟨hm.typeIs,λb q=>?_,?_⟩
 .cases q;exact⟨_,A.kIn _ _ k1,rfl⟩
 rw[m.trees];refine Calls.callWith_builtin rfl (Calls.evalArgs_plain<|Calls.spliced_cons<|thn (he a s1 k v _ A q1) λiv s2 ⟨y,l,N,ry,q2⟩=>Calls.spliced_cons<|thn (hf a s2 k l _ N q2) λfv s3 ⟨d,p,M,rd,z,ey,q3⟩=>Calls.spliced_nil ?_);subst ey;obtain⟨t,rfl⟩:=ry;obtain⟨f2,r,G⟩:=D.map (P:=X.prog) M.kIn;exact KS Ko r.typeIs Lu (PySem.F.args_dict_get_3 _ _ _) (meets_dict_get_default (strKind X.prog X.w) ad (KN X.prog X.w z t) D.lo fv) ⟨f2,r,(T.lookup z).getD d,p,M.tok _,(G z).getD rd,q3⟩
end L3
namespace MR
open PySem PySem.Spec PyProof.Rows L2 L3
section
variable {X:Cx}{sf sg:O->B O}{C:M.Call}{pos p p2 p3:Pos}{ea eb ec:NV}{a b c:M.E}{h:NN}{n:O}{io:U O}{K:HX}
theorem eR (z:Str):∀d:U<|Str×j,(d.map λp=>(p.1,M.T.int p.2)).lookup z=(d.lookup z).map M.T.int
|[]=>rfl
|(x,i)::d=>by rw[Io,Je,Je,eR z d];cases z==x<;>rfl
theorem qQ {T:U<|Str×V}{g:U<|Str×j}(s:∀z,match (g.map λp=>(p.1,M.T.int p.2)).lookup z with
  |some t=>∃v,T.lookup z=Y v/\CstR K t v
  |none=>T.lookup z=J):Loc K 2 (.getI g) h λo H Q=>∀y d,o=[y,d]->∃z,y=.str z/\Q ((T.lookup z).getD d) H:=by
 intro ws w o Z H G Q N e r P za k y d hx;subst hx;obtain⟨⟨m,a⟩,⟨n,b⟩,rfl⟩:=cj r.length.symm;obtain⟨D,F,w1,w2,I,r1,r2⟩:=bf r;obtain⟨x,i,rfl,rfl⟩:∃x i,a=.str x/\b=.int i:=by cases a<;>first|(cases e;done)|(cases b<;>first|exact⟨_,_,rfl,rfl⟩|(cases e;done))
 cases(show Y ((.d,.int<|(g.lookup x).getD i):M.W)=Y w from e);refine⟨x,r1.1,?_⟩;have q:=s x;rw[eR] at q;cases l:g.lookup x with
 |none=>rw[l] at q k;rw[show T.lookup x=J from q,show d=.int i from r2];exact aX k
 |some f=>rw[l] at q k;obtain⟨v,u,A⟩:=q;rw[u,show v=.int f from A Z H];exact aX k
theorem DS {x:Str}{tab:U<|Str×M.T}{g:U<|Str×j}{d e:Pos}(T:jr X.K X.w X.mg x tab)(i:SE X sf C ea a)(k:SE X sf C eb b)(f:tab=g.map λp=>(p.1,M.T.int p.2):=by rfl)(l:Gl X x:=by rfl)(hd:(x==("__debug__":Str))=false:=by decide)(m:M2 X (.Name x p2) "get" d ea eb e:=by exact⟨rfl,rfl,rfl,rfl⟩):SE X sf C (.Call (.Attribute (.Name x p2) "get" d) [ea,eb] [] e) (.op (.getI g) h [a,b]):=by subst f;obtain⟨ad,s,o,D,r⟩:=T;exact av (ue D (gq l o hd) i k m)<|aH<|qQ r
end
end MR



namespace MR
open PySem PySem.Spec PyProof.Rows L2 L3
section
variable {X:Cx}{sf sg:O->B O}{C:M.Call}{pos p p2 p3:Pos}{ea eb ec:NV}{a b c:M.E}{h:NN}{n:O}{io:U O}{K:HX}
theorem wJ {e:M.E}(σ:L2.St)(H:Hp)(R:It->Hp->Prop)(h:wI K sf C 2 .sq2T [e] σ H R):zP K (wE K sf C e) σ H R:=by
 obtain⟨pv,Z,Fs,η,ws,η',ts,A,ev,Q,k⟩:=h;obtain⟨⟨m,a⟩,η1,us,e1,e2,rfl⟩:=aq ev;cases e2;obtain⟨g,rfl⟩:∃g,a=.tup g:=by cases a<;>first|exact⟨_,rfl⟩|cases Q
 have o:M.pairsT g=Y ts:=Q;have P:=f7 o;refine⟨pv,Z,Fs,η,_,_,A,e1,λv Z' H' F G f r s=>?_⟩;obtain⟨a,D,rfl,q,l,p⟩:=Rep.sh r;have hl:=p.length;refine⟨a,rfl,⟨D,q⟩,k _ _ H' F f.freeze (aO f.own s) ⟨λI i s N=>?_,λI i s N=>?_,by lia⟩ λI i x H1 s N y=>?_⟩
 .exact⟨D,D[i]'(by lia),s.sqt q,by simp⟩
 .exact⟨D,s.sqt q,by lia⟩
 .obtain ⟨rfl,y⟩:=y;have hx:=y D (s.sqt q);have hi':i<g.length:=by lia
  obtain⟨x',t,rx⟩:=p.get (show g[i]?=Y g[i] by simp);rw[hx] at t;cases t;obtain⟨u,w,et,eu⟩:=fZ o (show g[i]?=Y g[i] by simp);rw[et] at rx;obtain⟨c,ys,rfl,hq,_,y1,r1,G1,G2,rfl,g1,g2,d,p1,y2,r2,G3,G4,e2,g3,g4,d2,p2,q2⟩:=rx;cases e2;obtain rfl:r2=[]:=q2;refine⟨c,y1,y2,(.s,u),(.s,w),rfl,λ_ _ e=>e,s.sqt hq,eu,(p1.mono (G':=no) λa h=>g1 a h).sany.keep s (λ_ z=>z) λ_ _ z=>z.elim,(p2.mono (G':=no) λa h=>g2 a<|g3 a h).sany.keep s (λ_ z=>z) λ_ _ z=>z.elim⟩
theorem pM {e:NV}(d:SE X sf C ea a):PI X e ea (wI X.K sf C 2 .sq2T [a]):=fV (rj d) wJ
end
end MR



namespace L3
open PySem PySem.Spec PyProof.Rows L2
section
variable {prog:NQ}{w:H8}{A:Il}{E:L->HW->Prop}{s:HW}
abbrev tK (prog:NQ)(w:H8):HeapKind prog w (U j):=Ki<|intKind prog w
def PrAt (h:NX)(v:L)(z:KZ):Prop:=∃p o n,v=.ref p/\h.get? p=Y o/\o.cls=.type "tuple"/\o.data=.seq #[.ref z.2.1,z.2.2] n
theorem lr {v:L}{z:KZ}{Q:U L->HW->Prop}(hp:PrAt s.heap v z)(h:Q [.ref z.2.1,z.2.2] s):NO (HZ prog w) A (Builtin.Dict.pairItems v) Q E s:=by obtain⟨p,o,n,rfl,e,c,d⟩:=hp;have hT:s.TypeIs (.ref p) "tuple":=⟨o,e,c⟩;unfold Builtin.Dict.pairItems;refine HY<|KU hT ?_;rw[NR<|by decide];refine HY<|JJ e d ?_;exact Ia h
theorem PrAt.keep {h a:NX}{v:L}{z:KZ}{d:NM}(x:PrAt h v z)(k:∀b o,b≠d->h.get? b=Y o->a.get? b=Y o)(hd:∀p,v=.ref p->p≠d):PrAt a v z:=by obtain⟨p,o,n,rfl,e,r⟩:=x;exact⟨p,o,n,rfl,k p o (hd p rfl) e,r⟩
inductive Prs (h:NX):U L->U KZ->Prop
 |nil:Prs h [] []
 |cons {v:L} {z:KZ} {vs:U L} {zs:U KZ}:PrAt h v z->Prs h vs zs->Prs h (v::vs) (z::zs)
theorem Prs.length {h:NX}:∀{a:U L} {b:U KZ},Prs h a b->a.length=b.length
|_,_,.nil=>rfl
|_,_,.cons _ r=>by rw[Ii,Ii,r.length]
theorem Prs.get {h:NX}:∀{a:U L} {b:U KZ} {i:O} {v:L},Prs h a b->a[i]?=Y v->∃z,b[i]?=Y z/\PrAt h v z
|_,_,_,_,.nil,e=>by simp at e
|_,_,0,_,.cons x r,e=>by rw[K6] at e;cases e;exact⟨_,rfl,x⟩
|_,_,i+1,_,.cons x r,e=>by rw[Jh] at e;obtain⟨z,c,d⟩:=r.get e;exact⟨z,by rw[Jh];exact c,d⟩
theorem Prs.keep {h b:NX}:∀{a:U L} {c:U KZ},(∀v∈a,∀z:KZ,PrAt h v z->PrAt b v z)->Prs h a c->Prs b a c
|_,_,_,.nil=>.nil
|_,_,k,.cons x r=>.cons (k _ Ih _ x)<|r.keep λv d=>k v<|Iz _ d
theorem fY:∀{a:U KZ} {i:O} {z:KZ},(a.map (·.1)).Nodup->a[i]?=Y z->z.1 ∉ (a.take i).map (·.1)
|[],_,_,_,e=>by simp at e
|y::a,0,z,_,_=>by rw[Jl];simp
|y::a,i+1,z,d,e=>by
 rw[Jh] at e;obtain⟨b,c⟩:=Jt.mp d;rw[Jn,Io,Ip];rintro(h|h)
 .exact b (JF.mpr ⟨z,J8 e,h⟩)
 .exact fY c e h
theorem wK {a:U KZ}{k:U j}(h:k ∉ a.map (·.1)):Og a k=none:=by unfold Og;rw[Option.map_eq_none_iff,List.find?_eq_none];intro x hx;simp only[NZ];exactλz=>h<|JF.mpr ⟨x,hx,z⟩
theorem Prs.mem {h:NX}:∀{b:U L} {c:U KZ},Prs h b c->∀v∈b,∃z,PrAt h v z
|_,_,.nil,v,a=>nomatch a
|_,_,.cons x r,v,a=>(Ip.mp a).elim (λe=>⟨_,e ▸ x⟩)<|r.mem v
theorem lN (a:U KZ)(z:KZ)(h:z.1 ∉ a.map (·.1)):storedH a z.1 z.2.1 z.2.2=a++[z]:=storedH_new (wK h) z.2.1 z.2.2
theorem gQ:entryFor table "dict.update.loop"=Y JO.«dict.update.loop»:=entryFor_of_tree<|by kernel_rfl
theorem fh {h c:NX}{k:U j}{b:NM}(x:(tK prog w).is h k b)(e:∀o,h.get? b=Y o->c.get? b=Y o):(tK prog w).is c k b:=by obtain⟨o,a,n,d,r⟩:=x;exact⟨o,a,n,e o d,r⟩
theorem lW {h a:NX}{d:NM}{b:U KZ}(x:h.DictOfH (tK prog w) d b)(e:∀o,h.get? d=Y o->a.get? d=Y o)(f:∀z∈b,∀o,h.get? z.2.1=Y o->a.get? z.2.1=Y o):a.DictOfH (tK prog w) d b:=by obtain⟨o,g,ep,i,k,l,m,n,p⟩:=x;exact⟨o,g,ep,e o i,k,l,m,λz c=>fh (n z c)<|f z c,p⟩
theorem iC (hh:A.handled=J)(hu:A.units+1<Ob){R:Result->HW->Prop}{I d t:NM}(h1:d≠I)(h2:d≠t)(h3:t≠I){items:N5 L}{zs:U KZ}(F:zs.length<=sizeLine)(H:(zs.map (·.1)).Nodup)(u:∀z∈zs,z.2.1≠I/\z.2.1≠d)(vI:∀v∈items.toList,v≠.ref I/\v≠.ref d):∀(k i:O) (s:HW) (a:L),i+k=zs.length->a=JC i->s.heap.IsListIter I t i->s.heap.IsList t items->Prs s.heap items.toList zs->(∀z∈zs,(tK prog w).is s.heap z.1 z.2.1)->s.heap.DictOfH (tK prog w) d (zs.take i) ->
 (∀h tk,(∀b o,b≠d->b≠I->s.heap.get? b=Y o->h.get? b=Y o)->h.DictOfH (tK prog w) d zs->R (.ok<|.ret .none) {s with heap:=h,toks:=tk}) ->
 JP (HZ prog w) A (.builtin "dict.update.loop" ⟨[.ref d,.ref I,a,.none],[]⟩) R s
|0,i,s,a,hk,hj,it,tp,ps,ks,dd,q=>by subst hj;have G:items.toList.length=zs.length:=ps.length;have hn:items[i]?=none:=Mn (by rw[<- JH];lia);refine codeAny_builtin gQ ?_;unfold JO.«dict.update.loop» JC;refine HY<|Oo hh it tp hn λh eb=>?_;rw[Lr<|by lia] at dd;exact HY<|Ia<|Ia<|q h s.toks (λb o _ c F=>eb b o c F)<|lW dd (λo e=>eb d o h1 e) λz P o e=>eb _ o (u z P).1 e
| k+1,i,s,a,hk,hj,it,tp,ps,ks,dd,q=>by
 subst hj;have G:items.toList.length=zs.length:=ps.length;have hi:i<zs.length:=by lia
 obtain⟨v,hv⟩:∃v,items.toList[i]?=Y v:=⟨_,Kq<|by lia⟩;obtain⟨z,P,hp⟩:=ps.get hv;have hvm:v∈items.toList:=J8 hv;have Q:z∈zs:=J8 P;refine codeAny_builtin gQ ?_;unfold JO.«dict.update.loop» JC;refine HY<|Oh it tp (x:=v) (by simpa using hv) λh it' sb=>?_;have f:∀b o,b≠I->s.heap.get? b=Y o->h.get? b=Y o:=λb o F e=>(sb.2 b F).trans e;have hp':PrAt h v z:=hp.keep f λp e z=>(vI v hvm).1 (by rw[e,z]);refine HY<|Kf<|HY<|wpAny_tryCatch<|lr hp' ?_;have dd':h.DictOfH (tK prog w) d (zs.take i):=lW dd (λo e=>f d o h1 e) λy N o e=>f _ o (u y<|List.mem_of_mem_take N).1 e;refine Kf (wpAny_dictSet_heap (s:={s with heap:=h}) (knd:=tK prog w) (show A.in1.units<Ob from hu) (fh (ks z Q) λo e=>f _ o (u z Q).1 e) dd' (λg D Z=>?_)<|by rw[K2];lia);refine Ia ⟨(by first|rfl|kernel_rfl|(unfold Code.quiet;kernel_rfl)|simp[Code.quiet]),?_⟩;have hnk:z.1 ∉ (zs.take i).map (·.1):=fY H P;have et:zs.take (i+1)=zs.take i++[z]:=by rw[List.take_add_one,P];rfl
 rw[lN _ _ hnk,<- et] at D;have m:∀b o,b≠d->b≠I->s.heap.get? b=Y o->g.get? b=Y o:=λb o l c e=>(Z.2 b l).trans<|f b o c e;refine iC hh hu h1 h2 h3 F H u vI k (i+1) _ _ (by lia) (by show Value.int _ _=Value.int _ _;congr 1) (it'.at λo e=>(Z.2 I<|IM h1).trans e) ?_ (ps.keep λv' M z' x=>?_) (λy N=>fh (ks y N) λo e=>m _ o (u y N).2 (u y N).1 e) D λh'' tk keep dd3=>q h'' tk (λb o l c e=>keep b o l c<|m b o l c e) dd3
 .obtain ⟨o,e1,e2⟩:=tp;exact⟨o,m t o (IM h2) h3 e1,e2⟩
 .obtain ⟨p,o,n,rfl,e,r⟩:=x;exact⟨p,o,n,rfl,m p o (λz=>(vI _ M).2<|by rw[z]) (λz=>(vI _ M).1<|by rw[z]) e,r⟩
theorem ja:Oz (.type "list") "keys"=pure none:=by rw[typeLookup_type,Oq];kernel_rfl
theorem kP {a:NM}{b:N5 L}{n:O}{h:Tok}{Q:Fin->HW->Prop}(hx:s.heap.get? a=Y {cls:=.type "list",data:=.seq b n})(d:A.handled=J)(f:∀c g e,Heap.NewAttrErr s.heap c e (.ref a) "keys"->E (.ref e) {s with heap:=c,toks:=g}):
  NO (HZ prog w) A (JO.«object.__getattribute__» ⟨[.ref a,.str "keys" h],[]⟩) Q E s:=by
 have hT:s.TypeIs (.ref a) "list":=⟨_,hx,rfl⟩;have i:=ja
 repeat (any_goals (first|assumption|wp_step))
 exact wpAny_raiseAttrError d f<|attrMsg_fits (by decide +kernel)<|by decide
theorem iQ:Oz (.type "list") "__getattr__"=pure none:=by rw[typeLookup_type,Oq];kernel_rfl
theorem n9 {a:NM}{c:N5 L}{n:O}{Q:B L->HW->Prop}(hx:s.heap.get? a=Y {cls:=.type "list",data:=.seq c n})(t:A.handled=J)(u:∀f h,(∀b o,s.heap.get? b=Y o->f.get? b=Y o)->Q J {s with heap:=f,toks:=h}):NO (HZ prog w) A (getAttr? (.ref a) "keys") Q E s:=by
 have hT:s.TypeIs (.ref a) "list":=⟨_,hx,rfl⟩;have v:=sub_AttributeError;have x:=F.slot_list_getattribute.lookup;have y:=F.slot_list_getattribute.bind<|.ref a;have z:=iQ;obtain⟨hp,g,d,p,os⟩:=s;unfold getAttr? getAttrBy? getAttrBy
 repeat (any_goals (first|assumption|wp_step))
 refine codeAny_call_builtin F.slot_list_getattribute.plain F.entry_list_ga<|F.slot_list_getattribute.check _ _ _ _ _ _ _ _ (show(⟨hp,g,d,p+1,os⟩:HW).TypeIs (.ref a) "list" from⟨_,hx,rfl⟩) (F.args_list_getattribute_2 _ _) ?_;refine kP (s:=⟨hp,g,d,p+1,os⟩) hx (by exact t) λf h e l=>?_;obtain⟨D,u1,r⟩:=l.there;have i:∀m,(⟨f,g,d,m,os⟩:HW).TypeIs (.ref e) "AttributeError":=λm=>⟨_,r,rfl⟩;have k:=i h;show NO _ _ (getattributeRaised _ _ _ _ _ _ _) _ _ _;unfold getattributeRaised
 repeat (any_goals (first|assumption|wp_step))
 exact u f h l.keeps
theorem lp {t:NM}{items:N5 L}{n0:O}{Q:L->HW->Prop}(hh:A.handled=J)(hu:A.units+5<Ob)(tp:s.heap.get? t=Y {cls:=.type "list",data:=.seq items n0}){zs:U KZ}(y:zs.length<=sizeLine)(G:(zs.map (·.1)).Nodup)(ps:Prs s.heap items.toList zs)(Z:∀z∈zs,(tK prog w).is s.heap z.1 z.2.1)
  (q:∀l M,(∀b o,s.heap.get? b=Y o->l.get? b=Y o)->l.DictOfH (tK prog w) s.heap.objs.size zs->Q (.ref s.heap.objs.size) {s with heap:=l,toks:=M}):NO (HZ prog w) A (call (.type "dict") [.ref t]) Q E s:=by
 refine callType_codes (Q₁:=λobj h=>obj=.ref s.heap.objs.size/\h={s with heap:=s.heap.push {cls:=.type "dict",data:=.dict #[]}}) F.kt_called_dict (F.kt_typeCall_dict_1 _) F.entry_dict_init (kt_code_dict_new _ ⟨rfl,rfl⟩) ?_;rintro obj h ⟨rfl,rfl⟩;have g:(s.heap.push {cls:=.type "dict",data:=.dict #[]}).DictOf (intKind prog w) s.heap.objs.size []:=Heap.DictOf.new s.heap;have f:(s.heap.push {cls:=.type "dict",data:=.dict #[]}).get? t=Y {cls:=.type "list",data:=.seq items n0}:=Heap.get?_push_of_some _ tp;have u:t<s.heap.objs.size:=Heap.lt_size tp;refine⟨g.typeIs,F.args_dict_init_2 _ _,?_⟩;unfold JO.«dict.__init__»;refine HY ?_;unfold Builtin.Dict.selfAndRest;refine HY<|wpAny_notOrdered_dict g.typeIs ?_;show NO _ _ (pure (s.heap.objs.size,[Value.ref t])) _ _ _;refine Ia ?_;show NO _ _ (Builtin.Dict.updateFrom "dict.__init__" s.heap.objs.size (.ref t) [] .none) _ _ _;unfold Builtin.Dict.updateFrom;have hT:Shared.TypeIs {s with heap:=s.heap.push {cls:=.type "dict",data:=.dict #[]}} (.ref t) "list":=⟨_,f,rfl⟩;refine HY<|KU hT ?_;rw[NR<|by decide];refine HY<|n9 f (by exact hh) λi t1 D=>?_;have N:i.IsList t items:=⟨_,D _ _ f,rfl,_,rfl⟩;rw[NR<|by rfl];refine HY<|Ks ?_;refine HY ?_
 wp_walk using Kh N
 have kk:∀b o,s.heap.get? b=Y o->i.get? b=Y o:=λb o e=>D b o<|Heap.get?_push_of_some _ e;have m:i.get? s.heap.objs.size=Y {cls:=.type "dict",data:=.dict #[]}:=D _ _<|Heap.get?_push_size _ rfl;have a:s.heap.objs.size<i.objs.size:=Heap.lt_size m;refine⟨(by first|rfl|kernel_rfl|(unfold Code.quiet;kernel_rfl)|simp[Code.quiet]),?_⟩;have c:∀z∈zs,z.2.1<s.heap.objs.size:=λz k=>by obtain⟨o,_,_,e,_⟩:=Z z k;exact Heap.lt_size e
 have H:∀b o,s.heap.get? b=Y o->(i.push {cls:=.type "list_iterator",data:=.fields #[.ref t,.int 0 0]}).get? b=Y o:=λb o e=>Heap.get?_push_of_some _<|kk b o e;refine iC (A:=A.in1) (hh:=hh) (hu:=by show A.units+1+1<Ob;lia) (I:=i.objs.size) (d:=s.heap.objs.size) (t:=t) (Iw a) (JG u) (Iw<|KG u a) (items:=items) (zs:=zs) y G (λz k=>⟨Iw<|KG (c z k) a,Iw<|c z k⟩) (λv P=>?_) zs.length 0 _ _ (Jx _) rfl ⟨_,Heap.get?_push_size _ rfl,rfl,rfl⟩ ⟨_,Heap.get?_push_of_some _<|D _ _ f,rfl,_,rfl⟩ (ps.keep λv P z x=>?_) (λz k=>fh (Z z k) λo e=>H _ o e) ?_ λl M keep dd=>?_
 .obtain ⟨z,p,o,n,rfl,e,_⟩:=ps.mem v P;have hp:=Heap.lt_size e;exact⟨λz=>NP (Value.ref.inj z)<|Iw<|KG hp a,λz=>NP (Value.ref.inj z)<|Iw hp⟩
 .obtain ⟨p,o,n,rfl,e,r⟩:=x;exact⟨p,o,n,rfl,H p o e,r⟩
 .rw [Jl];exact⟨_,#[],0,Heap.get?_push_of_some _ m,⟨rfl,rfl,rfl⟩,rfl,rfl,(λx hx=>nomatch hx),L8⟩
 .refine ⟨rfl,q l M (fun b o e=>?_) dd⟩;have y:=Heap.lt_size e;exact keep b o (Iw y) (Iw<|KG y a)<|H b o e
end
end L3

namespace L3
open PySem PySem.Spec PyProof.Rows L2
theorem fS {P:NQ}{w:H8}:∀{a:U j} {b:U L},Vals (a.map V.int) b->ItemsAre (intKind P w) a b
|[],_,r=>by rw[Jy] at r;cases r;exact .nil
| k::a,_,r=>by
 rw[Io] at r;cases r with
 |cons h t=>refine .cons ?_<|fS t;obtain⟨u,rfl⟩:=(show∃u,_=Value.int k u from h);show(Value.int k u).isInt k=HV;simp[Value.isInt]
section
variable {X:Cx}{pins:U (NM×Obj)}{σ:L2.St}{H:Hp}{s:HW}
theorem la {b:NM}{k:U j}(I:Inv X pins σ H s)(q:SqT X.K H b<|k.map V.int):(tK X.prog X.w).is s.heap k b:=by obtain⟨a,r,f,_⟩:=I.tuple q;obtain⟨o,c,d,n,e⟩:=f;exact⟨o,a.toArray,n,c,d,e,by simpa using fS r⟩
theorem mD (I:Inv X pins σ H s):∀{g:U<|U j} {i:U V} {c:U KZ},KeyR X.K H g i->c.map (·.1)=g->c.map (λz=>V.ref z.2.1)=i->∀z∈c,(tK X.prog X.w).is s.heap z.1 z.2.1
|[],_,[],_,_,_,z,a=>nomatch a
|[],_,_::_,_,e,_,_,_=>by cases e
|_::_,_,[],_,e,_,_,_=>by cases e
|k::g,i,y::c,⟨b,r,l,q,h⟩,e1,e2,z,a=>by
 rw[Io] at e1 e2;injection e1 with e1 d
 rw[l] at e2;injection e2 with e2 f
 injection e2 with e2
 rcases Ip.mp a with rfl|a
 .rw[e1,e2];exact la I q
 .exact mD I h d f z a
theorem sy {a:NM}{b:U<|U j}{f d:U V}(I:Inv X pins σ H s)(e:H a=Y (DTO a b f d))(n:b.Nodup)(m:KeyR X.K H b f):∃c:U KZ,c.map (·.1)=b/\Vals d (c.map (·.2.2))/\s.heap.DictOfH (tK X.prog X.w) a c:=by obtain⟨⟨_,c,e1,e2,e3,o,g,ep,h,i,k,l⟩,_,_⟩:=(show ObjOk X.prog X.w H s.heap a (DTO a b f d) from I.hok a _ e);exact⟨c,e1,e3,o,g,ep,h,i,k,l,mD I m e1 e2,by rw[e1];exact n⟩
theorem sJ:∀{a:U KZ} {i:O} {z:KZ},(a.map (·.1)).Nodup->a[i]?=Y z->Og a z.1=Y z.2
|[],_,_,_,e=>by simp at e
|y::a,0,z,_,e=>by rw[K6] at e;cases e;unfold Og;rw[M9<|by simp];rfl
| y::a,i+1,z,f,e=>by
 rw[Jh] at e;obtain⟨c,d⟩:=Jt.mp f;have b:=sJ d e;unfold Og at b ⊢;rw[Mm ?_]
 .exact b
 .simp only [NZ];exactλq=>c<|JF.mpr ⟨z,J8 e,q.symm⟩
theorem CU {A:Il}{E:L->HW->Prop}{a b:NM}{f:U<|U j}{p o:U V}{k:U j}{i:O}{v:V}{Q:L->HW->Prop}(x:A.units+1<Ob)(I:Inv X pins σ H s)(e:H a=Y (DTO a f p o))(l:f.Nodup)(D:KeyR X.K H f p)(q:SqT X.K H b<|k.map V.int)(hk:f[i]?=Y k)(y:o[i]?=Y v)(h:∀n m,Inv X pins σ H m->RelV v n->Q n m):NO (HZ X.prog X.w) A (Jv (.ref a)<|.ref b) Q E s:=by
 obtain⟨r,e1,e3,t⟩:=sy I e l D;obtain⟨u,c,F⟩:=e3.get y;rw[IW] at c;cases d:r[i]? with
 |none=>rw[d] at c;cases c
 | some z =>
  rw[d] at c;cases c
  have g:z.1=k:=by
   have:(r.map (·.1))[i]?=Y z.1:=by rw[IW,d];rfl
   rw[e1,hk] at this;cases this;rfl
  subst g;exact wpAny_getItem_heap (knd:=tK X.prog X.w) (KR x) (la I q) t (sJ (by rw[e1];exact l) d)<|h _ _ (I.tok _) F
def PrR (K:HX)(H:Hp):U (U j)->U V->U V->U V->Prop
|[],ps,f,e=>ps=[]/\f=[]/\e=[]
|k::g,ps,f,e=>∃p b x a d c,ps=.ref p::a/\f=.ref b::d/\e=x::c/\SqT K H p [.ref b,x]/\SqT K H b (k.map V.int)/\PrR K H g a d c
theorem yt (I:Inv X pins σ H s):∀{e:U<|U j} {ps g f:U V} {a:U L},PrR X.K H e ps g f->Vals ps a->∃c:U KZ,Prs s.heap a c/\c.map (·.1)=e/\c.map (λz=>V.ref z.2.1)=g/\Vals f (c.map (·.2.2))/\∀z∈c,(tK X.prog X.w).is s.heap z.1 z.2.1
|[],_,_,_,a,⟨rfl,rfl,rfl⟩,r=>by cases r;exact⟨[],.nil,rfl,rfl,.nil,λz d=>nomatch d⟩
| k::e,_,_,_,a,⟨p,b,x,D,ys',xs',rfl,rfl,rfl,F,G,h⟩,r=>by
 cases r with
 | cons Q Z =>
  obtain⟨c,t,u,v,y,A⟩:=yt I h Z;obtain⟨us,r2,tp,_⟩:=I.tuple F;cases(show _=Value.ref p from Q);cases r2 with
  | cons P M =>
   cases M with
   |cons rx N=>
    cases N;rename_i ub ux;cases(show ub=Value.ref b from P);obtain⟨o,i,l,n,m⟩:=tp;refine⟨(k,b,ux)::c,.cons ⟨p,o,n,rfl,i,l,by simpa using m⟩ t,by rw[Io,u],by rw[Io,v],.cons rx y,λz d=>?_⟩;rcases Ip.mp d with rfl|d
    .exact la I G
    .exact A z d
theorem nW (P:X.calm=HV)(Z:X.A.units+5<Ob):dI X (.type "dict") (λl H Q=>∃(a:NM) (b:U<|U j) (ps d c:U V),l=[.ref a]/\H a=Y (.lst ps)/\b.Nodup/\b.length<=sizeLine/\PrR X.K H b ps d c/\∀p,H p=J->Q (.ref p) (upd H p<|DTO p b d c)):=by
 intro pins s σ H l us Q I r h;obtain⟨a,b,ps,d,c,rfl,e,nd,k,pr,q⟩:=h;obtain⟨u,rfl,ru⟩:=jA r;cases ru;obtain⟨_,its,n,rv,g⟩:=(show ObjOk X.prog X.w H s.heap a (.lst ps) from I.hok a _ e);obtain⟨m,F,f,G,M,N⟩:=yt I pr rv;have i:m.length<=sizeLine:=by rw[<- f,Ie] at k;exact k
 refine lp (I.ok.hd P) Z g i (by rw[f];exact nd) (by simpa using F) N λD tk keep y=>?_;obtain⟨o,z,ep,d1,t,v,x,_,_⟩:=y;have ok:DTk s.heap.objs.size b d c D:=⟨beq_eq_false_iff_ne.mpr<|IM<|Iw I.big,m,f,G,M,o,z,ep,d1,t,v,x⟩;exact⟨.ref s.heap.objs.size,_,I.laid (a:=s.heap.objs.size) (o:=DTO s.heap.objs.size b d c) (t':=tk) keep (Ic _) ok.ok,rfl,q _<|I.hok.fresh<|Ic _⟩
def By (K:HX)(h ty:TE):TE:=λσ H Q=>h σ H λx g=>ty σ g λy c=>∃(a b:NM) (d:U<|U j) (f e:U V) (k:U j) (i:O) (v:V),x=.ref a/\y=.ref b/\c a=Y (DTO a d f e)/\d.Nodup/\KeyR K c d f/\SqT K c b (Ky V.int k)/\d[i]?=Y k/\e[i]?=Y v/\Q v c
theorem pe {o i:NV}{n ty:TE}{d:Pos}(N:X.A.units+1<Ob)(ho:PE X o n)(G:PE X i ty)(M:pf i):PE X (.Subscript o i d) (By X.K n ty):=by intro pins s σ H Q I h;refine mF Mu.lookup M<|thn (ho pins s σ H _ I h) λu s1 ⟨x,p,t,rx,Z⟩=>thn (G pins s1 σ p _ t Z) λiv s2 ⟨y,r,g,ry,a,b,ks,ys,xs,k,c,v,D,F,e,m,l,sq,hk,P,q2⟩=>?_;subst D F;obtain rfl:u=Value.ref a:=rx;obtain rfl:iv=Value.ref b:=ry;obtain⟨zs,_,_,z⟩:=sy g e m l;exact⟨z.typeIs,CU N g e m l sq hk P λw' s3 w f=>⟨v,r,w,f,q2⟩⟩
end
end L3
namespace MR
open PySem PySem.Spec PyProof.Rows L2 L3
section
variable {X:Cx}{sf sg:O->B O}{C:M.Call}{pos p p2 p3:Pos}{ea eb ec:NV}{a b c:M.E}{h:NN}{n:O}{io:U O}{K:HX}
theorem fF:∀{d:U M.T} {k:U j},M.intsOf d=Y k->d=k.map M.T.int
|[],_,e=>by cases e;rfl
|.int i::d,k,e=>by
 have f:(M.intsOf d).map (i::·)=Y k:=e;cases e1:M.intsOf d with
 |none=>rw[e1] at f;cases f
 |some r=>rw[e1] at f;cases f;rw[fF e1];rfl
|.non::_,_,e=>by cases e
|.bl _::_,_,e=>by cases e
|.str _::_,_,e=>by cases e
|.tup _::_,_,e=>by cases e
|.lst _::_,_,e=>by cases e
|.dct _ _::_,_,e=>by cases e
|.ins _ _ _::_,_,e=>by cases e
|.dtt _ _::_,_,e=>by cases e
|.scr _::_,_,e=>by cases e
|.gone::_,_,e=>by cases e
theorem jS {Z:Fp}{H:Hp}{m:M.Md}:∀{k:U j} {d:U V} {G:Fp},RepL K Z H m (k.map M.T.int) d G->d=k.map V.int
|[],_,_,r=>r
|i::k,d,G,⟨x,r,f,g,e,_,_,_,p,q⟩=>by rw[e,show x=V.int i from p,jS q];rfl
theorem pY {q:U j}{t:M.T}:∀{f:U<|U j} {g:U M.T},M.lookT q f g=Y t->∃i:O,f[i]?=Y q/\g[i]?=Y t
|[],_,e=>by cases e
|_::_,[],e=>by cases e
| y::f,v::g,e=>by
 have d:(if y=q then Y v else M.lookT q f g)=Y t:=e;by_cases h:y=q
 .rw[NR h] at d;cases d;exact⟨0,by rw[h];rfl,rfl⟩
 .rw [NW h] at d;obtain⟨i,k,l⟩:=pY d;exact⟨i+1,k,l⟩
theorem l0 {Z:Fp}{H:Hp}{m:M.Md}{k:U j}{y:V}{G:Fp}(r:Rep K Z H m (.tup<|k.map M.T.int) y G):∃b,y=.ref b/\SqT K H b (k.map V.int):=by obtain⟨b,d,e,q,_,r⟩:=r;rw[jS r] at q;exact⟨b,e,q⟩
theorem qK:Loc K 2 .ixDT h λg H Q=>∀x y,g=[x,y]->∃(a b:NM) (f:U<|U j) (z g:U V) (k:U j) (i:O) (v:V),x=.ref a/\y=.ref b/\H a=Y (DTO a f z g)/\f.Nodup/\KeyR K H f z/\SqT K H b (Ky V.int k)/\f[i]?=Y k/\g[i]?=Y v/\Q v H:=by
 intro ws w g Z H G Q hn e r ow za k x y hx;subst hx;obtain⟨⟨m,a⟩,⟨n,b⟩,rfl⟩:=cj r.length.symm;obtain⟨G1,G2,w1,w2,d,r1,r2⟩:=bf r;obtain⟨f,l,rfl⟩:∃f l,a=.dtt f l:=by cases a<;>first|exact⟨_,_,rfl⟩|(cases e;done)
 obtain⟨u,rfl⟩:∃u,b=.tup u:=by cases b<;>first|exact⟨_,rfl⟩|(cases e;done)
 have o:((M.intsOf u).bind λk=>(M.lookT k f l).map λt=>((.s,t):M.W))=Y w:=e;cases e1:M.intsOf u with
 |none=>rw[e1] at o;cases o
 | some q =>
  rw[e1] at o;have e2:((M.lookT q f l).map λt=>((.s,t):M.W))=Y w:=o;cases e3:M.lookT q f l with
  |none=>rw[e3] at e2;cases e2
  |some t=>rw[e3] at e2;cases e2;obtain⟨_,ad,z,g,I,za1,hd,nd,hl,hvl,kr,pr⟩:=r1;have N:=fF e1;subst N;obtain⟨A,hy,sq⟩:=l0 r2;obtain⟨i,D,F⟩:=pY e3;obtain⟨v,P,rv⟩:=pr.get F;exact⟨ad,A,f,z,g,q,i,v,I,hy,hd,nd,kr,sq,D,P,bM ow k rv.sany⟩
theorem De (f:Room n X.A)(d:SE X sf C ea a)(e:SE X sf C eb b)(g:pf eb:=by intro _ _;rfl):SE X sf C (.Subscript ea eb pos) (.op .ixDT h [a,b]):=av (pe (jI f) d e g)<|aH qK
theorem l8 {Z:Fp}{H:Hp}:∀{d:U M.T} {ps:U V} {G:Fp} {ks:U<|U j} {vs:U M.T},M.dtPs d=Y (ks,vs)->RepL K Z H .s d ps G->∃i g,PrR K H ks ps i g/\KeyR K H ks i/\vs.length=ks.length/\RepL K Z H .s vs g (λ_=>N2)
|[],_,_,_,_,e,r=>by cases e;exact⟨[],[],⟨r,rfl,rfl⟩,rfl,rfl,rfl⟩
| t::d,ps,G,ks,vs,e,⟨y,r,G1,G2,x,_,_,_,p,q⟩=>by
 obtain⟨f,v,rfl⟩:∃f v,t=.tup [.tup f,v]:=by
  match t,e with
  |.tup [.tup f,v],_=>exact⟨f,v,rfl⟩
 have l:((M.intsOf f).bind λk=>(M.dtPs d).map λp=>(k::p.1,v::p.2))=Y (ks,vs):=e;cases e1:M.intsOf f with
 |none=>rw[e1] at l;cases l
 | some k =>
  rw[e1] at l;cases e2:M.dtPs d with
  |none=>have e3:((M.dtPs d).map λp=>(k::p.1,v::p.2))=Y (ks,vs):=l;rw[e2] at e3;cases e3
  |some pr=>have e3:((M.dtPs d).map λp=>(k::p.1,v::p.2))=Y (ks,vs):=l;rw[e2] at e3;cases e3;obtain⟨i,g,F,I,N,P⟩:=l8 (ks:=pr.1) (vs:=pr.2) e2 q;obtain⟨w,zs,A,sq,_,rz⟩:=p;obtain⟨z1,r1,A1,A2,D,_,_,_,p1,z2,r2,A3,A4,o,_,_,_,p2,q2⟩:=rz;have hu:=fF e1;subst hu;obtain⟨m,Q,u⟩:=l0 p1;cases(show r2=[] from q2);subst o D Q;exact⟨.ref m::i,z2::g,⟨w,m,z2,r,i,g,by rw[x,show y=_ from A],rfl,rfl,sq,u,F⟩,⟨m,i,rfl,u,I⟩,by rw[Ii,Ii,N],z2,g,no,no,rfl,λ_ z=>z.elim,λ_ z=>z.elim,λ_ z=>z.elim,p2.sany,P.sany⟩
theorem jT:∀{d:U M.T} {ks:U<|U j} {vs:U M.T},M.dtPs d=Y (ks,vs)->ks.length=d.length
|[],_,_,e=>by cases e;rfl
| t::d,ks,vs,e=>by
 obtain⟨f,v,rfl⟩:∃f v,t=.tup [.tup f,v]:=by
  match t,e with
  |.tup [.tup f,v],_=>exact⟨f,v,rfl⟩
 have g:((M.intsOf f).bind λk=>(M.dtPs d).map λp=>(k::p.1,v::p.2))=Y (ks,vs):=e;cases e1:M.intsOf f with
 |none=>rw[e1] at g;cases g
 | some k =>
  rw[e1] at g;have e3:((M.dtPs d).map λp=>(k::p.1,v::p.2))=Y (ks,vs):=g;cases e2:M.dtPs d with
  |none=>rw[e2] at e3;cases e3
  |some pr=>rw[e2] at e3;cases e3;rw[Ii,Ii,jT (ks:=pr.1) (vs:=pr.2) e2]
theorem p7:Loc K 1 .dtup h λf H Q=>∃(a:NM) (d:U<|U j) (ps g t:U V),f=[.ref a]/\H a=Y (.lst ps)/\d.Nodup/\d.length<=sizeLine/\PrR K H d ps g t/\∀p,H p=J->Q (.ref p) (upd H p<|DTO p d g t):=by
 intro ws w f Z H G Q hn e r ow za k
 match ws,hn with
 | [(m,a)],_ =>
  obtain⟨x,rfl,r1⟩:=bh rfl r;obtain⟨i,rfl,rfl⟩:∃i,a=.lst i/\m=.s:=by cases m<;>first|(cases e;done)|(cases a<;>first|exact⟨_,rfl,rfl⟩|(cases e;done))
  have l:((M.dtPs i).bind λp=>if decide p.1.Nodup&&decide (i.length<=M.LIM) then Y ((.s,.dtt p.1 p.2):M.W) else J)=Y w:=e;cases e1:M.dtPs i with
  |none=>rw[e1] at l;cases l
  | some pr =>
   obtain⟨d,t⟩:=pr;rw[e1] at l;have e2:(if decide d.Nodup&&decide (i.length<=M.LIM) then Y ((.s,.dtt d t):M.W) else J)=Y w:=l;split at e2
   .rename_i v;cases e2;rw[Iq] at v;have D:=NY v.1;have A:d.length<=M.LIM:=by rw[jT e1];exact NY v.2
    obtain⟨ad,ps,hq,_,hd,rl⟩:=r1;obtain⟨g,f,I,N,P,h4⟩:=l8 e1 rl;refine⟨ad,d,ps,g,f,by rw[show x=_ from hq],hd.2,D,Ij A<|by decide,I,λp hp=>?_⟩;have ne:∀{a u},H a=Y u->a≠p:=λ{a u} e q=>by subst q;rw[hp] at e;cases e
    have F:=f6 (Z:=Z) (o:=DTO p d g f) hp
    have y:∀a,H a≠J->upd H p (DTO p d g f) a≠none:=λa h=>by
     by_cases e:a=p
     .rw[e,ag];simp
     .rw[af e];exact h
    refine k (.ref p) (λa=>Z a\/a=p) _ no ⟨(λz=>by cases z),p,g,f,rfl,.inr rfl,ag,D,A,P,N.keep λb f q=>F.sqt q,(h4.keep F (λ_ z=>z) λ_ _ z=>z.elim).zmono λ_ z=>.inl z⟩ (λa z=>z.elim) ⟨λa u e _=>by rw[af<|ne e];exact e,λa z=>.inl z,λa z=>z.elim .inl λe=>.inr<|.inr<|by rw[e];exact hp,λa z=>z.elim,y,λz a h=>h.elim (λh=>y a<|z a h) λe=>by rw[e,ag];simp⟩
   .cases e2
theorem FV (i:Room n X.A)(f:X.calm=HV)(hm:X.mg "dict"=J)(g:Gl X "dict":=by rfl)(ha:SE X sf C ea a)(e:H9 [ea] X.env=(HU,N3 ea X.env)::H9 [] X.env:=by rfl)(d:(Iy pos<|H9 [] X.env).any (·.1)=false:=by rfl):SE X sf C (.Call (.Name "dict" p) [ea] [] pos) (.op .dtup h [a]):=
 av (eJ (nW f (by have:=i.un;lia)) g hm NK (slc ha sl0 e) (by decide) (by decide) e d) (jx p7 rfl)
end
end MR

namespace MR
open L2 L3 M
open PySem (Addr Str sizeLine)
section
variable {K:HX}{sf:O->B O}{C:Call}{Z:Fp}{H:Hp}
mutual
theorem Rep.nl:∀{m:Md} {t:T} {v:V} {G:Fp},M.noL t=HV->Rep K Z H m t v G->Rep K Z H .d t v no
|_,.non,_,_,_,h=>h
|_,.bl _,_,_,_,h=>h
|_,.int _,_,_,_,h=>h
|_,.str _,_,_,_,h=>h
|_,.tup ts,_,_,hn,⟨a,xs,e,q,l,r⟩=>⟨a,xs,e,q,l,RepL.nl (ts:=ts) hn r⟩
|_,.lst _,_,_,hn,_=>by cases hn
|_,.dct _ _,_,_,hn,_=>by cases hn
|_,.ins _ _ _,_,_,hn,_=>by cases hn
|_,.dtt _ _,_,_,hn,_=>by cases hn
|_,.scr _,_,_,hn,_=>by cases hn
|_,.gone,_,_,hn,_=>by cases hn
theorem RepL.nl:∀{m:Md} {ts:U T} {xs:U V} {G:Fp},M.noLs ts=HV->RepL K Z H m ts xs G->RepL K Z H .d ts xs no
|_,[],_,_,_,h=>h
|_,t::ts,xs,G,hn,⟨x,r,G1,G2,e,_,_,_,p,q⟩=>by have hn':(M.noL t&&M.noLs ts)=true:=hn;rw[Iq] at hn';exact⟨x,r,no,no,e,λ_ z=>z,λ_ z=>z,λ_ z=>z.elim,Rep.nl hn'.1 p,RepL.nl hn'.2 q⟩
end
theorem Dr {e:E}{y:NN}(f:L2.St)(H:Hp)(Q:VK)(h:wE K sf C (.op .nl y [e]) f H Q):wE K sf C e f H Q:=by
 obtain⟨F,Z,g,I,w,N,A,ev,k⟩:=h;obtain⟨ws,u,x⟩:=bS ev;obtain⟨⟨m,t⟩,P,us,o,p,rfl⟩:=aq u;cases p;have c:(if M.noL t then Y ((.d,t):W) else J)=Y w:=x;split at c
 .rename_i D;cases c;refine⟨F,Z,g,I,(m,t),_,A,o,λv n l i G b r s=>?_⟩;exact bb b s k v n l no (Rep.nl D r) (λa z=>z.elim) ⟨λ_ _ e _=>e,λ_ z=>z,λ_ z=>.inl z,λ_ z=>z.elim,λ_ z=>z,λz=>z⟩
 .cases c
end
end MR
namespace MR
open PySem PySem.Spec PyProof.Rows L2 L3
section
variable {X:Cx}{sf:O->B O}{C:M.Call}{ea:NV}{a:M.E}{h:NN}
theorem sNl (b:SE X sf C ea a):SE X sf C ea (.op .nl h [a]):=av b Dr
end
end MR

namespace MR
open L2 L3 M
open PySem (Addr Str sizeLine)
section
variable {K:HX}{sf:O->B O}{C:Call}{Z:Fp}{H:Hp}{io:U O}{pv:O->B V}{σ:L2.St}{Fs:Fps}{η:Env}
theorem rB {a:B W}{r:W}(h:kZ a=Y r):∃c ps f,a=Y (.d,.lst c)/\c.getLast?=Y (.tup ps)/\ps[4]?=Y (.lst f)/\f.length<LIM/\r=(.o .s,.lst<|c.map λ_=>.gone):=by
 unfold kZ at h;split at h
 .rename_i c;split at h
  .rename_i g;cases h;cases e:c.getLast? with
   |none=>rw[e] at g;cases g
   | some u =>
    rw[e] at g;obtain⟨ps,rfl⟩:∃ps,u=.tup ps:=by cases u<;>first|exact⟨_,rfl⟩|(cases g;done)
    have b:EI ps[4]?=true:=g;cases e2:ps[4]? with
    |none=>rw[e2] at b;cases b
    |some w=>
     rw[e2] at b;obtain⟨f,rfl⟩:∃f,w=.lst f:=by cases w<;>first|exact⟨_,rfl⟩|(cases b;done)
     exact⟨c,ps,f,rfl,e,e2,NY b,rfl⟩
  .cases h
 .cases h
theorem RepL.gones:∀{m:Md} {ts:U T} {a:U V} {m':Md} {b:Hp} {G G':Fp},RepL K Z H m ts a G->RepL K Z b m' (ts.map λ_=>T.gone) a G'
|_,[],_,_,_,_,_,h=>h
|_,_::ts,_,_,_,_,_,⟨x,r,e,f,c,g,i,hd,p,d⟩=>⟨x,r,no,no,c,λ_ z=>z.elim,λ_ z=>z.elim,λ_ z=>z.elim,trivial,RepL.gones (ts:=ts) d⟩
theorem At.innerT {i w:O}{h ps N:U T}(hi:sf i=Y w)(A:At K ⟨sf,pv⟩ σ Z H Fs η no)(r1:rd η i=Y (.d,.lst h))(t:h.getLast?=Y (.tup ps))(hu:ps[4]?=Y (.lst N)):
  ∃a k c l b r,σ[w]?=Y (Y<|.ref a)/\H a=Y (.lst k)/\L2.atI k (-1)=Y (.ref c)/\SqT K H c l/\L2.atI l 4=Y (.ref b)/\H b=Y (.lst r)/\r.length=N.length /\
   ∀n,(∀c o,H c=Y o->n c=Y o)->∀f,At K ⟨sf,pv⟩ σ Z (upd n b<|.lst f) Fs (M.put η i (.o .s,.lst<|h.map λ_=>.gone)) no/\Step Z H (tot Fs) Z (upd n b<|.lst f) (tot Fs):=by
 obtain⟨v,rv,I,p1⟩:=A.env i _ _ r1;obtain⟨a,k,rfl,u,ga,D,p⟩:=dX (by simp) rv;have hln:=p.length;rw[List.getLast?_eq_getElem?] at t;obtain⟨x,x1,c,l,rfl,hq,hzl,pz⟩:=RepL.get p t;obtain⟨y,P,ry⟩:=RepL.get pz hu;obtain⟨b,r,rfl,hyl,z,hb,py⟩:=dX (m:=.d) (by simp) ry;refine⟨a,k,c,l,b,r,I w hi,D,?_,hq,?_,hb,py.length,λn F f=>?_⟩
 .have G:h.length-1<h.length:=(Jc.mp t).1;have g:L2.ixN k.length (-1)=Y (h.length-1):=by unfold L2.ixN;rw[NW (by lia),NR (by lia)];congr 1;lia
  unfold L2.atI;rw[g];exact x1
 .have h4:4<l.length:=(Jc.mp P).1;have g:L2.ixN l.length 4=Y 4:=by unfold L2.ixN;rw[NR (by lia),NR (by lia)];rfl
  unfold L2.atI;rw[g];exact P
 .obtain ⟨e,s⟩:=A.more F;obtain⟨Q,s2⟩:=vR (xs':=f) (w':=(.o .s,.lst<|h.map λ_=>.gone)) e r1 z.1 I p1 ⟨a,k,rfl,u,⟨ga,by rw[af<|IM z.2];exact F _ _ D⟩,RepL.gones p⟩;exact⟨Q,s.trans s2⟩
theorem BK {s:L2.St->VK}{i v:O}{n:j}(I:sf i=Y v)(D:bp)(σ:L2.St)(H:Hp)(h:wS K s sf io C (.apG i) D σ H):
  ∃a k c l b,σ[v]?=Y (Y<|.ref a)/\H a=Y (.lst k)/\L2.atI k (-1)=Y (.ref c)/\SqT K H c l/\L2.atI l 4=Y (.ref b)/\(∃d,H b=Y (.lst d)) /\
   ∀p,H p=J->∃d,upd H p (.tup [.int n]) b=Y (.lst d)/\d.length<sizeLine/\D.nx σ (upd (upd H p<|.tup [.int n]) b<|.lst<|d++[.ref p]):=by
 obtain⟨pv,Z,Fs,η,N,A,f⟩:=h;obtain⟨η2,g,y⟩:=dY<|show Fin K s ⟨sf,pv⟩ Z H (tot Fs) D (nxO η<|(kZ<|rd η i).map λw=>M.put η i w) from f;cases e:kZ (rd η i) with
 |none=>rw[e] at g;cases g
 | some r1 =>
  rw[e] at g;cases g;obtain⟨ts,ps,us,r1,P,Q,hn,rfl⟩:=rB e;obtain⟨a,k,c,l,b,d,e1,F,m,G,r,t,hyn,kk⟩:=A.innerT I r1 P Q;refine⟨a,k,c,l,b,e1,F,m,G,r,⟨d,t⟩,λp hp=>?_⟩;have u:∀c o,H c=Y o->upd H p (.tup [.int n]) c=Y o:=λc o e=>by rw[af (show c≠p fromλz=>by rw[z,hp] at e;cases e)];exact e
  obtain⟨x,s2⟩:=kk _ u<|d++[.ref p];exact⟨d,u _ _ t,jf<|by lia,y σ Z _ Fs x s2⟩
end
end MR
namespace MR
open PySem PySem.Spec PyProof.Rows L2 L3
section
variable {X:Cx}{sf:O->B O}{C:M.Call}{pos:Pos}{io:U O}
theorem vA {n:j}{k:O}{b a:Pos}:PE X (.UnaryOp .USub (.Constant (.int n) k b) a) (tC<|.int (-n)):=av (ER Bs gm) λc H Q h=>⟨n,rfl,h⟩
theorem He (Q:O){i:O}{h:j}{x:Str}{e d z y p0 w ps f l pt:Pos}{u v k r:O}(hi:sf i=Y Q:=by rfl)(hN:X.N[Q]?=Y x:=by rfl)
  (hv:Vis X.env.scope x:=by first|exact Ir rfl|exact Ig (Ir rfl)|exact Ig<|Ig rfl) (hd:(x==("__debug__":Str))=false:=by decide) (G:(x==("__classdict__":Str))=false:=by decide)
  (m:JN (.Subscript (.Subscript (.Name x z) (.UnaryOp .USub (.Constant (.int 1) u p0) y) ps) (.Constant (.int 4) v w) f) "append" X.env (N3 (.Subscript (.Subscript (.Name x z) (.UnaryOp .USub (.Constant (.int 1) u p0) y) ps) (.Constant (.int 4) v w) f) X.env)=N3 (.Subscript (.Subscript (.Name x z) (.UnaryOp .USub (.Constant (.int 1) u p0) y) ps) (.Constant (.int 4) v w) f) X.env:=by rfl)
  (s:((Iy d<|H9 [Expr.Tuple [.Constant (.int h) k l] r pt] X.env).all (λx=>!x.1)&&(JK d<|JM [] X.env).all (λx=>x.1.isSome)&&decide ([Expr.Tuple [.Constant (.int h) k l] r pt].length+([]:U IP).length+(if([]:U IP).isEmpty then 0 else 1)<30))=true:=by rfl)
  (o:(e.endLine==d.line)=true:=by rfl) (t:H9 [Expr.Tuple [.Constant (.int h) k l] r pt] X.env=(HU,N3 (.Tuple [.Constant (.int h) k l] r pt) X.env)::H9 [] X.env:=by rfl) (g:(Iy d<|H9 [] X.env).any (·.1)=false:=by rfl)
  (M:H9 [Expr.Constant (.int h) k l] X.env=(HU,N3 (.Constant (.int h) k l) X.env)::H9 [] X.env:=by rfl)
  (I:Jf (.Call (.Attribute (.Subscript (.Subscript (.Name x z) (.UnaryOp .USub (.Constant (.int 1) u p0) y) ps) (.Constant (.int 4) v w) f) "append" e) [.Tuple [.Constant (.int h) k l] r pt] [] d) J pos.line X.env=pure false:=by rfl):
  SS X sf io C (.Expr (.Call (.Attribute (.Subscript (.Subscript (.Name x z) (.UnaryOp .USub (.Constant (.int 1) u p0) y) ps) (.Constant (.int 4) v w) f) "append" e) [.Tuple [.Constant (.int h) k l] r pt] [] d) pos) (.apG i):=
 bP (eY (gX Lw Nf Nd il (mL ix_any (mL ix_any (bE hN hv hd G) vA<|by intro _ _;rfl) gm<|by intro _ _;rfl) (aW (lx<|aW gm b5 M) b5 t) m s o t g) I) λD σ H hw=>by obtain⟨a,xs,c,zs,b,e1,ha,A,hc,F,⟨P,hb⟩,hp⟩:=BK (n:=h) hi D σ H hw;refine⟨.ref a,e1,a,xs,-1,.ref c,rfl,rfl,.inl<|.inl<|.inl ha,A,c,zs,4,.ref b,rfl,rfl,.inr hc,F,.inl ⟨rfl,P,.inl<|.inl hb⟩,(by show 1<=sizeLine;decide),λp hn=>?_⟩;obtain⟨ys,Z,h2,h3⟩:=hp p hn;exact⟨b,ys,.ref p,rfl,rfl,Z,h2,h3⟩
end
end MR

namespace MR
open PySem PySem.Spec PyProof.Rows L2 L3
section
variable {K:HX}{Wx:L2.St->VK}{sl:Cf}{sf:O->B O}{C:M.Call}{σ:L2.St}{Z Z' Z1:Fp}{H H' H1:Hp}{Fs:Fps}{η ηb:M.Env}{vs ls io:U O}{pv:O->B V}{D:bp}
def wG (K:HX)(sl:O->B O)(C:M.Call)(k:M.Ik)(d:U M.E):TI:=λσ H R=>∃pv Z Fs η f c e,At K ⟨sl,pv⟩ σ Z H Fs η no/\M.evL C d η=.ok (f,c)/\M.turns k f=Y e /\
 ∀a Z' H' b,At K ⟨sl,pv⟩ σ Z' H' b c no->Step Z H (tot Fs) Z' H' (tot b)->Wk K a Z' H' e->C9 K a Z' H' e->R a H'
theorem gy {u:M.T}{b:U M.T}{ps:U<|U M.W}(e:M.tripsT (u::b)=Y ps):∃x y z a,u=.tup [x,y,z]/\M.tripsT b=Y a/\ps=[(.s,x),(.s,y),(.s,z)]::a:=by
 unfold M.tripsT at e;split at e
 .rename_i h;cases h
 .rename_i x y z c h;cases h;cases e1:M.tripsT b with
  |none=>rw[e1] at e;cases e
  |some a=>rw[e1] at e;cases e;exact⟨x,y,z,a,rfl,rfl,rfl⟩
 .cases e
theorem gw:∀{ts:U M.T} {ps:U<|U M.W} {i:O} {t:M.T},M.tripsT ts=Y ps->ts[i]?=Y t->∃x y z,t=.tup [x,y,z]/\ps[i]?=Y [(.s,x),(.s,y),(.s,z)]
|[],_,_,_,_,h=>by simp at h
|u::ts,ps,i,t,e,h=>by
 obtain⟨x,y,z,a,rfl,e1,rfl⟩:=gy e;cases i with
 |zero=>cases h;exact⟨x,y,z,rfl,rfl⟩
 |succ i=>exact gw (ts:=ts) (ps:=a) (i:=i) e1 h
theorem fK:∀{a:U M.T} {ps:U<|U M.W},M.tripsT a=Y ps->ps.length=a.length
|[],_,e=>by cases e;rfl
|u::a,ps,e=>by obtain⟨x,y,z,b,rfl,e1,rfl⟩:=gy e;rw[Ii,Ii,fK e1]
theorem AE {e:M.E}(σ:L2.St)(H:Hp)(R:It->Hp->Prop)(h:wG K sf C .sq3 [e] σ H R):pB K (wE K sf C e) σ H R:=by
 obtain⟨pv,Z,Fs,η,ws,η',ts,A,ev,ht,k⟩:=h;obtain⟨⟨m,a⟩,η1,us,e1,e2,rfl⟩:=aq ev;cases e2;obtain⟨f,rfl⟩:∃f,a=.lst f:=by cases a<;>first|exact⟨_,rfl⟩|cases ht
 have n:M.tripsT f=Y ts:=ht;have Q:=fK n;refine⟨pv,Z,Fs,η,_,_,A,e1,λv Z' H' F G b r s=>?_⟩;obtain⟨a,t,rfl,l,q,p⟩:=Rep.sh r;have hl:=p.length;refine⟨a,rfl,⟨t,.inl<|.inl q.2⟩,k _ _ H' F b.freeze (aO b.own s) ⟨λI i s P=>?_,λI i s P=>?_,by lia⟩ λI i x H1 s P y=>?_⟩
 .exact⟨t,t[i]'(by lia),bx s q.1 q.2,by simp⟩
 .exact⟨t,bx s q.1 q.2,by lia⟩
 .obtain ⟨rfl,y⟩:=y;have hx:=y t (bx s q.1 q.2);have hi':i<f.length:=by lia
  obtain⟨x',o,rx⟩:=p.get (show f[i]?=Y f[i] by simp);rw[hx] at o;cases o;obtain⟨u,w,g,et,eu⟩:=gw n (show f[i]?=Y f[i] by simp);rw[et] at rx;obtain⟨c,ys,rfl,hq,_,y1,r1,G1,G2,rfl,g1,N,d,p1,y2,r2,G3,G4,e2,g3,g4,d2,p2,y3,r3,G5,G6,e3,g5,g6,d3,p3,q2⟩:=rx;cases e2;cases e3;obtain rfl:r3=[]:=q2;refine⟨c,y1,y2,y3,(.s,u),(.s,w),(.s,g),rfl,λ_ _ e=>e,s.sqt hq,eu,(p1.mono (G':=no) λa h=>(g1 a h).1).sany.keep s (λ_ z=>z) λ_ _ z=>z.elim,(p2.mono (G':=no) λa h=>(N a<|g3 a h).1).sany.keep s (λ_ z=>z) λ_ _ z=>z.elim,(p3.mono (G':=no) λa h=>(N a<|g4 a<|g5 a h).1).sany.keep s (λ_ z=>z) λ_ _ z=>z.elim⟩
theorem tf {k:M.Ik}{I:U M.E}{t u l e j' j'':O}{g:U M.S}(hio:∀v∈[t,u,l],v ∉ io)(hs:sf t=Y e)(hs':sf u=Y j')(hs'':sf l=Y j'')(D:bp)(σ:L2.St)(H:Hp)(h:wS K Wx sf io C (.forS vs ls k I [t,u,l] g) D σ H):
  Ba (wG K sf C k I) (gF3 K e j' j'') (wSs K Wx sf io C g) D σ H:=by
 obtain⟨pv,Z,Fs,η,N,A,f⟩:=h;obtain⟨⟨ws,η2⟩,h1,h2⟩:=aU<|show Fin K Wx ⟨sf,pv⟩ Z H (tot Fs) D (M.Fl.of η (M.evL C I<|M.pick vs ls η)<|M.kFor vs k [t,u,l] (M.evSs C g) η) from f;obtain⟨⟨n,η3⟩,h3,h4⟩:=aU<|show Fin K Wx ⟨sf,pv⟩ Z H (tot Fs) D (M.Fl.of η (M.ret (M.share vs η)<|M.turns k ws)<|M.kFor2 [t,u,l]<|M.evSs C g) from h2;obtain⟨ts',ht,e3⟩:=aE h3;have e4:n=ts':=N1 IV e3;have e5:η3=M.share vs η:=N1 J5 e3;subst e4 e5;have h4':Fin K Wx ⟨sf,pv⟩ Z H (tot Fs) D (M.forL [t,u,l] (M.evSs C g) n (M.share vs η)):=h4;refine⟨pv,_,m9,_,ws,η2,n,A.quiet (vs:=vs) (ls:=ls),h1,ht,λd Z1 H1 Fs1 c s wk yl=>?_⟩;obtain⟨B1,s1⟩:=cB (G:=no) A bj c.gd.zal (s.mono (F2:=λa=>tot Fs1 a\/no a) (λ_ z=>z) λa h=>h.elim id λz=>z.elim) λa h=>fL h;obtain⟨B2,s2⟩:=B1.share (vs:=vs);have s3:=(s2 s1).mono (F2:=tot<|eg Fs vs) (λ_ z=>z) λ_ z=>.inl z;have zz:∀a,Z1 a->((Z1 a/\¬bJ Fs vs a)\/bJ Fs vs a):=λa h=>(LS<|bJ Fs vs a).elim .inr λq=>.inl ⟨h,q⟩;refine⟨λi m P H'=>m=n.length-i/\i<=n.length/\∃w p r,At K ⟨sf,pv⟩ P w H' p r no/\Step (λa=>(Z1 a/\¬bJ Fs vs a)\/bJ Fs vs a) H1 (tot<|eg Fs vs) w H' (tot p)/\Fin K Wx ⟨sf,pv⟩ w H' (tot p) D (M.forL [t,u,l] (M.evSs C g) (n.drop i) r),⟨n.length,by simp,Jo _,_,_,_,B2,Step.refl _ _ _,h4'.step s3⟩,?_⟩;rintro i m σi Q ⟨rfl,hi,w,p,r,Ai,si,fi⟩;have st:Stay Z1 H1 Q:=by have:=B2.gd.own.stay si;exact⟨λa o h=>this.1 a o<|zz a h,this.2⟩
 by_cases F:i<n.length
 .right;refine⟨wk.go Q i st F,_,λP H' hw=>⟨n.length-(i+1),by lia,hw⟩,λx H' y=>?_⟩;have hw:n[i]?=Y n[i]:=by simp[F]
  rw[eE hw] at fi;obtain⟨ηb,hb,fb⟩:=aU<|show Fin K Wx ⟨sf,pv⟩ w Q (tot p) D (M.Fl.of r (M.ofO<|M.bindT [t,u,l] n[i] r) λη1=>M.Fl.turn (M.evSs C g η1)<|M.forL [t,u,l] (M.evSs C g)<|n.drop<|i+1) from fi;refine oq N hio hs hs' hs'' (λa h=>si.zm a<|zz a h) st yl Ai hw (bH hb) y λσ2 H2 Fs2 A2 t2=>?_;refine⟨pv,w,Fs2,ηb,N,A2,j9 (fb.step t2) λη' P Z' H' Fs' _ f' A' s'=>⟨rfl,F,Z',Fs',η',A',(si.trans t2).trans s',f'.step s'⟩⟩
 .left;have hi':i=n.length:=by lia
  subst hi';rw[LX] at fi;exact⟨wk.stop Q _ st<|Ic _,fi σi w Q p Ai<|Step.refl _ _ _⟩
end
section
variable {X:Cx}{sf sg:O->B O}{C:M.Call}{pos p p2 p3:Pos}{ea eb ec:NV}{a b c:M.E}{io:U O}
theorem Ee {e:NV}(d:SE X sf C ea a):PI X e ea (wG X.K sf C .sq3 [a]):=fV (l9 d) AE
theorem BR (d l o:O){G:M.Ik}{t u v:O}{x y z:Str}{I P Q pt:Pos}{H:O}{e:NV}{r:U N4}{s:U M.S}{vs ls:U O}{g:U M.E}(h:X.N.Nodup)(hi:PI X (.Tuple [.Name x I,.Name y P,.Name z Q] H pt) e<|wG X.K sf C G g)(ha:SSs X sf io C r s)(D:∀k∈[t,u,v],k ∉ io:=by decide)(Z:sf t=Y d:=by rfl)(h2:sf u=Y l:=by rfl)(h3:sf v=Y o:=by rfl)(hj:X.N[d]?=Y x:=by rfl)(hl:X.N[l]?=Y y:=by rfl)(ho:X.N[o]?=Y z:=by rfl)
  (hx:L2.Loc X.env.scope x:=by first|exact Ir rfl|exact Ig rfl) (hy:L2.Loc X.env.scope y:=by first|exact Ir rfl|exact Ig rfl) (hz:L2.Loc X.env.scope z:=by first|exact Ir rfl|exact Ig rfl)
  (F:X.calm=true:=by rfl) (hp:OI (HZ X.prog X.w) X.A X.env X.xe:=by exact PassesOwn.never) (hf:X.fn x=HV\/X.env.scope.names.lookup x=Y .local:=by first|exact .inl rfl|exact .inr rfl) (m:X.fn y=HV\/X.env.scope.names.lookup y=Y .local:=by first|exact .inl rfl|exact .inr rfl) (f:X.fn z=HV\/X.env.scope.names.lookup z=Y .local:=by first|exact .inl rfl|exact .inr rfl) (hs:∀x,Ji e X.env x=pure x:=by intro _;rfl):
  SS X sf io C (.For (.Tuple [.Name x I,.Name y P,.Name z Q] H pt) e r [] pos) (.forS vs ls G g [t,u,v] s):=
 bP (lI hp F hi (lE (n:=3) F<|bN (bF (i:=d) h hj hx hf)<|bN (bF (i:=l) h hl hy m)<|bN (bF (i:=o) h ho hz f) i5) ha hs) (tf D Z h2 h3)
end
end MR

namespace A47
open M
open PySem (Str)
noncomputable abbrev q:=Str.ofString
noncomputable def cI:U (Str×T):=[(q "if",.int 1),(q "each",.int 1),(q "times",.int 2)]
noncomputable def keys_AHEAD_trees:U Str:=[q "num",q "name",q "none",q "let",q "each",q "times"]
noncomputable def tab_BINDING:U (Str×T):=[(q "let",.int 1),(q "each",.int 1),(q "times",.int 2)]
noncomputable def keys_LEAVES:U Str:=[q "num",q "yes",q "no"]
noncomputable def tab_LEAVES:U (Str×T):=[(q "num",.tup [.str<|q "num"]),(q "yes",.tup [.str<|q "truth"]),(q "no",.tup [.str<|q "truth"])]
noncomputable def tab_RULES:U (Str×T):=[(q "not",.tup [.tup [.str<|q "truth",.str<|q "truth"]]),(q "first",.tup [.tup [.str<|q "pair K L",.str<|q "K"]]),(q "second",.tup [.tup [.str<|q "pair K L",.str<|q "L"]]),(q "one",.tup [.tup [.str<|q "K",.str<|q "row K"]]),(q "upto",.tup [.tup [.str<|q "num",.str<|q "row num"]]),(q "long",.tup [.tup [.str<|q "row K",.str<|q "num"]]),(q "sum",.tup [.tup [.str<|q "row num",.str<|q "num"]]),(q "sums",.tup [.tup [.str<|q "row num",.str<|q "row num"]]),(q "most",.tup [.tup [.str<|q "row num",.str<|q "num"]]),(q "flat",.tup [.tup [.str<|q "row row K",.str<|q "row K"]]),(q "add",.tup [.tup [.str<|q "num num",.str<|q "num"]]),(q "sub",.tup [.tup [.str<|q "num num",.str<|q "num"]]),(q "mul",.tup [.tup [.str<|q "num num",.str<|q "num"]]),(q "div",.tup [.tup [.str<|q "num num",.str<|q "num"]]),(q "rest",.tup [.tup [.str<|q "num num",.str<|q "num"]]),(q "less",.tup [.tup [.str<|q "num num",.str<|q "truth"]]),(q "same",.tup [.tup [.str<|q "num num",.str<|q "truth"],.tup [.str<|q "truth truth",.str<|q "truth"]]),(q "both",.tup [.tup [.str<|q "truth truth",.str<|q "truth"]]),(q "pair",.tup [.tup [.str<|q "K L",.str<|q "pair K L"]]),(q "pick",.tup [.tup [.str<|q "row K num",.str<|q "K"]]),(q "join",.tup [.tup [.str<|q "row K row K",.str<|q "row K"]]),(q "keep",.tup [.tup [.str<|q "row K row truth",.str<|q "row K"]]),(q "cut",.tup [.tup [.str<|q "row K row num",.str<|q "row row K"]]),(q "let",.tup [.tup [.str<|q "K L",.str<|q "L"]]),(q "if",.tup [.tup [.str<|q "truth K K",.str<|q "K"]]),(q "each",.tup [.tup [.str<|q "row K L",.str<|q "row L"]]),(q "times",.tup [.tup [.str<|q "num K K",.str<|q "K"]])]
noncomputable def keys_WITHIN:U Str:=[q "num",q "truth",q "pair",q "row"]
noncomputable def tab_WITHIN:U (Str×T):=[(q "num",.int 0),(q "truth",.int 0),(q "pair",.int 2),(q "row",.int 1)]
noncomputable def aS:Fn:={ps:=1,ns:=1,io:=[],body:=[
  .ret [0] (.op .join HU [.cst<|.str<|q " ",.op .add HU [.lst HU [.op .ix HU [.var 0,.cst<|.int 0]],.comp HU .seq [.op .sl1 HU [.var 0,.cst<|.int 1]] [1] J<|.call 364 [.var 1]]])]}
noncomputable def bB:Fn:={ps:=1,ns:=2,io:=[],body:=[
  .asg (.q [0] []) 1 (.op .split HU [.var 0,.cst<|.str<|q " "]),
  .asg (.q [1] []) 2 (.call 366 [.var 1,.cst<|.int 0]),
  .ite (.q [1,2] []) (.op .lt HU [.op .ix HU [.var 2,.cst (.int 1)],.op .len HU [.var 1]]) [
   .stop] [],
  .ret [] (.op .ix HU [.mv 2,.cst<|.int 0])]}
noncomputable def bA:Fn:={ps:=2,ns:=0,io:=[],body:=[
  .ret [] (.call 367 [.mv 0,.mv 1,.cst<|.int 5])]}
noncomputable def au:Fn:={ps:=3,ns:=5,io:=[],body:=[
  .ite (.q [0,1] []) (.or (.op .ge HU [.var 1,.op .len HU [.var 0]]) (.inT HV keys_WITHIN (.op .ix HU [.var 0,.var 1]))) [
   .stop] [],
  .asg (.q [0,1] []) 3 (.ixT tab_WITHIN<|.op .ix HU [.var 0,.var 1]),
  .ite (.q [2] [3]) (.and (.op .gt HU [.var 3,.cst (.int 0)]) (.op .eq HU [.var 2,.cst (.int 1)])) [
   .stop] [],
  .asg (.q [0,1] []) 4 (.lst HU [.op .ix HU [.var 0,.var 1]]),
  .asg (.q [1] []) 5 (.op .add HU [.var 1,.cst<|.int 1]),
  .forS [] [3] .rng [.var 3] [6] [
   .asg (.q [0,2] [5]) 7 (.call 367 [.var 0,.var 5,.op .sub HU [.var 2,.cst<|.int 1]]),
   .app (.q [7] []) 4 (.op .ix HU [.var 7,.cst<|.int 0]),
   .asg (.q [7] []) 5 (.op .ix HU [.var 7,.cst<|.int 1])],
  .ret [] (.tup [.op .tuple HU [.mv 4],.mv 5])]}
noncomputable def aT:Fn:={ps:=1,ns:=0,io:=[],body:=[
  .ret [] (.ifx (.inT HU keys_AHEAD_trees<|.mv 0) (.cst<|.int 2)<|.cst<|.int 1)]}
noncomputable def cR:Fn:={ps:=1,ns:=0,io:=[],body:=[
  .ret [0] (.op .sl1 HU [.var 0,.call 175 [.op .ix HU [.var 0,.cst<|.int 0]]])]}
noncomputable def cq:Fn:={ps:=1,ns:=0,io:=[],body:=[
  .ret [] (.getT tab_BINDING<|.op .ix HU [.mv 0,.cst<|.int 0])]}
noncomputable def f_kinds_of:Fn:={ps:=1,ns:=4,io:=[],body:=[
  .asg (.q [] []) 1 (.op .dnew HU []),
  .forS [0] [] .sq2T [.op .ix HU [.var 0,.cst (.int 0)]] [2,3] [
   .setS (.q [2,3] []) 1 (.var 2) (.var 3)],
  .asg (.q [] []) 4 (.lst HU []),
  .exp (.l [0,1]) (.call 369 [.op .ix HU [.var 0,.cst<|.int 1],.tup [],.var 1,.io 4]),
  .ret [] (.mv 4)]}
noncomputable def f_add_kinds:Fn:={ps:=4,ns:=5,io:=[3],body:=[
  .asg (.q [] []) 4 (.lst HU []),
  .forS [0] [] .enmT [.call 176 [.var 0]] [5,6] [
   .asg (.q [2] []) 7 (.var 2),
   .ite (.q [0] [5]) (.op .eq HU [.var 5,.call 233 [.var 0]]) [
    .asg (.l [0,1,2]) 7 (.call 370 [.var 0,.var 1,.var 2,.io 4])] [],
   .app (.l [1,6,7]) 4 (.call 369 [.var 6,.op .catT HU [.var 1,.tup [.var 5]],.var 7,.io 3])],
  .asg (.q [0,2,4] []) 8 (.call 372 [.var 0,.var 2,.var 4]),
  .ite (.q [8] []) (.op .is HU [.var 8,.cst (.non)]) [
   .stop] [],
  .app (.q [1,8] []) 3 (.tup [.var 1,.var 8]),
  .ret [] (.mv 8)]}
noncomputable def aL:Fn:={ps:=3,ns:=3,io:=[],body:=[
  .ite (.q [0] []) (.op .eq HU [.op .ix HU [.var 0,.cst (.int 0)],.cst (.str (q "name"))]) [
   .ret [] (.op .getD HU [.mv 1,.op .ix HU [.mv 0,.cst<|.int 1]])] [],
  .ite (.q [0] []) (.inT HU keys_LEAVES (.op .ix HU [.var 0,.cst (.int 0)])) [
   .ret [] (.ixT tab_LEAVES<|.op .ix HU [.mv 0,.cst<|.int 0])] [],
  .ite (.q [0] []) (.op .eq HU [.op .ix HU [.var 0,.cst (.int 0)],.cst (.str (q "none"))]) [
   .ret [] (.call 374 [.cst<|.str<|q "row K",.op .dsp1 HU [.cst<|.str<|q "K",.op .ix HU [.mv 0,.cst<|.int 1]]])] [],
  .forS [0] [] .sq2T [.ixT tab_RULES (.op .ix HU [.var 0,.cst (.int 0)])] [3,4] [
   .asg (.q [2,3] []) 5 (.call 373 [.var 3,.var 2]),
   .ite (.q [5] []) (.op .isnot HU [.var 5,.cst (.non)]) [
    .ret [] (.call 374 [.mv 4,.mv 5])] []],
  .ret [] (.cst<|.non)]}
noncomputable def cK:Fn:={ps:=2,ns:=4,io:=[],body:=[
  .asg (.q [] []) 2 (.op .dnew HU []),
  .asg (.q [1] []) 3 (.op .list HU [.var 1]),
  .forS [0] [] .seq [.op .split HU [.var 0,.cst (.str (q " "))]] [4] [
   .asg (.l []) 5 (.pop 3 [.cst<|.int 0]),
   .ite (.q [4] []) (.op .isin HU [.var 4,.tup [.cst (.str (q "K")),.cst (.str (q "L"))]]) [
    .ite (.l [5]) (.op .ne HU [.sdf 2 4 5,.var 5]) [
     .ret [] (.cst<|.non)] []] [
    .ite (.q [4,5] []) (.op .eq HU [.var 4,.op .ix HU [.var 5,.cst (.int 0)]]) [
     .asg (.q [3,5] []) 3 (.op .add HU [.op .list HU [.op .sl1 HU [.var 5,.cst<|.int 1]],.var 3])] [
     .ret [] (.cst<|.non)]]],
  .ret [] (.mv 2)]}
noncomputable def cf:Fn:={ps:=2,ns:=3,io:=[],body:=[
  .asg (.q [1] [0]) 2 (.comp HU .seq [.op .split HU [.var 0,.cst<|.str<|q " "]] [4] J<|.ifx (.op .inD HU [.var 4,.var 1]) (.call 364 [.op .ixD HU [.var 1,.var 4]])<|.var 4),
  .tri [
   .asg (.q [2] []) 3 (.call 365 [.op .join HU [.cst<|.str<|q " ",.var 2]])],
  .ret [] (.mv 3)]}
noncomputable def fO:Fn:={ps:=1,ns:=0,io:=[],body:=[
  .ret [0] (.call 422 [.op .ix HU [.var 0,.cst<|.int 1],.tup [],.op .dtup HU [.wk .s<|.call 368 [.var 0]]])]}
noncomputable def bc:Fn:={ps:=3,ns:=4,io:=[],body:=[
  .ite (.q [0] []) (.op .eq HU [.op .ix HU [.var 0,.cst (.int 0)],.cst (.str (q "name"))]) [
   .ret [] (.lst HV [.tup [.cst<|.str<|q "call",.op .nl HU [.mv 1],.op .nl HU [.op .ix HU [.mv 0,.cst<|.int 1]]]])] [],
  .ite (.q [0] []) (.op .eq HU [.op .ix HU [.var 0,.cst (.int 0)],.cst (.str (q "let"))]) [
   .asg (.q [0,1] []) 3 (.lst HU [.tup [.cst<|.str<|q "let",.op .nl HU [.op .ix HU [.var 0,.cst<|.int 1]],.op .catT HU [.op .nl HU [.var 1],.tup [.cst<|.int 0]]]]),
   .asg (.q [1] []) 4 (.lst HU [.tup [.cst<|.str<|q "call",.op .nl HU [.var 1],.op .catT HU [.op .nl HU [.var 1],.tup [.cst<|.int 1]]]]),
   .ret [0,1,2] (.op .add HU [.op .add HU [.op .add HU [.call 423 [.var 0,.cst<|.int 0,.op .nl HU [.var 1],.var 2],.mv 3],.call 423 [.var 0,.cst<|.int 1,.op .nl HU [.var 1],.var 2]],.mv 4])] [],
  .asg (.q [] []) 5 (.lst HV []),
  .forS [0] [] .rng [.op (.getI [(q "if",1),(q "each",1),(q "times",2)]) HU [.op .ix HU [.var 0,.cst (.int 0)],.op .len HU [.call 176 [.var 0]]]] [6] [
   .ext (.q [0,1,2] [6]) 5 (.call 423 [.var 0,.var 6,.op .nl HU [.var 1],.var 2])],
  .app (.q [0,1,2] []) 5 (.call 424 [.var 0,.op .nl HU [.var 1],.var 2]),
  .ret [] (.mv 5)]}
noncomputable def bC:Fn:={ps:=4,ns:=0,io:=[],body:=[
  .ret [] (.call 422 [.op .ix HU [.call 176 [.mv 0],.var 1],.op .catT HU [.mv 2,.tup [.var 1]],.mv 3])]}
noncomputable def bK:Fn:={ps:=3,ns:=3,io:=[],body:=[
  .asg (.q [1,2] []) 3 (.op .ixDT HU [.var 2,.op .nl HU [.var 1]]),
  .ite (.q [0] []) (.op .eq HU [.op .ix HU [.var 0,.cst (.int 0)],.cst (.str (q "if"))]) [
   .ret [0,1,2] (.op .add HU [.op .catT HU [.tup [.cst<|.str<|q "arms",.op .nl HU [.var 1],.op .nl HU [.mv 3],.op .catT HU [.op .nl HU [.var 1],.tup [.cst<|.int 0]]],.call 425 [.var 0,.cst<|.int 1,.op .nl HU [.var 1],.var 2]],.call 425 [.var 0,.cst<|.int 2,.op .nl HU [.var 1],.var 2]])] [],
  .ite (.q [0] []) (.op .eq HU [.op .ix HU [.var 0,.cst (.int 0)],.cst (.str (q "each"))]) [
   .ret [0,1] (.op .catT HU [.tup [.cst<|.str<|q "within",.op .nl HU [.var 1],.op .nl HU [.mv 3],.op .ix HU [.var 0,.cst<|.int 1],.op .catT HU [.op .nl HU [.var 1],.tup [.cst<|.int 0]]],.call 425 [.var 0,.cst<|.int 1,.op .nl HU [.var 1],.mv 2]])] [],
  .ite (.q [0] []) (.op .eq HU [.op .ix HU [.var 0,.cst (.int 0)],.cst (.str (q "times"))]) [
   .ret [0,1] (.op .catT HU [.tup [.cst<|.str<|q "rounds",.op .nl HU [.var 1],.op .nl HU [.mv 3],.op .ix HU [.var 0,.cst<|.int 1],.op .catT HU [.op .nl HU [.var 1],.tup [.cst<|.int 0]],.op .catT HU [.op .nl HU [.var 1],.tup [.cst<|.int 1]]],.call 425 [.var 0,.cst<|.int 2,.op .nl HU [.var 1],.mv 2]])] [],
  .asg (.q [0] []) 4 (.ifx (.op .isin HU [.op .ix HU [.var 0,.cst<|.int 0],.tup [.cst<|.str<|q "num",.cst<|.str<|q "none"]]) (.var 0)<|.op .ix HU [.var 0,.cst<|.int 0]),
  .ret [1] (.tup [.cst<|.str<|q "do",.op .nl HU [.var 1],.op .nl HU [.mv 4],.op .nl HU [.mv 3],.comp HV .rng [.op .len HU [.call 176 [.mv 0]]] [5] J<|.op .nl HU [.op .catT HU [.op .nl HU [.var 1],.tup [.var 5]]]])]}
noncomputable def aZ:Fn:={ps:=2,ns:=4,io:=[0],body:=[
  .ite (.q [0] []) (.op .gt HU [.op .ix HU [.var 0,.cst (.int 3)],.cst (.int 0)]) [
   .setI (.q [0] []) 0 (.cst<|.int 3) (.op .sub HU [.op .ix HU [.var 0,.cst<|.int 3],.cst<|.int 1]),
   .asg (.q [0] []) 2 (.op .ix HU [.var 0,.cst<|.int 2]),
   .setI (.q [] [1,2]) 0 (.cst<|.int 2) (.op .fdivN HU [.var 2,.var 1]),
   .ret [] (.op .modN HU [.mv 2,.mv 1])] [],
  .asg (.q [0] []) 3 (.op .ix HU [.var 0,.cst<|.int 1]),
  .setI (.q [] [3]) 0 (.cst<|.int 1) (.op .add HU [.var 3,.cst<|.int 1]),
  .asg (.q [] []) 4 (.cst<|.int 0),
  .ite (.q [0] []) (.op .gt HU [.op .len HU [.op .ix HU [.var 0,.cst (.int 0)]],.cst (.int 0)]) [
   .asg (.q [0] [3]) 4 (.op .ix HU [.op .ix HU [.var 0,.cst<|.int 0],.op .modN HU [.var 3,.op .len HU [.op .ix HU [.var 0,.cst<|.int 0]]]])] [],
  .ite (.q [0] [3,4]) (.and (.op .lt HU [.var 3,.op .len HU [.op .ix HU [.var 0,.cst (.int 0)]]]) (.op .ge HU [.var 4,.op .pow HU [.cst (.int 10),.cst (.int 18)]])) [
   .setI (.q [] [4]) 0 (.cst<|.int 2) (.op .sub HU [.var 4,.op .pow HU [.cst<|.int 10,.cst<|.int 18]]),
   .setI (.q [] []) 0 (.cst<|.int 3) (.cst<|.int 40),
   .ret [] (.call 428 [.io 0,.mv 1])] [],
  .asg (.q [] [3,4]) 5 (.op .mul HU [.op .add HU [.op .modN HU [.var 4,.cst<|.int 999983],.cst<|.int 3],.op .add HU [.op .add HU [.op .modN HU [.op .mul HU [.var 3,.var 3],.cst<|.int 10007],.op .mul HU [.cst<|.int 61,.var 3]],.cst<|.int 7]]),
  .asg (.q [] [5]) 5 (.op .modN HU [.op .mul HU [.op .modN HU [.var 5,.cst<|.int 1000003],.op .modN HU [.var 5,.cst<|.int 1000003]],.cst<|.int 999979]),
  .ret [] (.op .modN HU [.op .modN HU [.op .add HU [.op .fdivN HU [.mv 5,.cst<|.int 3],.op .mul HU [.cst<|.int 131,.mv 3]],.cst<|.int 99991],.mv 1])]}
noncomputable def bO:Fn:={ps:=2,ns:=2,io:=[0],body:=[
  .asg (.l []) 2 (.call 428 [.io 0,.cst<|.int 6]),
  .ite (.q [] [1,2]) (.or (.op .eq HU [.var 1,.cst (.int 1)]) (.op .lt HU [.var 2,.cst (.int 2)])) [
   .ret [] (.op .ix HU [.lst HU [.tup [.cst<|.str<|q "num"],.tup [.cst<|.str<|q "truth"]],.op .mod HU [.mv 2,.cst<|.int 2]])] [],
  .ite (.q [] [2]) (.op .lt HU [.var 2,.cst (.int 4)]) [
   .asg (.l []) 3 (.call 429 [.io 0,.op .sub HU [.var 1,.cst<|.int 1]]),
   .ret [] (.tup [.cst<|.str<|q "pair",.mv 3,.call 429 [.io 0,.op .sub HU [.mv 1,.cst<|.int 1]]])] [],
  .ret [] (.tup [.cst<|.str<|q "row",.call 429 [.io 0,.op .sub HU [.mv 1,.cst<|.int 1]]])]}
noncomputable def az:Fn:={ps:=2,ns:=2,io:=[],body:=[
  .ite (.q [0] []) (.op (.isI ["list","tuple"]) HU [.var 0]) [
   .ite (.q [0,1] []) (.op .ne HU [.op (.isI ["list"]) HU [.var 0],.op (.isI ["list"]) HU [.var 1]]) [
    .ret [] (.cst<|.bl HU)] [],
   .ite (.q [0,1] []) (.op .ne HU [.op (.isI ["tuple"]) HU [.var 0],.op (.isI ["tuple"]) HU [.var 1]]) [
    .ret [] (.cst<|.bl HU)] [],
   .ite (.q [0,1] []) (.op .ne HU [.op .len HU [.var 0],.op .len HU [.var 1]]) [
    .ret [] (.cst<|.bl HU)] [],
   .ret [] (.op .all HU [.comp HU .zip [.mv 0,.mv 1] [2,3] J<|.call 24 [.var 2,.var 3]])] [],
  .ite (.q [0,1] []) (.op .ne HU [.op (.isI ["bool"]) HU [.var 0],.op (.isI ["bool"]) HU [.var 1]]) [
   .ret [] (.cst<|.bl HU)] [],
  .ret [] (.op .eq HU [.mv 0,.mv 1])]}
noncomputable def f_law_shapes:Fn:={ps:=2,ns:=7,io:=[],body:=[
  .asg (.q [] []) 2 (.tup [.cst<|.str<|q "num"]),
  .asg (.q [] []) 3 (.tup [.cst<|.str<|q "truth"]),
  .asg (.q [0] []) 4 (.tup [.cst<|.str<|q "row",.var 0]),
  .asg (.q [2] []) 5 (.tup [.cst<|.str<|q "row",.var 2]),
  .asg (.q [0,1] []) 6 (.tup [.cst<|.str<|q "pair",.var 0,.var 1]),
  .asg (.q [2] []) 7 (.comp HU .seq [.lst HU [.cst<|.str<|q "add",.cst<|.str<|q "sub",.cst<|.str<|q "mul",.cst<|.str<|q "div",.cst<|.str<|q "rest"]] [8] J<|.tup [.var 8,.lst HU [.var 2,.var 2],.var 2]),
  .asg (.q [2,3,7] []) 7 (.op .add HU [.var 7,.lst HU [.tup [.cst<|.str<|q "less",.lst HU [.var 2,.var 2],.var 3],.tup [.cst<|.str<|q "same",.lst HU [.var 2,.var 2],.var 3]]]),
  .asg (.q [3,7] []) 7 (.op .add HU [.var 7,.lst HU [.tup [.cst<|.str<|q "same",.lst HU [.var 3,.var 3],.var 3]]]),
  .asg (.q [3,7] []) 7 (.op .add HU [.var 7,.lst HU [.tup [.cst<|.str<|q "both",.lst HU [.var 3,.var 3],.var 3],.tup [.cst<|.str<|q "not",.lst HU [.var 3],.var 3]]]),
  .asg (.q [0,1,6,7] []) 7 (.op .add HU [.var 7,.lst HU [.tup [.cst<|.str<|q "pair",.lst HU [.var 0,.var 1],.var 6],.tup [.cst<|.str<|q "first",.lst HU [.var 6],.var 0]]]),
  .asg (.q [0,1,4,6,7] []) 7 (.op .add HU [.var 7,.lst HU [.tup [.cst<|.str<|q "second",.lst HU [.var 6],.var 1],.tup [.cst<|.str<|q "one",.lst HU [.var 0],.var 4]]]),
  .asg (.q [0,2,4,7] []) 7 (.op .add HU [.var 7,.lst HU [.tup [.cst<|.str<|q "pick",.lst HU [.var 4,.var 2],.var 0],.tup [.cst<|.str<|q "join",.lst HU [.var 4,.var 4],.var 4]]]),
  .asg (.q [3,4,7] []) 7 (.op .add HU [.var 7,.lst HU [.tup [.cst<|.str<|q "keep",.lst HU [.var 4,.tup [.cst<|.str<|q "row",.var 3]],.var 4]]]),
  .asg (.q [4,5,7] []) 7 (.op .add HU [.var 7,.lst HU [.tup [.cst<|.str<|q "cut",.lst HU [.var 4,.var 5],.tup [.cst<|.str<|q "row",.var 4]]]]),
  .asg (.q [2,4,5,7] []) 7 (.op .add HU [.var 7,.lst HU [.tup [.cst<|.str<|q "upto",.lst HU [.var 2],.var 5],.tup [.cst<|.str<|q "long",.lst HU [.var 4],.var 2]]]),
  .asg (.q [2,5,7] []) 7 (.op .add HU [.var 7,.lst HU [.tup [.cst<|.str<|q "sum",.lst HU [.var 5],.var 2],.tup [.cst<|.str<|q "most",.lst HU [.var 5],.var 2]]]),
  .ret [4,5] (.op .add HU [.mv 7,.lst HU [.tup [.cst<|.str<|q "sums",.lst HU [.var 5],.var 5],.tup [.cst<|.str<|q "flat",.lst HU [.tup [.cst<|.str<|q "row",.var 4]],.var 4]]])]}
noncomputable def bR:Fn:={ps:=3,ns:=1,io:=[],body:=[
  .asg (.q [1,2] []) 3 (.lst HU [.tup [.cst<|.str<|q "do",.tup [],.var 1,.var 2,.lst HU []]]),
  .ret [] (.call 24 [.mv 3,.call 421 [.tup [.tup [],.mv 0]]])]}
noncomputable def f_law_signed:Fn:={ps:=4,ns:=14,io:=[0],body:=[
  .asg (.q [] []) 4 (.lst HU [.cst<|.str<|q "rowe",.cst<|.str<|q "a",.cst<|.str<|q "numb",.cst<|.str<|q "onto",.cst<|.str<|q "q",.cst<|.str<|q "addy",.cst<|.str<|q "lets",.cst<|.str<|q "xy"]),
  .asg (.l []) 5 (.call 428 [.io 0,.cst<|.int 7]),
  .asg (.q [2,4] [5]) 6 (.op .sl2 HU [.lst HU [.op .ix HU [.var 4,.var 5],.op .ix HU [.var 4,.op .add HU [.var 5,.cst<|.int 1]]],.op .len HU [.var 2]]),
  .asg (.q [2,6] []) 7 (.op .tuple HU [.comp HU .zip [.var 6,.var 2] [12,13] J<|.tup [.var 12,.var 13]]),
  .asg (.q [1,6] []) 8 (.op .add HU [.tup [.var 1],.op .tuple HU [.comp HU .seq [.var 6] [14] J<|.tup [.cst<|.str<|q "name",.var 14]]]),
  .asg (.q [6] []) 9 (.comp HU .enm [.var 6] [15,16] J<|.tup [.cst<|.str<|q "call",.tup [.var 15],.var 16]),
  .asg (.q [6] []) 10 (.comp HU .rng [.op .len HU [.var 6]] [17] J<|.tup [.var 17]),
  .app (.q [1,3,10] []) 9 (.tup [.cst<|.str<|q "do",.tup [],.var 1,.var 3,.var 10]),
  .asg (.q [7,8] []) 11 (.call 421 [.tup [.var 7,.var 8]]),
  .ite (.q [9,11] []) (.not (.call 24 [.var 9,.var 11])) [
   .ret [] (.cst<|.bl HU)] [],
  .apG 11,
  .app (.q [] []) 11 (.cst<|.int 0),
  .ret [] (.call 24 [.mv 9,.call 421 [.tup [.mv 7,.mv 8]]])]}
noncomputable def f_law:Fn:={ps:=1,ns:=11,io:=[],body:=[
  .asg (.q [0] []) 1 (.lst HV [.op .list HV [.op .sl2 HV [.var 0,.cst<|.int 63]],.cst<|.int 0,.cst<|.int 0,.cst<|.int 0]),
  .asg (.l []) 2 (.call 429 [.io 1,.op .add HU [.cst<|.int 1,.call 428 [.io 1,.cst<|.int 3]]]),
  .asg (.l []) 3 (.call 429 [.io 1,.op .add HU [.cst<|.int 1,.call 428 [.io 1,.cst<|.int 3]]]),
  .asg (.l []) 4 (.call 428 [.io 1,.op .add HU [.op .pow HU [.cst<|.int 10,.cst<|.int 18],.cst<|.int 1]]),
  .asg (.q [] []) 5 (.tup [.cst<|.str<|q "num"]),
  .asg (.q [] []) 6 (.tup [.cst<|.str<|q "truth"]),
  .ite (.q [5] [4]) (.not (.call 426 [.tup [.cst (.str (q "num")),.var 4],.tup [.cst (.str (q "num")),.var 4],.var 5])) [
   .ret [] (.cst<|.bl HU)] [],
  .ite (.q [6] []) (.not (.call 426 [.tup [.cst (.str (q "yes"))],.cst (.str (q "yes")),.var 6])) [
   .ret [] (.cst<|.bl HU)] [],
  .ite (.q [6] []) (.not (.call 426 [.tup [.cst (.str (q "no"))],.cst (.str (q "no")),.var 6])) [
   .ret [] (.cst<|.bl HU)] [],
  .ite (.q [2] []) (.not (.call 426 [.tup [.cst (.str (q "none")),.var 2],.tup [.cst (.str (q "none")),.var 2],.tup [.cst (.str (q "row")),.var 2]])) [
   .ret [] (.cst<|.bl HU)] [],
  .asg (.q [2,3] []) 7 (.tup [.tup [.cst<|.str<|q "rowe",.var 3],.tup [.cst<|.str<|q "x",.var 2]]),
  .asg (.q [] []) 8 (.lst HU [.tup [.cst<|.str<|q "call",.tup [],.cst<|.str<|q "x"]]),
  .ite (.q [7,8] []) (.not (.call 24 [.var 8,.call 421 [.tup [.var 7,.tup [.cst (.str (q "name")),.cst (.str (q "x"))]]]])) [
   .ret [] (.cst<|.bl HU)] [],
  .forS [2,3] [] .sq3 [.call 401 [.var 2,.var 3]] [9,10,11] [
   .ite (.l [9,10,11]) (.not (.call 430 [.io 1,.var 9,.var 10,.var 11])) [
    .ret [] (.cst<|.bl HU)] []],
  .ret [] (.op .eq HU [.call 368 [.tup [.mv 7,.tup [.cst<|.str<|q "name",.cst<|.str<|q "x"]]],.lst HU [.tup [.tup [],.mv 2]]])]}
noncomputable def prog:U Fn:=[f_law,zf,zf,zf,zf,zf,zf,zf,zf,zf,zf,zf,zf,zf,zf,zf,zf,zf,zf,zf,zf,zf,zf,zf,az,zf,zf,zf,zf,zf,zf,zf,zf,zf,zf,zf,zf,zf,zf,zf,zf,zf,zf,zf,zf,zf,zf,zf,zf,zf,zf,zf,zf,zf,zf,zf,zf,zf,zf,zf,zf,zf,zf,zf,zf,zf,zf,zf,zf,zf,zf,zf,zf,zf,zf,zf,zf,zf,zf,zf,zf,zf,zf,zf,zf,zf,zf,zf,zf,zf,zf,zf,zf,zf,zf,zf,zf,zf,zf,zf,zf,zf,zf,zf,zf,zf,zf,zf,zf,zf,zf,zf,zf,zf,zf,zf,zf,zf,zf,zf,zf,zf,zf,zf,zf,zf,zf,zf,zf,zf,zf,zf,zf,zf,zf,zf,zf,zf,zf,zf,zf,zf,zf,zf,zf,zf,zf,zf,zf,zf,zf,zf,zf,zf,zf,zf,zf,zf,zf,zf,zf,zf,zf,zf,zf,zf,zf,zf,zf,zf,zf,zf,zf,zf,zf,aT,cR,zf,zf,zf,zf,zf,zf,zf,zf,zf,zf,zf,zf,zf,zf,zf,zf,zf,zf,zf,zf,zf,zf,zf,zf,zf,zf,zf,zf,zf,zf,zf,zf,zf,zf,zf,zf,zf,zf,zf,zf,zf,zf,zf,zf,zf,zf,zf,zf,zf,zf,zf,zf,zf,zf,zf,zf,cq,zf,zf,zf,zf,zf,zf,zf,zf,zf,zf,zf,zf,zf,zf,zf,zf,zf,zf,zf,zf,zf,zf,zf,zf,zf,zf,zf,zf,zf,zf,zf,zf,zf,zf,zf,zf,zf,zf,zf,zf,zf,zf,zf,zf,zf,zf,zf,zf,zf,zf,zf,zf,zf,zf,zf,zf,zf,zf,zf,zf,zf,zf,zf,zf,zf,zf,zf,zf,zf,zf,zf,zf,zf,zf,zf,zf,zf,zf,zf,zf,zf,zf,zf,zf,zf,zf,zf,zf,zf,zf,zf,zf,zf,zf,zf,zf,zf,zf,zf,zf,zf,zf,zf,zf,zf,zf,zf,zf,zf,zf,zf,zf,zf,zf,zf,zf,zf,zf,zf,zf,zf,zf,zf,zf,zf,zf,zf,zf,zf,zf,aS,bB,bA,au,f_kinds_of,f_add_kinds,zf,zf,aL,cK,cf,zf,zf,zf,zf,zf,zf,zf,zf,zf,zf,zf,zf,zf,zf,zf,zf,zf,zf,zf,zf,zf,zf,zf,zf,zf,zf,f_law_shapes,zf,zf,zf,zf,zf,zf,zf,zf,zf,zf,zf,zf,zf,zf,zf,zf,zf,zf,zf,fO,bc,bC,bK,zf,bR,zf,aZ,bO,f_law_signed]
end A47

set_option compiler.extract_closed false
namespace P47
section
open M A47
open PySem (Str)
local macro_rules
 | `(tactic| simp_all only [$ls,*])=>`(tactic| simp only [zr,BM,CY,Ck,zU,yY,Bg,zx,xi,xt,vg,xq,xU,wD,vQ,uK,wV,v7,xf,wN,vU,uF,xH,v9,xu,vW,wz,xa,rY,j1,w8,wH,v5,uD,pw,qd,kWk,kOp,rO,kOr,sv,kC3,kC2,kC1,kBack,kCall,ij,fw,kz,d9,kc,oH,mR,aY,kX,kT,kT2,kIf,wo,qa,rH,rX,vK,kG,kNx,kRt,kFor2,kFor,rh,okW,x8,FQ,fR,trees,ax,ios,putAll,Bv,Gj,AD,Ao,yP,uU,uC,xC,ze,y8,CA,zq,AW,BL,CQ,EN,DW,ED,C4,EE,Fu,vo,uN,vj,xB,Dd,Bl,sC,sE,sD,tP,zW,vP,wt,q9,uh,FF,DG,DA,Dh,uf,pE,r8,Bw,zS,zT,BP,BI,Cq,CJ,zQ,wg,xl,uz,Ag,ua,qJ,qv,Eh,tF,Bq,yp,CN,Aq,Au,zw,Bf,zy,GX,HJ,GR,GO,D3,EJ,Az,Bx,Bi,FN,Ec,zo,Dt,xT,Ak,ES,EZ,vd,wZ,E7,C0,A7,CO,yW,sR,qV,pJ,Dj,pK,qj,wd,v8,wR,vb,zK,AJ,AR,sQ,dQ,nT,oX,nD,Cg,B8,CC,Bn,BB,CI,Ci,CF,Fo,sL,qm,Aw,CV,at0,at1,at2,at3,at4,LW,LH,IT,Io,Jy,J7,List.replicate_zero,reduceIte,if_true,if_false,String.reduceBEq,Bool.not_true,Bool.not_false,Bool.false_eq_true,Bool.and_self,Bool.true_and,Bool.and_true,vp,kIo,B7,zO,nX,pd,nY,oA,nu,qt,sU,nI,qp,oN,ni,kM,ll,m8,BJ,n5,nF,lJ,nM,ox,lj,okS,Bm,Gg,DX,C2,zN,yZ,EU,vL,xR,Cu,vc,xo,Cb,BG,AA,DJ,tq,Cz,vT,j3,GZ,BQ,B6,vk,wC,tj,um,oQ,oj,Bu,uY,oV,GV,uX,CK,EK,D4,Fe,FE,Hd,EA,Ea,FG,EC,Ff,Fz,GL,DI,Ft,Fh,DN,Ef,D5,DU,DQ,HQ,Ex,DY,FH,Ed,En,F4,FY,FZ,Hh,F7,Gk,CP,vY,yX,Fj,An,BD,E8,Bb,lC,ma,lG,zJ,zG,zM,GP,nH,oo,kSdf,HI,Cy,Bt,oC,kZ,$ls,*])
abbrev C (n:O):Call:=callR prog 1000000 1000001 n
theorem Bz (n:O)(a:U W):C (n+1) 0 a=runF (C n) f_law a:=rfl
theorem dR (n:O)(a:U W):C (n+1) 24 a=runF (C n) az a:=rfl
theorem gC (n:O)(a:U W):C (n+1) 175 a=runF (C n) aT a:=rfl
theorem jJ (n:O)(a:U W):C (n+1) 176 a=runF (C n) cR a:=rfl
theorem lF (n:O)(a:U W):C (n+1) 233 a=runF (C n) cq a:=rfl
theorem bI (n:O)(a:U W):C (n+1) 364 a=runF (C n) aS a:=rfl
theorem iX (n:O)(a:U W):C (n+1) 365 a=runF (C n) bB a:=rfl
theorem jk (n:O)(a:U W):C (n+1) 366 a=runF (C n) bA a:=rfl
theorem aP (n:O)(a:U W):C (n+1) 367 a=runF (C n) au a:=rfl
theorem km (n:O)(a:U W):C (n+1) 368 a=runF (C n) f_kinds_of a:=rfl
theorem iP (n:O)(a:U W):C (n+1) 369 a=runF (C n) f_add_kinds a:=rfl
theorem bD (n:O)(a:U W):C (n+1) 372 a=runF (C n) aL a:=rfl
theorem nG (n:O)(a:U W):C (n+1) 373 a=runF (C n) cK a:=rfl
theorem lM (n:O)(a:U W):C (n+1) 374 a=runF (C n) cf a:=rfl
theorem gM (n:O)(a:U W):C (n+1) 401 a=runF (C n) f_law_shapes a:=rfl
theorem xN (n:O)(a:U W):C (n+1) 421 a=runF (C n) fO a:=rfl
theorem cF (n:O)(a:U W):C (n+1) 422 a=runF (C n) bc a:=rfl
theorem jh (n:O)(a:U W):C (n+1) 423 a=runF (C n) bC a:=rfl
theorem gB (n:O)(a:U W):C (n+1) 424 a=runF (C n) bK a:=rfl
theorem jO (n:O)(a:U W):C (n+1) 426 a=runF (C n) bR a:=rfl
theorem eN (n:O)(a:U W):C (n+1) 428 a=runF (C n) aZ a:=rfl
theorem jB (n:O)(a:U W):C (n+1) 429 a=runF (C n) bO a:=rfl
theorem cX (n:O)(a:U W):C (n+1) 430 a=runF (C n) f_law_signed a:=rfl
theorem qeq (a b:NU):(q a==q b)=(a==b):=by
 by_cases h:a=b
 .subst h;simp
 .have g:q a≠q b:=fun z=>h (by
   have:=N1 (λs:Str=>s.cps.toList) z;rw[q,Str.ofString_eq_toList,Str.ofString_eq_toList] at this;simp only at this
   have k:a.toList=b.toList:=by
    have inj:∀f e:U Char,f.map KY=e.map KY->f=e:=by
     intro f;induction f with
     |nil=>intro e h;cases e with
      |nil=>rfl
      |cons=>cases h
     | cons c cs l=>intro e h; cases e with
      |nil=>cases h
      |cons d ds=>
       rw[Io,Io] at h;injection h with i g
       rw[l ds g,Char.toNat_inj.mp i]
    exact inj _ _<|by simpa using this
   exact String.toList_inj.mp k)
  rw[beq_eq_false_iff_ne.mpr g,beq_eq_false_iff_ne.mpr h]
abbrev sp:Str:=q " "
theorem mi:sp=⟨#[32]⟩:=by decide +kernel
theorem aV (x y:Str):(x++y).cps.toList=x.cps.toList++y.cps.toList:=Nu
theorem vh {x y:Str}(h:x.cps.toList=y.cps.toList):x=y:=by cases x;cases y;exact N1 Str.mk<|LA.mp h
theorem hU (a b d:Str):a++(b++d)=(a++b)++d:=by cases a;cases b;cases d;exact N1 Str.mk (Nq).symm
theorem fB (s:Str):∀(b a:U Str),b≠[]->a≠[]->Str.join s (b++a)=Str.join s b++s++Str.join s a
|[],_,h,_=>NP rfl h
|_::_,[],_,h=>NP rfl h
|[x],y::a,_,_=>rfl
|x::c::b,y::a,_,d=>by have e:=fB s (c::b) (y::a) (JV _ _) d;show x++s++Str.join s ((c::b)++(y::a))=(x++s++Str.join s (c::b))++s++Str.join s (y::a);rw[e,hU,hU]
theorem er (s:Str):∀(c:U<|U Str),(∀l∈c,l≠[])->∀d,Str.join s (c.map (Str.join s)++d)=Str.join s (c.flatten++d)
|[],_,d=>rfl
| l::c,h,d=>by
 have n:=h l Ih;have r:=er s c (λm o=>h m<|Iz _ o) d;rw[Io,Kn,Ju,LW];by_cases e:c.flatten++d=[]
 .have i:c=[]:=by
   cases c with
   |nil=>rfl
   |cons m c=>rw[Kn,Ju] at e;exact NP (M8.mp e).1<|h m<|Iz _ Ih
  subst i;have k:d=[]:=e;subst k;show Str.join s l=Str.join s (l++[]);rw[IT]
 .have g:c.map (Str.join s)++d≠[]:=by intro z;obtain⟨a,b⟩:=M8.mp z;rw[Nt.mp a,b] at e;exact e rfl
  rw[fB s l _ n e,<- r]
  have:∀f:U Str,f≠[]->Str.join s (Str.join s l::f)=Str.join s l++s++Str.join s f:=λf p=>by
   cases f with
   |nil=>exact NP rfl p
   |cons z f=>rfl
  exact this _ g
structure Gw (x:Str):Prop where
 sz:x.cps.size<=20
 cp:∀c∈x.cps.toList,c<0x110000
 fr:32 ∉ x.cps.toList
theorem dt (s:NU)(d:s.length<=20)(f:32 ∉ s.toList.map KY):Gw (q s):=by
 have e:(q s).cps.toList=s.toList.map KY:=by rw[q,Str.ofString_eq_toList]
 refine⟨?_,λc b=>?_,by rw[e];exact f⟩
 .rw[<- JH,e,Ie,Nw];exact d
 .rw [e] at b;obtain⟨ch,_,rfl⟩:=JF.mp b;have a:=ch.valid;rcases a with a|a
  .exact KG a (by decide)
  .exact a.2
theorem sH {x:Str}(a:∀c∈x.cps.toList,c<0x110000)(b:x.cps.size<=LIM):sOk x=true:=by unfold sOk;rw[Iq];refine⟨?_,NS b⟩;rw[LD];intro c d;exact NS<|a c<|by simpa using d
theorem Cj {x:Str}(h:Gw x):sOk x=true:=sH h.cp<|Ij h.sz<|by show 20<=16777215;decide
theorem mH:∀{b:U Str},(∀x∈b,∀c∈x.cps.toList,c<0x110000)->∀c∈(Str.join sp b).cps.toList,c<0x110000
|[],_,c,a=>by cases a
|[x],h,c,a=>h x Ih c a
| x::y::r,h,c,a=>by
 have e:(Str.join sp (x::y::r)).cps.toList=x.cps.toList++sp.cps.toList++(Str.join sp (y::r)).cps.toList:=by show(x++sp++Str.join sp (y::r)).cps.toList=_;rw[aV,aV]
 rw[e] at a;rcases Jw.mp a with a|a
 .rcases Jw.mp a with a | a
  .exact h x Ih c a
  .rw [mi] at a;rw[IE.mp a];decide
 .exact mH (λz d=>h z<|Iz _ d) c a
theorem i4:∀{ws:U Str},(∀x∈ws,Gw x)->(Str.join sp ws).cps.size<=21 * ws.length
|[],_=>Ic _
|[x],h=>Ij (h x Ih).sz<|by show 20<=21;decide
| x::y::r,h=>by
 have c:=i4 (ws:=y::r) λz a=>h z<|Iz _ a;have b:=(h x Ih).sz;have e:(Str.join sp (x::y::r)).cps.size=x.cps.size+1+(Str.join sp (y::r)).cps.size:=by rw[<- JH,<- JH,<- JH];show(x++sp++Str.join sp (y::r)).cps.toList.length=_;rw[aV,aV,IA,IA,mi];rfl
 rw[e,Ii];lia
theorem iW (c:O):∀(x b y:U O),c ∉ x->spl c b (x++y)=spl c (b++x) y
|[],b,y,_=>by rw[IT];rfl
|a::x,b,y,h=>by have d:a≠c:=λz=>h<|z ▸ Ih;show spl c b (a::(x++y))=_;rw[spl,NW d,iW c x (b++[a]) y λz=>h<|Iz _ z,Ju];rfl
theorem b8:∀{ws:U Str},ws≠[]->(∀x∈ws,Gw x)->spl 32 [] (Str.join sp ws).cps.toList=ws.map λx=>x.cps.toList
|[],h,_=>NP rfl h
|[x],_,h=>by have:=iW 32 x.cps.toList [] [] (h x Ih).fr;rw[IT] at this;exact this
| x::y::r,_,h=>by
 have b:=b8 (ws:=y::r) (JV _ _) λz a=>h z<|Iz _ a;have e:(Str.join sp (x::y::r)).cps.toList=x.cps.toList++32::(Str.join sp (y::r)).cps.toList:=by show(x++sp++Str.join sp (y::r)).cps.toList=_;rw[aV,aV,mi,Ju];rfl
 rw[e,iW 32 _ _ _ (h x Ih).fr,LH,spl,NR rfl,b];rfl
theorem oU {a:U Str}(b:a≠[])(h:∀x∈a,Gw x):splS (Str.join sp a)=a:=by
 unfold splS;rw[b8 b h,KD]
 conv=>rhs;rw[<- MT a]
 exact LF λx _=>vh rfl
theorem mW:∀a:U Str,strsOf (a.map T.str)=Y a
|[]=>rfl
|x::a=>by show(strsOf<|a.map T.str).map (x::·)=_;rw[mW a];rfl
theorem oa {b:Type}(a:b)(r:U b):cut (a::r) (Y 1) J=r:=by
 have e:sIx (a::r).length 0 (Y 1)=1:=by show(if(1:j)<0 then((1:j)+((a::r).length:j)).toNat else min (1:j).toNat (a::r).length)=1;rw[NW<|by decide,Ii];show min 1 (r.length+1)=1;lia
 have e2:sIx (a::r).length (a::r).length J=(a::r).length:=rfl;rw[cut,e,e2];exact Lr<|by rw[KA];lia
theorem Hr {c:Type}(a b:c)(r:U c):cut (a::b::r) (Y 2) J=r:=by
 have e:sIx (a::b::r).length 0 (Y 2)=2:=by show(if(2:j)<0 then((2:j)+((a::b::r).length:j)).toNat else min (2:j).toNat (a::b::r).length)=2;rw[NW<|by decide,Ii,Ii];show min 2 (r.length+1+1)=2;lia
 have e2:sIx (a::b::r).length (a::b::r).length J=(a::b::r).length:=rfl;rw[cut,e,e2];exact Lr<|by rw[KA];lia
theorem dr (h:NN)(m n:Md)(a:U T)(i:j):oSem .sl1 h [(m,.tup a),(n,.int i)]=Y (.s,.tup<|cut a (Y i) J):=rfl
theorem rV (n:O)(s:Str)(m:Md):C (n+1) 175 [(m,.str s)]=.ok ((.d,.int<|if keys_AHEAD_trees.contains s then 2 else 1),[]):=by
 rw[gC,x_run _ _ _ rfl];cases h:keys_AHEAD_trees.contains s with
 |true=>simp_all only[aT,h,JU]
 |false=>simp_all only[aT,h,JU]
inductive Kd where|num|truth|pair (a b:Kd)|row (a:Kd)
def Kd.th:Kd->T
|.num=>.tup [.str<|q "num"]
|.truth=>.tup [.str<|q "truth"]
|.pair a b=>.tup [.str<|q "pair",a.th,b.th]
|.row a=>.tup [.str<|q "row",a.th]
def Kd.deep:Kd->O
|.num=>0 | .truth=>0 | .pair a b=>max a.deep b.deep+1 | .row a=>a.deep+1
def Kd.hd:Kd->Str
|.num=>q "num" |.truth=>q "truth" |.pair _ _=>q "pair" |.row _=>q "row"
def Kd.ps:Kd->U Kd
|.num=>[] | .truth=>[] | .pair a b=>[a,b] | .row a=>[a]
theorem Ez:∀k:Kd,k.th=.tup (.str k.hd::k.ps.map Kd.th)
|.num=>rfl
|.truth=>rfl
|.pair _ _=>rfl
|.row _=>rfl
def kw:Kd->U Str
|.num=>[q "num"] | .truth=>[q "truth"] | .pair a b=>q "pair"::(kw a++kw b) | .row a=>q "row"::kw a
theorem ay:∀k:Kd,eqT k.th k.th=HV
|.num=>by show(q "num"==q "num"&&HV)=HV;rw[NT];rfl
|.truth=>by show(q "truth"==q "truth"&&HV)=HV;rw[NT];rfl
|.pair a b=>by show(q "pair"==q "pair"&&(eqT a.th a.th&&(eqT b.th b.th&&HV)))=HV;rw[NT,ay a,ay b];rfl
|.row a=>by show(q "row"==q "row"&&(eqT a.th a.th&&HV))=HV;rw[NT,ay a];rfl
theorem kq:∀k:Kd,dp k.th<=k.deep+1
|.num=>Ic _
|.truth=>Ic _
|.pair a b=>by have:=kq a;have:=kq b;show max 0 (max (dp a.th)<|max (dp b.th) 0)+1<=max a.deep b.deep+1+1;lia
|.row a=>by have:=kq a;show max 0 (max (dp a.th) 0)+1<=a.deep+1+1;lia
theorem bU {a b:NU}{c d:U T}:eqT (.tup (.str (q a)::c)) (.tup (.str (q b)::d))=((a==b)&&eqTs c d):=by show(q a==q b&&eqTs c d)=_;rw[qeq]
theorem eq1 (a b:T):eqTs [a] [b]=(eqT a b&&HV):=rfl
theorem eq2 (a b c d:T):eqTs [a,b] [c,d]=(eqT a c&&(eqT b d&&HV)):=rfl
theorem iE:∀{a b:Kd},eqT a.th b.th=HV->a=b
|.num,.num,_=>rfl
|.truth,.truth,_=>rfl
|.pair a b,.pair c d,h=>by rw[Kd.th,Kd.th,bU,eq2,Iq,Iq,Iq] at h;rw[iE h.2.1,iE h.2.2.1]
|.row a,.row c,h=>by rw[Kd.th,Kd.th,bU,eq1,Iq,Iq] at h;rw[iE h.2.1]
|.num,.truth,h=>by rw[Kd.th,Kd.th,bU] at h;cases h
|.num,.pair _ _,h=>by rw[Kd.th,Kd.th,bU] at h;cases h
|.num,.row _,h=>by rw[Kd.th,Kd.th,bU] at h;cases h
|.truth,.num,h=>by rw[Kd.th,Kd.th,bU] at h;cases h
|.truth,.pair _ _,h=>by rw[Kd.th,Kd.th,bU] at h;cases h
|.truth,.row _,h=>by rw[Kd.th,Kd.th,bU] at h;cases h
|.pair _ _,.num,h=>by rw[Kd.th,Kd.th,bU] at h;cases h
|.pair _ _,.truth,h=>by rw[Kd.th,Kd.th,bU] at h;cases h
|.pair _ _,.row _,h=>by rw[Kd.th,Kd.th,bU] at h;cases h
|.row _,.num,h=>by rw[Kd.th,Kd.th,bU] at h;cases h
|.row _,.truth,h=>by rw[Kd.th,Kd.th,bU] at h;cases h
|.row _,.pair _ _,h=>by rw[Kd.th,Kd.th,bU] at h;cases h
theorem aA (k:Kd):look (.s,k.th)=Y (.s,k.th):=rfl
theorem a7 (m:Md):∀k:Kd,lf m k.th=m
|.num=>rfl
|.truth=>rfl
|.pair _ _=>rfl
|.row _=>rfl
theorem qy (h:NN)(m n:Md)(a b:T)(c:dp a<=64)(e:dp b<=64):oSem .eq h [(m,a),(n,b)]=Y (.d,.bl<|eqT a b):=by show(if(decide (dp a<=64)&&decide (dp b<=64))=HV then _ else J)=_;rw[NS c,NS e];rfl
theorem rq (h:NN)(m n:Md)(a b:T)(c:dp a<=64)(e:dp b<=64):oSem .ne h [(m,a),(n,b)]=Y (.d,.bl<|!eqT a b):=by show(if(decide (dp a<=64)&&decide (dp b<=64))=HV then _ else J)=_;rw[NS c,NS e];rfl
abbrev sT (a:U Str):T:=.lst<|a.map T.str
theorem fG:∀k:Kd,kw k≠[]
|.num=>by simp[kw]
|.truth=>by simp[kw]
|.pair _ _=>by simp[kw]
|.row _=>by simp[kw]
theorem b9:∀k:Kd,∀x∈kw k,Gw x
|.num,x,h=>by rw[IE.mp h];exact dt _ (by decide)<|by decide
|.truth,x,h=>by rw[IE.mp h];exact dt _ (by decide)<|by decide
| .pair a b,x,h=>by
 rcases Ip.mp h with h|h
 .rw[h];exact dt _ (by decide)<|by decide
 .rcases Jw.mp h with h | h
  .exact b9 a x h
  .exact b9 b x h
|.row a,x,h=>by
 rcases Ip.mp h with h|h
 .rw[h];exact dt _ (by decide)<|by decide
 .exact b9 a x h
theorem iJ:∀k:Kd,(kw k).length+1<=2 ^ (k.deep+1)
|.num=>by decide
|.truth=>by decide
|.pair a b=>by have c:=iJ a;have d:=iJ b;have e:2 ^ (a.deep+1)<=2 ^ (max a.deep b.deep+1):=Mj (by decide) (by lia);have f:2 ^ (b.deep+1)<=2 ^ (max a.deep b.deep+1):=Mj (by decide) (by lia);show(kw a++kw b).length+1+1<=2 ^ (max a.deep b.deep+1+1);rw[IA,LR];lia
|.row a=>by have c:=iJ a;show(kw a).length+1+1<=2 ^ (a.deep+1+1);rw[LR];lia
theorem vJ {k:Kd}(h:k.deep<=4):(kw k).length<=31:=by have a:=iJ k;have b:2 ^ (k.deep+1)<=2 ^ 5:=Mj (by decide) (by lia);lia
theorem dN {a:U Str}(h:∀x∈a,Gw x)(b:a.length<=1000):sOk (Str.join sp a)=true:=sH (mH λx hx=>(h x hx).cp) (by
 have:=i4 h;show _<=16777215;lia)
theorem q0:∀{ws:U Str} {b:O},(∀x∈ws,x.cps.size<=b)->(ws.map λs=>s.cps.size+sp.cps.size).sum<=ws.length * (b+1)
|[],_,_=>Jo _
|x::ws,b,h=>by
 have c:=q0 (ws:=ws) (b:=b) λy a=>h y<|Iz _ a;have:=h x Ih;have e:sp.cps.size=1:=by rw[mi];rfl
 rw[Io,MZ,Ii,Nat.add_mul,Nat.one_mul,e];rw[e] at c;lia
theorem ka {k:Kd}(h:k.deep<=4):(Str.join sp<|kw k).cps.size<=651:=by have a:=i4<|b9 k;have b:=vJ h;lia
theorem sr {xs:U Str}(h:∀x∈xs,x.cps.size<=700)(a:xs.length<=10):decide ((xs.map λs=>s.cps.size+sp.cps.size).sum<=LIM)=true:=NS (by
 have:=q0 h;have b:xs.length * (700+1)<=10 * 701:=Nat.mul_le_mul a<|Ic _;show _<=16777215;lia)
theorem jn1 (a:Str)(k:Kd):Str.join sp [a,Str.join sp<|kw k]=Str.join sp (a::kw k):=by
 have:=er sp [kw k] (λl c=>by rw[IE.mp c];exact fG k) [];rw[IT,IT] at this
 have e:∀b:U Str,b≠[]->Str.join sp (a::b)=a++sp++Str.join sp b:=λb hx=>by
  cases b with
  |nil=>exact NP rfl hx
  |cons=>rfl
 rw[e _<|by simp,e _<|fG k];rfl
theorem jn2 (a:Str)(k l:Kd):Str.join sp [a,Str.join sp<|kw k,Str.join sp<|kw l]=Str.join sp (a::(kw k++kw l)):=by
 have e:∀b:U Str,b≠[]->Str.join sp (a::b)=a++sp++Str.join sp b:=λb hx=>by
  cases b with
  |nil=>exact NP rfl hx
  |cons=>rfl
 rw[e _<|by simp,e _<|by simp[fG k],fB sp _ _ (fG k)<|fG l];rfl
theorem mz:∀(k:Kd) (n:O) (m:Md),k.deep<=4->C (n+k.deep+1) 364 [(m,k.th)]=.ok ((.d,.str<|Str.join sp<|kw k),[])
|.num,n,m,_=>by
 rw[bI,x_run _ _ _ rfl];have c:=sr (xs:=[q "num"]) (λx hx=>Ij (b9 .num x hx).sz<|by decide) (by decide);have e:sOk (Str.join sp [q "num"])=true:=dN (b9 .num) (by decide);have f:fits ([T.str (q "num")].length+([]:U T).length)=true:=by decide
 simp only[Io,Jy] at c;simp_all only[aS,Kd.th,dr,oa,aQ,NR f,strsOf,c,e,show kw .num=[q "num"] from rfl]
|.truth,n,m,_=>by
 rw[bI,x_run _ _ _ rfl];have c:=sr (xs:=[q "truth"]) (λx hx=>Ij (b9 .truth x hx).sz<|by decide) (by decide);have e:sOk (Str.join sp [q "truth"])=true:=dN (b9 .truth) (by decide);have f:fits ([T.str (q "truth")].length+([]:U T).length)=true:=by decide
 simp only[Io,Jy] at c;simp_all only[aS,Kd.th,dr,oa,aQ,NR f,strsOf,c,e,show kw .truth=[q "truth"] from rfl]
| .row a,n,m,h=>by
 have o:a.deep+1<=4:=h;rw[show n+(Kd.row a).deep+1=(n+a.deep+1)+1 from rfl,bI,x_run _ _ _ rfl];have p:=λm=>mz a n m<|by lia
 have c:=sr (xs:=[q "row",Str.join sp<|kw a]) (λx hx=>by
  rcases Ip.mp hx with hx|hx
  .rw[hx];exact Ij (dt "row" (by decide)<|by decide).sz<|by decide
  .rw[IE.mp hx];exact Ij (ka<|by lia)<|by decide)<|by simp
 have l:=dN (b9<|.row a) (Ij (vJ h)<|by decide);have e2:Str.join sp [q "row",Str.join sp (kw a)]=Str.join sp (kw (.row a)):=jn1 _ _;have f:fits ([T.str (q "row")].length+[T.str (Str.join sp (kw a))].length)=true:=rfl;simp only[Io,Jy] at c;simp_all only[aS,Kd.th,dr,oa,aQ,NR f,strsOf,c,l,e2,aA,p,K4]
| .pair a b,n,m,h=>by
 have o:max a.deep b.deep+1<=4:=h;rw[show n+(Kd.pair a b).deep+1=(n+max a.deep b.deep+1)+1 from rfl,bI,x_run _ _ _ rfl];have g:=λm=>mz a (n+max a.deep b.deep-a.deep) m (by lia);have i:=λm=>mz b (n+max a.deep b.deep-b.deep) m (by lia);rw[show n+max a.deep b.deep-a.deep+a.deep=n+max a.deep b.deep by lia] at g;rw[show n+max a.deep b.deep-b.deep+b.deep=n+max a.deep b.deep by lia] at i
 have c:=sr (xs:=[q "pair",Str.join sp<|kw a,Str.join sp<|kw b]) (λx hx=>by
  rcases Ip.mp hx with hx|hx
  .rw[hx];exact Ij (dt "pair" (by decide)<|by decide).sz<|by decide
  .rcases Ip.mp hx with hx | hx
   .rw[hx];exact Ij (ka<|by lia)<|by decide
   .rw[IE.mp hx];exact Ij (ka<|by lia)<|by decide)<|by simp
 have l:=dN (b9<|.pair a b) (Ij (vJ h)<|by decide);have e2:Str.join sp [q "pair",Str.join sp (kw a),Str.join sp (kw b)]=Str.join sp (kw (.pair a b)):=jn2 _ _ _;have f:fits ([T.str (q "pair")].length+[T.str (Str.join sp (kw a)),T.str (Str.join sp (kw b))].length)=true:=rfl;simp only[Io,Jy] at c;simp_all only[aS,Kd.th,dr,oa,aQ,NR f,strsOf,c,l,e2,aA,g,i,K4]
theorem bz (a:U O)(f:Env->Fl)(x:U W)(r:U<|U W)(b:Env):forL a f (x::r) b=Fl.of b (ofO<|bindT a x b) λc=>Fl.turn (f c) (forL a f r):=rfl
theorem dh (b:U O)(f:Env->Fl)(a:Env):forL b f [] a=.nx a:=rfl
theorem kw0:keys_WITHIN.contains (q "num")=HV/\tab_WITHIN.lookup (q "num")=Y (.int 0):=by simp[keys_WITHIN,tab_WITHIN,qeq,Ib]
theorem kw1:keys_WITHIN.contains (q "truth")=HV/\tab_WITHIN.lookup (q "truth")=Y (.int 0):=by simp[keys_WITHIN,tab_WITHIN,qeq,Ib]
theorem kw2:keys_WITHIN.contains (q "pair")=HV/\tab_WITHIN.lookup (q "pair")=Y (.int 2):=by simp[keys_WITHIN,tab_WITHIN,qeq,Ib]
theorem kw3:keys_WITHIN.contains (q "row")=HV/\tab_WITHIN.lookup (q "row")=Y (.int 1):=by simp[keys_WITHIN,tab_WITHIN,qeq,Ib]
theorem bt:(HV != HV)=false:=rfl
theorem r0:IB (0:j).toNat=[]:=rfl
theorem r1:IB (1:j).toNat=[0]:=rfl
theorem r2:IB (2:j).toNat=[0,1]:=rfl
theorem z0:(decide (LN 0<4611686018427387904)&&fits (LU 0))=true:=rfl
theorem z1:(decide (LN 1<4611686018427387904)&&fits (LU 1))=true:=rfl
theorem z2:(decide (LN 2<4611686018427387904)&&fits (LU 2))=true:=rfl
theorem e9 {b r:U Str}{w:Str}{a:O}(h:b.drop a=w::r):a<b.length/\b.drop (a+1)=r/\atI (b.map T.str) (a:j)=Y (.str w):=by
 have c:a<b.length:=by have:=N1 KW h;rw[KA,Ii] at this;lia
 refine⟨c,by rw[<- L9,h];rfl,atN rfl ?_⟩;have:b[a]?=Y w:=by rw[<- List.head?_drop,h];rfl
 rw[IW,this];rfl
theorem tkP:∀(k:Kd) (d n:O) (b r:U Str) (a:O) (m c e:Md),k.deep<d->b.drop a=kw k++r->C (n+d+1) 367 [(m,sT b),(c,.int (a:O)),(e,.int (d:O))]=.ok ((.o<|.o .s,.tup [k.th,.int ((a+(kw k).length:O):j)]),[])
|_,0,_,_,_,_,_,_,_,h,_=>NP h<|by lia
|.num,d+1,n,b,r,a,m,c,e,_,t=>by rw[show n+(d+1)+1=(n+d+1)+1 from rfl,aP,x_run _ _ _ rfl];obtain⟨v,f,i⟩:=e9 (w:=q "num") (r:=r) t;have g:decide (((b.map T.str).length:j)<=(a:j))=false:=N0 (by rw[Ie];lia);unfold sT;simp_all only[au,g,i,kw0.1,kw0.2,bt,z0,r0,dh,Lo,Oa,Oj];rfl
|.truth,d+1,n,b,r,a,m,c,e,_,t=>by rw[show n+(d+1)+1=(n+d+1)+1 from rfl,aP,x_run _ _ _ rfl];obtain⟨v,f,i⟩:=e9 (w:=q "truth") (r:=r) t;have g:decide (((b.map T.str).length:j)<=(a:j))=false:=N0 (by rw[Ie];lia);unfold sT;simp_all only[au,g,i,kw1.1,kw1.2,bt,z0,r0,dh,Lo,Oa,Oj];rfl
|.row k,d+1,n,b,r,a,m,c,e,h,t=>by
 have G:k.deep+1<d+1:=h;rw[show n+(d+1)+1=(n+d+1)+1 from rfl,aP,x_run _ _ _ rfl];obtain⟨v,f,i⟩:=e9 (w:=q "row") (r:=kw k++r) t;have g:decide (((b.map T.str).length:j)<=(a:j))=false:=N0 (by rw[Ie];lia);have e2:(((d+1:O):j)==1)=false:=by rw[Oc];lia
 have F:((d+1:O):j)-1=(d:j):=by lia
 have z:∀m c e,C (n+d+1) 367 [(m,.lst (b.map T.str)),(c,.int ((a:j)+1)),(e,.int (d:O))]=.ok ((.o (.o .s),.tup [k.th,.int ((a+1+(kw k).length:O):j)]),[]):=λm c e=>tkP k d n b r (a+1) m c e (by lia) f;have u:[T.str (q "row")].length<LIM:=by decide
 have p:a+(kw (.row k)).length=a+1+(kw k).length:=by show a+((kw k).length+1)=_;lia
 rw[p];unfold sT;simp_all only[au,g,i,kw3.1,kw3.2,bt,z1,r1,bz,dh,Lo,Oa,Oj,e2,F,z,NR u,Kd.th,a7]
|.pair k l,d+1,n,b,r,a,m,c,e,h,t=>by
 have G:max k.deep l.deep+1<d+1:=h;rw[show n+(d+1)+1=(n+d+1)+1 from rfl,aP,x_run _ _ _ rfl];have x:b.drop a=q "pair"::(kw k++(kw l++r)):=by rw[t];show q "pair"::(kw k++kw l)++r=_;rw[LW,Ju]
 obtain⟨v,f,i⟩:=e9 (w:=q "pair") (r:=kw k++(kw l++r)) x;have g:decide (((b.map T.str).length:j)<=(a:j))=false:=N0 (by rw[Ie];lia);have e2:(((d+1:O):j)==1)=false:=by rw[Oc];lia
 have F:((d+1:O):j)-1=(d:j):=by lia
 have z:∀m c e,C (n+d+1) 367 [(m,.lst (b.map T.str)),(c,.int ((a:j)+1)),(e,.int (d:O))]=.ok ((.o (.o .s),.tup [k.th,.int ((a+1+(kw k).length:O):j)]),[]):=λm c e=>tkP k d n b _ (a+1) m c e (by lia) f;have y:b.drop (a+1+(kw k).length)=kw l++r:=by rw[<- L9,f,List.drop_left]
 have A:∀m c e,C (n+d+1) 367 [(m,.lst (b.map T.str)),(c,.int ((a+1+(kw k).length:O):j)),(e,.int (d:O))]=.ok ((.o (.o .s),.tup [l.th,.int ((a+1+(kw k).length+(kw l).length:O):j)]),[]):=λm c e=>tkP l d n b r _ m c e (by lia) y;have u:[T.str (q "pair")].length<LIM:=by decide
 have D:[T.str (q "pair"),k.th].length<LIM:=by show 2<16777215;decide
 have p:a+(kw (.pair k l)).length=a+1+(kw k).length+(kw l).length:=by show a+((kw k++kw l).length+1)=_;rw[IA];lia
 rw[p];unfold sT;simp_all only[au,g,i,kw2.1,kw2.2,bt,z2,r2,bz,dh,Lo,Oa,Oj,e2,F,z,A,NR u,NR D,Kd.th,a7]
theorem ET (k:Kd)(n:O)(m:Md)(h:k.deep<=4):C (n+8) 365 [(m,.str<|Str.join sp<|kw k)]=.ok ((.o .s,k.th),[]):=by
 rw[show n+8=(n+7)+1 from rfl,iX,x_run _ _ _ rfl];have e1:splS (Str.join sp (kw k))=kw k:=oU (fG k)<|b9 k;have sz:=ka h;have c:decide ((Str.join sp (kw k)).cps.size+2<=LIM)=true:=NS (by show _<=16777215;lia);have d:(kw k).all sOk=true:=JW.mpr λx hx=>Cj<|b9 k x hx;have f:(q " "==Str.ofString " ")=true:=NT _
 have e:∀m a,C (n+7) 366 [(m,.lst ((kw k).map T.str)),(a,.int 0)]=.ok ((.o (.o .s),.tup [k.th,.int ((kw k).length:O)]),[]):=λm a=>by
  rw[show n+7=(n+6)+1 from rfl,jk,x_run _ _ _ rfl];have e:∀m a b,C (n+6) 367 [(m,.lst ((kw k).map T.str)),(a,.int 0),(b,.int 5)]=.ok ((.o (.o .s),.tup [k.th,.int ((kw k).length:O)]),[]):=λm a b=>by have:=tkP k 5 n (kw k) [] 0 m a b (by lia) (by rw[IT];rfl);rw[Jx] at this;exact this
  simp_all only[bA,e]
 have d1:decide (((kw k).length:j)<(((kw k).map T.str).length:O))=false:=N0 (by rw[Ie];lia);simp_all only[bB,c,d,f,e1,e,d1]
abbrev EV:=U<|Str×Kd
noncomputable abbrev dK (e:EV):U (j ⊕ Str):=e.map λp=>.inr p.1
abbrev dV (e:EV):U T:=e.map λp=>p.2.th
abbrev dE (e:EV):T:=.dct (dK e)<|dV e
theorem eO (x:Str):∀e:EV,lookD (.inr x) (dK e) (dV e)=(e.lookup x).map Kd.th
|[]=>rfl
| (y,k)::e=>by
 show(if(JR y:j ⊕ Str)=.inr x then Y k.th else lookD (.inr x) (dK e)<|dV e)=_;rw[eO x e,Je];by_cases h:y=x
 .subst h;rw[NR rfl,NT];rfl
 .rw[NW λz=>h<|LQ z,beq_eq_false_iff_ne.mpr<|IM h]
theorem rW (x:Str)(k:Kd):∀e:EV,e.lookup x=J->putT (.inr x) k.th (dK e) (dV e)=(dK<|e++[(x,k)],dV<|e++[(x,k)])
|[],_=>rfl
| (y,l)::e,h=>by
 rw[Je] at h;by_cases a:x=y
 .subst a;rw[NT] at h;cases h
 .rw [beq_eq_false_iff_ne.mpr a] at h;have b:=rW x k e h;show(if(JR y:j ⊕ Str)=.inr x then _ else _)=_;rw[NW λz=>a (LQ z).symm];show(_::(putT (.inr x) k.th (dK e)<|dV e).1,_::(putT (.inr x) k.th (dK e)<|dV e).2)=_;rw[b];rfl
def ba (w:Str):NN:=w==q "K" || w==q "L"
def fit:U Str->U Kd->EV->B EV
|[],_,a=>Y a
|_::_,[],_=>J
| w::c,k::b,a=>bif ba w then (match a.lookup w with
  |some u=>bif eqT u.th k.th then fit c b a else J
  |none=>fit c b<|a++[(w,k)]) else bif w==k.hd then fit c (k.ps++b) a else J
abbrev FB:U S:=[.asg (.l []) 5<|.pop 3 [.cst<|.int 0],
   .ite (.q [4] []) (.op .isin HU [.var 4,.tup [.cst (.str (q "K")),.cst (.str (q "L"))]]) [
    .ite (.l [5]) (.op .ne HU [.sdf 2 4 5,.var 5]) [
     .ret [] (.cst<|.non)] []] [
    .ite (.q [4,5] []) (.op .eq HU [.var 4,.op .ix HU [.var 5,.cst (.int 0)]]) [
     .asg (.q [3,5] []) 3 (.op .add HU [.op .list HU [.op .sl1 HU [.var 5,.cst<|.int 1]],.var 3])] [
     .ret [] (.cst<|.non)]]]
theorem Ap (t:T)(a:U T)(m:Md):j5 (.o .s,.lst (t::a)) [(m,.int 0)]=Y ((.s,t),(.o .s,.lst a)):=rfl
theorem HL {a:Md}(b:a≠.s){e:EV}(f:e.length<=100){w:Str}{u:Kd}(h:e.lookup w=Y u)(c:Md)(t:T):sdfT (Y (a,dE e)) (Y (c,.str w)) (Y (.s,t))=Y ((.s,u.th),(a,dE e)):=by
 have e1:decide ((dK e).length<LIM)=true:=NS (by rw[Ie];show _<16777215;lia);cases a with
 |s=>exact NP rfl b
 |d=>show(if decide ((dK e).length<LIM)=HV then Y (match lookD (.inr w) (dK e) (dV e) with|some u=>_|none=>_) else J)=_;rw[NR e1,eO,h];rfl
 |o m=>show(if decide ((dK e).length<LIM)=HV then Y (match lookD (.inr w) (dK e) (dV e) with|some u=>_|none=>_) else J)=_;rw[NR e1,eO,h];rfl
theorem Gx {a:Md}(b:a≠.s){e:EV}(f:e.length<=100){w:Str}(h:e.lookup w=J)(c:Md)(k:Kd):sdfT (Y (a,dE e)) (Y (c,.str w)) (Y (.s,k.th))=Y ((.s,k.th),(.o .s,dE<|e++[(w,k)])):=by
 have e1:decide ((dK e).length<LIM)=true:=NS (by rw[Ie];show _<16777215;lia);cases a with
 |s=>exact NP rfl b
 |d=>show(if decide ((dK e).length<LIM)=HV then Y (match lookD (.inr w) (dK e) (dV e) with|some u=>_|none=>_) else J)=_;rw[NR e1,eO,h,rW w k e h];rfl
 |o m=>show(if decide ((dK e).length<LIM)=HV then Y (match lookD (.inr w) (dK e) (dV e) with|some u=>_|none=>_) else J)=_;rw[NR e1,eO,h,rW w k e h];rfl
theorem BC (w:Str):(flatT (.str w)&&[T.str<|q "K",.str<|q "L"].all flatT)=true:=rfl
theorem qA (w:Str):([T.str<|q "K",.str<|q "L"].any λt=>eqT t<|.str w)=ba w:=by show(q "K"==w || (q "L"==w || false))=(w==q "K" || w==q "L");rw[Js,Lj (a:=w),Lj (a:=w) (b:=q "L")]
theorem dW (n:O)(N P:B W):∀(x:U Str) (t:U Kd) (r d:EV) (y:Md) (I M:B W),fit x t r=Y d->y≠.s->r.length+x.length<=100->(∀k∈t,k.deep<=10)->t.length+x.length * 2<=100->(∀p∈r,p.2.deep<=10) ->
 ∃(g:U Kd) (f:Md) (i m:B W),f≠.s/\forL [4] (evSs (C n) FB) (x.map λw=>[(.s,.str w)]) [N,P,Y (y,dE r),Y (.o .s,.lst<|t.map Kd.th),I,M]=.nx [N,P,Y (f,dE d),Y (.o .s,.lst<|g.map Kd.th),i,m]
|[],t,r,d,y,I,M,h,G,_,_,_,_=>by cases h;exact⟨t,y,I,M,G,rfl⟩
|w::x,[],r,d,y,I,M,h,_,_,_,_,_=>by cases h
| w::x,k::t,r,d,y,I,M,h,G,c,hk,hl2,Z=>by
 rw[Io,bz];have A:=hk k Ih;have D:=λl c=>hk l<|Iz _ c;have d1:dp k.th<=64:=by have:=kq k;lia
 rw[Ii] at c;rw[Ii,Ii] at hl2;rw[fit] at h;cases H:ba w with
 | true =>
  rw[H,cond_true] at h;cases Q:r.lookup w with
  | some u =>
   rw[Q] at h;simp only at h;cases z:eqT u.th k.th with
   |false=>rw[z] at h;cases h
   |true=>rw[z,cond_true] at h;have:=iE z;subst this;obtain⟨g,f,i,m,v,e⟩:=dW n N P x t r d y (Y (.s,.str w)) (Y (.s,u.th)) h G (by lia) D (by lia) Z;refine⟨g,f,i,m,v,?_⟩;rw[<- e];have s1:=HL G (e:=r) (by lia) Q .s u.th;simp_all only[Ap,BC,qA,H,s1,aA,rq _ _ _ _ _ d1 d1,ay,a7]
  | none =>
   rw[Q] at h;simp only at h
   obtain⟨g,f,i,m,v,e⟩:=dW n N P x t (r++[(w,k)]) d (.o .s) (Y (.s,.str w)) (Y (.s,k.th)) h (by decide) (by rw[IA,Kp];lia) D (by lia) (λp hp=>by
    rcases Jw.mp hp with hp|hp
    .exact Z p hp
    .rw[IE.mp hp];exact A)
   refine⟨g,f,i,m,v,?_⟩;rw[<- e];have s1:=Gx G (e:=r) (by lia) Q .s k;simp_all only[Ap,BC,qA,H,s1,aA,rq _ _ _ _ _ d1 d1,ay,a7]
 | false =>
  rw[H,cond_false] at h;cases z:w==k.hd with
  |false=>rw[z] at h;cases h
  | true =>
   rw[z,cond_true] at h
   have F:k.ps.length<=2/\∀l∈k.ps,l.deep<=10:=by
    cases k with
    |num=>exact⟨by decide,λl c=>nomatch c⟩
    |truth=>exact⟨by decide,λl c=>nomatch c⟩
    |pair a b=>
     have:max a.deep b.deep+1<=10:=A;refine⟨by show 2<=2;decide,λl c=>?_⟩;rcases Ip.mp c with c|c
     .rw[c];lia
     .rw[IE.mp c];lia
    |row a=>have:a.deep+1<=10:=A;refine⟨by show 1<=2;decide,λl c=>?_⟩;rw[IE.mp c];lia
   obtain⟨g,f,i,m,v,e⟩:=dW n N P x (k.ps++t) r d y (Y (.s,.str w)) (Y (.s,k.th)) h G (by lia) (λl c=>by
    rcases Jw.mp c with c|c
    .exact F.2 l c
    .exact D l c) (by rw[IA];have:=F.1;lia) Z
   refine⟨g,f,i,m,v,?_⟩;rw[<- e];have f1:fits ((k.ps.map Kd.th).length+(t.map Kd.th).length)=true:=NS (by rw[Ie,Ie];have:=F.1;show _<=16777215;lia);rw[Me];simp_all only[Ap,BC,qA,H,Ez k,oa,dr,z,NR f1]
theorem ig (n:O)(c:Str)(a:U Str)(b:U Kd)(f:EV)(x:splS c=a)(h:(decide (c.cps.size+2<=LIM)&&a.all sOk)=HV)(v:fit a b []=Y f)(hk:∀k∈b,k.deep<=10)(A:b.length<=10)(D:a.length<=10)(m m':Md):∃l,l≠.s/\C (n+1) 373 [(m,.str c),(m',.lst<|b.map Kd.th)]=.ok ((l,dE f),[]):=by
 obtain⟨o,i,y,z,g,e⟩:=dW n (Y (.s,.str c)) (Y (.s,.lst<|b.map Kd.th)) a b [] f .d J J v (by decide) (by rw[J6];lia) hk (by lia) λp hp=>nomatch hp;refine⟨i,g,?_⟩;rw[nG,x_run _ _ _ rfl];have r:(q " "==Str.ofString " ")=true:=NT _;rw[Iq] at h;have u:(a.map T.str).map (λt=>[((.s,t):W)])=a.map λw=>[(.s,.str w)]:=by rw[KD];rfl
 simp_all only[cK,r,x,h.1,h.2,u];rw[show T.dct [] []=dE [] from rfl,e];simp_all only[]
def sbs (a:EV):U Str->U Str
|[]=>[]
|w::b=>(match a.lookup w with|some k=>kw k|none=>[w])++sbs a b
def sb1 (a:EV)(w:Str):Str:=match a.lookup w with|some k=>Str.join sp (kw k)|none=>w
theorem rQ (a:EV)(b:U Str):Str.join sp (b.map<|sb1 a)=Str.join sp (sbs a b):=by
 have c:b.map (sb1 a)=(b.map λw=>match a.lookup w with|some k=>kw k|none=>[w]).map (Str.join sp):=by rw[KD];refine LF λw _=>?_;show sb1 a w=Str.join sp (match a.lookup w with|some k=>kw k|none=>[w]);unfold sb1;cases a.lookup w<;>rfl
 have d:sbs a b=(b.map λw=>match a.lookup w with|some k=>kw k|none=>[w]).flatten:=by
  induction b with
  |nil=>rfl
  |cons w b f=>rw[sbs,Io,Kn,f (by rw[KD];refine LF λw _=>?_;show sb1 a w=Str.join sp (match a.lookup w with|some k=>kw k|none=>[w]);unfold sb1;cases a.lookup w<;>rfl)]
 have:=er sp (b.map λw=>match a.lookup w with|some k=>kw k|none=>[w]) (λl e=>by
  obtain⟨w,_,rfl⟩:=JF.mp e;show(match a.lookup w with|some k=>kw k|none=>[w])≠[];cases a.lookup w with
  |none=>exact JV _ _
  |some k=>exact fG k) []
 rw[IT,IT] at this;rw[c,d,this]
noncomputable def sbm (a:EV)(w:Str):Md:=match a.lookup w with|some _=>.d|none=>.s
theorem mC {b:Type}(m:b->Md)(g:b->T):∀a:U b,trees (a.map λx=>(m x,g x))=a.map g
|[]=>rfl
|x::a=>by show g x::trees (a.map λx=>(m x,g x))=_;rw[mC m g a];rfl
theorem ai (t:T):look (.s,t)=Y (.s,t):=rfl
theorem dg (n:O)(l:Str)(i:U Str)(c:EV)(K:Kd)(Q:splS l=i)(z:(decide (l.cps.size+2<=LIM)&&i.all sOk)=HV)(P:∀w∈i,Gw w)(y:sbs c i=kw K)(D:K.deep<=4)(N:∀p∈c,p.2.deep<=4)(v:i.length<=10)(m m':Md):C (n+9) 374 [(m,.str l),(m',dE c)]=.ok ((.o .s,K.th),[]):=by
 rw[show n+9=(n+8)+1 from rfl,lM,x_run _ _ _ rfl];have G:(q " "==Str.ofString " ")=true:=NT _;rw[Iq] at z;have rk:=λm=>ET K n m D;have Z:Str.join sp (i.map (sb1 c))=Str.join sp (kw K):=by rw[rQ,y]
 have r:∀{w:Str} {k:Kd},c.lookup w=Y k->k.deep<=4:=λ{w k} h=>by obtain⟨a,b,e,_⟩:=List.lookup_eq_some_iff.mp h;exact N _<|by rw[e];exact IC _ Ih
 have I:(i.map T.str).map (λt=>[((.s,t):W)])=i.map λw=>[(.s,.str w)]:=by rw[KD];rfl
 have H:=cS (tg:=[4]) (f:=fw<|evE (C<|n+8)<|.ifx (.op .inD HU [.var 4,.var 1]) (.call 364 [.op .ixD HU [.var 1,.var 4]])<|.var 4) (η:=[Y (.d,.str l),Y (.s,dE c),J,J,J]) (g:=λw:Str=>[((.s,.str w):W)]) (λw=>(sbm c w,.str<|sb1 c w)) i [] (λw v=>by
  refine⟨_,[Y (.d,.str l),Y (.s,dE c),J,J,Y (.s,.str w)],rfl,?_,rfl⟩;have F:keyT (.str w)=Y (.inr w):=rfl;cases h:c.lookup w with
  |none=>
   have A:lookD (.inr w) (dK c) (dV c)=none:=by rw[eO,h];rfl
   have u:sbm c w=.s/\sb1 c w=w:=by unfold sbm sb1;rw[h];exact⟨rfl,rfl⟩
   rw[u.1,u.2];simp_all only[ai,F,A,Option.isSome_none]
  | some k =>
   have A:lookD (.inr w) (dK c) (dV c)=Y k.th:=by rw[eO,h];rfl
   have u:sbm c w=.d/\sb1 c w=Str.join sp (kw k):=by unfold sbm sb1;rw[h];exact⟨rfl,rfl⟩
   rw[u.1,u.2];have kx:C (n+8) 364 [(.s,k.th)]=.ok ((.d,.str (Str.join sp (kw k))),[]):=by have M:=r h;have:=mz k (n+7-k.deep) .s M;rw[show n+7-k.deep+k.deep+1=n+8 by lia] at this;exact this
   simp_all only[ai,F,A,Nl,kx])
 have so:sOk (Str.join sp (kw K))=true:=dN (b9 K) (Ij (vJ D)<|by decide);have tr:trees (i.map λw=>((sbm c w,.str (sb1 c w)):W))=(i.map (sb1 c)).map T.str:=by rw[mC,KD];rfl
 have sm:=sr (xs:=i.map<|sb1 c) (λx hx=>by
  obtain⟨w,v,rfl⟩:=JF.mp hx;unfold sb1;cases h:c.lookup w with
  |none=>exact Ij (P w v).sz<|by decide
  |some k=>exact Ij (ka<|r h)<|by decide)<|by rw[Ie];exact v
 simp_all only[cf,G,Q,z.1,z.2,I,H,tr,mW,Z,so,sm,rk,a7]
inductive Rl:NU->U Kd->Kd->Prop
 |not:Rl "not" [.truth] .truth
 |first (a b:Kd):Rl "first" [.pair a b] a
 |second (a b:Kd):Rl "second" [.pair a b] b
 |one (a:Kd):Rl "one" [a] (.row a)
 |upto:Rl "upto" [.num] (.row .num)
 |long (a:Kd):Rl "long" [.row a] .num
 |sum:Rl "sum" [.row .num] .num
 |sums:Rl "sums" [.row .num] (.row .num)
 |most:Rl "most" [.row .num] .num
 |flat (a:Kd):Rl "flat" [.row (.row a)] (.row a)
 |add:Rl "add" [.num,.num] .num
 |sub:Rl "sub" [.num,.num] .num
 |mul:Rl "mul" [.num,.num] .num
 |div:Rl "div" [.num,.num] .num
 |rest:Rl "rest" [.num,.num] .num
 |less:Rl "less" [.num,.num] .truth
 |same:Rl "same" [.num,.num] .truth
 |same2:Rl "same" [.truth,.truth] .truth
 |both:Rl "both" [.truth,.truth] .truth
 |pair (a b:Kd):Rl "pair" [a,b] (.pair a b)
 |pick (a:Kd):Rl "pick" [.row a,.num] a
 |join (a:Kd):Rl "join" [.row a,.row a] (.row a)
 |keep (a:Kd):Rl "keep" [.row a,.row .truth] (.row a)
 |cut (a:Kd):Rl "cut" [.row a,.row .num] (.row (.row a))
 |ifs (a:Kd):Rl "if" [.truth,a,a] a
 |lets (a b:Kd):Rl "let" [a,b] b
 |each (a b:Kd):Rl "each" [.row a,b] (.row b)
 |times (a:Kd):Rl "times" [.num,a,a] a
structure Row (s bw aw:NU)(bs as:U NU):Prop where
 c1:(q s==q "name")=HU
 c2:keys_LEAVES.contains (q s)=HU
 c3:(q s==q "none")=HU
 c4:splS (q bw)=bs.map q
 c5:(decide ((q bw).cps.size+2<=LIM)&&(bs.map q).all sOk)=HV
 c6:bs.length<=10
 c7:splS (q aw)=as.map q
 c8:(decide ((q aw).cps.size+2<=LIM)&&(as.map q).all sOk)=HV
 c9:as.length<=10
 cg:∀w∈as.map q,Gw w
def chk (s b a:NU)(bs as:U NU):NN:=!(s=="name")&&!(keys_LEAVES.contains<|q s)&&!(s=="none")&&((splS (q b)==bs.map q)&&(decide ((q b).cps.size+2<=LIM)&&(bs.map q).all sOk)&&decide (bs.length<=10))&&((splS (q a)==as.map q)&&(decide ((q a).cps.size+2<=LIM)&&(as.map q).all sOk)&&decide (as.length<=10))&&as.all (λw=>decide (w.length<=20)&&!(w.toList.map KY).contains 32)
theorem iL {s f e:NU}{bs as:U NU}(a:chk s f e bs as=HV):Row s f e bs as:=by
 unfold chk at a;have ⟨a,b⟩:=IK.mp a;have ⟨a,c⟩:=IK.mp a;have ⟨a,d⟩:=IK.mp a;have ⟨a,l⟩:=IK.mp a;have ⟨i,k⟩:=IK.mp a;have ⟨c,t⟩:=IK.mp c;have ⟨p,r⟩:=IK.mp c;have ⟨d,o⟩:=IK.mp d;have ⟨m,n⟩:=IK.mp d;refine⟨by rw[qeq];simpa using i,by simpa using k,by rw[qeq];simpa using l,eq_of_beq m,n,NY o,eq_of_beq p,r,NY t,λw u=>?_⟩;obtain⟨x,hx,rfl⟩:=JF.mp u;have ⟨h,g⟩:=IK.mp<|JW.mp b x hx
 exact dt x (NY h) (λz=>by
  rw[List.contains_iff_mem.mpr z] at g;cases g)
theorem aD (n:O){s bw aw:NU}{bs as:U NU}{r more:U T}{w:U<|U W}{fd:EV}{a:U Kd}{K:Kd}(c:EV)(H:chk s bw aw bs as=HV)(v:tab_RULES.lookup (q s)=Y (.tup (.tup [.str<|q bw,.str<|q aw]::more)))(hp:pairsT more=Y w)(I:fit (bs.map q) a []=Y fd)(g:sbs fd (as.map q)=kw K)(G:K.deep<=4)(e:∀p∈fd,p.2.deep<=4)(hk:∀k∈a,k.deep<=10)(N:a.length<=10)(Q Z m2:Md):C (n+10) 372 [(Q,.tup (.str (q s)::r)),(Z,dE c),(m2,.lst<|a.map Kd.th)]=.ok ((.o .s,K.th),[]):=by
 obtain⟨l,t,u,x,y,z,A,D,F,M⟩:=iL H;obtain⟨mf,f,h⟩:=ig (n+8) (q bw) (bs.map q) a fd x y I hk N (by rw[Ie];exact z) .s .s;have i:=λm P=>dg n (q aw) (as.map q) fd K A D M g G e (by rw[Ie];exact F) m P;have ep:pairsT (.tup [.str (q bw),.str (q aw)]::more)=Y ([(.s,.str (q bw)),(.s,.str (q aw))]::w):=by show(pairsT more).map _=_;rw[hp];rfl
 have b:∀m,lf m (dE fd)=m:=λm=>rfl;have el:∀m,look (m,dE fd)=if m=.s then Y (.s,dE fd) else none:=λm=>by cases m<;>rfl
 rw[show n+10=(n+9)+1 from rfl,bD,x_run _ _ _ rfl];cases mf with
 |s=>exact NP rfl f
 |d=>simp_all only[aL,l,t,u,JU,v,ep,h,bz,b,ai,i]
 |o m=>simp_all only[aL,l,t,u,JU,v,ep,h,bz,b,ai,i]
theorem fd0:∀p∈([]:EV),p.2.deep<=4:=λp h=>nomatch h
theorem fd1 {x:Str}{a:Kd}(h:a.deep<=4):∀p∈([(x,a)]:EV),p.2.deep<=4:=λp hp=>by rw[IE.mp hp];exact h
theorem fd2 {x y:Str}{a b:Kd}(h:a.deep<=4)(c:b.deep<=4):∀p∈([(x,a),(y,b)]:EV),p.2.deep<=4:=λp hp=>by
 rcases Ip.mp hp with hp|hp
 .rw[hp];exact h
 .rw[IE.mp hp];exact c
theorem t8 (n:O)(r:U T)(c:EV)(D F G:Md):C (n+10) 372 [(D,.tup (.str (q "same")::r)),(F,dE c),(G,.lst [Kd.truth.th,Kd.truth.th])]=.ok ((.o .s,Kd.truth.th),[]):=by
 have y:chk "same" "truth truth" "truth" ["truth","truth"] ["truth"]=true:=by decide +kernel
 obtain⟨h,i,l,u,v,H,w,x,I,z⟩:=iL y;obtain⟨t,e,b⟩:=ig (n+8) (q "truth truth") (["truth","truth"].map q) [.truth,.truth] [] u v (by simp[fit,ba,qeq,Kd.hd,Kd.ps]) (λk hk=>by rcases Ip.mp hk with rfl|hk;decide;rw[IE.mp hk];decide) (by decide) (by decide) .s .s;have f:=λm A=>dg n (q "truth") (["truth"].map q) [] .truth w x z (by simp[sbs,kw]) (by decide) fd0 (by decide) m A;have g:C (n+8+1) 373 [(.s,.str (q "num num")),(.s,.lst [Kd.truth.th,Kd.truth.th])]=.ok ((.d,.non),[]):=by kernel_rfl
 have p:tab_RULES.lookup (q "same")=Y (.tup [.tup [.str (q "num num"),.str (q "truth")],.tup [.str (q "truth truth"),.str (q "truth")]]):=by kernel_rfl
 have ep:pairsT [.tup [.str (q "num num"),.str (q "truth")],.tup [.str (q "truth truth"),.str (q "truth")]]=Y [[(.s,.str (q "num num")),(.s,.str (q "truth"))],[(.s,.str (q "truth truth")),(.s,.str (q "truth"))]]:=rfl;have a:∀m,lf m (dE [])=m:=λm=>rfl;have b:C (n+8+1) 373 [(.s,.str (q "truth truth")),(.s,.lst [Kd.truth.th,Kd.truth.th])]=.ok ((t,dE []),[]):=b;rw[show n+10=(n+9)+1 from rfl,bD,x_run _ _ _ rfl];cases t with
 |s=>exact NP rfl e
 |d=>simp_all only[aL,h,i,l,JU,p,ep,g,b,bz,a,ai,f]
 |o m=>simp_all only[aL,h,i,l,JU,p,ep,g,b,bz,a,ai,f]
theorem rw1 {a:Kd}(h:(Kd.row a).deep<=4):a.deep<=4:=by have:a.deep+1<=4:=h;lia
theorem BE {s:NU}{l:U Kd}{K:Kd}(h:Rl s l K)(hk:∀k∈l,k.deep<=4)(e:K.deep<=4)(n:O)(r:U T)(c:EV)(f g i:Md):C (n+10) 372 [(f,.tup (.str (q s)::r)),(g,dE c),(i,.lst<|l.map Kd.th)]=.ok ((.o .s,K.th),[]):=by
 have d:∀k∈l,k.deep<=10:=λk h=>Ij (hk k h) (by decide);cases h with
 |same2=>exact t8 n r c f g i
 |not=>exact aD n (bw:="truth") (aw:="truth") (bs:=["truth"]) (as:=["truth"]) (more:=[]) (fd:=[]) c (by decide +kernel) (by kernel_rfl) rfl (by simp[fit,ba,qeq,Kd.hd,Kd.ps,Ib,ay]) (by simp[sbs,kw,qeq,Ib]) e (fd0) d (by simp) f g i
 |first a b=>exact aD n (bw:="pair K L") (aw:="K") (bs:=["pair","K","L"]) (as:=["K"]) (more:=[]) (fd:=[(q "K",K),(q "L",b)]) c (by decide +kernel) (by kernel_rfl) rfl (by simp[fit,ba,qeq,Kd.hd,Kd.ps,Ib,ay]) (by simp[sbs,kw,qeq,Ib]) e (fd2 (by have:max K.deep b.deep+1<=4:=hk _ Ih;lia) (by have:max K.deep b.deep+1<=4:=hk _ Ih;lia)) d (by simp) f g i
 |second a b=>exact aD n (bw:="pair K L") (aw:="L") (bs:=["pair","K","L"]) (as:=["L"]) (more:=[]) (fd:=[(q "K",a),(q "L",K)]) c (by decide +kernel) (by kernel_rfl) rfl (by simp[fit,ba,qeq,Kd.hd,Kd.ps,Ib,ay]) (by simp[sbs,kw,qeq,Ib]) e (fd2 (by have:max a.deep K.deep+1<=4:=hk _ Ih;lia) (by have:max a.deep K.deep+1<=4:=hk _ Ih;lia)) d (by simp) f g i
 |one a=>exact aD n (bw:="K") (aw:="row K") (bs:=["K"]) (as:=["row","K"]) (more:=[]) (fd:=[(q "K",a)]) c (by decide +kernel) (by kernel_rfl) rfl (by simp[fit,ba,qeq,Kd.hd,Kd.ps,Ib,ay]) (by simp[sbs,kw,qeq,Ib]) e (fd1<|hk _ Ih) d (by simp) f g i
 |upto=>exact aD n (bw:="num") (aw:="row num") (bs:=["num"]) (as:=["row","num"]) (more:=[]) (fd:=[]) c (by decide +kernel) (by kernel_rfl) rfl (by simp[fit,ba,qeq,Kd.hd,Kd.ps,Ib,ay]) (by simp[sbs,kw,qeq,Ib]) e (fd0) d (by simp) f g i
 |long a=>exact aD n (bw:="row K") (aw:="num") (bs:=["row","K"]) (as:=["num"]) (more:=[]) (fd:=[(q "K",a)]) c (by decide +kernel) (by kernel_rfl) rfl (by simp[fit,ba,qeq,Kd.hd,Kd.ps,Ib,ay]) (by simp[sbs,kw,qeq,Ib]) e (fd1<|rw1<|hk _ Ih) d (by simp) f g i
 |sum=>exact aD n (bw:="row num") (aw:="num") (bs:=["row","num"]) (as:=["num"]) (more:=[]) (fd:=[]) c (by decide +kernel) (by kernel_rfl) rfl (by simp[fit,ba,qeq,Kd.hd,Kd.ps,Ib,ay]) (by simp[sbs,kw,qeq,Ib]) e (fd0) d (by simp) f g i
 |sums=>exact aD n (bw:="row num") (aw:="row num") (bs:=["row","num"]) (as:=["row","num"]) (more:=[]) (fd:=[]) c (by decide +kernel) (by kernel_rfl) rfl (by simp[fit,ba,qeq,Kd.hd,Kd.ps,Ib,ay]) (by simp[sbs,kw,qeq,Ib]) e (fd0) d (by simp) f g i
 |most=>exact aD n (bw:="row num") (aw:="num") (bs:=["row","num"]) (as:=["num"]) (more:=[]) (fd:=[]) c (by decide +kernel) (by kernel_rfl) rfl (by simp[fit,ba,qeq,Kd.hd,Kd.ps,Ib,ay]) (by simp[sbs,kw,qeq,Ib]) e (fd0) d (by simp) f g i
 |flat a=>exact aD n (bw:="row row K") (aw:="row K") (bs:=["row","row","K"]) (as:=["row","K"]) (more:=[]) (fd:=[(q "K",a)]) c (by decide +kernel) (by kernel_rfl) rfl (by simp[fit,ba,qeq,Kd.hd,Kd.ps,Ib,ay]) (by simp[sbs,kw,qeq,Ib]) e (fd1<|rw1 e) d (by simp) f g i
 |add=>exact aD n (bw:="num num") (aw:="num") (bs:=["num","num"]) (as:=["num"]) (more:=[]) (fd:=[]) c (by decide +kernel) (by kernel_rfl) rfl (by simp[fit,ba,qeq,Kd.hd,Kd.ps,Ib,ay]) (by simp[sbs,kw,qeq,Ib]) e (fd0) d (by simp) f g i
 |sub=>exact aD n (bw:="num num") (aw:="num") (bs:=["num","num"]) (as:=["num"]) (more:=[]) (fd:=[]) c (by decide +kernel) (by kernel_rfl) rfl (by simp[fit,ba,qeq,Kd.hd,Kd.ps,Ib,ay]) (by simp[sbs,kw,qeq,Ib]) e (fd0) d (by simp) f g i
 |mul=>exact aD n (bw:="num num") (aw:="num") (bs:=["num","num"]) (as:=["num"]) (more:=[]) (fd:=[]) c (by decide +kernel) (by kernel_rfl) rfl (by simp[fit,ba,qeq,Kd.hd,Kd.ps,Ib,ay]) (by simp[sbs,kw,qeq,Ib]) e (fd0) d (by simp) f g i
 |div=>exact aD n (bw:="num num") (aw:="num") (bs:=["num","num"]) (as:=["num"]) (more:=[]) (fd:=[]) c (by decide +kernel) (by kernel_rfl) rfl (by simp[fit,ba,qeq,Kd.hd,Kd.ps,Ib,ay]) (by simp[sbs,kw,qeq,Ib]) e (fd0) d (by simp) f g i
 |rest=>exact aD n (bw:="num num") (aw:="num") (bs:=["num","num"]) (as:=["num"]) (more:=[]) (fd:=[]) c (by decide +kernel) (by kernel_rfl) rfl (by simp[fit,ba,qeq,Kd.hd,Kd.ps,Ib,ay]) (by simp[sbs,kw,qeq,Ib]) e (fd0) d (by simp) f g i
 |less=>exact aD n (bw:="num num") (aw:="truth") (bs:=["num","num"]) (as:=["truth"]) (more:=[]) (fd:=[]) c (by decide +kernel) (by kernel_rfl) rfl (by simp[fit,ba,qeq,Kd.hd,Kd.ps,Ib,ay]) (by simp[sbs,kw,qeq,Ib]) e (fd0) d (by simp) f g i
 |same=>exact aD n (bw:="num num") (aw:="truth") (bs:=["num","num"]) (as:=["truth"]) (more:=[.tup [.str<|q "truth truth",.str<|q "truth"]]) (fd:=[]) c (by decide +kernel) (by kernel_rfl) rfl (by simp[fit,ba,qeq,Kd.hd,Kd.ps,Ib,ay]) (by simp[sbs,kw,qeq,Ib]) e (fd0) d (by simp) f g i
 |both=>exact aD n (bw:="truth truth") (aw:="truth") (bs:=["truth","truth"]) (as:=["truth"]) (more:=[]) (fd:=[]) c (by decide +kernel) (by kernel_rfl) rfl (by simp[fit,ba,qeq,Kd.hd,Kd.ps,Ib,ay]) (by simp[sbs,kw,qeq,Ib]) e (fd0) d (by simp) f g i
 |pair a b=>exact aD n (bw:="K L") (aw:="pair K L") (bs:=["K","L"]) (as:=["pair","K","L"]) (more:=[]) (fd:=[(q "K",a),(q "L",b)]) c (by decide +kernel) (by kernel_rfl) rfl (by simp[fit,ba,qeq,Kd.hd,Kd.ps,Ib,ay]) (by simp[sbs,kw,qeq,Ib]) e (fd2 (hk _ Ih)<|hk _<|Iz _ Ih) d (by simp) f g i
 |pick a=>exact aD n (bw:="row K num") (aw:="K") (bs:=["row","K","num"]) (as:=["K"]) (more:=[]) (fd:=[(q "K",K)]) c (by decide +kernel) (by kernel_rfl) rfl (by simp[fit,ba,qeq,Kd.hd,Kd.ps,Ib,ay]) (by simp[sbs,kw,qeq,Ib]) e (fd1 e) d (by simp) f g i
 |join a=>exact aD n (bw:="row K row K") (aw:="row K") (bs:=["row","K","row","K"]) (as:=["row","K"]) (more:=[]) (fd:=[(q "K",a)]) c (by decide +kernel) (by kernel_rfl) rfl (by simp[fit,ba,qeq,Kd.hd,Kd.ps,Ib,ay]) (by simp[sbs,kw,qeq,Ib]) e (fd1<|rw1 e) d (by simp) f g i
 |keep a=>exact aD n (bw:="row K row truth") (aw:="row K") (bs:=["row","K","row","truth"]) (as:=["row","K"]) (more:=[]) (fd:=[(q "K",a)]) c (by decide +kernel) (by kernel_rfl) rfl (by simp[fit,ba,qeq,Kd.hd,Kd.ps,Ib,ay]) (by simp[sbs,kw,qeq,Ib]) e (fd1<|rw1 e) d (by simp) f g i
 |cut a=>exact aD n (bw:="row K row num") (aw:="row row K") (bs:=["row","K","row","num"]) (as:=["row","row","K"]) (more:=[]) (fd:=[(q "K",a)]) c (by decide +kernel) (by kernel_rfl) rfl (by simp[fit,ba,qeq,Kd.hd,Kd.ps,Ib,ay]) (by simp[sbs,kw,qeq,Ib]) e (fd1<|rw1<|rw1 e) d (by simp) f g i
 |lets a b=>exact aD n (bw:="K L") (aw:="L") (bs:=["K","L"]) (as:=["L"]) (more:=[]) (fd:=[(q "K",a),(q "L",K)]) c (by decide +kernel) (by kernel_rfl) rfl (by simp[fit,ba,qeq,Kd.hd,Kd.ps,Ib,ay]) (by simp[sbs,kw,qeq,Ib]) e (fd2 (hk _ Ih) e) d (by simp) f g i
 |ifs a=>exact aD n (bw:="truth K K") (aw:="K") (bs:=["truth","K","K"]) (as:=["K"]) (more:=[]) (fd:=[(q "K",K)]) c (by decide +kernel) (by kernel_rfl) rfl (by simp[fit,ba,qeq,Kd.hd,Kd.ps,Ib,ay]) (by simp[sbs,kw,qeq,Ib]) e (fd1 e) d (by simp) f g i
 |each a b=>exact aD n (bw:="row K L") (aw:="row L") (bs:=["row","K","L"]) (as:=["row","L"]) (more:=[]) (fd:=[(q "K",a),(q "L",b)]) c (by decide +kernel) (by kernel_rfl) rfl (by simp[fit,ba,qeq,Kd.hd,Kd.ps,Ib,ay]) (by simp[sbs,kw,qeq,Ib]) e (fd2 (rw1<|hk _ Ih)<|rw1 e) d (by simp) f g i
 |times a=>exact aD n (bw:="num K K") (aw:="K") (bs:=["num","K","K"]) (as:=["K"]) (more:=[]) (fd:=[(q "K",K)]) c (by decide +kernel) (by kernel_rfl) rfl (by simp[fit,ba,qeq,Kd.hd,Kd.ps,Ib,ay]) (by simp[sbs,kw,qeq,Ib]) e (fd1 e) d (by simp) f g i
def nob (s:NU):NN:=!(s=="let" || s=="each" || s=="times")
theorem mw (C:Call):∀(a b:U S) (c:Env),evSs C (a++b) c=(evSs C a c).seq (evSs C b)
|[],b,c=>rfl
|s::a,b,c=>by show(evS C s c).seq (evSs C<|a++b)=((evS C s c).seq<|evSs C a).seq (evSs C b);cases evS C s c<;>first|rfl|exact mw C a b _
theorem go1 {C:Call}{a b:U S}{d c:Env}(h:evSs C a d=.nx c):evSs C (a++b) d=evSs C b c:=by rw[mw,h];rfl
abbrev Bk (f:Fn)(i a:O):U S:=(f.body.drop i).take a
theorem yz (k:Kd):k.th.isG=HU/\k.th.isN=false:=by cases k<;>exact⟨rfl,rfl⟩
noncomputable abbrev pT (p:U O):U T:=p.map λ(i:O)=>T.int (i:j)
abbrev nt (p:U O)(k:Kd):T:=.tup [.tup<|pT p,k.th]
theorem da (n:O){s:Str}(r:U T)(h:keys_AHEAD_trees.contains s=HU)(m:Md):C (n+2) 176 [(m,.tup (.str s::r))]=.ok ((.s,.tup r),[]):=by have e:=λm=>rV n s m;rw[h] at e;rw[show n+2=(n+1)+1 from rfl,jJ,x_run _ _ _ rfl];simp_all only[cR,e,dr,oa]
theorem i7 (n:O){s:Str}(x:T)(r:U T)(h:keys_AHEAD_trees.contains s=HV)(m:Md):C (n+2) 176 [(m,.tup (.str s::x::r))]=.ok ((.s,.tup r),[]):=by have e:=λm=>rV n s m;rw[h] at e;rw[show n+2=(n+1)+1 from rfl,jJ,x_run _ _ _ rfl];simp_all only[cR,e,dr,Hr]
theorem uG (n:O)(s:Str)(r:U T)(m:Md):C (n+1) 233 [(m,.tup (.str s::r))]=.ok ((.s,(tab_BINDING.lookup s).getD .non),[]):=by rw[lF,x_run _ _ _ rfl];simp_all only[cq]
abbrev AB:U S:=[
   .asg (.q [2] []) 7 (.var 2),
   .ite (.q [0] [5]) (.op .eq HU [.var 5,.call 233 [.var 0]]) [
    .asg (.l [0,1,2]) 7 (.call 370 [.var 0,.var 1,.var 2,.io 4])] [],
   .app (.l [1,6,7]) 4 (.call 369 [.var 6,.op .catT HU [.var 1,.tup [.var 5]],.var 7,.io 3])]
def AK (d:O)(e:EV)(k:Kd)(t:T)(p:U O)(c:U T):Prop:=∀a,d+12<=a->∀(b:U T) (f g h:Md),b.length+c.length<LIM->C a 369 [(f,t),(g,.tup<|pT p),(h,dE e),(.o .s,.lst b)]=.ok ((.s,k.th),[(.o .s,.lst<|b++c)])
theorem FI (m:Md)(e:EV):lf m (dE e)=m:=rfl
theorem Ct (p:U O)(i:O):pT p++[T.int (i:j)]=pT (p++[i]):=by rw[pT,pT,Me];rfl
theorem uy {p:U O}(h:p.length<=100)(x:T):fits ((pT p).length+[x].length)=true:=NS<|by rw[Ie,Kp];show _<=16777215;lia
theorem tA {c d i:O}{t A b:T}{a:Kd}{p:U O}{e:EV}{g f ins:U T}(l:C c 233 [(.s,t)]=.ok ((.s,b),[]))(r:eqT (.int (i:j)) b=HU)(hd:dp b<=64)(h:AK d e a A (p++[i]) g)(k:d+12<=c)(u:f.length+g.length<LIM)(D:ins.length<=10)(hp:p.length<=100)(x y:Md)(z:B W):
  evSs (C c) AB [Y (.s,t),Y (x,.tup<|pT p),Y (y,dE e),Y (.o .s,.lst f),Y (.o .s,.lst ins),Y (.d,.int (i:j)),Y (.s,A),z,J]=.nx [Y (.s,t),Y (.s,.tup<|pT p),Y (.s,dE e),Y (.o .s,.lst<|f++g),Y (.o .s,.lst<|ins++[a.th]),Y (.d,.int (i:j)),Y (.s,A),Y (.s,dE e),J]:=by
 have v:=h c k f .s .s .s u;have e1:=λm n=>qy HU m n (.int (i:j)) b (by show 0<=64;decide) hd;have w:ins.length<LIM:=by show _<16777215;lia
 simp_all only[ai,FI,l,e1,r,Ct,uy hp,v,NR w,a7]
theorem As {l:O}{t:T}{p:U O}{e:EV}{ins:U Kd}{k:Kd}{b a rs:U T}{i c d:Md}{m n r:B W}(h f g:Md)(hp:C l 176 [(.s,t)]=.ok ((.s,.tup rs),[]))(v:forL [5,6] (evSs (C l) AB) (cH .s 0 rs) [Y (.s,t),Y (f,.tup<|pT p),Y (g,dE e),Y (.o .s,.lst b),Y (.o .s,.lst []),J,J,J,J]=.nx [Y (.s,t),Y (c,.tup<|pT p),Y (d,dE e),Y (.o .s,.lst a),Y (.o .s,.lst<|ins.map Kd.th),m,n,r,J])
  (ho:C l 372 [(.s,t),(.s,dE e),(.s,.lst<|ins.map Kd.th)]=.ok ((i,k.th),[])) (u:a.length<LIM):C (l+1) 369 [(h,t),(f,.tup<|pT p),(g,dE e),(.o .s,.lst b)]=.ok ((.s,k.th),[(.o .s,.lst<|a++[nt p k])]):=by
 rw[iP,x_run _ _ _ rfl];have H:evSs (C l) (Bk f_add_kinds 0 2) [Y (h,t),Y (f,.tup (pT p)),Y (g,dE e),Y (.o .s,.lst b),J,J,J,J,J]=.nx [Y (.s,t),Y (c,.tup (pT p)),Y (d,dE e),Y (.o .s,.lst a),Y (.o .s,.lst (ins.map Kd.th)),m,n,r,J]:=by simp_all only[Bk,Jb,IY,Jn,Jl,f_add_kinds,ai,hp,v]
 rw[show f_add_kinds.body=Bk f_add_kinds 0 2++f_add_kinds.body.drop 2 from rfl];show Fl.out [3] (evSs (C l) _ [Y (h,t),Y (f,.tup<|pT p),Y (g,dE e),Y (.o .s,.lst b),J,J,J,J,J])=_;rw[go1 H];cases i<;>simp_all only[Jb,IY,f_add_kinds,ai,ho,a7,(yz k).1,(yz k).2,NR u]
theorem jK {c:U O}{f:Env->Fl}{d:U W}{r:U<|U W}{e a b:Env}(g:bindT c d e=Y a)(h:f a=.nx b):forL c f (d::r) e=forL c f r b:=by rw[bz,g];show Fl.turn (f a) _=_;rw[h];rfl
def cs (s:NU):NN:=!(keys_AHEAD_trees.contains<|q s)&&(tab_BINDING.lookup<|q s).isNone&&!(s=="name")&&!(["let","each","times"].contains s)&&!(["num","none"].contains s)
theorem Dm {s:NU}{b:U Kd}{k:Kd}(h:Rl s b k)(a:nob s=HV):cs s=true:=by
 cases h with
 |lets=>cases a
 |each=>cases a
 |times=>cases a
 |_=>decide +kernel
structure Sg (s:NU):Prop where
 a:keys_AHEAD_trees.contains (q s)=HU
 b:tab_BINDING.lookup (q s)=J
 c:(s=="name")=HU
 d:1+b2i (["let","each","times"].contains s)=1
 e:["num","none"].contains s=HU
theorem yB {s:NU}(h:cs s=HV):Sg s:=by unfold cs at h;simp only[Iq,Nx,Nh] at h;obtain⟨⟨⟨⟨a,b⟩,c⟩,d⟩,e⟩:=h;exact⟨a,b,c,by rw[d];rfl,e⟩
theorem lT {s:NU}{b:U Kd}{k:Kd}(h:Rl s b k)(a:nob s=HV):Sg s:=yB<|Dm h a
theorem iI {s:NU}(h:Sg s)(l:O)(r:U T):C (l+1) 233 [(.s,.tup (.str (q s)::r))]=.ok ((.s,.non),[]):=by have:=uG l (q s) r .s;rw[h.b] at this;exact this
theorem p6 {s:NU}{b:U Kd}{K:Kd}(h:Rl s b K)(hk:∀k∈b,k.deep<=4)(c:K.deep<=4){l:O}(d:10<=l)(r:U T)(a:EV):C l 372 [(.s,.tup (.str (q s)::r)),(.s,dE a),(.s,.lst<|b.map Kd.th)]=.ok ((.o .s,K.th),[]):=by obtain⟨n,rfl⟩:∃n,l=n+10:=⟨l-10,by lia⟩;exact BE h hk c n r a .s .s .s
theorem mn {x:Str}:∀{e:EV},x ∉ e.map IV->e.lookup x=J
|[],_=>rfl
|(y,k)::e,h=>by rw[Je,beq_eq_false_iff_ne.mpr λz=>h<|by rw[z];exact Ih];exact mn λz=>h<|Iz _ z
abbrev eT (e:EV):U T:=e.map λp=>.tup [.str p.1,p.2.th]
theorem j7:∀e:EV,pairsT (eT e)=Y (e.map λp=>[(.s,.str p.1),(.s,p.2.th)])
|[]=>rfl
|p::e=>by show(pairsT<|eT e).map _=_;rw[j7 e];rfl
theorem yd {C:Call}{d g:U O}{k:Ik}{c:U E}{e:U O}{a r:U S}{b l f:Env}{i:U W}{h:U<|U W}(m:evL C c (pick d g b)=.ok (i,l))(n:turns k i=Y h)(o:forL e (evSs C a) h (share d b)=.nx f):evSs C (.forS d g k c e a::r) b=evSs C r f:=by rw[j1];show Fl.seq (Fl.of b (evL C c<|pick d g b)<|kFor d k e (evSs C a) b) _=_;rw[m];show Fl.seq (Fl.of b (ret (share d b)<|turns k i)<|kFor2 e<|evSs C a) _=_;rw[n];show Fl.seq (forL e (evSs C a) h<|share d b) _=_;rw[o];rfl
theorem Br {m:Md}(a:m≠.s){e:EV}{x:Str}{k:Kd}(hx:e.lookup x=J)(f:e.length<=100)(b c:Md):dC (m,dE e) (b,.str x) (c,k.th)=Y (.o .s,dE<|e++[(x,k)]):=by
 have e1:decide ((dK e).length<LIM)=true:=NS (by rw[Ie];show _<16777215;lia);cases m with
 |s=>exact NP rfl a
 |d=>show(if decide ((dK e).length<LIM)=HV then Y ((.o .s,.dct (putT (.inr x) k.th (dK e)<|dV e).1 (putT (.inr x) k.th (dK e)<|dV e).2):W) else J)=_;rw[NR e1,rW x k e hx]
 |o m=>show(if decide ((dK e).length<LIM)=HV then Y ((.o .s,.dct (putT (.inr x) k.th (dK e)<|dV e).1 (putT (.inr x) k.th (dK e)<|dV e).2):W) else J)=_;rw[NR e1,rW x k e hx]
theorem tO (a:O)(r t:B W):∀(e b:EV) (m:Md) (g o3:B W),m≠.s->((b++e).map IV).Nodup->(b++e).length<=100->∃f c d,f≠.s/\forL [2,3] (evSs (C a) [.setS (.q [2,3] []) 1 (.var 2)<|.var 3]) (e.map λp=>[((.s,.str p.1):W),(.s,p.2.th)]) [r,Y (m,dE b),g,o3,t]=.nx [r,Y (f,dE<|b++e),c,d,t]
|[],b,m,g,o3,i,_,_=>⟨m,g,o3,i,by rw[IT];rfl⟩
| p::e,b,m,g,o3,i,n,u=>by
 have h:b++p::e=b++[p]++e:=by rw[Ju];rfl
 have hx:b.lookup p.1=none:=mn λz=>by rw[Me,Io] at n;exact(List.nodup_append.mp n).2.2 _ z _ Ih rfl
 obtain⟨f,c,d,l,v⟩:=tO a r t e (b++[p]) (.o .s) (Y (.s,.str p.1)) (Y (.s,p.2.th)) (by decide) (by rw[<- h];exact n) (by rw[<- h];exact u);refine⟨f,c,d,l,?_⟩;rw[h,<- v,Io];have y:=λw x=>Br i (k:=p.2) hx (by rw[IA] at u;lia) w x;refine jK rfl ?_;simp_all only[aA,a7,y]
theorem eP {L d:O}{e:EV}{k:Kd}{t:T}{f:U T}(v:d+12<=L)(y:(e.map IV).Nodup)(w:e.length<=100)(u:AK d e k t [] f)(hk:f.length<LIM)(m:Md):C (L+1) 368 [(m,.tup [.tup<|eT e,t])]=.ok ((.o .s,.lst f),[]):=by
 obtain⟨h,a,c,x,g⟩:=tO L (Y (.s,.tup [.tup<|eT e,t])) J e [] .d J J (by decide) y w;have g:forL [2,3] (evSs (C L) [.setS (.q [2,3] []) 1 (.var 2) (.var 3)]) (e.map λp=>[((.s,.str p.1):W),(.s,p.2.th)]) [Y (.s,.tup [.tup (eT e),t]),Y (.d,.dct [] []),J,J,J]=.nx [Y (.s,.tup [.tup (eT e),t]),Y (h,dE e),a,c,J]:=g;have n:C L 369 [(.s,t),(.d,.tup []),(.s,dE e),(.o .s,.lst [])]=.ok ((.s,k.th),[(.o .s,.lst f)]):=by have:=u L v [] .s .d .s (by rw[J6];lia);rw[LH] at this;exact this
 have i:evSs (C L) (Bk f_kinds_of 0 1) [Y (m,.tup [.tup (eT e),t]),J,J,J,J]=.nx [Y (m,.tup [.tup (eT e),t]),Y (.d,.dct [] []),J,J,J]:=by kernel_rfl
 have z:evL (C L) [.op .ix HU [.var 0,.cst (.int 0)]] (pick [0] [] [Y (m,.tup [.tup (eT e),t]),Y (.d,.dct [] []),J,J,J])=.ok ([(.s,.tup (eT e))],[Y (.s,.tup [.tup (eT e),t]),J,J,J,J]):=by simp_all only[ai]
 have l:evSs (C L) (Bk f_kinds_of 1 1) [Y (m,.tup [.tup (eT e),t]),Y (.d,.dct [] []),J,J,J]=.nx [Y (.s,.tup [.tup (eT e),t]),Y (h,dE e),a,c,J]:=yd (r:=[]) z (show turns .sq2T [(.s,.tup<|eT e)]=_ from j7 e) g;rw[km,x_run _ _ _ rfl];refine(N1 (Fl.out [])<|(go1 (b:=Bk f_kinds_of 1 1++f_kinds_of.body.drop 2) i).trans<|go1 l).trans ?_;simp_all only[f_kinds_of,Jb,IY,ai,n]
noncomputable def tape (a:U j)(x y z:j):T:=.lst [.lst<|a.map T.int,.int x,.int y,.int z]
def Tp (N:O)(t:T):Prop:=∃a x y z,t=tape a ((x:O):j) y z/\x<=N
theorem tm {a b:O}{t:T}(h:Tp a t)(c:a<=b):Tp b t:=by obtain⟨d,x,y,z,e,hx⟩:=h;exact⟨d,x,y,z,e,Ij hx c⟩
theorem zH {e:Type}(a b c d:e):ixN [a,b,c,d].length 1=Y 1:=rfl
theorem Cc {e:Type}(a b c d:e):ixN [a,b,c,d].length 2=Y 2:=rfl
theorem zd {e:Type}(a b c d:e):ixN [a,b,c,d].length 3=Y 3:=rfl
theorem fm {a k:j}(hk:0<k):0<=a.fmod k/\a.fmod k<k:=by rw[Mi a<|by lia];exact⟨MB _<|by lia,Nj _ hk⟩
theorem F3 {b:U j}{x:j}(hx:0<=x)(h:b≠[]):∃c,atI (b.map T.int) (x.fmod ((b.map T.int).length:j))=Y (.int c):=by
 have k:0<b.length:=Nr.mpr h;have e:((b.map T.int).length:j)=(b.length:j):=by rw[Ie]
 rw[e,Mi x<|by lia];have f:0<=x % (b.length:j):=MB _ (by lia);have i:x % (b.length:j)<b.length:=Nj _ (by lia);obtain⟨a,g⟩:∃a:O,x % (b.length:j)=a:=⟨_,(Int.toNat_of_nonneg f).symm⟩;have d:a<b.length:=by lia
 exact⟨b[a],atN g<|by rw[IW,Kq d];rfl⟩
theorem gg:oSem .pow HU [(.d,.int 10),(.d,.int 18)]=Y (.d,.int 1000000000000000000):=rfl
theorem tX (D:Call)(a:U j)(x y z:j)(m:Md)(k:j)(b:0<z)(c:(k != 0)=HV)(e:decide (k.natAbs<18446744073709551616)=HV):
  runF D aZ [(.d,tape a x y z),(m,.int k)]=.ok ((.d,.int<|y.fmod k),[(.d,tape a x (y.fdiv k)<|z-1)]):=by
 rw[x_run _ _ _ rfl];simp_all only[aZ,tape,NS b,c,e,zH,Cc,zd,Mv,L6]
theorem zZ (D:Call)(b:U j)(x:O)(y z:j)(m:Md)(k:j)(hz:z<=0)(hk:0<k)(F:(k != 0)=HV)(G:decide (k.natAbs<18446744073709551616)=HV)(hx:x<1000000000000000000)
  (N:∀i,D 428 [(.d,tape b (x+1) i 40),(m,.int k)]=.ok ((.d,.int<|i.fmod k),[(.d,tape b (x+1) (i.fdiv k) 39)])):
  ∃r I i z',0<=r/\r<k/\I<=x+1/\runF D aZ [(.d,tape b x y z),(m,.int k)]=.ok ((.d,.int r),[(.d,tape b ((I:O):j) i z')]):=by
 have o:decide (0<z)=false:=N0 (by lia);rw[x_run _ _ _ rfl];simp_all only[aZ,tape,o,zH,Cc,zd,Mv,L6,gg];generalize P:onF _ _ _ _=e
 obtain⟨c,rfl⟩:∃c:j,e=.nx [Y (Md.d,T.lst [T.lst (Ky T.int b),T.int (x+1),T.int y,T.int z]),Y (m,T.int k),J,Y (Md.d,T.int x),Y (Md.d,T.int c),J]:=by
  rw[<- P];by_cases n:b=[]
  .subst n;exact⟨0,rfl⟩
  .obtain ⟨c,Q⟩:=F3 (x:=(x:j)) (by lia) n;have hp:decide (0<((Ky T.int b).length:j))=true:=NS (by rw[Ie];have:=Nr.mpr n;lia);have Z:(((Ky T.int b).length:j) != 0)=true:=bne_iff_ne.mpr (by have:=NY hp;lia);refine⟨c,?_⟩;simp_all only[hp,Z,Q]
 have M:decide ((x:j).natAbs<18446744073709551616)=true:=NS (by lia);have cb:decide ((c.fmod 999983+3).natAbs<18446744073709551616)=true:=NS (by have:=fm (a:=c) (show(0:j)<999983 by decide);lia);have H:∀a:j,decide ((a.fmod 1000003).natAbs<18446744073709551616)=true:=λa=>NS (by have:=fm (a:=a) (show(0:j)<1000003 by decide);lia);have g:decide ((61:j).natAbs<18446744073709551616)=true:=rfl;have f:decide ((131:j).natAbs<18446744073709551616)=true:=rfl;have d1:((999983:j) != 0)=true:=rfl;have p:((10007:j) != 0)=true:=rfl;have s:((1000003:j) != 0)=true:=rfl;have t:((999979:j) != 0)=true:=rfl;have u:((3:j) != 0)=true:=rfl;have v:decide ((3:j).natAbs<18446744073709551616)=true:=rfl;have w:((99991:j) != 0)=true:=rfl;cases l:decide ((x:j)<((Ky T.int b).length:j)) with
 |false=>simp_all only[l,F,G,gg,M,cb,H,g,f,d1,p,s,t,u,v,w,Mh];exact⟨_,x+1,y,z,(fm hk).1,(fm hk).2,Ic _,rfl⟩
 | true =>
  cases A:decide (1000000000000000000<=c) with
  |false=>simp_all only[l,A,F,G,gg,M,cb,H,g,f,d1,p,s,t,u,v,w,Mh];exact⟨_,x+1,y,z,(fm hk).1,(fm hk).2,Ic _,rfl⟩
  |true=>have h:=N<|c-1000000000000000000;unfold tape at h;simp_all only[l,A,gg,zH,Cc,zd,Mv,L6];simp_all only[h];exact⟨_,x+1,_,_,(fm hk).1,(fm hk).2,Ic _,rfl⟩
theorem xK {n N:O}{t:T}(m:Md)(k:j)(o:Tp N t)(w:N<1000000000000000000)(hk:0<k)(l:k<10000000000000000000):
  ∃r f,0<=r/\r<k/\Tp (N+1) f/\C (n+2) 428 [(.d,t),(m,.int k)]=.ok ((.d,.int r),[(.d,f)]):=by
 obtain⟨a,x,y,z,rfl,hx⟩:=o;have b:(k != 0)=true:=bne_iff_ne.mpr (by lia);have c:decide (k.natAbs<18446744073709551616)=true:=NS (by lia);rw[show n+2=(n+1)+1 from rfl,eN];by_cases p:0<z
 .exact⟨_,_,(fm hk).1,(fm hk).2,⟨a,x,_,_,rfl,by lia⟩,tX (C<|n+1) a x y z m k p b c⟩
 .obtain ⟨r,s,e,u,g,h,v,i⟩:=zZ (C (n+1)) a x y z m k (by lia) hk b c (by lia) fun e=>by rw [eN,tX (C n) a (x+1) e 40 m k (by decide) b c]; rfl
  exact⟨r,_,g,h,⟨a,s,e,u,rfl,by lia⟩,i⟩
def kb:O->O
|0=>1
|l+1=>2 * kb l+1
theorem HM {c:Type}(a b:c)(r:j)(d:0<=r)(e:r<2):atI [a,b] r=Y a\/atI [a,b] r=Y b:=by
 have:r=0\/r=1:=by lia
 rcases this with rfl|rfl
 .exact .inl rfl
 .exact .inr rfl
theorem d02:decide ((0:j)<2)=true:=rfl
theorem kind (n:O):∀(l:O) {N:O} {t:T},Tp N t->N+kb l<1000000000000000000->1<=l ->
 ∃(A:Md) (k:Kd) (w:T),k.deep<l/\Tp (N+kb l) w/\C (n+l+2) 429 [(.d,t),(.d,.int l)]=.ok ((A,k.th),[(.d,w)])
|0,_,_,_,_,h=>by lia
| l+1,N,t,y,G,_=>by
 have H:kb (l+1)=2 * kb l+1:=rfl;rw[show n+(l+1)+2=(n+l+2)+1 by lia,jB];obtain⟨r,M,r0,r1,a,e1⟩:=xK (n:=n+l) .d 6 y (by lia) (by decide) (by decide);rw[x_run _ _ _ rfl];simp_all only[bO,e1]
 have c:∃k:Kd,k.deep=0/\(atI [T.tup [T.str (q "num")],T.tup [T.str (q "truth")]] (r % 2))=Y k.th:=by
  rcases HM (T.tup [T.str<|q "num"]) (T.tup [T.str<|q "truth"]) (r % 2) (by lia) (by lia) with h|h
  .exact⟨.num,rfl,h⟩
  .exact⟨.truth,rfl,h⟩
 obtain⟨u,x,e⟩:=c;cases f:(((l+1:O):j)==1) with
 |true=>simp_all only[f,d02,e];exact⟨_,u,_,by lia,tm a<|by lia,rfl⟩
 | false =>
  have m:1<=l:=by have:=beq_eq_false_iff_ne.mp f;lia
  cases i:decide (r<2) with
  |true=>simp_all only[f,i,d02,e];exact⟨_,u,_,by lia,tm a<|by lia,rfl⟩
  | false =>
   have p:((l+1:O):j)-1=(l:j):=by lia
   cases s:decide (r<4) with
   |true=>obtain⟨z,g,D,d1,b,e2⟩:=kind n l a (by lia) m;obtain⟨I,v,P,F,o,e3⟩:=kind n l b (by lia) m;simp_all only[f,i,s,p,e2,e3];exact⟨_,.pair g v,_,by show max g.deep v.deep+1<l+1;lia,tm o<|by lia,rfl⟩
   |false=>obtain⟨z,g,D,d1,b,e2⟩:=kind n l a (by lia) m;simp_all only[f,i,s,p,e2];exact⟨_,.row g,_,by show g.deep+1<l+1;lia,tm b<|by lia,rfl⟩
def PT:O->T->Prop
|_,.bl _=>OA
|_,.int _=>OA
|_,.str _=>OA
|_,.non=>OA
|d+1,.tup a=>∀u∈a,PT d u
|d+1,.lst a=>∀u∈a,PT d u
|_,_=>N2
theorem eD (m n:Md):∀a:U T,cV m n a a=a.map λt=>[(m,t),(n,t)]
|[]=>rfl
|t::a=>by show _::cV m n a a=_::_;rw[eD m n a]
theorem AG (m n:Md)(a b:U T):turns .zip [(m,.lst a),(n,.lst b)]=Y (cV .s .s a b):=rfl
theorem yT (m n:Md)(a b:U T):turns .zip [(m,.tup a),(n,.tup b)]=Y (cV .s .s a b):=rfl
theorem dA:∀a:U T,a0 (a.map λ_=>T.bl HV)=Y (a.map λ_=>HV)
|[]=>rfl
|_::a=>by show(a0<|a.map λ_=>T.bl HV).map _=_;rw[dA a];rfl
theorem fI:∀a:U T,(a.map λ_=>HV).all id=HV
|[]=>rfl
|_::a=>by show(HV&&(a.map λ_=>HV).all id)=HV;rw[fI a];rfl
theorem dn {b:Type}(f:b->Md)(g:b->T):∀a:U b,trees (a.map λx=>(f x,g x))=a.map g
|[]=>rfl
|x::a=>by show g x::trees _=g x::a.map g;rw[dn f g a]
theorem Dx (a:U T):isOne "list" (.lst a)=true:=rfl
theorem Ds (a:U T):isOne "tuple" (.lst a)=false:=rfl
theorem DK (a:U T):isOne "list" (.tup a)=false:=rfl
theorem E5 (a:U T):isOne "tuple" (.tup a)=true:=rfl
theorem x4 (i:j):isOne "list" (.int i)=false:=rfl
theorem xX (i:j):isOne "tuple" (.int i)=false:=rfl
theorem xY (b:NN):isOne "list" (.bl b)=false:=rfl
theorem yc (b:NN):isOne "tuple" (.bl b)=false:=rfl
theorem yH (b:NN):isOne "bool" (.bl b)=true:=rfl
theorem xW (i:j):isOne "bool" (.int i)=false:=rfl
theorem yI (x:Str):isOne "list" (.str x)=false:=rfl
theorem yD (x:Str):isOne "tuple" (.str x)=false:=rfl
theorem yK (x:Str):isOne "bool" (.str x)=false:=rfl
theorem x5:isOne "list" .non=false:=rfl
theorem yy:isOne "tuple" .non=false:=rfl
theorem yA:isOne "bool" .non=false:=rfl
theorem FW (h:NN)(m n:Md):oSem .eq h [(m,.non),(n,.non)]=Y (.d,.bl HV):=rfl
theorem FK (n:O):∀(d:O) (t:T) (m m':Md),PT d t->C (n+d+1) 24 [(m,t),(m',t)]=.ok ((.d,.bl HV),[]):=by
 intro d;induction d with
 |zero=>
  intro t m m' h;rw[dR,x_run _ _ _ rfl];cases t with
  |bl b=>simp_all only[az,IS,JE,xY,yc,yH,Js,JD,NT]
  |int i=>simp_all only[az,IS,JE,x4,xX,xW,Js,JD,NT]
  |str x=>simp_all only[az,IS,JE,yI,yD,yK,Js,JD,NT]
  |non=>simp_all only[az,IS,JE,x5,yy,yA,Js,JD,NT,FW]
  |_=>exact h.elim
 | succ d l =>
  intro t m m' h;rw[show n+(d+1)+1=(n+d+1)+1 by lia,dR,x_run _ _ _ rfl];have g:∀a:U T,(∀u∈a,PT d u)->∀c e:B W,aQ [2,3] (fw (evE (C (n+d+1)) (.call 24 [.var 2,.var 3]))) (a.map λt=>[((.s,t):W),(.s,t)]) [c,e,J,J] []=.ok ([]++a.map λ_=>(.d,.bl HV),[c,e,J,J]):=by intro a f c e;refine cS (λ_=>((.d,.bl HV):W)) a [] λu k=>⟨_,[c,e,Y (.s,u),Y (.s,u)],rfl,?_,rfl⟩;simp_all only[l u .s .s<|f u k]
  cases t with
  |bl b=>simp_all only[az,IS,JE,xY,yc,yH,Js,JD,NT]
  |int i=>simp_all only[az,IS,JE,x4,xX,xW,Js,JD,NT]
  |str x=>simp_all only[az,IS,JE,yI,yD,yK,Js,JD,NT]
  |non=>simp_all only[az,IS,JE,x5,yy,yA,Js,JD,NT,FW]
  |lst a=>simp_all only[az,IS,JE,Dx,Ds,Js,JD,NT,AG,eD,g a h,dn λ_=>Md.d,dA,fI]
  |tup a=>simp_all only[az,IS,JE,DK,E5,Js,JD,NT,yT,eD,g a h,dn λ_=>Md.d,dA,fI]
  |_=>exact h.elim
abbrev nmT (x:Str):T:=.tup [.str<|q "name",.str x]
theorem Dv {a:Kd}(h:a.deep<=4):∀k∈[a],k.deep<=4:=λk hk=>by rw[IE.mp hk];exact h
theorem jM {a b:Kd}(h:a.deep<=4)(c:b.deep<=4):∀k∈[a,b],k.deep<=4:=λk hk=>by
 rcases Ip.mp hk with rfl|hk
 .exact h
 .exact Dv c k hk
theorem iG {d:O}{e:EV}{k:Kd}{t:T}(hp:∀l,C (l+2) 176 [(.s,t)]=.ok ((.s,.tup []),[]))(ho:∀l,11<=l->∃c,C l 372 [(.s,t),(.s,dE e),(.s,.lst [])]=.ok ((c,k.th),[]))(p:U O):AK d e k t p [nt p k]:=λa o f i m n h=>by obtain⟨l,rfl⟩:∃l,a=l+1:=⟨a-1,by lia⟩;obtain⟨c,ho⟩:=ho l (by lia);obtain⟨b,g⟩:∃b,l=b+2:=⟨l-2,by lia⟩;exact As (ins:=[]) (rs:=[]) i m n (by rw[g];exact hp b) rfl ho (by rw[Kp] at h;lia)
theorem fj {d:O}{e:EV}{x:Str}{k:Kd}(hx:e.lookup x=Y k)(p:U O):AK d e k (nmT x) p [nt p k]:=by
 refine iG (λl=>i7 l _ _ (by kernel_rfl) .s) (λl f=>⟨.s,?_⟩) p;obtain⟨l,rfl⟩:∃b,l=b+1:=⟨l-1,by lia⟩;have a:keyT (.str x)=Y (.inr x):=rfl;have c:lookD (.inr x) (dK e) (dV e)=Y k.th:=by rw[eO,hx];rfl
 rw[bD,x_run _ _ _ rfl];simp_all only[aL,qeq,a,c,Option.getD_some]
theorem yq {d:O}{e:EV}{s:NU}{r:U T}{k:Kd}(hp:∀l,C (l+2) 176 [(.s,.tup (.str (q s)::r))]=.ok ((.s,.tup []),[]))(c:(q s==q "name")=HU)(a:keys_LEAVES.contains (q s)=HV)(b:tab_LEAVES.lookup (q s)=Y k.th)(p:U O):AK d e k (.tup (.str (q s)::r)) p [nt p k]:=by refine iG hp (λl g=>⟨.s,?_⟩) p;obtain⟨l,rfl⟩:∃f,l=f+1:=⟨l-1,by lia⟩;rw[bD,x_run _ _ _ rfl];simp_all only[aL,c,a,b,JU]
theorem uR {d:O}{e:EV}{a:Kd}(h:a.deep<=3)(p:U O):AK d e (.row a) (.tup [.str<|q "none",a.th]) p [nt p<|.row a]:=by
 have c:(Kd.row a).deep<=4:=by show a.deep+1<=4;lia
 refine iG (λl=>i7 l _ _ (by kernel_rfl) .s) (λl k=>⟨.o .s,?_⟩) p;obtain⟨l,rfl⟩:∃i,l=i+10:=⟨l-10,by lia⟩;have g:keys_LEAVES.contains (q "none")=false:=by decide +kernel
 have f:chk "not" "truth" "row K" ["truth"] ["row","K"]=true:=by decide +kernel
 have R:=iL f;have kb:=λm b=>dg l (q "row K") (["row","K"].map q) [(q "K",a)] (.row a) R.c7 R.c8 R.cg (by simp[sbs,kw,qeq,Ib]) c (fd1<|by lia) (by decide) m b;rw[show l+10=(l+9)+1 from rfl,bD,x_run _ _ _ rfl];have kb:∀m b,C (l+9) 374 [(m,.str (q "row K")),(b,.dct [.inr (q "K")] [a.th])]=.ok ((.o .s,(Kd.row a).th),[]):=kb;simp_all only[aL,qeq,g,JU,kb]
theorem Ad {d:O}{e:EV}{s:NU}{a k:Kd}{x:Str}(h:Rl s [a] k)(o:nob s=HV)(hk:k.deep<=4)(n:a.deep<=4)(hx:e.lookup x=Y a):AK (d+1) e k (.tup [.str<|q s,nmT x]) [] [nt [0] a,nt [] k]:=λb t c r g m f=>by have S:=lT h o;obtain⟨l,rfl⟩:∃l,b=l+3:=⟨b-3,by lia⟩;have f:c.length+2<LIM:=f;rw[show c++[nt [0] a,nt [] k]=c++[nt [0] a]++[nt [] k] by rw[Ju];rfl];exact As (p:=[]) (ins:=[a]) (rs:=[nmT x]) r g m (da l _ S.a .s) ((jK rfl (tA (d:=0) (p:=[]) (i:=0) (ins:=[]) (iI S _ _) rfl (by decide) (fj hx [0]) (by lia) (by show _+1<_;lia) (by decide) (by decide) g m J)).trans rfl) (p6 h (Dv n) hk (by lia) _ e)<|by rw[IA];show _+1<_;lia
theorem Am {d:O}{e:EV}{s:NU}{a b k:Kd}{x y:Str}(h:Rl s [a,b] k)(t:nob s=HV)(hk:k.deep<=4)(o:a.deep<=4)(r:b.deep<=4)(hx:e.lookup x=Y a)(u:e.lookup y=Y b):AK (d+1) e k (.tup [.str<|q s,nmT x,nmT y]) [] [nt [0] a,nt [1] b,nt [] k]:=λc w f v m n g=>by have S:=lT h t;obtain⟨l,rfl⟩:∃l,c=l+3:=⟨c-3,by lia⟩;have g:f.length+3<LIM:=g;rw[show f++[nt [0] a,nt [1] b,nt [] k]=f++[nt [0] a]++[nt [1] b]++[nt [] k] by rw[Ju,Ju];rfl];exact As (p:=[]) (ins:=[a,b]) (rs:=[nmT x,nmT y]) v m n (da l _ S.a .s) ((jK rfl (tA (d:=0) (p:=[]) (i:=0) (ins:=[]) (iI S _ _) rfl (by decide) (fj hx [0]) (by lia) (by show _+1<_;lia) (by decide) (by decide) m n J)).trans<|(jK rfl (tA (d:=0) (p:=[]) (i:=1) (ins:=[a.th]) (iI S _ _) rfl (by decide) (fj u [1]) (by lia) (by rw[IA];show _+1+1<_;lia) (by show 1<=10;decide) (by decide) .s .s _)).trans rfl) (p6 h (jM o r) hk (by lia) _ e)<|by rw[IA,IA];show _+1+1<_;lia
theorem ei:∀k:Kd,noL k.th=HV
|.num=>rfl
|.truth=>rfl
|.pair a b=>by show(HV&&(noL a.th&&(noL b.th&&HV)))=HV;rw[ei a,ei b];rfl
|.row a=>by show(HV&&(noL a.th&&HV))=HV;rw[ei a];rfl
theorem uo:∀p:U O,noLs (pT p)=HV
|[]=>rfl
|_::p=>by show(HV&&noLs (pT p))=HV;rw[uo p];rfl
theorem nlT (a:U T):noL (.tup a)=noLs a:=rfl
theorem nlC (t:T)(a:U T):noLs (t::a)=(noL t&&noLs a):=rfl
theorem nl0:noLs []=true:=rfl
theorem nlS (x:Str):noL (.str x)=true:=rfl
theorem nlI (i:j):noL (.int i)=true:=rfl
abbrev aR (p:U O)(x:Str):T:=.tup [.str<|q "call",.tup<|pT p,.str x]
abbrev rdo (s k:T)(ps:U T):T:=.tup [.str<|q "do",.tup [],s,k,.lst ps]
theorem gY (n:O)(p:U O)(x:Str)(D:T)(m a b:Md):C (n+1) 422 [(m,nmT x),(a,.tup<|pT p),(b,D)]=.ok ((.d,.lst [aR p x]),[]):=by rw[cF,x_run _ _ _ rfl];simp_all only[bc,qeq,ai,nlT,uo,nlS]
structure S7 (s:NU):Prop where
 c1:(q s==q "name")=HU
 c2:(q s==q "let")=HU
 c3:(q s==q "if")=HU
 c4:(q s==q "each")=HU
 c5:(q s==q "times")=HU
 c8:([(q "if",(1:j)),(q "each",1),(q "times",2)].lookup (q s))=J
def ck7 (s:NU):NN:=!(q s==q "name")&&!(q s==q "let")&&!(q s==q "if")&&!(q s==q "each")&&!(q s==q "times")&&([(q "if",(1:j)),(q "each",1),(q "times",2)].lookup<|q s).isNone
theorem mS {s:NU}(h:ck7 s=HV):S7 s:=by unfold ck7 at h;simp only[Iq,Nx,Nh] at h;obtain⟨⟨⟨⟨⟨a,b⟩,c⟩,d⟩,e⟩,f⟩:=h;exact⟨a,b,c,d,e,f⟩
theorem yM {s:NU}{b:U Kd}{k:Kd}(h:Rl s b k)(a:nob s=HV)(c:b.length<=2):S7 s/\(q s==q "num")=HU/\(q s==q "none")=false:=by
 cases h with
 |lets=>cases a
 |each=>cases a
 |times=>cases a
 |ifs=>exact NP c<|by show¬3<=2;decide
 |_=>exact⟨mS<|by decide +kernel,by decide +kernel,by decide +kernel⟩
theorem eI (n:O){s:NU}{r:U T}{i:O}{x:Str}{D:T}(S:Sg s)(h:atI r (i:j)=Y (nmT x)):C (n+3) 423 [(.s,.tup (.str (q s)::r)),(.d,.int (i:j)),(.d,.tup []),(.s,D)]=.ok ((.d,.lst [aR [i] x]),[]):=by have e1:=λm=>da n r S.a m;have e2:=λm b c=>gY (n+1) [i] x D m b c;have e2:∀m b c,C (n+2) 422 [(m,nmT x),(b,.tup [.int (i:j)]),(c,D)]=.ok ((.d,.lst [aR [i] x]),[]):=e2;have e:fits (([]:U T).length+[T.int (i:j)].length)=true:=rfl;rw[show n+3=(n+2)+1 from rfl,jh,x_run _ _ _ rfl];simp_all only[bC,ai,e1,h,e,e2]
theorem kW (n:O){s:NU}{r:U T}{k:Kd}{ks:U<|U j}{vs:U T}(S:Sg s)(f:S7 s)(u:(q s==q "num")=HU)(v:(q s==q "none")=HU)(h:lookT [] ks vs=Y k.th)(D:r.length<=2):C (n+3) 424 [(.s,.tup (.str (q s)::r)),(.d,.tup []),(.s,.dtt ks vs)]=.ok ((.d,rdo (.str<|q s) k.th<|(IB r.length).map λi=>.tup<|pT [i]),[]):=by
 have e1:=λm=>da n r S.a m;have w:intsOf []=Y []:=rfl;have o:∀i:O,fits (([]:U T).length+[T.int (i:j)].length)=true:=λ_=>rfl;have l:∀b c o3 e:B W,aQ [5] (fw (evE (C (n+2)) (.op .nl HU [.op .catT HU [.op .nl HU [.var 1],.tup [.var 5]]]))) ((IB r.length).map λ(k:O)=>[((.d,.int (k:j)):W)]) [b,Y (.s,.tup []),c,o3,e,J] []=.ok ([]++(IB r.length).map λi=>((.d,.tup (pT [i])):W),[b,Y (.s,.tup []),c,o3,e,J]):=λb c o3 e=>cS (λi:O=>((.d,.tup<|pT [i]):W)) _ [] λi _=>⟨_,[b,Y (.s,.tup []),c,o3,e,Y (.d,.int (i:j))],rfl,by simp_all only[ai,nlT,nlC,nl0,nlI,o],rfl⟩;have y:(decide ((r.length:j).natAbs<4611686018427387904)&&fits r.length)=true:=by rw[Iq];exact⟨NS<|by lia,NS<|by show _<=16777215;lia⟩
 have z:(r.length:j).toNat=r.length:=rfl;have g:(flatT (.str (q s))&&[T.str (q "num"),.str (q "none")].all flatT)=true:=rfl;have p:([T.str (q "num"),.str (q "none")].any λt=>eqT t (.str (q s)))=false:=by show(q "num"==q s || (q "none"==q s || false))=HU;rw[Lj,u,Lj (a:=q "none"),v];rfl
 have x:((IB r.length).map λi=>((.d,.tup [.int (i:O)]):W)).all okD=true:=wY _ _;have A:trees ((IB r.length).map λi=>((.d,.tup [.int (i:O)]):W))=(IB r.length).map λi=>.tup [.int (i:O)]:=nr .d _ _;rw[show n+3=(n+2)+1 from rfl,gB,x_run _ _ _ rfl];simp_all only[bK,ai,nlT,nl0,w,h,f.c3,f.c4,f.c5,g,p,nlS,ei,e1,y,z,l,x,A,aA,a7]
theorem jV (n:O){s:NU}{r:U T}{k:Kd}{c:U<|U j}{e:U T}(e1:∀m,C (n+2) 176 [(m,.tup (.str (q s)::r))]=.ok ((.s,.tup []),[]))(a:S7 s)(f:([T.str<|q "num",.str<|q "none"].any λt=>eqT t<|.str<|q s)=HV)(i:noLs r=HV)(h:lookT [] c e=Y k.th):C (n+3) 424 [(.s,.tup (.str (q s)::r)),(.d,.tup []),(.s,.dtt c e)]=.ok ((.d,rdo (.tup (.str (q s)::r)) k.th []),[]):=by have l:intsOf []=Y []:=rfl;have g:(flatT (.str (q s))&&[T.str (q "num"),.str (q "none")].all flatT)=true:=rfl;have p:(decide ((([]:U T).length:j).natAbs<4611686018427387904)&&fits ([]:U T).length)=true:=rfl;have u:((([]:U T).length:O):j).toNat=([]:U T).length:=rfl;have b:IB ([]:U T).length=[]:=rfl;have o:([]:U W).all okD=true:=rfl;rw[show n+3=(n+2)+1 from rfl,gB,x_run _ _ _ rfl];simp_all only[bK,ai,nlT,nl0,nlC,l,h,a.c3,a.c4,a.c5,g,f,nlS,i,ei,e1,p,u,b,aQ,o,aA,a7]
theorem og (n:O){s:NU}{r:U T}{D X:T}(e1:∀m,C (n+3) 176 [(m,.tup (.str (q s)::r))]=.ok ((.s,.tup []),[]))(a:S7 s)(ho:C (n+3) 424 [(.s,.tup (.str (q s)::r)),(.d,.tup []),(.s,D)]=.ok ((.d,X),[])):C (n+4) 422 [(.s,.tup (.str (q s)::r)),(.d,.tup []),(.s,D)]=.ok ((.d,.lst [X]),[]):=by
 have e:(decide ((([]:U T).length:j).natAbs<4611686018427387904)&&fits ([]:U T).length)=true:=rfl;have f:((([]:U T).length:O):j).toNat=([]:U T).length:=rfl;have b:IB ([]:U T).length=[]:=rfl;have c:([]:U T).length<LIM:=by decide
 rw[show n+4=(n+3)+1 from rfl,cF,x_run _ _ _ rfl];simp_all only[bc,a.c1,a.c2,a.c8,K1,ai,e1,e,f,b,dh,nlT,nl0,ho,c]
theorem tZ (n:O){s:NU}{a k:Kd}{x:Str}(h:Rl s [a] k)(e:nob s=HV):C (n+4) 422 [(.s,.tup [.str<|q s,nmT x]),(.d,.tup []),(.s,.dtt [[0],[]] [a.th,k.th])]=.ok ((.d,.lst [aR [0] x,rdo (.str<|q s) k.th [.tup [.int 0]]]),[]):=by
 obtain⟨b,g,l⟩:=yM h e (by show 1<=2;decide);have S:=lT h e;have e1:=λm=>da (n+1) [nmT x] S.a m;have ho:C (n+3) 424 [(.s,.tup [.str (q s),nmT x]),(.d,.tup []),(.s,.dtt [[0],[]] [a.th,k.th])]=.ok ((.d,rdo (.str (q s)) k.th [.tup [.int 0]]),[]):=kW n (r:=[nmT x]) (k:=k) (ks:=[[0],[]]) (vs:=[a.th,k.th]) S b g l rfl (by show 1<=2;decide);have hp:C (n+3) 423 [(.s,.tup [.str (q s),nmT x]),(.d,.int ((0:O):j)),(.d,.tup []),(.s,.dtt [[0],[]] [a.th,k.th])]=.ok ((.d,.lst [aR [0] x]),[]):=eI n (i:=0) S rfl;have o:(decide ((([nmT x]:U T).length:j).natAbs<4611686018427387904)&&fits ([nmT x]:U T).length)=true:=rfl;have p:((([nmT x]:U T).length:O):j).toNat=([nmT x]:U T).length:=rfl;have c:IB ([nmT x]:U T).length=[0]:=rfl;have f:([]:U T).length+([aR [0] x]:U T).length<=LIM:=by show 1<=16777215;decide
 have d1:([aR [0] x]:U T).length<LIM:=by show 1<16777215;decide
 rw[show n+4=(n+3)+1 from rfl,cF,x_run _ _ _ rfl];simp_all only[bc,b.c1,b.c2,b.c8,K1,ai,e1,o,p,c,dh,bz,nlT,nl0,hp,ho,f,d1]
theorem p9 (n:O){s:NU}{a b k:Kd}{x y:Str}(h:Rl s [a,b] k)(f:nob s=HV):C (n+4) 422 [(.s,.tup [.str<|q s,nmT x,nmT y]),(.d,.tup []),(.s,.dtt [[0],[1],[]] [a.th,b.th,k.th])]=.ok ((.d,.lst [aR [0] x,aR [1] y,rdo (.str<|q s) k.th [.tup [.int 0],.tup [.int 1]]]),[]):=by
 obtain⟨c,p,t⟩:=yM h f (by show 2<=2;decide);have S:=lT h f;have e1:=λm=>da (n+1) [nmT x,nmT y] S.a m;have ho:C (n+3) 424 [(.s,.tup [.str (q s),nmT x,nmT y]),(.d,.tup []),(.s,.dtt [[0],[1],[]] [a.th,b.th,k.th])]=.ok ((.d,rdo (.str (q s)) k.th [.tup [.int 0],.tup [.int 1]]),[]):=kW n (r:=[nmT x,nmT y]) (k:=k) (ks:=[[0],[1],[]]) (vs:=[a.th,b.th,k.th]) S c p t rfl (by show 2<=2;decide);have hp:C (n+3) 423 [(.s,.tup [.str (q s),nmT x,nmT y]),(.d,.int ((0:O):j)),(.d,.tup []),(.s,.dtt [[0],[1],[]] [a.th,b.th,k.th])]=.ok ((.d,.lst [aR [0] x]),[]):=eI n (i:=0) S rfl;have o:C (n+3) 423 [(.s,.tup [.str (q s),nmT x,nmT y]),(.d,.int ((1:O):j)),(.d,.tup []),(.s,.dtt [[0],[1],[]] [a.th,b.th,k.th])]=.ok ((.d,.lst [aR [1] y]),[]):=eI n (i:=1) S rfl;have u:(decide ((([nmT x,nmT y]:U T).length:j).natAbs<4611686018427387904)&&fits ([nmT x,nmT y]:U T).length)=true:=rfl;have v:((([nmT x,nmT y]:U T).length:O):j).toNat=([nmT x,nmT y]:U T).length:=rfl;have e:IB ([nmT x,nmT y]:U T).length=[0,1]:=rfl;have g:([]:U T).length+([aR [0] x]:U T).length<=LIM:=by show 1<=16777215;decide
 have l:([aR [0] x]:U T).length+([aR [1] y]:U T).length<=LIM:=by show 2<=16777215;decide
 have d1:([aR [0] x,aR [1] y]:U T).length<LIM:=by show 2<16777215;decide
 rw[show n+4=(n+3)+1 from rfl,cF,x_run _ _ _ rfl];simp_all only[bc,c.c1,c.c2,c.c8,K1,ai,e1,u,v,e,dh,bz,nlT,nl0,hp,o,ho,g,l,d1]
theorem eX {L d:O}{e:EV}{k:Kd}{t:T}{a:U T}{keys:U<|U j}{vals:U T}{R:W}(c:d+12<=L)(i:(e.map IV).Nodup)(f:e.length<=100)(b:AK d e k t [] a)(hk:a.length<LIM)(hd:dtPs a=Y (keys,vals))(g:(decide keys.Nodup&&decide (a.length<=LIM))=HV)(h:C (L+1) 422 [(.s,t),(.d,.tup []),(.s,.dtt keys vals)]=.ok (R,[]))(m:Md):C (L+2) 421 [(m,.tup [.tup<|eT e,t])]=.ok (R,[]):=by have hk:=λm=>eP c i f b hk m;rw[show L+2=(L+1)+1 from rfl,xN,x_run _ _ _ rfl];simp_all only[fO,ai,hk,hd,g,h]
theorem cZ:∀{d a:O} {t:T},PT d t->d<=a->PT a t
|0,0,_,h,_=>h
|0,a+1,t,h,_=>by cases t<;>first|trivial|exact h.elim
|d+1,0,_,_,e=>NP e<|by lia
|d+1,a+1,t,h,e=>by
 cases t with
 |tup c=>exactλu b=>cZ (h u b)<|by lia
 |lst c=>exactλu b=>cZ (h u b)<|by lia
 |_=>first|trivial|exact h.elim
theorem pn {P:T->Prop}:∀u∈([]:U T),P u:=λu h=>nomatch h
theorem pc {P:T->Prop}{a:T}{b:U T}(h:P a)(c:∀u∈b,P u):∀u∈a::b,P u:=Nv.mpr ⟨h,c⟩
theorem pS (d:O)(x:Str):PT d (.str x):=by cases d<;>trivial
theorem pI (d:O)(i:j):PT d (.int i):=by cases d<;>trivial
theorem ptT {d:O}{a:U T}(h:∀u∈a,PT d u):PT (d+1) (.tup a):=h
theorem ptL {d:O}{a:U T}(h:∀u∈a,PT d u):PT (d+1) (.lst a):=h
theorem mm:∀k:Kd,PT (k.deep+1) k.th
|.num=>ptT<|pc (pS _ _) pn
|.truth=>ptT<|pc (pS _ _) pn
|.pair a b=>ptT<|pc (pS _ _)<|pc (cZ (mm a)<|by show a.deep+1<=max a.deep b.deep+1;lia)<|pc (cZ (mm b)<|by show b.deep+1<=max a.deep b.deep+1;lia) pn
|.row a=>ptT<|pc (pS _ _)<|pc (mm a) pn
theorem pt5 {k:Kd}(h:k.deep<=4):PT 5 k.th:=cZ (mm k)<|by lia
theorem lA (d:O)(i:O)(x:Str):PT (d+2) (aR [i] x):=ptT<|pc (pS _ _)<|pc (ptT<|pc (pI _ _) pn)<|pc (pS _ _) pn
theorem CZ {s:T}{k:Kd}{ps:U T}(a:PT 6 s)(hk:k.deep<=4)(hp:∀u∈ps,PT 5 u):PT 7 (rdo s k.th ps):=ptT<|pc (pS _ _)<|pc (ptT pn)<|pc a<|pc (cZ (pt5 hk)<|by decide)<|pc (ptL hp) pn
theorem Ac (i:j):PT 5 (.tup [.int i]):=ptT<|pc (pI _ _) pn
theorem lK {a:O}{t:T}(h:PT 8 t)(b:9<=a)(m m':Md):C a 24 [(m,t),(m',t)]=.ok ((.d,.bl HV),[]):=by have:=FK (a-9) 8 t m m' h;rwa[show a-9+8+1=a by lia] at this
theorem i3 {a:O}{t s:T}{k:Kd}(g:∀m,C a 421 [(m,.tup [.tup [],t])]=.ok ((.d,.lst [rdo s k.th []]),[]))(h:PT 6 s)(hk:k.deep<=4)(f:9<=a)(b:look (.s,s)=Y (.s,s))(i l n:Md):C (a+1) 426 [(i,t),(l,s),(n,k.th)]=.ok ((.d,.bl HV),[]):=by have e:∀m c,C a 24 [(m,.lst [rdo s k.th []]),(c,.lst [rdo s k.th []])]=.ok ((.d,.bl HV),[]):=λm c=>lK (ptL<|pc (CZ h hk pn) pn) f m c;rw[jO,x_run _ _ _ rfl];simp_all only[bR,b,aA,a7,g,e,ai]
theorem nd0:(([]:EV).map IV).Nodup:=L8
theorem d1 {k:Kd}:dtPs [nt [] k]=Y ([[]],[k.th]):=rfl
theorem eh {L:O}{s:NU}{r:U T}{k:Kd}{a:T}(f:20<=L)(c:AK 0 [] k (.tup (.str (q s)::r)) [] [nt [] k])(hp:∀l m,C (l+2) 176 [(m,.tup (.str (q s)::r))]=.ok ((.s,.tup []),[]))(b:S7 s)(ho:∀n,C (n+3) 424 [(.s,.tup (.str (q s)::r)),(.d,.tup []),(.s,.dtt [[]] [k.th])]=.ok ((.d,rdo a k.th []),[]))(m:Md):C L 421 [(m,.tup [.tup [],.tup (.str (q s)::r)])]=.ok ((.d,.lst [rdo a k.th []]),[]):=by obtain⟨n,rfl⟩:∃n,L=n+5+2:=⟨L-7,by lia⟩;exact eX (L:=n+5) (e:=[]) (by lia) nd0 (by decide) c (by show 1<16777215;decide) d1 rfl (og (n+2) (λm=>hp (n+3) m) b<|ho<|n+2) m
theorem qi {L:O}(g:21<=L)(i:j)(c e f:Md):C L 426 [(c,.tup [.str<|q "num",.int i]),(e,.tup [.str<|q "num",.int i]),(f,.tup [.str<|q "num"])]=.ok ((.d,.bl HV),[]):=by
 obtain⟨L,rfl⟩:∃l,L=l+1:=⟨L-1,by lia⟩;have b:keys_LEAVES.contains (q "num")=HV/\tab_LEAVES.lookup (q "num")=Y (.tup [.str (q "num")]):=by simp[keys_LEAVES,tab_LEAVES,qeq,Ib]
 have hp:∀l m,C (l+2) 176 [(m,.tup [.str (q "num"),.int i])]=.ok ((.s,.tup []),[]):=λl m=>i7 l _ _ (by kernel_rfl) m;have a:S7 "num":=mS (by decide +kernel);exact i3 (k:=.num) (λm=>eh (s:="num") (k:=.num) (by lia) (yq (k:=.num) (λl=>hp l .s) (by rw[qeq];rfl) b.1 b.2 []) hp a (λn=>jV n (λm=>hp n m) a (by decide +kernel) rfl rfl) m) (ptT<|pc (pS _ _)<|pc (pI _ _) pn) (by decide) (by lia) rfl c e f
theorem n8 {L:O}(g:21<=L){a:Kd}(h:a.deep<=3)(c e f:Md):C L 426 [(c,.tup [.str<|q "none",a.th]),(e,.tup [.str<|q "none",a.th]),(f,.tup [.str<|q "row",a.th])]=.ok ((.d,.bl HV),[]):=by obtain⟨L,rfl⟩:∃l,L=l+1:=⟨L-1,by lia⟩;have hp:∀l m,C (l+2) 176 [(m,.tup [.str (q "none"),a.th])]=.ok ((.s,.tup []),[]):=λl m=>i7 l _ _ (by kernel_rfl) m;have b:S7 "none":=mS (by decide +kernel);exact i3 (k:=.row a) (λm=>eh (s:="none") (k:=.row a) (by lia) (uR h []) hp b (λn=>jV n (λm=>hp n m) b (by decide +kernel) (by rw[nlC,ei];rfl) rfl) m) (ptT<|pc (pS _ _)<|pc (pt5<|by lia) pn) (by show a.deep+1<=4;lia) (by lia) rfl c e f
theorem mN {L:O}(o:21<=L){s:NU}(b:s="yes"\/s="no")(g h i:Md):C L 426 [(g,.tup [.str<|q s]),(h,.str<|q s),(i,.tup [.str<|q "truth"])]=.ok ((.d,.bl HV),[]):=by
 obtain⟨L,rfl⟩:∃l,L=l+1:=⟨L-1,by lia⟩;have f:keys_LEAVES.contains (q s)=HV/\tab_LEAVES.lookup (q s)=Y (.tup [.str (q "truth")]):=by rcases b with rfl|rfl<;>simp[keys_LEAVES,tab_LEAVES,qeq,Ib]
 have S:Sg s:=yB (by rcases b with rfl|rfl<;>decide +kernel);have e:S7 s:=mS (by rcases b with rfl|rfl<;>decide +kernel);have hp:∀l m,C (l+2) 176 [(m,.tup [.str (q s)])]=.ok ((.s,.tup []),[]):=λl m=>da l _ S.a m;have c:(q s==q "num")=HU/\(q s==q "none")=HU/\(q s==q "name")=false:=by rcases b with rfl|rfl<;>decide +kernel
 exact i3 (k:=.truth) (λm=>eh (s:=s) (k:=.truth) (by lia) (yq (k:=.truth) (λl=>hp l .s) c.2.2 f.1 f.2 []) hp e (λn=>kW n (r:=[]) S e c.1 c.2.1 rfl (by decide)) m) (pS _ _) (by decide) (by lia) rfl g h i
abbrev pool:U T:=[.str<|q "rowe",.str<|q "a",.str<|q "numb",.str<|q "onto",.str<|q "q",.str<|q "addy",.str<|q "lets",.str<|q "xy"]
theorem we {r:j}(d:0<=r)(e:r<7):∃x y:Str,x≠y/\atI pool r=Y (.str x)/\atI pool (r+1)=Y (.str y):=by
 have:r=0\/r=1\/r=2\/r=3\/r=4\/r=5\/r=6:=by lia
 have c:∀{a b:NU},(a==b)=HU->q a≠q b:=λh z=>by rw[<- qeq,Oc] at h;exact h z
 rcases this with rfl|rfl|rfl|rfl|rfl|rfl|rfl
 .exact⟨_,_,c (a:="rowe") (b:="a") rfl,rfl,rfl⟩
 .exact⟨_,_,c (a:="a") (b:="numb") rfl,rfl,rfl⟩
 .exact⟨_,_,c (a:="numb") (b:="onto") rfl,rfl,rfl⟩
 .exact⟨_,_,c (a:="onto") (b:="q") rfl,rfl,rfl⟩
 .exact⟨_,_,c (a:="q") (b:="addy") rfl,rfl,rfl⟩
 .exact⟨_,_,c (a:="addy") (b:="lets") rfl,rfl,rfl⟩
 .exact⟨_,_,c (a:="lets") (b:="xy") rfl,rfl,rfl⟩
theorem HH (b:O)(t:T)(s:NU)(a k:Kd)(r:j)(X c:Str)(e:U T)(h:atI e r=Y (.str X))(i:atI e (r+1)=Y (.str c))(l:Md):evSs (C b) (Bk f_law_signed 2 5) [Y (.d,t),Y (.s,.str<|q s),Y (.s,.lst [a.th]),Y (.s,k.th),Y (l,.lst e),Y (.d,.int r),J,J,J,J,J,J,J,J,J,J,J,J]=.nx [Y (.d,t),Y (.s,.str<|q s),Y (.s,.lst [a.th]),Y (.s,k.th),Y (.s,.lst e),Y (.d,.int r),Y (.s,.lst [.str X]),Y (.o .s,.tup [.tup [.str X,a.th]]),Y (.s,.tup [.str<|q s,nmT X]),Y (.o .s,.lst [aR [0] X]),Y (.o .s,.lst [.tup [.int 0]]),J,J,J,J,J,J,J]:=by have c1:cut [T.str X,.str c] J (Y (([a.th].length:O):j))=[.str X]:=rfl;have g:(fits ([T.str (q s)].length+[T.tup [T.str (q "name"),T.str X]].length)&&![T.str (q s)].isEmpty)=true:=rfl;have m:(decide ((([T.str X]:U T).length:j).natAbs<4611686018427387904)&&fits ([T.str X]:U T).length)=true:=rfl;have n:((([T.str X]:U T).length:O):j).toNat=([T.str X]:U T).length:=rfl;have f:IB ([T.str X]:U T).length=[0]:=rfl;simp_all only[Bk,Jb,IY,Jn,Jl,f_law_signed,ai,h,i,c1,aQ,K4,aA,a7,cV,cH,g,m,n,f];rfl
theorem Hj (c:O)(t:T)(s:NU)(a b k:Kd)(r:j)(X e:Str)(f:U T)(i:atI f r=Y (.str X))(l:atI f (r+1)=Y (.str e))(m:Md):evSs (C c) (Bk f_law_signed 2 5) [Y (.d,t),Y (.s,.str<|q s),Y (.s,.lst [a.th,b.th]),Y (.s,k.th),Y (m,.lst f),Y (.d,.int r),J,J,J,J,J,J,J,J,J,J,J,J]=.nx [Y (.d,t),Y (.s,.str<|q s),Y (.s,.lst [a.th,b.th]),Y (.s,k.th),Y (.s,.lst f),Y (.d,.int r),Y (.s,.lst [.str X,.str e]),Y (.o .s,.tup [.tup [.str X,a.th],.tup [.str e,b.th]]),Y (.s,.tup [.str<|q s,nmT X,nmT e]),Y (.o .s,.lst [aR [0] X,aR [1] e]),Y (.o .s,.lst [.tup [.int 0],.tup [.int 1]]),J,J,J,J,J,J,J]:=by have c1:cut [T.str X,.str e] J (Y (([a.th,b.th].length:O):j))=[.str X,.str e]:=rfl;have h:(fits ([T.str (q s)].length+[T.tup [T.str (q "name"),T.str X],T.tup [T.str (q "name"),T.str e]].length)&&![T.str (q s)].isEmpty)=true:=rfl;have n:(decide ((([T.str X,T.str e]:U T).length:j).natAbs<4611686018427387904)&&fits ([T.str X,T.str e]:U T).length)=true:=rfl;have p:((([T.str X,T.str e]:U T).length:O):j).toNat=([T.str X,T.str e]:U T).length:=rfl;have g:IB ([T.str X,T.str e]:U T).length=[0,1]:=rfl;simp_all only[Bk,Jb,IY,Jn,Jl,f_law_signed,ai,i,l,c1,aQ,K4,aA,a7,cV,cH,h,n,p,g];rfl
theorem yn {a:O}{t hd c:T}{s:NU}{k:Kd}{b sp R:U T}{v w x y:B W}(p:∀m,C a 421 [(m,.tup [hd,c])]=.ok ((.d,.lst R),[]))(i:b++[rdo (.str<|q s) k.th sp]=R)(g:9<=a)(h:PT 8<|.lst R)(e:b.length<LIM)(n:DL R.getLast?=HV)(r:(R.map λ_=>T.gone).length<LIM)(hk:look (.s,hd)=Y (.s,hd)/\look (.s,c)=Y (.s,c))(l:∀m,lf m hd=m/\lf m c=m):Fl.out [0] (evSs (C a) (f_law_signed.body.drop 7) [Y (.d,t),Y (.s,.str<|q s),v,Y (.s,k.th),w,x,y,Y (.o .s,hd),Y (.s,c),Y (.o .s,.lst b),Y (.o .s,.lst sp),J,J,J,J,J,J,J])=.ok ((.d,.bl HV),[(.d,t)]):=by have f:=λm u=>lK h g m u;simp_all only[Jb,IY,f_law_signed,ai,aA,a7,e,i,p,f,n,r,hk.1,hk.2,l]
theorem Ho (x:Str)(a:Kd):(([(x,a)]:EV).map IV).Nodup:=by simp
theorem BW {x y:Str}(h:x≠y)(a b:Kd):(([(x,a),(y,b)]:EV).map IV).Nodup:=by show[x,y].Nodup;exact Jt.mpr ⟨λz=>h<|IE.mp z,by simp⟩
theorem lk1 (x:Str)(a:Kd)(e:EV):((x,a)::e:EV).lookup x=Y a:=by rw[Je,NT]
theorem lk2 {x y:Str}(h:x≠y)(a b:Kd):([(x,a),(y,b)]:EV).lookup y=Y b:=by rw[Je,beq_eq_false_iff_ne.mpr<|IM h,Je,NT]
theorem Fb {L:O}(f:20<=L){s:NU}{a k:Kd}(h:Rl s [a] k)(b:nob s=HV)(hk:k.deep<=4)(c:a.deep<=4)(x:Str)(m:Md):C L 421 [(m,.tup [.tup [.tup [.str x,a.th]],.tup [.str<|q s,nmT x]])]=.ok ((.d,.lst [aR [0] x,rdo (.str<|q s) k.th [.tup [.int 0]]]),[]):=by obtain⟨n,rfl⟩:∃n,L=n+5+2:=⟨L-7,by lia⟩;exact eX (L:=n+5) (e:=[(x,a)]) (by lia) (Ho x a) (by show 1<=100;decide) (Ad (d:=0) h b hk c<|lk1 x a []) (by show 2<16777215;decide) (keys:=[[0],[]]) (vals:=[a.th,k.th]) rfl rfl (tZ (n+2) h b) m
theorem EM {L:O}(l:20<=L){s:NU}{a b k:Kd}(h:Rl s [a,b] k)(f:nob s=HV)(hk:k.deep<=4)(g:a.deep<=4)(i:b.deep<=4){x y:Str}(c:x≠y)(m:Md):C L 421 [(m,.tup [.tup [.tup [.str x,a.th],.tup [.str y,b.th]],.tup [.str<|q s,nmT x,nmT y]])]=.ok ((.d,.lst [aR [0] x,aR [1] y,rdo (.str<|q s) k.th [.tup [.int 0],.tup [.int 1]]]),[]):=by obtain⟨n,rfl⟩:∃n,L=n+5+2:=⟨L-7,by lia⟩;exact eX (L:=n+5) (e:=[(x,a),(y,b)]) (by lia) (BW c a b) (by show 2<=100;decide) (Am (d:=0) h f hk g i (lk1 x a _)<|lk2 c a b) (by show 3<16777215;decide) (keys:=[[0],[1],[]]) (vals:=[a.th,b.th,k.th]) rfl rfl (p9 (n+2) h f) m
theorem EH {L N:O}{t:T}(i:Tp N t)(h:N<1000000000000000000)(s:NU)(e:U T)(k:Kd):∃x y r a,x≠y/\atI pool r=Y (.str x)/\atI pool (r+1)=Y (.str y)/\Tp (N+1) a/\evSs (C<|L+2) (Bk f_law_signed 0 2) [Y (.d,t),Y (.s,.str<|q s),Y (.s,.lst e),Y (.s,k.th),J,J,J,J,J,J,J,J,J,J,J,J,J,J]=.nx [Y (.d,a),Y (.s,.str<|q s),Y (.s,.lst e),Y (.s,k.th),Y (.o .s,.lst pool),Y (.d,.int r),J,J,J,J,J,J,J,J,J,J,J,J]:=by obtain⟨r,a,r0,r1,b,e1⟩:=xK (n:=L) .d 7 i h (by decide) (by decide);obtain⟨x,y,c,f,g⟩:=we r0 r1;exact⟨x,y,r,a,c,f,g,b,by simp_all only[Bk,Jb,IY,Jn,Jl,f_law_signed,e1]⟩
theorem xG {L N:O}{t:T}(u:Tp N t)(i:N<1000000000000000000)(w:20<=L){s:NU}{a k:Kd}(h:Rl s [a] k)(p:nob s=HV)(hk:k.deep<=4)(n:a.deep<=4):∃c,Tp (N+1) c/\C (L+1) 430 [(.d,t),(.s,.str<|q s),(.s,.lst [a.th]),(.s,k.th)]=.ok ((.d,.bl HV),[(.d,c)]):=by obtain⟨l,rfl⟩:∃l,L=l+2:=⟨L-2,by lia⟩;obtain⟨x,y,r,c,v,f,g,e,H⟩:=EH (L:=l) u i s [a.th] k;refine⟨c,e,?_⟩;rw[cX,x_run _ _ _ rfl];have ho:=λm=>Fb (L:=l+2) (by lia) h p hk n x m;refine(N1 (Fl.out [0])<|(go1 (b:=Bk f_law_signed 2 5++f_law_signed.body.drop 7) H).trans<|go1<|HH (l+2) c s a k r x y pool f g<|.o .s).trans ?_;exact yn ho rfl (by lia) (ptL<|pc (cZ (lA 0 0 x)<|by decide)<|pc (CZ (pS _ _) hk<|pc (Ac 0) pn) pn) (by show 1<16777215;decide) rfl (by show 2<16777215;decide) ⟨rfl,rfl⟩ λm=>⟨rfl,rfl⟩
theorem uZ {L N:O}{t:T}(w:Tp N t)(n:N<1000000000000000000)(z:20<=L){s:NU}{a b k:Kd}(h:Rl s [a,b] k)(v:nob s=HV)(hk:k.deep<=4)(p:a.deep<=4)(u:b.deep<=4):∃c,Tp (N+1) c/\C (L+1) 430 [(.d,t),(.s,.str<|q s),(.s,.lst [a.th,b.th]),(.s,k.th)]=.ok ((.d,.bl HV),[(.d,c)]):=by obtain⟨l,rfl⟩:∃l,L=l+2:=⟨L-2,by lia⟩;obtain⟨x,y,r,c,f,g,i,e,H⟩:=EH (L:=l) w n s [a.th,b.th] k;refine⟨c,e,?_⟩;rw[cX,x_run _ _ _ rfl];have ho:=λm=>EM (L:=l+2) (by lia) h v hk p u f m;refine(N1 (Fl.out [0])<|(go1 (b:=Bk f_law_signed 2 5++f_law_signed.body.drop 7) H).trans<|go1<|Hj (l+2) c s a b k r x y pool g i<|.o .s).trans ?_;exact yn ho rfl (by lia) (ptL<|pc (cZ (lA 0 0 x)<|by decide)<|pc (cZ (lA 0 1 y)<|by decide)<|pc (CZ (pS _ _) hk<|pc (Ac 0)<|pc (Ac 1) pn) pn) (by show 2<16777215;decide) rfl (by show 3<16777215;decide) ⟨rfl,rfl⟩ λm=>⟨rfl,rfl⟩
abbrev Sh:=NU×U Kd×Kd
def shT (p:Sh):T:=.tup [.str<|q p.1,.lst<|p.2.1.map Kd.th,p.2.2.th]
def shs (a b:Kd):U Sh:=[("add",[.num,.num],.num),("sub",[.num,.num],.num),("mul",[.num,.num],.num),("div",[.num,.num],.num),("rest",[.num,.num],.num),("less",[.num,.num],.truth),("same",[.num,.num],.truth),("same",[.truth,.truth],.truth),("both",[.truth,.truth],.truth),("not",[.truth],.truth),("pair",[a,b],.pair a b),("first",[.pair a b],a),("second",[.pair a b],b),("one",[a],.row a),("pick",[.row a,.num],a),("join",[.row a,.row a],.row a),("keep",[.row a,.row .truth],.row a),("cut",[.row a,.row .num],.row<|.row a),("upto",[.num],.row .num),("long",[.row a],.num),("sum",[.row .num],.num),("most",[.row .num],.num),("sums",[.row .num],.row .num),("flat",[.row<|.row a],.row a)]
abbrev shN (a b:Kd)(n:O):U T:=((shs a b).take n).map shT
theorem Ha (c:O)(a b:Kd)(m m':Md):evSs (C c) (Bk f_law_shapes 0 7) [Y (m,a.th),Y (m',b.th),J,J,J,J,J,J,J]=.nx [Y (.s,a.th),Y (.s,b.th),Y (.s,Kd.num.th),Y (.s,Kd.truth.th),Y (.o .s,(Kd.row a).th),Y (.o .s,(Kd.row .num).th),Y (.o .s,(Kd.pair a b).th),Y (.o .s,.lst<|shN a b 7),J]:=by simp_all only[Bk,Jb,IY,Jn,Jl,f_law_shapes,ai,aA,a7,aQ,K4,Ii,J6,Ll,Jx,fits,LIM,Lz,Oa];rfl
theorem G7 (c:O)(a b:Kd)(e d f:Md):evSs (C c) (Bk f_law_shapes 7 4) [Y (.s,a.th),Y (.s,b.th),Y (.s,Kd.num.th),Y (.s,Kd.truth.th),Y (e,(Kd.row a).th),Y (d,(Kd.row .num).th),Y (f,(Kd.pair a b).th),Y (.o .s,.lst<|shN a b 7),J]=.nx [Y (.s,a.th),Y (.s,b.th),Y (.s,Kd.num.th),Y (.s,Kd.truth.th),Y (.s,(Kd.row a).th),Y (d,(Kd.row .num).th),Y (.s,(Kd.pair a b).th),Y (.o .s,.lst<|shN a b 14),J]:=by simp_all only[Bk,Jb,IY,Jn,Jl,f_law_shapes,ai,aA,a7,shN,shs,shT,Ii,J6,Ll,Jx,fits,LIM,Lz,Oa]
theorem Hl (c:O)(a b:Kd)(d:Md):evSs (C c) (Bk f_law_shapes 11 5) [Y (.s,a.th),Y (.s,b.th),Y (.s,Kd.num.th),Y (.s,Kd.truth.th),Y (.s,(Kd.row a).th),Y (d,(Kd.row .num).th),Y (.s,(Kd.pair a b).th),Y (.o .s,.lst<|shN a b 14),J]=.nx [Y (.s,a.th),Y (.s,b.th),Y (.s,Kd.num.th),Y (.s,Kd.truth.th),Y (.s,(Kd.row a).th),Y (.s,(Kd.row .num).th),Y (.s,(Kd.pair a b).th),Y (.o .s,.lst<|shN a b 22),J]:=by simp_all only[Bk,Jb,IY,Jn,Jl,f_law_shapes,ai,aA,a7,shN,shs,shT,Ii,J6,Ll,Jx,fits,LIM,Lz,Oa];rfl
theorem ou (c:O)(a b:Kd)(m m':Md):C (c+1) 401 [(m,a.th),(m',b.th)]=.ok ((.o .s,.lst<|(shs a b).map shT),[]):=by rw[gM,x_run _ _ _ rfl];refine(N1 (Fl.out [])<|(go1 (b:=Bk f_law_shapes 7 4++(Bk f_law_shapes 11 5++f_law_shapes.body.drop 16))<|Ha c a b m m').trans<|(go1 (b:=Bk f_law_shapes 11 5++f_law_shapes.body.drop 16)<|G7 c a b _ _ _).trans<|go1 (b:=f_law_shapes.body.drop 16)<|Hl c a b _).trans ?_;simp_all only[Jb,IY,Jn,Jl,f_law_shapes,ai,aA,a7,shN,shs,shT,Ii,J6,Ll,Jx,fits,LIM,Lz,Oa];rfl
structure Gs (p:Sh):Prop where
 r:Rl p.1 p.2.1 p.2.2
 n:nob p.1=HV
 d:p.2.2.deep<=4
 l:(∃a,p.2.1=[a]/\a.deep<=4)\/∃a b,p.2.1=[a,b]/\a.deep<=4/\b.deep<=4
noncomputable abbrev LB:U S:=[.ite (.l [9,10,11]) (.not<|.call 430 [.io 1,.var 9,.var 10,.var 11]) [.ret []<|.cst<|.bl HU] []]
theorem mX {L:O}(x:20<=L)(D F o3 G H I M P:B W):∀(o:U Sh) {N:O} {t:T} (w h i:B W),(∀p∈o,Gs p)->Tp N t->N+o.length<1000000000000000000->∃m k c f,Tp (N+o.length) m/\forL [9,10,11] (evSs (C<|L+1) LB) (o.map λp=>[((.s,.str<|q p.1):W),(.s,.lst<|p.2.1.map Kd.th),(.s,p.2.2.th)]) [D,Y (.d,t),F,o3,G,H,I,M,P,w,h,i]=.nx [D,Y (.d,m),F,o3,G,H,I,M,P,k,c,f]
|[],N,t,w,h,i,_,v,_=>⟨t,w,h,i,v,rfl⟩
| p::o,N,t,w,h,i,Q,v,Z=>by
 rw[Ii] at Z;have g:=Q p Ih
 have ⟨t1,A,e1⟩:∃m,Tp (N+1) m/\C (L+1) 430 [(.d,t),(.s,.str (q p.1)),(.s,.lst (p.2.1.map Kd.th)),(.s,p.2.2.th)]=.ok ((.d,.bl HV),[(.d,m)]):=by
  have r:=g.r;rcases g.l with⟨a,e,y⟩|⟨a,b,e,y,hb⟩
  .rw [e] at r;rw[e];exact xG v (by lia) x r g.n g.d y
  .rw [e] at r;rw[e];exact uZ v (by lia) x r g.n g.d y hb
 obtain⟨m,k,c,f,z,e2⟩:=mX x D F o3 G H I M P o (Y (.s,.str<|q p.1)) (Y (.s,.lst<|p.2.1.map Kd.th)) (Y (.s,p.2.2.th)) (λu hu=>Q u<|Iz _ hu) A (by lia);refine⟨m,k,c,f,tm z<|by rw[Ii];lia,?_⟩;rw[Io,<- e2];refine jK rfl ?_;simp_all only[aA,ai,e1]
theorem yr:∀a:U Sh,tripsT (a.map shT)=Y (a.map λp=>[((.s,.str<|q p.1):W),(.s,.lst<|p.2.1.map Kd.th),(.s,p.2.2.th)])
|[]=>rfl
|p::a=>by show(tripsT<|a.map shT).map _=_;rw[yr a];rfl
theorem gs1 {s:NU}{a k:Kd}(r:Rl s [a] k)(n:nob s=HV)(b:a.deep<=4)(hk:k.deep<=4):Gs (s,[a],k):=⟨r,n,hk,.inl ⟨a,rfl,b⟩⟩
theorem gs2 {s:NU}{a b k:Kd}(r:Rl s [a,b] k)(n:nob s=HV)(c:a.deep<=4)(d:b.deep<=4)(hk:k.deep<=4):Gs (s,[a,b],k):=⟨r,n,hk,.inr ⟨a,b,rfl,c,d⟩⟩
theorem gc {a:Sh}{l:U Sh}(h:Gs a)(b:∀u∈l,Gs u):∀u∈a::l,Gs u:=Nv.mpr ⟨h,b⟩
theorem g0:∀u∈([]:U Sh),Gs u:=λu h=>nomatch h
theorem Bj {a b:Kd}(m:a.deep<=2)(n:b.deep<=2):∀p∈shs a b,Gs p:=by
 have c:(Kd.num).deep<=4:=by decide
 have f:(Kd.row .num).deep<=4:=by decide
 have e:(Kd.truth).deep<=4:=by decide
 have l:(Kd.row .truth).deep<=4:=by decide
 have g:a.deep<=4:=by lia
 have k:b.deep<=4:=by lia
 have d:(Kd.row a).deep<=4:=by show a.deep+1<=4;lia
 have i:(Kd.row (.row a)).deep<=4:=by show a.deep+1+1<=4;lia
 have h:(Kd.pair a b).deep<=4:=by show max a.deep b.deep+1<=4;lia
 exact gc (gs2 .add rfl c c c)<|gc (gs2 .sub rfl c c c)<|gc (gs2 .mul rfl c c c)<|gc (gs2 .div rfl c c c)<|gc (gs2 .rest rfl c c c)<|gc (gs2 .less rfl c c e)<|gc (gs2 .same rfl c c e)<|gc (gs2 .same2 rfl e e e)<|gc (gs2 .both rfl e e e)<|gc (gs1 .not rfl e e)<|gc (gs2 (.pair a b) rfl g k h)<|gc (gs1 (.first a b) rfl h g)<|gc (gs1 (.second a b) rfl h k)<|gc (gs1 (.one a) rfl g d)<|gc (gs2 (.pick a) rfl d c g)<|gc (gs2 (.join a) rfl d d d)<|gc (gs2 (.keep a) rfl d l d)<|gc (gs2 (.cut a) rfl d f i)<|gc (gs1 .upto rfl c f)<|gc (gs1 (.long a) rfl d c)<|gc (gs1 .sum rfl f c)<|gc (gs1 .most rfl f c)<|gc (gs1 .sums rfl f f)<|gc (gs1 (.flat a) rfl i d) g0
theorem gz:∀a:U j,leaves (a.map T.int)=HV
|[]=>rfl
|_::a=>by show(HV&&leaves (a.map T.int))=HV;rw[gz a];rfl
theorem yx {N:O}{t:T}(h:Tp N t)(m:N<1000000000):∃r a f k b,C 39 428 [(.d,t),(.d,.int 3)]=.ok ((.d,.int r),[(.d,a)])/\C 39 429 [(.d,a),(.d,.int<|1+r)]=.ok ((f,Kd.th k),[(.d,b)])/\k.deep<=2/\Tp (N+16) b:=by
 obtain⟨r,a,r0,r1,c,e1⟩:=xK (n:=37) .d 3 h (by lia) (by decide) (by decide);obtain⟨l,g,i,p⟩:∃l:O,1+r=(l:j)/\1<=l/\l<=3:=⟨(1+r).toNat,by lia,by lia,by lia⟩;have o:kb l<=15:=by rcases(show l=1\/l=2\/l=3 by lia) with rfl|rfl|rfl<;>decide
 obtain⟨f,k,b,hk,e,e2⟩:=kind (37-l) l c (by lia) i;rw[show 37-l+l+2=39 by lia] at e2;exact⟨r,a,f,k,b,e1,by rw[g];exact e2,by lia,tm e<|by lia⟩
abbrev LE (t:T)(c e:Md)(a b:Kd)(i:j)(f g:Md)(h k l:B W):Env:=[h,Y (.d,t),Y (c,a.th),Y (e,b.th),Y (.d,.int i),Y (f,Kd.num.th),Y (g,Kd.truth.th),k,l,J,J,J]
theorem lwA (c:U j):∃t a b i h k,Tp 100 t/\a.deep<=2/\b.deep<=2/\evSs (C 39) (Bk f_law 0 6) [Y (.d,.scr c),J,J,J,J,J,J,J,J,J,J,J]=.nx (LE t h k a b i .d .d (Y (.d,.scr c)) J J):=by have o:Tp 0 (tape (cut c J (Y 63)) ((0:O):j) 0 0):=⟨_,0,0,0,rfl,Ic _⟩;obtain⟨r1,u,h,a,z,e1,e2,p,e⟩:=yx o (by decide);obtain⟨y,A,k,b,D,e3,l,r,f⟩:=yx e (by decide);obtain⟨i,v,w,x,g,m⟩:=xK (n:=37) .d (1000000000000000000+1) f (by decide) (by decide) (by decide);refine⟨v,a,b,i,h,k,tm g<|by decide,p,r,?_⟩;have s:=gz<|cut c J<|Y 63;have e1:C 39 428 [(.d,.lst [.lst ((cut c J (Y 63)).map T.int),.int 0,.int 0,.int 0]),(.d,.int 3)]=.ok ((.d,.int r1),[(.d,u)]):=e1;simp_all only[Bk,Jb,IY,Jn,Jl,f_law,ai,aA,a7,s,e1,e2,e3,l,gg,m];rfl
theorem lwB (t:T)(c g:Md)(a b:Kd)(i:j)(h:B W)(l:a.deep<=2):evSs (C 39) (Bk f_law 6 4) (LE t c g a b i .d .d h J J)=.nx (LE t c g a b i .d .d h J J):=by have e1:=λe f c=>qi (L:=39) (by decide) i e f c;have e2:=λe f c=>mN (L:=39) (by decide) (.inl (rfl:"yes"="yes")) e f c;have e3:=λe f c=>mN (L:=39) (by decide) (.inr (rfl:"no"="no")) e f c;have k:=λe f c=>n8 (L:=39) (by decide) (a:=a) (by lia) e f c;simp_all only[Bk,Jb,IY,Jn,Jl,f_law,ai,aA,a7,Kd.th,e1,e2,e3,k]
theorem rx:q "rowe"≠q "x":=λz=>by
 have:("rowe"=="x")=true:=by rw[<- qeq,z,NT]
 cases this
theorem DP (a b:Kd):AK 0 [(q "rowe",b),(q "x",a)] a (nmT<|q "x") [] [nt [] a]:=fj (lk2 rx b a) []
theorem zc (a b:Kd)(m:Md):C 39 421 [(m,.tup [.tup [.tup [.str<|q "rowe",b.th],.tup [.str<|q "x",a.th]],nmT<|q "x"])]=.ok ((.d,.lst [aR []<|q "x"]),[]):=
 eX (L:=37) (e:=[(q "rowe",b),(q "x",a)]) (by decide) (BW rx b a) (by show 2<=100;decide) (DP a b) (by show 1<16777215;decide) d1 rfl (gY 37 [] (q "x") _ _ _ _) m
theorem vm (a b:Kd)(m:Md):C 39 368 [(m,.tup [.tup [.tup [.str<|q "rowe",b.th],.tup [.str<|q "x",a.th]],nmT<|q "x"])]=.ok ((.o .s,.lst [nt [] a]),[]):=
 eP (L:=38) (e:=[(q "rowe",b),(q "x",a)]) (by decide) (BW rx b a) (by show 2<=100;decide) (DP a b) (by show 1<16777215;decide) m
theorem p_x:PT 8 (.lst [aR []<|q "x"]):=ptL<|pc (cZ (show PT 2 (aR []<|q "x") from ptT<|pc (pS _ _)<|pc (ptT pn)<|pc (pS _ _) pn)<|by decide) pn
theorem lwC (t:T)(f g:Md)(a b:Kd)(i:j)(e:B W):evSs (C 39) (Bk f_law 10 3) (LE t f g a b i .d .d e J J)=.nx (LE t .s .s a b i .d .d e (Y (.o<|.o .s,.tup [.tup [.str<|q "rowe",b.th],.tup [.str<|q "x",a.th]]))<|Y (.o .s,.lst [.tup [.str<|q "call",.tup [],.str<|q "x"]])):=by have e1:=λm=>zc a b m;have e2:∀m c,C 39 24 [(m,.lst [.tup [.str (q "call"),.tup [],.str (q "x")]]),(c,.lst [aR [] (q "x")])]=.ok ((.d,.bl HV),[]):=λm c=>lK p_x (by decide) m c;simp_all only[Bk,Jb,IY,Jn,Jl,f_law,ai,aA,a7,e1,e2]
theorem pure_law (c:U j):∃m bs,C 40 0 [(.d,.scr c)]=.ok ((m,.bl HV),bs):=by
 obtain⟨t,a,b,i,f,g,x,e,w,h⟩:=lwA c;have k:=lwB t f g a b i (Y (.d,.scr c)) e;have l:=lwC t f g a b i<|Y (.d,.scr c);obtain⟨M,I,D,F,y,n⟩:=mX (L:=38) (by decide) (Y (.d,.scr c)) (Y (.s,a.th)) (Y (.s,b.th)) (Y (.d,.int i)) (Y (.d,Kd.num.th)) (Y (.d,Kd.truth.th)) (Y (.o<|.o .s,.tup [.tup [.str<|q "rowe",b.th],.tup [.str<|q "x",a.th]])) (Y (.o .s,.lst [.tup [.str<|q "call",.tup [],.str<|q "x"]])) (shs a b) J J J (Bj e w) x (by show 124<_;decide);have v:=λm z=>ou 38 a b m z;have G:evL (C 39) [.call 401 [.var 2,.var 3]] (pick [2,3] [] (LE t .s .s a b i .d .d (Y (.d,.scr c)) (Y (.o (.o .s),.tup [.tup [.str (q "rowe"),b.th],.tup [.str (q "x"),a.th]])) (Y (.o .s,.lst [.tup [.str (q "call"),.tup [],.str (q "x")]]))))=.ok ([(.o .s,.lst ((shs a b).map shT))],[J,J,Y (.s,a.th),Y (.s,b.th),J,J,J,J,J,J,J,J]):=by simp_all only[aA,v]
 have p:=yd (r:=[]) G (show turns .sq3 [(.o .s,.lst<|(shs a b).map shT)]=_ from yr _) n;rw[show(40:O)=39+1 from rfl,Bz,x_run _ _ _ rfl];have go:=N1 (Fl.out [])<|(go1 (b:=Bk f_law 6 4++(Bk f_law 10 3++(Bk f_law 13 1++f_law.body.drop 14))) h).trans<|(go1 (b:=Bk f_law 10 3++(Bk f_law 13 1++f_law.body.drop 14)) k).trans<|(go1 (b:=Bk f_law 13 1++f_law.body.drop 14) l).trans<|go1 (b:=f_law.body.drop 14) p;have u:=λm=>vm a b m;have H:=kq a;have e1:=λm A=>qy HU m A (.lst [nt [] a]) (.lst [.tup [.tup [],a.th]]) (by show max (max (0+1) (max (dp a.th) 0)+1) 0+1<=64;lia) (by show max (max (0+1) (max (dp a.th) 0)+1) 0+1<=64;lia);have e2:eqT (.lst [nt [] a]) (.lst [.tup [.tup [],a.th]])=true:=by show((HV&&(eqT a.th a.th&&HV))&&HV)=HV;rw[ay];rfl
 exact⟨_,_,go.trans<|by simp_all only[f_law,Jb,IY,ai,aA,a7,u,e1,e2];rfl⟩
end
end P47

namespace A47
open PySem PySem.Spec PyProof.Rows L2 L3 MR
noncomputable def top (i:O):N4:=PySem.Challenge.pw_broadrow_k47_rows_of_pieces_without_rows.main.body.getD i<|.Pass ⟨0,0,0,0⟩
abbrev qO:N4:=top 7
abbrev pO:N4:=top 8
abbrev sF:N4:=top 9
abbrev ur:N4:=top 10
abbrev qo:N4:=top 14
abbrev qM:N4:=top 15
abbrev tQ:N4:=top 16
abbrev qI:N4:=top 22
abbrev tS:N4:=top 23
abbrev ph:N4:=top 26
abbrev qe:N4:=top 27
abbrev qE:N4:=top 28
abbrev rM:N4:=top 33
abbrev rD:N4:=top 34
abbrev uu:N4:=top 35
abbrev qz:N4:=top 36
abbrev s9:N4:=top 39
abbrev ui:N4:=top 40
abbrev s24:N4:=top 41
abbrev sd:N4:=top 42
abbrev ud:N4:=top 43
abbrev rf:N4:=top 44
abbrev s0:N4:=top 45
structure Glb (K:HX)(w:H8)(mg:Str->B L):Prop where
 DEEPEST:∃t,mg "DEEPEST"=Y (.int 5 t)
 c_AHEAD_laid:jr K w mg "AHEAD_laid" cI
 k_AHEAD_trees:oR K w mg "AHEAD_trees" keys_AHEAD_trees
 c_BINDING:jr K w mg "BINDING" tab_BINDING
 k_LEAVES:oR K w mg "LEAVES" keys_LEAVES
 c_LEAVES:jr K w mg "LEAVES" tab_LEAVES
 c_RULES:jr K w mg "RULES" tab_RULES
 k_WITHIN:oR K w mg "WITHIN" keys_WITHIN
 c_WITHIN:jr K w mg "WITHIN" tab_WITHIN
structure Calls (P:NQ)(w:H8)(K:HX)(mg:Str->B L)(base:NX)(n:O)(C:M.Call):Prop where
 c364:ae P w K mg base n C "kind_text" 364 []
 c365:ae P w K mg base n C "read_kind" 365 []
 c366:ae P w K mg base n C "take_kind" 366 []
 c367:ae P w K mg base n C "take_kind_within" 367 []
 c175:ae P w K mg base n C "parts_start" 175 []
 c176:ae P w K mg base n C "parts" 176 []
 c233:ae P w K mg base n C "binding" 233 []
 c368:ae P w K mg base n C "kinds_of" 368 []
 c369:ae P w K mg base n C "add_kinds" 369 [3]
 c372:ae P w K mg base n C "own_kind" 372 []
 c373:ae P w K mg base n C "fitted" 373 []
 c374:ae P w K mg base n C "kind_by" 374 []
 c421:ae P w K mg base n C "laid" 421 []
 c422:ae P w K mg base n C "rows_of" 422 []
 c423:ae P w K mg base n C "part_rows" 423 []
 c424:ae P w K mg base n C "own_row" 424 []
 c428:ae P w K mg base n C "_law_draw" 428 [0]
 c429:ae P w K mg base n C "_law_kind" 429 [0]
 c24:ae P w K mg base n C "_law_alike" 24 []
 c401:ae P w K mg base n C "_law_shapes" 401 []
 c426:ae P w K mg base n C "_law_leaf" 426 []
 c430:ae P w K mg base n C "_law_signed" 430 [0]
 c370:∀ws,C 370 ws=.no
 c425:∀ws,C 425 ws=.no
abbrev DD (x:Str)(e:N4)(N:U Str)(g:M.Fn):Prop:=∀{P:NQ} {w:H8} {K:HX} {d:Str->B L} {a:NX} {n:O} {C:M.Call} {f:NM} {c:L} {A:Il} {b:U Env} {s:HW} {H:Hp} {E:XK},Calls P w K d a n C->Txt d->Glb K w d->Room n (A.deeper<|Jp x (defScope e) s.heap.objs.size f c)->SSs (iM CX0 P w K d a N x (defScope e) f c A b s H E).nox (slN N.length) g.io C (defBody e) g.body
theorem D7:ao ["kind"] ["kind"] (defScope qO):=fsc
theorem GH:DD "kind_text" qO ["kind"] aS:=λ{_ _ _ _ _ _ _ _ _ _ _ s _ _} cs T G a=>
 have S:=D7
 (ss1 (aF (ya sS (bq (@sLx _ _ _ _ _ _ _ (by decide) (@slx _ _ _ _ _ _ _ (@aM _ _ _ _ _ _ _ _ _ (sV 0) sI (λ_ _=>rfl)) sl0 rfl)) (sC1 [] [] [] [] (qN (zC (sV 0) sI)) (λ_ _ _ _=>(aj cs.c364 a (@say _ _ _ _ _ _ _ (sV 0) sa0 rfl rfl))) csc .nil .nil)))))
theorem DF:ao ["text","words","taken"] ["text"] (defScope pO):=fsc
theorem GA:DD "read_kind" pO ["text","words","taken"] bB:=λ{_ _ _ _ _ _ _ _ _ _ _ s _ _} cs T G a=>
 have S:=DF
 (@ssc _ _ _ _ _ _ _ _ (@zA _ _ _ _ _ _ _ 1 _ _ _ _ S.nd (lD (sV 0) sS) rfl rfl rfl rfl rfl rfl)
    (@ssc _ _ _ _ _ _ _ _ (@zA _ _ _ _ _ _ _ 2 _ _ _ _ S.nd (aj cs.c366 a (@say _ _ _ _ _ _ _ (sV 1) (@say _ _ _ _ _ _ _ sI sa0 rfl rfl) rfl rfl)) rfl rfl rfl rfl rfl rfl)
    (@ssc _ _ _ _ _ _ _ _ (zIf (wW (@aM _ _ _ _ _ _ _ _ _ (sV 2) sI (λ_ _=>rfl)) (gi (hm:=T.len) (ha:=(sV 1)))) (ss1 mP) ss0)
    (@ss1 _ _ _ _ _ _ (@aF _ _ _ _ _ _ _ _ (@aM _ _ _ _ _ _ _ _ _ (sM 2) sI (λ_ _=>rfl)))))))
theorem FR:ao ["words","at"] ["words","at"] (defScope sF):=fsc
theorem HG:DD "take_kind" sF ["words","at"] bA:=λ{_ _ _ _ _ _ _ _ _ _ _ s _ _} cs T G a=>
 have S:=FR
 (ss1<|aF<|aj cs.c367 a<|@say _ _ _ _ _ _ _ (sM 0) (@say _ _ _ _ _ _ _ (sM 1) (@say _ _ _ _ _ _ _ (sGc G.DEEPEST) sa0 rfl rfl) rfl rfl) rfl rfl)
theorem D1:ao ["words","at","depth","many","kind","after","number","taken"] ["words","at","depth"] (defScope ur):=fsc
theorem Hc:DD "take_kind_within" ur ["words","at","depth","many","kind","after","number","taken"] au:=λ{_ _ _ _ _ _ _ _ _ _ _ s _ _} cs T G a=>
 have S:=D1
 (@ssc _ _ _ _ _ _ _ _ (zIf (tW (wOr (E3 (sV 1) (gi (hm:=T.len) (ha:=(sV 0)))) (wO1 (vH G.k_WITHIN (@aM _ _ _ _ _ _ _ _ _ (sV 0) (sV 1) (λ_ _=>rfl)))))) (ss1 mP) ss0)
    (@ssc _ _ _ _ _ _ _ _ (@zA _ _ _ _ _ _ _ 3 _ _ _ _ S.nd (AV G.c_WITHIN (@aM _ _ _ _ _ _ _ _ _ (sV 0) (sV 1) (λ_ _=>rfl))) rfl rfl rfl rfl rfl rfl)
    (@ssc _ _ _ _ _ _ _ _ (zIf (tW (FO (CD (sV 3) sI) (wA1 (gG a (sV 2) sI)))) (ss1 mP) ss0)
    (@ssc _ _ _ _ _ _ _ _ (@zA _ _ _ _ _ _ _ 4 _ _ _ _ S.nd (@sLx _ _ _ _ _ _ _ (by decide) (@slx _ _ _ _ _ _ _ (@aM _ _ _ _ _ _ _ _ _ (sV 0) (sV 1) (λ_ _=>rfl)) sl0 rfl)) rfl rfl rfl rfl rfl rfl)
    (@ssc _ _ _ _ _ _ _ _ (@zA _ _ _ _ _ _ _ 5 _ _ _ _ S.nd (bq (sV 1) sI) rfl rfl rfl rfl rfl rfl)
    (@ssc _ _ _ _ _ _ _ _ (rF 6 S.nd (vO (hm:=T.range) (ha:=(sV 3))) (@ssc _ _ _ _ _ _ _ _ (@zA _ _ _ _ _ _ _ 7 _ _ _ _ S.nd (aj cs.c367 a (@say _ _ _ _ _ _ _ (sV 0) (@say _ _ _ _ _ _ _ (sV 5) (@say _ _ _ _ _ _ _ (oh (sV 2) sI) sa0 rfl rfl) rfl rfl) rfl rfl)) rfl rfl rfl rfl rfl rfl)
     (@ssc _ _ _ _ _ _ _ _ (nV 4 (@aM _ _ _ _ _ _ _ _ _ (sV 7) sI (λ_ _=>rfl)))
     (ss1 (@zA _ _ _ _ _ _ _ 5 _ _ _ _ S.nd (@aM _ _ _ _ _ _ _ _ _ (sV 7) sI (λ_ _=>rfl)) rfl rfl rfl rfl rfl rfl)))))
    (ss1 (aF (@sTx _ _ _ _ _ _ _ (by decide) (@slx _ _ _ _ _ _ _ (lz (hm:=T.tup) (ha:=(sM 4))) (@slx _ _ _ _ _ _ _ (sM 5) sl0 rfl) rfl))))))))))
theorem Fg:ao ["sign"] ["sign"] (defScope qo):=fsc
theorem Hk:DD "parts_start" qo ["sign"] aT:=λ{_ _ _ _ _ _ _ _ _ _ _ s _ _} cs T G a=>
 have S:=Fg
 (ss1<|aF<|sIf (E1 G.k_AHEAD_trees<|sM 0) sI sI)
theorem EO:ao ["tree"] ["tree"] (defScope qM):=fsc
theorem GK:DD "parts" qM ["tree"] cR:=λ{_ _ _ _ _ _ _ _ _ _ _ s _ _} cs T G a=>
 have S:=EO
 (ss1 (aF (zC (sV 0) (aj cs.c175 a (@say _ _ _ _ _ _ _ (@aM _ _ _ _ _ _ _ _ _ (sV 0) sI (λ_ _=>rfl)) sa0 rfl rfl)))))
theorem FD:ao ["tree"] ["tree"] (defScope tQ):=fsc
theorem Gh:DD "binding" tQ ["tree"] cq:=λ{_ _ _ _ _ _ _ _ _ _ _ s _ _} cs T G a=>
 have S:=FD
 (ss1<|aF<|Dl G.c_BINDING<|@aM _ _ _ _ _ _ _ _ _ (sM 0) sI λ_ _=>rfl)
theorem Ew:ao ["program","names","name","kind","told"] ["program"] (defScope qI):=fsc
theorem F9:DD "kinds_of" qI ["program","names","name","kind","told"] f_kinds_of:=λ{_ _ _ _ _ _ _ _ _ _ _ s _ _} cs T G a=>
 have S:=Ew
 (@ssc _ _ _ _ _ _ _ _ (@zA _ _ _ _ _ _ _ 1 _ _ _ _ S.nd yG rfl rfl rfl rfl rfl rfl)
    (@ssc _ _ _ _ _ _ _ _ (se 2 3 S.nd (pM (@aM _ _ _ _ _ _ _ _ _ (sV 0) sI (λ_ _=>rfl))) (ss1 (Dz 1 a (sV 3) (sV 2))))
    (@ssc _ _ _ _ _ _ _ _ (@zA _ _ _ _ _ _ _ 4 _ _ _ _ S.nd (@sLx _ _ _ _ _ _ _ (by decide) sl0) rfl rfl rfl rfl rfl rfl)
    (@ssc _ _ _ _ _ _ _ _ (Ge (aj cs.c369 a (@say _ _ _ _ _ _ _ (@aM _ _ _ _ _ _ _ _ _ (sV 0) sI (λ_ _=>rfl)) (@say _ _ _ _ _ _ _ (@sTx _ _ _ _ _ _ _ (by decide) sl0) (@say _ _ _ _ _ _ _ (sV 1) (sai 4 sa0) rfl rfl) rfl rfl) rfl rfl)))
    (ss1 (aF (sM 4)))))))
theorem Fc:ao ["tree","place","names","told","ins","number","part","inner","kind"] ["tree","place","names","told"] (defScope tS):=fsc
theorem GW:DD "add_kinds" tS ["tree","place","names","told","ins","number","part","inner","kind"] f_add_kinds:=λ{_ _ _ _ _ _ _ _ _ _ _ s _ _} cs T G a=>
 have S:=Fc
 (@ssc _ _ _ _ _ _ _ _ (@zA _ _ _ _ _ _ _ 4 _ _ _ _ S.nd (@sLx _ _ _ _ _ _ _ (by decide) sl0) rfl rfl rfl rfl rfl rfl)
    (@ssc _ _ _ _ _ _ _ _ (se 5 6 S.nd (zE (hm:=T.enum) (ha:=(aj cs.c176 a (@say _ _ _ _ _ _ _ (sV 0) sa0 rfl rfl)))) (@ssc _ _ _ _ _ _ _ _ (@zA _ _ _ _ _ _ _ 7 _ _ _ _ S.nd (sV 2) rfl rfl rfl rfl rfl rfl)
     (@ssc _ _ _ _ _ _ _ _ (zIf (gG a (sV 5) (aj cs.c233 a (@say _ _ _ _ _ _ _ (sV 0) sa0 rfl rfl))) (ss1 (@zA _ _ _ _ _ _ _ 7 _ _ _ _ S.nd (tG cs.c370) rfl rfl rfl rfl rfl rfl)) ss0)
     (ss1 (nV 4 (aj cs.c369 a (@say _ _ _ _ _ _ _ (sV 6) (@say _ _ _ _ _ _ _ (cG (sV 1) (@sTx _ _ _ _ _ _ _ (by decide) (@slx _ _ _ _ _ _ _ (sV 5) sl0 rfl))) (@say _ _ _ _ _ _ _ (sV 7) (sai 3 sa0) rfl rfl) rfl rfl) rfl rfl)))))))
    (@ssc _ _ _ _ _ _ _ _ (@zA _ _ _ _ _ _ _ 8 _ _ _ _ S.nd (aj cs.c372 a (@say _ _ _ _ _ _ _ (sV 0) (@say _ _ _ _ _ _ _ (sV 2) (@say _ _ _ _ _ _ _ (sV 4) sa0 rfl rfl) rfl rfl) rfl rfl)) rfl rfl rfl rfl rfl rfl)
    (@ssc _ _ _ _ _ _ _ _ (zIf (HP (sV 8) sN) (ss1 mP) ss0)
    (@ssc _ _ _ _ _ _ _ _ (nV 3 (@sTx _ _ _ _ _ _ _ (by decide) (@slx _ _ _ _ _ _ _ (sV 1) (@slx _ _ _ _ _ _ _ (sV 8) sl0 rfl) rfl)))
    (ss1 (aF (sM 8))))))))
theorem FT:ao ["tree","names","ins","before","after","found"] ["tree","names","ins"] (defScope ph):=fsc
theorem F8:DD "own_kind" ph ["tree","names","ins","before","after","found"] aL:=λ{_ _ _ _ _ _ _ _ _ _ _ s _ _} cs T G a=>
 have S:=FT
 (@ssc _ _ _ _ _ _ _ _ (zIf (gG a (@aM _ _ _ _ _ _ _ _ _ (sV 0) sI (λ_ _=>rfl)) sS) (ss1 (aF (DV a (sM 1) (@aM _ _ _ _ _ _ _ _ _ (sM 0) sI (λ_ _=>rfl))))) ss0)
    (@ssc _ _ _ _ _ _ _ _ (zIf (E1 G.k_LEAVES (@aM _ _ _ _ _ _ _ _ _ (sV 0) sI (λ_ _=>rfl))) (ss1 (aF (AV G.c_LEAVES (@aM _ _ _ _ _ _ _ _ _ (sM 0) sI (λ_ _=>rfl))))) ss0)
    (@ssc _ _ _ _ _ _ _ _ (zIf (gG a (@aM _ _ _ _ _ _ _ _ _ (sV 0) sI (λ_ _=>rfl)) sS) (ss1 (aF (aj cs.c374 a (@say _ _ _ _ _ _ _ sS (@say _ _ _ _ _ _ _ (Fw (ha:=(@aM _ _ _ _ _ _ _ _ _ (sM 0) sI (λ_ _=>rfl)))) sa0 rfl rfl) rfl rfl)))) ss0)
    (@ssc _ _ _ _ _ _ _ _ (se 3 4 S.nd (pM (AV G.c_RULES (@aM _ _ _ _ _ _ _ _ _ (sV 0) sI (fun _ _=>rfl)))) (@ssc _ _ _ _ _ _ _ _ (@zA _ _ _ _ _ _ _ 5 _ _ _ _ S.nd (aj cs.c373 a (@say _ _ _ _ _ _ _ (sV 3) (@say _ _ _ _ _ _ _ (sV 2) sa0 rfl rfl) rfl rfl)) rfl rfl rfl rfl rfl rfl)
     (ss1 (zIf (HF (sV 5) sN) (ss1 (aF (aj cs.c374 a (@say _ _ _ _ _ _ _ (sM 4) (@say _ _ _ _ _ _ _ (sM 5) sa0 rfl rfl) rfl rfl)))) ss0))))
    (ss1 (aF sN))))))
theorem Dp:ao ["before","kinds","found","ahead","word","kind"] ["before","kinds"] (defScope qe):=fsc
theorem Hg:DD "fitted" qe ["before","kinds","found","ahead","word","kind"] cK:=λ{_ _ _ _ _ _ _ _ _ _ _ s _ _} cs T G a=>
 have S:=Dp
 (@ssc _ _ _ _ _ _ _ _ (@zA _ _ _ _ _ _ _ 2 _ _ _ _ S.nd yG rfl rfl rfl rfl rfl rfl)
    (@ssc _ _ _ _ _ _ _ _ (@zA _ _ _ _ _ _ _ 3 _ _ _ _ S.nd (qc (hm:=T.list) (ha:=(sV 1))) rfl rfl rfl rfl rfl rfl)
    (@ssc _ _ _ _ _ _ _ _ (rF 4 S.nd (qN (lD (sV 0) sS)) (@ssc _ _ _ _ _ _ _ _ (@zA _ _ _ _ _ _ _ 5 _ _ _ _ S.nd (Fm 3) rfl rfl rfl rfl rfl rfl)
     (ss1 (zIf (pN (sV 4) (@sTx _ _ _ _ _ _ _ (by decide) (@slx _ _ _ _ _ _ _ sS (@slx _ _ _ _ _ _ _ sS sl0 rfl) rfl))) (ss1 (zIf (t7 a (Hi 2 4 5) (sV 5)) (ss1 (aF sN)) ss0)) (ss1 (zIf (gG a (sV 4) (@aM _ _ _ _ _ _ _ _ _ (sV 5) sI (λ_ _=>rfl))) (ss1 (@zA _ _ _ _ _ _ _ 3 _ _ _ _ S.nd (bq (qc (hm:=T.list) (ha:=(zC (sV 5) sI))) (sV 3)) rfl rfl rfl rfl rfl rfl)) (ss1 (aF sN))))))))
    (ss1 (aF (sM 2))))))
theorem EW:ao ["after","found","words","kind"] ["after","found"] (defScope qE):=fsc
theorem GN:DD "kind_by" qE ["after","found","words","kind"] cf:=λ{_ _ _ _ _ _ _ _ _ _ _ s _ _} cs T G a=>
 have S:=EW
 (@ssc _ _ _ _ _ _ _ _ (zC1 2 [1] [1] [("found",s.heap.objs.size+1)] ["found"] (qN (lD (sV 0) sS)) (λ_ _ _ _=>(sIf (C5 a (sV 0) (sV 1)) (aj cs.c364 a (@say _ _ _ _ _ _ _ (AM a (sV 1) (sV 0)) sa0 rfl rfl)) (sV 0))) csc (zj .nil) (frc .nil) S.nd)
    (@ssc _ _ _ _ _ _ _ _ (Hq (ss1 (@zA _ _ _ _ _ _ _ 3 _ _ _ _ S.nd (aj cs.c365 a (@say _ _ _ _ _ _ _ (ya sS (sV 2)) sa0 rfl rfl)) rfl rfl rfl rfl rfl rfl)))
    (ss1 (aF (sM 3)))))
theorem Fy:ao ["program"] ["program"] (defScope rM):=fsc
theorem GQ:DD "laid" rM ["program"] fO:=λ{_ _ _ _ _ _ _ _ _ _ _ s _ _} cs T G a=>
 have S:=Fy
 (ss1 (aF (aj cs.c422 a (@say _ _ _ _ _ _ _ (@aM _ _ _ _ _ _ _ _ _ (sV 0) sI (λ_ _=>rfl)) (@say _ _ _ _ _ _ _ (@sTx _ _ _ _ _ _ _ (by decide) sl0) (@say _ _ _ _ _ _ _ (FV a (by rfl) (hm:=T.dict) (ha:=(sW (aj cs.c368 a (@say _ _ _ _ _ _ _ (sV 0) sa0 rfl rfl))))) sa0 rfl rfl) rfl rfl) rfl rfl))))
theorem Eo:ao ["tree","place","kinds","middle","end","rows","number"] ["tree","place","kinds"] (defScope rD):=fsc
theorem GJ:DD "rows_of" rD ["tree","place","kinds","middle","end","rows","number"] bc:=λ{_ _ _ _ _ _ _ _ _ _ _ s _ _} cs T G a=>
 have S:=Eo
 (@ssc _ _ _ _ _ _ _ _ (zIf (gG a (@aM _ _ _ _ _ _ _ _ _ (sV 0) sI (λ_ _=>rfl)) sS) (ss1 (aF (@sLx _ _ _ _ _ _ _ (by decide) (@slx _ _ _ _ _ _ _ (@sTx _ _ _ _ _ _ _ (by decide) (@slx _ _ _ _ _ _ _ sS (@slx _ _ _ _ _ _ _ (sNl (sM 1)) (@slx _ _ _ _ _ _ _ (sNl (@aM _ _ _ _ _ _ _ _ _ (sM 0) sI (λ_ _=>rfl))) sl0 rfl) rfl) rfl)) sl0 rfl)))) ss0)
    (@ssc _ _ _ _ _ _ _ _ (zIf (gG a (@aM _ _ _ _ _ _ _ _ _ (sV 0) sI (fun _ _=>rfl)) sS) (@ssc _ _ _ _ _ _ _ _ (@zA _ _ _ _ _ _ _ 3 _ _ _ _ S.nd (@sLx _ _ _ _ _ _ _ (by decide) (@slx _ _ _ _ _ _ _ (@sTx _ _ _ _ _ _ _ (by decide) (@slx _ _ _ _ _ _ _ sS (@slx _ _ _ _ _ _ _ (sNl (@aM _ _ _ _ _ _ _ _ _ (sV 0) sI (fun _ _=>rfl))) (@slx _ _ _ _ _ _ _ (cG (sNl (sV 1)) (@sTx _ _ _ _ _ _ _ (by decide) (@slx _ _ _ _ _ _ _ sI sl0 rfl))) sl0 rfl) rfl) rfl)) sl0 rfl)) rfl rfl rfl rfl rfl rfl)
     (@ssc _ _ _ _ _ _ _ _ (@zA _ _ _ _ _ _ _ 4 _ _ _ _ S.nd (@sLx _ _ _ _ _ _ _ (by decide) (@slx _ _ _ _ _ _ _ (@sTx _ _ _ _ _ _ _ (by decide) (@slx _ _ _ _ _ _ _ sS (@slx _ _ _ _ _ _ _ (sNl (sV 1)) (@slx _ _ _ _ _ _ _ (cG (sNl (sV 1)) (@sTx _ _ _ _ _ _ _ (by decide) (@slx _ _ _ _ _ _ _ sI sl0 rfl))) sl0 rfl) rfl) rfl)) sl0 rfl)) rfl rfl rfl rfl rfl rfl)
     (ss1 (aF (bq (bq (bq (aj cs.c423 a (@say _ _ _ _ _ _ _ (sV 0) (@say _ _ _ _ _ _ _ sI (@say _ _ _ _ _ _ _ (sNl (sV 1)) (@say _ _ _ _ _ _ _ (sV 2) sa0 rfl rfl) rfl rfl) rfl rfl) rfl rfl)) (sM 3)) (aj cs.c423 a (@say _ _ _ _ _ _ _ (sV 0) (@say _ _ _ _ _ _ _ sI (@say _ _ _ _ _ _ _ (sNl (sV 1)) (@say _ _ _ _ _ _ _ (sV 2) sa0 rfl rfl) rfl rfl) rfl rfl) rfl rfl))) (sM 4)))))) ss0)
    (@ssc _ _ _ _ _ _ _ _ (@zA _ _ _ _ _ _ _ 5 _ _ _ _ S.nd (@sLx _ _ _ _ _ _ _ (by decide) sl0) rfl rfl rfl rfl rfl rfl)
    (@ssc _ _ _ _ _ _ _ _ (rF 6 S.nd (vO (hm:=T.range) (ha:=(DS G.c_AHEAD_laid (@aM _ _ _ _ _ _ _ _ _ (sV 0) sI (λ_ _=>rfl)) (gi (hm:=T.len) (ha:=(aj cs.c176 a (@say _ _ _ _ _ _ _ (sV 0) sa0 rfl rfl))))))) (ss1 (Hv 5 (aj cs.c423 a (@say _ _ _ _ _ _ _ (sV 0) (@say _ _ _ _ _ _ _ (sV 6) (@say _ _ _ _ _ _ _ (sNl (sV 1)) (@say _ _ _ _ _ _ _ (sV 2) sa0 rfl rfl) rfl rfl) rfl rfl) rfl rfl)))))
    (@ssc _ _ _ _ _ _ _ _ (nV 5 (aj cs.c424 a (@say _ _ _ _ _ _ _ (sV 0) (@say _ _ _ _ _ _ _ (sNl (sV 1)) (@say _ _ _ _ _ _ _ (sV 2) sa0 rfl rfl) rfl rfl) rfl rfl)))
    (ss1 (aF (sM 5))))))))
theorem Ey:ao ["tree","number","place","kinds"] ["tree","number","place","kinds"] (defScope uu):=fsc
theorem Hb:DD "part_rows" uu ["tree","number","place","kinds"] bC:=λ{_ _ _ _ _ _ _ _ _ _ _ s _ _} cs T G a=>
 have S:=Ey
 (ss1 (aF (aj cs.c422 a (@say _ _ _ _ _ _ _ (@aM _ _ _ _ _ _ _ _ _ (aj cs.c176 a (@say _ _ _ _ _ _ _ (sM 0) sa0 rfl rfl)) (sV 1) (λ_ _=>rfl)) (@say _ _ _ _ _ _ _ (cG (sM 2) (@sTx _ _ _ _ _ _ _ (by decide) (@slx _ _ _ _ _ _ _ (sV 1) sl0 rfl))) (@say _ _ _ _ _ _ _ (sM 3) sa0 rfl rfl) rfl rfl) rfl rfl))))
theorem DH:ao ["tree","place","kinds","kind","sign"] ["tree","place","kinds"] (defScope qz):=fsc
theorem GS:DD "own_row" qz ["tree","place","kinds","kind","sign"] bK:=λ{_ _ _ _ _ _ _ _ _ _ _ s _ _} cs T G a=>
 have S:=DH
 (@ssc _ _ _ _ _ _ _ _ (@zA _ _ _ _ _ _ _ 3 _ _ _ _ S.nd (De a (sV 2) (sNl (sV 1))) rfl rfl rfl rfl rfl rfl)
    (@ssc _ _ _ _ _ _ _ _ (zIf (gG a (@aM _ _ _ _ _ _ _ _ _ (sV 0) sI (λ_ _=>rfl)) sS) (ss1 (aF (bq (cG (@sTx _ _ _ _ _ _ _ (by decide) (@slx _ _ _ _ _ _ _ sS (@slx _ _ _ _ _ _ _ (sNl (sV 1)) (@slx _ _ _ _ _ _ _ (sNl (sM 3)) (@slx _ _ _ _ _ _ _ (cG (sNl (sV 1)) (@sTx _ _ _ _ _ _ _ (by decide) (@slx _ _ _ _ _ _ _ sI sl0 rfl))) sl0 rfl) rfl) rfl) rfl)) (tG cs.c425)) (tG cs.c425)))) ss0)
    (@ssc _ _ _ _ _ _ _ _ (zIf (gG a (@aM _ _ _ _ _ _ _ _ _ (sV 0) sI (λ_ _=>rfl)) sS) (ss1 (aF (cG (@sTx _ _ _ _ _ _ _ (by decide) (@slx _ _ _ _ _ _ _ sS (@slx _ _ _ _ _ _ _ (sNl (sV 1)) (@slx _ _ _ _ _ _ _ (sNl (sM 3)) (@slx _ _ _ _ _ _ _ (@aM _ _ _ _ _ _ _ _ _ (sV 0) sI (λ_ _=>rfl)) (@slx _ _ _ _ _ _ _ (cG (sNl (sV 1)) (@sTx _ _ _ _ _ _ _ (by decide) (@slx _ _ _ _ _ _ _ sI sl0 rfl))) sl0 rfl) rfl) rfl) rfl) rfl)) (tG cs.c425)))) ss0)
    (@ssc _ _ _ _ _ _ _ _ (zIf (gG a (@aM _ _ _ _ _ _ _ _ _ (sV 0) sI (λ_ _=>rfl)) sS) (ss1 (aF (cG (@sTx _ _ _ _ _ _ _ (by decide) (@slx _ _ _ _ _ _ _ sS (@slx _ _ _ _ _ _ _ (sNl (sV 1)) (@slx _ _ _ _ _ _ _ (sNl (sM 3)) (@slx _ _ _ _ _ _ _ (@aM _ _ _ _ _ _ _ _ _ (sV 0) sI (λ_ _=>rfl)) (@slx _ _ _ _ _ _ _ (cG (sNl (sV 1)) (@sTx _ _ _ _ _ _ _ (by decide) (@slx _ _ _ _ _ _ _ sI sl0 rfl))) (@slx _ _ _ _ _ _ _ (cG (sNl (sV 1)) (@sTx _ _ _ _ _ _ _ (by decide) (@slx _ _ _ _ _ _ _ sI sl0 rfl))) sl0 rfl) rfl) rfl) rfl) rfl) rfl)) (tG cs.c425)))) ss0)
    (@ssc _ _ _ _ _ _ _ _ (@zA _ _ _ _ _ _ _ 4 _ _ _ _ S.nd (sIf (pN (@aM _ _ _ _ _ _ _ _ _ (sV 0) sI (λ_ _=>rfl)) (@sTx _ _ _ _ _ _ _ (by decide) (@slx _ _ _ _ _ _ _ sS (@slx _ _ _ _ _ _ _ sS sl0 rfl) rfl))) (sV 0) (@aM _ _ _ _ _ _ _ _ _ (sV 0) sI (λ_ _=>rfl))) rfl rfl rfl rfl rfl rfl)
    (ss1 (aF (@sTx _ _ _ _ _ _ _ (by decide) (@slx _ _ _ _ _ _ _ sS (@slx _ _ _ _ _ _ _ (sNl (sV 1)) (@slx _ _ _ _ _ _ _ (sNl (sM 4)) (@slx _ _ _ _ _ _ _ (sNl (sM 3)) (@slx _ _ _ _ _ _ _ (sC1 [1] [1] [("place",s.heap.objs.size+1)] ["place"] (vO (hm:=T.range) (ha:=(gi (hm:=T.len) (ha:=(aj cs.c176 a (@say _ _ _ _ _ _ _ (sM 0) sa0 rfl rfl)))))) (λ_ _ _ _=>(sNl (cG (sNl (sV 1)) (@sTx _ _ _ _ _ _ _ (by decide) (@slx _ _ _ _ _ _ _ (sV 0) sl0 rfl))))) csc (zj .nil) (frc .nil)) sl0 rfl) rfl) rfl) rfl) rfl)))))))))
theorem Dq:ao ["tape","many","rest","spot","cell","number"] ["tape","many"] (defScope s9):=fsc
theorem Gr:DD "_law_draw" s9 ["tape","many","rest","spot","cell","number"] aZ:=λ{_ _ _ _ _ _ _ _ _ _ _ s _ _} cs T G a=>
 have S:=Dq
 (@ssc _ _ _ _ _ _ _ _ (zIf (CD (@aM _ _ _ _ _ _ _ _ _ (sV 0) sI (λ_ _=>rfl)) sI) (@ssc _ _ _ _ _ _ _ _ (qG 0 (oh (@aM _ _ _ _ _ _ _ _ _ (sV 0) sI (λ_ _=>rfl)) sI) sI)
      (@ssc _ _ _ _ _ _ _ _ (@zA _ _ _ _ _ _ _ 2 _ _ _ _ S.nd (@aM _ _ _ _ _ _ _ _ _ (sV 0) sI (λ_ _=>rfl)) rfl rfl rfl rfl rfl rfl)
      (@ssc _ _ _ _ _ _ _ _ (qG 0 (yf (sV 2) (sV 1)) sI)
      (ss1 (aF (dB (sM 2) (sM 1))))))) ss0)
    (@ssc _ _ _ _ _ _ _ _ (@zA _ _ _ _ _ _ _ 3 _ _ _ _ S.nd (@aM _ _ _ _ _ _ _ _ _ (sV 0) sI (λ_ _=>rfl)) rfl rfl rfl rfl rfl rfl)
    (@ssc _ _ _ _ _ _ _ _ (qG 0 (bq (sV 3) sI) sI)
    (@ssc _ _ _ _ _ _ _ _ (@zA _ _ _ _ _ _ _ 4 _ _ _ _ S.nd sI rfl rfl rfl rfl rfl rfl)
    (@ssc _ _ _ _ _ _ _ _ (zIf (CD (gi (hm:=T.len) (ha:=(@aM _ _ _ _ _ _ _ _ _ (sV 0) sI (λ_ _=>rfl)))) sI) (ss1 (@zA _ _ _ _ _ _ _ 4 _ _ _ _ S.nd (@aM _ _ _ _ _ _ _ _ _ (@aM _ _ _ _ _ _ _ _ _ (sV 0) sI (λ_ _=>rfl)) (dB (sV 3) (gi (hm:=T.len) (ha:=(@aM _ _ _ _ _ _ _ _ _ (sV 0) sI (λ_ _=>rfl))))) (λ_ _=>rfl)) rfl rfl rfl rfl rfl rfl)) ss0)
    (@ssc _ _ _ _ _ _ _ _ (zIf (tW (FO (wW (sV 3) (gi (hm:=T.len) (ha:=(@aM _ _ _ _ _ _ _ _ _ (sV 0) sI (fun _ _=>rfl))))) (wA1 (E3 (sV 4) (zk sI sI))))) (@ssc _ _ _ _ _ _ _ _ (qG 0 (oh (sV 4) (zk sI sI)) sI)
     (@ssc _ _ _ _ _ _ _ _ (qG 0 sI sI)
     (ss1 (aF (aj cs.c428 a (sai 0 (@say _ _ _ _ _ _ _ (sM 1) sa0 rfl rfl))))))) ss0)
    (@ssc _ _ _ _ _ _ _ _ (@zA _ _ _ _ _ _ _ 5 _ _ _ _ S.nd (pQ (bq (dB (sV 4) sI) sI) (bq (bq (dB (pQ (sV 3) (sV 3)) sI) (pQ sI (sV 3))) sI)) rfl rfl rfl rfl rfl rfl)
    (@ssc _ _ _ _ _ _ _ _ (@zA _ _ _ _ _ _ _ 5 _ _ _ _ S.nd (dB (pQ (dB (sV 5) sI) (dB (sV 5) sI)) sI) rfl rfl rfl rfl rfl rfl)
    (ss1 (aF (dB (dB (bq (yf (sM 5) sI) (pQ sI (sM 3))) sI) (sM 1))))))))))))
theorem Dk:ao ["tape","left","way","one"] ["tape","left"] (defScope ui):=fsc
theorem Gy:DD "_law_kind" ui ["tape","left","way","one"] bO:=λ{_ _ _ _ _ _ _ _ _ _ _ s _ _} cs T G a=>
 have S:=Dk
 (@ssc _ _ _ _ _ _ _ _ (@zA _ _ _ _ _ _ _ 2 _ _ _ _ S.nd (aj cs.c428 a (sai 0 (@say _ _ _ _ _ _ _ sI sa0 rfl rfl))) rfl rfl rfl rfl rfl rfl)
    (@ssc _ _ _ _ _ _ _ _ (zIf (tW (wOr (gG a (sV 1) sI) (wO1 (wW (sV 2) sI)))) (@ss1 _ _ _ _ _ _ (@aF _ _ _ _ _ _ _ _ (@aM _ _ _ _ _ _ _ _ _ (@sLx _ _ _ _ _ _ _ (by decide) (@slx _ _ _ _ _ _ _ (@sTx _ _ _ _ _ _ _ (by decide) (@slx _ _ _ _ _ _ _ sS sl0 rfl)) (@slx _ _ _ _ _ _ _ (@sTx _ _ _ _ _ _ _ (by decide) (@slx _ _ _ _ _ _ _ sS sl0 rfl)) sl0 rfl) rfl)) (G9 (sM 2) sI) (λ_ _=>rfl)))) ss0)
    (@ssc _ _ _ _ _ _ _ _ (zIf (wW (sV 2) sI) (@ssc _ _ _ _ _ _ _ _ (@zA _ _ _ _ _ _ _ 3 _ _ _ _ S.nd (aj cs.c429 a (sai 0 (@say _ _ _ _ _ _ _ (oh (sV 1) sI) sa0 rfl rfl))) rfl rfl rfl rfl rfl rfl)
     (ss1 (aF (@sTx _ _ _ _ _ _ _ (by decide) (@slx _ _ _ _ _ _ _ sS (@slx _ _ _ _ _ _ _ (sM 3) (@slx _ _ _ _ _ _ _ (aj cs.c429 a (sai 0 (@say _ _ _ _ _ _ _ (oh (sM 1) sI) sa0 rfl rfl))) sl0 rfl) rfl) rfl))))) ss0)
    (ss1 (aF (@sTx _ _ _ _ _ _ _ (by decide) (@slx _ _ _ _ _ _ _ sS (@slx _ _ _ _ _ _ _ (aj cs.c429 a (sai 0 (@say _ _ _ _ _ _ _ (oh (sM 1) sI) sa0 rfl rfl))) sl0 rfl) rfl)))))))
theorem S24:ao ["due","found"] ["due","found"] (defScope s24):=fsc
theorem D24:DD "_law_alike" s24 ["due","found"] az:=λ{_ _ _ _ _ _ _ _ _ _ _ s _ _} cs T G a=>
 have S:=S24
 (@ssc _ _ _ _ _ _ _ _ (zIf (tB (E2 (by decide) Ls (by decide) Lv T.isin T.list T.tup (sV 0))) (@ssc _ _ _ _ _ _ _ _ (zIf (t7 a (gP (by decide) Ls T.isin T.list (sV 0)) (gP (by decide) Ls T.isin T.list (sV 1))) (ss1 (aF sO)) ss0)
      (@ssc _ _ _ _ _ _ _ _ (zIf (t7 a (gP (by decide) Lv T.isin T.tup (sV 0)) (gP (by decide) Lv T.isin T.tup (sV 1))) (ss1 (aF sO)) ss0)
      (@ssc _ _ _ _ _ _ _ _ (zIf (t7 a (gi (hm:=T.len) (ha:=(sV 0))) (gi (hm:=T.len) (ha:=(sV 1)))) (ss1 (aF sO)) ss0)
      (ss1 (aF (GC (hm:=T.all) (ha:=(sC2 [] [] [] [] (ym (hm:=T.zip) (ha:=(sM 0)) (hb:=(sM 1))) (λ_ _ _ _=>(aj cs.c24 a (@say _ _ _ _ _ _ _ (sV 0) (@say _ _ _ _ _ _ _ (sV 1) sa0 rfl rfl) rfl rfl))) csc .nil .nil)))))))) ss0)
    (@ssc _ _ _ _ _ _ _ _ (zIf (t7 a (gP (by decide) M7 T.isin T.bool (sV 0)) (gP (by decide) M7 T.isin T.bool (sV 1))) (ss1 (aF sO)) ss0)
    (ss1 (aF (sEq a (sM 0) (sM 1))))))
theorem Ej:ao ["one","other","num","truth","row","nums","pair","some"] ["one","other"] (defScope sd):=fsc
theorem Gn:DD "_law_shapes" sd ["one","other","num","truth","row","nums","pair","some"] f_law_shapes:=λ{_ _ _ _ _ _ _ _ _ _ _ s _ _} cs T G a=>
 have S:=Ej
 (@ssc _ _ _ _ _ _ _ _ (@zA _ _ _ _ _ _ _ 2 _ _ _ _ S.nd (@sTx _ _ _ _ _ _ _ (by decide) (@slx _ _ _ _ _ _ _ sS sl0 rfl)) rfl rfl rfl rfl rfl rfl)
    (@ssc _ _ _ _ _ _ _ _ (@zA _ _ _ _ _ _ _ 3 _ _ _ _ S.nd (@sTx _ _ _ _ _ _ _ (by decide) (@slx _ _ _ _ _ _ _ sS sl0 rfl)) rfl rfl rfl rfl rfl rfl)
    (@ssc _ _ _ _ _ _ _ _ (@zA _ _ _ _ _ _ _ 4 _ _ _ _ S.nd (@sTx _ _ _ _ _ _ _ (by decide) (@slx _ _ _ _ _ _ _ sS (@slx _ _ _ _ _ _ _ (sV 0) sl0 rfl) rfl)) rfl rfl rfl rfl rfl rfl)
    (@ssc _ _ _ _ _ _ _ _ (@zA _ _ _ _ _ _ _ 5 _ _ _ _ S.nd (@sTx _ _ _ _ _ _ _ (by decide) (@slx _ _ _ _ _ _ _ sS (@slx _ _ _ _ _ _ _ (sV 2) sl0 rfl) rfl)) rfl rfl rfl rfl rfl rfl)
    (@ssc _ _ _ _ _ _ _ _ (@zA _ _ _ _ _ _ _ 6 _ _ _ _ S.nd (@sTx _ _ _ _ _ _ _ (by decide) (@slx _ _ _ _ _ _ _ sS (@slx _ _ _ _ _ _ _ (sV 0) (@slx _ _ _ _ _ _ _ (sV 1) sl0 rfl) rfl) rfl)) rfl rfl rfl rfl rfl rfl)
    (@ssc _ _ _ _ _ _ _ _ (zC1 7 [2] [2] [("num",s.heap.objs.size+1)] ["num"] (qN (@sLx _ _ _ _ _ _ _ (by decide) (@slx _ _ _ _ _ _ _ sS (@slx _ _ _ _ _ _ _ sS (@slx _ _ _ _ _ _ _ sS (@slx _ _ _ _ _ _ _ sS (@slx _ _ _ _ _ _ _ sS sl0 rfl) rfl) rfl) rfl) rfl))) (λ_ _ _ _=>(@sTx _ _ _ _ _ _ _ (by decide) (@slx _ _ _ _ _ _ _ (sV 0) (@slx _ _ _ _ _ _ _ (@sLx _ _ _ _ _ _ _ (by decide) (@slx _ _ _ _ _ _ _ (sV 1) (@slx _ _ _ _ _ _ _ (sV 1) sl0 rfl) rfl)) (@slx _ _ _ _ _ _ _ (sV 1) sl0 rfl) rfl) rfl))) csc (zj .nil) (frc .nil) S.nd)
    (@ssc _ _ _ _ _ _ _ _ (@zA _ _ _ _ _ _ _ 7 _ _ _ _ S.nd (bq (sV 7) (@sLx _ _ _ _ _ _ _ (by decide) (@slx _ _ _ _ _ _ _ (@sTx _ _ _ _ _ _ _ (by decide) (@slx _ _ _ _ _ _ _ sS (@slx _ _ _ _ _ _ _ (@sLx _ _ _ _ _ _ _ (by decide) (@slx _ _ _ _ _ _ _ (sV 2) (@slx _ _ _ _ _ _ _ (sV 2) sl0 rfl) rfl)) (@slx _ _ _ _ _ _ _ (sV 3) sl0 rfl) rfl) rfl)) (@slx _ _ _ _ _ _ _ (@sTx _ _ _ _ _ _ _ (by decide) (@slx _ _ _ _ _ _ _ sS (@slx _ _ _ _ _ _ _ (@sLx _ _ _ _ _ _ _ (by decide) (@slx _ _ _ _ _ _ _ (sV 2) (@slx _ _ _ _ _ _ _ (sV 2) sl0 rfl) rfl)) (@slx _ _ _ _ _ _ _ (sV 3) sl0 rfl) rfl) rfl)) sl0 rfl) rfl))) rfl rfl rfl rfl rfl rfl)
    (@ssc _ _ _ _ _ _ _ _ (@zA _ _ _ _ _ _ _ 7 _ _ _ _ S.nd (bq (sV 7) (@sLx _ _ _ _ _ _ _ (by decide) (@slx _ _ _ _ _ _ _ (@sTx _ _ _ _ _ _ _ (by decide) (@slx _ _ _ _ _ _ _ sS (@slx _ _ _ _ _ _ _ (@sLx _ _ _ _ _ _ _ (by decide) (@slx _ _ _ _ _ _ _ (sV 3) (@slx _ _ _ _ _ _ _ (sV 3) sl0 rfl) rfl)) (@slx _ _ _ _ _ _ _ (sV 3) sl0 rfl) rfl) rfl)) sl0 rfl))) rfl rfl rfl rfl rfl rfl)
    (@ssc _ _ _ _ _ _ _ _ (@zA _ _ _ _ _ _ _ 7 _ _ _ _ S.nd (bq (sV 7) (@sLx _ _ _ _ _ _ _ (by decide) (@slx _ _ _ _ _ _ _ (@sTx _ _ _ _ _ _ _ (by decide) (@slx _ _ _ _ _ _ _ sS (@slx _ _ _ _ _ _ _ (@sLx _ _ _ _ _ _ _ (by decide) (@slx _ _ _ _ _ _ _ (sV 3) (@slx _ _ _ _ _ _ _ (sV 3) sl0 rfl) rfl)) (@slx _ _ _ _ _ _ _ (sV 3) sl0 rfl) rfl) rfl)) (@slx _ _ _ _ _ _ _ (@sTx _ _ _ _ _ _ _ (by decide) (@slx _ _ _ _ _ _ _ sS (@slx _ _ _ _ _ _ _ (@sLx _ _ _ _ _ _ _ (by decide) (@slx _ _ _ _ _ _ _ (sV 3) sl0 rfl)) (@slx _ _ _ _ _ _ _ (sV 3) sl0 rfl) rfl) rfl)) sl0 rfl) rfl))) rfl rfl rfl rfl rfl rfl)
    (@ssc _ _ _ _ _ _ _ _ (@zA _ _ _ _ _ _ _ 7 _ _ _ _ S.nd (bq (sV 7) (@sLx _ _ _ _ _ _ _ (by decide) (@slx _ _ _ _ _ _ _ (@sTx _ _ _ _ _ _ _ (by decide) (@slx _ _ _ _ _ _ _ sS (@slx _ _ _ _ _ _ _ (@sLx _ _ _ _ _ _ _ (by decide) (@slx _ _ _ _ _ _ _ (sV 0) (@slx _ _ _ _ _ _ _ (sV 1) sl0 rfl) rfl)) (@slx _ _ _ _ _ _ _ (sV 6) sl0 rfl) rfl) rfl)) (@slx _ _ _ _ _ _ _ (@sTx _ _ _ _ _ _ _ (by decide) (@slx _ _ _ _ _ _ _ sS (@slx _ _ _ _ _ _ _ (@sLx _ _ _ _ _ _ _ (by decide) (@slx _ _ _ _ _ _ _ (sV 6) sl0 rfl)) (@slx _ _ _ _ _ _ _ (sV 0) sl0 rfl) rfl) rfl)) sl0 rfl) rfl))) rfl rfl rfl rfl rfl rfl)
    (@ssc _ _ _ _ _ _ _ _ (@zA _ _ _ _ _ _ _ 7 _ _ _ _ S.nd (bq (sV 7) (@sLx _ _ _ _ _ _ _ (by decide) (@slx _ _ _ _ _ _ _ (@sTx _ _ _ _ _ _ _ (by decide) (@slx _ _ _ _ _ _ _ sS (@slx _ _ _ _ _ _ _ (@sLx _ _ _ _ _ _ _ (by decide) (@slx _ _ _ _ _ _ _ (sV 6) sl0 rfl)) (@slx _ _ _ _ _ _ _ (sV 1) sl0 rfl) rfl) rfl)) (@slx _ _ _ _ _ _ _ (@sTx _ _ _ _ _ _ _ (by decide) (@slx _ _ _ _ _ _ _ sS (@slx _ _ _ _ _ _ _ (@sLx _ _ _ _ _ _ _ (by decide) (@slx _ _ _ _ _ _ _ (sV 0) sl0 rfl)) (@slx _ _ _ _ _ _ _ (sV 4) sl0 rfl) rfl) rfl)) sl0 rfl) rfl))) rfl rfl rfl rfl rfl rfl)
    (@ssc _ _ _ _ _ _ _ _ (@zA _ _ _ _ _ _ _ 7 _ _ _ _ S.nd (bq (sV 7) (@sLx _ _ _ _ _ _ _ (by decide) (@slx _ _ _ _ _ _ _ (@sTx _ _ _ _ _ _ _ (by decide) (@slx _ _ _ _ _ _ _ sS (@slx _ _ _ _ _ _ _ (@sLx _ _ _ _ _ _ _ (by decide) (@slx _ _ _ _ _ _ _ (sV 4) (@slx _ _ _ _ _ _ _ (sV 2) sl0 rfl) rfl)) (@slx _ _ _ _ _ _ _ (sV 0) sl0 rfl) rfl) rfl)) (@slx _ _ _ _ _ _ _ (@sTx _ _ _ _ _ _ _ (by decide) (@slx _ _ _ _ _ _ _ sS (@slx _ _ _ _ _ _ _ (@sLx _ _ _ _ _ _ _ (by decide) (@slx _ _ _ _ _ _ _ (sV 4) (@slx _ _ _ _ _ _ _ (sV 4) sl0 rfl) rfl)) (@slx _ _ _ _ _ _ _ (sV 4) sl0 rfl) rfl) rfl)) sl0 rfl) rfl))) rfl rfl rfl rfl rfl rfl)
    (@ssc _ _ _ _ _ _ _ _ (@zA _ _ _ _ _ _ _ 7 _ _ _ _ S.nd (bq (sV 7) (@sLx _ _ _ _ _ _ _ (by decide) (@slx _ _ _ _ _ _ _ (@sTx _ _ _ _ _ _ _ (by decide) (@slx _ _ _ _ _ _ _ sS (@slx _ _ _ _ _ _ _ (@sLx _ _ _ _ _ _ _ (by decide) (@slx _ _ _ _ _ _ _ (sV 4) (@slx _ _ _ _ _ _ _ (@sTx _ _ _ _ _ _ _ (by decide) (@slx _ _ _ _ _ _ _ sS (@slx _ _ _ _ _ _ _ (sV 3) sl0 rfl) rfl)) sl0 rfl) rfl)) (@slx _ _ _ _ _ _ _ (sV 4) sl0 rfl) rfl) rfl)) sl0 rfl))) rfl rfl rfl rfl rfl rfl)
    (@ssc _ _ _ _ _ _ _ _ (@zA _ _ _ _ _ _ _ 7 _ _ _ _ S.nd (bq (sV 7) (@sLx _ _ _ _ _ _ _ (by decide) (@slx _ _ _ _ _ _ _ (@sTx _ _ _ _ _ _ _ (by decide) (@slx _ _ _ _ _ _ _ sS (@slx _ _ _ _ _ _ _ (@sLx _ _ _ _ _ _ _ (by decide) (@slx _ _ _ _ _ _ _ (sV 4) (@slx _ _ _ _ _ _ _ (sV 5) sl0 rfl) rfl)) (@slx _ _ _ _ _ _ _ (@sTx _ _ _ _ _ _ _ (by decide) (@slx _ _ _ _ _ _ _ sS (@slx _ _ _ _ _ _ _ (sV 4) sl0 rfl) rfl)) sl0 rfl) rfl) rfl)) sl0 rfl))) rfl rfl rfl rfl rfl rfl)
    (@ssc _ _ _ _ _ _ _ _ (@zA _ _ _ _ _ _ _ 7 _ _ _ _ S.nd (bq (sV 7) (@sLx _ _ _ _ _ _ _ (by decide) (@slx _ _ _ _ _ _ _ (@sTx _ _ _ _ _ _ _ (by decide) (@slx _ _ _ _ _ _ _ sS (@slx _ _ _ _ _ _ _ (@sLx _ _ _ _ _ _ _ (by decide) (@slx _ _ _ _ _ _ _ (sV 2) sl0 rfl)) (@slx _ _ _ _ _ _ _ (sV 5) sl0 rfl) rfl) rfl)) (@slx _ _ _ _ _ _ _ (@sTx _ _ _ _ _ _ _ (by decide) (@slx _ _ _ _ _ _ _ sS (@slx _ _ _ _ _ _ _ (@sLx _ _ _ _ _ _ _ (by decide) (@slx _ _ _ _ _ _ _ (sV 4) sl0 rfl)) (@slx _ _ _ _ _ _ _ (sV 2) sl0 rfl) rfl) rfl)) sl0 rfl) rfl))) rfl rfl rfl rfl rfl rfl)
    (@ssc _ _ _ _ _ _ _ _ (@zA _ _ _ _ _ _ _ 7 _ _ _ _ S.nd (bq (sV 7) (@sLx _ _ _ _ _ _ _ (by decide) (@slx _ _ _ _ _ _ _ (@sTx _ _ _ _ _ _ _ (by decide) (@slx _ _ _ _ _ _ _ sS (@slx _ _ _ _ _ _ _ (@sLx _ _ _ _ _ _ _ (by decide) (@slx _ _ _ _ _ _ _ (sV 5) sl0 rfl)) (@slx _ _ _ _ _ _ _ (sV 2) sl0 rfl) rfl) rfl)) (@slx _ _ _ _ _ _ _ (@sTx _ _ _ _ _ _ _ (by decide) (@slx _ _ _ _ _ _ _ sS (@slx _ _ _ _ _ _ _ (@sLx _ _ _ _ _ _ _ (by decide) (@slx _ _ _ _ _ _ _ (sV 5) sl0 rfl)) (@slx _ _ _ _ _ _ _ (sV 2) sl0 rfl) rfl) rfl)) sl0 rfl) rfl))) rfl rfl rfl rfl rfl rfl)
    (ss1 (aF (bq (sM 7) (@sLx _ _ _ _ _ _ _ (by decide) (@slx _ _ _ _ _ _ _ (@sTx _ _ _ _ _ _ _ (by decide) (@slx _ _ _ _ _ _ _ sS (@slx _ _ _ _ _ _ _ (@sLx _ _ _ _ _ _ _ (by decide) (@slx _ _ _ _ _ _ _ (sV 5) sl0 rfl)) (@slx _ _ _ _ _ _ _ (sV 5) sl0 rfl) rfl) rfl)) (@slx _ _ _ _ _ _ _ (@sTx _ _ _ _ _ _ _ (by decide) (@slx _ _ _ _ _ _ _ sS (@slx _ _ _ _ _ _ _ (@sLx _ _ _ _ _ _ _ (by decide) (@slx _ _ _ _ _ _ _ (@sTx _ _ _ _ _ _ _ (by decide) (@slx _ _ _ _ _ _ _ sS (@slx _ _ _ _ _ _ _ (sV 4) sl0 rfl) rfl)) sl0 rfl)) (@slx _ _ _ _ _ _ _ (sV 4) sl0 rfl) rfl) rfl)) sl0 rfl) rfl)))))))))))))))))))))
theorem C8:ao ["piece","sign","kind","due"] ["piece","sign","kind"] (defScope ud):=fsc
theorem GU:DD "_law_leaf" ud ["piece","sign","kind","due"] bR:=λ{_ _ _ _ _ _ _ _ _ _ _ s _ _} cs T G a=>
 have S:=C8
 (@ssc _ _ _ _ _ _ _ _ (@zA _ _ _ _ _ _ _ 3 _ _ _ _ S.nd (@sLx _ _ _ _ _ _ _ (by decide) (@slx _ _ _ _ _ _ _ (@sTx _ _ _ _ _ _ _ (by decide) (@slx _ _ _ _ _ _ _ sS (@slx _ _ _ _ _ _ _ (@sTx _ _ _ _ _ _ _ (by decide) sl0) (@slx _ _ _ _ _ _ _ (sV 1) (@slx _ _ _ _ _ _ _ (sV 2) (@slx _ _ _ _ _ _ _ (@sLx _ _ _ _ _ _ _ (by decide) sl0) sl0 rfl) rfl) rfl) rfl) rfl)) sl0 rfl)) rfl rfl rfl rfl rfl rfl)
    (ss1 (aF (aj cs.c24 a (@say _ _ _ _ _ _ _ (sM 3) (@say _ _ _ _ _ _ _ (aj cs.c421 a (@say _ _ _ _ _ _ _ (@sTx _ _ _ _ _ _ _ (by decide) (@slx _ _ _ _ _ _ _ (@sTx _ _ _ _ _ _ _ (by decide) sl0) (@slx _ _ _ _ _ _ _ (sM 0) sl0 rfl) rfl)) sa0 rfl rfl)) sa0 rfl rfl) rfl rfl)))))
theorem DO:ao ["tape","sign","kinds","kind","pool","at","names","heads","tree","due","spots","told"] ["tape","sign","kinds","kind"] (defScope rf):=fsc
theorem GD:DD "_law_signed" rf ["tape","sign","kinds","kind","pool","at","names","heads","tree","due","spots","told"] f_law_signed:=λ{_ _ _ _ _ _ _ _ _ _ _ s _ _} cs T G a=>
 have S:=DO
 (@ssc _ _ _ _ _ _ _ _ (@zA _ _ _ _ _ _ _ 4 _ _ _ _ S.nd (@sLx _ _ _ _ _ _ _ (by decide) (@slx _ _ _ _ _ _ _ sS (@slx _ _ _ _ _ _ _ sS (@slx _ _ _ _ _ _ _ sS (@slx _ _ _ _ _ _ _ sS (@slx _ _ _ _ _ _ _ sS (@slx _ _ _ _ _ _ _ sS (@slx _ _ _ _ _ _ _ sS (@slx _ _ _ _ _ _ _ sS sl0 rfl) rfl) rfl) rfl) rfl) rfl) rfl) rfl)) rfl rfl rfl rfl rfl rfl)
    (@ssc _ _ _ _ _ _ _ _ (@zA _ _ _ _ _ _ _ 5 _ _ _ _ S.nd (aj cs.c428 a (sai 0 (@say _ _ _ _ _ _ _ sI sa0 rfl rfl))) rfl rfl rfl rfl rfl rfl)
    (@ssc _ _ _ _ _ _ _ _ (@zA _ _ _ _ _ _ _ 6 _ _ _ _ S.nd (EY (@sLx _ _ _ _ _ _ _ (by decide) (@slx _ _ _ _ _ _ _ (@aM _ _ _ _ _ _ _ _ _ (sV 4) (sV 5) (λ_ _=>rfl)) (@slx _ _ _ _ _ _ _ (@aM _ _ _ _ _ _ _ _ _ (sV 4) (bq (sV 5) sI) (λ_ _=>rfl)) sl0 rfl) rfl)) (gi (hm:=T.len) (ha:=(sV 2)))) rfl rfl rfl rfl rfl rfl)
    (@ssc _ _ _ _ _ _ _ _ (@zA _ _ _ _ _ _ _ 7 _ _ _ _ S.nd (lz (hm:=T.tup) (ha:=(sC2 [] [] [] [] (ym (hm:=T.zip) (ha:=(sV 6)) (hb:=(sV 2))) (λ_ _ _ _=>(@sTx _ _ _ _ _ _ _ (by decide) (@slx _ _ _ _ _ _ _ (sV 0) (@slx _ _ _ _ _ _ _ (sV 1) sl0 rfl) rfl))) csc .nil .nil))) rfl rfl rfl rfl rfl rfl)
    (@ssc _ _ _ _ _ _ _ _ (@zA _ _ _ _ _ _ _ 8 _ _ _ _ S.nd (bq (@sTx _ _ _ _ _ _ _ (by decide) (@slx _ _ _ _ _ _ _ (sV 1) sl0 rfl)) (lz (hm:=T.tup) (ha:=(sC1 [] [] [] [] (qN (sV 6)) (λ_ _ _ _=>(@sTx _ _ _ _ _ _ _ (by decide) (@slx _ _ _ _ _ _ _ sS (@slx _ _ _ _ _ _ _ (sV 0) sl0 rfl) rfl))) csc .nil .nil)))) rfl rfl rfl rfl rfl rfl)
    (@ssc _ _ _ _ _ _ _ _ (zC2 9 [] [] [] [] (C6 (hm:=T.enum) (ha:=(sV 6))) (λ_ _ _ _=>(@sTx _ _ _ _ _ _ _ (by decide) (@slx _ _ _ _ _ _ _ sS (@slx _ _ _ _ _ _ _ (@sTx _ _ _ _ _ _ _ (by decide) (@slx _ _ _ _ _ _ _ (sV 0) sl0 rfl)) (@slx _ _ _ _ _ _ _ (sV 1) sl0 rfl) rfl) rfl))) csc .nil .nil S.nd)
    (@ssc _ _ _ _ _ _ _ _ (zC1 10 [] [] [] [] (vO (hm:=T.range) (ha:=(gi (hm:=T.len) (ha:=(sV 6))))) (λ_ _ _ _=>(@sTx _ _ _ _ _ _ _ (by decide) (@slx _ _ _ _ _ _ _ (sV 0) sl0 rfl))) csc .nil .nil S.nd)
    (@ssc _ _ _ _ _ _ _ _ (nV 9 (@sTx _ _ _ _ _ _ _ (by decide) (@slx _ _ _ _ _ _ _ sS (@slx _ _ _ _ _ _ _ (@sTx _ _ _ _ _ _ _ (by decide) sl0) (@slx _ _ _ _ _ _ _ (sV 1) (@slx _ _ _ _ _ _ _ (sV 3) (@slx _ _ _ _ _ _ _ (sV 10) sl0 rfl) rfl) rfl) rfl) rfl)))
    (@ssc _ _ _ _ _ _ _ _ (@zA _ _ _ _ _ _ _ 11 _ _ _ _ S.nd (aj cs.c421 a (@say _ _ _ _ _ _ _ (@sTx _ _ _ _ _ _ _ (by decide) (@slx _ _ _ _ _ _ _ (sV 7) (@slx _ _ _ _ _ _ _ (sV 8) sl0 rfl) rfl)) sa0 rfl rfl)) rfl rfl rfl rfl rfl rfl)
    (@ssc _ _ _ _ _ _ _ _ (zIf (fz (tB (aj cs.c24 a (@say _ _ _ _ _ _ _ (sV 9) (@say _ _ _ _ _ _ _ (sV 11) sa0 rfl rfl) rfl rfl)))) (ss1 (aF sO)) ss0)
    (@ssc _ _ _ _ _ _ _ _ (He 11)
    (@ssc _ _ _ _ _ _ _ _ (nV 11 sI)
    (ss1 (aF (aj cs.c24 a (@say _ _ _ _ _ _ _ (sM 9) (@say _ _ _ _ _ _ _ (aj cs.c421 a (@say _ _ _ _ _ _ _ (@sTx _ _ _ _ _ _ _ (by decide) (@slx _ _ _ _ _ _ _ (sM 7) (@slx _ _ _ _ _ _ _ (sM 8) sl0 rfl) rfl)) sa0 rfl rfl)) sa0 rfl rfl) rfl rfl))))))))))))))))
theorem S0:ao ["script","tape","one","other","number","num","truth","heads","due","sign","kinds","kind"] ["script"] (defScope s0):=fsc
theorem D0:DD "law" s0 ["script","tape","one","other","number","num","truth","heads","due","sign","kinds","kind"] f_law:=λ{_ _ _ _ _ _ _ _ _ _ _ s _ _} cs T G a=>
 have S:=S0
 (@ssc _ _ _ _ _ _ _ _ (@zA _ _ _ _ _ _ _ 1 _ _ _ _ S.nd (@sLx _ _ _ _ _ _ _ (by decide) (@slx _ _ _ _ _ _ _ (qc (hm:=T.list) (ha:=(EY (sV 0) sI))) (@slx _ _ _ _ _ _ _ sI (@slx _ _ _ _ _ _ _ sI (@slx _ _ _ _ _ _ _ sI sl0 rfl) rfl) rfl) rfl)) rfl rfl rfl rfl rfl rfl)
    (@ssc _ _ _ _ _ _ _ _ (@zA _ _ _ _ _ _ _ 2 _ _ _ _ S.nd (aj cs.c429 a (sai 1 (@say _ _ _ _ _ _ _ (bq sI (aj cs.c428 a (sai 1 (@say _ _ _ _ _ _ _ sI sa0 rfl rfl)))) sa0 rfl rfl))) rfl rfl rfl rfl rfl rfl)
    (@ssc _ _ _ _ _ _ _ _ (@zA _ _ _ _ _ _ _ 3 _ _ _ _ S.nd (aj cs.c429 a (sai 1 (@say _ _ _ _ _ _ _ (bq sI (aj cs.c428 a (sai 1 (@say _ _ _ _ _ _ _ sI sa0 rfl rfl)))) sa0 rfl rfl))) rfl rfl rfl rfl rfl rfl)
    (@ssc _ _ _ _ _ _ _ _ (@zA _ _ _ _ _ _ _ 4 _ _ _ _ S.nd (aj cs.c428 a (sai 1 (@say _ _ _ _ _ _ _ (bq (zk sI sI) sI) sa0 rfl rfl))) rfl rfl rfl rfl rfl rfl)
    (@ssc _ _ _ _ _ _ _ _ (@zA _ _ _ _ _ _ _ 5 _ _ _ _ S.nd (@sTx _ _ _ _ _ _ _ (by decide) (@slx _ _ _ _ _ _ _ sS sl0 rfl)) rfl rfl rfl rfl rfl rfl)
    (@ssc _ _ _ _ _ _ _ _ (@zA _ _ _ _ _ _ _ 6 _ _ _ _ S.nd (@sTx _ _ _ _ _ _ _ (by decide) (@slx _ _ _ _ _ _ _ sS sl0 rfl)) rfl rfl rfl rfl rfl rfl)
    (@ssc _ _ _ _ _ _ _ _ (zIf (fz (tB (aj cs.c426 a (@say _ _ _ _ _ _ _ (@sTx _ _ _ _ _ _ _ (by decide) (@slx _ _ _ _ _ _ _ sS (@slx _ _ _ _ _ _ _ (sV 4) sl0 rfl) rfl)) (@say _ _ _ _ _ _ _ (@sTx _ _ _ _ _ _ _ (by decide) (@slx _ _ _ _ _ _ _ sS (@slx _ _ _ _ _ _ _ (sV 4) sl0 rfl) rfl)) (@say _ _ _ _ _ _ _ (sV 5) sa0 rfl rfl) rfl rfl) rfl rfl)))) (ss1 (aF sO)) ss0)
    (@ssc _ _ _ _ _ _ _ _ (zIf (fz (tB (aj cs.c426 a (@say _ _ _ _ _ _ _ (@sTx _ _ _ _ _ _ _ (by decide) (@slx _ _ _ _ _ _ _ sS sl0 rfl)) (@say _ _ _ _ _ _ _ sS (@say _ _ _ _ _ _ _ (sV 6) sa0 rfl rfl) rfl rfl) rfl rfl)))) (ss1 (aF sO)) ss0)
    (@ssc _ _ _ _ _ _ _ _ (zIf (fz (tB (aj cs.c426 a (@say _ _ _ _ _ _ _ (@sTx _ _ _ _ _ _ _ (by decide) (@slx _ _ _ _ _ _ _ sS sl0 rfl)) (@say _ _ _ _ _ _ _ sS (@say _ _ _ _ _ _ _ (sV 6) sa0 rfl rfl) rfl rfl) rfl rfl)))) (ss1 (aF sO)) ss0)
    (@ssc _ _ _ _ _ _ _ _ (zIf (fz (tB (aj cs.c426 a (@say _ _ _ _ _ _ _ (@sTx _ _ _ _ _ _ _ (by decide) (@slx _ _ _ _ _ _ _ sS (@slx _ _ _ _ _ _ _ (sV 2) sl0 rfl) rfl)) (@say _ _ _ _ _ _ _ (@sTx _ _ _ _ _ _ _ (by decide) (@slx _ _ _ _ _ _ _ sS (@slx _ _ _ _ _ _ _ (sV 2) sl0 rfl) rfl)) (@say _ _ _ _ _ _ _ (@sTx _ _ _ _ _ _ _ (by decide) (@slx _ _ _ _ _ _ _ sS (@slx _ _ _ _ _ _ _ (sV 2) sl0 rfl) rfl)) sa0 rfl rfl) rfl rfl) rfl rfl)))) (ss1 (aF sO)) ss0)
    (@ssc _ _ _ _ _ _ _ _ (@zA _ _ _ _ _ _ _ 7 _ _ _ _ S.nd (@sTx _ _ _ _ _ _ _ (by decide) (@slx _ _ _ _ _ _ _ (@sTx _ _ _ _ _ _ _ (by decide) (@slx _ _ _ _ _ _ _ sS (@slx _ _ _ _ _ _ _ (sV 3) sl0 rfl) rfl)) (@slx _ _ _ _ _ _ _ (@sTx _ _ _ _ _ _ _ (by decide) (@slx _ _ _ _ _ _ _ sS (@slx _ _ _ _ _ _ _ (sV 2) sl0 rfl) rfl)) sl0 rfl) rfl)) rfl rfl rfl rfl rfl rfl)
    (@ssc _ _ _ _ _ _ _ _ (@zA _ _ _ _ _ _ _ 8 _ _ _ _ S.nd (@sLx _ _ _ _ _ _ _ (by decide) (@slx _ _ _ _ _ _ _ (@sTx _ _ _ _ _ _ _ (by decide) (@slx _ _ _ _ _ _ _ sS (@slx _ _ _ _ _ _ _ (@sTx _ _ _ _ _ _ _ (by decide) sl0) (@slx _ _ _ _ _ _ _ sS sl0 rfl) rfl) rfl)) sl0 rfl)) rfl rfl rfl rfl rfl rfl)
    (@ssc _ _ _ _ _ _ _ _ (zIf (fz (tB (aj cs.c24 a (@say _ _ _ _ _ _ _ (sV 8) (@say _ _ _ _ _ _ _ (aj cs.c421 a (@say _ _ _ _ _ _ _ (@sTx _ _ _ _ _ _ _ (by decide) (@slx _ _ _ _ _ _ _ (sV 7) (@slx _ _ _ _ _ _ _ (@sTx _ _ _ _ _ _ _ (by decide) (@slx _ _ _ _ _ _ _ sS (@slx _ _ _ _ _ _ _ sS sl0 rfl) rfl)) sl0 rfl) rfl)) sa0 rfl rfl)) sa0 rfl rfl) rfl rfl)))) (ss1 (aF sO)) ss0)
    (@ssc _ _ _ _ _ _ _ _ (BR 9 10 11 S.nd (Ee (aj cs.c401 a (@say _ _ _ _ _ _ _ (sV 2) (@say _ _ _ _ _ _ _ (sV 3) sa0 rfl rfl) rfl rfl))) (ss1 (zIf (fz (tB (aj cs.c430 a (sai 1 (@say _ _ _ _ _ _ _ (sV 9) (@say _ _ _ _ _ _ _ (sV 10) (@say _ _ _ _ _ _ _ (sV 11) sa0 rfl rfl) rfl rfl) rfl rfl))))) (ss1 (aF sO)) ss0)))
    (ss1 (aF (sEq a (aj cs.c368 a (@say _ _ _ _ _ _ _ (@sTx _ _ _ _ _ _ _ (by decide) (@slx _ _ _ _ _ _ _ (sM 7) (@slx _ _ _ _ _ _ _ (@sTx _ _ _ _ _ _ _ (by decide) (@slx _ _ _ _ _ _ _ sS (@slx _ _ _ _ _ _ _ sS sl0 rfl) rfl)) sl0 rfl) rfl)) sa0 rfl rfl)) (@sLx _ _ _ _ _ _ _ (by decide) (@slx _ _ _ _ _ _ _ (@sTx _ _ _ _ _ _ _ (by decide) (@slx _ _ _ _ _ _ _ (@sTx _ _ _ _ _ _ _ (by decide) sl0) (@slx _ _ _ _ _ _ _ (sM 2) sl0 rfl) rfl)) sl0 rfl)))))))))))))))))))
end A47

namespace A47
open PySem PySem.Spec PyProof.Rows L2 L3 MR
abbrev Cl (n:O):M.Call:=M.callR prog 1000000 1000001 n
section
variable {P:NQ}{w:H8}{K:HX}{mg:Str->B L}{base:NX}
theorem all (d364:Df K mg "kind_text" qO ["kind"])(d365:Df K mg "read_kind" pO ["text"])(d366:Df K mg "take_kind" sF ["words","at"])(d367:Df K mg "take_kind_within" ur ["words","at","depth"])(d175:Df K mg "parts_start" qo ["sign"])(d176:Df K mg "parts" qM ["tree"])(d233:Df K mg "binding" tQ ["tree"])(d368:Df K mg "kinds_of" qI ["program"])(d369:Df K mg "add_kinds" tS ["tree","place","names","told"])(d372:Df K mg "own_kind" ph ["tree","names","ins"])(d373:Df K mg "fitted" qe ["before","kinds"])(d374:Df K mg "kind_by" qE ["after","found"])(d421:Df K mg "laid" rM ["program"])(d422:Df K mg "rows_of" rD ["tree","place","kinds"])(d423:Df K mg "part_rows" uu ["tree","number","place","kinds"])(d424:Df K mg "own_row" qz ["tree","place","kinds"])(d428:Df K mg "_law_draw" s9 ["tape","many"])(d429:Df K mg "_law_kind" ui ["tape","left"])(d24:Df K mg "_law_alike" s24 ["due","found"])(d401:Df K mg "_law_shapes" sd ["one","other"])(d426:Df K mg "_law_leaf" ud ["piece","sign","kind"])(d430:Df K mg "_law_signed" rf ["tape","sign","kinds","kind"])  (T:Txt mg)(G:Glb K w mg):∀n,Calls P w K mg base n<|Cl n
|0=>
 have i:ae P w K mg base 0 (Cl 0) "kind_text" 364 []:=d364.z;have k:ae P w K mg base 0 (Cl 0) "read_kind" 365 []:=d365.z;have l:ae P w K mg base 0 (Cl 0) "take_kind" 366 []:=d366.z;have m:ae P w K mg base 0 (Cl 0) "take_kind_within" 367 []:=d367.z;have d:ae P w K mg base 0 (Cl 0) "parts_start" 175 []:=d175.z;have e:ae P w K mg base 0 (Cl 0) "parts" 176 []:=d176.z;have g:ae P w K mg base 0 (Cl 0) "binding" 233 []:=d233.z;have o:ae P w K mg base 0 (Cl 0) "kinds_of" 368 []:=d368.z;have p:ae P w K mg base 0 (Cl 0) "add_kinds" 369 [3]:=d369.z;have r:ae P w K mg base 0 (Cl 0) "own_kind" 372 []:=d372.z;have t:ae P w K mg base 0 (Cl 0) "fitted" 373 []:=d373.z;have u:ae P w K mg base 0 (Cl 0) "kind_by" 374 []:=d374.z;have x:ae P w K mg base 0 (Cl 0) "laid" 421 []:=d421.z;have y:ae P w K mg base 0 (Cl 0) "rows_of" 422 []:=d422.z;have D:ae P w K mg base 0 (Cl 0) "part_rows" 423 []:=d423.z;have F:ae P w K mg base 0 (Cl 0) "own_row" 424 []:=d424.z;have N:ae P w K mg base 0 (Cl 0) "_law_draw" 428 [0]:=d428.z;have Q:ae P w K mg base 0 (Cl 0) "_law_kind" 429 [0]:=d429.z;have c24:ae P w K mg base 0 (Cl 0) "_law_alike" 24 []:=d24.z;have v:ae P w K mg base 0 (Cl 0) "_law_shapes" 401 []:=d401.z;have I:ae P w K mg base 0 (Cl 0) "_law_leaf" 426 []:=d426.z;have Z:ae P w K mg base 0 (Cl 0) "_law_signed" 430 [0]:=d430.z
 ⟨i,k,l,m,d,e,g,o,p,r,t,u,x,y,D,F,N,Q,c24,v,I,Z,λ_=>rfl,λ_=>rfl⟩
|n+1=>
 have c:=all d364 d365 d366 d367 d175 d176 d233 d368 d369 d372 d373 d374 d421 d422 d423 d424 d428 d429 d24 d401 d426 d430  T G n;have i:ae P w K mg base (n+1) (Cl (n+1)) "kind_text" 364 []:=d364.s aS D7 (C:=Cl n) (by intro f b A a s H E h;exact@GH P w K mg base n (Cl n) f b A a s H E c T G h);have k:ae P w K mg base (n+1) (Cl (n+1)) "read_kind" 365 []:=d365.s bB DF (C:=Cl n) (by intro f b A a s H E h;exact@GA P w K mg base n (Cl n) f b A a s H E c T G h);have l:ae P w K mg base (n+1) (Cl (n+1)) "take_kind" 366 []:=d366.s bA FR (C:=Cl n) (by intro f b A a s H E h;exact@HG P w K mg base n (Cl n) f b A a s H E c T G h);have m:ae P w K mg base (n+1) (Cl (n+1)) "take_kind_within" 367 []:=d367.s au D1 (C:=Cl n) (by intro f b A a s H E h;exact@Hc P w K mg base n (Cl n) f b A a s H E c T G h);have d:ae P w K mg base (n+1) (Cl (n+1)) "parts_start" 175 []:=d175.s aT Fg (C:=Cl n) (by intro f b A a s H E h;exact@Hk P w K mg base n (Cl n) f b A a s H E c T G h);have e:ae P w K mg base (n+1) (Cl (n+1)) "parts" 176 []:=d176.s cR EO (C:=Cl n) (by intro f b A a s H E h;exact@GK P w K mg base n (Cl n) f b A a s H E c T G h);have g:ae P w K mg base (n+1) (Cl (n+1)) "binding" 233 []:=d233.s cq FD (C:=Cl n) (by intro f b A a s H E h;exact@Gh P w K mg base n (Cl n) f b A a s H E c T G h);have o:ae P w K mg base (n+1) (Cl (n+1)) "kinds_of" 368 []:=d368.s f_kinds_of Ew (C:=Cl n) (by intro f b A a s H E h;exact@F9 P w K mg base n (Cl n) f b A a s H E c T G h);have p:ae P w K mg base (n+1) (Cl (n+1)) "add_kinds" 369 [3]:=d369.s f_add_kinds Fc (C:=Cl n) (by intro f b A a s H E h;exact@GW P w K mg base n (Cl n) f b A a s H E c T G h);have r:ae P w K mg base (n+1) (Cl (n+1)) "own_kind" 372 []:=d372.s aL FT (C:=Cl n) (by intro f b A a s H E h;exact@F8 P w K mg base n (Cl n) f b A a s H E c T G h);have t:ae P w K mg base (n+1) (Cl (n+1)) "fitted" 373 []:=d373.s cK Dp (C:=Cl n) (by intro f b A a s H E h;exact@Hg P w K mg base n (Cl n) f b A a s H E c T G h);have u:ae P w K mg base (n+1) (Cl (n+1)) "kind_by" 374 []:=d374.s cf EW (C:=Cl n) (by intro f b A a s H E h;exact@GN P w K mg base n (Cl n) f b A a s H E c T G h);have x:ae P w K mg base (n+1) (Cl (n+1)) "laid" 421 []:=d421.s fO Fy (C:=Cl n) (by intro f b A a s H E h;exact@GQ P w K mg base n (Cl n) f b A a s H E c T G h);have y:ae P w K mg base (n+1) (Cl (n+1)) "rows_of" 422 []:=d422.s bc Eo (C:=Cl n) (by intro f b A a s H E h;exact@GJ P w K mg base n (Cl n) f b A a s H E c T G h);have D:ae P w K mg base (n+1) (Cl (n+1)) "part_rows" 423 []:=d423.s bC Ey (C:=Cl n) (by intro f b A a s H E h;exact@Hb P w K mg base n (Cl n) f b A a s H E c T G h);have F:ae P w K mg base (n+1) (Cl (n+1)) "own_row" 424 []:=d424.s bK DH (C:=Cl n) (by intro f b A a s H E h;exact@GS P w K mg base n (Cl n) f b A a s H E c T G h);have N:ae P w K mg base (n+1) (Cl (n+1)) "_law_draw" 428 [0]:=d428.s aZ Dq (C:=Cl n) (by intro f b A a s H E h;exact@Gr P w K mg base n (Cl n) f b A a s H E c T G h);have Q:ae P w K mg base (n+1) (Cl (n+1)) "_law_kind" 429 [0]:=d429.s bO Dk (C:=Cl n) (by intro f b A a s H E h;exact@Gy P w K mg base n (Cl n) f b A a s H E c T G h);have c24:ae P w K mg base (n+1) (Cl (n+1)) "_law_alike" 24 []:=d24.s az S24 (C:=Cl n) (by intro f b A a s H E h;exact@D24 P w K mg base n (Cl n) f b A a s H E c T G h);have v:ae P w K mg base (n+1) (Cl (n+1)) "_law_shapes" 401 []:=d401.s f_law_shapes Ej (C:=Cl n) (by intro f b A a s H E h;exact@Gn P w K mg base n (Cl n) f b A a s H E c T G h);have I:ae P w K mg base (n+1) (Cl (n+1)) "_law_leaf" 426 []:=d426.s bR C8 (C:=Cl n) (by intro f b A a s H E h;exact@GU P w K mg base n (Cl n) f b A a s H E c T G h);have Z:ae P w K mg base (n+1) (Cl (n+1)) "_law_signed" 430 [0]:=d430.s f_law_signed DO (C:=Cl n)<|by intro f b A a s H E h;exact@GD P w K mg base n (Cl n) f b A a s H E c T G h
 ⟨i,k,l,m,d,e,g,o,p,r,t,u,x,y,D,F,N,Q,c24,v,I,Z,λws=>M.zf_no _ ws,λws=>M.zf_no _ ws⟩
end
theorem pure_law:∀a:U j,a.length<=63->∃m bs,Cl 40 0 [(.d,.scr a)]=.ok ((m,.bl HV),bs):=λa _=>P47.pure_law a
theorem all_mk {l:Mf}{w:H8}{K:HX}{h:NX}{g:Str->B L}{fa:NM}(X:K.In h)(G:h.Ns Im g)(hfa:g "law"=Y (.ref fa))(r364:Raw K "kind_text" qO .none)(r365:Raw K "read_kind" pO .none)(r366:Raw K "take_kind" sF .none)(r367:Raw K "take_kind_within" ur .none)(r175:Raw K "parts_start" qo .none)(r176:Raw K "parts" qM .none)(r233:Raw K "binding" tQ .none)(r368:Raw K "kinds_of" qI .none)(r369:Raw K "add_kinds" tS .none)(r372:Raw K "own_kind" ph .none)(r373:Raw K "fitted" qe .none)(r374:Raw K "kind_by" qE .none)(r421:Raw K "laid" rM .none)(r422:Raw K "rows_of" rD .none)(r423:Raw K "part_rows" uu .none)(r424:Raw K "own_row" qz .none)(r428:Raw K "_law_draw" s9 .none)(r429:Raw K "_law_kind" ui .none)(r24:Raw K "_law_alike" s24 .none)(r401:Raw K "_law_shapes" sd .none)(r426:Raw K "_law_leaf" ud .none)(r430:Raw K "_law_signed" rf .none)(r0:Raw K "law" s0 .none)(g0:∃t,K3 K Im "DEEPEST"=Y (Y<|.int 5 t))(b:∃T,TabRaw K w "AHEAD_laid" T/\CstL K cI T)(a:∃T,TabRaw K w "AHEAD_trees" T/\T.map IV=keys_AHEAD_trees)(e:∃T,TabRaw K w "BINDING" T/\CstL K tab_BINDING T)(c:∃T,TabRaw K w "LEAVES" T/\T.map IV=keys_LEAVES/\CstL K tab_LEAVES T)(k:∃T,TabRaw K w "RULES" T/\CstL K tab_RULES T)(d:∃T,TabRaw K w "WITHIN" T/\T.map IV=keys_WITHIN/\CstL K tab_WITHIN T)(tx:Bp K ["isinstance","int","tuple","list","bool","sum","len","all","zip","range","enumerate","any","max","min","sorted","str","repr","abs","dict","set","reversed"]):
  ∃fd:Jg,(∀(s:HW) (v:L),JZ s fd ⟨[v],[]⟩ [("script",v)])/\∀x:NX,K.In x->x.Ns Im g->ee l.prog w K g x CX0 40 fa fd ["script"] (spS K (Cl 40) 0 []):=by
 have I:Df K g "kind_text" qO ["kind"]:=a8 X G r364 λ_ _ _ _ _ _=>u1 λ_=>rfl;have M:Df K g "read_kind" pO ["text"]:=a8 X G r365 λ_ _ _ _ _ _=>u1 λ_=>rfl;have N:Df K g "take_kind" sF ["words","at"]:=a8 X G r366 λ_ _ _ _ _ _=>u2 λ_ _=>rfl;have P:Df K g "take_kind_within" ur ["words","at","depth"]:=a8 X G r367 λ_ _ _ _ _ _=>u3 λ_ _ _=>rfl;have A:Df K g "parts_start" qo ["sign"]:=a8 X G r175 λ_ _ _ _ _ _=>u1 λ_=>rfl;have D:Df K g "parts" qM ["tree"]:=a8 X G r176 λ_ _ _ _ _ _=>u1 λ_=>rfl;have H:Df K g "binding" tQ ["tree"]:=a8 X G r233 λ_ _ _ _ _ _=>u1 λ_=>rfl;have Q:Df K g "kinds_of" qI ["program"]:=a8 X G r368 λ_ _ _ _ _ _=>u1 λ_=>rfl;have Z:Df K g "add_kinds" tS ["tree","place","names","told"]:=a8 X G r369 λ_ _ _ _ _ _=>u4 λ_ _ _ _=>rfl;have d372:Df K g "own_kind" ph ["tree","names","ins"]:=a8 X G r372 λ_ _ _ _ _ _=>u3 λ_ _ _=>rfl;have d373:Df K g "fitted" qe ["before","kinds"]:=a8 X G r373 λ_ _ _ _ _ _=>u2 λ_ _=>rfl;have d374:Df K g "kind_by" qE ["after","found"]:=a8 X G r374 λ_ _ _ _ _ _=>u2 λ_ _=>rfl;have d421:Df K g "laid" rM ["program"]:=a8 X G r421 λ_ _ _ _ _ _=>u1 λ_=>rfl;have d422:Df K g "rows_of" rD ["tree","place","kinds"]:=a8 X G r422 λ_ _ _ _ _ _=>u3 λ_ _ _=>rfl;have d423:Df K g "part_rows" uu ["tree","number","place","kinds"]:=a8 X G r423 λ_ _ _ _ _ _=>u4 λ_ _ _ _=>rfl;have d424:Df K g "own_row" qz ["tree","place","kinds"]:=a8 X G r424 λ_ _ _ _ _ _=>u3 λ_ _ _=>rfl;have d428:Df K g "_law_draw" s9 ["tape","many"]:=a8 X G r428 λ_ _ _ _ _ _=>u2 λ_ _=>rfl;have d429:Df K g "_law_kind" ui ["tape","left"]:=a8 X G r429 λ_ _ _ _ _ _=>u2 λ_ _=>rfl;have d24:Df K g "_law_alike" s24 ["due","found"]:=a8 X G r24 λ_ _ _ _ _ _=>u2 λ_ _=>rfl;have d401:Df K g "_law_shapes" sd ["one","other"]:=a8 X G r401 λ_ _ _ _ _ _=>u2 λ_ _=>rfl;have d426:Df K g "_law_leaf" ud ["piece","sign","kind"]:=a8 X G r426 λ_ _ _ _ _ _=>u3 λ_ _ _=>rfl;have d430:Df K g "_law_signed" rf ["tape","sign","kinds","kind"]:=a8 X G r430 λ_ _ _ _ _ _=>u4 λ_ _ _ _=>rfl;have T:=zg X G tx;obtain⟨_,b,m⟩:=b;obtain⟨_,a,i⟩:=a;obtain⟨_,e,n⟩:=e;obtain⟨_,c,r,o⟩:=c;obtain⟨_,k,y⟩:=k;obtain⟨_,d,u,p⟩:=d;have Gm:Glb K w g:=⟨(let ⟨t,z⟩:=g0;⟨t,Lm X G z⟩),(dS X G b m),(jm X G a i),(dS X G e n),(jm X G c r),(dS X G c o),(dS X G k y),(jm X G d u),(dS X G d p)⟩;exact vG X G hfa r0 (λ_ _ _ _ _ _ _ _=>.of_eq rfl) λf fd F x=>Fun.okM F S0 rfl (by decide) (by decide) (by decide) (λ_ _ _ _ _ _ h=>D0 (all I M N P A D H Q Z d372 d373 d374 d421 d422 d423 d424 d428 d429 d24 d401 d426 d430  T Gm 39) T Gm h) λ_=>rfl
end A47

set_option maxHeartbeats 0
namespace H47
open PySem PySem.W TP
noncomputable abbrev pr:NQ:=PySem.Challenge.pw_broadrow_k47_rows_of_pieces_without_rows
def tn (i:O):N4:=pr.main.body.getD i<|.Pass p0
def rc:U Rc:=[.m,
.x "BroadError" 206 (.ref 24) (λP=>[tu [.type "ValueError"],⟨.type "builtin_function_or_method",J,.fields #[.builtin "type.__prepare__",.type "type"],#[]⟩,di [en P "__module__" 196<|.str "broadrow.errors" 187,en P "__qualname__" 198<|.str "BroadError" 197,en P "__firstlineno__" 200<|.int (2) 199,en P "__static_attributes__" 201<|.ref 22] 4,tu [],fe [],cdo "BroadError" "BroadError" 191 194 2 0 0 18 HU .none .none .none,⟨.type "frame",J,.plain,#[Y<|.ref 20,Y<|.ref 3,Y<|.ref 17,J,Y<|.str "broadrow.errors" 187,J,Y<|.ref 0]⟩,tu [],di [en P "__module__" 196<|.str "broadrow.errors" 187,en P "__firstlineno__" 200<|.int (2) 199,en P "__static_attributes__" 201<|.ref 22,en P "__weakref__" 203<|.ref 25,en P "__doc__" 204 .none] 3,⟨.type "type",J,.cls {name:="BroadError",bases:=[.type "ValueError"],mro:=[.ref 24,.type "ValueError",.type "Exception",.type "BaseException",.type "object"],ns:=23,qualname:="BroadError",subclasses:=[.ref 44,.ref 63]},#[Y<|.ref 15,J,Y<|.str "BroadError" 189,Y<|.str "BroadError" 197,Y<|.builtin "ValueError.__new__",Y<|.bool HV]⟩,⟨.type "getset_descriptor",J,.fields #[.str "__weakref__" 202,.ref 24,.builtin "ExceptionGroup.__weakref__",.none],#[]⟩,⟨.type "super",J,.fields #[.ref 24,.ref 24,.ref 24],#[]⟩,⟨.type "builtin_function_or_method",J,.fields #[.builtin "object.__init_subclass__",.ref 24],#[]⟩]) [iv 2,iv 0,.ref 20] 28 207,
.x "NoText" 231 (.ref 44) (λP=>[tu [.ref 24],⟨.type "builtin_function_or_method",J,.fields #[.builtin "type.__prepare__",.type "type"],#[]⟩,di [en P "__module__" 214<|.str "broadrow.errors" 187,en P "__qualname__" 216<|.str "NoText" 215,en P "__firstlineno__" 218<|.int (4) 217,en P "__init__" 226<|.ref 41,en P "__static_attributes__" 228<|.ref 42] 5,tu [],fe [iv 6,iv 4,.ref 40],cdo "NoText" "NoText" 209 212 4 0 0 31 HU .none .none .none,⟨.type "frame",J,.plain,#[Y<|.ref 33,Y<|.ref 3,Y<|.ref 30,J,Y<|.str "broadrow.errors" 187,J,Y<|.ref 0]⟩,tu [],fe [],tu [.str "self" 222,.str "at" 223],tu [],ofn .none (cb (tn 2) 0) "NoText.__init__" 0 .none .none .none,cdo "__init__" "NoText.__init__" 219 224 6 2 3 35 HV (.ref 37) (.ref 38)<|.ref 39,ofn (.type "function") (cb (tn 2) 0) "NoText.__init__" 3 .none (.str "broadrow.errors" 187)<|.ref 40,tu [.str "at" 227],di [en P "__module__" 214<|.str "broadrow.errors" 187,en P "__firstlineno__" 218<|.int (4) 217,en P "__init__" 226<|.ref 41,en P "__static_attributes__" 228<|.ref 42,en P "__doc__" 229 .none] 2,⟨.type "type",J,.cls {name:="NoText",bases:=[.ref 24],mro:=[.ref 44,.ref 24,.type "ValueError",.type "Exception",.type "BaseException",.type "object"],ns:=43,qualname:="NoText"},#[Y<|.ref 28,J,Y<|.str "NoText" 207,Y<|.str "NoText" 215,Y<|.builtin "ValueError.__new__",Y<|.bool HV]⟩,⟨.type "super",J,.fields #[.ref 44,.ref 44,.ref 44],#[]⟩,⟨.type "builtin_function_or_method",J,.fields #[.builtin "object.__init_subclass__",.ref 44],#[]⟩]) [iv 4,iv 0,.ref 33] 47 232,
.x "NoKind" 256 (.ref 63) (λP=>[tu [.ref 24],⟨.type "builtin_function_or_method",J,.fields #[.builtin "type.__prepare__",.type "type"],#[]⟩,di [en P "__module__" 239<|.str "broadrow.errors" 187,en P "__qualname__" 241<|.str "NoKind" 240,en P "__firstlineno__" 243<|.int (9) 242,en P "__init__" 251<|.ref 60,en P "__static_attributes__" 253<|.ref 61] 5,tu [],fe [iv 11,iv 4,.ref 59],cdo "NoKind" "NoKind" 234 237 9 0 0 50 HU .none .none .none,⟨.type "frame",J,.plain,#[Y<|.ref 52,Y<|.ref 3,Y<|.ref 49,J,Y<|.str "broadrow.errors" 187,J,Y<|.ref 0]⟩,tu [],fe [],tu [.str "self" 247,.str "place" 248],tu [],ofn .none (cb (tn 3) 0) "NoKind.__init__" 0 .none .none .none,cdo "__init__" "NoKind.__init__" 244 249 11 2 3 54 HV (.ref 56) (.ref 57)<|.ref 58,ofn (.type "function") (cb (tn 3) 0) "NoKind.__init__" 3 .none (.str "broadrow.errors" 187)<|.ref 59,tu [.str "place" 252],di [en P "__module__" 239<|.str "broadrow.errors" 187,en P "__firstlineno__" 243<|.int (9) 242,en P "__init__" 251<|.ref 60,en P "__static_attributes__" 253<|.ref 61,en P "__doc__" 254 .none] 2,⟨.type "type",J,.cls {name:="NoKind",bases:=[.ref 24],mro:=[.ref 63,.ref 24,.type "ValueError",.type "Exception",.type "BaseException",.type "object"],ns:=62,qualname:="NoKind"},#[Y<|.ref 47,J,Y<|.str "NoKind" 232,Y<|.str "NoKind" 240,Y<|.builtin "ValueError.__new__",Y<|.bool HV]⟩,⟨.type "super",J,.fields #[.ref 63,.ref 63,.ref 63],#[]⟩,⟨.type "builtin_function_or_method",J,.fields #[.builtin "object.__init_subclass__",.ref 63],#[]⟩]) [iv 9,iv 0,.ref 52] 66 257,
.m,
.c,
.x "WITHIN" 273 (.ref 66) (λP=>[di [en P "num" 261<|.int (0) 262,en P "truth" 263<|.int (0) 264,en P "pair" 265<|.int (2) 266,en P "row" 267<|.int (1) 268] 4]) [] 67 274,
.d,
.d,
.d,
.d,
.m,
.x "AHEAD_trees" 331 (.ref 93) (λP=>[di [en P "num" 313<|.str "number" 314,en P "name" 315<|.str "name" 316,en P "none" 317<|.str "kind" 318,en P "let" 319<|.str "name" 320,en P "each" 321<|.str "name" 322,en P "times" 323<|.str "name" 324] 6]) [] 94 332,
.x "BINDING" 341 (.ref 94) (λP=>[di [en P "let" 332<|.int (1) 333,en P "each" 334<|.int (1) 335,en P "times" 336<|.int (2) 337] 3]) [] 95 342,
.d,
.d,
.d,
.d,
.d,
.m,
.x "LEAVES" 394 (.ref 130) (λP=>[di [en P "num" 385<|.ref 131,en P "yes" 387<|.ref 132,en P "no" 389<|.ref 133] 3,tu [.str "num" 386],tu [.str "truth" 388],tu [.str "truth" 390]]) [] 134 395,
.x "RULES" 505 (.ref 134) (λP=>[di [en P "not" 395<|.ref 136,en P "first" 399<|.ref 138,en P "second" 403<|.ref 140,en P "one" 407<|.ref 142,en P "upto" 411<|.ref 144,en P "long" 415<|.ref 146,en P "sum" 419<|.ref 148,en P "sums" 423<|.ref 150,en P "most" 427<|.ref 152,en P "flat" 431<|.ref 154,en P "add" 435<|.ref 156,en P "sub" 439<|.ref 158,en P "mul" 443<|.ref 160,en P "div" 447<|.ref 162,en P "rest" 451<|.ref 164,en P "less" 455<|.ref 166,en P "same" 459<|.ref 169,en P "both" 465<|.ref 172,en P "pair" 468<|.ref 174,en P "pick" 471<|.ref 176,en P "join" 474<|.ref 178,en P "keep" 477<|.ref 180,en P "cut" 480<|.ref 182,en P "let" 483<|.ref 184,en P "if" 486<|.ref 186,en P "each" 489<|.ref 188,en P "times" 492<|.ref 190] 27,tu [.str "truth" 396,.str "truth" 397],tu [.ref 135],tu [.str "pair K L" 400,.str "K" 401],tu [.ref 137],tu [.str "pair K L" 404,.str "L" 405],tu [.ref 139],tu [.str "K" 408,.str "row K" 409],tu [.ref 141],tu [.str "num" 412,.str "row num" 413],tu [.ref 143],tu [.str "row K" 416,.str "num" 417],tu [.ref 145],tu [.str "row num" 420,.str "num" 421],tu [.ref 147],tu [.str "row num" 424,.str "row num" 425],tu [.ref 149],tu [.str "row num" 428,.str "num" 429],tu [.ref 151],tu [.str "row row K" 432,.str "row K" 433],tu [.ref 153],tu [.str "num num" 436,.str "num" 437],tu [.ref 155],tu [.str "num num" 440,.str "num" 441],tu [.ref 157],tu [.str "num num" 444,.str "num" 445],tu [.ref 159],tu [.str "num num" 448,.str "num" 449],tu [.ref 161],tu [.str "num num" 452,.str "num" 453],tu [.ref 163],tu [.str "num num" 456,.str "truth" 457],tu [.ref 165],tu [.str "num num" 460,.str "truth" 461],tu [.str "truth truth" 462,.str "truth" 463],tu [.ref 167,.ref 168],di [en P "both" 465<|.ref 172,en P "pair" 468<|.ref 174,en P "pick" 471<|.ref 176,en P "join" 474<|.ref 178,en P "keep" 477<|.ref 180,en P "cut" 480<|.ref 182,en P "let" 483<|.ref 184,en P "if" 486<|.ref 186,en P "each" 489<|.ref 188,en P "times" 492<|.ref 190] 10,tu [.str "truth truth" 466,.str "truth" 467],tu [.ref 171],tu [.str "K L" 469,.str "pair K L" 470],tu [.ref 173],tu [.str "row K num" 472,.str "K" 473],tu [.ref 175],tu [.str "row K row K" 475,.str "row K" 476],tu [.ref 177],tu [.str "row K row truth" 478,.str "row K" 479],tu [.ref 179],tu [.str "row K row num" 481,.str "row row K" 482],tu [.ref 181],tu [.str "K L" 484,.str "L" 485],tu [.ref 183],tu [.str "truth K K" 487,.str "K" 488],tu [.ref 185],tu [.str "row K L" 490,.str "row L" 491],tu [.ref 187],tu [.str "num K K" 493,.str "K" 494],tu [.ref 189]]) [] 191 506,
.d,
.d,
.d,
.d,
.d,
.d,
.d,
.m,
.d,
.m,
.x "AHEAD_laid" 601 (.ref 243) (λP=>[di [en P "if" 592<|.int (1) 593,en P "each" 594<|.int (1) 595,en P "times" 596<|.int (2) 597] 3]) [] 244 602,
.d,
.d,
.d,
.d,
.d,
.m,
.d,
.d,
.d,
.d,
.d,
.d,
.d]
theorem c0 (w:H8):Cut pr rc 0 15 187 p0 1 10 15 189 ⟨1,0,1,8⟩ w:=λo=>by kernel_rfl
theorem c1 (w:H8):Cut pr rc 1 15 189 ⟨1,0,1,8⟩ 3 677 66 257 ⟨9,0,13,26⟩ w:=λo=>by kernel_rfl
theorem c4 (w:H8):Cut pr rc 4 66 257 ⟨9,0,13,26⟩ 2 19 66 261 ⟨15,0,15,7⟩ w:=λo=>by kernel_rfl
theorem c6 (w:H8):Cut pr rc 6 66 261 ⟨15,0,15,7⟩ 1 71 67 274 ⟨16,0,16,6⟩ w:=OQ (P:=Cut pr rc 6 66 261 ⟨15,0,15,7⟩ 1 71 67 274 ⟨16,0,16,6⟩) "special-get-raises" (λw o=>by kernel_rfl) (λw o=>by kernel_rfl) w
theorem c7 (w:H8):Cut pr rc 7 67 274 ⟨16,0,16,6⟩ 5 133 93 313 ⟨40,0,40,8⟩ w:=λo=>by kernel_rfl
theorem c12 (w:H8):Cut pr rc 12 93 313 ⟨40,0,40,8⟩ 1 101 94 332 ⟨41,0,41,11⟩ w:=OQ (P:=Cut pr rc 12 93 313 ⟨40,0,40,8⟩ 1 101 94 332 ⟨41,0,41,11⟩) "special-get-raises" (λw o=>by kernel_rfl) (λw o=>by kernel_rfl) w
theorem c13 (w:H8):Cut pr rc 13 94 332 ⟨41,0,41,11⟩ 1 56 95 342 ⟨42,0,42,7⟩ w:=OQ (P:=Cut pr rc 13 94 332 ⟨41,0,41,11⟩ 1 56 95 342 ⟨42,0,42,7⟩) "special-get-raises" (λw o=>by kernel_rfl) (λw o=>by kernel_rfl) w
theorem c14 (w:H8):Cut pr rc 14 95 342 ⟨42,0,42,7⟩ 6 161 130 385 ⟨59,0,59,8⟩ w:=λo=>by kernel_rfl
theorem c20 (w:H8):Cut pr rc 20 130 385 ⟨59,0,59,8⟩ 1 62 134 395 ⟨60,0,60,6⟩ w:=OQ (P:=Cut pr rc 20 130 385 ⟨59,0,59,8⟩ 1 62 134 395 ⟨60,0,60,6⟩) "special-get-raises" (λw o=>by kernel_rfl) (λw o=>by kernel_rfl) w
theorem c21 (w:H8):Cut pr rc 21 134 395 ⟨60,0,60,6⟩ 1 622 191 506 ⟨61,0,61,5⟩ w:=OQ (P:=Cut pr rc 21 134 395 ⟨60,0,60,6⟩ 1 622 191 506 ⟨61,0,61,5⟩) "special-get-raises" (λw o=>by kernel_rfl) (λw o=>by kernel_rfl) w
theorem c22 (w:H8):Cut pr rc 22 191 506 ⟨61,0,61,5⟩ 10 273 243 592 ⟨130,0,130,8⟩ w:=λo=>by kernel_rfl
theorem c32 (w:H8):Cut pr rc 32 243 592 ⟨130,0,130,8⟩ 1 56 244 602 ⟨131,0,131,10⟩ w:=OQ (P:=Cut pr rc 32 243 592 ⟨130,0,130,8⟩ 1 56 244 602 ⟨131,0,131,10⟩) "special-get-raises" (λw o=>by kernel_rfl) (λw o=>by kernel_rfl) w
theorem c33 (w:H8):Cut pr rc 33 244 602 ⟨131,0,131,10⟩ 13 380 320 718 ⟨235,0,257,58⟩ w:=λo=>by kernel_rfl
theorem ch:Ch pr rc 46 320 718 0 15 187 p0 (10+(677+(19+(71+(133+(101+(56+(161+(62+(622+(273+(56+(380+(2)))))))))))))):=a6 c0<|a6 c1<|a6 c4<|a6 c6<|a6 c7<|a6 c12<|a6 c13<|a6 c14<|a6 c20<|a6 c21<|a6 c22<|a6 c32<|a6 c33<|BO<|by kernel_rfl
def q:NQ:=view pr [45]
noncomputable def lo:U Str:=(["BroadError","NoText","NoKind","DEEPEST","WITHIN","kind_text","read_kind","take_kind","take_kind_within","AHEAD_trees","BINDING","parts_start","parts","binding","free_names","add_free","LEAVES","RULES","kinds_of","add_kinds","with_bound","bound_kind","own_kind","fitted","kind_by","brought_names","AHEAD_laid","laid","rows_of","part_rows","own_row","inner","_law_draw","_law_kind","_law_alike","_law_shapes","_law_leaf","_law_signed"]:U NU).map Str.ofString
noncomputable def as:U NM:=[3,24,44,63,66,70,71,77,78,84,85,91,92,93,94,100,101,107,108,114,115,121,122,128,129,130,131,132,133,134,135,136,137,138,139,140,141,142,143,144,145,146,147,148,149,150,151,152,153,154,155,156,157,158,159,160,161,162,163,164,165,166,167,168,169,171,172,173,174,175,176,177,178,179,180,181,182,183,184,185,186,187,188,189,190,196,197,203,204,210,211,217,218,224,225,231,232,236,237,241,242,243,249,250,256,257,263,264,268,269,275,276,282,283,289,290,294,295,299,300,306,307,311,312,318,319]
def K:II->Frag:=kK pr rc 46 as
def hk:Hook:=hkk pr rc 46 320
abbrev Xt (s:HW):NN:=xlAt q [] s&&recOk (RowW.records<|OpenRow.toRowW<|OpenLaw.row PySem.Challenge.rw_broadrow_k47_rows_of_pieces_without_rows) s
theorem kin (w:H8)(h:NX)(a:hk.says w h):(K w.params).In h:=Hf (by kernel_rfl) (by kernel_rfl) a
theorem lk (w:H8):(λo=>((staticsOk (Le pr.main.body) (Jj w.params) (hp pr rc 46 320 w.params)&&namesBound pr (hp pr rc 46 320 w.params)&&gensDone ⟨hp pr rc 46 320 w.params,#[],{},718,o⟩&&laidKept (Jj w.params) (hp pr rc 46 320 w.params)),openSeen q lo (Le pr.main.body) Xt HV ⟨hp pr rc 46 320 w.params,#[],{},718,o⟩,Hook.obs hk ⟨hp pr rc 46 320 w.params,#[],{},718,o⟩))=λ_=>(HV,openGood q lo,Hook.val hk w):=by kernel_rfl
theorem e1:opening pr=plainProg pr.main.scope.names:=by kernel_rfl
theorem e2:KQ pr=pr.main.body:=by kernel_rfl
theorem e3 (s:HW):fenceModules? pr s=Y s:=by kernel_rfl
theorem pre (w:H8)(o:OG):topGo J2 pr w 11 an 12 ⟨Jj w.params,Lk [],boot_drawn,boot_toks,o⟩ (topStub pr)=Y ((sT pr rc w.params 0 15 187 o).abs,⟨denote J2<|cE pr,cE pr,p0,B0⟩):=by kernel_rfl
theorem blk (w:H8)(o:OG):segRun J2 pr w 11 an 1 1 (sT pr rc w.params 0 15 187 o).abs (blockOf (KQ pr) (ev pr) (cE pr) p0 B0)=Y (.next,(sT pr rc w.params 0 15 187 o).abs,cE pr,p0):=by kernel_rfl
theorem left:LeftO pr q lo Xt (Hook.obs hk) (Hook.val hk) 5342:=xQ e1 (by kernel_rfl) e3 e2 vt pre blk ch (by kernel_rfl) lk
end H47

set_option maxHeartbeats 4000000
open PySem PySem.W PyProof.Rows
set_option maxRecDepth 100000 in
set_option maxHeartbeats 0 in
theorem PySem.Challenge.cw_broadrow_k47_rows_of_pieces_without_rows_holds : PySem.Challenge.rw_broadrow_k47_rows_of_pieces_without_rows.Holds := by
 w_on; refine holds_law (by kernel_rfl) fun said=>?_
 refine holds_open (q:=H47.q) (loose:=H47.lo) (Xt:=H47.Xt) (XP:=XL H47.q []) (Yf:=Hook.obs H47.hk) (Ya:=Hook.val H47.hk) (YP:=Hook.says H47.hk) (N:=5342) (d:=TP.drec (H47.tn 45)) (kwd:=[]) H47.left (Hook.of H47.hk) (Hook.keeps H47.hk) (fun s e=>xl_of s (IK.mp e).1) XL.keeps (by kernel_rfl) (by kernel_rfl) (by kernel_rfl) (fun s e=>recFacts_of (IK.mp e).2) (by rfl) (by first | assumption | decide +kernel) (by decide +kernel) ⟨rfl,rfl,rfl,rfl,rfl,by decide +kernel⟩ ?hw ?hc
 case hw=>w_witness2
 refine MR.walkX (sx:="script") (l:=PySem.Challenge.rw_broadrow_k47_rows_of_pieces_without_rows) (k:=40) (C:=A47.Cl 40) (ix:=0) (K:=H47.K) A47.pure_law rfl (by kernel_rfl) ⟨rfl,by decide,by decide,rfl⟩ H47.kin ?F
 case F =>
  intro w mg fa h KX G hmg
  refine' A47.all_mk KX G hmg ?zr364 ?zr365 ?zr366 ?zr367 ?zr175 ?zr176 ?zr233 ?zr368 ?zr369 ?zr372 ?zr373 ?zr374 ?zr421 ?zr422 ?zr423 ?zr424 ?zr428 ?zr429 ?zr24 ?zr401 ?zr426 ?zr430 ?zr0 ?zg0 ?zq_AHEAD_laid ?zq_AHEAD_trees ?zq_BINDING ?zq_LEAVES ?zq_RULES ?zq_WITHIN ?ztx
  case zg0=>exact ⟨TP.tkO (nsIn (H47.K w.params) mainGlobals "DEEPEST"),by kernel_rfl⟩
  case zq_AHEAD_laid=>exact ⟨_,TP.tab_mk (by kernel_rfl) (by kernel_rfl) (by kernel_rfl) (by kernel_rfl),TP.cst_of (n:=9) (by kernel_rfl)⟩
  case zq_AHEAD_trees=>exact ⟨_,TP.tab_mk (by kernel_rfl) (by kernel_rfl) (by kernel_rfl) (by kernel_rfl),by kernel_rfl⟩
  case zq_BINDING=>exact ⟨_,TP.tab_mk (by kernel_rfl) (by kernel_rfl) (by kernel_rfl) (by kernel_rfl),TP.cst_of (n:=9) (by kernel_rfl)⟩
  case zq_LEAVES=>exact ⟨_,TP.tab_mk (by kernel_rfl) (by kernel_rfl) (by kernel_rfl) (by kernel_rfl),by kernel_rfl,TP.cst_of (n:=9) (by kernel_rfl)⟩
  case zq_RULES=>exact ⟨_,TP.tab_mk (by kernel_rfl) (by kernel_rfl) (by kernel_rfl) (by kernel_rfl),TP.cst_of (n:=9) (by kernel_rfl)⟩
  case zq_WITHIN=>exact ⟨_,TP.tab_mk (by kernel_rfl) (by kernel_rfl) (by kernel_rfl) (by kernel_rfl),by kernel_rfl,TP.cst_of (n:=9) (by kernel_rfl)⟩
  case ztx=>refine' ⟨?_,?_,?_,?_,?_,?_,?_,?_,?_,?_,?_,?_,?_,?_,?_,?_,?_,?_,?_,?_,?_,trivial⟩<;>kernel_rfl
  all_goals exact TP.raw_mk (by kernel_rfl) (by kernel_rfl) (by kernel_rfl) (by kernel_rfl)
