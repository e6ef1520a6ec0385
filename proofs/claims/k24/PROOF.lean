import PyProof.Rows.All
import Wide.All
import OpenK.AllK
import Wide.FinOn
import Lean
import PyProof.EqAt
import PyProof.EqKinds
import PyProof.TupleCall
import PyProof.ExcInit
import PyProof.ExcClass3
import PyProof.ExcBaseAll.ValueError
import PyProof.StationsW
import PyProof.FString
import PyProof.Rows.FStr
import PyProof.NsDelKeeps
import PyProof.RulesAs
import PyProof.ExcArgs
import PySem.Str
import PySem.Builtin.Str.Common
import PyProof.ReprReads
import PyProof.Rows.Range3
import PyProof.P3Eq
import PyProof.TableCode
import PySem.Challenge.RW_broadrow_k24_askers_own
noncomputable section
open _root_ renaming List → U, Nat → O, Option → B, Int → I
open Option renaming some → Y, none → J
open PySem renaming Value → L
open PySem renaming Addr → IY, Program → I9, wpAny → Ja, Expr → Je, Heap → Jf, Stmt → Jj, eval → Jl, DictEntry → Jp, IsPair → Js, Scope → Jt, wpAny_letOwnedTupleGo_enum → Jv, valueAt → JB, seq_tuple_add → JC, wpAny_standAt → JE, comprehension → JF, GenState → JH, concat_meets → JI, wpAny_typeOf → JJ, ZipApart → JK, OsState → JL, isTrue → JM, rawInt → JN, cLine → JO, atKey → JP, bindL → JS, bindC → JT, field → JU
open _root_ renaming Bool → IZ, decide_eq_true → I0, absurd → Jb, if_pos → Jc, if_neg → Jd, decide_eq_true_eq → Jg, False → Jh, of_decide_eq_true → Ji, congrArg → Jk, String → Jm, decide_eq_false → Jn, Array → Jo, or_false → Jq, beq_self_eq_true → Jr, Inhabited → Ju, DecidableEq → Jw, beq_false_of_ne → Jy, if_true → JA, True → JR
open PyProof.Rows renaming subscriptTail_builtinR → Jx, IsTup → Jz, subscriptTail → JD, IntsAre → JQ
open PySem.W renaming nsIn → JG, byRow2 → JV
open Option renaming some → DV, none → DW
open Bool renaming false → DX, true → DY
open PySem renaming wpAny_bind → D2, Shared → DZ, starEach → D5, wpAny_pure → D6, World → D3, model → D4, mainGlobals → D8, Around → D9, wpAny_mono → Ej, foldedSetIterable → E2, wpAny_field → EH, swapsWith → EF, wpAny_pyIter_tuple → Ft, FuncData → Ey, Params → Ei, sysModules → EK, backTo → En, wpAny_callSpecial?_slot → FX, lookup_relabel_local → FW, wpAny_newObj_type → FH, compareOp → ET, wpAny_seqItems → Fq, wpAny_setField_rec → F5, bootBuiltins → Fw, binaryOp → E1, wpAny_call_entry → F4, letOwnedTupleGo → F3, wpAny_truthy_bool → Gs, wpAny_pyIter_list → Gr, IsZip → EA, closureFor → Fv, behindInMarks → FZ, sliceBounds → FI, wpAny_passesOwn → Gp, wpAny_Call_Name_kw → GN, treeTable → Fu, codeAny → E7, getItem → E6, wpAny_pyIter_enum → GL, attributeBase → Gk, wpAny_execs_nil → GK, assignEach → FY, IsPart → E5, wpAny_updateSeq_pair → G8, importedModules → GJ, BindsTo → Fy, callerA → Fx, assign → Fg, pyNext → Ff, wpAny_onRaise → GQ, ExceptHandler → GP, wpAny_rule → Gu, relabel → FJ, codeAny_mono → GO, noFill_tuple_add → G9, tupleKind → Gj, sizeLine_eq → GI, subscripted → GH
open PySem.W renaming boot_heap → ES, behindTheImports → Gq
open PyProof.Rows renaming envOfC → EZ, AllBare → Fe
open PySem.W renaming Frag → D1, findIn → EG, kia_one → EX, emptyDict → Fo, keepIn → Fb, fnOf → E4, instObj → FG, kitOne → FP, hasDictIn → Gy, mg_of → FO, nsIn → FL, callWith_K → Ht, codeIn → GZ, methodObj → Hr, kitx_list → Hq, plainGet → HD, cellsFrom_some → II, takerIn → Hg, OpenLaw → Hf, lookIn → Hd, kitx_tuple → HR, plainOver → HP, specialIn → HN, kitx_dict → HM, handedIn → HJ, makesIn → Ip, takesIn → Io, KeysLit → Im, mroIn → Ie, WalkO → Ic, subIn → Ia
open List renaming length_map → Ea, mem_cons_of_mem → Em, length_cons → Ef, mem_append_right → Et, mem_cons_self → Ek, length_append → Er, size_toArray → Ep, mem_cons → Ee, getElem?_eq_some_iff → EM, drop_succ_cons → Ez, range → Eb, replicate → Eu, map_cons → Eo, take_succ_cons → EL, not_mem_nil → ED, drop_zero → Ex, getElem?_cons_succ → E8, getElem?_map → ER, any_cons → EE, append_nil → EW, length_replicate → FF, take_zero → EV, getElem?_append_right → Gf, lookup_cons → Fc, any_nil → EU, filterMap_cons → FR, getElem?_append_left → GC, nodup_cons → Fm, mem_append_left → Ge, getElem?_set_ne → Gb, length_range → FV, mem_singleton → Gh, mem_of_getElem? → GF, find?_cons → FU, length_nil → FT, getElem?_eq_getElem → GY, all_eq_true → F8, length_singleton → GU, map_nil → FA, length_take → Gx, mem_map → FN, mem_append → Gv, getElem?_replicate → Hk, getElem?_cons_zero → Hy, nil_append → GB, getElem?_set_self → Hx, lookup → FQ, append_assoc → G7, drop_length → G6, of_mem_zip → G5, getElem?_range → Hv, replicate_succ → Hu, getD_eq_getElem?_getD → IH, mem_range → G0, drop_eq_getElem_cons → IF, length_drop → Hz, length_set → He, map_congr_left → HV, mem_filterMap → HU, zipIdx_cons → HF, take_length → Ir, mem_filter → Iq, forIn_cons → Il, zipIdx_nil → Ij, forIn_nil → Ih, take_nil → H9, drop_nil → H8, map_map → IC, map_id' → IB, length → Iz, map_id → Iw
open Nat renaming le_refl → D7, lt_of_lt_of_le → Es, le_trans → Ed, ne_of_lt → Eh, le_of_ble_eq_true → Fd, zero_le → EJ, lt_of_le_of_lt → FE, ne_of_gt → Fi, succ_le_succ → F7, le_add_right → Gw, lt_irrefl → F6, le_of_lt → GA, zero_add → Gz, lt_of_succ_lt → HL, le_succ_of_le → HK, add_comm → Ha, lt_succ_self → HI, le_of_not_lt → HG, succ_ne_self → Iv, not_lt_zero → Ii, le_of_eq → HX, sub_self → IA
open Bool renaming and_eq_true_iff → El, and_eq_true → Ew, false_ne_true → EI, or_false → EO, bne_false → E9, false_or → Ib
open Option.some renaming inj → EC, injEq → HE
open PyProof.Rows renaming slot_tuple_getitem → Gg, callWith_type1 → GD, boot_tuple → GX, boot_list → GV, boot_isinstance → Hm, callWith_builtin1 → IP, boot_range → IS, boot_dict → IQ, eq_dataH → IW, ne_dataH → IV
open Or renaming inr → Ec, inl → Eg
open PySem renaming mem_of_lookup → Gi, NameKind → Hc, Within → Hb, reprText → Ig, call → Hh
open Option renaming map_eq_some_iff → GG, bind_eq_some_iff → GW, isSome_iff_exists → ID, toList_none → HQ, getD_none → HH, bind_some → Iu, toList → HZ
open False renaming elim → EY
open True renaming intro → E3
open Nat.succ renaming inj → Fz
open Ne renaming symm → EB
open Array renaming length_toList → GS, all_eq_true' → Hs, getElem?_eq_getElem → IE, getElem?_eq_none → HW, find?_toList → HS, mk → GR, toList → HY
open PySem.F renaming args_tuple_add_2 → Hl, entry_tuple_add → Hj, slot_tuple_add → Hw, slot_dict_getitem → IG, slot_list_append → IL, type_list_append → IK, plainAttrs_list → IJ
open Classical renaming em → F9
open Prod renaming snd → Fj, fst → FC
open Int renaming toNat_natCast → Ho
open And renaming left → FD
open Sum renaming inr → Fh, inl → FK
open Sum.inr renaming inj → Hi
open Prod.mk renaming inj → Iy
open PySem.W.Looks renaming here → IU
open PySem.Within renaming cons → IT
open List.Pairwise renaming nil → IM
set_option compiler.extract_closed false
set_option bootstrap.genMatcherCode false
set_option genSizeOf false
set_option genInjectivity false
set_option Elab.async false
set_option linter.all false
set_option maxRecDepth 100000
namespace L2
open PySem PySem.Spec PyProof.Rows
abbrev Key:=Sum I Str
noncomputable def gm:Key->L->IZ
|.inl k,v=>Value.isInt k v
|.inr x,v=>Value.isStrOf x v
noncomputable def C2 (w:D3):Key->I
|.inl k=>hashInt k
|.inr x=>hashStr w x
theorem aG:∀{k:Key} {v:L},gm k v=DY->(∃i t,k=FK i/\v=Value.int i t)\/(∃x t,k=Fh x/\v=Value.str x t)
|.inl i,v,h=>by obtain⟨t,e⟩:=Value.isInt_shape (k:=i) (v:=v) h;exact .inl ⟨i,t,rfl,e⟩
|.inr x,v,h=>by obtain⟨t,e⟩:=Value.isStrOf_shape (x:=x) (v:=v) h;exact .inr ⟨x,t,rfl,e⟩
theorem mJ (i:I)(t:Tok):gm (.inl i) (.int i t)=true:=by simp[gm,Value.isInt]
theorem m9 (x:Str)(t:Tok):gm (.inr x) (.str x t)=true:=by simp[gm,Value.isStrOf]
theorem yH (a b:I):decide ((FK a:Key)=FK b)=(a==b):=by
 by_cases e:a=b
 .subst e;simp
 .have h:¬ (FK a:Key)=FK b:=fun q=>e<|Sum.inl.inj q;rw[Jn h];exact(beq_eq_false_iff_ne.mpr e).symm
theorem xS (a b:Str):decide ((Fh a:Key)=Fh b)=decide (a=b):=by
 by_cases e:a=b
 .subst e;simp
 .have h:¬ (Fh a:Key)=Fh b:=fun q=>e<|Hi q;rw[Jn h,Jn e]
theorem xy (a:I)(b:Str):decide ((FK a:Key)=Fh b)=false:=Jn λq=>nomatch q
theorem xT (a:Str)(b:I):decide ((Fh a:Key)=FK b)=false:=Jn λq=>nomatch q
def aO (prog:I9)(w:D3):PySem.KeyKind prog w Key where
 is:=gm
 hash:=C2 w
 inj:=λv a b f d=>by
  rcases aG f with⟨i,t,rfl,rfl⟩|⟨x,t,rfl,rfl⟩
  .rcases aG d with ⟨j,u,rfl,e⟩ | ⟨y,u,rfl,e⟩
   .injection e with e1 _;rw[e1]
   .exact nomatch e
  .rcases aG d with ⟨j,u,rfl,e⟩ | ⟨y,u,rfl,e⟩
   .exact nomatch e
   .injection e with e1 _;rw[e1]
 byValue:=λk v h=>by rcases aG h with⟨i,t,rfl,rfl⟩|⟨x,t,rfl,rfl⟩<;>rfl
 pyHash:=λc h=>by
  rcases aG c with⟨i,t,rfl,rfl⟩|⟨x,t,rfl,rfl⟩
  .exact wpAny_pyHash_int h
  .exact wpAny_pyHash_str h
 eqBool:=λg c h=>by
  rcases aG g with⟨i,t,rfl,rfl⟩|⟨x,t,rfl,rfl⟩
  .rcases aG c with ⟨j,u,rfl,rfl⟩ | ⟨y,u,rfl,rfl⟩
   .rw[yH] at h;exact wpAny_eqBool_int h
   .rw[xy] at h;exact SeqAt.EqAt.int_str i t y u _ _ _ _ h
  .rcases aG c with ⟨j,u,rfl,rfl⟩ | ⟨y,u,rfl,rfl⟩
   .rw[xT] at h;exact SeqAt.EqAt.str_int x t j u _ _ _ _ h
   .rw[xS] at h;exact wpAny_eqBool_str h
 «strs»:=λk x t v h=>by
  rcases aG h with⟨i,u,rfl,e⟩|⟨y,u,rfl,e⟩
  .exact nomatch e
  .injection e with e1 _
   subst e1;cases v<;>rfl
theorem iO (prog:I9)(w:D3)(i:I)(t:Tok):(aO prog w).is (.inl i) (.int i t)=true:=mJ i t
theorem i4 (prog:I9)(w:D3)(x:Str)(t:Tok):(aO prog w).is (.inr x) (.str x t)=true:=m9 x t
set_option genInjectivity true
inductive V where
 |non|bl (b:IZ)|int (i:I)|str (x:Str)|byt (b:Jo UInt8)|flt (b:UInt64)|ref (a:IY)|ty (n:Jm)
 deriving Jw
set_option genInjectivity false
def RelV:V->L->Prop
|.non,u=>u=Value.none
|.bl b,u=>u=Value.bool b
|.int i,u=>∃t,u=Value.int i t
|.str x,u=>∃t,u=Value.str x t
|.byt b,u=>∃t,u=Value.bytes b t
|.flt b,u=>∃t,u=Value.float b t
|.ref a,u=>u=Value.ref a
|.ty n,u=>u=Value.type n
abbrev Vals:U V->U L->Prop:=Paired RelV
theorem Vals.length {b:U V}{a:U L}(r:Vals b a):b.length=a.length:=Paired.length r
theorem Vals.get:∀{b:U V} {a:U L} {i:O} {x:V},Vals b a->b[i]?=Y x->∃u,a[i]?=Y u/\RelV x u
|_,_,_,_,.nil,e=>by simp at e
|_,_,0,_,.cons r _,e=>by simp at e;subst e;exact⟨_,rfl,r⟩
|_,_,i+1,x,.cons _ t,e=>by obtain⟨u,c,d⟩:=Vals.get (i:=i) (x:=x) t (by simpa using e);exact⟨u,by simpa using c,d⟩
theorem Vals.append:∀{c d:U V} {a b:U L},Vals c a->Vals d b->Vals (c++d) (a++b)
|_,_,_,_,.nil,s=>s
|_,_,_,_,.cons r t,s=>.cons r<|Vals.append t s
theorem Vals.take:∀{b:U V} {a:U L} (n:O),Vals b a->Vals (b.take n) (a.take n)
|_,_,0,_=>.nil
|_,_,_+1,.nil=>.nil
|_,_,n+1,.cons r t=>.cons r<|Vals.take n t
theorem Vals.drop:∀{b:U V} {a:U L} (n:O),Vals b a->Vals (b.drop n) (a.drop n)
|_,_,0,r=>r
|_,_,_+1,.nil=>.nil
|_,_,n+1,.cons _ t=>Vals.drop n t
def RelO:B V->B L->Prop
|some v,Y u=>RelV v u
|none,J=>JR
|_,_=>Jh
def KV {a:Type}:U (a×V)->U (a×L)->Prop:=Paired λ(p:a×V) (q:a×L)=>p.1=q.1/\RelV p.2 q.2
def kV:Key->V
|.inl i=>.int i
|.inr x=>.str x
inductive HO where
 |lst (xs:U V)
 |tup (xs:U V)
 |dK (kvs:U (Key×V))|dT (kvs:U (U Key×V))
 |set (S:I->IZ) (n:O)
 |ins (C dx:IY) (fs:U (Str×V))
 |own (x:IY)
 |xd (fs:U (Str×V))
 |met (f x:IY)
 |rng (lo hi:I)
 |frz (o:Obj) (u:HO)
 |tbl (ps:Jo L)
 |ext (φ:Jf->Prop)
abbrev Hp:=IY->B HO
noncomputable def upd (H:Hp)(a:IY)(o:HO):Hp:=λb=>if b=a then Y o else H b
theorem ah {H:Hp}{a:IY}{o:HO}:upd H a o a=Y o:=by unfold upd;rw[Jc rfl]
theorem ag {H:Hp}{a b:IY}{o:HO}(h:b≠a):upd H a o b=H b:=by unfold upd;rw[Jd h]
theorem d9 {H:Hp}{a:IY}{o u:HO}:upd (upd H a o) a u=upd H a u:=by funext b;unfold upd;split<;>rfl
theorem A6 {H:Hp}{a b:IY}{o u:HO}(h:H a=Y o)(c:H b=Y u)(d:o≠u):a≠b:=by intro e;subst e;rw[h] at c;exact d<|EC c
theorem aD {H:Hp}{a b:IY}{o:HO}(h:H a=Y o)(c:H b=J):a≠b:=by intro e;subst e;rw[h] at c;cases c
section
variable (P:I9)(w:D3)
def ObjOk (H:Hp)(h:Jf)(a:IY):HO->Prop
|.lst d=>d.length<=sizeLine/\∃(b:U L) (n:O),Vals d b/\h.get? a=Y {cls:=.type "list",data:=.seq b.toArray n}
|.tup d=>d.length<=sizeLine/\∃b:U L,Vals d b/\Jz h a b.toArray
|.dK c=>c.length<=sizeLine/\(a==EK)=DX/\∃m,KV c m/\h.DictOf (aO P w) a m
| .dT c=>c.length<=sizeLine/\(a==EK)=DX/\∃ d:U (U Key×IY×L),
  Paired (λ(p:U Key×V) (q:U Key×IY×L)=>p.1=q.1/\H q.2.1=Y (.tup<|p.1.map kV)/\RelV p.2 q.2.2) c d /\
  ∃o j ep,h.get? a=Y o/\o.ExactDict/\o.data=.dict j ep/\j.toList=d.map (entryOfKey<|Gj<|aO P w)/\(d.map (·.1)).Nodup
|.set S n=>h.SetOf (intKind P w) a S n
| .ins C g fs=>H g=Y (.own a)/\fs.length<=1000/\g≠a/\h.get? a=Y (FG C g) /\
  ∃e,h.Ns1 g e/\(∀f,RelO (fs.lookup f)<|e f)/\Hb e (fs.map (·.1))
|.own _=>∃o,h.get? a=Y o
|.xd fs=>∃e,h.Ns1 a e/\∀f,RelO (fs.lookup f)<|e f
|.rng lo r=>∃t u v,h.get? a=Y {cls:=.type "range",data:=.fields #[.int lo t,.int r u,.int 1 v]}
|.frz o u=>h.get? a=Y o/\ObjOk H h a u
|.tbl s=>h.get? a=Y {cls:=.none,data:=.fields s}
|.met f x=>h.get? a=Y (Hr (.ref f)<|.ref x)
|.ext i=>i h/\(∃o,h.get? a=Y o)/\∀k l:Jf,i k->(∀o,k.get? a=Y o->l.get? a=Y o)->i l
def HOk (H:Hp)(h:Jf):Prop:=∀a o,H a=Y o->ObjOk P w H h a o
end
section
variable {P:I9}{w:D3}{H H':Hp}{h h':Jf}{a:IY}{o:HO}
theorem ObjOk.lt (x:ObjOk P w H h a o):a<h.objs.size:=by
 cases o with
 |lst c=>obtain⟨_,_,_,_,e⟩:=x;exact Heap.lt_size e
 |tup c=>obtain⟨_,_,_,p⟩:=x;exact p.lt
 |dK b=>obtain⟨_,_,_,_,o,_,_,e,_⟩:=x;exact Heap.lt_size e
 |dT b=>obtain⟨_,_,_,_,o,_,_,e,_⟩:=x;exact Heap.lt_size e
 |set S n=>obtain⟨o,_,_,_,e,_⟩:=x;exact Heap.lt_size e
 |ins C d fs=>obtain⟨_,_,_,e,_⟩:=x;exact Heap.lt_size e
 |own y=>obtain⟨_,e⟩:=x;exact Heap.lt_size e
 |xd fs=>obtain⟨_,⟨_,_,_,e,_⟩,_⟩:=x;exact Heap.lt_size e
 |rng lo g=>obtain⟨_,_,_,e⟩:=x;exact Heap.lt_size e
 |frz i u=>obtain⟨e,_⟩:=x;exact Heap.lt_size e
 |tbl j=>exact Heap.lt_size<|show h.get? a=Y _ from x
 |met f y=>exact Heap.lt_size<|show h.get? a=Y _ from x
 |ext k=>obtain⟨_,⟨_,e⟩,_⟩:=x;exact Heap.lt_size e
theorem Paired.mapP {e g:Type}{F G:e->g->Prop}:∀{c:U e} {d:U g},Paired F c d->(∀a b,F a b->G a b)->Paired G c d
|_,_,.nil,_=>.nil
|_,_,.cons r t,f=>.cons (f _ _ r)<|Paired.mapP t f
theorem ObjOk.stay (x:ObjOk P w H h a o)(k:∀b u,(b=a\/H b=Y (.own a))->h.get? b=Y u->h'.get? b=Y u)
  (ho:∀b,H b=Y (.own a)->H' b=Y (.own a)) (G:∀b l,H b=Y (.tup l)->H' b=Y (.tup l)):ObjOk P w H' h' a o:=by
 induction o with
 |lst l=>obtain⟨z,j,n,r,e⟩:=x;exact⟨z,j,n,r,k _ _ (.inl rfl) e⟩
 |tup l=>obtain⟨z,j,r,g,e,c⟩:=x;exact⟨z,j,r,g,k _ _ (.inl rfl) e,c⟩
 |dK m=>obtain⟨z,y,Q,r,g,i,ep,e,c⟩:=x;exact⟨z,y,Q,r,g,i,ep,k _ _ (.inl rfl) e,c⟩
 |dT m=>obtain⟨z,y,l,r,g,i,ep,e,c⟩:=x;exact⟨z,y,l,Paired.mapP r λp q z=>⟨z.1,G _ _ z.2.1,z.2.2⟩,g,i,ep,k _ _ (.inl rfl) e,c⟩
 |set S n=>obtain⟨g,i,ep,t,e,c⟩:=x;exact⟨g,i,ep,t,k _ _ (.inl rfl) e,c⟩
 |ins C Z fs=>obtain⟨d,z,N,e,s,⟨A,i,ep,e2,c⟩,r⟩:=x;exact⟨ho _ d,z,N,k _ _ (.inl rfl) e,s,⟨A,i,ep,k _ _ (.inr d) e2,c⟩,r⟩
 |own y=>obtain⟨g,e⟩:=x;exact⟨g,k _ _ (.inl rfl) e⟩
 |xd fs=>obtain⟨s,⟨A,i,ep,e,c⟩,r⟩:=x;exact⟨s,⟨A,i,ep,k _ _ (.inl rfl) e,c⟩,r⟩
 |rng lo hi=>obtain⟨t,u,v,e⟩:=x;exact⟨t,u,v,k _ _ (.inl rfl) e⟩
 |frz g u M=>obtain⟨e,q⟩:=x;exact⟨k _ _ (.inl rfl) e,M q⟩
 |tbl D=>have e:h.get? a=Y {cls:=.none,data:=.fields D}:=x;show h'.get? a=Y {cls:=.none,data:=.fields D};exact k a _ (.inl rfl) e
 |met f y=>have e:h.get? a=Y (Hr (.ref f) (.ref y)):=x;show h'.get? a=Y (Hr (.ref f)<|.ref y);exact k a _ (.inl rfl) e
 |ext φ=>obtain⟨p,⟨o,e⟩,F⟩:=x;exact⟨F _ _ p λo q=>k _ _ (.inl rfl) q,⟨o,k _ _ (.inl rfl) e⟩,F⟩
theorem HOk.lt (x:HOk P w H h)(e:H a=Y o):a<h.objs.size:=(x a o e).lt
theorem HOk.fresh (x:HOk P w H h)(e:h.objs.size<=a):H a=none:=by
 cases q:H a with
 |none=>rfl
 |some u=>exact Jb (Es (x.lt q) e)<|F6 _
theorem HOk.kept (x:HOk P w H h)(k:∀b u,h.get? b=Y u->h'.get? b=Y u):HOk P w H h':=λa o e=>
 (x a o e).stay (λb u _ q=>k b u q) (λ_ q=>q) λ_ _ q=>q
theorem HOk.laid (x:HOk P w H h)(k:∀b u,h.get? b=Y u->h'.get? b=Y u)(hp:h.objs.size<=a)(d:ObjOk P w (upd H a o) h' a o):HOk P w (upd H a o) h':=λb u e=>by
 have g:=x.fresh hp;by_cases f:b=a
 .subst f;rw[ah] at e;cases e;exact d
 .rw [ag f] at e;exact(x b u e).stay (λc v _ q=>k c v q) (λc q=>by rw[ag<|aD q g];exact q) λc i q=>by rw[ag<|aD q g];exact q
end
def Rd (H:Hp)(a:IY)(u:HO):Prop:=H a=Y u\/∃o,H a=Y (.frz o u)
theorem Rd.ok {P:I9}{w:D3}{H:Hp}{h:Jf}{a:IY}{u:HO}(r:Rd H a u)(x:HOk P w H h):ObjOk P w H h a u:=by
 rcases r with r|⟨o,r⟩
 .exact x a u r
 .obtain ⟨_,q⟩:=x a _ r;exact q
def Mut:B HO->Prop
|some (.lst _)=>JR
|some (.dK _)=>JR
|some (.dT _)=>JR
|some (.set _ _)=>JR
|some (.ins _ _ _)=>JR
|some (.ext _)=>JR
|_=>Jh
section
variable {P:I9}{w:D3}{H:Hp}{h h':Jf}{x e:IY}{o':HO}
theorem HOk.write (ok:HOk P w H h)(j:Mut<|H x)(o:e=x\/H e=Y (.own x))(k:∀b u,b≠e->h.get? b=Y u->h'.get? b=Y u)(m:∃u,h'.get? e=Y u)
  (n:ObjOk P w (upd H x o') h' x o'):HOk P w (upd H x o') h':=λb u q=>by
 have d:∀c y,H c=Y (.own y)->c≠x:=λc y r z=>by subst z;rw[r] at j;exact j
 have f:∀c l,H c=Y (.tup l)->c≠x:=λc l r z=>by subst z;rw[r] at j;exact j
 by_cases g:b=x
 .subst g;rw[ah] at q;cases q;exact n
 .rw [ag g] at q;by_cases a:b=e
  .have p:H b=Y (.own x):=by
    rcases o with z|z
    .exact Jb (a.trans z) g
    .rw[a];exact z
   rw[q] at p;cases p;obtain⟨v,s⟩:=m;exact⟨v,by rw[a];exact s⟩
  .refine (ok b u q).stay (fun c v i r=>k c v ?_ r) (fun c r=>by rw [ag (d c b r)]; exact r) fun c l r=>by rw [ag (f c l r)]; exact r
   rcases i with rfl|i
   .exact a
   .rintro rfl;rcases o with z|z
    .exact d c b i z
    .rw[i] at z;cases z;exact g rfl
end
structure Un (fs ex:U IY)(H H':Hp)(h h':Jf):Prop where
 keep:∀b o,h.get? b=Y o->H b=J->b ∉ fs->b ∉ ex->h'.get? b=Y o
 slot:∀b o,h.get? b=Y o->H b=J->b∈fs->b ∉ ex->∃sl,h'.get? b=Y {o with slots:=sl}
 free:∀b o,h.get? b=Y o->H b=J->b ∉ ex->H' b=J
 there:∀b o,h.get? b=Y o->b ∉ ex->∃o',h'.get? b=Y o'
 tups:∀b xs,H b=Y (.tup xs)->H' b=Y (.tup xs)
 frzs:∀b o u,H b=Y (.frz o u)->H' b=Y (.frz o u)
 tbls:∀b ps,H b=Y (.tbl ps)->∃more,H' b=Y (.tbl (ps++more))
section
variable {fs fs' ex ex':U IY}{H H1 H2:Hp}{h h1 h2 h':Jf}{a x e:IY}{o:HO}
theorem Un.any (u:Un fs ex H H1 h h1){b:IY}{c:Obj}(q:h.get? b=Y c)(n:H b=J)(hx:b ∉ ex):∃f,h1.get? b=Y {c with slots:=f}:=by
 by_cases d:b∈fs
 .exact u.slot b c q n d hx
 .exact⟨c.slots,u.keep b c q n d hx⟩
theorem Un.kept (k:∀b u,h.get? b=Y u->h'.get? b=Y u):Un fs ex H H h h':=
 ⟨λb c q _ _ _=>k b c q,λb c q _ _ _=>⟨c.slots,k b c q⟩,λ_ _ _ n _=>n,λb c q _=>⟨c,k b c q⟩,λ_ _ q=>q,λ_ _ _ q=>q,λ_ d q=>⟨#[],by rw[q];simp⟩⟩
theorem Un.refl:Un fs ex H H h h:=Un.kept λ_ _ q=>q
theorem Un.laid (k:∀b u,h.get? b=Y u->h'.get? b=Y u)(hp:h.objs.size<=a)(c:H a=J):Un fs ex H (upd H a o) h h' where
 keep:=λb u q _ _ _=>k b u q
 slot:=λb u q _ _ _=>⟨u.slots,k b u q⟩
 free:=λb u q n _=>by rw[ag<|Eh<|Es (Heap.lt_size q) hp];exact n
 there:=λb u q _=>⟨u,k b u q⟩
 tups:=λb d q=>by rw[ag<|aD q c];exact q
 frzs:=λb u d q=>by rw[ag<|aD q c];exact q
 tbls:=λb f q=>⟨#[],by rw[ag<|aD q c,q];simp⟩
theorem Un.write (d:Mut<|H x)(j:e=x\/H e=Y (.own x))(k:∀b u,b≠e->h.get? b=Y u->h'.get? b=Y u)(f:∃u,h'.get? e=Y u):Un fs ex H (upd H x o) h h':=by
 have hx:∀b,H b=J->b≠x:=λb n z=>by subst z;rw[n] at d;exact d
 have i:∀b,H b=J->b≠e:=λb n z=>by
  subst z;rcases j with r|r
  .exact hx b n r
  .rw[n] at r;cases r
 have g:∀b u,H b=Y u->¬Mut (Y u)->b≠x:=λb u q l z=>by subst z;rw[q] at d;exact l d
 refine⟨λb u q n _ _=>k b u (i b n) q,λb u q n _ _=>⟨u.slots,k b u (i b n) q⟩,λb u q n _=>by rw[ag<|hx b n];exact n,λb u q _=>?_,
  λb m q=>by rw[ag<|g b _ q λz=>z];exact q,λb u m q=>by rw[ag<|g b _ q λz=>z];exact q,λb p q=>⟨#[],by rw[ag<|g b _ q λz=>z,q];simp⟩⟩
 by_cases c:b=e
 .subst c;exact f
 .exact⟨u,k b u c q⟩
end
noncomputable def trk (h:Jf)(H:Hp):U IY:=(Eb h.objs.size).filter λa=>(H a).isSome
def il (h:Jf)(H:Hp):Jf:=PySem.W.hideAll h<|trk h H
theorem l5 (h:Jf)(H:Hp):(il h H).objs.size=h.objs.size:=PySem.W.hideAll_size _ _
theorem qE {h:Jf}{H:Hp}{b:IY}{o:Obj}(e:h.get? b=Y o)(n:H b=J):(il h H).get? b=Y o:=
 PySem.W.hideAll_get _ e λa=>by have q:(H b).isSome=true:=(Iq.mp a).2;rw[n] at q;simp at q
theorem tO {h:Jf}{H:Hp}{b:IY}{o:Obj}(e:(il h H).get? b=Y o):h.get? b=Y o/\H b=none:=by
 have a:h.get? b=Y o:=PySem.W.of_hideAll (trk h H) e;refine⟨a,?_⟩;cases q:H b with
 |none=>rfl
 |some x=>have c:b∈trk h H:=Iq.mpr ⟨G0.mpr<|Heap.lt_size a,by simp[q]⟩;have z:(il h H).get? b=none:=PySem.W.hideAll_none (trk h H) c;rw[z] at e;cases e
noncomputable def tH (g h:Jf)(b:IY):U (IY×Obj):=(Eb h.objs.size).filterMap λa=>if a=b\/(g.get? a).isSome=DY then J else(h.get? a).map λo=>(a,o)
def rest (g h:Jf)(a d:IY):U (IY×Obj):=(tH g h a).filter λp=>decide (p.1≠d)
structure Mod (K:D1)(mg:Str->B L)(base:Jf):Prop where
 kin:K.In base
 glob:base.Ns D8 mg
 blt:∃mb,base.Ns builtinsNs mb/\∀x:Str,x≠"__name__"->mb x=Fw x
 nolimit:base.NoLimit
structure Cx where
 prog:I9
 w:D3
 K:D1
 mg:Str->B L
 base:Jf
 A:D9
 N:U Str
 s₀:DZ
 H₀:Hp
 env:Env
 outer:U Env
 stack:U Env
 ex:U IY
 fn:Str->IZ
 calm:IZ
 pn:U (IY×Obj)
 xe:L->DZ->Prop
noncomputable def frs (l:U Env):U IY:=l.filterMap (·.frame)
abbrev Cx.fs (X:Cx):U IY:=frs X.outer
def Vis (a:Jt)(x:Str):Prop:=a.names.lookup x=Y .local\/a.names.lookup x=Y .cell\/a.names.lookup x=Y .free
def Loc (a:Jt)(x:Str):Prop:=a.names.lookup x=Y .local\/a.names.lookup x=Y .cell
def Dz (a:Env)(h:Jf)(m:Str->B L)(x:Str)(u:L):Prop:=
 (a.kindOf x=Y .local/\m x=Y u)\/((a.kindOf x=Y .cell\/a.kindOf x=Y .free)/\∃c,a.cells.lookup x=Y c/\h.IsCell c (Y u))
structure Cx.Ok (X:Cx):Prop where
 mod:Mod X.K X.mg X.base
 kind:X.env.scope.kind=.function
 glob:X.env.globals=D8
 blt:X.env.builtins=builtinsNs
 above:X.s₀.heap.objs.size<=X.env.locals
 inj:∀x y c,X.env.cells.lookup x=Y c->X.env.cells.lookup y=Y c->x=y
 has:∀x,(X.env.kindOf x=Y .cell\/X.env.kindOf x=Y .free)->∃c,X.env.cells.lookup x=Y c
 cab:∀x c,X.fn x=DY->X.env.cells.lookup x=Y c->X.s₀.heap.objs.size<=c
 hd:X.calm=DY->X.A.handled=J
 frames:X.A.frames=Y X.stack
 stk:X.stack=X.outer\/(X.stack=X.env::X.outer/\X.env.frame=Y X.env.locals)
 exf:∀b∈X.ex,b≠X.env.locals/\∀x c,X.env.cells.lookup x=Y c->c≠b
 bs:∀b o,X.base.get? b=Y o->X.s₀.heap.get? b=Y o/\X.H₀ b=J
 bsz:X.base.objs.size<=X.s₀.heap.objs.size
 noex:∀b o,X.base.get? b=Y o->b ∉ X.ex
 exfs:∀b∈X.ex,b ∉ X.fs
 funs:X.s₀.heap.FunFrames X.base X.outer
 frf:∀b∈X.fs,X.H₀ b=J
structure Inv (X:Cx)(pins:U (IY×Obj))(σ:U (B V))(H:Hp)(s:DZ):Prop where
 ok:X.Ok
 os:s.os=X.s₀.os
 bare:Fe s.gens
 base:Un X.fs X.ex X.H₀ H X.s₀.heap s.heap
 loc:∃m,s.heap.Ns X.env.locals m/\∀(i:O) (x:Str) (v:V),X.N[i]?=Y x->σ[i]?=Y (Y v)->Vis X.env.scope x->∃u,RelV v u/\Dz X.env s.heap m x u
 cell:∀x c,X.env.cells.lookup x=Y c->∃v,s.heap.IsCell c v
 free:H X.env.locals=J
 freeC:∀x c,X.env.cells.lookup x=Y c->H c=J
 pin:∀p∈X.pn++pins,s.heap.get? p.1=Y p.2/\H p.1=J/\p.1≠X.env.locals/\p.1 ∉ X.fs/\∀v,p.2.data≠.cell v
 hok:HOk X.prog X.w H s.heap
 len:σ.length=X.N.length
section
variable {X:Cx}{pins:U (IY×Obj)}{σ:U (B V)}{H H':Hp}{s:DZ}{h':Jf}
theorem Cx.Ok.nofr (ok:X.Ok){b:IY}{o:Obj}(e:X.base.get? b=Y o):b ∉ X.fs:=λa=>by have:=(ok.funs.mem a).1;rw[e] at this;cases this
theorem Inv.bs (a:Inv X pins σ H s):∀b o,X.base.get? b=Y o->s.heap.get? b=Y o/\H b=none:=λb o e=>
 ⟨a.base.keep b o (a.ok.bs b o e).1 (a.ok.bs b o e).2 (a.ok.nofr e)<|a.ok.noex b o e,a.base.free b o (a.ok.bs b o e).1 (a.ok.bs b o e).2<|a.ok.noex b o e⟩
theorem Inv.bk (a:Inv X pins σ H s):∀b o,X.base.get? b=Y o->s.heap.get? b=Y o:=λb o e=>(a.bs b o e).1
theorem Inv.mod (a:Inv X pins σ H s):Mod X.K X.mg X.base:=a.ok.mod
theorem Inv.kIn (a:Inv X pins σ H s):X.K.In s.heap:=a.ok.mod.kin.keeps a.bk
theorem Inv.fr (a:Inv X pins σ H s):∃m,Fr X.base X.env.locals s.heap m:=
 let ⟨m,b,_⟩:=a.loc
 ⟨m,b,a.bk,Ed a.ok.bsz a.ok.above⟩
theorem Inv.lt (a:Inv X pins σ H s):X.env.locals<s.heap.objs.size:=let ⟨_,b,_⟩:=a.loc;b.lt
theorem Inv.sz (a:Inv X pins σ H s):X.s₀.heap.objs.size<=s.heap.objs.size:=Ed a.ok.above<|GA a.lt
theorem Inv.nofs (b:Inv X pins σ H s){a:IY}(h:s.heap.objs.size<=a):a ∉ X.fs:=λc=>by obtain⟨_,o,ho,_⟩:=b.ok.funs.mem c;exact Jb (Es (Heap.lt_size ho)<|Ed b.sz h)<|F6 _
theorem Inv.cne (a:Inv X pins σ H s):∀x c,X.env.cells.lookup x=Y c->c≠X.env.locals:=λx c e z=>by obtain⟨v,o,ho,f⟩:=a.cell x c e;obtain⟨m,⟨h,g,ep,d,b,_⟩,_⟩:=a.loc;rw[z,d] at ho;cases ho;rw[b] at f;cases f
theorem Inv.funs (a:Inv X pins σ H s):s.heap.FunFrames X.base X.outer:=by
 have all:∀(l:U Env),(∀b∈frs l,b∈X.fs)->X.s₀.heap.FunFrames X.base l->s.heap.FunFrames X.base l:=by
  intro l;induction l with
  |nil=>intro _ _;trivial
  |cons i r p=>intro h k;obtain⟨hk,⟨c,o,g,m,ho,j⟩,n⟩:=k;have d:c∈X.fs:=h c (by unfold frs;rw[FR,g];exact Ek);obtain⟨t,e⟩:=a.base.slot c o ho (a.ok.frf c d) d λz=>a.ok.exfs c z d;exact⟨hk,⟨c,_,g,m,e,j⟩,p (λb f=>h b<|by unfold frs;rw[FR,g];exact Em _ f) n⟩
 exact all X.outer (λ_ f=>f) a.ok.funs
theorem Inv.stack (a:Inv X pins σ H s):s.heap.FunFrames X.base X.stack:=by
 rcases a.ok.stk with e|⟨e,hf⟩
 .rw[e];exact a.funs
 .rw [e];obtain⟨m,b,_⟩:=a.loc;refine .cons (by rw[a.ok.kind];decide) hf b ?_ a.funs;exact Heap.get?_none_of_le<|Ed a.ok.bsz a.ok.above
theorem Inv.stkSub (a:Inv X pins σ H s):∀b∈frs X.stack,b∈X.env.locals::X.fs:=λb c=>by
 rcases a.ok.stk with e|⟨e,hf⟩
 .rw[e] at c;exact Em _ c
 .rw [e] at c;unfold frs at c;rw[FR,hf] at c;exact c
theorem Inv.stkFree (a:Inv X pins σ H s):∀b∈frs X.stack,H b=none:=λb c=>by
 rcases Ee.mp (a.stkSub b c) with e|c
 .rw[e];exact a.free
 .obtain ⟨_,o,ho,_⟩:=a.ok.funs.mem c;exact a.base.free b o ho (a.ok.frf b c) λz=>a.ok.exfs b z c
theorem Inv.step {g':Jo JH}{t':O}{d':Drawn}{ch:U IY}(a:Inv X pins σ H s)
  (h:∀b∈ch,(b∈X.ex\/X.s₀.heap.objs.size<=b)/\b≠X.env.locals/\(∀x c,X.env.cells.lookup x=Y c->c≠b)/\∀p∈X.pn++pins,p.1≠b)
  (keep:∀b o,b≠X.env.locals->b ∉ X.fs->b ∉ ch->s.heap.get? b=Y o->H b=J->h'.get? b=Y o)
  (y:∀b o,b≠X.env.locals->b∈X.fs->b ∉ ch->s.heap.get? b=Y o->H b=J->∃sl,h'.get? b=Y {o with slots:=sl}) (f:∀b o,b ∉ ch->s.heap.get? b=Y o->H b=J->H' b=J)
  (F:∀b o,b ∉ ch->s.heap.get? b=Y o->∃P,h'.get? b=Y P)
  (Z:∀b A,H b=Y (.tup A)->H' b=Y (.tup A)) (G:∀b o u,H b=Y (.frz o u)->H' b=Y (.frz o u)) (Q:∀b ps,H b=Y (.tbl ps)->∃M,H' b=Y (.tbl<|ps++M))
  (ns:∀m,s.heap.Ns X.env.locals m->h'.Ns X.env.locals m) (hok:HOk X.prog X.w H' h') (hg:Fe g'):
  Inv X pins σ H' {s with heap:=h',gens:=g',drawn:=d',toks:=t'}:=by
 have N:∀b o,X.s₀.heap.get? b=Y o->b≠X.env.locals:=λb o e=>Eh<|Es (Heap.lt_size e) a.ok.above
 have t:∀b o,X.s₀.heap.get? b=Y o->b ∉ X.ex->b ∉ ch:=λb o e hx D=>by
  rcases(h b D).1 with z|z
  .exact hx z
  .exact Jb (Es (Heap.lt_size e) z) (F6 _)
 have g:∀x c,X.env.cells.lookup x=Y c->∀v,s.heap.IsCell c v->h'.IsCell c v:=λx c e v ⟨o,ho,hd⟩=>by
  have j:c ∉ ch:=λz=>(h c z).2.2.1 x c e rfl;by_cases hc:c∈X.fs
  .obtain ⟨sl,q⟩:=y c o (a.cne x c e) hc j ho<|a.freeC x c e;exact⟨_,q,hd⟩
  .exact⟨o,keep c o (a.cne x c e) hc j ho<|a.freeC x c e,hd⟩
 refine⟨a.ok,a.os,hg,⟨λb o e n D hx=>?_,λb o e n D hx=>?_,λb o e n hx=>?_,λb o e hx=>?_,λb A e=>Z b A<|a.base.tups b A e,λb o A e=>G b o A<|a.base.frzs b o A e,λb ps e=>?_⟩,?_,λx c e=>?_,?_,λx c e=>?_,λp hp=>?_,hok,a.len⟩
 .exact keep b o (N b o e) D (t b o e hx) (a.base.keep b o e n D hx) (a.base.free b o e n hx)
 .obtain ⟨sl,e1⟩:=a.base.slot b o e n D hx;obtain⟨sl',e2⟩:=y b _ (N b o e) D (t b o e hx) e1<|a.base.free b o e n hx;exact⟨sl',e2⟩
 .obtain ⟨P,e1⟩:=a.base.there b o e hx;exact f b P (t b o e hx) e1<|a.base.free b o e n hx
 .obtain ⟨P,e1⟩:=a.base.there b o e hx;exact F b P (t b o e hx) e1
 .obtain ⟨m1,e1⟩:=a.base.tbls b ps e;obtain⟨m2,e2⟩:=Q b _ e1;exact⟨m1++m2,by rw[e2,Array.append_assoc]⟩
 .obtain ⟨m,hn,hl⟩:=a.loc;refine⟨m,ns m hn,λi x v e1 e2 e3=>?_⟩;obtain⟨u,r,l⟩:=hl i x v e1 e2 e3;refine⟨u,r,?_⟩;rcases l with l|⟨k,c,e,z⟩
  .exact .inl l
  .exact .inr ⟨k,c,e,g x c e _ z⟩
 .obtain ⟨v,z⟩:=a.cell x c e;exact⟨v,g x c e v z⟩
 .obtain ⟨m,⟨o,_,_,ho,_⟩,_⟩:=a.loc;exact f _ o (λz=>(h _ z).2.1 rfl) ho a.free
 .obtain ⟨v,o,ho,hd⟩:=a.cell x c e;exact f c o (λz=>(h c z).2.2.1 x c e rfl) ho<|a.freeC x c e
 .obtain ⟨e,n,ne,nf,d⟩:=a.pin p hp;have j:p.1 ∉ ch:=λz=>(h p.1 z).2.2.2 p hp rfl;exact⟨keep p.1 p.2 ne nf j e n,f p.1 p.2 j e n,ne,nf,d⟩
theorem Inv.un {t':O}(a:Inv X pins σ H s)(u:Un X.fs [] H H' s.heap h')(h:HOk X.prog X.w H' h'):Inv X pins σ H' {s with heap:=h',toks:=t'}:=by
 obtain⟨m,⟨o,l,ep,ho,r⟩,_⟩:=id a.loc;obtain⟨v,i⟩:=u.any ho a.free<|by simp
 exact a.step (g':=s.gens) (d':=s.drawn) (ch:=[]) (λ_ z=>nomatch z) (λb o _ g _ e n=>u.keep b o e n g<|by simp) (λb o _ g _ e n=>u.slot b o e n g<|by simp) (λb o _ e n=>u.free b o e n<|by simp) (λb o _ e=>u.there b o e<|by simp) u.tups u.frzs u.tbls (λp j=>by
  obtain⟨t,f,d,c,k⟩:=j;rw[ho] at c;cases c;exact⟨_,f,d,i,k⟩) h a.bare
theorem Inv.call {g':Jo JH}{t':O}{d':Drawn}{ch:U IY}(a:Inv X pins σ H s)(u:Un (frs X.stack) ch H H' s.heap h')(k:HOk X.prog X.w H' h')(t:Fe g')
  (f:∀b∈ch,(b∈X.ex\/X.s₀.heap.objs.size<=b)/\b≠X.env.locals/\(∀x c,X.env.cells.lookup x=Y c->c≠b)/\∀p∈X.pn++pins,p.1≠b):
  Inv X pins σ H' {s with heap:=h',gens:=g',drawn:=d',toks:=t'}:=by
 obtain⟨m,⟨o,A,ep,ho,r⟩,_⟩:=id a.loc;obtain⟨G,j⟩:=u.any ho a.free λz=>(f _ z).2.1 rfl
 exact a.step (ch:=ch) f (λb o j l d e n=>u.keep b o e n (λz=>(Ee.mp<|a.stkSub b z).elim j l) d) (λb o _ _ d e n=>u.any e n d) (λb o d e n=>u.free b o e n d) (λb o d e=>u.there b o e d) u.tups u.frzs u.tbls (λD v=>by
  obtain⟨F,i,h,g,y⟩:=v;rw[ho] at g;cases g;exact⟨_,i,h,j,y⟩) k t
theorem Inv.turned {t':O}{it:IY}(a:Inv X pins σ H s)(k:∀b o,b≠it->s.heap.get? b=Y o->h'.get? b=Y o)(y:H it=J)(g:it≠X.env.locals)
  (i:it∈X.ex\/X.s₀.heap.objs.size<=it) (j:∀x c,X.env.cells.lookup x=Y c->c≠it) (l:∀p∈X.pn++pins,p.1≠it):Inv X pins σ H {s with heap:=h',toks:=t'}:=by
 have f:∀b u,H b=Y u->b≠it:=λb u e z=>by rw[z,y] at e;cases e
 refine a.step (g':=s.gens) (d':=s.drawn) (ch:=[it]) (λb t=>?_) (λb o _ _ d e _=>k b o (λz=>d<|by simp[z]) e) (λb o _ _ d e _=>⟨o.slots,k b o (λz=>d<|by simp[z]) e⟩) (λ_ _ _ _ n=>n)
  (λb o d e=>⟨o,k b o (λz=>d<|by simp[z]) e⟩) (λ_ _ e=>e) (λ_ _ _ e=>e) (λb A e=>⟨#[],by rw[e];simp⟩) (λm w=>?_) (λb u e=>?_) a.bare
 .have e:b=it:=by simpa using t
  subst e;exact⟨i,g,j,l⟩
 .obtain ⟨o,h,ep,ho,r⟩:=w;exact⟨o,h,ep,k _ o (EB g) ho,r⟩
 .refine (a.hok b u e).stay (fun c v d q=>k c v ?_ q) (fun _ q=>q) fun _ _ q=>q;rcases d with z|z
  .rw[z];exact f b u e
  .exact f c _ z
theorem Inv.tok (a:Inv X pins σ H s)(t:O):Inv X pins σ H {s with toks:=t}:=a.un (h':=s.heap) (t':=t) Un.refl a.hok
theorem Inv.kept {t':O}(a:Inv X pins σ H s)(k:∀b u,s.heap.get? b=Y u->h'.get? b=Y u):Inv X pins σ H {s with heap:=h',toks:=t'}:=a.un (Un.kept k)<|a.hok.kept k
theorem Inv.laid {a:IY}{o:HO}{t':O}(c:Inv X pins σ H s)(k:∀b u,s.heap.get? b=Y u->h'.get? b=Y u)(hp:s.heap.objs.size<=a)(d:ObjOk X.prog X.w (upd H a o) h' a o):
  Inv X pins σ (upd H a o) {s with heap:=h',toks:=t'}:=c.un (Un.laid k hp<|c.hok.fresh hp)<|c.hok.laid k hp d
theorem Inv.write {x e:IY}{o:HO}{h:O}(a:Inv X pins σ H s)(g:Mut<|H x)(f:e=x\/H e=Y (.own x))(k:∀b u,b≠e->s.heap.get? b=Y u->h'.get? b=Y u)(c:∃u,h'.get? e=Y u)
  (d:ObjOk X.prog X.w (upd H x o) h' x o):Inv X pins σ (upd H x o) {s with heap:=h',toks:=h}:=a.un (Un.write g f k c)<|a.hok.write g f k c d
theorem Inv.weak {b:U<|B V}(a:Inv X pins σ H s)(d:b.length=σ.length)(w:∀(i:O) v,b[i]?=Y (Y v)->σ[i]?=Y (Y v)):Inv X pins b H s:=
 ⟨a.ok,a.os,a.bare,a.base,let ⟨m,e,c⟩:=a.loc;⟨m,e,λi x v e1 e2 e3=>c i x v e1 (w i v e2) e3⟩,a.cell,a.free,a.freeC,a.pin,a.hok,d.trans a.len⟩
theorem Inv.pins_of {b:U<|IY×Obj}(a:Inv X pins σ H s)(h:∀p∈b,s.heap.get? p.1=Y p.2/\H p.1=J/\p.1≠X.env.locals/\p.1 ∉ X.fs/\∀v,p.2.data≠.cell v):Inv X b σ H s:=
 ⟨a.ok,a.os,a.bare,a.base,a.loc,a.cell,a.free,a.freeC,λp hp=>(Gv.mp hp).elim (λz=>a.pin p<|Ge _ z)<|h p,a.hok,a.len⟩
theorem jm {N:U Str}(c:N.Nodup){i j:O}{x:Str}(a:N[i]?=Y x)(b:N[j]?=Y x):i=j:=by obtain⟨d,e1⟩:=EM.mp a;obtain⟨e,e2⟩:=EM.mp b;exact(List.getElem_inj c).mp<|e1.trans e2.symm
theorem gi {M:Model}{A:D9}{E:L->DZ->Prop}{i:O}{x:Str}{v:V}{u:L}{Q:Unit->DZ->Prop}(f:Inv X pins σ H s)(hN:X.N.Nodup)(hi:X.N[i]?=Y x)(hx:Loc X.env.scope x)(r:RelV v u)
  (h:∀s',Inv X pins (σ.set i<|Y v) H s'->(∃a,Heap.SameBut a s.heap s'.heap/\(a=X.env.locals\/X.env.cells.lookup x=Y a))->Q () s') (hf:X.fn x=DY\/X.env.scope.names.lookup x=Y .local:=by first|exact .inl rfl|exact .inr rfl|assumption):Ja M A (storeName X.env x u) Q E s:=by
 obtain⟨m,hn,hl⟩:=id f.loc;have hcls:(X.env.scope.kind==.class || (X.env.scope.kind==.module&&X.env.locals != X.env.globals))=false:=by rw[f.ok.kind];rfl
 have F:i < σ.length:=by rw[f.len];exact(EM.mp hi).1
 have cne:=f.cne
 have l:∀{a:IY} {h':Jf},(∃o,s.heap.get? a=Y o/\H a=J)->Heap.SameBut a s.heap h'->HOk X.prog X.w H h':=λ{a h'} ha g b ob e=>by
  obtain⟨_,_,D⟩:=ha;refine(f.hok b ob e).stay (λc w' t q=>(g.2 c ?_).trans q) (λ_ q=>q) λ_ _ q=>q;rintro rfl;rcases t with rfl|t
  .rw[D] at e;cases e
  .rw[D] at t;cases t
 rcases hx with hk|hk
 .refine wpAny_storeName_local hk hn (fun h' hn' g=>?_) hcls;obtain⟨oL,_,_,hoL,_⟩:=id hn;refine h _ ⟨f.ok,f.os,f.bare,⟨λb o e n G hx=>?_,λb o e n G hx=>?_,f.base.free,λb o e hx=>?_,f.base.tups,f.base.frzs,f.base.tbls⟩,⟨_,hn',λj y v' e1 e2 e3=>?_⟩,λy c e=>?_,f.free,f.freeC,λp hp=>?_,l ⟨oL,hoL,f.free⟩ g,by simpa using f.len⟩ ⟨_,g,.inl rfl⟩
  .exact(g.2 b<|Eh<|Es (Heap.lt_size e) f.ok.above).trans<|f.base.keep b o e n G hx
  .obtain ⟨sl,e1⟩:=f.base.slot b o e n G hx;exact⟨sl,(g.2 b<|Eh<|Es (Heap.lt_size e) f.ok.above).trans e1⟩
  .obtain ⟨o',e1⟩:=f.base.there b o e hx;exact⟨o',(g.2 b<|Eh<|Es (Heap.lt_size e) f.ok.above).trans e1⟩
  .by_cases Z:j=i
   .subst Z;rw[hi] at e1;cases e1;rw[Hx F] at e2;cases e2;exact⟨u,r,.inl ⟨hk,by simp⟩⟩
   .rw [Gb (EB Z)] at e2;obtain⟨u',r',q⟩:=hl j y v' e1 e2 e3;refine⟨u',r',?_⟩;rcases q with⟨k,e⟩|⟨k,c,e,z⟩
    .refine .inl ⟨k,?_⟩;have:y≠x:=λe=>Z<|jm hN e1<|e ▸ hi;simp[this,e]
    .exact .inr ⟨k,c,e,z.sameBut g<|cne y c e⟩
  .obtain ⟨w',z⟩:=f.cell y c e;exact⟨w',z.sameBut g<|cne y c e⟩
  .obtain ⟨e,n,ne,nf,d⟩:=f.pin p hp;exact⟨(g.2 p.1 ne).trans e,n,ne,nf,d⟩
 .have P:X.fn x=true:=by
   rcases hf with z|z
   .exact z
   .rw[z] at hk;cases hk
  obtain⟨c,t⟩:=f.ok.has x<|.inl hk;obtain⟨w',z⟩:=f.cell x c t;refine wpAny_storeName_cell f.ok.kind hk t z λh' hc' g=>?_;obtain⟨oc,hoc,hocd⟩:=id z;refine h {s with heap:=h'} ⟨f.ok,f.os,f.bare,⟨λb o e n G hx=>?_,λb o e n G hx=>?_,f.base.free,λb o e hx=>?_,f.base.tups,f.base.frzs,f.base.tbls⟩,⟨m,hn.sameBut g<|EB<|cne x c t,λj y v' e1 e2 e3=>?_⟩,λy c' e=>?_,f.free,f.freeC,λp hp=>?_,l ⟨oc,hoc,f.freeC x c t⟩ g,by simpa using f.len⟩ ⟨c,g,.inr t⟩
  .exact(g.2 b<|Eh<|Es (Heap.lt_size e)<|f.ok.cab x c P t).trans<|f.base.keep b o e n G hx
  .obtain ⟨sl,e1⟩:=f.base.slot b o e n G hx;exact⟨sl,(g.2 b<|Eh<|Es (Heap.lt_size e)<|f.ok.cab x c P t).trans e1⟩
  .obtain ⟨o',e1⟩:=f.base.there b o e hx;exact⟨o',(g.2 b<|Eh<|Es (Heap.lt_size e)<|f.ok.cab x c P t).trans e1⟩
  .by_cases Z:j=i
   .subst Z;rw[hi] at e1;cases e1;rw[Hx F] at e2;cases e2;exact⟨u,r,.inr ⟨.inl hk,c,t,hc'⟩⟩
   .rw [Gb (EB Z)] at e2;obtain⟨u',r',q⟩:=hl j y v' e1 e2 e3;refine⟨u',r',?_⟩;rcases q with q|⟨k,c',e,z'⟩
    .exact .inl q
    .refine .inr ⟨k,c',e,z'.sameBut g ?_⟩;rintro rfl;exact Z<|jm hN e1<|f.ok.inj _ _ _ e t ▸ hi
  .by_cases hcc:c'=c
   .subst hcc;exact⟨_,hc'⟩
   .obtain ⟨w2,z2⟩:=f.cell y c' e;exact⟨w2,z2.sameBut g hcc⟩
  .obtain ⟨e,n,ne,nf,d⟩:=f.pin p hp;refine⟨(g.2 p.1 ?_).trans e,n,ne,nf,d⟩;intro q;rw[q,hoc] at e;have q':oc=p.2:=EC e;exact d w'<|by rw[<- q'];exact hocd
theorem jt {M:Model}{A:D9}{E:L->DZ->Prop}{i:O}{x:Str}{v:V}{u:L}{Q:Unit->DZ->Prop}(a:Inv X pins σ H s)(d:X.N.Nodup)(f:X.N[i]?=Y x)(hx:Loc X.env.scope x)(r:RelV v u)
  (h:∀b,Inv X pins (σ.set i<|Y v) H b->Q () b) (e:X.fn x=DY\/X.env.scope.names.lookup x=Y .local:=by first|exact .inl rfl|exact .inr rfl|assumption):Ja M A (storeName X.env x u) Q E s:=
 gi a d f hx r (λb c _=>h b c) e
theorem Inv.call' {s':DZ}{ch:U IY}(a:Inv X pins σ H s)(ho:s'.os=s.os)(u:Un (frs X.stack) ch H H' s.heap s'.heap)(f:HOk X.prog X.w H' s'.heap)(g:Fe s'.gens)
  (d:∀b∈ch,(b∈X.ex\/X.s₀.heap.objs.size<=b)/\b≠X.env.locals/\(∀x c,X.env.cells.lookup x=Y c->c≠b)/\∀p∈X.pn++pins,p.1≠b):Inv X pins σ H' s':=by
 obtain⟨h',g',d',t',h⟩:=s';have e:h=s.os:=ho;subst e;exact a.call (g':=g') (t':=t') (d':=d') u f g d
end
abbrev XK:=L->B IY->Hp->Prop
abbrev St:=U<|B V
abbrev VK:=V->Hp->Prop
abbrev TE:=St->Hp->VK->Prop
abbrev TT:=St->Hp->(IZ->Hp->Prop)->Prop
abbrev TA:=St->Hp->(U V->Hp->Prop)->Prop
structure bw where
 nx:St->Hp->Prop
 rt:VK
 bk:St->Hp->Prop:=λ_ _=>Jh
 ct:St->Hp->Prop:=λ_ _=>Jh
abbrev TS:=bw->St->Hp->Prop
def EP (X:Cx)(a:U<|IY×Obj)(d:St)(Q:VK)(u:L)(c:DZ):Prop:=∃v b,Inv X a d b c/\RelV v u/\Q v b
def TP (X:Cx)(a:U<|IY×Obj)(e:St)(Q:IZ->Hp->Prop)(b:IZ)(d:DZ):Prop:=∃c,Inv X a e c d/\Q b c
def AP (X:Cx)(a:U<|IY×Obj)(f:St)(Q:U V->Hp->Prop)(e:U L)(d:DZ):Prop:=∃c b,Inv X a f b d/\Vals c e/\Q c b
def SP (X:Cx)(b:U<|IY×Obj)(D:bw)(f:Flow)(d:DZ):Prop:=
 match f with
 |.next=>∃a c,Inv X b a c d/\D.nx a c
 |.brk=>∃a c,Inv X b a c d/\D.bk a c
 |.cont=>∃a c,Inv X b a c d/\D.ct a c
 |.ret u=>∃v a c,Inv X b a c d/\RelV v u/\D.rt v c
def PE (X:Cx)(e:Je)(t:TE):Prop:=
 ∀(a:U<|IY×Obj) (s:DZ) (b:St) (H:Hp) (Q:VK),Inv X a b H s->t b H Q->Ja (D4 X.prog X.w) X.A (Jl e X.env) (EP X a b Q) X.xe s
def PT (X:Cx)(e:Je)(t:TT):Prop:=
 ∀(a:U<|IY×Obj) (s:DZ) (b:St) (H:Hp) (Q:IZ->Hp->Prop),Inv X a b H s->t b H Q->Ja (D4 X.prog X.w) X.A (JM e X.env<|Jl e X.env) (TP X a b Q) X.xe s
def PW (X:Cx)(e:Je)(t:TT):Prop:=
 ∀(b:Sem L) (a:U<|IY×Obj) (s:DZ) (c:St) (H:Hp) (Q:IZ->Hp->Prop),Inv X a c H s->t c H Q->Ja (D4 X.prog X.w) X.A (JM e X.env b) (TP X a c Q) X.xe s
theorem PW.pt {X:Cx}{e:Je}{t:TT}(h:PW X e t):PT X e t:=h _
def PA (X:Cx)(d:U Je)(t:TA):Prop:=
 ∀(b:Pos) (a:U<|IY×Obj) (s:DZ) (c:St) (H:Hp) (Q:U V->Hp->Prop),Inv X a c H s->t c H Q->Ja (D4 X.prog X.w) X.A (spliced<|En b<|D5 d X.env) (AP X a c Q) X.xe s
def PS (X:Cx)(c:Jj)(t:TS):Prop:=
 ∀(a:U<|IY×Obj) (s:DZ) (b:St) (H:Hp) (D:bw),Inv X a b H s->t D b H->Ja (D4 X.prog X.w) X.A (exec c X.env) (SP X a D) X.xe s
def PSs (X:Cx)(c:U Jj)(t:TS):Prop:=
 ∀(a:U<|IY×Obj) (s:DZ) (b:St) (H:Hp) (D:bw),Inv X a b H s->t D b H->Ja (D4 X.prog X.w) X.A (execs c X.env) (SP X a D) X.xe s
theorem thn {c:Type}{t:Sem c}{Q b:c->DZ->Prop}{M:Model}{A:D9}{E:L->DZ->Prop}{s:DZ}(h:Ja M A t Q E s)(d:∀a s,Q a s->b a s):Ja M A t b E s:=Ej h d λ_ _ x=>x
section
variable {X:Cx}
def qU (i:O):TE:=λa H Q=>∃v,a[i]?=Y (Y v)/\Q v H
def tC (v:V):TE:=λ_ H Q=>Q v H
theorem a4 {i:O}{x:Str}{k:Pos}(o:X.N[i]?=Y x)(y:Vis X.env.scope x)(j:(x==("__debug__":Str))=false:=by decide)(g:(x==("__classdict__":Str))=false:=by decide):PE X (.Name x k) (qU i):=by
 intro f s z H Q a h;obtain⟨v,e,h⟩:=h;obtain⟨m,w,p⟩:=a.loc;obtain⟨u,r,l⟩:=p i x v o e y;have d:EP X f z Q u s:=⟨v,H,a,r,h⟩;rcases l with⟨hk,t⟩|⟨hk,c,n,b⟩
 .exact wpAny_Name (wpAny_loadName_local a.ok.kind hk w t d) j
 .rcases hk with hk | hk
  .exact wpAny_Name (wpAny_loadName_cell a.ok.kind hk n b d) j
  .exact wpAny_Name (wpAny_loadName_free a.ok.kind hk n b d g) j
theorem jX {i j pos}:PE X (.Constant (.int i) j pos) (tC<|.int i):=λ_ _ _ H _ a h=>wpAny_Constant_int ⟨.int i,H,a.tok _,⟨_,rfl⟩,h⟩
theorem Cp {b j pos}:PE X (.Constant (.bool b) j pos) (tC<|.bl b):=λ_ _ _ H _ a h=>Constant_bool ⟨.bl b,H,a,rfl,h⟩
theorem x4 {j pos}:PE X (.Constant .none j pos) (tC .non):=λ_ _ _ H _ a h=>Constant_none ⟨.non,H,a,rfl,h⟩
theorem wo {x j pos}:PE X (.Constant (.str x) j pos) (tC<|.str x):=λ_ _ _ H _ a h=>Calls.Constant_str ⟨.str x,H,a.tok _,⟨_,rfl⟩,h⟩
def Gl (X:Cx)(x:Str):Prop:=X.env.kindOf x=Y .globalImplicit
theorem ie {E:L->DZ->Prop}{b:U<|IY×Obj}{s:DZ}{g:St}{H:Hp}{x:Str}{u:L}{c:Pos}{Q:L->DZ->Prop}(a:Inv X b g H s)(e:Gl X x)(f:X.mg x=Y u)(h:Q u s)
  (d:(x==("__debug__":Str))=false:=by decide):Ja (D4 X.prog X.w) X.A (Jl (.Name x c) X.env) Q E s:=
 Calls.Name_function_global a.ok.kind e (Calls.loadGlobal_global (by rw[a.ok.glob];exact a.mod.glob.keeps a.bk) f h) d
theorem cY {E:L->DZ->Prop}{b:U<|IY×Obj}{s:DZ}{l:St}{H:Hp}{x:Str}{u:L}{c:Pos}{Q:L->DZ->Prop}(a:Inv X b l H s)(g:Gl X x)(i:X.mg x=J)(k:Fw x=Y u)(h:Q u s)
  (j:x≠"__name__":=by decide) (f:(x==("__debug__":Str))=false:=by decide):Ja (D4 X.prog X.w) X.A (Jl (.Name x c) X.env) Q E s:=by
 obtain⟨m,d,e⟩:=a.mod.blt;exact Calls.Name_function_global a.ok.kind g (Calls.loadGlobal_builtin (by rw[a.ok.glob];exact a.mod.glob.keeps a.bk) i (by rw[a.ok.blt];exact d.keeps a.bk) ((e x j).trans k) h) f
theorem kL {x:Str}{v:V}{u:L}{b:Pos}(d:Gl X x)(e:X.mg x=Y u)(r:RelV v u)(c:(x==("__debug__":Str))=false:=by decide):PE X (.Name x b) (tC v):=
 λ_ _ _ H _ a h=>ie a d e ⟨v,H,a,r,h⟩ c
theorem um {x:Str}{v:V}{u:L}{b:Pos}(d:Gl X x)(e:X.mg x=J)(g:Fw x=Y u)(r:RelV v u)(f:x≠"__name__":=by decide)(c:(x==("__debug__":Str))=false:=by decide):PE X (.Name x b) (tC v):=
 λ_ _ _ H _ a h=>cY a d e g ⟨v,H,a,r,h⟩ f c
variable {a b:Je}{ta tb:TE}{pos:Pos}
def PC (X:Cx)(op:CmpOp)(a b:Je)(t:TE):Prop:=
 ∀(c:U<|IY×Obj) (s:DZ) (f:St) (H:Hp) (Q:VK),Inv X c f H s->t f H Q ->
  Ja (D4 X.prog X.w) X.A (Jl a X.env) (λv d=>Ja (D4 X.prog X.w) X.A (Jl b X.env) (λu e=>Ja (D4 X.prog X.w) X.A (ET op v u) (EP X c f Q) X.xe e) X.xe d) X.xe s
def tB (t:TE):TT:=λe H Q=>t e H λx d=>∃c,x=.bl c/\Q c d
theorem nI {e:Je}{t:TE}(h:PE X e t)(k:∀f,JM e X.env f=(do let v <- f;standAt e.pos;holding [v] (truthy v)):=by intro _;rfl):PT X e (tB t):=by intro g s o H Q c l;refine isTrue_plain (thn (h g s o H _ c l) λv p ⟨x,i,j,n,m⟩=>?_)<|k _;obtain⟨d,rfl,q⟩:=m;cases n;exact Gs ⟨i,j,q⟩
variable {tA tB':TT}{rest:U Je}
noncomputable def Bq (t u:TT):TT:=λe H Q=>t e H λc d=>if c=DY then u e d Q else Q DX d
noncomputable def tOr (t u:TT):TT:=λe H Q=>t e H λc d=>if c=DY then Q DY d else u e d Q
theorem sj (g:PT X a tA):PW X (.BoolOp .And [a] pos) tA:=by
 intro k f s i H Q d h;refine isTrue_and<|thn (g f s i H Q d h) λc j e=>?_;cases c with
 |true=>exact isTrue_and_nil e
 |false=>exact e
theorem zN (g:PT X a tA):PW X (.BoolOp .Or [a] pos) tA:=by
 intro k f s i H Q d h;refine isTrue_or<|thn (g f s i H Q d h) λc j e=>?_;cases c with
 |false=>exact isTrue_or_nil e
 |true=>exact e
theorem yi (k:PT X a tA)(l:PW X (.BoolOp .And (b::rest) pos) tB'):PW X (.BoolOp .And (a::b::rest) pos) (Bq tA tB'):=by
 intro n e s j H Q d h;refine isTrue_and<|thn (k e s j H _ d h) λc m ⟨f,g,i⟩=>?_;cases c with
 |true=>exact l n e m j f Q g i
 |false=>exact⟨f,g,i⟩
theorem B8 (k:PT X a tA)(l:PW X (.BoolOp .Or (b::rest) pos) tB'):PW X (.BoolOp .Or (a::b::rest) pos) (tOr tA tB'):=by
 intro n e s j H Q d h;refine isTrue_or<|thn (k e s j H _ d h) λc m ⟨f,g,i⟩=>?_;cases c with
 |true=>exact⟨f,g,i⟩
 |false=>exact l n e m j f Q g i
noncomputable def tIf (t:TT)(ta tb:TE):TE:=λd H Q=>t d H λc e=>if c=DY then ta d e Q else tb d e Q
theorem qC {c:Je}(o:PT X c tA)(m:PE X a ta)(n:PE X b tb):PE X (.IfExp c a b pos) (tIf tA ta tb):=by
 intro f s g H Q e h;refine wpAny_IfExp<|thn (o f s g H _ e h) λd l ⟨i,j,k⟩=>?_;cases d with
 |true=>exact m f l g i Q j k
 |false=>exact n f l g i Q j k
end
def SqL (K:D1)(H:Hp)(a:IY)(c:U V):Prop:=
 Rd H a (.lst c) \/
  ∃(o:Obj) (b:Jo L) (n:O),K.lookup a=Y o/\o.cls=.type "list"/\o.dict=J/\o.data=.seq b n/\b.size<=sizeLine/\Vals c b.toList
def SqT (K:D1)(H:Hp)(a:IY)(c:U V):Prop:=
 Rd H a (.tup c) \/
  ∃(o:Obj) (b:Jo L) (n:O),K.lookup a=Y o/\o.cls=.type "tuple"/\o.data=.seq b n/\b.size<=sizeLine/\Vals c b.toList
def DF:L->B V
|.none=>Y .non
|.bool b=>Y<|.bl b
|.int i _=>Y<|.int i
|.str x _=>Y<|.str x
|.bytes b _=>Y<|.byt b
|.float b _=>Y<|.flt b
|.ref a=>Y<|.ref a
|.type n=>Y<|.ty n
|_=>J
theorem RelV.abs {x:V}{u:L}(r:RelV x u):DF u=Y x:=by
 cases x with
 |non=>cases r;rfl
 |bl _=>cases r;rfl
 |int _=>obtain⟨t,rfl⟩:=r;rfl
 |str _=>obtain⟨t,rfl⟩:=r;rfl
 |byt _=>obtain⟨t,rfl⟩:=r;rfl
 |flt _=>obtain⟨t,rfl⟩:=r;rfl
 |ref _=>cases r;rfl
 |ty _=>cases r;rfl
theorem RelV.inj {x y:V}{u:L}(r:RelV x u)(q:RelV y u):x=y:=EC<|r.abs.symm.trans q.abs
theorem Vals.inj:∀{b c:U V} {a:U L},Vals b a->Vals c a->b=c
|_,_,_,.nil,.nil=>rfl
|_,_,_,.cons r t,.cons d e=>by rw[r.inj d,Vals.inj t e]
section
variable {X:Cx}{pins:U (IY×Obj)}{σ:St}{H:Hp}{s:DZ}{a:IY}{xs ys:U V}
theorem SqL.of {K:D1}(h:H a=Y (.lst xs)):SqL K H a xs:=.inl<|.inl h
theorem SqT.of {K:D1}(h:H a=Y (.tup xs)):SqT K H a xs:=.inl<|.inl h
theorem Inv.list (b:Inv X pins σ H s)(h:SqL X.K H a xs):∃c:U L,Vals xs c/\PlainL s.heap a c.toArray/\xs.length<=sizeLine:=by
 rcases h with h|⟨o,c,n,hk,hc,hd,hs,hz,r⟩
 .obtain ⟨z,c,n,r,e⟩:=h.ok b.hok;exact⟨c,r,⟨_,n,e,rfl,rfl,rfl⟩,z⟩
 .refine ⟨c.toList,r,⟨o,n,b.kIn a o hk,hc,hd,by simpa using hs⟩,?_⟩;have e:=r.length;simp only[GS] at e;lia
theorem Inv.tuple (b:Inv X pins σ H s)(h:SqT X.K H a xs):∃c:U L,Vals xs c/\Jz s.heap a c.toArray/\xs.length<=sizeLine:=by
 rcases h with h|⟨o,c,n,hk,hc,hs,hz,r⟩
 .obtain ⟨z,c,r,p⟩:=h.ok b.hok;exact⟨c,r,p,z⟩
 .refine ⟨c.toList,r,⟨o,b.kIn a o hk,hc,n,by simpa using hs⟩,?_⟩;have e:=r.length;simp only[GS] at e;lia
theorem Inv.list_inj (b:Inv X pins σ H s)(h:SqL X.K H a xs)(k:SqL X.K H a ys):xs=ys:=by
 obtain⟨f,r,⟨o,n,e,_,_,d⟩,_⟩:=b.list h;obtain⟨c,l,⟨p,m,i,_,_,g⟩,_⟩:=b.list k;rw[e] at i;cases i;rw[d] at g;injection g with j _
 have:f=c:=by simpa using Jk HY j
 subst this;exact r.inj l
theorem Inv.tuple_inj (b:Inv X pins σ H s)(h:SqT X.K H a xs)(k:SqT X.K H a ys):xs=ys:=by
 obtain⟨f,r,⟨o,e,_,n,d⟩,_⟩:=b.tuple h;obtain⟨c,l,⟨p,i,_,m,g⟩,_⟩:=b.tuple k;rw[e] at i;cases i;rw[d] at g;injection g with j _
 have:f=c:=by simpa using Jk HY j
 subst this;exact r.inj l
end
abbrev Cx.wish (X:Cx)(E:L->DZ->Prop):Cx:={X with xe:=E}
abbrev Cx.nox (X:Cx):Cx:=X.wish λ_ _=>Jh
theorem Cx.Ok.wish {X:Cx}(ok:X.Ok)(E:L->DZ->Prop):(X.wish E).Ok:=
 ⟨ok.mod,ok.kind,ok.glob,ok.blt,ok.above,ok.inj,ok.has,ok.cab,ok.hd,ok.frames,ok.stk,ok.exf,ok.bs,ok.bsz,ok.noex,ok.exfs,ok.funs,ok.frf⟩
theorem Cx.Ok.unwish {X:Cx}{E:L->DZ->Prop}(ok:(X.wish E).Ok):X.Ok:=
 ⟨ok.mod,ok.kind,ok.glob,ok.blt,ok.above,ok.inj,ok.has,ok.cab,ok.hd,ok.frames,ok.stk,ok.exf,ok.bs,ok.bsz,ok.noex,ok.exfs,ok.funs,ok.frf⟩
section
variable {X:Cx}{pins:U (IY×Obj)}{σ:St}{H:Hp}{s:DZ}{E:L->DZ->Prop}
theorem Inv.wish (a:Inv X pins σ H s)(E:L->DZ->Prop):Inv (X.wish E) pins σ H s:=⟨a.ok.wish E,a.os,a.bare,a.base,a.loc,a.cell,a.free,a.freeC,a.pin,a.hok,a.len⟩
theorem Inv.unwish (a:Inv (X.wish E) pins σ H s):Inv X pins σ H s:=⟨a.ok.unwish,a.os,a.bare,a.base,a.loc,a.cell,a.free,a.freeC,a.pin,a.hok,a.len⟩
theorem SP.unwish {D:bw}{f:Flow}{d:DZ}(h:SP (X.wish E) pins D f d):SP X pins D f d:=by
 cases f with
 |next=>obtain⟨b,c,a,q⟩:=h;exact⟨b,c,a.unwish,q⟩
 |brk=>obtain⟨b,c,a,q⟩:=h;exact⟨b,c,a.unwish,q⟩
 |cont=>obtain⟨b,c,a,q⟩:=h;exact⟨b,c,a.unwish,q⟩
 |ret u=>obtain⟨v,b,c,a,r,q⟩:=h;exact⟨v,b,c,a.unwish,r,q⟩
theorem PSs.nox {b:U Jj}{t:TS}(h:PSs X.nox b t):PSs X b t:=λpins s σ H D a c=>
 Ej (h pins s σ H D (a.wish _) c) (λ_ _ q=>q.unwish) λ_ _ z=>EY z
end
section
variable {X:Cx}{st:Jj}{rest:U Jj}{t u:TS}{e:Je}{te:TE}{pos:Pos}
def vH:TS:=λD a H=>D.nx a H
def Cy (t u:TS):TS:=λD a H=>t {D with nx:=u D} a H
theorem ic:PSs X [] vH:=λ_ _ b H _ a h=>GK ⟨b,H,a,h⟩
theorem a7 (i:PS X st t)(j:PSs X rest u):PSs X (st::rest) (Cy t u):=by
 intro b s l H D a h;refine wpAny_execs_cons<|thn (i b s l H {D with nx:=u D} a h) λf k q=>?_;cases f with
 |next=>obtain⟨c,d,g,q⟩:=q;exact j b k c d D g q
 |ret v=>exact q
 |brk=>exact q
 |cont=>exact q
theorem b5 (c:PS X st t):PSs X [st] t:=by
 intro b s d H D a h;refine wpAny_execs_cons<|thn (c b s d H D a h) λf g q=>?_;cases f with
 |next=>exact GK q
 |ret v=>exact q
 |brk=>exact q
 |cont=>exact q
theorem Inv.quiet {b:U<|IY×Obj}{c:St}{H:Hp}{s:DZ}(a:Inv X b c H s):interactive X.env=false:=by simp[interactive,a.ok.kind]
def vJ (te:TE):TS:=λD a H=>te a H λ_ b=>D.nx a b
theorem cQ (g:PE X e te)(i:EF e J pos.line X.env=pure false:=by rfl):PS X (.Expr e pos) (vJ te):=by intro b s c H D a h;exact wpAny_Expr_any (thn (g b s c H _ a h) λv l ⟨x,d,f,k,j⟩=>⟨c,d,f,j⟩) a.quiet i
def B9 (te:TE):TS:=λD a H=>te a H D.rt
theorem oE (g:PE X e te):PS X (.Return (Y e) pos) (B9 te):=by intro b s c H D a h;exact wpAny_Return_some<|thn (g b s c H _ a h) λv k ⟨x,d,f,j,i⟩=>⟨x,c,d,f,j,i⟩
noncomputable def AE (c:TT)(t u:TS):TS:=λD a H=>c a H λb d=>if b=DY then t D a d else u D a d
theorem qO {c:Je}{a b:U Jj}{n:TT}(r:PT X c n)(o:PSs X a t)(p:PSs X b u):PS X (.If c a b pos) (AE n t u):=by
 intro g s i H D f h;refine wpAny_If<|thn (r g s i H _ f h) λd m ⟨j,k,l⟩=>?_;cases d with
 |true=>exact o g m i j D k l
 |false=>exact p g m i j D k l
end
abbrev TG:=V->St->Hp->(St->Hp->Prop)->Prop
abbrev TGs:=U V->St->Hp->(St->Hp->Prop)->Prop
def PG (X:Cx)(a:Je)(t:TG):Prop:=
 ∀(b:U<|IY×Obj) (s:DZ) (e:St) (H:Hp) (v:V) (u:L) (Q:St->Hp->Prop),Inv X b e H s->RelV v u->t v e H Q ->
  Ja (D4 X.prog X.w) X.A (Fg a X.env u) (λ_ f=>∃c d,Inv X b c d f/\Q c d) X.xe s
def PGs (X:Cx)(h:U Je)(t:TGs):Prop:=
 ∀(a:U<|IY×Obj) (s:DZ) (f:St) (H:Hp) (e:U V) (d:U L) (Q:St->Hp->Prop),Inv X a f H s->Vals e d->t e f H Q ->
  Ja (D4 X.prog X.w) X.A (assignInOrder ((FY h X.env).map (·.2)) d) (λ_ g=>∃b c,Inv X a b c g/\Q b c) X.xe s
section
variable {X:Cx}{pos:Pos}
def bQ (i:O):TG:=λv a H Q=>Q (a.set i<|Y v) H
theorem bc {i:O}{x:Str}(d:X.N.Nodup)(f:X.N[i]?=Y x)(hx:Loc X.env.scope x)(e:X.fn x=DY\/X.env.scope.names.lookup x=Y .local:=by first|exact .inl rfl|exact .inr rfl|assumption):PG X (.Name x pos) (bQ i):=by intro b s j H v u Q a r h;exact wpAny_assign_Name<|jt a d f hx r (λg c=>⟨_,H,c,h⟩) e
def rU:TGs:=λa b H Q=>a=[]/\Q b H
noncomputable def fG (t:TG)(u:TGs):TGs:=λc d H Q=>∃v r,c=v::r/\t v d H λa b=>u r a b Q
theorem gV:PGs X [] rU:=by intro b s c H f d Q a r h;obtain⟨e,h⟩:=h;subst e;cases r;exact assignInOrder_nil ⟨c,H,a,h⟩
theorem bY {e:Je}{c:U Je}{t:TG}{u:TGs}(i:PG X e t)(j:PGs X c u)
  (k:(FY (e::c) X.env).map (·.2)=Fg e X.env::(FY c X.env).map (·.2):=by rfl):PGs X (e::c) (fG t u):=by
 intro b s o H x p Q a r h;obtain⟨v,w,e1,h⟩:=h;subst e1;cases r with
 |cons r m=>rw[k];refine assignInOrder_cons<|thn (i b s o H _ _ _ a r h) λ_ n ⟨d,f,g,l⟩=>?_;exact j b n d f _ _ Q g m l
def uX (K:D1)(n:O)(t:TGs):TG:=λv c H Q=>∃a b,v=.ref a/\SqT K H a b/\b.length=n/\t b c H Q
theorem kI {f:U Je}{k:O}{t:TGs}{n:O}(w:X.calm=DY)(h:PGs X f t)
  (y:(FY f X.env).length=n:=by rfl) (g:(FY f X.env).findIdx? (·.1)=none:=by rfl):PG X (.Tuple f k pos) (uX X.K n t):=by
 intro d s l H v u Q c r i;obtain⟨a,F,e1,z,x,i⟩:=i;subst e1;cases r;obtain⟨D,j,A,G⟩:=c.tuple z;refine assign_Tuple_tuple (c.ok.hd w) A (by simp[y,<- x,j.length]) g λp hx=>?_;have m:Inv X d l H {s with heap:=p}:=c.kept (t':=s.toks) λb o e=>hx b o (Eh<|Heap.lt_size e) e;exact h d _ l H F _ Q m (by simpa using j) i
def lV (c:TE)(g:TG):TS:=λD a H=>c a H λx b=>g x a b D.nx
theorem yR {c e:Je}{d:TE}{g:TG}(l:PE X e d)(m:PG X c g)(n:swapsWithSole [c] e pos.line X.env=pure false:=by rfl)(o:swappedStores [c] e X.env=pure none:=by rfl)
  (k:(FY [c] X.env).map (·.2)=[Fg c X.env]:=by rfl):PS X (.Assign [c] e pos) (lV d g):=by
 intro b s f H D a h;refine wpAny_Assign_stores (thn (l b s f H _ a h) λv t ⟨x,i,j,r,p⟩=>?_) n o;rw[k];exact thn (m b t f i x v _ j r p) λ_ u q=>q
theorem kE {i:O}{x:Str}{e:Je}{d:TE}{b:Pos}(k:X.N.Nodup)(n:X.N[i]?=Y x)(hx:Loc X.env.scope x)(l:PE X e d)(o:EF e (Y<|.Name x b) pos.line X.env=pure false:=by rfl)(m:X.fn x=DY\/X.env.scope.names.lookup x=Y .local:=by first|exact .inl rfl|exact .inr rfl|assumption):
  PS X (.Assign [.Name x b] e pos) (lV d<|bQ i):=by
 intro c s t H D a h;refine wpAny_Assign_Name (thn (l c s t H _ a h) λv u ⟨y,f,g,r,p⟩=>?_) o;exact jt g k n hx r (λw j=>⟨_,f,j,p⟩) m
end
structure It where
 go:O->Hp->Prop
 yld:O->Hp->V->Hp->Prop
 stop:O->Hp->Prop
def fR (X:Cx)(a:U<|IY×Obj)(H:Hp)(b:IY):Prop:=
 H b=J/\b≠X.env.locals/\b ∉ X.fs/\(b∈X.ex\/X.s₀.heap.objs.size<=b)/\(∀x c,X.env.cells.lookup x=Y c->c≠b)/\∀p∈X.pn++a,p.1≠b
theorem Inv.fpOk {X:Cx}{d:U<|IY×Obj}{i:St}{H g:Hp}{s:DZ}{b:IY}(a:Inv X d i H s)(f:s.heap.objs.size<=b)(h:g b=J):fR X d g b:=by
 refine⟨h,Fi<|Es a.lt f,a.nofs f,.inr<|Ed a.sz f,λx c e z=>?_,λp hp z=>?_⟩
 .obtain ⟨v,q⟩:=a.cell x c e;exact Jb (Es q.lt<|by rw[z];exact f)<|F6 _
 .exact Jb (Es (Heap.lt_size (a.pin p hp).1)<|by rw[z];exact f) (F6 _)
structure j6 (P:I9)(w:D3)(K:D1)(tg:Je)(J:It)(fp:U IY)(it:IY)(tn:O->Jf->Prop):Prop where
 mem:it∈fp
 obj:∀i h,tn i h->∀b∈fp,∃o,h.get? b=Y o/\∀v,o.data≠.cell v
 keep:∀i h h',tn i h->(∀b∈fp,∀o,h.get? b=Y o->h'.get? b=Y o)->tn i h'
 item:∀(X:Cx),X.prog=P->X.w=w->X.K=K->X.calm=DY->∀(i:O) (pins:U (IY×Obj)) (s:DZ) (σ:St) (H:Hp) (E:L->DZ->Prop),Inv X pins σ H s->(∀b∈fp,fR X pins H b)->tn i s.heap->J.go i H ->
  Ja (D4 P w) X.A (Ff (.ref it)) (λr s1=>∃u,r=Y u /\
   Ja (D4 P w) X.A (F3 tg (.ref it) u) (λ_ s2=>∃x H',Inv X pins σ H' s2/\RelV x u/\J.yld i H x H'/\tn (i+1) s2.heap/\∀b∈fp,H' b=DW) E s1) E s
 done:∀(X:Cx),X.prog=P->X.w=w->X.K=K->X.calm=DY->∀(i:O) (pins:U (IY×Obj)) (s:DZ) (σ:St) (H:Hp) (E:L->DZ->Prop),Inv X pins σ H s->(∀b∈fp,fR X pins H b)->tn i s.heap->J.stop i H ->
  Ja (D4 P w) X.A (Ff (.ref it)) (λr s1=>r=DW/\Inv X pins σ H s1) E s
 self:∀(A:D9) (i:O) (s:DZ) (Q:L->DZ->Prop) (E:L->DZ->Prop),tn i s.heap->Q (.ref it) s->Ja (D4 P w) A (pyIter (.ref it)) Q E s
abbrev TI:=St->Hp->(It->Hp->Prop)->Prop
def PIE (X:Cx)(c:U<|IY×Obj)(j:St)(i:Je)(R:It->Hp->Prop)(e:L)(h:DZ):Prop:=
 ∃(g:IY) (f:U IY) (tn:O->Jf->Prop) (a:It) (d:Hp),e=.ref g/\Inv X c j d h/\j6 X.prog X.w X.K i a f g tn/\tn 0 h.heap/\(∀b∈f,fR X c d b)/\R a d
def PI (X:Cx)(e b:Je)(f:TI):Prop:=
 ∀(a:U<|IY×Obj) (s:DZ) (c:St) (H:Hp) (R:It->Hp->Prop),Inv X a c H s->f c H R ->
  Ja (D4 X.prog X.w) X.A (Jl b X.env) (λv d=>Ja (D4 X.prog X.w) X.A (pyIter v) (PIE X a c e R) X.xe d) X.xe s
theorem qa {M:Model}{A:D9}{E:L->DZ->Prop}{s:DZ}{c:Je}{b:IY}{u:L}{o:Obj}{n:Jm}{d:Jo L}{Q:Unit->DZ->Prop}(ho:s.heap.get? b=Y o)(e:o.cls=.type n)(f:o.data=.fields d)
  (g:["enumerate","zip","dict_itemiterator","dict_reverseitemiterator","odict_iterator","itertools.zip_longest","itertools.pairwise"].contains n=DX) (a:Q () s):Ja M A (F3 c (.ref b) u) Q E s:=by
 unfold F3
 cases c<;>first
  |exact D6 a
  | (cases u<;>first
    |exact D6 a
    | (refine D2 (wpAny_load ho ?_)
       rw[e,f];show Ja M A (if(["enumerate","zip","dict_itemiterator","dict_reverseitemiterator","odict_iterator","itertools.zip_longest","itertools.pairwise"].contains n&&d[0]?==Y (JN _))=DY then _ else _) Q E s;rw[Jd<|by intro h;rw[g,Bool.false_and] at h;cases h];exact D6 a))
def Itl (K:D1)(a:IY):It:=
 ⟨λi H=>∃b x,SqL K H a b/\b[i]?=Y x,λi H x c=>c=H/\∀b,SqL K H a b->b[i]?=Y x,λi H=>∃b,SqL K H a b/\b.length<=i⟩
def Itt (K:D1)(a:IY):It:=
 ⟨λi H=>∃b x,SqT K H a b/\b[i]?=Y x,λi H x c=>c=H/\∀b,SqT K H a b->b[i]?=Y x,λi H=>∃b,SqT K H a b/\b.length<=i⟩
def Itr (lo:I)(n:O):It:=⟨λi _=>i<n,λi H x a=>a=H/\x=.int (lo+i),λi _=>n<=i⟩
theorem mi {P:I9}{w:D3}{K:D1}{tg:Je}(a m:IY):j6 P w K tg (Itl K a) [m] m (λi h=>h.IsListIter m a i) where
 mem:=by simp
 obj:=λi h g b l=>by
  have e:b=m:=by simpa using l
  subst e;obtain⟨o,e,c,d⟩:=g;exact⟨o,e,λv z=>by rw[d] at z;cases z⟩
 keep:=λi h r g k=>g.at λo e=>k m (by simp) o e
 item:=by intro X Q hw N hc i j s σ H E f t g Z;subst Q hw N;obtain⟨xs,x,y,hx⟩:=Z;obtain⟨its,rv,p,hz⟩:=f.list y;obtain⟨u,hu,ru⟩:=rv.get hx;obtain⟨A,D,f2,F,G,M⟩:=t m (by simp);refine wpAny_pyNext_list_item g p.isList (x:=u) (by simpa using hu) λr n sb=>?_;have I1:Inv X j σ H {s with heap:=r}:=f.turned (t':=s.toks) (λb o l e=>(sb.2 b l).trans e) A D F G M;obtain⟨o,e,c,d⟩:=id n;exact⟨u,rfl,qa (s:={s with heap:=r}) e c d (by decide) ⟨x,H,I1,ru,⟨rfl,λys hy=>by rw[f.list_inj hy y];exact hx⟩,n,λb l=>(t b l).1⟩⟩
 done:=by intro X Q hw N hc i j s σ H E f t g Z;subst Q hw N;obtain⟨xs,y,hx⟩:=Z;obtain⟨its,rv,p,hz⟩:=f.list y;obtain⟨A,D,f2,F,G,M⟩:=t m (by simp);have hl:=rv.length;exact wpAny_pyNext_list_end (f.ok.hd hc) g p.isList (by simp;lia) λr eb=>⟨rfl,f.turned (t':=s.toks) (λb o l e=>eb b o l e) A D F G M⟩
 self:=λ_ _ _ _ _ g h=>wpAny_pyIter_listiter g h
theorem jY {P:I9}{w:D3}{K:D1}{tg:Je}(a m:IY):j6 P w K tg (Itt K a) [m] m (λi h=>h.IsTupleIter m a i) where
 mem:=by simp
 obj:=λi h g b l=>by
  have e:b=m:=by simpa using l
  subst e;obtain⟨o,e,c,d⟩:=g;exact⟨o,e,λv z=>by rw[d] at z;cases z⟩
 keep:=λi h t g k=>g.at λo e=>k m (by simp) o e
 item:=by intro X Z hw Q hc i j s σ H E f y g hg;subst Z hw Q;obtain⟨xs,x,A,hx⟩:=hg;obtain⟨n,rv,p,hz⟩:=f.tuple A;obtain⟨u,hu,ru⟩:=rv.get hx;obtain⟨D,F,f2,G,M,N⟩:=y m (by simp);refine wpAny_pyNext_tuple_item g (show s.heap.IsTuple a n.toArray from p) (x:=u) (by simpa using hu) λt r sb=>?_;have I1:Inv X j σ H {s with heap:=t}:=f.turned (t':=s.toks) (λb o l e=>(sb.2 b l).trans e) D F G M N;obtain⟨o,e,c,d⟩:=id r;exact⟨u,rfl,qa (s:={s with heap:=t}) e c d (by decide) ⟨x,H,I1,ru,⟨rfl,λys hy=>by rw[f.tuple_inj hy A];exact hx⟩,r,λb l=>(y b l).1⟩⟩
 done:=by intro X Z hw Q hc i j s σ H E f y g hg;subst Z hw Q;obtain⟨xs,A,hx⟩:=hg;obtain⟨n,rv,p,hz⟩:=f.tuple A;obtain⟨D,F,f2,G,M,N⟩:=y m (by simp);have hl:=rv.length;exact wpAny_pyNext_tuple_end (f.ok.hd hc) g (show s.heap.IsTuple a n.toArray from p) (by simp;lia) λt eb=>⟨rfl,f.turned (t':=s.toks) (λb o l e=>eb b o l e) D F G M N⟩
 self:=λ_ _ _ _ _ g h=>wpAny_pyIter_tupleiter g h
theorem jJ {P:I9}{w:D3}{K:D1}{tg:Je}(d:IY)(lo:I)(n:O):j6 P w K tg (Itr lo n) [d] d (λi h=>IsRangeIter h d (lo+(i:O) * 1) ((n:I)-(i:O)) 1) where
 mem:=by simp
 obj:=λi h c b g=>by
  have e:b=d:=by simpa using g
  subst e
  exact⟨_,c,λv z=>by
   have z':Data.fields _=Data.cell v:=z;cases z'⟩
 keep:=λi h l c k=>k d (by simp) _ c
 item:=by intro X D M A F i f s Q H E a m c G;subst D M A;obtain⟨p,r,f2,u,x,y⟩:=m d (by simp);have W:=Walks.range (prog:=X.prog) (w:=X.w) (a.ok.hd F) d lo 1 n;refine W.item i s _ _ G c λv l N hv j kk=>?_;obtain⟨t,rfl⟩:=hv;have Z:Inv X f Q H {s with heap:=l,toks:=N}:=a.turned (λb o g e=>kk b o (by simpa using g) e) p r u x y;refine⟨_,rfl,qa (s:={s with heap:=l,toks:=N}) (n:="range_iterator") j rfl rfl (by decide) ⟨.int<|lo+i,H,Z,⟨t,?_⟩,⟨rfl,rfl⟩,j,λb g=>(m b g).1⟩⟩;rw[Int.mul_one]
 done:=by intro X D M A F i f s Q H E a m c G;subst D M A;obtain⟨p,r,f2,u,x,y⟩:=m d (by simp);exact wpAny_pyNext_range_end (a.ok.hd F) c (by have:n<=i:=G;lia) λl eb=>⟨rfl,a.turned (t':=s.toks) (λb o g e=>eb b o g e) p r u x y⟩
 self:=λ_ _ _ _ _ c h=>wpAny_pyIter_rangeiter c h
section
variable {X:Cx}{tg:Je}
def vU (K:D1)(c:TE):TI:=λe H R=>c e H λx b=>∃a,x=.ref a/\(∃d,SqL K b a d)/\R (Itl K a) b
def CC (K:D1)(c:TE):TI:=λe H R=>c e H λx b=>∃a,x=.ref a/\(∃d,SqT K b a d)/\R (Itt K a) b
theorem k7 {l:Je}{i:TE}(m:PE X l i):PI X tg l (vU X.K i):=by
 intro d s w H R c h;refine thn (m d s w H _ c h) λv g ⟨x,j,f,u,t⟩=>?_;obtain⟨a,e,⟨A,n⟩,q⟩:=t;subst e;cases u;obtain⟨r,z,p,y⟩:=f.list n;refine Gr p.isList ?_;refine⟨g.heap.objs.size,[g.heap.objs.size],_,_,j,rfl,f.kept (t':=g.toks) λb o e=>Heap.get?_push_of_some _ e,mi a _,⟨_,Heap.get?_push_size _ rfl,rfl,rfl⟩,λb k=>?_,q⟩;have e:b=g.heap.objs.size:=by simpa using k
 subst e;exact f.fpOk (D7 _)<|f.hok.fresh<|D7 _
theorem nW {l:Je}{j:TE}(n:PE X l j):PI X tg l (CC X.K j):=by
 intro d s w H R c h;refine thn (n d s w H _ c h) λv f ⟨x,k,g,u,t⟩=>?_;obtain⟨a,e,⟨A,r⟩,q⟩:=t;subst e;cases u;obtain⟨i,z,p,y⟩:=g.tuple r;refine Ft (show f.heap.IsTuple a i.toArray from p) ?_;refine⟨f.heap.objs.size,[f.heap.objs.size],_,_,k,rfl,g.kept (t':=f.toks) λb o e=>Heap.get?_push_of_some _ e,jY a _,⟨_,Heap.get?_push_size _ rfl,rfl,rfl⟩,λb m=>?_,q⟩;have e:b=f.heap.objs.size:=by simpa using m
 subst e;exact g.fpOk (D7 _)<|g.hok.fresh<|D7 _
theorem oF {d:U<|IY×Obj}{h:St}{H:Hp}{s:DZ}{R:It->Hp->Prop}{E:L->DZ->Prop}{lo c:I}{t u v:Tok}{g:O}(a:Inv X d h H s)(i:-(2 ^ 62)<=lo)(j:lo<2 ^ 62)(k:-(2 ^ 62)<=c)(l:c<2 ^ 62)
  (q:R (Itr lo (c-lo).toNat) H):Ja (D4 X.prog X.w) X.A (pyIter<|.ref s.heap.objs.size) (PIE X d h tg R) E {s with heap:=s.heap.push {cls:=.type "range",data:=.fields #[.int lo t,.int c u,.int 1 v]},toks:=g}:=by
 refine wpAny_pyIter_range (IsRange.new ..) (small_one i j k l) ?_;have f:Inv X d h H {s with heap:=s.heap.push {cls:=.type "range",data:=.fields #[.int lo t,.int c u,.int 1 v]},toks:=g}:=a.kept λb o e=>Heap.get?_push_of_some _ e
 refine⟨(s.heap.push {cls:=.type "range",data:=.fields #[.int lo t,.int c u,.int 1 v]}).objs.size,[(s.heap.push {cls:=.type "range",data:=.fields #[.int lo t,.int c u,.int 1 v]}).objs.size],_,_,H,rfl,
  f.kept (t':=g) λb o e=>Heap.get?_push_of_some _ e,jJ _ lo (c-lo).toNat,?_,λb m=>?_,q⟩
 .have e1:lo+((0:O):I) * 1=lo:=by simp
  have e2:(((c-lo).toNat:O):I)-((0:O):I)=Builtin.Range.rangeSize lo c 1:=by rw[rangeSize_one];split<;>lia
  show IsRangeIter _ _ (lo+((0:O):I) * 1) ((((c-lo).toNat:O):I)-((0:O):I)) 1;rw[e1,e2];exact Heap.get?_push_size _ rfl
 .have e:b=(s.heap.push { cls:=.type "range",data:=.fields #[.int lo t,.int c u,.int 1 v] }).objs.size:=by simpa using m
  subst e;exact f.fpOk (D7 _)<|f.hok.fresh<|D7 _
def vI (b:TA):TI:=λd H R=>b d H λc a=>∃j:I,c=[.int j]/\-(2 ^ 62)<=j/\j<2 ^ 62/\R (Itr 0 j.toNat) a
theorem mm {a:Je}{g:TA}{p d:Pos}(l:Gl X "range")(m:X.mg "range"=J)(k:PA X [a] g)(n:D5 [a] X.env=[(DX,Jl a X.env)]:=by rfl):PI X tg (.Call (.Name "range" p) [a] [] d) (vI g):=by
 intro c s w H R b h;refine Call_<|cY b l m boot_range<|GD (thn (k d c s w H _ b h) λz y ⟨A,x,i,u,f⟩=>?_) n rfl;obtain⟨j,e,f,o,q⟩:=f;subst e;cases u with
 |cons r v=>cases v;obtain⟨t,rfl⟩:=r;exact call_range_1<|oF i (by lia) (by lia) f o<|by simpa using q
def BV (l:TI)(g:TG)(k:TS):TS:=λD b H=>l b H λa h=>∃W:O->O->St->Hp->Prop,(∃m,W 0 m b h)/\∀i m b H,W i m b H ->
 (a.stop i H/\D.nx b H)\/(a.go i H/\∃N:St->Hp->Prop,(∀d c,N d c->∃f,f<m/\W (i+1) f d c)/\∀x c,a.yld i H x c->g x b c λe j=>k {D with nx:=N,ct:=N,bk:=D.nx} e j)
noncomputable def eo (a:U IY)(h:Jf):U (IY×Obj):=a.filterMap λb=>(h.get? b).map λo=>(b,o)
theorem a9 {a:U IY}{h:Jf}{b:IY}{o:Obj}(c:b∈a)(e:h.get? b=Y o):(b,o)∈eo a h:=HU.mpr ⟨b,c,by rw[e];rfl⟩
theorem ng {a:U IY}{h:Jf}{p:IY×Obj}(hp:p∈eo a h):p.1∈a/\h.get? p.1=Y p.2:=by
 obtain⟨b,d,e⟩:=HU.mp hp;cases q:h.get? b with
 |none=>rw[q] at e;cases e
 |some o=>rw[q] at e;have c:(b,o)=p:=EC e;subst c;exact⟨d,q⟩
theorem Inv.pinned {c:U<|IY×Obj}{i:St}{H:Hp}{s:DZ}{f:U IY}(a:Inv X c i H s)(m:∀b∈f,fR X c H b)(ho:∀b∈f,∃o,s.heap.get? b=Y o/\∀v,o.data≠.cell v):Inv X (c++eo f s.heap) i H s:=
 a.pins_of λp hp=>(Gv.mp hp).elim (λz=>a.pin p<|Et _ z) λz=>by obtain⟨h,e⟩:=ng z;obtain⟨j,k,l,_⟩:=m p.1 h;obtain⟨o,g,d⟩:=ho p.1 h;rw[e] at g;cases g;exact⟨e,j,k,l,d⟩
theorem Inv.unpinned {b d:U<|IY×Obj}{c:St}{H:Hp}{s:DZ}(a:Inv X (b++d) c H s):Inv X b c H s:=a.pins_of λp hp=>a.pin p<|Et _<|Ge _ hp
theorem ig {y:Je}{P:U Jj}{wi:TI}{g:TG}{tb:TS}{pos:Pos}(hp:PassesOwn (D4 X.prog X.w) X.A X.env X.xe)(hc:X.calm=DY)(hi:PI X tg y wi)(hg:PG X tg g)(t:PSs X P tb)
  (hs:∀x,E2 y X.env x=pure x:=by intro _;rfl):PS X (.For tg y P [] pos) (BV wi g tb):=by
 intro j s σ H D a h;refine wpAny_For (thn (hi j s σ H _ a h) λv s1 h1=>thn h1 λitv s2 h2=>?_) hs;obtain⟨it,fp,tn,c,H2,e,I2,T,st2,f2,W,⟨m0,w0⟩,turn⟩:=h2;subst e
 -- what stays DY of the iterator's objects through the loop
 have z:∀{M:Hp},(∀b∈fp,M b=J)->∀b∈fp,fR X j M b:=λhn b t=>⟨hn b t,(f2 b t).2⟩;refine codeAny_forLoop_any (λn s'=>∃i F M,Inv X j F M s'/\tn i s'.heap/\(∀b∈fp,M b=J)/\W i n F M) ?_ m0 ⟨0,σ,H2,I2,st2,λb t=>(f2 b t).1,w0⟩;rintro n s3 ⟨i,G,H3,I3,st3,fr3,w3⟩;rcases turn i n G H3 w3 with⟨stop,qn⟩|⟨go,N,hN,step⟩
 .refine Gp hp (thn (T.done X rfl rfl rfl hc i j s3 G H3 X.xe I3 (z fr3) st3 stop) fun r s4 ⟨hr,I4⟩=>?_);subst hr;exact GK ⟨G,H3,I4,qn⟩
 .refine Gp hp (thn (T.item X rfl rfl rfl hc i j s3 G H3 X.xe I3 (z fr3) st3 go) fun r s4 ⟨u,hr,h4⟩=>?_);subst hr;refine Gp hp (thn h4 λ_ s5 ⟨x,H5,I5,r5,y5,Z,fr5⟩=>?_);have I5':=I5.pinned (z fr5) (T.obj _ _ Z);refine Gp hp (thn (hg _ s5 G H5 x u _ I5' r5 (step x H5 y5)) λ_ s6 ⟨σ6,H6,I6,q6⟩=>?_);refine Gp hp (thn (t _ s6 σ6 H6 _ I6 q6) λf s7 Q=>?_);have again:∀{k:St} {l:Hp},Inv X (j++eo fp s5.heap) k l s7->N k l->∃m,m<n/\∃i F M,Inv X j F M s7/\tn i s7.heap/\(∀b∈fp,M b=J)/\W i m F M:=λ{k l} p n7=>by obtain⟨m',hm,w7⟩:=hN k l n7;refine⟨m',hm,i+1,k,l,p.unpinned,T.keep _ _ _ Z λb t o e=>(p.pin (b,o) (Et _ (Et _ (a9 t e)))).1,λb t=>?_,w7⟩;obtain⟨o,e,d⟩:=T.obj _ _ Z b t;exact(p.pin (b,o) (Et _ (Et _ (a9 t e)))).2.1
  cases f with
  |next=>obtain⟨k,l,p,n7⟩:=Q;exact again p n7
  |cont=>obtain⟨k,l,p,n7⟩:=Q;exact again p n7
  |brk=>obtain⟨k,l,p,Q⟩:=Q;exact⟨k,l,p.unpinned,Q⟩
  |ret v=>obtain⟨x7,k,l,p,r7,Q⟩:=Q;exact⟨x7,k,l,p.unpinned,r7,Q⟩
end
theorem pR {K:D1}{a:IY}{xs:U V}{g:TG}{n:TS}{D:bw}{b:St}{H:Hp}(c:O->St->Hp->Prop)(o:c 0 b H)(t:∀i b H,i<=xs.length->c i b H->SqL K H a xs)
  (u:∀i x b H,xs[i]?=Y x->c i b H->g x b H λh k=>n {D with nx:=c<|i+1,ct:=c<|i+1,bk:=D.nx} h k) (r:∀b H,c xs.length b H->D.nx b H):
  ∃W:O->O->St->Hp->Prop,(∃m,W 0 m b H)/\∀i m b H,W i m b H ->
   ((Itl K a).stop i H/\D.nx b H)\/((Itl K a).go i H/\∃N:St->Hp->Prop,(∀f d,N f d->∃l,l<m/\W (i+1) l f d)/\∀x d,(Itl K a).yld i H x d->g x b d λh k=>n {D with nx:=N,ct:=N,bk:=D.nx} h k):=by
 refine⟨λi m b H=>m=xs.length-i/\i<=xs.length/\c i b H,⟨xs.length,by simp,EJ _,o⟩,?_⟩;rintro i m b H ⟨rfl,s,p⟩;have q:=t i b H s p;by_cases j:i<xs.length
 .refine .inr ⟨⟨xs,xs[i],q,by simp [j]⟩,c<|i+1,fun f d v=>⟨xs.length-(i+1),by lia,rfl,j,v⟩,fun x d y=>?_⟩;obtain⟨e,y⟩:=y;subst e;exact u i x b _ (y xs q) p
 .have e:i=xs.length:=by lia
  subst e;exact .inl ⟨⟨xs,q,D7 _⟩,r b H p⟩
theorem ur {K:D1}{a:IY}{xs:U V}{g:TG}{n:TS}{D:bw}{b:St}{H:Hp}(c:O->St->Hp->Prop)(o:c 0 b H)(t:∀i b H,i<=xs.length->c i b H->SqT K H a xs)
  (u:∀i x b H,xs[i]?=Y x->c i b H->g x b H λh k=>n {D with nx:=c<|i+1,ct:=c<|i+1,bk:=D.nx} h k) (r:∀b H,c xs.length b H->D.nx b H):
  ∃W:O->O->St->Hp->Prop,(∃m,W 0 m b H)/\∀i m b H,W i m b H ->
   ((Itt K a).stop i H/\D.nx b H)\/((Itt K a).go i H/\∃N:St->Hp->Prop,(∀f d,N f d->∃l,l<m/\W (i+1) l f d)/\∀x d,(Itt K a).yld i H x d->g x b d λh k=>n {D with nx:=N,ct:=N,bk:=D.nx} h k):=by
 refine⟨λi m b H=>m=xs.length-i/\i<=xs.length/\c i b H,⟨xs.length,by simp,EJ _,o⟩,?_⟩;rintro i m b H ⟨rfl,s,p⟩;have q:=t i b H s p;by_cases j:i<xs.length
 .refine .inr ⟨⟨xs,xs[i],q,by simp [j]⟩,c<|i+1,fun f d v=>⟨xs.length-(i+1),by lia,rfl,j,v⟩,fun x d y=>?_⟩;obtain⟨e,y⟩:=y;subst e;exact u i x b _ (y xs q) p
 .have e:i=xs.length:=by lia
  subst e;exact .inl ⟨⟨xs,q,D7 _⟩,r b H p⟩
abbrev R2:=V->V->Hp->VK->Prop
def OpR (X:Cx)(f:L->L->Sem L)(r:R2):Prop:=
 ∀(a:U<|IY×Obj) (s:DZ) (b:St) (H:Hp) (x y:V) (v u:L) (Q:VK),Inv X a b H s->RelV x v->RelV y u->r x y H Q ->
  Ja (D4 X.prog X.w) X.A (f v u) (EP X a b Q) X.xe s
def dN (X:Cx)(f:L)(r:U V->Hp->VK->Prop):Prop:=
 ∀(a:U<|IY×Obj) (s:DZ) (d:St) (H:Hp) (c:U V) (b:U L) (Q:VK),Inv X a d H s->Vals c b->r c H Q ->
  Ja (D4 X.prog X.w) X.A (call f b) (EP X a d Q) X.xe s
def CI (X:Cx)(r:V->Hp->(IZ->Hp->Prop)->Prop):Prop:=
 ∀(a:U<|IY×Obj) (s:DZ) (b:St) (H:Hp) (x:V) (v:L) (Q:IZ->Hp->Prop),Inv X a b H s->RelV x v->r x H Q ->
  Ja (D4 X.prog X.w) X.A (truthy v) (TP X a b Q) X.xe s
noncomputable def tOp (r:R2)(d e:TE):TE:=λa H Q=>d a H λx b=>e a b λy c=>r x y c Q
def rI (C:I->I->Prop)(g:I->I->V):R2:=λx y H Q=>∃i j,x=.int i/\y=.int j/\C i j/\Q (g i j) H
noncomputable def rI0 (g:I->I->V):R2:=λx y H Q=>∃i j,x=.int i/\y=.int j/\Q (g i j) H
section
variable {X:Cx}{a b c:Je}{ta tb tc:TE}{pos:Pos}
theorem zP (p:PE X a ta)(r:PE X b tb){e:U<|IY×Obj}{s:DZ}{i:St}{H:Hp}{R:V->V->Hp->Prop}(d:Inv X e i H s)
  (h:ta i H λx m=>tb i m λy g=>R x y g) {Q:L->DZ->Prop} {f:L->L->Sem L}
  (t:∀v u l x y g,Inv X e i g l->RelV x v->RelV y u->R x y g->Ja (D4 X.prog X.w) X.A (f v u) Q X.xe l):
  Ja (D4 X.prog X.w) X.A (Jl a X.env) (λv j=>Ja (D4 X.prog X.w) X.A (Jl b X.env) (λu k=>Ja (D4 X.prog X.w) X.A (f v u) Q X.xe k) X.xe j) X.xe s:=by
 refine thn (p e s i H _ d h) λv M ⟨x,m,n,F,z⟩=>?_;refine thn (r e M i m _ n z) λu l ⟨y,g,o,G,D⟩=>?_;exact t v u l x y g o F G D
theorem jl {op:Operator}{r:R2}(ho:OpR X (E1 op) r)(i:PE X a ta)(j:PE X b tb):PE X (.BinOp a op b pos) (tOp r ta tb):=by intro e s n H Q d h;exact wpAny_BinOp<|zP i j d h λv u m x y f g k l q=>ho e m n f x y v u Q g k l q
theorem opI {f:L->L->Sem L}{C:I->I->Prop}{g:I->I->I}
  (rule:∀(i j:I) (t u:Tok) (s:DZ) (Q:L->DZ->Prop) (E:L->DZ->Prop),C i j->Q (.int (g i j) s.toks) {s with toks:=s.toks+1}->Ja (D4 X.prog X.w) X.A (f (.int i t)<|.int j u) Q E s):
  OpR X f (rI C λi j=>.int<|g i j):=by
 intro e s o H x y v u Q d l m h;obtain⟨i,j,rfl,rfl,k,q⟩:=h;obtain⟨t,rfl⟩:=l;obtain⟨n,rfl⟩:=m;exact rule i j t n s _ _ k ⟨.int<|g i j,H,d.tok _,⟨_,rfl⟩,q⟩
theorem Ad {f:L->L->Sem L}{g:I->I->I}
  (rule:∀(i j:I) (t u:Tok) (s:DZ) (Q:L->DZ->Prop) (E:L->DZ->Prop),Q (.int (g i j) s.toks) {s with toks:=s.toks+1}->Ja (D4 X.prog X.w) X.A (f (.int i t)<|.int j u) Q E s):
  OpR X f (rI0 λi j=>.int<|g i j):=by
 intro e s n H x y v u Q d k l h;obtain⟨i,j,rfl,rfl,q⟩:=h;obtain⟨t,rfl⟩:=k;obtain⟨m,rfl⟩:=l;exact rule i j t m s _ _ ⟨.int<|g i j,H,d.tok _,⟨_,rfl⟩,q⟩
theorem yG {f:L->L->Sem L}{g:I->I->IZ}
  (rule:∀(i j:I) (t u:Tok) (s:DZ) (Q:L->DZ->Prop) (E:L->DZ->Prop),Q (.bool<|g i j) s->Ja (D4 X.prog X.w) X.A (f (.int i t)<|.int j u) Q E s):
  OpR X f (rI0 λi j=>.bl<|g i j):=by
 intro e s n H x y v u Q d k l h;obtain⟨i,j,rfl,rfl,q⟩:=h;obtain⟨t,rfl⟩:=k;obtain⟨m,rfl⟩:=l;exact rule i j t m s _ _ ⟨.bl<|g i j,H,d,rfl,q⟩
def xA (i j:I):Prop:=0<j/\j<1073741824
theorem op_add:OpR X (E1 .Add) (rI0 λi j=>.int<|i+j):=Ad λ_ _ _ _ _ _ _ q=>add_int q
theorem xh:OpR X (E1 .Sub) (rI0 λi j=>.int<|i-j):=Ad λ_ _ _ _ _ _ _ q=>sub_int q
theorem sJ:OpR X (E1 .FloorDiv) (rI xA λi j=>.int<|i / j):=opI λi j _ _ _ _ _ d q=>by have e:(0:I)<j:=d.1;have f:j<1073741824:=d.2;exact floordiv_int (by lia) (by rw[Int.fdiv_eq_ediv_of_nonneg i<|by lia];exact q)<|.inl<|PyProof.noPylong_small<|by lia
theorem zG:OpR X (E1 .Mod) (rI (λ_ j=>0<j) λi j=>.int<|i % j):=opI λi j _ _ _ _ _ d q=>by have e:(0:I)<j:=d;exact mod_int' (by lia)<|by rw[Int.fmod_eq_emod_of_nonneg i<|by lia];exact q
end
section
variable {X:Cx}{a b c:Je}{ta tb tc:TE}{pos:Pos}
theorem xH {f:U<|IY×Obj}{h:St}{H:Hp}{s:DZ}{Q:VK}{k g:IZ}(d:Inv X f h H s)(q:Q (.bl k) H)(e:k=g):EP X f h Q (.bool g) s:=by subst e;exact⟨.bl k,H,d,rfl,q⟩
theorem vw:OpR X (ET .Lt) (rI0 λi j=>.bl<|decide (i<j)):=yG λ_ _ _ _ _ _ _ q=>lt_int q
theorem lQ:OpR X (ET .LtE) (rI0 λi j=>.bl<|decide (i<=j)):=yG λ_ _ _ _ _ _ _ q=>le_int q
theorem Az:OpR X (ET .Gt) (rI0 λi j=>.bl<|decide (j<i)):=yG λ_ _ _ _ _ _ _ q=>gt_int q
theorem tJ:OpR X (ET .IsNot) (λx y H Q=>y=.non/\Q (.bl<|!decide (x=.non)) H):=by
 intro e s i H x y v u Q d f g h;obtain⟨rfl,q⟩:=h;cases g;refine isnot_none_gen<|xH d q ?_
 cases x<;>first
  |(cases f;rfl)
  |(obtain⟨t,rfl⟩:=f;rfl)
theorem OpR.or {f:L->L->Sem L}{r g:R2}(h:OpR X f r)(l:OpR X f g):OpR X f (λx y H Q=>r x y H Q\/g x y H Q):=by
 intro e s k H x y v u Q d i j q;rcases q with q|q
 .exact h e s k H x y v u Q d i j q
 .exact l e s k H x y v u Q d i j q
theorem cV (b:Je){op:CmpOp}(h:op≠.In:=by decide)(d:op≠.NotIn:=by decide):FZ op b=false:=by
 have e1:(op==CmpOp.In)=false:=by cases op<;>first|rfl|exact Jb rfl h
 have e2:(op==CmpOp.NotIn)=false:=by cases op<;>first|rfl|exact Jb rfl d
 cases b<;>simp[FZ,e1,e2]
theorem uD {op:CmpOp}{r:R2}(ho:OpR X (ET op) r)(i:PE X a ta)(j:PE X b tb)(k:FZ op b=DX):PE X (.Compare a [op] [b] pos) (tOp r ta tb):=by intro e s o H Q d h;exact wpAny_Compare1 (zP i j d h λv u n x y f g l m q=>ho e n o f x y v u Q g l m q) k
noncomputable def pI (t:TE):TT:=λe H Q=>t e H λx d=>∃k,x=.bl k/\Q k d
theorem kR {op:CmpOp}{r:R2}(ho:OpR X (ET op) r)(p:PE X a ta)(t:PE X b tb)(w:FZ op b=DX):PT X (.Compare a [op] [b] pos) (pI<|tOp r ta tb):=by
 intro f s g H Q d h
 refine wpAny_isTrue_Compare1 (thn (p f s g H _ d h) λv P ⟨x,i,m,G,A⟩=>thn (t f P g i _ m A) λu Z ⟨y,j,n,M,D⟩=>
  thn (ho f Z g j x y v u _ n G M D) λc s3 ⟨z,l,o,N,k,e,F⟩=>?_) w
 subst e;cases N;exact Gs ⟨l,o,F⟩
noncomputable def qD (r i:R2)(ta tb tc:TE):TE:=λd H Q=>ta d H λx f=>tb d f λy g=>r x y g λz e=>∃k,z=.bl k /\
 (if k=DY then tc d e λj h=>i y j h Q else Q (.bl DX) e)
theorem jh {op i:CmpOp}{r p:R2}(ho:OpR X (ET op) r)(l:OpR X (ET i) p)(ha:PE X a ta)(hb:PE X b tb)(hc:PE X c tc)
  (hm:lastMarks [op,i] [b,c]=false:=by with_unfolding_all rfl):PT X (.Compare a [op,i] [b,c] pos) (pI<|qD r p ta tb tc):=by
 intro g s j H Q f h
 refine isTrue_chain (thn (ha g s j H _ f h) λv s1 ⟨x,w,G,r1,q1⟩=>test_link (thn (hb g s1 j w _ G q1) λu s2 ⟨y,A,M,t,q2⟩=>
  thn (ho g s2 j A x y v u _ M r1 t q2) λd s3 ⟨z,m,n,r3,k,e,o⟩=>?_)) hm
 subst e;cases r3;refine Gs ?_;cases k with
 |false=>obtain⟨k',Z,q'⟩:=o;cases Z;exact ite_ff ⟨m,n,q'⟩
 |true=>refine ite_tt<|test_last<|thn (hc g s3 j m _ n o) λw' s4 ⟨z',D,N,r4,q4⟩=>thn (l g s4 j D y z' u w' _ N t r4 q4) λd' s5 ⟨z2,F,P,r5,k2,e2,q5⟩=>?_;subst e2;cases r5;exact Gs ⟨F,P,q5⟩
def zI (K:D1)(x:V)(H:Hp)(k:IZ):Prop:=
 match x with
 |.non=>k=DX
 |.bl b=>k=b
 |.int i=>k=(i != 0)
 |.str y=>y.length<=sizeLine/\k=((y.length:I) != 0)
 |.byt y=>y.size<=sizeLine/\k=((y.size:I) != 0)
 |.ref p=>(∃e,SqL K H p e/\k=!e.isEmpty)\/(∃e,SqT K H p e/\k=!e.isEmpty)\/∃d,H p=Y (.dK d)/\k=!d.isEmpty
 |_=>Jh
theorem ko {f:Type}{d:U<|f×V}{e:U<|f×L}(r:KV d e):(!e.isEmpty)=!d.isEmpty:=by cases r<;>rfl
theorem eQ {e:U V}{d:U L}(r:Vals e d):(!d.toArray.isEmpty)=!e.isEmpty:=by cases r<;>simp
theorem fy:(sizeLine:O)<2 ^ 63:=by rw[GI];decide
theorem xD:CI X (λx H Q=>∃k,zI X.K x H k/\Q k H):=by
 intro D s Z H x v Q d n h;obtain⟨k,e,q⟩:=h;have M:=fy;have N:sizeLine=16777216:=GI;cases x with
 |non=>cases n;have f:k=false:=e;subst f;exact truthy_none ⟨H,d,q⟩
 |bl b=>cases n;have f:k=b:=e;subst f;exact Gs ⟨H,d,q⟩
 |int i=>obtain⟨t,rfl⟩:=n;have f:k=(i != 0):=e;subst f;exact PySem.P.truthy_int ⟨H,d,q⟩
 |str y=>obtain⟨t,rfl⟩:=n;obtain⟨G,f⟩:y.length<=sizeLine/\k=((y.length:I) != 0):=e;subst f;exact PySem.P.truthy_str (by lia) ⟨H,d.tok _,q⟩
 |byt y=>obtain⟨t,rfl⟩:=n;obtain⟨G,f⟩:y.size<=sizeLine/\k=((y.size:I) != 0):=e;subst f;exact PySem.W.truthy_bytes (by lia) ⟨H,d.tok _,q⟩
 | ref p =>
  cases n;have f:(∃l,SqL X.K H p l/\k=!l.isEmpty)\/(∃l,SqT X.K H p l/\k=!l.isEmpty)\/∃g,H p=Y (.dK g)/\k=!g.isEmpty:=e;rcases f with⟨l,hx,f⟩|⟨l,hx,f⟩|⟨g,hx,f⟩
  .subst f;obtain⟨u,r,z,A⟩:=d.list hx;have j:=r.length;exact wpAny_truthy_list z.isList (by simp only[Ep];lia) ⟨H,d.tok _,by rw[eQ r];exact q⟩
  .subst f;obtain⟨u,r,z,A⟩:=d.tuple hx;have j:=r.length;exact truthy_tuple z (by simp only[Ep];lia) ⟨H,d.tok _,by rw[eQ r];exact q⟩
  .subst f;obtain⟨A,F,o,r,m⟩:g.length<=sizeLine/\(p==EK)=DX/\∃o,KV g o/\s.heap.DictOf (aO X.prog X.w) p o:=d.hok p _ hx;have j:g.length=o.length:=Paired.length r;exact wpAny_truthy_dict F m (by lia) ⟨H,d.tok _,by rw[ko r];exact q⟩
 |_=>exact(show Jh from e).elim
theorem qW (m:PE X a ta)(n:∀e,JM a X.env e=(do let v <- e;standAt a.pos;holding [v] (truthy v))):
  PT X a (λg H Q=>ta g H λx i=>∃k,zI X.K x i k/\Q k i):=by
 intro f s g H Q d h;exact isTrue_plain (thn (m f s g H _ d h) λv r ⟨x,j,l,p,o⟩=>xD f r g j x v Q l p o)<|n _
theorem op_add_str:OpR X (E1 .Add) (λx y H Q=>∃i j,x=.str i/\y=.str j/\i.length+j.length<=sizeLine/\Q (.str<|i++j) H):=by intro e s n H x y v u Q d g k h;obtain⟨i,j,rfl,rfl,f,q⟩:=h;obtain⟨t,rfl⟩:=g;obtain⟨l,rfl⟩:=k;exact add_str (λl m=>⟨.str<|i++j,H,d.tok _,⟨_,rfl⟩,q⟩) f
theorem iJ {x:V}{d:U L}(r:Vals [x] d):∃u,d=[u]/\RelV x u:=by
 cases r with
 |cons e f=>cases f;exact⟨_,rfl,e⟩
theorem BO {x y:V}{d:U L}(r:Vals [x,y] d):∃u e,d=[u,e]/\RelV x u/\RelV y e:=by
 cases r with
 |cons f g=>
  cases g with
  |cons h i=>cases i;exact⟨_,_,rfl,f,h⟩
def Ci (K:D1)(x:V)(H:Hp)(n:O):Prop:=
 match x with
 |.str y=>y.length<=sizeLine/\n=y.length
 |.byt y=>y.size<=sizeLine/\n=y.size
 |.ref p=>(∃d,SqL K H p d/\n=d.length)\/∃d,SqT K H p d/\n=d.length
 |_=>Jh
theorem oG:dN X (.builtin "len") (λf H Q=>∃x n,f=[x]/\Ci X.K x H n/\Q (.int n) H):=by
 intro o s F H f D Q d r h;obtain⟨x,n,rfl,e,q⟩:=h;obtain⟨u,rfl,m⟩:=iJ r;have z:=fy;have A:sizeLine=16777216:=GI;cases x with
 |str y=>obtain⟨t,rfl⟩:=m;obtain⟨v,i⟩:y.length<=sizeLine/\n=y.length:=e;subst i;exact len_str (by lia) ⟨.int _,H,d.tok _,⟨_,rfl⟩,q⟩
 |byt y=>obtain⟨t,rfl⟩:=m;obtain⟨v,i⟩:y.size<=sizeLine/\n=y.size:=e;subst i;exact PySem.W.len_bytes (by lia) ⟨.int _,H,d.tok _,⟨_,rfl⟩,q⟩
 | ref p =>
  cases m;have i:(∃f,SqL X.K H p f/\n=f.length)\/∃f,SqT X.K H p f/\n=f.length:=e;rcases i with⟨f,hx,i⟩|⟨f,hx,i⟩
  .subst i;obtain⟨j,l,k,w⟩:=d.list hx;have g:=l.length;exact Calls.call_len_list k.isList (by simp only[Ep];lia) ⟨.int f.length,H,d.tok _,⟨_,by simp only[Ep];rw[g]⟩,q⟩
  .subst i;obtain⟨j,l,k,w⟩:=d.tuple hx;have g:=l.length;exact len_tuple k (by simp only[Ep];lia) ⟨.int f.length,H,d.tok _,⟨_,by simp only[Ep];rw[g]⟩,q⟩
 |_=>exact(show Jh from e).elim
end
structure ObjM (h:Jf)(x dx C:IY)(mA:Str->B L):Prop where
 obj:h.get? x=Y (FG C dx)
 ns:h.Ns1 dx mA
 ne:dx≠x
theorem mn {h:Jf}{d:IY}{g:Str->B L}(n:h.Ns1 d g):∃i,h.get? d=Y i/\∀b,Hd b i=Y (g b):=by
 obtain⟨o,f,ep,ho,k,hk,_,l⟩:=n;refine⟨o,ho,λb=>?_⟩;have e:=l b;unfold nsFind findBy at e;rw[<- HS] at e;unfold Hd;rw[k];dsimp only;split
 .rename_i y q;rw[q] at e;exact Jk Y e
 .rename_i q;rw[q] at e;have a:f.toList.any (·.refKey)=false:=by rw[List.any_eq_false];intro y m;obtain⟨z,t,c⟩:=hk y (Array.mem_toList_iff.mp m);simp[DictEntry.refKey,c]
  have j:¬f.toList.any (·.refKey)=true:=by rw[a];exact EI
  rw[Jd j];exact Jk Y e
theorem ObjM.look {h:Jf}{x d C:IY}{e:Str->B L}(a:ObjM h x d C e):∃c,PySem.W.InstAt h x (FG C d) C (Y c)/\∀b,Hd b c=Y (e b):=
 let ⟨c,ho,f⟩:=mn a.ns
 ⟨c,⟨a.obj,rfl,rfl,ho⟩,f⟩
section
variable {prog:I9}{w:D3}{A:D9}{E:L->DZ->Prop}{s:DZ}{K:D1}{x dx C f:IY}{mA:Str->B L}{name:Str}{v:L}
theorem sU {c:IZ}{Q:L->DZ->Prop}(X:K.In s.heap)(a:ObjM s.heap x dx C mA)(g:HD K C name=DY)(i:Gy K C=DY)
  (e:EG K (.ref C) name=Y J) (k:mA name=Y v) (d:HJ v=DY) (h:Q v {s with toks:=s.toks+1}):
  Ja (D4 prog w) A (getAttr (.ref x) name c) Q E s:=by
 obtain⟨l,b,j⟩:=a.look;exact PySem.W.get_value X b (PySem.W.plainGet_of g).1 (PySem.W.findObj_own i e rfl (by rw[j,k])) d h
theorem uQ {n:U Str}{Q:Unit->DZ->Prop}(X:K.In s.heap)(c:ObjM s.heap x dx C mA)
  (z:EG K (.ref C) "__setattr__"=Y (Y<|.builtin "object.__setattr__")) (hp:HP K C=DY) (F:Hg K C name=Y J) (u:Gy K C=DY)
  (G:Hb mA n) (D:n.length<=sizeLine)
  (h:∀i,ObjM i x dx C (λy=>if y=name then Y v else mA y)->Heap.SameBut dx s.heap i->Q () {s with heap:=i,toks:=s.toks+2}):
  Ja (D4 prog w) A (setAttr (.ref x) name v) Q E s:=by
 obtain⟨P,d,M⟩:=c.look;refine PySem.W.set_plain X d z<|PySem.W.osa_open (s:={s with toks:=s.toks+1}) (r:=J) X d hp F λb=>?_;obtain⟨H,t,k⟩:=PySem.W.any_some u;have hx:s.heap.get? x=Y ⟨.ref C,Y dx,.plain,#[]⟩:=c.obj;refine D2<|D6<|D2<|D2<|wpAny_loadPart hx<|D2<|IU (s:={s with toks:=s.toks+1}) (PySem.W.looks_clsIn X t) ?_;rw[k];refine D6 (a:=Y dx)<|D2<|D6<|D2 ?_;refine wpAny_nsSet1 (s:={s with toks:=s.toks+1}) c.ns λi e g=>?_;obtain⟨N,p,o,m,l,j⟩:=e.count<|IT name v G;refine D2<|wpAny_lookBehind m (by rw[l];exact pastItsLine_dict<|Ed j<|by rw[Ef];lia) ?_;exact D6<|h _ ⟨(g.2 _<|EB c.ne).trans c.obj,e,c.ne⟩ g
theorem qB {R:Result->DZ->Prop}{c:U L}{b:U<|Str×L}(X:K.In s.heap)(j:Ip K C=DY)
  (i:EG K (.ref C) "__init__"=Y (Y<|.ref f)) (e:PySem.W.typeIn K (.ref f)=Y (.type "function"))
  (h:E7 (D4 prog w) (A.under (.builtin "type.__call__" ⟨.ref C::c,b⟩)) (.call (.ref f) ⟨.ref (s.heap.objs.size+1)::c,b⟩) (PySem.W.InitBack (s.heap.objs.size+1) R)
   {s with heap:=(s.heap.push Fo).push<|FG C s.heap.objs.size}):
  E7 (D4 prog w) A (.call (.ref C) ⟨c,b⟩) R s:=by
 obtain⟨k,g,d,t,os⟩:=s;exact PySem.W.make_core (PySem.W.makes_of X j) (PySem.W.looks_findIn X i) (λa=>PySem.W.bind_fn X a e) (.inl rfl) h
end
def bF (f:Str)(v:V):U (Str×V)->U (Str×V)
|[]=>[(f,v)]
|(g,x)::r=>if g=f then(g,v)::r else(g,x)::bF f v r
theorem dR (f g:Str)(v:V):∀fs:U<|Str×V,(bF f v fs).lookup g=if g=f then Y v else fs.lookup g
| []=>by
 show FQ g [(f,v)]=_;by_cases h:g=f
 .have a:(g==f)=true:=beq_iff_eq.mpr h;simp only[FQ,a,Jc h]
 .have a:(g==f)=false:=beq_eq_false_iff_ne.mpr h;simp only[FQ,a,Jd h]
| (k,x)::r=>by
 have b:=dR f g v r;rw[show bF f v ((k,x)::r)=(if k=f then(k,v)::r else(k,x)::bF f v r) from rfl];by_cases hk:k=f
 .rw [Jc hk];by_cases h:g=k
  .have a:(g==k)=true:=beq_iff_eq.mpr h;simp only[FQ,a,Jc<|h.trans hk]
  .have a:(g==k)=false:=beq_eq_false_iff_ne.mpr h;simp only[FQ,a,Jd (λe:g=f=>h<|e.trans hk.symm)]
 .rw [Jd hk];by_cases h:g=k
  .have a:(g==k)=true:=beq_iff_eq.mpr h;simp only[FQ,a,Jd (λe:g=f=>hk<|h.symm.trans e)]
  .have a:(g==k)=false:=beq_eq_false_iff_ne.mpr h;simp only[FQ,a];exact b
theorem dm (f:Str)(v:V):∀fs:U<|Str×V,f∈(bF f v fs).map (·.1)/\∀g,g∈fs.map (·.1)->g∈(bF f v fs).map (·.1)
|[]=>⟨by simp[bF],λg h=>by simp at h⟩
| (k,x)::r=>by
 obtain⟨a,b⟩:=dm f v r;rw[show bF f v ((k,x)::r)=(if k=f then(k,v)::r else(k,x)::bF f v r) from rfl];by_cases hk:k=f
 .rw [Jc hk];subst hk;exact⟨by simp,λg h=>by simpa using h⟩
 .rw [Jd hk];refine⟨?_,λg h=>?_⟩
  .rw [Eo];exact Em _ a
  .rw [Eo] at h ⊢;rcases Ee.mp h with e|e
   .exact Ee.mpr (.inl e)
   .exact Em _ (b g e)
theorem cy (f:Str)(v:V):∀fs:U<|Str×V,(bF f v fs).length<=fs.length+1
|[]=>by simp[bF]
|(k,x)::r=>by
 have a:=cy f v r;rw[show bF f v ((k,x)::r)=(if k=f then(k,v)::r else(k,x)::bF f v r) from rfl];by_cases hk:k=f
 .rw[Jc hk,Ef,Ef];lia
 .rw[Jd hk,Ef,Ef];lia
theorem RelO.some_of {v:V}{o:B L}(r:RelO (Y v) o):∃u,o=Y u/\RelV v u:=by
 cases o with
 |none=>exact(show Jh from r).elim
 |some u=>exact⟨u,rfl,r⟩
theorem lZ {v:V}{u:L}(r:RelV v u):HJ u=true:=by
 cases v with
 |non=>cases(show u=Value.none from r);rfl
 |bl b=>cases(show u=Value.bool b from r);rfl
 |int i=>obtain⟨t,e⟩:=(show∃t,u=Value.int i t from r);cases e;rfl
 |str x=>obtain⟨t,e⟩:=(show∃t,u=Value.str x t from r);cases e;rfl
 |byt b=>obtain⟨t,e⟩:=(show∃t,u=Value.bytes b t from r);cases e;rfl
 |flt b=>obtain⟨t,e⟩:=(show∃t,u=Value.float b t from r);cases e;rfl
 |ref a=>cases(show u=Value.ref a from r);rfl
 |ty n=>cases(show u=Value.type n from r);rfl
section
variable {P:I9}{w:D3}{H H':Hp}{h h':Jf}{a C dx:IY}{fs fs':U (Str×V)}
theorem gO (c:HOk P w H h)(e:H a=Y (.ins C dx fs)):∃b,ObjM h a dx C b/\(∀f,RelO (fs.lookup f)<|b f)/\Hb b (fs.map (·.1))/\fs.length<=1000/\H dx=Y (.own a):=by obtain⟨d,z,g,i,b,n,r,q⟩:=(show ObjOk P w H h a (.ins C dx fs) from c a _ e);exact⟨b,⟨i,n,g⟩,r,q,z,d⟩
end
structure Cls (K:D1)(C:IY):Prop where
 pg:HD K C Str.empty=DY
 hd:Gy K C=DY
 po:HP K C=DY
 sa:EG K (.ref C) "__setattr__"=Y (Y (.builtin "object.__setattr__"))
theorem Cls.get {K:D1}{C:IY}(c:Cls K C)(f:Str):HD K C f=true:=c.pg
def NoAttr (K:D1)(C:IY)(f:Str):Prop:=EG K (.ref C) f=Y J
theorem NoAttr.taker {K:D1}{C:IY}{f:Str}(n:NoAttr K C f):Hg K C f=Y none:=by unfold Hg;rw[show EG K (.ref C) f=Y J from n];rfl
section
variable {X:Cx}{pins:U (IY×Obj)}{σ:St}{H:Hp}{s:DZ}{a C dx:IY}{fs:U (Str×V)}{f:Str}{v:V}{A:D9}{E:L->DZ->Prop}
theorem kg {b:IZ}{Q:L->DZ->Prop}(d:Inv X pins σ H s)(e:H a=Y (.ins C dx fs))(c:Cls X.K C)(n:NoAttr X.K C f)(l:fs.lookup f=Y v)
  (h:∀u j,Inv X pins σ H j->RelV v u->Q u j):Ja (D4 X.prog X.w) A (getAttr (.ref a) f b) Q E s:=by
 obtain⟨m,g,r,_,_,_⟩:=gO d.hok e;obtain⟨u,k,i⟩:=RelO.some_of (v:=v) (o:=m f) (by rw[<- l];exact r f);exact sU d.kIn g (c.get f) c.hd n k (lZ i)<|h u _ (d.tok _) i
theorem kl {y:V}{u:L}{Q:Unit->DZ->Prop}(d:Inv X pins σ H s)(e:H a=Y (.ins C dx fs))(c:Cls X.K C)(n:NoAttr X.K C f)(Z:fs.length<1000)(N:RelV y u)
  (h:∀l,Inv X pins σ (upd H a<|.ins C dx<|bF f y fs) l->Q () l):Ja (D4 X.prog X.w) A (setAttr (.ref a) f u) Q E s:=by
 obtain⟨k,i,r,m,_,ho⟩:=gO d.hok e;have M:(fs.map (·.1)).length<=sizeLine:=by rw[Ea,GI];lia
 refine uQ d.kIn i c.sa c.po n.taker c.hd m M λt j P=>h _ ?_;have F:∃o,t.get? dx=Y o:=let ⟨o,_,_,p,_⟩:=j.ns;⟨o,p⟩;refine d.write (x:=a) (e:=dx) (by rw[e];exact E3) (.inr ho) (λb q D z=>(P.2 b D).trans z) F ?_;refine⟨by rw[ag i.ne];exact ho,?_,i.ne,j.obj,_,j.ns,λg=>?_,λg G=>?_⟩
 .have:=cy f y fs;lia
 .show RelO ((bF f y fs).lookup g) (if g=f then Y u else k g);rw[dR];by_cases q:g=f
  .rw[Jc q,Jc q];exact N
  .rw[Jd q,Jd q];exact r g
 .by_cases q:g=f
  .rw[q];exact(dm f y fs).1
  .refine (dm f y fs).2 g (m g fun z=>G ?_);show(if g=f then Y u else k g)=J;rw[Jd q];exact z
theorem Inv.made (c:Inv X pins σ H s):Inv X pins σ (upd (upd H s.heap.objs.size<|.own<|s.heap.objs.size+1) (s.heap.objs.size+1)<|.ins C s.heap.objs.size [])
  {s with heap:=(s.heap.push Fo).push<|FG C s.heap.objs.size}:=by
 have e1:(s.heap.push Fo).get? s.heap.objs.size=Y Fo:=Heap.get?_push_size s.heap rfl;have e2:((s.heap.push Fo).push (FG C s.heap.objs.size)).get? (s.heap.objs.size+1)=Y (FG C s.heap.objs.size):=by have:=Heap.get?_push_size (s.heap.push Fo) (o:=FG C s.heap.objs.size) rfl;rwa[Heap.size_push] at this
 have e3:(s.heap.push Fo).Ns s.heap.objs.size (λ_=>J):=⟨Fo,#[],_,e1,rfl,(λe h=>Jb h<|by simp),λ_=>rfl⟩;have g:=c.laid (a:=s.heap.objs.size) (o:=.own<|s.heap.objs.size+1) (h':=s.heap.push Fo) (t':=s.toks) (λb u q=>Heap.get?_push_of_some _ q) (D7 _) ⟨_,e1⟩;refine g.laid (a:=s.heap.objs.size+1) (o:=.ins C s.heap.objs.size []) (t':=s.toks) (λb u q=>Heap.get?_push_of_some _ q) (HX<|Heap.size_push _ _) ?_;have d:s.heap.objs.size≠s.heap.objs.size+1:=Eh<|HI _;refine⟨by rw[ag d,ah],EJ _,d,e2,λ_=>J,(Heap.Ns1.of_empty e3).at λo q=>Heap.get?_push_of_some _ q,λ_=>E3,λy i=>Jb rfl i⟩
theorem vh {prog:I9}{w:D3}{b:Env}{e:Je}{f:Str}{d:Pos}{s:DZ}{Q:L->DZ->Prop}(g:Gk e f b (Jl e b)=Jl e b)
  (h:Ja (D4 prog w) A (Jl e b) (λo c=>Ja (D4 prog w) A (getAttr o f DY) Q E c) E s):Ja (D4 prog w) A (Jl (.Attribute e f d) b) Q E s:=
 Attribute_any_ h (by rw[arm_eval_Attribute,g])
end
def Dg (K:D1)(d:TE)(f:Str):TE:=λe H Q=>d e H λx b=>∃a C c fs v,x=.ref a/\b a=Y (.ins C c fs)/\Cls K C/\NoAttr K C f/\fs.lookup f=Y v/\Q v b
def CD (K:D1)(g h:TE)(f:Str):TS:=λD b H=>h b H λy e=>g b e λx c=>∃a C d fs,x=.ref a/\c a=Y (.ins C d fs)/\Cls K C/\NoAttr K C f/\fs.length<1000 /\
 D.nx b (upd c a<|.ins C d<|bF f y fs)
section
variable {X:Cx}{o e value:Je}{f:Str}{pos pos' tpos:Pos}{ta tv:TE}
theorem xV (r:PE X e ta)(p:Gk e f X.env (Jl e X.env)=Jl e X.env):PE X (.Attribute e f pos) (Dg X.K ta f):=by intro d s y H Q b h;refine vh p<|thn (r d s y H _ b h) λu A ⟨x,g,i,w,a,C,z,fs,v,m,k,c,n,l,q⟩=>?_;subst m;obtain rfl:u=Value.ref a:=w;exact kg i k c n l λF D j t=>⟨v,g,j,t,q⟩
theorem gX (t:PE X o ta)(w:PE X value tv)(v:EF value (Y<|.Attribute o f pos') pos.line X.env=pure DX):PS X (.Assign [.Attribute o f pos'] value pos) (CD X.K ta tv f):=by intro d s g H D b h;refine plainObj_wpAny_Assign_Attribute (thn (w d s g H _ b h) λu M ⟨y,i,j,G,q⟩=>thn (t d M g i _ j q) λz Q ⟨x,N,k,F,a,C,P,fs,r,p,c,n,l,A⟩=>?_) v;subst r;obtain rfl:z=Value.ref a:=F;exact kl k p c n l G λZ m=>⟨g,_,m,A⟩
end
section
variable {X:Cx}{pins:U (IY×Obj)}{σ:St}{H:Hp}{s:DZ}{A:D9}{E:L->DZ->Prop}{Q:L->DZ->Prop}{c:L}{b:IZ}
inductive d6 (K:D1)(H:Hp):V->L->Prop where
 |non:d6 K H .non (.type "NoneType")
 |bl (x:IZ):d6 K H (.bl x) (.type "bool")
 |int (i:I):d6 K H (.int i) (.type "int")
 |str (x:Str):d6 K H (.str x) (.type "str")
 |flt (x:UInt64):d6 K H (.flt x) (.type "float")
 |lst {a:IY} {xs:U V} (e:H a=Y (.lst xs)):d6 K H (.ref a) (.type "list")
 |frz {a:IY} {o:Obj} {xs:U V} (e:H a=Y (.frz o (.lst xs))):d6 K H (.ref a) (.type "list")
 |tup {a:IY} {xs:U V} (e:H a=Y (.tup xs)):d6 K H (.ref a) (.type "tuple")
 |dK {a:IY} {kvs:U (Key×V)} (e:H a=Y (.dK kvs)):d6 K H (.ref a) (.type "dict")
 |dT {a:IY} {kvs:U (U Key×V)} (e:H a=Y (.dT kvs)):d6 K H (.ref a) (.type "dict")
 | ins {a C dx:IY} {fs:U (Str×V)} (e:H a=Y (.ins C dx fs)) (cl:Cls K C) (ha:EG K (.ref C) "__class__"=Y (Y (.builtin "object.__class__")))
   (hn:HN K (.builtin "object.__class__") "__get__"=Y (Y (.builtin "getset_descriptor.__get__"))) (htk:Io K (.builtin "object.__class__")=Y DY)
   (hm:Ie K C (.type "object")=Y DY):d6 K H (.ref a) (.ref C)
theorem cI {x:V}{u t:L}(d:Inv X pins σ H s)(k:RelV x u)(ty:d6 X.K H x t)(e:FP X.K t c=Y b)(h:∀tk,Q (.bool b) {s with toks:=tk}):
  Ja (D4 X.prog X.w) A (call (.builtin "isinstance") [u,c]) Q E s:=by
 cases ty with
 |non=>cases(show u=Value.none from k);exact EX PySem.W.kitx_none d.kIn E3 e (λz=>nomatch z) h
 |bl y=>cases(show u=Value.bool y from k);exact EX PySem.W.kitx_bool d.kIn E3 e (λz=>nomatch z) h
 |int i=>obtain⟨t,q⟩:=(show∃t,u=Value.int i t from k);cases q;exact EX PySem.W.kitx_int d.kIn E3 e (λz=>nomatch z) h
 |str y=>obtain⟨t,q⟩:=(show∃t,u=Value.str y t from k);cases q;exact EX PySem.W.kitx_str d.kIn E3 e (λz=>nomatch z) h
 |flt y=>obtain⟨t,q⟩:=(show∃t,u=Value.float y t from k);cases q;exact EX PySem.W.kitx_float d.kIn E3 e (λz=>nomatch z) h
 | @lst a r j=>cases(show u=Value.ref a from k);obtain⟨_,_,n,_,l⟩:=(show ObjOk X.prog X.w H s.heap a (.lst r) from d.hok a _ j);exact EX Hq d.kIn ⟨_,l,rfl⟩ e (λz=>nomatch z) h
 | @frz a Z r j=>cases(show u=Value.ref a from k);obtain⟨_,_,_,n,_,l⟩:=(show ObjOk X.prog X.w H s.heap a (.frz Z<|.lst r) from d.hok a _ j);exact EX Hq d.kIn ⟨_,l,rfl⟩ e (λz=>nomatch z) h
 | @tup a r j=>cases(show u=Value.ref a from k);obtain⟨_,_,_,p⟩:=(show ObjOk X.prog X.w H s.heap a (.tup r) from d.hok a _ j);obtain⟨o,l,v,_⟩:=p;exact EX HR d.kIn ⟨o,l,v⟩ e (λz=>nomatch z) h
 | @dK a m j=>cases(show u=Value.ref a from k);obtain⟨_,_,vs,_,p⟩:=(show ObjOk X.prog X.w H s.heap a (.dK m) from d.hok a _ j);obtain⟨o,G,ep,l,v,_⟩:=p;exact EX HM d.kIn ⟨o,l,v.1⟩ e (λz=>nomatch z) h
 | @dT a m j=>cases(show u=Value.ref a from k);obtain⟨_,_,r,_,o,G,ep,l,v,_⟩:=(show ObjOk X.prog X.w H s.heap a (.dT m) from d.hok a _ j);exact EX HM d.kIn ⟨o,l,v.1⟩ e (λz=>nomatch z) h
 | @ins a C dx fs j F M P D N=>cases(show u=Value.ref a from k);obtain⟨mA,g,_⟩:=gO d.hok j;obtain⟨od,f,_⟩:=g.look;exact EX (PySem.W.kitx_own (F.get _) F.hd M P D N) d.kIn f e (λz=>nomatch z) h
end
structure Room (k:O)(A:D9):Prop where
 hd:A.handled=J
 dp:A.depth+3 * k+5<recursionLimit
 un:A.units+16 * k+200<JO
 gu:A.guards=Y []
theorem Room.mono {j k:O}{A:D9}(r:Room k A)(h:j<=k):Room j A:=⟨r.hd,by have:=r.dp;lia,by have:=r.un;lia,r.gu⟩
theorem Room.deeper {k:O}{A:D9}(r:Room (k+1) A)(a:Env):Room k (A.deeper a):=
 ⟨r.hd,by have:=r.dp;show A.depth+1+3 * k+5<_;lia,by have:=r.un;show A.units+3+16 * k+200<_;lia,r.gu⟩
theorem kz {A:D9}{C:IY}{b:U L}{a:U<|Str×L}:(A.under<|.builtin "type.__call__" ⟨.ref C::b,a⟩).depth=A.depth+1:=by
 first|rfl|simp[Around.under,Code.weight,Code.isCreation,Code.isGuard,Code.isCaller,Code.frames,Code.isFrame,guardIds]
theorem jD {A:D9}{C:IY}{b:U L}{a:U<|Str×L}:(A.under<|.builtin "type.__call__" ⟨.ref C::b,a⟩).units=A.units+1:=by
 first|rfl|simp[Around.under,Code.cUnits,Code.frames,Code.isFrame]
theorem make_guards {A:D9}{C:IY}{b:U L}{a:U<|Str×L}:(A.under<|.builtin "type.__call__" ⟨.ref C::b,a⟩).guards=A.guards:=by
 first|rfl|simp[Around.under,Code.isGuard,guardIds]
theorem Room.make {k:O}{A:D9}(r:Room (k+1) A)(C:IY)(b:U L)(a:U<|Str×L):Room k (A.under<|.builtin "type.__call__" ⟨.ref C::b,a⟩):=
 ⟨r.hd,by have:=r.dp;rw[kz];lia,by have:=r.un;rw[jD];lia,make_guards.trans r.gu⟩
theorem Room.depth {k:O}{A:D9}(r:Room k A):A.depth<recursionLimit:=by have:=r.dp;lia
theorem Room.units {k:O}{A:D9}(r:Room k A):A.units+64<JO:=by have:=r.un;lia
def xi:TA:=λ_ H Q=>Q [] H
noncomputable def nL (d:TE)(e:TA):TA:=λa H Q=>d a H λx b=>e a b λf c=>Q (x::f) c
section
variable {X:Cx}{e:Je}{es:U Je}{te:TE}{t:TA}{pos:Pos}
theorem bu:PA X [] xi:=λ_ _ _ _ H Q a h=>Calls.spliced_nil ⟨[],H,a,.nil,h⟩
theorem aJ (j:PE X e te)(k:PA X es t)(l:D5 (e::es) X.env=(DX,Jl e X.env)::D5 es X.env:=by rfl):PA X (e::es) (nL te t):=by intro pos b s c H Q a h;rw[l];show Ja _ _ (spliced ((DX,Jl e X.env)::En pos (D5 es X.env))) _ _ s;refine Calls.spliced_cons<|thn (j b s c H _ a h) λu r ⟨x,d,g,o,m⟩=>?_;exact thn (k pos b r c d _ g m) λy w ⟨v,f,i,p,n⟩=>⟨x::v,f,i,.cons o p,n⟩
def Ba (t:TA):TE:=λc H Q=>t c H λb a=>b.length<=sizeLine/\∀p,a p=J->Q (.ref p) (upd a p<|.tup b)
def Aw (t:TA):TE:=λc H Q=>t c H λb a=>b.length<=sizeLine/\∀p,a p=J->Q (.ref p) (upd a p<|.lst b)
theorem zk {x1}(h:PA X es t):PE X (.Tuple es x1 pos) (Ba t):=by intro c s m H Q a j;refine wpAny_Tuple_spliced<|thn (h pos c s m H _ a j) λk d ⟨l,f,g,r,z,q⟩=>⟨by rw[<- r.length];exact z,?_⟩;have i:f d.heap.objs.size=none:=g.hok.fresh<|D7 _;refine⟨.ref d.heap.objs.size,upd f d.heap.objs.size<|.tup l,g.laid (t':=d.toks) (λb u e=>Heap.get?_push_of_some _ e) (D7 _) ?_,rfl,q _ i⟩;exact⟨z,k,r,⟨_,Heap.get?_push_size _ rfl,rfl,_,rfl⟩⟩
theorem yx (h:PA X es t):PE X (.List es pos) (Aw t):=by intro c s m H Q a j;refine wpAny_List_spliced<|thn (h pos c s m H _ a j) λk d ⟨l,f,g,r,z,q⟩=>⟨by rw[<- r.length];exact z,?_⟩;have i:f d.heap.objs.size=none:=g.hok.fresh<|D7 _;refine⟨.ref d.heap.objs.size,upd f d.heap.objs.size<|.lst l,g.laid (t':=d.toks) (λb u e=>Heap.get?_push_of_some _ e) (D7 _) ?_,rfl,q _ i⟩;exact⟨z,k,0,r,Heap.get?_push_size _ rfl⟩
end
abbrev Sp:=U V->Hp->VK->XK->Prop
abbrev CXT:=U Env->Hp->DZ->XK->L->DZ->Prop
structure Env0 (P:I9)(w:D3)(K:D1)(mg:Str->B L)(base:Jf)(A:D9)(outer:U Env)(s:DZ)(H:Hp):Prop where
 frames:A.frames=Y outer
 mod:Mod K mg base
 bs:∀b o,base.get? b=Y o->s.heap.get? b=Y o/\H b=J
 bsz:base.objs.size<=s.heap.objs.size
 funs:s.heap.FunFrames base outer
 frf:∀b∈frs outer,H b=J
 hok:HOk P w H s.heap
 bare:Fe s.gens
def CE (a:U Env)(P:I9)(w:D3)(H:Hp)(s:DZ)(Q:VK)(u:L)(b:DZ):Prop:=
 ∃v c,b.os=s.os/\Fe b.gens/\Un (frs a) [] H c s.heap b.heap/\HOk P w c b.heap/\RelV v u/\Q v c
def CR (c:CXT)(a:U Env)(P:I9)(w:D3)(H:Hp)(s:DZ)(Q:VK)(E:XK)(r:Result)(b:DZ):Prop:=
 match r with
 |.ok (.ret u)=>CE a P w H s Q u b
 |.ok _=>Jh
 |.error e=>c a H s E e b
structure FnOk (P:I9)(w:D3)(K:D1)(mg:Str->B L)(base:Jf)(CX:CXT)(k:O)(f:IY)(fd:Ey)(ps:U Str)(sp:Sp):Prop where
 len:∀vs H Q E,sp vs H Q E->vs.length=ps.length
 run:∀(A:D9) (outer:U Env) (s:DZ) (H:Hp) (args:Args) (us:U L) (vs:U V) (Q:VK) (E:XK),Room k A->Env0 P w K mg base A outer s H->Fy s fd args (ps.zip us)->Vals vs us->sp vs H Q E ->
  E7 (D4 P w) A (.call (.ref f) args) (CR CX outer P w H s Q E) s
theorem FnOk.mono {P:I9}{w:D3}{K:D1}{g:Str->B L}{a:Jf}{d:CXT}{j k:O}{f:IY}{e:Ey}{i:U Str}{l:Sp}(F:FnOk P w K g a d j f e i l)(h:j<=k):
  FnOk P w K g a d k f e i l:=⟨F.len,λA b s H c n o Q E m=>F.run A b s H c n o Q E<|m.mono h⟩
theorem FnOk.imp {P:I9}{w:D3}{K:D1}{j:Str->B L}{a:Jf}{g:CXT}{k:O}{f:IY}{i:Ey}{l:U Str}{m e:Sp}(F:FnOk P w K j a g k f i l m)
  (h:∀c H Q E,e c H Q E->m c H Q E):FnOk P w K j a g k f i l e:=
 ⟨λc H Q E q=>F.len c H Q E<|h _ _ _ _ q,λA b s H d u c Q E p o n t r=>F.run A b s H d u c Q E p o n t<|h _ _ _ _ r⟩
theorem Env0.make {P:I9}{w:D3}{K:D1}{c:Str->B L}{b:Jf}{A:D9}{a:U Env}{s:DZ}{H:Hp}(e:Env0 P w K c b A a s H)(C:IY)(f:U L)(d:U<|Str×L):
  Env0 P w K c b (A.under<|.builtin "type.__call__" ⟨.ref C::f,d⟩) a s H:=⟨by first|exact e.frames|(simpa[Around.under,Code.envs,Code.isFrame,pushEnvs] using e.frames),e.mod,e.bs,e.bsz,e.funs,e.frf,e.hok,e.bare⟩
section
variable {X:Cx}{pins:U (IY×Obj)}{σ:St}{H:Hp}{s s':DZ}
theorem Inv.env0 (a:Inv X pins σ H s):Env0 X.prog X.w X.K X.mg X.base X.A X.stack s H:=
 ⟨a.ok.frames,a.ok.mod,a.bs,Ed a.ok.bsz a.sz,a.stack,a.stkFree,a.hok,a.bare⟩
theorem Inv.after {Q:VK}{u:L}(a:Inv X pins σ H s)(h:CE X.stack X.prog X.w H s Q u s'):EP X pins σ Q u s':=by obtain⟨v,f,os,bare,un,c,r,q⟩:=h;obtain⟨i,g,d,t,e⟩:=s';obtain rfl:e=s.os:=os;exact⟨v,f,a.call (h':=i) (g':=g) (d':=d) (t':=t) (ch:=[]) un c bare λb z=>Jb z<|by simp,r,q⟩
end
noncomputable def AB (c:Sp)(a:U V)(E:XK)(t:TA):TE:=λe H Q=>t e H λd b=>c (d++a) b Q E
def Ce (C:IY)(e:Sp)(c:U V)(E:XK)(t:TA):TE:=λg H Q=>t g H λf b=>∀x a,b x=J->b a=J->a≠x ->
 e (.ref x::(f++c)) (upd (upd b a<|.own x) x<|.ins C a []) (λv d=>v=.non/\Q (.ref x) d) E
def Binds (K:D1)(c:Ey)(b:U Str)(ds:U L):Prop:=
 ∀(s:DZ) (a:U L),K.In s.heap->(a++ds).length=b.length->Fy s c ⟨a,[]⟩ (b.zip<|a++ds)
theorem Binds.all {K:D1}{c:Ey}{b:U Str}(h:∀a:U L,a.length=b.length->bindArgs c ⟨a,[]⟩=pure (b.zip a)):Binds K c b []:=λs a _ d=>by rw[EW] at d ⊢;exact .of_eq<|h a d
def fq (c:CXT)(X:Cx)(E:XK):Prop:=∀(a:U<|IY×Obj) (d:St) (H:Hp) (s:DZ) (e:L) (b:DZ),Inv X a d H s->c X.stack H s E e b->X.xe e b
section
variable {X:Cx}{CX:CXT}{k:O}{f C:IY}{fd:Ey}{ps:U Str}{sp:Sp}{dvs:U V}{ds:U L}{E:XK}{x m:Str}{p pos apos:Pos}{e o:Je}{es:U Je}{ta:TE}{t:TA}
theorem qK {b:U<|IY×Obj}{i:St}{H:Hp}{s:DZ}{Q:VK}{c:U L}{g:U V}(F:FnOk X.prog X.w X.K X.mg X.base CX k f fd ps sp)(y:Room k X.A)(l:Binds X.K fd ps ds)(n:Vals dvs ds)(hx:fq CX X E)
  (a:Inv X b i H s) (r:Vals g c) (h:sp (g++dvs) H Q E):Ja (D4 X.prog X.w) X.A (call (.ref f) c) (EP X b i Q) X.xe s:=by
 have j:Vals (g++dvs) (c++ds):=r.append n;have v:(c++ds).length=ps.length:=by rw[<- j.length];exact F.len _ _ _ _ h
 refine wpAny_call<|GO (F.run X.A X.stack s H ⟨c,[]⟩ (c++ds) (g++dvs) Q E y a.env0 (l s c a.kIn v) j h) λr z d=>?_;cases r with
 |error e=>exact hx b i H s e z a d
 |ok fl=>
  cases fl with
  |ret u=>exact a.after d
  |next=>exact EY d
  |brk=>exact EY d
  |cont=>exact EY d
theorem eh (F:FnOk X.prog X.w X.K X.mg X.base CX k f fd ps sp)(y:Room k X.A)(u:Gl X x)(v:X.mg x=Y (.ref f))(hk:Fb X.K (.ref f)=DY)(j:Binds X.K fd ps ds)(l:Vals dvs ds)(hx:fq CX X E)
  (i:PA X (e::es) t) (c:(x==("__debug__":Str))=false:=by decide) (n:D5 (e::es) X.env=(DX,Jl e X.env)::D5 es X.env:=by rfl) (d:(En pos<|D5 es X.env).any (·.1)=false:=by rfl):
  PE X (.Call (.Name x p) (e::es) [] pos) (AB sp dvs E t):=by
 intro b s z H Q a h;refine GN<|ie a u v ?_ c;refine Ht (h₀:=X.base) a.ok.mod.kin hk (thn (i pos b s z H _ a h) λM G ⟨N,D,g,r,q⟩=>⟨g.kIn,?_⟩) n d;exact qK F y j l hx g r q
structure Mk (K:D1)(C f:IY):Prop where
 makes:Ip K C=DY
 init:EG K (.ref C) "__init__"=Y (Y (.ref f))
 fn:PySem.W.isFn K (.ref f)=DY
 kp:Fb K (.ref C)=DY
theorem rk {c:U<|IY×Obj}{l:St}{H:Hp}{s:DZ}{Q:VK}{d:U L}{j:U V}(M:Mk X.K C f)(F:FnOk X.prog X.w X.K X.mg X.base CX k f fd ps sp)(hr:Room (k+1) X.A)(N:Binds X.K fd ps ds)(P:Vals dvs ds)
  (hx:fq CX X E) (a:Inv X c l H s) (r:Vals j d)
  (h:∀x i,H x=J->H i=J->i≠x->sp (.ref x::(j++dvs)) (upd (upd H i<|.own x) x<|.ins C i []) (λv D=>v=.non/\Q (.ref x) D) E):
  Ja (D4 X.prog X.w) X.A (call (.ref C) d) (EP X c l Q) X.xe s:=by
 have n:=h (s.heap.objs.size+1) s.heap.objs.size (a.hok.fresh<|Nat.le_succ _) (a.hok.fresh<|D7 _)<|Eh<|HI _;have g:=Inv.made (C:=C) a;have y:Vals (V.ref (s.heap.objs.size+1)::(j++dvs)) (Value.ref (s.heap.objs.size+1)::(d++ds)):=.cons rfl (r.append P);have Z:(Value.ref (s.heap.objs.size+1)::d++ds).length=ps.length:=by have e:=y.length;rw[F.len _ _ _ _ n] at e;exact e.symm
 refine wpAny_call (qB (f:=f) a.kIn M.makes M.init (beq_iff_eq.mp M.fn) (GO (F.run _ X.stack _ _ ⟨Value.ref (s.heap.objs.size+1)::d,[]⟩ (Value.ref (s.heap.objs.size+1)::(d++ds)) _ _ E (hr.make C d [])
  (g.env0.make C d []) (N _ (Value.ref (s.heap.objs.size+1)::d) g.kIn Z) y n) λr s' b=>?_))
 cases r with
 |error e=>exact hx c l _ _ e s' g b
 | ok fl =>
  cases fl with
  |ret u=>obtain⟨v,z,G,rv,ev,q3⟩:=g.after b;subst ev;exact⟨rv,⟨V.ref<|s.heap.objs.size+1,z,G,rfl,q3⟩⟩
  |next=>exact EY b
  |brk=>exact EY b
  |cont=>exact EY b
theorem sL (M:Mk X.K C f)(F:FnOk X.prog X.w X.K X.mg X.base CX k f fd ps sp)(y:Room (k+1) X.A)(u:Gl X x)(v:X.mg x=Y (.ref C))(j:Binds X.K fd ps ds)(l:Vals dvs ds)(hx:fq CX X E)
  (i:PA X (e::es) t) (c:(x==("__debug__":Str))=false:=by decide) (n:D5 (e::es) X.env=(DX,Jl e X.env)::D5 es X.env:=by rfl) (d:(En pos<|D5 es X.env).any (·.1)=false:=by rfl):
  PE X (.Call (.Name x p) (e::es) [] pos) (Ce C sp dvs E t):=by
 intro b s z H Q a h;refine GN<|ie a u v ?_ c;refine Ht (h₀:=X.base) a.ok.mod.kin M.kp (thn (i pos b s z H _ a h) λN G ⟨P,D,g,r,q⟩=>⟨g.kIn,?_⟩) n d;exact rk M F y j l hx g r q
end
structure ai (N P:U Str)(sc:Jt):Prop where
 kind:sc.kind=.function
 co:sc.isCoroutine=DX
 gen:sc.isGenerator=DX
 nd:N.Nodup
 pre:N.take P.length=P
 par:∀x∈P,sc.names.lookup x=Y .local\/sc.names.lookup x=Y .cell
 nofree:∀y∈sc.names,y.2≠.free
theorem f6 {kindOf:Str->B NameKind}{x:Str}:∀{binds:U<|Str×L} {m:Str->B L},(∀v,(x,v) ∉ binds)->JS kindOf binds m x=m x
|[],_,_=>rfl
| (n,v)::r,m,h=>by
 unfold JS;rw[f6 λw a=>h w<|Em _ a];split
 .have:x≠n:=by rintro rfl; exact h v Ek
  simp[this]
 .rfl
theorem fY {kindOf:Str->B NameKind}{x:Str}:∀{binds:U<|Str×L} {m:Str->B L},(∀v,(x,v) ∉ binds)->JT kindOf binds m x=m x
|[],_,_=>rfl
| (n,v)::r,m,h=>by
 unfold JT;rw[fY λw a=>h w<|Em _ a];split
 .rfl
 .have:x≠n:=by rintro rfl; exact h v Ek
  simp[this]
theorem gk {kindOf:Str->B NameKind}{x:Str}{v:L}:∀{P:U Str} {a:U L} {i:O} {m:Str->B L},P.Nodup->P[i]?=Y x->a[i]?=Y v->kindOf x=Y .local ->
 JS kindOf (P.zip a) m x=Y v
|[],_,_,_,_,h,_,_=>by simp at h
|_::_,[],_,_,_,_,h,_=>by simp at h
|p::P,w::a,0,m,d,b,c,hk=>by simp at b c;subst b;subst c;show JS kindOf ((p,w)::P.zip a) m p=_;unfold JS;rw[f6 λv e=>(Fm.mp d).1 (G5 e).1,Jc hk];simp
|p::P,w::a,i+1,m,d,b,c,hk=>by show JS kindOf ((p,w)::P.zip a) m x=_;unfold JS;exact gk (i:=i) (Fm.mp d).2 (by simpa using b) (by simpa using c) hk
theorem gr {kindOf:Str->B NameKind}{x:Str}{v:L}:∀{P:U Str} {a:U L} {i:O} {m:Str->B L},P.Nodup->P[i]?=Y x->a[i]?=Y v->kindOf x≠Y .local ->
 JT kindOf (P.zip a) m x=Y v
|[],_,_,_,_,h,_,_=>by simp at h
|_::_,[],_,_,_,_,h,_=>by simp at h
|p::P,w::a,0,m,d,b,c,hk=>by simp at b c;subst b;subst c;show JT kindOf ((p,w)::P.zip a) m p=_;unfold JT;rw[fY λv e=>(Fm.mp d).1 (G5 e).1,Jd hk];simp
|p::P,w::a,i+1,m,d,b,c,hk=>by show JT kindOf ((p,w)::P.zip a) m x=_;unfold JT;exact gr (i:=i) (Fm.mp d).2 (by simpa using b) (by simpa using c) hk
noncomputable def start (N:U Str)(a:U V):St:=a.map Y++Eu (N.length-a.length) J
def hX (g:CXT)(P:I9)(w:D3)(K:D1)(mg:Str->B L)(base:Jf)(N:U Str)(b:Str)(a:Jt)(f:IY)(d:L)(A:D9)(outer:U Env)(s:DZ)(H:Hp)(E:XK):Cx where
 prog:=P
 w:=w
 K:=K
 mg:=mg
 base:=base
 A:=A.deeper<|EZ b a s.heap.objs.size f d
 N:=N
 s₀:=s
 H₀:=H
 env:=EZ b a s.heap.objs.size f d
 outer:=outer
 stack:=EZ b a s.heap.objs.size f d::outer
 ex:=[]
 calm:=DY
 fn:=λ_=>DY
 pn:=[]
 xe:=λe i=>Ja (D4 P w) (A.deeper<|EZ b a s.heap.objs.size f d) (leaving (EZ b a s.heap.objs.size f d) e) (λ_ c=>g outer H s E e c) (λh c=>g outer H s E h c) i
theorem ji {a:Jt}{n:O}{x:Str}(h:a.names.lookup x=Y .cell):∃c,(cellsFrom n a.names []).lookup x=Y c:=by have q:=II a.names n []<|.inl h;exact ID.mp q
theorem mr {CX:CXT}{P:I9}{w:D3}{K:D1}{mg:Str->B L}{m:Jf}{N F:U Str}{j:Str}{d:Jt}{f:IY}{Q:L}{A:D9}{g:U Env}{s s1:DZ}{H:Hp}{E:XK}{us:U L}{G:U V}
  (S:ai N F d) (hd:A.handled=J) (o:Env0 P w K mg m A g s H) (hl:G.length=F.length) (r:Vals G us)
  (x:InCallC s s.heap.objs.size (JS (EZ j d s.heap.objs.size f Q).kindOf (F.zip us) λ_=>J) (cellsFrom (s.heap.objs.size+1) d.names []) (JT (EZ j d s.heap.objs.size f Q).kindOf (F.zip us) λ_=>J) s1):
  Inv (hX CX P w K mg m N j d f Q A g s H E) [] (start N G) H s1:=by
 have hpl:F.length<=N.length:=by have:=Jk Iz S.pre;rw[Gx] at this;lia
 obtain⟨Z,tk,rfl,hk⟩:=x.done;have D:∀b:IY,b ∉ (hX CX P w K mg m N j d f Q A g s H E).ex:=λb z=>Jb (show b∈([]:U IY) from z)<|by simp
 refine⟨⟨o.mod,S.kind,rfl,rfl,D7 _,λy z c Z l=>?_,λy t=>?_,λy c _ h=>?_,λ_=>hd,Around.frames_deeper o.frames,.inr ⟨rfl,rfl⟩,λb z=>Jb z<|D b,o.bs,o.bsz,λb _ _=>D b,λb z=>Jb z<|D b,o.funs,o.frf⟩,
  rfl,o.bare,Un.kept hk,⟨_,x.toInCall.ns,λi y v Z l h3=>?_⟩,λy c h=>⟨_,x.cell y c h⟩,o.hok.fresh<|D7 _,λy c h=>?_,λp hp=>Jb (show p∈([]:U<|IY×Obj) from hp)<|by simp,o.hok.kept hk,?_⟩
 .exact name_of_addr x.apart (Gi Z) (Gi l)
 .have t:d.names.lookup y=Y .cell\/d.names.lookup y=Y .free:=t;rcases t with t|t
  .exact ji t
  .exact Jb rfl (S.nofree _<|Gi t)
 .exact GA (x.above y c<|Gi h)
 .have hi:i<G.length:=by
   unfold start at l;by_cases hi:i<G.length
   .exact hi
   .rw [Gf<|by simpa using hi] at l;rw[Hk] at l;split at l<;>cases l
  have ha:G[i]?=Y v:=by
   unfold start at l;rw[GC<|by simpa using hi,ER] at l;cases e:G[i]? with
   |none=>rw[e] at l;cases l
   |some a=>rw[e] at l;cases l;rfl
  obtain⟨u,hu,rv⟩:=r.get ha;have hp:F[i]?=Y y:=by rw[<- S.pre,List.getElem?_take_of_lt<|by lia];exact Z
  have M:F.Nodup:=by rw[<- S.pre];exact S.nd.sublist<|List.take_sublist _ _
  refine⟨u,rv,?_⟩;rcases S.par y (GF hp) with k|k
  .exact .inl ⟨k,gk M hp hu k⟩
  .obtain ⟨c,e⟩:=ji (n:=s.heap.objs.size+1) k;refine .inr ⟨.inl k,c,e,?_⟩;have q:=x.cell y c e;rw[gr M hp hu<|by show d.names.lookup y≠_;rw[k];decide] at q;exact q
 .exact o.hok.fresh (GA<|x.above y c<|Gi h)
 .unfold start;show _=N.length;rw[Er,Ea,FF];lia
theorem Cu {CX:CXT}{P:I9}{w:D3}{K:D1}{mg:Str->B L}{j:Jf}{k:O}{f:IY}{F h:Str}{l:Arguments}{m:U Jj}{d:Jt}{dV kV doc pm i ct oc:L}{an od:B IY}
  {osl:Jo<|B L} {N ps:U Str} {sp:Sp} (lk:K.lookup f=Y ⟨oc,od,.func<|E4 F h l m d dV kV doc pm an i ct,osl⟩) (hcd:GZ K i h=DY) (S:ai N ps d)
  (len:∀p H Q E,sp p H Q E->p.length=ps.length)
  (G:∀ (A:D9) (g:U Env) (s:DZ) (H:Hp) (p:U V) (Q:VK) (E:XK),Room k (A.deeper (EZ h d s.heap.objs.size f i))->sp p H Q E ->
   ∃t,PSs (hX CX P w K mg j N h d f i A g s H E) m t/\t {nx:=λ_ D=>Q .non D,rt:=Q} (start N p) H):
  FnOk P w K mg j CX (k+1) f (E4 F h l m d dV kV doc pm an i ct) ps sp:=by
 refine⟨len,λA g s H args us p Q E hr e0 hb r hsp=>?_⟩;have hl:=len _ _ _ _ hsp;have KX:K.In s.heap:=e0.mod.kin.keeps λb o e=>(e0.bs b o e).1;have lim:s.heap.NoLimit:=e0.mod.nolimit.keeps λb o e=>(e0.bs b o e).1
 have M:∀y∈ps.zip us,d.names.lookup y.1=Y .local\/(d.names.lookup y.1=Y .cell/\((cellsFrom (s.heap.objs.size+1) d.names []).lookup y.1).isSome=DY):=λ⟨n,v⟩ hy=>by
  rcases S.par n (G5 hy).1 with q|q
  .exact .inl q
  .exact .inr ⟨q,II _ _ _<|.inl q⟩
 refine codeAny_call_function hr.depth (KX _ _ lk) rfl S.co S.gen rfl (PySem.W.codeRec_of KX hcd) (hb _ _ _ _ ?_);refine wpAny_newFunctionEnv_cells S.kind M λenv he s1 x=>?_;subst he;refine⟨lim.keeps x.toInCall.keep,codeAny_func ?_⟩;obtain⟨t,ht,hq⟩:=G A g s H p Q E (hr.deeper _) hsp;have a:Inv (hX CX P w K mg j N h d f i A g s H E) [] (start N p) H s1:=mr S hr.hd e0 hl r x;refine Ej (ht [] s1 (start N p) H _ a hq) (λfl s' Z=>?_) λe s' Z=>Z
 have fin:∀{z:St} {D:Hp} {v:V} {u:L},Inv (hX CX P w K mg j N h d f i A g s H E) [] z D s'->RelV v u->Q v D->CE g P w H s Q u s':=
  λ{z D v u} c rv q=>⟨v,D,c.os,c.bare,c.base,c.hok,rv,q⟩
 cases fl with
 |ret u=>obtain⟨v,z,D,c,rv,q⟩:=Z;exact fin c rv q
 |next=>obtain⟨z,D,c,q⟩:=Z;exact fin (v:=V.non) (u:=Value.none) c rfl q
 |brk=>obtain⟨_,_,_,q⟩:=Z;exact EY q
 |cont=>obtain⟨_,_,_,q⟩:=Z;exact EY q
section
variable {X:Cx}{x:Str}{p pos:Pos}{e:Je}{es:U Je}{t:TA}{id T:Jm}{r:U V->Hp->VK->Prop}
def tCB (r:U V->Hp->VK->Prop)(t:TA):TE:=λc H Q=>t c H λb a=>r b a Q
theorem c9 (k:dN X (.builtin id) r)(m:Gl X x)(n:X.mg x=J)(u:Fw x=Y (.builtin id))(j:PA X (e::es) t)(o:x≠"__name__":=by decide)(c:(x==("__debug__":Str))=false:=by decide)
  (l:D5 (e::es) X.env=(DX,Jl e X.env)::D5 es X.env:=by rfl) (d:(En pos<|D5 es X.env).any (·.1)=false:=by rfl):PE X (.Call (.Name x p) (e::es) [] pos) (tCB r t):=by
 intro b s f H Q a h;refine GN<|cY a m n u ?_ o c;exact IP (thn (j pos b s f H _ a h) λz y ⟨A,g,i,w,v⟩=>k b y f g A z Q i w v) l d
theorem cP (k:dN X (.type T) r)(m:Gl X x)(n:X.mg x=J)(u:Fw x=Y (.type T))(j:PA X (e::es) t)(o:x≠"__name__":=by decide)(c:(x==("__debug__":Str))=false:=by decide)
  (l:D5 (e::es) X.env=(DX,Jl e X.env)::D5 es X.env:=by rfl) (d:(En pos<|D5 es X.env).any (·.1)=false:=by rfl):PE X (.Call (.Name x p) (e::es) [] pos) (tCB r t):=by
 intro b s f H Q a h;refine GN<|cY a m n u ?_ o c;exact GD (thn (j pos b s f H _ a h) λz y ⟨A,g,i,w,v⟩=>k b y f g A z Q i w v) l d
end
end L2
namespace HT
open PySem PyProof.Rows
section
variable {prog:I9}{w:D3}{A:D9}{E:L->DZ->Prop}{s:DZ}
theorem cat_tup {t b:IY}{d a:U L}{Q:L->DZ->Prop}(D:Jz s.heap t d.toArray)(z:Jz s.heap b a.toArray)(r:d≠[])
  (x:a=[]->Q (.ref t) s) (y:a≠[]->Q (.ref s.heap.objs.size) {s with heap:=s.heap.push {cls:=.type "tuple",data:=.seq (d++a).toArray}})
  (k:d.length+a.length<=sizeLine):Ja (D4 prog w) A (E1 .Add (.ref t)<|.ref b) Q E s:=by
 obtain⟨⟨cls,m,data,v⟩,ho,o,n,p⟩:=id D;obtain⟨⟨l,f,data2,i⟩,c,g,u,h⟩:=id z;simp only at o p g h;subst o p g h;have e:d.toArray++a.toArray=(d++a).toArray:=by simp
 by_cases j:a=[]
 .exact JI ⟨_,ho,rfl⟩ ⟨_,c,rfl⟩ G9 JC Hw Hj (Hl _ _)
   (tuple_addW1 t b d.toArray a.toArray n u m f v i (by simpa using r)<|by simp[j]) ⟨ho,c,x j⟩
 .refine JI ⟨_,ho,rfl⟩ ⟨_,c,rfl⟩ G9 JC Hw Hj (Hl _ _)
   (tuple_addW2 t b d.toArray a.toArray n u m f v i (by simpa using r) (by simpa using j)<|by rw[Ep,Ep];exact k) ⟨ho,c,?_⟩
  rw[e];exact y j
def sIx (n d:O):B I->O
|none=>d
|some v=>if v<0 then(v+(n:I)).toNat else min v.toNat n
theorem wM (n d:O)(b:d<=n)(o:B I):sIx n d o<=n:=by
 cases o with
 |none=>exact b
 |some v=>
  show(if v<0 then(v+(n:I)).toNat else min v.toNat n)<=n;by_cases a:v<0
  .rw[Jc a];lia
  .rw[Jd a];exact Nat.min_le_right _ _
theorem kP (v:I)(n d:O):(if v<0 then max (v+(n:I)) 0 else min v (n:I))=((sIx n d (Y v):O):I):=by
 show(if v<0 then max (v+(n:I)) 0 else min v (n:I))=(((if v<0 then(v+(n:I)).toNat else min v.toNat n):O):I);by_cases a:v<0
 .simp only[Jc a];lia
 .simp only[Jd a];lia
theorem jZ (lo a:B I)(n:O):Builtin.Slice.sliceAdjust lo a 1 (n:I)=(((sIx n 0 lo:O):I),((sIx n n a:O):I)):=by
 have b:¬((1:I)<0):=by lia
 unfold Builtin.Slice.sliceAdjust;simp only[b,if_false];refine Prod.ext ?_ ?_
 .cases lo with
  |none=>rfl
  |some v=>exact kP v n 0
 .cases a with
  |none=>rfl
  |some v=>exact kP v n n
theorem j3 (i j:O):Builtin.Slice.slicePlaces (i:I) (j:I) 1=j-i:=by
 unfold Builtin.Slice.slicePlaces;have a:(1:I)>0:=by lia
 simp only[a,JA,Int.ediv_one];split<;>lia
theorem eD {v:L}{o:B I}{Q:B I->DZ->Prop}(p:E5 v o)(h:Q o s):Ja (D4 prog w) A (Builtin.Slice.slicePartIndex v) Q E s:=by
 cases p with
 |none=>exact slicePart_none h
 |int i t=>exact slicePart_int h
theorem sliceApplied_gen {f:IY}{d e:L}{lo b:B I}{n:O}{Q:I×I×O->DZ->Prop}(i:s.heap.IsSliceOf f d e .none)(j:E5 d lo)(k:E5 e b)
  (h:Q (((sIx n 0 lo:O):I),1,sIx n n b-sIx n 0 lo) s):Ja (D4 prog w) A (Builtin.Slice.sliceApplied (.ref f)<|pure (n:I)) Q E s:=by
 obtain⟨os,c,g,a⟩:=id i;unfold Builtin.Slice.sliceApplied Builtin.Slice.sliceFields;refine D2<|D2<|EH c a (x:=d) rfl (D2<|EH c a (x:=e) rfl (D2<|EH c a (x:=.none) rfl (D6 ?_)));refine D2<|slicePart_none ?_;show Ja _ _ (if((1:I)==0)=DY then _ else _) _ _ s;rw[Jd<|by decide];refine D2<|eD j<|D2<|eD k<|D2<|D6 ?_;show Ja _ _ (match Builtin.Slice.sliceAdjust lo b 1 (n:I) with|(lo,b)=>pure (lo,(1:I),Builtin.Slice.slicePlaces lo b 1)) _ _ s;rw[jZ lo b n];show Ja _ _ (pure (((sIx n 0 lo:O):I),(1:I),Builtin.Slice.slicePlaces ((sIx n 0 lo:O):I) ((sIx n n b:O):I) 1)) _ _ s;rw[j3];exact D6 h
theorem qM (a:Jo L)(i k:O):((Eb k).filterMap λ(m:O)=>a[((i:I)+(m:I) * 1).toNat]?).toArray=((a.toList.drop i).take k).toArray:=by
 have e:(λ(m:O)=>a[((i:I)+(m:I) * 1).toNat]?)=λm=>a[i+m]?:=by
  funext m;have:((i:I)+(m:I) * 1).toNat=i+m:=by lia
  rw[this]
 rw[e];have:=pick_run a i k;rw[List.filterMap_map] at this;have e2:((λx=>a[x]?) ∘ λx=>i+x)=λm=>a[i+m]?:=rfl;rw[e2] at this;rw[this]
theorem getItem_tuple_cut {t j:IY}{a:Jo L}{l n:L}{lo c:B I}{Q:L->DZ->Prop}(d:Jz s.heap t a)(k:s.heap.IsSliceOf j l n .none)(u:E5 l lo)(v:E5 n c)
  (r:¬(sIx a.size 0 lo=0/\sIx a.size a.size c=a.size))
  (h:Q (.ref s.heap.objs.size) {s with heap:=s.heap.push {cls:=.type "tuple",data:=.seq ((a.toList.drop<|sIx a.size 0 lo).take<|sIx a.size a.size c-sIx a.size 0 lo).toArray}})
  (p:a.size<=sizeLine):Ja (D4 prog w) A (E6 (.ref t)<|.ref j) Q E s:=by
 have b:sizeOk (.seq ((a.toList.drop (sIx a.size 0 lo)).take (sIx a.size a.size c-sIx a.size 0 lo)).toArray):=by show((a.toList.drop<|sIx a.size 0 lo).take<|sIx a.size a.size c-sIx a.size 0 lo).toArray.size<=sizeLine;rw[Ep,Gx,Hz,GS];lia
 have x:sIx a.size a.size c<=a.size:=wM _ _ (D7 _) c;obtain⟨os,i,f,o⟩:=id k;have e:s.TypeIs (.ref j) "slice":=⟨os,i,f⟩;unfold E6
 try with_reducible refine wpAny_holding ?_
 first|refine D2 (D6 ?_)|skip
 refine D2<|wpAny_sequenceKey d.typeIs (by decide) ?_
 refine D2 (FX (name:=Str.ofString "__getitem__") d.typeIs Gg
  (F4 Gg d.typeIs entry_tuple_getitem ?_<|args_tuple_getitem _ _))
 show Ja _ _ (Builtin.Tuple.tupleItemsOf (.ref t) >>= _) _ _ s;refine D2<|tupleItemsOf_ d ?_;refine D2<|JJ e ?_;rw[Jc<|by decide];refine D2<|sliceApplied_gen k u v ?_;have g:¬((((sIx a.size 0 lo:O):I)==0&&(1:I)==1&&(sIx a.size a.size c-sIx a.size 0 lo)==a.size)=DY):=by intro q;rw[Ew,Ew] at q;have y:((sIx a.size 0 lo:O):I)=0:=eq_of_beq q.1.1;have z:sIx a.size a.size c-sIx a.size 0 lo=a.size:=eq_of_beq q.2;exact r ⟨by lia,by lia⟩
 show Ja _ _ (if(((sIx a.size 0 lo:O):I)==0&&(1:I)==1&&(sIx a.size a.size c-sIx a.size 0 lo)==a.size)=DY then _ else _) _ _ s;rw[Jd g,qM]
 first
  |exact D2 (m:=Builtin.Tuple.tupleExact _)<|FH (D6 ⟨_,rfl,D6 h⟩) b
  |exact D2 (m:=Builtin.Tuple.tupleExact _)<|FH (D2<|D6<|D6 ⟨_,rfl,D6 h⟩) b
  |exact D2<|D2 (m:=Builtin.Tuple.tupleExact _)<|FH (D6<|D6 ⟨_,rfl,D6 h⟩) b
  |exact D2<|D2 (m:=Builtin.Tuple.tupleExact _)<|FH (D6 ⟨_,rfl,D6 h⟩) b
end
end HT
namespace L2
open PySem PySem.Spec PyProof.Rows
abbrev TO:=St->Hp->(B I->Hp->Prop)->Prop
def PO (X:Cx)(e:B Je)(t:TO):Prop:=
 ∀(a:U<|IY×Obj) (s:DZ) (b:St) (H:Hp) (Q:B I->Hp->Prop),Inv X a b H s->t b H Q ->
  Ja (D4 X.prog X.w) X.A (evalPart e X.env) (λu d=>∃o c,Inv X a b c d/\E5 u o/\Q o c) X.xe s
def tK:TO:=λ_ H Q=>Q J H
noncomputable def Ax (t:TE):TO:=λb H Q=>t b H λx a=>∃i,x=.int i/\Q (Y i) a
section
variable {X:Cx}{e:Je}{te:TE}{lo hi:B Je}{tl th:TO}{pos p2:Pos}
theorem uv:PO X J tK:=by intro b s c H Q a h;rw[evalPart_none];exact D6 ⟨J,H,a,.none,h⟩
theorem sZ (h:PE X e te):PO X (Y e) (Ax te):=by intro b s k H Q a f;rw[evalPart_some];refine thn (h b s k H _ a f) λu l ⟨x,c,d,j,g⟩=>?_;obtain⟨i,rfl,q⟩:=g;obtain⟨t,rfl⟩:=j;exact⟨Y i,c,d,.int i t,q⟩
def SlR (X:Cx)(r:V->B I->B I->Hp->VK->Prop):Prop:=
 ∀(a:U<|IY×Obj) (s:DZ) (f:St) (H:Hp) (x:V) (v c d:L) (lo hi:B I) (b:IY) (Q:VK),Inv X a f H s->RelV x v->s.heap.IsSliceOf b c d .none->E5 c lo->E5 d hi->r x lo hi H Q ->
  ∃T id,typeLookup (.type T) "__getitem__"=pure (Y<|.builtin id)/\s.TypeIs v T/\Ja (D4 X.prog X.w) X.A (E6 v<|.ref b) (EP X a f Q) X.xe s
theorem SlR.or {r g:V->B I->B I->Hp->VK->Prop}(h:SlR X r)(n:SlR X g):SlR X (λx lo hi H Q=>r x lo hi H Q\/g x lo hi H Q):=by
 intro b s m H x v k l lo hi j Q a i c d f q;rcases q with q|q
 .exact h b s m H x v k l lo hi j Q a i c d f q
 .exact n b s m H x v k l lo hi j Q a i c d f q
def tSl (r:V->B I->B I->Hp->VK->Prop)(te:TE)(tl th:TO):TE:=λa H Q=>te a H λx b=>tl a b λl c=>th a c λu d=>r x l u d Q
theorem nE {r:V->B I->B I->Hp->VK->Prop}(F:SlR X r)(y:PE X e te)(D:PO X lo tl)(M:PO X hi th):PE X (.Subscript e (.Slice lo hi J p2) pos) (tSl r te tl th):=by intro c s f H Q a h;refine Subscript_<|thn (y c s f H _ a h) λv s1 ⟨x,k,n,r1,Z⟩=>?_;refine wpAny_Slice<|thn (D c s1 f k _ n Z) λg s2 ⟨l,m,o,N,q2⟩=>thn (M c s2 f m _ o q2) λi d ⟨u,j,p,P,q3⟩=>?_;rw[evalPart_none];refine D6 ?_;have t:Inv X c f j {d with heap:=d.heap.push {cls:=.type "slice",data:=.fields #[g,i,.none]}}:=p.kept (t':=d.toks) λb ob q=>Heap.get?_push_of_some _ q;obtain⟨T,id,hT,G,z⟩:=F c {d with heap:=d.heap.push {cls:=.type "slice",data:=.fields #[g,i,.none]}} f j x v g i l u d.heap.objs.size Q t r1 (Heap.IsSliceOf.new ..) N P q3;show Ja (D4 X.prog X.w) X.A (JD e (.Slice lo hi J p2) v<|.ref d.heap.objs.size) (EP X c f Q) X.xe {d with heap:=d.heap.push {cls:=.type "slice",data:=.fields #[g,i,.none]}};exact tail_any (ops:=[.ref d.heap.objs.size,v]) G hT z<|by with_unfolding_all rfl
def c7 (a:U V)(lo hi:B I):U V:=(a.drop<|HT.sIx a.length 0 lo).take<|HT.sIx a.length a.length hi-HT.sIx a.length 0 lo
theorem bI (a:U V)(lo hi:B I):(c7 a lo hi).length<=a.length:=by unfold c7;rw[Gx,Hz];lia
def CJ (K:D1):V->B I->B I->Hp->VK->Prop:=λx lo hi H Q=>∃a b,x=.ref a/\SqT K H a b /\
 ¬(HT.sIx b.length 0 lo=0/\HT.sIx b.length b.length hi=b.length)/\∀p,H p=J->Q (.ref p) (upd H p<|.tup<|c7 b lo hi)
theorem xK:SlR X (CJ X.K):=by
 intro k s A H x v y z lo hi w Q c t l n p h;obtain⟨a,f,rfl,hx,m,q⟩:=h;cases t;obtain⟨g,r,i,j⟩:=c.tuple hx;have d:g.toArray.size=f.length:=by rw[Ep];exact r.length.symm
 refine⟨"tuple",_,Gg.lookup,i.typeIs,?_⟩;refine HT.getItem_tuple_cut i l n p (by rw[d];exact m) ?_ (by rw[d];exact j);rw[d];refine⟨.ref s.heap.objs.size,_,c.laid (t':=s.toks) (o:=.tup<|c7 f lo hi) (λb u q=>Heap.get?_push_of_some _ q) (D7 _) ?_,rfl,q _<|c.hok.fresh<|D7 _⟩;exact⟨Ed (bI f lo hi) j,_,(r.drop<|HT.sIx f.length 0 lo).take<|HT.sIx f.length f.length hi-HT.sIx f.length 0 lo,IsTup.new _ _⟩
def AS (K:D1):R2:=λx y H Q=>∃a b d c,x=.ref a/\y=.ref b/\SqT K H a d/\SqT K H b c/\d≠[]/\d.length+c.length<=sizeLine /\
 (c=[]->Q (.ref a) H)/\(c≠[]->∀p,H p=J->Q (.ref p) (upd H p<|.tup<|d++c))
theorem Vals.nil_iff {b:U V}{a:U L}(r:Vals b a):a=[] ↔ b=[]:=by
 cases r with
 |nil=>simp
 |cons _ _=>simp
theorem t4:OpR X (E1 .Add) (AS X.K):=by intro j s M H x y v u Q c t A h;obtain⟨a,b,D,F,rfl,rfl,k,l,hx,g,p,r⟩:=h;cases t;cases A;obtain⟨m,f,n,_⟩:=c.tuple k;obtain⟨i,d,p2,_⟩:=c.tuple l;refine HT.cat_tup n p2 (λz=>hx<|f.nil_iff.mp z) (λz=>⟨.ref a,H,c,rfl,p<|d.nil_iff.mp z⟩) (λz=>?_) (by rw[<- f.length,<- d.length];exact g);refine⟨.ref s.heap.objs.size,_,c.laid (t':=s.toks) (o:=.tup<|D++F) (λb G q=>Heap.get?_push_of_some _ q) (D7 _) ?_,rfl,r (λw=>z<|d.nil_iff.mpr w) _<|c.hok.fresh<|D7 _⟩;exact⟨by rw[Er];exact g,_,f.append d,IsTup.new _ _⟩
end
def ixN (n:O)(i:I):B O:=if 0<=i then(if i<n then Y i.toNat else J) else if -(n:I)<=i then Y (i+n).toNat else J
def atI {b:Type}(a:U b)(i:I):B b:=(ixN a.length i).bind λj=>a[j]?
theorem t8 {n:O}{i:I}{j:O}(h:ixN n i=Y j):seqIndex? i n=Y j/\j<n/\-(n:I)<=i/\i<n:=by
 unfold ixN at h;by_cases b:0<=i
 .rw [Jc b] at h;by_cases a:i<n
  .rw [Jc a] at h;have e:i.toNat=j:=EC h;exact⟨by rw[seqIndex_of b a,e],by lia,by lia,a⟩
  .rw[Jd a] at h;cases h
 .rw [Jd b] at h;by_cases a:-(n:I)<=i
  .rw [Jc a] at h;have e:(i+n).toNat=j:=EC h;exact⟨by rw[seqIndex_neg (by lia) a,e],by lia,a,by lia⟩
  .rw[Jd a] at h;cases h
theorem gW {b:Type}{a:U b}{i:I}{v:b}(h:atI a i=Y v):∃j,seqIndex? i a.length=Y j/\a[j]?=Y v/\j<a.length/\-(a.length:I)<=i/\i<a.length:=by
 unfold atI at h;cases e:ixN a.length i with
 |none=>rw[e] at h;cases h
 |some j=>rw[e] at h;obtain⟨c,d,f,g⟩:=t8 e;exact⟨j,c,h,d,f,g⟩
theorem tq {b:Type}{a:U b}{j:O}{v:b}(h:a[j]?=Y v):atI a (j:I)=Y v:=by
 have c:j<a.length:=(EM.mp h).1;have e:ixN a.length (j:I)=Y j:=by unfold ixN;rw[Jc<|by lia,Jc<|by lia];simp
 unfold atI;rw[e];exact h
def cH (b:Je):Prop:=∀o i,GH b DX o i=operate [o,i] (E6 o i)
def IxR (X:Cx)(r:R2):Prop:=
 ∀(c a:Je) (b:U<|IY×Obj) (s:DZ) (d:St) (H:Hp) (x y:V) (v u:L) (Q:VK),Inv X b d H s->RelV x v->RelV y u->r x y H Q ->
  GH a DX v u=operate [v,u] (E6 v u)->Ja (D4 X.prog X.w) X.A (JD c a v u) (EP X b d Q) X.xe s
def MtR (X:Cx)(id:Jm)(r:V->U V->Hp->VK->Prop):Prop:=
 ∀(a:U<|IY×Obj) (s:DZ) (d:St) (H:Hp) (x:V) (c:U V) (v:L) (b:U L) (Q:VK),Inv X a d H s->RelV x v->Vals c b->r x c H Q ->
  Ja (D4 X.prog X.w) X.A (call (.builtin id) (v::b)) (EP X a d Q) X.xe s
section
variable {X:Cx}{a b:Je}{ta tb:TE}{pos:Pos}
theorem IxR.or {r i:R2}(h:IxR X r)(m:IxR X i):IxR X (λx y H Q=>r x y H Q\/i x y H Q):=by
 intro e d f s l H x y v u Q c j k q g;rcases q with q|q
 .exact h e d f s l H x y v u Q c j k q g
 .exact m e d f s l H x y v u Q c j k q g
theorem oR {r:R2}(j:IxR X r)(g:PE X a ta)(i:PE X b tb)(k:cH b):PE X (.Subscript a b pos) (tOp r ta tb):=by intro d s o H Q c h;exact Subscript_<|zP g i c h λv u n x y e f l m q=>j a b d n o e x y v u Q f l m q<|k _ _
def DI (K:D1):R2:=λx y H Q=>∃p c i v,x=.ref p/\y=.int i/\SqL K H p c/\atI c i=Y v/\Q v H
def DS (K:D1):R2:=λx y H Q=>∃p c i v,x=.ref p/\y=.int i/\SqT K H p c/\atI c i=Y v/\Q v H
noncomputable def C7:R2:=λx y H Q=>∃z i c,x=.str z/\y=.int i/\z.length<=sizeLine/\atI z.cps.toList i=Y c/\Q (.str ⟨#[c]⟩) H
theorem tZ:IxR X (DI X.K):=by
 intro o n d s G H x y v u Q c rx ry h F;obtain⟨p,xs,i,z,rfl,rfl,hq,Z,q⟩:=h;cases rx;obtain⟨t,rfl⟩:=ry;obtain⟨k,r,l,hz⟩:=c.list hq;obtain⟨j,f,M,h3,N,P⟩:=gW Z;obtain⟨w,A,m⟩:=r.get M;have hl:=r.length;have hn:=fy;have e:EP X d G Q w s:=⟨z,H,c,m,q⟩;by_cases D:0<=i
 .have g:i.toNat=j:=by rw[seqIndex_of D P] at f;exact EC f
  exact item_listR l.isList D (by lia) (by rw[g];simpa using A) e F
 .have g:(i+(k.toArray.size:I)).toNat=j:=by rw[seqIndex_neg (by lia) N] at f;rw[Ep,<- hl];exact EC f
  exact Jx (x:=w) l.isList.typeIs slot_list_getitem.lookup
   (wpAny_getItem_list_neg (Q:=λr s'=>r=w/\EP X d G Q r s') l.isList (by lia) (by rw[Ep]<;>lia) (by lia) (by rw[g];simpa using A) ⟨rfl,e⟩) F
theorem yE:IxR X (DS X.K):=by
 intro k g d s m H x y v u Q c P Z h M;obtain⟨p,xs,i,z,rfl,rfl,G,D,q⟩:=h;cases P;obtain⟨t,rfl⟩:=Z;obtain⟨N,r,l,hz⟩:=c.tuple G;obtain⟨j,o,A,h3,h4,h5⟩:=gW D;obtain⟨w,n,f⟩:=r.get A;have F:=r.length;have hn:=fy;have e:EP X d m Q w s:=⟨z,H,c,f,q⟩
 exact Jx (x:=w) l.typeIs slot_tuple_getitem.lookup
  (getItem_tuple (j:=j) (Q:=λr s'=>r=w/\EP X d m Q r s') l (by lia) (by lia) (by rw[Ep,<- F];exact o) (by simpa using n) ⟨rfl,e⟩) M
theorem yr:IxR X C7:=by
 intro f e k s N H x y v u Q d w A h r;obtain⟨z,i,c,rfl,rfl,G,o,q⟩:=h;obtain⟨t,rfl⟩:=w;obtain⟨M,rfl⟩:=A;obtain⟨j,g,l,D,m,n⟩:=gW o;have p:z.cps.toList.length=z.length:=by simp[Str.length]
 rw[p] at g m n;have F:=fy
 exact tail_any (typeIs_str s z t) slot_str_getitem.lookup (getItem_str (c:=c) (by
  have e1:decide (i < -(2 ^ 63:I))=false:=Jn (by lia);have e2:decide (i >= 2 ^ 63)=false:=Jn (by lia);rw[e1,e2,EO]) (by rw[g];simpa using l) ⟨.str ⟨#[c]⟩,H,d.tok _,⟨_,rfl⟩,q⟩) r
theorem ia (lo c:B I)(n:O):(FI lo c J n).1=((HT.sIx n 0 lo:O):I)/\(FI lo c J n).2.1=((HT.sIx n n c:O):I)/\(FI lo c J n).2.2=1:=by
 refine⟨?_,?_,rfl⟩
 .cases lo with
  |none=>simp[FI,HT.sIx]
  |some i=>
   simp only[FI,HT.sIx,HH,show(1:I)>0 by decide,JA];by_cases h:i<0
   .simp only[h,JA]<;>lia
   .simp only[h,if_false]<;>lia
 .cases c with
  |none=>simp[FI,HT.sIx]
  |some i=>
   simp only[FI,HT.sIx,HH,show(1:I)>0 by decide,JA];by_cases h:i<0
   .simp only[h,JA]<;>lia
   .simp only[h,if_false]<;>lia
theorem fM (c:U L)(lo d:B I):slicePick c.toArray lo d J=((c.drop<|HT.sIx c.length 0 lo).take<|HT.sIx c.length c.length d-HT.sIx c.length 0 lo).toArray:=by obtain⟨e,f,g⟩:=ia lo d c.toArray.size;unfold slicePick;rw[e,f,g];simp only[sliceRange_one,pick_run,Ep]<;>rfl
def wG (K:D1):V->B I->B I->Hp->VK->Prop:=λx lo d H Q=>∃a c,x=.ref a/\SqL K H a c/\∀p,H p=J->Q (.ref p) (upd H p<|.lst<|c7 c lo d)
theorem sl_list:SlR X (wG X.K):=by intro i s z H x v w y lo f u Q c p j m n h;obtain⟨a,d,rfl,hx,q⟩:=h;cases p;obtain⟨l,r,g,k⟩:=c.list hx;have e:=r.length;refine⟨"list",_,slot_list_getitem.lookup,g.isList.typeIs,?_⟩;refine wpAny_getItem_list_slice g.isList j m n .none (by simp) ?_ (by rw[Ep]<;>lia);rw[fM,<- e];refine⟨.ref s.heap.objs.size,_,c.laid (t':=s.toks) (o:=.lst<|c7 d lo f) (λb t q=>Heap.get?_push_of_some _ q) (D7 _) ?_,rfl,q _<|c.hok.fresh<|D7 _⟩;exact⟨Ed (bI d lo f) k,_,0,(r.drop<|HT.sIx d.length 0 lo).take<|HT.sIx d.length d.length f-HT.sIx d.length 0 lo,Heap.get?_push_size _ rfl⟩
noncomputable def eqV:V->V->IZ
|.non,.non=>DY
|.bl a,.bl b=>a==b
|.bl a,.int b=>(if a then 1 else 0)==b
|.int a,.bl b=>a==(if b then 1 else 0)
|.int a,.int b=>a==b
|.str a,.str b=>a==b
|_,_=>DX
def inV (x:V)(c:U V):IZ:=c.any λy=>eqV y x
theorem fS:dN X (.type "tuple") (λx H Q=>∃p g,x=[.ref p]/\((SqL X.K H p g/\∀l,H l=J->Q (.ref l) (upd H l<|.tup g))\/(SqT X.K H p g/\Q (.ref p) H))):=by
 intro d s y H x F Q c r h;obtain⟨p,g,rfl,h⟩:=h;obtain⟨u,rfl,D⟩:=iJ r;cases D;rcases h with⟨j,q⟩|⟨j,q⟩
 .obtain ⟨f,m,k,v⟩:=c.list j;have t:=m.length;refine call_tuple_list k.isList (λi A=>?_) (by simp only[Ep]<;>lia);have n:Inv X d y H {s with heap:=i}:=c.kept (t':=s.toks) A
  have z:Inv X d y (upd H i.objs.size (.tup g)) {s with heap:=i.push {cls:=.type "tuple",data:=.seq f.toArray}}:=
   n.laid (t':=s.toks) (λb o e=>Heap.get?_push_of_some _ e) (D7 _) (show ObjOk X.prog X.w _ _ _ (.tup g) from⟨v,f,m,IsTup.new _ _⟩)
  exact⟨.ref i.objs.size,_,z,rfl,q _<|n.hok.fresh<|D7 _⟩
 .obtain ⟨f,m,k,v⟩:=c.tuple j;exact call_tuple_same k ⟨.ref p,H,c,rfl,q⟩
def tyV (K:D1)(T:Jm)(x:V)(H:Hp):Prop:=match x with
|.str _=>T="str"
|.int _=>T="int"
| .ref p=>(T="list"/\∃ d,SqL K H p d)\/(T="tuple"/\∃ o,K.lookup p=Y o/\o.cls=.type "tuple"/\o.dict=J) \/
  (T="dict"/\((∃c,H p=Y (.dK c))\/∃c,H p=Y (.dT c)))\/(T="set"/\∃S n,H p=Y (.set S n))
|_=>Jh
theorem yz {g:U<|IY×Obj}{y:St}{H:Hp}{s:DZ}{T:Jm}{x:V}{v:L}(d:Inv X g y H s)(r:RelV x v)(ty:tyV X.K T x H):
  s.TypeIs v T/\∀a,v=.ref a->∃k,s.heap.get? a=Y k/\k.dict=none:=by
 cases x with
 |str z=>obtain⟨t,rfl⟩:=r;cases(show T="str" from ty);exact⟨typeIs_str s z t,λ_ e=>nomatch e⟩
 |int i=>obtain⟨t,rfl⟩:=r;cases(show T="int" from ty);exact⟨typeIs_int s i t,λ_ e=>nomatch e⟩
 | ref p =>
  cases r;rcases ty with⟨rfl,A,u⟩|⟨rfl,o,hk,m,h⟩|⟨rfl,hk⟩|⟨rfl,S,n,hk⟩
  .obtain ⟨w,_,l,_⟩:=d.list u;refine⟨l.isList.typeIs,λa e=>?_⟩;cases e;obtain⟨o,n,e,c,h,_⟩:=l;exact⟨o,e,h⟩
  .refine ⟨⟨o,d.kIn p o hk,m⟩,fun a e=>?_⟩;cases e;exact⟨o,d.kIn _ o hk,h⟩
  .have z:∃ o,s.heap.get? p=Y o/\o.ExactDict:=by
    rcases hk with⟨j,hk⟩|⟨j,hk⟩
    .obtain ⟨_,_,_,_,o,_,_,e,f,_⟩:=d.hok p _ hk;exact⟨o,e,f⟩
    .obtain ⟨_,_,_,_,o,_,_,e,f,_⟩:=d.hok p _ hk;exact⟨o,e,f⟩
   obtain⟨o,e,f⟩:=z;refine⟨⟨o,e,f.1⟩,λa e2=>?_⟩;cases e2;exact⟨o,e,f.2.1⟩
  .obtain ⟨o,_,_,_,e,f,_⟩:=d.hok p _ hk;refine⟨⟨o,e,f.1⟩,λa e2=>?_⟩;cases e2;exact⟨o,e,f.2.1⟩
 |_=>exact EY ty
def tBM (K:D1)(T:Jm)(r:V->U V->Hp->VK->Prop)(to:TE)(t:TA):TE:=λd H Q=>to d H λx c=>tyV K T x c/\t d c λf e=>r x f e Q
variable {o e:Je}{es:U Je}{to:TE}{t:TA}{name:Str}{apos cpos:Pos}{T id:Jm}{r:V->U V->Hp->VK->Prop}
theorem vB (N:PlainAttrs T)(k:Slot T name id)(l:typeOf (.builtin id)=pure (.type "method_descriptor"))(G:MtR X id r)(ho:PE X o to)(F:PA X (e::es) t)
  (g:Gk o name X.env (Jl o X.env)=Jl o X.env:=by rfl)
  (j:((En cpos<|D5 (e::es) X.env).all (λx=>!x.1)&&(backToKw cpos<|keywordEach [] X.env).all (λx=>x.1.isSome)
  &&decide ((e::es).length+([]:U Keyword).length+(if([]:U Keyword).isEmpty then 0 else 1)<30))=true:=by rfl)
  (i:(apos.endLine==cpos.line)=true:=by rfl) (M:D5 (e::es) X.env=(DX,Jl e X.env)::D5 es X.env:=by rfl) (f:(En cpos<|D5 es X.env).any (·.1)=false:=by rfl):
  PE X (.Call (.Attribute o name apos) (e::es) [] cpos) (tBM X.K T r to t):=by
 intro d s m H Q c h;refine wpAny_Call_method_late g j i rfl (thn (ho d s m H _ c h) λv s1 ⟨x,w,n,u,ty,P⟩=>?_);obtain⟨A,D⟩:=yz n u ty;refine⟨T,id,N,k,l,A,D,?_⟩;have p:=F cpos d s1 m w _ n P;rw[M] at p ⊢;refine Calls.callWith_builtin (by show(DX || (En cpos<|D5 es X.env).any (·.1))=DX;rw[f]<;>rfl)<|Calls.evalArgs_plain ?_;exact thn p λus s2 ⟨vs,y,z,r2,Z⟩=>G d s2 m y x vs v us Q z u r2 Z
end
def MtM (X:Cx)(id:Jm)(r:V->U V->Hp->VK->Prop):Prop:=
 ∀(a:U<|IY×Obj) (s:DZ) (d:St) (H:Hp) (x:V) (c:U V) (v:L) (b:U L) (Q:VK),Inv X a d H s->RelV x v->Vals c b->r x c H Q ->
  Ja (D4 X.prog X.w) X.A (call (.builtin id) (v::b)) (EP X a d Q) X.xe s
theorem Vals.one:∀{x:V} {a:U L},Vals [x] a->∃u,a=[u]/\RelV x u
|_,_,.cons r .nil=>⟨_,rfl,r⟩
section
variable {X:Cx}{pins:U (IY×Obj)}{σ:St}{H:Hp}{s:DZ}{l b:IY}{xs ys zs:U V}
theorem Inv.lset {c its':U L}{n:O}{f:Jo L->Jo L}{m:O}(a:Inv X pins σ H s)(d:H l=Y (.lst xs))
  (e:s.heap.get? l=Y {cls:=.type "list",data:=.seq c.toArray n}) (h:f c.toArray=its'.toArray) (j:Vals ys its') (k:ys.length<=sizeLine):
  Inv X pins σ (upd H l<|.lst ys) {s with heap:=s.heap.update l<|Obj.mapSeq f,toks:=m}:=by
 have q:=PySem.IsL.update e f;rw[h] at q;refine a.write (x:=l) (e:=l) (by rw[d];exact trivial) (.inl rfl) (λo u g i=>(Heap.get?_update_other s.heap (Obj.mapSeq f)<|EB g).trans i) ⟨_,q⟩ ?_;exact⟨k,its',_,j,q⟩
theorem Inv.lnew {c:U L}{t':O}(a:Inv X pins σ H s)(d:Vals ys c)(e:ys.length<=sizeLine):
  Inv X pins σ (upd H s.heap.objs.size<|.lst ys) {s with heap:=s.heap.push {cls:=.type "list",data:=.seq c.toArray},toks:=t'}:=
 a.laid (λ_ _ q=>Heap.get?_push_of_some _ q) (D7 _) ⟨e,c,0,d,Heap.get?_push_size _ rfl⟩
theorem Inv.fresh (a:Inv X pins σ H s):H s.heap.objs.size=none:=a.hok.fresh<|D7 _
theorem Inv.lstM (a:Inv X pins σ H s)(d:H l=Y (.lst xs)):xs.length<=sizeLine/\∃(c:U L) (n:O),Vals xs c/\xs.length=c.length/\s.heap.get? l=Y {cls:=.type "list",data:=.seq c.toArray n}:=by obtain⟨z,c,n,r,e⟩:=a.hok l _ d;exact⟨z,c,n,r,r.length,e⟩
end
section
variable {X:Cx}
def uO:V->U V->Hp->VK->Prop:=λx b H Q=>∃l a y,x=.ref l/\b=[y]/\H l=Y (.lst a)/\a.length<sizeLine/\Q .non (upd H l<|.lst<|a++[y])
theorem gg:MtM X "list.append" uO:=by intro d s t H x o v m Q a i g h;obtain⟨l,p,y,rfl,rfl,c,k,q⟩:=h;cases i;obtain⟨u,rfl,f⟩:=g.one;obtain⟨z,b,n,r,j,e⟩:=a.lstM c;refine call_meets F.slot_list_append ⟨_,e,rfl⟩ F.entry_list_append (F.args_list_append_2 _ _) (PySem.list_append l b.toArray n u<|by rw[Ep];lia) ⟨e,?_⟩;refine⟨.non,_,a.lset (its':=b++[u]) c e (by simp) (r.append<|.cons f .nil) ?_,rfl,q⟩;rw[Er,GU];lia
def Bf:R2:=λx y H Q=>∃l b a c,x=.ref l/\y=.ref b/\H l=Y (.lst a)/\H b=Y (.lst c)/\a.length+c.length<=sizeLine/\∀p,H p=J->Q (.ref p) (upd H p<|.lst<|a++c)
theorem op_cat:OpR X (E1 .Add) Bf:=by
 intro f s M H x y v u Q a o p h;obtain⟨l,b,D,G,rfl,rfl,j,i,w,q⟩:=h;cases o;cases p;obtain⟨z,d,n,r,t,e⟩:=a.lstM j;obtain⟨F,c,A,m,k,e2⟩:=a.lstM i;refine PySem.P.add_list e e2 ?_ (by rw[Ep,Ep];lia);have g:d.toArray++c.toArray=(d++c).toArray:=by simp
 rw[g];exact⟨.ref _,_,a.lnew (t':=s.toks) (r.append m)<|by rw[Er];lia,rfl,q _ a.fresh⟩
end
end L2
namespace Att
open PySem PySem.W PySem.Calls PyProof.Rows
theorem dZ {P:Ei}{h:Jf}:∀(c:U I) (d:U L),WellAll P h d (c.map WData.int)->JQ d c:=by
 intro c;induction c with
 |nil=>intro d w;rw[FA] at w;cases w;exact .nil
 | cons n c e =>
  intro d w;rw[Eo] at w;cases w with
  |cons a b=>cases a;exact .cons _ _<|e _ b
theorem mY {l:OpenLaw}{n:O}(v:l.most=Y n){P:Ei}{h:Jf}{args:U WData}{e:U L}
  (c:l.row.toRowW.claim.pre args=DY) (m:WellAll P h e args):
  ∃a p b,e=[Value.ref a]/\args=[WData.list<|b.map WData.int]/\h.get? a=Y {cls:=.type "list",data:=.seq p.toArray}/\JQ p b/\b.length<=n:=by
 have k:WShape.hasAll [] args [.list .int]=true:=(pre_splitW c).1;have o:l.pre.holds [] {args:=args}=true:=(pre_splitW c).2;obtain⟨d,r,rfl,s,t⟩:=hasAllW_cons k;obtain rfl:=hasAllW_nil t;obtain⟨z,rfl,u⟩:=hasW_list s;obtain⟨b,rfl⟩:=items_int u
 have g:b.length<=n:=by
  unfold OpenLaw.pre at o;have i:(WTm.not (.lt (.lit (.int (n:I))) (.len (.arg 0)))).holds [] {args:=[.list<|b.map .int]}=true:=by have i:=(holds_andW o).1;rw[v] at i;exact i
  have j:=condW_of i<|w_not<|w_lt w_lit<|w_len_list<|w_arg rfl;rw[Ea] at j;refine HG λq=>?_;have w:(n:I)<((b.length:O):I):=by lia
  first
   |(rw[I0 w] at j;exact Jb j<|by decide)
   |(simp at j;lia)
 cases m with
 |cons x y=>
  cases y;cases x with
  |list ho f=>exact⟨_,_,b,rfl,rfl,ho,dZ b _ f,g⟩
theorem mT (l:OpenLaw)(args:U WData):l.row.toRowW.claim.post args (.bool DY) args=true:=
 postW_of (r:=l.row.toRowW) (X:=(DY==DY))
  (show WShape.has [] (.bool DY) .bool=DY by first|rfl|decide|simp[WShape.has,WShape.arms,WShape.armsAll])
  (show(WTm.eq .res<|.lit<|.bool DY).value [] {args:=args,res:=Y<|.bool DY,after:=args}=Y (.bool<|DY==DY) from w_eq_bool (w_res rfl) w_lit) rfl
theorem attach_call {l:OpenLaw}{n:O}{q:I9}{e:U Str}{N:(Str->B L)->Jf->Prop}{P:D3->Jf->Prop}{d:DefRec}
  (hn:l.most=Y n) (A:d.params.defaults=[])
  (call:∀ (w:D3) (g c:DZ) (v H:Str->B L) (k:IY) (o:Obj) (M u h:L) (a:IY) (j:U L) (x:U I),
   Ground q e [] N w g v H c.heap->P w c.heap ->
   c.heap.get? k=Y o->o.data=.func (docDef d.name d.params d.body d.scope M u h)->c.heap.CodeRec u d.name->v d.name=Y (.ref k) ->
   c.heap.get? a=Y {cls:=.type "list",data:=.seq j.toArray}->JQ j x->x.length<=n->c.gens=#[] ->
   E7 (D4 l.prog w) Fx (.call (.ref k) ⟨[.ref a],[]⟩) (λr y=>r=.ok (.ret<|.bool DY)/\OldK c.heap y.heap/\y.os=c.os/\Fe y.gens) c):
  WalkO q e N P l.row.toRowW d [] (λf j=>Hh f j):=by
 intro w g c v H G b k o M u h dV kV ho hd z Z D hg Q vals as t hlay hrd F hlo;obtain rfl:dV=.none:=Dflts.none Z A;obtain rfl:kV=.none:=Dflts.noKw Z;obtain⟨a,j,x,rfl,rfl,p,i,m⟩:=mY hn t F;refine enter_call<|GO (call w g c v H k o M u h a j x G b ho (fd_plain hd) z D p i m hg) λr y hq=>?_;obtain⟨rfl,h2,h3,h4⟩:=hq;exact⟨.inl ⟨.bool DY,.bool DY,[],rfl,λ_=>rfl,.bool DY,mT l _,λ_=>⟨IM,λ_ hm=>(nomatch hm)⟩⟩,h2,h3,h4⟩
end Att
namespace L2
open PySem PySem.Spec PyProof.Rows
theorem gp:∀{b:U L} {a:U I},JQ b a->Vals (a.map V.int) b
|_,_,.nil=>.nil
|_,_,.cons n t h=>.cons ⟨t,rfl⟩<|gp h
def nY (H:Hp):Prop:=∀b,H b=J\/∃o a,H b=Y (.frz o<|.lst a)
theorem pw {P:I9}{w:D3}{K:D1}{Z mb:Str->B L}{CX:CXT}{k:O}{fa a:IY}{fd:Ey}{x:Str}{sp:Sp}{c:DZ}{t:U L}{ns:U I}
  (KX:K.In c.heap) (G:c.heap.Ns D8 Z) (g:c.heap.Ns builtinsNs mb) (hbb:∀x:Str,x≠"__name__"->mb x=Fw x) (D:c.heap.NoLimit) (hg:c.gens=#[])
  (ha:c.heap.get? a=Y {cls:=.type "list",data:=.seq t.toArray}) (hi:JQ t ns) (hl:ns.length<=sizeLine) (hr:Room k Fx)
  (F:∀i:Jf,K.In i->i.Ns D8 Z->FnOk P w K Z i CX k fa fd [x] sp) (p:∀(s:DZ) (u:L),Fy s fd ⟨[u],[]⟩ [(x,u)])
  (hsp:∀H:Hp,nY H->SqL K H a (ns.map V.int)->sp [.ref a] H (λv _=>v=.bl DY) λ_ _ _=>Jh)
  (hCX:∀H e j,CX [] H c (λ_ _ _=>Jh) e j->Jh):
  E7 (D4 P w) Fx (.call (.ref fa) ⟨[.ref a],[]⟩) (λr j=>r=.ok (.ret<|.bool DY)/\OldK c.heap j.heap/\j.os=c.os/\Fe j.gens) c:=by
 have rv:=gp hi;have Q:=hi.length
 -- from an abstract heap in which nothing but the script may be tracked
 have core:∀ H:Hp,nY H->SqL K H a (ns.map V.int)->HOk P w H c.heap->(∀ b,H b≠J->b=a)->(H a≠J->K.lookup a=J) ->
   E7 (D4 P w) Fx (.call (.ref fa) ⟨[.ref a],[]⟩) (λr j=>r=.ok (.ret<|.bool DY)/\OldK c.heap j.heap/\j.os=c.os/\Fe j.gens) c:=by
  intro H hO hS M hA hK;have f:∀{b:IY} {o:Obj},c.heap.get? b=Y o->H b=J->(il c.heap H).get? b=Y o:=λe n=>qE e n
  have noA:∀{b:IY} {o:Obj} {y:Jo Jp} {ep:O},c.heap.get? b=Y o->o.data=.dict y ep->H b=none:=λ{b o y ep} e d=>by
   cases q:H b with
   |none=>rfl
   |some u=>have e':b=a:=hA b (by rw[q];simp);subst e';rw[ha] at e;cases e;have d':Data.seq t.toArray _=Data.dict y ep:=d;cases d'
  have l:∀{b:IY} {m:Str->B L},c.heap.Ns b m->(il c.heap H).Ns b m:=λ{b m} ⟨o,y,ep,e,d,r⟩=>⟨o,y,ep,f e<|noA e d,d,r⟩
  have A:K.In (il c.heap H):=λb o e=>f (KX b o e) (by
   cases q:H b with
   |none=>rfl
   |some u=>
    have e':b=a:=hA b (by rw[q];simp);subst e';rw[hK<|by rw[q];simp] at e;cases e)
  have hM:Mod K Z (il c.heap H):=⟨A,l G,⟨mb,l g,hbb⟩,let ⟨mc,h1,h2⟩:=D;⟨mc,l h1,h2⟩⟩;have e0:Env0 P w K Z (il c.heap H) Fx [] c H:=⟨rfl,hM,λb o e=>tO e,HX<|l5 _ _,trivial,λb g=>Jb (show b∈([]:U IY) from g)<|by simp,M,.of_eq hg⟩;refine GO ((F _ A<|l G).run Fx [] c H ⟨[.ref a],[]⟩ [.ref a] [.ref a] _ _ hr e0 (p c<|.ref a) (.cons rfl .nil)<|hsp H hO hS) λr j h=>?_;cases r with
  |error e=>exact(hCX H e j h).elim
  | ok fl =>
   cases fl with
   |next=>exact EY h
   |brk=>exact EY h
   |cont=>exact EY h
   | ret u =>
    obtain⟨v,H',os,bare,un,N,r',q⟩:=h;have q':v=.bl true:=q;subst q';obtain rfl:u=Value.bool true:=r';refine⟨rfl,OldK.of_keep λb o e=>?_,os,bare⟩;cases q:H b with
    |none=>exact un.keep b o e q (by intro z;exact Jb (show b∈([]:U IY) from z)<|by simp)<|by simp
    | some u =>
     rcases hO b with z|⟨ob,xs,z⟩
     .rw[q] at z;cases z
     .have z2:=un.frzs b ob _ z;obtain⟨e1,_⟩:=M b _ z;obtain⟨e2,_⟩:=N b _ z2;rw[e] at e1;cases e1;exact e2
 cases hk:K.lookup a with
 |some o=>
  -- the script is one of the module's own objects
  have e:=KX a o hk;rw[ha] at e;cases e;refine core (λ_=>J) (λ_=>.inl rfl) (.inr ⟨_,t.toArray,_,hk,rfl,rfl,rfl,by rw[Ep,Q];exact hl,by simpa using rv⟩) (λb u z=>by have z':(none:B HO)=Y u:=z;cases z') (λb z=>Jb rfl z) λz=>Jb rfl z
 | none =>
  refine core (λb=>if b=a then Y (.frz {cls:=.type "list",data:=.seq t.toArray} (.lst<|ns.map V.int)) else J) (λb=>?_) (.inl<|.inr ⟨{cls:=.type "list",data:=.seq t.toArray},Jc rfl⟩) (λb u z=>?_) (λb z=>?_) λ_=>hk
  .by_cases g:b=a
   .exact .inr ⟨_,_,Jc g⟩
   .exact .inl (Jd g)
  .by_cases g:b=a
   .have z':=(Jc g).symm.trans z;cases z';subst g;exact⟨ha,by rw[Ea];exact hl,t,_,rv,ha⟩
   .have z':=(Jd g).symm.trans z;cases z'
  .by_cases g:b=a
   .exact g
   .exact Jb (Jd g) z
theorem walk_of {l:Hf}{n k:O}{q:I9}{p:U Str}{XP:(Str->B L)->Jf->Prop}{YP:D3->Jf->Prop}{d:DefRec}{K:Ei->D1}{CX:D3->CXT}{sp:D3->Sp}{x:Str}
  (hn:l.most=Y n) (Q:n<=sizeLine) (N:d.params.defaults=[]) (hr:Room k Fx)
  (hY:∀(w:D3) (h:Jf),YP w h->(K w.params).In h)
  (F:∀ (w:D3) (r:Str->B L) (z:IY) (h:Jf),(K w.params).In h->h.Ns D8 r->r d.name=Y (.ref z) ->
   ∃D:Ey,(∀(s:DZ) (u:L),Fy s D ⟨[u],[]⟩ [(x,u)]) /\
    ∀i:Jf,(K w.params).In i->i.Ns D8 r->FnOk l.prog w (K w.params) r i (CX w) k z D [x] (sp w))
  (Z:∀(w:D3) (H:Hp) (a:IY) (A:U I),A.length<=n->nY H->SqL (K w.params) H a (A.map V.int)->sp w [.ref a] H (λv _=>v=.bl DY) λ_ _ _=>Jh)
  (M:∀(w:D3) (H:Hp) (s:DZ) (e:L) (s':DZ),CX w [] H s (λ_ _ _=>Jh) e s'->Jh):
  Ic q p XP YP l.row.toRowW d [] (λf vs=>Hh f vs):=by
 refine Att.attach_call hn N λw s₀ y r mb z o pm cd doc a vs A G c ho hd hcd P t m j hg=>?_;have KX:=hY w _ c;obtain⟨D,hb,hF⟩:=F w r z _ KX G.T.g P;exact pw KX G.T.g G.T.b G.T.builtins G.T.nolimit hg t m (Ed j Q) hr hF hb (λH hO hS=>Z w H a A j hO hS) λH e s'=>M w H y e s'
noncomputable def defArgs (s:Jj):Arguments:=match s with
|.FunctionDef _ a _ _ _ _ _ _ _ _=>a
|_=>{posonlyargs:=[],args:=[],vararg:=J,kwonlyargs:=[],kw_defaults:=[],kwarg:=J,defaults:=[]}
noncomputable def defBody (s:Jj):U Jj:=match s with
|.FunctionDef _ _ b _ _ _ _ _ _ _=>b
|_=>[]
noncomputable def defScope (s:Jj):Jt:=match s with
|.FunctionDef _ _ _ _ _ _ a _ _ _=>a
|_=>{kind:=.function,names:=[],isGenerator:=DX,isCoroutine:=DX}
abbrev CX0:CXT:=λ_ _ _ _ _ _=>Jh
abbrev E0:XK:=λ_ _ _=>Jh
theorem gw {X:Cx}:fq CX0 X E0:=λ_ _ _ _ _ _ _ h=>h.elim
structure Fun (K:D1)(x qual:Str)(st:Jj)(f:IY)(fd:Ey):Prop where
 ex:∃(oc:L) (od:B IY) (kV doc pm:L) (an:B IY) (cdv ct:L) (osl:Jo (B L)),
  fd=E4 x qual (defArgs st) (defBody st) (defScope st) .none kV doc pm an cdv ct/\K.lookup f=Y ⟨oc,od,.func fd,osl⟩/\GZ K cdv qual=DY
 kp:Fb K (.ref f)=DY
section
variable {P:I9}{w:D3}{K:D1}{mg:Str->B L}{base:Jf}
theorem Fun.ok {x b:Str}{g:Jj}{f:IY}{n:Ey}{N l:U Str}{k:O}{m:Sp}(F:Fun K x b g f n)(S:ai N l<|defScope g)(len:∀e H Q E,m e H Q E->e.length=l.length)
  (d:∀ (c:L) (A:D9) (a:U Env) (s:DZ) (H:Hp) (e:U V) (Q:VK) (E:XK),Room k (A.deeper (EZ b (defScope g) s.heap.objs.size f c))->m e H Q E ->
   ∃t,PSs (hX CX0 P w K mg base N b (defScope g) f c A a s H E).nox (defBody g) t/\t {nx:=λ_ o=>Q .non o,rt:=Q} (start N e) H):FnOk P w K mg base CX0 (k+1) f n l m:=by
 obtain⟨y,z,kV,p,D,an,c,v,u,rfl,lk,i⟩:=F.ex;refine Cu lk i S len λA a s H e Q E r j=>?_;obtain⟨t,h,q⟩:=d c A a s H e Q E r j;exact⟨t,h.nox,q⟩
theorem Fun.binds {x a:Str}{d:Jj}{f:IY}{k:Ey}{i:U Str}(F:Fun K x a d f k)
  (h:∀(kV c g:L) (an:B IY) (b e:L) (j:U L),j.length=i.length->bindArgs (E4 x a (defArgs d) (defBody d) (defScope d) .none kV c g an b e) ⟨j,[]⟩=pure (i.zip j)):Binds K k i []:=by
 obtain⟨n,o,kV,c,g,an,b,e,m,rfl,lk,l⟩:=F.ex;exact .all<|h kV c g an b e
theorem qP {x a:Str}{st:Jj}{f:IY}{i:L}{j an:B IY}{e:Jo<|B L}{kV d h b g:L}(l:K.lookup f=Y ⟨i,j,.func<|E4 x a (defArgs st) (defBody st) (defScope st) .none kV d h an b g,e⟩)
  (c:GZ K b a=DY) (k:Fb K (.ref f)=DY):Fun K x a st f (E4 x a (defArgs st) (defBody st) (defScope st) .none kV d h an b g):=⟨⟨i,j,kV,d,h,an,b,g,e,rfl,l,c⟩,k⟩
end
theorem vG {A:D9}{k:O}(a:Room k A):A.units+1<JO:=FE (Nat.add_le_add_left (by decide:1<=64) _) a.units
section
variable {X:Cx}
theorem pv (i:O){x:Str}{b:Pos}(c:X.N[i]?=Y x:=by rfl)(e:Vis X.env.scope x:=by first|exact Eg rfl|exact Ec (Eg rfl)|exact Ec<|Ec rfl)(d:(x==("__debug__":Str))=false:=by decide)
  (a:(x==("__classdict__":Str))=false:=by decide):PE X (.Name x b) (qU i):=a4 c e d a
end
theorem fP {A a:Prop}(h:a):if DX=DY then A else a:=by rw[Jd EI];exact h
theorem AR {A a:Prop}(h:A):if DY=DY then A else a:=by rw[Jc rfl];exact h
def Same (H a:Hp):Prop:=∀b o,H b=Y o->a b=Y o
theorem Same.refl (H:Hp):Same H H:=λ_ _ h=>h
section
variable {κ:Type}[Jw κ]
noncomputable def d7 (a:U<|κ×V)(k:κ):B V:=(a.find? λb=>decide (b.1=k)).map (·.2)
noncomputable def cR (a:U<|κ×V)(k:κ)(v:V):U (κ×V):=
 if(a.any λb=>decide (b.1=k))=DY then a.map (λb=>if b.1=k then(b.1,v) else b) else a++[(k,v)]
theorem fF {p:κ×V}{r:U<|κ×V}{k:κ}(e:p.1=k):d7 (p::r) k=Y p.2:=by simp[d7,FU,e]
theorem ff {p:κ×V}{r:U<|κ×V}{k:κ}(e:¬p.1=k):d7 (p::r) k=d7 r k:=by simp[d7,FU,e]
theorem i3 (k:κ):∀a:U<|κ×V,(a.any λb=>decide (b.1=k))=(d7 a k).isSome
|[]=>rfl
|p::r=>by
 rw[EE];by_cases e:p.1=k
 .simp only[fF e,I0 e,Bool.true_or,Option.isSome_some]
 .rw[ff e,Jn e,Ib];exact i3 k r
theorem dQ (a:U<|κ×V)(k:κ)(v:V):(cR a k v).length<=a.length+1:=by
 unfold cR;split
 .rw[Ea];lia
 .rw[Er,Ef,FT];lia
theorem RelO.isSome_eq {o:B V}{u:B L}(r:RelO o u):o.isSome=u.isSome:=by
 cases o with
 |none=>cases u with
  |none=>rfl
  |some _=>exact(show Jh from r).elim
 |some _=>cases u with
  |none=>exact(show Jh from r).elim
  |some _=>rfl
theorem KV.val {a:U<|κ×V}{g:U<|κ×L}(r:KV a g)(k:κ):RelO (d7 a k) (JB g k):=by
 unfold KV at r;induction r with
 |nil=>exact E3
 | @cons p q l d h t j =>
  obtain⟨f,i⟩:=h;by_cases e:p.1=k
  .have c:q.1=k:=f.symm.trans e;have b:JB (q::d) k=Y q.2:=by simp[JB,FU,c]
   rw[fF e,b];exact i
  .have c:¬ q.1=k:=fun z=>e (f.trans z);have b:JB (q::d) k=JB d k:=by simp[JB,FU,c]
   rw[ff e,b];exact j
theorem KV.any {a:U<|κ×V}{c:U<|κ×L}(r:KV a c)(k:κ):(a.any λb=>decide (b.1=k))=c.any λb=>decide (b.1=k):=by
 unfold KV at r;induction r with
 |nil=>rfl
 |cons h t d=>rw[EE,EE,d,h.1]
theorem KV.repl {b:U<|κ×V}{d:U<|κ×L}(r:KV b d)(k:κ){y:V}{u:L}(i:RelV y u):
  KV (b.map λa=>if a.1=k then(a.1,y) else a) (d.map λa=>if a.1=k then(a.1,u) else a):=by
 unfold KV at r ⊢;induction r with
 |nil=>exact .nil
 | @cons p q j l h t g=>
  rw[Eo,Eo];refine .cons ?_ g;obtain⟨c,f⟩:=h;by_cases e:p.1=k
  .rw[Jc e,Jc<|c.symm.trans e];exact⟨c,i⟩
  .rw[Jd e,Jd λz=>e<|c.trans z];exact⟨c,f⟩
theorem KV.put {a:U<|κ×V}{b:U<|κ×L}(r:KV a b)(k:κ){y:V}{u:L}(c:RelV y u):KV (cR a k y) (stored b k u):=by
 unfold cR stored;rw[r.any k];by_cases e:(b.any λd=>decide (d.1=k))=DY
 .rw[Jc e,Jc e];exact r.repl k c
 .rw[Jd e,Jd e];exact Paired.snoc r ⟨rfl,c⟩
theorem KV.length {a:U<|κ×V}{b:U<|κ×L}(r:KV a b):a.length=b.length:=Paired.length r
end
theorem qH {P:I9}{w:D3}{k:Key}{u:L}(r:RelV (kV k) u):(aO P w).is k u=true:=by
 cases k with
 |inl i=>obtain⟨t,e⟩:=(show∃t,u=Value.int i t from r);subst e;exact iO P w i t
 |inr x=>obtain⟨t,e⟩:=(show∃t,u=Value.str x t from r);subst e;exact i4 P w x t
theorem f9 {P:I9}{w:D3}:∀{a:U Key} {b:U L},Vals (a.map kV) b->ItemsAre (aO P w) a b
|[],_,r=>by rw[FA] at r;cases r;exact .nil
|k::a,_,r=>by
 rw[Eo] at r;cases r with
 |cons h t=>exact .cons (qH h)<|f9 t
abbrev KT (H:Hp):U (U Key×V)->U (U Key×IY×L)->Prop:=Paired λp q=>p.1=q.1/\H q.2.1=Y (.tup<|p.1.map kV)/\RelV p.2 q.2.2
theorem KT.val {H:Hp}{a:U<|U Key×V}{g:U<|U Key×IY×L}(r:KT H a g)(k:U Key):RelO (d7 a k) ((JP g k).map (·.2)):=by
 induction r with
 |nil=>exact E3
 | @cons p q l d h t j =>
  obtain⟨f,_,i⟩:=h;by_cases e:p.1=k
  .have c:q.1=k:=f.symm.trans e;have b:JP (q::d) k=Y q.2:=by simp[JP,FU,c]
   rw[fF e,b];exact i
  .have c:¬ q.1=k:=fun z=>e (f.trans z);have b:JP (q::d) k=JP d k:=by simp[JP,FU,c]
   rw[ff e,b];exact j
theorem KT.repl {H:Hp}{a:U<|U Key×V}{f:U<|U Key×IY×L}(r:KT H a f)(k:U Key){y:V}{u:L}(j:RelV y u):
  KT H (a.map λc=>if c.1=k then(c.1,y) else c) (f.map<|putAt k u):=by
 induction r with
 |nil=>exact .nil
 | @cons p q l m h t i=>
  rw[Eo,Eo];refine .cons ?_ i;obtain⟨b,d,g⟩:=h;unfold putAt;by_cases e:p.1=k
  .rw[Jc e,Jc<|b.symm.trans e];exact⟨b,d,j⟩
  .rw[Jd e,Jd λz=>e<|b.trans z];exact⟨b,d,g⟩
theorem KT.put {H:Hp}{a:U<|U Key×V}{c:U<|U Key×IY×L}(r:KT H a c)(k:U Key){b:IY}{y:V}{u:L}(f:H b=Y (.tup<|k.map kV))(d:RelV y u):
  KT H (cR a k y) (storedH c k b u):=by
 have e:(a.any λg=>decide (g.1=k))=(JP c k).isSome:=by rw[i3,(r.val k).isSome_eq,Option.isSome_map]
 unfold cR storedH;rw[e];by_cases q:(JP c k).isSome=DY
 .rw[Jc q,Jc q];exact r.repl k d
 .rw[Jd q,Jd q];exact Paired.snoc r ⟨rfl,f,d⟩
theorem KT.keeps {H c:Hp}{a:U<|U Key×V}{d:U<|U Key×IY×L}(r:KT H a d)(f:∀b e,H b=Y (.tup e)->c b=Y (.tup e)):KT c a d:=
 Paired.mapP r λ_ _ z=>⟨z.1,f _ _ z.2.1,z.2.2⟩
section
variable {P:I9}{w:D3}{H:Hp}{h:Jf}{a:IY}
theorem vA {u:HO}(ok:HOk P w H h)(e:Rd H a u):ObjOk P w H h a u:=e.ok ok
theorem lE {b:U<|Key×V}(ok:HOk P w H h)(e:Rd H a<|.dK b):b.length<=sizeLine/\(a==EK)=DX/\∃c,KV b c/\h.DictOf (aO P w) a c:=
 show ObjOk P w H h a (.dK b) from vA ok e
theorem AH {b:U<|Key×V}(ok:HOk P w H h)(e:H a=Y (.dK b)):b.length<=sizeLine/\(a==EK)=DX/\∃c,KV b c/\h.DictOf (aO P w) a c:=lE ok<|.inl e
theorem kF {c:U Key}(ok:HOk P w H h)(e:H a=Y (.tup<|c.map kV)):(Gj<|aO P w).is h c a:=by obtain⟨_,b,r,o,d,f,n,g⟩:=(show ObjOk P w H h a (.tup<|c.map kV) from ok a _ e);exact⟨o,b.toArray,n,d,f,g,by simpa using f9 r⟩
theorem qY {b:U<|U Key×V}(ok:HOk P w H h)(e:Rd H a<|.dT b):b.length<=sizeLine/\(a==EK)=DX /\
  ∃c,KT H b c/\h.DictOfH (Gj<|aO P w) a c:=by
 obtain⟨z,y,c,r,o,f,ep,g,i,j,k,n⟩:=(show ObjOk P w H h a (.dT b) from vA ok e);refine⟨z,y,c,r,o,f,ep,g,i,j,k,λx hx=>?_,n⟩
 have all:∀{l:U (U Key×V)} {m:U (U Key×IY×L)},KT H l m->∀x∈m,(Gj (aO P w)).is h x.1 x.2.1:=by
  intro l m q;induction q with
  |nil=>intro x hx;exact nomatch hx
  | @cons p q u v d t s =>
   intro x hx;rcases Ee.mp hx with e|hx
   .subst e;exact kF ok<|by rw[<- d.1];exact d.2.1
   .exact s x hx
 exact all r x hx
theorem Be {b:U<|U Key×V}(ok:HOk P w H h)(e:H a=Y (.dT b)):b.length<=sizeLine/\(a==EK)=DX /\
  ∃c,KT H b c/\h.DictOfH (Gj<|aO P w) a c:=qY ok<|.inl e
end
def DGet (H:Hp)(a:IY)(y:V)(r:B V):Prop:=
 (∃c k,Rd H a (.dK c)/\y=kV k/\r=d7 c k)\/∃c k b,Rd H a (.dT c)/\y=.ref b/\H b=Y (.tup<|k.map kV)/\r=d7 c k
def Bz (H:Hp)(a:IY)(y v:V)(d:Hp):Prop:=
 (∃c k,H a=Y (.dK c)/\y=kV k/\c.length<sizeLine/\d=upd H a (.dK<|cR c k v)) \/
 ∃c k b,H a=Y (.dT c)/\y=.ref b/\H b=Y (.tup<|k.map kV)/\c.length<sizeLine/\d=upd H a (.dT<|cR c k v)
theorem DGet.k {H:Hp}{a:IY}{b:U<|Key×V}{k:Key}(e:H a=Y (.dK b)):DGet H a (kV k) (d7 b k):=.inl ⟨b,k,.inl e,rfl,rfl⟩
section
variable {X:Cx}{pins:U (IY×Obj)}{σ:St}{H:Hp}{s:DZ}{a:IY}{y v:V}{u r:L}{o:B V}{A:D9}{E:L->DZ->Prop}
theorem Inv.big (b:Inv X pins σ H s):EK<s.heap.objs.size:=by have h:D8<s.heap.objs.size:=(b.mod.glob.keeps b.bk).lt;exact Nat.lt_trans (by decide) h
theorem l6 {Q:L->DZ->Prop}(N:A.units+1<JO)(c:Inv X pins σ H s)(g:DGet H a y<|Y v)(D:RelV y u)(h:∀i F,Inv X pins σ H F->RelV v i->Q i F):
  Ja (D4 X.prog X.w) A (E6 (.ref a) u) Q E s:=by
 rcases g with⟨x,k,e,m,l⟩|⟨x,k,b,e,m,G,l⟩
 .subst m;obtain⟨z,M,P,d,j⟩:=lE c.hok e;obtain⟨i,t,f⟩:=RelO.some_of (v:=v) (o:=JB P k) (by rw[l];exact d.val k);exact wpAny_getItem_of (qH D) j.mapOf t<|h i _ (c.tok _) f
 .subst m;cases(show u=Value.ref b from D);obtain⟨z,M,Z,d,j⟩:=qY c.hok e;obtain⟨i,t,f⟩:=RelO.some_of (v:=v) (o:=(JP Z k).map (·.2)) (by rw[l];exact d.val k);obtain⟨p,hp,n⟩:=GG.mp t;refine wpAny_getItem_heap (tupleKind_room_in1 N) (kF c.hok G) j hp ?_;rw[n];exact h i _ (c.tok _) f
theorem lG {d:Jf}{l:O}{g:HO}(c:Inv X pins σ H s)(k:Mut<|H a)(j:Heap.SameBut a s.heap d)(i:∃q,d.get? a=Y q)(f:ObjOk X.prog X.w (upd H a g) d a g):
  Inv X pins σ (upd H a g) {s with heap:=d,toks:=l}:=
 c.write (x:=a) (e:=a) k (.inl rfl) (λb q h z=>(j.2 b h).trans z) i f
theorem qJ {P:I9}{w:D3}{f:Hp}{e:Jf}{b:U<|Key×V}{d:U<|Key×L}(z:b.length<=sizeLine)(h:(a==EK)=DX)(c:KV b d)(g:e.DictOf (aO P w) a d):
  ObjOk P w f e a (.dK b):=⟨z,h,d,c,g⟩
theorem mh {M:Hp}{Q:Unit->DZ->Prop}(hu:A.units+1<JO)(d:Inv X pins σ H s)(g:Bz H a y v M)(ry:RelV y u)(rv:RelV v r)(h:∀s',Inv X pins σ M s'->Q () s'):
  Ja (D4 X.prog X.w) A (setItem (.ref a) u r) Q E s:=by
 rcases g with⟨f,k,e,t,l,p⟩|⟨f,k,b,e,t,N,l,p⟩
 .subst t p;obtain⟨z,x,vs,i,n⟩:=AH d.hok e;have G:vs.length<=sizeLine:=by rw[<- i.length];exact z
  have D:(cR f k v).length<=sizeLine:=by have:=dQ f k v;lia
  refine wpAny_setItem_pairs (hsz:=G) (qH ry) n λZ j F=>h _ ?_;have he:∃q,Z.get? a=Y q:=let ⟨q,_,_,m,_⟩:=j;⟨q,m⟩;exact lG d (by rw[e];exact E3) F he<|qJ D x (i.put k rv) j
 .subst t p;cases(show u=Value.ref b from ry);obtain⟨z,x,xs,i,n⟩:=Be d.hok e;have G:xs.length<=sizeLine:=by rw[<- Paired.length i];exact z
  have D:(cR f k v).length<=sizeLine:=by have:=dQ f k v;lia
  refine wpAny_setItem_heap (hsz:=G) (tupleKind_room_in1 hu) (kF d.hok N) n λZ j F=>h _ ?_;obtain⟨q,es,ep,m,h2,h3,h4,_,h5⟩:=j;refine lG d (by rw[e];exact E3) F ⟨q,m⟩ ⟨D,x,_,(i.put k N rv).keeps λc ys P=>?_,q,es,ep,m,h2,h3,h4,h5⟩;rw[ag<|A6 P e λz=>nomatch z];exact P
end
def xF (i:Je):Prop:=∀a iv,GH i DX a iv=operate [a,iv] (E6 a iv)
theorem rK {prog:I9}{w:D3}{A:D9}{E:L->DZ->Prop}{s:DZ}{g:Env}{b a:Je}{m:Pos}{T id:Jm}{Q:L->DZ->Prop}
  (n:typeLookup (.type T) "__getitem__"=pure (Y<|.builtin id)) (p:xF a)
  (h:Ja (D4 prog w) A (Jl b g) (λo e=>Ja (D4 prog w) A (Jl a g) (λi c=>c.TypeIs o T/\Ja (D4 prog w) A (E6 o i) Q E c) E e) E s):
  Ja (D4 prog w) A (Jl (.Subscript b a m) g) Q E s:=by
 refine Subscript_<|Ej h (λo e k=>Ej k (λi c d=>?_) λ_ _ x=>x) λ_ _ x=>x;obtain⟨hT,d⟩:=d;unfold JD;refine D2 ?_;rw[getitemInPython_of_ne hT.not_modules];refine D2<|wpAny_specialOf hT n ?_;have j:Ja (D4 prog w) A (GH a DX o i) (λr f=>Ja (D4 prog w) A (letTemporaryGo b o r >>= λ_=>pure r) Q E f) E c:=by rw[p o i];exact wpAny_operating<|Ej d (λr f l=>D2<|wpAny_letTemporaryGo<|D6 l) λ_ _ x=>x
 first
  |exact D6<|D2 j
  |exact D2<|D6<|D2 j
  |exact D2 j
theorem jj {X:Cx}{d:U<|IY×Obj}{i:St}{H:Hp}{s:DZ}{a:IY}{y:V}{o:B V}(c:Inv X d i H s)(g:DGet H a y o):s.TypeIs (.ref a) "dict":=by
 rcases g with⟨h,k,e,_,_⟩|⟨h,k,b,e,_,_,_⟩
 .obtain ⟨_,_,j,_,f⟩:=lE c.hok e;exact f.typeIs
 .obtain ⟨_,_,l,_,f⟩:=qY c.hok e;exact f.typeIs
def Bg (e ty:TE):TE:=λc H Q=>e c H λx d=>ty c d λy b=>∃a v,x=.ref a/\DGet b a y (Y v)/\Q v b
def A8 (g ty h:TE):TS:=λD b H=>h b H λv d=>g b d λx e=>ty b e λy f=>∃a c,x=.ref a/\Bz f a y v c/\D.nx b c
section
variable {X:Cx}{o i e value:Je}{pos pos' tpos:Pos}{td ty tv:TE}
theorem uA (w:X.A.units+1<JO)(ho:PE X o td)(r:PE X i ty)(t:xF i):PE X (.Subscript o i pos) (Bg td ty):=by intro c s j H Q b h;refine rK IG.lookup t<|thn (ho c s j H _ b h) λu M ⟨x,k,m,F,z⟩=>thn (r c M j k _ m z) λiv N ⟨y,l,f,G,a,v,p,g,D⟩=>?_;subst p;obtain rfl:u=Value.ref a:=F;exact⟨jj f g,l6 w f g G λZ P n d=>⟨v,l,n,d,D⟩⟩
theorem rR (F:X.A.units+1<JO)(ho:PE X o td)(w:PE X i ty)(G:PE X value tv)(z:EF value (Y<|.Subscript o i pos') pos.line X.env=pure DX):
  PS X (.Assign [.Subscript o i pos'] value pos) (A8 td ty tv):=by
 intro c s d H D b h;refine wpAny_Assign_Subscript (thn (G c s d H _ b h) λr s1 ⟨v,f,l,Q,M⟩=>thn (ho c s1 d f _ l M) λu s2 ⟨x,j,m,Z,N⟩=>thn (w c s2 d j _ m N) λiv s3 ⟨y,H3,n,ry,a,k,t,g,P⟩=>?_) z;subst t;obtain rfl:u=Value.ref a:=Z;exact mh F n g ry Q λs4 p=>⟨d,k,p,P⟩
end
theorem om {P:I9}{w:D3}{H:Hp}(h:Jf)(a:EK<h.objs.size):ObjOk P w H (h.push {cls:=.type "dict",data:=.dict #[]}) h.objs.size (.dK []):=
 ⟨EJ _,beq_eq_false_iff_ne.mpr<|EB<|Eh a,[],.nil,Heap.DictOf.new h⟩
def qm:TE:=λ_ H Q=>∀p,H p=J->Q (.ref p) (upd H p<|.dK [])
section
variable {X:Cx}{pos:Pos}
theorem oS:PE X (.Dict [] [] pos) qm:=λc s d H Q b h=>
 wpAny_Dict_empty ⟨.ref s.heap.objs.size,_,b.laid (a:=s.heap.objs.size) (o:=.dK []) (t':=s.toks) (λ_ _ q=>Heap.get?_push_of_some _ q) (D7 _)<|om s.heap b.big,rfl,h _<|b.hok.fresh<|D7 _⟩
end
section
variable {X:Cx}{pins:U (IY×Obj)}{σ:St}{H:Hp}{s:DZ}{a:IY}{kvs:U (Key×V)}{A:D9}{E:L->DZ->Prop}
theorem pB {Q:L->DZ->Prop}(c:Inv X pins σ H s)(e:Rd H a<|.dK kvs)(h:∀p i,H p=J->Inv X pins σ (upd H p<|.dK kvs) i->Q (.ref p) i):Ja (D4 X.prog X.w) A (call (.type "dict") [.ref a]) Q E s:=by obtain⟨z,k,n,d,j⟩:=lE c.hok e;refine kt_call_dict k j (by rw[<- d.length];exact z) λm f l=>?_;refine h _ _ (c.hok.fresh<|D7 _)<|c.laid (a:=s.heap.objs.size) (o:=.dK kvs) (t':=s.toks) (λb q g=>?_) (D7 _)<|qJ z (beq_eq_false_iff_ne.mpr<|EB<|Eh c.big) d f;exact(l.2 b<|Eh<|Heap.lt_size g).trans<|Heap.get?_push_of_some _ g
end
end L2

set_option maxHeartbeats 4000000
namespace L3
open PySem PySem.Spec PyProof.Rows L2
abbrev noX:L->DZ->Prop:=λ_ _=>Jh
theorem gh {P:I9}{w:D3}{H:Hp}{h:Jf}{a:IY}{o:HO}(x:HOk P w H h)(g:H a=J)(d:ObjOk P w (upd H a o) h a o):HOk P w (upd H a o) h:=by
 intro b u e;by_cases f:b=a
 .subst f;rw[ah] at e;cases e;exact d
 .rw [ag f] at e;refine(x b u e).stay (λc v _ q=>q) (λc q=>?_) (λc i q=>?_)
  .rw[ag<|aD q g];exact q
  .rw[ag<|aD q g];exact q
section
variable {prog:I9}{w:D3}{A:D9}{R:Result->DZ->Prop}{s:DZ}
theorem jW {o H f:Je}{c:Jt}{F:Pos}{G l:L}{b:Env}(a:O->DZ->Prop)
  (turn:∀ n s,a n s->Ja (D4 prog w) A (Ff G) (fun r d=>match r with
   |none=>R (.ok .next) d
   | some v=>Ja (D4 prog w) A (F3 H G v) (fun _ g=>Ja (D4 prog w) A (Fg H b v) (fun _ i =>
     Ja (D4 prog w) A (Jl o b) (λy j=>Ja (D4 prog w) A (call (.builtin "list.append") [l,y]) (λ_ k=>∃m,m<n/\a m k) noX j) noX i) noX g) noX d) noX s)
  (n:O) (h:a n s):E7 (D4 prog w) A (.compLoop (.ListComp o [⟨H,f,[],0⟩] c F) 0 G l b) R s:=by
 refine codeAny_loop rfl a (λn s M=>?_) n h;show Ja _ A ((compTurn (.ListComp o [⟨H,f,[],0⟩] c F) 0 G l b).onRaise (λx=>do noteFrame x b;theTreesLotGoes x)) _ _ s;refine wpAny_noted ?_;rw[compTurn_list];refine D2<|JE<|D2<|Ej (turn n s M) (λr d e=>?_) λ_ _ z=>z.elim;cases r with
 |none=>exact D6 e
 |some v=>refine D2<|Ej e (λ_ g p=>?_) λ_ _ z=>z.elim;refine D2<|Ej p (λ_ i t=>?_) λ_ _ z=>z.elim;refine D2<|wpAny_tests_nil ?_;exact D2<|D2<|Ej t (λy j u=>D2<|Ej u (λ_ k D=>D6<|D6 ⟨rfl,D⟩) λ_ _ z=>z.elim) λ_ _ z=>z.elim
end
def ao (X:Cx)(N:U Str)(a:Jt)(b:U<|Str×IY)(C:IY)(s:DZ)(H:Hp)(c:U IY):Cx where
 prog:=X.prog
 w:=X.w
 K:=X.K
 mg:=X.mg
 base:=X.base
 A:=X.A
 N:=N
 s₀:=s
 H₀:=H
 env:=compEnvC a b C X.env
 outer:=X.stack
 stack:=X.stack
 ex:=c
 fn:=λ_=>DX
 calm:=X.calm
 pn:=X.pn
 xe:=noX
inductive Clo (X:Cx):U (Str×IY)->Prop
 |nil:Clo X []
 |cons {y:Str} {c:IY} {cl:U (Str×IY)}:X.env.cells.lookup y=Y c->Clo X cl->Clo X ((y,c)::cl)
theorem Clo.get {X:Cx}{a:U<|Str×IY}(h:Clo X a):∀{y:Str} {c:IY},a.lookup y=Y c->X.env.cells.lookup y=Y c:=by
 induction h with
 |nil=>intro y c e;cases e
 | @cons z d b f _ g =>
  intro y c e;cases q:y==z with
  |true=>simp only[Fc,q] at e;cases e;rw[eq_of_beq q];exact f
  |false=>simp only[Fc,q] at e;exact g e
inductive Frees (X:Cx)(scope:Jt)(cl:U (Str×IY)):U Str->U O->Prop
 |nil:Frees X scope cl [] []
 | cons {y:Str} {ys:U Str} {i:O} {is:U O} {c:IY}:X.N[i]?=Y y->Vis X.env.scope y->(X.env.kindOf y=Y .cell\/X.env.kindOf y=Y .free)->X.env.cells.lookup y=Y c->cl.lookup y=Y c ->
   ((FJ scope X.env).names.lookup y=Y .cell\/(FJ scope X.env).names.lookup y=Y .free)->Frees X scope cl ys is->Frees X scope cl (y::ys) (i::is)
theorem Frees.len {X:Cx}{a:Jt}{d:U<|Str×IY}{c:U Str}{b:U O}(F:Frees X a d c b):b.length=c.length:=by
 induction F with
 |nil=>rfl
 |cons _ _ _ _ _ _ _ e=>rw[Ef,Ef,e]
noncomputable def bM (b:L2.St)(a:U O):L2.St:=a.map λi=>(b[i]?).join
theorem Frees.get {X:Cx}{a:Jt}{d:U<|Str×IY}{f:U Str}{b:U O}{σ:L2.St}(F:Frees X a d f b):∀{j:O} {y:Str} {v:V},f[j]?=Y y->(bM σ b)[j]?=Y (Y v) ->
  ∃(i:O) (c:IY),X.N[i]?=Y y/\σ[i]?=Y (Y v)/\Vis X.env.scope y/\(X.env.kindOf y=Y .cell\/X.env.kindOf y=Y .free)/\X.env.cells.lookup y=Y c/\d.lookup y=Y c /\
   ((FJ a X.env).names.lookup y=Y .cell\/(FJ a X.env).names.lookup y=Y .free):=by
 induction F with
 |nil=>intro j y v e;simp at e
 | @cons z r i b c g h k l m n _ p =>
  intro j y v e1 e2;unfold bM at e2;rw[Eo] at e2;cases j with
  | zero =>
   rw[Hy] at e1 e2;cases e1;cases q:σ[i]? with
   |none=>rw[q] at e2;cases e2
   |some o=>rw[q] at e2;have e3:o=Y v:=EC e2;subst e3;exact⟨i,c,g,q,h,k,l,m,n⟩
  |succ j=>rw[E8] at e1 e2;exact p e1 e2
abbrev gP (a:U L):Obj:={cls:=.type "list",data:=.seq a.toArray a.length}
inductive Th where
 |non|bl (b:IZ)|int (i:I)|str (x:Str)|tup (ts:U Th)|lst (ts:U Th)
mutual
def Has (K:D1)(H:Hp):Th->V->Prop
|.non,v=>v=.non
|.bl b,v=>v=.bl b
|.int i,v=>v=.int i
|.str x,v=>v=.str x
|.tup ts,v=>∃a vs,v=.ref a/\SqT K H a vs/\HasL K H ts vs
|.lst ts,v=>∃a vs,v=.ref a/\H a=Y (.lst vs)/\HasL K H ts vs
def HasL (K:D1)(H:Hp):U Th->U V->Prop
|[],vs=>vs=[]
|t::ts,vs=>∃v r,vs=v::r/\Has K H t v/\HasL K H ts r
end
noncomputable def Th.ty:Th->Jm
|.non=>"NoneType" |.bl _=>"bool" |.int _=>"int" |.str _=>"str" |.tup _=>"tuple" |.lst _=>"list"
def isI (c:Jm)(t:Th):IZ:=t.ty==c || (t.ty=="bool"&&c=="int")
theorem kit_type {K:D1}{A a:Jm}:FP K (.type A) (.type a)=FP [] (.type A) (.type a):=by unfold FP PySem.W.kitCls Ia;rfl
theorem Aa:∀c∈["tuple","str","bool","int","list"],∀n∈["NoneType","bool","int","str","tuple","list"],FP [] (.type n) (.type c)=Y (n==c || (n=="bool"&&c=="int")):=by decide +kernel
theorem xm (t:Th):t.ty∈["NoneType","bool","int","str","tuple","list"]:=by cases t<;>simp[Th.ty]
theorem yd {c:Jm}(a:c∈["tuple","str","bool","int","list"])(t:Th):FP [] (.type t.ty) (.type c)=Y (isI c t):=Aa c a t.ty<|xm t
structure DTab (K:D1)(w:D3)(a:IY)(T:U (Str×V)):Prop where
 ex:∃es n,K.lookup a=Y ⟨.type "dict",J,.dict es n,#[]⟩/\Im w.params es.toList/\Paired (λ(p:Str×V) (e:Jp)=>(∃t,e.key=.str p.1 t)/\RelV p.2 e.val) T es.toList
 lo:(a==EK)=DX
theorem iN {x:Str}:∀{T:U<|Str×V} {l:U Jp},Paired (λ(p:Str×V) (e:Jp)=>(∃t,e.key=.str p.1 t)/\RelV p.2 e.val) T l->RelO (T.lookup x) ((l.find? λd=>Value.isStrOf x d.key).map (·.val))
|_,_,.nil=>trivial
| (k,v)::T,e::l,.cons ⟨⟨t,b⟩,c⟩ r=>by
 have f:=iN (x:=x) r
 have q:Value.isStrOf x e.key=(x==k):=by
  have a:e.key=.str k t:=b;rw[a];show(k==x)=(x==k);by_cases z:x=k
  .subst z;rfl
  .rw[Jy z,Jy<|EB z]
 rw[FU,q,Fc];cases x==k with
 |true=>exact c
 |false=>exact f
theorem DTab.map {K:D1}{w:D3}{a:IY}{T:U<|Str×V}{P:I9}{h:Jf}(D:DTab K w a T)(X:K.In h):∃f:Str->B L,h.MapOf (strKind P w) a f/\∀x,RelO (T.lookup x) (f x):=by
 obtain⟨b,n,c,g,i⟩:=D.ex;refine⟨_,PySem.W.mapOf_K (prog:=P) X c g,λx=>?_⟩;have q:=iN (x:=x) i;have e:findBy Value.isStrOf b x=(b.toList.find? λd=>Value.isStrOf x d.key).map (·.val):=by unfold findBy;rw[<- HS]
 rw[e];exact q
theorem RelO.some_is {v:V}{o:B L}(r:RelO (Y v) o):∃u,o=Y u/\RelV v u:=by
 cases o with
 |none=>exact r.elim
 |some u=>exact⟨u,rfl,r⟩
theorem RelO.same_some {o:B V}{u:B L}(r:RelO o u):u.isSome=o.isSome:=by
 cases o with
 |none=>
  cases u with
  |none=>rfl
  |some u=>exact r.elim
 |some v=>obtain⟨u,rfl,_⟩:=RelO.some_is r;rfl
section
variable {X:Cx}
theorem qx:OpR X (ET .In) (λx y H Q=>∃z a T,x=.str z/\y=.ref a/\DTab X.K X.w a T/\Q (.bl (T.lookup z).isSome) H):=by intro c s j H x y v u Q b g i h;obtain⟨z,a,T,rfl,rfl,D,q⟩:=h;obtain⟨t,rfl⟩:=g;cases i;obtain⟨f,e,d⟩:=D.map (P:=X.prog) b.kIn;refine wpAny_in_of (strKind_is X.prog X.w z t) D.lo e ?_;rw[RelO.same_some<|d z];exact⟨.bl (T.lookup z).isSome,H,b.tok _,rfl,q⟩
theorem yf:IxR X (λx y H Q=>∃a z T v,x=.ref a/\y=.str z/\DTab X.K X.w a T/\T.lookup z=Y v/\Q v H):=by intro d c i s p H x y v u Q b m n h k;obtain⟨a,z,T,r,rfl,rfl,D,l,q⟩:=h;cases m;obtain⟨t,rfl⟩:=n;obtain⟨f,g,j⟩:=D.map (P:=X.prog) b.kIn;have e:=j z;rw[l] at e;obtain⟨o,e1,e2⟩:=RelO.some_is e;exact tail_any g.typeIs IG.lookup (wpAny_getItem_of (strKind_is X.prog X.w z t) g e1 ⟨r,H,b.tok _,e2,q⟩) k
end
theorem jg {H:Hp}{p:IY}(h:H p=J)(o:HO):Same H (upd H p o):=λb u q=>by rw[ag<|aD q h];exact q
def vQ (K:D1):R2:=λx y H Q=>∃a b d f,x=.ref a/\y=.ref b/\SqT K H a d/\SqT K H b f/\d≠[]/\d.length+f.length<=sizeLine/\∀v e,Same H e->(∃c,v=.ref c/\SqT K e c (d++f))->Q v e
theorem lA {X:Cx}:OpR X (E1 .Add) (vQ X.K):=λd s m H x y v u Q c i j h=>by obtain⟨a,b,k,l,e1,e2,e,f,hx,g,q⟩:=h;exact t4 d s m H x y v u Q c i j ⟨a,b,k,l,e1,e2,e,f,hx,g,λz=>q _ _ (Same.refl _) ⟨a,rfl,by rw[z,EW];exact e⟩,λ_ p hp=>q _ _ (jg hp _) ⟨p,rfl,SqT.of ah⟩⟩
theorem ql {X:Cx}{x:Str}{T:Jm}{a:Pos}(c:Gl X x)(d:X.mg x=J)(f:Fw x=Y (.type T))(e:x≠"__name__":=by decide)(b:(x==("__debug__":Str))=false:=by decide):PE X (.Name x a) (tC<|.ty T):=um (v:=.ty T) c d f rfl e b
theorem oN {X:Cx}{x:Str}{a:IY}{b:Pos}(d:Gl X x)(e:X.mg x=Y (.ref a))(c:(x==("__debug__":Str))=false:=by decide):PE X (.Name x b) (tC<|.ref a):=kL (v:=.ref a) d e rfl c
mutual
def toD:Th->PyData
|.non=>.none
|.bl b=>.bool b
|.int i=>.int i
|.str x=>.str x
|.tup ts=>.tuple<|dU ts
|.lst ts=>.list<|dU ts
def dU:U Th->U PyData
|[]=>[]
|t::ts=>toD t::dU ts
end
section
variable {X:Cx}{pins:U (IY×Obj)}{σ:L2.St}{H:Hp}{s:DZ}
mutual
theorem Has.reads (I:Inv X pins σ H s):∀{t:Th} {v:V} {u:L},Has X.K H t v->RelV v u->∃as,Reads s.heap u (toD t) as
|.non,_,u,h,r=>by obtain rfl:_=V.non:=h;obtain rfl:u=Value.none:=r;exact⟨_,.none⟩
|.bl b,_,u,h,r=>by obtain rfl:_=V.bl b:=h;obtain rfl:u=Value.bool b:=r;exact⟨_,.bool b⟩
|.int i,_,u,h,r=>by obtain rfl:_=V.int i:=h;obtain⟨t,rfl⟩:∃t,u=Value.int i t:=r;exact⟨_,.int i t⟩
|.str x,_,u,h,r=>by obtain rfl:_=V.str x:=h;obtain⟨t,rfl⟩:∃t,u=Value.str x t:=r;exact⟨_,.str x t⟩
|.tup ts,_,u,⟨a,vs,e,hS,hL⟩,r=>by subst e;obtain rfl:u=Value.ref a:=r;obtain⟨its,rv,⟨o,h1,h2,n,h3⟩,_⟩:=I.tuple hS;obtain⟨as,ra⟩:=HasL.reads I hL rv;exact⟨_,.tuple h1 h2 h3<|by simpa using ra⟩
|.lst ts,_,u,⟨a,vs,e,hS,hL⟩,r=>by subst e;obtain rfl:u=Value.ref a:=r;obtain⟨its,rv,⟨o,n,h1,h2,_,h3⟩,_⟩:=I.list<|SqL.of hS;obtain⟨as,ra⟩:=HasL.reads I hL rv;exact⟨_,.list h1 h2 h3<|by simpa using ra⟩
theorem HasL.reads (I:Inv X pins σ H s):∀{ts:U Th} {vs:U V} {us:U L},HasL X.K H ts vs->Vals vs us->∃as,ReadsAll s.heap us (dU ts) as
|[],vs,us,h,r=>by obtain rfl:vs=[]:=h;cases r;exact⟨_,.nil⟩
| t::ts,vs,us,⟨v,w',e,h1,h2⟩,r=>by
 subst e;cases r with
 |cons r1 r2=>obtain⟨as,ra⟩:=Has.reads I h1 r1;obtain⟨bs,rb⟩:=HasL.reads I h2 r2;exact⟨_,.cons ra rb⟩
end
end
abbrev gY (t:Th):Prop:=SeqAt.shaped (toD t)=DY
theorem k9 {X:Cx}(f:X.A.units+64<JO):OpR X (ET .Eq) (λx y H Q=>∃t b,Has X.K H t x/\Has X.K H b y/\gY t/\gY b/\Q (.bl<|PyData.eqv (toD t)<|toD b) H):=by intro c s m H x y v u Q a k l h;obtain⟨t,b,d,e,g,o2,q⟩:=h;obtain⟨as,i⟩:=Has.reads a d k;obtain⟨bs,j⟩:=Has.reads a e l;exact IW i j g o2 f ⟨.bl _,H,a,rfl,q⟩
theorem sd {X:Cx}(f:X.A.units+64<JO):OpR X (ET .NotEq) (λx y H Q=>∃t b,Has X.K H t x/\Has X.K H b y/\gY t/\gY b/\Q (.bl<|!PyData.eqv (toD t) (toD b)) H):=by intro c s m H x y v u Q a k l h;obtain⟨t,b,d,e,g,o2,q⟩:=h;obtain⟨as,i⟩:=Has.reads a d k;obtain⟨bs,j⟩:=Has.reads a e l;exact IV i j g o2 f ⟨.bl _,H,a,rfl,q⟩
section
variable {prog:I9}{w:D3}{A:D9}{E:L->DZ->Prop}{s:DZ}
theorem dg {t i:IY}{a:Jo L}{l m:L}{lo d:B I}{Q:L->DZ->Prop}(b:Jz s.heap t a)(j:s.heap.IsSliceOf i l m .none)(o:E5 l lo)(p:E5 m d)
  (k:HT.sIx a.size 0 lo=0/\HT.sIx a.size a.size d=a.size) (h:Q (.ref t) s):Ja (D4 prog w) A (E6 (.ref t)<|.ref i) Q E s:=by
 obtain⟨os,g,f,n⟩:=id j;have e:s.TypeIs (.ref i) "slice":=⟨os,g,f⟩;unfold E6
 try with_reducible refine wpAny_holding ?_
 first|refine D2 (D6 ?_)|skip
 refine D2<|wpAny_sequenceKey b.typeIs (by decide) ?_
 refine D2 (FX (name:=Str.ofString "__getitem__") b.typeIs Gg
  (F4 Gg b.typeIs entry_tuple_getitem ?_<|args_tuple_getitem _ _))
 show Ja _ _ (Builtin.Tuple.tupleItemsOf (.ref t) >>= _) _ _ s;refine D2<|tupleItemsOf_ b ?_;refine D2<|JJ e ?_;rw[Jc<|by decide];refine D2<|HT.sliceApplied_gen j o p ?_;have c:(((HT.sIx a.size 0 lo:O):I)==0&&(1:I)==1&&(HT.sIx a.size a.size d-HT.sIx a.size 0 lo)==a.size)=true:=by rw[k.1,k.2];simp
 show Ja _ _ (if(((HT.sIx a.size 0 lo:O):I)==0&&(1:I)==1&&(HT.sIx a.size a.size d-HT.sIx a.size 0 lo)==a.size)=DY then _ else _) _ _ s;rw[Jc c];unfold Builtin.Tuple.tupleIsExact;refine D2<|D2<|JJ b.typeIs<|D6 ?_;rw[Jc<|by decide]
 first
  |exact D2<|Gu<|D6 ⟨_,rfl,D6 h⟩
  |exact D2<|Gu<|D2<|D6<|D6 ⟨_,rfl,D6 h⟩
end
section
variable {X:Cx}
def yq (K:D1):V->B I->B I->Hp->VK->Prop:=λx lo e H Q=>∃a d,x=.ref a/\SqT K H a d/\∀v b,Same H b->(∃c,v=.ref c/\SqT K b c (c7 d lo e))->Q v b
theorem ve:SlR X (yq X.K):=by
 intro f s y H x v u w lo i t Q b o k m n h;obtain⟨a,c,rfl,hx,q⟩:=h;by_cases g:HT.sIx c.length 0 lo=0/\HT.sIx c.length c.length i=c.length
 .cases o;obtain⟨j,r,l,z⟩:=b.tuple hx;have d:j.toArray.size=c.length:=by rw[Ep];exact r.length.symm
  refine⟨"tuple",_,Gg.lookup,l.typeIs,?_⟩;refine dg l k m n (by rw[d];exact g) ⟨.ref a,H,b,rfl,q _ _ (Same.refl H) ⟨a,rfl,?_⟩⟩;have e:c7 c lo i=c:=by unfold c7;rw[g.1,g.2];simp
  rw[e];exact hx
 .exact xK f s y H _ v u w lo i t Q b o k m n ⟨a,c,rfl,hx,g,λp hp=>q _ _ (jg hp _) ⟨p,rfl,SqT.of ah⟩⟩
end
def Dr (K:D1):R2:=λx y H Q=>∃p a i v,x=.ref p/\y=.int i/\(SqL K H p a\/SqT K H p a)/\atI a i=Y v/\Q v H
theorem ix_any {X:Cx}:IxR X (Dr X.K):=λc b d s m H x y v u Q a j k h g=>by
 obtain⟨p,l,i,z,e1,e2,e,f,q⟩:=h;rcases e with e|e
 .exact tZ c b d s m H x y v u Q a j k ⟨p,l,i,z,e1,e2,e,f,q⟩ g
 .exact yE c b d s m H x y v u Q a j k ⟨p,l,i,z,e1,e2,e,f,q⟩ g
end L3


namespace L3
open PySem PySem.Spec PyProof.Rows L2
def SqO (h:Jf):IZ->IY->Jo L->Prop
|true,a,b=>h.IsTuple a b
|false,a,b=>h.IsList a b
def ItO (h:Jf):IZ->IY->IY->O->Prop
|true,b,a,n=>h.IsTupleIter b a n
|false,b,a,n=>h.IsListIter b a n
theorem SqO.at {h b:Jf}{k:IZ}{a:IY}{c:Jo L}(x:SqO h k a c)(e:∀o,h.get? a=Y o->b.get? a=Y o):SqO b k a c:=by cases k<;>(obtain⟨o,ho,r⟩:=x;exact⟨o,e o ho,r⟩)
theorem ItO.at {h c:Jf}{k:IZ}{b a:IY}{n:O}(x:ItO h k b a n)(e:∀o,h.get? b=Y o->c.get? b=Y o):ItO c k b a n:=by cases k<;>(obtain⟨o,ho,r⟩:=x;exact⟨o,e o ho,r⟩)
theorem ItO.obj {h:Jf}{k:IZ}{b a:IY}{n:O}(x:ItO h k b a n):∃o,h.get? b=Y o/\∀v,o.data≠.cell v:=by cases k<;>(obtain⟨o,ho,_,d⟩:=x;exact⟨o,ho,λv z=>by rw[d] at z;cases z⟩)
theorem SqO.lt {h:Jf}{k:IZ}{a:IY}{b:Jo L}(x:SqO h k a b):a<h.objs.size:=by cases k<;>(obtain⟨o,ho,_⟩:=x;exact Heap.lt_size ho)
section
variable {prog:I9}{w:D3}{A:D9}{E:L->DZ->Prop}{s:DZ}
theorem fm {b t:IY}{i:O}{f:Jo L}{x:L}{Q:L->DZ->Prop}(a:s.heap.IsTupleIter b t i)(j:s.heap.IsTuple t f)(hx:f[i]?=Y x)
  (q:∀e,e.IsTupleIter b t (i+1)->Heap.SameBut b s.heap e->Q x {s with heap:=e}):Ja (D4 prog w) A (Builtin.SmallTypes.nextOf<|.ref b) Q E s:=by
 obtain⟨u,d,g,c⟩:=id a;obtain⟨v,k,_,l,h⟩:=j;unfold Builtin.SmallTypes.nextOf;refine D2<|FX (name:=Str.ofString "__next__") a.typeIs F.slot_tuple_iterator_next<|F4 F.slot_tuple_iterator_next a.typeIs F.entry_tuple_iterator_next ?_<|F.args_tuple_iterator_next_1 _;show Ja _ _ (JU (.ref b) 0 >>= _) _ _ _;refine D2<|EH d c (x:=.ref t) rfl ?_;show Ja _ _ (if(Value.ref t==Value.none)=DY then _ else _) _ _ _;rw[Jd<|by intro z;cases z];show Ja _ _ (JU (.ref b) 1 >>= _) _ _ _;refine D2<|EH d c (x:=.int i 0) rfl ?_;show Ja _ _ (seqItems? (.ref t) >>= _) _ _ _;refine D2<|Fq k h ?_;simp only[hx,Ho];exact D2<|wpAny_setField d c (by simp)<|D6 ⟨x,rfl,D6<|q _ ⟨_,Heap.get?_update_self _ d<|Obj.isFreed_of_fields<|Obj.data_mapFields c _,(Obj.cls_mapFields ..).trans g,by rw[Obj.data_mapFields c];simp[JN]⟩<|Heap.SameBut.update ..⟩
theorem dJ {c t:IY}{i:O}{j:Jo L}{Q:L->DZ->Prop}(h:A.handled=J)(b:s.heap.IsTupleIter c t i)(l:s.heap.IsTuple t j)(hx:j[i]?=J)
  (q:∀f e,Heap.ExtBut c s.heap f->(∃o,f.get? e=Y o/\o.cls=.type "StopIteration")->E (.ref e) {s with heap:=f}):Ja (D4 prog w) A (Builtin.SmallTypes.nextOf<|.ref c) Q E s:=by
 obtain⟨u,g,p,d⟩:=id b;obtain⟨v,n,_,r,k⟩:=l;unfold Builtin.SmallTypes.nextOf;refine D2<|FX (name:=Str.ofString "__next__") b.typeIs F.slot_tuple_iterator_next<|F4 F.slot_tuple_iterator_next b.typeIs F.entry_tuple_iterator_next ?_<|F.args_tuple_iterator_next_1 _;show Ja _ _ (JU (.ref c) 0 >>= _) _ _ _;refine D2<|EH g d (x:=.ref t) rfl ?_;show Ja _ _ (if(Value.ref t==Value.none)=DY then _ else _) _ _ _;rw[Jd<|by intro z;cases z];show Ja _ _ (JU (.ref c) 1 >>= _) _ _ _;refine D2<|EH g d (x:=.int i 0) rfl ?_;show Ja _ _ (seqItems? (.ref t) >>= _) _ _ _;refine D2<|Fq n k ?_;simp only[hx,Ho];refine D2<|Gu<|D2<|wpAny_setField g d (by simp) ?_;show Ja _ _ (newExc (.type "StopIteration") [] >>= _) _ _ _;refine D2 ?_;simp only[newTuple,newExc];refine D2 (FH ?_<|by size_fits);refine D2 (m:=firstArgMember _ _) (wpAny_of_eq (a:=Value.none) (by first|rfl|(simp only[firstArgMember];rfl))<|FH ?_<|by size_fits);simp only[raiseNew];refine D2<|wpAny_handled ?_;first|rw[h]|rw[show A.in1.handled=J from h]
 exact D2<|D6<|wpAny_throw<|q _ _ (((Heap.SameBut.update ..).extBut.push _).push _) ⟨_,Heap.get?_push_size _ rfl,rfl⟩
theorem cU {k:IZ}{b t:IY}{i:O}{d:Jo L}{x:L}{Q:L->DZ->Prop}(a:ItO s.heap k b t i)(e:SqO s.heap k t d)(hx:d[i]?=Y x)
  (q:∀c,ItO c k b t (i+1)->Heap.SameBut b s.heap c->Q x {s with heap:=c}):Ja (D4 prog w) A (Builtin.SmallTypes.nextOf<|.ref b) Q E s:=by
 cases k with
 |false=>exact wpAny_nextOf_list_item (show s.heap.IsListIter b t i from a) (show s.heap.IsList t d from e) hx q
 |true=>exact fm a e hx q
theorem f7 {k:IZ}{b t:IY}{i:O}{d:Jo L}{Q:L->DZ->Prop}(f:A.handled=J)(a:ItO s.heap k b t i)(g:SqO s.heap k t d)(hx:d[i]?=J)
  (q:∀c e,Heap.ExtBut b s.heap c->(∃o,c.get? e=Y o/\o.cls=.type "StopIteration")->E (.ref e) {s with heap:=c}):Ja (D4 prog w) A (Builtin.SmallTypes.nextOf<|.ref b) Q E s:=by
 cases k with
 |false=>exact wpAny_nextOf_list_end f (show s.heap.IsListIter b t i from a) (show s.heap.IsList t d from g) hx q
 |true=>exact dJ f a g hx q
theorem mD {z TI TO g h p r:IY}{M N:IZ}{n m:O}{xs ys:Jo L}{x y a b:L}{Q:L->DZ->Prop}(D:JK z TI TO g h p r)
  (u:EA s.heap z TI TO .none) (hI:Js s.heap TI (.ref g)<|.ref h) (hO:Js s.heap TO a b) (h1:ItO s.heap M g p n) (h2:ItO s.heap N h r m) (q1:SqO s.heap M p xs) (q2:SqO s.heap N r ys) (hx:xs[n]?=Y x) (hy:ys[m]?=Y y)
  (q:∀ f,EA f z TI TO (JN s.heap.objs.size)->Js f TO x y->ItO f M g p (n+1)->ItO f N h r (m+1)->Js f s.heap.objs.size x y->f.objs.size=s.heap.objs.size+1 ->
   (∀c o,c≠z->c≠TO->c≠g->c≠h->s.heap.get? c=Y o->f.get? c=Y o)->Q (.ref s.heap.objs.size) {s with heap:=f}):
  Ja (D4 prog w) A (Builtin.«zip.__next__» ⟨[.ref z],[]⟩) (λfin s'=>∃v,fin=.done (.ret v)/\Q v s') E s:=by
 show Ja _ _ (JU (.ref z) 2 >>= _) _ _ _;refine D2<|EH u rfl (x:=.bool DX) rfl ?_;show Ja _ _ (JU (.ref z) 3 >>= _) _ _ _;refine D2<|EH u rfl (x:=.ref TI) rfl (D2<|Fq hI rfl ?_);show Ja _ _ (Builtin.SmallTypes.ownedTupleIsFree (.ref z) >>= _) _ _ _;refine D2 ?_;unfold Builtin.SmallTypes.ownedTupleIsFree;refine D2<|EH u rfl (x:=.none) rfl (D6 ?_);simp only[JA];refine D2<|Gu<|D2<|EH u rfl (x:=.ref TO) rfl (D2<|F5 u (by simp) λg1 z1 j=>?_)
 replace z1:EA g1 z TI TO .ellipsis:=z1
 refine D2 ?_;simp only[Il,Ih,HF,Ij];refine D2<|D2<|GQ ?_;show Ja _ _ (Builtin.SmallTypes.nextOf (.ref g) >>= _) _ _ _;refine D2<|cU (h1.at λo e=>j.extBut _ _ D.i1z e) (q1.at λo e=>j.extBut _ _ D.l1z e) hx λg2 r2 k=>D6 ?_;have p2:Js g2 TO a b:=k.extBut _ _ D.TOi1<|j.extBut _ _ D.TOz hO;refine D2<|Fq p2 rfl (D2<|G8 p2 λg3 p3 l=>D2<|wpAny_letGo<|D6 ?_)
 replace p3:Js g3 TO x b:=p3
 refine D2<|D2<|GQ ?_;show Ja _ _ (Builtin.SmallTypes.nextOf (.ref h) >>= _) _ _ _;refine D2<|cU (h2.at λo e=>l.extBut _ _ D.TOi2.symm<|k.extBut _ _ D.i12.symm<|j.extBut _ _ D.i2z e) (q2.at λo e=>l.extBut _ _ D.l2TO<|k.extBut _ _ D.l2i1<|j.extBut _ _ D.l2z e) hy λg4 r4 F=>D6 ?_;have p4:Js g4 TO x b:=F.extBut _ _ D.TOi2 p3;refine D2<|Fq p4 rfl (D2<|G8 p4 λd Z G=>D2<|wpAny_letGo<|D6<|D6 ?_)
 replace Z:Js d TO x y:=Z
 refine D2<|Fq Z rfl (D2<|wpAny_newTuple ?_);have sz:d.objs.size=s.heap.objs.size:=by rw[G.1,F.1,l.1,k.1,j.1]
 have z5:EA d z TI TO .ellipsis:=G.extBut _ _ D.TOz.symm<|F.extBut _ _ D.i2z.symm<|l.extBut _ _ D.TOz.symm<|k.extBut _ _ D.i1z.symm z1;have k5:∀c o,c≠z->c≠TO->c≠g->c≠h->s.heap.get? c=Y o->d.get? c=Y o:=λc o i P n3 n4 e=>G.extBut _ _ P<|F.extBut _ _ n4<|l.extBut _ _ P<|k.extBut _ _ n3<|j.extBut _ _ i e;have r5:ItO d M g p (n+1):=r2.at λo e=>G.extBut _ _ D.TOi1.symm<|F.extBut _ _ D.i12<|l.extBut _ _ D.TOi1.symm e;have t5:ItO d N h r (m+1):=r4.at λo e=>G.extBut _ _ D.TOi2.symm e;have H:z<d.objs.size:=Heap.lt_size z5;show Ja _ _ (Builtin.SmallTypes.ownedTupleHandOut (.ref z) (.ref d.objs.size) >>= _) _ _ _;refine D2 ?_;unfold Builtin.SmallTypes.ownedTupleHandOut;have z6:EA (d.push {cls:=.type "tuple",data:=.seq #[x,y]}) z TI TO .ellipsis:=Heap.get?_push_of_some _ z5;refine D2<|F5 z6 (by simp) λg7 z7 s7=>?_
 replace z7:EA g7 z TI TO (JN d.objs.size):=z7
 refine F5 z7 (by simp) λt z8 s8=>?_
 replace z8:EA t z TI TO (JN d.objs.size):=z8
 have up:∀c o,c≠z->d.get? c=Y o->t.get? c=Y o:=λc o i e=>s8.extBut _ _ i<|s7.extBut _ _ i<|Heap.get?_push_of_some _ e;have p8:Js t d.objs.size x y:=s8.extBut _ _ (Fi H)<|s7.extBut _ _ (Fi H)<|Heap.get?_push_size _ rfl;have e8:t.objs.size=d.objs.size+1:=by rw[s8.1,s7.1,Heap.size_push]
 rw[sz] at z8 p8 e8;refine D6 ⟨_,rfl,?_⟩;show Q (.ref d.objs.size) _;rw[sz];exact q t z8 (up _ _ D.TOz Z) (r5.at λo e=>up _ o D.i1z e) (t5.at λo e=>up _ o D.i2z e) p8 e8 λc o i P n3 n4 e=>up c o i<|k5 c o i P n3 n4 e
theorem q0 {z TI TO k l t u:IY}{k1 k2:IZ}{n m:O}{P Z:Jo L}{a b:L}{Q:Fin->DZ->Prop}(hh:A.handled=J)(D:JK z TI TO k l t u)
  (j:EA s.heap z TI TO .none) (hI:Js s.heap TI (.ref k)<|.ref l) (hO:Js s.heap TO a b) (h1:ItO s.heap k1 k t n) (h2:ItO s.heap k2 l u m) (q1:SqO s.heap k1 t P) (q2:SqO s.heap k2 u Z) (i:P[n]?=J\/Z[m]?=J)
  (q:∀G e,(∀c o,c≠z->c≠TO->c≠k->c≠l->s.heap.get? c=Y o->G.get? c=Y o)->(∃o,G.get? e=Y o/\o.cls=.type "StopIteration")->E (.ref e) {s with heap:=G}):
  Ja (D4 prog w) A (Builtin.«zip.__next__» ⟨[.ref z],[]⟩) Q E s:=by
 show Ja _ _ (JU (.ref z) 2 >>= _) _ _ _;refine D2<|EH j rfl (x:=.bool DX) rfl ?_;show Ja _ _ (JU (.ref z) 3 >>= _) _ _ _;refine D2<|EH j rfl (x:=.ref TI) rfl (D2<|Fq hI rfl ?_);show Ja _ _ (Builtin.SmallTypes.ownedTupleIsFree (.ref z) >>= _) _ _ _;refine D2 ?_;unfold Builtin.SmallTypes.ownedTupleIsFree;refine D2<|EH j rfl (x:=.none) rfl (D6 ?_);simp only[JA];refine D2<|Gu<|D2<|EH j rfl (x:=.ref TO) rfl (D2<|F5 j (by simp) λg1 r d=>?_)
 replace r:EA g1 z TI TO .ellipsis:=r
 refine D2 ?_;simp only[Il,Ih,HF,Ij];refine D2<|D2<|GQ ?_;show Ja _ _ (Builtin.SmallTypes.nextOf (.ref k) >>= _) _ _ _;cases hx:P[n]? with
 |none=>
  refine D2<|f7 hh (h1.at λo e=>d.extBut _ _ D.i1z e) (q1.at λo e=>d.extBut _ _ D.l1z e) hx λF e f H=>?_;obtain⟨N,ho,h⟩:=H;have z2:EA F z TI TO .ellipsis:=f _ _ D.i1z.symm r;have v:e≠z:=λy=>by subst y;rw[z2] at ho;cases ho;simp at h
  exact F5 z2 (by simp) λg3 _ g=>q g3 e (λc o p _ M _ y=>g.extBut _ _ p<|f _ _ M<|d.extBut _ _ p y) ⟨N,g.extBut _ _ v ho,h⟩
 |some x=>
  have hy:Z[m]?=none:=i.elim (λy=>by rw[hx] at y;cases y) id;refine D2<|cU (h1.at λo e=>d.extBut _ _ D.i1z e) (q1.at λo e=>d.extBut _ _ D.l1z e) hx λF r2 f=>D6 ?_;have p2:Js F TO a b:=f.extBut _ _ D.TOi1<|d.extBut _ _ D.TOz hO;refine D2<|Fq p2 rfl (D2<|G8 p2 λg3 p3 g=>D2<|wpAny_letGo<|D6 ?_);refine D2<|D2<|GQ ?_;show Ja _ _ (Builtin.SmallTypes.nextOf (.ref l) >>= _) _ _ _;refine D2<|f7 hh (h2.at λo e=>g.extBut _ _ D.TOi2.symm<|f.extBut _ _ D.i12.symm<|d.extBut _ _ D.i2z e) (q2.at λo e=>g.extBut _ _ D.l2TO<|f.extBut _ _ D.l2i1<|d.extBut _ _ D.l2z e) hy λg4 e s4 H=>?_;obtain⟨N,ho,h⟩:=H;have z4:EA g4 z TI TO .ellipsis:=s4 _ _ D.i2z.symm<|g.extBut _ _ D.TOz.symm<|f.extBut _ _ D.i1z.symm r;have v:e≠z:=λy=>by subst y;rw[z4] at ho;cases ho;simp at h
  exact F5 z4 (by simp) λg5 _ s5=>q g5 e (λc o p n2 M n4 y=>s5.extBut _ _ p<|s4 _ _ n4<|g.extBut _ _ n2<|f.extBut _ _ M<|d.extBut _ _ p y) ⟨N,s5.extBut _ _ v ho,h⟩
theorem jv {z TI TO e f g h:IY}{i j:IZ}{n m:O}{l p:Jo L}{x y a b:L}{Q:B L->DZ->Prop}(D:JK z TI TO e f g h)
  (k:EA s.heap z TI TO .none) (u:Js s.heap TI (.ref e)<|.ref f) (v:Js s.heap TO a b) (r:ItO s.heap i e g n) (t:ItO s.heap j f h m) (H:SqO s.heap i g l) (M:SqO s.heap j h p) (hx:l[n]?=Y x) (G:p[m]?=Y y)
  (q:∀ d,EA d z TI TO (JN s.heap.objs.size)->Js d TO x y->ItO d i e g (n+1)->ItO d j f h (m+1)->Js d s.heap.objs.size x y->d.objs.size=s.heap.objs.size+1 ->
   (∀c o,c≠z->c≠TO->c≠e->c≠f->s.heap.get? c=Y o->d.get? c=Y o)->Q (Y<|.ref s.heap.objs.size) {s with heap:=d}):Ja (D4 prog w) A (Ff<|.ref z) Q E s:=by
 have hT:s.TypeIs (.ref z) "zip":=⟨_,k,rfl⟩;unfold Ff;exact D2<|wpAny_attempt<|FX (name:=Str.ofString "__next__") hT F.slot_zip_next<|F4 F.slot_zip_next hT F.entry_zip_next (mD D k u v r t H M hx G λd N P Z y4 y5 y6 y7=>D6<|q d N P Z y4 y5 y6 y7)<|F.args_zip_next_1 _
theorem mS {z TI TO f g h i:IY}{l p:IZ}{n m:O}{r t:Jo L}{a b:L}{Q:B L->DZ->Prop}(M:A.handled=J)(D:JK z TI TO f g h i)
  (k:EA s.heap z TI TO .none) (x:Js s.heap TI (.ref f)<|.ref g) (y:Js s.heap TO a b) (u:ItO s.heap l f h n) (v:ItO s.heap p g i m) (N:SqO s.heap l h r) (P:SqO s.heap p i t) (d:r[n]?=J\/t[m]?=J)
  (q:∀j,(∀c o,c≠z->c≠TO->c≠f->c≠g->s.heap.get? c=Y o->j.get? c=Y o)->Q J {s with heap:=j}):Ja (D4 prog w) A (Ff<|.ref z) Q E s:=by
 have hT:s.TypeIs (.ref z) "zip":=⟨_,k,rfl⟩;unfold Ff;refine D2<|wpAny_attempt<|FX (name:=Str.ofString "__next__") hT F.slot_zip_next<|F4 F.slot_zip_next hT F.entry_zip_next (q0 M D k x y u v N P d λj e hk H=>?_)<|F.args_zip_next_1 _;obtain⟨o,ho,G⟩:=H;exact D2<|wpAny_isInstance (T:="StopIteration") (b:=DY) ⟨o,ho,G⟩ isSubtype_stop<|D6<|q _ hk
end
noncomputable def mW (k:IZ)(a:IY):Obj:=match k with
|true=>{cls:=.type "tuple_iterator",data:=.fields #[.ref a,.int 0 0]}
|false=>{cls:=.type "list_iterator",data:=.fields #[.ref a,.int 0 0]}
abbrev zO1 (h:Jf)(b:IZ)(a:IY):Jf:=h.push<|mW b a
abbrev zO2 (h:Jf)(c d:IZ)(a b:IY):Jf:=(zO1 h c a).push<|mW d b
abbrev zO3 (h:Jf)(b d:IZ)(a c:IY):Jf:=(zO2 h b d a c).push {cls:=.type "tuple",data:=.seq #[.ref h.objs.size,.ref (zO1 h b a).objs.size]}
abbrev zO4 (h:Jf)(c d:IZ)(a b:IY):Jf:=(zO3 h c d a b).push {cls:=.type "tuple",data:=.seq #[.none,.none]}
abbrev zO5 (h:Jf)(c d:IZ)(a b:IY):Jf:=(zO4 h c d a b).push {cls:=.type "zip",data:=.fields #[.none,.bool DX,.bool DX,.ref (zO2 h c d a b).objs.size,.ref (zO3 h c d a b).objs.size]}
theorem jA (i j:IZ)(a b:IY)(e f:Jo L):
  Meets (Builtin.«zip.__new__» ⟨[.type "zip",.ref a,.ref b],[]⟩) (λ_ R s=>SqO s.heap i a e/\SqO s.heap j b f/\R (.ok<|.ret<|.ref (zO4 s.heap i j a b).objs.size) {s with heap:=zO5 s.heap i j a b}):=
 .of_wp λprog w A R s h=>by
  obtain⟨hp,g,d,c,os⟩:=s;obtain⟨k,l,h⟩:=h;have m:=sub_zip;cases i<;>cases j
  .have e1:Heap.IsList (Shared.heap ⟨hp,g,d,c,os⟩) a e:=k;have e2:Heap.IsList (Shared.heap ⟨hp.push {cls:=.type "list_iterator",data:=.fields #[.ref a,.int 0 0]},g,d,c,os⟩) b f:=Heap.IsList.push l _
   wp_walk using Gr e1,Gr e2
   exact⟨_,rfl,h⟩
  .have e1:Heap.IsList (Shared.heap ⟨hp,g,d,c,os⟩) a e:=k;have e2:Heap.IsTuple (Shared.heap ⟨hp.push {cls:=.type "list_iterator",data:=.fields #[.ref a,.int 0 0]},g,d,c,os⟩) b f:=Heap.IsTuple.push l _
   wp_walk using Gr e1,Ft e2
   exact⟨_,rfl,h⟩
  .have e1:Heap.IsTuple (Shared.heap ⟨hp,g,d,c,os⟩) a e:=k;have e2:Heap.IsList (Shared.heap ⟨hp.push {cls:=.type "tuple_iterator",data:=.fields #[.ref a,.int 0 0]},g,d,c,os⟩) b f:=Heap.IsList.push l _
   wp_walk using Ft e1,Gr e2
   exact⟨_,rfl,h⟩
  .have e1:Heap.IsTuple (Shared.heap ⟨hp,g,d,c,os⟩) a e:=k;have e2:Heap.IsTuple (Shared.heap ⟨hp.push {cls:=.type "tuple_iterator",data:=.fields #[.ref a,.int 0 0]},g,d,c,os⟩) b f:=Heap.IsTuple.push l _
   wp_walk using Ft e1,Ft e2
   exact⟨_,rfl,h⟩
theorem lC {h:Jf}{k:IZ}{b a:IY}(e:h.get? b=Y (mW k a)):ItO h k b a 0:=by cases k<;>exact⟨_,e,rfl,rfl⟩
theorem gj (k:IZ)(a:IY):(mW k a).isFreed=false:=by cases k<;>rfl
section
variable {prog:I9}{w:D3}{A:D9}{E:L->DZ->Prop}{s:DZ}
theorem uu {b e:IZ}{a d:IY}{m n:Jo L}{Q:L->DZ->Prop}(r:SqO s.heap b a m)(t:SqO s.heap e d n)
  (h:∀ f,EA f (s.heap.objs.size+4) (s.heap.objs.size+2) (s.heap.objs.size+3) .none->Js f (s.heap.objs.size+2) (.ref s.heap.objs.size) (.ref (s.heap.objs.size+1)) ->
   Js f (s.heap.objs.size+3) .none .none->ItO f b s.heap.objs.size a 0->ItO f e (s.heap.objs.size+1) d 0->(∀c o,s.heap.get? c=Y o->f.get? c=Y o)->Q (.ref<|s.heap.objs.size+4) {s with heap:=f}):
  Ja (D4 prog w) A (call (.type "zip") [.ref a,.ref d]) Q E s:=by
 refine callType_new F.called_zip (by decide) (F.typeCall_zip_2 _ _) (F.newCall_zip_2 _ _) (λobj=>F.args_object_init_3 obj _ _) F.entry_zip_new (jA b e a d m n) ⟨r,t,?_⟩;have e1:(zO1 s.heap b a).objs.size=s.heap.objs.size+1:=Heap.size_push ..;have e2:(zO2 s.heap b e a d).objs.size=s.heap.objs.size+2:=by rw[Heap.size_push,e1]
 have e3:(zO3 s.heap b e a d).objs.size=s.heap.objs.size+3:=by rw[Heap.size_push,e2]
 have i:(zO4 s.heap b e a d).objs.size=s.heap.objs.size+4:=by rw[Heap.size_push,e3]
 have g:(zO5 s.heap b e a d).get? (zO4 s.heap b e a d).objs.size=Y _:=Heap.get?_push_size _ rfl;have l:(zO5 s.heap b e a d).get? (zO3 s.heap b e a d).objs.size=Y _:=Heap.get?_push_of_some _<|Heap.get?_push_size _ rfl;have k:(zO5 s.heap b e a d).get? (zO2 s.heap b e a d).objs.size=Y _:=Heap.get?_push_of_some _<|Heap.get?_push_of_some _<|Heap.get?_push_size _ rfl;have j:(zO5 s.heap b e a d).get? (zO1 s.heap b a).objs.size=Y (mW e d):=Heap.get?_push_of_some _<|Heap.get?_push_of_some _<|Heap.get?_push_of_some _<|Heap.get?_push_size _<|gj e d;have p:(zO5 s.heap b e a d).get? s.heap.objs.size=Y (mW b a):=Heap.get?_push_of_some _<|Heap.get?_push_of_some _<|Heap.get?_push_of_some _<|Heap.get?_push_of_some _<|Heap.get?_push_size _<|gj b a;show _/\_;rw[e2,e3,i] at g;rw[e1,e2] at k;rw[e3] at l;rw[e1] at j;rw[i];exact⟨⟨_,g,rfl⟩,h _ g k l (lC p) (lC j) λc o x=>Heap.get?_push_of_some _<|Heap.get?_push_of_some _<|Heap.get?_push_of_some _<|Heap.get?_push_of_some _<|Heap.get?_push_of_some _ x⟩
end
def Sq (K:D1)(H:Hp):IZ->IY->U V->Prop
|true,a,b=>SqT K H a b
|false,a,b=>SqL K H a b
section
variable {X:Cx}{pins:U (IY×Obj)}{σ:L2.St}{H:Hp}{s:DZ}
theorem mU (b:Inv X pins σ H s){k:IZ}{a:IY}{d:U V}(h:Sq X.K H k a d):∃c:U L,Vals d c/\SqO s.heap k a c.toArray/\d.length<=sizeLine:=by
 cases k with
 |true=>obtain⟨c,r,p,z⟩:=b.tuple h;exact⟨c,r,p,z⟩
 |false=>obtain⟨c,r,p,z⟩:=b.list h;exact⟨c,r,p.isList,z⟩
theorem lg (b:Inv X pins σ H s){k:IZ}{a:IY}{d e:U V}(h:Sq X.K H k a d)(c:Sq X.K H k a e):d=e:=by
 cases k with
 |true=>exact b.tuple_inj h c
 |false=>exact b.list_inj h c
theorem eM {f:Jf}{ch:U IY}(a:Inv X pins σ H s)(h:∀b∈ch,H b=J)(k:∀b o,b ∉ ch->s.heap.get? b=Y o->f.get? b=Y o):HOk X.prog X.w H f:=λb u e=>by
 have d:∀b u,H b=Y u->b ∉ ch:=λb u e z=>by rw[h b z] at e;cases e
 refine(a.hok b u e).stay (λc v g q=>k c v ?_ q) (λ_ q=>q) λ_ _ q=>q;rcases g with z|z
 .rw[z];exact d b u e
 .exact d c _ z
theorem cX {g:Jf}{t':O}{ch:U IY}(a:Inv X pins σ H s)(d:∀b∈ch,fR X pins H b)(k:∀b o,b ∉ ch->s.heap.get? b=Y o->g.get? b=Y o):Inv X pins σ H {s with heap:=g,toks:=t'}:=by
 refine a.step (g':=s.gens) (d':=s.drawn) (ch:=ch) (λb c=>⟨(d b c).2.2.2.1,(d b c).2.1,(d b c).2.2.2.2.1,(d b c).2.2.2.2.2⟩) (λb o _ _ f e _=>k b o f e) (λb o _ _ f e _=>⟨o.slots,k b o f e⟩) (λ_ _ _ _ n=>n)
  (λb o f e=>⟨o,k b o f e⟩) (λ_ _ e=>e) (λ_ _ _ e=>e) (λb j e=>⟨#[],by rw[e];simp⟩) (λm i=>?_) (eM a (λb c=>(d b c).1) k) a.bare
 obtain⟨o,h,ep,ho,r⟩:=i;exact⟨o,h,ep,k _ o (λz=>(d _ z).2.1 rfl) ho,r⟩
theorem bE {i:Jf}{t':O}{ch:U IY}{a:IY}{j:U V}{d:U L}(c:Inv X pins σ H s)(g:∀b∈ch,fR X pins H b)(k:∀b o,b ∉ ch->s.heap.get? b=Y o->i.get? b=Y o)
  (l:s.heap.objs.size<=a) (x:j.length<=sizeLine) (w:Vals j d) (v:Jz i a d.toArray):Inv X pins σ (upd H a<|.tup j) {s with heap:=i,toks:=t'}:=by
 have fr:H a=none:=c.hok.fresh l;have y:∀b o,s.heap.get? b=Y o->b≠a:=λb o e=>Eh<|Es (Heap.lt_size e) l
 refine c.step (g':=s.gens) (d':=s.drawn) (ch:=ch) (λb f=>⟨(g b f).2.2.2.1,(g b f).2.1,(g b f).2.2.2.2.1,(g b f).2.2.2.2.2⟩) (λb o _ _ h e _=>k b o h e) (λb o _ _ h e _=>⟨o.slots,k b o h e⟩) (λb o _ e n=>by rw[ag<|y b o e];exact n)
  (λb o h e=>⟨o,k b o h e⟩) (λb u e=>by rw[ag<|aD e fr];exact e) (λb o u e=>by rw[ag<|aD e fr];exact e) (λb A e=>⟨#[],by rw[ag<|aD e fr,e];simp⟩) (λm t=>?_)
  (gh (eM c (λb f=>(g b f).1) k) fr ⟨x,d,w,v⟩) c.bare
 obtain⟨o,p,ep,ho,r⟩:=t;exact⟨o,p,ep,k _ o (λz=>(g _ z).2.1 rfl) ho,r⟩
end
def Itz (K:D1)(e f:IZ)(c d:IY):It:=
 ⟨fun i H=>∃ a b x y,Sq K H e c a/\Sq K H f d b/\a[i]?=Y x/\b[i]?=Y y,
  λi H v g=>∃p x y,v=.ref p/\H p=J/\g=upd H p (.tup [x,y])/\(∀a,Sq K H e c a->a[i]?=Y x)/\∀b,Sq K H f d b->b[i]?=Y y,
  λi H=>∃a b,Sq K H e c a/\Sq K H f d b/\(a.length<=i\/b.length<=i)⟩
def ZSt (z TI TO c d:IY)(g j:IZ)(e f:IY)(i:O)(h:Jf):Prop:=
 EA h z TI TO .none/\Js h TI (.ref c) (.ref d)/\(∃a b,Js h TO a b)/\ItO h g c e i/\ItO h j d f i
theorem nq {P:I9}{w:D3}{K:D1}{es:U Je}{kt:O}{pt:Pos}{z TI TO t u a1 a2:IY}{k1 k2:IZ}(D:JK z TI TO t u a1 a2):
  j6 P w K (.Tuple es kt pt) (Itz K k1 k2 a1 a2) [z,TI,TO,t,u] z (ZSt z TI TO t u k1 k2 a1 a2) where
 mem:=by simp
 obj:=λi h l b f=>by
  obtain⟨m,j,⟨a,c,n⟩,p,r⟩:=l;simp only[Ee,ED,Jq] at f;rcases f with rfl|rfl|rfl|rfl|rfl
  .exact⟨_,m,λv y=>by cases y⟩
  .exact⟨_,j,λv y=>by cases y⟩
  .exact⟨_,n,λv y=>by cases y⟩
  .exact p.obj
  .exact r.obj
 keep:=λi h M l k=>by obtain⟨m,j,⟨a,c,n⟩,p,r⟩:=l;exact⟨k z (by simp) _ m,k TI (by simp) _ j,⟨a,c,k TO (by simp) _ n⟩,p.at λo e=>k t (by simp) o e,r.at λo e=>k u (by simp) o e⟩
 item:=by
  intro X hP hw hK hc i G s σ H E d N l hg;subst hP hw hK;obtain⟨xs,ys,x,y,Q,Z,hx,hy⟩:=hg;obtain⟨m,j,⟨a,c,n⟩,p,r⟩:=l;obtain⟨A,v1,o1,z1⟩:=mU d Q;obtain⟨F,v2,o2,z2⟩:=mU d Z;obtain⟨u1,e1,r1⟩:=v1.get hx;obtain⟨u2,e2,r2⟩:=v2.get hy
  have lt:∀b∈[z,TI,TO,t,u],b<s.heap.objs.size:=λb f=>by
   simp only[Ee,ED,Jq] at f;rcases f with rfl|rfl|rfl|rfl|rfl
   .exact Heap.lt_size m
   .exact Heap.lt_size j
   .exact Heap.lt_size n
   .obtain⟨o,e,_⟩:=p.obj;exact Heap.lt_size e
   .obtain⟨o,e,_⟩:=r.obj;exact Heap.lt_size e
  refine jv D m j n p r o1 o2 (x:=u1) (y:=u2) (by simpa using e1) (by simpa using e2) λM y1 y2 y3 y4 y5 y6 y7=>⟨_,rfl,?_⟩;refine wpAny_letOwnedTupleGo_zip (s:={s with heap:=M}) y1 λh2 w1 sb=>?_;have g:Heap.SameBut z M h2:=sb;have nz:s.heap.objs.size≠z:=Fi (lt z<|by simp);have kk:∀b o,b ∉ [z,TI,TO,t,u]->s.heap.get? b=Y o->h2.get? b=Y o:=λb o f e=>by simp only[Ee,ED,Jq,not_or] at f;exact(g.2 b f.1).trans<|y7 b o f.1 f.2.2.1 f.2.2.2.1 f.2.2.2.2 e
  have tp:Jz h2 s.heap.objs.size [u1,u2].toArray:=⟨_,(g.2 _ nz).trans y5,rfl,_,rfl⟩
  refine⟨.ref s.heap.objs.size,upd H s.heap.objs.size<|.tup [x,y],bE (s:=s) (t':=s.toks) d N kk (D7 _) (by show 2<=sizeLine;decide) (.cons r1<|.cons r2 .nil) tp,rfl,
   ⟨_,x,y,rfl,d.fresh,rfl,λzs hz=>by rw[lg d hz Q];exact hx,λzs hz=>by rw[lg d hz Z];exact hy⟩,?_,λb f=>?_⟩
  .exact⟨w1,(g.2 _ D.TIz).trans<|y7 _ _ D.TIz D.TITO D.TIi1 D.TIi2 j,⟨_,_,(g.2 _ D.TOz).trans y2⟩,y3.at λo e=>(g.2 _ D.i1z).trans e,y4.at λo e=>(g.2 _ D.i2z).trans e⟩
  .rw[ag<|Eh<|lt b f];exact(N b f).1
 done:=by intro X hP hw hK hc i G s σ H E d N l hg;subst hP hw hK;obtain⟨xs,ys,Q,Z,hl⟩:=hg;obtain⟨m,j,⟨a,c,n⟩,p,r⟩:=l;obtain⟨A,v1,o1,z1⟩:=mU d Q;obtain⟨F,v2,o2,z2⟩:=mU d Z;have l1:=v1.length;have l2:=v2.length;refine mS (d.ok.hd hc) D m j n p r o1 o2 (hl.imp (λq=>by simp;lia) λq=>by simp;lia) λM hk=>⟨rfl,cX (t':=s.toks) d N λb o f e=>?_⟩;simp only[Ee,ED,Jq,not_or] at f;exact hk b o f.1 f.2.2.1 f.2.2.2.1 f.2.2.2.2 e
 self:=λ_ _ _ _ _ l h=>wpAny_pyIter_zip l.1 h
section
variable {X:Cx}
def Bx (K:D1)(f:TA):TI:=λj H R=>f j H λg a=>∃d e b c,g=[.ref b,.ref c]/\(∃h,Sq K a d b h)/\(∃i,Sq K a e c i)/\R (Itz K d e b c) a
theorem xQ {a b:Je}{x:TA}{p j pt:Pos}{z:U Je}{P:O}(F:Gl X "zip")(G:X.mg "zip"=J)(D:PA X [a,b] x)(M:D5 [a,b] X.env=[(DX,Jl a X.env),(DX,Jl b X.env)]:=by rfl)(g:D5 [b] X.env=[(DX,Jl b X.env)]:=by rfl):
  PI X (.Tuple z P pt) (.Call (.Name "zip" p) [a,b] [] j) (Bx X.K x):=by
 intro i s σ H R c h;refine Call_ (cY c F G boot_zip<|GD (thn (D j i s σ H _ c h) λus m ⟨vs,y,d,r1,k⟩=>?_) (by rw[M,g])<|by rw[g];rfl);obtain⟨k1,k2,a1,a2,rfl,⟨xs,n⟩,⟨ys,o⟩,q⟩:=k;cases r1 with
 | cons r l =>
  cases l with
  | cons r' l =>
   cases l;cases r;cases r';obtain⟨u,v1,w,z1⟩:=mU d n;obtain⟨v,v2,o2,z2⟩:=mU d o;refine uu w o2 λA k Q Z q4 q5 N=>?_;refine wpAny_pyIter_zip (s:={m with heap:=A}) k ?_;refine⟨_,_,_,_,y,rfl,d.kept (t':=m.toks) N,nq<|zipApart_new w.lt o2.lt,⟨k,Q,⟨_,_,Z⟩,q4,q5⟩,λb t=>?_,q⟩;have f:m.heap.objs.size<=b:=by simp only[Ee,ED,Jq] at t;rcases t with e|e|e|e|e<;>(rw[e];first|exact Gw _ _|exact D7 _)
   exact d.fpOk f<|d.hok.fresh f
end
structure ay (pre ys:U Str)(scope:Jt):Prop where
 kind:scope.kind=.function
 cell:∀y∈scope.names,y.2≠.cell
 nm:∀y∈scope.names,y.2=.local->scope.names.lookup y.1=Y .local
 loc:∀x∈pre,scope.names.lookup x=Y .local
 nd:(pre++ys).Nodup
theorem qo {pre:U Str}{b:L2.St}{j:O}{v:V}(e:(Eu pre.length J++b)[j]?=Y (Y v)):∃i,j=pre.length+i/\b[i]?=Y (Y v):=by
 by_cases a:j<pre.length
 .rw [GC<|by rw [FF]; exact a,Hk,Jc a] at e;cases EC e
 .refine ⟨j-pre.length,by lia,?_⟩;rw[Gf<|by rw[FF];lia,FF] at e;exact e
theorem mG {X:Cx}{t:U<|IY×Obj}{σ:L2.St}{H:Hp}{s:DZ}{pre D:U Str}{is:U O}{g:Jt}{A:U<|Str×IY}{Z:U IY}{C:IY}{h1:Jf}{t1:O}{m1:Str->B L}
  (f:Inv X t σ H s) (N:∀b∈Z,fR X t H b) (hfo:∀b∈Z,b<s.heap.objs.size) (S:ay pre D g) (h:Clo X A)
  (hfr:(g.names.all λp=>p.2 != .free || (A.lookup p.1).isSome)=DY) (fr:Frees X g A D is)
  (M:s.heap.objs.size<=C) (m:∀b o,s.heap.get? b=Y o->h1.get? b=Y o) (hn:h1.Ns C m1):
  Inv (ao X (pre++D) g A C s H Z) t (Eu pre.length J++bM σ is) H {s with heap:=h1,toks:=t1}:=by
 have G:∀b,b≠X.env.locals->b ∉ X.fs->b ∉ frs X.stack:=λb q1 q2 w=>(Ee.mp<|f.stkSub b w).elim q1 q2
 have F:∀a k,(FJ g X.env).names.lookup a=Y k->(k=.cell\/k=.free)->∃c,A.lookup a=Y c:=λa k e hk=>by
  have hm:=Gi e;obtain⟨⟨n,k0⟩,hp,ep⟩:=FN.mp hm
  have hk0:k0=.free/\n=a:=by
   dsimp only at ep;split at ep
   .rename_i hc;simp only[Ew] at hc;exact⟨eq_of_beq hc.1.1,(Iy ep).1⟩
   .obtain ⟨e1,e2⟩:=Iy ep;subst e2;rcases hk with z|z
    .exact Jb z (S.cell _ hp)
    .exact⟨z,e1⟩
  obtain⟨z1,z2⟩:=hk0;subst z1 z2;have q:=F8.mp hfr _ hp;have q2:(A.lookup n).isSome=true:=by simpa using q
  exact ID.mp q2
 refine⟨⟨f.ok.mod,S.kind,f.ok.glob,f.ok.blt,M,λa b c e1 e2=>f.ok.inj a b c (h.get e1)<|h.get e2,λa ha=>?_,λa c e=>Jb e EI,f.ok.hd,f.ok.frames,.inl rfl,
   λb w=>⟨Eh<|Es (hfo b w) M,λa c e=>(N b w).2.2.2.2.1 a c<|h.get e⟩,f.bs,Ed f.ok.bsz f.sz,λb o e w=>?_,λb w=>G b (N b w).2.1 (N b w).2.2.1,f.stack,f.stkFree⟩,
  rfl,f.bare,Un.kept m,⟨m1,hn,λj y v e1 e2 e3=>?_⟩,λa c e=>?_,f.hok.fresh M,λa c e=>f.freeC a c<|h.get e,λp hp=>?_,f.hok.kept m,?_⟩
 .rcases ha with e | e
  .exact F a _ e (.inl rfl)
  .exact F a _ e (.inr rfl)
 .rcases (N b w).2.2.2.1 with z | z
  .exact f.ok.noex b o e z
  .exact Jb (Es (Heap.lt_size (f.ok.bs b o e).1) z) (F6 _)
 .obtain ⟨k,rfl,Q⟩:=qo e2;have P:D[k]?=Y y:=by have x:(pre++D)[pre.length+k]?=Y y:=e1;rw[Gf (by lia),Nat.add_sub_cancel_left] at x;exact x
  obtain⟨i,c,g1,g2,g3,g4,g5,g6,g7⟩:=fr.get (σ:=σ) P Q;obtain⟨m0,hn0,hl0⟩:=f.loc;obtain⟨u,r,l⟩:=hl0 i y v g1 g2 g3;rcases l with⟨k,_⟩|⟨_,c',e',z⟩
  .rcases g4 with q | q
   .rw[k] at q;cases q
   .rw[k] at q;cases q
  .rw [g5] at e';cases e';obtain⟨o,ho,hd⟩:=z;exact⟨u,r,.inr ⟨g7,c,g6,⟨o,m _ _ ho,hd⟩⟩⟩
 .obtain ⟨v,o,ho,hd⟩:=f.cell a c<|h.get e;exact⟨v,o,m _ _ ho,hd⟩
 .obtain ⟨e,n,ne,nf,d⟩:=f.pin p hp;exact⟨m _ _ e,n,Eh<|Es (Heap.lt_size e) M,G _ ne nf,d⟩
 .show (Eu pre.length J++bM σ is).length=(pre++D).length;unfold bM;rw[Er,Er,FF,Ea,fr.len]
section
variable {X:Cx}
theorem kH {lo:I}{a:Jo L}{n:O}(h:ItemsOf (λ(i:O) (v:L)=>∃t,v=Value.int (lo+(i:I) * 1) t) a n):Vals ((Eb n).map λ(k:O)=>V.int<|lo+(k:I)) a.toList:=by
 have c:∀(l:U L) (m:O),l.length+m=n->(∀j v,l[j]?=Y v->∃t,v=Value.int (lo+((m+j:O):I)) t)->Vals ((List.range' m l.length).map λ(k:O)=>V.int (lo+(k:I))) l:=by
  intro l;induction l with
  |nil=>intro m _ _;exact .nil
  |cons v l p=>intro m o d;obtain⟨t,e⟩:=d 0 v rfl;rw[Ef,List.range'_succ,Eo];refine .cons ⟨t,by rw[e];rfl⟩<|p (m+1) (by rw[Ef] at o;lia) λj s b=>?_;obtain⟨r,f⟩:=d (j+1) s b;exact⟨r,by rw[f,show m+(j+1)=m+1+j by lia]⟩
 have g:a.toList.length=n:=by rw[GS];exact h.1
 have:=c a.toList 0 (by lia) λj v b=>by obtain⟨t,e⟩:=h.2 j v (by simpa using b);exact⟨t,by rw[e,Int.mul_one,Gz]⟩
 rw[g] at this;rw[List.range_eq_range'];exact this
theorem j9 (A:X.calm=DY):dN X (.type "list") (λm H Q=>∃p i j,m=[.ref p]/\H p=Y (.rng i j)/\(-(2 ^ 62)<=i/\i<2 ^ 62/\-(2 ^ 62)<=j/\j<2 ^ 62)/\(j-i).toNat<=sizeLine/\∀l,H l=J->Q (.ref l) (upd H l<|.lst<|(Eb (j-i).toNat).map λ(k:O)=>V.int<|i+(k:I))):=by intro g s P H m N Q a r h;obtain⟨p,i,j,rfl,hp,⟨o,w,x,y⟩,f,q⟩:=h;obtain⟨u,rfl,F⟩:=iJ r;cases F;obtain⟨t,u,v,e⟩:=a.hok p _ hp;refine call_list_range (a.ok.hd A) e (small_one o w x y) (n:=(j-i).toNat) (by rw[rangeSize_one];split<;>lia) (Ed f<|by decide) λM G b z hk d c=>?_;have D:=kH c;refine⟨.ref s.heap.objs.size,upd H s.heap.objs.size<|.lst<|(Eb (j-i).toNat).map λ(k:O)=>V.int<|i+(k:I),a.laid (t':=G) hk (D7 _) ⟨?_,b.toList,z,D,by rw[d,Array.toArray_toList]⟩,rfl,q _ a.fresh⟩;rw[Ea,FV];exact f
end
def Ite (K:D1)(a:IY):It:=
 ⟨fun i H=>∃ b x,SqL K H a b/\b[i]?=Y x,
  λi H v c=>∃p x,v=.ref p/\H p=J/\c=upd H p (.tup [.int (i:I),x])/\∀b,SqL K H a b->b[i]?=Y x,
  λi H=>∃b,SqL K H a b/\b.length<=i⟩
theorem mN {P:I9}{w:D3}{K:D1}{es:U Je}{kt:O}{pt:Pos}{e n a:IY}(r:e≠n):j6 P w K (.Tuple es kt pt) (Ite K a) [e,n] e (λi h=>(∃g,IsEnum h e n (i:I) g)/\h.IsListIter n a i) where
 mem:=by simp
 obj:=λi h l b f=>by
  obtain⟨⟨g,j⟩,m⟩:=l;simp only[Ee,ED,Jq] at f;rcases f with rfl|rfl
  .exact⟨_,j,λv y=>by cases y⟩
  .obtain ⟨o,F,_,d⟩:=m;exact⟨o,F,λv y=>by rw[d] at y;cases y⟩
 keep:=λi h u l k=>by obtain⟨⟨g,j⟩,m⟩:=l;exact⟨⟨g,k e (by simp) _ j⟩,m.at λo z=>k n (by simp) o z⟩
 item:=by
  intro X N Z M hc i t s σ H E c A l Q;subst N Z M;obtain⟨xs,x,D,hx⟩:=Q;obtain⟨⟨g,j⟩,m⟩:=l;obtain⟨its,v1,o1,z1⟩:=c.list D;obtain⟨u1,e1,r1⟩:=v1.get hx
  have lt:∀b∈[e,n],b<s.heap.objs.size:=λb f=>by
   simp only[Ee,ED,Jq] at f;rcases f with rfl|rfl
   .exact Heap.lt_size j
   .obtain⟨o,F,_⟩:=m;exact Heap.lt_size F
  refine wpAny_pyNext_enum_item j m o1.isList (x:=u1) (by simpa using e1) r λu y1 y2 y3 y4 y5=>⟨_,rfl,?_⟩;refine Jv (s:={s with heap:=u,toks:=s.toks+1}) y1 λG w1 sb=>?_;have p:Heap.SameBut e u G:=sb;have nz:s.heap.objs.size≠e:=Fi (lt e<|by simp);have kk:∀b o,b ∉ [e,n]->s.heap.get? b=Y o->G.get? b=Y o:=λb o f z=>by simp only[Ee,ED,Jq,not_or] at f;exact(p.2 b f.1).trans<|y5 b o f.1 f.2 z
  have tp:Jz G s.heap.objs.size [.int (i:I) s.toks,u1].toArray:=⟨_,(p.2 _ nz).trans y3,rfl,_,rfl⟩
  refine⟨.ref s.heap.objs.size,upd H s.heap.objs.size<|.tup [.int (i:I),x],bE (s:=s) (t':=s.toks+1) c A kk (D7 _) (by show 2<=sizeLine;decide) (.cons ⟨_,rfl⟩<|.cons r1 .nil) tp,rfl,
   ⟨_,x,rfl,c.fresh,rfl,λzs hz=>by rw[c.list_inj hz D];exact hx⟩,?_,λb f=>?_⟩
  .exact⟨⟨_,w1⟩,y2.at λo z=>(p.2 _<|EB r).trans z⟩
  .rw[ag<|Eh<|lt b f];exact(A b f).1
 done:=by intro X N Z M hc i t s σ H E c A l Q;subst N Z M;obtain⟨xs,D,hl⟩:=Q;obtain⟨⟨g,j⟩,m⟩:=l;obtain⟨its,v1,o1,z1⟩:=c.list D;have l1:=v1.length;refine wpAny_pyNext_enum_end (c.ok.hd hc) j m o1.isList (by simp;lia) λu eb=>⟨rfl,cX (t':=s.toks) c A λb o f z=>eb b o (λy=>f<|by simp[y]) z⟩
 self:=λ_ _ _ _ _ l h=>by obtain⟨⟨g,j⟩,_⟩:=l;exact GL j h
section
variable {X:Cx}
def we (K:D1)(c:TA):TI:=λf H R=>c f H λd b=>∃a,d=[.ref a]/\(∃e,SqL K b a e)/\R (Ite K a) b
theorem uy {a:Je}{n:TA}{p g pt:Pos}{t:U Je}{D:O}(w:Gl X "enumerate")(x:X.mg "enumerate"=J)(v:PA X [a] n)(y:D5 [a] X.env=[(DX,Jl a X.env)]:=by rfl):
  PI X (.Tuple t D pt) (.Call (.Name "enumerate" p) [a] [] g) (we X.K n):=by
 intro f s P H R c h;refine Call_<|cY c w x boot_enumerate<|GD (thn (v g f s P H _ c h) λQ k ⟨vs,o,i,M,j⟩=>?_) y rfl;obtain⟨a,rfl,⟨xs,l⟩,q⟩:=j;cases M with
 | cons r N =>
  cases N;cases r;obtain⟨z,Z,F,z1⟩:=i.list l;refine call_enumerate_list F.isList λu j G _ A=>?_;refine GL (s:={k with heap:=u}) j ?_;refine⟨_,_,_,_,o,rfl,i.kept (t':=k.toks) A,mN<|Iv _,⟨⟨_,j⟩,G⟩,λb m=>?_,q⟩;have d:k.heap.objs.size<=b:=by simp only[Ee,ED,Jq] at m;rcases m with e|e<;>(rw[e];first|exact Gw _ _|exact D7 _)
  exact i.fpOk d<|i.hok.fresh d
end
section
variable {prog:I9}{w:D3}{A:D9}{R:Result->DZ->Prop}{s:DZ}
theorem iz {u P j f:Je}{c:Jt}{M:Pos}{N t:L}{b:Env}(a:O->DZ->Prop)
  (turn:∀ n s,a n s->Ja (D4 prog w) A (Ff N) (fun r d=>match r with
   |none=>R (.ok .next) d
   | some v=>Ja (D4 prog w) A (F3 P N v) (fun _ k=>Ja (D4 prog w) A (Fg P b v) (fun _ l=>Ja (D4 prog w) A (JM f b (Jl f b)) (fun ok e=>if ok=DY then
     Ja (D4 prog w) A (Jl u b) (λy o=>Ja (D4 prog w) A (call (.builtin "list.append") [t,y]) (λ_ p=>∃m,m<n/\a m p) noX o) noX e else∃m,m<n/\a m e) noX l) noX k) noX d) noX s)
  (n:O) (h:a n s):E7 (D4 prog w) A (.compLoop (.ListComp u [⟨P,j,[f],0⟩] c M) 0 N t b) R s:=by
 refine codeAny_loop rfl a (λn s Q=>?_) n h;show Ja _ A ((compTurn (.ListComp u [⟨P,j,[f],0⟩] c M) 0 N t b).onRaise (λx=>do noteFrame x b;theTreesLotGoes x)) _ _ s;refine wpAny_noted ?_;rw[compTurn_list];refine D2<|JE<|D2<|Ej (turn n s Q) (λr d g=>?_) λ_ _ z=>z.elim;cases r with
 |none=>exact D6 g
 |some v=>
  refine D2<|Ej g (λ_ k D=>?_) λ_ _ z=>z.elim;refine D2<|Ej D (λ_ l F=>?_) λ_ _ z=>z.elim;refine D2<|wpAny_tests_one<|Ej F (λok e i=>?_) λ_ _ z=>z.elim;cases ok with
  |true=>exact D2<|D2<|Ej i (λy o G=>D2<|Ej G (λ_ p H=>D6<|D6 ⟨rfl,H⟩) λ_ _ z=>z.elim) λ_ _ z=>z.elim
  |false=>exact D2<|D6<|D6 ⟨rfl,i⟩
end
end L3

namespace L3
open PySem PySem.Spec PyProof.Rows L2
def uJ (n:O)(a:It)(g:TG)(o:TT)(r:TE)(c:L2.St)(j:Hp)(Q:VK):Prop:=∃W:O->O->U V->Hp->Prop,(∃m,W 0 m [] j)/\∀i m d H,W i m d H ->
 (a.stop i H/\d.length<=sizeLine/\∀p,H p=J->Q (.ref p) (upd H p<|.lst d)) \/
 (a.go i H/\d.length<sizeLine/\∀x f,a.yld i H x f->g x (Eu n J++c) f λb k=>(b.length=n+c.length/\b.drop n=c)/\o b k λok h=>if ok=DY then r b h λy l=>∃e,e<m/\W (i+1) e (d++[y]) l else∃e,e<m/\W (i+1) e d h)
def uC (n:O)(a:It)(g:TG)(l:TE)(b:L2.St)(h:Hp)(Q:VK):Prop:=∃W:O->O->U V->Hp->Prop,(∃m,W 0 m [] h)/\∀i m d H,W i m d H ->
 (a.stop i H/\d.length<=sizeLine/\∀p,H p=J->Q (.ref p) (upd H p<|.lst d)) \/
 (a.go i H/\d.length<sizeLine/\∀x e,a.yld i H x e->g x (Eu n J++b) e λc j=>(c.length=n+b.length/\c.drop n=b)/\l c j λy k=>∃f,f<m/\W (i+1) f (d++[y]) k)
def gI (n:O)(h:TI)(d:U O)(g:TG)(e:TT)(f:TE):TE:=λb H Q=>h b H λa c=>uJ n a g e f (bM b d) c Q
def hU (n:O)(f:TI)(d:U O)(g:TG)(e:TE):TE:=λb H Q=>f b H λa c=>uC n a g e (bM b d) c Q
theorem pC {n:O}{b a:L2.St}(h:b.drop n=a){j:O}{w:V}(e:(Eu n J++a)[j]?=Y (Y w)):b[j]?=Y (Y w):=by
 by_cases c:j<n
 .rw [GC<|by simpa using c,Hk,Jc c] at e;cases EC e
 .rw [Gf<|by simpa using c,FF,<- h,List.getElem?_drop,Nat.add_sub_cancel'<|by lia] at e;exact e
def CW (X:Cx)(cs:U Je)(k:IZ->DZ->Prop)(s:DZ):Prop:=match cs with
|[]=>k DY s
|[c]=>Ja (D4 X.prog X.w) X.A (JM c X.env<|Jl c X.env) k noX s
|_=>Jh
def PC (X:Cx)(cs:U Je)(e:TT):Prop:=∀(a:U<|IY×Obj) (s:DZ) (b:L2.St) (H:Hp) (Q:IZ->Hp->Prop),Inv X a b H s->e b H Q->CW X cs (λok d=>∃c,Inv X a b c d/\Q ok c) s
theorem CW.mono {X:Cx}{cs:U Je}{k a:IZ->DZ->Prop}{s:DZ}(h:CW X cs k s)(w:∀b s,k b s->a b s):CW X cs a s:=by
 match cs,h with
 |[],h=>exact w _ _ h
 |[c],h=>exact Ej h w λ_ _ z=>z
theorem iF {X:Cx}{g x i:Je}{cs:U Je}{e:Jt}{u:Pos}{t f:L}{R:Result->DZ->Prop}{s:DZ}(a:O->DZ->Prop)
  (turn:∀ n s,a n s->Ja (D4 X.prog X.w) X.A (Ff t) (fun r b=>match r with
   |none=>R (.ok .next) b
   | some v=>Ja (D4 X.prog X.w) X.A (F3 x t v) (fun _ j=>Ja (D4 X.prog X.w) X.A (Fg x X.env v) (fun _ k=>CW X cs (fun ok d=>if ok=DY then
     Ja (D4 X.prog X.w) X.A (Jl g X.env) (λy l=>Ja (D4 X.prog X.w) X.A (call (.builtin "list.append") [f,y]) (λ_ o=>∃m,m<n/\a m o) noX l) noX d else∃m,m<n/\a m d) k) noX j) noX b) noX s)
  (n:O) (h:a n s) (p:cs.length<=1):E7 (D4 X.prog X.w) X.A (.compLoop (.ListComp g [⟨x,i,cs,0⟩] e u) 0 t f X.env) R s:=by
 match cs,p with
 |[],_=>exact jW a turn n h
 |[c],_=>exact iz a turn n h
theorem iT {X:Cx}{elt Z tg:Je}{cs:U Je}{pre:U Str}{pos:Pos}{l:Jt}{P:U<|Str×IY}{ys:U Str}{is:U O}{wi:TI}{g:TG}{te:TE}{tc:TT}{use:B<|L->Sem Unit}{Q:VK}{Qp:L->DZ->Prop}{t:U<|IY×Obj}{s:DZ}{σ:L2.St}{H:Hp}{ip:Pos}
  (hc:X.calm=DY) (hi:PI X tg Z wi) (hg:∀C s H G,PG (ao X (pre++ys) l P C s H G) tg g) (he:∀C s H G,PE (ao X (pre++ys) l P C s H G) elt te) (hcd:∀C s H G,PC (ao X (pre++ys) l P C s H G) cs tc) (hcs:cs.length<=1)
  (hclos:Fv l X.env=pure P) (S:ay pre ys l) (hcl:Clo X P) (hfr:(l.names.all λp=>p.2 != .free || (P.lookup p.1).isSome)=DY) (fr:Frees X l P ys is) (hs:∀v,E2 Z X.env v=pure v)
  (fin:∀(s4:DZ) (Hn:Hp) (D k:IY) (m4:Str->B L),Inv X t σ Hn s4->s4.heap.Ns k m4->k≠X.env.locals->(∀a c,X.env.cells.lookup a=Y c->c≠k)->Hn k=J->X.s₀.heap.objs.size<=k->(∀p∈X.pn++t,p.1≠k)->Q (.ref D) Hn->compPost (D4 X.prog X.w) X.A X.xe use Qp (.ref D) k (.ok .next) s4)
  (d:Inv X t σ H s) (h:gI pre.length wi is g tc te σ H Q):
  Ja (D4 X.prog X.w) X.A (JF (.ListComp elt [⟨tg,Z,cs,0⟩] l pos) l X.env ip (newList []) DX (Jl Z X.env) use) Qp X.xe s:=by
 refine wpAny_comprehension_free (use:=use) rfl hs hclos S.kind S.nm (thn (hi t s σ H _ d h) λxv s1 h1=>thn h1 λitv m h2=>?_);obtain⟨it,G,tn,f,N,rfl,I2,T,st2,f2,W,⟨m0,w0⟩,turn⟩:=h2;have fpo:∀b∈G,b<m.heap.objs.size:=λb x=>by obtain⟨o,e,_⟩:=T.obj _ _ st2 b x;exact Heap.lt_size e
 refine FH<|wpAny_newFunctionEnv S.cell (λy hy=>by cases hy) (λg' hns hsb=>?_) S.kind;dsimp only at hns hsb ⊢;generalize hP2:m.heap.push {cls:=.type "list",dict:=J,data:=.seq ([]:U L).toArray}=P2 at hns hsb ⊢;have hCs:P2.objs.size=m.heap.objs.size+1:=by rw[<- hP2,Heap.size_push]
 have hDC:m.heap.objs.size≠P2.objs.size:=by lia
 have hle:m.heap.objs.size<=P2.objs.size:=by lia
 have nc:∀b o,m.heap.get? b=Y o->b≠P2.objs.size:=λb o e=>Eh<|Es (Heap.lt_size e) hle;have nd:∀b o,m.heap.get? b=Y o->b≠m.heap.objs.size:=λb o e=>Eh<|Heap.lt_size e;have ndH:∀b u,N b=Y u->b≠m.heap.objs.size:=λb u e=>Eh<|I2.hok.lt e;have old:∀b o,m.heap.get? b=Y o->g'.get? b=Y o:=λb o e=>hsb.extBut b o (nc b o e)<|Heap.get?_push_of_some _<|hP2 ▸ Heap.get?_push_of_some _ e;have accD:g'.get? m.heap.objs.size=Y (gP []):=hsb.extBut _ _ hDC<|Heap.get?_push_of_some _<|hP2 ▸ Heap.get?_push_size _ rfl;have stkD:m.heap.objs.size ∉ frs X.stack:=λx=>(Ee.mp<|I2.stkSub _ x).elim (λz=>Jb z<|Fi I2.lt)<|I2.nofs<|D7 _;generalize hσ':bM σ is=σ' at turn;have I3:Inv (ao X (pre++ys) l P P2.objs.size m N G) t (Eu pre.length J++σ') N {m with heap:=g',toks:=m.toks+([]:U<|Str×L).length}:=by rw[<- hσ'];exact mG (pre:=pre) I2 f2 fpo S hcl hfr fr hle old hns
 have stat:∀{H':Hp} {o:Obj},(∀b∈G,H' b=J)->∀b∈G,fR (ao X (pre++ys) l P P2.objs.size m N G) (t++[(m.heap.objs.size,o)]) H' b:=λ{H' o} hn b x=>by
  refine⟨hn b x,Eh<|Es (fpo b x) hle,λz=>(Ee.mp<|I2.stkSub _ z).elim (f2 b x).2.1 (f2 b x).2.2.1,.inl x,λa c e=>(f2 b x).2.2.2.2.1 a c<|hcl.get e,λp hp=>?_⟩;rcases Gv.mp hp with z|z
  .exact(f2 b x).2.2.2.2.2 p<|Ge _ z
  .rcases Gv.mp z with z | z
   .exact(f2 b x).2.2.2.2.2 p<|Et _ z
   .rw [Gh.mp z];exact Fi<|fpo b x
 have loop:E7 (D4 X.prog X.w) X.A (.compLoop (.ListComp elt [⟨tg,Z,cs,0⟩] l pos) 0 (.ref it) (.ref m.heap.objs.size) (compEnvC l P P2.objs.size X.env))
   (compPost (D4 X.prog X.w) X.A X.xe use Qp (.ref m.heap.objs.size) P2.objs.size) {m with heap:=g',toks:=m.toks+([]:U<|Str×L).length}:=by
  refine iF (X:=ao X (pre++ys) l P P2.objs.size m N G) (λn s'=>∃i zs F H',Inv (ao X (pre++ys) l P P2.objs.size m N G) t (Eu pre.length J++σ') H' s'/\tn i s'.heap/\(∀b∈G,H' b=J)/\s'.heap.get? m.heap.objs.size=Y (gP F)/\Vals zs F/\H' m.heap.objs.size=J/\W i n zs H')
   ?_ m0 ⟨0,[],[],N,I3,T.keep _ _ _ st2 λb _ o e=>old b o e,λb x=>(f2 b x).1,accD,.nil,I2.hok.fresh<|D7 _,w0⟩ hcs
  rintro n s3 ⟨i,zs,F,H3,J3,st3,fr3,d3,rv3,nd3,w3⟩;have hzl:=rv3.length
  have J3':Inv (ao X (pre++ys) l P P2.objs.size m N G) (t++[(m.heap.objs.size,gP F)]) (Eu pre.length J++σ') H3 s3:=J3.pins_of λp hp=>by
   rcases Gv.mp hp with z|z
   .exact J3.pin p (Et _ z)
   .rw [Gh.mp z];exact⟨d3,nd3,hDC,stkD,λv q=>by cases q⟩
  rcases turn i n zs H3 w3 with⟨stop,hz,q⟩|⟨go,hz,step⟩
  .refine Ej (T.done (ao X (pre++ys) l P P2.objs.size m N G) rfl rfl rfl hc i _ s3 _ H3 noX J3' (stat fr3) st3 stop) (fun r s4 h4=>?_) fun _ _ z=>z.elim;obtain⟨hr,I4⟩:=h4;subst hr;obtain⟨m4,hn4,_⟩:=id I4.loc;have f4:H3 P2.objs.size=none:=I4.free;have d4:s4.heap.get? m.heap.objs.size=Y (gP F):=(I4.pin (m.heap.objs.size,gP F) (Et _ (Et _ (Gh.mpr rfl)))).1;have u4:Un (frs X.stack) G N H3 m.heap s4.heap:=I4.base
   have un:Un (frs X.stack) G N (upd H3 m.heap.objs.size (.lst zs)) m.heap s4.heap:=
    ⟨u4.keep,u4.slot,fun b o e n hx=>by rw [ag (nd b o e)]; exact u4.free b o e n hx,u4.there,
     λb xs q=>by rw[ag<|ndH b _ q];exact u4.tups b xs q,λb o u q=>by rw[ag<|ndH b _ q];exact u4.frzs b o u q,λb ps q=>by rw[ag<|ndH b _ q];exact u4.tbls b ps q⟩
   have IX:Inv X t σ (upd H3 m.heap.objs.size (.lst zs)) s4:=I2.call' (s':=s4) (ch:=G) I4.os un (gh I4.hok nd3 ⟨hz,F,F.length,rv3,d4⟩) I4.bare
    (λb x=>⟨(f2 b x).2.2.2.1,(f2 b x).2.1,(f2 b x).2.2.2.2.1,(f2 b x).2.2.2.2.2⟩)
   have cL:P2.objs.size≠X.env.locals:=Fi<|Es I2.lt hle;have cC:∀a c,X.env.cells.lookup a=Y c->c≠P2.objs.size:=λa c e=>by obtain⟨v',o',ho',_⟩:=I2.cell a c e;exact nc c o' ho'
   exact fin s4 _ m.heap.objs.size P2.objs.size m4 IX hn4 cL cC (by rw[ag<|EB hDC];exact f4) (Ed I2.sz hle) (λp hp=>nc p.1 _ (I2.pin p hp).1)<|q _ nd3
  .refine Ej (T.item (ao X (pre++ys) l P P2.objs.size m N G) rfl rfl rfl hc i _ s3 _ H3 noX J3' (stat fr3) st3 go) (fun r s4 h4=>?_) fun _ _ z=>z.elim;obtain⟨u,hr,h4⟩:=h4;subst hr;refine Ej h4 (λ_ s5 h5=>?_) λ_ _ z=>z.elim;obtain⟨v,H5,I5,r5,y5,st5,fr5⟩:=h5;have I5':=I5.pinned (stat fr5) (T.obj _ _ st5);refine Ej (hg P2.objs.size m N G _ s5 _ H5 v u _ I5' r5 (step v H5 y5)) (λ_ s6 h6=>?_) λ_ _ z=>z.elim;obtain⟨σ6,H6,I6,⟨hl6,hd6⟩,step'⟩:=h6;have back:∀{H7:Hp} {s7:DZ},Inv (ao X (pre++ys) l P P2.objs.size m N G) ((t++[(m.heap.objs.size,gP F)])++eo G s5.heap) σ6 H7 s7->Inv (ao X (pre++ys) l P P2.objs.size m N G) t (Eu pre.length J++σ') H7 s7:=λI7=>I7.unpinned.unpinned.weak (by rw[hl6,Er,FF]) λj w' e=>pC hd6 e;refine CW.mono (hcd P2.objs.size m N G _ s6 _ H6 _ I6 step') λok s6' h6'=>?_;obtain⟨H6',I6',q6⟩:=h6';cases ok with
   | false =>
    rw[Jd EI] at q6;obtain⟨m',hm',w7⟩:=q6;have M:=I6'.pin (m.heap.objs.size,gP F)<|Et _<|Ge _<|Et _<|Gh.mpr rfl;rw[Jd EI];refine⟨m',hm',i+1,zs,F,H6',back I6',T.keep _ _ _ st5 λb x o e=>?_,λb x=>?_,M.1,rv3,M.2.1,w7⟩
    .exact(I6'.pin (b,o)<|Et _<|Et _<|a9 x e).1
    .obtain ⟨o,e,_⟩:=T.obj _ _ st5 b x;exact(I6'.pin (b,o)<|Et _<|Et _<|a9 x e).2.1
   | true =>
    rw[Jc rfl] at q6 ⊢;refine Ej (he P2.objs.size m N G _ s6' _ H6' _ I6' q6) (λyv s7 h7=>?_) λ_ _ z=>z.elim;obtain⟨y',H7,I7,r7,m',hm',w7⟩:=h7;have M:=I7.pin (m.heap.objs.size,gP F)<|Et _<|Ge _<|Et _<|Gh.mpr rfl;refine append_at (hsz:=by show F.toArray.size<=sizeLine;rw[Ep];lia) M.1 λh8 sb8 hD8=>?_
    have I8:Inv (ao X (pre++ys) l P P2.objs.size m N G) t (Eu pre.length J++σ') H7 {s7 with heap:=h8}:=(back I7).turned (t':=s7.toks) (it:=m.heap.objs.size) (λb o x e=>(sb8.2 b x).trans e) M.2.1 hDC (.inr<|D7 _)
     (fun a c e z=>by
      obtain⟨v',o',ho',_⟩:=I2.cell a c<|hcl.get e;exact nd c o' ho' z)
     (λp hp=>nd p.1 _ (I2.pin p hp).1)
    refine⟨m',hm',i+1,zs++[y'],F++[yv],H7,I8,T.keep _ _ _ st5 λb x o e=>?_,λb x=>?_,?_,rv3.append<|.cons r7 .nil,M.2.1,w7⟩
    .exact(sb8.2 b<|Eh<|fpo b x).trans (I7.pin (b,o)<|Et _<|Et _<|a9 x e).1
    .obtain ⟨o,e,_⟩:=T.obj _ _ st5 b x;exact(I7.pin (b,o)<|Et _<|Et _<|a9 x e).2.1
    .show h8.get? m.heap.objs.size=_;rw[hD8];simp[gP]
 exact codeAny_compStart_list loop<|T.self X.A 0 _ _ _ (T.keep _ _ _ st2 λb _ o e=>old b o e) loop
section
variable {X:Cx}{elt iter tg cnd:Je}{pre:U Str}{pos spos pz:Pos}{z:Str}{jz:O}{scope:Jt}{cl:U (Str×IY)}{ys:U Str}{is:U O}{wi:TI}{g:TG}{te:TE}{tc:TT}
def tT:TT:=λ_ H Q=>Q DY H
theorem pcN:PC X [] tT:=λb s c H Q a q=>⟨H,a,q⟩
theorem goN {n:O}{a:L2.St}{H:Hp}{Q:VK}(h:hU n wi is g te a H Q):gI n wi is g tT te a H Q:=h
theorem oX {cs:U Je}(x:X.calm=DY)(F:PI X tg iter wi)(A:∀C s H f,PG (ao X (pre++ys) scope cl C s H f) tg g)(y:∀C s H f,PE (ao X (pre++ys) scope cl C s H f) elt te)(i:∀C s H f,PC (ao X (pre++ys) scope cl C s H f) cs tc)(k:cs.length<=1)
  (d:Fv scope X.env=pure cl) (S:ay pre ys scope) (j:Clo X cl) (l:(scope.names.all λp=>p.2 != .free || (cl.lookup p.1).isSome)=DY) (fr:Frees X scope cl ys is) (M:∀v,E2 iter X.env v=pure v):
  PE X (.ListComp elt [⟨tg,iter,cs,0⟩] scope pos) (gI pre.length wi is g tc te):=by
 intro m s σ H Q a h;rw[eval_ListComp];show Ja _ _ (JF _ scope X.env _ (newList []) DX (Jl iter X.env) J) _ _ s;refine iT x F A y i k d S j l fr M (λZ Hn D c P n G t r u N hp q=>?_) a h;exact⟨P,G,λh' sb=>⟨.ref D,_,n.turned (t':=Z.toks) (it:=c) (λb o w e=>(sb.2 b w).trans e) u t (.inr N) r hp,rfl,q⟩⟩
theorem oz {cs:U Je}(hN:X.N.Nodup)(hj:X.N[jz]?=Y z)(i:Loc X.env.scope z)(w:EF (.ListComp elt [⟨tg,iter,cs,0⟩] scope pos) (Y<|.Name z pz) spos.line X.env=pure DY)(hc:X.calm=DY)(hi:PI X tg iter wi)(hg:∀C s H j,PG (ao X (pre++ys) scope cl C s H j) tg g)(he:∀C s H j,PE (ao X (pre++ys) scope cl C s H j) elt te)(m:∀C s H j,PC (ao X (pre++ys) scope cl C s H j) cs tc)(r:cs.length<=1)
  (f:Fv scope X.env=pure cl) (S:ay pre ys scope) (n:Clo X cl) (u:(scope.names.all λp=>p.2 != .free || (cl.lookup p.1).isSome)=DY) (fr:Frees X scope cl ys is) (hs:∀v,E2 iter X.env v=pure v) (t:X.fn z=DY\/X.env.scope.names.lookup z=Y .local):
  PS X (.Assign [.Name z pz] (.ListComp elt [⟨tg,iter,cs,0⟩] scope pos) spos) (lV (gI pre.length wi is g tc te)<|bQ jz):=by
 intro k s σ H D a h;rw[exec_Assign_Name_used _ _ _ _ w];refine D2<|JE<|D2 ?_;show Ja _ _ (do let _ <- JF (.ListComp elt [⟨tg,iter,cs,0⟩] scope pos) scope X.env _ (newList []) DX (Jl iter X.env) (Y (Fg (.Name z pz) X.env))) _ _ s;refine D2<|thn (iT (use:=Y<|Fg (.Name z pz) X.env) (Qp:=λ_ F=>SP X k D .next F) hc hi hg he m r f S n u fr hs (λs4 Hn d c m4 M hn A y Z hz hp q=>?_) a h) λ_ F hq=>D6<|D6 hq;show Ja _ _ (Fg (.Name z pz) X.env<|.ref d) _ _ s4;refine wpAny_assign_Name<|gi M hN hj i (v:=.ref d) rfl (λs5 G Q=>?_) t;obtain⟨P,x,l⟩:=Q;have na:c≠P:=l.elim (λe=>by rw[e];exact A) λe=>EB<|y _ _ e;exact⟨m4,hn.sameBut x na,λh' sb=>⟨_,_,G.turned (t':=s5.toks) (it:=c) (λb o hb e=>(sb.2 b hb).trans e) Z A (.inr hz) y hp,q⟩⟩
theorem mB (i:X.calm=DY)(l:PI X tg iter wi)(k:∀C s H d,PG (ao X (pre++ys) scope cl C s H d) tg g)(j:∀C s H d,PE (ao X (pre++ys) scope cl C s H d) elt te)
  (b:Fv scope X.env=pure cl) (S:ay pre ys scope) (e:Clo X cl) (f:(scope.names.all λp=>p.2 != .free || (cl.lookup p.1).isSome)=DY) (fr:Frees X scope cl ys is) (m:∀v,E2 iter X.env v=pure v:=by intro _;rfl):
  PE X (.ListComp elt [⟨tg,iter,[],0⟩] scope pos) (hU pre.length wi is g te):=λc s n H Q a h=>oX i l k j (λ_ _ _ _=>pcN) (EJ _) b S e f fr m c s n H Q a<|goN h
theorem fV (l:X.N.Nodup)(t:X.N[jz]?=Y z)(c:Loc X.env.scope z)(k:EF (.ListComp elt [⟨tg,iter,[],0⟩] scope pos) (Y<|.Name z pz) spos.line X.env=pure DY)(m:X.calm=DY)(r:PI X tg iter wi)(o:∀C s H e,PG (ao X (pre++ys) scope cl C s H e) tg g)(n:∀C s H e,PE (ao X (pre++ys) scope cl C s H e) elt te)
  (b:Fv scope X.env=pure cl) (S:ay pre ys scope) (f:Clo X cl) (j:(scope.names.all λp=>p.2 != .free || (cl.lookup p.1).isSome)=DY) (fr:Frees X scope cl ys is) (u:∀v,E2 iter X.env v=pure v:=by intro _;rfl) (i:X.fn z=DY\/X.env.scope.names.lookup z=Y .local:=by first|exact .inl rfl|exact .inr rfl|assumption):
  PS X (.Assign [.Name z pz] (.ListComp elt [⟨tg,iter,[],0⟩] scope pos) spos) (lV (hU pre.length wi is g te)<|bQ jz):=λd s w H D a h=>oz l t c k m r o n (λ_ _ _ _=>pcN) (EJ _) b S f j fr u i d s w H D a<|goN h
end
end L3


namespace L3
open PySem PySem.Spec PyProof.Rows L2
abbrev v5 (h:Jf)(T:IY)(a b c:L):Prop:=h.get? T=Y {cls:=.type "tuple",data:=.seq #[a,b,c]}
def Z3 (n d e f:O)(i:O)(h:Jf):Prop:=
 EA h (n+5) (n+3) (n+4) .none/\v5 h (n+3) (.ref n) (.ref<|n+1) (.ref<|n+2)/\(∃a b c,v5 h (n+4) a b c)/\ItO h DX n d i/\ItO h DX (n+1) e i/\ItO h DX (n+2) f i
end L3

namespace L3
open PySem PySem.Spec PyProof.Rows L2
noncomputable abbrev VE:U L:=[.type "ValueError",.type "Exception",.type "BaseException",.type "object"]
structure CG (h:Jf)(C N:IY)(up:U L)(names:Str->B L):Prop where
 obj:∃nm q bs hd sn sub ab col dd k0 k1 k2 k3 k5,h.get? C=Y (excClassObj nm q C N bs up hd sn sub ab col dd k0 k1 k2 k3 k5 "ValueError.__new__")
 ns:h.Ns N names
section
variable {prog:I9}{w:D3}{h:Jf}{A:D9}{g:Jo JH}{d:Drawn}{t:O}{os:JL}{E:L->DZ->Prop}
def x8:U L->IZ
|.ref _::r=>x8 r
|l=>l==VE
end
def XOk (a C:IY)(c:B IY)(n:IZ)(h:Jf):Prop:=∃o b d,h.get? a=Y o/\o.cls=.ref C/\o.dict=c/\o.data=.fields b/\b[0]?=Y (.ref d)/\1<b.size/\(n=DY->b[1]?=Y .none)
abbrev XO (a C:IY)(b:B IY)(n:IZ):HO:=.ext<|XOk a C b n
def Tr (lo:O)(H:Hp)(h:Jf)(a:IY):Prop:=∃d b,h.get? a=Y d/\d.data=.fields b /\
 (b[1]?=Y .none\/∃T c e,b[1]?=Y (.ref T)/\T≠a/\h.get? T=Y c/\c.data=.fields e/\e[3]?=Y .none/\lo<=T/\H T=J)
structure XC (K:D1)(C f:IY)(up:U L):Prop where
 ok:∀h,K.In h->∃N names,CG h C N up names/\OwnTail h VE up/\names "__init__"=Y (.ref f)
 fn:∀h,K.In h->∃o,h.get? f=Y o/\o.cls=.type "function"
 kp:Fb K (.ref C)=DY
 sa:EG K (.ref C) "__setattr__"=Y (Y (.builtin "object.__setattr__"))
 po:(PySem.W.clsIn K C).any (λcd=>x8 cd.mro)=DY
 hd:Gy K C=DY
def xw (X:Cx)(d:L2.St):VK:=λv H=>∀(b:U<|IY×Obj) (s:DZ) (a C:IY) (c:B IY),v=.ref a->H a=Y (XO a C c DX)->Inv X b d H s->Tr X.s₀.heap.objs.size H s.heap a->X.xe (.ref a) s
noncomputable abbrev hx (X:Cx)(a:IY):Cx:={X with A:=X.A.mark<|Y<|.ref a,calm:=DX,xe:=λ_ _=>Jh}
abbrev tx (X:Cx)(E:L->DZ->Prop)(pn:U<|IY×Obj):Cx:={X with xe:=E,pn:=pn}
section
variable {prog:I9}{w:D3}{A:D9}{E:L->DZ->Prop}{s:DZ}{K:D1}
structure XG (K:D1)(C:IY):Prop where
 ga:EG K (.ref C) "__getattribute__"=Y (Y (.builtin "BaseException.__getattribute__"))
 hk:EG K (.ref C) "__getattr__"=Y J
 sub:Ia K (.ref C) (.type "BaseException")=Y DY
end
structure XF (K:D1)(C:IY):Prop where
 xc:∃f up,XC K C f up/\x8 up=DY
 xg:XG K C
 hd:Gy K C=DY
 ca:EG K (.ref C) "__class__"=Y (Y (.builtin "object.__class__"))
 cg:HN K (.builtin "object.__class__") "__get__"=Y (Y (.builtin "getset_descriptor.__get__"))
 ct:Io K (.builtin "object.__class__")=Y DY
 mo:Ie K C (.type "object")=Y DY
def XNm (K:D1)(c:O)(C:IY):Prop:=c=C/\XF K C
end L3

namespace L3
open PySem PySem.Spec PyProof.Rows L2
noncomputable def hT (a:U I):I:=reduceHash<|Builtin.Tuple.tupleHashOf<|a.map hashInt
abbrev KZ:=U I×IY×L
def DTk (a:IY)(d:U<|U I)(f e:U V)(h:Jf):Prop:=(a==EK)=DX/\∃b:U KZ,b.map (·.1)=d/\b.map (λz=>V.ref z.2.1)=f/\Vals e (b.map (·.2.2))/\∃o c ep,h.get? a=Y o/\o.ExactDict/\o.data=.dict c ep/\c.toList=b.map λz=>⟨hT z.1,.ref z.2.1,z.2.2⟩
abbrev DTO (a:IY)(b:U<|U I)(d c:U V):HO:=.ext<|DTk a b d c
def KeyR (K:D1)(H:Hp):U (U I)->U V->Prop
|[],a=>a=[]
|k::c,a=>∃b r,a=.ref b::r/\SqT K H b (k.map V.int)/\KeyR K H c r
theorem KeyR.keep {K:D1}{H H':Hp}(s:∀b (d:U V),SqT K H b d->SqT K H' b d):∀{a:U<|U I} {c:U V},KeyR K H a c->KeyR K H' a c
|[],_,h=>h
|k::a,c,⟨b,r,e,q,h⟩=>⟨b,r,e,s b _ q,h.keep s⟩
end L3

namespace M
open PySem (Str)
inductive T where
 |non|bl (b:IZ)|int (i:I)|str (x:Str)|tup (ts:U T)|lst (ts:U T)|dct (ks:U (I ⊕ Str)) (vs:U T)|ins (c:O) (fs:U Str) (vs:U T)|obj (c:O) (fs:U Str) (vs:U T)|dtt (ks:U (U I)) (vs:U T)
 |scr (ns:U I)
 |gone
 deriving Ju
inductive Md where
 |s|d|o (m:Md)
 deriving Jw,Ju
noncomputable def Md.kid:Md->Md
|.s=>.s | .d=>.d | .o m=>m
def Md.up:Md->Md
|.d=>.d|m=>.o m
noncomputable def Md.meet:Md->Md->Md
|.s,_=>.s | .d,m=>m | .o _,.s=>.s | .o a,.d=>.o a | .o a,.o b=>.o<|a.meet b
noncomputable def Md.le:Md->Md->IZ
|.s,_=>DY
|.o a,.o b=>a.le b
|.o _,.d=>DY
|.d,.d=>DY
|_,_=>DX
abbrev W:=Md×T
abbrev Env:=U<|B W
noncomputable def LIM:O:=16777215
noncomputable def T.leaf:T->IZ
|.non | .bl _ | .int _ | .str _ | .scr _=>DY
|_=>DX
def T.isG:T->IZ
|.gone=>DY
|.dtt _ _=>DY
|_=>DX
noncomputable def T.isH:T->IZ
|.gone=>DY
|.dct _ _=>DY
|.dtt _ _=>DY
|.ins _ _ _=>DY
|.obj _ _ _=>DY
|_=>DX
def T.isN:T->IZ
|.non=>DY
|_=>DX
def leaves (a:U T):IZ:=a.all T.leaf
inductive Op where
 |add|sub|fdiv|mod|eq|ne|lt|le|gt|is|isnot|notin|ix|sl|sl1
 |len|isI (cs:U Jm)|count|list|tuple|sum|all|any|max|min|int|str|rng|sorted|join|split|abs|dict|get|lower|catT|dnew|ixD
 |dcpy
 |att (fld:Str)|mk (c:O) (fld:Str) (fk:O)|mkP (c:O) (fs:U Str) (cs:U I)|attP (fld:Str)
  deriving Jw,Ju
inductive Ik where
 |seq|rng|enm|zip|zip3|enmT
 deriving Jw,Ju
inductive E where
 |var (i:O)|mv (i:O)|io (i:O)|cst (t:T)
 |tup (es:U E)|lst (h:IZ) (es:U E)|op (o:Op) (h:IZ) (es:U E)
 |and (a b:E)|or (a b:E)|ifx (c a b:E)|chain (o p:Op) (a b c:E)
 |call (f:O) (es:U E)|comp (h:IZ) (k:Ik) (src:U E) (tg:U O) (cnd:B E) (elt:E)
 |callT (tab:U (Str×O)) (k:E) (es:U E)|inT (neg:IZ) (ks:U Str) (e:E)
 deriving Ju
inductive X where
 |q (vs ls:U O)|l (vs:U O)
 deriving Ju
inductive S where
 |asg (x:X) (i:O) (e:E)|asgT (x:X) (is:U O) (e:E)|setS (x:X) (i:O) (k e:E)|asgQ2 (vs ls:U O) (i:O) (a:E) (j:O) (b:E)|spoP (g i:O) (p:U O)
 |exp (x:X) (e:E)|app (x:X) (i:O) (e:E)|ext (x:X) (i:O) (e:E)
 |ret (vs:U O) (e:E)|ite (x:X) (c:E) (a b:U S)
 |forS (vs ls:U O) (k:Ik) (src:U E) (tg:U O) (body:U S)
 |brk|pas|stop|tri (body:U S)
 |raise (c:O) (fld:Str) (fk:O) (x:X) (e:E)
 deriving Ju
structure Fn where
 ps:O
 ns:O
 io:U O
 body:U S
inductive Res (α:Type) where
 |ok (a:α)|ex (t:T)|no
def Res.bind {b c:Type}:Res b->(b->Res c)->Res c
|.ok a,f=>f a
|.ex t,_=>.ex t
|.no,_=>.no
def ofO {b:Type}:B b->Res b
|some a=>.ok a
|none=>.no
inductive Fl where
 |nx (η:Env)|rt (w:W) (η:Env)|bk (η:Env)|ex (t:T) (η:Env)|no
noncomputable def truth:T->B IZ
|.non=>Y DX | .bl b=>Y b | .int i=>Y (i != 0) | .str x=>Y (x.cps.size != 0) | .tup a=>Y (!a.isEmpty) | .lst a=>Y (!a.isEmpty) | .dct _ _=>J | .ins ..=>J | .obj ..=>J | .dtt ..=>J | .scr c=>Y (!c.isEmpty) | .gone=>J
noncomputable def b2i:IZ->I
|true=>1|false=>0
mutual
def eqT:T->T->IZ
|.non,.non=>DY
|.bl a,.bl b=>a==b
|.bl a,.int i=>b2i a==i
|.int i,.bl a=>i==b2i a
|.int i,.int j=>i==j
|.str x,.str y=>x==y
|.tup ts,.tup us=>eqTs ts us
|.lst ts,.lst us=>eqTs ts us
|_,_=>DX
def eqTs:U T->U T->IZ
|[],[]=>DY
|t::ts,u::us=>eqT t u&&eqTs ts us
|_,_=>DX
end
mutual
def dp:T->O
|.tup ts=>dps ts+1
|.lst ts=>dps ts+1
|.scr _=>1000
|.dct _ _=>1000
|.ins _ _ _=>1000
|.obj _ _ _=>1000
|.dtt _ _=>1000
|.gone=>1000
|_=>0
def dps:U T->O
|[]=>0
|t::ts=>max (dp t)<|dps ts
end
def sOk (x:Str):IZ:=x.cps.all (· < 0x110000)&&decide (x.cps.size<=LIM)
def kOk:I ⊕ Str->IZ
|.inl _=>DY
|.inr x=>sOk x
noncomputable def keyT:T->B (I ⊕ Str)
|.int n=>Y<|.inl n
|.str x=>Y<|.inr x
|_=>J
def lookD (q:I ⊕ Str):U (I ⊕ Str)->U T->B T
|y::b,v::a=>if y=q then Y v else lookD q b a
|_,_=>J
noncomputable def ixN (n:O)(i:I):B O:=if 0<=i then(if i<n then Y i.toNat else J) else if -(n:I)<=i then Y (i+n).toNat else J
def atI {b:Type}(a:U b)(i:I):B b:=(ixN a.length i).bind λj=>a[j]?
noncomputable def sIx (n d:O):B I->O
|none=>d
|some i=>if i<0 then(i+n).toNat else min i.toNat n
def cut {b:Type}(a:U b)(lo c:B I):U b:=(a.drop<|sIx a.length 0 lo).take<|sIx a.length a.length c-sIx a.length 0 lo
noncomputable def T.ty:T->Jm
|.non=>"NoneType" |.bl _=>"bool" |.int _=>"int" |.str _=>"str" |.tup _=>"tuple" |.lst _=>"list" |.dct ..=>"dict" |.ins ..=>"object" |.obj ..=>"object" |.dtt ..=>"dict" |.scr _=>"list" |.gone=>"gone"
def isOne (c:Jm)(t:T):IZ:=t.ty==c || (t.ty=="bool"&&c=="int")
noncomputable def kD:U T->B (U I)
|[]=>Y []
|.int i::a=>(kD a).map (i::·)
|_::_=>J
noncomputable def ee:U T->B (U IZ)
|[]=>Y []
|.bl b::a=>(ee a).map (b::·)
|_::_=>J
def dP:W->B (U T)
|(_,.tup a)=>Y a
|(_,.lst a)=>Y a
|_=>J
def pW:T->IZ
|.non | .bl _ | .int _ | .str _=>DY
|_=>DX
def BJ (c:O):O:=if 65<=c/\c<=90 then c+32 else c
noncomputable def AJ (x:I):U I->U I
|[]=>[x]
|y::a=>if x<=y then x::y::a else y::AJ x a
def vt:U I->U I
|[]=>[]
|x::a=>AJ x<|vt a
noncomputable def qe:U T->B (U Str)
|[]=>Y []
|.str x::a=>(qe a).map (x::·)
|_::_=>J
noncomputable def spl (c:O):U O->U O->U (U O)
|a,[]=>[a]
|a,x::b=>if x=c then a::spl c [] b else spl c (a++[x]) b
def Bl (x:Str):U Str:=(spl 32 [] x.cps.toList).map λl=>⟨l.toArray⟩
def DE (i:I):Str:=Str.ofString<|toString i
def newL (h:IZ)(m:Md)(a:U T):B W:=if h then(if leaves a then Y (.d,.lst a) else J) else Y (m.up,.lst a)
def fits (n:O):IZ:=decide (n<=LIM)
mutual
def rOk:T->IZ
|.non | .bl _=>DY
|.int i=>decide (i.natAbs<10000000000000000000)
|.str x=>decide ((Ig x).length<=100)&&sOk (Ig x)
|.tup ts=>yK ts
|.lst ts=>yK ts
|_=>DX
def yK:U T->IZ
|[]=>DY
|t::ts=>rOk t&&yK ts
end
mutual
def szR:T->O
|.tup ts=>yU ts+4
|.lst ts=>yU ts+4
|_=>100
def yU:U T->O
|[]=>0
|t::ts=>szR t+2+yU ts
end
def qT:O->Md->T->IZ
|0,_,.int n=>decide (n.natAbs.log2<1920)
|1,.s,.tup a=>decide (dp (.tup a)<=64)&&rOk (.tup a)&&decide (szR (.tup a)<=1000000)
|2,_,.str _=>DY
|_,_,_=>DX
def lfM (t:T):Md:=if t.leaf=DY then .d else .s
noncomputable def lookF (f:Str):U Str->U T->B T
|g::a,t::b=>if(g==f)=DY then Y t else lookF f a b
|_,_=>J
mutual
def spo:T->T
|.lst ts=>.lst<|spos ts++[.int 7]
|.tup ts=>.tup<|spos ts
|t=>t
def spos:U T->U T
|[]=>[]
|t::ts=>spo t::spos ts
end
mutual
def szS:T->IZ
|.lst ts=>decide (ts.length<LIM)&&szSs ts
|.tup ts=>decide (ts.length<LIM)&&szSs ts
|_=>DY
def szSs:U T->IZ
|[]=>DY
|t::ts=>szS t&&szSs ts
end
noncomputable def partAt:U O->T->B T
|[],t=>Y t
|j::p,.lst a=>(a[j]?).bind<|partAt p
|j::p,.tup a=>(a[j]?).bind<|partAt p
|_::_,_=>J
noncomputable def setAt (u:T):U O->T->B T
|[],_=>Y u
|j::p,.lst a=>(a[j]?).bind λt=>(setAt u p t).map λv=>.lst<|a.set j v
|j::p,.tup a=>(a[j]?).bind λt=>(setAt u p t).map λv=>.tup<|a.set j v
|_::_,_=>J
def oSem:Op->IZ->U W->B W
|.add,h,[(m,a),(n,b)]=>match a,b with
 |.int i,.int j=>Y (.d,.int<|i+j)
 |.str x,.str y=>if fits (x.cps.size+y.cps.size) then Y (.d,.str<|x++y) else J
 |.lst e,.lst l=>if fits (e.length+l.length) then newL h (m.kid.meet n.kid) (e++l) else J
 |.tup e,.tup l=>if fits (e.length+l.length)&&!e.isEmpty then Y (.s,.tup<|e++l) else J
 |_,_=>J
|.sub,_,[(_,.int i),(_,.int j)]=>Y (.d,.int<|i-j)
|.fdiv,_,[(_,.int i),(_,.int j)]=>if decide (0<j)&&decide (j<1073741824) then Y (.d,.int<|i / j) else J
|.mod,_,[(_,.int i),(_,.int j)]=>if decide (0<j) then Y (.d,.int<|i % j) else J
|.eq,_,[(_,a),(_,b)]=>if decide (dp a<=64)&&decide (dp b<=64) then Y (.d,.bl<|eqT a b) else J
|.ne,_,[(_,a),(_,b)]=>if decide (dp a<=64)&&decide (dp b<=64) then Y (.d,.bl<|!eqT a b) else J
|.lt,_,[(_,.int i),(_,.int j)]=>Y (.d,.bl<|decide (i<j))
|.le,_,[(_,.int i),(_,.int j)]=>Y (.d,.bl<|decide (i<=j))
|.gt,_,[(_,.int i),(_,.int j)]=>Y (.d,.bl<|decide (j<i))
|.is,_,[(_,a),(_,.non)]=>if a.isG then J else Y (.d,.bl a.isN)
|.isnot,_,[(_,a),(_,.non)]=>if a.isG then J else Y (.d,.bl<|!a.isN)
|.ix,_,[(m,a),(_,.int i)]=>match a with
 |.lst e=>(atI e i).map λt=>(m.kid,t)
 |.tup e=>(atI e i).map λt=>(m.kid,t)
 |.str x=>(atI x.cps.toList i).map λc=>(.d,.str ⟨#[c]⟩)
 |.scr f=>(atI f i).map λn=>(.d,.int n)
 |_=>J
|.sl,h,[(m,.lst e)]=>newL h m.kid e
|.sl1,h,[(m,.lst e),(_,.int i)]=>newL h m.kid<|cut e (Y i) J
|.sl1,_,[(_,.scr f),(_,.int i)]=>Y (.d,.lst<|(cut f (Y i) J).map T.int)
|.sl,_,[(_,.scr f)]=>Y (.d,.lst<|f.map T.int)
|.sl1,_,[(_,.tup e),(_,.int i)]=>Y (.s,.tup<|cut e (Y i) J)
|.len,_,[(_,a)]=>match a with
 |.lst e=>Y (.d,.int e.length)
 |.tup e=>Y (.d,.int e.length)
 |.str x=>Y (.d,.int x.cps.size)
 |.scr f=>Y (.d,.int f.length)
 |_=>J
|.attP fld,_,[(_,.obj _ fs p)]=>(lookF fld fs p).map λt=>(lfM t,t)
|.mkP c fs cs,_,v=>if decide (fs.length=v.length+cs.length)=DY then Y (.o .s,.obj c fs<|(v.map λw=>w.2)++cs.map T.int) else J
|.att fld,_,[(_,.ins _ [g] [t])]=>if(g==fld)=DY then Y (lfM t,t) else J
|.mk c fld A,_,[(m,t)]=>if qT A m t=DY then Y (.s,.ins c [fld] [t]) else J
|.isI cs,_,[(_,a)]=>if a.isH then J else Y (.d,.bl<|cs.any λc=>isOne c a)
|.list,h,[(m,a)]=>match a with
 |.lst e=>newL h m.kid e
 |.tup e=>newL h m.kid e
 |.scr f=>Y (.d,.lst<|f.map T.int)
 |_=>J
|.tuple,_,[(m,a)]=>match a with
 |.lst e=>Y (m.kid.up,.tup e)
 |.tup e=>Y (m,.tup e)
 |_=>J
|.sum,_,[(_,.lst e)]=>(kD e).map λf=>(.d,.int f.sum)
|.all,_,[(_,.lst e)]=>(ee e).map λbs=>(.d,.bl<|bs.all id)
|.any,_,[(_,.lst e)]=>(ee e).map λbs=>(.d,.bl<|bs.any id)
|.max,_,[(_,.int i),(_,.int j)]=>Y (.d,.int<|if j>i then j else i)
|.min,_,[(_,.int i),(_,.int j)]=>Y (.d,.int<|if j<i then j else i)
|.rng,_,[(_,.int i),(_,.int j)]=>if decide (i.natAbs<4611686018427387904)&&decide (j.natAbs<4611686018427387904)&&fits (j-i).toNat then Y (.d,.lst<|(Eb (j-i).toNat).map λ(k:O)=>T.int<|i+k) else J
|.notin,_,[(_,a),(n,b)]=>(dP (n,b)).bind λe=>if pW a&&e.all pW then Y (.d,.bl<|!e.any λt=>eqT t a) else J
|.int,_,[(_,.int i)]=>Y (.d,.int i)
|.int,_,[(_,.bl b)]=>Y (.d,.int<|b2i b)
|.abs,_,[(_,.int i)]=>Y (.d,.int i.natAbs)
|.sorted,_,[(_,.lst e)]=>(kD e).bind λf=>if decide (f.length<64) then Y (.d,.lst<|(vt f).map T.int) else J
|.str,_,[(_,.int i)]=>if decide (i.natAbs<10000000000000000000) then Y (.d,.str<|DE i) else J
|.join,_,[(_,.str z),(_,.lst e)]=>(qe e).bind λu=>if sOk (Str.join z u)&&decide ((u.map λs=>s.cps.size+z.cps.size).sum<=LIM) then Y (.d,.str<|Str.join z u) else J
|.split,_,[(_,.str z),(_,.str y)]=>if(y==Str.ofString " ")&&decide (z.cps.size+2<=LIM)&&(Bl z).all sOk then Y (.d,.lst<|(Bl z).map T.str) else J
|.count,_,[(_,.lst e),(_,.bl b)]=>(ee e).map λbs=>(.d,.int<|bs.count b)
|.lower,_,[(_,.str x)]=>if x.cps.toList.all (λc=>decide (c<128)) then Y (.d,.str ⟨x.cps.map BJ⟩) else J
|.catT,_,[(_,.tup e),(_,.tup l)]=>if fits (e.length+l.length) then Y (.s,.tup<|e++l) else J
|.dnew,_,[]=>Y (.d,.dct [] [])
|.ixD,_,[(.s,.dct r p),(_,k)]=>(keyT k).bind λq=>(lookD q r p).map λt=>(.s,t)
|.dcpy,_,[(.s,.dct r p)]=>Y (.o .s,.dct r p)
|_,_,_=>J
noncomputable def rd:Env->O->B W
|[],_=>J
|o::_,0=>o
|_::a,i+1=>rd a i
noncomputable def wr:Env->O->B W->Env
|[],_,_=>[]
|_::a,0,w=>w::a
|o::a,i+1,w=>o::wr a i w
abbrev put (a:Env)(i:O)(w:W):Env:=wr a i<|Y w
abbrev del (a:Env)(i:O):Env:=wr a i J
def look:W->B W
|(.s,t)=>Y (.s,t)
|(_,t)=>if t.leaf=DY then Y (.d,t) else J
def toS:B W->B W
|some (_,t)=>Y (.s,t)
|none=>J
def share:U O->Env->Env
|[],a=>a
|i::b,a=>share b<|wr a i<|toS<|rd a i
def lfO:B W->B W
|some (_,t)=>if t.leaf=DY then Y (.d,t) else J
|none=>J
def eN:Env->Env
|[]=>[]
|_::a=>none::eN a
def jK:U O->Env->Env->Env
|[],_,b=>b
|i::c,a,b=>jK c a<|wr b i<|toS<|rd a i
def eX:U O->Env->Env->Env
|[],_,b=>b
|i::c,a,b=>eX c a<|wr b i<|lfO<|rd a i
def pick (c b:U O)(a:Env):Env:=eX b a<|jK c a<|eN a
def after (m:Md)(b:U O)(a:Env):Env:=match m with
|.d=>a
|_=>share b a
def aR:U O->U W->Env->B Env
|[],[],a=>Y a
|i::b,w::c,a=>aR b c<|put a i w
|_,_,_=>J
noncomputable def bT (m:Md):O->U T->U (U W)
|_,[]=>[]
|i,t::a=>[(.d,.int i),(m,t)]::bT m (i+1) a
noncomputable def fT (m n:Md):U T->U T->U (U W)
|t::a,u::b=>[(m,t),(n,u)]::fT m n a b
|_,_=>[]
noncomputable def nO:U T->U T->U T->U (U W)
|t::a,u::b,v::c=>[(.s,t),(.s,u),(.s,v)]::nO a b c
|_,_,_=>[]
def turns:Ik->U W->B (U<|U W)
|.seq,[(_,.lst e)]=>Y<|e.map λt=>[(.s,t)]
|.seq,[(_,.tup e)]=>Y<|e.map λt=>[(.s,t)]
|.seq,[(_,.scr g)]=>Y<|g.map λn=>[(.d,.int n)]
|.rng,[(_,.int n)]=>if decide (n.natAbs<4611686018427387904)&&fits n.toNat then Y ((Eb n.toNat).map λ(k:O)=>[(.d,.int k)]) else J
|.rng,[(_,.int i),(_,.int j)]=>if decide (i.natAbs<4611686018427387904)&&decide (j.natAbs<4611686018427387904)&&fits (j-i).toNat then Y ((Eb (j-i).toNat).map λ(k:O)=>[(.d,.int<|i+k)]) else J
|.rng,[(_,.int i),(_,.int j),(_,.int c)]=>if decide (i.natAbs<4611686018427387904)&&decide (j.natAbs<4611686018427387904)&&decide (c=-1)&&fits (i-j).toNat then Y ((Eb (i-j).toNat).map λ(k:O)=>[(.d,.int<|i-k)]) else J
|.enm,[(_,.lst e)]=>Y<|bT .s 0 e
|.enmT,[(_,.tup e)]=>Y<|bT .s 0 e
|.zip,[(m,a),(n,b)]=>(dP (m,a)).bind λe=>(dP (n,b)).bind λf=>Y<|fT .s .s e f
|.zip3,[(_,.lst e),(_,.lst f),(_,.lst h)]=>Y<|nO e f h
|_,_=>J
abbrev Call:=O->U W->Res (W×U W)
abbrev RE:=Res<|W×Env
def lf (m:Md)(t:T):Md:=if t.leaf=DY then .d else m
def fJ:U W->Md
|[]=>.d
|w::a=>(lf w.1 w.2).meet<|fJ a
def trees:U W->U T
|[]=>[]
|w::a=>w.2::trees a
def aj:U O->Env->Env
|[],a=>a
|i::b,a=>aj b<|del a i
def ios:U E->U O
|[]=>[]
|.io i::a=>i::ios a
|_::a=>ios a
def putAll:U O->U W->Env->Env
|i::b,w::c,a=>putAll b c<|put a i w
|_,_,a=>a
def fO:W->W->B W
|(.s,_),_=>J
|(m,.lst a),(n,t)=>if a.length<LIM then Y ((m.kid.meet<|lf n t).up,.lst<|a++[t]) else J
|_,_=>J
def wq:W->W->B W
|(.s,_),_=>J
|(m,.lst a),(n,.lst b)=>if a.length+b.length<=LIM then Y ((m.kid.meet n.kid).up,.lst<|a++b) else J
|_,_=>J
noncomputable def aQ (k:I ⊕ Str)(t:T):U (I ⊕ Str)->U T->U (I ⊕ Str)×U T
|[],_=>([k],[t])
|y::a,v::b=>if y=k then(y::a,t::b) else((y::(aQ k t a b).1),(v::(aQ k t a b).2))
|y::a,[]=>(y::a,[])
def AO:W->W->W->B W
|(.s,_),_,_=>J
|(m,.dct a b),(_,k),(_,t)=>(keyT k).bind λq=>if decide (a.length<LIM)&&pW t then Y (m,.dct (aQ q t a b).1 (aQ q t a b).2) else J
|_,_,_=>J
def cz:W->W->W->B W
|(.s,_),_,_=>J
|(m,.dct a b),(_,k),(_,t)=>(keyT k).bind λq=>if decide (a.length<LIM) then Y (.o .s,.dct (aQ q t a b).1 (aQ q t a b).2) else J
|_,_,_=>J
def dG:W->W->W->B W
|(.s,_),_,_=>J
|(m,.lst a),(_,.int j),(n,t)=>(ixN a.length j).map λk=>((m.kid.meet<|lf n t).up,.lst<|a.set k t)
|_,_,_=>J
def j7:B W->Res Unit
|some (_,.lst _)=>.ok ()
|_=>.no
def yM:W->B (U W)
|(m,.tup a)=>Y<|a.map λt=>(m.kid,t)
|_=>J
def ret {b:Type}(c:Env)(o:B b):Res (b×Env):=match o with
|some a=>.ok (a,c)
|none=>.no
def onB {a:Type}:T->(Env->Res a)->(Env->Res a)->Env->Res a
|.bl DY,f,_,b=>f b
|.bl DX,_,g,b=>g b
|_,_,_,_=>.no
def onT {a:Type}(f g:Env->Res a)(p:W×Env):Res a:=match truth p.1.2 with
|some DY=>f p.2
|some DX=>g p.2
|none=>.no
def okW {b:Type}(a:b)(c:Env):Res (b×Env):=.ok (a,c)
def oq (p:U W×Env):RE:=.ok (((fJ p.1).up,.tup<|trees p.1),p.2)
def qX (h:IZ)(p:U W×Env):RE:=.ok ((if h then(fJ p.1).up else .o .s,.lst<|trees p.1),p.2)
def kOp (o:Op)(h:IZ)(p:U W×Env):RE:=ret p.2<|oSem o h p.1
def qu (f:Env->RE)(p:W×Env):RE:=onT f (okW p.1) p
def kOr (f:Env->RE)(p:W×Env):RE:=onT (okW p.1) f p
def CY (p:W×Env):RE:=ret p.2<|(truth p.1.2).map λb=>(.d,.bl<|!b)
def kC3 (q:Op)(y:W)(z:W×Env):RE:=ret z.2<|oSem q DX [y,z.1]
def then' {a b:Type}(f:Env->Res (a×Env))(k:a×Env->Res b)(c:Env):Res b:=(f c).bind k
def kC2 (o q:Op)(a:Env->RE)(x:W)(y:W×Env):RE:=(ret y.2<|oSem o DX [x,y.1]).bind λk=>onB k.1.2 (then' a<|kC3 q y.1) (okW (.d,.bl DX)) k.2
def kC1 (o q:Op)(a b:Env->RE)(x:W×Env):RE:=(a x.2).bind<|kC2 o q b x.1
def iP (a:U O)(b:Env)(r:W×U W):RE:=.ok (r.1,putAll a r.2 b)
def eI (C:Call)(f:O)(a:U O)(p:U W×Env):RE:=(C f p.1).bind<|iP a p.2
noncomputable def gf (p:W×Env):Res (B W×Env):=.ok (Y p.1,p.2)
def dW (f:Env->RE)(a:Env):Res (B W×Env):=(f a).bind gf
def nu (c f:Env->RE)(a:Env):Res (B W×Env):=(c a).bind<|onT (dW f)<|okW J
def aP (b:U O)(f:Env->Res (B W×Env)):U (U W)->Env->U W->Res (U W×Env)
|[],c,a=>.ok (a,c)
|e::r,c,a=>(ofO<|aR b e c).bind λd=>(f d).bind λp=>aP b f r (aj b p.2)<|a++p.1.toList
def okD (w:W):IZ:=w.1==.d || w.2.leaf
def jq (h:IZ)(q:U W×Env):RE:=ret q.2<|if h then(if q.1.all okD then Y (.d,.lst<|trees q.1) else J) else Y (.o .s,.lst<|trees q.1)
def dj (h:IZ)(k:Ik)(a:U O)(f:Env->Res (B W×Env))(p:U W×Env):RE:=(ret (aj a p.2)<|turns k p.1).bind λt=>(aP a f t.1 t.2 []).bind<|jq h
def lM (w:W)(q:U W×Env):Res (U W×Env):=.ok (w::q.1,q.2)
def aY (f:Env->Res (U W×Env))(p:W×Env):Res (U W×Env):=(f p.2).bind<|lM p.1
def kTab {b:Type}(tab:U<|Str×b)(f:b->Env->RE)(p:W×Env):RE:=match p.1.2 with
|.str x=>match tab.lookup x with
 |some a=>f a p.2
 |none=>.no
|_=>.no
def kCT (C:Call)(a:Env->Res (U W×Env))(b:U O)(j:O)(c:Env):RE:=(a c).bind<|eI C j b
def kIn (a:IZ)(b:U Str)(p:W×Env):RE:=match p.1.2 with
|.str x=>.ok ((.d,.bl<|b.contains x != a),p.2)
|_=>.no
def kX (a:U O)(b:Env)(p:W×Env):RE:=.ok ((lf p.1.1 p.1.2,p.1.2),after (lf p.1.1 p.1.2) a b)
def kIo (i:O)(p:U W×Env):Res (U W×Env):=(ofO<|rd p.2 i).bind λw=>.ok (w::p.1,del p.2 i)
section
variable (C:Call)
mutual
def evE:E->Env->RE
|.var i,η=>ret η<|(rd η i).bind look
|.mv i,η=>ret (del η i)<|rd η i
|.io i,η=>ret (del η i)<|rd η i
|.cst t,η=>.ok ((.d,t),η)
|.tup es,η=>(evL es η).bind oq
|.lst h es,η=>(evL es η).bind<|qX h
|.op o h es,η=>(evL es η).bind<|kOp o h
|.and a b,η=>(evE a η).bind<|qu<|evE b
|.or a b,η=>(evE a η).bind<|kOr<|evE b
|.ifx c a b,η=>(evE c η).bind<|onT (evE a)<|evE b
|.chain o q a b c,η=>(evE a η).bind<|kC1 o q (evE b)<|evE c
|.call f es,η=>(evA es η).bind<|eI C f<|ios es
|.comp h k src tg J elt,η=>(evL src η).bind<|dj h k tg<|dW<|evE elt
|.comp h k src tg (Y c) elt,η=>(evL src η).bind<|dj h k tg<|nu (evE c)<|evE elt
|.callT tab k es,η=>(evE k η).bind<|kTab tab<|kCT C (evA es)<|ios es
|.inT neg ks e,η=>(evE e η).bind<|kIn neg ks
def evL:U E->Env->Res (U W×Env)
|[],η=>.ok ([],η)
|e::es,η=>(evE e η).bind<|aY<|evL es
def evA:U E->Env->Res (U W×Env)
|[],η=>.ok ([],η)
|.io i::es,η=>(evA es η).bind<|kIo i
|e::es,η=>(evE e η).bind<|aY<|evA es
end
def kT (a:Env)(p:W×Env):Res (IZ×Env):=ret a<|truth p.1.2
def kT2 (p:W×Env):Res (IZ×Env):=ret p.2<|truth p.1.2
def evX:X->E->Env->RE
|.q a c,e,b=>(evE C e<|pick a c b).bind<|kX a b
|.l a,e,b=>evE C e<|share a b
def evT:X->E->Env->Res (IZ×Env)
|.q b c,e,a=>(evE C e<|pick b c a).bind<|kT a
|.l b,e,a=>(evE C e<|share b a).bind kT2
def Fl.of {b:Type}(c:Env):Res b->(b->Fl)->Fl
|.ok a,f=>f a
|.ex _,_=>.no
|.no,_=>.no
noncomputable def Fl.seq:Fl->(Env->Fl)->Fl
|.nx a,f=>f a
|z,_=>z
noncomputable def Fl.turn:Fl->(Env->Fl)->Fl
|.nx a,f=>f a
|.bk a,_=>.nx a
|z,_=>z
noncomputable def onF:IZ->(Env->Fl)->(Env->Fl)->Env->Fl
|true,f,_,a=>f a
|false,_,g,a=>g a
def cS (c:U O)(f:Env->Fl):U (U W)->Env->Fl
|[],a=>.nx a
|d::r,a=>Fl.of a (ofO<|aR c d a) λb=>Fl.turn (f b)<|cS c f r
def kIf (f g:Env->Fl)(p:IZ×Env):Fl:=onF p.1 f g p.2
def Co (f:Env->Fl)(g:Env->Fl)(a:Env):Fl:=Fl.turn (f a) g
def nxO (a:Env):B Env->Fl
|some a=>.nx a
|none=>.no
def uI (i:O)(p:W×Env):Fl:=.nx<|put p.2 i p.1
def lR (a:U O)(p:W×Env):Fl:=nxO p.2<|(yM p.1).bind λb=>aR a b p.2
def pX (i:O)(p:W×Env):Fl:=nxO p.2<|((rd p.2 i).bind λw=>fO w p.1).map λw=>put p.2 i w
def wU (i:O)(p:W×Env):Fl:=nxO p.2<|((rd p.2 i).bind λw=>wq w p.1).map λw=>put p.2 i w
def vT (i:O)(x:W)(q:W×Env):Fl:=nxO q.2<|((rd q.2 i).bind λw=>dG w q.1 x).map λw=>put q.2 i w
def pd (i:O)(x:W)(q:W×Env):Fl:=nxO q.2<|((rd q.2 i).bind λw=>AO w q.1 x).map λw=>put q.2 i w
def BY (i:O)(f:Env->RE)(a:Env)(p:W×Env):Fl:=Fl.of a (f p.2)<|pd i p.1
def kQ2b (a:Env)(i j:O)(p:W×Env):Fl:=if lf p.1.1 p.1.2=.d then .nx (put (del a i) j (.d,p.1.2)) else .no
def kQ2 (a:Env)(i j:O)(f:Env->RE)(p:W×Env):Fl:=Fl.of a (f<|put p.2 i p.1)<|kQ2b a i j
def kSpo2 (i:O)(p:U O)(t:T)(a:Env):Res (W×U W)->Fl
|.ok (_,[(.d,u)])=>nxO a<|(setAt u p t).map λb=>put a i (.d,b)
|_=>.no
def kSpo (C:Call)(g i:O)(p:U O)(a:Env):B W->Fl
|some (.d,t)=>(match partAt p t with
 |some u=>kSpo2 i p t a<|C g [(.d,u)]
 |none=>.no)
|_=>.no
def kf (i:O)(x:W)(q:W×Env):Fl:=nxO q.2<|((rd q.2 i).bind λw=>cz w q.1 x).map λw=>put q.2 i w
def lH (i:O)(f:Env->RE)(a:Env)(p:W×Env):Fl:=Fl.of a (f p.2)<|kf i p.1
def CM (i:O)(f:Env->RE)(a:Env)(p:W×Env):Fl:=Fl.of a (f p.2)<|vT i p.1
noncomputable def mC (f:Env->RE)(a:Env)(k:W×Env->Fl)(_:Unit):Fl:=Fl.of a (f a) k
def kNx (p:W×Env):Fl:=.nx p.2
def kRt (p:W×Env):Fl:=.rt p.1 p.2
def kN (a:U O)(f:Env->Fl)(t:U (U W)×Env):Fl:=cS a f t.1 t.2
def qg (c:U O)(k:Ik)(b:U O)(f:Env->Fl)(a:Env)(p:U W×Env):Fl:=Fl.of a (ret (share c a)<|turns k p.1)<|kN b f
def vk (k:W->Env->Fl)(a:Env):Res (W×U W)->Fl
|.ok (w,[])=>k w a
|.ex t=>.ex t a
|_=>.no
def kC (f:O)(k:W->Env->Fl)(p:U W×Env):Fl:=vk k p.2<|C f p.1
def Bm (i:O)(w:W)(a:Env):Fl:=.nx<|put a i w
def BH (_:W)(a:Env):Fl:=.nx a
def j4 (c:O)(fld:Str)(a:O)(p:W×Env):Fl:=if qT a p.1.1 p.1.2=DY then .ex (.ins c [fld] [p.1.2]) p.2 else .no
def Fl.drop (i:O):Fl->Fl
|.nx a=>.nx<|del a i
|.rt w a=>.rt w<|del a i
|_=>.no
def Fl.caught (cs:U O)(i:O)(h:Env->Fl):Fl->Fl
|.ex (.ins c fs a) b=>if cs.contains c=DY then Fl.drop i (h<|put b i (.s,.ins c fs a)) else .no
|.ex _ _=>.no
|z=>z
mutual
def evS:S->Env->Fl
|.asg x i e,η=>Fl.of η (evX C x e η)<|uI i
|.asgT x is e,η=>Fl.of η (evX C x e η)<|lR is
|.setS x i k e,η=>Fl.of η (evX C x e η)<|lH i (evX C x k) η
|.asgQ2 vs ls i a j b,η=>Fl.of η (evE C a<|pick vs ls η)<|kQ2 η i j<|evE C b
|.spoP g i p,η=>kSpo C g i p η<|rd η i
|.exp x e,η=>Fl.of η (evX C x e η) kNx
|.app x i e,η=>Fl.of η (j7<|rd η i)<|mC (evX C x e) η<|pX i
|.ext x i e,η=>Fl.of η (j7<|rd η i)<|mC (evX C x e) η<|wU i
|.ret vs e,η=>Fl.of η (evE C e<|share vs η) kRt
|.ite x c a b,η=>Fl.of η (evT C x c η)<|kIf (evSs a)<|evSs b
|.forS vs ls k src tg body,η=>Fl.of η (evL C src<|pick vs ls η)<|qg vs k tg (evSs body) η
|.brk,η=>.bk η
|.pas,η=>.nx η
|.stop,_=>.no
|.tri body,η=>evSs body η
|.raise c fld fk x e,η=>Fl.of η (evX C x e η)<|j4 c fld fk
def evSs:U S->Env->Fl
|[],η=>.nx η
|s::r,η=>Fl.seq (evS s η)<|evSs r
end
end
def backs:U O->Env->B (U W)
|[],_=>Y []
|i::b,a=>(rd a i).bind λw=>(backs b a).bind λc=>Y (w::c)
def nJ (w:W)(b:U W):Res (W×U W):=.ok (w,b)
def Fl.out (b:U O):Fl->Res (W×U W)
|.nx a=>(ofO<|backs b a).bind<|nJ (.d,.non)
|.rt w a=>(ofO<|backs b a).bind<|nJ w
|.ex t _=>.ex t
|_=>.no
def runF (C:Call)(f:Fn)(a:U W):Res (W×U W):=
 if a.length=f.ps then Fl.out f.io (evSs C f.body<|a.map Y++Eu f.ns J) else .no
abbrev Dd:=U Fn
def av:U O->U T->U T
|[],_=>[]
|n::b,a=>.lst (a.take n)::av b (a.drop n)
def spoV (n:O):U W->Res (W×U W)
|[(m,t)]=>if((lf m t==.d)&&(decide (dp t<=n)&&decide (dp t<=64)&&szS t))=DY then .ok ((.d,.gone),[(.d,spo t)]) else .no
|_=>.no
def callV (P:Dd)(s _r:O):O->Call
|0=>λ_ _=>.no
|n+1=>λf a=>if f=s then spoV n a else(ofO P[f]?).bind λd=>runF (callV P s _r n) d a
abbrev zf:Fn:={ps:=0,ns:=0,io:=[],body:=[.stop]}
theorem yg (C:Call)(i:O)(a:Env):evE C (.var i) a=ret a ((rd a i).bind look):=rfl
theorem zS (C:Call)(i:O)(a:Env):evE C (.mv i) a=ret (del a i) (rd a i):=rfl
theorem ye (C:Call)(i:O)(a:Env):evE C (.io i) a=ret (del a i) (rd a i):=rfl
theorem yb (C:Call)(t:T)(a:Env):evE C (.cst t) a=.ok ((.d,t),a):=rfl
theorem zx (C:Call)(a:U E)(b:Env):evE C (.tup a) b=(evL C a b).bind oq:=rfl
theorem zO (C:Call)(h:IZ)(a:U E)(b:Env):evE C (.lst h a) b=(evL C a b).bind (qX h):=rfl
theorem wK (C:Call)(o:Op)(h:IZ)(a:U E)(b:Env):evE C (.op o h a) b=(evL C a b).bind (kOp o h):=rfl
theorem sG (C:Call)(a:E)(b:E)(c:Env):evE C (.and a b) c=(evE C a c).bind (qu<|evE C b):=rfl
theorem rJ (C:Call)(a:E)(b:E)(c:Env):evE C (.or a b) c=(evE C a c).bind (kOr<|evE C b):=rfl
theorem sX (C:Call)(c:E)(a:E)(b:E)(d:Env):evE C (.ifx c a b) d=(evE C c d).bind (onT (evE C a)<|evE C b):=rfl
theorem tY (C:Call)(o:Op)(q:Op)(a:E)(b:E)(c:E)(d:Env):evE C (.chain o q a b c) d=(evE C a d).bind (kC1 o q (evE C b)<|evE C c):=rfl
theorem tQ (C:Call)(f:O)(a:U E)(b:Env):evE C (.call f a) b=(evA C a b).bind (eI C f<|ios a):=rfl
theorem rF (C:Call)(h:IZ)(k:Ik)(b:U E)(c:U O)(a:E)(d:Env):evE C (.comp h k b c J a) d=(evL C b d).bind (dj h k c<|dW<|evE C a):=rfl
theorem rH (C:Call)(h:IZ)(k:Ik)(b:U E)(d:U O)(c:E)(a:E)(e:Env):evE C (.comp h k b d (Y c) a) e=(evL C b e).bind (dj h k d<|nu (evE C c)<|evE C a):=rfl
theorem je (C:Call)(tab:U<|Str×O)(k:E)(a:U E)(b:Env):evE C (.callT tab k a) b=(evE C k b).bind (kTab tab<|kCT C (evA C a)<|ios a):=rfl
theorem l8 (C:Call)(a:IZ)(b:U Str)(e:E)(c:Env):evE C (.inT a b e) c=(evE C e c).bind (kIn a b):=rfl
theorem jd (C:Call)(tab:U<|Str×O)(k:E)(l:U E)(a:U E)(b:Env):evA C (.callT tab k l::a) b=(evE C (.callT tab k l) b).bind (aY<|evA C a):=rfl
theorem ml (C:Call)(a:IZ)(c:U Str)(e:E)(b:U E)(d:Env):evA C (.inT a c e::b) d=(evE C (.inT a c e) d).bind (aY<|evA C b):=rfl
theorem zH {b:Type}(tab:U<|Str×b)(f:b->Env->RE)(m:Md)(x:Str)(c:Env):kTab tab f ((m,.str x),c)=(match tab.lookup x with|some a=>f a c | none=>.no):=rfl
theorem zR (h:IZ)(m n:Md)(a:U T)(i:I):oSem .sl1 h [(m,.lst a),(n,.int i)]=newL h m.kid (cut a (Y i) J):=rfl
theorem Bh (m:Md)(a:U T):turns .enm [(m,.lst a)]=Y (bT .s 0 a):=rfl
theorem rq (m n:Md)(a b:U T):turns .zip [(m,.lst a),(n,.lst b)]=Y (fT .s .s a b):=rfl
theorem rm (m n:Md)(a b:U T):turns .zip [(m,.tup a),(n,.tup b)]=Y (fT .s .s a b):=rfl
def lkM:Md->Md
|.s=>.s|_=>.d
theorem DN:lkM .s=.s:=rfl
theorem DQ:lkM .d=.d:=rfl
theorem CV (m:Md):lkM (.o m)=.d:=rfl
theorem Cw (m:Md)(i:I):look (m,.int i)=Y (lkM m,.int i):=by cases m<;>rfl
theorem Cz (m:Md)(b:IZ):look (m,.bl b)=Y (lkM m,.bl b):=by cases m<;>rfl
theorem AI (m:Md)(x:Str):look (m,.str x)=Y (lkM m,.str x):=by cases m<;>rfl
theorem AQ (m:Md):look (m,.non)=Y (lkM m,.non):=by cases m<;>rfl
theorem wy (m n k:Md)(a b c:U T):turns .zip3 [(m,.lst a),(n,.lst b),(k,.lst c)]=Y (nO a b c):=rfl
theorem CF (a:IZ)(b:U Str)(m:Md)(x:Str)(c:Env):kIn a b ((m,.str x),c)=.ok ((.d,.bl<|b.contains x != a),c):=rfl
theorem xC (C:Call)(a:Env):evA C [] a=.ok ([],a):=rfl
theorem x3 (C:Call)(i:O)(a:U E)(b:Env):evA C (.io i::a) b=(evA C a b).bind (kIo i):=rfl
theorem mL (C:Call)(i:O)(a:U E)(b:Env):evA C (.var i::a) b=(evE C (.var i) b).bind (aY<|evA C a):=rfl
theorem oi (C:Call)(i:O)(a:U E)(b:Env):evA C (.mv i::a) b=(evE C (.mv i) b).bind (aY<|evA C a):=rfl
theorem mH (C:Call)(t:T)(a:U E)(b:Env):evA C (.cst t::a) b=(evE C (.cst t) b).bind (aY<|evA C a):=rfl
theorem mq (C:Call)(l:U E)(a:U E)(b:Env):evA C (.tup l::a) b=(evE C (.tup l) b).bind (aY<|evA C a):=rfl
theorem lX (C:Call)(h:IZ)(l:U E)(a:U E)(b:Env):evA C (.lst h l::a) b=(evE C (.lst h l) b).bind (aY<|evA C a):=rfl
theorem oA (C:Call)(o:Op)(h:IZ)(l:U E)(a:U E)(b:Env):evA C (.op o h l::a) b=(evE C (.op o h l) b).bind (aY<|evA C a):=rfl
theorem m5 (C:Call)(a b:E)(c:U E)(d:Env):evA C (.and a b::c) d=(evE C (.and a b) d).bind (aY<|evA C c):=rfl
theorem pZ (C:Call)(a b:E)(c:U E)(d:Env):evA C (.or a b::c) d=(evE C (.or a b) d).bind (aY<|evA C c):=rfl
theorem mj (C:Call)(c a b:E)(d:U E)(e:Env):evA C (.ifx c a b::d) e=(evE C (.ifx c a b) e).bind (aY<|evA C d):=rfl
theorem iR (C:Call)(o p:Op)(a b c:E)(d:U E)(e:Env):evA C (.chain o p a b c::d) e=(evE C (.chain o p a b c) e).bind (aY<|evA C d):=rfl
theorem j5 (C:Call)(f:O)(l:U E)(a:U E)(b:Env):evA C (.call f l::a) b=(evE C (.call f l) b).bind (aY<|evA C a):=rfl
theorem jO (C:Call)(h:IZ)(k:Ik)(c:U E)(e:U O)(a:B E)(b:E)(d:U E)(f:Env):evA C (.comp h k c e a b::d) f=(evE C (.comp h k c e a b) f).bind (aY<|evA C d):=rfl
theorem xr {C:Call}{e:E}{a:U E}{b:Env}(c:∀i,e≠.io i):evA C (e::a) b=(evE C e b).bind (aY<|evA C a):=by
 cases e with
 |io i=>exact Jb rfl (c i)
 |_=>rfl
theorem vi (C:Call)(a:Env):evL C ([]) a=.ok ([],a):=rfl
theorem rQ (C:Call)(e:E)(a:U E)(b:Env):evL C (e::a) b=(evE C e b).bind (aY<|evL C a):=rfl
theorem t7 (C:Call)(x:X)(i:O)(e:E)(a:Env):evS C (.asg x i e) a=Fl.of a (evX C x e a) (uI i):=rfl
theorem su (C:Call)(x:X)(b:U O)(e:E)(a:Env):evS C (.asgT x b e) a=Fl.of a (evX C x e a) (lR b):=rfl
theorem sP (C:Call)(x:X)(e:E)(a:Env):evS C (.exp x e) a=Fl.of a (evX C x e a) kNx:=rfl
theorem uz (C:Call)(x:X)(i:O)(e:E)(a:Env):evS C (.app x i e) a=Fl.of a (j7<|rd a i) (mC (evX C x e) a<|pX i):=rfl
theorem uN (C:Call)(x:X)(i:O)(e:E)(a:Env):evS C (.ext x i e) a=Fl.of a (j7<|rd a i) (mC (evX C x e) a<|wU i):=rfl
theorem u6 (C:Call)(b:U O)(e:E)(a:Env):evS C (.ret b e) a=Fl.of a (evE C e<|share b a) kRt:=rfl
theorem tU (C:Call)(x:X)(c:E)(a:U S)(b:U S)(d:Env):evS C (.ite x c a b) d=Fl.of d (evT C x c d) (kIf (evSs C a)<|evSs C b):=rfl
theorem sE (C:Call)(d:U O)(e:U O)(k:Ik)(b:U E)(f:U O)(a:U S)(c:Env):evS C (.forS d e k b f a) c=Fl.of c (evL C b<|pick d e c) (qg d k f (evSs C a) c):=rfl
theorem rL (C:Call)(a:Env):evS C (.brk) a=.bk a:=rfl
theorem sH (C:Call)(a:Env):evS C (.pas) a=.nx a:=rfl
theorem pb (C:Call)(a:Env):evSs C ([]) a=.nx a:=rfl
theorem iE (C:Call)(s:S)(r:U S)(a:Env):evSs C (s::r) a=Fl.seq (evS C s a) (evSs C r):=rfl
theorem sk (C:Call)(a:U O)(c:U O)(e:E)(b:Env):evX C (.q a c) e b=(evE C e<|pick a c b).bind (kX a b):=rfl
theorem vn (C:Call)(a:U O)(e:E)(b:Env):evX C (.l a) e b=evE C e (share a b):=rfl
theorem tf (C:Call)(c:U O)(b:U O)(e:E)(a:Env):evT C (.q c b) e a=(evE C e<|pick c b a).bind (kT a):=rfl
theorem uh (C:Call)(a:U O)(e:E)(b:Env):evT C (.l a) e b=(evE C e<|share a b).bind kT2:=rfl
theorem xY {b c:Type}(a:b)(f:b->Res c):(Res.ok a).bind f=f a:=rfl
theorem C8 {b:Type}(c:Env)(a:b)(f:b->Fl):Fl.of c (.ok a) f=f a:=rfl
theorem xE (a:Env)(f:Env->Fl):Fl.seq (.nx a) f=f a:=rfl
theorem wX (w:W)(a:Env)(f:Env->Fl):Fl.seq (.rt w a) f=.rt w a:=rfl
theorem yB (a:Env)(f:Env->Fl):Fl.seq (.bk a) f=.bk a:=rfl
theorem ux (a:Env)(f:Env->Fl):Fl.turn (.nx a) f=f a:=rfl
theorem s9 (w:W)(a:Env)(f:Env->Fl):Fl.turn (.rt w a) f=.rt w a:=rfl
theorem tI (a:Env)(f:Env->Fl):Fl.turn (.bk a) f=.nx a:=rfl
theorem zr {b:Type}(f g:Env->Res b)(a:Env):onB (.bl DY) f g a=f a:=rfl
theorem wY {b:Type}(f g:Env->Res b)(a:Env):onB (.bl DX) f g a=g a:=rfl
theorem x9 {c:Type}(f g:Env->Res c)(m:Md)(b:IZ)(a:Env):onT f g ((m,.bl b),a)=onB (.bl b) f g a:=by cases b<;>rfl
theorem yI {b:Type}(f g:Env->Res b)(m:Md)(a:Env):onT f g ((m,.bl DY),a)=f a:=rfl
theorem yT {b:Type}(f g:Env->Res b)(m:Md)(a:Env):onT f g ((m,.bl DX),a)=g a:=rfl
theorem yY (f g:Env->Fl)(a:Env):onF DY f g a=f a:=rfl
theorem wu (f g:Env->Fl)(a:Env):onF DX f g a=g a:=rfl
theorem Cd {b:Type}(a:b):ofO (Y a)=.ok a:=rfl
theorem Bb {c:Type}(b:Env)(a:c):ret b (Y a)=.ok (a,b):=rfl
theorem Ao (o:B W)(a:Env):rd (o::a) 0=o:=rfl
theorem B7 (o:B W)(a:Env)(i:O):rd (o::a) (i+1)=rd a i:=rfl
theorem Bv (o w:B W)(a:Env):wr (o::a) 0 w=w::a:=rfl
theorem AA (o w:B W)(a:Env)(i:O):wr (o::a) (i+1) w=o::wr a i w:=rfl
theorem so (t:T):look (.s,t)=Y (.s,t):=rfl
theorem af (t:T):look (.d,t)=if t.leaf=DY then Y (.d,t) else none:=rfl
theorem ub (m:Md)(i:I):(look (.d,.int i))=Y (.d,.int i):=rfl
theorem sv (m:Md)(b:IZ):(look (.d,.bl b))=Y (.d,.bl b):=rfl
theorem uE (x:Str):(look (.d,.str x))=Y (.d,.str x):=rfl
theorem sA:(look (.d,.non))=Y (.d,.non):=rfl
theorem Ay (m:Md)(t:T):toS (Y (m,t))=Y (.s,t):=rfl
theorem wN:toS J=none:=rfl
theorem nU (a:Env):share [] a=a:=rfl
theorem ph (i:O)(b:U O)(a:Env):share (i::b) a=share b (wr a i<|toS<|rd a i):=rfl
theorem oZ:eN []=[]:=rfl
theorem rj (o:B W)(a:Env):eN (o::a)=none::eN a:=rfl
theorem xZ (c b:U O)(a:Env):pick c b a=eX b a (jK c a<|eN a):=rfl
theorem uk (a b:Env):jK [] a b=b:=rfl
theorem uZ (i:O)(b:U O)(a c:Env):jK (i::b) a c=jK b a (wr c i<|toS<|rd a i):=rfl
theorem pJ (a b:Env):eX [] a b=b:=rfl
theorem n6 (i:O)(b:U O)(a c:Env):eX (i::b) a c=eX b a (wr c i<|lfO<|rd a i):=rfl
theorem Cs (m:Md)(i:I):lfO (Y (m,.int i))=Y (.d,.int i):=rfl
theorem AK (m:Md)(b:IZ):lfO (Y (m,.bl b))=Y (.d,.bl b):=rfl
theorem Cj (m:Md)(x:Str):lfO (Y (m,.str x))=Y (.d,.str x):=rfl
theorem Am (m:Md):lfO (Y (m,.non))=Y (.d,.non):=rfl
theorem qi (b:U O)(a:Env):after .d b a=a:=rfl
theorem oj (a:U O)(b:Env):after .s a b=share a b:=rfl
theorem oQ (m:Md)(a:U O)(b:Env):after (.o m) a b=share a b:=rfl
theorem wz (m:Md)(i:I):lf m (.int i)=.d:=rfl
theorem wW (m:Md)(b:IZ):lf m (.bl b)=.d:=rfl
theorem wm (m:Md)(x:Str):lf m (.str x)=.d:=rfl
theorem yn (m:Md):lf m .non=.d:=rfl
theorem xu (m:Md)(a:U T):lf m (.lst a)=m:=rfl
theorem yP (m:Md)(a:U T):lf m (.tup a)=m:=rfl
theorem zj (t:T):lf .d t=.d:=by unfold lf;split<;>rfl
theorem xN (m:Md):Md.s.le m=true:=by cases m<;>rfl
theorem r6:Md.d.le .d=true:=rfl
theorem uT (m:Md):(Md.o m).le .d=true:=rfl
theorem ro (m n:Md):(Md.o m).le (.o n)=m.le n:=rfl
theorem xl (h:IZ)(m n:Md)(i j:I):oSem .add h [(m,.int i),(n,.int j)]=Y (.d,.int<|i+j):=rfl
theorem qS (h:IZ)(m n:Md)(a b:U T):oSem .add h [(m,.lst a),(n,.lst b)]=if fits (a.length+b.length) then newL h (m.kid.meet n.kid) (a++b) else none:=rfl
theorem qh (h:IZ)(m n:Md)(x y:Str):oSem .add h [(m,.str x),(n,.str y)]=if fits (x.cps.size+y.cps.size) then Y (.d,.str<|x++y) else none:=rfl
theorem ot (h:IZ)(m n:Md)(a b:U T):oSem .add h [(m,.tup a),(n,.tup b)]=if fits (a.length+b.length)&&!a.isEmpty then Y (.s,.tup<|a++b) else none:=rfl
theorem BB (h:IZ)(m n:Md)(i j:I):oSem .sub h [(m,.int i),(n,.int j)]=Y (.d,.int<|i-j):=rfl
theorem rg (h:IZ)(m n:Md)(i j:I):oSem .fdiv h [(m,.int i),(n,.int j)]=if decide (0<j)&&decide (j<1073741824) then Y (.d,.int<|i / j) else none:=rfl
theorem vS (h:IZ)(m n:Md)(i j:I):oSem .mod h [(m,.int i),(n,.int j)]=if decide (0<j) then Y (.d,.int<|i % j) else none:=rfl
theorem zD (h:IZ)(m n:Md)(i j:I):oSem .eq h [(m,.int i),(n,.int j)]=Y (.d,.bl<|i==j):=rfl
theorem xj (h:IZ)(m n:Md)(x y:Str):oSem .eq h [(m,.str x),(n,.str y)]=Y (.d,.bl<|x==y):=rfl
theorem xt (h:IZ)(m n:Md)(a b:IZ):oSem .eq h [(m,.bl a),(n,.bl b)]=Y (.d,.bl<|a==b):=rfl
theorem x6 (h:IZ)(m n:Md)(i j:I):oSem .ne h [(m,.int i),(n,.int j)]=Y (.d,.bl<|!(i==j)):=rfl
theorem wx (h:IZ)(m n:Md)(x y:Str):oSem .ne h [(m,.str x),(n,.str y)]=Y (.d,.bl<|!(x==y)):=rfl
theorem ze (h:IZ)(m n:Md)(a b:IZ):oSem .ne h [(m,.bl a),(n,.bl b)]=Y (.d,.bl<|!(a==b)):=rfl
theorem C1 (h:IZ)(m n:Md)(i j:I):oSem .lt h [(m,.int i),(n,.int j)]=Y (.d,.bl<|decide (i<j)):=rfl
theorem CZ (h:IZ)(m n:Md)(i j:I):oSem .le h [(m,.int i),(n,.int j)]=Y (.d,.bl<|decide (i<=j)):=rfl
theorem Dm (h:IZ)(m n:Md)(i j:I):oSem .gt h [(m,.int i),(n,.int j)]=Y (.d,.bl<|decide (j<i)):=rfl
theorem uw (h:IZ)(m n:Md)(a:T):oSem .isnot h [(m,a),(n,.non)]=if a.isG then J else Y (.d,.bl<|!a.isN):=rfl
theorem AZ (h:IZ)(m n:Md)(a:U T)(i:I):oSem .ix h [(m,.lst a),(n,.int i)]=(atI a i).map λt=>(m.kid,t):=rfl
theorem Ct (h:IZ)(m n:Md)(a:U T)(i:I):oSem .ix h [(m,.tup a),(n,.int i)]=(atI a i).map λt=>(m.kid,t):=rfl
theorem xU (h:IZ)(m:Md)(a:U T):oSem .len h [(m,.lst a)]=Y (.d,.int a.length):=rfl
theorem zX (h:IZ)(m:Md)(a:U T):oSem .len h [(m,.tup a)]=Y (.d,.int a.length):=rfl
theorem yy (h:IZ)(m:Md)(a:U I):oSem .len h [(m,.scr a)]=Y (.d,.int a.length):=rfl
theorem Bn (h:IZ)(m n:Md)(a:U I)(i:I):oSem .ix h [(m,.scr a),(n,.int i)]=(atI a i).map λn=>(.d,.int n):=rfl
theorem zC (m:Md)(a:U I):lf m (.scr a)=.d:=rfl
theorem Bp (m:Md)(a:U I):lfO (Y (m,.scr a))=Y (.d,.scr a):=rfl
theorem uB (a:U I):look (.d,.scr a)=Y (.d,.scr a):=rfl
theorem yN (h:IZ)(m:Md)(x:Str):oSem .len h [(m,.str x)]=Y (.d,.int x.cps.size):=rfl
theorem xo (fld g:Str)(c:O)(h:IZ)(m:Md)(a:U T):oSem (.att fld) h [(m,.ins c [g] [.tup a])]=if(g==fld)=DY then Y (.s,.tup a) else none:=rfl
theorem zt (fld g:Str)(c:O)(h:IZ)(m:Md)(x:Str):oSem (.att fld) h [(m,.ins c [g] [.str x])]=if(g==fld)=DY then Y (.d,.str x) else none:=rfl
theorem C0 (c:O)(fld:Str)(a:O)(h:IZ)(m:Md)(t:T):oSem (.mk c fld a) h [(m,t)]=if qT a m t=DY then Y (.s,.ins c [fld] [t]) else none:=rfl
theorem AD (fld g:Str)(c:O)(h:IZ)(m:Md)(n:I):oSem (.att fld) h [(m,.ins c [g] [.int n])]=if(g==fld)=DY then Y (.d,.int n) else none:=rfl
theorem BZ (cs:U Jm)(h:IZ)(m:Md)(a:T):oSem (.isI cs) h [(m,a)]=if a.isH then J else Y (.d,.bl<|cs.any λc=>isOne c a):=rfl
theorem AV (c:O)(fs:U Str)(a:U T):T.isG (.ins c fs a)=false:=rfl
theorem Cb (c:O)(fs:U Str)(a:U T):T.isN (.ins c fs a)=false:=rfl
theorem AY:T.isH .non=false:=rfl
theorem Dq (b:IZ):T.isH (.bl b)=false:=rfl
theorem Ck (i:I):T.isH (.int i)=false:=rfl
theorem BS (x:Str):T.isH (.str x)=false:=rfl
theorem vX (a:U T):T.isH (.tup a)=false:=rfl
theorem oI (a:U T):T.isH (.lst a)=false:=rfl
theorem Bo (a:U I):T.isH (.scr a)=false:=rfl
theorem Af:T.isG .non=false:=rfl
theorem DC (b:IZ):T.isG (.bl b)=false:=rfl
theorem An (i:I):T.isG (.int i)=false:=rfl
theorem AM (x:Str):T.isG (.str x)=false:=rfl
theorem BU (a:U T):T.isG (.tup a)=false:=rfl
theorem BE (a:U T):T.isG (.lst a)=false:=rfl
theorem Ag (a:U<|I ⊕ Str)(b:U T):T.isG (.dct a b)=false:=rfl
theorem BR (a:U<|I ⊕ Str)(b:U T):T.isN (.dct a b)=false:=rfl
theorem A7 (a:U I):T.isG (.scr a)=false:=rfl
theorem By:T.isN .non=true:=rfl
theorem Dp (b:IZ):T.isN (.bl b)=false:=rfl
theorem B6 (i:I):T.isN (.int i)=false:=rfl
theorem BL (x:Str):T.isN (.str x)=false:=rfl
theorem Bi (a:U T):T.isN (.tup a)=false:=rfl
theorem Ap (a:U T):T.isN (.lst a)=false:=rfl
theorem rD (h:IZ)(m:Md)(x:Str):oSem .lower h [(m,.str x)]=if x.cps.toList.all (λc=>decide (c<128)) then Y (.d,.str ⟨x.cps.map BJ⟩) else none:=rfl
theorem xb (h:IZ)(m n:Md)(a b:U T):oSem .catT h [(m,.tup a),(n,.tup b)]=if fits (a.length+b.length) then Y (.s,.tup<|a++b) else none:=rfl
theorem BA (h:IZ)(n:Md)(a:U<|I ⊕ Str)(b:U T)(k:T):oSem .ixD h [(.s,.dct a b),(n,k)]=(keyT k).bind λq=>(lookD q a b).map λt=>(.s,t):=rfl
theorem zh (h:IZ)(a:U<|I ⊕ Str)(b:U T):oSem .dcpy h [(.s,.dct a b)]=Y (.o .s,.dct a b):=rfl
theorem kn (C:Call)(x:X)(i:O)(k e:E)(a:Env):evS C (.setS x i k e) a=Fl.of a (evX C x e a) (lH i (evX C x k) a):=rfl
theorem zc (h:IZ):oSem .dnew h []=Y (.d,.dct [] []):=rfl
theorem zF (m:Md)(a:U T):turns .enmT [(m,.tup a)]=Y (bT .s 0 a):=rfl
theorem i7 (C:Call)(c:O)(fld:Str)(b:O)(x:X)(e:E)(a:Env):evS C (.raise c fld b x e) a=Fl.of a (evX C x e a) (j4 c fld b):=rfl
theorem C3 (C:Call)(f:O)(k:W->Env->Fl)(a:U W)(b:Env):kC C f k (a,b)=vk k b (C f a):=rfl
theorem zL (k:W->Env->Fl)(a:Env)(w:W):vk k a (.ok (w,[]))=k w a:=rfl
theorem zY (k:W->Env->Fl)(a:Env)(t:T):vk k a (.ex t)=.ex t a:=rfl
theorem tX (i:O)(w:W)(a:Env):Bm i w a=.nx (put a i w):=rfl
theorem uf (w:W)(a:Env):BH w a=.nx a:=rfl
theorem nS (c:O)(fld:Str)(m:Md)(n:I)(a:Env):j4 c fld 0 ((m,.int n),a)=if decide (n.natAbs.log2<1920)=DY then .ex (.ins c [fld] [.int n]) a else .no:=rfl
theorem oK (cs:U O)(i:O)(h:Env->Fl)(c:O)(fs:U Str)(a:U T)(b:Env):Fl.caught cs i h (.ex (.ins c fs a) b)=if cs.contains c=DY then Fl.drop i (h<|put b i (.s,.ins c fs a)) else .no:=rfl
theorem mR (cs:U O)(i:O)(h:Env->Fl)(a:Env):Fl.caught cs i h (.nx a)=.nx a:=rfl
theorem m7 (cs:U O)(i:O)(h:Env->Fl)(w:W)(a:Env):Fl.caught cs i h (.rt w a)=.rt w a:=rfl
theorem zU (i:O)(a:Env):Fl.drop i (.nx a)=.nx (del a i):=rfl
theorem rY (i:O)(w:W)(a:Env):Fl.drop i (.rt w a)=.rt w (del a i):=rfl
theorem iX (C:Call)(e d:U O)(i:O)(a:E)(j:O)(b:E)(c:Env):evS C (.asgQ2 e d i a j b) c=Fl.of c (evE C a<|pick e d c) (kQ2 c i j<|evE C b):=rfl
theorem ku (C:Call)(g i:O)(p:U O)(a:Env):evS C (.spoP g i p) a=kSpo C g i p a (rd a i):=rfl
theorem xR (C:Call)(g i:O)(p:U O)(a:Env)(t:T):kSpo C g i p a (Y (.d,t))=(match partAt p t with|some u=>kSpo2 i p t a (C g [(.d,u)])|none=>.no):=rfl
theorem u7 (i:O)(p:U O)(t u:T)(w:W)(a:Env):kSpo2 i p t a (.ok (w,[(.d,u)]))=nxO a ((setAt u p t).map λb=>put a i (.d,b)):=rfl
theorem xI (fld:Str)(h:IZ)(m:Md)(c:O)(fs:U Str)(a:U T):oSem (.attP fld) h [(m,.obj c fs a)]=(lookF fld fs a).map λt=>(lfM t,t):=rfl
theorem Bw (c:O)(fs:U Str)(cs:U I)(h:IZ)(a:U W):oSem (.mkP c fs cs) h a=if decide (fs.length=a.length+cs.length)=DY then Y (.o .s,.obj c fs<|(a.map λw=>w.2)++cs.map T.int) else none:=by rfl
theorem mZ (C:Call)(a:U S)(b:Env):evS C (.tri a) b=evSs C a b:=rfl
theorem yt (h:IZ)(m:Md)(a:U T):oSem .tuple h [(m,.lst a)]=Y (m.kid.up,.tup a):=rfl
theorem xp (m:Md)(a:U T):newL DY m a=if leaves a then Y (.d,.lst a) else none:=rfl
theorem yp (m:Md)(a:U T):newL DX m a=Y (m.up,.lst a):=rfl
theorem zZ (m:Md)(a:U T):turns .seq [(m,.lst a)]=Y (a.map λt=>[(.s,t)]):=rfl
theorem yo (m:Md)(a:U T):turns .seq [(m,.tup a)]=Y (a.map λt=>[(.s,t)]):=rfl
theorem zJ (m n o:Md)(i j c:I):turns .rng [(m,.int i),(n,.int j),(o,.int c)]=if decide (i.natAbs<4611686018427387904)&&decide (j.natAbs<4611686018427387904)&&decide (c=-1)&&fits (i-j).toNat then Y ((Eb (i-j).toNat).map λ(k:O)=>[(.d,.int<|i-k)]) else none:=rfl
theorem qN (m:Md)(n:I):turns .rng [(m,.int n)]=if decide (n.natAbs<4611686018427387904)&&fits n.toNat then Y ((Eb n.toNat).map λ(k:O)=>[(.d,.int k)]) else none:=rfl
theorem pe (a:Env):aR [] [] a=Y a:=rfl
theorem pF (i:O)(a:U O)(w:W)(b:U W)(c:Env):aR (i::a) (w::b) c=aR a b (put c i w):=rfl
theorem Bu {b c:Type}(f:b->c)(a:b):(Y a).map f=Y (f a):=rfl
theorem ni (b:IZ):truth (.bl b)=Y b:=rfl
theorem nA (i:I):truth (.int i)=Y (i != 0):=rfl
theorem tR {b c:Type}(a:b)(f:b->B c):(Y a).bind f=f a:=rfl
theorem tm:Md.s.kid=.s:=rfl
theorem uM:Md.d.kid=.d:=rfl
theorem uF (m:Md):(Md.o m).kid=m:=rfl
theorem wF:Md.s.up=.o .s:=rfl
theorem xJ:Md.d.up=.d:=rfl
theorem xq (m:Md):(Md.o m).up=.o (.o m):=rfl
theorem oV (m:Md):Md.s.meet m=.s:=by cases m<;>rfl
theorem df (m:Md):Md.d.meet m=m:=by cases m<;>rfl
theorem m6 (m:Md):(Md.o m).meet .s=.s:=rfl
theorem mx (m:Md):(Md.o m).meet .d=.o m:=rfl
theorem l9 (m n:Md):(Md.o m).meet (.o n)=.o (m.meet n):=rfl
theorem yW (n:Md)(a:U T)(t:T):fO (.d,.lst a) (n,t)=if a.length<LIM then Y ((lf n t).up,.lst<|a++[t]) else none:=by show(if _ then Y ((Md.d.meet _).up,_) else J)=_;rw[df]
theorem wQ (m n:Md)(a:U T)(t:T):fO (.o m,.lst a) (n,t)=if a.length<LIM then Y ((m.meet<|lf n t).up,.lst<|a++[t]) else none:=rfl
theorem yh (n:Md)(a b:U T):wq (.d,.lst a) (n,.lst b)=if a.length+b.length<=LIM then Y (n.kid.up,.lst<|a++b) else none:=by show(if _ then Y ((Md.d.meet _).up,_) else J)=_;rw[df]
theorem xn (m n:Md)(a b:U T):wq (.o m,.lst a) (n,.lst b)=if a.length+b.length<=LIM then Y ((m.meet n.kid).up,.lst<|a++b) else none:=rfl
theorem wV (l n:Md)(a:U T)(t:T)(j:I):dG (.d,.lst a) (l,.int j) (n,t)=(ixN a.length j).map λk=>((lf n t).up,.lst<|a.set k t):=by show((ixN a.length j).map λk=>((Md.d.meet _).up,_))=_;rw[df]
theorem yA (m l n:Md)(a:U T)(t:T)(j:I):dG (.o m,.lst a) (l,.int j) (n,t)=(ixN a.length j).map λk=>((m.meet<|lf n t).up,.lst<|a.set k t):=rfl
theorem yj (m:Md)(a:U T):j7 (Y (m,.lst a))=.ok ():=rfl
theorem yD (m:Md)(a:U T):yM (m,.tup a)=Y (a.map λt=>(m.kid,t)):=rfl
theorem BW (b a:Env):nxO b (Y a)=.nx a:=rfl
theorem qr (a:Env):backs [] a=Y []:=rfl
theorem qd (i:O)(b:U O)(a:Env):backs (i::b) a=(rd a i).bind λw=>(backs b a).bind λc=>Y (w::c):=rfl
theorem zy (a:U O)(b:Env):Fl.out a (.nx b)=(ofO<|backs a b).bind (nJ (.d,.non)):=rfl
theorem yu (a:U O)(w:W)(b:Env):Fl.out a (.rt w b)=(ofO<|backs a b).bind (nJ w):=rfl
theorem x_run (C:Call)(f:Fn)(a:U W)(h:a.length=f.ps):runF C f a=Fl.out f.io (evSs C f.body<|a.map Y++Eu f.ns J):=Jc h
theorem at0 {b:Type}(a:b)(l:U b):atI (a::l) 0=Y a:=by simp[atI,ixN]
theorem atN {c:Type}{b:U c}{i:I}{n:O}{a:c}(d:i=n)(h:b[n]?=Y a):atI b i=Y a:=by subst d;have:=(EM.mp h).1;rw[atI,ixN,Jc<|by lia,Jc<|by lia];exact h
theorem at1 {c:Type}(a b:c)(l:U c):atI (a::b::l) 1=Y b:=atN (n:=1) rfl rfl
theorem at2 {d:Type}(a b c:d)(l:U d):atI (a::b::c::l) 2=Y c:=atN (n:=2) rfl rfl
theorem at3 {e:Type}(a b c d:e)(l:U e):atI (a::b::c::d::l) 3=Y d:=atN (n:=3) rfl rfl
theorem at4 {f:Type}(a b c d e:f)(l:U f):atI (a::b::c::d::e::l) 4=Y e:=atN (n:=4) rfl rfl
theorem bO {j:Type}{d:U O}{f:Env->Res (B W×Env)}{i:Env}{g:j->U W}(w:j->W):∀(e:U j) (a:U W),(∀x∈e,∃b c,aR d (g x) i=Y b/\f b=.ok (Y<|w x,c)/\aj d c=i) ->
 aP d f (e.map g) i a=.ok (a++e.map w,i)
|[],a,_=>by rw[FA,FA,EW];rfl
|x::e,a,h=>by obtain⟨b,c,k,l,m⟩:=h x Ek;rw[Eo,Eo];show(ofO<|aR d (g x) i).bind _=_;rw[k];show(f b).bind _=_;rw[l];show aP d f (e.map g) (aj d c) (a++[w x])=_;rw[m,bO w e _ λy n=>h y<|Em _ n,G7];rfl
end M

namespace MR
open L2 L3 M
open PySem (Addr Str sizeLine)
abbrev Fp:=IY->Prop
def ScrR (K:D1)(H:Hp)(a:IY)(b:U I):Prop:=(∃o,H a=Y (.frz o<|.lst<|b.map V.int))\/SqL K (λ_=>J) a (b.map V.int)
theorem ScrR.sq {K:D1}{H:Hp}{a:IY}{b:U I}(h:ScrR K H a b):SqL K H a (b.map V.int):=by
 rcases h with⟨o,h⟩|((h|⟨o,h⟩)|h)
 .exact .inl (.inr ⟨o,h⟩)
 .cases h
 .cases h
 .exact .inr h
theorem ScrR.keep {K:D1}{H H':Hp}{a:IY}{b:U I}(s:∀a o u,H a=Y (.frz o u)->H' a=Y (.frz o u))(h:ScrR K H a b):ScrR K H' a b:=h.imp (λ⟨o,e⟩=>⟨o,s a o _ e⟩) id
def LstR (K:D1)(Z:Fp)(H:Hp)(G:Fp)(a:IY)(b:U V):Md->Prop
|.s=>Z a/\H a=Y (.lst b)
|_=>G a/\H a=Y (.lst b)
def mkD (a:U<|I ⊕ Str)(b:U V):U (Key×V):=a.zip b
def DctR (Z:Fp)(H:Hp)(G:Fp)(a:IY)(o:HO):Md->Prop
|.s=>Z a/\H a=Y o
|_=>G a/\H a=Y o
def InsR (Z:Fp)(H:Hp)(G:Fp)(a b:IY)(o:HO):Md->Prop
|.s=>Z a/\Z b/\H a=Y o/\H b=Y (.own a)
|_=>G a/\G b/\H a=Y o/\H b=Y (.own a)
def mE (K:D1)(c:O)(fs:U Str):Prop:=Cls K c/\∀f∈fs,NoAttr K c f
def dmd:Md->Md
|.d=>.d
|_=>.s
mutual
def Rep (K:D1)(Z:Fp)(H:Hp):Md->T->V->Fp->Prop
|_,.non,v,_=>v=.non
|_,.bl b,v,_=>v=.bl b
|_,.int i,v,_=>v=.int i
|_,.str x,v,_=>v=.str x/\sOk x=DY
|m,.tup ts,v,G=>∃a xs,v=.ref a/\SqT K H a xs/\xs.length<=LIM/\RepL K Z H m.kid ts xs G
|m,.lst ts,v,G=>∃a xs,v=.ref a/\xs.length<=LIM/\LstR K Z H G a xs m/\RepL K Z H m.kid ts xs (λb=>G b/\b≠a)
|m,.dct ks vs,v,G=>∃a xs,v=.ref a/\ks.length<=LIM/\DctR Z H G a (.dK<|mkD ks xs) m/\(ks.Nodup/\∀k∈ks,kOk k=DY)/\vs.length=ks.length/\RepL K Z H (dmd m) vs xs (λ_=>Jh)
|m,.dtt ks vs,v,_=>m≠.d/\∃a ys xs,v=.ref a/\Z a/\H a=Y (DTO a ks ys xs)/\ks.Nodup/\ks.length<=LIM/\vs.length=ks.length/\KeyR K H ks ys/\RepL K Z H .s vs xs (λ_=>Jh)
|m,.ins c fs vs,v,_=>m≠.d/\∃a dx C xs,v=.ref a/\Z a/\Z dx/\H a=Y (XO a C (Y dx) DX)/\H dx=Y (.xd<|fs.zip xs)/\fs.length=vs.length/\XNm K c C/\RepL K Z H .s vs xs (λ_=>Jh)
|m,.obj c fs vs,v,G=>m≠.d/\∃a dx xs,v=.ref a/\InsR Z H G a dx (.ins c dx<|fs.zip xs) m/\mE K c fs/\fs.length=vs.length/\RepL K Z H .s vs xs (λ_=>Jh)
|_,.gone,_,_=>JR
|_,.scr ns,v,_=>∃a,v=.ref a/\ns.length<=LIM/\ScrR K H a ns
def RepL (K:D1)(Z:Fp)(H:Hp):Md->U T->U V->Fp->Prop
|_,[],xs,_=>xs=[]
|m,t::ts,xs,G=>∃x r G1 G2,xs=x::r/\(∀a,G1 a->G a)/\(∀a,G2 a->G a)/\(∀a,G1 a->¬G2 a)/\Rep K Z H m t x G1/\RepL K Z H m ts r G2
end
section
variable {K:D1}{Z Z':Fp}{H H':Hp}{m:Md}{t:T}{ts:U T}{v:V}{xs:U V}{G G':Fp}
theorem LstR.mono {a:IY}(w:∀a,G a->G' a)(h:LstR K Z H G a xs m):LstR K Z H G' a xs m:=by
 cases m with
 |s=>exact h
 |d=>exact⟨w _ h.1,h.2⟩
 |o m=>exact⟨w _ h.1,h.2⟩
theorem InsR.mono {a b:IY}{o:HO}(w:∀a,G a->G' a)(h:InsR Z H G a b o m):InsR Z H G' a b o m:=by
 cases m with
 |s=>exact h
 |d=>exact⟨w _ h.1,w _ h.2.1,h.2.2⟩
 |o m=>exact⟨w _ h.1,w _ h.2.1,h.2.2⟩
theorem DctR.mono {a:IY}{o:HO}(w:∀a,G a->G' a)(h:DctR Z H G a o m):DctR Z H G' a o m:=by
 cases m with
 |s=>exact h
 |d=>exact⟨w _ h.1,h.2⟩
 |o m=>exact⟨w _ h.1,h.2⟩
mutual
theorem Rep.mono:∀{m:Md} {t:T} {v:V} {G G':Fp},(∀a,G a->G' a)->Rep K Z H m t v G->Rep K Z H m t v G'
|_,.non,_,_,_,_,h=>h
|_,.bl _,_,_,_,_,h=>h
|_,.int _,_,_,_,_,h=>h
|_,.str _,_,_,_,_,h=>h
|m,.tup ts,v,G,G',w,⟨a,xs,e,q,l,r⟩=>⟨a,xs,e,q,l,RepL.mono w r⟩
|m,.lst ts,v,G,G',w,⟨a,xs,e,l,q,r⟩=>⟨a,xs,e,l,q.mono w,RepL.mono (λb hb=>⟨w b hb.1,hb.2⟩) r⟩
|m,.dct ks vs,v,G,G',w,⟨a,xs,e,l,q,n,hl,r⟩=>⟨a,xs,e,l,q.mono w,n,hl,r⟩
|_,.ins _ _ _,_,_,_,_,h=>h
|_,.dtt _ _,_,_,_,_,h=>h
|m,.obj c fs vs,v,G,G',w,⟨ne,a,dx,xs,e,q,r⟩=>⟨ne,a,dx,xs,e,q.mono w,r⟩
|_,.gone,_,_,_,_,h=>h
|_,.scr _,_,_,_,_,h=>h
theorem RepL.mono:∀{m:Md} {ts:U T} {xs:U V} {G G':Fp},(∀a,G a->G' a)->RepL K Z H m ts xs G->RepL K Z H m ts xs G'
|_,[],_,_,_,_,h=>h
|m,t::ts,xs,G,G',w,⟨x,r,G1,G2,e,h1,h2,hd,p,q⟩=>⟨x,r,G1,G2,e,λa ha=>w a<|h1 a ha,λa ha=>w a<|h2 a ha,hd,p,q⟩
end
def Stay (Z:Fp)(H H':Hp):Prop:=(∀a o,Z a->H a=Y o->H' a=Y o)/\(∀a xs,Rd H a (.tup xs)->Rd H' a (.tup xs))/\∀a o u,H a=Y (.frz o u)->H' a=Y (.frz o u)
theorem Stay.sqt (s:Stay Z H H'){a:IY}(h:SqT K H a xs):SqT K H' a xs:=by
 rcases h with h|h
 .exact .inl (s.2.1 a xs h)
 .exact .inr h
theorem LstR.keep {a:IY}(s:Stay Z H H')(z:∀a,Z a->Z' a)(g:∀a o,G a->H a=Y o->H' a=Y o)(h:LstR K Z H G a xs m):LstR K Z' H' G a xs m:=by
 cases m with
 |s=>exact⟨z _ h.1,s.1 _ _ h.1 h.2⟩
 |d=>exact⟨h.1,g _ _ h.1 h.2⟩
 |o m=>exact⟨h.1,g _ _ h.1 h.2⟩
theorem InsR.keep {a b:IY}{o:HO}(s:Stay Z H H')(z:∀a,Z a->Z' a)(g:∀a o,G a->H a=Y o->H' a=Y o)(h:InsR Z H G a b o m):InsR Z' H' G a b o m:=by
 cases m with
 |s=>exact⟨z _ h.1,z _ h.2.1,s.1 _ _ h.1 h.2.2.1,s.1 _ _ h.2.1 h.2.2.2⟩
 |d=>exact⟨h.1,h.2.1,g _ _ h.1 h.2.2.1,g _ _ h.2.1 h.2.2.2⟩
 |o m=>exact⟨h.1,h.2.1,g _ _ h.1 h.2.2.1,g _ _ h.2.1 h.2.2.2⟩
theorem InsR.sh {a b:IY}{o:HO}(h:InsR Z H G a b o m):InsR (λa=>Z a\/G a) H (λ_=>Jh) a b o .s:=by
 cases m with
 |s=>exact⟨.inl h.1,.inl h.2.1,h.2.2⟩
 |d=>exact⟨.inr h.1,.inr h.2.1,h.2.2⟩
 |o m=>exact⟨.inr h.1,.inr h.2.1,h.2.2⟩
theorem DctR.keep {a:IY}{o:HO}(s:Stay Z H H')(z:∀a,Z a->Z' a)(g:∀a o,G a->H a=Y o->H' a=Y o)(h:DctR Z H G a o m):DctR Z' H' G a o m:=by
 cases m with
 |s=>exact⟨z _ h.1,s.1 _ _ h.1 h.2⟩
 |d=>exact⟨h.1,g _ _ h.1 h.2⟩
 |o m=>exact⟨h.1,g _ _ h.1 h.2⟩
mutual
theorem Rep.keep (s:Stay Z H H')(z:∀a,Z a->Z' a):∀{m:Md} {t:T} {v:V} {G:Fp},(∀a o,G a->H a=Y o->H' a=Y o)->Rep K Z H m t v G->Rep K Z' H' m t v G
|_,.non,_,_,_,h=>h
|_,.bl _,_,_,_,h=>h
|_,.int _,_,_,_,h=>h
|_,.str _,_,_,_,h=>h
|m,.tup ts,v,G,g,⟨a,xs,e,q,l,r⟩=>⟨a,xs,e,s.sqt q,l,RepL.keep s z g r⟩
|m,.lst ts,v,G,g,⟨a,xs,e,l,q,r⟩=>⟨a,xs,e,l,q.keep s z g,RepL.keep s z (λb o hb=>g b o hb.1) r⟩
|m,.dct ks vs,v,G,g,⟨a,xs,e,l,q,n,hl,r⟩=>⟨a,xs,e,l,q.keep s z g,n,hl,RepL.keep s z (λ_ _ hb=>hb.elim) r⟩
|_,.dtt _ _,_,_,_,⟨ne,a,ys,xs,e,z1,h1,n,l,hl,kr,r⟩=>⟨ne,a,ys,xs,e,z _ z1,s.1 _ _ z1 h1,n,l,hl,kr.keep λb xs q=>s.sqt q,RepL.keep s z (λ_ _ hb=>hb.elim) r⟩
|_,.ins _ _ _,_,_,_,⟨ne,a,dx,C,xs,e,z1,z2,h1,h2,l,n,r⟩=>⟨ne,a,dx,C,xs,e,z _ z1,z _ z2,s.1 _ _ z1 h1,s.1 _ _ z2 h2,l,n,RepL.keep s z (λ_ _ hb=>hb.elim) r⟩
|_,.obj _ _ _,_,_,g,⟨ne,a,dx,xs,e,q,n,l,r⟩=>⟨ne,a,dx,xs,e,q.keep s z g,n,l,RepL.keep s z (λ_ _ hb=>hb.elim) r⟩
|_,.gone,_,_,_,h=>h
|_,.scr _,_,_,_,⟨a,e,l,q⟩=>⟨a,e,l,q.keep s.2.2⟩
theorem RepL.keep (s:Stay Z H H')(z:∀a,Z a->Z' a):∀{m:Md} {ts:U T} {xs:U V} {G:Fp},(∀a o,G a->H a=Y o->H' a=Y o)->RepL K Z H m ts xs G->RepL K Z' H' m ts xs G
|_,[],_,_,_,h=>h
|m,t::ts,xs,G,g,⟨x,r,G1,G2,e,h1,h2,hd,p,q⟩=>⟨x,r,G1,G2,e,h1,h2,hd,Rep.keep s z (λa o ha=>g a o<|h1 a ha) p,RepL.keep s z (λa o ha=>g a o<|h2 a ha) q⟩
end
theorem cM (Z:Fp)(H:Hp):Stay Z H H:=⟨λ_ _ _ h=>h,λ_ _ h=>h,λ_ _ _ h=>h⟩
theorem Rep.zmono (z:∀a,Z a->Z' a)(h:Rep K Z H m t v G):Rep K Z' H m t v G:=h.keep (cM Z H) z λ_ _ _ q=>q
theorem RepL.zmono (z:∀a,Z a->Z' a)(h:RepL K Z H m ts xs G):RepL K Z' H m ts xs G:=h.keep (cM Z H) z λ_ _ _ q=>q
theorem RepL.length:∀{ts:U T} {xs:U V} {G:Fp},RepL K Z H m ts xs G->xs.length=ts.length
|[],_,_,h=>by rw[show _=[] from h];rfl
|_::_,_,_,⟨x,r,a,b,e,_,_,_,_,q⟩=>by rw[e,Ef,Ef,RepL.length q]
theorem RepL.get:∀{ts:U T} {xs:U V} {G:Fp} {i:O} {t:T},RepL K Z H m ts xs G->ts[i]?=Y t->∃x,xs[i]?=Y x/\Rep K Z H m t x G
|[],_,_,_,_,_,e=>by simp at e
|_::_,_,_,0,_,⟨x,r,a,b,e,c,_,_,p,_⟩,e2=>by rw[Hy] at e2;cases e2;exact⟨x,by rw[e];rfl,p.mono c⟩
|_::_,_,_,i+1,_,⟨x,r,a,b,e,_,d,_,_,q⟩,e2=>by rw[E8] at e2;obtain⟨y,f,p⟩:=RepL.get q e2;exact⟨y,by rw[e,E8];exact f,p.mono d⟩
theorem RepL.append:∀{ts g:U T} {xs f:U V} {G1 G2 G:Fp},(∀a,G1 a->G a)->(∀a,G2 a->G a)->(∀a,G1 a->¬G2 a)->RepL K Z H m ts xs G1->RepL K Z H m g f G2->RepL K Z H m (ts++g) (xs++f) G
|[],g,xs,f,G1,G2,G,i,j,d,h,k=>by rw[show xs=[] from h];exact k.mono j
|t::ts,g,xs,f,G1,G2,G,i,j,d,⟨x,r,A,b,e,l,n,s,p,q⟩,k=>by rw[e];refine⟨x,r++f,A,λa=>b a\/G2 a,rfl,λa c=>i a<|l a c,λa c=>c.elim (λz=>i a<|n a z)<|j a,λa c o=>o.elim (s a c)<|d a<|l a c,p,?_⟩;exact RepL.append (λa z=>.inl z) (λa z=>.inr z) (λa c=>d a<|n a c) q k
theorem RepL.one {x:V}(p:Rep K Z H m t x G):RepL K Z H m [t] [x] G:=⟨x,[],G,λ_=>Jh,rfl,λ_ h=>h,λ_ h=>h.elim,λ_ _ h=>h,p,rfl⟩
theorem RepL.take:∀{ts:U T} {xs:U V} {G:Fp} (n:O),RepL K Z H m ts xs G->RepL K Z H m (ts.take n) (xs.take n) G
|[],_,_,n,h=>by rw[show _=[] from h,H9,H9];rfl
|_::_,_,_,0,h=>rfl
|_::_,_,_,n+1,⟨x,r,A,a,e,b,c,d,p,q⟩=>by rw[e];exact⟨x,r.take n,A,a,rfl,b,c,d,p,RepL.take n q⟩
theorem RepL.drop:∀{ts:U T} {xs:U V} {G:Fp} (n:O),RepL K Z H m ts xs G->RepL K Z H m (ts.drop n) (xs.drop n) G
|[],_,_,n,h=>by rw[show _=[] from h,H8,H8];rfl
|_::_,_,_,0,h=>h
|_::_,_,_,n+1,⟨x,r,A,a,e,c,b,d,p,q⟩=>by rw[e];exact(RepL.drop n q).mono b
theorem Rep.leaf {m':Md}(c:∀a o u,H a=Y (.frz o u)->H' a=Y (.frz o u))(b:t.leaf=DY)(h:Rep K Z H m t v G):Rep K Z' H' m' t v G':=by
 cases t with
 |non=>exact h
 |bl _=>exact h
 |int _=>exact h
 |str _=>exact h
 |scr _=>obtain⟨a,e,l,q⟩:=h;exact⟨a,e,l,q.keep c⟩
 |_=>cases b
theorem RepL.leaves {m':Md}(d:∀a o u,H a=Y (.frz o u)->H' a=Y (.frz o u)):∀{ts:U T} {xs:U V} {G G':Fp},leaves ts=DY->RepL K Z H m ts xs G->RepL K Z' H' m' ts xs G'
|[],_,_,_,_,h=>h
|t::ts,_,_,G',f,⟨x,r,A,b,e,g,i,j,p,q⟩=>by have c:(t.leaf&&ts.all T.leaf)=true:=f;rw[Ew] at c;exact⟨x,r,λ_=>Jh,λ_=>Jh,e,λ_ z=>z.elim,λ_ z=>z.elim,λ_ z=>z.elim,p.leaf d c.1,RepL.leaves d c.2 q⟩
noncomputable def no:Fp:=λ_=>Jh
mutual
theorem Rep.sh:∀{m:Md} {t:T} {v:V} {G:Fp},Rep K Z H m t v G->Rep K (λa=>Z a\/G a) H .s t v no
|_,.non,_,_,h=>h
|_,.bl _,_,_,h=>h
|_,.int _,_,_,h=>h
|_,.str _,_,_,h=>h
|m,.tup ts,v,G,⟨a,xs,e,q,l,r⟩=>⟨a,xs,e,q,l,RepL.sh r⟩
| m,.lst ts,v,G,⟨a,xs,e,l,q,r⟩=>⟨a,xs,e,l,by
  cases m with
  |s=>exact⟨.inl q.1,q.2⟩
  |d=>exact⟨.inr q.1,q.2⟩
  |o m=>exact⟨.inr q.1,q.2⟩,(RepL.zmono (λb hb=>hb.elim .inl λz=>.inr z.1)<|RepL.sh r).mono λ_ z=>z.elim⟩
| m,.dct ks vs,v,G,⟨a,xs,e,l,q,n,hl,r⟩=>⟨a,xs,e,l,by
  cases m with
  |s=>exact⟨.inl q.1,q.2⟩
  |d=>exact⟨.inr q.1,q.2⟩
  |o m=>exact⟨.inr q.1,q.2⟩,n,hl,RepL.zmono (λb hb=>hb.elim .inl λz=>z.elim)<|RepL.sh r⟩
|_,.dtt _ _,_,_,⟨ne,a,ys,xs,e,z1,h1,n,l,hl,kr,r⟩=>⟨(λz=>by cases z),a,ys,xs,e,.inl z1,h1,n,l,hl,kr,RepL.zmono (λb hb=>hb.elim .inl λz=>z.elim)<|RepL.sh r⟩
|_,.ins _ _ _,_,_,⟨ne,a,dx,C,xs,e,z1,z2,h1,h2,l,n,r⟩=>⟨(λz=>by cases z),a,dx,C,xs,e,.inl z1,.inl z2,h1,h2,l,n,RepL.zmono (λb hb=>hb.elim .inl λz=>z.elim)<|RepL.sh r⟩
|_,.obj _ _ _,_,_,⟨ne,a,dx,xs,e,q,n,l,r⟩=>⟨(λz=>by cases z),a,dx,xs,e,q.sh,n,l,RepL.zmono (λb hb=>hb.elim .inl λz=>z.elim)<|RepL.sh r⟩
|_,.gone,_,_,h=>h
|_,.scr _,_,_,h=>h
theorem RepL.sh:∀{m:Md} {ts:U T} {xs:U V} {G:Fp},RepL K Z H m ts xs G->RepL K (λa=>Z a\/G a) H .s ts xs no
|_,[],_,_,h=>h
|m,t::ts,xs,G,⟨x,r,G1,G2,e,h1,h2,hd,p,q⟩=>⟨x,r,no,no,e,λ_ z=>z,λ_ z=>z,λ_ z _=>z,Rep.zmono (λb hb=>hb.imp id (h1 b))<|Rep.sh p,RepL.zmono (λb hb=>hb.imp id (h2 b))<|RepL.sh q⟩
end
theorem DK:∀a:Md,a.le .d=DY
|.s=>rfl | .d=>rfl | .o _=>rfl
theorem gK:∀a:Md,a.le a=DY
|.s=>rfl | .d=>rfl | .o a=>gK a
theorem iU:∀{a b c:Md},a.le b=DY->b.le c=DY->a.le c=DY
|.s,_,.s,_,_=>rfl
|.s,_,.d,_,_=>rfl
|.s,_,.o _,_,_=>rfl
|.o a,.o b,.o c,h,k=>iU (a:=a) (b:=b) (c:=c) h k
|.o a,.o b,.d,h,k=>rfl
|.o a,.d,.d,h,k=>rfl
|.d,.d,.d,_,_=>rfl
|.d,.s,_,h,_=>by cases h
|.d,.o _,_,h,_=>by cases h
|.o _,.s,_,h,_=>by cases h
|.o _,.o _,.s,_,k=>by cases k
|.o _,.d,.s,_,k=>by cases k
|.o _,.d,.o _,_,k=>by cases k
|.d,.d,.s,_,k=>by cases k
|.d,.d,.o _,_,k=>by cases k
theorem dh:∀a b:Md,(a.meet b).le a=DY/\(a.meet b).le b=DY
|.s,.s=>⟨rfl,rfl⟩
|.s,.d=>⟨rfl,rfl⟩
|.s,.o _=>⟨rfl,rfl⟩
|.d,.s=>⟨rfl,rfl⟩
|.d,.d=>⟨rfl,rfl⟩
|.d,.o b=>⟨rfl,gK b⟩
|.o _,.s=>⟨rfl,rfl⟩
|.o a,.d=>⟨gK a,rfl⟩
|.o a,.o b=>dh a b
theorem oU:∀{a b:Md},a.le b=DY->a.kid.le b.kid=DY
|.s,.s,_=>rfl
|.s,.d,_=>rfl
|.s,.o _,_=>by first|rfl|exact(by cases ‹Md›<;>rfl)
|.o a,.o b,h=>h
|.o a,.d,_=>DK a
|.d,.d,_=>rfl
|.d,.s,h=>by cases h
|.d,.o _,h=>by cases h
|.o _,.s,h=>by cases h
theorem fh:∀a:Md,a.up.kid=a
|.s=>rfl | .d=>rfl | .o _=>rfl
theorem dF (a:Md):a.up≠.s:=by cases a<;>intro h<;>cases h
theorem LstR.own {a:IY}(b:m≠.s):LstR K Z H G a xs m ↔ G a/\H a=Y (.lst xs):=by
 cases m with
 |s=>exact Jb rfl b
 |d=>exact Iff.rfl
 |o m=>exact Iff.rfl
abbrev cj (Z G G':Fp):Fp:=λa=>Z a\/(G a/\¬G' a)
mutual
theorem Rep.weak:∀{m m':Md} {t:T} {v:V} {G:Fp},m'.le m=DY->Rep K Z H m t v G->∃G',(∀a,G' a->G a)/\Rep K (cj Z G G') H m' t v G'
|m,m',.non,_,G,_,h=>⟨G,λ_ z=>z,h⟩
|m,m',.bl _,_,G,_,h=>⟨G,λ_ z=>z,h⟩
|m,m',.int _,_,G,_,h=>⟨G,λ_ z=>z,h⟩
|m,m',.str _,_,G,_,h=>⟨G,λ_ z=>z,h⟩
|m,m',.scr _,_,G,_,h=>⟨G,λ_ z=>z,h⟩
|m,m',.tup ts,v,G,hm,⟨a,xs,e,q,l,r⟩=>by obtain⟨G',h1,h2⟩:=RepL.weak (oU hm) r;exact⟨G',h1,a,xs,e,q,l,h2⟩
| m,m',.lst ts,v,G,hm,h=>by
 cases m' with
 |s=>exact⟨no,λ_ z=>z.elim,(Rep.sh h).zmono λa ha=>ha.imp id λz=>⟨z,λq=>q⟩⟩
 |d=>
  cases m with
  |s=>cases hm
  |o _=>cases hm
  |d=>exact⟨G,λ_ z=>z,h.zmono λ_ z=>.inl z⟩
 |o k=>
  have hne:m≠.s:=by rintro rfl;cases hm
  obtain⟨a,xs,e,l,q,r⟩:=h;rw[LstR.own hne] at q;obtain⟨G',h1,h2⟩:=RepL.weak (oU hm) r;refine⟨λb=>G' b\/b=a,λb hb=>hb.elim (λz=>(h1 b z).1) λz=>z ▸ q.1,a,xs,e,l,⟨.inr rfl,q.2⟩,?_⟩;refine(h2.zmono λb hb=>?_).mono λb hb=>⟨.inl hb,(h1 b hb).2⟩;rcases hb with z|⟨⟨z1,z2⟩,z3⟩
  .exact .inl z
  .exact .inr ⟨z1,λq=>q.elim z3 z2⟩
| m,m',.dct ks vs,v,G,hm,h=>by
 cases m' with
 |s=>exact⟨no,λ_ z=>z.elim,(Rep.sh h).zmono λa ha=>ha.imp id λz=>⟨z,λq=>q⟩⟩
 |d=>
  cases m with
  |s=>cases hm
  |o _=>cases hm
  |d=>exact⟨G,λ_ z=>z,h.zmono λ_ z=>.inl z⟩
 |o k=>
  obtain⟨a,xs,e,l,q,n,hl,r⟩:=h;cases m with
  |s=>cases hm
  |d=>exact⟨G,λ_ z=>z,a,xs,e,l,q,n,hl,RepL.zmono (λb hb=>hb.elim .inl λz=>z.elim)<|RepL.sh r⟩
  |o k'=>exact⟨G,λ_ z=>z,a,xs,e,l,q,n,hl,RepL.zmono (λb hb=>.inl hb) r⟩
|m,m',.dtt _ _,v,G,hm,⟨ne,a,ys,xs,e,z1,h1,n,l,hl,kr,r⟩=>⟨G,λ_ z=>z,(λz=>ne<|by subst z;cases m<;>first|rfl|cases hm),a,ys,xs,e,.inl z1,h1,n,l,hl,kr,RepL.zmono (λb hb=>.inl hb) r⟩
|m,m',.ins _ _ _,v,G,hm,⟨ne,a,dx,C,xs,e,z1,z2,h1,h2,l,n,r⟩=>⟨G,λ_ z=>z,(λz=>ne<|by subst z;cases m<;>first|rfl|cases hm),a,dx,C,xs,e,.inl z1,.inl z2,h1,h2,l,n,RepL.zmono (λb hb=>.inl hb) r⟩
| m,m',.obj c fs vs,v,G,hm,h=>by
 cases m' with
 |s=>exact⟨no,λ_ z=>z.elim,(Rep.sh h).zmono λa ha=>ha.imp id λz=>⟨z,λq=>q⟩⟩
 |d=>
  cases m with
  |s=>cases hm
  |o _=>cases hm
  |d=>exact Jb rfl h.1
 |o k=>
  obtain⟨ne,a,dx,xs,e,q,n,l,r⟩:=h;cases m with
  |s=>cases hm
  |d=>exact Jb rfl ne
  |o k'=>exact⟨G,λ_ z=>z,(λz=>by cases z),a,dx,xs,e,q,n,l,RepL.zmono (λb hb=>.inl hb) r⟩
|m,m',.gone,_,G,_,h=>⟨G,λ_ z=>z,h⟩
theorem RepL.weak:∀{m m':Md} {ts:U T} {xs:U V} {G:Fp},m'.le m=DY->RepL K Z H m ts xs G->∃G',(∀a,G' a->G a)/\RepL K (cj Z G G') H m' ts xs G'
|m,m',[],_,G,_,h=>⟨G,λ_ z=>z,h⟩
|m,m',t::ts,xs,G,hm,⟨x,r,G1,G2,e,h1,h2,hd,p,q⟩=>by
 obtain⟨A,a1,a2⟩:=Rep.weak hm p;obtain⟨B,b1,b2⟩:=RepL.weak hm q;refine⟨λb=>A b\/B b,λb hb=>hb.elim (λz=>h1 b<|a1 b z) λz=>h2 b<|b1 b z,x,r,A,B,e,λ_ z=>.inl z,λ_ z=>.inr z,λb za zb=>hd b (a1 b za)<|b1 b zb,?_,?_⟩
 .refine a2.zmono λb hb=>hb.imp id λz=>⟨h1 b z.1,λq=>q.elim z.2 λw=>hd b z.1<|b1 b w⟩
 .refine b2.zmono λb hb=>hb.imp id λz=>⟨h2 b z.1,λq=>q.elim (λw=>hd b (a1 b w) z.1) z.2⟩
end
def RepW (K:D1)(Z:Fp)(H:Hp):U W->U V->Fp->Prop
|[],xs,_=>xs=[]
|w::d,xs,G=>∃x r b c,xs=x::r/\(∀a,b a->G a)/\(∀a,c a->G a)/\(∀a,b a->¬c a)/\Rep K Z H w.1 w.2 x b/\RepW K Z H d r c
theorem RepW.length:∀{a:U W} {xs:U V} {G:Fp},RepW K Z H a xs G->xs.length=a.length
|[],_,_,h=>by rw[show _=[] from h];rfl
|_::_,_,_,⟨x,r,b,c,e,_,_,_,_,q⟩=>by rw[e,Ef,Ef,RepW.length q]
theorem RepW.mono:∀{c:U W} {xs:U V} {G G':Fp},(∀a,G a->G' a)->RepW K Z H c xs G->RepW K Z H c xs G'
|[],_,_,_,_,h=>h
|_::_,_,_,_,w,⟨x,r,d,f,e,g,i,j,p,q⟩=>⟨x,r,d,f,e,λa b=>w a<|g a b,λa b=>w a<|i a b,j,p,q⟩
theorem RepW.keep (s:Stay Z H H')(z:∀a,Z a->Z' a):∀{f:U W} {xs:U V} {G:Fp},(∀a o,G a->H a=Y o->H' a=Y o)->RepW K Z H f xs G->RepW K Z' H' f xs G
|[],_,_,_,h=>h
|_::_,_,_,g,⟨x,r,i,j,e,c,d,k,p,q⟩=>⟨x,r,i,j,e,c,d,k,p.keep s z λa o b=>g a o<|c a b,RepW.keep s z (λa o b=>g a o<|d a b) q⟩
theorem RepW.append:∀{o g:U W} {xs f:U V} {G1 G2 G:Fp},(∀a,G1 a->G a)->(∀a,G2 a->G a)->(∀a,G1 a->¬G2 a)->RepW K Z H o xs G1->RepW K Z H g f G2->RepW K Z H (o++g) (xs++f) G
|[],g,xs,f,G1,G2,G,i,j,d,h,k=>by rw[show xs=[] from h];exact k.mono j
|t::ts,g,xs,f,G1,G2,G,i,j,d,⟨x,r,A,b,e,l,n,u,p,q⟩,k=>by rw[e];refine⟨x,r++f,A,λa=>b a\/G2 a,rfl,λa c=>i a<|l a c,λa c=>c.elim (λz=>i a<|n a z)<|j a,λa c s=>s.elim (u a c)<|d a<|l a c,p,?_⟩;exact RepW.append (λa z=>.inl z) (λa z=>.inr z) (λa c=>d a<|n a c) q k
theorem RepW.one {w:W}{x:V}(p:Rep K Z H w.1 w.2 x G):RepW K Z H [w] [x] G:=⟨x,[],G,no,rfl,λ_ h=>h,λ_ h=>h.elim,λ_ _ h=>h,p,rfl⟩
theorem eP:∀{a:U W} {w:W},w∈a->(fJ a).le (lf w.1 w.2)=DY
|u::a,w,h=>by
 rcases Ee.mp h with z|z
 .subst z;exact(dh _ _).1
 .exact iU (dh _ _).2 (eP z)
theorem Rep.lf (h:Rep K Z H m t v G):Rep K Z H (M.lf m t) t v G:=by
 unfold M.lf;split
 .rename_i a;exact h.leaf (λ_ _ _ q=>q) a
 .exact h
theorem RepW.to {N:Md}:∀{f:U W} {xs:U V} {G:Fp},(∀w∈f,N.le (M.lf w.1 w.2)=DY)->RepW K Z H f xs G->∃G',(∀a,G' a->G a)/\RepL K (cj Z G G') H N (trees f) xs G'
|[],_,G,_,h=>⟨G,λ_ z=>z,h⟩
|w::f,xs,G,n,⟨x,r,P,Q,e,k,l,j,p,q⟩=>by
 obtain⟨A,g,o⟩:=Rep.weak (n w Ek) p.lf;obtain⟨c,i,s⟩:=RepW.to (λu y=>n u<|Em _ y) q;refine⟨λb=>A b\/c b,λb d=>d.elim (λz=>k b<|g b z) λz=>l b<|i b z,x,r,A,c,e,λ_ z=>.inl z,λ_ z=>.inr z,λb D F=>j b (g b D)<|i b F,?_,?_⟩
 .refine o.zmono λb d=>d.imp id λz=>⟨k b z.1,λq=>q.elim z.2 λw=>j b z.1<|i b w⟩
 .refine s.zmono λb d=>d.imp id λz=>⟨l b z.1,λq=>q.elim (λw=>j b (g b w) z.1) z.2⟩
end
inductive OO where
 |inl (xs:U V)|inr (kvs:U (Key×V))|ins (C dx:IY) (fs:U (Str×V))|own (x:IY)
def OO.ho:OO->HO
|.inl c=>.lst c
|.inr a=>.dK a
|.ins C b fs=>.ins C b fs
|.own x=>.own x
def Own (Z:Fp)(H:Hp)(F:Fp):Prop:=∀a,F a->¬Z a/\∃b:OO,H a=Y b.ho
theorem ky {b:U V}{a:OO}(e:Y (HO.tup b)=Y a.ho):Jh:=by cases a<;>cases e
theorem ik {o:PySem.Obj}{u:HO}{a:OO}(e:Y (HO.frz o u)=Y a.ho):Jh:=by cases a<;>cases e
structure Step (Z:Fp)(H:Hp)(F:Fp)(Z':Fp)(H':Hp)(F':Fp):Prop where
 keep:∀a o,H a=Y o->¬F a->H' a=Y o
 zm:∀a,Z a->Z' a
 zn:∀a,Z' a->Z a\/F a\/H a=J
 fn:∀a,F' a->F a\/H a=J
 al:∀a,H a≠J->H' a≠J
 za:(∀a,Z a->H a≠J)->∀a,Z' a->H' a≠J
section
variable {K:D1}{Z Z1 Z2 Z':Fp}{H H1 H2 H':Hp}{F F1 F2 F' R G:Fp}
theorem Step.refl (Z:Fp)(H:Hp)(F:Fp):Step Z H F Z H F:=⟨λ_ _ h _=>h,λ_ h=>h,λ_ h=>.inl h,λ_ h=>.inl h,λ_ h=>h,λz=>z⟩
theorem Step.trans (s:Step Z H F Z1 H1 F1)(t:Step Z1 H1 F1 Z2 H2 F2):Step Z H F Z2 H2 F2 where
 keep:=λa o h n=>t.keep a o (s.keep a o h n) λq=>(s.fn a q).elim n λz=>by rw[h] at z;cases z
 zm:=λa h=>t.zm a<|s.zm a h
 zn:=λa h=>by
  rcases t.zn a h with q|q|q
  .exact s.zn a q
  .exact .inr (s.fn a q)
  .exact .inr (.inr (by
    cases e:H a with
    |none=>rfl
    |some o=>exact Jb q<|s.al a<|by rw[e];simp))
 fn:=λa h=>by
  rcases t.fn a h with q|q
  .exact s.fn a q
  .exact .inr (by
    cases e:H a with
    |none=>rfl
    |some o=>exact Jb q<|s.al a<|by rw[e];simp)
 al:=λa h=>t.al a<|s.al a h
 za:=λz=>t.za<|s.za z
theorem Step.frame (R:Fp)(s:Step Z H F Z' H' F'):Step Z H (λa=>F a\/R a) Z' H' (λa=>F' a\/R a) where
 keep:=λa o h n=>s.keep a o h λq=>n<|.inl q
 zm:=s.zm
 zn:=λa h=>(s.zn a h).imp id λq=>q.imp .inl id
 fn:=λa h=>h.elim (λq=>(s.fn a q).imp .inl id) λq=>.inl<|.inr q
 al:=s.al
 za:=s.za
theorem Step.mono (s:Step Z H F Z' H' F')(b:∀a,F a->F1 a)(c:∀a,F2 a->F' a):Step Z H F1 Z' H' F2 where
 keep:=λa o h n=>s.keep a o h λq=>n<|b a q
 zm:=s.zm
 zn:=λa h=>(s.zn a h).imp id λq=>q.imp (b a) id
 fn:=λa h=>(s.fn a<|c a h).imp (b a) id
 al:=s.al
 za:=s.za
theorem Own.stay (o:Own Z H F)(s:Step Z H F Z' H' F'):Stay Z H H':=by
 refine⟨λa u c h=>s.keep a u h λq=>(o a q).1 c,λa d h=>?_,λa u v h=>s.keep a _ h λq=>?_⟩
 .rcases h with h | ⟨u,h⟩
  .refine .inl (s.keep a _ h fun q=>?_);obtain⟨_,b,e⟩:=o a q;rw[h] at e;exact ky e
  .refine .inr ⟨u,s.keep a _ h fun q=>?_⟩;obtain⟨_,b,e⟩:=o a q;rw[h] at e;exact ik e
 .obtain ⟨_,b,e⟩:=o a q;rw[h] at e;exact ik e
theorem Rep.frame {m:Md}{t:T}{v:V}(o:Own Z H F)(s:Step Z H F Z' H' F')(d:∀a,G a->¬F a)(h:Rep K Z H m t v G):Rep K Z' H' m t v G:=h.keep (o.stay s) s.zm λa u b e=>s.keep a u e<|d a b
theorem RepW.frame {b:U W}{c:U V}(o:Own Z H F)(s:Step Z H F Z' H' F')(d:∀a,G a->¬F a)(h:RepW K Z H b c G):RepW K Z' H' b c G:=h.keep (o.stay s) s.zm λa u f e=>s.keep a u e<|d a f
theorem Own.frame (o:Own Z H G)(s:Step Z H F Z' H' F')(d:∀a,G a->¬F a):Own Z' H' G/\∀a,G a->¬F' a:=by
 refine⟨λa b=>?_,λa b q=>?_⟩
 .obtain ⟨c,f,e⟩:=o a b;refine⟨λq=>?_,f,s.keep a _ e (d a b)⟩;rcases s.zn a q with z|z|z
  .exact c z
  .exact d a b z
  .rw[e] at z;cases z
 .obtain ⟨c,f,e⟩:=o a b;rcases s.fn a q with z|z
  .exact d a b z
  .rw[e] at z;cases z
end
abbrev Fps:=O->Fp
def tot (b:Fps):Fp:=λa=>∃i,b i a
structure Gd (Z:Fp)(H:Hp)(Fs:Fps):Prop where
 own:Own Z H (tot Fs)
 dis:∀i j a,Fs i a->Fs j a->i=j
 zal:∀a,Z a->H a≠J
structure Cf where
 sl:O->B O
 pv:O->B V
def C6 (K:D1)(a:Cf)(Z:Fp)(H:Hp)(c:Env)(d:L2.St)(b:Fps):Prop:=
 ∀i m t,rd c i=Y (m,t)->∃v,Rep K Z H m t v (b i)/\(∀j,a.sl i=Y j->d[j]?=Y (Y v))/\∀u,a.pv i=Y u->v=u
structure At (K:D1)(sl:Cf)(σ:L2.St)(Z:Fp)(H:Hp)(Fs:Fps)(η:Env)(G:Fp):Prop where
 gd:Gd Z H Fs
 env:C6 K sl Z H η σ Fs
 own:Own Z H G
 dis:∀a,G a->¬tot Fs a
 lk:∀i u j,sl.pv i=Y u->sl.sl i=Y j->σ[j]?=Y (Y u)
 ln:∀i j,sl.sl i=Y j->j < σ.length
section
variable {K:D1}{sl:Cf}{σ:L2.St}{Z Z':Fp}{H H':Hp}{Fs Fs':Fps}{η η':Env}{G G' R:Fp}
theorem At.frame (a:At K sl σ Z H Fs η R)(b:At K sl σ Z' H' Fs' η' G)(s:Step Z H (tot Fs) Z' H' λc=>tot Fs' c\/G c):
  At K sl σ Z' H' Fs' η' (λc=>R c\/G c)/\Step Z H (λc=>tot Fs c\/R c) Z' H' (λc=>tot Fs' c\/(R c\/G c))/\∀c,R c->¬G c:=by
 have o:=a.own.frame s a.dis;refine⟨⟨b.gd,b.env,λc d=>d.elim (o.1 c)<|b.own c,λc d=>d.elim (λz q=>o.2 c z<|.inl q)<|b.dis c,b.lk,b.ln⟩,(s.frame R).mono (λ_ z=>z) λc d=>?_,λc z q=>o.2 c z<|.inr q⟩;rcases d with z|z|z
 .exact .inl (.inl z)
 .exact .inr z
 .exact .inl (.inr z)
end
section
variable {K:D1}{sl:Cf}{sf:O->B O}{C:Call}{σ:L2.St}{Z Z' Z1:Fp}{H H' H1:Hp}{Fs Fs' Fs1:Fps}{η η' η1:Env}{G G' R F:Fp}
theorem At.mono (a:At K sl σ Z H Fs η G)(h:∀c,G' c->G c):At K sl σ Z H Fs η G':=⟨a.gd,a.env,λc b=>a.own c<|h c b,λc b=>a.dis c<|h c b,a.lk,a.ln⟩
theorem At.bare (a:At K sl σ Z H Fs η G):At K sl σ Z H Fs η no:=a.mono λ_ z=>z.elim
def wE (K:D1)(sl:O->B O)(C:Call)(e:E):TE:=λσ H Q=>∃pv Z Fs η w η',At K ⟨sl,pv⟩ σ Z H Fs η no/\evE C e η=.ok (w,η') /\
 ∀v Z' H' Fs' G,At K ⟨sl,pv⟩ σ Z' H' Fs' η' G->Rep K Z' H' w.1 w.2 v G->Step Z H (tot Fs) Z' H' (λa=>tot Fs' a\/G a)->Q v H'
def wL (K:D1)(sl:O->B O)(C:Call)(d:U E):TA:=λσ H Q=>∃pv Z Fs η c η',At K ⟨sl,pv⟩ σ Z H Fs η no/\evL C d η=.ok (c,η') /\
 ∀b Z' H' Fs' G,At K ⟨sl,pv⟩ σ Z' H' Fs' η' G->RepW K Z' H' c b G->Step Z H (tot Fs) Z' H' (λa=>tot Fs' a\/G a)->Q b H'
theorem ju {e:E}{w:W}{Q:VK}(A:At K sl σ Z H Fs η R)(ev:evE C e η=.ok (w,η'))
  (k:∀ v Z' H' Fs' G,At K sl σ Z' H' Fs' η' (fun c=>R c\/G c)->Rep K Z' H' w.1 w.2 v G->(∀ c,R c->¬ G c)->Step Z H (tot Fs) Z' H' (fun a=>tot Fs' a\/G a) ->
   Step Z H (λc=>tot Fs c\/R c) Z' H' (λc=>tot Fs' c\/(R c\/G c))->Q v H'):wE K sl.sl C e σ H Q:=
 ⟨sl.pv,Z,Fs,η,w,η',A.bare,ev,fun v Z' H' Fs' G b r s=>by
  obtain⟨d,f,g⟩:=A.frame b s;exact k v Z' H' Fs' G d r g s f⟩
theorem Dj {e:U E}{d:U W}{Q:U V->Hp->Prop}(A:At K sl σ Z H Fs η R)(ev:evL C e η=.ok (d,η'))
  (k:∀ f Z' H' Fs' G,At K sl σ Z' H' Fs' η' (fun c=>R c\/G c)->RepW K Z' H' d f G->(∀ c,R c->¬ G c)->Step Z H (tot Fs) Z' H' (fun a=>tot Fs' a\/G a) ->
   Step Z H (λc=>tot Fs c\/R c) Z' H' (λc=>tot Fs' c\/(R c\/G c))->Q f H'):wL K sl.sl C e σ H Q:=
 ⟨sl.pv,Z,Fs,η,d,η',A.bare,ev,fun v Z' H' Fs' G b r s=>by
  obtain⟨g,h,i⟩:=A.frame b s;exact k v Z' H' Fs' G g r i s h⟩
theorem ae {c d:Type}{r:Res c}{f:c->Res d}{b:d}(h:r.bind f=.ok b):∃a,r=.ok a/\f a=.ok b:=by
 cases r with
 |ok a=>exact⟨a,rfl,h⟩
 |ex t=>cases h
 |no=>cases h
theorem aw {c:Type}{η:Env}{o:B c}{b:c×Env}(h:ret η o=.ok b):∃a,o=Y a/\b=(a,η):=by
 cases o with
 |none=>cases h
 |some a=>exact⟨a,rfl,by cases h;rfl⟩
theorem ef {c:Type}{o:B c}{b:c}(h:ofO o=.ok b):o=Y b:=by
 cases o with
 |none=>cases h
 |some a=>cases h;rfl
theorem ax {e:E}{a:U E}{c:U W}(h:evL C (e::a) η=.ok (c,η')):∃w η1 b,evE C e η=.ok (w,η1)/\evL C a η1=.ok (b,η')/\c=w::b:=by obtain⟨⟨w,η1⟩,d,f⟩:=ae<|show(evE C e η).bind (aY<|evL C a)=_ from h;obtain⟨⟨b,j⟩,g,i⟩:=ae<|show(evL C a η1).bind (lM w)=_ from f;cases i;exact⟨w,η1,b,d,g,rfl⟩
theorem eF {e:E}{b:U E}{c:U W}(k:∀i,e≠.io i)(h:evA C (e::b) η=.ok (c,η')):∃w η1 a,evE C e η=.ok (w,η1)/\evA C b η1=.ok (a,η')/\c=w::a:=by rw[xr k] at h;obtain⟨⟨w,η1⟩,d,f⟩:=ae h;obtain⟨⟨a,l⟩,g,j⟩:=ae<|show(evA C b η1).bind (lM w)=_ from f;cases j;exact⟨w,η1,a,d,g,rfl⟩
theorem k4 {i:O}{b:U E}{c:U W}(h:evA C (.io i::b) η=.ok (c,η')):∃a η1 w,evA C b η=.ok (a,η1)/\rd η1 i=Y w/\c=w::a/\η'=del η1 i:=by obtain⟨⟨a,η1⟩,d,e⟩:=ae<|show(evA C b η).bind (kIo i)=_ from h;obtain⟨w,f,g⟩:=ae<|show(ofO<|rd η1 i).bind (λw=>.ok (w::a,del η1 i))=_ from e;cases g;exact⟨a,η1,w,d,ef f,rfl,rfl⟩
theorem AN (e:E):(∃i,e=.io i)\/∀i,e≠.io i:=by
 cases e with
 |io i=>exact .inl ⟨i,rfl⟩
 |_=>exact .inr λ_ z=>by cases z
theorem r8 {e:E}{f:U E}(σ:L2.St)(H:Hp)(Q:U V->Hp->Prop)(h:wL K sf C (e::f) σ H Q):nL (wE K sf C e) (wL K sf C f) σ H Q:=by obtain⟨pv,Z,Fs,η,D,η',A,ev,k⟩:=h;obtain⟨w,η1,y,o,p,rfl⟩:=ax ev;refine ju A o λx Z1 H1 Fs1 d c r _ t _=>?_;have a:=c.mono (G':=d) λ_ z=>.inr z;refine Dj a p λg m l b j i s n u v=>?_;refine k (x::g) m l b _ i ⟨x,g,d,j,rfl,λ_ z=>.inl z,λ_ z=>.inr z,n,r.frame c.gd.own u a.dis,s⟩ ?_;exact t.trans v
theorem ya (σ:L2.St)(H:Hp)(Q:U V->Hp->Prop)(h:wL K sf C [] σ H Q):xi σ H Q:=by obtain⟨pv,Z,Fs,η,c,η',A,ev,k⟩:=h;cases ev;exact k [] Z H Fs no A rfl ((Step.refl _ _ _).mono (λ_ z=>z) λa b=>b.elim id λz=>z.elim)
def Out (K:D1)(Z:Fp)(H:Hp)(G:Fp)(w:W)(Q:VK):Prop:=∀v Z' H' G',Rep K Z' H' w.1 w.2 v G'->Own Z' H' G'->Step Z H G Z' H' G'->Q v H'
theorem At.op (A:At K sl σ Z H Fs η G)(o:Own Z' H' G')(s:Step Z H G Z' H' G'):At K sl σ Z' H' Fs η G'/\Step Z H (λc=>tot Fs c\/G c) Z' H' (λc=>tot Fs c\/G' c):=by
 have d:∀a,tot Fs a->¬G a:=λa h q=>A.dis a q h;have f:=A.gd.own.frame s d;refine⟨⟨⟨f.1,A.gd.dis,s.za A.gd.zal⟩,λi m t e=>?_,o,λa b q=>f.2 a q b,A.lk,A.ln⟩,?_⟩
 .obtain ⟨v,r,g⟩:=A.env i m t e;exact⟨v,r.frame A.own s λa b=>d a ⟨i,b⟩,g⟩
 .refine(s.frame<|tot Fs).mono (λ_ z=>z.symm) λ_ z=>z.symm
theorem bL {w:W}{Q:VK}(A:At K sl σ Z1 H1 Fs1 η1 G)(s:Step Z H F Z1 H1 λa=>tot Fs1 a\/G a)
  (k:∀v Z' H' Fs' G,At K sl σ Z' H' Fs' η1 G->Rep K Z' H' w.1 w.2 v G->Step Z H F Z' H' (λa=>tot Fs' a\/G a)->Q v H'):Out K Z1 H1 G w Q:=λv Z' H' G' r o t=>by
 obtain⟨b,u⟩:=A.op o t;exact k v Z' H' Fs1 G' b r<|s.trans u
def Loc (K:D1)(n:O)(o:Op)(h:IZ)(r:U V->Hp->VK->Prop):Prop:=∀(b:U W) (w:W) (c:U V) (Z:Fp) (H:Hp) (G:Fp) (Q:VK),b.length=n->oSem o h b=Y w->RepW K Z H b c G->Own Z H G->(∀a,Z a->H a≠J)->Out K Z H G w Q->r c H Q
theorem b7 {o:Op}{h:IZ}{c:U E}{w:W}(e:evE C (.op o h c) η=.ok (w,η')):∃b,evL C c η=.ok (b,η')/\oSem o h b=Y w:=by obtain⟨⟨b,η1⟩,d,f⟩:=ae<|show(evL C c η).bind (kOp o h)=_ from e;obtain⟨a,g,i⟩:=aw<|show ret η1 (oSem o h b)=_ from f;cases i;exact⟨b,d,g⟩
theorem ej:∀{a:U E} {η η':Env} {b:U W},evL C a η=.ok (b,η')->b.length=a.length
|[],_,_,_,h=>by cases h;rfl
|e::a,_,_,_,h=>by obtain⟨w,η1,d,_,c,rfl⟩:=ax h;rw[Ef,Ef,ej c]
theorem ou {n:O}{o:Op}{h:IZ}{b:U E}{r:U V->Hp->VK->Prop}(l:Loc K n o h r)(f:b.length=n)(σ:L2.St)(H:Hp)(Q:VK)(g:wE K sf C (.op o h b) σ H Q):tCB r (wL K sf C b) σ H Q:=by obtain⟨pv,Z,Fs,η,w,η',A,ev,k⟩:=g;obtain⟨d,c,e⟩:=b7 ev;exact⟨pv,Z,Fs,η,d,η',A,c,λi Z' H' Fs' G a r s=>l d w i Z' H' G Q ((ej c).trans f) e r a.own a.gd.zal<|bL a s k⟩
theorem aX {o:Op}{h:IZ}{a b:E}{r:R2}(l:Loc K 2 o h λxs H Q=>∀x y,xs=[x,y]->r x y H Q)(σ:L2.St)(H:Hp)(Q:VK)(u:wE K sf C (.op o h [a,b]) σ H Q):tOp r (wE K sf C a) (wE K sf C b) σ H Q:=by obtain⟨pv,Z,Fs,η,w,η',A,ev,k⟩:=u;obtain⟨ws,s,t⟩:=b7 ev;obtain⟨wa,η1,us,e1,e2,rfl⟩:=ax s;obtain⟨wb,η2,us,e3,p,rfl⟩:=ax e2;cases p;refine ju A e1 λx Z1 H1 Fs1 f e v _ M _=>?_;have c:=e.mono (G':=f) λ_ z=>.inr z;refine ju c e3 λy m j g i d D n N P=>?_;exact l [wa,wb] w [x,y] m j _ Q rfl t ⟨x,[y],f,i,rfl,λ_ z=>.inl z,λ_ z=>.inr z,n,v.frame e.gd.own N c.dis,RepW.one D⟩ d.own d.gd.zal (bL d (M.trans P) k) x y rfl
theorem bA:Own Z H no:=λ_ z=>z.elim
theorem Step.drop:Step Z H G Z H no:=(Step.refl Z H G).mono (λ_ z=>z) λ_ z=>z.elim
section
variable {Q:VK}{m:Md}{ts:U T}{xs:U V}
theorem bx {i:I}(k:Out K Z H G (m,.int i) Q):Q (.int i) H:=k _ Z H no rfl bA .drop
theorem cZ {b:IZ}(k:Out K Z H G (m,.bl b) Q):Q (.bl b) H:=k _ Z H no rfl bA .drop
theorem lJ {x:Str}(k:Out K Z H G (m,.str x) Q)(h:sOk x=DY):Q (.str x) H:=k _ Z H no ⟨rfl,h⟩ bA .drop
theorem de {t:T}{v:V}(o:Own Z H G)(k:Out K Z H G (m,t) Q)(r:Rep K Z H m t v G):Q v H:=k v Z H G r o<|.refl _ _ _
theorem fK {p:IY}{o:HO}(hp:H p=J):Stay Z H (upd H p o):=by
 have b:∀{a u},H a=Y u->a≠p:=λ{a u} e z=>by subst z;rw[hp] at e;cases e
 refine⟨λa u _ e=>?_,λa xs e=>?_,λa u v e=>?_⟩
 .rw[ag<|b e];exact e
 .rcases e with e | ⟨u,e⟩
  .exact .inl (by rw[ag<|b e];exact e)
  .exact .inr ⟨u,by rw[ag<|b e];exact e⟩
 .rw[ag<|b e];exact e
theorem c8 {p:IY}{o:HO}(hp:H p=J)(j:Own Z H G)(f:∀a,G' a->G a\/a=p)(z:Fp)(g:∀a,Z a->z a)(b:∀a,z a->Z a\/G a):Step Z H G z (upd H p o) G':=by
 have i:∀{a u},H a=Y u->a≠p:=λ{a u} e q=>by subst q;rw[hp] at e;cases e
 have d:∀a,H a≠J->upd H p o a≠none:=λa h=>by
  by_cases e:a=p
  .rw[e,ah];simp
  .rw[ag e];exact h
 refine⟨λa u e _=>by rw[ag<|i e];exact e,g,λa h=>(b a h).imp id .inl,λa h=>(f a h).imp id λe=>by rw[e];exact hp,d,λq a h=>d a ?_⟩;rcases b a h with c|c
 .exact q a c
 .obtain ⟨_,xs,e⟩:=j a c;rw[e];simp
theorem bJ {p:IY}(b:Own Z H G)(n:∀a,Z a->H a≠J)(c:∀a,G' a->G a)(g:xs.length<=LIM)(r:RepL K (cj Z G G') H m.kid ts xs G')(i:m≠.s)(k:Out K Z H G (m,.lst ts) Q)(hp:H p=J):Q (.ref p) (upd H p<|.lst xs):=by
 have d:∀{a u},H a=Y u->a≠p:=λ{a u} e q=>by subst q;rw[hp] at e;cases e
 have j:∀a,G' a->a≠p:=λa h=>by obtain⟨_,f,e⟩:=b a<|c a h;exact d e
 refine k _ (cj Z G G') _ (λa=>G' a\/a=p) ⟨p,xs,rfl,g,(LstR.own i).mpr ⟨.inr rfl,ah⟩,?_⟩ ?_<|c8 hp b (λa h=>h.imp (c a) id) _ (λa h=>.inl h) λa h=>h.imp id FD
 .refine(r.keep (fK hp) (λ_ z=>z) λa u _ e=>by rw[ag<|d e];exact e).mono λa h=>⟨.inl h,j a h⟩
 .rintro a (h | h)
  .obtain ⟨l,f,e⟩:=b a<|c a h;exact⟨λz=>z.elim l λq=>q.2 h,f,by rw[ag<|d e];exact e⟩
  .subst h;refine⟨λz=>z.elim (λq=>n a q hp) λq=>?_,.inl xs,ah⟩;obtain⟨_,f,e⟩:=b a q.1;rw[hp] at e;cases e
theorem lx {p:IY}(d:Own Z H G)(b:∀a,G' a->G a)(f:xs.length<=LIM)(r:RepL K (cj Z G G') H m.kid ts xs G')(k:Out K Z H G (m,.tup ts) Q)(hp:H p=J):Q (.ref p) (upd H p<|.tup xs):=by
 have c:∀{a u},H a=Y u->a≠p:=λ{a u} e q=>by subst q;rw[hp] at e;cases e
 refine k _ (cj Z G G') _ G' ⟨p,xs,rfl,.inl<|.inl ah,f,?_⟩ ?_<|c8 hp d (λa h=>.inl<|b a h) _ (λa h=>.inl h) λa h=>h.imp id FD
 .exact r.keep (fK hp) (λ_ z=>z) λa u _ e=>by rw[ag<|c e];exact e
 .intro a h;obtain⟨g,i,e⟩:=d a<|b a h;exact⟨λz=>z.elim g λq=>q.2 h,i,by rw[ag<|c e];exact e⟩
theorem eU {v:V}{H':Hp}(j:Own Z H G)(i:∀a,G' a->G a)(l:xs.length<=LIM)(r:RepL K (cj Z G G') H m.kid ts xs G')(k:Out K Z H G (m,.tup ts) Q)(d:∀b o,H b=Y o->H' b=Y o)(p:∃c,v=.ref c/\SqT K H' c xs):Q v H':=by
 obtain⟨c,rfl,n⟩:=p
 have g:∀a,H a≠J->H' a≠none:=λa h=>by
  cases e:H a with
  |none=>exact Jb e h
  |some o=>rw[d a o e];simp
 refine k _ (cj Z G G') _ G' ⟨c,xs,rfl,n,l,?_⟩ (λa h=>?_) ⟨λa o e _=>d a o e,λa h=>.inl h,λa h=>h.imp id λq=>.inl q.1,λa h=>.inl<|i a h,g,λq a h=>g a ?_⟩
 .refine r.keep ⟨fun a o _ e=>d a o e,fun a f e=>?_,fun a o u e=>d a _ e⟩ (fun _ z=>z) fun a u _ e=>d a u e;rcases e with e|⟨u,e⟩
  .exact .inl (d a _ e)
  .exact .inr ⟨u,d a _ e⟩
 .obtain ⟨s,f,e⟩:=j a<|i a h;exact⟨λz=>z.elim s λq=>q.2 h,f,d a _ e⟩
 .rcases h with h | h
  .exact q a h
  .obtain ⟨_,f,e⟩:=j a h.1;rw[e];simp
theorem iC {p:IY}{h:IZ}{w:W}(g:Own Z H G)(i:∀a,Z a->H a≠J)(f:xs.length<=LIM)(r:∃G',(∀a,G' a->G a)/\RepL K (cj Z G G') H m ts xs G')(b:newL h m ts=Y w)(k:Out K Z H G w Q)(hp:H p=J):Q (.ref p) (upd H p<|.lst xs):=by
 obtain⟨G',j,r⟩:=r;unfold newL at b;split at b
 .split at b
  .rename_i c;cases b;refine bJ (m:=.d) (G':=no) g i (λ_ z=>z.elim) f ?_ (by simp) k hp;exact r.leaves (λ_ _ _ e=>e) c
  .cases b
 .cases b;exact bJ (m:=m.up) g i j f (by rw[fh];exact r) (dF m) k hp
end
end
section
variable {K:D1}{h:IZ}
theorem fv {d f:Type}{c:U d}{x y:f}(e:c.length=[x,y].length):∃a b,c=[a,b]:=by
 match c,e with
 |[a,b],_=>exact⟨a,b,rfl⟩
theorem ck {c d:Type}{b:U c}{x:d}(e:b.length=[x].length):∃a,b=[a]:=by
 match b,e with
 |[a],_=>exact⟨a,rfl⟩
theorem cn {Z:Fp}{H:Hp}{G:Fp}{u w:W}{x y:V}(r:RepW K Z H [u,w] [x,y] G):∃b c,(∀a,b a->G a)/\(∀a,c a->G a)/\(∀a,b a->¬c a)/\Rep K Z H u.1 u.2 x b/\Rep K Z H w.1 w.2 y c:=by obtain⟨v,s,b,c,e,j,k,d,p,A,t,i,m,e2,g,o,n,q,z⟩:=r;cases e;cases e2;exact⟨b,i,j,λa f=>k a<|g a f,λa f l=>d a f<|g a l,p,q⟩
theorem Cr {Z:Fp}{H:Hp}{G:Fp}{w:W}{x:V}(r:RepW K Z H [w] [x] G):Rep K Z H w.1 w.2 x G:=by obtain⟨i,g,b,c,e,a,f,d,p,z⟩:=r;cases e;exact p.mono a
theorem cJ {b:U W}{a:U V}{Z:Fp}{H:Hp}{G:Fp}{w:W}(c:b=[w])(r:RepW K Z H b a G):∃x,a=[x]/\Rep K Z H w.1 w.2 x G:=by subst c;obtain⟨x,hx⟩:=ck (x:=())<|show a.length=[()].length from r.length;subst hx;exact⟨x,rfl,Cr r⟩
theorem gQ {n:O}(h:n<=LIM):n<sizeLine:=FE h<|by decide
theorem br {n:O}(h:n<=LIM):n<=sizeLine:=GA<|gQ h
theorem bH {n:O}(h:fits n=DY):n<=LIM:=Ji h
theorem wg {o:Op}{C:I->I->Prop}{g:I->I->T}(a:∀{u v w:W},oSem o h [u,v]=Y w->∃m n i j,u=(m,.int i)/\v=(n,.int j)/\C i j/\w=(.d,g i j))(b:I->I->V)(l:∀{Z:Fp} {H:Hp} {G:Fp} {Q:VK} {i j:I},Out K Z H G (.d,g i j) Q->Q (b i j) H):
  Loc K 2 o h λf H Q=>∀x y,f=[x,y]->rI C b x y H Q:=by
 intro F w f Z H G Q A e r D M k x y hx;subst hx;obtain⟨u,v,rfl⟩:=fv r.length.symm;obtain⟨m,n,i,j,rfl,rfl,c,rfl⟩:=a e;obtain⟨t,z,_,_,_,p,s⟩:=cn r;exact⟨i,j,p,s,c,l k⟩
theorem ib {o:Op}{g:I->I->T}(a:∀{u v w:W},oSem o h [u,v]=Y w->∃m n i j,u=(m,.int i)/\v=(n,.int j)/\w=(.d,g i j))(b:I->I->V)(f:∀{Z:Fp} {H:Hp} {G:Fp} {Q:VK} {i j:I},Out K Z H G (.d,g i j) Q->Q (b i j) H):
  Loc K 2 o h λc H Q=>∀x y,c=[x,y]->rI0 b x y H Q:=by
 intro D w c Z H G Q z e r A F k x y hx;subst hx;obtain⟨u,v,rfl⟩:=fv r.length.symm;obtain⟨m,n,i,j,rfl,rfl,rfl⟩:=a e;obtain⟨s,t,_,_,_,l,p⟩:=cn r;exact⟨i,j,l,p,f k⟩
theorem uW {u v w:W}(e:oSem .sub h [u,v]=Y w):∃m n i j,u=(m,.int i)/\v=(n,.int j)/\w=(.d,.int<|i-j):=by obtain⟨m,a⟩:=u;obtain⟨n,b⟩:=v;cases a<;>first|(cases e;done)|(cases b<;>first|(cases e;exact⟨_,_,_,_,rfl,rfl,rfl⟩)|cases e)
theorem gU {u v w:W}(e:oSem .lt h [u,v]=Y w):∃m n i j,u=(m,.int i)/\v=(n,.int j)/\w=(.d,.bl<|decide (i<j)):=by obtain⟨m,a⟩:=u;obtain⟨n,b⟩:=v;cases a<;>first|(cases e;done)|(cases b<;>first|(cases e;exact⟨_,_,_,_,rfl,rfl,rfl⟩)|cases e)
theorem cF {u v w:W}(e:oSem .le h [u,v]=Y w):∃m n i j,u=(m,.int i)/\v=(n,.int j)/\w=(.d,.bl<|decide (i<=j)):=by obtain⟨m,a⟩:=u;obtain⟨n,b⟩:=v;cases a<;>first|(cases e;done)|(cases b<;>first|(cases e;exact⟨_,_,_,_,rfl,rfl,rfl⟩)|cases e)
theorem pQ {u v w:W}(e:oSem .gt h [u,v]=Y w):∃m n i j,u=(m,.int i)/\v=(n,.int j)/\w=(.d,.bl<|decide (j<i)):=by obtain⟨m,a⟩:=u;obtain⟨n,b⟩:=v;cases a<;>first|(cases e;done)|(cases b<;>first|(cases e;exact⟨_,_,_,_,rfl,rfl,rfl⟩)|cases e)
theorem nB {u v w:W}(e:oSem .fdiv h [u,v]=Y w):∃m n i j,u=(m,.int i)/\v=(n,.int j)/\xA i j/\w=(.d,.int<|i / j):=by
 obtain⟨m,a⟩:=u;obtain⟨n,b⟩:=v;cases a<;>first|(cases e;done)|(cases b<;>try (cases e;done))
 rename_i i j;rw[rg] at e;split at e
 .rename_i c;rw[Ew,Jg,Jg] at c;cases e;exact⟨_,_,_,_,rfl,rfl,c,rfl⟩
 .cases e
theorem rO {u v w:W}(e:oSem .mod h [u,v]=Y w):∃m n i j,u=(m,.int i)/\v=(n,.int j)/\(0<j)/\w=(.d,.int<|i % j):=by
 obtain⟨m,a⟩:=u;obtain⟨n,b⟩:=v;cases a<;>first|(cases e;done)|(cases b<;>try (cases e;done))
 rename_i i j;rw[vS] at e;split at e
 .rename_i c;rw[Jg] at c;cases e;exact⟨_,_,_,_,rfl,rfl,c,rfl⟩
 .cases e
theorem sR:Loc K 2 .sub h λa H Q=>∀x y,a=[x,y]->rI0 (λi j=>.int<|i-j) x y H Q:=ib uW _ λk=>bx k
theorem xM:Loc K 2 .lt h λa H Q=>∀x y,a=[x,y]->rI0 (λi j=>.bl<|decide (i<j)) x y H Q:=ib gU _ λk=>cZ k
theorem wD:Loc K 2 .le h λa H Q=>∀x y,a=[x,y]->rI0 (λi j=>.bl<|decide (i<=j)) x y H Q:=ib cF _ λk=>cZ k
theorem xf:Loc K 2 .gt h λa H Q=>∀x y,a=[x,y]->rI0 (λi j=>.bl<|decide (j<i)) x y H Q:=ib pQ _ λk=>cZ k
theorem pH:Loc K 2 .fdiv h λa H Q=>∀x y,a=[x,y]->rI xA (λi j=>.int<|i / j) x y H Q:=wg nB _ λk=>bx k
theorem ti:Loc K 2 .mod h λa H Q=>∀x y,a=[x,y]->rI (λ_ j=>0<j) (λi j=>.int<|i % j) x y H Q:=wg rO _ λk=>bx k
theorem cp {Z:Fp}{H:Hp}{G:Fp}{m:Md}{c:U T}{v:V}(r:Rep K Z H m (.lst c) v G):∃a b,v=.ref a/\H a=Y (.lst b)/\b.length<=LIM/\RepL K Z H m.kid c b G:=by obtain⟨a,b,e,l,q,p⟩:=r;exact⟨a,b,e,by cases m<;>exact q.2,l,p.mono λ_ z=>z.1⟩
theorem b0 {Z:Fp}{H:Hp}{G:Fp}{m:Md}{c:U T}{v:V}(r:Rep K Z H m (.tup c) v G):∃a b,v=.ref a/\SqT K H a b/\b.length<=LIM/\RepL K Z H m.kid c b G:=r
theorem jc {Z:Fp}{H:Hp}{G g i:Fp}{m n:Md}{l o:U T}{s t:U V}(p:∀a,g a->G a)(r:∀a,i a->G a)(d:∀a,g a->¬i a)(x:RepL K Z H m l s g)(y:RepL K Z H n o t i):
  ∃f,(∀a,f a->G a)/\RepL K (cj Z G f) H (m.meet n) (l++o) (s++t) f:=by
 obtain⟨A,j,u⟩:=RepL.weak (dh m n).1 x;obtain⟨c,k,v⟩:=RepL.weak (dh m n).2 y;refine⟨λb=>A b\/c b,λb e=>e.elim (λz=>p b<|j b z) λz=>r b<|k b z,RepL.append (λ_ z=>.inl z) (λ_ z=>.inr z) (λb D F=>d b (j b D)<|k b F) (u.zmono λb e=>?_)<|v.zmono λb e=>?_⟩
 .exact e.imp id λz=>⟨p b z.1,λq=>q.elim z.2 λw=>d b z.1<|k b w⟩
 .exact e.imp id λz=>⟨r b z.1,λq=>q.elim (λw=>d b (j b w) z.1) z.2⟩
theorem ui {p q:Str}(a:sOk p=DY)(b:sOk q=DY)(c:p.cps.size+q.cps.size<=LIM):sOk (p++q)=true:=by
 unfold sOk at *;rw[Ew] at *;refine⟨?_,I0 ?_⟩
 .show Array.all (p.cps++q.cps) _=DY;rw[Array.all_append,Ew];exact⟨a.1,b.1⟩
 .show (p.cps++q.cps).size<=LIM;rw[Array.size_append];exact c
theorem rG (rT:R2)(hT:∀{Z:Fp} {H:Hp} {G:Fp} {Q:VK} {a b:IY} {c l:U V} {A:U T},SqT K H a c->SqT K H b l->c≠[]->c.length+l.length<=LIM->Own Z H G->(∃D,(∀a,D a->G a)/\RepL K (cj Z G D) H .s A (c++l) D)->Out K Z H G (.s,.tup A) Q->rT (.ref a) (.ref b) H Q):
  Loc K 2 .add h λc H Q=>∀x y,c=[x,y]->rI0 (λi j=>.int<|i+j) x y H Q\/(∃i j,x=.str i/\y=.str j/\i.length+j.length<=sizeLine/\Q (.str<|i++j) H)\/Bf x y H Q\/rT x y H Q:=by
 intro ws w c Z H G Q hn e r ow za k x y hx;subst hx;obtain⟨⟨m,a⟩,⟨n,b⟩,rfl⟩:=fv r.length.symm;obtain⟨G1,G2,w1,w2,d,u,v⟩:=cn r;cases a<;>first|(cases e;done)|(cases b<;>try (cases e;done))
 .cases e;exact .inl ⟨_,_,u,v,bx k⟩
 .rename_i p q;rw[qh] at e;split at e
  .rename_i f;cases e;refine .inr<|.inl ⟨p,q,u.1,v.1,br<|bH f,lJ k ?_⟩;exact ui u.2 v.2<|bH f
  .cases e
 .rename_i A us;rw[ot] at e;split at e
  .rename_i f;cases e;rw[Ew] at f;obtain⟨a,c,rfl,P,hl,p⟩:=b0 u;obtain⟨b,l,rfl,g,M,t⟩:=b0 v;have o:=bH f.1;have e1:=p.length;have e2:=t.length;refine .inr (.inr (.inr (hT P g ?_ (by lia) ow ?_ k)))
   .rintro rfl;cases A with
    |nil=>simp at f
    |cons _ _=>simp at e1
   .refine ⟨no,fun _ z=>z.elim,RepL.append (G1:=no) (G2:=no) (fun _ z=>z) (fun _ z=>z) (fun _ z _=>z) ((RepL.sh p).zmono fun b F=>?_) ((RepL.sh t).zmono fun b F=>?_)⟩
    .exact F.imp id λz=>⟨w1 b z,λq=>q⟩
    .exact F.imp id λz=>⟨w2 b z,λq=>q⟩
  .cases e
 .rename_i A us;rw[qS] at e;split at e
  .rename_i f;obtain⟨a,c,rfl,P,hl,p⟩:=cp u;obtain⟨b,l,rfl,g,M,t⟩:=cp v;have o:=bH f;have e1:=p.length;have e2:=t.length;have N:(c++l).length<=LIM:=by rw[Er];lia
   refine .inr<|.inr<|.inl ⟨a,b,c,l,rfl,rfl,P,g,br<|by lia,λq hq=>?_⟩;exact iC ow za N (jc w1 w2 d p t) e k hq
  .cases e
theorem qI {Z:Fp}{H:Hp}{G:Fp}{m:Md}{a:U T}{b:U V}{i:I}{t:T}(p:RepL K Z H m a b G)(e:M.atI a i=Y t):∃x,L2.atI b i=Y x/\Rep K Z H m t x G:=by
 unfold M.atI at e;have c:M.ixN a.length i=L2.ixN b.length i:=by rw[p.length];rfl
 cases e1:M.ixN a.length i with
 |none=>rw[e1] at e;cases e
 |some j=>rw[e1] at e;obtain⟨x,hx,r⟩:=p.get<|show a[j]?=Y t from e;refine⟨x,?_,r⟩;unfold L2.atI;rw[<- c,e1];exact hx
theorem sC {x:Str}{c:O}(h:sOk x=DY)(d:c∈x.cps.toList):sOk ⟨#[c]⟩=true:=by
 unfold sOk at *;rw[Ew] at *;refine⟨?_,rfl⟩;have a:=h.1;rw[Hs] at a;have b:=a c<|Array.mem_def.mpr d;rw[Hs];intro y e;have:y=c:=by simpa using e
 rw[this];exact b
theorem gN {x:Str}(h:sOk x=DY):x.cps.size<=LIM:=by unfold sOk at h;rw[Ew,Jg] at h;exact h.2
theorem zq:Loc K 2 .ix h λg H Q=>∀x y,g=[x,y]->(∃p g i v,x=.ref p/\y=.int i/\(SqL K H p g\/SqT K H p g)/\L2.atI g i=Y v/\Q v H)\/(∃z i c,x=.str z/\y=.int i/\z.length<=sizeLine/\L2.atI z.cps.toList i=Y c/\Q (.str ⟨#[c]⟩) H):=by
 intro ws w g Z H G Q hn e r N za k x y hx;subst hx;obtain⟨⟨m,a⟩,⟨n,b⟩,rfl⟩:=fv r.length.symm;obtain⟨G1,G2,P,w2,d,o,A⟩:=cn r;obtain⟨i,rfl⟩:∃i,b=.int i:=by cases b<;>first|exact⟨_,rfl⟩|(cases e;done)|(cases a<;>cases e)
 cases a with
 | lst u =>
  obtain⟨a,g,rfl,s,hl,p⟩:=cp o;have f:(M.atI u i).map (λt=>(m.kid,t))=Y w:=e;cases e1:M.atI u i with
  |none=>rw[e1] at f;cases f
  |some t=>rw[e1] at f;cases f;obtain⟨v,D,F⟩:=qI p e1;exact .inl ⟨a,g,i,v,rfl,A,.inl<|.inl<|.inl s,D,de N k<|F.mono P⟩
 | tup u =>
  obtain⟨a,g,rfl,s,hl,p⟩:=b0 o;have f:(M.atI u i).map (λt=>(m.kid,t))=Y w:=e;cases e1:M.atI u i with
  |none=>rw[e1] at f;cases f
  |some t=>rw[e1] at f;cases f;obtain⟨v,D,F⟩:=qI p e1;exact .inl ⟨a,g,i,v,rfl,A,.inr s,D,de N k<|F.mono P⟩
 | str z =>
  have f:(M.atI z.cps.toList i).map (λc=>((.d,.str ⟨#[c]⟩):W))=Y w:=e;cases e1:M.atI z.cps.toList i with
  |none=>rw[e1] at f;cases f
  |some c=>
   rw[e1] at f;cases f;refine .inr ⟨z,i,c,o.1,A,br<|gN o.2,e1,lJ k<|sC o.2 ?_⟩;unfold M.atI at e1;cases e2:M.ixN z.cps.toList.length i with
   |none=>rw[e2] at e1;cases e1
   |some j=>rw[e2] at e1;exact GF e1
 | scr l =>
  obtain⟨a,rfl,hL,s⟩:=o;have f:(M.atI l i).map (λn=>((.d,.int n):W))=Y w:=e;cases e1:M.atI l i with
  |none=>rw[e1] at f;cases f
  | some n =>
   rw[e1] at f;cases f;refine .inl ⟨a,_,i,.int n,rfl,A,.inl s.sq,?_,bx k⟩;unfold M.atI at e1;unfold L2.atI;rw[Ea];cases e2:M.ixN l.length i with
   |none=>rw[e2] at e1;cases e1
   |some j=>rw[e2] at e1;rw[show L2.ixN l.length i=Y j from e2];show(l.map V.int)[j]?=_;rw[ER,show l[j]?=Y n from e1];rfl
 |_=>cases e
theorem ua:Loc K 1 .len h λb H Q=>∃x n,b=[x]/\(match x with
  |.str y=>y.length<=sizeLine/\n=y.length
  |.byt y=>y.size<=sizeLine/\n=y.size
  |.ref p=>(∃b,SqL K H p b/\n=b.length)\/∃b,SqT K H p b/\n=b.length
  |_=>Jh)/\Q (.int (n:O)) H:=by
 intro l w b Z H G Q i e r s t k
 match l,i with
 | [(m,a)],_ =>
  obtain⟨x,rfl,d⟩:=cJ rfl r;cases a with
  |lst f=>obtain⟨a,b,hx,c,g,p⟩:=cp d;cases e;refine⟨x,f.length,rfl,?_,bx k⟩;rw[show x=.ref a from hx];exact .inl ⟨b,.inl<|.inl c,p.length.symm⟩
  |tup f=>obtain⟨a,b,hx,c,g,p⟩:=b0 d;cases e;refine⟨x,f.length,rfl,?_,bx k⟩;rw[show x=.ref a from hx];exact .inr ⟨b,c,p.length.symm⟩
  |str z=>cases e;refine⟨x,z.length,rfl,?_,bx k⟩;rw[show x=.str z from d.1];exact⟨br<|gN d.2,rfl⟩
  |scr j=>obtain⟨a,hx,o,c⟩:=d;cases e;refine⟨x,j.length,rfl,?_,bx k⟩;rw[show x=.ref a from hx];exact .inl ⟨_,c.sq,by rw[Ea]⟩
  |_=>cases e
theorem kc {Z:Fp}{H:Hp}{G:Fp}{m:Md}:∀a:U I,RepL K Z H m (a.map T.int) (a.map V.int) G
|[]=>rfl
|n::a=>⟨.int n,a.map V.int,no,no,rfl,λ_ z=>z.elim,λ_ z=>z.elim,λ_ z=>z.elim,rfl,kc a⟩
end
section
variable {K:D1}{sl:Cf}{sf:O->B O}{C:Call}{σ:L2.St}{Z Z' Z1:Fp}{H H' H1:Hp}{Fs Fs' Fs1:Fps}{η η' η1:Env}{G G' R F:Fp}
mutual
theorem Rep.sany:∀{t:T} {v:V} {G G':Fp},Rep K Z H .s t v G->Rep K Z H .s t v G'
|.non,_,_,_,h=>h
|.bl _,_,_,_,h=>h
|.int _,_,_,_,h=>h
|.str _,_,_,_,h=>h
|.scr _,_,_,_,h=>h
|.tup ts,_,_,_,⟨a,xs,e,q,l,r⟩=>⟨a,xs,e,q,l,RepL.sany r⟩
|.lst ts,_,_,_,⟨a,xs,e,l,q,r⟩=>⟨a,xs,e,l,q,RepL.sany r⟩
|.dct _ _,_,_,_,⟨a,xs,e,l,q,n,hl,r⟩=>⟨a,xs,e,l,q,n,hl,r⟩
|.ins _ _ _,_,_,_,h=>h
|.dtt _ _,_,_,_,h=>h
|.obj _ _ _,_,_,_,h=>h
|.gone,_,_,_,h=>h
theorem RepL.sany:∀{ts:U T} {xs:U V} {G G':Fp},RepL K Z H .s ts xs G->RepL K Z H .s ts xs G'
|[],_,_,_,h=>h
|t::ts,xs,_,_,⟨x,r,G1,G2,e,h1,h2,hd,p,q⟩=>⟨x,r,no,no,e,λ_ z=>z.elim,λ_ z=>z.elim,λ_ z=>z.elim,Rep.sany p,RepL.sany q⟩
end
theorem a8:∀(η:Env) (i j:O) (o:B W),rd (wr η i o) j=if j=i/\i < η.length then o else rd η j
|[],i,j,o=>by simp[wr,rd]
|p::η,0,0,o=>by simp[wr,rd]
|p::η,0,j+1,o=>by simp[wr,rd]
|p::η,i+1,0,o=>by simp[wr,rd]
|p::η,i+1,j+1,o=>by show rd (wr η i o) j=_;rw[a8 η i j o];simp[rd]
theorem cB:∀{η:Env} {i:O} {w:W},rd η i=Y w->i < η.length
|[],_,_,h=>by cases h
|_::_,0,_,_=>by simp
|_::η,i+1,_,h=>by have:=cB (η:=η) (i:=i) h;simp;exact this
theorem dq (h:∀a,F a->G a):Step Z H G Z H F:=(Step.refl Z H G).mono (λ_ z=>z) h
theorem zM {i j:O}(f:sf i=Y j)(σ:L2.St)(H:Hp)(Q:VK)(h:wE K sf C (.var i) σ H Q):qU j σ H Q:=by
 obtain⟨pv,Z,Fs,η,w,η',A,ev,k⟩:=h;obtain⟨l,e1,e2⟩:=aw<|show ret η ((rd η i).bind look)=_ from ev;cases e2;cases e3:rd η i with
 |none=>rw[e3] at e1;cases e1
 | some u =>
  rw[e3] at e1;obtain⟨m,t⟩:=u;obtain⟨v,r,g⟩:=A.env i m t e3;refine⟨v,g.1 j f,k v Z H Fs no A ?_<|dq λa e=>e.elim id λz=>z.elim⟩;cases m with
  |s=>cases e1;exact r.sany
  |d=>
   have b:(if t.leaf=DY then Y (Md.d,t) else J)=Y w:=e1;split at b
   .rename_i c;cases b;exact r.leaf (λ_ _ _ q=>q) c
   .cases b
  |o m=>
   have b:(if t.leaf=DY then Y (Md.d,t) else J)=Y w:=e1;split at b
   .rename_i c;cases b;exact r.leaf (λ_ _ _ q=>q) c
   .cases b
def Bt (Fs:Fps)(i:O):Fps:=λj a=>j≠i/\Fs j a
theorem wJ {e:E}{i j:O}(o:∀η,evE C e η=ret (del η i) (rd η i))(p:sf i=Y j)(σ:L2.St)(H:Hp)(Q:VK)(h:wE K sf C e σ H Q):qU j σ H Q:=by
 obtain⟨pv,Z,Fs,η,w,η',A,ev,k⟩:=h;rw[o] at ev;obtain⟨N,e1,e2⟩:=aw ev;cases e2;obtain⟨m,t⟩:=w;obtain⟨v,r,s⟩:=A.env i m t e1;refine⟨v,s.1 j p,k v Z H (Bt Fs i) (Fs i) ⟨⟨λa ⟨l,d,b⟩=>A.gd.own a ⟨l,b⟩,λl u a d b=>A.gd.dis l u a d.2 b.2,A.gd.zal⟩,λl x D e=>?_,λa c=>A.gd.own a ⟨i,c⟩,λa c ⟨l,d,b⟩=>d<|A.gd.dis l i a b c,A.lk,A.ln⟩ r<|dq λa c=>c.elim (λ⟨l,d,b⟩=>⟨l,b⟩) λz=>⟨i,z⟩⟩;rw[a8] at e;split at e
 .cases e
 .rename_i g;obtain⟨M,y,n⟩:=A.env l x D e;have f:l≠i:=λz=>g ⟨z,cB e1⟩;exact⟨M,y.mono λa c=>⟨f,c⟩,n⟩
theorem fC {t:T}{v:V}(c:∀{Z:Fp} {H:Hp},Rep K Z H .d t v no)(σ:L2.St)(H:Hp)(Q:VK)(h:wE K sf C (.cst t) σ H Q):tC v σ H Q:=by obtain⟨pv,Z,Fs,η,w,η',A,ev,k⟩:=h;cases ev;exact k v Z H Fs no A c<|dq λa b=>b.elim id λz=>z.elim
theorem wB {b:U E}(j:b.length<=LIM)(σ:L2.St)(H:Hp)(Q:VK)(h:wE K sf C (.tup b) σ H Q):Ba (wL K sf C b) σ H Q:=by
 obtain⟨pv,Z,Fs,η,w,η',A,ev,k⟩:=h;obtain⟨⟨e,η1⟩,c,i⟩:=ae<|show(evL C b η).bind oq=_ from ev;cases i;refine⟨pv,Z,Fs,η,e,_,A,c,λn Z' H' Fs' G a r s=>?_⟩;have d:n.length<=LIM:=by rw[r.length,ej c];exact j
 obtain⟨G',f,g⟩:=RepW.to (λu l=>eP l) r;refine⟨br d,λp hp=>lx (m:=(fJ e).up) a.own f d (by rw[fh];exact g) (bL a s k) hp⟩
theorem xB {b:IZ}{c:U E}(n:c.length<=LIM)(σ:L2.St)(H:Hp)(Q:VK)(h:wE K sf C (.lst b c) σ H Q):Aw (wL K sf C c) σ H Q:=by
 obtain⟨pv,Z,Fs,η,w,η',A,ev,k⟩:=h;obtain⟨⟨j,η1⟩,g,l⟩:=ae<|show(evL C c η).bind (qX b)=_ from ev;cases l;refine⟨pv,Z,Fs,η,j,_,A,g,λt Z' H' Fs' G a r s=>?_⟩;have f:t.length<=LIM:=by rw[r.length,ej g];exact n
 refine⟨br f,λp hp=>?_⟩;cases b with
 |true=>obtain⟨G',d,e⟩:=RepW.to (λu i=>eP i) r;exact bJ (m:=(fJ j).up) a.own a.gd.zal d f (by rw[fh];exact e) (dF _) (bL a s k) hp
 |false=>obtain⟨G',d,e⟩:=RepW.to (N:=.s) (λu i=>by cases lf u.1 u.2<;>rfl) r;exact bJ (m:=.o .s) a.own a.gd.zal d f e (by simp) (bL a s k) hp
def wT (K:D1)(sl:O->B O)(C:Call)(e:E):TT:=λσ H Q=>∃pv Z Fs η w η' b,At K ⟨sl,pv⟩ σ Z H Fs η no/\evE C e η=.ok (w,η')/\truth w.2=Y b /\
 ∀Z' H' Fs',At K ⟨sl,pv⟩ σ Z' H' Fs' η' no->Step Z H (tot Fs) Z' H' (tot Fs')->Q b H'
def TrV (K:D1)(x:V)(H:Hp)(k:IZ):Prop:=
 match x with
 |.non=>k=DX
 |.bl b=>k=b
 |.int i=>k=(i != 0)
 |.str y=>y.length<=sizeLine/\k=((y.length:I) != 0)
 |.ref p=>(∃a,SqL K H p a/\k=!a.isEmpty)\/(∃a,SqT K H p a/\k=!a.isEmpty)
 |_=>Jh
theorem cq {c d:Type}{a:U c}{b:U d}(h:a.length=b.length):a.isEmpty=b.isEmpty:=by cases a<;>cases b<;>first|rfl|simp at h
theorem mO {m:Md}{t:T}{v:V}{b:IZ}(e:truth t=Y b)(r:Rep K Z H m t v G):TrV K v H b:=by
 cases t with
 |non=>cases e;rw[show v=_ from r];rfl
 |bl c=>cases e;rw[show v=_ from r];rfl
 |int i=>cases e;rw[show v=_ from r];rfl
 |str x=>
  cases e;rw[show v=_ from r.1];refine⟨br<|gN r.2,?_⟩;show(x.cps.size != 0)=(((x.cps.size:O):I) != 0);cases x.cps.size with
  |zero=>rfl
  |succ n=>simp;lia
 |tup h=>obtain⟨a,f,rfl,d,g,p⟩:=b0 r;cases e;exact .inr ⟨f,d,by rw[cq p.length]⟩
 |lst h=>obtain⟨a,f,rfl,d,g,p⟩:=cp r;cases e;exact .inl ⟨f,.inl<|.inl d,by rw[cq p.length]⟩
 |scr k=>obtain⟨a,rfl,j,d⟩:=r;cases e;exact .inl ⟨_,d.sq,by rw[cq<|Ea ..]⟩
 |dct _ _=>cases e
 |ins _ _ _=>cases e
 |obj _ _ _=>cases e
 |dtt _ _=>cases e
 |gone=>cases e
theorem oH {e:E}{w:W}{b:IZ}{Q:IZ->Hp->Prop}(A:At K sl σ Z H Fs η no)(ev:evE C e η=.ok (w,η'))(a:truth w.2=Y b)(k:∀Z' H' Fs',At K sl σ Z' H' Fs' η' no->Step Z H (tot Fs) Z' H' (tot Fs')->Q b H'):wT K sl.sl C e σ H Q:=⟨sl.pv,Z,Fs,η,w,η',b,A,ev,a,k⟩
theorem b9 {a:Type}{f g:Env->Res a}{p:W×Env}{r:a}(h:onT f g p=.ok r):∃b,truth p.1.2=Y b/\(if b=DY then f p.2 else g p.2)=.ok r:=by
 unfold onT at h;split at h
 .rename_i e;exact⟨DY,e,h⟩
 .rename_i e;exact⟨DX,e,h⟩
 .cases h
theorem yZ {a b:E}(σ:L2.St)(H:Hp)(Q:IZ->Hp->Prop)(h:wT K sf C (.and a b) σ H Q):Bq (wT K sf C a) (wT K sf C b) σ H Q:=by
 obtain⟨pv,Z,Fs,η,w,η',c,A,ev,j,k⟩:=h;obtain⟨⟨u,η1⟩,p,r⟩:=ae<|show(evE C a η).bind (qu<|evE C b)=_ from ev;obtain⟨d,i,e⟩:=b9<|show onT (evE C b) (okW u) (u,η1)=_ from r;refine oH A p i λZ1 H1 Fs1 g l=>?_;cases d with
 |true=>rw[Jc rfl] at e ⊢;exact oH g e j λo n f m s=>k o n f m<|l.trans s
 |false=>rw[Jd EI] at e ⊢;cases e;cases(i.symm.trans j);exact k Z1 H1 Fs1 g l
theorem BM {a b:E}(σ:L2.St)(H:Hp)(Q:IZ->Hp->Prop)(h:wT K sf C (.or a b) σ H Q):tOr (wT K sf C a) (wT K sf C b) σ H Q:=by
 obtain⟨pv,Z,Fs,η,w,η',c,A,ev,j,k⟩:=h;obtain⟨⟨u,η1⟩,p,r⟩:=ae<|show(evE C a η).bind (kOr<|evE C b)=_ from ev;obtain⟨d,i,e⟩:=b9<|show onT (okW u) (evE C b) (u,η1)=_ from r;refine oH A p i λZ1 H1 Fs1 g l=>?_;cases d with
 |false=>rw[Jd EI] at e ⊢;exact oH g e j λo n f m s=>k o n f m<|l.trans s
 |true=>rw[Jc rfl] at e ⊢;cases e;cases(i.symm.trans j);exact k Z1 H1 Fs1 g l
theorem yJ {c a b:E}(σ:L2.St)(H:Hp)(Q:VK)(h:wE K sf C (.ifx c a b) σ H Q):tIf (wT K sf C c) (wE K sf C a) (wE K sf C b) σ H Q:=by
 obtain⟨pv,Z,Fs,η,w,η',A,ev,k⟩:=h;obtain⟨⟨u,η1⟩,j,l⟩:=ae<|show(evE C c η).bind (onT (evE C a)<|evE C b)=_ from ev;obtain⟨d,m,f⟩:=b9 l;refine oH A j m λZ1 H1 Fs1 g i=>?_;cases d with
 |true=>rw[Jc rfl] at f ⊢;exact⟨pv,Z1,Fs1,η1,w,η',g,f,λv Z' H' Fs' G e r s=>k v Z' H' Fs' G e r<|i.trans s⟩
 |false=>rw[Jd EI] at f ⊢;exact⟨pv,Z1,Fs1,η1,w,η',g,f,λv Z' H' Fs' G e r s=>k v Z' H' Fs' G e r<|i.trans s⟩
end
section
variable {K:D1}{sl:Cf}{sf:O->B O}{C:Call}{σ:L2.St}{Z Z' Z1:Fp}{H H' H1:Hp}{Fs Fs' Fs1:Fps}{η η' η1:Env}{G G' R F:Fp}
structure Wk (K:D1)(J:It)(Z:Fp)(H0:Hp)(ts:U (U W)):Prop where
 go:∀H i,Stay Z H0 H->i<ts.length->J.go i H
 stop:∀H i,Stay Z H0 H->ts.length<=i->J.stop i H
 len:ts.length<=LIM
def pf (K:D1)(a:It)(Z:Fp)(c:Hp)(b:U<|U W):Prop:=
 ∀H i x H',Stay Z c H->i<b.length->a.yld i H x H'->H'=H/\∃w,b[i]?=Y [w]/\Rep K Z H w.1 w.2 x no
def Dl (K:D1)(a:It)(Z:Fp)(d:Hp)(c:U<|U W):Prop:=
 ∀H i x H',Stay Z d H->i<c.length->a.yld i H x H'->∃p y z u w,x=.ref p/\(∀b o,H b=Y o->H' b=Y o)/\SqT K H' p [y,z]/\c[i]?=Y [u,w]/\Rep K Z H u.1 u.2 y no/\Rep K Z H w.1 w.2 z no
theorem jr (c:∀b o,H b=Y o->H' b=Y o):Stay Z H H':=by
 refine⟨λa o _ e=>c a o e,λa d e=>?_,λa o u e=>c a _ e⟩;rcases e with e|⟨u,e⟩
 .exact .inl (c a _ e)
 .exact .inr ⟨u,c a _ e⟩
theorem eG (b:∀a o,H a=Y o->H' a=Y o):Step Z H G Z H' G:=by
 have c:∀a,H a≠J->H' a≠none:=λa h=>by
  cases e:H a with
  |none=>exact Jb e h
  |some o=>rw[b a o e];simp
 exact⟨λa o h _=>b a o h,λ_ h=>h,λ_ h=>.inl h,λ_ h=>.inl h,c,λz a h=>c a<|z a h⟩
theorem jH {p:IY}{o:HO}(hp:H p=J):∀b u,H b=Y u->upd H p o b=Y u:=λa u e=>by
 have:a≠p:=λq=>by subst q;rw[hp] at e;cases e
 rw[ag this];exact e
def Yld (K:D1)(a:It)(Z:Fp)(b:Hp)(c:U<|U W):O->Prop
|1=>pf K a Z b c
|2=>Dl K a Z b c
|_=>Jh
def wI (K:D1)(sl:O->B O)(C:Call)(n:O)(k:Ik)(b:U E):TI:=λσ H R=>∃pv Z Fs η d η' c,At K ⟨sl,pv⟩ σ Z H Fs η no/\evL C b η=.ok (d,η')/\turns k d=Y c /\
 ∀a Z' H' Fs',At K ⟨sl,pv⟩ σ Z' H' Fs' η' no->Step Z H (tot Fs) Z' H' (tot Fs')->Wk K a Z' H' c->Yld K a Z' H' c n->R a H'
theorem At.freeze (A:At K sl σ Z H Fs η G):At K sl σ (λa=>Z a\/G a) H Fs η no:=by
 refine⟨⟨λa b=>⟨λz=>z.elim (A.gd.own a b).1 λq=>A.dis a q b,(A.gd.own a b).2⟩,A.gd.dis,λa h=>h.elim (A.gd.zal a) λq=>?_⟩,λi m t e=>?_,bA,λ_ z=>z.elim,A.lk,A.ln⟩
 .obtain ⟨_,c,e⟩:=A.own a q;rw[e];simp
 .obtain ⟨v,r,h⟩:=A.env i m t e;exact⟨v,r.zmono λa h=>.inl h,h⟩
theorem aS (o:Own Z' H' G)(s:Step Z H F Z' H' λa=>F' a\/G a):Step Z H F (λa=>Z' a\/G a) H' F' where
 keep:=s.keep
 zm:=λa h=>.inl<|s.zm a h
 zn:=λa h=>h.elim (s.zn a) λq=>.inr<|s.fn a<|.inr q
 fn:=λa h=>s.fn a<|.inl h
 al:=s.al
 za:=λz a h=>h.elim (s.za z a) λq=>by obtain⟨_,b,e⟩:=o a q;rw[e];simp
theorem b6 {a:IY}{c:U V}{b:Hp}(s:Stay Z b H)(d:Z a)(h:b a=Y (.lst c)):SqL K H a c:=.inl<|.inl<|s.1 a _ d h
theorem tj {a:IY}{c:U V}{b:U T}(k:c.length<=LIM)(f:Z a)(h:H a=Y (.lst c))(r:RepL K Z H .s b c no):Wk K (Itl K a) Z H (b.map λt=>[(.s,t)])/\pf K (Itl K a) Z H (b.map λt=>[(.s,t)]):=by
 have l:=r.length;refine⟨⟨λH' i s d=>?_,λH' i s d=>?_,by rw[Ea];lia⟩,λH' i x g s d y=>?_⟩
 .rw [Ea] at d;exact⟨c,c[i]'(by lia),b6 s f h,by simp⟩
 .rw [Ea] at d;exact⟨c,b6 s f h,by lia⟩
 .rw [Ea] at d;obtain⟨rfl,y⟩:=y;have hx:=y c<|b6 s f h;obtain⟨m,e,j⟩:=r.get (show b[i]?=Y b[i] by simp);rw[hx] at e;cases e;refine⟨rfl,(.s,b[i]),by rw[ER,show b[i]?=Y b[i] by simp];rfl,j.keep s (λ_ z=>z) λ_ _ z=>z.elim⟩
theorem yL {a:IY}{c:U V}{b:U T}(j:c.length<=LIM)(h:SqT K H a c)(r:RepL K Z H .s b c no):Wk K (Itt K a) Z H (b.map λt=>[(.s,t)])/\pf K (Itt K a) Z H (b.map λt=>[(.s,t)]):=by
 have k:=r.length;refine⟨⟨λH' i s d=>?_,λH' i s d=>?_,by rw[Ea];lia⟩,λH' i x f s d y=>?_⟩
 .rw [Ea] at d;exact⟨c,c[i]'(by lia),s.sqt h,by simp⟩
 .rw [Ea] at d;exact⟨c,s.sqt h,by lia⟩
 .rw [Ea] at d;obtain⟨rfl,y⟩:=y;have hx:=y c<|s.sqt h;obtain⟨l,e,g⟩:=r.get (show b[i]?=Y b[i] by simp);rw[hx] at e;cases e;refine⟨rfl,(.s,b[i]),by rw[ER,show b[i]?=Y b[i] by simp];rfl,g.keep s (λ_ z=>z) λ_ _ z=>z.elim⟩
theorem xk {lo:I}{n:O}(c:n<=LIM):Wk K (Itr lo n) Z H ((Eb n).map λ(k:O)=>[(.d,.int<|lo+k)])/\pf K (Itr lo n) Z H ((Eb n).map λ(k:O)=>[(.d,.int<|lo+k)]):=by refine⟨⟨λH' i s a=>by show i<n;simpa using a,λH' i s a=>by show n<=i;simpa using a,by simpa using c⟩,λH' i x b s a y=>?_⟩;obtain⟨rfl,rfl⟩:=y;refine⟨rfl,(.d,.int<|lo+i),?_,rfl⟩;rw[Ea,FV] at a;rw[ER,Hv a];rfl
theorem jy {a:IY}{c:U I}{b:Hp}(s:Stay Z b H)(h:ScrR K b a c):SqL K H a (c.map V.int):=(h.keep s.2.2).sq
theorem zV {a:IY}{b:U I}(f:b.length<=LIM)(h:ScrR K H a b):Wk K (Itl K a) Z H (b.map λn=>[(.d,.int n)])/\pf K (Itl K a) Z H (b.map λn=>[(.d,.int n)]):=by
 refine⟨⟨λH' i s c=>?_,λH' i s c=>?_,by rw[Ea];exact f⟩,λH' i x e s c y=>?_⟩
 .rw [Ea] at c;exact⟨_,(b.map V.int)[i]'(by rw[Ea];exact c),jy s h,by simp⟩
 .rw [Ea] at c;exact⟨_,jy s h,by rw[Ea];exact c⟩
 .rw [Ea] at c;obtain⟨rfl,y⟩:=y;have hx:=y _<|jy s h;refine⟨rfl,(.d,.int b[i]),by rw[ER,show b[i]?=Y b[i] by simp];rfl,?_⟩;rw[ER,show b[i]?=Y b[i] by simp] at hx;exact(EC hx).symm
theorem wC {e:E}(σ:L2.St)(H:Hp)(R:It->Hp->Prop)(h:wI K sf C 1 .seq [e] σ H R):vU K (wE K sf C e) σ H R\/CC K (wE K sf C e) σ H R:=by
 obtain⟨pv,Z,Fs,η,u,η',o,A,ev,f,k⟩:=h;obtain⟨⟨m,a⟩,η1,t,e1,e2,rfl⟩:=ax ev;cases e2;cases a with
 |lst g=>cases f;refine .inl ⟨pv,Z,Fs,η,_,_,A,e1,λv Z' H' Fs' G b r s=>?_⟩;obtain⟨a,i,rfl,l,q,p⟩:=Rep.sh r;obtain⟨c,d⟩:=tj l q.1 q.2 p.sany;exact⟨a,rfl,⟨i,.inl<|.inl q.2⟩,k _ _ H' Fs' b.freeze (aS b.own s) c d⟩
 |tup g=>cases f;refine .inr ⟨pv,Z,Fs,η,_,_,A,e1,λv Z' H' Fs' G b r s=>?_⟩;obtain⟨a,i,rfl,q,l,p⟩:=Rep.sh r;obtain⟨c,d⟩:=yL l q p.sany;exact⟨a,rfl,⟨i,q⟩,k _ _ H' Fs' b.freeze (aS b.own s) c d⟩
 |scr n=>cases f;refine .inl ⟨pv,Z,Fs,η,_,_,A,e1,λv Z' H' Fs' G b r s=>?_⟩;obtain⟨a,rfl,j,q⟩:=r;obtain⟨c,d⟩:=zV (Z:=λa=>Z' a\/G a) j q;exact⟨a,rfl,⟨_,q.sq⟩,k _ _ H' Fs' b.freeze (aS b.own s) c d⟩
 |_=>cases f
theorem p62:(2:I) ^ 62=4611686018427387904:=by decide
theorem vf {e:E}(σ:L2.St)(H:Hp)(R:It->Hp->Prop)(h:wI K sf C 1 .rng [e] σ H R):vI (wL K sf C [e]) σ H R:=by
 obtain⟨pv,Z,Fs,η,l,η',o,A,ev,c,k⟩:=h;refine⟨pv,Z,Fs,η,l,η',A,ev,λt Z' H' Fs' G b r s=>?_⟩;obtain⟨⟨m,a⟩,η1,p,e1,e2,rfl⟩:=ax ev;cases e2;obtain⟨x,rfl,j⟩:=cJ rfl r;cases a with
 | int n =>
  rw[qN] at c;split at c
  .rename_i d;rw[Ew,Jg] at d;cases c;refine⟨n,by rw[show x=_ from j],by rw[p62];lia,by rw[p62];lia,?_⟩;obtain⟨f,g⟩:=xk (K:=K) (Z:=λa=>Z' a\/G a) (H:=H') (lo:=0) (n:=n.toNat) (bH d.2);have i:∀k:O,(0:I)+(k:I)=k:=λk=>by lia
   simp only[i] at f g;exact k _ _ H' Fs' b.freeze (aS b.own s) f g
  .cases c
 |_=>cases c
theorem vV {m:Md}{t:T}{v:V}{c:U T}(e:dP (m,t)=Y c)(r:Rep K Z H m t v G):∃k a b,v=.ref a/\b.length<=LIM/\RepL K (λa=>Z a\/G a) H .s c b no/\∀H',Stay (λa=>Z a\/G a) H H'->Sq K H' k a b:=by
 cases t with
 |lst d=>cases e;obtain⟨a,b,rfl,l,q,p⟩:=Rep.sh r;exact⟨DX,a,b,rfl,l,p.sany,λH' s=>b6 s q.1 q.2⟩
 |tup d=>cases e;obtain⟨a,b,rfl,q,l,p⟩:=Rep.sh r;exact⟨DY,a,b,rfl,l,p.sany,λH' s=>s.sqt q⟩
 |_=>cases e
theorem iy {m n:Md}:∀{ts us:U T} {i:O} {t u:T},ts[i]?=Y t->us[i]?=Y u->(fT m n ts us)[i]?=Y [(m,t),(n,u)]
|t::ts,u::us,0,_,_,h,a=>by cases h;cases a;rfl
|t::ts,u::us,i+1,_,_,h,a=>iy (ts:=ts) (us:=us) (i:=i) h a
|[],_,_,_,_,h,_=>by simp at h
|_::_,[],_,_,_,_,a=>by simp at a
theorem cw {m n:Md}:∀{a b:U T},(fT m n a b).length=min a.length b.length
|[],_=>by simp[fT]
|_::_,[]=>by simp[fT]
|t::a,u::b=>by show(fT m n a b).length+1=_;rw[cw];simp
theorem yS {e e':E}(σ:L2.St)(H:Hp)(R:It->Hp->Prop)(h:wI K sf C 2 .zip [e,e'] σ H R):Bx K (wL K sf C [e,e']) σ H R:=by
 obtain⟨pv,Z,Fs,η,ws,η',ts,A,ev,ht,k⟩:=h;refine⟨pv,Z,Fs,η,ws,η',A,ev,λvs Z' H' Fs' G d r s=>?_⟩;obtain⟨⟨m,a⟩,η1,us,e1,e2,rfl⟩:=ax ev;obtain⟨⟨n,b⟩,η2,us,e3,e4,rfl⟩:=ax e2;cases e4;obtain⟨x,y,hx⟩:∃x y,vs=[x,y]:=fv (x:=()) (y:=())<|show vs.length=[(),()].length from r.length;subst hx;obtain⟨G1,G2,g1,g2,_,r1,r2⟩:=cn r;have f:((dP (m,a)).bind λts=>(dP (n,b)).bind λus=>Y (fT .s .s ts us))=Y ts:=ht;cases M:dP (m,a) with
 |none=>rw[M] at f;cases f
 | some N =>
  cases Q:dP (n,b) with
  |none=>rw[M,Q] at f;cases f
  | some P =>
   rw[M,Q] at f;cases f;obtain⟨k1,a1,t,rfl,L1,p1,q1⟩:=vV M r1;obtain⟨k2,a2,u,rfl,L2',p2,q2⟩:=vV Q r2;have z1:∀c,(Z' c\/G1 c)->(Z' c\/G c):=λc h=>h.imp id (g1 c);have z2:∀c,(Z' c\/G2 c)->(Z' c\/G c):=λc h=>h.imp id (g2 c);have j:∀g,Stay (λc=>Z' c\/G c) H' g->Sq K g k1 a1 t:=λg s=>q1 g ⟨λc o hc=>s.1 c o<|z1 c hc,s.2⟩;have l:∀g,Stay (λc=>Z' c\/G c) H' g->Sq K g k2 a2 u:=λg s=>q2 g ⟨λc o hc=>s.1 c o<|z2 c hc,s.2⟩;have l1:=p1.length;have l2:=p2.length;refine⟨k1,k2,a1,a2,rfl,⟨t,j _<|cM _ _⟩,⟨u,l _<|cM _ _⟩,k _ _ H' Fs' d.freeze (aS d.own s) ⟨λg i s v=>?_,λg i s v=>?_,by rw[cw];lia⟩ λg i x H1 s v y=>?_⟩
   .rw [cw] at v;exact⟨t,u,t[i]'(by lia),u[i]'(by lia),j _ s,l _ s,by simp,by simp⟩
   .rw [cw] at v;exact⟨t,u,j _ s,l _ s,by lia⟩
   .rw [cw] at v;obtain⟨p,x1,y1,rfl,hp,rfl,hx,hy⟩:=y;have hi1:i<N.length:=by lia
    have hi2:i<P.length:=by lia
    obtain⟨x',w,rx⟩:=p1.get (show N[i]?=Y N[i] by simp);obtain⟨y',D,ry⟩:=p2.get (show P[i]?=Y P[i] by simp);rw[hx t<|j _ s] at w;cases w;rw[hy u<|l _ s] at D;cases D;exact⟨p,x1,y1,(.s,N[i]),(.s,P[i]),rfl,jH hp,.inl<|.inl ah,iy (by simp)<|by simp,(rx.zmono z1).keep s (λ_ z=>z) λ_ _ z=>z.elim,(ry.zmono z2).keep s (λ_ z=>z) λ_ _ z=>z.elim⟩
theorem dC {m:Md}:∀{ts:U T} {n i:O} {t:T},ts[i]?=Y t->(bT m n ts)[i]?=Y [(.d,.int ((n+i:O):I)),(m,t)]
|t::ts,n,0,_,h=>by cases h;rfl
|t::ts,n,i+1,_,h=>by have:=dC (m:=m) (ts:=ts) (n:=n+1) (i:=i) h;rw[show n+1+i=n+(i+1) by lia] at this;exact this
|[],_,_,_,h=>by simp at h
theorem aV {m:Md}:∀{a:U T} {n:O},(bT m n a).length=a.length
|[],_=>rfl
|t::a,n=>by show(bT m (n+1) a).length+1=a.length+1;rw[aV]
theorem yX {e:E}(σ:L2.St)(H:Hp)(R:It->Hp->Prop)(h:wI K sf C 2 .enm [e] σ H R):we K (wL K sf C [e]) σ H R:=by
 obtain⟨pv,Z,Fs,η,w,η',N,A,ev,o,k⟩:=h;refine⟨pv,Z,Fs,η,w,η',A,ev,λQ Z' H' Fs' G b r s=>?_⟩;obtain⟨⟨m,a⟩,η1,P,e1,e2,rfl⟩:=ax ev;cases e2;obtain⟨x,rfl,u⟩:=cJ rfl r;obtain⟨g,rfl⟩:∃g,a=.lst g:=by cases a<;>first|exact⟨_,rfl⟩|cases o
 cases o;obtain⟨a,j,rfl,l,q,p⟩:=Rep.sh u;have M:=p.length;refine⟨a,rfl,⟨j,.inl<|.inl q.2⟩,k _ _ H' Fs' b.freeze (aS b.own s) ⟨λn i s c=>?_,λn i s c=>?_,by rw[aV];lia⟩ λn i x H1 s c y=>?_⟩
 .rw [aV] at c;exact⟨j,j[i]'(by lia),b6 s q.1 q.2,by simp⟩
 .rw [aV] at c;exact⟨j,b6 s q.1 q.2,by lia⟩
 .rw [aV] at c;obtain⟨t,D,rfl,hp,rfl,hx⟩:=y;obtain⟨x',f,v⟩:=p.get (show g[i]?=Y g[i] by simp);rw[hx j<|b6 s q.1 q.2] at f;cases f;refine⟨t,.int i,D,(.d,.int ((0+i:O):I)),(.s,g[i]),rfl,jH hp,.inl<|.inl ah,dC<|by simp,?_,v.sany.keep s (λ_ z=>z) λ_ _ z=>z.elim⟩;show V.int (i:I)=V.int ((0+i:O):I);rw[Gz]
end
section
variable {K:D1}{sl:Cf}{sf sg:O->B O}{C:Call}{σ σ2:L2.St}{Z Z' Z1:Fp}{H H' H1:Hp}{Fs Fs' Fs1:Fps}{η η' η1:Env}{G G' R F:Fp}{tg is:U O}{pv val:O->B V}
theorem aC:∀(tg:U O) (η:Env) (i:O),rd (aj tg η) i=if i∈tg then J else rd η i
|[],η,i=>by simp[aj]
| t::tg,η,i=>by
 show rd (aj tg<|wr η t J) i=_;rw[aC tg,a8];by_cases a:i∈tg
 .simp[a]
 .by_cases b:i=t
  .subst b;rw[Jd a,Jc Ek];split
   .rfl
   .rename_i c;cases e:rd η i with
    |none=>rfl
    |some w=>exact Jb ⟨rfl,cB e⟩ c
  .rw[Jd a,Jd (show¬i∈t::tg by simp[a,b]),Jd<|show¬(i=t/\t < η.length) fromλh=>b h.1]
def Nn (η η':Env):Prop:=∀i,rd η i=J->rd η' i=J
theorem Nn.refl (η:Env):Nn η η:=λ_ h=>h
theorem Nn.trans {a b c:Env}(h:Nn a b)(k:Nn b c):Nn a c:=λi e=>k i<|h i e
theorem jw (η:Env)(j:O):Nn η (del η j):=λi e=>by
 rw[a8];split
 .rfl
 .exact e
theorem dI:∀{is:U O} {b:U W} {a η:Env},(∀i∈is,rd a i≠J)->Nn a η->Nn a (putAll is b η)
|[],_,_,_,_,h=>h
|_::_,[],_,_,_,h=>h
|i::is,w::b,a,η,c,h=>by
 show Nn a<|putAll is b<|put η i w;refine dI (λj f=>c j<|Em _ f) λj e=>?_;rw[a8];split
 .rename_i d;rw[d.1] at e;exact Jb e<|c i Ek
 .exact h j e
theorem fB {f:Env->Res (B W×Env)}(l:∀{η o η'},f η=.ok (o,η')->Nn η η'):∀{g:U<|U W} {η η':Env} {a k:U W},(∀i∈tg,rd η i=J)->aP tg f g η a=.ok (k,η')->Nn η η'
|[],η,η',a,k,_,h=>by cases h;exact Nn.refl _
| t::g,η,η',a,k,y,h=>by
 obtain⟨η1,m,n⟩:=ae<|show(ofO<|aR tg t η).bind (λη1=>(f η1).bind λp=>aP tg f g (aj tg p.2)<|a++p.1.toList)=_ from h;obtain⟨⟨o,d⟩,r,s⟩:=ae n
 have u:∀{tg:U O} {t:U W} {η η1:Env},aR tg t η=Y η1->∀i,i ∉ tg->rd η1 i=rd η i:=λ{tg}=>by
  induction tg with
  |nil=>intro t η η1 h i c;cases t with
   |nil=>cases h;rfl
   |cons _ _=>cases h
  | cons j tg x=>intro t η η1 h i c; cases t with
   |nil=>cases h
   |cons w t=>have:=x (show aR tg t (put η j w)=Y η1 from h) i λz=>c<|Em _ z;rw[this,a8,Jd λz=>c<|by rw[z.1];exact Ek]
 have e1:=u<|ef m
 have v:∀i,rd η i=J->rd (aj tg d) i=none:=λi e=>by
  rw[aC];split
  .rfl
  .rename_i c;exact l r i<|by rw[e1 i c];exact e
 exact Nn.trans (b:=aj tg d) v<|fB l (λi c=>by rw[aC,Jc c]) s
def gn (sf sg:O->B O)(tg:U O)(is:U O):Prop:=
 ∀i j,sg i=Y j->(∃k:O,tg[k]?=Y i/\j=k)\/(i ∉ tg/\∃(k a:O),j=tg.length+k/\is[k]?=Y a/\sf i=Y a)
theorem At.pin (A:At K ⟨sf,pv⟩ σ Z H Fs η G):∃val,(∀i u,pv i=Y u->val i=Y u)/\At K ⟨sf,val⟩ σ Z H Fs η G/\∀i m t,rd η i=Y (m,t)->val i≠none:=by
 have ch:∀i,∃o:B V,(∀u,pv i=Y u->o=Y u)/\(∀u j,o=Y u->sf i=Y j->σ[j]?=Y (Y u))/\∀m t,rd η i=Y (m,t)->∃v,o=Y v/\Rep K Z H m t v (Fs i)/\(∀j,sf i=Y j->σ[j]?=Y (Y v)):=λi=>by
  cases e:rd η i with
  |none=>exact⟨pv i,λ_ h=>h,λu j h c=>A.lk i u j h c,λ_ _ h=>by cases h⟩
  |some w=>obtain⟨m,t⟩:=w;obtain⟨v,r,b,d⟩:=A.env i m t e;refine⟨Y v,λu h=>by rw[d u h],λu j h c=>?_,λg k h=>by cases h;exact⟨v,rfl,r,b⟩⟩;cases h;exact b j c
 obtain⟨val,a⟩:=Classical.axiomOfChoice ch;refine⟨val,λi u h=>(a i).1 u h,⟨A.gd,λi m t e=>?_,A.own,A.dis,λi u j h c=>(a i).2.1 u j h c,A.ln⟩,λi m t e=>?_⟩
 .obtain ⟨v,b,r,d⟩:=(a i).2.2 m t e;exact⟨v,r,d,λu f=>by rw[show val i=Y u from f] at b;cases b;rfl⟩
 .obtain ⟨v,b,r,d⟩:=(a i).2.2 m t e;rw[b];simp
theorem At.unpin (h:∀i u,pv i=Y u->val i=Y u)(A:At K ⟨sf,val⟩ σ Z H Fs η G):At K ⟨sf,pv⟩ σ Z H Fs η G:=
 ⟨A.gd,λi m t e=>let ⟨v,r,b,c⟩:=A.env i m t e;⟨v,r,b,λu a=>c u<|h i u a⟩,A.own,A.dis,λi u j a d=>A.lk i u j (h i u a) d,A.ln⟩
noncomputable def inV (val:O->B V)(tg:U O):O->B V:=λi=>if i∈tg then J else val i
theorem At.into (a:gn sf sg tg is)(x:∀i∈tg,rd η i=J)(l:∀(k c:O) (v:V),is[k]?=Y c->σ[c]?=Y (Y v)->σ2[tg.length+k]?=Y (Y v))(w:∀i j,sg i=Y j->j < σ2.length)(A:At K ⟨sf,val⟩ σ Z H Fs η G):At K ⟨sg,inV val tg⟩ σ2 Z H Fs η G:=by
 refine⟨A.gd,λi m t e=>?_,A.own,A.dis,λi u j n g=>?_,w⟩
 .have f:i ∉ tg:=fun h=>by rw [x i h] at e; cases e
  obtain⟨v,r,o,p⟩:=A.env i m t e;refine⟨v,r,λj s=>?_,λu n=>p u (by have d:inV val tg i=Y u:=n;unfold inV at d;rw[Jd f] at d;exact d)⟩;rcases a i j s with⟨k,hk,_⟩|⟨_,k,c,rfl,hk,g⟩
  .exact Jb (GF hk) f
  .exact l k c v hk (o c g)
 .have f:i ∉ tg:=fun h=>by have b:inV val tg i=Y u:=n;unfold inV at b;rw[Jc h] at b;cases b
  have b:val i=Y u:=by have d:inV val tg i=Y u:=n;unfold inV at d;rw[Jd f] at d;exact d
  rcases a i j g with⟨k,hk,_⟩|⟨_,k,c,rfl,hk,g⟩
  .exact Jb (GF hk) f
  .exact l k c u hk (A.lk i u c b g)
theorem At.outof (g:∀i∈tg,rd η i=J)(k:∀i m t,rd η i=Y (m,t)->val i≠J)(lk:∀i u j,val i=Y u->sf i=Y j->σ[j]?=Y (Y u))(l:∀i j,sf i=Y j->j < σ.length)(A:At K ⟨sg,inV val tg⟩ σ2 Z H Fs η G):At K ⟨sf,val⟩ σ Z H Fs η G:=by
 refine⟨A.gd,λi m t e=>?_,A.own,A.dis,lk,l⟩;have d:i ∉ tg:=λh=>by rw[g i h] at e;cases e
 obtain⟨v,r,o,c⟩:=A.env i m t e;cases a:val i with
 |none=>exact Jb a<|k i m t e
 |some u=>have:v=u:=c u (by show inV val tg i=Y u;unfold inV;rw[Jd d];exact a);subst this;exact⟨v,r,λj f=>lk i v j a f,λn b=>by rw[show val i=Y n from b] at a;cases a;rfl⟩
end
section
variable {C:Call}
theorem iB {b:Type}{tab:U<|Str×b}{f:b->Env->RE}{p:W×Env}{r:W×Env}(h:kTab tab f p=.ok r):∃x a,p.1.2=.str x/\tab.lookup x=Y a/\f a p.2=.ok r:=by
 unfold kTab at h;split at h
 .rename_i x hx;split at h
  .rename_i a c;exact⟨x,a,hx,c,h⟩
  .cases h
 .cases h
theorem gG {a:IZ}{b:U Str}{p r:W×Env}(h:kIn a b p=.ok r):∃x,p.1.2=.str x/\r.2=p.2/\r.1=(.d,.bl<|b.contains x != a):=by
 unfold kIn at h;split at h
 .rename_i x hx;cases h;exact⟨x,hx,rfl,rfl⟩
 .cases h
mutual
theorem az:∀(e:E) {η η':Env} {w:W},evE C e η=.ok (w,η')->Nn η η'
|.var i,η,η',w,h=>by obtain⟨_,_,e⟩:=aw<|show ret η ((rd η i).bind look)=_ from h;cases e;exact Nn.refl _
|.mv i,η,η',w,h=>by obtain⟨_,_,e⟩:=aw<|show ret (del η i) (rd η i)=_ from h;cases e;exact jw _ _
|.io i,η,η',w,h=>by obtain⟨_,_,e⟩:=aw<|show ret (del η i) (rd η i)=_ from h;cases e;exact jw _ _
|.cst t,η,η',w,h=>by cases h;exact Nn.refl _
|.tup es,η,η',w,h=>by obtain⟨⟨ws,η1⟩,h1,h2⟩:=ae<|show(evL C es η).bind oq=_ from h;cases h2;exact dz es h1
|.lst b es,η,η',w,h=>by obtain⟨⟨ws,η1⟩,h1,h2⟩:=ae<|show(evL C es η).bind (qX b)=_ from h;cases h2;exact dz es h1
|.op o b es,η,η',w,h=>by obtain⟨ws,h1,h2⟩:=b7 h;exact dz es h1
|.and a b,η,η',w,h=>by
 obtain⟨⟨u,η1⟩,h1,h2⟩:=ae<|show(evE C a η).bind (qu<|evE C b)=_ from h;obtain⟨d,h3,h4⟩:=b9<|show onT (evE C b) (okW u) (u,η1)=_ from h2;cases d with
 |true=>rw[Jc rfl] at h4;exact(az a h1).trans<|az b h4
 |false=>rw[Jd EI] at h4;cases h4;exact az a h1
|.or a b,η,η',w,h=>by
 obtain⟨⟨u,η1⟩,h1,h2⟩:=ae<|show(evE C a η).bind (kOr<|evE C b)=_ from h;obtain⟨d,h3,h4⟩:=b9<|show onT (okW u) (evE C b) (u,η1)=_ from h2;cases d with
 |false=>rw[Jd EI] at h4;exact(az a h1).trans<|az b h4
 |true=>rw[Jc rfl] at h4;cases h4;exact az a h1
|.ifx c a b,η,η',w,h=>by
 obtain⟨⟨u,η1⟩,h1,h2⟩:=ae<|show(evE C c η).bind (onT (evE C a)<|evE C b)=_ from h;obtain⟨d,h3,h4⟩:=b9 h2;cases d with
 |true=>rw[Jc rfl] at h4;exact(az c h1).trans<|az a h4
 |false=>rw[Jd EI] at h4;exact(az c h1).trans<|az b h4
| .chain o q a b c,η,η',w,h=>by
 obtain⟨⟨x,η1⟩,h1,h2⟩:=ae<|show(evE C a η).bind (kC1 o q (evE C b)<|evE C c)=_ from h;obtain⟨⟨y,η2⟩,h3,h4⟩:=ae<|show(evE C b η1).bind (kC2 o q (evE C c) x)=_ from h2;obtain⟨⟨k,η3⟩,h5,h6⟩:=ae<|show(ret η2<|oSem o DX [x,y]).bind (λk=>onB k.1.2 (then' (evE C c)<|kC3 q y) (okW (.d,.bl DX)) k.2)=_ from h4;obtain⟨k',_,e5⟩:=aw h5;have e6:η3=η2:=Jk Fj e5;have n2:=(az a h1).trans<|az b h3;have h6':onB k.2 (then' (evE C c) (kC3 q y)) (okW (.d,.bl DX)) η2=.ok (w,η'):=by rw[<- e6];exact h6
 generalize k.2=kk at h6';cases kk with
 | bl b =>
  cases b with
  |true=>obtain⟨⟨z,η4⟩,h7,h8⟩:=ae<|show(evE C c η2).bind (kC3 q y)=_ from h6';obtain⟨z',_,e8⟩:=aw<|show ret η4 (oSem q DX [y,z])=_ from h8;have e9:η'=η4:=Jk Fj e8;rw[e9];exact n2.trans<|az c h7
  |false=>cases h6';exact n2
 |_=>cases h6'
|.call f es,η,η',w,h=>by obtain⟨⟨ws,η1⟩,h1,h2⟩:=ae<|show(evA C es η).bind (eI C f<|ios es)=_ from h;obtain⟨⟨u,us⟩,h3,h4⟩:=ae<|show(C f ws).bind (iP (ios es) η1)=_ from h2;cases h4;exact dI (eL es h1)<|fI es h1
|.comp b k src tg J elt,η,η',w,h=>by obtain⟨⟨ws,η1⟩,h1,h2⟩:=ae<|show(evL C src η).bind (dj b k tg<|dW<|evE C elt)=_ from h;obtain⟨⟨ts,η2⟩,h3,h4⟩:=ae<|show(ret (aj tg η1)<|turns k ws).bind (λt=>(aP tg (dW<|evE C elt) t.1 t.2 []).bind<|jq b)=_ from h2;obtain⟨_,_,e3⟩:=aw h3;have e4:η2=aj tg η1:=Jk Fj e3;subst e4;obtain⟨⟨us,η3⟩,h5,h6⟩:=ae<|show(aP tg (dW<|evE C elt) ts (aj tg η1) []).bind (jq b)=_ from h4;obtain⟨_,_,e6⟩:=aw<|show ret η3 _=_ from h6;have e7:η'=η3:=Jk Fj e6;subst e7;refine(dz src h1).trans<|Nn.trans (b:=aj tg η1) (λi e=>by rw[aC];split<;>first|rfl|exact e)<|fB (λ{η o η'} hf=>?_) (λi hi=>by rw[aC,Jc hi]) h5;obtain⟨⟨u,η4⟩,h7,h8⟩:=ae<|show(evE C elt η).bind gf=_ from hf;cases h8;exact az elt h7
| .comp b k src tg (Y c) elt,η,η',w,h=>by
 obtain⟨⟨ws,η1⟩,h1,h2⟩:=ae<|show(evL C src η).bind (dj b k tg<|nu (evE C c)<|evE C elt)=_ from h;obtain⟨⟨ts,η2⟩,h3,h4⟩:=ae<|show(ret (aj tg η1)<|turns k ws).bind (λt=>(aP tg (nu (evE C c)<|evE C elt) t.1 t.2 []).bind<|jq b)=_ from h2;obtain⟨_,_,e3⟩:=aw h3;have e4:η2=aj tg η1:=Jk Fj e3;subst e4;obtain⟨⟨us,η3⟩,h5,h6⟩:=ae<|show(aP tg (nu (evE C c)<|evE C elt) ts (aj tg η1) []).bind (jq b)=_ from h4;obtain⟨_,_,e6⟩:=aw<|show ret η3 _=_ from h6;have e7:η'=η3:=Jk Fj e6;subst e7;refine(dz src h1).trans<|Nn.trans (b:=aj tg η1) (λi e=>by rw[aC];split<;>first|rfl|exact e)<|fB (λ{η o η'} hf=>?_) (λi hi=>by rw[aC,Jc hi]) h5;obtain⟨⟨u,η4⟩,h7,h8⟩:=ae<|show(evE C c η).bind (onT (dW<|evE C elt)<|okW J)=_ from hf;obtain⟨d,h9,h10⟩:=b9 h8;cases d with
 |true=>rw[Jc rfl] at h10;obtain⟨⟨u2,η5⟩,h11,h12⟩:=ae<|show(evE C elt η4).bind gf=_ from h10;cases h12;exact(az c h7).trans<|az elt h11
 |false=>rw[Jd EI] at h10;cases h10;exact az c h7
|.callT tab k es,η,η',w,h=>by obtain⟨⟨u,η1⟩,h1,h2⟩:=ae<|show(evE C k η).bind (kTab tab<|kCT C (evA C es)<|ios es)=_ from h;obtain⟨x,j,_,_,h3⟩:=iB h2;obtain⟨⟨ws,η2⟩,h4,h5⟩:=ae<|show(evA C es η1).bind (eI C j<|ios es)=_ from h3;obtain⟨⟨r,bs⟩,h6,h7⟩:=ae<|show(C j ws).bind (iP (ios es) η2)=_ from h5;cases h7;exact(az k h1).trans<|dI (eL es h4)<|fI es h4
|.inT neg ks e,η,η',w,h=>by obtain⟨⟨u,η1⟩,h1,h2⟩:=ae<|show(evE C e η).bind (kIn neg ks)=_ from h;obtain⟨x,_,e2,_⟩:=gG h2;cases e2;exact az e h1
theorem dz:∀(es:U E) {η η':Env} {ws:U W},evL C es η=.ok (ws,η')->Nn η η'
|[],η,η',ws,h=>by cases h;exact Nn.refl _
|e::es,η,η',ws,h=>by obtain⟨w,η1,us,h1,h2,_⟩:=ax h;exact(az e h1).trans<|dz es h2
theorem fI:∀(es:U E) {η η':Env} {ws:U W},evA C es η=.ok (ws,η')->Nn η η'
|[],η,η',ws,h=>by cases h;exact Nn.refl _
| e::es,η,η',ws,h=>by
 rcases AN e with⟨i,hi⟩|he
 .subst hi;obtain⟨us,η1,w,h1,_,_,h4⟩:=k4 h;rw[h4];exact(fI es h1).trans<|jw _ _
 .obtain ⟨w,η1,us,h1,h2,_⟩:=eF he h;exact(az e h1).trans<|fI es h2
theorem eL:∀(es:U E) {η η':Env} {ws:U W},evA C es η=.ok (ws,η')->∀i∈ios es,rd η i≠J
|[],_,_,_,_,i,hi=>by simp[ios] at hi
| e::es,η,η',ws,h,i,hi=>by
 rcases AN e with⟨j,hj⟩|he
 .subst hj;obtain⟨us,η1,w,h1,h2,_,_⟩:=k4 h;rcases Ee.mp (show i∈j::ios es from hi) with z|z
  .subst z;exactλz=>by rw[fI es h1 i z] at h2;cases h2
  .exact eL es h1 i z
 .obtain ⟨w,η1,us,h1,h2,_⟩:=eF he h
  have hi':i∈ios es:=by
   cases e with
   |io j=>exact Jb rfl (he j)
   |_=>exact hi
  exactλz=>eL es h2 i hi'<|az e h1 i z
end
end
section
variable {K:D1}{sl:Cf}{sf sg:O->B O}{C:Call}{σ σ2:L2.St}{Z Z' Z1:Fp}{H H' H1:Hp}{Fs Fs' Fs1:Fps}{η η' η1 ηb:Env}{G G' R F:Fp}{tg is:U O}{pv val:O->B V}
def gT (K:D1):O->TG
|1=>bQ 0
|2=>uX K 2<|fG (bQ 0)<|fG (bQ 1) rU
|_=>λ_ _ _ _=>Jh
theorem At.put1 {i:O}{w:W}{x:V}(A:At K sl σ Z H Fs η G)(r:Rep K Z H w.1 w.2 x<|Fs i)(c:∀j,sl.sl i=Y j->σ[j]?=Y (Y x))(hp:sl.pv i=J):At K sl σ Z H Fs (put η i w) G:=by
 refine⟨A.gd,λj m t e=>?_,A.own,A.dis,A.lk,A.ln⟩;rw[a8] at e;split at e
 .rename_i b;cases e;obtain⟨rfl,_⟩:=b;exact⟨x,r,c,λu a=>by rw[hp] at a;cases a⟩
 .exact A.env j m t e
theorem iW {k a:O}{v:V}(b:is[k]?=Y a)(c:σ[a]?=Y (Y v)):(bM σ is)[k]?=Y (Y v):=by unfold bM;rw[ER,b];show Y ((σ[a]?).join)=_;rw[c];rfl
theorem gb (a:gn sf sg tg is)(h:σ2.length=tg.length+is.length):∀i j,sg i=Y j->j < σ2.length:=λi j b=>by
 rcases a i j b with⟨k,hk,rfl⟩|⟨_,k,c,rfl,hk,_⟩
 .have:=(EM.mp hk).1;lia
 .have:=(EM.mp hk).1;lia
theorem mz {n i:O}{d:It}{ts:U<|U W}{ws:U W}{x:V}{Q:L2.St->Hp->Prop}(hn:tg.length=n)(nd:tg.Nodup)(c:gn sf sg tg is)(hz:∀a,Z1 a->Z a)(st:Stay Z1 H1 H)(D:Yld K d Z1 H1 ts n)(A:At K ⟨sf,val⟩ σ Z H Fs η G)
  (ht:∀i∈tg,rd η i=J) (hw:ts[i]?=Y ws) (hb:aR tg ws η=Y ηb) (y:d.yld i H x H')
  (k:∀σ2 P,At K ⟨sg,inV val tg⟩ σ2 Z P Fs ηb G->Step Z H no Z P no->(σ2.length=n+(bM σ is).length/\σ2.drop n=bM σ is)->Q σ2 P):gT K n x (Eu n J++bM σ is) H' Q:=by
 have hi:i<ts.length:=(EM.mp hw).1;have g:∀{t:O},t∈tg->inV val tg t=none:=λ{t} h=>Jc h
 match n,D with
 | 1,D =>
  obtain⟨e0,w,f,r⟩:=D H i x H' st hi y;rw[e0];rw[hw] at f;cases f
  match tg,hn with
  | [t],_ =>
   cases hb;have r':Rep K Z H w.1 w.2 x (Fs t):=(r.zmono hz).mono λ_ z=>z.elim;refine k _ H ?_ (Step.refl _ _ _) ⟨by simp[Ha],rfl⟩;refine(A.into (σ2:=Y x::bM σ is) c ht (λk j0 v h1 h2=>?_)<|gb c<|by simp[bM,Ha]).put1 r' (λj m=>?_)<|g<|by simp
   .rw[GU,Ha,E8];exact iW h1 h2
   .rcases c t j m with ⟨k,hk,rfl⟩ | ⟨h,_⟩
    .cases j with
     |zero=>rfl
     |succ _=>simp at hk
    .exact Jb (Gh.mpr rfl) h
 | 2,D =>
  obtain⟨p,s,l,u,w,rfl,M,hq,f,r1,r2⟩:=D H i x H' st hi y;rw[hw] at f;cases f
  match tg,hn with
  | [t,N],_ =>
   cases hb;have o:t≠N:=λz=>by simp[z] at nd
   have s1:Step Z H G Z H' G:=eG M;have o1:Own Z H' G:=λa ha=>by obtain⟨nz,ys,e⟩:=A.own a ha;exact⟨nz,ys,M _ _ e⟩
   obtain⟨A1,_⟩:=A.op o1 s1;have sn:Stay Z H H':=jr M;have r1':Rep K Z H' u.1 u.2 s (Fs t):=((r1.zmono hz).keep sn (λ_ z=>z) λ_ _ z=>z.elim).mono λ_ z=>z.elim;have r2':Rep K Z H' w.1 w.2 l (Fs N):=((r2.zmono hz).keep sn (λ_ z=>z) λ_ _ z=>z.elim).mono λ_ z=>z.elim;have s0:Step Z H no Z H' no:=eG M;refine⟨p,[s,l],rfl,hq,rfl,s,[l],rfl,l,[],rfl,rfl,k (Y s::Y l::bM σ is) _ ?_ s0 ⟨by simp;lia,rfl⟩⟩;refine((A1.into (σ2:=Y s::Y l::bM σ is) c ht (λk j0 v h1 h2=>?_)<|gb c<|by simp[bM];lia).put1 r1' (λj m=>?_)<|g<|by simp).put1 r2' (λj m=>?_)<|g<|by simp
   .rw[show[t,N].length+k=k+1+1 by simp;lia,E8,E8];exact iW h1 h2
   .rcases c t j m with ⟨k,hk,rfl⟩ | ⟨h,_⟩
    .match j,hk with
     |0,_=>rfl
     |1,hk=>exact Jb (EC hk).symm o
    .exact Jb (by simp) h
   .rcases c N j m with ⟨k,hk,rfl⟩ | ⟨h,_⟩
    .match j,hk with
     |0,hk=>exact Jb (EC hk) o
     |1,_=>rfl
    .exact Jb (by simp) h
def dX (Fs:Fps)(tg:U O):Fps:=λj a=>j ∉ tg/\Fs j a
theorem bV {a:IY}(h:tot (dX Fs tg) a):tot Fs a:=let ⟨j,_,b⟩:=h;⟨j,b⟩
theorem At.dels (A:At K sl σ Z H Fs η G):At K sl σ Z H (dX Fs tg) (aj tg η) G:=by
 refine⟨⟨λa h=>A.gd.own a<|bV h,λi j a b c=>A.gd.dis i j a b.2 c.2,A.gd.zal⟩,λi m t e=>?_,A.own,λa h q=>A.dis a h<|bV q,A.lk,A.ln⟩;rw[aC] at e;split at e
 .cases e
 .rename_i f;obtain⟨v,r,h⟩:=A.env i m t e;exact⟨v,r.mono λa d=>⟨f,d⟩,h⟩
theorem eu:∀{tg:U O} {t:U W} {η η1:Env},aR tg t η=Y η1->∀i,i ∉ tg->rd η1 i=rd η i
|[],[],η,η1,h,i,_=>by cases h;rfl
|[],_::_,_,_,h,_,_=>by cases h
|_::_,[],_,_,h,_,_=>by cases h
|j::tg,w::t,η,η1,h,i,a=>by rw[eu (show aR tg t (put η j w)=Y η1 from h) i λz=>a<|Em _ z,a8,Jd λz=>a<|by rw[z.1];exact Ek]
structure CSt (K:D1)(sf:O->B O)(val:O->B V)(σ:L2.St)(tg:U O)(f:Env->Res (B W×Env))(ts:U (U W))(η0:Env)(us:U W)(η3:Env)(Z1:Fp)(H1:Hp)(F1:Fp)(i:O)(ys:U V)(H:Hp):Prop where
 ex:∃(Z:Fp) (Fs:Fps) (η:Env) (acc:U W) (G:Fp),At K ⟨sf,val⟩ σ Z H Fs η G/\RepW K Z H acc ys G/\aP tg f (ts.drop i) η acc=.ok (us,η3)/\(∀j∈tg,rd η j=J)/\(∀j∈tg,∀a,¬Fs j a)/\Nn η0 η/\Step Z1 H1 F1 Z H (λa=>tot Fs a\/G a)
 len:ys.length<=i
theorem pE {h:IZ}{c:U W}{i:U V}{w:W}{Q:VK}(o:Own Z H G)(t:∀a,Z a->H a≠J)(r:RepW K Z H c i G)(l:i.length<=LIM)(b:(if h then(if c.all okD then Y ((.d,.lst<|trees c):W) else J) else Y (.o .s,.lst<|trees c))=Y w)(k:Out K Z H G w Q):∀p,H p=J->Q (.ref p) (upd H p<|.lst i):=by
 intro p hp;cases h with
 | true =>
  rw[Jc rfl] at b;split at b
  .rename_i j;cases b;rw[F8] at j
   obtain⟨G',e,f⟩:=RepW.to (N:=.d) (λu n=>by
    have:=j u n;unfold okD at this;rw[Bool.or_eq_true] at this;unfold M.lf;split
    .rfl
    .rename_i g;rcases this with z|z
     .rw[eq_of_beq z];rfl
     .exact Jb z g) r
   exact bJ (m:=.d) o t e l f (by simp) k hp
  .cases b
 |false=>rw[Jd EI] at b;cases b;obtain⟨G',e,f⟩:=RepW.to (N:=.s) (λu n=>by cases M.lf u.1 u.2<;>rfl) r;exact bJ (m:=.o .s) o t e l f (by simp) k hp
end
section
variable {K:D1}{sf sg:O->B O}{C:Call}{tg is:U O}
theorem fX {b:Type}{l:U b}{i:O}{a:b}(h:l[i]?=Y a):l.drop i=a::l.drop (i+1):=by obtain⟨c,d⟩:=EM.mp h;rw[IF c,d]
theorem oO {h:IZ}{k:Ik}{f:Env->Res (B W×Env)}{p:U W×Env}{w:W}{b:Env}(e:dj h k tg f p=.ok (w,b)):∃c a,turns k p.1=Y c/\aP tg f c (aj tg p.2) []=.ok (a,b)/\(if h then(if a.all okD then Y ((.d,.lst<|trees a):W) else J) else Y (.o .s,.lst<|trees a))=Y w:=by obtain⟨⟨c,j⟩,v,x⟩:=ae<|show(ret (aj tg p.2)<|turns k p.1).bind (λt=>(aP tg f t.1 t.2 []).bind<|jq h)=_ from e;obtain⟨i,A,e3⟩:=aw v;have m:c=i:=Jk FC e3;have n:j=aj tg p.2:=Jk Fj e3;subst m n;obtain⟨⟨a,g⟩,y,z⟩:=ae<|show(aP tg f c (aj tg p.2) []).bind (jq h)=_ from x;obtain⟨F,D,l⟩:=aw<|show ret g (if h then(if a.all okD then Y ((.d,.lst<|trees a):W) else J) else Y (.o .s,.lst<|trees a))=_ from z;have r:w=F:=Jk FC l;have u:b=g:=Jk Fj l;subst r u;exact⟨c,a,A,y,D⟩
theorem j8 {f:Env->Res (B W×Env)}{t:U W}{j:U<|U W}{k g:Env}{a m:U W}(e:aP tg f (t::j) k a=.ok (m,g)):∃h o i,aR tg t k=Y h/\f h=.ok (o,i)/\aP tg f j (aj tg i) (a++o.toList)=.ok (m,g):=by obtain⟨d,n,r⟩:=ae<|show(ofO<|aR tg t k).bind (λd=>(f d).bind λp=>aP tg f j (aj tg p.2)<|a++p.1.toList)=_ from e;obtain⟨⟨o,l⟩,s,u⟩:=ae r;exact⟨d,o,l,ef n,s,u⟩
theorem mP {n:O}{h:IZ}{k:Ik}{src:U E}{f:Env->Res (B W×Env)}{te:L2.St->Hp->(B V->Hp->Prop)->Prop}(hn:tg.length=n)(nd:tg.Nodup)(d:gn sf sg tg is)
  (hf:∀{P o η'},f P=.ok (o,η')->Nn P η')
  (hte:∀ {val:O->B V} {l:L2.St} {Z:Fp} {H:Hp} {Fs:Fps} {P M:Env} {R:Fp} {o:B W} {Q:B V->Hp->Prop},At K ⟨sg,val⟩ l Z H Fs P R->f P=.ok (o,M) ->
   (∀oy Z' H' Fs' G,At K ⟨sg,val⟩ l Z' H' Fs' M (λc=>R c\/G c)->(match o,oy with|some w,Y y=>Rep K Z' H' w.1 w.2 y G|none,J=>JR|_,_=>Jh)->(∀c,R c->¬G c)->Step Z H (tot Fs) Z' H' (λa=>tot Fs' a\/G a)->Q oy H')->te l H Q)
  {e:E} (he:∀P,evE C e P=(evL C src P).bind (dj h k tg f)) (σ:L2.St) (H:Hp) (Q:VK) (hw:wE K sf C e σ H Q):
  wI K sf C n k src σ H λg H1=>∃W:O->O->U V->Hp->Prop,(∃m,W 0 m [] H1)/\∀i m D H,W i m D H ->
   (g.stop i H/\D.length<=sizeLine/\∀p,H p=J->Q (.ref p) (upd H p<|.lst D)) \/
   (g.go i H/\D.length<sizeLine/\∀x H',g.yld i H x H'->gT K n x (Eu n J++bM σ is) H' λl H2=>(l.length=n+(bM σ is).length/\l.drop n=bM σ is)/\te l H2 λoy H3=>∃m',m'<m/\W (i+1) m' (D++oy.toList) H3):=by
 obtain⟨pv,Z,Fs,P,w,η',A,ev,kk⟩:=hw;rw[he] at ev;obtain⟨⟨ws,F⟩,h1,h2⟩:=ae ev;obtain⟨N,us,ht,h3,h4⟩:=oO h2;refine⟨pv,Z,Fs,P,ws,F,N,A,h1,ht,λg Z1 H1 Fs1 A1 s1 wk yl=>?_⟩;obtain⟨val,v1,A2,v2⟩:=(A1.dels (tg:=tg)).pin;have s1':Step Z H (tot Fs) Z1 H1 (tot (dX Fs1 tg)):=s1.mono (λ_ z=>z) λ_ z=>bV z;refine⟨λi m D H=>m=N.length-i/\i<=N.length/\CSt K sf val σ tg f N (aj tg F) us η' Z1 H1 (tot<|dX Fs1 tg) i D H,⟨N.length,by simp,EJ _,⟨⟨Z1,dX Fs1 tg,aj tg F,[],no,A2,rfl,h3,λj s=>by rw[aC,Jc s],λj s a v=>v.1 s,Nn.refl _,(Step.refl _ _ _).mono (λ_ z=>z) λa v=>v.elim id λz=>z.elim⟩,D7 _⟩⟩,?_⟩;rintro i m D H0 ⟨rfl,hi,⟨⟨Zi,Fsi,ηi,acc,Ga,Ai,ra,hc,htg,hfp,hnn,si⟩,r⟩⟩;have st:Stay Z1 H1 H0:=A2.gd.own.stay si;have hL:=wk.len;by_cases hlt:i<N.length
 .right;refine⟨wk.go H0 i st hlt,FE (Ed r hi) (gQ hL),λx H2 y=>?_⟩;have hw:N[i]?=Y N[i]:=by simp[hlt]
  rw[fX hw] at hc;obtain⟨ηb,o,M,hb,hfe,hc2⟩:=j8 hc;refine mz hn nd d si.zm st yl Ai htg hw hb y λl H3 A3 s3 hσ=>⟨hσ,?_⟩;refine hte A3 hfe λoy Z4 H4 Fs4 G4 A4 r4 d4 s4=>⟨N.length-(i+1),by lia,rfl,hlt,⟨?_,?_⟩⟩
  .have ra3:RepW K Zi H3 acc D Ga:=ra.frame bA s3 fun _ _ z=>z;have ra4:RepW K Z4 H4 acc D Ga:=ra3.frame A3.gd.own s4 A3.dis
   have vv:∀j m t,rd (aj tg M) j=Y (m,t)->val j≠none:=λj m t e=>by
    rw[aC] at e;split at e
    .cases e
    .rename_i s;have n1:rd ηb j≠none:=λz=>by rw[hf hfe j z] at e;cases e
     rw[eu hb j s] at n1;have n2:rd (aj tg F) j≠none:=λz=>n1<|hnn j z;cases e2:rd (aj tg F) j with
     |none=>exact Jb e2 n2
     |some u=>exact v2 j u.1 u.2 e2
   have A5:=(A4.dels (tg:=tg)).outof (sf:=sf) (σ:=σ) (val:=val) (λj s=>by rw[aC,Jc s]) vv Ai.lk Ai.ln
   have s5:Step Z1 H1 (tot (dX Fs1 tg)) Z4 H4 (λa=>tot (dX Fs4 tg) a\/(Ga a\/G4 a)):=by
    refine(si.trans<|((s3.frame λa=>tot Fsi a\/Ga a).mono (λa v=>v.elim (λz=>z.elim) id) λa v=>.inr v).trans<|s4.frame Ga).mono (λ_ z=>z) λa v=>?_;rcases v with z|z|z
    .exact .inl (.inl<|bV z)
    .exact .inr z
    .exact .inl (.inr z)
   refine⟨Z4,dX Fs4 tg,aj tg M,acc++o.toList,λc=>Ga c\/G4 c,A5,?_,hc2,λj s=>by rw[aC,Jc s],λj s a v=>v.1 s,λj e=>?_,s5⟩
   .cases o with
    |none=>
     cases oy with
     |none=>rw[HQ,HQ,EW,EW];exact ra4.mono λ_ z=>.inl z
     |some _=>exact r4.elim
    |some w4=>
     cases oy with
     |none=>exact r4.elim
     |some y4=>exact RepW.append (λ_ z=>.inl z) (λ_ z=>.inr z) d4 ra4<|RepW.one r4
   .have e':=hnn j e;rw[aC];split
    .rfl
    .rename_i s;exact hf hfe j<|by rw[eu hb j s];exact e'
  .have:D.length<=i:=r;cases oy<;>simp<;>lia
 .left;have hi':i=N.length:=by lia
  subst hi';rw[G6] at hc;cases hc;refine⟨wk.stop H0 _ st<|D7 _,br<|Ed r hL,pE Ai.own Ai.gd.zal ra (Ed r hL) h4<|bL (Ai.unpin v1) (s1'.trans si) kk⟩
theorem eJ {n:O}{h:IZ}{k:Ik}{f:U E}{e:E}(D:tg.length=n)(M:tg.Nodup)(b:gn sf sg tg is)(x:L2.St)(H:Hp)(Q:VK)(F:wE K sf C (.comp h k f tg J e) x H Q):hU n (wI K sf C n k f) is (gT K n) (wE K sg C e) x H Q:=by
 refine mP (te:=λg H Q=>wE K sg C e g H λy l=>Q (Y y) l) D M b (λ{i o N} t=>?_) (λ{val g Z H Fs i P R o Q} A t k=>?_) (λi=>rfl) x H Q F
 .obtain ⟨⟨u,w⟩,m,p⟩:=ae<|show (evE C e i).bind gf=_ from t;cases p;exact az e m
 .obtain ⟨⟨u,w⟩,m,p⟩:=ae<|show (evE C e i).bind gf=_ from t;cases p;exact ju A m λv z l j G a r d s _=>k (Y v) z l j G a r d s
end
section
variable {K:D1}{sl:Cf}{sf sg:O->B O}{C:Call}{σ σ2:L2.St}{Z Z' Z1:Fp}{H H' H1:Hp}{Fs Fs' Fs1:Fps}{η η' η1 ηb:Env}{G G' G1 R F:Fp}{tg is:U O}{pv val:O->B V}
noncomputable def hE (Fs:Fps)(i:O)(G:Fp):Fps:=λj a=>(j=i/\G a)\/(j≠i/\Fs j a)
theorem aK {i:O}{a:IY}(h:tot (hE Fs i G) a):tot Fs a\/G a:=by
 obtain⟨j,h|h⟩:=h
 .exact .inr h.2
 .exact .inl ⟨j,h.2⟩
theorem At.put {i:O}{w:W}{x:V}(A:At K sl σ Z H Fs η G)(r:Rep K Z H w.1 w.2 x G1)(c:∀a,G1 a->G a)(f:∀a,R a->G a)(l:∀a,R a->¬G1 a)(n:∀j,sl.sl i=Y j->σ[j]?=Y (Y x))(hp:∀u,sl.pv i=Y u->x=u):
  At K sl σ Z H (hE Fs i G1) (M.put η i w) R:=by
 refine⟨⟨λa h=>(aK h).elim (A.gd.own a) λq=>A.own a<|c a q,λj k a b hk=>?_,A.gd.zal⟩,λj m t e=>?_,λa h=>A.own a<|f a h,λa h q=>(aK q).elim (A.dis a<|f a h)<|l a h,A.lk,A.ln⟩
 .rcases b with ⟨rfl,b⟩ | ⟨s,b⟩
  .rcases hk with ⟨rfl,_⟩ | ⟨o,hk⟩
   .rfl
   .exact Jb ⟨k,hk⟩ (A.dis a<|c a b)
  .rcases hk with ⟨rfl,hk⟩ | ⟨o,hk⟩
   .exact Jb ⟨j,b⟩ (A.dis a<|c a hk)
   .exact A.gd.dis j k a b hk
 .rw [a8] at e;split at e
  .rename_i d;cases e;obtain⟨rfl,_⟩:=d;exact⟨x,r.mono λa h=>.inl ⟨rfl,h⟩,n,hp⟩
  .rename_i d;obtain⟨v,p,g⟩:=A.env j m t e;by_cases b:j=i
   .subst b;exact Jb ⟨rfl,cB e⟩ d
   .exact⟨v,p.mono λa h=>.inr ⟨b,h⟩,g⟩
def wA (K:D1)(sl:O->B O)(C:Call)(c:U E):TA:=λσ H Q=>∃pv Z Fs η d η',At K ⟨sl,pv⟩ σ Z H Fs η no/\evA C c η=.ok (d,η') /\
 ∀b Z' H' Fs' G,At K ⟨sl,pv⟩ σ Z' H' Fs' η' G->RepW K Z' H' d b G->Step Z H (tot Fs) Z' H' (λa=>tot Fs' a\/G a)->(∀(k i:O) (u:V),c[k]?=Y (.io i)->pv i=Y u->b[k]?=Y u)->Q b H'
theorem wO (σ:L2.St)(H:Hp)(Q:U V->Hp->Prop)(h:wA K sf C [] σ H Q):xi σ H Q:=by obtain⟨pv,Z,Fs,η,c,η',A,ev,k⟩:=h;cases ev;exact k [] Z H Fs no A rfl ((Step.refl _ _ _).mono (λ_ z=>z) λa b=>b.elim id λz=>z.elim) λk i u h _=>by simp at h
theorem DU {d:U E}{g:U W}{Q:U V->Hp->Prop}(A:At K sl σ Z H Fs η R)(ev:evA C d η=.ok (g,η'))
  (k:∀ f Z' H' Fs' G,At K sl σ Z' H' Fs' η' (fun c=>R c\/G c)->RepW K Z' H' g f G->(∀ c,R c->¬ G c)->Step Z H (tot Fs) Z' H' (fun a=>tot Fs' a\/G a) ->
   Step Z H (λc=>tot Fs c\/R c) Z' H' (λc=>tot Fs' c\/(R c\/G c))->(∀(k i:O) (u:V),d[k]?=Y (.io i)->sl.pv i=Y u->f[k]?=Y u)->Q f H'):wA K sl.sl C d σ H Q:=
 ⟨sl.pv,Z,Fs,η,g,η',A.bare,ev,fun v Z' H' Fs' G b r s e=>by
  obtain⟨h,j,l⟩:=A.frame b s;exact k v Z' H' Fs' G h r l s j e⟩
theorem pA {e:E}{f:U E}(g:∀i,e≠.io i)(σ:L2.St)(H:Hp)(Q:U V->Hp->Prop)(h:wA K sf C (e::f) σ H Q):nL (wE K sf C e) (wA K sf C f) σ H Q:=by
 obtain⟨pv,Z,Fs,η,ws,η',A,ev,k⟩:=h;obtain⟨w,η1,P,r,s,rfl⟩:=eF g ev;refine ju A r λx Z1 H1 Fs1 G1 d v _ D _=>?_;have a:=d.mono (G':=G1) λ_ z=>.inr z;refine DU a s λj o n b m l y p M N c=>?_;refine k (x::j) o n b _ l ⟨x,j,G1,m,rfl,λ_ z=>.inl z,λ_ z=>.inr z,p,v.frame d.gd.own M a.dis,y⟩ (D.trans N) λk i u h t=>?_;cases k with
 |zero=>exact Jb (EC h)<|g i
 |succ k=>exact c k i u h t
def atV (a:U O)(b:U V):U V:=a.filterMap λi=>b[i]?
def spC (K:D1)(C:Call)(f:O)(e:U O):U V->Hp->VK->Prop:=λc H Q=>∃Z d G w bs,RepW K Z H d c G/\Own Z H G/\(∀a,Z a->H a≠J)/\C f d=.ok (w,bs) /\
 ∀v Z' H' G1 b,Rep K Z' H' w.1 w.2 v G1->RepW K Z' H' bs (atV e c) b->(∀a,G1 a->¬b a)->Own Z' H' (λa=>G1 a\/b a)->Step Z H G Z' H' (λa=>G1 a\/b a)->Q v H'
noncomputable def eO:U E->O->U O
|[],_=>[]
|.io _::a,n=>n::eO a (n+1)
|_::a,n=>eO a<|n+1
theorem vC {vs:U V}:∀{es:U E} {n:O},(∀(k i:O) (u:V),es[k]?=Y (.io i)->pv i=Y u->vs[n+k]?=Y u)->(∀i∈ios es,pv i≠J)->(ios es).filterMap pv=atV (eO es n) vs
|[],_,_,_=>rfl
| e::es,n,h,c=>by
 have rest:(∀i∈ios es,pv i≠J)->(ios es).filterMap pv=atV (eO es (n+1)) vs:=λq=>vC (λk i u hk a=>by have:=h (k+1) i u hk a;rw[show n+(k+1)=n+1+k by lia] at this;exact this) q;cases e with
 | io i =>
  cases a:pv i with
  |none=>exact Jb a<|c i<|by simp[ios]
  |some u=>have d:=h 0 i u rfl a;rw[Nat.add_zero] at d;show(i::ios es).filterMap pv=(n::eO es (n+1)).filterMap λi=>vs[i]?;rw[FR,FR,a,d];exact Jk (u::·)<|rest λj b=>c j<|by simp[ios,b]
 |_=>exact rest λj b=>c j b
theorem At.putAll:∀{is:U O} {bs:U W} {Fs:Fps} {η:Env} {d:Fp},At K ⟨sf,val⟩ σ Z H Fs η (λa=>R a\/d a)->(∀a,R a->¬d a)->RepW K Z H bs (is.filterMap val) d->(∀i∈is,val i≠J)->∃Fs',At K ⟨sf,val⟩ σ Z H Fs' (M.putAll is bs η) R/\∀a,tot Fs' a->tot Fs a\/d a
|[],bs,Fs,η,d,A,_,_,_=>⟨Fs,A.mono λ_ z=>.inl z,λ_ z=>.inl z⟩
|i::is,[],Fs,η,d,A,_,_,_=>⟨Fs,A.mono λ_ z=>.inl z,λ_ z=>.inl z⟩
| i::is,b::bs,Fs,η,d,A,n,r,o=>by
 cases f:val i with
 |none=>exact Jb f<|o i Ek
 |some u=>rw[FR,f] at r;obtain⟨x,D,s,t,e,g,k,ad,p,q⟩:=r;cases e;have c:=At.put (i:=i) (R:=λa=>R a\/t a) (G1:=s) A p (λa h=>.inr<|g a h) (λa h=>h.imp id (k a)) (λa h q=>h.elim (λz=>n a z<|g a q) λz=>ad a q z) (λj l=>A.lk i u j f l) (λy m=>by rw[show val i=Y y from m] at f;cases f;rfl);obtain⟨Fs',v,w⟩:=At.putAll (is:=is) (bs:=bs) c (λa h q=>n a h<|k a q) q λj l=>o j<|Em _ l;exact⟨Fs',v,λa h=>(w a h).elim (λz=>(aK z).imp id (g a)) λz=>.inr<|k a z⟩
theorem lu {f:O}{es:U E}{io:U O}(j:eO es 0=io\/ios es=[])(σ:L2.St)(H:Hp)(Q:VK)(h:wE K sf C (.call f es) σ H Q):wA K sf C es σ H λvs H1=>spC K C f io vs H1 Q:=by
 obtain⟨pv,Z,Fs,η,w,η',A,ev,k⟩:=h;obtain⟨⟨l,η1⟩,x,h2⟩:=ae<|show(evA C es η).bind (eI C f<|ios es)=_ from ev;obtain⟨⟨u,bs⟩,h3,h4⟩:=ae<|show(C f l).bind (iP (ios es) η1)=_ from h2;cases h4;obtain⟨val,v1,D,v2⟩:=A.pin
 have c:∀i∈ios es,val i≠none:=λi hi=>by
  cases e:rd η i with
  |none=>exact Jb e<|eL es x i hi
  |some q=>exact v2 i q.1 q.2 e
 refine⟨val,Z,Fs,η,l,η1,D,x,λvs Z1 H1 Fs1 G b r s hv=>?_⟩;refine⟨Z1,l,G,u,bs,r,b.own,b.gd.zal,h3,λv t p G1 P r1 y d o st=>?_⟩;obtain⟨m,s2⟩:=b.op o st
 have g:∃Fs',At K ⟨sf,val⟩ σ t p Fs' (M.putAll (ios es) bs η1) G1/\∀a,tot Fs' a->tot Fs1 a\/P a:=by
  rcases j with e|e
  .have e2:=vC (pv:=val) (es:=es) (n:=0) (vs:=vs) (fun k i u' hk hu=>by rw [Gz]; exact hv k i u' hk hu) c;rw[e] at e2;rw[<- e2] at y;exact At.putAll m d y c
  .rw [e];exact⟨Fs1,m.mono λ_ z=>.inl z,λ_ z=>.inl z⟩
 obtain⟨Fs',N,hF⟩:=g;refine k v t p Fs' G1 (N.unpin v1) r1<|(s.trans s2).mono (λ_ z=>z) λa ha=>?_;rcases ha with z|z
 .exact(hF a z).imp id .inr
 .exact .inr (.inl z)
end
section
variable {K:D1}{sl:Cf}{sf sg:O->B O}{C:Call}{σ σ2:L2.St}{Z Z' Z1:Fp}{H H' H1:Hp}{Fs Fs' Fs1:Fps}{η η' η1 ηb:Env}{G G' G1 R F F':Fp}{tg is vs ls:U O}{pv val:O->B V}
theorem rh (o:B W):toS (toS o)=toS o:=by
 cases o with
 |none=>rfl
 |some w=>rfl
theorem fD:∀(vs:U O) (η:Env) (i:O),rd (share vs η) i=if i∈vs then toS (rd η i) else rd η i
|[],η,i=>by simp[share]
| v::vs,η,i=>by
 show rd (share vs<|wr η v<|toS<|rd η v) i=_;rw[fD vs,a8];by_cases b:i=v
 .subst b;rw[Jc (show i∈i::vs from Ek)];by_cases c:i < η.length
  .rw [Jc (show i=i/\i < η.length from ⟨rfl,c⟩)];split
   .exact rh _
   .rfl
  .have e:rd η i=none:=by
    cases e:rd η i with
    |none=>rfl
    |some w=>exact Jb (cB e) c
   rw[Jd<|show¬(i=i/\i < η.length) fromλh=>c h.2,e];split<;>rfl
 .rw [Jd (show ¬ (i=v/\v < η.length) from fun h=>b h.1)];by_cases a:i∈vs
  .rw[Jc a,Jc<|Em _ a]
  .rw[Jd a,Jd<|by simp[a,b]]
theorem iQ:∀(η:Env) (i:O),rd (eN η) i=J
|[],_=>rfl
|_::_,0=>rfl
|_::η,i+1=>iQ η i
theorem lP:∀(vs:U O) (a η:Env) (i:O) (w:W),rd (jK vs a η) i=Y w->rd η i=Y w\/(i∈vs/\toS (rd a i)=Y w)
|[],_,_,_,_,h=>.inl h
| v::vs,a,η,i,w,h=>by
 rcases lP vs a (wr η v<|toS<|rd a v) i w h with e|e
 .rw [a8] at e;split at e
  .rename_i b;obtain⟨rfl,_⟩:=b;exact .inr ⟨Ek,e⟩
  .exact .inl e
 .exact .inr ⟨Em _ e.1,e.2⟩
theorem iK:∀(vs:U O) (a η:Env) (i:O) (w:W),rd (eX vs a η) i=Y w->rd η i=Y w\/lfO (rd a i)=Y w
|[],_,_,_,_,h=>.inl h
| v::vs,a,η,i,w,h=>by
 rcases iK vs a (wr η v<|lfO<|rd a v) i w h with e|e
 .rw [a8] at e;split at e
  .rename_i b;obtain⟨rfl,_⟩:=b;exact .inr e
  .exact .inl e
 .exact .inr e
theorem uK {i:O}{w:W}(h:rd (pick vs ls η) i=Y w):∃m t,rd η i=Y (m,t)/\((i∈vs/\w=(.s,t))\/(t.leaf=DY/\w=(.d,t))):=by
 rcases iK ls η _ i w h with e|e
 .rcases lP vs η _ i w e with e | ⟨hi,e⟩
  .rw[iQ] at e;cases e
  .cases q:rd η i with
   |none=>rw[q] at e;cases e
   |some u=>rw[q] at e;cases e;exact⟨u.1,u.2,rfl,.inl ⟨hi,rfl⟩⟩
 .cases q:rd η i with
  |none=>rw[q] at e;cases e
  |some u=>
   rw[q] at e;obtain⟨m,t⟩:=u;have a:(if t.leaf=DY then Y ((.d,t):W) else J)=Y w:=e;split at a
   .rename_i b;cases a;exact⟨m,t,rfl,.inr ⟨b,rfl⟩⟩
   .cases a
def bW (Fs:Fps)(vs:U O):Fp:=λa=>∃i,i∈vs/\Fs i a
def kj:Fps:=λ_ _=>Jh
theorem bX {a:IY}(h:bW Fs vs a):tot Fs a:=let ⟨i,_,h⟩:=h;⟨i,h⟩
theorem fw {a:IY}(h:tot kj a):Jh:=let ⟨_,h⟩:=h;h
theorem At.quiet (A:At K sl σ Z H Fs η no):At K sl σ (λa=>Z a\/bW Fs vs a) H kj (pick vs ls η) no:=by
 refine⟨⟨λa h=>(fw h).elim,λ_ _ _ h=>h.elim,λa h=>h.elim (A.gd.zal a) λq=>?_⟩,λi m t e=>?_,bA,λ_ z=>z.elim,A.lk,A.ln⟩
 .obtain ⟨_,g,e⟩:=A.gd.own a<|bX q;rw[e];simp
 .obtain ⟨d,f,e1,e2⟩:=uK e;obtain⟨v,r,h⟩:=A.env i d f e1;rcases e2 with⟨b,e2⟩|⟨c,e2⟩
  .cases e2;exact⟨v,(r.sh.zmono λa h=>h.imp id λq=>⟨i,b,q⟩).sany,h⟩
  .cases e2;exact⟨v,r.leaf (λ_ _ _ q=>q) c,h⟩
mutual
theorem Rep.dany:∀{t:T} {v:V} {G:Fp},Rep K Z H .d t v G->Rep K Z' H .d t v G
|.non,_,_,h=>h
|.bl _,_,_,h=>h
|.int _,_,_,h=>h
|.str _,_,_,h=>h
|.scr _,_,_,h=>h
|.tup ts,_,_,⟨a,xs,e,q,l,r⟩=>⟨a,xs,e,q,l,RepL.dany r⟩
|.lst ts,_,_,⟨a,xs,e,l,q,r⟩=>⟨a,xs,e,l,q,RepL.dany r⟩
|.dct _ _,_,_,⟨a,xs,e,l,q,n,hl,r⟩=>⟨a,xs,e,l,q,n,hl,RepL.dany r⟩
|.ins _ _ _,_,_,h=>Jb rfl h.1
|.dtt _ _,_,_,h=>Jb rfl h.1
|.obj _ _ _,_,_,h=>Jb rfl h.1
|.gone,_,_,h=>h
theorem RepL.dany:∀{ts:U T} {xs:U V} {G:Fp},RepL K Z H .d ts xs G->RepL K Z' H .d ts xs G
|[],_,_,h=>h
|t::ts,xs,_,⟨x,r,G1,G2,e,h1,h2,hd,p,q⟩=>⟨x,r,G1,G2,e,h1,h2,hd,Rep.dany p,RepL.dany q⟩
end
theorem b8 (A:At K sl σ Z H Fs η no)(b:Own Z' H' G)(d:∀a,Z' a->H' a≠J)(s:Step (λa=>Z a\/bW Fs vs a) H F Z' H' λa=>F' a\/G a)(c:∀a,¬F a):
  At K sl σ (λa=>Z' a/\¬bW Fs vs a) H' Fs η G/\Step Z H (tot Fs) (λa=>Z' a/\¬bW Fs vs a) H' (λa=>tot Fs a\/G a):=by
 have keep:∀a o,H a=Y o->H' a=Y o:=λa o e=>s.keep a o e<|c a;have j:∀a,Z a->Z' a/\¬bW Fs vs a:=λa h=>⟨s.zm a<|.inl h,λq=>(A.gd.own a<|bX q).1 h⟩
 have g:∀a,tot Fs a->¬(Z' a/\¬bW Fs vs a):=λa h q=>by
  obtain⟨g,f,e⟩:=A.gd.own a h;rcases s.zn a q.1 with z|z|z
  .exact z.elim g q.2
  .exact c a z
  .rw[e] at z;cases z
 have k:∀a,G a->¬tot Fs a:=λa h q=>by
  obtain⟨_,f,e⟩:=A.gd.own a q;rcases s.fn a (.inr h) with z|z
  .exact c a z
  .rw[e] at z;cases z
 refine⟨⟨⟨λa h=>?_,A.gd.dis,λa h=>d a h.1⟩,λi m t e=>?_,λa h=>⟨λq=>(b a h).1 q.1,(b a h).2⟩,k,A.lk,A.ln⟩,⟨λa o e _=>keep a o e,j,λa h=>?_,λa h=>?_,s.al,λ_ a h=>d a h.1⟩⟩
 .obtain ⟨_,f,e⟩:=A.gd.own a h;exact⟨g a h,f,keep a _ e⟩
 .obtain ⟨v,r,h⟩:=A.env i m t e;refine⟨v,r.keep ⟨λa o _ e=>keep a o e,λa f e=>?_,λa o u e=>keep a _ e⟩ j λa o _ e=>keep a o e,h⟩;rcases e with e|⟨u,e⟩
  .exact .inl (keep a _ e)
  .exact .inr ⟨u,keep a _ e⟩
 .rcases s.zn a h.1 with z | z | z
  .exact z.elim .inl λq=>Jb q h.2
  .exact(c a z).elim
  .exact .inr (.inr z)
 .rcases h with h | h
  .exact .inl h
  .exact(s.fn a<|.inr h).elim (λz=>(c a z).elim) .inr
theorem At.share (A:At K sl σ Z H Fs η G):At K sl σ (λa=>Z a\/bW Fs vs a) H (dX Fs vs) (M.share vs η) G/\∀{f d c},Step f d c Z H (λa=>tot Fs a\/G a)->Step f d c (λa=>Z a\/bW Fs vs a) H (λa=>tot (dX Fs vs) a\/G a):=by
 refine⟨⟨⟨λa h=>?_,λi j a l n=>A.gd.dis i j a l.2 n.2,λa h=>h.elim (A.gd.zal a) λq=>?_⟩,λi m t e=>?_,λa h=>⟨λz=>z.elim (A.own a h).1 λq=>A.dis a h<|bX q,(A.own a h).2⟩,λa h q=>A.dis a h<|bV q,A.lk,A.ln⟩,λ{f d c} s=>⟨s.keep,λa h=>.inl<|s.zm a h,λa h=>h.elim (s.zn a) λq=>.inr<|s.fn a<|.inl<|bX q,λa h=>s.fn a<|h.imp bV id,s.al,λz a h=>h.elim (s.za z a) λq=>?_⟩⟩
 .obtain ⟨i,b,k⟩:=h;obtain⟨p,g,e⟩:=A.gd.own a ⟨i,k⟩;exact⟨λz=>z.elim p λ⟨j,o,q⟩=>b<|A.gd.dis i j a k q ▸ o,g,e⟩
 .obtain ⟨_,g,e⟩:=A.gd.own a<|bX q;rw[e];simp
 .rw [fD] at e;split at e
  .rename_i b;cases q:rd η i with
   |none=>rw[q] at e;cases e
   |some u=>rw[q] at e;cases e;obtain⟨v,r,h⟩:=A.env i u.1 u.2 q;exact⟨v,(r.sh.zmono λa h=>h.imp id λq=>⟨i,b,q⟩).sany,h⟩
  .rename_i b;obtain⟨v,r,h⟩:=A.env i m t e;exact⟨v,(r.zmono λa h=>.inl h).mono λa h=>⟨b,h⟩,h⟩
 .obtain ⟨_,g,e⟩:=A.gd.own a<|bX q;rw[e];simp
theorem jI {x:X}{e:E}{w:W}{Q:VK}(A:At K sl σ Z H Fs η no)(ev:evX C x e η=.ok (w,η'))(k:∀v Z' H' Fs' G,At K sl σ Z' H' Fs' η' G->Rep K Z' H' w.1 w.2 v G->Step Z H (tot Fs) Z' H' (λa=>tot Fs' a\/G a)->Q v H'):wE K sl.sl C e σ H Q:=by
 cases x with
 | q vs ls =>
  obtain⟨⟨u,p⟩,N,P⟩:=ae<|show(evE C e<|pick vs ls η).bind (kX vs η)=_ from ev;cases P;generalize j:M.lf u.1 u.2=m0 at k;refine⟨sl.pv,_,kj,_,_,p,A.quiet (vs:=vs) (ls:=ls),N,λv Z' H' Fs' G b r0 s=>?_⟩;have r:=r0.lf;rw[j] at r;obtain⟨t,g⟩:=b8 A b.own b.gd.zal s λa h=>fw h
  have c:Q v H'\/m0=.d:=by
   by_cases f:m0=.d
   .exact .inr f
   .refine .inl ?_
    have i:after m0 vs η=share vs η:=by
     cases hm:m0 with
     |d=>exact Jb hm f
     |s=>rfl
     |o m=>rfl
    obtain⟨D,s2⟩:=t.share (vs:=vs);have zz:∀a,(Z' a/\¬bW Fs vs a)\/bW Fs vs a->Z' a:=λa h=>h.elim FD λq=>s.zm a<|.inr q;have n:∀a,Z' a->(Z' a/\¬bW Fs vs a)\/bW Fs vs a:=λa h=>(F9<|bW Fs vs a).elim .inr λq=>.inl ⟨h,q⟩;exact k v _ H' _ G (i ▸ D) (r.zmono n)<|s2 g
  rcases c with q|f
  .exact q
  .have i:after m0 vs η=η:=by rw [f]; rfl
   refine k v _ H' Fs G (i.symm ▸ t) ?_ g;subst f;exact r.dany
 |l vs=>obtain⟨b,s0⟩:=A.share (vs:=vs);have g:=s0<|(Step.refl Z H<|tot Fs).mono (F2:=λa=>tot Fs a\/no a) (λ_ z=>z) λa h=>h.elim id λz=>z.elim;refine⟨sl.pv,_,_,_,w,η',b,ev,λv Z' H' Fs' G y r s=>k v Z' H' Fs' G y r<|(g.mono (λ_ z=>z) λa h=>.inl h).trans s⟩
theorem DH {x:X}{e:E}{b:IZ}{Q:IZ->Hp->Prop}(A:At K sl σ Z H Fs η no)(ev:evT C x e η=.ok (b,η'))(k:∀Z' H' Fs',At K sl σ Z' H' Fs' η' no->Step Z H (tot Fs) Z' H' (tot Fs')->Q b H'):wT K sl.sl C e σ H Q:=by
 cases x with
 |q vs ls=>obtain⟨⟨u,d⟩,f,g⟩:=ae<|show(evE C e<|pick vs ls η).bind (kT η)=_ from ev;obtain⟨o,i,e3⟩:=aw<|show ret η (truth u.2)=_ from g;cases e3;refine⟨sl.pv,_,kj,_,u,d,b,A.quiet (vs:=vs) (ls:=ls),f,i,λZ' H' Fs' c s=>?_⟩;obtain⟨n,j⟩:=b8 (G:=no) A bA c.gd.zal (s.mono (F2:=λa=>tot Fs' a\/no a) (λ_ z=>z) λa h=>h.elim id λz=>z.elim) λa h=>fw h;exact k _ H' Fs n<|j.mono (λ_ z=>z) λa h=>.inl h
 |l vs=>obtain⟨⟨u,d⟩,f,g⟩:=ae<|show(evE C e<|M.share vs η).bind kT2=_ from ev;obtain⟨o,i,e3⟩:=aw<|show ret d (truth u.2)=_ from g;cases e3;obtain⟨c,s0⟩:=A.share (vs:=vs);have j:=s0<|(Step.refl Z H<|tot Fs).mono (F2:=λa=>tot Fs a\/no a) (λ_ z=>z) λa h=>h.elim id λz=>z.elim;exact⟨sl.pv,_,_,_,u,_,b,c,f,i,λZ' H' Fs' m s=>k Z' H' Fs' m<|(j.mono (λ_ z=>z) λa h=>.inl h).trans s⟩
end
section
variable {K:D1}{Wx:L2.St->VK}{sl:Cf}{sf sg:O->B O}{C:Call}{σ σ2:L2.St}{Z Z' Z1:Fp}{H H' H1:Hp}{Fs Fs' Fs1:Fps}{η η' η1 ηb:Env}{G G' G1 R F F':Fp}{tg is vs ls io:U O}{pv val:O->B V}{D:bw}
def Fin (K:D1)(Wx:L2.St->VK)(sl:Cf)(Z:Fp)(H:Hp)(F:Fp)(D:bw):Fl->Prop
|.nx η'=>∀b Z' H' Fs',At K sl b Z' H' Fs' η' no->Step Z H F Z' H' (tot Fs')->D.nx b H'
|.rt w η'=>∀v b Z' H' Fs' G,At K sl b Z' H' Fs' η' G->Rep K Z' H' w.1 w.2 v G->Step Z H F Z' H' (λa=>tot Fs' a\/G a)->D.rt v H'
|.bk η'=>∀b Z' H' Fs',At K sl b Z' H' Fs' η' no->Step Z H F Z' H' (tot Fs')->D.bk b H'
|.ex t η'=>∀v b Z' H' Fs',At K sl b Z' H' Fs' η' no->Rep K Z' H' .s t v no->Step Z H F Z' H' (tot Fs')->Wx b v H'
|_=>Jh
theorem Fin.step {fl:Fl}(s:Step Z H F Z1 H1 F')(h:Fin K Wx sl Z H F D fl):Fin K Wx sl Z1 H1 F' D fl:=by
 cases fl with
 |nx η=>exactλa Z' H' Fs' A t=>h a Z' H' Fs' A<|s.trans t
 |rt w η=>exactλv a Z' H' Fs' G A r t=>h v a Z' H' Fs' G A r<|s.trans t
 |bk η=>exactλa Z' H' Fs' A t=>h a Z' H' Fs' A<|s.trans t
 |ex t η=>exactλv a Z' H' Fs' A r t=>h v a Z' H' Fs' A r<|s.trans t
 |_=>exact h.elim
structure mM (sf:O->B O)(io:U O)(pv:O->B V):Prop where
 inj:∀i i' j,sf i=Y j->sf i'=Y j->i=i'
 io:∀i,i ∉ io->pv i=J
def wS (K:D1)(Wx:L2.St->VK)(sf:O->B O)(io:U O)(C:Call)(a:S):TS:=λD σ H=>∃pv Z Fs η,mM sf io pv/\At K ⟨sf,pv⟩ σ Z H Fs η no/\Fin K Wx ⟨sf,pv⟩ Z H (tot Fs) D (evS C a η)
def wSs (K:D1)(Wx:L2.St->VK)(sf:O->B O)(io:U O)(C:Call)(a:U S):TS:=λD σ H=>∃pv Z Fs η,mM sf io pv/\At K ⟨sf,pv⟩ σ Z H Fs η no/\Fin K Wx ⟨sf,pv⟩ Z H (tot Fs) D (evSs C a η)
theorem uq (D:bw)(σ:L2.St)(H:Hp)(h:wSs K Wx sf io C [] D σ H):vH D σ H:=by obtain⟨pv,Z,Fs,η,N,A,f⟩:=h;exact f σ Z H Fs A<|Step.refl _ _ _
theorem pD {s:S}{r:U S}(D:bw)(σ:L2.St)(H:Hp)(h:wSs K Wx sf io C (s::r) D σ H):Cy (wS K Wx sf io C s) (wSs K Wx sf io C r) D σ H:=by
 obtain⟨pv,Z,Fs,η,N,A,f⟩:=h;refine⟨pv,Z,Fs,η,N,A,?_⟩;have a:Fin K Wx ⟨sf,pv⟩ Z H (tot Fs) D (Fl.seq (evS C s η) (evSs C r)):=f;cases e:evS C s η with
 |nx η1=>rw[e] at a;exactλc Z' H' Fs' b t=>⟨pv,Z',Fs',η1,N,b,a.step t⟩
 |rt w η1=>rw[e] at a;exact a
 |bk η1=>rw[e] at a;exact a
 |ex t η1=>rw[e] at a;exact a
 |no=>rw[e] at a;exact a.elim
theorem sY {s:S}(D:bw)(σ:L2.St)(H:Hp)(h:wSs K Wx sf io C [s] D σ H):wS K Wx sf io C s D σ H:=by
 obtain⟨pv,Z,Fs,η,N,A,f⟩:=h;refine⟨pv,Z,Fs,η,N,A,?_⟩;have a:Fin K Wx ⟨sf,pv⟩ Z H (tot Fs) D (Fl.seq (evS C s η) (evSs C [])):=f;cases e:evS C s η with
 |nx η1=>rw[e] at a;exact a
 |rt w η1=>rw[e] at a;exact a
 |bk η1=>rw[e] at a;exact a
 |ex t η1=>rw[e] at a;exact a
 |no=>rw[e] at a;exact a.elim
theorem bq {b:Type}{r:Res b}{g:b->Fl}(f:Fin K Wx sl Z H F D<|Fl.of η r g):∃a,r=.ok a/\Fin K Wx sl Z H F D (g a):=by
 cases r with
 |ok a=>exact⟨a,rfl,f⟩
 |ex t=>exact f.elim
 |no=>exact f.elim
theorem el {o:B Env}(f:Fin K Wx sl Z H F D<|nxO η o):∃η',o=Y η'/\Fin K Wx sl Z H F D (.nx η'):=by
 cases o with
 |some a=>exact⟨a,rfl,f⟩
 |none=>exact f.elim
theorem At.setR {i j:O}{w:W}{x:V}(N:mM sf io pv)(P:i ∉ io)(s:sf i=Y j)(A:At K ⟨sf,pv⟩ σ Z H Fs η G)(r:Rep K Z H w.1 w.2 x G1)(q1:∀a,G1 a->G a)(q2:∀a,R a->G a)(q3:∀a,R a->¬G1 a):At K ⟨sf,pv⟩ (σ.set j<|Y x) Z H (hE Fs i G1) (M.put η i w) R:=by
 have hj:j < σ.length:=A.ln i j s
 have c:At K ⟨λk=>if k=i then J else sf k,pv⟩ (σ.set j (Y x)) Z H Fs (M.del η i) G:=by
  refine⟨A.gd,λl m t e=>?_,A.own,A.dis,λl u k g hk=>?_,λl k hk=>?_⟩
  .rw [a8] at e;split at e
   .cases e
   .rename_i hne;obtain⟨v,r',Q,h2⟩:=A.env l m t e;have f:l≠i:=λz=>hne ⟨z,by rw[<- z];exact cB e⟩;refine⟨v,r',λk hk=>?_,h2⟩;have d:sf l=Y k:=by have:(if l=i then J else sf l)=Y k:=hk;rw[Jd f] at this;exact this
    have n:j≠k:=λz=>f (N.inj l i k d<|by rw[<- z];exact s);rw[Gb n];exact Q k d
  .have f:l≠i:=fun z=>by have y:pv l=Y u:=g;rw[z,N.io i P] at y;cases y
   have d:sf l=Y k:=by have:(if l=i then J else sf l)=Y k:=hk;rw[Jd f] at this;exact this
   have n:j≠k:=λz=>f (N.inj l i k d<|by rw[<- z];exact s);rw[Gb n];exact A.lk l u k g d
  .have d:sf l=Y k:=by
    have:(if l=i then J else sf l)=Y k:=hk;split at this
    .cases this
    .exact this
   rw[He];exact A.ln l k d
 have p:=At.put (i:=i) (w:=w) (G1:=G1) (R:=R) c r q1 q2 q3 (λk hk=>by have d:(if i=i then J else sf i)=Y k:=hk;rw[Jc rfl] at d;cases d) (λu g=>by have:=N.io i P;rw[show pv i=Y u from g] at this;cases this)
 have e1:M.put (M.del η i) i w=M.put η i w:=by
  have:∀(η:Env) (i:O) (a b:B W),wr (wr η i a) i b=wr η i b:=λη=>by
   induction η with
   |nil=>intro i a b;rfl
   |cons o η ih=>intro i a b;cases i with
    |zero=>rfl
    |succ i=>show o::wr (wr η i a) i b=o::wr η i b;rw[ih]
  exact this η i J<|Y w
 rw[e1] at p;refine⟨p.gd,λl m t e=>?_,p.own,p.dis,λl u k g hk=>?_,λl k hk=>by rw[He];exact A.ln l k hk⟩
 .obtain ⟨v,r',Q,h2⟩:=p.env l m t e;by_cases f:l=i
  .subst f;rw[a8] at e;split at e
   .cases e;refine⟨x,r.mono λa h=>.inl ⟨rfl,h⟩,λk hk=>?_,λu g=>by have:=N.io l P;rw[show pv l=Y u from g] at this;cases this⟩;have:k=j:=by rw[show sf l=Y k from hk] at s;cases s;rfl
    subst this;rw[Hx hj]
   .rename_i hc;exact Jb ⟨rfl,cB e⟩ hc
  .refine ⟨v,r',fun k hk=>Q k ?_,h2⟩;show(if l=i then J else sf l)=Y k;rw[Jd f];exact hk
 .by_cases f:l=i
  .subst f;have:=N.io l P;rw[show pv l=Y u from g] at this;cases this
  .exact p.lk l u k g (show(if l=i then J else sf l)=Y k by rw[Jd f];exact hk)
theorem At.set {i j:O}{w:W}{x:V}(N:mM sf io pv)(a:i ∉ io)(b:sf i=Y j)(A:At K ⟨sf,pv⟩ σ Z H Fs η G)(r:Rep K Z H w.1 w.2 x G):At K ⟨sf,pv⟩ (σ.set j<|Y x) Z H (hE Fs i G) (M.put η i w) no:=At.setR N a b A r (λ_ h=>h) (λ_ z=>z.elim) λ_ z=>z.elim
theorem jP {x:X}{i j:O}{e:E}(k:i ∉ io)(l:sf i=Y j)(D:bw)(σ:L2.St)(H:Hp)(h:wS K Wx sf io C (.asg x i e) D σ H):lV (wE K sf C e) (bQ j) D σ H:=by obtain⟨pv,Z,Fs,η,N,A,f⟩:=h;obtain⟨⟨w,η1⟩,c,d⟩:=bq<|show Fin K Wx ⟨sf,pv⟩ Z H (tot Fs) D (Fl.of η (evX C x e η)<|uI i) from f;refine jI (sl:=⟨sf,pv⟩) A c λv Z' H' Fs' G b r s=>?_;exact d _ Z' H' _ (At.set N k l b r)<|s.mono (λ_ z=>z) λa g=>aK g
theorem zg {x:X}{e:E}(D:bw)(σ:L2.St)(H:Hp)(h:wS K Wx sf io C (.exp x e) D σ H):vJ (wE K sf C e) D σ H:=by obtain⟨pv,Z,Fs,η,N,A,f⟩:=h;obtain⟨⟨w,η1⟩,c,d⟩:=bq<|show Fin K Wx ⟨sf,pv⟩ Z H (tot Fs) D (Fl.of η (evX C x e η) kNx) from f;exact jI (sl:=⟨sf,pv⟩) A c λv Z' H' Fs' G b r s=>d σ Z' H' Fs' b.bare<|s.mono (λ_ z=>z) λa g=>.inl g
theorem xG {e:E}(D:bw)(σ:L2.St)(H:Hp)(h:wS K Wx sf io C (.ret vs e) D σ H):B9 (wE K sf C e) D σ H:=by obtain⟨pv,Z,Fs,η,N,A,f⟩:=h;obtain⟨⟨w,η1⟩,b,c⟩:=bq<|show Fin K Wx ⟨sf,pv⟩ Z H (tot Fs) D (Fl.of η (evE C e<|M.share vs η) kRt) from f;exact jI (sl:=⟨sf,pv⟩) (x:=.l vs) A b λv Z' H' Fs' G a r s=>c v σ Z' H' Fs' G a r s
theorem x2 {x:X}{c:E}{a b:U S}(D:bw)(σ:L2.St)(H:Hp)(h:wS K Wx sf io C (.ite x c a b) D σ H):AE (wT K sf C c) (wSs K Wx sf io C a) (wSs K Wx sf io C b) D σ H:=by
 obtain⟨pv,Z,Fs,η,N,A,f⟩:=h;obtain⟨⟨k,η1⟩,g,e⟩:=bq<|show Fin K Wx ⟨sf,pv⟩ Z H (tot Fs) D (Fl.of η (evT C x c η)<|kIf (evSs C a)<|evSs C b) from f;refine DH (sl:=⟨sf,pv⟩) A g λZ' H' Fs' d s=>?_;cases k with
 |true=>rw[Jc rfl];exact⟨pv,Z',Fs',η1,N,d,Fin.step s e⟩
 |false=>rw[Jd EI];exact⟨pv,Z',Fs',η1,N,d,Fin.step s e⟩
theorem vo {m:Md}{d:U T}{v:V}(f:m≠.s)(r:Rep K Z H m (.lst d) v G):∃a c,v=.ref a/\c.length<=LIM/\G a/\H a=Y (.lst c)/\RepL K Z H m.kid d c (λb=>G b/\b≠a):=by obtain⟨a,c,e,l,q,p⟩:=r;rw[LstR.own f] at q;exact⟨a,c,e,l,q.1,q.2,p⟩
theorem uG {i:O}{a:IY}{ts':U T}{d:U V}{m':Md}(hm:m'≠.s)(A:At K ⟨sf,pv⟩ σ Z H Fs η G){w0:W}(hi:rd η i=Y w0)(ha:Fs i a)(hx:∀j,sf i=Y j->σ[j]?=Y (Y<|.ref a))(hl:d.length<=LIM)(hpv:∀u,pv i=Y u->V.ref a=u)
  (hg:∀b,G' b->(Fs i b\/G b)/\b≠a) (hR:∀b,R b->(Fs i b\/G b)/\b≠a) (hRG:∀b,R b->¬G' b) (p:RepL K (λb=>Z b\/((Fs i b\/G b)/\b≠a/\¬G' b/\¬R b)) H m'.kid ts' d G') {Q:Hp->Prop}
  (k:∀Z' Fs',At K ⟨sf,pv⟩ σ Z' (upd H a<|.lst d) Fs' (M.put η i (m',.lst ts')) R->Step Z H (λb=>tot Fs b\/G b) Z' (upd H a<|.lst d) (λb=>tot Fs' b\/R b)->(∀{m t v},Rep K (λb=>Z b\/((Fs i b\/G b)/\b≠a/\¬G' b/\¬R b)) H m t v R->Rep K Z' (upd H a<|.lst d) m t v R)->Q (upd H a<|.lst d)):Q (upd H a<|.lst d):=by
 have x:tot Fs a:=⟨i,ha⟩;obtain⟨nza,ys,hya⟩:=A.gd.own a x;have nGa:¬G a:=λq=>A.dis a q x
 have w:∀b,(Z b\/((Fs i b\/G b)/\b≠a/\¬G' b/\¬R b))->b≠a:=λb h z=>by
  subst z;rcases h with h|h
  .exact nza h
  .exact h.2.1 rfl
 have keep:∀b o,H b=Y o->b≠a->upd H a (.lst d) b=Y o:=λb o e f=>by rw[ag f];exact e
 have neT:∀b xs,H b=Y (.tup xs)->b≠a:=λb xs e z=>by rw[z,hya] at e;exact ky e.symm
 have neF:∀b o u,H b=Y (.frz o u)->b≠a:=λb o u e z=>by rw[z,hya] at e;exact ik e.symm
 have stay:∀{c:Fp},(∀b,c b->b≠a)->Stay c H (upd H a (.lst d)):=λ{c} hY=>⟨λb o f e=>keep b o e<|hY b f,λb xs e=>by
  rcases e with e|⟨u,e⟩
  .exact .inl (keep b _ e<|neT b xs e)
  .exact .inr ⟨u,keep b _ e<|neF b u _ e⟩,λb o u e=>keep b _ e<|neF b o u e⟩
 have al:∀b,H b≠J->upd H a (.lst d) b≠none:=λb h=>by
  by_cases e:b=a
  .rw[e,ah];simp
  .rw[ag e];exact h
 have N:∀b,(Z b\/((Fs i b\/G b)/\b≠a/\¬G' b/\¬R b))->H b≠none:=λb h=>by
  rcases h with h|⟨h|h,_⟩
  .exact A.gd.zal b h
  .obtain⟨_,P,e⟩:=A.gd.own b ⟨i,h⟩;rw[e];simp
  .obtain⟨_,P,e⟩:=A.own b h;rw[e];simp
 have listAt:∀b,(tot Fs b\/G b)->∃P:OO,upd H a (.lst d) b=Y P.ho:=λb h=>by
  by_cases e:b=a
  .exact⟨.inl d,by rw[e,ah];rfl⟩
  .rcases h with h | h
   .obtain⟨_,P,q⟩:=A.gd.own b h;exact⟨P,by rw[ag e];exact q⟩
   .obtain⟨_,P,q⟩:=A.own b h;exact⟨P,by rw[ag e];exact q⟩
 have nZ:∀b,(Fs i b\/G b)->¬Z b:=λb h z=>h.elim (λy=>(A.gd.own b ⟨i,y⟩).1 z) λy=>(A.own b y).1 z
 have dG:∀b,tot (hE Fs i λb=>G' b\/b=a) b->(∃j,j≠i/\Fs j b)\/G' b\/b=a:=λb h=>by
  obtain⟨j,h|h⟩:=h
  .exact .inr h.2
  .exact .inl ⟨j,h⟩
 refine k (λb=>Z b\/((Fs i b\/G b)/\b≠a/\¬G' b/\¬R b)) (hE Fs i λb=>G' b\/b=a) ⟨⟨λb h=>⟨λz=>?_,?_⟩,λj l b g hk=>?_,λb h=>al b<|N b h⟩,λl m t e=>?_,λb h=>⟨λz=>?_,listAt b<|(hR b h).1.imp (λz=>⟨i,z⟩) id⟩,λb h q=>?_,A.lk,A.ln⟩ ⟨λb o e n=>keep b o e λz=>n<|.inl<|z ▸ x,λb h=>.inl h,λb h=>h.imp id λq=>.inl<|q.1.imp (λz=>⟨i,z⟩) id,λb h=>?_,al,λ_ b h=>al b<|N b h⟩ λ{m t v} r=>r.keep (stay w) (λ_ z=>z) λb o f e=>keep b o e (hR b f).2
 .rcases dG b h with ⟨j,g,q⟩ | q | q
  .rcases z with z | ⟨z | z,_⟩
   .exact(A.gd.own b ⟨j,q⟩).1 z
   .exact g (A.gd.dis j i b q z)
   .exact A.dis b z ⟨j,q⟩
  .rcases z with z | z
   .exact nZ b (hg b q).1 z
   .exact z.2.2.1 q
  .exact w b z q
 .rcases dG b h with ⟨j,g,q⟩ | q | q
  .exact listAt b (.inl ⟨j,q⟩)
  .exact listAt b ((hg b q).1.imp (λz=>⟨i,z⟩) id)
  .exact⟨.inl d,by rw[q,ah];rfl⟩
 .have key:∀ {j:O},(G' b\/b=a)->Fs j b->j=i:=fun {j} h q=>by
   rcases h with h|h
   .rcases (hg b h).1 with y | y
    .exact A.gd.dis j i b q y
    .exact Jb ⟨j,q⟩ (A.dis b y)
   .rw[h] at q;exact A.gd.dis j i a q ha
  rcases g with⟨rfl,g⟩|⟨nj,g⟩
  .rcases hk with ⟨rfl,_⟩ | ⟨nk,hk⟩
   .rfl
   .exact Jb (key g hk) nk
  .rcases hk with ⟨rfl,hk⟩ | ⟨nk,hk⟩
   .exact Jb (key hk g) nj
   .exact A.gd.dis j l b g hk
 .rw [a8] at e;split at e
  .rename_i hc;obtain⟨rfl,_⟩:=hc;cases e;refine⟨.ref a,⟨a,d,rfl,hl,(LstR.own hm).mpr ⟨.inl ⟨rfl,.inr rfl⟩,ah⟩,?_⟩,hx,hpv⟩;exact(p.keep (stay w) (λ_ z=>z) λb o f e=>keep b o e (hg b f).2).mono λb f=>⟨.inl ⟨rfl,.inl f⟩,(hg b f).2⟩
  .rename_i hc;have hl':l≠i:=λz=>hc ⟨z,cB hi⟩;obtain⟨v,r,h⟩:=A.env l m t e;have nea:∀b,Fs l b->b≠a:=λb q z=>hl'<|A.gd.dis l i a (z ▸ q) ha;exact⟨v,((r.keep (stay λb f z=>nza<|z ▸ f) (λ_ z=>z) λb o f e=>keep b o e<|nea b f).zmono λb h=>.inl h).mono λb h=>.inr ⟨hl',h⟩,h⟩
 .rcases z with z | z
  .exact nZ b (hR b h).1 z
  .exact z.2.2.2 h
 .rcases dG b q with ⟨j,g,y⟩ | y | y
  .rcases (hR b h).1 with z | z
   .exact g (A.gd.dis j i b y z)
   .exact A.dis b z ⟨j,y⟩
  .exact hRG b h y
  .exact(hR b h).2 y
 .rcases h with h | h
  .rcases dG b h with ⟨j,_,q⟩ | q | q
   .exact .inl (.inl ⟨j,q⟩)
   .exact .inl ((hg b q).1.imp (λz=>⟨i,z⟩) id)
   .exact .inl (.inl<|q ▸ x)
  .exact .inl ((hR b h).1.imp (λz=>⟨i,z⟩) id)
theorem change {i:O}{a:IY}{ts':U T}{d:U V}{m':Md}(n:m'≠.s)(A:At K ⟨sf,pv⟩ σ Z H Fs η G){o:W}(l:rd η i=Y o)(f:Fs i a)(hx:∀j,sf i=Y j->σ[j]?=Y (Y<|.ref a))(m:d.length<=LIM)(e:∀u,pv i=Y u->V.ref a=u)
  (g:∀b,G' b->(Fs i b\/G b)/\b≠a) (p:RepL K (λb=>Z b\/((Fs i b\/G b)/\b≠a/\¬G' b)) H m'.kid ts' d G') {Q:Hp->Prop}
  (k:∀Z' Fs',At K ⟨sf,pv⟩ σ Z' (upd H a<|.lst d) Fs' (M.put η i (m',.lst ts')) no->Step Z H (λb=>tot Fs b\/G b) Z' (upd H a<|.lst d) (tot Fs')->Q (upd H a<|.lst d)):Q (upd H a<|.lst d):=
 uG (R:=no) n A l f hx m e g (λ_ z=>z.elim) (λ_ z=>z.elim) (p.zmono λb h=>h.imp id λq=>⟨q.1,q.2.1,q.2.2,λz=>z⟩) λZ' Fs' c s _=>k Z' Fs' c<|s.mono (λ_ z=>z) λ_ z=>.inl z
end
section
variable {K:D1}{Wx:L2.St->VK}{sl:Cf}{sf sg:O->B O}{C:Call}{σ σ2:L2.St}{Z Z' Z1:Fp}{H H' H1:Hp}{Fs Fs' Fs1:Fps}{η η' η1 ηb:Env}{G G' G1 R F F':Fp}{tg is vs ls io:U O}{pv val:O->B V}{D:bw}
theorem pT {o:B W}{u:Unit}(h:j7 o=.ok u):∃m a,o=Y (m,.lst a):=by
 cases o with
 |none=>cases h
 |some w=>
  obtain⟨m,t⟩:=w;cases t with
  |lst a=>exact⟨m,a,rfl⟩
  |_=>cases h
theorem At.listAt {i j:O}{m:Md}{e:U T}(d:sf i=Y j)(A:At K ⟨sf,pv⟩ σ Z H Fs η G)(h:rd η i=Y (m,.lst e)):∃a b,σ[j]?=Y (Y<|.ref a)/\H a=Y (.lst b):=by obtain⟨v,r,c,_⟩:=A.env i m _ h;obtain⟨a,b,rfl,hx,_⟩:=cp r;exact⟨a,b,c j d,hx⟩
theorem At.ourList {i j:O}{a:IY}{m:Md}{d:U T}(o:sf i=Y j)(n:m≠.s)(f:σ[j]?=Y (Y<|.ref a))(A:At K ⟨sf,pv⟩ σ Z H Fs η G)(h:rd η i=Y (m,.lst d)):
  ∃c,c.length<=LIM/\Fs i a/\H a=Y (.lst c)/\RepL K Z H m.kid d c (λb=>Fs i b/\b≠a)/\(∀u,pv i=Y u->V.ref a=u):=by
 obtain⟨v,r,k,hp⟩:=A.env i m _ h;have e:=k j o;rw[f] at e;cases e;obtain⟨b,c,e,l,g,hx,p⟩:=vo n r;cases e;exact⟨c,l,g,hx,p,hp⟩
theorem qQ {u w r:W}(h:fO u w=Y r):∃m a,u=(m,.lst a)/\m≠.s/\a.length<LIM/\r=((m.kid.meet<|lf w.1 w.2).up,.lst<|a++[w.2]):=by
 obtain⟨m,t⟩:=u;obtain⟨n,c⟩:=w;cases m with
 |s=>cases h
 | d =>
  cases t with
  |lst a=>
   have b:(if a.length<LIM then Y ((((Md.d.kid.meet (lf n c)).up,.lst (a++[c])):W)) else J)=Y r:=h;split at b
   .rename_i e;cases b;exact⟨.d,a,rfl,by simp,e,rfl⟩
   .cases b
  |_=>cases h
 | o m =>
  cases t with
  |lst a=>
   have b:(if a.length<LIM then Y (((((Md.o m).kid.meet (lf n c)).up,.lst (a++[c])):W)) else J)=Y r:=h;split at b
   .rename_i e;cases b;exact⟨.o m,a,rfl,by simp,e,rfl⟩
   .cases b
  |_=>cases h
theorem oW {a:IY}{m:Md}{g:U T}{i:U V}{w:W}{y:V}{c:Fp}(k:∀b,c b->b≠a)(l:∀b,G b->b≠a)(d:∀b,c b->¬G b)(p:RepL K Z H m g i c)(r:Rep K Z H w.1 w.2 y G):
  ∃G',(∀b,G' b->(c b\/G b)/\b≠a)/\RepL K (λb=>Z b\/((c b\/G b)/\b≠a/\¬G' b)) H (m.meet<|lf w.1 w.2) (g++[w.2]) (i++[y]) G':=by
 obtain⟨G',e,j⟩:=jc (G:=λb=>c b\/G b) (λ_ z=>.inl z) (λ_ z=>.inr z) d p<|RepL.one r.lf;have f:∀b,(c b\/G b)->b≠a:=λb h=>h.elim (k b)<|l b;exact⟨G',λb h=>⟨e b h,f b<|e b h⟩,j.zmono λb h=>h.imp id λq=>⟨q.1,f b q.1,q.2⟩⟩
theorem Ab {x:X}{i j:O}{e:E}(l:sf i=Y j)(D:bw)(σ:L2.St)(H:Hp)(h:wS K Wx sf io C (.app x i e) D σ H):
  ∃a g,σ[j]?=Y (Y<|.ref a)/\H a=Y (.lst g)/\wE K sf C e σ H λy H1=>∃g,H1 a=Y (.lst g)/\g.length<sizeLine/\D.nx σ (upd H1 a<|.lst<|g++[y]):=by
 obtain⟨pv,Z,Fs,η,N,A,f⟩:=h;obtain⟨u,h0,h1⟩:=bq<|show Fin K Wx ⟨sf,pv⟩ Z H (tot Fs) D (Fl.of η (j7<|rd η i)<|mC (evX C x e) η<|pX i) from f;obtain⟨m0,t0,o⟩:=pT h0;obtain⟨a,P,t,ha⟩:=A.listAt l o;obtain⟨⟨w,η1⟩,h2,h3⟩:=bq<|show Fin K Wx ⟨sf,pv⟩ Z H (tot Fs) D (Fl.of η (evX C x e η)<|pX i) from h1;obtain⟨η2,d,h5⟩:=el<|show Fin K Wx ⟨sf,pv⟩ Z H (tot Fs) D (nxO η1<|((rd η1 i).bind λu=>fO u w).map λu=>M.put η1 i u) from h3;refine⟨a,P,t,ha,jI (sl:=⟨sf,pv⟩) A h2 λy Z' H' Fs' G c r s=>?_⟩;cases e1:rd η1 i with
 |none=>rw[e1] at d;cases d
 | some u1 =>
  rw[e1] at d;cases e2:fO u1 w with
  |none=>rw[show(Y u1).bind (λu=>fO u w)=fO u1 w from rfl,e2] at d;cases d
  |some r1=>rw[show(Y u1).bind (λu=>fO u w)=fO u1 w from rfl,e2] at d;cases d;obtain⟨m,ts,rfl,hm,hlen,rfl⟩:=qQ e2;obtain⟨g,hl,hf,hx,p,v⟩:=c.ourList l hm t e1;have e3:=p.length;obtain⟨G',Q,g2⟩:=oW (a:=a) (λb h=>h.2) (λb h z=>c.dis b h ⟨i,z ▸ hf⟩) (λb h q=>c.dis b q ⟨i,h.1⟩) p r;refine⟨g,hx,gQ hl,?_⟩;refine change (K:=K) (m':=(m.kid.meet<|lf w.1 w.2).up) (dF _) c e1 hf (λk hk=>by rw[show sf i=Y k from hk] at l;cases l;exact t) (by rw[Er,e3,GU];lia) v (λb h=>⟨(Q b h).1.imp FD id,(Q b h).2⟩) (ts':=ts++[w.2]) (by rw[fh];exact g2.zmono λb h=>h.imp id λq=>⟨q.1.imp FD id,q.2⟩) λZ2 n B2 s2=>h5 σ Z2 _ n B2<|s.trans s2
theorem eA (vs:U O)(η:Env):Nn η (M.share vs η):=λi e=>by
 rw[fD];split
 .rw[e];rfl
 .exact e
theorem zE {x:X}{e:E}{w:W}(h:evX C x e η=.ok (w,η')):Nn η η':=by
 cases x with
 |q vs ls=>
  obtain⟨⟨u,b⟩,c,a⟩:=ae<|show(evE C e<|pick vs ls η).bind (kX vs η)=_ from h;cases a;show Nn η<|after (M.lf u.1 u.2) vs η;cases f:M.lf u.1 u.2 with
  |d=>intro i e;exact e
  |s=>exact eA vs η
  |o m=>exact eA vs η
 |l vs=>exact(eA vs η).trans<|az e h
end
section
variable {K:D1}{Wx:L2.St->VK}{sl:Cf}{sf sg:O->B O}{C:Call}{σ σ2:L2.St}{Z Z' Z1:Fp}{H H' H1:Hp}{Fs Fs' Fs1:Fps}{η η' η1 ηb:Env}{G G' G1 R F F':Fp}{tg is vs ls io:U O}{pv val:O->B V}{D:bw}
def gF (K:D1):U O->TG
|[j]=>bQ j
|[j,l]=>uX K 2<|fG (bQ j)<|fG (bQ l) rU
|_=>λ_ _ _ _=>Jh
theorem nK {fl:Fl}{g:Env->Fl}(f:Fin K Wx sl Z H F D<|Fl.turn fl g):(∃η',fl=.nx η'/\Fin K Wx sl Z H F D (g η'))\/(∃η',fl=.bk η'/\Fin K Wx sl Z H F D (.nx η'))\/(∃w η',fl=.rt w η'/\Fin K Wx sl Z H F D (.rt w η'))\/(∃t η',fl=.ex t η'/\Fin K Wx sl Z H F D (.ex t η')):=by
 cases fl with
 |nx η=>exact .inl ⟨η,rfl,f⟩
 |bk η=>exact .inr<|.inl ⟨η,rfl,f⟩
 |rt w η=>exact .inr<|.inr<|.inl ⟨w,η,rfl,f⟩
 |ex t η=>exact .inr<|.inr<|.inr ⟨t,η,rfl,f⟩
 |no=>exact f.elim
theorem nC {fl:Fl}{g:Env->Fl}{N:L2.St->Hp->Prop}(f:Fin K Wx sl Z H F D<|Fl.turn fl g)(b:∀η' a Z' H' Fs',fl=.nx η'->Fin K Wx sl Z H F D (g η')->At K sl a Z' H' Fs' η' no->Step Z H F Z' H' (tot Fs')->N a H'):Fin K Wx sl Z H F {D with nx:=N,ct:=N,bk:=D.nx} fl:=by
 rcases nK f with⟨η',rfl,f⟩|⟨η',rfl,f⟩|⟨w,η',rfl,f⟩|⟨t,η',rfl,f⟩
 .exactλa Z' H' Fs' A s=>b η' a Z' H' Fs' rfl f A s
 .exact f
 .exact f
 .exact f
theorem qk {n i:O}{c:It}{ts:U<|U W}{ws:U W}{o:U O}{x:V}{Q:L2.St->Hp->Prop}(hn:tg.length=n)(nd:tg.Nodup)(N:mM sf io pv)(f:∀t∈tg,t ∉ io)(d:tg.map sf=o.map Y)(hz:∀a,Z1 a->Z a)(st:Stay Z1 H1 H)(m:Yld K c Z1 H1 ts n)(A:At K ⟨sf,pv⟩ σ Z H Fs η no)
  (hw:ts[i]?=Y ws) (hb:aR tg ws η=Y ηb) (y:c.yld i H x H') (k:∀σ2 v g,At K ⟨sf,pv⟩ σ2 Z v g ηb no->Step Z H (tot Fs) Z v (tot g)->Q σ2 v):gF K o x σ H' Q:=by
 have hi:i<ts.length:=(EM.mp hw).1
 match n,m with
 | 1,m =>
  obtain⟨e0,w,e,r⟩:=m H i x H' st hi y;rw[e0];rw[hw] at e;cases e
  match tg,hn,o,d with
  |[t],_,[j],d=>
   cases hb;have M:sf t=Y j:=by simpa using d
   exact k _ H _ (At.set N (f t<|by simp) M A<|r.zmono hz)<|(Step.refl _ _ _).mono (λ_ z=>z) λa h=>(aK h).elim id λz=>z.elim
  |[t],_,[],d=>simp at d
  |[t],_,_::_::_,d=>simp at d
 | 2,m =>
  obtain⟨p,y1,s,u,w,rfl,sm,hq,e,r1,r2⟩:=m H i x H' st hi y;rw[hw] at e;cases e
  match tg,hn,o,d with
  |[t,l],_,[j,j'],d=>
   cases hb;have M:sf t=Y j:=by simp at d;exact d.1
   have P:sf l=Y j':=by simp at d;exact d.2
   have s0:Step Z H no Z H' no:=eG sm;obtain⟨A1,s1⟩:=A.op bA s0;have sn:Stay Z H H':=jr sm;have r1':Rep K Z H' u.1 u.2 y1 no:=(r1.zmono hz).keep sn (λ_ z=>z) λ_ _ z=>z.elim;have r2':Rep K Z H' w.1 w.2 s no:=(r2.zmono hz).keep sn (λ_ z=>z) λ_ _ z=>z.elim;have A2:=At.set N (f t<|by simp) M A1 r1';have A3:=At.set N (f l<|by simp) P A2 r2';refine⟨p,[y1,s],rfl,hq,rfl,y1,[s],rfl,s,[],rfl,rfl,k _ _ _ A3<|s1.mono (λa h=>h.elim id λz=>z.elim) λa h=>?_⟩;rcases aK h with h|h
   .exact .inl ((aK h).elim id λz=>z.elim)
   .exact h.elim
  |[t,l],_,[],d=>simp at d
  |[t,l],_,[_],d=>simp at d
  |[t,l],_,_::_::_::_,d=>simp at d
theorem q9 {n:O}{k:Ik}{u:U E}{js:U O}{e:U S}(hn:tg.length=n)(nd:tg.Nodup)(hio:∀t∈tg,t ∉ io)(hjs:tg.map sf=js.map Y)(D:bw)(σ:L2.St)(H:Hp)(h:wS K Wx sf io C (.forS vs ls k u tg e) D σ H):
  BV (wI K sf C n k u) (gF K js) (wSs K Wx sf io C e) D σ H:=by
 obtain⟨pv,Z,Fs,η,N,A,f⟩:=h;obtain⟨⟨ws,η2⟩,h1,h2⟩:=bq<|show Fin K Wx ⟨sf,pv⟩ Z H (tot Fs) D (Fl.of η (evL C u<|pick vs ls η)<|qg vs k tg (evSs C e) η) from f;obtain⟨⟨g,η3⟩,h3,h4⟩:=bq<|show Fin K Wx ⟨sf,pv⟩ Z H (tot Fs) D (Fl.of η (ret (M.share vs η)<|turns k ws)<|kN tg<|evSs C e) from h2;obtain⟨ts',ht,e3⟩:=aw h3;have e4:g=ts':=Jk FC e3;have e5:η3=M.share vs η:=Jk Fj e3;subst e4 e5;have h4':Fin K Wx ⟨sf,pv⟩ Z H (tot Fs) D (cS tg (evSs C e) g (M.share vs η)):=h4;refine⟨pv,_,kj,_,ws,η2,g,A.quiet (vs:=vs) (ls:=ls),h1,ht,λd Z1 H1 Fs1 c s wk yl=>?_⟩;obtain⟨B1,s1⟩:=b8 (G:=no) A bA c.gd.zal (s.mono (F2:=λa=>tot Fs1 a\/no a) (λ_ z=>z) λa h=>h.elim id λz=>z.elim) λa h=>fw h;obtain⟨B2,s2⟩:=B1.share (vs:=vs);have s3:=(s2 s1).mono (F2:=tot<|dX Fs vs) (λ_ z=>z) λ_ z=>.inl z;have zz:∀a,Z1 a->((Z1 a/\¬bW Fs vs a)\/bW Fs vs a):=λa h=>(F9<|bW Fs vs a).elim .inr λq=>.inl ⟨h,q⟩;refine⟨λi m v H'=>m=g.length-i/\i<=g.length/\∃p j l,At K ⟨sf,pv⟩ v p H' j l no/\Step (λa=>(Z1 a/\¬bW Fs vs a)\/bW Fs vs a) H1 (tot<|dX Fs vs) p H' (tot j)/\Fin K Wx ⟨sf,pv⟩ p H' (tot j) D (cS tg (evSs C e) (g.drop i) l),⟨g.length,by simp,EJ _,_,_,_,B2,Step.refl _ _ _,h4'.step s3⟩,?_⟩;rintro i m σi w ⟨rfl,hi,p,j,l,Ai,si,P⟩;have st:Stay Z1 H1 w:=by have:=B2.gd.own.stay si;exact⟨λa o h=>this.1 a o<|zz a h,this.2⟩
 by_cases r:i<g.length
 .right;refine⟨wk.go w i st r,_,λv H' Q=>⟨g.length-(i+1),by lia,Q⟩,λx H' y=>?_⟩;have Q:g[i]?=Y g[i]:=by simp[r]
  rw[fX Q] at P;obtain⟨ηb,hb,fb⟩:=bq<|show Fin K Wx ⟨sf,pv⟩ p w (tot j) D (Fl.of l (ofO<|aR tg g[i] l) λη1=>Fl.turn (evSs C e η1)<|cS tg (evSs C e)<|g.drop<|i+1) from P;refine qk hn nd N hio hjs (λa h=>si.zm a<|zz a h) st yl Ai Q (ef hb) y λσ2 H2 Fs2 A2 t2=>?_;refine⟨pv,p,Fs2,ηb,N,A2,nC (fb.step t2) λη' v Z' H' Fs' _ f' A' s'=>⟨rfl,r,Z',Fs',η',A',(si.trans t2).trans s',f'.step s'⟩⟩
 .left;have hi':i=g.length:=by lia
  subst hi';rw[G6] at P;exact⟨wk.stop w _ st<|D7 _,P σi p w j Ai<|Step.refl _ _ _⟩
theorem rP {x:X}{t i j Q:O}{e:E}(hne:t≠i)(hi:t ∉ io)(l:i ∉ io)(hs:sf t=Y j)(n:sf i=Y Q)(D:bw)(σ:L2.St)(H:Hp)(h:wS K Wx sf io C (.asgT x [t,i] e) D σ H):
  lV (wE K sf C e) (uX K 2<|fG (bQ j)<|fG (bQ Q) rU) D σ H:=by
 obtain⟨pv,Z,Fs,η,N,A,f⟩:=h;obtain⟨⟨w,η1⟩,h1,h2⟩:=bq<|show Fin K Wx ⟨sf,pv⟩ Z H (tot Fs) D (Fl.of η (evX C x e η)<|lR [t,i]) from f;obtain⟨u,P,h4⟩:=el<|show Fin K Wx ⟨sf,pv⟩ Z H (tot Fs) D (nxO η1<|(yM w).bind λws=>aR [t,i] ws η1) from h2;refine jI (sl:=⟨sf,pv⟩) A h1 λv Z' H' Fs' G c r s=>?_;obtain⟨m,t0⟩:=w;cases t0 with
 | tup ts =>
  have g:aR [t,i] (ts.map λt=>(m.kid,t)) η1=Y u:=P
  match ts,g with
  |[a,b],g=>
   cases g;obtain⟨p,xs,rfl,hq,hl,y1,r1,G1,G2,rfl,y,M,d,p1,o,r2,G3,G4,e2,k,g4,d2,p2,q⟩:=r;cases e2;obtain rfl:r2=[]:=q;have B1:=At.setR (w:=(m.kid,a)) (R:=G3) N hi hs c p1 y (λa h=>M a<|k a h) λa h z=>d a z<|k a h;have B2:=At.set (w:=(m.kid,b)) N l n B1 p2;refine⟨p,[y1,o],rfl,hq,rfl,y1,[o],rfl,o,[],rfl,rfl,h4 _ Z' H' _ B2<|s.mono (λ_ z=>z) λa h=>?_⟩;rcases aK h with h|h
   .exact(aK h).imp id (y a)
   .exact .inr (M a<|k a h)
  |[],g=>cases g
  |[_],g=>cases g
  |_::_::_::_,g=>cases g
 |_=>cases P
end
end MR

namespace MR
open PySem PySem.Spec PyProof.Rows L2 L3
section
variable {X:Cx}{sf sg:O->B O}{C:M.Call}{pos p2:Pos}{ea eb ec:Je}{a b c:M.E}{h:IZ}{n:O}
theorem aB {e:Je}{t i:TE}(h:PE X e t)(j:∀g H Q,i g H Q->t g H Q):PE X e i:=λf s g H Q d q=>h f s g H Q d<|j g H Q q
theorem jo {e:Je}{t i:TT}(h:PT X e t)(j:∀g H Q,i g H Q->t g H Q):PT X e i:=λf s g H Q d q=>h f s g H Q d<|j g H Q q
theorem v9 {e:Je}{t j:TT}(h:PW X e t)(k:∀i H Q,j i H Q->t i H Q):PW X e j:=λf g s i H Q d q=>h f g s i H Q d<|k i H Q q
theorem lz {g:U Je}{t i:TA}(h:PA X g t)(j:∀f H Q,i f H Q->t f H Q):PA X g i:=λpos e s f H Q d q=>h pos e s f H Q d<|j f H Q q
theorem bN {s:Jj}{t g:TS}(h:PS X s t)(i:∀D f H,g D f H->t D f H):PS X s g:=λe s f H D d q=>h e s f H D d<|i D f H q
theorem gH {s:U Jj}{t g:TS}(h:PSs X s t)(i:∀D f H,g D f H->t D f H):PSs X s g:=λe s f H D d q=>h e s f H D d<|i D f H q
theorem iV {j e:Je}{t i:TI}(h:PI X j e t)(k:∀g H R,i g H R->t g H R):PI X j e i:=λf s g H R d q=>h f s g H R d<|k g H R q
theorem BF {i e:Je}{t j:TI}(h:PI X i e t)(k:PI X i e j):PI X i e (λg H R=>t g H R\/j g H R):=λf s g H R d q=>q.elim (h f s g H R d)<|k f s g H R d
abbrev SE (X:Cx)(sf:O->B O)(C:M.Call)(d:Je)(e:M.E):Prop:=PE X d<|wE X.K sf C e
abbrev SB (X:Cx)(sf:O->B O)(C:M.Call)(d:Je)(e:M.E):Prop:=PT X d<|wT X.K sf C e
abbrev SL (X:Cx)(sf:O->B O)(C:M.Call)(e:U Je)(d:U M.E):Prop:=PA X e<|wL X.K sf C d
abbrev SA (X:Cx)(sf:O->B O)(C:M.Call)(e:U Je)(d:U M.E):Prop:=PA X e<|wA X.K sf C d
abbrev SS (X:Cx)(sf:O->B O)(d:U O)(C:M.Call)(e:Jj)(s:M.S):Prop:=PS X e<|wS X.K (xw X) sf d C s
abbrev SSs (X:Cx)(sf:O->B O)(d:U O)(C:M.Call)(e:U Jj)(s:U M.S):Prop:=PSs X e<|wSs X.K (xw X) sf d C s
theorem sV (j:O){i:O}{x:Str}(g:sf i=Y j:=by rfl)(e:X.N[j]?=Y x:=by rfl)(k:Vis X.env.scope x:=by first|exact Eg rfl|exact Ec (Eg rfl)|exact Ec<|Ec rfl)(f:(x==("__debug__":Str))=false:=by decide)
  (d:(x==("__classdict__":Str))=false:=by decide):SE X sf C (.Name x pos) (.var i):=aB (a4 e k f d)<|zM g
theorem sM (j:O){i:O}{x:Str}(g:sf i=Y j:=by rfl)(e:X.N[j]?=Y x:=by rfl)(k:Vis X.env.scope x:=by first|exact Eg rfl|exact Ec (Eg rfl)|exact Ec<|Ec rfl)(f:(x==("__debug__":Str))=false:=by decide)
  (d:(x==("__classdict__":Str))=false:=by decide):SE X sf C (.Name x pos) (.mv i):=aB (a4 e k f d)<|wJ (λ_=>rfl) g
theorem sI {i:I}{k:O}:SE X sf C (.Constant (.int i) k pos) (.cst<|.int i):=aB jX<|fC λ{_ _}=>rfl
theorem sO {i:IZ}{k:O}:SE X sf C (.Constant (.bool i) k pos) (.cst<|.bl i):=aB Cp<|fC λ{_ _}=>rfl
theorem sN {k:O}:SE X sf C (.Constant .none k pos) (.cst .non):=aB x4<|fC λ{_ _}=>rfl
theorem r9 (s:Jm)(f:s.length<=1000):M.sOk (Str.ofString s)=true:=by
 unfold M.sOk;rw[Str.ofString_eq_toList,Ew];refine⟨?_,I0 ?_⟩
 .rw [Hs];intro x hx;rw[List.mem_toArray,FN] at hx;obtain⟨c,_,rfl⟩:=hx;refine I0 ?_;have:=c.valid;have d:c.toNat<0x110000:=by have e:=c.valid;unfold UInt32.isValidChar Nat.isValidChar at e;show c.val.toNat<_;lia
  exact d
 .rw [Ep,Ea,String.length_toList];exact Ed f<|by decide
theorem sS {s:Jm}{k:O}(d:s.length<=1000:=by decide):SE X sf C (.Constant (.str<|Str.ofString s) k pos) (.cst<|.str<|Str.ofString s):=aB wo<|fC λ{_ _}=>⟨rfl,r9 s d⟩
theorem sl0:SL X sf C [] []:=lz bu ya
theorem slc {d:U Je}{bs:U M.E}(e:SE X sf C ea a)(f:SL X sf C d bs)(g:D5 (ea::d) X.env=(DX,Jl ea X.env)::D5 d X.env:=by rfl):SL X sf C (ea::d) (a::bs):=lz (aJ e f g) r8
theorem sT {d:U Je}{bs:U M.E}{f:O}(h:SL X sf C d bs)(e:bs.length<=M.LIM:=by decide):SE X sf C (.Tuple d f pos) (.tup bs):=aB (zk h)<|wB e
theorem sLs {d:U Je}{bs:U M.E}(e:SL X sf C d bs)(f:bs.length<=M.LIM:=by decide):SE X sf C (.List d pos) (.lst h bs):=aB (yx e)<|xB f
theorem jN (o:SE X sf C ea a)(p:SE X sf C eb b):SE X sf C (.BinOp ea .Add eb pos) (.op .add h [a,b]):=
 aB (jl (op_add.or<|op_add_str.or<|op_cat.or lA) o p) (aX (rG (vQ X.K) λ{Z H G Q a b w x A} i j l e u r k=>by
  obtain⟨y,f,g⟩:=r;refine⟨a,b,w,x,rfl,rfl,i,j,l,br e,λv z d t=>eU (m:=.s) u f ?_ g k d t⟩;rw[Er];exact e))
theorem Dh (d:SE X sf C ea a)(e:SE X sf C eb b):SE X sf C (.BinOp ea .Sub eb pos) (.op .sub h [a,b]):=aB (jl xh d e)<|aX sR
theorem C5 (d:SE X sf C ea a)(e:SE X sf C eb b):SE X sf C (.BinOp ea .FloorDiv eb pos) (.op .fdiv h [a,b]):=aB (jl sJ d e)<|aX pH
theorem tD (d:SE X sf C ea a)(e:SE X sf C eb b):SE X sf C (.BinOp ea .Mod eb pos) (.op .mod h [a,b]):=aB (jl zG d e)<|aX ti
theorem sIx (d:SE X sf C ea a)(e:SE X sf C eb b)(f:cH eb:=by intro _ _;rfl):SE X sf C (.Subscript ea eb pos) (.op .ix h [a,b]):=aB (oR (ix_any.or yr) d e f)<|aX zq
mutual
def th:M.T->Th
|.non=>.non | .bl b=>.bl b | .int i=>.int i | .str x=>.str x | .tup ts=>.tup (ths ts) | .lst ts=>.lst (ths ts) | .dct _ _=>.non | .ins _ _ _=>.non | .obj _ _ _=>.non | .dtt _ _=>.non | .scr _=>.non | .gone=>.non
def ths:U M.T->U Th
|[]=>[]
|t::ts=>th t::ths ts
end
mutual
theorem kJ {K:D1}{Z:Fp}{H:Hp}:∀{t:M.T} {m:M.Md} {v:V} {G:Fp} {n:O},M.dp t<=n->n<=64->Rep K Z H m t v G->Has K H (th t) v/\(toD<|th t).canLay0=DY/\(toD<|th t).depth<=n
|.non,_,_,_,_,_,_,r=>⟨r,rfl,EJ _⟩
|.bl _,_,_,_,_,_,_,r=>⟨r,rfl,EJ _⟩
|.int _,_,_,_,_,_,_,r=>⟨r,rfl,EJ _⟩
|.str x,_,_,_,_,_,_,r=>⟨r.1,by have h:=r.2;unfold M.sOk at h;rw[Ew] at h;exact h.1,EJ _⟩
| .tup ts,m,v,G,n,hd,hn,⟨a,xs,e,q,l,r⟩=>by
 have hd':M.dps ts+1<=n:=hd
 match n,hd' with
 |n+1,hd'=>obtain⟨h1,h2,h3⟩:=eS (n:=n) (by lia) (by lia) r;exact⟨⟨a,xs,e,q,h1⟩,h2,F7 h3⟩
| .lst ts,m,v,G,n,hd,hn,⟨a,xs,e,l,q,r⟩=>by
 have hd':M.dps ts+1<=n:=hd
 match n,hd' with
 |n+1,hd'=>obtain⟨h1,h2,h3⟩:=eS (n:=n) (by lia) (by lia) r;exact⟨⟨a,xs,e,by cases m<;>exact q.2,h1⟩,h2,F7 h3⟩
|.dct _ _,_,_,_,_,hd,hn,_=>by have:1000<=64:=Ed hd hn;lia
|.dtt _ _,_,_,_,_,hd,hn,_=>by have:1000<=64:=Ed hd hn;lia
|.ins _ _ _,_,_,_,_,hd,hn,_=>by have:1000<=64:=Ed hd hn;lia
|.obj _ _ _,_,_,_,_,hd,hn,_=>by have:1000<=64:=Ed hd hn;lia
|.gone,_,_,_,_,hd,hn,_=>by have:1000<=64:=Ed hd hn;lia
|.scr _,_,_,_,_,hd,hn,_=>by have:1000<=64:=Ed hd hn;lia
theorem eS {K:D1}{Z:Fp}{H:Hp}:∀{ts:U M.T} {m:M.Md} {xs:U V} {G:Fp} {n:O},M.dps ts<=n->n<=64->RepL K Z H m ts xs G->HasL K H (ths ts) xs/\PyData.canLayAll0 (dU<|ths ts)=DY/\PyData.depthAll (dU<|ths ts)<=n
|[],_,_,_,_,_,_,r=>⟨r,rfl,EJ _⟩
| t::ts,m,xs,G,n,hd,hn,⟨x,r,G1,G2,e,_,_,_,p,q⟩=>by
 have hd':max (M.dp t) (M.dps ts)<=n:=hd;obtain⟨h1,h2,h3⟩:=kJ (n:=n) (by lia) hn p;obtain⟨k1,k2,k3⟩:=eS (n:=n) (by lia) hn q;refine⟨⟨x,r,e,h1,k1⟩,?_,?_⟩
 .show ((toD<|th t).canLay0&&PyData.canLayAll0 (dU<|ths ts))=DY;rw[h2,k2];rfl
 .show max (toD<|th t).depth (PyData.depthAll<|dU<|ths ts)<=n;lia
end
mutual
theorem kq:∀(t u:M.T),M.dp t<=64->M.dp u<=64->PyData.eqv (toD<|th t) (toD<|th u)=M.eqT t u
|.dct _ _,_,h,_=>by have:1000<=64:=h;lia
|.dtt _ _,_,h,_=>by have:1000<=64:=h;lia
|.ins _ _ _,_,h,_=>by have:1000<=64:=h;lia
|.obj _ _ _,_,h,_=>by have:1000<=64:=h;lia
|.gone,_,h,_=>by have:1000<=64:=h;lia
|.scr _,_,h,_=>by have:1000<=64:=h;lia
|.non,u,_,h=>by cases u<;>first|rfl|(have:1000<=64:=h;lia)
|.bl a,u,_,h=>by cases u<;>first|rfl|(cases a<;>rfl)|(have:1000<=64:=h;lia)
|.int i,u,_,h=>by
 cases u with
 |bl b=>cases b<;>rfl
 |_=>first|rfl|(have:1000<=64:=h;lia)
|.str x,u,_,h=>by cases u<;>first|rfl|(have:1000<=64:=h;lia)
|.tup ts,u,h1,h=>by
 cases u with
 |tup us=>exact gD ts us (by have:M.dps ts+1<=64:=h1;lia) (by have:M.dps us+1<=64:=h;lia)
 |_=>first|rfl|(have:1000<=64:=h;lia)
|.lst ts,u,h1,h=>by
 cases u with
 |lst us=>exact gD ts us (by have:M.dps ts+1<=64:=h1;lia) (by have:M.dps us+1<=64:=h;lia)
 |_=>first|rfl|(have:1000<=64:=h;lia)
theorem gD:∀(ts us:U M.T),M.dps ts<=64->M.dps us<=64->PyData.eqvAll (dU<|ths ts) (dU<|ths us)=M.eqTs ts us
|[],[],_,_=>rfl
|[],_::_,_,_=>rfl
|_::_,[],_,_=>rfl
|t::ts,u::us,h1,h2=>by have h1':max (M.dp t) (M.dps ts)<=64:=h1;have h2':max (M.dp u) (M.dps us)<=64:=h2;show(PyData.eqv (toD<|th t) (toD<|th u)&&PyData.eqvAll (dU<|ths ts) (dU<|ths us))=(M.eqT t u&&M.eqTs ts us);rw[kq t u (by lia)<|by lia,gD ts us (by lia)<|by lia]
end
theorem gz {K:D1}{Z:Fp}{H:Hp}{t:M.T}{m:M.Md}{v:V}{G:Fp}(g:M.dp t<=64)(r:Rep K Z H m t v G):Has K H (th t) v/\gY (th t):=by obtain⟨d,e,f⟩:=kJ g (D7 _) r;refine⟨d,?_⟩;show((toD<|th t).canLay0&&decide ((toD<|th t).depth<=64))=DY;rw[e,I0 f];rfl
theorem pL {K:D1}:Loc K 2 .eq h λj H Q=>∀x y,j=[x,y]->∃t i,Has K H t x/\Has K H i y/\gY t/\gY i/\Q (.bl<|PyData.eqv (toD t)<|toD i) H:=by
 intro P w j Z H G Q A e r D za k x y hx;subst hx;obtain⟨⟨m,a⟩,⟨n,b⟩,rfl⟩:=fv r.length.symm;obtain⟨v,z,F,N,d,s,u⟩:=cn r;have g:(if decide (M.dp a<=64)&&decide (M.dp b<=64) then Y ((.d,.bl (M.eqT a b)):M.W) else J)=Y w:=e;split at g
 .rename_i f;rw[Ew,Jg,Jg] at f;cases g;obtain⟨l,p⟩:=gz f.1 s;obtain⟨o,o2⟩:=gz f.2 u;refine⟨th a,th b,l,o,p,o2,?_⟩;rw[kq a b f.1 f.2];exact cZ k
 .cases g
theorem zi {K:D1}:Loc K 2 .ne h λj H Q=>∀x y,j=[x,y]->∃t i,Has K H t x/\Has K H i y/\gY t/\gY i/\Q (.bl<|!PyData.eqv (toD t) (toD i)) H:=by
 intro P w j Z H G Q A e r D za k x y hx;subst hx;obtain⟨⟨m,a⟩,⟨n,b⟩,rfl⟩:=fv r.length.symm;obtain⟨v,z,F,N,d,s,u⟩:=cn r;have g:(if decide (M.dp a<=64)&&decide (M.dp b<=64) then Y ((.d,.bl (!M.eqT a b)):M.W) else J)=Y w:=e;split at g
 .rename_i f;rw[Ew,Jg,Jg] at f;cases g;obtain⟨l,p⟩:=gz f.1 s;obtain⟨o,o2⟩:=gz f.2 u;refine⟨th a,th b,l,o,p,o2,?_⟩;rw[kq a b f.1 f.2];exact cZ k
 .cases g
theorem sEq (f:Room n X.A)(d:SE X sf C ea a)(e:SE X sf C eb b):SE X sf C (.Compare ea [.Eq] [eb] pos) (.op .eq h [a,b]):=aB (uD (k9 f.units) d e<|cV _)<|aX pL
theorem rZ {K:D1}{Z:Fp}{H:Hp}{t:M.T}{m:M.Md}{x:V}{G:Fp}(d:t.isG=DX)(r:Rep K Z H m t x G):decide (x=V.non)=t.isN:=by
 cases t with
 |non=>rw[show x=_ from r];rfl
 |bl _=>rw[show x=_ from r];rfl
 |int _=>rw[show x=_ from r];rfl
 |str _=>rw[show x=_ from r.1];rfl
 |tup _=>obtain⟨p,_,e,_⟩:=r;rw[show x=_ from e];rfl
 |lst _=>obtain⟨p,_,e,_⟩:=r;rw[show x=_ from e];rfl
 |scr _=>obtain⟨p,e,_⟩:=r;rw[show x=_ from e];rfl
 |dct _ _=>obtain⟨p,_,e,_⟩:=r;rw[show x=_ from e];rfl
 |ins _ _ _=>obtain⟨_,p,_,_,_,e,_⟩:=r;rw[show x=_ from e];rfl
 |obj _ _ _=>obtain⟨_,p,_,_,e,_⟩:=r;rw[show x=_ from e];rfl
 |dtt _ _=>cases d
 |gone=>cases d
theorem ifN {d:Type}{b:IZ}{x:B d}{y:d}(h:(if b=DY then J else x)=Y y):b=DX/\x=Y y:=by cases b<;>first|exact⟨rfl,h⟩|cases h
theorem my {K:D1}:Loc K 2 .isnot h λf H Q=>∀x y,f=[x,y]->y=.non/\Q (.bl<|!decide (x=.non)) H:=by
 intro v w f Z H G Q p e r s z k x y hx;subst hx;obtain⟨⟨m,a⟩,⟨n,b⟩,rfl⟩:=fv r.length.symm;obtain⟨l,o,t,u,d,i,j⟩:=cn r;obtain rfl:b=.non:=by cases b<;>first|rfl|(cases e;done)|(cases a<;>cases e)
 obtain⟨g,e⟩:=ifN<|show(if a.isG=DY then J else Y _)=_ from e;cases e;rw[rZ g i];exact⟨j,cZ k⟩
theorem lr {K:D1}{Z:Fp}{H:Hp}{G:Fp}{m:M.Md}{f:U M.T}{i:U V}(lo g:B I)(r:RepL K Z H m f i G):RepL K Z H m (M.cut f lo g) (c7 i lo g) G:=by
 have e:=r.length;have j:∀n d o,HT.sIx n d o=M.sIx n d o:=λn d o=>by cases o<;>rfl
 have k:c7 i lo g=(i.drop (M.sIx f.length 0 lo)).take (M.sIx f.length f.length g-M.sIx f.length 0 lo):=by unfold c7;rw[j,j,e]
 rw[k];exact(r.drop _).take _
theorem n0 (g:U I)(lo e:B I):c7 (g.map V.int) lo e=(M.cut g lo e).map V.int:=by
 have f:∀n d o,HT.sIx n d o=M.sIx n d o:=λn d o=>by cases o<;>rfl
 unfold c7 M.cut;rw[f,f,Ea,List.map_take,List.map_drop]
theorem zQ {f:Type}(d:U f)(lo e:B I):(M.cut d lo e).length<=d.length:=by unfold M.cut;rw[Gx,Hz];lia
theorem zK {K:D1}{Z:Fp}{H:Hp}{G t:Fp}{Q:VK}{m:M.Md}{a:M.T}{x:V}{w:M.W}{lo hi:B I}(D:∀b,t b->G b)(A:Own Z H G)(F:∀a,Z a->H a≠J)(r:Rep K Z H m a x t)
  (e:(match a with | .lst j=>M.newL h m.kid (M.cut j lo hi) | .tup j=>Y ((.s,.tup<|M.cut j lo hi):M.W) | .scr y=>Y (.d,.lst<|(M.cut y lo hi).map M.T.int)|_=>J)=Y w) (k:Out K Z H G w Q):wG K x lo hi H Q\/yq K x lo hi H Q:=by
 cases a with
 |lst j=>obtain⟨p,o,rfl,g,u,q⟩:=cp r;refine .inl ⟨p,o,rfl,.inl<|.inl g,λl f=>?_⟩;exact iC A F (Ed (bI o lo hi) u) ⟨t,D,(lr lo hi q).zmono λ_ z=>.inl z⟩ e k f
 |tup j=>obtain⟨p,o,rfl,g,u,q⟩:=b0 r;cases e;refine .inr ⟨p,o,rfl,g,λv H' i hv=>?_⟩;exact eU (m:=.s) (G':=no) A (λ_ z=>z.elim) (Ed (bI o lo hi) u) ((RepL.sh<|lr lo hi q).zmono λb P=>P.imp id λz=>⟨D b z,λq=>q⟩) k i hv
 |scr y=>obtain⟨p,rfl,N,g⟩:=r;cases e;refine .inl ⟨p,_,rfl,g.sq,λl f=>?_⟩;rw[n0];exact bJ (m:=.d) (G':=no) A F (λ_ z=>z.elim) (by rw[Ea];exact Ed (zQ y lo hi) N) (kc _) (by simp) k f
 |_=>cases e
theorem i8 {o:Pos}(f:SE X sf C ea a)(g:SE X sf C eb b):SE X sf C (.Subscript ea (.Slice (Y eb) J J o) pos) (.op .sl1 h [a,b]):=
 aB (nE (sl_list.or ve) f (sZ g) uv) (λv H Q j=>aX (r:=λx y H Q=>∃i,y=.int i/\(wG X.K x (Y i) J H Q\/yq X.K x (Y i) J H Q)) (by
  intro M w N Z H G Q D e r l u k x y hx;subst hx;obtain⟨⟨m,a⟩,⟨n,b⟩,rfl⟩:=fv r.length.symm;obtain⟨z,A,t,F,d,p,s⟩:=cn r;obtain⟨i,rfl⟩:∃i,b=.int i:=by cases a<;>first|(cases e;done)|(cases b<;>first|exact⟨_,rfl⟩|(cases e;done))
  exact⟨i,s,zK (h:=h) (lo:=Y i) (hi:=J) t l u p (by cases a<;>exact e) k⟩) v H Q j)
theorem oh {K:D1}:Loc K 1 .len h λd H Q=>∃x n,d=[x]/\Ci K x H n/\Q (.int n) H:=by intro j w d Z H G Q g e r i l k;obtain⟨x,n,hx,f,q⟩:=ua (h:=h) j w d Z H G Q g e r i l k;exact⟨x,n,hx,by cases x<;>exact f,q⟩
section
variable {p:Pos}{x1:Str}
theorem nh (hm:X.mg "len"=J)(f:Gl X "len":=by rfl)(ha:SE X sf C ea a)(e:D5 [ea] X.env=(DX,Jl ea X.env)::D5 [] X.env:=by rfl)(d:(En pos<|D5 [] X.env).any (·.1)=false:=by rfl):SE X sf C (.Call (.Name "len" p) [ea] [] pos) (.op .len h [a]):=
 aB (c9 oG f hm PySem.boot_len (slc ha sl0 e) (by decide) (by decide) e d) (ou oh rfl)
end
theorem uY {K:D1}{x:V}{H:Hp}{k:IZ}(h:TrV K x H k):zI K x H k:=by
 cases x with
 |ref p=>exact h.imp id .inl
 |byt _=>exact h.elim
 |_=>exact h
theorem tB (m:SE X sf C ea a)(o:∀e,JM ea X.env e=(do let v <- e;standAt ea.pos;holding [v] (truthy v)):=by intro _;rfl):SB X sf C ea a:=
 jo (qW m o) λu H Q h=>by obtain⟨pv,Z,i,t,w,g,b,A,ev,p,k⟩:=h;exact⟨pv,Z,i,t,w,g,A,ev,λv l j f G d r s=>⟨b,uY<|mO p r,k l j f d.bare<|s.mono (λ_ z=>z) λ_ z=>.inl z⟩⟩
theorem og {l:L2.St}{H:Hp}{Q:IZ->Hp->Prop}(t:∀i w e,M.evE C a i=.ok (w,e)->∃b,w.2=.bl b)(h:wT X.K sf C a l H Q):pI (wE X.K sf C a) l H Q:=by obtain⟨pv,Z,m,i,w,e,b,A,ev,j,k⟩:=h;refine⟨pv,Z,m,i,w,e,A,ev,λv p o f G d r s=>⟨b,?_,k p o f d.bare<|s.mono (λ_ z=>z) λ_ z=>.inl z⟩⟩;obtain⟨u,g⟩:=t _ _ _ ev;rw[g] at j r;cases j;exact r
theorem Cc {o:M.Op}(ho:∀u v w,M.oSem o h [u,v]=Y w->∃b,w.2=.bl b):∀f w d,M.evE C (.op o h [a,b]) f=.ok (w,d)->∃b,w.2=.bl b:=λf w d e=>by obtain⟨p,i,j⟩:=b7 e;obtain⟨u,l,k,_,e2,rfl⟩:=ax i;obtain⟨v,m,k,_,g,rfl⟩:=ax e2;cases g;exact ho u v w j
theorem cN {op:CmpOp}{r:R2}{o:M.Op}(ho:OpR X (ET op) r)(f:SE X sf C ea a)(g:SE X sf C eb b)(j:FZ op eb=DX)(i:∀d H Q,wE X.K sf C (.op o h [a,b]) d H Q->tOp r (wE X.K sf C a) (wE X.K sf C b) d H Q)
  (e:∀u v w,M.oSem o h [u,v]=Y w->∃b,w.2=.bl b):SB X sf C (.Compare ea [op] [eb] pos) (.op o h [a,b]):=
 jo (kR ho f g j) λd H Q k=>i d H _<|og (Cc e) k
theorem BD {u v w:M.W}(e:M.oSem .eq h [u,v]=Y w):∃b,w.2=.bl b:=by
 obtain⟨m,a⟩:=u;obtain⟨n,b⟩:=v;have f:(if decide (M.dp a<=64)&&decide (M.dp b<=64) then Y ((.d,.bl (M.eqT a b)):M.W) else J)=Y w:=e;split at f
 .cases f;exact⟨_,rfl⟩
 .cases f
theorem CA {u v w:M.W}(e:M.oSem .ne h [u,v]=Y w):∃b,w.2=.bl b:=by
 obtain⟨m,a⟩:=u;obtain⟨n,b⟩:=v;have f:(if decide (M.dp a<=64)&&decide (M.dp b<=64) then Y ((.d,.bl (!M.eqT a b)):M.W) else J)=Y w:=e;split at f
 .cases f;exact⟨_,rfl⟩
 .cases f
theorem pV {u v w:M.W}(e:M.oSem .isnot h [u,v]=Y w):∃b,w.2=.bl b:=by
 obtain⟨m,a⟩:=u;obtain⟨n,b⟩:=v;obtain rfl:b=.non:=by cases b<;>first|rfl|(cases e;done)|(cases a<;>cases e)
 obtain⟨_,e⟩:=ifN<|show(if a.isG=DY then J else Y _)=_ from e;cases e;exact⟨_,rfl⟩
theorem Dn (d:SE X sf C ea a)(f:SE X sf C eb b):SB X sf C (.Compare ea [.Lt] [eb] pos) (.op .lt h [a,b]):=cN vw d f (cV _) (aX xM) λu v w e=>by obtain⟨_,_,_,_,_,_,rfl⟩:=gU e;exact⟨_,rfl⟩
theorem DA (d:SE X sf C ea a)(f:SE X sf C eb b):SB X sf C (.Compare ea [.LtE] [eb] pos) (.op .le h [a,b]):=cN lQ d f (cV _) (aX wD) λu v w e=>by obtain⟨_,_,_,_,_,_,rfl⟩:=cF e;exact⟨_,rfl⟩
theorem Di (d:SE X sf C ea a)(f:SE X sf C eb b):SB X sf C (.Compare ea [.Gt] [eb] pos) (.op .gt h [a,b]):=cN Az d f (cV _) (aX xf) λu v w e=>by obtain⟨_,_,_,_,_,_,rfl⟩:=pQ e;exact⟨_,rfl⟩
theorem Ar (g:Room n X.A)(d:SE X sf C ea a)(f:SE X sf C eb b):SB X sf C (.Compare ea [.Eq] [eb] pos) (.op .eq h [a,b]):=cN (k9 g.units) d f (cV _) (aX pL) λu v w e=>BD e
theorem mQ (g:Room n X.A)(d:SE X sf C ea a)(f:SE X sf C eb b):SB X sf C (.Compare ea [.NotEq] [eb] pos) (.op .ne h [a,b]):=cN (sd g.units) d f (cV _) (aX zi) λu v w e=>CA e
theorem lW (d:SE X sf C ea a)(f:SE X sf C eb b):SB X sf C (.Compare ea [.IsNot] [eb] pos) (.op .isnot h [a,b]):=cN tJ d f (cV _) (aX my) λu v w e=>pV e
abbrev SW (X:Cx)(sf:O->B O)(C:M.Call)(d:Je)(e:M.E):Prop:=PW X d<|wT X.K sf C e
theorem wA1 (d:SB X sf C ea a):SW X sf C (.BoolOp .And [ea] pos) a:=sj d
theorem wO1 (d:SB X sf C ea a):SW X sf C (.BoolOp .Or [ea] pos) a:=zN d
theorem CH {rest:U Je}(d:SB X sf C ea a)(e:SW X sf C (.BoolOp .And (eb::rest) pos) b):SW X sf C (.BoolOp .And (ea::eb::rest) pos) (.and a b):=v9 (yi d e) yZ
theorem wOr {rest:U Je}(d:SB X sf C ea a)(e:SW X sf C (.BoolOp .Or (eb::rest) pos) b):SW X sf C (.BoolOp .Or (ea::eb::rest) pos) (.or a b):=v9 (B8 d e) BM
theorem tW (h:SW X sf C ea a):SB X sf C ea a:=h.pt
theorem sIf (f:SB X sf C ec c)(d:SE X sf C ea a)(e:SE X sf C eb b):SE X sf C (.IfExp ec ea eb pos) (.ifx c a b):=aB (qC f d e) yJ
theorem CB {e:Je}(d:SE X sf C ea a):PI X e ea (wI X.K sf C 1 .seq [a]):=iV (BF (k7 d)<|nW d) wC
theorem qf {f:Je}{p:Pos}(hm:X.mg "range"=J)(e:Gl X "range":=by rfl)(ha:SE X sf C ea a)(d:D5 [ea] X.env=[(DX,Jl ea X.env)]:=by rfl):PI X f (.Call (.Name "range" p) [ea] [] pos) (wI X.K sf C 1 .rng [a]):=iV (mm e hm (slc ha sl0 d) d) vf
theorem Ac {f:U Je}{i:O}{pt p:Pos}(j:X.calm=true:=by rfl)(hm:X.mg "zip"=J)(g:Gl X "zip":=by rfl)(ha:SE X sf C ea a)(hb:SE X sf C eb b)(e:D5 [ea,eb] X.env=[(DX,Jl ea X.env),(DX,Jl eb X.env)]:=by rfl)(d:D5 [eb] X.env=[(DX,Jl eb X.env)]:=by rfl):PI X (.Tuple f i pt) (.Call (.Name "zip" p) [ea,eb] [] pos) (wI X.K sf C 2 .zip [a,b]):=iV (xQ g hm (slc ha (slc hb sl0 d)<|by rw[e,d]) e d) yS
noncomputable def lkN:U O->O->O->B O
|[],_,_=>J
|t::d,n,i=>if i=t then Y n else lkN d (n+1) i
theorem lK:∀{l:U O} {n i j:O},lkN l n i=Y j->∃k,l[k]?=Y i/\j=n+k/\i ∉ l.take k
|[],_,_,_,h=>by cases h
| t::m,n,i,j,h=>by
 have d:(if i=t then Y n else lkN m (n+1) i)=Y j:=h;split at d
 .rename_i e;cases d;exact⟨0,by rw[e];rfl,rfl,by simp⟩
 .rename_i e;obtain⟨k,f,o,g⟩:=lK d;exact⟨k+1,f,by lia,by rw[EL,Ee];exactλz=>z.elim e g⟩
def inF (e d:U O):O->B O:=lkN (e++d) 0
theorem fo {d g l:U O}(h:g.map sf=l.map Y):gn sf (inF d g) d l:=λi j r=>by
 obtain⟨k,f,m,o⟩:=lK<|show lkN (d++g) 0 i=Y j from r;rw[Gz] at m;subst m;by_cases hk:j<d.length
 .rw [GC hk] at f;exact .inl ⟨j,f,rfl⟩
 .have e:d.length<=j:=HG hk;rw[Gf e] at f;refine .inr ⟨λp=>o ?_,?_⟩
  .rw [List.take_append,List.take_of_length_le e];exact Ge _ p
  .have e1:(g.map sf)[j-d.length]?=Y (sf i):=by rw [ER,f]; rfl
   rw[h,ER] at e1;cases e2:l[j-d.length]? with
   |none=>rw[e2] at e1;cases e1
   |some s=>rw[e2] at e1;exact⟨j-d.length,s,by lia,e2,(EC e1).symm⟩
theorem Cv {x:Str}{k:Pos}{e:U Str}{d:Jt}{g:U<|Str×IY}(S:ay [x] e d)(f:IY)(s:DZ)(H:Hp)(j:U IY):PG (ao X ([x]++e) d g f s H j) (.Name x k) (gT X.K 1):=
 bc (X:=ao X ([x]++e) d g f s H j) (i:=0) (x:=x) (pos:=k) S.nd rfl (.inl<|FW<|S.loc x<|by simp) (.inr<|FW<|S.loc x<|by simp)
theorem De {x y:Str}{m o pt:Pos}{l:O}{e:U Str}{d:Jt}{g:U<|Str×IY}(p:X.calm=DY)(S:ay [x,y] e d)(f:IY)(s:DZ)(H:Hp)(j:U IY):PG (ao X ([x,y]++e) d g f s H j) (.Tuple [.Name x m,.Name y o] l pt) (gT X.K 2):=
 kI (X:=ao X ([x,y]++e) d g f s H j) (pos:=pt) (k:=l) (n:=2) p (bY (bc (pos:=m) (i:=0) (x:=x) S.nd rfl (.inl<|FW<|S.loc x<|by simp) (.inr<|FW<|S.loc x<|by simp))<|bY (bc (pos:=o) (i:=1) (x:=y) S.nd rfl (.inl<|FW<|S.loc y<|by simp) (.inr<|FW<|S.loc y<|by simp)) gV)
end
end MR

namespace MR
open PySem PySem.Spec PyProof.Rows L2 L3
section
variable {X:Cx}{sf sg:O->B O}{C:M.Call}{pos p2:Pos}{ea eb ec:Je}{a b c:M.E}{h:IZ}{n:O}{io:U O}
section
variable {elt iter cnd:Je}{x y:Str}{px py pt:Pos}{kt:O}{scope:Jt}{cl:U (Str×IY)}{ys:U Str}{tg ls is:U O}{k:M.Ik}{src:U M.E}{e cd:M.E}
theorem sC1 (ls:U O)(is:U O)(cl:U<|Str×IY)(ys:U Str){t:O}(o:PI X (.Name x px) iter<|wI X.K sf C 1 k src)(m:∀f s H g,SE (ao X ([x]++ys) scope cl f s H g) (inF [t] ls) C elt e)
  (S:ay [x] ys scope) (i:Clo X cl) (fr:Frees X scope cl ys is) (l:X.calm=true:=by rfl) (r:ls.map sf=is.map some:=by rfl)
  (d:Fv scope X.env=pure cl:=by with_unfolding_all rfl) (j:(scope.names.all λp=>p.2 != .free || (cl.lookup p.1).isSome)=true:=by rfl)
  (u:∀v,E2 iter X.env v=pure v:=by intro _;rfl):SE X sf C (.ListComp elt [⟨.Name x px,iter,[],0⟩] scope pos) (.comp h k src [t] J e):=
 aB (mB (pre:=[x]) l o (Cv S) (λf s H g=>m f s H g) d S i j fr u) (eJ rfl (by simp) (fo r))
end
def spS (K:D1)(C:M.Call)(f:O)(io:U O):Sp:=λd H Q _=>spC K C f io d H Q
theorem sa0:SA X sf C [] []:=lz bu wO
theorem sac {d:U Je}{bs:U M.E}(e:SE X sf C ea a)(f:SA X sf C d bs)(g:∀i,a≠.io i:=by intro _ z;cases z)(j:D5 (ea::d) X.env=(DX,Jl ea X.env)::D5 d X.env:=by rfl):SA X sf C (ea::d) (a::bs):=lz (aJ e f j)<|pA g
def aa (P:I9)(w:D3)(K:D1)(i:Str->B L)(d:Jf)(n:O)(C:M.Call)(x:Str)(f:O)(io:U O):Prop:=
 ∃e g j,FnOk P w K i d CX0 n e g j (spS K C f io)/\i x=Y (.ref e)/\Fb K (.ref e)=DY/\Binds K g j []
theorem ak {x:Str}{p:Pos}{f:O}{e:U Je}{bs:U M.E}(c:aa X.prog X.w X.K X.mg X.base n C x f io)(hr:Room n X.A)(z:SA X sf C (ea::e) bs)(j:eO bs 0=io\/M.ios bs=[]:=by first|exact .inl rfl|exact .inr rfl)(P:Gl X x:=by rfl)(i:(x==("__debug__":Str))=false:=by decide)
  (N:D5 (ea::e) X.env=(DX,Jl ea X.env)::D5 e X.env:=by rfl) (l:(En pos<|D5 e X.env).any (·.1)=false:=by rfl):SE X sf C (.Call (.Name x p) (ea::e) [] pos) (.call f bs):=by
 obtain⟨fa,fd,ps,F,hm,hk,D⟩:=c;refine aB (eh (E:=E0) F hr P hm hk D .nil gw z i N l) λσ H Q hw=>?_;have y:=lu j σ H Q hw;obtain⟨pv,Z,u,η,ws,m,A,ev,k⟩:=y;exact⟨pv,Z,u,η,ws,m,A,ev,λt v o g G d r s hv=>by show spS X.K C f io (t++[]) o Q E0;rw[EW];exact k t v o g G d r s hv⟩
theorem ss0:SSs X sf io C [] []:=gH ic uq
theorem ss1 {s:Jj}{t:M.S}(d:SS X sf io C s t):SSs X sf io C [s] [t]:=gH (b5 d) sY
theorem ssc {s:Jj}{t:M.S}{r:U Jj}{u:U M.S}(e:SS X sf io C s t)(d:SSs X sf io C r u):SSs X sf io C (s::r) (t::u):=gH (a7 e d) pD
theorem Dx (j:O){i:O}{x:Str}{p:M.X}{d:Pos}(f:X.N.Nodup)(g:SE X sf C ea a)(l:i ∉ io:=by decide)(o:sf i=Y j:=by rfl)(m:X.N[j]?=Y x:=by rfl)(hx:L2.Loc X.env.scope x:=by first|exact Eg rfl|exact Ec rfl)
  (e:EF ea (Y<|.Name x d) pos.line X.env=pure false:=by rfl) (k:X.fn x=DY\/X.env.scope.names.lookup x=Y .local:=by first|exact .inl rfl|exact .inr rfl):SS X sf io C (.Assign [.Name x d] ea pos) (.asg p i a):=bN (kE (i:=j) f m hx g e k)<|jP l o
theorem A9 {f:M.X}(d:SE X sf C ea a)(e:EF ea J pos.line X.env=pure false:=by rfl):SS X sf io C (.Expr ea pos) (.exp f a):=bN (cQ d e) zg
theorem aH {e:U O}(d:SE X sf C ea a):SS X sf io C (.Return (Y ea) pos) (.ret e a):=bN (oE d) xG
theorem zIf {g:M.X}{r u:U Jj}{s t:U M.S}(f:SB X sf C ec c)(d:SSs X sf io C r s)(e:SSs X sf io C u t):SS X sf io C (.If ec r u pos) (.ite g c s t):=bN (qO f d e) x2
theorem nM (j:O){t:O}{x:Str}{l:Pos}{d:Je}{r:U Jj}{s:U M.S}{G F:U O}{k:M.Ik}{e:U M.E}(m:X.N.Nodup)(y:PI X (.Name x l) d<|wI X.K sf C 1 k e)(o:SSs X sf io C r s)(f:∀u∈[t],u ∉ io:=by decide)(g:[t].map sf=[j].map some:=by rfl)(z:X.N[j]?=Y x:=by rfl)(hx:L2.Loc X.env.scope x:=by first|exact Eg rfl|exact Ec rfl)
  (p:X.calm=true:=by rfl) (hp:PassesOwn (D4 X.prog X.w) X.A X.env X.xe:=by exact PassesOwn.never) (v:X.fn x=DY\/X.env.scope.names.lookup x=Y .local:=by first|exact .inl rfl|exact .inr rfl) (D:∀x,E2 d X.env x=pure x:=by intro _;rfl):SS X sf io C (.For (.Name x l) d r [] pos) (.forS G F k e [t] s):=
 bN (ig hp p y (bc (i:=j) m z hx v) o D) (q9 rfl (by simp) f g)
theorem vP (j l:O){t u:O}{x y:Str}{D F pt:Pos}{z:O}{d:Je}{r:U Jj}{s:U M.S}{vs ls:U O}{k:M.Ik}{e:U M.E}(o:X.N.Nodup)(P:PI X (.Tuple [.Name x D,.Name y F] z pt) d<|wI X.K sf C 2 k e)(G:SSs X sf io C r s)(g:∀v∈[t,u],v ∉ io:=by decide)(nd:[t,u].Nodup:=by decide)(m:[t,u].map sf=[j,l].map some:=by rfl)(Q:X.N[j]?=Y x:=by rfl)(Z:X.N[l]?=Y y:=by rfl)
  (hx:L2.Loc X.env.scope x:=by first|exact Eg rfl|exact Ec rfl) (hy:L2.Loc X.env.scope y:=by first|exact Eg rfl|exact Ec rfl)
  (p:X.calm=true:=by rfl) (hp:PassesOwn (D4 X.prog X.w) X.A X.env X.xe:=by exact PassesOwn.never) (H:X.fn x=DY\/X.env.scope.names.lookup x=Y .local:=by first|exact .inl rfl|exact .inr rfl) (f:X.fn y=DY\/X.env.scope.names.lookup y=Y .local:=by first|exact .inl rfl|exact .inr rfl) (hs:∀x,E2 d X.env x=pure x:=by intro _;rfl):SS X sf io C (.For (.Tuple [.Name x D,.Name y F] z pt) d r [] pos) (.forS vs ls k e [t,u] s):=
 bN (ig hp p P (kI (n:=2) p<|bY (bc (i:=j) o Q hx H)<|bY (bc (i:=l) o Z hy f) gV) G hs) (q9 rfl nd g m)
theorem Au (j:O){i:O}{x:Str}{xx:M.X}{f e u:Pos}(ha:SE X sf C ea a)(hs:sf i=Y j:=by rfl)(hN:X.N[j]?=Y x:=by rfl)(hv:Vis X.env.scope x:=by first|exact Eg rfl|exact Ec (Eg rfl)|exact Ec<|Ec rfl)(hd:(x==("__debug__":Str))=false:=by decide)(z:(x==("__classdict__":Str))=false:=by decide)
  (l:Gk (.Name x u) "append" X.env (Jl (.Name x u) X.env)=Jl (.Name x u) X.env:=by rfl)
  (o:((En e<|D5 [ea] X.env).all (λx=>!x.1)&&(backToKw e<|keywordEach [] X.env).all (λx=>x.1.isSome)&&decide ([ea].length+([]:U Keyword).length+(if([]:U Keyword).isEmpty then 0 else 1)<30))=true:=by rfl)
  (m:(f.endLine==e.line)=true:=by rfl) (t:D5 [ea] X.env=(DX,Jl ea X.env)::D5 [] X.env:=by rfl) (g:(En e<|D5 [] X.env).any (·.1)=false:=by rfl) (F:EF (.Call (.Attribute (.Name x u) "append" f) [ea] [] e) J pos.line X.env=pure false:=by rfl):
  SS X sf io C (.Expr (.Call (.Attribute (.Name x u) "append" f) [ea] [] e) pos) (.app xx i a):=
 bN (cQ (vB IJ IL IK gg (a4 hN hv hd z) (aJ ha bu t) l o m t g) F) λD σ H hw=>by obtain⟨p,xs,hj,hp,pv,Z,Q,η,w,P,A,ev,k⟩:=Ab hs D σ H hw;refine⟨.ref p,hj,.inl ⟨rfl,xs,.inl<|.inl hp⟩,pv,Z,Q,η,w,P,A,ev,λv Z' H' y G d r s=>?_⟩;obtain⟨ys,h1,h2,h3⟩:=k v Z' H' y G d r s;exact⟨p,ys,v,rfl,rfl,h1,h2,h3⟩
end
end MR

namespace MR
open PySem PySem.Spec PyProof.Rows L2 L3
section
variable {K:D1}{Z:Fp}{H:Hp}
theorem gZ:∀{a:U M.W} {n i:O} {w:M.W},M.rd (a.map Y++Eu n J) i=Y w->a[i]?=Y w
|[],0,i,w,h=>by simp[M.rd] at h
|[],n+1,0,w,h=>by simp[Hu,M.rd] at h
|[],n+1,i+1,w,h=>by
 have:M.rd (([]:U M.W).map Y++Eu n J) i=Y w:=by simpa[Hu,M.rd] using h
 have:=gZ this;simp at this
|u::a,n,0,w,h=>by simpa[M.rd] using h
|u::a,n,i+1,w,h=>by
 have:M.rd (a.map Y++Eu n J) i=Y w:=by simpa[M.rd] using h
 simpa using gZ this
theorem nt:∀{k:U M.W} {c:U V} {G:Fp},RepW K Z H k c G->∃b:Fps,(∀i a,b i a->G a)/\(∀i j a,b i a->b j a->i=j)/\∀i w,k[i]?=Y w->∃v,c[i]?=Y v/\Rep K Z H w.1 w.2 v (b i)
|[],c,G,_=>⟨λ_=>no,λ_ _ h=>h.elim,λ_ _ _ h=>h.elim,λi w h=>by simp at h⟩
| w::k,c,G,⟨x,r,m,y,e,s,t,l,p,q⟩=>by
 obtain⟨b,d,n,o⟩:=nt q;subst e;refine⟨λi=>match i with | 0=>m|i+1=>b i,λi a h=>?_,λi j a f g=>?_,λi u h=>?_⟩
 .cases i with
  |zero=>exact s a h
  |succ i=>exact t a<|d i a h
 .cases i with
  |zero=>
   cases j with
   |zero=>rfl
   |succ j=>exact Jb (d j a g)<|l a f
  |succ i=>
   cases j with
   |zero=>exact Jb (d i a f)<|l a g
   |succ j=>exact Jk (·+1)<|n i j a f g
 .cases i with
  |zero=>simp only[Hy,HE] at h;subst h;exact⟨x,rfl,p⟩
  |succ i=>simpa using o i u<|by simpa using h
def slN (n:O):O->B O:=λi=>if i<n then Y i else J
theorem dy {o:Cf}{s:L2.St}{f:Fps}{g:M.Env}{G:Fp}{c:U V}(A:At K o s Z H f g G):∀{b:U O} {bs:U M.W},b.Nodup->(∀i∈b,o.pv i=c[i]?/\i<c.length)->M.backs b g=Y bs->RepW K Z H bs (atV b c) (λa=>∃i∈b,f i a)
|[],bs,_,_,h=>by simp only[M.backs,HE] at h;subst h;rfl
| i::b,bs,n,m,h=>by
 simp only[M.backs] at h;cases e:M.rd g i with
 |none=>rw[e] at h;cases h
 | some w =>
  rw[e] at h;simp only[Iu] at h;cases e2:M.backs b g with
  |none=>rw[e2] at h;cases h
  |some t=>
   rw[e2] at h;simp only[Iu,HE] at h;subst h;obtain⟨v,r,_,hp⟩:=A.env i w.1 w.2 e;have k:=m i Ek;obtain⟨u,l⟩:∃u,c[i]?=Y u:=⟨c[i]'k.2,GY k.2⟩;have:=hp u<|k.1.trans l;subst this;refine⟨v,atV b c,f i,λa=>∃j∈b,f j a,?_,λa h=>⟨i,Ek,h⟩,λa ⟨j,d,h⟩=>⟨j,Em _ d,h⟩,λa h ⟨j,d,p⟩=>?_,r,dy A (Fm.mp n).2 (λj d=>m j<|Em _ d) e2⟩
   .rw[atV,FR,l];rfl
   .exact(Fm.mp n).1<|A.gd.dis i j a h p ▸ d
end
section
variable {P:I9}{w:D3}{K:D1}{mg:Str->B L}{base:Jf}
theorem pj {Z:Fp}{H:Hp}{p:U M.W}{d:U V}{G:Fp}{N:U Str}{n:O}{io:U O}(r:RepW K Z H p d G)(o:Own Z H G)(z:∀a,Z a->H a≠J)(D:d.length<=N.length):
  ∃f,(∀a,tot f a->G a)/\At K ⟨slN N.length,λi=>if i∈io then d[i]? else J⟩ (L2.start N d) Z H f (p.map Y++Eu n J) no:=by
 obtain⟨f,g,s,x⟩:=nt r;have l:∀i v,d[i]?=Y v->(L2.start N d)[i]?=Y (Y v):=λi v h=>by have y:=(EM.mp h).1;rw[L2.start,GC<|by simpa using y,ER,h];rfl
 refine⟨f,λa ⟨i,h⟩=>g i a h,⟨⟨λa ⟨i,h⟩=>o a<|g i a h,s,z⟩,λi m t e=>?_,λa h=>h.elim,λa h=>h.elim,λi u j c b=>?_,λi j b=>?_⟩⟩
 .obtain ⟨v,k,A⟩:=x i (m,t) (gZ e);refine⟨v,A,λj b=>?_,λu c=>?_⟩
  .simp only [slN] at b;split at b
   .cases b;exact l i v k
   .cases b
  .simp only at c;split at c
   .rw[k] at c;cases c;rfl
   .cases c
 .simp only at c;simp only[slN] at b;split at b
  .cases b;split at c
   .exact l i u c
   .cases c
  .cases b
 .simp only [slN] at b;split at b
  .cases b;rename_i h;rw[L2.start,Er,Ea,FF];lia
  .cases b
theorem Fun.okM {x l:Str}{st:Jj}{f:IY}{fd:Ey}{N ps:U Str}{k:O}{C:M.Call}{d:M.Fn}(F:L2.Fun K x l st f fd)(S:ai N ps<|defScope st)(hps:d.ps=ps.length)(hle:ps.length<=N.length)(nd:d.io.Nodup)(hio:∀i∈d.io,i<ps.length)
  (hbody:∀ (m:L) (A:D9) (c:U Env) (s:DZ) (H:Hp) (E:XK),Room k (A.deeper (EZ l (defScope st) s.heap.objs.size f m)) ->
   SSs (hX CX0 P w K mg base N l (defScope st) f m A c s H E).nox (slN N.length) d.io C (defBody st) d.body) {g:O} {C':M.Call} (hC:∀ws,C' g ws=M.runF C d ws):FnOk P w K mg base CX0 (k+1) f fd ps (spS K C' g d.io):=by
 have len:∀y H Q E,spS K C' g d.io y H Q E->y.length=ps.length:=λy H Q E ⟨Z,ws,G,w,bs,r,_,_,hr,_⟩=>by
  rw[hC] at hr;unfold M.runF at hr;split at hr
  .rename_i h;rw[r.length,h,hps]
  .cases hr
 refine F.ok S len λm A c s H y Q E hr h=>⟨_,hbody m A c s H E hr,?_⟩;have p:=len y H Q E h;obtain⟨Z,ws,G,w,bs,r,o,z,b,q⟩:=h;rw[hC] at b;have hwl:ws.length=d.ps:=by rw[<- r.length,p,hps]
 rw[M.x_run _ _ _ hwl] at b;obtain⟨Fs,ft,A0⟩:=pj (n:=d.ns) (io:=d.io) r o z (N:=N) (by lia);refine⟨_,Z,Fs,_,⟨λi i' j h h'=>?_,λi h=>Jd h⟩,A0,?_⟩
 .simp only [slN] at h h';split at h
  .split at h'
   .cases h;cases h';rfl
   .cases h'
  .cases h
 have hv:∀i∈d.io,(if i∈d.io then y[i]? else J)=y[i]?/\i<y.length:=λi hi=>⟨Jc hi,p ▸ hio i hi⟩;cases e:M.evSs C d.body (ws.map Y++Eu d.ns J) with
 | nx η =>
  rw[e] at b;intro σ' Z' H' Fs' D t;simp only[M.Fl.out] at b;cases e2:M.backs d.io η with
  |none=>rw[e2] at b;cases b
  |some cs=>rw[e2] at b;cases b;refine q .non Z' H' no _ rfl (dy D nd hv e2) (λ_ h=>h.elim) (λa h=>h.elim (λz=>z.elim) λ⟨i,_,z⟩=>D.gd.own a ⟨i,z⟩) (t.mono ft λa h=>h.elim (λz=>z.elim) λ⟨i,_,z⟩=>⟨i,z⟩)
 | rt u η =>
  rw[e] at b;intro v σ' Z' H' Fs' G' D rp t;simp only[M.Fl.out] at b;cases e2:M.backs d.io η with
  |none=>rw[e2] at b;cases b
  |some cs=>rw[e2] at b;cases b;exact q v Z' H' G' _ rp (dy D nd hv e2) (λa h ⟨i,_,z⟩=>D.dis a h ⟨i,z⟩) (λa h=>h.elim (D.own a) λ⟨i,_,z⟩=>D.gd.own a ⟨i,z⟩)<|t.mono ft λa h=>h.elim .inr λ⟨i,_,z⟩=>.inl ⟨i,z⟩
 |bk η=>rw[e] at b;cases b
 |ex t η=>rw[e] at b;cases b
 |no=>rw[e] at b;cases b
end
end MR

namespace MR
open PySem PySem.Spec PyProof.Rows L2 L3
def BK (K:D1)(H:Hp):Th->V->Prop
|.tup _,x=>∃a c,x=.ref a/\SqT K H a c
|.lst _,x=>∃a c,x=.ref a/\SqL K H a c
|.non,x=>x=.non
|.bl b,x=>x=.bl b
|.int i,x=>x=.int i
|.str z,x=>x=.str z
theorem eT {X:Cx}{c:Jm}(F:c∈["tuple","str","bool","int","list"]):dN X (.builtin "isinstance") (λD H Q=>∃x t,D=[x,.ty c]/\BK X.K H t x/\Q (.bl<|isI c t) H):=by
 intro k s N H D P Q d r h;obtain⟨x,t,rfl,g,q⟩:=h;obtain⟨u,Z,rfl,j,y⟩:=BO r;cases y;have e:FP X.K (.type t.ty) (.type c)=Y (isI c t):=kit_type.trans<|yd F t;have f:∀A,EP X k N Q (.bool (isI c t)) {s with toks:=A}:=λA=>⟨.bl<|isI c t,H,d.tok A,rfl,q⟩;cases t with
 |non=>obtain rfl:x=.non:=g;exact cI d j .non e f
 |bl b=>obtain rfl:x=.bl b:=g;exact cI d j (.bl b) e f
 |int i=>obtain rfl:x=.int i:=g;exact cI d j (.int i) e f
 |str z=>obtain rfl:x=.str z:=g;exact cI d j (.str z) e f
 |tup G=>obtain⟨a,M,rfl,v⟩:=g;cases j;obtain⟨w,_,p,_⟩:=d.tuple v;obtain⟨o,l,m,_⟩:=p;exact EX HR d.kIn ⟨o,l,m⟩ e (λz=>nomatch z) f
 |lst G=>obtain⟨a,M,rfl,v⟩:=g;cases j;obtain⟨w,_,p,_⟩:=d.list v;obtain⟨o,n,l,m,_⟩:=p;exact EX Hq d.kIn ⟨o,l,m⟩ e (λz=>nomatch z) f
noncomputable def thT:M.T->Th
|.non=>.non | .bl b=>.bl b | .int i=>.int i | .str x=>.str x | .tup _=>.tup [] | .lst _=>.lst [] | .scr _=>.lst [] | .dct _ _=>.non | .ins _ _ _=>.non | .obj _ _ _=>.non | .dtt _ _=>.non | .gone=>.non
theorem rE {K:D1}{Z:Fp}{H:Hp}{t:M.T}{m:M.Md}{x:V}{G:Fp}(a:t.isH=DX)(r:Rep K Z H m t x G):BK K H (thT t) x/\(thT t).ty=t.ty:=by
 cases t with
 |non=>exact⟨r,rfl⟩
 |bl _=>exact⟨r,rfl⟩
 |int _=>exact⟨r,rfl⟩
 |str _=>exact⟨r.1,rfl⟩
 |tup _=>obtain⟨p,b,e,q,_⟩:=r;exact⟨⟨p,b,e,q⟩,rfl⟩
 |lst _=>obtain⟨p,b,e,_,q,_⟩:=r;exact⟨⟨p,b,e,.inl<|.inl<|by cases m<;>exact q.2⟩,rfl⟩
 |scr _=>obtain⟨p,e,_,q⟩:=r;exact⟨⟨p,_,e,q.sq⟩,rfl⟩
 |dct _ _=>cases a
 |ins _ _ _=>cases a
 |obj _ _ _=>cases a
 |dtt _ _=>cases a
 |gone=>cases a
theorem vm {t:Th}{u:M.T}{c:Jm}(h:t.ty=u.ty):isI c t=M.isOne c u:=by unfold isI M.isOne;rw[h]
section
variable {X:Cx}{sf sg:O->B O}{C:M.Call}{pos p2 p3:Pos}{ea eb ec:Je}{a b c:M.E}{h:IZ}{n:O}{io:U O}
theorem rC {Z:Fp}{H f:Hp}{G:Fp}(d:∀a o,H a=Y o->f a=Y o):Step Z H G Z f G:=by
 have g:∀a,H a≠J->f a≠none:=λa h=>by
  cases e:H a with
  |none=>exact Jb e h
  |some o=>rw[d a o e];simp
 exact⟨λa o h _=>d a o h,λ_ h=>h,λ_ h=>.inl h,λ_ h=>.inl h,g,λz a h=>g a<|z a h⟩
theorem qb {K:D1}{Z:Fp}{H e:Hp}{G:Fp}{w:M.W}{Q:VK}(d:∀a o,H a=Y o->e a=Y o)(k:Out K Z H G w Q):Out K Z e G w Q:=λv i g f r o t=>k v i g f r o<|(rC d).trans t
theorem q8 {H:Hp}{p:IY}{o:HO}(hp:H p=J):∀a u,H a=Y u->upd H p o a=Y u:=λa u e=>by
 have:a≠p:=λq=>by subst q;rw[hp] at e;cases e
 rw[ag this];exact e
theorem lF {c:Jm}{k:Str}(D:c∈["tuple","str","bool","int","list"])(hv:Fw k=Y (.type c))(P:X.mg "isinstance"=J)(g:X.mg k=J)(z:SE X sf C ea a)(N:Gl X "isinstance":=by rfl)(f:Gl X k:=by rfl)(hn:k≠"__name__":=by decide)(F:(k==("__debug__":Str))=false:=by decide)
  (p:D5 [ea,.Name k p2] X.env=(DX,Jl ea X.env)::D5 [.Name k p2] X.env:=by rfl) (j:D5 [.Name k p2] X.env=(DX,Jl (.Name k p2) X.env)::D5 [] X.env:=by rfl) (i:(En pos<|D5 [.Name k p2] X.env).any (·.1)=false:=by rfl):
  SE X sf C (.Call (.Name "isinstance" p3) [ea,.Name k p2] [] pos) (.op (.isI [c]) h [a]):=
 aB (c9 (eT D) N P Hm (aJ z (aJ (ql f g hv hn F) bu j) p) (by decide) (by decide) p i) λσ H Q hw=>by obtain⟨pv,Z,t,η,w,o,A,ev,k⟩:=hw;obtain⟨ws,y,e⟩:=b7 ev;obtain⟨⟨m,u⟩,η1,us,e1,e2,rfl⟩:=ax y;cases e2;obtain⟨l,e⟩:=ifN<|show(if u.isH=DY then J else Y _)=_ from e;cases e;refine⟨pv,Z,t,η,(m,u),o,A,e1,λx Z' H' v G d r s=>?_⟩;obtain⟨t1,t2⟩:=rE l r;refine⟨x,thT u,rfl,t1,?_⟩;have:=cZ<|bL d s k;rw[vm t2];rw[show([c].any λc=>M.isOne c u)=M.isOne c u by simp] at this;exact this
theorem Bc {e:U Je}{g:O}{pt p:Pos}(hm:X.mg "enumerate"=J)(f:Gl X "enumerate":=by rfl)(ha:SE X sf C ea a)(d:D5 [ea] X.env=[(DX,Jl ea X.env)]:=by rfl):PI X (.Tuple e g pt) (.Call (.Name "enumerate" p) [ea] [] pos) (wI X.K sf C 2 .enm [a]):=iV (uy f hm (slc ha sl0 d) d) yX
end
end MR

namespace MR
open PySem PySem.Spec PyProof.Rows L2 L3
structure Txt (mg:Str->B L):Prop where
 isin:mg "isinstance"=J
 int:mg "int"=J
 tup:mg "tuple"=J
 list:mg "list"=J
 bool:mg "bool"=J
 sum:mg "sum"=J
 len:mg "len"=J
 all:mg "all"=J
 zip:mg "zip"=J
 range:mg "range"=J
 enum:mg "enumerate"=J
 any:mg "any"=J
 max:mg "max"=J
 min:mg "min"=J
 sorted:mg "sorted"=J
 str:mg "str"=J
 repr:mg "repr"=J
 abs:mg "abs"=J
 dict:mg "dict"=J
 set:mg "set"=J
 rev:mg "reversed"=J
theorem frc {X:Cx}{a:Jt}{b:U<|Str×IY}{y:Str}{e:U Str}{i:O}{d:U O}{c:IY}(r:Frees X a b e d)(f:X.N[i]?=Y y:=by rfl)(g:Vis X.env.scope y:=by first|exact Eg rfl|exact Ec (Eg rfl)|exact Ec<|Ec rfl)(h:X.env.kindOf y=Y .cell\/X.env.kindOf y=Y .free:=by first|exact Eg rfl|exact Ec rfl)
  (j:X.env.cells.lookup y=Y c:=by rfl) (k:b.lookup y=Y c:=by rfl) (l:(FJ a X.env).names.lookup y=Y .cell\/(FJ a X.env).names.lookup y=Y .free:=by first|exact Eg rfl|exact Ec rfl):Frees X a b (y::e) (i::d):=.cons f g h j k l r
theorem pq {X:Cx}{y:Str}{c:IY}{a:U<|Str×IY}(r:Clo X a)(h:X.env.cells.lookup y=Y c:=by rfl):Clo X ((y,c)::a):=.cons h r
section
variable {X:Cx}{sf sg:O->B O}{C:M.Call}{pos p2 p3:Pos}{ea eb ec:Je}{a b c:M.E}{h:IZ}{n:O}{io:U O}
section
variable {elt iter cnd:Je}{x y:Str}{px py pt:Pos}{kt:O}{scope:Jt}{tg:U O}{k:M.Ik}{src:U M.E}{e cd:M.E}
theorem zC1 (j:O)(P:U O)(G:U O)(f:U<|Str×IY)(F:U Str){z:Str}{Q spos:Pos}{xx:M.X}{i t:O}(hi:PI X (.Name x px) iter<|wI X.K sf C 1 k src)(he:∀g s H l,SE (ao X ([x]++F) scope f g s H l) (inF [t] P) C elt e)
  (S:ay [x] F scope) (m:Clo X f) (fr:Frees X scope f F G) (hN:X.N.Nodup) (u:i ∉ io:=by decide) (w:sf i=Y j:=by rfl) (hj:X.N[j]?=Y z:=by rfl) (hz:L2.Loc X.env.scope z:=by first|exact Eg rfl|exact Ec rfl)
  (A:EF (.ListComp elt [⟨(.Name x px),iter,[],0⟩] scope pos) (Y<|.Name z Q) spos.line X.env=pure true:=by rfl) (hc:X.calm=true:=by rfl) (hl:P.map sf=G.map some:=by rfl)
  (d:Fv scope X.env=pure f:=by with_unfolding_all rfl) (r:(scope.names.all λp=>p.2 != .free || (f.lookup p.1).isSome)=true:=by rfl)
  (hs:∀v,E2 iter X.env v=pure v:=by intro _;rfl) (o:X.fn z=DY\/X.env.scope.names.lookup z=Y .local:=by first|exact .inl rfl|exact .inr rfl):SS X sf io C (.Assign [.Name z Q] (.ListComp elt [⟨(.Name x px),iter,[],0⟩] scope pos) spos) (.asg xx i<|.comp h k src [t] J e):=
 bN (fV (pre:=[x]) hN hj hz A hc hi (Cv S) (λg s H l=>he g s H l) d S m r fr hs o) λD Z H hw=>eJ rfl (by simp) (fo hl) Z H _ (jP u w D Z H hw)
theorem zC2 (j:O)(Z:U O)(Q:U O)(f:U<|Str×IY)(G:U Str){z:Str}{pz spos:Pos}{xx:M.X}{i t F:O}(hi:PI X (.Tuple [.Name x px,.Name y py] kt pt) iter<|wI X.K sf C 2 k src)(he:∀g s H l,SE (ao X ([x,y]++G) scope f g s H l) (inF [t,F] Z) C elt e)
  (S:ay [x,y] G scope) (m:Clo X f) (fr:Frees X scope f G Q) (hN:X.N.Nodup) (u:i ∉ io:=by decide) (w:sf i=Y j:=by rfl) (hj:X.N[j]?=Y z:=by rfl) (hz:L2.Loc X.env.scope z:=by first|exact Eg rfl|exact Ec rfl)
  (A:EF (.ListComp elt [⟨(.Tuple [.Name x px,.Name y py] kt pt),iter,[],0⟩] scope pos) (Y<|.Name z pz) spos.line X.env=pure true:=by rfl) (P:X.calm=true:=by rfl) (hl:Z.map sf=Q.map some:=by rfl) (nd:[t,F].Nodup:=by decide)
  (d:Fv scope X.env=pure f:=by with_unfolding_all rfl) (r:(scope.names.all λp=>p.2 != .free || (f.lookup p.1).isSome)=true:=by rfl)
  (hs:∀v,E2 iter X.env v=pure v:=by intro _;rfl) (o:X.fn z=DY\/X.env.scope.names.lookup z=Y .local:=by first|exact .inl rfl|exact .inr rfl):SS X sf io C (.Assign [.Name z pz] (.ListComp elt [⟨(.Tuple [.Name x px,.Name y py] kt pt),iter,[],0⟩] scope pos) spos) (.asg xx i<|.comp h k src [t,F] J e):=
 bN (fV (pre:=[x,y]) hN hj hz A P hi (De P S) (λg s H l=>he g s H l) d S m r fr hs o) λD σ H hw=>eJ rfl nd (fo hl) σ H _ (jP u w D σ H hw)
end
end
end MR

namespace MR
open PySem PySem.Spec PyProof.Rows L2 L3
section
variable {P:I9}{w:D3}{K:D1}{mg:Str->B L}{base:Jf}
theorem jf {C:M.Call}{g:O}{c:U O}{d:U V}{H:Hp}{Q:VK}{E:XK}(b:∀a,C g a=.no)(h:spS K C g c d H Q E):Jh:=by obtain⟨Z,a,G,w,bs,_,_,_,e,_⟩:=h;rw[b] at e;cases e
theorem fn0 {f:IY}{b:Ey}{d:U Str}{k g:O}{c:U O}{C:M.Call}(a:∀e,C g e=.no):FnOk P w K mg base CX0 k f b d (spS K C g c):=
 ⟨λ_ _ _ _ h=>(jf a h).elim,λ_ _ _ _ _ _ _ _ _ _ _ _ _ h=>(jf a h).elim⟩
theorem jG {Z:Fp}{H:Hp}{a:IY}{b:U I}(c:nY H)(e:b.length<=63)(h:SqL K H a<|b.map V.int):Rep K Z H .d (.scr b) (.ref a) no:=by
 refine⟨a,rfl,Ed e<|by decide,?_⟩;rcases h with(z|⟨o,z⟩)|z
 .rcases c a with y|⟨o,xs,y⟩<;>rw[y] at z<;>cases z
 .exact .inl ⟨o,z⟩
 .exact .inr (.inr z)
theorem zu {H:Hp}{a:IY}{b:U I}{C:M.Call}{c:O}(hp:∃m bs,C c [(.d,.scr b)]=.ok ((m,.bl DY),bs))(g:b.length<=63)(f:nY H)(h:SqL K H a<|b.map V.int):spS K C c [] [.ref a] H (λv _=>v=.bl DY) λ_ _ _=>Jh:=by obtain⟨m,bs,e⟩:=hp;exact⟨no,[(.d,.scr b)],no,(m,.bl DY),bs,RepW.one<|jG f g h,bA,λ_ z=>z.elim,e,λv l k i j r _ _ _ _=>r⟩
end
end MR

namespace MR
open PySem PySem.Spec PyProof.Rows L2 L3
structure SBs (as:U IY)(H H':Hp):Prop where
 keep:∀b u,b ∉ as->H b=Y u->H' b=Y u
 al:∀b,H b≠J->H' b≠J
instance {as:U IY} {H H':Hp}:CoeFun (SBs as H H') (λ_=>∀b u,b ∉ as->H b=Y u->H' b=Y u):=⟨λs=>s.keep⟩
end MR

namespace MR
open PySem PySem.Spec PyProof.Rows L2 L3
section
variable {X:Cx}{sf sg:O->B O}{io:U O}{C:M.Call}{pos p2:Pos}{ea eb ec:Je}{a b c:M.E}{h:IZ}{n:O}
theorem lU {K:D1}:Loc K 1 .tuple h λt H Q=>∃p d,t=[.ref p]/\((SqL K H p d/\∀l,H l=J->Q (.ref l) (upd H l<|.tup d))\/(SqT K H p d/\Q (.ref p) H)):=by
 intro s w t Z H G Q u e r o y k;obtain⟨⟨m,a⟩,rfl⟩:∃a,s=[a]:=by match s,u with|[a],_=>exact⟨a,rfl⟩
 obtain⟨x,rfl,i⟩:=cJ rfl r;cases a with
 |lst v=>obtain⟨p,d,rfl,g,j,q⟩:=cp i;cases e;exact⟨p,d,rfl,.inl ⟨SqL.of g,λl f=>lx (m:=m.kid.up) (G':=G) o (λ_ z=>z) j (by rw[fh];exact q.zmono λ_ z=>.inl z) k f⟩⟩
 |tup v=>obtain⟨p,d,rfl,g,j,q⟩:=b0 i;cases e;exact⟨p,d,rfl,.inr ⟨g,de o k i⟩⟩
 |_=>cases e
theorem yk {p:Pos}(hm:X.mg "tuple"=J)(f:Gl X "tuple":=by rfl)(ha:SE X sf C ea a)(e:D5 [ea] X.env=(DX,Jl ea X.env)::D5 [] X.env:=by rfl)(d:(En pos<|D5 [] X.env).any (·.1)=false:=by rfl):SE X sf C (.Call (.Name "tuple" p) [ea] [] pos) (.op .tuple h [a]):=
 aB (cP fS f hm GX (slc ha sl0 e) (by decide) (by decide) e d) (ou lU rfl)
theorem vE {g:Jj}:SS X sf io C g .stop:=λe s k H D d q=>by obtain⟨pv,Z,i,j,N,A,f⟩:=q;exact(show Jh from f).elim
end
end MR


namespace MR
open PySem PySem.Spec PyProof.Rows L2 L3
section
variable {X:Cx}{sf sg:O->B O}{io:U O}{C:M.Call}{pos p2:Pos}{ea eb ec:Je}{a b c:M.E}{h:IZ}{n:O}
theorem fZ {K:D1}{o p:M.Op}{g g':I->I->IZ}(inv:∀{u v w:M.W},M.oSem o DX [u,v]=Y w->∃m n i j,u=(m,.int i)/\v=(n,.int j)/\w=(.d,.bl<|g i j))(t:∀{u v w:M.W},M.oSem p DX [u,v]=Y w->∃m n i j,u=(m,.int i)/\v=(n,.int j)/\w=(.d,.bl<|g' i j))
  (σ:L2.St) (H:Hp) (Q:VK) (hw:wE K sf C (.chain o p a b c) σ H Q):qD (rI0 λi j=>.bl<|g i j) (rI0 λi j=>.bl<|g' i j) (wE K sf C a) (wE K sf C b) (wE K sf C c) σ H Q:=by
 obtain⟨pv,Z,Fs,η,w,η',A,ev,k⟩:=hw;obtain⟨⟨x,η1⟩,h1,h2⟩:=ae<|show(M.evE C a η).bind (M.kC1 o p (M.evE C b)<|M.evE C c)=_ from ev;obtain⟨⟨y,l⟩,h3,h4⟩:=ae<|show(M.evE C b η1).bind (M.kC2 o p (M.evE C c) x)=_ from h2;obtain⟨⟨kk,η3⟩,h5,h6⟩:=ae<|show(M.ret l<|M.oSem o DX [x,y]).bind (λk=>M.onB k.1.2 (M.then' (M.evE C c)<|M.kC3 p y) (M.okW (.d,.bl DX)) k.2)=_ from h4;obtain⟨k',e5,e5'⟩:=aw h5;cases e5';obtain⟨m1,m2,i,j,rfl,rfl,rfl⟩:=inv e5;have dr:∀{Z:Fp} {H:Hp} {F Z1:Fp} {H1:Hp} {f:Fps} {G1:Fp},Step Z H F Z1 H1 (λa=>tot f a\/G1 a)->Step Z H F Z1 H1 (tot f):=λs=>s.mono (λ_ z=>z) λ_ z=>.inl z;refine ju A h1 λvx Z1 H1 f G1 A1 r1 _ s1 _=>?_;have G:=A1.bare;refine ju G h3 λvy Z2 H2 N G2 A2 r2 _ s2 _=>⟨i,j,r1,r2,g i j,rfl,?_⟩;have r:=A2.bare;have D:=(dr s1).trans<|dr s2;have e:M.onB (.bl (g i j)) (M.then' (M.evE C c) (M.kC3 p (m2,.int j))) (M.okW (.d,.bl DX)) l=.ok (w,η'):=h6;cases hg:g i j with
 |true=>rw[hg] at e;rw[Jc rfl];obtain⟨⟨z,η4⟩,h7,h8⟩:=ae<|show(M.evE C c l).bind (M.kC3 p (m2,.int j))=_ from e;obtain⟨z',e8,e8'⟩:=aw<|show M.ret η4 (M.oSem p DX [(m2,.int j),z])=_ from h8;cases e8';obtain⟨n1,n2,i',j',e9,rfl,rfl⟩:=t e8;cases e9;refine ju r h7 λvz Z3 H3 P G3 A3 r3 _ s3 _=>⟨j,j',r2,r3,?_⟩;exact k _ Z3 H3 P no A3.bare rfl ((D.trans<|dr s3).mono (λ_ z=>z) λ_ z=>z.elim id λq=>q.elim)
 |false=>rw[hg] at e;rw[Jd EI];cases e;exact k _ Z2 H2 N no r rfl (D.mono (λ_ z=>z) λ_ z=>z.elim id λq=>q.elim)
theorem i6 {o p:M.Op}{g Z:I->I->IZ}(A:∀{u v w:M.W},M.oSem o DX [u,v]=Y w->∃m n i j,u=(m,.int i)/\v=(n,.int j)/\w=(.d,.bl<|g i j))(r:∀{u v w:M.W},M.oSem p DX [u,v]=Y w->∃m n i j,u=(m,.int i)/\v=(n,.int j)/\w=(.d,.bl<|Z i j)):
  ∀F w f,M.evE C (.chain o p a b c) F=.ok (w,f)->∃b,w.2=.bl b:=λF w f ev=>by
 obtain⟨⟨x,G⟩,h1,h2⟩:=ae<|show(M.evE C a F).bind (M.kC1 o p (M.evE C b)<|M.evE C c)=_ from ev;obtain⟨⟨y,l⟩,h3,h4⟩:=ae<|show(M.evE C b G).bind (M.kC2 o p (M.evE C c) x)=_ from h2;obtain⟨⟨kk,η3⟩,h5,h6⟩:=ae<|show(M.ret l<|M.oSem o DX [x,y]).bind (λk=>M.onB k.1.2 (M.then' (M.evE C c)<|M.kC3 p y) (M.okW (.d,.bl DX)) k.2)=_ from h4;obtain⟨k',P,s⟩:=aw h5;cases s;obtain⟨m1,D,i,j,rfl,rfl,rfl⟩:=A P;have e:M.onB (.bl (g i j)) (M.then' (M.evE C c) (M.kC3 p (D,.int j))) (M.okW (.d,.bl DX)) l=.ok (w,f):=h6;cases N:g i j with
 |true=>rw[N] at e;obtain⟨⟨z,H⟩,h7,h8⟩:=ae<|show(M.evE C c l).bind (M.kC3 p (D,.int j))=_ from e;obtain⟨z',Q,t⟩:=aw<|show M.ret H (M.oSem p DX [(D,.int j),z])=_ from h8;cases t;obtain⟨n1,n2,i',j',e9,rfl,rfl⟩:=r Q;exact⟨_,rfl⟩
 |false=>rw[N] at e;cases e;exact⟨_,rfl⟩
theorem kO (d:SE X sf C ea a)(e:SE X sf C eb b)(f:SE X sf C ec c)(g:lastMarks [.LtE,.LtE] [eb,ec]=false:=by with_unfolding_all rfl):SB X sf C (.Compare ea [.LtE,.LtE] [eb,ec] pos) (.chain .le .le a b c):=
 jo (jh lQ lQ d e f g) λj H Q i=>fZ cF cF j H _<|og (i6 cF cF) i
theorem se (d:SE X sf C ea a)(e:SE X sf C eb b)(f:SE X sf C ec c)(g:lastMarks [.LtE,.Lt] [eb,ec]=false:=by with_unfolding_all rfl):SB X sf C (.Compare ea [.LtE,.Lt] [eb,ec] pos) (.chain .le .lt a b c):=
 jo (jh lQ vw d e f g) λj H Q i=>fZ cF gU j H _<|og (i6 cF gU) i
theorem BQ (j l:O){t u:O}{x y:Str}{o p pt:Pos}{m:O}{P:M.X}(r:X.N.Nodup)(s:SE X sf C ea a)(f:t≠u:=by decide)(z:t ∉ io:=by decide)(e:u ∉ io:=by decide)(F:sf t=Y j:=by rfl)(g:sf u=Y l:=by rfl)(A:X.N[j]?=Y x:=by rfl)(D:X.N[l]?=Y y:=by rfl)
  (hx:L2.Loc X.env.scope x:=by first|exact Eg rfl|exact Ec rfl) (H:L2.Loc X.env.scope y:=by first|exact Eg rfl|exact Ec rfl) (v:X.calm=true:=by rfl)
  (w:X.fn x=DY\/X.env.scope.names.lookup x=Y .local:=by first|exact .inl rfl|exact .inr rfl) (d:X.fn y=DY\/X.env.scope.names.lookup y=Y .local:=by first|exact .inl rfl|exact .inr rfl)
  (k:swapsWithSole [.Tuple [.Name x o,.Name y p] m pt] ea pos.line X.env=pure false:=by rfl) (G:swappedStores [.Tuple [.Name x o,.Name y p] m pt] ea X.env=pure none:=by rfl):
  SS X sf io C (.Assign [.Tuple [.Name x o,.Name y p] m pt] ea pos) (.asgT P [t,u] a):=
 bN (yR s (kI (n:=2) v<|bY (bc (i:=j) r A hx w)<|bY (bc (i:=l) r D H d) gV) k G) (rP f z e F g)
end
end MR

namespace MR
open PySem PySem.Spec PyProof.Rows L2 L3
section
variable {X:Cx}{sf sg:O->B O}{C:M.Call}{pos p2 p3:Pos}{ea eb ec:Je}{a b c:M.E}{h:IZ}{n:O}{io:U O}
theorem km {g:U Jj}:SSs X sf io C g [.stop]:=λe s k H D d q=>by obtain⟨pv,Z,i,j,N,A,f⟩:=q;exact(show Jh from f).elim
theorem sGc {x:Str}{i:I}(d:∃t,X.mg x=Y (.int i t))(f:Gl X x:=by rfl)(e:(x==("__debug__":Str))=false:=by decide):SE X sf C (.Name x pos) (.cst<|.int i):=by obtain⟨t,d⟩:=d;exact aB (kL (v:=.int i) f d ⟨t,rfl⟩ e)<|fC rfl
def vF (K:D1)(H:Hp):U O->V->V->Prop
|[],v,u=>u=v
|j::p,v,u=>∃a d x,v=.ref a/\(SqL K H a d\/SqT K H a d)/\d[j]?=Y x/\vF K H p x u
def wP (K:D1)(sf:O->B O)(i:O)(p:U O):TE:=λd H Q=>∃j v u,sf i=Y j/\d[j]?=Y (Y v)/\vF K H p v u/\Q u H
abbrev SP (X:Cx)(sf:O->B O)(d:Je)(i:O)(p:U O):Prop:=PE X d<|wP X.K sf i p
noncomputable def bF (d:Fps)(i:O)(G:Fp):Fps:=λl a=>(l=i/\G a)\/(l≠i/\d l a)
def qz (K:D1)(w:D3)(e:Str->B L)(x:Str)(d:U Str):Prop:=∃a T,e x=Y (.ref a)/\DTab K w a T/\∀z,(T.lookup z).isSome=d.contains z
theorem yc {K:D1}{w:D3}{ad:IY}{T:U<|Str×V}{i:U Str}{e:M.E}{f:IZ}(D:DTab K w ad T)(ht:∀z,(T.lookup z).isSome=i.contains z)(o:L2.St)(H:Hp)(Q:VK)(h:wE K sf C (.inT f i e) o H Q):
  wE K sf C e o H λx v=>∃z a j,x=.str z/\V.ref ad=.ref a/\DTab K w a j/\Q (.bl<|(j.lookup z).isSome != f) v:=by
 obtain⟨pv,Z,p,l,w',η',A,ev,k⟩:=h;obtain⟨⟨u,η1⟩,N,P⟩:=ae<|show(M.evE C e l).bind (M.kIn f i)=_ from ev;obtain⟨z,e1,e2,e3⟩:=gG P;cases e2;refine⟨pv,Z,p,l,u,_,A,N,λy F t g G d r s=>?_⟩;obtain⟨m,t0⟩:=u;cases(show t0=_ from e1);refine⟨z,ad,T,r.1,rfl,D,?_⟩;rw[ht z];refine k _ F t g no d.bare ?_<|s.mono (λ_ z=>z) λa ha=>ha.elim .inl λz=>z.elim;rw[show w'=_ from e3];rfl
def qy (P:I9)(w:D3)(K:D1)(i:Str->B L)(d:Jf)(n:O)(C:M.Call)(x:Str)(tab:U<|Str×O):Prop:=
 ∃a T,i x=Y (.ref a)/\DTab K w a T/\∀z f,tab.lookup z=Y f->∃e g j,T.lookup z=Y (.ref e)/\FnOk P w K i d CX0 n e g j (spS K C f [])/\Fb K (.ref e)=DY/\Binds K g j []
theorem n5 {x:Str}{p P:Pos}{g:U Je}{t:TA}{tk:TE}{ad:IY}(hk:PE X eb tk)(hg:Gl X x)(hm:X.mg x=Y (.ref ad))(ha:PA X (ea::g) t)(hr:Room n X.A)(G:(x==("__debug__":Str))=DX)(hs:cH eb)
  (he:D5 (ea::g) X.env=(DX,Jl ea X.env)::D5 g X.env) (N:(En pos<|D5 g X.env).any (·.1)=DX):
  PE X (.Call (.Subscript (.Name x p) eb P) (ea::g) [] pos) λl H Q=>tk l H λy m=>∃a z T v,V.ref ad=.ref a/\y=.str z/\DTab X.K X.w a T/\T.lookup z=Y v/\∃e i j k,v=.ref e/\FnOk X.prog X.w X.K X.mg X.base CX0 n e i j k/\Fb X.K (.ref e)=DY/\Binds X.K i j []/\t l m λD o=>k D o Q E0:=by
 intro f s l H Q d h
 rw[show Jl (.Call (.Subscript (.Name x p) eb P) (ea::g) [] pos) X.env=(do
  callWith pos (<- Jl (.Subscript (.Name x p) eb P) X.env) [] (En pos<|D5 (ea::g) X.env) (backToKw pos<|keywordEach [] X.env)) from rfl]
 refine D2<|thn (oR yf (oN hg hm G) hk hs f s l H (λv m=>∃e i j k,v=.ref e/\FnOk X.prog X.w X.K X.mg X.base CX0 n e i j k/\Fb X.K (.ref e)=DY/\Binds X.K i j []/\t l m λD o=>k D o Q E0) d h) λu s1 ⟨v,m,Z,rv,e,i,j,k,ev,F,M,hb,q⟩=>?_;subst ev;obtain rfl:u=Value.ref e:=rv;refine Ht (h₀:=X.base) Z.ok.mod.kin M (thn (ha pos f s1 l m _ Z q) λus s2 ⟨D,o,I2,r,q2⟩=>⟨I2.kIn,?_⟩) he N;exact qK F hr hb .nil gw I2 r<|by rw[EW];exact q2
theorem jT {x:Str}{p p4:Pos}{tab:U<|Str×O}{e:U Je}{bs:U M.E}{k:M.E}(T:qy X.prog X.w X.K X.mg X.base n C x tab)(hr:Room n X.A)(hk:SE X sf C eb k)(l:SA X sf C (ea::e) bs)(t:M.ios bs=[]:=by rfl)(hg:Gl X x:=by rfl)(o:(x==("__debug__":Str))=false:=by decide)(hs:cH eb:=by intro _ _;rfl)
  (he:D5 (ea::e) X.env=(DX,Jl ea X.env)::D5 e X.env:=by rfl) (F:(En pos<|D5 e X.env).any (·.1)=false:=by rfl):SE X sf C (.Call (.Subscript (.Name x p) eb p4) (ea::e) [] pos) (.callT tab k bs):=by
 obtain⟨ad,T',hm,D,ht⟩:=T;refine aB (n5 hk hg hm l hr o hs he F) λσ H Q hw=>?_;obtain⟨pv,Z,Fs,η,w,N,A,ev,kk⟩:=hw;obtain⟨⟨u,g⟩,h1,h2⟩:=ae<|show(M.evE C k η).bind (M.kTab tab<|M.kCT C (M.evA C bs)<|M.ios bs)=_ from ev;obtain⟨z,f,e1,e2,h3⟩:=iB h2;refine⟨pv,Z,Fs,η,u,g,A,h1,λy Z' P i G d r s=>?_⟩;obtain⟨m,t0⟩:=u;cases(show t0=_ from e1);obtain⟨fa,fd,ps,q1,q2,q3,q4⟩:=ht z f e2;refine⟨ad,z,T',.ref fa,rfl,r.1,D,q1,fa,fd,ps,_,rfl,q2,q3,q4,?_⟩;have h4:wE X.K sf C (.call f bs) σ P Q:=⟨pv,Z',i,g,w,N,d.bare,h3,λv Z2 H2 j G2 B2 r2 s2=>kk v Z2 H2 j G2 B2 r2<|(s.mono (λ_ z=>z) λa l=>.inl l).trans s2⟩;exact lu (io:=[]) (.inr t) σ P Q h4
end
end MR

namespace MR
open PySem PySem.Spec PyProof.Rows L2 L3
theorem fsc {N P:U Str}{a:Jt}(b:a.kind=.function:=by rfl)(c:a.isCoroutine=false:=by rfl)(d:a.isGenerator=false:=by rfl)(e:N.Nodup:=by decide +kernel)(f:N.take P.length=P:=by rfl)(g:∀x∈P,a.names.lookup x=Y .local\/a.names.lookup x=Y .cell:=by decide +kernel)(h:∀y∈a.names,y.2≠.free:=by decide +kernel):ai N P a:=⟨b,c,d,e,f,g,h⟩
theorem csc {pre b:U Str}{a:Jt}(c:a.kind=.function:=by rfl)(d:∀y∈a.names,y.2≠.cell:=by decide +kernel)(e:∀y∈a.names,y.2=.local->a.names.lookup y.1=Y .local:=by decide +kernel)(f:∀x∈pre,a.names.lookup x=Y .local:=by decide +kernel)(g:(pre++b).Nodup:=by decide +kernel):ay pre b a:=⟨c,d,e,f,g⟩
section
variable {P:I9}{w:D3}{K:D1}{mg:Str->B L}{base:Jf}{x:Str}{st:Jj}{ps N:U Str}{n g:O}{io:U O}{C C':M.Call}{d:L}{t:M.T}
structure Df (K:D1)(mg:Str->B L)(x:Str)(st:Jj)(ps:U Str):Prop where
 ex:∃f fd,Fun K x x st f fd/\Binds K fd ps []/\mg x=Y (.ref f)
theorem Df.ok (e:Df K mg x st ps)(h:∀f a,Fun K x x st f a->FnOk P w K mg base CX0 n f a ps (spS K C g io)):aa P w K mg base n C x g io:=by obtain⟨f,a,F,b,m⟩:=e.ex;exact⟨f,a,ps,h f a F,m,F.kp,b⟩
theorem Df.z (e:Df K mg x st ps)(a:∀b,C g b=.no:=by intro _;rfl):aa P w K mg base n C x g io:=e.ok λ_ _ _=>fn0 a
theorem Df.s (a:M.Fn)(e:Df K mg x st ps)(S:ai N ps<|defScope st)
  (p:∀{f:IY} {c:L} {A:D9} {b:U Env} {s:DZ} {H:Hp} {E:XK},Room n (A.deeper<|EZ x (defScope st) s.heap.objs.size f c)->SSs (hX CX0 P w K mg base N x (defScope st) f c A b s H E).nox (slN N.length) a.io C (defBody st) a.body)
  (o:∀m,C' g m=M.runF C a m:=by intro _;rfl) (l:a.ps=ps.length:=by rfl) (k:ps.length<=N.length:=by decide) (r:a.io.Nodup:=by decide) (j:∀i∈a.io,i<ps.length:=by decide):aa P w K mg base (n+1) C' x g a.io:=
 e.ok λ_ _ F=>Fun.okM F S l k r j (λ_ _ _ _ _ _ h=>p h) o
def Raw (K:D1)(x:Str)(st:Jj)(dV:L):Prop:=∃f e h j kV c i an a b,FL K D8 x=Y (Y<|.ref f)/\K.lookup f=Y ⟨e,h,.func<|E4 x x (defArgs st) (defBody st) (defScope st) dV kV c i an a b,j⟩/\GZ K a x=DY/\Fb K (.ref f)=DY
theorem aF {h:Jf}(X:K.In h)(G:h.Ns D8 mg)(r:Raw K x st .none)(o:∀(kV b i:L) (an:B IY) (a e:L) (c:U L),c.length=ps.length->bindArgs (E4 x x (defArgs st) (defBody st) (defScope st) .none kV b i an a e) ⟨c,[]⟩=pure (ps.zip c)):Df K mg x st ps:=by obtain⟨f,u,v,y,kV,s,i,an,p,e,j,k,l,m⟩:=r;have F:=qP (st:=st) k l m;exact⟨f,_,F,F.binds o,FO X G j⟩
def y0 (K:D1):U Str->Prop
|[]=>JR
|x::r=>FL K D8 x=Y J/\y0 K r
theorem yV {h:Jf}(X:K.In h)(G:h.Ns D8 mg)(r:y0 K ["isinstance","int","tuple","list","bool","sum","len","all","zip","range","enumerate","any","max","min","sorted","str","repr","abs","dict","set","reversed"]):Txt mg:=by obtain⟨u,v,y,A,D,F,H,M,Q,a,b,c,e,f,i,j,k,l,o,p,s,_⟩:=r;have m:=λ{x:Str} (z:FL K D8 x=Y J)=>PySem.W.mg_none_of X G z;exact⟨m u,m v,m y,m A,m D,m F,m H,m M,m Q,m a,m b,m c,m e,m f,m i,m j,m k,m l,m o,m p,m s⟩
def TabRaw (K:D1)(w:D3)(x:Str)(T:U<|Str×V):Prop:=∃a b n,FL K D8 x=Y (Y<|.ref a)/\K.lookup a=Y ⟨.type "dict",J,.dict b n,#[]⟩/\Im w.params b.toList/\Paired (λ(p:Str×V) (e:Jp)=>(∃t,e.key=.str p.1 t)/\RelV p.2 e.val) T b.toList/\(a==EK)=DX
theorem TabRaw.tab {h:Jf}{T:U<|Str×V}(X:K.In h)(G:h.Ns D8 mg)(r:TabRaw K w x T):∃a,mg x=Y (.ref a)/\DTab K w a T:=by obtain⟨a,b,n,c,e,f,i,j⟩:=r;exact⟨a,FO X G c,⟨b,n,e,f,i⟩,j⟩
theorem gq (z:Str):∀T:U<|Str×V,(T.lookup z).isSome=(T.map FC).contains z
|[]=>rfl
|(k,v)::T=>by
 rw[Fc,Eo,List.contains_cons];cases z==k with
 |true=>rfl
 |false=>rw[gq z T];rfl
theorem iw {h:Jf}{T:U<|Str×V}{b:U Str}(X:K.In h)(G:h.Ns D8 mg)(r:TabRaw K w x T)(hk:T.map FC=b):qz K w mg x b:=by obtain⟨a,c,e⟩:=r.tab X G;exact⟨a,T,c,e,λz=>by rw[gq,hk]⟩
def NamL (K:D1)(T:U<|Str×V):U (Str×Str)->Prop
|[]=>JR
|(k,y)::r=>(∃a,T.lookup k=Y (.ref a)/\FL K D8 y=Y (Y<|.ref a))/\NamL K T r
def nT (K:D1)(w:D3)(mg:Str->B L)(x:Str)(l:U<|Str×Str):Prop:=∃a T,mg x=Y (.ref a)/\DTab K w a T/\∀z y,l.lookup z=Y y->∃b,T.lookup z=Y (.ref b)/\mg y=Y (.ref b)
theorem gA {h:Jf}{T:U<|Str×V}{l:U<|Str×Str}(X:K.In h)(G:h.Ns D8 mg)(r:TabRaw K w x T)(c:NamL K T l):nT K w mg x l:=by
 obtain⟨a,i,j⟩:=r.tab X G;refine⟨a,T,i,j,λz y=>?_⟩;induction l with
 |nil=>intro e;cases e
 | cons p l m =>
  obtain⟨k,u⟩:=p;intro e;rw[Fc] at e;cases b:z==k with
  |true=>rw[b] at e;cases e;obtain⟨f,o,s⟩:=c.1;rw[beq_iff_eq.mp b];exact⟨f,o,FO X G s⟩
  |false=>rw[b] at e;exact m c.2 e
def AX (P:I9)(w:D3)(K:D1)(mg:Str->B L)(base:Jf)(n:O)(C:M.Call):U (Str×O)->U (Str×Str)->Prop
|[],_=>JR
|(k,f)::r,l=>(∃y,l.lookup k=Y y/\aa P w K mg base n C y f [])/\AX P w K mg base n C r l
theorem cO {l:U<|Str×Str}{tab:U<|Str×O}(t:nT K w mg x l)(h:AX P w K mg base n C tab l):qy P w K mg base n C x tab:=by
 obtain⟨a,T,o,r,s⟩:=t;refine⟨a,T,o,r,λz f=>?_⟩;induction tab with
 |nil=>intro e;cases e
 | cons p tab u =>
  obtain⟨k,g⟩:=p;intro e;rw[Fc] at e;cases b:z==k with
  |true=>rw[b] at e;cases e;obtain⟨y,v,i,m,ps,A,D,F,G⟩:=h.1;rw[beq_iff_eq.mp b];obtain⟨j,H,c⟩:=s k y v;rw[D] at c;cases c;exact⟨i,m,ps,H,A,F,G⟩
  |false=>rw[b] at e;exact u h.2 e
end
end MR

namespace MR
open PySem PySem.Spec PyProof.Rows L2 L3
theorem mX {X:Cx}:dN X (.type "range") (λc H Q=>∃j,c=[.int j]/\∀p,H p=J->Q (.ref p) (upd H p<|.rng 0 j)):=by intro b s f H c d Q a r h;obtain⟨j,rfl,q⟩:=h;obtain⟨u,rfl,t,rfl⟩:=iJ r;refine call_range_1 ?_;exact⟨.ref s.heap.objs.size,upd H s.heap.objs.size<|.rng 0 j,a.laid (t':=s.toks+2) (λ_ _ e=>Heap.get?_push_of_some _ e) (D7 _) ⟨_,_,_,Heap.get?_push_size _ rfl⟩,rfl,q _ a.fresh⟩
section
variable {X:Cx}{sf sg:O->B O}{C:M.Call}{pos p p2 p3:Pos}{ea eb ec:Je}{a b c:M.E}{h:IZ}{io:U O}
theorem DR (hm:X.mg "list"=J)(x:X.mg "range"=J)(f:SE X sf C ea a)(g:X.calm=true:=by rfl)(hg:Gl X "list":=by rfl)(v:Gl X "range":=by rfl)
  (hs:D5 [.Call (.Name "range" p3) [ea] [] p2] X.env=(DX,Jl (.Call (.Name "range" p3) [ea] [] p2) X.env)::D5 [] X.env:=by rfl) (D:(En pos<|D5 [] X.env).any (·.1)=false:=by rfl)
  (n:D5 [ea] X.env=(DX,Jl ea X.env)::D5 [] X.env:=by rfl) (i:(En p2<|D5 [] X.env).any (·.1)=false:=by rfl) {p4:Pos}:
  SE X sf C (.Call (.Name "list" p4) [.Call (.Name "range" p3) [ea] [] p2] [] pos) (.op .rng h [.cst<|.int 0,a]):=
 aB (cP (j9 g) hg hm GV (aJ (cP mX v x IS (aJ f bu n) (by decide) (by decide) n i) bu hs) (by decide) (by decide) hs D) fun σ H Q hw=>by
  obtain⟨pv,Z,Fs,η,w,G,A,ev,k⟩:=hw;obtain⟨ws,h1,P⟩:=b7 ev;obtain⟨⟨m,u⟩,η1,us,e1,e2,rfl⟩:=ax h1;obtain⟨⟨m',u'⟩,η2,us,e3,e4,rfl⟩:=ax e2;cases e4;cases e1;cases u' with
  | int j =>
   have t:(if(decide ((0:I).natAbs<4611686018427387904)&&decide (j.natAbs<4611686018427387904)&&M.fits (j-0).toNat)=DY then Y ((.d,.lst ((Eb (j-0).toNat).map λ(k:O)=>M.T.int (0+k))):M.W) else J)=Y w:=P;split at t
   .rename_i g;rw[Ew,Ew,Jg,Jg] at g;cases t;refine⟨pv,Z,Fs,η,(m',.int j),G,A,e3,λy N s Fs2 G2 r r2 s2=>?_⟩;cases r2;refine⟨j,rfl,λp hp=>⟨p,0,j,rfl,ah,⟨by lia,by lia,by lia,by lia⟩,br (bH g.2),λl hl=>?_⟩⟩;have F:=q8 (o:=.rng 0 j) hp;have ow:Own N (upd s p (.rng 0 j)) G2:=λa f=>by obtain⟨z1,ys,z2⟩:=r.own a f;exact⟨z1,ys,F a _ z2⟩
    have za:∀a,N a->upd s p (.rng 0 j) a≠none:=λa f q=>by
     cases e:s a with
     |none=>exact r.gd.zal a f e
     |some o=>rw[F a o e] at q;cases q
    have kk:=qb F<|bL r s2 k;refine bJ (m:=.d) (G':=no) ow za (λ_ z=>z.elim) ?_ ?_ (by simp) kk hl
    .rw[Ea,FV];exact bH g.2
    .have q1:((Eb (j-0).toNat).map fun (k:O)=>M.T.int (0+(k:I)))=((Eb (j-0).toNat).map fun (k:O)=>0+(k:I)).map M.T.int:=by rw [IC]; rfl
     have q2:((Eb (j-0).toNat).map λ(k:O)=>V.int (0+(k:I)))=((Eb (j-0).toNat).map λ(k:O)=>0+(k:I)).map V.int:=by rw[IC];rfl
     rw[q1,q2];exact kc _
   .cases t
  |_=>cases P
end
section
variable {X:Cx}{sf sg:O->B O}{C:M.Call}{pos p p2 p3:Pos}{ea eb ec:Je}{a b c:M.E}{h:IZ}{io:U O}{K:D1}
theorem ym {e:IZ}{i:U Str}{n:L2.St}{H:Hp}{Q:IZ->Hp->Prop}(D:wT K sf C (.inT e i a) n H Q):wE K sf C (.inT e i a) n H λx g=>∃k,x=.bl k/\Q k g:=by obtain⟨pv,Z,o,m,w,j,b,A,ev,l,k⟩:=D;refine⟨pv,Z,o,m,w,j,A,ev,λv t g f G d r s=>?_⟩;obtain⟨⟨u,F⟩,N,y⟩:=ae<|show(M.evE C a m).bind (M.kIn e i)=_ from ev;obtain⟨z,e1,e2,e3⟩:=gG y;rw[show w=_ from e3] at l r;cases l;exact⟨_,r,k t g f d.bare<|s.mono (λ_ z=>z) λ_ z=>.inl z⟩
theorem y9 {x:Str}{g:U Str}(T:qz X.K X.w X.mg x g)(n:SE X sf C ea a)(u:Gl X x:=by rfl)(t:(x==("__debug__":Str))=false:=by decide)(o:FZ .In (.Name x p2)=false:=by rfl):SB X sf C (.Compare ea [.In] [.Name x p2] pos) (.inT DX g a):=by obtain⟨ad,T',y,D,F⟩:=T;refine jo (kR qx n (oN u y t) o) λσ H Q M=>?_;obtain⟨pv,Z,i,P,N,f,A,ev,k⟩:=yc D F σ H _<|ym M;refine⟨pv,Z,i,P,N,f,A,ev,λv m j e G d r s=>?_⟩;obtain⟨z,a,l,e1,e2,e3,q⟩:=k v m j e G d r s;rw[E9] at q;exact⟨z,a,l,e1,e2,e3,q⟩
end
end MR





namespace L3
open PySem PySem.Spec PySem.NumText PyProof.Rows L2
theorem yC {X:Cx}{b:U Jj}{g:GP}{j:U GP}{d:Pos}{t:TS}(hx:∀v s,X.xe v s->Jh)(i:PSs X b t):PS X (.Try b (g::j) [] [] d) t:=by
 intro c s l H D a h;refine wpAny_Try_except<|Ej (i c s l H D a h) (λf k q=>?_) λe k q=>(hx _ _ q).elim;cases f with
 |next=>exact GK q
 |brk=>exact q
 |cont=>exact q
 |ret u=>exact q
end L3
namespace MR
open PySem PySem.Spec PyProof.Rows L2 L3
section
variable {X:Cx}{sf sg:O->B O}{C:M.Call}{pos p p2 p3:Pos}{ea eb ec:Je}{a b c:M.E}{h:IZ}{n:O}{io:U O}{K:D1}
theorem Dv {d:U Jj}{e:GP}{g:U GP}{s:U M.S}(f:SSs X sf io C d s)(hx:∀v s,X.xe v s->Jh:=by exactλ_ _ z=>z):SS X sf io C (.Try d (e::g) [] [] pos) (.tri s):=bN (yC hx f) λD j H i=>i
end
end MR

namespace MR
open PySem PySem.Spec PyProof.Rows L2 L3
theorem slx {X:Cx}{d:O->B O}{C:M.Call}{b:Je}{a:M.E}{c:U Je}{bs:U M.E}(e:SE X d C b a)(f:SL X d C c bs)(g:D5 (b::c) X.env=(DX,Jl b X.env)::D5 c X.env):SL X d C (b::c) (a::bs):=slc e f g
theorem sTx {X:Cx}{c:O->B O}{C:M.Call}{a:Pos}{b:U Je}{bs:U M.E}{e:O}(d:bs.length<=M.LIM)(h:SL X c C b bs):SE X c C (.Tuple b e a) (.tup bs):=sT h d
theorem sLx {X:Cx}{c:O->B O}{C:M.Call}{a:Pos}{h:IZ}{b:U Je}{bs:U M.E}(e:bs.length<=M.LIM)(d:SL X c C b bs):SE X c C (.List b a) (.lst h bs):=sLs d e
theorem au {X:Cx}{e:O->B O}{C:M.Call}{d:Pos}{h:IZ}{f c:Je}{a b:M.E}(g:SE X e C f a)(i:SE X e C c b)(j:cH c):SE X e C (.Subscript f c d) (.op .ix h [a,b]):=sIx g i j
end MR

namespace TP
open PySem PySem.W
noncomputable def en (P:Ei)(k:Str)(t:O)(v:L):Jp:=⟨PyData.keyHash P k,.str k t,v⟩
def tu (a:U L):Obj:=⟨.type "tuple",J,.seq a.toArray 0,#[]⟩
def fe (a:U L):Obj:=⟨.none,J,.fields a.toArray,#[]⟩
noncomputable def di (a:U Jp)(n:O):Obj:=⟨.type "dict",J,.dict a.toArray n,#[]⟩
abbrev fl:Str:="/claim/cut.py"
def iv (i:I):L:=.int i 0
def cdo (n q:Str)(t d:O)(c e:O)(f:O)(a:O)(b:IZ)(x y z:L):Obj:=
 ⟨.type "code",J,.fields #[.str n t,.str q<|t+1,.str fl<|t+2,iv c,iv e,iv 0,iv 0,iv f,.ref a,.bool b,iv 181,.ref<|a+1,.none,x,y,z,iv d,iv c,.str fl<|d+1],#[]⟩
def ofn (c:L)(f:Jj)(q:Str)(g:O)(d m:L)(a:L):Obj:=match f with
|.FunctionDef n ar b _ _ _ e _ _ _=>⟨c,J,.func {name:=n,qualname:=q,params:=ar,body:=.stmts b,scope:=e,globals:=g,closure:=[],defaults:=d,kwdefaults:=.none,pyModule:=m,code:=a},#[]⟩
|_=>default
noncomputable def tks:U Str->O->U L
|[],_=>[]
|x::r,t=>.str x t::tks r (t+1)
structure R where
 os:U Obj
 ns:U Jp
 tb:U L
 n:O
 tk:O
 md:L
 ss:U Jp
inductive Rc where
 |d|m|c
 |x (k:Str) (kt:O) (v:L) (os:Ei->U Obj) (tb:U L) (n tk:O)
 |y (k:Str) (kt:O) (v:L) (os:Ei->U Obj) (tb:U L) (n tk:O) (ss:Ei->U Jp)
def cv:Je->L
|.Constant (.bool b) _ _=>.bool b
|_=>.none
def dO (P:Ei)(n d:O)(f:L)(g:Jj):R:=match g with
| .FunctionDef e ar b _ _ _ h _ _ c =>
 let pr:U Obj×L×O:=match ar.defaults with
  |[]=>([],.none,n)
  |ds=>([tu<|ds.map cv],.ref n,n+1)
 let a:=pr.2.2
 match localNames ar h (.stmts b) with
 | none=>⟨pr.1++[tu [],fe [],ofn .none g e 0 .none .none .none,cdo e e d (d+3) c.line ar.args.length 3 a DY .none .none (.ref (a+2)),ofn (.type "function") g e 3 pr.2.1 f (.ref (a+3))],
   [en P e (d+5)<|.ref<|a+4],[iv c.line,iv c.col,.ref<|a+3],a+5,d+6,f,[]⟩
 | some l =>
  let k:=l.1.length;let j:=l.2.length
  ⟨pr.1++[tu [],fe [],tu (tks l.1 (d+3)),tu (tks l.2 (d+3+k)),ofn .none g e 0 .none .none .none,cdo e e d (d+3+k+j) c.line ar.args.length 3 a DY (.ref (a+2)) (.ref (a+3)) (.ref (a+4)),ofn (.type "function") g e 3 pr.2.1 f (.ref (a+5))],
   [en P e (d+5+k+j)<|.ref<|a+6],[iv c.line,iv c.col,.ref<|a+5],a+7,d+6+k+j,f,[]⟩
|_=>⟨[],[],[],n,d,f,[]⟩
def one (P:Ei)(n a:O)(b:L)(h:Jj):Rc->R
|.d=>dO P n a b h
|.m=>match h with
 |.Assign _ (.Constant (.str s) _ _) _=>⟨[],[],[],n,a+2,.str s a,[]⟩
 |_=>⟨[],[],[],n,a,b,[]⟩
|.c=>match h with
 |.Assign (.Name x _::_) (.Constant (.str s) _ _) _=>⟨[],[en P x (a+1)<|.str s a],[],n,a+2,b,[]⟩
 |.Assign (.Name x _::_) (.Constant (.int i) _ _) _=>⟨[],[en P x (a+1)<|.int i a],[],n,a+2,b,[]⟩
 |_=>⟨[],[],[],n,a,b,[]⟩
|.x k f v os j g e=>⟨os P,[en P k f v],j,g,e,b,[]⟩
|.y k f v os j g e l=>⟨os P,[en P k f v],j,g,e,b,l P⟩
def go (P:Ei):U (Jj×Rc)->O->O->L->U R
|[],_,_,_=>[]
|(b,r)::l,n,c,a=>let x:=one P n c a b r
 x::go P l x.n x.tk x.md
def BX (x:R):U R->R
|[]=>x
|y::l=>BX y l
def ds:Data->U Jp
|.dict a _=>a.toList
|_=>[]
noncomputable def ep:Data->O
|.dict _ n=>n
|_=>0
def r0:R:=⟨[],[],[],15,187,.str "__main__" 164,[]⟩
def rs (P:Ei)(l:U<|Jj×Rc):U R:=go P l 15 187<|.str "__main__" 164
def o3 (P:Ei)(l:U R):Obj:=di (en P "__name__" 165 (BX r0 l).md::((ds (boot_o_3 P).data).tail++l.flatMap R.ns))<|ep (boot_o_3 P).data+(l.flatMap R.ns).length
noncomputable def o2 (P:Ei):U Jp->Obj
|[]=>boot_o_2 P
|es=>⟨.none,J,.dict es.toArray es.length,#[]⟩
def os (P:Ei)(l:U R):U Obj:=
 boot_o_0 P::boot_o_1 P::o2 P (l.flatMap R.ss)::o3 P l::boot_o_4 P::boot_o_5 P::boot_o_6 P::boot_o_7 P::boot_o_8 P::boot_o_9 P::boot_o_10 P ::
 tu []::fe (l.flatMap R.tb)::cdo "<module>" "<module>" 182 185 1 0 0 11 DX .none .none .none ::
 ⟨.type "frame",J,.plain,#[Y<|.ref 13,Y<|.ref 3,Y<|.ref 3,J,Y<|.str "__main__" 164,J,Y<|.ref 0]⟩::l.flatMap R.os
def odd {a:Type}:U a->U a×U a
|[]=>([],[])
|x::l=>(x::(odd l).2,(odd l).1)
noncomputable def bt:O->U Obj->BT
|0,_=>.nil
|_+1,[]=>.nil
|k+1,x::l=>.node x (bt k (odd l).1)<|bt k (odd l).2
noncomputable abbrev p0:Pos:=⟨0,0,0,0⟩
abbrev B0:U Frame:=[topFrame p0]
abbrev an:B L:=Y<|.ref 6
noncomputable def ev (p:I9):Env:={scope:=p.main.scope,locals:=mainNs,globals:=mainNs,cells:=[],code:=.ref 13,frame:=Y 14}
def cE (p:I9):Code:=.body (Gq p)<|ev p
def sT (p:I9)(rc:U Rc)(P:Ei)(m n a:O)(o:JL):SharedT:=⟨bt 12<|os P<|rs P<|(p.main.body.zip rc).take m,n,{},#[],{},a,o⟩
def hp (p:I9)(rc:U Rc)(m n:O)(P:Ei):Jf:=absHeap (bt 12<|os P<|rs P<|(p.main.body.zip rc).take m) n {}
def Cut (p:I9)(rc:U Rc)(i n t:O)(c:Pos)(k N b d:O)(a:Pos)(w:D3):Prop:=∀o,segRunT Fu p w 11 an 1 N (sT p rc w.params i n t o) (piecesOf ((p.main.body.drop i).take k) (ev p) (cE p) c B0)=Y (.next,sT p rc w.params (i+k) b d o,cE p,a)
def Ch (p:I9)(rc:U Rc)(m a c:O)(i n t:O)(b:Pos)(M:O):Prop:=∀w o,topRun Fu p w 11 an M (sT p rc w.params i n t o).abs (restOf (p.main.body.drop i) (ev p) (cE p) b B0)=Y (sT p rc w.params m a c o).abs
theorem aM {p:I9}{rc:U Rc}{m d g i n t k N b f M:O}{e a:Pos}(c:∀w,Cut p rc i n t e k N b f a w)(h:Ch p rc m d g (i+k) b f a M):Ch p rc m d g i n t e (N+M):=λw o=>by have x:=piece_app (segRun_of<|c w o)<|h w o;rw[<- List.drop_drop,List.take_append_drop] at x;exact x
theorem yQ {p:I9}{rc:U Rc}{m a b:O}{d:Pos}(c:p.main.body.drop m=[]):Ch p rc m a b m a b d 2:=λw o=>by rw[c];exact piece_nil rfl
theorem rX (w:D3):((ES w.params).isNs D8&&(GR []:Jo JH).size==0,(ES w.params).objs.size,(ES w.params).nsMap D8 "__annotations__")=(DY,11,an):=by kernel_rfl
theorem t9 {p q:I9}{a:U Str}{Xt:DZ->IZ}{l:Type}{j:DZ->l}{i:D3->l}{N M m b h:O}{rc:U Rc}
  (e:opening p=plainProg p.main.scope.names) (n:Nat.ble 600 N=DY) (f:∀s,fenceModules? p s=Y s) (r:Gq p=p.main.body)
  (g:∀w:D3,((ES w.params).isNs D8&&(GR []:Jo JH).size==0,(ES w.params).objs.size,(ES w.params).nsMap D8 "__annotations__")=(DY,11,an))
  (pre:∀(w:D3) (o:JL),topGo Fu p w 11 an 12 ⟨ES w.params,GR [],boot_drawn,boot_toks,o⟩ (topStub p)=Y ((sT p rc w.params 0 15 187 o).abs,⟨denote Fu<|cE p,cE p,p0,B0⟩))
  (blk:∀(w:D3) (o:JL),segRun Fu p w 11 an 1 1 (sT p rc w.params 0 15 187 o).abs (blockOf (Gq p) (ev p) (cE p) p0 B0)=Y (.next,(sT p rc w.params 0 15 187 o).abs,cE p,p0))
  (ch:Ch p rc m b h 0 15 187 p0 M) (le:Nat.ble (12+(1+M)) N=DY)
  (c:∀w:D3,(λo=>((staticsOk (GJ p.main.body) (ES w.params) (hp p rc m b w.params)&&namesBound p (hp p rc m b w.params)&&gensDone ⟨hp p rc m b w.params,#[],{},h,o⟩&&laidKept (ES w.params) (hp p rc m b w.params)),
    openSeen q a (GJ p.main.body) Xt DY ⟨hp p rc m b w.params,#[],{},h,o⟩,j ⟨hp p rc m b w.params,#[],{},h,o⟩))=λ_=>(DY,openGood q a,i w)):LeftO p q a Xt j i N:=
 LeftO.of_pieces (H₀:=ES) (H₁:=hp p rc m b) (gs₁:=#[]) (d₁:={}) (k₁:=h) (boot_open e n f) g
  (λw o=>go_top (pre w o)<|piece_block (blk w o) (by have x:=ch w o;rw[Ex,<- r] at x;exact x)) le c
noncomputable def cb (a:Jj)(j:O):Jj:=match a with
|.ClassDef _ _ _ b _ _ _ _ _ _ _=>b.getD j a
|_=>a
noncomputable def drec (e:Jj):PySem.DefRec:=match e with
|.FunctionDef n a b _ _ _ d _ _ c=>⟨n,a,b,d,c⟩
|_=>⟨default,default,[],default,default⟩
theorem ek {a:Type}:∀(l:U a) (i:O),(odd l).1[i]?=l[2 * i]?/\(odd l).2[i]?=l[2 * i+1]?
|[],i=>by simp[odd]
| x::l,i=>by
 refine⟨?_,?_⟩
 .cases i with
  |zero=>simp[odd]
  |succ j=>rw[show 2 * (j+1)=2 * j+1+1 by lia];simp only[odd,E8];exact(ek l j).2
 .simp only[odd,E8];exact(ek l i).1
theorem lS {a:Type}:∀(l:U a),(odd l).1.length=(l.length+1) / 2/\(odd l).2.length=l.length / 2
|[]=>by simp[odd]
|x::l=>by have h:=lS l;simp only[odd,Ef,h.1,h.2];exact⟨by lia,trivial⟩
theorem jR:∀(k:O) (l:U Obj) (a:O),l.length<2 ^ k->(bt k l).get a=l[a]?
|0,l,a,h=>by have:l=[]:=List.length_eq_zero_iff.mp (by simpa using h);subst this;simp[bt,BT.get]
|k+1,[],a,h=>by simp[bt,BT.get]
| k+1,x::l,a,h=>by
 have e:2 ^ (k+1)=2 * 2 ^ k:=by rw[Nat.pow_succ];lia
 have f:=lS l;simp only[Ef] at h;unfold bt;rw[BT.get_node];by_cases c:a=0
 .simp[c]
 .rw [Jd c];by_cases d:a % 2=1
  .rw [Jc d,jR k _ _<|by lia,(ek l<|a / 2).1];obtain⟨b,rfl⟩:∃b,a=b+1:=⟨a-1,by lia⟩;rw[E8];congr 1;lia
  .rw [Jd d,jR k _ _<|by lia,(ek l<|a / 2-1).2];obtain⟨b,rfl⟩:∃b,a=b+1:=⟨a-1,by lia⟩;rw[E8];congr 1;lia
def lL (p:I9)(rc:U Rc)(m:O)(P:Ei):U Obj:=os P<|rs P<|(p.main.body.zip rc).take m
def kK (p:I9)(rc:U Rc)(m:O)(as:U IY)(P:Ei):Frag:=as.map λa=>(a,(lL p rc m P).getD a default)
noncomputable def okO:B Obj->IZ
|some ⟨_,_,.freed,_⟩=>DX
|some _=>DY
|none=>DX
theorem kS {p:I9}{rc:U Rc}{m:O}{P:Ei}{a:IY}{o:Obj}:∀{as:U IY},(kK p rc m as P).lookup a=Y o->a∈as/\o=(lL p rc m P).getD a default
|[],h=>by simp[kK] at h
| b::as,h=>by
 unfold kK at h;rw[Eo,Fc] at h;by_cases e:a=b
 .subst e;rw[Jr] at h;exact⟨Ek ..,(EC h).symm⟩
 .rw [Jy e] at h;have x:=kS (as:=as) h;exact⟨Em _ x.1,x.2⟩
def hkk (p:I9)(rc:U Rc)(m n:O):Hook where
 α:=Jo Obj
 obs s:=s.heap.objs
 val w:=(hp p rc m n w.params).objs
 says w h:=∀a o,(hp p rc m n w.params).get? a=Y o->h.get? a=Y o
 of w s e a o x:=by unfold Heap.get? at *;rw[e];exact x
 keeps w h h' X k a o x:=k _ _<|X a o x
theorem CO {p:I9}{rc:U Rc}{m n:O}{as:U IY}{w:D3}{h:Jf}(l:Nat.blt (lL p rc m w.params).length 4096=DY)(k:(as.all λa=>Nat.blt a n&&okO (lL p rc m w.params)[a]?)=DY)
  (b:(hkk p rc m n).says w h):(kK p rc m as w.params).In h:=λa o e=>by
 obtain⟨e1,e2⟩:=kS e;obtain⟨f,c⟩:=El.mp<|F8.mp k a e1;refine b a o ?_;have i:a<n:=Fd f;have j:(lL p rc m w.params).length<2 ^ 12:=Fd l;have g:=jR 12 (lL p rc m w.params) a j;unfold hp Heap.get?;rw[absHeap_at,Jc i];show(match Y (((bt 12<|lL p rc m w.params).get a).getD default) with|some ⟨_,_,.freed,_⟩=>J|o=>o)=Y o;rw[g];rw[IH] at e2;rw[<- e2];cases q:(lL p rc m w.params)[a]? with
 |none=>rw[q] at c;cases c
 |some x=>rw[q] at c e2;have e3:o=x:=e2;subst e3;obtain⟨_,_,d,_⟩:=o;cases d<;>first|rfl|cases c
noncomputable def pmO:B Obj->L
|some ⟨_,_,.func f,_⟩=>f.pyModule
|_=>.none
def rfO:B (B L)->O
|some (Y (.ref a))=>a
|_=>0
noncomputable def tkO:B (B L)->O
|some (Y (.int _ t))=>t
|some (Y (.str _ t))=>t
|_=>0
theorem raw_mk {K:Frag}{x:Str}{a:Jj}{dV:L}(b:JG K D8 x=Y (Y<|.ref<|rfO<|JG K D8 x))
  (c:K.lookup (rfO<|JG K D8 x)=Y ⟨.type "function",J,.func<|fnOf x x (L2.defArgs a) (L2.defBody a) (L2.defScope a) dV .none .none (pmO<|K.lookup<|rfO<|JG K D8 x) J (.ref<|rfO (JG K D8 x)-1) .none,#[]⟩)
  (d:codeIn K (.ref<|rfO (JG K D8 x)-1) x=DY) (e:keepIn K (.ref<|rfO<|JG K D8 x)=DY):MR.Raw K x a dV:=⟨_,_,_,_,_,_,_,_,_,_,b,c,d,e⟩
noncomputable def toV:L->L2.V
|.bool b=>.bl b
|.int i _=>.int i
|.str s _=>.str s
|.ref a=>.ref a
|_=>.non
noncomputable def okV:L->IZ
|.none=>DY
|.bool _=>DY
|.int _ _=>DY
|.str _ _=>DY
|.ref _=>DY
|_=>DX
theorem uP:∀{v:L},okV v=DY->L2.RelV (toV v) v
|.none,_=>rfl
|.bool _,_=>rfl
|.int _ _,_=>⟨_,rfl⟩
|.str _ _,_=>⟨_,rfl⟩
|.ref _,_=>rfl
|.ellipsis,h=>by cases h
|.notImplemented,h=>by cases h
|.float _ _,h=>by cases h
|.bytes _ _,h=>by cases h
|.type _,h=>by cases h
|.builtin _,h=>by cases h
noncomputable def eK (e:Jp):Str×O×L:=match e.key with
|.str k t=>(k,t,e.val)
|_=>("",0,e.val)
def tE:B Obj->U (Str×O×L)
|some o=>(ds o.data).map eK
|none=>[]
def tN:B Obj->O
|some o=>ep o.data
|none=>0
def enL (P:Ei)(l:U<|Str×O×L):U Jp:=l.map λe=>en P e.1 e.2.1 e.2.2
def tL (l:U<|Str×O×L):U (Str×L2.V):=l.map λe=>(e.1,toV e.2.2)
theorem iD {P:Ei}:∀l:U<|Str×O×L,KeysLit P<|enL P l
|[]=>trivial
|e::l=>⟨⟨_,_,rfl,rfl⟩,iD l⟩
theorem ja {P:Ei}:∀{l:U<|Str×O×L},(l.all λe=>okV e.2.2)=DY->PySem.Paired (λ(p:Str×L2.V) (e:Jp)=>(∃t,e.key=.str p.1 t)/\L2.RelV p.2 e.val) (tL l) (enL P l)
|[],_=>.nil
|e::l,h=>by rw[List.all_cons,El] at h;exact .cons ⟨⟨_,rfl⟩,uP h.1⟩<|ja h.2
theorem tab_mk {K:Frag}{w:D3}{x:Str}(a:JG K D8 x=Y (Y<|.ref<|rfO<|JG K D8 x))
  (b:K.lookup (rfO<|JG K D8 x)=Y (di (enL w.params<|tE<|K.lookup<|rfO<|JG K D8 x)<|tN<|K.lookup<|rfO<|JG K D8 x))
  (c:((tE<|K.lookup<|rfO<|JG K D8 x).all λe=>okV e.2.2)=DY) (d:(rfO (JG K D8 x)==EK)=DX):MR.TabRaw K w x (tL<|tE<|K.lookup<|rfO<|JG K D8 x):=
 ⟨_,_,_,a,b,iD _,ja c,d⟩
def y8 (K:Frag)(T:U<|Str×L2.V):U (Str×Str)->IZ
|[]=>DY
|e::r=>(match T.lookup e.1,JG K D8 e.2 with
 |some (.ref a),Y (Y (.ref b))=>Nat.beq a b
 |_,_=>DX)&&y8 K T r
theorem nam_of {K:Frag}{T:U<|Str×L2.V}:∀{l:U<|Str×Str},y8 K T l=DY->MR.NamL K T l
|[],_=>trivial
| e::r,h=>by
 unfold y8 at h;rw[El] at h;refine⟨?_,nam_of h.2⟩;have c:=h.1;split at c
 .rename_i a b d f;have e:=Nat.eq_of_beq_eq_true c;subst e;exact⟨_,d,f⟩
 .cases c
end TP

namespace MR
open PySem PySem.Spec PyProof.Rows L2 L3
theorem walkX {sx:Str}{C:M.Call}{ix k:O}{l:Hf}{q:I9}{c:U Str}{t:(Str->B L)->Jf->Prop}{j:D3->Jf->Prop}{d:DefRec}{K:Ei->D1}(hp:∀g:U I,g.length<=63->∃m bs,C ix [(.d,.scr g)]=.ok ((m,.bl DY),bs))(D:l.most=Y 63)(i:d.params.defaults=[])(G:Room k Fx)
  (A:∀(w:D3) (h:Jf),j w h->(K w.params).In h)
  (F:∀ (w:D3) (e:Str->B L) (o:IY) (h:Jf),(K w.params).In h->h.Ns D8 e->e d.name=Y (.ref o) ->
   ∃p:Ey,(∀(s:DZ) (u:L),Fy s p ⟨[u],[]⟩ [(sx,u)])/\∀b:Jf,(K w.params).In b->b.Ns D8 e->FnOk l.prog w (K w.params) e b CX0 k o p [sx] (spS (K w.params) C ix [])):
  Ic q c t j l.row.toRowW d [] (λf H=>Hh f H):=
 L2.walk_of (n:=63) (k:=k) (x:=sx) (CX:=λ_=>CX0) (sp:=λw=>spS (K w.params) C ix []) D (by decide) i G A F (λ_ _ a g r v y=>zu (hp g r) r v y) λ_ _ _ _ _ z=>z
theorem va {d:Str}{w:D3}{K:D1}{c:Str->B L}{st:Jj}{h:Jf}{n:IY}{pr:I9}{k:O}{o:Sp}(X:K.In h)(G:h.Ns D8 c)(l:c "law"=Y (.ref n))(r:Raw K "law" st .none)(y:∀(kV j m:L) (an:B IY) (g i:L) (s:DZ) (v:L),Fy s (E4 "law" "law" (defArgs st) (defBody st) (defScope st) .none kV j m an g i) ⟨[v],[]⟩ [(d,v)])
  (ok:∀f b,Fun K "law" "law" st f b->∀a,FnOk pr w K c a CX0 k f b [d] o):∃b:Ey,(∀(s:DZ) (v:L),Fy s b ⟨[v],[]⟩ [(d,v)])/\∀a:Jf,K.In a->a.Ns D8 c->FnOk pr w K c a CX0 k n b [d] o:=by
 obtain⟨f,z,A,D,kV,j,m,an,g,i,p,t,u,x⟩:=r;have e:=l.symm.trans<|FO X G p;cases e;exact⟨_,y kV j m an g i,λa _ _=>ok _ _ (qP (st:=st) t u x) a⟩
end MR


namespace L3
open PySem PySem.Spec PyProof.Rows L2
noncomputable abbrev eT1 (h:Jf)(a:IY):Jf:=h.push {cls:=.type "tuple_iterator",data:=.fields #[.ref a,.int 0 0]}
abbrev eT2 (h:Jf)(a:IY):Jf:=(eT1 h a).push {cls:=.type "enumerate",data:=.fields #[.none,.bool DX,.ref h.objs.size,JN 0,.none,.none]}
theorem yw {e:Type}{c:Prop}[Decidable c]{M:Model}{A:D9}{E:L->DZ->Prop}{s:DZ}{a b:Sem e}{Q:e->DZ->Prop}(f:Ja M A a Q E s)(g:Ja M A b Q E s):Ja M A (if c then a else b) Q E s:=by
 by_cases d:c
 .rw[Jc d];exact f
 .rw[Jd d];exact g
theorem iS (a:IY)(c:Jo L):
  Meets (Builtin.«enumerate.__new__» ⟨[.type "enumerate",.ref a],[]⟩) (λ_ R s=>s.heap.IsTuple a c/\R (.ok<|.ret<|.ref (eT1 s.heap a).objs.size) {s with heap:=eT2 s.heap a}):=
 .of_wp λprog w A R s h=>by
  obtain⟨hp,g,d,f,os⟩:=s;obtain⟨e,h⟩:=h;have b:=sub_enumerate;have e1:Heap.IsTuple (Shared.heap ⟨hp,g,d,f,os⟩) a c:=e
  wp_walk using Ft e1
  refine wpAny_stack λi _ _ _=>D6 ?_;show Ja _ _ (if _=DY then(pure (Value.ref a,(none:B L)) >>= _) else(pure (Value.ref a,(none:B L)) >>= _)) _ _ _;refine yw ?_ ?_
  .refine D2 (D6 ?_);show Ja _ _ (pyIter (.ref a) >>= _) _ _ _
   wp_walk using Ft e1
   exact⟨_,rfl,h⟩
  .refine D2 (D6 ?_);show Ja _ _ (pyIter (.ref a) >>= _) _ _ _
   wp_walk using Ft e1
   exact⟨_,rfl,h⟩
theorem ki {prog:I9}{w:D3}{A:D9}{E:L->DZ->Prop}{s:DZ}{a:IY}{e:Jo L}{Q:L->DZ->Prop}(g:s.heap.IsTuple a e)
  (h:∀b,IsEnum b (s.heap.objs.size+1) s.heap.objs.size 0 .none->b.IsTupleIter s.heap.objs.size a 0->(∀c o,s.heap.get? c=Y o->b.get? c=Y o)->Q (.ref<|s.heap.objs.size+1) {s with heap:=b}):
  Ja (D4 prog w) A (call (.type "enumerate") [.ref a]) Q E s:=by
 refine callType_new F.called_enumerate (by decide) (F.typeCall_enumerate_1 _) (F.newCall_enumerate_1 _) (λobj=>F.args_object_init_2 obj _) F.entry_enumerate_new (iS a e) ⟨g,?_⟩;have e1:(eT1 s.heap a).objs.size=s.heap.objs.size+1:=Heap.size_push ..;have d:(eT2 s.heap a).get? (eT1 s.heap a).objs.size=Y _:=Heap.get?_push_size _ rfl;have f:(eT2 s.heap a).get? s.heap.objs.size=Y _:=Heap.get?_push_of_some _<|Heap.get?_push_size _ rfl;show _/\_;rw[e1] at d;rw[e1];exact⟨⟨_,d,rfl⟩,h _ d ⟨_,f,rfl,rfl⟩ λc o x=>Heap.get?_push_of_some _<|Heap.get?_push_of_some _ x⟩
theorem m8 {prog:I9}{w:D3}{A:D9}(p:A.handled=J)(b t:IY)(f:t≠b)(d:Jo L):Draws prog w A b [b,t] d.size (λi v=>d[i]?=Y v) (λi h=>h.IsTupleIter b t i/\h.IsTuple t d) where
 live:=λi h a=>let ⟨o,e,_⟩:=a.1;⟨o,e⟩
 frame:=λi h c a k=>⟨a.1.at λo e=>k b (by simp) o e,by obtain⟨o,e,r⟩:=a.2;exact⟨o,k t (by simp) o e,r⟩⟩
 item:=λi s Q E j a q=>by refine fm a.1 a.2 (x:=d[i]) (IE j) λc g l=>q _ c s.toks (IE j) ⟨g,?_⟩ l;obtain⟨o,e,r⟩:=a.2;exact⟨o,(l.2 t f).trans e,r⟩
 done:=λs Q E a q=>dJ p a.1 a.2 (HW<|D7 _) λc e m n=>q c e m n
theorem lY {prog:I9}{w:D3}{A:D9}(j:A.handled=J)(b t:IY)(n:O)(d:Jo L)(m:d.size<=n):Draws prog w A b [b,t] n (λ_ _=>Jh) (λi h=>i=n/\h.IsTupleIter b t n/\h.IsTuple t d) where
 live:=λi h a=>let ⟨o,e,_⟩:=a.2.1;⟨o,e⟩
 frame:=λi h c a k=>⟨a.1,a.2.1.at λo e=>k b (by simp) o e,by obtain⟨o,e,r⟩:=a.2.2;exact⟨o,k t (by simp) o e,r⟩⟩
 item:=λi s Q E l a q=>Jb a.1<|Eh l
 done:=λs Q E a q=>dJ j a.2.1 a.2.2 (HW m) λc e f g=>q c e f g
def AW (K:D1)(a:IY):It:=
 ⟨fun i H=>∃ b x,SqT K H a b/\b[i]?=Y x,
  λi H v c=>∃p x,v=.ref p/\H p=J/\c=upd H p (.tup [.int (i:I),x])/\∀b,SqT K H a b->b[i]?=Y x,
  λi H=>∃b,SqT K H a b/\b.length<=i⟩
theorem kh {P:I9}{w:D3}{K:D1}{es:U Je}{kt:O}{pt:Pos}{e l a:IY}(r:e≠l)(hae:a≠e)(hai:a≠l):j6 P w K (.Tuple es kt pt) (AW K a) [e,l] e (λi h=>(∃j,IsEnum h e l (i:I) j)/\h.IsTupleIter l a i) where
 mem:=by simp
 obj:=λi h n b g=>by
  obtain⟨⟨j,m⟩,p⟩:=n;simp only[Ee,ED,Jq] at g;rcases g with rfl|rfl
  .exact⟨_,m,λv y=>by cases y⟩
  .obtain ⟨o,M,_,d⟩:=p;exact⟨o,M,λv y=>by rw[d] at y;cases y⟩
 keep:=λi h D n k=>by obtain⟨⟨j,m⟩,p⟩:=n;exact⟨⟨j,k e (by simp) _ m⟩,p.at λo z=>k l (by simp) o z⟩
 item:=by
  intro X Z hw Q hc i u s σ H E c F n hg;subst Z hw Q;obtain⟨xs,x,G,hx⟩:=hg;obtain⟨⟨j,m⟩,p⟩:=n;obtain⟨f,v1,o1,z1⟩:=c.tuple G;obtain⟨u1,e1,r1⟩:=v1.get hx
  have lt:∀b∈[e,l],b<s.heap.objs.size:=λb g=>by
   simp only[Ee,ED,Jq] at g;rcases g with rfl|rfl
   .exact Heap.lt_size m
   .obtain⟨o,M,_⟩:=p;exact Heap.lt_size M
  have hit:i<f.toArray.size:=by have:=(EM.mp e1).1;simpa using this
  refine wpAny_pyNext_enum_itemD (m8 (A:=X.A.in1) (c.ok.hd hc) l a hai f.toArray) m ⟨p,(show s.heap.IsTuple a f.toArray from o1)⟩ hit r (by simp only[Ee,ED,Jq,not_or];exact⟨r,EB hae⟩) λx' D tk px y1 y2 y3 y4 y5=>⟨_,rfl,?_⟩
  have ex:x'=u1:=by
   have:f[i]?=Y x':=by simpa using px
   rw[e1] at this;cases this;rfl
  subst ex;refine Jv (s:={s with heap:=D,toks:=tk+1}) y1 λN w1 sb=>?_;have t:Heap.SameBut e D N:=sb;have nz:s.heap.objs.size≠e:=Fi (lt e<|by simp);have kk:∀b o,b ∉ [e,l]->s.heap.get? b=Y o->N.get? b=Y o:=λb o g z=>by simp only[Ee,ED,Jq,not_or] at g;exact(t.2 b g.1).trans<|y5 b o g.1 g.2 z
  have tp:Jz N s.heap.objs.size [.int (i:I) tk,x'].toArray:=⟨_,(t.2 _ nz).trans y3,rfl,_,rfl⟩
  refine⟨.ref s.heap.objs.size,upd H s.heap.objs.size<|.tup [.int (i:I),x],bE (s:=s) (t':=tk+1) c F kk (D7 _) (by show 2<=sizeLine;decide) (.cons ⟨_,rfl⟩<|.cons r1 .nil) tp,rfl,
   ⟨_,x,rfl,c.fresh,rfl,λzs hz=>by rw[c.tuple_inj hz G];exact hx⟩,?_,λb g=>?_⟩
  .exact⟨⟨_,w1⟩,y2.1.at λo z=>(t.2 _<|EB r).trans z⟩
  .rw[ag<|Eh<|lt b g];exact(F b g).1
 done:=by
  intro X Z hw Q hc i u s σ H E c F n hg;subst Z hw Q;obtain⟨xs,G,hl⟩:=hg;obtain⟨⟨j,m⟩,p⟩:=n;obtain⟨f,v1,o1,z1⟩:=c.tuple G;have l1:=v1.length;have l2:f.toArray.size<=i:=by simp;lia
  refine wpAny_pyNext_enum_endD (lY (A:=X.A.in1) (c.ok.hd hc) l a i f.toArray l2) m ⟨rfl,p,(show s.heap.IsTuple a f.toArray from o1)⟩ λD eb=>⟨rfl,cX (t':=s.toks) c F λb o g z=>eb b o (λy=>g<|by simp[y]) z⟩
 self:=λ_ _ _ _ _ n h=>by obtain⟨⟨j,m⟩,_⟩:=n;exact GL m h
def qA (K:D1)(c:TA):TI:=λf H R=>c f H λd b=>∃a,d=[.ref a]/\(∃e,SqT K b a e)/\R (AW K a) b
theorem oY {X:Cx}{a:Je}{v:TA}{p i pt:Pos}{x:U Je}{M:O}(A:Gl X "enumerate")(D:X.mg "enumerate"=J)(z:PA X [a] v)(F:D5 [a] X.env=[(DX,Jl a X.env)]:=by rfl):
  PI X (.Tuple x M pt) (.Call (.Name "enumerate" p) [a] [] i) (qA X.K v):=by
 intro g s Z H R c h;refine Call_<|cY c A D boot_enumerate<|GD (thn (z i g s Z H _ c h) λus j ⟨vs,w,k,P,l⟩=>?_) F rfl;obtain⟨a,rfl,⟨xs,n⟩,q⟩:=l;cases P with
 | cons r Q =>
  cases Q;cases r;obtain⟨m,v1,u,z1⟩:=k.tuple n;have f:a<j.heap.objs.size:=by obtain⟨o,e,_⟩:=u;exact Heap.lt_size e
  refine ki (show j.heap.IsTuple a m.toArray from u) λy l N G=>?_;refine GL (s:={j with heap:=y}) l ?_;refine⟨_,_,_,_,w,rfl,k.kept (t':=j.toks) G,kh (Iv _) (Eh<|Nat.lt_succ_of_lt f)<|Eh f,⟨⟨_,l⟩,N⟩,λb t=>?_,q⟩;have d:j.heap.objs.size<=b:=by simp only[Ee,ED,Jq] at t;rcases t with e|e<;>(rw[e];first|exact Gw _ _|exact D7 _)
  exact k.fpOk d<|k.hok.fresh d
end L3
namespace MR
open PySem PySem.Spec PyProof.Rows L2 L3
section
variable {X:Cx}{sf sg:O->B O}{C:M.Call}{pos p p2 p3:Pos}{ea eb ec:Je}{a b c:M.E}{h:IZ}{n:O}{io:U O}{K:D1}
theorem uL {e:M.E}(F:L2.St)(H:Hp)(R:It->Hp->Prop)(h:wI K sf C 2 .enmT [e] F H R):qA K (wL K sf C [e]) F H R:=by
 obtain⟨pv,Z,N,η,ws,v,ts,A,ev,D,k⟩:=h;refine⟨pv,Z,N,η,ws,v,A,ev,λvs Z' P u G f r s=>?_⟩;obtain⟨⟨m,a⟩,η1,us,e1,e2,rfl⟩:=ax ev;cases e2;obtain⟨x,rfl,r1⟩:=cJ rfl r;obtain⟨o,rfl⟩:∃o,a=.tup o:=by cases a<;>first|exact⟨_,rfl⟩|cases D
 cases D;obtain⟨a,t,rfl,q,l,p⟩:=Rep.sh r1;have l1:=p.length;refine⟨a,rfl,⟨t,q⟩,k _ _ P u f.freeze (aS f.own s) ⟨λw i s g=>?_,λw i s g=>?_,by rw[aV];lia⟩ λw i x H1 s g y=>?_⟩
 .rw [aV] at g;exact⟨t,t[i]'(by lia),s.sqt q,by simp⟩
 .rw [aV] at g;exact⟨t,s.sqt q,by lia⟩
 .rw [aV] at g;obtain⟨Q,x1,rfl,hp,rfl,hx⟩:=y;obtain⟨x',j,rx⟩:=p.get (show o[i]?=Y o[i] by simp);rw[hx t<|s.sqt q] at j;cases j;refine⟨Q,.int i,x1,(.d,.int ((0+i:O):I)),(.s,o[i]),rfl,jH hp,.inl<|.inl ah,dC<|by simp,?_,rx.sany.keep s (λ_ z=>z) λ_ _ z=>z.elim⟩;show V.int (i:I)=V.int ((0+i:O):I);rw[Gz]
theorem zo {e:U Je}{g:O}{pt p:Pos}(hm:X.mg "enumerate"=J)(f:Gl X "enumerate":=by rfl)(ha:SE X sf C ea a)(d:D5 [ea] X.env=[(DX,Jl ea X.env)]:=by rfl):PI X (.Tuple e g pt) (.Call (.Name "enumerate" p) [ea] [] pos) (wI X.K sf C 2 .enmT [a]):=iV (oY f hm (slc ha sl0 d) d) uL
end
end MR

namespace L3
open PySem PySem.Spec PyProof.Rows L2
theorem DP {prog:I9}{w:D3}{A:D9}{E:L->DZ->Prop}{s:DZ}{t b:IY}{l:U L}{Q:L->DZ->Prop}(r:Jz s.heap t ([]:U L).toArray)(p:Jz s.heap b l.toArray)(h:Q (.ref b) s):Ja (D4 prog w) A (E1 .Add (.ref t)<|.ref b) Q E s:=by
 obtain⟨⟨m,o,i,v⟩,ho,j,n,k⟩:=id r;obtain⟨⟨g,e,data2,f⟩,d,a,u,c⟩:=id p;simp only at j k a c;subst j k a c
 exact JI ⟨_,ho,rfl⟩ ⟨_,d,rfl⟩ G9 JC Hw Hj (Hl _ _)
  (tuple_addW0 t b ([]:U L).toArray l.toArray n u o e v f rfl) ⟨ho,d,h⟩
def v8 (K:D1):R2:=λx y H Q=>∃a b e f,x=.ref a/\y=.ref b/\SqT K H a e/\SqT K H b f/\e.length+f.length<=sizeLine/\∀v d,Same H d->(∃c,v=.ref c/\SqT K d c (e++f))->Q v d
theorem uR {X:Cx}:OpR X (E1 .Add) (v8 X.K):=λd s t H x y v u Q c j k h=>by
 obtain⟨a,b,l,r,e1,e2,g,e,m,q⟩:=h;by_cases hx:l=[]
 .subst hx e1 e2;cases j;cases k;obtain⟨f,p,n,_⟩:=c.tuple g;obtain⟨i,w,o,_⟩:=c.tuple e;have:f=[]:=by cases p;rfl
  subst this;exact DP n o ⟨.ref b,H,c,rfl,q _ _ (Same.refl _) ⟨b,rfl,e⟩⟩
 .exact lA d s t H x y v u Q c j k ⟨a,b,l,r,e1,e2,g,e,hx,m,q⟩
end L3
namespace MR
open PySem PySem.Spec PyProof.Rows L2 L3
section
variable {X:Cx}{sf sg:O->B O}{C:M.Call}{pos p p2 p3:Pos}{ea eb ec:Je}{a b c:M.E}{h:IZ}{n:O}{io:U O}{K:D1}
theorem nH:Loc K 2 .catT h λg H Q=>∀x y,g=[x,y]->v8 K x y H Q:=by
 intro ws w g Z H G Q hn e r P za k x y hx;subst hx;obtain⟨⟨m,a⟩,⟨n,b⟩,rfl⟩:=fv r.length.symm;obtain⟨G1,G2,w1,w2,d,r1,r2⟩:=cn r;cases a with
 | tup t =>
  cases b with
  | tup u =>
   have i:(if M.fits (t.length+u.length)=DY then Y ((.s,.tup (t++u)):M.W) else J)=Y w:=e;split at i
   .rename_i A;cases i;obtain⟨a,g,rfl,F,hl,p⟩:=b0 r1;obtain⟨b,ys,rfl,l,D,p2⟩:=b0 r2;have o:=bH A;have e1:=p.length;have e2:=p2.length;refine⟨a,b,g,ys,rfl,rfl,F,l,br (by lia),λv H' f N=>eU (m:=.s) (G':=no) P (λ_ z=>z.elim) (by rw[Er];lia) (RepL.append (G1:=no) (G2:=no) (λ_ z=>z) (λ_ z=>z) (λ_ z _=>z) ((RepL.sh p).zmono λb j=>?_) ((RepL.sh p2).zmono λb j=>?_)) k f N⟩
    .exact j.imp id λz=>⟨w1 b z,λq=>q⟩
    .exact j.imp id λz=>⟨w2 b z,λq=>q⟩
   .cases i
  |_=>cases e
 |_=>cases e
theorem cc (d:SE X sf C ea a)(e:SE X sf C eb b):SE X sf C (.BinOp ea .Add eb pos) (.op .catT h [a,b]):=aB (jl uR d e)<|aX nH
theorem ud {Z:Fp}{H:Hp}{G:Fp}{Q:VK}{p:IY}(e:Own Z H G)(f:∀a,Z a->H a≠J)(k:Out K Z H G (.d,.dct [] []) Q)(hp:H p=J):Q (.ref p) (upd H p<|.dK []):=by refine k _ Z _ (λa=>a=p) ⟨p,[],rfl,EJ _,⟨rfl,ah⟩,⟨List.nodup_nil,λ_ z=>nomatch z⟩,rfl,rfl⟩ ?_<|c8 hp e (λa h=>.inr h) Z (λ_ z=>z) λ_ z=>.inl z;rintro a rfl;exact⟨λz=>f a z hp,.inr [],ah⟩
theorem rV (e:L2.St)(H:Hp)(Q:VK)(j:wE K sf C (.op .dnew h []) e H Q):qm e H Q:=by obtain⟨pv,Z,d,l,w,m,A,ev,k⟩:=j;obtain⟨r,g,i⟩:=b7 ev;cases g;cases i;intro p hp;have f:At K ⟨sf,pv⟩ e Z H d l no:=A;have o:=bL (F:=tot d) f ((Step.refl Z H<|tot d).mono (λ_ z=>z) λ_ z=>z.elim id λq=>q.elim) k;exact ud bA A.gd.zal o hp
theorem AF:SE X sf C (.Dict [] [] pos) (.op .dnew h []):=aB oS rV
end
end MR


namespace MR
open L2 L3 M
open PySem (Addr Str sizeLine)
section
variable {K:D1}{Wx:L2.St->VK}{sl:Cf}{sf sg:O->B O}{C:Call}{σ σ2:L2.St}{Z Z' Z1:Fp}{H H' H1:Hp}{Fs Fs' Fs1:Fps}{η η' η1 ηb:Env}{G G' G1 R F F':Fp}{tg is vs ls io:U O}{pv val:O->B V}{D:bw}
theorem sr {Z:Fp}{H:Hp}{G:Fp}{a:IY}{o:HO}{m:Md}(b:m≠.s)(h:G a/\H a=Y o):DctR Z H G a o m:=by
 cases m with
 |s=>exact Jb rfl b
 |d=>exact h
 |o m=>exact h
theorem vb {i:O}{a:IY}{d:U<|I ⊕ Str}{vs':U T}{f:U V}{m':Md}(hm:m'≠.s)(A:At K ⟨sf,pv⟩ σ Z H Fs η G){w0:W}(hi:rd η i=Y w0)(ha:Fs i a)(hx:∀j,sf i=Y j->σ[j]?=Y (Y<|.ref a))(hl:d.length<=LIM)(hnd:d.Nodup/\∀k∈d,kOk k=DY)(hvl:vs'.length=d.length)(hpv:∀u,pv i=Y u->V.ref a=u)
  (hg:∀b,G' b->(Fs i b\/G b)/\b≠a) (hR:∀b,R b->(Fs i b\/G b)/\b≠a) (hRG:∀b,R b->¬G' b) (p:RepL K (λb=>Z b\/((Fs i b\/G b)/\b≠a/\¬G' b/\¬R b)) H (dmd m') vs' f λ_=>Jh) {Q:Hp->Prop}
  (k:∀Z' Fs',At K ⟨sf,pv⟩ σ Z' (upd H a<|.dK<|mkD d f) Fs' (M.put η i (m',.dct d vs')) R->Step Z H (λb=>tot Fs b\/G b) Z' (upd H a<|.dK<|mkD d f) (λb=>tot Fs' b\/R b)->(∀{m t v},Rep K (λb=>Z b\/((Fs i b\/G b)/\b≠a/\¬G' b/\¬R b)) H m t v R->Rep K Z' (upd H a<|.dK<|mkD d f) m t v R)->Q (upd H a<|.dK<|mkD d f)):Q (upd H a<|.dK<|mkD d f):=by
 have N:tot Fs a:=⟨i,ha⟩;obtain⟨nza,ys,hya⟩:=A.gd.own a N;have nGa:¬G a:=λq=>A.dis a q N
 have x:∀b,(Z b\/((Fs i b\/G b)/\b≠a/\¬G' b/\¬R b))->b≠a:=λb h z=>by
  subst z;rcases h with h|h
  .exact nza h
  .exact h.2.1 rfl
 have keep:∀b o,H b=Y o->b≠a->upd H a (.dK (mkD d f)) b=Y o:=λb o e g=>by rw[ag g];exact e
 have neT:∀b xs,H b=Y (.tup xs)->b≠a:=λb xs e z=>by rw[z,hya] at e;exact ky e.symm
 have neF:∀b o u,H b=Y (.frz o u)->b≠a:=λb o u e z=>by rw[z,hya] at e;exact ik e.symm
 have stay:∀{c:Fp},(∀b,c b->b≠a)->Stay c H (upd H a (.dK (mkD d f))):=λ{c} hY=>⟨λb o g e=>keep b o e<|hY b g,λb xs e=>by
  rcases e with e|⟨u,e⟩
  .exact .inl (keep b _ e<|neT b xs e)
  .exact .inr ⟨u,keep b _ e<|neF b u _ e⟩,λb o u e=>keep b _ e<|neF b o u e⟩
 have al:∀b,H b≠J->upd H a (.dK (mkD d f)) b≠none:=λb h=>by
  by_cases e:b=a
  .rw[e,ah];simp
  .rw[ag e];exact h
 have P:∀b,(Z b\/((Fs i b\/G b)/\b≠a/\¬G' b/\¬R b))->H b≠none:=λb h=>by
  rcases h with h|⟨h|h,_⟩
  .exact A.gd.zal b h
  .obtain⟨_,zs,e⟩:=A.gd.own b ⟨i,h⟩;rw[e];simp
  .obtain⟨_,zs,e⟩:=A.own b h;rw[e];simp
 have listAt:∀b,(tot Fs b\/G b)->∃zs:OO,upd H a (.dK (mkD d f)) b=Y zs.ho:=λb h=>by
  by_cases e:b=a
  .exact⟨(.inr<|mkD d f),by rw[e,ah];rfl⟩
  .rcases h with h | h
   .obtain⟨_,zs,q⟩:=A.gd.own b h;exact⟨zs,by rw[ag e];exact q⟩
   .obtain⟨_,zs,q⟩:=A.own b h;exact⟨zs,by rw[ag e];exact q⟩
 have nZ:∀b,(Fs i b\/G b)->¬Z b:=λb h z=>h.elim (λy=>(A.gd.own b ⟨i,y⟩).1 z) λy=>(A.own b y).1 z
 have dG:∀b,tot (hE Fs i λb=>G' b\/b=a) b->(∃j,j≠i/\Fs j b)\/G' b\/b=a:=λb h=>by
  obtain⟨j,h|h⟩:=h
  .exact .inr h.2
  .exact .inl ⟨j,h⟩
 refine k (λb=>Z b\/((Fs i b\/G b)/\b≠a/\¬G' b/\¬R b)) (hE Fs i λb=>G' b\/b=a) ⟨⟨λb h=>⟨λz=>?_,?_⟩,λj l b w hk=>?_,λb h=>al b<|P b h⟩,λl m t e=>?_,λb h=>⟨λz=>?_,listAt b<|(hR b h).1.imp (λz=>⟨i,z⟩) id⟩,λb h q=>?_,A.lk,A.ln⟩ ⟨λb o e n=>keep b o e λz=>n<|.inl<|z ▸ N,λb h=>.inl h,λb h=>h.imp id λq=>.inl<|q.1.imp (λz=>⟨i,z⟩) id,λb h=>?_,al,λ_ b h=>al b<|P b h⟩ λ{m t v} r=>r.keep (stay x) (λ_ z=>z) λb o g e=>keep b o e (hR b g).2
 .rcases dG b h with ⟨j,w,q⟩ | q | q
  .rcases z with z | ⟨z | z,_⟩
   .exact(A.gd.own b ⟨j,q⟩).1 z
   .exact w (A.gd.dis j i b q z)
   .exact A.dis b z ⟨j,q⟩
  .rcases z with z | z
   .exact nZ b (hg b q).1 z
   .exact z.2.2.1 q
  .exact x b z q
 .rcases dG b h with ⟨j,w,q⟩ | q | q
  .exact listAt b (.inl ⟨j,q⟩)
  .exact listAt b ((hg b q).1.imp (λz=>⟨i,z⟩) id)
  .exact⟨(.inr<|mkD d f),by rw[q,ah];rfl⟩
 .have key:∀ {j:O},(G' b\/b=a)->Fs j b->j=i:=fun {j} h q=>by
   rcases h with h|h
   .rcases (hg b h).1 with y | y
    .exact A.gd.dis j i b q y
    .exact Jb ⟨j,q⟩ (A.dis b y)
   .rw[h] at q;exact A.gd.dis j i a q ha
  rcases w with⟨rfl,w⟩|⟨nj,w⟩
  .rcases hk with ⟨rfl,_⟩ | ⟨nk,hk⟩
   .rfl
   .exact Jb (key w hk) nk
  .rcases hk with ⟨rfl,hk⟩ | ⟨nk,hk⟩
   .exact Jb (key hk w) nj
   .exact A.gd.dis j l b w hk
 .rw [a8] at e;split at e
  .rename_i hc;obtain⟨rfl,_⟩:=hc;cases e;refine⟨.ref a,⟨a,f,rfl,hl,sr hm ⟨.inl ⟨rfl,.inr rfl⟩,ah⟩,hnd,hvl,?_⟩,hx,hpv⟩;exact p.keep (stay x) (λ_ z=>z) λb o g e=>g.elim
  .rename_i hc;have hl':l≠i:=λz=>hc ⟨z,cB hi⟩;obtain⟨v,r,h⟩:=A.env l m t e;have nea:∀b,Fs l b->b≠a:=λb q z=>hl'<|A.gd.dis l i a (z ▸ q) ha;exact⟨v,((r.keep (stay λb g z=>nza<|z ▸ g) (λ_ z=>z) λb o g e=>keep b o e<|nea b g).zmono λb h=>.inl h).mono λb h=>.inr ⟨hl',h⟩,h⟩
 .rcases z with z | z
  .exact nZ b (hR b h).1 z
  .exact z.2.2.2 h
 .rcases dG b q with ⟨j,w,y⟩ | y | y
  .rcases (hR b h).1 with z | z
   .exact w (A.gd.dis j i b y z)
   .exact A.dis b z ⟨j,y⟩
  .exact hRG b h y
  .exact(hR b h).2 y
 .rcases h with h | h
  .rcases dG b h with ⟨j,_,q⟩ | q | q
   .exact .inl (.inl ⟨j,q⟩)
   .exact .inl ((hg b q).1.imp (λz=>⟨i,z⟩) id)
   .exact .inl (.inl<|q ▸ N)
  .exact .inl ((hR b h).1.imp (λz=>⟨i,z⟩) id)
theorem uc {m:Md}{b:U<|I ⊕ Str}{vs:U T}{v:V}(g:m≠.s)(r:Rep K Z H m (.dct b vs) v G):∃a c,v=.ref a/\b.length<=LIM/\G a/\H a=Y (.dK<|mkD b c)/\(b.Nodup/\∀k∈b,kOk k=DY)/\vs.length=b.length/\RepL K Z H (dmd m) vs c (λ_=>Jh):=by
 obtain⟨a,c,e,l,q,n,f,p⟩:=r;cases m with
 |s=>exact Jb rfl g
 |d=>exact⟨a,c,e,l,q.1,q.2,n,f,p⟩
 |o m=>exact⟨a,c,e,l,q.1,q.2,n,f,p⟩
def kT:I ⊕ Str->T
|.inl n=>.int n
|.inr x=>.str x
theorem iZ {k:T}{q:I ⊕ Str}(h:keyT k=Y q):k=kT q:=by
 cases k with
 |int n=>cases h;rfl
 |str x=>cases h;rfl
 |_=>cases h
theorem nX {m:Md}{q:I ⊕ Str}{v:V}(r:Rep K Z H m (kT q) v G):v=kV q/\kOk q=true:=by
 cases q with
 |inl n=>exact⟨r,rfl⟩
 |inr x=>exact⟨r.1,r.2⟩
noncomputable def kA (k:I ⊕ Str)(y:V):U (I ⊕ Str)->U V->U V
|[],_=>[y]
|z::b,x::a=>if z=k then y::a else x::kA k y b a
|_::_,[]=>[]
theorem iM (k:I ⊕ Str)(t:T):∀(c:U<|I ⊕ Str) (vs:U T),vs.length=c.length->(aQ k t c vs).2.length=(aQ k t c vs).1.length/\(aQ k t c vs).1.length<=c.length+1
|[],[],_=>⟨rfl,D7 _⟩
|[],_::_,e=>by cases e
|_::_,[],e=>by cases e
| z::d,v::vs,e=>by
 unfold aQ;split
 .exact⟨e,Nat.le_succ _⟩
 .obtain ⟨a,b⟩:=iM k t d vs<|Fz e;exact⟨by rw[Ef,Ef,a],by rw[Ef,Ef];lia⟩
theorem eZ (k:I ⊕ Str)(t:T):∀(a:U<|I ⊕ Str) (vs:U T),vs.length=a.length->∀z,z∈(aQ k t a vs).1 ↔ z=k\/z∈a
|[],[],_,z=>by simp[aQ]
|[],_::_,e,_=>by cases e
|_::_,[],e,_=>by cases e
| y::c,v::vs,e,z=>by
 unfold aQ;split
 .rename_i b;subst b;simp
 .have:=eZ k t c vs (Fz e) z;rw[Ee,this,Ee];constructor
  .rintro (h | h | h)
   .exact .inr (.inl h)
   .exact .inl h
   .exact .inr (.inr h)
  .rintro (h | h | h)
   .exact .inr (.inl h)
   .exact .inl h
   .exact .inr (.inr h)
theorem eE (k:I ⊕ Str)(t:T):∀(a:U<|I ⊕ Str) (vs:U T),vs.length=a.length->a.Nodup->(aQ k t a vs).1.Nodup
|[],[],_,_=>by simp[aQ]
|[],_::_,e,_=>by cases e
|_::_,[],e,_=>by cases e
| y::b,v::vs,e,h=>by
 unfold aQ;split
 .exact h
 .rename_i f;obtain⟨c,d⟩:=Fm.mp h;refine Fm.mpr ⟨λq=>?_,eE k t b vs (Fz e) d⟩;rcases(eZ k t b vs (Fz e) y).mp q with q|q
  .exact f q
  .exact c q
theorem kZ (k:I ⊕ Str)(t:T)(y:V):∀(g:U<|I ⊕ Str) (vs:U T) (c:U V),vs.length=g.length->c.length=g.length->g.Nodup->cR (mkD g c) k y=mkD (aQ k t g vs).1 (kA k y g c)
|[],[],[],_,_,_=>rfl
|[],[],_::_,_,e,_=>by cases e
|[],_::_,_,e,_,_=>by cases e
|_::_,[],_,e,_,_=>by cases e
|_::_,_::_,[],_,e,_=>by cases e
| z::d,v::vs,x::c,e1,e2,n=>by
 obtain⟨l,m⟩:=Fm.mp n;have j:=kZ k t y d vs c (Fz e1) (Fz e2) m;unfold aQ kA;by_cases f:z=k
 .rw [Jc f,Jc f];subst f;have i:∀p∈mkD d c,p.1≠z:=λp hp q=>by obtain⟨a,b⟩:=p;have:=(G5 hp).1;have o:a=z:=q;rw[o] at this;exact l this
  show cR ((z,x)::mkD d c) z y=(z,y)::mkD d c;unfold cR;rw[Jc<|by simp];rw[Eo,Jc rfl];congr 1
  conv=>rhs;rw[<- Iw (mkD d c)]
  refine HV λp hp=>?_;rw[Jd<|i p hp];rfl
 .rw [Jd f,Jd f];show cR ((z,x)::mkD d c) k y=(z,x)::mkD (aQ k t d vs).1 (kA k y d c);rw[<- j];have h:¬(z=k):=f;unfold cR;rw[EE,Jn h,Ib];split
  .rw[Eo,Jd h]
  .rfl
end
end MR





namespace MR
open L2 L3 M
open PySem (Addr Str sizeLine)
section
variable {K:D1}{Wx:L2.St->VK}{sl:Cf}{sf sg:O->B O}{C:Call}{σ σ2:L2.St}{Z Z' Z1:Fp}{H H' H1:Hp}{Fs Fs' Fs1:Fps}{η η' η1 ηb:Env}{G G' G1 R F F':Fp}{tg is vs ls io:U O}{pv val:O->B V}{D:bw}
theorem lT {u j w r:W}(h:cz u j w=Y r):∃m c vs n k,u=(m,.dct c vs)/\j=(n,kT k)/\m≠.s/\c.length<LIM/\r=(.o .s,.dct (aQ k w.2 c vs).1 (aQ k w.2 c vs).2):=by
 obtain⟨m,t⟩:=u;obtain⟨n,k⟩:=j;obtain⟨p,x⟩:=w
 have g:∀c vs,((keyT k).bind λq=>if(decide (c.length<LIM))=DY then Y ((.o .s,.dct (aQ q x c vs).1 (aQ q x c vs).2):W) else J)=Y r->∃f,(n,k)=(n,kT f)/\c.length<LIM/\r=(.o .s,.dct (aQ f x c vs).1 (aQ f x c vs).2):=λc vs h=>by
  cases e:keyT k with
  |none=>rw[e] at h;cases h
  | some q =>
   rw[e] at h;have i:(if(decide (c.length<LIM))=DY then Y ((.o .s,.dct (aQ q x c vs).1 (aQ q x c vs).2):W) else J)=Y r:=h;split at i
   .rename_i l;cases i;exact⟨q,by rw[iZ e],Ji l,rfl⟩
   .cases i
 cases m<;>first|(cases h;done)|(cases t<;>try (cases h;done))
 .obtain ⟨f,a,b,d⟩:=g _ _ h;exact⟨.d,_,_,n,f,rfl,a,by simp,b,d⟩
 .obtain ⟨f,a,b,d⟩:=g _ _ h;exact⟨.o _,_,_,n,f,rfl,a,by simp,b,d⟩
theorem gc {k:I ⊕ Str}{t:T}{y:V}(g:Rep K Z H .s t y no):∀(d:U<|I ⊕ Str) (vs:U T) (c:U V),vs.length=d.length->RepL K Z H .s vs c (λ_=>Jh)->RepL K Z H .s (aQ k t d vs).2 (kA k y d c) (λ_=>Jh)
|[],[],c,_,r=>by cases r;exact⟨y,[],λ_=>Jh,λ_=>Jh,rfl,λ_ z=>z,λ_ z=>z,λ_ z=>z.elim,g,rfl⟩
|[],_::_,_,e,_=>by cases e
|_::_,[],_,e,_=>by cases e
| z::i,v::vs,c,e,⟨x,f,G1,j,l,m,h,n,p,q⟩=>by
 subst l;unfold aQ kA;by_cases b:z=k
 .rw [Jc b,Jc b];exact⟨y,f,λ_=>Jh,j,rfl,λ_ z=>z,h,λ_ z=>z.elim,g,q⟩
 .rw [Jd b,Jd b];exact⟨x,kA k y i f,G1,λ_=>Jh,rfl,m,λ_ z=>z,λa _ z=>z,p,gc g i vs f (Fz e)<|q.mono h⟩
theorem rW {x:M.X}{i j:O}{k e:E}(hs:sf i=Y j)(D:bw)(σ:L2.St)(H:Hp)(h:wS K Wx sf io C (.setS x i k e) D σ H):
  wE K sf C e σ H λy H1=>qU j σ H1 λo H1=>wE K sf C k σ H1 λz H2=>∃a Q q,o=.ref a/\z=kV q/\H2 a=Y (.dK Q)/\Q.length<sizeLine/\D.nx σ (upd H2 a<|.dK<|cR Q q y):=by
 obtain⟨pv,Z,Fs,η,N,A,f⟩:=h;obtain⟨⟨w,η1⟩,h2,h3⟩:=bq<|show Fin K Wx ⟨sf,pv⟩ Z H (tot Fs) D (Fl.of η (evX C x e η)<|lH i (evX C x k) η) from f;obtain⟨⟨kw,g⟩,h6,h7⟩:=bq<|show Fin K Wx ⟨sf,pv⟩ Z H (tot Fs) D (Fl.of η (evX C x k η1)<|kf i w) from h3;obtain⟨η3,t,h5⟩:=el<|show Fin K Wx ⟨sf,pv⟩ Z H (tot Fs) D (nxO g<|((rd g i).bind λu=>cz u kw w).map λu=>M.put g i u) from h7;refine jI (sl:=⟨sf,pv⟩) A h2 λy Z' H' Fs' G c r s=>?_;cases e1:rd g i with
 |none=>rw[e1] at t;cases t
 | some u1 =>
  rw[e1] at t;cases e2:cz u1 kw w with
  |none=>rw[show(Y u1).bind (λu=>cz u kw w)=cz u1 kw w from rfl,e2] at t;cases t
  | some r1 =>
   rw[show(Y u1).bind (λu=>cz u kw w)=cz u1 kw w from rfl,e2] at t;cases t;obtain⟨m,l,vs,n,P,rfl,rfl,hm,hlen,rfl⟩:=lT e2;have n1:rd η1 i≠none:=λz=>by rw[zE h6 i z] at e1;cases e1
   cases e3:rd η1 i with
   |none=>exact Jb e3 n1
   | some u3 =>
    obtain⟨v3,r3,l3,p3⟩:=c.env i u3.1 u3.2 e3;refine⟨v3,l3 j hs,jI (sl:=⟨sf,pv⟩) c.bare h6 λz Z2 H2 Fs2 G2 B2 rz s2=>?_⟩;obtain⟨B3,s3,d3⟩:=c.frame B2 s2;have r':=r.frame c.gd.own s2 c.dis;have B4:=B3.mono (G':=G) λ_ z=>.inl z;obtain⟨v4,r4,l4,p4⟩:=B4.env i m _ e1;have hv:v3=v4:=by have e5:=l3 j hs;have e6:=l4 j hs;rw[e5] at e6;cases e6;rfl
    subst hv;obtain⟨a,xs,rfl,hl,hf,hx,v,d,p⟩:=uc hm r4;have hxl:xs.length=l.length:=by rw[p.length,d]
    obtain⟨q1,q2⟩:=iM P w.2 l vs d;have rz':z=kV P/\kOk P=true:=nX rz;have nGa:¬G a:=λq=>B4.dis a q ⟨i,hf⟩;have pS:RepL K (λb=>Z2 b\/((Fs2 i b\/G b)/\b≠a/\¬no b/\¬no b)) H2 .s vs xs (λ_=>Jh):=by have:=RepL.sh p;exact(this.zmono λb h=>h.elim .inl λz=>z.elim).mono λ_ z=>z
    have rS:Rep K (λb=>Z2 b\/((Fs2 i b\/G b)/\b≠a/\¬no b/\¬no b)) H2 .s w.2 y no:=(Rep.sh r').zmono λb h=>h.imp id λq=>⟨.inr q,λe=>nGa<|e ▸ q,λz=>z,λz=>z⟩;refine⟨a,mkD l xs,P,rfl,rz'.1,hx,?_,?_⟩
    .show (l.zip xs).length<_;rw[List.length_zip,hxl,Nat.min_self];exact Es hlen<|br<|D7 _
    .rw [kZ P w.2 y l vs xs d hxl v.1];exact vb (K:=K) (m':=.o .s) (G':=no) (R:=no) (by simp) B4 e1 hf (λk hk=>by rw[show sf i=Y k from hk] at hs;cases hs;exact l3 _ hk) (by lia) ⟨eE P w.2 l vs d v.1,λz hz=>((eZ P w.2 l vs d z).mp hz).elim (λe=>e ▸ rz'.2)<|v.2 z⟩ q1 p4 (λ_ z=>z.elim) (λ_ z=>z.elim) (λ_ z=>z.elim) (gc rS l vs xs d pS) λZ5 Fs5 B5 s5 _=>h5 σ Z5 _ Fs5 B5<|(s.trans<|s3.mono (λ_ z=>z) λb h=>h.imp id .inl).trans<|s5.mono (λ_ z=>z) λ_ z=>.inl z
end
end MR
namespace MR
open PySem PySem.Spec PyProof.Rows L2 L3
section
variable {X:Cx}{sf sg:O->B O}{C:M.Call}{pos p p2 p3:Pos}{ea eb ec:Je}{a b c:M.E}{h:IZ}{n:O}{io:U O}{K:D1}
theorem wj (j:O)(hr:Room n X.A){i:O}{x:Str}{xx:M.X}{px ps:Pos}(ha:SE X sf C ea a)(hb:SE X sf C eb b)(hs:sf i=Y j:=by rfl)(hN:X.N[j]?=Y x:=by rfl)(hv:Vis X.env.scope x:=by first|exact Eg rfl|exact Ec (Eg rfl)|exact Ec<|Ec rfl)(hd:(x==("__debug__":Str))=false:=by decide)(m:(x==("__classdict__":Str))=false:=by decide)
  (t:EF ea (Y<|.Subscript (.Name x px) eb ps) pos.line X.env=pure false:=by rfl):
  SS X sf io C (.Assign [.Subscript (.Name x px) eb ps] ea pos) (.setS xx i b a):=
 bN (rR (vG hr) (a4 hN hv hd m) hb ha t) λD σ H hw=>by obtain⟨pv,Z,Fs,η,w,F,A,ev,k⟩:=rW hs D σ H hw;refine⟨pv,Z,Fs,η,w,F,A,ev,λv Z' H' e G d r s=>?_⟩;obtain⟨o,ho,y,Z2,f,P,w2,Q,A2,l,k2⟩:=k v Z' H' e G d r s;refine⟨o,ho,y,Z2,f,P,w2,Q,A2,l,λz Z3 H3 g G3 B3 r3 s3=>?_⟩;obtain⟨q,u,kk,rfl,rfl,g1,g2,g3⟩:=k2 z Z3 H3 g G3 B3 r3 s3;exact⟨q,_,rfl,.inl ⟨u,kk,g1,rfl,g2,rfl⟩,g3⟩
theorem jb {Z:Fp}{H:Hp}{G:Fp}{q:I ⊕ Str}{t:M.T}:∀{d:U<|I ⊕ Str} {g:U M.T} {j:U V},RepL K Z H .s g j G->M.lookD q d g=Y t->∃x,d7 (mkD d j) q=Y x/\Rep K Z H .s t x no
|[],[],_,_,e=>by cases e
|[],_::_,_,_,e=>by cases e
|_::_,[],_,_,e=>by cases e
| k::d,v::g,j,⟨x,r,w,z,l,_,A,_,p,o⟩,e=>by
 subst l;have f:(if k=q then Y v else M.lookD q d g)=Y t:=e;by_cases hk:k=q
 .rw [Jc hk] at f;cases f;refine⟨x,?_,p.sany⟩;show(((k,x)::mkD d r).find? λi=>decide (i.1=q)).map (·.2)=Y x;rw[List.find?_cons_of_pos<|by simpa using hk];rfl
 .rw [Jd hk] at f;obtain⟨y,m,u⟩:=jb o f;refine⟨y,?_,u⟩;show(((k,x)::mkD d r).find? λi=>decide (i.1=q)).map (·.2)=Y y;rw[List.find?_cons_of_neg<|by simpa using hk];exact m
theorem ug:Loc K 2 .ixD h λo H Q=>∀x y,o=[x,y]->∃a v,x=.ref a/\DGet H a y (Y v)/\Q v H:=by
 intro ws w o Z H G Q hn e r ow za k x y hx;subst hx;obtain⟨⟨m,a⟩,⟨n,b⟩,rfl⟩:=fv r.length.symm;obtain⟨G1,G2,w1,w2,d,r1,r2⟩:=cn r;obtain⟨f,g,rfl,rfl⟩:∃f g,a=.dct f g/\m=.s:=by cases m<;>first|(cases e;done)|(cases a<;>first|exact⟨_,_,rfl,rfl⟩|(cases e;done))
 have i:((M.keyT b).bind λq=>(M.lookD q f g).map λt=>((.s,t):M.W))=Y w:=e;cases e1:M.keyT b with
 |none=>rw[e1] at i;cases i
 | some q =>
  rw[e1] at i;have e2:((M.lookD q f g).map λt=>((.s,t):M.W))=Y w:=i;cases e3:M.lookD q f g with
  |none=>rw[e3] at e2;cases e2
  |some t=>rw[e3] at e2;cases e2;obtain⟨ad,ys,D,hl,z,A,N,pr⟩:=r1;have u:=iZ e1;subst u;obtain⟨P,_⟩:=nX r2;obtain⟨v,F,rv⟩:=jb pr e3;have j:x=.ref ad:=D;have l:y=kV q:=P;subst j l;refine⟨ad,v,rfl,?_,de ow k<|rv.sany⟩;rw[<- F];exact DGet.k z.2
theorem yO (f:Room n X.A)(d:SE X sf C ea a)(e:SE X sf C eb b)(g:xF eb:=by intro _ _;rfl):SE X sf C (.Subscript ea eb pos) (.op .ixD h [a,b]):=aB (uA (vG f) d e g)<|aX ug
end
end MR









namespace MR
open PySem PySem.Spec PyProof.Rows L2 L3
def nIo:M.E->IZ
|.io _=>DX
|_=>DY
noncomputable def lcl (o:B Hc):IZ:=match o with
|some .local=>DY
|some .cell=>DY
|_=>DX
def lcO (o:B Hc):IZ:=match o with
|some .local=>DY
|_=>DX
theorem xP {a:M.E}(h:nIo a=DY)(i:O):a≠.io i:=by rintro rfl;cases h
theorem sD {a:Jt}{x:Str}(h:lcl (a.names.lookup x)=DY):L2.Loc a x:=by
 unfold lcl at h;split at h
 .rename_i e;exact Eg e
 .rename_i e;exact Ec e
 .cases h
theorem uo {o:B Hc}{b:IZ}(h:(b || lcO o)=DY):b=DY\/o=Y .local:=by
 cases b
 .refine Ec ?_;unfold lcO at h;simp at h;split at h
  .rfl
  .cases h
 .exact Eg rfl
section
variable {X:Cx}{sf:O->B O}{io:U O}{C:M.Call}{pos:Pos}{ea eb:Je}{a b:M.E}{h:IZ}
theorem zA (j:O){i:O}{x:Str}{n:M.X}{c:Pos}(f:X.N.Nodup)(g:SE X sf C ea a)(e:io.contains i=DX)(m:sf i=Y j)(l:X.N[j]?=Y x)(hx:lcl (X.env.scope.names.lookup x)=DY)
  (d:EF ea (Y<|.Name x c) pos.line X.env=pure DX) (k:(X.fn x || lcO (X.env.scope.names.lookup x))=DY):SS X sf io C (.Assign [.Name x c] ea pos) (.asg n i a):=Dx j f g (λz=>by rw[show io.contains i=DY from List.elem_eq_true_of_mem z] at e;cases e) m l (sD hx) d<|uo k
theorem say {c:U Je}{bs:U M.E}(d:SE X sf C ea a)(e:SA X sf C c bs)(f:nIo a=DY)(g:D5 (ea::c) X.env=(DX,Jl ea X.env)::D5 c X.env):SA X sf C (ea::c) (a::bs):=sac d e (xP f) g
end
end MR

namespace MR
open PySem
section
variable {p:U L->Prop}
theorem u0 (h:p [])(a:U L)(e:a.length=0):p a:=by cases a;exact h;cases e
theorem uS {n:O}(h:∀a b,Iz b=n->p (a::b))(b:U L)(e:b.length=n+1):p b:=by
 cases b with
 |nil=>cases e
 |cons a r=>exact h a r<|Fz e
theorem u1 (h:∀a,p [a])(b:U L)(e:b.length=1):p b:=uS (λa=>u0<|h a) b e
theorem u2 (h:∀a b,p [a,b])(c:U L)(e:c.length=2):p c:=uS (λa=>u1<|h a) c e
theorem u3 (h:∀a b c,p [a,b,c])(d:U L)(e:d.length=3):p d:=uS (λa=>u2<|h a) d e
theorem u4 (h:∀a b c d,p [a,b,c,d])(f:U L)(e:f.length=4):p f:=uS (λa=>u3<|h a) f e
theorem u5 (h:∀a b c d e,p [a,b,c,d,e])(f:U L)(e:f.length=5):p f:=uS (λa=>u4<|h a) f e
end
end MR


namespace L3
open PySem PySem.Spec PyProof.Rows L2
theorem mV {X:Cx}:dN X (.type "dict") (λf H Q=>∃(a:IY) (c:U<|Key×V),f=[.ref a]/\H a=Y (.dK c)/\∀p,H p=J->Q (.ref p) (upd H p<|.dK c)):=by intro d s l H f k Q b r h;obtain⟨a,c,rfl,e,q⟩:=h;obtain⟨u,rfl,i⟩:=iJ r;cases i;exact pB b (.inl e) λp j hp g=>⟨.ref p,_,g,rfl,q p hp⟩
end L3
namespace MR
open PySem PySem.Spec PyProof.Rows L2 L3
section
variable {X:Cx}{sf sg:O->B O}{C:M.Call}{pos p p2 p3:Pos}{ea eb ec:Je}{a b c:M.E}{h:IZ}{n:O}{io:U O}{K:D1}
theorem oC {Z:Fp}{H:Hp}{G:Fp}{Q:VK}{p:IY}{d:U<|I ⊕ Str}{i:U M.T}{j:U V}(r:Own Z H G)(t:∀a,Z a->H a≠J)(l:d.length<=M.LIM)(f:d.Nodup/\∀k∈d,M.kOk k=DY)(g:i.length=d.length)(pr:RepL K Z H .s i j λ_=>Jh)(k:Out K Z H G (.o .s,.dct d i) Q)(hp:H p=J):Q (.ref p) (upd H p<|.dK<|mkD d j):=by
 have m:∀{a u},H a=Y u->a≠p:=λ{a u} e q=>by subst q;rw[hp] at e;cases e
 refine k _ Z _ (λa=>a=p) ⟨p,j,rfl,l,⟨rfl,ah⟩,f,g,pr.keep (fK hp) (λ_ z=>z) λa u _ e=>by rw[ag<|m e];exact e⟩ ?_<|c8 hp r (λa h=>.inr h) Z (λ_ z=>z) λ_ z=>.inl z;rintro a rfl;exact⟨λz=>t a z hp,.inr _,ah⟩
theorem qG:Loc K 1 .dcpy h λl H Q=>∃(a:IY) (d:U<|Key×V),l=[.ref a]/\H a=Y (.dK d)/\∀p,H p=J->Q (.ref p) (upd H p<|.dK d):=by
 intro D w l Z H G Q v e r z F k
 match D,v with
 |[(m,a)],_=>
  obtain⟨x,rfl,A⟩:=cJ rfl r;obtain⟨i,j,rfl,rfl⟩:∃i j,a=.dct i j/\m=.s:=by cases m<;>first|(cases e;done)|(cases a<;>first|exact⟨_,_,rfl,rfl⟩|(cases e;done))
  cases(show Y ((.o .s,.dct i j):M.W)=Y w from e);obtain⟨ad,N,y,u,t,f,g,pr⟩:=A;exact⟨ad,_,by rw[show x=_ from y],t.2,λp hp=>oC z F u f g pr k hp⟩
theorem AU (hm:X.mg "dict"=J)(f:Gl X "dict":=by rfl)(ha:SE X sf C ea a)(e:D5 [ea] X.env=(DX,Jl ea X.env)::D5 [] X.env:=by rfl)(d:(En pos<|D5 [] X.env).any (·.1)=false:=by rfl):SE X sf C (.Call (.Name "dict" p) [ea] [] pos) (.op .dcpy h [a]):=
 aB (cP mV f hm IQ (slc ha sl0 e) (by decide) (by decide) e d) (ou qG rfl)
end
end MR













namespace MR
open PySem PySem.Spec PyProof.Rows L2 L3
section
variable {X:Cx}{sf:O->B O}{C:M.Call}{pos p p2:Pos}{ea:Je}{es:U Je}{a:M.E}{bs:U M.E}{h:IZ}{x fld:Str}{n:O}{K:D1}{Z:Fp}{H:Hp}{m:M.Md}{c:O}{fs:U Str}{vs:U M.T}{v:V}{G:Fp}
theorem tG (r:Rep K Z H m (.obj c fs vs) v G):∃a b d,v=.ref a/\H a=Y (.ins c b<|fs.zip d)/\H b=Y (.own a)/\mE K c fs/\fs.length=vs.length/\RepL K Z H .s vs d no:=by
 obtain⟨_,a,b,d,e,q,g,l,r⟩:=r;have f:H a=Y (.ins c b (fs.zip d))/\H b=Y (.own a):=by cases m<;>exact q.2.2
 exact⟨a,b,d,e,f.1,f.2,g,l,r⟩
theorem jn {f:Str}:∀{fs:U Str} {vs:U M.T} {d:U V} {t:M.T},M.lookF f fs vs=Y t->RepL K Z H .s vs d no->∃y,(fs.zip d).lookup f=Y y/\f∈fs/\Rep K Z H .s t y no
| g::i,u::A,d,t,e,r=>by
 obtain⟨y,Q,N,P,rfl,D,F,_,w,o⟩:=r;have e:(if(g==f)=DY then Y u else M.lookF f i A)=Y t:=e;rw[List.zip_cons_cons,Fc];cases b:(g==f) with
 |true=>rw[b,Jc rfl] at e;cases e;have:=eq_of_beq b;subst this;rw[Jr];exact⟨y,rfl,Ek,w.mono D⟩
 |false=>rw[b,Jd<|by decide] at e;obtain⟨z,j,k,l⟩:=jn e<|o.mono F;rw[show(f==g)=DX from by rw[BEq.comm];exact b];exact⟨z,j,Em _ k,l⟩
|[],_,_,_,e,_=>by cases e
|_::_,[],_,_,e,_=>by cases e
theorem dS (ha:SE X sf C ea a)(hb:Gk ea fld X.env (Jl ea X.env)=Jl ea X.env:=by rfl):SE X sf C (.Attribute ea fld pos) (.op (.attP fld) h [a]):=
 aB (xV ha hb) fun σ H Q hw=>by
  obtain⟨pv,Z,P,η,w,i,A,ev,k⟩:=hw;obtain⟨ws,h1,F⟩:=b7 ev;obtain⟨⟨m,u⟩,η1,us,e1,e2,rfl⟩:=ax h1;cases e2;cases u with
  | obj c fs vs =>
   have h3:((M.lookF fld fs vs).map λt=>((M.lfM t,t):M.W))=Y w:=F;obtain⟨t,ht,ew⟩:=GG.mp h3;subst ew;refine⟨pv,Z,P,η,_,i,A,e1,λx o j g G f r s=>?_⟩;obtain⟨a',dx,xs,e,q1,q2,D,l,rl⟩:=tG r;obtain⟨y,ly,mf,N⟩:=jn ht rl;refine⟨a',c,dx,_,y,e,q1,D.1,D.2 fld mf,ly,?_⟩;refine k y o j g no f.bare ?_<|s.mono (λ_ z=>z) λb z=>z.elim .inl λy=>y.elim;show Rep X.K o j (if t.leaf=DY then .d else .s) t y no;split
   .rename_i hl;exact N.leaf (λ_ _ _ q=>q) hl
   .exact N
  |_=>cases F
def spP (c:O)(fs:U Str)(cs:U I):Sp:=λvs H Q _=>∃a d b,vs=.ref a::b/\fs.length=b.length+cs.length/\H a=Y (.ins c d [])/\Q .non (upd H a<|.ins c d<|fs.zip<|b++cs.map V.int)
theorem kU:∀b:U M.W,(b.map λw=>w.2)=M.trees b
|[]=>rfl
|w::b=>by rw[Eo,kU b];rfl
theorem fW {Z:Fp}{H:Hp}:∀cs:U I,RepL K Z H .s (cs.map M.T.int) (cs.map V.int) no
|[]=>rfl
|i::cs=>⟨.int i,cs.map V.int,no,no,rfl,λ_ z=>z,λ_ z=>z,λ_ z=>z.elim,rfl,fW cs⟩
theorem xa {cs:U I}(cf:mE K c fs)(σ:L2.St)(H:Hp)(Q:VK)(hw:wE K sf C (.op (.mkP c fs cs) h bs) σ H Q):wL K sf C bs σ H (λvs D=>∀x d,D x=J->D d=J->d≠x->spP c fs cs (.ref x::(vs++[])) (upd (upd D d<|.own x) x<|.ins c d []) (λv f=>v=.non/\Q (.ref x) f) E0):=by
 obtain⟨pv,Z,Fs,η,w,η',A,ev,k⟩:=hw;obtain⟨r,h1,h2⟩:=b7 ev;have F:(if decide (fs.length=r.length+cs.length)=DY then Y ((.o .s,.obj c fs ((r.map λw=>w.2)++cs.map M.T.int)):M.W) else J)=Y w:=h2;split at F
 case isFalse=>cases F
 rename_i j;have j:=Ji j;cases F;refine⟨pv,Z,Fs,η,r,η',A,h1,λvs t f Fs2 l y r2 st x d hx P hne=>?_⟩;have hvl:vs.length=r.length:=r2.length;rw[EW];refine⟨x,d,vs,rfl,by rw[hvl];exact j,ah,rfl,?_⟩;rw[d9];have o:=bL y st k;have ne:∀{b u},f b=Y u->b≠x/\b≠d:=λ{b u} e=>⟨(λq=>by subst q;rw[hx] at e;cases e),(λq=>by subst q;rw[P] at e;cases e)⟩;have i:∀b u,f b=Y u->upd (upd f d (.own x)) x (.ins c d (fs.zip (vs++cs.map V.int))) b=Y u:=λb u e=>by obtain⟨n1,n2⟩:=ne e;rw[ag n1,ag n2];exact e
 have gx:upd (upd f d (.own x)) x (.ins c d (fs.zip (vs++cs.map V.int))) x=Y (.ins c d (fs.zip (vs++cs.map V.int))):=ah;have gd:upd (upd f d (.own x)) x (.ins c d (fs.zip (vs++cs.map V.int))) d=Y (.own x):=by rw[ag hne,ah]
 have al:∀b,f b≠J->upd (upd f d (.own x)) x (.ins c d (fs.zip (vs++cs.map V.int))) b≠none:=λb e=>by
  cases q:f b with
  |none=>exact Jb q e
  |some u=>rw[i b u q];simp
 obtain⟨G',g1,rl⟩:=r2.to (N:=.s) λw _=>by cases M.lf w.1 w.2<;>rfl
 have rl2:RepL K (λb=>t b\/l b) f .s (M.trees r) vs no:=(RepL.sh rl).zmono λb h=>h.elim (λh=>h.imp id FD) λh=>.inr<|g1 b h;have rl3:RepL K (λb=>t b\/l b) f .s (M.trees r++cs.map M.T.int) (vs++cs.map V.int) no:=RepL.append (λ_ z=>z) (λ_ z=>z) (λ_ z=>z.elim) rl2<|fW cs;generalize hH:upd (upd f d<|.own x) x (.ins c d<|fs.zip<|vs++cs.map V.int)=H3 at *;have sy:Stay (λb=>t b\/l b) f H3:=⟨λb u _ e=>i b u e,λb xs e=>e.imp (i b _) λ⟨u,q⟩=>⟨u,i b _ q⟩,λb u w e=>i b _ e⟩;have nn:∀b,l b->f b≠none:=λb g=>by obtain⟨_,xs,e⟩:=y.own b g;rw[e];simp
 have nz:∀b,(t b\/l b)->b≠x/\b≠d:=λb g=>by have:f b≠none:=g.elim (y.gd.zal b)<|nn b;exact⟨λq=>this<|by rw[q];exact hx,λq=>this<|by rw[q];exact P⟩
 refine o (.ref x) (λb=>t b\/l b) H3 (λb=>b=x\/b=d) ⟨(λz=>by cases z),x,d,_,rfl,⟨.inl rfl,.inr rfl,gx,gd⟩,cf,?_,?_⟩ ?_ ?_
 .rw[Er,Ea,Ea];exact j
 .rw [kU];exact(rl3.keep sy (λ_ z=>z) λ_ _ z=>z.elim).mono λ_ z=>z
 .rintro b (rfl | rfl)
  .exact⟨λz=>(nz _ z).1 rfl,.ins _ _ _,gx⟩
  .exact⟨λz=>(nz _ z).2 rfl,.own _,gd⟩
 .exact⟨λb u e _=>i b u e,λ_ z=>.inl z,λb z=>z.elim .inl λg=>.inr<|.inl g,λb z=>.inr (z.elim (λe=>by rw[e];exact hx) λe=>by rw[e];exact P),al,λz b q=>al b<|q.elim (z b)<|nn b⟩
structure PCl (P:I9)(w:D3)(K:D1)(mg:Str->B L)(base:Jf)(x:Str)(c:O)(fs:U Str)(cs:U I):Prop where
 ex:∃f fd ps,Mk K c f/\Binds K fd ps []/\∀k,FnOk P w K mg base CX0 (k+1) f fd ps (spP c fs cs)
 cf:mE K c fs
 nm:mg x=Y (.ref c)
theorem Ah {cs:U I}(r:PCl X.prog X.w X.K X.mg X.base x c fs cs)(k:Room (n+2) X.A)(e:SL X sf C (ea::es) bs)(j:Gl X x:=by rfl)(b:(x==("__debug__":Str))=false:=by decide)(i:D5 (ea::es) X.env=(DX,Jl ea X.env)::D5 es X.env:=by rfl)(d:(En pos<|D5 es X.env).any (·.1)=false:=by rfl):
  SE X sf C (.Call (.Name x p) (ea::es) [] pos) (.op (.mkP c fs cs) h bs):=by
 obtain⟨f,l,o,M,g,F⟩:=r.ex;exact aB (sL M (F n) k j r.nm g .nil gw e b i d)<|xa r.cf
end
end MR

namespace MR
open PySem PySem.Spec PyProof.Rows L2 L3
section
variable {K:D1}{Wx:L2.St->VK}{sf:O->B O}{C:M.Call}{pv:O->B V}{io:U O}{σ:L2.St}{Z:Fp}{H:Hp}{Fs:Fps}{η:M.Env}{G:Fp}
theorem At.over {i j:O}{x:V}(N:mM sf io pv)(n:i ∉ io)(f:sf i=Y j)(A:At K ⟨sf,pv⟩ σ Z H Fs η G):At K ⟨sf,pv⟩ (σ.set j<|Y x) Z H Fs (M.del η i) G:=by
 refine⟨A.gd,λl m t e=>?_,A.own,A.dis,λl u q g b=>?_,λl q b=>by rw[He];exact A.ln l q b⟩
 .have c:M.rd (M.wr η i J) l=Y (m,t):=e;rw[a8] at c;split at c
  .cases c
  .rename_i d;have a:l≠i:=λz=>d ⟨z,by rw[<- z];exact cB c⟩;obtain⟨v,r,h,k⟩:=A.env l m t c;refine⟨v,r,λq b=>?_,k⟩;have:q≠j:=λz=>a<|N.inj l i j (by rw[<- z];exact b) f;rw[Gb<|EB this];exact h q b
 .have a:l≠i:=fun z=>by have:=N.io i n;rw[<- z,show pv l=Y u from g] at this;cases this
  have:q≠j:=λz=>a<|N.inj l i j (by rw[<- z];exact b) f;show(σ.set j<|Y x)[q]?=_;rw[Gb<|EB this];exact A.lk l u q g b
theorem zW {D:bw}{F:Fp}{l k:U O}{i j:O}{a b:M.E}{g:M.Env->M.Fl}(f:Fin K Wx ⟨sf,pv⟩ Z H F D<|M.Fl.seq (M.Fl.of η (M.evE C a<|M.pick l k η)<|M.kQ2 η i j<|M.evE C b) g):
  ∃e c m t h,M.evE C a (M.pick l k η)=.ok (e,c)/\M.evE C b (M.put c i e)=.ok ((m,t),h)/\M.lf m t=.d/\Fin K Wx ⟨sf,pv⟩ Z H F D (g<|M.put (M.del η i) j (.d,t)):=by
 cases e1:M.evE C a (M.pick l k η) with
 |no=>rw[e1] at f;exact f.elim
 |ex t=>rw[e1] at f;exact f.elim
 | ok o =>
  obtain⟨e,c⟩:=o;rw[e1] at f
  have f:Fin K Wx ⟨sf,pv⟩ Z H F D (M.Fl.seq (M.Fl.of c (M.evE C b (M.put c i e)) (M.kQ2b η i j)) g):=by
   cases e2:M.evE C b (M.put c i e) with
   |no=>rw[show M.Fl.of η (M.Res.ok (e,c)) (M.kQ2 η i j<|M.evE C b)=M.Fl.of η (M.evE C b<|M.put c i e) (M.kQ2b η i j) from rfl,e2] at f;exact f
   |ex t=>rw[show M.Fl.of η (M.Res.ok (e,c)) (M.kQ2 η i j<|M.evE C b)=M.Fl.of η (M.evE C b<|M.put c i e) (M.kQ2b η i j) from rfl,e2] at f;exact f
   |ok p=>rw[show M.Fl.of η (M.Res.ok (e,c)) (M.kQ2 η i j<|M.evE C b)=M.Fl.of η (M.evE C b<|M.put c i e) (M.kQ2b η i j) from rfl,e2] at f;exact f
  cases e2:M.evE C b (M.put c i e) with
  |no=>rw[e2] at f;exact f.elim
  |ex t=>rw[e2] at f;exact f.elim
  | ok r =>
   obtain⟨⟨m,t⟩,h⟩:=r;rw[e2] at f;have f:Fin K Wx ⟨sf,pv⟩ Z H F D (M.Fl.seq (if M.lf m t=.d then .nx (M.put (M.del η i) j (.d,t)) else .no) g):=f;split at f
   .rename_i n;exact⟨e,c,m,t,h,rfl,e2,n,f⟩
   .exact f.elim
end
section
variable {X:Cx}{sf:O->B O}{C:M.Call}{pos1 pos2:Pos}{ea eb:Je}{a b:M.E}{io:U O}{vs ls:U O}
theorem CP (F G:O){i j:O}{x y:Str}{px py:Pos}{r:U Jj}{P:U M.S}(hN:X.N.Nodup)(ha:SE X sf C ea a)(hb:SE X sf C eb b)(hr:SSs X sf io C r P)(hi:i ∉ io:=by decide)(hj:j ∉ io:=by decide)(hs:sf i=Y F:=by rfl)(p:sf j=Y G:=by rfl)
  (h1:X.N[F]?=Y x:=by rfl) (h2:X.N[G]?=Y y:=by rfl) (hx:L2.Loc X.env.scope x:=by first|exact Eg rfl|exact Ec rfl) (hy:L2.Loc X.env.scope y:=by first|exact Eg rfl|exact Ec rfl)
  (s:EF ea (Y<|.Name x px) pos1.line X.env=pure false:=by rfl) (c:EF eb (Y<|.Name y py) pos2.line X.env=pure false:=by rfl)
  (hf:X.fn x=DY\/X.env.scope.names.lookup x=Y .local:=by first|exact .inl rfl|exact .inr rfl) (o:X.fn y=DY\/X.env.scope.names.lookup y=Y .local:=by first|exact .inl rfl|exact .inr rfl):
  SSs X sf io C (.Assign [.Name x px] ea pos1::.Assign [.Name y py] eb pos2::r) (.asgQ2 vs ls i a j b::P):=
 gH (a7 (kE (i:=F) hN h1 hx ha s hf)<|a7 (kE (i:=G) hN h2 hy hb c o) hr) λD σ H h=>by
  obtain⟨pv,Z,Fs,Q,N,A,f⟩:=h;obtain⟨w1,η1,m,t,η2,e1,e2,hd,f⟩:=zW<|show Fin X.K (xw X) ⟨sf,pv⟩ Z H (tot Fs) D (M.Fl.seq (M.Fl.of Q (M.evE C a<|M.pick vs ls Q)<|M.kQ2 Q i j<|M.evE C b)<|M.evSs C P) from f;refine⟨pv,_,kj,_,w1,η1,A.quiet (vs:=vs) (ls:=ls),e1,λv Z1 H1 e G1 B1 r1 s1=>?_⟩;have A2:=At.set N hi hs B1 r1;refine⟨pv,Z1,_,_,(m,t),η2,A2,e2,λu n l g k B2 r2 s2=>?_⟩;have st:Step (λa=>Z a\/bW Fs vs a) H (tot kj) n l (λa=>tot g a\/k a):=(s1.mono (F2:=tot<|hE e i G1) (λ_ z=>z) λa h=>(aK h)).trans s2;obtain⟨B3,s3⟩:=b8 (At.over (x:=v) N hi hs A) B2.own B2.gd.zal st λa h=>fw h;have r3:Rep X.K n l .d t u k:=by have q:=Rep.lf<|show Rep X.K n l m t u k from r2;rw[hd] at q;exact q
  have A4:=At.set (w:=(.d,t)) N hj p B3<|Rep.dany r3;exact⟨pv,_,_,_,N,A4,f.step<|s3.mono (λ_ z=>z) λa h=>aK h⟩
end
end MR

namespace MR
open PySem PySem.Spec PyProof.Rows L2 L3
section
variable {K:D1}{Z:Fp}{H:Hp}
theorem RepL.putD:∀{D:U M.T} {xs:U V} {G:Fp} {i:O} {t:M.T},RepL K Z H .d D xs G->Own Z H G->D[i]?=Y t ->
 ∃x n,xs[i]?=Y x/\(∀a,n a->G a)/\Rep K Z H .d t x n/\∀s o Q l,Step Z H n s o l->Rep K s o .d Q x l->RepL K s o .d (D.set i Q) xs (λb=>(G b/\¬n b)\/l b)
|t0::D,xs,G,0,t,⟨x,r,A,c,e,N,m,j,p,q⟩,v,F=>by
 cases F;have al:∀b,c b->H b≠none:=λb h=>by obtain⟨_,ys,e⟩:=v b<|m b h;rw[e];simp
 exact⟨x,A,by rw[e];rfl,N,p,λs o Q l g p'=>⟨x,r,l,c,e,λ_ z=>.inr z,λa P=>.inl ⟨m a P,λz=>j a z P⟩,λa f P=>(g.fn a f).elim (λz=>j a z P)<|al a P,p',q.keep (Own.stay (λa h=>v a<|N a h) g) g.zm λa u f e=>g.keep a u e λz=>j a z f⟩⟩
|t0::D,xs,G,i+1,t,⟨x,r,A,c,e,N,m,j,p,q⟩,v,F=>by
 obtain⟨y,n,e1,w,p1,k⟩:=RepL.putD q (λa h=>v a<|m a h)<|show D[i]?=Y t from F;have al:∀b,A b->H b≠none:=λb h=>by obtain⟨_,ys,e⟩:=v b<|N b h;rw[e];simp
 exact⟨y,n,by rw[e];exact e1,λa h=>m a<|w a h,p1,λs o Q l g p'=>⟨x,r,A,_,e,λa f=>.inl ⟨N a f,λz=>j a f<|w a z⟩,λa h=>h.imp (λz=>⟨m a z.1,z.2⟩) id,λa f h=>h.elim (λz=>j a f z.1) λz=>(g.fn a z).elim (λz=>j a f<|w a z)<|al a f,p.keep (Own.stay (λa h=>v a<|m a<|w a h) g) g.zm λa u f e=>g.keep a u e λz=>j a f<|w a z,k s o Q l g p'⟩⟩
|[],_,_,_,_,_,_,F=>by simp at F
theorem kY:∀{a:M.Env} {i:O} {w:M.W},M.put (M.del a i) i w=M.put a i w
|[],_,_=>rfl
|_::_,0,_=>rfl
|p::a,i+1,w=>by show p::M.put (M.del a i) i w=p::M.put a i w;rw[kY]
theorem Step.wide {f:Fp}{G c d:Fp}{e:Hp}(w:∀a,c a->G a)(g:Step Z H c f e d):Step Z H G f e (λb=>(G b/\¬c b)\/d b):=(g.frame λb=>G b/\¬c b).mono (λa h=>h.elim (w a) FD) λa h=>h.symm
theorem Own.wide {f:Fp}{G c d:Fp}{e:Hp}(g:Own Z H G)(i:Step Z H c f e d)(o:Own f e d):Own f e (λb=>(G b/\¬c b)\/d b):=λa h=>h.elim (λz=>(Own.frame (λb (y:G b/\¬c b)=>g b y.1) i λb y=>y.2).1 a z)<|o a
def PathZ (K:D1)(H:Hp):U O->V->V->Prop
|[],v,u=>u=v
|j::p,v,u=>∃a b y,v=.ref a/\(SqL K H a b\/SqT K H a b)/\b[j]?=Y y/\PathZ K H p y u
theorem eV {u:M.T}:∀{p:U O} {t:M.T} {v:V} {G:Fp},M.partAt p t=Y u->Rep K Z H .d t v G->Own Z H G ->
 ∃y D,PathZ K H p v y/\(∀a,D a->G a)/\Rep K Z H .d u y D/\∀f c m A g,Step Z H D f c g->Rep K f c .d m y g->M.setAt m p t=Y A->Rep K f c .d A v (λb=>(G b/\¬D b)\/g b)
|[],t,v,G,e,r,s=>by cases e;exact⟨v,G,rfl,λ_ z=>z,r,λf c m A g i P e=>by cases e;exact P.mono λ_ z=>.inr z⟩
|j::p,.lst o,v,G,e,r,s=>by
 obtain⟨t1,e1,e2⟩:=GW.mp<|show(o[j]?).bind (M.partAt p)=Y u from e;obtain⟨a,F,rfl,l,⟨ga,ha⟩,q⟩:=r;obtain⟨x,D,x1,w,p1,k⟩:=RepL.putD q (λb h=>s b h.1) e1;obtain⟨y,g,pv,n,r2,k2⟩:=eV e2 p1 λb h=>s b (w b h).1;refine⟨y,g,⟨a,F,x,rfl,.inl<|SqL.of ha,x1,pv⟩,λb h=>(w b<|n b h).1,r2,λf c m A G3 i P e=>?_⟩;obtain⟨t2,N,f2⟩:=GW.mp<|show(o[j]?).bind (λt=>(M.setAt m p t).map λv=>M.T.lst<|o.set j v)=Y A from e;rw[e1] at N;cases N;obtain⟨Q,f3,rfl⟩:=GG.mp f2;have na:¬g a:=λz=>(w a<|n a z).2 rfl;have n3:¬G3 a:=λz=>(i.fn a z).elim na λz=>by rw[ha] at z;cases z
 refine⟨a,F,rfl,l,⟨.inl ⟨ga,na⟩,i.keep a _ ha na⟩,(k f c Q _ (Step.wide n i)<|k2 f c m Q G3 i P f3).mono λb h=>?_⟩;rcases h with h|h|h
 .exact⟨.inl ⟨h.1.1,λz=>h.2<|n b z⟩,h.1.2⟩
 .exact⟨.inl ⟨(w b h.1).1,h.2⟩,(w b h.1).2⟩
 .exact⟨.inr h,λz=>n3<|z ▸ h⟩
|j::p,.tup o,v,G,e,r,s=>by
 obtain⟨t1,e1,e2⟩:=GW.mp<|show(o[j]?).bind (M.partAt p)=Y u from e;obtain⟨a,F,rfl,hq,l,q⟩:=r;obtain⟨x,D,x1,w,p1,k⟩:=RepL.putD (show RepL K Z H .d o F G from q) s e1;obtain⟨y,g,pv,n,r2,k2⟩:=eV e2 p1 λb h=>s b<|w b h;refine⟨y,g,⟨a,F,x,rfl,.inr hq,x1,pv⟩,λb h=>w b<|n b h,r2,λf c m A G3 i P e=>?_⟩;obtain⟨t2,N,f2⟩:=GW.mp<|show(o[j]?).bind (λt=>(M.setAt m p t).map λv=>M.T.tup<|o.set j v)=Y A from e;rw[e1] at N;cases N;obtain⟨Q,f3,rfl⟩:=GG.mp f2;refine⟨a,F,rfl,(Own.stay (λb h=>s b<|w b<|n b h) i).sqt hq,l,(k f c Q _ (Step.wide n i)<|k2 f c m Q G3 i P f3).mono λb h=>?_⟩;rcases h with h|h|h
 .exact .inl ⟨h.1,λz=>h.2<|n b z⟩
 .exact .inl ⟨w b h.1,h.2⟩
 .exact .inr h
|_::_,.non,_,_,e,_,_=>by cases e
|_::_,.bl _,_,_,e,_,_=>by cases e
|_::_,.int _,_,_,e,_,_=>by cases e
|_::_,.str _,_,_,e,_,_=>by cases e
|_::_,.dct _ _,_,_,e,_,_=>by cases e
|_::_,.ins _ _ _,_,_,e,_,_=>by cases e
|_::_,.obj _ _ _,_,_,e,_,_=>by cases e
|_::_,.dtt _ _,_,_,e,_,_=>by cases e
|_::_,.scr _,_,_,e,_,_=>by cases e
|_::_,.gone,_,_,e,_,_=>by cases e
end
def tP (K:D1)(j:O)(p:U O):TE:=λa H Q=>∃v u,a[j]?=Y (Y v)/\PathZ K H p v u/\Q u H
theorem PathZ.snoc {K:D1}{H:Hp}:∀{p:U O} {j:O} {v u:V},PathZ K H (p++[j]) v u->∃y,PathZ K H p v y/\PathZ K H [j] y u
|[],_,v,_,h=>⟨v,rfl,h⟩
|_::p,_,_,_,⟨a,d,y,e,s,x,h⟩=>by obtain⟨z,b,c⟩:=PathZ.snoc (p:=p) h;exact⟨z,⟨a,d,y,e,s,x,b⟩,c⟩
section
variable {X:Cx}{sf:O->B O}{C:M.Call}{pos:Pos}{io:U O}{ea:Je}{x:Str}
theorem pp0 {j:O}{p:Pos}(d:X.N[j]?=Y x:=by rfl)(f:Vis X.env.scope x:=by first|exact Eg rfl|exact Ec (Eg rfl)|exact Ec<|Ec rfl)(e:(x==("__debug__":Str))=false:=by decide)
  (a:(x==("__classdict__":Str))=false:=by decide):PE X (.Name x p) (tP X.K j []):=
 aB (a4 d f e a) λg H Q ⟨v,u,b,c,q⟩=>⟨v,b,by cases c;exact q⟩
theorem ppS {j:O}{p:U O}{k b:O}{c:Pos}(i:PE X ea<|tP X.K j p)(l:cH (.Constant (.int (k:I)) b c):=by intro _ _;rfl):PE X (.Subscript ea (.Constant (.int (k:I)) b c) pos) (tP X.K j<|p++[k]):=
 aB (oR ix_any i jX l) λn H Q ⟨v,u,d,f,q⟩=>by obtain⟨y,g,a,m,z,rfl,s,e,h⟩:=PathZ.snoc f;cases h;exact⟨v,_,d,g,a,m,k,_,rfl,rfl,s,tq e,q⟩
end
def n9 (K:D1)(n:O):Sp:=λc H Q _=>∃v t Z G,c=[v]/\Rep K Z H .d t v G/\Own Z H G/\(∀a,Z a->H a≠J)/\M.dp t<n/\M.dp t<1000/\M.szS t=DY/\∀b,Step Z H G Z b G->Own Z b G->Rep K Z b .d (M.spo t) v G->Q v b
theorem sW {K:D1}{C:M.Call}{g n:O}{l:U V}{H:Hp}{Q:VK}{E:XK}(s:∀b,C g b=M.spoV n b)(h:spS K C g [0] l H Q E):n9 K (n+1) l H Q E:=by
 obtain⟨Z,b,G,w,bs,r,v,F,e,q⟩:=h;rw[s] at e
 match b,e,r with
 | [(m,t)],e,r =>
  have c:(if((M.lf m t==.d)&&(decide (M.dp t<=n)&&decide (M.dp t<=64)&&M.szS t))=DY then M.Res.ok (((.d,.gone):M.W),([(.d,M.spo t)]:U M.W)) else .no)=.ok (w,bs):=e;split at c
  .rename_i f;rw[Ew,Ew,Ew,beq_iff_eq,Jg,Jg] at f;cases c;obtain⟨x,i,j,N,rfl,o,P,d,y,A⟩:=r;cases(show i=[] from A);have k:=y.lf;rw[f.1] at k;refine⟨x,t,Z,j,rfl,k,λa h=>v a<|o a h,F,by lia,by lia,f.2.2,λp D u i=>?_⟩;exact q x Z p no j trivial (RepW.one (w:=(.d,M.spo t)) i) (λ_ z=>z.elim) (λa h=>h.elim (λz=>z.elim)<|u a) ((Step.wide o D).mono (λ_ z=>z) λa h=>h.elim (λz=>z.elim) .inr)
  .cases c
 |[],e,_=>cases e
 |_::_::_,e,_=>cases e
section
variable {X:Cx}{sf:O->B O}{C:M.Call}{pos pos1 p:Pos}{io:U O}{ea:Je}{x:Str}{n g:O}
theorem ue {i j:O}{k:U O}(c:aa X.prog X.w X.K X.mg X.base n C x g [0])(hr:Room n X.A)(ha:PE X ea<|tP X.K j k)(hs:sf i=Y j:=by rfl)(hg:Gl X x:=by rfl)(hdb:(x==("__debug__":Str))=false:=by decide)
  (he:D5 [ea] X.env=(DX,Jl ea X.env)::D5 [] X.env:=by rfl) (hpl:(En pos<|D5 [] X.env).any (·.1)=false:=by rfl) (hsw:EF (.Call (.Name x p) [ea] [] pos) J pos1.line X.env=pure false:=by rfl):
  SS X sf io C (.Expr (.Call (.Name x p) [ea] [] pos) pos1) (.spoP g i k):=by
 obtain⟨fa,fd,ps,F,hm,hk,hb⟩:=c;refine bN (cQ (eh (E:=E0) F hr hg hm hk hb .nil gw (aJ ha bu he) hdb he hpl) hsw) λD σ H h=>?_;obtain⟨pv,Z,Fs,G,N,A,f⟩:=h;have f:Fin X.K (xw X) ⟨sf,pv⟩ Z H (tot Fs) D (M.kSpo C g i k G (M.rd G i)):=f;cases er:M.rd G i with
 |none=>rw[er] at f;exact f.elim
 | some wt =>
  obtain⟨m,t⟩:=wt;rw[er] at f;cases m with
  |s=>exact f.elim
  |o _=>exact f.elim
  | d =>
   have f:Fin X.K (xw X) ⟨sf,pv⟩ Z H (tot Fs) D (match M.partAt k t with|some u=>M.kSpo2 i k t G (C g [(.d,u)])|none=>.no):=f;cases ep:M.partAt k t with
   |none=>rw[ep] at f;exact f.elim
   | some u =>
    rw[ep] at f;have f:Fin X.K (xw X) ⟨sf,pv⟩ Z H (tot Fs) D (M.kSpo2 i k t G (C g [(.d,u)])):=f;cases ec:C g [(.d,u)] with
    |no=>rw[ec] at f;exact f.elim
    |ex _=>rw[ec] at f;exact f.elim
    | ok pr =>
     obtain⟨w,bs⟩:=pr;rw[ec] at f
     obtain⟨Q,rfl⟩:∃Q,bs=[(.d,Q)]:=by
      match bs,f with
      |[(.d,Q)],_=>exact⟨Q,rfl⟩
      |[],f=>exact f.elim
      |[(.s,_)],f=>exact f.elim
      |[(.o _,_)],f=>exact f.elim
      |(.d,_)::_::_,f=>exact f.elim
      |(.s,_)::_::_,f=>exact f.elim
      |(.o _,_)::_::_,f=>exact f.elim
     have f:Fin X.K (xw X) ⟨sf,pv⟩ Z H (tot Fs) D (M.nxO G ((M.setAt Q k t).map λP=>M.put G i (.d,P))):=f;obtain⟨η2,h4,h5⟩:=el f;obtain⟨P,e4,rfl⟩:=GG.mp h4;obtain⟨v,rv,l1,lv⟩:=A.env i _ _ er;have r:Own Z H (Fs i):=λa h=>A.gd.own a ⟨i,h⟩;obtain⟨y,G1,pth1,w1,ry,kk⟩:=eV ep rv r;refine⟨v,y,l1 j hs,pth1,Z,[(.d,u)],G1,w,[(.d,Q)],RepW.one (w:=(.d,u)) ry,λa h=>r a<|w1 a h,A.gd.zal,ec,λz Z' H' A1 A2 r1 r2 d o st=>?_⟩;have r3:Rep X.K Z' H' .d Q y A2:=by obtain⟨y',rr,B1,B2,e1,w1',_,_,r3,_⟩:=r2;cases e1;exact r3.mono w1'
     have st2:Step Z H G1 Z' H' A2:=st.mono (λ_ z=>z) λa h=>.inr h;have rf:=kk Z' H' Q P A2 st2 r3 e4
     have A3:At X.K ⟨sf,pv⟩ σ Z H (Bt Fs i) (M.del G i) (Fs i):=by
      refine⟨⟨λa ⟨l,h1,h2⟩=>A.gd.own a ⟨l,h2⟩,λl l' a h1 h2=>A.gd.dis l l' a h1.2 h2.2,A.gd.zal⟩,λl m' P e=>?_,λa ha=>A.gd.own a ⟨i,ha⟩,λa ha ⟨l,h1,h2⟩=>h1<|A.gd.dis l i a h2 ha,A.lk,A.ln⟩;rw[a8] at e;split at e
      .cases e
      .rename_i hne;obtain⟨v'',r',hv''⟩:=A.env l m' P e;have hli:l≠i:=λz=>hne ⟨z,cB er⟩;exact⟨v'',r'.mono λa ha=>⟨hli,ha⟩,hv''⟩
     obtain⟨b,s2⟩:=A3.op (Own.wide r st2 λa h=>o a<|.inr h)<|Step.wide w1 st2;have B2:=At.put (i:=i) (w:=(.d,P)) (x:=v) (R:=no) b rf (λ_ z=>z) (λ_ z=>z.elim) (λ_ z=>z.elim) (λl hl=>l1 l hl) λu hu=>lv u hu;have hpp:M.put (M.del G i) i (.d,P)=M.put G i (.d,P):=kY;rw[hpp] at B2;refine h5 σ Z' H' _ B2<|(s2.mono (λa h=>?_) λa h=>?_)
     .exact h.elim (λ⟨l,_,z⟩=>⟨l,z⟩) λz=>⟨i,z⟩
     .exact aK h
end
end MR

namespace A24
open M
open PySem (Str)
noncomputable abbrev q:=Str.ofString
noncomputable abbrev c6:O:=450
noncomputable def keys_AHEAD:U Str:=[q "num",q "name",q "none",q "let",q "each",q "times"]
noncomputable def tab_DOINGS:U (Str×O):=[(q "first",43),(q "second",44),(q "one",45),(q "upto",46),(q "pair",60),(q "pick",61),(q "join",52)]
noncomputable def keys_WAYS:U Str:=[q "let",q "if",q "each",q "times"]
noncomputable def tab_WAYS:U (Str×O):=[(q "let",469),(q "if",470),(q "each",471),(q "times",472)]
noncomputable def keys_WORDS:U Str:=[q "upto",q "sum",q "sums",q "most",q "flat",q "add",q "sub",q "mul",q "div",q "rest",q "pick",q "join",q "keep",q "cut"]
noncomputable def tab_WORDS:U (Str×O):=[(q "upto",64),(q "pick",72),(q "join",73)]
noncomputable def aW:Fn:={ps:=2,ns:=0,io:=[],body:=[
  .ret [] (.ifx (.chain .le .lt (.cst<|.int 0) (.mv 1)<|.mv 0) (.cst<|.non)<|.cst<|.str<|q "beyond")]}
noncomputable def cD:Fn:={ps:=1,ns:=0,io:=[],body:=[
  .ret [] (.ifx (.chain .le .le (.cst<|.int 0) (.mv 0)<|.cst<|.int 200) (.cst<|.non)<|.cst<|.str<|q "far")]}
noncomputable def bZ:Fn:={ps:=1,ns:=0,io:=[],body:=[
  .ret [] (.ifx (.chain .le .le (.cst<|.int 0) (.mv 0)<|.cst<|.int 60) (.cst<|.non)<|.cst<|.str<|q "far")]}
noncomputable def bg:Fn:={ps:=1,ns:=0,io:=[],body:=[
  .ret [] (.ifx (.op .le DX [.mv 0,.cst<|.int 200]) (.cst<|.non)<|.cst<|.str<|q "far")]}
noncomputable def cW:Fn:={ps:=2,ns:=1,io:=[],body:=[
  .asg (.q [0,1] []) 2 (.ifx (.inT DX keys_WORDS<|.op .ix DX [.var 0,.cst<|.int 0]) (.callT tab_WORDS (.op .ix DX [.var 0,.cst<|.int 0]) [.var 1])<|.cst<|.non),
  .ite (.q [2] []) (.op .isnot DX [.var 2,.cst (.non)]) [
   .ret [] (.tup [.cst<|.non,.mv 2])] [],
  .ite (.q [0] []) (.op .eq DX [.op .ix DX [.var 0,.cst (.int 0)],.cst (.str (q "num"))]) [
   .ret [] (.tup [.op .ix DX [.mv 0,.cst<|.int 1],.cst<|.non])] [],
  .ret [] (.tup [.callT tab_DOINGS (.op .ix DX [.mv 0,.cst<|.int 0]) [.mv 1],.cst<|.non])]}
noncomputable def aq:Fn:={ps:=1,ns:=2,io:=[],body:=[
  .ite (.q [0] []) (.op (.isI ["list"]) DX [.var 0]) [
   .ret [] (.comp DY .seq [.mv 0] [1] J<|.call 456 [.var 1])] [],
  .ite (.q [0] []) (.op (.isI ["tuple"]) DX [.var 0]) [
   .ret [] (.op .tuple DY [.comp DY .seq [.mv 0] [2] J<|.call 456 [.var 2]])] [],
  .ret [] (.mv 0)]}
noncomputable def bC:Fn:={ps:=1,ns:=0,io:=[],body:=[
  .ret [] (.op .ix DX [.op .ix DX [.mv 0,.cst<|.int 0],.cst<|.int 0])]}
noncomputable def bf:Fn:={ps:=1,ns:=0,io:=[],body:=[
  .ret [] (.op .ix DX [.op .ix DX [.mv 0,.cst<|.int 0],.cst<|.int 1])]}
noncomputable def cx:Fn:={ps:=1,ns:=0,io:=[],body:=[
  .ret [] (.lst DX [.op .ix DX [.mv 0,.cst<|.int 0]])]}
noncomputable def dk:Fn:={ps:=1,ns:=0,io:=[],body:=[
  .ret [] (.op .rng DX [.cst<|.int 0,.op .ix DX [.mv 0,.cst<|.int 0]])]}
noncomputable def bU:Fn:={ps:=1,ns:=0,io:=[],body:=[
  .ret [0] (.tup [.op .ix DX [.var 0,.cst<|.int 0],.op .ix DX [.var 0,.cst<|.int 1]])]}
noncomputable def bS:Fn:={ps:=1,ns:=0,io:=[],body:=[
  .ret [0] (.op .ix DX [.op .ix DX [.var 0,.cst<|.int 0],.op .ix DX [.var 0,.cst<|.int 1]])]}
noncomputable def bR:Fn:={ps:=1,ns:=0,io:=[],body:=[
  .ret [0] (.op .add DX [.op .ix DX [.var 0,.cst<|.int 0],.op .ix DX [.var 0,.cst<|.int 1]])]}
noncomputable def bz:Fn:={ps:=1,ns:=0,io:=[],body:=[
  .ret [] (.call 33 [.op .ix DX [.mv 0,.cst<|.int 0]])]}
noncomputable def aT:Fn:={ps:=1,ns:=0,io:=[],body:=[
  .ret [0] (.call 31 [.op .len DX [.op .ix DX [.var 0,.cst<|.int 0]],.op .ix DX [.var 0,.cst<|.int 1]])]}
noncomputable def aU:Fn:={ps:=1,ns:=0,io:=[],body:=[
  .ret [0] (.call 34 [.op .add DX [.op .len DX [.op .ix DX [.var 0,.cst<|.int 0]],.op .len DX [.op .ix DX [.var 0,.cst<|.int 1]]]])]}
noncomputable def aL:Fn:={ps:=1,ns:=0,io:=[],body:=[
  .ret [] (.ifx (.inT DX keys_AHEAD<|.mv 0) (.cst<|.int 2)<|.cst<|.int 1)]}
noncomputable def cK:Fn:={ps:=1,ns:=0,io:=[],body:=[
  .ret [0] (.op .sl1 DX [.var 0,.call 175 [.op .ix DX [.var 0,.cst<|.int 0]]])]}
noncomputable def f_reading:Fn:={ps:=3,ns:=4,io:=[],body:=[
  .asg (.q [] []) 3 (.op .dnew DX []),
  .forS [0,1] [] .zip [.op .ix DX [.var 0,.cst (.int 0)],.var 1] [4,5] [
   .setS (.q [4,5] []) 3 (.op .ix DX [.var 4,.cst<|.int 0]) (.var 5)],
  .tri [
   .asg (.q [0,2,3] []) 6 (.call 467 [.op .ix DX [.var 0,.cst<|.int 1],.tup [],.op (.mkP c6 [q "names",q "turns",q "rounds",q "book"] []) DX [.var 3,.tup [],.tup [],.var 2]])],
  .ret [] (.tup [.cst<|.str<|q "is",.mv 6])]}
noncomputable def aI:Fn:={ps:=3,ns:=4,io:=[],body:=[
  .ite (.q [0] []) (.op .eq DX [.op .ix DX [.var 0,.cst (.int 0)],.cst (.str (q "name"))]) [
   .ret [] (.op .ixD DX [.op (.attP<|q "names") DX [.mv 2],.op .ix DX [.mv 0,.cst<|.int 1]])] [],
  .ite (.q [0] []) (.inT DX keys_WAYS (.op .ix DX [.var 0,.cst (.int 0)])) [
   .ret [0] (.callT tab_WAYS (.op .ix DX [.var 0,.cst<|.int 0]) [.var 0,.mv 1,.mv 2])] [],
  .asg (.q [0,1,2] []) 3 (.comp DX .enmT [.call 176 [.var 0]] [5,6] J<|.call 467 [.var 6,.op .catT DX [.var 1,.tup [.var 5]],.var 2]),
  .asg (.q [0,3] []) 4 (.call 130 [.var 0,.var 3]),
  .ite (.q [4] []) (.op .isnot DX [.op .ix DX [.var 4,.cst (.int 1)],.cst (.non)]) [
   .stop] [],
  .ite (.q [2] []) (.op .isnot DX [.op (.attP<|q "book") DX [.var 2],.cst<|.non]) [.stop] [],
  .ret [] (.op .ix DX [.mv 4,.cst<|.int 0])]}
noncomputable def cA:Fn:={ps:=5,ns:=1,io:=[],body:=[
  .asg (.q [0] []) 5 (.op .dcpy DX [.op (.attP<|q "names") DX [.var 0]]),
  .setS (.q [1,2] []) 5 (.var 1) (.var 2),
  .ret [0] (.op (.mkP c6 [q "names",q "turns",q "rounds",q "book"] []) DX [.mv 5,.op .catT DX [.op (.attP<|q "turns") DX [.var 0],.mv 3],.op .catT DX [.op (.attP<|q "rounds") DX [.var 0],.mv 4],.op (.attP<|q "book") DX [.var 0]])]}
noncomputable def bo:Fn:={ps:=3,ns:=2,io:=[],body:=[
  .asg (.q [0] []) 3 (.call 176 [.var 0]),
  .asg (.q [1,2,3] []) 4 (.call 467 [.op .ix DX [.var 3,.cst<|.int 0],.op .catT DX [.var 1,.tup [.cst<|.int 0]],.var 2]),
  .ret [] (.call 467 [.op .ix DX [.mv 3,.cst<|.int 1],.op .catT DX [.mv 1,.tup [.cst<|.int 1]],.call 468 [.mv 2,.op .ix DX [.mv 0,.cst<|.int 1],.mv 4,.tup [],.tup []]])]}
noncomputable def ba:Fn:={ps:=3,ns:=4,io:=[],body:=[
  .asg (.q [0] []) 3 (.call 176 [.var 0]),
  .asg (.q [1,2,3] []) 4 (.ifx (.call 467 [.op .ix DX [.var 3,.cst<|.int 0],.op .catT DX [.var 1,.tup [.cst<|.int 0]],.var 2]) (.cst<|.int 1)<|.cst<|.int 2),
  .asg (.q [1,2,3] [4]) 5 (.call 467 [.op .ix DX [.var 3,.var 4],.op .catT DX [.var 1,.tup [.var 4]],.var 2]),
  .ite (.q [2] []) (.op .isnot DX [.op (.attP<|q "book") DX [.var 2],.cst<|.non]) [.stop] [],
  .ret [] (.mv 5)]}
noncomputable def f_each_worth:Fn:={ps:=3,ns:=5,io:=[],body:=[
  .asg (.q [0] []) 3 (.call 176 [.var 0]),
  .asg (.q [] []) 4 (.lst DX []),
  .forS [1,2,3] [] .enm [.call 467 [.op .ix DX [.var 3,.cst (.int 0)],.op .catT DX [.var 1,.tup [.cst (.int 0)]],.var 2]] [5,6] [
   .asg (.q [0,2,6] [5]) 7 (.call 468 [.var 2,.op .ix DX [.var 0,.cst<|.int 1],.var 6,.tup [.var 5],.tup []]),
   .app (.q [1,3,7] []) 4 (.call 467 [.op .ix DX [.var 3,.cst<|.int 1],.op .catT DX [.var 1,.tup [.cst<|.int 1]],.var 7])],
  .exp (.q [0,1,2,4] []) (.call 464 [.var 0,.var 1,.var 2,.op .len DX [.var 4]]),
  .ret [] (.mv 4)]}
noncomputable def f_times_worth:Fn:={ps:=3,ns:=6,io:=[],body:=[
  .asg (.q [0] []) 3 (.call 176 [.var 0]),
  .asg (.q [1,2,3] []) 4 (.call 467 [.op .ix DX [.var 3,.cst<|.int 0],.op .catT DX [.var 1,.tup [.cst<|.int 0]],.var 2]),
  .asg (.q [1,2,3] []) 5 (.call 467 [.op .ix DX [.var 3,.cst<|.int 1],.op .catT DX [.var 1,.tup [.cst<|.int 1]],.var 2]),
  .asg (.q [] [4]) 6 (.call 431 [.var 4]),
  .ite (.q [6] []) (.op .isnot DX [.var 6,.cst (.non)]) [
   .stop] [],
  .forS [] [4] .rng [.var 4] [7] [
   .asg (.q [0,2,5] [7]) 8 (.call 468 [.var 2,.op .ix DX [.var 0,.cst<|.int 1],.var 5,.tup [.var 7],.tup [.var 7]]),
   .asg (.q [1,3,8] []) 5 (.call 467 [.op .ix DX [.var 3,.cst<|.int 2],.op .catT DX [.var 1,.tup [.cst<|.int 2]],.var 8])],
  .exp (.q [0,1,2] [4]) (.call 464 [.var 0,.var 1,.var 2,.var 4]),
  .ret [] (.mv 5)]}
noncomputable def a6:Fn:={ps:=4,ns:=1,io:=[],body:=[
  .ite (.q [2] []) (.op .isnot DX [.op (.attP<|q "book") DX [.var 2],.cst<|.non]) [.stop] []]}
noncomputable def eW:Fn:={ps:=2,ns:=0,io:=[],body:=[
  .ret [] (.call 456 [.call 466 [.mv 0,.mv 1,.cst<|.non]])]}
noncomputable def f_law_rows:Fn:={ps:=1,ns:=3,io:=[],body:=[
  .asg (.q [] []) 1 (.lst DY []),
  .forS [0] [] .rng [.op .add DX [.cst (.int 1),.op .mod DX [.op .ix DX [.var 0,.cst (.int 0)],.cst (.int 5)]]] [2] [
   .app (.q [0] [2]) 1 (.comp DY .rng [.op .mod DX [.op .ix DX [.var 0,.op .add DX [.cst<|.int 1,.var 2]],.cst<|.int 5]] [3] J<|.op .sub DX [.op .mod DX [.op .fdiv DX [.op .ix DX [.var 0,.op .add DX [.cst<|.int 1,.var 2]],.op .add DX [.var 3,.cst<|.int 1]],.cst<|.int 1000],.cst<|.int 500])],
  .ret [] (.mv 1)]}
noncomputable def fL:Fn:={ps:=1,ns:=1,io:=[0],body:=[.pas]}
noncomputable def bj:Fn:={ps:=3,ns:=3,io:=[],body:=[
  .asg (.q [] []) 3 (.tup [.cst<|.str<|q "name",.cst<|.str<|q "r"]),
  .asg (.q [] []) 4 (.tup [.cst<|.str<|q "name",.cst<|.str<|q "pairs"]),
  .asg (.q [4] []) 5 (.tup [.cst<|.str<|q "first",.var 4]),
  .ret [0,1,3,4,5] (.lst DX [.tup [.var 3,.var 0],.tup [.var 4,.tup [.var 1,.var 2]],.tup [.var 5,.var 1],.tup [.tup [.cst<|.str<|q "pick",.var 3,.tup [.cst<|.str<|q "num",.cst<|.int 0]],.op .ix DX [.var 0,.cst<|.int 0]],.tup [.tup [.cst<|.str<|q "one",.var 3],.lst DX [.var 0]],.tup [.tup [.cst<|.str<|q "pair",.var 3,.tup [.cst<|.str<|q "pair",.var 5,.var 3]],.tup [.var 0,.tup [.var 1,.var 0]]],.tup [.tup [.cst<|.str<|q "join",.var 3,.var 5],.op .add DX [.var 0,.var 1]],.tup [.tup [.cst<|.str<|q "each",.cst<|.str<|q "xs",.var 3,.tup [.cst<|.str<|q "name",.cst<|.str<|q "xs"]],.var 0],.tup [.tup [.cst<|.str<|q "times",.cst<|.str<|q "t",.tup [.cst<|.str<|q "num",.cst<|.int 2],.var 3,.tup [.cst<|.str<|q "name",.cst<|.str<|q "t"]],.var 0],.tup [.tup [.cst<|.str<|q "each",.cst<|.str<|q "k",.tup [.cst<|.str<|q "upto",.tup [.cst<|.str<|q "num",.cst<|.int 3]],.var 3],.lst DX [.var 0,.var 0,.var 0]],.tup [.tup [.cst<|.str<|q "if",.tup [.cst<|.str<|q "second",.var 4],.var 3,.var 5],.ifx (.var 2) (.var 0)<|.var 1],.tup [.tup [.cst<|.str<|q "let",.cst<|.str<|q "l",.var 3,.tup [.cst<|.str<|q "pair",.tup [.cst<|.str<|q "name",.cst<|.str<|q "l"],.tup [.cst<|.str<|q "one",.tup [.cst<|.str<|q "name",.cst<|.str<|q "l"]]]],.tup [.var 0,.lst DX [.var 0]]]])]}
noncomputable def f_law:Fn:={ps:=1,ns:=12,io:=[],body:=[
  .asg (.q [0] []) 1 (.comp DX .rng [.cst<|.int 13] [12] J<|.ifx (.op .lt DX [.var 12,.op .len DX [.var 0]]) (.op .ix DX [.var 0,.var 12])<|.cst<|.int 0),
  .asg (.q [] []) 2 (.tup [.cst<|.str<|q "row",.tup [.cst<|.str<|q "row",.tup [.cst<|.str<|q "num"]]]),
  .asg (.q [2] []) 3 (.tup [.tup [.cst<|.str<|q "r",.var 2],.tup [.cst<|.str<|q "pairs",.tup [.cst<|.str<|q "pair",.var 2,.tup [.cst<|.str<|q "truth"]]]]),
  .asg (.q [1] []) 4 (.op .eq DX [.op .mod DX [.op .ix DX [.var 1,.cst<|.int 12],.cst<|.int 2],.cst<|.int 0]),
  .forS [] [] .rng [.cst (.int 12)] [5] [
   .asg (.q [1] []) 6 (.call 474 [.var 1]),
   .asg (.q [1] []) 7 (.call 474 [.op .sl1 DX [.var 1,.cst<|.int 6]]),
   .asgT (.q [1] [4,5]) [8,9] (.op .ix DX [.call 448 [.call 474 [.var 1],.call 474 [.op .sl1 DX [.var 1,.cst<|.int 6]],.var 4],.var 5]),
   .asgQ2 [3,6,7,8] [4] 10 (.lst DX [.var 6,.tup [.var 7,.var 4]]) 11 (.call 473 [.tup [.var 3,.var 8],.mv 10]),
   .ite (.q [9,11] []) (.op .ne DX [.var 11,.tup [.cst (.str (q "is")),.var 9]]) [
    .ret [] (.cst<|.bl DX)] [],
   .spoP 455 6 [],
   .ite (.q [9,11] []) (.op .ne DX [.var 11,.tup [.cst (.str (q "is")),.var 9]]) [
    .ret [] (.cst<|.bl DX)] [],
   .asg (.q [1,7] [4]) 10 (.lst DX [.call 474 [.var 1],.tup [.var 7,.var 4]]),
   .asg (.q [3,8,10] []) 11 (.call 473 [.tup [.var 3,.var 8],.var 10]),
   .ite (.q [11] []) (.and (.op (.isI ["list"]) DX [.op .ix DX [.var 11,.cst (.int 1)]]) (.op .gt DX [.op .len DX [.op .ix DX [.var 11,.cst (.int 1)]],.cst (.int 0)])) [
    .spoP 455 11 [1,0],
    .ite (.q [9,11] []) (.op .ne DX [.op .sl1 DX [.op .ix DX [.var 11,.cst (.int 1)],.cst (.int 1)],.op .sl1 DX [.var 9,.cst (.int 1)]]) [
     .ret [] (.cst<|.bl DX)] []] [],
   .ite (.q [11] []) (.op (.isI ["tuple"]) DX [.op .ix DX [.var 11,.cst (.int 1)]]) [
    .spoP 455 11 [1,0],
    .ite (.q [9,11] []) (.op .ne DX [.op .sl1 DX [.op .ix DX [.var 11,.cst (.int 1)],.cst (.int 1)],.op .sl1 DX [.var 9,.cst (.int 1)]]) [
     .ret [] (.cst<|.bl DX)] []] [],
   .spoP 455 11 [1],
   .ite (.q [1,3,8,9,10] [4]) (.or (.op .ne DX [.var 10,.lst DX [.call 474 [.var 1],.tup [.call 474 [.op .sl1 DX [.var 1,.cst (.int 6)]],.var 4]]]) (.op .ne DX [.call 473 [.tup [.var 3,.var 8],.var 10],.tup [.cst (.str (q "is")),.var 9]])) [
    .ret [] (.cst<|.bl DX)] []],
  .ret [] (.cst<|.bl DY)]}
noncomputable def prog:U Fn:=[f_law,zf,zf,zf,zf,zf,zf,zf,zf,zf,zf,zf,zf,zf,zf,zf,zf,zf,zf,zf,zf,zf,zf,zf,zf,zf,zf,zf,zf,zf,zf,aW,zf,cD,bg,zf,zf,zf,zf,zf,zf,zf,zf,bC,bf,cx,dk,zf,zf,zf,zf,zf,bR,zf,zf,zf,zf,zf,zf,zf,bU,bS,zf,zf,bz,zf,zf,zf,zf,zf,zf,zf,aT,aU,zf,zf,zf,zf,zf,zf,zf,zf,zf,zf,zf,zf,zf,zf,zf,zf,zf,zf,zf,zf,zf,zf,zf,zf,zf,zf,zf,zf,zf,zf,zf,zf,zf,zf,zf,zf,zf,zf,zf,zf,zf,zf,zf,zf,zf,zf,zf,zf,zf,zf,zf,zf,zf,zf,zf,zf,cW,zf,zf,zf,zf,zf,zf,zf,zf,zf,zf,zf,zf,zf,zf,zf,zf,zf,zf,zf,zf,zf,zf,zf,zf,zf,zf,zf,zf,zf,zf,zf,zf,zf,zf,zf,zf,zf,zf,zf,zf,zf,zf,zf,zf,aL,cK,zf,zf,zf,zf,zf,zf,zf,zf,zf,zf,zf,zf,zf,zf,zf,zf,zf,zf,zf,zf,zf,zf,zf,zf,zf,zf,zf,zf,zf,zf,zf,zf,zf,zf,zf,zf,zf,zf,zf,zf,zf,zf,zf,zf,zf,zf,zf,zf,zf,zf,zf,zf,zf,zf,zf,zf,zf,zf,zf,zf,zf,zf,zf,zf,zf,zf,zf,zf,zf,zf,zf,zf,zf,zf,zf,zf,zf,zf,zf,zf,zf,zf,zf,zf,zf,zf,zf,zf,zf,zf,zf,zf,zf,zf,zf,zf,zf,zf,zf,zf,zf,zf,zf,zf,zf,zf,zf,zf,zf,zf,zf,zf,zf,zf,zf,zf,zf,zf,zf,zf,zf,zf,zf,zf,zf,zf,zf,zf,zf,zf,zf,zf,zf,zf,zf,zf,zf,zf,zf,zf,zf,zf,zf,zf,zf,zf,zf,zf,zf,zf,zf,zf,zf,zf,zf,zf,zf,zf,zf,zf,zf,zf,zf,zf,zf,zf,zf,zf,zf,zf,zf,zf,zf,zf,zf,zf,zf,zf,zf,zf,zf,zf,zf,zf,zf,zf,zf,zf,zf,zf,zf,zf,zf,zf,zf,zf,zf,zf,zf,zf,zf,zf,zf,zf,zf,zf,zf,zf,zf,zf,zf,zf,zf,zf,zf,zf,zf,zf,zf,zf,zf,zf,zf,zf,zf,zf,zf,zf,zf,zf,zf,zf,zf,zf,zf,zf,zf,zf,zf,zf,zf,zf,zf,zf,zf,zf,zf,zf,zf,zf,zf,zf,zf,zf,bZ,zf,zf,zf,zf,zf,zf,zf,zf,zf,zf,zf,zf,zf,zf,zf,zf,bj,zf,zf,zf,zf,zf,zf,fL,aq,zf,zf,zf,zf,zf,zf,zf,a6,zf,f_reading,aI,cA,bo,ba,f_each_worth,f_times_worth,eW,f_law_rows]
end A24

set_option compiler.extract_closed false
namespace P24
section
open M A24
open PySem (Str)
local macro_rules
 | `(tactic| simp_all only [$ls,*])=>`(tactic| simp only [yg,zS,ye,yb,zx,zO,wK,sG,rJ,sX,tY,tQ,rF,rH,vi,rQ,t7,su,sP,uz,uN,u6,tU,sE,rL,sH,pb,iE,sk,vn,tf,uh,oq,qX,kOp,qu,kOr,CY,kC3,kC2,kC1,iP,eI,gf,dW,jq,dj,lM,aY,kX,kT,kT2,kIf,uI,lR,pX,wU,vT,CM,mC,kNx,kRt,kN,qg,nJ,okW,then',Co,fJ,trees,aj,ios,putAll,xY,C8,xE,wX,yB,ux,s9,tI,zr,wY,x9,yI,yT,yY,wu,Cd,Bb,Ao,B7,Bv,AA,ub,sv,uE,sA,Ay,wN,nU,ph,oZ,rj,xZ,uk,uZ,pJ,n6,Cs,AK,Cj,Am,qi,oj,oQ,wz,wW,wm,yn,xu,yP,zj,xN,r6,uT,ro,xl,qS,qh,ot,BB,rg,vS,zD,xj,xt,x6,wx,ze,C1,CZ,Dm,AZ,Ct,xU,zX,yy,Bn,zC,Bp,uB,yN,AD,BZ,xp,yp,zZ,yo,qN,pe,pF,Bu,ni,nA,tR,tm,uM,uF,wF,xJ,xq,oV,df,m6,mx,l9,yW,wQ,yh,xn,wV,yA,yj,yD,BW,qr,qd,zy,yu,at0,at1,at2,at3,at4,List.cons_append,GB,EW,Eo,FA,Hu,List.replicate_zero,reduceIte,if_true,if_false,String.reduceBEq,Bool.not_true,Bool.not_false,Bool.false_eq_true,Bool.and_self,Bool.true_and,Bool.and_true,so,kIo,xC,x3,mL,oi,mH,mq,lX,oA,m5,pZ,mj,iR,j5,jO,yt,je,l8,jd,ml,kCT,zH,CF,zR,Bh,rq,rm,rD,xb,zc,zF,BY,pd,i7,C3,zL,zY,tX,uf,nS,oK,mR,m7,zU,rY,mZ,uw,AV,Cb,AY,Dq,Ck,BS,vX,oI,Bo,Af,DC,An,AM,BU,BE,Ag,BR,A7,By,Dp,B6,BL,Bi,Ap,Cw,Cz,AI,AQ,DN,DQ,CV,wy,BA,zh,kn,lH,kf,zJ,xo,zt,C0,iX,kQ2,kQ2b,ku,xR,u7,xI,Bw,$ls,*])
abbrev C (n:O):Call:=callV prog 455 1000001 n
theorem wR (n:O)(a:U W):C (n+1) 0 a=runF (C n) f_law a:=rfl
theorem fj (n:O)(a:U W):C (n+1) 31 a=runF (C n) aW a:=rfl
theorem gB (n:O)(a:U W):C (n+1) 34 a=runF (C n) bg a:=rfl
theorem i5 (n:O)(a:U W):C (n+1) 43 a=runF (C n) bC a:=rfl
theorem g9 (n:O)(a:U W):C (n+1) 44 a=runF (C n) bf a:=rfl
theorem l7 (n:O)(a:U W):C (n+1) 45 a=runF (C n) cx a:=rfl
theorem kd (n:O)(a:U W):C (n+1) 52 a=runF (C n) bR a:=rfl
theorem jV (n:O)(a:U W):C (n+1) 60 a=runF (C n) bU a:=rfl
theorem kG (n:O)(a:U W):C (n+1) 61 a=runF (C n) bS a:=rfl
theorem d5 (n:O)(a:U W):C (n+1) 72 a=runF (C n) aT a:=rfl
theorem dY (n:O)(a:U W):C (n+1) 73 a=runF (C n) aU a:=rfl
theorem ij (n:O)(a:U W):C (n+1) 130 a=runF (C n) cW a:=rfl
theorem fu (n:O)(a:U W):C (n+1) 175 a=runF (C n) aL a:=rfl
theorem iH (n:O)(a:U W):C (n+1) 176 a=runF (C n) cK a:=rfl
theorem gL (n:O)(a:U W):C (n+1) 448 a=runF (C n) bj a:=rfl
theorem fg (n:O)(a:U W):C (n+1) 455 a=spoV n a:=rfl
theorem dM (n:O)(a:U W):C (n+1) 456 a=runF (C n) aq a:=rfl
theorem fU (n:O)(a:U W):C (n+1) 464 a=runF (C n) a6 a:=rfl
theorem jM (n:O)(a:U W):C (n+1) 466 a=runF (C n) f_reading a:=rfl
theorem bh (n:O)(a:U W):C (n+1) 467 a=runF (C n) aI a:=rfl
theorem mI (n:O)(a:U W):C (n+1) 468 a=runF (C n) cA a:=rfl
theorem hZ (n:O)(a:U W):C (n+1) 469 a=runF (C n) bo a:=rfl
theorem iY (n:O)(a:U W):C (n+1) 470 a=runF (C n) ba a:=rfl
theorem fN (n:O)(a:U W):C (n+1) 471 a=runF (C n) f_each_worth a:=rfl
theorem fH (n:O)(a:U W):C (n+1) 472 a=runF (C n) f_times_worth a:=rfl
theorem sQ (n:O)(a:U W):C (n+1) 473 a=runF (C n) eW a:=rfl
theorem iG (n:O)(a:U W):C (n+1) 474 a=runF (C n) f_law_rows a:=rfl
theorem qeq (a b:Jm):(q a==q b)=(a==b):=by
 by_cases h:a=b
 .subst h;simp
 .have g:q a≠q b:=fun z=>h (by
   have:=Jk (λs:Str=>s.cps.toList) z;rw[q,Str.ofString_eq_toList,Str.ofString_eq_toList] at this;simp only at this
   have j:a.toList=b.toList:=by
    have inj:∀f e:U Char,f.map Char.toNat=e.map Char.toNat->f=e:=by
     intro f;induction f with
     |nil=>intro e h;cases e with
      |nil=>rfl
      |cons=>cases h
     | cons c cs k=>intro e h; cases e with
      |nil=>cases h
      |cons d ds=>
       rw[Eo,Eo] at h;injection h with i g
       rw[k ds g,Char.toNat_inj.mp i]
    exact inj _ _<|by simpa using this
   exact String.toList_inj.mp j)
  rw[beq_eq_false_iff_ne.mpr g,beq_eq_false_iff_ne.mpr h]
theorem af (t:T):look (.s,t)=Y (.s,t):=rfl
theorem lI (C:Call):∀(a b:U S) (c:Env),evSs C (a++b) c=(evSs C a c).seq (evSs C b)
|[],b,c=>rfl
|s::a,b,c=>by show(evS C s c).seq (evSs C<|a++b)=((evS C s c).seq<|evSs C a).seq (evSs C b);cases evS C s c<;>first|rfl|exact lI C a b _
theorem go1 {C:Call}{a b:U S}{d c:Env}(h:evSs C a d=.nx c):evSs C (a++b) d=evSs C b c:=by rw[lI,h];rfl
abbrev Bk (f:Fn)(i j:O):U S:=(f.body.drop i).take j
theorem uU (a:U O)(f:Env->Fl)(x:U W)(r:U<|U W)(b:Env):cS a f (x::r) b=Fl.of b (ofO<|aR a x b) λc=>Fl.turn (f c) (cS a f r):=rfl
theorem qV (b:U O)(f:Env->Fl)(a:Env):cS b f [] a=.nx a:=rfl
theorem eC {tg:U O}{f:Env->Fl}{ws:U W}{r:U<|U W}{η a b:Env}(c:aR tg ws η=Y a)(d:f a=.nx b):cS tg f (ws::r) η=cS tg f r b:=by rw[uU,c];show Fl.turn (f a) _=_;rw[d];rfl
theorem iA {C:Call}{vs f:U O}{k:Ik}{c:U E}{d:U O}{a r:U S}{b i e:Env}{h:U W}{g:U<|U W}(j:evL C c (pick vs f b)=.ok (h,i))(l:turns k h=Y g)(m:cS d (evSs C a) g (share vs b)=.nx e):evSs C (.forS vs f k c d a::r) b=evSs C r e:=by rw[iE];show Fl.seq (Fl.of b (evL C c<|pick vs f b)<|qg vs k d (evSs C a) b) _=_;rw[j];show Fl.seq (Fl.of b (ret (share vs b)<|turns k h)<|kN d<|evSs C a) _=_;rw[l];show Fl.seq (cS d (evSs C a) g<|share vs b) _=_;rw[m];rfl
theorem xW (h:IZ)(m n:Md)(a b:T)(c:dp a<=64)(e:dp b<=64):oSem .ne h [(m,a),(n,b)]=Y (.d,.bl<|!eqT a b):=by show(if decide (dp a<=64)&&decide (dp b<=64) then _ else _)=_;rw[I0 c,I0 e];rfl
mutual
theorem lN:∀t:T,dp t<1000->eqT t t=DY
|.non,_=>rfl
|.bl b,_=>by show(b==b)=DY;rw[Jr]
|.int i,_=>by show(i==i)=DY;rw[Jr]
|.str x,_=>by show(x==x)=DY;rw[Jr]
|.tup ts,h=>eR ts<|HL h
|.lst ts,h=>eR ts<|HL h
|.dct _ _,h=>Jb h<|by show¬1000<1000;lia
|.ins _ _ _,h=>Jb h<|by show¬1000<1000;lia
|.obj _ _ _,h=>Jb h<|by show¬1000<1000;lia
|.dtt _ _,h=>Jb h<|by show¬1000<1000;lia
|.scr _,h=>Jb h<|by show¬1000<1000;lia
|.gone,h=>Jb h<|by show¬1000<1000;lia
theorem eR:∀ts:U T,dps ts<1000->eqTs ts ts=DY
|[],_=>rfl
|t::ts,h=>by have h:max (dp t) (dps ts)<1000:=h;show(eqT t t&&eqTs ts ts)=DY;rw[lN t<|by lia,eR ts<|by lia];rfl
end
mutual
def szb (n:O):T->IZ
|.lst ts=>decide (ts.length<=n)&&aA n ts
|.tup ts=>decide (ts.length<=n)&&aA n ts
|_=>DY
def aA (n:O):U T->IZ
|[]=>DY
|t::ts=>szb n t&&aA n ts
end
mutual
theorem nF {n:O}(hn:n<LIM):∀t:T,szb n t=DY->szS t=DY
|.lst ts,h=>by obtain⟨h1,h2⟩:=El.mp<|show(decide (ts.length<=n)&&aA n ts)=DY from h;show(decide (ts.length<LIM)&&szSs ts)=DY;rw[I0<|FE (Ji h1) hn,iu hn ts h2];rfl
|.tup ts,h=>by obtain⟨h1,h2⟩:=El.mp<|show(decide (ts.length<=n)&&aA n ts)=DY from h;show(decide (ts.length<LIM)&&szSs ts)=DY;rw[I0<|FE (Ji h1) hn,iu hn ts h2];rfl
|.non,_=>rfl | .bl _,_=>rfl | .int _,_=>rfl | .str _,_=>rfl | .dct _ _,_=>rfl | .ins _ _ _,_=>rfl | .obj _ _ _,_=>rfl | .dtt _ _,_=>rfl | .scr _,_=>rfl | .gone,_=>rfl
theorem iu {n:O}(hn:n<LIM):∀ts:U T,aA n ts=DY->szSs ts=DY
|[],_=>rfl
|t::ts,h=>by obtain⟨h1,h2⟩:=El.mp<|show(szb n t&&aA n ts)=DY from h;show(szS t&&szSs ts)=DY;rw[nF hn t h1,iu hn ts h2];rfl
end
theorem fx:∀a:U T,(spos a).length=a.length
|[]=>rfl
|_::a=>by show(spos a).length+1=_;rw[fx a];rfl
theorem eY (n:O):∀a b:U T,aA n a=DY->aA n b=DY->aA n (a++b)=DY
|[],_,_,h=>h
|t::a,b,h,c=>by obtain⟨d,e⟩:=El.mp<|show(szb n t&&aA n a)=DY from h;show(szb n t&&aA n (a++b))=DY;rw[d,eY n a b e c];rfl
mutual
theorem gE {n:O}:∀t:T,szb n t=DY->szb (n+1) (spo t)=DY
|.lst ts,h=>by obtain⟨h1,h2⟩:=El.mp<|show(decide (ts.length<=n)&&aA n ts)=DY from h;show(decide ((spos ts++[T.int 7]).length<=n+1)&&aA (n+1) (spos ts++[.int 7]))=DY;rw[eY _ _ _ (fE ts h2) rfl,Er,fx,show([T.int 7]:U T).length=1 from rfl,I0<|show ts.length+1<=n+1 from F7<|Ji h1];rfl
|.tup ts,h=>by obtain⟨h1,h2⟩:=El.mp<|show(decide (ts.length<=n)&&aA n ts)=DY from h;show(decide ((spos ts).length<=n+1)&&aA (n+1) (spos ts))=DY;rw[fE ts h2,fx,I0<|HK<|Ji h1];rfl
|.non,_=>rfl | .bl _,_=>rfl | .int _,_=>rfl | .str _,_=>rfl | .dct _ _,_=>rfl | .ins _ _ _,_=>rfl | .obj _ _ _,_=>rfl | .dtt _ _,_=>rfl | .scr _,_=>rfl | .gone,_=>rfl
theorem fE {n:O}:∀ts:U T,aA n ts=DY->aA (n+1) (spos ts)=DY
|[],_=>rfl
|t::ts,h=>by obtain⟨h1,h2⟩:=El.mp<|show(szb n t&&aA n ts)=DY from h;show(szb (n+1) (spo t)&&aA (n+1) (spos ts))=DY;rw[gE t h1,fE ts h2];rfl
end
theorem ir:∀a b:U T,dps (a++b)=max (dps a) (dps b)
|[],b=>by show dps b=max 0 (dps b);lia
|t::a,b=>by show max (dp t) (dps<|a++b)=max (max (dp t)<|dps a) (dps b);rw[ir a b];lia
mutual
theorem jQ:∀t:T,dp (spo t)=dp t
|.lst ts=>by show dps (spos ts++[.int 7])+1=dps ts+1;rw[ir,gM ts];show max (dps ts) (max 0 0)+1=_;lia
|.tup ts=>by show dps (spos ts)+1=_;rw[gM ts];rfl
|.non=>rfl | .bl _=>rfl | .int _=>rfl | .str _=>rfl | .dct _ _=>rfl | .ins _ _ _=>rfl | .obj _ _ _=>rfl | .dtt _ _=>rfl | .scr _=>rfl | .gone=>rfl
theorem gM:∀ts:U T,dps (spos ts)=dps ts
|[]=>rfl
|t::ts=>by show max (dp<|spo t) (dps<|spos ts)=_;rw[jQ t,gM ts];rfl
end
theorem qR (a:U T):isOne "list" (.lst a)=true:=rfl
theorem nD (a:U T):isOne "tuple" (.lst a)=false:=rfl
theorem vK (a:U T):isOne "list" (.tup a)=false:=rfl
theorem vY (a:U T):isOne "tuple" (.tup a)=true:=rfl
theorem vD (i:I):isOne "list" (.int i)=false:=rfl
theorem vZ (i:I):isOne "tuple" (.int i)=false:=rfl
theorem vM (b:IZ):isOne "list" (.bl b)=false:=rfl
theorem wc (b:IZ):isOne "tuple" (.bl b)=false:=rfl
theorem vN (x:Str):isOne "list" (.str x)=false:=rfl
theorem vO (x:Str):isOne "tuple" (.str x)=false:=rfl
theorem vq:isOne "list" .non=false:=rfl
theorem v7:isOne "tuple" .non=false:=rfl
def cm (m:Md)(t:T):Md:=if t.leaf then m else .d
theorem zd (t:T):okD (cm .s t,t)=true:=by unfold okD cm;cases h:t.leaf<;>simp[h]
theorem bB {b:Type}(f:b->Md)(g:b->T):∀a:U b,trees (a.map λx=>(f x,g x))=a.map g
|[]=>rfl
|x::a=>by show g x::trees _=g x::a.map g;rw[bB f g a]
theorem kQ {a:U T}{u:T}(h:u∈a):dp u<=dps a:=by
 induction a with
 |nil=>cases h
 |cons t a b=>
  show dp u<=max (dp t) (dps a);rcases Ee.mp h with rfl|h
  .lia
  .have:=b h;lia
theorem DL:∀(d:O) (t:T) (n:O) (m:Md),dp t<=d->d<1000->C (n+d+1) 456 [(m,t)]=.ok ((cm m t,t),[]):=by
 intro d;induction d with
 |zero=>
  intro t n m h l;rw[dM,x_run _ _ _ rfl];cases t with
  |bl b=>simp_all only[aq,EE,EU,vM,wc,EO];rfl
  |int i=>simp_all only[aq,EE,EU,vD,vZ,EO];rfl
  |str i=>simp_all only[aq,EE,EU,vN,vO,EO];rfl
  |non=>simp_all only[aq,EE,EU,vq,v7,EO];rfl
  |lst a=>exact Jb h<|by show¬dps a+1<=0;lia
  |tup a=>exact Jb h<|by show¬dps a+1<=0;lia
  |_=>exact Jb h<|by show¬1000<=0;lia
 | succ d g =>
  intro t n m h l;rw[show n+(d+1)+1=(n+d+1)+1 by lia,dM,x_run _ _ _ rfl];have ok:∀a:U T,(a.map λu=>((cm .s u,u):W)).all okD=true:=λa=>F8.mpr λw o=>by obtain⟨u,_,rfl⟩:=FN.mp o;exact zd u
  have j:∀a:U T,(∀u∈a,dp u<=d)->∀c o2:B W,aP [1] (dW (evE (C (n+d+1)) (.call 456 [.var 1]))) (a.map λt=>[((.s,t):W)]) [c,J,o2] []=.ok ([]++a.map λu=>(cm .s u,u),[c,J,o2]):=by intro a e c o2;refine bO (λu=>((cm .s u,u):W)) a [] λu f=>⟨_,[c,Y (.s,u),o2],rfl,?_,rfl⟩;simp_all only[af,g u n .s (e u f)<|by lia]
  have k:∀a:U T,(∀u∈a,dp u<=d)->∀c o2:B W,aP [2] (dW (evE (C (n+d+1)) (.call 456 [.var 2]))) (a.map λt=>[((.s,t):W)]) [c,o2,J] []=.ok ([]++a.map λu=>(cm .s u,u),[c,o2,J]):=by intro a e c o2;refine bO (λu=>((cm .s u,u):W)) a [] λu f=>⟨_,[c,o2,Y (.s,u)],rfl,?_,rfl⟩;simp_all only[af,g u n .s (e u f)<|by lia]
  cases t with
  |bl b=>simp_all only[aq,EE,EU,vM,wc,EO];rfl
  |int i=>simp_all only[aq,EE,EU,vD,vZ,EO];rfl
  |str i=>simp_all only[aq,EE,EU,vN,vO,EO];rfl
  |non=>simp_all only[aq,EE,EU,vq,v7,EO];rfl
  |lst a=>have h:dps a+1<=d+1:=h;simp_all only[aq,EE,EU,qR,nD,EO,j a (λu f=>by have:=kQ f;lia),ok,bB<|cm .s,IB];rfl
  |tup a=>have h:dps a+1<=d+1:=h;simp_all only[aq,EE,EU,vK,vY,EO,k a (λu f=>by have:=kQ f;lia),ok,bB<|cm .s,IB];rfl
  |_=>exact Jb h<|by show¬1000<=d+1;lia
theorem wH {b:Type}(a:b)(r:U b):cut (a::r) (Y 1) J=r:=by unfold cut sIx;simp
theorem Dc {c:Type}(a b:c)(r:U c):cut (a::b::r) (Y 2) J=r:=by unfold cut sIx;simp
theorem ke (h:IZ)(m n:Md)(a:U T)(i:I):oSem .sl1 h [(m,.tup a),(n,.int i)]=Y (.s,.tup<|cut a (Y i) J):=rfl
theorem qc (n:O)(s:Str)(m:Md):C (n+1) 175 [(m,.str s)]=.ok ((.d,.int<|if keys_AHEAD.contains s then 2 else 1),[]):=by
 rw[fu,x_run _ _ _ rfl];cases h:keys_AHEAD.contains s with
 |true=>simp_all only[aL,h,E9]
 |false=>simp_all only[aL,h,E9]
theorem kB (n:O){s:Str}(r:U T)(h:keys_AHEAD.contains s=DX)(m:Md):C (n+2) 176 [(m,.tup (.str s::r))]=.ok ((.s,.tup r),[]):=by have e:=λm=>qc n s m;rw[h] at e;rw[show n+2=(n+1)+1 from rfl,iH,x_run _ _ _ rfl];simp_all only[cK,e,ke,wH]
theorem gR (n:O){s:Str}(x:T)(r:U T)(h:keys_AHEAD.contains s=DY)(m:Md):C (n+2) 176 [(m,.tup (.str s::x::r))]=.ok ((.s,.tup r),[]):=by have e:=λm=>qc n s m;rw[h] at e;rw[show n+2=(n+1)+1 from rfl,iH,x_run _ _ _ rfl];simp_all only[cK,e,ke,Dc]
abbrev EN:=U<|Str×T
noncomputable abbrev dK (e:EN):U (I ⊕ Str):=e.map λp=>.inr p.1
abbrev dV (e:EN):U T:=e.map λp=>p.2
abbrev dE (e:EN):T:=.dct (dK e)<|dV e
abbrev aN:U Str:=[q "names",q "turns",q "rounds",q "book"]
abbrev aE (e:EN)(tn a:U T):T:=.obj c6 aN [dE e,.tup tn,.tup a,.non]
abbrev nmT (x:Str):T:=.tup [.str<|q "name",.str x]
theorem vR (x:Str):∀e:EN,lookD (.inr x) (dK e) (dV e)=e.lookup x
|[]=>rfl
| (y,k)::e=>by
 show(if(Fh y:I ⊕ Str)=.inr x then Y k else lookD (.inr x) (dK e)<|dV e)=_;rw[vR x e,Fc];by_cases h:y=x
 .subst h;rw[Jc rfl,Jr]
 .rw[Jd λz=>h<|Hi z,beq_eq_false_iff_ne.mpr<|EB h]
theorem wZ (x:Str)(k:T):∀e:EN,e.lookup x=J->aQ (.inr x) k (dK e) (dV e)=(dK<|e++[(x,k)],dV<|e++[(x,k)])
|[],_=>rfl
| (y,l)::e,h=>by
 rw[Fc] at h;by_cases a:x=y
 .subst a;rw[Jr] at h;cases h
 .rw [beq_eq_false_iff_ne.mpr a] at h;have b:=wZ x k e h;show(if(Fh y:I ⊕ Str)=.inr x then _ else _)=_;rw[Jd λz=>a (Hi z).symm];show(_::(aQ (.inr x) k (dK e)<|dV e).1,_::(aQ (.inr x) k (dK e)<|dV e).2)=_;rw[b];rfl
theorem an (e:EN)(tn a:U T):lookF (q "names") aN [dE e,.tup tn,.tup a,.non]=Y (dE e):=by simp[lookF]
theorem at_ (e:EN)(tn a:U T):lookF (q "turns") aN [dE e,.tup tn,.tup a,.non]=Y (.tup tn):=by simp[lookF,qeq]
theorem ar (e:EN)(tn a:U T):lookF (q "rounds") aN [dE e,.tup tn,.tup a,.non]=Y (.tup a):=by simp[lookF,qeq]
theorem ab (e:EN)(tn a:U T):lookF (q "book") aN [dE e,.tup tn,.tup a,.non]=Y .non:=by simp[lookF,qeq]
theorem Cn (e:EN):lfM (dE e)=.s:=rfl
theorem CQ (a:U T):lfM (.tup a)=.s:=rfl
theorem jL:lfM .non=.d:=rfl
theorem vL (m:Md)(e:EN):lf m (dE e)=m:=rfl
theorem bD (m:Md)(c:O)(fs:U Str)(a:U T):lf m (.obj c fs a)=m:=rfl
theorem nG:T.isG .non=false:=rfl
theorem nN:T.isN .non=true:=rfl
theorem rM {e:EN}{x:Str}{v:T}(h:e.lookup x=Y v)(a:O)(p tn g:U T)(c d f:Md):C (a+1) 467 [(c,nmT x),(d,.tup p),(f,aE e tn g)]=.ok ((.s,v),[]):=by rw[bh,x_run _ _ _ rfl];have b:keyT (.str x)=Y (.inr x):=rfl;simp_all only[aI,qeq,af,an,Cn,b,vR,h]
theorem jB {m:Md}(a:m≠.s){e:EN}{x:Str}{k:T}(hx:e.lookup x=J)(f:e.length<=100)(b c:Md):cz (m,dE e) (b,.str x) (c,k)=Y (.o .s,dE<|e++[(x,k)]):=by
 have e1:decide ((dK e).length<LIM)=true:=I0 (by rw[Ea];show _<16777215;lia);cases m with
 |s=>exact Jb rfl a
 |d=>show(if decide ((dK e).length<LIM)=DY then Y ((.o .s,.dct (aQ (.inr x) k (dK e)<|dV e).1 (aQ (.inr x) k (dK e)<|dV e).2):W) else J)=_;rw[Jc e1,wZ x k e hx]
 |o m=>show(if decide ((dK e).length<LIM)=DY then Y ((.o .s,.dct (aQ (.inr x) k (dK e)<|dV e).1 (aQ (.inr x) k (dK e)<|dV e).2):W) else J)=_;rw[Jc e1,wZ x k e hx]
theorem jx (v:T):lf .s v=.d\/lf .s v=.s:=by
 unfold lf;cases v.leaf with
 |true=>exact .inl rfl
 |false=>exact .inr rfl
theorem dt {e:EN}{x:Str}(v:T)(hx:e.lookup x=J)(i:e.length<=100){tn rn tu tu':U T}(p:tn.length<=50)(r:rn.length<=50)(t:tu.length<=1)(u:tu'.length<=1)(a:O)(b c j l:Md):C (a+1) 468 [(.s,aE e tn rn),(b,.str x),(c,v),(j,.tup tu),(l,.tup tu')]=.ok ((.o .s,aE (e++[(x,v)]) (tn++tu)<|rn++tu'),[]):=by have g:fits (tn.length+tu.length)=true:=I0 (by show _<=16777215;lia);have h:fits (rn.length+tu'.length)=true:=I0 (by show _<=16777215;lia);have n:=λb c=>jB (m:=.o .s) (k:=v) (by decide) hx i b c;have f:decide (aN.length=[((.o .s,dE (e++[(x,v)])):W),(.s,.tup (tn++tu)),(.s,.tup (rn++tu')),(.d,.non)].length+([]:U I).length)=true:=rfl;rw[mI,x_run _ _ _ rfl];rcases jx v with hm|hm<;>simp_all only[cA,af,an,at_,ar,ab,Cn,CQ,jL,vL,hm,n,g,h,f]
theorem pP (m:Md):m.meet .d=m:=by cases m<;>rfl
structure Sg (s:Jm):Prop where
 a:keys_AHEAD.contains (q s)=DX
 b:(q s==q "name")=DX
 c:keys_WAYS.contains (q s)=DX
 d:(q s==q "num")=DX
def cs (s:Jm):IZ:=!(keys_AHEAD.contains<|q s)&&!(q s==q "name")&&!(keys_WAYS.contains<|q s)&&!(q s==q "num")
theorem bK {s:Jm}(h:cs s=DY):Sg s:=by unfold cs at h;simp only[Ew,Bool.not_eq_true'] at h;obtain⟨⟨⟨a,b⟩,c⟩,d⟩:=h;exact⟨a,b,c,d⟩
theorem lp {s:Jm}{r b:U T}{w:T}{c mv:Md}{f a:O}(S:Sg s)(i:keys_WORDS.contains (q s)=DX)(g:tab_DOINGS.lookup (q s)=Y f)(e:C a f [(.s,.lst b)]=.ok ((c,w),[]))(h:lf c w=mv):C (a+1) 130 [(.s,.tup (.str (q s)::r)),(.s,.lst b)]=.ok ((mv.up,.tup [w,.non]),[]):=by rw[ij,x_run _ _ _ rfl];simp_all only[cW,af,i,E9,S.d,nG,nN,g,e,h,pP]
theorem qp {s:Jm}{r b:U T}{w:T}{e mv:Md}{f g a:O}(S:Sg s)(l:keys_WORDS.contains (q s)=DY)(j:tab_WORDS.lookup (q s)=Y g)(c:C a g [(.s,.lst b)]=.ok ((.d,.non),[]))(i:tab_DOINGS.lookup (q s)=Y f)(h:C a f [(.s,.lst b)]=.ok ((e,w),[]))(k:lf e w=mv):C (a+1) 130 [(.s,.tup (.str (q s)::r)),(.s,.lst b)]=.ok ((mv.up,.tup [w,.non]),[]):=by rw[ij,x_run _ _ _ rfl];simp_all only[cW,af,l,E9,S.d,nG,nN,j,c,i,h,k,pP]
theorem do_first (c:O)(a b:T):C (c+1) 43 [(.s,.lst [.tup [a,b]])]=.ok ((.s,a),[]):=by rw[i5,x_run _ _ _ rfl];simp_all only[bC,af]
theorem do_second (c:O)(a b:T):C (c+1) 44 [(.s,.lst [.tup [a,b]])]=.ok ((.s,b),[]):=by rw[g9,x_run _ _ _ rfl];simp_all only[bf,af]
theorem do_one (b:O)(a:T):C (b+1) 45 [(.s,.lst [a])]=.ok ((.o .s,.lst [a]),[]):=by rw[l7,x_run _ _ _ rfl];simp_all only[cx,af]
theorem do_upto (a:O):C (a+1) 46 [(.s,.lst [.int 3])]=.ok ((.d,.lst [.int 0,.int 1,.int 2]),[]):=by kernel_rfl
theorem do_pair {a b:T}(d:lf .s a=.s)(e:lf .s b=.s)(c:O):C (c+1) 60 [(.s,.lst [a,b])]=.ok ((.o .s,.tup [a,b]),[]):=by rw[jV,x_run _ _ _ rfl];simp_all only[bU,af,d,e]
theorem do_pick (b:O)(a:T)(r:U T):C (b+1) 61 [(.s,.lst [.lst (a::r),.int 0])]=.ok ((.s,a),[]):=by rw[kG,x_run _ _ _ rfl];simp_all only[bS,af]
theorem do_join (a:O){b c:U T}(h:fits (b.length+c.length)=DY):C (a+1) 52 [(.s,.lst [.lst b,.lst c])]=.ok ((.o .s,.lst<|b++c),[]):=by rw[kd,x_run _ _ _ rfl];simp_all only[bR,af,Jc h]
theorem uH (a:O):C (a+2) 64 [(.s,.lst [.int 3])]=.ok ((.d,.non),[]):=by kernel_rfl
theorem rN (b:O){a:T}{r:U T}:C (b+2) 72 [(.s,.lst [.lst (a::r),.int 0])]=.ok ((.d,.non),[]):=by
 have c:decide ((0:I)<=0)=true:=rfl;have e:decide ((0:I)<((a::r).length:O))=true:=I0 (by rw[Ef];lia);have e1:∀m n,C (b+1) 31 [(m,.int ((a::r).length:O)),(n,.int 0)]=.ok ((.d,.non),[]):=λm n=>by rw[fj,x_run _ _ _ rfl];simp_all only[aW,c,e]
 rw[show b+2=(b+1)+1 from rfl,d5,x_run _ _ _ rfl];simp_all only[aT,af,e1]
theorem tV (a:O){b c:U T}(h:b.length+c.length<=200):C (a+2) 73 [(.s,.lst [.lst b,.lst c])]=.ok ((.d,.non),[]):=by
 have e:decide (((b.length:O):I)+((c.length:O):I)<=200)=true:=I0 (by lia);have e1:∀m,C (a+1) 34 [(m,.int (((b.length:O):I)+((c.length:O):I)))]=.ok ((.d,.non),[]):=λm=>by rw[gB,x_run _ _ _ rfl];simp_all only[bg,e]
 rw[show a+2=(a+1)+1 from rfl,dY,x_run _ _ _ rfl];simp_all only[aU,af,e1]
def Ev (d:O)(e:EN)(t v:T)(h:Md):Prop:=∀a,d+8<=a->∀(p tn b:U T) (c f g:Md),p.length+d<=50->tn.length+d<=50->b.length+d<=50->C a 467 [(c,t),(f,.tup p),(g,aE e tn b)]=.ok ((h,v),[])
theorem bb {d:O}{e:EN}{x:Str}{v:T}(h:e.lookup x=Y v):Ev d e (nmT x) v .s:=λa i p tn g b c f _ _ _=>by obtain⟨l,rfl⟩:∃l,a=l+1:=⟨a-1,by lia⟩;exact rM h l p tn g b c f
theorem kx {d:O}{e:EN}(i:I):Ev d e (.tup [.str<|q "num",.int i]) (.int i) .d:=λa g p tn n h j k _ _ _=>by
 obtain⟨l,rfl⟩:∃l,a=l+3:=⟨a-3,by lia⟩;have b:keys_AHEAD.contains (q "num")=true:=by kernel_rfl
 have c:keys_WAYS.contains (q "num")=false:=by kernel_rfl
 have f:keys_WORDS.contains (q "num")=false:=by kernel_rfl
 have e1:=λm=>gR l (s:=q "num") (.int i) [] b m;have e2:C (l+2) 130 [(.s,.tup [.str (q "num"),.int i]),(.s,.lst [])]=.ok ((.d,.tup [.int i,.non]),[]):=by rw[show l+2=(l+1)+1 from rfl,ij,x_run _ _ _ rfl];simp_all only[cW,af,f,E9,nG,nN,qeq]
 rw[show l+3=(l+2)+1 from rfl,bh,x_run _ _ _ rfl];simp_all only[aI,qeq,af,c,E9,e1,bT,aP,e2,nG,nN,ab,jL]
theorem hW {d:O}{e:EN}{s:Jm}{a v w:T}{t mw:Md}(S:Sg s)(o:Ev d e a v t)(r:∀l,C (l+3) 130 [(.s,.tup [.str<|q s,a]),(.s,.lst [v])]=.ok ((mw.up,.tup [w,.non]),[])):Ev (d+1) e (.tup [.str<|q s,a]) w mw:=λf z p tn u g h i hp x y=>by obtain⟨l,rfl⟩:∃l,f=l+4:=⟨f-4,by lia⟩;have e1:=λm=>kB (l+1) (s:=q s) [a] S.a m;have n:fits (p.length+[T.int ((0:O):I)].length)=true:=I0 (by show p.length+1<=16777215;lia);have j:=λg h i=>o (l+3) (by lia) (p++[.int ((0:O):I)]) tn u g h i (by rw[Er];show p.length+1+d<=50;lia) (by lia) (by lia);have k:=r l;rw[show l+4=(l+3)+1 from rfl,bh,x_run _ _ _ rfl];cases mw<;>simp_all only[aI,S.b,S.c,af,E9,e1,bT,aP,HZ,n,j,k,nG,nN,ab,jL,bD]
theorem ka {d:O}{e:EN}{s:Jm}{a b v u w:T}{F G k:Md}(S:Sg s)(z:Ev d e a v F)(A:Ev d e b u G)(D:∀l,C (l+3) 130 [(.s,.tup [.str<|q s,a,b]),(.s,.lst [v,u])]=.ok ((k.up,.tup [w,.non]),[])):Ev (d+1) e (.tup [.str<|q s,a,b]) w k:=λf N p tn o g h j hp H M=>by
 obtain⟨l,rfl⟩:∃l,f=l+4:=⟨f-4,by lia⟩;have e1:=λm=>kB (l+1) (s:=q s) [a,b] S.a m;have y:∀i:I,fits (p.length+[T.int i].length)=true:=λi=>I0 (by show p.length+1<=16777215;lia);have n:∀i:I,(p++[T.int i]).length+d<=50:=λi=>by rw[Er];show p.length+1+d<=50;lia
 have r:=λg h j=>z (l+3) (by lia) (p++[.int ((0:O):I)]) tn o g h j (n _) (by lia) (by lia);have t:=λg h j=>A (l+3) (by lia) (p++[.int ((0+1:O):I)]) tn o g h j (n _) (by lia) (by lia);have x:=D l;rw[show l+4=(l+3)+1 from rfl,bh,x_run _ _ _ rfl];cases k<;>simp_all only[aI,S.b,S.c,af,E9,e1,bT,aP,HZ,y,r,t,x,nG,nN,ab,jL,bD]
theorem lj (a:O)(t:T)(p:U T)(e:EN)(tn h:U T)(b c f g:Md)(i:I):C (a+1) 464 [(b,t),(c,.tup p),(f,aE e tn h),(g,.int i)]=.ok ((.d,.non),[]):=by rw[fU,x_run _ _ _ rfl];simp_all only[a6,af,nG,nN,ab,jL,bD]
theorem gC {s:Jm}{f L:O}{r:U T}{e:EN}{p tn g:U T}{d:Md}{v:T}(i:(q s==q "name")=DX)(j:keys_WAYS.contains (q s)=DY)(k:tab_WAYS.lookup (q s)=Y f)(h:∀a b c,C L f [(a,.tup (.str (q s)::r)),(b,.tup p),(c,aE e tn g)]=.ok ((d,v),[]))(a b c:Md):C (L+1) 467 [(a,.tup (.str (q s)::r)),(b,.tup p),(c,aE e tn g)]=.ok ((d,v),[]):=by rw[bh,x_run _ _ _ rfl];simp_all only[aI,i,j,E9,af,k,h,bD]
theorem ox {p:U T}{d:O}(t:T)(h:p.length+(d+2)<=50):fits (p.length+[t].length)=true:=I0<|by show p.length+1<=16777215;lia
theorem ck {p:U T}{d:O}(t:T)(h:p.length+(d+2)<=50):(p++[t]).length+d<=50:=by rw[Er];show p.length+1+d<=50;lia
theorem zp {d:O}{e:EN}{x:Str}{a b v u:T}{i:Md}(r:Ev d e a v .s)(z:lf .s v=.s)(hx:e.lookup x=J)(y:e.length<=100)(w:Ev d (e++[(x,v)]) b u i):Ev (d+2) e (.tup [.str<|q "let",.str x,a,b]) u i:=λL H p tn rn h c g hp F G=>by obtain⟨l,rfl⟩:∃l,L=l+5:=⟨L-5,by lia⟩;refine gC (L:=l+4) (s:="let") (f:=469) (by kernel_rfl) (by kernel_rfl) (by kernel_rfl) (λh c g=>?_) h c g;have e1:=λm=>gR (l+1) (s:=q "let") (.str x) [a,b] (by kernel_rfl) m;have o:=λt=>ox t hp;have j:=λh c g=>r (l+3) (by lia) (p++[.int 0]) tn rn h c g (ck _ hp) (by lia) (by lia);have n:=λc g A D=>dt (x:=x) v hx y (tn:=tn) (rn:=rn) (tu:=[]) (tu':=[]) (by lia) (by lia) (by decide) (by decide) (l+2) c g A D;have k:=λh c g=>w (l+3) (by lia) (p++[.int 1]) tn rn h c g (ck _ hp) (by lia) (by lia);rw[show l+4=(l+3)+1 from rfl,hZ,x_run _ _ _ rfl];simp_all only[bo,af,e1,o,j,n,k,bD,z]
theorem Cm {d:O}{e:EN}{c a b v u:T}{t:IZ}(y:Ev d e c (.bl t) .d)(w:Ev d e a v .s)(x:Ev d e b u .s)(A:lf .s v=.s)(z:lf .s u=.s):Ev (d+2) e (.tup [.str<|q "if",c,a,b]) (if t then v else u) .s:=λL G p tn j g h i hp D F=>by
 obtain⟨l,rfl⟩:∃l,L=l+5:=⟨L-5,by lia⟩;refine gC (L:=l+4) (s:="if") (f:=470) (by kernel_rfl) (by kernel_rfl) (by kernel_rfl) (λg h i=>?_) g h i;have e1:=λm=>kB (l+1) (s:=q "if") [c,a,b] (by kernel_rfl) m;have n:=λt=>ox t hp;have k:=λg h i=>y (l+3) (by lia) (p++[.int 0]) tn j g h i (ck _ hp) (by lia) (by lia);have o:=λg h i=>w (l+3) (by lia) (p++[.int 1]) tn j g h i (ck _ hp) (by lia) (by lia);have r:=λg h i=>x (l+3) (by lia) (p++[.int 2]) tn j g h i (ck _ hp) (by lia) (by lia);rw[show l+4=(l+3)+1 from rfl,iY,x_run _ _ _ rfl];cases t with
 |true=>simp_all only[ba,af,e1,n,k,o,bD,nG,nN,ab,jL,A]
 |false=>simp_all only[ba,af,e1,n,k,r,bD,nG,nN,ab,jL,z]
abbrev eB:U S:=[
 .asg (.q [0,2,6] [5]) 7 (.call 468 [.var 2,.op .ix DX [.var 0,.cst<|.int 1],.var 6,.tup [.var 5],.tup []]),
 .app (.q [1,3,7] []) 4 (.call 467 [.op .ix DX [.var 3,.cst<|.int 1],.op .catT DX [.var 1,.tup [.cst<|.int 1]],.var 7])]
theorem lq {d:O}{e:EN}{x:Str}{a b:T}{p tn rn:U T}{l:O}(g:T->T)(hx:e.lookup x=J)(hl:e.length<=100)(hL:d+10<=l+5)(hp:p.length+(d+2)<=50)(h1:tn.length+(d+2)<=50)(h2:rn.length+(d+2)<=50)(Q:U T):∀(i c:U T) (k:O) (y:Md) (F j m G:Md) (M N P:B W),c.length+i.length<1000->(y=.d\/y=.o .s)->(∀t∈i,lf .s (g t)=.s)->(∀t∈i,Ev d (e++[(x,t)]) b (g t) .s)->∃f n r v w z A D,(f=.d\/f=.o .s)/\(i=[]->f=y)/\(i≠[]->f=.o .s)/\cS [5,6] (evSs (C<|l+3) eB) (bT .s k i) [Y (F,.tup (T.str (q "each")::.str x::Q)),Y (j,.tup p),Y (m,aE e tn rn),Y (G,.tup [a,b]),Y (y,.lst c),M,N,P]=.nx [Y (n,.tup (T.str (q "each")::.str x::Q)),Y (r,.tup p),Y (v,aE e tn rn),Y (w,.tup [a,b]),Y (f,.lst<|c++i.map g),z,A,D]
|[],c,k,y,F,j,m,G,M,N,P,_,hm,_,_=>⟨y,F,j,m,G,M,N,P,hm,λ_=>rfl,λh=>Jb rfl h,by rw[FA,EW];rfl⟩
| t::i,c,k,y,F,j,m,G,M,N,P,hn,hm,hg,hb=>by
 have Z:=hg t Ek;have f1:=λt=>ox t hp;have ei:=λj m G m4=>dt (x:=x) t hx hl (tn:=tn) (rn:=rn) (tu:=[.int ((k:O):I)]) (tu':=[]) (by lia) (by lia) (D7 _) (by decide) (l+2) j m G m4;have eb:=λF j m=>hb t Ek (l+3) (by lia) (p++[.int 1]) (tn++[.int ((k:O):I)]) rn F j m (ck _ hp) (ck _ h1) (by lia);have H:c.length<LIM:=by show _<16777215;rw[Ef] at hn;lia
 obtain⟨f,n,r,v,w,z,A,D,q1,q2,q2',q3⟩:=lq (a:=a) g hx hl hL hp h1 h2 Q i (c++[g t]) (k+1) (.o .s) .s .s .s .s (Y (.d,.int ((k:O):I))) (Y (.s,t)) (Y (.s,aE (e++[(x,t)]) (tn++[.int ((k:O):I)]) rn)) (by rw[Er];rw[Ef] at hn;show c.length+1+i.length<1000;lia) (.inr rfl) (λu hu=>hg u<|Em _ hu) λu hu=>hb u<|Em _ hu
 refine⟨f,n,r,v,w,z,A,D,q1,(λh=>by cases h),(λ_=>by cases i with
  |nil=>exact q2 rfl
  |cons _ _=>exact q2'<|by intro h;cases h),?_⟩
 rw[Eo,show c++g t::i.map g=(c++[g t])++i.map g by rw[G7];rfl,<- q3];refine eC (ws:=[(.d,.int ((k:O):I)),(.s,t)]) rfl ?_;rcases jx t with hm2|hm2<;>rcases hm with rfl|rfl<;>simp_all only[eB,af,f1,ei,eb,bD,Z,H,hm2]
theorem lO {d:O}{e:EN}{x:Str}{a b:T}{ts:U T}{n:Md}(g:T->T)(P:∀t∈ts,lf .s (g t)=.s)(hx:e.lookup x=J)(Q:e.length<=100)(hn:ts.length<1000)(D:ts≠[])(M:Ev d e a (.lst ts) n)(N:∀t∈ts,Ev d (e++[(x,t)]) b (g t) .s):Ev (d+2) e (.tup [.str<|q "each",.str x,a,b]) (.lst<|ts.map g) (.o .s):=λL H p tn k j c h hp F G=>by
 obtain⟨l,rfl⟩:∃l,L=l+5:=⟨L-5,by lia⟩;refine gC (L:=l+4) (s:="each") (f:=471) (by kernel_rfl) (by kernel_rfl) (by kernel_rfl) (λj c h=>?_) j c h;have e1:=λm=>gR (l+1) (s:=q "each") (.str x) [a,b] (by kernel_rfl) m;have A:=λt=>ox t hp;have y:=λj c h=>M (l+3) (by lia) (p++[.int 0]) tn k j c h (ck _ hp) (by lia) (by lia);have z:=λj c h m3 i=>lj (l+2) (.tup [.str<|q "each",.str x,a,b]) p e tn k j c h m3 i;obtain⟨md',Z,m1',m2',m3',o5',o6',o7',q1,_,u,q3⟩:=lq (a:=a) g hx Q H hp F G [a,b] ts [] 0 (.o .s) .s .s .s .s J J J (by rw[FT];lia) (.inr rfl) P N;have u:=u D;subst u;have v:evSs (C (l+3)) (Bk f_each_worth 0 2) [Y (j,.tup [.str (q "each"),.str x,a,b]),Y (c,.tup p),Y (h,aE e tn k),J,J,J,J,J]=.nx [Y (.s,.tup [.str (q "each"),.str x,a,b]),Y (c,.tup p),Y (h,aE e tn k),Y (.s,.tup [a,b]),Y (.o .s,.lst []),J,J,J]:=by simp_all only[Bk,f_each_worth,Ez,Ex,EL,EV,af,e1]
 have s1:evL (C (l+3)) [.call 467 [.op .ix DX [.var 3,.cst (.int 0)],.op .catT DX [.var 1,.tup [.cst (.int 0)]],.var 2]] (pick [1,2,3] [] [Y (.s,.tup [.str (q "each"),.str x,a,b]),Y (c,.tup p),Y (h,aE e tn k),Y (.s,.tup [a,b]),Y (.o .s,.lst []),J,J,J])=.ok ([(n,.lst ts)],pick [1,2,3] [] [Y (.s,.tup [.str (q "each"),.str x,a,b]),Y (c,.tup p),Y (h,aE e tn k),Y (.s,.tup [a,b]),Y (.o .s,.lst []),J,J,J]):=by simp_all only[af,A,y,bD]
 have w:=iA (r:=[]) s1 (show turns .enm [(n,.lst ts)]=Y (bT .s 0 ts) from rfl) q3;have go:=(go1 (b:=Bk f_each_worth 2 1++f_each_worth.body.drop 3) v).trans<|go1 w;rw[show l+4=(l+3)+1 from rfl,fN,x_run _ _ _ rfl];refine(Jk (Fl.out []) go).trans ?_;simp_all only[f_each_worth,Ez,Ex,af,z,bD,GB]
theorem zw (a:O):C (a+1) 431 [(.d,.int 2)]=.ok ((.d,.non),[]):=by kernel_rfl
abbrev tB:U S:=[
 .asg (.q [0,2,5] [7]) 8 (.call 468 [.var 2,.op .ix DX [.var 0,.cst<|.int 1],.var 5,.tup [.var 7],.tup [.var 7]]),
 .asg (.q [1,3,8] []) 5 (.call 467 [.op .ix DX [.var 3,.cst<|.int 2],.op .catT DX [.var 1,.tup [.cst<|.int 2]],.var 8])]
theorem oJ {d:O}{e:EN}{x:Str}{c a b n v1 o:T}(hx:e.lookup x=J)(hl:e.length<=100)(A:Ev d e c (.int 2) .d)(ha:Ev d e a n .s)(hb:Ev d (e++[(x,n)]) b v1 .s)(D:Ev d (e++[(x,v1)]) b o .s)(H:lf .s n=.s)(M:lf .s v1=.s)(g2:lf .s o=.s):Ev (d+2) e (.tup [.str<|q "times",.str x,c,a,b]) o .s:=λL hL p tn rn j g h hp N P=>by
 obtain⟨l,rfl⟩:∃l,L=l+5:=⟨L-5,by lia⟩;refine gC (L:=l+4) (s:="times") (f:=472) (by kernel_rfl) (by kernel_rfl) (by kernel_rfl) (λj g h=>?_) j g h;have e1:=λm=>gR (l+1) (s:=q "times") (.str x) [c,a,b] (by kernel_rfl) m;have z:=λt=>ox t hp;have u:=λj g h=>A (l+3) (by lia) (p++[.int 0]) tn rn j g h (ck _ hp) (by lia) (by lia);have ea:=λj g h=>ha (l+3) (by lia) (p++[.int 1]) tn rn j g h (ck _ hp) (by lia) (by lia);have em:=λj g h F i=>lj (l+2) (.tup [.str<|q "times",.str x,c,a,b]) p e tn rn j g h F i;have tw:=zw<|l+2;have G:=λv k g h F m4=>dt (x:=x) v hx hl (tn:=tn) (rn:=rn) (tu:=[.int k]) (tu':=[.int k]) (by lia) (by lia) (D7 1) (D7 1) (l+2) g h F m4;have eb:=λk j g h=>hb (l+3) (by lia) (p++[.int 2]) (tn++[.int k]) (rn++[.int k]) j g h (ck _ hp) (ck _ N)<|ck _ P;have y:=λk j g h=>D (l+3) (by lia) (p++[.int 2]) (tn++[.int k]) (rn++[.int k]) j g h (ck _ hp) (ck _ N)<|ck _ P;have H0:evSs (C (l+3)) (Bk f_times_worth 0 5) [Y (j,.tup [.str (q "times"),.str x,c,a,b]),Y (g,.tup p),Y (h,aE e tn rn),J,J,J,J,J,J]=.nx [Y (.s,.tup [.str (q "times"),.str x,c,a,b]),Y (.s,.tup p),Y (.s,aE e tn rn),Y (.s,.tup [c,a,b]),Y (.d,.int 2),Y (.s,n),Y (.d,.non),J,J]:=by simp_all only[Bk,f_times_worth,Ez,Ex,EL,EV,af,e1,z,u,ea,tw,H,bD,nN,nG]
 have s1:evL (C (l+3)) [.var 4] (pick [] [4] [Y (.s,.tup [.str (q "times"),.str x,c,a,b]),Y (.s,.tup p),Y (.s,aE e tn rn),Y (.s,.tup [c,a,b]),Y (.d,.int 2),Y (.s,n),Y (.d,.non),J,J])=.ok ([(.d,.int 2)],pick [] [4] [Y (.s,.tup [.str (q "times"),.str x,c,a,b]),Y (.s,.tup p),Y (.s,aE e tn rn),Y (.s,.tup [c,a,b]),Y (.d,.int 2),Y (.s,n),Y (.d,.non),J,J]):=by simp_all only[af]
 have Q:evSs (C (l+3)) tB [Y (.s,.tup [.str (q "times"),.str x,c,a,b]),Y (.s,.tup p),Y (.s,aE e tn rn),Y (.s,.tup [c,a,b]),Y (.d,.int 2),Y (.s,n),Y (.d,.non),Y (.d,.int 0),J]=.nx [Y (.s,.tup [.str (q "times"),.str x,c,a,b]),Y (.s,.tup p),Y (.s,aE e tn rn),Y (.s,.tup [c,a,b]),Y (.d,.int 2),Y (.s,v1),Y (.d,.non),Y (.d,.int 0),Y (.s,aE (e++[(x,n)]) (tn++[.int 0]) (rn++[.int 0]))]:=by simp_all only[tB,af,z,G,eb,H,M,bD]
 have Z:∀w,evSs (C (l+3)) tB [Y (.s,.tup [.str (q "times"),.str x,c,a,b]),Y (.s,.tup p),Y (.s,aE e tn rn),Y (.s,.tup [c,a,b]),Y (.d,.int 2),Y (.s,v1),Y (.d,.non),Y (.d,.int 1),w]=.nx [Y (.s,.tup [.str (q "times"),.str x,c,a,b]),Y (.s,.tup p),Y (.s,aE e tn rn),Y (.s,.tup [c,a,b]),Y (.d,.int 2),Y (.s,o),Y (.d,.non),Y (.d,.int 1),Y (.s,aE (e++[(x,v1)]) (tn++[.int 1]) (rn++[.int 1]))]:=λw=>by simp_all only[tB,af,z,G,y,M,g2,bD]
 have q3:cS [7] (evSs (C (l+3)) tB) [[((.d,.int 0):W)],[(.d,.int 1)]] [Y (.s,.tup [.str (q "times"),.str x,c,a,b]),Y (.s,.tup p),Y (.s,aE e tn rn),Y (.s,.tup [c,a,b]),Y (.d,.int 2),Y (.s,n),Y (.d,.non),J,J]=_:=(eC rfl Q).trans<|(eC rfl (Z _)).trans<|qV _ _ _;have H1:=iA (vs:=[]) (r:=[]) s1 (show turns .rng [(.d,.int 2)]=Y [[((.d,.int 0):W)],[(.d,.int 1)]] from rfl) q3;have go:=(go1 (b:=Bk f_times_worth 5 1++f_times_worth.body.drop 6) H0).trans<|go1 H1;rw[show l+4=(l+3)+1 from rfl,fH,x_run _ _ _ rfl];refine(Jk (Fl.out []) go).trans ?_;simp_all only[f_times_worth,Ez,Ex,af,em,bD]
abbrev cT:T:=.tup [.str<|q "row",.tup [.str<|q "row",.tup [.str<|q "num"]]]
abbrev bp:U T:=[.tup [.str<|q "r",cT],.tup [.str<|q "pairs",.tup [.str<|q "pair",cT,.tup [.str<|q "truth"]]]]
abbrev E0 (a b:U T):EN:=[(q "r",.lst a),(q "pairs",.tup b)]
theorem jC {c d:O}{a b:U T}{t v:T}{p:Md}(G:d+8<=c)(Q:d<=30)(h:Ev d (E0 a b) t v p)(i g f:Md):∃M,C (c+1) 466 [(i,.tup [.tup bp,t]),(g,.lst [.lst a,.tup b]),(f,.non)]=.ok ((M,.tup [.str<|q "is",v]),[]):=by
 have j:∀g f,cz (.d,.dct [] []) (g,.str (q "r")) (f,.lst a)=Y (.o .s,.dct [.inr (q "r")] [.lst a]):=λg f=>jB (m:=.d) (e:=[]) (x:=q "r") (k:=.lst a) (by decide) rfl (by decide) g f;have l:∀g f,cz (.o .s,.dct [.inr (q "r")] [.lst a]) (g,.str (q "pairs")) (f,.tup b)=Y (.o .s,dE (E0 a b)):=λg f=>jB (m:=.o .s) (e:=[(q "r",.lst a)]) (x:=q "pairs") (k:=.tup b) (by decide) (by kernel_rfl) (by show 1<=100;lia) g f;have z:evSs (C c) (Bk f_reading 0 1) [Y (i,.tup [.tup bp,t]),Y (g,.lst [.lst a,.tup b]),Y (f,.non),J,J,J,J]=.nx [Y (i,.tup [.tup bp,t]),Y (g,.lst [.lst a,.tup b]),Y (f,.non),Y (.d,.dct [] []),J,J,J]:=by kernel_rfl
 have P:evL (C c) [.op .ix DX [.var 0,.cst (.int 0)],.var 1] (pick [0,1] [] [Y (i,.tup [.tup bp,t]),Y (g,.lst [.lst a,.tup b]),Y (f,.non),Y (.d,.dct [] []),J,J,J])=.ok ([(.s,.tup bp),(.s,.lst [.lst a,.tup b])],pick [0,1] [] [Y (i,.tup [.tup bp,t]),Y (g,.lst [.lst a,.tup b]),Y (f,.non),Y (.d,.dct [] []),J,J,J]):=by simp_all only[af]
 have u:evSs (C c) [.setS (.q [4,5] []) 3 (.op .ix DX [.var 4,.cst (.int 0)]) (.var 5)] [Y (.s,.tup [.tup bp,t]),Y (.s,.lst [.lst a,.tup b]),Y (f,.non),Y (.d,.dct [] []),Y (.s,.tup [.str (q "r"),cT]),Y (.s,.lst a),J]=.nx [Y (.s,.tup [.tup bp,t]),Y (.s,.lst [.lst a,.tup b]),Y (f,.non),Y (.o .s,.dct [.inr (q "r")] [.lst a]),Y (.s,.tup [.str (q "r"),cT]),Y (.s,.lst a),J]:=by simp_all only[af,j]
 have y:∀w n,evSs (C c) [.setS (.q [4,5] []) 3 (.op .ix DX [.var 4,.cst (.int 0)]) (.var 5)] [Y (.s,.tup [.tup bp,t]),Y (.s,.lst [.lst a,.tup b]),Y (f,.non),Y (.o .s,.dct [.inr (q "r")] [.lst a]),Y (.s,.tup [.str (q "pairs"),w]),Y (.s,.tup b),n]=.nx [Y (.s,.tup [.tup bp,t]),Y (.s,.lst [.lst a,.tup b]),Y (f,.non),Y (.o .s,dE (E0 a b)),Y (.s,.tup [.str (q "pairs"),w]),Y (.s,.tup b),n]:=λw n=>by simp_all only[af,l]
 have N:=(eC (tg:=[4,5]) (ws:=[((.s,.tup [.str<|q "r",cT]):W),(.s,.lst a)]) (r:=[[(.s,.tup [.str<|q "pairs",.tup [.str<|q "pair",cT,.tup [.str<|q "truth"]]]),(.s,.tup b)]]) (η:=[Y (.s,.tup [.tup bp,t]),Y (.s,.lst [.lst a,.tup b]),Y (f,.non),Y (.d,.dct [] []),J,J,J]) rfl u).trans<|(eC rfl (y _ _)).trans<|qV _ _ _;have A:=iA (vs:=[0,1]) (r:=[]) P (show turns .zip [(.s,.tup bp),(.s,.lst [.lst a,.tup b])]=Y _ from rfl) N;have go:=(go1 (b:=Bk f_reading 1 1++f_reading.body.drop 2) z).trans<|go1 A;have D:decide (aN.length=[((.s,dE (E0 a b)):W),(.d,.tup []),(.d,.tup []),(.s,.non)].length+([]:U I).length)=true:=rfl;have F:=λi g f=>h c G [] [] [] i g f (by rw[FT];lia) (by rw[FT];lia) (by rw[FT];lia);rw[jM,x_run _ _ _ rfl];cases H:lf p v<;>exact⟨_,(Jk (Fl.out []) go).trans<|by simp_all only[f_reading,Ez,Ex,af,F,D,vL,bD,H];rfl⟩
theorem tM {L d:O}{a b:U T}{t v:T}{k:Md}(g:d+8<=L)(i:30<=L)(j:d<=30)(h:Ev d (E0 a b) t v k)(m:dp v<=25)(e f:Md):C (L+2) 473 [(e,.tup [.tup bp,t]),(f,.lst [.lst a,.tup b])]=.ok ((.d,.tup [.str<|q "is",v]),[]):=by obtain⟨c,e1⟩:=jC g j h e f .d;obtain⟨l,rfl⟩:∃l,L=l+30:=⟨L-30,by lia⟩;have e2:=DL 30 (.tup [.str<|q "is",v]) l c (by show max (dp<|T.str<|q "is") (max (dp v) 0)+1<=30;have:dp (T.str<|q "is")=0:=rfl;lia) (by decide);have e3:cm c (.tup [.str (q "is"),v])=.d:=rfl;rw[e3] at e2;rw[show l+30+2=(l+30+1)+1 from rfl,sQ,x_run _ _ _ rfl];simp_all only[eW,e1,e2]
noncomputable def cG (i:I):U T:=(Eb (i % 5).toNat).map λ(j:O)=>.int<|i / ((j:I)+1) % 1000-500
def av (c:O->I):U T:=(Eb (1+c 0 % 5).toNat).map λk=>.lst<|cG<|c<|k+1
theorem kW {i:I}{n:O}(h:i.natAbs<=n)(c:n<=1000)(m:Md):turns .rng [(m,.int i)]=Y ((Eb i.toNat).map λ(k:O)=>[((.d,.int k):W)]):=by have a:decide (i.natAbs<4611686018427387904)=true:=I0 (by lia);have b:fits i.toNat=true:=I0 (by show _<=16777215;lia);show(if decide (i.natAbs<4611686018427387904)&&fits i.toNat then _ else _)=_;rw[a,b];rfl
abbrev rB:U S:=[
 .app (.q [0] [2]) 1 (.comp DY .rng [.op .mod DX [.op .ix DX [.var 0,.op .add DX [.cst<|.int 1,.var 2]],.cst<|.int 5]] [3] J<|.op .sub DX [.op .mod DX [.op .fdiv DX [.op .ix DX [.var 0,.op .add DX [.cst<|.int 1,.var 2]],.op .add DX [.var 3,.cst<|.int 1]],.cst<|.int 1000],.cst<|.int 500])]
theorem k8 (a:O){h:U T}{c:O->I}(H:∀k:O,k<5->atI h (1+(k:I))=Y (.int<|c<|k+1)):∀(f:U O) (b:U T) (o2:B W),b.length+f.length<1000->(∀k∈f,k<5)->∃g,cS [2] (evSs (C a) rB) (f.map λ(k:O)=>[((.d,.int k):W)]) [Y (.s,.lst h),Y (.d,.lst b),o2,J]=.nx [Y (.s,.lst h),Y (.d,.lst<|b++f.map λk=>.lst<|cG<|c<|k+1),g,J]
|[],b,o2,_,_=>⟨o2,by rw[FA,FA,EW];rfl⟩
| k::f,b,o2,t,hk=>by
 have o:=hk k Ek;have p:=H k o;have l:b.length<LIM:=by show _<16777215;rw[Ef] at t;lia
 have A:decide ((0:I)<5)=true:=rfl;have D:decide ((0:I)<1000)=true:=rfl;have F:=λm=>kW (i:=c (k+1) % 5) (n:=5) (by lia) (by decide) m
 have v:aP [3] (dW (evE (C a) (.op .sub DX [.op .mod DX [.op .fdiv DX [.op .ix DX [.var 0,.op .add DX [.cst (.int 1),.var 2]],.op .add DX [.var 3,.cst (.int 1)]],.cst (.int 1000)],.cst (.int 500)]))) ((Eb (c (k+1) % 5).toNat).map λ(j:O)=>[((.d,.int j):W)]) [Y (.s,.lst h),J,Y (.d,.int (k:I)),J] []=.ok ([]++(Eb (c (k+1) % 5).toNat).map λ(j:O)=>((.d,.int (c (k+1) / (j+1) % 1000-500)):W),[Y (.s,.lst h),J,Y (.d,.int (k:I)),J]):=by
  refine bO (λ(j:O)=>((.d,.int<|c (k+1) / (j+1) % 1000-500):W)) _ [] λj r=>⟨[Y (.s,.lst h),J,Y (.d,.int (k:I)),Y (.d,.int (j:I))],[Y (.s,.lst h),J,Y (.d,.int (k:I)),Y (.d,.int (j:I))],rfl,?_,rfl⟩;have r:=G0.mp r;have x:(decide ((0:I)<(j:I)+1)&&decide ((j:I)+1<1073741824))=true:=by rw[I0<|show(0:I)<(j:I)+1 by lia,I0<|show(j:I)+1<1073741824 by lia];rfl
  simp_all only[af,p,x,D]
 obtain⟨g,e⟩:=k8 a H f (b++[.lst<|cG<|c<|k+1]) (Y (.d,.int (k:I))) (by rw[Er];rw[Ef] at t;show b.length+1+f.length<1000;lia) λu y=>hk u<|Em _ y;refine⟨g,?_⟩;rw[Eo,Eo,show b++T.lst (cG<|c<|k+1)::f.map (λk=>T.lst<|cG<|c<|k+1)=(b++[.lst<|cG<|c<|k+1])++f.map λk=>T.lst (cG<|c<|k+1) by rw[G7];rfl,<- e];have G:trees ((Eb (c (k+1) % 5).toNat).map λ(j:O)=>((.d,.int (c (k+1) / (j+1) % 1000-500)):W))=cG (c (k+1)):=bB (λ_=>.d) (λ(j:O)=>.int<|c (k+1) / (j+1) % 1000-500) _;have ok:((Eb (c (k+1) % 5).toNat).map λ(j:O)=>((.d,.int (c (k+1) / (j+1) % 1000-500)):W)).all okD=true:=F8.mpr λw z=>by obtain⟨u,_,rfl⟩:=FN.mp z;rfl
 refine eC (ws:=[(.d,.int (k:I))]) rfl ?_;simp_all only[rB,af,p,A,F,v,l,GB,ok,G]
theorem iL (a:O){f:U T}{c:O->I}(g:atI f 0=Y (.int<|c 0))(H:∀k:O,k<5->atI f (1+(k:I))=Y (.int<|c<|k+1))(m:Md):C (a+1) 474 [(m,.lst f)]=.ok ((.d,.lst<|av c),[]):=by
 obtain⟨o,e⟩:=k8 a H (Eb (1+c 0 % 5).toNat) [] J (by rw[FV,FT];lia) λk hk=>by have:=G0.mp hk;lia
 have l:decide ((0:I)<5)=true:=rfl;have j:evSs (C a) (Bk f_law_rows 0 1) [Y (m,.lst f),J,J,J]=.nx [Y (m,.lst f),Y (.d,.lst []),J,J]:=by kernel_rfl
 have p:evL (C a) [.op .add DX [.cst (.int 1),.op .mod DX [.op .ix DX [.var 0,.cst (.int 0)],.cst (.int 5)]]] (pick [0] [] [Y (m,.lst f),Y (.d,.lst []),J,J])=.ok ([(.d,.int (1+c 0 % 5))],pick [0] [] [Y (m,.lst f),Y (.d,.lst []),J,J]):=by simp_all only[af,g,l]
 have h:=iA (r:=[]) p (kW (i:=1+c 0 % 5) (n:=5) (by lia) (by decide) .d) e;have go:=(go1 (b:=Bk f_law_rows 1 1++f_law_rows.body.drop 2) j).trans<|go1 h;rw[iG,x_run _ _ _ rfl];refine(Jk (Fl.out []) go).trans ?_;simp_all only[f_law_rows,Ez,Ex,af,GB];rfl
abbrev nR:T:=nmT<|q "r"
abbrev nP:T:=nmT<|q "pairs"
abbrev tF:T:=.tup [.str<|q "first",nP]
abbrev tS:T:=.tup [.str<|q "second",nP]
abbrev d8 (a b:U T)(c:IZ)(d:T):U (T×T):=[
 (nR,.lst a),(nP,.tup [.lst b,.bl c]),(tF,.lst b),
 (.tup [.str<|q "pick",nR,.tup [.str<|q "num",.int 0]],d),
 (.tup [.str<|q "one",nR],.lst [.lst a]),
 (.tup [.str<|q "pair",nR,.tup [.str<|q "pair",tF,nR]],.tup [.lst a,.tup [.lst b,.lst a]]),
 (.tup [.str<|q "join",nR,tF],.lst<|a++b),
 (.tup [.str<|q "each",.str<|q "xs",nR,nmT<|q "xs"],.lst a),
 (.tup [.str<|q "times",.str<|q "t",.tup [.str<|q "num",.int 2],nR,nmT<|q "t"],.lst a),
 (.tup [.str<|q "each",.str<|q "k",.tup [.str<|q "upto",.tup [.str<|q "num",.int 3]],nR],.lst [.lst a,.lst a,.lst a]),
 (.tup [.str<|q "if",tS,nR,tF],if c then .lst a else .lst b),
 (.tup [.str<|q "let",.str<|q "l",nR,.tup [.str<|q "pair",nmT<|q "l",.tup [.str<|q "one",nmT<|q "l"]]],.tup [.lst a,.lst [.lst a]])]
theorem mK (a:O){a0:T}{r b:U T}{tr:IZ}(h:(a0::r).length+b.length<=100)(e f i:Md):C (a+1) 448 [(e,.lst (a0::r)),(f,.lst b),(i,.bl tr)]=.ok ((.o .s,.lst<|(d8 (a0::r) b tr a0).map λp=>.tup [p.1,p.2]),[]):=by have c:fits ((a0::r).length+b.length)=true:=I0 (by show _<=16777215;lia);have d:fits (r.length+1+b.length)=true:=c;rw[gL,x_run _ _ _ rfl];rcases jx a0 with g|g<;>cases tr<;>simp_all only[bj,af,c,d,g]<;>rfl
theorem Dy (a b:U T):(E0 a b).lookup (q "r")=Y (.lst a):=by kernel_rfl
theorem xO (a b:U T):(E0 a b).lookup (q "pairs")=Y (.tup b):=by kernel_rfl
theorem uV {a b:U T}{e:EN}{v w:T}(h:e.lookup (q "pairs")=Y (.tup [v,w]))(c:lf .s v=.s):Ev 1 e tF v .s:=hW (d:=0) (bK<|by kernel_rfl) (bb h) λl=>lp (bK<|by kernel_rfl) (by kernel_rfl) (by kernel_rfl) (do_first (l+1) _ _) c
theorem qZ {e:EN}{v:T}{w:IZ}(h:e.lookup (q "pairs")=Y (.tup [v,.bl w])):Ev 1 e tS (.bl w) .d:=hW (d:=0) (mw:=.d) (bK<|by kernel_rfl) (bb h) λl=>lp (mv:=.d) (bK<|by kernel_rfl) (by kernel_rfl) (by kernel_rfl) (do_second (l+1) _ _) rfl
theorem Ev.mono {d b:O}{e:EN}{t v:T}{c:Md}(h:Ev d e t v c)(o:d<=b):Ev b e t v c:=λa n p tn j f g i k l m=>h a (by lia) p tn j f g i (by lia) (by lia)<|by lia
theorem vp {d:O}{e:EN}{a v:T}(h:Ev d e a v .s):Ev (d+1) e (.tup [.str<|q "one",a]) (.lst [v]) (.o .s):=hW (bK<|by kernel_rfl) h λl=>lp (mv:=.o .s) (bK<|by kernel_rfl) (by kernel_rfl) (by kernel_rfl) (do_one (l+1) _) rfl
theorem jE {d:O}{e:EN}{a b v w:T}{i j:Md}(h:Ev d e a v i)(c:Ev d e b w j)(f:lf .s v=.s)(g:lf .s w=.s):Ev (d+1) e (.tup [.str<|q "pair",a,b]) (.tup [v,w]) (.o .s):=ka (bK<|by kernel_rfl) h c λl=>lp (mv:=.o .s) (bK<|by kernel_rfl) (by kernel_rfl) (by kernel_rfl) (do_pair f g<|l+1) rfl
def lsT:T->T
|.lst r=>.lst r
|_=>.lst []
theorem pK {c:T}{r b:U T}{g:IZ}(y:(c::r).length<=10)(z:b.length<=10)(j:∀t∈c::r,∃u,t=.lst u):∀p∈d8 (c::r) b g c,∃d v,d<=20/\Ev d (E0 (c::r) [.lst b,.bl g]) p.1 p.2 v:=by
 have f:∀d,Ev d (E0 (c::r) [.lst b,.bl g]) nR (.lst (c::r)) .s:=λd=>bb<|Dy _ _;have k:Ev 1 (E0 (c::r) [.lst b,.bl g]) tF (.lst b) .s:=uV (a:=[]) (b:=[]) (xO _ _) rfl;have w:Ev 1 (E0 (c::r) [.lst b,.bl g]) tS (.bl g) .d:=qZ<|xO _ _;have n:lf .s c=.s:=by obtain⟨u,rfl⟩:=j c Ek;rfl
 intro p hp;simp only[Ee,ED,Jq] at hp;rcases hp with rfl|rfl|rfl|rfl|rfl|rfl|rfl|rfl|rfl|rfl|rfl|rfl
 .exact⟨0,_,by decide,f 0⟩
 .exact⟨0,_,by decide,bb<|xO _ _⟩
 .exact⟨1,_,by decide,k⟩
 .exact⟨1,.s,by decide,ka (d:=0) (bK<|by kernel_rfl) (f 0) (kx 0) λl=>qp (mv:=.s) (bK<|by kernel_rfl) (by kernel_rfl) (by kernel_rfl) (rN l) (by kernel_rfl) (do_pick (l+1) _ _) n⟩
 .exact⟨1,_,by decide,vp<|f 0⟩
 .exact⟨3,_,by decide,jE (f 2) (jE k (f 1) rfl rfl) rfl rfl⟩
 .exact⟨2,.o .s,by decide,ka (bK<|by kernel_rfl) (f 1) k λl=>qp (mv:=.o .s) (bK<|by kernel_rfl) (by kernel_rfl) (by kernel_rfl) (tV l<|by lia) (by kernel_rfl) (do_join (l+1)<|I0<|by show _<=16777215;lia) rfl⟩
 .have e1:=lO (d:=0) (e:=E0 (c::r) [.lst b,.bl g]) (x:=q "xs") (a:=nR) (b:=nmT (q "xs")) (ts:=c::r) lsT (fun t i=>by obtain ⟨u,rfl⟩:=j t i; rfl) (by kernel_rfl) (by show 2<=100; lia) (by lia) (by intro h; cases h) (f 0) fun t i=>bb (by obtain ⟨u,rfl⟩:=j t i; kernel_rfl)
  have e2:(c::r).map lsT=c::r:=by
   conv=>rhs;rw[<- Iw (c::r)]
   exact HV λt i=>by obtain⟨u,rfl⟩:=j t i;rfl
  rw[e2] at e1;exact⟨2,_,by decide,e1⟩
 .exact⟨2,_,by decide,oJ (d:=0) (by kernel_rfl) (by show 2<=100;lia) (kx 2) (f 0) (v1:=.lst (c::r)) (bb<|by kernel_rfl) (bb<|by kernel_rfl) rfl rfl rfl⟩
 .have m:Ev 1 (E0 (c::r) [.lst b,.bl g]) (.tup [.str (q "upto"),.tup [.str (q "num"),.int 3]]) (.lst [.int 0,.int 1,.int 2]) .d:=hW (d:=0) (mw:=.d) (bK<|by kernel_rfl) (kx 3) fun l=>qp (mv:=.d) (bK<|by kernel_rfl) (by kernel_rfl) (by kernel_rfl) (uH l) (by kernel_rfl) (do_upto<|l+1) rfl;have e1:=lO (d:=1) (e:=E0 (c::r) [.lst b,.bl g]) (x:=q "k") (b:=nR) (λ_=>.lst (c::r)) (λ_ _=>rfl) (by kernel_rfl) (by show 2<=100;lia) (by decide) (by intro h;cases h) m λt i=>bb (by kernel_rfl);exact⟨3,_,by decide,e1⟩
 .have e1:=Cm (d:=1) w (f 1) k rfl rfl;exact⟨3,_,by decide,e1⟩
 .have m:Ev 2 (E0 (c::r) [.lst b,.bl g]++[(q "l",.lst (c::r))]) (.tup [.str (q "pair"),nmT (q "l"),.tup [.str (q "one"),nmT (q "l")]]) (.tup [.lst (c::r),.lst [.lst (c::r)]]) (.o .s):=jE (bb<|by kernel_rfl) (vp<|bb<|by kernel_rfl) rfl rfl;exact⟨4,_,by decide,zp (d:=2) (f 2) rfl (by kernel_rfl) (by show 2<=100;lia) m⟩
abbrev lB:U S:=[.asg (.q [1] []) 6<|.call 474 [.var 1],.asg (.q [1] []) 7<|.call 474 [.op .sl1 DX [.var 1,.cst<|.int 6]],.asgT (.q [1] [4,5]) [8,9]<|.op .ix DX [.call 448 [.call 474 [.var 1],.call 474 [.op .sl1 DX [.var 1,.cst<|.int 6]],.var 4],.var 5],.asgQ2 [3,6,7,8] [4] 10 (.lst DX [.var 6,.tup [.var 7,.var 4]]) 11<|.call 473 [.tup [.var 3,.var 8],.mv 10],.ite (.q [9,11] []) (.op .ne DX [.var 11,.tup [.cst<|.str<|q "is",.var 9]]) [.ret []<|.cst<|.bl DX] [],.spoP 455 6 [],.ite (.q [9,11] []) (.op .ne DX [.var 11,.tup [.cst<|.str<|q "is",.var 9]]) [.ret []<|.cst<|.bl DX] [],.asg (.q [1,7] [4]) 10<|.lst DX [.call 474 [.var 1],.tup [.var 7,.var 4]],.asg (.q [3,8,10] []) 11<|.call 473 [.tup [.var 3,.var 8],.var 10],.ite (.q [11] []) (.and (.op (.isI ["list"]) DX [.op .ix DX [.var 11,.cst<|.int 1]])<|.op .gt DX [.op .len DX [.op .ix DX [.var 11,.cst<|.int 1]],.cst<|.int 0]) [.spoP 455 11 [1,0],.ite (.q [9,11] []) (.op .ne DX [.op .sl1 DX [.op .ix DX [.var 11,.cst<|.int 1],.cst<|.int 1],.op .sl1 DX [.var 9,.cst<|.int 1]]) [.ret []<|.cst<|.bl DX] []] [],.ite (.q [11] []) (.op (.isI ["tuple"]) DX [.op .ix DX [.var 11,.cst<|.int 1]]) [.spoP 455 11 [1,0],.ite (.q [9,11] []) (.op .ne DX [.op .sl1 DX [.op .ix DX [.var 11,.cst<|.int 1],.cst<|.int 1],.op .sl1 DX [.var 9,.cst<|.int 1]]) [.ret []<|.cst<|.bl DX] []] [],.spoP 455 11 [1],.ite (.q [1,3,8,9,10] [4]) (.or (.op .ne DX [.var 10,.lst DX [.call 474 [.var 1],.tup [.call 474 [.op .sl1 DX [.var 1,.cst<|.int 6]],.var 4]]])<|.op .ne DX [.call 473 [.tup [.var 3,.var 8],.var 10],.tup [.cst<|.str<|q "is",.var 9]]) [.ret []<|.cst<|.bl DX] []]
abbrev Lb (i j:O):U S:=(lB.drop i).take j
theorem gS (l:O){t:T}(b:dp t<=30)(a:szb 50 t=DY):C (l+32) 455 [(.d,t)]=.ok ((.d,.gone),[(.d,spo t)]):=by rw[show l+32=(l+31)+1 from rfl,fg];show(if((lf .d t==.d)&&(decide (dp t<=l+31)&&decide (dp t<=64)&&szS t))=DY then _ else _)=_;rw[show lf .d t=.d by unfold lf;split<;>rfl,I0<|show dp t<=l+31 by lia,I0<|show dp t<=64 by lia,nF (by decide) t a];rfl
structure Cx (ts tsB:U T)(c c':O->I)(a0:T)(r:U T):Prop where
 cut:cut ts (Y 6) J=tsB
 a:av c=a0::r
 i0:atI ts 0=Y (.int (c 0))
 i1:∀k:O,k<5->atI ts (1+(k:I))=Y (.int (c (k+1)))
 j0:atI tsB 0=Y (.int (c' 0))
 j1:∀k:O,k<5->atI tsB (1+(k:I))=Y (.int (c' (k+1)))
 da:dps (a0::r)<=5
 za:szb 50 (.lst (a0::r))=DY
 la:(a0::r).length<=10
 db:dps (av c')<=5
 lb:(av c').length<=10
structure Vx (e:EN)(t v:T):Prop where
 e:∃d md,d<=20/\Ev d e t v md
 l:lf .s v=.s
 lt:lf .s t=.s
 d:dp v<=10
 z:szb 40 v=DY
 s:v=.lst []\/(∃x r,v=.lst (x::r))\/∃x r,v=.tup (x::r)
mutual
theorem bP {a b:O}(h:a<=b):∀t:T,szb a t=DY->szb b t=DY
|.lst ts,e=>by obtain⟨h1,h2⟩:=El.mp<|show(decide (ts.length<=a)&&aA a ts)=DY from e;show(decide (ts.length<=b)&&aA b ts)=DY;rw[I0<|Ed (Ji h1) h,aZ h ts h2];rfl
|.tup ts,e=>by obtain⟨h1,h2⟩:=El.mp<|show(decide (ts.length<=a)&&aA a ts)=DY from e;show(decide (ts.length<=b)&&aA b ts)=DY;rw[I0<|Ed (Ji h1) h,aZ h ts h2];rfl
|.non,_=>rfl | .bl _,_=>rfl | .int _,_=>rfl | .str _,_=>rfl | .dct _ _,_=>rfl | .ins _ _ _,_=>rfl | .obj _ _ _,_=>rfl | .dtt _ _,_=>rfl | .scr _,_=>rfl | .gone,_=>rfl
theorem aZ {a b:O}(h:a<=b):∀ts:U T,aA a ts=DY->aA b ts=DY
|[],_=>rfl
|t::ts,e=>by obtain⟨h1,h2⟩:=El.mp<|show(szb a t&&aA a ts)=DY from e;show(szb b t&&aA b ts)=DY;rw[bP h t h1,aZ h ts h2];rfl
end
theorem gJ {v:T}(h:dp v<=60)(m n:Md):oSem .ne DX [(m,v),(n,v)]=Y (.d,.bl DX):=by rw[xW DX m n v v (by lia)<|by lia,lN v<|by lia];rfl
theorem Bd {v:T}(h:dp v<=30):dp (.tup [.str<|q "is",v])<=60:=by show max 0 (max (dp v) 0)+1<=60;lia
theorem uj {Z tsB:U T}{c Q:O->I}{a0:T}{r:U T}{tr:IZ}(X:Cx Z tsB c Q a0 r){t v:T}{k:O}(hk:atI ((d8 (a0::r) (av Q) tr a0).map λp=>T.tup [p.1,p.2]) (k:I)=Y (T.tup [t,v]))(V:Vx (E0 (a0::r) [.lst<|av Q,.bl tr]) t v)(o0 o2 o5 o6 o7 o8 o9 o10 o11 A:B W)(m1 m3:Md):∃o6' o7' o8' o9' o10' o11',evSs (C 39) lB [o0,Y (m1,.lst Z),o2,Y (m3,.tup bp),Y (.d,.bl tr),Y (.d,.int (k:I)),o6,o7,o8,o9,o10,o11,A]=.nx [o0,Y (.s,.lst Z),o2,Y (m3,.tup bp),Y (.d,.bl tr),Y (.d,.int (k:I)),o6',o7',o8',o9',o10',o11',A]:=by
 obtain⟨d,md,hd,hev⟩:=V.e;have rA:=λm=>(iL 38 X.i0 X.i1 m).trans (by rw[X.a]);have rB:=λm=>iL 38 X.j0 X.j1 m;have ct:=X.cut;have lc:=λm0 m1 m2=>mK (a0:=a0) (r:=r) (b:=av Q) (tr:=tr) 38 (by have:=X.la;have:=X.lb;lia) m0 m1 m2;generalize hCS:(d8 (a0::r) (av Q) tr a0).map (λp=>T.tup [p.1,p.2])=CS at lc hk;have rd:=λm0 m1=>tM (L:=37) (by lia) (by decide) (by lia) hev (by have:=V.d;lia) m0 m1;have gv:=V.l;have gt:=V.lt;have K1:∀i,evSs (C 39) (Lb 0 3) [o0,Y (m1,.lst Z),o2,i,Y (.d,.bl tr),Y (.d,.int (k:I)),o6,o7,o8,o9,o10,o11,A]=.nx [o0,Y (.s,.lst Z),o2,i,Y (.d,.bl tr),Y (.d,.int (k:I)),Y (.d,.lst (a0::r)),Y (.d,.lst (av Q)),Y (.s,t),Y (.s,v),o10,o11,A]:=λi=>by simp_all only[Lb,lB,Ez,Ex,EL,EV,af,rA,rB,ct,lc,hk,gv,gt]
 have K2:evSs (C 39) (Lb 3 1) [o0,Y (.s,.lst Z),o2,Y (m3,.tup bp),Y (.d,.bl tr),Y (.d,.int (k:I)),Y (.d,.lst (a0::r)),Y (.d,.lst (av Q)),Y (.s,t),Y (.s,v),o10,o11,A]=.nx [o0,Y (.s,.lst Z),o2,Y (m3,.tup bp),Y (.d,.bl tr),Y (.d,.int (k:I)),Y (.d,.lst (a0::r)),Y (.d,.lst (av Q)),Y (.s,t),Y (.s,v),J,Y (.d,.tup [.str (q "is"),v]),A]:=by simp_all only[Lb,lB,Ez,Ex,EL,EV,af,rd]
 have n1:=λm n=>gJ (Bd (v:=v) (by have:=V.d;lia)) m n;have K3:∀F G H i M N j y P f g,evSs (C 39) (Lb 4 1) [F,G,H,i,M,N,j,y,P,Y (.s,v),f,Y (.d,.tup [.str (q "is"),v]),g]=.nx [F,G,H,i,M,N,j,y,P,Y (.s,v),f,Y (.d,.tup [.str (q "is"),v]),g]:=λF G H i M N j y P f g=>by simp_all only[Lb,lB,Ez,Ex,EL,EV,af,n1]
 have s6:=gS 7 (t:=.lst (a0::r)) (by have:=X.da;show dps (a0::r)+1<=30;lia) X.za;have pa0:∀t:T,partAt [] t=Y t:=λ_=>rfl;have sa0:∀u t:T,setAt u [] t=Y u:=λ_ _=>rfl;have K4:∀F G H i M N y P w9 f D g,evSs (C 39) (Lb 5 1) [F,G,H,i,M,N,Y (.d,.lst (a0::r)),y,P,w9,f,D,g]=.nx [F,G,H,i,M,N,Y (.d,spo (.lst (a0::r))),y,P,w9,f,D,g]:=λF G H i M N y P w9 f D g=>by simp_all only[Lb,lB,Ez,Ex,EL,EV,af,pa0,sa0,s6]
 have K5:∀F G H i M N j y P f g,evSs (C 39) (Lb 6 1) [F,G,H,i,M,N,j,y,P,Y (.s,v),f,Y (.d,.tup [.str (q "is"),v]),g]=.nx [F,G,H,i,M,N,j,y,P,Y (.s,v),f,Y (.d,.tup [.str (q "is"),v]),g]:=K3;have K6:∀j f D,evSs (C 39) (Lb 7 2) [o0,Y (.s,.lst Z),o2,Y (m3,.tup bp),Y (.d,.bl tr),Y (.d,.int (k:I)),j,Y (.d,.lst (av Q)),Y (.s,t),Y (.s,v),f,D,A]=.nx [o0,Y (.s,.lst Z),o2,Y (m3,.tup bp),Y (.d,.bl tr),Y (.d,.int (k:I)),j,Y (.s,.lst (av Q)),Y (.s,t),Y (.s,v),Y (.o .s,.lst [.lst (a0::r),.tup [.lst (av Q),.bl tr]]),Y (.d,.tup [.str (q "is"),v]),A]:=λj f D=>by simp_all only[Lb,lB,Ez,Ex,EL,EV,af,rA,rd]
 have K7:∃v',dp v'<=12/\szb 50 v'=DY/\∀F G H i M N j y P f g,evSs (C 39) (Lb 9 2) [F,G,H,i,M,N,j,y,P,Y (.s,v),f,Y (.d,.tup [.str (q "is"),v]),g]=.nx [F,G,H,i,M,N,j,y,P,Y (.s,v),f,Y (.d,.tup [.str (q "is"),v']),g]:=by
  have vz:=V.z;have vd:=V.d;have n3:∀(w:T),dp w<=60->∀m n,oSem .ne DX [(m,w),(n,w)]=Y (.d,.bl DX):=λw h m n=>gJ h m n;rcases V.s with rfl|⟨x,r',rfl⟩|⟨x,r',rfl⟩
  .refine ⟨.lst [],by decide,rfl,fun F G H i M N j y P f g=>?_⟩;have d0:decide ((0:I)<(([]:U T).length:O))=false:=rfl;simp_all only[Lb,lB,Ez,Ex,EL,EV,af,EE,EU,qR,nD,EO,oI,d0]
  .obtain ⟨h1,h2⟩:=El.mp (show (decide ((x::r').length<=40)&&aA 40 (x::r'))=DY from vz);obtain⟨h3,h4⟩:=El.mp (show(szb 40 x&&aA 40 r')=DY from h2);have vd:max (dp x) (dps r')+1<=10:=vd;have sx:=gS 7 (t:=x) (by lia) (bP (by decide) x h3);have p2:partAt [1,0] (.tup [.str (q "is"),.lst (x::r')])=Y x:=rfl;have a2:∀u,setAt u [1,0] (.tup [.str (q "is"),.lst (x::r')])=Y (.tup [.str (q "is"),.lst (u::r')]):=λ_=>rfl;have d0:decide ((0:I)<((x::r').length:O))=true:=I0 (by rw[Ef];lia);have nr:=n3 (.lst r') (by show dps r'+1<=60;lia);refine⟨.lst (spo x::r'),?_,?_,λF G H i M N j y P f g=>?_⟩
   .show max (dp<|spo x) (dps r')+1<=12;rw[jQ];lia
   .show (decide ((spo x::r').length<=50)&&(szb 50 (spo x)&&aA 50 r'))=DY;rw[bP (by decide) (spo x)<|gE x h3,aZ (by decide) r' h4,I0 (show(spo x::r').length<=50 by have:=Ji h1;rw[Ef] at *;lia)];rfl
   simp_all only[Lb,lB,Ez,Ex,EL,EV,af,EE,EU,qR,nD,EO,oI,d0,p2,a2,sx,wH,nr]
  .obtain ⟨h1,h2⟩:=El.mp (show (decide ((x::r').length<=40)&&aA 40 (x::r'))=DY from vz);obtain⟨h3,h4⟩:=El.mp (show(szb 40 x&&aA 40 r')=DY from h2);have vd:max (dp x) (dps r')+1<=10:=vd;have sx:=gS 7 (t:=x) (by lia) (bP (by decide) x h3);have p2:partAt [1,0] (.tup [.str (q "is"),.tup (x::r')])=Y x:=rfl;have a2:∀u,setAt u [1,0] (.tup [.str (q "is"),.tup (x::r')])=Y (.tup [.str (q "is"),.tup (u::r')]):=λ_=>rfl;have nr:=n3 (.tup r') (by show dps r'+1<=60;lia);refine⟨.tup (spo x::r'),?_,?_,λF G H i M N j y P f g=>?_⟩
   .show max (dp<|spo x) (dps r')+1<=12;rw[jQ];lia
   .show (decide ((spo x::r').length<=50)&&(szb 50 (spo x)&&aA 50 r'))=DY;rw[bP (by decide) (spo x)<|gE x h3,aZ (by decide) r' h4,I0 (show(spo x::r').length<=50 by have:=Ji h1;rw[Ef] at *;lia)];rfl
   simp_all only[Lb,lB,Ez,Ex,EL,EV,af,EE,EU,vK,vY,EO,vX,p2,a2,sx,ke,wH,nr]
 obtain⟨v',dv,zv,K7⟩:=K7;have s8:=gS 7 (t:=v') (by lia) zv;have pa1:partAt [1] (.tup [.str (q "is"),v'])=Y v':=rfl;have sa1:∀u,setAt u [1] (.tup [.str (q "is"),v'])=Y (.tup [.str (q "is"),u]):=λ_=>rfl;have K8:∀F G H i M N j y P w9 f g,evSs (C 39) (Lb 11 1) [F,G,H,i,M,N,j,y,P,w9,f,Y (.d,.tup [.str (q "is"),v']),g]=.nx [F,G,H,i,M,N,j,y,P,w9,f,Y (.d,.tup [.str (q "is"),spo v']),g]:=λF G H i M N j y P w9 f g=>by simp_all only[Lb,lB,Ez,Ex,EL,EV,af,pa1,sa1,s8]
 have n2:=λm n=>gJ (v:=.lst [.lst (a0::r),.tup [.lst<|av Q,.bl tr]]) (by have:=X.da;have:=X.db;show max (dps (a0::r)+1) (max (max (dps (av Q)+1) (max 0 0)+1) 0)+1<=60;lia) m n;have K9:∀j y D,evSs (C 39) (Lb 12 1) [o0,Y (.s,.lst Z),o2,Y (m3,.tup bp),Y (.d,.bl tr),Y (.d,.int (k:I)),j,y,Y (.s,t),Y (.s,v),Y (.o .s,.lst [.lst (a0::r),.tup [.lst (av Q),.bl tr]]),D,A]=.nx [o0,Y (.s,.lst Z),o2,Y (m3,.tup bp),Y (.d,.bl tr),Y (.d,.int (k:I)),j,y,Y (.s,t),Y (.s,v),Y (.o .s,.lst [.lst (a0::r),.tup [.lst (av Q),.bl tr]]),D,A]:=λj y D=>by simp_all only[Lb,lB,Ez,Ex,EL,EV,af,rA,rB,ct,rd,n1,n2]
 exact⟨_,_,_,_,_,_,(go1 (b:=Lb 3 1++(Lb 4 1++(Lb 5 1++(Lb 6 1++(Lb 7 2++(Lb 9 2++(Lb 11 1++Lb 12 1)))))))<|K1 _).trans<|(go1 K2).trans<|(go1<|K3 _ _ _ _ _ _ _ _ _ _ _).trans<|(go1<|K4 _ _ _ _ _ _ _ _ _ _ _ _).trans<|(go1<|K5 _ _ _ _ _ _ _ _ _ _ _).trans<|(go1<|K6 _ _ _).trans<|(go1<|K7 _ _ _ _ _ _ _ _ _ _ _).trans<|(go1<|K8 _ _ _ _ _ _ _ _ _ _ _ _).trans<|K9 _ _ _⟩
theorem atN {b:Type}{a:U b}{i:I}{n:O}(h:i=n){x:b}(hx:a[n]?=Y x):atI a i=Y x:=by subst h;have c:=(EM.mp hx).1;unfold atI ixN;rw[Jc<|by lia,Jc<|by lia];show a[(n:I).toNat]?=_;rw[Ho];exact hx
theorem kb {n:O}:∀{ts:U T},(∀t∈ts,dp t<=n)->dps ts<=n
|[],_=>EJ _
|t::ts,h=>by show max (dp t) (dps ts)<=n;have b:=h t Ek;have c:=kb (ts:=ts) λu a=>h u<|Em _ a;lia
theorem iq {n:O}:∀{ts:U T},(∀t∈ts,szb n t=DY)->aA n ts=DY
|[],_=>rfl
|t::ts,h=>by show(szb n t&&aA n ts)=DY;rw[h t Ek,iq (ts:=ts) λu a=>h u<|Em _ a];rfl
theorem iI {i:I}{t:T}(h:t∈cG i):∃j,t=.int j:=by obtain⟨j,_,rfl⟩:=FN.mp h;exact⟨_,rfl⟩
theorem t6 (i:I):dps (cG i)<=0:=kb λt h=>by obtain⟨j,rfl⟩:=iI h;exact D7 0
theorem vg (i:I):szb 20 (.lst<|cG i)=true:=by show(decide ((cG i).length<=20)&&aA 20 (cG i))=DY;rw[iq λt h=>by obtain⟨j,rfl⟩:=iI h;rfl,I0 (show(cG i).length<=20 by unfold cG;rw[Ea,FV];lia)];rfl
theorem dn {c:O->I}{t:T}(h:t∈av c):∃i,t=.lst (cG i):=by obtain⟨j,_,rfl⟩:=FN.mp h;exact⟨_,rfl⟩
theorem fz (c:O->I):dps (av c)<=5:=kb λt h=>by obtain⟨i,rfl⟩:=dn h;have:=t6 i;show dps (cG i)+1<=5;lia
theorem jk (c:O->I):aA 20 (av c)=true:=iq λt h=>by obtain⟨i,rfl⟩:=dn h;exact vg i
theorem dD (c:O->I):(av c).length<=5:=by unfold av;rw[Ea,FV];lia
theorem jU (c:O->I):∃b r,av c=b::r:=by
 cases h:av c with
 |nil=>
  have:(av c).length=(1+c 0 % 5).toNat:=by unfold av;rw[Ea,FV]
  rw[h,FT] at this;lia
 |cons a r=>exact⟨a,r,rfl⟩
theorem fQ (u:U T):T.lst u=.lst []\/(∃x r,T.lst u=.lst (x::r))\/∃x r,T.lst u=.tup (x::r):=by
 cases u with
 |nil=>exact .inl rfl
 |cons x y=>exact .inr<|.inl ⟨_,_,rfl⟩
theorem yF (x:T)(u:U T):T.tup (x::u)=.lst []\/(∃y r,T.tup (x::u)=.lst (y::r))\/∃y r,T.tup (x::u)=.tup (y::r):=.inr<|.inr ⟨_,_,rfl⟩
theorem jF {a:U T}(h:a.length<=40)(b:aA 40 a=DY):szb 40 (.lst a)=true:=by show(decide (a.length<=40)&&aA 40 a)=DY;rw[I0 h,b];rfl
theorem vj {a:U T}(h:a.length<=40)(b:aA 40 a=DY):szb 40 (.tup a)=true:=by show(decide (a.length<=40)&&aA 40 a)=DY;rw[I0 h,b];rfl
theorem dH {t:T}{a:U T}(h:szb 40 t=DY)(b:aA 40 a=DY):aA 40 (t::a)=true:=by show(szb 40 t&&aA 40 a)=DY;rw[h,b];rfl
theorem pO {a:T}{r b:U T}{tr:IZ}(l:(a::r).length<=10)(m:b.length<=10)(g:∀t∈a::r,∃u,t=.lst u)(f:dps (a::r)<=5)(k:dps b<=5)(e:aA 20 (a::r)=DY)(i:aA 20 b=DY):∀p∈d8 (a::r) b tr a,Vx (E0 (a::r) [.lst b,.bl tr]) p.1 p.2:=by
 intro p hp;have c:=pK l m g p hp;have zA:szb 40 (.lst (a::r))=true:=jF (by lia)<|aZ (by decide) _ e;have d:szb 40 (.lst b)=true:=jF (by lia)<|aZ (by decide) _ i;have s:∀x:IZ,szb 40 (.bl x)=true:=λ_=>rfl;obtain⟨u0,n⟩:=g a Ek;have o:szb 40 a=true:=(El.mp<|show(szb 40 a&&aA 40 r)=DY from aZ (by decide) _ e).1;have v:dp a<=5:=by have:max (dp a) (dps r)<=5:=f;lia
 have w:dp (.lst (a::r))<=6:=F7 f;have z:dp (.lst b)<=6:=F7 k;have j:∀{x y:T},dp x<=8->dp y<=8->dp (.tup [x,y])<=9:=λ{x y} h A=>by show max (dp x) (max (dp y) 0)+1<=9;lia
 simp only[Ee,ED,Jq] at hp;rcases hp with rfl|rfl|rfl|rfl|rfl|rfl|rfl|rfl|rfl|rfl|rfl|rfl
 .exact⟨c,rfl,rfl,by show dp (.lst (a::r))<=10;lia,zA,fQ _⟩
 .exact⟨c,rfl,rfl,HK<|j (by lia)<|Fd rfl,vj (Fd rfl)<|dH d<|dH (s _) rfl,yF _ _⟩
 .exact⟨c,rfl,rfl,by show dp (.lst b)<=10;lia,d,fQ _⟩
 .subst n;exact⟨c,rfl,rfl,by show dp (.lst u0)<=10;lia,o,fQ _⟩
 .exact⟨c,rfl,rfl,by show max (dp<|.lst (a::r)) 0+1<=10;lia,jF (Fd rfl)<|dH zA rfl,fQ _⟩
 .exact⟨c,rfl,rfl,by show max (dp<|.lst (a::r)) (max (max (dp<|.lst b) (max (dp<|.lst (a::r)) 0)+1) 0)+1<=10;lia,vj (Fd rfl)<|dH zA<|dH (vj (Fd rfl)<|dH d<|dH zA rfl) rfl,yF _ _⟩
 .exact⟨c,rfl,rfl,by show dps ((a::r)++b)+1<=10;rw[ir];lia,jF (by rw[Er];lia)<|eY 40 _ _ (aZ (by decide) _ e)<|aZ (by decide) _ i,fQ _⟩
 .exact⟨c,rfl,rfl,by show dp (.lst (a::r))<=10;lia,zA,fQ _⟩
 .exact⟨c,rfl,rfl,by show dp (.lst (a::r))<=10;lia,zA,fQ _⟩
 .exact⟨c,rfl,rfl,by show max (dp<|.lst (a::r)) (max (dp<|.lst (a::r))<|max (dp<|.lst (a::r)) 0)+1<=10;lia,jF (Fd rfl)<|dH zA<|dH zA<|dH zA rfl,fQ _⟩
 .cases tr
  .exact⟨c,rfl,rfl,by show dp (.lst b)<=10;lia,d,fQ _⟩
  .exact⟨c,rfl,rfl,by show dp (.lst (a::r))<=10;lia,zA,fQ _⟩
 .exact⟨c,rfl,rfl,by show max (dp<|.lst (a::r)) (max (max (dp<|.lst (a::r)) 0+1) 0)+1<=10;lia,vj (Fd rfl)<|dH zA<|dH (jF (Fd rfl)<|dH zA rfl) rfl,yF _ _⟩
noncomputable def ci (a:U I)(k:O):I:=if k<a.length then a.getD k 0 else 0
abbrev cel (a:U I):U T:=(Eb 13).map λk=>.int<|ci a k
theorem jS (a:U I){k:O}(h:k<13){i:I}(b:i=k):atI (cel a) i=Y (.int<|ci a k):=atN b<|by rw[ER,Hv h];rfl
abbrev zT (a:U I):U T:=(Eb 7).map λk=>.int<|ci a<|k+6
theorem lh (a:U I){k:O}(h:k<7){i:I}(b:i=k):atI (zT a) i=Y (.int<|ci a<|k+6):=atN b<|by rw[ER,Hv h];rfl
theorem sF (a:U I):cut (cel a) (Y 6) J=zT a:=by kernel_rfl
theorem oo (a:U I):∃f o r,evSs (C 39) (Bk f_law 0 4) [Y (.d,.scr a),J,J,J,J,J,J,J,J,J,J,J,J]=.nx [Y (.s,.scr a),Y (f,.lst<|cel a),Y (.s,cT),Y (o,.tup bp),Y (.d,.bl r),J,J,J,J,J,J,J,J]:=by
 have j:aP [12] (dW (evE (C 39) (.ifx (.op .lt DX [.var 12,.op .len DX [.var 0]]) (.op .ix DX [.var 0,.var 12]) (.cst (.int 0))))) ((Eb 13).map λ(k:O)=>[((.d,.int k):W)]) [Y (.s,.scr a),J,J,J,J,J,J,J,J,J,J,J,J] []=.ok ([]++(Eb 13).map λ(k:O)=>((.d,.int (ci a k)):W),[Y (.s,.scr a),J,J,J,J,J,J,J,J,J,J,J,J]):=by
  refine bO (λ(k:O)=>((.d,.int<|ci a k):W)) _ [] λk hk=>⟨[Y (.s,.scr a),J,J,J,J,J,J,J,J,J,J,J,Y (.d,.int (k:I))],[Y (.s,.scr a),J,J,J,J,J,J,J,J,J,J,J,Y (.d,.int (k:I))],rfl,?_,rfl⟩;by_cases h:k<a.length
  .have e:decide ((k:I)<((a.length:O):I))=true:=I0 (by lia)
   have b:atI a (k:I)=Y (ci a k):=atN rfl (by
    unfold ci;rw[Jc h,IH,GY h];rfl)
   simp_all only[af,e,b]
  .have e:decide ((k:I)<((a.length:O):I))=false:=Jn (by lia);have b:ci a k=0:=Jd h;simp_all only[af,e,b]
 have p:∀m:Md,turns .rng [(m,.int 13)]=Y ((Eb 13).map λ(k:O)=>[((.d,.int k):W)]):=λm=>kW (i:=13) (n:=13) (by decide) (by decide) m;have g:trees ((Eb 13).map λ(k:O)=>((.d,.int (ci a k)):W))=cel a:=bB (λ_=>.d) (λ(k:O)=>.int<|ci a k) _;have ok:((Eb 13).map λ(k:O)=>((.d,.int (ci a k)):W)).all okD=true:=F8.mpr λw l=>by obtain⟨u,_,rfl⟩:=FN.mp l;rfl
 have c:=jS a (k:=12) (by decide) (i:=12) rfl;have f:decide ((0:I)<2)=true:=rfl;exact⟨_,_,_,by simp_all only[Bk,f_law,Ez,Ex,EL,EV,af,p,j,g,ok,c,f,GB];rfl⟩
theorem nV {ts tsB:U T}{c i:O->I}{a:T}{r:U T}{h:IZ}(X:Cx ts tsB c i a r)(hV:∀p∈d8 (a::r) (av i) h a,Vx (E0 (a::r) [.lst<|av i,.bl h]) p.1 p.2)(M o2 j:B W)(H:Md):∀(G:U O) (x:Md) (y z A D F b f:B W),(∀k∈G,k<12)->∃l Q m n o w e g,cS [5] (evSs (C 39) lB) (G.map λ(k:O)=>[((.d,.int k):W)]) [M,Y (x,.lst ts),o2,Y (H,.tup bp),Y (.d,.bl h),y,z,A,D,F,b,f,j]=.nx [M,Y (l,.lst ts),o2,Y (H,.tup bp),Y (.d,.bl h),Q,m,n,o,w,e,g,j]
|[],x,y,z,A,D,F,b,f,_=>⟨x,y,z,A,D,F,b,f,rfl⟩
|k::G,x,y,z,A,D,F,b,f,hk=>by have N:k<(d8 (a::r) (av i) h a).length:=hk k Ek;have P:(d8 (a::r) (av i) h a)[k]?=Y ((d8 (a::r) (av i) h a)[k]):=GY N;generalize hp:(d8 (a::r) (av i) h a)[k]=p at P;obtain⟨t,v⟩:=p;have hm:(t,v)∈d8 (a::r) (av i) h a:=GF P;have ha:atI ((d8 (a::r) (av i) h a).map λp=>T.tup [p.1,p.2]) (k:I)=Y (T.tup [t,v]):=atN rfl (by rw[ER,P];rfl);obtain⟨m,n,o,w,e,g,e1⟩:=uj X ha (hV _ hm) M o2 y z A D F b f j x H;obtain⟨l,p5,p6,p7,p8,p9,Z,p11,e2⟩:=nV X hV M o2 j H G .s (Y (.d,.int (k:I))) m n o w e g λu hu=>hk u<|Em _ hu;exact⟨l,p5,p6,p7,p8,p9,Z,p11,(eC rfl e1).trans e2⟩
theorem pure_law (c:U I):∃m bs,C 40 0 [(.d,.scr c)]=.ok ((m,.bl DY),bs):=by
 obtain⟨g,h,tr,p⟩:=oo c;obtain⟨e,r,f⟩:=jU<|ci c;have j:dps (e::r)<=5:=by rw[<- f];exact fz _
 have o:aA 20 (e::r)=true:=by rw[<- f];exact jk _
 have G:(e::r).length<=5:=by rw[<- f];exact dD _
 have F:szb 50 (.lst (e::r))=true:=bP (a:=40) (by decide) _<|jF (by lia)<|aZ (by decide) _ o;have X:Cx (cel c) (zT c) (ci c) (λk=>ci c (k+6)) e r:=⟨sF c,f,jS c (by decide) rfl,λk hk=>jS c (by lia)<|by lia,lh c (by decide) rfl,λk hk=>lh c (k:=k+1) (by lia)<|by lia,j,F,by lia,fz _,Ed (dD _)<|by decide⟩
 have w:=pO (tr:=tr) (by lia) (Ed (dD λk=>ci c<|k+6)<|by decide) (λt l=>by
  rw[<- f] at l;obtain⟨i,rfl⟩:=dn l;exact⟨_,rfl⟩) j (fz λk=>ci c<|k+6) o<|jk λk=>ci c<|k+6
 obtain⟨x,H,M,N,P,Q,y,z,u⟩:=nV X w (Y (.s,.scr c)) (Y (.s,cT)) J h (Eb 12) g J J J J J J J λk hk=>G0.mp hk;have D:evL (C 39) [.cst (.int 12)] (pick [] [] [Y (.s,.scr c),Y (g,.lst (cel c)),Y (.s,cT),Y (h,.tup bp),Y (.d,.bl tr),J,J,J,J,J,J,J,J])=.ok ([(.d,.int 12)],pick [] [] [Y (.s,.scr c),Y (g,.lst (cel c)),Y (.s,cT),Y (h,.tup bp),Y (.d,.bl tr),J,J,J,J,J,J,J,J]):=by simp_all only[af]
 have A:turns .rng [(.d,.int 12)]=Y ((Eb 12).map λ(k:O)=>[((.d,.int k):W)]):=kW (i:=12) (n:=12) (by decide) (by decide) .d;have v:=iA (vs:=[]) (r:=[]) D A u;rw[show(40:O)=39+1 from rfl,wR,x_run _ _ _ rfl];have go:=Jk (Fl.out [])<|(go1 (b:=Bk f_law 4 1++f_law.body.drop 5) p).trans<|go1 (b:=f_law.body.drop 5) v;exact⟨_,_,go.trans<|by simp_all only[f_law,Ez,Ex,af];rfl⟩
end
end P24

namespace A24
open PySem PySem.Spec PyProof.Rows L2 L3 MR
def top (i:O):Jj:=PySem.Challenge.pw_broadrow_k24_askers_own.main.body.getD i<|.Pass ⟨0,0,0,0⟩
abbrev s31:Jj:=top 8
abbrev s33:Jj:=top 10
abbrev qq:Jj:=top 11
abbrev s34:Jj:=top 12
abbrev qF:Jj:=top 16
abbrev ny:Jj:=top 17
abbrev s43:Jj:=top 23
abbrev s44:Jj:=top 24
abbrev s45:Jj:=top 25
abbrev s46:Jj:=top 26
abbrev s60:Jj:=top 40
abbrev s61:Jj:=top 41
abbrev s52:Jj:=top 42
abbrev s64:Jj:=top 46
abbrev s72:Jj:=top 54
abbrev s73:Jj:=top 55
abbrev ri:Jj:=top 64
abbrev qt:Jj:=top 65
abbrev qL:Jj:=top 75
abbrev pY:Jj:=top 76
abbrev nQ:Jj:=top 77
abbrev qw:Jj:=top 79
abbrev qv:Jj:=top 80
abbrev oM:Jj:=top 81
abbrev oP:Jj:=top 82
abbrev qj:Jj:=top 83
abbrev n8:Jj:=top 86
abbrev oB:Jj:=top 88
abbrev u9:Jj:=top 89
abbrev pU:Jj:=top 90
abbrev s0:Jj:=top 91
structure Glb (K:D1)(w:D3)(mg:Str->B L):Prop where
 LONGEST:∃t,mg "LONGEST"=Y (.int 200 t)
 MOST_TURNS:∃t,mg "MOST_TURNS"=Y (.int 60 t)
 k_AHEAD:qz K w mg "AHEAD" keys_AHEAD
 k_WAYS:qz K w mg "WAYS" keys_WAYS
 k_WORDS:qz K w mg "WORDS" keys_WORDS
structure Xs (P:I9)(w:D3)(K:D1)(mg:Str->B L)(base:Jf):Prop where
 p_Around:PCl P w K mg base "Around" c6 [q "names",q "turns",q "rounds",q "book"] []
structure Calls (P:I9)(w:D3)(K:D1)(mg:Str->B L)(base:Jf)(n:O)(C:M.Call):Prop where
 c31:aa P w K mg base n C "beyond_word" 31 []
 c33:aa P w K mg base n C "upto_word" 33 []
 c431:aa P w K mg base n C "turns_word" 431 []
 c34:aa P w K mg base n C "long_word" 34 []
 c130:aa P w K mg base n C "done" 130 []
 c456:aa P w K mg base n C "own_copy" 456 []
 c43:aa P w K mg base n C "do_first" 43 []
 c44:aa P w K mg base n C "do_second" 44 []
 c45:aa P w K mg base n C "do_one" 45 []
 c46:aa P w K mg base n C "do_upto" 46 []
 c60:aa P w K mg base n C "do_pair" 60 []
 c61:aa P w K mg base n C "do_pick" 61 []
 c52:aa P w K mg base n C "do_join" 52 []
 c64:aa P w K mg base n C "word_of_upto" 64 []
 c72:aa P w K mg base n C "word_of_pick" 72 []
 c73:aa P w K mg base n C "word_of_join" 73 []
 c175:aa P w K mg base n C "parts_start" 175 []
 c176:aa P w K mg base n C "parts" 176 []
 c466:aa P w K mg base n C "reading" 466 []
 c467:aa P w K mg base n C "worth_of" 467 []
 c468:aa P w K mg base n C "inside" 468 []
 c469:aa P w K mg base n C "let_worth" 469 []
 c470:aa P w K mg base n C "if_worth" 470 []
 c471:aa P w K mg base n C "each_worth" 471 []
 c472:aa P w K mg base n C "times_worth" 472 []
 c464:aa P w K mg base n C "meet_turns" 464 []
 c473:aa P w K mg base n C "read" 473 []
 c474:aa P w K mg base n C "_law_rows" 474 []
 c455:aa P w K mg base n C "_law_spoiled" 455 [0]
 c448:aa P w K mg base n C "_law_cases" 448 []
 t_DOINGS:qy P w K mg base n C "DOINGS" tab_DOINGS
 t_WAYS:qy P w K mg base n C "WAYS" tab_WAYS
 t_WORDS:qy P w K mg base n C "WORDS" tab_WORDS
abbrev DD (x:Str)(e:Jj)(N:U Str)(g:M.Fn):Prop:=∀{P:I9} {w:D3} {K:D1} {d:Str->B L} {a:Jf} {n:O} {C:M.Call} {f:IY} {c:L} {A:D9} {b:U Env} {s:DZ} {H:Hp} {E:XK},Xs P w K d a->Calls P w K d a (n+2) C->Txt d->Glb K w d->Room (n+2) (A.deeper<|EZ x (defScope e) s.heap.objs.size f c)->SSs (hX CX0 P w K d a N x (defScope e) f c A b s H E).nox (slN N.length) g.io C (defBody e) g.body
theorem S31:ai ["length","number"] ["length","number"] (defScope s31):=fsc
theorem D31:DD "beyond_word" s31 ["length","number"] aW:=λ{_ _ _ _ _ _ _ _ _ _ _ s _ _} b cs T G a=>
 have S:=S31
 (ss1<|aH<|sIf (se sI (sM 1)<|sM 0) sN sS)
theorem S33:ai ["number"] ["number"] (defScope s33):=fsc
theorem D33:DD "upto_word" s33 ["number"] cD:=λ{_ _ _ _ _ _ _ _ _ _ _ s _ _} b cs T G a=>
 have S:=S33
 (ss1<|aH<|sIf (kO sI (sM 0)<|sGc G.LONGEST) sN sS)
theorem AL:ai ["number"] ["number"] (defScope qq):=fsc
theorem CL:DD "turns_word" qq ["number"] bZ:=λ{_ _ _ _ _ _ _ _ _ _ _ s _ _} b cs T G a=>
 have S:=AL
 (ss1<|aH<|sIf (kO sI (sM 0)<|sGc G.MOST_TURNS) sN sS)
theorem S34:ai ["length"] ["length"] (defScope s34):=fsc
theorem D34:DD "long_word" s34 ["length"] bg:=λ{_ _ _ _ _ _ _ _ _ _ _ s _ _} b cs T G a=>
 have S:=S34
 (ss1<|aH<|sIf (DA (sM 0)<|sGc G.LONGEST) sN sS)
theorem Cq:ai ["piece","ins","word"] ["piece","ins"] (defScope qF):=fsc
theorem DJ:DD "done" qF ["piece","ins","word"] cW:=λ{_ _ _ _ _ _ _ _ _ _ _ s _ _} b cs T G a=>
 have S:=Cq
 (@ssc _ _ _ _ _ _ _ _ (@zA _ _ _ _ _ _ _ 2 _ _ _ _ S.nd (sIf (y9 G.k_WORDS (@au _ _ _ _ _ _ _ _ _ (sV 0) sI (λ_ _=>rfl))) (jT cs.t_WORDS a (@au _ _ _ _ _ _ _ _ _ (sV 0) sI (λ_ _=>rfl)) (@say _ _ _ _ _ _ _ (sV 1) sa0 rfl rfl)) sN) rfl rfl rfl rfl rfl rfl)
    (@ssc _ _ _ _ _ _ _ _ (zIf (lW (sV 2) sN) (ss1 (aH (@sTx _ _ _ _ _ _ _ (by decide) (@slx _ _ _ _ _ _ _ sN (@slx _ _ _ _ _ _ _ (sM 2) sl0 rfl) rfl)))) ss0)
    (@ssc _ _ _ _ _ _ _ _ (zIf (Ar a (@au _ _ _ _ _ _ _ _ _ (sV 0) sI (λ_ _=>rfl)) sS) (ss1 (aH (@sTx _ _ _ _ _ _ _ (by decide) (@slx _ _ _ _ _ _ _ (@au _ _ _ _ _ _ _ _ _ (sM 0) sI (λ_ _=>rfl)) (@slx _ _ _ _ _ _ _ sN sl0 rfl) rfl)))) ss0)
    (ss1 (aH (@sTx _ _ _ _ _ _ _ (by decide) (@slx _ _ _ _ _ _ _ (jT cs.t_DOINGS a (@au _ _ _ _ _ _ _ _ _ (sM 0) sI (λ_ _=>rfl)) (@say _ _ _ _ _ _ _ (sM 1) sa0 rfl rfl)) (@slx _ _ _ _ _ _ _ sN sl0 rfl) rfl)))))))
theorem Al:ai ["worth"] ["worth"] (defScope ny):=fsc
theorem DB:DD "own_copy" ny ["worth"] aq:=λ{_ _ _ _ _ _ _ _ _ _ _ s _ _} b cs T G a=>
 have S:=Al
 (@ssc _ _ _ _ _ _ _ _ (zIf (tB (lF (by decide) GV T.isin T.list (sV 0))) (ss1 (aH (sC1 [] [] [] [] (CB (sM 0)) (λ_ _ _ _=>(ak cs.c456 a (@say _ _ _ _ _ _ _ (sV 0) sa0 rfl rfl))) csc .nil .nil))) ss0)
    (@ssc _ _ _ _ _ _ _ _ (zIf (tB (lF (by decide) GX T.isin T.tup (sV 0))) (ss1 (aH (yk (hm:=T.tup) (ha:=(sC1 [] [] [] [] (CB (sM 0)) (λ_ _ _ _=>(ak cs.c456 a (@say _ _ _ _ _ _ _ (sV 0) sa0 rfl rfl))) csc .nil .nil))))) ss0)
    (ss1 (aH (sM 0)))))
theorem S43:ai ["ins"] ["ins"] (defScope s43):=fsc
theorem D43:DD "do_first" s43 ["ins"] bC:=λ{_ _ _ _ _ _ _ _ _ _ _ s _ _} b cs T G a=>
 have S:=S43
 (@ss1 _ _ _ _ _ _<|@aH _ _ _ _ _ _ _ _<|@au _ _ _ _ _ _ _ _ _ (@au _ _ _ _ _ _ _ _ _ (sM 0) sI λ_ _=>rfl) sI λ_ _=>rfl)
theorem S44:ai ["ins"] ["ins"] (defScope s44):=fsc
theorem D44:DD "do_second" s44 ["ins"] bf:=λ{_ _ _ _ _ _ _ _ _ _ _ s _ _} b cs T G a=>
 have S:=S44
 (@ss1 _ _ _ _ _ _<|@aH _ _ _ _ _ _ _ _<|@au _ _ _ _ _ _ _ _ _ (@au _ _ _ _ _ _ _ _ _ (sM 0) sI λ_ _=>rfl) sI λ_ _=>rfl)
theorem S45:ai ["ins"] ["ins"] (defScope s45):=fsc
theorem D45:DD "do_one" s45 ["ins"] cx:=λ{_ _ _ _ _ _ _ _ _ _ _ s _ _} b cs T G a=>
 have S:=S45
 (ss1<|aH<|@sLx _ _ _ _ _ _ _ (by decide)<|@slx _ _ _ _ _ _ _ (@au _ _ _ _ _ _ _ _ _ (sM 0) sI λ_ _=>rfl) sl0 rfl)
theorem S46:ai ["ins"] ["ins"] (defScope s46):=fsc
theorem D46:DD "do_upto" s46 ["ins"] dk:=λ{_ _ _ _ _ _ _ _ _ _ _ s _ _} b cs T G a=>
 have S:=S46
 (ss1<|aH<|DR T.list T.range<|@au _ _ _ _ _ _ _ _ _ (sM 0) sI λ_ _=>rfl)
theorem S60:ai ["ins"] ["ins"] (defScope s60):=fsc
theorem D60:DD "do_pair" s60 ["ins"] bU:=λ{_ _ _ _ _ _ _ _ _ _ _ s _ _} b cs T G a=>
 have S:=S60
 (ss1 (aH (@sTx _ _ _ _ _ _ _ (by decide) (@slx _ _ _ _ _ _ _ (@au _ _ _ _ _ _ _ _ _ (sV 0) sI (λ_ _=>rfl)) (@slx _ _ _ _ _ _ _ (@au _ _ _ _ _ _ _ _ _ (sV 0) sI (λ_ _=>rfl)) sl0 rfl) rfl))))
theorem S61:ai ["ins"] ["ins"] (defScope s61):=fsc
theorem D61:DD "do_pick" s61 ["ins"] bS:=λ{_ _ _ _ _ _ _ _ _ _ _ s _ _} b cs T G a=>
 have S:=S61
 (@ss1 _ _ _ _ _ _ (@aH _ _ _ _ _ _ _ _ (@au _ _ _ _ _ _ _ _ _ (@au _ _ _ _ _ _ _ _ _ (sV 0) sI (λ_ _=>rfl)) (@au _ _ _ _ _ _ _ _ _ (sV 0) sI (λ_ _=>rfl)) (λ_ _=>rfl))))
theorem S52:ai ["ins"] ["ins"] (defScope s52):=fsc
theorem D52:DD "do_join" s52 ["ins"] bR:=λ{_ _ _ _ _ _ _ _ _ _ _ s _ _} b cs T G a=>
 have S:=S52
 (ss1 (aH (jN (@au _ _ _ _ _ _ _ _ _ (sV 0) sI (λ_ _=>rfl)) (@au _ _ _ _ _ _ _ _ _ (sV 0) sI (λ_ _=>rfl)))))
theorem S64:ai ["ins"] ["ins"] (defScope s64):=fsc
theorem D64:DD "word_of_upto" s64 ["ins"] bz:=λ{_ _ _ _ _ _ _ _ _ _ _ s _ _} b cs T G a=>
 have S:=S64
 (ss1<|aH<|ak cs.c33 a<|@say _ _ _ _ _ _ _ (@au _ _ _ _ _ _ _ _ _ (sM 0) sI λ_ _=>rfl) sa0 rfl rfl)
theorem S72:ai ["ins"] ["ins"] (defScope s72):=fsc
theorem D72:DD "word_of_pick" s72 ["ins"] aT:=λ{_ _ _ _ _ _ _ _ _ _ _ s _ _} b cs T G a=>
 have S:=S72
 (ss1 (aH (ak cs.c31 a (@say _ _ _ _ _ _ _ (nh (hm:=T.len) (ha:=(@au _ _ _ _ _ _ _ _ _ (sV 0) sI (λ_ _=>rfl)))) (@say _ _ _ _ _ _ _ (@au _ _ _ _ _ _ _ _ _ (sV 0) sI (λ_ _=>rfl)) sa0 rfl rfl) rfl rfl))))
theorem S73:ai ["ins"] ["ins"] (defScope s73):=fsc
theorem D73:DD "word_of_join" s73 ["ins"] aU:=λ{_ _ _ _ _ _ _ _ _ _ _ s _ _} b cs T G a=>
 have S:=S73
 (ss1 (aH (ak cs.c34 a (@say _ _ _ _ _ _ _ (jN (nh (hm:=T.len) (ha:=(@au _ _ _ _ _ _ _ _ _ (sV 0) sI (λ_ _=>rfl)))) (nh (hm:=T.len) (ha:=(@au _ _ _ _ _ _ _ _ _ (sV 0) sI (λ_ _=>rfl))))) sa0 rfl rfl))))
theorem Ak:ai ["sign"] ["sign"] (defScope ri):=fsc
theorem Du:DD "parts_start" ri ["sign"] aL:=λ{_ _ _ _ _ _ _ _ _ _ _ s _ _} b cs T G a=>
 have S:=Ak
 (ss1<|aH<|sIf (y9 G.k_AHEAD<|sM 0) sI sI)
theorem BP:ai ["tree"] ["tree"] (defScope qt):=fsc
theorem Dw:DD "parts" qt ["tree"] cK:=λ{_ _ _ _ _ _ _ _ _ _ _ s _ _} b cs T G a=>
 have S:=BP
 (ss1 (aH (i8 (sV 0) (ak cs.c175 a (@say _ _ _ _ _ _ _ (@au _ _ _ _ _ _ _ _ _ (sV 0) sI (λ_ _=>rfl)) sa0 rfl rfl)))))
theorem BG:ai ["program","worths","book","names","head","worth","told"] ["program","worths","book"] (defScope qL):=fsc
theorem C4:DD "reading" qL ["program","worths","book","names","head","worth","told"] f_reading:=λ{_ _ _ _ _ _ _ _ _ _ _ s _ _} b cs T G a=>
 have S:=BG
 (@ssc _ _ _ _ _ _ _ _ (@zA _ _ _ _ _ _ _ 3 _ _ _ _ S.nd AF rfl rfl rfl rfl rfl rfl)
    (@ssc _ _ _ _ _ _ _ _ (vP 4 5 S.nd (Ac (hm:=T.zip) (ha:=(@au _ _ _ _ _ _ _ _ _ (sV 0) sI (λ_ _=>rfl))) (hb:=(sV 1))) (ss1 (wj 3 a (sV 5) (@au _ _ _ _ _ _ _ _ _ (sV 4) sI (λ_ _=>rfl)))))
    (@ssc _ _ _ _ _ _ _ _ (Dv (ss1 (@zA _ _ _ _ _ _ _ 6 _ _ _ _ S.nd (ak cs.c467 a (@say _ _ _ _ _ _ _ (@au _ _ _ _ _ _ _ _ _ (sV 0) sI (λ_ _=>rfl)) (@say _ _ _ _ _ _ _ (@sTx _ _ _ _ _ _ _ (by decide) sl0) (@say _ _ _ _ _ _ _ (Ah b.p_Around a (@slx _ _ _ _ _ _ _ (sV 3) (@slx _ _ _ _ _ _ _ (@sTx _ _ _ _ _ _ _ (by decide) sl0) (@slx _ _ _ _ _ _ _ (@sTx _ _ _ _ _ _ _ (by decide) sl0) (@slx _ _ _ _ _ _ _ (sV 2) sl0 rfl) rfl) rfl) rfl)) sa0 rfl rfl) rfl rfl) rfl rfl)) rfl rfl rfl rfl rfl rfl)))
    (ss1 (aH (@sTx _ _ _ _ _ _ _ (by decide) (@slx _ _ _ _ _ _ _ sS (@slx _ _ _ _ _ _ _ (sM 6) sl0 rfl) rfl)))))))
theorem As:ai ["tree","place","around","ins","told"] ["tree","place","around"] (defScope pY):=fsc
theorem C9:DD "worth_of" pY ["tree","place","around","ins","told"] aI:=λ{_ _ _ _ _ _ _ _ _ _ _ s _ _} b cs T G a=>
 have S:=As
 (@ssc _ _ _ _ _ _ _ _ (zIf (Ar a (@au _ _ _ _ _ _ _ _ _ (sV 0) sI (λ_ _=>rfl)) sS) (ss1 (aH (yO a (dS (sM 2)) (@au _ _ _ _ _ _ _ _ _ (sM 0) sI (λ_ _=>rfl))))) ss0)
    (@ssc _ _ _ _ _ _ _ _ (zIf (y9 G.k_WAYS (@au _ _ _ _ _ _ _ _ _ (sV 0) sI (λ_ _=>rfl))) (ss1 (aH (jT cs.t_WAYS a (@au _ _ _ _ _ _ _ _ _ (sV 0) sI (λ_ _=>rfl)) (@say _ _ _ _ _ _ _ (sV 0) (@say _ _ _ _ _ _ _ (sM 1) (@say _ _ _ _ _ _ _ (sM 2) sa0 rfl rfl) rfl rfl) rfl rfl)))) ss0)
    (@ssc _ _ _ _ _ _ _ _ (zC2 3 [2,1] [2,1] [("place",s.heap.objs.size+1),("around",s.heap.objs.size+2)] ["around","place"] (zo (hm:=T.enum) (ha:=(ak cs.c176 a (@say _ _ _ _ _ _ _ (sV 0) sa0 rfl rfl)))) (λ_ _ _ _=>(ak cs.c467 a (@say _ _ _ _ _ _ _ (sV 1) (@say _ _ _ _ _ _ _ (cc (sV 3) (@sTx _ _ _ _ _ _ _ (by decide) (@slx _ _ _ _ _ _ _ (sV 0) sl0 rfl))) (@say _ _ _ _ _ _ _ (sV 2) sa0 rfl rfl) rfl rfl) rfl rfl))) csc (pq (pq .nil)) (frc (frc .nil)) S.nd)
    (@ssc _ _ _ _ _ _ _ _ (@zA _ _ _ _ _ _ _ 4 _ _ _ _ S.nd (ak cs.c130 a (@say _ _ _ _ _ _ _ (sV 0) (@say _ _ _ _ _ _ _ (sV 3) sa0 rfl rfl) rfl rfl)) rfl rfl rfl rfl rfl rfl)
    (@ssc _ _ _ _ _ _ _ _ (zIf (lW (@au _ _ _ _ _ _ _ _ _ (sV 4) sI (λ_ _=>rfl)) sN) (ss1 vE) ss0)
    (@ssc _ _ _ _ _ _ _ _ (zIf (lW (dS (sV 2)) sN) km ss0)
    (@ss1 _ _ _ _ _ _ (@aH _ _ _ _ _ _ _ _ (@au _ _ _ _ _ _ _ _ _ (sM 4) sI (λ_ _=>rfl))))))))))
theorem Br:ai ["around","name","worth","turn","turn_of_times","names"] ["around","name","worth","turn","turn_of_times"] (defScope nQ):=fsc
theorem DT:DD "inside" nQ ["around","name","worth","turn","turn_of_times","names"] cA:=λ{_ _ _ _ _ _ _ _ _ _ _ s _ _} b cs T G a=>
 have S:=Br
 (@ssc _ _ _ _ _ _ _ _ (@zA _ _ _ _ _ _ _ 5 _ _ _ _ S.nd (AU (hm:=T.dict) (ha:=(dS (sV 0)))) rfl rfl rfl rfl rfl rfl)
    (@ssc _ _ _ _ _ _ _ _ (wj 5 a (sV 2) (sV 1))
    (ss1 (aH (Ah b.p_Around a (@slx _ _ _ _ _ _ _ (sM 5) (@slx _ _ _ _ _ _ _ (cc (dS (sV 0)) (sM 3)) (@slx _ _ _ _ _ _ _ (cc (dS (sV 0)) (sM 4)) (@slx _ _ _ _ _ _ _ (dS (sV 0)) sl0 rfl) rfl) rfl) rfl))))))
theorem Bj:ai ["tree","place","around","some","worth"] ["tree","place","around"] (defScope qw):=fsc
theorem DG:DD "let_worth" qw ["tree","place","around","some","worth"] bo:=λ{_ _ _ _ _ _ _ _ _ _ _ s _ _} b cs T G a=>
 have S:=Bj
 (@ssc _ _ _ _ _ _ _ _ (@zA _ _ _ _ _ _ _ 3 _ _ _ _ S.nd (ak cs.c176 a (@say _ _ _ _ _ _ _ (sV 0) sa0 rfl rfl)) rfl rfl rfl rfl rfl rfl)
    (@ssc _ _ _ _ _ _ _ _ (@zA _ _ _ _ _ _ _ 4 _ _ _ _ S.nd (ak cs.c467 a (@say _ _ _ _ _ _ _ (@au _ _ _ _ _ _ _ _ _ (sV 3) sI (λ_ _=>rfl)) (@say _ _ _ _ _ _ _ (cc (sV 1) (@sTx _ _ _ _ _ _ _ (by decide) (@slx _ _ _ _ _ _ _ sI sl0 rfl))) (@say _ _ _ _ _ _ _ (sV 2) sa0 rfl rfl) rfl rfl) rfl rfl)) rfl rfl rfl rfl rfl rfl)
    (ss1 (aH (ak cs.c467 a (@say _ _ _ _ _ _ _ (@au _ _ _ _ _ _ _ _ _ (sM 3) sI (λ_ _=>rfl)) (@say _ _ _ _ _ _ _ (cc (sM 1) (@sTx _ _ _ _ _ _ _ (by decide) (@slx _ _ _ _ _ _ _ sI sl0 rfl))) (@say _ _ _ _ _ _ _ (ak cs.c468 a (@say _ _ _ _ _ _ _ (sM 2) (@say _ _ _ _ _ _ _ (@au _ _ _ _ _ _ _ _ _ (sM 0) sI (λ_ _=>rfl)) (@say _ _ _ _ _ _ _ (sM 4) (@say _ _ _ _ _ _ _ (@sTx _ _ _ _ _ _ _ (by decide) sl0) (@say _ _ _ _ _ _ _ (@sTx _ _ _ _ _ _ _ (by decide) sl0) sa0 rfl rfl) rfl rfl) rfl rfl) rfl rfl) rfl rfl)) sa0 rfl rfl) rfl rfl) rfl rfl))))))
theorem AG:ai ["tree","place","around","some","arm","told","width"] ["tree","place","around"] (defScope qv):=fsc
theorem Dk:DD "if_worth" qv ["tree","place","around","some","arm","told","width"] ba:=λ{_ _ _ _ _ _ _ _ _ _ _ s _ _} b cs T G a=>
 have S:=AG
 (@ssc _ _ _ _ _ _ _ _ (@zA _ _ _ _ _ _ _ 3 _ _ _ _ S.nd (ak cs.c176 a (@say _ _ _ _ _ _ _ (sV 0) sa0 rfl rfl)) rfl rfl rfl rfl rfl rfl)
    (@ssc _ _ _ _ _ _ _ _ (@zA _ _ _ _ _ _ _ 4 _ _ _ _ S.nd (sIf (tB (ak cs.c467 a (@say _ _ _ _ _ _ _ (@au _ _ _ _ _ _ _ _ _ (sV 3) sI (λ_ _=>rfl)) (@say _ _ _ _ _ _ _ (cc (sV 1) (@sTx _ _ _ _ _ _ _ (by decide) (@slx _ _ _ _ _ _ _ sI sl0 rfl))) (@say _ _ _ _ _ _ _ (sV 2) sa0 rfl rfl) rfl rfl) rfl rfl))) sI sI) rfl rfl rfl rfl rfl rfl)
    (@ssc _ _ _ _ _ _ _ _ (@zA _ _ _ _ _ _ _ 5 _ _ _ _ S.nd (ak cs.c467 a (@say _ _ _ _ _ _ _ (@au _ _ _ _ _ _ _ _ _ (sV 3) (sV 4) (λ_ _=>rfl)) (@say _ _ _ _ _ _ _ (cc (sV 1) (@sTx _ _ _ _ _ _ _ (by decide) (@slx _ _ _ _ _ _ _ (sV 4) sl0 rfl))) (@say _ _ _ _ _ _ _ (sV 2) sa0 rfl rfl) rfl rfl) rfl rfl)) rfl rfl rfl rfl rfl rfl)
    (@ssc _ _ _ _ _ _ _ _ (zIf (lW (dS (sV 2)) sN) km ss0)
    (ss1 (aH (sM 5)))))))
theorem Cg:ai ["tree","place","around","some","told","number","thing","inner"] ["tree","place","around"] (defScope oM):=fsc
theorem CU:DD "each_worth" oM ["tree","place","around","some","told","number","thing","inner"] f_each_worth:=λ{_ _ _ _ _ _ _ _ _ _ _ s _ _} b cs T G a=>
 have S:=Cg
 (@ssc _ _ _ _ _ _ _ _ (@zA _ _ _ _ _ _ _ 3 _ _ _ _ S.nd (ak cs.c176 a (@say _ _ _ _ _ _ _ (sV 0) sa0 rfl rfl)) rfl rfl rfl rfl rfl rfl)
    (@ssc _ _ _ _ _ _ _ _ (@zA _ _ _ _ _ _ _ 4 _ _ _ _ S.nd (@sLx _ _ _ _ _ _ _ (by decide) sl0) rfl rfl rfl rfl rfl rfl)
    (@ssc _ _ _ _ _ _ _ _ (vP 5 6 S.nd (Bc (hm:=T.enum) (ha:=(ak cs.c467 a (@say _ _ _ _ _ _ _ (@au _ _ _ _ _ _ _ _ _ (sV 3) sI (fun _ _=>rfl)) (@say _ _ _ _ _ _ _ (cc (sV 1) (@sTx _ _ _ _ _ _ _ (by decide) (@slx _ _ _ _ _ _ _ sI sl0 rfl))) (@say _ _ _ _ _ _ _ (sV 2) sa0 rfl rfl) rfl rfl) rfl rfl)))) (@ssc _ _ _ _ _ _ _ _ (@zA _ _ _ _ _ _ _ 7 _ _ _ _ S.nd (ak cs.c468 a (@say _ _ _ _ _ _ _ (sV 2) (@say _ _ _ _ _ _ _ (@au _ _ _ _ _ _ _ _ _ (sV 0) sI (fun _ _=>rfl)) (@say _ _ _ _ _ _ _ (sV 6) (@say _ _ _ _ _ _ _ (@sTx _ _ _ _ _ _ _ (by decide) (@slx _ _ _ _ _ _ _ (sV 5) sl0 rfl)) (@say _ _ _ _ _ _ _ (@sTx _ _ _ _ _ _ _ (by decide) sl0) sa0 rfl rfl) rfl rfl) rfl rfl) rfl rfl) rfl rfl)) rfl rfl rfl rfl rfl rfl)
     (ss1 (Au 4 (ak cs.c467 a (@say _ _ _ _ _ _ _ (@au _ _ _ _ _ _ _ _ _ (sV 3) sI (λ_ _=>rfl)) (@say _ _ _ _ _ _ _ (cc (sV 1) (@sTx _ _ _ _ _ _ _ (by decide) (@slx _ _ _ _ _ _ _ sI sl0 rfl))) (@say _ _ _ _ _ _ _ (sV 7) sa0 rfl rfl) rfl rfl) rfl rfl))))))
    (@ssc _ _ _ _ _ _ _ _ (A9 (ak cs.c464 a (@say _ _ _ _ _ _ _ (sV 0) (@say _ _ _ _ _ _ _ (sV 1) (@say _ _ _ _ _ _ _ (sV 2) (@say _ _ _ _ _ _ _ (nh (hm:=T.len) (ha:=(sV 4))) sa0 rfl rfl) rfl rfl) rfl rfl) rfl rfl)))
    (ss1 (aH (sM 4)))))))
theorem Ae:ai ["tree","place","around","some","many","told","word","number","inner"] ["tree","place","around"] (defScope oP):=fsc
theorem CN:DD "times_worth" oP ["tree","place","around","some","many","told","word","number","inner"] f_times_worth:=λ{_ _ _ _ _ _ _ _ _ _ _ s _ _} b cs T G a=>
 have S:=Ae
 (@ssc _ _ _ _ _ _ _ _ (@zA _ _ _ _ _ _ _ 3 _ _ _ _ S.nd (ak cs.c176 a (@say _ _ _ _ _ _ _ (sV 0) sa0 rfl rfl)) rfl rfl rfl rfl rfl rfl)
    (@ssc _ _ _ _ _ _ _ _ (@zA _ _ _ _ _ _ _ 4 _ _ _ _ S.nd (ak cs.c467 a (@say _ _ _ _ _ _ _ (@au _ _ _ _ _ _ _ _ _ (sV 3) sI (λ_ _=>rfl)) (@say _ _ _ _ _ _ _ (cc (sV 1) (@sTx _ _ _ _ _ _ _ (by decide) (@slx _ _ _ _ _ _ _ sI sl0 rfl))) (@say _ _ _ _ _ _ _ (sV 2) sa0 rfl rfl) rfl rfl) rfl rfl)) rfl rfl rfl rfl rfl rfl)
    (@ssc _ _ _ _ _ _ _ _ (@zA _ _ _ _ _ _ _ 5 _ _ _ _ S.nd (ak cs.c467 a (@say _ _ _ _ _ _ _ (@au _ _ _ _ _ _ _ _ _ (sV 3) sI (λ_ _=>rfl)) (@say _ _ _ _ _ _ _ (cc (sV 1) (@sTx _ _ _ _ _ _ _ (by decide) (@slx _ _ _ _ _ _ _ sI sl0 rfl))) (@say _ _ _ _ _ _ _ (sV 2) sa0 rfl rfl) rfl rfl) rfl rfl)) rfl rfl rfl rfl rfl rfl)
    (@ssc _ _ _ _ _ _ _ _ (@zA _ _ _ _ _ _ _ 6 _ _ _ _ S.nd (ak cs.c431 a (@say _ _ _ _ _ _ _ (sV 4) sa0 rfl rfl)) rfl rfl rfl rfl rfl rfl)
    (@ssc _ _ _ _ _ _ _ _ (zIf (lW (sV 6) sN) (ss1 vE) ss0)
    (@ssc _ _ _ _ _ _ _ _ (nM 7 S.nd (qf (hm:=T.range) (ha:=(sV 4))) (@ssc _ _ _ _ _ _ _ _ (@zA _ _ _ _ _ _ _ 8 _ _ _ _ S.nd (ak cs.c468 a (@say _ _ _ _ _ _ _ (sV 2) (@say _ _ _ _ _ _ _ (@au _ _ _ _ _ _ _ _ _ (sV 0) sI (fun _ _=>rfl)) (@say _ _ _ _ _ _ _ (sV 5) (@say _ _ _ _ _ _ _ (@sTx _ _ _ _ _ _ _ (by decide) (@slx _ _ _ _ _ _ _ (sV 7) sl0 rfl)) (@say _ _ _ _ _ _ _ (@sTx _ _ _ _ _ _ _ (by decide) (@slx _ _ _ _ _ _ _ (sV 7) sl0 rfl)) sa0 rfl rfl) rfl rfl) rfl rfl) rfl rfl) rfl rfl)) rfl rfl rfl rfl rfl rfl)
     (ss1 (@zA _ _ _ _ _ _ _ 5 _ _ _ _ S.nd (ak cs.c467 a (@say _ _ _ _ _ _ _ (@au _ _ _ _ _ _ _ _ _ (sV 3) sI (λ_ _=>rfl)) (@say _ _ _ _ _ _ _ (cc (sV 1) (@sTx _ _ _ _ _ _ _ (by decide) (@slx _ _ _ _ _ _ _ sI sl0 rfl))) (@say _ _ _ _ _ _ _ (sV 8) sa0 rfl rfl) rfl rfl) rfl rfl)) rfl rfl rfl rfl rfl rfl))))
    (@ssc _ _ _ _ _ _ _ _ (A9 (ak cs.c464 a (@say _ _ _ _ _ _ _ (sV 0) (@say _ _ _ _ _ _ _ (sV 1) (@say _ _ _ _ _ _ _ (sV 2) (@say _ _ _ _ _ _ _ (sV 4) sa0 rfl rfl) rfl rfl) rfl rfl) rfl rfl)))
    (ss1 (aH (sM 5))))))))))
theorem Av:ai ["tree","place","around","many","width"] ["tree","place","around","many"] (defScope qj):=fsc
theorem DO:DD "meet_turns" qj ["tree","place","around","many","width"] a6:=λ{_ _ _ _ _ _ _ _ _ _ _ s _ _} b cs T G a=>
 have S:=Av
 (ss1 (zIf (lW (dS (sV 2)) sN) km ss0))
theorem Aj:ai ["program","worths"] ["program","worths"] (defScope n8):=fsc
theorem CT:DD "read" n8 ["program","worths"] eW:=λ{_ _ _ _ _ _ _ _ _ _ _ s _ _} b cs T G a=>
 have S:=Aj
 (ss1<|aH<|ak cs.c456 a<|@say _ _ _ _ _ _ _ (ak cs.c466 a<|@say _ _ _ _ _ _ _ (sM 0) (@say _ _ _ _ _ _ _ (sM 1) (@say _ _ _ _ _ _ _ sN sa0 rfl rfl) rfl rfl) rfl rfl) sa0 rfl rfl)
theorem Aq:ai ["cells","rows","k"] ["cells"] (defScope oB):=fsc
theorem Dt:DD "_law_rows" oB ["cells","rows","k"] f_law_rows:=λ{_ _ _ _ _ _ _ _ _ _ _ s _ _} b cs T G a=>
 have S:=Aq
 (@ssc _ _ _ _ _ _ _ _ (@zA _ _ _ _ _ _ _ 1 _ _ _ _ S.nd (@sLx _ _ _ _ _ _ _ (by decide) sl0) rfl rfl rfl rfl rfl rfl)
    (@ssc _ _ _ _ _ _ _ _ (nM 2 S.nd (qf (hm:=T.range) (ha:=(jN sI (tD (@au _ _ _ _ _ _ _ _ _ (sV 0) sI (λ_ _=>rfl)) sI)))) (ss1 (Au 1 (sC1 [0,2] [0,2] [("k",s.heap.objs.size+2),("cells",s.heap.objs.size+1)] ["cells","k"] (qf (hm:=T.range) (ha:=(tD (@au _ _ _ _ _ _ _ _ _ (sV 0) (jN sI (sV 2)) (λ_ _=>rfl)) sI))) (λ_ _ _ _=>(Dh (tD (C5 (@au _ _ _ _ _ _ _ _ _ (sV 1) (jN sI (sV 2)) (λ_ _=>rfl)) (jN (sV 0) sI)) sI) sI)) csc (pq (pq .nil)) (frc (frc .nil))))))
    (ss1 (aH (sM 1)))))
theorem BC:ai ["rows","other","truth","r","p","first"] ["rows","other","truth"] (defScope pU):=fsc
theorem CK:DD "_law_cases" pU ["rows","other","truth","r","p","first"] bj:=λ{_ _ _ _ _ _ _ _ _ _ _ s _ _} b cs T G a=>
 have S:=BC
 (@ssc _ _ _ _ _ _ _ _ (@zA _ _ _ _ _ _ _ 3 _ _ _ _ S.nd (@sTx _ _ _ _ _ _ _ (by decide) (@slx _ _ _ _ _ _ _ sS (@slx _ _ _ _ _ _ _ sS sl0 rfl) rfl)) rfl rfl rfl rfl rfl rfl)
    (@ssc _ _ _ _ _ _ _ _ (@zA _ _ _ _ _ _ _ 4 _ _ _ _ S.nd (@sTx _ _ _ _ _ _ _ (by decide) (@slx _ _ _ _ _ _ _ sS (@slx _ _ _ _ _ _ _ sS sl0 rfl) rfl)) rfl rfl rfl rfl rfl rfl)
    (@ssc _ _ _ _ _ _ _ _ (@zA _ _ _ _ _ _ _ 5 _ _ _ _ S.nd (@sTx _ _ _ _ _ _ _ (by decide) (@slx _ _ _ _ _ _ _ sS (@slx _ _ _ _ _ _ _ (sV 4) sl0 rfl) rfl)) rfl rfl rfl rfl rfl rfl)
    (ss1 (aH (@sLx _ _ _ _ _ _ _ (by decide) (@slx _ _ _ _ _ _ _ (@sTx _ _ _ _ _ _ _ (by decide) (@slx _ _ _ _ _ _ _ (sV 3) (@slx _ _ _ _ _ _ _ (sV 0) sl0 rfl) rfl)) (@slx _ _ _ _ _ _ _ (@sTx _ _ _ _ _ _ _ (by decide) (@slx _ _ _ _ _ _ _ (sV 4) (@slx _ _ _ _ _ _ _ (@sTx _ _ _ _ _ _ _ (by decide) (@slx _ _ _ _ _ _ _ (sV 1) (@slx _ _ _ _ _ _ _ (sV 2) sl0 rfl) rfl)) sl0 rfl) rfl)) (@slx _ _ _ _ _ _ _ (@sTx _ _ _ _ _ _ _ (by decide) (@slx _ _ _ _ _ _ _ (sV 5) (@slx _ _ _ _ _ _ _ (sV 1) sl0 rfl) rfl)) (@slx _ _ _ _ _ _ _ (@sTx _ _ _ _ _ _ _ (by decide) (@slx _ _ _ _ _ _ _ (@sTx _ _ _ _ _ _ _ (by decide) (@slx _ _ _ _ _ _ _ sS (@slx _ _ _ _ _ _ _ (sV 3) (@slx _ _ _ _ _ _ _ (@sTx _ _ _ _ _ _ _ (by decide) (@slx _ _ _ _ _ _ _ sS (@slx _ _ _ _ _ _ _ sI sl0 rfl) rfl)) sl0 rfl) rfl) rfl)) (@slx _ _ _ _ _ _ _ (@au _ _ _ _ _ _ _ _ _ (sV 0) sI (λ_ _=>rfl)) sl0 rfl) rfl)) (@slx _ _ _ _ _ _ _ (@sTx _ _ _ _ _ _ _ (by decide) (@slx _ _ _ _ _ _ _ (@sTx _ _ _ _ _ _ _ (by decide) (@slx _ _ _ _ _ _ _ sS (@slx _ _ _ _ _ _ _ (sV 3) sl0 rfl) rfl)) (@slx _ _ _ _ _ _ _ (@sLx _ _ _ _ _ _ _ (by decide) (@slx _ _ _ _ _ _ _ (sV 0) sl0 rfl)) sl0 rfl) rfl)) (@slx _ _ _ _ _ _ _ (@sTx _ _ _ _ _ _ _ (by decide) (@slx _ _ _ _ _ _ _ (@sTx _ _ _ _ _ _ _ (by decide) (@slx _ _ _ _ _ _ _ sS (@slx _ _ _ _ _ _ _ (sV 3) (@slx _ _ _ _ _ _ _ (@sTx _ _ _ _ _ _ _ (by decide) (@slx _ _ _ _ _ _ _ sS (@slx _ _ _ _ _ _ _ (sV 5) (@slx _ _ _ _ _ _ _ (sV 3) sl0 rfl) rfl) rfl)) sl0 rfl) rfl) rfl)) (@slx _ _ _ _ _ _ _ (@sTx _ _ _ _ _ _ _ (by decide) (@slx _ _ _ _ _ _ _ (sV 0) (@slx _ _ _ _ _ _ _ (@sTx _ _ _ _ _ _ _ (by decide) (@slx _ _ _ _ _ _ _ (sV 1) (@slx _ _ _ _ _ _ _ (sV 0) sl0 rfl) rfl)) sl0 rfl) rfl)) sl0 rfl) rfl)) (@slx _ _ _ _ _ _ _ (@sTx _ _ _ _ _ _ _ (by decide) (@slx _ _ _ _ _ _ _ (@sTx _ _ _ _ _ _ _ (by decide) (@slx _ _ _ _ _ _ _ sS (@slx _ _ _ _ _ _ _ (sV 3) (@slx _ _ _ _ _ _ _ (sV 5) sl0 rfl) rfl) rfl)) (@slx _ _ _ _ _ _ _ (jN (sV 0) (sV 1)) sl0 rfl) rfl)) (@slx _ _ _ _ _ _ _ (@sTx _ _ _ _ _ _ _ (by decide) (@slx _ _ _ _ _ _ _ (@sTx _ _ _ _ _ _ _ (by decide) (@slx _ _ _ _ _ _ _ sS (@slx _ _ _ _ _ _ _ sS (@slx _ _ _ _ _ _ _ (sV 3) (@slx _ _ _ _ _ _ _ (@sTx _ _ _ _ _ _ _ (by decide) (@slx _ _ _ _ _ _ _ sS (@slx _ _ _ _ _ _ _ sS sl0 rfl) rfl)) sl0 rfl) rfl) rfl) rfl)) (@slx _ _ _ _ _ _ _ (sV 0) sl0 rfl) rfl)) (@slx _ _ _ _ _ _ _ (@sTx _ _ _ _ _ _ _ (by decide) (@slx _ _ _ _ _ _ _ (@sTx _ _ _ _ _ _ _ (by decide) (@slx _ _ _ _ _ _ _ sS (@slx _ _ _ _ _ _ _ sS (@slx _ _ _ _ _ _ _ (@sTx _ _ _ _ _ _ _ (by decide) (@slx _ _ _ _ _ _ _ sS (@slx _ _ _ _ _ _ _ sI sl0 rfl) rfl)) (@slx _ _ _ _ _ _ _ (sV 3) (@slx _ _ _ _ _ _ _ (@sTx _ _ _ _ _ _ _ (by decide) (@slx _ _ _ _ _ _ _ sS (@slx _ _ _ _ _ _ _ sS sl0 rfl) rfl)) sl0 rfl) rfl) rfl) rfl) rfl)) (@slx _ _ _ _ _ _ _ (sV 0) sl0 rfl) rfl)) (@slx _ _ _ _ _ _ _ (@sTx _ _ _ _ _ _ _ (by decide) (@slx _ _ _ _ _ _ _ (@sTx _ _ _ _ _ _ _ (by decide) (@slx _ _ _ _ _ _ _ sS (@slx _ _ _ _ _ _ _ sS (@slx _ _ _ _ _ _ _ (@sTx _ _ _ _ _ _ _ (by decide) (@slx _ _ _ _ _ _ _ sS (@slx _ _ _ _ _ _ _ (@sTx _ _ _ _ _ _ _ (by decide) (@slx _ _ _ _ _ _ _ sS (@slx _ _ _ _ _ _ _ sI sl0 rfl) rfl)) sl0 rfl) rfl)) (@slx _ _ _ _ _ _ _ (sV 3) sl0 rfl) rfl) rfl) rfl)) (@slx _ _ _ _ _ _ _ (@sLx _ _ _ _ _ _ _ (by decide) (@slx _ _ _ _ _ _ _ (sV 0) (@slx _ _ _ _ _ _ _ (sV 0) (@slx _ _ _ _ _ _ _ (sV 0) sl0 rfl) rfl) rfl)) sl0 rfl) rfl)) (@slx _ _ _ _ _ _ _ (@sTx _ _ _ _ _ _ _ (by decide) (@slx _ _ _ _ _ _ _ (@sTx _ _ _ _ _ _ _ (by decide) (@slx _ _ _ _ _ _ _ sS (@slx _ _ _ _ _ _ _ (@sTx _ _ _ _ _ _ _ (by decide) (@slx _ _ _ _ _ _ _ sS (@slx _ _ _ _ _ _ _ (sV 4) sl0 rfl) rfl)) (@slx _ _ _ _ _ _ _ (sV 3) (@slx _ _ _ _ _ _ _ (sV 5) sl0 rfl) rfl) rfl) rfl)) (@slx _ _ _ _ _ _ _ (sIf (tB (sV 2)) (sV 0) (sV 1)) sl0 rfl) rfl)) (@slx _ _ _ _ _ _ _ (@sTx _ _ _ _ _ _ _ (by decide) (@slx _ _ _ _ _ _ _ (@sTx _ _ _ _ _ _ _ (by decide) (@slx _ _ _ _ _ _ _ sS (@slx _ _ _ _ _ _ _ sS (@slx _ _ _ _ _ _ _ (sV 3) (@slx _ _ _ _ _ _ _ (@sTx _ _ _ _ _ _ _ (by decide) (@slx _ _ _ _ _ _ _ sS (@slx _ _ _ _ _ _ _ (@sTx _ _ _ _ _ _ _ (by decide) (@slx _ _ _ _ _ _ _ sS (@slx _ _ _ _ _ _ _ sS sl0 rfl) rfl)) (@slx _ _ _ _ _ _ _ (@sTx _ _ _ _ _ _ _ (by decide) (@slx _ _ _ _ _ _ _ sS (@slx _ _ _ _ _ _ _ (@sTx _ _ _ _ _ _ _ (by decide) (@slx _ _ _ _ _ _ _ sS (@slx _ _ _ _ _ _ _ sS sl0 rfl) rfl)) sl0 rfl) rfl)) sl0 rfl) rfl) rfl)) sl0 rfl) rfl) rfl) rfl)) (@slx _ _ _ _ _ _ _ (@sTx _ _ _ _ _ _ _ (by decide) (@slx _ _ _ _ _ _ _ (sV 0) (@slx _ _ _ _ _ _ _ (@sLx _ _ _ _ _ _ _ (by decide) (@slx _ _ _ _ _ _ _ (sV 0) sl0 rfl)) sl0 rfl) rfl)) sl0 rfl) rfl)) sl0 rfl) rfl) rfl) rfl) rfl) rfl) rfl) rfl) rfl) rfl) rfl) rfl)))))))
theorem S0:ai ["script","cells","nums","heads","truth","k","rows","other","tree","due","worths","told"] ["script"] (defScope s0):=fsc
theorem D0:DD "law" s0 ["script","cells","nums","heads","truth","k","rows","other","tree","due","worths","told"] f_law:=λ{_ _ _ _ _ _ _ _ _ _ _ s _ _} b cs T G a=>
 have S:=S0
 (@ssc _ _ _ _ _ _ _ _ (zC1 1 [0] [0] [("script",s.heap.objs.size+1)] ["script"] (qf (hm:=T.range) (ha:=sI)) (λ_ _ _ _=>(sIf (Dn (sV 0) (nh (hm:=T.len) (ha:=(sV 1)))) (@au _ _ _ _ _ _ _ _ _ (sV 1) (sV 0) (λ_ _=>rfl)) sI)) csc (pq .nil) (frc .nil) S.nd)
    (@ssc _ _ _ _ _ _ _ _ (@zA _ _ _ _ _ _ _ 2 _ _ _ _ S.nd (@sTx _ _ _ _ _ _ _ (by decide) (@slx _ _ _ _ _ _ _ sS (@slx _ _ _ _ _ _ _ (@sTx _ _ _ _ _ _ _ (by decide) (@slx _ _ _ _ _ _ _ sS (@slx _ _ _ _ _ _ _ (@sTx _ _ _ _ _ _ _ (by decide) (@slx _ _ _ _ _ _ _ sS sl0 rfl)) sl0 rfl) rfl)) sl0 rfl) rfl)) rfl rfl rfl rfl rfl rfl)
    (@ssc _ _ _ _ _ _ _ _ (@zA _ _ _ _ _ _ _ 3 _ _ _ _ S.nd (@sTx _ _ _ _ _ _ _ (by decide) (@slx _ _ _ _ _ _ _ (@sTx _ _ _ _ _ _ _ (by decide) (@slx _ _ _ _ _ _ _ sS (@slx _ _ _ _ _ _ _ (sV 2) sl0 rfl) rfl)) (@slx _ _ _ _ _ _ _ (@sTx _ _ _ _ _ _ _ (by decide) (@slx _ _ _ _ _ _ _ sS (@slx _ _ _ _ _ _ _ (@sTx _ _ _ _ _ _ _ (by decide) (@slx _ _ _ _ _ _ _ sS (@slx _ _ _ _ _ _ _ (sV 2) (@slx _ _ _ _ _ _ _ (@sTx _ _ _ _ _ _ _ (by decide) (@slx _ _ _ _ _ _ _ sS sl0 rfl)) sl0 rfl) rfl) rfl)) sl0 rfl) rfl)) sl0 rfl) rfl)) rfl rfl rfl rfl rfl rfl)
    (@ssc _ _ _ _ _ _ _ _ (@zA _ _ _ _ _ _ _ 4 _ _ _ _ S.nd (sEq a (tD (@au _ _ _ _ _ _ _ _ _ (sV 1) sI (λ_ _=>rfl)) sI) sI) rfl rfl rfl rfl rfl rfl)
    (@ssc _ _ _ _ _ _ _ _ (nM 5 S.nd (qf (hm:=T.range) (ha:=sI)) (@ssc _ _ _ _ _ _ _ _ (@zA _ _ _ _ _ _ _ 6 _ _ _ _ S.nd (ak cs.c474 a (@say _ _ _ _ _ _ _ (sV 1) sa0 rfl rfl)) rfl rfl rfl rfl rfl rfl)
     (@ssc _ _ _ _ _ _ _ _ (@zA _ _ _ _ _ _ _ 7 _ _ _ _ S.nd (ak cs.c474 a (@say _ _ _ _ _ _ _ (i8 (sV 1) sI) sa0 rfl rfl)) rfl rfl rfl rfl rfl rfl)
     (@ssc _ _ _ _ _ _ _ _ (BQ 8 9 S.nd (@au _ _ _ _ _ _ _ _ _ (ak cs.c448 a (@say _ _ _ _ _ _ _ (ak cs.c474 a (@say _ _ _ _ _ _ _ (sV 1) sa0 rfl rfl)) (@say _ _ _ _ _ _ _ (ak cs.c474 a (@say _ _ _ _ _ _ _ (i8 (sV 1) sI) sa0 rfl rfl)) (@say _ _ _ _ _ _ _ (sV 4) sa0 rfl rfl) rfl rfl) rfl rfl)) (sV 5) (λ_ _=>rfl)))
     (CP 10 11 S.nd (@sLx _ _ _ _ _ _ _ (by decide) (@slx _ _ _ _ _ _ _ (sV 6) (@slx _ _ _ _ _ _ _ (@sTx _ _ _ _ _ _ _ (by decide) (@slx _ _ _ _ _ _ _ (sV 7) (@slx _ _ _ _ _ _ _ (sV 4) sl0 rfl) rfl)) sl0 rfl) rfl)) (ak cs.c473 a (@say _ _ _ _ _ _ _ (@sTx _ _ _ _ _ _ _ (by decide) (@slx _ _ _ _ _ _ _ (sV 3) (@slx _ _ _ _ _ _ _ (sV 8) sl0 rfl) rfl)) (@say _ _ _ _ _ _ _ (sM 10) sa0 rfl rfl) rfl rfl))
     (@ssc _ _ _ _ _ _ _ _ (zIf (mQ a (sV 11) (@sTx _ _ _ _ _ _ _ (by decide) (@slx _ _ _ _ _ _ _ sS (@slx _ _ _ _ _ _ _ (sV 9) sl0 rfl) rfl))) (ss1 (aH sO)) ss0)
     (@ssc _ _ _ _ _ _ _ _ (ue (j:=6) cs.c455 a pp0)
     (@ssc _ _ _ _ _ _ _ _ (zIf (mQ a (sV 11) (@sTx _ _ _ _ _ _ _ (by decide) (@slx _ _ _ _ _ _ _ sS (@slx _ _ _ _ _ _ _ (sV 9) sl0 rfl) rfl))) (ss1 (aH sO)) ss0)
     (@ssc _ _ _ _ _ _ _ _ (@zA _ _ _ _ _ _ _ 10 _ _ _ _ S.nd (@sLx _ _ _ _ _ _ _ (by decide) (@slx _ _ _ _ _ _ _ (ak cs.c474 a (@say _ _ _ _ _ _ _ (sV 1) sa0 rfl rfl)) (@slx _ _ _ _ _ _ _ (@sTx _ _ _ _ _ _ _ (by decide) (@slx _ _ _ _ _ _ _ (sV 7) (@slx _ _ _ _ _ _ _ (sV 4) sl0 rfl) rfl)) sl0 rfl) rfl)) rfl rfl rfl rfl rfl rfl)
     (@ssc _ _ _ _ _ _ _ _ (@zA _ _ _ _ _ _ _ 11 _ _ _ _ S.nd (ak cs.c473 a (@say _ _ _ _ _ _ _ (@sTx _ _ _ _ _ _ _ (by decide) (@slx _ _ _ _ _ _ _ (sV 3) (@slx _ _ _ _ _ _ _ (sV 8) sl0 rfl) rfl)) (@say _ _ _ _ _ _ _ (sV 10) sa0 rfl rfl) rfl rfl)) rfl rfl rfl rfl rfl rfl)
     (@ssc _ _ _ _ _ _ _ _ (zIf (tW (CH (tB (lF (by decide) GV T.isin T.list (@au _ _ _ _ _ _ _ _ _ (sV 11) sI (fun _ _=>rfl)))) (wA1 (Di (nh (hm:=T.len) (ha:=(@au _ _ _ _ _ _ _ _ _ (sV 11) sI (fun _ _=>rfl)))) sI)))) (@ssc _ _ _ _ _ _ _ _ (ue (j:=11) cs.c455 a (ppS (k:=0) (p:=[1]) (ppS (k:=1) (p:=[]) pp0)))
      (ss1 (zIf (mQ a (i8 (@au _ _ _ _ _ _ _ _ _ (sV 11) sI (λ_ _=>rfl)) sI) (i8 (sV 9) sI)) (ss1 (aH sO)) ss0))) ss0)
     (@ssc _ _ _ _ _ _ _ _ (zIf (tB (lF (by decide) GX T.isin T.tup (@au _ _ _ _ _ _ _ _ _ (sV 11) sI (fun _ _=>rfl)))) (@ssc _ _ _ _ _ _ _ _ (ue (j:=11) cs.c455 a (ppS (k:=0) (p:=[1]) (ppS (k:=1) (p:=[]) pp0)))
      (ss1 (zIf (mQ a (i8 (@au _ _ _ _ _ _ _ _ _ (sV 11) sI (λ_ _=>rfl)) sI) (i8 (sV 9) sI)) (ss1 (aH sO)) ss0))) ss0)
     (@ssc _ _ _ _ _ _ _ _ (ue (j:=11) cs.c455 a (ppS (k:=1) (p:=[]) pp0))
     (ss1 (zIf (tW (wOr (mQ a (sV 10) (@sLx _ _ _ _ _ _ _ (by decide) (@slx _ _ _ _ _ _ _ (ak cs.c474 a (@say _ _ _ _ _ _ _ (sV 1) sa0 rfl rfl)) (@slx _ _ _ _ _ _ _ (@sTx _ _ _ _ _ _ _ (by decide) (@slx _ _ _ _ _ _ _ (ak cs.c474 a (@say _ _ _ _ _ _ _ (i8 (sV 1) sI) sa0 rfl rfl)) (@slx _ _ _ _ _ _ _ (sV 4) sl0 rfl) rfl)) sl0 rfl) rfl))) (wO1 (mQ a (ak cs.c473 a (@say _ _ _ _ _ _ _ (@sTx _ _ _ _ _ _ _ (by decide) (@slx _ _ _ _ _ _ _ (sV 3) (@slx _ _ _ _ _ _ _ (sV 8) sl0 rfl) rfl)) (@say _ _ _ _ _ _ _ (sV 10) sa0 rfl rfl) rfl rfl)) (@sTx _ _ _ _ _ _ _ (by decide) (@slx _ _ _ _ _ _ _ sS (@slx _ _ _ _ _ _ _ (sV 9) sl0 rfl) rfl)))))) (ss1 (aH sO)) ss0)))))))))))))))
    (ss1 (aH sO)))))))
end A24

namespace A24
open PySem PySem.Spec PyProof.Rows L2 L3 MR
abbrev Cl (n:O):M.Call:=M.callV prog 455 1000001 n
abbrev vc:Jj:=u9
abbrev Ds:O:=455
section
variable {P:I9}{w:D3}{K:D1}{mg:Str->B L}{base:Jf}{f:IY}{fd:Ey}
theorem scV:ai ["worth","one"] ["worth"] (defScope vc):=fsc
theorem c5:∀a:U M.T,M.spos a=a.map M.spo
|[]=>rfl
|t::a=>by show M.spo t::M.spos a=_;rw[c5 a];rfl
theorem kM:∀{ts:U M.T} {i:O} {t:M.T},M.szSs ts=DY->ts[i]?=Y t->M.szS t=DY
|_::ts,0,_,h,e=>by cases e;exact(El.mp h).1
|_::ts,i+1,t,h,e=>kM (ts:=ts) (El.mp h).2 e
|[],_,_,_,e=>by simp at e
theorem k6:∀{ts:U M.T} {i:O} {t:M.T},ts[i]?=Y t->M.dp t<=M.dps ts
|_::ts,0,_,e=>by cases e;exact Nat.le_max_left _ _
|_::ts,i+1,t,e=>Ed (k6 (ts:=ts) e)<|Nat.le_max_right _ _
|[],_,_,e=>by simp at e
theorem pM {c:U M.T}{l:U V}{Z:Fp}{g:Hp}{G:Fp}{n i:O}{x:V}(o:Own Z g G)(za:∀a,Z a->g a≠J)(hd:M.dps c<n)(H:M.dps c<1000)(Q:M.szSs c=DY)(N:l.length=c.length)(hx:l[i]?=Y x)(r:RepL K Z g .d (M.spos (c.take i)++c.drop i) l G):
  n9 K n [x] g (λ_ j=>Step Z g G Z j G/\Own Z j G/\RepL K Z j .d (M.spos (c.take<|i+1)++c.drop (i+1)) l G) E0:=by
 have v:i<c.length:=by rw[<- N];exact(EM.mp hx).1
 have u:c.drop i=c[i]::c.drop (i+1):=IF v;have m:c[i]?=Y c[i]:=GY v;have D:(M.spos (c.take i)).length=i:=by rw[c5,Ea,Gx];lia
 have e1:(M.spos (c.take i)++c.drop i)[i]?=Y c[i]:=by rw[Gf<|by lia,D,IA,u];rfl
 have e2:(M.spos (c.take i)++c.drop i).set i (M.spo c[i])=M.spos (c.take (i+1))++c.drop (i+1):=by rw[u,List.set_append_right _ _<|by lia,D,IA,List.set_cons_zero,List.take_succ,m,c5,c5,List.map_append,G7];rfl
 obtain⟨y,e,F,s,ry,k⟩:=RepL.putD r o e1;rw[hx] at F;cases F;have d1:=k6 m;refine⟨x,c[i],Z,e,rfl,ry,λa h=>o a<|s a h,za,by lia,by lia,kM Q m,λj p o4 r4=>?_⟩;have wd:∀b,(G b/\¬e b)\/e b->G b:=λb h=>h.elim FD<|s b;have t:∀b,G b->(G b/\¬e b)\/e b:=λb h=>(F9<|e b).elim .inr λz=>.inl ⟨h,z⟩;have A:=k Z j (M.spo c[i]) e p r4;rw[e2] at A;exact⟨(Step.wide s p).mono (λ_ z=>z) t,λa h=>Own.wide o p o4 a<|t a h,A.mono wd⟩
theorem xX {n:O}(F:L2.Fun K "_law_spoiled" "_law_spoiled" vc f fd)(Gn:FnOk P w K mg base CX0 n f fd ["worth"]<|n9 K n)(bG:Binds K fd ["worth"] [])(T:Txt mg)(mF:mg "_law_spoiled"=Y (.ref f)):FnOk P w K mg base CX0 (n+1) f fd ["worth"] (n9 K<|n+1):=by
 refine F.ok scV (λvs H Q E h=>?_) λcdv A outer s H vs Q E hr h=>?_
 .obtain ⟨v,t,Z,G,rfl,_⟩:=h;rfl
 obtain⟨v,t,Z,G,rfl,r,D,za,hd,j,hz,q⟩:=h
 refine⟨_,a7 (qO (nI<|c9 (eT (c:="list")<|by decide) rfl T.isin Hm (aJ (pv 0)<|aJ (ql rfl T.list GV) bu))
   (a7 (ig PassesOwn.never rfl (k7 (pv 0)) (bc (i:=1) scV.nd rfl (Eg rfl)) (b5 (cQ (eh (E:=E0) Gn hr rfl mF F.kp bG .nil gw (aJ (pv 1) bu)))))
    (b5<|cQ<|vB IJ IL IK gg (pv 0)<|aJ jX bu)) ic)
  (a7 (qO (nI (c9 (eT (c:="tuple") (by decide)) rfl T.isin Hm (aJ (pv 0) (aJ (ql rfl T.tup GX) bu))))
   (b5<|ig PassesOwn.never rfl (nW<|pv 0) (bc (i:=1) scV.nd rfl (Eg rfl)) (b5<|cQ<|eh (E:=E0) Gn hr rfl mF F.kp bG .nil gw (aJ (pv 1) bu))) ic)
  (b5<|oE<|pv 0)),?_⟩
 cases t with
 | lst k =>
  obtain⟨a,xs,rfl,hxl,⟨ga,ha⟩,p⟩:=r;have hl:xs.length=k.length:=p.length;obtain⟨m,hz2⟩:=El.mp hz;have m:=Ji m;have hd':M.dps k+1<n+1:=hd;have hd2':M.dps k+1<1000:=j;refine⟨_,rfl,_,.lst [],rfl,⟨a,xs,rfl,SqL.of ha⟩,_,rfl,AR ?_⟩;refine⟨_,rfl,a,rfl,⟨_,SqL.of ha⟩,?_⟩;refine pR (K:=K) (a:=a) (xs:=xs) (λi σ g=>(∃o,σ=[Y<|.ref a,o])/\Step Z H G Z g G/\Own Z g G/\g a=Y (.lst xs)/\RepL K Z g .d (M.spos (k.take i)++k.drop i) xs (λb=>G b/\b≠a)) ⟨⟨_,rfl⟩,Step.refl _ _ _,D,ha,p⟩ (λi σ g _ h3=>SqL.of h3.2.2.2.1) ?_ ?_
  .rintro i x σ g hx ⟨⟨o,rfl⟩,N,o3,h3,rl⟩;obtain⟨v',t',Z',G',e1,e2,e3,e4,e5,e6,e7,e8⟩:=pM (n:=n) (G:=λb=>G b/\b≠a) (λb h=>o3 b h.1) (N.za za) (by lia) (by lia) hz2 hl hx rl;refine⟨_,rfl,v',t',Z',G',e1,e2,e3,e4,e5,e6,e7,λH4 s4 o4 r4=>?_⟩;obtain⟨f1,f2,f3⟩:=e8 H4 s4 o4 r4;have st4:Step Z g G Z H4 G:=(Step.wide (λb h=>h.1) f1).mono (λ_ z=>z) λb h=>(F9<|b=a).elim (λz=>.inl ⟨h,λy=>y.2 z⟩) λz=>.inr ⟨h,z⟩;have na:H4 a=Y (.lst xs):=f1.keep a _ h3 λz=>z.2 rfl;exact⟨⟨_,rfl⟩,N.trans st4,λb h=>(F9<|b=a).elim (λz=>by subst z;exact⟨(D b h).1,.inl xs,na⟩) λz=>f2 b ⟨h,z⟩,na,f3⟩
  rintro σ g ⟨⟨o,rfl⟩,N,o3,h3,rl⟩;rw[hl,Ir,G6,EW] at rl;refine⟨_,rfl,.inl ⟨rfl,_,SqL.of h3⟩,a,xs,_,rfl,rfl,h3,gQ<|by rw[hl];exact GA m,?_⟩;have na:¬Z a:=(D a ga).1;have kp:∀b u,g b=Y u->b≠a->upd g a (.lst (xs++[.int 7])) b=Y u:=λb u e l=>by rw[ag l];exact e
  have al:∀b,g b≠J->upd g a (.lst (xs++[.int 7])) b≠none:=λb e=>by
   by_cases l:b=a
   .rw[l,ah];simp
   .rw[ag l];exact e
  have s5:Step Z g (λb=>b=a) Z (upd g a (.lst (xs++[.int 7]))) (λb=>b=a):=⟨λb u e l=>kp b u e l,λ_ z=>z,λ_ z=>.inl z,λ_ z=>.inl z,al,λz b h=>al b<|z b h⟩;have oa:Own Z g (λb=>b=a):=λb h=>by subst h;exact⟨na,.inl xs,h3⟩
  have s6:Step Z g G Z (upd g a (.lst (xs++[.int 7]))) G:=(Step.wide (G:=G) (λb h=>by subst h;exact ga) s5).mono (λ_ z=>z) λb h=>(F9<|b=a).elim .inr λz=>.inl ⟨h,z⟩;refine⟨_,rfl,_,.lst [],rfl,⟨a,xs++[.int 7],rfl,SqL.of ah⟩,_,rfl,fP ?_⟩;refine⟨_,rfl,q _ (N.trans s6) (λb h=>?_) ⟨a,xs++[.int 7],rfl,?_,⟨ga,ah⟩,?_⟩⟩
  .by_cases l:b=a
   .subst l;exact⟨na,.inl _,ah⟩
   .obtain ⟨n1,ys,e⟩:=o3 b h;exact⟨n1,ys,kp b _ e l⟩
  .rw[Er,GU,hl];exact m
  .have r5:=rl.keep (Own.stay oa s5) (fun _ z=>z) (H':=upd g a<|.lst<|xs++[.int 7]) fun b u l e=>kp b u e l.2;exact RepL.append (λ_ z=>z) (λ_ z=>z.elim) (λ_ _ z=>z) r5<|RepL.one (t:=.int 7) (x:=.int 7) (G:=no) rfl
 | tup k =>
  obtain⟨a,xs,rfl,hq,hxl,p⟩:=r;have p:RepL K Z H .d k xs G:=p;have hl:xs.length=k.length:=p.length;obtain⟨m,hz2⟩:=El.mp hz;have hd':M.dps k+1<n+1:=hd;have hd2':M.dps k+1<1000:=j;refine⟨_,rfl,_,.tup [],rfl,⟨a,xs,rfl,hq⟩,_,rfl,fP ?_⟩;refine⟨_,rfl,_,.tup [],rfl,⟨a,xs,rfl,hq⟩,_,rfl,AR ?_⟩;refine⟨_,rfl,a,rfl,⟨_,hq⟩,?_⟩;refine ur (K:=K) (a:=a) (xs:=xs) (λi σ g=>(∃o,σ=[Y<|.ref a,o])/\Step Z H G Z g G/\Own Z g G/\RepL K Z g .d (M.spos (k.take i)++k.drop i) xs G) ⟨⟨_,rfl⟩,Step.refl _ _ _,D,p⟩ (λi σ g _ h3=>(Own.stay D h3.2.1).sqt hq) ?_ ?_
  .rintro i x σ g hx ⟨⟨o,rfl⟩,N,o3,rl⟩;obtain⟨v',t',Z',G',e1,e2,e3,e4,e5,e6,e7,e8⟩:=pM (n:=n) (G:=G) o3 (N.za za) (by lia) (by lia) hz2 hl hx rl;refine⟨_,rfl,v',t',Z',G',e1,e2,e3,e4,e5,e6,e7,λH4 s4 o4 r4=>?_⟩;obtain⟨f1,f2,f3⟩:=e8 H4 s4 o4 r4;exact⟨⟨_,rfl⟩,N.trans f1,f2,f3⟩
  rintro σ g ⟨⟨o,rfl⟩,N,o3,rl⟩;rw[hl,Ir,G6,EW] at rl;exact⟨_,rfl,q _ N o3 ⟨a,xs,rfl,(Own.stay D N).sqt hq,hxl,rl⟩⟩
 |non=>exact⟨_,rfl,_,.non,rfl,r,_,rfl,fP ⟨_,rfl,_,.non,rfl,r,_,rfl,fP ⟨_,rfl,q H (Step.refl _ _ _) D r⟩⟩⟩
 |bl b=>exact⟨_,rfl,_,.bl b,rfl,r,_,rfl,fP ⟨_,rfl,_,.bl b,rfl,r,_,rfl,fP ⟨_,rfl,q H (Step.refl _ _ _) D r⟩⟩⟩
 |int b=>exact⟨_,rfl,_,.int b,rfl,r,_,rfl,fP ⟨_,rfl,_,.int b,rfl,r,_,rfl,fP ⟨_,rfl,q H (Step.refl _ _ _) D r⟩⟩⟩
 |str b=>exact⟨_,rfl,_,.str b,rfl,r.1,_,rfl,fP ⟨_,rfl,_,.str b,rfl,r.1,_,rfl,fP ⟨_,rfl,q H (Step.refl _ _ _) D r⟩⟩⟩
 |dct _ _=>exact Jb j<|by show¬1000<1000;lia
 |ins _ _ _=>exact Jb j<|by show¬1000<1000;lia
 |obj _ _ _=>exact Jb j<|by show¬1000<1000;lia
 |dtt _ _=>exact Jb j<|by show¬1000<1000;lia
 |scr _=>exact Jb j<|by show¬1000<1000;lia
 |gone=>exact Jb j<|by show¬1000<1000;lia
theorem lD (F:L2.Fun K "_law_spoiled" "_law_spoiled" vc f fd)(d:Binds K fd ["worth"] [])(T:Txt mg)(e:mg "_law_spoiled"=Y (.ref f)):∀n,FnOk P w K mg base CX0 n f fd ["worth"]<|n9 K n
|0=>⟨λg H Q E h=>by obtain⟨_,_,_,_,_,_,_,_,a,_⟩:=h;exact Jb a<|Ii _,λA b s H c i g Q E _ _ _ _ h=>by obtain⟨_,_,_,_,_,_,_,_,a,_⟩:=h;exact Jb a<|Ii _⟩
|n+1=>xX F (lD F d T e n) d T e
theorem pG (F:L2.Fun K "_law_spoiled" "_law_spoiled" vc f fd)(b:Binds K fd ["worth"] [])(T:Txt mg)(m:mg "_law_spoiled"=Y (.ref f)):∀n,FnOk P w K mg base CX0 n f fd ["worth"]<|spS K (Cl n) Ds [0]
|0=>fn0 λ_=>rfl
|n+1=>(lD F b T m<|n+1).imp λ_ _ _ _ h=>sW (λ_=>rfl) h
end
section
variable {P:I9}{w:D3}{K:D1}{mg:Str->B L}{base:Jf}
noncomputable abbrev fA:U (Str×Str):=[("first","do_first"),("second","do_second"),("one","do_one"),("upto","do_upto"),("pair","do_pair"),("pick","do_pick"),("join","do_join")]
noncomputable abbrev i9:U (Str×Str):=[("let","let_worth"),("if","if_worth"),("each","each_worth"),("times","times_worth")]
noncomputable abbrev gy:U (Str×Str):=[("upto","word_of_upto"),("pick","word_of_pick"),("join","word_of_join")]
theorem all (d31:Df K mg "beyond_word" s31 ["length","number"])(d33:Df K mg "upto_word" s33 ["number"])(d431:Df K mg "turns_word" qq ["number"])(d34:Df K mg "long_word" s34 ["length"])(d130:Df K mg "done" qF ["piece","ins"])(d456:Df K mg "own_copy" ny ["worth"])(d43:Df K mg "do_first" s43 ["ins"])(d44:Df K mg "do_second" s44 ["ins"])(d45:Df K mg "do_one" s45 ["ins"])(d46:Df K mg "do_upto" s46 ["ins"])(d60:Df K mg "do_pair" s60 ["ins"])(d61:Df K mg "do_pick" s61 ["ins"])(d52:Df K mg "do_join" s52 ["ins"])(d64:Df K mg "word_of_upto" s64 ["ins"])(d72:Df K mg "word_of_pick" s72 ["ins"])(d73:Df K mg "word_of_join" s73 ["ins"])(d175:Df K mg "parts_start" ri ["sign"])(d176:Df K mg "parts" qt ["tree"])(d466:Df K mg "reading" qL ["program","worths","book"])(d467:Df K mg "worth_of" pY ["tree","place","around"])(d468:Df K mg "inside" nQ ["around","name","worth","turn","turn_of_times"])(d469:Df K mg "let_worth" qw ["tree","place","around"])(d470:Df K mg "if_worth" qv ["tree","place","around"])(d471:Df K mg "each_worth" oM ["tree","place","around"])(d472:Df K mg "times_worth" oP ["tree","place","around"])(d464:Df K mg "meet_turns" qj ["tree","place","around","many"])(d473:Df K mg "read" n8 ["program","worths"])(d474:Df K mg "_law_rows" oB ["cells"])(d455:Df K mg "_law_spoiled" u9 ["worth"])(d448:Df K mg "_law_cases" pU ["rows","other","truth"])(g:nT K w mg "DOINGS" fA)(j:nT K w mg "WAYS" i9)(i:nT K w mg "WORDS" gy)(T:Txt mg)(G:Glb K w mg)(e:Xs P w K mg base):∀n,Calls P w K mg base (n+2)<|Cl n
|0=>
 have c31:aa P w K mg base (0+2) (Cl 0) "beyond_word" 31 []:=d31.z;have c33:aa P w K mg base (0+2) (Cl 0) "upto_word" 33 []:=d33.z;have x:aa P w K mg base (0+2) (Cl 0) "turns_word" 431 []:=d431.z;have c34:aa P w K mg base (0+2) (Cl 0) "long_word" 34 []:=d34.z;have r:aa P w K mg base (0+2) (Cl 0) "done" 130 []:=d130.z;have M:aa P w K mg base (0+2) (Cl 0) "own_copy" 456 []:=d456.z;have v:aa P w K mg base (0+2) (Cl 0) "do_first" 43 []:=d43.z;have c44:aa P w K mg base (0+2) (Cl 0) "do_second" 44 []:=d44.z;have c45:aa P w K mg base (0+2) (Cl 0) "do_one" 45 []:=d45.z;have c46:aa P w K mg base (0+2) (Cl 0) "do_upto" 46 []:=d46.z;have c60:aa P w K mg base (0+2) (Cl 0) "do_pair" 60 []:=d60.z;have c61:aa P w K mg base (0+2) (Cl 0) "do_pick" 61 []:=d61.z;have c52:aa P w K mg base (0+2) (Cl 0) "do_join" 52 []:=d52.z;have c64:aa P w K mg base (0+2) (Cl 0) "word_of_upto" 64 []:=d64.z;have c72:aa P w K mg base (0+2) (Cl 0) "word_of_pick" 72 []:=d72.z;have c73:aa P w K mg base (0+2) (Cl 0) "word_of_join" 73 []:=d73.z;have t:aa P w K mg base (0+2) (Cl 0) "parts_start" 175 []:=d175.z;have u:aa P w K mg base (0+2) (Cl 0) "parts" 176 []:=d176.z;have Q:aa P w K mg base (0+2) (Cl 0) "reading" 466 []:=d466.z;have Z:aa P w K mg base (0+2) (Cl 0) "worth_of" 467 []:=d467.z;have c468:aa P w K mg base (0+2) (Cl 0) "inside" 468 []:=d468.z;have k:aa P w K mg base (0+2) (Cl 0) "let_worth" 469 []:=d469.z;have l:aa P w K mg base (0+2) (Cl 0) "if_worth" 470 []:=d470.z;have o:aa P w K mg base (0+2) (Cl 0) "each_worth" 471 []:=d471.z;have p:aa P w K mg base (0+2) (Cl 0) "times_worth" 472 []:=d472.z;have N:aa P w K mg base (0+2) (Cl 0) "meet_turns" 464 []:=d464.z;have c473:aa P w K mg base (0+2) (Cl 0) "read" 473 []:=d473.z;have c474:aa P w K mg base (0+2) (Cl 0) "_law_rows" 474 []:=d474.z;have D:aa P w K mg base (0+2) (Cl 0) "_law_spoiled" 455 [0]:=let ⟨_,_,F,b,m⟩:=d455.ex;⟨_,_,_,(pG F b T m 0).mono<|Gw _ 2,m,F.kp,b⟩;have y:aa P w K mg base (0+2) (Cl 0) "_law_cases" 448 []:=d448.z
 ⟨c31,c33,x,c34,r,M,v,c44,c45,c46,c60,c61,c52,c64,c72,c73,t,u,Q,Z,c468,k,l,o,p,N,c473,c474,D,y,cO g ⟨⟨_,rfl,v⟩,⟨_,rfl,c44⟩,⟨_,rfl,c45⟩,⟨_,rfl,c46⟩,⟨_,rfl,c60⟩,⟨_,rfl,c61⟩,⟨_,rfl,c52⟩,trivial⟩,cO j ⟨⟨_,rfl,k⟩,⟨_,rfl,l⟩,⟨_,rfl,o⟩,⟨_,rfl,p⟩,trivial⟩,cO i ⟨⟨_,rfl,c64⟩,⟨_,rfl,c72⟩,⟨_,rfl,c73⟩,trivial⟩⟩
|n+1=>
 have c:=all d31 d33 d431 d34 d130 d456 d43 d44 d45 d46 d60 d61 d52 d64 d72 d73 d175 d176 d466 d467 d468 d469 d470 d471 d472 d464 d473 d474 d455 d448 g j i T G e n;have c31:aa P w K mg base ((n+1)+2) (Cl (n+1)) "beyond_word" 31 []:=d31.s aW S31 (C:=Cl n) (by intro f d A a s H E h;exact@D31 P w K mg base n (Cl n) f d A a s H E e c T G h);have c33:aa P w K mg base ((n+1)+2) (Cl (n+1)) "upto_word" 33 []:=d33.s cD S33 (C:=Cl n) (by intro f d A a s H E h;exact@D33 P w K mg base n (Cl n) f d A a s H E e c T G h);have x:aa P w K mg base ((n+1)+2) (Cl (n+1)) "turns_word" 431 []:=d431.s bZ AL (C:=Cl n) (by intro f d A a s H E h;exact@CL P w K mg base n (Cl n) f d A a s H E e c T G h);have c34:aa P w K mg base ((n+1)+2) (Cl (n+1)) "long_word" 34 []:=d34.s bg S34 (C:=Cl n) (by intro f d A a s H E h;exact@D34 P w K mg base n (Cl n) f d A a s H E e c T G h);have r:aa P w K mg base ((n+1)+2) (Cl (n+1)) "done" 130 []:=d130.s cW Cq (C:=Cl n) (by intro f d A a s H E h;exact@DJ P w K mg base n (Cl n) f d A a s H E e c T G h);have M:aa P w K mg base ((n+1)+2) (Cl (n+1)) "own_copy" 456 []:=d456.s aq Al (C:=Cl n) (by intro f d A a s H E h;exact@DB P w K mg base n (Cl n) f d A a s H E e c T G h);have v:aa P w K mg base ((n+1)+2) (Cl (n+1)) "do_first" 43 []:=d43.s bC S43 (C:=Cl n) (by intro f d A a s H E h;exact@D43 P w K mg base n (Cl n) f d A a s H E e c T G h);have c44:aa P w K mg base ((n+1)+2) (Cl (n+1)) "do_second" 44 []:=d44.s bf S44 (C:=Cl n) (by intro f d A a s H E h;exact@D44 P w K mg base n (Cl n) f d A a s H E e c T G h);have c45:aa P w K mg base ((n+1)+2) (Cl (n+1)) "do_one" 45 []:=d45.s cx S45 (C:=Cl n) (by intro f d A a s H E h;exact@D45 P w K mg base n (Cl n) f d A a s H E e c T G h);have c46:aa P w K mg base ((n+1)+2) (Cl (n+1)) "do_upto" 46 []:=d46.s dk S46 (C:=Cl n) (by intro f d A a s H E h;exact@D46 P w K mg base n (Cl n) f d A a s H E e c T G h);have c60:aa P w K mg base ((n+1)+2) (Cl (n+1)) "do_pair" 60 []:=d60.s bU S60 (C:=Cl n) (by intro f d A a s H E h;exact@D60 P w K mg base n (Cl n) f d A a s H E e c T G h);have c61:aa P w K mg base ((n+1)+2) (Cl (n+1)) "do_pick" 61 []:=d61.s bS S61 (C:=Cl n) (by intro f d A a s H E h;exact@D61 P w K mg base n (Cl n) f d A a s H E e c T G h);have c52:aa P w K mg base ((n+1)+2) (Cl (n+1)) "do_join" 52 []:=d52.s bR S52 (C:=Cl n) (by intro f d A a s H E h;exact@D52 P w K mg base n (Cl n) f d A a s H E e c T G h);have c64:aa P w K mg base ((n+1)+2) (Cl (n+1)) "word_of_upto" 64 []:=d64.s bz S64 (C:=Cl n) (by intro f d A a s H E h;exact@D64 P w K mg base n (Cl n) f d A a s H E e c T G h);have c72:aa P w K mg base ((n+1)+2) (Cl (n+1)) "word_of_pick" 72 []:=d72.s aT S72 (C:=Cl n) (by intro f d A a s H E h;exact@D72 P w K mg base n (Cl n) f d A a s H E e c T G h);have c73:aa P w K mg base ((n+1)+2) (Cl (n+1)) "word_of_join" 73 []:=d73.s aU S73 (C:=Cl n) (by intro f d A a s H E h;exact@D73 P w K mg base n (Cl n) f d A a s H E e c T G h);have t:aa P w K mg base ((n+1)+2) (Cl (n+1)) "parts_start" 175 []:=d175.s aL Ak (C:=Cl n) (by intro f d A a s H E h;exact@Du P w K mg base n (Cl n) f d A a s H E e c T G h);have u:aa P w K mg base ((n+1)+2) (Cl (n+1)) "parts" 176 []:=d176.s cK BP (C:=Cl n) (by intro f d A a s H E h;exact@Dw P w K mg base n (Cl n) f d A a s H E e c T G h);have Q:aa P w K mg base ((n+1)+2) (Cl (n+1)) "reading" 466 []:=d466.s f_reading BG (C:=Cl n) (by intro f d A a s H E h;exact@C4 P w K mg base n (Cl n) f d A a s H E e c T G h);have Z:aa P w K mg base ((n+1)+2) (Cl (n+1)) "worth_of" 467 []:=d467.s aI As (C:=Cl n) (by intro f d A a s H E h;exact@C9 P w K mg base n (Cl n) f d A a s H E e c T G h);have c468:aa P w K mg base ((n+1)+2) (Cl (n+1)) "inside" 468 []:=d468.s cA Br (C:=Cl n) (by intro f d A a s H E h;exact@DT P w K mg base n (Cl n) f d A a s H E e c T G h);have k:aa P w K mg base ((n+1)+2) (Cl (n+1)) "let_worth" 469 []:=d469.s bo Bj (C:=Cl n) (by intro f d A a s H E h;exact@DG P w K mg base n (Cl n) f d A a s H E e c T G h);have l:aa P w K mg base ((n+1)+2) (Cl (n+1)) "if_worth" 470 []:=d470.s ba AG (C:=Cl n) (by intro f d A a s H E h;exact@Dk P w K mg base n (Cl n) f d A a s H E e c T G h);have o:aa P w K mg base ((n+1)+2) (Cl (n+1)) "each_worth" 471 []:=d471.s f_each_worth Cg (C:=Cl n) (by intro f d A a s H E h;exact@CU P w K mg base n (Cl n) f d A a s H E e c T G h);have p:aa P w K mg base ((n+1)+2) (Cl (n+1)) "times_worth" 472 []:=d472.s f_times_worth Ae (C:=Cl n) (by intro f d A a s H E h;exact@CN P w K mg base n (Cl n) f d A a s H E e c T G h);have N:aa P w K mg base ((n+1)+2) (Cl (n+1)) "meet_turns" 464 []:=d464.s a6 Av (C:=Cl n) (by intro f d A a s H E h;exact@DO P w K mg base n (Cl n) f d A a s H E e c T G h);have c473:aa P w K mg base ((n+1)+2) (Cl (n+1)) "read" 473 []:=d473.s eW Aj (C:=Cl n) (by intro f d A a s H E h;exact@CT P w K mg base n (Cl n) f d A a s H E e c T G h);have c474:aa P w K mg base ((n+1)+2) (Cl (n+1)) "_law_rows" 474 []:=d474.s f_law_rows Aq (C:=Cl n) (by intro f d A a s H E h;exact@Dt P w K mg base n (Cl n) f d A a s H E e c T G h);have D:aa P w K mg base ((n+1)+2) (Cl (n+1)) "_law_spoiled" 455 [0]:=let ⟨_,_,F,b,m⟩:=d455.ex;⟨_,_,_,(pG F b T m<|n+1).mono<|Gw _ 2,m,F.kp,b⟩;have y:aa P w K mg base ((n+1)+2) (Cl (n+1)) "_law_cases" 448 []:=d448.s bj BC (C:=Cl n)<|by intro f d A a s H E h;exact@CK P w K mg base n (Cl n) f d A a s H E e c T G h
 ⟨c31,c33,x,c34,r,M,v,c44,c45,c46,c60,c61,c52,c64,c72,c73,t,u,Q,Z,c468,k,l,o,p,N,c473,c474,D,y,cO g ⟨⟨_,rfl,v⟩,⟨_,rfl,c44⟩,⟨_,rfl,c45⟩,⟨_,rfl,c46⟩,⟨_,rfl,c60⟩,⟨_,rfl,c61⟩,⟨_,rfl,c52⟩,trivial⟩,cO j ⟨⟨_,rfl,k⟩,⟨_,rfl,l⟩,⟨_,rfl,o⟩,⟨_,rfl,p⟩,trivial⟩,cO i ⟨⟨_,rfl,c64⟩,⟨_,rfl,c72⟩,⟨_,rfl,c73⟩,trivial⟩⟩
end
theorem pure_law:∀a:U I,a.length<=63->∃m bs,Cl 40 0 [(.d,.scr a)]=.ok ((m,.bl DY),bs):=λa _=>P24.pure_law a
theorem all_mk {l:Hf}{w:D3}{K:D1}{h:Jf}{a:Str->B L}{fa:IY}(X:K.In h)(G:h.Ns D8 a)(hfa:a "law"=Y (.ref fa))(r31:Raw K "beyond_word" s31 .none)(r33:Raw K "upto_word" s33 .none)(r431:Raw K "turns_word" qq .none)(r34:Raw K "long_word" s34 .none)(r130:Raw K "done" qF .none)(r456:Raw K "own_copy" ny .none)(r43:Raw K "do_first" s43 .none)(r44:Raw K "do_second" s44 .none)(r45:Raw K "do_one" s45 .none)(r46:Raw K "do_upto" s46 .none)(r60:Raw K "do_pair" s60 .none)(r61:Raw K "do_pick" s61 .none)(r52:Raw K "do_join" s52 .none)(r64:Raw K "word_of_upto" s64 .none)(r72:Raw K "word_of_pick" s72 .none)(r73:Raw K "word_of_join" s73 .none)(r175:Raw K "parts_start" ri .none)(r176:Raw K "parts" qt .none)(r466:Raw K "reading" qL .none)(r467:Raw K "worth_of" pY .none)(r468:Raw K "inside" nQ .none)(r469:Raw K "let_worth" qw .none)(r470:Raw K "if_worth" qv .none)(r471:Raw K "each_worth" oM .none)(r472:Raw K "times_worth" oP .none)(r464:Raw K "meet_turns" qj .none)(r473:Raw K "read" n8 .none)(r474:Raw K "_law_rows" oB .none)(r455:Raw K "_law_spoiled" u9 .none)(r448:Raw K "_law_cases" pU .none)(r0:Raw K "law" s0 .none)(g0:∃t,FL K D8 "LONGEST"=Y (Y<|.int 200 t))(g1:∃t,FL K D8 "MOST_TURNS"=Y (Y<|.int 60 t))(g:∃T,TabRaw K w "AHEAD" T/\T.map FC=keys_AHEAD)(c:∃T,TabRaw K w "DOINGS" T/\NamL K T fA)(e:∃T,TabRaw K w "WAYS" T/\T.map FC=keys_WAYS/\NamL K T i9)(b:∃T,TabRaw K w "WORDS" T/\T.map FC=keys_WORDS/\NamL K T gy)(tx:y0 K ["isinstance","int","tuple","list","bool","sum","len","all","zip","range","enumerate","any","max","min","sorted","str","repr","abs","dict","set","reversed"])(xs:∀d,Xs l.prog w K a d):
  ∃fd:Ey,(∀(s:DZ) (v:L),Fy s fd ⟨[v],[]⟩ [("script",v)])/\∀d:Jf,K.In d->d.Ns D8 a->FnOk l.prog w K a d CX0 42 fa fd ["script"] (spS K (Cl 40) 0 []):=by
 have d31:Df K a "beyond_word" s31 ["length","number"]:=aF X G r31 λ_ _ _ _ _ _=>u2 λ_ _=>rfl;have d33:Df K a "upto_word" s33 ["number"]:=aF X G r33 λ_ _ _ _ _ _=>u1 λ_=>rfl;have D:Df K a "turns_word" qq ["number"]:=aF X G r431 λ_ _ _ _ _ _=>u1 λ_=>rfl;have d34:Df K a "long_word" s34 ["length"]:=aF X G r34 λ_ _ _ _ _ _=>u1 λ_=>rfl;have x:Df K a "done" qF ["piece","ins"]:=aF X G r130 λ_ _ _ _ _ _=>u2 λ_ _=>rfl;have N:Df K a "own_copy" ny ["worth"]:=aF X G r456 λ_ _ _ _ _ _=>u1 λ_=>rfl;have d43:Df K a "do_first" s43 ["ins"]:=aF X G r43 λ_ _ _ _ _ _=>u1 λ_=>rfl;have d44:Df K a "do_second" s44 ["ins"]:=aF X G r44 λ_ _ _ _ _ _=>u1 λ_=>rfl;have d45:Df K a "do_one" s45 ["ins"]:=aF X G r45 λ_ _ _ _ _ _=>u1 λ_=>rfl;have d46:Df K a "do_upto" s46 ["ins"]:=aF X G r46 λ_ _ _ _ _ _=>u1 λ_=>rfl;have d60:Df K a "do_pair" s60 ["ins"]:=aF X G r60 λ_ _ _ _ _ _=>u1 λ_=>rfl;have d61:Df K a "do_pick" s61 ["ins"]:=aF X G r61 λ_ _ _ _ _ _=>u1 λ_=>rfl;have d52:Df K a "do_join" s52 ["ins"]:=aF X G r52 λ_ _ _ _ _ _=>u1 λ_=>rfl;have d64:Df K a "word_of_upto" s64 ["ins"]:=aF X G r64 λ_ _ _ _ _ _=>u1 λ_=>rfl;have d72:Df K a "word_of_pick" s72 ["ins"]:=aF X G r72 λ_ _ _ _ _ _=>u1 λ_=>rfl;have d73:Df K a "word_of_join" s73 ["ins"]:=aF X G r73 λ_ _ _ _ _ _=>u1 λ_=>rfl;have y:Df K a "parts_start" ri ["sign"]:=aF X G r175 λ_ _ _ _ _ _=>u1 λ_=>rfl;have A:Df K a "parts" qt ["tree"]:=aF X G r176 λ_ _ _ _ _ _=>u1 λ_=>rfl;have Q:Df K a "reading" qL ["program","worths","book"]:=aF X G r466 λ_ _ _ _ _ _=>u3 λ_ _ _=>rfl;have Z:Df K a "worth_of" pY ["tree","place","around"]:=aF X G r467 λ_ _ _ _ _ _=>u3 λ_ _ _=>rfl;have d468:Df K a "inside" nQ ["around","name","worth","turn","turn_of_times"]:=aF X G r468 λ_ _ _ _ _ _=>u5 λ_ _ _ _ _=>rfl;have d469:Df K a "let_worth" qw ["tree","place","around"]:=aF X G r469 λ_ _ _ _ _ _=>u3 λ_ _ _=>rfl;have d470:Df K a "if_worth" qv ["tree","place","around"]:=aF X G r470 λ_ _ _ _ _ _=>u3 λ_ _ _=>rfl;have d471:Df K a "each_worth" oM ["tree","place","around"]:=aF X G r471 λ_ _ _ _ _ _=>u3 λ_ _ _=>rfl;have d472:Df K a "times_worth" oP ["tree","place","around"]:=aF X G r472 λ_ _ _ _ _ _=>u3 λ_ _ _=>rfl;have P:Df K a "meet_turns" qj ["tree","place","around","many"]:=aF X G r464 λ_ _ _ _ _ _=>u4 λ_ _ _ _=>rfl;have d473:Df K a "read" n8 ["program","worths"]:=aF X G r473 λ_ _ _ _ _ _=>u2 λ_ _=>rfl;have d474:Df K a "_law_rows" oB ["cells"]:=aF X G r474 λ_ _ _ _ _ _=>u1 λ_=>rfl;have M:Df K a "_law_spoiled" u9 ["worth"]:=aF X G r455 λ_ _ _ _ _ _=>u1 λ_=>rfl;have H:Df K a "_law_cases" pU ["rows","other","truth"]:=aF X G r448 λ_ _ _ _ _ _=>u3 λ_ _ _=>rfl;have T:=yV X G tx;obtain⟨_,g,j⟩:=g;obtain⟨_,c,i⟩:=c;obtain⟨_,e,o,p⟩:=e;obtain⟨_,b,k,m⟩:=b;have Gm:Glb K w a:=⟨(let ⟨t,z⟩:=g0;⟨t,FO X G z⟩),(let ⟨t,z⟩:=g1;⟨t,FO X G z⟩),(iw X G g j),(iw X G e o),(iw X G b k)⟩;have n:=gA X G c i;have u:=gA X G e p;have r:=gA X G b m;exact va X G hfa r0 (λ_ _ _ _ _ _ _ _=>.of_eq rfl) λf fd F d=>Fun.okM F S0 rfl (by decide) (by decide) (by decide) (λ_ _ _ _ _ _ h=>D0 (xs d) (all d31 d33 D d34 x N d43 d44 d45 d46 d60 d61 d52 d64 d72 d73 y A Q Z d468 d469 d470 d471 d472 P d473 d474 M H n u r T Gm (xs d) 39) T Gm h) λ_=>rfl
end A24

namespace I24
open PySem PySem.Spec PyProof.Rows L2 L3 MR
noncomputable def top (i:O):Jj:=PySem.Challenge.pw_broadrow_k24_askers_own.main.body.getD i<|.Pass ⟨0,0,0,0⟩
def x5:Jj->U Jj
|.ClassDef _ _ _ b _ _ _ _ _ _ _=>b
|_=>[]
def ini (i:O):Jj:=(x5<|top i).getD 0<|.Pass ⟨0,0,0,0⟩
abbrev s_Around:Jj:=ini 74
abbrev fs:U Str:=["names","turns","rounds","book"]
theorem pN:ai ["self","names","turns","rounds","book"] ["self","names","turns","rounds","book"] (defScope s_Around):=fsc
theorem DM (a b c d:V):bF "book" d (bF "rounds" c<|bF "turns" b<|bF "names" a [])=fs.zip [a,b,c,d]:=by kernel_rfl
theorem ok_Around {P:I9}{w:D3}{K:D1}{N:Str->B L}{d:Jf}{f:IY}{x:Ey}{c k:O}(F:L2.Fun K "__init__" "Around.__init__" s_Around f x)(b:mE K c fs):
  FnOk P w K N d CX0 (k+1) f x ["self","names","turns","rounds","book"] (spP c fs []):=by
 have len:∀m H Q E,spP c fs [] m H Q E->m.length=(["self","names","turns","rounds","book"]:U Str).length:=λm H Q E ⟨a,g,j,e,l,_⟩=>by rw[e,Ef];have l:4=j.length+0:=l;show j.length+1=5;lia
 refine F.ok pN len λD A t s H m Q E Z h=>⟨_,a7 (gX (a4 (i:=0) rfl (.inl rfl)) (a4 (i:=1) rfl (.inl rfl)) rfl)<|a7 (gX (a4 (i:=0) rfl (.inl rfl)) (a4 (i:=2) rfl (.inl rfl)) rfl)<|a7 (gX (a4 (i:=0) rfl (.inl rfl)) (a4 (i:=3) rfl (.inl rfl)) rfl)<|b5<|gX (a4 (i:=0) rfl (.inl rfl)) (a4 (i:=4) rfl (.inl rfl)) rfl,?_⟩;obtain⟨a,g,j,rfl,l,G,q⟩:=h;obtain⟨o,p,r,u,rfl⟩:∃o p r u,j=[o,p,r,u]:=match j,l with|[_,_,_,_],_=>⟨_,_,_,_,rfl⟩
 have lt:∀{l:U (Str×V)} {n:O} {f:Str} {v:V},l.length<=n->(bF f v l).length<=n+1:=λh=>Ed (cy _ _ _)<|F7 h;have y:=lt (f:="names") (v:=o) (D7 0) (l:=[]);have z:=lt (f:="turns") (v:=p) y;have M:=lt (f:="rounds") (v:=r) z;refine⟨o,rfl,.ref a,rfl,a,c,g,[],rfl,G,b.1,b.2 _<|by simp,(by show 0<1000;decide),?_⟩;refine⟨p,rfl,.ref a,rfl,a,c,g,_,rfl,ah,b.1,b.2 _<|by simp,FE y<|by decide,?_⟩;refine⟨r,rfl,.ref a,rfl,a,c,g,_,rfl,ah,b.1,b.2 _<|by simp,FE z<|by decide,?_⟩;refine⟨u,rfl,.ref a,rfl,a,c,g,_,rfl,ah,b.1,b.2 _<|by simp,FE M<|by decide,?_⟩;rw[d9,d9,d9,DM];exact q
end I24

set_option maxHeartbeats 0
namespace H24
open PySem PySem.W TP
noncomputable abbrev pr:I9:=PySem.Challenge.pw_broadrow_k24_askers_own
def tn (i:O):Jj:=pr.main.body.getD i<|.Pass p0
def rc:U Rc:=[.m,
.c,
.c,
.c,
.y "Stop" 227 (.ref 31) (λP=>[tu [.type "Exception"],⟨.type "builtin_function_or_method",J,.fields #[.builtin "type.__prepare__",.type "type"],#[]⟩,di [en P "__module__" 202<|.str "broadrow.stops" 187,en P "__qualname__" 204<|.str "Stop" 203,en P "__firstlineno__" 206<|.int (5) 205,en P "__init__" 216<|.ref 28,en P "__static_attributes__" 220<|.ref 29] 5,tu [],fe [iv 7,iv 4,.ref 27],cdo "Stop" "Stop" 197 200 5 0 0 18 DX .none .none .none,⟨.type "frame",J,.plain,#[Y<|.ref 20,Y<|.ref 3,Y<|.ref 17,J,Y<|.str "broadrow.stops" 187,J,Y<|.ref 0]⟩,tu [],fe [],tu [.str "self" 210,.str "word" 211,.str "place" 212,.str "turns" 213],tu [],ofn .none (cb (tn 4) 0) "Stop.__init__" 0 .none .none .none,cdo "__init__" "Stop.__init__" 207 214 7 4 3 22 DY (.ref 24) (.ref 25)<|.ref 26,ofn (.type "function") (cb (tn 4) 0) "Stop.__init__" 3 .none (.str "broadrow.stops" 187)<|.ref 27,tu [.str "place" 217,.str "turns" 218,.str "word" 219],di [en P "__module__" 202<|.str "broadrow.stops" 187,en P "__firstlineno__" 206<|.int (5) 205,en P "__init__" 216<|.ref 28,en P "__static_attributes__" 220<|.ref 29,en P "__weakref__" 222<|.ref 32,en P "__doc__" 223 .none] 3,⟨.type "type",J,.cls {name:="Stop",bases:=[.type "Exception"],mro:=[.ref 31,.type "Exception",.type "BaseException",.type "object"],ns:=30,qualname:="Stop"},#[Y<|.ref 15,J,Y<|.str "Stop" 195,Y<|.str "Stop" 203,Y<|.builtin "Exception.__new__",Y<|.bool DY]⟩,⟨.type "getset_descriptor",J,.fields #[.str "__weakref__" 221,.ref 31,.builtin "ExceptionGroup.__weakref__",.none],#[]⟩,⟨.type "super",J,.fields #[.ref 31,.ref 31,.ref 31],#[]⟩,⟨.type "builtin_function_or_method",J,.fields #[.builtin "object.__init_subclass__",.ref 31],#[]⟩]) [iv 5,iv 0,.ref 20] 35 228 (λP=>[en P "type.__subclasses__.Exception.0" 224<|iv 31,en P "type.__subclasses__.Exception.n" 225<|iv 1]),
.d,
.d,
.d,
.d,
.d,
.d,
.d,
.d,
.d,
.d,
.m,
.d,
.d,
.d,
.d,
.d,
.d,
.d,
.d,
.d,
.d,
.d,
.d,
.d,
.d,
.d,
.d,
.d,
.d,
.d,
.d,
.d,
.d,
.d,
.d,
.d,
.d,
.d,
.d,
.d,
.x "DOINGS" 567 (.ref 302) (λP=>[di [en P "yes" 515<|.ref 128,en P "no" 517<|.ref 135,en P "none" 519<|.ref 142,en P "not" 521<|.ref 149,en P "first" 523<|.ref 156,en P "second" 525<|.ref 163,en P "one" 527<|.ref 170,en P "upto" 529<|.ref 177,en P "long" 531<|.ref 184,en P "sum" 533<|.ref 191,en P "sums" 535<|.ref 198,en P "most" 537<|.ref 205,en P "flat" 539<|.ref 212,en P "add" 541<|.ref 219,en P "sub" 543<|.ref 226,en P "mul" 545<|.ref 233,en P "div" 547<|.ref 240,en P "rest" 549<|.ref 247,en P "less" 550<|.ref 254,en P "same" 551<|.ref 261,en P "both" 552<|.ref 268,en P "pair" 553<|.ref 275,en P "pick" 554<|.ref 282,en P "join" 555<|.ref 289,en P "keep" 556<|.ref 294,en P "cut" 557<|.ref 301] 26,di [en P "rest" 549<|.ref 247,en P "less" 550<|.ref 254,en P "same" 551<|.ref 261,en P "both" 552<|.ref 268,en P "pair" 553<|.ref 275,en P "pick" 554<|.ref 282,en P "join" 555<|.ref 289,en P "keep" 556<|.ref 294,en P "cut" 557<|.ref 301] 9]) [] 304 568,
.d,
.d,
.d,
.d,
.d,
.d,
.d,
.d,
.d,
.d,
.d,
.d,
.x "WORDS" 679 (.ref 386) (λP=>[di [en P "upto" 651<|.ref 310,en P "sum" 652<|.ref 317,en P "sums" 653<|.ref 317,en P "most" 654<|.ref 324,en P "flat" 655<|.ref 329,en P "add" 656<|.ref 336,en P "sub" 657<|.ref 343,en P "mul" 658<|.ref 350,en P "div" 659<|.ref 357,en P "rest" 660<|.ref 357,en P "pick" 661<|.ref 364,en P "join" 662<|.ref 371,en P "keep" 663<|.ref 378,en P "cut" 664<|.ref 385] 14]) [] 387 680,
.m,
.d,
.m,
.x "AHEAD" 708 (.ref 392) (λP=>[di [en P "num" 690<|.str "number" 691,en P "name" 692<|.str "name" 693,en P "none" 694<|.str "kind" 695,en P "let" 696<|.str "name" 697,en P "each" 698<|.str "name" 699,en P "times" 700<|.str "name" 701] 6]) [] 393 709,
.x "BINDING" 718 (.ref 393) (λP=>[di [en P "let" 709<|.int (1) 710,en P "each" 711<|.int (1) 712,en P "times" 713<|.int (2) 714] 3]) [] 394 719,
.d,
.d,
.d,
.m,
.x "COUNTED" 757 (.ref 415) (λP=>[di [en P "sum" 742<|.int (0) 743,en P "sums" 744<|.int (0) 745,en P "most" 746<|.int (0) 747,en P "flat" 748<|.int (0) 749,en P "cut" 750<|.int (1) 751] 5]) [] 416 758,
.x "SIZED" 761 (.ref 416) (λP=>[tu [.str "pick" 758,.str "join" 759,.str "keep" 760]]) [] 417 762,
.d,
.d,
.d,
.m,
.x "Around" 819 (.ref 450) (λP=>[tu [],⟨.type "builtin_function_or_method",J,.fields #[.builtin "type.__prepare__",.type "type"],#[]⟩,di [en P "__module__" 792<|.str "broadrow.reading" 783,en P "__qualname__" 794<|.str "Around" 793,en P "__firstlineno__" 796<|.int (175) 795,en P "__init__" 807<|.ref 447,en P "__static_attributes__" 812<|.ref 448] 5,tu [],fe [iv 177,iv 4,.ref 446],cdo "Around" "Around" 787 790 175 0 0 437 DX .none .none .none,⟨.type "frame",J,.plain,#[Y<|.ref 439,Y<|.ref 3,Y<|.ref 436,J,Y<|.str "broadrow.reading" 783,J,Y<|.ref 0]⟩,tu [],fe [],tu [.str "self" 800,.str "names" 801,.str "turns" 802,.str "rounds" 803,.str "book" 804],tu [],ofn .none (cb (tn 74) 0) "Around.__init__" 0 .none .none .none,cdo "__init__" "Around.__init__" 797 805 177 5 3 441 DY (.ref 443) (.ref 444)<|.ref 445,ofn (.type "function") (cb (tn 74) 0) "Around.__init__" 3 .none (.str "broadrow.reading" 783)<|.ref 446,tu [.str "book" 808,.str "names" 809,.str "rounds" 810,.str "turns" 811],di [en P "__module__" 792<|.str "broadrow.reading" 783,en P "__firstlineno__" 796<|.int (175) 795,en P "__init__" 807<|.ref 447,en P "__static_attributes__" 812<|.ref 448,en P "__dict__" 814<|.ref 451,en P "__weakref__" 816<|.ref 452,en P "__doc__" 817 .none] 4,⟨.type "type",J,.cls {name:="Around",bases:=[.type "object"],mro:=[.ref 450,.type "object"],ns:=449,qualname:="Around"},#[J,J,Y<|.str "Around" 785,Y<|.str "Around" 793,Y<|.builtin "object.__new__",Y<|.bool DY]⟩,⟨.type "getset_descriptor",J,.fields #[.str "__dict__" 813,.ref 450,.builtin "function.__dict__",.builtin "function.__dict__#set"],#[]⟩,⟨.type "getset_descriptor",J,.fields #[.str "__weakref__" 815,.ref 450,.builtin "ExceptionGroup.__weakref__",.none],#[]⟩,⟨.type "super",J,.fields #[.ref 450,.ref 450,.ref 450],#[]⟩,⟨.type "builtin_function_or_method",J,.fields #[.builtin "object.__init_subclass__",.ref 450],#[]⟩]) [iv 175,iv 0,.ref 439] 455 820,
.d,
.d,
.d,
.d,
.d,
.d,
.d,
.d,
.d,
.x "WAYS" 930 (.ref 514) (λP=>[di [en P "let" 922<|.ref 485,en P "if" 923<|.ref 492,en P "each" 924<|.ref 499,en P "times" 925<|.ref 506] 4]) [] 515 931,
.m,
.d,
.m,
.d,
.d,
.d,
.d]
theorem c0 (w:D3):Cut pr rc 0 15 187 p0 20 688 129 336 ⟨60,0,61,15⟩ w:=λo=>by kernel_rfl
theorem c20 (w:D3):Cut pr rc 20 129 336 ⟨60,0,61,15⟩ 24 699 295 508 ⟨116,0,117,67⟩ w:=λo=>by kernel_rfl
theorem c44 (w:D3):Cut pr rc 44 295 508 ⟨116,0,117,67⟩ 1 30 302 515 ⟨118,0,119,34⟩ w:=λo=>by kernel_rfl
theorem c45 (w:D3):Cut pr rc 45 302 515 ⟨118,0,119,34⟩ 1 488 304 568 ⟨120,0,120,6⟩ w:=JV (P:=Cut pr rc 45 302 515 ⟨118,0,119,34⟩ 1 488 304 568 ⟨120,0,120,6⟩) "special-get-raises" (λw o=>by kernel_rfl) (λw o=>by kernel_rfl) w
theorem c46 (w:D3):Cut pr rc 46 304 568 ⟨120,0,120,6⟩ 12 346 386 651 ⟨143,0,144,40⟩ w:=λo=>by kernel_rfl
theorem c58 (w:D3):Cut pr rc 58 386 651 ⟨143,0,144,40⟩ 1 235 387 680 ⟨145,0,145,5⟩ w:=JV (P:=Cut pr rc 58 386 651 ⟨143,0,144,40⟩ 1 235 387 680 ⟨145,0,145,5⟩) "special-get-raises" (λw o=>by kernel_rfl) (λw o=>by kernel_rfl) w
theorem c59 (w:D3):Cut pr rc 59 387 680 ⟨145,0,145,5⟩ 3 45 392 690 ⟨152,0,152,8⟩ w:=λo=>by kernel_rfl
theorem c62 (w:D3):Cut pr rc 62 392 690 ⟨152,0,152,8⟩ 1 101 393 709 ⟨153,0,153,5⟩ w:=JV (P:=Cut pr rc 62 392 690 ⟨152,0,152,8⟩ 1 101 393 709 ⟨153,0,153,5⟩) "special-get-raises" (λw o=>by kernel_rfl) (λw o=>by kernel_rfl) w
theorem c63 (w:D3):Cut pr rc 63 393 709 ⟨153,0,153,5⟩ 1 56 394 719 ⟨154,0,154,7⟩ w:=JV (P:=Cut pr rc 63 393 709 ⟨153,0,153,5⟩ 1 56 394 719 ⟨154,0,154,7⟩) "special-get-raises" (λw o=>by kernel_rfl) (λw o=>by kernel_rfl) w
theorem c64 (w:D3):Cut pr rc 64 394 719 ⟨154,0,154,7⟩ 4 97 415 742 ⟨161,0,161,8⟩ w:=λo=>by kernel_rfl
theorem c68 (w:D3):Cut pr rc 68 415 742 ⟨161,0,161,8⟩ 1 86 416 758 ⟨162,0,162,7⟩ w:=JV (P:=Cut pr rc 68 415 742 ⟨161,0,161,8⟩ 1 86 416 758 ⟨162,0,162,7⟩) "special-get-raises" (λw o=>by kernel_rfl) (λw o=>by kernel_rfl) w
theorem c69 (w:D3):Cut pr rc 69 416 758 ⟨162,0,162,7⟩ 15 630 514 922 ⟨241,0,244,53⟩ w:=λo=>by kernel_rfl
theorem c84 (w:D3):Cut pr rc 84 514 922 ⟨241,0,244,53⟩ 1 75 515 931 ⟨245,0,245,4⟩ w:=JV (P:=Cut pr rc 84 514 922 ⟨241,0,244,53⟩ 1 75 515 931 ⟨245,0,245,4⟩) "special-get-raises" (λw o=>by kernel_rfl) (λw o=>by kernel_rfl) w
theorem c85 (w:D3):Cut pr rc 85 515 931 ⟨245,0,245,4⟩ 7 165 546 975 ⟨269,0,298,15⟩ w:=λo=>by kernel_rfl
theorem ch:Ch pr rc 92 546 975 0 15 187 p0 (688+(699+(30+(488+(346+(235+(45+(101+(56+(97+(86+(630+(75+(165+(2))))))))))))))):=aM c0<|aM c20<|aM c44<|aM c45<|aM c46<|aM c58<|aM c59<|aM c62<|aM c63<|aM c64<|aM c68<|aM c69<|aM c84<|aM c85<|yQ<|by kernel_rfl
def q:I9:=view pr [91]
noncomputable def lo:U Str:=(["GREATEST","LONGEST","MOST_TURNS","Stop","great_word","sums_word","nought_word","beyond_word","empty_word","upto_word","turns_word","long_word","keep_word","cut_word","done","own_copy","in_rows","do_yes","do_no","do_none","do_not","do_first","do_second","do_one","do_upto","do_long","do_sum","do_sums","do_most","do_flat","do_add","do_sub","do_mul","do_div","do_rest","do_less","do_same","do_both","do_pair","do_pick","do_join","do_keep","do_cut","DOINGS","word_of_upto","word_of_sum","word_of_most","word_of_flat","word_of_add","word_of_sub","word_of_mul","word_of_div","word_of_pick","word_of_join","word_of_keep","word_of_cut","WORDS","size","AHEAD","BINDING","parts_start","parts","binding","COUNTED","SIZED","width_once","if_width_once","turns_width_once","Around","reading","worth_of","inside","brought_worths","let_worth","if_worth","each_worth","times_worth","meet_turns","WAYS","read","_law_rows","_law_spoiled","_law_cases"]:U Jm).map Str.ofString
noncomputable def as:U IY:=[3,31,40,41,47,48,54,55,61,62,68,69,75,76,82,83,89,90,96,97,101,102,108,109,113,114,120,121,127,128,134,135,141,142,148,149,155,156,162,163,169,170,176,177,183,184,190,191,197,198,204,205,211,212,218,219,225,226,232,233,239,240,246,247,253,254,260,261,267,268,274,275,281,282,288,289,293,294,300,301,302,309,310,316,317,323,324,328,329,335,336,342,343,349,350,356,357,363,364,370,371,377,378,384,385,386,390,391,392,393,399,400,406,407,413,414,415,416,422,423,427,428,432,433,450,460,461,465,466,472,473,477,478,484,485,491,492,498,499,505,506,512,513,514,520,521,525,526,532,533,539,540,544,545,449,447,446]
def K:Ei->Frag:=kK pr rc 92 as
def hk:Hook:=hkk pr rc 92 546
abbrev Xt (s:DZ):IZ:=xlAt q [] s&&recOk (RowW.records<|OpenRow.toRowW<|OpenLaw.row PySem.Challenge.rw_broadrow_k24_askers_own) s
theorem kin (w:D3)(h:Jf)(a:hk.says w h):(K w.params).In h:=CO (by kernel_rfl) (by kernel_rfl) a
theorem lk (w:D3):(λo=>((staticsOk (GJ pr.main.body) (ES w.params) (hp pr rc 92 546 w.params)&&namesBound pr (hp pr rc 92 546 w.params)&&gensDone ⟨hp pr rc 92 546 w.params,#[],{},975,o⟩&&laidKept (ES w.params) (hp pr rc 92 546 w.params)),openSeen q lo (GJ pr.main.body) Xt DY ⟨hp pr rc 92 546 w.params,#[],{},975,o⟩,Hook.obs hk ⟨hp pr rc 92 546 w.params,#[],{},975,o⟩))=λ_=>(DY,openGood q lo,Hook.val hk w):=by kernel_rfl
theorem e1:opening pr=plainProg pr.main.scope.names:=by kernel_rfl
theorem e2:Gq pr=pr.main.body:=by kernel_rfl
theorem e3 (s:DZ):fenceModules? pr s=Y s:=by kernel_rfl
theorem pre (w:D3)(o:JL):topGo Fu pr w 11 an 12 ⟨ES w.params,GR [],boot_drawn,boot_toks,o⟩ (topStub pr)=Y ((sT pr rc w.params 0 15 187 o).abs,⟨denote Fu<|cE pr,cE pr,p0,B0⟩):=by kernel_rfl
theorem blk (w:D3)(o:JL):segRun Fu pr w 11 an 1 1 (sT pr rc w.params 0 15 187 o).abs (blockOf (Gq pr) (ev pr) (cE pr) p0 B0)=Y (.next,(sT pr rc w.params 0 15 187 o).abs,cE pr,p0):=by kernel_rfl
theorem left:LeftO pr q lo Xt (Hook.obs hk) (Hook.val hk) 7580:=t9 e1 (by kernel_rfl) e3 e2 rX pre blk ch (by kernel_rfl) lk
end H24

namespace A24
open PySem PySem.Spec PyProof.Rows L2 L3 MR
abbrev KK (w:D3):D1:=H24.K w.params
theorem BI (w:D3):∀f∈I24.fs,NoAttr (KK w) 450 f:=by
 intro f a;simp only[I24.fs,Ee,ED,Jq] at a;rcases a with rfl|rfl|rfl|rfl
 .show EG (KK w) (.ref 450) _=Y J;kernel_rfl
 .show EG (KK w) (.ref 450) _=Y J;kernel_rfl
 .show EG (KK w) (.ref 450) _=Y J;kernel_rfl
 .show EG (KK w) (.ref 450) _=Y J;kernel_rfl
theorem vW (w:D3):mE (KK w) 450 I24.fs:=⟨⟨by kernel_rfl,by kernel_rfl,by kernel_rfl,by kernel_rfl⟩,BI w⟩
theorem Bs (w:D3):Mk (KK w) 450 447:=⟨by kernel_rfl,by kernel_rfl,by kernel_rfl,by kernel_rfl⟩
theorem BN (w:D3):∃a,L2.Fun (KK w) "__init__" "Around.__init__" I24.s_Around 447 a/\Binds (KK w) a ["self","names","turns","rounds","book"] []:=by refine⟨E4 "__init__" "Around.__init__" (defArgs I24.s_Around) (defBody I24.s_Around) (defScope I24.s_Around) .none .none .none (TP.pmO<|(KK w).lookup 447) J (.ref 446) .none,?_⟩;have F:L2.Fun (KK w) "__init__" "Around.__init__" I24.s_Around 447 (E4 "__init__" "Around.__init__" (defArgs I24.s_Around) (defBody I24.s_Around) (defScope I24.s_Around) .none .none .none (TP.pmO ((KK w).lookup 447)) J (.ref 446) .none):=⟨⟨.type "function",J,_,_,_,_,_,_,#[],rfl,by kernel_rfl,by kernel_rfl⟩,by kernel_rfl⟩;exact⟨F,F.binds λ_ _ _ _ _ _ c b=>match c,b with|[_,_,_,_,_],_=>rfl⟩
theorem xs_mk {P:I9}{w:D3}{h:Jf}{c:Str->B L}(X:(KK w).In h)(G:h.Ns D8 c)(a:Jf):Xs P w (KK w) c a:=by obtain⟨d,F,b⟩:=BN w;exact⟨⟨⟨447,d,_,Bs w,b,λk=>I24.ok_Around F<|vW w⟩,vW w,FO X G<|by kernel_rfl⟩⟩
end A24

set_option maxHeartbeats 4000000
open PySem PySem.W PyProof.Rows
set_option maxRecDepth 100000 in
set_option maxHeartbeats 0 in
theorem PySem.Challenge.cw_broadrow_k24_askers_own_holds : PySem.Challenge.rw_broadrow_k24_askers_own.Holds := by
 w_on; o_law
 refine holds_open (q:=H24.q) (loose:=H24.lo) (Xt:=H24.Xt) (XP:=XL H24.q []) (Yf:=Hook.obs H24.hk) (Ya:=Hook.val H24.hk) (YP:=Hook.says H24.hk) (N:=7580) (d:=TP.drec (H24.tn 91)) (kwd:=[]) H24.left (Hook.of H24.hk) (Hook.keeps H24.hk) (fun s e=>xl_of s (El.mp e).1) XL.keeps (by kernel_rfl) (by kernel_rfl) (by kernel_rfl) (fun s e=>recFacts_of (El.mp e).2) (by rfl) (by first | assumption | decide +kernel) (by decide +kernel) ⟨rfl,rfl,rfl,rfl,rfl,by decide +kernel⟩ ?hw ?hc
 case hw=>w_witness2
 refine MR.walkX (sx:="script") (l:=PySem.Challenge.rw_broadrow_k24_askers_own) (k:=42) (C:=A24.Cl 40) (ix:=0) (K:=H24.K) A24.pure_law rfl (by kernel_rfl) ⟨rfl,by decide,by decide,rfl⟩ H24.kin ?F
 case F =>
  intro w mg fa h KX G hmg
  refine' A24.all_mk KX G hmg ?zr31 ?zr33 ?zr431 ?zr34 ?zr130 ?zr456 ?zr43 ?zr44 ?zr45 ?zr46 ?zr60 ?zr61 ?zr52 ?zr64 ?zr72 ?zr73 ?zr175 ?zr176 ?zr466 ?zr467 ?zr468 ?zr469 ?zr470 ?zr471 ?zr472 ?zr464 ?zr473 ?zr474 ?zr455 ?zr448 ?zr0 ?zg0 ?zg1 ?zq_AHEAD ?zq_DOINGS ?zq_WAYS ?zq_WORDS ?ztx ?zxs
  case zg0=>exact ⟨TP.tkO (nsIn (H24.K w.params) mainGlobals "LONGEST"),by kernel_rfl⟩
  case zg1=>exact ⟨TP.tkO (nsIn (H24.K w.params) mainGlobals "MOST_TURNS"),by kernel_rfl⟩
  case zq_AHEAD=>exact ⟨_,TP.tab_mk (by kernel_rfl) (by kernel_rfl) (by kernel_rfl) (by kernel_rfl),by kernel_rfl⟩
  case zq_DOINGS=>exact ⟨_,TP.tab_mk (by kernel_rfl) (by kernel_rfl) (by kernel_rfl) (by kernel_rfl),TP.nam_of (by kernel_rfl)⟩
  case zq_WAYS=>exact ⟨_,TP.tab_mk (by kernel_rfl) (by kernel_rfl) (by kernel_rfl) (by kernel_rfl),by kernel_rfl,TP.nam_of (by kernel_rfl)⟩
  case zq_WORDS=>exact ⟨_,TP.tab_mk (by kernel_rfl) (by kernel_rfl) (by kernel_rfl) (by kernel_rfl),by kernel_rfl,TP.nam_of (by kernel_rfl)⟩
  case zxs=>exact fun base=>A24.xs_mk KX G base
  case ztx=>refine' ⟨?_,?_,?_,?_,?_,?_,?_,?_,?_,?_,?_,?_,?_,?_,?_,?_,?_,?_,?_,?_,?_,trivial⟩<;>kernel_rfl
  all_goals exact TP.raw_mk (by kernel_rfl) (by kernel_rfl) (by kernel_rfl) (by kernel_rfl)
