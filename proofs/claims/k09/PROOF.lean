import PyProof.Rows.All
import Wide.All
import OpenK.AllK
import Wide.FinOn
import Lean
import PyProof.EqAt
import PyProof.EqKinds
import PyProof.TupleCall
import PyProof.ExcInit
import PyProof.ExcClass3
import PyProof.ExcBaseAll.ValueError
import PyProof.StationsW
import PyProof.FString
import PyProof.Rows.FStr
import PyProof.NsDelKeeps
import PyProof.RulesAs
import PyProof.ExcArgs
import PySem.Str
import PySem.Builtin.Str.Common
import PyProof.ReprReads
import PyProof.Rows.Range3
import PyProof.P3Eq
import PyProof.TableCode
import PySem.Challenge.RW_broadrow_k09_places_and_parts
open PySem.W renaming Frag → a0a, findIn → a0x, kitOne → a0C, kia_one → a0G, mg_of → a0S, hasDictIn → a02, InstAt → a08, fnOf → a09, nsIn → a1j, keepIn → a1k, specialIn → a1m, any_some → a1v, kitAny → a1x, clsIn → a1D, takesIn → a1K, mroIn → a1L, emptyDict → a1Z, takerIn → a2b, callWith_K → a2h, codeIn → a2n, notCls → a2o, methodObj → a2t, kitx_list → a2u, cellsFrom_some → a2A, instObj → a2E, OpenLaw → a2H, looks_findIn → a2O, lookIn → a2Q, looks_clsIn → a2U, kitx_tuple → a2V, subIn → a2W, Looks → a2X, check_slot → a2Y, looks_find → a2Z, isNs_of_in → a22, kitx_none → a27, kitx_dict → a28, handedIn → a3c, plainGet → a3d, KeysLit → a3m, findObj → a3p, kia_tup → a3q, WalkO → a3y
open List renaming length_map → a0b, length_append → a0c, size_toArray → a0e, mem_cons_of_mem → a0f, length_cons → a0g, mem_append_right → a0h, mem_cons_self → a0k, mem_cons → a0m, getElem?_eq_getElem → a0n, length_singleton → a0o, getD_eq_getElem?_getD → a0p, getElem?_eq_some_iff → a0q, replicate → a0r, mem_singleton → a0t, getElem?_cons_succ → a0w, getElem?_map → a0y, map_cons → a0A, append_nil → a0B, range → a0F, getElem?_append_right → a0I, mem_append_left → a0K, length_replicate → a0M, append_assoc → a0O, mem_append → a0P, nil_append → a0T, map_append → a0U, getElem?_set_ne → a0V, length_take → a0W, length_drop → a0X, lookup_cons → a0Y, mem_map → a0Z, getElem?_set_self → a00, filterMap_cons → a01, take_succ_cons → a03, getElem?_append_left → a04, length_set → a05, drop_succ_cons → a1c, take_of_length_le → a1d, not_mem_nil → a1f, mem_filterMap → a1g, contains_cons → a1i, mem_of_getElem? → a1l, find?_cons → a1n, map_nil → a1q, map_map → a1r, length_eq_zero_iff → a1u, drop_zero → a1w, nodup_cons → a1A, length_nil → a1B, any_cons → a1C, length_range → a1E, getElem_mem → a1G, getElem?_replicate → a1M, all_cons → a1O, getElem?_cons_zero → a1R, take → a1U, drop → a1V, all_eq_true → a19, sum_cons → a2a, lookup → a2c, replicate_succ → a2d, map_congr_left → a2e, take_zero → a2r, drop_of_length_le → a2C, of_mem_zip → a2G, concat_eq_append → a2L, length → a2T, take_nil → a20, isEmpty_cons → a3a, drop_length → a3g, cons_append → a3j, mem_filter → a3l, drop_drop → a3v, take_left → a3w, drop_nil → a3z, map_take → a3A, map_drop → a3B
open Bool renaming and_eq_true → a0d, false_ne_true → a0l, and_eq_true_iff → a0D, not_false → a1y, not_true → a1F, or_true → a2i, and_false → a2R, bne_false → a2S, false_eq_true → a23, and_true → a24, eq_iff_iff → a3r, false_and → a3t, and_self → a3E, true_and → a3F
open Nat renaming lt_of_lt_of_le → a0i, le_refl → a0j, le_trans → a0s, ne_of_lt → a0v, zero_le → a0Q, ne_of_gt → a1p, lt_irrefl → a1s, zero_add → a1J, lt_of_le_of_lt → a1P, le_of_ble_eq_true → a18, le_of_lt → a2F, add_comm → a3b, le_of_not_lt → a3f, succ_le_succ → a3h, le_add_right → a3i, min_eq_right → a3k, le_succ → a3n, min_eq_left → a3s, le_of_eq → a3J, lt_trans → a3K, pow_succ → a3P
open Option.some renaming inj → a0u, injEq → a2w
open Or renaming inr → a0z, inl → a0E
open PyProof.Rows renaming slot_tuple_getitem → a0H, callWith_type1 → a1a, boot_isinstance → a1z, boot_bool → a1Y, callWith_builtin1 → a17, boot_int → a2J, boot_tuple → a3C, boot_list → a3G, eq_dataH → a3L, ne_dataH → a3M
open Array renaming getElem?_eq_some_iff → a0J, getElem?_setIfInBounds_ne → a1o, length_toList → a1t, size_setIfInBounds → a1I, find?_toList → a2g, all_eq_true' → a2j, getElem?_eq_getElem → a2q, getElem?_eq_none → a2B, size_append → a29, mk → a3D, toList → a3I
open PySem.W.Looks renaming here → a0L
open Int renaming toNat_natCast → a0N, emod_nonneg → a2K, emod_lt_of_pos → a25
open False renaming elim → a0R
open PySem.Builtin.Str renaming occurrences → a06
open Ne renaming symm → a07
open PySem renaming mem_of_lookup → a1b, reprText → a2p, handedOut → a3o, boot_len → a3u, call → a3x, Within → a3H, PyData → a3N
open True renaming intro → a1e
open PySem.F renaming slot_dict_get → a1h, args_tuple_add_2 → a1H, entry_tuple_add → a1N, args_dict_get_2 → a1Q, plainAttrs_list → a1T, slot_tuple_add → a1W, entry_dict_get → a1X, excBase_ValueError → a2f, plainAttrs_dict → a2x, type_dict_get → a2I
open Option renaming bind_eq_some_iff → a1S, isNone_iff_eq_none → a2s, isSome_iff_exists → a2v, bind_some → a2z, toList_none → a21, getD_none → a3e
open Prod renaming snd → a2k, fst → a2l
open PySem.Str renaming ofString → a2m
open Classical renaming propDecidable → a2y, em → a3O
open Sum renaming inr → a2D, inl → a26
open List.cons renaming injEq → a2M
open And renaming left → a2N
open String renaming length_toList → a2P
open Sum.inr renaming inj → a3Q
open Prod.mk renaming inj → a3R
open List.Pairwise renaming nil → a3S
open PySem.Within renaming cons → a3T
set_option genSizeOf false
set_option genInjectivity false
set_option Elab.async false
set_option linter.all false
set_option maxRecDepth 100000
namespace L2
open PySem PySem.Spec PyProof.Rows
noncomputable abbrev Key:=Sum Int Str
noncomputable def gw:Key->Value->Bool
 | .inl k,v=>Value.isInt k v
 | .inr x,v=>Value.isStrOf x v
noncomputable def FO (w:World):Key->Int
 | .inl k=>hashInt k
 | .inr x=>hashStr w x
theorem aE:∀ {k:Key} {v:Value},gw k v=true->(∃ i t,k=a26 i/\v=Value.int i t)\/(∃ x t,k=a2D x/\v=Value.str x t)
 | .inl i,v,h=>by
  obtain ⟨t,e⟩:=Value.isInt_shape (k:=i) (v:=v) h
  exact .inl ⟨i,t,rfl,e⟩
 | .inr x,v,h=>by
  obtain ⟨t,e⟩:=Value.isStrOf_shape (x:=x) (v:=v) h
  exact .inr ⟨x,t,rfl,e⟩
theorem oa (i:Int)(t:Tok):gw (.inl i) (.int i t)=true:=by simp [gw,Value.isInt]
theorem nU (x:Str)(t:Tok):gw (.inr x) (.str x t)=true:=by simp [gw,Value.isStrOf]
theorem zL (a b:Int):decide ((a26 a:Key)=a26 b)=(a==b):=by
 by_cases e:a=b
 ·subst e; simp
 ·have h:¬ (a26 a:Key)=a26 b:=fun q=>e (Sum.inl.inj q)
  rw [decide_eq_false h]
  exact (beq_eq_false_iff_ne.mpr e).symm
theorem xH (a b:Str):decide ((a2D a:Key)=a2D b)=decide (a=b):=by
 by_cases e:a=b
 ·subst e; simp
 ·have h:¬ (a2D a:Key)=a2D b:=fun q=>e (a3Q q)
  rw [decide_eq_false h,decide_eq_false e]
theorem AU (a:Int)(b:Str):decide ((a26 a:Key)=a2D b)=false:=decide_eq_false (fun q=>nomatch q)
theorem yR (a:Str)(b:Int):decide ((a2D a:Key)=a26 b)=false:=decide_eq_false (fun q=>nomatch q)
noncomputable def aF (prog:Program)(w:World):PySem.KeyKind prog w Key where
 is:=gw
 hash:=FO w
 inj:=fun v a b ha hb=>by
  rcases aE ha with ⟨i,t,rfl,rfl⟩ | ⟨x,t,rfl,rfl⟩
  ·rcases aE hb with ⟨j,u,rfl,e⟩ | ⟨y,u,rfl,e⟩
   ·injection e with e1 _; rw [e1]
   ·exact nomatch e
  ·rcases aE hb with ⟨j,u,rfl,e⟩ | ⟨y,u,rfl,e⟩
   ·exact nomatch e
   ·injection e with e1 _; rw [e1]
 byValue:=fun k v h=>by
  rcases aE h with ⟨i,t,rfl,rfl⟩ | ⟨x,t,rfl,rfl⟩<;>rfl
 pyHash:=fun hv h=>by
  rcases aE hv with ⟨i,t,rfl,rfl⟩ | ⟨x,t,rfl,rfl⟩
  ·exact wpAny_pyHash_int h
  ·exact wpAny_pyHash_str h
 eqBool:=fun hu hv h=>by
  rcases aE hu with ⟨i,t,rfl,rfl⟩ | ⟨x,t,rfl,rfl⟩
  ·rcases aE hv with ⟨j,u,rfl,rfl⟩ | ⟨y,u,rfl,rfl⟩
   ·rw [zL] at h; exact wpAny_eqBool_int h
   ·rw [AU] at h; exact SeqAt.EqAt.int_str i t y u _ _ _ _ h
  ·rcases aE hv with ⟨j,u,rfl,rfl⟩ | ⟨y,u,rfl,rfl⟩
   ·rw [yR] at h; exact SeqAt.EqAt.str_int x t j u _ _ _ _ h
   ·rw [xH] at h; exact wpAny_eqBool_str h
 «strs»:=fun k x t v h=>by
  rcases aE h with ⟨i,u,rfl,e⟩ | ⟨y,u,rfl,e⟩
  ·exact nomatch e
  ·injection e with e1 _
   subst e1
   cases v<;>rfl
theorem jD (prog:Program)(w:World)(i:Int)(t:Tok):(aF prog w).is (.inl i) (.int i t)=true:=oa i t
theorem jO (prog:Program)(w:World)(x:Str)(t:Tok):(aF prog w).is (.inr x) (.str x t)=true:=nU x t
end L2
namespace L2
open PySem PySem.Spec PyProof.Rows
set_option genInjectivity true
inductive V where
 | non | bl (b:Bool) | int (i:Int) | str (x:Str) | byt (b:Array UInt8) | flt (b:UInt64) | ref (a:Addr) | ty (n:String)
 deriving DecidableEq
set_option genInjectivity false
noncomputable def RelV:V->Value->Prop
 | .non,u=>u=Value.none
 | .bl b,u=>u=Value.bool b
 | .int i,u=>∃ t,u=Value.int i t
 | .str x,u=>∃ t,u=Value.str x t
 | .byt b,u=>∃ t,u=Value.bytes b t
 | .flt b,u=>∃ t,u=Value.float b t
 | .ref a,u=>u=Value.ref a
 | .ty n,u=>u=Value.type n
noncomputable abbrev Vals:List V->List Value->Prop:=Paired RelV
theorem Vals.length {xs:List V}{us:List Value}(r:Vals xs us):xs.length=us.length:=Paired.length r
theorem Vals.get:∀ {xs:List V} {us:List Value} {i:Nat} {x:V},Vals xs us->xs[i]?=some x->∃ u,us[i]?=some u/\RelV x u
 | _,_,_,_,.nil,e=>by simp at e
 | _,_,0,_,.cons r _,e=>by simp at e; subst e; exact ⟨_,rfl,r⟩
 | _,_,i+1,x,.cons _ t,e=>by
  obtain ⟨u,h1,h2⟩:=Vals.get (i:=i) (x:=x) t (by simpa using e)
  exact ⟨u,by simpa using h1,h2⟩
theorem Vals.set {x:V}{u:Value}(r:RelV x u):∀ {xs:List V} {us:List Value} (i:Nat),Vals xs us->Vals (xs.set i x) (us.set i u)
 | _,_,_,.nil=>.nil
 | _,_,0,.cons _ t=>.cons r t
 | _,_,i+1,.cons q t=>.cons q (Vals.set r i t)
theorem Vals.append:∀ {xs ys:List V} {us ws:List Value},Vals xs us->Vals ys ws->Vals (xs++ys) (us++ws)
 | _,_,_,_,.nil,s=>s
 | _,_,_,_,.cons r t,s=>.cons r (Vals.append t s)
theorem Vals.take:∀ {xs:List V} {us:List Value} (n:Nat),Vals xs us->Vals (xs.take n) (us.take n)
 | _,_,0,_=>.nil
 | _,_,_+1,.nil=>.nil
 | _,_,n+1,.cons r t=>.cons r (Vals.take n t)
theorem Vals.drop:∀ {xs:List V} {us:List Value} (n:Nat),Vals xs us->Vals (xs.drop n) (us.drop n)
 | _,_,0,r=>r
 | _,_,_+1,.nil=>.nil
 | _,_,n+1,.cons _ t=>Vals.drop n t
noncomputable def RelO:Option V->Option Value->Prop
 | some v,some u=>RelV v u
 | none,none=>True
 | _,_=>False
noncomputable def KV {κ:Type}:List (κ×V)->List (κ×Value)->Prop:=Paired fun (p:κ×V) (q:κ×Value)=>p.1=q.1/\RelV p.2 q.2
noncomputable def kV:Key->V
 | .inl i=>.int i
 | .inr x=>.str x
inductive HO where
 | lst (xs:List V)
 | tup (xs:List V)
 | dK (kvs:List (Key×V)) | dT (kvs:List (List Key×V))
 | set (S:Int->Bool) (n:Nat)
 | ins (C dx:Addr) (fs:List (Str×V))
 | own (x:Addr)
 | xd (fs:List (Str×V))
 | met (f x:Addr)
 | rng (lo hi:Int)
 | frz (o:Obj) (u:HO)
 | tbl (ps:Array Value)
 | ext (φ:Heap->Prop)
noncomputable abbrev Hp:=Addr->Option HO
noncomputable def upd (H:Hp)(a:Addr)(o:HO):Hp:=fun b=>if b=a then some o else H b
theorem ag {H:Hp}{a:Addr}{o:HO}:upd H a o a=some o:=by unfold upd; rw [if_pos rfl]
theorem af {H:Hp}{a b:Addr}{o:HO}(h:b≠a):upd H a o b=H b:=by unfold upd; rw [if_neg h]
theorem aC {H:Hp}{a b:Addr}{o:HO}(h:H a=some o)(h':H b=none):a≠b:=by
 intro e; subst e; rw [h] at h'; cases h'
section
variable (P:Program)(w:World)
noncomputable def ObjOk (H:Hp)(h:Heap)(a:Addr):HO->Prop
 | .lst xs=>xs.length<=sizeLine/\∃ (its:List Value) (n:Nat),Vals xs its/\h.get? a=some { cls:=.type "list",data:=.seq its.toArray n }
 | .tup xs=>xs.length<=sizeLine/\∃ its:List Value,Vals xs its/\IsTup h a its.toArray
 | .dK kvs=>kvs.length<=sizeLine/\(a==sysModules)=false/\∃ vs,KV kvs vs/\h.DictOf (aF P w) a vs
 | .dT kvs=>kvs.length<=sizeLine/\(a==sysModules)=false/\∃ xs:List (List Key×Addr×Value),
   Paired (fun (p:List Key×V) (q:List Key×Addr×Value)=>p.1=q.1/\H q.2.1=some (.tup (p.1.map kV))/\RelV p.2 q.2.2) kvs xs /\
   ∃ o es ep,h.get? a=some o/\o.ExactDict/\o.data=.dict es ep/\es.toList=xs.map (entryOfKey (tupleKind (aF P w)))/\(xs.map (·.1)).Nodup
 | .set S n=>h.SetOf (intKind P w) a S n
 | .ins C dx fs=>H dx=some (.own a)/\fs.length<=1000/\dx≠a/\h.get? a=some (a2E C dx) /\
   ∃ mA,h.Ns1 dx mA/\(∀ f,RelO (fs.lookup f) (mA f))/\a3H mA (fs.map (·.1))
 | .own _=>∃ o,h.get? a=some o
 | .xd fs=>∃ mA,h.Ns1 a mA/\∀ f,RelO (fs.lookup f) (mA f)
 | .rng lo hi=>∃ t u v,h.get? a=some { cls:=.type "range",data:=.fields #[.int lo t,.int hi u,.int 1 v] }
 | .frz o u=>h.get? a=some o/\ObjOk H h a u
 | .tbl ps=>h.get? a=some { cls:=.none,data:=.fields ps }
 | .met f x=>h.get? a=some (a2t (.ref f) (.ref x))
 | .ext φ=>φ h/\(∃ o,h.get? a=some o)/\∀ h1 h2:Heap,φ h1->(∀ o,h1.get? a=some o->h2.get? a=some o)->φ h2
noncomputable def HOk (H:Hp)(h:Heap):Prop:=∀ a o,H a=some o->ObjOk P w H h a o
end
section
variable {P:Program}{w:World}{H H':Hp}{h h':Heap}{a:Addr}{o:HO}
theorem ObjOk.lt (x:ObjOk P w H h a o):a < h.objs.size:=by
 cases o with
 | lst xs=>obtain ⟨_,_,_,_,e⟩:=x; exact Heap.lt_size e
 | tup xs=>obtain ⟨_,_,_,p⟩:=x; exact p.lt
 | dK kvs=>obtain ⟨_,_,_,_,o,_,_,e,_⟩:=x; exact Heap.lt_size e
 | dT kvs=>obtain ⟨_,_,_,_,o,_,_,e,_⟩:=x; exact Heap.lt_size e
 | set S n=>obtain ⟨o,_,_,_,e,_⟩:=x; exact Heap.lt_size e
 | ins C dx fs=>obtain ⟨_,_,_,e,_⟩:=x; exact Heap.lt_size e
 | own y=>obtain ⟨_,e⟩:=x; exact Heap.lt_size e
 | xd fs=>obtain ⟨_,⟨_,_,_,e,_⟩,_⟩:=x; exact Heap.lt_size e
 | rng lo hi=>obtain ⟨_,_,_,e⟩:=x; exact Heap.lt_size e
 | frz ob u=>obtain ⟨e,_⟩:=x; exact Heap.lt_size e
 | tbl ps=>exact Heap.lt_size (show h.get? a=some _ from x)
 | met f y=>exact Heap.lt_size (show h.get? a=some _ from x)
 | ext φ=>obtain ⟨_,⟨_,e⟩,_⟩:=x; exact Heap.lt_size e
theorem Paired.mapP {α β:Type}{F G:α->β->Prop}:∀ {l₁:List α} {l₂:List β},Paired F l₁ l₂->(∀ a b,F a b->G a b)->Paired G l₁ l₂
 | _,_,.nil,_=>.nil
 | _,_,.cons r t,f=>.cons (f _ _ r) (Paired.mapP t f)
theorem ObjOk.stay (x:ObjOk P w H h a o)(k:∀ b u,(b=a\/H b=some (.own a))->h.get? b=some u->h'.get? b=some u)
  (ho:∀ b,H b=some (.own a)->H' b=some (.own a)) (ht:∀ b xs,H b=some (.tup xs)->H' b=some (.tup xs)):ObjOk P w H' h' a o:=by
 induction o with
 | lst xs=>obtain ⟨z,its,n,r,e⟩:=x; exact ⟨z,its,n,r,k _ _ (.inl rfl) e⟩
 | tup xs=>obtain ⟨z,its,r,ob,e,c⟩:=x; exact ⟨z,its,r,ob,k _ _ (.inl rfl) e,c⟩
 | dK kvs=>obtain ⟨z,y,vs,r,ob,es,ep,e,c⟩:=x; exact ⟨z,y,vs,r,ob,es,ep,k _ _ (.inl rfl) e,c⟩
 | dT kvs =>
  obtain ⟨z,y,xs,r,ob,es,ep,e,c⟩:=x
  exact ⟨z,y,xs,Paired.mapP r fun p q z=>⟨z.1,ht _ _ z.2.1,z.2.2⟩,ob,es,ep,k _ _ (.inl rfl) e,c⟩
 | set S n=>obtain ⟨ob,es,ep,t,e,c⟩:=x; exact ⟨ob,es,ep,t,k _ _ (.inl rfl) e,c⟩
 | ins C dx fs =>
  obtain ⟨d,z,ne,e,mA,⟨od,es,ep,e2,c⟩,r⟩:=x
  exact ⟨ho _ d,z,ne,k _ _ (.inl rfl) e,mA,⟨od,es,ep,k _ _ (.inr d) e2,c⟩,r⟩
 | own y=>obtain ⟨ob,e⟩:=x; exact ⟨ob,k _ _ (.inl rfl) e⟩
 | xd fs=>obtain ⟨mA,⟨od,es,ep,e,c⟩,r⟩:=x; exact ⟨mA,⟨od,es,ep,k _ _ (.inl rfl) e,c⟩,r⟩
 | rng lo hi=>obtain ⟨t,u,v,e⟩:=x; exact ⟨t,u,v,k _ _ (.inl rfl) e⟩
 | frz ob u ih=>obtain ⟨e,q⟩:=x; exact ⟨k _ _ (.inl rfl) e,ih q⟩
 | tbl ps =>
  have e:h.get? a=some { cls:=.none,data:=.fields ps }:=x
  show h'.get? a=some { cls:=.none,data:=.fields ps }
  exact k a _ (.inl rfl) e
 | met f y =>
  have e:h.get? a=some (a2t (.ref f) (.ref y)):=x
  show h'.get? a=some (a2t (.ref f) (.ref y))
  exact k a _ (.inl rfl) e
 | ext φ=>obtain ⟨p,⟨o,e⟩,st⟩:=x; exact ⟨st _ _ p fun o q=>k _ _ (.inl rfl) q,⟨o,k _ _ (.inl rfl) e⟩,st⟩
theorem HOk.lt (x:HOk P w H h)(e:H a=some o):a < h.objs.size:=(x a o e).lt
theorem HOk.fresh (x:HOk P w H h)(e:h.objs.size<=a):H a=none:=by
 cases q:H a with
 | none=>rfl
 | some u=>exact absurd (a0i (x.lt q) e) (a1s _)
theorem HOk.kept (x:HOk P w H h)(k:∀ b u,h.get? b=some u->h'.get? b=some u):HOk P w H h':=fun a o e =>
 (x a o e).stay (fun b u _ q=>k b u q) (fun _ q=>q) fun _ _ q=>q
theorem HOk.laid (x:HOk P w H h)(k:∀ b u,h.get? b=some u->h'.get? b=some u)(hp:h.objs.size<=a)(new:ObjOk P w (upd H a o) h' a o):HOk P w (upd H a o) h':=fun b u e=>by
 have hn:=x.fresh hp
 by_cases hb:b=a
 ·subst hb; rw [ag] at e; cases e; exact new
 ·rw [af hb] at e
  exact (x b u e).stay (fun c v _ q=>k c v q) (fun c q=>by rw [af (aC q hn)]; exact q) fun c xs q=>by rw [af (aC q hn)]; exact q
end
noncomputable def Rd (H:Hp)(a:Addr)(u:HO):Prop:=H a=some u\/∃ o,H a=some (.frz o u)
theorem Rd.ok {P:Program}{w:World}{H:Hp}{h:Heap}{a:Addr}{u:HO}(r:Rd H a u)(x:HOk P w H h):ObjOk P w H h a u:=by
 rcases r with r | ⟨o,r⟩
 ·exact x a u r
 ·obtain ⟨_,q⟩:=x a _ r
  exact q
noncomputable def Mut:Option HO->Prop
 | some (.lst _)=>True
 | some (.dK _)=>True
 | some (.dT _)=>True
 | some (.set _ _)=>True
 | some (.ins _ _ _)=>True
 | some (.ext _)=>True
 | _=>False
section
variable {P:Program}{w:World}{H:Hp}{h h':Heap}{x e:Addr}{o':HO}
theorem HOk.write (ok:HOk P w H h)(mu:Mut (H x))(he:e=x\/H e=some (.own x))(k:∀ b u,b≠e->h.get? b=some u->h'.get? b=some u)(heo:∃ u,h'.get? e=some u)
  (new:ObjOk P w (upd H x o') h' x o'):HOk P w (upd H x o') h':=fun b u q=>by
 have nown:∀ c y,H c=some (.own y)->c≠x:=fun c y r z=>by subst z; rw [r] at mu; exact mu
 have ntup:∀ c xs,H c=some (.tup xs)->c≠x:=fun c xs r z=>by subst z; rw [r] at mu; exact mu
 by_cases hb:b=x
 ·subst hb; rw [ag] at q; cases q; exact new
 ·rw [af hb] at q
  by_cases hbe:b=e
  ·have q':H b=some (.own x):=by
    rcases he with z | z
    ·exact absurd (hbe.trans z) hb
    ·rw [hbe]; exact z
   rw [q] at q'; cases q'
   obtain ⟨v,hv⟩:=heo
   exact ⟨v,by rw [hbe]; exact hv⟩
  ·refine (ok b u q).stay (fun c v hc r=>k c v ?_ r) (fun c r=>by rw [af (nown c b r)]; exact r) fun c xs r=>by rw [af (ntup c xs r)]; exact r
   rcases hc with rfl | hc
   ·exact hbe
   ·rintro rfl
    rcases he with z | z
    ·exact nown c b hc z
    ·rw [hc] at z; cases z; exact hb rfl
end
structure Un (fs ex:List Addr)(H H':Hp)(h h':Heap):Prop where
 keep:∀ b o,h.get? b=some o->H b=none->b ∉ fs->b ∉ ex->h'.get? b=some o
 slot:∀ b o,h.get? b=some o->H b=none->b∈fs->b ∉ ex->∃ sl,h'.get? b=some { o with slots:=sl }
 free:∀ b o,h.get? b=some o->H b=none->b ∉ ex->H' b=none
 there:∀ b o,h.get? b=some o->b ∉ ex->∃ o',h'.get? b=some o'
 tups:∀ b xs,H b=some (.tup xs)->H' b=some (.tup xs)
 frzs:∀ b o u,H b=some (.frz o u)->H' b=some (.frz o u)
 tbls:∀ b ps,H b=some (.tbl ps)->∃ more,H' b=some (.tbl (ps++more))
section
variable {fs fs' ex ex':List Addr}{H H1 H2:Hp}{h h1 h2 h':Heap}{a x e:Addr}{o:HO}
theorem Un.any (u:Un fs ex H H1 h h1){b:Addr}{ob:Obj}(q:h.get? b=some ob)(n:H b=none)(hx:b ∉ ex):∃ sl,h1.get? b=some { ob with slots:=sl }:=by
 by_cases hb:b∈fs
 ·exact u.slot b ob q n hb hx
 ·exact ⟨ob.slots,u.keep b ob q n hb hx⟩
theorem Un.kept (k:∀ b u,h.get? b=some u->h'.get? b=some u):Un fs ex H H h h' :=
 ⟨fun b ob q _ _ _=>k b ob q,fun b ob q _ _ _=>⟨ob.slots,k b ob q⟩,fun _ _ _ n _=>n,fun b ob q _=>⟨ob,k b ob q⟩,fun _ _ q=>q,fun _ _ _ q=>q,fun _ ps q=>⟨#[],by rw [q]; simp⟩⟩
theorem Un.refl:Un fs ex H H h h:=Un.kept fun _ _ q=>q
theorem Un.laid (k:∀ b u,h.get? b=some u->h'.get? b=some u)(hp:h.objs.size<=a)(hn:H a=none):Un fs ex H (upd H a o) h h' where
 keep:=fun b u q _ _ _=>k b u q
 slot:=fun b u q _ _ _=>⟨u.slots,k b u q⟩
 free:=fun b u q n _=>by rw [af (a0v (a0i (Heap.lt_size q) hp))]; exact n
 there:=fun b u q _=>⟨u,k b u q⟩
 tups:=fun b xs q=>by rw [af (aC q hn)]; exact q
 frzs:=fun b u xs q=>by rw [af (aC q hn)]; exact q
 tbls:=fun b ps q=>⟨#[],by rw [af (aC q hn),q]; simp⟩
theorem Un.write (mu:Mut (H x))(he:e=x\/H e=some (.own x))(k:∀ b u,b≠e->h.get? b=some u->h'.get? b=some u)(heo:∃ u,h'.get? e=some u):Un fs ex H (upd H x o) h h':=by
 have hx:∀ b,H b=none->b≠x:=fun b n z=>by subst z; rw [n] at mu; exact mu
 have hb:∀ b,H b=none->b≠e:=fun b n z=>by
  subst z
  rcases he with r | r
  ·exact hx b n r
  ·rw [n] at r; cases r
 have hm:∀ b u,H b=some u->¬ Mut (some u)->b≠x:=fun b u q nm z=>by subst z; rw [q] at mu; exact nm mu
 refine ⟨fun b u q n _ _=>k b u (hb b n) q,fun b u q n _ _=>⟨u.slots,k b u (hb b n) q⟩,fun b u q n _=>by rw [af (hx b n)]; exact n,fun b u q _=>?_,
  fun b xs q=>by rw [af (hm b _ q fun z=>z)]; exact q,fun b u xs q=>by rw [af (hm b _ q fun z=>z)]; exact q,fun b ps q=>⟨#[],by rw [af (hm b _ q fun z=>z),q]; simp⟩⟩
 by_cases hbe:b=e
 ·subst hbe; exact heo
 ·exact ⟨u,k b u hbe q⟩
end
noncomputable def trk (h:Heap)(H:Hp):List Addr:=(a0F h.objs.size).filter fun a=>(H a).isSome
noncomputable def iK (h:Heap)(H:Hp):Heap:=PySem.W.hideAll h (trk h H)
theorem mK (h:Heap)(H:Hp):(iK h H).objs.size=h.objs.size:=PySem.W.hideAll_size _ _
theorem pM {h:Heap}{H:Hp}{b:Addr}{o:Obj}(e:h.get? b=some o)(n:H b=none):(iK h H).get? b=some o :=
 PySem.W.hideAll_get _ e fun hm=>by
  have q:(H b).isSome=true:=(a3l.mp hm).2
  rw [n] at q; simp at q
theorem sU {h:Heap}{H:Hp}{b:Addr}{o:Obj}(e:(iK h H).get? b=some o):h.get? b=some o/\H b=none:=by
 have e':h.get? b=some o:=PySem.W.of_hideAll (trk h H) e
 refine ⟨e',?_⟩
 cases q:H b with
 | none=>rfl
 | some x =>
  have hm:b∈trk h H:=a3l.mpr ⟨List.mem_range.mpr (Heap.lt_size e'),by simp [q]⟩
  have z:(iK h H).get? b=none:=PySem.W.hideAll_none (trk h H) hm
  rw [z] at e; cases e
noncomputable def vL (g h:Heap)(L:Addr):List (Addr×Obj):=(a0F h.objs.size).filterMap fun a=>if a=L\/(g.get? a).isSome=true then none else (h.get? a).map fun o=>(a,o)
noncomputable def rest (g h:Heap)(L d:Addr):List (Addr×Obj):=(vL g h L).filter fun p=>decide (p.1≠d)
end L2
namespace L2
open PySem PySem.Spec PyProof.Rows
structure Mod (K:a0a)(mg:Str->Option Value)(base:Heap):Prop where
 kin:K.In base
 glob:base.Ns mainGlobals mg
 blt:∃ mb,base.Ns builtinsNs mb/\∀ x:Str,x≠"__name__"->mb x=bootBuiltins x
 nolimit:base.NoLimit
structure Cx where
 prog:Program
 w:World
 K:a0a
 mg:Str->Option Value
 base:Heap
 A:Around
 N:List Str
 s₀:Shared
 H₀:Hp
 env:Env
 outer:List Env
 stack:List Env
 ex:List Addr
 fn:Str->Bool
 calm:Bool
 pn:List (Addr×Obj)
 xe:Value->Shared->Prop
noncomputable def frs (l:List Env):List Addr:=l.filterMap (·.frame)
noncomputable abbrev Cx.fs (X:Cx):List Addr:=frs X.outer
noncomputable def Vis (sc:Scope)(x:Str):Prop:=sc.names.lookup x=some .local\/sc.names.lookup x=some .cell\/sc.names.lookup x=some .free
noncomputable def Loc (sc:Scope)(x:Str):Prop:=sc.names.lookup x=some .local\/sc.names.lookup x=some .cell
noncomputable def E8 (env:Env)(h:Heap)(m:Str->Option Value)(x:Str)(u:Value):Prop :=
 (env.kindOf x=some .local/\m x=some u)\/((env.kindOf x=some .cell\/env.kindOf x=some .free)/\∃ c,env.cells.lookup x=some c/\h.IsCell c (some u))
structure Cx.Ok (X:Cx):Prop where
 mod:Mod X.K X.mg X.base
 kind:X.env.scope.kind=.function
 glob:X.env.globals=mainGlobals
 blt:X.env.builtins=builtinsNs
 above:X.s₀.heap.objs.size<=X.env.locals
 inj:∀ x y c,X.env.cells.lookup x=some c->X.env.cells.lookup y=some c->x=y
 has:∀ x,(X.env.kindOf x=some .cell\/X.env.kindOf x=some .free)->∃ c,X.env.cells.lookup x=some c
 cab:∀ x c,X.fn x=true->X.env.cells.lookup x=some c->X.s₀.heap.objs.size<=c
 hd:X.calm=true->X.A.handled=none
 frames:X.A.frames=some X.stack
 stk:X.stack=X.outer\/(X.stack=X.env::X.outer/\X.env.frame=some X.env.locals)
 exf:∀ b∈X.ex,b≠X.env.locals/\∀ x c,X.env.cells.lookup x=some c->c≠b
 bs:∀ b o,X.base.get? b=some o->X.s₀.heap.get? b=some o/\X.H₀ b=none
 bsz:X.base.objs.size<=X.s₀.heap.objs.size
 noex:∀ b o,X.base.get? b=some o->b ∉ X.ex
 exfs:∀ b∈X.ex,b ∉ X.fs
 funs:X.s₀.heap.FunFrames X.base X.outer
 frf:∀ b∈X.fs,X.H₀ b=none
structure Inv (X:Cx)(pins:List (Addr×Obj))(σ:List (Option V))(H:Hp)(s:Shared):Prop where
 ok:X.Ok
 os:s.os=X.s₀.os
 bare:AllBare s.gens
 base:Un X.fs X.ex X.H₀ H X.s₀.heap s.heap
 loc:∃ m,s.heap.Ns X.env.locals m/\∀ (i:Nat) (x:Str) (v:V),X.N[i]?=some x->σ[i]?=some (some v)->Vis X.env.scope x->∃ u,RelV v u/\E8 X.env s.heap m x u
 cell:∀ x c,X.env.cells.lookup x=some c->∃ v,s.heap.IsCell c v
 free:H X.env.locals=none
 freeC:∀ x c,X.env.cells.lookup x=some c->H c=none
 pin:∀ p∈X.pn++pins,s.heap.get? p.1=some p.2/\H p.1=none/\p.1≠X.env.locals/\p.1 ∉ X.fs/\∀ v,p.2.data≠.cell v
 hok:HOk X.prog X.w H s.heap
 len:σ.length=X.N.length
section
variable {X:Cx}{pins:List (Addr×Obj)}{σ:List (Option V)}{H H':Hp}{s:Shared}{h':Heap}
theorem Cx.Ok.nofr (ok:X.Ok){b:Addr}{o:Obj}(e:X.base.get? b=some o):b ∉ X.fs:=fun hb=>by
 have:=(ok.funs.mem hb).1
 rw [e] at this; cases this
theorem Inv.bs (I:Inv X pins σ H s):∀ b o,X.base.get? b=some o->s.heap.get? b=some o/\H b=none:=fun b o e =>
 ⟨I.base.keep b o (I.ok.bs b o e).1 (I.ok.bs b o e).2 (I.ok.nofr e) (I.ok.noex b o e),I.base.free b o (I.ok.bs b o e).1 (I.ok.bs b o e).2 (I.ok.noex b o e)⟩
theorem Inv.bk (I:Inv X pins σ H s):∀ b o,X.base.get? b=some o->s.heap.get? b=some o:=fun b o e=>(I.bs b o e).1
theorem Inv.mod (I:Inv X pins σ H s):Mod X.K X.mg X.base:=I.ok.mod
theorem Inv.kIn (I:Inv X pins σ H s):X.K.In s.heap:=I.ok.mod.kin.keeps I.bk
theorem Inv.fr (I:Inv X pins σ H s):∃ m,Fr X.base X.env.locals s.heap m :=
 let ⟨m,hn,_⟩:=I.loc
 ⟨m,hn,I.bk,a0s I.ok.bsz I.ok.above⟩
theorem Inv.lt (I:Inv X pins σ H s):X.env.locals < s.heap.objs.size:=let ⟨_,hn,_⟩:=I.loc; hn.lt
theorem Inv.sz (I:Inv X pins σ H s):X.s₀.heap.objs.size<=s.heap.objs.size:=a0s I.ok.above (a2F I.lt)
theorem Inv.nofs (I:Inv X pins σ H s){a:Addr}(h:s.heap.objs.size<=a):a ∉ X.fs:=fun hb=>by
 obtain ⟨_,o,ho,_⟩:=I.ok.funs.mem hb
 exact absurd (a0i (Heap.lt_size ho) (a0s I.sz h)) (a1s _)
theorem Inv.cne (I:Inv X pins σ H s):∀ x c,X.env.cells.lookup x=some c->c≠X.env.locals:=fun x c e z=>by
 obtain ⟨v,o,ho,hd⟩:=I.cell x c e
 obtain ⟨m,⟨o',es,ep,ho',hd',_⟩,_⟩:=I.loc
 rw [z,ho'] at ho; cases ho; rw [hd'] at hd; cases hd
theorem Inv.funs (I:Inv X pins σ H s):s.heap.FunFrames X.base X.outer:=by
 have all:∀ (l:List Env),(∀ b∈frs l,b∈X.fs)->X.s₀.heap.FunFrames X.base l->s.heap.FunFrames X.base l:=by
  intro l
  induction l with
  | nil=>intro _ _; trivial
  | cons env r ih =>
   intro hs hl
   obtain ⟨hk,⟨L,o,hf,hn,ho,hd⟩,hr⟩:=hl
   have hL:L∈X.fs:=hs L (by unfold frs; rw [a01,hf]; exact a0k)
   obtain ⟨sl,e⟩:=I.base.slot L o ho (I.ok.frf L hL) hL fun z=>I.ok.exfs L z hL
   exact ⟨hk,⟨L,_,hf,hn,e,hd⟩,ih (fun b hb=>hs b (by unfold frs; rw [a01,hf]; exact a0f _ hb)) hr⟩
 exact all X.outer (fun _ hb=>hb) I.ok.funs
theorem Inv.stack (I:Inv X pins σ H s):s.heap.FunFrames X.base X.stack:=by
 rcases I.ok.stk with e | ⟨e,hf⟩
 ·rw [e]; exact I.funs
 ·rw [e]
  obtain ⟨m,hn,_⟩:=I.loc
  refine .cons (by rw [I.ok.kind]; decide) hf hn ?_ I.funs
  exact Heap.get?_none_of_le (a0s I.ok.bsz I.ok.above)
theorem Inv.stkSub (I:Inv X pins σ H s):∀ b∈frs X.stack,b∈X.env.locals::X.fs:=fun b hb=>by
 rcases I.ok.stk with e | ⟨e,hf⟩
 ·rw [e] at hb; exact a0f _ hb
 ·rw [e] at hb
  unfold frs at hb
  rw [a01,hf] at hb
  exact hb
theorem Inv.stkFree (I:Inv X pins σ H s):∀ b∈frs X.stack,H b=none:=fun b hb=>by
 rcases a0m.mp (I.stkSub b hb) with e | hb
 ·rw [e]; exact I.free
 ·obtain ⟨_,o,ho,_⟩:=I.ok.funs.mem hb
  exact I.base.free b o ho (I.ok.frf b hb) fun z=>I.ok.exfs b z hb
theorem Inv.step {g':Array GenState}{t':Nat}{d':Drawn}{ch:List Addr}(I:Inv X pins σ H s)
  (hch:∀ b∈ch,(b∈X.ex\/X.s₀.heap.objs.size<=b)/\b≠X.env.locals/\(∀ x c,X.env.cells.lookup x=some c->c≠b)/\∀ p∈X.pn++pins,p.1≠b)
  (keep:∀ b o,b≠X.env.locals->b ∉ X.fs->b ∉ ch->s.heap.get? b=some o->H b=none->h'.get? b=some o)
  (slot:∀ b o,b≠X.env.locals->b∈X.fs->b ∉ ch->s.heap.get? b=some o->H b=none->∃ sl,h'.get? b=some { o with slots:=sl }) (free:∀ b o,b ∉ ch->s.heap.get? b=some o->H b=none->H' b=none)
  (there:∀ b o,b ∉ ch->s.heap.get? b=some o->∃ o',h'.get? b=some o')
  (tups:∀ b xs,H b=some (.tup xs)->H' b=some (.tup xs)) (frzs:∀ b o u,H b=some (.frz o u)->H' b=some (.frz o u)) (tbls:∀ b ps,H b=some (.tbl ps)->∃ more,H' b=some (.tbl (ps++more)))
  (ns:∀ m,s.heap.Ns X.env.locals m->h'.Ns X.env.locals m) (hok:HOk X.prog X.w H' h') (hg:AllBare g') :
  Inv X pins σ H' { s with heap:=h',gens:=g',drawn:=d',toks:=t' }:=by
 have neL:∀ b o,X.s₀.heap.get? b=some o->b≠X.env.locals:=fun b o e=>a0v (a0i (Heap.lt_size e) I.ok.above)
 have neC:∀ b o,X.s₀.heap.get? b=some o->b ∉ X.ex->b ∉ ch:=fun b o e hx hb=>by
  rcases (hch b hb).1 with z | z
  ·exact hx z
  ·exact absurd (a0i (Heap.lt_size e) z) (a1s _)
 have cellK:∀ x c,X.env.cells.lookup x=some c->∀ v,s.heap.IsCell c v->h'.IsCell c v:=fun x c e v ⟨o,ho,hd⟩=>by
  have nch:c ∉ ch:=fun z=>(hch c z).2.2.1 x c e rfl
  by_cases hc:c∈X.fs
  ·obtain ⟨sl,q⟩:=slot c o (I.cne x c e) hc nch ho (I.freeC x c e)
   exact ⟨_,q,hd⟩
  ·exact ⟨o,keep c o (I.cne x c e) hc nch ho (I.freeC x c e),hd⟩
 refine ⟨I.ok,I.os,hg,⟨fun b o e n hb hx=>?_,fun b o e n hb hx=>?_,fun b o e n hx=>?_,fun b o e hx=>?_,fun b xs e=>tups b xs (I.base.tups b xs e),fun b o xs e=>frzs b o xs (I.base.frzs b o xs e),fun b ps e=>?_⟩,?_,fun x c e=>?_,?_,fun x c e=>?_,fun p hp=>?_,hok,I.len⟩
 ·exact keep b o (neL b o e) hb (neC b o e hx) (I.base.keep b o e n hb hx) (I.base.free b o e n hx)
 ·obtain ⟨sl,e1⟩:=I.base.slot b o e n hb hx
  obtain ⟨sl',e2⟩:=slot b _ (neL b o e) hb (neC b o e hx) e1 (I.base.free b o e n hx)
  exact ⟨sl',e2⟩
 ·obtain ⟨o',e1⟩:=I.base.there b o e hx
  exact free b o' (neC b o e hx) e1 (I.base.free b o e n hx)
 ·obtain ⟨o',e1⟩:=I.base.there b o e hx
  exact there b o' (neC b o e hx) e1
 ·obtain ⟨m1,e1⟩:=I.base.tbls b ps e
  obtain ⟨m2,e2⟩:=tbls b _ e1
  exact ⟨m1++m2,by rw [e2,Array.append_assoc]⟩
 ·obtain ⟨m,hn,hl⟩:=I.loc
  refine ⟨m,ns m hn,fun i x v e1 e2 e3=>?_⟩
  obtain ⟨u,r,l⟩:=hl i x v e1 e2 e3
  refine ⟨u,r,?_⟩
  rcases l with l | ⟨k,c,e,z⟩
  ·exact .inl l
  ·exact .inr ⟨k,c,e,cellK x c e _ z⟩
 ·obtain ⟨v,z⟩:=I.cell x c e
  exact ⟨v,cellK x c e v z⟩
 ·obtain ⟨m,⟨o,_,_,ho,_⟩,_⟩:=I.loc
  exact free _ o (fun z=>(hch _ z).2.1 rfl) ho I.free
 ·obtain ⟨v,o,ho,hd⟩:=I.cell x c e
  exact free c o (fun z=>(hch c z).2.2.1 x c e rfl) ho (I.freeC x c e)
 ·obtain ⟨e,n,ne,nf,d⟩:=I.pin p hp
  have nch:p.1 ∉ ch:=fun z=>(hch p.1 z).2.2.2 p hp rfl
  exact ⟨keep p.1 p.2 ne nf nch e n,free p.1 p.2 nch e n,ne,nf,d⟩
theorem Inv.un {t':Nat}(I:Inv X pins σ H s)(u:Un X.fs [] H H' s.heap h')(hok:HOk X.prog X.w H' h'):Inv X pins σ H' { s with heap:=h',toks:=t' }:=by
 obtain ⟨m,⟨o,es,ep,ho,r⟩,_⟩:=id I.loc
 obtain ⟨sl,hL⟩:=u.any ho I.free (by simp)
 exact I.step (g':=s.gens) (d':=s.drawn) (ch:=[]) (fun _ z=>nomatch z) (fun b o _ hb _ e n=>u.keep b o e n hb (by simp)) (fun b o _ hb _ e n=>u.slot b o e n hb (by simp)) (fun b o _ e n=>u.free b o e n (by simp)) (fun b o _ e=>u.there b o e (by simp)) u.tups u.frzs u.tbls (fun m' hm=>by
  obtain ⟨o',es',ep',ho',r'⟩:=hm
  rw [ho] at ho'; cases ho'
  exact ⟨_,es',ep',hL,r'⟩) hok I.bare
theorem Inv.call {g':Array GenState}{t':Nat}{d':Drawn}{ch:List Addr}(I:Inv X pins σ H s)(u:Un (frs X.stack) ch H H' s.heap h')(hok:HOk X.prog X.w H' h')(hg:AllBare g')
  (hch:∀ b∈ch,(b∈X.ex\/X.s₀.heap.objs.size<=b)/\b≠X.env.locals/\(∀ x c,X.env.cells.lookup x=some c->c≠b)/\∀ p∈X.pn++pins,p.1≠b) :
  Inv X pins σ H' { s with heap:=h',gens:=g',drawn:=d',toks:=t' }:=by
 obtain ⟨m,⟨o,es,ep,ho,r⟩,_⟩:=id I.loc
 obtain ⟨sl,hL⟩:=u.any ho I.free fun z=>(hch _ z).2.1 rfl
 exact I.step (ch:=ch) hch (fun b o hL hb hc e n=>u.keep b o e n (fun z=>(a0m.mp (I.stkSub b z)).elim hL hb) hc) (fun b o _ _ hc e n=>u.any e n hc) (fun b o hc e n=>u.free b o e n hc) (fun b o hc e=>u.there b o e hc) u.tups u.frzs u.tbls (fun m' hm=>by
  obtain ⟨o',es',ep',ho',r'⟩:=hm
  rw [ho] at ho'; cases ho'
  exact ⟨_,es',ep',hL,r'⟩) hok hg
theorem Inv.turned {t':Nat}{it:Addr}(I:Inv X pins σ H s)(k:∀ b o,b≠it->s.heap.get? b=some o->h'.get? b=some o)(hn:H it=none)(hL:it≠X.env.locals)
  (h1:it∈X.ex\/X.s₀.heap.objs.size<=it) (h2:∀ x c,X.env.cells.lookup x=some c->c≠it) (h3:∀ p∈X.pn++pins,p.1≠it):Inv X pins σ H { s with heap:=h',toks:=t' }:=by
 have nit:∀ b u,H b=some u->b≠it:=fun b u e z=>by rw [z,hn] at e; cases e
 refine I.step (g':=s.gens) (d':=s.drawn) (ch:=[it]) (fun b hb=>?_) (fun b o _ _ hc e _=>k b o (fun z=>hc (by simp [z])) e) (fun b o _ _ hc e _=>⟨o.slots,k b o (fun z=>hc (by simp [z])) e⟩) (fun _ _ _ _ n=>n)
  (fun b o hc e=>⟨o,k b o (fun z=>hc (by simp [z])) e⟩) (fun _ _ e=>e) (fun _ _ _ e=>e) (fun b ps e=>⟨#[],by rw [e]; simp⟩) (fun m hm=>?_) (fun b u e=>?_) I.bare
 ·have e:b=it:=by simpa using hb
  subst e
  exact ⟨h1,hL,h2,h3⟩
 ·obtain ⟨o,es,ep,ho,r⟩:=hm
  exact ⟨o,es,ep,k _ o (a07 hL) ho,r⟩
 ·refine (I.hok b u e).stay (fun c v hc q=>k c v ?_ q) (fun _ q=>q) fun _ _ q=>q
  rcases hc with z | z
  ·rw [z]; exact nit b u e
  ·exact nit c _ z
theorem Inv.tok (I:Inv X pins σ H s)(t:Nat):Inv X pins σ H { s with toks:=t }:=I.un (h':=s.heap) (t':=t) Un.refl I.hok
theorem Inv.kept {t':Nat}(I:Inv X pins σ H s)(k:∀ b u,s.heap.get? b=some u->h'.get? b=some u):Inv X pins σ H { s with heap:=h',toks:=t' }:=I.un (Un.kept k) (I.hok.kept k)
theorem Inv.laid {a:Addr}{o:HO}{t':Nat}(I:Inv X pins σ H s)(k:∀ b u,s.heap.get? b=some u->h'.get? b=some u)(hp:s.heap.objs.size<=a)(new:ObjOk X.prog X.w (upd H a o) h' a o) :
  Inv X pins σ (upd H a o) { s with heap:=h',toks:=t' }:=I.un (Un.laid k hp (I.hok.fresh hp)) (I.hok.laid k hp new)
theorem Inv.write {x e:Addr}{o:HO}{t':Nat}(I:Inv X pins σ H s)(mu:Mut (H x))(he:e=x\/H e=some (.own x))(k:∀ b u,b≠e->s.heap.get? b=some u->h'.get? b=some u)(heo:∃ u,h'.get? e=some u)
  (new:ObjOk X.prog X.w (upd H x o) h' x o):Inv X pins σ (upd H x o) { s with heap:=h',toks:=t' }:=I.un (Un.write mu he k heo) (I.hok.write mu he k heo new)
theorem Inv.weak {σ':List (Option V)}(I:Inv X pins σ H s)(hl:σ'.length=σ.length)(w:∀ (i:Nat) v,σ'[i]?=some (some v)->σ[i]?=some (some v)):Inv X pins σ' H s :=
 ⟨I.ok,I.os,I.bare,I.base,let ⟨m,hn,hl'⟩:=I.loc; ⟨m,hn,fun i x v e1 e2 e3=>hl' i x v e1 (w i v e2) e3⟩,I.cell,I.free,I.freeC,I.pin,I.hok,hl.trans I.len⟩
theorem Inv.pins_of {pins':List (Addr×Obj)}(I:Inv X pins σ H s)(h:∀ p∈pins',s.heap.get? p.1=some p.2/\H p.1=none/\p.1≠X.env.locals/\p.1 ∉ X.fs/\∀ v,p.2.data≠.cell v):Inv X pins' σ H s :=
 ⟨I.ok,I.os,I.bare,I.base,I.loc,I.cell,I.free,I.freeC,fun p hp=>(a0P.mp hp).elim (fun z=>I.pin p (a0K _ z)) (h p),I.hok,I.len⟩
theorem gc {N:List Str}(hN:N.Nodup){i j:Nat}{x:Str}(a:N[i]?=some x)(b:N[j]?=some x):i=j:=by
 obtain ⟨h1,e1⟩:=a0q.mp a
 obtain ⟨h2,e2⟩:=a0q.mp b
 exact (List.getElem_inj hN).mp (e1.trans e2.symm)
theorem gL {M:Model}{A:Around}{E:Value->Shared->Prop}{i:Nat}{x:Str}{v:V}{u:Value}{Q:Unit->Shared->Prop}(I:Inv X pins σ H s)(hN:X.N.Nodup)(hi:X.N[i]?=some x)(hx:Loc X.env.scope x)(r:RelV v u)
  (h:∀ s',Inv X pins (σ.set i (some v)) H s'->(∃ a,Heap.SameBut a s.heap s'.heap/\(a=X.env.locals\/X.env.cells.lookup x=some a))->Q () s') (hf:X.fn x=true\/X.env.scope.names.lookup x=some .local:=by first | exact .inl rfl | exact .inr rfl | assumption):wpAny M A (storeName X.env x u) Q E s:=by
 obtain ⟨m,hn,hl⟩:=id I.loc
 have hcls:(X.env.scope.kind==.class || (X.env.scope.kind==.module&&X.env.locals != X.env.globals))=false:=by rw [I.ok.kind]; rfl
 have hiσ:i < σ.length:=by rw [I.len]; exact (a0q.mp hi).1
 have cne:=I.cne
 have tracked:∀ {a:Addr} {h':Heap},(∃ o,s.heap.get? a=some o/\H a=none)->Heap.SameBut a s.heap h'->HOk X.prog X.w H h':=fun {a h'} ha hs b ob e=>by
  obtain ⟨_,_,hfree⟩:=ha
  refine (I.hok b ob e).stay (fun c w' hc q=>(hs.2 c ?_).trans q) (fun _ q=>q) fun _ _ q=>q
  rintro rfl
  rcases hc with rfl | hc
  ·rw [hfree] at e; cases e
  ·rw [hfree] at hc; cases hc
 rcases hx with hk | hk
 ·refine wpAny_storeName_local hk hn (fun h' hn' hs=>?_) hcls
  obtain ⟨oL,_,_,hoL,_⟩:=id hn
  refine h _ ⟨I.ok,I.os,I.bare,⟨fun b o e n hb hx=>?_,fun b o e n hb hx=>?_,I.base.free,fun b o e hx=>?_,I.base.tups,I.base.frzs,I.base.tbls⟩,⟨_,hn',fun j y v' e1 e2 e3=>?_⟩,fun y c e=>?_,I.free,I.freeC,fun p hp=>?_,tracked ⟨oL,hoL,I.free⟩ hs,by simpa using I.len⟩ ⟨_,hs,.inl rfl⟩
  ·exact (hs.2 b (a0v (a0i (Heap.lt_size e) I.ok.above))).trans (I.base.keep b o e n hb hx)
  ·obtain ⟨sl,e1⟩:=I.base.slot b o e n hb hx
   exact ⟨sl,(hs.2 b (a0v (a0i (Heap.lt_size e) I.ok.above))).trans e1⟩
  ·obtain ⟨o',e1⟩:=I.base.there b o e hx
   exact ⟨o',(hs.2 b (a0v (a0i (Heap.lt_size e) I.ok.above))).trans e1⟩
  ·by_cases hj:j=i
   ·subst hj
    rw [hi] at e1; cases e1
    rw [a00 hiσ] at e2
    cases e2
    exact ⟨u,r,.inl ⟨hk,by simp⟩⟩
   ·rw [a0V (a07 hj)] at e2
    obtain ⟨u',r',q⟩:=hl j y v' e1 e2 e3
    refine ⟨u',r',?_⟩
    rcases q with ⟨k,e⟩ | ⟨k,c,e,z⟩
    ·refine .inl ⟨k,?_⟩
     have:y≠x:=fun e=>hj (gc hN e1 (e ▸ hi))
     simp [this,e]
    ·exact .inr ⟨k,c,e,z.sameBut hs (cne y c e)⟩
  ·obtain ⟨w',z⟩:=I.cell y c e
   exact ⟨w',z.sameBut hs (cne y c e)⟩
  ·obtain ⟨e,n,ne,nf,d⟩:=I.pin p hp
   exact ⟨(hs.2 p.1 ne).trans e,n,ne,nf,d⟩
 ·have hfn:X.fn x=true:=by
   rcases hf with z | z
   ·exact z
   ·rw [z] at hk; cases hk
  obtain ⟨c,hc⟩:=I.ok.has x (.inl hk)
  obtain ⟨w',z⟩:=I.cell x c hc
  refine wpAny_storeName_cell I.ok.kind hk hc z (fun h' hc' hs=>?_)
  obtain ⟨oc,hoc,hocd⟩:=id z
  refine h { s with heap:=h' } ⟨I.ok,I.os,I.bare,⟨fun b o e n hb hx=>?_,fun b o e n hb hx=>?_,I.base.free,fun b o e hx=>?_,I.base.tups,I.base.frzs,I.base.tbls⟩,⟨m,hn.sameBut hs (a07 (cne x c hc)),fun j y v' e1 e2 e3=>?_⟩,fun y c' e=>?_,I.free,I.freeC,fun p hp=>?_,tracked ⟨oc,hoc,I.freeC x c hc⟩ hs,by simpa using I.len⟩ ⟨c,hs,.inr hc⟩
  ·exact (hs.2 b (a0v (a0i (Heap.lt_size e) (I.ok.cab x c hfn hc)))).trans (I.base.keep b o e n hb hx)
  ·obtain ⟨sl,e1⟩:=I.base.slot b o e n hb hx
   exact ⟨sl,(hs.2 b (a0v (a0i (Heap.lt_size e) (I.ok.cab x c hfn hc)))).trans e1⟩
  ·obtain ⟨o',e1⟩:=I.base.there b o e hx
   exact ⟨o',(hs.2 b (a0v (a0i (Heap.lt_size e) (I.ok.cab x c hfn hc)))).trans e1⟩
  ·by_cases hj:j=i
   ·subst hj
    rw [hi] at e1; cases e1
    rw [a00 hiσ] at e2
    cases e2
    exact ⟨u,r,.inr ⟨.inl hk,c,hc,hc'⟩⟩
   ·rw [a0V (a07 hj)] at e2
    obtain ⟨u',r',q⟩:=hl j y v' e1 e2 e3
    refine ⟨u',r',?_⟩
    rcases q with q | ⟨k,c',e,z'⟩
    ·exact .inl q
    ·refine .inr ⟨k,c',e,z'.sameBut hs ?_⟩
     rintro rfl
     exact hj (gc hN e1 (I.ok.inj _ _ _ e hc ▸ hi))
  ·by_cases hcc:c'=c
   ·subst hcc; exact ⟨_,hc'⟩
   ·obtain ⟨w2,z2⟩:=I.cell y c' e
    exact ⟨w2,z2.sameBut hs hcc⟩
  ·obtain ⟨e,n,ne,nf,d⟩:=I.pin p hp
   refine ⟨(hs.2 p.1 ?_).trans e,n,ne,nf,d⟩
   intro q
   rw [q,hoc] at e
   have q':oc=p.2:=a0u e
   exact d w' (by rw [<- q']; exact hocd)
theorem d7 {M:Model}{A:Around}{E:Value->Shared->Prop}{i:Nat}{x:Str}{v:V}{u:Value}{Q:Unit->Shared->Prop}(I:Inv X pins σ H s)(hN:X.N.Nodup)(hi:X.N[i]?=some x)(hx:Loc X.env.scope x)(r:RelV v u)
  (h:∀ s',Inv X pins (σ.set i (some v)) H s'->Q () s') (hf:X.fn x=true\/X.env.scope.names.lookup x=some .local:=by first | exact .inl rfl | exact .inr rfl | assumption):wpAny M A (storeName X.env x u) Q E s :=
 gL I hN hi hx r (fun s' I' _=>h s' I') hf
theorem Inv.call' {s':Shared}{ch:List Addr}(I:Inv X pins σ H s)(ho:s'.os=s.os)(u:Un (frs X.stack) ch H H' s.heap s'.heap)(hok:HOk X.prog X.w H' s'.heap)(hg:AllBare s'.gens)
  (hch:∀ b∈ch,(b∈X.ex\/X.s₀.heap.objs.size<=b)/\b≠X.env.locals/\(∀ x c,X.env.cells.lookup x=some c->c≠b)/\∀ p∈X.pn++pins,p.1≠b):Inv X pins σ H' s':=by
 obtain ⟨h',g',d',t',o'⟩:=s'
 have e:o'=s.os:=ho
 subst e
 exact I.call (g':=g') (t':=t') (d':=d') u hok hg hch
end
noncomputable abbrev XK:=Value->Option Addr->Hp->Prop
noncomputable abbrev St:=List (Option V)
noncomputable abbrev VK:=V->Hp->Prop
noncomputable abbrev TE:=St->Hp->VK->Prop
noncomputable abbrev TT:=St->Hp->(Bool->Hp->Prop)->Prop
noncomputable abbrev TA:=St->Hp->(List V->Hp->Prop)->Prop
structure bL where
 nx:St->Hp->Prop
 rt:VK
 bk:St->Hp->Prop:=fun _ _=>False
 ct:St->Hp->Prop:=fun _ _=>False
noncomputable abbrev TS:=bL->St->Hp->Prop
noncomputable def EP (X:Cx)(pins:List (Addr×Obj))(σ:St)(Q:VK)(u:Value)(s':Shared):Prop:=∃ v H',Inv X pins σ H' s'/\RelV v u/\Q v H'
noncomputable def TP (X:Cx)(pins:List (Addr×Obj))(σ:St)(Q:Bool->Hp->Prop)(b:Bool)(s':Shared):Prop:=∃ H',Inv X pins σ H' s'/\Q b H'
noncomputable def AP (X:Cx)(pins:List (Addr×Obj))(σ:St)(Q:List V->Hp->Prop)(us:List Value)(s':Shared):Prop:=∃ vs H',Inv X pins σ H' s'/\Vals vs us/\Q vs H'
noncomputable def SP (X:Cx)(pins:List (Addr×Obj))(D:bL)(f:Flow)(s':Shared):Prop :=
 match f with
 | .next=>∃ σ' H',Inv X pins σ' H' s'/\D.nx σ' H'
 | .brk=>∃ σ' H',Inv X pins σ' H' s'/\D.bk σ' H'
 | .cont=>∃ σ' H',Inv X pins σ' H' s'/\D.ct σ' H'
 | .ret u=>∃ v σ' H',Inv X pins σ' H' s'/\RelV v u/\D.rt v H'
noncomputable def PE (X:Cx)(e:Expr)(t:TE):Prop :=
 ∀ (pins:List (Addr×Obj)) (s:Shared) (σ:St) (H:Hp) (Q:VK),Inv X pins σ H s->t σ H Q->wpAny (model X.prog X.w) X.A (eval e X.env) (EP X pins σ Q) X.xe s
noncomputable def PT (X:Cx)(e:Expr)(t:TT):Prop :=
 ∀ (pins:List (Addr×Obj)) (s:Shared) (σ:St) (H:Hp) (Q:Bool->Hp->Prop),Inv X pins σ H s->t σ H Q->wpAny (model X.prog X.w) X.A (isTrue e X.env (eval e X.env)) (TP X pins σ Q) X.xe s
noncomputable def PW (X:Cx)(e:Expr)(t:TT):Prop :=
 ∀ (whole:Sem Value) (pins:List (Addr×Obj)) (s:Shared) (σ:St) (H:Hp) (Q:Bool->Hp->Prop),Inv X pins σ H s->t σ H Q->wpAny (model X.prog X.w) X.A (isTrue e X.env whole) (TP X pins σ Q) X.xe s
theorem PW.pt {X:Cx}{e:Expr}{t:TT}(h:PW X e t):PT X e t:=h _
noncomputable def PA (X:Cx)(es:List Expr)(t:TA):Prop :=
 ∀ (pos:Pos) (pins:List (Addr×Obj)) (s:Shared) (σ:St) (H:Hp) (Q:List V->Hp->Prop),Inv X pins σ H s->t σ H Q->wpAny (model X.prog X.w) X.A (spliced (backTo pos (starEach es X.env))) (AP X pins σ Q) X.xe s
noncomputable def PS (X:Cx)(st:Stmt)(t:TS):Prop :=
 ∀ (pins:List (Addr×Obj)) (s:Shared) (σ:St) (H:Hp) (D:bL),Inv X pins σ H s->t D σ H->wpAny (model X.prog X.w) X.A (exec st X.env) (SP X pins D) X.xe s
noncomputable def PSs (X:Cx)(st:List Stmt)(t:TS):Prop :=
 ∀ (pins:List (Addr×Obj)) (s:Shared) (σ:St) (H:Hp) (D:bL),Inv X pins σ H s->t D σ H->wpAny (model X.prog X.w) X.A (execs st X.env) (SP X pins D) X.xe s
theorem thn {α:Type}{t:Sem α}{Q Q':α->Shared->Prop}{M:Model}{A:Around}{E:Value->Shared->Prop}{s:Shared}(h:wpAny M A t Q E s)(hQ:∀ a s,Q a s->Q' a s):wpAny M A t Q' E s:=wpAny_mono h hQ fun _ _ x=>x
end L2
namespace L2
open PySem PySem.Spec PyProof.Rows
section
variable {X:Cx}
noncomputable def rm (i:Nat):TE:=fun σ H Q=>∃ v,σ[i]?=some (some v)/\Q v H
noncomputable def tC (v:V):TE:=fun _ H Q=>Q v H
theorem bB {i:Nat}{x:Str}{pos:Pos}(hN:X.N[i]?=some x)(hv:Vis X.env.scope x)(hd:(x==("__debug__":Str))=false:=by decide)(hcd:(x==("__classdict__":Str))=false:=by decide):PE X (.Name x pos) (rm i):=by
 intro pins s σ H Q I h
 obtain ⟨v,e,h⟩:=h
 obtain ⟨m,hn,hl⟩:=I.loc
 obtain ⟨u,r,l⟩:=hl i x v hN e hv
 have fin:EP X pins σ Q u s:=⟨v,H,I,r,h⟩
 rcases l with ⟨hk,hm⟩ | ⟨hk,c,hc,hcell⟩
 ·exact wpAny_Name (wpAny_loadName_local I.ok.kind hk hn hm fin) hd
 ·rcases hk with hk | hk
  ·exact wpAny_Name (wpAny_loadName_cell I.ok.kind hk hc hcell fin) hd
  ·exact wpAny_Name (wpAny_loadName_free I.ok.kind hk hc hcell fin hcd) hd
theorem gY {i j pos}:PE X (.Constant (.int i) j pos) (tC (.int i)):=fun _ _ _ H _ I h=>wpAny_Constant_int ⟨.int i,H,I.tok _,⟨_,rfl⟩,h⟩
theorem CS {b j pos}:PE X (.Constant (.bool b) j pos) (tC (.bl b)):=fun _ _ _ H _ I h=>Constant_bool ⟨.bl b,H,I,rfl,h⟩
theorem zw {j pos}:PE X (.Constant .none j pos) (tC .non):=fun _ _ _ H _ I h=>Constant_none ⟨.non,H,I,rfl,h⟩
theorem ie {x j pos}:PE X (.Constant (.str x) j pos) (tC (.str x)):=fun _ _ _ H _ I h=>Calls.Constant_str ⟨.str x,H,I.tok _,⟨_,rfl⟩,h⟩
noncomputable def Gl (X:Cx)(x:Str):Prop:=X.env.kindOf x=some .globalImplicit
theorem cR {E:Value->Shared->Prop}{pins:List (Addr×Obj)}{s:Shared}{σ:St}{H:Hp}{x:Str}{u:Value}{pos:Pos}{Q:Value->Shared->Prop}(I:Inv X pins σ H s)(hg:Gl X x)(hm:X.mg x=some u)(h:Q u s)
  (hd:(x==("__debug__":Str))=false:=by decide):wpAny (model X.prog X.w) X.A (eval (.Name x pos) X.env) Q E s :=
 Calls.Name_function_global I.ok.kind hg (Calls.loadGlobal_global (by rw [I.ok.glob]; exact I.mod.glob.keeps I.bk) hm h) hd
theorem ef {E:Value->Shared->Prop}{pins:List (Addr×Obj)}{s:Shared}{σ:St}{H:Hp}{x:Str}{u:Value}{pos:Pos}{Q:Value->Shared->Prop}(I:Inv X pins σ H s)(hg:Gl X x)(hm:X.mg x=none)(hv:bootBuiltins x=some u)(h:Q u s)
  (hn:x≠"__name__":=by decide) (hd:(x==("__debug__":Str))=false:=by decide):wpAny (model X.prog X.w) X.A (eval (.Name x pos) X.env) Q E s:=by
 obtain ⟨mb,h1,h2⟩:=I.mod.blt
 exact Calls.Name_function_global I.ok.kind hg (Calls.loadGlobal_builtin (by rw [I.ok.glob]; exact I.mod.glob.keeps I.bk) hm (by rw [I.ok.blt]; exact h1.keeps I.bk) ((h2 x hn).trans hv) h) hd
theorem mm {x:Str}{v:V}{u:Value}{pos:Pos}(hg:Gl X x)(hm:X.mg x=some u)(r:RelV v u)(hd:(x==("__debug__":Str))=false:=by decide):PE X (.Name x pos) (tC v) :=
 fun _ _ _ H _ I h=>cR I hg hm ⟨v,H,I,r,h⟩ hd
theorem uq {x:Str}{v:V}{u:Value}{pos:Pos}(hg:Gl X x)(hm:X.mg x=none)(hv:bootBuiltins x=some u)(r:RelV v u)(hn:x≠"__name__":=by decide)(hd:(x==("__debug__":Str))=false:=by decide):PE X (.Name x pos) (tC v) :=
 fun _ _ _ H _ I h=>ef I hg hm hv ⟨v,H,I,r,h⟩ hn hd
variable {a b:Expr}{ta tb:TE}{pos:Pos}
noncomputable def PC (X:Cx)(op:CmpOp)(a b:Expr)(t:TE):Prop :=
 ∀ (pins:List (Addr×Obj)) (s:Shared) (σ:St) (H:Hp) (Q:VK),Inv X pins σ H s->t σ H Q ->
  wpAny (model X.prog X.w) X.A (eval a X.env) (fun v s₁=>wpAny (model X.prog X.w) X.A (eval b X.env) (fun u s₂=>wpAny (model X.prog X.w) X.A (compareOp op v u) (EP X pins σ Q) X.xe s₂) X.xe s₁) X.xe s
noncomputable def tB (t:TE):TT:=fun σ H Q=>t σ H fun x H1=>∃ c,x=.bl c/\Q c H1
variable {tA tB':TT}{rest:List Expr}
noncomputable def D5 (t u:TT):TT:=fun σ H Q=>t σ H fun c H1=>if c=true then u σ H1 Q else Q false H1
noncomputable def tOr (t u:TT):TT:=fun σ H Q=>t σ H fun c H1=>if c=true then Q true H1 else u σ H1 Q
noncomputable def CN (t:TT):TT:=fun σ H Q=>t σ H fun c H1=>Q (!c) H1
theorem vE (ha:PT X a tA):PW X (.BoolOp .And [a] pos) tA:=by
 intro wh pins s σ H Q I h
 refine isTrue_and (thn (ha pins s σ H Q I h) fun c s1 e=>?_)
 cases c with
 | true=>exact isTrue_and_nil e
 | false=>exact e
theorem yH (ha:PT X a tA):PW X (.BoolOp .Or [a] pos) tA:=by
 intro wh pins s σ H Q I h
 refine isTrue_or (thn (ha pins s σ H Q I h) fun c s1 e=>?_)
 cases c with
 | false=>exact isTrue_or_nil e
 | true=>exact e
theorem Bj (ha:PT X a tA)(hb:PW X (.BoolOp .And (b::rest) pos) tB'):PW X (.BoolOp .And (a::b::rest) pos) (D5 tA tB'):=by
 intro wh pins s σ H Q I h
 refine isTrue_and (thn (ha pins s σ H _ I h) fun c s1 ⟨H1,I1,q1⟩=>?_)
 cases c with
 | true=>exact hb wh pins s1 σ H1 Q I1 q1
 | false=>exact ⟨H1,I1,q1⟩
theorem Dj (ha:PT X a tA)(hb:PW X (.BoolOp .Or (b::rest) pos) tB'):PW X (.BoolOp .Or (a::b::rest) pos) (tOr tA tB'):=by
 intro wh pins s σ H Q I h
 refine isTrue_or (thn (ha pins s σ H _ I h) fun c s1 ⟨H1,I1,q1⟩=>?_)
 cases c with
 | true=>exact ⟨H1,I1,q1⟩
 | false=>exact hb wh pins s1 σ H1 Q I1 q1
theorem zk (ha:PT X a tA):PT X (.UnaryOp .Not a pos) (CN tA):=by
 intro pins s σ H Q I h
 exact isTrue_not (ha pins s σ H (fun c H1=>Q (!c) H1) I h)
theorem yh {op}{t:TE}(h:PE X a t):PE X (.BoolOp op [a] pos) t:=fun pins s σ H Q I hw=>BoolOp_one (h pins s σ H Q I hw)
noncomputable def tIf (t:TT)(ta tb:TE):TE:=fun σ H Q=>t σ H fun c H1=>if c=true then ta σ H1 Q else tb σ H1 Q
theorem qk {c:Expr}(hc:PT X c tA)(ha:PE X a ta)(hb:PE X b tb):PE X (.IfExp c a b pos) (tIf tA ta tb):=by
 intro pins s σ H Q I h
 refine wpAny_IfExp (thn (hc pins s σ H _ I h) fun d s1 ⟨H1,I1,q1⟩=>?_)
 cases d with
 | true=>exact ha pins s1 σ H1 Q I1 q1
 | false=>exact hb pins s1 σ H1 Q I1 q1
end
end L2
namespace L2
open PySem PySem.Spec PyProof.Rows
noncomputable def SqL (K:a0a)(H:Hp)(a:Addr)(xs:List V):Prop :=
 Rd H a (.lst xs) \/
  ∃ (o:Obj) (its:Array Value) (n:Nat),K.lookup a=some o/\o.cls=.type "list"/\o.dict=none/\o.data=.seq its n/\its.size<=sizeLine/\Vals xs its.toList
noncomputable def SqT (K:a0a)(H:Hp)(a:Addr)(xs:List V):Prop :=
 Rd H a (.tup xs) \/
  ∃ (o:Obj) (its:Array Value) (n:Nat),K.lookup a=some o/\o.cls=.type "tuple"/\o.data=.seq its n/\its.size<=sizeLine/\Vals xs its.toList
noncomputable def Fc:Value->Option V
 | .none=>some .non
 | .bool b=>some (.bl b)
 | .int i _=>some (.int i)
 | .str x _=>some (.str x)
 | .bytes b _=>some (.byt b)
 | .float b _=>some (.flt b)
 | .ref a=>some (.ref a)
 | .type n=>some (.ty n)
 | _=>none
theorem RelV.abs {x:V}{u:Value}(r:RelV x u):Fc u=some x:=by
 cases x with
 | non=>cases r; rfl
 | bl _=>cases r; rfl
 | int _=>obtain ⟨t,rfl⟩:=r; rfl
 | str _=>obtain ⟨t,rfl⟩:=r; rfl
 | byt _=>obtain ⟨t,rfl⟩:=r; rfl
 | flt _=>obtain ⟨t,rfl⟩:=r; rfl
 | ref _=>cases r; rfl
 | ty _=>cases r; rfl
theorem RelV.inj {x y:V}{u:Value}(r:RelV x u)(q:RelV y u):x=y:=a0u (r.abs.symm.trans q.abs)
theorem Vals.inj:∀ {xs ys:List V} {us:List Value},Vals xs us->Vals ys us->xs=ys
 | _,_,_,.nil,.nil=>rfl
 | _,_,_,.cons r t,.cons r' t'=>by rw [r.inj r',Vals.inj t t']
section
variable {X:Cx}{pins:List (Addr×Obj)}{σ:St}{H:Hp}{s:Shared}{a:Addr}{xs ys:List V}
theorem SqL.of {K:a0a}(h:H a=some (.lst xs)):SqL K H a xs:=.inl (.inl h)
theorem SqT.of {K:a0a}(h:H a=some (.tup xs)):SqT K H a xs:=.inl (.inl h)
theorem Inv.list (I:Inv X pins σ H s)(h:SqL X.K H a xs):∃ its:List Value,Vals xs its/\PlainL s.heap a its.toArray/\xs.length<=sizeLine:=by
 rcases h with h | ⟨o,its,n,hk,hc,hd,hs,hz,r⟩
 ·obtain ⟨z,its,n,r,e⟩:=h.ok I.hok
  exact ⟨its,r,⟨_,n,e,rfl,rfl,rfl⟩,z⟩
 ·refine ⟨its.toList,r,⟨o,n,I.kIn a o hk,hc,hd,by simpa using hs⟩,?_⟩
  have e:=r.length
  simp only [a1t] at e
  omega
theorem Inv.tuple (I:Inv X pins σ H s)(h:SqT X.K H a xs):∃ its:List Value,Vals xs its/\IsTup s.heap a its.toArray/\xs.length<=sizeLine:=by
 rcases h with h | ⟨o,its,n,hk,hc,hs,hz,r⟩
 ·obtain ⟨z,its,r,p⟩:=h.ok I.hok
  exact ⟨its,r,p,z⟩
 ·refine ⟨its.toList,r,⟨o,I.kIn a o hk,hc,n,by simpa using hs⟩,?_⟩
  have e:=r.length
  simp only [a1t] at e
  omega
theorem Inv.list_inj (I:Inv X pins σ H s)(h:SqL X.K H a xs)(h':SqL X.K H a ys):xs=ys:=by
 obtain ⟨its,r,⟨o,n,e,_,_,d⟩,_⟩:=I.list h
 obtain ⟨its',r',⟨o',n',e',_,_,d'⟩,_⟩:=I.list h'
 rw [e] at e'; cases e'
 rw [d] at d'
 injection d' with d1 _
 have:its=its':=by simpa using congrArg a3I d1
 subst this
 exact r.inj r'
theorem Inv.tuple_inj (I:Inv X pins σ H s)(h:SqT X.K H a xs)(h':SqT X.K H a ys):xs=ys:=by
 obtain ⟨its,r,⟨o,e,_,n,d⟩,_⟩:=I.tuple h
 obtain ⟨its',r',⟨o',e',_,n',d'⟩,_⟩:=I.tuple h'
 rw [e] at e'; cases e'
 rw [d] at d'
 injection d' with d1 _
 have:its=its':=by simpa using congrArg a3I d1
 subst this
 exact r.inj r'
end
noncomputable abbrev Cx.wish (X:Cx)(E:Value->Shared->Prop):Cx:={ X with xe:=E }
noncomputable abbrev Cx.nox (X:Cx):Cx:=X.wish fun _ _=>False
theorem Cx.Ok.wish {X:Cx}(ok:X.Ok)(E:Value->Shared->Prop):(X.wish E).Ok :=
 ⟨ok.mod,ok.kind,ok.glob,ok.blt,ok.above,ok.inj,ok.has,ok.cab,ok.hd,ok.frames,ok.stk,ok.exf,ok.bs,ok.bsz,ok.noex,ok.exfs,ok.funs,ok.frf⟩
theorem Cx.Ok.unwish {X:Cx}{E:Value->Shared->Prop}(ok:(X.wish E).Ok):X.Ok :=
 ⟨ok.mod,ok.kind,ok.glob,ok.blt,ok.above,ok.inj,ok.has,ok.cab,ok.hd,ok.frames,ok.stk,ok.exf,ok.bs,ok.bsz,ok.noex,ok.exfs,ok.funs,ok.frf⟩
section
variable {X:Cx}{pins:List (Addr×Obj)}{σ:St}{H:Hp}{s:Shared}{E:Value->Shared->Prop}
theorem Inv.wish (I:Inv X pins σ H s)(E:Value->Shared->Prop):Inv (X.wish E) pins σ H s:=⟨I.ok.wish E,I.os,I.bare,I.base,I.loc,I.cell,I.free,I.freeC,I.pin,I.hok,I.len⟩
theorem Inv.unwish (I:Inv (X.wish E) pins σ H s):Inv X pins σ H s:=⟨I.ok.unwish,I.os,I.bare,I.base,I.loc,I.cell,I.free,I.freeC,I.pin,I.hok,I.len⟩
theorem SP.unwish {D:bL}{f:Flow}{s':Shared}(h:SP (X.wish E) pins D f s'):SP X pins D f s':=by
 cases f with
 | next=>obtain ⟨σ',H',I,q⟩:=h; exact ⟨σ',H',I.unwish,q⟩
 | brk=>obtain ⟨σ',H',I,q⟩:=h; exact ⟨σ',H',I.unwish,q⟩
 | cont=>obtain ⟨σ',H',I,q⟩:=h; exact ⟨σ',H',I.unwish,q⟩
 | ret u=>obtain ⟨v,σ',H',I,r,q⟩:=h; exact ⟨v,σ',H',I.unwish,r,q⟩
theorem PSs.nox {st:List Stmt}{t:TS}(h:PSs X.nox st t):PSs X st t:=fun pins s σ H D I hw =>
 wpAny_mono (h pins s σ H D (I.wish _) hw) (fun _ _ q=>q.unwish) fun _ _ z=>a0R z
end
section
variable {X:Cx}{st:Stmt}{rest:List Stmt}{t u:TS}{e:Expr}{te:TE}{pos:Pos}
noncomputable def xt:TS:=fun D σ H=>D.nx σ H
noncomputable def B7 (t u:TS):TS:=fun D σ H=>t { D with nx:=u D } σ H
theorem vb:PSs X [] xt:=fun _ _ σ H _ I h=>wpAny_execs_nil ⟨σ,H,I,h⟩
theorem jT (h1:PS X st t)(h2:PSs X rest u):PSs X (st::rest) (B7 t u):=by
 intro pins s σ H D I h
 refine wpAny_execs_cons (thn (h1 pins s σ H { D with nx:=u D } I h) fun f s1 q=>?_)
 cases f with
 | next =>
  obtain ⟨σ',H',I',q⟩:=q
  exact h2 pins s1 σ' H' D I' q
 | ret v=>exact q
 | brk=>exact q
 | cont=>exact q
theorem lH (h1:PS X st t):PSs X [st] t:=by
 intro pins s σ H D I h
 refine wpAny_execs_cons (thn (h1 pins s σ H D I h) fun f s1 q=>?_)
 cases f with
 | next=>exact wpAny_execs_nil q
 | ret v=>exact q
 | brk=>exact q
 | cont=>exact q
theorem Inv.quiet {pins:List (Addr×Obj)}{σ:St}{H:Hp}{s:Shared}(I:Inv X pins σ H s):interactive X.env=false:=by simp [interactive,I.ok.kind]
noncomputable def wB (te:TE):TS:=fun D σ H=>te σ H fun _ H1=>D.nx σ H1
theorem dJ (he:PE X e te)(hs:swapsWith e none pos.line X.env=pure false:=by rfl):PS X (.Expr e pos) (wB te):=by
 intro pins s σ H D I h
 exact wpAny_Expr_any (thn (he pins s σ H _ I h) fun v s1 ⟨x,H1,I1,r1,q1⟩=>⟨σ,H1,I1,q1⟩) I.quiet hs
noncomputable def C8 (te:TE):TS:=fun D σ H=>te σ H D.rt
theorem Bl (he:PE X e te):PS X (.Return (some e) pos) (C8 te):=by
 intro pins s σ H D I h
 exact wpAny_Return_some (thn (he pins s σ H _ I h) fun v s1 ⟨x,H1,I1,r1,q1⟩=>⟨x,σ,H1,I1,r1,q1⟩)
noncomputable def Dz (c:TT)(t u:TS):TS:=fun D σ H=>c σ H fun b H1=>if b=true then t D σ H1 else u D σ H1
theorem BE {c:Expr}{a b:List Stmt}{tc:TT}(hc:PT X c tc)(ha:PSs X a t)(hb:PSs X b u):PS X (.If c a b pos) (Dz tc t u):=by
 intro pins s σ H D I h
 refine wpAny_If (thn (hc pins s σ H _ I h) fun d s1 ⟨H1,I1,q1⟩=>?_)
 cases d with
 | true=>exact ha pins s1 σ H1 D I1 q1
 | false=>exact hb pins s1 σ H1 D I1 q1
end
noncomputable abbrev TG:=V->St->Hp->(St->Hp->Prop)->Prop
noncomputable abbrev TGs:=List V->St->Hp->(St->Hp->Prop)->Prop
noncomputable def PG (X:Cx)(target:Expr)(t:TG):Prop :=
 ∀ (pins:List (Addr×Obj)) (s:Shared) (σ:St) (H:Hp) (v:V) (u:Value) (Q:St->Hp->Prop),Inv X pins σ H s->RelV v u->t v σ H Q ->
  wpAny (model X.prog X.w) X.A (assign target X.env u) (fun _ s'=>∃ σ' H',Inv X pins σ' H' s'/\Q σ' H') X.xe s
noncomputable def PGs (X:Cx)(ts:List Expr)(t:TGs):Prop :=
 ∀ (pins:List (Addr×Obj)) (s:Shared) (σ:St) (H:Hp) (vs:List V) (us:List Value) (Q:St->Hp->Prop),Inv X pins σ H s->Vals vs us->t vs σ H Q ->
  wpAny (model X.prog X.w) X.A (assignInOrder ((assignEach ts X.env).map (·.2)) us) (fun _ s'=>∃ σ' H',Inv X pins σ' H' s'/\Q σ' H') X.xe s
noncomputable abbrev xT:=V->V->V->Hp->(Hp->Prop)->Prop
noncomputable def BO (X:Cx)(t:xT):Prop :=
 ∀ (pins:List (Addr×Obj)) (s:Shared) (σ:St) (H:Hp) (o i v:V) (ov iv u:Value) (Q:Hp->Prop),Inv X pins σ H s->RelV o ov->RelV i iv->RelV v u->t o i v H Q ->
  wpAny (model X.prog X.w) X.A (setItem ov iv u) (fun _ s'=>∃ H',Inv X pins σ H' s'/\Q H') X.xe s
section
variable {X:Cx}{pos:Pos}
noncomputable def cO (i:Nat):TG:=fun v σ H Q=>Q (σ.set i (some v)) H
theorem cW {i:Nat}{x:Str}(hN:X.N.Nodup)(hi:X.N[i]?=some x)(hx:Loc X.env.scope x)(hf:X.fn x=true\/X.env.scope.names.lookup x=some .local:=by first | exact .inl rfl | exact .inr rfl | assumption):PG X (.Name x pos) (cO i):=by
 intro pins s σ H v u Q I r h
 exact wpAny_assign_Name (d7 I hN hi hx r (fun s' I'=>⟨_,H,I',h⟩) hf)
noncomputable def yd:TGs:=fun vs σ H Q=>vs=[]/\Q σ H
noncomputable def jA (t:TG)(u:TGs):TGs:=fun vs σ H Q=>∃ v r,vs=v::r/\t v σ H fun σ' H'=>u r σ' H' Q
theorem mq:PGs X [] yd:=by
 intro pins s σ H vs us Q I r h
 obtain ⟨e,h⟩:=h
 subst e
 cases r
 exact assignInOrder_nil ⟨σ,H,I,h⟩
theorem dX {e:Expr}{es:List Expr}{t:TG}{u:TGs}(h1:PG X e t)(h2:PGs X es u)
  (hs:(assignEach (e::es) X.env).map (·.2)=assign e X.env::(assignEach es X.env).map (·.2):=by rfl):PGs X (e::es) (jA t u):=by
 intro pins s σ H vs us Q I r h
 obtain ⟨v,vr,e1,h⟩:=h
 subst e1
 cases r with
 | cons r rr =>
  rw [hs]
  refine assignInOrder_cons (thn (h1 pins s σ H _ _ _ I r h) fun _ s1 ⟨σ1,H1,I1,q1⟩=>?_)
  exact h2 pins s1 σ1 H1 _ _ Q I1 rr q1
noncomputable def xN (K:a0a)(n:Nat)(t:TGs):TG:=fun v σ H Q=>∃ a xs,v=.ref a/\SqT K H a xs/\xs.length=n/\t xs σ H Q
theorem ql {es:List Expr}{k:Nat}{t:TGs}{n:Nat}(hc:X.calm=true)(h:PGs X es t)
  (hn:(assignEach es X.env).length=n:=by rfl) (hst:(assignEach es X.env).findIdx? (·.1)=none:=by rfl):PG X (.Tuple es k pos) (xN X.K n t):=by
 intro pins s σ H v u Q I r hw
 obtain ⟨a,xs,e1,hq,hl,hw⟩:=hw
 subst e1
 cases r
 obtain ⟨its,rv,ht,hz⟩:=I.tuple hq
 refine assign_Tuple_tuple (I.ok.hd hc) ht (by simp [hn,<- hl,rv.length]) hst fun h' hx=>?_
 have I1:Inv X pins σ H { s with heap:=h' }:=I.kept (t':=s.toks) fun b o e=>hx b o (a0v (Heap.lt_size e)) e
 exact h pins _ σ H xs _ Q I1 (by simpa using rv) hw
noncomputable def Fi (to ti:TE)(t:xT):TG:=fun v σ H Q=>to σ H fun o H1=>ti σ H1 fun i H2=>t o i v H2 fun H3=>Q σ H3
theorem Bu {o i:Expr}{to ti:TE}{t:xT}(ho:PE X o to)(hi:PE X i ti)(hs:BO X t)
  (ha:∀ v,assign (.Subscript o i pos) X.env v=(do
   let ov <- holding [v] (eval o X.env)
   let iv <- holding [v,ov] (eval i X.env)
   standAt pos
   holding [v,ov,iv] (setItem ov iv v)
   release [v,ov,iv] []):=by intro _; rfl):PG X (.Subscript o i pos) (Fi to ti t):=by
 intro pins s σ H v u Q I r h
 rw [ha]
 refine wpAny_bind (wpAny_holding (thn (ho pins s σ H _ I h) fun ov s1 ⟨x,H1,I1,r1,q1⟩=>?_))
 refine wpAny_bind (wpAny_holding (thn (hi pins s1 σ H1 _ I1 q1) fun iv s2 ⟨y,H2,I2,r2,q2⟩=>?_))
 refine wpAny_bind (wpAny_standAt (wpAny_bind (wpAny_holding (thn (hs pins s2 σ H2 x y v ov iv u _ I2 r1 r2 r q2) fun _ s3 ⟨H3,I3,q3⟩=>?_))))
 exact wpAny_release ⟨σ,H3,I3,q3⟩
noncomputable def oS (te:TE)(g:TG):TS:=fun D σ H=>te σ H fun x H1=>g x σ H1 D.nx
theorem y9 {tg e:Expr}{te:TE}{g:TG}(he:PE X e te)(hg:PG X tg g)(hs:swapsWithSole [tg] e pos.line X.env=pure false:=by rfl)(hw:swappedStores [tg] e X.env=pure none:=by rfl)
  (h1:(assignEach [tg] X.env).map (·.2)=[assign tg X.env]:=by rfl):PS X (.Assign [tg] e pos) (oS te g):=by
 intro pins s σ H D I h
 refine wpAny_Assign_stores (thn (he pins s σ H _ I h) fun v s1 ⟨x,H1,I1,r1,q1⟩=>?_) hs hw
 rw [h1]
 exact thn (hg pins s1 σ H1 x v _ I1 r1 q1) fun _ s2 q=>q
theorem yc {i:Nat}{x:Str}{e:Expr}{te:TE}{pos':Pos}(hN:X.N.Nodup)(hi:X.N[i]?=some x)(hx:Loc X.env.scope x)(he:PE X e te)(hs:swapsWith e (some (.Name x pos')) pos.line X.env=pure false:=by rfl)(hf:X.fn x=true\/X.env.scope.names.lookup x=some .local:=by first | exact .inl rfl | exact .inr rfl | assumption) :
  PS X (.Assign [.Name x pos'] e pos) (oS te (cO i)):=by
 intro pins s σ H D I h
 refine wpAny_Assign_Name (thn (he pins s σ H _ I h) fun v s1 ⟨y,H1,I1,r1,q1⟩=>?_) hs
 exact d7 I1 hN hi hx r1 (fun s2 I2=>⟨_,H1,I2,q1⟩) hf
end
structure It where
 go:Nat->Hp->Prop
 yld:Nat->Hp->V->Hp->Prop
 stop:Nat->Hp->Prop
noncomputable def gj (X:Cx)(pins:List (Addr×Obj))(H:Hp)(b:Addr):Prop :=
 H b=none/\b≠X.env.locals/\b ∉ X.fs/\(b∈X.ex\/X.s₀.heap.objs.size<=b)/\(∀ x c,X.env.cells.lookup x=some c->c≠b)/\∀ p∈X.pn++pins,p.1≠b
theorem Inv.fpOk {X:Cx}{pins:List (Addr×Obj)}{σ:St}{H H':Hp}{s:Shared}{b:Addr}(I:Inv X pins σ H s)(hb:s.heap.objs.size<=b)(hn:H' b=none):gj X pins H' b:=by
 refine ⟨hn,a1p (a0i I.lt hb),I.nofs hb,.inr (a0s I.sz hb),fun x c e z=>?_,fun p hp z=>?_⟩
 ·obtain ⟨v,q⟩:=I.cell x c e
  exact absurd (a0i q.lt (by rw [z]; exact hb)) (a1s _)
 ·exact absurd (a0i (Heap.lt_size (I.pin p hp).1) (by rw [z]; exact hb)) (a1s _)
structure qF (P:Program)(w:World)(K:a0a)(tg:Expr)(J:It)(fp:List Addr)(it:Addr)(tn:Nat->Heap->Prop):Prop where
 mem:it∈fp
 obj:∀ i h,tn i h->∀ b∈fp,∃ o,h.get? b=some o/\∀ v,o.data≠.cell v
 keep:∀ i h h',tn i h->(∀ b∈fp,∀ o,h.get? b=some o->h'.get? b=some o)->tn i h'
 item:∀ (X:Cx),X.prog=P->X.w=w->X.K=K->X.calm=true->∀ (i:Nat) (pins:List (Addr×Obj)) (s:Shared) (σ:St) (H:Hp) (E:Value->Shared->Prop),Inv X pins σ H s->(∀ b∈fp,gj X pins H b)->tn i s.heap->J.go i H ->
  wpAny (model P w) X.A (pyNext (.ref it)) (fun r s1=>∃ u,r=some u /\
   wpAny (model P w) X.A (letOwnedTupleGo tg (.ref it) u) (fun _ s2=>∃ x H',Inv X pins σ H' s2/\RelV x u/\J.yld i H x H'/\tn (i+1) s2.heap/\∀ b∈fp,H' b=none) E s1) E s
 done:∀ (X:Cx),X.prog=P->X.w=w->X.K=K->X.calm=true->∀ (i:Nat) (pins:List (Addr×Obj)) (s:Shared) (σ:St) (H:Hp) (E:Value->Shared->Prop),Inv X pins σ H s->(∀ b∈fp,gj X pins H b)->tn i s.heap->J.stop i H ->
  wpAny (model P w) X.A (pyNext (.ref it)) (fun r s1=>r=none/\Inv X pins σ H s1) E s
 self:∀ (A:Around) (i:Nat) (s:Shared) (Q:Value->Shared->Prop) (E:Value->Shared->Prop),tn i s.heap->Q (.ref it) s->wpAny (model P w) A (pyIter (.ref it)) Q E s
noncomputable abbrev TI:=St->Hp->(It->Hp->Prop)->Prop
noncomputable def PIE (X:Cx)(pins:List (Addr×Obj))(σ:St)(tg:Expr)(R:It->Hp->Prop)(itv:Value)(s2:Shared):Prop :=
 ∃ (it:Addr) (fp:List Addr) (tn:Nat->Heap->Prop) (J:It) (H':Hp),itv=.ref it/\Inv X pins σ H' s2/\qF X.prog X.w X.K tg J fp it tn/\tn 0 s2.heap/\(∀ b∈fp,gj X pins H' b)/\R J H'
noncomputable def PI (X:Cx)(tg iter:Expr)(wi:TI):Prop :=
 ∀ (pins:List (Addr×Obj)) (s:Shared) (σ:St) (H:Hp) (R:It->Hp->Prop),Inv X pins σ H s->wi σ H R ->
  wpAny (model X.prog X.w) X.A (eval iter X.env) (fun v s1=>wpAny (model X.prog X.w) X.A (pyIter v) (PIE X pins σ tg R) X.xe s1) X.xe s
theorem qI {M:Model}{A:Around}{E:Value->Shared->Prop}{s:Shared}{tg:Expr}{it:Addr}{u:Value}{o:Obj}{n:String}{vs:Array Value}{Q:Unit->Shared->Prop}(ho:s.heap.get? it=some o)(hc:o.cls=.type n)(hd:o.data=.fields vs)
  (hn:["enumerate","zip","dict_itemiterator","dict_reverseitemiterator","odict_iterator","itertools.zip_longest","itertools.pairwise"].contains n=false) (hQ:Q () s):wpAny M A (letOwnedTupleGo tg (.ref it) u) Q E s:=by
 unfold letOwnedTupleGo
 cases tg<;>first
  | exact wpAny_pure hQ
  | (cases u<;>first
    | exact wpAny_pure hQ
    | (refine wpAny_bind (wpAny_load ho ?_)
       rw [hc,hd]
       show wpAny M A (if (["enumerate","zip","dict_itemiterator","dict_reverseitemiterator","odict_iterator","itertools.zip_longest","itertools.pairwise"].contains n&&vs[0]?==some (rawInt _))=true then _ else _) Q E s
       rw [if_neg (by intro h; rw [hn,a3t] at h; cases h)]
       exact wpAny_pure hQ))
noncomputable def Itl (K:a0a)(a:Addr):It :=
 ⟨fun i H=>∃ xs x,SqL K H a xs/\xs[i]?=some x,fun i H x H'=>H'=H/\∀ xs,SqL K H a xs->xs[i]?=some x,fun i H=>∃ xs,SqL K H a xs/\xs.length<=i⟩
noncomputable def Itt (K:a0a)(a:Addr):It :=
 ⟨fun i H=>∃ xs x,SqT K H a xs/\xs[i]?=some x,fun i H x H'=>H'=H/\∀ xs,SqT K H a xs->xs[i]?=some x,fun i H=>∃ xs,SqT K H a xs/\xs.length<=i⟩
noncomputable def Itr (lo:Int)(n:Nat):It:=⟨fun i _=>i < n,fun i H x H'=>H'=H/\x=.int (lo+i),fun i _=>n<=i⟩
theorem mY {P:Program}{w:World}{K:a0a}{tg:Expr}(a it:Addr):qF P w K tg (Itl K a) [it] it (fun i h=>h.IsListIter it a i) where
 mem:=by simp
 obj:=fun i h st b hb=>by
  have e:b=it:=by simpa using hb
  subst e
  obtain ⟨o,e,c,d⟩:=st
  exact ⟨o,e,fun v z=>by rw [d] at z; cases z⟩
 keep:=fun i h h' st k=>st.at fun o e=>k it (by simp) o e
 item:=by
  intro X hP hw hK hc i pins s σ H E I hf st hg
  subst hP hw hK
  obtain ⟨xs,x,hq,hx⟩:=hg
  obtain ⟨its,rv,p,hz⟩:=I.list hq
  obtain ⟨u,hu,ru⟩:=rv.get hx
  obtain ⟨f0,f1,f2,f3,f4,f5⟩:=hf it (by simp)
  refine wpAny_pyNext_list_item st p.isList (x:=u) (by simpa using hu) fun h' st' sb=>?_
  have I1:Inv X pins σ H { s with heap:=h' }:=I.turned (t':=s.toks) (fun b o hb e=>(sb.2 b hb).trans e) f0 f1 f3 f4 f5
  obtain ⟨o,e,c,d⟩:=id st'
  exact ⟨u,rfl,qI (s:={ s with heap:=h' }) e c d (by decide) ⟨x,H,I1,ru,⟨rfl,fun ys hy=>by rw [I.list_inj hy hq]; exact hx⟩,st',fun b hb=>(hf b hb).1⟩⟩
 done:=by
  intro X hP hw hK hc i pins s σ H E I hf st hg
  subst hP hw hK
  obtain ⟨xs,hq,hx⟩:=hg
  obtain ⟨its,rv,p,hz⟩:=I.list hq
  obtain ⟨f0,f1,f2,f3,f4,f5⟩:=hf it (by simp)
  have hl:=rv.length
  exact wpAny_pyNext_list_end (I.ok.hd hc) st p.isList (by simp; omega) fun h' eb=>⟨rfl,I.turned (t':=s.toks) (fun b o hb e=>eb b o hb e) f0 f1 f3 f4 f5⟩
 self:=fun _ _ _ _ _ st h=>wpAny_pyIter_listiter st h
theorem kq {P:Program}{w:World}{K:a0a}{tg:Expr}(a it:Addr):qF P w K tg (Itt K a) [it] it (fun i h=>h.IsTupleIter it a i) where
 mem:=by simp
 obj:=fun i h st b hb=>by
  have e:b=it:=by simpa using hb
  subst e
  obtain ⟨o,e,c,d⟩:=st
  exact ⟨o,e,fun v z=>by rw [d] at z; cases z⟩
 keep:=fun i h h' st k=>st.at fun o e=>k it (by simp) o e
 item:=by
  intro X hP hw hK hc i pins s σ H E I hf st hg
  subst hP hw hK
  obtain ⟨xs,x,hq,hx⟩:=hg
  obtain ⟨its,rv,p,hz⟩:=I.tuple hq
  obtain ⟨u,hu,ru⟩:=rv.get hx
  obtain ⟨f0,f1,f2,f3,f4,f5⟩:=hf it (by simp)
  refine wpAny_pyNext_tuple_item st (show s.heap.IsTuple a its.toArray from p) (x:=u) (by simpa using hu) fun h' st' sb=>?_
  have I1:Inv X pins σ H { s with heap:=h' }:=I.turned (t':=s.toks) (fun b o hb e=>(sb.2 b hb).trans e) f0 f1 f3 f4 f5
  obtain ⟨o,e,c,d⟩:=id st'
  exact ⟨u,rfl,qI (s:={ s with heap:=h' }) e c d (by decide) ⟨x,H,I1,ru,⟨rfl,fun ys hy=>by rw [I.tuple_inj hy hq]; exact hx⟩,st',fun b hb=>(hf b hb).1⟩⟩
 done:=by
  intro X hP hw hK hc i pins s σ H E I hf st hg
  subst hP hw hK
  obtain ⟨xs,hq,hx⟩:=hg
  obtain ⟨its,rv,p,hz⟩:=I.tuple hq
  obtain ⟨f0,f1,f2,f3,f4,f5⟩:=hf it (by simp)
  have hl:=rv.length
  exact wpAny_pyNext_tuple_end (I.ok.hd hc) st (show s.heap.IsTuple a its.toArray from p) (by simp; omega) fun h' eb=>⟨rfl,I.turned (t':=s.toks) (fun b o hb e=>eb b o hb e) f0 f1 f3 f4 f5⟩
 self:=fun _ _ _ _ _ st h=>wpAny_pyIter_tupleiter st h
theorem kB {P:Program}{w:World}{K:a0a}{tg:Expr}(it:Addr)(lo:Int)(n:Nat):qF P w K tg (Itr lo n) [it] it (fun i h=>IsRangeIter h it (lo+(i:Nat) * 1) ((n:Int)-(i:Nat)) 1) where
 mem:=by simp
 obj:=fun i h st b hb=>by
  have e:b=it:=by simpa using hb
  subst e
  exact ⟨_,st,fun v z=>by
   have z':Data.fields _=Data.cell v:=z
   cases z'⟩
 keep:=fun i h h' st k=>k it (by simp) _ st
 item:=by
  intro X hP hw hK hc i pins s σ H E I hf st hg
  subst hP hw hK
  obtain ⟨f0,f1,f2,f3,f4,f5⟩:=hf it (by simp)
  have W:=Walks.range (prog:=X.prog) (w:=X.w) (I.ok.hd hc) it lo 1 n
  refine W.item i s _ _ hg st fun v h' tk hv st' kk=>?_
  obtain ⟨t,rfl⟩:=hv
  have I1:Inv X pins σ H { s with heap:=h',toks:=tk }:=I.turned (fun b o hb e=>kk b o (by simpa using hb) e) f0 f1 f3 f4 f5
  refine ⟨_,rfl,qI (s:={ s with heap:=h',toks:=tk }) (n:="range_iterator") st' rfl rfl (by decide) ⟨.int (lo+i),H,I1,⟨t,?_⟩,⟨rfl,rfl⟩,st',fun b hb=>(hf b hb).1⟩⟩
  rw [Int.mul_one]
 done:=by
  intro X hP hw hK hc i pins s σ H E I hf st hg
  subst hP hw hK
  obtain ⟨f0,f1,f2,f3,f4,f5⟩:=hf it (by simp)
  exact wpAny_pyNext_range_end (I.ok.hd hc) st (by have:n<=i:=hg; omega) fun h' eb=>⟨rfl,I.turned (t':=s.toks) (fun b o hb e=>eb b o hb e) f0 f1 f3 f4 f5⟩
 self:=fun _ _ _ _ _ st h=>wpAny_pyIter_rangeiter st h
end L2
namespace L2
open PySem PySem.Spec PyProof.Rows
section
variable {X:Cx}{tg:Expr}
noncomputable def qE (K:a0a)(tl:TE):TI:=fun σ H R=>tl σ H fun x H1=>∃ a,x=.ref a/\(∃ xs,SqL K H1 a xs)/\R (Itl K a) H1
noncomputable def BN (K:a0a)(tl:TE):TI:=fun σ H R=>tl σ H fun x H1=>∃ a,x=.ref a/\(∃ xs,SqT K H1 a xs)/\R (Itt K a) H1
theorem mx {l:Expr}{tl:TE}(hl:PE X l tl):PI X tg l (qE X.K tl):=by
 intro pins s σ H R I h
 refine thn (hl pins s σ H _ I h) fun v s1 ⟨x,H1,I1,r1,q1⟩=>?_
 obtain ⟨a,e,⟨xs,hq⟩,q⟩:=q1
 subst e
 cases r1
 obtain ⟨its,rv,p,hz⟩:=I1.list hq
 refine wpAny_pyIter_list p.isList ?_
 refine ⟨s1.heap.objs.size,[s1.heap.objs.size],_,_,H1,rfl,I1.kept (t':=s1.toks) fun b o e=>Heap.get?_push_of_some _ e,mY a _,⟨_,Heap.get?_push_size _ rfl,rfl,rfl⟩,fun b hb=>?_,q⟩
 have e:b=s1.heap.objs.size:=by simpa using hb
 subst e
 exact I1.fpOk (a0j _) (I1.hok.fresh (a0j _))
theorem AN {l:Expr}{tl:TE}(hl:PE X l tl):PI X tg l (BN X.K tl):=by
 intro pins s σ H R I h
 refine thn (hl pins s σ H _ I h) fun v s1 ⟨x,H1,I1,r1,q1⟩=>?_
 obtain ⟨a,e,⟨xs,hq⟩,q⟩:=q1
 subst e
 cases r1
 obtain ⟨its,rv,p,hz⟩:=I1.tuple hq
 refine wpAny_pyIter_tuple (show s1.heap.IsTuple a its.toArray from p) ?_
 refine ⟨s1.heap.objs.size,[s1.heap.objs.size],_,_,H1,rfl,I1.kept (t':=s1.toks) fun b o e=>Heap.get?_push_of_some _ e,kq a _,⟨_,Heap.get?_push_size _ rfl,rfl,rfl⟩,fun b hb=>?_,q⟩
 have e:b=s1.heap.objs.size:=by simpa using hb
 subst e
 exact I1.fpOk (a0j _) (I1.hok.fresh (a0j _))
theorem jc {pins:List (Addr×Obj)}{σ:St}{H:Hp}{s:Shared}{R:It->Hp->Prop}{E:Value->Shared->Prop}{lo hi:Int}{t u v:Tok}{tk:Nat}(I:Inv X pins σ H s)(h1:-(2 ^ 62)<=lo)(h2:lo < 2 ^ 62)(h3:-(2 ^ 62)<=hi)(h4:hi < 2 ^ 62)
  (q:R (Itr lo (hi-lo).toNat) H):wpAny (model X.prog X.w) X.A (pyIter (.ref s.heap.objs.size)) (PIE X pins σ tg R) E { s with heap:=s.heap.push { cls:=.type "range",data:=.fields #[.int lo t,.int hi u,.int 1 v] },toks:=tk }:=by
 refine wpAny_pyIter_range (IsRange.new ..) (small_one h1 h2 h3 h4) ?_
 have I1:Inv X pins σ H { s with heap:=s.heap.push { cls:=.type "range",data:=.fields #[.int lo t,.int hi u,.int 1 v] },toks:=tk }:=I.kept fun b o e=>Heap.get?_push_of_some _ e
 refine ⟨(s.heap.push { cls:=.type "range",data:=.fields #[.int lo t,.int hi u,.int 1 v] }).objs.size,[(s.heap.push { cls:=.type "range",data:=.fields #[.int lo t,.int hi u,.int 1 v] }).objs.size],_,_,H,rfl,
  I1.kept (t':=tk) fun b o e=>Heap.get?_push_of_some _ e,kB _ lo (hi-lo).toNat,?_,fun b hb=>?_,q⟩
 ·have e1:lo+((0:Nat):Int) * 1=lo:=by simp
  have e2:(((hi-lo).toNat:Nat):Int)-((0:Nat):Int)=Builtin.Range.rangeSize lo hi 1:=by rw [rangeSize_one]; split<;>omega
  show IsRangeIter _ _ (lo+((0:Nat):Int) * 1) ((((hi-lo).toNat:Nat):Int)-((0:Nat):Int)) 1
  rw [e1,e2]
  exact Heap.get?_push_size _ rfl
 ·have e:b=(s.heap.push { cls:=.type "range",data:=.fields #[.int lo t,.int hi u,.int 1 v] }).objs.size:=by simpa using hb
  subst e
  exact I1.fpOk (a0j _) (I1.hok.fresh (a0j _))
noncomputable def wN (ta:TA):TI:=fun σ H R=>ta σ H fun vs H1=>∃ j:Int,vs=[.int j]/\-(2 ^ 62)<=j/\j < 2 ^ 62/\R (Itr 0 j.toNat) H1
noncomputable def wO (ta:TA):TI:=fun σ H R=>ta σ H fun vs H1=>∃ i j:Int,vs=[.int i,.int j]/\(-(2 ^ 62)<=i/\i < 2 ^ 62/\-(2 ^ 62)<=j/\j < 2 ^ 62)/\R (Itr i (j-i).toNat) H1
theorem nr {a:Expr}{ta:TA}{p pos:Pos}(hg:Gl X "range")(hm:X.mg "range"=none)(ha:PA X [a] ta)(hs:starEach [a] X.env=[(false,eval a X.env)]:=by rfl):PI X tg (.Call (.Name "range" p) [a] [] pos) (wN ta):=by
 intro pins s σ H R I h
 refine Call_ (ef I hg hm boot_range (a1a (thn (ha pos pins s σ H _ I h) fun us s1 ⟨vs,H1,I1,r1,q1⟩=>?_) hs rfl))
 obtain ⟨j,e,q1,q2,q⟩:=q1
 subst e
 cases r1 with
 | cons r rr =>
  cases rr
  obtain ⟨t,rfl⟩:=r
  exact call_range_1 (jc I1 (by omega) (by omega) q1 q2 (by simpa using q))
theorem nQ {a b:Expr}{ta:TA}{p pos:Pos}(hg:Gl X "range")(hm:X.mg "range"=none)(ha:PA X [a,b] ta)(hs:starEach [a,b] X.env=[(false,eval a X.env),(false,eval b X.env)]:=by rfl)(hs2:starEach [b] X.env=[(false,eval b X.env)]:=by rfl) :
  PI X tg (.Call (.Name "range" p) [a,b] [] pos) (wO ta):=by
 intro pins s σ H R I h
 refine Call_ (ef I hg hm boot_range (a1a (thn (ha pos pins s σ H _ I h) fun us s1 ⟨vs,H1,I1,r1,q1⟩=>?_) (by rw [hs,hs2]) (by rw [hs2]; rfl)))
 obtain ⟨i,j,e,⟨q1,q2,q3,q4⟩,q⟩:=q1
 subst e
 cases r1 with
 | cons r rr =>
  cases rr with
  | cons r' rr =>
   cases rr
   obtain ⟨t,rfl⟩:=r
   obtain ⟨t',rfl⟩:=r'
   exact call_range_2 (jc I1 q1 q2 q3 q4 q)
noncomputable def Ed (wi:TI)(g:TG)(tb:TS):TS:=fun D σ H=>wi σ H fun J H1=>∃ W:Nat->Nat->St->Hp->Prop,(∃ m,W 0 m σ H1)/\∀ i m σ H,W i m σ H ->
 (J.stop i H/\D.nx σ H)\/(J.go i H/\∃ N:St->Hp->Prop,(∀ σ' H',N σ' H'->∃ m',m' < m/\W (i+1) m' σ' H')/\∀ x H',J.yld i H x H'->g x σ H' fun σ2 H2=>tb { D with nx:=N,ct:=N,bk:=D.nx } σ2 H2)
noncomputable def fL (fp:List Addr)(h:Heap):List (Addr×Obj):=fp.filterMap fun b=>(h.get? b).map fun o=>(b,o)
theorem bx {fp:List Addr}{h:Heap}{b:Addr}{o:Obj}(hb:b∈fp)(e:h.get? b=some o):(b,o)∈fL fp h:=a1g.mpr ⟨b,hb,by rw [e]; rfl⟩
theorem mF {fp:List Addr}{h:Heap}{p:Addr×Obj}(hp:p∈fL fp h):p.1∈fp/\h.get? p.1=some p.2:=by
 obtain ⟨b,hb,e⟩:=a1g.mp hp
 cases q:h.get? b with
 | none=>rw [q] at e; cases e
 | some o =>
  rw [q] at e
  have e':(b,o)=p:=a0u e
  subst e'
  exact ⟨hb,q⟩
theorem Inv.pinned {pins:List (Addr×Obj)}{σ:St}{H:Hp}{s:Shared}{fp:List Addr}(I:Inv X pins σ H s)(hf:∀ b∈fp,gj X pins H b)(ho:∀ b∈fp,∃ o,s.heap.get? b=some o/\∀ v,o.data≠.cell v):Inv X (pins++fL fp s.heap) σ H s :=
 I.pins_of fun p hp=>(a0P.mp hp).elim (fun z=>I.pin p (a0h _ z)) fun z=>by
  obtain ⟨hb,e⟩:=mF z
  obtain ⟨f0,f1,f2,_⟩:=hf p.1 hb
  obtain ⟨o,e',d⟩:=ho p.1 hb
  rw [e] at e'; cases e'
  exact ⟨e,f0,f1,f2,d⟩
theorem Inv.unpinned {pins pl:List (Addr×Obj)}{σ:St}{H:Hp}{s:Shared}(I:Inv X (pins++pl) σ H s):Inv X pins σ H s:=I.pins_of fun p hp=>I.pin p (a0h _ (a0K _ hp))
theorem qX {iter:Expr}{body:List Stmt}{wi:TI}{g:TG}{tb:TS}{pos:Pos}(hp:PassesOwn (model X.prog X.w) X.A X.env X.xe)(hc:X.calm=true)(hi:PI X tg iter wi)(hg:PG X tg g)(hb:PSs X body tb)
  (hs:∀ x,foldedSetIterable iter X.env x=pure x:=by intro _; rfl):PS X (.For tg iter body [] pos) (Ed wi g tb):=by
 intro pins s σ H D I h
 refine wpAny_For (thn (hi pins s σ H _ I h) fun v s1 h1=>thn h1 fun itv s2 h2=>?_) hs
 obtain ⟨it,fp,tn,J,H2,e,I2,T,st2,f2,W,⟨m0,w0⟩,turn⟩:=h2
 subst e
 -- what stays true of the iterator's objects through the loop
 have stat:∀ {H':Hp},(∀ b∈fp,H' b=none)->∀ b∈fp,gj X pins H' b:=fun hn b hb=>⟨hn b hb,(f2 b hb).2⟩
 refine codeAny_forLoop_any (fun n s'=>∃ i σ' H',Inv X pins σ' H' s'/\tn i s'.heap/\(∀ b∈fp,H' b=none)/\W i n σ' H') ?_ m0 ⟨0,σ,H2,I2,st2,fun b hb=>(f2 b hb).1,w0⟩
 rintro n s3 ⟨i,σ3,H3,I3,st3,fr3,w3⟩
 rcases turn i n σ3 H3 w3 with ⟨stop,qn⟩ | ⟨go,N,hN,step⟩
 ·refine wpAny_passesOwn hp (thn (T.done X rfl rfl rfl hc i pins s3 σ3 H3 X.xe I3 (stat fr3) st3 stop) fun r s4 ⟨hr,I4⟩=>?_)
  subst hr
  exact wpAny_execs_nil ⟨σ3,H3,I4,qn⟩
 ·refine wpAny_passesOwn hp (thn (T.item X rfl rfl rfl hc i pins s3 σ3 H3 X.xe I3 (stat fr3) st3 go) fun r s4 ⟨u,hr,h4⟩=>?_)
  subst hr
  refine wpAny_passesOwn hp (thn h4 fun _ s5 ⟨x,H5,I5,r5,y5,st5,fr5⟩=>?_)
  have I5':=I5.pinned (stat fr5) (T.obj _ _ st5)
  refine wpAny_passesOwn hp (thn (hg _ s5 σ3 H5 x u _ I5' r5 (step x H5 y5)) fun _ s6 ⟨σ6,H6,I6,q6⟩=>?_)
  refine wpAny_passesOwn hp (thn (hb _ s6 σ6 H6 _ I6 q6) fun f s7 q7=>?_)
  have again:∀ {σ7:St} {H7:Hp},Inv X (pins++fL fp s5.heap) σ7 H7 s7->N σ7 H7->∃ m,m < n/\∃ i σ' H',Inv X pins σ' H' s7/\tn i s7.heap/\(∀ b∈fp,H' b=none)/\W i m σ' H':=fun {σ7 H7} I7 n7=>by
   obtain ⟨m',hm,w7⟩:=hN σ7 H7 n7
   refine ⟨m',hm,i+1,σ7,H7,I7.unpinned,T.keep _ _ _ st5 fun b hb o e=>(I7.pin (b,o) (a0h _ (a0h _ (bx hb e)))).1,fun b hb=>?_,w7⟩
   obtain ⟨o,e,d⟩:=T.obj _ _ st5 b hb
   exact (I7.pin (b,o) (a0h _ (a0h _ (bx hb e)))).2.1
  cases f with
  | next=>obtain ⟨σ7,H7,I7,n7⟩:=q7; exact again I7 n7
  | cont=>obtain ⟨σ7,H7,I7,n7⟩:=q7; exact again I7 n7
  | brk=>obtain ⟨σ7,H7,I7,q7⟩:=q7; exact ⟨σ7,H7,I7.unpinned,q7⟩
  | ret v=>obtain ⟨x7,σ7,H7,I7,r7,q7⟩:=q7; exact ⟨x7,σ7,H7,I7.unpinned,r7,q7⟩
end
end L2
namespace L2
open PySem PySem.Spec PyProof.Rows
noncomputable abbrev R2:=V->V->Hp->VK->Prop
noncomputable def OpR (X:Cx)(f:Value->Value->Sem Value)(r:R2):Prop :=
 ∀ (pins:List (Addr×Obj)) (s:Shared) (σ:St) (H:Hp) (x y:V) (v u:Value) (Q:VK),Inv X pins σ H s->RelV x v->RelV y u->r x y H Q ->
  wpAny (model X.prog X.w) X.A (f v u) (EP X pins σ Q) X.xe s
noncomputable def UnR (X:Cx)(f:Value->Sem Value)(r:V->Hp->VK->Prop):Prop :=
 ∀ (pins:List (Addr×Obj)) (s:Shared) (σ:St) (H:Hp) (x:V) (v:Value) (Q:VK),Inv X pins σ H s->RelV x v->r x H Q ->
  wpAny (model X.prog X.w) X.A (f v) (EP X pins σ Q) X.xe s
noncomputable def dW (X:Cx)(f:Value)(r:List V->Hp->VK->Prop):Prop :=
 ∀ (pins:List (Addr×Obj)) (s:Shared) (σ:St) (H:Hp) (xs:List V) (us:List Value) (Q:VK),Inv X pins σ H s->Vals xs us->r xs H Q ->
  wpAny (model X.prog X.w) X.A (call f us) (EP X pins σ Q) X.xe s
noncomputable def EV (X:Cx)(r:V->Hp->(Bool->Hp->Prop)->Prop):Prop :=
 ∀ (pins:List (Addr×Obj)) (s:Shared) (σ:St) (H:Hp) (x:V) (v:Value) (Q:Bool->Hp->Prop),Inv X pins σ H s->RelV x v->r x H Q ->
  wpAny (model X.prog X.w) X.A (truthy v) (TP X pins σ Q) X.xe s
noncomputable def tOp (r:R2)(ta tb:TE):TE:=fun σ H Q=>ta σ H fun x H1=>tb σ H1 fun y H2=>r x y H2 Q
noncomputable def tUn (r:V->Hp->VK->Prop)(ta:TE):TE:=fun σ H Q=>ta σ H fun x H1=>r x H1 Q
noncomputable def rI (C:Int->Int->Prop)(g:Int->Int->V):R2:=fun x y H Q=>∃ i j,x=.int i/\y=.int j/\C i j/\Q (g i j) H
noncomputable def rI0 (g:Int->Int->V):R2:=fun x y H Q=>∃ i j,x=.int i/\y=.int j/\Q (g i j) H
noncomputable def rU (g:Int->V):V->Hp->VK->Prop:=fun x H Q=>∃ i,x=.int i/\Q (g i) H
section
variable {X:Cx}{a b c:Expr}{ta tb tc:TE}{pos:Pos}
theorem zv (ha:PE X a ta)(hb:PE X b tb){pins:List (Addr×Obj)}{s:Shared}{σ:St}{H:Hp}{R:V->V->Hp->Prop}(I:Inv X pins σ H s)
  (h:ta σ H fun x H1=>tb σ H1 fun y H2=>R x y H2) {Q:Value->Shared->Prop} {f:Value->Value->Sem Value}
  (hf:∀ v u s2 x y H2,Inv X pins σ H2 s2->RelV x v->RelV y u->R x y H2->wpAny (model X.prog X.w) X.A (f v u) Q X.xe s2) :
  wpAny (model X.prog X.w) X.A (eval a X.env) (fun v s₁=>wpAny (model X.prog X.w) X.A (eval b X.env) (fun u s₂=>wpAny (model X.prog X.w) X.A (f v u) Q X.xe s₂) X.xe s₁) X.xe s:=by
 refine thn (ha pins s σ H _ I h) fun v s1 ⟨x,H1,I1,r1,q1⟩=>?_
 refine thn (hb pins s1 σ H1 _ I1 q1) fun u s2 ⟨y,H2,I2,r2,q2⟩=>?_
 exact hf v u s2 x y H2 I2 r1 r2 q2
theorem gV {op:Operator}{r:R2}(ho:OpR X (binaryOp op) r)(ha:PE X a ta)(hb:PE X b tb):PE X (.BinOp a op b pos) (tOp r ta tb):=by
 intro pins s σ H Q I h
 exact wpAny_BinOp (zv ha hb I h fun v u s2 x y H2 I2 rx ry q=>ho pins s2 σ H2 x y v u Q I2 rx ry q)
theorem DJ {op:UnaryOp}{r:V->Hp->VK->Prop}(ho:UnR X (unaryOp op) r)(ha:PE X a ta):PE X (.UnaryOp op a pos) (tUn r ta):=by
 intro pins s σ H Q I h
 exact UnaryOp_ (thn (ha pins s σ H _ I h) fun v s1 ⟨x,H1,I1,r1,q1⟩=>ho pins s1 σ H1 x v Q I1 r1 q1)
theorem opI {f:Value->Value->Sem Value}{C:Int->Int->Prop}{g:Int->Int->Int}
  (rule:∀ (i j:Int) (t u:Tok) (s:Shared) (Q:Value->Shared->Prop) (E:Value->Shared->Prop),C i j->Q (.int (g i j) s.toks) { s with toks:=s.toks+1 }->wpAny (model X.prog X.w) X.A (f (.int i t) (.int j u)) Q E s) :
  OpR X f (rI C fun i j=>.int (g i j)):=by
 intro pins s σ H x y v u Q I rx ry h
 obtain ⟨i,j,rfl,rfl,hc,q⟩:=h
 obtain ⟨t,rfl⟩:=rx
 obtain ⟨t',rfl⟩:=ry
 exact rule i j t t' s _ _ hc ⟨.int (g i j),H,I.tok _,⟨_,rfl⟩,q⟩
theorem BY {f:Value->Value->Sem Value}{g:Int->Int->Int}
  (rule:∀ (i j:Int) (t u:Tok) (s:Shared) (Q:Value->Shared->Prop) (E:Value->Shared->Prop),Q (.int (g i j) s.toks) { s with toks:=s.toks+1 }->wpAny (model X.prog X.w) X.A (f (.int i t) (.int j u)) Q E s) :
  OpR X f (rI0 fun i j=>.int (g i j)):=by
 intro pins s σ H x y v u Q I rx ry h
 obtain ⟨i,j,rfl,rfl,q⟩:=h
 obtain ⟨t,rfl⟩:=rx
 obtain ⟨t',rfl⟩:=ry
 exact rule i j t t' s _ _ ⟨.int (g i j),H,I.tok _,⟨_,rfl⟩,q⟩
theorem Af {f:Value->Value->Sem Value}{g:Int->Int->Bool}
  (rule:∀ (i j:Int) (t u:Tok) (s:Shared) (Q:Value->Shared->Prop) (E:Value->Shared->Prop),Q (.bool (g i j)) s->wpAny (model X.prog X.w) X.A (f (.int i t) (.int j u)) Q E s) :
  OpR X f (rI0 fun i j=>.bl (g i j)):=by
 intro pins s σ H x y v u Q I rx ry h
 obtain ⟨i,j,rfl,rfl,q⟩:=h
 obtain ⟨t,rfl⟩:=rx
 obtain ⟨t',rfl⟩:=ry
 exact rule i j t t' s _ _ ⟨.bl (g i j),H,I,rfl,q⟩
noncomputable def AV (i j:Int):Prop:=0 < j/\j < 1073741824
noncomputable def yn (i j:Int):Prop:=0<=j/\j<=1000000/\i.natAbs < 2 ^ 64
theorem op_add:OpR X (binaryOp .Add) (rI0 fun i j=>.int (i+j)):=BY fun _ _ _ _ _ _ _ q=>add_int q
theorem zU:OpR X (binaryOp .Sub) (rI0 fun i j=>.int (i-j)):=BY fun _ _ _ _ _ _ _ q=>sub_int q
theorem t8:OpR X (binaryOp .FloorDiv) (rI AV fun i j=>.int (i / j)):=opI fun i j _ _ _ _ _ hc q=>by
 have h1:(0:Int) < j:=hc.1
 have h2:j < 1073741824:=hc.2
 exact floordiv_int (by omega) (by rw [Int.fdiv_eq_ediv_of_nonneg i (by omega)]; exact q) (.inl (PyProof.noPylong_small (by omega)))
theorem zF:OpR X (binaryOp .Mod) (rI (fun _ j=>0 < j) fun i j=>.int (i % j)):=opI fun i j _ _ _ _ _ hc q=>by
 have h1:(0:Int) < j:=hc
 exact mod_int' (by omega) (by rw [Int.fmod_eq_emod_of_nonneg i (by omega)]; exact q)
theorem zV:OpR X (binaryOp .Pow) (rI yn fun i j=>.int (i ^ j.toNat)):=opI fun _ _ _ _ _ _ _ hc q=>pow_int_small hc.1 hc.2.1 hc.2.2 q
theorem unI {f:Value->Sem Value}{g:Int->Int}
  (rule:∀ (i:Int) (t:Tok) (s:Shared) (Q:Value->Shared->Prop) (E:Value->Shared->Prop),Q (.int (g i) s.toks) { s with toks:=s.toks+1 }->wpAny (model X.prog X.w) X.A (f (.int i t)) Q E s) :
  UnR X f (rU fun i=>.int (g i)):=by
 intro pins s σ H x v Q I rx h
 obtain ⟨i,rfl,q⟩:=h
 obtain ⟨t,rfl⟩:=rx
 exact rule i t s _ _ ⟨.int (g i),H,I.tok _,⟨_,rfl⟩,q⟩
theorem Ar:UnR X (unaryOp .USub) (rU fun i=>.int (-i)):=unI fun _ _ _ _ _ q=>neg_int q
end
section
variable {X:Cx}{a b c:Expr}{ta tb tc:TE}{pos:Pos}
theorem w9:OpR X (compareOp .Lt) (rI0 fun i j=>.bl (decide (i < j))):=Af fun _ _ _ _ _ _ _ q=>lt_int q
theorem rH:OpR X (compareOp .LtE) (rI0 fun i j=>.bl (decide (i<=j))):=Af fun _ _ _ _ _ _ _ q=>le_int q
theorem w8:OpR X (compareOp .Gt) (rI0 fun i j=>.bl (decide (j < i))):=Af fun _ _ _ _ _ _ _ q=>gt_int q
theorem OpR.or {f:Value->Value->Sem Value}{r r':R2}(h:OpR X f r)(h':OpR X f r'):OpR X f (fun x y H Q=>r x y H Q\/r' x y H Q):=by
 intro pins s σ H x y v u Q I rx ry q
 rcases q with q | q
 ·exact h pins s σ H x y v u Q I rx ry q
 ·exact h' pins s σ H x y v u Q I rx ry q
theorem eD (b:Expr){op:CmpOp}(h:op≠.In:=by decide)(h2:op≠.NotIn:=by decide):behindInMarks op b=false:=by
 have e1:(op==CmpOp.In)=false:=by cases op<;>first | rfl | exact absurd rfl h
 have e2:(op==CmpOp.NotIn)=false:=by cases op<;>first | rfl | exact absurd rfl h2
 cases b<;>simp [behindInMarks,e1,e2]
theorem eT {op:CmpOp}{r:R2}(ho:OpR X (compareOp op) r)(ha:PE X a ta)(hb:PE X b tb)(hm:behindInMarks op b=false):PE X (.Compare a [op] [b] pos) (tOp r ta tb):=by
 intro pins s σ H Q I h
 exact wpAny_Compare1 (zv ha hb I h fun v u s2 x y H2 I2 rx ry q=>ho pins s2 σ H2 x y v u Q I2 rx ry q) hm
noncomputable def pE (t:TE):TT:=fun σ H Q=>t σ H fun x H'=>∃ k,x=.bl k/\Q k H'
theorem my {op:CmpOp}{r:R2}(ho:OpR X (compareOp op) r)(ha:PE X a ta)(hb:PE X b tb)(hm:behindInMarks op b=false):PT X (.Compare a [op] [b] pos) (pE (tOp r ta tb)):=by
 intro pins s σ H Q I h
 refine wpAny_isTrue_Compare1 (thn (ha pins s σ H _ I h) fun v s1 ⟨x,H1,I1,r1,q1⟩=>thn (hb pins s1 σ H1 _ I1 q1) fun u s2 ⟨y,H2,I2,r2,q2⟩ =>
  thn (ho pins s2 σ H2 x y v u _ I2 r1 r2 q2) fun c s3 ⟨z,H3,I3,r3,k,e,q3⟩=>?_) hm
 subst e
 cases r3
 exact wpAny_truthy_bool ⟨H3,I3,q3⟩
noncomputable def j3 (r r':R2)(ta tb tc:TE):TE:=fun σ H Q=>ta σ H fun x H1=>tb σ H1 fun y H2=>r x y H2 fun z H3=>∃ k,z=.bl k /\
 (if k=true then tc σ H3 fun w' H4=>r' y w' H4 Q else Q (.bl false) H3)
theorem pb {op op':CmpOp}{r r':R2}(ho:OpR X (compareOp op) r)(ho':OpR X (compareOp op') r')(ha:PE X a ta)(hb:PE X b tb)(hc:PE X c tc)
  (hm:lastMarks [op,op'] [b,c]=false:=by with_unfolding_all rfl):PE X (.Compare a [op,op'] [b,c] pos) (j3 r r' ta tb tc):=by
 intro pins s σ H Q I h
 refine Compare_chain (thn (ha pins s σ H _ I h) fun v s1 ⟨x,H1,I1,r1,q1⟩=>chain_link (thn (hb pins s1 σ H1 _ I1 q1) fun u s2 ⟨y,H2,I2,r2,q2⟩ =>
  thn (ho pins s2 σ H2 x y v u _ I2 r1 r2 q2) fun d s3 ⟨z,H3,I3,r3,k,e,q3⟩=>?_)) hm
 subst e
 cases r3
 refine wpAny_truthy_bool ?_
 cases k with
 | false=>exact ite_ff ⟨.bl false,H3,I3,rfl,q3⟩
 | true=>exact ite_tt (chain_last (thn (hc pins s3 σ H3 _ I3 q3) fun w' s4 ⟨z',H4,I4,r4,q4⟩=>ho' pins s4 σ H4 y z' u w' Q I4 r2 r4 q4))
theorem qc {op op':CmpOp}{r r':R2}(ho:OpR X (compareOp op) r)(ho':OpR X (compareOp op') r')(ha:PE X a ta)(hb:PE X b tb)(hc:PE X c tc)
  (hm:lastMarks [op,op'] [b,c]=false:=by with_unfolding_all rfl):PT X (.Compare a [op,op'] [b,c] pos) (pE (j3 r r' ta tb tc)):=by
 intro pins s σ H Q I h
 refine isTrue_chain (thn (ha pins s σ H _ I h) fun v s1 ⟨x,H1,I1,r1,q1⟩=>test_link (thn (hb pins s1 σ H1 _ I1 q1) fun u s2 ⟨y,H2,I2,r2,q2⟩ =>
  thn (ho pins s2 σ H2 x y v u _ I2 r1 r2 q2) fun d s3 ⟨z,H3,I3,r3,k,e,q3⟩=>?_)) hm
 subst e
 cases r3
 refine wpAny_truthy_bool ?_
 cases k with
 | false =>
  obtain ⟨k',e',q'⟩:=q3
  cases e'
  exact ite_ff ⟨H3,I3,q'⟩
 | true =>
  refine ite_tt (test_last (thn (hc pins s3 σ H3 _ I3 q3) fun w' s4 ⟨z',H4,I4,r4,q4⟩=>thn (ho' pins s4 σ H4 y z' u w' _ I4 r2 r4 q4) fun d' s5 ⟨z2,H5,I5,r5,k2,e2,q5⟩=>?_))
  subst e2
  cases r5
  exact wpAny_truthy_bool ⟨H5,I5,q5⟩
noncomputable def rQ (K:a0a)(x:V)(H:Hp)(k:Bool):Prop :=
 match x with
 | .non=>k=false
 | .bl b=>k=b
 | .int i=>k=(i != 0)
 | .str y=>y.length<=sizeLine/\k=((y.length:Int) != 0)
 | .byt y=>y.size<=sizeLine/\k=((y.size:Int) != 0)
 | .ref p=>(∃ xs,SqL K H p xs/\k=!xs.isEmpty)\/(∃ xs,SqT K H p xs/\k=!xs.isEmpty)\/∃ kvs,H p=some (.dK kvs)/\k=!kvs.isEmpty
 | _=>False
theorem kY {κ:Type}{kvs:List (κ×V)}{vs:List (κ×Value)}(r:KV kvs vs):(!vs.isEmpty)=!kvs.isEmpty:=by
 cases r<;>rfl
theorem fG {xs:List V}{its:List Value}(r:Vals xs its):(!its.toArray.isEmpty)=!xs.isEmpty:=by
 cases r<;>simp
theorem ez:(sizeLine:Nat) < 2 ^ 63:=by rw [sizeLine_eq]; decide
theorem kH:EV X (fun x H Q=>∃ k,rQ X.K x H k/\Q k H):=by
 intro pins s σ H x v Q I rx h
 obtain ⟨k,e,q⟩:=h
 have hl:=ez
 have hs:sizeLine=16777216:=sizeLine_eq
 cases x with
 | non =>
  cases rx
  have e':k=false:=e
  subst e'
  exact truthy_none ⟨H,I,q⟩
 | bl b =>
  cases rx
  have e':k=b:=e
  subst e'
  exact wpAny_truthy_bool ⟨H,I,q⟩
 | int i =>
  obtain ⟨t,rfl⟩:=rx
  have e':k=(i != 0):=e
  subst e'
  exact PySem.P.truthy_int ⟨H,I,q⟩
 | str y =>
  obtain ⟨t,rfl⟩:=rx
  obtain ⟨hy,e'⟩:y.length<=sizeLine/\k=((y.length:Int) != 0):=e
  subst e'
  exact PySem.P.truthy_str (by omega) ⟨H,I.tok _,q⟩
 | byt y =>
  obtain ⟨t,rfl⟩:=rx
  obtain ⟨hy,e'⟩:y.size<=sizeLine/\k=((y.size:Int) != 0):=e
  subst e'
  exact PySem.W.truthy_bytes (by omega) ⟨H,I.tok _,q⟩
 | ref p =>
  cases rx
  have e':(∃ xs,SqL X.K H p xs/\k=!xs.isEmpty)\/(∃ xs,SqT X.K H p xs/\k=!xs.isEmpty)\/∃ kvs,H p=some (.dK kvs)/\k=!kvs.isEmpty:=e
  rcases e' with ⟨xs,hx,e'⟩ | ⟨xs,hx,e'⟩ | ⟨kvs,hx,e'⟩
  ·subst e'
   obtain ⟨its,r,pl,hz⟩:=I.list hx
   have hlen:=r.length
   exact wpAny_truthy_list pl.isList (by simp only [a0e]; omega) ⟨H,I.tok _,by rw [fG r]; exact q⟩
  ·subst e'
   obtain ⟨its,r,pl,hz⟩:=I.tuple hx
   have hlen:=r.length
   exact truthy_tuple pl (by simp only [a0e]; omega) ⟨H,I.tok _,by rw [fG r]; exact q⟩
  ·subst e'
   obtain ⟨hz,hS,vs,r,m⟩:kvs.length<=sizeLine/\(p==sysModules)=false/\∃ vs,KV kvs vs/\s.heap.DictOf (aF X.prog X.w) p vs:=I.hok p _ hx
   have hlen:kvs.length=vs.length:=Paired.length r
   exact wpAny_truthy_dict hS m (by omega) ⟨H,I.tok _,by rw [kY r]; exact q⟩
 | _=>exact (show False from e).elim
theorem qS (ha:PE X a ta)(he:∀ whole,isTrue a X.env whole=(do let v <- whole; standAt a.pos; holding [v] (truthy v))) :
  PT X a (fun σ H Q=>ta σ H fun x H'=>∃ k,rQ X.K x H' k/\Q k H'):=by
 intro pins s σ H Q I h
 exact isTrue_plain (thn (ha pins s σ H _ I h) fun v s1 ⟨x,H1,I1,r1,q1⟩=>kH pins s1 σ H1 x v Q I1 r1 q1) (he _)
theorem op_add_str:OpR X (binaryOp .Add) (fun x y H Q=>∃ i j,x=.str i/\y=.str j/\i.length+j.length<=sizeLine/\Q (.str (i++j)) H):=by
 intro pins s σ H x y v u Q I rx ry h
 obtain ⟨i,j,rfl,rfl,hz,q⟩:=h
 obtain ⟨t,rfl⟩:=rx
 obtain ⟨t',rfl⟩:=ry
 exact add_str (fun t' tk=>⟨.str (i++j),H,I.tok _,⟨_,rfl⟩,q⟩) hz
theorem jg {x:V}{us:List Value}(r:Vals [x] us):∃ u,us=[u]/\RelV x u:=by
 cases r with
 | cons r1 r2=>cases r2; exact ⟨_,rfl,r1⟩
theorem oZ {x y:V}{us:List Value}(r:Vals [x,y] us):∃ u w',us=[u,w']/\RelV x u/\RelV y w':=by
 cases r with
 | cons r1 r2 =>
  cases r2 with
  | cons r3 r4=>cases r4; exact ⟨_,_,rfl,r1,r3⟩
theorem nE:dW X (.type "int") (fun xs H Q=>(∃ i,xs=[.int i]/\Q (.int i) H)\/∃ k,xs=[.bl k]/\Q (.int (if k then 1 else 0)) H):=by
 intro pins s σ H xs us Q I r h
 rcases h with ⟨i,rfl,q⟩ | ⟨k,rfl,q⟩
 ·obtain ⟨u,rfl,t,rfl⟩:=jg r
  exact call_int_int ⟨.int i,H,I,⟨_,rfl⟩,q⟩
 ·obtain ⟨u,rfl,r1⟩:=jg r
  cases r1
  exact call_int_bool ⟨.int (if k then 1 else 0),H,I.tok _,⟨_,rfl⟩,q⟩
noncomputable def Cb (K:a0a)(x:V)(H:Hp)(n:Nat):Prop :=
 match x with
 | .str y=>y.length<=sizeLine/\n=y.length
 | .byt y=>y.size<=sizeLine/\n=y.size
 | .ref p=>(∃ xs,SqL K H p xs/\n=xs.length)\/∃ xs,SqT K H p xs/\n=xs.length
 | _=>False
theorem jK:dW X (.builtin "len") (fun xs H Q=>∃ x n,xs=[x]/\Cb X.K x H n/\Q (.int n) H):=by
 intro pins s σ H xs us Q I r h
 obtain ⟨x,n,rfl,e,q⟩:=h
 obtain ⟨u,rfl,rx⟩:=jg r
 have hl:=ez
 have hs:sizeLine=16777216:=sizeLine_eq
 cases x with
 | str y =>
  obtain ⟨t,rfl⟩:=rx
  obtain ⟨hy,e'⟩:y.length<=sizeLine/\n=y.length:=e
  subst e'
  exact len_str (by omega) ⟨.int _,H,I.tok _,⟨_,rfl⟩,q⟩
 | byt y =>
  obtain ⟨t,rfl⟩:=rx
  obtain ⟨hy,e'⟩:y.size<=sizeLine/\n=y.size:=e
  subst e'
  exact PySem.W.len_bytes (by omega) ⟨.int _,H,I.tok _,⟨_,rfl⟩,q⟩
 | ref p =>
  cases rx
  have e':(∃ xs,SqL X.K H p xs/\n=xs.length)\/∃ xs,SqT X.K H p xs/\n=xs.length:=e
  rcases e' with ⟨xs,hx,e'⟩ | ⟨xs,hx,e'⟩
  ·subst e'
   obtain ⟨its,r',pl,hz⟩:=I.list hx
   have hlen:=r'.length
   exact Calls.call_len_list pl.isList (by simp only [a0e]; omega) ⟨.int xs.length,H,I.tok _,⟨_,by simp only [a0e]; rw [hlen]⟩,q⟩
  ·subst e'
   obtain ⟨its,r',pl,hz⟩:=I.tuple hx
   have hlen:=r'.length
   exact len_tuple pl (by simp only [a0e]; omega) ⟨.int xs.length,H,I.tok _,⟨_,by simp only [a0e]; rw [hlen]⟩,q⟩
 | _=>exact (show False from e).elim
end
end L2
namespace L2
open PySem PySem.Spec PyProof.Rows
structure ObjM (h:Heap)(x dx C:Addr)(mA:Str->Option Value):Prop where
 obj:h.get? x=some (a2E C dx)
 ns:h.Ns1 dx mA
 ne:dx≠x
theorem cS {h:Heap}{dx:Addr}{mA:Str->Option Value}(n:h.Ns1 dx mA):∃ od,h.get? dx=some od/\∀ name,a2Q name od=some (mA name):=by
 obtain ⟨o,es,ep,ho,hd,hk,_,hm⟩:=n
 refine ⟨o,ho,fun name=>?_⟩
 have e:=hm name
 unfold nsFind findBy at e
 rw [<- a2g] at e
 unfold a2Q
 rw [hd]
 dsimp only
 split
 ·rename_i y q
  rw [q] at e
  exact congrArg some e
 ·rename_i q
  rw [q] at e
  have a:es.toList.any (·.refKey)=false:=by
   rw [List.any_eq_false]
   intro y hy
   obtain ⟨z,t,hkey⟩:=hk y (Array.mem_toList_iff.mp hy)
   simp [DictEntry.refKey,hkey]
  have a':¬ es.toList.any (·.refKey)=true:=by rw [a]; exact a0l
  rw [if_neg a']
  exact congrArg some e
theorem ObjM.look {h:Heap}{x dx C:Addr}{mA:Str->Option Value}(I:ObjM h x dx C mA):∃ od,a08 h x (a2E C dx) C (some od)/\∀ name,a2Q name od=some (mA name) :=
 let ⟨od,ho,hl⟩:=cS I.ns
 ⟨od,⟨I.obj,rfl,rfl,ho⟩,hl⟩
noncomputable def bQ (f:Str)(v:V):List (Str×V)->List (Str×V)
 | []=>[(f,v)]
 | (g,x)::r=>if g=f then (g,v)::r else (g,x)::bQ f v r
theorem RelO.some_of {v:V}{o:Option Value}(r:RelO (some v) o):∃ u,o=some u/\RelV v u:=by
 cases o with
 | none=>exact (show False from r).elim
 | some u=>exact ⟨u,rfl,r⟩
theorem mT {v:V}{u:Value}(r:RelV v u):a3c u=true:=by
 cases v with
 | non=>cases (show u=Value.none from r); rfl
 | bl b=>cases (show u=Value.bool b from r); rfl
 | int i=>obtain ⟨t,e⟩:=(show ∃ t,u=Value.int i t from r); cases e; rfl
 | str x=>obtain ⟨t,e⟩:=(show ∃ t,u=Value.str x t from r); cases e; rfl
 | byt b=>obtain ⟨t,e⟩:=(show ∃ t,u=Value.bytes b t from r); cases e; rfl
 | flt b=>obtain ⟨t,e⟩:=(show ∃ t,u=Value.float b t from r); cases e; rfl
 | ref a=>cases (show u=Value.ref a from r); rfl
 | ty n=>cases (show u=Value.type n from r); rfl
section
variable {P:Program}{w:World}{H H':Hp}{h h':Heap}{a C dx:Addr}{fs fs':List (Str×V)}
theorem vM (hok:HOk P w H h)(e:H a=some (.ins C dx fs)):∃ mA,ObjM h a dx C mA/\(∀ f,RelO (fs.lookup f) (mA f))/\a3H mA (fs.map (·.1))/\fs.length<=1000/\H dx=some (.own a):=by
 obtain ⟨d,z,ne,ob,mA,n,r,q⟩:=(show ObjOk P w H h a (.ins C dx fs) from hok a _ e)
 exact ⟨mA,⟨ob,n,ne⟩,r,q,z,d⟩
end
structure Cls (K:a0a)(C:Addr):Prop where
 pg:a3d K C Str.empty=true
 hd:a02 K C=true
 po:PySem.W.plainOver K C=true
 sa:a0x K (.ref C) "__setattr__"=some (some (.builtin "object.__setattr__"))
theorem Cls.get {K:a0a}{C:Addr}(c:Cls K C)(f:Str):a3d K C f=true:=c.pg
section
variable {X:Cx}{pins:List (Addr×Obj)}{σ:St}{H:Hp}{s:Shared}{a C dx:Addr}{fs:List (Str×V)}{f:Str}{v:V}{A:Around}{E:Value->Shared->Prop}
theorem ui {prog:Program}{w:World}{env:Env}{e:Expr}{f:Str}{pos:Pos}{s:Shared}{Q:Value->Shared->Prop}(hb:attributeBase e f env (eval e env)=eval e env)
  (h:wpAny (model prog w) A (eval e env) (fun o s₁=>wpAny (model prog w) A (getAttr o f true) Q E s₁) E s):wpAny (model prog w) A (eval (.Attribute e f pos) env) Q E s :=
 Attribute_any_ h (by rw [arm_eval_Attribute,hb])
end
section
variable {X:Cx}{pins:List (Addr×Obj)}{σ:St}{H:Hp}{s:Shared}{A:Around}{E:Value->Shared->Prop}{Q:Value->Shared->Prop}{c:Value}{b:Bool}
inductive eO (K:a0a)(H:Hp):V->Value->Prop where
 | non:eO K H .non (.type "NoneType")
 | bl (x:Bool):eO K H (.bl x) (.type "bool")
 | int (i:Int):eO K H (.int i) (.type "int")
 | str (x:Str):eO K H (.str x) (.type "str")
 | flt (x:UInt64):eO K H (.flt x) (.type "float")
 | lst {a:Addr} {xs:List V} (e:H a=some (.lst xs)):eO K H (.ref a) (.type "list")
 | frz {a:Addr} {o:Obj} {xs:List V} (e:H a=some (.frz o (.lst xs))):eO K H (.ref a) (.type "list")
 | tup {a:Addr} {xs:List V} (e:H a=some (.tup xs)):eO K H (.ref a) (.type "tuple")
 | dK {a:Addr} {kvs:List (Key×V)} (e:H a=some (.dK kvs)):eO K H (.ref a) (.type "dict")
 | dT {a:Addr} {kvs:List (List Key×V)} (e:H a=some (.dT kvs)):eO K H (.ref a) (.type "dict")
 | ins {a C dx:Addr} {fs:List (Str×V)} (e:H a=some (.ins C dx fs)) (cl:Cls K C) (ha:a0x K (.ref C) "__class__"=some (some (.builtin "object.__class__")))
   (hn:a1m K (.builtin "object.__class__") "__get__"=some (some (.builtin "getset_descriptor.__get__"))) (htk:a1K K (.builtin "object.__class__")=some true)
   (hm:a1L K C (.type "object")=some true):eO K H (.ref a) (.ref C)
theorem cx {x:V}{u t:Value}(I:Inv X pins σ H s)(rx:RelV x u)(ty:eO X.K H x t)(e:a0C X.K t c=some b)(h:∀ tk,Q (.bool b) { s with toks:=tk }) :
  wpAny (model X.prog X.w) A (call (.builtin "isinstance") [u,c]) Q E s:=by
 cases ty with
 | non=>cases (show u=Value.none from rx); exact a0G a27 I.kIn a1e e (fun z=>nomatch z) h
 | bl y=>cases (show u=Value.bool y from rx); exact a0G PySem.W.kitx_bool I.kIn a1e e (fun z=>nomatch z) h
 | int i=>obtain ⟨t,q⟩:=(show ∃ t,u=Value.int i t from rx); cases q; exact a0G PySem.W.kitx_int I.kIn a1e e (fun z=>nomatch z) h
 | str y=>obtain ⟨t,q⟩:=(show ∃ t,u=Value.str y t from rx); cases q; exact a0G PySem.W.kitx_str I.kIn a1e e (fun z=>nomatch z) h
 | flt y=>obtain ⟨t,q⟩:=(show ∃ t,u=Value.float y t from rx); cases q; exact a0G PySem.W.kitx_float I.kIn a1e e (fun z=>nomatch z) h
 | @lst a xs ea =>
  cases (show u=Value.ref a from rx)
  obtain ⟨_,_,n,_,h1⟩:=(show ObjOk X.prog X.w H s.heap a (.lst xs) from I.hok a _ ea)
  exact a0G a2u I.kIn ⟨_,h1,rfl⟩ e (fun z=>nomatch z) h
 | @frz a ob xs ea =>
  cases (show u=Value.ref a from rx)
  obtain ⟨_,_,_,n,_,h1⟩:=(show ObjOk X.prog X.w H s.heap a (.frz ob (.lst xs)) from I.hok a _ ea)
  exact a0G a2u I.kIn ⟨_,h1,rfl⟩ e (fun z=>nomatch z) h
 | @tup a xs ea =>
  cases (show u=Value.ref a from rx)
  obtain ⟨_,_,_,p⟩:=(show ObjOk X.prog X.w H s.heap a (.tup xs) from I.hok a _ ea)
  obtain ⟨o,h1,h2,_⟩:=p
  exact a0G a2V I.kIn ⟨o,h1,h2⟩ e (fun z=>nomatch z) h
 | @dK a kvs ea =>
  cases (show u=Value.ref a from rx)
  obtain ⟨_,_,vs,_,p⟩:=(show ObjOk X.prog X.w H s.heap a (.dK kvs) from I.hok a _ ea)
  obtain ⟨o,es,ep,h1,h2,_⟩:=p
  exact a0G a28 I.kIn ⟨o,h1,h2.1⟩ e (fun z=>nomatch z) h
 | @dT a kvs ea =>
  cases (show u=Value.ref a from rx)
  obtain ⟨_,_,xs,_,o,es,ep,h1,h2,_⟩:=(show ObjOk X.prog X.w H s.heap a (.dT kvs) from I.hok a _ ea)
  exact a0G a28 I.kIn ⟨o,h1,h2.1⟩ e (fun z=>nomatch z) h
 | @ins a C dx fs ea cl ha hn htk hm =>
  cases (show u=Value.ref a from rx)
  obtain ⟨mA,O,_⟩:=vM I.hok ea
  obtain ⟨od,J,_⟩:=O.look
  exact a0G (PySem.W.kitx_own (cl.get _) cl.hd ha hn htk hm) I.kIn J e (fun z=>nomatch z) h
end
end L2
namespace L2
open PySem PySem.Spec PyProof.Rows
structure Room (k:Nat)(A:Around):Prop where
 hd:A.handled=none
 dp:A.depth+3 * k+5 < recursionLimit
 un:A.units+16 * k+200 < cLine
 gu:A.guards=some []
theorem Room.deeper {k:Nat}{A:Around}(r:Room (k+1) A)(env:Env):Room k (A.deeper env) :=
 ⟨r.hd,by have:=r.dp; show A.depth+1+3 * k+5 < _; omega,by have:=r.un; show A.units+3+16 * k+200 < _; omega,r.gu⟩
theorem lg {A:Around}{C:Addr}{us:List Value}{kw:List (Str×Value)}:(A.under (.builtin "type.__call__" ⟨.ref C::us,kw⟩)).depth=A.depth+1:=by
 first | rfl | simp [Around.under,Code.weight,Code.isCreation,Code.isGuard,Code.isCaller,Code.frames,Code.isFrame,guardIds]
theorem km {A:Around}{C:Addr}{us:List Value}{kw:List (Str×Value)}:(A.under (.builtin "type.__call__" ⟨.ref C::us,kw⟩)).units=A.units+1:=by
 first | rfl | simp [Around.under,Code.cUnits,Code.frames,Code.isFrame]
theorem make_guards {A:Around}{C:Addr}{us:List Value}{kw:List (Str×Value)}:(A.under (.builtin "type.__call__" ⟨.ref C::us,kw⟩)).guards=A.guards:=by
 first | rfl | simp [Around.under,Code.isGuard,guardIds]
theorem Room.make {k:Nat}{A:Around}(r:Room (k+1) A)(C:Addr)(us:List Value)(kw:List (Str×Value)):Room k (A.under (.builtin "type.__call__" ⟨.ref C::us,kw⟩)) :=
 ⟨r.hd,by have:=r.dp; rw [lg]; omega,by have:=r.un; rw [km]; omega,make_guards.trans r.gu⟩
theorem Room.depth {k:Nat}{A:Around}(r:Room k A):A.depth < recursionLimit:=by have:=r.dp; omega
theorem Room.units {k:Nat}{A:Around}(r:Room k A):A.units+64 < cLine:=by have:=r.un; omega
noncomputable def zR:TA:=fun _ H Q=>Q [] H
noncomputable def lP (ta:TE)(tr:TA):TA:=fun σ H Q=>ta σ H fun x H1=>tr σ H1 fun xs H2=>Q (x::xs) H2
section
variable {X:Cx}{e:Expr}{es:List Expr}{te:TE}{t:TA}{pos:Pos}
theorem bO:PA X [] zR:=fun _ _ _ _ H Q I h=>Calls.spliced_nil ⟨[],H,I,.nil,h⟩
theorem aH (ha:PE X e te)(hr:PA X es t)(hs:starEach (e::es) X.env=(false,eval e X.env)::starEach es X.env:=by rfl):PA X (e::es) (lP te t):=by
 intro pos pins s σ H Q I h
 rw [hs]
 show wpAny _ _ (spliced ((false,eval e X.env)::backTo pos (starEach es X.env))) _ _ s
 refine Calls.spliced_cons (thn (ha pins s σ H _ I h) fun u s1 ⟨x,H1,I1,r1,q1⟩=>?_)
 exact thn (hr pos pins s1 σ H1 _ I1 q1) fun us s2 ⟨xs,H2,I2,r2,q2⟩=>⟨x::xs,H2,I2,.cons r1 r2,q2⟩
noncomputable def Di (t:TA):TE:=fun σ H Q=>t σ H fun xs H1=>xs.length<=sizeLine/\∀ p,H1 p=none->Q (.ref p) (upd H1 p (.tup xs))
noncomputable def Cu (t:TA):TE:=fun σ H Q=>t σ H fun xs H1=>xs.length<=sizeLine/\∀ p,H1 p=none->Q (.ref p) (upd H1 p (.lst xs))
theorem oi {x1}(h:PA X es t):PE X (.Tuple es x1 pos) (Di t):=by
 intro pins s σ H Q I hq
 refine wpAny_Tuple_spliced (thn (h pos pins s σ H _ I hq) fun us s1 ⟨xs,H1,I1,r,z,q⟩=>⟨by rw [<- r.length]; exact z,?_⟩)
 have hf:H1 s1.heap.objs.size=none:=I1.hok.fresh (a0j _)
 refine ⟨.ref s1.heap.objs.size,upd H1 s1.heap.objs.size (.tup xs),I1.laid (t':=s1.toks) (fun b u e=>Heap.get?_push_of_some _ e) (a0j _) ?_,rfl,q _ hf⟩
 exact ⟨z,us,r,⟨_,Heap.get?_push_size _ rfl,rfl,_,rfl⟩⟩
theorem yp (h:PA X es t):PE X (.List es pos) (Cu t):=by
 intro pins s σ H Q I hq
 refine wpAny_List_spliced (thn (h pos pins s σ H _ I hq) fun us s1 ⟨xs,H1,I1,r,z,q⟩=>⟨by rw [<- r.length]; exact z,?_⟩)
 have hf:H1 s1.heap.objs.size=none:=I1.hok.fresh (a0j _)
 refine ⟨.ref s1.heap.objs.size,upd H1 s1.heap.objs.size (.lst xs),I1.laid (t':=s1.toks) (fun b u e=>Heap.get?_push_of_some _ e) (a0j _) ?_,rfl,q _ hf⟩
 exact ⟨z,us,0,r,Heap.get?_push_size _ rfl⟩
end
noncomputable abbrev Sp:=List V->Hp->VK->XK->Prop
noncomputable abbrev CXT:=List Env->Hp->Shared->XK->Value->Shared->Prop
structure Env0 (P:Program)(w:World)(K:a0a)(mg:Str->Option Value)(base:Heap)(A:Around)(outer:List Env)(s:Shared)(H:Hp):Prop where
 frames:A.frames=some outer
 mod:Mod K mg base
 bs:∀ b o,base.get? b=some o->s.heap.get? b=some o/\H b=none
 bsz:base.objs.size<=s.heap.objs.size
 funs:s.heap.FunFrames base outer
 frf:∀ b∈frs outer,H b=none
 hok:HOk P w H s.heap
 bare:AllBare s.gens
noncomputable def CE (outer:List Env)(P:Program)(w:World)(H:Hp)(s:Shared)(Q:VK)(u:Value)(s':Shared):Prop :=
 ∃ v H',s'.os=s.os/\AllBare s'.gens/\Un (frs outer) [] H H' s.heap s'.heap/\HOk P w H' s'.heap/\RelV v u/\Q v H'
noncomputable def CR (CX:CXT)(outer:List Env)(P:Program)(w:World)(H:Hp)(s:Shared)(Q:VK)(E:XK)(r:Result)(s':Shared):Prop :=
 match r with
 | .ok (.ret u)=>CE outer P w H s Q u s'
 | .ok _=>False
 | .error e=>CX outer H s E e s'
structure bJ (P:Program)(w:World)(K:a0a)(mg:Str->Option Value)(base:Heap)(CX:CXT)(k:Nat)(f:Addr)(fd:FuncData)(ps:List Str)(sp:Sp):Prop where
 len:∀ vs H Q E,sp vs H Q E->vs.length=ps.length
 run:∀ (A:Around) (outer:List Env) (s:Shared) (H:Hp) (args:Args) (us:List Value) (vs:List V) (Q:VK) (E:XK),Room k A->Env0 P w K mg base A outer s H->BindsTo s fd args (ps.zip us)->Vals vs us->sp vs H Q E ->
  codeAny (model P w) A (.call (.ref f) args) (CR CX outer P w H s Q E) s
theorem Env0.make {P:Program}{w:World}{K:a0a}{mg:Str->Option Value}{base:Heap}{A:Around}{outer:List Env}{s:Shared}{H:Hp}(e:Env0 P w K mg base A outer s H)(C:Addr)(us:List Value)(kw:List (Str×Value)) :
  Env0 P w K mg base (A.under (.builtin "type.__call__" ⟨.ref C::us,kw⟩)) outer s H:=⟨by first | exact e.frames | (simpa [Around.under,Code.envs,Code.isFrame,pushEnvs] using e.frames),e.mod,e.bs,e.bsz,e.funs,e.frf,e.hok,e.bare⟩
section
variable {X:Cx}{pins:List (Addr×Obj)}{σ:St}{H:Hp}{s s':Shared}
theorem Inv.env0 (I:Inv X pins σ H s):Env0 X.prog X.w X.K X.mg X.base X.A X.stack s H :=
 ⟨I.ok.frames,I.ok.mod,I.bs,a0s I.ok.bsz I.sz,I.stack,I.stkFree,I.hok,I.bare⟩
theorem Inv.after {Q:VK}{u:Value}(I:Inv X pins σ H s)(h:CE X.stack X.prog X.w H s Q u s'):EP X pins σ Q u s':=by
 obtain ⟨v,H',os,bare,un,hok,r,q⟩:=h
 obtain ⟨hh,g,d,t,os'⟩:=s'
 obtain rfl:os'=s.os:=os
 exact ⟨v,H',I.call (h':=hh) (g':=g) (d':=d) (t':=t) (ch:=[]) un hok bare (fun b z=>absurd z (by simp)),r,q⟩
end
noncomputable def DW (sp:Sp)(dvs:List V)(E:XK)(t:TA):TE:=fun σ H Q=>t σ H fun vs H1=>sp (vs++dvs) H1 Q E
noncomputable def Binds (K:a0a)(fd:FuncData)(ps:List Str)(ds:List Value):Prop :=
 ∀ (s:Shared) (us:List Value),K.In s.heap->(us++ds).length=ps.length->BindsTo s fd ⟨us,[]⟩ (ps.zip (us++ds))
theorem Binds.all {K:a0a}{fd:FuncData}{ps:List Str}(h:∀ us:List Value,us.length=ps.length->bindArgs fd ⟨us,[]⟩=pure (ps.zip us)):Binds K fd ps []:=fun s us _ hl=>by
 rw [a0B] at hl ⊢
 exact .of_eq (h us hl)
noncomputable def gb (CX:CXT)(X:Cx)(E:XK):Prop:=∀ (pins:List (Addr×Obj)) (σ:St) (H:Hp) (s:Shared) (e:Value) (s':Shared),Inv X pins σ H s->CX X.stack H s E e s'->X.xe e s'
section
variable {X:Cx}{CX:CXT}{k:Nat}{f C:Addr}{fd:FuncData}{ps:List Str}{sp:Sp}{dvs:List V}{ds:List Value}{E:XK}{x m:Str}{p pos apos:Pos}{e o:Expr}{es:List Expr}{ta:TE}{t:TA}
theorem zi {pins:List (Addr×Obj)}{σ:St}{H:Hp}{s:Shared}{Q:VK}{us:List Value}{vs:List V}(F:bJ X.prog X.w X.K X.mg X.base CX k f fd ps sp)(hr:Room k X.A)(hb:Binds X.K fd ps ds)(hd:Vals dvs ds)(hx:gb CX X E)
  (I:Inv X pins σ H s) (r:Vals vs us) (h:sp (vs++dvs) H Q E):wpAny (model X.prog X.w) X.A (call (.ref f) us) (EP X pins σ Q) X.xe s:=by
 have r2:Vals (vs++dvs) (us++ds):=r.append hd
 have hl:(us++ds).length=ps.length:=by rw [<- r2.length]; exact F.len _ _ _ _ h
 refine wpAny_call (codeAny_mono (F.run X.A X.stack s H ⟨us,[]⟩ (us++ds) (vs++dvs) Q E hr I.env0 (hb s us I.kIn hl) r2 h) fun r s' hq=>?_)
 cases r with
 | error e=>exact hx pins σ H s e s' I hq
 | ok fl =>
  cases fl with
  | ret u=>exact I.after hq
  | next=>exact a0R hq
  | brk=>exact a0R hq
  | cont=>exact a0R hq
theorem tZ (F:bJ X.prog X.w X.K X.mg X.base CX k f fd ps sp)(hr:Room k X.A)(hg:Gl X x)(hm:X.mg x=some (.ref f))(hk:a1k X.K (.ref f)=true)(hb:Binds X.K fd ps ds)(hd:Vals dvs ds)(hx:gb CX X E)
  (ha:PA X (e::es) t) (hdb:(x==("__debug__":Str))=false:=by decide) (he:starEach (e::es) X.env=(false,eval e X.env)::starEach es X.env:=by rfl) (hpl:(backTo pos (starEach es X.env)).any (·.1)=false:=by rfl) :
  PE X (.Call (.Name x p) (e::es) [] pos) (DW sp dvs E t):=by
 intro pins s σ H Q I h
 refine wpAny_Call_Name_kw (cR I hg hm ?_ hdb)
 refine a2h (h₀:=X.base) I.ok.mod.kin hk (thn (ha pos pins s σ H _ I h) fun us s1 ⟨vs,H1,I1,r,q⟩=>⟨I1.kIn,?_⟩) he hpl
 exact zi F hr hb hd hx I1 r q
end
structure ak (N P:List Str)(sc:Scope):Prop where
 kind:sc.kind=.function
 co:sc.isCoroutine=false
 gen:sc.isGenerator=false
 nd:N.Nodup
 pre:N.take P.length=P
 par:∀ x∈P,sc.names.lookup x=some .local\/sc.names.lookup x=some .cell
 nofree:∀ y∈sc.names,y.2≠.free
theorem gM {kindOf:Str->Option NameKind}{x:Str}:∀ {binds:List (Str×Value)} {m:Str->Option Value},(∀ v,(x,v) ∉ binds)->bindL kindOf binds m x=m x
 | [],_,_=>rfl
 | (n,v)::r,m,h=>by
  unfold bindL
  rw [gM fun w hw=>h w (a0f _ hw)]
  split
  ·have:x≠n:=by rintro rfl; exact h v a0k
   simp [this]
  ·rfl
theorem gA {kindOf:Str->Option NameKind}{x:Str}:∀ {binds:List (Str×Value)} {m:Str->Option Value},(∀ v,(x,v) ∉ binds)->bindC kindOf binds m x=m x
 | [],_,_=>rfl
 | (n,v)::r,m,h=>by
  unfold bindC
  rw [gA fun w hw=>h w (a0f _ hw)]
  split
  ·rfl
  ·have:x≠n:=by rintro rfl; exact h v a0k
   simp [this]
theorem gD {kindOf:Str->Option NameKind}{x:Str}{v:Value}:∀ {P:List Str} {vs:List Value} {i:Nat} {m:Str->Option Value},P.Nodup->P[i]?=some x->vs[i]?=some v->kindOf x=some .local ->
  bindL kindOf (P.zip vs) m x=some v
 | [],_,_,_,_,h,_,_=>by simp at h
 | _::_,[],_,_,_,_,h,_=>by simp at h
 | p::P,w::vs,0,m,nd,h1,h2,hk=>by
  simp at h1 h2; subst h1; subst h2
  show bindL kindOf ((p,w)::P.zip vs) m p=_
  unfold bindL
  rw [gM fun v hv=>(a1A.mp nd).1 (a2G hv).1,if_pos hk]
  simp
 | p::P,w::vs,i+1,m,nd,h1,h2,hk=>by
  show bindL kindOf ((p,w)::P.zip vs) m x=_
  unfold bindL
  exact gD (i:=i) (a1A.mp nd).2 (by simpa using h1) (by simpa using h2) hk
theorem gC {kindOf:Str->Option NameKind}{x:Str}{v:Value}:∀ {P:List Str} {vs:List Value} {i:Nat} {m:Str->Option Value},P.Nodup->P[i]?=some x->vs[i]?=some v->kindOf x≠some .local ->
  bindC kindOf (P.zip vs) m x=some v
 | [],_,_,_,_,h,_,_=>by simp at h
 | _::_,[],_,_,_,_,h,_=>by simp at h
 | p::P,w::vs,0,m,nd,h1,h2,hk=>by
  simp at h1 h2; subst h1; subst h2
  show bindC kindOf ((p,w)::P.zip vs) m p=_
  unfold bindC
  rw [gA fun v hv=>(a1A.mp nd).1 (a2G hv).1,if_neg hk]
  simp
 | p::P,w::vs,i+1,m,nd,h1,h2,hk=>by
  show bindC kindOf ((p,w)::P.zip vs) m x=_
  unfold bindC
  exact gC (i:=i) (a1A.mp nd).2 (by simpa using h1) (by simpa using h2) hk
noncomputable def start (N:List Str)(vs:List V):St:=vs.map some++a0r (N.length-vs.length) none
noncomputable def dY (CX:CXT)(P:Program)(w:World)(K:a0a)(mg:Str->Option Value)(base:Heap)(N:List Str)(qual:Str)(scope:Scope)(f:Addr)(cd:Value)(A:Around)(outer:List Env)(s:Shared)(H:Hp)(E:XK):Cx where
 prog:=P
 w:=w
 K:=K
 mg:=mg
 base:=base
 A:=A.deeper (envOfC qual scope s.heap.objs.size f cd)
 N:=N
 s₀:=s
 H₀:=H
 env:=envOfC qual scope s.heap.objs.size f cd
 outer:=outer
 stack:=envOfC qual scope s.heap.objs.size f cd::outer
 ex:=[]
 calm:=true
 fn:=fun _=>true
 pn:=[]
 xe:=fun e s'=>wpAny (model P w) (A.deeper (envOfC qual scope s.heap.objs.size f cd)) (leaving (envOfC qual scope s.heap.objs.size f cd) e) (fun _ s''=>CX outer H s E e s'') (fun e' s''=>CX outer H s E e' s'') s'
theorem jQ {sc:Scope}{n:Nat}{x:Str}(h:sc.names.lookup x=some .cell):∃ c,(cellsFrom n sc.names []).lookup x=some c:=by
 have q:=a2A sc.names n [] (.inl h)
 exact a2v.mp q
theorem mX {CX:CXT}{P:Program}{w:World}{K:a0a}{mg:Str->Option Value}{base:Heap}{N ps:List Str}{qual:Str}{scope:Scope}{f:Addr}{cd:Value}{A:Around}{outer:List Env}{s s1:Shared}{H:Hp}{E:XK}{us:List Value}{vs:List V}
  (S:ak N ps scope) (hd:A.handled=none) (e0:Env0 P w K mg base A outer s H) (hl:vs.length=ps.length) (r:Vals vs us)
  (x:InCallC s s.heap.objs.size (bindL (envOfC qual scope s.heap.objs.size f cd).kindOf (ps.zip us) fun _=>none) (cellsFrom (s.heap.objs.size+1) scope.names []) (bindC (envOfC qual scope s.heap.objs.size f cd).kindOf (ps.zip us) fun _=>none) s1) :
  Inv (dY CX P w K mg base N qual scope f cd A outer s H E) [] (start N vs) H s1:=by
 have hpl:ps.length<=N.length:=by have:=congrArg a2T S.pre; rw [a0W] at this; omega
 obtain ⟨h1,tk,rfl,hk⟩:=x.done
 have noA:∀ b:Addr,b ∉ (dY CX P w K mg base N qual scope f cd A outer s H E).ex:=fun b z=>absurd (show b∈([]:List Addr) from z) (by simp)
 refine ⟨⟨e0.mod,S.kind,rfl,rfl,a0j _,fun y z c h1 h2=>?_,fun y hy=>?_,fun y c _ h=>?_,fun _=>hd,Around.frames_deeper e0.frames,.inr ⟨rfl,rfl⟩,fun b z=>absurd z (noA b),e0.bs,e0.bsz,fun b _ _=>noA b,fun b z=>absurd z (noA b),e0.funs,e0.frf⟩,
  rfl,e0.bare,Un.kept hk,⟨_,x.toInCall.ns,fun i y v h1 h2 h3=>?_⟩,fun y c h=>⟨_,x.cell y c h⟩,e0.hok.fresh (a0j _),fun y c h=>?_,fun p hp=>absurd (show p∈([]:List (Addr×Obj)) from hp) (by simp),e0.hok.kept hk,?_⟩
 ·exact name_of_addr x.apart (a1b h1) (a1b h2)
 ·have hy:scope.names.lookup y=some .cell\/scope.names.lookup y=some .free:=hy
  rcases hy with hy | hy
  ·exact jQ hy
  ·exact absurd rfl (S.nofree _ (a1b hy))
 ·exact a2F (x.above y c (a1b h))
 ·have hi:i < vs.length:=by
   unfold start at h2
   by_cases hi:i < vs.length
   ·exact hi
   ·rw [a0I (by simpa using hi)] at h2
    rw [a1M] at h2
    split at h2<;>cases h2
  have ha:vs[i]?=some v:=by
   unfold start at h2
   rw [a04 (by simpa using hi),a0y] at h2
   cases e:vs[i]? with
   | none=>rw [e] at h2; cases h2
   | some a=>rw [e] at h2; cases h2; rfl
  obtain ⟨u,hu,rv⟩:=r.get ha
  have hp:ps[i]?=some y:=by
   rw [<- S.pre,List.getElem?_take_of_lt (by omega)]; exact h1
  have ndP:ps.Nodup:=by rw [<- S.pre]; exact S.nd.sublist (List.take_sublist _ _)
  refine ⟨u,rv,?_⟩
  rcases S.par y (a1l hp) with k | k
  ·exact .inl ⟨k,gD ndP hp hu k⟩
  ·obtain ⟨c,e⟩:=jQ (n:=s.heap.objs.size+1) k
   refine .inr ⟨.inl k,c,e,?_⟩
   have q:=x.cell y c e
   rw [gC ndP hp hu (by show scope.names.lookup y≠_; rw [k]; decide)] at q
   exact q
 ·exact e0.hok.fresh (a2F (x.above y c (a1b h)))
 ·unfold start
  show _=N.length
  rw [a0c,a0b,a0M]
  omega
theorem xi {CX:CXT}{P:Program}{w:World}{K:a0a}{mg:Str->Option Value}{base:Heap}{k:Nat}{f:Addr}{name qual:Str}{params:Arguments}{body:List Stmt}{scope:Scope}{dV kV doc pm cdv ct oc:Value}{an od:Option Addr}
  {osl:Array (Option Value)} {N ps:List Str} {sp:Sp} (lk:K.lookup f=some ⟨oc,od,.func (a09 name qual params body scope dV kV doc pm an cdv ct),osl⟩) (hcd:a2n K cdv qual=true) (S:ak N ps scope)
  (len:∀ vs H Q E,sp vs H Q E->vs.length=ps.length)
  (hbody:∀ (A:Around) (outer:List Env) (s:Shared) (H:Hp) (vs:List V) (Q:VK) (E:XK),Room k (A.deeper (envOfC qual scope s.heap.objs.size f cdv))->sp vs H Q E ->
   ∃ t,PSs (dY CX P w K mg base N qual scope f cdv A outer s H E) body t/\t { nx:=fun _ H'=>Q .non H',rt:=Q } (start N vs) H) :
  bJ P w K mg base CX (k+1) f (a09 name qual params body scope dV kV doc pm an cdv ct) ps sp:=by
 refine ⟨len,fun A outer s H args us vs Q E hr e0 hb r hsp=>?_⟩
 have hl:=len _ _ _ _ hsp
 have KX:K.In s.heap:=e0.mod.kin.keeps fun b o e=>(e0.bs b o e).1
 have lim:s.heap.NoLimit:=e0.mod.nolimit.keeps fun b o e=>(e0.bs b o e).1
 have hkind:∀ y∈ps.zip us,scope.names.lookup y.1=some .local\/(scope.names.lookup y.1=some .cell/\((cellsFrom (s.heap.objs.size+1) scope.names []).lookup y.1).isSome=true):=fun ⟨n,v⟩ hy=>by
  rcases S.par n (a2G hy).1 with q | q
  ·exact .inl q
  ·exact .inr ⟨q,a2A _ _ _ (.inl q)⟩
 refine codeAny_call_function hr.depth (KX _ _ lk) rfl S.co S.gen rfl (PySem.W.codeRec_of KX hcd) (hb _ _ _ _ ?_)
 refine wpAny_newFunctionEnv_cells S.kind hkind fun env he s1 x=>?_
 subst he
 refine ⟨lim.keeps x.toInCall.keep,codeAny_func ?_⟩
 obtain ⟨t,ht,hq⟩:=hbody A outer s H vs Q E (hr.deeper _) hsp
 have I:Inv (dY CX P w K mg base N qual scope f cdv A outer s H E) [] (start N vs) H s1:=mX S hr.hd e0 hl r x
 refine wpAny_mono (ht [] s1 (start N vs) H _ I hq) (fun fl s' hs=>?_) fun e s' hs=>hs
 have fin:∀ {σ':St} {H':Hp} {v:V} {u:Value},Inv (dY CX P w K mg base N qual scope f cdv A outer s H E) [] σ' H' s'->RelV v u->Q v H'->CE outer P w H s Q u s' :=
  fun {σ' H' v u} J rv q=>⟨v,H',J.os,J.bare,J.base,J.hok,rv,q⟩
 cases fl with
 | ret u =>
  obtain ⟨v,σ',H',J,rv,q⟩:=hs
  exact fin J rv q
 | next =>
  obtain ⟨σ',H',J,q⟩:=hs
  exact fin (v:=V.non) (u:=Value.none) J rfl q
 | brk =>
  obtain ⟨_,_,_,q⟩:=hs
  exact a0R q
 | cont =>
  obtain ⟨_,_,_,q⟩:=hs
  exact a0R q
end L2
namespace L2
open PySem PySem.Spec PyProof.Rows
section
variable {X:Cx}{x:Str}{p pos:Pos}{e:Expr}{es:List Expr}{t:TA}{id T:String}{r:List V->Hp->VK->Prop}
noncomputable def tCB (r:List V->Hp->VK->Prop)(t:TA):TE:=fun σ H Q=>t σ H fun vs H1=>r vs H1 Q
theorem cN (hc:dW X (.builtin id) r)(hg:Gl X x)(hm:X.mg x=none)(hv:bootBuiltins x=some (.builtin id))(ha:PA X (e::es) t)(hn:x≠"__name__":=by decide)(hdb:(x==("__debug__":Str))=false:=by decide)
  (he:starEach (e::es) X.env=(false,eval e X.env)::starEach es X.env:=by rfl) (hpl:(backTo pos (starEach es X.env)).any (·.1)=false:=by rfl):PE X (.Call (.Name x p) (e::es) [] pos) (tCB r t):=by
 intro pins s σ H Q I h
 refine wpAny_Call_Name_kw (ef I hg hm hv ?_ hn hdb)
 exact a17 (thn (ha pos pins s σ H _ I h) fun us s1 ⟨vs,H1,I1,r1,q1⟩=>hc pins s1 σ H1 vs us Q I1 r1 q1) he hpl
theorem el (hc:dW X (.type T) r)(hg:Gl X x)(hm:X.mg x=none)(hv:bootBuiltins x=some (.type T))(ha:PA X (e::es) t)(hn:x≠"__name__":=by decide)(hdb:(x==("__debug__":Str))=false:=by decide)
  (he:starEach (e::es) X.env=(false,eval e X.env)::starEach es X.env:=by rfl) (hpl:(backTo pos (starEach es X.env)).any (·.1)=false:=by rfl):PE X (.Call (.Name x p) (e::es) [] pos) (tCB r t):=by
 intro pins s σ H Q I h
 refine wpAny_Call_Name_kw (ef I hg hm hv ?_ hn hdb)
 exact a1a (thn (ha pos pins s σ H _ I h) fun us s1 ⟨vs,H1,I1,r1,q1⟩=>hc pins s1 σ H1 vs us Q I1 r1 q1) he hpl
end
end L2
namespace HT
open PySem PyProof.Rows
section
variable {prog:Program}{w:World}{A:Around}{E:Value->Shared->Prop}{s:Shared}
theorem cat_tup {t b:Addr}{vs ws:List Value}{Q:Value->Shared->Prop}(ht:IsTup s.heap t vs.toArray)(hb:IsTup s.heap b ws.toArray)(hv:vs≠[])
  (h1:ws=[]->Q (.ref t) s) (h2:ws≠[]->Q (.ref s.heap.objs.size) { s with heap:=s.heap.push { cls:=.type "tuple",data:=.seq (vs++ws).toArray } })
  (hsz:vs.length+ws.length<=sizeLine):wpAny (model prog w) A (binaryOp .Add (.ref t) (.ref b)) Q E s:=by
 obtain ⟨⟨cls,dd,data,sl⟩,ho,hc,n,hd⟩:=id ht
 obtain ⟨⟨cls2,dd2,data2,sl2⟩,ho2,hc2,n2,hd2⟩:=id hb
 simp only at hc hd hc2 hd2
 subst hc hd hc2 hd2
 have e:vs.toArray++ws.toArray=(vs++ws).toArray:=by simp
 by_cases hw:ws=[]
 ·exact concat_meets ⟨_,ho,rfl⟩ ⟨_,ho2,rfl⟩ noFill_tuple_add seq_tuple_add a1W a1N (a1H _ _)
   (tuple_addW1 t b vs.toArray ws.toArray n n2 dd dd2 sl sl2 (by simpa using hv) (by simp [hw])) ⟨ho,ho2,h1 hw⟩
 ·refine concat_meets ⟨_,ho,rfl⟩ ⟨_,ho2,rfl⟩ noFill_tuple_add seq_tuple_add a1W a1N (a1H _ _)
   (tuple_addW2 t b vs.toArray ws.toArray n n2 dd dd2 sl sl2 (by simpa using hv) (by simpa using hw) (by rw [a0e,a0e]; exact hsz)) ⟨ho,ho2,?_⟩
  rw [e]
  exact h2 hw
noncomputable def sIx (n d:Nat):Option Int->Nat
 | none=>d
 | some v=>if v < 0 then (v+(n:Int)).toNat else min v.toNat n
theorem yj (n d:Nat)(hd:d<=n)(o:Option Int):sIx n d o<=n:=by
 cases o with
 | none=>exact hd
 | some v =>
  show (if v < 0 then (v+(n:Int)).toNat else min v.toNat n)<=n
  by_cases hv:v < 0
  ·rw [if_pos hv]; omega
  ·rw [if_neg hv]; exact Nat.min_le_right _ _
theorem lZ (v:Int)(n d:Nat):(if v < 0 then max (v+(n:Int)) 0 else min v (n:Int))=((sIx n d (some v):Nat):Int):=by
 show (if v < 0 then max (v+(n:Int)) 0 else min v (n:Int))=(((if v < 0 then (v+(n:Int)).toNat else min v.toNat n):Nat):Int)
 by_cases hv:v < 0
 ·simp only [if_pos hv]; omega
 ·simp only [if_neg hv]; omega
theorem kA (lo hi:Option Int)(n:Nat):Builtin.Slice.sliceAdjust lo hi 1 (n:Int)=(((sIx n 0 lo:Nat):Int),((sIx n n hi:Nat):Int)):=by
 have h1:¬ ((1:Int) < 0):=by omega
 unfold Builtin.Slice.sliceAdjust
 simp only [h1,if_false]
 refine Prod.ext ?_ ?_
 ·cases lo with
  | none=>rfl
  | some v=>exact lZ v n 0
 ·cases hi with
  | none=>rfl
  | some v=>exact lZ v n n
theorem kP (i j:Nat):Builtin.Slice.slicePlaces (i:Int) (j:Int) 1=j-i:=by
 unfold Builtin.Slice.slicePlaces
 have h1:(1:Int) > 0:=by omega
 simp only [h1,if_true,Int.ediv_one]
 split<;>omega
theorem fw {v:Value}{o:Option Int}{Q:Option Int->Shared->Prop}(p:IsPart v o)(h:Q o s):wpAny (model prog w) A (Builtin.Slice.slicePartIndex v) Q E s:=by
 cases p with
 | none=>exact slicePart_none h
 | int i t=>exact slicePart_int h
theorem sliceApplied_gen {sl:Addr}{vl vu:Value}{lo hi:Option Int}{n:Nat}{Q:Int×Int×Nat->Shared->Prop}(hs:s.heap.IsSliceOf sl vl vu .none)(pl:IsPart vl lo)(pu:IsPart vu hi)
  (h:Q (((sIx n 0 lo:Nat):Int),1,sIx n n hi-sIx n 0 lo) s):wpAny (model prog w) A (Builtin.Slice.sliceApplied (.ref sl) (pure (n:Int))) Q E s:=by
 obtain ⟨os,hos,hcs,hds⟩:=id hs
 unfold Builtin.Slice.sliceApplied Builtin.Slice.sliceFields
 refine wpAny_bind (wpAny_bind (wpAny_field hos hds (x:=vl) rfl (wpAny_bind (wpAny_field hos hds (x:=vu) rfl (wpAny_bind (wpAny_field hos hds (x:=.none) rfl (wpAny_pure ?_)))))))
 refine wpAny_bind (slicePart_none ?_)
 show wpAny _ _ (if ((1:Int)==0)=true then _ else _) _ _ s
 rw [if_neg (by decide)]
 refine wpAny_bind (fw pl (wpAny_bind (fw pu (wpAny_bind (wpAny_pure ?_)))))
 show wpAny _ _ (match Builtin.Slice.sliceAdjust lo hi 1 (n:Int) with | (lo,hi)=>pure (lo,(1:Int),Builtin.Slice.slicePlaces lo hi 1)) _ _ s
 rw [kA lo hi n]
 show wpAny _ _ (pure (((sIx n 0 lo:Nat):Int),(1:Int),Builtin.Slice.slicePlaces ((sIx n 0 lo:Nat):Int) ((sIx n n hi:Nat):Int) 1)) _ _ s
 rw [kP]
 exact wpAny_pure h
theorem oG (xs:Array Value)(i k:Nat):((a0F k).filterMap fun (m:Nat)=>xs[((i:Int)+(m:Int) * 1).toNat]?).toArray=((xs.toList.drop i).take k).toArray:=by
 have e:(fun (m:Nat)=>xs[((i:Int)+(m:Int) * 1).toNat]?)=fun m=>xs[i+m]?:=by
  funext m
  have:((i:Int)+(m:Int) * 1).toNat=i+m:=by omega
  rw [this]
 rw [e]
 have:=pick_run xs i k
 rw [List.filterMap_map] at this
 have e2:((fun x=>xs[x]?) ∘ fun x=>i+x)=fun m=>xs[i+m]?:=rfl
 rw [e2] at this
 rw [this]
theorem getItem_tuple_cut {t sl:Addr}{items:Array Value}{vl vu:Value}{lo hi:Option Int}{Q:Value->Shared->Prop}(ht:IsTup s.heap t items)(hs:s.heap.IsSliceOf sl vl vu .none)(pl:IsPart vl lo)(pu:IsPart vu hi)
  (hw:¬ (sIx items.size 0 lo=0/\sIx items.size items.size hi=items.size))
  (h:Q (.ref s.heap.objs.size) { s with heap:=s.heap.push { cls:=.type "tuple",data:=.seq ((items.toList.drop (sIx items.size 0 lo)).take (sIx items.size items.size hi-sIx items.size 0 lo)).toArray } })
  (hsz:items.size<=sizeLine):wpAny (model prog w) A (getItem (.ref t) (.ref sl)) Q E s:=by
 have htake:sizeOk (.seq ((items.toList.drop (sIx items.size 0 lo)).take (sIx items.size items.size hi-sIx items.size 0 lo)).toArray):=by
  show ((items.toList.drop (sIx items.size 0 lo)).take (sIx items.size items.size hi-sIx items.size 0 lo)).toArray.size<=sizeLine
  rw [a0e,a0W,a0X,a1t]
  omega
 have hj:sIx items.size items.size hi<=items.size:=yj _ _ (a0j _) hi
 obtain ⟨os,hos,hcs,hds⟩:=id hs
 have hTs:s.TypeIs (.ref sl) "slice":=⟨os,hos,hcs⟩
 unfold getItem
 try with_reducible refine wpAny_holding ?_
 first | refine wpAny_bind (wpAny_pure ?_) | skip
 refine wpAny_bind (wpAny_sequenceKey ht.typeIs (by decide) ?_)
 refine wpAny_bind (wpAny_callSpecial?_slot (name:=Str.ofString "__getitem__") ht.typeIs a0H
  (wpAny_call_entry a0H ht.typeIs entry_tuple_getitem ?_ (args_tuple_getitem _ _)))
 show wpAny _ _ (Builtin.Tuple.tupleItemsOf (.ref t) >>= _) _ _ s
 refine wpAny_bind (tupleItemsOf_ ht ?_)
 refine wpAny_bind (wpAny_typeOf hTs ?_)
 rw [if_pos (by decide)]
 refine wpAny_bind (sliceApplied_gen hs pl pu ?_)
 have hno:¬ ((((sIx items.size 0 lo:Nat):Int)==0&&(1:Int)==1&&(sIx items.size items.size hi-sIx items.size 0 lo)==items.size)=true):=by
  intro q
  rw [a0d,a0d] at q
  have q1:((sIx items.size 0 lo:Nat):Int)=0:=eq_of_beq q.1.1
  have q2:sIx items.size items.size hi-sIx items.size 0 lo=items.size:=eq_of_beq q.2
  exact hw ⟨by omega,by omega⟩
 show wpAny _ _ (if (((sIx items.size 0 lo:Nat):Int)==0&&(1:Int)==1&&(sIx items.size items.size hi-sIx items.size 0 lo)==items.size)=true then _ else _) _ _ s
 rw [if_neg hno,oG]
 first
  | exact wpAny_bind (m:=Builtin.Tuple.tupleExact _) (wpAny_newObj_type (wpAny_pure ⟨_,rfl,wpAny_pure h⟩) htake)
  | exact wpAny_bind (m:=Builtin.Tuple.tupleExact _) (wpAny_newObj_type (wpAny_bind (wpAny_pure (wpAny_pure ⟨_,rfl,wpAny_pure h⟩))) htake)
  | exact wpAny_bind (wpAny_bind (m:=Builtin.Tuple.tupleExact _) (wpAny_newObj_type (wpAny_pure (wpAny_pure ⟨_,rfl,wpAny_pure h⟩)) htake))
  | exact wpAny_bind (wpAny_bind (m:=Builtin.Tuple.tupleExact _) (wpAny_newObj_type (wpAny_pure ⟨_,rfl,wpAny_pure h⟩) htake))
end
end HT
namespace L2
open PySem PySem.Spec PyProof.Rows
noncomputable abbrev TO:=St->Hp->(Option Int->Hp->Prop)->Prop
noncomputable def PO (X:Cx)(e:Option Expr)(t:TO):Prop :=
 ∀ (pins:List (Addr×Obj)) (s:Shared) (σ:St) (H:Hp) (Q:Option Int->Hp->Prop),Inv X pins σ H s->t σ H Q ->
  wpAny (model X.prog X.w) X.A (evalPart e X.env) (fun u s'=>∃ o H',Inv X pins σ H' s'/\IsPart u o/\Q o H') X.xe s
noncomputable def tJ:TO:=fun _ H Q=>Q none H
noncomputable def BR (t:TE):TO:=fun σ H Q=>t σ H fun x H1=>∃ i,x=.int i/\Q (some i) H1
section
variable {X:Cx}{e:Expr}{te:TE}{lo hi:Option Expr}{tl th:TO}{pos p2:Pos}
theorem lQ:PO X none tJ:=by
 intro pins s σ H Q I h
 rw [evalPart_none]
 exact wpAny_pure ⟨none,H,I,.none,h⟩
theorem lB (h:PE X e te):PO X (some e) (BR te):=by
 intro pins s σ H Q I hw
 rw [evalPart_some]
 refine thn (h pins s σ H _ I hw) fun u s1 ⟨x,H1,I1,r1,q1⟩=>?_
 obtain ⟨i,rfl,q⟩:=q1
 obtain ⟨t,rfl⟩:=r1
 exact ⟨some i,H1,I1,.int i t,q⟩
noncomputable def SlR (X:Cx)(r:V->Option Int->Option Int->Hp->VK->Prop):Prop :=
 ∀ (pins:List (Addr×Obj)) (s:Shared) (σ:St) (H:Hp) (x:V) (v vl vu:Value) (lo hi:Option Int) (sl:Addr) (Q:VK),Inv X pins σ H s->RelV x v->s.heap.IsSliceOf sl vl vu .none->IsPart vl lo->IsPart vu hi->r x lo hi H Q ->
  ∃ T id,typeLookup (.type T) "__getitem__"=pure (some (.builtin id))/\s.TypeIs v T/\wpAny (model X.prog X.w) X.A (getItem v (.ref sl)) (EP X pins σ Q) X.xe s
theorem SlR.or {r r':V->Option Int->Option Int->Hp->VK->Prop}(h:SlR X r)(h':SlR X r'):SlR X (fun x lo hi H Q=>r x lo hi H Q\/r' x lo hi H Q):=by
 intro pins s σ H x v vl vu lo hi sl Q I rx hs pl pu q
 rcases q with q | q
 ·exact h pins s σ H x v vl vu lo hi sl Q I rx hs pl pu q
 ·exact h' pins s σ H x v vl vu lo hi sl Q I rx hs pl pu q
noncomputable def tSl (r:V->Option Int->Option Int->Hp->VK->Prop)(te:TE)(tl th:TO):TE:=fun σ H Q=>te σ H fun x H1=>tl σ H1 fun l H2=>th σ H2 fun u H3=>r x l u H3 Q
theorem jf {r:V->Option Int->Option Int->Hp->VK->Prop}(hr:SlR X r)(he:PE X e te)(hl:PO X lo tl)(hu:PO X hi th):PE X (.Subscript e (.Slice lo hi none p2) pos) (tSl r te tl th):=by
 intro pins s σ H Q I h
 refine Subscript_ (thn (he pins s σ H _ I h) fun v s1 ⟨x,H1,I1,r1,q1⟩=>?_)
 refine wpAny_Slice (thn (hl pins s1 σ H1 _ I1 q1) fun vl s2 ⟨l,H2,I2,pl,q2⟩=>thn (hu pins s2 σ H2 _ I2 q2) fun vu s3 ⟨u,H3,I3,pu,q3⟩=>?_)
 rw [evalPart_none]
 refine wpAny_pure ?_
 have I4:Inv X pins σ H3 { s3 with heap:=s3.heap.push { cls:=.type "slice",data:=.fields #[vl,vu,.none] } }:=I3.kept (t':=s3.toks) fun b ob q=>Heap.get?_push_of_some _ q
 obtain ⟨T,id,hT,ht,hg⟩:=hr pins { s3 with heap:=s3.heap.push { cls:=.type "slice",data:=.fields #[vl,vu,.none] } } σ H3 x v vl vu l u s3.heap.objs.size Q I4 r1 (Heap.IsSliceOf.new ..) pl pu q3
 show wpAny (model X.prog X.w) X.A (subscriptTail e (.Slice lo hi none p2) v (.ref s3.heap.objs.size)) (EP X pins σ Q) X.xe { s3 with heap:=s3.heap.push { cls:=.type "slice",data:=.fields #[vl,vu,.none] } }
 exact tail_any (ops:=[.ref s3.heap.objs.size,v]) ht hT hg (by with_unfolding_all rfl)
noncomputable def dH (xs:List V)(lo hi:Option Int):List V:=(xs.drop (HT.sIx xs.length 0 lo)).take (HT.sIx xs.length xs.length hi-HT.sIx xs.length 0 lo)
theorem bW (xs:List V)(lo hi:Option Int):(dH xs lo hi).length<=xs.length:=by
 unfold dH
 rw [a0W,a0X]
 omega
noncomputable def Ez (K:a0a):V->Option Int->Option Int->Hp->VK->Prop:=fun x lo hi H Q=>∃ a xs,x=.ref a/\SqT K H a xs /\
 ¬ (HT.sIx xs.length 0 lo=0/\HT.sIx xs.length xs.length hi=xs.length)/\∀ p,H p=none->Q (.ref p) (upd H p (.tup (dH xs lo hi)))
theorem z0:SlR X (Ez X.K):=by
 intro pins s σ H x v vl vu lo hi sl Q I rx hs pl pu h
 obtain ⟨a,xs,rfl,hx,hw,q⟩:=h
 cases rx
 obtain ⟨its,r,ht,hz⟩:=I.tuple hx
 have hlen:its.toArray.size=xs.length:=by rw [a0e]; exact r.length.symm
 refine ⟨"tuple",_,a0H.lookup,ht.typeIs,?_⟩
 refine HT.getItem_tuple_cut ht hs pl pu (by rw [hlen]; exact hw) ?_ (by rw [hlen]; exact hz)
 rw [hlen]
 refine ⟨.ref s.heap.objs.size,_,I.laid (t':=s.toks) (o:=.tup (dH xs lo hi)) (fun b ob q=>Heap.get?_push_of_some _ q) (a0j _) ?_,rfl,q _ (I.hok.fresh (a0j _))⟩
 exact ⟨a0s (bW xs lo hi) hz,_,(r.drop (HT.sIx xs.length 0 lo)).take (HT.sIx xs.length xs.length hi-HT.sIx xs.length 0 lo),IsTup.new _ _⟩
noncomputable def CA (K:a0a):R2:=fun x y H Q=>∃ a b xs ys,x=.ref a/\y=.ref b/\SqT K H a xs/\SqT K H b ys/\xs≠[]/\xs.length+ys.length<=sizeLine /\
 (ys=[]->Q (.ref a) H)/\(ys≠[]->∀ p,H p=none->Q (.ref p) (upd H p (.tup (xs++ys))))
theorem Vals.nil_iff {xs:List V}{us:List Value}(r:Vals xs us):us=[] ↔ xs=[]:=by
 cases r with
 | nil=>simp
 | cons _ _=>simp
theorem vA:OpR X (binaryOp .Add) (CA X.K):=by
 intro pins s σ H x y v u Q I rx ry h
 obtain ⟨a,b,xs,ys,rfl,rfl,ha,hb,hx,hz,q1,q2⟩:=h
 cases rx
 cases ry
 obtain ⟨its,r1,p1,_⟩:=I.tuple ha
 obtain ⟨its2,r2,p2,_⟩:=I.tuple hb
 refine HT.cat_tup p1 p2 (fun z=>hx (r1.nil_iff.mp z)) (fun z=>⟨.ref a,H,I,rfl,q1 (r2.nil_iff.mp z)⟩) (fun z=>?_) (by rw [<- r1.length,<- r2.length]; exact hz)
 refine ⟨.ref s.heap.objs.size,_,I.laid (t':=s.toks) (o:=.tup (xs++ys)) (fun b ob q=>Heap.get?_push_of_some _ q) (a0j _) ?_,rfl,q2 (fun w=>z (r2.nil_iff.mpr w)) _ (I.hok.fresh (a0j _))⟩
 exact ⟨by rw [a0c]; exact hz,_,r1.append r2,IsTup.new _ _⟩
end
end L2
namespace L2
open PySem PySem.Spec PyProof.Rows
noncomputable def ixN (n:Nat)(i:Int):Option Nat:=if 0<=i then (if i < n then some i.toNat else none) else if -(n:Int)<=i then some (i+n).toNat else none
noncomputable def atI {α:Type}(xs:List α)(i:Int):Option α:=(ixN xs.length i).bind fun j=>xs[j]?
theorem mz {n:Nat}{i:Int}{j:Nat}(h:ixN n i=some j):seqIndex? i n=some j/\j < n/\-(n:Int)<=i/\i < n:=by
 unfold ixN at h
 by_cases h0:0<=i
 ·rw [if_pos h0] at h
  by_cases h1:i < n
  ·rw [if_pos h1] at h
   have e:i.toNat=j:=a0u h
   exact ⟨by rw [seqIndex_of h0 h1,e],by omega,by omega,h1⟩
  ·rw [if_neg h1] at h; cases h
 ·rw [if_neg h0] at h
  by_cases h1:-(n:Int)<=i
  ·rw [if_pos h1] at h
   have e:(i+n).toNat=j:=a0u h
   exact ⟨by rw [seqIndex_neg (by omega) h1,e],by omega,h1,by omega⟩
  ·rw [if_neg h1] at h; cases h
theorem g9 {α:Type}{xs:List α}{i:Int}{v:α}(h:atI xs i=some v):∃ j,seqIndex? i xs.length=some j/\xs[j]?=some v/\j < xs.length/\-(xs.length:Int)<=i/\i < xs.length:=by
 unfold atI at h
 cases e:ixN xs.length i with
 | none=>rw [e] at h; cases h
 | some j =>
  rw [e] at h
  obtain ⟨h1,h2,h3,h4⟩:=mz e
  exact ⟨j,h1,h,h2,h3,h4⟩
noncomputable def eZ (b:Expr):Prop:=∀ o i,subscripted b false o i=operate [o,i] (getItem o i)
noncomputable def IxR (X:Cx)(r:R2):Prop :=
 ∀ (value slice:Expr) (pins:List (Addr×Obj)) (s:Shared) (σ:St) (H:Hp) (x y:V) (v u:Value) (Q:VK),Inv X pins σ H s->RelV x v->RelV y u->r x y H Q ->
  subscripted slice false v u=operate [v,u] (getItem v u)->wpAny (model X.prog X.w) X.A (subscriptTail value slice v u) (EP X pins σ Q) X.xe s
noncomputable def MtR (X:Cx)(id:String)(r:V->List V->Hp->VK->Prop):Prop :=
 ∀ (pins:List (Addr×Obj)) (s:Shared) (σ:St) (H:Hp) (x:V) (xs:List V) (v:Value) (us:List Value) (Q:VK),Inv X pins σ H s->RelV x v->Vals xs us->r x xs H Q ->
  wpAny (model X.prog X.w) X.A (call (.builtin id) (v::us)) (EP X pins σ Q) X.xe s
section
variable {X:Cx}{a b:Expr}{ta tb:TE}{pos:Pos}
theorem IxR.or {r r':R2}(h:IxR X r)(h':IxR X r'):IxR X (fun x y H Q=>r x y H Q\/r' x y H Q):=by
 intro value slice pins s σ H x y v u Q I rx ry q hs
 rcases q with q | q
 ·exact h value slice pins s σ H x y v u Q I rx ry q hs
 ·exact h' value slice pins s σ H x y v u Q I rx ry q hs
theorem wu {r:R2}(hr:IxR X r)(ha:PE X a ta)(hb:PE X b tb)(hs:eZ b):PE X (.Subscript a b pos) (tOp r ta tb):=by
 intro pins s σ H Q I h
 exact Subscript_ (zv ha hb I h fun v u s2 x y H2 I2 rx ry q=>hr a b pins s2 σ H2 x y v u Q I2 rx ry q (hs _ _))
noncomputable def Fy (K:a0a):R2:=fun x y H Q=>∃ p xs i v,x=.ref p/\y=.int i/\SqL K H p xs/\atI xs i=some v/\Q v H
noncomputable def E3 (K:a0a):R2:=fun x y H Q=>∃ p xs i v,x=.ref p/\y=.int i/\SqT K H p xs/\atI xs i=some v/\Q v H
noncomputable def Fu:R2:=fun x y H Q=>∃ z i c,x=.str z/\y=.int i/\z.length<=sizeLine/\atI z.cps.toList i=some c/\Q (.str ⟨#[c]⟩) H
theorem vV:IxR X (Fy X.K):=by
 intro value slice pins s σ H x y v u Q I rx ry h hs
 obtain ⟨p,xs,i,z,rfl,rfl,hq,he,q⟩:=h
 cases rx
 obtain ⟨t,rfl⟩:=ry
 obtain ⟨its,r,pl,hz⟩:=I.list hq
 obtain ⟨j,h1,h2,h3,h4,h5⟩:=g9 he
 obtain ⟨w,ew,rw'⟩:=r.get h2
 have hl:=r.length
 have hn:=ez
 have fin:EP X pins σ Q w s:=⟨z,H,I,rw',q⟩
 by_cases h0:0<=i
 ·have hj:i.toNat=j:=by
   rw [seqIndex_of h0 h5] at h1
   exact a0u h1
  exact item_listR pl.isList h0 (by omega) (by rw [hj]; simpa using ew) fin hs
 ·have hj:(i+(its.toArray.size:Int)).toNat=j:=by
   rw [seqIndex_neg (by omega) h4] at h1
   rw [a0e,<- hl]
   exact a0u h1
  exact subscriptTail_builtinR (x:=w) pl.isList.typeIs slot_list_getitem.lookup
   (wpAny_getItem_list_neg (Q:=fun r s'=>r=w/\EP X pins σ Q r s') pl.isList (by omega) (by rw [a0e]<;>omega) (by omega) (by rw [hj]; simpa using ew) ⟨rfl,fin⟩) hs
theorem xQ:IxR X (E3 X.K):=by
 intro value slice pins s σ H x y v u Q I rx ry h hs
 obtain ⟨p,xs,i,z,rfl,rfl,hq,he,q⟩:=h
 cases rx
 obtain ⟨t,rfl⟩:=ry
 obtain ⟨its,r,pl,hz⟩:=I.tuple hq
 obtain ⟨j,h1,h2,h3,h4,h5⟩:=g9 he
 obtain ⟨w,ew,rw'⟩:=r.get h2
 have hl:=r.length
 have hn:=ez
 have fin:EP X pins σ Q w s:=⟨z,H,I,rw',q⟩
 exact subscriptTail_builtinR (x:=w) pl.typeIs slot_tuple_getitem.lookup
  (getItem_tuple (j:=j) (Q:=fun r s'=>r=w/\EP X pins σ Q r s') pl (by omega) (by omega) (by rw [a0e,<- hl]; exact h1) (by simpa using ew) ⟨rfl,fin⟩) hs
theorem zW:IxR X Fu:=by
 intro value slice pins s σ H x y v u Q I rx ry h hs
 obtain ⟨z,i,c,rfl,rfl,hz,he,q⟩:=h
 obtain ⟨t,rfl⟩:=rx
 obtain ⟨t',rfl⟩:=ry
 obtain ⟨j,h1,h2,h3,h4,h5⟩:=g9 he
 have hl:z.cps.toList.length=z.length:=by simp [Str.length]
 rw [hl] at h1 h4 h5
 have hn:=ez
 exact tail_any (typeIs_str s z t) slot_str_getitem.lookup (getItem_str (c:=c) (by
  have e1:decide (i < -(2 ^ 63:Int))=false:=decide_eq_false (by omega)
  have e2:decide (i >= 2 ^ 63)=false:=decide_eq_false (by omega)
  rw [e1,e2,Bool.or_false]) (by rw [h1]; simpa using h2) ⟨.str ⟨#[c]⟩,H,I.tok _,⟨_,rfl⟩,q⟩) hs
theorem ko (its:List Value)(n j:Nat)(u:Value):Obj.mapSeq (·.setIfInBounds j u) { cls:=.type "list",data:=.seq its.toArray n }={ cls:=.type "list",data:=.seq (its.set j u).toArray n }:=by
 simp [Obj.mapSeq]
theorem Inv.lst {pins:List (Addr×Obj)}{σ:St}{H:Hp}{s:Shared}{p:Addr}{xs:List V}(I:Inv X pins σ H s)(h:H p=some (.lst xs)) :
  ∃ (its:List Value) (n:Nat),Vals xs its/\s.heap.get? p=some { cls:=.type "list",data:=.seq its.toArray n }/\xs.length<=sizeLine:=by
 obtain ⟨z,its,n,r,e⟩:=I.hok p _ h
 exact ⟨its,n,r,e,z⟩
theorem Inv.lstUpd {pins:List (Addr×Obj)}{σ:St}{H:Hp}{s:Shared}{p:Addr}{xs ys:List V}{its its':List Value}{n n':Nat}{f:Obj->Obj}(I:Inv X pins σ H s)(h:H p=some (.lst xs))
  (ho:s.heap.get? p=some { cls:=.type "list",data:=.seq its.toArray n }) (hf:f { cls:=.type "list",data:=.seq its.toArray n }={ cls:=.type "list",data:=.seq its'.toArray n' }) (r:Vals ys its') (hz:ys.length<=sizeLine) (t:Nat) :
  Inv X pins σ (upd H p (.lst ys)) { s with heap:=s.heap.update p f,toks:=t }:=by
 have e:(s.heap.update p f).get? p=some { cls:=.type "list",data:=.seq its'.toArray n' }:=by
  rw [Heap.get?_update_self f ho (by rw [hf]<;>rfl),hf]
 refine I.write (x:=p) (e:=p) (by rw [h]; trivial) (.inl rfl) (fun b u hb q=>(Heap.get?_update_other _ _ (a07 hb)).trans q) ⟨_,e⟩ ?_
 exact ⟨hz,its',n',r,e⟩
noncomputable def Cw:V->V->V->Hp->(Hp->Prop)->Prop:=fun o i v H Q=>∃ p xs k j,o=.ref p/\i=.int k/\H p=some (.lst xs)/\ixN xs.length k=some j/\Q (upd H p (.lst (xs.set j v)))
theorem oY:BO X Cw:=by
 intro pins s σ H o i v ov iv u Q I ro ri rv h
 obtain ⟨p,xs,k,j,rfl,rfl,hp,hj,q⟩:=h
 cases ro
 obtain ⟨t,rfl⟩:=ri
 obtain ⟨its,n,r,ho,hz⟩:=I.lst hp
 obtain ⟨h1,h2,h3,h4⟩:=mz hj
 have hl:=r.length
 have hn:=ez
 have I':Inv X pins σ (upd H p (.lst (xs.set j v))) { s with heap:=s.heap.update p (Obj.mapSeq (·.setIfInBounds j u)) } :=
  I.lstUpd hp ho (ko its n j u) (r.set rv j) (by rw [a05]; exact hz) s.toks
 by_cases h0:0<=k
 ·have hk:k.toNat=j:=by
   rw [seqIndex_of h0 h4] at h1
   exact a0u h1
  exact PySem.W.ki_setAt ho h0 (by omega) (by rw [a0e,<- hl]; exact h4) (by rw [hk]; exact ⟨_,I',q⟩)
 ·have hk:(k+(its.toArray.size:Int)).toNat=j:=by
   rw [seqIndex_neg (by omega) h3] at h1
   rw [a0e,<- hl]
   exact a0u h1
  exact PySem.W.ki_setBack ho (by omega) (by rw [a0e,<- hl]; exact h3) (by omega) (by rw [hk]; exact ⟨_,I',q⟩)
theorem iM (lo hi:Option Int)(n:Nat):(sliceBounds lo hi none n).1=((HT.sIx n 0 lo:Nat):Int)/\(sliceBounds lo hi none n).2.1=((HT.sIx n n hi:Nat):Int)/\(sliceBounds lo hi none n).2.2=1:=by
 refine ⟨?_,?_,rfl⟩
 ·cases lo with
  | none=>simp [sliceBounds,HT.sIx]
  | some i =>
   simp only [sliceBounds,HT.sIx,a3e,show (1:Int) > 0 by decide,if_true]
   by_cases h:i < 0
   ·simp only [h,if_true]<;>omega
   ·simp only [h,if_false]<;>omega
 ·cases hi with
  | none=>simp [sliceBounds,HT.sIx]
  | some i =>
   simp only [sliceBounds,HT.sIx,a3e,show (1:Int) > 0 by decide,if_true]
   by_cases h:i < 0
   ·simp only [h,if_true]<;>omega
   ·simp only [h,if_false]<;>omega
theorem gq (its:List Value)(lo hi:Option Int):slicePick its.toArray lo hi none=((its.drop (HT.sIx its.length 0 lo)).take (HT.sIx its.length its.length hi-HT.sIx its.length 0 lo)).toArray:=by
 obtain ⟨h1,h2,h3⟩:=iM lo hi its.toArray.size
 unfold slicePick
 rw [h1,h2,h3]
 simp only [sliceRange_one,pick_run,a0e]<;>rfl
noncomputable def vw (K:a0a):V->Option Int->Option Int->Hp->VK->Prop:=fun x lo hi H Q=>∃ a xs,x=.ref a/\SqL K H a xs/\∀ p,H p=none->Q (.ref p) (upd H p (.lst (dH xs lo hi)))
theorem sl_list:SlR X (vw X.K):=by
 intro pins s σ H x v vl vu lo hi sl Q I rx hs pl pu h
 obtain ⟨a,xs,rfl,hx,q⟩:=h
 cases rx
 obtain ⟨its,r,ht,hz⟩:=I.list hx
 have hlen:=r.length
 refine ⟨"list",_,slot_list_getitem.lookup,ht.isList.typeIs,?_⟩
 refine wpAny_getItem_list_slice ht.isList hs pl pu .none (by simp) ?_ (by rw [a0e]<;>omega)
 rw [gq,<- hlen]
 refine ⟨.ref s.heap.objs.size,_,I.laid (t':=s.toks) (o:=.lst (dH xs lo hi)) (fun b ob q=>Heap.get?_push_of_some _ q) (a0j _) ?_,rfl,q _ (I.hok.fresh (a0j _))⟩
 exact ⟨a0s (bW xs lo hi) hz,_,0,(r.drop (HT.sIx xs.length 0 lo)).take (HT.sIx xs.length xs.length hi-HT.sIx xs.length 0 lo),Heap.get?_push_size _ rfl⟩
noncomputable def dg:V->Bool
 | .non=>true
 | .bl _=>true
 | .int _=>true
 | .str _=>true
 | _=>false
noncomputable def eqV:V->V->Bool
 | .non,.non=>true
 | .bl a,.bl b=>a==b
 | .bl a,.int b=>(if a then 1 else 0)==b
 | .int a,.bl b=>a==(if b then 1 else 0)
 | .int a,.int b=>a==b
 | .str a,.str b=>a==b
 | _,_=>false
theorem zq {A:Around}{s:Shared}{y x:V}{u v:Value}(ry:RelV y u)(rx:RelV x v)(fy:dg y=true)(fx:dg x=true):SeqAt.EqAt A s u v (eqV y x):=by
 cases y with
 | non =>
  cases ry
  cases x with
  | non=>cases rx; exact SeqAt.EqAt.same _
  | bl b=>cases rx; exact SeqAt.EqAt.none_bool b
  | int b=>obtain ⟨t,rfl⟩:=rx; exact SeqAt.EqAt.none_int b t
  | str b=>obtain ⟨t,rfl⟩:=rx; exact SeqAt.EqAt.none_str b t
  | _=>exact absurd (show false=true from fx) a0l
 | bl a =>
  cases ry
  cases x with
  | non=>cases rx; exact SeqAt.EqAt.bool_none a
  | bl b=>cases rx; exact SeqAt.EqAt.bool_bool a b
  | int b=>obtain ⟨t,rfl⟩:=rx; exact SeqAt.EqAt.bool_int a b t
  | str b=>obtain ⟨t,rfl⟩:=rx; exact SeqAt.EqAt.bool_str a b t
  | _=>exact absurd (show false=true from fx) a0l
 | int a =>
  obtain ⟨t',rfl⟩:=ry
  cases x with
  | non=>cases rx; exact SeqAt.EqAt.int_none a t'
  | bl b=>cases rx; exact SeqAt.EqAt.int_bool a t' b
  | int b=>obtain ⟨t,rfl⟩:=rx; exact SeqAt.EqAt.int_int a t' b t
  | str b=>obtain ⟨t,rfl⟩:=rx; exact SeqAt.EqAt.int_str a t' b t
  | _=>exact absurd (show false=true from fx) a0l
 | str a =>
  obtain ⟨t',rfl⟩:=ry
  cases x with
  | non=>cases rx; exact SeqAt.EqAt.str_none a t'
  | bl b=>cases rx; exact SeqAt.EqAt.str_bool a t' b
  | int b=>obtain ⟨t,rfl⟩:=rx; exact SeqAt.EqAt.str_int a t' b t
  | str b=>obtain ⟨t,rfl⟩:=rx; exact SeqAt.EqAt.str_str a t' b t
  | _=>exact absurd (show false=true from fx) a0l
 | _=>exact absurd (show false=true from fy) a0l
noncomputable def eqU (x:V)(u:Value):Bool:=match u with
 | .none=>eqV .non x
 | .bool b=>eqV (.bl b) x
 | .int i _=>eqV (.int i) x
 | .str z _=>eqV (.str z) x
 | _=>false
theorem qt {x y:V}{u:Value}(r:RelV y u)(f:dg y=true):eqU x u=eqV y x:=by
 cases y with
 | non=>cases r; rfl
 | bl b=>cases r; rfl
 | int i=>obtain ⟨t,rfl⟩:=r; rfl
 | str z=>obtain ⟨t,rfl⟩:=r; rfl
 | _=>exact absurd (show false=true from f) a0l
theorem il {x:V}:∀ {xs:List V} {us:List Value},Vals xs us->xs.all dg=true->us.any (eqU x)=xs.any fun y=>eqV y x
 | _,_,.nil,_=>rfl
 | y::xs,u::us,.cons r t,f=>by
  rw [a1O,a0d] at f
  rw [a1C,a1C,qt r f.1,il t f.2]
theorem fP {A:Around}{s:Shared}{x:V}{v:Value}(rx:RelV x v)(fx:dg x=true):∀ {xs:List V} {us:List Value},Vals xs us->xs.all dg=true->∀ u∈us,SeqAt.EqAt A s u v (eqU x u)
 | _,_,.nil,_=>fun u hu=>by cases hu
 | y::xs,u::us,.cons r t,f=>fun u' hu=>by
  rw [a1O,a0d] at f
  rcases a0m.mp hu with rfl | hu
  ·rw [qt r f.1]; exact zq r rx f.1 fx
  ·exact fP rx fx t f.2 u' hu
noncomputable def inV (x:V)(xs:List V):Bool:=xs.any fun y=>eqV y x
noncomputable def rIn (K:a0a)(neg:Bool):R2:=fun x y H Q=>∃ p xs,y=.ref p/\(SqL K H p xs\/SqT K H p xs)/\dg x=true/\xs.all dg=true/\Q (.bl (if neg then !inV x xs else inV x xs)) H
theorem gO:OpR X (compareOp .In) (rIn X.K false):=by
 intro pins s σ H x y v u Q I rx ry h
 obtain ⟨p,xs,rfl,hq,fx,fs,q⟩:=h
 cases ry
 rcases hq with hq | hq
 ·obtain ⟨its,r,pl,hz⟩:=I.list hq
  refine SeqAt.in_listAt (eqU x) pl.isList (fun w hw=>fP rx fx r fs w (by simpa using hw)) ⟨.bl _,H,I,rfl,?_⟩
  rw [show its.toArray.any (eqU x)=its.any (eqU x) by simp,il r fs]
  exact q
 ·obtain ⟨its,r,pl,hz⟩:=I.tuple hq
  refine SeqAt.in_tupleAt (eqU x) pl (fun w hw=>fP rx fx r fs w (by simpa using hw)) ⟨.bl _,H,I,rfl,?_⟩
  rw [show its.toArray.any (eqU x)=its.any (eqU x) by simp,il r fs]
  exact q
theorem iD:dW X (.type "list") (fun xs H Q=>∃ p ys,xs=[.ref p]/\(SqL X.K H p ys\/SqT X.K H p ys)/\∀ l,H l=none->Q (.ref l) (upd H l (.lst ys))):=by
 intro pins s σ H xs us Q I r h
 obtain ⟨p,ys,rfl,hq,q⟩:=h
 obtain ⟨u,rfl,rx⟩:=jg r
 cases rx
 have fin:∀ (its:List Value),Vals ys its->ys.length<=sizeLine->∀ (h':Heap) (c':Nat),(∀ b o',s.heap.get? b=some o'->h'.get? b=some o') ->
   h'.get? s.heap.objs.size=some { cls:=.type "list",dict:=none,data:=.seq its.toArray c',slots:=#[] }->EP X pins σ Q (.ref s.heap.objs.size) { s with heap:=h' }:=fun its r' hz h' c' kp e =>
  ⟨.ref s.heap.objs.size,_,I.laid (t':=s.toks) kp (a0j _) (show ObjOk X.prog X.w _ h' _ (.lst ys) from ⟨hz,its,c',r',e⟩),rfl,q _ (I.hok.fresh (a0j _))⟩
 rcases hq with hq | hq
 ·obtain ⟨its,r',pl,hz⟩:=I.list hq
  have hlen:=r'.length
  obtain ⟨o,ho,hc,n,hd⟩:=pl.isList
  exact call_list_seq p (.inl rfl) ho hc hd (fun h' c' kp e=>fin its r' hz h' c' kp e) (by simp only [a0e]<;>omega)
 ·obtain ⟨its,r',pl,hz⟩:=I.tuple hq
  have hlen:=r'.length
  obtain ⟨o,ho,hc,n,hd⟩:=pl
  exact call_list_seq p (.inr rfl) ho hc hd (fun h' c' kp e=>fin its r' hz h' c' kp e) (by simp only [a0e]<;>omega)
theorem gm:dW X (.type "tuple") (fun xs H Q=>∃ p ys,xs=[.ref p]/\((SqL X.K H p ys/\∀ l,H l=none->Q (.ref l) (upd H l (.tup ys)))\/(SqT X.K H p ys/\Q (.ref p) H))):=by
 intro pins s σ H xs us Q I r h
 obtain ⟨p,ys,rfl,h⟩:=h
 obtain ⟨u,rfl,rx⟩:=jg r
 cases rx
 rcases h with ⟨hq,q⟩ | ⟨hq,q⟩
 ·obtain ⟨its,r',pl,hz⟩:=I.list hq
  have hlen:=r'.length
  refine call_tuple_list pl.isList (fun h' kp=>?_) (by simp only [a0e]<;>omega)
  have I1:Inv X pins σ H { s with heap:=h' }:=I.kept (t':=s.toks) kp
  have I2:Inv X pins σ (upd H h'.objs.size (.tup ys)) { s with heap:=h'.push { cls:=.type "tuple",data:=.seq its.toArray } } :=
   I1.laid (t':=s.toks) (fun b o e=>Heap.get?_push_of_some _ e) (a0j _) (show ObjOk X.prog X.w _ _ _ (.tup ys) from ⟨hz,its,r',IsTup.new _ _⟩)
  exact ⟨.ref h'.objs.size,_,I2,rfl,q _ (I1.hok.fresh (a0j _))⟩
 ·obtain ⟨its,r',pl,hz⟩:=I.tuple hq
  exact call_tuple_same pl ⟨.ref p,H,I,rfl,q⟩
noncomputable def tyV (K:a0a)(T:String)(x:V)(H:Hp):Prop:=match x with
 | .str _=>T="str"
 | .int _=>T="int"
 | .ref p=>(T="list"/\∃ xs,SqL K H p xs)\/(T="tuple"/\∃ o,K.lookup p=some o/\o.cls=.type "tuple"/\o.dict=none) \/
   (T="dict"/\((∃ kvs,H p=some (.dK kvs))\/∃ kvs,H p=some (.dT kvs)))\/(T="set"/\∃ S n,H p=some (.set S n))
 | _=>False
theorem qh {pins:List (Addr×Obj)}{σ:St}{H:Hp}{s:Shared}{T:String}{x:V}{v:Value}(I:Inv X pins σ H s)(r:RelV x v)(ty:tyV X.K T x H) :
  s.TypeIs v T/\∀ a,v=.ref a->∃ ob,s.heap.get? a=some ob/\ob.dict=none:=by
 cases x with
 | str z =>
  obtain ⟨t,rfl⟩:=r
  cases (show T="str" from ty)
  exact ⟨typeIs_str s z t,fun _ e=>nomatch e⟩
 | int i =>
  obtain ⟨t,rfl⟩:=r
  cases (show T="int" from ty)
  exact ⟨typeIs_int s i t,fun _ e=>nomatch e⟩
 | ref p =>
  cases r
  rcases ty with ⟨rfl,xs,hq⟩ | ⟨rfl,o,hk,hc,hd⟩ | ⟨rfl,hk⟩ | ⟨rfl,S,n,hk⟩
  ·obtain ⟨its,_,pl,_⟩:=I.list hq
   refine ⟨pl.isList.typeIs,fun a e=>?_⟩
   cases e
   obtain ⟨o,n,e,c,hd,_⟩:=pl
   exact ⟨o,e,hd⟩
  ·refine ⟨⟨o,I.kIn p o hk,hc⟩,fun a e=>?_⟩
   cases e
   exact ⟨o,I.kIn _ o hk,hd⟩
  ·have z:∃ o,s.heap.get? p=some o/\o.ExactDict:=by
    rcases hk with ⟨kvs,hk⟩ | ⟨kvs,hk⟩
    ·obtain ⟨_,_,_,_,o,_,_,e,ex,_⟩:=I.hok p _ hk
     exact ⟨o,e,ex⟩
    ·obtain ⟨_,_,_,_,o,_,_,e,ex,_⟩:=I.hok p _ hk
     exact ⟨o,e,ex⟩
   obtain ⟨o,e,ex⟩:=z
   refine ⟨⟨o,e,ex.1⟩,fun a e2=>?_⟩
   cases e2
   exact ⟨o,e,ex.2.1⟩
  ·obtain ⟨o,_,_,_,e,ex,_⟩:=I.hok p _ hk
   refine ⟨⟨o,e,ex.1⟩,fun a e2=>?_⟩
   cases e2
   exact ⟨o,e,ex.2.1⟩
 | _=>exact a0R ty
noncomputable def FT (K:a0a)(T:String)(r:V->List V->Hp->VK->Prop)(to:TE):TE:=fun σ H Q=>to σ H fun x H1=>tyV K T x H1/\r x [] H1 Q
noncomputable def tBM (K:a0a)(T:String)(r:V->List V->Hp->VK->Prop)(to:TE)(t:TA):TE:=fun σ H Q=>to σ H fun x H1=>tyV K T x H1/\t σ H1 fun xs H2=>r x xs H2 Q
variable {o e:Expr}{es:List Expr}{to:TE}{t:TA}{name:Str}{apos cpos:Pos}{T id:String}{r:V->List V->Hp->VK->Prop}
theorem xZ (pa:PlainAttrs T)(slot:Slot T name id)(hty:typeOf (.builtin id)=pure (.type "method_descriptor"))(hm:MtR X id r)(ho:PE X o to)
  (hbase:attributeBase o name X.env (eval o X.env)=eval o X.env:=by rfl) (hline:(apos.endLine==cpos.line)=true:=by rfl):PE X (.Call (.Attribute o name apos) [] [] cpos) (FT X.K T r to):=by
 intro pins s σ H Q I h
 refine wpAny_Call_method0_late hbase hline (thn (ho pins s σ H _ I h) fun v s1 ⟨x,H1,I1,r1,ty,q1⟩=>?_)
 obtain ⟨h1,h2⟩:=qh I1 r1 ty
 exact ⟨T,id,pa,slot,hty,h1,h2,Calls.callWith_builtin rfl (PySem.evalArgs_none (hm pins s1 σ H1 x [] v [] Q I1 r1 .nil q1))⟩
theorem wF (pa:PlainAttrs T)(slot:Slot T name id)(hty:typeOf (.builtin id)=pure (.type "method_descriptor"))(hm:MtR X id r)(ho:PE X o to)(ha:PA X (e::es) t)
  (hbase:attributeBase o name X.env (eval o X.env)=eval o X.env:=by rfl)
  (hfew:((backTo cpos (starEach (e::es) X.env)).all (fun x=>!x.1)&&(backToKw cpos (keywordEach [] X.env)).all (fun x=>x.1.isSome)
  &&decide ((e::es).length+([]:List Keyword).length+(if ([]:List Keyword).isEmpty then 0 else 1) < 30))=true:=by rfl)
  (hline:(apos.endLine==cpos.line)=true:=by rfl) (hs:starEach (e::es) X.env=(false,eval e X.env)::starEach es X.env:=by rfl) (hplain:(backTo cpos (starEach es X.env)).any (·.1)=false:=by rfl) :
  PE X (.Call (.Attribute o name apos) (e::es) [] cpos) (tBM X.K T r to t):=by
 intro pins s σ H Q I h
 refine wpAny_Call_method_late hbase hfew hline rfl (thn (ho pins s σ H _ I h) fun v s1 ⟨x,H1,I1,r1,ty,q1⟩=>?_)
 obtain ⟨h1,h2⟩:=qh I1 r1 ty
 refine ⟨T,id,pa,slot,hty,h1,h2,?_⟩
 have hA:=ha cpos pins s1 σ H1 _ I1 q1
 rw [hs] at hA ⊢
 refine Calls.callWith_builtin (by show (false || (backTo cpos (starEach es X.env)).any (·.1))=false; rw [hplain]<;>rfl) (Calls.evalArgs_plain ?_)
 exact thn hA fun us s2 ⟨vs,H2,I2,r2,q2⟩=>hm pins s2 σ H2 x vs v us Q I2 r1 r2 q2
end
end L2
namespace L2
open PySem PySem.Spec PyProof.Rows
noncomputable def MtM (X:Cx)(id:String)(r:V->List V->Hp->VK->Prop):Prop :=
 ∀ (pins:List (Addr×Obj)) (s:Shared) (σ:St) (H:Hp) (x:V) (xs:List V) (v:Value) (us:List Value) (Q:VK),Inv X pins σ H s->RelV x v->Vals xs us->r x xs H Q ->
  wpAny (model X.prog X.w) X.A (call (.builtin id) (v::us)) (EP X pins σ Q) X.xe s
theorem Vals.one:∀ {x:V} {us:List Value},Vals [x] us->∃ u,us=[u]/\RelV x u
 | _,_,.cons r .nil=>⟨_,rfl,r⟩
theorem Vals.zero:∀ {us:List Value},Vals [] us->us=[]
 | _,.nil=>rfl
theorem Vals.dropLast {xs:List V}{us:List Value}(h:Vals xs us):Vals xs.dropLast us.dropLast:=by
 induction h with
 | nil=>exact .nil
 | cons r t ih =>
  cases t with
  | nil=>exact .nil
  | cons q t'=>exact .cons r ih
theorem kJ {α:Type}(l:List α):l.eraseIdx (l.length-1)=l.dropLast:=by
 induction l with
 | nil=>rfl
 | cons a r ih =>
  cases r with
  | nil=>rfl
  | cons b r =>
   have e:(a::b::r).length-1=((b::r).length-1)+1:=by
    have h1:(a::b::r).length=r.length+2:=rfl
    have h2:(b::r).length=r.length+1:=rfl
    omega
   rw [e,List.eraseIdx_cons_succ,ih]
   all_goals rfl
section
variable {X:Cx}{pins:List (Addr×Obj)}{σ:St}{H:Hp}{s:Shared}{l b:Addr}{xs ys zs:List V}
theorem Inv.lset {its its':List Value}{n:Nat}{f:Array Value->Array Value}{t':Nat}(I:Inv X pins σ H s)(hH:H l=some (.lst xs))
  (e:s.heap.get? l=some { cls:=.type "list",data:=.seq its.toArray n }) (hf:f its.toArray=its'.toArray) (hv:Vals ys its') (hz:ys.length<=sizeLine) :
  Inv X pins σ (upd H l (.lst ys)) { s with heap:=s.heap.update l (Obj.mapSeq f),toks:=t' }:=by
 have q:=PySem.IsL.update e f
 rw [hf] at q
 refine I.write (x:=l) (e:=l) (by rw [hH]; exact trivial) (.inl rfl) (fun b' u hb hu=>(Heap.get?_update_other s.heap (Obj.mapSeq f) (a07 hb)).trans hu) ⟨_,q⟩ ?_
 exact ⟨hz,its',_,hv,q⟩
theorem Inv.lnew {its:List Value}{t':Nat}(I:Inv X pins σ H s)(hv:Vals ys its)(hz:ys.length<=sizeLine) :
  Inv X pins σ (upd H s.heap.objs.size (.lst ys)) { s with heap:=s.heap.push { cls:=.type "list",data:=.seq its.toArray },toks:=t' } :=
 I.laid (fun _ _ q=>Heap.get?_push_of_some _ q) (a0j _) ⟨hz,its,0,hv,Heap.get?_push_size _ rfl⟩
theorem Inv.fresh (I:Inv X pins σ H s):H s.heap.objs.size=none:=I.hok.fresh (a0j _)
theorem Inv.lstM (I:Inv X pins σ H s)(hH:H l=some (.lst xs)):xs.length<=sizeLine/\∃ (its:List Value) (n:Nat),Vals xs its/\xs.length=its.length/\s.heap.get? l=some { cls:=.type "list",data:=.seq its.toArray n }:=by
 obtain ⟨z,its,n,r,e⟩:=I.hok l _ hH
 exact ⟨z,its,n,r,r.length,e⟩
theorem rW {n:Nat}(h:n<=sizeLine):Builtin.List.listTooLong n=false:=by
 unfold Builtin.List.listTooLong
 exact decide_eq_false (by omega)
end
section
variable {X:Cx}
noncomputable def um:V->List V->Hp->VK->Prop:=fun x vs H Q=>∃ l xs y,x=.ref l/\vs=[y]/\H l=some (.lst xs)/\xs.length < sizeLine/\Q .non (upd H l (.lst (xs++[y])))
theorem nM:MtM X "list.append" um:=by
 intro pins s σ H x vs v us Q I rx rv h
 obtain ⟨l,xs,y,rfl,rfl,hH,hz,q⟩:=h
 cases rx
 obtain ⟨u,rfl,ru⟩:=rv.one
 obtain ⟨z,its,n,r,hl,e⟩:=I.lstM hH
 refine call_meets F.slot_list_append ⟨_,e,rfl⟩ F.entry_list_append (F.args_list_append_2 _ _) (PySem.list_append l its.toArray n u (by rw [a0e]; omega)) ⟨e,?_⟩
 refine ⟨.non,_,I.lset (its':=its++[u]) hH e (by simp) (r.append (.cons ru .nil)) ?_,rfl,q⟩
 rw [a0c,a0o]
 omega
noncomputable def uT:V->List V->Hp->VK->Prop:=fun x vs H Q=>∃ l b xs zs,x=.ref l/\vs=[.ref b]/\H l=some (.lst xs)/\H b=some (.lst zs)/\xs.length+zs.length<=sizeLine/\Q .non (upd H l (.lst (xs++zs)))
theorem mH:MtM X "list.extend" uT:=by
 intro pins s σ H x vs v us Q I rx rv h
 obtain ⟨l,b,xs,zs,rfl,rfl,hH,hB,hz,q⟩:=h
 cases rx
 obtain ⟨u,rfl,ru⟩:=rv.one
 cases ru
 obtain ⟨z,its,n,r,hl,e⟩:=I.lstM hH
 obtain ⟨z2,its2,n2,r2,hl2,e2⟩:=I.lstM hB
 have hsz:its.toArray.size+its2.toArray.size<=sizeLine:=by rw [a0e,a0e]; omega
 have hlong:¬ (!its.toArray.isEmpty&&Builtin.List.listTooLong (its.toArray.size+its2.toArray.size))=true:=by
  rw [rW hsz,a2R]
  exact a0l
 refine call_meets F.slot_list_extend ⟨_,e,rfl⟩ F.entry_list_extend (F.args_list_extend_2 _ _)
  (AutoSeq1.list_extend_list_list_0 l its.toArray n b its2.toArray n2 hlong (by rw [a0e]; omega) (by omega)) ⟨e,e2,?_⟩
 refine ⟨.non,_,I.lset (its':=its++its2) hH e (by simp) (r.append r2) ?_,rfl,q⟩
 rw [a0c]
 omega
noncomputable def Ff:V->List V->Hp->VK->Prop:=fun x vs H Q=>∃ l xs y,x=.ref l/\vs=[]/\H l=some (.lst xs)/\xs[xs.length-1]?=some y/\Q y (upd H l (.lst xs.dropLast))
theorem Bd:MtM X "list.pop" Ff:=by
 intro pins s σ H x vs v us Q I rx rv h
 obtain ⟨l,xs,y,rfl,rfl,hH,hy,q⟩:=h
 cases rx
 have hus:=rv.zero
 subst hus
 obtain ⟨z,its,n,r,hl,e⟩:=I.lstM hH
 obtain ⟨u,hu,ru⟩:=r.get hy
 have hy':its.toArray[its.toArray.size-1]?=some u:=by
  show its.toArray[its.length-1]?=some u
  rw [<- Array.getElem?_toList,<- hl]
  exact hu
 refine call_meets F.slot_list_pop ⟨_,e,rfl⟩ F.entry_list_pop (F.args_list_pop_1 _) (MeetsSeq.list_pop_last l its.toArray n u hy' (by rw [a0e]; omega)) ⟨e,?_⟩
 refine ⟨y,_,I.lset (its':=its.dropLast) hH e ?_ r.dropLast ?_,ru,q⟩
 ·show its.toArray.eraseIdxIfInBounds (its.toArray.size-1)=its.dropLast.toArray
  rw [a0e,List.eraseIdxIfInBounds_toArray,kJ]
 ·rw [List.length_dropLast]
  omega
noncomputable def DI:R2:=fun x y H Q=>∃ l b xs zs,x=.ref l/\y=.ref b/\H l=some (.lst xs)/\H b=some (.lst zs)/\xs.length+zs.length<=sizeLine/\∀ p,H p=none->Q (.ref p) (upd H p (.lst (xs++zs)))
theorem op_cat:OpR X (binaryOp .Add) DI:=by
 intro pins s σ H x y v u Q I rx ry h
 obtain ⟨l,b,xs,zs,rfl,rfl,hH,hB,hz,q⟩:=h
 cases rx
 cases ry
 obtain ⟨z,its,n,r,hl,e⟩:=I.lstM hH
 obtain ⟨z2,its2,n2,r2,hl2,e2⟩:=I.lstM hB
 refine PySem.P.add_list e e2 ?_ (by rw [a0e,a0e]; omega)
 have ea:its.toArray++its2.toArray=(its++its2).toArray:=by simp
 rw [ea]
 exact ⟨.ref _,_,I.lnew (t':=s.toks) (r.append r2) (by rw [a0c]; omega),rfl,q _ I.fresh⟩
end
end L2
namespace Att
open PySem PySem.W PySem.Calls PyProof.Rows
theorem eQ {P:Params}{h:Heap}:∀ (ns:List Int) (vs:List Value),WellAll P h vs (ns.map WData.int)->IntsAre vs ns:=by
 intro ns
 induction ns with
 | nil =>
  intro vs w
  rw [a1q] at w
  cases w
  exact .nil
 | cons n ns ih =>
  intro vs w
  rw [a0A] at w
  cases w with
  | cons a b =>
   cases a
   exact .cons _ _ (ih _ b)
theorem mW {l:OpenLaw}{n:Nat}(hn:l.most=some n){P:Params}{h:Heap}{args:List WData}{vals:List Value}
  (hpre:l.row.toRowW.claim.pre args=true) (hwl:WellAll P h vals args) :
  ∃ a vs ns,vals=[Value.ref a]/\args=[WData.list (ns.map WData.int)]/\h.get? a=some { cls:=.type "list",data:=.seq vs.toArray }/\IntsAre vs ns/\ns.length<=n:=by
 have hsh:WShape.hasAll [] args [.list .int]=true:=(pre_splitW hpre).1
 have hc:l.pre.holds [] { args:=args }=true:=(pre_splitW hpre).2
 obtain ⟨d,r,rfl,h1,h2⟩:=hasAllW_cons hsh
 obtain rfl:=hasAllW_nil h2
 obtain ⟨xs,rfl,h3⟩:=hasW_list h1
 obtain ⟨ns,rfl⟩:=items_int h3
 have hlen:ns.length<=n:=by
  unfold OpenLaw.pre at hc
  have h4:(WTm.not (.lt (.lit (.int (n:Int))) (.len (.arg 0)))).holds [] { args:=[.list (ns.map .int)] }=true:=by
   have h4:=(holds_andW hc).1
   rw [hn] at h4
   exact h4
  have h5:=condW_of h4 (w_not (w_lt w_lit (w_len_list (w_arg rfl))))
  rw [a0b] at h5
  refine a3f fun q=>?_
  have q':(n:Int) < ((ns.length:Nat):Int):=by omega
  first
   | (rw [decide_eq_true q'] at h5; exact absurd h5 (by decide))
   | (simp at h5; omega)
 cases hwl with
 | cons w1 w2 =>
  cases w2
  cases w1 with
  | list ho hall=>exact ⟨_,_,ns,rfl,rfl,ho,eQ ns _ hall,hlen⟩
theorem mG (l:OpenLaw)(args:List WData):l.row.toRowW.claim.post args (.bool true) args=true :=
 postW_of (r:=l.row.toRowW) (X:=(true==true))
  (show WShape.has [] (.bool true) .bool=true by first | rfl | decide | simp [WShape.has,WShape.arms,WShape.armsAll])
  (show (WTm.eq .res (.lit (.bool true))).value [] { args:=args,res:=some (.bool true),after:=args }=some (.bool (true==true)) from w_eq_bool (w_res rfl) w_lit) rfl
theorem attach_call {l:OpenLaw}{n:Nat}{q:Program}{loose:List Str}{XP:(Str->Option Value)->Heap->Prop}{YP:World->Heap->Prop}{d:DefRec}
  (hn:l.most=some n) (hdf:d.params.defaults=[])
  (call:∀ (w:World) (s₀ s₁:Shared) (mg mb:Str->Option Value) (fa:Addr) (o:Obj) (pm cd doc:Value) (a:Addr) (vs:List Value) (ns:List Int),
   Ground q loose [] XP w s₀ mg mb s₁.heap->YP w s₁.heap ->
   s₁.heap.get? fa=some o->o.data=.func (docDef d.name d.params d.body d.scope pm cd doc)->s₁.heap.CodeRec cd d.name->mg d.name=some (.ref fa) ->
   s₁.heap.get? a=some { cls:=.type "list",data:=.seq vs.toArray }->IntsAre vs ns->ns.length<=n->s₁.gens=#[] ->
   codeAny (model l.prog w) callerA (.call (.ref fa) ⟨[.ref a],[]⟩) (fun r s'=>r=.ok (.ret (.bool true))/\OldK s₁.heap s'.heap/\s'.os=s₁.os/\AllBare s'.gens) s₁) :
  WalkO q loose XP YP l.row.toRowW d [] (fun f vs=>a3x f vs):=by
 intro w s₀ s₁ mg mb G Y fa o pm cd doc dV kV ho hd hcd hD hmg hg args vals as hpre hlay hrd hwl hlo
 obtain rfl:dV=.none:=Dflts.none hD hdf
 obtain rfl:kV=.none:=Dflts.noKw hD
 obtain ⟨a,vs,ns,rfl,rfl,hobj,hints,hlen⟩:=mW hn hpre hwl
 refine enter_call (codeAny_mono (call w s₀ s₁ mg mb fa o pm cd doc a vs ns G Y ho (fd_plain hd) hcd hmg hobj hints hlen hg) fun r s' hq=>?_)
 obtain ⟨rfl,h2,h3,h4⟩:=hq
 exact ⟨.inl ⟨.bool true,.bool true,[],rfl,fun _=>rfl,.bool true,mG l _,fun _=>⟨a3S,fun _ hm=>(nomatch hm)⟩⟩,h2,h3,h4⟩
end Att
namespace L2
open PySem PySem.Spec PyProof.Rows
theorem gK:∀ {vs:List Value} {ns:List Int},IntsAre vs ns->Vals (ns.map V.int) vs
 | _,_,.nil=>.nil
 | _,_,.cons n t h=>.cons ⟨t,rfl⟩ (gK h)
noncomputable def pO (H:Hp):Prop:=∀ b,H b=none\/∃ o xs,H b=some (.frz o (.lst xs))
theorem qG {P:Program}{w:World}{K:a0a}{mg mb:Str->Option Value}{CX:CXT}{k:Nat}{fa a:Addr}{fd:FuncData}{x:Str}{sp:Sp}{s₁:Shared}{vs:List Value}{ns:List Int}
  (KX:K.In s₁.heap) (hns:s₁.heap.Ns mainGlobals mg) (hb:s₁.heap.Ns builtinsNs mb) (hbb:∀ x:Str,x≠"__name__"->mb x=bootBuiltins x) (hlim:s₁.heap.NoLimit) (hg:s₁.gens=#[])
  (ha:s₁.heap.get? a=some { cls:=.type "list",data:=.seq vs.toArray }) (hi:IntsAre vs ns) (hl:ns.length<=sizeLine) (hr:Room k callerA)
  (F:∀ base:Heap,K.In base->base.Ns mainGlobals mg->bJ P w K mg base CX k fa fd [x] sp) (hbind:∀ (s:Shared) (u:Value),BindsTo s fd ⟨[u],[]⟩ [(x,u)])
  (hsp:∀ H:Hp,pO H->SqL K H a (ns.map V.int)->sp [.ref a] H (fun v _=>v=.bl true) fun _ _ _=>False)
  (hCX:∀ H e s',CX [] H s₁ (fun _ _ _=>False) e s'->False) :
  codeAny (model P w) callerA (.call (.ref fa) ⟨[.ref a],[]⟩) (fun r s'=>r=.ok (.ret (.bool true))/\OldK s₁.heap s'.heap/\s'.os=s₁.os/\AllBare s'.gens) s₁:=by
 have rv:=gK hi
 have lenV:=hi.length
 -- from an abstract heap in which nothing but the script may be tracked
 have core:∀ H:Hp,pO H->SqL K H a (ns.map V.int)->HOk P w H s₁.heap->(∀ b,H b≠none->b=a)->(H a≠none->K.lookup a=none) ->
   codeAny (model P w) callerA (.call (.ref fa) ⟨[.ref a],[]⟩) (fun r s'=>r=.ok (.ret (.bool true))/\OldK s₁.heap s'.heap/\s'.os=s₁.os/\AllBare s'.gens) s₁:=by
  intro H hO hS hok hA hK
  have base_of:∀ {b:Addr} {o:Obj},s₁.heap.get? b=some o->H b=none->(iK s₁.heap H).get? b=some o:=fun e n=>pM e n
  have noA:∀ {b:Addr} {o:Obj} {es:Array DictEntry} {ep:Nat},s₁.heap.get? b=some o->o.data=.dict es ep->H b=none:=fun {b o es ep} e d=>by
   cases q:H b with
   | none=>rfl
   | some u =>
    have e':b=a:=hA b (by rw [q]; simp)
    subst e'
    rw [ha] at e; cases e
    have d':Data.seq vs.toArray _=Data.dict es ep:=d
    cases d'
  have nsK:∀ {b:Addr} {m:Str->Option Value},s₁.heap.Ns b m->(iK s₁.heap H).Ns b m:=fun {b m} ⟨o,es,ep,e,d,r⟩=>⟨o,es,ep,base_of e (noA e d),d,r⟩
  have hKb:K.In (iK s₁.heap H):=fun b o e=>base_of (KX b o e) (by
   cases q:H b with
   | none=>rfl
   | some u =>
    have e':b=a:=hA b (by rw [q]; simp)
    subst e'
    rw [hK (by rw [q]; simp)] at e; cases e)
  have hM:Mod K mg (iK s₁.heap H):=⟨hKb,nsK hns,⟨mb,nsK hb,hbb⟩,let ⟨mc,h1,h2⟩:=hlim; ⟨mc,nsK h1,h2⟩⟩
  have e0:Env0 P w K mg (iK s₁.heap H) callerA [] s₁ H:=⟨rfl,hM,fun b o e=>sU e,a3J (mK _ _),trivial,fun b hb=>absurd (show b∈([]:List Addr) from hb) (by simp),hok,.of_eq hg⟩
  refine codeAny_mono ((F _ hKb (nsK hns)).run callerA [] s₁ H ⟨[.ref a],[]⟩ [.ref a] [.ref a] _ _ hr e0 (hbind s₁ (.ref a)) (.cons rfl .nil) (hsp H hO hS)) fun r s' h=>?_
  cases r with
  | error e=>exact (hCX H e s' h).elim
  | ok fl =>
   cases fl with
   | next=>exact a0R h
   | brk=>exact a0R h
   | cont=>exact a0R h
   | ret u =>
    obtain ⟨v,H',os,bare,un,hok',r',q⟩:=h
    have q':v=.bl true:=q
    subst q'
    obtain rfl:u=Value.bool true:=r'
    refine ⟨rfl,OldK.of_keep fun b o e=>?_,os,bare⟩
    cases q:H b with
    | none=>exact un.keep b o e q (by intro z; exact absurd (show b∈([]:List Addr) from z) (by simp)) (by simp)
    | some u =>
     rcases hO b with z | ⟨ob,xs,z⟩
     ·rw [q] at z; cases z
     ·have z2:=un.frzs b ob _ z
      obtain ⟨e1,_⟩:=hok b _ z
      obtain ⟨e2,_⟩:=hok' b _ z2
      rw [e] at e1; cases e1
      exact e2
 cases hk:K.lookup a with
 | some o =>
  -- the script is one of the module's own objects
  have e:=KX a o hk
  rw [ha] at e
  cases e
  refine core (fun _=>none) (fun _=>.inl rfl) (.inr ⟨_,vs.toArray,_,hk,rfl,rfl,rfl,by rw [a0e,lenV]; exact hl,by simpa using rv⟩) (fun b u z=>by have z':(none:Option HO)=some u:=z; cases z') (fun b z=>absurd rfl z) fun z=>absurd rfl z
 | none =>
  refine core (fun b=>if b=a then some (.frz { cls:=.type "list",data:=.seq vs.toArray } (.lst (ns.map V.int))) else none) (fun b=>?_) (.inl (.inr ⟨{ cls:=.type "list",data:=.seq vs.toArray },if_pos rfl⟩)) (fun b u z=>?_) (fun b z=>?_) fun _=>hk
  ·by_cases hb:b=a
   ·exact .inr ⟨_,_,if_pos hb⟩
   ·exact .inl (if_neg hb)
  ·by_cases hb:b=a
   ·have z':=(if_pos hb).symm.trans z
    cases z'
    subst hb
    exact ⟨ha,by rw [a0b]; exact hl,vs,_,rv,ha⟩
   ·have z':=(if_neg hb).symm.trans z
    cases z'
  ·by_cases hb:b=a
   ·exact hb
   ·exact absurd (if_neg hb) z
end L2
namespace L2
open PySem PySem.Spec PyProof.Rows
theorem walk_of {l:a2H}{n k:Nat}{q:Program}{loose:List Str}{XP:(Str->Option Value)->Heap->Prop}{YP:World->Heap->Prop}{d:DefRec}{K:Params->a0a}{CX:World->CXT}{sp:World->Sp}{x:Str}
  (hn:l.most=some n) (hn2:n<=sizeLine) (hdf:d.params.defaults=[]) (hr:Room k callerA)
  (hY:∀ (w:World) (h:Heap),YP w h->(K w.params).In h)
  (F:∀ (w:World) (mg:Str->Option Value) (fa:Addr) (h:Heap),(K w.params).In h->h.Ns mainGlobals mg->mg d.name=some (.ref fa) ->
   ∃ fd:FuncData,(∀ (s:Shared) (u:Value),BindsTo s fd ⟨[u],[]⟩ [(x,u)]) /\
    ∀ base:Heap,(K w.params).In base->base.Ns mainGlobals mg->bJ l.prog w (K w.params) mg base (CX w) k fa fd [x] (sp w))
  (hsp:∀ (w:World) (H:Hp) (a:Addr) (ns:List Int),ns.length<=n->pO H->SqL (K w.params) H a (ns.map V.int)->sp w [.ref a] H (fun v _=>v=.bl true) fun _ _ _=>False)
  (hCX:∀ (w:World) (H:Hp) (s:Shared) (e:Value) (s':Shared),CX w [] H s (fun _ _ _=>False) e s'->False) :
  a3y q loose XP YP l.row.toRowW d [] (fun f vs=>a3x f vs):=by
 refine Att.attach_call hn hdf fun w s₀ s₁ mg mb fa o pm cd doc a vs ns G Y ho hd hcd hmg hobj hints hlen hg=>?_
 have KX:=hY w _ Y
 obtain ⟨fd,hb,hF⟩:=F w mg fa _ KX G.T.g hmg
 exact qG KX G.T.g G.T.b G.T.builtins G.T.nolimit hg hobj hints (a0s hlen hn2) hr hF hb (fun H hO hS=>hsp w H a ns hlen hO hS) fun H e s'=>hCX w H s₁ e s'
end L2
namespace L2
open PySem PySem.Spec PyProof.Rows
noncomputable def defArgs (s:Stmt):Arguments:=match s with
 | .FunctionDef _ a _ _ _ _ _ _ _ _=>a
 | _=>{ posonlyargs:=[],args:=[],vararg:=none,kwonlyargs:=[],kw_defaults:=[],kwarg:=none,defaults:=[] }
noncomputable def defBody (s:Stmt):List Stmt:=match s with
 | .FunctionDef _ _ b _ _ _ _ _ _ _=>b
 | _=>[]
noncomputable def defScope (s:Stmt):Scope:=match s with
 | .FunctionDef _ _ _ _ _ _ sc _ _ _=>sc
 | _=>{ kind:=.function,names:=[],isGenerator:=false,isCoroutine:=false }
noncomputable abbrev CX0:CXT:=fun _ _ _ _ _ _=>False
noncomputable abbrev E0:XK:=fun _ _ _=>False
theorem xn {X:Cx}:gb CX0 X E0:=fun _ _ _ _ _ _ _ h=>h.elim
structure Fun (K:a0a)(x qual:Str)(st:Stmt)(f:Addr)(fd:FuncData):Prop where
 ex:∃ (oc:Value) (od:Option Addr) (kV doc pm:Value) (an:Option Addr) (cdv ct:Value) (osl:Array (Option Value)),
  fd=a09 x qual (defArgs st) (defBody st) (defScope st) .none kV doc pm an cdv ct/\K.lookup f=some ⟨oc,od,.func fd,osl⟩/\a2n K cdv qual=true
 kp:a1k K (.ref f)=true
section
variable {P:Program}{w:World}{K:a0a}{mg:Str->Option Value}{base:Heap}
theorem Fun.ok {x qual:Str}{st:Stmt}{f:Addr}{fd:FuncData}{N ps:List Str}{k:Nat}{sp:Sp}(F:Fun K x qual st f fd)(S:ak N ps (defScope st))(len:∀ vs H Q E,sp vs H Q E->vs.length=ps.length)
  (hbody:∀ (cdv:Value) (A:Around) (outer:List Env) (s:Shared) (H:Hp) (vs:List V) (Q:VK) (E:XK),Room k (A.deeper (envOfC qual (defScope st) s.heap.objs.size f cdv))->sp vs H Q E ->
   ∃ t,PSs (dY CX0 P w K mg base N qual (defScope st) f cdv A outer s H E).nox (defBody st) t/\t { nx:=fun _ H'=>Q .non H',rt:=Q } (start N vs) H):bJ P w K mg base CX0 (k+1) f fd ps sp:=by
 obtain ⟨oc,od,kV,doc,pm,an,cdv,ct,osl,rfl,lk,hcd⟩:=F.ex
 refine xi lk hcd S len fun A outer s H vs Q E hr hsp=>?_
 obtain ⟨t,h,q⟩:=hbody cdv A outer s H vs Q E hr hsp
 exact ⟨t,h.nox,q⟩
theorem Fun.binds {x qual:Str}{st:Stmt}{f:Addr}{fd:FuncData}{ps:List Str}(F:Fun K x qual st f fd)
  (h:∀ (kV doc pm:Value) (an:Option Addr) (cdv ct:Value) (us:List Value),us.length=ps.length->bindArgs (a09 x qual (defArgs st) (defBody st) (defScope st) .none kV doc pm an cdv ct) ⟨us,[]⟩=pure (ps.zip us)):Binds K fd ps []:=by
 obtain ⟨oc,od,kV,doc,pm,an,cdv,ct,osl,rfl,lk,hcd⟩:=F.ex
 exact .all (h kV doc pm an cdv ct)
theorem rY {x qual:Str}{st:Stmt}{f:Addr}{oc:Value}{od an:Option Addr}{osl:Array (Option Value)}{kV doc pm cdv ct:Value}(l:K.lookup f=some ⟨oc,od,.func (a09 x qual (defArgs st) (defBody st) (defScope st) .none kV doc pm an cdv ct),osl⟩)
  (c:a2n K cdv qual=true) (k:a1k K (.ref f)=true):Fun K x qual st f (a09 x qual (defArgs st) (defBody st) (defScope st) .none kV doc pm an cdv ct):=⟨⟨oc,od,kV,doc,pm,an,cdv,ct,osl,rfl,l,c⟩,k⟩
end
theorem De {A:Around}{k:Nat}(hr:Room k A):A.units+1 < cLine:=a1P (Nat.add_le_add_left (by decide:1<=64) _) hr.units
noncomputable def Same (H H':Hp):Prop:=∀ b o,H b=some o->H' b=some o
theorem Same.refl (H:Hp):Same H H:=fun _ _ h=>h
end L2
namespace L2
open PySem PySem.Spec PyProof.Rows
section
variable {κ:Type}[DecidableEq κ]
noncomputable def eN (kvs:List (κ×V))(k:κ):Option V:=(kvs.find? fun kv=>decide (kv.1=k)).map (·.2)
noncomputable def jh (kvs:List (κ×V))(k:κ)(v:V):List (κ×V) :=
 if (kvs.any fun kv=>decide (kv.1=k))=true then kvs.map (fun kv=>if kv.1=k then (kv.1,v) else kv) else kvs++[(k,v)]
theorem jZ {p:κ×V}{r:List (κ×V)}{k:κ}(e:p.1=k):eN (p::r) k=some p.2:=by simp [eN,a1n,e]
theorem jV {p:κ×V}{r:List (κ×V)}{k:κ}(e:¬ p.1=k):eN (p::r) k=eN r k:=by simp [eN,a1n,e]
theorem ju (kvs:List (κ×V))(k:κ)(v:V):(jh kvs k v).length<=kvs.length+1:=by
 unfold jh
 split
 ·rw [a0b]; omega
 ·rw [a0c,a0g,a1B]; omega
theorem RelO.getD {o:Option V}{u:Option Value}{d:V}{d':Value}(r:RelO o u)(rd:RelV d d'):RelV (o.getD d) (u.getD d'):=by
 cases o with
 | none=>cases u with
  | none=>exact rd
  | some _=>exact (show False from r).elim
 | some _=>cases u with
  | none=>exact (show False from r).elim
  | some _=>exact r
theorem KV.val {kvs:List (κ×V)}{vs:List (κ×Value)}(r:KV kvs vs)(k:κ):RelO (eN kvs k) (valueAt vs k):=by
 unfold KV at r
 induction r with
 | nil=>exact a1e
 | @cons p q ps qs h t ih =>
  obtain ⟨h1,h2⟩:=h
  by_cases e:p.1=k
  ·have e':q.1=k:=h1.symm.trans e
   have b:valueAt (q::qs) k=some q.2:=by simp [valueAt,a1n,e']
   rw [jZ e,b]; exact h2
  ·have e':¬ q.1=k:=fun z=>e (h1.trans z)
   have b:valueAt (q::qs) k=valueAt qs k:=by simp [valueAt,a1n,e']
   rw [jV e,b]; exact ih
theorem KV.any {kvs:List (κ×V)}{vs:List (κ×Value)}(r:KV kvs vs)(k:κ):(kvs.any fun kv=>decide (kv.1=k))=vs.any fun kv=>decide (kv.1=k):=by
 unfold KV at r
 induction r with
 | nil=>rfl
 | cons h t ih=>rw [a1C,a1C,ih,h.1]
theorem KV.repl {kvs:List (κ×V)}{vs:List (κ×Value)}(r:KV kvs vs)(k:κ){y:V}{u:Value}(ry:RelV y u) :
  KV (kvs.map fun kv=>if kv.1=k then (kv.1,y) else kv) (vs.map fun kv=>if kv.1=k then (kv.1,u) else kv):=by
 unfold KV at r ⊢
 induction r with
 | nil=>exact .nil
 | @cons p q ps qs h t ih =>
  rw [a0A,a0A]
  refine .cons ?_ ih
  obtain ⟨h1,h2⟩:=h
  by_cases e:p.1=k
  ·rw [if_pos e,if_pos (h1.symm.trans e)]; exact ⟨h1,ry⟩
  ·rw [if_neg e,if_neg (fun z=>e (h1.trans z))]; exact ⟨h1,h2⟩
theorem KV.put {kvs:List (κ×V)}{vs:List (κ×Value)}(r:KV kvs vs)(k:κ){y:V}{u:Value}(ry:RelV y u):KV (jh kvs k y) (stored vs k u):=by
 unfold jh stored
 rw [r.any k]
 by_cases e:(vs.any fun kv=>decide (kv.1=k))=true
 ·rw [if_pos e,if_pos e]; exact r.repl k ry
 ·rw [if_neg e,if_neg e]; exact Paired.snoc r ⟨rfl,ry⟩
end
theorem qW {P:Program}{w:World}{k:Key}{u:Value}(r:RelV (kV k) u):(aF P w).is k u=true:=by
 cases k with
 | inl i=>obtain ⟨t,e⟩:=(show ∃ t,u=Value.int i t from r); subst e; exact jD P w i t
 | inr x=>obtain ⟨t,e⟩:=(show ∃ t,u=Value.str x t from r); subst e; exact jO P w x t
theorem gz {P:Program}{w:World}:∀ {ks:List Key} {us:List Value},Vals (ks.map kV) us->ItemsAre (aF P w) ks us
 | [],_,r=>by rw [a1q] at r; cases r; exact .nil
 | k::ks,_,r=>by
  rw [a0A] at r
  cases r with
  | cons h t=>exact .cons (qW h) (gz t)
noncomputable abbrev KT (H:Hp):List (List Key×V)->List (List Key×Addr×Value)->Prop:=Paired fun p q=>p.1=q.1/\H q.2.1=some (.tup (p.1.map kV))/\RelV p.2 q.2.2
theorem KT.val {H:Hp}{kvs:List (List Key×V)}{xs:List (List Key×Addr×Value)}(r:KT H kvs xs)(k:List Key):RelO (eN kvs k) ((atKey xs k).map (·.2)):=by
 induction r with
 | nil=>exact a1e
 | @cons p q ps qs h t ih =>
  obtain ⟨h1,_,h2⟩:=h
  by_cases e:p.1=k
  ·have e':q.1=k:=h1.symm.trans e
   have b:atKey (q::qs) k=some q.2:=by simp [atKey,a1n,e']
   rw [jZ e,b]; exact h2
  ·have e':¬ q.1=k:=fun z=>e (h1.trans z)
   have b:atKey (q::qs) k=atKey qs k:=by simp [atKey,a1n,e']
   rw [jV e,b]; exact ih
section
variable {P:Program}{w:World}{H:Hp}{h:Heap}{a:Addr}
theorem xj {u:HO}(ok:HOk P w H h)(e:Rd H a u):ObjOk P w H h a u:=e.ok ok
theorem rG {kvs:List (Key×V)}(ok:HOk P w H h)(e:Rd H a (.dK kvs)):kvs.length<=sizeLine/\(a==sysModules)=false/\∃ vs,KV kvs vs/\h.DictOf (aF P w) a vs :=
 show ObjOk P w H h a (.dK kvs) from xj ok e
theorem BW {kvs:List (Key×V)}(ok:HOk P w H h)(e:H a=some (.dK kvs)):kvs.length<=sizeLine/\(a==sysModules)=false/\∃ vs,KV kvs vs/\h.DictOf (aF P w) a vs:=rG ok (.inl e)
theorem rF {ks:List Key}(ok:HOk P w H h)(e:H a=some (.tup (ks.map kV))):(tupleKind (aF P w)).is h ks a:=by
 obtain ⟨_,its,r,o,h1,h2,n,h3⟩:=(show ObjOk P w H h a (.tup (ks.map kV)) from ok a _ e)
 exact ⟨o,its.toArray,n,h1,h2,h3,by simpa using gz r⟩
theorem xu {kvs:List (List Key×V)}(ok:HOk P w H h)(e:Rd H a (.dT kvs)):kvs.length<=sizeLine/\(a==sysModules)=false /\
  ∃ xs,KT H kvs xs/\h.DictOfH (tupleKind (aF P w)) a xs:=by
 obtain ⟨z,y,xs,r,o,es,ep,h1,h2,h3,h4,h5⟩:=(show ObjOk P w H h a (.dT kvs) from xj ok e)
 refine ⟨z,y,xs,r,o,es,ep,h1,h2,h3,h4,fun x hx=>?_,h5⟩
 have all:∀ {l:List (List Key×V)} {m:List (List Key×Addr×Value)},KT H l m->∀ x∈m,(tupleKind (aF P w)).is h x.1 x.2.1:=by
  intro l m q
  induction q with
  | nil=>intro x hx; exact nomatch hx
  | @cons p q ps qs hq t ih =>
   intro x hx
   rcases a0m.mp hx with e | hx
   ·subst e
    exact rF ok (by rw [<- hq.1]; exact hq.2.1)
   ·exact ih x hx
 exact all r x hx
end
noncomputable def yN (H:Hp)(a:Addr)(y:V)(r:Option V):Prop :=
 (∃ kvs k,Rd H a (.dK kvs)/\y=kV k/\r=eN kvs k)\/∃ kvs k b,Rd H a (.dT kvs)/\y=.ref b/\H b=some (.tup (k.map kV))/\r=eN kvs k
section
variable {X:Cx}{pins:List (Addr×Obj)}{σ:St}{H:Hp}{s:Shared}{a:Addr}{y v:V}{u r:Value}{o:Option V}{A:Around}{E:Value->Shared->Prop}
theorem Inv.big (I:Inv X pins σ H s):sysModules < s.heap.objs.size:=by
 have h:mainGlobals < s.heap.objs.size:=(I.mod.glob.keeps I.bk).lt
 exact a3K (by decide) h
theorem uf {h':Heap}{t':Nat}{ob:HO}(I:Inv X pins σ H s)(mu:Mut (H a))(hs:Heap.SameBut a s.heap h')(he:∃ q,h'.get? a=some q)(new:ObjOk X.prog X.w (upd H a ob) h' a ob) :
  Inv X pins σ (upd H a ob) { s with heap:=h',toks:=t' } :=
 I.write (x:=a) (e:=a) mu (.inl rfl) (fun b q hb z=>(hs.2 b hb).trans z) he new
theorem Bs {P:Program}{w:World}{H':Hp}{h':Heap}{kvs:List (Key×V)}{vs:List (Key×Value)}(z:kvs.length<=sizeLine)(hd:(a==sysModules)=false)(rel:KV kvs vs)(dd:h'.DictOf (aF P w) a vs) :
  ObjOk P w H' h' a (.dK kvs):=⟨z,hd,vs,rel,dd⟩
end
theorem sH {P:Program}{w:World}{H:Hp}(h:Heap)(hb:sysModules < h.objs.size):ObjOk P w H (h.push { cls:=.type "dict",data:=.dict #[] }) h.objs.size (.dK []) :=
 ⟨a0Q _,beq_eq_false_iff_ne.mpr (a07 (a0v hb)),[],.nil,Heap.DictOf.new h⟩
noncomputable def gZ:List (TE×TE)->St->Hp->(List (V×V)->Hp->Prop)->Prop
 | [],_,H,Q=>Q [] H
 | (tk,tv)::r,σ,H,Q=>tk σ H fun x H1=>tv σ H1 fun y H2=>gZ r σ H2 fun ps H3=>Q ((x,y)::ps) H3
noncomputable abbrev VV:List (V×V)->List (Value×Value)->Prop:=Paired fun p q=>RelV p.1 q.1/\RelV p.2 q.2
noncomputable def PPs (X:Cx)(pos:Pos)(keys:List (Option Expr))(values:List Expr)(trs:List (TE×TE)):Prop :=
 ∀ (pins:List (Addr×Obj)) (s:Shared) (σ:St) (H:Hp) (Q:List (V×V)->Hp->Prop),Inv X pins σ H s->gZ trs σ H Q ->
  wpAny (model X.prog X.w) X.A (evalPairs (pairTrees keys values X.env pos)) (fun vs s'=>∃ ps H',Inv X pins σ H' s'/\VV ps vs/\Q ps H') X.xe s
theorem vT {X:Cx}{pos:Pos}:PPs X pos [] [] []:=fun pins s σ H Q I h=>pairTrees_nil_walk ⟨[],H,I,.nil,h⟩
theorem sk {X:Cx}{pos:Pos}{k v:Expr}{ks:List (Option Expr)}{vs:List Expr}{tk tv:TE}{trs:List (TE×TE)}(hk:PE X k tk)(hv:PE X v tv)(hr:PPs X pos ks vs trs) :
  PPs X pos (some k::ks) (v::vs) ((tk,tv)::trs):=fun pins s σ H Q I h =>
 pairTrees_cons_walk (thn (hk pins s σ H _ I h) fun u s1 ⟨x,H1,I1,rx,q1⟩=>thn (hv pins s1 σ H1 _ I1 q1) fun w2 s2 ⟨y,H2,I2,ry,q2⟩ =>
  thn (hr pins s2 σ H2 _ I2 q2) fun ws s3 ⟨ps,H3,I3,rel,q3⟩=>⟨(x,y)::ps,H3,I3,.cons ⟨rx,ry⟩ rel,q3⟩)
noncomputable def dt (kvs more:List (Key×V)):List (Key×V):=more.foldl (fun acc kv=>jh acc kv.1 kv.2) kvs
theorem KV.merge:∀ {more:List (Key×V)} {rs:List (Key×Value)} {kvs:List (Key×V)} {vs:List (Key×Value)},KV more rs->KV kvs vs->KV (dt kvs more) (merged vs rs):=by
 intro more rs kvs vs r
 unfold KV at r
 induction r generalizing kvs vs with
 | nil=>intro q; exact q
 | @cons p q ps qs h t ih =>
  intro r0
  have e:KV (jh kvs p.1 p.2) (stored vs q.1 q.2):=by
   have:=r0.put p.1 h.2
   rw [<- h.1]; exact this
  exact ih e
theorem dk:∀ (more kvs:List (Key×V)),(dt kvs more).length<=kvs.length+more.length
 | [],kvs=>by show kvs.length<=kvs.length+0; omega
 | p::r,kvs=>by
  have h1:=dk r (jh kvs p.1 p.2)
  have h2:=ju kvs p.1 p.2
  show (dt (jh kvs p.1 p.2) r).length<=_
  rw [a0g]; omega
theorem fN {P:Program}{w:World}:∀ {kvs:List (Key×V)} {ws:List (Value×Value)},VV (kvs.map fun kv=>(kV kv.1,kv.2)) ws->∃ rs,Carries (aF P w) ws rs/\KV kvs rs
 | [],_,r=>by rw [a1q] at r; cases r; exact ⟨[],a1e,.nil⟩
 | p::kvs,_,r=>by
  rw [a0A] at r
  cases r with
  | @cons a b as bs h t =>
   obtain ⟨rs,c,q⟩:=fN (P:=P) (w:=w) t
   obtain ⟨b1,b2⟩:=b
   exact ⟨(p.1,b2)::rs,⟨qW h.1,rfl,c⟩,.cons ⟨rfl,h.2⟩ q⟩
noncomputable def wY (trs:List (TE×TE)):TE:=fun σ H Q=>∀ p,H p=none->gZ trs σ (upd H p (.dK [])) fun ps H2=>H2 p=some (.dK [])/\∃ kvs:List (Key×V),ps=kvs.map (fun kv=>(kV kv.1,kv.2))/\kvs.length<=15/\Q (.ref p) (upd H2 p (.dK (dt [] kvs)))
theorem vh {X:Cx}{pos:Pos}{keys:List (Option Expr)}{values:List Expr}{trs:List (TE×TE)}(h:PPs X pos keys values trs)(hall:keys.all (·.isSome)=true)(hl:keys.length=values.length)(h0:keys≠[])
  (h15:keys.length<=15):PE X (.Dict keys values pos) (wY trs):=by
 intro pins s σ H Q I q
 have hn:=I.hok.fresh (a0j s.heap.objs.size)
 have I1:=I.laid (a:=s.heap.objs.size) (o:=.dK []) (h':=s.heap.push { cls:=.type "dict",data:=.dict #[] }) (t':=s.toks) (fun _ _ q=>Heap.get?_push_of_some _ q) (a0j _) (sH s.heap I.big)
 refine wpAny_Dict_walk (knd:=aF X.prog X.w) hall hl h0 h15 (thn (h pins _ σ _ _ I1 (q _ hn)) fun ws s2 ⟨ps,H2,I2,rel,e,kvs,ep,lk,q2⟩=>?_)
 subst ep
 obtain ⟨rs,c,rk⟩:=fN (P:=X.prog) (w:=X.w) rel
 obtain ⟨z,hd,vs0,r0,dd⟩:=BW I2.hok e
 cases r0
 refine ⟨rs,c,dd,fun h' dd' hs=>⟨.ref s.heap.objs.size,_,?_,rfl,q2⟩⟩
 have hz:(dt [] kvs).length<=sizeLine:=by
  have h1:=dk kvs []
  rw [a1B] at h1
  rw [sizeLine_eq]; omega
 have he:∃ q,h'.get? s.heap.objs.size=some q:=let ⟨q,_,_,hq,_⟩:=dd'; ⟨q,hq⟩
 exact uf I2 (by rw [e]; exact a1e) hs he (Bs hz hd (rk.merge .nil) dd')
structure M1 (X:Cx)(o:Expr)(m:Str)(apos:Pos)(e:Expr)(cpos:Pos):Prop where
 base:attributeBase o m X.env (eval o X.env)=eval o X.env
 few:((backTo cpos (starEach [e] X.env)).all (fun x=>!x.1)&&(backToKw cpos (keywordEach [] X.env)).all (fun x=>x.1.isSome)
 &&decide (([e]:List Expr).length+([]:List Keyword).length+(if ([]:List Keyword).isEmpty then 0 else 1) < 30))=true
 line:(apos.endLine==cpos.line)=true
 trees:backTo cpos (starEach [e] X.env)=[(false,eval e X.env)]
noncomputable def IsD (H:Hp)(a:Addr):Prop:=(∃ kvs,Rd H a (.dK kvs))\/∃ kvs,Rd H a (.dT kvs)
theorem yK {X:Cx}{pins:List (Addr×Obj)}{σ:St}{H:Hp}{s:Shared}{a:Addr}(I:Inv X pins σ H s)(d:IsD H a) :
  s.TypeIs (.ref a) "dict"/\(∀ b,Value.ref a=.ref b->∃ ob,s.heap.get? b=some ob/\ob.dict=none)/\(a==sysModules)=false:=by
 rcases d with ⟨kvs,e⟩ | ⟨kvs,e⟩
 ·obtain ⟨_,hd,vs,_,dd⟩:=rG I.hok e
  refine ⟨dd.typeIs,fun b q=>?_,hd⟩
  cases q
  obtain ⟨ob,_,_,h1,h2,_⟩:=dd
  exact ⟨ob,h1,h2.2.1⟩
 ·obtain ⟨_,hd,xs,_,dd⟩:=xu I.hok e
  refine ⟨dd.typeIs,fun b q=>?_,hd⟩
  cases q
  obtain ⟨ob,_,_,h1,h2,_⟩:=dd
  exact ⟨ob,h1,h2.2.1⟩
section
variable {X:Cx}{pins:List (Addr×Obj)}{σ:St}{H:Hp}{s:Shared}{a:Addr}{y d:V}{u r:Value}{o:Option V}{A:Around}{E:Value->Shared->Prop}
theorem Bt {Q:Value->Shared->Prop}(hu:A.units+1 < cLine)(I:Inv X pins σ H s)(g:yN H a y o)(ry:RelV y u)(h:∀ w' s',Inv X pins σ H s'->RelV (o.getD .non) w'->Q w' s') :
  wpAny (model X.prog X.w) A (call (.builtin "dict.get") [.ref a,u]) Q E s:=by
 rcases g with ⟨kvs,k,e,ey,l⟩ | ⟨kvs,k,b,e,ey,eb,l⟩
 ·subst ey
  obtain ⟨z,hd,vs,rel,dd⟩:=rG I.hok e
  refine call_meetsIn a1h dd.typeIs a1X (a1Q _ _) (meets_dict_get (aF X.prog X.w) a (qW ry) hd) ⟨_,dd.mapOf,h _ _ (I.tok _) ?_⟩
  rw [l]
  exact (rel.val k).getD rfl
 ·subst ey
  cases (show u=Value.ref b from ry)
  obtain ⟨z,hd,xs,rel,dd⟩:=xu I.hok e
  refine call_meetsIn a1h dd.typeIs a1X (a1Q _ _) (meetsH_dict_get (tupleKind (aF X.prog X.w)) a b hd) ⟨tupleKind_room_in1 hu,k,xs,rF I.hok eb,dd,h _ _ (I.tok _) ?_⟩
  rw [l]
  exact (rel.val k).getD rfl
end
noncomputable def Bq (td ty:TE):TE:=fun σ H Q=>td σ H fun x H1=>∃ a,x=.ref a/\IsD H1 a/\ty σ H1 fun y H2=>∃ o,yN H2 a y o/\Q (o.getD .non) H2
section
variable {X:Cx}{o e f:Expr}{apos cpos:Pos}{td ty tx:TE}
theorem rB (hu:X.A.units+1 < cLine)(ho:PE X o td)(he:PE X e ty)(m:M1 X o "get" apos e cpos):PE X (.Call (.Attribute o "get" apos) [e] [] cpos) (Bq td ty):=by
 intro pins s σ H Q I h
 refine wpAny_Call_method m.base m.few m.line a2x a1h a2I (thn (ho pins s σ H _ I h) fun u s1 ⟨x,H1,I1,rx,a,ex,d,q1⟩=>?_)
 subst ex
 obtain rfl:u=Value.ref a:=rx
 obtain ⟨t1,t2,_⟩:=yK I1 d
 refine ⟨t1,t2,?_⟩
 rw [m.trees]
 refine Calls.callWith_builtin rfl (Calls.evalArgs_plain (Calls.spliced_cons (thn (he pins s1 σ H1 _ I1 q1) fun iv s2 ⟨y,H2,I2,ry,ov,g,q2⟩=>Calls.spliced_nil ?_)))
 exact Bt hu I2 g ry fun w' s3 I3 rw'=>⟨_,H2,I3,rw',q2⟩
end
end L2
namespace L2
open PySem PySem.Spec PyProof.Rows
end L2

set_option maxHeartbeats 4000000
namespace L3
open PySem PySem.Spec PyProof.Rows L2
noncomputable abbrev noX:Value->Shared->Prop:=fun _ _=>False
theorem gU {P:Program}{w:World}{H:Hp}{h:Heap}{a:Addr}{o:HO}(x:HOk P w H h)(hn:H a=none)(new:ObjOk P w (upd H a o) h a o):HOk P w (upd H a o) h:=by
 intro b u e
 by_cases hb:b=a
 ·subst hb
  rw [ag] at e
  cases e
  exact new
 ·rw [af hb] at e
  refine (x b u e).stay (fun c v _ q=>q) (fun c q=>?_) (fun c xs q=>?_)
  ·rw [af (aC q hn)]; exact q
  ·rw [af (aC q hn)]; exact q
section
variable {prog:Program}{w:World}{A:Around}{R:Result->Shared->Prop}{s:Shared}
theorem kz {elt tg iter:Expr}{scope:Scope}{pos:Pos}{it acc:Value}{env:Env}(J:Nat->Shared->Prop)
  (turn:∀ n s,J n s->wpAny (model prog w) A (pyNext it) (fun r s₁=>match r with
   | none=>R (.ok .next) s₁
   | some v=>wpAny (model prog w) A (letOwnedTupleGo tg it v) (fun _ s₂=>wpAny (model prog w) A (assign tg env v) (fun _ s₃ =>
     wpAny (model prog w) A (eval elt env) (fun y s₄=>wpAny (model prog w) A (call (.builtin "list.append") [acc,y]) (fun _ s₅=>∃ m,m < n/\J m s₅) noX s₄) noX s₃) noX s₂) noX s₁) noX s)
  (n:Nat) (h:J n s):codeAny (model prog w) A (.compLoop (.ListComp elt [⟨tg,iter,[],0⟩] scope pos) 0 it acc env) R s:=by
 refine codeAny_loop rfl J (fun n s hJ=>?_) n h
 show wpAny _ A ((compTurn (.ListComp elt [⟨tg,iter,[],0⟩] scope pos) 0 it acc env).onRaise (fun x=>do noteFrame x env; theTreesLotGoes x)) _ _ s
 refine wpAny_noted ?_
 rw [compTurn_list]
 refine wpAny_bind (wpAny_standAt (wpAny_bind (wpAny_mono (turn n s hJ) (fun r s₁ h₁=>?_) fun _ _ z=>z.elim)))
 cases r with
 | none=>exact wpAny_pure h₁
 | some v =>
  refine wpAny_bind (wpAny_mono h₁ (fun _ s₂ h₂=>?_) fun _ _ z=>z.elim)
  refine wpAny_bind (wpAny_mono h₂ (fun _ s₃ h₃=>?_) fun _ _ z=>z.elim)
  refine wpAny_bind (wpAny_tests_nil ?_)
  exact wpAny_bind (wpAny_bind (wpAny_mono h₃ (fun y s₄ h₄=>wpAny_bind (wpAny_mono h₄ (fun _ s₅ h₅=>wpAny_pure (wpAny_pure ⟨rfl,h₅⟩)) fun _ _ z=>z.elim)) fun _ _ z=>z.elim))
end
noncomputable def ax (X:Cx)(N:List Str)(scope:Scope)(cl:List (Str×Addr))(C:Addr)(s:Shared)(H:Hp)(fp:List Addr):Cx where
 prog:=X.prog
 w:=X.w
 K:=X.K
 mg:=X.mg
 base:=X.base
 A:=X.A
 N:=N
 s₀:=s
 H₀:=H
 env:=compEnvC scope cl C X.env
 outer:=X.stack
 stack:=X.stack
 ex:=fp
 fn:=fun _=>false
 calm:=X.calm
 pn:=X.pn
 xe:=noX
inductive Clo (X:Cx):List (Str×Addr)->Prop
 | nil:Clo X []
 | cons {y:Str} {c:Addr} {cl:List (Str×Addr)}:X.env.cells.lookup y=some c->Clo X cl->Clo X ((y,c)::cl)
theorem Clo.get {X:Cx}{cl:List (Str×Addr)}(h:Clo X cl):∀ {y:Str} {c:Addr},cl.lookup y=some c->X.env.cells.lookup y=some c:=by
 induction h with
 | nil=>intro y c e; cases e
 | @cons z d cl' hz _ ih =>
  intro y c e
  cases q:y==z with
  | true =>
   simp only [a0Y,q] at e
   cases e
   rw [eq_of_beq q]; exact hz
  | false =>
   simp only [a0Y,q] at e
   exact ih e
inductive Frees (X:Cx)(scope:Scope)(cl:List (Str×Addr)):List Str->List Nat->Prop
 | nil:Frees X scope cl [] []
 | cons {y:Str} {ys:List Str} {i:Nat} {is:List Nat} {c:Addr}:X.N[i]?=some y->Vis X.env.scope y->(X.env.kindOf y=some .cell\/X.env.kindOf y=some .free)->X.env.cells.lookup y=some c->cl.lookup y=some c ->
   ((relabel scope X.env).names.lookup y=some .cell\/(relabel scope X.env).names.lookup y=some .free)->Frees X scope cl ys is->Frees X scope cl (y::ys) (i::is)
theorem Frees.len {X:Cx}{scope:Scope}{cl:List (Str×Addr)}{ys:List Str}{is:List Nat}(F:Frees X scope cl ys is):is.length=ys.length:=by
 induction F with
 | nil=>rfl
 | cons _ _ _ _ _ _ _ ih=>rw [a0g,a0g,ih]
noncomputable def b7 (σ:L2.St)(is:List Nat):L2.St:=is.map fun i=>(σ[i]?).join
theorem Frees.get {X:Cx}{scope:Scope}{cl:List (Str×Addr)}{ys:List Str}{is:List Nat}{σ:L2.St}(F:Frees X scope cl ys is):∀ {j:Nat} {y:Str} {v:V},ys[j]?=some y->(b7 σ is)[j]?=some (some v) ->
  ∃ (i:Nat) (c:Addr),X.N[i]?=some y/\σ[i]?=some (some v)/\Vis X.env.scope y/\(X.env.kindOf y=some .cell\/X.env.kindOf y=some .free)/\X.env.cells.lookup y=some c/\cl.lookup y=some c /\
   ((relabel scope X.env).names.lookup y=some .cell\/(relabel scope X.env).names.lookup y=some .free):=by
 induction F with
 | nil=>intro j y v e; simp at e
 | @cons z zs i is c h1 h2 h3 h4 h5 h6 _ ih =>
  intro j y v e1 e2
  unfold b7 at e2
  rw [a0A] at e2
  cases j with
  | zero =>
   rw [a1R] at e1 e2
   cases e1
   cases q:σ[i]? with
   | none=>rw [q] at e2; cases e2
   | some o =>
    rw [q] at e2
    have e3:o=some v:=a0u e2
    subst e3
    exact ⟨i,c,h1,q,h2,h3,h4,h5,h6⟩
  | succ j =>
   rw [a0w] at e1 e2
   exact ih e1 e2
noncomputable abbrev iA (its:List Value):Obj:={ cls:=.type "list",data:=.seq its.toArray its.length }
inductive Th where
 | non | bl (b:Bool) | int (i:Int) | str (x:Str) | tup (ts:List Th) | lst (ts:List Th)
mutual
noncomputable def Has (K:a0a)(H:Hp):Th->V->Prop
 | .non,v=>v=.non
 | .bl b,v=>v=.bl b
 | .int i,v=>v=.int i
 | .str x,v=>v=.str x
 | .tup ts,v=>∃ a vs,v=.ref a/\SqT K H a vs/\HasL K H ts vs
 | .lst ts,v=>∃ a vs,v=.ref a/\H a=some (.lst vs)/\HasL K H ts vs
noncomputable def HasL (K:a0a)(H:Hp):List Th->List V->Prop
 | [],vs=>vs=[]
 | t::ts,vs=>∃ v r,vs=v::r/\Has K H t v/\HasL K H ts r
end
theorem Same.sqt {K:a0a}{H H':Hp}{a:Addr}{xs:List V}(e:Same H H')(h:SqT K H a xs):SqT K H' a xs:=by
 rcases h with (h | ⟨o,h⟩) | h
 ·exact .inl (.inl (e _ _ h))
 ·exact .inl (.inr ⟨o,e _ _ h⟩)
 ·exact .inr h
mutual
theorem Has.mono {K:a0a}{H H':Hp}(s:Same H H'):∀ {t:Th} {v:V},Has K H t v->Has K H' t v
 | .non,_,h=>h
 | .bl _,_,h=>h
 | .int _,_,h=>h
 | .str _,_,h=>h
 | .tup _,_,⟨a,vs,e,q,r⟩=>⟨a,vs,e,Same.sqt s q,HasL.mono s r⟩
 | .lst _,_,⟨a,vs,e,q,r⟩=>⟨a,vs,e,s _ _ q,HasL.mono s r⟩
theorem HasL.mono {K:a0a}{H H':Hp}(s:Same H H'):∀ {ts:List Th} {vs:List V},HasL K H ts vs->HasL K H' ts vs
 | [],_,h=>h
 | _::_,_,⟨v,r,e,q,z⟩=>⟨v,r,e,Has.mono s q,HasL.mono s z⟩
end
noncomputable def Th.ty:Th->String
 | .non=>"NoneType" | .bl _=>"bool" | .int _=>"int" | .str _=>"str" | .tup _=>"tuple" | .lst _=>"list"
noncomputable def isI (c:String)(t:Th):Bool:=t.ty==c || (t.ty=="bool"&&c=="int")
theorem kit_type {K:a0a}{A B:String}:a0C K (.type A) (.type B)=a0C [] (.type A) (.type B):=by
 unfold a0C PySem.W.kitCls a2W
 rfl
theorem Ay:∀ c∈["tuple","str","bool","int","list"],∀ n∈["NoneType","bool","int","str","tuple","list"],a0C [] (.type n) (.type c)=some (n==c || (n=="bool"&&c=="int")):=by decide +kernel
theorem zN (t:Th):t.ty∈["NoneType","bool","int","str","tuple","list"]:=by cases t<;>simp [Th.ty]
theorem AW {c:String}(hc:c∈["tuple","str","bool","int","list"])(t:Th):a0C [] (.type t.ty) (.type c)=some (isI c t):=Ay c hc t.ty (zN t)
structure DTab (K:a0a)(w:World)(a:Addr)(T:List (Str×V)):Prop where
 ex:∃ es n,K.lookup a=some ⟨.type "dict",none,.dict es n,#[]⟩/\a3m w.params es.toList/\Paired (fun (p:Str×V) (e:DictEntry)=>(∃ t,e.key=.str p.1 t)/\RelV p.2 e.val) T es.toList
 lo:(a==sysModules)=false
theorem i9 {x:Str}:∀ {T:List (Str×V)} {l:List DictEntry},Paired (fun (p:Str×V) (e:DictEntry)=>(∃ t,e.key=.str p.1 t)/\RelV p.2 e.val) T l->RelO (T.lookup x) ((l.find? fun d=>Value.isStrOf x d.key).map (·.val))
 | _,_,.nil=>trivial
 | (k,v)::T,e::l,.cons ⟨⟨t,h1⟩,h2⟩ r=>by
  have ih:=i9 (x:=x) r
  have q:Value.isStrOf x e.key=(x==k):=by
   have h1':e.key=.str k t:=h1
   rw [h1']
   show (k==x)=(x==k)
   by_cases z:x=k
   ·subst z; rfl
   ·rw [beq_false_of_ne z,beq_false_of_ne (a07 z)]
  rw [a1n,q,a0Y]
  cases x==k with
  | true=>exact h2
  | false=>exact ih
theorem DTab.map {K:a0a}{w:World}{a:Addr}{T:List (Str×V)}{P:Program}{h:Heap}(D:DTab K w a T)(X:K.In h):∃ f:Str->Option Value,h.MapOf (strKind P w) a f/\∀ x,RelO (T.lookup x) (f x):=by
 obtain ⟨es,n,h1,h2,h3⟩:=D.ex
 refine ⟨_,PySem.W.mapOf_K (prog:=P) X h1 h2,fun x=>?_⟩
 have q:=i9 (x:=x) h3
 have e:findBy Value.isStrOf es x=(es.toList.find? fun d=>Value.isStrOf x d.key).map (·.val):=by
  unfold findBy
  rw [<- a2g]
 rw [e]; exact q
theorem RelO.some_is {v:V}{o:Option Value}(r:RelO (some v) o):∃ u,o=some u/\RelV v u:=by
 cases o with
 | none=>exact r.elim
 | some u=>exact ⟨u,rfl,r⟩
theorem RelO.same_some {o:Option V}{u:Option Value}(r:RelO o u):u.isSome=o.isSome:=by
 cases o with
 | none =>
  cases u with
  | none=>rfl
  | some u=>exact r.elim
 | some v =>
  obtain ⟨u,rfl,_⟩:=RelO.some_is r
  rfl
section
variable {X:Cx}
theorem om:OpR X (compareOp .In) (fun x y H Q=>∃ z a T,x=.str z/\y=.ref a/\DTab X.K X.w a T/\Q (.bl (T.lookup z).isSome) H):=by
 intro pins s σ H x y v u Q I rx ry h
 obtain ⟨z,a,T,rfl,rfl,D,q⟩:=h
 obtain ⟨t,rfl⟩:=rx
 cases ry
 obtain ⟨f,hm,hf⟩:=D.map (P:=X.prog) I.kIn
 refine wpAny_in_of (strKind_is X.prog X.w z t) D.lo hm ?_
 rw [RelO.same_some (hf z)]
 exact ⟨.bl (T.lookup z).isSome,H,I.tok _,rfl,q⟩
end
theorem jE {H:Hp}{p:Addr}(h:H p=none)(o:HO):Same H (upd H p o):=fun b u q=>by rw [af (aC q h)]; exact q
noncomputable def xo (K:a0a):R2:=fun x y H Q=>∃ a b xs ys,x=.ref a/\y=.ref b/\SqT K H a xs/\SqT K H b ys/\xs≠[]/\xs.length+ys.length<=sizeLine/\∀ v H',Same H H'->(∃ c,v=.ref c/\SqT K H' c (xs++ys))->Q v H'
theorem l6 {X:Cx}:OpR X (binaryOp .Add) (xo X.K):=fun pins s σ H x y v u Q I rx ry h=>by
 obtain ⟨a,b,xs,ys,e1,e2,h1,h2,hx,hz,q⟩:=h
 exact vA pins s σ H x y v u Q I rx ry ⟨a,b,xs,ys,e1,e2,h1,h2,hx,hz,fun z=>q _ _ (Same.refl _) ⟨a,rfl,by rw [z,a0B]; exact h1⟩,fun _ p hp=>q _ _ (jE hp _) ⟨p,rfl,SqT.of ag⟩⟩
theorem wx {X:Cx}{x:Str}{T:String}{pos:Pos}(hg:Gl X x)(hm:X.mg x=none)(hv:bootBuiltins x=some (.type T))(hn:x≠"__name__":=by decide)(hd:(x==("__debug__":Str))=false:=by decide):PE X (.Name x pos) (tC (.ty T)):=uq (v:=.ty T) hg hm hv rfl hn hd
theorem iq {X:Cx}{x:Str}{a:Addr}{pos:Pos}(hg:Gl X x)(hm:X.mg x=some (.ref a))(hd:(x==("__debug__":Str))=false:=by decide):PE X (.Name x pos) (tC (.ref a)):=mm (v:=.ref a) hg hm rfl hd
mutual
noncomputable def toD:Th->PyData
 | .non=>.none
 | .bl b=>.bool b
 | .int i=>.int i
 | .str x=>.str x
 | .tup ts=>.tuple (dP ts)
 | .lst ts=>.list (dP ts)
noncomputable def dP:List Th->List PyData
 | []=>[]
 | t::ts=>toD t::dP ts
end
section
variable {X:Cx}{pins:List (Addr×Obj)}{σ:L2.St}{H:Hp}{s:Shared}
mutual
theorem Has.reads (I:Inv X pins σ H s):∀ {t:Th} {v:V} {u:Value},Has X.K H t v->RelV v u->∃ as,Reads s.heap u (toD t) as
 | .non,_,u,h,r=>by
  obtain rfl:_=V.non:=h
  obtain rfl:u=Value.none:=r
  exact ⟨_,.none⟩
 | .bl b,_,u,h,r=>by
  obtain rfl:_=V.bl b:=h
  obtain rfl:u=Value.bool b:=r
  exact ⟨_,.bool b⟩
 | .int i,_,u,h,r=>by
  obtain rfl:_=V.int i:=h
  obtain ⟨t,rfl⟩:∃ t,u=Value.int i t:=r
  exact ⟨_,.int i t⟩
 | .str x,_,u,h,r=>by
  obtain rfl:_=V.str x:=h
  obtain ⟨t,rfl⟩:∃ t,u=Value.str x t:=r
  exact ⟨_,.str x t⟩
 | .tup ts,_,u,⟨a,vs,e,hS,hL⟩,r=>by
  subst e
  obtain rfl:u=Value.ref a:=r
  obtain ⟨its,rv,⟨o,h1,h2,n,h3⟩,_⟩:=I.tuple hS
  obtain ⟨as,ra⟩:=HasL.reads I hL rv
  exact ⟨_,.tuple h1 h2 h3 (by simpa using ra)⟩
 | .lst ts,_,u,⟨a,vs,e,hS,hL⟩,r=>by
  subst e
  obtain rfl:u=Value.ref a:=r
  obtain ⟨its,rv,⟨o,n,h1,h2,_,h3⟩,_⟩:=I.list (SqL.of hS)
  obtain ⟨as,ra⟩:=HasL.reads I hL rv
  exact ⟨_,.list h1 h2 h3 (by simpa using ra)⟩
theorem HasL.reads (I:Inv X pins σ H s):∀ {ts:List Th} {vs:List V} {us:List Value},HasL X.K H ts vs->Vals vs us->∃ as,ReadsAll s.heap us (dP ts) as
 | [],vs,us,h,r=>by
  obtain rfl:vs=[]:=h
  cases r
  exact ⟨_,.nil⟩
 | t::ts,vs,us,⟨v,w',e,h1,h2⟩,r=>by
  subst e
  cases r with
  | cons r1 r2 =>
   obtain ⟨as,ra⟩:=Has.reads I h1 r1
   obtain ⟨bs,rb⟩:=HasL.reads I h2 r2
   exact ⟨_,.cons ra rb⟩
end
end
noncomputable abbrev okTh (t:Th):Prop:=SeqAt.shaped (toD t)=true
theorem lM {X:Cx}(hu:X.A.units+64 < cLine):OpR X (compareOp .Eq) (fun x y H Q=>∃ t t',Has X.K H t x/\Has X.K H t' y/\okTh t/\okTh t'/\Q (.bl (PyData.eqv (toD t) (toD t'))) H):=by
 intro pins s σ H x y v u Q I rx ry h
 obtain ⟨t,t',h1,h2,o1,o2,q⟩:=h
 obtain ⟨as,ra⟩:=Has.reads I h1 rx
 obtain ⟨bs,rb⟩:=Has.reads I h2 ry
 exact a3L ra rb o1 o2 hu ⟨.bl _,H,I,rfl,q⟩
theorem vR {X:Cx}(hu:X.A.units+64 < cLine):OpR X (compareOp .NotEq) (fun x y H Q=>∃ t t',Has X.K H t x/\Has X.K H t' y/\okTh t/\okTh t'/\Q (.bl (!PyData.eqv (toD t) (toD t'))) H):=by
 intro pins s σ H x y v u Q I rx ry h
 obtain ⟨t,t',h1,h2,o1,o2,q⟩:=h
 obtain ⟨as,ra⟩:=Has.reads I h1 rx
 obtain ⟨bs,rb⟩:=Has.reads I h2 ry
 exact a3M ra rb o1 o2 hu ⟨.bl _,H,I,rfl,q⟩
section
variable {prog:Program}{w:World}{A:Around}{E:Value->Shared->Prop}{s:Shared}
theorem dZ {t sl:Addr}{items:Array Value}{vl vu:Value}{lo hi:Option Int}{Q:Value->Shared->Prop}(ht:IsTup s.heap t items)(hs:s.heap.IsSliceOf sl vl vu .none)(pl:IsPart vl lo)(pu:IsPart vu hi)
  (hw:HT.sIx items.size 0 lo=0/\HT.sIx items.size items.size hi=items.size) (h:Q (.ref t) s):wpAny (model prog w) A (getItem (.ref t) (.ref sl)) Q E s:=by
 obtain ⟨os,hos,hcs,hds⟩:=id hs
 have hTs:s.TypeIs (.ref sl) "slice":=⟨os,hos,hcs⟩
 unfold getItem
 try with_reducible refine wpAny_holding ?_
 first | refine wpAny_bind (wpAny_pure ?_) | skip
 refine wpAny_bind (wpAny_sequenceKey ht.typeIs (by decide) ?_)
 refine wpAny_bind (wpAny_callSpecial?_slot (name:=Str.ofString "__getitem__") ht.typeIs a0H
  (wpAny_call_entry a0H ht.typeIs entry_tuple_getitem ?_ (args_tuple_getitem _ _)))
 show wpAny _ _ (Builtin.Tuple.tupleItemsOf (.ref t) >>= _) _ _ s
 refine wpAny_bind (tupleItemsOf_ ht ?_)
 refine wpAny_bind (wpAny_typeOf hTs ?_)
 rw [if_pos (by decide)]
 refine wpAny_bind (HT.sliceApplied_gen hs pl pu ?_)
 have hyes:(((HT.sIx items.size 0 lo:Nat):Int)==0&&(1:Int)==1&&(HT.sIx items.size items.size hi-HT.sIx items.size 0 lo)==items.size)=true:=by
  rw [hw.1,hw.2]
  simp
 show wpAny _ _ (if (((HT.sIx items.size 0 lo:Nat):Int)==0&&(1:Int)==1&&(HT.sIx items.size items.size hi-HT.sIx items.size 0 lo)==items.size)=true then _ else _) _ _ s
 rw [if_pos hyes]
 unfold Builtin.Tuple.tupleIsExact
 refine wpAny_bind (wpAny_bind (wpAny_typeOf ht.typeIs (wpAny_pure ?_)))
 rw [if_pos (by decide)]
 first
  | exact wpAny_bind (wpAny_rule (wpAny_pure ⟨_,rfl,wpAny_pure h⟩))
  | exact wpAny_bind (wpAny_rule (wpAny_bind (wpAny_pure (wpAny_pure ⟨_,rfl,wpAny_pure h⟩))))
end
section
variable {X:Cx}
noncomputable def uW (K:a0a):V->Option Int->Option Int->Hp->VK->Prop:=fun x lo hi H Q=>∃ a xs,x=.ref a/\SqT K H a xs/\∀ v H',Same H H'->(∃ c,v=.ref c/\SqT K H' c (dH xs lo hi))->Q v H'
theorem lA:SlR X (uW X.K):=by
 intro pins s σ H x v vl vu lo hi sl Q I rx hs pl pu h
 obtain ⟨a,xs,rfl,hx,q⟩:=h
 by_cases hw:HT.sIx xs.length 0 lo=0/\HT.sIx xs.length xs.length hi=xs.length
 ·cases rx
  obtain ⟨its,r,ht,hz⟩:=I.tuple hx
  have hlen:its.toArray.size=xs.length:=by rw [a0e]; exact r.length.symm
  refine ⟨"tuple",_,a0H.lookup,ht.typeIs,?_⟩
  refine dZ ht hs pl pu (by rw [hlen]; exact hw) ⟨.ref a,H,I,rfl,q _ _ (Same.refl H) ⟨a,rfl,?_⟩⟩
  have e:dH xs lo hi=xs:=by
   unfold dH
   rw [hw.1,hw.2]
   simp
  rw [e]
  exact hx
 ·exact z0 pins s σ H _ v vl vu lo hi sl Q I rx hs pl pu ⟨a,xs,rfl,hx,hw,fun p hp=>q _ _ (jE hp _) ⟨p,rfl,SqT.of ag⟩⟩
end
noncomputable def Fz (K:a0a):R2:=fun x y H Q=>∃ p xs i v,x=.ref p/\y=.int i/\(SqL K H p xs\/SqT K H p xs)/\atI xs i=some v/\Q v H
theorem ix_any {X:Cx}:IxR X (Fz X.K):=fun value slice pins s σ H x y v u Q I rx ry h hs=>by
 obtain ⟨p,xs,i,z,e1,e2,hq,ha,q⟩:=h
 rcases hq with hq | hq
 ·exact vV value slice pins s σ H x y v u Q I rx ry ⟨p,xs,i,z,e1,e2,hq,ha,q⟩ hs
 ·exact xQ value slice pins s σ H x y v u Q I rx ry ⟨p,xs,i,z,e1,e2,hq,ha,q⟩ hs
end L3

namespace L3
open PySem PySem.Spec PySem.Builtin PySem.Builtin.Str PyProof.Rows L2
end L3

namespace L3
open PySem PySem.Spec PyProof.Rows L2
noncomputable def ItO (h:Heap):Bool->Addr->Addr->Nat->Prop
 | true,it,a,n=>h.IsTupleIter it a n
 | false,it,a,n=>h.IsListIter it a n
section
variable {prog:Program}{w:World}{A:Around}{E:Value->Shared->Prop}{s:Shared}
theorem j6 {it t:Addr}{i:Nat}{xs:Array Value}{x:Value}{Q:Value->Shared->Prop}(hit:s.heap.IsTupleIter it t i)(ht:s.heap.IsTuple t xs)(hx:xs[i]?=some x)
  (q:∀ h',h'.IsTupleIter it t (i+1)->Heap.SameBut it s.heap h'->Q x { s with heap:=h' }):wpAny (model prog w) A (Builtin.SmallTypes.nextOf (.ref it)) Q E s:=by
 obtain ⟨u,hu,cu,du⟩:=id hit; obtain ⟨v,hv,_,nv,dv⟩:=ht
 unfold Builtin.SmallTypes.nextOf
 refine wpAny_bind (wpAny_callSpecial?_slot (name:=Str.ofString "__next__") hit.typeIs F.slot_tuple_iterator_next (wpAny_call_entry F.slot_tuple_iterator_next hit.typeIs F.entry_tuple_iterator_next ?_ (F.args_tuple_iterator_next_1 _)))
 show wpAny _ _ (field (.ref it) 0 >>= _) _ _ _; refine wpAny_bind (wpAny_field hu du (x:=.ref t) rfl ?_)
 show wpAny _ _ (if (Value.ref t==Value.none)=true then _ else _) _ _ _; rw [if_neg (by intro z; cases z)]
 show wpAny _ _ (field (.ref it) 1 >>= _) _ _ _; refine wpAny_bind (wpAny_field hu du (x:=.int i 0) rfl ?_)
 show wpAny _ _ (seqItems? (.ref t) >>= _) _ _ _; refine wpAny_bind (wpAny_seqItems hv dv ?_)
 simp only [hx,a0N]
 exact wpAny_bind (wpAny_setField hu du (by simp) (wpAny_pure ⟨x,rfl,wpAny_pure (q _ ⟨_,Heap.get?_update_self _ hu (Obj.isFreed_of_fields (Obj.data_mapFields du _)),(Obj.cls_mapFields ..).trans cu,by rw [Obj.data_mapFields du]; simp [rawInt]⟩ (Heap.SameBut.update ..))⟩))
theorem gx {it t:Addr}{i:Nat}{xs:Array Value}{Q:Value->Shared->Prop}(hh:A.handled=none)(hit:s.heap.IsTupleIter it t i)(ht:s.heap.IsTuple t xs)(hx:xs[i]?=none)
  (q:∀ h' e,Heap.ExtBut it s.heap h'->(∃ o,h'.get? e=some o/\o.cls=.type "StopIteration")->E (.ref e) { s with heap:=h' }):wpAny (model prog w) A (Builtin.SmallTypes.nextOf (.ref it)) Q E s:=by
 obtain ⟨u,hu,cu,du⟩:=id hit; obtain ⟨v,hv,_,nv,dv⟩:=ht
 unfold Builtin.SmallTypes.nextOf
 refine wpAny_bind (wpAny_callSpecial?_slot (name:=Str.ofString "__next__") hit.typeIs F.slot_tuple_iterator_next (wpAny_call_entry F.slot_tuple_iterator_next hit.typeIs F.entry_tuple_iterator_next ?_ (F.args_tuple_iterator_next_1 _)))
 show wpAny _ _ (field (.ref it) 0 >>= _) _ _ _; refine wpAny_bind (wpAny_field hu du (x:=.ref t) rfl ?_)
 show wpAny _ _ (if (Value.ref t==Value.none)=true then _ else _) _ _ _; rw [if_neg (by intro z; cases z)]
 show wpAny _ _ (field (.ref it) 1 >>= _) _ _ _; refine wpAny_bind (wpAny_field hu du (x:=.int i 0) rfl ?_)
 show wpAny _ _ (seqItems? (.ref t) >>= _) _ _ _; refine wpAny_bind (wpAny_seqItems hv dv ?_)
 simp only [hx,a0N]
 refine wpAny_bind (wpAny_rule (wpAny_bind (wpAny_setField hu du (by simp) ?_))); show wpAny _ _ (newExc (.type "StopIteration") [] >>= _) _ _ _
 refine wpAny_bind ?_; simp only [newTuple,newExc]
 refine wpAny_bind (wpAny_newObj_type ?_ (by size_fits)); refine wpAny_bind (m:=firstArgMember _ _) (wpAny_of_eq (a:=Value.none) (by first | rfl | (simp only [firstArgMember]; rfl)) (wpAny_newObj_type ?_ (by size_fits)))
 simp only [raiseNew]
 refine wpAny_bind (wpAny_handled ?_); first | rw [hh] | rw [show A.in1.handled=none from hh]
 exact wpAny_bind (wpAny_pure (wpAny_throw (q _ _ (((Heap.SameBut.update ..).extBut.push _).push _) ⟨_,Heap.get?_push_size _ rfl,rfl⟩)))
end
end L3
namespace L3
open PySem PySem.Spec PyProof.Rows L2
section
variable {X:Cx}{pins:List (Addr×Obj)}{σ:L2.St}{H:Hp}{s:Shared}
theorem fW {h':Heap}{ch:List Addr}(I:Inv X pins σ H s)(hf:∀ b∈ch,H b=none)(k:∀ b o,b ∉ ch->s.heap.get? b=some o->h'.get? b=some o):HOk X.prog X.w H h':=fun b u e=>by
 have nit:∀ b u,H b=some u->b ∉ ch:=fun b u e z=>by rw [hf b z] at e; cases e
 refine (I.hok b u e).stay (fun c v hc q=>k c v ?_ q) (fun _ q=>q) fun _ _ q=>q
 rcases hc with z | z
 ·rw [z]; exact nit b u e
 ·exact nit c _ z
theorem kR {h':Heap}{t':Nat}{ch:List Addr}(I:Inv X pins σ H s)(hf:∀ b∈ch,gj X pins H b)(k:∀ b o,b ∉ ch->s.heap.get? b=some o->h'.get? b=some o):Inv X pins σ H { s with heap:=h',toks:=t' }:=by
 refine I.step (g':=s.gens) (d':=s.drawn) (ch:=ch) (fun b hb=>⟨(hf b hb).2.2.2.1,(hf b hb).2.1,(hf b hb).2.2.2.2.1,(hf b hb).2.2.2.2.2⟩) (fun b o _ _ hc e _=>k b o hc e) (fun b o _ _ hc e _=>⟨o.slots,k b o hc e⟩) (fun _ _ _ _ n=>n)
  (fun b o hc e=>⟨o,k b o hc e⟩) (fun _ _ e=>e) (fun _ _ _ e=>e) (fun b ps e=>⟨#[],by rw [e]; simp⟩) (fun m hm=>?_) (fW I (fun b hb=>(hf b hb).1) k) I.bare
 obtain ⟨o,es,ep,ho,r⟩:=hm
 exact ⟨o,es,ep,k _ o (fun z=>(hf _ z).2.1 rfl) ho,r⟩
theorem fD {h':Heap}{t':Nat}{ch:List Addr}{a:Addr}{ys:List V}{its:List Value}(I:Inv X pins σ H s)(hf:∀ b∈ch,gj X pins H b)(k:∀ b o,b ∉ ch->s.heap.get? b=some o->h'.get? b=some o)
  (ha:s.heap.objs.size<=a) (hz:ys.length<=sizeLine) (hv:Vals ys its) (ht:IsTup h' a its.toArray):Inv X pins σ (upd H a (.tup ys)) { s with heap:=h',toks:=t' }:=by
 have fr:H a=none:=I.hok.fresh ha
 have na:∀ b o,s.heap.get? b=some o->b≠a:=fun b o e=>a0v (a0i (Heap.lt_size e) ha)
 refine I.step (g':=s.gens) (d':=s.drawn) (ch:=ch) (fun b hb=>⟨(hf b hb).2.2.2.1,(hf b hb).2.1,(hf b hb).2.2.2.2.1,(hf b hb).2.2.2.2.2⟩) (fun b o _ _ hc e _=>k b o hc e) (fun b o _ _ hc e _=>⟨o.slots,k b o hc e⟩) (fun b o _ e n=>by rw [af (na b o e)]; exact n)
  (fun b o hc e=>⟨o,k b o hc e⟩) (fun b u e=>by rw [af (aC e fr)]; exact e) (fun b o u e=>by rw [af (aC e fr)]; exact e) (fun b ps e=>⟨#[],by rw [af (aC e fr),e]; simp⟩) (fun m hm=>?_)
  (gU (fW I (fun b hb=>(hf b hb).1) k) fr ⟨hz,its,hv,ht⟩) I.bare
 obtain ⟨o,es,ep,ho,r⟩:=hm
 exact ⟨o,es,ep,k _ o (fun z=>(hf _ z).2.1 rfl) ho,r⟩
end
structure aB (pre ys:List Str)(scope:Scope):Prop where
 kind:scope.kind=.function
 cell:∀ y∈scope.names,y.2≠.cell
 nm:∀ y∈scope.names,y.2=.local->scope.names.lookup y.1=some .local
 loc:∀ x∈pre,scope.names.lookup x=some .local
 nd:(pre++ys).Nodup
theorem oP {pre:List Str}{τ:L2.St}{j:Nat}{v:V}(e:(a0r pre.length none++τ)[j]?=some (some v)):∃ i,j=pre.length+i/\τ[i]?=some (some v):=by
 by_cases hj:j < pre.length
 ·rw [a04 (by rw [a0M]; exact hj),a1M,if_pos hj] at e
  cases a0u e
 ·refine ⟨j-pre.length,by omega,?_⟩
  rw [a0I (by rw [a0M]; omega),a0M] at e
  exact e
theorem nO {X:Cx}{pins:List (Addr×Obj)}{σ:L2.St}{H:Hp}{s:Shared}{pre ys:List Str}{is:List Nat}{scope:Scope}{cl:List (Str×Addr)}{fp:List Addr}{C:Addr}{h1:Heap}{t1:Nat}{m1:Str->Option Value}
  (I:Inv X pins σ H s) (hf:∀ b∈fp,gj X pins H b) (hfo:∀ b∈fp,b < s.heap.objs.size) (S:aB pre ys scope) (hcl:Clo X cl)
  (hfr:(scope.names.all fun p=>p.2 != .free || (cl.lookup p.1).isSome)=true) (fr:Frees X scope cl ys is)
  (hC:s.heap.objs.size<=C) (old:∀ b o,s.heap.get? b=some o->h1.get? b=some o) (hn:h1.Ns C m1) :
  Inv (ax X (pre++ys) scope cl C s H fp) pins (a0r pre.length none++b7 σ is) H { s with heap:=h1,toks:=t1 }:=by
 have stk:∀ b,b≠X.env.locals->b ∉ X.fs->b ∉ frs X.stack:=fun b q1 q2 hb=>(a0m.mp (I.stkSub b hb)).elim q1 q2
 have key:∀ a k,(relabel scope X.env).names.lookup a=some k->(k=.cell\/k=.free)->∃ c,cl.lookup a=some c:=fun a k e hk=>by
  have hm:=a1b e
  obtain ⟨⟨n,k0⟩,hp,ep⟩:=a0Z.mp hm
  have hk0:k0=.free/\n=a:=by
   dsimp only at ep
   split at ep
   ·rename_i hc
    simp only [a0d] at hc
    exact ⟨eq_of_beq hc.1.1,(a3R ep).1⟩
   ·obtain ⟨e1,e2⟩:=a3R ep
    subst e2
    rcases hk with z | z
    ·exact absurd z (S.cell _ hp)
    ·exact ⟨z,e1⟩
  obtain ⟨z1,z2⟩:=hk0
  subst z1 z2
  have q:=a19.mp hfr _ hp
  have q2:(cl.lookup n).isSome=true:=by simpa using q
  exact a2v.mp q2
 refine ⟨⟨I.ok.mod,S.kind,I.ok.glob,I.ok.blt,hC,fun a b c e1 e2=>I.ok.inj a b c (hcl.get e1) (hcl.get e2),fun a ha=>?_,fun a c e=>absurd e a0l,I.ok.hd,I.ok.frames,.inl rfl,
   fun b hb=>⟨a0v (a0i (hfo b hb) hC),fun a c e=>(hf b hb).2.2.2.2.1 a c (hcl.get e)⟩,I.bs,a0s I.ok.bsz I.sz,fun b o e hb=>?_,fun b hb=>stk b (hf b hb).2.1 (hf b hb).2.2.1,I.stack,I.stkFree⟩,
  rfl,I.bare,Un.kept old,⟨m1,hn,fun j y v e1 e2 e3=>?_⟩,fun a c e=>?_,I.hok.fresh hC,fun a c e=>I.freeC a c (hcl.get e),fun p hp=>?_,I.hok.kept old,?_⟩
 ·rcases ha with e | e
  ·exact key a _ e (.inl rfl)
  ·exact key a _ e (.inr rfl)
 ·rcases (hf b hb).2.2.2.1 with z | z
  ·exact I.ok.noex b o e z
  ·exact absurd (a0i (Heap.lt_size (I.ok.bs b o e).1) z) (a1s _)
 ·obtain ⟨k,rfl,e2'⟩:=oP e2
  have e1':ys[k]?=some y:=by
   have e1'':(pre++ys)[pre.length+k]?=some y:=e1
   rw [a0I (by omega),Nat.add_sub_cancel_left] at e1''
   exact e1''
  obtain ⟨i,c,g1,g2,g3,g4,g5,g6,g7⟩:=fr.get (σ:=σ) e1' e2'
  obtain ⟨m0,hn0,hl0⟩:=I.loc
  obtain ⟨u,r,l⟩:=hl0 i y v g1 g2 g3
  rcases l with ⟨k,_⟩ | ⟨_,c',e',z⟩
  ·rcases g4 with q | q
   ·rw [k] at q; cases q
   ·rw [k] at q; cases q
  ·rw [g5] at e'
   cases e'
   obtain ⟨o,ho,hd⟩:=z
   exact ⟨u,r,.inr ⟨g7,c,g6,⟨o,old _ _ ho,hd⟩⟩⟩
 ·obtain ⟨v,o,ho,hd⟩:=I.cell a c (hcl.get e)
  exact ⟨v,o,old _ _ ho,hd⟩
 ·obtain ⟨e,n,ne,nf,d⟩:=I.pin p hp
  exact ⟨old _ _ e,n,a0v (a0i (Heap.lt_size e) hC),stk _ ne nf,d⟩
 ·show (a0r pre.length none++b7 σ is).length=(pre++ys).length
  unfold b7
  rw [a0c,a0c,a0M,a0b,fr.len]
end L3
namespace L3
open PySem PySem.Spec PyProof.Rows L2
end L3
namespace L3
open PySem PySem.Spec PyProof.Rows L2
end L3
namespace L3
open PySem PySem.Spec PyProof.Rows L2
end L3
namespace L3
open PySem PySem.Spec PyProof.Rows L2
end L3
namespace L3
open PySem PySem.Spec PyProof.Rows L2
section
variable {prog:Program}{w:World}{A:Around}{R:Result->Shared->Prop}{s:Shared}
theorem jU {elt tg iter cnd:Expr}{scope:Scope}{pos:Pos}{it acc:Value}{env:Env}(J:Nat->Shared->Prop)
  (turn:∀ n s,J n s->wpAny (model prog w) A (pyNext it) (fun r s₁=>match r with
   | none=>R (.ok .next) s₁
   | some v=>wpAny (model prog w) A (letOwnedTupleGo tg it v) (fun _ s₂=>wpAny (model prog w) A (assign tg env v) (fun _ s₃=>wpAny (model prog w) A (isTrue cnd env (eval cnd env)) (fun ok s₄=>if ok=true then
     wpAny (model prog w) A (eval elt env) (fun y s₅=>wpAny (model prog w) A (call (.builtin "list.append") [acc,y]) (fun _ s₆=>∃ m,m < n/\J m s₆) noX s₅) noX s₄ else ∃ m,m < n/\J m s₄) noX s₃) noX s₂) noX s₁) noX s)
  (n:Nat) (h:J n s):codeAny (model prog w) A (.compLoop (.ListComp elt [⟨tg,iter,[cnd],0⟩] scope pos) 0 it acc env) R s:=by
 refine codeAny_loop rfl J (fun n s hJ=>?_) n h
 show wpAny _ A ((compTurn (.ListComp elt [⟨tg,iter,[cnd],0⟩] scope pos) 0 it acc env).onRaise (fun x=>do noteFrame x env; theTreesLotGoes x)) _ _ s
 refine wpAny_noted ?_
 rw [compTurn_list]
 refine wpAny_bind (wpAny_standAt (wpAny_bind (wpAny_mono (turn n s hJ) (fun r s₁ h₁=>?_) fun _ _ z=>z.elim)))
 cases r with
 | none=>exact wpAny_pure h₁
 | some v =>
  refine wpAny_bind (wpAny_mono h₁ (fun _ s₂ h₂=>?_) fun _ _ z=>z.elim)
  refine wpAny_bind (wpAny_mono h₂ (fun _ s₃ h₃=>?_) fun _ _ z=>z.elim)
  refine wpAny_bind (wpAny_tests_one (wpAny_mono h₃ (fun ok s₄ h₄=>?_) fun _ _ z=>z.elim))
  cases ok with
  | true=>exact wpAny_bind (wpAny_bind (wpAny_mono h₄ (fun y s₅ h₅=>wpAny_bind (wpAny_mono h₅ (fun _ s₆ h₆=>wpAny_pure (wpAny_pure ⟨rfl,h₆⟩)) fun _ _ z=>z.elim)) fun _ _ z=>z.elim))
  | false=>exact wpAny_bind (wpAny_pure (wpAny_pure ⟨rfl,h₄⟩))
end
end L3

namespace L3
open PySem PySem.Spec PyProof.Rows L2
noncomputable def uV (n:Nat)(J:It)(g:TG)(tc:TT)(te:TE)(σ':L2.St)(H1:Hp)(Q:VK):Prop:=∃ W:Nat->Nat->List V->Hp->Prop,(∃ m,W 0 m [] H1)/\∀ i m ys H,W i m ys H ->
 (J.stop i H/\ys.length<=sizeLine/\∀ p,H p=none->Q (.ref p) (upd H p (.lst ys))) \/
 (J.go i H/\ys.length < sizeLine/\∀ x H',J.yld i H x H'->g x (a0r n none++σ') H' fun σ2 H2=>(σ2.length=n+σ'.length/\σ2.drop n=σ')/\tc σ2 H2 fun ok H3=>if ok=true then te σ2 H3 fun y H4=>∃ m',m' < m/\W (i+1) m' (ys++[y]) H4 else ∃ m',m' < m/\W (i+1) m' ys H3)
noncomputable def uQ (n:Nat)(J:It)(g:TG)(te:TE)(σ':L2.St)(H1:Hp)(Q:VK):Prop:=∃ W:Nat->Nat->List V->Hp->Prop,(∃ m,W 0 m [] H1)/\∀ i m ys H,W i m ys H ->
 (J.stop i H/\ys.length<=sizeLine/\∀ p,H p=none->Q (.ref p) (upd H p (.lst ys))) \/
 (J.go i H/\ys.length < sizeLine/\∀ x H',J.yld i H x H'->g x (a0r n none++σ') H' fun σ2 H2=>(σ2.length=n+σ'.length/\σ2.drop n=σ')/\te σ2 H2 fun y H4=>∃ m',m' < m/\W (i+1) m' (ys++[y]) H4)
noncomputable def hX (n:Nat)(wi:TI)(is:List Nat)(g:TG)(tc:TT)(te:TE):TE:=fun σ H Q=>wi σ H fun J H1=>uV n J g tc te (b7 σ is) H1 Q
noncomputable def iw (n:Nat)(wi:TI)(is:List Nat)(g:TG)(te:TE):TE:=fun σ H Q=>wi σ H fun J H1=>uQ n J g te (b7 σ is) H1 Q
theorem se {n:Nat}{σ2 σ':L2.St}(h:σ2.drop n=σ'){j:Nat}{w:V}(e:(a0r n none++σ')[j]?=some (some w)):σ2[j]?=some (some w):=by
 by_cases hj:j < n
 ·rw [a04 (by simpa using hj),a1M,if_pos hj] at e
  cases a0u e
 ·rw [a0I (by simpa using hj),a0M,<- h,List.getElem?_drop,Nat.add_sub_cancel' (by omega)] at e
  exact e
noncomputable def CW (X:Cx)(cs:List Expr)(k:Bool->Shared->Prop)(s:Shared):Prop:=match cs with
 | []=>k true s
 | [c]=>wpAny (model X.prog X.w) X.A (isTrue c X.env (eval c X.env)) k noX s
 | _=>False
noncomputable def PC (X:Cx)(cs:List Expr)(tc:TT):Prop:=∀ (pins:List (Addr×Obj)) (s:Shared) (σ:L2.St) (H:Hp) (Q:Bool->Hp->Prop),Inv X pins σ H s->tc σ H Q->CW X cs (fun ok s'=>∃ H',Inv X pins σ H' s'/\Q ok H') s
theorem CW.mono {X:Cx}{cs:List Expr}{k k':Bool->Shared->Prop}{s:Shared}(h:CW X cs k s)(w:∀ b s,k b s->k' b s):CW X cs k' s:=by
 match cs,h with
 | [],h=>exact w _ _ h
 | [c],h=>exact wpAny_mono h w fun _ _ z=>z
theorem i6 {X:Cx}{elt tg iter:Expr}{cs:List Expr}{scope:Scope}{pos:Pos}{it acc:Value}{R:Result->Shared->Prop}{s:Shared}(J:Nat->Shared->Prop)
  (turn:∀ n s,J n s->wpAny (model X.prog X.w) X.A (pyNext it) (fun r s₁=>match r with
   | none=>R (.ok .next) s₁
   | some v=>wpAny (model X.prog X.w) X.A (letOwnedTupleGo tg it v) (fun _ s₂=>wpAny (model X.prog X.w) X.A (assign tg X.env v) (fun _ s₃=>CW X cs (fun ok s₄=>if ok=true then
     wpAny (model X.prog X.w) X.A (eval elt X.env) (fun y s₅=>wpAny (model X.prog X.w) X.A (call (.builtin "list.append") [acc,y]) (fun _ s₆=>∃ m,m < n/\J m s₆) noX s₅) noX s₄ else ∃ m,m < n/\J m s₄) s₃) noX s₂) noX s₁) noX s)
  (n:Nat) (h:J n s) (hcs:cs.length<=1):codeAny (model X.prog X.w) X.A (.compLoop (.ListComp elt [⟨tg,iter,cs,0⟩] scope pos) 0 it acc X.env) R s:=by
 match cs,hcs with
 | [],_=>exact kz J turn n h
 | [c],_=>exact jU J turn n h
theorem jN {X:Cx}{elt iter tg:Expr}{cs:List Expr}{pre:List Str}{pos:Pos}{scope:Scope}{cl:List (Str×Addr)}{ys:List Str}{is:List Nat}{wi:TI}{g:TG}{te:TE}{tc:TT}{use:Option (Value->Sem Unit)}{Q:VK}{Qp:Value->Shared->Prop}{pins:List (Addr×Obj)}{s:Shared}{σ:L2.St}{H:Hp}{ip:Pos}
  (hc:X.calm=true) (hi:PI X tg iter wi) (hg:∀ C s H fp,PG (ax X (pre++ys) scope cl C s H fp) tg g) (he:∀ C s H fp,PE (ax X (pre++ys) scope cl C s H fp) elt te) (hcd:∀ C s H fp,PC (ax X (pre++ys) scope cl C s H fp) cs tc) (hcs:cs.length<=1)
  (hclos:closureFor scope X.env=pure cl) (S:aB pre ys scope) (hcl:Clo X cl) (hfr:(scope.names.all fun p=>p.2 != .free || (cl.lookup p.1).isSome)=true) (fr:Frees X scope cl ys is) (hs:∀ v,foldedSetIterable iter X.env v=pure v)
  (fin:∀ (s4:Shared) (Hn:Hp) (D L:Addr) (m4:Str->Option Value),Inv X pins σ Hn s4->s4.heap.Ns L m4->L≠X.env.locals->(∀ a c,X.env.cells.lookup a=some c->c≠L)->Hn L=none->X.s₀.heap.objs.size<=L->(∀ p∈X.pn++pins,p.1≠L)->Q (.ref D) Hn->compPost (model X.prog X.w) X.A X.xe use Qp (.ref D) L (.ok .next) s4)
  (I:Inv X pins σ H s) (h:hX pre.length wi is g tc te σ H Q) :
  wpAny (model X.prog X.w) X.A (comprehension (.ListComp elt [⟨tg,iter,cs,0⟩] scope pos) scope X.env ip (newList []) false (eval iter X.env) use) Qp X.xe s:=by
 refine wpAny_comprehension_free (use:=use) rfl hs hclos S.kind S.nm (thn (hi pins s σ H _ I h) fun xv s1 h1=>thn h1 fun itv s2 h2=>?_)
 obtain ⟨it,fp,tn,J,H2,rfl,I2,T,st2,f2,W,⟨m0,w0⟩,turn⟩:=h2
 have fpo:∀ b∈fp,b < s2.heap.objs.size:=fun b hb=>by
  obtain ⟨o,e,_⟩:=T.obj _ _ st2 b hb
  exact Heap.lt_size e
 refine wpAny_newObj_type (wpAny_newFunctionEnv S.cell (fun y hy=>by cases hy) (fun g' hns hsb=>?_) S.kind)
 dsimp only at hns hsb ⊢
 generalize hP2:s2.heap.push { cls:=.type "list",dict:=none,data:=.seq ([]:List Value).toArray }=P2 at hns hsb ⊢
 have hCs:P2.objs.size=s2.heap.objs.size+1:=by rw [<- hP2,Heap.size_push]
 have hDC:s2.heap.objs.size≠P2.objs.size:=by omega
 have hle:s2.heap.objs.size<=P2.objs.size:=by omega
 have nc:∀ b o,s2.heap.get? b=some o->b≠P2.objs.size:=fun b o e=>a0v (a0i (Heap.lt_size e) hle)
 have nd:∀ b o,s2.heap.get? b=some o->b≠s2.heap.objs.size:=fun b o e=>a0v (Heap.lt_size e)
 have ndH:∀ b u,H2 b=some u->b≠s2.heap.objs.size:=fun b u e=>a0v (I2.hok.lt e)
 have old:∀ b o,s2.heap.get? b=some o->g'.get? b=some o:=fun b o e=>hsb.extBut b o (nc b o e) (Heap.get?_push_of_some _ (hP2 ▸ Heap.get?_push_of_some _ e))
 have accD:g'.get? s2.heap.objs.size=some (iA []):=hsb.extBut _ _ hDC (Heap.get?_push_of_some _ (hP2 ▸ Heap.get?_push_size _ rfl))
 have stkD:s2.heap.objs.size ∉ frs X.stack:=fun hb=>(a0m.mp (I2.stkSub _ hb)).elim (fun z=>absurd z (a1p I2.lt)) (I2.nofs (a0j _))
 generalize hσ':b7 σ is=σ' at turn
 have I3:Inv (ax X (pre++ys) scope cl P2.objs.size s2 H2 fp) pins (a0r pre.length none++σ') H2 { s2 with heap:=g',toks:=s2.toks+([]:List (Str×Value)).length }:=by rw [<- hσ']; exact nO (pre:=pre) I2 f2 fpo S hcl hfr fr hle old hns
 have stat:∀ {H':Hp} {o:Obj},(∀ b∈fp,H' b=none)->∀ b∈fp,gj (ax X (pre++ys) scope cl P2.objs.size s2 H2 fp) (pins++[(s2.heap.objs.size,o)]) H' b:=fun {H' o} hn b hb=>by
  refine ⟨hn b hb,a0v (a0i (fpo b hb) hle),fun z=>(a0m.mp (I2.stkSub _ z)).elim (f2 b hb).2.1 (f2 b hb).2.2.1,.inl hb,fun a c e=>(f2 b hb).2.2.2.2.1 a c (hcl.get e),fun p hp=>?_⟩
  rcases a0P.mp hp with z | z
  ·exact (f2 b hb).2.2.2.2.2 p (a0K _ z)
  ·rcases a0P.mp z with z | z
   ·exact (f2 b hb).2.2.2.2.2 p (a0h _ z)
   ·rw [a0t.mp z]
    exact a1p (fpo b hb)
 have loop:codeAny (model X.prog X.w) X.A (.compLoop (.ListComp elt [⟨tg,iter,cs,0⟩] scope pos) 0 (.ref it) (.ref s2.heap.objs.size) (compEnvC scope cl P2.objs.size X.env))
   (compPost (model X.prog X.w) X.A X.xe use Qp (.ref s2.heap.objs.size) P2.objs.size) { s2 with heap:=g',toks:=s2.toks+([]:List (Str×Value)).length }:=by
  refine i6 (X:=ax X (pre++ys) scope cl P2.objs.size s2 H2 fp) (fun n s'=>∃ i zs its H',Inv (ax X (pre++ys) scope cl P2.objs.size s2 H2 fp) pins (a0r pre.length none++σ') H' s'/\tn i s'.heap/\(∀ b∈fp,H' b=none)/\s'.heap.get? s2.heap.objs.size=some (iA its)/\Vals zs its/\H' s2.heap.objs.size=none/\W i n zs H')
   ?_ m0 ⟨0,[],[],H2,I3,T.keep _ _ _ st2 (fun b _ o e=>old b o e),fun b hb=>(f2 b hb).1,accD,.nil,I2.hok.fresh (a0j _),w0⟩ hcs
  rintro n s3 ⟨i,zs,its,H3,J3,st3,fr3,d3,rv3,nd3,w3⟩
  have hzl:=rv3.length
  have J3':Inv (ax X (pre++ys) scope cl P2.objs.size s2 H2 fp) (pins++[(s2.heap.objs.size,iA its)]) (a0r pre.length none++σ') H3 s3:=J3.pins_of fun p hp=>by
   rcases a0P.mp hp with z | z
   ·exact J3.pin p (a0h _ z)
   ·rw [a0t.mp z]
    exact ⟨d3,nd3,hDC,stkD,fun v q=>by cases q⟩
  rcases turn i n zs H3 w3 with ⟨stop,hz,q⟩ | ⟨go,hz,step⟩
  ·refine wpAny_mono (T.done (ax X (pre++ys) scope cl P2.objs.size s2 H2 fp) rfl rfl rfl hc i _ s3 _ H3 noX J3' (stat fr3) st3 stop) (fun r s4 h4=>?_) fun _ _ z=>z.elim
   obtain ⟨hr,I4⟩:=h4
   subst hr
   obtain ⟨m4,hn4,_⟩:=id I4.loc
   have f4:H3 P2.objs.size=none:=I4.free
   have d4:s4.heap.get? s2.heap.objs.size=some (iA its):=(I4.pin (s2.heap.objs.size,iA its) (a0h _ (a0h _ (a0t.mpr rfl)))).1
   have u4:Un (frs X.stack) fp H2 H3 s2.heap s4.heap:=I4.base
   have un:Un (frs X.stack) fp H2 (upd H3 s2.heap.objs.size (.lst zs)) s2.heap s4.heap :=
    ⟨u4.keep,u4.slot,fun b o e n hx=>by rw [af (nd b o e)]; exact u4.free b o e n hx,u4.there,
     fun b xs q=>by rw [af (ndH b _ q)]; exact u4.tups b xs q,fun b o u q=>by rw [af (ndH b _ q)]; exact u4.frzs b o u q,fun b ps q=>by rw [af (ndH b _ q)]; exact u4.tbls b ps q⟩
   have IX:Inv X pins σ (upd H3 s2.heap.objs.size (.lst zs)) s4:=I2.call' (s':=s4) (ch:=fp) I4.os un (gU I4.hok nd3 ⟨hz,its,its.length,rv3,d4⟩) I4.bare
    (fun b hb=>⟨(f2 b hb).2.2.2.1,(f2 b hb).2.1,(f2 b hb).2.2.2.2.1,(f2 b hb).2.2.2.2.2⟩)
   have cL:P2.objs.size≠X.env.locals:=a1p (a0i I2.lt hle)
   have cC:∀ a c,X.env.cells.lookup a=some c->c≠P2.objs.size:=fun a c e=>by
    obtain ⟨v',o',ho',_⟩:=I2.cell a c e
    exact nc c o' ho'
   exact fin s4 _ s2.heap.objs.size P2.objs.size m4 IX hn4 cL cC (by rw [af (a07 hDC)]; exact f4) (a0s I2.sz hle) (fun p hp=>nc p.1 _ (I2.pin p hp).1) (q _ nd3)
  ·refine wpAny_mono (T.item (ax X (pre++ys) scope cl P2.objs.size s2 H2 fp) rfl rfl rfl hc i _ s3 _ H3 noX J3' (stat fr3) st3 go) (fun r s4 h4=>?_) fun _ _ z=>z.elim
   obtain ⟨u,hr,h4⟩:=h4
   subst hr
   refine wpAny_mono h4 (fun _ s5 h5=>?_) fun _ _ z=>z.elim
   obtain ⟨v,H5,I5,r5,y5,st5,fr5⟩:=h5
   have I5':=I5.pinned (stat fr5) (T.obj _ _ st5)
   refine wpAny_mono (hg P2.objs.size s2 H2 fp _ s5 _ H5 v u _ I5' r5 (step v H5 y5)) (fun _ s6 h6=>?_) fun _ _ z=>z.elim
   obtain ⟨σ6,H6,I6,⟨hl6,hd6⟩,step'⟩:=h6
   have back:∀ {H7:Hp} {s7:Shared},Inv (ax X (pre++ys) scope cl P2.objs.size s2 H2 fp) ((pins++[(s2.heap.objs.size,iA its)])++fL fp s5.heap) σ6 H7 s7->Inv (ax X (pre++ys) scope cl P2.objs.size s2 H2 fp) pins (a0r pre.length none++σ') H7 s7:=fun I7=>I7.unpinned.unpinned.weak (by rw [hl6,a0c,a0M]) fun j w' e=>se hd6 e
   refine CW.mono (hcd P2.objs.size s2 H2 fp _ s6 _ H6 _ I6 step') fun ok s6' h6'=>?_
   obtain ⟨H6',I6',q6⟩:=h6'
   cases ok with
   | false =>
    rw [if_neg a0l] at q6
    obtain ⟨m',hm',w7⟩:=q6
    have pinD:=I6'.pin (s2.heap.objs.size,iA its) (a0h _ (a0K _ (a0h _ (a0t.mpr rfl))))
    rw [if_neg a0l]
    refine ⟨m',hm',i+1,zs,its,H6',back I6',T.keep _ _ _ st5 fun b hb o e=>?_,fun b hb=>?_,pinD.1,rv3,pinD.2.1,w7⟩
    ·exact (I6'.pin (b,o) (a0h _ (a0h _ (bx hb e)))).1
    ·obtain ⟨o,e,_⟩:=T.obj _ _ st5 b hb
     exact (I6'.pin (b,o) (a0h _ (a0h _ (bx hb e)))).2.1
   | true =>
    rw [if_pos rfl] at q6 ⊢
    refine wpAny_mono (he P2.objs.size s2 H2 fp _ s6' _ H6' _ I6' q6) (fun yv s7 h7=>?_) fun _ _ z=>z.elim
    obtain ⟨y',H7,I7,r7,m',hm',w7⟩:=h7
    have pinD:=I7.pin (s2.heap.objs.size,iA its) (a0h _ (a0K _ (a0h _ (a0t.mpr rfl))))
    refine append_at (hsz:=by show its.toArray.size<=sizeLine; rw [a0e]; omega) pinD.1 fun h8 sb8 hD8=>?_
    have I8:Inv (ax X (pre++ys) scope cl P2.objs.size s2 H2 fp) pins (a0r pre.length none++σ') H7 { s7 with heap:=h8 }:=(back I7).turned (t':=s7.toks) (it:=s2.heap.objs.size) (fun b o hb e=>(sb8.2 b hb).trans e) pinD.2.1 hDC (.inr (a0j _))
     (fun a c e z=>by
      obtain ⟨v',o',ho',_⟩:=I2.cell a c (hcl.get e)
      exact nd c o' ho' z)
     (fun p hp=>nd p.1 _ (I2.pin p hp).1)
    refine ⟨m',hm',i+1,zs++[y'],its++[yv],H7,I8,T.keep _ _ _ st5 fun b hb o e=>?_,fun b hb=>?_,?_,rv3.append (.cons r7 .nil),pinD.2.1,w7⟩
    ·exact (sb8.2 b (a0v (fpo b hb))).trans (I7.pin (b,o) (a0h _ (a0h _ (bx hb e)))).1
    ·obtain ⟨o,e,_⟩:=T.obj _ _ st5 b hb
     exact (I7.pin (b,o) (a0h _ (a0h _ (bx hb e)))).2.1
    ·show h8.get? s2.heap.objs.size=_
     rw [hD8]
     simp [iA]
 exact codeAny_compStart_list loop (T.self X.A 0 _ _ _ (T.keep _ _ _ st2 (fun b _ o e=>old b o e)) loop)
section
variable {X:Cx}{elt iter tg cnd:Expr}{pre:List Str}{pos spos pz:Pos}{z:Str}{jz:Nat}{scope:Scope}{cl:List (Str×Addr)}{ys:List Str}{is:List Nat}{wi:TI}{g:TG}{te:TE}{tc:TT}
noncomputable def tT:TT:=fun _ H Q=>Q true H
theorem pcN:PC X [] tT:=fun pins s σ H Q I q=>⟨H,I,q⟩
theorem goN {n:Nat}{σ:L2.St}{H:Hp}{Q:VK}(h:iw n wi is g te σ H Q):hX n wi is g tT te σ H Q:=h
theorem oW {cs:List Expr}(hc:X.calm=true)(hi:PI X tg iter wi)(hg:∀ C s H fp,PG (ax X (pre++ys) scope cl C s H fp) tg g)(he:∀ C s H fp,PE (ax X (pre++ys) scope cl C s H fp) elt te)(hcd:∀ C s H fp,PC (ax X (pre++ys) scope cl C s H fp) cs tc)(hcs:cs.length<=1)
  (hclos:closureFor scope X.env=pure cl) (S:aB pre ys scope) (hcl:Clo X cl) (hfr:(scope.names.all fun p=>p.2 != .free || (cl.lookup p.1).isSome)=true) (fr:Frees X scope cl ys is) (hs:∀ v,foldedSetIterable iter X.env v=pure v) :
  PE X (.ListComp elt [⟨tg,iter,cs,0⟩] scope pos) (hX pre.length wi is g tc te):=by
 intro pins s σ H Q I h
 rw [eval_ListComp]
 show wpAny _ _ (comprehension _ scope X.env _ (newList []) false (eval iter X.env) none) _ _ s
 refine jN hc hi hg he hcd hcs hclos S hcl hfr fr hs (fun s4 Hn D L m4 IX hn cL cC hL hz hp q=>?_) I h
 exact ⟨m4,hn,fun h' sb=>⟨.ref D,_,IX.turned (t':=s4.toks) (it:=L) (fun b o hb e=>(sb.2 b hb).trans e) hL cL (.inr hz) cC hp,rfl,q⟩⟩
theorem qZ {cs:List Expr}(hN:X.N.Nodup)(hj:X.N[jz]?=some z)(hzLoc:Loc X.env.scope z)(hsw:swapsWith (.ListComp elt [⟨tg,iter,cs,0⟩] scope pos) (some (.Name z pz)) spos.line X.env=pure true)(hc:X.calm=true)(hi:PI X tg iter wi)(hg:∀ C s H fp,PG (ax X (pre++ys) scope cl C s H fp) tg g)(he:∀ C s H fp,PE (ax X (pre++ys) scope cl C s H fp) elt te)(hcd:∀ C s H fp,PC (ax X (pre++ys) scope cl C s H fp) cs tc)(hcs:cs.length<=1)
  (hclos:closureFor scope X.env=pure cl) (S:aB pre ys scope) (hcl:Clo X cl) (hfr:(scope.names.all fun p=>p.2 != .free || (cl.lookup p.1).isSome)=true) (fr:Frees X scope cl ys is) (hs:∀ v,foldedSetIterable iter X.env v=pure v) (hfn:X.fn z=true\/X.env.scope.names.lookup z=some .local) :
  PS X (.Assign [.Name z pz] (.ListComp elt [⟨tg,iter,cs,0⟩] scope pos) spos) (oS (hX pre.length wi is g tc te) (cO jz)):=by
 intro pins s σ H D I h
 rw [exec_Assign_Name_used _ _ _ _ hsw]
 refine wpAny_bind (wpAny_standAt (wpAny_bind ?_)); show wpAny _ _ (do let _ <- comprehension (.ListComp elt [⟨tg,iter,cs,0⟩] scope pos) scope X.env _ (newList []) false (eval iter X.env) (some (assign (.Name z pz) X.env))) _ _ s
 refine wpAny_bind (thn (jN (use:=some (assign (.Name z pz) X.env)) (Qp:=fun _ s'=>SP X pins D .next s') hc hi hg he hcd hcs hclos S hcl hfr fr hs (fun s4 Hn d L m4 IX hn cL cC hL hz hp q=>?_) I h) fun _ s' hq=>wpAny_pure (wpAny_pure hq))
 show wpAny _ _ (assign (.Name z pz) X.env (.ref d)) _ _ s4
 refine wpAny_assign_Name (gL IX hN hj hzLoc (v:=.ref d) rfl (fun s5 I5 h5=>?_) hfn)
 obtain ⟨a5,sb5,ha5⟩:=h5
 have na:L≠a5:=ha5.elim (fun e=>by rw [e]; exact cL) fun e=>a07 (cC _ _ e)
 exact ⟨m4,hn.sameBut sb5 na,fun h' sb=>⟨_,_,I5.turned (t':=s5.toks) (it:=L) (fun b o hb e=>(sb.2 b hb).trans e) hL cL (.inr hz) cC hp,q⟩⟩
theorem mQ (hc:X.calm=true)(hi:PI X tg iter wi)(hg:∀ C s H fp,PG (ax X (pre++ys) scope cl C s H fp) tg g)(he:∀ C s H fp,PE (ax X (pre++ys) scope cl C s H fp) elt te)
  (hclos:closureFor scope X.env=pure cl) (S:aB pre ys scope) (hcl:Clo X cl) (hfr:(scope.names.all fun p=>p.2 != .free || (cl.lookup p.1).isSome)=true) (fr:Frees X scope cl ys is) (hs:∀ v,foldedSetIterable iter X.env v=pure v:=by intro _; rfl) :
  PE X (.ListComp elt [⟨tg,iter,[],0⟩] scope pos) (iw pre.length wi is g te):=fun pins s σ H Q I h=>oW hc hi hg he (fun _ _ _ _=>pcN) (a0Q _) hclos S hcl hfr fr hs pins s σ H Q I (goN h)
theorem nt (hN:X.N.Nodup)(hj:X.N[jz]?=some z)(hzLoc:Loc X.env.scope z)(hsw:swapsWith (.ListComp elt [⟨tg,iter,[],0⟩] scope pos) (some (.Name z pz)) spos.line X.env=pure true)(hc:X.calm=true)(hi:PI X tg iter wi)(hg:∀ C s H fp,PG (ax X (pre++ys) scope cl C s H fp) tg g)(he:∀ C s H fp,PE (ax X (pre++ys) scope cl C s H fp) elt te)
  (hclos:closureFor scope X.env=pure cl) (S:aB pre ys scope) (hcl:Clo X cl) (hfr:(scope.names.all fun p=>p.2 != .free || (cl.lookup p.1).isSome)=true) (fr:Frees X scope cl ys is) (hs:∀ v,foldedSetIterable iter X.env v=pure v:=by intro _; rfl) (hfn:X.fn z=true\/X.env.scope.names.lookup z=some .local:=by first | exact .inl rfl | exact .inr rfl | assumption) :
  PS X (.Assign [.Name z pz] (.ListComp elt [⟨tg,iter,[],0⟩] scope pos) spos) (oS (iw pre.length wi is g te) (cO jz)):=fun pins s σ H D I h=>qZ hN hj hzLoc hsw hc hi hg he (fun _ _ _ _=>pcN) (a0Q _) hclos S hcl hfr fr hs hfn pins s σ H D I (goN h)
end
end L3

namespace L3
open PySem PySem.Spec PyProof.Rows L2
end L3
namespace L3
open PySem PySem.Spec PyProof.Rows L2
end L3
namespace L3
open PySem PySem.Spec PyProof.Rows L2
end L3

namespace L3
open PySem PySem.Spec PyProof.Rows L2
end L3
namespace L3
open PySem PySem.Spec PyProof.Rows L2
noncomputable abbrev wZ (h:Heap)(T:Addr)(a b c:Value):Prop:=h.get? T=some { cls:=.type "tuple",data:=.seq #[a,b,c] }
end L3
namespace L3
open PySem PySem.Spec PyProof.Rows L2
noncomputable def Z3 (n a1 a2 a3:Nat)(i:Nat)(h:Heap):Prop :=
 IsZip h (n+5) (n+3) (n+4) .none/\wZ h (n+3) (.ref n) (.ref (n+1)) (.ref (n+2))/\(∃ a b c,wZ h (n+4) a b c)/\ItO h false n a1 i/\ItO h false (n+1) a2 i/\ItO h false (n+2) a3 i
end L3

namespace L3
open PySem PySem.Spec PyProof.Rows L2
noncomputable abbrev VE:List Value:=[.type "ValueError",.type "Exception",.type "BaseException",.type "object"]
structure ff (h:Heap)(C N:Addr)(up:List Value)(names:Str->Option Value):Prop where
 obj:∃ nm q bs hd sn sub ab col dd k0 k1 k2 k3 k5,h.get? C=some (excClassObj nm q C N bs up hd sn sub ab col dd k0 k1 k2 k3 k5 "ValueError.__new__")
 ns:h.Ns N names
section
variable {prog:Program}{w:World}{h:Heap}{A:Around}{g:Array GenState}{d:Drawn}{t:Nat}{os:OsState}{E:Value->Shared->Prop}
theorem qg {C N fI:Addr}{up us:List Value}{names:Str->Option Value}{oI:Obj}{Q:Value->Shared->Prop}(c:ff h C N up names)(T:OwnTail h VE up)
  (hi:names "__init__"=some (.ref fI)) (hf:h.get? fI=some oI) (hc:oI.cls=.type "function") (hl:us.length<=sizeLine)
  (k:∀ h',Heap.MadeExcOf h h' (h.objs.size+1) (.ref C) us->wpAny (model prog w) (A.under (.builtin "type.__call__" ⟨.ref C::us,[]⟩)) (call (.ref fI) (.ref (h.objs.size+1)::us)) (fun r s'=>r=.none/\Q (.ref (h.objs.size+1)) s') E ⟨h',g,d,t,os⟩) :
  wpAny (model prog w) A (call (.ref C) us) Q E ⟨h,g,d,t,os⟩:=by
 obtain ⟨⟨nm,q,bs,hd,sn,sub,ab,col,dd,k0,k1,k2,k3,k5,hC⟩,hn⟩:=c
 have B:=a2f
 have l1:=tc_lookup
 have l2:=tc_bind (.ref C)
 have ty:(⟨h,g,d,t,os⟩:Shared).TypeIs (.ref C) "type":=⟨_,hC,rfl⟩
 refine wpAny_call (codeAny_of_tree ?_)
 show wpAny _ _ (callAny (.ref C) _) _ _ _
 repeat (any_goals (first | with_reducible refine wpAny_loadPart_at hC ?_ | assumption | wp_step))
 refine ⟨rfl,codeAny_call_builtin_at (Code.quiet_builtin _ (by decide +kernel)) entry_typeCall (wpAny_check_type_call_sub hC ?_)⟩
 repeat (first | with_reducible refine wpAny_madeBy_exc hC ?_ | with_reducible refine wpAny_loadPart_at hC ?_ | wp_step)
 refine codeAny_call_builtin_code (Code.quiet_builtin _ B.quiet) (wpAny_check_new_subU B B.hasB T hC ?_)
 refine codeAny_exc_new_subU B B.hasB B T hC ?_ hl
 show wpAny _ _ _ _ _ (⟨(h.push { cls:=.type "tuple",data:=.seq us.toArray }).push { cls:=.ref C,data:=.fields #[.ref h.objs.size,.none,.none,.none,.bool false,.none] },g,d,t,os⟩:Shared)
 generalize hG:(h.push { cls:=.type "tuple",data:=.seq us.toArray }).push { cls:=.ref C,data:=.fields #[.ref h.objs.size,.none,.none,.none,.bool false,.none] }=G
 have old:∀ b o,h.get? b=some o->G.get? b=some o:=fun b o z=>by rw [<- hG]; exact Heap.get?_push_of_some _ (Heap.get?_push_of_some _ z)
 have new:G.get? (h.objs.size+1)=some { cls:=.ref C,data:=.fields #[.ref h.objs.size,.none,.none,.none,.bool false,.none] }:=by rw [<- hG]; heap_get
 have tup:G.get? h.objs.size=some { cls:=.type "tuple",data:=.seq us.toArray }:=by rw [<- hG]; exact Heap.get?_push_of_some _ (Heap.get?_push_at rfl rfl)
 have own:(Value.ref C::up).contains (.ref C)=true:=by simp
 have hCG:=old _ _ hC
 unfold isInstance
 repeat (first | with_reducible refine wpAny_loadPart_at new ?_ | (with_reducible refine wpAny_isSubtype_exc hCG ?_; rw [own]) | wp_step)
 show wpAny _ _ (typeLookup (.ref C) _) _ _ _
 refine wpAny_typeLookup_tail hCG (hn.keeps old) (T.keeps old) B.mroIs B.init.lookup ?_
 rw [hi]
 refine wpAny_holding (wpAny_bind ?_)
 unfold bindSpecial
 refine wpAny_bind (wpAny_typeOf (T:="function") ⟨_,old _ _ hf,hc⟩ ?_)
 rw [if_pos (by decide)]
 refine wpAny_pure (wpAny_bind (wpAny_mono (k G ⟨old,Heap.get?_none_of_le (a3n _),h.objs.size,new,Heap.get?_none_of_le (a0j _),tup⟩) (fun r s' hr=>?_) fun _ _ x=>x))
 obtain ⟨rfl,hQ⟩:=hr
 wp_walk
 exact hQ
noncomputable def de:List Value->Bool
 | .ref _::r=>de r
 | l=>l==VE
theorem gy (self:Value):∀ {l:List Value},de l=true->refuseLoop self "__setattr__" l=pure ()
 | .ref c::r,q=>by rw [refuseLoop_ref]; exact gy self q
 | [],q=>by cases q
 | .type n::r,q=>by rw [show Value.type n::r=VE from beq_iff_eq.mp q]; kernel_rfl
 | .none::r,q=>by cases (show Value.none::r=VE from beq_iff_eq.mp q)
 | .bool _::r,q=>by cases (show _::r=VE from beq_iff_eq.mp q)
 | .int _ _::r,q=>by cases (show _::r=VE from beq_iff_eq.mp q)
 | .float _ _::r,q=>by cases (show _::r=VE from beq_iff_eq.mp q)
 | .str _ _::r,q=>by cases (show _::r=VE from beq_iff_eq.mp q)
 | .bytes _ _::r,q=>by cases (show _::r=VE from beq_iff_eq.mp q)
 | .builtin _::r,q=>by cases (show _::r=VE from beq_iff_eq.mp q)
 | .ellipsis::r,q=>by cases (show _::r=VE from beq_iff_eq.mp q)
 | .notImplemented::r,q=>by cases (show _::r=VE from beq_iff_eq.mp q)
end
section
variable {prog:Program}{w:World}{A:Around}{E:Value->Shared->Prop}{s:Shared}{K:a0a}
theorem t6 {e C:Addr}{oe:Obj}{vs:Array Value}{name:Str}{v:Value}{Q:Unit->Shared->Prop}(X:K.In s.heap)(he:s.heap.get? e=some oe)(hc:oe.cls=.ref C)(hd:oe.dict=none)(hf:oe.data=.fields vs)
  (hs:a0x K (.ref C) "__setattr__"=some (some (.builtin "object.__setattr__"))) (hp:(a1D K C).any (fun cd=>de cd.mro)=true) (ht:a2b K C name=some none) (hh:a02 K C=true)
  (h:∀ h',h'.get? e=some { oe with dict:=some s.heap.objs.size }->h'.Ns1 s.heap.objs.size (fun y=>if y=name then some v else none)->(∀ b o,b≠e->s.heap.get? b=some o->h'.get? b=some o)->Q () { s with heap:=h',toks:=s.toks+2 }) :
  wpAny (model prog w) A (setAttr (.ref e) name v) Q E s:=by
 have J:a08 s.heap e oe C none:=⟨he,hc,by unfold a2o; rw [hf],by rw [hd]; trivial⟩
 have SF:=PySem.F.store_object
 refine PySem.W.set_plain X J hs ?_
 obtain ⟨cd,kc,ku⟩:=a1v hp
 have top:cd.mro.contains (.type "object")=true:=by
  have:∀ l:List Value,de l=true->l.contains (.type "object")=true:=by
   intro l
   induction l with
   | nil=>intro q; cases q
   | cons v r ih =>
    intro q
    by_cases z:(∃ a,v=.ref a)
    ·obtain ⟨a,rfl⟩:=z
     rw [a1i,ih q,a2i]
    ·have:v::r=VE:=by
      cases v with
      | ref a=>exact absurd ⟨a,rfl⟩ z
      | _=>exact beq_iff_eq.mp q
     rw [this]; decide +kernel
  exact this _ ku
 have ne:cd.mro.isEmpty=false:=by cases q:cd.mro with | nil=>rw [q] at top; cases top | cons _ _=>rfl
 have sub:a2X (model prog w) s.heap (isInstance (.ref e) (.type "object")) true:=J.type.andThen (PySem.W.looks_mroIn X (by unfold a1L; rw [kc,a2z,if_neg (by rw [ne]; decide),top]))
 refine codeAny_call_builtin SF.slot.plain SF.entry (@a2Y (model prog w) _ _ { s with toks:=s.toks+1 } "object.__setattr__" "object" "__setattr__" (.ref e) [.str name s.toks,v] [] _ SF.kind SF.split sub (SF.args (.ref e) (.str name s.toks) v) ?_)
 obtain ⟨attr,ha,hr⟩:=(a1S).1 ht
 have taker:a2X (model prog w) s.heap (Builtin.ObjectAttr.storeTaker? attr) none:=by
  cases attr with
  | none=>exact .now
  | some a =>
   obtain ⟨b,hb,z⟩:=Option.map_eq_some_iff.mp hr
   refine (PySem.W.looks_takesIn X hb).andThen ?_
   cases b with
   | false=>exact .now
   | true=>cases z
 have hm:a2X (model prog w) s.heap (mroOf (.ref C)) cd.mro:=(a2U X kc).andThen .now
 rw [PySem.W.osa_eq,refuse_eq]
 refine wpAny_bind (wpAny_bind (a0L (s:={ s with toks:=s.toks+1 }) J.type (wpAny_bind (a0L (s:={ s with toks:=s.toks+1 }) hm ?_))))
 rw [gy _ ku]
 refine wpAny_pure (wpAny_bind (a0L (s:={ s with toks:=s.toks+1 }) J.type (wpAny_bind (a0L (s:={ s with toks:=s.toks+1 }) (a2O X ha) (wpAny_bind (a0L (s:={ s with toks:=s.toks+1 }) taker ?_))))))
 obtain ⟨cd',kc',kd⟩:=a1v hh
 obtain ⟨c,di,da,sl⟩:=oe
 dsimp only at hc hd hf
 subst hc hd hf
 refine wpAny_bind (wpAny_pure (wpAny_bind (wpAny_bind (wpAny_loadPart he (wpAny_bind (a0L (s:={ s with toks:=s.toks+1 }) (a2U X kc') ?_))))))
 rw [kd]
 have e1:(s.heap.push a1Z).get? e=some _:=Heap.get?_push_of_some _ he
 refine wpAny_bind (wpAny_alloc (wpAny_bind (wpAny_update e1 ?_)))
 show wpAny _ _ (pure (some s.heap.objs.size)) _ _ _
 refine wpAny_pure ?_
 generalize hG:(s.heap.push a1Z).update e (fun o=>{ cls:=o.cls,dict:=some s.heap.objs.size,data:=o.data,slots:=o.slots })=G
 have ng:s.heap.objs.size≠e:=a1p (Heap.lt_size he)
 have g1:G.get? e=some { cls:=.ref C,dict:=some s.heap.objs.size,data:=.fields vs,slots:=sl }:=by rw [<- hG]; exact Heap.get?_update_self _ e1 rfl
 have g2:G.get? s.heap.objs.size=some a1Z:=by rw [<- hG,Heap.get?_update_other _ _ (a07 ng)]; exact Heap.get?_push_size s.heap rfl
 have g3:∀ b o,b≠e->s.heap.get? b=some o->G.get? b=some o:=fun b o hb z=>by rw [<- hG,Heap.get?_update_other _ _ (a07 hb)]; exact Heap.get?_push_of_some _ z
 have g4:G.Ns1 s.heap.objs.size (fun _=>none):=Heap.Ns1.of_empty ⟨a1Z,#[],_,g2,rfl,(fun e he=>absurd he (by simp)),fun _=>rfl⟩
 show wpAny _ _ (Builtin.ObjectAttr.storeInDict s.heap.objs.size (.str name s.toks) name v) _ _ (⟨G,s.gens,s.drawn,s.toks+1,s.os⟩:Shared)
 refine wpAny_bind (wpAny_pure (wpAny_bind (wpAny_nsSet1 (s:=⟨G,s.gens,s.drawn,s.toks+1,s.os⟩) g4 fun h' n2 s2=>?_)))
 obtain ⟨oD,esD,epD,hoD,hdD,hcD⟩:=n2.count (a3T (ns:=[]) name v fun _ q=>absurd rfl q)
 refine wpAny_bind (wpAny_lookBehind hoD (by rw [hdD]; exact pastItsLine_dict (a0s hcD (by rw [sizeLine_eq]; simp))) ?_)
 exact wpAny_pure (h h' ((s2.2 _ (a07 ng)).trans g1) n2 fun b o hb z=>(s2.2 b (fun q=>by rw [q] at z; exact absurd (Heap.lt_size z) (a1s _))).trans (g3 b o hb z))
theorem rL {e C N:Addr}{oe:Obj}{vs:Array Value}{up us:List Value}{names:Str->Option Value}{Q:Value->Shared->Prop}(c:ff s.heap C N up names)(T:OwnTail s.heap VE up)(he:s.heap.get? e=some oe)(hc:oe.cls=.ref C)(hf:oe.data=.fields vs){t0:Addr}(h0:vs[0]?=some (.ref t0))
  (hl:us.length<=sizeLine) (h:∀ h',h'.get? e=some (Obj.mapFields (·.setIfInBounds 0 (.ref s.heap.objs.size)) oe)->(∀ b o,b≠e->s.heap.get? b=some o->h'.get? b=some o)->Q .none { s with heap:=h' }) :
  wpAny (model prog w) A (call (.builtin "ValueError.__init__") (.ref e::us)) Q E s:=by
 obtain ⟨⟨nm,q,bs,hd,sn,sub,ab,col,dd,k0,k1,k2,k3,k5,hC⟩,hn⟩:=c
 obtain ⟨hp,g,d,t,os⟩:=s
 have B:=a2f
 have he':hp.get? e=some oe:=he
 refine wpAny_call (codeAny_call_builtin B.init.plain B.initEntry (wpAny_check_init_subU B T hC he hc ?_))
 have e1:=Heap.get?_push_of_some (h:=hp) { cls:=.type "tuple",data:=.seq us.toArray } he'
 unfold Builtin.«BaseException.__init__»
 wp_walk
 rw [hf]
 refine wpAny_pure ?_
 rw [h0]
 refine wpAny_pure ?_
 wp_walk
 rw [hf]
 dsimp only
 rw [if_pos (a0J.mp h0).1]
 refine wpAny_update e1 ?_
 have ng:hp.objs.size≠e:=a1p (Heap.lt_size he')
 have g1:((hp.push { cls:=.type "tuple",data:=.seq us.toArray }).update e (Obj.mapFields (·.setIfInBounds 0 (.ref hp.objs.size)))).get? e=some (Obj.mapFields (·.setIfInBounds 0 (.ref hp.objs.size)) oe):=Heap.get?_update_self _ e1 (Obj.isFreed_of_fields (Obj.data_mapFields hf _))
 wp_walk
 exact h _ g1 fun b o hb z=>by rw [Heap.get?_update_other _ _ (a07 hb)]; exact Heap.get?_push_of_some _ z
end
noncomputable def Tb (h:Heap)(e:Addr)(vs:Array Value):Prop :=
 vs[1]?=some .none\/∃ T oT ts,vs[1]?=some (.ref T)/\T≠e/\h.get? T=some oT/\oT.data=.fields ts/\ts[3]?=some .none
structure gr (fr:List Addr)(h h':Heap)(e:Addr)(oe:Obj)(vs:Array Value)(fl:Value):Prop where
 ex:∃ T oT ts,h'.get? e=some (Obj.mapFields (·.setIfInBounds 1 (.ref T)) oe)/\h.objs.size<=T/\h'.get? T=some oT/\oT.data=.fields ts/\ts[3]?=some fl
 keep:∀ b o,h.get? b=some o->b≠e->b ∉ fr->h'.get? b=some o
 slot:∀ b o,h.get? b=some o->b∈fr->∃ sl,h'.get? b=some { o with slots:=sl }
 there:∀ b o,h.get? b=some o->∃ o',h'.get? b=some o'
theorem f6 (a:Addr):(Value.ref a != Value.none)=true:=by simp
theorem pR (a:Addr):¬ ((Value.none==rawInt a)=true):=by simp [rawInt]
theorem xm {o:Obj}{ts:Array Value}(hd:o.data=.fields ts)(h3:ts[3]?=some .none):Obj.mapFields (·.setIfInBounds 3 Value.none) o=o:=by
 obtain ⟨a,b,c,d⟩:=o
 cases hd
 show ({ cls:=a,dict:=b,data:=.fields (ts.setIfInBounds 3 .none),slots:=d }:Obj)=_
 congr 2
 obtain ⟨hl,he⟩:=a0J.mp h3
 apply Array.ext
 ·simp
 ·intro i h1 h2
  rw [Array.getElem_setIfInBounds]
  split
  ·rename_i z; subst z; exact he.symm
  ·rfl
section
variable {M:Model}{s:Shared}{A:Around}{E:Value->Shared->Prop}
theorem jB {base:Heap}{env:Env}{outer:List Env}{L e:Addr}{oe:Obj}{vs:Array Value}{head:Value}{had:Bool}{Q:Unit->Shared->Prop}(hfr:A.frames=some (env::outer))(hl:s.heap.FunFrames base (env::outer))(hf:env.frame=some L)
  (he:s.heap.get? e=some oe) (hd:oe.data=.fields vs) (h1:1 < vs.size)
  (k:∀ h',(∃ T oT ts,h'.get? e=some (Obj.mapFields (·.setIfInBounds 1 (.ref T)) oe)/\s.heap.objs.size<=T/\h'.get? T=some oT/\oT.data=.fields ts/\ts[3]?=some (rawInt L)) ->
   (∀ b o,s.heap.get? b=some o->b≠e->b ∉ (env::outer).filterMap (·.frame)->h'.get? b=some o)->(∀ b o,s.heap.get? b=some o->b∈(env::outer).filterMap (·.frame)->∃ sl,h'.get? b=some { o with slots:=sl })->Q () { s with heap:=h' }) :
  wpAny M A (do let a <- frameOf env; let pl <- entryPlaceOf L had; let b <- EntryCells.newEntry head a .none (rawInt L) .none pl; setField (.ref e) 1 b) Q E s:=by
 have ne:e ∉ (env::outer).filterMap (·.frame):=fun z=>by
  obtain ⟨_,o,q,n⟩:=hl.mem z
  rw [he] at q; cases q; exact n vs hd
 refine wpAny_bind (wpAny_frameOf_fun hfr hl hf fun g1 z1=>wpAny_bind (wpAny_entryPlaceOf fun pl hpl=>?_))
 unfold EntryCells.newEntry newFields
 refine wpAny_bind (wpAny_newObj_type ?_ (IsPlace.sizeOk5 hpl _ _ _ _ _))
 have q1:g1.get? e=some oe:=(z1.2.1 e ne).trans he
 have sz:s.heap.objs.size<=g1.objs.size:=a3J z1.1.symm
 generalize hr:({ cls:=.type "traceback",dict:=none,data:=.fields ([head,.ref L,.none,rawInt L,.none]++(if pl.isEmpty then a0r 6 Value.none else pl)).toArray }:Obj)=rec
 have q2:=Heap.get?_push_of_some (h:=g1) rec q1
 have ng:g1.objs.size≠e:=a1p (Heap.lt_size q1)
 refine wpAny_setField (o:=oe) q2 hd h1 (k _ ⟨g1.objs.size,rec,_,Heap.get?_update_self _ q2 (Obj.isFreed_of_fields (Obj.data_mapFields hd _)),sz,?_,by rw [<- hr],?_⟩ ?_ ?_)
 ·rw [Heap.get?_update_other _ _ (a07 ng)]
  exact Heap.get?_push_size g1 (by rw [<- hr]; rfl)
 ·first | (simp; done) | (rcases hpl with rfl | ⟨_,_,_,_,_,_,_,rfl⟩<;>simp)
 ·intro b o q hb hn
  rw [Heap.get?_update_other _ _ (a07 hb)]
  exact Heap.get?_push_of_some _ ((z1.2.1 b hn).trans q)
 ·intro b o q hb
  obtain ⟨sl,z⟩:=z1.2.2 b o q
  refine ⟨sl,?_⟩
  rw [Heap.get?_update_other _ _ (fun z:e=b=>ne (by rw [z]; exact hb))]
  exact Heap.get?_push_of_some _ z
theorem mr {base:Heap}{env:Env}{outer:List Env}{L e:Addr}{oe:Obj}{vs:Array Value}{Q:Unit->Shared->Prop}(hfr:A.frames=some (env::outer))(hl:s.heap.FunFrames base (env::outer))(hf:env.frame=some L)
  (he:s.heap.get? e=some oe) (hd:oe.data=.fields vs) (ht:Tb s.heap e vs) (k:∀ h',gr ((env::outer).filterMap (·.frame)) s.heap h' e oe vs (rawInt L)->Q () { s with heap:=h' }) :
  wpAny M A (noteFrame (.ref e) env) Q E s:=by
 have nf:∀ b o,s.heap.get? b=some o->(∃ us,o.data=.fields us)->b ∉ (env::outer).filterMap (·.frame):=fun b o q ⟨us,n⟩ z=>by
  obtain ⟨_,o',q',n'⟩:=hl.mem z
  rw [q] at q'; cases q'; exact n' us n
 unfold noteFrame
 simp only [hf]
 rcases ht with h1 | ⟨T,oT,ts,h1,hT,hq,hdT,h3⟩
 ·refine wpAny_bind (wpAny_field he hd h1 ?_)
  rw [if_neg (by decide)]
  refine jB hfr hl hf he hd (a0J.mp h1).1 fun h' x1 x2 x3=>k h' ⟨x1,x2,x3,fun b o q=>?_⟩
  by_cases hb:b=e
  ·obtain ⟨_,_,_,z,_⟩:=x1; exact ⟨_,hb ▸ z⟩
  ·by_cases hn:b∈(env::outer).filterMap (·.frame)
   ·obtain ⟨sl,z⟩:=x3 b o q hn; exact ⟨_,z⟩
   ·exact ⟨o,x2 b o q hb hn⟩
 ·refine wpAny_bind (wpAny_field he hd h1 ?_)
  rw [if_pos (f6 T)]
  refine wpAny_bind (wpAny_field hq hdT h3 ?_)
  rw [if_neg (pR L)]
  refine wpAny_bind (wpAny_setField hq hdT (a0J.mp h3).1 ?_)
  have oth:∀ b,b≠T->(s.heap.update T (Obj.mapFields (·.setIfInBounds 3 Value.none))).get? b=s.heap.get? b:=fun b hb=>Heap.get?_update_other _ _ (a07 hb)
  have at_T:(s.heap.update T (Obj.mapFields (·.setIfInBounds 3 Value.none))).get? T=some oT:=by
   rw [Heap.get?_update_self (Obj.mapFields (·.setIfInBounds 3 Value.none)) hq (Obj.isFreed_of_fields (Obj.data_mapFields hdT _)),xm hdT h3]
  have all:∀ b o,s.heap.get? b=some o->(s.heap.update T (Obj.mapFields (·.setIfInBounds 3 Value.none))).get? b=some o:=fun b o q=>by
   by_cases z:b=T
   ·rw [z] at q ⊢; rw [hq] at q; cases q; exact at_T
   ·exact (oth b z).trans q
  have nT:∀ b o,s.heap.get? b=some o->(∀ us,o.data≠.fields us)->b≠T:=fun b o q n z=>by rw [z,hq] at q; cases q; exact n ts hdT
  have sz:(s.heap.update T (Obj.mapFields (·.setIfInBounds 3 Value.none))).objs.size=s.heap.objs.size:=by simp [Heap.update]
  refine jB (s:={ s with heap:=s.heap.update T (Obj.mapFields (·.setIfInBounds 3 Value.none)) }) hfr (hl.of_keeps fun b o q n=>⟨o,(oth b (nT b o q n)).trans q,rfl⟩) hf ((oth e (a07 hT)).trans he) hd (a0J.mp h1).1 fun h' x1 x2 x3=>k h' ⟨?_,?_,?_,?_⟩
  ·obtain ⟨T',o',t',y1,y2,y3⟩:=x1
   exact ⟨T',o',t',y1,by rw [<- sz]; exact y2,y3⟩
  ·intro b o q hb hn
   exact x2 b o (all b o q) hb hn
  ·intro b o q hb
   exact x3 b o (all b o q) hb
  ·intro b o q
   by_cases hb:b=e
   ·obtain ⟨_,_,_,z,_⟩:=x1; exact ⟨_,hb ▸ z⟩
   ·by_cases hn:b∈(env::outer).filterMap (·.frame)
    ·obtain ⟨sl,z⟩:=x3 b o (all b o q) hn; exact ⟨_,z⟩
    ·exact ⟨o,x2 b o (all b o q) hb hn⟩
theorem lJ {fr:List Addr}{h0:Heap}{e:Addr}{oe:Obj}{vs:Array Value}{fl:Value}{Q:Unit->Shared->Prop}(hd:oe.data=.fields vs)(h1:1 < vs.size)(he:e < h0.objs.size)(hfr:∀ b∈fr,b < h0.objs.size)(n:gr fr h0 s.heap e oe vs fl)
  (k:∀ h',gr fr h0 h' e oe vs .none->Q () { s with heap:=h' }):wpAny M A (setFlight (.ref e) none) Q E s:=by
 obtain ⟨⟨T,oT,ts,y1,y2,y3,y4,y5⟩,n2,n3,n4⟩:=n
 have hd':=Obj.data_mapFields hd (·.setIfInBounds 1 (Value.ref T))
 unfold setFlight
 refine wpAny_bind (wpAny_field y1 hd' (x:=.ref T) (by simp [h1]) ?_)
 rw [if_pos (f6 T)]
 have oth:∀ b,b≠T->(s.heap.update T (Obj.mapFields (·.setIfInBounds 3 ((none:Option Addr).elim Value.none fun f=>rawInt f)))).get? b=s.heap.get? b:=fun b hb=>Heap.get?_update_other _ _ (a07 hb)
 have hz:3 < ts.size:=(a0J.mp y5).1
 have low:∀ b o,h0.get? b=some o->b≠T:=fun b o q z=>absurd (Heap.lt_size q) (by rw [z]; exact Nat.not_lt.mpr y2)
 refine wpAny_setField y3 y4 hz (k _ ⟨⟨T,_,_,(oth e (a0v (a0i he y2))).trans y1,y2,Heap.get?_update_self _ y3 (Obj.isFreed_of_fields (Obj.data_mapFields y4 _)),Obj.data_mapFields y4 _,by simp [hz]⟩,?_,?_,?_⟩)
 ·intro b o q hb hn
  exact (oth b (low b o q)).trans (n2 b o q hb hn)
 ·intro b o q hb
  obtain ⟨sl,z⟩:=n3 b o q hb
  exact ⟨sl,(oth b (low b o q)).trans z⟩
 ·intro b o q
  obtain ⟨o',z⟩:=n4 b o q
  exact ⟨o',(oth b (low b o q)).trans z⟩
theorem qO {base:Heap}{env:Env}{outer:List Env}{L e:Addr}{oe:Obj}{vs:Array Value}{Q:Unit->Shared->Prop}(hfr:A.frames=some (env::outer))(hl:s.heap.FunFrames base (env::outer))(hf:env.frame=some L)
  (he:s.heap.get? e=some oe) (hd:oe.data=.fields vs) (h1:1 < vs.size) (ht:Tb s.heap e vs) (k:∀ h',gr ((env::outer).filterMap (·.frame)) s.heap h' e oe vs .none->Q () { s with heap:=h' }) :
  wpAny M A (leaving env (.ref e)) Q E s:=by
 unfold leaving
 refine wpAny_bind (mr hfr hl hf he hd ht fun h' n=>lJ (s:={ s with heap:=h' }) hd h1 (Heap.lt_size he) (fun b z=>?_) n fun h'' n'=>k h'' n')
 obtain ⟨_,o,q,_⟩:=hl.mem z
 exact Heap.lt_size q
end
noncomputable def XOk (a C:Addr)(od:Option Addr)(n:Bool)(h:Heap):Prop:=∃ o vs t0,h.get? a=some o/\o.cls=.ref C/\o.dict=od/\o.data=.fields vs/\vs[0]?=some (.ref t0)/\1 < vs.size/\(n=true->vs[1]?=some .none)
noncomputable abbrev XO (a C:Addr)(od:Option Addr)(n:Bool):HO:=.ext (XOk a C od n)
theorem XOk.stay {a C:Addr}{od:Option Addr}{n:Bool}{h h':Heap}(x:XOk a C od n h)(k:∀ o,h.get? a=some o->h'.get? a=some o):XOk a C od n h' :=
 let ⟨o,vs,t0,e,r⟩:=x; ⟨o,vs,t0,k o e,r⟩
theorem XOk.ok {P:Program}{w:World}{H:Hp}{a C:Addr}{od:Option Addr}{n:Bool}{h:Heap}(x:XOk a C od n h):ObjOk P w H h a (XO a C od n) :=
 ⟨x,let ⟨o,_,_,e,_⟩:=x; ⟨o,e⟩,fun _ _ y k=>y.stay k⟩
noncomputable def Tr (lo:Nat)(H:Hp)(h:Heap)(a:Addr):Prop:=∃ oe vs,h.get? a=some oe/\oe.data=.fields vs /\
 (vs[1]?=some .none\/∃ T oT ts,vs[1]?=some (.ref T)/\T≠a/\h.get? T=some oT/\oT.data=.fields ts/\ts[3]?=some .none/\lo<=T/\H T=none)
noncomputable def CX1 (P:Program)(w:World):CXT:=fun outer H s E e s'=>∃ a C od H',e=.ref a/\s'.os=s.os/\AllBare s'.gens/\Un (frs outer) [] H H' s.heap s'.heap/\HOk P w H' s'.heap/\H' a=some (XO a C od false)/\Tr s.heap.objs.size H' s'.heap a/\E (.ref a) none H'
section
variable {P:Program}{w:World}{H:Hp}{h h':Heap}{a C:Addr}{od:Option Addr}{n:Bool}
theorem HOk.touch (ok:HOk P w H h)(ha:H a=some (XO a C od n))(k:∀ b u o,H b=some o->b≠a->h.get? b=some u->h'.get? b=some u)(x:XOk a C od n h'):HOk P w H h':=fun b o e=>by
 by_cases hb:b=a
 ·subst hb; rw [ha] at e; cases e; exact x.ok
 ·refine (ok b o e).stay (fun c u hc q=>?_) (fun _ z=>z) fun _ _ z=>z
  rcases hc with rfl | hc
  ·exact k c u o e hb q
  ·exact k c u _ hc (fun z=>by subst z; rw [ha] at hc; cases hc) q
end
theorem su {P:Program}{w:World}{K:a0a}{mg:Str->Option Value}{base:Heap}{N:List Str}{qual:Str}{scope:Scope}{f:Addr}{cd:Value}{A:Around}{outer:List Env}{s s':Shared}{H H':Hp}{E:XK}{pins:List (Addr×Obj)}{σ:L2.St}{a C:Addr}{od:Option Addr}
  (I:Inv (dY (CX1 P w) P w K mg base N qual scope f cd A outer s H E) pins σ H' s') (ha:H' a=some (XO a C od false)) (t:Tr s.heap.objs.size H' s'.heap a) (q:E (.ref a) none H') :
  (dY (CX1 P w) P w K mg base N qual scope f cd A outer s H E).xe (.ref a) s':=by
 obtain ⟨oe,vs,e1,e2,e3⟩:=t
 obtain ⟨⟨o,ws,t0,x1,x2,x3,x4,x5,x6,-⟩,-,-⟩:=I.hok a _ ha
 rw [e1] at x1; cases x1
 rw [e2] at x4; cases x4
 have hst:=I.stack
 have hfr:=I.ok.frames
 have free:=I.stkFree
 have na:a ∉ frs (envOfC qual scope s.heap.objs.size f cd::outer):=fun z=>by rw [free a z] at ha; cases ha
 show wpAny _ _ (leaving _ (.ref a)) _ _ _
 refine qO hfr hst rfl e1 e2 x6 ?_ fun h' n=>?_
 ·rcases e3 with z | ⟨T,oT,ts,y1,y2,y3,y4,y5,_⟩
  ·exact .inl z
  ·exact .inr ⟨T,oT,ts,y1,y2,y3,y4,y5⟩
 obtain ⟨⟨T',oT',ts',z1,z2,z3,z4,z5⟩,n2,n3,n4⟩:=n
 have hd':=Obj.data_mapFields e2 (·.setIfInBounds 1 (Value.ref T'))
 have low:s.heap.objs.size<=s'.heap.objs.size:=I.sz
 have xk:XOk a C od false h':=⟨_,_,t0,z1,by rw [Obj.cls_mapFields]; exact x2,by rw [<- x3]; obtain ⟨_,_,_,_⟩:=oe; cases e2; rfl,hd',by rw [a1o (by decide)]; exact x5,by rw [a1I]; exact x6,fun z=>by cases z⟩
 refine ⟨a,C,od,H',rfl,I.os,I.bare,?_,?_,ha,⟨_,_,z1,hd',.inr ⟨T',oT',ts',by simp [x6],?_,z3,z4,z5,a0s low z2,I.hok.fresh z2⟩⟩,q⟩
 ·have U:Un (frs outer) [] H H' s.heap s'.heap:=I.base
  refine ⟨fun b o e hb hn hx=>?_,fun b o e hb hm hx=>?_,U.free,fun b o e hx=>?_,U.tups,U.frzs,U.tbls⟩
  ·have g:=U.keep b o e hb hn hx
   refine n2 b o g (fun z=>?_) fun z=>?_
   ·have:=U.free b o e hb hx; rw [z,ha] at this; cases this
   ·obtain ⟨v,hv,hf⟩:=a1g.mp z
    rcases a0m.mp hv with rfl | hv
    ·have:s.heap.objs.size=b:=a0u hf
     exact absurd (Heap.lt_size e) (by rw [this]; exact a1s _)
    ·exact hn (a1g.mpr ⟨v,hv,hf⟩)
  ·obtain ⟨sl,g⟩:=U.slot b o e hb hm hx
   obtain ⟨v,hv,hf⟩:=a1g.mp hm
   obtain ⟨sl',g'⟩:=n3 b _ g (a1g.mpr ⟨v,a0f _ hv,hf⟩)
   exact ⟨sl',g'⟩
  ·obtain ⟨o',g⟩:=U.there b o e hx
   exact n4 b o' g
 ·refine HOk.touch I.hok ha (fun b u o hb hne g=>n2 b u g hne fun z=>?_) xk
  rw [free b z] at hb; cases hb
 ·exact fun z=>absurd (Heap.lt_size e1) (by rw [<- z]; exact Nat.not_lt.mpr z2)
structure XC (K:a0a)(C f:Addr)(up:List Value):Prop where
 ok:∀ h,K.In h->∃ N names,ff h C N up names/\OwnTail h VE up/\names "__init__"=some (.ref f)
 fn:∀ h,K.In h->∃ o,h.get? f=some o/\o.cls=.type "function"
 kp:a1k K (.ref C)=true
 sa:a0x K (.ref C) "__setattr__"=some (some (.builtin "object.__setattr__"))
 po:(a1D K C).any (fun cd=>de cd.mro)=true
 hd:a02 K C=true
section
variable {X:Cx}{pins:List (Addr×Obj)}{σ:L2.St}{H:Hp}{s:Shared}{a C f:Addr}{od:Option Addr}{n:Bool}{up:List Value}{A:Around}{E:Value->Shared->Prop}{fld:Str}
theorem XOk.weak {h:Heap}(x:XOk a C od n h):XOk a C od false h:=let ⟨o,vs,t0,e,e1,e2,e3,e4,e5,_⟩:=x; ⟨o,vs,t0,e,e1,e2,e3,e4,e5,fun z=>by cases z⟩
theorem Inv.xweak (I:Inv X pins σ H s)(e:H a=some (XO a C od n)):Inv X pins σ (upd H a (XO a C od false)) s:=by
 have x:XOk a C od n s.heap:=(I.hok a _ e).1
 exact I.write (x:=a) (e:=a) (t':=s.toks) (by rw [e]; exact a1e) (.inl rfl) (fun _ _ _ z=>z) (let ⟨o,_,_,q,_⟩:=x; ⟨o,q⟩) x.weak.ok
theorem vk {y:V}{u:Value}{Q:Unit->Shared->Prop}(I:Inv X pins σ H s)(e:H a=some (XO a C none n))(c:XC X.K C f up)(ht:a2b X.K C fld=some none)(ry:RelV y u)
  (h:∀ dx s',H dx=none->dx≠a->Inv X pins σ (upd (upd H dx (.xd [(fld,y)])) a (XO a C (some dx) n)) s'->Q () s'):wpAny (model X.prog X.w) A (setAttr (.ref a) fld u) Q E s:=by
 obtain ⟨o,vs,t0,e0,e1,e2,e3,e4,e5,e6⟩:XOk a C none n s.heap:=(I.hok a _ e).1
 have lt:=Heap.lt_size e0
 refine t6 I.kIn e0 e1 e2 e3 c.sa c.po ht c.hd fun h' x1 x2 x3=>h s.heap.objs.size _ (I.hok.fresh (a0j _)) (a1p lt) ?_
 obtain ⟨oD,es,ep,d1,d2,d3,d4,d5⟩:=x2
 have g1:(s.heap.push oD).get? s.heap.objs.size=some oD:=Heap.get?_push_size s.heap (by obtain ⟨_,_,_,_⟩:=oD; cases d2; rfl)
 have I1:=I.laid (a:=s.heap.objs.size) (o:=.xd [(fld,y)]) (h':=s.heap.push oD) (t':=s.toks) (fun b u q=>Heap.get?_push_of_some _ q) (a0j _) ⟨_,⟨oD,es,ep,g1,d2,d3,d4,d5⟩,fun g=>by
  show RelO (a2c g [(fld,y)]) (if g=fld then some u else none)
  by_cases q:g=fld
  ·rw [if_pos q,q]; simp [a2c]; exact ry
  ·rw [if_neg q]; unfold a2c; rw [show (g==fld)=false from beq_false_of_ne q]; exact a1e⟩
 have na:a≠s.heap.objs.size:=a0v lt
 refine I1.write (x:=a) (e:=a) (t':=s.toks+2) (by rw [af na,e]; exact a1e) (.inl rfl) (fun b u hb q=>?_) ⟨_,x1⟩ (XOk.ok ⟨_,vs,t0,x1,e1,rfl,e3,e4,e5,e6⟩)
 by_cases hb2:b=s.heap.objs.size
 ·subst hb2
  have q':(s.heap.push oD).get? s.heap.objs.size=some u:=q
  rw [g1] at q'; cases q'; exact d1
 ·refine x3 b u hb ?_
  have q':(s.heap.push oD).get? b=some u:=q
  rcases Heap.get?_push_cases q' with z | z
  ·exact absurd z.1 hb2
  ·exact z
theorem qQ {us:List Value}{Q:Value->Shared->Prop}(I:Inv X pins σ H s)(e:H a=some (XO a C od n))(c:XC X.K C f up)(hl:us.length<=sizeLine)
  (h:∀ s',Inv X pins σ H s'->Q .none s'):wpAny (model X.prog X.w) A (call (.builtin "ValueError.__init__") (.ref a::us)) Q E s:=by
 obtain ⟨o,vs,t0,e0,e1,e2,e3,e4,e5,e6⟩:XOk a C od n s.heap:=(I.hok a _ e).1
 obtain ⟨N,names,x,T,_⟩:=c.ok _ I.kIn
 refine rL x T e0 e1 e3 e4 hl fun h' x1 x2=>h _ ?_
 have hd':=Obj.data_mapFields e3 (·.setIfInBounds 0 (Value.ref s.heap.objs.size))
 have I1:=I.write (x:=a) (e:=a) (o:=XO a C od n) (h':=h') (t':=s.toks) (by rw [e]; exact a1e) (.inl rfl) x2 ⟨_,x1⟩ (XOk.ok ⟨_,_,s.heap.objs.size,x1,by rw [Obj.cls_mapFields]; exact e1,by rw [<- e2]; obtain ⟨_,_,_,_⟩:=o; cases e3; rfl,hd',by simp [a3K Nat.zero_lt_one e5],by rw [a1I]; exact e5,fun z=>by rw [a1o (by decide)]; exact e6 z⟩)
 have same:upd H a (XO a C od n)=H:=by
  funext b
  by_cases q:b=a
  ·rw [q,ag,e]
  ·rw [af q]
 rw [same] at I1
 exact I1
end
structure XB (K:a0a)(B:Addr):Prop where
 ga:a1m K (.ref B) "__getattribute__"=some (some (.builtin "type.__getattribute__"))
 rd:PySem.W.readsIn K B (.type "type")=true
 at_:PySem.W.findCls K (.ref B) (.type "type") "__init__"=some (.val (.builtin "ValueError.__init__"))
section
variable {X:Cx}{x fld:Str}{p pos pos' apos:Pos}{e o value:Expr}{es:List Expr}{t:TA}{ta tv:TE}{B C f:Addr}{up:List Value}{k:Nat}{fd:FuncData}{ps:List Str}{sp:Sp}{CX:CXT}{E:XK}
theorem qC {pl:Sem Bool}(b:XB X.K B)(hg:Gl X x)(hm:X.mg x=some (.ref B))(ha:PA X (e::es) t)(hdb:(x==("__debug__":Str))=false:=by decide)
  (hst:starEach (e::es) X.env=(false,eval e X.env)::starEach es X.env:=by rfl) (hpl:(backTo pos (starEach es X.env)).any (·.1)=false:=by rfl)
  (ht:eval (.Call (.Attribute (.Name x p) "__init__" apos) (e::es) [] pos) X.env=(do
   let ov <- eval (.Name x p) X.env
   standAt apos.atName
   let (f,first) <- holding [ov] (getMethod ov "__init__" pl)
   callWith pos f first (backTo pos (starEach (e::es) X.env)) (backToKw pos (keywordEach [] X.env))):=by rfl) :
  PE X (.Call (.Attribute (.Name x p) "__init__" apos) (e::es) [] pos) fun σ H Q=>t σ H fun vs H1=>∃ a C od n ws f up,vs=.ref a::ws/\ws.length<=sizeLine/\H1 a=some (XO a C od n)/\XC X.K C f up/\Q .non H1:=by
 intro pins s σ H Q I h
 refine PySem.W.methodCall_KW (pl:=pl) (cR I hg hm ?_ hdb) ht
 refine PySem.W.method_cls I.kIn b.ga (PySem.W.cls_value I.kIn b.rd b.at_ (by decide +kernel) ?_)
 have I':=I.tok (s.toks+1)
 refine a17 (thn (ha pos pins _ σ H _ I' h) fun us s1 ⟨vs,H1,I1,r,a,C,od,n,ws,f,up,ev,hl,ea,c,q⟩=>?_) hst hpl
 subst ev
 cases r with
 | cons r1 r2 =>
  cases r1
  exact qQ I1 ea c (by rw [<- r2.length]; exact hl) fun s' I2=>⟨.non,H1,I2,rfl,q⟩
theorem tH (ha:PE X o ta)(hv:PE X value tv)(hs:swapsWith value (some (.Attribute o fld pos')) pos.line X.env=pure false):PS X (.Assign [.Attribute o fld pos'] value pos)
  fun D σ H=>tv σ H fun y H1=>ta σ H1 fun x H2=>∃ a C n f up,x=.ref a/\H2 a=some (XO a C none n)/\XC X.K C f up/\a2b X.K C fld=some none/\∀ dx,H2 dx=none->dx≠a->D.nx σ (upd (upd H2 dx (.xd [(fld,y)])) a (XO a C (some dx) n)):=by
 intro pins s σ H D I h
 refine plainObj_wpAny_Assign_Attribute (thn (hv pins s σ H _ I h) fun u s1 ⟨y,H1,I1,ry,q⟩=>thn (ha pins s1 σ H1 _ I1 q) fun ov s2 ⟨x,H2,I2,rx,a,C,n,f,up,ex,ea,c,tk,q2⟩=>?_) hs
 subst ex
 obtain rfl:ov=Value.ref a:=rx
 exact vk I2 ea c tk ry fun dx s3 h1 h2 I3=>⟨σ,_,I3,q2 dx h1 h2⟩
theorem mJ {pins:List (Addr×Obj)}{σ:L2.St}{H:Hp}{s:Shared}{Q:VK}{us:List Value}{vs:List V}(c:XC X.K C f up)(F:bJ X.prog X.w X.K X.mg X.base CX k f fd ps sp)(hr:Room (k+1) X.A)(hb:Binds X.K fd ps [])
  (hx:gb CX X E) (I:Inv X pins σ H s) (r:Vals vs us) (hl:vs.length<=sizeLine)
  (h:∀ a,H a=none->sp (.ref a::vs) (upd H a (XO a C none true)) (fun v H2=>v=.non/\Q (.ref a) H2) E) :
  wpAny (model X.prog X.w) X.A (call (.ref C) us) (EP X pins σ Q) X.xe s:=by
 obtain ⟨N,names,xc,T,hi⟩:=c.ok _ I.kIn
 obtain ⟨oI,hf,hc⟩:=c.fn _ I.kIn
 have hq:=h (s.heap.objs.size+1) (I.hok.fresh (a3n _))
 refine qg (t:=s.toks) (g:=s.gens) (d:=s.drawn) (os:=s.os) xc T hi hf hc (by rw [<- r.length]; exact hl) fun h' m=>?_
 obtain ⟨t0,m1,m2,m3⟩:=m.there
 have I1:=I.laid (a:=s.heap.objs.size+1) (o:=XO (s.heap.objs.size+1) C none true) (h':=h') (t':=s.toks) m.keeps (a3n _) (XOk.ok ⟨_,_,t0,m1,rfl,rfl,rfl,rfl,by simp,fun _=>rfl⟩)
 have r2:Vals (V.ref (s.heap.objs.size+1)::vs) (Value.ref (s.heap.objs.size+1)::us):=.cons rfl r
 have hn:(Value.ref (s.heap.objs.size+1)::us++[]).length=ps.length:=by
  rw [a0B,<- r2.length]
  exact F.len _ _ _ _ hq
 have bd:=hb { s with heap:=h' } (Value.ref (s.heap.objs.size+1)::us) I1.kIn hn
 rw [a0B] at bd
 refine wpAny_call (codeAny_mono (F.run _ X.stack _ _ ⟨Value.ref (s.heap.objs.size+1)::us,[]⟩ (Value.ref (s.heap.objs.size+1)::us) _ _ E (hr.make C us []) (I1.env0.make C us []) bd r2 hq) fun r s' z=>?_)
 cases r with
 | error e=>exact hx pins σ _ _ e s' I1 z
 | ok fl =>
  cases fl with
  | ret u =>
   obtain ⟨v,H',I3,rv,ev,q3⟩:=I1.after z
   subst ev
   exact ⟨rv,⟨V.ref (s.heap.objs.size+1),H',I3,rfl,q3⟩⟩
  | next=>exact a0R z
  | brk=>exact a0R z
  | cont=>exact a0R z
theorem qz (c:XC X.K C f up)(F:bJ X.prog X.w X.K X.mg X.base CX k f fd ps sp)(hr:Room (k+1) X.A)(hg:Gl X x)(hm:X.mg x=some (.ref C))(hb:Binds X.K fd ps [])(hx:gb CX X E)
  (ha:PA X (e::es) t) (hdb:(x==("__debug__":Str))=false:=by decide) (he:starEach (e::es) X.env=(false,eval e X.env)::starEach es X.env:=by rfl) (hpl:(backTo pos (starEach es X.env)).any (·.1)=false:=by rfl) :
  PE X (.Call (.Name x p) (e::es) [] pos) fun σ H Q=>t σ H fun vs H1=>vs.length<=sizeLine/\∀ a,H1 a=none->sp (.ref a::vs) (upd H1 a (XO a C none true)) (fun v H2=>v=.non/\Q (.ref a) H2) E:=by
 intro pins s σ H Q I h
 refine wpAny_Call_Name_kw (cR I hg hm ?_ hdb)
 refine a2h (h₀:=X.base) I.ok.mod.kin c.kp (thn (ha pos pins s σ H _ I h) fun us s1 ⟨vs,H1,I1,r,hl,q⟩=>⟨I1.kIn,?_⟩) he hpl
 exact mJ c F hr hb hx I1 r hl q
end
section
variable {M:Model}{s:Shared}{A:Around}{env:Env}{E:Value->Shared->Prop}
theorem nJ {x:Sem Value}{Q:Flow->Shared->Prop}(hh:A.handled=none)
  (h:wpAny M A x (fun v s₁=>∃ e C N up names od vs sl,v=.ref e/\ff s₁.heap C N up names/\up.contains (.type "BaseException")=true/\s₁.heap.get? e=some { cls:=.ref C,dict:=od,data:=.fields vs,slots:=sl }/\vs[1]?=some .none/\E (.ref e) s₁) E s) :
  wpAny M A (raiseStmt env (some x) none) Q E s:=by
 unfold raiseStmt
 refine wpAny_bind (wpAny_mono h (fun v s₁ ⟨e,C,N,up,names,od,vs,sl,ev,c,hb,he,h1,hE⟩=>?_) fun _ _ x=>x)
 subst ev
 obtain ⟨⟨nm,q,bs,hd,sn,sub,ab,col,dd,k0,k1,k2,k3,k5,hC⟩,hn⟩:=c
 obtain ⟨hp,g,d,tk,os⟩:=s₁
 have up':(Value.ref C::up).contains (.type "BaseException")=true:=by rw [a1i,hb,a2i]
 repeat (first | with_reducible refine wpAny_loadPart_at he ?_ | with_reducible refine wpAny_loadPart_at hC ?_ | (with_reducible refine wpAny_isSubtype_exc hC ?_; rw [up']) | wp_step)
 rw [h1]
 refine wpAny_pure ?_
 rw [if_neg (by decide)]
 exact wpAny_pure (wpAny_raiseNew_none hh hE)
end
noncomputable def xw (X:Cx)(σ:L2.St):VK:=fun v H=>∀ (pins:List (Addr×Obj)) (s:Shared) (a C:Addr) (od:Option Addr),v=.ref a->H a=some (XO a C od false)->Inv X pins σ H s->Tr X.s₀.heap.objs.size H s.heap a->X.xe (.ref a) s
section
variable {X:Cx}{pos:Pos}{e:Expr}{te:TE}
theorem hZ:∀ {l:List Value},de l=true->l.contains (.type "BaseException")=true
 | .ref c::r,q=>by rw [a1i,hZ (l:=r) q,a2i]
 | [],q=>by cases q
 | .type n::r,q=>by rw [show Value.type n::r=VE from beq_iff_eq.mp q]; decide +kernel
 | .none::r,q=>by cases (show Value.none::r=VE from beq_iff_eq.mp q)
 | .bool _::r,q=>by cases (show _::r=VE from beq_iff_eq.mp q)
 | .int _ _::r,q=>by cases (show _::r=VE from beq_iff_eq.mp q)
 | .float _ _::r,q=>by cases (show _::r=VE from beq_iff_eq.mp q)
 | .str _ _::r,q=>by cases (show _::r=VE from beq_iff_eq.mp q)
 | .bytes _ _::r,q=>by cases (show _::r=VE from beq_iff_eq.mp q)
 | .builtin _::r,q=>by cases (show _::r=VE from beq_iff_eq.mp q)
 | .ellipsis::r,q=>by cases (show _::r=VE from beq_iff_eq.mp q)
 | .notImplemented::r,q=>by cases (show _::r=VE from beq_iff_eq.mp q)
theorem pF (hc:X.calm=true)(he:PE X e te):PS X (.Raise (some e) none pos) fun D σ H=>te σ H fun v H1=>∃ a C od f up,v=.ref a/\H1 a=some (XO a C od true)/\XC X.K C f up/\de up=true/\xw X σ (.ref a) (upd H1 a (XO a C od false)):=by
 intro pins s σ H D I h
 rw [arm_exec_Raise]
 refine wpAny_bind (wpAny_standAt ?_)
 refine nJ (I.ok.hd hc) ?_
 show wpAny _ _ (do let v <- eval e X.env; standAt pos; pure v) _ _ _
 refine wpAny_bind (thn (he pins s σ H _ I h) fun u s1 ⟨v,H1,I1,r,a,C,od,f,up,ev,ea,c,hu,q⟩=>wpAny_bind (wpAny_standAt (wpAny_pure ?_)))
 subst ev
 obtain rfl:u=Value.ref a:=r
 obtain ⟨o,vs,t0,e0,e1,e2,e3,e4,e5,e6⟩:XOk a C od true s1.heap:=(I1.hok a _ ea).1
 obtain ⟨N,names,xc,_,_⟩:=c.ok _ I1.kIn
 obtain ⟨oc,oo,od',osl⟩:=o
 dsimp only at e1 e2 e3
 subst e1 e2 e3
 exact ⟨a,C,N,up,names,oo,vs,osl,rfl,xc,hZ hu,e0,e6 rfl,q pins s1 a C oo rfl ag (Inv.xweak I1 ea) ⟨_,vs,e0,rfl,.inl (e6 rfl)⟩⟩
end
section
variable {X:Cx}{pins:List (Addr×Obj)}{σ:L2.St}{H:Hp}{s:Shared}{M:Model}{A:Around}{E:Value->Shared->Prop}{i:Nat}{x:Str}
theorem A9 {v:V}{Q:Unit->Shared->Prop}(I:Inv X pins σ H s)(hN:X.N.Nodup)(hi:X.N[i]?=some x)(hk:X.env.scope.names.lookup x=some .local)(hv:σ[i]?=some (some v))
  (h:∀ s',Inv X pins (σ.set i none) H s'->Q () s'):wpAny M A (deleteName X.env x) Q E s:=by
 obtain ⟨m,hn,hl⟩:=id I.loc
 have hcls:(X.env.scope.kind==.class || (X.env.scope.kind==.module&&X.env.locals != X.env.globals))=false:=by rw [I.ok.kind]; rfl
 have hko:X.env.kindOf x=some .local:=hk
 have hm:∃ u,m x=some u:=by
  obtain ⟨u,_,q⟩:=hl i x v hi hv (.inl hk)
  rcases q with ⟨_,q⟩ | ⟨z,_⟩
  ·exact ⟨u,q⟩
  ·rw [hko] at z; rcases z with z | z<;>cases z
 obtain ⟨u,hu⟩:=hm
 unfold deleteName
 rw [hko]
 dsimp only
 rw [hcls]
 refine wpAny_bind (wpAny_nsDel_keeps hn fun h' v' hn' hs=>?_)
 rw [hu]
 refine wpAny_pure (h _ ⟨I.ok,I.os,I.bare,⟨fun b o e n hb hx=>?_,fun b o e n hb hx=>?_,I.base.free,fun b o e hx=>?_,I.base.tups,I.base.frzs,I.base.tbls⟩,⟨_,hn',fun j y w e1 e2 e3=>?_⟩,fun y c e=>?_,I.free,I.freeC,fun p hp=>?_,fun b ob e=>?_,by simpa using I.len⟩)
 ·exact (hs.2 b (a0v (a0i (Heap.lt_size e) I.ok.above))).trans (I.base.keep b o e n hb hx)
 ·obtain ⟨sl,e1⟩:=I.base.slot b o e n hb hx
  exact ⟨sl,(hs.2 b (a0v (a0i (Heap.lt_size e) I.ok.above))).trans e1⟩
 ·obtain ⟨o',e1⟩:=I.base.there b o e hx
  exact ⟨o',(hs.2 b (a0v (a0i (Heap.lt_size e) I.ok.above))).trans e1⟩
 ·by_cases hj:j=i
  ·rw [hj] at e2
   by_cases hl':i < σ.length
   ·rw [a00 hl'] at e2; cases e2
   ·rw [List.getElem?_eq_none (by rw [a05]; omega)] at e2; cases e2
  ·rw [a0V (a07 hj)] at e2
   obtain ⟨u',r',q⟩:=hl j y w e1 e2 e3
   refine ⟨u',r',?_⟩
   rcases q with ⟨k,e⟩ | ⟨k,c,e,z⟩
   ·refine .inl ⟨k,?_⟩
    have:y≠x:=fun e=>hj (gc hN e1 (e ▸ hi))
    show (if y=x then v' else m y)=some u'
    rw [if_neg this]; exact e
   ·exact .inr ⟨k,c,e,z.sameBut hs (I.cne y c e)⟩
 ·obtain ⟨w',z⟩:=I.cell y c e
  exact ⟨w',z.sameBut hs (I.cne y c e)⟩
 ·obtain ⟨e,n,ne,nf,d⟩:=I.pin p hp
  exact ⟨(hs.2 p.1 ne).trans e,n,ne,nf,d⟩
 ·refine (I.hok b ob e).stay (fun c w' hc q=>(hs.2 c ?_).trans q) (fun _ q=>q) fun _ _ q=>q
  rintro rfl
  rcases hc with rfl | hc
  ·rw [I.free] at e; cases e
  ·rw [I.free] at hc; cases hc
theorem cU {pos:Pos}{Q:Unit->Shared->Prop}(I:Inv X pins σ H s)(hN:X.N.Nodup)(hi:X.N[i]?=some x)(hk:X.env.scope.names.lookup x=some .local)
  (h:∀ s',Inv X pins (σ.set i none) H s'->Q () s'):wpAny M A (do bindName X.env x .none; unbindBehindTheSuite X.env x pos) Q E s:=by
 have hl:i < σ.length:=by rw [I.len]; exact (a0q.mp hi).1
 refine wpAny_bind (wpAny_bindName (d7 (v:=.non) I hN hi (.inl hk) rfl (fun s' I'=>?_) (.inr hk)))
 unfold unbindBehindTheSuite unbindName
 refine wpAny_onRaise (wpAny_bind (wpAny_point (wpAny_bind (A9 I' hN hi hk (v:=.non) (a00 hl) fun s'' I''=>wpAny_point (h s'' ?_)))))
 rw [List.set_set] at I''
 exact I''
end
section
variable {M:Model}{h:Heap}{A:Around}{g:Array GenState}{d:Drawn}{t:Nat}{os:OsState}{E:Value->Shared->Prop}
theorem m9 {e C B N N':Addr}{up up':List Value}{names names':Str->Option Value}{oe:Obj}{Q:Bool->Shared->Prop}(c:ff h C N up names)(b:ff h B N' up' names')(hb:up'.contains (.type "BaseException")=true)(hu:up.contains (.ref B)=true)
  (he:h.get? e=some oe) (hc:oe.cls=.ref C) (k:Q true ⟨h,g,d,t,os⟩):wpAny M A (excMatches (.ref e) (.ref B)) Q E ⟨h,g,d,t,os⟩:=by
 obtain ⟨⟨a1,a2,a3,a4,a5,a6,a7,a8,a9,b1,b2,b3,b4,b5,hC⟩,-⟩:=c
 obtain ⟨⟨c1,c2,c3,c4,c5,c6,c7,c8,c9,d1,d2,d3,d4,d5,hB⟩,-⟩:=b
 have y1:(Value.ref B::up').contains (.type "BaseException")=true:=by rw [a1i,hb,a2i]
 have y2:(Value.ref C::up).contains (.ref B)=true:=by rw [a1i,hu,a2i]
 have f:=tc_notTuple
 unfold excMatches
 repeat (first | (with_reducible refine wpAny_loadPart_at he ?_; rw [hc]) | with_reducible refine wpAny_loadPart_at hB ?_ | (with_reducible refine wpAny_isSubtype_exc hB ?_; rw [y1]) | (with_reducible refine wpAny_isSubtype_exc hC ?_; rw [y2]) | wp_step)
 exact k
end
noncomputable abbrev hx (X:Cx)(a:Addr):Cx:={ X with A:=X.A.mark (some (.ref a)),calm:=false,xe:=fun _ _=>False }
section
variable {X:Cx}{pins:List (Addr×Obj)}{σ:L2.St}{H:Hp}{s:Shared}{a C:Addr}{od:Option Addr}
theorem Inv.hx (I:Inv X pins σ H s)(a:Addr):Inv (hx X a) pins σ H s :=
 ⟨⟨I.ok.mod,I.ok.kind,I.ok.glob,I.ok.blt,I.ok.above,I.ok.inj,I.ok.has,I.ok.cab,(fun z=>by cases z),I.ok.frames,I.ok.stk,I.ok.exf,I.ok.bs,I.ok.bsz,I.ok.noex,I.ok.exfs,I.ok.funs,I.ok.frf⟩,I.os,I.bare,I.base,I.loc,I.cell,I.free,I.freeC,I.pin,I.hok,I.len⟩
theorem Inv.unhx (c:X.Ok)(I:Inv (L3.hx X a) pins σ H s):Inv X pins σ H s:=⟨c,I.os,I.bare,I.base,I.loc,I.cell,I.free,I.freeC,I.pin,I.hok,I.len⟩
theorem Inv.noted {h':Heap}{oe:Obj}{vs:Array Value}{fl:Value}(I:Inv X pins σ H s)(ha:H a=some (XO a C od false))(e1:s.heap.get? a=some oe)(e2:oe.data=.fields vs)(n:gr (frs X.stack) s.heap h' a oe vs fl):Inv X pins σ H { s with heap:=h' }:=by
 obtain ⟨⟨T',oT',ts',z1,z2,z3,z4,z5⟩,n2,n3,n4⟩:=n
 obtain ⟨⟨o,ws,t0,x1,x2,x3,x4,x5,x6,-⟩,-,-⟩:=I.hok a _ ha
 rw [e1] at x1; cases x1
 rw [e2] at x4; cases x4
 have hd':=Obj.data_mapFields e2 (·.setIfInBounds 1 (Value.ref T'))
 refine I.call' (s':={ s with heap:=h' }) (ch:=[]) rfl ⟨fun b o e hb hn hx=>n2 b o e (fun z=>?_) hn,fun b o e hb hm hx=>n3 b o e hm,fun b o e hb hx=>hb,fun b o e hx=>n4 b o e,fun _ _ z=>z,fun _ _ _ z=>z,fun b ps z=>⟨#[],by rw [z]; simp⟩⟩ ?_ I.bare (fun b z=>absurd z (by simp))
 ·rw [z,ha] at hb; cases hb
 ·refine HOk.touch I.hok ha (fun b u o hb hne g=>n2 b u g hne fun z=>?_) ⟨_,_,t0,z1,by rw [Obj.cls_mapFields]; exact x2,by rw [<- x3]; obtain ⟨_,_,_,_⟩:=oe; cases e2; rfl,hd',by rw [a1o (by decide)]; exact x5,by rw [a1I]; exact x6,fun z=>by cases z⟩
  rw [I.stkFree b z] at hb; cases hb
end
noncomputable abbrev tx (X:Cx)(E:Value->Shared->Prop)(pn:List (Addr×Obj)):Cx:={ X with xe:=E,pn:=pn }
section
variable {X:Cx}{pins pins':List (Addr×Obj)}{σ:L2.St}{H:Hp}{s:Shared}{E:Value->Shared->Prop}
theorem Inv.tx (I:Inv X pins σ H s)(E:Value->Shared->Prop):Inv (L3.tx X E (X.pn++pins)) [] σ H s :=
 ⟨⟨I.ok.mod,I.ok.kind,I.ok.glob,I.ok.blt,I.ok.above,I.ok.inj,I.ok.has,I.ok.cab,I.ok.hd,I.ok.frames,I.ok.stk,I.ok.exf,I.ok.bs,I.ok.bsz,I.ok.noex,I.ok.exfs,I.ok.funs,I.ok.frf⟩,I.os,I.bare,I.base,I.loc,I.cell,I.free,I.freeC,fun p hp=>I.pin p (by rw [a0B] at hp; exact hp),I.hok,I.len⟩
theorem Inv.untx (c:X.Ok)(I:Inv (L3.tx X E (X.pn++pins)) pins' σ H s):Inv X pins σ H s:=⟨c,I.os,I.bare,I.base,I.loc,I.cell,I.free,I.freeC,fun p hp=>I.pin p (a0K _ hp),I.hok,I.len⟩
theorem SP.untx {D:bL}{f:Flow}(c:X.Ok)(h:SP (L3.tx X E (X.pn++pins)) pins' D f s):SP X pins D f s:=by
 cases f with
 | next=>obtain ⟨σ',H',I,q⟩:=h; exact ⟨σ',H',Inv.untx c I,q⟩
 | brk=>obtain ⟨σ',H',I,q⟩:=h; exact ⟨σ',H',Inv.untx c I,q⟩
 | cont=>obtain ⟨σ',H',I,q⟩:=h; exact ⟨σ',H',Inv.untx c I,q⟩
 | ret u=>obtain ⟨v,σ',H',I,r,q⟩:=h; exact ⟨v,σ',H',Inv.untx c I,r,q⟩
theorem iY {M:Model}{A:Around}{E:Value->Shared->Prop}{a T:Addr}{oe oT:Obj}{vs ts:Array Value}{Q:Unit->Shared->Prop}(e1:s.heap.get? a=some oe)(e2:oe.data=.fields vs)(e3:vs[1]?=some (.ref T))(e4:s.heap.get? T=some oT)(e5:oT.data=.fields ts)(e6:ts[3]?=some .none)
  (k:∀ h',(∀ b o,s.heap.get? b=some o->h'.get? b=some o)->Q () { s with heap:=h' }):wpAny M A (setFlight (.ref a) none) Q E s:=by
 unfold setFlight
 refine wpAny_bind (wpAny_field e1 e2 e3 ?_)
 rw [if_pos (f6 T)]
 refine wpAny_setField e4 e5 (a0J.mp e6).1 (k _ fun b o q=>?_)
 by_cases z:b=T
 ·rw [z] at q ⊢
  rw [e4] at q; cases q
  show (s.heap.update T (Obj.mapFields (·.setIfInBounds 3 Value.none))).get? T=_
  rw [Heap.get?_update_self (Obj.mapFields (·.setIfInBounds 3 Value.none)) e4 (Obj.isFreed_of_fields (Obj.data_mapFields e5 _)),xm e5 e6]
 ·rw [Heap.get?_update_other _ _ (a07 z)]; exact q
end
section
variable {X:Cx}{pos pos' p:Pos}{i:Nat}{x cn:Str}{B fB:Addr}{upB:List Value}{body suite:List Stmt}{b₀:Stmt}{tb:(L2.St->VK)->TS}{th:Addr->TS}
theorem vt (hst:X.stack=X.env::X.outer)(hf:X.env.frame=some X.env.locals)(hN:X.N.Nodup)(hi:X.N[i]?=some x)(hk:X.env.scope.names.lookup x=some .local)(hg:Gl X cn)(hm:X.mg cn=some (.ref B))
  (cb:∀ h,X.K.In h->∃ N' names',ff h B N' upB names') (hub:de upB=true) (hb:∀ E' pn,PSs (L3.tx X E' pn) body (tb (xw (L3.tx X E' pn)))) (hs:∀ a,PSs (hx X a) (b₀::suite) (th a)) (hdb:(cn==("__debug__":Str))=false:=by decide)
  (mono:∀ W W' D σ H,(∀ σ v H,W σ v H->W' σ v H)->tb W D σ H->tb W' D σ H) :
  PS X (.Try body [.ExceptHandler (some (.Name cn p)) (some x) (b₀::suite) pos'] [] [] pos) fun D σ H =>
   tb (fun σ1 v H1=>∃ a C od f up,v=.ref a/\H1 a=some (XO a C od false)/\XC X.K C f up/\up.contains (.ref B)=true/\th a { nx:=fun σ2 H2=>D.nx (σ2.set i none) H2,rt:=D.rt,bk:=fun σ2 H2=>D.bk (σ2.set i none) H2,ct:=fun σ2 H2=>D.ct (σ2.set i none) H2 } (σ1.set i (some v)) H1) D σ H:=by
 intro pins s σ H D I h
 refine wpAny_Try_except ?_
 generalize hE:(fun (e:Value) (s₁:Shared)=>wpAny (model X.prog X.w) X.A (noteFrame e X.env) (fun _ s₂=>wpAny (model X.prog X.w) X.A (setFlight e none) (fun _ s₃=>wpAny (model X.prog X.w) X.A (handleBy e X.env [.ExceptHandler (some (.Name cn p)) (some x) (b₀::suite) pos']) (SP X pins D) X.xe s₃) X.xe s₂) X.xe s₁)=E'
 refine thn (hb E' (X.pn++pins) [] s σ H D (Inv.tx I E') (mono _ _ D σ H ?_ h)) fun fl s' q=>?_
 ·rintro σ1 v H1 ⟨a,C,od,f,up,rfl,ha,c,hu,ht⟩ pins' s1 a' C' od' ev ha' I1 tr
  cases ev
  rw [ha] at ha'
  subst hE
  obtain ⟨oe,vs,e1,e2,e3⟩:=tr
  have J:Inv X pins σ1 H1 s1:=Inv.untx I.ok I1
  obtain ⟨⟨o,ws,t0,x1,x2,x3,x4,x5,x6,-⟩,-,-⟩:=J.hok a _ ha
  rw [e1] at x1; cases x1
  rw [e2] at x4; cases x4
  have hl:=J.stack
  rw [hst] at hl
  have hfr:=J.ok.frames
  rw [hst] at hfr
  have tbx:Tb s1.heap a vs:=by
   rcases e3 with z | ⟨T,oT,ts,y1,y2,y3,y4,y5,_⟩
   ·exact .inl z
   ·exact .inr ⟨T,oT,ts,y1,y2,y3,y4,y5⟩
  show wpAny _ _ (noteFrame (.ref a) X.env) _ _ _
  refine mr hfr hl hf e1 e2 tbx fun h2 n2=>lJ (s:={ s1 with heap:=h2 }) e2 x6 (Heap.lt_size e1) (fun b z=>by obtain ⟨_,o,q,_⟩:=hl.mem z; exact Heap.lt_size q) n2 fun h3 n3=>?_
  have n3':gr (frs X.stack) s1.heap h3 a oe vs .none:=by rw [hst]; exact n3
  have J3:Inv X pins σ1 H1 { s1 with heap:=h3 }:=Inv.noted J ha e1 e2 n3'
  obtain ⟨⟨T',oT',ts',z1,z2,z3,z4,z5⟩,-,-,-⟩:=n3
  have hd':=Obj.data_mapFields e2 (·.setIfInBounds 1 (Value.ref T'))
  refine wpAny_handleBy_cons (codeAny_handlers_test (cR (X:=L3.hx X a) (Inv.hx J3 a) hg hm ?_ hdb)) (by intro q; cases q)
  obtain ⟨N1,names1,c1,_,_⟩:=c.ok _ J3.kIn
  obtain ⟨N2,names2,c2⟩:=cb _ J3.kIn
  refine m9 (h:=h3) c1 c2 (hZ hub) hu z1 (by rw [Obj.cls_mapFields]; exact x2) ?_
  show codeAny _ _ _ _ _
  refine codeAny_handlers_suite_as (iY (s:={ s1 with heap:=h3 }) z1 hd' (by simp [x6]) z3 z4 z5 fun h4 k4=>?_)
  have J4:Inv X pins σ1 H1 { s1 with heap:=h4 }:=J3.kept (t':=s1.toks) k4
  refine d7 (X:=L3.hx X a) (v:=.ref a) (Inv.hx J4 a) hN hi (.inl hk) rfl (fun s5 I5=>?_) (.inr hk)
  refine wpAny_mono (hs a pins s5 _ H1 _ I5 ht) (fun fl s6 q=>?_) fun _ _ z=>a0R z
  show wpAny _ _ (do bindName X.env x .none; unbindBehindTheSuite X.env x pos') _ _ _
  cases fl with
  | next=>obtain ⟨σ',H',I6,q⟩:=q; exact cU (Inv.unhx I.ok I6) hN hi hk fun s7 I7=>⟨_,H',I7,q⟩
  | brk=>obtain ⟨σ',H',I6,q⟩:=q; exact cU (Inv.unhx I.ok I6) hN hi hk fun s7 I7=>⟨_,H',I7,q⟩
  | cont=>obtain ⟨σ',H',I6,q⟩:=q; exact cU (Inv.unhx I.ok I6) hN hi hk fun s7 I7=>⟨_,H',I7,q⟩
  | ret u=>obtain ⟨v,σ',H',I6,r,q⟩:=q; exact cU (Inv.unhx I.ok I6) hN hi hk fun s7 I7=>⟨v,_,H',I7,r,q⟩
 ·have q:=SP.untx I.ok q
  cases fl with
  | next=>exact wpAny_execs_nil q
  | brk=>exact q
  | cont=>exact q
  | ret u=>exact q
end
theorem slot_bga:Slot "ValueError" "__getattribute__" "BaseException.__getattribute__":=PySem.F.excAttr_ValueError.ga
section
variable {prog:Program}{w:World}{A:Around}{E:Value->Shared->Prop}{s:Shared}{K:a0a}
structure XG (K:a0a)(C:Addr):Prop where
 ga:a0x K (.ref C) "__getattribute__"=some (some (.builtin "BaseException.__getattribute__"))
 hk:a0x K (.ref C) "__getattr__"=some none
 sub:a2W K (.ref C) (.type "BaseException")=some true
theorem sP {e C:Addr}{oe:Obj}{od:Option Obj}{name:Str}{tk:Tok}{fill expr:Bool}{Q:Value->Shared->Prop}(X:K.In s.heap)(J:a08 s.heap e oe C od)(c:XG K C)
  (h:wpAny (model prog w) A.in1 (Builtin.«object.__getattribute__» ⟨[.ref e,.str name tk],[]⟩) (fun fin s'=>match fin with | .done (.ret v)=>wpAny (model prog w) A (a3o v) Q E s' | _=>False) (fun _ _=>False) s) :
  wpAny (model prog w) A (getAttrBy (.ref e) (.str name tk) fill expr) Q E s:=by
 have ty:=J.type (M:=model prog w)
 refine wpAny_holding (wpAny_bind (ty _ _ _ _ (fun _ _ e=>e) (wpAny_bind (a2O X c.ga _ _ _ _ (fun _ _ e=>e) ?_))))
 dsimp only
 rw [show (Value.builtin "BaseException.__getattribute__"==Value.builtin "object.__getattribute__")=false from by decide +kernel,a2R,if_neg (by decide)]
 refine wpAny_bind (PySem.W.looks_hook X (r:=none) (by rw [if_pos (show onTheHeap (Value.ref C)=true from rfl)]; exact c.hk) _ _ _ _ (fun _ _ e=>e) (wpAny_bind (wpAny_attempt (wpAny_holding ?_))))
 unfold callGetattribute
 rw [show (expr&&onTheHeap (Value.builtin "BaseException.__getattribute__"))=false from a2R _,if_neg (by decide)]
 unfold boundAndCalled
 rw [slot_bga.bind]
 refine wpAny_bind (wpAny_pure ?_)
 show wpAny _ _ (call (.builtin "BaseException.__getattribute__") [.ref e,.str name tk]) _ _ _
 refine wpAny_call (codeAny_call_builtin slot_bga.plain PySem.F.entry_bexc_ga ?_)
 refine @a2Y (model prog w) _ _ s "BaseException.__getattribute__" "BaseException" "__getattribute__" (.ref e) [.str name tk] [] _ (by decide +kernel) (by decide +kernel) (ty.andThen (PySem.W.looks_subIn X c.sub)) (PySem.F.args_bexc_ga (.ref e) (.str name tk)) ?_
 refine wpAny_mono h (fun fin s' z=>?_) fun _ _ z=>z.elim
 rcases fin with (_ | _ | _ | _) | _<;>first | exact a0R z | exact z
theorem uU {e C:Addr}{oe:Obj}{od:Option Obj}{name:Str}{v:Value}{expr:Bool}{Q:Value->Shared->Prop}(X:K.In s.heap)(J:a08 s.heap e oe C od)(c:XG K C)
  (hf:a3p K C od name=some (.value v)) (hh:a3c v=true) (h:Q v { s with toks:=s.toks+1 }):wpAny (model prog w) A (getAttr (.ref e) name expr) Q E s:=by
 refine wpAny_bind (wpAny_mkText (sP (s:={ s with toks:=s.toks+1 }) X J c ?_))
 have ty:=J.type (M:=model prog w)
 have fd:=a2Z (M:=model prog w) X J hf
 refine wpAny_bind (wpAny_pure (wpAny_bind (wpAny_pure (wpAny_bind (a0L (s:={ s with toks:=s.toks+1 }) ty (wpAny_bind (a0L (s:={ s with toks:=s.toks+1 }) fd ?_)))))))
 refine wpAny_pure ?_
 show wpAny _ _ (a3o v) _ _ _
 rw [PySem.W.handedOut_of hh]
 exact wpAny_pure h
theorem mL {e C:Addr}{oe od:Obj}{Q:Option Value->Shared->Prop}(X:K.In s.heap)(J:a08 s.heap e oe C (some od))(c:XG K C)(hd:a02 K C=true)
  (ha:a0x K (.ref C) "__class__"=some (some (.builtin "object.__class__"))) (hn:a1m K (.builtin "object.__class__") "__get__"=some (some (.builtin "getset_descriptor.__get__"))) (htk:a1K K (.builtin "object.__class__")=some true) (hm:a1L K C (.type "object")=some true)
  (h:Q (some (.ref C)) { s with toks:=s.toks+1 }):wpAny (model prog w) A (getAttr? (.ref e) "__class__") Q E s:=by
 have hf:a3p K C (some od) "__class__"=some (.bind (.builtin "getset_descriptor.__get__") (.builtin "object.__class__")):=PySem.W.findObj_data (by obtain ⟨cd,hc,_⟩:=a1v hd; rw [hc]; rfl) ha hn htk
 unfold getAttr? getAttrBy?
 refine wpAny_bind (wpAny_mkText (wpAny_bind (wpAny_attempt (sP (s:={ s with toks:=s.toks+1 }) X J c ?_))))
 have ty:=J.type (M:=model prog w)
 have fd:=a2Z (M:=model prog w) X J hf
 refine wpAny_bind (wpAny_pure (wpAny_bind (wpAny_pure (wpAny_bind (a0L (s:={ s with toks:=s.toks+1 }) ty (wpAny_bind (a0L (s:={ s with toks:=s.toks+1 }) fd ?_)))))))
 show wpAny _ _ (holding [.builtin "object.__class__"] (call (.builtin "getset_descriptor.__get__") [.builtin "object.__class__",.ref e,.ref C]) >>= ret) _ _ _
 refine wpAny_bind (wpAny_holding (wpAny_call (PySem.W.class_get (s:={ s with toks:=s.toks+1 }) (ox:=oe) (od:=some od) X J hm ?_)))
 exact wpAny_pure (PySem.W.handed_on rfl (wpAny_pure h))
theorem mj {e C:Addr}{oe od:Obj}(c:XG K C)(hd:a02 K C=true)
  (ha:a0x K (.ref C) "__class__"=some (some (.builtin "object.__class__"))) (hn:a1m K (.builtin "object.__class__") "__get__"=some (some (.builtin "getset_descriptor.__get__"))) (htk:a1K K (.builtin "object.__class__")=some true) (hm:a1L K C (.type "object")=some true) :
  PySem.W.KitX K (.ref e) (.ref C) (fun h=>a08 h e oe C (some od)) where
 ty:=fun _ _ _ J=>J.type
 it:=fun _ _ X _=>by
  obtain ⟨cd,hc,_⟩:=a1v hd
  unfold a1D at hc
  split at hc
  ·rename_i ho
   intro A' Q' E' s' k q
   unfold isType loadHead
   exact wpAny_bind (wpAny_loadPart (k _ _ (X C _ ho)) (wpAny_pure q))
  ·cases hc
 ne:=fun h tp dd its n sl X z=>by
  obtain ⟨cd,hc,_⟩:=a1v hd
  refine Bool.eq_false_iff.mpr fun q=>?_
  have q':C=tp:=Value.ref.inj (beq_iff_eq.mp q)
  subst q'
  unfold a1D at hc
  split at hc
  ·rename_i ho
   cases (X _ _ ho).symm.trans z
  ·cases hc
 ca:=fun X J k=>mL X J c hd ha hn htk hm k
end
structure XF (K:a0a)(C:Addr):Prop where
 xc:∃ f up,XC K C f up/\de up=true
 xg:XG K C
 hd:a02 K C=true
 ca:a0x K (.ref C) "__class__"=some (some (.builtin "object.__class__"))
 cg:a1m K (.builtin "object.__class__") "__get__"=some (some (.builtin "getset_descriptor.__get__"))
 ct:a1K K (.builtin "object.__class__")=some true
 mo:a1L K C (.type "object")=some true
noncomputable def XNm (K:a0a)(c:Nat)(C:Addr):Prop:=c=C/\XF K C
section
variable {X:Cx}{pins:List (Addr×Obj)}{σ:L2.St}{H:Hp}{s:Shared}{a C dx:Addr}{n:Bool}{fs:List (Str×V)}{fld:Str}{v:V}{A:Around}{E:Value->Shared->Prop}
theorem ua {b:Bool}{Q:Value->Shared->Prop}(I:Inv X pins σ H s)(e:H a=some (XO a C (some dx) n))(d:H dx=some (.xd fs))(c:XF X.K C)(ha:a0x X.K (.ref C) fld=some none)(l:fs.lookup fld=some v)
  (h:∀ u s',Inv X pins σ H s'->RelV v u->Q u s'):wpAny (model X.prog X.w) A (getAttr (.ref a) fld b) Q E s:=by
 obtain ⟨o,vs,t0,e0,e1,e2,e3,e4,e5,e6⟩:XOk a C (some dx) n s.heap:=(I.hok a _ e).1
 obtain ⟨mA,ns,r⟩:∃ mA,s.heap.Ns1 dx mA/\∀ f,RelO (fs.lookup f) (mA f):=I.hok dx _ d
 obtain ⟨u,hu,ru⟩:=RelO.some_of (v:=v) (o:=mA fld) (by rw [<- l]; exact r fld)
 obtain ⟨od,ho,hl⟩:=cS ns
 have J:a08 s.heap a o C (some od):=⟨e0,e1,by unfold a2o; rw [e3],by rw [e2]; exact ho⟩
 exact uU I.kIn J c.xg (PySem.W.findObj_own c.hd ha rfl (by rw [hl,hu])) (mT ru) (h u _ (I.tok _) ru)
theorem yY {cv:Value}{b:Bool}{Q:Value->Shared->Prop}(I:Inv X pins σ H s)(e:H a=some (XO a C (some dx) n))(d:H dx=some (.xd fs))(c:XF X.K C)(k:a0C X.K (.ref C) cv=some b)
  (h:∀ tk,Q (.bool b) { s with toks:=tk }):wpAny (model X.prog X.w) A (call (.builtin "isinstance") [.ref a,cv]) Q E s:=by
 obtain ⟨o,vs,t0,e0,e1,e2,e3,e4,e5,e6⟩:XOk a C (some dx) n s.heap:=(I.hok a _ e).1
 obtain ⟨mA,ns,r⟩:∃ mA,s.heap.Ns1 dx mA/\∀ f,RelO (fs.lookup f) (mA f):=I.hok dx _ d
 obtain ⟨od,ho,hl⟩:=cS ns
 have J:a08 s.heap a o C (some od):=⟨e0,e1,by unfold a2o; rw [e3],by rw [e2]; exact ho⟩
 exact a0G (mj c.xg c.hd c.ca c.cg c.ct c.mo) I.kIn J k (fun z=>nomatch z) h
end
section
variable {X:Cx}{e:Expr}{fld:Str}{pos:Pos}{ta:TE}
theorem uR (he:PE X e ta)(hb:attributeBase e fld X.env (eval e X.env)=eval e X.env):PE X (.Attribute e fld pos) fun σ H Q=>ta σ H fun x H1=>∃ a C dx n fs v,x=.ref a/\H1 a=some (XO a C (some dx) n)/\H1 dx=some (.xd fs)/\XF X.K C/\a0x X.K (.ref C) fld=some none/\fs.lookup fld=some v/\Q v H1:=by
 intro pins s σ H Q I h
 refine ui hb (thn (he pins s σ H _ I h) fun u s1 ⟨x,H1,I1,rx,a,C,dx,n,fs,v,ex,ea,ed,c,ha,l,q⟩=>?_)
 subst ex
 obtain rfl:u=Value.ref a:=rx
 exact ua I1 ea ed c ha l fun u' s2 I2 ru=>⟨v,H1,I2,ru,q⟩
end
end L3

namespace M
open PySem (Str)
inductive T where
 | non | bl (b:Bool) | int (i:Int) | str (x:Str) | tup (ts:List T) | lst (ts:List T) | dct (ks:List (Int ⊕ Str)) (vs:List T) | ins (c:Nat) (fs:List Str) (vs:List T)
 | scr (ns:List Int)
 | gone
 deriving Inhabited
inductive Md where
 | s | d | o (m:Md)
 deriving DecidableEq,Inhabited
noncomputable def Md.kid:Md->Md
 | .s=>.s | .d=>.d | .o m=>m
noncomputable def Md.up:Md->Md
 | .d=>.d | m=>.o m
noncomputable def Md.meet:Md->Md->Md
 | .s,_=>.s | .d,m=>m | .o _,.s=>.s | .o a,.d=>.o a | .o a,.o b=>.o (a.meet b)
noncomputable def Md.le:Md->Md->Bool
 | .s,_=>true
 | .o a,.o b=>a.le b
 | .o _,.d=>true
 | .d,.d=>true
 | _,_=>false
noncomputable abbrev W:=Md×T
noncomputable abbrev Env:=List (Option W)
noncomputable def LIM:Nat:=16777215
noncomputable def T.leaf:T->Bool
 | .non | .bl _ | .int _ | .str _ | .scr _=>true
 | _=>false
noncomputable def T.isG:T->Bool
 | .gone=>true
 | .dct _ _=>true
 | _=>false
noncomputable def T.isH:T->Bool
 | .gone=>true
 | .dct _ _=>true
 | .ins _ _ _=>true
 | _=>false
noncomputable def T.isN:T->Bool
 | .non=>true
 | _=>false
noncomputable def leaves (ts:List T):Bool:=ts.all T.leaf
inductive Op where
 | add | sub | mul | fdiv | mod | pow | neg | eq | ne | lt | le | gt | ge | is | isnot | isin | notin | ix | sl | sl1 | sl2 | sl3
 | len | isI (cs:List String) | max1 | maxZ | min1 | count | fdivN | modN | intS | apd | mulS | listS | list | tuple | sum | all | any | max | min | int | str | rng | sorted | join | split | abs | dict | get | lzip | isB | isnB | lower | inS | ninS | inX | ninX | leS | catT | dnew | sortedD | sortedS | lenSet | countS | repr | ixD | revL
 | inL | slS1 | slS2 | idxS | strB
 | isX (cs:List Nat) | att (fld:Str) | getK (tab:List (Str×Int)) (d:Option Int) | mk (c:Nat) (fld:Str) (fk:Nat)
  deriving DecidableEq,Inhabited
inductive Ik where
 | seq | rng | enm | zip | sq2 | zip3 | chr | enmT
 deriving DecidableEq,Inhabited
inductive E where
 | var (i:Nat) | mv (i:Nat) | io (i:Nat) | cst (t:T) | glb (x:Str) (t:T)
 | tup (es:List E) | lst (h:Bool) (es:List E) | op (o:Op) (h:Bool) (es:List E) | wk (m:Md) (e:E)
 | and (a b:E) | or (a b:E) | not (a:E) | ifx (c a b:E) | chain (o p:Op) (a b c:E)
 | call (f:Nat) (es:List E) | comp (h:Bool) (k:Ik) (src:List E) (tg:List Nat) (cnd:Option E) (elt:E)
 | pop (i:Nat) (es:List E) | lenV (i:Nat) | ixV (i j:Nat) | popN (i:Nat) (e:E) | compV (h:Bool) (i t:Nat) (c e:E)
 | ixQ (i:Nat) (e:E) | tupA (es:List E) | qx (vs ls:List Nat) (e:E) | mvP (i:Nat) (p:List Nat)
 | callT (tab:List (Str×Nat)) (k:E) (es:List E) | inT (neg:Bool) (ks:List Str) (e:E) | ixT (tab:List (Str×T)) (e:E) | getT (tab:List (Str×T)) (e:E)
 deriving Inhabited
inductive X where
 | q (vs ls:List Nat) | l (vs:List Nat)
 deriving Inhabited
inductive S where
 | asg (x:X) (i:Nat) (e:E) | asgT (x:X) (is:List Nat) (e:E) | setI (x:X) (i:Nat) (k e:E) | setK (x:X) (i:Nat) (k e:E) | setS (x:X) (i:Nat) (k e:E) | insF (x:X) (i:Nat) (e:E) | revS (i:Nat) | apN (i k l:Nat) | insN (i k l:Nat) | apC (i k:Nat) (cs:List T) | popI (i k:Nat) | clrA (i j:Nat)
 | exp (x:X) (e:E) | app (x:X) (i:Nat) (e:E) | ext (x:X) (i:Nat) (e:E)
 | ret (vs:List Nat) (e:E) | retN | ite (x:X) (c:E) (a b:List S)
 | forS (vs ls:List Nat) (k:Ik) (src:List E) (tg:List Nat) (body:List S) | forU (k:Ik) (src:List E) (tg:List Nat) (body:List S) | whl (x:X) (c:E) (body:List S)
 | brk | pas | stop | tri (body:List S)
 | tryI (i j:Nat) (h:List S) | asgC (vs:List Nat) (i f:Nat) (es:List E) | expC (vs:List Nat) (f:Nat) (es:List E) | retC (vs:List Nat) (f:Nat) (es:List E) | raise (c:Nat) (fld:Str) (fk:Nat) (x:X) (e:E) | tryC (cs:List Nat) (body:List S) (i:Nat) (h:List S)
 deriving Inhabited
structure Fn where
 ps:Nat
 ns:Nat
 io:List Nat
 body:List S
inductive Res (α:Type) where
 | ok (a:α) | ex (t:T) | no
noncomputable def Res.bind {α β:Type}:Res α->(α->Res β)->Res β
 | .ok a,f=>f a
 | .ex t,_=>.ex t
 | .no,_=>.no
noncomputable def ofO {α:Type}:Option α->Res α
 | some a=>.ok a
 | none=>.no
inductive Fl where
 | nx (η:Env) | rt (w:W) (η:Env) | bk (η:Env) | ex (t:T) (η:Env) | no
noncomputable def truth:T->Option Bool
 | .non=>some false | .bl b=>some b | .int i=>some (i != 0) | .str x=>some (x.cps.size != 0) | .tup ts=>some (!ts.isEmpty) | .lst ts=>some (!ts.isEmpty) | .dct _ _=>none | .ins ..=>none | .scr ns=>some (!ns.isEmpty) | .gone=>none
noncomputable def b2i:Bool->Int
 | true=>1 | false=>0
mutual
noncomputable def eqT:T->T->Bool
 | .non,.non=>true
 | .bl a,.bl b=>a==b
 | .bl a,.int i=>b2i a==i
 | .int i,.bl a=>i==b2i a
 | .int i,.int j=>i==j
 | .str x,.str y=>x==y
 | .tup ts,.tup us=>eqTs ts us
 | .lst ts,.lst us=>eqTs ts us
 | _,_=>false
noncomputable def eqTs:List T->List T->Bool
 | [],[]=>true
 | t::ts,u::us=>eqT t u&&eqTs ts us
 | _,_=>false
end
mutual
noncomputable def dp:T->Nat
 | .tup ts=>dps ts+1
 | .lst ts=>dps ts+1
 | .scr _=>1000
 | .dct _ _=>1000
 | .ins _ _ _=>1000
 | .gone=>1000
 | _=>0
noncomputable def dps:List T->Nat
 | []=>0
 | t::ts=>max (dp t) (dps ts)
end
noncomputable def sOk (x:Str):Bool:=x.cps.all (· < 0x110000)&&decide (x.cps.size<=LIM)
noncomputable def kOk:Int ⊕ Str->Bool
 | .inl _=>true
 | .inr x=>sOk x
noncomputable def yx:T->Option (Int ⊕ Str)
 | .int n=>some (.inl n)
 | .str x=>some (.inr x)
 | _=>none
noncomputable def pH:List (Int ⊕ Str)->Option (List Str)
 | []=>some []
 | .inr x::ks=>(pH ks).map (x::·)
 | .inl _::_=>none
noncomputable def wG (q:Int ⊕ Str):List (Int ⊕ Str)->List T->Option T
 | y::ys,v::vs=>if y=q then some v else wG q ys vs
 | _,_=>none
noncomputable def ixN (n:Nat)(i:Int):Option Nat:=if 0<=i then (if i < n then some i.toNat else none) else if -(n:Int)<=i then some (i+n).toNat else none
noncomputable def atI {α:Type}(xs:List α)(i:Int):Option α:=(ixN xs.length i).bind fun j=>xs[j]?
noncomputable def sIx (n d:Nat):Option Int->Nat
 | none=>d
 | some i=>if i < 0 then (i+n).toNat else min i.toNat n
noncomputable def cut {α:Type}(xs:List α)(lo hi:Option Int):List α:=(xs.drop (sIx xs.length 0 lo)).take (sIx xs.length xs.length hi-sIx xs.length 0 lo)
noncomputable def T.ty:T->String
 | .non=>"NoneType" | .bl _=>"bool" | .int _=>"int" | .str _=>"str" | .tup _=>"tuple" | .lst _=>"list" | .dct ..=>"dict" | .ins ..=>"object" | .scr _=>"list" | .gone=>"gone"
noncomputable def isOne (c:String)(t:T):Bool:=t.ty==c || (t.ty=="bool"&&c=="int")
noncomputable def eE:List T->Option (List Int)
 | []=>some []
 | .int i::ts=>(eE ts).map (i::·)
 | _::_=>none
noncomputable def eW:List T->Option (List Bool)
 | []=>some []
 | .bl b::ts=>(eW ts).map (b::·)
 | _::_=>none
noncomputable def elems:W->Option (List T)
 | (_,.tup ts)=>some ts
 | (_,.lst ts)=>some ts
 | _=>none
noncomputable def flatT:T->Bool
 | .non | .bl _ | .int _ | .str _=>true
 | _=>false
noncomputable def isStr:T->Bool
 | .str _=>true
 | _=>false
noncomputable def l8:T->Bool
 | .non | .bl _ | .int _ | .str _ | .lst _ | .tup _=>true
 | _=>false
noncomputable def DK (c:Nat):Nat:=if 65<=c/\c<=90 then c+32 else c
noncomputable def AG:List Int->Int
 | []=>0
 | [n]=>n
 | n::ns=>max n (AG ns)
noncomputable def Dm:List Int->Int
 | []=>0
 | [n]=>n
 | n::ns=>min n (Dm ns)
noncomputable def C4 (x:Int):List Int->List Int
 | []=>[x]
 | y::ys=>if x<=y then x::y::ys else y::C4 x ys
noncomputable def xp:List Int->List Int
 | []=>[]
 | x::xs=>C4 x (xp xs)
noncomputable def cJ:List T->Option (List Str)
 | []=>some []
 | .str x::ts=>(cJ ts).map (x::·)
 | _::_=>none
noncomputable def F5 (ks:List Str)(x:Str):List Str:=if ks.contains x then ks else ks++[x]
noncomputable def xa (l:List Str):List Str:=l.foldl F5 []
noncomputable def ltS (x y:Str):Bool:=decide (x.cps.toList < y.cps.toList)
noncomputable def Cz (x:Str):List Str->List Str
 | []=>[x]
 | y::ys=>if ltS y x then y::Cz x ys else x::y::ys
noncomputable def jm:List Str->List Str
 | []=>[]
 | x::xs=>Cz x (jm xs)
noncomputable def spl (c:Nat):List Nat->List Nat->List (List Nat)
 | acc,[]=>[acc]
 | acc,x::xs=>if x=c then acc::spl c [] xs else spl c (acc++[x]) xs
noncomputable def C1 (x:Str):List Str:=(spl 32 [] x.cps.toList).map fun l=>⟨l.toArray⟩
noncomputable def Ej (l:List Nat):Nat:=l.foldl (fun a c=>a * 10+(c-48)) 0
noncomputable def Bx (x:Str):Int:=match x.cps.toList with
 | 45::cs=>-((Ej cs:Nat):Int)
 | cs=>((Ej cs:Nat):Int)
noncomputable def yt (i:Int):Str:=Str.ofString (toString i)
noncomputable def C7:List T->List T->List T
 | t::ts,u::us=>.tup [t,u]::C7 ts us
 | _,_=>[]
noncomputable def newL (h:Bool)(m:Md)(ts:List T):Option W:=if h then (if leaves ts then some (.d,.lst ts) else none) else some (m.up,.lst ts)
noncomputable def fits (n:Nat):Bool:=decide (n<=LIM)
mutual
noncomputable def datT:T->a3N
 | .bl b=>.bool b
 | .int i=>.int i
 | .str x=>.str x
 | .tup ts=>.tuple (datTs ts)
 | .lst ts=>.list (datTs ts)
 | _=>.none
noncomputable def datTs:List T->List a3N
 | []=>[]
 | t::ts=>datT t::datTs ts
end
mutual
noncomputable def rOk:T->Bool
 | .non | .bl _=>true
 | .int i=>decide (i.natAbs < 10000000000000000000)
 | .str x=>decide ((a2p x).length<=100)&&sOk (a2p x)
 | .tup ts=>rOks ts
 | .lst ts=>rOks ts
 | _=>false
noncomputable def rOks:List T->Bool
 | []=>true
 | t::ts=>rOk t&&rOks ts
end
mutual
noncomputable def szR:T->Nat
 | .tup ts=>szRs ts+4
 | .lst ts=>szRs ts+4
 | _=>100
noncomputable def szRs:List T->Nat
 | []=>0
 | t::ts=>szR t+2+szRs ts
end
noncomputable def fldOk:Nat->Md->T->Bool
 | 0,_,.int n=>decide (n.natAbs.log2 < 1920)
 | 1,.s,.tup ts=>decide (dp (.tup ts)<=64)&&rOk (.tup ts)&&decide (szR (.tup ts)<=1000000)
 | 2,_,.str _=>true
 | _,_,_=>false
noncomputable def lfM (t:T):Md:=if t.leaf=true then .d else .s
noncomputable def getI:Option Int->Option Int->T
 | some i,_=>.int i
 | none,some i=>.int i
 | none,none=>.non
noncomputable def oSem:Op->Bool->List W->Option W
 | .add,h,[(m,a),(n,b)]=>match a,b with
  | .int i,.int j=>some (.d,.int (i+j))
  | .str x,.str y=>if fits (x.cps.size+y.cps.size) then some (.d,.str (x++y)) else none
  | .lst ts,.lst us=>if fits (ts.length+us.length) then newL h (m.kid.meet n.kid) (ts++us) else none
  | .tup ts,.tup us=>if fits (ts.length+us.length)&&!ts.isEmpty then some (.s,.tup (ts++us)) else none
  | _,_=>none
 | .sub,_,[(_,.int i),(_,.int j)]=>some (.d,.int (i-j))
 | .mul,h,[(m,a),(_,b)]=>match a,b with
  | .int i,.int j=>if (decide (i.natAbs < 18446744073709551616)) || (decide (j.natAbs < 18446744073709551616)) then some (.d,.int (i * j)) else none
  | .lst ts,.int k=>if decide (k.natAbs < 4611686018427387904)&&fits (ts.length * k.toNat) then newL h .s (a0r k.toNat ts).flatten else none
  | _,_=>none
 | .fdiv,_,[(_,.int i),(_,.int j)]=>if decide (0 < j)&&decide (j < 1073741824) then some (.d,.int (i / j)) else none
 | .mod,_,[(_,.int i),(_,.int j)]=>if decide (0 < j) then some (.d,.int (i % j)) else none
 | .pow,_,[(_,.int i),(_,.int j)]=>if decide (0<=j)&&decide (j<=1000000)&&decide (i.natAbs < 18446744073709551616) then some (.d,.int (i ^ j.toNat)) else none
 | .fdivN,_,[(_,.int i),(_,.int j)]=>if (j != 0)&&decide (j.natAbs < 18446744073709551616) then some (.d,.int (i.fdiv j)) else none
 | .modN,_,[(_,.int i),(_,.int j)]=>if j != 0 then some (.d,.int (i.fmod j)) else none
 | .neg,_,[(_,.int i)]=>some (.d,.int (-i))
 | .eq,_,[(_,a),(_,b)]=>if decide (dp a<=64)&&decide (dp b<=64) then some (.d,.bl (eqT a b)) else none
 | .ne,_,[(_,a),(_,b)]=>if decide (dp a<=64)&&decide (dp b<=64) then some (.d,.bl (!eqT a b)) else none
 | .lt,_,[(_,.int i),(_,.int j)]=>some (.d,.bl (decide (i < j)))
 | .le,_,[(_,.int i),(_,.int j)]=>some (.d,.bl (decide (i<=j)))
 | .gt,_,[(_,.int i),(_,.int j)]=>some (.d,.bl (decide (j < i)))
 | .ge,_,[(_,.int i),(_,.int j)]=>some (.d,.bl (decide (j<=i)))
 | .is,_,[(_,a),(_,.non)]=>if a.isG then none else some (.d,.bl a.isN)
 | .isnot,_,[(_,a),(_,.non)]=>if a.isG then none else some (.d,.bl (!a.isN))
 | .ix,_,[(m,a),(_,.int i)]=>match a with
  | .lst ts=>(atI ts i).map fun t=>(m.kid,t)
  | .tup ts=>(atI ts i).map fun t=>(m.kid,t)
  | .str x=>(atI x.cps.toList i).map fun c=>(.d,.str ⟨#[c]⟩)
  | .scr ns=>(atI ns i).map fun n=>(.d,.int n)
  | _=>none
 | .sl,h,[(m,.lst ts)]=>newL h m.kid ts
 | .sl1,h,[(m,.lst ts),(_,.int i)]=>newL h m.kid (cut ts (some i) none)
 | .sl2,h,[(m,.lst ts),(_,.int i)]=>newL h m.kid (cut ts none (some i))
 | .sl3,h,[(m,.lst ts),(_,.int i),(_,.int j)]=>newL h m.kid (cut ts (some i) (some j))
 | .sl2,_,[(_,.scr ns),(_,.int i)]=>some (.d,.lst ((cut ns none (some i)).map T.int))
 | .sl1,_,[(_,.scr ns),(_,.int i)]=>some (.d,.lst ((cut ns (some i) none).map T.int))
 | .sl,_,[(_,.scr ns)]=>some (.d,.lst (ns.map T.int))
 | .sl1,_,[(_,.tup ts),(_,.int i)]=>some (.s,.tup (cut ts (some i) none))
 | .sl2,_,[(_,.tup ts),(_,.int i)]=>some (.s,.tup (cut ts none (some i)))
 | .sl3,_,[(_,.tup ts),(_,.int i),(_,.int j)]=>some (.s,.tup (cut ts (some i) (some j)))
 | .len,_,[(_,a)]=>match a with
  | .lst ts=>some (.d,.int ts.length)
  | .tup ts=>some (.d,.int ts.length)
  | .str x=>some (.d,.int x.cps.size)
  | .scr ns=>some (.d,.int ns.length)
  | _=>none
 | .isX cs,_,[(_,.ins c _ _)]=>some (.d,.bl (cs.contains c))
 | .isX _,_,[(_,.non)]=>some (.d,.bl false)
 | .att fld,_,[(_,.ins _ [g] [t])]=>if (g==fld)=true then some (lfM t,t) else none
 | .getK tab d,_,[(_,.str x)]=>some (.d,getI (tab.lookup x) d)
 | .mk c fld fk,_,[(m,t)]=>if fldOk fk m t=true then some (.s,.ins c [fld] [t]) else none
 | .isI cs,_,[(_,a)]=>if a.isH then none else some (.d,.bl (cs.any fun c=>isOne c a))
 | .list,h,[(m,a)]=>match a with
  | .lst ts=>newL h m.kid ts
  | .tup ts=>newL h m.kid ts
  | .scr ns=>some (.d,.lst (ns.map T.int))
  | _=>none
 | .tuple,_,[(m,a)]=>match a with
  | .lst ts=>some (m.kid.up,.tup ts)
  | .tup ts=>some (m,.tup ts)
  | _=>none
 | .sum,_,[(_,.lst ts)]=>(eE ts).map fun ns=>(.d,.int ns.sum)
 | .all,_,[(_,.lst ts)]=>(eW ts).map fun bs=>(.d,.bl (bs.all id))
 | .any,_,[(_,.lst ts)]=>(eW ts).map fun bs=>(.d,.bl (bs.any id))
 | .max,_,[(_,.int i),(_,.int j)]=>some (.d,.int (if j > i then j else i))
 | .min,_,[(_,.int i),(_,.int j)]=>some (.d,.int (if j < i then j else i))
 | .rng,_,[(_,.int i),(_,.int j)]=>if decide (i.natAbs < 4611686018427387904)&&decide (j.natAbs < 4611686018427387904)&&fits (j-i).toNat then some (.d,.lst ((a0F (j-i).toNat).map fun (k:Nat)=>T.int (i+k))) else none
 | .isin,_,[(_,a),(n,b)]=>(elems (n,b)).bind fun ts=>if flatT a&&ts.all flatT then some (.d,.bl (ts.any fun t=>eqT t a)) else none
 | .notin,_,[(_,a),(n,b)]=>(elems (n,b)).bind fun ts=>if flatT a&&ts.all flatT then some (.d,.bl (!ts.any fun t=>eqT t a)) else none
 | .int,_,[(_,.int i)]=>some (.d,.int i)
 | .int,_,[(_,.bl b)]=>some (.d,.int (b2i b))
 | .abs,_,[(_,.int i)]=>some (.d,.int i.natAbs)
 | .maxZ,_,[(_,.lst ts)]=>(eE ts).bind fun ns=>some (.d,.int (if ns.isEmpty then 0 else AG ns))
 | .max1,_,[(_,.lst ts)]=>(eE ts).bind fun ns=>if ns.isEmpty then none else some (.d,.int (AG ns))
 | .min1,_,[(_,.lst ts)]=>(eE ts).bind fun ns=>if ns.isEmpty then none else some (.d,.int (Dm ns))
 | .sorted,_,[(_,.lst ts)]=>(eE ts).bind fun ns=>if decide (ns.length < 64) then some (.d,.lst ((xp ns).map T.int)) else none
 | .str,_,[(_,.int i)]=>if decide (i.natAbs < 10000000000000000000) then some (.d,.str (yt i)) else none
 | .intS,_,[(_,.str x)]=>if decide ((Bx x).natAbs < 10000000000000000000)&&(yt (Bx x)==x) then some (.d,.int (Bx x)) else none
 | .join,_,[(_,.str z),(_,.lst ts)]=>(cJ ts).bind fun ss=>if sOk (Str.join z ss)&&decide ((ss.map fun s=>s.cps.size+z.cps.size).sum<=LIM) then some (.d,.str (Str.join z ss)) else none
 | .split,_,[(_,.str z),(_,.str y)]=>if (y==Str.ofString " ")&&decide (z.cps.size+2<=LIM)&&(C1 z).all sOk then some (.d,.lst ((C1 z).map T.str)) else none
 | .mulS,_,[(_,.str x),(_,.int k)]=>if decide (0<=k)&&decide (k<=100)&&decide (x.cps.size<=1000) then some (.d,.str ⟨(a0r k.toNat x.cps.toList).flatten.toArray⟩) else none
 | .listS,_,[(_,.str x)]=>some (.d,.lst (x.cps.toList.map fun c=>T.str ⟨#[c]⟩))
 | .apd,_,[(m,.lst ts),(_,_)]=>if m==.s then none else if decide (ts.length < LIM) then some (.d,.non) else none
 | .count,_,[(_,.lst ts),(_,.bl b)]=>(eW ts).map fun bs=>(.d,.int (bs.count b))
 | .lower,_,[(_,.str x)]=>if x.cps.toList.all (fun c=>decide (c < 128)) then some (.d,.str ⟨x.cps.map DK⟩) else none
 | .inS,_,[(_,.str x),(_,.str y)]=>some (.d,.bl (!(a06 y x 0 y.length 1).isEmpty))
 | .ninS,_,[(_,.str x),(_,.str y)]=>some (.d,.bl (!(!(a06 y x 0 y.length 1).isEmpty)))
 | .inX,_,[(_,a),(_,.tup ts)]=>if ts.all isStr&&l8 a then some (.d,.bl (ts.any fun t=>eqT t a)) else none
 | .ninX,_,[(_,a),(_,.tup ts)]=>if ts.all isStr&&l8 a then some (.d,.bl (!ts.any fun t=>eqT t a)) else none
 | .inL,_,[(_,a),(_,.lst ts)]=>if decide (dp a<=64)&&decide (dps ts<=64) then some (.d,.bl (ts.any fun t=>eqT t a)) else none
 | .slS1,_,[(_,.str x),(_,.int i)]=>if decide (0<=i) then some (.d,.str ⟨(x.cps.toList.drop i.toNat).toArray⟩) else none
 | .slS2,_,[(_,.str x),(_,.int i)]=>if decide (0<=i) then some (.d,.str ⟨(x.cps.toList.take i.toNat).toArray⟩) else none
 | .idxS,_,[(_,.str x),(_,.str y)]=>if decide (y.cps.toList.length=1)&&x.cps.toList.contains (y.cps.toList.headD 0)&&x.cps.toList.all (fun c=>decide (c < 128))&&decide (x.cps.size<=100) then some (.d,.int (x.cps.toList.idxOf (y.cps.toList.headD 0))) else none
 | .strB,_,[(_,.int i)]=>if decide (i.natAbs < 10 ^ 60) then some (.d,.str (yt i)) else none
 | .catT,_,[(_,.tup ts),(_,.tup us)]=>if fits (ts.length+us.length) then some (.s,.tup (ts++us)) else none
 | .dnew,_,[]=>some (.d,.dct [] [])
 | .lenSet,_,[(_,.tup ts)]=>(cJ ts).bind fun ss=>if decide (ss.length < 1000) then some (.d,.int (xa ss).length) else none
 | .countS,_,[(_,.lst ts),(_,.str x)]=>(cJ ts).bind fun ss=>some (.d,.int (ss.count x))
 | .sortedS,_,[(_,.lst ts)]=>(cJ ts).bind fun ss=>if decide (ss.length < 64) then some (.d,.lst ((jm ss).map T.str)) else none
 | .sortedD,_,[(_,.dct ks _)]=>(pH ks).bind fun ss=>if decide (ss.length < 64) then some (.d,.lst ((jm ss).map T.str)) else none
 | .ixD,_,[(.s,.dct ks vs),(_,k)]=>(yx k).bind fun q=>(wG q ks vs).map fun t=>(.s,t)
 | .revL,_,[(.s,.lst ts)]=>some (.o .s,.lst ts.reverse)
 | .repr,_,[(_,t)]=>if decide (dp t<=64)&&rOk t&&fits (szR t) then some (.d,.str (datT t).shown) else none
 | .leS,_,[(_,.str x),(_,.str y)]=>some (.d,.bl (!decide (y.cps.toList < x.cps.toList)))
 | .isB,_,[(_,.bl a),(_,.bl b)]=>some (.d,.bl (a==b))
 | .isnB,_,[(_,.bl a),(_,.bl b)]=>some (.d,.bl (!(a==b)))
 | .lzip,_,[(m,a),(n,b)]=>(elems (m,a)).bind fun ts=>(elems (n,b)).bind fun us=>some ((m.kid.meet n.kid).up.up,.lst (C7 ts us))
 | _,_,_=>none
noncomputable def rd:Env->Nat->Option W
 | [],_=>none
 | o::_,0=>o
 | _::η,i+1=>rd η i
noncomputable def wr:Env->Nat->Option W->Env
 | [],_,_=>[]
 | _::η,0,w=>w::η
 | o::η,i+1,w=>o::wr η i w
noncomputable abbrev put (η:Env)(i:Nat)(w:W):Env:=wr η i (some w)
noncomputable abbrev del (η:Env)(i:Nat):Env:=wr η i none
noncomputable def look:W->Option W
 | (.s,t)=>some (.s,t)
 | (_,t)=>if t.leaf=true then some (.d,t) else none
noncomputable def toS:Option W->Option W
 | some (_,t)=>some (.s,t)
 | none=>none
noncomputable def share:List Nat->Env->Env
 | [],η=>η
 | i::is,η=>share is (wr η i (toS (rd η i)))
noncomputable def lfO:Option W->Option W
 | some (_,t)=>if t.leaf=true then some (.d,t) else none
 | none=>none
noncomputable def fK:Env->Env
 | []=>[]
 | _::η=>none::fK η
noncomputable def j4:List Nat->Env->Env->Env
 | [],_,η=>η
 | i::is,η0,η=>j4 is η0 (wr η i (toS (rd η0 i)))
noncomputable def gg:List Nat->Env->Env->Env
 | [],_,η=>η
 | i::is,η0,η=>gg is η0 (wr η i (lfO (rd η0 i)))
noncomputable def pick (vs ls:List Nat)(η:Env):Env:=gg ls η (j4 vs η (fK η))
noncomputable def after (m:Md)(vs:List Nat)(η:Env):Env:=match m with
 | .d=>η
 | _=>share vs η
noncomputable def aY:List Nat->List W->Env->Option Env
 | [],[],η=>some η
 | i::is,w::ws,η=>aY is ws (put η i w)
 | _,_,_=>none
noncomputable def dm (m:Md):Nat->List T->List (List W)
 | _,[]=>[]
 | i,t::ts=>[(.d,.int i),(m,t)]::dm m (i+1) ts
noncomputable def B6 (m n:Md):List T->List T->List (List W)
 | t::ts,u::us=>[(m,t),(n,u)]::B6 m n ts us
 | _,_=>[]
noncomputable def bI:List T->Option (List (List W))
 | []=>some []
 | .tup [x,y]::ts=>(bI ts).map ([(.s,x),(.s,y)]::·)
 | _::_=>none
noncomputable def qA:List T->List T->List T->List (List W)
 | t::ts,u::us,v::vs=>[(.s,t),(.s,u),(.s,v)]::qA ts us vs
 | _,_,_=>[]
noncomputable def bf:Ik->List W->Option (List (List W))
 | .seq,[(_,.lst ts)]=>some (ts.map fun t=>[(.s,t)])
 | .seq,[(_,.tup ts)]=>some (ts.map fun t=>[(.s,t)])
 | .seq,[(_,.scr ns)]=>some (ns.map fun n=>[(.d,.int n)])
 | .rng,[(_,.int n)]=>if decide (n.natAbs < 4611686018427387904)&&fits n.toNat then some ((a0F n.toNat).map fun (k:Nat)=>[(.d,.int k)]) else none
 | .rng,[(_,.int i),(_,.int j)]=>if decide (i.natAbs < 4611686018427387904)&&decide (j.natAbs < 4611686018427387904)&&fits (j-i).toNat then some ((a0F (j-i).toNat).map fun (k:Nat)=>[(.d,.int (i+k))]) else none
 | .rng,[(_,.int i),(_,.int j),(_,.int c)]=>if decide (i.natAbs < 4611686018427387904)&&decide (j.natAbs < 4611686018427387904)&&decide (c=-1)&&fits (i-j).toNat then some ((a0F (i-j).toNat).map fun (k:Nat)=>[(.d,.int (i-k))]) else none
 | .enm,[(_,.lst ts)]=>some (dm .s 0 ts)
 | .enmT,[(_,.tup ts)]=>some (dm .s 0 ts)
 | .zip,[(m,a),(n,b)]=>(elems (m,a)).bind fun ts=>(elems (n,b)).bind fun us=>some (B6 .s .s ts us)
 | .sq2,[(_,.lst ts)]=>bI ts
 | .zip3,[(_,.lst ts),(_,.lst us),(_,.lst vs)]=>some (qA ts us vs)
 | .chr,[(_,.str x)]=>some (x.cps.toList.map fun c=>[(.d,.str ⟨#[c]⟩)])
 | _,_=>none
noncomputable abbrev Call:=Nat->List W->Res (W×List W)
noncomputable abbrev RE:=Res (W×Env)
noncomputable def lf (m:Md)(t:T):Md:=if t.leaf=true then .d else m
noncomputable def fg:List W->Md
 | []=>.d
 | w::ws=>(lf w.1 w.2).meet (fg ws)
noncomputable def trees:List W->List T
 | []=>[]
 | w::ws=>w.2::trees ws
noncomputable def ah:List Nat->Env->Env
 | [],η=>η
 | i::is,η=>ah is (del η i)
noncomputable def ios:List E->List Nat
 | []=>[]
 | .io i::es=>i::ios es
 | _::es=>ios es
noncomputable def putAll:List Nat->List W->Env->Env
 | i::is,w::ws,η=>putAll is ws (put η i w)
 | _,_,η=>η
noncomputable def iP:W->List W->Option (W×W)
 | (.s,_),_=>none
 | (m,.lst ts),[]=>(ts.getLast?).map fun t=>((m.kid,t),(m,.lst ts.dropLast))
 | (m,.lst (t::ts)),[(_,.int 0)]=>some ((m.kid,t),(m,.lst ts))
 | _,_=>none
noncomputable def f9:W->W->Option W
 | (.s,_),_=>none
 | (m,.lst ts),(n,t)=>if ts.length < LIM then some ((m.kid.meet (lf n t)).up,.lst (ts++[t])) else none
 | _,_=>none
noncomputable def fJ:W->W->Option W
 | (.s,_),_=>none
 | (m,.lst ts),(n,.lst us)=>if ts.length+us.length<=LIM then some ((m.kid.meet n.kid).up,.lst (ts++us)) else none
 | _,_=>none
noncomputable def mP (k:Int ⊕ Str)(t:T):List (Int ⊕ Str)->List T->List (Int ⊕ Str)×List T
 | [],_=>([k],[t])
 | y::ys,v::vs=>if y=k then (y::ys,t::vs) else ((y::(mP k t ys vs).1),(v::(mP k t ys vs).2))
 | y::ys,[]=>(y::ys,[])
noncomputable def Dw:W->W->W->Option W
 | (.s,_),_,_=>none
 | (m,.dct ks vs),(_,k),(_,t)=>(yx k).bind fun q=>if decide (ks.length < LIM)&&flatT t then some (m,.dct (mP q t ks vs).1 (mP q t ks vs).2) else none
 | _,_,_=>none
noncomputable def DB:W->W->W->Option W
 | (.s,_),_,_=>none
 | (m,.dct ks vs),(_,k),(_,t)=>(yx k).bind fun q=>if decide (ks.length < LIM) then some (.o .s,.dct (mP q t ks vs).1 (mP q t ks vs).2) else none
 | _,_,_=>none
noncomputable def F4:W->W->Option W
 | (.s,_),_=>none
 | (m,.lst ts),(_,t)=>if decide (ts.length < LIM)&&leaves ts&&t.leaf then some (m,.lst (t::ts)) else none
 | _,_=>none
noncomputable def FH:W->Option W
 | (.s,_)=>none
 | (m,.lst ts)=>if decide (ts.length < LIM)&&leaves ts then some (m,.lst ts.reverse) else none
 | _=>none
noncomputable def apU (ts:List T)(q:Nat)(t:T):Option T->Option W
 | some (.lst us)=>if decide (us.length < LIM)&&t.leaf then some (.d,.lst (ts.set q (.lst (us++[t])))) else none
 | _=>none
noncomputable def FU:Option W->Option W->Option W->Option W
 | some (.d,.lst ts),some (_,.int j),some (_,t)=>(ixN ts.length j).bind fun q=>apU ts q t ts[q]?
 | _,_,_=>none
noncomputable def BZ:Option W->Option W->Option W->Option W
 | some (.s,_),_,_=>none
 | some (m,.lst ts),some (_,.int j),some (_,t)=>if decide (0<=j)&&decide (j.toNat<=ts.length)&&decide (ts.length < 1000)&&leaves ts&&t.leaf then some (m,.lst (ts.take j.toNat++t::ts.drop j.toNat)) else none
 | _,_,_=>none
noncomputable def Fh (ts:List T)(q:Nat)(cs:List T):Option T->Option W
 | some (.lst us)=>if decide (us.length < LIM)&&leaves cs&&decide (cs.length<=100) then some (.d,.lst (ts.set q (.lst (us++[.tup cs])))) else none
 | _=>none
noncomputable def EF (cs:List T):Option W->Option W->Option W
 | some (.d,.lst ts),some (_,.int j)=>(ixN ts.length j).bind fun q=>Fh ts q cs ts[q]?
 | _,_=>none
noncomputable def D9 (ts:List T)(q:Nat):Option T->Option W
 | some (.lst us)=>if us.isEmpty then none else some (.d,.lst (ts.set q (.lst us.dropLast)))
 | _=>none
noncomputable def BX:Option W->Option W->Option W
 | some (.d,.lst ts),some (_,.int j)=>(ixN ts.length j).bind fun q=>D9 ts q ts[q]?
 | _,_=>none
noncomputable def isL:T->Bool
 | .lst _=>true
 | _=>false
noncomputable def Fb:Option W->Option W
 | some (.d,.lst ts)=>if ts.all isL then some (.d,.lst (ts.map fun _=>.lst [])) else none
 | _=>none
noncomputable def wz:W->W->Option (W×W)
 | (.s,_),_=>none
 | (m,.lst ts),(_,.int j)=>if decide (0<=j)&&decide (j < 1000)&&leaves ts then (ts[j.toNat]?).map fun t=>((.d,t),(m,.lst (ts.eraseIdx j.toNat))) else none
 | _,_=>none
noncomputable def dz:W->W->W->Option W
 | (.s,_),_,_=>none
 | (m,.lst ts),(_,.int j),(n,t)=>(ixN ts.length j).map fun k=>((m.kid.meet (lf n t)).up,.lst (ts.set k t))
 | _,_,_=>none
noncomputable def chkL:Option W->Res Unit
 | some (_,.lst _)=>.ok ()
 | _=>.no
noncomputable def BL:W->Option (List W)
 | (m,.tup ts)=>some (ts.map fun t=>(m.kid,t))
 | _=>none
noncomputable def ret {α:Type}(η:Env)(o:Option α):Res (α×Env):=match o with
 | some a=>.ok (a,η)
 | none=>.no
noncomputable def onB {α:Type}:T->(Env->Res α)->(Env->Res α)->Env->Res α
 | .bl true,f,_,η=>f η
 | .bl false,_,g,η=>g η
 | _,_,_,_=>.no
noncomputable def onT {α:Type}(f g:Env->Res α)(p:W×Env):Res α:=match truth p.1.2 with
 | some true=>f p.2
 | some false=>g p.2
 | none=>.no
noncomputable def okW {α:Type}(a:α)(η:Env):Res (α×Env):=.ok (a,η)
noncomputable def kN (p:List W×Env):RE:=.ok (((fg p.1).up,.tup (trees p.1)),p.2)
noncomputable def qu (h:Bool)(p:List W×Env):RE:=.ok ((if h then (fg p.1).up else .o .s,.lst (trees p.1)),p.2)
noncomputable def kWk (m:Md)(p:W×Env):RE:=ret p.2 (if m.le p.1.1 then some (m,p.1.2) else none)
noncomputable def kOp (o:Op)(h:Bool)(p:List W×Env):RE:=ret p.2 (oSem o h p.1)
noncomputable def m5 (f:Env->RE)(p:W×Env):RE:=onT f (okW p.1) p
noncomputable def kOr (f:Env->RE)(p:W×Env):RE:=onT (okW p.1) f p
noncomputable def nA (p:W×Env):RE:=ret p.2 ((truth p.1.2).map fun b=>(.d,.bl (!b)))
noncomputable def kC3 (q:Op)(y:W)(z:W×Env):RE:=ret z.2 (oSem q false [y,z.1])
noncomputable def then' {α β:Type}(f:Env->Res (α×Env))(k:α×Env->Res β)(η:Env):Res β:=(f η).bind k
noncomputable def kC2 (o q:Op)(fc:Env->RE)(x:W)(y:W×Env):RE:=(ret y.2 (oSem o false [x,y.1])).bind fun k=>onB k.1.2 (then' fc (kC3 q y.1)) (okW (.d,.bl false)) k.2
noncomputable def kC1 (o q:Op)(fb fc:Env->RE)(x:W×Env):RE:=(fb x.2).bind (kC2 o q fc x.1)
noncomputable def kBack (is:List Nat)(η:Env)(r:W×List W):RE:=.ok (r.1,putAll is r.2 η)
noncomputable def kCall (C:Call)(f:Nat)(is:List Nat)(p:List W×Env):RE:=(C f p.1).bind (kBack is p.2)
noncomputable def fq (p:W×Env):Res (Option W×Env):=.ok (some p.1,p.2)
noncomputable def fE (f:Env->RE)(η:Env):Res (Option W×Env):=(f η).bind fq
noncomputable def jb (c f:Env->RE)(η:Env):Res (Option W×Env):=(c η).bind (onT (fE f) (okW none))
noncomputable def aX (tg:List Nat)(f:Env->Res (Option W×Env)):List (List W)->Env->List W->Res (List W×Env)
 | [],η,acc=>.ok (acc,η)
 | ws::r,η,acc=>(ofO (aY tg ws η)).bind fun η1=>(f η1).bind fun p=>aX tg f r (ah tg p.2) (acc++p.1.toList)
noncomputable def okD (w:W):Bool:=w.1==.d || w.2.leaf
noncomputable def gn (h:Bool)(q:List W×Env):RE:=ret q.2 (if h then (if q.1.all okD then some (.d,.lst (trees q.1)) else none) else some (.o .s,.lst (trees q.1)))
noncomputable def dU (h:Bool)(k:Ik)(tg:List Nat)(f:Env->Res (Option W×Env))(p:List W×Env):RE:=(ret (ah tg p.2) (bf k p.1)).bind fun t=>(aX tg f t.1 t.2 []).bind (gn h)
noncomputable def vwT:Option W->Option (List T)
 | some (.s,_)=>none
 | some (_,.lst ts)=>if leaves ts then some ts else none
 | _=>none
noncomputable def kV2 (i:Nat)(w:Option W)(p:W×Env):RE:=.ok (p.1,wr p.2 i w)
noncomputable def kV1 (h:Bool)(i t:Nat)(f:Env->Res (Option W×Env))(η:Env)(ts:List T):RE:=((aX [t] f (ts.map fun u=>[(.s,u)]) (ah [t] (del η i)) []).bind (gn h)).bind (kV2 i (rd η i))
noncomputable def jX (f:Env->Res (List W×Env))(η:Env)(k:List W×Env->RE)(_:Unit):RE:=(f η).bind k
noncomputable def mE (i:Nat)(p:List W×Env):RE:=(ofO ((rd p.2 i).bind fun w=>iP w p.1)).bind fun r=>.ok (r.1,put p.2 i r.2)
noncomputable def ixVT:Option W->Option W->Option W
 | some (.o .s,.lst ts),some (_,.int j)=>(atI ts j).map fun t=>(.s,t)
 | some (.s,.lst ts),some (_,.int j)=>(atI ts j).map fun t=>(.s,t)
 | _,_=>none
noncomputable def kPopN0 (f:Env->RE)(η:Env)(k:W×Env->RE)(_:Unit):RE:=(f η).bind k
noncomputable def pP (i:Nat)(p:W×Env):RE:=(ofO ((rd p.2 i).bind fun w=>wz w p.1)).bind fun r=>.ok (r.1,put p.2 i r.2)
noncomputable def kIxQ (i:Nat)(p:W×Env):RE:=ret p.2 (ixVT (rd p.2 i) (some p.1))
noncomputable def l7 (w:W)(q:List W×Env):Res (List W×Env):=.ok (w::q.1,q.2)
noncomputable def aS (f:Env->Res (List W×Env))(p:W×Env):Res (List W×Env):=(f p.2).bind (l7 p.1)
noncomputable def sj:List Nat->Md->T->Option (W×T)
 | [],m,t=>some ((m,t),.gone)
 | j::p,m,.lst ts=>(ts[j]?).bind fun t=>(sj p m.kid t).map fun r=>(r.1,.lst (ts.set j r.2))
 | j::p,m,.tup ts=>(ts[j]?).bind fun t=>(sj p m.kid t).map fun r=>(r.1,.tup (ts.set j r.2))
 | _::_,_,_=>none
noncomputable def wJ (p:List Nat)(w:W):Option (W×W):=(sj p w.1 w.2).map fun r=>(r.1,(w.1,r.2))
noncomputable def Eh (i:Nat)(η:Env)(r:W×W):RE:=.ok (r.1,put η i r.2)
noncomputable def kL {α:Type}(tab:List (Str×α))(f:α->Env->RE)(p:W×Env):RE:=match p.1.2 with
 | .str x=>match tab.lookup x with
  | some a=>f a p.2
  | none=>.no
 | _=>.no
noncomputable def kCT (C:Call)(fa:Env->Res (List W×Env))(is:List Nat)(j:Nat)(η:Env):RE:=(fa η).bind (kCall C j is)
noncomputable def kIn (neg:Bool)(ks:List Str)(p:W×Env):RE:=match p.1.2 with
 | .str x=>.ok ((.d,.bl (ks.contains x != neg)),p.2)
 | _=>.no
noncomputable def okS (t:T)(η:Env):RE:=.ok ((.s,t),η)
noncomputable def kGet (tab:List (Str×T))(p:W×Env):RE:=match p.1.2 with
 | .str x=>.ok ((.s,(tab.lookup x).getD .non),p.2)
 | _=>.no
noncomputable def kX (vs:List Nat)(η:Env)(p:W×Env):RE:=.ok ((lf p.1.1 p.1.2,p.1.2),after (lf p.1.1 p.1.2) vs η)
noncomputable def kIo (i:Nat)(p:List W×Env):Res (List W×Env):=(ofO (rd p.2 i)).bind fun w=>.ok (w::p.1,del p.2 i)
section
variable (C:Call)
mutual
noncomputable def evE:E->Env->RE
 | .var i,η=>ret η ((rd η i).bind look)
 | .mv i,η=>ret (del η i) (rd η i)
 | .io i,η=>ret (del η i) (rd η i)
 | .cst t,η=>.ok ((.d,t),η)
 | .glb _ t,η=>.ok ((.s,t),η)
 | .tup es,η=>(evL es η).bind kN
 | .lst h es,η=>(evL es η).bind (qu h)
 | .wk m e,η=>(evE e η).bind (kWk m)
 | .op o h es,η=>(evL es η).bind (kOp o h)
 | .and a b,η=>(evE a η).bind (m5 (evE b))
 | .or a b,η=>(evE a η).bind (kOr (evE b))
 | .not a,η=>(evE a η).bind nA
 | .ifx c a b,η=>(evE c η).bind (onT (evE a) (evE b))
 | .chain o q a b c,η=>(evE a η).bind (kC1 o q (evE b) (evE c))
 | .call f es,η=>(evA es η).bind (kCall C f (ios es))
 | .comp h k src tg none elt,η=>(evL src η).bind (dU h k tg (fE (evE elt)))
 | .comp h k src tg (some c) elt,η=>(evL src η).bind (dU h k tg (jb (evE c) (evE elt)))
 | .pop i es,η=>(chkL (rd η i)).bind (jX (evL es) η (mE i))
 | .lenV i,η=>ret η ((rd η i).bind fun w=>oSem .len false [w])
 | .ixV i j,η=>ret η (ixVT (rd η i) (rd η j))
 | .compV h i t c e,η=>(ofO (vwT (rd η i))).bind (kV1 h i t (jb (evE c) (evE e)) η)
 | .popN i e,η=>(chkL (rd η i)).bind (kPopN0 (evE e) η (pP i))
 | .ixQ i e,η=>(chkL (rd η i)).bind (kPopN0 (evE e) η (kIxQ i))
 | .tupA es,η=>(evA es η).bind kN
 | .qx vs ls e,η=>(evE e (pick vs ls η)).bind (kX vs η)
 | .mvP i p,η=>(ofO ((rd η i).bind (wJ p))).bind (Eh i η)
 | .callT tab k es,η=>(evE k η).bind (kL tab (kCT C (evA es) (ios es)))
 | .inT neg ks e,η=>(evE e η).bind (kIn neg ks)
 | .ixT tab e,η=>(evE e η).bind (kL tab okS)
 | .getT tab e,η=>(evE e η).bind (kGet tab)
noncomputable def evL:List E->Env->Res (List W×Env)
 | [],η=>.ok ([],η)
 | e::es,η=>(evE e η).bind (aS (evL es))
noncomputable def evA:List E->Env->Res (List W×Env)
 | [],η=>.ok ([],η)
 | .io i::es,η=>(evA es η).bind (kIo i)
 | e::es,η=>(evE e η).bind (aS (evA es))
end
noncomputable def kT (η:Env)(p:W×Env):Res (Bool×Env):=ret η (truth p.1.2)
noncomputable def kT2 (p:W×Env):Res (Bool×Env):=ret p.2 (truth p.1.2)
noncomputable def evX:X->E->Env->RE
 | .q vs ls,e,η=>(evE C e (pick vs ls η)).bind (kX vs η)
 | .l vs,e,η=>evE C e (share vs η)
noncomputable def evT:X->E->Env->Res (Bool×Env)
 | .q vs ls,e,η=>(evE C e (pick vs ls η)).bind (kT η)
 | .l vs,e,η=>(evE C e (share vs η)).bind kT2
noncomputable def Fl.of {α:Type}(η:Env):Res α->(α->Fl)->Fl
 | .ok a,f=>f a
 | .ex _,_=>.no
 | .no,_=>.no
noncomputable def Fl.seq:Fl->(Env->Fl)->Fl
 | .nx η,f=>f η
 | z,_=>z
noncomputable def Fl.turn:Fl->(Env->Fl)->Fl
 | .nx η,f=>f η
 | .bk η,_=>.nx η
 | z,_=>z
noncomputable def onF:Bool->(Env->Fl)->(Env->Fl)->Env->Fl
 | true,f,_,η=>f η
 | false,_,g,η=>g η
noncomputable def dB (tg:List Nat)(f:Env->Fl):List (List W)->Env->Fl
 | [],η=>.nx η
 | ws::r,η=>Fl.of η (ofO (aY tg ws η)) fun η1=>Fl.turn (f η1) (dB tg f r)
noncomputable def kIf (f g:Env->Fl)(p:Bool×Env):Fl:=onF p.1 f g p.2
noncomputable def wV (f:Env->Fl)(g:Env->Fl)(η:Env):Fl:=Fl.turn (f η) g
noncomputable def zK (c:Env->Res (Bool×Env))(f:Env->Fl):Nat->Env->Fl
 | 0,_=>.no
 | n+1,η=>Fl.of η (c η) (kIf (wV f (zK c f n)) .nx)
noncomputable def DN:Nat:=1000000000000
noncomputable def nxO (η:Env):Option Env->Fl
 | some η=>.nx η
 | none=>.no
noncomputable def uy (i:Nat)(p:W×Env):Fl:=.nx (put p.2 i p.1)
noncomputable def xh (is:List Nat)(p:W×Env):Fl:=nxO p.2 ((BL p.1).bind fun ws=>aY is ws p.2)
noncomputable def oC (i:Nat)(p:W×Env):Fl:=nxO p.2 (((rd p.2 i).bind fun w=>f9 w p.1).map fun w=>put p.2 i w)
noncomputable def qv (i:Nat)(p:W×Env):Fl:=nxO p.2 (((rd p.2 i).bind fun w=>fJ w p.1).map fun w=>put p.2 i w)
noncomputable def sD (i:Nat)(x:W)(q:W×Env):Fl:=nxO q.2 (((rd q.2 i).bind fun w=>dz w q.1 x).map fun w=>put q.2 i w)
noncomputable def pd (i:Nat)(x:W)(q:W×Env):Fl:=nxO q.2 (((rd q.2 i).bind fun w=>Dw w q.1 x).map fun w=>put q.2 i w)
noncomputable def oB (i:Nat)(f:Env->RE)(η:Env)(p:W×Env):Fl:=Fl.of η (f p.2) (pd i p.1)
noncomputable def yS (i:Nat)(x:W)(q:W×Env):Fl:=nxO q.2 (((rd q.2 i).bind fun w=>DB w q.1 x).map fun w=>put q.2 i w)
noncomputable def Dp (i:Nat)(f:Env->RE)(η:Env)(p:W×Env):Fl:=Fl.of η (f p.2) (yS i p.1)
noncomputable def FF (i:Nat)(p:W×Env):Fl:=nxO p.2 (((rd p.2 i).bind fun w=>F4 w p.1).map fun w=>put p.2 i w)
noncomputable def uL (i:Nat)(f:Env->RE)(η:Env)(p:W×Env):Fl:=Fl.of η (f p.2) (sD i p.1)
noncomputable def jF (f:Env->RE)(η:Env)(k:W×Env->Fl)(_:Unit):Fl:=Fl.of η (f η) k
noncomputable def kNx (p:W×Env):Fl:=.nx p.2
noncomputable def kRt (p:W×Env):Fl:=.rt p.1 p.2
noncomputable def lK (tg:List Nat)(f:Env->Fl)(t:List (List W)×Env):Fl:=dB tg f t.1 t.2
noncomputable def vj (vs:List Nat)(k:Ik)(tg:List Nat)(f:Env->Fl)(η:Env)(p:List W×Env):Fl:=Fl.of η (ret (share vs η) (bf k p.1)) (lK tg f)
noncomputable def CL (k:Ik)(tg:List Nat)(f:Env->Fl)(p:List W×Env):Fl:=Fl.of p.2 (ret p.2 (bf k p.1)) (lK tg f)
noncomputable def outC (k:W->Env->Fl)(η:Env):Res (W×List W)->Fl
 | .ok (w,[])=>k w η
 | .ex t=>.ex t η
 | _=>.no
noncomputable def kC (f:Nat)(k:W->Env->Fl)(p:List W×Env):Fl:=outC k p.2 (C f p.1)
noncomputable def qj (i:Nat)(w:W)(η:Env):Fl:=.nx (put η i w)
noncomputable def kExpC (_:W)(η:Env):Fl:=.nx η
noncomputable def kRaise (c:Nat)(fld:Str)(fk:Nat)(p:W×Env):Fl:=if fldOk fk p.1.1 p.1.2=true then .ex (.ins c [fld] [p.1.2]) p.2 else .no
noncomputable def Fl.drop (i:Nat):Fl->Fl
 | .nx η=>.nx (del η i)
 | .rt w η=>.rt w (del η i)
 | _=>.no
noncomputable def Fl.caught (cs:List Nat)(i:Nat)(h:Env->Fl):Fl->Fl
 | .ex (.ins c fs vs) η=>if cs.contains c=true then Fl.drop i (h (put η i (.s,.ins c fs vs))) else .no
 | .ex _ _=>.no
 | z=>z
noncomputable def EC (η:Env)(i:Nat)(f:Env->Fl):Option W->Fl
 | some (_,.str x)=>if (x.cps.toList.all (fun c=>decide (c < 128))&&decide (x.cps.size<=100))=true then (match PySem.intText? x with
  | some n=>.nx (put η i (.d,.int n))
  | none=>f η) else .no
 | _=>.no
mutual
noncomputable def evS:S->Env->Fl
 | .asg x i e,η=>Fl.of η (evX C x e η) (uy i)
 | .asgT x is e,η=>Fl.of η (evX C x e η) (xh is)
 | .setI x i k e,η=>Fl.of η (evX C x e η) (uL i (evX C x k) η)
 | .setK x i k e,η=>Fl.of η (evX C x e η) (oB i (evX C x k) η)
 | .setS x i k e,η=>Fl.of η (evX C x e η) (Dp i (evX C x k) η)
 | .insF x i e,η=>Fl.of η (chkL (rd η i)) (jF (evX C x e) η (FF i))
 | .revS i,η=>nxO η (((rd η i).bind FH).map fun w=>put η i w)
 | .apN i k l,η=>nxO η ((FU (rd η i) (rd η k) (rd η l)).map fun w=>put η i w)
 | .insN i k l,η=>nxO η ((BZ (rd η i) (rd η k) (rd η l)).map fun w=>put η i w)
 | .apC i k cs,η=>nxO η ((EF cs (rd η i) (rd η k)).map fun w=>put η i w)
 | .popI i k,η=>nxO η ((BX (rd η i) (rd η k)).map fun w=>put η i w)
 | .clrA i j,η=>nxO η ((Fb (rd η i)).map fun w=>put (del η j) i w)
 | .exp x e,η=>Fl.of η (evX C x e η) kNx
 | .app x i e,η=>Fl.of η (chkL (rd η i)) (jF (evX C x e) η (oC i))
 | .ext x i e,η=>Fl.of η (chkL (rd η i)) (jF (evX C x e) η (qv i))
 | .ret vs e,η=>Fl.of η (evE C e (share vs η)) kRt
 | .retN,η=>.rt (.d,.non) η
 | .ite x c a b,η=>Fl.of η (evT C x c η) (kIf (evSs a) (evSs b))
 | .forS vs ls k src tg body,η=>Fl.of η (evL C src (pick vs ls η)) (vj vs k tg (evSs body) η)
 | .forU k src tg body,η=>Fl.of η (evL C src η) (CL k tg (evSs body))
 | .whl x c body,η=>zK (evT C x c) (evSs body) DN η
 | .brk,η=>.bk η
 | .pas,η=>.nx η
 | .stop,_=>.no
 | .tri body,η=>evSs body η
 | .tryI i j h,η=>EC η i (evSs h) (rd η j)
 | .asgC vs i f es,η=>Fl.of η (evL C es (share vs η)) (kC C f (qj i))
 | .expC vs f es,η=>Fl.of η (evL C es (share vs η)) (kC C f kExpC)
 | .retC vs f es,η=>Fl.of η (evL C es (share vs η)) (kC C f .rt)
 | .raise c fld fk x e,η=>Fl.of η (evX C x e η) (kRaise c fld fk)
 | .tryC cs body i h,η=>Fl.caught cs i (evSs h) (evSs body η)
noncomputable def evSs:List S->Env->Fl
 | [],η=>.nx η
 | s::r,η=>Fl.seq (evS s η) (evSs r)
end
end
noncomputable def backs:List Nat->Env->Option (List W)
 | [],_=>some []
 | i::is,η=>(rd η i).bind fun w=>(backs is η).bind fun ws=>some (w::ws)
noncomputable def oj (w:W)(b:List W):Res (W×List W):=.ok (w,b)
noncomputable def Fl.out (io:List Nat):Fl->Res (W×List W)
 | .nx η=>(ofO (backs io η)).bind (oj (.d,.non))
 | .rt w η=>(ofO (backs io η)).bind (oj w)
 | .ex t _=>.ex t
 | _=>.no
noncomputable def runF (C:Call)(f:Fn)(ws:List W):Res (W×List W) :=
 if ws.length=f.ps then Fl.out f.io (evSs C f.body (ws.map some++a0r f.ns none)) else .no
noncomputable abbrev FI:=List Fn
noncomputable def Ab (n:Nat):List W->Res (W×List W)
 | [(m,t)]=>if (lf m t==.d&&(decide (dp t<=n)&&decide (dp t<=64)))=true then .ok ((.d,.non),[]) else .no
 | _=>.no
noncomputable def wU:List Nat->List T->List T
 | [],_=>[]
 | n::ns,ts=>.lst (ts.take n)::wU ns (ts.drop n)
noncomputable def ou:List T->Option (List Nat)
 | []=>some []
 | .int (.ofNat n)::ts=>(ou ts).map (n::·)
 | _::_=>none
noncomputable def Eg:List W->Res (W×List W)
 | [(_,.lst ls),(m,.lst ts)]=>(ofO (ou ls)).bind fun ns=>.ok ((m.kid.up.up,.lst (wU ns ts)),[])
 | _=>.no
noncomputable def callR (P:FI)(s r:Nat):Nat->Call
 | 0=>fun _ _=>.no
 | n+1=>fun f ws=>if f=s then Ab n ws else if f=r then Eg ws else (ofO P[f]?).bind fun d=>runF (callR P s r n) d ws
noncomputable abbrev zf:Fn:={ ps:=0,ns:=0,io:=[],body:=[.stop] }
theorem zf_no (C:Call)(ws:List W):runF C zf ws=.no:=by cases ws<;>rfl
theorem yQ (C:Call)(i:Nat)(η:Env):evE C (.var i) η=ret η ((rd η i).bind look):=rfl
theorem AR (C:Call)(i:Nat)(η:Env):evE C (.mv i) η=ret (del η i) (rd η i):=rfl
theorem Aq (C:Call)(i:Nat)(η:Env):evE C (.io i) η=ret (del η i) (rd η i):=rfl
theorem yC (C:Call)(t:T)(η:Env):evE C (.cst t) η=.ok ((.d,t),η):=rfl
theorem zl (C:Call)(es:List E)(η:Env):evE C (.tup es) η=(evL C es η).bind kN:=rfl
theorem zp (C:Call)(h:Bool)(es:List E)(η:Env):evE C (.lst h es) η=(evL C es η).bind (qu h):=rfl
theorem xM (C:Call)(o:Op)(h:Bool)(es:List E)(η:Env):evE C (.op o h es) η=(evL C es η).bind (kOp o h):=rfl
theorem tK (C:Call)(a:E)(b:E)(η:Env):evE C (.and a b) η=(evE C a η).bind (m5 (evE C b)):=rfl
theorem uI (C:Call)(a:E)(b:E)(η:Env):evE C (.or a b) η=(evE C a η).bind (kOr (evE C b)):=rfl
theorem vG (C:Call)(a:E)(η:Env):evE C (.not a) η=(evE C a η).bind nA:=rfl
theorem tX (C:Call)(c:E)(a:E)(b:E)(η:Env):evE C (.ifx c a b) η=(evE C c η).bind (onT (evE C a) (evE C b)):=rfl
theorem uc (C:Call)(o:Op)(q:Op)(a:E)(b:E)(c:E)(η:Env):evE C (.chain o q a b c) η=(evE C a η).bind (kC1 o q (evE C b) (evE C c)):=rfl
theorem uv (C:Call)(f:Nat)(es:List E)(η:Env):evE C (.call f es) η=(evA C es η).bind (kCall C f (ios es)):=rfl
theorem t5 (C:Call)(h:Bool)(k:Ik)(src:List E)(tg:List Nat)(elt:E)(η:Env):evE C (.comp h k src tg none elt) η=(evL C src η).bind (dU h k tg (fE (evE C elt))):=rfl
theorem sW (C:Call)(h:Bool)(k:Ik)(src:List E)(tg:List Nat)(c:E)(elt:E)(η:Env):evE C (.comp h k src tg (some c) elt) η=(evL C src η).bind (dU h k tg (jb (evE C c) (evE C elt))):=rfl
theorem ue (C:Call)(i:Nat)(es:List E)(η:Env):evE C (.pop i es) η=(chkL (rd η i)).bind (jX (evL C es) η (mE i)):=rfl
theorem mN (C:Call)(neg:Bool)(ks:List Str)(e:E)(η:Env):evE C (.inT neg ks e) η=(evE C e η).bind (kIn neg ks):=rfl
theorem kS (C:Call)(tab:List (Str×T))(e:E)(η:Env):evE C (.getT tab e) η=(evE C e η).bind (kGet tab):=rfl
theorem n9 (C:Call)(neg:Bool)(ks:List Str)(e:E)(es:List E)(η:Env):evA C (.inT neg ks e::es) η=(evE C (.inT neg ks e) η).bind (aS (evA C es)):=rfl
theorem kn (C:Call)(tab:List (Str×T))(e:E)(es:List E)(η:Env):evA C (.getT tab e::es) η=(evE C (.getT tab e) η).bind (aS (evA C es)):=rfl
theorem yP {α:Type}(tab:List (Str×α))(f:α->Env->RE)(m:Md)(x:Str)(η:Env):kL tab f ((m,.str x),η)=(match tab.lookup x with | some a=>f a η | none=>.no):=rfl
theorem zY (h:Bool)(m n:Md)(ts:List T)(i:Int):oSem .sl2 h [(m,.lst ts),(n,.int i)]=newL h m.kid (cut ts none (some i)):=rfl
theorem Bn (h:Bool)(m n:Md)(ts:List T)(i:Int):oSem .sl1 h [(m,.lst ts),(n,.int i)]=newL h m.kid (cut ts (some i) none):=rfl
theorem Eb (m:Md)(ts:List T):bf .enm [(m,.lst ts)]=some (dm .s 0 ts):=rfl
noncomputable def lkM:Md->Md
 | .s=>.s | _=>.d
theorem FZ:lkM .s=.s:=rfl
theorem Fq:lkM .d=.d:=rfl
theorem ES (m:Md):lkM (.o m)=.d:=rfl
theorem Ce (m:Md)(i:Int):look (m,.int i)=some (lkM m,.int i):=by cases m<;>rfl
theorem Ct (m:Md)(b:Bool):look (m,.bl b)=some (lkM m,.bl b):=by cases m<;>rfl
theorem BS (m:Md)(x:Str):look (m,.str x)=some (lkM m,.str x):=by cases m<;>rfl
theorem D4 (m:Md):look (m,.non)=some (lkM m,.non):=by cases m<;>rfl
theorem Ae (m n k:Md)(ts us vs:List T):bf .zip3 [(m,.lst ts),(n,.lst us),(k,.lst vs)]=some (qA ts us vs):=rfl
theorem FP (neg:Bool)(ks:List Str)(m:Md)(x:Str)(η:Env):kIn neg ks ((m,.str x),η)=.ok ((.d,.bl (ks.contains x != neg)),η):=rfl
theorem CI (tab:List (Str×T))(m:Md)(x:Str)(η:Env):kGet tab ((m,.str x),η)=.ok ((.s,(tab.lookup x).getD .non),η):=rfl
theorem AX (m:Md)(ts:List T)(j:Int):ixVT (some (.o .s,.lst ts)) (some (m,.int j))=(atI ts j).map fun t=>(.s,t):=rfl
theorem yu (m:Md)(ts:List T)(j:Int):ixVT (some (.s,.lst ts)) (some (m,.int j))=(atI ts j).map fun t=>(.s,t):=rfl
theorem lj (C:Call)(i:Nat)(η:Env):evE C (.lenV i) η=ret η ((rd η i).bind fun w=>oSem .len false [w]):=rfl
theorem la (C:Call)(i:Nat)(es:List E)(η:Env):evA C (.lenV i::es) η=(evE C (.lenV i) η).bind (aS (evA C es)):=rfl
theorem Aj (C:Call)(η:Env):evA C [] η=.ok ([],η):=rfl
theorem Ac (C:Call)(i:Nat)(es:List E)(η:Env):evA C (.io i::es) η=(evA C es η).bind (kIo i):=rfl
theorem nV (C:Call)(i:Nat)(es:List E)(η:Env):evA C (.var i::es) η=(evE C (.var i) η).bind (aS (evA C es)):=rfl
theorem pX (C:Call)(i:Nat)(es:List E)(η:Env):evA C (.mv i::es) η=(evE C (.mv i) η).bind (aS (evA C es)):=rfl
theorem og (C:Call)(t:T)(es:List E)(η:Env):evA C (.cst t::es) η=(evE C (.cst t) η).bind (aS (evA C es)):=rfl
theorem n6 (C:Call)(l:List E)(es:List E)(η:Env):evA C (.tup l::es) η=(evE C (.tup l) η).bind (aS (evA C es)):=rfl
theorem mD (C:Call)(h:Bool)(l:List E)(es:List E)(η:Env):evA C (.lst h l::es) η=(evE C (.lst h l) η).bind (aS (evA C es)):=rfl
theorem qD (C:Call)(o:Op)(h:Bool)(l:List E)(es:List E)(η:Env):evA C (.op o h l::es) η=(evE C (.op o h l) η).bind (aS (evA C es)):=rfl
theorem mS (C:Call)(a b:E)(es:List E)(η:Env):evA C (.and a b::es) η=(evE C (.and a b) η).bind (aS (evA C es)):=rfl
theorem sF (C:Call)(a b:E)(es:List E)(η:Env):evA C (.or a b::es) η=(evE C (.or a b) η).bind (aS (evA C es)):=rfl
theorem mI (C:Call)(a:E)(es:List E)(η:Env):evA C (.not a::es) η=(evE C (.not a) η).bind (aS (evA C es)):=rfl
theorem nh (C:Call)(c a b:E)(es:List E)(η:Env):evA C (.ifx c a b::es) η=(evE C (.ifx c a b) η).bind (aS (evA C es)):=rfl
theorem i4 (C:Call)(o p:Op)(a b c:E)(es:List E)(η:Env):evA C (.chain o p a b c::es) η=(evE C (.chain o p a b c) η).bind (aS (evA C es)):=rfl
theorem j8 (C:Call)(f:Nat)(l:List E)(es:List E)(η:Env):evA C (.call f l::es) η=(evE C (.call f l) η).bind (aS (evA C es)):=rfl
theorem kx (C:Call)(h:Bool)(k:Ik)(src:List E)(tg:List Nat)(cnd:Option E)(elt:E)(es:List E)(η:Env):evA C (.comp h k src tg cnd elt::es) η=(evE C (.comp h k src tg cnd elt) η).bind (aS (evA C es)):=rfl
theorem mC (C:Call)(i:Nat)(l:List E)(es:List E)(η:Env):evA C (.pop i l::es) η=(evE C (.pop i l) η).bind (aS (evA C es)):=rfl
theorem yW {C:Call}{e:E}{es:List E}{η:Env}(he:∀ i,e≠.io i):evA C (e::es) η=(evE C e η).bind (aS (evA C es)):=by
 cases e with
 | io i=>exact absurd rfl (he i)
 | _=>rfl
theorem ug (C:Call)(η:Env):evL C ([]) η=.ok ([],η):=rfl
theorem t4 (C:Call)(e:E)(es:List E)(η:Env):evL C (e::es) η=(evE C e η).bind (aS (evL C es)):=rfl
theorem uF (C:Call)(x:X)(i:Nat)(e:E)(η:Env):evS C (.asg x i e) η=Fl.of η (evX C x e η) (uy i):=rfl
theorem u9 (C:Call)(x:X)(is:List Nat)(e:E)(η:Env):evS C (.asgT x is e) η=Fl.of η (evX C x e η) (xh is):=rfl
theorem kE (C:Call)(x:X)(i:Nat)(k:E)(e:E)(η:Env):evS C (.setK x i k e) η=Fl.of η (evX C x e η) (oB i (evX C x k) η):=rfl
theorem ve (C:Call)(x:X)(i:Nat)(k:E)(e:E)(η:Env):evS C (.setI x i k e) η=Fl.of η (evX C x e η) (uL i (evX C x k) η):=rfl
theorem uP (C:Call)(x:X)(e:E)(η:Env):evS C (.exp x e) η=Fl.of η (evX C x e η) kNx:=rfl
theorem tQ (C:Call)(x:X)(i:Nat)(e:E)(η:Env):evS C (.app x i e) η=Fl.of η (chkL (rd η i)) (jF (evX C x e) η (oC i)):=rfl
theorem v7 (C:Call)(x:X)(i:Nat)(e:E)(η:Env):evS C (.ext x i e) η=Fl.of η (chkL (rd η i)) (jF (evX C x e) η (qv i)):=rfl
theorem v9 (C:Call)(vs:List Nat)(e:E)(η:Env):evS C (.ret vs e) η=Fl.of η (evE C e (share vs η)) kRt:=rfl
theorem tY (C:Call)(η:Env):evS C (.retN) η=.rt (.d,.non) η:=rfl
theorem vN (C:Call)(x:X)(c:E)(a:List S)(b:List S)(η:Env):evS C (.ite x c a b) η=Fl.of η (evT C x c η) (kIf (evSs C a) (evSs C b)):=rfl
theorem uN (C:Call)(vs:List Nat)(ls:List Nat)(k:Ik)(src:List E)(tg:List Nat)(body:List S)(η:Env):evS C (.forS vs ls k src tg body) η=Fl.of η (evL C src (pick vs ls η)) (vj vs k tg (evSs C body) η):=rfl
theorem vQ (C:Call)(x:X)(c:E)(body:List S)(η:Env):evS C (.whl x c body) η=zK (evT C x c) (evSs C body) DN η:=rfl
theorem sY (C:Call)(η:Env):evS C (.brk) η=.bk η:=rfl
theorem uC (C:Call)(η:Env):evS C (.pas) η=.nx η:=rfl
theorem rO (C:Call)(η:Env):evSs C ([]) η=.nx η:=rfl
theorem pQ (C:Call)(s:S)(r:List S)(η:Env):evSs C (s::r) η=Fl.seq (evS C s η) (evSs C r):=rfl
theorem uY (C:Call)(vs:List Nat)(ls:List Nat)(e:E)(η:Env):evX C (.q vs ls) e η=(evE C e (pick vs ls η)).bind (kX vs η):=rfl
theorem uS (C:Call)(vs:List Nat)(e:E)(η:Env):evX C (.l vs) e η=evE C e (share vs η):=rfl
theorem wd (C:Call)(vs:List Nat)(ls:List Nat)(e:E)(η:Env):evT C (.q vs ls) e η=(evE C e (pick vs ls η)).bind (kT η):=rfl
theorem s8 (C:Call)(vs:List Nat)(e:E)(η:Env):evT C (.l vs) e η=(evE C e (share vs η)).bind kT2:=rfl
theorem A8 {α β:Type}(a:α)(f:α->Res β):(Res.ok a).bind f=f a:=rfl
theorem EA {α:Type}(η:Env)(a:α)(f:α->Fl):Fl.of η (.ok a) f=f a:=rfl
theorem zy (η:Env)(f:Env->Fl):Fl.seq (.nx η) f=f η:=rfl
theorem Bg (w:W)(η:Env)(f:Env->Fl):Fl.seq (.rt w η) f=.rt w η:=rfl
theorem zu (η:Env)(f:Env->Fl):Fl.seq (.bk η) f=.bk η:=rfl
theorem uJ (η:Env)(f:Env->Fl):Fl.turn (.nx η) f=f η:=rfl
theorem vf (w:W)(η:Env)(f:Env->Fl):Fl.turn (.rt w η) f=.rt w η:=rfl
theorem vZ (η:Env)(f:Env->Fl):Fl.turn (.bk η) f=.nx η:=rfl
theorem xD {α:Type}(f g:Env->Res α)(η:Env):onB (.bl true) f g η=f η:=rfl
theorem AE {α:Type}(f g:Env->Res α)(η:Env):onB (.bl false) f g η=g η:=rfl
theorem Ad {α:Type}(f g:Env->Res α)(m:Md)(b:Bool)(η:Env):onT f g ((m,.bl b),η)=onB (.bl b) f g η:=by cases b<;>rfl
theorem xV {α:Type}(f g:Env->Res α)(m:Md)(η:Env):onT f g ((m,.bl true),η)=f η:=rfl
theorem yU {α:Type}(f g:Env->Res α)(m:Md)(η:Env):onT f g ((m,.bl false),η)=g η:=rfl
theorem Bb (f g:Env->Fl)(η:Env):onF true f g η=f η:=rfl
theorem Ak (f g:Env->Fl)(η:Env):onF false f g η=g η:=rfl
theorem BQ {α:Type}(a:α):ofO (some a)=.ok a:=rfl
theorem DG {α:Type}(η:Env)(a:α):ret η (some a)=.ok (a,η):=rfl
theorem DF (o:Option W)(η:Env):rd (o::η) 0=o:=rfl
theorem Cq (o:Option W)(η:Env)(i:Nat):rd (o::η) (i+1)=rd η i:=rfl
theorem DM (o w:Option W)(η:Env):wr (o::η) 0 w=w::η:=rfl
theorem CM (o w:Option W)(η:Env)(i:Nat):wr (o::η) (i+1) w=o::wr η i w:=rfl
theorem vo (t:T):look (.s,t)=some (.s,t):=rfl
theorem tm (m:Md)(i:Int):(look (.d,.int i))=some (.d,.int i):=rfl
theorem uE (m:Md)(b:Bool):(look (.d,.bl b))=some (.d,.bl b):=rfl
theorem t7 (x:Str):(look (.d,.str x))=some (.d,.str x):=rfl
theorem tF:(look (.d,.non))=some (.d,.non):=rfl
theorem DL (m:Md)(t:T):toS (some (m,t))=some (.s,t):=rfl
theorem x8:toS none=none:=rfl
theorem rC (η:Env):share [] η=η:=rfl
theorem sC (i:Nat)(is:List Nat)(η:Env):share (i::is) η=share is (wr η i (toS (rd η i))):=rfl
theorem rR:fK []=[]:=rfl
theorem pj (o:Option W)(η:Env):fK (o::η)=none::fK η:=rfl
theorem xU (vs ls:List Nat)(η:Env):pick vs ls η=gg ls η (j4 vs η (fK η)):=rfl
theorem uM (η0 η:Env):j4 [] η0 η=η:=rfl
theorem uo (i:Nat)(is:List Nat)(η0 η:Env):j4 (i::is) η0 η=j4 is η0 (wr η i (toS (rd η0 i))):=rfl
theorem qd (η0 η:Env):gg [] η0 η=η:=rfl
theorem qb (i:Nat)(is:List Nat)(η0 η:Env):gg (i::is) η0 η=gg is η0 (wr η i (lfO (rd η0 i))):=rfl
theorem Dd (m:Md)(i:Int):lfO (some (m,.int i))=some (.d,.int i):=rfl
theorem Bz (m:Md)(b:Bool):lfO (some (m,.bl b))=some (.d,.bl b):=rfl
theorem DO (m:Md)(x:Str):lfO (some (m,.str x))=some (.d,.str x):=rfl
theorem Dq (m:Md):lfO (some (m,.non))=some (.d,.non):=rfl
theorem qL (vs:List Nat)(η:Env):after .d vs η=η:=rfl
theorem sG (vs:List Nat)(η:Env):after .s vs η=share vs η:=rfl
theorem qw (m:Md)(vs:List Nat)(η:Env):after (.o m) vs η=share vs η:=rfl
theorem zx (m:Md)(i:Int):lf m (.int i)=.d:=rfl
theorem yE (m:Md)(b:Bool):lf m (.bl b)=.d:=rfl
theorem Ax (m:Md)(x:Str):lf m (.str x)=.d:=rfl
theorem zE (m:Md):lf m .non=.d:=rfl
theorem Bp (m:Md)(ts:List T):lf m (.lst ts)=m:=rfl
theorem zZ (m:Md)(ts:List T):lf m (.tup ts)=m:=rfl
theorem yz (t:T):lf .d t=.d:=by unfold lf; split<;>rfl
theorem yq (m:Md):Md.s.le m=true:=by cases m<;>rfl
theorem sQ:Md.d.le .d=true:=rfl
theorem vK (m:Md):(Md.o m).le .d=true:=rfl
theorem tP (m n:Md):(Md.o m).le (.o n)=m.le n:=rfl
theorem xJ (h:Bool)(m n:Md)(i j:Int):oSem .add h [(m,.int i),(n,.int j)]=some (.d,.int (i+j)):=rfl
theorem qa (h:Bool)(m n:Md)(ts us:List T):oSem .add h [(m,.lst ts),(n,.lst us)]=if fits (ts.length+us.length) then newL h (m.kid.meet n.kid) (ts++us) else none:=rfl
theorem rE (h:Bool)(m n:Md)(x y:Str):oSem .add h [(m,.str x),(n,.str y)]=if fits (x.cps.size+y.cps.size) then some (.d,.str (x++y)) else none:=rfl
theorem iS (h:Bool)(m n:Md)(ts us:List T):oSem .add h [(m,.tup ts),(n,.tup us)]=if fits (ts.length+us.length)&&!ts.isEmpty then some (.s,.tup (ts++us)) else none:=rfl
theorem CG (h:Bool)(m n:Md)(i j:Int):oSem .sub h [(m,.int i),(n,.int j)]=some (.d,.int (i-j)):=rfl
theorem zG (h:Bool)(m n:Md)(i j:Int):oSem .mul h [(m,.int i),(n,.int j)]=if (decide (i.natAbs < 18446744073709551616)) || (decide (j.natAbs < 18446744073709551616)) then some (.d,.int (i * j)) else none:=rfl
theorem rh (h:Bool)(m n:Md)(i j:Int):oSem .fdiv h [(m,.int i),(n,.int j)]=if decide (0 < j)&&decide (j < 1073741824) then some (.d,.int (i / j)) else none:=rfl
theorem wo (h:Bool)(m n:Md)(i j:Int):oSem .mod h [(m,.int i),(n,.int j)]=if decide (0 < j) then some (.d,.int (i % j)) else none:=rfl
theorem sE (h:Bool)(m n:Md)(i j:Int):oSem .pow h [(m,.int i),(n,.int j)]=if decide (0<=j)&&decide (j<=1000000)&&decide (i.natAbs < 18446744073709551616) then some (.d,.int (i ^ j.toNat)) else none:=rfl
theorem Ea (h:Bool)(m:Md)(i:Int):oSem .neg h [(m,.int i)]=some (.d,.int (-i)):=rfl
theorem Bh (h:Bool)(m n:Md)(i j:Int):oSem .eq h [(m,.int i),(n,.int j)]=some (.d,.bl (i==j)):=rfl
theorem y0 (h:Bool)(m n:Md)(x y:Str):oSem .eq h [(m,.str x),(n,.str y)]=some (.d,.bl (x==y)):=rfl
theorem zS (h:Bool)(m n:Md)(a b:Bool):oSem .eq h [(m,.bl a),(n,.bl b)]=some (.d,.bl (a==b)):=rfl
theorem Bo (h:Bool)(m n:Md)(i j:Int):oSem .ne h [(m,.int i),(n,.int j)]=some (.d,.bl (!(i==j))):=rfl
theorem xA (h:Bool)(m n:Md)(x y:Str):oSem .ne h [(m,.str x),(n,.str y)]=some (.d,.bl (!(x==y))):=rfl
theorem Aa (h:Bool)(m n:Md)(a b:Bool):oSem .ne h [(m,.bl a),(n,.bl b)]=some (.d,.bl (!(a==b))):=rfl
theorem FK (h:Bool)(m n:Md)(i j:Int):oSem .lt h [(m,.int i),(n,.int j)]=some (.d,.bl (decide (i < j))):=rfl
theorem FR (h:Bool)(m n:Md)(i j:Int):oSem .le h [(m,.int i),(n,.int j)]=some (.d,.bl (decide (i<=j))):=rfl
theorem ED (h:Bool)(m n:Md)(i j:Int):oSem .gt h [(m,.int i),(n,.int j)]=some (.d,.bl (decide (j < i))):=rfl
theorem EE (h:Bool)(m n:Md)(i j:Int):oSem .ge h [(m,.int i),(n,.int j)]=some (.d,.bl (decide (j<=i))):=rfl
theorem DC (h:Bool)(m n:Md)(ts:List T)(i:Int):oSem .ix h [(m,.lst ts),(n,.int i)]=(atI ts i).map fun t=>(m.kid,t):=rfl
theorem gR (h:Bool)(m n:Md)(ts:List T)(i:Int):oSem .ix h [(m,.tup ts),(n,.int i)]=(atI ts i).map fun t=>(m.kid,t):=rfl
theorem zh (h:Bool)(m:Md)(ts:List T):oSem .len h [(m,.lst ts)]=some (.d,.int ts.length):=rfl
theorem Al (h:Bool)(m:Md)(ts:List T):oSem .len h [(m,.tup ts)]=some (.d,.int ts.length):=rfl
theorem zC (h:Bool)(m:Md)(ns:List Int):oSem .len h [(m,.scr ns)]=some (.d,.int ns.length):=rfl
theorem DH (h:Bool)(m n:Md)(ns:List Int)(i:Int):oSem .ix h [(m,.scr ns),(n,.int i)]=(atI ns i).map fun n=>(.d,.int n):=rfl
theorem BP (h:Bool)(m n:Md)(ns:List Int)(i:Int):oSem .sl2 h [(m,.scr ns),(n,.int i)]=some (.d,.lst ((cut ns none (some i)).map T.int)):=rfl
theorem Bc (m:Md)(ns:List Int):lf m (.scr ns)=.d:=rfl
theorem CK (m:Md)(ns:List Int):lfO (some (m,.scr ns))=some (.d,.scr ns):=rfl
theorem tM (ns:List Int):look (.d,.scr ns)=some (.d,.scr ns):=rfl
theorem yG (h:Bool)(m:Md)(x:Str):oSem .len h [(m,.str x)]=some (.d,.int x.cps.size):=rfl
theorem El (cs:List Nat)(h:Bool)(m:Md)(c:Nat)(fs:List Str)(vs:List T):oSem (.isX cs) h [(m,.ins c fs vs)]=some (.d,.bl (cs.contains c)):=rfl
theorem AO (cs:List Nat)(h:Bool)(m:Md):oSem (.isX cs) h [(m,.non)]=some (.d,.bl false):=rfl
theorem Am (fld g:Str)(c:Nat)(h:Bool)(m:Md)(ts:List T):oSem (.att fld) h [(m,.ins c [g] [.tup ts])]=if (g==fld)=true then some (.s,.tup ts) else none:=rfl
theorem zI (fld g:Str)(c:Nat)(h:Bool)(m:Md)(x:Str):oSem (.att fld) h [(m,.ins c [g] [.str x])]=if (g==fld)=true then some (.d,.str x) else none:=rfl
theorem xE (tab:List (Str×Int))(d:Option Int)(h:Bool)(m:Md)(x:Str):oSem (.getK tab d) h [(m,.str x)]=some (.d,getI (tab.lookup x) d):=rfl
theorem FL (c:Nat)(fld:Str)(fk:Nat)(h:Bool)(m:Md)(t:T):oSem (.mk c fld fk) h [(m,t)]=if fldOk fk m t=true then some (.s,.ins c [fld] [t]) else none:=rfl
theorem Co (fld g:Str)(c:Nat)(h:Bool)(m:Md)(n:Int):oSem (.att fld) h [(m,.ins c [g] [.int n])]=if (g==fld)=true then some (.d,.int n) else none:=rfl
theorem DE (cs:List String)(h:Bool)(m:Md)(a:T):oSem (.isI cs) h [(m,a)]=if a.isH then none else some (.d,.bl (cs.any fun c=>isOne c a)):=rfl
theorem Cj (c:Nat)(fs:List Str)(vs:List T):T.isG (.ins c fs vs)=false:=rfl
theorem BJ (c:Nat)(fs:List Str)(vs:List T):T.isN (.ins c fs vs)=false:=rfl
theorem Dc:T.isH .non=false:=rfl
theorem E1 (b:Bool):T.isH (.bl b)=false:=rfl
theorem Cy (i:Int):T.isH (.int i)=false:=rfl
theorem Cn (x:Str):T.isH (.str x)=false:=rfl
theorem CF (ts:List T):T.isH (.tup ts)=false:=rfl
theorem CY (ts:List T):T.isH (.lst ts)=false:=rfl
theorem BA (ns:List Int):T.isH (.scr ns)=false:=rfl
theorem Dl:T.isG .non=false:=rfl
theorem Ew (b:Bool):T.isG (.bl b)=false:=rfl
theorem DQ (i:Int):T.isG (.int i)=false:=rfl
theorem Ec (x:Str):T.isG (.str x)=false:=rfl
theorem B8 (ts:List T):T.isG (.tup ts)=false:=rfl
theorem C2 (ts:List T):T.isG (.lst ts)=false:=rfl
theorem B9 (ns:List Int):T.isG (.scr ns)=false:=rfl
theorem CJ:T.isN .non=true:=rfl
theorem ET (b:Bool):T.isN (.bl b)=false:=rfl
theorem BM (i:Int):T.isN (.int i)=false:=rfl
theorem D7 (x:Str):T.isN (.str x)=false:=rfl
theorem CT (ts:List T):T.isN (.tup ts)=false:=rfl
theorem Ek (ts:List T):T.isN (.lst ts)=false:=rfl
theorem uZ (h:Bool)(m:Md)(ts:List T):oSem .list h [(m,.lst ts)]=newL h m.kid ts:=rfl
theorem ub (h:Bool)(m:Md)(ts:List T):oSem .list h [(m,.tup ts)]=newL h m.kid ts:=rfl
theorem Aw (h:Bool)(m n:Md)(a:T)(ts:List T):oSem .isin h [(m,a),(n,.tup ts)]=if flatT a&&ts.all flatT then some (.d,.bl (ts.any fun t=>eqT t a)) else none:=rfl
theorem sZ (h:Bool)(m n:Md)(a:T)(ts:List T):oSem .isin h [(m,a),(n,.lst ts)]=if flatT a&&ts.all flatT then some (.d,.bl (ts.any fun t=>eqT t a)) else none:=rfl
theorem tU (h:Bool)(m:Md)(x:Str):oSem .lower h [(m,.str x)]=if x.cps.toList.all (fun c=>decide (c < 128)) then some (.d,.str ⟨x.cps.map DK⟩) else none:=rfl
theorem CZ (h:Bool)(m n:Md)(x y:Str):oSem .inS h [(m,.str x),(n,.str y)]=some (.d,.bl (!(a06 y x 0 y.length 1).isEmpty)):=rfl
theorem xG (h:Bool)(m n:Md)(x y:Str):oSem .ninS h [(m,.str x),(n,.str y)]=some (.d,.bl (!(!(a06 y x 0 y.length 1).isEmpty))):=rfl
theorem CD (h:Bool)(m n:Md)(a:T)(ts:List T):oSem .inX h [(m,a),(n,.tup ts)]=if ts.all isStr&&l8 a then some (.d,.bl (ts.any fun t=>eqT t a)) else none:=rfl
theorem Ao (h:Bool)(m n:Md)(a:T)(ts:List T):oSem .ninX h [(m,a),(n,.tup ts)]=if ts.all isStr&&l8 a then some (.d,.bl (!ts.any fun t=>eqT t a)) else none:=rfl
theorem CO (h:Bool)(m n:Md)(x y:Str):oSem .leS h [(m,.str x),(n,.str y)]=some (.d,.bl (!decide (y.cps.toList < x.cps.toList))):=rfl
theorem ym (h:Bool)(m n:Md)(ts us:List T):oSem .catT h [(m,.tup ts),(n,.tup us)]=if fits (ts.length+us.length) then some (.s,.tup (ts++us)) else none:=rfl
theorem qV (h:Bool)(m:Md)(ts:List T):oSem .lenSet h [(m,.tup ts)]=(cJ ts).bind fun ss=>if decide (ss.length < 1000) then some (.d,.int (xa ss).length) else none:=rfl
theorem pG (h:Bool)(m n:Md)(ts:List T)(x:Str):oSem .countS h [(m,.lst ts),(n,.str x)]=(cJ ts).bind fun ss=>some (.d,.int (ss.count x)):=rfl
theorem nP (C:Call)(i:Nat)(e:E)(η:Env):evE C (.ixQ i e) η=(chkL (rd η i)).bind (kPopN0 (evE C e) η (kIxQ i)):=rfl
theorem nD (C:Call)(i:Nat)(e:E)(es:List E)(η:Env):evA C (.ixQ i e::es) η=(evE C (.ixQ i e) η).bind (aS (evA C es)):=rfl
theorem AZ (h:Bool):oSem .dnew h []=some (.d,.dct [] []):=rfl
theorem nN (h:Bool)(m:Md)(ts:List T):oSem .sortedS h [(m,.lst ts)]=(cJ ts).bind fun ss=>if decide (ss.length < 64) then some (.d,.lst ((jm ss).map T.str)) else none:=rfl
theorem mM (h:Bool)(m:Md)(ks:List (Int ⊕ Str))(vs:List T):oSem .sortedD h [(m,.dct ks vs)]=(pH ks).bind fun ss=>if decide (ss.length < 64) then some (.d,.lst ((jm ss).map T.str)) else none:=rfl
theorem xF (m:Md)(ts:List T):bf .enmT [(m,.tup ts)]=some (dm .s 0 ts):=rfl
theorem Dh (m:Md)(x:Str):bf .chr [(m,.str x)]=some (x.cps.toList.map fun c=>[(.d,.str ⟨#[c]⟩)]):=rfl
theorem zc (h:Bool)(m:Md)(b:Bool):oSem .int h [(m,.bl b)]=some (.d,.int (b2i b)):=rfl
theorem A6 (h:Bool)(m:Md)(i:Int):oSem .int h [(m,.int i)]=some (.d,.int i):=rfl
theorem kO (C:Call)(vs:List Nat)(i f:Nat)(es:List E)(η:Env):evS C (.asgC vs i f es) η=Fl.of η (evL C es (share vs η)) (kC C f (qj i)):=rfl
theorem kF (C:Call)(vs:List Nat)(f:Nat)(es:List E)(η:Env):evS C (.expC vs f es) η=Fl.of η (evL C es (share vs η)) (kC C f kExpC):=rfl
theorem ki (C:Call)(vs:List Nat)(f:Nat)(es:List E)(η:Env):evS C (.retC vs f es) η=Fl.of η (evL C es (share vs η)) (kC C f .rt):=rfl
theorem ji (C:Call)(c:Nat)(fld:Str)(fk:Nat)(x:X)(e:E)(η:Env):evS C (.raise c fld fk x e) η=Fl.of η (evX C x e η) (kRaise c fld fk):=rfl
theorem j7 (C:Call)(cs:List Nat)(body:List S)(i:Nat)(h:List S)(η:Env):evS C (.tryC cs body i h) η=Fl.caught cs i (evSs C h) (evSs C body η):=rfl
theorem F6 (C:Call)(f:Nat)(k:W->Env->Fl)(ws:List W)(η:Env):kC C f k (ws,η)=outC k η (C f ws):=rfl
theorem ya (k:W->Env->Fl)(η:Env)(w:W):outC k η (.ok (w,[]))=k w η:=rfl
theorem zM (k:W->Env->Fl)(η:Env)(t:T):outC k η (.ex t)=.ex t η:=rfl
theorem s9 (i:Nat)(w:W)(η:Env):qj i w η=.nx (put η i w):=rfl
theorem uB (w:W)(η:Env):kExpC w η=.nx η:=rfl
theorem oK (c:Nat)(fld:Str)(m:Md)(n:Int)(η:Env):kRaise c fld 0 ((m,.int n),η)=if decide (n.natAbs.log2 < 1920)=true then .ex (.ins c [fld] [.int n]) η else .no:=rfl
theorem rN (cs:List Nat)(i:Nat)(h:Env->Fl)(c:Nat)(fs:List Str)(vs:List T)(η:Env):Fl.caught cs i h (.ex (.ins c fs vs) η)=if cs.contains c=true then Fl.drop i (h (put η i (.s,.ins c fs vs))) else .no:=rfl
theorem ni (cs:List Nat)(i:Nat)(h:Env->Fl)(η:Env):Fl.caught cs i h (.nx η)=.nx η:=rfl
theorem mR (cs:List Nat)(i:Nat)(h:Env->Fl)(w:W)(η:Env):Fl.caught cs i h (.rt w η)=.rt w η:=rfl
theorem yF (i:Nat)(η:Env):Fl.drop i (.nx η)=.nx (del η i):=rfl
theorem vn (i:Nat)(w:W)(η:Env):Fl.drop i (.rt w η)=.rt w (del η i):=rfl
theorem tw (h:Bool)(m n:Md)(i j:Int):oSem .fdivN h [(m,.int i),(n,.int j)]=if (j != 0)&&decide (j.natAbs < 18446744073709551616) then some (.d,.int (i.fdiv j)) else none:=rfl
theorem AA (h:Bool)(m n:Md)(i j:Int):oSem .modN h [(m,.int i),(n,.int j)]=if j != 0 then some (.d,.int (i.fmod j)) else none:=rfl
theorem CQ (h:Bool)(m n:Md)(a:T)(ts:List T):oSem .inL h [(m,a),(n,.lst ts)]=if decide (dp a<=64)&&decide (dps ts<=64) then some (.d,.bl (ts.any fun t=>eqT t a)) else none:=rfl
theorem Ci (m:Md)(ts:List T):bf .sq2 [(m,.lst ts)]=bI ts:=rfl
theorem AJ (h:Bool)(m:Md)(ts:List T):oSem .tuple h [(m,.lst ts)]=some (m.kid.up,.tup ts):=rfl
theorem zJ (m:Md)(ts:List T):newL true m ts=if leaves ts then some (.d,.lst ts) else none:=rfl
theorem zD (m:Md)(ts:List T):newL false m ts=some (m.up,.lst ts):=rfl
theorem yb (m:Md)(ts:List T):bf .seq [(m,.lst ts)]=some (ts.map fun t=>[(.s,t)]):=rfl
theorem yI (m:Md)(ts:List T):bf .seq [(m,.tup ts)]=some (ts.map fun t=>[(.s,t)]):=rfl
theorem yM (m n o:Md)(i j c:Int):bf .rng [(m,.int i),(n,.int j),(o,.int c)]=if decide (i.natAbs < 4611686018427387904)&&decide (j.natAbs < 4611686018427387904)&&decide (c=-1)&&fits (i-j).toNat then some ((a0F (i-j).toNat).map fun (k:Nat)=>[(.d,.int (i-k))]) else none:=rfl
theorem oq (m:Md)(n:Int):bf .rng [(m,.int n)]=if decide (n.natAbs < 4611686018427387904)&&fits n.toNat then some ((a0F n.toNat).map fun (k:Nat)=>[(.d,.int k)]) else none:=rfl
theorem rq (η:Env):aY [] [] η=some η:=rfl
theorem r8 (i:Nat)(is:List Nat)(w:W)(ws:List W)(η:Env):aY (i::is) (w::ws) η=aY is ws (put η i w):=rfl
theorem CU {α β:Type}(f:α->β)(a:α):(some a).map f=some (f a):=rfl
theorem pW (b:Bool):truth (.bl b)=some b:=rfl
theorem qy (i:Int):truth (.int i)=some (i != 0):=rfl
theorem vI {α β:Type}(a:α)(f:α->Option β):(some a).bind f=f a:=rfl
theorem vm:Md.s.kid=.s:=rfl
theorem uX:Md.d.kid=.d:=rfl
theorem vB (m:Md):(Md.o m).kid=m:=rfl
theorem yZ:Md.s.up=.o .s:=rfl
theorem Ba:Md.d.up=.d:=rfl
theorem yk (m:Md):(Md.o m).up=.o (.o m):=rfl
theorem qm (m:Md):Md.s.meet m=.s:=by cases m<;>rfl
theorem dC (m:Md):Md.d.meet m=m:=by cases m<;>rfl
theorem nG (m:Md):(Md.o m).meet .s=.s:=rfl
theorem mZ (m:Md):(Md.o m).meet .d=.o m:=rfl
theorem nW (m n:Md):(Md.o m).meet (.o n)=.o (m.meet n):=rfl
theorem xB (n:Md)(ts:List T)(t:T):f9 (.d,.lst ts) (n,t)=if ts.length < LIM then some ((lf n t).up,.lst (ts++[t])) else none:=by show (if _ then some ((Md.d.meet _).up,_) else none)=_; rw [dC]
theorem xS (m n:Md)(ts:List T)(t:T):f9 (.o m,.lst ts) (n,t)=if ts.length < LIM then some ((m.meet (lf n t)).up,.lst (ts++[t])) else none:=rfl
theorem zg (n:Md)(ts us:List T):fJ (.d,.lst ts) (n,.lst us)=if ts.length+us.length<=LIM then some (n.kid.up,.lst (ts++us)) else none:=by show (if _ then some ((Md.d.meet _).up,_) else none)=_; rw [dC]
theorem sL (m n:Md)(ts us:List T):fJ (.o m,.lst ts) (n,.lst us)=if ts.length+us.length<=LIM then some ((m.meet n.kid).up,.lst (ts++us)) else none:=rfl
theorem Be (l n:Md)(ts:List T)(t:T)(j:Int):dz (.d,.lst ts) (l,.int j) (n,t)=(ixN ts.length j).map fun k=>((lf n t).up,.lst (ts.set k t)):=by show ((ixN ts.length j).map fun k=>((Md.d.meet _).up,_))=_; rw [dC]
theorem Az (m l n:Md)(ts:List T)(t:T)(j:Int):dz (.o m,.lst ts) (l,.int j) (n,t)=(ixN ts.length j).map fun k=>((m.meet (lf n t)).up,.lst (ts.set k t)):=rfl
theorem yO (m:Md)(ts:List T):chkL (some (m,.lst ts))=.ok ():=rfl
theorem xY (m:Md)(ts:List T):BL (m,.tup ts)=some (ts.map fun t=>(m.kid,t)):=rfl
theorem C3 (η η':Env):nxO η (some η')=.nx η':=rfl
theorem pT (η:Env):backs [] η=some []:=rfl
theorem pS (i:Nat)(is:List Nat)(η:Env):backs (i::is) η=(rd η i).bind fun w=>(backs is η).bind fun ws=>some (w::ws):=rfl
theorem An (io:List Nat)(η:Env):Fl.out io (.nx η)=(ofO (backs io η)).bind (oj (.d,.non)):=rfl
theorem AL (io:List Nat)(w:W)(η:Env):Fl.out io (.rt w η)=(ofO (backs io η)).bind (oj w):=rfl
theorem x_run (C:Call)(f:Fn)(ws:List W)(h:ws.length=f.ps):runF C f ws=Fl.out f.io (evSs C f.body (ws.map some++a0r f.ns none)):=if_pos h
theorem at0 {α:Type}(a:α)(l:List α):atI (a::l) 0=some a:=by simp [atI,ixN]
theorem atN {α:Type}{xs:List α}{i:Int}{n:Nat}{a:α}(hi:i=n)(h:xs[n]?=some a):atI xs i=some a:=by
 subst hi
 have:=(a0q.mp h).1
 rw [atI,ixN,if_pos (by omega),if_pos (by omega)]
 exact h
theorem at1 {α:Type}(a b:α)(l:List α):atI (a::b::l) 1=some b:=atN (n:=1) rfl rfl
theorem at2 {α:Type}(a b c:α)(l:List α):atI (a::b::c::l) 2=some c:=atN (n:=2) rfl rfl
theorem at3 {α:Type}(a b c d:α)(l:List α):atI (a::b::c::d::l) 3=some d:=atN (n:=3) rfl rfl
theorem at4 {α:Type}(a b c d e:α)(l:List α):atI (a::b::c::d::e::l) 4=some e:=atN (n:=4) rfl rfl
theorem eh {α:Type}{tg:List Nat}{f:Env->Res (Option W×Env)}{η:Env}{g:α->List W}(w:α->W):∀ (ts:List α) (acc:List W),(∀ x∈ts,∃ η1 η2,aY tg (g x) η=some η1/\f η1=.ok (some (w x),η2)/\ah tg η2=η) ->
  aX tg f (ts.map g) η acc=.ok (acc++ts.map w,η)
 | [],acc,_=>by rw [a1q,a1q,a0B]; rfl
 | x::ts,acc,h=>by
  obtain ⟨η1,η2,h1,h2,h3⟩:=h x a0k
  rw [a0A,a0A]
  show (ofO (aY tg (g x) η)).bind _=_
  rw [h1]
  show (f η1).bind _=_
  rw [h2]
  show aX tg f (ts.map g) (ah tg η2) (acc++[w x])=_
  rw [h3,eh w ts _ fun y hy=>h y (a0f _ hy),a0O]
  rfl
theorem gS {α:Type}(m:Md)(g:α->T)(ts:List α):trees (ts.map fun x=>(m,g x))=ts.map g:=by
 induction ts with
 | nil=>rfl
 | cons x r ih=>rw [a0A,a0A,<- ih]; rfl
end M

namespace MR
open L2 L3 M
open PySem (Addr Str sizeLine)
noncomputable abbrev Fp:=Addr->Prop
noncomputable def ScrR (K:a0a)(H:Hp)(a:Addr)(ns:List Int):Prop:=(∃ o,H a=some (.frz o (.lst (ns.map V.int))))\/SqL K (fun _=>none) a (ns.map V.int)
theorem ScrR.sq {K:a0a}{H:Hp}{a:Addr}{ns:List Int}(h:ScrR K H a ns):SqL K H a (ns.map V.int):=by
 rcases h with ⟨o,h⟩ | ((h | ⟨o,h⟩) | h)
 ·exact .inl (.inr ⟨o,h⟩)
 ·cases h
 ·cases h
 ·exact .inr h
theorem ScrR.keep {K:a0a}{H H':Hp}{a:Addr}{ns:List Int}(s:∀ a o u,H a=some (.frz o u)->H' a=some (.frz o u))(h:ScrR K H a ns):ScrR K H' a ns:=h.imp (fun ⟨o,e⟩=>⟨o,s a o _ e⟩) id
noncomputable def LstR (K:a0a)(Z:Fp)(H:Hp)(G:Fp)(a:Addr)(xs:List V):Md->Prop
 | .s=>Z a/\H a=some (.lst xs)
 | _=>G a/\H a=some (.lst xs)
noncomputable def mkD (ks:List (Int ⊕ Str))(xs:List V):List (Key×V):=ks.zip xs
noncomputable def DctR (Z:Fp)(H:Hp)(G:Fp)(a:Addr)(o:HO):Md->Prop
 | .s=>Z a/\H a=some o
 | _=>G a/\H a=some o
noncomputable def dmd:Md->Md
 | .d=>.d
 | _=>.s
mutual
noncomputable def Rep (K:a0a)(Z:Fp)(H:Hp):Md->T->V->Fp->Prop
 | _,.non,v,_=>v=.non
 | _,.bl b,v,_=>v=.bl b
 | _,.int i,v,_=>v=.int i
 | _,.str x,v,_=>v=.str x/\sOk x=true
 | m,.tup ts,v,G=>∃ a xs,v=.ref a/\SqT K H a xs/\xs.length<=LIM/\RepL K Z H m.kid ts xs G
 | m,.lst ts,v,G=>∃ a xs,v=.ref a/\xs.length<=LIM/\LstR K Z H G a xs m/\RepL K Z H m.kid ts xs (fun b=>G b/\b≠a)
 | m,.dct ks vs,v,G=>∃ a xs,v=.ref a/\ks.length<=LIM/\DctR Z H G a (.dK (mkD ks xs)) m/\(ks.Nodup/\∀ k∈ks,kOk k=true)/\vs.length=ks.length/\RepL K Z H (dmd m) vs xs (fun _=>False)
 | m,.ins c fs vs,v,_=>m≠.d/\∃ a dx C xs,v=.ref a/\Z a/\Z dx/\H a=some (XO a C (some dx) false)/\H dx=some (.xd (fs.zip xs))/\fs.length=vs.length/\XNm K c C/\RepL K Z H .s vs xs (fun _=>False)
 | _,.gone,_,_=>True
 | _,.scr ns,v,_=>∃ a,v=.ref a/\ns.length<=LIM/\ScrR K H a ns
noncomputable def RepL (K:a0a)(Z:Fp)(H:Hp):Md->List T->List V->Fp->Prop
 | _,[],xs,_=>xs=[]
 | m,t::ts,xs,G=>∃ x r G1 G2,xs=x::r/\(∀ a,G1 a->G a)/\(∀ a,G2 a->G a)/\(∀ a,G1 a->¬ G2 a)/\Rep K Z H m t x G1/\RepL K Z H m ts r G2
end
section
variable {K:a0a}{Z Z':Fp}{H H':Hp}{m:Md}{t:T}{ts:List T}{v:V}{xs:List V}{G G':Fp}
theorem LstR.mono {a:Addr}(w:∀ a,G a->G' a)(h:LstR K Z H G a xs m):LstR K Z H G' a xs m:=by
 cases m with
 | s=>exact h
 | d=>exact ⟨w _ h.1,h.2⟩
 | o m=>exact ⟨w _ h.1,h.2⟩
theorem DctR.mono {a:Addr}{o:HO}(w:∀ a,G a->G' a)(h:DctR Z H G a o m):DctR Z H G' a o m:=by
 cases m with
 | s=>exact h
 | d=>exact ⟨w _ h.1,h.2⟩
 | o m=>exact ⟨w _ h.1,h.2⟩
mutual
theorem Rep.mono:∀ {m:Md} {t:T} {v:V} {G G':Fp},(∀ a,G a->G' a)->Rep K Z H m t v G->Rep K Z H m t v G'
 | _,.non,_,_,_,_,h=>h
 | _,.bl _,_,_,_,_,h=>h
 | _,.int _,_,_,_,_,h=>h
 | _,.str _,_,_,_,_,h=>h
 | m,.tup ts,v,G,G',w,⟨a,xs,e,q,l,r⟩=>⟨a,xs,e,q,l,RepL.mono w r⟩
 | m,.lst ts,v,G,G',w,⟨a,xs,e,l,q,r⟩=>⟨a,xs,e,l,q.mono w,RepL.mono (fun b hb=>⟨w b hb.1,hb.2⟩) r⟩
 | m,.dct ks vs,v,G,G',w,⟨a,xs,e,l,q,n,hl,r⟩=>⟨a,xs,e,l,q.mono w,n,hl,r⟩
 | _,.ins _ _ _,_,_,_,_,h=>h
 | _,.gone,_,_,_,_,h=>h
 | _,.scr _,_,_,_,_,h=>h
theorem RepL.mono:∀ {m:Md} {ts:List T} {xs:List V} {G G':Fp},(∀ a,G a->G' a)->RepL K Z H m ts xs G->RepL K Z H m ts xs G'
 | _,[],_,_,_,_,h=>h
 | m,t::ts,xs,G,G',w,⟨x,r,G1,G2,e,h1,h2,hd,p,q⟩=>⟨x,r,G1,G2,e,fun a ha=>w a (h1 a ha),fun a ha=>w a (h2 a ha),hd,p,q⟩
end
noncomputable def Stay (Z:Fp)(H H':Hp):Prop:=(∀ a o,Z a->H a=some o->H' a=some o)/\(∀ a xs,Rd H a (.tup xs)->Rd H' a (.tup xs))/\∀ a o u,H a=some (.frz o u)->H' a=some (.frz o u)
theorem Stay.sqt (s:Stay Z H H'){a:Addr}(h:SqT K H a xs):SqT K H' a xs:=by
 rcases h with h | h
 ·exact .inl (s.2.1 a xs h)
 ·exact .inr h
theorem LstR.keep {a:Addr}(s:Stay Z H H')(z:∀ a,Z a->Z' a)(g:∀ a o,G a->H a=some o->H' a=some o)(h:LstR K Z H G a xs m):LstR K Z' H' G a xs m:=by
 cases m with
 | s=>exact ⟨z _ h.1,s.1 _ _ h.1 h.2⟩
 | d=>exact ⟨h.1,g _ _ h.1 h.2⟩
 | o m=>exact ⟨h.1,g _ _ h.1 h.2⟩
theorem DctR.keep {a:Addr}{o:HO}(s:Stay Z H H')(z:∀ a,Z a->Z' a)(g:∀ a o,G a->H a=some o->H' a=some o)(h:DctR Z H G a o m):DctR Z' H' G a o m:=by
 cases m with
 | s=>exact ⟨z _ h.1,s.1 _ _ h.1 h.2⟩
 | d=>exact ⟨h.1,g _ _ h.1 h.2⟩
 | o m=>exact ⟨h.1,g _ _ h.1 h.2⟩
mutual
theorem Rep.keep (s:Stay Z H H')(z:∀ a,Z a->Z' a):∀ {m:Md} {t:T} {v:V} {G:Fp},(∀ a o,G a->H a=some o->H' a=some o)->Rep K Z H m t v G->Rep K Z' H' m t v G
 | _,.non,_,_,_,h=>h
 | _,.bl _,_,_,_,h=>h
 | _,.int _,_,_,_,h=>h
 | _,.str _,_,_,_,h=>h
 | m,.tup ts,v,G,g,⟨a,xs,e,q,l,r⟩=>⟨a,xs,e,s.sqt q,l,RepL.keep s z g r⟩
 | m,.lst ts,v,G,g,⟨a,xs,e,l,q,r⟩=>⟨a,xs,e,l,q.keep s z g,RepL.keep s z (fun b o hb=>g b o hb.1) r⟩
 | m,.dct ks vs,v,G,g,⟨a,xs,e,l,q,n,hl,r⟩=>⟨a,xs,e,l,q.keep s z g,n,hl,RepL.keep s z (fun _ _ hb=>hb.elim) r⟩
 | _,.ins _ _ _,_,_,_,⟨ne,a,dx,C,xs,e,z1,z2,h1,h2,l,n,r⟩=>⟨ne,a,dx,C,xs,e,z _ z1,z _ z2,s.1 _ _ z1 h1,s.1 _ _ z2 h2,l,n,RepL.keep s z (fun _ _ hb=>hb.elim) r⟩
 | _,.gone,_,_,_,h=>h
 | _,.scr _,_,_,_,⟨a,e,l,q⟩=>⟨a,e,l,q.keep s.2.2⟩
theorem RepL.keep (s:Stay Z H H')(z:∀ a,Z a->Z' a):∀ {m:Md} {ts:List T} {xs:List V} {G:Fp},(∀ a o,G a->H a=some o->H' a=some o)->RepL K Z H m ts xs G->RepL K Z' H' m ts xs G
 | _,[],_,_,_,h=>h
 | m,t::ts,xs,G,g,⟨x,r,G1,G2,e,h1,h2,hd,p,q⟩=>⟨x,r,G1,G2,e,h1,h2,hd,Rep.keep s z (fun a o ha=>g a o (h1 a ha)) p,RepL.keep s z (fun a o ha=>g a o (h2 a ha)) q⟩
end
theorem gW (Z:Fp)(H:Hp):Stay Z H H:=⟨fun _ _ _ h=>h,fun _ _ h=>h,fun _ _ _ h=>h⟩
theorem Rep.zmono (z:∀ a,Z a->Z' a)(h:Rep K Z H m t v G):Rep K Z' H m t v G:=h.keep (gW Z H) z fun _ _ _ q=>q
theorem RepL.zmono (z:∀ a,Z a->Z' a)(h:RepL K Z H m ts xs G):RepL K Z' H m ts xs G:=h.keep (gW Z H) z fun _ _ _ q=>q
theorem RepL.length:∀ {ts:List T} {xs:List V} {G:Fp},RepL K Z H m ts xs G->xs.length=ts.length
 | [],_,_,h=>by rw [show _=[] from h]; rfl
 | _::_,_,_,⟨x,r,G1,G2,e,_,_,_,_,q⟩=>by rw [e,a0g,a0g,RepL.length q]
theorem RepL.get:∀ {ts:List T} {xs:List V} {G:Fp} {i:Nat} {t:T},RepL K Z H m ts xs G->ts[i]?=some t->∃ x,xs[i]?=some x/\Rep K Z H m t x G
 | [],_,_,_,_,_,e=>by simp at e
 | _::_,_,_,0,_,⟨x,r,G1,G2,e,h1,_,_,p,_⟩,e2=>by
  rw [a1R] at e2; cases e2
  exact ⟨x,by rw [e]; rfl,p.mono h1⟩
 | _::_,_,_,i+1,_,⟨x,r,G1,G2,e,_,h2,_,_,q⟩,e2=>by
  rw [a0w] at e2
  obtain ⟨y,hy,p⟩:=RepL.get q e2
  exact ⟨y,by rw [e,a0w]; exact hy,p.mono h2⟩
theorem RepL.append:∀ {ts us:List T} {xs ys:List V} {G1 G2 G:Fp},(∀ a,G1 a->G a)->(∀ a,G2 a->G a)->(∀ a,G1 a->¬ G2 a)->RepL K Z H m ts xs G1->RepL K Z H m us ys G2->RepL K Z H m (ts++us) (xs++ys) G
 | [],us,xs,ys,G1,G2,G,w1,w2,d,h,k=>by rw [show xs=[] from h]; exact k.mono w2
 | t::ts,us,xs,ys,G1,G2,G,w1,w2,d,⟨x,r,A,B,e,h1,h2,hd,p,q⟩,k=>by
  rw [e]
  refine ⟨x,r++ys,A,fun a=>B a\/G2 a,rfl,fun a ha=>w1 a (h1 a ha),fun a ha=>ha.elim (fun z=>w1 a (h2 a z)) (w2 a),fun a ha hb=>hb.elim (hd a ha) (d a (h1 a ha)),p,?_⟩
  exact RepL.append (fun a z=>.inl z) (fun a z=>.inr z) (fun a ha=>d a (h2 a ha)) q k
theorem RepL.one {x:V}(p:Rep K Z H m t x G):RepL K Z H m [t] [x] G:=⟨x,[],G,fun _=>False,rfl,fun _ h=>h,fun _ h=>h.elim,fun _ _ h=>h,p,rfl⟩
theorem RepL.take:∀ {ts:List T} {xs:List V} {G:Fp} (n:Nat),RepL K Z H m ts xs G->RepL K Z H m (ts.take n) (xs.take n) G
 | [],_,_,n,h=>by rw [show _=[] from h,a20,a20]; rfl
 | _::_,_,_,0,h=>rfl
 | _::_,_,_,n+1,⟨x,r,A,B,e,h1,h2,hd,p,q⟩=>by rw [e]; exact ⟨x,r.take n,A,B,rfl,h1,h2,hd,p,RepL.take n q⟩
theorem RepL.drop:∀ {ts:List T} {xs:List V} {G:Fp} (n:Nat),RepL K Z H m ts xs G->RepL K Z H m (ts.drop n) (xs.drop n) G
 | [],_,_,n,h=>by rw [show _=[] from h,a3z,a3z]; rfl
 | _::_,_,_,0,h=>h
 | _::_,_,_,n+1,⟨x,r,A,B,e,h1,h2,hd,p,q⟩=>by rw [e]; exact (RepL.drop n q).mono h2
theorem Rep.leaf {m':Md}(hs:∀ a o u,H a=some (.frz o u)->H' a=some (.frz o u))(hl:t.leaf=true)(h:Rep K Z H m t v G):Rep K Z' H' m' t v G':=by
 cases t with
 | non=>exact h
 | bl _=>exact h
 | int _=>exact h
 | str _=>exact h
 | scr _=>obtain ⟨a,e,l,q⟩:=h; exact ⟨a,e,l,q.keep hs⟩
 | _=>cases hl
theorem RepL.leaves {m':Md}(hs:∀ a o u,H a=some (.frz o u)->H' a=some (.frz o u)):∀ {ts:List T} {xs:List V} {G G':Fp},leaves ts=true->RepL K Z H m ts xs G->RepL K Z' H' m' ts xs G'
 | [],_,_,_,_,h=>h
 | t::ts,_,_,G',hl,⟨x,r,A,B,e,h1,h2,hd,p,q⟩=>by
  have h':(t.leaf&&ts.all T.leaf)=true:=hl
  rw [a0d] at h'
  exact ⟨x,r,fun _=>False,fun _=>False,e,fun _ z=>z.elim,fun _ z=>z.elim,fun _ z=>z.elim,p.leaf hs h'.1,RepL.leaves hs h'.2 q⟩
noncomputable def no:Fp:=fun _=>False
mutual
theorem Rep.sh:∀ {m:Md} {t:T} {v:V} {G:Fp},Rep K Z H m t v G->Rep K (fun a=>Z a\/G a) H .s t v no
 | _,.non,_,_,h=>h
 | _,.bl _,_,_,h=>h
 | _,.int _,_,_,h=>h
 | _,.str _,_,_,h=>h
 | m,.tup ts,v,G,⟨a,xs,e,q,l,r⟩=>⟨a,xs,e,q,l,RepL.sh r⟩
 | m,.lst ts,v,G,⟨a,xs,e,l,q,r⟩=>⟨a,xs,e,l,by
   cases m with
   | s=>exact ⟨.inl q.1,q.2⟩
   | d=>exact ⟨.inr q.1,q.2⟩
   | o m=>exact ⟨.inr q.1,q.2⟩,(RepL.zmono (fun b hb=>hb.elim .inl fun z=>.inr z.1) (RepL.sh r)).mono fun _ z=>z.elim⟩
 | m,.dct ks vs,v,G,⟨a,xs,e,l,q,n,hl,r⟩=>⟨a,xs,e,l,by
   cases m with
   | s=>exact ⟨.inl q.1,q.2⟩
   | d=>exact ⟨.inr q.1,q.2⟩
   | o m=>exact ⟨.inr q.1,q.2⟩,n,hl,RepL.zmono (fun b hb=>hb.elim .inl fun z=>z.elim) (RepL.sh r)⟩
 | _,.ins _ _ _,_,_,⟨ne,a,dx,C,xs,e,z1,z2,h1,h2,l,n,r⟩=>⟨(fun z=>by cases z),a,dx,C,xs,e,.inl z1,.inl z2,h1,h2,l,n,RepL.zmono (fun b hb=>hb.elim .inl fun z=>z.elim) (RepL.sh r)⟩
 | _,.gone,_,_,h=>h
 | _,.scr _,_,_,h=>h
theorem RepL.sh:∀ {m:Md} {ts:List T} {xs:List V} {G:Fp},RepL K Z H m ts xs G->RepL K (fun a=>Z a\/G a) H .s ts xs no
 | _,[],_,_,h=>h
 | m,t::ts,xs,G,⟨x,r,G1,G2,e,h1,h2,hd,p,q⟩=>⟨x,r,no,no,e,fun _ z=>z,fun _ z=>z,fun _ z _=>z,Rep.zmono (fun b hb=>hb.imp id (h1 b)) (Rep.sh p),RepL.zmono (fun b hb=>hb.imp id (h2 b)) (RepL.sh q)⟩
end
theorem Eo:∀ a:Md,a.le .d=true
 | .s=>rfl | .d=>rfl | .o _=>rfl
theorem iG:∀ a:Md,a.le a=true
 | .s=>rfl | .d=>rfl | .o a=>iG a
theorem jM:∀ {a b c:Md},a.le b=true->b.le c=true->a.le c=true
 | .s,_,.s,_,_=>rfl
 | .s,_,.d,_,_=>rfl
 | .s,_,.o _,_,_=>rfl
 | .o a,.o b,.o c,h,k=>jM (a:=a) (b:=b) (c:=c) h k
 | .o a,.o b,.d,h,k=>rfl
 | .o a,.d,.d,h,k=>rfl
 | .d,.d,.d,_,_=>rfl
 | .d,.s,_,h,_=>by cases h
 | .d,.o _,_,h,_=>by cases h
 | .o _,.s,_,h,_=>by cases h
 | .o _,.o _,.s,_,k=>by cases k
 | .o _,.d,.s,_,k=>by cases k
 | .o _,.d,.o _,_,k=>by cases k
 | .d,.d,.s,_,k=>by cases k
 | .d,.d,.o _,_,k=>by cases k
theorem cF:∀ a b:Md,(a.meet b).le a=true/\(a.meet b).le b=true
 | .s,.s=>⟨rfl,rfl⟩
 | .s,.d=>⟨rfl,rfl⟩
 | .s,.o _=>⟨rfl,rfl⟩
 | .d,.s=>⟨rfl,rfl⟩
 | .d,.d=>⟨rfl,rfl⟩
 | .d,.o b=>⟨rfl,iG b⟩
 | .o _,.s=>⟨rfl,rfl⟩
 | .o a,.d=>⟨iG a,rfl⟩
 | .o a,.o b=>cF a b
theorem oA:∀ {a b:Md},a.le b=true->a.kid.le b.kid=true
 | .s,.s,_=>rfl
 | .s,.d,_=>rfl
 | .s,.o _,_=>by first | rfl | exact (by cases ‹Md›<;>rfl)
 | .o a,.o b,h=>h
 | .o a,.d,_=>Eo a
 | .d,.d,_=>rfl
 | .d,.s,h=>by cases h
 | .d,.o _,h=>by cases h
 | .o _,.s,h=>by cases h
theorem dw:∀ a:Md,a.up.kid=a
 | .s=>rfl | .d=>rfl | .o _=>rfl
theorem b9 (a:Md):a.up≠.s:=by cases a<;>intro h<;>cases h
theorem LstR.own {a:Addr}(hm:m≠.s):LstR K Z H G a xs m ↔ G a/\H a=some (.lst xs):=by
 cases m with
 | s=>exact absurd rfl hm
 | d=>exact Iff.rfl
 | o m=>exact Iff.rfl
noncomputable abbrev cH (Z G G':Fp):Fp:=fun a=>Z a\/(G a/\¬ G' a)
mutual
theorem Rep.weak:∀ {m m':Md} {t:T} {v:V} {G:Fp},m'.le m=true->Rep K Z H m t v G->∃ G',(∀ a,G' a->G a)/\Rep K (cH Z G G') H m' t v G'
 | m,m',.non,_,G,_,h=>⟨G,fun _ z=>z,h⟩
 | m,m',.bl _,_,G,_,h=>⟨G,fun _ z=>z,h⟩
 | m,m',.int _,_,G,_,h=>⟨G,fun _ z=>z,h⟩
 | m,m',.str _,_,G,_,h=>⟨G,fun _ z=>z,h⟩
 | m,m',.scr _,_,G,_,h=>⟨G,fun _ z=>z,h⟩
 | m,m',.tup ts,v,G,hm,⟨a,xs,e,q,l,r⟩=>by
  obtain ⟨G',h1,h2⟩:=RepL.weak (oA hm) r
  exact ⟨G',h1,a,xs,e,q,l,h2⟩
 | m,m',.lst ts,v,G,hm,h=>by
  cases m' with
  | s=>exact ⟨no,fun _ z=>z.elim,(Rep.sh h).zmono fun a ha=>ha.imp id fun z=>⟨z,fun q=>q⟩⟩
  | d =>
   cases m with
   | s=>cases hm
   | o _=>cases hm
   | d=>exact ⟨G,fun _ z=>z,h.zmono fun _ z=>.inl z⟩
  | o k =>
   have hne:m≠.s:=by rintro rfl; cases hm
   obtain ⟨a,xs,e,l,q,r⟩:=h
   rw [LstR.own hne] at q
   obtain ⟨G',h1,h2⟩:=RepL.weak (oA hm) r
   refine ⟨fun b=>G' b\/b=a,fun b hb=>hb.elim (fun z=>(h1 b z).1) (fun z=>z ▸ q.1),a,xs,e,l,⟨.inr rfl,q.2⟩,?_⟩
   refine (h2.zmono fun b hb=>?_).mono fun b hb=>⟨.inl hb,(h1 b hb).2⟩
   rcases hb with z | ⟨⟨z1,z2⟩,z3⟩
   ·exact .inl z
   ·exact .inr ⟨z1,fun q=>q.elim z3 z2⟩
 | m,m',.dct ks vs,v,G,hm,h=>by
  cases m' with
  | s=>exact ⟨no,fun _ z=>z.elim,(Rep.sh h).zmono fun a ha=>ha.imp id fun z=>⟨z,fun q=>q⟩⟩
  | d =>
   cases m with
   | s=>cases hm
   | o _=>cases hm
   | d=>exact ⟨G,fun _ z=>z,h.zmono fun _ z=>.inl z⟩
  | o k =>
   obtain ⟨a,xs,e,l,q,n,hl,r⟩:=h
   cases m with
   | s=>cases hm
   | d=>exact ⟨G,fun _ z=>z,a,xs,e,l,q,n,hl,RepL.zmono (fun b hb=>hb.elim .inl fun z=>z.elim) (RepL.sh r)⟩
   | o k'=>exact ⟨G,fun _ z=>z,a,xs,e,l,q,n,hl,RepL.zmono (fun b hb=>.inl hb) r⟩
 | m,m',.ins _ _ _,v,G,hm,⟨ne,a,dx,C,xs,e,z1,z2,h1,h2,l,n,r⟩=>⟨G,fun _ z=>z,(fun z=>ne (by subst z; cases m<;>first | rfl | cases hm)),a,dx,C,xs,e,.inl z1,.inl z2,h1,h2,l,n,RepL.zmono (fun b hb=>.inl hb) r⟩
 | m,m',.gone,_,G,_,h=>⟨G,fun _ z=>z,h⟩
theorem RepL.weak:∀ {m m':Md} {ts:List T} {xs:List V} {G:Fp},m'.le m=true->RepL K Z H m ts xs G->∃ G',(∀ a,G' a->G a)/\RepL K (cH Z G G') H m' ts xs G'
 | m,m',[],_,G,_,h=>⟨G,fun _ z=>z,h⟩
 | m,m',t::ts,xs,G,hm,⟨x,r,G1,G2,e,h1,h2,hd,p,q⟩=>by
  obtain ⟨A,a1,a2⟩:=Rep.weak hm p
  obtain ⟨B,b1,b2⟩:=RepL.weak hm q
  refine ⟨fun b=>A b\/B b,fun b hb=>hb.elim (fun z=>h1 b (a1 b z)) (fun z=>h2 b (b1 b z)),x,r,A,B,e,fun _ z=>.inl z,fun _ z=>.inr z,fun b za zb=>hd b (a1 b za) (b1 b zb),?_,?_⟩
  ·refine a2.zmono fun b hb=>hb.imp id fun z=>⟨h1 b z.1,fun q=>q.elim z.2 fun w=>hd b z.1 (b1 b w)⟩
  ·refine b2.zmono fun b hb=>hb.imp id fun z=>⟨h2 b z.1,fun q=>q.elim (fun w=>hd b (a1 b w) z.1) z.2⟩
end
noncomputable def RepW (K:a0a)(Z:Fp)(H:Hp):List W->List V->Fp->Prop
 | [],xs,_=>xs=[]
 | w::ws,xs,G=>∃ x r G1 G2,xs=x::r/\(∀ a,G1 a->G a)/\(∀ a,G2 a->G a)/\(∀ a,G1 a->¬ G2 a)/\Rep K Z H w.1 w.2 x G1/\RepW K Z H ws r G2
theorem RepW.length:∀ {ws:List W} {xs:List V} {G:Fp},RepW K Z H ws xs G->xs.length=ws.length
 | [],_,_,h=>by rw [show _=[] from h]; rfl
 | _::_,_,_,⟨x,r,G1,G2,e,_,_,_,_,q⟩=>by rw [e,a0g,a0g,RepW.length q]
theorem RepW.mono:∀ {ws:List W} {xs:List V} {G G':Fp},(∀ a,G a->G' a)->RepW K Z H ws xs G->RepW K Z H ws xs G'
 | [],_,_,_,_,h=>h
 | _::_,_,_,_,w,⟨x,r,G1,G2,e,h1,h2,hd,p,q⟩=>⟨x,r,G1,G2,e,fun a ha=>w a (h1 a ha),fun a ha=>w a (h2 a ha),hd,p,q⟩
theorem RepW.keep (s:Stay Z H H')(z:∀ a,Z a->Z' a):∀ {ws:List W} {xs:List V} {G:Fp},(∀ a o,G a->H a=some o->H' a=some o)->RepW K Z H ws xs G->RepW K Z' H' ws xs G
 | [],_,_,_,h=>h
 | _::_,_,_,g,⟨x,r,G1,G2,e,h1,h2,hd,p,q⟩=>⟨x,r,G1,G2,e,h1,h2,hd,p.keep s z fun a o ha=>g a o (h1 a ha),RepW.keep s z (fun a o ha=>g a o (h2 a ha)) q⟩
theorem RepW.append:∀ {ws us:List W} {xs ys:List V} {G1 G2 G:Fp},(∀ a,G1 a->G a)->(∀ a,G2 a->G a)->(∀ a,G1 a->¬ G2 a)->RepW K Z H ws xs G1->RepW K Z H us ys G2->RepW K Z H (ws++us) (xs++ys) G
 | [],us,xs,ys,G1,G2,G,w1,w2,d,h,k=>by rw [show xs=[] from h]; exact k.mono w2
 | t::ts,us,xs,ys,G1,G2,G,w1,w2,d,⟨x,r,A,B,e,h1,h2,hd,p,q⟩,k=>by
  rw [e]
  refine ⟨x,r++ys,A,fun a=>B a\/G2 a,rfl,fun a ha=>w1 a (h1 a ha),fun a ha=>ha.elim (fun z=>w1 a (h2 a z)) (w2 a),fun a ha hb=>hb.elim (hd a ha) (d a (h1 a ha)),p,?_⟩
  exact RepW.append (fun a z=>.inl z) (fun a z=>.inr z) (fun a ha=>d a (h2 a ha)) q k
theorem RepW.one {w:W}{x:V}(p:Rep K Z H w.1 w.2 x G):RepW K Z H [w] [x] G:=⟨x,[],G,no,rfl,fun _ h=>h,fun _ h=>h.elim,fun _ _ h=>h,p,rfl⟩
theorem fY:∀ {ws:List W} {w:W},w∈ws->(fg ws).le (lf w.1 w.2)=true
 | u::ws,w,h=>by
  rcases a0m.mp h with z | z
  ·subst z; exact (cF _ _).1
  ·exact jM (cF _ _).2 (fY z)
theorem Rep.lf (h:Rep K Z H m t v G):Rep K Z H (M.lf m t) t v G:=by
 unfold M.lf
 split
 ·rename_i hl; exact h.leaf (fun _ _ _ q=>q) hl
 ·exact h
theorem RepW.to {N:Md}:∀ {ws:List W} {xs:List V} {G:Fp},(∀ w∈ws,N.le (M.lf w.1 w.2)=true)->RepW K Z H ws xs G->∃ G',(∀ a,G' a->G a)/\RepL K (cH Z G G') H N (trees ws) xs G'
 | [],_,G,_,h=>⟨G,fun _ z=>z,h⟩
 | w::ws,xs,G,hm,⟨x,r,G1,G2,e,h1,h2,hd,p,q⟩=>by
  obtain ⟨A,a1,a2⟩:=Rep.weak (hm w a0k) p.lf
  obtain ⟨B,b1,b2⟩:=RepW.to (fun u hu=>hm u (a0f _ hu)) q
  refine ⟨fun b=>A b\/B b,fun b hb=>hb.elim (fun z=>h1 b (a1 b z)) (fun z=>h2 b (b1 b z)),x,r,A,B,e,fun _ z=>.inl z,fun _ z=>.inr z,fun b za zb=>hd b (a1 b za) (b1 b zb),?_,?_⟩
  ·refine a2.zmono fun b hb=>hb.imp id fun z=>⟨h1 b z.1,fun q=>q.elim z.2 fun w=>hd b z.1 (b1 b w)⟩
  ·refine b2.zmono fun b hb=>hb.imp id fun z=>⟨h2 b z.1,fun q=>q.elim (fun w=>hd b (a1 b w) z.1) z.2⟩
end
noncomputable def OO:=List V ⊕ List (Key×V)
noncomputable def OO.ho:OO->HO
 | .inl xs=>.lst xs
 | .inr kvs=>.dK kvs
noncomputable def Own (Z:Fp)(H:Hp)(F:Fp):Prop:=∀ a,F a->¬ Z a/\∃ xs:OO,H a=some xs.ho
theorem pJ {xs:List V}{ys:OO}(e:some (HO.tup xs)=some ys.ho):False:=by cases ys<;>cases e
theorem k8 {o:PySem.Obj}{u:HO}{ys:OO}(e:some (HO.frz o u)=some ys.ho):False:=by cases ys<;>cases e
structure Step (Z:Fp)(H:Hp)(F:Fp)(Z':Fp)(H':Hp)(F':Fp):Prop where
 keep:∀ a o,H a=some o->¬ F a->H' a=some o
 zm:∀ a,Z a->Z' a
 zn:∀ a,Z' a->Z a\/F a\/H a=none
 fn:∀ a,F' a->F a\/H a=none
 al:∀ a,H a≠none->H' a≠none
 za:(∀ a,Z a->H a≠none)->∀ a,Z' a->H' a≠none
section
variable {K:a0a}{Z Z1 Z2 Z':Fp}{H H1 H2 H':Hp}{F F1 F2 F' R G:Fp}
theorem Step.refl (Z:Fp)(H:Hp)(F:Fp):Step Z H F Z H F:=⟨fun _ _ h _=>h,fun _ h=>h,fun _ h=>.inl h,fun _ h=>.inl h,fun _ h=>h,fun z=>z⟩
theorem Step.trans (s:Step Z H F Z1 H1 F1)(t:Step Z1 H1 F1 Z2 H2 F2):Step Z H F Z2 H2 F2 where
 keep:=fun a o h n=>t.keep a o (s.keep a o h n) fun q=>(s.fn a q).elim n fun z=>by rw [h] at z; cases z
 zm:=fun a h=>t.zm a (s.zm a h)
 zn:=fun a h=>by
  rcases t.zn a h with q | q | q
  ·exact s.zn a q
  ·exact .inr (s.fn a q)
  ·exact .inr (.inr (by
    cases e:H a with
    | none=>rfl
    | some o=>exact absurd q (s.al a (by rw [e]; simp))))
 fn:=fun a h=>by
  rcases t.fn a h with q | q
  ·exact s.fn a q
  ·exact .inr (by
    cases e:H a with
    | none=>rfl
    | some o=>exact absurd q (s.al a (by rw [e]; simp)))
 al:=fun a h=>t.al a (s.al a h)
 za:=fun z=>t.za (s.za z)
theorem Step.frame (R:Fp)(s:Step Z H F Z' H' F'):Step Z H (fun a=>F a\/R a) Z' H' (fun a=>F' a\/R a) where
 keep:=fun a o h n=>s.keep a o h fun q=>n (.inl q)
 zm:=s.zm
 zn:=fun a h=>(s.zn a h).imp id fun q=>q.imp .inl id
 fn:=fun a h=>h.elim (fun q=>(s.fn a q).imp .inl id) fun q=>.inl (.inr q)
 al:=s.al
 za:=s.za
theorem Step.mono (s:Step Z H F Z' H' F')(h1:∀ a,F a->F1 a)(h2:∀ a,F2 a->F' a):Step Z H F1 Z' H' F2 where
 keep:=fun a o h n=>s.keep a o h fun q=>n (h1 a q)
 zm:=s.zm
 zn:=fun a h=>(s.zn a h).imp id fun q=>q.imp (h1 a) id
 fn:=fun a h=>(s.fn a (h2 a h)).imp (h1 a) id
 al:=s.al
 za:=s.za
theorem Own.stay (o:Own Z H F)(s:Step Z H F Z' H' F'):Stay Z H H':=by
 refine ⟨fun a u hz h=>s.keep a u h fun q=>(o a q).1 hz,fun a xs h=>?_,fun a u v h=>s.keep a _ h fun q=>?_⟩
 ·rcases h with h | ⟨u,h⟩
  ·refine .inl (s.keep a _ h fun q=>?_)
   obtain ⟨_,ys,e⟩:=o a q
   rw [h] at e; exact pJ e
  ·refine .inr ⟨u,s.keep a _ h fun q=>?_⟩
   obtain ⟨_,ys,e⟩:=o a q
   rw [h] at e; exact k8 e
 ·obtain ⟨_,ys,e⟩:=o a q
  rw [h] at e; exact k8 e
theorem Rep.frame {m:Md}{t:T}{v:V}(o:Own Z H F)(s:Step Z H F Z' H' F')(d:∀ a,G a->¬ F a)(h:Rep K Z H m t v G):Rep K Z' H' m t v G:=h.keep (o.stay s) s.zm fun a u ha e=>s.keep a u e (d a ha)
theorem RepW.frame {ws:List W}{xs:List V}(o:Own Z H F)(s:Step Z H F Z' H' F')(d:∀ a,G a->¬ F a)(h:RepW K Z H ws xs G):RepW K Z' H' ws xs G:=h.keep (o.stay s) s.zm fun a u ha e=>s.keep a u e (d a ha)
theorem Own.frame (o:Own Z H G)(s:Step Z H F Z' H' F')(d:∀ a,G a->¬ F a):Own Z' H' G/\∀ a,G a->¬ F' a:=by
 refine ⟨fun a ha=>?_,fun a ha q=>?_⟩
 ·obtain ⟨nz,xs,e⟩:=o a ha
  refine ⟨fun q=>?_,xs,s.keep a _ e (d a ha)⟩
  rcases s.zn a q with z | z | z
  ·exact nz z
  ·exact d a ha z
  ·rw [e] at z; cases z
 ·obtain ⟨nz,xs,e⟩:=o a ha
  rcases s.fn a q with z | z
  ·exact d a ha z
  ·rw [e] at z; cases z
end
noncomputable abbrev Fps:=Nat->Fp
noncomputable def tot (Fs:Fps):Fp:=fun a=>∃ i,Fs i a
structure Gd (Z:Fp)(H:Hp)(Fs:Fps):Prop where
 own:Own Z H (tot Fs)
 dis:∀ i j a,Fs i a->Fs j a->i=j
 zal:∀ a,Z a->H a≠none
structure Cf where
 sl:Nat->Option Nat
 pv:Nat->Option V
noncomputable def Fj (K:a0a)(sl:Cf)(Z:Fp)(H:Hp)(η:Env)(σ:L2.St)(Fs:Fps):Prop :=
 ∀ i m t,rd η i=some (m,t)->∃ v,Rep K Z H m t v (Fs i)/\(∀ j,sl.sl i=some j->σ[j]?=some (some v))/\∀ u,sl.pv i=some u->v=u
structure At (K:a0a)(sl:Cf)(σ:L2.St)(Z:Fp)(H:Hp)(Fs:Fps)(η:Env)(G:Fp):Prop where
 gd:Gd Z H Fs
 env:Fj K sl Z H η σ Fs
 own:Own Z H G
 dis:∀ a,G a->¬ tot Fs a
 lk:∀ i u j,sl.pv i=some u->sl.sl i=some j->σ[j]?=some (some u)
 ln:∀ i j,sl.sl i=some j->j < σ.length
section
variable {K:a0a}{sl:Cf}{σ:L2.St}{Z Z':Fp}{H H':Hp}{Fs Fs':Fps}{η η':Env}{G G' R:Fp}
theorem At.frame (a:At K sl σ Z H Fs η R)(b:At K sl σ Z' H' Fs' η' G)(s:Step Z H (tot Fs) Z' H' (fun c=>tot Fs' c\/G c)) :
  At K sl σ Z' H' Fs' η' (fun c=>R c\/G c)/\Step Z H (fun c=>tot Fs c\/R c) Z' H' (fun c=>tot Fs' c\/(R c\/G c))/\∀ c,R c->¬ G c:=by
 have o:=a.own.frame s a.dis
 refine ⟨⟨b.gd,b.env,fun c hc=>hc.elim (o.1 c) (b.own c),fun c hc=>hc.elim (fun z q=>o.2 c z (.inl q)) (b.dis c),b.lk,b.ln⟩,(s.frame R).mono (fun _ z=>z) fun c hc=>?_,fun c z q=>o.2 c z (.inr q)⟩
 rcases hc with z | z | z
 ·exact .inl (.inl z)
 ·exact .inr z
 ·exact .inl (.inr z)
end
end MR
namespace MR
open L2 L3 M
open PySem (Addr Str sizeLine)
section
variable {K:a0a}{sl:Cf}{sf:Nat->Option Nat}{C:Call}{σ:L2.St}{Z Z' Z1:Fp}{H H' H1:Hp}{Fs Fs' Fs1:Fps}{η η' η1:Env}{G G' R F:Fp}
theorem At.mono (a:At K sl σ Z H Fs η G)(h:∀ c,G' c->G c):At K sl σ Z H Fs η G':=⟨a.gd,a.env,fun c hc=>a.own c (h c hc),fun c hc=>a.dis c (h c hc),a.lk,a.ln⟩
theorem At.bare (a:At K sl σ Z H Fs η G):At K sl σ Z H Fs η no:=a.mono fun _ z=>z.elim
noncomputable def wE (K:a0a)(sl:Nat->Option Nat)(C:Call)(e:E):TE:=fun σ H Q=>∃ pv Z Fs η w η',At K ⟨sl,pv⟩ σ Z H Fs η no/\evE C e η=.ok (w,η') /\
 ∀ v Z' H' Fs' G,At K ⟨sl,pv⟩ σ Z' H' Fs' η' G->Rep K Z' H' w.1 w.2 v G->Step Z H (tot Fs) Z' H' (fun a=>tot Fs' a\/G a)->Q v H'
noncomputable def wL (K:a0a)(sl:Nat->Option Nat)(C:Call)(es:List E):TA:=fun σ H Q=>∃ pv Z Fs η ws η',At K ⟨sl,pv⟩ σ Z H Fs η no/\evL C es η=.ok (ws,η') /\
 ∀ vs Z' H' Fs' G,At K ⟨sl,pv⟩ σ Z' H' Fs' η' G->RepW K Z' H' ws vs G->Step Z H (tot Fs) Z' H' (fun a=>tot Fs' a\/G a)->Q vs H'
theorem jr {e:E}{w:W}{Q:VK}(A:At K sl σ Z H Fs η R)(ev:evE C e η=.ok (w,η'))
  (k:∀ v Z' H' Fs' G,At K sl σ Z' H' Fs' η' (fun c=>R c\/G c)->Rep K Z' H' w.1 w.2 v G->(∀ c,R c->¬ G c)->Step Z H (tot Fs) Z' H' (fun a=>tot Fs' a\/G a) ->
   Step Z H (fun c=>tot Fs c\/R c) Z' H' (fun c=>tot Fs' c\/(R c\/G c))->Q v H'):wE K sl.sl C e σ H Q :=
 ⟨sl.pv,Z,Fs,η,w,η',A.bare,ev,fun v Z' H' Fs' G B r s=>by
  obtain ⟨h1,h2,h3⟩:=A.frame B s
  exact k v Z' H' Fs' G h1 r h3 s h2⟩
theorem Eu {es:List E}{ws:List W}{Q:List V->Hp->Prop}(A:At K sl σ Z H Fs η R)(ev:evL C es η=.ok (ws,η'))
  (k:∀ vs Z' H' Fs' G,At K sl σ Z' H' Fs' η' (fun c=>R c\/G c)->RepW K Z' H' ws vs G->(∀ c,R c->¬ G c)->Step Z H (tot Fs) Z' H' (fun a=>tot Fs' a\/G a) ->
   Step Z H (fun c=>tot Fs c\/R c) Z' H' (fun c=>tot Fs' c\/(R c\/G c))->Q vs H'):wL K sl.sl C es σ H Q :=
 ⟨sl.pv,Z,Fs,η,ws,η',A.bare,ev,fun v Z' H' Fs' G B r s=>by
  obtain ⟨h1,h2,h3⟩:=A.frame B s
  exact k v Z' H' Fs' G h1 r h3 s h2⟩
theorem aa {α β:Type}{r:Res α}{f:α->Res β}{b:β}(h:r.bind f=.ok b):∃ a,r=.ok a/\f a=.ok b:=by
 cases r with
 | ok a=>exact ⟨a,rfl,h⟩
 | ex t=>cases h
 | no=>cases h
theorem ai {α:Type}{η:Env}{o:Option α}{b:α×Env}(h:ret η o=.ok b):∃ a,o=some a/\b=(a,η):=by
 cases o with
 | none=>cases h
 | some a=>exact ⟨a,rfl,by cases h; rfl⟩
theorem bU {α:Type}{o:Option α}{b:α}(h:ofO o=.ok b):o=some b:=by
 cases o with
 | none=>cases h
 | some a=>cases h; rfl
theorem ay {e:E}{es:List E}{ws:List W}(h:evL C (e::es) η=.ok (ws,η')):∃ w η1 us,evE C e η=.ok (w,η1)/\evL C es η1=.ok (us,η')/\ws=w::us:=by
 obtain ⟨⟨w,η1⟩,h1,h2⟩:=aa (show (evE C e η).bind (aS (evL C es))=_ from h)
 obtain ⟨⟨us,η2⟩,h3,h4⟩:=aa (show (evL C es η1).bind (l7 w)=_ from h2)
 cases h4
 exact ⟨w,η1,us,h1,h3,rfl⟩
theorem gi {e:E}{es:List E}{ws:List W}(he:∀ i,e≠.io i)(h:evA C (e::es) η=.ok (ws,η')):∃ w η1 us,evE C e η=.ok (w,η1)/\evA C es η1=.ok (us,η')/\ws=w::us:=by
 rw [yW he] at h
 obtain ⟨⟨w,η1⟩,h1,h2⟩:=aa h
 obtain ⟨⟨us,η2⟩,h3,h4⟩:=aa (show (evA C es η1).bind (l7 w)=_ from h2)
 cases h4
 exact ⟨w,η1,us,h1,h3,rfl⟩
theorem g8 {i:Nat}{es:List E}{ws:List W}(h:evA C (.io i::es) η=.ok (ws,η')):∃ us η1 w,evA C es η=.ok (us,η1)/\rd η1 i=some w/\ws=w::us/\η'=del η1 i:=by
 obtain ⟨⟨us,η1⟩,h1,h2⟩:=aa (show (evA C es η).bind (kIo i)=_ from h)
 obtain ⟨w,h3,h4⟩:=aa (show (ofO (rd η1 i)).bind (fun w=>.ok (w::us,del η1 i))=_ from h2)
 cases h4
 exact ⟨us,η1,w,h1,bU h3,rfl,rfl⟩
theorem C9 (e:E):(∃ i,e=.io i)\/∀ i,e≠.io i:=by
 cases e with
 | io i=>exact .inl ⟨i,rfl⟩
 | _=>exact .inr fun _ z=>by cases z
theorem vW {e:E}{es:List E}(σ:L2.St)(H:Hp)(Q:List V->Hp->Prop)(h:wL K sf C (e::es) σ H Q):lP (wE K sf C e) (wL K sf C es) σ H Q:=by
 obtain ⟨pv,Z,Fs,η,ws,η',A,ev,k⟩:=h
 obtain ⟨w,η1,us,h1,h2,rfl⟩:=ay ev
 refine jr A h1 fun x Z1 H1 Fs1 G1 A1 r1 _ s1 _=>?_
 have A1':=A1.mono (G':=G1) fun _ z=>.inr z
 refine Eu A1' h2 fun xs Z2 H2 Fs2 G2 A2 r2 d2 s2 t2=>?_
 refine k (x::xs) Z2 H2 Fs2 _ A2 ⟨x,xs,G1,G2,rfl,fun _ z=>.inl z,fun _ z=>.inr z,d2,r1.frame A1.gd.own s2 A1'.dis,r2⟩ ?_
 exact s1.trans t2
theorem AQ (σ:L2.St)(H:Hp)(Q:List V->Hp->Prop)(h:wL K sf C [] σ H Q):zR σ H Q:=by
 obtain ⟨pv,Z,Fs,η,ws,η',A,ev,k⟩:=h
 cases ev
 exact k [] Z H Fs no A rfl ((Step.refl _ _ _).mono (fun _ z=>z) fun a ha=>ha.elim id fun z=>z.elim)
noncomputable def Out (K:a0a)(Z:Fp)(H:Hp)(G:Fp)(w:W)(Q:VK):Prop:=∀ v Z' H' G',Rep K Z' H' w.1 w.2 v G'->Own Z' H' G'->Step Z H G Z' H' G'->Q v H'
theorem At.op (A:At K sl σ Z H Fs η G)(o:Own Z' H' G')(s:Step Z H G Z' H' G'):At K sl σ Z' H' Fs η G'/\Step Z H (fun c=>tot Fs c\/G c) Z' H' (fun c=>tot Fs c\/G' c):=by
 have d:∀ a,tot Fs a->¬ G a:=fun a h q=>A.dis a q h
 have f:=A.gd.own.frame s d
 refine ⟨⟨⟨f.1,A.gd.dis,s.za A.gd.zal⟩,fun i m t e=>?_,o,fun a ha q=>f.2 a q ha,A.lk,A.ln⟩,?_⟩
 ·obtain ⟨v,r,hv⟩:=A.env i m t e
  exact ⟨v,r.frame A.own s fun a ha=>d a ⟨i,ha⟩,hv⟩
 ·refine (s.frame (tot Fs)).mono (fun _ z=>z.symm) fun _ z=>z.symm
theorem bF {w:W}{Q:VK}(A:At K sl σ Z1 H1 Fs1 η1 G)(s:Step Z H F Z1 H1 (fun a=>tot Fs1 a\/G a))
  (k:∀ v Z' H' Fs' G,At K sl σ Z' H' Fs' η1 G->Rep K Z' H' w.1 w.2 v G->Step Z H F Z' H' (fun a=>tot Fs' a\/G a)->Q v H'):Out K Z1 H1 G w Q:=fun v Z' H' G' r o t=>by
 obtain ⟨B,u⟩:=A.op o t
 exact k v Z' H' Fs1 G' B r (s.trans u)
noncomputable def Loc (K:a0a)(n:Nat)(o:Op)(h:Bool)(r:List V->Hp->VK->Prop):Prop:=∀ (ws:List W) (w:W) (xs:List V) (Z:Fp) (H:Hp) (G:Fp) (Q:VK),ws.length=n->oSem o h ws=some w->RepW K Z H ws xs G->Own Z H G->(∀ a,Z a->H a≠none)->Out K Z H G w Q->r xs H Q
theorem b6 {o:Op}{h:Bool}{es:List E}{w:W}(e:evE C (.op o h es) η=.ok (w,η')):∃ ws,evL C es η=.ok (ws,η')/\oSem o h ws=some w:=by
 obtain ⟨⟨ws,η1⟩,h1,h2⟩:=aa (show (evL C es η).bind (kOp o h)=_ from e)
 obtain ⟨a,h3,h4⟩:=ai (show ret η1 (oSem o h ws)=_ from h2)
 cases h4
 exact ⟨ws,h1,h3⟩
theorem eV:∀ {es:List E} {η η':Env} {ws:List W},evL C es η=.ok (ws,η')->ws.length=es.length
 | [],_,_,_,h=>by cases h; rfl
 | e::es,_,_,_,h=>by
  obtain ⟨w,η1,us,_,h2,rfl⟩:=ay h
  rw [a0g,a0g,eV h2]
theorem lz {n:Nat}{o:Op}{h:Bool}{es:List E}{r:List V->Hp->VK->Prop}(l:Loc K n o h r)(hn:es.length=n)(σ:L2.St)(H:Hp)(Q:VK)(hw:wE K sf C (.op o h es) σ H Q):tCB r (wL K sf C es) σ H Q:=by
 obtain ⟨pv,Z,Fs,η,w,η',A,ev,k⟩:=hw
 obtain ⟨ws,h1,h2⟩:=b6 ev
 exact ⟨pv,Z,Fs,η,ws,η',A,h1,fun vs Z' H' Fs' G B r s=>l ws w vs Z' H' G Q ((eV h1).trans hn) h2 r B.own B.gd.zal (bF B s k)⟩
theorem ye {o:Op}{h:Bool}{a:E}{r:V->Hp->VK->Prop}(l:Loc K 1 o h fun xs H Q=>∀ x,xs=[x]->r x H Q)(σ:L2.St)(H:Hp)(Q:VK)(hw:wE K sf C (.op o h [a]) σ H Q):tUn r (wE K sf C a) σ H Q:=by
 obtain ⟨pv,Z,Fs,η,w,η',A,ev,k⟩:=hw
 obtain ⟨ws,h1,h2⟩:=b6 ev
 obtain ⟨wa,η1,us,e1,e2,rfl⟩:=ay h1
 cases e2
 refine ⟨pv,Z,Fs,η,wa,η',A,e1,fun x Z' H' Fs' G B r s=>l [wa] w [x] Z' H' G Q rfl h2 (RepW.one r) B.own B.gd.zal (bF B s k) x rfl⟩
theorem aQ {o:Op}{h:Bool}{a b:E}{r:R2}(l:Loc K 2 o h fun xs H Q=>∀ x y,xs=[x,y]->r x y H Q)(σ:L2.St)(H:Hp)(Q:VK)(hw:wE K sf C (.op o h [a,b]) σ H Q):tOp r (wE K sf C a) (wE K sf C b) σ H Q:=by
 obtain ⟨pv,Z,Fs,η,w,η',A,ev,k⟩:=hw
 obtain ⟨ws,h1,h2⟩:=b6 ev
 obtain ⟨wa,η1,us,e1,e2,rfl⟩:=ay h1
 obtain ⟨wb,η2,us,e3,e4,rfl⟩:=ay e2
 cases e4
 refine jr A e1 fun x Z1 H1 Fs1 G1 A1 r1 _ s1 _=>?_
 have A1':=A1.mono (G':=G1) fun _ z=>.inr z
 refine jr A1' e3 fun y Z2 H2 Fs2 G2 A2 r2 d2 s2 t2=>?_
 exact l [wa,wb] w [x,y] Z2 H2 _ Q rfl h2 ⟨x,[y],G1,G2,rfl,fun _ z=>.inl z,fun _ z=>.inr z,d2,r1.frame A1.gd.own s2 A1'.dis,RepW.one r2⟩ A2.own A2.gd.zal (bF A2 (s1.trans t2) k) x y rfl
theorem bG:Own Z H no:=fun _ z=>z.elim
theorem Step.drop:Step Z H G Z H no:=(Step.refl Z H G).mono (fun _ z=>z) fun _ z=>z.elim
section
variable {Q:VK}{m:Md}{ts:List T}{xs:List V}
theorem aW {i:Int}(k:Out K Z H G (m,.int i) Q):Q (.int i) H:=k _ Z H no rfl bG .drop
theorem bH {b:Bool}(k:Out K Z H G (m,.bl b) Q):Q (.bl b) H:=k _ Z H no rfl bG .drop
theorem ly {x:Str}(k:Out K Z H G (m,.str x) Q)(h:sOk x=true):Q (.str x) H:=k _ Z H no ⟨rfl,h⟩ bG .drop
theorem fO {t:T}{v:V}(o:Own Z H G)(k:Out K Z H G (m,t) Q)(r:Rep K Z H m t v G):Q v H:=k v Z H G r o (.refl _ _ _)
theorem jo {p:Addr}{o:HO}(hp:H p=none):Stay Z H (upd H p o):=by
 have ne:∀ {a u},H a=some u->a≠p:=fun {a u} e z=>by subst z; rw [hp] at e; cases e
 refine ⟨fun a u _ e=>?_,fun a xs e=>?_,fun a u v e=>?_⟩
 ·rw [af (ne e)]; exact e
 ·rcases e with e | ⟨u,e⟩
  ·exact .inl (by rw [af (ne e)]; exact e)
  ·exact .inr ⟨u,by rw [af (ne e)]; exact e⟩
 ·rw [af (ne e)]; exact e
theorem fm {p:Addr}{o:HO}(hp:H p=none)(ow:Own Z H G)(hg:∀ a,G' a->G a\/a=p)(z:Fp)(hz:∀ a,Z a->z a)(hz':∀ a,z a->Z a\/G a):Step Z H G z (upd H p o) G':=by
 have ne:∀ {a u},H a=some u->a≠p:=fun {a u} e q=>by subst q; rw [hp] at e; cases e
 have al:∀ a,H a≠none->upd H p o a≠none:=fun a h=>by
  by_cases e:a=p
  ·rw [e,ag]; simp
  ·rw [af e]; exact h
 refine ⟨fun a u e _=>by rw [af (ne e)]; exact e,hz,fun a h=>(hz' a h).imp id .inl,fun a h=>(hg a h).imp id fun e=>by rw [e]; exact hp,al,fun q a h=>al a ?_⟩
 rcases hz' a h with c | c
 ·exact q a c
 ·obtain ⟨_,xs,e⟩:=ow a c
  rw [e]; simp
theorem bX {p:Addr}(ow:Own Z H G)(za:∀ a,Z a->H a≠none)(hg:∀ a,G' a->G a)(hl:xs.length<=LIM)(r:RepL K (cH Z G G') H m.kid ts xs G')(hm:m≠.s)(k:Out K Z H G (m,.lst ts) Q)(hp:H p=none):Q (.ref p) (upd H p (.lst xs)):=by
 have ne:∀ {a u},H a=some u->a≠p:=fun {a u} e q=>by subst q; rw [hp] at e; cases e
 have np:∀ a,G' a->a≠p:=fun a h=>by obtain ⟨_,ys,e⟩:=ow a (hg a h); exact ne e
 refine k _ (cH Z G G') _ (fun a=>G' a\/a=p) ⟨p,xs,rfl,hl,(LstR.own hm).mpr ⟨.inr rfl,ag⟩,?_⟩ ?_ (fm hp ow (fun a h=>h.imp (hg a) id) _ (fun a h=>.inl h) fun a h=>h.imp id a2N)
 ·refine (r.keep (jo hp) (fun _ z=>z) fun a u _ e=>by rw [af (ne e)]; exact e).mono fun a h=>⟨.inl h,np a h⟩
 ·rintro a (h | h)
  ·obtain ⟨nz,ys,e⟩:=ow a (hg a h)
   exact ⟨fun z=>z.elim nz fun q=>q.2 h,ys,by rw [af (ne e)]; exact e⟩
  ·subst h
   refine ⟨fun z=>z.elim (fun q=>za a q hp) fun q=>?_,.inl xs,ag⟩
   obtain ⟨_,ys,e⟩:=ow a q.1
   rw [hp] at e; cases e
theorem lD {p:Addr}(ow:Own Z H G)(hg:∀ a,G' a->G a)(hl:xs.length<=LIM)(r:RepL K (cH Z G G') H m.kid ts xs G')(k:Out K Z H G (m,.tup ts) Q)(hp:H p=none):Q (.ref p) (upd H p (.tup xs)):=by
 have ne:∀ {a u},H a=some u->a≠p:=fun {a u} e q=>by subst q; rw [hp] at e; cases e
 refine k _ (cH Z G G') _ G' ⟨p,xs,rfl,.inl (.inl ag),hl,?_⟩ ?_ (fm hp ow (fun a h=>.inl (hg a h)) _ (fun a h=>.inl h) fun a h=>h.imp id a2N)
 ·exact r.keep (jo hp) (fun _ z=>z) fun a u _ e=>by rw [af (ne e)]; exact e
 ·intro a h
  obtain ⟨nz,ys,e⟩:=ow a (hg a h)
  exact ⟨fun z=>z.elim nz fun q=>q.2 h,ys,by rw [af (ne e)]; exact e⟩
theorem fu {v:V}{H':Hp}(ow:Own Z H G)(hg:∀ a,G' a->G a)(hl:xs.length<=LIM)(r:RepL K (cH Z G G') H m.kid ts xs G')(k:Out K Z H G (m,.tup ts) Q)(same:∀ b o,H b=some o->H' b=some o)(hv:∃ c,v=.ref c/\SqT K H' c xs):Q v H':=by
 obtain ⟨c,rfl,hs⟩:=hv
 have al:∀ a,H a≠none->H' a≠none:=fun a h=>by
  cases e:H a with
  | none=>exact absurd e h
  | some o=>rw [same a o e]; simp
 refine k _ (cH Z G G') _ G' ⟨c,xs,rfl,hs,hl,?_⟩ (fun a h=>?_) ⟨fun a o e _=>same a o e,fun a h=>.inl h,fun a h=>h.imp id fun q=>.inl q.1,fun a h=>.inl (hg a h),al,fun q a h=>al a ?_⟩
 ·refine r.keep ⟨fun a o _ e=>same a o e,fun a ys e=>?_,fun a o u e=>same a _ e⟩ (fun _ z=>z) fun a u _ e=>same a u e
  rcases e with e | ⟨u,e⟩
  ·exact .inl (same a _ e)
  ·exact .inr ⟨u,same a _ e⟩
 ·obtain ⟨nz,ys,e⟩:=ow a (hg a h)
  exact ⟨fun z=>z.elim nz fun q=>q.2 h,ys,same a _ e⟩
 ·rcases h with h | h
  ·exact q a h
  ·obtain ⟨_,ys,e⟩:=ow a h.1
   rw [e]; simp
theorem d6 {p:Addr}{h:Bool}{w:W}(ow:Own Z H G)(za:∀ a,Z a->H a≠none)(hl:xs.length<=LIM)(r:∃ G',(∀ a,G' a->G a)/\RepL K (cH Z G G') H m ts xs G')(hn:newL h m ts=some w)(k:Out K Z H G w Q)(hp:H p=none):Q (.ref p) (upd H p (.lst xs)):=by
 obtain ⟨G',hg,r⟩:=r
 unfold newL at hn
 split at hn
 ·split at hn
  ·rename_i hlv
   cases hn
   refine bX (m:=.d) (G':=no) ow za (fun _ z=>z.elim) hl ?_ (by simp) k hp
   exact r.leaves (fun _ _ _ e=>e) hlv
  ·cases hn
 ·cases hn
  exact bX (m:=m.up) ow za hg hl (by rw [dw]; exact r) (b9 m) k hp
end
end
end MR
namespace MR
open L2 L3 M
open PySem (Addr Str sizeLine)
section
variable {K:a0a}{h:Bool}
theorem eP {α β:Type}{ws:List α}{x y:β}(e:ws.length=[x,y].length):∃ a b,ws=[a,b]:=by
 match ws,e with
 | [a,b],_=>exact ⟨a,b,rfl⟩
theorem Dt {α β:Type}{ws:List α}{x:β}(e:ws.length=[x].length):∃ a,ws=[a]:=by
 match ws,e with
 | [a],_=>exact ⟨a,rfl⟩
theorem cI {Z:Fp}{H:Hp}{G:Fp}{u w:W}{x y:V}(r:RepW K Z H [u,w] [x,y] G):∃ G1 G2,(∀ a,G1 a->G a)/\(∀ a,G2 a->G a)/\(∀ a,G1 a->¬ G2 a)/\Rep K Z H u.1 u.2 x G1/\Rep K Z H w.1 w.2 y G2:=by
 obtain ⟨x',r',G1,G2,e,h1,h2,d,p,y',r2,G3,G4,e2,h3,h4,d2,q,z⟩:=r
 cases e; cases e2
 exact ⟨G1,G3,h1,fun a ha=>h2 a (h3 a ha),fun a ha hb=>d a ha (h3 a hb),p,q⟩
theorem wm {Z:Fp}{H:Hp}{G:Fp}{w:W}{x:V}(r:RepW K Z H [w] [x] G):Rep K Z H w.1 w.2 x G:=by
 obtain ⟨x',r',G1,G2,e,h1,h2,d,p,z⟩:=r
 cases e
 exact p.mono h1
theorem cX {ws:List W}{xs:List V}{Z:Fp}{H:Hp}{G:Fp}{w:W}(hw:ws=[w])(r:RepW K Z H ws xs G):∃ x,xs=[x]/\Rep K Z H w.1 w.2 x G:=by
 subst hw
 obtain ⟨x,hx⟩:=Dt (x:=()) (show xs.length=[()].length from r.length)
 subst hx
 exact ⟨x,rfl,wm r⟩
theorem kG {n:Nat}(h:n<=LIM):n < sizeLine:=a1P h (by decide)
theorem bP {n:Nat}(h:n<=LIM):n<=sizeLine:=a2F (kG h)
theorem cA {n:Nat}(h:fits n=true):n<=LIM:=of_decide_eq_true h
theorem rP {o:Op}{C:Int->Int->Prop}{g:Int->Int->T}(inv:∀ {u v w:W},oSem o h [u,v]=some w->∃ m n i j,u=(m,.int i)/\v=(n,.int j)/\C i j/\w=(.d,g i j))(gv:Int->Int->V)(hg:∀ {Z:Fp} {H:Hp} {G:Fp} {Q:VK} {i j:Int},Out K Z H G (.d,g i j) Q->Q (gv i j) H) :
  Loc K 2 o h fun xs H Q=>∀ x y,xs=[x,y]->rI C gv x y H Q:=by
 intro ws w xs Z H G Q hn e r ow za k x y hx
 subst hx
 obtain ⟨u,v,rfl⟩:=eP r.length.symm
 obtain ⟨m,n,i,j,rfl,rfl,c,rfl⟩:=inv e
 obtain ⟨G1,G2,_,_,_,r1,r2⟩:=cI r
 exact ⟨i,j,r1,r2,c,hg k⟩
theorem kl {o:Op}{g:Int->Int->T}(inv:∀ {u v w:W},oSem o h [u,v]=some w->∃ m n i j,u=(m,.int i)/\v=(n,.int j)/\w=(.d,g i j))(gv:Int->Int->V)(hg:∀ {Z:Fp} {H:Hp} {G:Fp} {Q:VK} {i j:Int},Out K Z H G (.d,g i j) Q->Q (gv i j) H) :
  Loc K 2 o h fun xs H Q=>∀ x y,xs=[x,y]->rI0 gv x y H Q:=by
 intro ws w xs Z H G Q hn e r ow za k x y hx
 subst hx
 obtain ⟨u,v,rfl⟩:=eP r.length.symm
 obtain ⟨m,n,i,j,rfl,rfl,rfl⟩:=inv e
 obtain ⟨G1,G2,_,_,_,r1,r2⟩:=cI r
 exact ⟨i,j,r1,r2,hg k⟩
theorem uu {u v w:W}(e:oSem .sub h [u,v]=some w):∃ m n i j,u=(m,.int i)/\v=(n,.int j)/\w=(.d,.int (i-j)):=by
 obtain ⟨m,a⟩:=u; obtain ⟨n,b⟩:=v
 cases a<;>first | (cases e; done) | (cases b<;>first | (cases e; exact ⟨_,_,_,_,rfl,rfl,rfl⟩) | cases e)
theorem hV {u v w:W}(e:oSem .lt h [u,v]=some w):∃ m n i j,u=(m,.int i)/\v=(n,.int j)/\w=(.d,.bl (decide (i < j))):=by
 obtain ⟨m,a⟩:=u; obtain ⟨n,b⟩:=v
 cases a<;>first | (cases e; done) | (cases b<;>first | (cases e; exact ⟨_,_,_,_,rfl,rfl,rfl⟩) | cases e)
theorem iW {u v w:W}(e:oSem .le h [u,v]=some w):∃ m n i j,u=(m,.int i)/\v=(n,.int j)/\w=(.d,.bl (decide (i<=j))):=by
 obtain ⟨m,a⟩:=u; obtain ⟨n,b⟩:=v
 cases a<;>first | (cases e; done) | (cases b<;>first | (cases e; exact ⟨_,_,_,_,rfl,rfl,rfl⟩) | cases e)
theorem qT {u v w:W}(e:oSem .gt h [u,v]=some w):∃ m n i j,u=(m,.int i)/\v=(n,.int j)/\w=(.d,.bl (decide (j < i))):=by
 obtain ⟨m,a⟩:=u; obtain ⟨n,b⟩:=v
 cases a<;>first | (cases e; done) | (cases b<;>first | (cases e; exact ⟨_,_,_,_,rfl,rfl,rfl⟩) | cases e)
theorem oU {u v w:W}(e:oSem .fdiv h [u,v]=some w):∃ m n i j,u=(m,.int i)/\v=(n,.int j)/\AV i j/\w=(.d,.int (i / j)):=by
 obtain ⟨m,a⟩:=u; obtain ⟨n,b⟩:=v
 cases a<;>first | (cases e; done) | (cases b<;>try (cases e; done))
 rename_i i j
 rw [rh] at e
 split at e
 ·rename_i hc
  rw [a0d,decide_eq_true_eq,decide_eq_true_eq] at hc
  cases e
  exact ⟨_,_,_,_,rfl,rfl,hc,rfl⟩
 ·cases e
theorem u6 {u v w:W}(e:oSem .mod h [u,v]=some w):∃ m n i j,u=(m,.int i)/\v=(n,.int j)/\(0 < j)/\w=(.d,.int (i % j)):=by
 obtain ⟨m,a⟩:=u; obtain ⟨n,b⟩:=v
 cases a<;>first | (cases e; done) | (cases b<;>try (cases e; done))
 rename_i i j
 rw [wo] at e
 split at e
 ·rename_i hc
  rw [decide_eq_true_eq] at hc
  cases e
  exact ⟨_,_,_,_,rfl,rfl,hc,rfl⟩
 ·cases e
theorem uh {u v w:W}(e:oSem .pow h [u,v]=some w):∃ m n i j,u=(m,.int i)/\v=(n,.int j)/\yn i j/\w=(.d,.int (i ^ j.toNat)):=by
 obtain ⟨m,a⟩:=u; obtain ⟨n,b⟩:=v
 cases a<;>first | (cases e; done) | (cases b<;>try (cases e; done))
 rename_i i j
 rw [sE] at e
 split at e
 ·rename_i hc
  rw [a0d,a0d,decide_eq_true_eq,decide_eq_true_eq,decide_eq_true_eq] at hc
  cases e
  exact ⟨_,_,_,_,rfl,rfl,⟨hc.1.1,hc.1.2,hc.2⟩,rfl⟩
 ·cases e
theorem tS:Loc K 2 .sub h fun xs H Q=>∀ x y,xs=[x,y]->rI0 (fun i j=>.int (i-j)) x y H Q:=kl uu _ fun k=>aW k
theorem zP:Loc K 2 .lt h fun xs H Q=>∀ x y,xs=[x,y]->rI0 (fun i j=>.bl (decide (i < j))) x y H Q:=kl hV _ fun k=>bH k
theorem rZ:Loc K 2 .gt h fun xs H Q=>∀ x y,xs=[x,y]->rI0 (fun i j=>.bl (decide (j < i))) x y H Q:=kl qT _ fun k=>bH k
theorem rD:Loc K 2 .fdiv h fun xs H Q=>∀ x y,xs=[x,y]->rI AV (fun i j=>.int (i / j)) x y H Q:=rP oU _ fun k=>aW k
theorem we:Loc K 2 .mod h fun xs H Q=>∀ x y,xs=[x,y]->rI (fun _ j=>0 < j) (fun i j=>.int (i % j)) x y H Q:=rP u6 _ fun k=>aW k
theorem sR:Loc K 2 .pow h fun xs H Q=>∀ x y,xs=[x,y]->rI yn (fun i j=>.int (i ^ j.toNat)) x y H Q:=rP uh _ fun k=>aW k
theorem uK:Loc K 1 .neg h fun xs H Q=>∀ x,xs=[x]->rU (fun i=>.int (-i)) x H Q:=by
 intro ws w xs Z H G Q hn e r ow za k x hx
 subst hx
 obtain ⟨⟨m,a⟩,rfl⟩:=Dt r.length.symm
 cases a<;>first | (cases e; exact ⟨_,wm r,aW k⟩) | cases e
theorem bu {Z:Fp}{H:Hp}{G:Fp}{m:Md}{ts:List T}{v:V}(r:Rep K Z H m (.lst ts) v G):∃ a xs,v=.ref a/\H a=some (.lst xs)/\xs.length<=LIM/\RepL K Z H m.kid ts xs G:=by
 obtain ⟨a,xs,e,l,q,p⟩:=r
 exact ⟨a,xs,e,by cases m<;>exact q.2,l,p.mono fun _ z=>z.1⟩
theorem bN {Z:Fp}{H:Hp}{G:Fp}{m:Md}{ts:List T}{v:V}(r:Rep K Z H m (.tup ts) v G):∃ a xs,v=.ref a/\SqT K H a xs/\xs.length<=LIM/\RepL K Z H m.kid ts xs G:=r
theorem fZ {Z:Fp}{H:Hp}{G G1 G2:Fp}{m n:Md}{ts us:List T}{xs ys:List V}(w1:∀ a,G1 a->G a)(w2:∀ a,G2 a->G a)(d:∀ a,G1 a->¬ G2 a)(r1:RepL K Z H m ts xs G1)(r2:RepL K Z H n us ys G2) :
  ∃ G',(∀ a,G' a->G a)/\RepL K (cH Z G G') H (m.meet n) (ts++us) (xs++ys) G':=by
 obtain ⟨A,a1,a2⟩:=RepL.weak (cF m n).1 r1
 obtain ⟨B,b1,b2⟩:=RepL.weak (cF m n).2 r2
 refine ⟨fun b=>A b\/B b,fun b hb=>hb.elim (fun z=>w1 b (a1 b z)) fun z=>w2 b (b1 b z),RepL.append (fun _ z=>.inl z) (fun _ z=>.inr z) (fun b za zb=>d b (a1 b za) (b1 b zb)) (a2.zmono fun b hb=>?_) (b2.zmono fun b hb=>?_)⟩
 ·exact hb.imp id fun z=>⟨w1 b z.1,fun q=>q.elim z.2 fun w=>d b z.1 (b1 b w)⟩
 ·exact hb.imp id fun z=>⟨w2 b z.1,fun q=>q.elim (fun w=>d b (a1 b w) z.1) z.2⟩
theorem bY {p q:Str}(h1:sOk p=true)(h2:sOk q=true)(hl:p.cps.size+q.cps.size<=LIM):sOk (p++q)=true:=by
 unfold sOk at *
 rw [a0d] at *
 refine ⟨?_,decide_eq_true ?_⟩
 ·show Array.all (p.cps++q.cps) _=true
  rw [Array.all_append,a0d]
  exact ⟨h1.1,h2.1⟩
 ·show (p.cps++q.cps).size<=LIM
  rw [a29]
  exact hl
theorem tV (rT:R2)(hT:∀ {Z:Fp} {H:Hp} {G:Fp} {Q:VK} {a b:Addr} {xs ys:List V} {ts:List T},SqT K H a xs->SqT K H b ys->xs≠[]->xs.length+ys.length<=LIM->Own Z H G->(∃ G',(∀ a,G' a->G a)/\RepL K (cH Z G G') H .s ts (xs++ys) G')->Out K Z H G (.s,.tup ts) Q->rT (.ref a) (.ref b) H Q) :
  Loc K 2 .add h fun xs H Q=>∀ x y,xs=[x,y]->rI0 (fun i j=>.int (i+j)) x y H Q\/(∃ i j,x=.str i/\y=.str j/\i.length+j.length<=sizeLine/\Q (.str (i++j)) H)\/DI x y H Q\/rT x y H Q:=by
 intro ws w xs Z H G Q hn e r ow za k x y hx
 subst hx
 obtain ⟨⟨m,a⟩,⟨n,b⟩,rfl⟩:=eP r.length.symm
 obtain ⟨G1,G2,w1,w2,d,r1,r2⟩:=cI r
 cases a<;>first | (cases e; done) | (cases b<;>try (cases e; done))
 ·cases e
  exact .inl ⟨_,_,r1,r2,aW k⟩
 ·rename_i p q
  rw [rE] at e
  split at e
  ·rename_i hf
   cases e
   refine .inr (.inl ⟨p,q,r1.1,r2.1,bP (cA hf),ly k ?_⟩)
   exact bY r1.2 r2.2 (cA hf)
  ·cases e
 ·rename_i ts us
  rw [iS] at e
  split at e
  ·rename_i hf
   cases e
   rw [a0d] at hf
   obtain ⟨a,xs,rfl,hs,hl,p⟩:=bN r1
   obtain ⟨b,ys,rfl,hs2,hl2,p2⟩:=bN r2
   have hlen:=cA hf.1
   have e1:=p.length
   have e2:=p2.length
   refine .inr (.inr (.inr (hT hs hs2 ?_ (by omega) ow ?_ k)))
   ·rintro rfl
    cases ts with
    | nil=>simp at hf
    | cons _ _=>simp at e1
   ·refine ⟨no,fun _ z=>z.elim,RepL.append (G1:=no) (G2:=no) (fun _ z=>z) (fun _ z=>z) (fun _ z _=>z) ((RepL.sh p).zmono fun b hb=>?_) ((RepL.sh p2).zmono fun b hb=>?_)⟩
    ·exact hb.imp id fun z=>⟨w1 b z,fun q=>q⟩
    ·exact hb.imp id fun z=>⟨w2 b z,fun q=>q⟩
  ·cases e
 ·rename_i ts us
  rw [qa] at e
  split at e
  ·rename_i hf
   obtain ⟨a,xs,rfl,hs,hl,p⟩:=bu r1
   obtain ⟨b,ys,rfl,hs2,hl2,p2⟩:=bu r2
   have hlen:=cA hf
   have e1:=p.length
   have e2:=p2.length
   have hl3:(xs++ys).length<=LIM:=by rw [a0c]; omega
   refine .inr (.inr (.inl ⟨a,b,xs,ys,rfl,rfl,hs,hs2,bP (by omega),fun q hq=>?_⟩))
   exact d6 ow za hl3 (fZ w1 w2 d p p2) e k hq
  ·cases e
theorem ka {Z:Fp}{H:Hp}{G:Fp}{m:Md}{ts:List T}{xs:List V}{i:Int}{t:T}(p:RepL K Z H m ts xs G)(e:M.atI ts i=some t):∃ x,L2.atI xs i=some x/\Rep K Z H m t x G:=by
 unfold M.atI at e
 have hn:M.ixN ts.length i=L2.ixN xs.length i:=by rw [p.length]; rfl
 cases e1:M.ixN ts.length i with
 | none=>rw [e1] at e; cases e
 | some j =>
  rw [e1] at e
  obtain ⟨x,hx,r⟩:=p.get (show ts[j]?=some t from e)
  refine ⟨x,?_,r⟩
  unfold L2.atI
  rw [<- hn,e1]
  exact hx
theorem uj {x:Str}{c:Nat}(h:sOk x=true)(hc:c∈x.cps.toList):sOk ⟨#[c]⟩=true:=by
 unfold sOk at *
 rw [a0d] at *
 refine ⟨?_,rfl⟩
 have h1:=h.1
 rw [a2j] at h1
 have h2:=h1 c (Array.mem_def.mpr hc)
 rw [a2j]
 intro y hy
 have:y=c:=by simpa using hy
 rw [this]; exact h2
theorem iI {x:Str}(h:sOk x=true):x.cps.size<=LIM:=by
 unfold sOk at h
 rw [a0d,decide_eq_true_eq] at h
 exact h.2
theorem yg:Loc K 2 .ix h fun xs H Q=>∀ x y,xs=[x,y]->(∃ p xs i v,x=.ref p/\y=.int i/\(SqL K H p xs\/SqT K H p xs)/\L2.atI xs i=some v/\Q v H)\/(∃ z i c,x=.str z/\y=.int i/\z.length<=sizeLine/\L2.atI z.cps.toList i=some c/\Q (.str ⟨#[c]⟩) H):=by
 intro ws w xs Z H G Q hn e r ow za k x y hx
 subst hx
 obtain ⟨⟨m,a⟩,⟨n,b⟩,rfl⟩:=eP r.length.symm
 obtain ⟨G1,G2,w1,w2,d,r1,r2⟩:=cI r
 cases b with
 | int i =>
  cases a with
  | lst ts =>
   obtain ⟨a,xs,rfl,hs,hl,p⟩:=bu r1
   have e':(M.atI ts i).map (fun t=>(m.kid,t))=some w:=e
   cases e1:M.atI ts i with
   | none=>rw [e1] at e'; cases e'
   | some t =>
    rw [e1] at e'; cases e'
    obtain ⟨v,hv,rv⟩:=ka p e1
    exact .inl ⟨a,xs,i,v,rfl,r2,.inl (.inl (.inl hs)),hv,fO ow k (rv.mono w1)⟩
  | tup ts =>
   obtain ⟨a,xs,rfl,hs,hl,p⟩:=bN r1
   have e':(M.atI ts i).map (fun t=>(m.kid,t))=some w:=e
   cases e1:M.atI ts i with
   | none=>rw [e1] at e'; cases e'
   | some t =>
    rw [e1] at e'; cases e'
    obtain ⟨v,hv,rv⟩:=ka p e1
    exact .inl ⟨a,xs,i,v,rfl,r2,.inr hs,hv,fO ow k (rv.mono w1)⟩
  | str z =>
   have e':(M.atI z.cps.toList i).map (fun c=>((.d,.str ⟨#[c]⟩):W))=some w:=e
   cases e1:M.atI z.cps.toList i with
   | none=>rw [e1] at e'; cases e'
   | some c =>
    rw [e1] at e'; cases e'
    refine .inr ⟨z,i,c,r1.1,r2,bP (iI r1.2),e1,ly k (uj r1.2 ?_)⟩
    unfold M.atI at e1
    cases e2:M.ixN z.cps.toList.length i with
    | none=>rw [e2] at e1; cases e1
    | some j=>rw [e2] at e1; exact a1l e1
  | scr ns =>
   obtain ⟨a,rfl,hL,hs⟩:=r1
   have e':(M.atI ns i).map (fun n=>((.d,.int n):W))=some w:=e
   cases e1:M.atI ns i with
   | none=>rw [e1] at e'; cases e'
   | some n =>
    rw [e1] at e'; cases e'
    refine .inl ⟨a,_,i,.int n,rfl,r2,.inl hs.sq,?_,aW k⟩
    unfold M.atI at e1
    unfold L2.atI
    rw [a0b]
    cases e2:M.ixN ns.length i with
    | none=>rw [e2] at e1; cases e1
    | some j =>
     rw [e2] at e1
     rw [show L2.ixN ns.length i=some j from e2]
     show (ns.map V.int)[j]?=_
     rw [a0y,show ns[j]?=some n from e1]
     rfl
  | _=>cases e
 | _=>cases a<;>cases e
theorem vD:Loc K 1 .len h fun xs H Q=>∃ x n,xs=[x]/\(match x with
  | .str y=>y.length<=sizeLine/\n=y.length
  | .byt y=>y.size<=sizeLine/\n=y.size
  | .ref p=>(∃ xs,SqL K H p xs/\n=xs.length)\/∃ xs,SqT K H p xs/\n=xs.length
  | _=>False)/\Q (.int (n:Nat)) H:=by
 intro ws w xs Z H G Q hn e r ow za k
 match ws,hn with
 | [(m,a)],_ =>
  obtain ⟨x,rfl,r1⟩:=cX rfl r
  cases a with
  | lst ts =>
   obtain ⟨a,xs,hx,hs,hl,p⟩:=bu r1
   cases e
   refine ⟨x,ts.length,rfl,?_,aW k⟩
   rw [show x=.ref a from hx]
   exact .inl ⟨xs,.inl (.inl hs),p.length.symm⟩
  | tup ts =>
   obtain ⟨a,xs,hx,hs,hl,p⟩:=bN r1
   cases e
   refine ⟨x,ts.length,rfl,?_,aW k⟩
   rw [show x=.ref a from hx]
   exact .inr ⟨xs,hs,p.length.symm⟩
  | str z =>
   cases e
   refine ⟨x,z.length,rfl,?_,aW k⟩
   rw [show x=.str z from r1.1]
   exact ⟨bP (iI r1.2),rfl⟩
  | scr ns =>
   obtain ⟨a,hx,hL,hs⟩:=r1
   cases e
   refine ⟨x,ns.length,rfl,?_,aW k⟩
   rw [show x=.ref a from hx]
   exact .inl ⟨_,hs.sq,by rw [a0b]⟩
  | _=>cases e
theorem k6 {Z:Fp}{H:Hp}{G:Fp}{m:Md}:∀ ns:List Int,RepL K Z H m (ns.map T.int) (ns.map V.int) G
 | []=>rfl
 | n::ns=>⟨.int n,ns.map V.int,no,no,rfl,fun _ z=>z.elim,fun _ z=>z.elim,fun _ z=>z.elim,rfl,k6 ns⟩
theorem qU:Loc K 1 .list h fun xs H Q=>∃ p ys,xs=[.ref p]/\(SqL K H p ys\/SqT K H p ys)/\∀ l,H l=none->Q (.ref l) (upd H l (.lst ys)):=by
 intro ws w xs Z H G Q hn e r ow za k
 match ws,hn with
 | [(m,a)],_ =>
  obtain ⟨x,rfl,r1⟩:=cX rfl r
  cases a with
  | lst ts =>
   obtain ⟨a,xs,hx,hs,hl,p⟩:=bu r1
   refine ⟨a,xs,by rw [hx],.inl (.inl (.inl hs)),fun q hq=>d6 ow za hl ⟨G,fun _ z=>z,p.zmono fun _ z=>.inl z⟩ e k hq⟩
  | tup ts =>
   obtain ⟨a,xs,hx,hs,hl,p⟩:=bN r1
   refine ⟨a,xs,by rw [hx],.inr hs,fun q hq=>d6 ow za hl ⟨G,fun _ z=>z,p.zmono fun _ z=>.inl z⟩ e k hq⟩
  | scr ns =>
   obtain ⟨a,hx,hL,hs⟩:=r1
   cases e
   refine ⟨a,_,by rw [hx],.inl hs.sq,fun q hq=>bX (G':=no) ow za (fun _ z=>z.elim) (by rw [a0b]; exact hL) (k6 ns) (by simp) k hq⟩
  | _=>cases e
end
end MR
namespace MR
open L2 L3 M
open PySem (Addr Str sizeLine)
section
variable {K:a0a}{sl:Cf}{sf:Nat->Option Nat}{C:Call}{σ:L2.St}{Z Z' Z1:Fp}{H H' H1:Hp}{Fs Fs' Fs1:Fps}{η η' η1:Env}{G G' R F:Fp}
mutual
theorem Rep.sany:∀ {t:T} {v:V} {G G':Fp},Rep K Z H .s t v G->Rep K Z H .s t v G'
 | .non,_,_,_,h=>h
 | .bl _,_,_,_,h=>h
 | .int _,_,_,_,h=>h
 | .str _,_,_,_,h=>h
 | .scr _,_,_,_,h=>h
 | .tup ts,_,_,_,⟨a,xs,e,q,l,r⟩=>⟨a,xs,e,q,l,RepL.sany r⟩
 | .lst ts,_,_,_,⟨a,xs,e,l,q,r⟩=>⟨a,xs,e,l,q,RepL.sany r⟩
 | .dct _ _,_,_,_,⟨a,xs,e,l,q,n,hl,r⟩=>⟨a,xs,e,l,q,n,hl,r⟩
 | .ins _ _ _,_,_,_,h=>h
 | .gone,_,_,_,h=>h
theorem RepL.sany:∀ {ts:List T} {xs:List V} {G G':Fp},RepL K Z H .s ts xs G->RepL K Z H .s ts xs G'
 | [],_,_,_,h=>h
 | t::ts,xs,_,_,⟨x,r,G1,G2,e,h1,h2,hd,p,q⟩=>⟨x,r,no,no,e,fun _ z=>z.elim,fun _ z=>z.elim,fun _ z=>z.elim,Rep.sany p,RepL.sany q⟩
end
theorem bc:∀ (η:Env) (i j:Nat) (o:Option W),rd (wr η i o) j=if j=i/\i < η.length then o else rd η j
 | [],i,j,o=>by simp [wr,rd]
 | p::η,0,0,o=>by simp [wr,rd]
 | p::η,0,j+1,o=>by simp [wr,rd]
 | p::η,i+1,0,o=>by simp [wr,rd]
 | p::η,i+1,j+1,o=>by
  show rd (wr η i o) j=_
  rw [bc η i j o]
  simp [rd]
theorem df:∀ {η:Env} {i:Nat} {w:W},rd η i=some w->i < η.length
 | [],_,_,h=>by cases h
 | _::_,0,_,_=>by simp
 | _::η,i+1,_,h=>by have:=df (η:=η) (i:=i) h; simp; exact this
theorem ee (h:∀ a,F a->G a):Step Z H G Z H F:=(Step.refl Z H G).mono (fun _ z=>z) h
theorem xR {i j:Nat}(hs:sf i=some j)(σ:L2.St)(H:Hp)(Q:VK)(h:wE K sf C (.var i) σ H Q):rm j σ H Q:=by
 obtain ⟨pv,Z,Fs,η,w,η',A,ev,k⟩:=h
 obtain ⟨w',e1,e2⟩:=ai (show ret η ((rd η i).bind look)=_ from ev)
 cases e2
 cases e3:rd η i with
 | none=>rw [e3] at e1; cases e1
 | some u =>
  rw [e3] at e1
  obtain ⟨m,t⟩:=u
  obtain ⟨v,r,hv⟩:=A.env i m t e3
  refine ⟨v,hv.1 j hs,k v Z H Fs no A ?_ (ee fun a ha=>ha.elim id fun z=>z.elim)⟩
  cases m with
  | s=>cases e1; exact r.sany
  | d =>
   have e1':(if t.leaf=true then some (Md.d,t) else none)=some w:=e1
   split at e1'
   ·rename_i hl; cases e1'; exact r.leaf (fun _ _ _ q=>q) hl
   ·cases e1'
  | o m =>
   have e1':(if t.leaf=true then some (Md.d,t) else none)=some w:=e1
   split at e1'
   ·rename_i hl; cases e1'; exact r.leaf (fun _ _ _ q=>q) hl
   ·cases e1'
noncomputable def yi (Fs:Fps)(i:Nat):Fps:=fun j a=>j≠i/\Fs j a
theorem zB {e:E}{i j:Nat}(he:∀ η,evE C e η=ret (del η i) (rd η i))(hs:sf i=some j)(σ:L2.St)(H:Hp)(Q:VK)(h:wE K sf C e σ H Q):rm j σ H Q:=by
 obtain ⟨pv,Z,Fs,η,w,η',A,ev,k⟩:=h
 rw [he] at ev
 obtain ⟨w',e1,e2⟩:=ai ev
 cases e2
 obtain ⟨m,t⟩:=w
 obtain ⟨v,r,hv⟩:=A.env i m t e1
 refine ⟨v,hv.1 j hs,k v Z H (yi Fs i) (Fs i) ⟨⟨fun a ⟨l,h1,h2⟩=>A.gd.own a ⟨l,h2⟩,fun l l' a h1 h2=>A.gd.dis l l' a h1.2 h2.2,A.gd.zal⟩,fun l m' t' e=>?_,fun a ha=>A.gd.own a ⟨i,ha⟩,fun a ha ⟨l,h1,h2⟩=>h1 (A.gd.dis l i a h2 ha),A.lk,A.ln⟩ r (ee fun a ha=>ha.elim (fun ⟨l,h1,h2⟩=>⟨l,h2⟩) fun z=>⟨i,z⟩)⟩
 rw [bc] at e
 split at e
 ·cases e
 ·rename_i hne
  obtain ⟨v',r',hv'⟩:=A.env l m' t' e
  have hli:l≠i:=fun z=>hne ⟨z,df e1⟩
  exact ⟨v',r'.mono fun a ha=>⟨hli,ha⟩,hv'⟩
theorem fA {t:T}{v:V}(hv:∀ {Z:Fp} {H:Hp},Rep K Z H .d t v no)(σ:L2.St)(H:Hp)(Q:VK)(h:wE K sf C (.cst t) σ H Q):tC v σ H Q:=by
 obtain ⟨pv,Z,Fs,η,w,η',A,ev,k⟩:=h
 cases ev
 exact k v Z H Fs no A hv (ee fun a ha=>ha.elim id fun z=>z.elim)
theorem zH {es:List E}(hn:es.length<=LIM)(σ:L2.St)(H:Hp)(Q:VK)(h:wE K sf C (.tup es) σ H Q):Di (wL K sf C es) σ H Q:=by
 obtain ⟨pv,Z,Fs,η,w,η',A,ev,k⟩:=h
 obtain ⟨⟨ws,η1⟩,h1,h2⟩:=aa (show (evL C es η).bind kN=_ from ev)
 cases h2
 refine ⟨pv,Z,Fs,η,ws,_,A,h1,fun vs Z' H' Fs' G B r s=>?_⟩
 have hl:vs.length<=LIM:=by rw [r.length,eV h1]; exact hn
 obtain ⟨G',g1,g2⟩:=RepW.to (fun u hu=>fY hu) r
 refine ⟨bP hl,fun p hp=>lD (m:=(fg ws).up) B.own g1 hl (by rw [dw]; exact g2) (bF B s k) hp⟩
theorem zA {b:Bool}{es:List E}(hn:es.length<=LIM)(σ:L2.St)(H:Hp)(Q:VK)(h:wE K sf C (.lst b es) σ H Q):Cu (wL K sf C es) σ H Q:=by
 obtain ⟨pv,Z,Fs,η,w,η',A,ev,k⟩:=h
 obtain ⟨⟨ws,η1⟩,h1,h2⟩:=aa (show (evL C es η).bind (qu b)=_ from ev)
 cases h2
 refine ⟨pv,Z,Fs,η,ws,_,A,h1,fun vs Z' H' Fs' G B r s=>?_⟩
 have hl:vs.length<=LIM:=by rw [r.length,eV h1]; exact hn
 refine ⟨bP hl,fun p hp=>?_⟩
 cases b with
 | true =>
  obtain ⟨G',g1,g2⟩:=RepW.to (fun u hu=>fY hu) r
  exact bX (m:=(fg ws).up) B.own B.gd.zal g1 hl (by rw [dw]; exact g2) (b9 _) (bF B s k) hp
 | false =>
  obtain ⟨G',g1,g2⟩:=RepW.to (N:=.s) (fun u hu=>by cases lf u.1 u.2<;>rfl) r
  exact bX (m:=.o .s) B.own B.gd.zal g1 hl g2 (by simp) (bF B s k) hp
noncomputable def wT (K:a0a)(sl:Nat->Option Nat)(C:Call)(e:E):TT:=fun σ H Q=>∃ pv Z Fs η w η' b,At K ⟨sl,pv⟩ σ Z H Fs η no/\evE C e η=.ok (w,η')/\truth w.2=some b /\
 ∀ Z' H' Fs',At K ⟨sl,pv⟩ σ Z' H' Fs' η' no->Step Z H (tot Fs) Z' H' (tot Fs')->Q b H'
noncomputable def TrV (K:a0a)(x:V)(H:Hp)(k:Bool):Prop :=
 match x with
 | .non=>k=false
 | .bl b=>k=b
 | .int i=>k=(i != 0)
 | .str y=>y.length<=sizeLine/\k=((y.length:Int) != 0)
 | .ref p=>(∃ xs,SqL K H p xs/\k=!xs.isEmpty)\/(∃ xs,SqT K H p xs/\k=!xs.isEmpty)
 | _=>False
theorem cM {α β:Type}{xs:List α}{ys:List β}(h:xs.length=ys.length):xs.isEmpty=ys.isEmpty:=by
 cases xs<;>cases ys<;>first | rfl | simp at h
theorem d9 {m:Md}{t:T}{v:V}{b:Bool}(e:truth t=some b)(r:Rep K Z H m t v G):TrV K v H b:=by
 cases t with
 | non=>cases e; rw [show v=_ from r]; rfl
 | bl c=>cases e; rw [show v=_ from r]; rfl
 | int i=>cases e; rw [show v=_ from r]; rfl
 | str x =>
  cases e; rw [show v=_ from r.1]
  refine ⟨bP (iI r.2),?_⟩
  show (x.cps.size != 0)=(((x.cps.size:Nat):Int) != 0)
  cases x.cps.size with
  | zero=>rfl
  | succ n=>simp; omega
 | tup ts =>
  obtain ⟨a,xs,rfl,hs,hl,p⟩:=bN r
  cases e
  exact .inr ⟨xs,hs,by rw [cM p.length]⟩
 | lst ts =>
  obtain ⟨a,xs,rfl,hs,hl,p⟩:=bu r
  cases e
  exact .inl ⟨xs,.inl (.inl hs),by rw [cM p.length]⟩
 | scr ns =>
  obtain ⟨a,rfl,hL,hs⟩:=r
  cases e
  exact .inl ⟨_,hs.sq,by rw [cM (a0b ..)]⟩
 | dct _ _=>cases e
 | ins _ _ _=>cases e
 | gone=>cases e
theorem nR {e:E}{w:W}{b:Bool}{Q:Bool->Hp->Prop}(A:At K sl σ Z H Fs η no)(ev:evE C e η=.ok (w,η'))(ht:truth w.2=some b)(k:∀ Z' H' Fs',At K sl σ Z' H' Fs' η' no->Step Z H (tot Fs) Z' H' (tot Fs')->Q b H'):wT K sl.sl C e σ H Q:=⟨sl.pv,Z,Fs,η,w,η',b,A,ev,ht,k⟩
theorem bK {α:Type}{f g:Env->Res α}{p:W×Env}{r:α}(h:onT f g p=.ok r):∃ b,truth p.1.2=some b/\(if b=true then f p.2 else g p.2)=.ok r:=by
 unfold onT at h
 split at h
 ·rename_i e; exact ⟨true,e,h⟩
 ·rename_i e; exact ⟨false,e,h⟩
 ·cases h
theorem xW {e:E}(σ:L2.St)(H:Hp)(Q:Bool->Hp->Prop)(h:wT K sf C (.not e) σ H Q):CN (wT K sf C e) σ H Q:=by
 obtain ⟨pv,Z,Fs,η,w,η',b,A,ev,ht,k⟩:=h
 obtain ⟨⟨u,η1⟩,h1,h2⟩:=aa (show (evE C e η).bind nA=_ from ev)
 obtain ⟨w',e1,e2⟩:=ai (show ret η1 ((truth u.2).map fun b=>((.d,.bl (!b)):W))=_ from h2)
 cases e2
 cases e3:truth u.2 with
 | none=>rw [e3] at e1; cases e1
 | some c =>
  rw [e3] at e1; cases e1
  have:b=!c:=by cases ht; rfl
  subst this
  exact nR A h1 e3 k
theorem ze {a b:E}(σ:L2.St)(H:Hp)(Q:Bool->Hp->Prop)(h:wT K sf C (.and a b) σ H Q):D5 (wT K sf C a) (wT K sf C b) σ H Q:=by
 obtain ⟨pv,Z,Fs,η,w,η',c,A,ev,ht,k⟩:=h
 obtain ⟨⟨u,η1⟩,h1,h2⟩:=aa (show (evE C a η).bind (m5 (evE C b))=_ from ev)
 obtain ⟨d,h3,h4⟩:=bK (show onT (evE C b) (okW u) (u,η1)=_ from h2)
 refine nR A h1 h3 fun Z1 H1 Fs1 A1 s1=>?_
 cases d with
 | true=>rw [if_pos rfl] at h4 ⊢; exact nR A1 h4 ht fun Z2 H2 Fs2 A2 s2=>k Z2 H2 Fs2 A2 (s1.trans s2)
 | false =>
  rw [if_neg a0l] at h4 ⊢
  cases h4
  cases (h3.symm.trans ht)
  exact k Z1 H1 Fs1 A1 s1
theorem DZ {a b:E}(σ:L2.St)(H:Hp)(Q:Bool->Hp->Prop)(h:wT K sf C (.or a b) σ H Q):tOr (wT K sf C a) (wT K sf C b) σ H Q:=by
 obtain ⟨pv,Z,Fs,η,w,η',c,A,ev,ht,k⟩:=h
 obtain ⟨⟨u,η1⟩,h1,h2⟩:=aa (show (evE C a η).bind (kOr (evE C b))=_ from ev)
 obtain ⟨d,h3,h4⟩:=bK (show onT (okW u) (evE C b) (u,η1)=_ from h2)
 refine nR A h1 h3 fun Z1 H1 Fs1 A1 s1=>?_
 cases d with
 | false=>rw [if_neg a0l] at h4 ⊢; exact nR A1 h4 ht fun Z2 H2 Fs2 A2 s2=>k Z2 H2 Fs2 A2 (s1.trans s2)
 | true =>
  rw [if_pos rfl] at h4 ⊢
  cases h4
  cases (h3.symm.trans ht)
  exact k Z1 H1 Fs1 A1 s1
theorem xK {c a b:E}(σ:L2.St)(H:Hp)(Q:VK)(h:wE K sf C (.ifx c a b) σ H Q):tIf (wT K sf C c) (wE K sf C a) (wE K sf C b) σ H Q:=by
 obtain ⟨pv,Z,Fs,η,w,η',A,ev,k⟩:=h
 obtain ⟨⟨u,η1⟩,h1,h2⟩:=aa (show (evE C c η).bind (onT (evE C a) (evE C b))=_ from ev)
 obtain ⟨d,h3,h4⟩:=bK h2
 refine nR A h1 h3 fun Z1 H1 Fs1 A1 s1=>?_
 cases d with
 | true=>rw [if_pos rfl] at h4 ⊢; exact ⟨pv,Z1,Fs1,η1,w,η',A1,h4,fun v Z' H' Fs' G B r s=>k v Z' H' Fs' G B r (s1.trans s)⟩
 | false=>rw [if_neg a0l] at h4 ⊢; exact ⟨pv,Z1,Fs1,η1,w,η',A1,h4,fun v Z' H' Fs' G B r s=>k v Z' H' Fs' G B r (s1.trans s)⟩
theorem xC {e:E}(σ:L2.St)(H:Hp)(Q:VK)(h:wE K sf C (.not e) σ H Q):wE K sf C e σ H fun x H1=>∃ k,TrV K x H1 k/\Q (.bl (!k)) H1:=by
 obtain ⟨pv,Z,Fs,η,w,η',A,ev,k⟩:=h
 obtain ⟨⟨u,η1⟩,h1,h2⟩:=aa (show (evE C e η).bind nA=_ from ev)
 obtain ⟨w',e1,e2⟩:=ai (show ret η1 ((truth u.2).map fun b=>((.d,.bl (!b)):W))=_ from h2)
 cases e2
 cases e3:truth u.2 with
 | none=>rw [e3] at e1; cases e1
 | some c =>
  rw [e3] at e1; cases e1
  exact ⟨pv,Z,Fs,η,u,_,A,h1,fun v Z' H' Fs' G B r s=>⟨c,d9 e3 r,k _ Z' H' Fs' no B.bare rfl (s.mono (fun _ z=>z) fun a ha=>ha.elim .inl fun z=>z.elim)⟩⟩
theorem AD {a b:E}(σ:L2.St)(H:Hp)(Q:VK)(h:wE K sf C (.and a b) σ H Q):wE K sf C a σ H fun x H1=>∃ k,TrV K x H1 k/\if k=true then wE K sf C b σ H1 Q else Q x H1:=by
 obtain ⟨pv,Z,Fs,η,w,η',A,ev,k⟩:=h
 obtain ⟨⟨u,η1⟩,h1,h2⟩:=aa (show (evE C a η).bind (m5 (evE C b))=_ from ev)
 obtain ⟨d,h3,h4⟩:=bK (show onT (evE C b) (okW u) (u,η1)=_ from h2)
 refine ⟨pv,Z,Fs,η,u,η1,A,h1,fun v Z1 H1 Fs1 G B r s=>⟨d,d9 h3 r,?_⟩⟩
 cases d with
 | true=>rw [if_pos rfl] at h4 ⊢; exact ⟨pv,Z1,Fs1,η1,w,η',B.bare,h4,fun v' Z' H' Fs' G' B' r' s'=>k v' Z' H' Fs' G' B' r' ((s.mono (fun _ z=>z) fun _ z=>.inl z).trans s')⟩
 | false =>
  rw [if_neg a0l] at h4 ⊢
  cases h4
  exact k v Z1 H1 Fs1 G B r s
end
end MR
namespace MR
open L2 L3 M
open PySem (Addr Str sizeLine)
section
variable {K:a0a}{sl:Cf}{sf:Nat->Option Nat}{C:Call}{σ:L2.St}{Z Z' Z1:Fp}{H H' H1:Hp}{Fs Fs' Fs1:Fps}{η η' η1:Env}{G G' R F:Fp}
structure Wk (K:a0a)(J:It)(Z:Fp)(H0:Hp)(ts:List (List W)):Prop where
 go:∀ H i,Stay Z H0 H->i < ts.length->J.go i H
 stop:∀ H i,Stay Z H0 H->ts.length<=i->J.stop i H
 len:ts.length<=LIM
noncomputable def qe (K:a0a)(J:It)(Z:Fp)(H0:Hp)(ts:List (List W)):Prop :=
 ∀ H i x H',Stay Z H0 H->i < ts.length->J.yld i H x H'->H'=H/\∃ w,ts[i]?=some [w]/\Rep K Z H w.1 w.2 x no
noncomputable def EW (K:a0a)(J:It)(Z:Fp)(H0:Hp)(ts:List (List W)):Prop :=
 ∀ H i x H',Stay Z H0 H->i < ts.length->J.yld i H x H'->∃ p y z u w,x=.ref p/\(∀ b o,H b=some o->H' b=some o)/\SqT K H' p [y,z]/\ts[i]?=some [u,w]/\Rep K Z H u.1 u.2 y no/\Rep K Z H w.1 w.2 z no
theorem jW (same:∀ b o,H b=some o->H' b=some o):Stay Z H H':=by
 refine ⟨fun a o _ e=>same a o e,fun a ys e=>?_,fun a o u e=>same a _ e⟩
 rcases e with e | ⟨u,e⟩
 ·exact .inl (same a _ e)
 ·exact .inr ⟨u,same a _ e⟩
theorem fF (same:∀ a o,H a=some o->H' a=some o):Step Z H G Z H' G:=by
 have al:∀ a,H a≠none->H' a≠none:=fun a h=>by
  cases e:H a with
  | none=>exact absurd e h
  | some o=>rw [same a o e]; simp
 exact ⟨fun a o h _=>same a o h,fun _ h=>h,fun _ h=>.inl h,fun _ h=>.inl h,al,fun z a h=>al a (z a h)⟩
theorem xO {p:Addr}{o:HO}(hp:H p=none):∀ b u,H b=some u->upd H p o b=some u:=fun a u e=>by
 have:a≠p:=fun q=>by subst q; rw [hp] at e; cases e
 rw [af this]; exact e
noncomputable def Yld (K:a0a)(J:It)(Z:Fp)(H0:Hp)(ts:List (List W)):Nat->Prop
 | 1=>qe K J Z H0 ts
 | 2=>EW K J Z H0 ts
 | _=>False
noncomputable def wI (K:a0a)(sl:Nat->Option Nat)(C:Call)(n:Nat)(k:Ik)(src:List E):TI:=fun σ H R=>∃ pv Z Fs η ws η' ts,At K ⟨sl,pv⟩ σ Z H Fs η no/\evL C src η=.ok (ws,η')/\bf k ws=some ts /\
 ∀ J Z' H' Fs',At K ⟨sl,pv⟩ σ Z' H' Fs' η' no->Step Z H (tot Fs) Z' H' (tot Fs')->Wk K J Z' H' ts->Yld K J Z' H' ts n->R J H'
theorem At.freeze (A:At K sl σ Z H Fs η G):At K sl σ (fun a=>Z a\/G a) H Fs η no:=by
 refine ⟨⟨fun a ha=>⟨fun z=>z.elim (A.gd.own a ha).1 fun q=>A.dis a q ha,(A.gd.own a ha).2⟩,A.gd.dis,fun a h=>h.elim (A.gd.zal a) fun q=>?_⟩,fun i m t e=>?_,bG,fun _ z=>z.elim,A.lk,A.ln⟩
 ·obtain ⟨_,xs,e⟩:=A.own a q
  rw [e]; simp
 ·obtain ⟨v,r,h⟩:=A.env i m t e
  exact ⟨v,r.zmono fun a h=>.inl h,h⟩
theorem aU (o:Own Z' H' G)(s:Step Z H F Z' H' (fun a=>F' a\/G a)):Step Z H F (fun a=>Z' a\/G a) H' F' where
 keep:=s.keep
 zm:=fun a h=>.inl (s.zm a h)
 zn:=fun a h=>h.elim (s.zn a) fun q=>.inr (s.fn a (.inr q))
 fn:=fun a h=>s.fn a (.inl h)
 al:=s.al
 za:=fun z a h=>h.elim (s.za z a) fun q=>by
  obtain ⟨_,xs,e⟩:=o a q
  rw [e]; simp
theorem cV {a:Addr}{xs:List V}{H0:Hp}(s:Stay Z H0 H)(hz:Z a)(h:H0 a=some (.lst xs)):SqL K H a xs:=.inl (.inl (s.1 a _ hz h))
theorem tG {a:Addr}{xs:List V}{ts:List T}(hL:xs.length<=LIM)(hz:Z a)(h:H a=some (.lst xs))(r:RepL K Z H .s ts xs no):Wk K (Itl K a) Z H (ts.map fun t=>[(.s,t)])/\qe K (Itl K a) Z H (ts.map fun t=>[(.s,t)]):=by
 have hl:=r.length
 refine ⟨⟨fun H' i s hi=>?_,fun H' i s hi=>?_,by rw [a0b]; omega⟩,fun H' i x H'' s hi y=>?_⟩
 ·rw [a0b] at hi
  exact ⟨xs,xs[i]'(by omega),cV s hz h,by simp⟩
 ·rw [a0b] at hi
  exact ⟨xs,cV s hz h,by omega⟩
 ·rw [a0b] at hi
  obtain ⟨rfl,y⟩:=y
  have hx:=y xs (cV s hz h)
  obtain ⟨x',hx',rx⟩:=r.get (show ts[i]?=some ts[i] by simp)
  rw [hx] at hx'; cases hx'
  refine ⟨rfl,(.s,ts[i]),by rw [a0y,show ts[i]?=some ts[i] by simp]; rfl,rx.keep s (fun _ z=>z) fun _ _ z=>z.elim⟩
theorem Ap {a:Addr}{xs:List V}{ts:List T}(hL:xs.length<=LIM)(h:SqT K H a xs)(r:RepL K Z H .s ts xs no):Wk K (Itt K a) Z H (ts.map fun t=>[(.s,t)])/\qe K (Itt K a) Z H (ts.map fun t=>[(.s,t)]):=by
 have hl:=r.length
 refine ⟨⟨fun H' i s hi=>?_,fun H' i s hi=>?_,by rw [a0b]; omega⟩,fun H' i x H'' s hi y=>?_⟩
 ·rw [a0b] at hi
  exact ⟨xs,xs[i]'(by omega),s.sqt h,by simp⟩
 ·rw [a0b] at hi
  exact ⟨xs,s.sqt h,by omega⟩
 ·rw [a0b] at hi
  obtain ⟨rfl,y⟩:=y
  have hx:=y xs (s.sqt h)
  obtain ⟨x',hx',rx⟩:=r.get (show ts[i]?=some ts[i] by simp)
  rw [hx] at hx'; cases hx'
  refine ⟨rfl,(.s,ts[i]),by rw [a0y,show ts[i]?=some ts[i] by simp]; rfl,rx.keep s (fun _ z=>z) fun _ _ z=>z.elim⟩
theorem rA {lo:Int}{n:Nat}(hL:n<=LIM):Wk K (Itr lo n) Z H ((a0F n).map fun (k:Nat)=>[(.d,.int (lo+k))])/\qe K (Itr lo n) Z H ((a0F n).map fun (k:Nat)=>[(.d,.int (lo+k))]):=by
 refine ⟨⟨fun H' i s hi=>by show i < n; simpa using hi,fun H' i s hi=>by show n<=i; simpa using hi,by simpa using hL⟩,fun H' i x H'' s hi y=>?_⟩
 obtain ⟨rfl,rfl⟩:=y
 refine ⟨rfl,(.d,.int (lo+i)),?_,rfl⟩
 rw [a0b,a1E] at hi
 rw [a0y,List.getElem?_range hi]
 rfl
theorem j5 {a:Addr}{ns:List Int}{H0:Hp}(s:Stay Z H0 H)(h:ScrR K H0 a ns):SqL K H a (ns.map V.int):=(h.keep s.2.2).sq
theorem Br {a:Addr}{ns:List Int}(hL:ns.length<=LIM)(h:ScrR K H a ns):Wk K (Itl K a) Z H (ns.map fun n=>[(.d,.int n)])/\qe K (Itl K a) Z H (ns.map fun n=>[(.d,.int n)]):=by
 refine ⟨⟨fun H' i s hi=>?_,fun H' i s hi=>?_,by rw [a0b]; exact hL⟩,fun H' i x H'' s hi y=>?_⟩
 ·rw [a0b] at hi
  exact ⟨_,(ns.map V.int)[i]'(by rw [a0b]; exact hi),j5 s h,by simp⟩
 ·rw [a0b] at hi
  exact ⟨_,j5 s h,by rw [a0b]; exact hi⟩
 ·rw [a0b] at hi
  obtain ⟨rfl,y⟩:=y
  have hx:=y _ (j5 s h)
  refine ⟨rfl,(.d,.int ns[i]),by rw [a0y,show ns[i]?=some ns[i] by simp]; rfl,?_⟩
  rw [a0y,show ns[i]?=some ns[i] by simp] at hx
  exact (a0u hx).symm
theorem xI {e:E}(σ:L2.St)(H:Hp)(R:It->Hp->Prop)(h:wI K sf C 1 .seq [e] σ H R):qE K (wE K sf C e) σ H R\/BN K (wE K sf C e) σ H R:=by
 obtain ⟨pv,Z,Fs,η,ws,η',ts,A,ev,ht,k⟩:=h
 obtain ⟨⟨m,a⟩,η1,us,e1,e2,rfl⟩:=ay ev
 cases e2
 cases a with
 | lst ts' =>
  cases ht
  refine .inl ⟨pv,Z,Fs,η,_,_,A,e1,fun v Z' H' Fs' G B r s=>?_⟩
  obtain ⟨a,xs,rfl,l,q,p⟩:=Rep.sh r
  obtain ⟨w1,w2⟩:=tG l q.1 q.2 p.sany
  exact ⟨a,rfl,⟨xs,.inl (.inl q.2)⟩,k _ _ H' Fs' B.freeze (aU B.own s) w1 w2⟩
 | tup ts' =>
  cases ht
  refine .inr ⟨pv,Z,Fs,η,_,_,A,e1,fun v Z' H' Fs' G B r s=>?_⟩
  obtain ⟨a,xs,rfl,q,l,p⟩:=Rep.sh r
  obtain ⟨w1,w2⟩:=Ap l q p.sany
  exact ⟨a,rfl,⟨xs,q⟩,k _ _ H' Fs' B.freeze (aU B.own s) w1 w2⟩
 | scr ns =>
  cases ht
  refine .inl ⟨pv,Z,Fs,η,_,_,A,e1,fun v Z' H' Fs' G B r s=>?_⟩
  obtain ⟨a,rfl,hl,q⟩:=r
  obtain ⟨w1,w2⟩:=Br (Z:=fun a=>Z' a\/G a) hl q
  exact ⟨a,rfl,⟨_,q.sq⟩,k _ _ H' Fs' B.freeze (aU B.own s) w1 w2⟩
 | _=>cases ht
theorem p62:(2:Int) ^ 62=4611686018427387904:=by decide
theorem tD {e:E}(σ:L2.St)(H:Hp)(R:It->Hp->Prop)(h:wI K sf C 1 .rng [e] σ H R):wN (wL K sf C [e]) σ H R:=by
 obtain ⟨pv,Z,Fs,η,ws,η',ts,A,ev,ht,k⟩:=h
 refine ⟨pv,Z,Fs,η,ws,η',A,ev,fun vs Z' H' Fs' G B r s=>?_⟩
 obtain ⟨⟨m,a⟩,η1,us,e1,e2,rfl⟩:=ay ev
 cases e2
 obtain ⟨x,rfl,r1⟩:=cX rfl r
 cases a with
 | int n =>
  rw [oq] at ht
  split at ht
  ·rename_i hc
   rw [a0d,decide_eq_true_eq] at hc
   cases ht
   refine ⟨n,by rw [show x=_ from r1],by rw [p62]; omega,by rw [p62]; omega,?_⟩
   obtain ⟨w1,w2⟩:=rA (K:=K) (Z:=fun a=>Z' a\/G a) (H:=H') (lo:=0) (n:=n.toNat) (cA hc.2)
   have hz:∀ k:Nat,(0:Int)+(k:Int)=k:=fun k=>by omega
   simp only [hz] at w1 w2
   exact k _ _ H' Fs' B.freeze (aU B.own s) w1 w2
  ·cases ht
 | _=>cases ht
theorem uD {e e':E}(σ:L2.St)(H:Hp)(R:It->Hp->Prop)(h:wI K sf C 1 .rng [e,e'] σ H R):wO (wL K sf C [e,e']) σ H R:=by
 obtain ⟨pv,Z,Fs,η,ws,η',ts,A,ev,ht,k⟩:=h
 refine ⟨pv,Z,Fs,η,ws,η',A,ev,fun vs Z' H' Fs' G B r s=>?_⟩
 obtain ⟨⟨m,a⟩,η1,us,e1,e2,rfl⟩:=ay ev
 obtain ⟨⟨n,b⟩,η2,us,e3,e4,rfl⟩:=ay e2
 cases e4
 obtain ⟨x,y,hx⟩:∃ x y,vs=[x,y]:=eP (x:=()) (y:=()) (show vs.length=[(),()].length from r.length)
 subst hx
 obtain ⟨G1,G2,_,_,_,r1,r2⟩:=cI r
 cases a with
 | int i =>
  cases b with
  | int j =>
   have ht':(if decide (i.natAbs < 4611686018427387904)&&decide (j.natAbs < 4611686018427387904)&&fits (j-i).toNat then some ((a0F (j-i).toNat).map fun (k:Nat)=>[((.d,.int (i+k)):W)]) else none)=some ts:=ht
   split at ht'
   ·rename_i hc
    rw [a0d,a0d,decide_eq_true_eq,decide_eq_true_eq] at hc
    cases ht'
    refine ⟨i,j,by rw [show x=_ from r1,show y=_ from r2],by rw [p62]; omega,?_⟩
    obtain ⟨w1,w2⟩:=rA (K:=K) (Z:=fun a=>Z' a\/G a) (H:=H') (lo:=i) (n:=(j-i).toNat) (cA hc.2)
    exact k _ _ H' Fs' B.freeze (aU B.own s) w1 w2
   ·cases ht'
  | _=>cases ht
 | _=>cases b<;>cases ht
theorem gE {m:Md}:∀ {ts:List T} {n i:Nat} {t:T},ts[i]?=some t->(dm m n ts)[i]?=some [(.d,.int ((n+i:Nat):Int)),(m,t)]
 | t::ts,n,0,_,h=>by cases h; rfl
 | t::ts,n,i+1,_,h=>by
  have:=gE (m:=m) (ts:=ts) (n:=n+1) (i:=i) h
  rw [show n+1+i=n+(i+1) by omega] at this
  exact this
 | [],_,_,_,h=>by simp at h
theorem b8 {m:Md}:∀ {ts:List T} {n:Nat},(dm m n ts).length=ts.length
 | [],_=>rfl
 | t::ts,n=>by show (dm m (n+1) ts).length+1=ts.length+1; rw [b8]
theorem gf:∀ {ts:List T} {ps:List (List W)} {i:Nat} {t:T},bI ts=some ps->ts[i]?=some t->∃ x y,t=.tup [x,y]/\ps[i]?=some [(.s,x),(.s,y)]
 | [],_,_,_,_,h=>by simp at h
 | u::ts,ps,i,t,e,h=>by
  match u,e with
  | .tup [x,y],e =>
   have e':(bI ts).map ([(.s,x),(.s,y)]::·)=some ps:=e
   cases e1:bI ts with
   | none=>rw [e1] at e'; cases e'
   | some qs =>
    rw [e1] at e'
    cases e'
    cases i with
    | zero=>cases h; exact ⟨x,y,rfl,rfl⟩
    | succ i=>exact gf (ts:=ts) (ps:=qs) (i:=i) e1 h
theorem fV:∀ {ts:List T} {ps:List (List W)},bI ts=some ps->ps.length=ts.length
 | [],_,e=>by cases e; rfl
 | u::ts,ps,e=>by
  match u,e with
  | .tup [x,y],e =>
   have e':(bI ts).map ([(.s,x),(.s,y)]::·)=some ps:=e
   cases e1:bI ts with
   | none=>rw [e1] at e'; cases e'
   | some qs =>
    rw [e1] at e'
    cases e'
    rw [a0g,a0g,fV e1]
theorem yD {e:E}(σ:L2.St)(H:Hp)(R:It->Hp->Prop)(h:wI K sf C 2 .sq2 [e] σ H R):qE K (wE K sf C e) σ H R:=by
 obtain ⟨pv,Z,Fs,η,ws,η',ts,A,ev,ht,k⟩:=h
 obtain ⟨⟨m,a⟩,η1,us,e1,e2,rfl⟩:=ay ev
 cases e2
 obtain ⟨t1,rfl⟩:∃ t1,a=.lst t1:=by cases a<;>first | exact ⟨_,rfl⟩ | cases ht
 have ht':bI t1=some ts:=ht
 have hlen:=fV ht'
 refine ⟨pv,Z,Fs,η,_,_,A,e1,fun v Z' H' Fs' G B r s=>?_⟩
 obtain ⟨a,xs,rfl,l,q,p⟩:=Rep.sh r
 have hl:=p.length
 refine ⟨a,rfl,⟨xs,.inl (.inl q.2)⟩,k _ _ H' Fs' B.freeze (aU B.own s) ⟨fun H0 i s hi=>?_,fun H0 i s hi=>?_,by omega⟩ fun H0 i x H1 s hi y=>?_⟩
 ·exact ⟨xs,xs[i]'(by omega),cV s q.1 q.2,by simp⟩
 ·exact ⟨xs,cV s q.1 q.2,by omega⟩
 ·obtain ⟨rfl,y⟩:=y
  have hx:=y xs (cV s q.1 q.2)
  have hi':i < t1.length:=by omega
  obtain ⟨x',hx',rx⟩:=p.get (show t1[i]?=some t1[i] by simp)
  rw [hx] at hx'; cases hx'
  obtain ⟨u,w,et,eu⟩:=gf ht' (show t1[i]?=some t1[i] by simp)
  rw [et] at rx
  obtain ⟨c,ys,rfl,hq,_,y1,r1,G1,G2,rfl,g1,g2,d,p1,y2,r2,G3,G4,e2,g3,g4,d2,p2,q2⟩:=rx
  cases e2
  obtain rfl:r2=[]:=q2
  refine ⟨c,y1,y2,(.s,u),(.s,w),rfl,fun _ _ e=>e,s.sqt hq,eu,(p1.mono (G':=no) fun a h=>(g1 a h).1).sany.keep s (fun _ z=>z) fun _ _ z=>z.elim,(p2.mono (G':=no) fun a h=>(g2 a (g3 a h)).1).sany.keep s (fun _ z=>z) fun _ _ z=>z.elim⟩
end
end MR
namespace MR
open L2 L3 M
open PySem (Addr Str sizeLine)
section
variable {K:a0a}{sl:Cf}{sf sg:Nat->Option Nat}{C:Call}{σ σ2:L2.St}{Z Z' Z1:Fp}{H H' H1:Hp}{Fs Fs' Fs1:Fps}{η η' η1:Env}{G G' R F:Fp}{tg is:List Nat}{pv val:Nat->Option V}
theorem az:∀ (tg:List Nat) (η:Env) (i:Nat),rd (ah tg η) i=if i∈tg then none else rd η i
 | [],η,i=>by simp [ah]
 | t::tg,η,i=>by
  show rd (ah tg (wr η t none)) i=_
  rw [az tg,bc]
  by_cases h1:i∈tg
  ·simp [h1]
  ·by_cases h2:i=t
   ·subst h2
    rw [if_neg h1,if_pos a0k]
    split
    ·rfl
    ·rename_i hn
     cases e:rd η i with
     | none=>rfl
     | some w=>exact absurd ⟨rfl,df e⟩ hn
   ·rw [if_neg h1,if_neg (show ¬ i∈t::tg by simp [h1,h2]),if_neg (show ¬ (i=t/\t < η.length) from fun h=>h2 h.1)]
noncomputable def Nn (η η':Env):Prop:=∀ i,rd η i=none->rd η' i=none
theorem Nn.refl (η:Env):Nn η η:=fun _ h=>h
theorem Nn.trans {a b c:Env}(h:Nn a b)(k:Nn b c):Nn a c:=fun i e=>k i (h i e)
theorem iF (η:Env)(j:Nat):Nn η (del η j):=fun i e=>by
 rw [bc]; split
 ·rfl
 ·exact e
theorem ke {η:Env}{j:Nat}{w:W}(h:rd η j≠none):Nn η (put η j w):=fun i e=>by
 rw [bc]; split
 ·rename_i hc; rw [<- hc.1] at h; exact absurd e h
 ·exact e
theorem eo:∀ {is:List Nat} {ws:List W} {η0 η:Env},(∀ i∈is,rd η0 i≠none)->Nn η0 η->Nn η0 (putAll is ws η)
 | [],_,_,_,_,h=>h
 | _::_,[],_,_,_,h=>h
 | i::is,w::ws,η0,η,hi,h=>by
  show Nn η0 (putAll is ws (put η i w))
  refine eo (fun j hj=>hi j (a0f _ hj)) fun j e=>?_
  rw [bc]; split
  ·rename_i hc; rw [hc.1] at e; exact absurd e (hi i a0k)
  ·exact h j e
theorem dE {f:Env->Res (Option W×Env)}(hf:∀ {η o η'},f η=.ok (o,η')->Nn η η'):∀ {ts:List (List W)} {η η':Env} {acc ws:List W},(∀ i∈tg,rd η i=none)->aX tg f ts η acc=.ok (ws,η')->Nn η η'
 | [],η,η',acc,ws,_,h=>by cases h; exact Nn.refl _
 | t::ts,η,η',acc,ws,ht,h=>by
  obtain ⟨η1,h1,h2⟩:=aa (show (ofO (aY tg t η)).bind (fun η1=>(f η1).bind fun p=>aX tg f ts (ah tg p.2) (acc++p.1.toList))=_ from h)
  obtain ⟨⟨o,η2⟩,h3,h4⟩:=aa h2
  have hb:∀ {tg:List Nat} {t:List W} {η η1:Env},aY tg t η=some η1->∀ i,i ∉ tg->rd η1 i=rd η i:=fun {tg}=>by
   induction tg with
   | nil=>intro t η η1 h i hi; cases t with
    | nil=>cases h; rfl
    | cons _ _=>cases h
   | cons j tg ih=>intro t η η1 h i hi; cases t with
    | nil=>cases h
    | cons w t =>
     have:=ih (show aY tg t (put η j w)=some η1 from h) i (fun z=>hi (a0f _ z))
     rw [this,bc,if_neg fun z=>hi (by rw [z.1]; exact a0k)]
  have e1:=hb (bU h1)
  have hd:∀ i,rd η i=none->rd (ah tg η2) i=none:=fun i e=>by
   rw [az]
   split
   ·rfl
   ·rename_i hi
    exact hf h3 i (by rw [e1 i hi]; exact e)
  exact Nn.trans (b:=ah tg η2) hd (dE hf (fun i hi=>by rw [az,if_pos hi]) h4)
noncomputable def gI (sf sg:Nat->Option Nat)(tg:List Nat)(is:List Nat):Prop :=
 ∀ i j,sg i=some j->(∃ k:Nat,tg[k]?=some i/\j=k)\/(i ∉ tg/\∃ (k j0:Nat),j=tg.length+k/\is[k]?=some j0/\sf i=some j0)
theorem At.pin (A:At K ⟨sf,pv⟩ σ Z H Fs η G):∃ val,(∀ i u,pv i=some u->val i=some u)/\At K ⟨sf,val⟩ σ Z H Fs η G/\∀ i m t,rd η i=some (m,t)->val i≠none:=by
 have ch:∀ i,∃ o:Option V,(∀ u,pv i=some u->o=some u)/\(∀ u j,o=some u->sf i=some j->σ[j]?=some (some u))/\∀ m t,rd η i=some (m,t)->∃ v,o=some v/\Rep K Z H m t v (Fs i)/\(∀ j,sf i=some j->σ[j]?=some (some v)):=fun i=>by
  cases e:rd η i with
  | none=>exact ⟨pv i,fun _ h=>h,fun u j h hs=>A.lk i u j h hs,fun _ _ h=>by cases h⟩
  | some w =>
   obtain ⟨m,t⟩:=w
   obtain ⟨v,r,h1,h2⟩:=A.env i m t e
   refine ⟨some v,fun u h=>by rw [h2 u h],fun u j h hs=>?_,fun m' t' h=>by cases h; exact ⟨v,rfl,r,h1⟩⟩
   cases h
   exact h1 j hs
 obtain ⟨val,hval⟩:=Classical.axiomOfChoice ch
 refine ⟨val,fun i u h=>(hval i).1 u h,⟨A.gd,fun i m t e=>?_,A.own,A.dis,fun i u j h hs=>(hval i).2.1 u j h hs,A.ln⟩,fun i m t e=>?_⟩
 ·obtain ⟨v,h1,r,h2⟩:=(hval i).2.2 m t e
  exact ⟨v,r,h2,fun u hu=>by rw [show val i=some u from hu] at h1; cases h1; rfl⟩
 ·obtain ⟨v,h1,r,h2⟩:=(hval i).2.2 m t e
  rw [h1]; simp
theorem At.unpin (h:∀ i u,pv i=some u->val i=some u)(A:At K ⟨sf,val⟩ σ Z H Fs η G):At K ⟨sf,pv⟩ σ Z H Fs η G :=
 ⟨A.gd,fun i m t e=>let ⟨v,r,h1,h2⟩:=A.env i m t e; ⟨v,r,h1,fun u hu=>h2 u (h i u hu)⟩,A.own,A.dis,fun i u j hu hs=>A.lk i u j (h i u hu) hs,A.ln⟩
noncomputable def inV (val:Nat->Option V)(tg:List Nat):Nat->Option V:=fun i=>if i∈tg then none else val i
theorem At.into (I:gI sf sg tg is)(ht:∀ i∈tg,rd η i=none)(hσ:∀ (k j0:Nat) (v:V),is[k]?=some j0->σ[j0]?=some (some v)->σ2[tg.length+k]?=some (some v))(hl:∀ i j,sg i=some j->j < σ2.length)(A:At K ⟨sf,val⟩ σ Z H Fs η G):At K ⟨sg,inV val tg⟩ σ2 Z H Fs η G:=by
 refine ⟨A.gd,fun i m t e=>?_,A.own,A.dis,fun i u j hu hs=>?_,hl⟩
 ·have hi:i ∉ tg:=fun h=>by rw [ht i h] at e; cases e
  obtain ⟨v,r,h1,h2⟩:=A.env i m t e
  refine ⟨v,r,fun j hj=>?_,fun u hu=>h2 u (by have h3:inV val tg i=some u:=hu; unfold inV at h3; rw [if_neg hi] at h3; exact h3)⟩
  rcases I i j hj with ⟨k,hk,_⟩ | ⟨_,k,j0,rfl,hk,hs⟩
  ·exact absurd (a1l hk) hi
  ·exact hσ k j0 v hk (h1 j0 hs)
 ·have hi:i ∉ tg:=fun h=>by
   have hu':inV val tg i=some u:=hu
   unfold inV at hu'; rw [if_pos h] at hu'; cases hu'
  have hu':val i=some u:=by have h3:inV val tg i=some u:=hu; unfold inV at h3; rw [if_neg hi] at h3; exact h3
  rcases I i j hs with ⟨k,hk,_⟩ | ⟨_,k,j0,rfl,hk,hs⟩
  ·exact absurd (a1l hk) hi
  ·exact hσ k j0 u hk (A.lk i u j0 hu' hs)
theorem At.outof (ht:∀ i∈tg,rd η i=none)(hv:∀ i m t,rd η i=some (m,t)->val i≠none)(lk:∀ i u j,val i=some u->sf i=some j->σ[j]?=some (some u))(ln:∀ i j,sf i=some j->j < σ.length)(A:At K ⟨sg,inV val tg⟩ σ2 Z H Fs η G):At K ⟨sf,val⟩ σ Z H Fs η G:=by
 refine ⟨A.gd,fun i m t e=>?_,A.own,A.dis,lk,ln⟩
 have hi:i ∉ tg:=fun h=>by rw [ht i h] at e; cases e
 obtain ⟨v,r,h1,h2⟩:=A.env i m t e
 cases hu:val i with
 | none=>exact absurd hu (hv i m t e)
 | some u =>
  have:v=u:=h2 u (by show inV val tg i=some u; unfold inV; rw [if_neg hi]; exact hu)
  subst this
  exact ⟨v,r,fun j hj=>lk i v j hu hj,fun u' hu'=>by rw [show val i=some u' from hu'] at hu; cases hu; rfl⟩
end
section
variable {C:Call}
theorem fR:∀ (vs:List Nat) (η:Env),Nn η (M.share vs η)
 | [],η=>fun _ e=>e
 | v::vs,η=>Nn.trans (b:=wr η v (toS (rd η v))) (fun i e=>by
   rw [bc]; split
   ·rename_i hc; rw [<- hc.1,e]; rfl
   ·exact e) (fR vs _)
theorem sv (m:Md)(vs:List Nat)(η:Env):Nn η (after m vs η):=by
 cases m with
 | d=>exact fun _ e=>e
 | s=>exact fR vs η
 | o _=>exact fR vs η
theorem jx {α:Type}{tab:List (Str×α)}{f:α->Env->RE}{p:W×Env}{r:W×Env}(h:kL tab f p=.ok r):∃ x a,p.1.2=.str x/\tab.lookup x=some a/\f a p.2=.ok r:=by
 unfold kL at h
 split at h
 ·rename_i x hx
  split at h
  ·rename_i a ha; exact ⟨x,a,hx,ha,h⟩
  ·cases h
 ·cases h
theorem iz {neg:Bool}{ks:List Str}{p r:W×Env}(h:kIn neg ks p=.ok r):∃ x,p.1.2=.str x/\r.2=p.2/\r.1=(.d,.bl (ks.contains x != neg)):=by
 unfold kIn at h
 split at h
 ·rename_i x hx; cases h; exact ⟨x,hx,rfl,rfl⟩
 ·cases h
theorem jH {tab:List (Str×T)}{p r:W×Env}(h:kGet tab p=.ok r):∃ x,p.1.2=.str x/\r.2=p.2/\r.1=(.s,(tab.lookup x).getD .non):=by
 unfold kGet at h
 split at h
 ·rename_i x hx; cases h; exact ⟨x,hx,rfl,rfl⟩
 ·cases h
mutual
theorem aq:∀ (e:E) {η η':Env} {w:W},evE C e η=.ok (w,η')->Nn η η'
 | .var i,η,η',w,h=>by obtain ⟨_,_,e⟩:=ai (show ret η ((rd η i).bind look)=_ from h); cases e; exact Nn.refl _
 | .mv i,η,η',w,h=>by obtain ⟨_,_,e⟩:=ai (show ret (del η i) (rd η i)=_ from h); cases e; exact iF _ _
 | .io i,η,η',w,h=>by obtain ⟨_,_,e⟩:=ai (show ret (del η i) (rd η i)=_ from h); cases e; exact iF _ _
 | .cst t,η,η',w,h=>by cases h; exact Nn.refl _
 | .glb _ t,η,η',w,h=>by cases h; exact Nn.refl _
 | .tup es,η,η',w,h=>by
  obtain ⟨⟨ws,η1⟩,h1,h2⟩:=aa (show (evL C es η).bind kN=_ from h)
  cases h2; exact dn es h1
 | .lst b es,η,η',w,h=>by
  obtain ⟨⟨ws,η1⟩,h1,h2⟩:=aa (show (evL C es η).bind (qu b)=_ from h)
  cases h2; exact dn es h1
 | .wk m e,η,η',w,h=>by
  obtain ⟨⟨u,η1⟩,h1,h2⟩:=aa (show (evE C e η).bind (kWk m)=_ from h)
  obtain ⟨_,_,e3⟩:=ai (show ret η1 _=_ from h2)
  cases e3; exact aq e h1
 | .op o b es,η,η',w,h=>by
  obtain ⟨ws,h1,h2⟩:=b6 h
  exact dn es h1
 | .and a b,η,η',w,h=>by
  obtain ⟨⟨u,η1⟩,h1,h2⟩:=aa (show (evE C a η).bind (m5 (evE C b))=_ from h)
  obtain ⟨d,h3,h4⟩:=bK (show onT (evE C b) (okW u) (u,η1)=_ from h2)
  cases d with
  | true=>rw [if_pos rfl] at h4; exact (aq a h1).trans (aq b h4)
  | false=>rw [if_neg a0l] at h4; cases h4; exact aq a h1
 | .or a b,η,η',w,h=>by
  obtain ⟨⟨u,η1⟩,h1,h2⟩:=aa (show (evE C a η).bind (kOr (evE C b))=_ from h)
  obtain ⟨d,h3,h4⟩:=bK (show onT (okW u) (evE C b) (u,η1)=_ from h2)
  cases d with
  | false=>rw [if_neg a0l] at h4; exact (aq a h1).trans (aq b h4)
  | true=>rw [if_pos rfl] at h4; cases h4; exact aq a h1
 | .not a,η,η',w,h=>by
  obtain ⟨⟨u,η1⟩,h1,h2⟩:=aa (show (evE C a η).bind nA=_ from h)
  obtain ⟨_,_,e3⟩:=ai (show ret η1 _=_ from h2)
  cases e3; exact aq a h1
 | .ifx c a b,η,η',w,h=>by
  obtain ⟨⟨u,η1⟩,h1,h2⟩:=aa (show (evE C c η).bind (onT (evE C a) (evE C b))=_ from h)
  obtain ⟨d,h3,h4⟩:=bK h2
  cases d with
  | true=>rw [if_pos rfl] at h4; exact (aq c h1).trans (aq a h4)
  | false=>rw [if_neg a0l] at h4; exact (aq c h1).trans (aq b h4)
 | .chain o q a b c,η,η',w,h=>by
  obtain ⟨⟨x,η1⟩,h1,h2⟩:=aa (show (evE C a η).bind (kC1 o q (evE C b) (evE C c))=_ from h)
  obtain ⟨⟨y,η2⟩,h3,h4⟩:=aa (show (evE C b η1).bind (kC2 o q (evE C c) x)=_ from h2)
  obtain ⟨⟨k,η3⟩,h5,h6⟩:=aa (show (ret η2 (oSem o false [x,y])).bind (fun k=>onB k.1.2 (then' (evE C c) (kC3 q y)) (okW (.d,.bl false)) k.2)=_ from h4)
  obtain ⟨k',_,e5⟩:=ai h5
  have e6:η3=η2:=congrArg a2k e5
  have n2:=(aq a h1).trans (aq b h3)
  have h6':onB k.2 (then' (evE C c) (kC3 q y)) (okW (.d,.bl false)) η2=.ok (w,η'):=by rw [<- e6]; exact h6
  generalize k.2=kk at h6'
  cases kk with
  | bl b =>
   cases b with
   | true =>
    obtain ⟨⟨z,η4⟩,h7,h8⟩:=aa (show (evE C c η2).bind (kC3 q y)=_ from h6')
    obtain ⟨z',_,e8⟩:=ai (show ret η4 (oSem q false [y,z])=_ from h8)
    have e9:η'=η4:=congrArg a2k e8
    rw [e9]
    exact n2.trans (aq c h7)
   | false=>cases h6'; exact n2
  | _=>cases h6'
 | .call f es,η,η',w,h=>by
  obtain ⟨⟨ws,η1⟩,h1,h2⟩:=aa (show (evA C es η).bind (kCall C f (ios es))=_ from h)
  obtain ⟨⟨u,us⟩,h3,h4⟩:=aa (show (C f ws).bind (kBack (ios es) η1)=_ from h2)
  cases h4
  exact eo (fC es h1) (dy es h1)
 | .comp b k src tg none elt,η,η',w,h=>by
  obtain ⟨⟨ws,η1⟩,h1,h2⟩:=aa (show (evL C src η).bind (dU b k tg (fE (evE C elt)))=_ from h)
  obtain ⟨⟨ts,η2⟩,h3,h4⟩:=aa (show (ret (ah tg η1) (bf k ws)).bind (fun t=>(aX tg (fE (evE C elt)) t.1 t.2 []).bind (gn b))=_ from h2)
  obtain ⟨_,_,e3⟩:=ai h3
  have e4:η2=ah tg η1:=congrArg a2k e3
  subst e4
  obtain ⟨⟨us,η3⟩,h5,h6⟩:=aa (show (aX tg (fE (evE C elt)) ts (ah tg η1) []).bind (gn b)=_ from h4)
  obtain ⟨_,_,e6⟩:=ai (show ret η3 _=_ from h6)
  have e7:η'=η3:=congrArg a2k e6
  subst e7
  refine (dn src h1).trans (Nn.trans (b:=ah tg η1) (fun i e=>by rw [az]; split<;>first | rfl | exact e) (dE (fun {η o η'} hf=>?_) (fun i hi=>by rw [az,if_pos hi]) h5))
  obtain ⟨⟨u,η4⟩,h7,h8⟩:=aa (show (evE C elt η).bind fq=_ from hf)
  cases h8
  exact aq elt h7
 | .comp b k src tg (some c) elt,η,η',w,h=>by
  obtain ⟨⟨ws,η1⟩,h1,h2⟩:=aa (show (evL C src η).bind (dU b k tg (jb (evE C c) (evE C elt)))=_ from h)
  obtain ⟨⟨ts,η2⟩,h3,h4⟩:=aa (show (ret (ah tg η1) (bf k ws)).bind (fun t=>(aX tg (jb (evE C c) (evE C elt)) t.1 t.2 []).bind (gn b))=_ from h2)
  obtain ⟨_,_,e3⟩:=ai h3
  have e4:η2=ah tg η1:=congrArg a2k e3
  subst e4
  obtain ⟨⟨us,η3⟩,h5,h6⟩:=aa (show (aX tg (jb (evE C c) (evE C elt)) ts (ah tg η1) []).bind (gn b)=_ from h4)
  obtain ⟨_,_,e6⟩:=ai (show ret η3 _=_ from h6)
  have e7:η'=η3:=congrArg a2k e6
  subst e7
  refine (dn src h1).trans (Nn.trans (b:=ah tg η1) (fun i e=>by rw [az]; split<;>first | rfl | exact e) (dE (fun {η o η'} hf=>?_) (fun i hi=>by rw [az,if_pos hi]) h5))
  obtain ⟨⟨u,η4⟩,h7,h8⟩:=aa (show (evE C c η).bind (onT (fE (evE C elt)) (okW none))=_ from hf)
  obtain ⟨d,h9,h10⟩:=bK h8
  cases d with
  | true =>
   rw [if_pos rfl] at h10
   obtain ⟨⟨u2,η5⟩,h11,h12⟩:=aa (show (evE C elt η4).bind fq=_ from h10)
   cases h12
   exact (aq c h7).trans (aq elt h11)
  | false =>
   rw [if_neg a0l] at h10
   cases h10
   exact aq c h7
 | .pop i es,η,η',w,h=>by
  obtain ⟨_,_,h0⟩:=aa (show (chkL (rd η i)).bind (jX (evL C es) η (mE i))=_ from h)
  obtain ⟨⟨ws,η1⟩,h1,h2⟩:=aa (show (evL C es η).bind (mE i)=_ from h0)
  obtain ⟨r,h3,h4⟩:=aa (show (ofO ((rd η1 i).bind fun w=>iP w ws)).bind (fun r=>.ok (r.1,put η1 i r.2))=_ from h2)
  cases h4
  refine (dn es h1).trans (ke ?_)
  have:=bU h3
  intro e; rw [e] at this; cases this
 | .lenV i,η,η',w,h=>by obtain ⟨_,_,e⟩:=ai (show ret η ((rd η i).bind fun w=>oSem .len false [w])=_ from h); cases e; exact Nn.refl _
 | .ixV i j,η,η',w,h=>by obtain ⟨_,_,e⟩:=ai (show ret η (ixVT (rd η i) (rd η j))=_ from h); cases e; exact Nn.refl _
 | .compV b i t c e,η,η',w,h=>by
  obtain ⟨ts,h1,h2⟩:=aa (show (ofO (vwT (rd η i))).bind (kV1 b i t (jb (evE C c) (evE C e)) η)=_ from h)
  obtain ⟨⟨u,η1⟩,h3,h4⟩:=aa (show ((aX [t] (jb (evE C c) (evE C e)) (ts.map fun u=>[(.s,u)]) (ah [t] (del η i)) []).bind (gn b)).bind (kV2 i (rd η i))=_ from h2)
  obtain ⟨⟨us,η2⟩,h5,h6⟩:=aa h3
  obtain ⟨_,_,e6⟩:=ai (show ret η2 _=_ from h6)
  cases e6
  cases h4
  have nc:Nn (ah [t] (del η i)) η1:=by
   refine dE (fun {η o η'} hf=>?_) (fun j hj=>by rw [az,if_pos hj]) h5
   obtain ⟨⟨u,η4⟩,h7,h8⟩:=aa (show (evE C c η).bind (onT (fE (evE C e)) (okW none))=_ from hf)
   obtain ⟨d,h9,h10⟩:=bK h8
   cases d with
   | true =>
    rw [if_pos rfl] at h10
    obtain ⟨⟨u2,η5⟩,h11,h12⟩:=aa (show (evE C e η4).bind fq=_ from h10)
    cases h12
    exact (aq c h7).trans (aq e h11)
   | false =>
    rw [if_neg a0l] at h10
    cases h10
    exact aq c h7
  intro j e
  rw [bc]
  split
  ·rename_i hc
   rw [<- hc.1]; exact e
  ·refine nc j ?_
   rw [az]
   split
   ·rfl
   ·exact iF η i j e
 | .popN i e,η,η',w,h=>by
  obtain ⟨_,_,h0⟩:=aa (show (chkL (rd η i)).bind (kPopN0 (evE C e) η (pP i))=_ from h)
  obtain ⟨⟨u,η1⟩,h1,h2⟩:=aa (show (evE C e η).bind (pP i)=_ from h0)
  obtain ⟨r,h3,h4⟩:=aa (show (ofO ((rd η1 i).bind fun w=>wz w u)).bind (fun r=>.ok (r.1,put η1 i r.2))=_ from h2)
  cases h4
  refine (aq e h1).trans (ke ?_)
  have:=bU h3
  intro e; rw [e] at this; cases this
 | .ixQ i e,η,η',w,h=>by
  obtain ⟨_,_,h0⟩:=aa (show (chkL (rd η i)).bind (kPopN0 (evE C e) η (kIxQ i))=_ from h)
  obtain ⟨⟨u,η1⟩,h1,h2⟩:=aa (show (evE C e η).bind (kIxQ i)=_ from h0)
  obtain ⟨_,_,e2⟩:=ai (show ret η1 (ixVT (rd η1 i) (some u))=_ from h2)
  cases e2
  exact aq e h1
 | .tupA es,η,η',w,h=>by
  obtain ⟨⟨ws,η1⟩,h1,h2⟩:=aa (show (evA C es η).bind kN=_ from h)
  cases h2; exact dy es h1
 | .qx vs ls e,η,η',w,h=>by
  obtain ⟨⟨u,η1⟩,h1,h2⟩:=aa (show (evE C e (pick vs ls η)).bind (kX vs η)=_ from h)
  cases h2
  exact sv _ vs η
 | .mvP i p,η,η',w,h=>by
  obtain ⟨r,h1,h2⟩:=aa (show (ofO ((rd η i).bind (wJ p))).bind (Eh i η)=_ from h)
  cases h2
  refine ke fun e=>?_
  have:=bU h1
  rw [e] at this; cases this
 | .callT tab k es,η,η',w,h=>by
  obtain ⟨⟨u,η1⟩,h1,h2⟩:=aa (show (evE C k η).bind (kL tab (kCT C (evA C es) (ios es)))=_ from h)
  obtain ⟨x,j,_,_,h3⟩:=jx h2
  obtain ⟨⟨ws,η2⟩,h4,h5⟩:=aa (show (evA C es η1).bind (kCall C j (ios es))=_ from h3)
  obtain ⟨⟨r,bs⟩,h6,h7⟩:=aa (show (C j ws).bind (kBack (ios es) η2)=_ from h5)
  cases h7
  exact (aq k h1).trans (eo (fC es h4) (dy es h4))
 | .inT neg ks e,η,η',w,h=>by
  obtain ⟨⟨u,η1⟩,h1,h2⟩:=aa (show (evE C e η).bind (kIn neg ks)=_ from h)
  obtain ⟨x,_,e2,_⟩:=iz h2
  cases e2; exact aq e h1
 | .ixT tab e,η,η',w,h=>by
  obtain ⟨⟨u,η1⟩,h1,h2⟩:=aa (show (evE C e η).bind (kL tab okS)=_ from h)
  obtain ⟨x,j,_,_,h3⟩:=jx h2
  cases h3; exact aq e h1
 | .getT tab e,η,η',w,h=>by
  obtain ⟨⟨u,η1⟩,h1,h2⟩:=aa (show (evE C e η).bind (kGet tab)=_ from h)
  obtain ⟨x,_,e2,_⟩:=jH h2
  cases e2; exact aq e h1
theorem dn:∀ (es:List E) {η η':Env} {ws:List W},evL C es η=.ok (ws,η')->Nn η η'
 | [],η,η',ws,h=>by cases h; exact Nn.refl _
 | e::es,η,η',ws,h=>by
  obtain ⟨w,η1,us,h1,h2,_⟩:=ay h
  exact (aq e h1).trans (dn es h2)
theorem dy:∀ (es:List E) {η η':Env} {ws:List W},evA C es η=.ok (ws,η')->Nn η η'
 | [],η,η',ws,h=>by cases h; exact Nn.refl _
 | e::es,η,η',ws,h=>by
  rcases C9 e with ⟨i,hi⟩ | he
  ·subst hi
   obtain ⟨us,η1,w,h1,_,_,h4⟩:=g8 h
   rw [h4]
   exact (dy es h1).trans (iF _ _)
  ·obtain ⟨w,η1,us,h1,h2,_⟩:=gi he h
   exact (aq e h1).trans (dy es h2)
theorem fC:∀ (es:List E) {η η':Env} {ws:List W},evA C es η=.ok (ws,η')->∀ i∈ios es,rd η i≠none
 | [],_,_,_,_,i,hi=>by simp [ios] at hi
 | e::es,η,η',ws,h,i,hi=>by
  rcases C9 e with ⟨j,hj⟩ | he
  ·subst hj
   obtain ⟨us,η1,w,h1,h2,_,_⟩:=g8 h
   rcases a0m.mp (show i∈j::ios es from hi) with z | z
   ·subst z
    exact fun z=>by rw [dy es h1 i z] at h2; cases h2
   ·exact fC es h1 i z
  ·obtain ⟨w,η1,us,h1,h2,_⟩:=gi he h
   have hi':i∈ios es:=by
    cases e with
    | io j=>exact absurd rfl (he j)
    | _=>exact hi
   exact fun z=>fC es h2 i hi' (aq e h1 i z)
end
end
section
variable {K:a0a}{sl:Cf}{sf sg:Nat->Option Nat}{C:Call}{σ σ2:L2.St}{Z Z' Z1:Fp}{H H' H1:Hp}{Fs Fs' Fs1:Fps}{η η' η1 ηb:Env}{G G' R F:Fp}{tg is:List Nat}{pv val:Nat->Option V}
noncomputable def gT (K:a0a):Nat->TG
 | 1=>cO 0
 | 2=>xN K 2 (jA (cO 0) (jA (cO 1) yd))
 | _=>fun _ _ _ _=>False
theorem At.put1 {i:Nat}{w:W}{x:V}(A:At K sl σ Z H Fs η G)(r:Rep K Z H w.1 w.2 x (Fs i))(hl:∀ j,sl.sl i=some j->σ[j]?=some (some x))(hp:sl.pv i=none):At K sl σ Z H Fs (put η i w) G:=by
 refine ⟨A.gd,fun j m t e=>?_,A.own,A.dis,A.lk,A.ln⟩
 rw [bc] at e
 split at e
 ·rename_i hc
  cases e
  obtain ⟨rfl,_⟩:=hc
  exact ⟨x,r,hl,fun u hu=>by rw [hp] at hu; cases hu⟩
 ·exact A.env j m t e
theorem jn {k j0:Nat}{v:V}(h1:is[k]?=some j0)(h2:σ[j0]?=some (some v)):(b7 σ is)[k]?=some (some v):=by
 unfold b7
 rw [a0y,h1]
 show some ((σ[j0]?).join)=_
 rw [h2]
 rfl
theorem gP (I:gI sf sg tg is)(h:σ2.length=tg.length+is.length):∀ i j,sg i=some j->j < σ2.length:=fun i j hj=>by
 rcases I i j hj with ⟨k,hk,rfl⟩ | ⟨_,k,j0,rfl,hk,_⟩
 ·have:=(a0q.mp hk).1
  omega
 ·have:=(a0q.mp hk).1
  omega
theorem mV {n i:Nat}{J:It}{ts:List (List W)}{ws:List W}{x:V}{Q:L2.St->Hp->Prop}(hn:tg.length=n)(nd:tg.Nodup)(I:gI sf sg tg is)(hz:∀ a,Z1 a->Z a)(st:Stay Z1 H1 H)(yl:Yld K J Z1 H1 ts n)(A:At K ⟨sf,val⟩ σ Z H Fs η G)
  (ht:∀ i∈tg,rd η i=none) (hw:ts[i]?=some ws) (hb:aY tg ws η=some ηb) (y:J.yld i H x H')
  (k:∀ σ2 H2,At K ⟨sg,inV val tg⟩ σ2 Z H2 Fs ηb G->Step Z H no Z H2 no->(σ2.length=n+(b7 σ is).length/\σ2.drop n=b7 σ is)->Q σ2 H2):gT K n x (a0r n none++b7 σ is) H' Q:=by
 have hi:i < ts.length:=(a0q.mp hw).1
 have own0:∀ {t:Nat},t∈tg->inV val tg t=none:=fun {t} h=>if_pos h
 match n,yl with
 | 1,yl =>
  obtain ⟨e0,w,hw',r⟩:=yl H i x H' st hi y
  rw [e0]
  rw [hw] at hw'; cases hw'
  match tg,hn with
  | [t],_ =>
   cases hb
   have r':Rep K Z H w.1 w.2 x (Fs t):=(r.zmono hz).mono fun _ z=>z.elim
   refine k _ H ?_ (Step.refl _ _ _) ⟨by simp [a3b],rfl⟩
   refine (A.into (σ2:=some x::b7 σ is) I ht (fun k j0 v h1 h2=>?_) (gP I (by simp [b7,a3b]))).put1 r' (fun j hj=>?_) (own0 (by simp))
   ·rw [a0o,a3b,a0w]; exact jn h1 h2
   ·rcases I t j hj with ⟨k,hk,rfl⟩ | ⟨h,_⟩
    ·cases j with
     | zero=>rfl
     | succ _=>simp at hk
    ·exact absurd (a0t.mpr rfl) h
 | 2,yl =>
  obtain ⟨p,y1,z1,u,w,rfl,sm,hq,hw',r1,r2⟩:=yl H i x H' st hi y
  rw [hw] at hw'; cases hw'
  match tg,hn with
  | [t,t'],_ =>
   cases hb
   have hne:t≠t':=fun z=>by simp [z] at nd
   have s1:Step Z H G Z H' G:=fF sm
   have o1:Own Z H' G:=fun a ha=>by
    obtain ⟨nz,ys,e⟩:=A.own a ha
    exact ⟨nz,ys,sm _ _ e⟩
   obtain ⟨A1,_⟩:=A.op o1 s1
   have sn:Stay Z H H':=jW sm
   have r1':Rep K Z H' u.1 u.2 y1 (Fs t):=((r1.zmono hz).keep sn (fun _ z=>z) fun _ _ z=>z.elim).mono fun _ z=>z.elim
   have r2':Rep K Z H' w.1 w.2 z1 (Fs t'):=((r2.zmono hz).keep sn (fun _ z=>z) fun _ _ z=>z.elim).mono fun _ z=>z.elim
   have s0:Step Z H no Z H' no:=fF sm
   refine ⟨p,[y1,z1],rfl,hq,rfl,y1,[z1],rfl,z1,[],rfl,rfl,k (some y1::some z1::b7 σ is) _ ?_ s0 ⟨by simp; omega,rfl⟩⟩
   refine ((A1.into (σ2:=some y1::some z1::b7 σ is) I ht (fun k j0 v h1 h2=>?_) (gP I (by simp [b7]; omega))).put1 r1' (fun j hj=>?_) (own0 (by simp))).put1 r2' (fun j hj=>?_) (own0 (by simp))
   ·rw [show [t,t'].length+k=k+1+1 by simp; omega,a0w,a0w]; exact jn h1 h2
   ·rcases I t j hj with ⟨k,hk,rfl⟩ | ⟨h,_⟩
    ·match j,hk with
     | 0,_=>rfl
     | 1,hk=>exact absurd (a0u hk).symm hne
    ·exact absurd (by simp) h
   ·rcases I t' j hj with ⟨k,hk,rfl⟩ | ⟨h,_⟩
    ·match j,hk with
     | 0,hk=>exact absurd (a0u hk) hne
     | 1,_=>rfl
    ·exact absurd (by simp) h
noncomputable def eG (Fs:Fps)(tg:List Nat):Fps:=fun j a=>j ∉ tg/\Fs j a
theorem cy {a:Addr}(h:tot (eG Fs tg) a):tot Fs a:=let ⟨j,_,h2⟩:=h; ⟨j,h2⟩
theorem At.dels (A:At K sl σ Z H Fs η G):At K sl σ Z H (eG Fs tg) (ah tg η) G:=by
 refine ⟨⟨fun a h=>A.gd.own a (cy h),fun i j a h1 h2=>A.gd.dis i j a h1.2 h2.2,A.gd.zal⟩,fun i m t e=>?_,A.own,fun a h q=>A.dis a h (cy q),A.lk,A.ln⟩
 rw [az] at e
 split at e
 ·cases e
 ·rename_i hi
  obtain ⟨v,r,h⟩:=A.env i m t e
  exact ⟨v,r.mono fun a ha=>⟨hi,ha⟩,h⟩
theorem gh:∀ {tg:List Nat} {t:List W} {η η1:Env},aY tg t η=some η1->∀ i,i ∉ tg->rd η1 i=rd η i
 | [],[],η,η1,h,i,_=>by cases h; rfl
 | [],_::_,_,_,h,_,_=>by cases h
 | _::_,[],_,_,h,_,_=>by cases h
 | j::tg,w::t,η,η1,h,i,hi=>by
  rw [gh (show aY tg t (put η j w)=some η1 from h) i fun z=>hi (a0f _ z),bc,if_neg fun z=>hi (by rw [z.1]; exact a0k)]
structure CSt (K:a0a)(sf:Nat->Option Nat)(val:Nat->Option V)(σ:L2.St)(tg:List Nat)(f:Env->Res (Option W×Env))(ts:List (List W))(η0:Env)(us:List W)(η3:Env)(Z1:Fp)(H1:Hp)(F1:Fp)(i:Nat)(ys:List V)(H:Hp):Prop where
 ex:∃ (Z:Fp) (Fs:Fps) (η:Env) (acc:List W) (G:Fp),At K ⟨sf,val⟩ σ Z H Fs η G/\RepW K Z H acc ys G/\aX tg f (ts.drop i) η acc=.ok (us,η3)/\(∀ j∈tg,rd η j=none)/\(∀ j∈tg,∀ a,¬ Fs j a)/\Nn η0 η/\Step Z1 H1 F1 Z H (fun a=>tot Fs a\/G a)
 len:ys.length<=i
theorem qo {h:Bool}{us:List W}{ys:List V}{w:W}{Q:VK}(o:Own Z H G)(za:∀ a,Z a->H a≠none)(r:RepW K Z H us ys G)(hl:ys.length<=LIM)(hn:(if h then (if us.all okD then some ((.d,.lst (trees us)):W) else none) else some (.o .s,.lst (trees us)))=some w)(k:Out K Z H G w Q):∀ p,H p=none->Q (.ref p) (upd H p (.lst ys)):=by
 intro p hp
 cases h with
 | true =>
  rw [if_pos rfl] at hn
  split at hn
  ·rename_i ha
   cases hn
   rw [a19] at ha
   obtain ⟨G',g1,g2⟩:=RepW.to (N:=.d) (fun u hu=>by
    have:=ha u hu
    unfold okD at this
    rw [Bool.or_eq_true] at this
    unfold M.lf
    split
    ·rfl
    ·rename_i hnl
     rcases this with z | z
     ·rw [eq_of_beq z]; rfl
     ·exact absurd z hnl) r
   exact bX (m:=.d) o za g1 hl g2 (by simp) k hp
  ·cases hn
 | false =>
  rw [if_neg a0l] at hn
  cases hn
  obtain ⟨G',g1,g2⟩:=RepW.to (N:=.s) (fun u hu=>by cases M.lf u.1 u.2<;>rfl) r
  exact bX (m:=.o .s) o za g1 hl g2 (by simp) k hp
end
end MR
namespace MR
open L2 L3 M
open PySem (Addr Str sizeLine)
section
variable {K:a0a}{sf sg:Nat->Option Nat}{C:Call}{tg is:List Nat}
theorem gJ {α:Type}{l:List α}{i:Nat}{a:α}(h:l[i]?=some a):l.drop i=a::l.drop (i+1):=by
 obtain ⟨h1,h2⟩:=a0q.mp h
 rw [List.drop_eq_getElem_cons h1,h2]
theorem pV {h:Bool}{k:Ik}{f:Env->Res (Option W×Env)}{p:List W×Env}{w:W}{η':Env}(e:dU h k tg f p=.ok (w,η')):∃ ts us,bf k p.1=some ts/\aX tg f ts (ah tg p.2) []=.ok (us,η')/\(if h then (if us.all okD then some ((.d,.lst (trees us)):W) else none) else some (.o .s,.lst (trees us)))=some w:=by
 obtain ⟨⟨ts,η2⟩,h3,h4⟩:=aa (show (ret (ah tg p.2) (bf k p.1)).bind (fun t=>(aX tg f t.1 t.2 []).bind (gn h))=_ from e)
 obtain ⟨ts',ht,e3⟩:=ai h3
 have e4:ts=ts':=congrArg a2l e3
 have e5:η2=ah tg p.2:=congrArg a2k e3
 subst e4 e5
 obtain ⟨⟨us,η3⟩,h5,h6⟩:=aa (show (aX tg f ts (ah tg p.2) []).bind (gn h)=_ from h4)
 obtain ⟨w',hw,e6⟩:=ai (show ret η3 (if h then (if us.all okD then some ((.d,.lst (trees us)):W) else none) else some (.o .s,.lst (trees us)))=_ from h6)
 have e7:w=w':=congrArg a2l e6
 have e8:η'=η3:=congrArg a2k e6
 subst e7 e8
 exact ⟨ts,us,ht,h5,hw⟩
theorem kg {f:Env->Res (Option W×Env)}{t:List W}{ts:List (List W)}{η η3:Env}{acc us:List W}(e:aX tg f (t::ts) η acc=.ok (us,η3)):∃ ηb o ηc,aY tg t η=some ηb/\f ηb=.ok (o,ηc)/\aX tg f ts (ah tg ηc) (acc++o.toList)=.ok (us,η3):=by
 obtain ⟨η1,h1,h2⟩:=aa (show (ofO (aY tg t η)).bind (fun η1=>(f η1).bind fun p=>aX tg f ts (ah tg p.2) (acc++p.1.toList))=_ from e)
 obtain ⟨⟨o,η2⟩,h3,h4⟩:=aa h2
 exact ⟨η1,o,η2,bU h1,h3,h4⟩
theorem nY {n:Nat}{h:Bool}{k:Ik}{src:List E}{f:Env->Res (Option W×Env)}{te:L2.St->Hp->(Option V->Hp->Prop)->Prop}(hn:tg.length=n)(nd:tg.Nodup)(I:gI sf sg tg is)
  (hf:∀ {η o η'},f η=.ok (o,η')->Nn η η')
  (hte:∀ {val:Nat->Option V} {σ2:L2.St} {Z:Fp} {H:Hp} {Fs:Fps} {η ηc:Env} {R:Fp} {o:Option W} {Q:Option V->Hp->Prop},At K ⟨sg,val⟩ σ2 Z H Fs η R->f η=.ok (o,ηc) ->
   (∀ oy Z' H' Fs' G,At K ⟨sg,val⟩ σ2 Z' H' Fs' ηc (fun c=>R c\/G c)->(match o,oy with | some w,some y=>Rep K Z' H' w.1 w.2 y G | none,none=>True | _,_=>False)->(∀ c,R c->¬ G c)->Step Z H (tot Fs) Z' H' (fun a=>tot Fs' a\/G a)->Q oy H')->te σ2 H Q)
  {e:E} (he:∀ η,evE C e η=(evL C src η).bind (dU h k tg f)) (σ:L2.St) (H:Hp) (Q:VK) (hw:wE K sf C e σ H Q) :
  wI K sf C n k src σ H fun J H1=>∃ W:Nat->Nat->List V->Hp->Prop,(∃ m,W 0 m [] H1)/\∀ i m ys H,W i m ys H ->
   (J.stop i H/\ys.length<=sizeLine/\∀ p,H p=none->Q (.ref p) (upd H p (.lst ys))) \/
   (J.go i H/\ys.length < sizeLine/\∀ x H',J.yld i H x H'->gT K n x (a0r n none++b7 σ is) H' fun σ2 H2=>(σ2.length=n+(b7 σ is).length/\σ2.drop n=b7 σ is)/\te σ2 H2 fun oy H3=>∃ m',m' < m/\W (i+1) m' (ys++oy.toList) H3):=by
 obtain ⟨pv,Z,Fs,η,w,η',A,ev,kk⟩:=hw
 rw [he] at ev
 obtain ⟨⟨ws,η1⟩,h1,h2⟩:=aa ev
 obtain ⟨ts,us,ht,h3,h4⟩:=pV h2
 refine ⟨pv,Z,Fs,η,ws,η1,ts,A,h1,ht,fun J Z1 H1 Fs1 A1 s1 wk yl=>?_⟩
 obtain ⟨val,v1,A2,v2⟩:=(A1.dels (tg:=tg)).pin
 have s1':Step Z H (tot Fs) Z1 H1 (tot (eG Fs1 tg)):=s1.mono (fun _ z=>z) fun _ z=>cy z
 refine ⟨fun i m ys H=>m=ts.length-i/\i<=ts.length/\CSt K sf val σ tg f ts (ah tg η1) us η' Z1 H1 (tot (eG Fs1 tg)) i ys H,⟨ts.length,by simp,a0Q _,⟨⟨Z1,eG Fs1 tg,ah tg η1,[],no,A2,rfl,h3,fun j hj=>by rw [az,if_pos hj],fun j hj a ha=>ha.1 hj,Nn.refl _,(Step.refl _ _ _).mono (fun _ z=>z) fun a ha=>ha.elim id fun z=>z.elim⟩,a0j _⟩⟩,?_⟩
 rintro i m ys H0 ⟨rfl,hi,⟨⟨Zi,Fsi,ηi,acc,Ga,Ai,ra,hc,htg,hfp,hnn,si⟩,hlen⟩⟩
 have st:Stay Z1 H1 H0:=A2.gd.own.stay si
 have hL:=wk.len
 by_cases hlt:i < ts.length
 ·right
  refine ⟨wk.go H0 i st hlt,a1P (a0s hlen hi) (kG hL),fun x H2 y=>?_⟩
  have hw:ts[i]?=some ts[i]:=by simp [hlt]
  rw [gJ hw] at hc
  obtain ⟨ηb,o,ηc,hb,hfe,hc2⟩:=kg hc
  refine mV hn nd I si.zm st yl Ai htg hw hb y fun σ2 H3 A3 s3 hσ=>⟨hσ,?_⟩
  refine hte A3 hfe fun oy Z4 H4 Fs4 G4 A4 r4 d4 s4=>⟨ts.length-(i+1),by omega,rfl,hlt,⟨?_,?_⟩⟩
  ·have ra3:RepW K Zi H3 acc ys Ga:=ra.frame bG s3 fun _ _ z=>z
   have ra4:RepW K Z4 H4 acc ys Ga:=ra3.frame A3.gd.own s4 A3.dis
   have vv:∀ j m t,rd (ah tg ηc) j=some (m,t)->val j≠none:=fun j m t e=>by
    rw [az] at e
    split at e
    ·cases e
    ·rename_i hj
     have n1:rd ηb j≠none:=fun z=>by rw [hf hfe j z] at e; cases e
     rw [gh hb j hj] at n1
     have n2:rd (ah tg η1) j≠none:=fun z=>n1 (hnn j z)
     cases e2:rd (ah tg η1) j with
     | none=>exact absurd e2 n2
     | some u=>exact v2 j u.1 u.2 e2
   have A5:=(A4.dels (tg:=tg)).outof (sf:=sf) (σ:=σ) (val:=val) (fun j hj=>by rw [az,if_pos hj]) vv Ai.lk Ai.ln
   have s5:Step Z1 H1 (tot (eG Fs1 tg)) Z4 H4 (fun a=>tot (eG Fs4 tg) a\/(Ga a\/G4 a)):=by
    refine (si.trans (((s3.frame (fun a=>tot Fsi a\/Ga a)).mono (fun a ha=>ha.elim (fun z=>z.elim) id) fun a ha=>.inr ha).trans (s4.frame Ga))).mono (fun _ z=>z) fun a ha=>?_
    rcases ha with z | z | z
    ·exact .inl (.inl (cy z))
    ·exact .inr z
    ·exact .inl (.inr z)
   refine ⟨Z4,eG Fs4 tg,ah tg ηc,acc++o.toList,fun c=>Ga c\/G4 c,A5,?_,hc2,fun j hj=>by rw [az,if_pos hj],fun j hj a ha=>ha.1 hj,fun j e=>?_,s5⟩
   ·cases o with
    | none =>
     cases oy with
     | none=>rw [a21,a21,a0B,a0B]; exact ra4.mono fun _ z=>.inl z
     | some _=>exact r4.elim
    | some w4 =>
     cases oy with
     | none=>exact r4.elim
     | some y4=>exact RepW.append (fun _ z=>.inl z) (fun _ z=>.inr z) d4 ra4 (RepW.one r4)
   ·have e':=hnn j e
    rw [az]
    split
    ·rfl
    ·rename_i hj
     exact hf hfe j (by rw [gh hb j hj]; exact e')
  ·have:ys.length<=i:=hlen
   cases oy<;>simp<;>omega
 ·left
  have hi':i=ts.length:=by omega
  subst hi'
  rw [a3g] at hc
  cases hc
  refine ⟨wk.stop H0 _ st (a0j _),bP (a0s hlen hL),qo Ai.own Ai.gd.zal ra (a0s hlen hL) h4 (bF (Ai.unpin v1) (s1'.trans si) kk)⟩
theorem jl {n:Nat}{h:Bool}{k:Ik}{src:List E}{elt:E}(hn:tg.length=n)(nd:tg.Nodup)(I:gI sf sg tg is)(σ:L2.St)(H:Hp)(Q:VK)(hw:wE K sf C (.comp h k src tg none elt) σ H Q):iw n (wI K sf C n k src) is (gT K n) (wE K sg C elt) σ H Q:=by
 refine nY (te:=fun σ2 H Q=>wE K sg C elt σ2 H fun y H'=>Q (some y) H') hn nd I (fun {η o η'} hf=>?_) (fun {val σ2 Z H Fs η ηc R o Q} A hf k=>?_) (fun η=>rfl) σ H Q hw
 ·obtain ⟨⟨u,η4⟩,h7,h8⟩:=aa (show (evE C elt η).bind fq=_ from hf)
  cases h8
  exact aq elt h7
 ·obtain ⟨⟨u,η4⟩,h7,h8⟩:=aa (show (evE C elt η).bind fq=_ from hf)
  cases h8
  exact jr A h7 fun v Z' H' Fs' G B r d s _=>k (some v) Z' H' Fs' G B r d s
end
end MR
namespace MR
open L2 L3 M
open PySem (Addr Str sizeLine)
section
variable {K:a0a}{sl:Cf}{sf sg:Nat->Option Nat}{C:Call}{σ σ2:L2.St}{Z Z' Z1:Fp}{H H' H1:Hp}{Fs Fs' Fs1:Fps}{η η' η1 ηb:Env}{G G' G1 R F:Fp}{tg is:List Nat}{pv val:Nat->Option V}
noncomputable def lb (Fs:Fps)(i:Nat)(G:Fp):Fps:=fun j a=>(j=i/\G a)\/(j≠i/\Fs j a)
theorem bD {i:Nat}{a:Addr}(h:tot (lb Fs i G) a):tot Fs a\/G a:=by
 obtain ⟨j,h | h⟩:=h
 ·exact .inr h.2
 ·exact .inl ⟨j,h.2⟩
theorem At.put {i:Nat}{w:W}{x:V}(A:At K sl σ Z H Fs η G)(r:Rep K Z H w.1 w.2 x G1)(h1:∀ a,G1 a->G a)(h2:∀ a,R a->G a)(hd:∀ a,R a->¬ G1 a)(hl:∀ j,sl.sl i=some j->σ[j]?=some (some x))(hp:∀ u,sl.pv i=some u->x=u) :
  At K sl σ Z H (lb Fs i G1) (M.put η i w) R:=by
 refine ⟨⟨fun a h=>(bD h).elim (A.gd.own a) fun q=>A.own a (h1 a q),fun j k a hj hk=>?_,A.gd.zal⟩,fun j m t e=>?_,fun a h=>A.own a (h2 a h),fun a h q=>(bD q).elim (A.dis a (h2 a h)) (hd a h),A.lk,A.ln⟩
 ·rcases hj with ⟨rfl,hj⟩ | ⟨nj,hj⟩
  ·rcases hk with ⟨rfl,_⟩ | ⟨nk,hk⟩
   ·rfl
   ·exact absurd ⟨k,hk⟩ (A.dis a (h1 a hj))
  ·rcases hk with ⟨rfl,hk⟩ | ⟨nk,hk⟩
   ·exact absurd ⟨j,hj⟩ (A.dis a (h1 a hk))
   ·exact A.gd.dis j k a hj hk
 ·rw [bc] at e
  split at e
  ·rename_i hc
   cases e
   obtain ⟨rfl,_⟩:=hc
   exact ⟨x,r.mono fun a h=>.inl ⟨rfl,h⟩,hl,hp⟩
  ·rename_i hc
   obtain ⟨v,r',h'⟩:=A.env j m t e
   by_cases hj:j=i
   ·subst hj
    exact absurd ⟨rfl,df e⟩ hc
   ·exact ⟨v,r'.mono fun a h=>.inr ⟨hj,h⟩,h'⟩
noncomputable def wA (K:a0a)(sl:Nat->Option Nat)(C:Call)(es:List E):TA:=fun σ H Q=>∃ pv Z Fs η ws η',At K ⟨sl,pv⟩ σ Z H Fs η no/\evA C es η=.ok (ws,η') /\
 ∀ vs Z' H' Fs' G,At K ⟨sl,pv⟩ σ Z' H' Fs' η' G->RepW K Z' H' ws vs G->Step Z H (tot Fs) Z' H' (fun a=>tot Fs' a\/G a)->(∀ (k i:Nat) (u:V),es[k]?=some (.io i)->pv i=some u->vs[k]?=some u)->Q vs H'
theorem zd (σ:L2.St)(H:Hp)(Q:List V->Hp->Prop)(h:wA K sf C [] σ H Q):zR σ H Q:=by
 obtain ⟨pv,Z,Fs,η,ws,η',A,ev,k⟩:=h
 cases ev
 exact k [] Z H Fs no A rfl ((Step.refl _ _ _).mono (fun _ z=>z) fun a ha=>ha.elim id fun z=>z.elim) fun k i u h _=>by simp at h
theorem E6 {es:List E}{ws:List W}{Q:List V->Hp->Prop}(A:At K sl σ Z H Fs η R)(ev:evA C es η=.ok (ws,η'))
  (k:∀ vs Z' H' Fs' G,At K sl σ Z' H' Fs' η' (fun c=>R c\/G c)->RepW K Z' H' ws vs G->(∀ c,R c->¬ G c)->Step Z H (tot Fs) Z' H' (fun a=>tot Fs' a\/G a) ->
   Step Z H (fun c=>tot Fs c\/R c) Z' H' (fun c=>tot Fs' c\/(R c\/G c))->(∀ (k i:Nat) (u:V),es[k]?=some (.io i)->sl.pv i=some u->vs[k]?=some u)->Q vs H'):wA K sl.sl C es σ H Q :=
 ⟨sl.pv,Z,Fs,η,ws,η',A.bare,ev,fun v Z' H' Fs' G B r s hio=>by
  obtain ⟨h1,h2,h3⟩:=A.frame B s
  exact k v Z' H' Fs' G h1 r h3 s h2 hio⟩
theorem sr {e:E}{es:List E}(he:∀ i,e≠.io i)(σ:L2.St)(H:Hp)(Q:List V->Hp->Prop)(h:wA K sf C (e::es) σ H Q):lP (wE K sf C e) (wA K sf C es) σ H Q:=by
 obtain ⟨pv,Z,Fs,η,ws,η',A,ev,k⟩:=h
 obtain ⟨w,η1,us,h1,h2,rfl⟩:=gi he ev
 refine jr A h1 fun x Z1 H1 Fs1 G1 A1 r1 _ s1 _=>?_
 have A1':=A1.mono (G':=G1) fun _ z=>.inr z
 refine E6 A1' h2 fun xs Z2 H2 Fs2 G2 A2 r2 d2 s2 t2 hio=>?_
 refine k (x::xs) Z2 H2 Fs2 _ A2 ⟨x,xs,G1,G2,rfl,fun _ z=>.inl z,fun _ z=>.inr z,d2,r1.frame A1.gd.own s2 A1'.dis,r2⟩ (s1.trans t2) fun k i u h hu=>?_
 cases k with
 | zero=>exact absurd (a0u h) (he i)
 | succ k=>exact hio k i u h hu
theorem nu {i j:Nat}{es:List E}(hs:sf i=some j)(σ:L2.St)(H:Hp)(Q:List V->Hp->Prop)(h:wA K sf C (.io i::es) σ H Q):lP (rm j) (wA K sf C es) σ H Q:=by
 obtain ⟨pv,Z,Fs,η,ws,η',A,ev,k⟩:=h
 obtain ⟨us,η1,w,h1,h2,rfl,rfl⟩:=g8 ev
 obtain ⟨m,t⟩:=w
 cases e0:rd η i with
 | none=>rw [dy es h1 i e0] at h2; cases h2
 | some w0 =>
  obtain ⟨v,_,hv⟩:=A.env i w0.1 w0.2 e0
  refine ⟨v,hv.1 j hs,pv,Z,Fs,η,us,η1,A,h1,fun xs Z2 H2 Fs2 G2 A2 r2 s2 hio=>?_⟩
  obtain ⟨v',r,hv'⟩:=A2.env i m t h2
  have ev':v'=v:=by
   have e1:=hv.1 j hs
   rw [hv'.1 j hs] at e1
   exact a0u (a0u e1)
  subst ev'
  have A3:At K ⟨sf,pv⟩ σ Z2 H2 (yi Fs2 i) (del η1 i) (fun a=>Fs2 i a\/G2 a):=by
   refine ⟨⟨fun a ⟨l,h1,h2⟩=>A2.gd.own a ⟨l,h2⟩,fun l l' a h1 h2=>A2.gd.dis l l' a h1.2 h2.2,A2.gd.zal⟩,fun l m' t' e=>?_,fun a ha=>ha.elim (fun z=>A2.gd.own a ⟨i,z⟩) (A2.own a),fun a ha ⟨l,h1,h2⟩=>ha.elim (fun z=>h1 (A2.gd.dis l i a h2 z)) fun z=>A2.dis a z ⟨l,h2⟩,A2.lk,A2.ln⟩
   rw [bc] at e
   split at e
   ·cases e
   ·rename_i hne
    obtain ⟨v'',r',hv''⟩:=A2.env l m' t' e
    have hli:l≠i:=fun z=>hne ⟨z,df h2⟩
    exact ⟨v'',r'.mono fun a ha=>⟨hli,ha⟩,hv''⟩
  refine k (v'::xs) Z2 H2 (yi Fs2 i) _ A3 ⟨v',xs,Fs2 i,G2,rfl,fun _ z=>.inl z,fun _ z=>.inr z,fun a z y=>A2.dis a y ⟨i,z⟩,r,r2⟩ (s2.mono (fun _ z=>z) fun a ha=>?_) fun k i' u h hu=>?_
  ·rcases ha with ⟨l,_,z⟩ | z | z
   ·exact .inl ⟨l,z⟩
   ·exact .inl ⟨i,z⟩
   ·exact .inr z
  ·cases k with
   | zero=>cases h; rw [<- hv'.2 u hu]; rfl
   | succ k=>exact hio k i' u h hu
noncomputable def atV (io:List Nat)(vs:List V):List V:=io.filterMap fun i=>vs[i]?
noncomputable def spC (K:a0a)(C:Call)(f:Nat)(io:List Nat):List V->Hp->VK->Prop:=fun vs H Q=>∃ Z ws G w bs,RepW K Z H ws vs G/\Own Z H G/\(∀ a,Z a->H a≠none)/\C f ws=.ok (w,bs) /\
 ∀ v Z' H' G1 G2,Rep K Z' H' w.1 w.2 v G1->RepW K Z' H' bs (atV io vs) G2->(∀ a,G1 a->¬ G2 a)->Own Z' H' (fun a=>G1 a\/G2 a)->Step Z H G Z' H' (fun a=>G1 a\/G2 a)->Q v H'
noncomputable def fH:List E->Nat->List Nat
 | [],_=>[]
 | .io _::es,n=>n::fH es (n+1)
 | _::es,n=>fH es (n+1)
theorem wW {vs:List V}:∀ {es:List E} {n:Nat},(∀ (k i:Nat) (u:V),es[k]?=some (.io i)->pv i=some u->vs[n+k]?=some u)->(∀ i∈ios es,pv i≠none)->(ios es).filterMap pv=atV (fH es n) vs
 | [],_,_,_=>rfl
 | e::es,n,h,hv=>by
  have rest:(∀ i∈ios es,pv i≠none)->(ios es).filterMap pv=atV (fH es (n+1)) vs:=fun q=>wW (fun k i u hk hu=>by have:=h (k+1) i u hk hu; rw [show n+(k+1)=n+1+k by omega] at this; exact this) q
  cases e with
  | io i =>
   cases hu:pv i with
   | none=>exact absurd hu (hv i (by simp [ios]))
   | some u =>
    have h0:=h 0 i u rfl hu
    rw [Nat.add_zero] at h0
    show (i::ios es).filterMap pv=(n::fH es (n+1)).filterMap fun i=>vs[i]?
    rw [a01,a01,hu,h0]
    exact congrArg (u::·) (rest fun j hj=>hv j (by simp [ios,hj]))
  | _=>exact rest fun j hj=>hv j hj
theorem At.putAll:∀ {is:List Nat} {bs:List W} {Fs:Fps} {η:Env} {G2:Fp},At K ⟨sf,val⟩ σ Z H Fs η (fun a=>R a\/G2 a)->(∀ a,R a->¬ G2 a)->RepW K Z H bs (is.filterMap val) G2->(∀ i∈is,val i≠none)->∃ Fs',At K ⟨sf,val⟩ σ Z H Fs' (M.putAll is bs η) R/\∀ a,tot Fs' a->tot Fs a\/G2 a
 | [],bs,Fs,η,G2,A,_,_,_=>⟨Fs,A.mono fun _ z=>.inl z,fun _ z=>.inl z⟩
 | i::is,[],Fs,η,G2,A,_,_,_=>⟨Fs,A.mono fun _ z=>.inl z,fun _ z=>.inl z⟩
 | i::is,b::bs,Fs,η,G2,A,hd,r,hv=>by
  cases hu:val i with
  | none=>exact absurd hu (hv i a0k)
  | some u =>
   rw [a01,hu] at r
   obtain ⟨x,r',A1,A2,e,a1,a2,ad,p,q⟩:=r
   cases e
   have B:=At.put (i:=i) (R:=fun a=>R a\/A2 a) (G1:=A1) A p (fun a h=>.inr (a1 a h)) (fun a h=>h.imp id (a2 a)) (fun a h q=>h.elim (fun z=>hd a z (a1 a q)) fun z=>ad a q z) (fun j hj=>A.lk i u j hu hj) (fun u' hu'=>by rw [show val i=some u' from hu'] at hu; cases hu; rfl)
   obtain ⟨Fs',B1,B2⟩:=At.putAll (is:=is) (bs:=bs) B (fun a h q=>hd a h (a2 a q)) q fun j hj=>hv j (a0f _ hj)
   exact ⟨Fs',B1,fun a h=>(B2 a h).elim (fun z=>(bD z).imp id (a1 a)) fun z=>.inr (a2 a z)⟩
theorem vg {f:Nat}{es:List E}{io:List Nat}(hio:fH es 0=io\/ios es=[])(σ:L2.St)(H:Hp)(Q:VK)(h:wE K sf C (.call f es) σ H Q):wA K sf C es σ H fun vs H1=>spC K C f io vs H1 Q:=by
 obtain ⟨pv,Z,Fs,η,w,η',A,ev,k⟩:=h
 obtain ⟨⟨ws,η1⟩,h1,h2⟩:=aa (show (evA C es η).bind (kCall C f (ios es))=_ from ev)
 obtain ⟨⟨u,bs⟩,h3,h4⟩:=aa (show (C f ws).bind (kBack (ios es) η1)=_ from h2)
 cases h4
 obtain ⟨val,v1,A2,v2⟩:=A.pin
 have hvn:∀ i∈ios es,val i≠none:=fun i hi=>by
  cases e:rd η i with
  | none=>exact absurd e (fC es h1 i hi)
  | some q=>exact v2 i q.1 q.2 e
 refine ⟨val,Z,Fs,η,ws,η1,A2,h1,fun vs Z1 H1 Fs1 G B r s hv=>?_⟩
 refine ⟨Z1,ws,G,u,bs,r,B.own,B.gd.zal,h3,fun v Z2 H2 G1 G2 r1 r2 d o st=>?_⟩
 obtain ⟨B2,s2⟩:=B.op o st
 have fin:∃ Fs',At K ⟨sf,val⟩ σ Z2 H2 Fs' (M.putAll (ios es) bs η1) G1/\∀ a,tot Fs' a->tot Fs1 a\/G2 a:=by
  rcases hio with e | e
  ·have e2:=wW (pv:=val) (es:=es) (n:=0) (vs:=vs) (fun k i u' hk hu=>by rw [a1J]; exact hv k i u' hk hu) hvn
   rw [e] at e2
   rw [<- e2] at r2
   exact At.putAll B2 d r2 hvn
  ·rw [e]
   exact ⟨Fs1,B2.mono fun _ z=>.inl z,fun _ z=>.inl z⟩
 obtain ⟨Fs',B3,hF⟩:=fin
 refine k v Z2 H2 Fs' G1 (B3.unpin v1) r1 ((s.trans s2).mono (fun _ z=>z) fun a ha=>?_)
 rcases ha with z | z
 ·exact (hF a z).imp id .inr
 ·exact .inr (.inl z)
end
end MR
namespace MR
open L2 L3 M
open PySem (Addr Str sizeLine)
section
variable {K:a0a}{sl:Cf}{sf sg:Nat->Option Nat}{C:Call}{σ σ2:L2.St}{Z Z' Z1:Fp}{H H' H1:Hp}{Fs Fs' Fs1:Fps}{η η' η1 ηb:Env}{G G' G1 R F F':Fp}{tg is vs ls:List Nat}{pv val:Nat->Option V}
theorem pI (o:Option W):toS (toS o)=toS o:=by
 cases o with
 | none=>rfl
 | some w=>rfl
theorem fS:∀ (vs:List Nat) (η:Env) (i:Nat),rd (share vs η) i=if i∈vs then toS (rd η i) else rd η i
 | [],η,i=>by simp [share]
 | v::vs,η,i=>by
  show rd (share vs (wr η v (toS (rd η v)))) i=_
  rw [fS vs,bc]
  by_cases h2:i=v
  ·subst h2
   rw [if_pos (show i∈i::vs from a0k)]
   by_cases hl:i < η.length
   ·rw [if_pos (show i=i/\i < η.length from ⟨rfl,hl⟩)]
    split
    ·exact pI _
    ·rfl
   ·have e:rd η i=none:=by
     cases e:rd η i with
     | none=>rfl
     | some w=>exact absurd (df e) hl
    rw [if_neg (show ¬ (i=i/\i < η.length) from fun h=>hl h.2),e]
    split<;>rfl
  ·rw [if_neg (show ¬ (i=v/\v < η.length) from fun h=>h2 h.1)]
   by_cases h1:i∈vs
   ·rw [if_pos h1,if_pos (a0f _ h1)]
   ·rw [if_neg h1,if_neg (by simp [h1,h2])]
theorem je:∀ (η:Env) (i:Nat),rd (fK η) i=none
 | [],_=>rfl
 | _::_,0=>rfl
 | _::η,i+1=>je η i
theorem l0:∀ (vs:List Nat) (η0 η:Env) (i:Nat) (w:W),rd (j4 vs η0 η) i=some w->rd η i=some w\/(i∈vs/\toS (rd η0 i)=some w)
 | [],_,_,_,_,h=>.inl h
 | v::vs,η0,η,i,w,h=>by
  rcases l0 vs η0 (wr η v (toS (rd η0 v))) i w h with e | e
  ·rw [bc] at e
   split at e
   ·rename_i hc; obtain ⟨rfl,_⟩:=hc; exact .inr ⟨a0k,e⟩
   ·exact .inl e
  ·exact .inr ⟨a0f _ e.1,e.2⟩
theorem jv:∀ (vs:List Nat) (η0 η:Env) (i:Nat) (w:W),rd (gg vs η0 η) i=some w->rd η i=some w\/lfO (rd η0 i)=some w
 | [],_,_,_,_,h=>.inl h
 | v::vs,η0,η,i,w,h=>by
  rcases jv vs η0 (wr η v (lfO (rd η0 v))) i w h with e | e
  ·rw [bc] at e
   split at e
   ·rename_i hc; obtain ⟨rfl,_⟩:=hc; exact .inr e
   ·exact .inl e
  ·exact .inr e
theorem uz {i:Nat}{w:W}(h:rd (pick vs ls η) i=some w):∃ m t,rd η i=some (m,t)/\((i∈vs/\w=(.s,t))\/(t.leaf=true/\w=(.d,t))):=by
 rcases jv ls η _ i w h with e | e
 ·rcases l0 vs η _ i w e with e | ⟨hi,e⟩
  ·rw [je] at e; cases e
  ·cases q:rd η i with
   | none=>rw [q] at e; cases e
   | some u=>rw [q] at e; cases e; exact ⟨u.1,u.2,rfl,.inl ⟨hi,rfl⟩⟩
 ·cases q:rd η i with
  | none=>rw [q] at e; cases e
  | some u =>
   rw [q] at e
   obtain ⟨m,t⟩:=u
   have e':(if t.leaf=true then some ((.d,t):W) else none)=some w:=e
   split at e'
   ·rename_i hl; cases e'; exact ⟨m,t,rfl,.inr ⟨hl,rfl⟩⟩
   ·cases e'
noncomputable def cj (Fs:Fps)(vs:List Nat):Fp:=fun a=>∃ i,i∈vs/\Fs i a
noncomputable def so:Fps:=fun _ _=>False
theorem cm {a:Addr}(h:cj Fs vs a):tot Fs a:=let ⟨i,_,h⟩:=h; ⟨i,h⟩
theorem ir {a:Addr}(h:tot so a):False:=let ⟨_,h⟩:=h; h
theorem At.quiet (A:At K sl σ Z H Fs η no):At K sl σ (fun a=>Z a\/cj Fs vs a) H so (pick vs ls η) no:=by
 refine ⟨⟨fun a h=>(ir h).elim,fun _ _ _ h=>h.elim,fun a h=>h.elim (A.gd.zal a) fun q=>?_⟩,fun i m t e=>?_,bG,fun _ z=>z.elim,A.lk,A.ln⟩
 ·obtain ⟨_,xs,e⟩:=A.gd.own a (cm q)
  rw [e]; simp
 ·obtain ⟨m',t',e1,e2⟩:=uz e
  obtain ⟨v,r,h⟩:=A.env i m' t' e1
  rcases e2 with ⟨hi,e2⟩ | ⟨hl,e2⟩
  ·cases e2
   exact ⟨v,(r.sh.zmono fun a h=>h.imp id fun q=>⟨i,hi,q⟩).sany,h⟩
  ·cases e2
   exact ⟨v,r.leaf (fun _ _ _ q=>q) hl,h⟩
mutual
theorem Rep.dany:∀ {t:T} {v:V} {G:Fp},Rep K Z H .d t v G->Rep K Z' H .d t v G
 | .non,_,_,h=>h
 | .bl _,_,_,h=>h
 | .int _,_,_,h=>h
 | .str _,_,_,h=>h
 | .scr _,_,_,h=>h
 | .tup ts,_,_,⟨a,xs,e,q,l,r⟩=>⟨a,xs,e,q,l,RepL.dany r⟩
 | .lst ts,_,_,⟨a,xs,e,l,q,r⟩=>⟨a,xs,e,l,q,RepL.dany r⟩
 | .dct _ _,_,_,⟨a,xs,e,l,q,n,hl,r⟩=>⟨a,xs,e,l,q,n,hl,RepL.dany r⟩
 | .ins _ _ _,_,_,h=>absurd rfl h.1
 | .gone,_,_,h=>h
theorem RepL.dany:∀ {ts:List T} {xs:List V} {G:Fp},RepL K Z H .d ts xs G->RepL K Z' H .d ts xs G
 | [],_,_,h=>h
 | t::ts,xs,_,⟨x,r,G1,G2,e,h1,h2,hd,p,q⟩=>⟨x,r,G1,G2,e,h1,h2,hd,Rep.dany p,RepL.dany q⟩
end
theorem dq (A:At K sl σ Z H Fs η no)(B:Own Z' H' G)(zal:∀ a,Z' a->H' a≠none)(s:Step (fun a=>Z a\/cj Fs vs a) H F Z' H' (fun a=>F' a\/G a))(hF:∀ a,¬ F a) :
  At K sl σ (fun a=>Z' a/\¬ cj Fs vs a) H' Fs η G/\Step Z H (tot Fs) (fun a=>Z' a/\¬ cj Fs vs a) H' (fun a=>tot Fs a\/G a):=by
 have keep:∀ a o,H a=some o->H' a=some o:=fun a o e=>s.keep a o e (hF a)
 have zz:∀ a,Z a->Z' a/\¬ cj Fs vs a:=fun a h=>⟨s.zm a (.inl h),fun q=>(A.gd.own a (cm q)).1 h⟩
 have nz:∀ a,tot Fs a->¬ (Z' a/\¬ cj Fs vs a):=fun a h q=>by
  obtain ⟨nz,xs,e⟩:=A.gd.own a h
  rcases s.zn a q.1 with z | z | z
  ·exact z.elim nz q.2
  ·exact hF a z
  ·rw [e] at z; cases z
 have gd:∀ a,G a->¬ tot Fs a:=fun a h q=>by
  obtain ⟨_,xs,e⟩:=A.gd.own a q
  rcases s.fn a (.inr h) with z | z
  ·exact hF a z
  ·rw [e] at z; cases z
 refine ⟨⟨⟨fun a h=>?_,A.gd.dis,fun a h=>zal a h.1⟩,fun i m t e=>?_,fun a h=>⟨fun q=>(B a h).1 q.1,(B a h).2⟩,gd,A.lk,A.ln⟩,⟨fun a o e _=>keep a o e,zz,fun a h=>?_,fun a h=>?_,s.al,fun _ a h=>zal a h.1⟩⟩
 ·obtain ⟨_,xs,e⟩:=A.gd.own a h
  exact ⟨nz a h,xs,keep a _ e⟩
 ·obtain ⟨v,r,h⟩:=A.env i m t e
  refine ⟨v,r.keep ⟨fun a o _ e=>keep a o e,fun a xs e=>?_,fun a o u e=>keep a _ e⟩ zz fun a o _ e=>keep a o e,h⟩
  rcases e with e | ⟨u,e⟩
  ·exact .inl (keep a _ e)
  ·exact .inr ⟨u,keep a _ e⟩
 ·rcases s.zn a h.1 with z | z | z
  ·exact z.elim .inl fun q=>absurd q h.2
  ·exact (hF a z).elim
  ·exact .inr (.inr z)
 ·rcases h with h | h
  ·exact .inl h
  ·exact (s.fn a (.inr h)).elim (fun z=>(hF a z).elim) .inr
theorem At.share (A:At K sl σ Z H Fs η G):At K sl σ (fun a=>Z a\/cj Fs vs a) H (eG Fs vs) (M.share vs η) G/\∀ {Z0 H0 F0},Step Z0 H0 F0 Z H (fun a=>tot Fs a\/G a)->Step Z0 H0 F0 (fun a=>Z a\/cj Fs vs a) H (fun a=>tot (eG Fs vs) a\/G a):=by
 refine ⟨⟨⟨fun a h=>?_,fun i j a h1 h2=>A.gd.dis i j a h1.2 h2.2,fun a h=>h.elim (A.gd.zal a) fun q=>?_⟩,fun i m t e=>?_,fun a h=>⟨fun z=>z.elim (A.own a h).1 fun q=>A.dis a h (cm q),(A.own a h).2⟩,fun a h q=>A.dis a h (cy q),A.lk,A.ln⟩,fun {Z0 H0 F0} s=>⟨s.keep,fun a h=>.inl (s.zm a h),fun a h=>h.elim (s.zn a) fun q=>.inr (s.fn a (.inl (cm q))),fun a h=>s.fn a (h.imp cy id),s.al,fun z a h=>h.elim (s.za z a) fun q=>?_⟩⟩
 ·obtain ⟨i,hi,h'⟩:=h
  obtain ⟨nz,xs,e⟩:=A.gd.own a ⟨i,h'⟩
  exact ⟨fun z=>z.elim nz fun ⟨j,hj,q⟩=>hi (A.gd.dis i j a h' q ▸ hj),xs,e⟩
 ·obtain ⟨_,xs,e⟩:=A.gd.own a (cm q)
  rw [e]; simp
 ·rw [fS] at e
  split at e
  ·rename_i hi
   cases q:rd η i with
   | none=>rw [q] at e; cases e
   | some u =>
    rw [q] at e; cases e
    obtain ⟨v,r,h⟩:=A.env i u.1 u.2 q
    exact ⟨v,(r.sh.zmono fun a h=>h.imp id fun q=>⟨i,hi,q⟩).sany,h⟩
  ·rename_i hi
   obtain ⟨v,r,h⟩:=A.env i m t e
   exact ⟨v,(r.zmono fun a h=>.inl h).mono fun a h=>⟨hi,h⟩,h⟩
 ·obtain ⟨_,xs,e⟩:=A.gd.own a (cm q)
  rw [e]; simp
theorem jd {x:X}{e:E}{w:W}{Q:VK}(A:At K sl σ Z H Fs η no)(ev:evX C x e η=.ok (w,η'))(k:∀ v Z' H' Fs' G,At K sl σ Z' H' Fs' η' G->Rep K Z' H' w.1 w.2 v G->Step Z H (tot Fs) Z' H' (fun a=>tot Fs' a\/G a)->Q v H'):wE K sl.sl C e σ H Q:=by
 cases x with
 | q vs ls =>
  obtain ⟨⟨u,η2⟩,h1,h2⟩:=aa (show (evE C e (pick vs ls η)).bind (kX vs η)=_ from ev)
  cases h2
  generalize hm0:M.lf u.1 u.2=m0 at k
  refine ⟨sl.pv,_,so,_,_,η2,A.quiet (vs:=vs) (ls:=ls),h1,fun v Z' H' Fs' G B r0 s=>?_⟩
  have r:=r0.lf
  rw [hm0] at r
  obtain ⟨B1,s1⟩:=dq A B.own B.gd.zal s fun a h=>ir h
  have other:Q v H'\/m0=.d:=by
   by_cases hd:m0=.d
   ·exact .inr hd
   ·refine .inl ?_
    have e':after m0 vs η=share vs η:=by
     cases hm:m0 with
     | d=>exact absurd hm hd
     | s=>rfl
     | o m=>rfl
    obtain ⟨B2,s2⟩:=B1.share (vs:=vs)
    have zz:∀ a,(Z' a/\¬ cj Fs vs a)\/cj Fs vs a->Z' a:=fun a h=>h.elim a2N fun q=>s.zm a (.inr q)
    have zz':∀ a,Z' a->(Z' a/\¬ cj Fs vs a)\/cj Fs vs a:=fun a h=>(a3O (cj Fs vs a)).elim .inr fun q=>.inl ⟨h,q⟩
    exact k v _ H' _ G (e' ▸ B2) (r.zmono zz') (s2 s1)
  rcases other with q | hd
  ·exact q
  ·have e':after m0 vs η=η:=by rw [hd]; rfl
   refine k v _ H' Fs G (e'.symm ▸ B1) ?_ s1
   subst hd
   exact r.dany
 | l vs =>
  obtain ⟨B,s0⟩:=A.share (vs:=vs)
  have s1:=s0 ((Step.refl Z H (tot Fs)).mono (F2:=fun a=>tot Fs a\/no a) (fun _ z=>z) fun a h=>h.elim id fun z=>z.elim)
  refine ⟨sl.pv,_,_,_,w,η',B,ev,fun v Z' H' Fs' G B' r s=>k v Z' H' Fs' G B' r ((s1.mono (fun _ z=>z) fun a h=>.inl h).trans s)⟩
theorem FY {x:X}{e:E}{b:Bool}{Q:Bool->Hp->Prop}(A:At K sl σ Z H Fs η no)(ev:evT C x e η=.ok (b,η'))(k:∀ Z' H' Fs',At K sl σ Z' H' Fs' η' no->Step Z H (tot Fs) Z' H' (tot Fs')->Q b H'):wT K sl.sl C e σ H Q:=by
 cases x with
 | q vs ls =>
  obtain ⟨⟨u,η2⟩,h1,h2⟩:=aa (show (evE C e (pick vs ls η)).bind (kT η)=_ from ev)
  obtain ⟨b',h3,e3⟩:=ai (show ret η (truth u.2)=_ from h2)
  cases e3
  refine ⟨sl.pv,_,so,_,u,η2,b,A.quiet (vs:=vs) (ls:=ls),h1,h3,fun Z' H' Fs' B s=>?_⟩
  obtain ⟨B1,s1⟩:=dq (G:=no) A bG B.gd.zal (s.mono (F2:=fun a=>tot Fs' a\/no a) (fun _ z=>z) fun a h=>h.elim id fun z=>z.elim) fun a h=>ir h
  exact k _ H' Fs B1 (s1.mono (fun _ z=>z) fun a h=>.inl h)
 | l vs =>
  obtain ⟨⟨u,η2⟩,h1,h2⟩:=aa (show (evE C e (M.share vs η)).bind kT2=_ from ev)
  obtain ⟨b',h3,e3⟩:=ai (show ret η2 (truth u.2)=_ from h2)
  cases e3
  obtain ⟨B,s0⟩:=A.share (vs:=vs)
  have s1:=s0 ((Step.refl Z H (tot Fs)).mono (F2:=fun a=>tot Fs a\/no a) (fun _ z=>z) fun a h=>h.elim id fun z=>z.elim)
  exact ⟨sl.pv,_,_,_,u,_,b,B,h1,h3,fun Z' H' Fs' B' s=>k Z' H' Fs' B' ((s1.mono (fun _ z=>z) fun a h=>.inl h).trans s)⟩
end
end MR
namespace MR
open L2 L3 M
open PySem (Addr Str sizeLine)
section
variable {K:a0a}{Wx:L2.St->VK}{sl:Cf}{sf sg:Nat->Option Nat}{C:Call}{σ σ2:L2.St}{Z Z' Z1:Fp}{H H' H1:Hp}{Fs Fs' Fs1:Fps}{η η' η1 ηb:Env}{G G' G1 R F F':Fp}{tg is vs ls io:List Nat}{pv val:Nat->Option V}{D:bL}
noncomputable def Fin (K:a0a)(Wx:L2.St->VK)(sl:Cf)(Z:Fp)(H:Hp)(F:Fp)(D:bL):Fl->Prop
 | .nx η'=>∀ σ' Z' H' Fs',At K sl σ' Z' H' Fs' η' no->Step Z H F Z' H' (tot Fs')->D.nx σ' H'
 | .rt w η'=>∀ v σ' Z' H' Fs' G,At K sl σ' Z' H' Fs' η' G->Rep K Z' H' w.1 w.2 v G->Step Z H F Z' H' (fun a=>tot Fs' a\/G a)->D.rt v H'
 | .bk η'=>∀ σ' Z' H' Fs',At K sl σ' Z' H' Fs' η' no->Step Z H F Z' H' (tot Fs')->D.bk σ' H'
 | .ex t η'=>∀ v σ' Z' H' Fs',At K sl σ' Z' H' Fs' η' no->Rep K Z' H' .s t v no->Step Z H F Z' H' (tot Fs')->Wx σ' v H'
 | _=>False
theorem Fin.step {fl:Fl}(s:Step Z H F Z1 H1 F')(h:Fin K Wx sl Z H F D fl):Fin K Wx sl Z1 H1 F' D fl:=by
 cases fl with
 | nx η=>exact fun σ' Z' H' Fs' A t=>h σ' Z' H' Fs' A (s.trans t)
 | rt w η=>exact fun v σ' Z' H' Fs' G A r t=>h v σ' Z' H' Fs' G A r (s.trans t)
 | bk η=>exact fun σ' Z' H' Fs' A t=>h σ' Z' H' Fs' A (s.trans t)
 | ex t η=>exact fun v σ' Z' H' Fs' A r t=>h v σ' Z' H' Fs' A r (s.trans t)
 | _=>exact h.elim
structure nC (sf:Nat->Option Nat)(io:List Nat)(pv:Nat->Option V):Prop where
 inj:∀ i i' j,sf i=some j->sf i'=some j->i=i'
 io:∀ i,i ∉ io->pv i=none
noncomputable def wS (K:a0a)(Wx:L2.St->VK)(sf:Nat->Option Nat)(io:List Nat)(C:Call)(st:S):TS:=fun D σ H=>∃ pv Z Fs η,nC sf io pv/\At K ⟨sf,pv⟩ σ Z H Fs η no/\Fin K Wx ⟨sf,pv⟩ Z H (tot Fs) D (evS C st η)
noncomputable def wSs (K:a0a)(Wx:L2.St->VK)(sf:Nat->Option Nat)(io:List Nat)(C:Call)(st:List S):TS:=fun D σ H=>∃ pv Z Fs η,nC sf io pv/\At K ⟨sf,pv⟩ σ Z H Fs η no/\Fin K Wx ⟨sf,pv⟩ Z H (tot Fs) D (evSs C st η)
theorem v8 (D:bL)(σ:L2.St)(H:Hp)(h:wSs K Wx sf io C [] D σ H):xt D σ H:=by
 obtain ⟨pv,Z,Fs,η,N,A,f⟩:=h
 exact f σ Z H Fs A (Step.refl _ _ _)
theorem r6 {s:S}{r:List S}(D:bL)(σ:L2.St)(H:Hp)(h:wSs K Wx sf io C (s::r) D σ H):B7 (wS K Wx sf io C s) (wSs K Wx sf io C r) D σ H:=by
 obtain ⟨pv,Z,Fs,η,N,A,f⟩:=h
 refine ⟨pv,Z,Fs,η,N,A,?_⟩
 have f':Fin K Wx ⟨sf,pv⟩ Z H (tot Fs) D (Fl.seq (evS C s η) (evSs C r)):=f
 cases e:evS C s η with
 | nx η1 =>
  rw [e] at f'
  exact fun σ' Z' H' Fs' A' t=>⟨pv,Z',Fs',η1,N,A',f'.step t⟩
 | rt w η1=>rw [e] at f'; exact f'
 | bk η1=>rw [e] at f'; exact f'
 | ex t η1=>rw [e] at f'; exact f'
 | no=>rw [e] at f'; exact f'.elim
theorem uk {s:S}(D:bL)(σ:L2.St)(H:Hp)(h:wSs K Wx sf io C [s] D σ H):wS K Wx sf io C s D σ H:=by
 obtain ⟨pv,Z,Fs,η,N,A,f⟩:=h
 refine ⟨pv,Z,Fs,η,N,A,?_⟩
 have f':Fin K Wx ⟨sf,pv⟩ Z H (tot Fs) D (Fl.seq (evS C s η) (evSs C [])):=f
 cases e:evS C s η with
 | nx η1=>rw [e] at f'; exact f'
 | rt w η1=>rw [e] at f'; exact f'
 | bk η1=>rw [e] at f'; exact f'
 | ex t η1=>rw [e] at f'; exact f'
 | no=>rw [e] at f'; exact f'.elim
theorem aZ {α:Type}{r:Res α}{g:α->Fl}(f:Fin K Wx sl Z H F D (Fl.of η r g)):∃ a,r=.ok a/\Fin K Wx sl Z H F D (g a):=by
 cases r with
 | ok a=>exact ⟨a,rfl,f⟩
 | ex t=>exact f.elim
 | no=>exact f.elim
theorem iX {o:Option Env}(f:Fin K Wx sl Z H F D (nxO η o)):∃ η',o=some η'/\Fin K Wx sl Z H F D (.nx η'):=by
 cases o with
 | some a=>exact ⟨a,rfl,f⟩
 | none=>exact f.elim
theorem At.setR {i j:Nat}{w:W}{x:V}(N:nC sf io pv)(hi:i ∉ io)(hs:sf i=some j)(A:At K ⟨sf,pv⟩ σ Z H Fs η G)(r:Rep K Z H w.1 w.2 x G1)(q1:∀ a,G1 a->G a)(q2:∀ a,R a->G a)(q3:∀ a,R a->¬ G1 a):At K ⟨sf,pv⟩ (σ.set j (some x)) Z H (lb Fs i G1) (M.put η i w) R:=by
 have hj:j < σ.length:=A.ln i j hs
 have B:At K ⟨fun k=>if k=i then none else sf k,pv⟩ (σ.set j (some x)) Z H Fs (M.del η i) G:=by
  refine ⟨A.gd,fun l m t e=>?_,A.own,A.dis,fun l u k hu hk=>?_,fun l k hk=>?_⟩
  ·rw [bc] at e
   split at e
   ·cases e
   ·rename_i hne
    obtain ⟨v,r',h1,h2⟩:=A.env l m t e
    have hl:l≠i:=fun z=>hne ⟨z,by rw [<- z]; exact df e⟩
    refine ⟨v,r',fun k hk=>?_,h2⟩
    have hk':sf l=some k:=by have:(if l=i then none else sf l)=some k:=hk; rw [if_neg hl] at this; exact this
    have hjk:j≠k:=fun z=>hl (N.inj l i k hk' (by rw [<- z]; exact hs))
    rw [a0V hjk]
    exact h1 k hk'
  ·have hl:l≠i:=fun z=>by
    have hu':pv l=some u:=hu
    rw [z,N.io i hi] at hu'; cases hu'
   have hk':sf l=some k:=by have:(if l=i then none else sf l)=some k:=hk; rw [if_neg hl] at this; exact this
   have hjk:j≠k:=fun z=>hl (N.inj l i k hk' (by rw [<- z]; exact hs))
   rw [a0V hjk]
   exact A.lk l u k hu hk'
  ·have hk':sf l=some k:=by
    have:(if l=i then none else sf l)=some k:=hk
    split at this
    ·cases this
    ·exact this
   rw [a05]
   exact A.ln l k hk'
 have B2:=At.put (i:=i) (w:=w) (G1:=G1) (R:=R) B r q1 q2 q3 (fun k hk=>by have hk':(if i=i then none else sf i)=some k:=hk; rw [if_pos rfl] at hk'; cases hk') (fun u hu=>by have:=N.io i hi; rw [show pv i=some u from hu] at this; cases this)
 have e1:M.put (M.del η i) i w=M.put η i w:=by
  have:∀ (η:Env) (i:Nat) (a b:Option W),wr (wr η i a) i b=wr η i b:=fun η=>by
   induction η with
   | nil=>intro i a b; rfl
   | cons o η ih=>intro i a b; cases i with
    | zero=>rfl
    | succ i=>show o::wr (wr η i a) i b=o::wr η i b; rw [ih]
  exact this η i none (some w)
 rw [e1] at B2
 refine ⟨B2.gd,fun l m t e=>?_,B2.own,B2.dis,fun l u k hu hk=>?_,fun l k hk=>by rw [a05]; exact A.ln l k hk⟩
 ·obtain ⟨v,r',h1,h2⟩:=B2.env l m t e
  by_cases hl:l=i
  ·subst hl
   rw [bc] at e
   split at e
   ·cases e
    refine ⟨x,r.mono fun a h=>.inl ⟨rfl,h⟩,fun k hk=>?_,fun u hu=>by have:=N.io l hi; rw [show pv l=some u from hu] at this; cases this⟩
    have:k=j:=by rw [show sf l=some k from hk] at hs; cases hs; rfl
    subst this
    rw [a00 hj]
   ·rename_i hc
    exact absurd ⟨rfl,df e⟩ hc
  ·refine ⟨v,r',fun k hk=>h1 k ?_,h2⟩
   show (if l=i then none else sf l)=some k
   rw [if_neg hl]; exact hk
 ·by_cases hl:l=i
  ·subst hl
   have:=N.io l hi
   rw [show pv l=some u from hu] at this; cases this
  ·exact B2.lk l u k hu (show (if l=i then none else sf l)=some k by rw [if_neg hl]; exact hk)
theorem At.set {i j:Nat}{w:W}{x:V}(N:nC sf io pv)(hi:i ∉ io)(hs:sf i=some j)(A:At K ⟨sf,pv⟩ σ Z H Fs η G)(r:Rep K Z H w.1 w.2 x G):At K ⟨sf,pv⟩ (σ.set j (some x)) Z H (lb Fs i G) (M.put η i w) no:=At.setR N hi hs A r (fun _ h=>h) (fun _ z=>z.elim) (fun _ z=>z.elim)
theorem rJ {x:X}{i j:Nat}{e:E}(hi:i ∉ io)(hs:sf i=some j)(D:bL)(σ:L2.St)(H:Hp)(h:wS K Wx sf io C (.asg x i e) D σ H):oS (wE K sf C e) (cO j) D σ H:=by
 obtain ⟨pv,Z,Fs,η,N,A,f⟩:=h
 obtain ⟨⟨w,η1⟩,h1,h2⟩:=aZ (show Fin K Wx ⟨sf,pv⟩ Z H (tot Fs) D (Fl.of η (evX C x e η) (uy i)) from f)
 refine jd (sl:=⟨sf,pv⟩) A h1 fun v Z' H' Fs' G B r s=>?_
 exact h2 _ Z' H' _ (At.set N hi hs B r) (s.mono (fun _ z=>z) fun a ha=>bD ha)
theorem zj {x:X}{e:E}(D:bL)(σ:L2.St)(H:Hp)(h:wS K Wx sf io C (.exp x e) D σ H):wB (wE K sf C e) D σ H:=by
 obtain ⟨pv,Z,Fs,η,N,A,f⟩:=h
 obtain ⟨⟨w,η1⟩,h1,h2⟩:=aZ (show Fin K Wx ⟨sf,pv⟩ Z H (tot Fs) D (Fl.of η (evX C x e η) kNx) from f)
 exact jd (sl:=⟨sf,pv⟩) A h1 fun v Z' H' Fs' G B r s=>h2 σ Z' H' Fs' B.bare (s.mono (fun _ z=>z) fun a ha=>.inl ha)
theorem AH {e:E}(D:bL)(σ:L2.St)(H:Hp)(h:wS K Wx sf io C (.ret vs e) D σ H):C8 (wE K sf C e) D σ H:=by
 obtain ⟨pv,Z,Fs,η,N,A,f⟩:=h
 obtain ⟨⟨w,η1⟩,h1,h2⟩:=aZ (show Fin K Wx ⟨sf,pv⟩ Z H (tot Fs) D (Fl.of η (evE C e (M.share vs η)) kRt) from f)
 exact jd (sl:=⟨sf,pv⟩) (x:=.l vs) A h1 fun v Z' H' Fs' G B r s=>h2 v σ Z' H' Fs' G B r s
theorem Bi {x:X}{c:E}{a b:List S}(D:bL)(σ:L2.St)(H:Hp)(h:wS K Wx sf io C (.ite x c a b) D σ H):Dz (wT K sf C c) (wSs K Wx sf io C a) (wSs K Wx sf io C b) D σ H:=by
 obtain ⟨pv,Z,Fs,η,N,A,f⟩:=h
 obtain ⟨⟨k,η1⟩,h1,h2⟩:=aZ (show Fin K Wx ⟨sf,pv⟩ Z H (tot Fs) D (Fl.of η (evT C x c η) (kIf (evSs C a) (evSs C b))) from f)
 refine FY (sl:=⟨sf,pv⟩) A h1 fun Z' H' Fs' B s=>?_
 cases k with
 | true=>rw [if_pos rfl]; exact ⟨pv,Z',Fs',η1,N,B,Fin.step s h2⟩
 | false=>rw [if_neg a0l]; exact ⟨pv,Z',Fs',η1,N,B,Fin.step s h2⟩
theorem iE {m:Md}{ts:List T}{v:V}(hm:m≠.s)(r:Rep K Z H m (.lst ts) v G):∃ a xs,v=.ref a/\xs.length<=LIM/\G a/\H a=some (.lst xs)/\RepL K Z H m.kid ts xs (fun b=>G b/\b≠a):=by
 obtain ⟨a,xs,e,l,q,p⟩:=r
 rw [LstR.own hm] at q
 exact ⟨a,xs,e,l,q.1,q.2,p⟩
theorem lR {i:Nat}{a:Addr}{ts':List T}{xs':List V}{m':Md}(hm:m'≠.s)(A:At K ⟨sf,pv⟩ σ Z H Fs η G){w0:W}(hi:rd η i=some w0)(ha:Fs i a)(hx:∀ j,sf i=some j->σ[j]?=some (some (.ref a)))(hl:xs'.length<=LIM)(hpv:∀ u,pv i=some u->V.ref a=u)
  (hg:∀ b,G' b->(Fs i b\/G b)/\b≠a) (hR:∀ b,R b->(Fs i b\/G b)/\b≠a) (hRG:∀ b,R b->¬ G' b) (p:RepL K (fun b=>Z b\/((Fs i b\/G b)/\b≠a/\¬ G' b/\¬ R b)) H m'.kid ts' xs' G') {Q:Hp->Prop}
  (k:∀ Z' Fs',At K ⟨sf,pv⟩ σ Z' (upd H a (.lst xs')) Fs' (M.put η i (m',.lst ts')) R->Step Z H (fun b=>tot Fs b\/G b) Z' (upd H a (.lst xs')) (fun b=>tot Fs' b\/R b)->(∀ {m t v},Rep K (fun b=>Z b\/((Fs i b\/G b)/\b≠a/\¬ G' b/\¬ R b)) H m t v R->Rep K Z' (upd H a (.lst xs')) m t v R)->Q (upd H a (.lst xs'))):Q (upd H a (.lst xs')):=by
 have hta:tot Fs a:=⟨i,ha⟩
 obtain ⟨nza,ys,hya⟩:=A.gd.own a hta
 have nGa:¬ G a:=fun q=>A.dis a q hta
 have zdef:∀ b,(Z b\/((Fs i b\/G b)/\b≠a/\¬ G' b/\¬ R b))->b≠a:=fun b h z=>by
  subst z
  rcases h with h | h
  ·exact nza h
  ·exact h.2.1 rfl
 have keep:∀ b o,H b=some o->b≠a->upd H a (.lst xs') b=some o:=fun b o e hb=>by rw [af hb]; exact e
 have neT:∀ b xs,H b=some (.tup xs)->b≠a:=fun b xs e z=>by rw [z,hya] at e; exact pJ e.symm
 have neF:∀ b o u,H b=some (.frz o u)->b≠a:=fun b o u e z=>by rw [z,hya] at e; exact k8 e.symm
 have stay:∀ {Y:Fp},(∀ b,Y b->b≠a)->Stay Y H (upd H a (.lst xs')):=fun {Y} hY=>⟨fun b o hb e=>keep b o e (hY b hb),fun b xs e=>by
  rcases e with e | ⟨u,e⟩
  ·exact .inl (keep b _ e (neT b xs e))
  ·exact .inr ⟨u,keep b _ e (neF b u _ e)⟩,fun b o u e=>keep b _ e (neF b o u e)⟩
 have al:∀ b,H b≠none->upd H a (.lst xs') b≠none:=fun b h=>by
  by_cases e:b=a
  ·rw [e,ag]; simp
  ·rw [af e]; exact h
 have zal':∀ b,(Z b\/((Fs i b\/G b)/\b≠a/\¬ G' b/\¬ R b))->H b≠none:=fun b h=>by
  rcases h with h | ⟨h | h,_⟩
  ·exact A.gd.zal b h
  ·obtain ⟨_,zs,e⟩:=A.gd.own b ⟨i,h⟩; rw [e]; simp
  ·obtain ⟨_,zs,e⟩:=A.own b h; rw [e]; simp
 have listAt:∀ b,(tot Fs b\/G b)->∃ zs:OO,upd H a (.lst xs') b=some zs.ho:=fun b h=>by
  by_cases e:b=a
  ·exact ⟨.inl xs',by rw [e,ag]; rfl⟩
  ·rcases h with h | h
   ·obtain ⟨_,zs,q⟩:=A.gd.own b h; exact ⟨zs,by rw [af e]; exact q⟩
   ·obtain ⟨_,zs,q⟩:=A.own b h; exact ⟨zs,by rw [af e]; exact q⟩
 have nZ:∀ b,(Fs i b\/G b)->¬ Z b:=fun b h z=>h.elim (fun y=>(A.gd.own b ⟨i,y⟩).1 z) fun y=>(A.own b y).1 z
 have dz:∀ b,tot (lb Fs i fun b=>G' b\/b=a) b->(∃ j,j≠i/\Fs j b)\/G' b\/b=a:=fun b h=>by
  obtain ⟨j,h | h⟩:=h
  ·exact .inr h.2
  ·exact .inl ⟨j,h⟩
 refine k (fun b=>Z b\/((Fs i b\/G b)/\b≠a/\¬ G' b/\¬ R b)) (lb Fs i fun b=>G' b\/b=a) ⟨⟨fun b h=>⟨fun z=>?_,?_⟩,fun j l b hj hk=>?_,fun b h=>al b (zal' b h)⟩,fun l m t e=>?_,fun b h=>⟨fun z=>?_,listAt b ((hR b h).1.imp (fun z=>⟨i,z⟩) id)⟩,fun b h q=>?_,A.lk,A.ln⟩ ⟨fun b o e n=>keep b o e fun z=>n (.inl (z ▸ hta)),fun b h=>.inl h,fun b h=>h.imp id fun q=>.inl (q.1.imp (fun z=>⟨i,z⟩) id),fun b h=>?_,al,fun _ b h=>al b (zal' b h)⟩ fun {m t v} r=>r.keep (stay zdef) (fun _ z=>z) fun b o hb e=>keep b o e (hR b hb).2
 ·rcases dz b h with ⟨j,hj,q⟩ | q | q
  ·rcases z with z | ⟨z | z,_⟩
   ·exact (A.gd.own b ⟨j,q⟩).1 z
   ·exact hj (A.gd.dis j i b q z)
   ·exact A.dis b z ⟨j,q⟩
  ·rcases z with z | z
   ·exact nZ b (hg b q).1 z
   ·exact z.2.2.1 q
  ·exact zdef b z q
 ·rcases dz b h with ⟨j,hj,q⟩ | q | q
  ·exact listAt b (.inl ⟨j,q⟩)
  ·exact listAt b ((hg b q).1.imp (fun z=>⟨i,z⟩) id)
  ·exact ⟨.inl xs',by rw [q,ag]; rfl⟩
 ·have key:∀ {j:Nat},(G' b\/b=a)->Fs j b->j=i:=fun {j} h q=>by
   rcases h with h | h
   ·rcases (hg b h).1 with y | y
    ·exact A.gd.dis j i b q y
    ·exact absurd ⟨j,q⟩ (A.dis b y)
   ·rw [h] at q; exact A.gd.dis j i a q ha
  rcases hj with ⟨rfl,hj⟩ | ⟨nj,hj⟩
  ·rcases hk with ⟨rfl,_⟩ | ⟨nk,hk⟩
   ·rfl
   ·exact absurd (key hj hk) nk
  ·rcases hk with ⟨rfl,hk⟩ | ⟨nk,hk⟩
   ·exact absurd (key hk hj) nj
   ·exact A.gd.dis j l b hj hk
 ·rw [bc] at e
  split at e
  ·rename_i hc
   obtain ⟨rfl,_⟩:=hc
   cases e
   refine ⟨.ref a,⟨a,xs',rfl,hl,(LstR.own hm).mpr ⟨.inl ⟨rfl,.inr rfl⟩,ag⟩,?_⟩,hx,hpv⟩
   exact (p.keep (stay zdef) (fun _ z=>z) fun b o hb e=>keep b o e (hg b hb).2).mono fun b hb=>⟨.inl ⟨rfl,.inl hb⟩,(hg b hb).2⟩
  ·rename_i hc
   have hl':l≠i:=fun z=>hc ⟨z,df hi⟩
   obtain ⟨v,r,h⟩:=A.env l m t e
   have nea:∀ b,Fs l b->b≠a:=fun b q z=>hl' (A.gd.dis l i a (z ▸ q) ha)
   exact ⟨v,((r.keep (stay fun b hb z=>nza (z ▸ hb)) (fun _ z=>z) fun b o hb e=>keep b o e (nea b hb)).zmono fun b h=>.inl h).mono fun b h=>.inr ⟨hl',h⟩,h⟩
 ·rcases z with z | z
  ·exact nZ b (hR b h).1 z
  ·exact z.2.2.2 h
 ·rcases dz b q with ⟨j,hj,y⟩ | y | y
  ·rcases (hR b h).1 with z | z
   ·exact hj (A.gd.dis j i b y z)
   ·exact A.dis b z ⟨j,y⟩
  ·exact hRG b h y
  ·exact (hR b h).2 y
 ·rcases h with h | h
  ·rcases dz b h with ⟨j,_,q⟩ | q | q
   ·exact .inl (.inl ⟨j,q⟩)
   ·exact .inl ((hg b q).1.imp (fun z=>⟨i,z⟩) id)
   ·exact .inl (.inl (q ▸ hta))
  ·exact .inl ((hR b h).1.imp (fun z=>⟨i,z⟩) id)
theorem change {i:Nat}{a:Addr}{ts':List T}{xs':List V}{m':Md}(hm:m'≠.s)(A:At K ⟨sf,pv⟩ σ Z H Fs η G){w0:W}(hi:rd η i=some w0)(ha:Fs i a)(hx:∀ j,sf i=some j->σ[j]?=some (some (.ref a)))(hl:xs'.length<=LIM)(hpv:∀ u,pv i=some u->V.ref a=u)
  (hg:∀ b,G' b->(Fs i b\/G b)/\b≠a) (p:RepL K (fun b=>Z b\/((Fs i b\/G b)/\b≠a/\¬ G' b)) H m'.kid ts' xs' G') {Q:Hp->Prop}
  (k:∀ Z' Fs',At K ⟨sf,pv⟩ σ Z' (upd H a (.lst xs')) Fs' (M.put η i (m',.lst ts')) no->Step Z H (fun b=>tot Fs b\/G b) Z' (upd H a (.lst xs')) (tot Fs')->Q (upd H a (.lst xs'))):Q (upd H a (.lst xs')) :=
 lR (R:=no) hm A hi ha hx hl hpv hg (fun _ z=>z.elim) (fun _ z=>z.elim) (p.zmono fun b h=>h.imp id fun q=>⟨q.1,q.2.1,q.2.2,fun z=>z⟩) fun Z' Fs' B s _=>k Z' Fs' B (s.mono (fun _ z=>z) fun _ z=>.inl z)
end
end MR
namespace MR
open L2 L3 M
open PySem (Addr Str sizeLine)
section
variable {K:a0a}{Wx:L2.St->VK}{sl:Cf}{sf sg:Nat->Option Nat}{C:Call}{σ σ2:L2.St}{Z Z' Z1:Fp}{H H' H1:Hp}{Fs Fs' Fs1:Fps}{η η' η1 ηb:Env}{G G' G1 R F F':Fp}{tg is vs ls io:List Nat}{pv val:Nat->Option V}{D:bL}
theorem fM {o:Option W}{u:Unit}(h:chkL o=.ok u):∃ m ts,o=some (m,.lst ts):=by
 cases o with
 | none=>cases h
 | some w =>
  obtain ⟨m,t⟩:=w
  cases t with
  | lst ts=>exact ⟨m,ts,rfl⟩
  | _=>cases h
theorem At.listAt {i j:Nat}{m:Md}{ts:List T}(hs:sf i=some j)(A:At K ⟨sf,pv⟩ σ Z H Fs η G)(h:rd η i=some (m,.lst ts)):∃ a xs,σ[j]?=some (some (.ref a))/\H a=some (.lst xs):=by
 obtain ⟨v,r,hl,_⟩:=A.env i m _ h
 obtain ⟨a,xs,rfl,hx,_⟩:=bu r
 exact ⟨a,xs,hl j hs,hx⟩
theorem At.ourList {i j:Nat}{a:Addr}{m:Md}{ts:List T}(hs:sf i=some j)(hm:m≠.s)(hj:σ[j]?=some (some (.ref a)))(A:At K ⟨sf,pv⟩ σ Z H Fs η G)(h:rd η i=some (m,.lst ts)) :
  ∃ xs,xs.length<=LIM/\Fs i a/\H a=some (.lst xs)/\RepL K Z H m.kid ts xs (fun b=>Fs i b/\b≠a)/\(∀ u,pv i=some u->V.ref a=u):=by
 obtain ⟨v,r,hl,hp⟩:=A.env i m _ h
 have e:=hl j hs
 rw [hj] at e
 cases e
 obtain ⟨b,xs,e,l,g,hx,p⟩:=iE hm r
 cases e
 exact ⟨xs,l,g,hx,p,hp⟩
theorem qq {u w r:W}(h:f9 u w=some r):∃ m ts,u=(m,.lst ts)/\m≠.s/\ts.length < LIM/\r=((m.kid.meet (lf w.1 w.2)).up,.lst (ts++[w.2])):=by
 obtain ⟨m,t⟩:=u
 obtain ⟨n,t'⟩:=w
 cases m with
 | s=>cases h
 | d =>
  cases t with
  | lst ts =>
   have h':(if ts.length < LIM then some ((((Md.d.kid.meet (lf n t')).up,.lst (ts++[t'])):W)) else none)=some r:=h
   split at h'
   ·rename_i hl; cases h'; exact ⟨.d,ts,rfl,by simp,hl,rfl⟩
   ·cases h'
  | _=>cases h
 | o m =>
  cases t with
  | lst ts =>
   have h':(if ts.length < LIM then some (((((Md.o m).kid.meet (lf n t')).up,.lst (ts++[t'])):W)) else none)=some r:=h
   split at h'
   ·rename_i hl; cases h'; exact ⟨.o m,ts,rfl,by simp,hl,rfl⟩
   ·cases h'
  | _=>cases h
theorem pK {u w r:W}(h:fJ u w=some r):∃ m ts n us,u=(m,.lst ts)/\w=(n,.lst us)/\m≠.s/\ts.length+us.length<=LIM/\r=((m.kid.meet n.kid).up,.lst (ts++us)):=by
 obtain ⟨m,t⟩:=u
 obtain ⟨n,t'⟩:=w
 cases m with
 | s=>cases h
 | d =>
  cases t with
  | lst ts =>
   cases t' with
   | lst us =>
    have h':(if ts.length+us.length<=LIM then some ((((Md.d.kid.meet n.kid).up,.lst (ts++us)):W)) else none)=some r:=h
    split at h'
    ·rename_i hl; cases h'; exact ⟨.d,ts,n,us,rfl,rfl,by simp,hl,rfl⟩
    ·cases h'
   | _=>cases h
  | _=>cases h
 | o m =>
  cases t with
  | lst ts =>
   cases t' with
   | lst us =>
    have h':(if ts.length+us.length<=LIM then some (((((Md.o m).kid.meet n.kid).up,.lst (ts++us)):W)) else none)=some r:=h
    split at h'
    ·rename_i hl; cases h'; exact ⟨.o m,ts,n,us,rfl,rfl,by simp,hl,rfl⟩
    ·cases h'
   | _=>cases h
  | _=>cases h
theorem pL {u k w r:W}(h:dz u k w=some r):∃ m ts n j q,u=(m,.lst ts)/\k=(n,.int j)/\m≠.s/\M.ixN ts.length j=some q/\r=((m.kid.meet (lf w.1 w.2)).up,.lst (ts.set q w.2)):=by
 obtain ⟨m,t⟩:=u
 obtain ⟨n,t'⟩:=k
 cases m with
 | s=>cases h
 | d =>
  cases t with
  | lst ts =>
   cases t' with
   | int j =>
    have h':(M.ixN ts.length j).map (fun k=>(((Md.d.kid.meet (lf w.1 w.2)).up,.lst (ts.set k w.2)):W))=some r:=h
    cases e:M.ixN ts.length j with
    | none=>rw [e] at h'; cases h'
    | some q=>rw [e] at h'; cases h'; exact ⟨.d,ts,n,j,q,rfl,rfl,by simp,e,rfl⟩
   | _=>cases h
  | _=>cases h
 | o m =>
  cases t with
  | lst ts =>
   cases t' with
   | int j =>
    have h':(M.ixN ts.length j).map (fun k=>((((Md.o m).kid.meet (lf w.1 w.2)).up,.lst (ts.set k w.2)):W))=some r:=h
    cases e:M.ixN ts.length j with
    | none=>rw [e] at h'; cases h'
    | some q=>rw [e] at h'; cases h'; exact ⟨.o m,ts,n,j,q,rfl,rfl,by simp,e,rfl⟩
   | _=>cases h
  | _=>cases h
theorem rV {a:Addr}{m:Md}{ts:List T}{xs:List V}{w:W}{y:V}{A0:Fp}(hA:∀ b,A0 b->b≠a)(hG:∀ b,G b->b≠a)(d:∀ b,A0 b->¬ G b)(p:RepL K Z H m ts xs A0)(r:Rep K Z H w.1 w.2 y G) :
  ∃ G',(∀ b,G' b->(A0 b\/G b)/\b≠a)/\RepL K (fun b=>Z b\/((A0 b\/G b)/\b≠a/\¬ G' b)) H (m.meet (lf w.1 w.2)) (ts++[w.2]) (xs++[y]) G':=by
 obtain ⟨G',g1,g2⟩:=fZ (G:=fun b=>A0 b\/G b) (fun _ z=>.inl z) (fun _ z=>.inr z) d p (RepL.one r.lf)
 have ne:∀ b,(A0 b\/G b)->b≠a:=fun b h=>h.elim (hA b) (hG b)
 exact ⟨G',fun b h=>⟨g1 b h,ne b (g1 b h)⟩,g2.zmono fun b h=>h.imp id fun q=>⟨q.1,ne b q.1,q.2⟩⟩
theorem yA {x:X}{i j:Nat}{e:E}(hs:sf i=some j)(D:bL)(σ:L2.St)(H:Hp)(h:wS K Wx sf io C (.app x i e) D σ H) :
  ∃ a xs,σ[j]?=some (some (.ref a))/\H a=some (.lst xs)/\wE K sf C e σ H fun y H1=>∃ xs,H1 a=some (.lst xs)/\xs.length < sizeLine/\D.nx σ (upd H1 a (.lst (xs++[y]))):=by
 obtain ⟨pv,Z,Fs,η,N,A,f⟩:=h
 obtain ⟨u,h0,h1⟩:=aZ (show Fin K Wx ⟨sf,pv⟩ Z H (tot Fs) D (Fl.of η (chkL (rd η i)) (jF (evX C x e) η (oC i))) from f)
 obtain ⟨m0,t0,h00⟩:=fM h0
 obtain ⟨a,xs0,hj,ha⟩:=A.listAt hs h00
 obtain ⟨⟨w,η1⟩,h2,h3⟩:=aZ (show Fin K Wx ⟨sf,pv⟩ Z H (tot Fs) D (Fl.of η (evX C x e η) (oC i)) from h1)
 obtain ⟨η2,h4,h5⟩:=iX (show Fin K Wx ⟨sf,pv⟩ Z H (tot Fs) D (nxO η1 (((rd η1 i).bind fun u=>f9 u w).map fun u=>M.put η1 i u)) from h3)
 refine ⟨a,xs0,hj,ha,jd (sl:=⟨sf,pv⟩) A h2 fun y Z' H' Fs' G B r s=>?_⟩
 cases e1:rd η1 i with
 | none=>rw [e1] at h4; cases h4
 | some u1 =>
  rw [e1] at h4
  cases e2:f9 u1 w with
  | none=>rw [show (some u1).bind (fun u=>f9 u w)=f9 u1 w from rfl,e2] at h4; cases h4
  | some r1 =>
   rw [show (some u1).bind (fun u=>f9 u w)=f9 u1 w from rfl,e2] at h4
   cases h4
   obtain ⟨m,ts,rfl,hm,hlen,rfl⟩:=qq e2
   obtain ⟨xs,hl,hf,hx,p,hpv⟩:=B.ourList hs hm hj e1
   have e3:=p.length
   obtain ⟨G',g1,g2⟩:=rV (a:=a) (fun b h=>h.2) (fun b h z=>B.dis b h ⟨i,z ▸ hf⟩) (fun b h q=>B.dis b q ⟨i,h.1⟩) p r
   refine ⟨xs,hx,kG hl,?_⟩
   refine change (K:=K) (m':=(m.kid.meet (lf w.1 w.2)).up) (b9 _) B e1 hf (fun k hk=>by rw [show sf i=some k from hk] at hs; cases hs; exact hj) (by rw [a0c,e3,a0o]; omega) hpv (fun b h=>⟨(g1 b h).1.imp a2N id,(g1 b h).2⟩) (ts':=ts++[w.2]) (by rw [dw]; exact g2.zmono fun b h=>h.imp id fun q=>⟨q.1.imp a2N id,q.2⟩) fun Z2 Fs2 B2 s2=>h5 σ Z2 _ Fs2 B2 (s.trans s2)
theorem As {x:X}{i j:Nat}{e:E}(hs:sf i=some j)(D:bL)(σ:L2.St)(H:Hp)(h:wS K Wx sf io C (.ext x i e) D σ H) :
  ∃ a xs,σ[j]?=some (some (.ref a))/\H a=some (.lst xs)/\wE K sf C e σ H fun y H1=>∃ b xs zs,y=.ref b/\H1 a=some (.lst xs)/\H1 b=some (.lst zs)/\xs.length+zs.length<=sizeLine/\D.nx σ (upd H1 a (.lst (xs++zs))):=by
 obtain ⟨pv,Z,Fs,η,N,A,f⟩:=h
 obtain ⟨u,h0,h1⟩:=aZ (show Fin K Wx ⟨sf,pv⟩ Z H (tot Fs) D (Fl.of η (chkL (rd η i)) (jF (evX C x e) η (qv i))) from f)
 obtain ⟨m0,t0,h00⟩:=fM h0
 obtain ⟨a,xs0,hj,ha⟩:=A.listAt hs h00
 obtain ⟨⟨w,η1⟩,h2,h3⟩:=aZ (show Fin K Wx ⟨sf,pv⟩ Z H (tot Fs) D (Fl.of η (evX C x e η) (qv i)) from h1)
 obtain ⟨η2,h4,h5⟩:=iX (show Fin K Wx ⟨sf,pv⟩ Z H (tot Fs) D (nxO η1 (((rd η1 i).bind fun u=>fJ u w).map fun u=>M.put η1 i u)) from h3)
 refine ⟨a,xs0,hj,ha,jd (sl:=⟨sf,pv⟩) A h2 fun y Z' H' Fs' G B r s=>?_⟩
 cases e1:rd η1 i with
 | none=>rw [e1] at h4; cases h4
 | some u1 =>
  rw [e1] at h4
  cases e2:fJ u1 w with
  | none=>rw [show (some u1).bind (fun u=>fJ u w)=fJ u1 w from rfl,e2] at h4; cases h4
  | some r1 =>
   rw [show (some u1).bind (fun u=>fJ u w)=fJ u1 w from rfl,e2] at h4
   cases h4
   obtain ⟨m,ts,n,us,rfl,rfl,hm,hlen,rfl⟩:=pK e2
   obtain ⟨xs,hl,hf,hx,p,hpv⟩:=B.ourList hs hm hj e1
   obtain ⟨b,zs,rfl,hb,hl2,p2⟩:=bu r
   have e3:=p.length
   have e4:=p2.length
   have hG:∀ b,G b->b≠a:=fun b h z=>B.dis b h ⟨i,z ▸ hf⟩
   obtain ⟨G',g1,g2⟩:=fZ (G:=fun b=>(Fs' i b/\b≠a)\/G b) (fun _ z=>.inl z) (fun _ z=>.inr z) (fun b h q=>B.dis b q ⟨i,h.1⟩) p p2
   have ne:∀ b,((Fs' i b/\b≠a)\/G b)->b≠a:=fun b h=>h.elim And.right (hG b)
   refine ⟨b,xs,zs,rfl,hx,hb,bP (by omega),?_⟩
   refine change (K:=K) (m':=(m.kid.meet n.kid).up) (b9 _) B e1 hf (fun k hk=>by rw [show sf i=some k from hk] at hs; cases hs; exact hj) (by rw [a0c]; omega) hpv (fun b h=>⟨(g1 b h).imp a2N id,ne b (g1 b h)⟩) (ts':=ts++us) (by rw [dw]; exact g2.zmono fun b h=>h.imp id fun q=>⟨q.1.imp a2N id,ne b q.1,q.2⟩) fun Z2 Fs2 B2 s2=>h5 σ Z2 _ Fs2 B2 (s.trans s2)
theorem RepL.setAt:∀ {ts:List T} {xs:List V} {A0 G0 G:Fp} {q:Nat} {t:T} {y:V} {m:Md},(∀ b,A0 b->G b)->(∀ b,G0 b->G b)->(∀ b,A0 b->¬ G0 b)->RepL K Z H m ts xs A0->Rep K Z H m t y G0->RepL K Z H m (ts.set q t) (xs.set q y) G
 | [],xs,A0,G0,G,q,t,y,m,w1,w2,d,h,r=>by rw [show xs=[] from h]; exact rfl
 | u::ts,xs,A0,G0,G,0,t,y,m,w1,w2,d,⟨x,r',A,B,e,h1,h2,hd,p,q⟩,r=>by
  rw [e]
  exact ⟨y,r',G0,B,rfl,w2,fun a h=>w1 a (h2 a h),fun a h q=>d a (h2 a q) h,r,q⟩
 | u::ts,xs,A0,G0,G,n+1,t,y,m,w1,w2,d,⟨x,r',A,B,e,h1,h2,hd,p,q⟩,r=>by
  rw [e]
  refine ⟨x,r'.set n y,A,fun a=>B a\/G0 a,rfl,fun a h=>w1 a (h1 a h),fun a h=>h.elim (fun z=>w1 a (h2 a z)) (w2 a),fun a h q=>q.elim (hd a h) (d a (h1 a h)),p,?_⟩
  exact RepL.setAt (fun _ z=>.inl z) (fun _ z=>.inr z) (fun b h=>d b (h2 b h)) q r
theorem fX (vs:List Nat)(η:Env):Nn η (M.share vs η):=fun i e=>by
 rw [fS]; split
 ·rw [e]; rfl
 ·exact e
theorem AM {x:X}{e:E}{w:W}(h:evX C x e η=.ok (w,η')):Nn η η':=by
 cases x with
 | q vs ls =>
  obtain ⟨⟨u,η2⟩,h1,h2⟩:=aa (show (evE C e (pick vs ls η)).bind (kX vs η)=_ from h)
  cases h2
  show Nn η (after (M.lf u.1 u.2) vs η)
  cases hm:M.lf u.1 u.2 with
  | d=>intro i e; exact e
  | s=>exact fX vs η
  | o m=>exact fX vs η
 | l vs=>exact (fX vs η).trans (aq e h)
theorem vH {x:X}{i j:Nat}{k e:E}(hs:sf i=some j)(D:bL)(σ:L2.St)(H:Hp)(h:wS K Wx sf io C (.setI x i k e) D σ H) :
  wE K sf C e σ H fun y H1=>rm j σ H1 fun o H1=>wE K sf C k σ H1 fun z H2=>∃ a xs n q,o=.ref a/\z=.int n/\H2 a=some (.lst xs)/\L2.ixN xs.length n=some q/\D.nx σ (upd H2 a (.lst (xs.set q y))):=by
 obtain ⟨pv,Z,Fs,η,N,A,f⟩:=h
 obtain ⟨⟨w,η1⟩,h2,h3⟩:=aZ (show Fin K Wx ⟨sf,pv⟩ Z H (tot Fs) D (Fl.of η (evX C x e η) (uL i (evX C x k) η)) from f)
 obtain ⟨⟨kw,η2⟩,h6,h7⟩:=aZ (show Fin K Wx ⟨sf,pv⟩ Z H (tot Fs) D (Fl.of η (evX C x k η1) (sD i w)) from h3)
 obtain ⟨η3,h4,h5⟩:=iX (show Fin K Wx ⟨sf,pv⟩ Z H (tot Fs) D (nxO η2 (((rd η2 i).bind fun u=>dz u kw w).map fun u=>M.put η2 i u)) from h7)
 refine jd (sl:=⟨sf,pv⟩) A h2 fun y Z' H' Fs' G B r s=>?_
 cases e1:rd η2 i with
 | none=>rw [e1] at h4; cases h4
 | some u1 =>
  rw [e1] at h4
  cases e2:dz u1 kw w with
  | none=>rw [show (some u1).bind (fun u=>dz u kw w)=dz u1 kw w from rfl,e2] at h4; cases h4
  | some r1 =>
   rw [show (some u1).bind (fun u=>dz u kw w)=dz u1 kw w from rfl,e2] at h4
   cases h4
   obtain ⟨m,ts,n,jj,q,rfl,rfl,hm,hq,rfl⟩:=pL e2
   have n1:rd η1 i≠none:=fun z=>by rw [AM h6 i z] at e1; cases e1
   cases e3:rd η1 i with
   | none=>exact absurd e3 n1
   | some u3 =>
    obtain ⟨v3,r3,l3,p3⟩:=B.env i u3.1 u3.2 e3
    refine ⟨v3,l3 j hs,jd (sl:=⟨sf,pv⟩) B.bare h6 fun z Z2 H2 Fs2 G2 B2 rz s2=>?_⟩
    obtain ⟨B3,s3,d3⟩:=B.frame B2 s2
    have r':=r.frame B.gd.own s2 B.dis
    have B4:=B3.mono (G':=G) fun _ z=>.inl z
    obtain ⟨v4,r4,l4,p4⟩:=B4.env i m _ e1
    have hv:v3=v4:=by have e5:=l3 j hs; have e6:=l4 j hs; rw [e5] at e6; cases e6; rfl
    subst hv
    obtain ⟨a,xs,rfl,hl,hf,hx,p⟩:=iE hm r4
    have e7:=p.length
    obtain ⟨A1,a1,a2⟩:=RepL.weak (cF m.kid (lf w.1 w.2)).1 p
    obtain ⟨A2,b1,b2⟩:=Rep.weak (cF m.kid (lf w.1 w.2)).2 r'.lf
    have dis:∀ b,(Fs2 i b/\b≠a)->¬ G b:=fun b h q=>B4.dis b q ⟨i,h.1⟩
    have hG:∀ b,G b->b≠a:=fun b h z=>B4.dis b h ⟨i,z ▸ hf⟩
    refine ⟨a,xs,jj,q,rfl,show z=_ from rz,hx,by rw [e7]; exact hq,?_⟩
    refine change (K:=K) (G':=fun b=>A1 b\/A2 b) (m':=(m.kid.meet (lf w.1 w.2)).up) (b9 _) B4 e1 hf (fun k hk=>by rw [show sf i=some k from hk] at hs; cases hs; exact l3 _ hk) (by rw [a05]; exact hl) p4 (fun b h=>h.elim (fun z=>⟨.inl (a1 b z).1,(a1 b z).2⟩) fun z=>⟨.inr (b1 b z),hG b (b1 b z)⟩) (ts':=ts.set q w.2) ?_ fun Z5 Fs5 B5 s5=>h5 σ Z5 _ Fs5 B5 ((s.trans (s3.mono (fun _ z=>z) fun b h=>h.imp id .inl)).trans s5)
    rw [dw]
    refine RepL.setAt (A0:=A1) (G0:=A2) (fun _ z=>.inl z) (fun _ z=>.inr z) (fun b h q=>dis b (a1 b h) (b1 b q)) (a2.zmono fun b h=>?_) (b2.zmono fun b h=>?_)
    ·exact h.imp id fun q=>⟨.inl q.1.1,q.1.2,fun z=>z.elim q.2 fun z=>dis b q.1 (b1 b z)⟩
    ·exact h.imp id fun q=>⟨.inr q.1,hG b q.1,fun z=>z.elim (fun z=>dis b (a1 b z) q.1) q.2⟩
theorem RepL.splitA {m:Md}:∀ {ts us:List T} {zs:List V} {G:Fp},RepL K Z H m (ts++us) zs G->∃ xs ys G1 G2,zs=xs++ys/\(∀ a,G1 a->G a)/\(∀ a,G2 a->G a)/\(∀ a,G1 a->¬ G2 a)/\RepL K Z H m ts xs G1/\RepL K Z H m us ys G2
 | [],us,zs,G,h=>⟨[],zs,no,G,rfl,fun _ z=>z.elim,fun _ z=>z,fun _ z=>z.elim,rfl,h⟩
 | t::ts,us,zs,G,⟨x,r,A,B,e,h1,h2,hd,p,q⟩=>by
  obtain ⟨xs,ys,G1,G2,e',g1,g2,d,p1,p2⟩:=RepL.splitA q
  refine ⟨x::xs,ys,fun a=>A a\/G1 a,G2,by rw [e,e']; rfl,fun a h=>h.elim (h1 a) fun z=>h2 a (g1 a z),fun a h=>h2 a (g2 a h),fun a h z=>h.elim (fun y=>hd a y (g2 a z)) fun y=>d a y z,⟨x,xs,A,G1,rfl,fun _ z=>.inl z,fun _ z=>.inr z,fun a h z=>hd a h (g1 a z),p,p1⟩,p2⟩
theorem r9 {u:W}{ws:List W}{r:W×W}(h:iP u ws=some r):∃ m ts,u=(m,.lst ts)/\m≠.s/\((ws=[]/\∃ t,ts.getLast?=some t/\r=((m.kid,t),(m,.lst ts.dropLast)))\/(∃ n t us,ws=[(n,.int 0)]/\ts=t::us/\r=((m.kid,t),(m,.lst us)))):=by
 obtain ⟨m,t⟩:=u
 have key:∀ m:Md,m≠.s->iP (m,t) ws=some r->∃ m' ts,(m,t)=(m',.lst ts)/\m'≠.s/\((ws=[]/\∃ t,ts.getLast?=some t/\r=((m'.kid,t),(m',.lst ts.dropLast)))\/(∃ n t us,ws=[(n,.int 0)]/\ts=t::us/\r=((m'.kid,t),(m',.lst us)))):=fun m hm h=>by
  unfold iP at h
  split at h
  ·cases h
  ·rename_i m1 ts1 hq1 hq2 hq3
   cases hq2
   cases e:ts1.getLast? with
   | none=>rw [e] at h; cases h
   | some t=>rw [e] at h; cases h; exact ⟨_,ts1,rfl,hm,.inl ⟨rfl,t,e,rfl⟩⟩
  ·rename_i m1 t1 ts1 n1 hq1 hq2 hq3
   cases hq2
   cases h
   exact ⟨_,_,rfl,hm,.inr ⟨_,_,_,rfl,rfl,rfl⟩⟩
  ·cases h
 cases m with
 | s=>cases h
 | d=>exact key .d (by simp) h
 | o m=>exact key (.o m) (by simp) h
theorem tR {i j:Nat}(hs:sf i=some j)(σ:L2.St)(H:Hp)(Q:VK)(h:wE K sf C (.pop i []) σ H Q):∃ a xs y,σ[j]?=some (some (.ref a))/\H a=some (.lst xs)/\xs[xs.length-1]?=some y/\Q y (upd H a (.lst xs.dropLast)):=by
 obtain ⟨pv,Z,Fs,η,w,η',A,ev,k⟩:=h
 obtain ⟨_,_,h0⟩:=aa (show (chkL (rd η i)).bind (jX (evL C []) η (mE i))=_ from ev)
 obtain ⟨r,h3,h4⟩:=aa (show (ofO ((rd η i).bind fun w=>iP w [])).bind (fun r=>.ok (r.1,M.put η i r.2))=_ from h0)
 cases h4
 have h5:=bU h3
 cases e1:rd η i with
 | none=>rw [e1] at h5; cases h5
 | some u =>
  rw [e1] at h5
  obtain ⟨m,ts,rfl,hm,⟨_,t,ht,rfl⟩ | ⟨n,t,us,e,_⟩⟩:=r9 (show iP u []=some r from h5)
  ·obtain ⟨v,r4,l4,p4⟩:=A.env i m _ e1
   obtain ⟨a,xs,rfl,hl,hf,hx,p⟩:=iE hm r4
   have ets:ts=ts.dropLast++[t]:=by
    have hne:ts≠[]:=fun z=>by rw [z] at ht; cases ht
    have:=List.dropLast_concat_getLast hne
    rw [List.getLast?_eq_some_getLast hne] at ht
    cases ht
    exact this.symm
   rw [ets] at p
   obtain ⟨xs1,ys1,G1,G2,rfl,g1,g2,d,p1,p2⟩:=RepL.splitA p
   obtain ⟨y,r',A1,A2,e,a1,_,_,ry,q⟩:=p2
   obtain rfl:r'=[]:=q
   subst e
   have ry':=ry.mono a1
   refine ⟨a,xs1++[y],y,l4 j hs,hx,by simp,?_⟩
   rw [List.dropLast_concat]
   have hl1:xs1.length<=LIM:=by rw [a0c] at hl; omega
   refine lR (K:=K) (G':=G1) (R:=G2) (Q:=fun H'=>Q y H') hm A e1 hf (fun k hk=>l4 k hk) hl1 p4 (fun b h=>⟨.inl (g1 b h).1,(g1 b h).2⟩) (fun b h=>⟨.inl (g2 b h).1,(g2 b h).2⟩) (fun b h z=>d b z h) (ts':=ts.dropLast) (p1.zmono fun b h=>.inl h) fun Z' Fs' B s tr=>?_
   exact k y Z' _ Fs' G2 B (tr (ry'.zmono fun b h=>.inl h)) (s.mono (fun b h=>h.elim id fun z=>z.elim) fun _ z=>z)
  ·cases e
end
end MR
namespace MR
open L2 L3 M
open PySem (Addr Str sizeLine)
section
variable {K:a0a}{Wx:L2.St->VK}{sl:Cf}{sf sg:Nat->Option Nat}{C:Call}{σ σ2:L2.St}{Z Z' Z1:Fp}{H H' H1:Hp}{Fs Fs' Fs1:Fps}{η η' η1 ηb:Env}{G G' G1 R F F':Fp}{tg is vs ls io:List Nat}{pv val:Nat->Option V}{D:bL}
noncomputable def gF (K:a0a):List Nat->TG
 | [j]=>cO j
 | [j,l]=>xN K 2 (jA (cO j) (jA (cO l) yd))
 | _=>fun _ _ _ _=>False
theorem q0 {fl:Fl}{g:Env->Fl}(f:Fin K Wx sl Z H F D (Fl.turn fl g)):(∃ η',fl=.nx η'/\Fin K Wx sl Z H F D (g η'))\/(∃ η',fl=.bk η'/\Fin K Wx sl Z H F D (.nx η'))\/(∃ w η',fl=.rt w η'/\Fin K Wx sl Z H F D (.rt w η'))\/(∃ t η',fl=.ex t η'/\Fin K Wx sl Z H F D (.ex t η')):=by
 cases fl with
 | nx η=>exact .inl ⟨η,rfl,f⟩
 | bk η=>exact .inr (.inl ⟨η,rfl,f⟩)
 | rt w η=>exact .inr (.inr (.inl ⟨w,η,rfl,f⟩))
 | ex t η=>exact .inr (.inr (.inr ⟨t,η,rfl,f⟩))
 | no=>exact f.elim
theorem rj {fl:Fl}{g:Env->Fl}{N:L2.St->Hp->Prop}(f:Fin K Wx sl Z H F D (Fl.turn fl g))(hN:∀ η' σ' Z' H' Fs',fl=.nx η'->Fin K Wx sl Z H F D (g η')->At K sl σ' Z' H' Fs' η' no->Step Z H F Z' H' (tot Fs')->N σ' H'):Fin K Wx sl Z H F { D with nx:=N,ct:=N,bk:=D.nx } fl:=by
 rcases q0 f with ⟨η',rfl,f⟩ | ⟨η',rfl,f⟩ | ⟨w,η',rfl,f⟩ | ⟨t,η',rfl,f⟩
 ·exact fun σ' Z' H' Fs' A s=>hN η' σ' Z' H' Fs' rfl f A s
 ·exact f
 ·exact f
 ·exact f
theorem qN {n i:Nat}{J:It}{ts:List (List W)}{ws:List W}{js:List Nat}{x:V}{Q:L2.St->Hp->Prop}(hn:tg.length=n)(nd:tg.Nodup)(N:nC sf io pv)(hio:∀ t∈tg,t ∉ io)(hjs:tg.map sf=js.map some)(hz:∀ a,Z1 a->Z a)(st:Stay Z1 H1 H)(yl:Yld K J Z1 H1 ts n)(A:At K ⟨sf,pv⟩ σ Z H Fs η no)
  (hw:ts[i]?=some ws) (hb:aY tg ws η=some ηb) (y:J.yld i H x H') (k:∀ σ2 H2 Fs2,At K ⟨sf,pv⟩ σ2 Z H2 Fs2 ηb no->Step Z H (tot Fs) Z H2 (tot Fs2)->Q σ2 H2):gF K js x σ H' Q:=by
 have hi:i < ts.length:=(a0q.mp hw).1
 match n,yl with
 | 1,yl =>
  obtain ⟨e0,w,hw',r⟩:=yl H i x H' st hi y
  rw [e0]
  rw [hw] at hw'; cases hw'
  match tg,hn,js,hjs with
  | [t],_,[j],hjs =>
   cases hb
   have hs:sf t=some j:=by simpa using hjs
   exact k _ H _ (At.set N (hio t (by simp)) hs A (r.zmono hz)) ((Step.refl _ _ _).mono (fun _ z=>z) fun a h=>(bD h).elim id fun z=>z.elim)
  | [t],_,[],hjs=>simp at hjs
  | [t],_,_::_::_,hjs=>simp at hjs
 | 2,yl =>
  obtain ⟨p,y1,z1,u,w,rfl,sm,hq,hw',r1,r2⟩:=yl H i x H' st hi y
  rw [hw] at hw'; cases hw'
  match tg,hn,js,hjs with
  | [t,t'],_,[j,j'],hjs =>
   cases hb
   have hs:sf t=some j:=by simp at hjs; exact hjs.1
   have hs':sf t'=some j':=by simp at hjs; exact hjs.2
   have s0:Step Z H no Z H' no:=fF sm
   obtain ⟨A1,s1⟩:=A.op bG s0
   have sn:Stay Z H H':=jW sm
   have r1':Rep K Z H' u.1 u.2 y1 no:=(r1.zmono hz).keep sn (fun _ z=>z) fun _ _ z=>z.elim
   have r2':Rep K Z H' w.1 w.2 z1 no:=(r2.zmono hz).keep sn (fun _ z=>z) fun _ _ z=>z.elim
   have A2:=At.set N (hio t (by simp)) hs A1 r1'
   have A3:=At.set N (hio t' (by simp)) hs' A2 r2'
   refine ⟨p,[y1,z1],rfl,hq,rfl,y1,[z1],rfl,z1,[],rfl,rfl,k _ _ _ A3 (s1.mono (fun a h=>h.elim id fun z=>z.elim) fun a h=>?_)⟩
   rcases bD h with h | h
   ·exact .inl ((bD h).elim id fun z=>z.elim)
   ·exact h.elim
  | [t,t'],_,[],hjs=>simp at hjs
  | [t,t'],_,[_],hjs=>simp at hjs
  | [t,t'],_,_::_::_::_,hjs=>simp at hjs
theorem oR {n:Nat}{k:Ik}{src:List E}{js:List Nat}{body:List S}(hn:tg.length=n)(nd:tg.Nodup)(hio:∀ t∈tg,t ∉ io)(hjs:tg.map sf=js.map some)(D:bL)(σ:L2.St)(H:Hp)(h:wS K Wx sf io C (.forS vs ls k src tg body) D σ H) :
  Ed (wI K sf C n k src) (gF K js) (wSs K Wx sf io C body) D σ H:=by
 obtain ⟨pv,Z,Fs,η,N,A,f⟩:=h
 obtain ⟨⟨ws,η2⟩,h1,h2⟩:=aZ (show Fin K Wx ⟨sf,pv⟩ Z H (tot Fs) D (Fl.of η (evL C src (pick vs ls η)) (vj vs k tg (evSs C body) η)) from f)
 obtain ⟨⟨ts,η3⟩,h3,h4⟩:=aZ (show Fin K Wx ⟨sf,pv⟩ Z H (tot Fs) D (Fl.of η (ret (M.share vs η) (bf k ws)) (lK tg (evSs C body))) from h2)
 obtain ⟨ts',ht,e3⟩:=ai h3
 have e4:ts=ts':=congrArg a2l e3
 have e5:η3=M.share vs η:=congrArg a2k e3
 subst e4 e5
 have h4':Fin K Wx ⟨sf,pv⟩ Z H (tot Fs) D (dB tg (evSs C body) ts (M.share vs η)):=h4
 refine ⟨pv,_,so,_,ws,η2,ts,A.quiet (vs:=vs) (ls:=ls),h1,ht,fun J Z1 H1 Fs1 B s wk yl=>?_⟩
 obtain ⟨B1,s1⟩:=dq (G:=no) A bG B.gd.zal (s.mono (F2:=fun a=>tot Fs1 a\/no a) (fun _ z=>z) fun a h=>h.elim id fun z=>z.elim) fun a h=>ir h
 obtain ⟨B2,s2⟩:=B1.share (vs:=vs)
 have s3:=(s2 s1).mono (F2:=tot (eG Fs vs)) (fun _ z=>z) fun _ z=>.inl z
 have zz:∀ a,Z1 a->((Z1 a/\¬ cj Fs vs a)\/cj Fs vs a):=fun a h=>(a3O (cj Fs vs a)).elim .inr fun q=>.inl ⟨h,q⟩
 refine ⟨fun i m σ' H'=>m=ts.length-i/\i<=ts.length/\∃ Zi Fsi ηi,At K ⟨sf,pv⟩ σ' Zi H' Fsi ηi no/\Step (fun a=>(Z1 a/\¬ cj Fs vs a)\/cj Fs vs a) H1 (tot (eG Fs vs)) Zi H' (tot Fsi)/\Fin K Wx ⟨sf,pv⟩ Zi H' (tot Fsi) D (dB tg (evSs C body) (ts.drop i) ηi),⟨ts.length,by simp,a0Q _,_,_,_,B2,Step.refl _ _ _,h4'.step s3⟩,?_⟩
 rintro i m σi H0 ⟨rfl,hi,Zi,Fsi,ηi,Ai,si,fi⟩
 have st:Stay Z1 H1 H0:=by
  have:=B2.gd.own.stay si
  exact ⟨fun a o h=>this.1 a o (zz a h),this.2⟩
 by_cases hlt:i < ts.length
 ·right
  refine ⟨wk.go H0 i st hlt,_,fun σ' H' hw=>⟨ts.length-(i+1),by omega,hw⟩,fun x H' y=>?_⟩
  have hw:ts[i]?=some ts[i]:=by simp [hlt]
  rw [gJ hw] at fi
  obtain ⟨ηb,hb,fb⟩:=aZ (show Fin K Wx ⟨sf,pv⟩ Zi H0 (tot Fsi) D (Fl.of ηi (ofO (aY tg ts[i] ηi)) fun η1=>Fl.turn (evSs C body η1) (dB tg (evSs C body) (ts.drop (i+1)))) from fi)
  refine qN hn nd N hio hjs (fun a h=>si.zm a (zz a h)) st yl Ai hw (bU hb) y fun σ2 H2 Fs2 A2 t2=>?_
  refine ⟨pv,Zi,Fs2,ηb,N,A2,rj (fb.step t2) fun η' σ' Z' H' Fs' _ f' A' s'=>⟨rfl,hlt,Z',Fs',η',A',(si.trans t2).trans s',f'.step s'⟩⟩
 ·left
  have hi':i=ts.length:=by omega
  subst hi'
  rw [a3g] at fi
  exact ⟨wk.stop H0 _ st (a0j _),fi σi Zi H0 Fsi Ai (Step.refl _ _ _)⟩
end
end MR

namespace MR
open PySem PySem.Spec PyProof.Rows L2 L3
section
variable {X:Cx}{sf sg:Nat->Option Nat}{C:M.Call}{pos p2:Pos}{ea eb ec:Expr}{a b c:M.E}{h:Bool}{n:Nat}
theorem aw {e:Expr}{t t':TE}(h:PE X e t)(hw:∀ σ H Q,t' σ H Q->t σ H Q):PE X e t':=fun pins s σ H Q I q=>h pins s σ H Q I (hw σ H Q q)
theorem jw {e:Expr}{t t':TT}(h:PT X e t)(hw:∀ σ H Q,t' σ H Q->t σ H Q):PT X e t':=fun pins s σ H Q I q=>h pins s σ H Q I (hw σ H Q q)
theorem wM {e:Expr}{t t':TT}(h:PW X e t)(hw:∀ σ H Q,t' σ H Q->t σ H Q):PW X e t':=fun whole pins s σ H Q I q=>h whole pins s σ H Q I (hw σ H Q q)
theorem i5 {es:List Expr}{t t':TA}(h:PA X es t)(hw:∀ σ H Q,t' σ H Q->t σ H Q):PA X es t':=fun pos pins s σ H Q I q=>h pos pins s σ H Q I (hw σ H Q q)
theorem cq {s:Stmt}{t t':TS}(h:PS X s t)(hw:∀ D σ H,t' D σ H->t D σ H):PS X s t':=fun pins s σ H D I q=>h pins s σ H D I (hw D σ H q)
theorem j2 {s:List Stmt}{t t':TS}(h:PSs X s t)(hw:∀ D σ H,t' D σ H->t D σ H):PSs X s t':=fun pins s σ H D I q=>h pins s σ H D I (hw D σ H q)
theorem jt {tg e:Expr}{t t':TI}(h:PI X tg e t)(hw:∀ σ H R,t' σ H R->t σ H R):PI X tg e t':=fun pins s σ H R I q=>h pins s σ H R I (hw σ H R q)
theorem Ds {tg e:Expr}{t t':TI}(h:PI X tg e t)(h':PI X tg e t'):PI X tg e (fun σ H R=>t σ H R\/t' σ H R):=fun pins s σ H R I q=>q.elim (h pins s σ H R I) (h' pins s σ H R I)
noncomputable abbrev SE (X:Cx)(sf:Nat->Option Nat)(C:M.Call)(me:Expr)(e:M.E):Prop:=PE X me (wE X.K sf C e)
noncomputable abbrev SB (X:Cx)(sf:Nat->Option Nat)(C:M.Call)(me:Expr)(e:M.E):Prop:=PT X me (wT X.K sf C e)
noncomputable abbrev SL (X:Cx)(sf:Nat->Option Nat)(C:M.Call)(me:List Expr)(es:List M.E):Prop:=PA X me (wL X.K sf C es)
noncomputable abbrev SA (X:Cx)(sf:Nat->Option Nat)(C:M.Call)(me:List Expr)(es:List M.E):Prop:=PA X me (wA X.K sf C es)
noncomputable abbrev SS (X:Cx)(sf:Nat->Option Nat)(io:List Nat)(C:M.Call)(ms:Stmt)(s:M.S):Prop:=PS X ms (wS X.K (xw X) sf io C s)
noncomputable abbrev SSs (X:Cx)(sf:Nat->Option Nat)(io:List Nat)(C:M.Call)(ms:List Stmt)(s:List M.S):Prop:=PSs X ms (wSs X.K (xw X) sf io C s)
theorem sV (j:Nat){i:Nat}{x:Str}(hs:sf i=some j:=by rfl)(hN:X.N[j]?=some x:=by rfl)(hv:Vis X.env.scope x:=by first | exact a0E rfl | exact a0z (a0E rfl) | exact a0z (a0z rfl))(hd:(x==("__debug__":Str))=false:=by decide)
  (hcd:(x==("__classdict__":Str))=false:=by decide):SE X sf C (.Name x pos) (.var i):=aw (bB hN hv hd hcd) (xR hs)
theorem sM (j:Nat){i:Nat}{x:Str}(hs:sf i=some j:=by rfl)(hN:X.N[j]?=some x:=by rfl)(hv:Vis X.env.scope x:=by first | exact a0E rfl | exact a0z (a0E rfl) | exact a0z (a0z rfl))(hd:(x==("__debug__":Str))=false:=by decide)
  (hcd:(x==("__classdict__":Str))=false:=by decide):SE X sf C (.Name x pos) (.mv i):=aw (bB hN hv hd hcd) (zB (fun _=>rfl) hs)
theorem sI {i:Int}{k:Nat}:SE X sf C (.Constant (.int i) k pos) (.cst (.int i)):=aw gY (fA fun {_ _}=>rfl)
theorem sO {i:Bool}{k:Nat}:SE X sf C (.Constant (.bool i) k pos) (.cst (.bl i)):=aw CS (fA fun {_ _}=>rfl)
theorem sN {k:Nat}:SE X sf C (.Constant .none k pos) (.cst .non):=aw zw (fA fun {_ _}=>rfl)
theorem aV (s:String)(hl:s.length<=1000):M.sOk (Str.ofString s)=true:=by
 unfold M.sOk
 rw [Str.ofString_eq_toList,a0d]
 refine ⟨?_,decide_eq_true ?_⟩
 ·rw [a2j]
  intro x hx
  rw [List.mem_toArray,a0Z] at hx
  obtain ⟨c,_,rfl⟩:=hx
  refine decide_eq_true ?_
  have:=c.valid
  have h2:c.toNat < 0x110000:=by
   have h3:=c.valid
   unfold UInt32.isValidChar Nat.isValidChar at h3
   show c.val.toNat < _
   omega
  exact h2
 ·rw [a0e,a0b,a2P]
  exact a0s hl (by decide)
theorem sS {s:String}{k:Nat}(hl:s.length<=1000:=by decide):SE X sf C (.Constant (.str (Str.ofString s)) k pos) (.cst (.str (Str.ofString s))):=aw ie (fA fun {_ _}=>⟨rfl,aV s hl⟩)
theorem sl0:SL X sf C [] []:=i5 bO AQ
theorem slc {es:List Expr}{bs:List M.E}(ha:SE X sf C ea a)(hb:SL X sf C es bs)(hs:starEach (ea::es) X.env=(false,eval ea X.env)::starEach es X.env:=by rfl):SL X sf C (ea::es) (a::bs):=i5 (aH ha hb hs) vW
theorem sT {es:List Expr}{bs:List M.E}{x1:Nat}(h:SL X sf C es bs)(hn:bs.length<=M.LIM:=by decide):SE X sf C (.Tuple es x1 pos) (.tup bs):=aw (oi h) (zH hn)
theorem sLs {es:List Expr}{bs:List M.E}(hh:SL X sf C es bs)(hn:bs.length<=M.LIM:=by decide):SE X sf C (.List es pos) (.lst h bs):=aw (yp hh) (zA hn)
theorem cY (ha:SE X sf C ea a)(hb:SE X sf C eb b):SE X sf C (.BinOp ea .Add eb pos) (.op .add h [a,b]) :=
 aw (gV (op_add.or (op_add_str.or (op_cat.or l6))) ha hb) (aQ (tV (xo X.K) fun {Z H G Q a b xs ys ts} h1 h2 h3 h4 ow r k=>by
  obtain ⟨G',g1,g2⟩:=r
  refine ⟨a,b,xs,ys,rfl,rfl,h1,h2,h3,bP h4,fun v H' same hv=>fu (m:=.s) ow g1 ?_ g2 k same hv⟩
  rw [a0c]; exact h4))
theorem m8 (ha:SE X sf C ea a)(hb:SE X sf C eb b):SE X sf C (.BinOp ea .Sub eb pos) (.op .sub h [a,b]):=aw (gV zU ha hb) (aQ tS)
theorem d0 (ha:SE X sf C ea a)(hb:SE X sf C eb b):SE X sf C (.BinOp ea .FloorDiv eb pos) (.op .fdiv h [a,b]):=aw (gV t8 ha hb) (aQ rD)
theorem eg (ha:SE X sf C ea a)(hb:SE X sf C eb b):SE X sf C (.BinOp ea .Mod eb pos) (.op .mod h [a,b]):=aw (gV zF ha hb) (aQ we)
theorem yw (ha:SE X sf C ea a)(hb:SE X sf C eb b):SE X sf C (.BinOp ea .Pow eb pos) (.op .pow h [a,b]):=aw (gV zV ha hb) (aQ sR)
theorem AS (ha:SE X sf C ea a):SE X sf C (.UnaryOp .USub ea pos) (.op .neg h [a]):=aw (DJ Ar ha) (ye uK)
theorem sGt (ha:SE X sf C ea a)(hb:SE X sf C eb b):SE X sf C (.Compare ea [.Gt] [eb] pos) (.op .gt h [a,b]):=aw (eT w8 ha hb (eD _)) (aQ rZ)
theorem sIx (ha:SE X sf C ea a)(hb:SE X sf C eb b)(hs:eZ eb:=by intro _ _; rfl):SE X sf C (.Subscript ea eb pos) (.op .ix h [a,b]):=aw (wu (ix_any.or zW) ha hb hs) (aQ yg)
mutual
noncomputable def th:M.T->Th
 | .non=>.non | .bl b=>.bl b | .int i=>.int i | .str x=>.str x | .tup ts=>.tup (ths ts) | .lst ts=>.lst (ths ts) | .dct _ _=>.non | .ins _ _ _=>.non | .scr _=>.non | .gone=>.non
noncomputable def ths:List M.T->List Th
 | []=>[]
 | t::ts=>th t::ths ts
end
mutual
theorem hW {K:a0a}{Z:Fp}{H:Hp}:∀ {t:M.T} {m:M.Md} {v:V} {G:Fp} {n:Nat},M.dp t<=n->n<=64->Rep K Z H m t v G->Has K H (th t) v/\(toD (th t)).canLay0=true/\(toD (th t)).depth<=n
 | .non,_,_,_,_,_,_,r=>⟨r,rfl,a0Q _⟩
 | .bl _,_,_,_,_,_,_,r=>⟨r,rfl,a0Q _⟩
 | .int _,_,_,_,_,_,_,r=>⟨r,rfl,a0Q _⟩
 | .str x,_,_,_,_,_,_,r=>⟨r.1,by have h:=r.2; unfold M.sOk at h; rw [a0d] at h; exact h.1,a0Q _⟩
 | .tup ts,m,v,G,n,hd,hn,⟨a,xs,e,q,l,r⟩=>by
  have hd':M.dps ts+1<=n:=hd
  match n,hd' with
  | n+1,hd' =>
   obtain ⟨h1,h2,h3⟩:=dD (n:=n) (by omega) (by omega) r
   exact ⟨⟨a,xs,e,q,h1⟩,h2,a3h h3⟩
 | .lst ts,m,v,G,n,hd,hn,⟨a,xs,e,l,q,r⟩=>by
  have hd':M.dps ts+1<=n:=hd
  match n,hd' with
  | n+1,hd' =>
   obtain ⟨h1,h2,h3⟩:=dD (n:=n) (by omega) (by omega) r
   exact ⟨⟨a,xs,e,by cases m<;>exact q.2,h1⟩,h2,a3h h3⟩
 | .dct _ _,_,_,_,_,hd,hn,_=>by have:1000<=64:=a0s hd hn; omega
 | .ins _ _ _,_,_,_,_,hd,hn,_=>by have:1000<=64:=a0s hd hn; omega
 | .gone,_,_,_,_,hd,hn,_=>by have:1000<=64:=a0s hd hn; omega
 | .scr _,_,_,_,_,hd,hn,_=>by have:1000<=64:=a0s hd hn; omega
theorem dD {K:a0a}{Z:Fp}{H:Hp}:∀ {ts:List M.T} {m:M.Md} {xs:List V} {G:Fp} {n:Nat},M.dps ts<=n->n<=64->RepL K Z H m ts xs G->HasL K H (ths ts) xs/\PyData.canLayAll0 (dP (ths ts))=true/\PyData.depthAll (dP (ths ts))<=n
 | [],_,_,_,_,_,_,r=>⟨r,rfl,a0Q _⟩
 | t::ts,m,xs,G,n,hd,hn,⟨x,r,G1,G2,e,_,_,_,p,q⟩=>by
  have hd':max (M.dp t) (M.dps ts)<=n:=hd
  obtain ⟨h1,h2,h3⟩:=hW (n:=n) (by omega) hn p
  obtain ⟨k1,k2,k3⟩:=dD (n:=n) (by omega) hn q
  refine ⟨⟨x,r,e,h1,k1⟩,?_,?_⟩
  ·show ((toD (th t)).canLay0&&PyData.canLayAll0 (dP (ths ts)))=true
   rw [h2,k2]; rfl
  ·show max (toD (th t)).depth (PyData.depthAll (dP (ths ts)))<=n
   omega
end
mutual
theorem iQ:∀ (t u:M.T),M.dp t<=64->M.dp u<=64->PyData.eqv (toD (th t)) (toD (th u))=M.eqT t u
 | .dct _ _,_,h,_=>by have:1000<=64:=h; omega
 | .ins _ _ _,_,h,_=>by have:1000<=64:=h; omega
 | .gone,_,h,_=>by have:1000<=64:=h; omega
 | .scr _,_,h,_=>by have:1000<=64:=h; omega
 | .non,u,_,h=>by cases u<;>first | rfl | (have:1000<=64:=h; omega)
 | .bl a,u,_,h=>by cases u<;>first | rfl | (cases a<;>rfl) | (have:1000<=64:=h; omega)
 | .int i,u,_,h=>by
  cases u with
  | bl b=>cases b<;>rfl
  | _=>first | rfl | (have:1000<=64:=h; omega)
 | .str x,u,_,h=>by cases u<;>first | rfl | (have:1000<=64:=h; omega)
 | .tup ts,u,h1,h=>by
  cases u with
  | tup us=>exact gX ts us (by have:M.dps ts+1<=64:=h1; omega) (by have:M.dps us+1<=64:=h; omega)
  | _=>first | rfl | (have:1000<=64:=h; omega)
 | .lst ts,u,h1,h=>by
  cases u with
  | lst us=>exact gX ts us (by have:M.dps ts+1<=64:=h1; omega) (by have:M.dps us+1<=64:=h; omega)
  | _=>first | rfl | (have:1000<=64:=h; omega)
theorem gX:∀ (ts us:List M.T),M.dps ts<=64->M.dps us<=64->PyData.eqvAll (dP (ths ts)) (dP (ths us))=M.eqTs ts us
 | [],[],_,_=>rfl
 | [],_::_,_,_=>rfl
 | _::_,[],_,_=>rfl
 | t::ts,u::us,h1,h2=>by
  have h1':max (M.dp t) (M.dps ts)<=64:=h1
  have h2':max (M.dp u) (M.dps us)<=64:=h2
  show (PyData.eqv (toD (th t)) (toD (th u))&&PyData.eqvAll (dP (ths ts)) (dP (ths us)))=(M.eqT t u&&M.eqTs ts us)
  rw [iQ t u (by omega) (by omega),gX ts us (by omega) (by omega)]
end
theorem eF {K:a0a}{Z:Fp}{H:Hp}{t:M.T}{m:M.Md}{v:V}{G:Fp}(hd:M.dp t<=64)(r:Rep K Z H m t v G):Has K H (th t) v/\okTh (th t):=by
 obtain ⟨h1,h2,h3⟩:=hW hd (a0j _) r
 refine ⟨h1,?_⟩
 show ((toD (th t)).canLay0&&decide ((toD (th t)).depth<=64))=true
 rw [h2,decide_eq_true h3]; rfl
theorem qp {K:a0a}:Loc K 2 .eq h fun xs H Q=>∀ x y,xs=[x,y]->∃ t t',Has K H t x/\Has K H t' y/\okTh t/\okTh t'/\Q (.bl (PyData.eqv (toD t) (toD t'))) H:=by
 intro ws w xs Z H G Q hn e r ow za k x y hx
 subst hx
 obtain ⟨⟨m,a⟩,⟨n,b⟩,rfl⟩:=eP r.length.symm
 obtain ⟨G1,G2,w1,w2,d,r1,r2⟩:=cI r
 have e':(if decide (M.dp a<=64)&&decide (M.dp b<=64) then some ((.d,.bl (M.eqT a b)):M.W) else none)=some w:=e
 split at e'
 ·rename_i hc
  rw [a0d,decide_eq_true_eq,decide_eq_true_eq] at hc
  cases e'
  obtain ⟨h1,o1⟩:=eF hc.1 r1
  obtain ⟨h2,o2⟩:=eF hc.2 r2
  refine ⟨th a,th b,h1,h2,o1,o2,?_⟩
  rw [iQ a b hc.1 hc.2]
  exact bH k
 ·cases e'
theorem zt {K:a0a}:Loc K 2 .ne h fun xs H Q=>∀ x y,xs=[x,y]->∃ t t',Has K H t x/\Has K H t' y/\okTh t/\okTh t'/\Q (.bl (!PyData.eqv (toD t) (toD t'))) H:=by
 intro ws w xs Z H G Q hn e r ow za k x y hx
 subst hx
 obtain ⟨⟨m,a⟩,⟨n,b⟩,rfl⟩:=eP r.length.symm
 obtain ⟨G1,G2,w1,w2,d,r1,r2⟩:=cI r
 have e':(if decide (M.dp a<=64)&&decide (M.dp b<=64) then some ((.d,.bl (!M.eqT a b)):M.W) else none)=some w:=e
 split at e'
 ·rename_i hc
  rw [a0d,decide_eq_true_eq,decide_eq_true_eq] at hc
  cases e'
  obtain ⟨h1,o1⟩:=eF hc.1 r1
  obtain ⟨h2,o2⟩:=eF hc.2 r2
  refine ⟨th a,th b,h1,h2,o1,o2,?_⟩
  rw [iQ a b hc.1 hc.2]
  exact bH k
 ·cases e'
theorem sEq (hr:Room n X.A)(ha:SE X sf C ea a)(hb:SE X sf C eb b):SE X sf C (.Compare ea [.Eq] [eb] pos) (.op .eq h [a,b]):=aw (eT (lM hr.units) ha hb (eD _)) (aQ qp)
theorem ifN {α:Type}{b:Bool}{x:Option α}{y:α}(h:(if b=true then none else x)=some y):b=false/\x=some y:=by cases b<;>first | exact ⟨rfl,h⟩ | cases h
theorem lr {K:a0a}{Z:Fp}{H:Hp}{G:Fp}{m:M.Md}{ts:List M.T}{xs:List V}(lo hi:Option Int)(r:RepL K Z H m ts xs G):RepL K Z H m (M.cut ts lo hi) (dH xs lo hi) G:=by
 have e:=r.length
 have hs:∀ n d o,HT.sIx n d o=M.sIx n d o:=fun n d o=>by cases o<;>rfl
 have hc:dH xs lo hi=(xs.drop (M.sIx ts.length 0 lo)).take (M.sIx ts.length ts.length hi-M.sIx ts.length 0 lo):=by
  unfold dH
  rw [hs,hs,e]
 rw [hc]
 exact (r.drop _).take _
theorem qK (ns:List Int)(lo hi:Option Int):dH (ns.map V.int) lo hi=(M.cut ns lo hi).map V.int:=by
 have hs:∀ n d o,HT.sIx n d o=M.sIx n d o:=fun n d o=>by cases o<;>rfl
 unfold dH M.cut
 rw [hs,hs,a0b,a3A,a3B]
theorem AY {α:Type}(xs:List α)(lo hi:Option Int):(M.cut xs lo hi).length<=xs.length:=by
 unfold M.cut
 rw [a0W,a0X]; omega
theorem oV {K:a0a}{Z:Fp}{H:Hp}{G G1:Fp}{Q:VK}{m:M.Md}{a:M.T}{x:V}{w:M.W}{lo hi:Option Int}(hg:∀ b,G1 b->G b)(ow:Own Z H G)(za:∀ a,Z a->H a≠none)(r:Rep K Z H m a x G1)
  (e:(match a with | .lst ts=>M.newL h m.kid (M.cut ts lo hi) | .tup ts=>some ((.s,.tup (M.cut ts lo hi)):M.W) | .scr ns=>some (.d,.lst ((M.cut ns lo hi).map M.T.int)) | _=>none)=some w) (k:Out K Z H G w Q):vw K x lo hi H Q\/uW K x lo hi H Q:=by
 cases a with
 | lst ts =>
  obtain ⟨p,xs,rfl,hs,hl,q⟩:=bu r
  refine .inl ⟨p,xs,rfl,.inl (.inl hs),fun l hl'=>?_⟩
  exact d6 ow za (a0s (bW xs lo hi) hl) ⟨G1,hg,(lr lo hi q).zmono fun _ z=>.inl z⟩ e k hl'
 | tup ts =>
  obtain ⟨p,xs,rfl,hs,hl,q⟩:=bN r
  cases e
  refine .inr ⟨p,xs,rfl,hs,fun v H' same hv=>?_⟩
  exact fu (m:=.s) (G':=no) ow (fun _ z=>z.elim) (a0s (bW xs lo hi) hl) ((RepL.sh (lr lo hi q)).zmono fun b hb=>hb.imp id fun z=>⟨hg b z,fun q=>q⟩) k same hv
 | scr ns =>
  obtain ⟨p,rfl,hL,hs⟩:=r
  cases e
  refine .inl ⟨p,_,rfl,hs.sq,fun l hl'=>?_⟩
  rw [qK]
  exact bX (m:=.d) (G':=no) ow za (fun _ z=>z.elim) (by rw [a0b]; exact a0s (AY ns lo hi) hL) (k6 _) (by simp) k hl'
 | _=>cases e
theorem nq {p3:Pos}(ha:SE X sf C ea a)(hb:SE X sf C eb b):SE X sf C (.Subscript ea (.Slice none (some eb) none p3) pos) (.op .sl2 h [a,b]) :=
 aw (jf (sl_list.or lA) ha lQ (lB hb)) (fun σ H Q hw=>aQ (r:=fun x y H Q=>∃ i,y=.int i/\(vw X.K x none (some i) H Q\/uW X.K x none (some i) H Q)) (by
  intro ws w xs Z H G Q hn e r ow za k x y hx
  subst hx
  obtain ⟨⟨m,a⟩,⟨n,b⟩,rfl⟩:=eP r.length.symm
  obtain ⟨G1,G2,w1,w2,d,r1,r2⟩:=cI r
  cases b with
  | int i=>exact ⟨i,r2,oV (h:=h) (lo:=none) (hi:=some i) w1 ow za r1 (by cases a<;>exact e) k⟩
  | _=>cases a<;>cases e) σ H Q hw)
theorem j1 {p3:Pos}(ha:SE X sf C ea a)(hb:SE X sf C eb b):SE X sf C (.Subscript ea (.Slice (some eb) none none p3) pos) (.op .sl1 h [a,b]) :=
 aw (jf (sl_list.or lA) ha (lB hb) lQ) (fun σ H Q hw=>aQ (r:=fun x y H Q=>∃ i,y=.int i/\(vw X.K x (some i) none H Q\/uW X.K x (some i) none H Q)) (by
  intro ws w xs Z H G Q hn e r ow za k x y hx
  subst hx
  obtain ⟨⟨m,a⟩,⟨n,b⟩,rfl⟩:=eP r.length.symm
  obtain ⟨G1,G2,w1,w2,d,r1,r2⟩:=cI r
  cases b with
  | int i=>exact ⟨i,r2,oV (h:=h) (lo:=some i) (hi:=none) w1 ow za r1 (by cases a<;>exact e) k⟩
  | _=>cases a<;>cases e) σ H Q hw)
theorem i7 {K:a0a}:Loc K 1 .len h fun xs H Q=>∃ x n,xs=[x]/\Cb K x H n/\Q (.int n) H:=by
 intro ws w xs Z H G Q hn e r ow za k
 obtain ⟨x,n,hx,hm,q⟩:=vD (h:=h) ws w xs Z H G Q hn e r ow za k
 exact ⟨x,n,hx,by cases x<;>exact hm,q⟩
section
variable {p:Pos}{x1:Str}
theorem iH (hm:X.mg "len"=none)(hg:Gl X "len":=by rfl)(ha:SE X sf C ea a)(hs:starEach [ea] X.env=(false,eval ea X.env)::starEach [] X.env:=by rfl)(hpl:(backTo pos (starEach [] X.env)).any (·.1)=false:=by rfl):SE X sf C (.Call (.Name "len" p) [ea] [] pos) (.op .len h [a]) :=
 aw (cN jK hg hm a3u (slc ha sl0 hs) (by decide) (by decide) hs hpl) (lz i7 rfl)
theorem qR (hm:X.mg "list"=none)(hg:Gl X "list":=by rfl)(ha:SE X sf C ea a)(hs:starEach [ea] X.env=(false,eval ea X.env)::starEach [] X.env:=by rfl)(hpl:(backTo pos (starEach [] X.env)).any (·.1)=false:=by rfl):SE X sf C (.Call (.Name "list" p) [ea] [] pos) (.op .list h [a]) :=
 aw (el iD hg hm a3G (slc ha sl0 hs) (by decide) (by decide) hs hpl) (lz qU rfl)
end
theorem iV {K:a0a}{x:V}{H:Hp}{k:Bool}(h:TrV K x H k):rQ K x H k:=by
 cases x with
 | ref p=>exact h.imp id .inl
 | byt _=>exact h.elim
 | _=>exact h
theorem tB (ha:SE X sf C ea a)(he:∀ whole,isTrue ea X.env whole=(do let v <- whole; standAt ea.pos; holding [v] (truthy v)):=by intro _; rfl):SB X sf C ea a :=
 jw (qS ha he) fun σ H Q h=>by
  obtain ⟨pv,Z,Fs,η,w,η',b,A,ev,ht,k⟩:=h
  exact ⟨pv,Z,Fs,η,w,η',A,ev,fun v Z' H' Fs' G B r s=>⟨b,iV (d9 ht r),k Z' H' Fs' B.bare (s.mono (fun _ z=>z) fun _ z=>.inl z)⟩⟩
theorem dh (ha:SB X sf C ea a):SB X sf C (.UnaryOp .Not ea pos) (.not a):=jw (zk ha) xW
theorem xq {σ:L2.St}{H:Hp}{Q:Bool->Hp->Prop}(hb:∀ η w η',M.evE C a η=.ok (w,η')->∃ b,w.2=.bl b)(h:wT X.K sf C a σ H Q):pE (wE X.K sf C a) σ H Q:=by
 obtain ⟨pv,Z,Fs,η,w,η',b,A,ev,ht,k⟩:=h
 refine ⟨pv,Z,Fs,η,w,η',A,ev,fun v Z' H' Fs' G B r s=>⟨b,?_,k Z' H' Fs' B.bare (s.mono (fun _ z=>z) fun _ z=>.inl z)⟩⟩
 obtain ⟨b',hb'⟩:=hb _ _ _ ev
 rw [hb'] at ht r
 cases ht
 exact r
theorem DT {o:M.Op}(ho:∀ u v w,M.oSem o h [u,v]=some w->∃ b,w.2=.bl b):∀ η w η',M.evE C (.op o h [a,b]) η=.ok (w,η')->∃ b,w.2=.bl b:=fun η w η' e=>by
 obtain ⟨ws,h1,h2⟩:=b6 e
 obtain ⟨u,η1,us,_,e2,rfl⟩:=ay h1
 obtain ⟨v,η2,us,_,e4,rfl⟩:=ay e2
 cases e4
 exact ho u v w h2
theorem dQ {op:CmpOp}{r:R2}{o:M.Op}(ho:OpR X (compareOp op) r)(ha:SE X sf C ea a)(hb:SE X sf C eb b)(hm:behindInMarks op eb=false)(hl:∀ σ H Q,wE X.K sf C (.op o h [a,b]) σ H Q->tOp r (wE X.K sf C a) (wE X.K sf C b) σ H Q)
  (hbl:∀ u v w,M.oSem o h [u,v]=some w->∃ b,w.2=.bl b):SB X sf C (.Compare ea [op] [eb] pos) (.op o h [a,b]) :=
 jw (my ho ha hb hm) fun σ H Q hw=>hl σ H _ (xq (DT hbl) hw)
theorem By {u v w:M.W}(e:M.oSem .eq h [u,v]=some w):∃ b,w.2=.bl b:=by
 obtain ⟨m,a⟩:=u; obtain ⟨n,b⟩:=v
 have e':(if decide (M.dp a<=64)&&decide (M.dp b<=64) then some ((.d,.bl (M.eqT a b)):M.W) else none)=some w:=e
 split at e'
 ·cases e'; exact ⟨_,rfl⟩
 ·cases e'
theorem BH {u v w:M.W}(e:M.oSem .ne h [u,v]=some w):∃ b,w.2=.bl b:=by
 obtain ⟨m,a⟩:=u; obtain ⟨n,b⟩:=v
 have e':(if decide (M.dp a<=64)&&decide (M.dp b<=64) then some ((.d,.bl (!M.eqT a b)):M.W) else none)=some w:=e
 split at e'
 ·cases e'; exact ⟨_,rfl⟩
 ·cases e'
theorem Fe (ha:SE X sf C ea a)(hb:SE X sf C eb b):SB X sf C (.Compare ea [.Lt] [eb] pos) (.op .lt h [a,b]):=dQ w9 ha hb (eD _) (aQ zP) fun u v w e=>by obtain ⟨_,_,_,_,_,_,rfl⟩:=hV e; exact ⟨_,rfl⟩
theorem DV (ha:SE X sf C ea a)(hb:SE X sf C eb b):SB X sf C (.Compare ea [.Gt] [eb] pos) (.op .gt h [a,b]):=dQ w8 ha hb (eD _) (aQ rZ) fun u v w e=>by obtain ⟨_,_,_,_,_,_,rfl⟩:=qT e; exact ⟨_,rfl⟩
theorem iu (hr:Room n X.A)(ha:SE X sf C ea a)(hb:SE X sf C eb b):SB X sf C (.Compare ea [.Eq] [eb] pos) (.op .eq h [a,b]):=dQ (lM hr.units) ha hb (eD _) (aQ qp) fun u v w e=>By e
theorem jY (hr:Room n X.A)(ha:SE X sf C ea a)(hb:SE X sf C eb b):SB X sf C (.Compare ea [.NotEq] [eb] pos) (.op .ne h [a,b]):=dQ (vR hr.units) ha hb (eD _) (aQ zt) fun u v w e=>BH e
noncomputable abbrev SW (X:Cx)(sf:Nat->Option Nat)(C:M.Call)(me:Expr)(e:M.E):Prop:=PW X me (wT X.K sf C e)
theorem wA1 (ha:SB X sf C ea a):SW X sf C (.BoolOp .And [ea] pos) a:=vE ha
theorem wO1 (ha:SB X sf C ea a):SW X sf C (.BoolOp .Or [ea] pos) a:=yH ha
theorem Au {rest:List Expr}(ha:SB X sf C ea a)(hb:SW X sf C (.BoolOp .And (eb::rest) pos) b):SW X sf C (.BoolOp .And (ea::eb::rest) pos) (.and a b):=wM (Bj ha hb) ze
theorem wOr {rest:List Expr}(ha:SB X sf C ea a)(hb:SW X sf C (.BoolOp .Or (eb::rest) pos) b):SW X sf C (.BoolOp .Or (ea::eb::rest) pos) (.or a b):=wM (Dj ha hb) DZ
theorem tW (h:SW X sf C ea a):SB X sf C ea a:=h.pt
theorem vP {ta:TE}(ha:PE X ea ta):PE X (.UnaryOp .Not ea pos) (fun σ H Q=>ta σ H fun x H1=>∃ k,rQ X.K x H1 k/\Q (.bl (!k)) H1):=by
 intro pins s σ H Q I h
 refine UnaryOp_ (thn (ha pins s σ H _ I h) fun v s1 ⟨x,H1,I1,r1,q1⟩=>?_)
 refine not_of (thn (kH pins s1 σ H1 x v (fun k H2=>Q (.bl (!k)) H2) I1 r1 q1) fun k s2 ⟨H2,I2,q2⟩=>⟨.bl (!k),H2,I2,rfl,q2⟩)
theorem Fo (ha:SE X sf C ea a):SE X sf C (.UnaryOp .Not ea pos) (.not a):=aw (vP ha) fun σ H Q h=>by
 obtain ⟨pv,Z,Fs,η,w,η',A,ev,k⟩:=xC σ H Q h
 exact ⟨pv,Z,Fs,η,w,η',A,ev,fun v Z' H' Fs' G B r s=>let ⟨c,t,q⟩:=k v Z' H' Fs' G B r s; ⟨c,iV t,q⟩⟩
theorem sIf (hc:SB X sf C ec c)(ha:SE X sf C ea a)(hb:SE X sf C eb b):SE X sf C (.IfExp ec ea eb pos) (.ifx c a b):=aw (qk hc ha hb) xK
theorem zT {tg:Expr}(ha:SE X sf C ea a):PI X tg ea (wI X.K sf C 1 .seq [a]):=jt (Ds (mx ha) (AN ha)) xI
theorem D8 {tg:Expr}{p:Pos}(hm:X.mg "range"=none)(hg:Gl X "range":=by rfl)(ha:SE X sf C ea a)(hs:starEach [ea] X.env=[(false,eval ea X.env)]:=by rfl):PI X tg (.Call (.Name "range" p) [ea] [] pos) (wI X.K sf C 1 .rng [a]):=jt (nr hg hm (slc ha sl0 hs) hs) tD
theorem yT {tg:Expr}{p:Pos}(hm:X.mg "range"=none)(hg:Gl X "range":=by rfl)(ha:SE X sf C ea a)(hb:SE X sf C eb b)(hs:starEach [ea,eb] X.env=[(false,eval ea X.env),(false,eval eb X.env)]:=by rfl)(hs2:starEach [eb] X.env=[(false,eval eb X.env)]:=by rfl):PI X tg (.Call (.Name "range" p) [ea,eb] [] pos) (wI X.K sf C 1 .rng [a,b]):=jt (nQ hg hm (slc ha (slc hb sl0 hs2) (by rw [hs,hs2])) hs hs2) uD
noncomputable def lkN:List Nat->Nat->Nat->Option Nat
 | [],_,_=>none
 | t::ts,n,i=>if i=t then some n else lkN ts (n+1) i
theorem lO:∀ {l:List Nat} {n i j:Nat},lkN l n i=some j->∃ k,l[k]?=some i/\j=n+k/\i ∉ l.take k
 | [],_,_,_,h=>by cases h
 | t::ts,n,i,j,h=>by
  have h':(if i=t then some n else lkN ts (n+1) i)=some j:=h
  split at h'
  ·rename_i e; cases h'; exact ⟨0,by rw [e]; rfl,rfl,by simp⟩
  ·rename_i e
   obtain ⟨k,h1,h2,h3⟩:=lO h'
   exact ⟨k+1,h1,by omega,by rw [a03,a0m]; exact fun z=>z.elim e h3⟩
noncomputable def inF (tg ls:List Nat):Nat->Option Nat:=lkN (tg++ls) 0
theorem jC {tg ls is:List Nat}(h:ls.map sf=is.map some):gI sf (inF tg ls) tg is:=fun i j hj=>by
 obtain ⟨k,h1,h2,h3⟩:=lO (show lkN (tg++ls) 0 i=some j from hj)
 rw [a1J] at h2
 subst h2
 by_cases hk:j < tg.length
 ·rw [a04 hk] at h1
  exact .inl ⟨j,h1,rfl⟩
 ·have hk':tg.length<=j:=a3f hk
  rw [a0I hk'] at h1
  refine .inr ⟨fun hi=>h3 ?_,?_⟩
  ·rw [List.take_append,a1d hk']
   exact a0K _ hi
  ·have e1:(ls.map sf)[j-tg.length]?=some (sf i):=by rw [a0y,h1]; rfl
   rw [h,a0y] at e1
   cases e2:is[j-tg.length]? with
   | none=>rw [e2] at e1; cases e1
   | some j0 =>
    rw [e2] at e1
    exact ⟨j-tg.length,j0,by omega,e2,(a0u e1).symm⟩
theorem Fw {x:Str}{px:Pos}{ys:List Str}{scope:Scope}{cl:List (Str×Addr)}(S:aB [x] ys scope)(Ca:Addr)(s:Shared)(H:Hp)(fp:List Addr):PG (ax X ([x]++ys) scope cl Ca s H fp) (.Name x px) (gT X.K 1) :=
 cW (X:=ax X ([x]++ys) scope cl Ca s H fp) (i:=0) (x:=x) (pos:=px) S.nd rfl (.inl (lookup_relabel_local (S.loc x (by simp)))) (.inr (lookup_relabel_local (S.loc x (by simp))))
theorem E9 {x y:Str}{px py pt:Pos}{kt:Nat}{ys:List Str}{scope:Scope}{cl:List (Str×Addr)}(hc:X.calm=true)(S:aB [x,y] ys scope)(Ca:Addr)(s:Shared)(H:Hp)(fp:List Addr):PG (ax X ([x,y]++ys) scope cl Ca s H fp) (.Tuple [.Name x px,.Name y py] kt pt) (gT X.K 2) :=
 ql (X:=ax X ([x,y]++ys) scope cl Ca s H fp) (pos:=pt) (k:=kt) (n:=2) hc (dX (cW (pos:=px) (i:=0) (x:=x) S.nd rfl (.inl (lookup_relabel_local (S.loc x (by simp)))) (.inr (lookup_relabel_local (S.loc x (by simp))))) (dX (cW (pos:=py) (i:=1) (x:=y) S.nd rfl (.inl (lookup_relabel_local (S.loc y (by simp)))) (.inr (lookup_relabel_local (S.loc y (by simp))))) mq))
end
end MR

namespace MR
open PySem PySem.Spec PyProof.Rows L2 L3
section
variable {X:Cx}{sf sg:Nat->Option Nat}{C:M.Call}{pos p2:Pos}{ea eb ec:Expr}{a b c:M.E}{h:Bool}{n:Nat}{io:List Nat}
section
variable {elt iter cnd:Expr}{x y:Str}{px py pt:Pos}{kt:Nat}{scope:Scope}{cl:List (Str×Addr)}{ys:List Str}{tg ls is:List Nat}{k:M.Ik}{src:List M.E}{e cd:M.E}
theorem sC2 (ls:List Nat)(is:List Nat)(cl:List (Str×Addr))(ys:List Str){t t':Nat}(hi:PI X (.Tuple [.Name x px,.Name y py] kt pt) iter (wI X.K sf C 2 k src))(he:∀ Ca s H fp,SE (ax X ([x,y]++ys) scope cl Ca s H fp) (inF [t,t'] ls) C elt e)
  (S:aB [x,y] ys scope) (hcl:Clo X cl) (fr:Frees X scope cl ys is) (hc:X.calm=true:=by rfl) (hl:ls.map sf=is.map some:=by rfl) (nd:[t,t'].Nodup:=by decide)
  (hclos:closureFor scope X.env=pure cl:=by with_unfolding_all rfl) (hfr:(scope.names.all fun p=>p.2 != .free || (cl.lookup p.1).isSome)=true:=by rfl)
  (hs:∀ v,foldedSetIterable iter X.env v=pure v:=by intro _; rfl):SE X sf C (.ListComp elt [⟨.Tuple [.Name x px,.Name y py] kt pt,iter,[],0⟩] scope pos) (.comp h k src [t,t'] none e) :=
 aw (mQ (pre:=[x,y]) hc hi (E9 hc S) (fun Ca s H fp=>he Ca s H fp) hclos S hcl hfr fr hs) (jl rfl nd (jC hl))
end
noncomputable def spS (K:a0a)(C:M.Call)(f:Nat)(io:List Nat):Sp:=fun vs H Q _=>spC K C f io vs H Q
theorem sa0:SA X sf C [] []:=i5 bO zd
theorem sac {es:List Expr}{bs:List M.E}(ha:SE X sf C ea a)(hb:SA X sf C es bs)(he:∀ i,a≠.io i:=by intro _ z; cases z)(hs:starEach (ea::es) X.env=(false,eval ea X.env)::starEach es X.env:=by rfl):SA X sf C (ea::es) (a::bs):=i5 (aH ha hb hs) (sr he)
theorem sai (j:Nat){i:Nat}{x:Str}{es:List Expr}{bs:List M.E}(hb:SA X sf C es bs)(hs:sf i=some j:=by rfl)(hN:X.N[j]?=some x:=by rfl)(hv:Vis X.env.scope x:=by first | exact a0E rfl | exact a0z (a0E rfl) | exact a0z (a0z rfl))(hd:(x==("__debug__":Str))=false:=by decide)
  (hcd:(x==("__classdict__":Str))=false:=by decide) (hst:starEach (.Name x pos::es) X.env=(false,eval (.Name x pos) X.env)::starEach es X.env:=by rfl):SA X sf C (.Name x pos::es) (.io i::bs):=i5 (aH (bB hN hv hd hcd) hb hst) (nu hs)
noncomputable def ae (P:Program)(w:World)(K:a0a)(mg:Str->Option Value)(base:Heap)(n:Nat)(C:M.Call)(x:Str)(f:Nat)(io:List Nat):Prop :=
 ∃ fa fd ps,bJ P w K mg base CX0 n fa fd ps (spS K C f io)/\mg x=some (.ref fa)/\a1k K (.ref fa)=true/\Binds K fd ps []
theorem au {x:Str}{p:Pos}{f:Nat}{es:List Expr}{bs:List M.E}(c:ae X.prog X.w X.K X.mg X.base n C x f io)(hr:Room n X.A)(ha:SA X sf C (ea::es) bs)(hio:fH bs 0=io\/M.ios bs=[]:=by first | exact .inl rfl | exact .inr rfl)(hg:Gl X x:=by rfl)(hdb:(x==("__debug__":Str))=false:=by decide)
  (he:starEach (ea::es) X.env=(false,eval ea X.env)::starEach es X.env:=by rfl) (hpl:(backTo pos (starEach es X.env)).any (·.1)=false:=by rfl):SE X sf C (.Call (.Name x p) (ea::es) [] pos) (.call f bs):=by
 obtain ⟨fa,fd,ps,F,hm,hk,hb⟩:=c
 refine aw (tZ (E:=E0) F hr hg hm hk hb .nil xn ha hdb he hpl) fun σ H Q hw=>?_
 have h2:=vg hio σ H Q hw
 obtain ⟨pv,Z,Fs,η,ws,η',A,ev,k⟩:=h2
 exact ⟨pv,Z,Fs,η,ws,η',A,ev,fun vs Z' H' Fs' G B r s hv=>by show spS X.K C f io (vs++[]) H' Q E0; rw [a0B]; exact k vs Z' H' Fs' G B r s hv⟩
theorem ss0:SSs X sf io C [] []:=j2 vb v8
theorem ss1 {s:Stmt}{t:M.S}(hs:SS X sf io C s t):SSs X sf io C [s] [t]:=j2 (lH hs) uk
theorem ssc {s:Stmt}{t:M.S}{r:List Stmt}{u:List M.S}(hs:SS X sf io C s t)(hr:SSs X sf io C r u):SSs X sf io C (s::r) (t::u):=j2 (jT hs hr) r6
theorem aR (j:Nat){i:Nat}{x:Str}{xx:M.X}{pos':Pos}(hN:X.N.Nodup)(ha:SE X sf C ea a)(hi:i ∉ io:=by decide)(hs:sf i=some j:=by rfl)(hj:X.N[j]?=some x:=by rfl)(hx:L2.Loc X.env.scope x:=by first | exact a0E rfl | exact a0z rfl)
  (hsw:swapsWith ea (some (.Name x pos')) pos.line X.env=pure false:=by rfl) (hf:X.fn x=true\/X.env.scope.names.lookup x=some .local:=by first | exact .inl rfl | exact .inr rfl):SS X sf io C (.Assign [.Name x pos'] ea pos) (.asg xx i a):=cq (yc (i:=j) hN hj hx ha hsw hf) (rJ hi hs)
theorem Dk {xx:M.X}(ha:SE X sf C ea a)(hs:swapsWith ea none pos.line X.env=pure false:=by rfl):SS X sf io C (.Expr ea pos) (.exp xx a):=cq (dJ ha hs) zj
theorem aJ {vs:List Nat}(ha:SE X sf C ea a):SS X sf io C (.Return (some ea) pos) (.ret vs a):=cq (Bl ha) AH
theorem zIf {xx:M.X}{r u:List Stmt}{s t:List M.S}(hc:SB X sf C ec c)(ha:SSs X sf io C r s)(hb:SSs X sf io C u t):SS X sf io C (.If ec r u pos) (.ite xx c s t):=cq (BE hc ha hb) Bi
theorem jI (j:Nat){t:Nat}{x:Str}{px:Pos}{iter:Expr}{r:List Stmt}{s:List M.S}{vs ls:List Nat}{k:M.Ik}{src:List M.E}(hN:X.N.Nodup)(hi:PI X (.Name x px) iter (wI X.K sf C 1 k src))(ha:SSs X sf io C r s)(hio:∀ u∈[t],u ∉ io:=by decide)(hjs:[t].map sf=[j].map some:=by rfl)(hj:X.N[j]?=some x:=by rfl)(hx:L2.Loc X.env.scope x:=by first | exact a0E rfl | exact a0z rfl)
  (hc:X.calm=true:=by rfl) (hp:PassesOwn (model X.prog X.w) X.A X.env X.xe:=by exact PassesOwn.never) (hf:X.fn x=true\/X.env.scope.names.lookup x=some .local:=by first | exact .inl rfl | exact .inr rfl) (hs:∀ x,foldedSetIterable iter X.env x=pure x:=by intro _; rfl):SS X sf io C (.For (.Name x px) iter r [] pos) (.forS vs ls k src [t] s) :=
 cq (qX hp hc hi (cW (i:=j) hN hj hx hf) ha hs) (oR rfl (by simp) hio hjs)
theorem wQ (j l:Nat){t u:Nat}{x y:Str}{px py pt:Pos}{kt:Nat}{iter:Expr}{r:List Stmt}{s:List M.S}{vs ls:List Nat}{k:M.Ik}{src:List M.E}(hN:X.N.Nodup)(hi:PI X (.Tuple [.Name x px,.Name y py] kt pt) iter (wI X.K sf C 2 k src))(ha:SSs X sf io C r s)(hio:∀ v∈[t,u],v ∉ io:=by decide)(nd:[t,u].Nodup:=by decide)(hjs:[t,u].map sf=[j,l].map some:=by rfl)(hj:X.N[j]?=some x:=by rfl)(hl:X.N[l]?=some y:=by rfl)
  (hx:L2.Loc X.env.scope x:=by first | exact a0E rfl | exact a0z rfl) (hy:L2.Loc X.env.scope y:=by first | exact a0E rfl | exact a0z rfl)
  (hc:X.calm=true:=by rfl) (hp:PassesOwn (model X.prog X.w) X.A X.env X.xe:=by exact PassesOwn.never) (hf:X.fn x=true\/X.env.scope.names.lookup x=some .local:=by first | exact .inl rfl | exact .inr rfl) (hf':X.fn y=true\/X.env.scope.names.lookup y=some .local:=by first | exact .inl rfl | exact .inr rfl) (hs:∀ x,foldedSetIterable iter X.env x=pure x:=by intro _; rfl):SS X sf io C (.For (.Tuple [.Name x px,.Name y py] kt pt) iter r [] pos) (.forS vs ls k src [t,u] s) :=
 cq (qX hp hc hi (ql (n:=2) hc (dX (cW (i:=j) hN hj hx hf) (dX (cW (i:=l) hN hl hy hf') mq))) ha hs) (oR rfl nd hio hjs)
theorem Er (j:Nat){i:Nat}{x:Str}{xx:M.X}{apos cpos px:Pos}(ha:SE X sf C ea a)(hs:sf i=some j:=by rfl)(hN:X.N[j]?=some x:=by rfl)(hv:Vis X.env.scope x:=by first | exact a0E rfl | exact a0z (a0E rfl) | exact a0z (a0z rfl))(hd:(x==("__debug__":Str))=false:=by decide)(hcd:(x==("__classdict__":Str))=false:=by decide)
  (hbase:attributeBase (.Name x px) "append" X.env (eval (.Name x px) X.env)=eval (.Name x px) X.env:=by rfl)
  (hfew:((backTo cpos (starEach [ea] X.env)).all (fun x=>!x.1)&&(backToKw cpos (keywordEach [] X.env)).all (fun x=>x.1.isSome)&&decide ([ea].length+([]:List Keyword).length+(if ([]:List Keyword).isEmpty then 0 else 1) < 30))=true:=by rfl)
  (hline:(apos.endLine==cpos.line)=true:=by rfl) (hst:starEach [ea] X.env=(false,eval ea X.env)::starEach [] X.env:=by rfl) (hplain:(backTo cpos (starEach [] X.env)).any (·.1)=false:=by rfl) (hsw:swapsWith (.Call (.Attribute (.Name x px) "append" apos) [ea] [] cpos) none pos.line X.env=pure false:=by rfl) :
  SS X sf io C (.Expr (.Call (.Attribute (.Name x px) "append" apos) [ea] [] cpos) pos) (.app xx i a) :=
 cq (dJ (wF a1T PySem.F.slot_list_append PySem.F.type_list_append nM (bB hN hv hd hcd) (aH ha bO hst) hbase hfew hline hst hplain) hsw) fun D σ H hw=>by
  obtain ⟨p,xs,hj,hp,pv,Z,Fs,η,w,η',A,ev,k⟩:=yA hs D σ H hw
  refine ⟨.ref p,hj,.inl ⟨rfl,xs,.inl (.inl hp)⟩,pv,Z,Fs,η,w,η',A,ev,fun v Z' H' Fs' G B r s=>?_⟩
  obtain ⟨ys,h1,h2,h3⟩:=k v Z' H' Fs' G B r s
  exact ⟨p,ys,v,rfl,rfl,h1,h2,h3⟩
theorem EI (j:Nat){i:Nat}{x:Str}{xx:M.X}{apos cpos px:Pos}(ha:SE X sf C ea a)(hs:sf i=some j:=by rfl)(hN:X.N[j]?=some x:=by rfl)(hv:Vis X.env.scope x:=by first | exact a0E rfl | exact a0z (a0E rfl) | exact a0z (a0z rfl))(hd:(x==("__debug__":Str))=false:=by decide)(hcd:(x==("__classdict__":Str))=false:=by decide)
  (hbase:attributeBase (.Name x px) "extend" X.env (eval (.Name x px) X.env)=eval (.Name x px) X.env:=by rfl)
  (hfew:((backTo cpos (starEach [ea] X.env)).all (fun x=>!x.1)&&(backToKw cpos (keywordEach [] X.env)).all (fun x=>x.1.isSome)&&decide ([ea].length+([]:List Keyword).length+(if ([]:List Keyword).isEmpty then 0 else 1) < 30))=true:=by rfl)
  (hline:(apos.endLine==cpos.line)=true:=by rfl) (hst:starEach [ea] X.env=(false,eval ea X.env)::starEach [] X.env:=by rfl) (hplain:(backTo cpos (starEach [] X.env)).any (·.1)=false:=by rfl) (hsw:swapsWith (.Call (.Attribute (.Name x px) "extend" apos) [ea] [] cpos) none pos.line X.env=pure false:=by rfl) :
  SS X sf io C (.Expr (.Call (.Attribute (.Name x px) "extend" apos) [ea] [] cpos) pos) (.ext xx i a) :=
 cq (dJ (wF a1T PySem.F.slot_list_extend PySem.F.type_list_extend mH (bB hN hv hd hcd) (aH ha bO hst) hbase hfew hline hst hplain) hsw) fun D σ H hw=>by
  obtain ⟨p,xs,hj,hp,pv,Z,Fs,η,w,η',A,ev,k⟩:=As hs D σ H hw
  refine ⟨.ref p,hj,.inl ⟨rfl,xs,.inl (.inl hp)⟩,pv,Z,Fs,η,w,η',A,ev,fun v Z' H' Fs' G B r s=>?_⟩
  obtain ⟨b,ys,zs,rfl,h1,h2,h3,h4⟩:=k v Z' H' Fs' G B r s
  exact ⟨p,b,ys,zs,rfl,rfl,h1,h2,h3,h4⟩
theorem E5 (j:Nat){i:Nat}{x:Str}{xx:M.X}{px ps:Pos}(ha:SE X sf C ea a)(hb:SE X sf C eb b)(hs:sf i=some j:=by rfl)(hN:X.N[j]?=some x:=by rfl)(hv:Vis X.env.scope x:=by first | exact a0E rfl | exact a0z (a0E rfl) | exact a0z (a0z rfl))(hd:(x==("__debug__":Str))=false:=by decide)(hcd:(x==("__classdict__":Str))=false:=by decide)
  (has:∀ v,assign (.Subscript (.Name x px) eb ps) X.env v=(do
   let ov <- holding [v] (eval (.Name x px) X.env)
   let iv <- holding [v,ov] (eval eb X.env)
   standAt ps
   holding [v,ov,iv] (setItem ov iv v)
   release [v,ov,iv] []):=by intro _; rfl)
  (h1:swapsWithSole [.Subscript (.Name x px) eb ps] ea pos.line X.env=pure false:=by rfl) (h2:swappedStores [.Subscript (.Name x px) eb ps] ea X.env=pure none:=by rfl) (h3:(assignEach [.Subscript (.Name x px) eb ps] X.env).map (·.2)=[assign (.Subscript (.Name x px) eb ps) X.env]:=by rfl) :
  SS X sf io C (.Assign [.Subscript (.Name x px) eb ps] ea pos) (.setI xx i b a) :=
 cq (y9 ha (Bu (bB hN hv hd hcd) hb oY has) h1 h2 h3) fun D σ H hw=>by
  obtain ⟨pv,Z,Fs,η,w,η',A,ev,k⟩:=vH hs D σ H hw
  refine ⟨pv,Z,Fs,η,w,η',A,ev,fun v Z' H' Fs' G B r s=>?_⟩
  obtain ⟨o,ho,pv2,Z2,Fs2,η2,w2,η3,A2,ev2,k2⟩:=k v Z' H' Fs' G B r s
  refine ⟨o,ho,pv2,Z2,Fs2,η2,w2,η3,A2,ev2,fun z Z3 H3 Fs3 G3 B3 r3 s3=>?_⟩
  obtain ⟨q,xs,n,m,rfl,rfl,g1,g2,g3⟩:=k2 z Z3 H3 Fs3 G3 B3 r3 s3
  exact ⟨q,xs,n,m,rfl,rfl,g1,g2,g3⟩
end
end MR

namespace MR
open PySem PySem.Spec PyProof.Rows L2 L3
section
variable {K:a0a}{Z:Fp}{H:Hp}
theorem iJ:∀ {ws:List M.W} {n i:Nat} {w:M.W},M.rd (ws.map some++a0r n none) i=some w->ws[i]?=some w
 | [],0,i,w,h=>by simp [M.rd] at h
 | [],n+1,0,w,h=>by simp [a2d,M.rd] at h
 | [],n+1,i+1,w,h=>by
  have:M.rd (([]:List M.W).map some++a0r n none) i=some w:=by simpa [a2d,M.rd] using h
  have:=iJ this
  simp at this
 | u::ws,n,0,w,h=>by simpa [M.rd] using h
 | u::ws,n,i+1,w,h=>by
  have:M.rd (ws.map some++a0r n none) i=some w:=by simpa [M.rd] using h
  simpa using iJ this
theorem oE:∀ {ws:List M.W} {vs:List V} {G:Fp},RepW K Z H ws vs G->∃ Fs:Fps,(∀ i a,Fs i a->G a)/\(∀ i j a,Fs i a->Fs j a->i=j)/\∀ i w,ws[i]?=some w->∃ v,vs[i]?=some v/\Rep K Z H w.1 w.2 v (Fs i)
 | [],vs,G,_=>⟨fun _=>no,fun _ _ h=>h.elim,fun _ _ _ h=>h.elim,fun i w h=>by simp at h⟩
 | w::ws,vs,G,⟨x,r,G1,G2,e,h1,h2,hd,p,q⟩=>by
  obtain ⟨Fs,f1,f2,f3⟩:=oE q
  subst e
  refine ⟨fun i=>match i with | 0=>G1 | i+1=>Fs i,fun i a h=>?_,fun i j a hi hj=>?_,fun i u h=>?_⟩
  ·cases i with
   | zero=>exact h1 a h
   | succ i=>exact h2 a (f1 i a h)
  ·cases i with
   | zero =>
    cases j with
    | zero=>rfl
    | succ j=>exact absurd (f1 j a hj) (hd a hi)
   | succ i =>
    cases j with
    | zero=>exact absurd (f1 i a hi) (hd a hj)
    | succ j=>exact congrArg (·+1) (f2 i j a hi hj)
  ·cases i with
   | zero=>simp only [a1R,a2w] at h; subst h; exact ⟨x,rfl,p⟩
   | succ i=>simpa using f3 i u (by simpa using h)
noncomputable def slN (n:Nat):Nat->Option Nat:=fun i=>if i < n then some i else none
theorem eB {sl:Cf}{σ:L2.St}{Fs:Fps}{η:M.Env}{G:Fp}{vs:List V}(A:At K sl σ Z H Fs η G):∀ {io:List Nat} {bs:List M.W},io.Nodup->(∀ i∈io,sl.pv i=vs[i]?/\i < vs.length)->M.backs io η=some bs->RepW K Z H bs (atV io vs) (fun a=>∃ i∈io,Fs i a)
 | [],bs,_,_,h=>by
  simp only [M.backs,a2w] at h; subst h; rfl
 | i::io,bs,nd,hv,h=>by
  simp only [M.backs] at h
  cases e:M.rd η i with
  | none=>rw [e] at h; cases h
  | some w =>
   rw [e] at h
   simp only [a2z] at h
   cases e2:M.backs io η with
   | none=>rw [e2] at h; cases h
   | some ws =>
    rw [e2] at h
    simp only [a2z,a2w] at h
    subst h
    obtain ⟨v,r,_,hp⟩:=A.env i w.1 w.2 e
    have hi:=hv i a0k
    obtain ⟨u,hu⟩:∃ u,vs[i]?=some u:=⟨vs[i]'hi.2,a0n hi.2⟩
    have:=hp u (hi.1.trans hu)
    subst this
    refine ⟨v,atV io vs,Fs i,fun a=>∃ j∈io,Fs j a,?_,fun a h=>⟨i,a0k,h⟩,fun a ⟨j,hj,h⟩=>⟨j,a0f _ hj,h⟩,fun a h ⟨j,hj,h'⟩=>?_,r,eB A (a1A.mp nd).2 (fun j hj=>hv j (a0f _ hj)) e2⟩
    ·rw [atV,a01,hu]; rfl
    ·exact (a1A.mp nd).1 (A.gd.dis i j a h h' ▸ hj)
end
section
variable {P:Program}{w:World}{K:a0a}{mg:Str->Option Value}{base:Heap}
theorem jL {Z:Fp}{H:Hp}{ws:List M.W}{vs:List V}{G:Fp}{N:List Str}{n:Nat}{io:List Nat}(r:RepW K Z H ws vs G)(o:Own Z H G)(z:∀ a,Z a->H a≠none)(hl:vs.length<=N.length) :
  ∃ Fs,(∀ a,tot Fs a->G a)/\At K ⟨slN N.length,fun i=>if i∈io then vs[i]? else none⟩ (L2.start N vs) Z H Fs (ws.map some++a0r n none) no:=by
 obtain ⟨Fs,f1,f2,f3⟩:=oE r
 have st:∀ i v,vs[i]?=some v->(L2.start N vs)[i]?=some (some v):=fun i v h=>by
  have hi:=(a0q.mp h).1
  rw [L2.start,a04 (by simpa using hi),a0y,h]; rfl
 refine ⟨Fs,fun a ⟨i,h⟩=>f1 i a h,⟨⟨fun a ⟨i,h⟩=>o a (f1 i a h),f2,z⟩,fun i m t e=>?_,fun a h=>h.elim,fun a h=>h.elim,fun i u j hu hj=>?_,fun i j hj=>?_⟩⟩
 ·obtain ⟨v,hv,rp⟩:=f3 i (m,t) (iJ e)
  refine ⟨v,rp,fun j hj=>?_,fun u hu=>?_⟩
  ·simp only [slN] at hj
   split at hj
   ·cases hj; exact st i v hv
   ·cases hj
  ·simp only at hu
   split at hu
   ·rw [hv] at hu; cases hu; rfl
   ·cases hu
 ·simp only at hu
  simp only [slN] at hj
  split at hj
  ·cases hj
   split at hu
   ·exact st i u hu
   ·cases hu
  ·cases hj
 ·simp only [slN] at hj
  split at hj
  ·cases hj
   rename_i h
   rw [L2.start,a0c,a0b,a0M]; omega
  ·cases hj
theorem Fun.okM {x qual:Str}{st:Stmt}{f:Addr}{fd:FuncData}{N ps:List Str}{k:Nat}{C:M.Call}{d:M.Fn}(F:L2.Fun K x qual st f fd)(S:ak N ps (defScope st))(hps:d.ps=ps.length)(hle:ps.length<=N.length)(nd:d.io.Nodup)(hio:∀ i∈d.io,i < ps.length)
  (hbody:∀ (cdv:Value) (A:Around) (outer:List Env) (s:Shared) (H:Hp) (E:XK),Room k (A.deeper (envOfC qual (defScope st) s.heap.objs.size f cdv)) ->
   SSs (dY CX0 P w K mg base N qual (defScope st) f cdv A outer s H E).nox (slN N.length) d.io C (defBody st) d.body) {g:Nat} {C':M.Call} (hC:∀ ws,C' g ws=M.runF C d ws):bJ P w K mg base CX0 (k+1) f fd ps (spS K C' g d.io):=by
 have len:∀ vs H Q E,spS K C' g d.io vs H Q E->vs.length=ps.length:=fun vs H Q E ⟨Z,ws,G,w,bs,r,_,_,hr,_⟩=>by
  rw [hC] at hr
  unfold M.runF at hr
  split at hr
  ·rename_i h; rw [r.length,h,hps]
  ·cases hr
 refine F.ok S len fun cdv A outer s H vs Q E hr h=>⟨_,hbody cdv A outer s H E hr,?_⟩
 have hlen:=len vs H Q E h
 obtain ⟨Z,ws,G,w,bs,r,o,z,hc,q⟩:=h
 rw [hC] at hc
 have hwl:ws.length=d.ps:=by rw [<- r.length,hlen,hps]
 rw [M.x_run _ _ _ hwl] at hc
 obtain ⟨Fs,ft,A0⟩:=jL (n:=d.ns) (io:=d.io) r o z (N:=N) (by omega)
 refine ⟨_,Z,Fs,_,⟨fun i i' j h h'=>?_,fun i h=>if_neg h⟩,A0,?_⟩
 ·simp only [slN] at h h'
  split at h
  ·split at h'
   ·cases h; cases h'; rfl
   ·cases h'
  ·cases h
 have hv:∀ i∈d.io,(if i∈d.io then vs[i]? else none)=vs[i]?/\i < vs.length:=fun i hi=>⟨if_pos hi,hlen ▸ hio i hi⟩
 cases e:M.evSs C d.body (ws.map some++a0r d.ns none) with
 | nx η =>
  rw [e] at hc
  intro σ' Z' H' Fs' A' t
  simp only [M.Fl.out] at hc
  cases e2:M.backs d.io η with
  | none=>rw [e2] at hc; cases hc
  | some cs =>
   rw [e2] at hc
   cases hc
   refine q .non Z' H' no _ rfl (eB A' nd hv e2) (fun _ h=>h.elim) (fun a h=>h.elim (fun z=>z.elim) fun ⟨i,_,z⟩=>A'.gd.own a ⟨i,z⟩) (t.mono ft fun a h=>h.elim (fun z=>z.elim) fun ⟨i,_,z⟩=>⟨i,z⟩)
 | rt u η =>
  rw [e] at hc
  intro v σ' Z' H' Fs' G' A' rp t
  simp only [M.Fl.out] at hc
  cases e2:M.backs d.io η with
  | none=>rw [e2] at hc; cases hc
  | some cs =>
   rw [e2] at hc
   cases hc
   exact q v Z' H' G' _ rp (eB A' nd hv e2) (fun a h ⟨i,_,z⟩=>A'.dis a h ⟨i,z⟩) (fun a h=>h.elim (A'.own a) fun ⟨i,_,z⟩=>A'.gd.own a ⟨i,z⟩) (t.mono ft fun a h=>h.elim .inr fun ⟨i,_,z⟩=>.inl ⟨i,z⟩)
 | bk η=>rw [e] at hc; cases hc
 | ex t η=>rw [e] at hc; cases hc
 | no=>rw [e] at hc; cases hc
end
end MR

namespace MR
open PySem PySem.Spec PyProof.Rows L2 L3
noncomputable def Dv (K:a0a)(H:Hp):Th->V->Prop
 | .tup _,x=>∃ a vs,x=.ref a/\SqT K H a vs
 | .lst _,x=>∃ a vs,x=.ref a/\SqL K H a vs
 | .non,x=>x=.non
 | .bl b,x=>x=.bl b
 | .int i,x=>x=.int i
 | .str z,x=>x=.str z
theorem oX {X:Cx}{c:String}(hc:c∈["tuple","str","bool","int","list"]):dW X (.builtin "isinstance") (fun xs H Q=>∃ x t,xs=[x,.ty c]/\Dv X.K H t x/\Q (.bl (isI c t)) H):=by
 intro pins s σ H xs us Q I r h
 obtain ⟨x,t,rfl,ht,q⟩:=h
 obtain ⟨u,w',rfl,ru,rw'⟩:=oZ r
 cases rw'
 have e:a0C X.K (.type t.ty) (.type c)=some (isI c t):=kit_type.trans (AW hc t)
 have fin:∀ tk,EP X pins σ Q (.bool (isI c t)) { s with toks:=tk }:=fun tk=>⟨.bl (isI c t),H,I.tok tk,rfl,q⟩
 cases t with
 | non =>
  obtain rfl:x=.non:=ht
  exact cx I ru .non e fin
 | bl b =>
  obtain rfl:x=.bl b:=ht
  exact cx I ru (.bl b) e fin
 | int i =>
  obtain rfl:x=.int i:=ht
  exact cx I ru (.int i) e fin
 | str z =>
  obtain rfl:x=.str z:=ht
  exact cx I ru (.str z) e fin
 | tup ts =>
  obtain ⟨a,vs,rfl,hS⟩:=ht
  cases ru
  obtain ⟨its,_,p,_⟩:=I.tuple hS
  obtain ⟨o,h1,h2,_⟩:=p
  exact a0G a2V I.kIn ⟨o,h1,h2⟩ e (fun z=>nomatch z) fin
 | lst ts =>
  obtain ⟨a,vs,rfl,hS⟩:=ht
  cases ru
  obtain ⟨its,_,p,_⟩:=I.list hS
  obtain ⟨o,n,h1,h2,_⟩:=p
  exact a0G a2u I.kIn ⟨o,h1,h2⟩ e (fun z=>nomatch z) fin
noncomputable def thT:M.T->Th
 | .non=>.non | .bl b=>.bl b | .int i=>.int i | .str x=>.str x | .tup _=>.tup [] | .lst _=>.lst [] | .scr _=>.lst [] | .dct _ _=>.non | .ins _ _ _=>.non | .gone=>.non
theorem uA {K:a0a}{Z:Fp}{H:Hp}{t:M.T}{m:M.Md}{x:V}{G:Fp}(hg:t.isH=false)(r:Rep K Z H m t x G):Dv K H (thT t) x/\(thT t).ty=t.ty:=by
 cases t with
 | non=>exact ⟨r,rfl⟩
 | bl _=>exact ⟨r,rfl⟩
 | int _=>exact ⟨r,rfl⟩
 | str _=>exact ⟨r.1,rfl⟩
 | tup _=>obtain ⟨p,xs,e,q,_⟩:=r; exact ⟨⟨p,xs,e,q⟩,rfl⟩
 | lst _=>obtain ⟨p,xs,e,_,q,_⟩:=r; exact ⟨⟨p,xs,e,.inl (.inl (by cases m<;>exact q.2))⟩,rfl⟩
 | scr _=>obtain ⟨p,e,_,q⟩:=r; exact ⟨⟨p,_,e,q.sq⟩,rfl⟩
 | dct _ _=>cases hg
 | ins _ _ _=>cases hg
 | gone=>cases hg
theorem vF {t:Th}{u:M.T}{c:String}(h:t.ty=u.ty):isI c t=M.isOne c u:=by unfold isI M.isOne; rw [h]
section
variable {X:Cx}{sf sg:Nat->Option Nat}{C:M.Call}{pos p2 p3:Pos}{ea eb ec:Expr}{a b c:M.E}{h:Bool}{n:Nat}{io:List Nat}
theorem v5 {Z:Fp}{H H1:Hp}{G:Fp}(same:∀ a o,H a=some o->H1 a=some o):Step Z H G Z H1 G:=by
 have al:∀ a,H a≠none->H1 a≠none:=fun a h=>by
  cases e:H a with
  | none=>exact absurd e h
  | some o=>rw [same a o e]; simp
 exact ⟨fun a o h _=>same a o h,fun _ h=>h,fun _ h=>.inl h,fun _ h=>.inl h,al,fun z a h=>al a (z a h)⟩
theorem jR {K:a0a}{Z:Fp}{H H1:Hp}{G:Fp}{w:M.W}{Q:VK}(same:∀ a o,H a=some o->H1 a=some o)(k:Out K Z H G w Q):Out K Z H1 G w Q:=fun v Z' H' G' r o t=>k v Z' H' G' r o ((v5 same).trans t)
theorem iZ {H:Hp}{p:Addr}{o:HO}(hp:H p=none):∀ a u,H a=some u->upd H p o a=some u:=fun a u e=>by
 have:a≠p:=fun q=>by subst q; rw [hp] at e; cases e
 rw [af this]; exact e
theorem mi {c:String}{k:Str}(hc:c∈["tuple","str","bool","int","list"])(hv:bootBuiltins k=some (.type c))(hm:X.mg "isinstance"=none)(hm2:X.mg k=none)(ha:SE X sf C ea a)(hg:Gl X "isinstance":=by rfl)(hg2:Gl X k:=by rfl)(hn:k≠"__name__":=by decide)(hd:(k==("__debug__":Str))=false:=by decide)
  (hs:starEach [ea,.Name k p2] X.env=(false,eval ea X.env)::starEach [.Name k p2] X.env:=by rfl) (hs2:starEach [.Name k p2] X.env=(false,eval (.Name k p2) X.env)::starEach [] X.env:=by rfl) (hpl:(backTo pos (starEach [.Name k p2] X.env)).any (·.1)=false:=by rfl) :
  SE X sf C (.Call (.Name "isinstance" p3) [ea,.Name k p2] [] pos) (.op (.isI [c]) h [a]) :=
 aw (cN (oX hc) hg hm a1z (aH ha (aH (wx hg2 hm2 hv hn hd) bO hs2) hs) (by decide) (by decide) hs hpl) fun σ H Q hw=>by
  obtain ⟨pv,Z,Fs,η,w,η',A,ev,k⟩:=hw
  obtain ⟨ws,h1,h2⟩:=b6 ev
  obtain ⟨⟨m,u⟩,η1,us,e1,e2,rfl⟩:=ay h1
  cases e2
  obtain ⟨hug,h2⟩:=ifN (show (if u.isH=true then none else some _)=_ from h2)
  cases h2
  refine ⟨pv,Z,Fs,η,(m,u),η',A,e1,fun x Z' H' Fs' G B r s=>?_⟩
  obtain ⟨t1,t2⟩:=uA hug r
  refine ⟨x,thT u,rfl,t1,?_⟩
  have:=bH (bF B s k)
  rw [vF t2]
  rw [show ([c].any fun c=>M.isOne c u)=M.isOne c u by simp] at this
  exact this
theorem Dy (j:Nat){i:Nat}{x:Str}{apos cpos px:Pos}(hs:sf i=some j:=by rfl)(hN:X.N[j]?=some x:=by rfl)(hv:Vis X.env.scope x:=by first | exact a0E rfl | exact a0z (a0E rfl) | exact a0z (a0z rfl))(hd:(x==("__debug__":Str))=false:=by decide)(hcd:(x==("__classdict__":Str))=false:=by decide)
  (hbase:attributeBase (.Name x px) "pop" X.env (eval (.Name x px) X.env)=eval (.Name x px) X.env:=by rfl) (hline:(apos.endLine==cpos.line)=true:=by rfl) :
  SE X sf C (.Call (.Attribute (.Name x px) "pop" apos) [] [] cpos) (.pop i []) :=
 aw (xZ a1T PySem.F.slot_list_pop PySem.F.type_list_pop Bd (bB hN hv hd hcd) hbase hline) fun σ H Q hw=>by
  obtain ⟨a,xs,y,hj,hp,hy,q⟩:=tR hs σ H Q hw
  exact ⟨.ref a,hj,.inl ⟨rfl,xs,.inl (.inl hp)⟩,a,xs,y,rfl,rfl,hp,hy,q⟩
end
end MR

namespace MR
open PySem PySem.Spec PyProof.Rows L2 L3
structure Txt (mg:Str->Option Value):Prop where
 isin:mg "isinstance"=none
 int:mg "int"=none
 tup:mg "tuple"=none
 list:mg "list"=none
 bool:mg "bool"=none
 sum:mg "sum"=none
 len:mg "len"=none
 all:mg "all"=none
 zip:mg "zip"=none
 range:mg "range"=none
 enum:mg "enumerate"=none
 any:mg "any"=none
 max:mg "max"=none
 min:mg "min"=none
 sorted:mg "sorted"=none
 str:mg "str"=none
 repr:mg "repr"=none
 abs:mg "abs"=none
 dict:mg "dict"=none
 set:mg "set"=none
 rev:mg "reversed"=none
section
variable {X:Cx}{sf sg:Nat->Option Nat}{C:M.Call}{pos p2 p3:Pos}{ea eb ec:Expr}{a b c:M.E}{h:Bool}{n:Nat}{io:List Nat}
section
variable {elt iter cnd:Expr}{x y:Str}{px py pt:Pos}{kt:Nat}{scope:Scope}{tg:List Nat}{k:M.Ik}{src:List M.E}{e cd:M.E}
theorem zC1 (j:Nat)(ls:List Nat)(is:List Nat)(cl:List (Str×Addr))(ys:List Str){z:Str}{pz spos:Pos}{xx:M.X}{i t:Nat}(hi:PI X (.Name x px) iter (wI X.K sf C 1 k src))(he:∀ Ca s H fp,SE (ax X ([x]++ys) scope cl Ca s H fp) (inF [t] ls) C elt e)
  (S:aB [x] ys scope) (hcl:Clo X cl) (fr:Frees X scope cl ys is) (hN:X.N.Nodup) (hni:i ∉ io:=by decide) (hsj:sf i=some j:=by rfl) (hj:X.N[j]?=some z:=by rfl) (hz:L2.Loc X.env.scope z:=by first | exact a0E rfl | exact a0z rfl)
  (hsw:swapsWith (.ListComp elt [⟨(.Name x px),iter,[],0⟩] scope pos) (some (.Name z pz)) spos.line X.env=pure true:=by rfl) (hc:X.calm=true:=by rfl) (hl:ls.map sf=is.map some:=by rfl)
  (hclos:closureFor scope X.env=pure cl:=by with_unfolding_all rfl) (hfr:(scope.names.all fun p=>p.2 != .free || (cl.lookup p.1).isSome)=true:=by rfl)
  (hs:∀ v,foldedSetIterable iter X.env v=pure v:=by intro _; rfl) (hfn:X.fn z=true\/X.env.scope.names.lookup z=some .local:=by first | exact .inl rfl | exact .inr rfl):SS X sf io C (.Assign [.Name z pz] (.ListComp elt [⟨(.Name x px),iter,[],0⟩] scope pos) spos) (.asg xx i (.comp h k src [t] none e)) :=
 cq (nt (pre:=[x]) hN hj hz hsw hc hi (Fw S) (fun Ca s H fp=>he Ca s H fp) hclos S hcl hfr fr hs hfn) fun D σ H hw=>jl rfl (by simp) (jC hl) σ H _ (rJ hni hsj D σ H hw)
end
end
end MR

namespace MR
open PySem PySem.Spec PyProof.Rows L2 L3
section
variable {P:Program}{w:World}{K:a0a}{mg:Str->Option Value}{base:Heap}
theorem jy {C:M.Call}{g:Nat}{io:List Nat}{vs:List V}{H:Hp}{Q:VK}{E:XK}(hC:∀ ws,C g ws=.no)(h:spS K C g io vs H Q E):False:=by
 obtain ⟨Z,ws,G,w,bs,_,_,_,e,_⟩:=h
 rw [hC] at e
 cases e
theorem fn0 {f:Addr}{fd:FuncData}{ps:List Str}{k g:Nat}{io:List Nat}{C:M.Call}(hC:∀ ws,C g ws=.no):bJ P w K mg base CX0 k f fd ps (spS K C g io) :=
 ⟨fun _ _ _ _ h=>(jy hC h).elim,fun _ _ _ _ _ _ _ _ _ _ _ _ _ h=>(jy hC h).elim⟩
theorem kW {Z:Fp}{H:Hp}{a:Addr}{ns:List Int}(hO:pO H)(hl:ns.length<=63)(h:SqL K H a (ns.map V.int)):Rep K Z H .d (.scr ns) (.ref a) no:=by
 refine ⟨a,rfl,a0s hl (by decide),?_⟩
 rcases h with (z | ⟨o,z⟩) | z
 ·rcases hO a with y | ⟨o,xs,y⟩<;>rw [y] at z<;>cases z
 ·exact .inl ⟨o,z⟩
 ·exact .inr (.inr z)
theorem AI {H:Hp}{a:Addr}{ns:List Int}{C:M.Call}{ix:Nat}(hp:∃ m bs,C ix [(.d,.scr ns)]=.ok ((m,.bl true),bs))(hl:ns.length<=63)(hO:pO H)(h:SqL K H a (ns.map V.int)):spS K C ix [] [.ref a] H (fun v _=>v=.bl true) fun _ _ _=>False:=by
 obtain ⟨m,bs,e⟩:=hp
 exact ⟨no,[(.d,.scr ns)],no,(m,.bl true),bs,RepW.one (kW hO hl h),bG,fun _ z=>z.elim,e,fun v Z' H' G1 G2 r _ _ _ _=>r⟩
end
end MR

namespace MR
open PySem PySem.Spec PyProof.Rows L2 L3
structure SBs (as:List Addr)(H H':Hp):Prop where
 keep:∀ b u,b ∉ as->H b=some u->H' b=some u
 al:∀ b,H b≠none->H' b≠none
instance {as:List Addr} {H H':Hp}:CoeFun (SBs as H H') (fun _=>∀ b u,b ∉ as->H b=some u->H' b=some u):=⟨fun s=>s.keep⟩
end MR

namespace MR
open PySem PySem.Spec PyProof.Rows L2 L3
section
variable {X:Cx}{sf sg:Nat->Option Nat}{io:List Nat}{C:M.Call}{pos p2:Pos}{ea eb ec:Expr}{a b c:M.E}{h:Bool}{n:Nat}
theorem ud {rest:List Expr}{ta tb:TE}(ha:PE X ea ta)(hb:PE X (.BoolOp .And (eb::rest) pos) tb):PE X (.BoolOp .And (ea::eb::rest) pos) (fun σ H Q=>ta σ H fun x H1=>∃ k,rQ X.K x H1 k/\if k=true then tb σ H1 Q else Q x H1):=by
 intro pins s σ H Q I h
 refine BoolOp_and (thn (ha pins s σ H _ I h) fun v s1 ⟨x,H1,I1,r1,q1⟩=>?_)
 refine thn (kH pins s1 σ H1 x v (fun k H2=>if k=true then tb σ H2 Q else Q x H2) I1 r1 q1) fun k s2 ⟨H2,I2,q2⟩=>?_
 cases k with
 | true=>exact hb pins s2 σ H2 Q I2 (by rw [if_pos rfl] at q2; exact q2)
 | false=>exact ⟨x,H2,I2,r1,by rw [if_neg a0l] at q2; exact q2⟩
theorem vA1 (ha:SE X sf C ea a):SE X sf C (.BoolOp .And [ea] pos) a:=yh ha
theorem yB {rest:List Expr}(ha:SE X sf C ea a)(hb:SE X sf C (.BoolOp .And (eb::rest) pos) b):SE X sf C (.BoolOp .And (ea::eb::rest) pos) (.and a b):=aw (ud ha hb) fun σ H Q h=>by
 obtain ⟨pv,Z,Fs,η,w,η',A,ev,k⟩:=AD σ H Q h
 exact ⟨pv,Z,Fs,η,w,η',A,ev,fun v Z' H' Fs' G B r s=>let ⟨c,t,q⟩:=k v Z' H' Fs' G B r s; ⟨c,iV t,q⟩⟩
theorem sBW (h:SE X sf C ea a):SE X sf C ea a:=h
theorem nL {K:a0a}:Loc K 1 .tuple h fun xs H Q=>∃ p ys,xs=[.ref p]/\((SqL K H p ys/\∀ l,H l=none->Q (.ref l) (upd H l (.tup ys)))\/(SqT K H p ys/\Q (.ref p) H)):=by
 intro ws w xs Z H G Q hn e r ow za k
 obtain ⟨⟨m,a⟩,rfl⟩:∃ a,ws=[a]:=by match ws,hn with | [a],_=>exact ⟨a,rfl⟩
 obtain ⟨x,rfl,r1⟩:=cX rfl r
 cases a with
 | lst ts =>
  obtain ⟨p,ys,rfl,hs,hl,q⟩:=bu r1
  cases e
  exact ⟨p,ys,rfl,.inl ⟨SqL.of hs,fun l hl'=>lD (m:=m.kid.up) (G':=G) ow (fun _ z=>z) hl (by rw [dw]; exact q.zmono fun _ z=>.inl z) k hl'⟩⟩
 | tup ts =>
  obtain ⟨p,ys,rfl,hs,hl,q⟩:=bN r1
  cases e
  exact ⟨p,ys,rfl,.inr ⟨hs,fO ow k r1⟩⟩
 | _=>cases e
theorem qB {p:Pos}(hm:X.mg "tuple"=none)(hg:Gl X "tuple":=by rfl)(ha:SE X sf C ea a)(hs:starEach [ea] X.env=(false,eval ea X.env)::starEach [] X.env:=by rfl)(hpl:(backTo pos (starEach [] X.env)).any (·.1)=false:=by rfl):SE X sf C (.Call (.Name "tuple" p) [ea] [] pos) (.op .tuple h [a]) :=
 aw (el gm hg hm a3C (slc ha sl0 hs) (by decide) (by decide) hs hpl) (lz nL rfl)
end
end MR

namespace MR
open PySem PySem.Spec PyProof.Rows L2 L3
end MR

namespace MR
open PySem PySem.Spec PyProof.Rows L2 L3
section
variable {X:Cx}{sf sg:Nat->Option Nat}{io:List Nat}{C:M.Call}{pos p2:Pos}{ea eb ec:Expr}{a b c:M.E}{h:Bool}{n:Nat}
theorem gH {K:a0a}{o p:M.Op}{g g':Int->Int->Bool}(inv:∀ {u v w:M.W},M.oSem o false [u,v]=some w->∃ m n i j,u=(m,.int i)/\v=(n,.int j)/\w=(.d,.bl (g i j)))(inv':∀ {u v w:M.W},M.oSem p false [u,v]=some w->∃ m n i j,u=(m,.int i)/\v=(n,.int j)/\w=(.d,.bl (g' i j)))
  (σ:L2.St) (H:Hp) (Q:VK) (hw:wE K sf C (.chain o p a b c) σ H Q):j3 (rI0 fun i j=>.bl (g i j)) (rI0 fun i j=>.bl (g' i j)) (wE K sf C a) (wE K sf C b) (wE K sf C c) σ H Q:=by
 obtain ⟨pv,Z,Fs,η,w,η',A,ev,k⟩:=hw
 obtain ⟨⟨x,η1⟩,h1,h2⟩:=aa (show (M.evE C a η).bind (M.kC1 o p (M.evE C b) (M.evE C c))=_ from ev)
 obtain ⟨⟨y,η2⟩,h3,h4⟩:=aa (show (M.evE C b η1).bind (M.kC2 o p (M.evE C c) x)=_ from h2)
 obtain ⟨⟨kk,η3⟩,h5,h6⟩:=aa (show (M.ret η2 (M.oSem o false [x,y])).bind (fun k=>M.onB k.1.2 (M.then' (M.evE C c) (M.kC3 p y)) (M.okW (.d,.bl false)) k.2)=_ from h4)
 obtain ⟨k',e5,e5'⟩:=ai h5
 cases e5'
 obtain ⟨m1,m2,i,j,rfl,rfl,rfl⟩:=inv e5
 have dr:∀ {Z:Fp} {H:Hp} {F Z1:Fp} {H1:Hp} {Fs1:Fps} {G1:Fp},Step Z H F Z1 H1 (fun a=>tot Fs1 a\/G1 a)->Step Z H F Z1 H1 (tot Fs1):=fun s=>s.mono (fun _ z=>z) fun _ z=>.inl z
 refine jr A h1 fun vx Z1 H1 Fs1 G1 A1 r1 _ s1 _=>?_
 have A1':=A1.bare
 refine jr A1' h3 fun vy Z2 H2 Fs2 G2 A2 r2 _ s2 _=>⟨i,j,r1,r2,g i j,rfl,?_⟩
 have A2':=A2.bare
 have s12:=(dr s1).trans (dr s2)
 have h6':M.onB (.bl (g i j)) (M.then' (M.evE C c) (M.kC3 p (m2,.int j))) (M.okW (.d,.bl false)) η2=.ok (w,η'):=h6
 cases hg:g i j with
 | true =>
  rw [hg] at h6'
  rw [if_pos rfl]
  obtain ⟨⟨z,η4⟩,h7,h8⟩:=aa (show (M.evE C c η2).bind (M.kC3 p (m2,.int j))=_ from h6')
  obtain ⟨z',e8,e8'⟩:=ai (show M.ret η4 (M.oSem p false [(m2,.int j),z])=_ from h8)
  cases e8'
  obtain ⟨n1,n2,i',j',e9,rfl,rfl⟩:=inv' e8
  cases e9
  refine jr A2' h7 fun vz Z3 H3 Fs3 G3 A3 r3 _ s3 _=>⟨j,j',r2,r3,?_⟩
  exact k _ Z3 H3 Fs3 no A3.bare rfl ((s12.trans (dr s3)).mono (fun _ z=>z) fun _ z=>z.elim id fun q=>q.elim)
 | false =>
  rw [hg] at h6'
  rw [if_neg a0l]
  cases h6'
  exact k _ Z2 H2 Fs2 no A2' rfl (s12.mono (fun _ z=>z) fun _ z=>z.elim id fun q=>q.elim)
theorem oO {o p:M.Op}{g g':Int->Int->Bool}(inv:∀ {u v w:M.W},M.oSem o false [u,v]=some w->∃ m n i j,u=(m,.int i)/\v=(n,.int j)/\w=(.d,.bl (g i j)))(inv':∀ {u v w:M.W},M.oSem p false [u,v]=some w->∃ m n i j,u=(m,.int i)/\v=(n,.int j)/\w=(.d,.bl (g' i j))) :
  ∀ η w η',M.evE C (.chain o p a b c) η=.ok (w,η')->∃ b,w.2=.bl b:=fun η w η' ev=>by
 obtain ⟨⟨x,η1⟩,h1,h2⟩:=aa (show (M.evE C a η).bind (M.kC1 o p (M.evE C b) (M.evE C c))=_ from ev)
 obtain ⟨⟨y,η2⟩,h3,h4⟩:=aa (show (M.evE C b η1).bind (M.kC2 o p (M.evE C c) x)=_ from h2)
 obtain ⟨⟨kk,η3⟩,h5,h6⟩:=aa (show (M.ret η2 (M.oSem o false [x,y])).bind (fun k=>M.onB k.1.2 (M.then' (M.evE C c) (M.kC3 p y)) (M.okW (.d,.bl false)) k.2)=_ from h4)
 obtain ⟨k',e5,e5'⟩:=ai h5
 cases e5'
 obtain ⟨m1,m2,i,j,rfl,rfl,rfl⟩:=inv e5
 have h6':M.onB (.bl (g i j)) (M.then' (M.evE C c) (M.kC3 p (m2,.int j))) (M.okW (.d,.bl false)) η2=.ok (w,η'):=h6
 cases hg:g i j with
 | true =>
  rw [hg] at h6'
  obtain ⟨⟨z,η4⟩,h7,h8⟩:=aa (show (M.evE C c η2).bind (M.kC3 p (m2,.int j))=_ from h6')
  obtain ⟨z',e8,e8'⟩:=ai (show M.ret η4 (M.oSem p false [(m2,.int j),z])=_ from h8)
  cases e8'
  obtain ⟨n1,n2,i',j',e9,rfl,rfl⟩:=inv' e8
  exact ⟨_,rfl⟩
 | false =>
  rw [hg] at h6'
  cases h6'
  exact ⟨_,rfl⟩
theorem vY (ha:SE X sf C ea a)(hb:SE X sf C eb b)(hc:SE X sf C ec c)(hm:lastMarks [.LtE,.LtE] [eb,ec]=false:=by with_unfolding_all rfl):SE X sf C (.Compare ea [.LtE,.LtE] [eb,ec] pos) (.chain .le .le a b c) :=
 aw (pb rH rH ha hb hc hm) (gH iW iW)
theorem mw (ha:SE X sf C ea a)(hb:SE X sf C eb b)(hc:SE X sf C ec c)(hm:lastMarks [.LtE,.Lt] [eb,ec]=false:=by with_unfolding_all rfl):SB X sf C (.Compare ea [.LtE,.Lt] [eb,ec] pos) (.chain .le .lt a b c) :=
 jw (qc rH w9 ha hb hc hm) fun σ H Q hw=>gH iW hV σ H _ (xq (oO iW hV) hw)
theorem lC {tg:Expr}(ha:SE X sf C ea a):PI X tg ea (wI X.K sf C 2 .sq2 [a]):=jt (mx ha) yD
theorem vp {u w:M.W}(e:M.oSem .len false [u]=some w):∃ n:Nat,w=(.d,.int n):=by
 obtain ⟨m,a⟩:=u
 cases a<;>first | (cases e; exact ⟨_,rfl⟩) | (cases e; done)
theorem D6 (j:Nat){i:Nat}{x:Str}{p px:Pos}(hm:X.mg "len"=none)(hg:Gl X "len":=by rfl)(hs:sf i=some j:=by rfl)(hN:X.N[j]?=some x:=by rfl)(hv:Vis X.env.scope x:=by first | exact a0E rfl | exact a0z (a0E rfl) | exact a0z (a0z rfl))(hd:(x==("__debug__":Str))=false:=by decide)
  (hcd:(x==("__classdict__":Str))=false:=by decide) (hst:starEach [.Name x px] X.env=(false,eval (.Name x px) X.env)::starEach [] X.env:=by rfl) (hpl:(backTo pos (starEach [] X.env)).any (·.1)=false:=by rfl):SE X sf C (.Call (.Name "len" p) [.Name x px] [] pos) (.lenV i) :=
 aw (cN jK hg hm a3u (aH (bB hN hv hd hcd) bO hst) (by decide) (by decide) hst hpl) fun σ H Q hw=>by
  obtain ⟨pv,Z,Fs,η,w,η',A,ev,k⟩:=hw
  obtain ⟨w',e1,e2⟩:=ai (show M.ret η ((M.rd η i).bind fun w=>M.oSem .len false [w])=_ from ev)
  cases e2
  cases e0:M.rd η i with
  | none=>rw [e0] at e1; cases e1
  | some w0 =>
   rw [e0] at e1
   have e1':M.oSem .len false [w0]=some w:=e1
   obtain ⟨n,rfl⟩:=vp e1'
   obtain ⟨v,r,hv'⟩:=A.env i w0.1 w0.2 e0
   obtain ⟨x',n',hx,hl,hq⟩:=i7 (K:=X.K) (h:=false) [w0] (.d,.int n) [v] Z H (Fs i) (fun v' _=>v'=.int n) rfl e1' (RepW.one r) (fun a ha=>A.gd.own a ⟨i,ha⟩) A.gd.zal (fun _ _ _ _ r _ _=>r)
   cases hx
   cases hq
   exact ⟨v,hv'.1 j hs,v,n,rfl,hl,k _ Z H Fs no A rfl ((Step.refl _ _ _).mono (fun _ z=>z) fun a ha=>ha.elim id fun z=>z.elim)⟩
end
end MR

namespace MR
open PySem PySem.Spec PyProof.Rows L2 L3
section
variable {X:Cx}{sf sg:Nat->Option Nat}{C:M.Call}{pos p2 p3:Pos}{ea eb ec:Expr}{a b c:M.E}{h:Bool}{n:Nat}{io:List Nat}
theorem sGc {x:Str}{i:Int}(hm:∃ t,X.mg x=some (.int i t))(hg:Gl X x:=by rfl)(hd:(x==("__debug__":Str))=false:=by decide):SE X sf C (.Name x pos) (.cst (.int i)):=by
 obtain ⟨t,hm⟩:=hm
 exact aw (mm (v:=.int i) hg hm ⟨t,rfl⟩ hd) (fA rfl)
noncomputable def wK (K:a0a)(H:Hp):List Nat->V->V->Prop
 | [],v,u=>u=v
 | j::p,v,u=>∃ a xs x,v=.ref a/\(SqL K H a xs\/SqT K H a xs)/\xs[j]?=some x/\wK K H p x u
noncomputable def wP (K:a0a)(sf:Nat->Option Nat)(i:Nat)(p:List Nat):TE:=fun σ H Q=>∃ j v u,sf i=some j/\σ[j]?=some (some v)/\wK K H p v u/\Q u H
noncomputable abbrev SP (X:Cx)(sf:Nat->Option Nat)(me:Expr)(i:Nat)(p:List Nat):Prop:=PE X me (wP X.K sf i p)
noncomputable def bQ (Fs:Fps)(i:Nat)(G:Fp):Fps:=fun l a=>(l=i/\G a)\/(l≠i/\Fs l a)
noncomputable def CstR (K:a0a)(t:M.T)(v:V):Prop:=∀ (Z:Fp) (H:Hp),Rep K Z H .s t v no
theorem cst_int {K:a0a}(i:Int):CstR K (.int i) (.int i):=fun _ _=>rfl
theorem cst_non {K:a0a}:CstR K .non .non:=fun _ _=>rfl
theorem cst_bl {K:a0a}(b:Bool):CstR K (.bl b) (.bl b):=fun _ _=>rfl
theorem cst_str {K:a0a}{x:Str}(h:M.sOk x=true):CstR K (.str x) (.str x):=fun _ _=>⟨rfl,h⟩
noncomputable def AF (K:a0a)(w:World)(mg:Str->Option Value)(x:Str)(tab:List (Str×M.T)):Prop :=
 ∃ a T,mg x=some (.ref a)/\DTab K w a T/\∀ z,match tab.lookup z with
  | some t=>∃ v,T.lookup z=some v/\CstR K t v
  | none=>T.lookup z=none
noncomputable def yX (K:a0a)(w:World)(mg:Str->Option Value)(x:Str)(ks:List Str):Prop:=∃ a T,mg x=some (.ref a)/\DTab K w a T/\∀ z,(T.lookup z).isSome=ks.contains z
theorem AK {K:a0a}{w:World}{ad:Addr}{T:List (Str×V)}{ks:List Str}{e:M.E}{neg:Bool}(D:DTab K w ad T)(ht:∀ z,(T.lookup z).isSome=ks.contains z)(σ:L2.St)(H:Hp)(Q:VK)(h:wE K sf C (.inT neg ks e) σ H Q) :
  wE K sf C e σ H fun x H1=>∃ z a T',x=.str z/\V.ref ad=.ref a/\DTab K w a T'/\Q (.bl ((T'.lookup z).isSome != neg)) H1:=by
 obtain ⟨pv,Z,Fs,η,w',η',A,ev,k⟩:=h
 obtain ⟨⟨u,η1⟩,h1,h2⟩:=aa (show (M.evE C e η).bind (M.kIn neg ks)=_ from ev)
 obtain ⟨z,e1,e2,e3⟩:=iz h2
 cases e2
 refine ⟨pv,Z,Fs,η,u,_,A,h1,fun y Z' H' Fs' G B r s=>?_⟩
 obtain ⟨m,t0⟩:=u
 cases (show t0=_ from e1)
 refine ⟨z,ad,T,r.1,rfl,D,?_⟩
 rw [ht z]
 refine k _ Z' H' Fs' no B.bare ?_ (s.mono (fun _ z=>z) fun a ha=>ha.elim .inl fun z=>z.elim)
 rw [show w'=_ from e3]; rfl
end
end MR

namespace MR
open PySem PySem.Spec PyProof.Rows L2 L3
section
variable {X:Cx}{sf:Nat->Option Nat}{C:M.Call}{me:Expr}{f:Nat}{bs:List M.E}
theorem BG (h:∀ ws,C f ws=.no):SE X sf C me (.call f bs):=fun pins s σ H Q I ⟨pv,Z,Fs,η,w,η',A,ev,k⟩=>by
 obtain ⟨⟨ws,η1⟩,h1,h2⟩:=aa (show (M.evA C bs η).bind (M.kCall C f (M.ios bs))=_ from ev)
 rw [show M.kCall C f (M.ios bs) (ws,η1)=(C f ws).bind (M.kBack (M.ios bs) η1) from rfl,h] at h2
 cases h2
end
theorem fsc {N P:List Str}{sc:Scope}(h1:sc.kind=.function:=by rfl)(h2:sc.isCoroutine=false:=by rfl)(h3:sc.isGenerator=false:=by rfl)(h4:N.Nodup:=by decide +kernel)(h5:N.take P.length=P:=by rfl)(h6:∀ x∈P,sc.names.lookup x=some .local\/sc.names.lookup x=some .cell:=by decide +kernel)(h7:∀ y∈sc.names,y.2≠.free:=by decide +kernel):ak N P sc:=⟨h1,h2,h3,h4,h5,h6,h7⟩
theorem csc {pre ys:List Str}{scope:Scope}(h1:scope.kind=.function:=by rfl)(h2:∀ y∈scope.names,y.2≠.cell:=by decide +kernel)(h3:∀ y∈scope.names,y.2=.local->scope.names.lookup y.1=some .local:=by decide +kernel)(h4:∀ x∈pre,scope.names.lookup x=some .local:=by decide +kernel)(h5:(pre++ys).Nodup:=by decide +kernel):aB pre ys scope:=⟨h1,h2,h3,h4,h5⟩
section
variable {P:Program}{w:World}{K:a0a}{mg:Str->Option Value}{base:Heap}{x:Str}{st:Stmt}{ps N:List Str}{n g:Nat}{io:List Nat}{C C':M.Call}{d:Value}{t:M.T}
structure Df (K:a0a)(mg:Str->Option Value)(x:Str)(st:Stmt)(ps:List Str):Prop where
 ex:∃ f fd,Fun K x x st f fd/\Binds K fd ps []/\mg x=some (.ref f)
theorem Df.ok (e:Df K mg x st ps)(h:∀ f fd,Fun K x x st f fd->bJ P w K mg base CX0 n f fd ps (spS K C g io)):ae P w K mg base n C x g io:=by
 obtain ⟨f,fd,F,b,m⟩:=e.ex
 exact ⟨f,fd,ps,h f fd F,m,F.kp,b⟩
theorem Df.z (e:Df K mg x st ps)(hC:∀ ws,C g ws=.no:=by intro _; rfl):ae P w K mg base n C x g io:=e.ok fun _ _ _=>fn0 hC
theorem Df.s (fn:M.Fn)(e:Df K mg x st ps)(S:ak N ps (defScope st))
  (hb:∀ {f:Addr} {cdv:Value} {A:Around} {outer:List Env} {s:Shared} {H:Hp} {E:XK},Room n (A.deeper (envOfC x (defScope st) s.heap.objs.size f cdv))->SSs (dY CX0 P w K mg base N x (defScope st) f cdv A outer s H E).nox (slN N.length) fn.io C (defBody st) fn.body)
  (hC:∀ ws,C' g ws=M.runF C fn ws:=by intro _; rfl) (hps:fn.ps=ps.length:=by rfl) (hle:ps.length<=N.length:=by decide) (nd:fn.io.Nodup:=by decide) (hio:∀ i∈fn.io,i < ps.length:=by decide):ae P w K mg base (n+1) C' x g fn.io :=
 e.ok fun _ _ F=>Fun.okM F S hps hle nd hio (fun _ _ _ _ _ _ h=>hb h) hC
noncomputable def Raw (K:a0a)(x:Str)(st:Stmt)(dV:Value):Prop:=∃ f oc od sl kV dc pm an cd ct,a1j K mainGlobals x=some (some (.ref f))/\K.lookup f=some ⟨oc,od,.func (a09 x x (defArgs st) (defBody st) (defScope st) dV kV dc pm an cd ct),sl⟩/\a2n K cd x=true/\a1k K (.ref f)=true
theorem bg {h:Heap}(X:K.In h)(G:h.Ns mainGlobals mg)(r:Raw K x st .none)(hb:∀ (kV doc pm:Value) (an:Option Addr) (cdv ct:Value) (us:List Value),us.length=ps.length->bindArgs (a09 x x (defArgs st) (defBody st) (defScope st) .none kV doc pm an cdv ct) ⟨us,[]⟩=pure (ps.zip us)):Df K mg x st ps:=by
 obtain ⟨f,oc,od,sl,kV,dc,pm,an,cd,ct,h1,h2,h3,h4⟩:=r
 have F:=rY (st:=st) h2 h3 h4
 exact ⟨f,_,F,F.binds hb,a0S X G h1⟩
noncomputable def Bv (K:a0a):List Str->Prop
 | []=>True
 | x::r=>a1j K mainGlobals x=some none/\Bv K r
theorem Ag {h:Heap}(X:K.In h)(G:h.Ns mainGlobals mg)(r:Bv K ["isinstance","int","tuple","list","bool","sum","len","all","zip","range","enumerate","any","max","min","sorted","str","repr","abs","dict","set","reversed"]):Txt mg:=by
 obtain ⟨z1,z2,z3,z4,z5,z6,z7,z8,z9,z10,z11,z12,z13,z14,z15,z16,z17,z18,z19,z20,z21,_⟩:=r
 have m:=fun {x:Str} (z:a1j K mainGlobals x=some none)=>PySem.W.mg_none_of X G z
 exact ⟨m z1,m z2,m z3,m z4,m z5,m z6,m z7,m z8,m z9,m z10,m z11,m z12,m z13,m z14,m z15,m z16,m z17,m z18,m z19,m z20,m z21⟩
noncomputable def TabRaw (K:a0a)(w:World)(x:Str)(T:List (Str×V)):Prop:=∃ a es n,a1j K mainGlobals x=some (some (.ref a))/\K.lookup a=some ⟨.type "dict",none,.dict es n,#[]⟩/\a3m w.params es.toList/\Paired (fun (p:Str×V) (e:DictEntry)=>(∃ t,e.key=.str p.1 t)/\RelV p.2 e.val) T es.toList/\(a==sysModules)=false
theorem TabRaw.tab {h:Heap}{T:List (Str×V)}(X:K.In h)(G:h.Ns mainGlobals mg)(r:TabRaw K w x T):∃ a,mg x=some (.ref a)/\DTab K w a T:=by
 obtain ⟨a,es,n,h1,h2,h3,h4,h5⟩:=r
 exact ⟨a,a0S X G h1,⟨es,n,h2,h3,h4⟩,h5⟩
theorem gG (z:Str):∀ T:List (Str×V),(T.lookup z).isSome=(T.map a2l).contains z
 | []=>rfl
 | (k,v)::T=>by
  rw [a0Y,a0A,a1i]
  cases z==k with
  | true=>rfl
  | false=>rw [gG z T]; rfl
theorem wj {h:Heap}{T:List (Str×V)}{ks:List Str}(X:K.In h)(G:h.Ns mainGlobals mg)(r:TabRaw K w x T)(hk:T.map a2l=ks):yX K w mg x ks:=by
 obtain ⟨a,h1,h2⟩:=r.tab X G
 exact ⟨a,T,h1,h2,fun z=>by rw [gG,hk]⟩
noncomputable def CstL (K:a0a):List (Str×M.T)->List (Str×V)->Prop
 | [],[]=>True
 | e::r,p::T=>(p.1=e.1/\CstR K e.2 p.2)/\CstL K r T
 | _,_=>False
theorem gB (z:Str):∀ {tab:List (Str×M.T)} {T:List (Str×V)},CstL K tab T->match tab.lookup z with
  | some t=>∃ v,T.lookup z=some v/\CstR K t v
  | none=>T.lookup z=none
 | [],[],_=>rfl
 | (k,t)::r,(k',v)::T,⟨⟨e,c⟩,q⟩=>by
  have e':k'=k:=e
  subst e'
  have ih:=gB z q
  rw [a0Y,a0Y]
  cases z==k' with
  | true=>exact ⟨v,rfl,c⟩
  | false=>exact ih
 | [],_::_,h=>h.elim
 | _::_,[],h=>h.elim
theorem tI {h:Heap}{T:List (Str×V)}{tab:List (Str×M.T)}(X:K.In h)(G:h.Ns mainGlobals mg)(r:TabRaw K w x T)(hc:CstL K tab T):AF K w mg x tab:=by
 obtain ⟨a,h1,h2⟩:=r.tab X G
 exact ⟨a,T,h1,h2,fun z=>gB z hc⟩
end
end MR

namespace MR
open PySem PySem.Spec PyProof.Rows L2 L3
section
variable {X:Cx}{sf sg:Nat->Option Nat}{C:M.Call}{pos p p2 p3:Pos}{ea eb ec:Expr}{a b c:M.E}{h:Bool}{n:Nat}{io:List Nat}{K:a0a}
theorem u5:Loc K 1 .int h fun xs H Q=>(∃ i,xs=[.int i]/\Q (.int i) H)\/∃ k,xs=[.bl k]/\Q (.int (if k then 1 else 0)) H:=by
 intro ws w xs Z H G Q hn e r ow za k
 match ws,hn with
 | [(m,a)],_ =>
  obtain ⟨x,rfl,r1⟩:=cX rfl r
  cases a with
  | int i=>cases e; exact .inl ⟨i,by rw [show x=_ from r1],aW k⟩
  | bl b=>cases e; exact .inr ⟨b,by rw [show x=_ from r1],by cases b<;>exact aW k⟩
  | _=>cases e
theorem A7 (hm:X.mg "int"=none)(hg:Gl X "int":=by rfl)(ha:SE X sf C ea a)(hs:starEach [ea] X.env=(false,eval ea X.env)::starEach [] X.env:=by rfl)(hpl:(backTo pos (starEach [] X.env)).any (·.1)=false:=by rfl):SE X sf C (.Call (.Name "int" p) [ea] [] pos) (.op .int h [a]) :=
 aw (el nE hg hm a2J (slc ha sl0 hs) (by decide) (by decide) hs hpl) (lz u5 rfl)
theorem dS {Z:Fp}{H:Hp}{G:Fp}{m:M.Md}{t:M.T}{x:V}(hf:M.flatT t=true)(r:Rep K Z H m t x G):dg x=true/\∀ (u:M.T) (y:V) {m':M.Md} {G':Fp},M.flatT u=true->Rep K Z H m' u y G'->eqV y x=M.eqT u t:=by
 cases t with
 | non=>cases r; refine ⟨rfl,fun u y m' G' hu ru=>?_⟩; cases u<;>first | (cases ru; rfl) | (obtain ⟨e,_⟩:=ru; cases e; rfl) | cases hu
 | bl b=>cases r; refine ⟨rfl,fun u y m' G' hu ru=>?_⟩; cases u<;>first | (cases ru; rfl) | (cases ru; cases b<;>rfl) | (obtain ⟨e,_⟩:=ru; cases e; rfl) | cases hu
 | int i=>cases r; refine ⟨rfl,fun u y m' G' hu ru=>?_⟩; cases u with
  | bl c=>cases ru; cases c<;>rfl
  | _=>first | (cases ru; rfl) | (obtain ⟨e,_⟩:=ru; cases e; rfl) | cases hu
 | str z=>obtain ⟨e,_⟩:=r; cases e; refine ⟨rfl,fun u y m' G' hu ru=>?_⟩; cases u<;>first | (cases ru; rfl) | (obtain ⟨e,_⟩:=ru; cases e; rfl) | cases hu
 | _=>cases hf
theorem k7 {Z:Fp}{H:Hp}{G:Fp}{m:M.Md}{t:M.T}{x:V}(hf:M.flatT t=true)(r:Rep K Z H m t x G):∀ {ts:List M.T} {xs:List V} {m':M.Md} {G':Fp},ts.all M.flatT=true->RepL K Z H m' ts xs G'->xs.all dg=true/\L2.inV x xs=ts.any fun u=>M.eqT u t
 | [],_,_,_,_,h=>by cases h; exact ⟨rfl,rfl⟩
 | u::ts,_,m',_,hl,⟨y,ys,G1,G2,e,_,_,_,q,qs⟩=>by
  cases e
  rw [a1O,a0d] at hl
  obtain ⟨h1,h2⟩:=k7 hf r hl.2 qs
  refine ⟨by rw [a1O,(dS hl.1 q).1,h1]; rfl,?_⟩
  show (eqV y x || L2.inV x ys)=_
  rw [a1C,h2,(dS hf r).2 u y hl.1 q]
theorem ph {neg:Bool}{u v w:M.W}{o:M.Op}(ho:o=if neg then .notin else .isin)(e:M.oSem o h [u,v]=some w):∃ ts,M.elems v=some ts/\M.flatT u.2=true/\ts.all M.flatT=true/\w=(.d,.bl (if neg then !ts.any (fun t=>M.eqT t u.2) else ts.any fun t=>M.eqT t u.2)):=by
 obtain ⟨m,a⟩:=u; obtain ⟨n,b⟩:=v
 subst ho
 cases neg with
 | true =>
  obtain ⟨ts,h1,h2⟩:=a1S.mp (show (M.elems (n,b)).bind (fun ts=>if (M.flatT a&&ts.all M.flatT)=true then some ((.d,.bl (!ts.any fun t=>M.eqT t a)):M.W) else none)=some w from e)
  split at h2
  ·rename_i hh; rw [a0d] at hh; cases h2; exact ⟨ts,h1,hh.1,hh.2,rfl⟩
  ·cases h2
 | false =>
  obtain ⟨ts,h1,h2⟩:=a1S.mp (show (M.elems (n,b)).bind (fun ts=>if (M.flatT a&&ts.all M.flatT)=true then some ((.d,.bl (ts.any fun t=>M.eqT t a)):M.W) else none)=some w from e)
  split at h2
  ·rename_i hh; rw [a0d] at hh; cases h2; exact ⟨ts,h1,hh.1,hh.2,rfl⟩
  ·cases h2
theorem qY (neg:Bool){o:M.Op}(ho:o=if neg then .notin else .isin):Loc K 2 o h fun xs H Q=>∀ x y,xs=[x,y]->rIn K neg x y H Q:=by
 intro ws w xs Z H G Q hn e r ow za k x y hx
 subst hx
 obtain ⟨⟨m,a⟩,⟨n,b⟩,rfl⟩:=eP r.length.symm
 obtain ⟨G1,G2,w1,w2,d,r1,r2⟩:=cI r
 obtain ⟨ts,e1,e2,e3,rfl⟩:=ph ho e
 cases b with
 | lst us =>
  cases e1
  obtain ⟨p,xs,rfl,hs,hl,q⟩:=bu r2
  obtain ⟨f1,f2⟩:=k7 e2 r1 e3 q
  refine ⟨p,xs,rfl,.inl (.inl (.inl hs)),(dS e2 r1).1,f1,?_⟩
  rw [f2]
  exact bH k
 | tup us =>
  cases e1
  obtain ⟨p,xs,rfl,hs,hl,q⟩:=bN r2
  obtain ⟨f1,f2⟩:=k7 e2 r1 e3 q
  refine ⟨p,xs,rfl,.inr hs,(dS e2 r1).1,f1,?_⟩
  rw [f2]
  exact bH k
 | _=>cases e1
theorem xy (ha:SE X sf C ea a)(hb:SE X sf C eb b)(hm:behindInMarks .In eb=false:=by rfl):SE X sf C (.Compare ea [.In] [eb] pos) (.op .isin h [a,b]):=aw (eT gO ha hb hm) (aQ (qY false rfl))
theorem pB (ha:SE X sf C ea a)(hb:SE X sf C eb b)(hm:behindInMarks .In eb=false:=by rfl):SB X sf C (.Compare ea [.In] [eb] pos) (.op .isin h [a,b]):=dQ gO ha hb hm (aQ (qY false rfl)) fun u v w e=>by obtain ⟨_,_,_,_,rfl⟩:=ph (neg:=false) rfl e; exact ⟨_,rfl⟩
end
end MR
namespace MR
open PySem PySem.Spec PyProof.Rows L2 L3
end MR
namespace MR
open PySem PySem.Spec PyProof.Rows L2 L3
end MR
namespace MR
open PySem PySem.Spec PyProof.Rows L2 L3
end MR
namespace MR
open PySem PySem.Spec PyProof.Rows L2 L3
section
variable {X:Cx}{sf sg:Nat->Option Nat}{C:M.Call}{pos p p2 p3:Pos}{ea eb ec:Expr}{a b c:M.E}{h:Bool}{io:List Nat}{K:a0a}
theorem yJ {neg:Bool}{ks:List Str}{σ:L2.St}{H:Hp}{Q:Bool->Hp->Prop}(hw:wT K sf C (.inT neg ks a) σ H Q):wE K sf C (.inT neg ks a) σ H fun x H'=>∃ k,x=.bl k/\Q k H':=by
 obtain ⟨pv,Z,Fs,η,w,η',b,A,ev,ht,k⟩:=hw
 refine ⟨pv,Z,Fs,η,w,η',A,ev,fun v Z' H' Fs' G B r s=>?_⟩
 obtain ⟨⟨u,η1⟩,h1,h2⟩:=aa (show (M.evE C a η).bind (M.kIn neg ks)=_ from ev)
 obtain ⟨z,e1,e2,e3⟩:=iz h2
 rw [show w=_ from e3] at ht r
 cases ht
 exact ⟨_,r,k Z' H' Fs' B.bare (s.mono (fun _ z=>z) fun _ z=>.inl z)⟩
theorem FN {x:Str}{ks:List Str}(T:yX X.K X.w X.mg x ks)(ha:SE X sf C ea a)(hg:Gl X x:=by rfl)(hd:(x==("__debug__":Str))=false:=by decide)(hb:behindInMarks .In (.Name x p2)=false:=by rfl):SB X sf C (.Compare ea [.In] [.Name x p2] pos) (.inT false ks a):=by
 obtain ⟨ad,T',hm,D,ht⟩:=T
 refine jw (my om ha (iq hg hm hd) hb) fun σ H Q hw=>?_
 obtain ⟨pv,Z,Fs,η,w',η',A,ev,k⟩:=AK D ht σ H _ (yJ hw)
 refine ⟨pv,Z,Fs,η,w',η',A,ev,fun v Z' H' Fs' G B r s=>?_⟩
 obtain ⟨z,a,T2,e1,e2,e3,q⟩:=k v Z' H' Fs' G B r s
 rw [a2S] at q
 exact ⟨z,a,T2,e1,e2,e3,q⟩
end
end MR

namespace MR
open PySem PySem.W L2 M
noncomputable def CstRs (K:a0a)(ts:List M.T)(xs:List V):Prop:=∀ (Z:Fp) (H:Hp),RepL K Z H .s ts xs no
theorem cst_nil {K:a0a}:CstRs K [] []:=fun _ _=>rfl
theorem cst_cons {K:a0a}{t:M.T}{ts:List M.T}{x:V}{xs:List V}(h:CstR K t x)(r:CstRs K ts xs):CstRs K (t::ts) (x::xs):=fun Z H=>⟨x,xs,no,no,rfl,fun _ h=>h,fun _ h=>h,fun _ h=>h.elim,h Z H,r Z H⟩
theorem cst_tup {K:a0a}{ts:List M.T}{xs:List V}{a:Addr}{o:Obj}{its:Array Value}{n:Nat}(h:K.lookup a=some o)(hc:o.cls=.type "tuple")(hd:o.data=.seq its n)(hs:its.size<=sizeLine)(hv:Vals xs its.toList)(hl:xs.length<=LIM)(r:CstRs K ts xs):CstR K (.tup ts) (.ref a):=fun Z H=>⟨a,xs,rfl,.inr ⟨o,its,n,h,hc,hd,hs,hv⟩,hl,r Z H⟩
end MR

namespace MR
open PySem PySem.Spec PyProof.Rows L2 L3 M
end MR

namespace L3
open PySem PySem.Spec PyProof.Rows L2
end L3
namespace MR
open PySem PySem.Spec PyProof.Rows L2 L3
end MR

namespace L3
open PySem PySem.Spec PyProof.Rows L2
end L3
namespace MR
open PySem PySem.Spec PyProof.Rows L2 L3
end MR

namespace L3
open PySem PySem.Spec PySem.NumText PyProof.Rows L2
theorem Bf {i:Int}(h:i.natAbs < 10000000000000000000):i.natAbs.log2 < 1920:=by
 by_cases h0:i.natAbs=0
 ·rw [h0]; decide
 ·exact a0i ((Nat.log2_lt h0).mpr (show i.natAbs < 2 ^ 64 from a0i h (by decide))) (by decide)
theorem sA {n:Int}(h:n.natAbs < 10000000000000000000):(Str.ofString (toString n)).length<=20:=by
 have h2:=int_text_length_le10 (a:=n) (k:=19) (by decide) h
 have:(Str.ofString (toString n)).length=(toString n).length:=by
  show (Str.ofString (toString n)).cps.size=_
  rw [<- a1t,signs_ofString,a0b,a2P]
 omega
end L3
namespace MR
open PySem PySem.Spec PyProof.Rows L2 L3
end MR

namespace L3
open PySem PySem.Spec PyProof.Rows L2
end L3
namespace MR
open PySem PySem.Spec PyProof.Rows L2 L3
theorem slx {X:Cx}{sf:Nat->Option Nat}{C:M.Call}{ea:Expr}{a:M.E}{es:List Expr}{bs:List M.E}(ha:SE X sf C ea a)(hb:SL X sf C es bs)(hs:starEach (ea::es) X.env=(false,eval ea X.env)::starEach es X.env):SL X sf C (ea::es) (a::bs):=slc ha hb hs
theorem sTx {X:Cx}{sf:Nat->Option Nat}{C:M.Call}{pos:Pos}{es:List Expr}{bs:List M.E}{x1:Nat}(hn:bs.length<=M.LIM)(h:SL X sf C es bs):SE X sf C (.Tuple es x1 pos) (.tup bs):=sT h hn
theorem sLx {X:Cx}{sf:Nat->Option Nat}{C:M.Call}{pos:Pos}{h:Bool}{es:List Expr}{bs:List M.E}(hn:bs.length<=M.LIM)(hh:SL X sf C es bs):SE X sf C (.List es pos) (.lst h bs):=sLs hh hn
theorem bA {X:Cx}{sf:Nat->Option Nat}{C:M.Call}{pos:Pos}{h:Bool}{ea eb:Expr}{a b:M.E}(ha:SE X sf C ea a)(hb:SE X sf C eb b)(hs:eZ eb):SE X sf C (.Subscript ea eb pos) (.op .ix h [a,b]):=sIx ha hb hs
theorem aj {X:Cx}{sf:Nat->Option Nat}{C:M.Call}{ea:Expr}{a:M.E}{es:List Expr}{bs:List M.E}(ha:SE X sf C ea a)(hb:SA X sf C es bs)(he:∀ i,a≠.io i)(hs:starEach (ea::es) X.env=(false,eval ea X.env)::starEach es X.env):SA X sf C (ea::es) (a::bs):=sac ha hb he hs
end MR

namespace TP
open PySem PySem.W
noncomputable def en (P:Params)(k:Str)(t:Nat)(v:Value):DictEntry:=⟨PyData.keyHash P k,.str k t,v⟩
noncomputable def tu (xs:List Value):Obj:=⟨.type "tuple",none,.seq xs.toArray 0,#[]⟩
noncomputable def fe (xs:List Value):Obj:=⟨.none,none,.fields xs.toArray,#[]⟩
noncomputable def di (es:List DictEntry)(n:Nat):Obj:=⟨.type "dict",none,.dict es.toArray n,#[]⟩
noncomputable abbrev fl:Str:="/claim/cut.py"
noncomputable def iv (i:Int):Value:=.int i 0
noncomputable def cdo (n q:Str)(t t2:Nat)(ln ac:Nat)(f:Nat)(a:Nat)(b:Bool)(x y z:Value):Obj :=
 ⟨.type "code",none,.fields #[.str n t,.str q (t+1),.str fl (t+2),iv ln,iv ac,iv 0,iv 0,iv f,.ref a,.bool b,iv 181,.ref (a+1),.none,x,y,z,iv t2,iv ln,.str fl (t2+1)],#[]⟩
noncomputable def ofn (c:Value)(st:Stmt)(q:Str)(g:Nat)(d m:Value)(cd:Value):Obj:=match st with
 | .FunctionDef n ar b _ _ _ sc _ _ _=>⟨c,none,.func { name:=n,qualname:=q,params:=ar,body:=.stmts b,scope:=sc,globals:=g,closure:=[],defaults:=d,kwdefaults:=.none,pyModule:=m,code:=cd },#[]⟩
 | _=>default
noncomputable def tks:List Str->Nat->List Value
 | [],_=>[]
 | x::r,t=>.str x t::tks r (t+1)
structure R where
 os:List Obj
 ns:List DictEntry
 tb:List Value
 n:Nat
 tk:Nat
 md:Value
inductive Rc where
 | d | m | c
 | x (k:Str) (kt:Nat) (v:Value) (os:Params->List Obj) (tb:List Value) (n tk:Nat)
noncomputable def cv:Expr->Value
 | .Constant (.bool b) _ _=>.bool b
 | _=>.none
noncomputable def dO (P:Params)(n tk:Nat)(md:Value)(st:Stmt):R:=match st with
 | .FunctionDef nm ar b _ _ _ sc _ _ pos =>
  let pr:List Obj×Value×Nat:=match ar.defaults with
   | []=>([],.none,n)
   | ds=>([tu (ds.map cv)],.ref n,n+1)
  let a:=pr.2.2
  match localNames ar sc (.stmts b) with
  | none=>⟨pr.1++[tu [],fe [],ofn .none st nm 0 .none .none .none,cdo nm nm tk (tk+3) pos.line ar.args.length 3 a true .none .none (.ref (a+2)),ofn (.type "function") st nm 3 pr.2.1 md (.ref (a+3))],
    [en P nm (tk+5) (.ref (a+4))],[iv pos.line,iv pos.col,.ref (a+3)],a+5,tk+6,md⟩
  | some l =>
   let k:=l.1.length
   let j:=l.2.length
   ⟨pr.1++[tu [],fe [],tu (tks l.1 (tk+3)),tu (tks l.2 (tk+3+k)),ofn .none st nm 0 .none .none .none,cdo nm nm tk (tk+3+k+j) pos.line ar.args.length 3 a true (.ref (a+2)) (.ref (a+3)) (.ref (a+4)),ofn (.type "function") st nm 3 pr.2.1 md (.ref (a+5))],
    [en P nm (tk+5+k+j) (.ref (a+6))],[iv pos.line,iv pos.col,.ref (a+5)],a+7,tk+6+k+j,md⟩
 | _=>⟨[],[],[],n,tk,md⟩
noncomputable def one (P:Params)(n tk:Nat)(md:Value)(st:Stmt):Rc->R
 | .d=>dO P n tk md st
 | .m=>match st with
  | .Assign _ (.Constant (.str s) _ _) _=>⟨[],[],[],n,tk+2,.str s tk⟩
  | _=>⟨[],[],[],n,tk,md⟩
 | .c=>match st with
  | .Assign (.Name x _::_) (.Constant (.str s) _ _) _=>⟨[],[en P x (tk+1) (.str s tk)],[],n,tk+2,md⟩
  | .Assign (.Name x _::_) (.Constant (.int i) _ _) _=>⟨[],[en P x (tk+1) (.int i tk)],[],n,tk+2,md⟩
  | _=>⟨[],[],[],n,tk,md⟩
 | .x k kt v os tb n' tk'=>⟨os P,[en P k kt v],tb,n',tk',md⟩
noncomputable def go (P:Params):List (Stmt×Rc)->Nat->Nat->Value->List R
 | [],_,_,_=>[]
 | (st,r)::l,n,tk,md=>let x:=one P n tk md st r
  x::go P l x.n x.tk x.md
noncomputable def Ck (x:R):List R->R
 | []=>x
 | y::l=>Ck y l
noncomputable def ds:Data->List DictEntry
 | .dict es _=>es.toList
 | _=>[]
noncomputable def ep:Data->Nat
 | .dict _ n=>n
 | _=>0
noncomputable def r0:R:=⟨[],[],[],15,187,.str "__main__" 164⟩
noncomputable def rs (P:Params)(l:List (Stmt×Rc)):List R:=go P l 15 187 (.str "__main__" 164)
noncomputable def o3 (P:Params)(l:List R):Obj:=di (en P "__name__" 165 (Ck r0 l).md::((ds (boot_o_3 P).data).tail++l.flatMap R.ns)) (ep (boot_o_3 P).data+(l.flatMap R.ns).length)
noncomputable def os (P:Params)(l:List R):List Obj :=
 boot_o_0 P::boot_o_1 P::boot_o_2 P::o3 P l::boot_o_4 P::boot_o_5 P::boot_o_6 P::boot_o_7 P::boot_o_8 P::boot_o_9 P::boot_o_10 P ::
 tu []::fe (l.flatMap R.tb)::cdo "<module>" "<module>" 182 185 1 0 0 11 false .none .none .none ::
 ⟨.type "frame",none,.plain,#[some (.ref 13),some (.ref 3),some (.ref 3),none,some (.str "__main__" 164),none,some (.ref 0)]⟩::l.flatMap R.os
noncomputable def odd {α:Type}:List α->List α×List α
 | []=>([],[])
 | x::l=>(x::(odd l).2,(odd l).1)
noncomputable def bt:Nat->List Obj->BT
 | 0,_=>.nil
 | _+1,[]=>.nil
 | k+1,x::l=>.node x (bt k (odd l).1) (bt k (odd l).2)
noncomputable abbrev p0:Pos:=⟨0,0,0,0⟩
noncomputable abbrev B0:List Frame:=[topFrame p0]
noncomputable abbrev an:Option Value:=some (.ref 6)
noncomputable def ev (p:Program):Env:={ scope:=p.main.scope,locals:=mainNs,globals:=mainNs,cells:=[],code:=.ref 13,frame:=some 14 }
noncomputable def cE (p:Program):Code:=.body (behindTheImports p) (ev p)
noncomputable def sT (p:Program)(rc:List Rc)(P:Params)(m n tk:Nat)(o:OsState):SharedT:=⟨bt 12 (os P (rs P ((p.main.body.zip rc).take m))),n,{},#[],{},tk,o⟩
noncomputable def hp (p:Program)(rc:List Rc)(m n:Nat)(P:Params):Heap:=absHeap (bt 12 (os P (rs P ((p.main.body.zip rc).take m)))) n {}
noncomputable def Cut (p:Program)(rc:List Rc)(i n t:Nat)(ps:Pos)(k N n' t':Nat)(ps':Pos)(w:World):Prop:=∀ o,segRunT treeTable p w 11 an 1 N (sT p rc w.params i n t o) (piecesOf ((p.main.body.drop i).take k) (ev p) (cE p) ps B0)=some (.next,sT p rc w.params (i+k) n' t' o,cE p,ps')
noncomputable def Ch (p:Program)(rc:List Rc)(m n1 t1:Nat)(i n t:Nat)(ps:Pos)(M:Nat):Prop:=∀ w o,topRun treeTable p w 11 an M (sT p rc w.params i n t o).abs (restOf (p.main.body.drop i) (ev p) (cE p) ps B0)=some (sT p rc w.params m n1 t1 o).abs
theorem cQ {p:Program}{rc:List Rc}{m n1 t1 i n t k N n' t' M:Nat}{ps ps':Pos}(c:∀ w,Cut p rc i n t ps k N n' t' ps' w)(h:Ch p rc m n1 t1 (i+k) n' t' ps' M):Ch p rc m n1 t1 i n t ps (N+M):=fun w o=>by
 have x:=piece_app (segRun_of (c w o)) (h w o)
 rw [<- a3v,List.take_append_drop] at x
 exact x
theorem yy {p:Program}{rc:List Rc}{m n1 t1:Nat}{ps:Pos}(hd:p.main.body.drop m=[]):Ch p rc m n1 t1 m n1 t1 ps 2:=fun w o=>by
 rw [hd]
 exact piece_nil rfl
theorem vX (w:World):((boot_heap w.params).isNs mainGlobals&&(a3D []:Array GenState).size==0,(boot_heap w.params).objs.size,(boot_heap w.params).nsMap mainGlobals "__annotations__")=(true,11,an):=by kernel_rfl
theorem vS {p q:Program}{loose:List Str}{Xt:Shared->Bool}{α:Type}{Yf:Shared->α}{Ya:World->α}{N M m n1 t1:Nat}{rc:List Rc}
  (e:opening p=plainProg p.main.scope.names) (hN:Nat.ble 600 N=true) (f:∀ s,fenceModules? p s=some s) (hb:behindTheImports p=p.main.body)
  (size:∀ w:World,((boot_heap w.params).isNs mainGlobals&&(a3D []:Array GenState).size==0,(boot_heap w.params).objs.size,(boot_heap w.params).nsMap mainGlobals "__annotations__")=(true,11,an))
  (pre:∀ (w:World) (o:OsState),topGo treeTable p w 11 an 12 ⟨boot_heap w.params,a3D [],boot_drawn,boot_toks,o⟩ (topStub p)=some ((sT p rc w.params 0 15 187 o).abs,⟨denote treeTable (cE p),cE p,p0,B0⟩))
  (blk:∀ (w:World) (o:OsState),segRun treeTable p w 11 an 1 1 (sT p rc w.params 0 15 187 o).abs (blockOf (behindTheImports p) (ev p) (cE p) p0 B0)=some (.next,(sT p rc w.params 0 15 187 o).abs,cE p,p0))
  (ch:Ch p rc m n1 t1 0 15 187 p0 M) (le:Nat.ble (12+(1+M)) N=true)
  (looks:∀ w:World,(fun o=>((staticsOk (importedModules p.main.body) (boot_heap w.params) (hp p rc m n1 w.params)&&namesBound p (hp p rc m n1 w.params)&&gensDone ⟨hp p rc m n1 w.params,#[],{},t1,o⟩&&laidKept (boot_heap w.params) (hp p rc m n1 w.params)),
    openSeen q loose (importedModules p.main.body) Xt true ⟨hp p rc m n1 w.params,#[],{},t1,o⟩,Yf ⟨hp p rc m n1 w.params,#[],{},t1,o⟩))=fun _=>(true,openGood q loose,Ya w)):LeftO p q loose Xt Yf Ya N :=
 LeftO.of_pieces (H₀:=boot_heap) (H₁:=hp p rc m n1) (gs₁:=#[]) (d₁:={}) (k₁:=t1) (boot_open e hN f) size
  (fun w o=>go_top (pre w o) (piece_block (blk w o) (by have x:=ch w o; rw [a1w,<- hb] at x; exact x))) le looks
noncomputable def cb (st:Stmt)(j:Nat):Stmt:=match st with
 | .ClassDef _ _ _ b _ _ _ _ _ _ _=>b.getD j st
 | _=>st
noncomputable def drec (st:Stmt):PySem.DefRec:=match st with
 | .FunctionDef n a b _ _ _ sc _ _ pos=>⟨n,a,b,sc,pos⟩
 | _=>⟨default,default,[],default,default⟩
theorem eU {α:Type}:∀ (l:List α) (i:Nat),(odd l).1[i]?=l[2 * i]?/\(odd l).2[i]?=l[2 * i+1]?
 | [],i=>by simp [odd]
 | x::l,i=>by
  refine ⟨?_,?_⟩
  ·cases i with
   | zero=>simp [odd]
   | succ j=>rw [show 2 * (j+1)=2 * j+1+1 by omega]; simp only [odd,a0w]; exact (eU l j).2
  ·simp only [odd,a0w]; exact (eU l i).1
theorem mf {α:Type}:∀ (l:List α),(odd l).1.length=(l.length+1) / 2/\(odd l).2.length=l.length / 2
 | []=>by simp [odd]
 | x::l=>by
  have h:=mf l
  simp only [odd,a0g,h.1,h.2]
  exact ⟨by omega,trivial⟩
theorem j9:∀ (k:Nat) (l:List Obj) (a:Nat),l.length < 2 ^ k->(bt k l).get a=l[a]?
 | 0,l,a,h=>by
  have:l=[]:=a1u.mp (by simpa using h)
  subst this; simp [bt,BT.get]
 | k+1,[],a,h=>by simp [bt,BT.get]
 | k+1,x::l,a,h=>by
  have e:2 ^ (k+1)=2 * 2 ^ k:=by rw [a3P]; omega
  have hl:=mf l
  simp only [a0g] at h
  unfold bt
  rw [BT.get_node]
  by_cases h0:a=0
  ·simp [h0]
  ·rw [if_neg h0]
   by_cases h1:a % 2=1
   ·rw [if_pos h1,j9 k _ _ (by omega),(eU l (a / 2)).1]
    obtain ⟨b,rfl⟩:∃ b,a=b+1:=⟨a-1,by omega⟩
    rw [a0w]; congr 1; omega
   ·rw [if_neg h1,j9 k _ _ (by omega),(eU l (a / 2-1)).2]
    obtain ⟨b,rfl⟩:∃ b,a=b+1:=⟨a-1,by omega⟩
    rw [a0w]; congr 1; omega
noncomputable def lL (p:Program)(rc:List Rc)(m:Nat)(P:Params):List Obj:=os P (rs P ((p.main.body.zip rc).take m))
noncomputable def kK (p:Program)(rc:List Rc)(m:Nat)(as:List Addr)(P:Params):Frag:=as.map fun a=>(a,(lL p rc m P).getD a default)
noncomputable def okO:Option Obj->Bool
 | some ⟨_,_,.freed,_⟩=>false
 | some _=>true
 | none=>false
theorem l9 {p:Program}{rc:List Rc}{m:Nat}{P:Params}{a:Addr}{o:Obj}:∀ {as:List Addr},(kK p rc m as P).lookup a=some o->a∈as/\o=(lL p rc m P).getD a default
 | [],h=>by simp [kK] at h
 | b::as,h=>by
  unfold kK at h
  rw [a0A,a0Y] at h
  by_cases e:a=b
  ·subst e
   rw [beq_self_eq_true] at h
   exact ⟨a0k ..,(a0u h).symm⟩
  ·rw [beq_false_of_ne e] at h
   have x:=l9 (as:=as) h
   exact ⟨a0f _ x.1,x.2⟩
noncomputable def hkk (p:Program)(rc:List Rc)(m n:Nat):Hook where
 α:=Array Obj
 obs s:=s.heap.objs
 val w:=(hp p rc m n w.params).objs
 says w h:=∀ a o,(hp p rc m n w.params).get? a=some o->h.get? a=some o
 of w s e a o x:=by unfold Heap.get? at *; rw [e]; exact x
 keeps w h h' X k a o x:=k _ _ (X a o x)
theorem Em {p:Program}{rc:List Rc}{m n:Nat}{as:List Addr}{w:World}{h:Heap}(hl:Nat.blt (lL p rc m w.params).length 4096=true)(hc:(as.all fun a=>Nat.blt a n&&okO (lL p rc m w.params)[a]?)=true)
  (Y:(hkk p rc m n).says w h):(kK p rc m as w.params).In h:=fun a o e=>by
 obtain ⟨e1,e2⟩:=l9 e
 obtain ⟨c1,c2⟩:=a0D.mp (a19.mp hc a e1)
 refine Y a o ?_
 have c3:a < n:=a18 c1
 have c4:(lL p rc m w.params).length < 2 ^ 12:=a18 hl
 have g:=j9 12 (lL p rc m w.params) a c4
 unfold hp Heap.get?
 rw [absHeap_at,if_pos c3]
 show (match some (((bt 12 (lL p rc m w.params)).get a).getD default) with | some ⟨_,_,.freed,_⟩=>none | o=>o)=some o
 rw [g]
 rw [a0p] at e2
 rw [<- e2]
 cases q:(lL p rc m w.params)[a]? with
 | none=>rw [q] at c2; cases c2
 | some x =>
  rw [q] at c2 e2
  have e3:o=x:=e2
  subst e3
  obtain ⟨_,_,d,_⟩:=o
  cases d<;>first | rfl | cases c2
noncomputable def pmO:Option Obj->Value
 | some ⟨_,_,.func f,_⟩=>f.pyModule
 | _=>.none
noncomputable def rfO:Option (Option Value)->Nat
 | some (some (.ref a))=>a
 | _=>0
noncomputable def tkO:Option (Option Value)->Nat
 | some (some (.int _ t))=>t
 | some (some (.str _ t))=>t
 | _=>0
theorem raw_mk {K:Frag}{x:Str}{st:Stmt}{dV:Value}(h1:nsIn K mainGlobals x=some (some (.ref (rfO (nsIn K mainGlobals x)))))
  (h2:K.lookup (rfO (nsIn K mainGlobals x))=some ⟨.type "function",none,.func (fnOf x x (L2.defArgs st) (L2.defBody st) (L2.defScope st) dV .none .none (pmO (K.lookup (rfO (nsIn K mainGlobals x)))) none (.ref (rfO (nsIn K mainGlobals x)-1)) .none),#[]⟩)
  (h3:codeIn K (.ref (rfO (nsIn K mainGlobals x)-1)) x=true) (h4:keepIn K (.ref (rfO (nsIn K mainGlobals x)))=true):MR.Raw K x st dV:=⟨_,_,_,_,_,_,_,_,_,_,h1,h2,h3,h4⟩
noncomputable def toV:Value->L2.V
 | .bool b=>.bl b
 | .int i _=>.int i
 | .str s _=>.str s
 | .ref a=>.ref a
 | _=>.non
noncomputable def okV:Value->Bool
 | .none=>true
 | .bool _=>true
 | .int _ _=>true
 | .str _ _=>true
 | .ref _=>true
 | _=>false
theorem lV:∀ {v:Value},okV v=true->L2.RelV (toV v) v
 | .none,_=>rfl
 | .bool _,_=>rfl
 | .int _ _,_=>⟨_,rfl⟩
 | .str _ _,_=>⟨_,rfl⟩
 | .ref _,_=>rfl
 | .ellipsis,h=>by cases h
 | .notImplemented,h=>by cases h
 | .float _ _,h=>by cases h
 | .bytes _ _,h=>by cases h
 | .type _,h=>by cases h
 | .builtin _,h=>by cases h
theorem ja:∀ {l:List Value},l.all okV=true->L2.Vals (l.map toV) l
 | [],_=>.nil
 | v::l,h=>by
  rw [a1O,a0D] at h
  exact .cons (lV h.1) (ja h.2)
noncomputable def eK (e:DictEntry):Str×Nat×Value:=match e.key with
 | .str k t=>(k,t,e.val)
 | _=>("",0,e.val)
noncomputable def tE:Option Obj->List (Str×Nat×Value)
 | some o=>(ds o.data).map eK
 | none=>[]
noncomputable def tN:Option Obj->Nat
 | some o=>ep o.data
 | none=>0
noncomputable def enL (P:Params)(l:List (Str×Nat×Value)):List DictEntry:=l.map fun e=>en P e.1 e.2.1 e.2.2
noncomputable def tL (l:List (Str×Nat×Value)):List (Str×L2.V):=l.map fun e=>(e.1,toV e.2.2)
theorem jJ {P:Params}:∀ l:List (Str×Nat×Value),KeysLit P (enL P l)
 | []=>trivial
 | e::l=>⟨⟨_,_,rfl,rfl⟩,jJ l⟩
theorem jG {P:Params}:∀ {l:List (Str×Nat×Value)},(l.all fun e=>okV e.2.2)=true->PySem.Paired (fun (p:Str×L2.V) (e:DictEntry)=>(∃ t,e.key=.str p.1 t)/\L2.RelV p.2 e.val) (tL l) (enL P l)
 | [],_=>.nil
 | e::l,h=>by
  rw [a1O,a0D] at h
  exact .cons ⟨⟨_,rfl⟩,lV h.1⟩ (jG h.2)
theorem tab_mk {K:Frag}{w:World}{x:Str}(h1:nsIn K mainGlobals x=some (some (.ref (rfO (nsIn K mainGlobals x)))))
  (h2:K.lookup (rfO (nsIn K mainGlobals x))=some (di (enL w.params (tE (K.lookup (rfO (nsIn K mainGlobals x))))) (tN (K.lookup (rfO (nsIn K mainGlobals x))))))
  (h3:((tE (K.lookup (rfO (nsIn K mainGlobals x)))).all fun e=>okV e.2.2)=true) (h4:(rfO (nsIn K mainGlobals x)==sysModules)=false):MR.TabRaw K w x (tL (tE (K.lookup (rfO (nsIn K mainGlobals x))))) :=
 ⟨_,_,_,h1,h2,jJ _,jG h3,h4⟩
noncomputable def n8 {α β:Type}(f:α->β->Bool):List α->List β->Bool
 | [],[]=>true
 | a::l,b::r=>f a b&&n8 f l r
 | _,_=>false
noncomputable def k9 (K:Frag):Nat->M.T->L2.V->Bool
 | _+1,.int i,.int j=>decide (i=j)
 | _+1,.non,.non=>true
 | _+1,.bl a,.bl b=>decide (a=b)
 | _+1,.str x,.str y=>decide (x=y)&&M.sOk x
 | n+1,.tup ts,.ref a=>match K.lookup a with
  | some ⟨.type "tuple",_,.seq its _,_⟩=>Nat.ble its.size 1000&&(its.toList.all okV&&n8 (k9 K n) ts (its.toList.map toV))
  | _=>false
 | _,_,_=>false
theorem lN {K:Frag}{n:Nat}(ih:∀ t v,k9 K n t v=true->MR.CstR K t v):∀ {ts:List M.T} {xs:List L2.V},n8 (k9 K n) ts xs=true->MR.CstRs K ts xs
 | [],[],_=>MR.cst_nil
 | t::ts,x::xs,h=>by
  unfold n8 at h
  rw [a0D] at h
  exact MR.cst_cons (ih _ _ h.1) (lN ih h.2)
 | [],_::_,h=>by cases h
 | _::_,[],h=>by cases h
theorem t9 {K:Frag}:∀ n t v,k9 K n t v=true->MR.CstR K t v:=by
 intro n
 induction n with
 | zero=>intro t v h; simp [k9] at h
 | succ n ih =>
  intro t v h
  unfold k9 at h
  split at h
  ·rename_i q; cases q; have e:=of_decide_eq_true h; subst e; exact MR.cst_int _
  ·exact MR.cst_non
  ·have e:=of_decide_eq_true h; subst e; exact MR.cst_bl _
  ·rw [a0D] at h; have e:=of_decide_eq_true h.1; subst e; exact MR.cst_str h.2
  ·rename_i q
   cases q
   split at h
   ·rename_i its k sl q
    rw [a0D,a0D] at h
    have hs:=a18 h.1
    exact MR.cst_tup q rfl rfl (a0s hs (by decide)) (ja h.2.1) (by rw [a0b,a1t]; exact a0s hs (by decide)) (lN ih h.2.2)
   ·cases h
  ·cases h
theorem cst_of {K:Frag}{n:Nat}:∀ {tab:List (Str×M.T)} {T:List (Str×L2.V)},n8 (fun (e:Str×M.T) (p:Str×L2.V)=>decide (p.1=e.1)&&k9 K n e.2 p.2) tab T=true->MR.CstL K tab T
 | [],[],_=>trivial
 | e::tab,p::T,h=>by
  unfold n8 at h
  rw [a0D,a0D] at h
  exact ⟨⟨of_decide_eq_true h.1.1,t9 n _ _ h.1.2⟩,cst_of h.2⟩
 | [],_::_,h=>by cases h
 | _::_,[],h=>by cases h
end TP

namespace MR
open PySem PySem.Spec PyProof.Rows L2 L3
theorem walkX {sx:Str}{C:M.Call}{ix k:Nat}{l:a2H}{q:Program}{loose:List Str}{XP:(Str->Option Value)->Heap->Prop}{YP:World->Heap->Prop}{d:DefRec}{K:Params->a0a}(hp:∀ ns:List Int,ns.length<=63->∃ m bs,C ix [(.d,.scr ns)]=.ok ((m,.bl true),bs))(hn:l.most=some 63)(hdf:d.params.defaults=[])(hr:Room k callerA)
  (hY:∀ (w:World) (h:Heap),YP w h->(K w.params).In h)
  (F:∀ (w:World) (mg:Str->Option Value) (fa:Addr) (h:Heap),(K w.params).In h->h.Ns mainGlobals mg->mg d.name=some (.ref fa) ->
   ∃ fd:FuncData,(∀ (s:Shared) (u:Value),BindsTo s fd ⟨[u],[]⟩ [(sx,u)])/\∀ base:Heap,(K w.params).In base->base.Ns mainGlobals mg->bJ l.prog w (K w.params) mg base CX0 k fa fd [sx] (spS (K w.params) C ix [])) :
  a3y q loose XP YP l.row.toRowW d [] (fun f vs=>a3x f vs) :=
 L2.walk_of (n:=63) (k:=k) (x:=sx) (CX:=fun _=>CX0) (sp:=fun w=>spS (K w.params) C ix []) hn (by decide) hdf hr hY F (fun _ _ a ns hl hO hS=>AI (hp ns hl) hl hO hS) fun _ _ _ _ _ z=>z
theorem vU {sx:Str}{w:World}{K:a0a}{mg:Str->Option Value}{st:Stmt}{h:Heap}{fa:Addr}{pr:Program}{k:Nat}{sp:Sp}(X:K.In h)(G:h.Ns mainGlobals mg)(hfa:mg "law"=some (.ref fa))(r:Raw K "law" st .none)(hb:∀ (kV dc pm:Value) (an:Option Addr) (cd ct:Value) (s:Shared) (v:Value),BindsTo s (a09 "law" "law" (defArgs st) (defBody st) (defScope st) .none kV dc pm an cd ct) ⟨[v],[]⟩ [(sx,v)])
  (ok:∀ f fd,Fun K "law" "law" st f fd->∀ base,bJ pr w K mg base CX0 k f fd [sx] sp):∃ fd:FuncData,(∀ (s:Shared) (v:Value),BindsTo s fd ⟨[v],[]⟩ [(sx,v)])/\∀ base:Heap,K.In base->base.Ns mainGlobals mg->bJ pr w K mg base CX0 k fa fd [sx] sp:=by
 obtain ⟨f,oc,od,sl,kV,dc,pm,an,cd,ct,h1,h2,h3,h4⟩:=r
 have e:=hfa.symm.trans (a0S X G h1)
 cases e
 exact ⟨_,hb kV dc pm an cd ct,fun base _ _=>ok _ _ (rY (st:=st) h2 h3 h4) base⟩
end MR

namespace L3
open PySem PySem.Spec PyProof.Rows L2
theorem eL {σ:L2.St}{H:Hp}:∀ (kvs:List (Key×V)) (Q:List (V×V)->Hp->Prop),Q (kvs.map fun kv=>(kV kv.1,kv.2)) H->gZ (kvs.map fun kv=>(tC (kV kv.1),tC kv.2)) σ H Q
 | [],_,h=>h
 | p::r,Q,h=>eL r (fun ps H3=>Q ((kV p.1,p.2)::ps) H3) h
end L3
namespace MR
open PySem PySem.Spec PyProof.Rows L2 L3
section
variable {X:Cx}{sf sg:Nat->Option Nat}{C:M.Call}{pos p p2 p3:Pos}{ea eb ec:Expr}{a b c:M.E}{h:Bool}{n:Nat}{io:List Nat}{K:a0a}
noncomputable def cG (tab:List (Str×Int)):List (Key×V):=tab.map fun p=>(.inr p.1,.int p.2)
theorem pd0 {X:Cx}:PPs X p2 [] [] ((cG []).map fun kv=>(tC (kV kv.1),tC kv.2)):=vT
theorem pd1 {X:Cx}{x:Str}{i:Int}{tab:List (Str×Int)}{k:Expr}{v:Expr}{ks:List (Option Expr)}{vs:List Expr}(h1:PE X k (tC (.str x)))(h2:PE X v (tC (.int i)))(h:PPs X p2 ks vs ((cG tab).map fun kv=>(tC (kV kv.1),tC kv.2))):PPs X p2 (some k::ks) (v::vs) ((cG ((x,i)::tab)).map fun kv=>(tC (kV kv.1),tC kv.2)):=sk h1 h2 h
end
end MR

namespace L3
open PySem PySem.Spec PyProof.Rows L2
noncomputable abbrev eT1 (h:Heap)(a:Addr):Heap:=h.push { cls:=.type "tuple_iterator",data:=.fields #[.ref a,.int 0 0] }
noncomputable abbrev eT2 (h:Heap)(a:Addr):Heap:=(eT1 h a).push { cls:=.type "enumerate",data:=.fields #[.none,.bool false,.ref h.objs.size,rawInt 0,.none,.none] }
theorem zQ {α:Type}{c:Prop}[Decidable c]{M:Model}{A:Around}{E:Value->Shared->Prop}{s:Shared}{a b:Sem α}{Q:α->Shared->Prop}(h1:wpAny M A a Q E s)(h2:wpAny M A b Q E s):wpAny M A (if c then a else b) Q E s:=by
 by_cases hc:c
 ·rw [if_pos hc]; exact h1
 ·rw [if_neg hc]; exact h2
theorem i3 (a:Addr)(xs:Array Value) :
  Meets (Builtin.«enumerate.__new__» ⟨[.type "enumerate",.ref a],[]⟩) (fun _ R s=>s.heap.IsTuple a xs/\R (.ok (.ret (.ref (eT1 s.heap a).objs.size))) { s with heap:=eT2 s.heap a }) :=
 .of_wp fun prog w A R s h=>by
  obtain ⟨hp,g,d,tk,os⟩:=s; obtain ⟨q1,h⟩:=h
  have hsub:=sub_enumerate
  have e1:Heap.IsTuple (Shared.heap ⟨hp,g,d,tk,os⟩) a xs:=q1
  wp_walk using wpAny_pyIter_tuple e1
  refine wpAny_stack fun st _ _ _=>wpAny_pure ?_
  show wpAny _ _ (if _=true then (pure (Value.ref a,(none:Option Value)) >>= _) else (pure (Value.ref a,(none:Option Value)) >>= _)) _ _ _
  refine zQ ?_ ?_
  ·refine wpAny_bind (wpAny_pure ?_)
   show wpAny _ _ (pyIter (.ref a) >>= _) _ _ _
   wp_walk using wpAny_pyIter_tuple e1
   exact ⟨_,rfl,h⟩
  ·refine wpAny_bind (wpAny_pure ?_)
   show wpAny _ _ (pyIter (.ref a) >>= _) _ _ _
   wp_walk using wpAny_pyIter_tuple e1
   exact ⟨_,rfl,h⟩
theorem kj {prog:Program}{w:World}{A:Around}{E:Value->Shared->Prop}{s:Shared}{a:Addr}{xs:Array Value}{Q:Value->Shared->Prop}(q1:s.heap.IsTuple a xs)
  (h:∀ h',IsEnum h' (s.heap.objs.size+1) s.heap.objs.size 0 .none->h'.IsTupleIter s.heap.objs.size a 0->(∀ c o,s.heap.get? c=some o->h'.get? c=some o)->Q (.ref (s.heap.objs.size+1)) { s with heap:=h' }) :
  wpAny (model prog w) A (call (.type "enumerate") [.ref a]) Q E s:=by
 refine callType_new F.called_enumerate (by decide) (F.typeCall_enumerate_1 _) (F.newCall_enumerate_1 _) (fun obj=>F.args_object_init_2 obj _) F.entry_enumerate_new (i3 a xs) ⟨q1,?_⟩
 have e1:(eT1 s.heap a).objs.size=s.heap.objs.size+1:=Heap.size_push ..
 have g2:(eT2 s.heap a).get? (eT1 s.heap a).objs.size=some _:=Heap.get?_push_size _ rfl
 have g1:(eT2 s.heap a).get? s.heap.objs.size=some _:=Heap.get?_push_of_some _ (Heap.get?_push_size _ rfl)
 show _/\_
 rw [e1] at g2
 rw [e1]
 exact ⟨⟨_,g2,rfl⟩,h _ g2 ⟨_,g1,rfl,rfl⟩ fun c o x=>Heap.get?_push_of_some _ (Heap.get?_push_of_some _ x)⟩
theorem nH {prog:Program}{w:World}{A:Around}(hh:A.handled=none)(it t:Addr)(hne:t≠it)(xs:Array Value):Draws prog w A it [it,t] xs.size (fun i v=>xs[i]?=some v) (fun i h=>h.IsTupleIter it t i/\h.IsTuple t xs) where
 live:=fun i h st=>let ⟨o,e,_⟩:=st.1; ⟨o,e⟩
 frame:=fun i h h' st k=>⟨st.1.at fun o e=>k it (by simp) o e,by obtain ⟨o,e,r⟩:=st.2; exact ⟨o,k t (by simp) o e,r⟩⟩
 item:=fun i s Q E hi st q=>by
  refine j6 st.1 st.2 (x:=xs[i]) (a2q hi) fun h' st' sb=>q _ h' s.toks (a2q hi) ⟨st',?_⟩ sb
  obtain ⟨o,e,r⟩:=st.2
  exact ⟨o,(sb.2 t hne).trans e,r⟩
 done:=fun s Q E st q=>gx hh st.1 st.2 (a2B (a0j _)) fun h' e eb he=>q h' e eb he
theorem mO {prog:Program}{w:World}{A:Around}(hh:A.handled=none)(it t:Addr)(n:Nat)(xs:Array Value)(hn:xs.size<=n):Draws prog w A it [it,t] n (fun _ _=>False) (fun i h=>i=n/\h.IsTupleIter it t n/\h.IsTuple t xs) where
 live:=fun i h st=>let ⟨o,e,_⟩:=st.2.1; ⟨o,e⟩
 frame:=fun i h h' st k=>⟨st.1,st.2.1.at fun o e=>k it (by simp) o e,by obtain ⟨o,e,r⟩:=st.2.2; exact ⟨o,k t (by simp) o e,r⟩⟩
 item:=fun i s Q E hi st q=>absurd st.1 (a0v hi)
 done:=fun s Q E st q=>gx hh st.2.1 st.2.2 (a2B hn) fun h' e eb he=>q h' e eb he
noncomputable def BI (K:a0a)(a:Addr):It :=
 ⟨fun i H=>∃ xs x,SqT K H a xs/\xs[i]?=some x,
  fun i H v H'=>∃ p x,v=.ref p/\H p=none/\H'=upd H p (.tup [.int (i:Int),x])/\∀ xs,SqT K H a xs->xs[i]?=some x,
  fun i H=>∃ xs,SqT K H a xs/\xs.length<=i⟩
theorem kZ {P:Program}{w:World}{K:a0a}{es:List Expr}{kt:Nat}{pt:Pos}{e it a:Addr}(hne:e≠it)(hae:a≠e)(hai:a≠it):qF P w K (.Tuple es kt pt) (BI K a) [e,it] e (fun i h=>(∃ old,IsEnum h e it (i:Int) old)/\h.IsTupleIter it a i) where
 mem:=by simp
 obj:=fun i h st b hb=>by
  obtain ⟨⟨old,q1⟩,q2⟩:=st
  simp only [a0m,a1f,or_false] at hb
  rcases hb with rfl | rfl
  ·exact ⟨_,q1,fun v y=>by cases y⟩
  ·obtain ⟨o,e',_,d⟩:=q2
   exact ⟨o,e',fun v y=>by rw [d] at y; cases y⟩
 keep:=fun i h h' st k=>by
  obtain ⟨⟨old,q1⟩,q2⟩:=st
  exact ⟨⟨old,k e (by simp) _ q1⟩,q2.at fun o z=>k it (by simp) o z⟩
 item:=by
  intro X hP hw hK hc i pins s σ H E I hf st hg
  subst hP hw hK
  obtain ⟨xs,x,s1,hx⟩:=hg
  obtain ⟨⟨old,q1⟩,q2⟩:=st
  obtain ⟨its,v1,o1,z1⟩:=I.tuple s1
  obtain ⟨u1,e1,r1⟩:=v1.get hx
  have lt:∀ b∈[e,it],b < s.heap.objs.size:=fun b hb=>by
   simp only [a0m,a1f,or_false] at hb
   rcases hb with rfl | rfl
   ·exact Heap.lt_size q1
   ·obtain ⟨o,e',_⟩:=q2; exact Heap.lt_size e'
  have hit:i < its.toArray.size:=by
   have:=(a0q.mp e1).1
   simpa using this
  refine wpAny_pyNext_enum_itemD (nH (A:=X.A.in1) (I.ok.hd hc) it a hai its.toArray) q1 ⟨q2,(show s.heap.IsTuple a its.toArray from o1)⟩ hit hne (by simp only [a0m,a1f,or_false,not_or]; exact ⟨hne,a07 hae⟩) fun x' h' tk px y1 y2 y3 y4 y5=>⟨_,rfl,?_⟩
  have ex:x'=u1:=by
   have:its[i]?=some x':=by simpa using px
   rw [e1] at this; cases this; rfl
  subst ex
  refine wpAny_letOwnedTupleGo_enum (s:={ s with heap:=h',toks:=tk+1 }) y1 fun h2 w1 sb=>?_
  have sb':Heap.SameBut e h' h2:=sb
  have nz:s.heap.objs.size≠e:=a1p (lt e (by simp))
  have kk:∀ b o,b ∉ [e,it]->s.heap.get? b=some o->h2.get? b=some o:=fun b o hb z=>by
   simp only [a0m,a1f,or_false,not_or] at hb
   exact (sb'.2 b hb.1).trans (y5 b o hb.1 hb.2 z)
  have tp:IsTup h2 s.heap.objs.size [.int (i:Int) tk,x'].toArray:=⟨_,(sb'.2 _ nz).trans y3,rfl,_,rfl⟩
  refine ⟨.ref s.heap.objs.size,upd H s.heap.objs.size (.tup [.int (i:Int),x]),fD (s:=s) (t':=tk+1) I hf kk (a0j _) (by show 2<=sizeLine; decide) (.cons ⟨_,rfl⟩ (.cons r1 .nil)) tp,rfl,
   ⟨_,x,rfl,I.fresh,rfl,fun zs hz=>by rw [I.tuple_inj hz s1]; exact hx⟩,?_,fun b hb=>?_⟩
  ·exact ⟨⟨_,w1⟩,y2.1.at fun o z=>(sb'.2 _ (a07 hne)).trans z⟩
  ·rw [af (a0v (lt b hb))]; exact (hf b hb).1
 done:=by
  intro X hP hw hK hc i pins s σ H E I hf st hg
  subst hP hw hK
  obtain ⟨xs,s1,hl⟩:=hg
  obtain ⟨⟨old,q1⟩,q2⟩:=st
  obtain ⟨its,v1,o1,z1⟩:=I.tuple s1
  have l1:=v1.length
  have l2:its.toArray.size<=i:=by simp; omega
  refine wpAny_pyNext_enum_endD (mO (A:=X.A.in1) (I.ok.hd hc) it a i its.toArray l2) q1 ⟨rfl,q2,(show s.heap.IsTuple a its.toArray from o1)⟩ fun h' eb=>⟨rfl,kR (t':=s.toks) I hf fun b o hb z=>eb b o (fun y=>hb (by simp [y])) z⟩
 self:=fun _ _ _ _ _ st h=>by
  obtain ⟨⟨old,q1⟩,_⟩:=st
  exact wpAny_pyIter_enum q1 h
noncomputable def pD (K:a0a)(ta:TA):TI:=fun σ H R=>ta σ H fun vs H1=>∃ a,vs=[.ref a]/\(∃ xs,SqT K H1 a xs)/\R (BI K a) H1
theorem rX {X:Cx}{a:Expr}{ta:TA}{p pos pt:Pos}{es:List Expr}{kt:Nat}(hg:Gl X "enumerate")(hm:X.mg "enumerate"=none)(ha:PA X [a] ta)(hs:starEach [a] X.env=[(false,eval a X.env)]:=by rfl) :
  PI X (.Tuple es kt pt) (.Call (.Name "enumerate" p) [a] [] pos) (pD X.K ta):=by
 intro pins s σ H R I h
 refine Call_ (ef I hg hm boot_enumerate (a1a (thn (ha pos pins s σ H _ I h) fun us s1 ⟨vs,H1,I1,r1,q1⟩=>?_) hs rfl))
 obtain ⟨a,rfl,⟨xs,s1'⟩,q⟩:=q1
 cases r1 with
 | cons r rr =>
  cases rr
  cases r
  obtain ⟨its,v1,o1,z1⟩:=I1.tuple s1'
  have hlt:a < s1.heap.objs.size:=by obtain ⟨o,e,_⟩:=o1; exact Heap.lt_size e
  refine kj (show s1.heap.IsTuple a its.toArray from o1) fun h' q1 q2 kk=>?_
  refine wpAny_pyIter_enum (s:={ s1 with heap:=h' }) q1 ?_
  refine ⟨_,_,_,_,H1,rfl,I1.kept (t':=s1.toks) kk,kZ (Nat.succ_ne_self _) (a0v (Nat.lt_succ_of_lt hlt)) (a0v hlt),⟨⟨_,q1⟩,q2⟩,fun b hb=>?_,q⟩
  have hle:s1.heap.objs.size<=b:=by
   simp only [a0m,a1f,or_false] at hb
   rcases hb with e | e<;>(rw [e]; first | exact a3i _ _ | exact a0j _)
  exact I1.fpOk hle (I1.hok.fresh hle)
end L3
namespace MR
open PySem PySem.Spec PyProof.Rows L2 L3
section
variable {X:Cx}{sf sg:Nat->Option Nat}{C:M.Call}{pos p p2 p3:Pos}{ea eb ec:Expr}{a b c:M.E}{h:Bool}{n:Nat}{io:List Nat}{K:a0a}
theorem vq {e:M.E}(σ:L2.St)(H:Hp)(R:It->Hp->Prop)(h:wI K sf C 2 .enmT [e] σ H R):pD K (wL K sf C [e]) σ H R:=by
 obtain ⟨pv,Z,Fs,η,ws,η',ts,A,ev,ht,k⟩:=h
 refine ⟨pv,Z,Fs,η,ws,η',A,ev,fun vs Z' H' Fs' G B r s=>?_⟩
 obtain ⟨⟨m,a⟩,η1,us,e1,e2,rfl⟩:=ay ev
 cases e2
 obtain ⟨x,rfl,r1⟩:=cX rfl r
 obtain ⟨t1,rfl⟩:∃ t1,a=.tup t1:=by cases a<;>first | exact ⟨_,rfl⟩ | cases ht
 cases ht
 obtain ⟨a,xs,rfl,q,l,p⟩:=Rep.sh r1
 have l1:=p.length
 refine ⟨a,rfl,⟨xs,q⟩,k _ _ H' Fs' B.freeze (aU B.own s) ⟨fun H0 i s hi=>?_,fun H0 i s hi=>?_,by rw [b8]; omega⟩ fun H0 i x H1 s hi y=>?_⟩
 ·rw [b8] at hi
  exact ⟨xs,xs[i]'(by omega),s.sqt q,by simp⟩
 ·rw [b8] at hi
  exact ⟨xs,s.sqt q,by omega⟩
 ·rw [b8] at hi
  obtain ⟨p',x1,rfl,hp,rfl,hx⟩:=y
  obtain ⟨x',hx',rx⟩:=p.get (show t1[i]?=some t1[i] by simp)
  rw [hx xs (s.sqt q)] at hx'; cases hx'
  refine ⟨p',.int i,x1,(.d,.int ((0+i:Nat):Int)),(.s,t1[i]),rfl,xO hp,.inl (.inl ag),gE (by simp),?_,rx.sany.keep s (fun _ z=>z) fun _ _ z=>z.elim⟩
  show V.int (i:Int)=V.int ((0+i:Nat):Int)
  rw [a1J]
theorem zr {es:List Expr}{kt:Nat}{pt p:Pos}(hm:X.mg "enumerate"=none)(hg:Gl X "enumerate":=by rfl)(ha:SE X sf C ea a)(hs:starEach [ea] X.env=[(false,eval ea X.env)]:=by rfl):PI X (.Tuple es kt pt) (.Call (.Name "enumerate" p) [ea] [] pos) (wI X.K sf C 2 .enmT [a]):=jt (rX hg hm (slc ha sl0 hs) hs) vq
end
end MR

namespace L3
open PySem PySem.Spec PyProof.Rows L2
theorem EK {prog:Program}{w:World}{A:Around}{E:Value->Shared->Prop}{s:Shared}{t b:Addr}{ws:List Value}{Q:Value->Shared->Prop}(ht:IsTup s.heap t ([]:List Value).toArray)(hb:IsTup s.heap b ws.toArray)(h:Q (.ref b) s):wpAny (model prog w) A (binaryOp .Add (.ref t) (.ref b)) Q E s:=by
 obtain ⟨⟨cls,dd,data,sl⟩,ho,hc,n,hd⟩:=id ht
 obtain ⟨⟨cls2,dd2,data2,sl2⟩,ho2,hc2,n2,hd2⟩:=id hb
 simp only at hc hd hc2 hd2
 subst hc hd hc2 hd2
 exact concat_meets ⟨_,ho,rfl⟩ ⟨_,ho2,rfl⟩ noFill_tuple_add seq_tuple_add a1W a1N (a1H _ _)
  (tuple_addW0 t b ([]:List Value).toArray ws.toArray n n2 dd dd2 sl sl2 rfl) ⟨ho,ho2,h⟩
noncomputable def xr (K:a0a):R2:=fun x y H Q=>∃ a b xs ys,x=.ref a/\y=.ref b/\SqT K H a xs/\SqT K H b ys/\xs.length+ys.length<=sizeLine/\∀ v H',Same H H'->(∃ c,v=.ref c/\SqT K H' c (xs++ys))->Q v H'
theorem uG {X:Cx}:OpR X (binaryOp .Add) (xr X.K):=fun pins s σ H x y v u Q I rx ry h=>by
 obtain ⟨a,b,xs,ys,e1,e2,h1,h2,hz,q⟩:=h
 by_cases hx:xs=[]
 ·subst hx e1 e2
  cases rx
  cases ry
  obtain ⟨its,r1,p1,_⟩:=I.tuple h1
  obtain ⟨its2,r2,p2,_⟩:=I.tuple h2
  have:its=[]:=by cases r1; rfl
  subst this
  exact EK p1 p2 ⟨.ref b,H,I,rfl,q _ _ (Same.refl _) ⟨b,rfl,h2⟩⟩
 ·exact l6 pins s σ H x y v u Q I rx ry ⟨a,b,xs,ys,e1,e2,h1,h2,hx,hz,q⟩
theorem wc {X:Cx}{o e:Expr}{apos cpos:Pos}{ty:TE}{ad:Addr}{T:List (Str×V)}(D:DTab X.K X.w ad T)(ho:PE X o (tC (.ref ad)))(he:PE X e ty)(m:M1 X o "get" apos e cpos):PE X (.Call (.Attribute o "get" apos) [e] [] cpos) (fun σ H Q=>ty σ H fun y H2=>∃ z,y=.str z/\Q ((T.lookup z).getD .non) H2):=by
 intro pins s σ H Q I h
 refine wpAny_Call_method m.base m.few m.line a2x a1h a2I (thn (ho pins s σ H (fun x H1=>x=.ref ad/\ty σ H1 fun y H2=>∃ z,y=.str z/\Q ((T.lookup z).getD .non) H2) I ⟨rfl,h⟩) fun u s1 ⟨x,H1,I1,rx,ex,q1⟩=>?_)
 subst ex
 obtain rfl:u=Value.ref ad:=rx
 obtain ⟨f,hm,hf⟩:=D.map (P:=X.prog) I1.kIn
 obtain ⟨es,n,k1,k2,k3⟩:=D.ex
 refine ⟨hm.typeIs,fun b q=>?_,?_⟩
 ·cases q
  exact ⟨_,I1.kIn _ _ k1,rfl⟩
 rw [m.trees]
 refine Calls.callWith_builtin rfl (Calls.evalArgs_plain (Calls.spliced_cons (thn (he pins s1 σ H1 _ I1 q1) fun iv s2 ⟨y,H2,I2,ry,z,ey,q2⟩=>Calls.spliced_nil ?_)))
 subst ey
 obtain ⟨t,rfl⟩:=ry
 obtain ⟨f2,hm2,hf2⟩:=D.map (P:=X.prog) I2.kIn
 exact call_meetsIn a1h hm2.typeIs a1X (a1Q _ _) (meets_dict_get (strKind X.prog X.w) ad (strKind_is X.prog X.w z t) D.lo) ⟨f2,hm2,(T.lookup z).getD .non,H2,I2.tok _,(hf2 z).getD (show L2.RelV .non Value.none from rfl),q2⟩
end L3
namespace MR
open PySem PySem.Spec PyProof.Rows L2 L3
section
variable {X:Cx}{sf sg:Nat->Option Nat}{C:M.Call}{pos p p2 p3:Pos}{ea eb ec:Expr}{a b c:M.E}{h:Bool}{n:Nat}{io:List Nat}{K:a0a}
theorem qP:Loc K 2 .catT h fun xs H Q=>∀ x y,xs=[x,y]->xr K x y H Q:=by
 intro ws w xs Z H G Q hn e r ow za k x y hx
 subst hx
 obtain ⟨⟨m,a⟩,⟨n,b⟩,rfl⟩:=eP r.length.symm
 obtain ⟨G1,G2,w1,w2,d,r1,r2⟩:=cI r
 cases a with
 | tup ts =>
  cases b with
  | tup us =>
   have e':(if M.fits (ts.length+us.length)=true then some ((.s,.tup (ts++us)):M.W) else none)=some w:=e
   split at e'
   ·rename_i hf
    cases e'
    obtain ⟨a,xs,rfl,hs,hl,p⟩:=bN r1
    obtain ⟨b,ys,rfl,hs2,hl2,p2⟩:=bN r2
    have hlen:=cA hf
    have e1:=p.length
    have e2:=p2.length
    refine ⟨a,b,xs,ys,rfl,rfl,hs,hs2,bP (by omega),fun v H' same hv=>fu (m:=.s) (G':=no) ow (fun _ z=>z.elim) (by rw [a0c]; omega) (RepL.append (G1:=no) (G2:=no) (fun _ z=>z) (fun _ z=>z) (fun _ z _=>z) ((RepL.sh p).zmono fun b hb=>?_) ((RepL.sh p2).zmono fun b hb=>?_)) k same hv⟩
    ·exact hb.imp id fun z=>⟨w1 b z,fun q=>q⟩
    ·exact hb.imp id fun z=>⟨w2 b z,fun q=>q⟩
   ·cases e'
  | _=>cases e
 | _=>cases e
theorem mh (ha:SE X sf C ea a)(hb:SE X sf C eb b):SE X sf C (.BinOp ea .Add eb pos) (.op .catT h [a,b]):=aw (gV uG ha hb) (aQ qP)
theorem va {w:World}{ad:Addr}{T:List (Str×V)}{tab:List (Str×M.T)}{e:M.E}(ht:∀ z,match tab.lookup z with
  | some t=>∃ v,T.lookup z=some v/\CstR K t v
  | none=>T.lookup z=none) (σ:L2.St) (H:Hp) (Q:VK) (h:wE K sf C (.getT tab e) σ H Q):wE K sf C e σ H fun y H2=>∃ z,y=.str z/\Q ((T.lookup z).getD .non) H2:=by
 obtain ⟨pv,Z,Fs,η,w',η',A,ev,k⟩:=h
 obtain ⟨⟨u,η1⟩,h1,h2⟩:=aa (show (M.evE C e η).bind (M.kGet tab)=_ from ev)
 obtain ⟨z,e1,e2,e3⟩:=jH h2
 cases e2
 refine ⟨pv,Z,Fs,η,u,_,A,h1,fun y Z' H' Fs' G B r s=>?_⟩
 obtain ⟨m,t0⟩:=u
 cases (show t0=_ from e1)
 have q:=ht z
 refine ⟨z,r.1,?_⟩
 cases hl:tab.lookup z with
 | none =>
  rw [hl] at q e3
  rw [show T.lookup z=none from q]
  have e4:w'=(.s,.non):=e3
  subst e4
  exact k _ Z' H' Fs' no B.bare rfl (s.mono (fun _ z=>z) fun a ha=>ha.elim .inl fun z=>z.elim)
 | some t =>
  rw [hl] at q e3
  obtain ⟨v,q1,q2⟩:=q
  rw [q1]
  have e4:w'=(.s,t):=e3
  subst e4
  exact k v Z' H' Fs' no B.bare (q2 Z' H') (s.mono (fun _ z=>z) fun a ha=>ha.elim .inl fun z=>z.elim)
theorem Dg {x:Str}{tab:List (Str×M.T)}{apos cpos:Pos}(T:AF X.K X.w X.mg x tab)(ha:SE X sf C ea a)(hg:Gl X x:=by rfl)(hd:(x==("__debug__":Str))=false:=by decide)(m:M1 X (.Name x p2) "get" apos ea cpos:=by exact ⟨rfl,rfl,rfl,rfl⟩):SE X sf C (.Call (.Attribute (.Name x p2) "get" apos) [ea] [] cpos) (.getT tab a):=by
 obtain ⟨ad,T',hm,D,ht⟩:=T
 exact aw (wc D (iq hg hm hd) ha m) (va (w:=X.w) (ad:=ad) ht)
end
end MR

namespace L3
open PySem PySem.Spec PyProof.Rows L2
end L3
namespace MR
open PySem PySem.Spec PyProof.Rows L2 L3
end MR

namespace MR
open L2 L3 M
open PySem (Addr Str sizeLine)
section
variable {K:a0a}{Wx:L2.St->VK}{sl:Cf}{sf sg:Nat->Option Nat}{C:Call}{σ σ2:L2.St}{Z Z' Z1:Fp}{H H' H1:Hp}{Fs Fs' Fs1:Fps}{η η' η1 ηb:Env}{G G' G1 R F F':Fp}{tg is vs ls io:List Nat}{pv val:Nat->Option V}{D:bL}
noncomputable def kT:Int ⊕ Str->T
 | .inl n=>.int n
 | .inr x=>.str x
end
end MR
namespace MR
open PySem PySem.Spec PyProof.Rows L2 L3
end MR

namespace L3
open PySem PySem.Spec PyProof.Rows L2
end L3

namespace L3
open PySem PySem.Spec PyProof.Rows L2
end L3
namespace MR
open PySem PySem.Spec PyProof.Rows L2 L3
end MR

namespace L3
open PySem PySem.Spec PySem.NumText PyProof.Rows L2
end L3
namespace MR
open PySem PySem.Spec PyProof.Rows L2 L3
mutual
theorem kU:∀ t:M.T,toD (th t)=M.datT t
 | .non=>rfl
 | .bl _=>rfl
 | .int _=>rfl
 | .str _=>rfl
 | .tup ts=>congrArg PyData.tuple (iO ts)
 | .lst ts=>congrArg PyData.list (iO ts)
 | .dct _ _=>rfl
 | .ins _ _ _=>rfl
 | .scr _=>rfl
 | .gone=>rfl
theorem iO:∀ ts:List M.T,dP (ths ts)=M.datTs ts
 | []=>rfl
 | t::ts=>by
  show toD (th t)::dP (ths ts)=M.datT t::M.datTs ts
  rw [kU t,iO ts]
end
noncomputable def dF (ss:List Str):Nat:=(ss.map fun s=>s.cps.size+2).sum
theorem dA (p q:Str):(p++q).cps.size=p.cps.size+q.cps.size:=a29 ..
theorem oh:∀ (ss:List Str) (k:Nat) (acc:Str),M.sOk acc=true->(∀ s∈ss,M.sOk s=true)->acc.cps.size+dF ss<=M.LIM->M.sOk (textFrom k acc ss)=true/\(textFrom k acc ss).cps.size<=acc.cps.size+dF ss
 | [],_,acc,h,_,hl=>⟨h,by show acc.cps.size<=_; omega⟩
 | s::ss,k,acc,h,hs,hl=>by
  have hp:dF (s::ss)=s.cps.size+2+dF ss:=by unfold dF; rw [a0A,a2a]
  have h1:=hs s a0k
  have key:∀ z:Str,M.sOk z=true->z.cps.size<=2->M.sOk (textFrom (k+1) (acc++z++s) ss)=true/\(textFrom (k+1) (acc++z++s) ss).cps.size<=acc.cps.size+dF (s::ss):=fun z hz hz2=>by
   have e1:(acc++z).cps.size=acc.cps.size+z.cps.size:=dA _ _
   have e2:(acc++z++s).cps.size=acc.cps.size+z.cps.size+s.cps.size:=by rw [dA,e1]
   obtain ⟨a,b⟩:=oh ss (k+1) (acc++z++s) (bY (bY h hz (by omega)) h1 (by omega)) (fun x hx=>hs x (a0f _ hx)) (by omega)
   exact ⟨a,by omega⟩
  show M.sOk (textFrom (k+1) (acc++(if k > 0 then ", " else "":String)++s) ss)=true/\(textFrom (k+1) (acc++(if k > 0 then ", " else "":String)++s) ss).cps.size<=_
  split
  ·exact key (Str.ofString ", ") (aV _ (by decide)) (by decide)
  ·exact key (Str.ofString "") (aV _ (by decide)) (by decide)
theorem lG:∀ (ss:List Str),(∀ s∈ss,M.sOk s=true)->dF ss<=M.LIM->M.sOk (Str.join ", " ss)=true/\(Str.join ", " ss).cps.size<=dF ss
 | [],_,_=>⟨aV "" (by decide),a0Q _⟩
 | [s],hs,hl=>⟨hs s a0k,by show s.cps.size<=(s.cps.size+2)+0; omega⟩
 | s::u::ss,hs,hl=>by
  have hp:dF (s::u::ss)=s.cps.size+2+dF (u::ss):=by unfold dF; rw [a0A,a2a]
  obtain ⟨a,b⟩:=lG (u::ss) (fun x hx=>hs x (a0f _ hx)) (by omega)
  have e0:Str.join ", " (s::u::ss)=s++Str.ofString ", "++Str.join ", " (u::ss):=rfl
  have z2:(Str.ofString ", ").cps.size=2:=by decide
  have e1:(s++Str.ofString ", ").cps.size=s.cps.size+2:=by rw [dA,z2]
  rw [e0]
  refine ⟨bY (bY (hs s a0k) (aV _ (by decide)) (by omega)) a (by omega),?_⟩
  rw [dA,e1]; omega
mutual
theorem jP:∀ t:M.T,M.rOk t=true->M.szR t<=M.LIM->(M.datT t).showable=true/\M.sOk (M.datT t).shown=true/\(M.datT t).shown.cps.size<=M.szR t
 | .non,_,_=>⟨rfl,aV _ (by decide),by decide⟩
 | .bl b,_,_=>⟨rfl,by cases b<;>exact aV _ (by decide),by cases b<;>decide⟩
 | .int i,h,_=>by
  have hb:i.natAbs < 10000000000000000000:=of_decide_eq_true h
  have hl:=sA hb
  have h2:=int_text_length_le10 (a:=i) (k:=19) (by decide) hb
  exact ⟨decide_eq_true (Bf hb),aV _ (by omega),a0s hl (show 20<=100 by decide)⟩
 | .str x,h,_=>by
  have h:(decide ((a2p x).length<=100)&&M.sOk (a2p x))=true:=h
  rw [a0d] at h
  exact ⟨rfl,h.2,of_decide_eq_true h.1⟩
 | .tup ts,h,hl=>by
  have hl':M.szRs ts+4<=M.LIM:=hl
  obtain ⟨a,b,c⟩:=eC ts h (by omega)
  obtain ⟨d,e⟩:=lG _ b (by omega)
  refine ⟨a,?_⟩
  show M.sOk (("(":Str)++Str.join ", " (PyData.shownAll (M.datTs ts))++(if (PyData.shownAll (M.datTs ts)).length==1 then ",)" else ")":String))=true/\(("(":Str)++Str.join ", " (PyData.shownAll (M.datTs ts))++(if (PyData.shownAll (M.datTs ts)).length==1 then ",)" else ")":String)).cps.size<=M.szRs ts+4
  have z1:(Str.ofString "(").cps.size=1:=by decide
  have e1:(Str.ofString "("++Str.join ", " (PyData.shownAll (M.datTs ts))).cps.size=1+(Str.join ", " (PyData.shownAll (M.datTs ts))).cps.size:=by rw [dA,z1]
  have key:∀ z:Str,M.sOk z=true->z.cps.size<=2->M.sOk (Str.ofString "("++Str.join ", " (PyData.shownAll (M.datTs ts))++z)=true/\(Str.ofString "("++Str.join ", " (PyData.shownAll (M.datTs ts))++z).cps.size<=M.szRs ts+4:=fun z hz hz2 =>
   ⟨bY (bY (aV _ (by decide)) d (by omega)) hz (by omega),by rw [dA,e1]; omega⟩
  split
  ·exact key (Str.ofString ",)") (aV _ (by decide)) (by decide)
  ·exact key (Str.ofString ")") (aV _ (by decide)) (by decide)
 | .lst ts,h,hl=>by
  have hl':M.szRs ts+4<=M.LIM:=hl
  obtain ⟨a,b,c⟩:=eC ts h (by omega)
  have z1:(Str.ofString "[").cps.size=1:=by decide
  have z2:(Str.ofString "]").cps.size=1:=by decide
  obtain ⟨d,e⟩:=oh _ 0 (Str.ofString "[") (aV _ (by decide)) b (by omega)
  refine ⟨a,?_⟩
  show M.sOk (textFrom 0 (Str.ofString "[") (PyData.shownAll (M.datTs ts))++Str.ofString "]")=true/\(textFrom 0 (Str.ofString "[") (PyData.shownAll (M.datTs ts))++Str.ofString "]").cps.size<=M.szRs ts+4
  exact ⟨bY d (aV _ (by decide)) (by omega),by rw [dA]; omega⟩
 | .dct _ _,h,_=>by cases h
 | .ins _ _ _,h,_=>by cases h
 | .scr _,h,_=>by cases h
 | .gone,h,_=>by cases h
theorem eC:∀ ts:List M.T,M.rOks ts=true->M.szRs ts<=M.LIM->PyData.showableAll (M.datTs ts)=true/\(∀ s∈PyData.shownAll (M.datTs ts),M.sOk s=true)/\dF (PyData.shownAll (M.datTs ts))<=M.szRs ts
 | [],_,_=>⟨rfl,(fun _ h=>nomatch h),a0j _⟩
 | t::ts,h,hl=>by
  have hl':M.szR t+2+M.szRs ts<=M.LIM:=hl
  have h':(M.rOk t&&M.rOks ts)=true:=h
  rw [a0d] at h'
  obtain ⟨a,b,c⟩:=jP t h'.1 (by omega)
  obtain ⟨d,e,f⟩:=eC ts h'.2 (by omega)
  refine ⟨?_,fun s hs=>?_,?_⟩
  ·show ((M.datT t).showable&&PyData.showableAll (M.datTs ts))=true
   rw [a,d]; rfl
  ·have hs:s∈(M.datT t).shown::PyData.shownAll (M.datTs ts):=hs
   rcases a0m.mp hs with rfl | hs
   ·exact b
   ·exact e s hs
  ·show dF ((M.datT t).shown::PyData.shownAll (M.datTs ts))<=M.szR t+2+M.szRs ts
   unfold dF at f ⊢
   rw [a0A,a2a]; omega
end
end MR

namespace MR
open PySem PySem.Spec PyProof.Rows L2 L3
section
variable {X:Cx}{sf sg:Nat->Option Nat}{C:M.Call}{pos p p2 p3:Pos}{ea eb ec:Expr}{a b c:M.E}{h:Bool}{n:Nat}{io:List Nat}{K:a0a}
theorem vO {o o':Option M.W}{w:M.W}(e:M.ixVT o o'=some w):∃ m ts n j t,o=some (m,.lst ts)/\m.kid=.s/\o'=some (n,.int j)/\M.atI ts j=some t/\w=(.s,t):=by
 unfold M.ixVT at e
 split at e
 ·rename_i ts n j
  cases e1:M.atI ts j with
  | none=>rw [e1] at e; cases e
  | some t=>rw [e1] at e; cases e; exact ⟨_,ts,n,j,t,rfl,rfl,rfl,e1,rfl⟩
 ·rename_i ts n j
  cases e1:M.atI ts j with
  | none=>rw [e1] at e; cases e
  | some t=>rw [e1] at e; cases e; exact ⟨_,ts,n,j,t,rfl,rfl,rfl,e1,rfl⟩
 ·cases e
end
end MR

namespace L3
open PySem PySem.Spec PyProof.Rows L2
end L3
namespace MR
open L2 L3 M
open PySem (Addr Str sizeLine)
end MR
namespace MR
open PySem PySem.Spec PyProof.Rows L2 L3
end MR

namespace L3
open PySem PySem.Spec PyProof.Rows L2
end L3
namespace MR
open PySem PySem.Spec PyProof.Rows L2 L3
end MR

namespace MR
open L2 L3 M
open PySem (Addr Str sizeLine)
end MR
namespace MR
open PySem PySem.Spec PyProof.Rows L2 L3
end MR

namespace L2
open PySem PySem.Spec PyProof.Rows
end L2
namespace L3
open PySem PySem.Spec PyProof.Rows L2
end L3
namespace MR
open L2 L3 M
open PySem (Addr Str sizeLine)
end MR
namespace MR
open PySem PySem.Spec PyProof.Rows L2 L3
end MR

namespace L3
open PySem PySem.Spec PyProof.Rows L2
end L3
namespace MR
open L2 L3 M
open PySem (Addr Str sizeLine)
end MR
namespace MR
open PySem PySem.Spec PyProof.Rows L2 L3
end MR

namespace MR
open L2 L3 M
open PySem (Addr Str sizeLine)
end MR
namespace MR
open PySem PySem.Spec PyProof.Rows L2 L3
end MR

namespace L3
open PySem PySem.Spec PyProof.Rows L2
end L3
namespace MR
open L2 L3 M
open PySem (Addr Str sizeLine)
end MR
namespace MR
open PySem PySem.Spec PyProof.Rows L2 L3
end MR

namespace MR
open L2 L3 M
open PySem (Addr Str sizeLine)
end MR
namespace MR
open PySem PySem.Spec PyProof.Rows L2 L3
end MR

namespace L3
open PySem PySem.Spec PyProof.Rows L2
section
variable {X:Cx}{lit:Str}{k:Nat}{p1 p2 pos:Pos}{e:Expr}{te:TE}
theorem tq (hl:lit.length<=1000)(hg:X.A.guards=some [])(hu:X.A.units+200 < cLine)(he:PE X e te):PE X (.JoinedStr [.Constant (.str lit) k p1,.FormattedValue e 114 none p2] pos) fun σ H Q=>te σ H fun v H1=>∃ ts,Has X.K H1 (.tup ts) v/\(toD (.tup ts)).showable=true/\(toD (.tup ts)).hasDict=false/\(toD (.tup ts)).depth<=64/\(toD (.tup ts)).shown.length<=1000000/\∀ y,Q (.str y) H1:=by
 intro pins s σ H Q I h
 refine JoinedStr_many (joinParts_cons (Calls.Constant_str ⟨?_,joinParts_cons ?_⟩))
 ·show (Str.empty++lit).length<=sizeLine
  rw [strLen_append,sizeLine_eq]
  show 0+lit.length<=_
  omega
 ·refine wpAny_bind (thn (he pins _ σ H _ (I.tok _) h) fun u s1 ⟨v,H1,I1,r,ts,ht,hs,hd,hp,hz,q⟩=>?_)
  obtain ⟨as,ra⟩:=Has.reads I1 ht r
  obtain ⟨a,vs,rfl,_,_⟩:=ht
  obtain rfl:u=Value.ref a:=r
  refine wpAny_bind (wpAny_standAt (wpAny_bind (wpAny_holding ?_)))
  have hz':(toD (.tup ts)).shown.length<=sizeLine:=by rw [sizeLine_eq]; omega
  refine pyReprObj_of_reads ra hs (PyData.noDict_hsm hd) hg (by omega) (fun _ _ e=>e) (fun h' u tk hk=>?_) hz'
  refine formatField_str (fun t' tk'=>⟨?_,joinParts_nil ⟨.str _,H1,((I1.kept hk).tok _).tok _,⟨_,rfl⟩,q _⟩ ?_⟩) hz'
  all_goals
   rw [strLen_append,strLen_append,sizeLine_eq]
   have:Str.empty.length=0:=rfl
   omega
end
end L3
namespace MR
open PySem PySem.Spec PyProof.Rows L2 L3
noncomputable def spX (K:a0a)(C:M.Call)(g:Nat):Sp:=fun vs H Q E=>∃ Z ws G,RepW K Z H ws vs G/\Own Z H G/\(∀ a,Z a->H a≠none) /\
 ((∃ w,C g ws=.ok (w,[])/\∀ v Z' H' G1,Rep K Z' H' w.1 w.2 v G1->Own Z' H' G1->Step Z H G Z' H' G1->Q v H') \/
  (∃ t,C g ws=.ex t/\∀ a Z' H',Rep K Z' H' .s t (.ref a) no->Step Z H G Z' H' no->E (.ref a) none H'))
section
variable {P:Program}{w:World}{K:a0a}{mg:Str->Option Value}{base:Heap}
theorem Fun.okX {x qual:Str}{st:Stmt}{f:Addr}{fd:FuncData}{N ps:List Str}{k:Nat}{C:M.Call}{d:M.Fn}(F:L2.Fun K x qual st f fd)(S:ak N ps (defScope st))(hps:d.ps=ps.length)(hle:ps.length<=N.length)(hio:d.io=[])
  (hbody:∀ (cdv:Value) (A:Around) (outer:List Env) (s:Shared) (H:Hp) (E:XK),Room k (A.deeper (envOfC qual (defScope st) s.heap.objs.size f cdv)) ->
   SSs (dY (CX1 P w) P w K mg base N qual (defScope st) f cdv A outer s H E) (slN N.length) [] C (defBody st) d.body) {g:Nat} {C':M.Call} (hC:∀ ws,C' g ws=M.runF C d ws):bJ P w K mg base (CX1 P w) (k+1) f fd ps (spX K C' g):=by
 have len:∀ vs H Q E,spX K C' g vs H Q E->vs.length=ps.length:=fun vs H Q E ⟨Z,ws,G,r,_,_,h⟩=>by
  have:M.runF C d ws≠.no:=by
   rcases h with ⟨w,h,_⟩ | ⟨t,h,_⟩<;>(rw [hC] at h; rw [h]; intro z; cases z)
  unfold M.runF at this
  split at this
  ·rename_i h; rw [r.length,h,hps]
  ·exact absurd rfl this
 obtain ⟨oc,od,kV,doc,pm,an,cdv,ct,osl,rfl,lk,hcd⟩:=F.ex
 refine xi lk hcd S len fun A outer s H vs Q E hr h=>⟨_,hbody cdv A outer s H E hr,?_⟩
 have hlen:=len vs H Q E h
 obtain ⟨Z,ws,G,r,o,z,h⟩:=h
 have hwl:ws.length=d.ps:=by rw [<- r.length,hlen,hps]
 rw [hC,M.x_run _ _ _ hwl,hio] at h
 obtain ⟨Fs,ft,A0⟩:=jL (n:=d.ns) (io:=[]) r o z (N:=N) (by omega)
 refine ⟨_,Z,Fs,_,⟨fun i i' j h h'=>?_,fun i h=>if_neg h⟩,A0,?_⟩
 ·simp only [slN] at h h'
  split at h
  ·split at h'
   ·cases h; cases h'; rfl
   ·cases h'
  ·cases h
 cases e:M.evSs C d.body (ws.map some++a0r d.ns none) with
 | nx η =>
  rw [e] at h
  intro σ' Z' H' Fs' A' t
  rcases h with ⟨w,h,q⟩ | ⟨t,h,q⟩
  ·cases h
   exact q .non Z' H' no rfl (fun _ z=>z.elim) (t.mono ft fun a z=>z.elim)
  ·cases h
 | rt u η =>
  rw [e] at h
  intro v σ' Z' H' Fs' G' A' rp t
  rcases h with ⟨w,h,q⟩ | ⟨t,h,q⟩
  ·cases h
   exact q v Z' H' G' rp A'.own (t.mono ft fun a z=>.inr z)
  ·cases h
 | ex t η =>
  rw [e] at h
  intro v σ' Z' H' Fs' A' rp st pins s1 a C0 od0 ev ha I tr
  subst ev
  rcases h with ⟨w,h,q⟩ | ⟨t,h,q⟩
  ·cases h
  ·cases h
   exact su I ha tr (q a Z' H' rp (st.mono ft fun a z=>z.elim))
 | bk η=>rw [e] at h; rcases h with ⟨w,h,q⟩ | ⟨t,h,q⟩<;>cases h
 | no=>rw [e] at h; rcases h with ⟨w,h,q⟩ | ⟨t,h,q⟩<;>cases h
theorem EM {f:Addr}{fd:FuncData}{ps:List Str}{k g:Nat}{C:M.Call}(hC:∀ ws,C g ws=.no):bJ P w K mg base (CX1 P w) k f fd ps (spX K C g):=by
 have no:∀ {vs H Q E},spX K C g vs H Q E->False:=fun ⟨Z,ws,G,_,_,_,h⟩=>by rcases h with ⟨w,h,_⟩ | ⟨t,h,_⟩<;>(rw [hC] at h; cases h)
 exact ⟨fun _ _ _ _ h=>(no h).elim,fun _ _ _ _ _ _ _ _ _ _ _ _ _ h=>(no h).elim⟩
end
noncomputable def dj (P:Program)(w:World)(K:a0a)(mg:Str->Option Value)(base:Heap)(n:Nat)(C:M.Call)(x:Str)(g:Nat):Prop :=
 ∃ fa fd ps,bJ P w K mg base (CX1 P w) n fa fd ps (spX K C g)/\mg x=some (.ref fa)/\a1k K (.ref fa)=true/\Binds K fd ps []
noncomputable def wC (K:a0a)(Wx:L2.St->VK)(sf:Nat->Option Nat)(C:M.Call)(f:Nat)(es:List M.E):TE:=fun σ H Q=>∃ pv Z Fs η ws η',At K ⟨sf,pv⟩ σ Z H Fs η no/\M.evL C es η=.ok (ws,η') /\
 ((∃ w,C f ws=.ok (w,[])/\∀ v Z' H' Fs' G,At K ⟨sf,pv⟩ σ Z' H' Fs' η' G->Rep K Z' H' w.1 w.2 v G->Step Z H (tot Fs) Z' H' (fun a=>tot Fs' a\/G a)->Q v H') \/
  (∃ t,C f ws=.ex t/\∀ v Z' H' Fs',At K ⟨sf,pv⟩ σ Z' H' Fs' η' no->Rep K Z' H' .s t v no->Step Z H (tot Fs) Z' H' (tot Fs')->Wx σ v H'))
noncomputable def EX (X:Cx)(σ:L2.St):XK:=fun u _ H'=>∀ a,u=.ref a->xw X σ (.ref a) H'
section
variable {X:Cx}{sf:Nat->Option Nat}{C:M.Call}{pos p:Pos}{ea:Expr}{es:List Expr}{bs:List M.E}{x:Str}{n g:Nat}{io:List Nat}{vs:List Nat}{i j:Nat}
theorem mU {k:Nat}{f:Addr}{fd:FuncData}{ps:List Str}{sp:Sp}{pins:List (Addr×Obj)}{σ:L2.St}{H:Hp}{s:Shared}{Q:VK}{us:List Value}{vs:List V}(F:bJ X.prog X.w X.K X.mg X.base (CX1 X.prog X.w) k f fd ps sp)(hr:Room k X.A)(hb:Binds X.K fd ps [])
  (I:Inv X pins σ H s) (r:Vals vs us) (h:sp vs H Q (EX X σ)):wpAny (model X.prog X.w) X.A (call (.ref f) us) (EP X pins σ Q) X.xe s:=by
 have hl:(us++[]).length=ps.length:=by rw [a0B,<- r.length]; exact F.len _ _ _ _ h
 have bd:=hb s us I.kIn hl
 rw [a0B] at bd
 refine wpAny_call (codeAny_mono (F.run X.A X.stack s H ⟨us,[]⟩ us vs Q (EX X σ) hr I.env0 bd r h) fun r s' hq=>?_)
 cases r with
 | error e =>
  obtain ⟨a,C0,od,H',rfl,os,bare,un,hok,ha,tr,q⟩:=hq
  refine q a rfl pins s' a C0 od rfl ha (I.call' os un hok bare fun b z=>absurd z (by simp)) ?_
  obtain ⟨oe,ws,e1,e2,e3⟩:=tr
  refine ⟨oe,ws,e1,e2,e3.imp id fun ⟨T,oT,ts,y1,y2,y3,y4,y5,y6,y7⟩=>⟨T,oT,ts,y1,y2,y3,y4,y5,a0s I.sz y6,y7⟩⟩
 | ok fl =>
  cases fl with
  | ret u=>exact I.after hq
  | next=>exact a0R hq
  | brk=>exact a0R hq
  | cont=>exact a0R hq
theorem iL (c:dj X.prog X.w X.K X.mg X.base n C x g)(hr:Room n X.A)(ha:SL X sf C (ea::es) bs)(hg:Gl X x:=by rfl)(hdb:(x==("__debug__":Str))=false:=by decide)
  (he:starEach (ea::es) X.env=(false,eval ea X.env)::starEach es X.env:=by rfl) (hpl:(backTo pos (starEach es X.env)).any (·.1)=false:=by rfl):PE X (.Call (.Name x p) (ea::es) [] pos) (wC X.K (xw X) sf C g bs):=by
 obtain ⟨fa,fd,ps,F,hm,hk,hb⟩:=c
 intro pins s σ H Q I h
 obtain ⟨pv,Z,Fs,η,ws,η',A,ev,h⟩:=h
 refine wpAny_Call_Name_kw (cR I hg hm ?_ hdb)
 refine a2h (h₀:=X.base) I.ok.mod.kin hk (thn (ha pos pins s σ H (fun vs H1=>spX X.K C g vs H1 Q (EX X σ)) I ⟨pv,Z,Fs,η,ws,η',A,ev,fun vs Z1 H1 Fs1 G B r st=>?_⟩) fun us s1 ⟨vs,H1,I1,r,q⟩=>⟨I1.kIn,?_⟩) he hpl
 ·refine ⟨Z1,ws,G,r,B.own,B.gd.zal,?_⟩
  rcases h with ⟨w,e,q⟩ | ⟨t,e,q⟩
  ·refine .inl ⟨w,e,fun v Z2 H2 G1 r1 o s2=>?_⟩
   obtain ⟨B2,s3⟩:=B.op o s2
   exact q v Z2 H2 Fs1 G1 B2 r1 (st.trans s3)
  ·refine .inr ⟨t,e,fun a Z2 H2 r1 s2=>?_⟩
   obtain ⟨B2,s3⟩:=B.op (fun _ z=>z.elim) s2
   intro a' ea'
   cases ea'
   exact q (.ref a) Z2 H2 Fs1 B2 r1 ((st.trans s3).mono (fun _ z=>z) fun a z=>.inl z)
 ·exact mU F hr hb I1 r q
theorem Cv {k:M.W->M.Env->M.Fl}{K:a0a}{Wx:L2.St->VK}{pv:Nat->Option V}{Z:Fp}{H:Hp}{Fs:Fps}{η:M.Env}{D:bL}{σ:L2.St}{Q:VK}(A:At K ⟨sf,pv⟩ σ Z H Fs η no)
  (f:Fin K Wx ⟨sf,pv⟩ Z H (tot Fs) D (M.Fl.of η (M.evL C bs (M.share vs η)) (M.kC C g k)))
  (q:∀ w η1 v Z' H' Fs' G,Fin K Wx ⟨sf,pv⟩ Z H (tot Fs) D (k w η1)->At K ⟨sf,pv⟩ σ Z' H' Fs' η1 G->Rep K Z' H' w.1 w.2 v G->Step Z H (tot Fs) Z' H' (fun a=>tot Fs' a\/G a)->Q v H'):wC K Wx sf C g bs σ H Q:=by
 obtain ⟨⟨ws,η1⟩,h1,h2⟩:=aZ f
 have h2:Fin K Wx ⟨sf,pv⟩ Z H (tot Fs) D (M.outC k η1 (C g ws)):=h2
 obtain ⟨A1,s1⟩:=A.share (vs:=vs)
 have s0:Step Z H (tot Fs) (fun a=>Z a\/cj Fs vs a) H (tot (eG Fs vs)):=(s1 ((Step.refl Z H (tot Fs)).mono (fun _ z=>z) fun a z=>z.elim id fun y=>y.elim)).mono (fun _ z=>z) fun a z=>.inl z
 refine ⟨pv,_,_,_,ws,η1,A1,h1,?_⟩
 cases e:C g ws with
 | no=>rw [e] at h2; exact h2.elim
 | ex t =>
  rw [e] at h2
  exact .inr ⟨t,rfl,fun v Z' H' Fs' B r st=>h2 v σ Z' H' Fs' B r (s0.trans st)⟩
 | ok p =>
  obtain ⟨w,l⟩:=p
  rw [e] at h2
  cases l with
  | cons _ _=>exact h2.elim
  | nil=>exact .inl ⟨w,rfl,fun v Z' H' Fs' G B r st=>q w η1 v Z' H' Fs' G h2 B r (s0.trans st)⟩
theorem lY (ha:PE X ea (wC X.K (xw X) sf C g bs))(hs:swapsWith ea none pos.line X.env=pure false:=by rfl):SS X sf io C (.Expr ea pos) (.expC vs g bs) :=
 cq (dJ ha hs) fun D σ H h=>by
  obtain ⟨pv,Z,Fs,η,N,A,f⟩:=h
  exact Cv (k:=M.kExpC) (vs:=vs) A f fun w η1 v Z' H' Fs' G h2 B r st=>(show Fin X.K (xw X) ⟨sf,pv⟩ Z H (tot Fs) D (.nx η1) from h2) σ Z' H' Fs' B.bare (st.mono (fun _ z=>z) fun a ha=>.inl ha)
end
noncomputable def FkV (K:a0a):Nat->Hp->V->Prop
 | 0,_,y=>∃ n:Int,y=.int n/\n.natAbs.log2 < 1920
 | 1,H,y=>∃ ts,Has K H (.tup ts) y/\(toD (.tup ts)).showable=true/\(toD (.tup ts)).hasDict=false/\(toD (.tup ts)).depth<=64/\(toD (.tup ts)).shown.length<=1000000
 | 2,_,y=>∃ z,y=.str z
 | _,_,_=>False
noncomputable def spI (K:a0a)(C:Addr)(fld:Str)(fk:Nat):Sp:=fun vs H Q _=>∃ a y,vs=[.ref a,y]/\FkV K fk H y/\H a=some (XO a C none true)/\∀ dx,H dx=none->dx≠a->Q .non (upd (upd H dx (.xd [(fld,y)])) a (XO a C (some dx) true))
theorem Ee {K:a0a}{Z:Fp}{H:Hp}{m:M.Md}{t:M.T}{v:V}{G:Fp}{fk:Nat}(r:Rep K Z H m t v G)(h:M.fldOk fk m t=true):FkV K fk H v/\Rep K Z H .s t v no:=by
 match fk,m,t,h,r with
 | 0,_,.int n,h,r=>exact ⟨⟨n,r,of_decide_eq_true h⟩,r⟩
 | 2,_,.str z,h,r=>exact ⟨⟨z,r.1⟩,r.leaf (fun _ _ _ q=>q) rfl⟩
 | 1,.s,.tup ts,h,r =>
  have hb:(decide (M.dp (.tup ts)<=64)&&M.rOk (.tup ts)&&decide (M.szR (.tup ts)<=1000000))=true:=h
  rw [a0d,a0d,decide_eq_true_eq] at hb
  obtain ⟨⟨h1,h2⟩,h3⟩:=hb
  have h4:M.szR (.tup ts)<=1000000:=of_decide_eq_true h3
  have h3:M.szR (.tup ts)<=M.LIM:=a0s h4 (by show 1000000<=16777215; decide)
  obtain ⟨o1,o2,o3⟩:=hW (n:=64) h1 (a0j _) r
  obtain ⟨s1,s2,s3⟩:=jP (.tup ts) h2 h3
  refine ⟨⟨ths ts,o1,?_,PyData.hasDict_of_canLay _ o2,o3,?_⟩,Rep.sany r⟩
  ·show (toD (th (.tup ts))).showable=true
   rw [kU]; exact s1
  ·show (toD (th (.tup ts))).shown.length<=_
   rw [kU]; exact a0s s3 h4
section
variable {X:Cx}{sf:Nat->Option Nat}{C:M.Call}{pos p p2:Pos}{ea:Expr}{a:M.E}{x fld:Str}{c k fk:Nat}{io:List Nat}{xx:M.X}{Cc f:Addr}{up:List Value}{fd:FuncData}{ps:List Str}
theorem FkV.keep {K:a0a}{fk:Nat}{H:Hp}{a':Addr}{o:HO}{y:V}(h0:H a'=none)(h:FkV K fk H y):FkV K fk (upd H a' o) y:=by
 match fk,h with
 | 0,h=>exact h
 | 2,h=>exact h
 | 1,⟨t,q,r⟩=>exact ⟨t,q.mono fun b u e=>by rw [af (fun z=>by rw [z,h0] at e; cases e)]; exact e,r⟩
theorem ur {Z' G:Fp}{H':Hp}{a' dx:Addr}{t:M.T}{v:V}(nm:XNm X.K c Cc)(h0:H' a'=none)(hd0:H' dx=none)(hne:dx≠a')(ow:Own Z' H' G)(r:Rep X.K Z' H' .s t v no){H3:Hp}(q1:H3 a'=some (XO a' Cc (some dx) false))(q2:H3 dx=some (.xd [(fld,v)]))(q3:∀ b,b≠a'->b≠dx->H3 b=H' b) :
  Step Z' H' G (fun b=>Z' b\/b=a'\/b=dx) H3 no/\Rep X.K (fun b=>Z' b\/b=a'\/b=dx) H3 .s (.ins c [fld] [t]) (.ref a') no:=by
 have ne:∀ b,H' b≠none->b≠a'/\b≠dx:=fun b z=>⟨fun e=>z (by rw [e]; exact h0),fun e=>z (by rw [e]; exact hd0)⟩
 have st:Step Z' H' G (fun b=>Z' b\/b=a'\/b=dx) H3 no:={
  keep:=fun b o e _=>by obtain ⟨n1,n2⟩:=ne b (by rw [e]; simp); rw [q3 b n1 n2]; exact e
  zm:=fun b z=>.inl z
  zn:=fun b z=>z.elim .inl fun z=>.inr (.inr (z.elim (fun e=>by rw [e]; exact h0) fun e=>by rw [e]; exact hd0))
  fn:=fun _ z=>z.elim
  al:=fun b z=>by obtain ⟨n1,n2⟩:=ne b z; rw [q3 b n1 n2]; exact z
  za:=fun hz b z=>by
   rcases z with z | rfl | rfl
   ·obtain ⟨n1,n2⟩:=ne b (hz b z); rw [q3 b n1 n2]; exact hz b z
   ·rw [q1]; simp
   ·rw [q2]; simp }
 exact ⟨st,(fun z=>by cases z),a',dx,Cc,[v],rfl,.inr (.inl rfl),.inr (.inr rfl),q1,q2,rfl,nm,RepL.one (r.frame ow st fun _ z=>z.elim)⟩
theorem yL (xc:XC X.K Cc f up)(hu:de up=true)(nm:XNm X.K c Cc)(F:bJ X.prog X.w X.K X.mg X.base CX0 k f fd ps (spI X.K Cc fld fk))(hb:Binds X.K fd ps [])(hm:X.mg x=some (.ref Cc))(hr:Room (k+1) X.A)(ha:SE X sf C ea a)(hc:X.calm=true:=by rfl)(hg:Gl X x:=by rfl)
  (hdb:(x==("__debug__":Str))=false:=by decide) (hst:starEach [ea] X.env=(false,eval ea X.env)::starEach [] X.env:=by rfl) (hpl:(backTo p2 (starEach [] X.env)).any (·.1)=false:=by rfl) :
  SS X sf io C (.Raise (some (.Call (.Name x p) [ea] [] p2)) none pos) (.raise c fld fk xx a) :=
 cq (pF hc (qz (E:=E0) xc F hr hg hm hb xn (aH ha bO hst) hdb hst hpl)) fun D σ H h=>by
  obtain ⟨pv,Z,Fs,η,N,A,g⟩:=h
  obtain ⟨⟨⟨m,t⟩,η1⟩,h1,h2⟩:=aZ (show Fin X.K (xw X) ⟨sf,pv⟩ Z H (tot Fs) D (M.Fl.of η (M.evX C xx a η) (M.kRaise c fld fk)) from g)
  refine jd (sl:=⟨sf,pv⟩) A h1 fun v Z' H' Fs' G B r s=>?_
  have h3:Fin X.K (xw X) ⟨sf,pv⟩ Z H (tot Fs) D (if M.fldOk fk m t=true then .ex (.ins c [fld] [t]) η1 else .no):=h2
  split at h3
  ·rename_i hlt
   obtain ⟨fv,rs⟩:=Ee r hlt
   refine ⟨by show 1<=sizeLine; rw [sizeLine_eq]; omega,fun a' h0=>⟨a',v,rfl,fv.keep h0,ag,fun dx hd hne=>⟨rfl,a',Cc,some dx,f,up,rfl,ag,xc,hu,?_⟩⟩⟩
   have hd0:H' dx=none:=by rw [af hne] at hd; exact hd
   generalize hH:upd (upd (upd (upd H' a' (XO a' Cc none true)) dx (.xd [(fld,v)])) a' (XO a' Cc (some dx) true)) a' (XO a' Cc (some dx) false)=H3
   obtain ⟨st,r3⟩:=ur (fld:=fld) nm h0 hd0 hne B.own rs (H3:=H3) (by rw [<- hH,ag]) (by rw [<- hH,af hne,af hne,ag]) (fun b n1 n2=>by rw [<- hH,af n1,af n1,af n2,af n1])
   obtain ⟨B2,s2⟩:=B.op (fun _ z=>z.elim) st
   exact h3 (.ref a') σ _ H3 Fs' B2 r3 ((s.trans s2).mono (fun _ z=>z) fun b z=>.inl z)
  ·exact h3.elim
end
theorem At.drop {K:a0a}{sf:Nat->Option Nat}{pv:Nat->Option V}{io:List Nat}{σ:L2.St}{Z:Fp}{H:Hp}{Fs:Fps}{η:M.Env}{G:Fp}{i j:Nat}(N:nC sf io pv)(hi:i ∉ io)(hs:sf i=some j)(A:At K ⟨sf,pv⟩ σ Z H Fs η G):At K ⟨sf,pv⟩ (σ.set j none) Z H Fs (M.del η i) G:=by
 refine ⟨A.gd,fun l m t e=>?_,A.own,A.dis,fun l u q hu hq=>?_,fun l q hq=>by rw [a05]; exact A.ln l q hq⟩
 ·have e':M.rd (M.wr η i none) l=some (m,t):=e
  rw [bc] at e'
  split at e'
  ·cases e'
  ·rename_i hne
   have hli:l≠i:=fun z=>hne ⟨z,by rw [<- z]; exact df e'⟩
   obtain ⟨v,r,h1,h2⟩:=A.env l m t e'
   refine ⟨v,r,fun q hq=>?_,h2⟩
   have:q≠j:=fun z=>hli (N.inj l i j (by rw [<- z]; exact hq) hs)
   rw [a0V (a07 this)]
   exact h1 q hq
 ·have hli:l≠i:=fun z=>by
   have:=N.io i hi
   rw [<- z,show pv l=some u from hu] at this; cases this
  have:q≠j:=fun z=>hli (N.inj l i j (by rw [<- z]; exact hq) hs)
  show (σ.set j none)[q]?=_
  rw [a0V (a07 this)]
  exact A.lk l u q hu hq
theorem Fin.wish {K:a0a}{W W':L2.St->VK}{sl:Cf}{Z:Fp}{H:Hp}{F:Fp}{D:bL}{fl:M.Fl}(h:∀ σ v H,W σ v H->W' σ v H)(f:Fin K W sl Z H F D fl):Fin K W' sl Z H F D fl:=by
 cases fl with
 | nx η=>exact f
 | rt w η=>exact f
 | bk η=>exact f
 | ex t η=>exact fun v σ' Z' H' Fs' A r s=>h _ _ _ (f v σ' Z' H' Fs' A r s)
 | no=>exact f
section
variable {X:Cx}{sf:Nat->Option Nat}{C:M.Call}{pos pos' p:Pos}{io:List Nat}{cs:List Nat}{cn x:Str}{i:Nat}{B:Addr}{upB:List Value}{body suite:List Stmt}{b₀:Stmt}{ms hs:List M.S}
theorem DY (j:Nat)(hN:X.N.Nodup)(cb:∀ h,X.K.In h->∃ N' names',ff h B N' upB names')(hub:de upB=true)(hm:X.mg cn=some (.ref B))(hcs:∀ c∈cs,∀ C,XNm X.K c C->∃ f up,XC X.K C f up/\up.contains (.ref B)=true)
  (hb:∀ E' pn,SSs (L3.tx X E' pn) sf io C body ms) (hh:∀ a,SSs (L3.hx X a) sf io C (b₀::suite) hs)
  (hst:X.stack=X.env::X.outer:=by rfl) (hf:X.env.frame=some X.env.locals:=by rfl) (hi:i ∉ io:=by decide) (hs':sf i=some j:=by rfl) (hj:X.N[j]?=some x:=by rfl) (hk:X.env.scope.names.lookup x=some .local:=by rfl) (hg:Gl X cn:=by rfl) (hdb:(cn==("__debug__":Str))=false:=by decide) :
  SS X sf io C (.Try body [.ExceptHandler (some (.Name cn p)) (some x) (b₀::suite) pos'] [] [] pos) (.tryC cs ms i hs):=by
 refine cq (vt (i:=j) (tb:=fun W=>wSs X.K W sf io C ms) (th:=fun a=>wSs X.K (xw (L3.hx X a)) sf io C hs) hst hf hN hj hk hg hm cb hub (fun E' pn=>hb E' pn) hh hdb fun W W' D σ H h ⟨pv,Z,Fs,η,N,A,f⟩=>⟨pv,Z,Fs,η,N,A,Fin.wish h f⟩) fun D σ H h=>?_
 obtain ⟨pv,Z,Fs,η,N,A,f⟩:=h
 have f:Fin X.K (xw X) ⟨sf,pv⟩ Z H (tot Fs) D (M.Fl.caught cs i (M.evSs C hs) (M.evSs C ms η)):=f
 refine ⟨pv,Z,Fs,η,N,A,?_⟩
 cases e:M.evSs C ms η with
 | nx η1=>rw [e] at f; exact f
 | rt w η1=>rw [e] at f; exact f
 | bk η1=>rw [e] at f; exact f
 | no=>rw [e] at f; exact f
 | ex t η1 =>
  rw [e] at f
  intro v σ' Z' H' Fs' A' r st
  cases t with
  | ins c fs vs =>
   have f:Fin X.K (xw X) ⟨sf,pv⟩ Z H (tot Fs) D (if cs.contains c=true then M.Fl.drop i (M.evSs C hs (M.put η1 i (.s,.ins c fs vs))) else .no):=f
   split at f
   ·rename_i hcc
    have r0:=r
    obtain ⟨_,a,dx,Cc,xs,rfl,z1,z2,e1,e2,l,nm,_⟩:=r
    obtain ⟨fI,up,xc,hu⟩:=hcs c (by simpa using hcc) Cc nm
    have A2:=At.set (w:=(.s,.ins c fs vs)) N hi hs' A' r0
    have f:=f.step st
    refine ⟨a,Cc,some dx,fI,up,rfl,e1,xc,hu,pv,Z',_,_,N,A2,?_⟩
    have tf:∀ b,tot (lb Fs' i no) b->tot Fs' b:=fun b z=>(bD z).elim id fun y=>y.elim
    cases e3:M.evSs C hs (M.put η1 i (.s,.ins c fs vs)) with
    | nx η2 =>
     rw [e3] at f
     exact fun σ2 Z2 H2 Fs2 A3 s2=>f _ Z2 H2 Fs2 (At.drop N hi hs' A3) (s2.mono tf fun _ z=>z)
    | rt w η2 =>
     rw [e3] at f
     exact fun v2 σ2 Z2 H2 Fs2 G2 A3 r3 s2=>f v2 _ Z2 H2 Fs2 G2 (At.drop N hi hs' A3) r3 (s2.mono tf fun _ z=>z)
    | bk η2=>rw [e3] at f; exact f.elim
    | ex t η2=>rw [e3] at f; exact f.elim
    | no=>rw [e3] at f; exact f.elim
   ·exact f.elim
  | _=>exact f.elim
end
end MR

namespace L3
open PySem PySem.Spec PyProof.Rows L2
theorem oH {X:Cx}{cv:Value}{rv:V}(rc:∀ u,RelV rv u->u=cv):dW X (.builtin "isinstance") (fun xs H Q=>∃ x b,xs=[x,rv]/\((∃ a C dx n fs,x=.ref a/\H a=some (XO a C (some dx) n)/\H dx=some (.xd fs)/\XF X.K C/\a0C X.K (.ref C) cv=some b)\/(x=.non/\a0C X.K (.type "NoneType") cv=some b))/\Q (.bl b) H):=by
 intro pins s σ H xs us Q I r h
 obtain ⟨x,b,rfl,h,q⟩:=h
 obtain ⟨u,w',rfl,ru,rw'⟩:=oZ r
 obtain rfl:w'=cv:=rc _ rw'
 rcases h with ⟨a,C,dx,n,fs,rfl,e,d,c,k⟩ | ⟨rfl,k⟩
 ·obtain rfl:u=Value.ref a:=ru
  exact yY I e d c k fun tk=>⟨.bl b,H,I.tok tk,rfl,q⟩
 ·exact cx I ru .non k fun tk=>⟨.bl b,H,I.tok tk,rfl,q⟩
end L3
namespace MR
open PySem PySem.Spec PyProof.Rows L2 L3
section
variable {X:Cx}{sf:Nat->Option Nat}{C:M.Call}{pos p p2 p3:Pos}{ea:Expr}{a:M.E}{h:Bool}{k fld:Str}{cs:List Nat}{cv:Value}{rv:V}
theorem ia {K:a0a}{Z:Fp}{H:Hp}{m:M.Md}{c:Nat}{fs:List Str}{vs:List M.T}{v:V}{G:Fp}(r:Rep K Z H m (.ins c fs vs) v G):∃ a dx xs,v=.ref a/\H a=some (XO a c (some dx) false)/\H dx=some (.xd (fs.zip xs))/\fs.length=vs.length/\XF K c/\RepL K Z H .s vs xs (fun _=>False):=by
 obtain ⟨_,a,dx,C,xs,e,_,_,h1,h2,l,⟨rfl,f⟩,r⟩:=r
 exact ⟨a,dx,xs,e,h1,h2,l,f,r⟩
theorem EU (ha:SE X sf C ea a)(hn:∀ c:Nat,XF X.K c->a0x X.K (.ref c) fld=some none)(hb:attributeBase ea fld X.env (eval ea X.env)=eval ea X.env:=by rfl):SE X sf C (.Attribute ea fld pos) (.op (.att fld) h [a]) :=
 aw (uR ha hb) fun σ H Q hw=>by
  obtain ⟨pv,Z,Fs,η,w,η',A,ev,k⟩:=hw
  obtain ⟨ws,h1,h2⟩:=b6 ev
  obtain ⟨⟨m,u⟩,η1,us,e1,e2,rfl⟩:=ay h1
  cases e2
  cases u with
  | ins c fs vs =>
   match fs,vs,h2 with
   | [g],[t],h2 =>
    have h3:(if (g==fld)=true then some ((M.lfM t,t):M.W) else none)=some w:=h2
    split at h3
    ·rename_i hg
     cases h3
     refine ⟨pv,Z,Fs,η,_,η',A,e1,fun x Z' H' Fs' G B r s=>?_⟩
     obtain ⟨a',dx,xs,e,q1,q2,l,f,rl⟩:=ia r
     obtain ⟨y,r',G1,G2,ex,_,_,_,ry,rn⟩:=rl
     cases ex
     obtain rfl:r'=[]:=rn
     refine ⟨a',c,dx,false,[(g,y)],y,e,q1,q2,f,hn c f,?_,?_⟩
     ·rw [<- beq_iff_eq.mp hg]; simp [a2c]
     ·refine k y Z' H' Fs' no B.bare ?_ (s.mono (fun _ z=>z) fun b z=>z.elim .inl fun y=>y.elim)
      show Rep X.K Z' H' (if t.leaf=true then .d else .s) t y no
      split
      ·rename_i hl
       exact ry.leaf (fun _ _ _ q=>q) hl
      ·exact Rep.sany ry
    ·cases h3
  | _=>cases h2
theorem wy {rk:PE X (.Name k p2) (fun σ H Q=>Q rv H)}(rc:∀ u,RelV rv u->u=cv)(hk:∀ c:Nat,XF X.K c->a0C X.K (.ref c) cv=some (cs.contains c))(hk0:a0C X.K (.type "NoneType") cv=some false)(hm:X.mg "isinstance"=none)(ha:SE X sf C ea a)(hg:Gl X "isinstance":=by rfl)
  (hs:starEach [ea,.Name k p2] X.env=(false,eval ea X.env)::starEach [.Name k p2] X.env:=by rfl) (hs2:starEach [.Name k p2] X.env=(false,eval (.Name k p2) X.env)::starEach [] X.env:=by rfl) (hpl:(backTo pos (starEach [.Name k p2] X.env)).any (·.1)=false:=by rfl) :
  SE X sf C (.Call (.Name "isinstance" p3) [ea,.Name k p2] [] pos) (.op (.isX cs) h [a]) :=
 aw (cN (oH rc) hg hm a1z (aH ha (aH rk bO hs2) hs) (by decide) (by decide) hs hpl) fun σ H Q hw=>by
  obtain ⟨pv,Z,Fs,η,w,η',A,ev,k⟩:=hw
  obtain ⟨ws,h1,h2⟩:=b6 ev
  obtain ⟨⟨m,u⟩,η1,us,e1,e2,rfl⟩:=ay h1
  cases e2
  cases u with
  | ins c fs vs =>
   have h3:some ((.d,.bl (cs.contains c)):M.W)=some w:=h2
   cases h3
   refine ⟨pv,Z,Fs,η,_,η',A,e1,fun x Z' H' Fs' G B r s=>?_⟩
   obtain ⟨a',dx,xs,e,q1,q2,l,f,rl⟩:=ia r
   exact ⟨x,_,rfl,.inl ⟨a',c,dx,false,_,e,q1,q2,f,hk c f⟩,bH (bF B s k)⟩
  | non =>
   have h3:some ((.d,.bl false):M.W)=some w:=h2
   cases h3
   refine ⟨pv,Z,Fs,η,_,η',A,e1,fun x Z' H' Fs' G B r s=>?_⟩
   obtain rfl:x=.non:=r
   exact ⟨.non,_,rfl,.inr ⟨rfl,hk0⟩,bH (bF B s k)⟩
  | _=>cases h2
end
end MR

namespace MR
open PySem PySem.Spec PyProof.Rows L2 L3
structure XCl (P:Program)(w:World)(K:a0a)(mg:Str->Option Value)(base:Heap)(x:Str)(c B:Nat)(fld:Str)(fk:Nat):Prop where
 ex:∃ f up fd ps,XC K c f up/\de up=true/\up.contains (.ref B)=true/\Binds K fd ps []/\∀ k,bJ P w K mg base CX0 (k+1) f fd ps (spI K c fld fk)
 xf:XF K c
 nm:mg x=some (.ref c)
structure XBs (K:a0a)(mg:Str->Option Value)(x:Str)(B:Nat)(cs:List Nat):Prop where
 nm:mg x=some (.ref B)
 cb:∃ upB,de upB=true/\∀ h,K.In h->∃ N' names',ff h B N' upB names'
 cs:∀ c∈cs,∃ f up,XC K c f up/\up.contains (.ref B)=true
structure XIs (K:a0a)(mg:Str->Option Value)(x:Str)(cv:Value)(cs:List Nat):Prop where
 nm:mg x=some cv\/(mg x=none/\bootBuiltins x=some cv)
 one:∀ c:Nat,XF K c->a0C K (.ref c) cv=some (cs.contains c)
 non:a0C K (.type "NoneType") cv=some false
section
variable {X:Cx}{sf:Nat->Option Nat}{C:M.Call}{pos pos' p p2 p3:Pos}{ea:Expr}{a:M.E}{x k fld cn:Str}{c B n i C' fk:Nat}{io cs:List Nat}{xx:M.X}{h:Bool}{body suite:List Stmt}{b₀:Stmt}{ms hs:List M.S}
theorem lF (r:XCl X.prog X.w X.K X.mg X.base x c B fld fk)(hr:Room (n+2) X.A)(ha:SE X sf C ea a)(hc:X.calm=true:=by rfl)(hg:Gl X x:=by rfl)
  (hdb:(x==("__debug__":Str))=false:=by decide) (hst:starEach [ea] X.env=(false,eval ea X.env)::starEach [] X.env:=by rfl) (hpl:(backTo p2 (starEach [] X.env)).any (·.1)=false:=by rfl) :
  SS X sf io C (.Raise (some (.Call (.Name x p) [ea] [] p2)) none pos) (.raise c fld fk xx a):=by
 obtain ⟨f,up,fd,ps,xc,hu,_,hb,F⟩:=r.ex
 exact yL (k:=n+1) xc hu ⟨rfl,r.xf⟩ (F n) hb r.nm hr ha hc hg hdb hst hpl
theorem Av (j:Nat)(hN:X.N.Nodup)(b:XBs X.K X.mg cn B cs)(hb:∀ E' pn,SSs (L3.tx X E' pn) sf io C body ms)(hh:∀ a,SSs (L3.hx X a) sf io C (b₀::suite) hs)
  (hst:X.stack=X.env::X.outer:=by rfl) (hf:X.env.frame=some X.env.locals:=by rfl) (hi:i ∉ io:=by decide) (hs':sf i=some j:=by rfl) (hj:X.N[j]?=some x:=by rfl) (hk:X.env.scope.names.lookup x=some .local:=by rfl) (hg:Gl X cn:=by rfl) (hdb:(cn==("__debug__":Str))=false:=by decide) :
  SS X sf io C (.Try body [.ExceptHandler (some (.Name cn p)) (some x) (b₀::suite) pos'] [] [] pos) (.tryC cs ms i hs):=by
 obtain ⟨upB,hu,cb⟩:=b.cb
 exact DY j hN cb hu b.nm (fun c hc C0 nm=>by obtain ⟨rfl,_⟩:=nm; exact b.cs c hc) hb hh hst hf hi hs' hj hk hg hdb
theorem CP (r:XIs X.K X.mg k (.ref C') cs)(hm:X.mg "isinstance"=none)(ha:SE X sf C ea a)(hg:Gl X "isinstance":=by rfl)(hg2:Gl X k:=by rfl)(hd:(k==("__debug__":Str))=false:=by decide)
  (hs:starEach [ea,.Name k p2] X.env=(false,eval ea X.env)::starEach [.Name k p2] X.env:=by rfl) (hs2:starEach [.Name k p2] X.env=(false,eval (.Name k p2) X.env)::starEach [] X.env:=by rfl) (hpl:(backTo pos (starEach [.Name k p2] X.env)).any (·.1)=false:=by rfl) (hb:bootBuiltins k=none:=by kernel_rfl) :
  SE X sf C (.Call (.Name "isinstance" p3) [ea,.Name k p2] [] pos) (.op (.isX cs) h [a]):=by
 have nm:X.mg k=some (.ref C'):=by
  rcases r.nm with z | ⟨_,z⟩
  ·exact z
  ·rw [hb] at z; cases z
 exact wy (rv:=.ref C') (cv:=.ref C') (rk:=iq hg2 nm hd) (fun u z=>z) r.one r.non hm ha hg hs hs2 hpl
theorem DR {T:String}(r:XIs X.K X.mg k (.type T) cs)(hm:X.mg "isinstance"=none)(ha:SE X sf C ea a)(hm2:X.mg k=none)(hb:bootBuiltins k=some (.type T):=by first | exact PyProof.Rows.Boot.«ValueError» | kernel_rfl)(hn:k≠"__name__":=by decide)(hg:Gl X "isinstance":=by rfl)(hg2:Gl X k:=by rfl)(hd:(k==("__debug__":Str))=false:=by decide)
  (hs:starEach [ea,.Name k p2] X.env=(false,eval ea X.env)::starEach [.Name k p2] X.env:=by rfl) (hs2:starEach [.Name k p2] X.env=(false,eval (.Name k p2) X.env)::starEach [] X.env:=by rfl) (hpl:(backTo pos (starEach [.Name k p2] X.env)).any (·.1)=false:=by rfl) :
  SE X sf C (.Call (.Name "isinstance" p3) [ea,.Name k p2] [] pos) (.op (.isX cs) h [a]) :=
 wy (rv:=.ty T) (cv:=.type T) (rk:=wx hg2 hm2 hb hn hd) (fun u z=>z) r.one r.non hm ha hg hs hs2 hpl
end
section
variable {P:Program}{w:World}{K:a0a}{mg:Str->Option Value}{base:Heap}{x:Str}{st:Stmt}{ps N:List Str}{n g:Nat}{C C':M.Call}{fn:M.Fn}
theorem Df.okX (e:Df K mg x st ps)(h:∀ f fd,L2.Fun K x x st f fd->bJ P w K mg base (CX1 P w) n f fd ps (spX K C g)):dj P w K mg base n C x g:=by
 obtain ⟨f,fd,F,b,m⟩:=e.ex
 exact ⟨f,fd,ps,h f fd F,m,F.kp,b⟩
theorem Df.zX (e:Df K mg x st ps)(hC:∀ ws,C g ws=.no:=by intro _; rfl):dj P w K mg base n C x g:=e.okX fun _ _ _=>EM hC
theorem Df.sX (e:Df K mg x st ps)(fn:M.Fn)(S:ak N ps (defScope st))
  (hb:∀ {f:Addr} {cdv:Value} {A:Around} {outer:List Env} {s:Shared} {H:Hp} {E:XK},Room n (A.deeper (envOfC x (defScope st) s.heap.objs.size f cdv))->SSs (dY (CX1 P w) P w K mg base N x (defScope st) f cdv A outer s H E) (slN N.length) [] C (defBody st) fn.body)
  (hC:∀ ws,C' g ws=M.runF C fn ws:=by intro _; rfl) (hps:fn.ps=ps.length:=by rfl) (hle:ps.length<=N.length:=by decide) (hio:fn.io=[]:=by rfl):dj P w K mg base (n+1) C' x g :=
 e.okX fun f fd F=>Fun.okX F S hps hle hio (fun _ _ _ _ _ _ h=>hb h) hC
end
end MR

namespace MR
open PySem PySem.Spec PyProof.Rows L2 L3
noncomputable def wR (K:a0a)(C:Addr)(up:List Value)(cd:ClassData)(sl:Array (Option Value)):Bool :=
 (match sl.toList with | [_,_,_,_,some (.builtin m),_]=>m=="ValueError.__new__" | _=>false)&&(cd.mro==.ref C::up&&(!cd.hasDel&&PySem.W.nsOkIn K cd.ns))
noncomputable def sd (K:a0a)(C:Addr)(up:List Value):Bool:=match K.lookup C with
 | some ⟨.type "type",_,.cls cd,sl⟩=>wR K C up cd sl
 | _=>false
theorem iU {K:a0a}{h:Heap}{N:Addr}{mg:Str->Option Value}{x:Str}{r:Option Value}(X:K.In h)(G:h.Ns N mg)(e:a1j K N x=some r):mg x=r:=by
 cases r with
 | none=>exact PySem.W.ns_none_of X G e
 | some v =>
  obtain ⟨o,es,ep,ho,hd,_,hf⟩:=G
  rw [<- hf x]
  unfold a1j at e
  split at e
  ·rename_i q
   cases (X _ _ q).symm.trans ho
   cases hd
   cases z:es.toList.find? (fun y=>y.key.isStr x) with
   | none=>rw [z] at e; dsimp only at e; split at e<;>cases e
   | some en =>
    rw [z] at e
    cases e
    show (es.find? (fun y=>y.key.isStr x)).map (·.val)=_
    rw [<- a2g,z]
    rfl
  ·cases e
theorem yo {K:a0a}{C:Addr}{up:List Value}(e:sd K C up=true):∃ N,∀ h,K.In h->ff h C N up (h.nsMap N)/\∀ x r,a1j K N x=some r->h.nsMap N x=r:=by
 unfold sd at e
 split at e
 ·rename_i dd cd sl ho
  unfold wR at e
  rw [a0d] at e
  obtain ⟨e1,e2⟩:=e
  split at e1
  ·rename_i k0 k1 k2 k3 m k5 hs
   simp only [a0d,beq_iff_eq,Bool.not_eq_true'] at e1 e2
   obtain ⟨hm,hdel,hns⟩:=e2
   obtain ⟨nm,bs,mro,ns,qn,hd,sn,sub,ab,col,del⟩:=cd
   dsimp only at hm hdel hns
   subst hm hdel e1
   have hsl:sl=#[k0,k1,k2,k3,some (.builtin "ValueError.__new__"),k5]:=by
    obtain ⟨l⟩:=sl
    simp only at hs
    rw [hs]
   subst hsl
   exact ⟨ns,fun h X=>⟨⟨⟨nm,qn,bs,hd,sn,sub,ab,col,dd,k0,k1,k2,k3,k5,X _ _ ho⟩,.of_isNs (a22 X hns)⟩,fun x r q=>iU X (.of_isNs (a22 X hns)) q⟩⟩
  ·cases e1
 ·cases e
noncomputable def fnB (K:a0a)(f:Addr):Bool:=match K.lookup f with
 | some ⟨.type "function",_,_,_⟩=>true
 | _=>false
noncomputable def kI (K:a0a)(C:Addr):Addr:=match K.lookup C with
 | some ⟨_,_,.cls cd,_⟩=>cd.ns
 | _=>0
noncomputable def xcB (K:a0a)(C f:Addr)(up:List Value):Bool :=
 sd K C up&&(a1j K (kI K C) "__init__"==some (some (.ref f))&&(PySem.W.tailIn K VE up&&(fnB K f&&(a1k K (.ref C)&&(a0x K (.ref C) "__setattr__"==some (some (.builtin "object.__setattr__"))&&((a1D K C).any (fun cd=>de cd.mro)&&a02 K C))))))
theorem ky {K:a0a}{C:Addr}{up:List Value}(e:sd K C up=true):∀ h,K.In h->ff h C (kI K C) up (h.nsMap (kI K C))/\∀ x r,a1j K (kI K C) x=some r->h.nsMap (kI K C) x=r:=by
 obtain ⟨N,q⟩:=yo e
 have:∀ h,K.In h->N=kI K C:=fun h X=>by
  obtain ⟨⟨nm,qn,bs,hd,sn,sub,ab,col,dd,k0,k1,k2,k3,k5,ho⟩,_⟩:=(q h X).1
  unfold sd at e
  unfold kI
  split at e
  ·rename_i hl
   rw [hl]
   cases (X _ _ hl).symm.trans ho
   rfl
  ·cases e
 intro h X
 rw [<- this h X]
 exact q h X
theorem gN {K:a0a}{C f:Addr}{up:List Value}(e:xcB K C f up=true):XC K C f up:=by
 unfold xcB at e
 simp only [a0d,beq_iff_eq] at e
 obtain ⟨e1,e2,e3,e4,e5,e6,e7,e8⟩:=e
 refine ⟨fun h X=>⟨_,_,(ky e1 h X).1,PySem.W.tail_of_in X e3,(ky e1 h X).2 _ _ e2⟩,fun h X=>?_,e5,e6,e7,e8⟩
 unfold fnB at e4
 split at e4
 ·rename_i hl
  exact ⟨_,X _ _ hl,rfl⟩
 ·cases e4
noncomputable def xfB (K:a0a)(C:Addr):Bool :=
 a0x K (.ref C) "__getattribute__"==some (some (.builtin "BaseException.__getattribute__"))&&(a0x K (.ref C) "__getattr__"==some none&&(a2W K (.ref C) (.type "BaseException")==some true&&(a02 K C&&(a0x K (.ref C) "__class__"==some (some (.builtin "object.__class__"))&&(a1m K (.builtin "object.__class__") "__get__"==some (some (.builtin "getset_descriptor.__get__"))&&(a1K K (.builtin "object.__class__")==some true&&a1L K C (.type "object")==some true))))))
theorem Cm {K:a0a}{C f:Addr}{up:List Value}(c:XC K C f up)(hu:de up=true)(e:xfB K C=true):XF K C:=by
 unfold xfB at e
 simp only [a0d,beq_iff_eq] at e
 obtain ⟨e1,e2,e3,e4,e5,e6,e7,e8⟩:=e
 exact ⟨⟨f,up,c,hu⟩,⟨e1,e2,e3⟩,e4,e5,e6,e7,e8⟩
noncomputable def tj (K:a0a)(p:Nat->Bool):Bool:=K.all fun q=>!((a1D K q.1).any fun cd=>de cd.mro) || p q.1
theorem kb {K:a0a}{p:Nat->Bool}(e:tj K p=true){c:Nat}(x:XF K c):p c=true:=by
 obtain ⟨f,up,xc,_⟩:=x.xc
 have po:=xc.po
 obtain ⟨cd,hc,_⟩:=a1v po
 have:∃ o,(c,o)∈K:=by
  unfold a1D at hc
  split at hc
  ·rename_i hl
   have hl':a2c c K=some _:=hl
   clear hc po xc e x
   induction K with
   | nil=>cases hl'
   | cons q r ih =>
    obtain ⟨a,o⟩:=q
    rw [a0Y] at hl'
    by_cases z:c=a
    ·exact ⟨o,by rw [z]; exact a0k ..⟩
    ·rw [show (c==a)=false from beq_false_of_ne z] at hl'
     obtain ⟨o',h⟩:=ih hl' hl'
     exact ⟨o',a0f _ h⟩
  ·cases hc
 obtain ⟨o,m⟩:=this
 have q:=a19.mp e (c,o) m
 rw [po] at q
 exact q
end MR

namespace L3
open PySem PySem.Spec PyProof.Rows L2
theorem nS {X:Cx}{Cs:List Addr}:dW X (.builtin "isinstance") (fun xs H Q=>∃ x p b,xs=[x,.ref p]/\SqT X.K H p (Cs.map V.ref)/\((∃ a C dx n fs,x=.ref a/\H a=some (XO a C (some dx) n)/\H dx=some (.xd fs)/\XF X.K C/\a1x X.K (.ref C) (Cs.map Value.ref)=some b)\/(x=.non/\a1x X.K (.type "NoneType") (Cs.map Value.ref)=some b))/\Q (.bl b) H):=by
 intro pins s σ H xs us Q I r h
 obtain ⟨x,p,b,rfl,hp,h,q⟩:=h
 obtain ⟨u,w',rfl,ru,rw'⟩:=oZ r
 cases rw'
 obtain ⟨its,rv,pt,hlen⟩:=I.tuple hp
 obtain rfl:its=Cs.map Value.ref:=by
  clear q h hp pt I hlen
  induction Cs generalizing its with
  | nil=>cases rv; rfl
  | cons c cs ih =>
   cases rv with
   | cons a b =>
    cases a
    rw [ih _ b]; rfl
 obtain ⟨⟨oc,od,odt,osl⟩,g1,g2,n,g3⟩:=pt
 have g2':oc=.type "tuple":=g2
 have g3':odt=.seq _ n:=g3
 subst g2' g3'
 have fin:∀ tk,EP X pins σ Q (.bool b) { s with toks:=tk }:=fun tk=>⟨.bl _,H,I.tok tk,rfl,q⟩
 rcases h with ⟨a,C,dx,n,fs,rfl,e,d,c,k⟩ | ⟨rfl,k⟩
 ·obtain rfl:u=Value.ref a:=ru
  obtain ⟨o,vs,t0,e0,e1,e2,e3,e4,e5,e6⟩:XOk a C (some dx) n s.heap:=(I.hok a _ e).1
  obtain ⟨mA,ns,r⟩:∃ mA,s.heap.Ns1 dx mA/\∀ f,RelO (fs.lookup f) (mA f):=I.hok dx _ d
  obtain ⟨od,ho,hl⟩:=cS ns
  have J:a08 s.heap a o C (some od):=⟨e0,e1,by unfold a2o; rw [e3],by rw [e2]; exact ho⟩
  exact a3q (mj c.xg c.hd c.ca c.cg c.ct c.mo) I.kIn J g1 k (fun z=>nomatch z) fin
 ·obtain rfl:u=Value.none:=ru
  exact a3q a27 I.kIn trivial g1 k (fun z=>nomatch z) fin
end L3
namespace MR
open PySem PySem.Spec PyProof.Rows L2 L3
structure XIt (K:a0a)(Cs cs:List Nat):Prop where
 one:∀ c:Nat,XF K c->a1x K (.ref c) (Cs.map Value.ref)=some (cs.contains c)
 non:a1x K (.type "NoneType") (Cs.map Value.ref)=some false
section
variable {X:Cx}{sf:Nat->Option Nat}{C:M.Call}{pos pos' p p2 p3 p4:Pos}{ea eb ec:Expr}{a c:M.E}{h:Bool}{k:Str}{Cs cs:List Nat}{es:List Expr}{io:List Nat}{xx:M.X}{bs bs':List M.E}{g g':Nat}{vs vs':List Nat}
theorem pn0:PA X [] (fun σ H Q=>Q (([]:List Nat).map V.ref) H):=bO
theorem pn1 {C':Nat}{cs':List Nat}(r:XIs X.K X.mg k (.ref C') cs')(t:PA X es (fun σ H Q=>Q (Cs.map V.ref) H))(hg:Gl X k:=by rfl)(hd:(k==("__debug__":Str))=false:=by decide)(hb:bootBuiltins k=none:=by kernel_rfl)(hs:starEach (.Name k p::es) X.env=(false,eval (.Name k p) X.env)::starEach es X.env:=by rfl):PA X (.Name k p::es) (fun σ H Q=>Q ((C'::Cs).map V.ref) H):=by
 have nm:X.mg k=some (.ref C'):=by
  rcases r.nm with z | ⟨_,z⟩
  ·exact z
  ·rw [hb] at z; cases z
 exact aH (iq hg nm hd) t hs
theorem Du {kt:Nat}{pt:Pos}(r:XIt X.K Cs cs)(t:PA X es (fun σ H Q=>Q (Cs.map V.ref) H))(hl:Cs.length<=100)(hm:X.mg "isinstance"=none)(ha:SE X sf C ea a)(hg:Gl X "isinstance":=by rfl)
  (hs:starEach [ea,.Tuple es kt pt] X.env=(false,eval ea X.env)::starEach [.Tuple es kt pt] X.env:=by rfl) (hs2:starEach [.Tuple es kt pt] X.env=(false,eval (.Tuple es kt pt) X.env)::starEach [] X.env:=by rfl) (hpl:(backTo pos (starEach [.Tuple es kt pt] X.env)).any (·.1)=false:=by rfl) :
  SE X sf C (.Call (.Name "isinstance" p3) [ea,.Tuple es kt pt] [] pos) (.op (.isX cs) h [a]) :=
 aw (cN (nS (Cs:=Cs)) hg hm a1z (aH ha (aH (oi t) bO hs2) hs) (by decide) (by decide) hs hpl) fun σ H Q hw=>by
  obtain ⟨pv,Z,Fs,η,w,η',A,ev,k⟩:=hw
  obtain ⟨ws,h1,h2⟩:=b6 ev
  obtain ⟨⟨m,u⟩,η1,us,e1,e2,rfl⟩:=ay h1
  cases e2
  have hz:(Cs.map V.ref).length<=sizeLine:=by rw [a0b,sizeLine_eq]; omega
  cases u with
  | ins c fs vs =>
   have h3:some ((.d,.bl (cs.contains c)):M.W)=some w:=h2
   cases h3
   refine ⟨pv,Z,Fs,η,_,η',A,e1,fun x Z' H' Fs' G B r' s=>⟨hz,fun p hp=>?_⟩⟩
   obtain ⟨a',dx,xs,e,q1,q2,l,f,rl⟩:=ia r'
   have sm:=iZ (o:=.tup (Cs.map V.ref)) hp
   exact ⟨x,p,_,rfl,.inl (.inl ag),.inl ⟨a',c,dx,false,_,e,sm _ _ q1,sm _ _ q2,f,r.one c f⟩,bH (jR sm (bF B s k))⟩
  | non =>
   have h3:some ((.d,.bl false):M.W)=some w:=h2
   cases h3
   refine ⟨pv,Z,Fs,η,_,η',A,e1,fun x Z' H' Fs' G B r' s=>⟨hz,fun p hp=>?_⟩⟩
   obtain rfl:x=.non:=r'
   have sm:=iZ (o:=.tup (Cs.map V.ref)) hp
   exact ⟨.non,p,_,rfl,.inl (.inl ag),.inr ⟨rfl,r.non⟩,bH (jR sm (bF B s k))⟩
  | _=>cases h2
theorem ot:∀ (tab:List (Str×Int)) (z:Str),eN (cG tab) (.inr z)=(tab.lookup z).map V.int
 | [],_=>rfl
 | (x,i)::r,z=>by
  by_cases hx:z=x
  ·subst hx
   simp [eN,cG,a2c]
  ·have hne:¬ (a2D x:Key)=a2D z:=fun q=>hx (a3Q q).symm
   have q:=ot r z
   rw [a0Y,beq_eq_false_iff_ne.mpr hx]
   unfold eN cG at q ⊢
   rw [a0A,List.find?_cons_of_neg (by simpa using hne)]
   exact q
theorem u0 {tab:List (Str×Int)}{d:Option Int}{dv:V}(hd:M.getI none d=.non/\dv=.non\/∃ i,d=some i/\dv=.int i)(hn:dt [] (cG tab)=cG tab)(h15:tab.length<=15)(σ:L2.St)(H:Hp)(Q:VK)(hw:wE X.K sf C (.op (.getK tab d) h [a]) σ H Q):wY ((cG tab).map fun kv=>(tC (kV kv.1),tC kv.2)) σ H fun x H1=>∃ ad,x=.ref ad/\IsD H1 ad/\wE X.K sf C a σ H1 fun y H2=>∃ o,yN H2 ad y o/\Q (o.getD dv) H2:=by
 obtain ⟨pv,Z,Fs,η,w',η',A,ev,k⟩:=hw
 obtain ⟨ws,h1,h2⟩:=b6 ev
 obtain ⟨⟨m,t0⟩,η1,us,e1,e2,rfl⟩:=ay h1
 cases e2
 cases t0 with
 | str z =>
  have h3:some ((.d,M.getI (tab.lookup z) d):M.W)=some w':=h2
  cases h3
  intro p hp
  refine eL _ _ ⟨ag,cG tab,rfl,by unfold cG; rw [a0b]; exact h15,?_⟩
  rw [hn]
  have eH:upd (upd H p (.dK [])) p (.dK (cG tab))=upd H p (.dK (cG tab)):=by
   funext q
   by_cases e:q=p
   ·rw [e,ag,ag]
   ·rw [af e,af e,af e]
  rw [eH]
  have st:Step Z H no Z (upd H p (.dK (cG tab))) no:=fm hp bG (fun _ q=>q.elim) Z (fun _ q=>q) fun _ q=>.inl q
  obtain ⟨A',s0⟩:=A.op bG st
  refine ⟨p,rfl,.inl ⟨_,.inl ag⟩,pv,Z,Fs,η,_,η',A',e1,fun y Z' H' Fs' G B r s=>?_⟩
  have np:¬ tot Fs p:=fun q=>by
   obtain ⟨_,xs,e⟩:=A.gd.own p q
   rw [hp] at e; cases e
  have hk:=s.keep p _ ag np
  have s1:Step Z H (tot Fs) Z (upd H p (.dK (cG tab))) (tot Fs):=s0.mono (fun _ q=>q.elim id fun q=>q.elim) fun _ q=>.inl q
  have sx:Step Z H (tot Fs) Z' H' (fun a=>tot Fs' a\/no a):=(s1.trans s).mono (fun _ z=>z) fun a ha=>ha.elim .inl fun z=>z.elim
  refine ⟨(tab.lookup z).map V.int,.inl ⟨cG tab,.inr z,.inl hk,r.1,(ot tab z).symm⟩,?_⟩
  cases hl:tab.lookup z with
  | some i =>
   rw [hl] at k
   exact k (.int i) Z' H' Fs' no B.bare rfl sx
  | none =>
   rw [hl] at k
   rcases hd with ⟨e,rfl⟩ | ⟨i,rfl,rfl⟩
   ·rw [e] at k
    exact k .non Z' H' Fs' no B.bare rfl sx
   ·exact k (.int i) Z' H' Fs' no B.bare rfl sx
 | _=>cases h2
theorem xX {n:Nat}{apos cpos:Pos}{tab:List (Str×Int)}{keys:List (Option Expr)}{values:List Expr}(hp:PPs X p2 keys values ((cG tab).map fun kv=>(tC (kV kv.1),tC kv.2)))(hr:Room n X.A)(ha:SE X sf C ea a)(hn:dt [] (cG tab)=cG tab)(h15:tab.length<=15)(hall:keys.all (·.isSome)=true)(hl:keys.length=values.length)(h0:keys≠[])(hk:keys.length<=15)(m:M1 X (.Dict keys values p2) "get" apos ea cpos:=by exact ⟨rfl,rfl,rfl,rfl⟩) :
  SE X sf C (.Call (.Attribute (.Dict keys values p2) "get" apos) [ea] [] cpos) (.op (.getK tab none) h [a]) :=
 aw (rB (De hr) (vh hp hall hl h0 hk) ha m) (u0 (dv:=.non) (.inl ⟨rfl,rfl⟩) hn h15)
end
end MR

namespace L3
open PySem PySem.Spec PyProof.Rows L2
theorem okTh.lay {t:Th}(o:okTh t):(toD t).canLay0=true:=SeqAt.canLay_of_shaped o
theorem i8 {X:Cx}{pins:List (Addr×Obj)}{s:Shared}{σ:L2.St}{H:Hp}{t:Th}{v:Value}{as:List Addr}(hu:X.A.units+65 < cLine)(I:Inv X pins σ H s)(ra:Reads s.heap v (toD t) as)(o1:okTh t)(e:Value->Bool)(he:∀ w,e w=true ↔ ∃ d bs,Reads s.heap w d bs/\PyData.eqv d (toD t)=true) :
  ∀ {ts:List Th} {vs:List V} {its:List Value},HasL X.K H ts vs->Vals vs its->(∀ u∈ts,okTh u)->(∀ w∈its,SeqAt.EqAt X.A.in1 s w v (e w))/\its.any e=ts.any fun u=>PyData.eqv (toD u) (toD t)
 | [],_,its,h,r,_=>by
  obtain rfl:_=[]:=h
  cases r
  exact ⟨(fun _ h=>nomatch h),rfl⟩
 | u::ts,_,its,⟨x,r',e0,h1,h2⟩,r,o=>by
  subst e0
  cases r with
  | cons r1 r2 =>
   rename_i w ws
   obtain ⟨bs,rb⟩:=Has.reads I h1 r1
   have o2:=o u a0k
   have ew:e w=PyData.eqv (toD u) (toD t):=by
    rw [a3r,he w]
    refine ⟨fun ⟨d,ds,rd,q⟩=>?_,fun q=>⟨_,_,rb,q⟩⟩
    rw [SeqAt.Reads.unique _ _ _ _ _ o2.lay rb rd]
    exact q
   obtain ⟨k1,k2⟩:=i8 hu I ra o1 e he h2 r2 fun z hz=>o z (a0f _ hz)
   refine ⟨fun z hz=>?_,by rw [a1C,a1C,ew,k2]⟩
   rcases a0m.mp hz with rfl | hz
   ·rw [ew]
    refine SeqAt.eqAt_reads _ _ X.A.in1 s _ _ _ _ rb ra o2.lay o1.lay ?_
    have:=SeqAt.depth_of_shaped (d:=toD u) o2
    show X.A.units+1+_ < cLine
    omega
   ·exact k1 z hz
theorem ux {X:Cx}(hu:X.A.units+65 < cLine):OpR X (compareOp .In) (fun x y H Q=>∃ t ts,Has X.K H t x/\okTh t/\Has X.K H (.lst ts) y/\(∀ u∈ts,okTh u)/\Q (.bl (ts.any fun u=>PyData.eqv (toD u) (toD t))) H):=by
 intro pins s σ H x y v u Q I rx ry h
 obtain ⟨t,ts,h1,o1,⟨a,vs,rfl,ha,hl⟩,o2,q⟩:=h
 obtain ⟨as,ra⟩:=Has.reads I h1 rx
 cases ry
 obtain ⟨its,rv,pl,hz⟩:=I.list (.inl (.inl ha))
 obtain ⟨e,he⟩:∃ e:Value->Bool,∀ w,e w=true ↔ ∃ d bs,Reads s.heap w d bs/\PyData.eqv d (toD t)=true:=⟨fun w=>@decide _ (a2y _),fun w=>@decide_eq_true_iff _ (a2y _)⟩
 obtain ⟨k1,k2⟩:=i8 hu I ra o1 e he hl rv o2
 refine SeqAt.in_listAt e pl.isList (fun w hw=>k1 w (by simpa using hw)) ⟨.bl _,H,I,rfl,?_⟩
 rw [show its.toArray.any e=its.any e by simp,k2]
 exact q
end L3
namespace MR
open PySem PySem.Spec PyProof.Rows L2 L3
section
variable {X:Cx}{sf sg:Nat->Option Nat}{C:M.Call}{pos p p2 p3:Pos}{ea eb ec:Expr}{a b c:M.E}{h:Bool}{n:Nat}{io:List Nat}{K:a0a}
theorem lS {a:M.T}(ha:M.dp a<=64):∀ ts:List M.T,M.dps ts<=64->((ths ts).any fun u=>PyData.eqv (toD u) (toD (th a)))=ts.any fun t=>M.eqT t a
 | [],_=>rfl
 | t::ts,h=>by
  have h':max (M.dp t) (M.dps ts)<=64:=h
  show (PyData.eqv (toD (th t)) (toD (th a)) || (ths ts).any _)=_
  rw [iQ t a (by omega) ha,lS ha ts (by omega)]
  rfl
theorem oN {Z:Fp}{H:Hp}:∀ {ts:List M.T} {m:M.Md} {xs:List V} {G:Fp},M.dps ts<=64->RepL K Z H m ts xs G->∀ u∈ths ts,okTh u
 | [],_,_,_,_,_=>(fun _ h=>nomatch h)
 | t::ts,m,xs,G,hd,⟨x,r,G1,G2,e,_,_,_,p,q⟩=>fun u hu=>by
  have hd':max (M.dp t) (M.dps ts)<=64:=hd
  rcases a0m.mp (show u∈th t::ths ts from hu) with rfl | hu
  ·exact (eF (by omega) p).2
  ·exact oN (by omega) q u hu
theorem tO {m n:M.Md}{t u:M.T}{w:M.W}(e:M.oSem .inL h [(m,t),(n,u)]=some w):∃ ts,u=.lst ts/\M.dp t<=64/\M.dps ts<=64/\w=(.d,.bl (ts.any fun x=>M.eqT x t)):=by
 cases u with
 | lst ts =>
  have e':(if decide (M.dp t<=64)&&decide (M.dps ts<=64) then some ((.d,.bl (ts.any fun x=>M.eqT x t)):M.W) else none)=some w:=e
  split at e'
  ·rename_i hc
   rw [a0d,decide_eq_true_eq,decide_eq_true_eq] at hc
   cases e'
   exact ⟨ts,rfl,hc.1,hc.2,rfl⟩
  ·cases e'
 | _=>cases e
theorem uO:Loc K 2 .inL h fun xs H Q=>∀ x y,xs=[x,y]->∃ t ts,Has K H t x/\okTh t/\Has K H (.lst ts) y/\(∀ u∈ts,okTh u)/\Q (.bl (ts.any fun u=>PyData.eqv (toD u) (toD t))) H:=by
 intro ws w xs Z H G Q hn e r ow za k x y hx
 subst hx
 obtain ⟨⟨m,a⟩,⟨n,b⟩,rfl⟩:=eP r.length.symm
 obtain ⟨G1,G2,w1,w2,d,r1,r2⟩:=cI r
 obtain ⟨ts,e1,h1,h2,rfl⟩:=tO e
 subst e1
 obtain ⟨o1,o2⟩:=eF h1 r1
 obtain ⟨p,xs,rfl,hs,hl,q⟩:=bu r2
 obtain ⟨k1,k2,k3⟩:=dD (n:=64) h2 (a0j _) q
 refine ⟨th a,ths ts,o1,o2,⟨p,xs,rfl,hs,k1⟩,oN h2 q,?_⟩
 rw [lS h1 ts h2]
 exact bH k
theorem E4 (hr:Room n X.A)(ha:SE X sf C ea a)(hb:SE X sf C eb b)(hm:behindInMarks .In eb=false:=by rfl):SE X sf C (.Compare ea [.In] [eb] pos) (.op .inL h [a,b]):=aw (eT (ux (by have:=hr.un; omega)) ha hb hm) (aQ uO)
theorem EB (j:Nat){i:Nat}{x:Str}{px:Pos}(ha:SE X sf C ea a)(hpi:eZ ea:=by intro _ _; rfl)(hs:sf i=some j:=by rfl)(hN:X.N[j]?=some x:=by rfl)(hv:Vis X.env.scope x:=by first | exact a0E rfl | exact a0z (a0E rfl) | exact a0z (a0z rfl))(hd:(x==("__debug__":Str))=false:=by decide)(hcd:(x==("__classdict__":Str))=false:=by decide) :
  SE X sf C (.Subscript (.Name x px) ea pos) (.ixQ i a) :=
 aw (wu ix_any (bB hN hv hd hcd) ha hpi) fun σ H Q hw=>by
  obtain ⟨pv,Z,Fs,η,w,η',A,ev,k⟩:=hw
  obtain ⟨_,h0,h1⟩:=aa (show (M.chkL (M.rd η i)).bind (M.kPopN0 (M.evE C a) η (M.kIxQ i))=_ from ev)
  obtain ⟨m0,t0,h00⟩:=fM h0
  obtain ⟨a',xs0,hj,ha'⟩:=A.listAt hs h00
  obtain ⟨⟨u,η1⟩,h2,h3⟩:=aa (show (M.evE C a η).bind (M.kIxQ i)=_ from h1)
  obtain ⟨w',e1,e2⟩:=ai (show M.ret η1 (M.ixVT (M.rd η1 i) (some u))=_ from h3)
  cases e2
  obtain ⟨m,ts,n,q,t,r1,hm,r2,r3,rfl⟩:=vO e1
  cases r2
  refine ⟨.ref a',hj,pv,Z,Fs,η,_,_,A,h2,fun z Z' H' Fs' G B rz s=>?_⟩
  obtain ⟨v,rv,hv1⟩:=B.env i m (.lst ts) r1
  have hj2:=hv1.1 j hs
  rw [hj] at hj2
  cases hj2
  obtain ⟨a2,xs,e3,hs1,hl,p⟩:=bu rv
  cases e3
  rw [hm] at p
  obtain ⟨y,hy,ry⟩:=ka p r3
  obtain rfl:z=V.int q:=rz
  exact ⟨a',xs,q,y,rfl,rfl,.inl (.inl (.inl hs1)),hy,k y Z' H' Fs' no B.bare ry.sany (s.mono (fun _ z=>z) fun b hb=>hb.elim .inl fun z=>z.elim)⟩
end
end MR

namespace A09
open M
open PySem (Str)
noncomputable abbrev q:=Str.ofString
noncomputable abbrev bp:Nat:=24
noncomputable abbrev aK:Nat:=44
noncomputable abbrev aN:Nat:=63
noncomputable abbrev ao:Nat:=82
noncomputable abbrev aD:Nat:=101
noncomputable abbrev aL:Nat:=120
noncomputable abbrev aM:Nat:=139
noncomputable def keys_AHEAD:List Str:=[q "num",q "name",q "none",q "let",q "each",q "times"]
noncomputable def tab_BINDING:List (Str×T):=[(q "let",.int 1),(q "each",.int 1),(q "times",.int 2)]
noncomputable def bS:Fn:={ ps:=2,ns:=0,io:=[],body:=[
  .ite (.q [0] []) (.op .eq false [.op .ix false [.var 0,.cst (.int 0)],.cst (.str (q "num"))]) [
   .ret [] (.call 3 [.mv 1])] [],
  .ite (.q [0] []) (.op .eq false [.op .ix false [.var 0,.cst (.int 0)],.cst (.str (q "truth"))]) [
   .ret [] (.op (.isI ["bool"]) false [.mv 1])] [],
  .ite (.q [0] []) (.op .eq false [.op .ix false [.var 0,.cst (.int 0)],.cst (.str (q "pair"))]) [
   .ret [] (.call 4 [.mv 0,.mv 1])] [],
  .ret [] (.call 5 [.mv 0,.mv 1])] }
noncomputable def bE:Fn:={ ps:=1,ns:=0,io:=[],body:=[
  .ite (.q [0] []) (.or (.not (.op (.isI ["int"]) false [.var 0])) (.op (.isI ["bool"]) false [.var 0])) [
   .ret [] (.cst (.bl false))] [],
  .ret [] (.chain .le .le (.op .neg false [.cst (.int 1000000000000000000)]) (.mv 0) (.cst (.int 1000000000000000000)))] }
noncomputable def aO:Fn:={ ps:=1,ns:=0,io:=[],body:=[
  .ret [] (.ifx (.inT false keys_AHEAD (.mv 0)) (.cst (.int 2)) (.cst (.int 1)))] }
noncomputable def dG:Fn:={ ps:=1,ns:=0,io:=[],body:=[
  .ret [0] (.op .sl1 false [.var 0,.call 175 [.op .ix false [.var 0,.cst (.int 0)]]])] }
noncomputable def br:Fn:={ ps:=2,ns:=0,io:=[],body:=[
  .ret [0] (.op .add false [.op .sl2 false [.var 0,.call 175 [.op .ix false [.var 0,.cst (.int 0)]]],.op .tuple false [.mv 1]])] }
noncomputable def cw:Fn:={ ps:=1,ns:=0,io:=[],body:=[
  .ret [] (.getT tab_BINDING (.op .ix false [.mv 0,.cst (.int 0)]))] }
noncomputable def cK:Fn:={ ps:=1,ns:=1,io:=[],body:=[
  .asg (.q [] []) 1 (.lst false []),
  .exp (.l [0]) (.call 254 [.var 0,.tup [],.io 1]),
  .ret [] (.mv 1)] }
noncomputable def bh:Fn:={ ps:=3,ns:=2,io:=[2],body:=[
  .forS [0] [] .enmT [.call 176 [.var 0]] [3,4] [
   .exp (.l [1,4]) (.call 254 [.var 4,.op .catT false [.var 1,.tup [.var 3]],.io 2])],
  .app (.q [1] []) 2 (.var 1)] }
noncomputable def f_part_at:Fn:={ ps:=2,ns:=3,io:=[],body:=[
  .asg (.q [0] []) 2 (.var 0),
  .forS [1] [] .seq [.var 1] [3] [
   .asg (.q [2] []) 4 (.call 176 [.var 2]),
   .ite (.q [4] [3]) (.or (.not (.call 2 [.tup [.cst (.str (q "num"))],.var 3])) (.not (.chain .le .lt (.cst (.int 0)) (.var 3) (.op .len false [.var 4])))) [
    .raise ao (q "place") 1 (.q [1] []) (.var 1)] [],
   .asg (.q [4] [3]) 2 (.op .ix false [.var 4,.var 3])],
  .ret [] (.mv 2)] }
noncomputable def bC:Fn:={ ps:=3,ns:=0,io:=[],body:=[
  .expC [0,1] 335 [.var 0,.var 1],
  .ret [] (.call 354 [.mv 0,.mv 1,.mv 2])] }
noncomputable def bz:Fn:={ ps:=3,ns:=1,io:=[],body:=[
  .ite (.q [1] []) (.op .eq false [.op .len false [.var 1],.cst (.int 0)]) [
   .ret [] (.mv 2)] [],
  .asg (.q [0] []) 3 (.op .list false [.call 176 [.var 0]]),
  .setI (.l [1,2]) 3 (.op .ix false [.var 1,.cst (.int 0)]) (.call 354 [.ixQ 3 (.op .ix false [.var 1,.cst (.int 0)]),.op .sl1 false [.var 1,.cst (.int 1)],.var 2]),
  .ret [] (.call 334 [.mv 0,.mv 3])] }
noncomputable def aG:Fn:={ ps:=2,ns:=1,io:=[],body:=[
  .asg (.q [] [0]) 2 (.op .mod false [.var 0,.cst (.int 6)]),
  .ite (.q [] [1,2]) (.or (.op .eq false [.var 1,.cst (.int 0)]) (.op .lt false [.var 2,.cst (.int 2)])) [
   .ret [] (.op .ix false [.lst false [.tup [.cst (.str (q "num"))],.tup [.cst (.str (q "truth"))]],.op .mod false [.mv 0,.cst (.int 2)]])] [],
  .ite (.q [] [2]) (.op .eq false [.var 2,.cst (.int 2)]) [
   .ret [] (.tup [.cst (.str (q "pair")),.call 171 [.op .fdiv false [.var 0,.cst (.int 6)],.op .sub false [.var 1,.cst (.int 1)]],.call 171 [.op .fdiv false [.var 0,.cst (.int 216)],.op .sub false [.var 1,.cst (.int 1)]]])] [],
  .ret [] (.tup [.cst (.str (q "row")),.call 171 [.op .fdiv false [.mv 0,.cst (.int 6)],.op .sub false [.mv 1,.cst (.int 1)]]])] }
noncomputable def bR:Fn:={ ps:=1,ns:=3,io:=[],body:=[
  .asg (.q [] [0]) 1 (.op .ix false [.lst false [.cst (.str (q "x")),.cst (.str (q "addx")),.cst (.str (q "rowe")),.cst (.str (q "numb")),.cst (.str (q "ab")),.cst (.str (q "z")),.cst (.str (q "abcdefgh")),.cst (.str (q "nots")),.cst (.str (q "truths")),.cst (.str (q "y"))],.op .mod false [.op .fdiv false [.var 0,.cst (.int 5)],.cst (.int 10)]]),
  .asg (.q [] [0]) 2 (.op .ix false [.lst false [.cst (.int 0),.cst (.int 1),.op .pow false [.cst (.int 10),.cst (.int 18)],.cst (.int 5),.op .mod false [.var 0,.op .add false [.op .pow false [.cst (.int 10),.cst (.int 18)],.cst (.int 1)]]],.op .mod false [.op .fdiv false [.var 0,.cst (.int 5)],.cst (.int 5)]]),
  .asg (.q [1] [0,2]) 3 (.lst false [.tup [.cst (.str (q "num")),.var 2],.tup [.cst (.str (q "yes"))],.tup [.cst (.str (q "no"))],.tup [.cst (.str (q "name")),.var 1],.tup [.cst (.str (q "none")),.call 171 [.op .fdiv false [.var 0,.cst (.int 5)],.cst (.int 4)]]]),
  .ret [] (.op .ix false [.mv 3,.op .mod false [.mv 0,.cst (.int 5)]])] }
noncomputable def f_law_tree:Fn:={ ps:=2,ns:=6,io:=[0],body:=[
  .asg (.l []) 2 (.ifx (.op .gt false [.lenV 0,.cst (.int 0)]) (.pop 0 []) (.cst (.int 0))),
  .ite (.q [] [1,2]) (.or (.op .eq false [.var 1,.cst (.int 0)]) (.op .eq false [.op .mod false [.var 2,.cst (.int 5)],.cst (.int 0)])) [
   .ret [] (.call 220 [.op .fdiv false [.mv 2,.cst (.int 5)]])] [],
  .asg (.q [] []) 3 (.lst false [.cst (.str (q "not")),.cst (.str (q "first")),.cst (.str (q "second")),.cst (.str (q "one")),.cst (.str (q "upto")),.cst (.str (q "long")),.cst (.str (q "sum")),.cst (.str (q "sums")),.cst (.str (q "most")),.cst (.str (q "flat")),.cst (.str (q "add")),.cst (.str (q "sub")),.cst (.str (q "mul")),.cst (.str (q "div"))]),
  .asg (.q [3] []) 3 (.op .add false [.var 3,.lst false [.cst (.str (q "rest")),.cst (.str (q "less")),.cst (.str (q "same")),.cst (.str (q "both")),.cst (.str (q "pair")),.cst (.str (q "pick")),.cst (.str (q "join")),.cst (.str (q "keep")),.cst (.str (q "cut")),.cst (.str (q "let")),.cst (.str (q "if")),.cst (.str (q "each")),.cst (.str (q "times"))]]),
  .asg (.q [] [2]) 4 (.op .mod false [.op .fdiv false [.var 2,.cst (.int 5)],.cst (.int 27)]),
  .asg (.q [3] [4]) 5 (.op .add false [.op .add false [.cst (.int 1),.op .int false [.op .gt false [.var 4,.cst (.int 9)]]],.op .int false [.op .isin false [.op .ix false [.var 3,.var 4],.tup [.cst (.str (q "if")),.cst (.str (q "times"))]]]]),
  .asg (.q [3] [4]) 6 (.tup [.op .ix false [.var 3,.var 4]]),
  .ite (.q [3] [4]) (.op .isin false [.op .ix false [.var 3,.var 4],.tup [.cst (.str (q "let")),.cst (.str (q "each")),.cst (.str (q "times"))]]) [
   .asg (.q [6] [2]) 6 (.op .add false [.var 6,.tup [.op .ix false [.lst false [.cst (.str (q "x")),.cst (.str (q "rowy")),.cst (.str (q "addx")),.cst (.str (q "b")),.cst (.str (q "numbs"))],.op .mod false [.op .fdiv false [.var 2,.cst (.int 135)],.cst (.int 5)]]]])] [],
  .forS [] [5] .rng [.var 5] [7] [
   .asg (.l [6]) 6 (.op .add false [.var 6,.tup [.call 229 [.io 0,.op .sub false [.var 1,.cst (.int 1)]]]])],
  .ret [] (.mv 6)] }
noncomputable def aT:Fn:={ ps:=1,ns:=0,io:=[],body:=[
  .ite (.q [0] []) (.op .isin false [.op .ix false [.var 0,.cst (.int 0)],.tup [.cst (.str (q "num")),.cst (.str (q "name")),.cst (.str (q "none"))]]) [
   .ret [] (.op .len false [.mv 0])] [],
  .ret [] (.op .add false [.cst (.int 1),.op .int false [.op .isin false [.op .ix false [.mv 0,.cst (.int 0)],.tup [.cst (.str (q "let")),.cst (.str (q "each")),.cst (.str (q "times"))]]]])] }
noncomputable def cf:Fn:={ ps:=2,ns:=3,io:=[],body:=[
  .asg (.q [] []) 2 (.lst false []),
  .asg (.q [0] []) 3 (.call 244 [.var 0]),
  .forS [0] [3] .rng [.var 3,.op .len false [.var 0]] [4] [
   .ext (.q [0,1] [3,4]) 2 (.call 351 [.op .ix false [.var 0,.var 4],.op .catT false [.var 1,.tup [.op .sub false [.var 4,.var 3]]]])],
  .ret [] (.op .add false [.mv 2,.lst false [.tup [.mv 1,.mv 0]]])] }
noncomputable def bM:Fn:={ ps:=3,ns:=1,io:=[],body:=[
  .ite (.q [1] []) (.op .eq false [.var 1,.tup []]) [
   .ret [] (.mv 2)] [],
  .asg (.q [0,1] []) 3 (.op .add false [.call 244 [.var 0],.op .ix false [.var 1,.cst (.int 0)]]),
  .ret [0,3] (.op .add false [.op .catT false [.op .sl2 false [.var 0,.var 3],.tup [.call 352 [.op .ix false [.var 0,.var 3],.op .sl1 false [.mv 1,.cst (.int 1)],.mv 2]]],.op .sl1 false [.var 0,.op .add false [.var 3,.cst (.int 1)]]])] }
noncomputable def aP:Fn:={ ps:=3,ns:=3,io:=[],body:=[
  .asg (.q [] []) 3 (.cst (.non)),
  .tryC [aK,aN,ao,aD,aL,aM] [
   .ite (.q [2] []) (.var 2) [
    .expC [0,1] 353 [.var 0,.var 1,.tup [.cst (.str (q "yes"))]]] [
    .expC [0,1] 335 [.var 0,.var 1]]] 4 [
   .asg (.q [4] []) 3 (.var 4)],
  .asg (.q [3] []) 5 (.op (.isX [aN,aM,aL,aK,aD]) false [.var 3]),
  .ret [3] (.and (.op (.isX [ao]) false [.var 3]) (.and (.op (.isX [aK,aN,ao,aD,aL,aM,bp]) false [.var 3]) (.and (.not (.mv 5)) (.op .eq false [.op (.att (q "place")) false [.var 3],.mv 1]))))] }
noncomputable def bb:Fn:={ ps:=1,ns:=5,io:=[],body:=[
  .asg (.q [0] []) 1 (.call 244 [.var 0]),
  .asg (.q [0] []) 2 (.op (.getK [(q "let",1),(q "each",1),(q "times",2)] none) false [.op .ix false [.var 0,.cst (.int 0)]]),
  .asg (.q [0] []) 3 (.call 233 [.var 0]),
  .ite (.q [0,2,3] [1]) (.or (.op .ne false [.call 176 [.var 0],.op .sl1 false [.var 0,.var 1]]) (.or (.op .ne false [.var 3,.var 2]) (.op (.isI ["bool"]) false [.var 3]))) [
   .ret [] (.cst (.bl false))] [],
  .asg (.q [0] [1]) 4 (.comp false .rng [.op .sub false [.op .len false [.var 0],.var 1]] [5] none (.tup [.cst (.str (q "num")),.var 5])),
  .ite (.q [0,4] [1]) (.op .ne false [.call 334 [.var 0,.var 4],.op .add false [.op .sl2 false [.var 0,.var 1],.op .tuple false [.var 4]]]) [
   .ret [] (.cst (.bl false))] [],
  .ret [0] (.op .eq false [.call 334 [.var 0,.op .list false [.op .sl1 false [.var 0,.mv 1]]],.var 0])] }
noncomputable def f_law:Fn:={ ps:=1,ns:=16,io:=[],body:=[
  .asg (.q [0] []) 1 (.call 229 [.op .list false [.op .sl2 false [.var 0,.cst (.int 40)]],.cst (.int 6)]),
  .asg (.q [1] []) 2 (.call 351 [.var 1,.tup []]),
  .ite (.q [1,2] []) (.op .ne false [.call 253 [.var 1],.comp false .sq2 [.var 2] [11,12] none (.var 11)]) [
   .ret [] (.cst (.bl false))] [],
  .forS [2] [] .sq2 [.var 2] [3,4] [
   .ite (.q [1,3,4] []) (.or (.op .ne false [.call 335 [.var 1,.var 3],.var 4]) (.not (.call 341 [.var 4]))) [
    .ret [] (.cst (.bl false))] []],
  .forS [0] [] .seq [.ifx (.op .gt false [.op .len false [.var 0],.cst (.int 0)]) (.op .sl2 false [.var 0,.cst (.int 8)]) (.lst false [.cst (.int 0)])] [5] [
   .asg (.q [2] [5]) 3 (.op .ix false [.op .ix false [.var 2,.op .mod false [.var 5,.op .len false [.var 2]]],.cst (.int 0)]),
   .asg (.q [] [5]) 6 (.call 229 [.lst true [.op .fdiv false [.var 5,.cst (.int 7)],.op .fdiv false [.var 5,.cst (.int 3)]],.cst (.int 2)]),
   .ite (.q [1,3,6] []) (.op .ne false [.call 353 [.var 1,.var 3,.var 6],.call 352 [.var 1,.var 3,.var 6]]) [
    .ret [] (.cst (.bl false))] [],
   .ite (.q [1,2] []) (.op .ne false [.call 253 [.var 1],.comp false .sq2 [.var 2] [13,14] none (.var 13)]) [
    .ret [] (.cst (.bl false))] [],
   .asg (.q [3] [5]) 7 (.op .mod false [.op .fdiv false [.var 5,.cst (.int 5)],.op .add false [.op .len false [.var 3],.cst (.int 1)]]),
   .asg (.q [] [5]) 8 (.op .ix false [.lst false [.op .neg false [.cst (.int 1)],.cst (.int 0),.cst (.int 1),.cst (.int 3),.op .neg false [.cst (.int 3)],.op .pow false [.cst (.int 10),.cst (.int 18)]],.op .mod false [.op .fdiv false [.var 5,.cst (.int 11)],.cst (.int 6)]]),
   .asg (.q [3] [5,7,8]) 9 (.op .add false [.op .catT false [.op .sl2 false [.var 3,.var 7],.tup [.var 8]],.op .sl1 false [.var 3,.op .add false [.var 7,.op .mod false [.op .fdiv false [.var 5,.cst (.int 2)],.cst (.int 2)]]]]),
   .asg (.q [2,9] []) 10 (.op .inL false [.var 9,.comp false .sq2 [.var 2] [15,16] none (.var 15)]),
   .ite (.q [1,9] [10]) (.and (.not (.var 10)) (.not (.call 355 [.var 1,.var 9,.cst (.bl false)]))) [
    .ret [] (.cst (.bl false))] [],
   .ite (.q [1,9] [10]) (.and (.not (.var 10)) (.not (.call 355 [.var 1,.var 9,.cst (.bl true)]))) [
    .ret [] (.cst (.bl false))] [],
   .ite (.q [1,9] [10]) (.and (.var 10) (.op .ne false [.call 335 [.call 353 [.var 1,.var 9,.tup [.cst (.str (q "yes"))]],.var 9],.tup [.cst (.str (q "yes"))]])) [
    .ret [] (.cst (.bl false))] []],
  .ret [] (.cst (.bl true))] }
noncomputable def prog:List Fn:=[f_law,zf,bS,bE,zf,zf,zf,zf,zf,zf,zf,zf,zf,zf,zf,zf,zf,zf,zf,zf,zf,zf,zf,zf,zf,zf,zf,zf,zf,zf,zf,zf,zf,zf,zf,zf,zf,zf,zf,zf,zf,zf,zf,zf,zf,zf,zf,zf,zf,zf,zf,zf,zf,zf,zf,zf,zf,zf,zf,zf,zf,zf,zf,zf,zf,zf,zf,zf,zf,zf,zf,zf,zf,zf,zf,zf,zf,zf,zf,zf,zf,zf,zf,zf,zf,zf,zf,zf,zf,zf,zf,zf,zf,zf,zf,zf,zf,zf,zf,zf,zf,zf,zf,zf,zf,zf,zf,zf,zf,zf,zf,zf,zf,zf,zf,zf,zf,zf,zf,zf,zf,zf,zf,zf,zf,zf,zf,zf,zf,zf,zf,zf,zf,zf,zf,zf,zf,zf,zf,zf,zf,zf,zf,zf,zf,zf,zf,zf,zf,zf,zf,zf,zf,zf,zf,zf,zf,zf,zf,zf,zf,zf,zf,zf,zf,zf,zf,zf,zf,zf,zf,aG,zf,zf,zf,aO,dG,zf,zf,zf,zf,zf,zf,zf,zf,zf,zf,zf,zf,zf,zf,zf,zf,zf,zf,zf,zf,zf,zf,zf,zf,zf,zf,zf,zf,zf,zf,zf,zf,zf,zf,zf,zf,zf,zf,zf,zf,zf,zf,zf,bR,zf,zf,zf,zf,zf,zf,zf,zf,f_law_tree,zf,zf,zf,cw,zf,zf,zf,zf,zf,zf,zf,zf,zf,zf,aT,zf,zf,zf,zf,zf,zf,zf,zf,cK,bh,zf,zf,zf,zf,zf,zf,zf,zf,zf,zf,zf,zf,zf,zf,zf,zf,zf,zf,zf,zf,zf,zf,zf,zf,zf,zf,zf,zf,zf,zf,zf,zf,zf,zf,zf,zf,zf,zf,zf,zf,zf,zf,zf,zf,zf,zf,zf,zf,zf,zf,zf,zf,zf,zf,zf,zf,zf,zf,zf,zf,zf,zf,zf,zf,zf,zf,zf,zf,zf,zf,zf,zf,zf,zf,zf,zf,zf,zf,zf,br,f_part_at,zf,zf,zf,zf,zf,bb,zf,zf,zf,zf,zf,zf,zf,zf,zf,cf,bM,bC,bz,aP]
end A09

set_option compiler.extract_closed false
namespace P09
noncomputable section
open M A09
open PySem (Str)
local macro_rules
 | `(tactic| simp_all only [$ls,*])=>`(tactic| simp only [yQ,AR,Aq,yC,zl,zp,xM,tK,uI,vG,tX,uc,uv,t5,sW,ue,ug,t4,uF,u9,ve,uP,tQ,v7,v9,tY,vN,uN,vQ,sY,uC,rO,pQ,uY,uS,wd,s8,kN,qu,kOp,m5,kOr,nA,kC3,kC2,kC1,kBack,kCall,fq,fE,gn,dU,jX,mE,l7,aS,kX,kT,kT2,kIf,uy,oC,qv,sD,uL,jF,kNx,kRt,lK,vj,oj,okW,then',wV,fg,trees,ah,ios,putAll,A8,EA,zy,Bg,zu,uJ,vf,vZ,xD,AE,Ad,xV,yU,Bb,Ak,BQ,DG,DF,Cq,DM,CM,tm,uE,t7,tF,DL,x8,rC,sC,rR,pj,xU,uM,uo,qd,qb,Dd,Bz,DO,Dq,qL,sG,qw,zx,yE,Ax,zE,Bp,zZ,yz,yq,sQ,vK,tP,xJ,qa,rE,iS,CG,zG,rh,wo,Ea,Bh,y0,zS,Bo,xA,Aa,FK,FR,ED,EE,DC,gR,zh,Al,zC,DH,BP,Bc,CK,tM,yG,El,AO,Co,DE,uZ,ub,zJ,zD,yb,yI,oq,rq,r8,CU,pW,qy,vI,vm,uX,vB,yZ,Ba,yk,qm,dC,nG,mZ,nW,xB,xS,zg,sL,Be,Az,yO,xY,C3,pT,pS,An,AL,at0,at1,at2,at3,at4,a3j,a0T,a0B,a0A,a1q,a2d,List.replicate_zero,reduceIte,if_true,if_false,String.reduceBEq,a1F,a1y,a23,a3E,a3F,a24,vo,kIo,Aj,Ac,nV,pX,og,n6,mD,qD,mS,sF,mI,nh,i4,j8,kx,mC,AJ,lj,la,mN,kS,n9,kn,yP,FP,CI,zY,Bn,Eb,Aw,sZ,tU,CZ,xG,CD,Ao,CO,Dh,ym,qV,pG,AZ,nN,mM,xF,kE,oB,pd,zc,A6,kO,kF,ki,ji,j7,F6,ya,zM,s9,uB,oK,rN,ni,mR,yF,vn,Ci,Cj,BJ,Dc,E1,Cy,Cn,CF,CY,BA,Dl,Ew,DQ,Ec,B8,C2,B9,CJ,ET,BM,D7,CT,Ek,Ce,Ct,BS,D4,FZ,Fq,ES,Ae,tw,AA,AX,yu,kPopN0,yM,Am,zI,xE,FL,nP,nD,kIxQ,CQ,$ls,*])
noncomputable abbrev C (n:Nat):Call:=callR prog 1000000 1000001 n
theorem jq (n:Nat)(ws:List W):C (n+1) 2 ws=runF (C n) bS ws:=rfl
theorem iR (n:Nat)(ws:List W):C (n+1) 3 ws=runF (C n) bE ws:=rfl
theorem bV (n:Nat)(ws:List W):C (n+1) 171 ws=runF (C n) aG ws:=rfl
theorem fh (n:Nat)(ws:List W):C (n+1) 175 ws=runF (C n) aO ws:=rfl
theorem sy (n:Nat)(ws:List W):C (n+1) 176 ws=runF (C n) dG ws:=rfl
theorem jk (n:Nat)(ws:List W):C (n+1) 220 ws=runF (C n) bR ws:=rfl
theorem eM (n:Nat)(ws:List W):C (n+1) 229 ws=runF (C n) f_law_tree ws:=rfl
theorem kh (n:Nat)(ws:List W):C (n+1) 233 ws=runF (C n) cw ws:=rfl
theorem cD (n:Nat)(ws:List W):C (n+1) 244 ws=runF (C n) aT ws:=rfl
theorem nF (n:Nat)(ws:List W):C (n+1) 253 ws=runF (C n) cK ws:=rfl
theorem gp (n:Nat)(ws:List W):C (n+1) 254 ws=runF (C n) bh ws:=rfl
theorem gk (n:Nat)(ws:List W):C (n+1) 334 ws=runF (C n) br ws:=rfl
theorem fj (n:Nat)(ws:List W):C (n+1) 335 ws=runF (C n) f_part_at ws:=rfl
theorem ic (n:Nat)(ws:List W):C (n+1) 341 ws=runF (C n) bb ws:=rfl
theorem kf (n:Nat)(ws:List W):C (n+1) 351 ws=runF (C n) cf ws:=rfl
theorem f7 (n:Nat)(ws:List W):C (n+1) 352 ws=runF (C n) bM ws:=rfl
theorem gQ (n:Nat)(ws:List W):C (n+1) 353 ws=runF (C n) bC ws:=rfl
theorem eJ (n:Nat)(ws:List W):C (n+1) 354 ws=runF (C n) bz ws:=rfl
theorem fz (n:Nat)(ws:List W):C (n+1) 355 ws=runF (C n) aP ws:=rfl
theorem qi {ts:List T}{j:Nat}(h:j < ts.length):atI ts (j:Int)=some (ts.getD j .non):=atN rfl (by rw [a0p,a0n h]; rfl)
theorem dR {α:Type}{tg:List Nat}{f:Env->Fl}{g:α->List W}(I:List α->Env->Prop):∀ (ts pre:List α) (η:Env),I pre η->(∀ p x r η,pre++ts=p++x::r->I p η->∃ η1 η2,aY tg (g x) η=some η1/\f η1=.nx η2/\I (p++[x]) η2) ->
  ∃ η',dB tg f (ts.map g) η=.nx η'/\I (pre++ts) η'
 | [],pre,η,h,_=>⟨η,rfl,by rw [a0B]; exact h⟩
 | x::ts,pre,η,h,k=>by
  obtain ⟨η1,η2,h1,h2,h3⟩:=k pre x ts η rfl h
  obtain ⟨η',e,hi⟩:=dR I ts (pre++[x]) η2 h3 fun p y r η e=>k p y r η (by rw [<- e,a0O]; rfl)
  refine ⟨η',?_,by rw [a0O] at hi; exact hi⟩
  rw [a0A]
  show Fl.of _ (ofO (aY tg (g x) η)) _=_
  rw [h1]
  show Fl.turn (f η1) _=_
  rw [h2]
  exact e
theorem EZ {α:Type}(a:α)(r:List α):cut (a::r) (some 1) none=r:=by
 have e:sIx (a::r).length 0 (some 1)=1:=by
  show (if (1:Int) < 0 then ((1:Int)+((a::r).length:Int)).toNat else min (1:Int).toNat (a::r).length)=1
  rw [if_neg (by decide),a0g]
  show min 1 (r.length+1)=1
  omega
 have e2:sIx (a::r).length (a::r).length none=(a::r).length:=rfl
 rw [cut,e,e2]
 exact a1d (by rw [a0X]; omega)
theorem eA (h:Bool)(m n:Md)(ts:List T)(i:Int):oSem .sl1 h [(m,.tup ts),(n,.int i)]=some (.s,.tup (cut ts (some i) none)):=rfl
theorem pA (n:Nat)(s:Str)(m:Md):C (n+1) 175 [(m,.str s)]=.ok ((.d,.int (if keys_AHEAD.contains s then 2 else 1)),[]):=by
 rw [fh,x_run _ _ _ rfl]
 cases h:keys_AHEAD.contains s with
 | true=>simp_all only [aO,h,a2S]
 | false=>simp_all only [aO,h,a2S]
inductive KK:Nat->T->Prop
 | num {j:Nat}:KK (j+1) (.tup [.str (q "num")])
 | truth {j:Nat}:KK (j+1) (.tup [.str (q "truth")])
 | row {j:Nat} {t:T}:KK j t->KK (j+1) (.tup [.str (q "row"),t])
 | pair {j:Nat} {t u:T}:KK j t->KK j u->KK (j+1) (.tup [.str (q "pair"),t,u])
theorem md2 (i:Int)(n:Int)(hn:0 < n):∃ j:Nat,(j:Int) < n/\i % n=(j:Int):=⟨(i % n).toNat,by have:=a2K i (by omega:n≠0); have:=a25 i hn; omega,by have:=a2K i (by omega:n≠0); omega⟩
theorem eX:∀ (k:Nat) (n:Nat) (c:Int),∃ md t,(∀ m m',C (n+k+1) 171 [(m,.int c),(m',.int (k:Int))]=.ok ((md,t),[]))/\KK (k+1) t
 | k,n,c=>by
  obtain ⟨j,hj,ej⟩:=md2 c 6 (by decide)
  obtain ⟨i,hi,ei⟩:=md2 c 2 (by decide)
  have leafc:∀ b:Bool,((((k:Int)==0)=true/\b=true)\/(((k:Int)==0)=false/\decide ((j:Int) < 2)=true/\b=false))->∃ md t,(∀ m m',C (n+k+1) 171 [(m,.int c),(m',.int (k:Int))]=.ok ((md,t),[]))/\KK (k+1) t:=fun b hb=>by
   have hi':i=0\/i=1:=by omega
   have p2:decide ((0:Int) < 2)=true:=rfl
   have p6:decide ((0:Int) < 6)=true:=rfl
   rcases hi' with rfl | rfl
   ·refine ⟨.s,.tup [.str (q "num")],fun m m'=>?_,.num⟩
    rw [bV,x_run _ _ _ rfl]
    have e1:atI [T.tup [.str (q "num")],.tup [.str (q "truth")]] ((0:Nat):Int)=some (.tup [.str (q "num")]):=rfl
    rcases hb with ⟨h1,_⟩ | ⟨h1,h2,_⟩
    ·simp_all only [aG,p2,p6,ej,ei,h1,e1]
    ·simp_all only [aG,p2,p6,ej,ei,h1,h2,e1]
   ·refine ⟨.s,.tup [.str (q "truth")],fun m m'=>?_,.truth⟩
    rw [bV,x_run _ _ _ rfl]
    have e1:atI [T.tup [.str (q "num")],.tup [.str (q "truth")]] ((1:Nat):Int)=some (.tup [.str (q "truth")]):=rfl
    rcases hb with ⟨h1,_⟩ | ⟨h1,h2,_⟩
    ·simp_all only [aG,p2,p6,ej,ei,h1,e1]
    ·simp_all only [aG,p2,p6,ej,ei,h1,h2,e1]
  cases k with
  | zero=>exact leafc true (.inl ⟨rfl,rfl⟩)
  | succ k =>
   have h0:(((k+1:Nat):Int)==0)=false:=beq_eq_false_iff_ne.mpr (by omega)
   by_cases hj2:(j:Int) < 2
   ·exact leafc false (.inr ⟨h0,decide_eq_true hj2,rfl⟩)
   ·have d2:decide ((j:Int) < 2)=false:=decide_eq_false hj2
    have p6:decide ((0:Int) < 6)=true:=rfl
    have p6':decide ((6:Int) < 1073741824)=true:=rfl
    have p216:decide ((216:Int) < 1073741824)=true:=rfl
    have p217:decide ((0:Int) < 216)=true:=rfl
    have ek:((k+1:Nat):Int)-1=(k:Int):=by omega
    by_cases hj3:j=2
    ·subst hj3
     obtain ⟨m1,t1,e1,k1⟩:=eX k n (c / 6)
     obtain ⟨m2,t2,e2,k2⟩:=eX k n (c / 216)
     have b2:(((2:Nat):Int)==2)=true:=rfl
     exact ⟨_,.tup [.str (q "pair"),t1,t2],fun m m'=>by rw [show n+(k+1)+1=(n+k+1)+1 by omega,bV,x_run _ _ _ rfl]; simp_all only [aG,p6,p6',p216,p217,ej,h0,d2,b2,ek,e1,e2]; rfl,.pair k1 k2⟩
    ·obtain ⟨m1,t1,e1,k1⟩:=eX k n (c / 6)
     have b2:((j:Int)==2)=false:=beq_eq_false_iff_ne.mpr (by omega)
     exact ⟨_,.tup [.str (q "row"),t1],fun m m'=>by rw [show n+(k+1)+1=(n+k+1)+1 by omega,bV,x_run _ _ _ rfl]; simp_all only [aG,p6,p6',ej,h0,d2,b2,ek,e1]; rfl,.row k1⟩
noncomputable abbrev LF:List String:=["num","name","none"]
noncomputable abbrev BF:List String:=["let","each","times"]
noncomputable abbrev NF:List String:=["yes","no","not","first","second","one","upto","long","sum","sums","most","flat","add","sub","mul","div","rest","less","same","both","pair","pick","join","keep","cut","if"]
noncomputable def ar (s:String):Nat:=if s∈["yes","no"] then 0 else if s="if" then 3 else if s∈["add","sub","mul","div","rest","less","same","both","pair","pick","join","keep","cut"] then 2 else 1
noncomputable def arB (s:String):Nat:=if s="times" then 3 else 2
noncomputable abbrev b3:List T:=[.str (q "let"),.str (q "each"),.str (q "times")]
theorem fl2 (x a b:Str):(M.flatT (.str x)&&[T.str a,.str b].all M.flatT)=true:=rfl
theorem fl3 (x a b c:Str):(M.flatT (.str x)&&[T.str a,.str b,.str c].all M.flatT)=true:=rfl
theorem f27:fits 27=true:=rfl
noncomputable abbrev NL:List String:=["x","addx","rowe","numb","ab","z","abcdefgh","nots","truths","y"]
noncomputable abbrev NB:List String:=["x","rowy","addx","b","numbs"]
inductive WT:Nat->T->Prop
 | num {d:Nat} {i:Int}:0<=i->i<=1000000000000000000->WT (d+1) (.tup [.str (q "num"),.int i])
 | name {d:Nat} {s:String}:s∈NL->WT (d+1) (.tup [.str (q "name"),.str (q s)])
 | none {d:Nat} {k:T}:KK 5 k->WT (d+1) (.tup [.str (q "none"),k])
 | node {d:Nat} {s:String} {ps:List T}:s∈NF->ps.length=ar s->(∀ p∈ps,WT d p)->WT (d+1) (.tup (.str (q s)::ps))
 | bind {d:Nat} {s x:String} {ps:List T}:s∈BF->x∈NB->ps.length=arB s->(∀ p∈ps,WT d p)->WT (d+1) (.tup (.str (q s)::.str (q x)::ps))
theorem mdj (i:Int)(n:Nat)(hn:0 < n):∃ j:Nat,j < n/\i % (n:Int)=(j:Int):=by
 obtain ⟨j,h1,h2⟩:=md2 i n (by omega)
 exact ⟨j,by omega,h2⟩
noncomputable abbrev C5:List T:=[.str (q "x"),.str (q "addx"),.str (q "rowe"),.str (q "numb"),.str (q "ab"),.str (q "z"),.str (q "abcdefgh"),.str (q "nots"),.str (q "truths"),.str (q "y")]
theorem vc (n d:Nat)(c:Int):∃ md t,(∀ m,C (n+6) 220 [(m,.int c)]=.ok ((md,t),[]))/\WT (d+1) t:=by
 obtain ⟨j,hj,ej⟩:=mdj (c / 5) 10 (by decide)
 obtain ⟨i,hi,ei⟩:=mdj (c / 5) 5 (by decide)
 obtain ⟨k,hk,ek⟩:=mdj c 5 (by decide)
 obtain ⟨mk,tk,e1,kk⟩:=eX 4 n (c / 5)
 have a1:∃ s,s∈NL/\atI C5 (j:Int)=some (.str (q s)):=by
  have hm:NL.getD j ""∈NL:=by
   rw [a0p,a0n (show j < NL.length from hj)]
   exact a1G _
  refine ⟨NL.getD j "",hm,atN rfl ?_⟩
  have:C5=NL.map fun s=>T.str (q s):=rfl
  rw [this,a0y,a0n (show j < NL.length from hj),a0p,a0n (show j < NL.length from hj)]
  rfl
 obtain ⟨s,hs,a1⟩:=a1
 have e1':∀ m m',C (n+5) 171 [(m,.int (c / 5)),(m',.int 4)]=.ok ((mk,tk),[]):=e1
 have a2:∃ v,0<=v/\v<=1000000000000000000/\atI [T.int 0,.int 1,.int 1000000000000000000,.int 5,.int (c % (1000000000000000000+1))] (i:Int)=some (.int v):=by
  have h5:i=0\/i=1\/i=2\/i=3\/i=4:=by omega
  rcases h5 with rfl | rfl | rfl | rfl | rfl
  ·exact ⟨0,by decide,by decide,rfl⟩
  ·exact ⟨1,by decide,by decide,rfl⟩
  ·exact ⟨1000000000000000000,by decide,by decide,rfl⟩
  ·exact ⟨5,by decide,by decide,rfl⟩
  ·exact ⟨c % (1000000000000000000+1),a2K _ (by decide),by have:=a25 c (show (0:Int) < 1000000000000000000+1 by decide); omega,rfl⟩
 obtain ⟨v,v0,v1,a2⟩:=a2
 have p5:decide ((0:Int) < 5)=true:=rfl
 have p5':decide ((5:Int) < 1073741824)=true:=rfl
 have p10:decide ((0:Int) < 10)=true:=rfl
 have p18:decide ((0:Int) < 1000000000000000000+1)=true:=rfl
 have pw:(decide ((0:Int)<=18)&&decide ((18:Int)<=1000000)&&decide ((10:Int).natAbs < 18446744073709551616))=true:=rfl
 have pe:(10:Int) ^ (18:Int).toNat=1000000000000000000:=by decide +kernel
 have ej':c / 5 % 10=(j:Int):=ej
 have ei':c / 5 % 5=(i:Int):=ei
 have ek':c % 5=(k:Int):=ek
 have a3:∃ t,WT (d+1) t/\atI [T.tup [.str (q "num"),.int v],.tup [.str (q "yes")],.tup [.str (q "no")],.tup [.str (q "name"),.str (q s)],.tup [.str (q "none"),tk]] (k:Int)=some t:=by
  have h5:k=0\/k=1\/k=2\/k=3\/k=4:=by omega
  rcases h5 with rfl | rfl | rfl | rfl | rfl
  ·exact ⟨_,.num v0 v1,rfl⟩
  ·exact ⟨_,.node (s:="yes") (ps:=[]) (by decide) rfl (by intro p hp; cases hp),rfl⟩
  ·exact ⟨_,.node (s:="no") (ps:=[]) (by decide) rfl (by intro p hp; cases hp),rfl⟩
  ·exact ⟨_,.name hs,rfl⟩
  ·exact ⟨_,.none kk,rfl⟩
 obtain ⟨t,wt,a3⟩:=a3
 exact ⟨_,t,fun m=>by rw [jk,x_run _ _ _ rfl]; simp_all only [bR,p5,p5',p10,p18,sE,pw,pe,ej',ei',ek',a1,a2,a3,e1']; rfl,wt⟩
theorem FX (ns:List Int)(c:Int):iP (.d,.lst ((ns++[c]).map T.int)) []=some ((.d,.int c),(.d,.lst (ns.map T.int))):=by
 rw [a0U]
 simp [iP,Md.kid]
theorem vi (n:Nat)(ns:List Int)(w1 w3 w4 w5 w6 w7:Option W):∃ (c:Int) (ns':List Int),evS (C n) (.asg (.l []) 2 (.ifx (.op .gt false [.lenV 0,.cst (.int 0)]) (.pop 0 []) (.cst (.int 0)))) [some (.d,.lst (ns.map T.int)),w1,none,w3,w4,w5,w6,w7]=.nx [some (.d,.lst (ns'.map T.int)),w1,some (.d,.int c),w3,w4,w5,w6,w7]:=by
 rcases List.eq_nil_or_concat ns with rfl | ⟨ns0,c,rfl⟩
 ·have e:decide ((0:Int) < (([]:List Int).map T.int).length)=false:=rfl
  exact ⟨0,[],by simp_all only [a1q,a1B,e]; rfl⟩
 ·have e:decide ((0:Int) < ((((ns0.concat c).map T.int).length:Nat):Int))=true:=decide_eq_true (by rw [a0b,a2L,a0c,a0o]; omega)
  have e2:=FX ns0 c
  rw [<- a2L] at e2
  refine ⟨c,ns0,?_⟩
  generalize hl:(ns0.concat c).map T.int=l at e e2
  simp_all only [e,e2]
theorem lE (C:Call):∀ (a b:List S) (η:Env),evSs C (a++b) η=(evSs C a η).seq (evSs C b)
 | [],b,η=>rfl
 | s::a,b,η=>by
  show (evS C s η).seq (evSs C (a++b))=((evS C s η).seq (evSs C a)).seq (evSs C b)
  cases evS C s η<;>first | rfl | exact lE C a b _
theorem go1 {C:Call}{a b:List S}{η η':Env}(h:evSs C a η=.nx η'):evSs C (a++b) η=evSs C b η':=by rw [lE,h]; rfl
noncomputable abbrev Bk (f:Fn)(i j:Nat):List S:=(f.body.drop i).take j
noncomputable abbrev g27:List String:=["not","first","second","one","upto","long","sum","sums","most","flat","add","sub","mul","div","rest","less","same","both","pair","pick","join","keep","cut","let","if","each","times"]
noncomputable def S27:List T:=[T.str (q "not"),T.str (q "first"),T.str (q "second"),T.str (q "one"),T.str (q "upto"),T.str (q "long"),T.str (q "sum"),T.str (q "sums"),T.str (q "most"),T.str (q "flat"),T.str (q "add"),T.str (q "sub"),T.str (q "mul"),T.str (q "div"),T.str (q "rest"),T.str (q "less"),T.str (q "same"),T.str (q "both"),T.str (q "pair"),T.str (q "pick"),T.str (q "join"),T.str (q "keep"),T.str (q "cut"),T.str (q "let"),T.str (q "if"),T.str (q "each"),T.str (q "times")]
theorem eS:[T.str (q "not"),T.str (q "first"),T.str (q "second"),T.str (q "one"),T.str (q "upto"),T.str (q "long"),T.str (q "sum"),T.str (q "sums"),T.str (q "most"),T.str (q "flat"),T.str (q "add"),T.str (q "sub"),T.str (q "mul"),T.str (q "div"),T.str (q "rest"),T.str (q "less"),T.str (q "same"),T.str (q "both"),T.str (q "pair"),T.str (q "pick"),T.str (q "join"),T.str (q "keep"),T.str (q "cut"),T.str (q "let"),T.str (q "if"),T.str (q "each"),T.str (q "times")]=S27:=rfl
theorem Fm:∀ j < 27,(g27.getD j ""∈NF/\(b3.any fun t=>eqT t (.str (q (g27.getD j ""))))=false/\1+b2i (decide ((9:Int) < (j:Int)))+b2i ([T.str (q "if"),.str (q "times")].any fun t=>eqT t (.str (q (g27.getD j ""))))=(ar (g27.getD j ""):Int)) \/
  (g27.getD j ""∈BF/\(b3.any fun t=>eqT t (.str (q (g27.getD j ""))))=true/\1+b2i (decide ((9:Int) < (j:Int)))+b2i ([T.str (q "if"),.str (q "times")].any fun t=>eqT t (.str (q (g27.getD j ""))))=(arB (g27.getD j ""):Int)):=by decide +kernel
theorem Ep (j:Nat)(hj:j < 27):atI S27 (j:Int)=some (.str (q (g27.getD j ""))):=by
 refine atN rfl ?_
 have:S27=g27.map fun s=>T.str (q s):=rfl
 rw [this,a0y,a0n (show j < g27.length from hj),a0p,a0n (show j < g27.length from hj)]
 rfl
noncomputable abbrev nb5:List T:=[.str (q "x"),.str (q "rowy"),.str (q "addx"),.str (q "b"),.str (q "numbs")]
theorem at5 (j:Nat)(hj:j < 5):atI nb5 (j:Int)=some (.str (q (NB.getD j ""))):=by
 refine atN rfl ?_
 have:nb5=NB.map fun s=>T.str (q s):=rfl
 rw [this,a0y,a0n (show j < NB.length from hj),a0p,a0n (show j < NB.length from hj)]
 rfl
theorem oJ (n:Nat)(w0 w1:Option W)(c:Int)(j:Nat)(s:String)(mn:Int)(b:Bool)(ej:c / 5 % 27=(j:Int))(a1:atI S27 (j:Int)=some (.str (q s)))(hb:(b3.any fun t=>eqT t (.str (q s)))=b)(hm:1+b2i (decide ((9:Int) < (j:Int)))+b2i ([T.str (q "if"),.str (q "times")].any fun t=>eqT t (.str (q s)))=mn):evSs (C n) (Bk f_law_tree 2 5) [w0,w1,some (.d,.int c),none,none,none,none,none]=.nx [w0,w1,some (.d,.int c),some (.o .s,.lst S27),some (.d,.int j),some (.d,.int mn),some (.d,.tup [.str (q s)]),none]:=by
 have p5:decide ((0:Int) < 5)=true:=rfl
 have p5':decide ((5:Int) < 1073741824)=true:=rfl
 have p27:decide ((0:Int) < 27)=true:=rfl
 simp_all only [Bk,f_law_tree,a1c,a1w,a03,a2r,a0g,a1B,Nat.reduceAdd,f27,eS,p5,p5',p27,ej,a1,fl2,fl3,hb,hm]
theorem uw (n:Nat)(w0 w1 w5:Option W)(c:Int)(j:Nat)(s:String)(a1:atI S27 (j:Int)=some (.str (q s))):(b3.any fun t=>eqT t (.str (q s)))=true->∃ x∈NB,∃ m3 m6,evSs (C n) (Bk f_law_tree 7 1) [w0,w1,some (.d,.int c),some (.o .s,.lst S27),some (.d,.int j),w5,some (.d,.tup [.str (q s)]),none]=.nx [w0,w1,some (.d,.int c),some (m3,.lst S27),some (.d,.int j),w5,some (m6,.tup [.str (q s),.str (q x)]),none]:=fun hb=>by
 obtain ⟨k,hk,ek⟩:=mdj (c / 135) 5 (by decide)
 have ek':c / 135 % 5=(k:Int):=ek
 have a2:=at5 k hk
 have hm:NB.getD k ""∈NB:=by
  rw [a0p,a0n (show k < NB.length from hk)]
  exact a1G _
 have p5:decide ((0:Int) < 5)=true:=rfl
 have p135:decide ((0:Int) < 135)=true:=rfl
 have p135':decide ((135:Int) < 1073741824)=true:=rfl
 have f2:(fits (1+1)&&!([T.str (q s)]:List T).isEmpty)=true:=rfl
 generalize NB.getD k ""=x at a2 hm
 exact ⟨x,hm,_,_,by simp_all only [Bk,f_law_tree,a1c,a1w,a03,a2r,a0g,a1B,a1J,p5,p135,p135',ek',a1,a2,fl3,hb,f2]; rfl⟩
theorem zo (n:Nat)(w0 w1 w2 w5 w6:Option W)(j:Nat)(s:String)(a1:atI S27 (j:Int)=some (.str (q s))):(b3.any fun t=>eqT t (.str (q s)))=false->∃ m3,evSs (C n) (Bk f_law_tree 7 1) [w0,w1,w2,some (.o .s,.lst S27),some (.d,.int j),w5,w6,none]=.nx [w0,w1,w2,some (m3,.lst S27),some (.d,.int j),w5,w6,none]:=fun hb=>by
 exact ⟨_,by simp_all only [Bk,f_law_tree,a1c,a1w,a03,a2r,a1,fl3,hb]; rfl⟩
noncomputable abbrev TB:List S:=[.asg (.l [6]) 6 (.op .add false [.var 6,.tup [.call 229 [.io 0,.op .sub false [.var 1,.cst (.int 1)]]]])]
noncomputable def Dr (L l:Nat):Prop:=∀ ns:List Int,∃ md t ns',C L 229 [(.d,.lst (ns.map T.int)),(.d,.int (l:Int))]=.ok ((md,t),[(.d,.lst ((ns':List Int).map T.int))])/\WT (l+1) t
theorem lT (L l:Nat)(ih:Dr L l)(w2 w3 w4 w5:Option W)(p0:List T)(h0:p0.isEmpty=false)(hp:p0.length<=2)(mn:Nat)(hn:mn<=3)(ns:List Int)(m6:Md):∃ ns' m7 rs o7,rs.length=mn/\(∀ p∈rs,WT (l+1) p) /\
  dB [7] (evSs (C L) TB) ((a0F mn).map fun (k:Nat)=>[((.d,.int k):W)]) [some (.d,.lst (ns.map T.int)),some (.d,.int ((l+1:Nat):Int)),w2,w3,w4,w5,some (m6,.tup p0),none]=.nx [some (.d,.lst ((ns':List Int).map T.int)),some (.d,.int ((l+1:Nat):Int)),w2,w3,w4,w5,some (m7,.tup (p0++rs)),o7]:=by
 obtain ⟨η',lp,ns',m7,rs,o7,hl,hw,rfl⟩:=dR (tg:=[7]) (f:=evSs (C L) TB) (g:=fun (k:Nat)=>[((.d,.int k):W)])
  (fun pre η=>∃ (ns':List Int) (m7:Md) (rs:List T) (o7:Option W),rs.length=pre.length/\(∀ p∈rs,WT (l+1) p)/\η=[some (.d,.lst (ns'.map T.int)),some (.d,.int ((l+1:Nat):Int)),w2,w3,w4,w5,some (m7,.tup (p0++rs)),o7])
  (a0F mn) [] [some (.d,.lst (ns.map T.int)),some (.d,.int ((l+1:Nat):Int)),w2,w3,w4,w5,some (m6,.tup p0),none] ⟨ns,m6,[],none,rfl,(by intro p hp; cases hp),by rw [a0B]⟩ (fun p k r η hp' ⟨ns',m7,rs,o7,hl,hw,he⟩=>by
   subst he
   have hpl:=congrArg a2T hp'
   simp only [a0T,a1E,a0c,a0g] at hpl
   obtain ⟨md,t,ns2,e2,wt⟩:=ih ns'
   have es:((l+1:Nat):Int)-1=(l:Int):=by omega
   have f3:(fits ((p0++rs).length+[t].length)&&!(p0++rs).isEmpty)=true:=by
    rw [a0d]
    refine ⟨decide_eq_true ?_,?_⟩
    ·rw [a0c,a0o]
     show _<=16777215
     omega
    ·cases p0 with
     | nil=>cases h0
     | cons=>rfl
   refine ⟨_,_,rfl,?_,ns2,.s,rs++[t],some (.d,.int (k:Int)),by rw [a0c,a0c,hl]; rfl,?_,rfl⟩
   ·have ea:p0++rs++[t]=p0++(rs++[t]):=a0O _ _ _
    simp_all only [es,e2,f3,ea]
   ·intro p hp
    rcases a0P.mp hp with hp | hp
    ·exact hw p hp
    ·rw [a0t.mp hp]; exact wt)
 rw [a0T,a1E] at hl
 exact ⟨ns',m7,rs,o7,hl,hw,lp⟩
theorem qf {mn:Nat}(h:mn<=3):(decide ((mn:Int).natAbs < 4611686018427387904)&&fits mn)=true/\(mn:Int).toNat=mn:=by
 have e:(mn:Int).toNat=mn:=by omega
 refine ⟨?_,e⟩
 rw [a0d]
 exact ⟨decide_eq_true (by omega),decide_eq_true (by show _<=16777215; omega)⟩
theorem ar3 (s:String):ar s<=3:=by
 unfold ar
 repeat' split
 all_goals omega
theorem yr (s:String):arB s<=3:=by
 unfold arB
 split<;>omega
theorem lx (n:Nat)(w0 w1 w2 w3 w4 w6:Option W)(mn:Nat)(hn:mn<=3){ns':List Int}{w1' w2' w3' w4' w5' o7:Option W}{m7:Md}{ts:List T}(lp:dB [7] (evSs (C n) TB) ((a0F mn).map fun (k:Nat)=>[((.d,.int k):W)]) [w0,w1,w2,w3,w4,some (.d,.int mn),w6,none]=.nx [some (.d,.lst (ns'.map T.int)),w1',w2',w3',w4',w5',some (m7,.tup ts),o7]):∃ md η,evSs (C n) (f_law_tree.body.drop 8) [w0,w1,w2,w3,w4,some (.d,.int mn),w6,none]=.rt (md,.tup ts) (some (.d,.lst (ns'.map T.int))::η):=by
 obtain ⟨r1,r2⟩:=qf hn
 exact ⟨_,_,by simp_all only [f_law_tree,a1c,a1w,r1,r2,lp]; rfl⟩
theorem DA (w:W)(w0:W)(η:Env):Fl.out [0] (.rt w (some w0::η))=.ok (w,[w0]):=rfl
theorem ij:∀ (l n:Nat),Dr (n+l+8) l
 | l,n,ns=>by
  obtain ⟨c,ns1,h1⟩:=vi (n+l+7) ns (some (.d,.int (l:Int))) none none none none none
  have p5:decide ((0:Int) < 5)=true:=rfl
  have p5':decide ((5:Int) < 1073741824)=true:=rfl
  have leafc:((((l:Int)==0)=true)\/((((l:Int)==0)=false)/\((c % 5==0)=true)))->∃ md t ns',C (n+l+8) 229 [(.d,.lst (ns.map T.int)),(.d,.int (l:Int))]=.ok ((md,t),[(.d,.lst ((ns':List Int).map T.int))])/\WT (l+1) t:=fun hb=>by
   obtain ⟨md,t,e,wt⟩:=vc (n+l+1) l (c / 5)
   rw [eM,x_run _ _ _ rfl]
   rcases hb with h2 | ⟨h2,h3⟩
   ·exact ⟨_,t,ns1,by simp_all only [f_law_tree,h1,h2,p5,p5',e]; rfl,wt⟩
   ·exact ⟨_,t,ns1,by simp_all only [f_law_tree,h1,h2,h3,p5,p5',e]; rfl,wt⟩
  cases l with
  | zero=>exact leafc (.inl rfl)
  | succ l =>
   have h2:(((l+1:Nat):Int)==0)=false:=beq_eq_false_iff_ne.mpr (by omega)
   cases h3:c % 5==0 with
   | true=>exact leafc (.inr ⟨h2,h3⟩)
   | false =>
    have ih:Dr (n+l+8) l:=fun ns=>ij l n ns
    obtain ⟨j,hj,ej⟩:=mdj (c / 5) 27 (by decide)
    have a1:=Ep j hj
    have hs:=Fm j hj
    generalize g27.getD j ""=s at a1 hs
    rw [show n+(l+1)+7=n+l+8 by omega] at h1
    have hA:evSs (C (n+l+8)) (Bk f_law_tree 0 2) [some (.d,.lst (ns.map T.int)),some (.d,.int ((l+1:Nat):Int)),none,none,none,none,none,none]=.nx [some (.d,.lst (ns1.map T.int)),some (.d,.int ((l+1:Nat):Int)),some (.d,.int c),none,none,none,none,none]:=by
     simp_all only [Bk,f_law_tree,a1c,a1w,a03,a2r,h1,h2,h3,p5]
    rw [show n+(l+1)+8=(n+l+8)+1 by omega,eM,x_run _ _ _ rfl]
    rw [show f_law_tree.body=Bk f_law_tree 0 2++(Bk f_law_tree 2 5++(Bk f_law_tree 7 1++f_law_tree.body.drop 8)) from rfl]
    show ∃ md t ns',Fl.out [0] (evSs (C (n+l+8)) (Bk f_law_tree 0 2++(Bk f_law_tree 2 5++(Bk f_law_tree 7 1++f_law_tree.body.drop 8))) [some (.d,.lst (ns.map T.int)),some (.d,.int ((l+1:Nat):Int)),none,none,none,none,none,none])=.ok ((md,t),[(.d,.lst ((ns':List Int).map T.int))])/\WT (l+1+1) t
    rw [go1 hA]
    rcases hs with ⟨hs,hb,hm⟩ | ⟨hs,hb,hm⟩
    ·rw [go1 (oJ (n+l+8) _ _ c j s (ar s:Int) false ej a1 hb hm)]
     obtain ⟨m3,hB⟩:=zo (n+l+8) (some (.d,.lst (ns1.map T.int))) (some (.d,.int ((l+1:Nat):Int))) (some (.d,.int c)) (some (.d,.int (ar s:Int))) (some (.d,.tup [.str (q s)])) j s a1 hb
     rw [go1 hB]
     obtain ⟨ns',m7,rs,o7,hl,hw,lp⟩:=lT (n+l+8) l ih (some (.d,.int c)) (some (m3,.lst S27)) (some (.d,.int j)) (some (.d,.int (ar s:Int))) [.str (q s)] rfl (by show 1<=2; omega) (ar s) (ar3 s) ns1 .d
     obtain ⟨md,η,e⟩:=lx (n+l+8) _ _ _ _ _ _ (ar s) (ar3 s) lp
     rw [e,DA]
     exact ⟨md,_,ns',rfl,.node hs hl hw⟩
    ·rw [go1 (oJ (n+l+8) _ _ c j s (arB s:Int) true ej a1 hb hm)]
     obtain ⟨x,hx,m3,m6,hB⟩:=uw (n+l+8) (some (.d,.lst (ns1.map T.int))) (some (.d,.int ((l+1:Nat):Int))) (some (.d,.int (arB s:Int))) c j s a1 hb
     rw [go1 hB]
     obtain ⟨ns',m7,rs,o7,hl,hw,lp⟩:=lT (n+l+8) l ih (some (.d,.int c)) (some (m3,.lst S27)) (some (.d,.int j)) (some (.d,.int (arB s:Int))) [.str (q s),.str (q x)] rfl (by show 2<=2; omega) (arB s) (yr s) ns1 m6
     obtain ⟨md,η,e⟩:=lx (n+l+8) _ _ _ _ _ _ (arB s) (yr s) lp
     rw [e,DA]
     exact ⟨md,_,ns',rfl,.bind hs hx hl hw⟩
theorem kD (n:Nat)(s:Str)(r:List T)(m:Md):C (n+1) 233 [(m,.tup (.str s::r))]=.ok ((.s,(tab_BINDING.lookup s).getD .non),[]):=by
 rw [kh,x_run _ _ _ rfl]
 simp_all only [cw]
theorem ahN:∀ s∈NF,keys_AHEAD.contains (q s)=false:=by decide +kernel
theorem ahB:∀ s∈BF,keys_AHEAD.contains (q s)=true:=by decide +kernel
theorem ahL:∀ s∈LF,keys_AHEAD.contains (q s)=true:=by decide +kernel
noncomputable abbrev lf3:List T:=[.str (q "num"),.str (q "name"),.str (q "none")]
theorem stL (n:Nat)(s:String)(hs:s∈LF)(x:T)(m:Md):C (n+1) 244 [(m,.tup [.str (q s),x])]=.ok ((.d,.int 2),[]):=by
 have h1:(lf3.any fun t=>eqT t (.str (q s)))=true:=(by decide +kernel:∀ s∈LF,(lf3.any fun t=>eqT t (.str (q s)))=true) s hs
 have c2:((([T.str (q s),x].length:Nat):Int))=2:=rfl
 rw [cD,x_run _ _ _ rfl]
 simp_all only [aT,h1,fl3,c2]
theorem stN (n:Nat)(s:String)(hs:s∈NF)(r:List T)(m:Md):C (n+1) 244 [(m,.tup (.str (q s)::r))]=.ok ((.d,.int 1),[]):=by
 obtain ⟨h1,h2⟩:=(by decide +kernel:∀ s∈NF,(lf3.any fun t=>eqT t (.str (q s)))=false/\(b3.any fun t=>eqT t (.str (q s)))=false) s hs
 have e1:(1:Int)+b2i false=1:=rfl
 rw [cD,x_run _ _ _ rfl]
 simp_all only [aT,h1,h2,fl3,e1]
theorem stB (n:Nat)(s:String)(hs:s∈BF)(r:List T)(m:Md):C (n+1) 244 [(m,.tup (.str (q s)::r))]=.ok ((.d,.int 2),[]):=by
 obtain ⟨h1,h2⟩:=(by decide +kernel:∀ s∈BF,(lf3.any fun t=>eqT t (.str (q s)))=false/\(b3.any fun t=>eqT t (.str (q s)))=true) s hs
 have e1:(1:Int)+b2i true=2:=rfl
 rw [cD,x_run _ _ _ rfl]
 simp_all only [aT,h1,h2,fl3,e1]
noncomputable def bZ:T->List T
 | .tup (.str s::r)=>if keys_AHEAD.contains s then r.drop 1 else r
 | _=>[]
theorem vd (s:String)(hs:keys_AHEAD.contains (q s)=true)(x:T)(ps:List T):bZ (.tup (.str (q s)::x::ps))=ps:=if_pos hs
theorem FE (s:String)(hs:keys_AHEAD.contains (q s)=false)(ps:List T):bZ (.tup (.str (q s)::ps))=ps:=if_neg (by rw [hs]; exact a0l)
theorem dI {α:Type}(ts:List α)(j:Nat):cut ts none (some (j:Int))=ts.take j:=by
 show (ts.drop 0).take ((if (j:Int) < 0 then ((j:Int)+ts.length).toNat else min (j:Int).toNat ts.length)-0)=_
 rw [if_neg (by omega),a0N,Nat.sub_zero,a1w]
 by_cases h:j<=ts.length
 ·rw [a3s h]
 ·rw [a3k (by omega),a1d (a0j _),a1d (by omega)]
theorem fQ {α:Type}(l:List α)(k:Nat):cut l (some (k:Int)) none=l.drop k:=by
 have e:sIx l.length 0 (some (k:Int))=min k l.length:=by
  show (if (k:Int) < 0 then ((k:Int)+(l.length:Int)).toNat else min (k:Int).toNat l.length)=_
  rw [if_neg (by omega)]; simp
 have e2:sIx l.length l.length none=l.length:=rfl
 rw [cut,e,e2]
 by_cases h:k<=l.length
 ·rw [a3s h]; exact a1d (by rw [a0X]; omega)
 ·rw [a3k (by omega),a2C (a0j _),a2C (by omega),a20]
theorem iC (h:Bool)(m n:Md)(ts:List T)(i:Int):oSem .sl2 h [(m,.tup ts),(n,.int i)]=some (.s,.tup (cut ts none (some i))):=rfl
noncomputable def bt:List (Str×Int):=[(q "let",1),(q "each",1),(q "times",2)]
structure WV (d:Nat)(s:String)(h ps:List T):Prop where
 st:∀ n m,C (n+1) 175 [(m,.str (q s))]=.ok ((.d,.int ((h.length+1:Nat):Int)),[])
 ls:∀ n m,C (n+1) 244 [(m,.tup (.str (q s)::(h++ps)))]=.ok ((.d,.int ((h.length+1:Nat):Int)),[])
 pt:bZ (.tup (.str (q s)::(h++ps)))=ps
 hl:h.length<=1
 pl:ps.length<=3
 wt:∀ p∈ps,WT d p
 bi:(tab_BINDING.lookup (q s)).getD .non=getI (bt.lookup (q s)) none
 rb:∀ d' ps',ps'.length=ps.length->(∀ p∈ps',WT d' p)->WT (d'+1) (.tup (.str (q s)::(h++ps')))
theorem psA (n:Nat)(s:Str)(h:keys_AHEAD.contains s=true)(m:Md):C (n+1) 175 [(m,.str s)]=.ok ((.d,.int 2),[]):=by rw [pA,h,if_pos rfl]
theorem psN (n:Nat)(s:Str)(h:keys_AHEAD.contains s=false)(m:Md):C (n+1) 175 [(m,.str s)]=.ok ((.d,.int 1),[]):=by rw [pA,h,if_neg a0l]
theorem biL:∀ s∈LF,(tab_BINDING.lookup (q s)).isNone=true/\(bt.lookup (q s)).isNone=true:=by decide +kernel
theorem biN:∀ s∈NF,(tab_BINDING.lookup (q s)).isNone=true/\(bt.lookup (q s)).isNone=true:=by decide +kernel
theorem bi0 {s:Str}(h:(tab_BINDING.lookup s).isNone=true/\(bt.lookup s).isNone=true):(tab_BINDING.lookup s).getD .non=getI (bt.lookup s) none:=by
 rw [a2s.mp h.1,a2s.mp h.2]; rfl
theorem biB (s:String)(hs:s∈BF):(tab_BINDING.lookup (q s)).getD .non=getI (bt.lookup (q s)) none:=by
 simp only [BF,a0m,a1f,or_false] at hs
 rcases hs with rfl | rfl | rfl<;>rfl
theorem wv {d:Nat}{t:T}(h:WT (d+1) t):∃ s hd ps,t=.tup (.str (q s)::(hd++ps))/\WV d s hd ps:=by
 cases h with
 | num h0 h1=>exact ⟨"num",[_],[],rfl,fun n m=>psA n _ (ahL "num" (by decide)) m,fun n m=>stL n "num" (by decide) _ m,vd "num" (ahL "num" (by decide)) _ [],a0j 1,by decide,(fun _ z=>nomatch z),bi0 (biL "num" (by decide)),fun d' ps' e _=>by rw [a1u.mp e]; exact .num h0 h1⟩
 | name hs=>exact ⟨"name",[_],[],rfl,fun n m=>psA n _ (ahL "name" (by decide)) m,fun n m=>stL n "name" (by decide) _ m,vd "name" (ahL "name" (by decide)) _ [],a0j 1,by decide,(fun _ z=>nomatch z),bi0 (biL "name" (by decide)),fun d' ps' e _=>by rw [a1u.mp e]; exact .name hs⟩
 | none hk=>exact ⟨"none",[_],[],rfl,fun n m=>psA n _ (ahL "none" (by decide)) m,fun n m=>stL n "none" (by decide) _ m,vd "none" (ahL "none" (by decide)) _ [],a0j 1,by decide,(fun _ z=>nomatch z),bi0 (biL "none" (by decide)),fun d' ps' e _=>by rw [a1u.mp e]; exact .none hk⟩
 | node hs hl hp=>exact ⟨_,[],_,rfl,fun n m=>psN n _ (ahN _ hs) m,fun n m=>stN n _ hs _ m,FE _ (ahN _ hs) _,by decide,by rw [hl]; exact ar3 _,hp,bi0 (biN _ hs),fun d' ps' e hp'=>.node hs (e.trans hl) hp'⟩
 | bind hs hx hl hp=>exact ⟨_,[_],_,rfl,fun n m=>psA n _ (ahB _ hs) m,fun n m=>stB n _ hs _ m,vd _ (ahB _ hs) _ _,a0j 1,by rw [hl]; exact yr _,hp,biB _ hs,fun d' ps' e hp'=>.bind hs hx (e.trans hl) hp'⟩
section
variable {d:Nat}{s:String}{h ps:List T}
theorem Ah (x:T)(h ps:List T):cut (x::(h++ps)) (some ((h.length+1:Nat):Int)) none=ps:=by
 rw [fQ,a1c,List.drop_left]
theorem Cr (x:T)(h ps:List T):cut (x::(h++ps)) none (some ((h.length+1:Nat):Int))=x::h:=by
 rw [dI,a03,a3w]
theorem WV.partsP (v:WV d s h ps)(n:Nat)(m:Md):C (n+2) 176 [(m,.tup (.str (q s)::(h++ps)))]=.ok ((.s,.tup ps),[]):=by
 have p:=fun m=>v.st n m
 have c:=Ah (T.str (q s)) h ps
 rw [sy,x_run _ _ _ rfl]
 simp_all only [dG,p,eA,c]
theorem WV.withP (v:WV d s h ps)(n:Nat)(m m':Md)(xs:List T)(hx:xs.length<=100):C (n+2) 334 [(m,.tup (.str (q s)::(h++ps))),(m',.lst xs)]=.ok ((.s,.tup (.str (q s)::(h++xs))),[]):=by
 have p:=fun m=>v.st n m
 have c:=Cr (T.str (q s)) h ps
 have f:(fits ((T.str (q s)::h).length+xs.length)&&!(T.str (q s)::h).isEmpty)=true:=by
  rw [a0d]
  exact ⟨decide_eq_true (by have:=v.hl; rw [a0g]; show _<=16777215; omega),rfl⟩
 rw [gk,x_run _ _ _ rfl]
 simp_all only [br,p,iC,c,f,a3j]
end
theorem lX {d:Nat}{t:T}(h:WT (d+1) t):∃ s r k ps,t=.tup (.str (q s)::r)/\(∀ n m,C (n+2) 176 [(m,t)]=.ok ((.s,.tup ps),[]))/\(∀ n m,C (n+1) 244 [(m,t)]=.ok ((.d,.int k),[]))/\cut (T.str (q s)::r) (some k) none=ps/\bZ t=ps/\ps.length<=3/\∀ p∈ps,WT d p:=by
 obtain ⟨s,hd,ps,rfl,v⟩:=wv h
 exact ⟨s,hd++ps,_,ps,rfl,fun n m=>v.partsP n m,fun n m=>v.ls n m,Ah _ _ _,v.pt,v.pl,v.wt⟩
noncomputable def cB (f:T->List (List Nat)):Nat->List T->List (List Nat)
 | _,[]=>[]
 | i,p::ps=>(f p).map (i::·)++cB f (i+1) ps
noncomputable def ba:Nat->T->List (List Nat)
 | 0,_=>[]
 | d+1,t=>cB (ba d) 0 (bZ t)++[[]]
theorem jS (f:T->List (List Nat)):∀ (ps:List T) (i:Nat),(cB f i ps).length=(ps.map fun p=>(f p).length).sum
 | [],_=>rfl
 | p::ps,i=>by rw [cB,a0c,a0b,jS f ps (i+1),a0A,a2a]
theorem xP {l:List Nat}{b:Nat}(h:∀ x∈l,x<=b):l.sum<=l.length * b:=by
 induction l with
 | nil=>exact a0Q _
 | cons x r ih =>
  have h1:=h x a0k
  have h2:=ih fun y hy=>h y (a0f _ hy)
  rw [a2a,a0g,Nat.succ_mul]
  omega
theorem l5:∀ (d:Nat) (t:T),WT d t->(ba d t).length+1<=4 ^ d
 | 0,_,h=>nomatch h
 | d+1,t,h=>by
  obtain ⟨s,r,k,ps,rfl,h1,h2,h3,h4,h5,h6⟩:=lX h
  rw [ba,h4,a0c,jS,a0o]
  have key:(ps.map fun p=>(ba d p).length).sum<=ps.length * (4 ^ d-1):=by
   have:=xP (l:=ps.map fun p=>(ba d p).length) (b:=4 ^ d-1) (fun x hx=>by
    obtain ⟨p,hp,rfl⟩:=a0Z.mp hx
    have:=l5 d p (h6 p hp)
    omega)
   rwa [a0b] at this
  have k2:ps.length * (4 ^ d-1)<=3 * (4 ^ d-1):=Nat.mul_le_mul_right _ h5
  have k3:1<=4 ^ d:=Nat.pow_pos (by decide)
  rw [a3P]
  omega
noncomputable abbrev nT (l:List Nat):List T:=l.map fun (i:Nat)=>T.int (i:Int)
noncomputable abbrev plT (pl:List Nat)(L:List (List Nat)):List T:=L.map fun l=>T.tup (nT (pl++l))
noncomputable abbrev PB:List S:=[
   .exp (.l [1,4]) (.call 254 [.var 4,.op .catT false [.var 1,.tup [.var 3]],.io 2])]
theorem Ei (pl:List Nat)(i:Nat)(hb:pl.length<=1000)(m n:Md):oSem .catT false [(m,.tup (nT pl)),(n,.tup [.int (i:Int)])]=some (.s,.tup (nT (pl++[i]))):=by
 show (if fits ((nT pl).length+[T.int (i:Int)].length)=true then some ((.s,.tup (nT pl++[.int (i:Int)])):W) else none)=_
 have hf:fits ((nT pl).length+[T.int (i:Int)].length)=true:=decide_eq_true (by rw [a0b,a0o]; show _<=16777215; omega)
 rw [if_pos hf,nT,nT,a0U]
 rfl
theorem wD {l d:Nat}{t:T}{pl:List Nat}(hb:pl.length<=1000):∀ (ps:List T) (i:Nat) (ts:List T) (μ m0 m1:Md) (o3 o4:Option W),μ≠.s ->
  (∀ p∈ps,∀ (i:Nat) (ts:List T) (μ m m':Md),μ≠.s->ts.length+(ba d p).length<=100000->C l 254 [(m,p),(m',.tup (nT (pl++[i]))),(μ,.lst ts)]=.ok ((.d,.non),[(.o .s,.lst (ts++plT (pl++[i]) (ba d p)))])) ->
  ts.length+(cB (ba d) i ps).length<=100000 ->
  ∃ μ' m0' m1' o3' o4',μ'≠.s/\dB [3,4] (evSs (C l) PB) (dm .s i ps) [some (m0,t),some (m1,.tup (nT pl)),some (μ,.lst ts),o3,o4]=.nx [some (m0',t),some (m1',.tup (nT pl)),some (μ',.lst (ts++plT pl (cB (ba d) i ps))),o3',o4']
 | [],i,ts,μ,m0,m1,o3,o4,hμ,_,_=>⟨μ,m0,m1,o3,o4,hμ,by rw [cB]; show Fl.nx _=_; rw [plT,a1q,a0B]⟩
 | p::ps,i,ts,μ,m0,m1,o3,o4,hμ,h,hl=>by
  rw [cB,a0c,a0b] at hl
  have e:=fun m m'=>h p a0k i ts μ m m' hμ (by omega)
  have cc:=fun m n=>Ei pl i hb m n
  have step:∃ m0' m1' o3' o4',evSs (C l) PB [some (m0,t),some (m1,.tup (nT pl)),some (μ,.lst ts),some (.d,.int (i:Int)),some (.s,p)]=.nx [some (m0',t),some (m1',.tup (nT pl)),some (.o .s,.lst (ts++plT (pl++[i]) (ba d p))),o3',o4']:=⟨_,_,_,_,by simp_all only [cc,e]; rfl⟩
  obtain ⟨m0',m1',o3',o4',step⟩:=step
  obtain ⟨μ',n0,n1,n3,n4,hμ',ih⟩:=wD (t:=t) hb ps (i+1) (ts++plT (pl++[i]) (ba d p)) (.o .s) m0' m1' o3' o4' (by simp) (fun q hq=>h q (a0f _ hq)) (by rw [a0c,a0b]; omega)
  refine ⟨μ',n0,n1,n3,n4,hμ',?_⟩
  have eq:ts++plT pl (cB (ba d) i (p::ps))=ts++plT (pl++[i]) (ba d p)++plT pl (cB (ba d) (i+1) ps):=by
   rw [cB,plT,a0U,a1r,a0O]
   congr 2
   refine a2e fun l _=>?_
   simp [a0O]
  rw [eq]
  exact (congrArg (Fl.turn · _) step).trans ih
theorem iB:∀ (d:Nat) (t:T),WT d t->∀ (n:Nat) (pl:List Nat) (ts:List T) (μ m m':Md),μ≠.s->pl.length+d<=1000->ts.length+(ba d t).length<=100000 ->
  C (n+d+3) 254 [(m,t),(m',.tup (nT pl)),(μ,.lst ts)]=.ok ((.d,.non),[(.o .s,.lst (ts++plT pl (ba d t)))])
 | 0,_,h,_,_,_,_,_,_,_,_,_=>nomatch h
 | d+1,t,h,n,pl,ts,μ,m,m',hμ,hb,hl=>by
  obtain ⟨s,r,k,ps,rfl,h1,h2,h3,h4,h5,h6⟩:=lX h
  have hp:=fun m=>h1 (n+d+1) m
  rw [ba,h4,a0c,a0o] at hl
  have lp:∀ m0 m1,∃ μ' m0' m1' o3' o4',μ'≠.s/\dB [3,4] (evSs (C (n+d+3)) PB) (dm .s 0 ps) [some (m0,.tup (.str (q s)::r)),some (m1,.tup (nT pl)),some (μ,.lst ts),none,none]=.nx [some (m0',.tup (.str (q s)::r)),some (m1',.tup (nT pl)),some (μ',.lst (ts++plT pl (cB (ba d) 0 ps))),o3',o4']:=fun m0 m1 =>
   wD (d:=d) (by omega) ps 0 ts μ m0 m1 none none hμ (fun p hp i ts μ m m' hμ hl=>iB d p (h6 p hp) n (pl++[i]) ts μ m m' hμ (by rw [a0c,a0o]; omega) hl) (by omega)
  obtain ⟨μ',a0,a1,a3,a4,hμ',lp2⟩:=lp .s m'
  have e2:ts++plT pl (ba (d+1) (.tup (.str (q s)::r)))=ts++plT pl (cB (ba d) 0 ps)++[.tup (nT pl)]:=by
   rw [ba,h4,plT,a0U,<- a0O]
   simp
  have ap:∀ m1:Md,f9 (μ',.lst (ts++plT pl (cB (ba d) 0 ps))) (.s,.tup (nT pl))=some (.o .s,.lst (ts++plT pl (cB (ba d) 0 ps)++[.tup (nT pl)])):=fun _=>by
   have hf:(ts++plT pl (cB (ba d) 0 ps)).length < LIM:=by rw [a0c,a0b]; show _ < 16777215; omega
   cases μ' with
   | s=>exact absurd rfl hμ'
   | d=>show (if _ then _ else _)=_; rw [if_pos hf]; rfl
   | o x=>show (if _ then _ else _)=_; rw [if_pos hf]; cases x<;>rfl
  have ck:chkL (some (μ',T.lst (ts++plT pl (cB (ba d) 0 ps))))=.ok ():=by
   cases μ' with
   | s=>exact absurd rfl hμ'
   | _=>rfl
  rw [e2,show n+(d+1)+3=(n+d+3)+1 by omega,gp,x_run _ _ _ rfl]
  simp_all only [bh,hp,lp2,ap .s,ck]
theorem Es (L:List (List Nat)):plT [] L=L.map fun l=>T.tup (nT l):=rfl
theorem nX (d:Nat)(t:T)(h:WT d t)(hd:d<=1000)(hl:(ba d t).length<=100000)(n:Nat)(m:Md):C (n+d+4) 253 [(m,t)]=.ok ((.o .s,.lst (plT [] (ba d t))),[]):=by
 have e1:=fun m m'=>iB d t h n [] [] .d m m' (by simp) (by simpa using hd) (by simpa using hl)
 have e2:=fun m m'=>iB d t h n [] [] (.o .d) m m' (by simp) (by simpa using hd) (by simpa using hl)
 have e3:=fun m m'=>iB d t h n [] [] (.o .s) m m' (by simp) (by simpa using hd) (by simpa using hl)
 rw [show nT []=[] from rfl,a0T] at e1 e2 e3
 rw [nF,x_run _ _ _ rfl]
 simp_all only [cK,e1,e2,e3]
noncomputable def pcG (f:T->List (List Nat×T)):Nat->List T->List (List Nat×T)
 | _,[]=>[]
 | i,p::ps=>(f p).map (fun x=>(i::x.1,x.2))++pcG f (i+1) ps
noncomputable def pcF:Nat->T->List (List Nat×T)
 | 0,_=>[]
 | d+1,t=>pcG (pcF d) 0 (bZ t)++[([],t)]
theorem lI (f:T->List (List Nat×T))(g:T->List (List Nat))(h:∀ p,(f p).map a2l=g p):∀ (ps:List T) (i:Nat),(pcG f i ps).map a2l=cB g i ps
 | [],_=>rfl
 | p::ps,i=>by
  rw [pcG,cB,a0U,a1r,lI f g h ps (i+1),<- h p,a1r]
  rfl
theorem iy:∀ (d:Nat) (t:T),(pcF d t).map a2l=ba d t
 | 0,_=>rfl
 | d+1,t=>by rw [pcF,ba,a0U,lI (pcF d) (ba d) (iy d)]; rfl
noncomputable abbrev cZ (pl:List Nat)(L:List (List Nat×T)):List T:=L.map fun x=>T.tup [.tup (nT (pl++x.1)),x.2]
noncomputable abbrev AB:List S:=[
   .ext (.q [0,1] [3,4]) 2 (.call 351 [.op .ix false [.var 0,.var 4],.op .catT false [.var 1,.tup [.op .sub false [.var 4,.var 3]]]])]
theorem zO (μ:Md)(hμ:μ=.o .s)(ts us:List T)(h:ts.length+us.length<=LIM):fJ (μ,.lst ts) (.o .s,.lst us)=some (.o .s,.lst (ts++us)):=by
 subst hμ; rw [sL,if_pos h]; rfl
theorem wX {l d:Nat}{x:T}{hd:List T}{pl:List Nat}(hb:pl.length<=1000)(ps0:List T):∀ (ps:List T) (i:Nat) (ts:List T) (m1:Md) (o4:Option W),ps0.drop i=ps ->
  (∀ p∈ps,∀ (i:Nat) (m m':Md),C l 351 [(m,p),(m',.tup (nT (pl++[i])))]=.ok ((.o .s,.lst (cZ (pl++[i]) (pcF d p))),[])) ->
  ts.length+(pcG (pcF d) i ps).length<=100000 ->
  ∃ m1' o4',dB [4] (evSs (C l) AB) ((a0F ps.length).map fun (k:Nat)=>[((.d,.int (((hd.length+1:Nat):Int)+((i+k:Nat):Int))):W)]) [some (.s,.tup (x::(hd++ps0))),some (m1,.tup (nT pl)),some (.o .s,.lst ts),some (.d,.int ((hd.length+1:Nat):Int)),o4]=.nx [some (.s,.tup (x::(hd++ps0))),some (m1',.tup (nT pl)),some (.o .s,.lst (ts++cZ pl (pcG (pcF d) i ps))),some (.d,.int ((hd.length+1:Nat):Int)),o4']
 | [],i,ts,m1,o4,_,_,_=>⟨m1,o4,by rw [pcG]; show Fl.nx _=_; rw [cZ,a1q,a0B]⟩
 | p::ps,i,ts,m1,o4,hd0,h,hl=>by
  rw [pcG,a0c,a0b] at hl
  have e:=fun m m'=>h p a0k i m m'
  have cc:=fun m n=>Ei pl i hb m n
  have ha:atI (x::(hd++ps0)) (((hd.length+1:Nat):Int)+((i+0:Nat):Int))=some p:=by
   refine atN (n:=hd.length+i+1) (by omega) ?_
   rw [a0w,a0I (by omega),show hd.length+i-hd.length=i by omega]
   have:=congrArg List.head? hd0
   rw [List.head?_drop] at this
   exact this
  have hs:((hd.length+1:Nat):Int)+((i+0:Nat):Int)-((hd.length+1:Nat):Int)=(i:Int):=by omega
  have ex:=zO (.o .s) rfl ts (cZ (pl++[i]) (pcF d p)) (by rw [a0b]; show _<=16777215; omega)
  have step:∃ m1' o4',evSs (C l) AB [some (.s,.tup (x::(hd++ps0))),some (m1,.tup (nT pl)),some (.o .s,.lst ts),some (.d,.int ((hd.length+1:Nat):Int)),some (.d,.int (((hd.length+1:Nat):Int)+((i+0:Nat):Int)))]=.nx [some (.s,.tup (x::(hd++ps0))),some (m1',.tup (nT pl)),some (.o .s,.lst (ts++cZ (pl++[i]) (pcF d p))),some (.d,.int ((hd.length+1:Nat):Int)),o4']:=⟨_,_,by simp_all only [ha,hs,cc,e,ex]; rfl⟩
  obtain ⟨m1',o4',step⟩:=step
  obtain ⟨n1,n4,ih⟩:=wX (x:=x) (hd:=hd) hb ps0 ps (i+1) (ts++cZ (pl++[i]) (pcF d p)) m1' o4' (by rw [<- a3v,hd0]; rfl) (fun q hq=>h q (a0f _ hq)) (by rw [a0c,a0b]; omega)
  refine ⟨n1,n4,?_⟩
  have eq:ts++cZ pl (pcG (pcF d) i (p::ps))=ts++cZ (pl++[i]) (pcF d p)++cZ pl (pcG (pcF d) (i+1) ps):=by
   rw [pcG,cZ,a0U,a1r,a0O]
   congr 2
   refine a2e fun l _=>?_
   simp [a0O]
  have er:((a0F (p::ps).length).map fun (k:Nat)=>[((.d,.int (((hd.length+1:Nat):Int)+((i+k:Nat):Int))):W)])=[((.d,.int (((hd.length+1:Nat):Int)+((i+0:Nat):Int))):W)]::((a0F ps.length).map fun (k:Nat)=>[((.d,.int (((hd.length+1:Nat):Int)+((i+1+k:Nat):Int))):W)]):=by
   rw [a0g,List.range_succ_eq_map,a0A,a1r]
   congr 1
   refine a2e fun k _=>?_
   show [((.d,.int (((hd.length+1:Nat):Int)+((i+(k+1):Nat):Int))):W)]=_
   rw [show i+(k+1)=i+1+k by omega]
  rw [eq,er]
  exact (congrArg (Fl.turn · _) step).trans ih
theorem y8 (m n:Md)(i j:Int):bf .rng [(m,.int i),(n,.int j)]=if decide (i.natAbs < 4611686018427387904)&&decide (j.natAbs < 4611686018427387904)&&fits (j-i).toNat then some ((a0F (j-i).toNat).map fun (k:Nat)=>[(.d,.int (i+k))]) else none:=rfl
theorem sJ:∀ (d:Nat) (t:T),WT d t->∀ (n:Nat) (pl:List Nat) (m m':Md),pl.length+d<=1000->(pcF d t).length<=100000 ->
  C (n+d+2) 351 [(m,t),(m',.tup (nT pl))]=.ok ((.o .s,.lst (cZ pl (pcF d t))),[])
 | 0,_,h,_,_,_,_,_,_=>nomatch h
 | d+1,t,h,n,pl,m,m',hb,hl=>by
  obtain ⟨s,hd,ps,rfl,v⟩:=wv h
  have pt:=v.pt
  rw [pcF,pt,a0c,a0o] at hl
  have sub:∀ p∈ps,(pcF d p).length<=(pcG (pcF d) 0 ps).length:=by
   have key:∀ (ps:List T) (i:Nat),∀ p∈ps,(pcF d p).length<=(pcG (pcF d) i ps).length:=by
    intro ps
    induction ps with
    | nil=>intro i p hp; cases hp
    | cons a r ih =>
     intro i p hp
     rw [pcG,a0c,a0b]
     rcases a0m.mp hp with rfl | hp
     ·omega
     ·have:=ih (i+1) p hp; omega
   exact key ps 0
  have lp:∀ m1,∃ m1' o4',dB [4] (evSs (C (n+d+2)) AB) ((a0F ps.length).map fun (k:Nat)=>[((.d,.int (((hd.length+1:Nat):Int)+((0+k:Nat):Int))):W)]) [some (.s,.tup (.str (q s)::(hd++ps))),some (m1,.tup (nT pl)),some (.o .s,.lst []),some (.d,.int ((hd.length+1:Nat):Int)),none]=.nx [some (.s,.tup (.str (q s)::(hd++ps))),some (m1',.tup (nT pl)),some (.o .s,.lst ([]++cZ pl (pcG (pcF d) 0 ps))),some (.d,.int ((hd.length+1:Nat):Int)),o4']:=fun m1 =>
   wX (d:=d) (by omega) ps ps 0 [] m1 none rfl (fun p hp i m m'=>sJ d p (v.wt p hp) n (pl++[i]) m m' (by rw [a0c,a0o]; omega) (by have:=sub p hp; omega)) (by rw [a1B]; omega)
  obtain ⟨m1',o4',lp2⟩:=lp m'
  simp only [a1J,a0T] at lp2
  have st:=fun m=>v.ls (n+d+1) m
  have lh:=v.hl
  have lq:=v.pl
  have tn:((((T.str (q s)::(hd++ps)).length:Nat):Int)-((hd.length+1:Nat):Int)).toNat=ps.length:=by
   rw [a0g,a0c]; omega
  have rg:(decide (((hd.length+1:Nat):Int).natAbs < 4611686018427387904)&&decide ((((T.str (q s)::(hd++ps)).length:Nat):Int).natAbs < 4611686018427387904)&&fits ps.length)=true:=by
   rw [a0d,a0d]
   exact ⟨⟨decide_eq_true (by omega),decide_eq_true (by rw [a0g,a0c]; omega)⟩,decide_eq_true (by show _<=16777215; omega)⟩
  have e2:cZ pl (pcF (d+1) (.tup (.str (q s)::(hd++ps))))=cZ pl (pcG (pcF d) 0 ps)++[.tup [.tup (nT pl),.tup (.str (q s)::(hd++ps))]]:=by
   rw [pcF,pt,cZ,a0U]
   simp
  have ft:fits ((cZ pl (pcG (pcF d) 0 ps)).length+[T.tup [.tup (nT pl),.tup (.str (q s)::(hd++ps))]].length)=true:=decide_eq_true (by rw [a0b,a0o]; show _<=16777215; omega)
  rw [e2,show n+(d+1)+2=(n+d+2)+1 by omega,kf,x_run _ _ _ rfl]
  generalize hL:(T.str (q s)::(hd++ps)).length=LL at tn rg
  simp_all only [cf,st,hL,y8,tn,rg,lp2,ft]
noncomputable def bw:T->List Int->Option T
 | t,[]=>some t
 | t,i::r=>if 0<=i/\i < ((bZ t).length:Int) then bw ((bZ t).getD i.toNat .non) r else none
noncomputable abbrev iT (L:List Int):List T:=L.map T.int
theorem yf (n:Nat)(m m':Md)(i:Int):C (n+2) 2 [(m,.tup [.str (q "num")]),(m',.int i)]=.ok ((.d,.bl (decide (-1000000000000000000<=i)&&decide (i<=1000000000000000000))),[]):=by
 have hn:∀ m,C (n+1) 3 [(m,.int i)]=.ok ((.d,.bl (decide (-1000000000000000000<=i)&&decide (i<=1000000000000000000))),[]):=fun m=>by
  rw [iR,x_run _ _ _ rfl]
  have e0:(["int"].any fun c=>isOne c (.int i))=true:=rfl
  have e1:(["bool"].any fun c=>isOne c (.int i))=false:=rfl
  cases h1:decide (-(1000000000000000000:Int)<=i)<;>simp_all only [bE,T.isH,e0,e1,h1,a3F,a3t]
 have e:(q "num"==q "num")=true:=beq_self_eq_true _
 rw [jq,x_run _ _ _ rfl]
 simp_all only [bS,e,hn]
theorem d8 (c:Nat)(fld:Str)(ts:List T)(η:Env):kRaise c fld 1 ((.s,.tup ts),η)=if fldOk 1 .s (.tup ts)=true then .ex (.ins c [fld] [.tup ts]) η else .no:=rfl
theorem kM (t:T)(η:Env)(f:Env->Fl):Fl.seq (.ex t η) f=.ex t η:=rfl
theorem bj {d:Nat}{t:T}(h:WT d t):∃ xs,t=.tup xs:=by cases h<;>exact ⟨_,rfl⟩
noncomputable abbrev PA:List S:=match f_part_at.body with
 | [_,.forS _ _ _ _ _ b,_]=>b
 | _=>[]
theorem CV (n:Nat)(w0:Option W)(PL:List Int)(hf:fldOk 1 .s (.tup (iT PL))=true)(d:Nat)(u:T)(h:WT (d+1) u)(i:Int)(o4:Option W) :
  (0<=i/\i < ((bZ u).length:Int)->∃ o3' o4',evSs (C (n+3)) PA [w0,some (.s,.tup (iT PL)),some (.s,u),some (.s,.int i),o4]=.nx [w0,some (.s,.tup (iT PL)),some (.s,(bZ u).getD i.toNat .non),o3',o4']/\WT d ((bZ u).getD i.toNat .non)) /\
  (¬ (0<=i/\i < ((bZ u).length:Int))->∃ η,evSs (C (n+3)) PA [w0,some (.s,.tup (iT PL)),some (.s,u),some (.s,.int i),o4]=.ex (.ins ao [q "place"] [.tup (iT PL)]) η):=by
 obtain ⟨s,hd,ps,rfl,v⟩:=wv h
 have pt:=v.pt
 have pp:=fun m=>v.partsP (n+1) m
 have nn:=fun m m'=>yf (n+1) m m' i
 have pl:=v.pl
 rw [pt]
 generalize hu:T.tup (.str (q s)::(hd++ps))=U at pp
 refine ⟨fun ⟨h1,h2⟩=>?_,fun hn=>?_⟩
 ·have d1:decide (-(1000000000000000000:Int)<=i)=true:=decide_eq_true (by omega)
  have d2:decide (i<=1000000000000000000)=true:=decide_eq_true (by omega)
  have d3:decide (0<=i)=true:=decide_eq_true h1
  have d4:decide (i < (ps.length:Int))=true:=decide_eq_true h2
  obtain ⟨k,rfl⟩:∃ k:Nat,i=(k:Int):=⟨i.toNat,by omega⟩
  have hk:k < ps.length:=by omega
  have a:=qi hk
  rw [a0N]
  have hw:WT d (ps.getD k .non):=v.wt _ (by rw [a0p,a0n hk]; exact a1G _)
  obtain ⟨xs,hx⟩:=bj hw
  rw [hx] at a hw ⊢
  refine ⟨_,_,by simp_all only [PA,f_part_at,pp,nn,d1,d2,d3,d4,a3E,a1F,a]; rfl,hw⟩
 ·cases hb:(decide (-(1000000000000000000:Int)<=i)&&decide (i<=1000000000000000000)) with
  | false=>exact ⟨_,by simp_all only [PA,f_part_at,pp,nn,hb,a1y,d8,hf,kM]; rfl⟩
  | true =>
   cases h3:decide (0<=i) with
   | false=>exact ⟨_,by simp_all only [PA,f_part_at,pp,nn,hb,h3,a1F,a1y,d8,hf,kM]; rfl⟩
   | true =>
    have h4:decide (i < (ps.length:Int))=false:=decide_eq_false fun z=>hn ⟨of_decide_eq_true h3,z⟩
    exact ⟨_,by simp_all only [PA,f_part_at,pp,nn,hb,h3,h4,a1F,a1y,d8,hf,kM]; rfl⟩
theorem wH (n:Nat)(w0:Option W)(PL:List Int)(hf:fldOk 1 .s (.tup (iT PL))=true):∀ (L:List Int) (d:Nat) (u:T) (o3 o4:Option W),WT d u ->
  (∀ u',bw u L=some u'->∃ o3' o4',dB [3] (evSs (C (n+3)) PA) (L.map fun i=>[((.s,.int i):W)]) [w0,some (.s,.tup (iT PL)),some (.s,u),o3,o4]=.nx [w0,some (.s,.tup (iT PL)),some (.s,u'),o3',o4']/\∃ d',d'<=d/\WT d' u') /\
  (bw u L=none->∃ η,dB [3] (evSs (C (n+3)) PA) (L.map fun i=>[((.s,.int i):W)]) [w0,some (.s,.tup (iT PL)),some (.s,u),o3,o4]=.ex (.ins ao [q "place"] [.tup (iT PL)]) η)
 | [],d,u,o3,o4,h=>⟨fun u' e=>by cases e; exact ⟨o3,o4,rfl,d,a0j _,h⟩,fun e=>nomatch e⟩
 | i::L,0,u,o3,o4,h=>nomatch h
 | i::L,d+1,u,o3,o4,h=>by
  obtain ⟨s1,s2⟩:=CV n w0 PL hf d u h i o4
  by_cases hi:0<=i/\i < ((bZ u).length:Int)
  ·obtain ⟨o3',o4',e,wt⟩:=s1 hi
   obtain ⟨k1,k2⟩:=wH n w0 PL hf L d _ o3' o4' wt
   have ew:bw u (i::L)=bw ((bZ u).getD i.toNat .non) L:=by rw [bw,if_pos hi]
   rw [ew]
   refine ⟨fun u' z=>?_,fun z=>?_⟩
   ·obtain ⟨a,b,q1,d',hd',q2⟩:=k1 u' z
    exact ⟨a,b,(congrArg (Fl.turn · _) e).trans q1,d',by omega,q2⟩
   ·obtain ⟨η,q1⟩:=k2 z
    exact ⟨η,(congrArg (Fl.turn · _) e).trans q1⟩
  ·obtain ⟨η,e⟩:=s2 hi
   have ew:bw u (i::L)=none:=by rw [bw,if_neg hi]
   rw [ew]
   exact ⟨(fun u' z=>nomatch z),fun _=>⟨η,congrArg (Fl.turn · _) e⟩⟩
theorem eR (n d:Nat)(t:T)(h:WT d t)(L:List Int)(hf:fldOk 1 .s (.tup (iT L))=true)(m m':Md) :
  (∀ u,bw t L=some u->C (n+4) 335 [(m,t),(m',.tup (iT L))]=.ok ((.s,u),[]))/\(bw t L=none->C (n+4) 335 [(m,t),(m',.tup (iT L))]=.ex (.ins ao [q "place"] [.tup (iT L)])):=by
 obtain ⟨k1,k2⟩:=wH n (some (.s,t)) L hf L d t none none h
 obtain ⟨xs,rfl⟩:=bj h
 have hm:(iT L).map (fun t=>[((.s,t):W)])=L.map fun i=>[((.s,.int i):W)]:=by rw [iT,a1r]; rfl
 refine ⟨fun u z=>?_,fun z=>?_⟩
 ·obtain ⟨a,b,q1,_⟩:=k1 u z
  rw [fj,x_run _ _ _ rfl]
  rw [show f_part_at.body=[.asg (.q [0] []) 2 (.var 0),.forS [1] [] .seq [.var 1] [3] PA,.ret [] (.mv 2)] from rfl,show f_part_at.ns=3 from rfl,show f_part_at.io=[] from rfl]
  simp_all only [hm,q1]
 ·obtain ⟨η,q1⟩:=k2 z
  rw [fj,x_run _ _ _ rfl]
  rw [show f_part_at.body=[.asg (.q [0] []) 2 (.var 0),.forS [1] [] .seq [.var 1] [3] PA,.ret [] (.mv 2)] from rfl,show f_part_at.ns=3 from rfl,show f_part_at.io=[] from rfl]
  simp_all only [hm,q1,kM]
  rfl
theorem kr {n:Nat}:∀ {ts:List T},(∀ u∈ts,dp u<=n)->dps ts<=n
 | [],_=>a0Q _
 | t::ts,h=>by
  have h1:=h t a0k
  have h2:=kr (ts:=ts) fun u hu=>h u (a0f _ hu)
  show max (dp t) (dps ts)<=n
  omega
theorem eI:∀ {ts:List T},(∀ u∈ts,eqT u u=true)->eqTs ts ts=true
 | [],_=>rfl
 | t::ts,h=>by
  show (eqT t t&&eqTs ts ts)=true
  rw [h t a0k,eI fun u hu=>h u (a0f _ hu)]; rfl
theorem aA {ts:List T}{n:Nat}(h:∀ u∈ts,eqT u u=true/\dp u<=n):eqT (.tup ts) (.tup ts)=true/\dp (.tup ts)<=n+1 :=
 ⟨eI fun u hu=>(h u hu).1,by have:=kr fun u hu=>(h u hu).2; show dps ts+1<=n+1; omega⟩
theorem qH {ts:List T}{n:Nat}(h:∀ u∈ts,eqT u u=true/\dp u<=n):eqT (.lst ts) (.lst ts)=true/\dp (.lst ts)<=n+1 :=
 ⟨eI fun u hu=>(h u hu).1,by have:=kr fun u hu=>(h u hu).2; show dps ts+1<=n+1; omega⟩
theorem aI (x:Str)(n:Nat):eqT (.str x) (.str x)=true/\dp (.str x)<=n:=⟨beq_self_eq_true x,a0Q _⟩
theorem cP (i:Int)(n:Nat):eqT (.int i) (.int i)=true/\dp (.int i)<=n:=⟨beq_self_eq_true i,a0Q _⟩
theorem vJ {j:Nat}{t:T}(h:KK j t):eqT t t=true/\dp t<=j:=by
 induction h with
 | num=>exact aA fun u hu=>by rw [a0t.mp hu]; exact aI _ _
 | truth=>exact aA fun u hu=>by rw [a0t.mp hu]; exact aI _ _
 | row _ ih =>
  exact aA fun u hu=>by
   rcases a0m.mp hu with rfl | hu
   ·exact aI _ _
   ·rw [a0t.mp hu]; exact ih
 | pair _ _ i1 i2 =>
  exact aA fun u hu=>by
   rcases a0m.mp hu with rfl | hu
   ·exact aI _ _
   ·rcases a0m.mp hu with rfl | hu
    ·exact i1
    ·rw [a0t.mp hu]; exact i2
theorem cz {d:Nat}{t:T}(h:WT d t):eqT t t=true/\dp t<=d+6:=by
 induction h with
 | num _ _ =>
  exact aA fun u hu=>by
   rcases a0m.mp hu with rfl | hu
   ·exact aI _ _
   ·rw [a0t.mp hu]; exact cP _ _
 | name _ =>
  exact aA fun u hu=>by
   rcases a0m.mp hu with rfl | hu
   ·exact aI _ _
   ·rw [a0t.mp hu]; exact aI _ _
 | none hk =>
  exact aA fun u hu=>by
   rcases a0m.mp hu with rfl | hu
   ·exact aI _ _
   ·rw [a0t.mp hu]
    obtain ⟨a,b⟩:=vJ hk
    exact ⟨a,by omega⟩
 | node _ _ _ ih =>
  exact aA fun u hu=>by
   rcases a0m.mp hu with rfl | hu
   ·exact aI _ _
   ·obtain ⟨a,b⟩:=ih u hu; exact ⟨a,by omega⟩
 | bind _ _ _ _ ih =>
  exact aA fun u hu=>by
   rcases a0m.mp hu with rfl | hu
   ·exact aI _ _
   ·rcases a0m.mp hu with rfl | hu
    ·exact aI _ _
    ·obtain ⟨a,b⟩:=ih u hu; exact ⟨a,by omega⟩
theorem bT {t:T}(e:eqT t t=true)(hd:dp t<=64)(h:Bool)(m n:Md):oSem .ne h [(m,t),(n,t)]=some (.d,.bl false):=by
 show (if decide (dp t<=64)&&decide (dp t<=64) then some (Md.d,T.bl (!eqT t t)) else none)=_
 rw [decide_eq_true hd,e]; rfl
theorem lU {t:T}(e:eqT t t=true)(hd:dp t<=64)(h:Bool)(m n:Md):oSem .eq h [(m,t),(n,t)]=some (.d,.bl true):=by
 show (if decide (dp t<=64)&&decide (dp t<=64) then some (Md.d,T.bl (eqT t t)) else none)=_
 rw [decide_eq_true hd,e]; rfl
theorem bnd (s:Str):getI (bt.lookup s) none=.non\/∃ i,getI (bt.lookup s) none=.int i:=by
 cases bt.lookup s with
 | none=>exact .inl rfl
 | some i=>exact .inr ⟨i,rfl⟩
noncomputable abbrev oth (k:Nat):List T:=(a0F k).map fun (j:Nat)=>T.tup [.str (q "num"),.int (j:Int)]
theorem pk (n d:Nat)(t:T)(h:WT (d+1) t)(hd20:d<=20)(m:Md):C (n+3) 341 [(m,t)]=.ok ((.d,.bl true),[]):=by
 obtain ⟨e0,e1⟩:=cz h
 obtain ⟨s,hd,ps,rfl,v⟩:=wv h
 have tt:=bT (t:=.tup ps) (aA (n:=d+6) fun u hu=>cz (v.wt u hu)).1 (by have:=(aA (n:=d+6) fun u hu=>cz (v.wt u hu)).2; omega)
 have te:=lU e0 (by omega)
 have st:=fun m=>v.ls (n+1) m
 have bo:=fun m=>kD (n+1) (q s) (hd++ps) m
 rw [v.bi] at bo
 have pp:=fun m=>v.partsP n m
 have wp:=fun m m' xs hx=>v.withP n m m' xs hx
 have lh:=v.hl
 have lq:=v.pl
 have ix0:∀ h m k,oSem .ix h [(m,.tup (.str (q s)::(hd++ps))),(k,.int 0)]=some (m.kid,.str (q s)):=fun h m k=>by rw [gR,at0]; rfl
 have ln:∀ h m,oSem .len h [(m,.tup (.str (q s)::(hd++ps)))]=some (.d,.int (((hd.length+1:Nat):Int)+(ps.length:Int))):=fun h m=>by
  show some ((.d,.int (((T.str (q s)::(hd++ps)).length:Nat):Int)):W)=_
  rw [a0g,a0c,show ((hd.length+ps.length+1:Nat):Int)=((hd.length+1:Nat):Int)+(ps.length:Int) by omega]
 have s1:∀ h m k,oSem .sl1 h [(m,.tup (.str (q s)::(hd++ps))),(k,.int ((hd.length+1:Nat):Int))]=some (.s,.tup ps):=fun h m k=>by rw [eA,Ah]
 have s2:∀ h m k,oSem .sl2 h [(m,.tup (.str (q s)::(hd++ps))),(k,.int ((hd.length+1:Nat):Int))]=some (.s,.tup (.str (q s)::hd)):=fun h m k=>by rw [iC,Cr]
 have sb:((hd.length+1:Nat):Int)+(ps.length:Int)-((hd.length+1:Nat):Int)=(ps.length:Int):=by omega
 obtain ⟨r1,r2⟩:=qf lq
 have cp:∀ w0 w1 w2 w3,aX [5] (fE (evE (C (n+2)) (.tup [.cst (.str (q "num")),.var 5]))) ((a0F ps.length).map fun (k:Nat)=>[((.d,.int k):W)]) [w0,w1,w2,w3,none,none] []=.ok ([]++(a0F ps.length).map (fun (j:Nat)=>((.d,.tup [.str (q "num"),.int (j:Int)]):W)),[w0,w1,w2,w3,none,none]):=fun w0 w1 w2 w3 =>
  eh _ _ [] fun j hj=>⟨_,[w0,w1,w2,w3,none,some (.d,.int j)],rfl,by simp_all only [],rfl⟩
 have tr:trees ((a0F ps.length).map (fun (j:Nat)=>((.d,.tup [.str (q "num"),.int (j:Int)]):W)))=oth ps.length:=gS .d _ _
 have w1:=fun m m'=>wp m m' (oth ps.length) (by rw [a0b,a1E]; omega)
 have w2:=fun m m'=>wp m m' ps (by omega)
 have fo:(fits ((T.str (q s)::hd).length+(oth ps.length).length)&&!(T.str (q s)::hd).isEmpty)=true:=by
  rw [a0d]
  exact ⟨decide_eq_true (by rw [a0g,a0b,a1E]; show _<=16777215; omega),rfl⟩
 have ho:∀ u∈T.str (q s)::(hd++oth ps.length),eqT u u=true/\dp u<=d+7:=fun u hu=>by
  rcases a0m.mp hu with rfl | hu
  ·exact aI _ _
  ·rcases a0P.mp hu with hu | hu
   ·have e0':eqTs (T.str (q s)::(hd++ps)) (T.str (q s)::(hd++ps))=true:=e0
    have e1':dps (T.str (q s)::(hd++ps))+1<=d+1+6:=e1
    have key:∀ l:List T,eqTs l l=true->∀ u∈l,eqT u u=true:=by
     intro l
     induction l with
     | nil=>intro _ u hu; cases hu
     | cons a r ih =>
      intro z u hu
      have z:(eqT a a&&eqTs r r)=true:=z
      rw [a0d] at z
      rcases a0m.mp hu with rfl | hu
      ·exact z.1
      ·exact ih z.2 u hu
    have key2:∀ l:List T,∀ u∈l,dp u<=dps l:=by
     intro l
     induction l with
     | nil=>intro u hu; cases hu
     | cons a r ih =>
      intro u hu
      show dp u<=max (dp a) (dps r)
      rcases a0m.mp hu with rfl | hu
      ·omega
      ·have:=ih u hu; omega
    have mu:u∈T.str (q s)::(hd++ps):=a0f _ (a0K _ hu)
    exact ⟨key _ e0' u mu,by have:=key2 _ u mu; omega⟩
   ·obtain ⟨j,_,rfl⟩:=a0Z.mp hu
    obtain ⟨a,b⟩:=aA (ts:=[.str (q "num"),.int (j:Int)]) (n:=0) fun u hu=>by
     rcases a0m.mp hu with rfl | hu
     ·exact aI _ _
     ·rw [a0t.mp hu]; exact cP _ _
    exact ⟨a,by omega⟩
 have to:=bT (t:=.tup (.str (q s)::(hd++oth ps.length))) (aA ho).1 (by have:=(aA ho).2; omega)
 have ca:T.str (q s)::hd++oth ps.length=T.str (q s)::(hd++oth ps.length):=rfl
 have nl:∀ m,newL false m ps=some (m.up,.lst ps):=fun m=>rfl
 have hb:=bnd (q s)
 rw [ic,x_run _ _ _ rfl]
 have bt':[(q "let",(1:Int)),(q "each",1),(q "times",2)]=bt:=rfl
 have hbv:∃ w:T,getI (bt.lookup (q s)) none=w/\(w=.non\/∃ i,w=.int i):=⟨_,rfl,hb⟩
 obtain ⟨w,hw,hb⟩:=hbv
 rw [hw] at bo
 have isl:T.leaf (.tup (.str (q s)::(hd++ps)))=false:=rfl
 have lu:∀ m,look (m,.tup (.str (q s)::(hd++ps)))=if m=.s then some (.s,.tup (.str (q s)::(hd++ps))) else none:=fun m=>by cases m<;>rfl
 rcases hb with rfl | ⟨i,rfl⟩
 ·have nn:∀ h m n,oSem .ne h [(m,.non),(n,.non)]=some (.d,.bl false):=fun _ _ _=>rfl
  have ib:(["bool"].any fun c=>isOne c .non)=false:=rfl
  generalize T.tup (.str (q s)::(hd++ps))=U at *
  simp_all only [bb,st,ix0,bt',hw,bo,pp,s1,tt,nn,T.isH,ib,ln,sb,r1,r2,cp,a0T,tr,w1,s2,fo,ca,to,w2,nl,te]
 ·have nn:∀ h m n,oSem .ne h [(m,.int i),(n,.int i)]=some (.d,.bl false):=fun h m n=>bT (cP i 0).1 (a0Q _) h m n
  have ib:(["bool"].any fun c=>isOne c (.int i))=false:=rfl
  generalize T.tup (.str (q s)::(hd++ps))=U at *
  simp_all only [bb,st,ix0,bt',hw,bo,pp,s1,tt,nn,T.isH,ib,ln,sb,r1,r2,cp,a0T,tr,w1,s2,fo,ca,to,w2,nl,te]
noncomputable def bQ:T->List Int->T->T
 | _,[],o=>o
 | .tup xs,i::r,o=>.tup (xs.take (xs.length-(bZ (.tup xs)).length)++(bZ (.tup xs)).set i.toNat (bQ ((bZ (.tup xs)).getD i.toNat .non) r o))
 | t,_::_,_=>t
theorem kQ {d:Nat}{s:String}{h ps:List T}(v:WV d s h ps)(i:Int)(r:List Int)(o:T):bQ (.tup (.str (q s)::(h++ps))) (i::r) o=.tup (.str (q s)::(h++ps.set i.toNat (bQ (ps.getD i.toNat .non) r o))):=by
 rw [bQ,v.pt]
 have:(T.str (q s)::(h++ps)).length-ps.length=h.length+1:=by rw [a0g,a0c]; omega
 rw [this,a03,a3w]
 rfl
theorem lW {d:Nat}{t:T}(h:WT d t):∀ {d':Nat},d<=d'->WT d' t:=by
 induction h with
 | num h0 h1=>intro d' hd; obtain ⟨e,rfl⟩:∃ e,d'=e+1:=⟨d'-1,by omega⟩; exact .num h0 h1
 | name hs=>intro d' hd; obtain ⟨e,rfl⟩:∃ e,d'=e+1:=⟨d'-1,by omega⟩; exact .name hs
 | none hk=>intro d' hd; obtain ⟨e,rfl⟩:∃ e,d'=e+1:=⟨d'-1,by omega⟩; exact .none hk
 | node hs hl _ ih=>intro d' hd; obtain ⟨e,rfl⟩:∃ e,d'=e+1:=⟨d'-1,by omega⟩; exact .node hs hl fun p hp=>ih p hp (by omega)
 | bind hs hx hl _ ih=>intro d' hd; obtain ⟨e,rfl⟩:∃ e,d'=e+1:=⟨d'-1,by omega⟩; exact .bind hs hx hl fun p hp=>ih p hp (by omega)
theorem dM {t u:T}{i:Int}{r:List Int}(h:bw t (i::r)=some u):∃ k:Nat,i=(k:Int)/\k < (bZ t).length/\bw ((bZ t).getD k .non) r=some u:=by
 rw [bw] at h
 split at h
 ·rename_i hc
  obtain ⟨k,rfl⟩:∃ k:Nat,i=(k:Int):=⟨i.toNat,by omega⟩
  exact ⟨k,rfl,by omega,h⟩
 ·cases h
theorem dN {ps:List T}{k:Nat}(h:k < ps.length):ps.getD k .non∈ps:=by
 rw [a0p,a0n h]; exact a1G _
theorem ik {e:Nat}{o:T}(ho:WT e o):∀ (L:List Int) (d:Nat) (t u:T),WT d t->bw t L=some u->WT (d+e) (bQ t L o)/\bw (bQ t L o) L=some o
 | [],d,t,u,_,_=>⟨lW ho (by omega),rfl⟩
 | i::r,0,t,u,h,_=>nomatch h
 | i::r,d+1,t,u,h,hw=>by
  obtain ⟨k,rfl,hk,hw2⟩:=dM hw
  obtain ⟨s,hd,ps,rfl,v⟩:=wv h
  rw [v.pt] at hk hw2
  obtain ⟨a,b⟩:=ik ho r d _ u (v.wt _ (dN hk)) hw2
  rw [kQ v,a0N]
  have wn:WT (d+e+1) (.tup (.str (q s)::(hd++ps.set k (bQ (ps.getD k .non) r o)))):=v.rb (d+e) _ (by rw [a05]) fun p hp=>by
   rcases List.mem_or_eq_of_mem_set hp with hp | rfl
   ·exact lW (v.wt p hp) (by omega)
   ·exact a
  refine ⟨by rw [show d+1+e=d+e+1 by omega]; exact wn,?_⟩
  have pt:bZ (.tup (.str (q s)::(hd++ps.set k (bQ (ps.getD k .non) r o))))=ps.set k (bQ (ps.getD k .non) r o):=by
   have p0:=v.pt
   unfold bZ at p0 ⊢
   cases hc:keys_AHEAD.contains (q s) with
   | true =>
    simp only [hc,if_true] at p0 ⊢
    have hl:=v.hl
    match hd,hl,p0 with
    | [],_,p0 =>
     have:(ps.drop 1).length=ps.length:=congrArg a2T p0
     rw [a0X] at this
     omega
    | [x],_,_=>rfl
    | _::_::_,hl,_=>simp at hl
   | false =>
    simp only [hc,a23,if_false] at p0 ⊢
    have hl:=v.hl
    match hd,hl,p0 with
    | [],_,_=>rfl
    | [x],_,p0 =>
     have:=congrArg a2T p0
     simp at this
    | _::_::_,hl,_=>simp at hl
  rw [bw,pt,a05,if_pos ⟨by omega,by omega⟩,a0N,a0p,a00 hk]
  exact b
theorem ixn {n k:Nat}(h:k < n):ixN n (k:Int)=some k:=by
 unfold ixN
 rw [if_pos (by omega),if_pos (by omega),a0N]
theorem xl (i:Int)(r:List Int):cut (iT (i::r)) (some 1) none=iT r:=EZ _ _
theorem rM {e:Nat}{o:T}(ho:WT e o)(n:Nat):∀ (L:List Int) (d:Nat) (t u:T) (m m' m2:Md),WT d t->bw t L=some u->C (n+L.length+3) 354 [(m,t),(m',.tup (iT L)),(m2,o)]=.ok ((if L.isEmpty then m2 else .s,bQ t L o),[])
 | [],d,t,u,m,m',m2,_,_=>by
  rw [show n+([]:List Int).length+3=n+2+1 from rfl,eJ,x_run _ _ _ rfl]
  have e0:((((iT []).length:Nat):Int)==0)=true:=rfl
  simp_all only [bz,e0]
  rfl
 | i::r,0,t,u,m,m',m2,h,_=>nomatch h
 | i::r,d+1,t,u,m,m',m2,h,hw=>by
  obtain ⟨k,rfl,hk,hw2⟩:=dM hw
  obtain ⟨s,hd,ps,rfl,v⟩:=wv h
  rw [v.pt] at hk hw2
  have wp:=v.wt _ (dN hk)
  have ih:=fun m m'=>rM ho n r d _ u m m' .s wp hw2
  obtain ⟨xs',hx'⟩:=bj (ik ho r d _ u wp hw2).1
  rw [kQ v,a0N]
  rw [hx'] at ih ⊢
  have e0:((((iT ((k:Int)::r)).length:Nat):Int)==0)=false:=beq_eq_false_iff_ne.mpr (by rw [a0b,a0g]; omega)
  have pp:=fun m=>v.partsP (n+r.length+1) m
  have wq:=fun m m'=>v.withP (n+r.length+1) m m' (ps.set k (.tup xs')) (by rw [a05]; have:=v.pl; omega)
  have a:=qi hk
  have c1:=xl (k:Int) r
  have i0:∀ h m n,oSem .ix h [(m,.tup (iT ((k:Int)::r))),(n,.int 0)]=some (m.kid,.int (k:Int)):=fun h m n=>by rw [gR,show iT ((k:Int)::r)=T.int (k:Int)::iT r from rfl,at0]; rfl
  have nl:∀ m,newL false m ps=some (m.up,.lst ps):=fun m=>rfl
  have ix:=ixn hk
  have lm:∀ m,lf m (.tup xs')=m:=fun _=>rfl
  simp only [ite_self] at ih
  rw [show n+((k:Int)::r).length+3=(n+r.length+1+2)+1 by rw [a0g]; omega,eJ,x_run _ _ _ rfl]
  have ih':∀ m m',C (n+r.length+1+2) 354 [(m,ps.getD k .non),(m',.tup (iT r)),(.s,o)]=.ok ((.s,.tup xs'),[]):=ih
  generalize hI:iT ((k:Int)::r)=II at e0 c1 i0
  generalize T.tup (.str (q s)::(hd++ps))=U at pp wq
  simp_all only [bz,e0,pp,nl,i0,a,eA,c1,ih',ix,lm,wq,a3a]
theorem vC (x:T)(h ps:List T)(k:Nat)(hk:k < ps.length)(a:T):(x::(h++ps)).take (h.length+1+k)++[a]++(x::(h++ps)).drop (h.length+1+k+1)=x::(h++ps.set k a):=by
 have e:(x::(h++ps)).set (h.length+1+k) a=x::(h++ps.set k a):=by
  rw [show h.length+1+k=(h.length+k)+1 by omega,List.set_cons_succ,List.set_append_right (h.length+k) a (by omega),show h.length+k-h.length=k by omega]
 rw [<- e,List.set_eq_take_append_cons_drop,if_pos (by rw [a0g,a0c]; omega),a0O]
 rfl
theorem ll {e:Nat}{o:T}(ho:WT e o)(n:Nat):∀ (L:List Int) (d:Nat) (t u:T) (m m' m2:Md),WT d t->bw t L=some u->dp (.tup (iT L))<=64->C (n+L.length+3) 352 [(m,t),(m',.tup (iT L)),(m2,o)]=.ok ((if L.isEmpty then m2 else .s,bQ t L o),[])
 | [],d,t,u,m,m',m2,_,_,_=>by
  rw [show n+([]:List Int).length+3=n+2+1 from rfl,f7,x_run _ _ _ rfl]
  have e0:∀ h m n,oSem .eq h [(m,.tup (iT [])),(n,.tup [])]=some (.d,.bl true):=fun _ _ _=>rfl
  simp_all only [bM,e0]
  rfl
 | i::r,0,t,u,m,m',m2,h,_,_=>nomatch h
 | i::r,d+1,t,u,m,m',m2,h,hw,hd64=>by
  obtain ⟨k,rfl,hk,hw2⟩:=dM hw
  obtain ⟨s,hd,ps,rfl,v⟩:=wv h
  rw [v.pt] at hk hw2
  have wp:=v.wt _ (dN hk)
  have hdr:dp (.tup (iT r))<=64:=by
   have h1:dps (iT ((k:Int)::r))+1<=64:=hd64
   have h2:max (dp (.int (k:Int))) (dps (iT r))+1<=64:=h1
   show dps (iT r)+1<=64
   omega
  have ih:=fun m m' m2=>ll ho n r d _ u m m' m2 wp hw2 hdr
  rw [kQ v,a0N]
  have e0:∀ h m n,oSem .eq h [(m,.tup (iT ((k:Int)::r))),(n,.tup [])]=some (.d,.bl false):=fun h m n=>by
   show (if decide (dp (.tup (iT ((k:Int)::r)))<=64)&&decide (dp (.tup [])<=64) then some ((.d,.bl false):W) else none)=_
   rw [decide_eq_true hd64]; rfl
  have st:=fun m=>v.ls (n+r.length+2) m
  have lh:=v.hl
  have lq:=v.pl
  have i0:∀ h m n,oSem .ix h [(m,.tup (iT ((k:Int)::r))),(n,.int 0)]=some (m.kid,.int (k:Int)):=fun h m n=>by rw [gR,show iT ((k:Int)::r)=T.int (k:Int)::iT r from rfl,at0]; rfl
  have c1:∀ h m n,oSem .sl1 h [(m,.tup (iT ((k:Int)::r))),(n,.int 1)]=some (.s,.tup (iT r)):=fun h m n=>by rw [eA,xl]
  have ad:((hd.length+1:Nat):Int)+(k:Int)=((hd.length+1+k:Nat):Int):=by omega
  have ad1:((hd.length+1+k:Nat):Int)+1=((hd.length+1+k+1:Nat):Int):=by omega
  have ixk:∀ h m n,oSem .ix h [(m,.tup (.str (q s)::(hd++ps))),(n,.int ((hd.length+1+k:Nat):Int))]=some (m.kid,ps.getD k .non):=fun h m n=>by
   rw [gR,show atI (T.str (q s)::(hd++ps)) ((hd.length+1+k:Nat):Int)=some (ps.getD k .non) from atN (n:=hd.length+1+k) rfl (by rw [show hd.length+1+k=(hd.length+k)+1 by omega,a0w,a0I (by omega),show hd.length+k-hd.length=k by omega,a0p,a0n hk]; rfl)]
   rfl
  have s2:∀ h m n,oSem .sl2 h [(m,.tup (.str (q s)::(hd++ps))),(n,.int ((hd.length+1+k:Nat):Int))]=some (.s,.tup ((.str (q s)::(hd++ps)).take (hd.length+1+k))):=fun h m n=>by rw [iC,dI]
  have s1:∀ h m n,oSem .sl1 h [(m,.tup (.str (q s)::(hd++ps))),(n,.int ((hd.length+1+k+1:Nat):Int))]=some (.s,.tup ((.str (q s)::(hd++ps)).drop (hd.length+1+k+1))):=fun h m n=>by rw [eA,fQ]
  have ct:∀ h m n,oSem .catT h [(m,.tup ((.str (q s)::(hd++ps)).take (hd.length+1+k))),(n,.tup [bQ (ps.getD k .non) r o])]=some (.s,.tup ((.str (q s)::(hd++ps)).take (hd.length+1+k)++[bQ (ps.getD k .non) r o])):=fun h m n=>by
   have hf:fits (((T.str (q s)::(hd++ps)).take (hd.length+1+k)).length+[bQ (ps.getD k .non) r o].length)=true:=decide_eq_true (by rw [a0W,a0o,a0g,a0c]; show _<=16777215; omega)
   show (if fits _=true then _ else none)=_
   rw [if_pos hf]
  have ad2:∀ h m n,oSem .add h [(m,.tup ((.str (q s)::(hd++ps)).take (hd.length+1+k)++[bQ (ps.getD k .non) r o])),(n,.tup ((.str (q s)::(hd++ps)).drop (hd.length+1+k+1)))]=some (.s,.tup (.str (q s)::(hd++ps.set k (bQ (ps.getD k .non) r o)))):=fun h m n=>by
   rw [iS,if_pos,vC _ _ _ _ hk]
   rw [a0d]
   refine ⟨decide_eq_true (by rw [a0c,a0W,a0o,a0X,a0g,a0c]; show _<=16777215; omega),?_⟩
   simp
  rw [show n+((k:Int)::r).length+3=(n+r.length+3)+1 by rw [a0g]; omega,f7,x_run _ _ _ rfl]
  generalize iT ((k:Int)::r)=II at e0 i0 c1
  generalize hU:T.tup (.str (q s)::(hd++ps))=U at st ixk s2 s1
  simp_all only [bM,e0,st,i0,ad,ad1,ixk,c1,ih,s2,s1,ct,ad2,a3a]
theorem ig {e:Nat}{o:T}(ho:WT e o)(n:Nat)(L:List Int)(d:Nat)(t:T)(m m' m2:Md)(h:WT d t)(hf:fldOk 1 .s (.tup (iT L))=true) :
  (∀ u,bw t L=some u->C (n+L.length+5) 353 [(m,t),(m',.tup (iT L)),(m2,o)]=.ok ((if L.isEmpty then m2 else .s,bQ t L o),[]))/\(bw t L=none->C (n+L.length+5) 353 [(m,t),(m',.tup (iT L)),(m2,o)]=.ex (.ins ao [q "place"] [.tup (iT L)])):=by
 have pa:=fun m m'=>eR (n+L.length) d t h L hf m m'
 obtain ⟨xs,rfl⟩:=bj h
 refine ⟨fun u hw=>?_,fun hw=>?_⟩
 ·have p1:=fun m m'=>(pa m m').1 u hw
  have r1:=fun m m' m2=>rM ho (n+1) L d _ u m m' m2 h hw
  rw [show n+1+L.length+3=n+L.length+4 by omega] at r1
  rw [gQ,x_run _ _ _ rfl]
  generalize bQ (.tup xs) L o=R at r1
  simp_all only [bC,p1,r1]
 ·have p1:=fun m m'=>(pa m m').2 hw
  rw [gQ,x_run _ _ _ rfl]
  simp_all only [bC,p1,kM]
  rfl
theorem fT:WT 1 (.tup [.str (q "yes")]):=.node (s:="yes") (ps:=[]) (by decide) rfl (fun _ z=>nomatch z)
theorem x9 (n:Nat)(L:List Int)(d:Nat)(t:T)(b:Bool)(h:WT d t)(hf:fldOk 1 .s (.tup (iT L))=true)(hw:bw t L=none):C (n+L.length+6) 355 [(.s,t),(.s,.tup (iT L)),(.d,.bl b)]=.ok ((.d,.bl true),[]):=by
 have p1:=fun m m'=>(eR (n+L.length+1) d t h L hf m m').2 hw
 have p2:=fun m m' m2=>(ig fT n L d t m m' m2 h hf).2 hw
 obtain ⟨xs,rfl⟩:=bj h
 have k0:[aK,aN,ao,aD,aL,aM].contains ao=true:=rfl
 have k1:[aN,aM,aL,aK,aD].contains ao=false:=rfl
 have k2:[ao].contains ao=true:=rfl
 have k3:[aK,aN,ao,aD,aL,aM,bp].contains ao=true:=rfl
 have li:∀ m c fs vs,lf m (.ins c fs vs)=m:=fun _ _ _ _=>rfl
 have es:∀ h m n,oSem .eq h [(m,.tup (iT L)),(n,.tup (iT L))]=some (.d,.bl true):=by
  have z:=aA (ts:=iT L) (n:=0) fun u hu=>by obtain ⟨i,_,rfl⟩:=a0Z.mp hu; exact cP i 0
  exact lU z.1 (by omega)
 have bq:(q "place"==q "place")=true:=beq_self_eq_true _
 rw [fz,x_run _ _ _ rfl]
 cases b with
 | true=>simp_all only [aP,p2,kM,k0,li,k1,k2,k3,bq,es,a1y]
 | false=>simp_all only [aP,p1,kM,k0,li,k1,k2,k3,bq,es,a1y]
noncomputable abbrev nI (l:List Nat):List Int:=l.map fun (i:Nat)=>(i:Int)
theorem nTI (l:List Nat):nT l=iT (nI l):=by rw [nT,iT,nI,a1r]; rfl
theorem iN {f:T->List (List Nat×T)}{x:List Nat×T}:∀ (ps:List T) (i:Nat),x∈pcG f i ps ↔ ∃ k p y,ps[k]?=some p/\y∈f p/\x=((i+k)::y.1,y.2)
 | [],i=>by simp [pcG]
 | p::ps,i=>by
  rw [pcG,a0P,iN ps (i+1)]
  constructor
  ·rintro (h | ⟨k,p',y,h1,h2,h3⟩)
   ·obtain ⟨y,hy,rfl⟩:=a0Z.mp h
    exact ⟨0,p,y,rfl,hy,rfl⟩
   ·exact ⟨k+1,p',y,h1,h2,by rw [h3,show i+1+k=i+(k+1) by omega]⟩
  ·rintro ⟨k,p',y,h1,h2,h3⟩
   cases k with
   | zero=>cases h1; exact .inl (a0Z.mpr ⟨y,h2,h3.symm⟩)
   | succ k=>exact .inr ⟨k,p',y,h1,h2,by rw [h3,show i+1+k=i+(k+1) by omega]⟩
theorem cT:∀ (d:Nat) (t:T),WT d t->∀ x∈pcF d t,bw t (nI x.1)=some x.2/\x.1.length < d/\(∀ k∈x.1,k < 3)/\∃ d',d' < d/\WT (d'+1) x.2
 | 0,_,h,_,_=>nomatch h
 | d+1,t,h,x,hx=>by
  rw [pcF] at hx
  rcases a0P.mp hx with hx | hx
  ·obtain ⟨s,hd,ps,rfl,v⟩:=wv h
   rw [v.pt] at hx
   obtain ⟨k,p,y,h1,h2,rfl⟩:=(iN ps 0).mp hx
   have hk:k < ps.length:=(a0q.mp h1).1
   obtain ⟨a,b,c,d',e1,e2⟩:=cT d p (v.wt p (a1l h1)) y h2
   rw [a1J]
   refine ⟨?_,by rw [a0g]; omega,?_,d',by omega,e2⟩
   ·show bw _ ((k:Int)::nI y.1)=_
    rw [bw,v.pt,if_pos ⟨by omega,by omega⟩,a0N,a0p,h1]
    exact a
   ·intro j hj
    rcases a0m.mp hj with rfl | hj
    ·have:=v.pl; omega
    ·exact c j hj
  ·rw [a0t.mp hx]
   exact ⟨rfl,Nat.succ_pos _,(fun _ z=>nomatch z),d,Nat.lt_succ_self _,h⟩
theorem ma:∀ (L:List Int) (d:Nat) (t u:T),WT d t->bw t L=some u->∃ l,(l,u)∈pcF d t/\L=nI l
 | _,0,_,_,h,_=>nomatch h
 | [],d+1,t,u,h,hw=>by cases hw; exact ⟨[],by rw [pcF]; exact a0h _ (a0t.mpr rfl),rfl⟩
 | i::r,d+1,t,u,h,hw=>by
  obtain ⟨k,rfl,hk,hw2⟩:=dM hw
  obtain ⟨s,hd,ps,rfl,v⟩:=wv h
  rw [v.pt] at hk hw2
  obtain ⟨l,h1,rfl⟩:=ma r d _ u (v.wt _ (dN hk)) hw2
  refine ⟨k::l,?_,rfl⟩
  rw [pcF,v.pt]
  refine a0K _ ((iN ps 0).mpr ⟨k,_,_,?_,h1,by rw [a1J]⟩)
  rw [a0p,a0n hk]; rfl
theorem szI (L:List Int):szRs (iT L)=102 * L.length:=by
 induction L with
 | nil=>rfl
 | cons x l ih=>show 100+2+szRs (iT l)=_; rw [ih,a0g]; omega
theorem ER {L:List Int}(h:∀ i∈L,i.natAbs<=1000000000000000000):rOks (iT L)=true:=by
 induction L with
 | nil=>rfl
 | cons x l ih =>
  show (decide (x.natAbs < 10000000000000000000)&&rOks (iT l))=true
  rw [ih fun i hi=>h i (a0f _ hi),a24]
  exact decide_eq_true (by have:=h x a0k; omega)
theorem eY (L:List Int):eqT (.tup (iT L)) (.tup (iT L))=true/\dp (.tup (iT L))<=1:=aA (n:=0) fun u hu=>by obtain ⟨i,_,rfl⟩:=a0Z.mp hu; exact cP i 0
theorem DP {L:List Int}(hl:L.length<=100)(h:∀ i∈L,i.natAbs<=1000000000000000000):fldOk 1 .s (.tup (iT L))=true:=by
 show (decide (dp (.tup (iT L))<=64)&&rOks (iT L)&&decide (szRs (iT L)+4<=1000000))=true
 rw [ER h,szI,a24,a0d]
 exact ⟨decide_eq_true (by have:=(eY L).2; omega),decide_eq_true (by omega)⟩
noncomputable abbrev Wk (i j:Nat):List S:=(f_law.body.drop i).take j
noncomputable abbrev CB:List S:=match f_law.body with
 | [_,_,_,_,.forS _ _ _ _ _ b,_]=>b
 | _=>[]
noncomputable abbrev Bw (i j:Nat):List S:=(CB.drop i).take j
noncomputable abbrev pPl (D:List (List Nat×T)):List T:=D.map fun x=>T.tup (nT x.1)
noncomputable abbrev DUE (D:List (List Nat×T)):List T:=D.map fun x=>T.tup [.tup (nT x.1),x.2]
theorem prs (D:List (List Nat×T)):bI (DUE D)=some (D.map fun x=>[((.s,.tup (nT x.1)):W),(.s,x.2)]):=by
 induction D with
 | nil=>rfl
 | cons x r ih=>show (bI (DUE r)).map _=_; rw [ih]; rfl
theorem atD {D:List (List Nat×T)}{j:Nat}(h:j < D.length):∃ x∈D,atI (DUE D) (j:Int)=some (.tup [.tup (nT x.1),x.2]) :=
 ⟨D[j],a1G _,atN rfl (by rw [a0y,a0n h]; rfl)⟩
theorem fU (D:List (List Nat×T)):eqT (.lst (pPl D)) (.lst (pPl D))=true/\dp (.lst (pPl D))<=2:=qH (n:=1) fun u hu=>by
 obtain ⟨x,_,rfl⟩:=a0Z.mp hu
 rw [nTI]
 exact eY _
theorem yV (n:Nat)(D:List (List Nat×T))(i j:Nat)(hi:i=11\/i=13\/i=15)(hj:j=i+1)(η:Env)(hd:ah [i,j] η=η)(hl:η.length=17):aX [i,j] (fE (evE (C n) (.var i))) (D.map fun x=>[((.s,.tup (nT x.1)):W),(.s,x.2)]) η []=.ok ([]++D.map (fun x=>((.s,.tup (nT x.1)):W)),η):=by
 refine eh _ _ [] fun x hx=>?_
 match η,hl with
 | [a0,a1,a2,a3,a4,a5,a6,a7,a8,a9,a10,a11,a12,a13,a14,a15,a16],_ =>
  subst hj
  rcases hi with rfl | rfl | rfl
  ·simp only [ah,del,wr,a2M] at hd
   obtain ⟨_,_,_,_,_,_,_,_,_,_,_,h1,h2,_⟩:=hd
   exact ⟨_,[a0,a1,a2,a3,a4,a5,a6,a7,a8,a9,a10,some (.s,.tup (nT x.1)),some (.s,x.2),a13,a14,a15,a16],rfl,by simp_all only [],by rw [<- h1,<- h2]; rfl⟩
  ·simp only [ah,del,wr,a2M] at hd
   obtain ⟨_,_,_,_,_,_,_,_,_,_,_,_,_,h1,h2,_⟩:=hd
   exact ⟨_,[a0,a1,a2,a3,a4,a5,a6,a7,a8,a9,a10,a11,a12,some (.s,.tup (nT x.1)),some (.s,x.2),a15,a16],rfl,by simp_all only [],by rw [<- h1,<- h2]; rfl⟩
  ·simp only [ah,del,wr,a2M] at hd
   obtain ⟨_,_,_,_,_,_,_,_,_,_,_,_,_,_,_,h1,h2,_⟩:=hd
   exact ⟨_,[a0,a1,a2,a3,a4,a5,a6,a7,a8,a9,a10,a11,a12,a13,a14,some (.s,.tup (nT x.1)),some (.s,x.2)],rfl,by simp_all only [],by rw [<- h1,<- h2]; rfl⟩
theorem trP (D:List (List Nat×T)):trees (D.map (fun x=>((.s,.tup (nT x.1)):W)))=pPl D:=gS .s _ _
theorem eqI:∀ A B:List Int,eqTs (iT A) (iT B)=decide (A=B)
 | [],[]=>rfl
 | [],_::_=>rfl
 | _::_,[]=>rfl
 | a::A,b::B=>by
  show ((a==b)&&eqTs (iT A) (iT B))=_
  rw [eqI A B]
  by_cases h:a=b
  ·subst h; simp
  ·rw [beq_eq_false_iff_ne.mpr h]
   simp [h]
theorem Ey (D:List (List Nat×T))(L:List Int):((pPl D).any fun t=>eqT t (.tup (iT L)))=decide (∃ x∈D,nI x.1=L):=by
 rw [a3r,List.any_eq_true,decide_eq_true_eq]
 constructor
 ·rintro ⟨t,ht,e⟩
  obtain ⟨x,hx,rfl⟩:=a0Z.mp ht
  have e:eqTs (nT x.1) (iT L)=true:=e
  rw [nTI,eqI,decide_eq_true_eq] at e
  exact ⟨x,hx,e⟩
 ·rintro ⟨x,hx,e⟩
  refine ⟨_,a0Z.mpr ⟨x,hx,rfl⟩,?_⟩
  show eqTs (nT x.1) (iT L)=true
  rw [nTI,eqI,e]; exact decide_eq_true rfl
structure Tr (t:T)(D:List (List Nat×T)):Prop where
 wt:WT 7 t
 dd:D=pcF 7 t
 pl:∀ n m,C (n+11) 253 [(m,t)]=.ok ((.o .s,.lst (pPl D)),[])
 al:∀ n m m',C (n+9) 351 [(m,t),(m',.tup [])]=.ok ((.o .s,.lst (DUE D)),[])
 le:D.length<=100000
 ne:D≠[]
theorem Cd {t:T}(h:WT 7 t):Tr t (pcF 7 t):=by
 have hl:=l5 7 t h
 have h47:(4:Nat) ^ 7=16384:=by decide
 have hl2:(pcF 7 t).length=(ba 7 t).length:=by rw [<- iy 7 t,a0b]
 refine ⟨h,rfl,fun n m=>?_,fun n m m'=>?_,by omega,by rw [pcF]; simp⟩
 ·have:=nX 7 t h (by decide) (by omega) n m
  rw [show n+7+4=n+11 from rfl] at this
  rw [this,<- iy 7 t,Es,a1r]
  rfl
 ·have:=sJ 7 t h n [] m m' (by decide) (by omega)
  rw [show n+7+2=n+9 from rfl] at this
  exact this
theorem Fd (ns:List Int):∃ ms md t,WT 7 t/\evSs (C 39) (Wk 0 1) [some (.d,.scr ns),none,none,none,none,none,none,none,none,none,none,none,none,none,none,none,none]=.nx [some (ms,.scr ns),some (md,t),none,none,none,none,none,none,none,none,none,none,none,none,none,none,none]:=by
 obtain ⟨md,t,ns',e,h⟩:=ij 6 25 (ns.take 40)
 have e':C 39 229 [(.d,.lst ((ns.take 40).map T.int)),(.d,.int 6)]=.ok ((md,t),[(.d,.lst ((ns':List Int).map T.int))]):=e
 obtain ⟨xs,rfl⟩:=bj h
 have nl:newL false .d ((ns.take 40).map T.int)=some (.d,.lst ((ns.take 40).map T.int)):=rfl
 have lt:∀ m,lf m (.tup xs)=m:=fun _=>rfl
 have c4:cut ns none (some 40)=ns.take 40:=dI ns 40
 cases md with
 | d=>exact ⟨.d,.d,_,h,by simp_all only [Wk,f_law,a1U,a1V,c4,nl,e',lt]⟩
 | s=>exact ⟨.s,.s,_,h,by simp_all only [Wk,f_law,a1U,a1V,c4,nl,e',lt]⟩
 | o m=>exact ⟨.s,.o m,_,h,by simp_all only [Wk,f_law,a1U,a1V,c4,nl,e',lt]⟩
theorem EL {t:T}{D:List (List Nat×T)}(tr:Tr t D)(w0:Option W)(md:Md):evSs (C 39) (Wk 1 2) [w0,some (md,t),none,none,none,none,none,none,none,none,none,none,none,none,none,none,none]=.nx [w0,some (.s,t),some (.o .s,.lst (DUE D)),none,none,none,none,none,none,none,none,none,none,none,none,none,none]:=by
 have al:=fun m m'=>tr.al 30 m m'
 have pl:=fun m=>tr.pl 28 m
 have pr:=prs D
 have cp:=fun η hd hl=>yV 39 D 11 12 (.inl rfl) rfl η hd hl
 have tp:=trP D
 have ns:=bT (fU D).1 (by have:=(fU D).2; omega)
 obtain ⟨xs,rfl⟩:=bj tr.wt
 have cp1:=cp [none,some (.s,.tup xs),some (.s,.lst (DUE D)),none,none,none,none,none,none,none,none,none,none,none,none,none,none] rfl rfl
 generalize DUE D=DU at *
 generalize pPl D=PP at *
 generalize D.map (fun x=>[((.s,.tup (nT x.1)):W),(.s,x.2)])=G at *
 generalize D.map (fun x=>((.s,.tup (nT x.1)):W))=G2 at *
 simp_all only [Wk,f_law,a1U,a1V,al,pl,pr,cp1,a0T,tp,ns]
noncomputable abbrev FB:List S:=match f_law.body with
 | [_,_,_,.forS _ _ _ _ _ b,_,_]=>b
 | _=>[]
theorem qr {t:T}(h:WT 7 t){x:List Nat×T}(hx:x∈pcF 7 t):fldOk 1 .s (.tup (iT (nI x.1)))=true:=by
 obtain ⟨_,b,c,_⟩:=cT 7 t h x hx
 refine DP (by rw [a0b]; omega) fun i hi=>?_
 obtain ⟨k,hk,rfl⟩:=a0Z.mp hi
 have:=c k hk
 omega
theorem FJ {t:T}{D:List (List Nat×T)}(tr:Tr t D)(w0:Option W):∃ o3 o4,evSs (C 39) (Wk 3 1) [w0,some (.s,t),some (.o .s,.lst (DUE D)),none,none,none,none,none,none,none,none,none,none,none,none,none,none]=.nx [w0,some (.s,t),some (.s,.lst (DUE D)),o3,o4,none,none,none,none,none,none,none,none,none,none,none,none]:=by
 have pr:=prs D
 obtain ⟨η',lp,o3,o4,rfl⟩:=dR (tg:=[3,4]) (f:=evSs (C 39) FB) (g:=fun x:List Nat×T=>[((.s,.tup (nT x.1)):W),(.s,x.2)])
  (fun _ η=>∃ o3 o4,η=[w0,some (.s,t),some (.s,.lst (DUE D)),o3,o4,none,none,none,none,none,none,none,none,none,none,none,none]) D [] [w0,some (.s,t),some (.s,.lst (DUE D)),none,none,none,none,none,none,none,none,none,none,none,none,none,none] ⟨none,none,rfl⟩ (fun p x r η hp ⟨o3,o4,he⟩=>by
   subst he
   have hx:x∈pcF 7 t:=by rw [<- tr.dd,show D=p++x::r from hp]; simp
   obtain ⟨a,b,c,d',e1,e2⟩:=cT 7 t tr.wt x hx
   have pa:=fun m m'=>(eR 35 7 t tr.wt _ (qr tr.wt hx) m m').1 _ a
   rw [<- nTI] at pa
   have pc:=fun m=>pk 36 d' x.2 e2 (by omega) m
   obtain ⟨f1,f2⟩:=cz e2
   have nn:=bT f1 (by omega)
   obtain ⟨xs,hxs⟩:=bj tr.wt
   obtain ⟨l,u⟩:=x
   obtain ⟨ys,rfl⟩:=bj e2
   subst hxs
   refine ⟨_,_,rfl,?_,some (.s,.tup (nT l)),some (.s,.tup ys),rfl⟩
   generalize DUE D=DU
   simp_all only [FB,f_law,pa,nn,pc,a1F])
 refine ⟨o3,o4,?_⟩
 show evSs (C 39) [.forS [2] [] .sq2 [.var 2] [3,4] FB] _=_
 generalize DUE D=DU at *
 generalize D.map (fun x=>[((.s,.tup (nT x.1)):W),(.s,x.2)])=G at *
 simp_all only [pr,lp]
theorem wg (l:List Nat)(k:Nat):(nT l).take k=iT ((nI l).take k):=by rw [nTI,iT,iT,a3A]
theorem EO (c:Int):∃ v:Int,v.natAbs<=1000000000000000000/\atI [T.int (-1),.int 0,.int 1,.int 3,.int (-3),.int 1000000000000000000] (c % 6)=some (.int v):=by
 obtain ⟨j,hj,ej⟩:=mdj c 6 (by decide)
 have ej:c % 6=(j:Int):=ej
 rw [ej]
 have h:j=0\/j=1\/j=2\/j=3\/j=4\/j=5:=by omega
 rcases h with rfl | rfl | rfl | rfl | rfl | rfl
 ·exact ⟨-1,by decide,rfl⟩
 ·exact ⟨0,by decide,rfl⟩
 ·exact ⟨1,by decide,rfl⟩
 ·exact ⟨3,by decide,rfl⟩
 ·exact ⟨-3,by decide,rfl⟩
 ·exact ⟨1000000000000000000,by decide,rfl⟩
theorem tn1 {t:T}{D:List (List Nat×T)}(tr:Tr t D)(w0 o3 o4 o6 o7 o8 o9 o10:Option W)(c:Int)(mc:Md):∃ x∈D,∃ md o,WT 3 o/\evSs (C 39) (Bw 0 2) [w0,some (.s,t),some (.s,.lst (DUE D)),o3,o4,some (mc,.int c),o6,o7,o8,o9,o10,none,none,none,none,none,none]=.nx [w0,some (.s,t),some (.s,.lst (DUE D)),some (.s,.tup (nT x.1)),o4,some (mc,.int c),some (md,o),o7,o8,o9,o10,none,none,none,none,none,none]:=by
 have hne:0 < D.length:=List.length_pos_iff.mpr tr.ne
 obtain ⟨j,hj,ej⟩:=mdj c D.length hne
 obtain ⟨x,hx,a⟩:=atD hj
 obtain ⟨md,o,ns',e,h⟩:=ij 2 29 [c / 7,c / 3]
 have e':C 39 229 [(.d,.lst [.int (c / 7),.int (c / 3)]),(.d,.int 2)]=.ok ((md,o),[(.d,.lst ((ns':List Int).map T.int))]):=e
 obtain ⟨ys,rfl⟩:=bj h
 have ln:((DUE D).length:Int)=(D.length:Int):=by rw [a0b]
 have p0:decide ((0:Int) < (D.length:Int))=true:=decide_eq_true (by omega)
 have p7:decide ((0:Int) < 7)=true:=rfl
 have p7':decide ((7:Int) < 1073741824)=true:=rfl
 have p3:decide ((0:Int) < 3)=true:=rfl
 have p3':decide ((3:Int) < 1073741824)=true:=rfl
 have i0:∀ h m n,oSem .ix h [(m,.tup [.tup (nT x.1),x.2]),(n,.int 0)]=some (m.kid,.tup (nT x.1)):=fun h m n=>by rw [gR,at0]; rfl
 have lt:∀ m,lf m (.tup ys)=m:=fun _=>rfl
 refine ⟨x,hx,md,_,h,?_⟩
 generalize T.tup [.tup (nT x.1),x.2]=PR at *
 generalize nT x.1=NX at *
 generalize DUE D=DU at *
 cases md<;>simp_all only [Bw,CB,f_law,a1U,a1V,ln,p0,ej,a,i0,p7,p7',p3,p3',e',lt,if_true]
theorem tn2 {t:T}{D:List (List Nat×T)}(tr:Tr t D)(w0 o4 o5 o7 o8 o9 o10:Option W)(x:List Nat×T)(hx:x∈D)(md:Md)(o:T)(ho:WT 3 o):evSs (C 39) (Bw 2 2) [w0,some (.s,t),some (.s,.lst (DUE D)),some (.s,.tup (nT x.1)),o4,o5,some (md,o),o7,o8,o9,o10,none,none,none,none,none,none]=.nx [w0,some (.s,t),some (.s,.lst (DUE D)),some (.s,.tup (nT x.1)),o4,o5,some (md,o),o7,o8,o9,o10,none,none,none,none,none,none]:=by
 rw [tr.dd] at hx
 obtain ⟨a,b,c,d',e1,e2⟩:=cT 7 t tr.wt x hx
 have hf:=qr tr.wt hx
 have b':(nI x.1).length < 7:=by rw [a0b]; exact b
 have pu:=fun m m' m2=>(ig ho (34-(nI x.1).length) (nI x.1) 7 t m m' m2 tr.wt hf).1 _ a
 rw [show 34-(nI x.1).length+(nI x.1).length+5=39 by omega] at pu
 have lu:=fun m m' m2=>ll ho (36-(nI x.1).length) (nI x.1) 7 t x.2 m m' m2 tr.wt a (by have:=(eY (nI x.1)).2; omega)
 rw [show 36-(nI x.1).length+(nI x.1).length+3=39 by omega] at lu
 obtain ⟨f1,f2⟩:=cz (ik ho (nI x.1) 7 t x.2 tr.wt a).1
 have nn:=bT f1 (by omega)
 rw [<- nTI] at pu lu
 have pl:=fun m=>tr.pl 28 m
 have pr:=prs D
 have tp:=trP D
 have ns:=bT (fU D).1 (by have:=(fU D).2; omega)
 obtain ⟨xs,hxs⟩:=bj tr.wt
 obtain ⟨ys,rfl⟩:=bj ho
 have cp1:=yV 39 D 13 14 (.inr (.inl rfl)) rfl [none,some (.s,t),some (.s,.lst (DUE D)),none,none,none,none,none,none,none,none,none,none,none,none,none,none] rfl rfl
 subst hxs
 generalize bQ (.tup xs) (nI x.1) (.tup ys)=R at *
 generalize (nI x.1).isEmpty=BB at *
 generalize nT x.1=NX at *
 generalize DUE D=DU at *
 generalize pPl D=PP at *
 generalize D.map (fun x=>[((.s,.tup (nT x.1)):W),(.s,x.2)])=G at *
 generalize D.map (fun x=>((.s,.tup (nT x.1)):W))=G2 at *
 simp_all only [Bw,CB,f_law,a1U,a1V,pu,lu,nn,pl,pr,cp1,a0T,tp,ns]
theorem tn3 (w0 w1 w2 o4 o6 o7 o8 o9 o10:Option W)(l:List Nat)(hl:l.length < 7)(hk:∀ k∈l,k < 3)(c:Int)(mc:Md):∃ L:List Int,L.length<=8/\(∀ i∈L,i.natAbs<=1000000000000000000)/\∃ p7 p8,evSs (C 39) (Bw 4 3) [w0,w1,w2,some (.s,.tup (nT l)),o4,some (mc,.int c),o6,o7,o8,o9,o10,none,none,none,none,none,none]=.nx [w0,w1,w2,some (.s,.tup (nT l)),o4,some (mc,.int c),o6,p7,p8,some (.s,.tup (iT L)),o10,none,none,none,none,none,none]:=by
 obtain ⟨sp,hsp,esp⟩:=mdj (c / 5) (l.length+1) (by omega)
 obtain ⟨v,hv,av⟩:=EO (c / 11)
 obtain ⟨b,hb,eb⟩:=mdj (c / 2) 2 (by decide)
 have ln:(((nT l).length:Nat):Int)+1=((l.length+1:Nat):Int):=by rw [a0b]; omega
 have p0:decide ((0:Int) < ((l.length+1:Nat):Int))=true:=decide_eq_true (by omega)
 have p5:decide ((0:Int) < 5)=true:=rfl
 have p5':decide ((5:Int) < 1073741824)=true:=rfl
 have p11:decide ((0:Int) < 11)=true:=rfl
 have p11':decide ((11:Int) < 1073741824)=true:=rfl
 have p6:decide ((0:Int) < 6)=true:=rfl
 have p2:decide ((0:Int) < 2)=true:=rfl
 have p2':decide ((2:Int) < 1073741824)=true:=rfl
 have pw:(decide ((0:Int)<=18)&&decide ((18:Int)<=1000000)&&decide ((10:Int).natAbs < 18446744073709551616))=true:=rfl
 have pe:(10:Int) ^ (18:Int).toNat=1000000000000000000:=by decide +kernel
 have eb':c / 2 % 2=(b:Int):=eb
 have ad:(sp:Int)+(b:Int)=((sp+b:Nat):Int):=by omega
 have s2:∀ h m n,oSem .sl2 h [(m,.tup (nT l)),(n,.int (sp:Int))]=some (.s,.tup (iT ((nI l).take sp))):=fun h m n=>by rw [iC,dI,wg]
 have s1:∀ h m n,oSem .sl1 h [(m,.tup (nT l)),(n,.int ((sp+b:Nat):Int))]=some (.s,.tup (iT ((nI l).drop (sp+b)))):=fun h m n=>by rw [eA,fQ,nTI,iT,iT,a3B]
 have ct:∀ h m n,oSem .catT h [(m,.tup (iT ((nI l).take sp))),(n,.tup [.int v])]=some (.s,.tup (iT ((nI l).take sp++[v]))):=fun h m n=>by
  have hf:fits ((iT ((nI l).take sp)).length+[T.int v].length)=true:=decide_eq_true (by rw [a0b,a0W,a0b,a0o]; show _<=16777215; omega)
  show (if fits _=true then _ else none)=_
  rw [if_pos hf,iT,iT,a0U]; rfl
 have a2:∀ h m n,oSem .add h [(m,.tup (iT ((nI l).take sp++[v]))),(n,.tup (iT ((nI l).drop (sp+b))))]=some (.s,.tup (iT ((nI l).take sp++[v]++(nI l).drop (sp+b)))):=fun h m n=>by
  have hf:(fits ((iT ((nI l).take sp++[v])).length+(iT ((nI l).drop (sp+b))).length)&&!(iT ((nI l).take sp++[v])).isEmpty)=true:=by
   rw [a0d]
   refine ⟨decide_eq_true (by rw [a0b,a0b,a0c,a0W,a0X,a0b,a0o]; show _<=16777215; omega),?_⟩
   simp
  rw [iS,if_pos hf,iT,iT,iT,<- a0U]
 have ng:∀ h m,oSem .neg h [(m,.int 1)]=some (.d,.int (-1)):=fun _ _=>rfl
 have ng3:∀ h m,oSem .neg h [(m,.int 3)]=some (.d,.int (-3)):=fun _ _=>rfl
 refine ⟨(nI l).take sp++[v]++(nI l).drop (sp+b),?_,?_,?_⟩
 ·rw [a0c,a0c,a0W,a0X,a0b,a0o]; omega
 ·have ml:∀ i∈nI l,i.natAbs<=1000000000000000000:=fun i hi=>by
   obtain ⟨k,hk',rfl⟩:=a0Z.mp hi
   have:=hk k hk'
   omega
  intro i hi
  rcases a0P.mp hi with hi | hi
  ·rcases a0P.mp hi with hi | hi
   ·exact ml i (List.mem_of_mem_take hi)
   ·rw [a0t.mp hi]; exact hv
  ·exact ml i (List.mem_of_mem_drop hi)
 ·generalize (nI l).take sp++[v]++(nI l).drop (sp+b)=LL at *
  generalize iT ((nI l).take sp++[v])=L1 at *
  generalize iT ((nI l).take sp)=L2 at *
  generalize iT ((nI l).drop (sp+b))=L3 at *
  generalize nT l=NL at *
  exact ⟨_,_,by simp_all only [Bw,CB,f_law,a1U,a1V,ln,p0,p5,p5',esp,p11,p11',p6,p2,p2',sE,pw,pe,ng,ng3,av,eb',ad,s2,s1,ct,a2]; rfl⟩
theorem tn4 {t:T}{D:List (List Nat×T)}(tr:Tr t D)(w0 o3 o4 o5 o6 o7 o8 o10:Option W)(L:List Int)(hl:L.length<=8)(hn:∀ i∈L,i.natAbs<=1000000000000000000):∃ p10,evSs (C 39) (Bw 7 4) [w0,some (.s,t),some (.s,.lst (DUE D)),o3,o4,o5,o6,o7,o8,some (.s,.tup (iT L)),o10,none,none,none,none,none,none]=.nx [w0,some (.s,t),some (.s,.lst (DUE D)),o3,o4,o5,o6,o7,o8,some (.s,.tup (iT L)),p10,none,none,none,none,none,none]:=by
 have hf:=DP (L:=L) (by omega) hn
 have an:=Ey D L
 have pr:=prs D
 have tp:=trP D
 have dpl:dps (pPl D)<=64:=by have:=(fU D).2; have:dps (pPl D)+1<=2:=this; omega
 have di:=(eY L).2
 have b0:(decide (dp (.tup (iT L))<=64)&&decide (dps (pPl D)<=64))=true:=by rw [decide_eq_true (by omega),decide_eq_true dpl]; rfl
 have cp1:=yV 39 D 15 16 (.inr (.inr rfl)) rfl [none,none,some (.s,.lst (DUE D)),none,none,none,none,none,none,some (.s,.tup (iT L)),none,none,none,none,none,none,none] rfl rfl
 have H1:∀ b,decide (∃ x∈D,nI x.1=L)=b->evSs (C 39) (Bw 7 1) [w0,some (.s,t),some (.s,.lst (DUE D)),o3,o4,o5,o6,o7,o8,some (.s,.tup (iT L)),o10,none,none,none,none,none,none]=.nx [w0,some (.s,t),some (.s,.lst (DUE D)),o3,o4,o5,o6,o7,o8,some (.s,.tup (iT L)),some (.d,.bl b),none,none,none,none,none,none]:=fun b hb=>by
  rw [hb] at an
  generalize DUE D=DU at *
  generalize pPl D=PP at *
  generalize D.map (fun x=>[((.s,.tup (nT x.1)):W),(.s,x.2)])=G at *
  generalize D.map (fun x=>((.s,.tup (nT x.1)):W))=G2 at *
  simp_all only [Bw,CB,f_law,a1U,a1V,pr,cp1,a0T,tp,b0,an]
 rw [show Bw 7 4=Bw 7 1++Bw 8 3 from rfl]
 by_cases h:∃ x∈D,nI x.1=L
 ·rw [go1 (H1 true (decide_eq_true h))]
  obtain ⟨x,hx,e⟩:=h
  rw [tr.dd] at hx
  obtain ⟨a,_,_,_⟩:=cT 7 t tr.wt x hx
  rw [e] at a
  obtain ⟨q1,q2⟩:=ik fT L 7 t x.2 tr.wt a
  have pu:=fun m m' m2=>(ig fT (34-L.length) L 7 t m m' m2 tr.wt hf).1 _ a
  rw [show 34-L.length+L.length+5=39 by omega] at pu
  have pa:=fun m m'=>(eR 35 8 _ q1 L hf m m').1 _ q2
  rw [show 35+4=39 from rfl] at pa
  have ny:∀ h m n,oSem .ne h [(m,.tup [.str (q "yes")]),(n,.tup [.str (q "yes")])]=some (.d,.bl false):=bT (cz fT).1 (by have:=(cz fT).2; omega)
  obtain ⟨xs,hxs⟩:=bj tr.wt
  subst hxs
  generalize bQ (.tup xs) L (.tup [.str (q "yes")])=R at *
  refine ⟨some (.d,.bl true),?_⟩
  generalize DUE D=DU at *
  simp_all only [Bw,CB,f_law,a1U,a1V,pu,pa,ny,a1F]
 ·rw [go1 (H1 false (decide_eq_false h))]
  have hw:bw t L=none:=by
   cases hw:bw t L with
   | none=>rfl
   | some u =>
    obtain ⟨l,h1,h2⟩:=ma L 7 t u tr.wt hw
    exact absurd ⟨(l,u),by rw [tr.dd]; exact h1,h2.symm⟩ h
  have rf:=fun b=>x9 (33-L.length) L 7 t b tr.wt hf hw
  rw [show 33-L.length+L.length+6=39 by omega] at rf
  obtain ⟨xs,hxs⟩:=bj tr.wt
  subst hxs
  refine ⟨some (.d,.bl false),?_⟩
  generalize DUE D=DU at *
  simp_all only [Bw,CB,f_law,a1U,a1V,rf,a1y,a1F]
theorem turn {t:T}{D:List (List Nat×T)}(tr:Tr t D)(w0 o3 o4 o6 o7 o8 o9 o10:Option W)(c:Int)(mc:Md):∃ p3 p6 p7 p8 p9 p10,evSs (C 39) CB [w0,some (.s,t),some (.s,.lst (DUE D)),o3,o4,some (mc,.int c),o6,o7,o8,o9,o10,none,none,none,none,none,none]=.nx [w0,some (.s,t),some (.s,.lst (DUE D)),p3,o4,some (mc,.int c),p6,p7,p8,p9,p10,none,none,none,none,none,none]:=by
 obtain ⟨x,hx,md,o,ho,e1⟩:=tn1 tr w0 o3 o4 o6 o7 o8 o9 o10 c mc
 have e2:=tn2 tr w0 o4 (some (mc,.int c)) o7 o8 o9 o10 x hx md o ho
 obtain ⟨_,b,k,_⟩:=cT 7 t tr.wt x (by rw [<- tr.dd]; exact hx)
 obtain ⟨L,hl,hn,p7,p8,e3⟩:=tn3 w0 (some (.s,t)) (some (.s,.lst (DUE D))) o4 (some (md,o)) o7 o8 o9 o10 x.1 b k c mc
 obtain ⟨p10,e4⟩:=tn4 tr w0 (some (.s,.tup (nT x.1))) o4 (some (mc,.int c)) (some (md,o)) p7 p8 o10 L hl hn
 rw [show CB=Bw 0 2++(Bw 2 2++(Bw 4 3++Bw 7 4)) from rfl,go1 e1,go1 e2,go1 e3,e4]
 exact ⟨_,_,_,_,_,_,rfl⟩
theorem pure_law (ns:List Int):∃ m bs,C 40 0 [(.d,.scr ns)]=.ok ((m,.bl true),bs):=by
 rw [show C 40 0 [(.d,.scr ns)]=runF (C 39) f_law [(.d,.scr ns)] from rfl,x_run _ _ _ rfl]
 obtain ⟨ms,md,t,wt,H1⟩:=Fd ns
 have tr:=Cd wt
 have H2:=EL tr (some (ms,.scr ns)) md
 obtain ⟨o3,o4,H3⟩:=FJ tr (some (ms,.scr ns))
 rw [show f_law.body=Wk 0 1++(Wk 1 2++(Wk 3 1++Wk 4 2)) from rfl,show (List.map some [((.d,.scr ns):W)]++a0r f_law.ns none)=[some (.d,.scr ns),none,none,none,none,none,none,none,none,none,none,none,none,none,none,none,none] from rfl,go1 H1,go1 H2,go1 H3]
 generalize pcF 7 t=D at *
 have lp:∀ (cs:List Int),∃ p3 p4 p5 p6 p7 p8 p9 p10,dB [5] (evSs (C 39) CB) ((cs.map T.int).map fun t=>[((.s,t):W)]) [some (.s,.scr ns),some (.s,t),some (.s,.lst (DUE D)),o3,o4,none,none,none,none,none,none,none,none,none,none,none,none]=.nx [some (.s,.scr ns),some (.s,t),some (.s,.lst (DUE D)),p3,p4,p5,p6,p7,p8,p9,p10,none,none,none,none,none,none]:=fun cs=>by
  obtain ⟨η',e,p3,p4,p5,p6,p7,p8,p9,p10,rfl⟩:=dR (tg:=[5]) (f:=evSs (C 39) CB) (g:=fun c=>[((.s,.int c):W)]) (fun _ η=>∃ p3 p4 p5 p6 p7 p8 p9 p10,η=[some (.s,.scr ns),some (.s,t),some (.s,.lst (DUE D)),p3,p4,p5,p6,p7,p8,p9,p10,none,none,none,none,none,none]) cs [] [some (.s,.scr ns),some (.s,t),some (.s,.lst (DUE D)),o3,o4,none,none,none,none,none,none,none,none,none,none,none,none] ⟨o3,o4,none,none,none,none,none,none,rfl⟩ (fun p x r η e ⟨p3,p4,p5,p6,p7,p8,p9,p10,he⟩=>by
   subst he
   obtain ⟨q3,q6,q7,q8,q9,q10,h⟩:=turn tr (some (.s,.scr ns)) p3 p4 p6 p7 p8 p9 p10 x .s
   exact ⟨_,_,rfl,h,q3,p4,some (.s,.int x),q6,q7,q8,q9,q10,rfl⟩)
  rw [a1r]
  exact ⟨p3,p4,p5,p6,p7,p8,p9,p10,e⟩
 rw [show Wk 4 2=[.forS [0] [] .seq [.ifx (.op .gt false [.op .len false [.var 0],.cst (.int 0)]) (.op .sl2 false [.var 0,.cst (.int 8)]) (.lst false [.cst (.int 0)])] [5] CB,.ret [] (.cst (.bl true))] from rfl,show f_law.io=[] from rfl]
 generalize DUE D=DU at *
 cases hn:decide ((0:Int) < (ns.length:Int)) with
 | true =>
  obtain ⟨p3,p4,p5,p6,p7,p8,p9,p10,e⟩:=lp (cut ns none (some 8))
  refine ⟨.d,[],?_⟩
  simp_all only [hn,e]
 | false =>
  obtain ⟨p3,p4,p5,p6,p7,p8,p9,p10,e⟩:=lp [0]
  refine ⟨.d,[],?_⟩
  rw [show ([(0:Int)].map T.int).map (fun t=>[((.s,t):W)])=[[(.s,.int 0)]] from rfl] at e
  simp_all only [hn,e]
end
end P09

namespace A09
open PySem PySem.Spec PyProof.Rows L2 L3 MR
noncomputable def top (i:Nat):Stmt:=PySem.Challenge.pw_broadrow_k09_places_and_parts.main.body.getD i (.Pass ⟨0,0,0,0⟩)
noncomputable abbrev s2:Stmt:=top 11
noncomputable abbrev s3:Stmt:=top 12
noncomputable abbrev rS:Stmt:=top 18
noncomputable abbrev qM:Stmt:=top 19
noncomputable abbrev pC:Stmt:=top 20
noncomputable abbrev oz:Stmt:=top 21
noncomputable abbrev oM:Stmt:=top 22
noncomputable abbrev oF:Stmt:=top 23
noncomputable abbrev mB:Stmt:=top 24
noncomputable abbrev n5:Stmt:=top 25
noncomputable abbrev pZ:Stmt:=top 26
noncomputable abbrev qJ:Stmt:=top 28
noncomputable abbrev pN:Stmt:=top 29
noncomputable abbrev pq:Stmt:=top 30
noncomputable abbrev pY:Stmt:=top 31
noncomputable abbrev pf:Stmt:=top 32
noncomputable abbrev pU:Stmt:=top 33
noncomputable abbrev oQ:Stmt:=top 34
noncomputable abbrev rK:Stmt:=top 35
noncomputable abbrev s0:Stmt:=top 36
structure Glb (K:a0a)(w:World)(mg:Str->Option Value):Prop where
 GREATEST:∃ t,mg "GREATEST"=some (.int 1000000000000000000 t)
 k_AHEAD:yX K w mg "AHEAD" keys_AHEAD
 c_BINDING:AF K w mg "BINDING" tab_BINDING
structure Xs (P:Program)(w:World)(K:a0a)(mg:Str->Option Value)(base:Heap):Prop where
 b_BroadError:XBs K mg "BroadError" bp [aK,aN,ao,aD,aL,aM]
 f_place:∀ c:Nat,XF K c->a0x K (.ref c) "place"=some none
 i_NoKind:XIs K mg "NoKind" (.ref aN) [aN]
 i_NoLine:XIs K mg "NoLine" (.ref aM) [aM]
 i_NoPlace:XIs K mg "NoPlace" (.ref ao) [ao]
 i_NoRule:XIs K mg "NoRule" (.ref aL) [aL]
 i_NoText:XIs K mg "NoText" (.ref aK) [aK]
 i_NoThing:XIs K mg "NoThing" (.ref aD) [aD]
 i_ValueError:XIs K mg "ValueError" (.type "ValueError") [aK,aN,ao,aD,aL,aM,bp]
 m_ValueError:mg "ValueError"=none
 r_NoPlace:XCl P w K mg base "NoPlace" ao bp "place" 1
 t_NoKind_NoLine_NoRule_NoText_NoThing:XIt K [aN,aM,aL,aK,aD] [aN,aM,aL,aK,aD]
structure Calls (P:Program)(w:World)(K:a0a)(mg:Str->Option Value)(base:Heap)(n:Nat)(C:M.Call):Prop where
 c2:ae P w K mg base n C "is_worth" 2 []
 c3:ae P w K mg base n C "is_number" 3 []
 c175:ae P w K mg base n C "parts_start" 175 []
 c176:ae P w K mg base n C "parts" 176 []
 c334:ae P w K mg base n C "with_parts" 334 []
 c233:ae P w K mg base n C "binding" 233 []
 c253:ae P w K mg base n C "places" 253 []
 c254:ae P w K mg base n C "add_places" 254 [2]
 c335:ae P w K mg base n C "part_at" 335 []
 x335:dj P w K mg base n C "part_at" 335
 c353:ae P w K mg base n C "put_at" 353 []
 x353:dj P w K mg base n C "put_at" 353
 c354:ae P w K mg base n C "replaced" 354 []
 c171:ae P w K mg base n C "_law_kind" 171 []
 c220:ae P w K mg base n C "_law_leaf" 220 []
 c229:ae P w K mg base n C "_law_tree" 229 [0]
 c244:ae P w K mg base n C "_law_start" 244 []
 c351:ae P w K mg base n C "_law_all" 351 []
 c352:ae P w K mg base n C "_law_put" 352 []
 c355:ae P w K mg base n C "_law_refused" 355 []
 c341:ae P w K mg base n C "_law_piece" 341 []
 c4:∀ ws,C 4 ws=.no
 c5:∀ ws,C 5 ws=.no
noncomputable abbrev DD (x:Str)(st:Stmt)(N:List Str)(fn:M.Fn):Prop:=∀ {P:Program} {w:World} {K:a0a} {mg:Str->Option Value} {base:Heap} {n:Nat} {C:M.Call} {f:Addr} {cdv:Value} {A:Around} {outer:List Env} {s:Shared} {H:Hp} {E:XK},Xs P w K mg base->Calls P w K mg base (n+2) C->Txt mg->Glb K w mg->Room (n+2) (A.deeper (envOfC x (defScope st) s.heap.objs.size f cdv))->SSs (dY CX0 P w K mg base N x (defScope st) f cdv A outer s H E).nox (slN N.length) fn.io C (defBody st) fn.body
noncomputable abbrev DX (x:Str)(st:Stmt)(N:List Str)(fn:M.Fn):Prop:=∀ {P:Program} {w:World} {K:a0a} {mg:Str->Option Value} {base:Heap} {n:Nat} {C:M.Call} {f:Addr} {cdv:Value} {A:Around} {outer:List Env} {s:Shared} {H:Hp} {E:XK},Xs P w K mg base->Calls P w K mg base (n+2) C->Txt mg->Glb K w mg->Room (n+2) (A.deeper (envOfC x (defScope st) s.heap.objs.size f cdv))->SSs (dY (CX1 P w) P w K mg base N x (defScope st) f cdv A outer s H E) (slN N.length) [] C (defBody st) fn.body
theorem S2:ak ["kind","thing"] ["kind","thing"] (defScope s2):=fsc
theorem D2:DD "is_worth" s2 ["kind","thing"] bS:=fun {_ _ _ _ _ _ _ _ _ _ _ s _ _} xs cs T G hr =>
 have S:=S2
 (@ssc _ _ _ _ _ _ _ _ (@zIf _ _ _ _ _ _ _ _ _ _ _ _ (iu hr (@bA _ _ _ _ _ _ _ _ _ (sV 0) sI (by intro _ _; rfl)) sS) (@ss1 _ _ _ _ _ _ (@aJ _ _ _ _ _ _ _ _ (au cs.c3 hr (@aj _ _ _ _ _ _ _ (sM 1) sa0 (by intro _ z; cases z) (by rfl))))) ss0)
    (@ssc _ _ _ _ _ _ _ _ (@zIf _ _ _ _ _ _ _ _ _ _ _ _ (iu hr (@bA _ _ _ _ _ _ _ _ _ (sV 0) sI (by intro _ _; rfl)) sS) (@ss1 _ _ _ _ _ _ (@aJ _ _ _ _ _ _ _ _ (mi (by decide) a1Y T.isin T.bool (sM 1)))) ss0)
    (@ssc _ _ _ _ _ _ _ _ (@zIf _ _ _ _ _ _ _ _ _ _ _ _ (iu hr (@bA _ _ _ _ _ _ _ _ _ (sV 0) sI (by intro _ _; rfl)) sS) (@ss1 _ _ _ _ _ _ (@aJ _ _ _ _ _ _ _ _ (BG cs.c4))) ss0)
    (@ss1 _ _ _ _ _ _ (@aJ _ _ _ _ _ _ _ _ (BG cs.c5))))))
theorem S3:ak ["thing"] ["thing"] (defScope s3):=fsc
theorem D3:DD "is_number" s3 ["thing"] bE:=fun {_ _ _ _ _ _ _ _ _ _ _ s _ _} xs cs T G hr =>
 have S:=S3
 (@ssc _ _ _ _ _ _ _ _ (@zIf _ _ _ _ _ _ _ _ _ _ _ _ (tW (wOr (dh (tB (mi (by decide) a2J T.isin T.int (sV 0)))) (wO1 (tB (mi (by decide) a1Y T.isin T.bool (sV 0)))))) (@ss1 _ _ _ _ _ _ (@aJ _ _ _ _ _ _ _ _ sO)) ss0)
    (@ss1 _ _ _ _ _ _ (@aJ _ _ _ _ _ _ _ _ (vY (AS (sGc G.GREATEST)) (sM 0) (sGc G.GREATEST)))))
theorem BK:ak ["sign"] ["sign"] (defScope rS):=fsc
theorem E7:DD "parts_start" rS ["sign"] aO:=fun {_ _ _ _ _ _ _ _ _ _ _ s _ _} xs cs T G hr =>
 have S:=BK
 (@ss1 _ _ _ _ _ _ (@aJ _ _ _ _ _ _ _ _ (sIf (FN G.k_AHEAD (sM 0)) sI sI)))
theorem DS:ak ["tree"] ["tree"] (defScope qM):=fsc
theorem EY:DD "parts" qM ["tree"] dG:=fun {_ _ _ _ _ _ _ _ _ _ _ s _ _} xs cs T G hr =>
 have S:=DS
 (@ss1 _ _ _ _ _ _ (@aJ _ _ _ _ _ _ _ _ (j1 (sV 0) (au cs.c175 hr (@aj _ _ _ _ _ _ _ (@bA _ _ _ _ _ _ _ _ _ (sV 0) sI (by intro _ _; rfl)) sa0 (by intro _ z; cases z) (by rfl))))))
theorem Cg:ak ["tree","some"] ["tree","some"] (defScope pC):=fsc
theorem EN:DD "with_parts" pC ["tree","some"] br:=fun {_ _ _ _ _ _ _ _ _ _ _ s _ _} xs cs T G hr =>
 have S:=Cg
 (@ss1 _ _ _ _ _ _ (@aJ _ _ _ _ _ _ _ _ (cY (nq (sV 0) (au cs.c175 hr (@aj _ _ _ _ _ _ _ (@bA _ _ _ _ _ _ _ _ _ (sV 0) sI (by intro _ _; rfl)) sa0 (by intro _ z; cases z) (by rfl)))) (qB (hm:=T.tup) (ha:=(sM 1))))))
theorem CH:ak ["tree"] ["tree"] (defScope oz):=fsc
theorem F8:DD "binding" oz ["tree"] cw:=fun {_ _ _ _ _ _ _ _ _ _ _ s _ _} xs cs T G hr =>
 have S:=CH
 (@ss1 _ _ _ _ _ _ (@aJ _ _ _ _ _ _ _ _ (Dg G.c_BINDING (@bA _ _ _ _ _ _ _ _ _ (sM 0) sI (by intro _ _; rfl)))))
theorem BD:ak ["tree","told"] ["tree"] (defScope oM):=fsc
theorem FG:DD "places" oM ["tree","told"] cK:=fun {_ _ _ _ _ _ _ _ _ _ _ s _ _} xs cs T G hr =>
 have S:=BD
 (@ssc _ _ _ _ _ _ _ _ (@aR _ _ _ _ _ _ _ 1 _ _ _ _ S.nd (@sLx _ _ _ _ _ _ _ (by decide) sl0) (by decide) (by rfl) (by rfl) (by first | exact a0E rfl | exact a0z rfl) (by rfl) (by first | exact .inl rfl | exact .inr rfl))
    (@ssc _ _ _ _ _ _ _ _ (Dk (au cs.c254 hr (@aj _ _ _ _ _ _ _ (sV 0) (@aj _ _ _ _ _ _ _ (@sTx _ _ _ _ _ _ _ (by decide) sl0) (sai 1 sa0) (by intro _ z; cases z) (by rfl)) (by intro _ z; cases z) (by rfl))))
    (@ss1 _ _ _ _ _ _ (@aJ _ _ _ _ _ _ _ _ (sM 1)))))
theorem Dn:ak ["tree","place","told","number","part"] ["tree","place","told"] (defScope oF):=fsc
theorem FD:DD "add_places" oF ["tree","place","told","number","part"] bh:=fun {_ _ _ _ _ _ _ _ _ _ _ s _ _} xs cs T G hr =>
 have S:=Dn
 (@ssc _ _ _ _ _ _ _ _ (wQ 3 4 S.nd (zr (hm:=T.enum) (ha:=(au cs.c176 hr (@aj _ _ _ _ _ _ _ (sV 0) sa0 (by intro _ z; cases z) (by rfl))))) (@ss1 _ _ _ _ _ _ (Dk (au cs.c254 hr (@aj _ _ _ _ _ _ _ (sV 4) (@aj _ _ _ _ _ _ _ (mh (sV 1) (@sTx _ _ _ _ _ _ _ (by decide) (@slx _ _ _ _ _ _ _ (sV 3) sl0 (by rfl)))) (sai 2 sa0) (by intro _ z; cases z) (by rfl)) (by intro _ z; cases z) (by rfl))))))
    (@ss1 _ _ _ _ _ _ (Er 2 (sV 1))))
theorem u7:ak ["tree","place","piece","number","some"] ["tree","place"] (defScope mB):=fsc
theorem Fg:DD "part_at" mB ["tree","place","piece","number","some"] f_part_at:=fun {_ _ _ _ _ _ _ _ _ _ _ s _ _} xs cs T G hr =>
 have S:=u7
 (@ssc _ _ _ _ _ _ _ _ (@aR _ _ _ _ _ _ _ 2 _ _ _ _ S.nd (sV 0) (by decide) (by rfl) (by rfl) (by first | exact a0E rfl | exact a0z rfl) (by rfl) (by first | exact .inl rfl | exact .inr rfl))
    (@ssc _ _ _ _ _ _ _ _ (jI 3 S.nd (zT (sV 1)) (@ssc _ _ _ _ _ _ _ _ (@aR _ _ _ _ _ _ _ 4 _ _ _ _ S.nd (au cs.c176 hr (@aj _ _ _ _ _ _ _ (sV 2) sa0 (by intro _ z; cases z) (by rfl))) (by decide) (by rfl) (by rfl) (by first | exact a0E rfl | exact a0z rfl) (by rfl) (by first | exact .inl rfl | exact .inr rfl))
     (@ssc _ _ _ _ _ _ _ _ (@zIf _ _ _ _ _ _ _ _ _ _ _ _ (tW (wOr (dh (tB (au cs.c2 hr (@aj _ _ _ _ _ _ _ (@sTx _ _ _ _ _ _ _ (by decide) (@slx _ _ _ _ _ _ _ sS sl0 (by rfl))) (@aj _ _ _ _ _ _ _ (sV 3) sa0 (by intro _ z; cases z) (by rfl)) (by intro _ z; cases z) (by rfl))))) (wO1 (dh (mw sI (sV 3) (iH (hm:=T.len) (ha:=(sV 4)))))))) (@ss1 _ _ _ _ _ _ (lF xs.r_NoPlace hr (sV 1))) ss0)
     (@ss1 _ _ _ _ _ _ (@aR _ _ _ _ _ _ _ 2 _ _ _ _ S.nd (@bA _ _ _ _ _ _ _ _ _ (sV 4) (sV 3) (by intro _ _; rfl)) (by decide) (by rfl) (by rfl) (by first | exact a0E rfl | exact a0z rfl) (by rfl) (by first | exact .inl rfl | exact .inr rfl))))))
    (@ss1 _ _ _ _ _ _ (@aJ _ _ _ _ _ _ _ _ (sM 2)))))
theorem FQ:DX "part_at" mB ["tree","place","piece","number","some"] f_part_at:=fun {_ _ _ _ _ _ _ _ _ _ _ s _ _} xs cs T G hr =>
 have S:=u7
 (@ssc _ _ _ _ _ _ _ _ (@aR _ _ _ _ _ _ _ 2 _ _ _ _ S.nd (sV 0) (by decide) (by rfl) (by rfl) (by first | exact a0E rfl | exact a0z rfl) (by rfl) (by first | exact .inl rfl | exact .inr rfl))
    (@ssc _ _ _ _ _ _ _ _ (jI (hp:=PassesOwn.leaving) 3 S.nd (zT (sV 1)) (@ssc _ _ _ _ _ _ _ _ (@aR _ _ _ _ _ _ _ 4 _ _ _ _ S.nd (au cs.c176 hr (@aj _ _ _ _ _ _ _ (sV 2) sa0 (by intro _ z; cases z) (by rfl))) (by decide) (by rfl) (by rfl) (by first | exact a0E rfl | exact a0z rfl) (by rfl) (by first | exact .inl rfl | exact .inr rfl))
     (@ssc _ _ _ _ _ _ _ _ (@zIf _ _ _ _ _ _ _ _ _ _ _ _ (tW (wOr (dh (tB (au cs.c2 hr (@aj _ _ _ _ _ _ _ (@sTx _ _ _ _ _ _ _ (by decide) (@slx _ _ _ _ _ _ _ sS sl0 (by rfl))) (@aj _ _ _ _ _ _ _ (sV 3) sa0 (by intro _ z; cases z) (by rfl)) (by intro _ z; cases z) (by rfl))))) (wO1 (dh (mw sI (sV 3) (iH (hm:=T.len) (ha:=(sV 4)))))))) (@ss1 _ _ _ _ _ _ (lF xs.r_NoPlace hr (sV 1))) ss0)
     (@ss1 _ _ _ _ _ _ (@aR _ _ _ _ _ _ _ 2 _ _ _ _ S.nd (@bA _ _ _ _ _ _ _ _ _ (sV 4) (sV 3) (by intro _ _; rfl)) (by decide) (by rfl) (by rfl) (by first | exact a0E rfl | exact a0z rfl) (by rfl) (by first | exact .inl rfl | exact .inr rfl))))))
    (@ss1 _ _ _ _ _ _ (@aJ _ _ _ _ _ _ _ _ (sM 2)))))
theorem uH:ak ["tree","place","other"] ["tree","place","other"] (defScope n5):=fsc
theorem Fv:DD "put_at" n5 ["tree","place","other"] bC:=fun {_ _ _ _ _ _ _ _ _ _ _ s _ _} xs cs T G hr =>
 have S:=uH
 (@ssc _ _ _ _ _ _ _ _ (lY (iL cs.x335 hr (@slx _ _ _ _ _ _ _ (sV 0) (@slx _ _ _ _ _ _ _ (sV 1) sl0 (by rfl)) (by rfl))))
    (@ss1 _ _ _ _ _ _ (@aJ _ _ _ _ _ _ _ _ (au cs.c354 hr (@aj _ _ _ _ _ _ _ (sM 0) (@aj _ _ _ _ _ _ _ (sM 1) (@aj _ _ _ _ _ _ _ (sM 2) sa0 (by intro _ z; cases z) (by rfl)) (by intro _ z; cases z) (by rfl)) (by intro _ z; cases z) (by rfl))))))
theorem FW:DX "put_at" n5 ["tree","place","other"] bC:=fun {_ _ _ _ _ _ _ _ _ _ _ s _ _} xs cs T G hr =>
 have S:=uH
 (@ssc _ _ _ _ _ _ _ _ (lY (iL cs.x335 hr (@slx _ _ _ _ _ _ _ (sV 0) (@slx _ _ _ _ _ _ _ (sV 1) sl0 (by rfl)) (by rfl))))
    (@ss1 _ _ _ _ _ _ (@aJ _ _ _ _ _ _ _ _ (au cs.c354 hr (@aj _ _ _ _ _ _ _ (sM 0) (@aj _ _ _ _ _ _ _ (sM 1) (@aj _ _ _ _ _ _ _ (sM 2) sa0 (by intro _ z; cases z) (by rfl)) (by intro _ z; cases z) (by rfl)) (by intro _ z; cases z) (by rfl))))))
theorem D1:ak ["tree","place","other","some"] ["tree","place","other"] (defScope pZ):=fsc
theorem Et:DD "replaced" pZ ["tree","place","other","some"] bz:=fun {_ _ _ _ _ _ _ _ _ _ _ s _ _} xs cs T G hr =>
 have S:=D1
 (@ssc _ _ _ _ _ _ _ _ (@zIf _ _ _ _ _ _ _ _ _ _ _ _ (iu hr (iH (hm:=T.len) (ha:=(sV 1))) sI) (@ss1 _ _ _ _ _ _ (@aJ _ _ _ _ _ _ _ _ (sM 2))) ss0)
    (@ssc _ _ _ _ _ _ _ _ (@aR _ _ _ _ _ _ _ 3 _ _ _ _ S.nd (qR (hm:=T.list) (ha:=(au cs.c176 hr (@aj _ _ _ _ _ _ _ (sV 0) sa0 (by intro _ z; cases z) (by rfl))))) (by decide) (by rfl) (by rfl) (by first | exact a0E rfl | exact a0z rfl) (by rfl) (by first | exact .inl rfl | exact .inr rfl))
    (@ssc _ _ _ _ _ _ _ _ (E5 3 (au cs.c354 hr (@aj _ _ _ _ _ _ _ (EB 3 (@bA _ _ _ _ _ _ _ _ _ (sV 1) sI (by intro _ _; rfl))) (@aj _ _ _ _ _ _ _ (j1 (sV 1) sI) (@aj _ _ _ _ _ _ _ (sV 2) sa0 (by intro _ z; cases z) (by rfl)) (by intro _ z; cases z) (by rfl)) (by intro _ z; cases z) (by rfl))) (@bA _ _ _ _ _ _ _ _ _ (sV 1) sI (by intro _ _; rfl)))
    (@ss1 _ _ _ _ _ _ (@aJ _ _ _ _ _ _ _ _ (au cs.c334 hr (@aj _ _ _ _ _ _ _ (sM 0) (@aj _ _ _ _ _ _ _ (sM 3) sa0 (by intro _ z; cases z) (by rfl)) (by intro _ z; cases z) (by rfl))))))))
theorem Cp:ak ["cell","left","way"] ["cell","left"] (defScope qJ):=fsc
theorem Ex:DD "_law_kind" qJ ["cell","left","way"] aG:=fun {_ _ _ _ _ _ _ _ _ _ _ s _ _} xs cs T G hr =>
 have S:=Cp
 (@ssc _ _ _ _ _ _ _ _ (@aR _ _ _ _ _ _ _ 2 _ _ _ _ S.nd (eg (sV 0) sI) (by decide) (by rfl) (by rfl) (by first | exact a0E rfl | exact a0z rfl) (by rfl) (by first | exact .inl rfl | exact .inr rfl))
    (@ssc _ _ _ _ _ _ _ _ (@zIf _ _ _ _ _ _ _ _ _ _ _ _ (tW (wOr (iu hr (sV 1) sI) (wO1 (Fe (sV 2) sI)))) (@ss1 _ _ _ _ _ _ (@aJ _ _ _ _ _ _ _ _ (@bA _ _ _ _ _ _ _ _ _ (@sLx _ _ _ _ _ _ _ (by decide) (@slx _ _ _ _ _ _ _ (@sTx _ _ _ _ _ _ _ (by decide) (@slx _ _ _ _ _ _ _ sS sl0 (by rfl))) (@slx _ _ _ _ _ _ _ (@sTx _ _ _ _ _ _ _ (by decide) (@slx _ _ _ _ _ _ _ sS sl0 (by rfl))) sl0 (by rfl)) (by rfl))) (eg (sM 0) sI) (by intro _ _; rfl)))) ss0)
    (@ssc _ _ _ _ _ _ _ _ (@zIf _ _ _ _ _ _ _ _ _ _ _ _ (iu hr (sV 2) sI) (@ss1 _ _ _ _ _ _ (@aJ _ _ _ _ _ _ _ _ (@sTx _ _ _ _ _ _ _ (by decide) (@slx _ _ _ _ _ _ _ sS (@slx _ _ _ _ _ _ _ (au cs.c171 hr (@aj _ _ _ _ _ _ _ (d0 (sV 0) sI) (@aj _ _ _ _ _ _ _ (m8 (sV 1) sI) sa0 (by intro _ z; cases z) (by rfl)) (by intro _ z; cases z) (by rfl))) (@slx _ _ _ _ _ _ _ (au cs.c171 hr (@aj _ _ _ _ _ _ _ (d0 (sV 0) sI) (@aj _ _ _ _ _ _ _ (m8 (sV 1) sI) sa0 (by intro _ z; cases z) (by rfl)) (by intro _ z; cases z) (by rfl))) sl0 (by rfl)) (by rfl)) (by rfl))))) ss0)
    (@ss1 _ _ _ _ _ _ (@aJ _ _ _ _ _ _ _ _ (@sTx _ _ _ _ _ _ _ (by decide) (@slx _ _ _ _ _ _ _ sS (@slx _ _ _ _ _ _ _ (au cs.c171 hr (@aj _ _ _ _ _ _ _ (d0 (sM 0) sI) (@aj _ _ _ _ _ _ _ (m8 (sM 1) sI) sa0 (by intro _ z; cases z) (by rfl)) (by intro _ z; cases z) (by rfl))) sl0 (by rfl)) (by rfl))))))))
theorem BC:ak ["cell","name","number","some"] ["cell"] (defScope pN):=fsc
theorem EG:DD "_law_leaf" pN ["cell","name","number","some"] bR:=fun {_ _ _ _ _ _ _ _ _ _ _ s _ _} xs cs T G hr =>
 have S:=BC
 (@ssc _ _ _ _ _ _ _ _ (@aR _ _ _ _ _ _ _ 1 _ _ _ _ S.nd (@bA _ _ _ _ _ _ _ _ _ (@sLx _ _ _ _ _ _ _ (by decide) (@slx _ _ _ _ _ _ _ sS (@slx _ _ _ _ _ _ _ sS (@slx _ _ _ _ _ _ _ sS (@slx _ _ _ _ _ _ _ sS (@slx _ _ _ _ _ _ _ sS (@slx _ _ _ _ _ _ _ sS (@slx _ _ _ _ _ _ _ sS (@slx _ _ _ _ _ _ _ sS (@slx _ _ _ _ _ _ _ sS (@slx _ _ _ _ _ _ _ sS sl0 (by rfl)) (by rfl)) (by rfl)) (by rfl)) (by rfl)) (by rfl)) (by rfl)) (by rfl)) (by rfl)) (by rfl))) (eg (d0 (sV 0) sI) sI) (by intro _ _; rfl)) (by decide) (by rfl) (by rfl) (by first | exact a0E rfl | exact a0z rfl) (by rfl) (by first | exact .inl rfl | exact .inr rfl))
    (@ssc _ _ _ _ _ _ _ _ (@aR _ _ _ _ _ _ _ 2 _ _ _ _ S.nd (@bA _ _ _ _ _ _ _ _ _ (@sLx _ _ _ _ _ _ _ (by decide) (@slx _ _ _ _ _ _ _ sI (@slx _ _ _ _ _ _ _ sI (@slx _ _ _ _ _ _ _ (yw sI sI) (@slx _ _ _ _ _ _ _ sI (@slx _ _ _ _ _ _ _ (eg (sV 0) (cY (yw sI sI) sI)) sl0 (by rfl)) (by rfl)) (by rfl)) (by rfl)) (by rfl))) (eg (d0 (sV 0) sI) sI) (by intro _ _; rfl)) (by decide) (by rfl) (by rfl) (by first | exact a0E rfl | exact a0z rfl) (by rfl) (by first | exact .inl rfl | exact .inr rfl))
    (@ssc _ _ _ _ _ _ _ _ (@aR _ _ _ _ _ _ _ 3 _ _ _ _ S.nd (@sLx _ _ _ _ _ _ _ (by decide) (@slx _ _ _ _ _ _ _ (@sTx _ _ _ _ _ _ _ (by decide) (@slx _ _ _ _ _ _ _ sS (@slx _ _ _ _ _ _ _ (sV 2) sl0 (by rfl)) (by rfl))) (@slx _ _ _ _ _ _ _ (@sTx _ _ _ _ _ _ _ (by decide) (@slx _ _ _ _ _ _ _ sS sl0 (by rfl))) (@slx _ _ _ _ _ _ _ (@sTx _ _ _ _ _ _ _ (by decide) (@slx _ _ _ _ _ _ _ sS sl0 (by rfl))) (@slx _ _ _ _ _ _ _ (@sTx _ _ _ _ _ _ _ (by decide) (@slx _ _ _ _ _ _ _ sS (@slx _ _ _ _ _ _ _ (sV 1) sl0 (by rfl)) (by rfl))) (@slx _ _ _ _ _ _ _ (@sTx _ _ _ _ _ _ _ (by decide) (@slx _ _ _ _ _ _ _ sS (@slx _ _ _ _ _ _ _ (au cs.c171 hr (@aj _ _ _ _ _ _ _ (d0 (sV 0) sI) (@aj _ _ _ _ _ _ _ sI sa0 (by intro _ z; cases z) (by rfl)) (by intro _ z; cases z) (by rfl))) sl0 (by rfl)) (by rfl))) sl0 (by rfl)) (by rfl)) (by rfl)) (by rfl)) (by rfl))) (by decide) (by rfl) (by rfl) (by first | exact a0E rfl | exact a0z rfl) (by rfl) (by first | exact .inl rfl | exact .inr rfl))
    (@ss1 _ _ _ _ _ _ (@aJ _ _ _ _ _ _ _ _ (@bA _ _ _ _ _ _ _ _ _ (sM 3) (eg (sM 0) sI) (by intro _ _; rfl)))))))
theorem CC:ak ["cells","left","cell","some","at","many","made","k"] ["cells","left"] (defScope pq):=fsc
theorem FA:DD "_law_tree" pq ["cells","left","cell","some","at","many","made","k"] f_law_tree:=fun {_ _ _ _ _ _ _ _ _ _ _ s _ _} xs cs T G hr =>
 have S:=CC
 (@ssc _ _ _ _ _ _ _ _ (@aR _ _ _ _ _ _ _ 2 _ _ _ _ S.nd (sIf (DV (D6 0 T.len) sI) (Dy 0) sI) (by decide) (by rfl) (by rfl) (by first | exact a0E rfl | exact a0z rfl) (by rfl) (by first | exact .inl rfl | exact .inr rfl))
    (@ssc _ _ _ _ _ _ _ _ (@zIf _ _ _ _ _ _ _ _ _ _ _ _ (tW (wOr (iu hr (sV 1) sI) (wO1 (iu hr (eg (sV 2) sI) sI)))) (@ss1 _ _ _ _ _ _ (@aJ _ _ _ _ _ _ _ _ (au cs.c220 hr (@aj _ _ _ _ _ _ _ (d0 (sM 2) sI) sa0 (by intro _ z; cases z) (by rfl))))) ss0)
    (@ssc _ _ _ _ _ _ _ _ (@aR _ _ _ _ _ _ _ 3 _ _ _ _ S.nd (@sLx _ _ _ _ _ _ _ (by decide) (@slx _ _ _ _ _ _ _ sS (@slx _ _ _ _ _ _ _ sS (@slx _ _ _ _ _ _ _ sS (@slx _ _ _ _ _ _ _ sS (@slx _ _ _ _ _ _ _ sS (@slx _ _ _ _ _ _ _ sS (@slx _ _ _ _ _ _ _ sS (@slx _ _ _ _ _ _ _ sS (@slx _ _ _ _ _ _ _ sS (@slx _ _ _ _ _ _ _ sS (@slx _ _ _ _ _ _ _ sS (@slx _ _ _ _ _ _ _ sS (@slx _ _ _ _ _ _ _ sS (@slx _ _ _ _ _ _ _ sS sl0 (by rfl)) (by rfl)) (by rfl)) (by rfl)) (by rfl)) (by rfl)) (by rfl)) (by rfl)) (by rfl)) (by rfl)) (by rfl)) (by rfl)) (by rfl)) (by rfl))) (by decide) (by rfl) (by rfl) (by first | exact a0E rfl | exact a0z rfl) (by rfl) (by first | exact .inl rfl | exact .inr rfl))
    (@ssc _ _ _ _ _ _ _ _ (@aR _ _ _ _ _ _ _ 3 _ _ _ _ S.nd (cY (sV 3) (@sLx _ _ _ _ _ _ _ (by decide) (@slx _ _ _ _ _ _ _ sS (@slx _ _ _ _ _ _ _ sS (@slx _ _ _ _ _ _ _ sS (@slx _ _ _ _ _ _ _ sS (@slx _ _ _ _ _ _ _ sS (@slx _ _ _ _ _ _ _ sS (@slx _ _ _ _ _ _ _ sS (@slx _ _ _ _ _ _ _ sS (@slx _ _ _ _ _ _ _ sS (@slx _ _ _ _ _ _ _ sS (@slx _ _ _ _ _ _ _ sS (@slx _ _ _ _ _ _ _ sS (@slx _ _ _ _ _ _ _ sS sl0 (by rfl)) (by rfl)) (by rfl)) (by rfl)) (by rfl)) (by rfl)) (by rfl)) (by rfl)) (by rfl)) (by rfl)) (by rfl)) (by rfl)) (by rfl)))) (by decide) (by rfl) (by rfl) (by first | exact a0E rfl | exact a0z rfl) (by rfl) (by first | exact .inl rfl | exact .inr rfl))
    (@ssc _ _ _ _ _ _ _ _ (@aR _ _ _ _ _ _ _ 4 _ _ _ _ S.nd (eg (d0 (sV 2) sI) sI) (by decide) (by rfl) (by rfl) (by first | exact a0E rfl | exact a0z rfl) (by rfl) (by first | exact .inl rfl | exact .inr rfl))
    (@ssc _ _ _ _ _ _ _ _ (@aR _ _ _ _ _ _ _ 5 _ _ _ _ S.nd (cY (cY sI (A7 (hm:=T.int) (ha:=(sGt (sV 4) sI)))) (A7 (hm:=T.int) (ha:=(xy (@bA _ _ _ _ _ _ _ _ _ (sV 3) (sV 4) (by intro _ _; rfl)) (@sTx _ _ _ _ _ _ _ (by decide) (@slx _ _ _ _ _ _ _ sS (@slx _ _ _ _ _ _ _ sS sl0 (by rfl)) (by rfl))))))) (by decide) (by rfl) (by rfl) (by first | exact a0E rfl | exact a0z rfl) (by rfl) (by first | exact .inl rfl | exact .inr rfl))
    (@ssc _ _ _ _ _ _ _ _ (@aR _ _ _ _ _ _ _ 6 _ _ _ _ S.nd (@sTx _ _ _ _ _ _ _ (by decide) (@slx _ _ _ _ _ _ _ (@bA _ _ _ _ _ _ _ _ _ (sV 3) (sV 4) (by intro _ _; rfl)) sl0 (by rfl))) (by decide) (by rfl) (by rfl) (by first | exact a0E rfl | exact a0z rfl) (by rfl) (by first | exact .inl rfl | exact .inr rfl))
    (@ssc _ _ _ _ _ _ _ _ (@zIf _ _ _ _ _ _ _ _ _ _ _ _ (pB (@bA _ _ _ _ _ _ _ _ _ (sV 3) (sV 4) (by intro _ _; rfl)) (@sTx _ _ _ _ _ _ _ (by decide) (@slx _ _ _ _ _ _ _ sS (@slx _ _ _ _ _ _ _ sS (@slx _ _ _ _ _ _ _ sS sl0 (by rfl)) (by rfl)) (by rfl)))) (@ss1 _ _ _ _ _ _ (@aR _ _ _ _ _ _ _ 6 _ _ _ _ S.nd (cY (sV 6) (@sTx _ _ _ _ _ _ _ (by decide) (@slx _ _ _ _ _ _ _ (@bA _ _ _ _ _ _ _ _ _ (@sLx _ _ _ _ _ _ _ (by decide) (@slx _ _ _ _ _ _ _ sS (@slx _ _ _ _ _ _ _ sS (@slx _ _ _ _ _ _ _ sS (@slx _ _ _ _ _ _ _ sS (@slx _ _ _ _ _ _ _ sS sl0 (by rfl)) (by rfl)) (by rfl)) (by rfl)) (by rfl))) (eg (d0 (sV 2) sI) sI) (by intro _ _; rfl)) sl0 (by rfl)))) (by decide) (by rfl) (by rfl) (by first | exact a0E rfl | exact a0z rfl) (by rfl) (by first | exact .inl rfl | exact .inr rfl))) ss0)
    (@ssc _ _ _ _ _ _ _ _ (jI 7 S.nd (D8 (hm:=T.range) (ha:=(sV 5))) (@ss1 _ _ _ _ _ _ (@aR _ _ _ _ _ _ _ 6 _ _ _ _ S.nd (cY (sV 6) (@sTx _ _ _ _ _ _ _ (by decide) (@slx _ _ _ _ _ _ _ (au cs.c229 hr (sai 0 (@aj _ _ _ _ _ _ _ (m8 (sV 1) sI) sa0 (by intro _ z; cases z) (by rfl)))) sl0 (by rfl)))) (by decide) (by rfl) (by rfl) (by first | exact a0E rfl | exact a0z rfl) (by rfl) (by first | exact .inl rfl | exact .inr rfl))))
    (@ss1 _ _ _ _ _ _ (@aJ _ _ _ _ _ _ _ _ (sM 6))))))))))))
theorem BU:ak ["tree"] ["tree"] (defScope pY):=fsc
theorem F3:DD "_law_start" pY ["tree"] aT:=fun {_ _ _ _ _ _ _ _ _ _ _ s _ _} xs cs T G hr =>
 have S:=BU
 (@ssc _ _ _ _ _ _ _ _ (@zIf _ _ _ _ _ _ _ _ _ _ _ _ (pB (@bA _ _ _ _ _ _ _ _ _ (sV 0) sI (by intro _ _; rfl)) (@sTx _ _ _ _ _ _ _ (by decide) (@slx _ _ _ _ _ _ _ sS (@slx _ _ _ _ _ _ _ sS (@slx _ _ _ _ _ _ _ sS sl0 (by rfl)) (by rfl)) (by rfl)))) (@ss1 _ _ _ _ _ _ (@aJ _ _ _ _ _ _ _ _ (iH (hm:=T.len) (ha:=(sM 0))))) ss0)
    (@ss1 _ _ _ _ _ _ (@aJ _ _ _ _ _ _ _ _ (cY sI (A7 (hm:=T.int) (ha:=(xy (@bA _ _ _ _ _ _ _ _ _ (sM 0) sI (by intro _ _; rfl)) (@sTx _ _ _ _ _ _ _ (by decide) (@slx _ _ _ _ _ _ _ sS (@slx _ _ _ _ _ _ _ sS (@slx _ _ _ _ _ _ _ sS sl0 (by rfl)) (by rfl)) (by rfl))))))))))
theorem Ef:ak ["tree","place","found","start","at"] ["tree","place"] (defScope pf):=fsc
theorem EH:DD "_law_all" pf ["tree","place","found","start","at"] cf:=fun {_ _ _ _ _ _ _ _ _ _ _ s _ _} xs cs T G hr =>
 have S:=Ef
 (@ssc _ _ _ _ _ _ _ _ (@aR _ _ _ _ _ _ _ 2 _ _ _ _ S.nd (@sLx _ _ _ _ _ _ _ (by decide) sl0) (by decide) (by rfl) (by rfl) (by first | exact a0E rfl | exact a0z rfl) (by rfl) (by first | exact .inl rfl | exact .inr rfl))
    (@ssc _ _ _ _ _ _ _ _ (@aR _ _ _ _ _ _ _ 3 _ _ _ _ S.nd (au cs.c244 hr (@aj _ _ _ _ _ _ _ (sV 0) sa0 (by intro _ z; cases z) (by rfl))) (by decide) (by rfl) (by rfl) (by first | exact a0E rfl | exact a0z rfl) (by rfl) (by first | exact .inl rfl | exact .inr rfl))
    (@ssc _ _ _ _ _ _ _ _ (jI 4 S.nd (yT (hm:=T.range) (ha:=(sV 3)) (hb:=(iH (hm:=T.len) (ha:=(sV 0))))) (@ss1 _ _ _ _ _ _ (EI 2 (au cs.c351 hr (@aj _ _ _ _ _ _ _ (@bA _ _ _ _ _ _ _ _ _ (sV 0) (sV 4) (by intro _ _; rfl)) (@aj _ _ _ _ _ _ _ (mh (sV 1) (@sTx _ _ _ _ _ _ _ (by decide) (@slx _ _ _ _ _ _ _ (m8 (sV 4) (sV 3)) sl0 (by rfl)))) sa0 (by intro _ z; cases z) (by rfl)) (by intro _ z; cases z) (by rfl))))))
    (@ss1 _ _ _ _ _ _ (@aJ _ _ _ _ _ _ _ _ (cY (sM 2) (@sLx _ _ _ _ _ _ _ (by decide) (@slx _ _ _ _ _ _ _ (@sTx _ _ _ _ _ _ _ (by decide) (@slx _ _ _ _ _ _ _ (sM 1) (@slx _ _ _ _ _ _ _ (sM 0) sl0 (by rfl)) (by rfl))) sl0 (by rfl)))))))))
theorem Dx:ak ["tree","place","other","at"] ["tree","place","other"] (defScope pU):=fsc
theorem F7:DD "_law_put" pU ["tree","place","other","at"] bM:=fun {_ _ _ _ _ _ _ _ _ _ _ s _ _} xs cs T G hr =>
 have S:=Dx
 (@ssc _ _ _ _ _ _ _ _ (@zIf _ _ _ _ _ _ _ _ _ _ _ _ (iu hr (sV 1) (@sTx _ _ _ _ _ _ _ (by decide) sl0)) (@ss1 _ _ _ _ _ _ (@aJ _ _ _ _ _ _ _ _ (sM 2))) ss0)
    (@ssc _ _ _ _ _ _ _ _ (@aR _ _ _ _ _ _ _ 3 _ _ _ _ S.nd (cY (au cs.c244 hr (@aj _ _ _ _ _ _ _ (sV 0) sa0 (by intro _ z; cases z) (by rfl))) (@bA _ _ _ _ _ _ _ _ _ (sV 1) sI (by intro _ _; rfl))) (by decide) (by rfl) (by rfl) (by first | exact a0E rfl | exact a0z rfl) (by rfl) (by first | exact .inl rfl | exact .inr rfl))
    (@ss1 _ _ _ _ _ _ (@aJ _ _ _ _ _ _ _ _ (cY (mh (nq (sV 0) (sV 3)) (@sTx _ _ _ _ _ _ _ (by decide) (@slx _ _ _ _ _ _ _ (au cs.c352 hr (@aj _ _ _ _ _ _ _ (@bA _ _ _ _ _ _ _ _ _ (sV 0) (sV 3) (by intro _ _; rfl)) (@aj _ _ _ _ _ _ _ (j1 (sM 1) sI) (@aj _ _ _ _ _ _ _ (sM 2) sa0 (by intro _ z; cases z) (by rfl)) (by intro _ z; cases z) (by rfl)) (by intro _ z; cases z) (by rfl))) sl0 (by rfl)))) (j1 (sV 0) (cY (sV 3) sI)))))))
theorem C6:ak ["tree","place","putting","caught","e","others"] ["tree","place","putting"] (defScope oQ):=fsc
theorem Ft:DD "_law_refused" oQ ["tree","place","putting","caught","e","others"] aP:=fun {_ _ _ _ _ _ _ _ _ _ _ s _ _} xs cs T G hr =>
 have S:=C6
 (@ssc _ _ _ _ _ _ _ _ (@aR _ _ _ _ _ _ _ 3 _ _ _ _ S.nd sN (by decide) (by rfl) (by rfl) (by first | exact a0E rfl | exact a0z rfl) (by rfl) (by first | exact .inl rfl | exact .inr rfl))
    (@ssc _ _ _ _ _ _ _ _ (Av 4 S.nd xs.b_BroadError (fun _ _=>(@ss1 _ _ _ _ _ _ (@zIf _ _ _ _ _ _ _ _ _ _ _ _ (tB (sV 2)) (@ss1 _ _ _ _ _ _ (lY (iL cs.x353 hr (@slx _ _ _ _ _ _ _ (sV 0) (@slx _ _ _ _ _ _ _ (sV 1) (@slx _ _ _ _ _ _ _ (@sTx _ _ _ _ _ _ _ (by decide) (@slx _ _ _ _ _ _ _ sS sl0 (by rfl))) sl0 (by rfl)) (by rfl)) (by rfl))))) (@ss1 _ _ _ _ _ _ (lY (iL cs.x335 hr (@slx _ _ _ _ _ _ _ (sV 0) (@slx _ _ _ _ _ _ _ (sV 1) sl0 (by rfl)) (by rfl)))))))) (fun _=>(@ss1 _ _ _ _ _ _ (@aR _ _ _ _ _ _ _ 3 _ _ _ _ S.nd (sV 4) (by decide) (by rfl) (by rfl) (by first | exact a0E rfl | exact a0z rfl) (by rfl) (by first | exact .inl rfl | exact .inr rfl)))))
    (@ssc _ _ _ _ _ _ _ _ (@aR _ _ _ _ _ _ _ 5 _ _ _ _ S.nd (Du xs.t_NoKind_NoLine_NoRule_NoText_NoThing (pn1 xs.i_NoKind (pn1 xs.i_NoLine (pn1 xs.i_NoRule (pn1 xs.i_NoText (pn1 xs.i_NoThing pn0))))) (by decide) T.isin (sV 3)) (by decide) (by rfl) (by rfl) (by first | exact a0E rfl | exact a0z rfl) (by rfl) (by first | exact .inl rfl | exact .inr rfl))
    (@ss1 _ _ _ _ _ _ (@aJ _ _ _ _ _ _ _ _ (sBW (yB (CP xs.i_NoPlace T.isin (sV 3)) (yB (DR xs.i_ValueError T.isin (sV 3) xs.m_ValueError) (yB (Fo (sM 5)) (vA1 (sEq hr (EU (sV 3) xs.f_place) (sM 1))))))))))))
theorem BV:ak ["piece","start","bound","told","others"] ["piece"] (defScope rK):=fsc
theorem E2:DD "_law_piece" rK ["piece","start","bound","told","others"] bb:=fun {_ _ _ _ _ _ _ _ _ _ _ s _ _} xs cs T G hr =>
 have S:=BV
 (@ssc _ _ _ _ _ _ _ _ (@aR _ _ _ _ _ _ _ 1 _ _ _ _ S.nd (au cs.c244 hr (@aj _ _ _ _ _ _ _ (sV 0) sa0 (by intro _ z; cases z) (by rfl))) (by decide) (by rfl) (by rfl) (by first | exact a0E rfl | exact a0z rfl) (by rfl) (by first | exact .inl rfl | exact .inr rfl))
    (@ssc _ _ _ _ _ _ _ _ (@aR _ _ _ _ _ _ _ 2 _ _ _ _ S.nd (xX (tab:=[(a2m "let",1),(a2m "each",1),(a2m "times",2)]) (pd1 ie gY (pd1 ie gY (pd1 ie gY pd0))) hr (@bA _ _ _ _ _ _ _ _ _ (sV 0) sI (by intro _ _; rfl)) (by rfl) (by decide) (by rfl) (by rfl) (by intro z; cases z) (by decide)) (by decide) (by rfl) (by rfl) (by first | exact a0E rfl | exact a0z rfl) (by rfl) (by first | exact .inl rfl | exact .inr rfl))
    (@ssc _ _ _ _ _ _ _ _ (@aR _ _ _ _ _ _ _ 3 _ _ _ _ S.nd (au cs.c233 hr (@aj _ _ _ _ _ _ _ (sV 0) sa0 (by intro _ z; cases z) (by rfl))) (by decide) (by rfl) (by rfl) (by first | exact a0E rfl | exact a0z rfl) (by rfl) (by first | exact .inl rfl | exact .inr rfl))
    (@ssc _ _ _ _ _ _ _ _ (@zIf _ _ _ _ _ _ _ _ _ _ _ _ (tW (wOr (jY hr (au cs.c176 hr (@aj _ _ _ _ _ _ _ (sV 0) sa0 (by intro _ z; cases z) (by rfl))) (j1 (sV 0) (sV 1))) (wOr (jY hr (sV 3) (sV 2)) (wO1 (tB (mi (by decide) a1Y T.isin T.bool (sV 3))))))) (@ss1 _ _ _ _ _ _ (@aJ _ _ _ _ _ _ _ _ sO)) ss0)
    (@ssc _ _ _ _ _ _ _ _ (zC1 4 [] [] [] [] (D8 (hm:=T.range) (ha:=(m8 (iH (hm:=T.len) (ha:=(sV 0))) (sV 1)))) (fun _ _ _ _=>(@sTx _ _ _ _ _ _ _ (by decide) (@slx _ _ _ _ _ _ _ sS (@slx _ _ _ _ _ _ _ (sV 0) sl0 (by rfl)) (by rfl)))) csc .nil .nil S.nd)
    (@ssc _ _ _ _ _ _ _ _ (@zIf _ _ _ _ _ _ _ _ _ _ _ _ (jY hr (au cs.c334 hr (@aj _ _ _ _ _ _ _ (sV 0) (@aj _ _ _ _ _ _ _ (sV 4) sa0 (by intro _ z; cases z) (by rfl)) (by intro _ z; cases z) (by rfl))) (cY (nq (sV 0) (sV 1)) (qB (hm:=T.tup) (ha:=(sV 4))))) (@ss1 _ _ _ _ _ _ (@aJ _ _ _ _ _ _ _ _ sO)) ss0)
    (@ss1 _ _ _ _ _ _ (@aJ _ _ _ _ _ _ _ _ (sEq hr (au cs.c334 hr (@aj _ _ _ _ _ _ _ (sV 0) (@aj _ _ _ _ _ _ _ (qR (hm:=T.list) (ha:=(j1 (sV 0) (sM 1)))) sa0 (by intro _ z; cases z) (by rfl)) (by intro _ z; cases z) (by rfl))) (sV 0))))))))))
theorem S0:ak ["script","tree","due","place","piece","cell","other","spot","number","bent","there"] ["script"] (defScope s0):=fsc
theorem D0:DD "law" s0 ["script","tree","due","place","piece","cell","other","spot","number","bent","there"] f_law:=fun {_ _ _ _ _ _ _ _ _ _ _ s _ _} xs cs T G hr =>
 have S:=S0
 (@ssc _ _ _ _ _ _ _ _ (@aR _ _ _ _ _ _ _ 1 _ _ _ _ S.nd (au cs.c229 hr (@aj _ _ _ _ _ _ _ (qR (hm:=T.list) (ha:=(nq (sV 0) sI))) (@aj _ _ _ _ _ _ _ sI sa0 (by intro _ z; cases z) (by rfl)) (by intro _ z; cases z) (by rfl))) (by decide) (by rfl) (by rfl) (by first | exact a0E rfl | exact a0z rfl) (by rfl) (by first | exact .inl rfl | exact .inr rfl))
    (@ssc _ _ _ _ _ _ _ _ (@aR _ _ _ _ _ _ _ 2 _ _ _ _ S.nd (au cs.c351 hr (@aj _ _ _ _ _ _ _ (sV 1) (@aj _ _ _ _ _ _ _ (@sTx _ _ _ _ _ _ _ (by decide) sl0) sa0 (by intro _ z; cases z) (by rfl)) (by intro _ z; cases z) (by rfl))) (by decide) (by rfl) (by rfl) (by first | exact a0E rfl | exact a0z rfl) (by rfl) (by first | exact .inl rfl | exact .inr rfl))
    (@ssc _ _ _ _ _ _ _ _ (@zIf _ _ _ _ _ _ _ _ _ _ _ _ (jY hr (au cs.c253 hr (@aj _ _ _ _ _ _ _ (sV 1) sa0 (by intro _ z; cases z) (by rfl))) (sC2 [] [] [] [] (lC (sV 2)) (fun _ _ _ _=>(sV 0)) csc .nil .nil)) (@ss1 _ _ _ _ _ _ (@aJ _ _ _ _ _ _ _ _ sO)) ss0)
    (@ssc _ _ _ _ _ _ _ _ (wQ 3 4 S.nd (lC (sV 2)) (@ss1 _ _ _ _ _ _ (@zIf _ _ _ _ _ _ _ _ _ _ _ _ (tW (wOr (jY hr (au cs.c335 hr (@aj _ _ _ _ _ _ _ (sV 1) (@aj _ _ _ _ _ _ _ (sV 3) sa0 (by intro _ z; cases z) (by rfl)) (by intro _ z; cases z) (by rfl))) (sV 4)) (wO1 (dh (tB (au cs.c341 hr (@aj _ _ _ _ _ _ _ (sV 4) sa0 (by intro _ z; cases z) (by rfl)))))))) (@ss1 _ _ _ _ _ _ (@aJ _ _ _ _ _ _ _ _ sO)) ss0)))
    (@ssc _ _ _ _ _ _ _ _ (jI 5 S.nd (zT (sIf (DV (iH (hm:=T.len) (ha:=(sV 0))) sI) (nq (sV 0) sI) (@sLx _ _ _ _ _ _ _ (by decide) (@slx _ _ _ _ _ _ _ sI sl0 (by rfl))))) (@ssc _ _ _ _ _ _ _ _ (@aR _ _ _ _ _ _ _ 3 _ _ _ _ S.nd (@bA _ _ _ _ _ _ _ _ _ (@bA _ _ _ _ _ _ _ _ _ (sV 2) (eg (sV 5) (iH (hm:=T.len) (ha:=(sV 2)))) (by intro _ _; rfl)) sI (by intro _ _; rfl)) (by decide) (by rfl) (by rfl) (by first | exact a0E rfl | exact a0z rfl) (by rfl) (by first | exact .inl rfl | exact .inr rfl))
     (@ssc _ _ _ _ _ _ _ _ (@aR _ _ _ _ _ _ _ 6 _ _ _ _ S.nd (au cs.c229 hr (@aj _ _ _ _ _ _ _ (@sLx _ _ _ _ _ _ _ (by decide) (@slx _ _ _ _ _ _ _ (d0 (sV 5) sI) (@slx _ _ _ _ _ _ _ (d0 (sV 5) sI) sl0 (by rfl)) (by rfl))) (@aj _ _ _ _ _ _ _ sI sa0 (by intro _ z; cases z) (by rfl)) (by intro _ z; cases z) (by rfl))) (by decide) (by rfl) (by rfl) (by first | exact a0E rfl | exact a0z rfl) (by rfl) (by first | exact .inl rfl | exact .inr rfl))
     (@ssc _ _ _ _ _ _ _ _ (@zIf _ _ _ _ _ _ _ _ _ _ _ _ (jY hr (au cs.c353 hr (@aj _ _ _ _ _ _ _ (sV 1) (@aj _ _ _ _ _ _ _ (sV 3) (@aj _ _ _ _ _ _ _ (sV 6) sa0 (by intro _ z; cases z) (by rfl)) (by intro _ z; cases z) (by rfl)) (by intro _ z; cases z) (by rfl))) (au cs.c352 hr (@aj _ _ _ _ _ _ _ (sV 1) (@aj _ _ _ _ _ _ _ (sV 3) (@aj _ _ _ _ _ _ _ (sV 6) sa0 (by intro _ z; cases z) (by rfl)) (by intro _ z; cases z) (by rfl)) (by intro _ z; cases z) (by rfl)))) (@ss1 _ _ _ _ _ _ (@aJ _ _ _ _ _ _ _ _ sO)) ss0)
     (@ssc _ _ _ _ _ _ _ _ (@zIf _ _ _ _ _ _ _ _ _ _ _ _ (jY hr (au cs.c253 hr (@aj _ _ _ _ _ _ _ (sV 1) sa0 (by intro _ z; cases z) (by rfl))) (sC2 [] [] [] [] (lC (sV 2)) (fun _ _ _ _=>(sV 0)) csc .nil .nil)) (@ss1 _ _ _ _ _ _ (@aJ _ _ _ _ _ _ _ _ sO)) ss0)
     (@ssc _ _ _ _ _ _ _ _ (@aR _ _ _ _ _ _ _ 7 _ _ _ _ S.nd (eg (d0 (sV 5) sI) (cY (iH (hm:=T.len) (ha:=(sV 3))) sI)) (by decide) (by rfl) (by rfl) (by first | exact a0E rfl | exact a0z rfl) (by rfl) (by first | exact .inl rfl | exact .inr rfl))
     (@ssc _ _ _ _ _ _ _ _ (@aR _ _ _ _ _ _ _ 8 _ _ _ _ S.nd (@bA _ _ _ _ _ _ _ _ _ (@sLx _ _ _ _ _ _ _ (by decide) (@slx _ _ _ _ _ _ _ (AS sI) (@slx _ _ _ _ _ _ _ sI (@slx _ _ _ _ _ _ _ sI (@slx _ _ _ _ _ _ _ sI (@slx _ _ _ _ _ _ _ (AS sI) (@slx _ _ _ _ _ _ _ (yw sI sI) sl0 (by rfl)) (by rfl)) (by rfl)) (by rfl)) (by rfl)) (by rfl))) (eg (d0 (sV 5) sI) sI) (by intro _ _; rfl)) (by decide) (by rfl) (by rfl) (by first | exact a0E rfl | exact a0z rfl) (by rfl) (by first | exact .inl rfl | exact .inr rfl))
     (@ssc _ _ _ _ _ _ _ _ (@aR _ _ _ _ _ _ _ 9 _ _ _ _ S.nd (cY (mh (nq (sV 3) (sV 7)) (@sTx _ _ _ _ _ _ _ (by decide) (@slx _ _ _ _ _ _ _ (sV 8) sl0 (by rfl)))) (j1 (sV 3) (cY (sV 7) (eg (d0 (sV 5) sI) sI)))) (by decide) (by rfl) (by rfl) (by first | exact a0E rfl | exact a0z rfl) (by rfl) (by first | exact .inl rfl | exact .inr rfl))
     (@ssc _ _ _ _ _ _ _ _ (@aR _ _ _ _ _ _ _ 10 _ _ _ _ S.nd (E4 hr (sV 9) (sC2 [] [] [] [] (lC (sV 2)) (fun _ _ _ _=>(sV 0)) csc .nil .nil)) (by decide) (by rfl) (by rfl) (by first | exact a0E rfl | exact a0z rfl) (by rfl) (by first | exact .inl rfl | exact .inr rfl))
     (@ssc _ _ _ _ _ _ _ _ (@zIf _ _ _ _ _ _ _ _ _ _ _ _ (tW (Au (dh (tB (sV 10))) (wA1 (dh (tB (au cs.c355 hr (@aj _ _ _ _ _ _ _ (sV 1) (@aj _ _ _ _ _ _ _ (sV 9) (@aj _ _ _ _ _ _ _ sO sa0 (by intro _ z; cases z) (by rfl)) (by intro _ z; cases z) (by rfl)) (by intro _ z; cases z) (by rfl)))))))) (@ss1 _ _ _ _ _ _ (@aJ _ _ _ _ _ _ _ _ sO)) ss0)
     (@ssc _ _ _ _ _ _ _ _ (@zIf _ _ _ _ _ _ _ _ _ _ _ _ (tW (Au (dh (tB (sV 10))) (wA1 (dh (tB (au cs.c355 hr (@aj _ _ _ _ _ _ _ (sV 1) (@aj _ _ _ _ _ _ _ (sV 9) (@aj _ _ _ _ _ _ _ sO sa0 (by intro _ z; cases z) (by rfl)) (by intro _ z; cases z) (by rfl)) (by intro _ z; cases z) (by rfl)))))))) (@ss1 _ _ _ _ _ _ (@aJ _ _ _ _ _ _ _ _ sO)) ss0)
     (@ss1 _ _ _ _ _ _ (@zIf _ _ _ _ _ _ _ _ _ _ _ _ (tW (Au (tB (sV 10)) (wA1 (jY hr (au cs.c335 hr (@aj _ _ _ _ _ _ _ (au cs.c353 hr (@aj _ _ _ _ _ _ _ (sV 1) (@aj _ _ _ _ _ _ _ (sV 9) (@aj _ _ _ _ _ _ _ (@sTx _ _ _ _ _ _ _ (by decide) (@slx _ _ _ _ _ _ _ sS sl0 (by rfl))) sa0 (by intro _ z; cases z) (by rfl)) (by intro _ z; cases z) (by rfl)) (by intro _ z; cases z) (by rfl))) (@aj _ _ _ _ _ _ _ (sV 9) sa0 (by intro _ z; cases z) (by rfl)) (by intro _ z; cases z) (by rfl))) (@sTx _ _ _ _ _ _ _ (by decide) (@slx _ _ _ _ _ _ _ sS sl0 (by rfl))))))) (@ss1 _ _ _ _ _ _ (@aJ _ _ _ _ _ _ _ _ sO)) ss0)))))))))))))
    (@ss1 _ _ _ _ _ _ (@aJ _ _ _ _ _ _ _ _ sO)))))))
end A09

namespace A09
open PySem PySem.Spec PyProof.Rows L2 L3 MR
noncomputable abbrev Cl (n:Nat):M.Call:=M.callR prog 1000000 1000001 n
section
variable {P:Program}{w:World}{K:a0a}{mg:Str->Option Value}{base:Heap}
theorem all (d2:Df K mg "is_worth" s2 ["kind","thing"])(d3:Df K mg "is_number" s3 ["thing"])(d175:Df K mg "parts_start" rS ["sign"])(d176:Df K mg "parts" qM ["tree"])(d334:Df K mg "with_parts" pC ["tree","some"])(d233:Df K mg "binding" oz ["tree"])(d253:Df K mg "places" oM ["tree"])(d254:Df K mg "add_places" oF ["tree","place","told"])(d335:Df K mg "part_at" mB ["tree","place"])(d353:Df K mg "put_at" n5 ["tree","place","other"])(d354:Df K mg "replaced" pZ ["tree","place","other"])(d171:Df K mg "_law_kind" qJ ["cell","left"])(d220:Df K mg "_law_leaf" pN ["cell"])(d229:Df K mg "_law_tree" pq ["cells","left"])(d244:Df K mg "_law_start" pY ["tree"])(d351:Df K mg "_law_all" pf ["tree","place"])(d352:Df K mg "_law_put" pU ["tree","place","other"])(d355:Df K mg "_law_refused" oQ ["tree","place","putting"])(d341:Df K mg "_law_piece" rK ["piece"])  (T:Txt mg)(G:Glb K w mg)(xs:Xs P w K mg base):∀ n,Calls P w K mg base (n+2) (Cl n)
 | 0 =>
  have c2:ae P w K mg base (0+2) (Cl 0) "is_worth" 2 []:=d2.z
  have c3:ae P w K mg base (0+2) (Cl 0) "is_number" 3 []:=d3.z
  have c175:ae P w K mg base (0+2) (Cl 0) "parts_start" 175 []:=d175.z
  have c176:ae P w K mg base (0+2) (Cl 0) "parts" 176 []:=d176.z
  have c334:ae P w K mg base (0+2) (Cl 0) "with_parts" 334 []:=d334.z
  have c233:ae P w K mg base (0+2) (Cl 0) "binding" 233 []:=d233.z
  have c253:ae P w K mg base (0+2) (Cl 0) "places" 253 []:=d253.z
  have c254:ae P w K mg base (0+2) (Cl 0) "add_places" 254 [2]:=d254.z
  have c335:ae P w K mg base (0+2) (Cl 0) "part_at" 335 []:=d335.z
  have x335:dj P w K mg base (0+2) (Cl 0) "part_at" 335:=d335.zX
  have c353:ae P w K mg base (0+2) (Cl 0) "put_at" 353 []:=d353.z
  have x353:dj P w K mg base (0+2) (Cl 0) "put_at" 353:=d353.zX
  have c354:ae P w K mg base (0+2) (Cl 0) "replaced" 354 []:=d354.z
  have c171:ae P w K mg base (0+2) (Cl 0) "_law_kind" 171 []:=d171.z
  have c220:ae P w K mg base (0+2) (Cl 0) "_law_leaf" 220 []:=d220.z
  have c229:ae P w K mg base (0+2) (Cl 0) "_law_tree" 229 [0]:=d229.z
  have c244:ae P w K mg base (0+2) (Cl 0) "_law_start" 244 []:=d244.z
  have c351:ae P w K mg base (0+2) (Cl 0) "_law_all" 351 []:=d351.z
  have c352:ae P w K mg base (0+2) (Cl 0) "_law_put" 352 []:=d352.z
  have c355:ae P w K mg base (0+2) (Cl 0) "_law_refused" 355 []:=d355.z
  have c341:ae P w K mg base (0+2) (Cl 0) "_law_piece" 341 []:=d341.z
  ⟨c2,c3,c175,c176,c334,c233,c253,c254,c335,x335,c353,x353,c354,c171,c220,c229,c244,c351,c352,c355,c341,fun _=>rfl,fun _=>rfl⟩
 | n+1 =>
  have c:=all d2 d3 d175 d176 d334 d233 d253 d254 d335 d353 d354 d171 d220 d229 d244 d351 d352 d355 d341  T G xs n
  have c2:ae P w K mg base ((n+1)+2) (Cl (n+1)) "is_worth" 2 []:=d2.s bS S2 (C:=Cl n) (by intro f cdv A outer s H E h; exact @D2 P w K mg base n (Cl n) f cdv A outer s H E xs c T G h)
  have c3:ae P w K mg base ((n+1)+2) (Cl (n+1)) "is_number" 3 []:=d3.s bE S3 (C:=Cl n) (by intro f cdv A outer s H E h; exact @D3 P w K mg base n (Cl n) f cdv A outer s H E xs c T G h)
  have c175:ae P w K mg base ((n+1)+2) (Cl (n+1)) "parts_start" 175 []:=d175.s aO BK (C:=Cl n) (by intro f cdv A outer s H E h; exact @E7 P w K mg base n (Cl n) f cdv A outer s H E xs c T G h)
  have c176:ae P w K mg base ((n+1)+2) (Cl (n+1)) "parts" 176 []:=d176.s dG DS (C:=Cl n) (by intro f cdv A outer s H E h; exact @EY P w K mg base n (Cl n) f cdv A outer s H E xs c T G h)
  have c334:ae P w K mg base ((n+1)+2) (Cl (n+1)) "with_parts" 334 []:=d334.s br Cg (C:=Cl n) (by intro f cdv A outer s H E h; exact @EN P w K mg base n (Cl n) f cdv A outer s H E xs c T G h)
  have c233:ae P w K mg base ((n+1)+2) (Cl (n+1)) "binding" 233 []:=d233.s cw CH (C:=Cl n) (by intro f cdv A outer s H E h; exact @F8 P w K mg base n (Cl n) f cdv A outer s H E xs c T G h)
  have c253:ae P w K mg base ((n+1)+2) (Cl (n+1)) "places" 253 []:=d253.s cK BD (C:=Cl n) (by intro f cdv A outer s H E h; exact @FG P w K mg base n (Cl n) f cdv A outer s H E xs c T G h)
  have c254:ae P w K mg base ((n+1)+2) (Cl (n+1)) "add_places" 254 [2]:=d254.s bh Dn (C:=Cl n) (by intro f cdv A outer s H E h; exact @FD P w K mg base n (Cl n) f cdv A outer s H E xs c T G h)
  have c335:ae P w K mg base ((n+1)+2) (Cl (n+1)) "part_at" 335 []:=d335.s f_part_at u7 (C:=Cl n) (by intro f cdv A outer s H E h; exact @Fg P w K mg base n (Cl n) f cdv A outer s H E xs c T G h)
  have x335:dj P w K mg base ((n+1)+2) (Cl (n+1)) "part_at" 335:=d335.sX f_part_at u7 (C:=Cl n) (by intro f cdv A outer s H E h; exact @FQ P w K mg base n (Cl n) f cdv A outer s H E xs c T G h)
  have c353:ae P w K mg base ((n+1)+2) (Cl (n+1)) "put_at" 353 []:=d353.s bC uH (C:=Cl n) (by intro f cdv A outer s H E h; exact @Fv P w K mg base n (Cl n) f cdv A outer s H E xs c T G h)
  have x353:dj P w K mg base ((n+1)+2) (Cl (n+1)) "put_at" 353:=d353.sX bC uH (C:=Cl n) (by intro f cdv A outer s H E h; exact @FW P w K mg base n (Cl n) f cdv A outer s H E xs c T G h)
  have c354:ae P w K mg base ((n+1)+2) (Cl (n+1)) "replaced" 354 []:=d354.s bz D1 (C:=Cl n) (by intro f cdv A outer s H E h; exact @Et P w K mg base n (Cl n) f cdv A outer s H E xs c T G h)
  have c171:ae P w K mg base ((n+1)+2) (Cl (n+1)) "_law_kind" 171 []:=d171.s aG Cp (C:=Cl n) (by intro f cdv A outer s H E h; exact @Ex P w K mg base n (Cl n) f cdv A outer s H E xs c T G h)
  have c220:ae P w K mg base ((n+1)+2) (Cl (n+1)) "_law_leaf" 220 []:=d220.s bR BC (C:=Cl n) (by intro f cdv A outer s H E h; exact @EG P w K mg base n (Cl n) f cdv A outer s H E xs c T G h)
  have c229:ae P w K mg base ((n+1)+2) (Cl (n+1)) "_law_tree" 229 [0]:=d229.s f_law_tree CC (C:=Cl n) (by intro f cdv A outer s H E h; exact @FA P w K mg base n (Cl n) f cdv A outer s H E xs c T G h)
  have c244:ae P w K mg base ((n+1)+2) (Cl (n+1)) "_law_start" 244 []:=d244.s aT BU (C:=Cl n) (by intro f cdv A outer s H E h; exact @F3 P w K mg base n (Cl n) f cdv A outer s H E xs c T G h)
  have c351:ae P w K mg base ((n+1)+2) (Cl (n+1)) "_law_all" 351 []:=d351.s cf Ef (C:=Cl n) (by intro f cdv A outer s H E h; exact @EH P w K mg base n (Cl n) f cdv A outer s H E xs c T G h)
  have c352:ae P w K mg base ((n+1)+2) (Cl (n+1)) "_law_put" 352 []:=d352.s bM Dx (C:=Cl n) (by intro f cdv A outer s H E h; exact @F7 P w K mg base n (Cl n) f cdv A outer s H E xs c T G h)
  have c355:ae P w K mg base ((n+1)+2) (Cl (n+1)) "_law_refused" 355 []:=d355.s aP C6 (C:=Cl n) (by intro f cdv A outer s H E h; exact @Ft P w K mg base n (Cl n) f cdv A outer s H E xs c T G h)
  have c341:ae P w K mg base ((n+1)+2) (Cl (n+1)) "_law_piece" 341 []:=d341.s bb BV (C:=Cl n) (by intro f cdv A outer s H E h; exact @E2 P w K mg base n (Cl n) f cdv A outer s H E xs c T G h)
  ⟨c2,c3,c175,c176,c334,c233,c253,c254,c335,x335,c353,x353,c354,c171,c220,c229,c244,c351,c352,c355,c341,fun ws=>M.zf_no _ ws,fun ws=>M.zf_no _ ws⟩
end
theorem pure_law:∀ ns:List Int,ns.length<=63->∃ m bs,Cl 40 0 [(.d,.scr ns)]=.ok ((m,.bl true),bs):=fun ns _=>P09.pure_law ns
theorem all_mk {l:a2H}{w:World}{K:a0a}{h:Heap}{mg:Str->Option Value}{fa:Addr}(X:K.In h)(G:h.Ns mainGlobals mg)(hfa:mg "law"=some (.ref fa))(r2:Raw K "is_worth" s2 .none)(r3:Raw K "is_number" s3 .none)(r175:Raw K "parts_start" rS .none)(r176:Raw K "parts" qM .none)(r334:Raw K "with_parts" pC .none)(r233:Raw K "binding" oz .none)(r253:Raw K "places" oM .none)(r254:Raw K "add_places" oF .none)(r335:Raw K "part_at" mB .none)(r353:Raw K "put_at" n5 .none)(r354:Raw K "replaced" pZ .none)(r171:Raw K "_law_kind" qJ .none)(r220:Raw K "_law_leaf" pN .none)(r229:Raw K "_law_tree" pq .none)(r244:Raw K "_law_start" pY .none)(r351:Raw K "_law_all" pf .none)(r352:Raw K "_law_put" pU .none)(r355:Raw K "_law_refused" oQ .none)(r341:Raw K "_law_piece" rK .none)(r0:Raw K "law" s0 .none)(g0:∃ t,a1j K mainGlobals "GREATEST"=some (some (.int 1000000000000000000 t)))(q_AHEAD:∃ T,TabRaw K w "AHEAD" T/\T.map a2l=keys_AHEAD)(q_BINDING:∃ T,TabRaw K w "BINDING" T/\CstL K tab_BINDING T)(tx:Bv K ["isinstance","int","tuple","list","bool","sum","len","all","zip","range","enumerate","any","max","min","sorted","str","repr","abs","dict","set","reversed"])(xs:∀ base,Xs l.prog w K mg base) :
  ∃ fd:FuncData,(∀ (s:Shared) (v:Value),BindsTo s fd ⟨[v],[]⟩ [("script",v)])/\∀ base:Heap,K.In base->base.Ns mainGlobals mg->bJ l.prog w K mg base CX0 42 fa fd ["script"] (spS K (Cl 40) 0 []):=by
 have d2:Df K mg "is_worth" s2 ["kind","thing"]:=bg X G r2 fun _ _ _ _ _ _ us hl=>match us,hl with | [_,_],_=>rfl
 have d3:Df K mg "is_number" s3 ["thing"]:=bg X G r3 fun _ _ _ _ _ _ us hl=>match us,hl with | [_],_=>rfl
 have d175:Df K mg "parts_start" rS ["sign"]:=bg X G r175 fun _ _ _ _ _ _ us hl=>match us,hl with | [_],_=>rfl
 have d176:Df K mg "parts" qM ["tree"]:=bg X G r176 fun _ _ _ _ _ _ us hl=>match us,hl with | [_],_=>rfl
 have d334:Df K mg "with_parts" pC ["tree","some"]:=bg X G r334 fun _ _ _ _ _ _ us hl=>match us,hl with | [_,_],_=>rfl
 have d233:Df K mg "binding" oz ["tree"]:=bg X G r233 fun _ _ _ _ _ _ us hl=>match us,hl with | [_],_=>rfl
 have d253:Df K mg "places" oM ["tree"]:=bg X G r253 fun _ _ _ _ _ _ us hl=>match us,hl with | [_],_=>rfl
 have d254:Df K mg "add_places" oF ["tree","place","told"]:=bg X G r254 fun _ _ _ _ _ _ us hl=>match us,hl with | [_,_,_],_=>rfl
 have d335:Df K mg "part_at" mB ["tree","place"]:=bg X G r335 fun _ _ _ _ _ _ us hl=>match us,hl with | [_,_],_=>rfl
 have d353:Df K mg "put_at" n5 ["tree","place","other"]:=bg X G r353 fun _ _ _ _ _ _ us hl=>match us,hl with | [_,_,_],_=>rfl
 have d354:Df K mg "replaced" pZ ["tree","place","other"]:=bg X G r354 fun _ _ _ _ _ _ us hl=>match us,hl with | [_,_,_],_=>rfl
 have d171:Df K mg "_law_kind" qJ ["cell","left"]:=bg X G r171 fun _ _ _ _ _ _ us hl=>match us,hl with | [_,_],_=>rfl
 have d220:Df K mg "_law_leaf" pN ["cell"]:=bg X G r220 fun _ _ _ _ _ _ us hl=>match us,hl with | [_],_=>rfl
 have d229:Df K mg "_law_tree" pq ["cells","left"]:=bg X G r229 fun _ _ _ _ _ _ us hl=>match us,hl with | [_,_],_=>rfl
 have d244:Df K mg "_law_start" pY ["tree"]:=bg X G r244 fun _ _ _ _ _ _ us hl=>match us,hl with | [_],_=>rfl
 have d351:Df K mg "_law_all" pf ["tree","place"]:=bg X G r351 fun _ _ _ _ _ _ us hl=>match us,hl with | [_,_],_=>rfl
 have d352:Df K mg "_law_put" pU ["tree","place","other"]:=bg X G r352 fun _ _ _ _ _ _ us hl=>match us,hl with | [_,_,_],_=>rfl
 have d355:Df K mg "_law_refused" oQ ["tree","place","putting"]:=bg X G r355 fun _ _ _ _ _ _ us hl=>match us,hl with | [_,_,_],_=>rfl
 have d341:Df K mg "_law_piece" rK ["piece"]:=bg X G r341 fun _ _ _ _ _ _ us hl=>match us,hl with | [_],_=>rfl
 have T:=Ag X G tx
 obtain ⟨_,q_AHEAD,qk_AHEAD⟩:=q_AHEAD
 obtain ⟨_,q_BINDING,qc_BINDING⟩:=q_BINDING
 have Gm:Glb K w mg:=⟨(let ⟨t,z⟩:=g0; ⟨t,a0S X G z⟩),(wj X G q_AHEAD qk_AHEAD),(tI X G q_BINDING qc_BINDING)⟩
 exact vU X G hfa r0 (fun _ _ _ _ _ _ _ _=>.of_eq rfl) fun f fd F base=>Fun.okM F S0 rfl (by decide) (by decide) (by decide) (fun _ _ _ _ _ _ h=>D0 (xs base) (all d2 d3 d175 d176 d334 d233 d253 d254 d335 d353 d354 d171 d220 d229 d244 d351 d352 d355 d341  T Gm (xs base) 39) T Gm h) fun _=>rfl
end A09

namespace I09
open PySem PySem.Spec PyProof.Rows L2 L3 MR
noncomputable def top (i:Nat):Stmt:=PySem.Challenge.pw_broadrow_k09_places_and_parts.main.body.getD i (.Pass ⟨0,0,0,0⟩)
noncomputable def Bm:Stmt->List Stmt
 | .ClassDef _ _ _ b _ _ _ _ _ _ _=>b
 | _=>[]
noncomputable def ini (i:Nat):Stmt:=(Bm (top i)).getD 0 (.Pass ⟨0,0,0,0⟩)
noncomputable abbrev s_NoPlace:Stmt:=ini 4
theorem nK:ak ["self","place"] ["self","place"] (defScope s_NoPlace):=fsc
theorem ok_NoPlace {P:Program}{w:World}{K:a0a}{mg:Str->Option Value}{base:Heap}{f:Addr}{fd:FuncData}{B C fI:Addr}{up:List Value}{k:Nat}(F:L2.Fun K "__init__" "NoPlace.__init__" s_NoPlace f fd)(hm:mg "BroadError"=some (.ref B))(b:XB K B)(c:XC K C fI up)(tk:a2b K C "place"=some none) :
  bJ P w K mg base CX0 (k+1) f fd ["self","place"] (spI K C "place" 1):=by
 have len:∀ vs H Q E,spI K C "place" 1 vs H Q E->vs.length=["self","place"].length:=fun vs H Q E ⟨a,n,e,_⟩=>by rw [e]; rfl
 refine F.ok nK len fun cdv A outer s H vs Q E hr h=>⟨_,jT (dJ (qC (B:=B) b rfl hm (aH (bB (i:=0) rfl (.inl rfl)) (aH (tq (by decide) hr.gu (a1P (Nat.add_le_add_right (a3i _ _) _) hr.un) (bB (i:=1) rfl (.inl rfl))) bO))) rfl) (lH (tH (bB (i:=0) rfl (.inl rfl)) (bB (i:=1) rfl (.inl rfl)) rfl)),?_⟩
 obtain ⟨a,y,rfl,⟨t,q1,q2,q3,q4,q5⟩,ha,q⟩:=h
 exact ⟨.ref a,rfl,y,rfl,t,q1,q2,q3,q4,q5,fun z=>⟨a,C,none,true,[.str z],fI,up,rfl,(by show 1<=sizeLine; rw [sizeLine_eq]; omega),ha,c,y,rfl,.ref a,rfl,a,C,true,fI,up,rfl,ha,c,tk,q⟩⟩
end I09

set_option maxHeartbeats 0
namespace H09
open PySem PySem.W TP
noncomputable abbrev pr:Program:=PySem.Challenge.pw_broadrow_k09_places_and_parts
noncomputable def tn (i:Nat):Stmt:=pr.main.body.getD i (.Pass p0)
noncomputable def rc:List Rc:=[.m,
.x "BroadError" 206 (.ref 24) (fun P=>[tu [.type "ValueError"],⟨.type "builtin_function_or_method",none,.fields #[.builtin "type.__prepare__",.type "type"],#[]⟩,di [en P "__module__" 196 (.str "broadrow.errors" 187),en P "__qualname__" 198 (.str "BroadError" 197),en P "__firstlineno__" 200 (.int (2) 199),en P "__static_attributes__" 201 (.ref 22)] 4,tu [],fe [],cdo "BroadError" "BroadError" 191 194 2 0 0 18 false .none .none .none,⟨.type "frame",none,.plain,#[some (.ref 20),some (.ref 3),some (.ref 17),none,some (.str "broadrow.errors" 187),none,some (.ref 0)]⟩,tu [],di [en P "__module__" 196 (.str "broadrow.errors" 187),en P "__firstlineno__" 200 (.int (2) 199),en P "__static_attributes__" 201 (.ref 22),en P "__weakref__" 203 (.ref 25),en P "__doc__" 204 .none] 3,⟨.type "type",none,.cls {name:="BroadError",bases:=[.type "ValueError"],mro:=[.ref 24,.type "ValueError",.type "Exception",.type "BaseException",.type "object"],ns:=23,qualname:="BroadError",subclasses:=[.ref 44,.ref 63,.ref 82,.ref 101,.ref 120,.ref 139]},#[some (.ref 15),none,some (.str "BroadError" 189),some (.str "BroadError" 197),some (.builtin "ValueError.__new__"),some (.bool true)]⟩,⟨.type "getset_descriptor",none,.fields #[.str "__weakref__" 202,.ref 24,.builtin "ExceptionGroup.__weakref__",.none],#[]⟩,⟨.type "super",none,.fields #[.ref 24,.ref 24,.ref 24],#[]⟩,⟨.type "builtin_function_or_method",none,.fields #[.builtin "object.__init_subclass__",.ref 24],#[]⟩]) [iv 2,iv 0,.ref 20] 28 207,
.x "NoText" 231 (.ref 44) (fun P=>[tu [.ref 24],⟨.type "builtin_function_or_method",none,.fields #[.builtin "type.__prepare__",.type "type"],#[]⟩,di [en P "__module__" 214 (.str "broadrow.errors" 187),en P "__qualname__" 216 (.str "NoText" 215),en P "__firstlineno__" 218 (.int (4) 217),en P "__init__" 226 (.ref 41),en P "__static_attributes__" 228 (.ref 42)] 5,tu [],fe [iv 6,iv 4,.ref 40],cdo "NoText" "NoText" 209 212 4 0 0 31 false .none .none .none,⟨.type "frame",none,.plain,#[some (.ref 33),some (.ref 3),some (.ref 30),none,some (.str "broadrow.errors" 187),none,some (.ref 0)]⟩,tu [],fe [],tu [.str "self" 222,.str "at" 223],tu [],ofn .none (cb (tn 2) 0) "NoText.__init__" 0 .none .none .none,cdo "__init__" "NoText.__init__" 219 224 6 2 3 35 true (.ref 37) (.ref 38) (.ref 39),ofn (.type "function") (cb (tn 2) 0) "NoText.__init__" 3 .none (.str "broadrow.errors" 187) (.ref 40),tu [.str "at" 227],di [en P "__module__" 214 (.str "broadrow.errors" 187),en P "__firstlineno__" 218 (.int (4) 217),en P "__init__" 226 (.ref 41),en P "__static_attributes__" 228 (.ref 42),en P "__doc__" 229 .none] 2,⟨.type "type",none,.cls {name:="NoText",bases:=[.ref 24],mro:=[.ref 44,.ref 24,.type "ValueError",.type "Exception",.type "BaseException",.type "object"],ns:=43,qualname:="NoText"},#[some (.ref 28),none,some (.str "NoText" 207),some (.str "NoText" 215),some (.builtin "ValueError.__new__"),some (.bool true)]⟩,⟨.type "super",none,.fields #[.ref 44,.ref 44,.ref 44],#[]⟩,⟨.type "builtin_function_or_method",none,.fields #[.builtin "object.__init_subclass__",.ref 44],#[]⟩]) [iv 4,iv 0,.ref 33] 47 232,
.x "NoKind" 256 (.ref 63) (fun P=>[tu [.ref 24],⟨.type "builtin_function_or_method",none,.fields #[.builtin "type.__prepare__",.type "type"],#[]⟩,di [en P "__module__" 239 (.str "broadrow.errors" 187),en P "__qualname__" 241 (.str "NoKind" 240),en P "__firstlineno__" 243 (.int (9) 242),en P "__init__" 251 (.ref 60),en P "__static_attributes__" 253 (.ref 61)] 5,tu [],fe [iv 11,iv 4,.ref 59],cdo "NoKind" "NoKind" 234 237 9 0 0 50 false .none .none .none,⟨.type "frame",none,.plain,#[some (.ref 52),some (.ref 3),some (.ref 49),none,some (.str "broadrow.errors" 187),none,some (.ref 0)]⟩,tu [],fe [],tu [.str "self" 247,.str "place" 248],tu [],ofn .none (cb (tn 3) 0) "NoKind.__init__" 0 .none .none .none,cdo "__init__" "NoKind.__init__" 244 249 11 2 3 54 true (.ref 56) (.ref 57) (.ref 58),ofn (.type "function") (cb (tn 3) 0) "NoKind.__init__" 3 .none (.str "broadrow.errors" 187) (.ref 59),tu [.str "place" 252],di [en P "__module__" 239 (.str "broadrow.errors" 187),en P "__firstlineno__" 243 (.int (9) 242),en P "__init__" 251 (.ref 60),en P "__static_attributes__" 253 (.ref 61),en P "__doc__" 254 .none] 2,⟨.type "type",none,.cls {name:="NoKind",bases:=[.ref 24],mro:=[.ref 63,.ref 24,.type "ValueError",.type "Exception",.type "BaseException",.type "object"],ns:=62,qualname:="NoKind"},#[some (.ref 47),none,some (.str "NoKind" 232),some (.str "NoKind" 240),some (.builtin "ValueError.__new__"),some (.bool true)]⟩,⟨.type "super",none,.fields #[.ref 63,.ref 63,.ref 63],#[]⟩,⟨.type "builtin_function_or_method",none,.fields #[.builtin "object.__init_subclass__",.ref 63],#[]⟩]) [iv 9,iv 0,.ref 52] 66 257,
.x "NoPlace" 281 (.ref 82) (fun P=>[tu [.ref 24],⟨.type "builtin_function_or_method",none,.fields #[.builtin "type.__prepare__",.type "type"],#[]⟩,di [en P "__module__" 264 (.str "broadrow.errors" 187),en P "__qualname__" 266 (.str "NoPlace" 265),en P "__firstlineno__" 268 (.int (14) 267),en P "__init__" 276 (.ref 79),en P "__static_attributes__" 278 (.ref 80)] 5,tu [],fe [iv 16,iv 4,.ref 78],cdo "NoPlace" "NoPlace" 259 262 14 0 0 69 false .none .none .none,⟨.type "frame",none,.plain,#[some (.ref 71),some (.ref 3),some (.ref 68),none,some (.str "broadrow.errors" 187),none,some (.ref 0)]⟩,tu [],fe [],tu [.str "self" 272,.str "place" 273],tu [],ofn .none (cb (tn 4) 0) "NoPlace.__init__" 0 .none .none .none,cdo "__init__" "NoPlace.__init__" 269 274 16 2 3 73 true (.ref 75) (.ref 76) (.ref 77),ofn (.type "function") (cb (tn 4) 0) "NoPlace.__init__" 3 .none (.str "broadrow.errors" 187) (.ref 78),tu [.str "place" 277],di [en P "__module__" 264 (.str "broadrow.errors" 187),en P "__firstlineno__" 268 (.int (14) 267),en P "__init__" 276 (.ref 79),en P "__static_attributes__" 278 (.ref 80),en P "__doc__" 279 .none] 2,⟨.type "type",none,.cls {name:="NoPlace",bases:=[.ref 24],mro:=[.ref 82,.ref 24,.type "ValueError",.type "Exception",.type "BaseException",.type "object"],ns:=81,qualname:="NoPlace"},#[some (.ref 66),none,some (.str "NoPlace" 257),some (.str "NoPlace" 265),some (.builtin "ValueError.__new__"),some (.bool true)]⟩,⟨.type "super",none,.fields #[.ref 82,.ref 82,.ref 82],#[]⟩,⟨.type "builtin_function_or_method",none,.fields #[.builtin "object.__init_subclass__",.ref 82],#[]⟩]) [iv 14,iv 0,.ref 71] 85 282,
.x "NoThing" 306 (.ref 101) (fun P=>[tu [.ref 24],⟨.type "builtin_function_or_method",none,.fields #[.builtin "type.__prepare__",.type "type"],#[]⟩,di [en P "__module__" 289 (.str "broadrow.errors" 187),en P "__qualname__" 291 (.str "NoThing" 290),en P "__firstlineno__" 293 (.int (19) 292),en P "__init__" 301 (.ref 98),en P "__static_attributes__" 303 (.ref 99)] 5,tu [],fe [iv 21,iv 4,.ref 97],cdo "NoThing" "NoThing" 284 287 19 0 0 88 false .none .none .none,⟨.type "frame",none,.plain,#[some (.ref 90),some (.ref 3),some (.ref 87),none,some (.str "broadrow.errors" 187),none,some (.ref 0)]⟩,tu [],fe [],tu [.str "self" 297,.str "number" 298],tu [],ofn .none (cb (tn 5) 0) "NoThing.__init__" 0 .none .none .none,cdo "__init__" "NoThing.__init__" 294 299 21 2 3 92 true (.ref 94) (.ref 95) (.ref 96),ofn (.type "function") (cb (tn 5) 0) "NoThing.__init__" 3 .none (.str "broadrow.errors" 187) (.ref 97),tu [.str "number" 302],di [en P "__module__" 289 (.str "broadrow.errors" 187),en P "__firstlineno__" 293 (.int (19) 292),en P "__init__" 301 (.ref 98),en P "__static_attributes__" 303 (.ref 99),en P "__doc__" 304 .none] 2,⟨.type "type",none,.cls {name:="NoThing",bases:=[.ref 24],mro:=[.ref 101,.ref 24,.type "ValueError",.type "Exception",.type "BaseException",.type "object"],ns:=100,qualname:="NoThing"},#[some (.ref 85),none,some (.str "NoThing" 282),some (.str "NoThing" 290),some (.builtin "ValueError.__new__"),some (.bool true)]⟩,⟨.type "super",none,.fields #[.ref 101,.ref 101,.ref 101],#[]⟩,⟨.type "builtin_function_or_method",none,.fields #[.builtin "object.__init_subclass__",.ref 101],#[]⟩]) [iv 19,iv 0,.ref 90] 104 307,
.x "NoRule" 331 (.ref 120) (fun P=>[tu [.ref 24],⟨.type "builtin_function_or_method",none,.fields #[.builtin "type.__prepare__",.type "type"],#[]⟩,di [en P "__module__" 314 (.str "broadrow.errors" 187),en P "__qualname__" 316 (.str "NoRule" 315),en P "__firstlineno__" 318 (.int (24) 317),en P "__init__" 326 (.ref 117),en P "__static_attributes__" 328 (.ref 118)] 5,tu [],fe [iv 26,iv 4,.ref 116],cdo "NoRule" "NoRule" 309 312 24 0 0 107 false .none .none .none,⟨.type "frame",none,.plain,#[some (.ref 109),some (.ref 3),some (.ref 106),none,some (.str "broadrow.errors" 187),none,some (.ref 0)]⟩,tu [],fe [],tu [.str "self" 322,.str "text" 323],tu [],ofn .none (cb (tn 6) 0) "NoRule.__init__" 0 .none .none .none,cdo "__init__" "NoRule.__init__" 319 324 26 2 3 111 true (.ref 113) (.ref 114) (.ref 115),ofn (.type "function") (cb (tn 6) 0) "NoRule.__init__" 3 .none (.str "broadrow.errors" 187) (.ref 116),tu [.str "text" 327],di [en P "__module__" 314 (.str "broadrow.errors" 187),en P "__firstlineno__" 318 (.int (24) 317),en P "__init__" 326 (.ref 117),en P "__static_attributes__" 328 (.ref 118),en P "__doc__" 329 .none] 2,⟨.type "type",none,.cls {name:="NoRule",bases:=[.ref 24],mro:=[.ref 120,.ref 24,.type "ValueError",.type "Exception",.type "BaseException",.type "object"],ns:=119,qualname:="NoRule"},#[some (.ref 104),none,some (.str "NoRule" 307),some (.str "NoRule" 315),some (.builtin "ValueError.__new__"),some (.bool true)]⟩,⟨.type "super",none,.fields #[.ref 120,.ref 120,.ref 120],#[]⟩,⟨.type "builtin_function_or_method",none,.fields #[.builtin "object.__init_subclass__",.ref 120],#[]⟩]) [iv 24,iv 0,.ref 109] 123 332,
.x "NoLine" 356 (.ref 139) (fun P=>[tu [.ref 24],⟨.type "builtin_function_or_method",none,.fields #[.builtin "type.__prepare__",.type "type"],#[]⟩,di [en P "__module__" 339 (.str "broadrow.errors" 187),en P "__qualname__" 341 (.str "NoLine" 340),en P "__firstlineno__" 343 (.int (29) 342),en P "__init__" 351 (.ref 136),en P "__static_attributes__" 353 (.ref 137)] 5,tu [],fe [iv 31,iv 4,.ref 135],cdo "NoLine" "NoLine" 334 337 29 0 0 126 false .none .none .none,⟨.type "frame",none,.plain,#[some (.ref 128),some (.ref 3),some (.ref 125),none,some (.str "broadrow.errors" 187),none,some (.ref 0)]⟩,tu [],fe [],tu [.str "self" 347,.str "text" 348],tu [],ofn .none (cb (tn 7) 0) "NoLine.__init__" 0 .none .none .none,cdo "__init__" "NoLine.__init__" 344 349 31 2 3 130 true (.ref 132) (.ref 133) (.ref 134),ofn (.type "function") (cb (tn 7) 0) "NoLine.__init__" 3 .none (.str "broadrow.errors" 187) (.ref 135),tu [.str "text" 352],di [en P "__module__" 339 (.str "broadrow.errors" 187),en P "__firstlineno__" 343 (.int (29) 342),en P "__init__" 351 (.ref 136),en P "__static_attributes__" 353 (.ref 137),en P "__doc__" 354 .none] 2,⟨.type "type",none,.cls {name:="NoLine",bases:=[.ref 24],mro:=[.ref 139,.ref 24,.type "ValueError",.type "Exception",.type "BaseException",.type "object"],ns:=138,qualname:="NoLine"},#[some (.ref 123),none,some (.str "NoLine" 332),some (.str "NoLine" 340),some (.builtin "ValueError.__new__"),some (.bool true)]⟩,⟨.type "super",none,.fields #[.ref 139,.ref 139,.ref 139],#[]⟩,⟨.type "builtin_function_or_method",none,.fields #[.builtin "object.__init_subclass__",.ref 139],#[]⟩]) [iv 29,iv 0,.ref 128] 142 357,
.m,
.c,
.c,
.d,
.d,
.d,
.d,
.m,
.x "AHEAD" 412 (.ref 168) (fun P=>[di [en P "num" 394 (.str "number" 395),en P "name" 396 (.str "name" 397),en P "none" 398 (.str "kind" 399),en P "let" 400 (.str "name" 401),en P "each" 402 (.str "name" 403),en P "times" 404 (.str "name" 405)] 6]) [] 169 413,
.x "BINDING" 422 (.ref 169) (fun P=>[di [en P "let" 413 (.int (1) 414),en P "each" 415 (.int (1) 416),en P "times" 417 (.int (2) 418)] 3]) [] 170 423,
.d,
.d,
.d,
.d,
.d,
.d,
.d,
.d,
.d,
.m,
.d,
.d,
.d,
.d,
.d,
.d,
.d,
.d,
.d]
theorem c0 (w:World):Cut pr rc 0 15 187 p0 1 10 15 189 ⟨1,0,1,8⟩ w:=fun o=>by kernel_rfl
theorem c1 (w:World):Cut pr rc 1 15 189 ⟨1,0,1,8⟩ 7 1657 142 357 ⟨29,0,33,24⟩ w:=fun o=>by kernel_rfl
theorem c8 (w:World):Cut pr rc 8 142 357 ⟨29,0,33,24⟩ 8 152 168 394 ⟨57,0,57,8⟩ w:=fun o=>by kernel_rfl
theorem c16 (w:World):Cut pr rc 16 168 394 ⟨57,0,57,8⟩ 1 101 169 413 ⟨58,0,58,5⟩ w:=byRow2 (P:=Cut pr rc 16 168 394 ⟨57,0,57,8⟩ 1 101 169 413 ⟨58,0,58,5⟩) "special-get-raises" (fun w o=>by kernel_rfl) (fun w o=>by kernel_rfl) w
theorem c17 (w:World):Cut pr rc 17 169 413 ⟨58,0,58,5⟩ 1 56 170 423 ⟨59,0,59,7⟩ w:=byRow2 (P:=Cut pr rc 17 169 413 ⟨58,0,58,5⟩ 1 56 170 423 ⟨59,0,59,7⟩) "special-get-raises" (fun w o=>by kernel_rfl) (fun w o=>by kernel_rfl) w
theorem c18 (w:World):Cut pr rc 18 170 423 ⟨59,0,59,7⟩ 19 565 292 588 ⟨156,0,181,15⟩ w:=fun o=>by kernel_rfl
theorem ch:Ch pr rc 37 292 588 0 15 187 p0 (10+(1657+(152+(101+(56+(565+(2))))))):=cQ c0 ( cQ c1 ( cQ c8 ( cQ c16 ( cQ c17 ( cQ c18 (yy (by kernel_rfl)))))))
noncomputable def q:Program:=view pr [36]
noncomputable def lo:List Str:=(["BroadError","NoText","NoKind","NoPlace","NoThing","NoRule","NoLine","GREATEST","LONGEST","is_worth","is_number","is_pair","is_row","AHEAD","BINDING","parts_start","parts","with_parts","binding","places","add_places","part_at","put_at","replaced","_law_kind","_law_leaf","_law_tree","_law_start","_law_all","_law_put","_law_refused","_law_piece"]:List String).map Str.ofString
noncomputable def as:List Addr:=[3,24,44,63,82,101,120,139,147,148,154,155,161,162,166,167,168,169,175,176,182,183,189,190,196,197,203,204,210,211,217,218,224,225,231,232,238,239,245,246,252,253,259,260,266,267,273,274,280,281,285,286,290,291,2,23,43,41,40,62,60,59,81,79,78,100,98,97,119,117,116,138,136,135]
noncomputable def K:Params->Frag:=kK pr rc 37 as
noncomputable def hk:Hook:=hkk pr rc 37 292
noncomputable abbrev Xt (s:Shared):Bool:=xlAt q [] s&&recOk (RowW.records (OpenRow.toRowW (OpenLaw.row PySem.Challenge.rw_broadrow_k09_places_and_parts))) s
theorem kin (w:World)(h:Heap)(Y:hk.says w h):(K w.params).In h:=Em (by kernel_rfl) (by kernel_rfl) Y
theorem lk (w:World):(fun o=>((staticsOk (importedModules pr.main.body) (boot_heap w.params) (hp pr rc 37 292 w.params)&&namesBound pr (hp pr rc 37 292 w.params)&&gensDone ⟨hp pr rc 37 292 w.params,#[],{},588,o⟩&&laidKept (boot_heap w.params) (hp pr rc 37 292 w.params)),openSeen q lo (importedModules pr.main.body) Xt true ⟨hp pr rc 37 292 w.params,#[],{},588,o⟩,Hook.obs hk ⟨hp pr rc 37 292 w.params,#[],{},588,o⟩))=fun _=>(true,openGood q lo,Hook.val hk w):=by kernel_rfl
theorem e1:opening pr=plainProg pr.main.scope.names:=by kernel_rfl
theorem e2:behindTheImports pr=pr.main.body:=by kernel_rfl
theorem e3 (s:Shared):fenceModules? pr s=some s:=by kernel_rfl
theorem pre (w:World)(o:OsState):topGo treeTable pr w 11 an 12 ⟨boot_heap w.params,a3D [],boot_drawn,boot_toks,o⟩ (topStub pr)=some ((sT pr rc w.params 0 15 187 o).abs,⟨denote treeTable (cE pr),cE pr,p0,B0⟩):=by kernel_rfl
theorem blk (w:World)(o:OsState):segRun treeTable pr w 11 an 1 1 (sT pr rc w.params 0 15 187 o).abs (blockOf (behindTheImports pr) (ev pr) (cE pr) p0 B0)=some (.next,(sT pr rc w.params 0 15 187 o).abs,cE pr,p0):=by kernel_rfl
theorem left:LeftO pr q lo Xt (Hook.obs hk) (Hook.val hk) 5196:=vS e1 (by kernel_rfl) e3 e2 vX pre blk ch (by kernel_rfl) lk
end H09

namespace A09
open PySem PySem.Spec PyProof.Rows L2 L3 MR
noncomputable abbrev KK (w:World):a0a:=H09.K w.params
noncomputable abbrev UB:List Value:=.ref 24::VE
theorem x44 (w:World):XC (KK w) 44 41 UB:=gN (by kernel_rfl)
theorem x63 (w:World):XC (KK w) 63 60 UB:=gN (by kernel_rfl)
theorem x82 (w:World):XC (KK w) 82 79 UB:=gN (by kernel_rfl)
theorem EJ (w:World):XC (KK w) 101 98 UB:=gN (by kernel_rfl)
theorem Fx (w:World):XC (KK w) 120 117 UB:=gN (by kernel_rfl)
theorem En (w:World):XC (KK w) 139 136 UB:=gN (by kernel_rfl)
theorem xb (w:World):XB (KK w) 24:=⟨by kernel_rfl,by kernel_rfl,by kernel_rfl⟩
theorem FC (w:World):XF (KK w) 82:=Cm (x82 w) (by rfl) (by kernel_rfl)
theorem FV (w:World):∃ fd,L2.Fun (KK w) "__init__" "NoPlace.__init__" I09.s_NoPlace 79 fd/\Binds (KK w) fd ["self","place"] []:=by
 refine ⟨a09 "__init__" "NoPlace.__init__" (defArgs I09.s_NoPlace) (defBody I09.s_NoPlace) (defScope I09.s_NoPlace) .none .none .none (TP.pmO ((KK w).lookup 79)) none (.ref 78) .none,?_⟩
 have F:L2.Fun (KK w) "__init__" "NoPlace.__init__" I09.s_NoPlace 79 (a09 "__init__" "NoPlace.__init__" (defArgs I09.s_NoPlace) (defBody I09.s_NoPlace) (defScope I09.s_NoPlace) .none .none .none (TP.pmO ((KK w).lookup 79)) none (.ref 78) .none):=⟨⟨.type "function",none,_,_,_,_,_,_,#[],rfl,by kernel_rfl,by kernel_rfl⟩,by kernel_rfl⟩
 exact ⟨F,F.binds fun _ _ _ _ _ _ us hl=>match us,hl with | [_,_],_=>rfl⟩
theorem fnm (w:World)(f:Str)(e:tj (KK w) (fun c=>a0x (KK w) (.ref c) f==some none)=true)(c:Nat)(x:XF (KK w) c):a0x (KK w) (.ref c) f=some none:=beq_iff_eq.mp (kb (p:=fun c=>a0x (KK w) (.ref c) f==some none) e x)
theorem one (w:World)(cv:Value)(cs:List Nat)(e:tj (KK w) (fun c=>a0C (KK w) (.ref c) cv==some (cs.contains c))=true)(c:Nat)(x:XF (KK w) c):a0C (KK w) (.ref c) cv=some (cs.contains c):=beq_iff_eq.mp (kb (p:=fun c=>a0C (KK w) (.ref c) cv==some (cs.contains c)) e x)
theorem any (w:World)(Cs cs:List Nat)(e:tj (KK w) (fun c=>a1x (KK w) (.ref c) (Cs.map Value.ref)==some (cs.contains c))=true)(c:Nat)(x:XF (KK w) c):a1x (KK w) (.ref c) (Cs.map Value.ref)=some (cs.contains c):=beq_iff_eq.mp (kb (p:=fun c=>a1x (KK w) (.ref c) (Cs.map Value.ref)==some (cs.contains c)) e x)
theorem xs_mk {P:Program}{w:World}{h:Heap}{mg:Str->Option Value}(X:(KK w).In h)(G:h.Ns mainGlobals mg)(base:Heap):Xs P w (KK w) mg base:=by
 have nB:mg "BroadError"=some (.ref 24):=a0S X G (by kernel_rfl)
 refine ⟨⟨nB,⟨VE,rfl,fun h X=>⟨_,_,(ky (K:=KK w) (C:=24) (up:=VE) (by kernel_rfl) h X).1⟩⟩,?_⟩,fnm w _ (by kernel_rfl),⟨.inl (a0S X G (by kernel_rfl)),one w _ _ (by kernel_rfl),by kernel_rfl⟩,⟨.inl (a0S X G (by kernel_rfl)),one w _ _ (by kernel_rfl),by kernel_rfl⟩,⟨.inl (a0S X G (by kernel_rfl)),one w _ _ (by kernel_rfl),by kernel_rfl⟩,⟨.inl (a0S X G (by kernel_rfl)),one w _ _ (by kernel_rfl),by kernel_rfl⟩,⟨.inl (a0S X G (by kernel_rfl)),one w _ _ (by kernel_rfl),by kernel_rfl⟩,⟨.inl (a0S X G (by kernel_rfl)),one w _ _ (by kernel_rfl),by kernel_rfl⟩,⟨.inr ⟨iU X G (by kernel_rfl),PyProof.Rows.Boot.«ValueError»⟩,one w _ _ (by kernel_rfl),by kernel_rfl⟩,iU X G (by kernel_rfl),?_,⟨any w _ _ (by kernel_rfl),by kernel_rfl⟩⟩
 ·intro c hc
  simp only [a0m,a1f,or_false] at hc
  rcases hc with rfl | rfl | rfl | rfl | rfl | rfl
  ·exact ⟨_,_,x44 w,by decide +kernel⟩
  ·exact ⟨_,_,x63 w,by decide +kernel⟩
  ·exact ⟨_,_,x82 w,by decide +kernel⟩
  ·exact ⟨_,_,EJ w,by decide +kernel⟩
  ·exact ⟨_,_,Fx w,by decide +kernel⟩
  ·exact ⟨_,_,En w,by decide +kernel⟩
 ·obtain ⟨fd,F,b⟩:=FV w
  exact ⟨⟨79,UB,fd,["self","place"],x82 w,rfl,by decide +kernel,b,fun k=>I09.ok_NoPlace F nB (xb w) (x82 w) (by kernel_rfl)⟩,FC w,a0S X G (by kernel_rfl)⟩
end A09

set_option maxHeartbeats 4000000
open PySem PySem.W PyProof.Rows
set_option maxRecDepth 100000 in
set_option maxHeartbeats 0 in
theorem PySem.Challenge.cw_broadrow_k09_places_and_parts_holds : PySem.Challenge.rw_broadrow_k09_places_and_parts.Holds := by
 w_on; o_law
 refine holds_open (q:=H09.q) (loose:=H09.lo) (Xt:=H09.Xt) (XP:=XL H09.q []) (Yf:=Hook.obs H09.hk) (Ya:=Hook.val H09.hk) (YP:=Hook.says H09.hk) (N:=5196) (d:=TP.drec (H09.tn 36)) (kwd:=[]) H09.left (Hook.of H09.hk) (Hook.keeps H09.hk) (fun s e=>xl_of s (a0D.mp e).1) XL.keeps (by kernel_rfl) (by kernel_rfl) (by kernel_rfl) (fun s e=>recFacts_of (a0D.mp e).2) (by rfl) (by first | assumption | decide +kernel) (by decide +kernel) ⟨rfl,rfl,rfl,rfl,rfl,by decide +kernel⟩ ?hw ?hc
 case hw=>w_witness2
 refine MR.walkX (sx:="script") (l:=PySem.Challenge.rw_broadrow_k09_places_and_parts) (k:=42) (C:=A09.Cl 40) (ix:=0) (K:=H09.K) A09.pure_law rfl (by kernel_rfl) ⟨rfl,by decide,by decide,rfl⟩ H09.kin ?F
 case F =>
  intro w mg fa h KX G hmg
  refine' A09.all_mk KX G hmg ?zr2 ?zr3 ?zr175 ?zr176 ?zr334 ?zr233 ?zr253 ?zr254 ?zr335 ?zr353 ?zr354 ?zr171 ?zr220 ?zr229 ?zr244 ?zr351 ?zr352 ?zr355 ?zr341 ?zr0 ?zg0 ?zq_AHEAD ?zq_BINDING ?ztx ?zxs
  case zg0=>exact ⟨TP.tkO (nsIn (H09.K w.params) mainGlobals "GREATEST"),by kernel_rfl⟩
  case zq_AHEAD=>exact ⟨_,TP.tab_mk (by kernel_rfl) (by kernel_rfl) (by kernel_rfl) (by kernel_rfl),by kernel_rfl⟩
  case zq_BINDING=>exact ⟨_,TP.tab_mk (by kernel_rfl) (by kernel_rfl) (by kernel_rfl) (by kernel_rfl),TP.cst_of (n:=9) (by kernel_rfl)⟩
  case zxs=>exact fun base=>A09.xs_mk KX G base
  case ztx=>refine' ⟨?_,?_,?_,?_,?_,?_,?_,?_,?_,?_,?_,?_,?_,?_,?_,?_,?_,?_,?_,?_,?_,trivial⟩<;>kernel_rfl
  all_goals exact TP.raw_mk (by kernel_rfl) (by kernel_rfl) (by kernel_rfl) (by kernel_rfl)
