import PyProof.Rows.All
import Wide.All
import OpenK.AllK
import Wide.FinOn
import Lean
import PyProof.EqAt
import PyProof.EqKinds
import PyProof.TupleCall
import PyProof.ExcInit
import PyProof.ExcClass3
import PyProof.ExcBaseAll.ValueError
import PyProof.StationsW
import PyProof.FString
import PyProof.Rows.FStr
import PyProof.NsDelKeeps
import PyProof.RulesAs
import PyProof.ExcArgs
import PySem.Str
import PySem.Builtin.Str.Common
import PyProof.ReprReads
import PyProof.Rows.Range3
import PySem.Challenge.RW_broadrow_k34_taken_by_numbers
open PySem.W renaming Frag → a0a, kitOne → a0y, findIn → a0D, kia_one → a0P, fnOf → a0X, kia_tup → a01, keepIn → a1b, hasDictIn → a1g, mg_of → a1i, InstAt → a1u, specialIn → a1x, any_some → a1G, nsIn → a1I, kitx_list → a1J, clsIn → a1L, codeIn → a1P, kitAny → a1Q, takesIn → a10, mroIn → a11, kitx_tuple → a12, emptyDict → a19, takerIn → a2l, callWith_K → a2s, methodObj → a2D, kitx_none → a2E, kitx_bool → a2F, kitx_int → a2N, kitx_str → a2O, cellsFrom_some → a2U, instObj → a2Z, OpenLaw → a22, looks_findIn → a3a, lookIn → a3c, notCls → a3e, looks_clsIn → a3h, subIn → a3l, Looks → a3n, check_slot → a3o, looks_find → a3p, isNs_of_in → a3r, kitx_dict → a3v, handedIn → a3y, plainGet → a3z, findObj → a3J, WalkO → a3S
open List renaming length_map → a0b, mem_cons_of_mem → a0c, length_append → a0e, length_cons → a0g, replicate → a0h, getElem?_eq_getElem → a0i, getD_eq_getElem?_getD → a0j, mem_cons_self → a0k, size_toArray → a0l, mem_append_right → a0m, mem_cons → a0n, range → a0q, getElem?_eq_some_iff → a0s, getElem?_map → a0t, mem_append_left → a0v, append_nil → a0z, map_cons → a0A, mem_singleton → a0C, not_mem_nil → a0E, getElem?_cons_succ → a0G, length_singleton → a0H, all_eq_true → a0I, filterMap_cons → a0L, getElem?_append_left → a0M, getElem?_append_right → a0R, mem_append → a0T, append_assoc → a0V, length_range → a0W, map_map → a0Y, length_replicate → a00, length_take → a02, mem_of_getElem? → a03, replicate_succ → a07, mem_map → a08, getElem?_eq_none → a09, getElem?_set_ne → a1d, length_drop → a1e, take_of_length_le → a1f, contains_cons → a1k, any_cons → a1m, nodup_cons → a1n, nil_append → a1o, getElem?_set_self → a1q, mem_filterMap → a1r, take_append_drop → a1s, any_nil → a1t, drop_eq_getElem_cons → a1v, map_append → a1z, map_nil → a1B, flatMap_append → a1D, getLast?_singleton → a1E, length_set → a1H, flatMap_cons → a1M, getLast?_append → a1O, getElem?_range → a1U, getElem?_replicate → a13, getElem?_cons_zero → a14, length_eq_zero_iff → a16, flatten_cons → a18, mem_range → a2a, nodup_nil → a2b, lookup_cons → a2e, sum_append → a2i, forIn_cons → a2j, take → a2o, drop → a2p, pairwise_cons → a2u, set_cons_zero → a2x, set_cons_succ → a2y, forIn_nil → a2z, nodup_append → a2I, length → a2J, lookup → a2L, getElem_mem → a2P, drop_length → a2S, cons_append → a2T, drop_of_length_le → a2Y, of_mem_zip → a20, length_nil → a25, mem_of_mem_drop → a3b, drop_drop → a3f, length_pos_iff → a3i, map_congr_left → a3j, forIn_toArray → a3m, map_take → a3q, filterMap_nil → a3s, ext_getElem? → a3w, contains_nil → a3x, take_length → a3C, zipIdx_cons → a3D, mem_flatMap → a3E, mem_filter → a3F, zipIdx_nil → a3G, drop_zero → a3O, take_left → a3P, foldl → a3Q, take_nil → a3T, drop_nil → a3U, map_drop → a3W, sum_cons → a3X, map → a3Z
open Nat renaming le_refl → a0d, lt_of_lt_of_le → a0f, le_trans → a0o, ne_of_lt → a0u, lt_irrefl → a0N, zero_le → a0O, le_add_right → a0U, ne_of_gt → a04, lt_of_le_of_lt → a1j, le_of_lt → a1A, mul_le_mul_right → a1N, succ_le_succ → a1S, succ_mul → a1W, add_sub_cancel_left → a15, min_eq_right → a2f, add_le_add_left → a2k, mul_le_mul → a2C, not_le_of_lt → a2Q, le_of_succ_le_succ → a2W, add_comm → a21, zero_add → a23, lt_trans → a24, le_of_ble_eq_true → a26, min_eq_left → a27, le_of_not_lt → a3B, le_succ → a3H, reduceBEq → a30, mul_comm → a34, le_of_eq → a35
open Bool renaming and_eq_true → a0p, false_ne_true → a0r, or_true → a0K, or_false → a06, true_or → a2d, and_eq_true_iff → a2g, false_eq_true → a2t, and_false → a3d, or_eq_true → a3K, false_and → a3M, false_or → a31
open Option.some renaming inj → a0w, injEq → a2H
open True renaming intro → a0x
open Or renaming inr → a0B, inl → a0F
open PyProof.Rows renaming boot_list → a0J, slot_tuple_getitem → a0Q, boot_isinstance → a1a, callWith_type1 → a1c, boot_tuple → a1F, callWith_builtin1 → a2c, boot_range → a2M, boot_bool → a2X, eq_dataH → a36, ne_dataH → a37
open Array renaming getElem?_eq_some_iff → a0S, getElem?_setIfInBounds_ne → a1y, length_toList → a1T, size_setIfInBounds → a1X, getElem?_eq_none_iff → a2q, all_eq_true' → a2v, getElem?_eq_getElem → a2A, toArray_toList → a29, find?_toList → a3k, mk → a3Y, toList → a33
open PySem.W.Looks renaming here → a0Z
open False renaming elim → a05
open PySem renaming mem_of_lookup → a1h, handedOut → a3I, reprText → a3N, call → a3R, Within → a32, PyData → a38
open PySem.Builtin.Str renaming occurrences → a1l
open Function renaming comp_apply → a1p
open Ne renaming symm → a1w
open PySem.F renaming plainAttrs_list → a1C, plain_extend_loop → a1R, slot_list_append → a1Y, type_list_append → a1Z, excBase_ValueError → a2r, args_tuple_add_2 → a2G, entry_tuple_add → a2K, slot_tuple_add → a2V
open Int renaming toNat_natCast → a1K, emod_lt_of_pos → a17, emod_nonneg → a2m, toNat_of_nonneg → a2n
open Option renaming isSome_iff_exists → a1V, toList_none → a2w, some_or → a2B, bind_some → a2R, getD_none → a3A, map_some → a3L
open Prod renaming snd → a2h, fst → a3V
open And renaming left → a28
open Prod.mk renaming inj → a3g
open Sum renaming inl → a3t, inr → a3u
open Classical renaming em → a39
open List.Pairwise renaming nil → a4a
open PySem.Within renaming cons → a4b
set_option genSizeOf false
set_option genInjectivity false
set_option Elab.async false
set_option linter.all false
set_option maxRecDepth 100000
namespace L2
open PySem PySem.Spec PyProof.Rows
noncomputable abbrev Key:=Sum Int Str
noncomputable def wj:Key->Value->Bool
 | .inl k,v=>Value.isInt k v
 | .inr x,v=>Value.isStrOf x v
noncomputable def DY (w:World):Key->Int
 | .inl k=>hashInt k
 | .inr x=>hashStr w x
theorem aN:∀ {k:Key} {v:Value},wj k v=true->(∃ i t,k=a3t i/\v=Value.int i t)\/(∃ x t,k=a3u x/\v=Value.str x t)
 | .inl i,v,h=>by
  obtain ⟨t,e⟩:=Value.isInt_shape (k:=i) (v:=v) h
  exact .inl ⟨i,t,rfl,e⟩
 | .inr x,v,h=>by
  obtain ⟨t,e⟩:=Value.isStrOf_shape (x:=x) (v:=v) h
  exact .inr ⟨x,t,rfl,e⟩
theorem yx (a b:Int):decide ((a3t a:Key)=a3t b)=(a==b):=by
 by_cases e:a=b
 ·subst e; simp
 ·have h:¬ (a3t a:Key)=a3t b:=fun q=>e (Sum.inl.inj q)
  rw [decide_eq_false h]
  exact (beq_eq_false_iff_ne.mpr e).symm
theorem xH (a b:Str):decide ((a3u a:Key)=a3u b)=decide (a=b):=by
 by_cases e:a=b
 ·subst e; simp
 ·have h:¬ (a3u a:Key)=a3u b:=fun q=>e (Sum.inr.inj q)
  rw [decide_eq_false h,decide_eq_false e]
theorem xB (a:Int)(b:Str):decide ((a3t a:Key)=a3u b)=false:=decide_eq_false (fun q=>nomatch q)
theorem AU (a:Str)(b:Int):decide ((a3u a:Key)=a3t b)=false:=decide_eq_false (fun q=>nomatch q)
noncomputable def iH (prog:Program)(w:World):PySem.KeyKind prog w Key where
 is:=wj
 hash:=DY w
 inj:=fun v a b ha hb=>by
  rcases aN ha with ⟨i,t,rfl,rfl⟩ | ⟨x,t,rfl,rfl⟩
  ·rcases aN hb with ⟨j,u,rfl,e⟩ | ⟨y,u,rfl,e⟩
   ·injection e with e1 _; rw [e1]
   ·exact nomatch e
  ·rcases aN hb with ⟨j,u,rfl,e⟩ | ⟨y,u,rfl,e⟩
   ·exact nomatch e
   ·injection e with e1 _; rw [e1]
 byValue:=fun k v h=>by
  rcases aN h with ⟨i,t,rfl,rfl⟩ | ⟨x,t,rfl,rfl⟩<;>rfl
 pyHash:=fun hv h=>by
  rcases aN hv with ⟨i,t,rfl,rfl⟩ | ⟨x,t,rfl,rfl⟩
  ·exact wpAny_pyHash_int h
  ·exact wpAny_pyHash_str h
 eqBool:=fun hu hv h=>by
  rcases aN hu with ⟨i,t,rfl,rfl⟩ | ⟨x,t,rfl,rfl⟩
  ·rcases aN hv with ⟨j,u,rfl,rfl⟩ | ⟨y,u,rfl,rfl⟩
   ·rw [yx] at h; exact wpAny_eqBool_int h
   ·rw [xB] at h; exact SeqAt.EqAt.int_str i t y u _ _ _ _ h
  ·rcases aN hv with ⟨j,u,rfl,rfl⟩ | ⟨y,u,rfl,rfl⟩
   ·rw [AU] at h; exact SeqAt.EqAt.str_int x t j u _ _ _ _ h
   ·rw [xH] at h; exact wpAny_eqBool_str h
 «strs»:=fun k x t v h=>by
  rcases aN h with ⟨i,u,rfl,e⟩ | ⟨y,u,rfl,e⟩
  ·exact nomatch e
  ·injection e with e1 _
   subst e1
   cases v<;>rfl
end L2
namespace L2
open PySem PySem.Spec PyProof.Rows
set_option genInjectivity true
inductive V where
 | non | bl (b:Bool) | int (i:Int) | str (x:Str) | byt (b:Array UInt8) | flt (b:UInt64) | ref (a:Addr) | ty (n:String)
 deriving DecidableEq
set_option genInjectivity false
noncomputable def RelV:V->Value->Prop
 | .non,u=>u=Value.none
 | .bl b,u=>u=Value.bool b
 | .int i,u=>∃ t,u=Value.int i t
 | .str x,u=>∃ t,u=Value.str x t
 | .byt b,u=>∃ t,u=Value.bytes b t
 | .flt b,u=>∃ t,u=Value.float b t
 | .ref a,u=>u=Value.ref a
 | .ty n,u=>u=Value.type n
noncomputable abbrev Vals:List V->List Value->Prop:=Paired RelV
theorem Vals.length {xs:List V}{us:List Value}(r:Vals xs us):xs.length=us.length:=Paired.length r
theorem Vals.get:∀ {xs:List V} {us:List Value} {i:Nat} {x:V},Vals xs us->xs[i]?=some x->∃ u,us[i]?=some u/\RelV x u
 | _,_,_,_,.nil,e=>by simp at e
 | _,_,0,_,.cons r _,e=>by simp at e; subst e; exact ⟨_,rfl,r⟩
 | _,_,i+1,x,.cons _ t,e=>by
  obtain ⟨u,h1,h2⟩:=Vals.get (i:=i) (x:=x) t (by simpa using e)
  exact ⟨u,by simpa using h1,h2⟩
theorem Vals.set {x:V}{u:Value}(r:RelV x u):∀ {xs:List V} {us:List Value} (i:Nat),Vals xs us->Vals (xs.set i x) (us.set i u)
 | _,_,_,.nil=>.nil
 | _,_,0,.cons _ t=>.cons r t
 | _,_,i+1,.cons q t=>.cons q (Vals.set r i t)
theorem Vals.append:∀ {xs ys:List V} {us ws:List Value},Vals xs us->Vals ys ws->Vals (xs++ys) (us++ws)
 | _,_,_,_,.nil,s=>s
 | _,_,_,_,.cons r t,s=>.cons r (Vals.append t s)
theorem Vals.take:∀ {xs:List V} {us:List Value} (n:Nat),Vals xs us->Vals (xs.take n) (us.take n)
 | _,_,0,_=>.nil
 | _,_,_+1,.nil=>.nil
 | _,_,n+1,.cons r t=>.cons r (Vals.take n t)
theorem Vals.drop:∀ {xs:List V} {us:List Value} (n:Nat),Vals xs us->Vals (xs.drop n) (us.drop n)
 | _,_,0,r=>r
 | _,_,_+1,.nil=>.nil
 | _,_,n+1,.cons _ t=>Vals.drop n t
noncomputable def RelO:Option V->Option Value->Prop
 | some v,some u=>RelV v u
 | none,none=>True
 | _,_=>False
noncomputable def KV {κ:Type}:List (κ×V)->List (κ×Value)->Prop:=Paired fun (p:κ×V) (q:κ×Value)=>p.1=q.1/\RelV p.2 q.2
noncomputable def kV:Key->V
 | .inl i=>.int i
 | .inr x=>.str x
inductive HO where
 | lst (xs:List V)
 | tup (xs:List V)
 | dK (kvs:List (Key×V)) | dT (kvs:List (List Key×V))
 | set (S:Int->Bool) (n:Nat)
 | ins (C dx:Addr) (fs:List (Str×V))
 | own (x:Addr)
 | xd (fs:List (Str×V))
 | met (f x:Addr)
 | rng (lo hi:Int)
 | frz (o:Obj) (u:HO)
 | tbl (ps:Array Value)
 | ext (φ:Heap->Prop)
noncomputable abbrev Hp:=Addr->Option HO
noncomputable def upd (H:Hp)(a:Addr)(o:HO):Hp:=fun b=>if b=a then some o else H b
theorem aj {H:Hp}{a:Addr}{o:HO}:upd H a o a=some o:=by unfold upd; rw [if_pos rfl]
theorem ag {H:Hp}{a b:Addr}{o:HO}(h:b≠a):upd H a o b=H b:=by unfold upd; rw [if_neg h]
theorem aI {H:Hp}{a b:Addr}{o:HO}(h:H a=some o)(h':H b=none):a≠b:=by
 intro e; subst e; rw [h] at h'; cases h'
section
variable (P:Program)(w:World)
noncomputable def ObjOk (H:Hp)(h:Heap)(a:Addr):HO->Prop
 | .lst xs=>xs.length<=sizeLine/\∃ (its:List Value) (n:Nat),Vals xs its/\h.get? a=some { cls:=.type "list",data:=.seq its.toArray n }
 | .tup xs=>xs.length<=sizeLine/\∃ its:List Value,Vals xs its/\IsTup h a its.toArray
 | .dK kvs=>kvs.length<=sizeLine/\(a==sysModules)=false/\∃ vs,KV kvs vs/\h.DictOf (iH P w) a vs
 | .dT kvs=>kvs.length<=sizeLine/\(a==sysModules)=false/\∃ xs:List (List Key×Addr×Value),
   Paired (fun (p:List Key×V) (q:List Key×Addr×Value)=>p.1=q.1/\H q.2.1=some (.tup (p.1.map kV))/\RelV p.2 q.2.2) kvs xs /\
   ∃ o es ep,h.get? a=some o/\o.ExactDict/\o.data=.dict es ep/\es.toList=xs.map (entryOfKey (tupleKind (iH P w)))/\(xs.map (·.1)).Nodup
 | .set S n=>h.SetOf (intKind P w) a S n
 | .ins C dx fs=>H dx=some (.own a)/\fs.length<=1000/\dx≠a/\h.get? a=some (a2Z C dx) /\
   ∃ mA,h.Ns1 dx mA/\(∀ f,RelO (fs.lookup f) (mA f))/\a32 mA (fs.map (·.1))
 | .own _=>∃ o,h.get? a=some o
 | .xd fs=>∃ mA,h.Ns1 a mA/\∀ f,RelO (fs.lookup f) (mA f)
 | .rng lo hi=>∃ t u v,h.get? a=some { cls:=.type "range",data:=.fields #[.int lo t,.int hi u,.int 1 v] }
 | .frz o u=>h.get? a=some o/\ObjOk H h a u
 | .tbl ps=>h.get? a=some { cls:=.none,data:=.fields ps }
 | .met f x=>h.get? a=some (a2D (.ref f) (.ref x))
 | .ext φ=>φ h/\(∃ o,h.get? a=some o)/\∀ h1 h2:Heap,φ h1->(∀ o,h1.get? a=some o->h2.get? a=some o)->φ h2
noncomputable def HOk (H:Hp)(h:Heap):Prop:=∀ a o,H a=some o->ObjOk P w H h a o
end
section
variable {P:Program}{w:World}{H H':Hp}{h h':Heap}{a:Addr}{o:HO}
theorem ObjOk.lt (x:ObjOk P w H h a o):a < h.objs.size:=by
 cases o with
 | lst xs=>obtain ⟨_,_,_,_,e⟩:=x; exact Heap.lt_size e
 | tup xs=>obtain ⟨_,_,_,p⟩:=x; exact p.lt
 | dK kvs=>obtain ⟨_,_,_,_,o,_,_,e,_⟩:=x; exact Heap.lt_size e
 | dT kvs=>obtain ⟨_,_,_,_,o,_,_,e,_⟩:=x; exact Heap.lt_size e
 | set S n=>obtain ⟨o,_,_,_,e,_⟩:=x; exact Heap.lt_size e
 | ins C dx fs=>obtain ⟨_,_,_,e,_⟩:=x; exact Heap.lt_size e
 | own y=>obtain ⟨_,e⟩:=x; exact Heap.lt_size e
 | xd fs=>obtain ⟨_,⟨_,_,_,e,_⟩,_⟩:=x; exact Heap.lt_size e
 | rng lo hi=>obtain ⟨_,_,_,e⟩:=x; exact Heap.lt_size e
 | frz ob u=>obtain ⟨e,_⟩:=x; exact Heap.lt_size e
 | tbl ps=>exact Heap.lt_size (show h.get? a=some _ from x)
 | met f y=>exact Heap.lt_size (show h.get? a=some _ from x)
 | ext φ=>obtain ⟨_,⟨_,e⟩,_⟩:=x; exact Heap.lt_size e
theorem Paired.mapP {α β:Type}{F G:α->β->Prop}:∀ {l₁:List α} {l₂:List β},Paired F l₁ l₂->(∀ a b,F a b->G a b)->Paired G l₁ l₂
 | _,_,.nil,_=>.nil
 | _,_,.cons r t,f=>.cons (f _ _ r) (Paired.mapP t f)
theorem ObjOk.stay (x:ObjOk P w H h a o)(k:∀ b u,(b=a\/H b=some (.own a))->h.get? b=some u->h'.get? b=some u)
  (ho:∀ b,H b=some (.own a)->H' b=some (.own a)) (ht:∀ b xs,H b=some (.tup xs)->H' b=some (.tup xs)):ObjOk P w H' h' a o:=by
 induction o with
 | lst xs=>obtain ⟨z,its,n,r,e⟩:=x; exact ⟨z,its,n,r,k _ _ (.inl rfl) e⟩
 | tup xs=>obtain ⟨z,its,r,ob,e,c⟩:=x; exact ⟨z,its,r,ob,k _ _ (.inl rfl) e,c⟩
 | dK kvs=>obtain ⟨z,y,vs,r,ob,es,ep,e,c⟩:=x; exact ⟨z,y,vs,r,ob,es,ep,k _ _ (.inl rfl) e,c⟩
 | dT kvs =>
  obtain ⟨z,y,xs,r,ob,es,ep,e,c⟩:=x
  exact ⟨z,y,xs,Paired.mapP r fun p q z=>⟨z.1,ht _ _ z.2.1,z.2.2⟩,ob,es,ep,k _ _ (.inl rfl) e,c⟩
 | set S n=>obtain ⟨ob,es,ep,t,e,c⟩:=x; exact ⟨ob,es,ep,t,k _ _ (.inl rfl) e,c⟩
 | ins C dx fs =>
  obtain ⟨d,z,ne,e,mA,⟨od,es,ep,e2,c⟩,r⟩:=x
  exact ⟨ho _ d,z,ne,k _ _ (.inl rfl) e,mA,⟨od,es,ep,k _ _ (.inr d) e2,c⟩,r⟩
 | own y=>obtain ⟨ob,e⟩:=x; exact ⟨ob,k _ _ (.inl rfl) e⟩
 | xd fs=>obtain ⟨mA,⟨od,es,ep,e,c⟩,r⟩:=x; exact ⟨mA,⟨od,es,ep,k _ _ (.inl rfl) e,c⟩,r⟩
 | rng lo hi=>obtain ⟨t,u,v,e⟩:=x; exact ⟨t,u,v,k _ _ (.inl rfl) e⟩
 | frz ob u ih=>obtain ⟨e,q⟩:=x; exact ⟨k _ _ (.inl rfl) e,ih q⟩
 | tbl ps =>
  have e:h.get? a=some { cls:=.none,data:=.fields ps }:=x
  show h'.get? a=some { cls:=.none,data:=.fields ps }
  exact k a _ (.inl rfl) e
 | met f y =>
  have e:h.get? a=some (a2D (.ref f) (.ref y)):=x
  show h'.get? a=some (a2D (.ref f) (.ref y))
  exact k a _ (.inl rfl) e
 | ext φ=>obtain ⟨p,⟨o,e⟩,st⟩:=x; exact ⟨st _ _ p fun o q=>k _ _ (.inl rfl) q,⟨o,k _ _ (.inl rfl) e⟩,st⟩
theorem HOk.lt (x:HOk P w H h)(e:H a=some o):a < h.objs.size:=(x a o e).lt
theorem HOk.fresh (x:HOk P w H h)(e:h.objs.size<=a):H a=none:=by
 cases q:H a with
 | none=>rfl
 | some u=>exact absurd (a0f (x.lt q) e) (a0N _)
theorem HOk.kept (x:HOk P w H h)(k:∀ b u,h.get? b=some u->h'.get? b=some u):HOk P w H h':=fun a o e =>
 (x a o e).stay (fun b u _ q=>k b u q) (fun _ q=>q) fun _ _ q=>q
theorem HOk.laid (x:HOk P w H h)(k:∀ b u,h.get? b=some u->h'.get? b=some u)(hp:h.objs.size<=a)(new:ObjOk P w (upd H a o) h' a o):HOk P w (upd H a o) h':=fun b u e=>by
 have hn:=x.fresh hp
 by_cases hb:b=a
 ·subst hb; rw [aj] at e; cases e; exact new
 ·rw [ag hb] at e
  exact (x b u e).stay (fun c v _ q=>k c v q) (fun c q=>by rw [ag (aI q hn)]; exact q) fun c xs q=>by rw [ag (aI q hn)]; exact q
end
noncomputable def Rd (H:Hp)(a:Addr)(u:HO):Prop:=H a=some u\/∃ o,H a=some (.frz o u)
theorem Rd.ok {P:Program}{w:World}{H:Hp}{h:Heap}{a:Addr}{u:HO}(r:Rd H a u)(x:HOk P w H h):ObjOk P w H h a u:=by
 rcases r with r | ⟨o,r⟩
 ·exact x a u r
 ·obtain ⟨_,q⟩:=x a _ r
  exact q
noncomputable def Mut:Option HO->Prop
 | some (.lst _)=>True
 | some (.dK _)=>True
 | some (.dT _)=>True
 | some (.set _ _)=>True
 | some (.ins _ _ _)=>True
 | some (.ext _)=>True
 | _=>False
section
variable {P:Program}{w:World}{H:Hp}{h h':Heap}{x e:Addr}{o':HO}
theorem HOk.write (ok:HOk P w H h)(mu:Mut (H x))(he:e=x\/H e=some (.own x))(k:∀ b u,b≠e->h.get? b=some u->h'.get? b=some u)(heo:∃ u,h'.get? e=some u)
  (new:ObjOk P w (upd H x o') h' x o'):HOk P w (upd H x o') h':=fun b u q=>by
 have nown:∀ c y,H c=some (.own y)->c≠x:=fun c y r z=>by subst z; rw [r] at mu; exact mu
 have ntup:∀ c xs,H c=some (.tup xs)->c≠x:=fun c xs r z=>by subst z; rw [r] at mu; exact mu
 by_cases hb:b=x
 ·subst hb; rw [aj] at q; cases q; exact new
 ·rw [ag hb] at q
  by_cases hbe:b=e
  ·have q':H b=some (.own x):=by
    rcases he with z | z
    ·exact absurd (hbe.trans z) hb
    ·rw [hbe]; exact z
   rw [q] at q'; cases q'
   obtain ⟨v,hv⟩:=heo
   exact ⟨v,by rw [hbe]; exact hv⟩
  ·refine (ok b u q).stay (fun c v hc r=>k c v ?_ r) (fun c r=>by rw [ag (nown c b r)]; exact r) fun c xs r=>by rw [ag (ntup c xs r)]; exact r
   rcases hc with rfl | hc
   ·exact hbe
   ·rintro rfl
    rcases he with z | z
    ·exact nown c b hc z
    ·rw [hc] at z; cases z; exact hb rfl
end
structure Un (fs ex:List Addr)(H H':Hp)(h h':Heap):Prop where
 keep:∀ b o,h.get? b=some o->H b=none->b ∉ fs->b ∉ ex->h'.get? b=some o
 slot:∀ b o,h.get? b=some o->H b=none->b∈fs->b ∉ ex->∃ sl,h'.get? b=some { o with slots:=sl }
 free:∀ b o,h.get? b=some o->H b=none->b ∉ ex->H' b=none
 there:∀ b o,h.get? b=some o->b ∉ ex->∃ o',h'.get? b=some o'
 tups:∀ b xs,H b=some (.tup xs)->H' b=some (.tup xs)
 frzs:∀ b o u,H b=some (.frz o u)->H' b=some (.frz o u)
 tbls:∀ b ps,H b=some (.tbl ps)->∃ more,H' b=some (.tbl (ps++more))
section
variable {fs fs' ex ex':List Addr}{H H1 H2:Hp}{h h1 h2 h':Heap}{a x e:Addr}{o:HO}
theorem Un.any (u:Un fs ex H H1 h h1){b:Addr}{ob:Obj}(q:h.get? b=some ob)(n:H b=none)(hx:b ∉ ex):∃ sl,h1.get? b=some { ob with slots:=sl }:=by
 by_cases hb:b∈fs
 ·exact u.slot b ob q n hb hx
 ·exact ⟨ob.slots,u.keep b ob q n hb hx⟩
theorem Un.kept (k:∀ b u,h.get? b=some u->h'.get? b=some u):Un fs ex H H h h' :=
 ⟨fun b ob q _ _ _=>k b ob q,fun b ob q _ _ _=>⟨ob.slots,k b ob q⟩,fun _ _ _ n _=>n,fun b ob q _=>⟨ob,k b ob q⟩,fun _ _ q=>q,fun _ _ _ q=>q,fun _ ps q=>⟨#[],by rw [q]; simp⟩⟩
theorem Un.refl:Un fs ex H H h h:=Un.kept fun _ _ q=>q
theorem Un.laid (k:∀ b u,h.get? b=some u->h'.get? b=some u)(hp:h.objs.size<=a)(hn:H a=none):Un fs ex H (upd H a o) h h' where
 keep:=fun b u q _ _ _=>k b u q
 slot:=fun b u q _ _ _=>⟨u.slots,k b u q⟩
 free:=fun b u q n _=>by rw [ag (a0u (a0f (Heap.lt_size q) hp))]; exact n
 there:=fun b u q _=>⟨u,k b u q⟩
 tups:=fun b xs q=>by rw [ag (aI q hn)]; exact q
 frzs:=fun b u xs q=>by rw [ag (aI q hn)]; exact q
 tbls:=fun b ps q=>⟨#[],by rw [ag (aI q hn),q]; simp⟩
theorem Un.write (mu:Mut (H x))(he:e=x\/H e=some (.own x))(k:∀ b u,b≠e->h.get? b=some u->h'.get? b=some u)(heo:∃ u,h'.get? e=some u):Un fs ex H (upd H x o) h h':=by
 have hx:∀ b,H b=none->b≠x:=fun b n z=>by subst z; rw [n] at mu; exact mu
 have hb:∀ b,H b=none->b≠e:=fun b n z=>by
  subst z
  rcases he with r | r
  ·exact hx b n r
  ·rw [n] at r; cases r
 have hm:∀ b u,H b=some u->¬ Mut (some u)->b≠x:=fun b u q nm z=>by subst z; rw [q] at mu; exact nm mu
 refine ⟨fun b u q n _ _=>k b u (hb b n) q,fun b u q n _ _=>⟨u.slots,k b u (hb b n) q⟩,fun b u q n _=>by rw [ag (hx b n)]; exact n,fun b u q _=>?_,
  fun b xs q=>by rw [ag (hm b _ q fun z=>z)]; exact q,fun b u xs q=>by rw [ag (hm b _ q fun z=>z)]; exact q,fun b ps q=>⟨#[],by rw [ag (hm b _ q fun z=>z),q]; simp⟩⟩
 by_cases hbe:b=e
 ·subst hbe; exact heo
 ·exact ⟨u,k b u hbe q⟩
end
noncomputable def trk (h:Heap)(H:Hp):List Addr:=(a0q h.objs.size).filter fun a=>(H a).isSome
noncomputable def jg (h:Heap)(H:Hp):Heap:=PySem.W.hideAll h (trk h H)
theorem nE (h:Heap)(H:Hp):(jg h H).objs.size=h.objs.size:=PySem.W.hideAll_size _ _
theorem ou {h:Heap}{H:Hp}{b:Addr}{o:Obj}(e:h.get? b=some o)(n:H b=none):(jg h H).get? b=some o :=
 PySem.W.hideAll_get _ e fun hm=>by
  have q:(H b).isSome=true:=(a3F.mp hm).2
  rw [n] at q; simp at q
theorem uX {h:Heap}{H:Hp}{b:Addr}{o:Obj}(e:(jg h H).get? b=some o):h.get? b=some o/\H b=none:=by
 have e':h.get? b=some o:=PySem.W.of_hideAll (trk h H) e
 refine ⟨e',?_⟩
 cases q:H b with
 | none=>rfl
 | some x =>
  have hm:b∈trk h H:=a3F.mpr ⟨a2a.mpr (Heap.lt_size e'),by simp [q]⟩
  have z:(jg h H).get? b=none:=PySem.W.hideAll_none (trk h H) hm
  rw [z] at e; cases e
noncomputable def va (g h:Heap)(L:Addr):List (Addr×Obj):=(a0q h.objs.size).filterMap fun a=>if a=L\/(g.get? a).isSome=true then none else (h.get? a).map fun o=>(a,o)
noncomputable def rest (g h:Heap)(L d:Addr):List (Addr×Obj):=(va g h L).filter fun p=>decide (p.1≠d)
end L2
namespace L2
open PySem PySem.Spec PyProof.Rows
structure Mod (K:a0a)(mg:Str->Option Value)(base:Heap):Prop where
 kin:K.In base
 glob:base.Ns mainGlobals mg
 blt:∃ mb,base.Ns builtinsNs mb/\∀ x:Str,x≠"__name__"->mb x=bootBuiltins x
 nolimit:base.NoLimit
structure Cx where
 prog:Program
 w:World
 K:a0a
 mg:Str->Option Value
 base:Heap
 A:Around
 N:List Str
 s₀:Shared
 H₀:Hp
 env:Env
 outer:List Env
 stack:List Env
 ex:List Addr
 fn:Str->Bool
 calm:Bool
 pn:List (Addr×Obj)
 xe:Value->Shared->Prop
noncomputable def frs (l:List Env):List Addr:=l.filterMap (·.frame)
noncomputable abbrev Cx.fs (X:Cx):List Addr:=frs X.outer
noncomputable def Vis (sc:Scope)(x:Str):Prop:=sc.names.lookup x=some .local\/sc.names.lookup x=some .cell\/sc.names.lookup x=some .free
noncomputable def Loc (sc:Scope)(x:Str):Prop:=sc.names.lookup x=some .local\/sc.names.lookup x=some .cell
noncomputable def Ek (env:Env)(h:Heap)(m:Str->Option Value)(x:Str)(u:Value):Prop :=
 (env.kindOf x=some .local/\m x=some u)\/((env.kindOf x=some .cell\/env.kindOf x=some .free)/\∃ c,env.cells.lookup x=some c/\h.IsCell c (some u))
structure Cx.Ok (X:Cx):Prop where
 mod:Mod X.K X.mg X.base
 kind:X.env.scope.kind=.function
 glob:X.env.globals=mainGlobals
 blt:X.env.builtins=builtinsNs
 above:X.s₀.heap.objs.size<=X.env.locals
 inj:∀ x y c,X.env.cells.lookup x=some c->X.env.cells.lookup y=some c->x=y
 has:∀ x,(X.env.kindOf x=some .cell\/X.env.kindOf x=some .free)->∃ c,X.env.cells.lookup x=some c
 cab:∀ x c,X.fn x=true->X.env.cells.lookup x=some c->X.s₀.heap.objs.size<=c
 hd:X.calm=true->X.A.handled=none
 frames:X.A.frames=some X.stack
 stk:X.stack=X.outer\/(X.stack=X.env::X.outer/\X.env.frame=some X.env.locals)
 exf:∀ b∈X.ex,b≠X.env.locals/\∀ x c,X.env.cells.lookup x=some c->c≠b
 bs:∀ b o,X.base.get? b=some o->X.s₀.heap.get? b=some o/\X.H₀ b=none
 bsz:X.base.objs.size<=X.s₀.heap.objs.size
 noex:∀ b o,X.base.get? b=some o->b ∉ X.ex
 exfs:∀ b∈X.ex,b ∉ X.fs
 funs:X.s₀.heap.FunFrames X.base X.outer
 frf:∀ b∈X.fs,X.H₀ b=none
structure Inv (X:Cx)(pins:List (Addr×Obj))(σ:List (Option V))(H:Hp)(s:Shared):Prop where
 ok:X.Ok
 os:s.os=X.s₀.os
 bare:AllBare s.gens
 base:Un X.fs X.ex X.H₀ H X.s₀.heap s.heap
 loc:∃ m,s.heap.Ns X.env.locals m/\∀ (i:Nat) (x:Str) (v:V),X.N[i]?=some x->σ[i]?=some (some v)->Vis X.env.scope x->∃ u,RelV v u/\Ek X.env s.heap m x u
 cell:∀ x c,X.env.cells.lookup x=some c->∃ v,s.heap.IsCell c v
 free:H X.env.locals=none
 freeC:∀ x c,X.env.cells.lookup x=some c->H c=none
 pin:∀ p∈X.pn++pins,s.heap.get? p.1=some p.2/\H p.1=none/\p.1≠X.env.locals/\p.1 ∉ X.fs/\∀ v,p.2.data≠.cell v
 hok:HOk X.prog X.w H s.heap
 len:σ.length=X.N.length
section
variable {X:Cx}{pins:List (Addr×Obj)}{σ:List (Option V)}{H H':Hp}{s:Shared}{h':Heap}
theorem Cx.Ok.nofr (ok:X.Ok){b:Addr}{o:Obj}(e:X.base.get? b=some o):b ∉ X.fs:=fun hb=>by
 have:=(ok.funs.mem hb).1
 rw [e] at this; cases this
theorem Inv.bs (I:Inv X pins σ H s):∀ b o,X.base.get? b=some o->s.heap.get? b=some o/\H b=none:=fun b o e =>
 ⟨I.base.keep b o (I.ok.bs b o e).1 (I.ok.bs b o e).2 (I.ok.nofr e) (I.ok.noex b o e),I.base.free b o (I.ok.bs b o e).1 (I.ok.bs b o e).2 (I.ok.noex b o e)⟩
theorem Inv.bk (I:Inv X pins σ H s):∀ b o,X.base.get? b=some o->s.heap.get? b=some o:=fun b o e=>(I.bs b o e).1
theorem Inv.mod (I:Inv X pins σ H s):Mod X.K X.mg X.base:=I.ok.mod
theorem Inv.kIn (I:Inv X pins σ H s):X.K.In s.heap:=I.ok.mod.kin.keeps I.bk
theorem Inv.fr (I:Inv X pins σ H s):∃ m,Fr X.base X.env.locals s.heap m :=
 let ⟨m,hn,_⟩:=I.loc
 ⟨m,hn,I.bk,a0o I.ok.bsz I.ok.above⟩
theorem Inv.lt (I:Inv X pins σ H s):X.env.locals < s.heap.objs.size:=let ⟨_,hn,_⟩:=I.loc; hn.lt
theorem Inv.sz (I:Inv X pins σ H s):X.s₀.heap.objs.size<=s.heap.objs.size:=a0o I.ok.above (a1A I.lt)
theorem Inv.nofs (I:Inv X pins σ H s){a:Addr}(h:s.heap.objs.size<=a):a ∉ X.fs:=fun hb=>by
 obtain ⟨_,o,ho,_⟩:=I.ok.funs.mem hb
 exact absurd (a0f (Heap.lt_size ho) (a0o I.sz h)) (a0N _)
theorem Inv.cne (I:Inv X pins σ H s):∀ x c,X.env.cells.lookup x=some c->c≠X.env.locals:=fun x c e z=>by
 obtain ⟨v,o,ho,hd⟩:=I.cell x c e
 obtain ⟨m,⟨o',es,ep,ho',hd',_⟩,_⟩:=I.loc
 rw [z,ho'] at ho; cases ho; rw [hd'] at hd; cases hd
theorem Inv.funs (I:Inv X pins σ H s):s.heap.FunFrames X.base X.outer:=by
 have all:∀ (l:List Env),(∀ b∈frs l,b∈X.fs)->X.s₀.heap.FunFrames X.base l->s.heap.FunFrames X.base l:=by
  intro l
  induction l with
  | nil=>intro _ _; trivial
  | cons env r ih =>
   intro hs hl
   obtain ⟨hk,⟨L,o,hf,hn,ho,hd⟩,hr⟩:=hl
   have hL:L∈X.fs:=hs L (by unfold frs; rw [a0L,hf]; exact a0k)
   obtain ⟨sl,e⟩:=I.base.slot L o ho (I.ok.frf L hL) hL fun z=>I.ok.exfs L z hL
   exact ⟨hk,⟨L,_,hf,hn,e,hd⟩,ih (fun b hb=>hs b (by unfold frs; rw [a0L,hf]; exact a0c _ hb)) hr⟩
 exact all X.outer (fun _ hb=>hb) I.ok.funs
theorem Inv.stack (I:Inv X pins σ H s):s.heap.FunFrames X.base X.stack:=by
 rcases I.ok.stk with e | ⟨e,hf⟩
 ·rw [e]; exact I.funs
 ·rw [e]
  obtain ⟨m,hn,_⟩:=I.loc
  refine .cons (by rw [I.ok.kind]; decide) hf hn ?_ I.funs
  exact Heap.get?_none_of_le (a0o I.ok.bsz I.ok.above)
theorem Inv.stkSub (I:Inv X pins σ H s):∀ b∈frs X.stack,b∈X.env.locals::X.fs:=fun b hb=>by
 rcases I.ok.stk with e | ⟨e,hf⟩
 ·rw [e] at hb; exact a0c _ hb
 ·rw [e] at hb
  unfold frs at hb
  rw [a0L,hf] at hb
  exact hb
theorem Inv.stkFree (I:Inv X pins σ H s):∀ b∈frs X.stack,H b=none:=fun b hb=>by
 rcases a0n.mp (I.stkSub b hb) with e | hb
 ·rw [e]; exact I.free
 ·obtain ⟨_,o,ho,_⟩:=I.ok.funs.mem hb
  exact I.base.free b o ho (I.ok.frf b hb) fun z=>I.ok.exfs b z hb
theorem Inv.step {g':Array GenState}{t':Nat}{d':Drawn}{ch:List Addr}(I:Inv X pins σ H s)
  (hch:∀ b∈ch,(b∈X.ex\/X.s₀.heap.objs.size<=b)/\b≠X.env.locals/\(∀ x c,X.env.cells.lookup x=some c->c≠b)/\∀ p∈X.pn++pins,p.1≠b)
  (keep:∀ b o,b≠X.env.locals->b ∉ X.fs->b ∉ ch->s.heap.get? b=some o->H b=none->h'.get? b=some o)
  (slot:∀ b o,b≠X.env.locals->b∈X.fs->b ∉ ch->s.heap.get? b=some o->H b=none->∃ sl,h'.get? b=some { o with slots:=sl }) (free:∀ b o,b ∉ ch->s.heap.get? b=some o->H b=none->H' b=none)
  (there:∀ b o,b ∉ ch->s.heap.get? b=some o->∃ o',h'.get? b=some o')
  (tups:∀ b xs,H b=some (.tup xs)->H' b=some (.tup xs)) (frzs:∀ b o u,H b=some (.frz o u)->H' b=some (.frz o u)) (tbls:∀ b ps,H b=some (.tbl ps)->∃ more,H' b=some (.tbl (ps++more)))
  (ns:∀ m,s.heap.Ns X.env.locals m->h'.Ns X.env.locals m) (hok:HOk X.prog X.w H' h') (hg:AllBare g') :
  Inv X pins σ H' { s with heap:=h',gens:=g',drawn:=d',toks:=t' }:=by
 have neL:∀ b o,X.s₀.heap.get? b=some o->b≠X.env.locals:=fun b o e=>a0u (a0f (Heap.lt_size e) I.ok.above)
 have neC:∀ b o,X.s₀.heap.get? b=some o->b ∉ X.ex->b ∉ ch:=fun b o e hx hb=>by
  rcases (hch b hb).1 with z | z
  ·exact hx z
  ·exact absurd (a0f (Heap.lt_size e) z) (a0N _)
 have cellK:∀ x c,X.env.cells.lookup x=some c->∀ v,s.heap.IsCell c v->h'.IsCell c v:=fun x c e v ⟨o,ho,hd⟩=>by
  have nch:c ∉ ch:=fun z=>(hch c z).2.2.1 x c e rfl
  by_cases hc:c∈X.fs
  ·obtain ⟨sl,q⟩:=slot c o (I.cne x c e) hc nch ho (I.freeC x c e)
   exact ⟨_,q,hd⟩
  ·exact ⟨o,keep c o (I.cne x c e) hc nch ho (I.freeC x c e),hd⟩
 refine ⟨I.ok,I.os,hg,⟨fun b o e n hb hx=>?_,fun b o e n hb hx=>?_,fun b o e n hx=>?_,fun b o e hx=>?_,fun b xs e=>tups b xs (I.base.tups b xs e),fun b o xs e=>frzs b o xs (I.base.frzs b o xs e),fun b ps e=>?_⟩,?_,fun x c e=>?_,?_,fun x c e=>?_,fun p hp=>?_,hok,I.len⟩
 ·exact keep b o (neL b o e) hb (neC b o e hx) (I.base.keep b o e n hb hx) (I.base.free b o e n hx)
 ·obtain ⟨sl,e1⟩:=I.base.slot b o e n hb hx
  obtain ⟨sl',e2⟩:=slot b _ (neL b o e) hb (neC b o e hx) e1 (I.base.free b o e n hx)
  exact ⟨sl',e2⟩
 ·obtain ⟨o',e1⟩:=I.base.there b o e hx
  exact free b o' (neC b o e hx) e1 (I.base.free b o e n hx)
 ·obtain ⟨o',e1⟩:=I.base.there b o e hx
  exact there b o' (neC b o e hx) e1
 ·obtain ⟨m1,e1⟩:=I.base.tbls b ps e
  obtain ⟨m2,e2⟩:=tbls b _ e1
  exact ⟨m1++m2,by rw [e2,Array.append_assoc]⟩
 ·obtain ⟨m,hn,hl⟩:=I.loc
  refine ⟨m,ns m hn,fun i x v e1 e2 e3=>?_⟩
  obtain ⟨u,r,l⟩:=hl i x v e1 e2 e3
  refine ⟨u,r,?_⟩
  rcases l with l | ⟨k,c,e,z⟩
  ·exact .inl l
  ·exact .inr ⟨k,c,e,cellK x c e _ z⟩
 ·obtain ⟨v,z⟩:=I.cell x c e
  exact ⟨v,cellK x c e v z⟩
 ·obtain ⟨m,⟨o,_,_,ho,_⟩,_⟩:=I.loc
  exact free _ o (fun z=>(hch _ z).2.1 rfl) ho I.free
 ·obtain ⟨v,o,ho,hd⟩:=I.cell x c e
  exact free c o (fun z=>(hch c z).2.2.1 x c e rfl) ho (I.freeC x c e)
 ·obtain ⟨e,n,ne,nf,d⟩:=I.pin p hp
  have nch:p.1 ∉ ch:=fun z=>(hch p.1 z).2.2.2 p hp rfl
  exact ⟨keep p.1 p.2 ne nf nch e n,free p.1 p.2 nch e n,ne,nf,d⟩
theorem Inv.un {t':Nat}(I:Inv X pins σ H s)(u:Un X.fs [] H H' s.heap h')(hok:HOk X.prog X.w H' h'):Inv X pins σ H' { s with heap:=h',toks:=t' }:=by
 obtain ⟨m,⟨o,es,ep,ho,r⟩,_⟩:=id I.loc
 obtain ⟨sl,hL⟩:=u.any ho I.free (by simp)
 exact I.step (g':=s.gens) (d':=s.drawn) (ch:=[]) (fun _ z=>nomatch z) (fun b o _ hb _ e n=>u.keep b o e n hb (by simp)) (fun b o _ hb _ e n=>u.slot b o e n hb (by simp)) (fun b o _ e n=>u.free b o e n (by simp)) (fun b o _ e=>u.there b o e (by simp)) u.tups u.frzs u.tbls (fun m' hm=>by
  obtain ⟨o',es',ep',ho',r'⟩:=hm
  rw [ho] at ho'; cases ho'
  exact ⟨_,es',ep',hL,r'⟩) hok I.bare
theorem Inv.call {g':Array GenState}{t':Nat}{d':Drawn}{ch:List Addr}(I:Inv X pins σ H s)(u:Un (frs X.stack) ch H H' s.heap h')(hok:HOk X.prog X.w H' h')(hg:AllBare g')
  (hch:∀ b∈ch,(b∈X.ex\/X.s₀.heap.objs.size<=b)/\b≠X.env.locals/\(∀ x c,X.env.cells.lookup x=some c->c≠b)/\∀ p∈X.pn++pins,p.1≠b) :
  Inv X pins σ H' { s with heap:=h',gens:=g',drawn:=d',toks:=t' }:=by
 obtain ⟨m,⟨o,es,ep,ho,r⟩,_⟩:=id I.loc
 obtain ⟨sl,hL⟩:=u.any ho I.free fun z=>(hch _ z).2.1 rfl
 exact I.step (ch:=ch) hch (fun b o hL hb hc e n=>u.keep b o e n (fun z=>(a0n.mp (I.stkSub b z)).elim hL hb) hc) (fun b o _ _ hc e n=>u.any e n hc) (fun b o hc e n=>u.free b o e n hc) (fun b o hc e=>u.there b o e hc) u.tups u.frzs u.tbls (fun m' hm=>by
  obtain ⟨o',es',ep',ho',r'⟩:=hm
  rw [ho] at ho'; cases ho'
  exact ⟨_,es',ep',hL,r'⟩) hok hg
theorem Inv.turned {t':Nat}{it:Addr}(I:Inv X pins σ H s)(k:∀ b o,b≠it->s.heap.get? b=some o->h'.get? b=some o)(hn:H it=none)(hL:it≠X.env.locals)
  (h1:it∈X.ex\/X.s₀.heap.objs.size<=it) (h2:∀ x c,X.env.cells.lookup x=some c->c≠it) (h3:∀ p∈X.pn++pins,p.1≠it):Inv X pins σ H { s with heap:=h',toks:=t' }:=by
 have nit:∀ b u,H b=some u->b≠it:=fun b u e z=>by rw [z,hn] at e; cases e
 refine I.step (g':=s.gens) (d':=s.drawn) (ch:=[it]) (fun b hb=>?_) (fun b o _ _ hc e _=>k b o (fun z=>hc (by simp [z])) e) (fun b o _ _ hc e _=>⟨o.slots,k b o (fun z=>hc (by simp [z])) e⟩) (fun _ _ _ _ n=>n)
  (fun b o hc e=>⟨o,k b o (fun z=>hc (by simp [z])) e⟩) (fun _ _ e=>e) (fun _ _ _ e=>e) (fun b ps e=>⟨#[],by rw [e]; simp⟩) (fun m hm=>?_) (fun b u e=>?_) I.bare
 ·have e:b=it:=by simpa using hb
  subst e
  exact ⟨h1,hL,h2,h3⟩
 ·obtain ⟨o,es,ep,ho,r⟩:=hm
  exact ⟨o,es,ep,k _ o (a1w hL) ho,r⟩
 ·refine (I.hok b u e).stay (fun c v hc q=>k c v ?_ q) (fun _ q=>q) fun _ _ q=>q
  rcases hc with z | z
  ·rw [z]; exact nit b u e
  ·exact nit c _ z
theorem Inv.tok (I:Inv X pins σ H s)(t:Nat):Inv X pins σ H { s with toks:=t }:=I.un (h':=s.heap) (t':=t) Un.refl I.hok
theorem Inv.kept {t':Nat}(I:Inv X pins σ H s)(k:∀ b u,s.heap.get? b=some u->h'.get? b=some u):Inv X pins σ H { s with heap:=h',toks:=t' }:=I.un (Un.kept k) (I.hok.kept k)
theorem Inv.laid {a:Addr}{o:HO}{t':Nat}(I:Inv X pins σ H s)(k:∀ b u,s.heap.get? b=some u->h'.get? b=some u)(hp:s.heap.objs.size<=a)(new:ObjOk X.prog X.w (upd H a o) h' a o) :
  Inv X pins σ (upd H a o) { s with heap:=h',toks:=t' }:=I.un (Un.laid k hp (I.hok.fresh hp)) (I.hok.laid k hp new)
theorem Inv.write {x e:Addr}{o:HO}{t':Nat}(I:Inv X pins σ H s)(mu:Mut (H x))(he:e=x\/H e=some (.own x))(k:∀ b u,b≠e->s.heap.get? b=some u->h'.get? b=some u)(heo:∃ u,h'.get? e=some u)
  (new:ObjOk X.prog X.w (upd H x o) h' x o):Inv X pins σ (upd H x o) { s with heap:=h',toks:=t' }:=I.un (Un.write mu he k heo) (I.hok.write mu he k heo new)
theorem Inv.weak {σ':List (Option V)}(I:Inv X pins σ H s)(hl:σ'.length=σ.length)(w:∀ (i:Nat) v,σ'[i]?=some (some v)->σ[i]?=some (some v)):Inv X pins σ' H s :=
 ⟨I.ok,I.os,I.bare,I.base,let ⟨m,hn,hl'⟩:=I.loc; ⟨m,hn,fun i x v e1 e2 e3=>hl' i x v e1 (w i v e2) e3⟩,I.cell,I.free,I.freeC,I.pin,I.hok,hl.trans I.len⟩
theorem Inv.pins_of {pins':List (Addr×Obj)}(I:Inv X pins σ H s)(h:∀ p∈pins',s.heap.get? p.1=some p.2/\H p.1=none/\p.1≠X.env.locals/\p.1 ∉ X.fs/\∀ v,p.2.data≠.cell v):Inv X pins' σ H s :=
 ⟨I.ok,I.os,I.bare,I.base,I.loc,I.cell,I.free,I.freeC,fun p hp=>(a0T.mp hp).elim (fun z=>I.pin p (a0v _ z)) (h p),I.hok,I.len⟩
theorem gm {N:List Str}(hN:N.Nodup){i j:Nat}{x:Str}(a:N[i]?=some x)(b:N[j]?=some x):i=j:=by
 obtain ⟨h1,e1⟩:=a0s.mp a
 obtain ⟨h2,e2⟩:=a0s.mp b
 exact (List.getElem_inj hN).mp (e1.trans e2.symm)
theorem iw {M:Model}{A:Around}{E:Value->Shared->Prop}{i:Nat}{x:Str}{v:V}{u:Value}{Q:Unit->Shared->Prop}(I:Inv X pins σ H s)(hN:X.N.Nodup)(hi:X.N[i]?=some x)(hx:Loc X.env.scope x)(r:RelV v u)
  (h:∀ s',Inv X pins (σ.set i (some v)) H s'->(∃ a,Heap.SameBut a s.heap s'.heap/\(a=X.env.locals\/X.env.cells.lookup x=some a))->Q () s') (hf:X.fn x=true\/X.env.scope.names.lookup x=some .local:=by first | exact .inl rfl | exact .inr rfl | assumption):wpAny M A (storeName X.env x u) Q E s:=by
 obtain ⟨m,hn,hl⟩:=id I.loc
 have hcls:(X.env.scope.kind==.class || (X.env.scope.kind==.module&&X.env.locals != X.env.globals))=false:=by rw [I.ok.kind]; rfl
 have hiσ:i < σ.length:=by rw [I.len]; exact (a0s.mp hi).1
 have cne:=I.cne
 have tracked:∀ {a:Addr} {h':Heap},(∃ o,s.heap.get? a=some o/\H a=none)->Heap.SameBut a s.heap h'->HOk X.prog X.w H h':=fun {a h'} ha hs b ob e=>by
  obtain ⟨_,_,hfree⟩:=ha
  refine (I.hok b ob e).stay (fun c w' hc q=>(hs.2 c ?_).trans q) (fun _ q=>q) fun _ _ q=>q
  rintro rfl
  rcases hc with rfl | hc
  ·rw [hfree] at e; cases e
  ·rw [hfree] at hc; cases hc
 rcases hx with hk | hk
 ·refine wpAny_storeName_local hk hn (fun h' hn' hs=>?_) hcls
  obtain ⟨oL,_,_,hoL,_⟩:=id hn
  refine h _ ⟨I.ok,I.os,I.bare,⟨fun b o e n hb hx=>?_,fun b o e n hb hx=>?_,I.base.free,fun b o e hx=>?_,I.base.tups,I.base.frzs,I.base.tbls⟩,⟨_,hn',fun j y v' e1 e2 e3=>?_⟩,fun y c e=>?_,I.free,I.freeC,fun p hp=>?_,tracked ⟨oL,hoL,I.free⟩ hs,by simpa using I.len⟩ ⟨_,hs,.inl rfl⟩
  ·exact (hs.2 b (a0u (a0f (Heap.lt_size e) I.ok.above))).trans (I.base.keep b o e n hb hx)
  ·obtain ⟨sl,e1⟩:=I.base.slot b o e n hb hx
   exact ⟨sl,(hs.2 b (a0u (a0f (Heap.lt_size e) I.ok.above))).trans e1⟩
  ·obtain ⟨o',e1⟩:=I.base.there b o e hx
   exact ⟨o',(hs.2 b (a0u (a0f (Heap.lt_size e) I.ok.above))).trans e1⟩
  ·by_cases hj:j=i
   ·subst hj
    rw [hi] at e1; cases e1
    rw [a1q hiσ] at e2
    cases e2
    exact ⟨u,r,.inl ⟨hk,by simp⟩⟩
   ·rw [a1d (a1w hj)] at e2
    obtain ⟨u',r',q⟩:=hl j y v' e1 e2 e3
    refine ⟨u',r',?_⟩
    rcases q with ⟨k,e⟩ | ⟨k,c,e,z⟩
    ·refine .inl ⟨k,?_⟩
     have:y≠x:=fun e=>hj (gm hN e1 (e ▸ hi))
     simp [this,e]
    ·exact .inr ⟨k,c,e,z.sameBut hs (cne y c e)⟩
  ·obtain ⟨w',z⟩:=I.cell y c e
   exact ⟨w',z.sameBut hs (cne y c e)⟩
  ·obtain ⟨e,n,ne,nf,d⟩:=I.pin p hp
   exact ⟨(hs.2 p.1 ne).trans e,n,ne,nf,d⟩
 ·have hfn:X.fn x=true:=by
   rcases hf with z | z
   ·exact z
   ·rw [z] at hk; cases hk
  obtain ⟨c,hc⟩:=I.ok.has x (.inl hk)
  obtain ⟨w',z⟩:=I.cell x c hc
  refine wpAny_storeName_cell I.ok.kind hk hc z (fun h' hc' hs=>?_)
  obtain ⟨oc,hoc,hocd⟩:=id z
  refine h { s with heap:=h' } ⟨I.ok,I.os,I.bare,⟨fun b o e n hb hx=>?_,fun b o e n hb hx=>?_,I.base.free,fun b o e hx=>?_,I.base.tups,I.base.frzs,I.base.tbls⟩,⟨m,hn.sameBut hs (a1w (cne x c hc)),fun j y v' e1 e2 e3=>?_⟩,fun y c' e=>?_,I.free,I.freeC,fun p hp=>?_,tracked ⟨oc,hoc,I.freeC x c hc⟩ hs,by simpa using I.len⟩ ⟨c,hs,.inr hc⟩
  ·exact (hs.2 b (a0u (a0f (Heap.lt_size e) (I.ok.cab x c hfn hc)))).trans (I.base.keep b o e n hb hx)
  ·obtain ⟨sl,e1⟩:=I.base.slot b o e n hb hx
   exact ⟨sl,(hs.2 b (a0u (a0f (Heap.lt_size e) (I.ok.cab x c hfn hc)))).trans e1⟩
  ·obtain ⟨o',e1⟩:=I.base.there b o e hx
   exact ⟨o',(hs.2 b (a0u (a0f (Heap.lt_size e) (I.ok.cab x c hfn hc)))).trans e1⟩
  ·by_cases hj:j=i
   ·subst hj
    rw [hi] at e1; cases e1
    rw [a1q hiσ] at e2
    cases e2
    exact ⟨u,r,.inr ⟨.inl hk,c,hc,hc'⟩⟩
   ·rw [a1d (a1w hj)] at e2
    obtain ⟨u',r',q⟩:=hl j y v' e1 e2 e3
    refine ⟨u',r',?_⟩
    rcases q with q | ⟨k,c',e,z'⟩
    ·exact .inl q
    ·refine .inr ⟨k,c',e,z'.sameBut hs ?_⟩
     rintro rfl
     exact hj (gm hN e1 (I.ok.inj _ _ _ e hc ▸ hi))
  ·by_cases hcc:c'=c
   ·subst hcc; exact ⟨_,hc'⟩
   ·obtain ⟨w2,z2⟩:=I.cell y c' e
    exact ⟨w2,z2.sameBut hs hcc⟩
  ·obtain ⟨e,n,ne,nf,d⟩:=I.pin p hp
   refine ⟨(hs.2 p.1 ?_).trans e,n,ne,nf,d⟩
   intro q
   rw [q,hoc] at e
   have q':oc=p.2:=a0w e
   exact d w' (by rw [<- q']; exact hocd)
theorem eC {M:Model}{A:Around}{E:Value->Shared->Prop}{i:Nat}{x:Str}{v:V}{u:Value}{Q:Unit->Shared->Prop}(I:Inv X pins σ H s)(hN:X.N.Nodup)(hi:X.N[i]?=some x)(hx:Loc X.env.scope x)(r:RelV v u)
  (h:∀ s',Inv X pins (σ.set i (some v)) H s'->Q () s') (hf:X.fn x=true\/X.env.scope.names.lookup x=some .local:=by first | exact .inl rfl | exact .inr rfl | assumption):wpAny M A (storeName X.env x u) Q E s :=
 iw I hN hi hx r (fun s' I' _=>h s' I') hf
theorem Inv.call' {s':Shared}{ch:List Addr}(I:Inv X pins σ H s)(ho:s'.os=s.os)(u:Un (frs X.stack) ch H H' s.heap s'.heap)(hok:HOk X.prog X.w H' s'.heap)(hg:AllBare s'.gens)
  (hch:∀ b∈ch,(b∈X.ex\/X.s₀.heap.objs.size<=b)/\b≠X.env.locals/\(∀ x c,X.env.cells.lookup x=some c->c≠b)/\∀ p∈X.pn++pins,p.1≠b):Inv X pins σ H' s':=by
 obtain ⟨h',g',d',t',o'⟩:=s'
 have e:o'=s.os:=ho
 subst e
 exact I.call (g':=g') (t':=t') (d':=d') u hok hg hch
end
noncomputable abbrev XK:=Value->Option Addr->Hp->Prop
noncomputable abbrev St:=List (Option V)
noncomputable abbrev VK:=V->Hp->Prop
noncomputable abbrev TE:=St->Hp->VK->Prop
noncomputable abbrev TT:=St->Hp->(Bool->Hp->Prop)->Prop
noncomputable abbrev TA:=St->Hp->(List V->Hp->Prop)->Prop
structure bL where
 nx:St->Hp->Prop
 rt:VK
 bk:St->Hp->Prop:=fun _ _=>False
 ct:St->Hp->Prop:=fun _ _=>False
noncomputable abbrev TS:=bL->St->Hp->Prop
noncomputable def EP (X:Cx)(pins:List (Addr×Obj))(σ:St)(Q:VK)(u:Value)(s':Shared):Prop:=∃ v H',Inv X pins σ H' s'/\RelV v u/\Q v H'
noncomputable def TP (X:Cx)(pins:List (Addr×Obj))(σ:St)(Q:Bool->Hp->Prop)(b:Bool)(s':Shared):Prop:=∃ H',Inv X pins σ H' s'/\Q b H'
noncomputable def AP (X:Cx)(pins:List (Addr×Obj))(σ:St)(Q:List V->Hp->Prop)(us:List Value)(s':Shared):Prop:=∃ vs H',Inv X pins σ H' s'/\Vals vs us/\Q vs H'
noncomputable def SP (X:Cx)(pins:List (Addr×Obj))(D:bL)(f:Flow)(s':Shared):Prop :=
 match f with
 | .next=>∃ σ' H',Inv X pins σ' H' s'/\D.nx σ' H'
 | .brk=>∃ σ' H',Inv X pins σ' H' s'/\D.bk σ' H'
 | .cont=>∃ σ' H',Inv X pins σ' H' s'/\D.ct σ' H'
 | .ret u=>∃ v σ' H',Inv X pins σ' H' s'/\RelV v u/\D.rt v H'
noncomputable def PE (X:Cx)(e:Expr)(t:TE):Prop :=
 ∀ (pins:List (Addr×Obj)) (s:Shared) (σ:St) (H:Hp) (Q:VK),Inv X pins σ H s->t σ H Q->wpAny (model X.prog X.w) X.A (eval e X.env) (EP X pins σ Q) X.xe s
noncomputable def PT (X:Cx)(e:Expr)(t:TT):Prop :=
 ∀ (pins:List (Addr×Obj)) (s:Shared) (σ:St) (H:Hp) (Q:Bool->Hp->Prop),Inv X pins σ H s->t σ H Q->wpAny (model X.prog X.w) X.A (isTrue e X.env (eval e X.env)) (TP X pins σ Q) X.xe s
noncomputable def PW (X:Cx)(e:Expr)(t:TT):Prop :=
 ∀ (whole:Sem Value) (pins:List (Addr×Obj)) (s:Shared) (σ:St) (H:Hp) (Q:Bool->Hp->Prop),Inv X pins σ H s->t σ H Q->wpAny (model X.prog X.w) X.A (isTrue e X.env whole) (TP X pins σ Q) X.xe s
theorem PW.pt {X:Cx}{e:Expr}{t:TT}(h:PW X e t):PT X e t:=h _
noncomputable def PA (X:Cx)(es:List Expr)(t:TA):Prop :=
 ∀ (pos:Pos) (pins:List (Addr×Obj)) (s:Shared) (σ:St) (H:Hp) (Q:List V->Hp->Prop),Inv X pins σ H s->t σ H Q->wpAny (model X.prog X.w) X.A (spliced (backTo pos (starEach es X.env))) (AP X pins σ Q) X.xe s
noncomputable def PS (X:Cx)(st:Stmt)(t:TS):Prop :=
 ∀ (pins:List (Addr×Obj)) (s:Shared) (σ:St) (H:Hp) (D:bL),Inv X pins σ H s->t D σ H->wpAny (model X.prog X.w) X.A (exec st X.env) (SP X pins D) X.xe s
noncomputable def PSs (X:Cx)(st:List Stmt)(t:TS):Prop :=
 ∀ (pins:List (Addr×Obj)) (s:Shared) (σ:St) (H:Hp) (D:bL),Inv X pins σ H s->t D σ H->wpAny (model X.prog X.w) X.A (execs st X.env) (SP X pins D) X.xe s
theorem thn {α:Type}{t:Sem α}{Q Q':α->Shared->Prop}{M:Model}{A:Around}{E:Value->Shared->Prop}{s:Shared}(h:wpAny M A t Q E s)(hQ:∀ a s,Q a s->Q' a s):wpAny M A t Q' E s:=wpAny_mono h hQ fun _ _ x=>x
end L2
namespace L2
open PySem PySem.Spec PyProof.Rows
section
variable {X:Cx}
noncomputable def m6 (i:Nat):TE:=fun σ H Q=>∃ v,σ[i]?=some (some v)/\Q v H
noncomputable def tC (v:V):TE:=fun _ H Q=>Q v H
theorem bZ {i:Nat}{x:Str}{pos:Pos}(hN:X.N[i]?=some x)(hv:Vis X.env.scope x)(hd:(x==("__debug__":Str))=false:=by decide)(hcd:(x==("__classdict__":Str))=false:=by decide):PE X (.Name x pos) (m6 i):=by
 intro pins s σ H Q I h
 obtain ⟨v,e,h⟩:=h
 obtain ⟨m,hn,hl⟩:=I.loc
 obtain ⟨u,r,l⟩:=hl i x v hN e hv
 have fin:EP X pins σ Q u s:=⟨v,H,I,r,h⟩
 rcases l with ⟨hk,hm⟩ | ⟨hk,c,hc,hcell⟩
 ·exact wpAny_Name (wpAny_loadName_local I.ok.kind hk hn hm fin) hd
 ·rcases hk with hk | hk
  ·exact wpAny_Name (wpAny_loadName_cell I.ok.kind hk hc hcell fin) hd
  ·exact wpAny_Name (wpAny_loadName_free I.ok.kind hk hc hcell fin hcd) hd
theorem kH {i j pos}:PE X (.Constant (.int i) j pos) (tC (.int i)):=fun _ _ _ H _ I h=>wpAny_Constant_int ⟨.int i,H,I.tok _,⟨_,rfl⟩,h⟩
theorem C2 {b j pos}:PE X (.Constant (.bool b) j pos) (tC (.bl b)):=fun _ _ _ H _ I h=>Constant_bool ⟨.bl b,H,I,rfl,h⟩
theorem yH {j pos}:PE X (.Constant .none j pos) (tC .non):=fun _ _ _ H _ I h=>Constant_none ⟨.non,H,I,rfl,h⟩
theorem xu {x j pos}:PE X (.Constant (.str x) j pos) (tC (.str x)):=fun _ _ _ H _ I h=>Calls.Constant_str ⟨.str x,H,I.tok _,⟨_,rfl⟩,h⟩
noncomputable def Gl (X:Cx)(x:Str):Prop:=X.env.kindOf x=some .globalImplicit
theorem dz {E:Value->Shared->Prop}{pins:List (Addr×Obj)}{s:Shared}{σ:St}{H:Hp}{x:Str}{u:Value}{pos:Pos}{Q:Value->Shared->Prop}(I:Inv X pins σ H s)(hg:Gl X x)(hm:X.mg x=some u)(h:Q u s)
  (hd:(x==("__debug__":Str))=false:=by decide):wpAny (model X.prog X.w) X.A (eval (.Name x pos) X.env) Q E s :=
 Calls.Name_function_global I.ok.kind hg (Calls.loadGlobal_global (by rw [I.ok.glob]; exact I.mod.glob.keeps I.bk) hm h) hd
theorem dU {E:Value->Shared->Prop}{pins:List (Addr×Obj)}{s:Shared}{σ:St}{H:Hp}{x:Str}{u:Value}{pos:Pos}{Q:Value->Shared->Prop}(I:Inv X pins σ H s)(hg:Gl X x)(hm:X.mg x=none)(hv:bootBuiltins x=some u)(h:Q u s)
  (hn:x≠"__name__":=by decide) (hd:(x==("__debug__":Str))=false:=by decide):wpAny (model X.prog X.w) X.A (eval (.Name x pos) X.env) Q E s:=by
 obtain ⟨mb,h1,h2⟩:=I.mod.blt
 exact Calls.Name_function_global I.ok.kind hg (Calls.loadGlobal_builtin (by rw [I.ok.glob]; exact I.mod.glob.keeps I.bk) hm (by rw [I.ok.blt]; exact h1.keeps I.bk) ((h2 x hn).trans hv) h) hd
theorem vS {x:Str}{v:V}{u:Value}{pos:Pos}(hg:Gl X x)(hm:X.mg x=some u)(r:RelV v u)(hd:(x==("__debug__":Str))=false:=by decide):PE X (.Name x pos) (tC v) :=
 fun _ _ _ H _ I h=>dz I hg hm ⟨v,H,I,r,h⟩ hd
theorem vE {x:Str}{v:V}{u:Value}{pos:Pos}(hg:Gl X x)(hm:X.mg x=none)(hv:bootBuiltins x=some u)(r:RelV v u)(hn:x≠"__name__":=by decide)(hd:(x==("__debug__":Str))=false:=by decide):PE X (.Name x pos) (tC v) :=
 fun _ _ _ H _ I h=>dU I hg hm hv ⟨v,H,I,r,h⟩ hn hd
variable {a b:Expr}{ta tb:TE}{pos:Pos}
noncomputable def PC (X:Cx)(op:CmpOp)(a b:Expr)(t:TE):Prop :=
 ∀ (pins:List (Addr×Obj)) (s:Shared) (σ:St) (H:Hp) (Q:VK),Inv X pins σ H s->t σ H Q ->
  wpAny (model X.prog X.w) X.A (eval a X.env) (fun v s₁=>wpAny (model X.prog X.w) X.A (eval b X.env) (fun u s₂=>wpAny (model X.prog X.w) X.A (compareOp op v u) (EP X pins σ Q) X.xe s₂) X.xe s₁) X.xe s
noncomputable def tB (t:TE):TT:=fun σ H Q=>t σ H fun x H1=>∃ c,x=.bl c/\Q c H1
theorem r8 {e:Expr}{t:TE}(h:PE X e t)(he:∀ whole,isTrue e X.env whole=(do let v <- whole; standAt e.pos; holding [v] (truthy v)):=by intro _; rfl):PT X e (tB t):=by
 intro pins s σ H Q I hw
 refine isTrue_plain (thn (h pins s σ H _ I hw) fun v s1 ⟨x,H1,I1,r1,q1⟩=>?_) (he _)
 obtain ⟨d,rfl,q⟩:=q1
 cases r1
 exact wpAny_truthy_bool ⟨H1,I1,q⟩
variable {tA tB':TT}{rest:List Expr}
noncomputable def DA (t u:TT):TT:=fun σ H Q=>t σ H fun c H1=>if c=true then u σ H1 Q else Q false H1
noncomputable def tOr (t u:TT):TT:=fun σ H Q=>t σ H fun c H1=>if c=true then Q true H1 else u σ H1 Q
noncomputable def Bg (t:TT):TT:=fun σ H Q=>t σ H fun c H1=>Q (!c) H1
theorem tR (ha:PT X a tA):PW X (.BoolOp .And [a] pos) tA:=by
 intro wh pins s σ H Q I h
 refine isTrue_and (thn (ha pins s σ H Q I h) fun c s1 e=>?_)
 cases c with
 | true=>exact isTrue_and_nil e
 | false=>exact e
theorem AI (ha:PT X a tA):PW X (.BoolOp .Or [a] pos) tA:=by
 intro wh pins s σ H Q I h
 refine isTrue_or (thn (ha pins s σ H Q I h) fun c s1 e=>?_)
 cases c with
 | false=>exact isTrue_or_nil e
 | true=>exact e
theorem yJ (ha:PT X a tA)(hb:PW X (.BoolOp .And (b::rest) pos) tB'):PW X (.BoolOp .And (a::b::rest) pos) (DA tA tB'):=by
 intro wh pins s σ H Q I h
 refine isTrue_and (thn (ha pins s σ H _ I h) fun c s1 ⟨H1,I1,q1⟩=>?_)
 cases c with
 | true=>exact hb wh pins s1 σ H1 Q I1 q1
 | false=>exact ⟨H1,I1,q1⟩
theorem Cu (ha:PT X a tA)(hb:PW X (.BoolOp .Or (b::rest) pos) tB'):PW X (.BoolOp .Or (a::b::rest) pos) (tOr tA tB'):=by
 intro wh pins s σ H Q I h
 refine isTrue_or (thn (ha pins s σ H _ I h) fun c s1 ⟨H1,I1,q1⟩=>?_)
 cases c with
 | true=>exact ⟨H1,I1,q1⟩
 | false=>exact hb wh pins s1 σ H1 Q I1 q1
theorem Az (ha:PT X a tA):PT X (.UnaryOp .Not a pos) (Bg tA):=by
 intro pins s σ H Q I h
 exact isTrue_not (ha pins s σ H (fun c H1=>Q (!c) H1) I h)
theorem Am {op}{t:TE}(h:PE X a t):PE X (.BoolOp op [a] pos) t:=fun pins s σ H Q I hw=>BoolOp_one (h pins s σ H Q I hw)
noncomputable def tIf (t:TT)(ta tb:TE):TE:=fun σ H Q=>t σ H fun c H1=>if c=true then ta σ H1 Q else tb σ H1 Q
theorem pP {c:Expr}(hc:PT X c tA)(ha:PE X a ta)(hb:PE X b tb):PE X (.IfExp c a b pos) (tIf tA ta tb):=by
 intro pins s σ H Q I h
 refine wpAny_IfExp (thn (hc pins s σ H _ I h) fun d s1 ⟨H1,I1,q1⟩=>?_)
 cases d with
 | true=>exact ha pins s1 σ H1 Q I1 q1
 | false=>exact hb pins s1 σ H1 Q I1 q1
end
end L2
namespace L2
open PySem PySem.Spec PyProof.Rows
noncomputable def SqL (K:a0a)(H:Hp)(a:Addr)(xs:List V):Prop :=
 Rd H a (.lst xs) \/
  ∃ (o:Obj) (its:Array Value) (n:Nat),K.lookup a=some o/\o.cls=.type "list"/\o.dict=none/\o.data=.seq its n/\its.size<=sizeLine/\Vals xs its.toList
noncomputable def SqT (K:a0a)(H:Hp)(a:Addr)(xs:List V):Prop :=
 Rd H a (.tup xs) \/
  ∃ (o:Obj) (its:Array Value) (n:Nat),K.lookup a=some o/\o.cls=.type "tuple"/\o.data=.seq its n/\its.size<=sizeLine/\Vals xs its.toList
noncomputable def DE:Value->Option V
 | .none=>some .non
 | .bool b=>some (.bl b)
 | .int i _=>some (.int i)
 | .str x _=>some (.str x)
 | .bytes b _=>some (.byt b)
 | .float b _=>some (.flt b)
 | .ref a=>some (.ref a)
 | .type n=>some (.ty n)
 | _=>none
theorem RelV.abs {x:V}{u:Value}(r:RelV x u):DE u=some x:=by
 cases x with
 | non=>cases r; rfl
 | bl _=>cases r; rfl
 | int _=>obtain ⟨t,rfl⟩:=r; rfl
 | str _=>obtain ⟨t,rfl⟩:=r; rfl
 | byt _=>obtain ⟨t,rfl⟩:=r; rfl
 | flt _=>obtain ⟨t,rfl⟩:=r; rfl
 | ref _=>cases r; rfl
 | ty _=>cases r; rfl
theorem RelV.inj {x y:V}{u:Value}(r:RelV x u)(q:RelV y u):x=y:=a0w (r.abs.symm.trans q.abs)
theorem Vals.inj:∀ {xs ys:List V} {us:List Value},Vals xs us->Vals ys us->xs=ys
 | _,_,_,.nil,.nil=>rfl
 | _,_,_,.cons r t,.cons r' t'=>by rw [r.inj r',Vals.inj t t']
section
variable {X:Cx}{pins:List (Addr×Obj)}{σ:St}{H:Hp}{s:Shared}{a:Addr}{xs ys:List V}
theorem SqL.of {K:a0a}(h:H a=some (.lst xs)):SqL K H a xs:=.inl (.inl h)
theorem SqT.of {K:a0a}(h:H a=some (.tup xs)):SqT K H a xs:=.inl (.inl h)
theorem Inv.list (I:Inv X pins σ H s)(h:SqL X.K H a xs):∃ its:List Value,Vals xs its/\PlainL s.heap a its.toArray/\xs.length<=sizeLine:=by
 rcases h with h | ⟨o,its,n,hk,hc,hd,hs,hz,r⟩
 ·obtain ⟨z,its,n,r,e⟩:=h.ok I.hok
  exact ⟨its,r,⟨_,n,e,rfl,rfl,rfl⟩,z⟩
 ·refine ⟨its.toList,r,⟨o,n,I.kIn a o hk,hc,hd,by simpa using hs⟩,?_⟩
  have e:=r.length
  simp only [a1T] at e
  omega
theorem Inv.tuple (I:Inv X pins σ H s)(h:SqT X.K H a xs):∃ its:List Value,Vals xs its/\IsTup s.heap a its.toArray/\xs.length<=sizeLine:=by
 rcases h with h | ⟨o,its,n,hk,hc,hs,hz,r⟩
 ·obtain ⟨z,its,r,p⟩:=h.ok I.hok
  exact ⟨its,r,p,z⟩
 ·refine ⟨its.toList,r,⟨o,I.kIn a o hk,hc,n,by simpa using hs⟩,?_⟩
  have e:=r.length
  simp only [a1T] at e
  omega
theorem Inv.list_inj (I:Inv X pins σ H s)(h:SqL X.K H a xs)(h':SqL X.K H a ys):xs=ys:=by
 obtain ⟨its,r,⟨o,n,e,_,_,d⟩,_⟩:=I.list h
 obtain ⟨its',r',⟨o',n',e',_,_,d'⟩,_⟩:=I.list h'
 rw [e] at e'; cases e'
 rw [d] at d'
 injection d' with d1 _
 have:its=its':=by simpa using congrArg a33 d1
 subst this
 exact r.inj r'
theorem Inv.tuple_inj (I:Inv X pins σ H s)(h:SqT X.K H a xs)(h':SqT X.K H a ys):xs=ys:=by
 obtain ⟨its,r,⟨o,e,_,n,d⟩,_⟩:=I.tuple h
 obtain ⟨its',r',⟨o',e',_,n',d'⟩,_⟩:=I.tuple h'
 rw [e] at e'; cases e'
 rw [d] at d'
 injection d' with d1 _
 have:its=its':=by simpa using congrArg a33 d1
 subst this
 exact r.inj r'
end
noncomputable abbrev Cx.wish (X:Cx)(E:Value->Shared->Prop):Cx:={ X with xe:=E }
noncomputable abbrev Cx.nox (X:Cx):Cx:=X.wish fun _ _=>False
theorem Cx.Ok.wish {X:Cx}(ok:X.Ok)(E:Value->Shared->Prop):(X.wish E).Ok :=
 ⟨ok.mod,ok.kind,ok.glob,ok.blt,ok.above,ok.inj,ok.has,ok.cab,ok.hd,ok.frames,ok.stk,ok.exf,ok.bs,ok.bsz,ok.noex,ok.exfs,ok.funs,ok.frf⟩
theorem Cx.Ok.unwish {X:Cx}{E:Value->Shared->Prop}(ok:(X.wish E).Ok):X.Ok :=
 ⟨ok.mod,ok.kind,ok.glob,ok.blt,ok.above,ok.inj,ok.has,ok.cab,ok.hd,ok.frames,ok.stk,ok.exf,ok.bs,ok.bsz,ok.noex,ok.exfs,ok.funs,ok.frf⟩
section
variable {X:Cx}{pins:List (Addr×Obj)}{σ:St}{H:Hp}{s:Shared}{E:Value->Shared->Prop}
theorem Inv.wish (I:Inv X pins σ H s)(E:Value->Shared->Prop):Inv (X.wish E) pins σ H s:=⟨I.ok.wish E,I.os,I.bare,I.base,I.loc,I.cell,I.free,I.freeC,I.pin,I.hok,I.len⟩
theorem Inv.unwish (I:Inv (X.wish E) pins σ H s):Inv X pins σ H s:=⟨I.ok.unwish,I.os,I.bare,I.base,I.loc,I.cell,I.free,I.freeC,I.pin,I.hok,I.len⟩
theorem SP.unwish {D:bL}{f:Flow}{s':Shared}(h:SP (X.wish E) pins D f s'):SP X pins D f s':=by
 cases f with
 | next=>obtain ⟨σ',H',I,q⟩:=h; exact ⟨σ',H',I.unwish,q⟩
 | brk=>obtain ⟨σ',H',I,q⟩:=h; exact ⟨σ',H',I.unwish,q⟩
 | cont=>obtain ⟨σ',H',I,q⟩:=h; exact ⟨σ',H',I.unwish,q⟩
 | ret u=>obtain ⟨v,σ',H',I,r,q⟩:=h; exact ⟨v,σ',H',I.unwish,r,q⟩
theorem PSs.nox {st:List Stmt}{t:TS}(h:PSs X.nox st t):PSs X st t:=fun pins s σ H D I hw =>
 wpAny_mono (h pins s σ H D (I.wish _) hw) (fun _ _ q=>q.unwish) fun _ _ z=>a05 z
end
section
variable {X:Cx}{st:Stmt}{rest:List Stmt}{t u:TS}{e:Expr}{te:TE}{pos:Pos}
noncomputable def wt:TS:=fun D σ H=>D.nx σ H
noncomputable def CP (t u:TS):TS:=fun D σ H=>t { D with nx:=u D } σ H
theorem ja:PSs X [] wt:=fun _ _ σ H _ I h=>wpAny_execs_nil ⟨σ,H,I,h⟩
theorem b7 (h1:PS X st t)(h2:PSs X rest u):PSs X (st::rest) (CP t u):=by
 intro pins s σ H D I h
 refine wpAny_execs_cons (thn (h1 pins s σ H { D with nx:=u D } I h) fun f s1 q=>?_)
 cases f with
 | next =>
  obtain ⟨σ',H',I',q⟩:=q
  exact h2 pins s1 σ' H' D I' q
 | ret v=>exact q
 | brk=>exact q
 | cont=>exact q
theorem ck (h1:PS X st t):PSs X [st] t:=by
 intro pins s σ H D I h
 refine wpAny_execs_cons (thn (h1 pins s σ H D I h) fun f s1 q=>?_)
 cases f with
 | next=>exact wpAny_execs_nil q
 | ret v=>exact q
 | brk=>exact q
 | cont=>exact q
theorem Inv.quiet {pins:List (Addr×Obj)}{σ:St}{H:Hp}{s:Shared}(I:Inv X pins σ H s):interactive X.env=false:=by simp [interactive,I.ok.kind]
noncomputable def wY (te:TE):TS:=fun D σ H=>te σ H fun _ H1=>D.nx σ H1
theorem cj (he:PE X e te)(hs:swapsWith e none pos.line X.env=pure false:=by rfl):PS X (.Expr e pos) (wY te):=by
 intro pins s σ H D I h
 exact wpAny_Expr_any (thn (he pins s σ H _ I h) fun v s1 ⟨x,H1,I1,r1,q1⟩=>⟨σ,H1,I1,q1⟩) I.quiet hs
noncomputable def Bq (te:TE):TS:=fun D σ H=>te σ H D.rt
theorem ly (he:PE X e te):PS X (.Return (some e) pos) (Bq te):=by
 intro pins s σ H D I h
 exact wpAny_Return_some (thn (he pins s σ H _ I h) fun v s1 ⟨x,H1,I1,r1,q1⟩=>⟨x,σ,H1,I1,r1,q1⟩)
noncomputable def Cv (c:TT)(t u:TS):TS:=fun D σ H=>c σ H fun b H1=>if b=true then t D σ H1 else u D σ H1
theorem pI {c:Expr}{a b:List Stmt}{tc:TT}(hc:PT X c tc)(ha:PSs X a t)(hb:PSs X b u):PS X (.If c a b pos) (Cv tc t u):=by
 intro pins s σ H D I h
 refine wpAny_If (thn (hc pins s σ H _ I h) fun d s1 ⟨H1,I1,q1⟩=>?_)
 cases d with
 | true=>exact ha pins s1 σ H1 D I1 q1
 | false=>exact hb pins s1 σ H1 D I1 q1
end
noncomputable abbrev TG:=V->St->Hp->(St->Hp->Prop)->Prop
noncomputable abbrev TGs:=List V->St->Hp->(St->Hp->Prop)->Prop
noncomputable def PG (X:Cx)(target:Expr)(t:TG):Prop :=
 ∀ (pins:List (Addr×Obj)) (s:Shared) (σ:St) (H:Hp) (v:V) (u:Value) (Q:St->Hp->Prop),Inv X pins σ H s->RelV v u->t v σ H Q ->
  wpAny (model X.prog X.w) X.A (assign target X.env u) (fun _ s'=>∃ σ' H',Inv X pins σ' H' s'/\Q σ' H') X.xe s
noncomputable def PGs (X:Cx)(ts:List Expr)(t:TGs):Prop :=
 ∀ (pins:List (Addr×Obj)) (s:Shared) (σ:St) (H:Hp) (vs:List V) (us:List Value) (Q:St->Hp->Prop),Inv X pins σ H s->Vals vs us->t vs σ H Q ->
  wpAny (model X.prog X.w) X.A (assignInOrder ((assignEach ts X.env).map (·.2)) us) (fun _ s'=>∃ σ' H',Inv X pins σ' H' s'/\Q σ' H') X.xe s
noncomputable abbrev Aj:=V->V->V->Hp->(Hp->Prop)->Prop
noncomputable def Dl (X:Cx)(t:Aj):Prop :=
 ∀ (pins:List (Addr×Obj)) (s:Shared) (σ:St) (H:Hp) (o i v:V) (ov iv u:Value) (Q:Hp->Prop),Inv X pins σ H s->RelV o ov->RelV i iv->RelV v u->t o i v H Q ->
  wpAny (model X.prog X.w) X.A (setItem ov iv u) (fun _ s'=>∃ H',Inv X pins σ H' s'/\Q H') X.xe s
section
variable {X:Cx}{pos:Pos}
noncomputable def dj (i:Nat):TG:=fun v σ H Q=>Q (σ.set i (some v)) H
theorem cV {i:Nat}{x:Str}(hN:X.N.Nodup)(hi:X.N[i]?=some x)(hx:Loc X.env.scope x)(hf:X.fn x=true\/X.env.scope.names.lookup x=some .local:=by first | exact .inl rfl | exact .inr rfl | assumption):PG X (.Name x pos) (dj i):=by
 intro pins s σ H v u Q I r h
 exact wpAny_assign_Name (eC I hN hi hx r (fun s' I'=>⟨_,H,I',h⟩) hf)
noncomputable def yE:TGs:=fun vs σ H Q=>vs=[]/\Q σ H
noncomputable def ke (t:TG)(u:TGs):TGs:=fun vs σ H Q=>∃ v r,vs=v::r/\t v σ H fun σ' H'=>u r σ' H' Q
theorem uw:PGs X [] yE:=by
 intro pins s σ H vs us Q I r h
 obtain ⟨e,h⟩:=h
 subst e
 cases r
 exact assignInOrder_nil ⟨σ,H,I,h⟩
theorem jP {e:Expr}{es:List Expr}{t:TG}{u:TGs}(h1:PG X e t)(h2:PGs X es u)
  (hs:(assignEach (e::es) X.env).map (·.2)=assign e X.env::(assignEach es X.env).map (·.2):=by rfl):PGs X (e::es) (ke t u):=by
 intro pins s σ H vs us Q I r h
 obtain ⟨v,vr,e1,h⟩:=h
 subst e1
 cases r with
 | cons r rr =>
  rw [hs]
  refine assignInOrder_cons (thn (h1 pins s σ H _ _ _ I r h) fun _ s1 ⟨σ1,H1,I1,q1⟩=>?_)
  exact h2 pins s1 σ1 H1 _ _ Q I1 rr q1
noncomputable def yq (K:a0a)(n:Nat)(t:TGs):TG:=fun v σ H Q=>∃ a xs,v=.ref a/\SqT K H a xs/\xs.length=n/\t xs σ H Q
theorem yQ {es:List Expr}{k:Nat}{t:TGs}{n:Nat}(hc:X.calm=true)(h:PGs X es t)
  (hn:(assignEach es X.env).length=n:=by rfl) (hst:(assignEach es X.env).findIdx? (·.1)=none:=by rfl):PG X (.Tuple es k pos) (yq X.K n t):=by
 intro pins s σ H v u Q I r hw
 obtain ⟨a,xs,e1,hq,hl,hw⟩:=hw
 subst e1
 cases r
 obtain ⟨its,rv,ht,hz⟩:=I.tuple hq
 refine assign_Tuple_tuple (I.ok.hd hc) ht (by simp [hn,<- hl,rv.length]) hst fun h' hx=>?_
 have I1:Inv X pins σ H { s with heap:=h' }:=I.kept (t':=s.toks) fun b o e=>hx b o (a0u (Heap.lt_size e)) e
 exact h pins _ σ H xs _ Q I1 (by simpa using rv) hw
noncomputable def El (to ti:TE)(t:Aj):TG:=fun v σ H Q=>to σ H fun o H1=>ti σ H1 fun i H2=>t o i v H2 fun H3=>Q σ H3
theorem yj {o i:Expr}{to ti:TE}{t:Aj}(ho:PE X o to)(hi:PE X i ti)(hs:Dl X t)
  (ha:∀ v,assign (.Subscript o i pos) X.env v=(do
   let ov <- holding [v] (eval o X.env)
   let iv <- holding [v,ov] (eval i X.env)
   standAt pos
   holding [v,ov,iv] (setItem ov iv v)
   release [v,ov,iv] []):=by intro _; rfl):PG X (.Subscript o i pos) (El to ti t):=by
 intro pins s σ H v u Q I r h
 rw [ha]
 refine wpAny_bind (wpAny_holding (thn (ho pins s σ H _ I h) fun ov s1 ⟨x,H1,I1,r1,q1⟩=>?_))
 refine wpAny_bind (wpAny_holding (thn (hi pins s1 σ H1 _ I1 q1) fun iv s2 ⟨y,H2,I2,r2,q2⟩=>?_))
 refine wpAny_bind (wpAny_standAt (wpAny_bind (wpAny_holding (thn (hs pins s2 σ H2 x y v ov iv u _ I2 r1 r2 r q2) fun _ s3 ⟨H3,I3,q3⟩=>?_))))
 exact wpAny_release ⟨σ,H3,I3,q3⟩
noncomputable def pB (te:TE)(g:TG):TS:=fun D σ H=>te σ H fun x H1=>g x σ H1 D.nx
theorem zh {tg e:Expr}{te:TE}{g:TG}(he:PE X e te)(hg:PG X tg g)(hs:swapsWithSole [tg] e pos.line X.env=pure false:=by rfl)(hw:swappedStores [tg] e X.env=pure none:=by rfl)
  (h1:(assignEach [tg] X.env).map (·.2)=[assign tg X.env]:=by rfl):PS X (.Assign [tg] e pos) (pB te g):=by
 intro pins s σ H D I h
 refine wpAny_Assign_stores (thn (he pins s σ H _ I h) fun v s1 ⟨x,H1,I1,r1,q1⟩=>?_) hs hw
 rw [h1]
 exact thn (hg pins s1 σ H1 x v _ I1 r1 q1) fun _ s2 q=>q
theorem fW {i:Nat}{x:Str}{e:Expr}{te:TE}{pos':Pos}(hN:X.N.Nodup)(hi:X.N[i]?=some x)(hx:Loc X.env.scope x)(he:PE X e te)(hs:swapsWith e (some (.Name x pos')) pos.line X.env=pure false:=by rfl)(hf:X.fn x=true\/X.env.scope.names.lookup x=some .local:=by first | exact .inl rfl | exact .inr rfl | assumption) :
  PS X (.Assign [.Name x pos'] e pos) (pB te (dj i)):=by
 intro pins s σ H D I h
 refine wpAny_Assign_Name (thn (he pins s σ H _ I h) fun v s1 ⟨y,H1,I1,r1,q1⟩=>?_) hs
 exact eC I1 hN hi hx r1 (fun s2 I2=>⟨_,H1,I2,q1⟩) hf
end
structure It where
 go:Nat->Hp->Prop
 yld:Nat->Hp->V->Hp->Prop
 stop:Nat->Hp->Prop
noncomputable def gB (X:Cx)(pins:List (Addr×Obj))(H:Hp)(b:Addr):Prop :=
 H b=none/\b≠X.env.locals/\b ∉ X.fs/\(b∈X.ex\/X.s₀.heap.objs.size<=b)/\(∀ x c,X.env.cells.lookup x=some c->c≠b)/\∀ p∈X.pn++pins,p.1≠b
theorem Inv.fpOk {X:Cx}{pins:List (Addr×Obj)}{σ:St}{H H':Hp}{s:Shared}{b:Addr}(I:Inv X pins σ H s)(hb:s.heap.objs.size<=b)(hn:H' b=none):gB X pins H' b:=by
 refine ⟨hn,a04 (a0f I.lt hb),I.nofs hb,.inr (a0o I.sz hb),fun x c e z=>?_,fun p hp z=>?_⟩
 ·obtain ⟨v,q⟩:=I.cell x c e
  exact absurd (a0f q.lt (by rw [z]; exact hb)) (a0N _)
 ·exact absurd (a0f (Heap.lt_size (I.pin p hp).1) (by rw [z]; exact hb)) (a0N _)
structure qW (P:Program)(w:World)(K:a0a)(tg:Expr)(J:It)(fp:List Addr)(it:Addr)(tn:Nat->Heap->Prop):Prop where
 mem:it∈fp
 obj:∀ i h,tn i h->∀ b∈fp,∃ o,h.get? b=some o/\∀ v,o.data≠.cell v
 keep:∀ i h h',tn i h->(∀ b∈fp,∀ o,h.get? b=some o->h'.get? b=some o)->tn i h'
 item:∀ (X:Cx),X.prog=P->X.w=w->X.K=K->X.calm=true->∀ (i:Nat) (pins:List (Addr×Obj)) (s:Shared) (σ:St) (H:Hp) (E:Value->Shared->Prop),Inv X pins σ H s->(∀ b∈fp,gB X pins H b)->tn i s.heap->J.go i H ->
  wpAny (model P w) X.A (pyNext (.ref it)) (fun r s1=>∃ u,r=some u /\
   wpAny (model P w) X.A (letOwnedTupleGo tg (.ref it) u) (fun _ s2=>∃ x H',Inv X pins σ H' s2/\RelV x u/\J.yld i H x H'/\tn (i+1) s2.heap/\∀ b∈fp,H' b=none) E s1) E s
 done:∀ (X:Cx),X.prog=P->X.w=w->X.K=K->X.calm=true->∀ (i:Nat) (pins:List (Addr×Obj)) (s:Shared) (σ:St) (H:Hp) (E:Value->Shared->Prop),Inv X pins σ H s->(∀ b∈fp,gB X pins H b)->tn i s.heap->J.stop i H ->
  wpAny (model P w) X.A (pyNext (.ref it)) (fun r s1=>r=none/\Inv X pins σ H s1) E s
 self:∀ (A:Around) (i:Nat) (s:Shared) (Q:Value->Shared->Prop) (E:Value->Shared->Prop),tn i s.heap->Q (.ref it) s->wpAny (model P w) A (pyIter (.ref it)) Q E s
noncomputable abbrev TI:=St->Hp->(It->Hp->Prop)->Prop
noncomputable def PIE (X:Cx)(pins:List (Addr×Obj))(σ:St)(tg:Expr)(R:It->Hp->Prop)(itv:Value)(s2:Shared):Prop :=
 ∃ (it:Addr) (fp:List Addr) (tn:Nat->Heap->Prop) (J:It) (H':Hp),itv=.ref it/\Inv X pins σ H' s2/\qW X.prog X.w X.K tg J fp it tn/\tn 0 s2.heap/\(∀ b∈fp,gB X pins H' b)/\R J H'
noncomputable def PI (X:Cx)(tg iter:Expr)(wi:TI):Prop :=
 ∀ (pins:List (Addr×Obj)) (s:Shared) (σ:St) (H:Hp) (R:It->Hp->Prop),Inv X pins σ H s->wi σ H R ->
  wpAny (model X.prog X.w) X.A (eval iter X.env) (fun v s1=>wpAny (model X.prog X.w) X.A (pyIter v) (PIE X pins σ tg R) X.xe s1) X.xe s
theorem pZ {M:Model}{A:Around}{E:Value->Shared->Prop}{s:Shared}{tg:Expr}{it:Addr}{u:Value}{o:Obj}{n:String}{vs:Array Value}{Q:Unit->Shared->Prop}(ho:s.heap.get? it=some o)(hc:o.cls=.type n)(hd:o.data=.fields vs)
  (hn:["enumerate","zip","dict_itemiterator","dict_reverseitemiterator","odict_iterator","itertools.zip_longest","itertools.pairwise"].contains n=false) (hQ:Q () s):wpAny M A (letOwnedTupleGo tg (.ref it) u) Q E s:=by
 unfold letOwnedTupleGo
 cases tg<;>first
  | exact wpAny_pure hQ
  | (cases u<;>first
    | exact wpAny_pure hQ
    | (refine wpAny_bind (wpAny_load ho ?_)
       rw [hc,hd]
       show wpAny M A (if (["enumerate","zip","dict_itemiterator","dict_reverseitemiterator","odict_iterator","itertools.zip_longest","itertools.pairwise"].contains n&&vs[0]?==some (rawInt _))=true then _ else _) Q E s
       rw [if_neg (by intro h; rw [hn,a3M] at h; cases h)]
       exact wpAny_pure hQ))
noncomputable def Itl (K:a0a)(a:Addr):It :=
 ⟨fun i H=>∃ xs x,SqL K H a xs/\xs[i]?=some x,fun i H x H'=>H'=H/\∀ xs,SqL K H a xs->xs[i]?=some x,fun i H=>∃ xs,SqL K H a xs/\xs.length<=i⟩
noncomputable def Itt (K:a0a)(a:Addr):It :=
 ⟨fun i H=>∃ xs x,SqT K H a xs/\xs[i]?=some x,fun i H x H'=>H'=H/\∀ xs,SqT K H a xs->xs[i]?=some x,fun i H=>∃ xs,SqT K H a xs/\xs.length<=i⟩
noncomputable def Itr (lo:Int)(n:Nat):It:=⟨fun i _=>i < n,fun i H x H'=>H'=H/\x=.int (lo+i),fun i _=>n<=i⟩
theorem nH {P:Program}{w:World}{K:a0a}{tg:Expr}(a it:Addr):qW P w K tg (Itl K a) [it] it (fun i h=>h.IsListIter it a i) where
 mem:=by simp
 obj:=fun i h st b hb=>by
  have e:b=it:=by simpa using hb
  subst e
  obtain ⟨o,e,c,d⟩:=st
  exact ⟨o,e,fun v z=>by rw [d] at z; cases z⟩
 keep:=fun i h h' st k=>st.at fun o e=>k it (by simp) o e
 item:=by
  intro X hP hw hK hc i pins s σ H E I hf st hg
  subst hP hw hK
  obtain ⟨xs,x,hq,hx⟩:=hg
  obtain ⟨its,rv,p,hz⟩:=I.list hq
  obtain ⟨u,hu,ru⟩:=rv.get hx
  obtain ⟨f0,f1,f2,f3,f4,f5⟩:=hf it (by simp)
  refine wpAny_pyNext_list_item st p.isList (x:=u) (by simpa using hu) fun h' st' sb=>?_
  have I1:Inv X pins σ H { s with heap:=h' }:=I.turned (t':=s.toks) (fun b o hb e=>(sb.2 b hb).trans e) f0 f1 f3 f4 f5
  obtain ⟨o,e,c,d⟩:=id st'
  exact ⟨u,rfl,pZ (s:={ s with heap:=h' }) e c d (by decide) ⟨x,H,I1,ru,⟨rfl,fun ys hy=>by rw [I.list_inj hy hq]; exact hx⟩,st',fun b hb=>(hf b hb).1⟩⟩
 done:=by
  intro X hP hw hK hc i pins s σ H E I hf st hg
  subst hP hw hK
  obtain ⟨xs,hq,hx⟩:=hg
  obtain ⟨its,rv,p,hz⟩:=I.list hq
  obtain ⟨f0,f1,f2,f3,f4,f5⟩:=hf it (by simp)
  have hl:=rv.length
  exact wpAny_pyNext_list_end (I.ok.hd hc) st p.isList (by simp; omega) fun h' eb=>⟨rfl,I.turned (t':=s.toks) (fun b o hb e=>eb b o hb e) f0 f1 f3 f4 f5⟩
 self:=fun _ _ _ _ _ st h=>wpAny_pyIter_listiter st h
theorem ll {P:Program}{w:World}{K:a0a}{tg:Expr}(a it:Addr):qW P w K tg (Itt K a) [it] it (fun i h=>h.IsTupleIter it a i) where
 mem:=by simp
 obj:=fun i h st b hb=>by
  have e:b=it:=by simpa using hb
  subst e
  obtain ⟨o,e,c,d⟩:=st
  exact ⟨o,e,fun v z=>by rw [d] at z; cases z⟩
 keep:=fun i h h' st k=>st.at fun o e=>k it (by simp) o e
 item:=by
  intro X hP hw hK hc i pins s σ H E I hf st hg
  subst hP hw hK
  obtain ⟨xs,x,hq,hx⟩:=hg
  obtain ⟨its,rv,p,hz⟩:=I.tuple hq
  obtain ⟨u,hu,ru⟩:=rv.get hx
  obtain ⟨f0,f1,f2,f3,f4,f5⟩:=hf it (by simp)
  refine wpAny_pyNext_tuple_item st (show s.heap.IsTuple a its.toArray from p) (x:=u) (by simpa using hu) fun h' st' sb=>?_
  have I1:Inv X pins σ H { s with heap:=h' }:=I.turned (t':=s.toks) (fun b o hb e=>(sb.2 b hb).trans e) f0 f1 f3 f4 f5
  obtain ⟨o,e,c,d⟩:=id st'
  exact ⟨u,rfl,pZ (s:={ s with heap:=h' }) e c d (by decide) ⟨x,H,I1,ru,⟨rfl,fun ys hy=>by rw [I.tuple_inj hy hq]; exact hx⟩,st',fun b hb=>(hf b hb).1⟩⟩
 done:=by
  intro X hP hw hK hc i pins s σ H E I hf st hg
  subst hP hw hK
  obtain ⟨xs,hq,hx⟩:=hg
  obtain ⟨its,rv,p,hz⟩:=I.tuple hq
  obtain ⟨f0,f1,f2,f3,f4,f5⟩:=hf it (by simp)
  have hl:=rv.length
  exact wpAny_pyNext_tuple_end (I.ok.hd hc) st (show s.heap.IsTuple a its.toArray from p) (by simp; omega) fun h' eb=>⟨rfl,I.turned (t':=s.toks) (fun b o hb e=>eb b o hb e) f0 f1 f3 f4 f5⟩
 self:=fun _ _ _ _ _ st h=>wpAny_pyIter_tupleiter st h
theorem kI {P:Program}{w:World}{K:a0a}{tg:Expr}(it:Addr)(lo:Int)(n:Nat):qW P w K tg (Itr lo n) [it] it (fun i h=>IsRangeIter h it (lo+(i:Nat) * 1) ((n:Int)-(i:Nat)) 1) where
 mem:=by simp
 obj:=fun i h st b hb=>by
  have e:b=it:=by simpa using hb
  subst e
  exact ⟨_,st,fun v z=>by
   have z':Data.fields _=Data.cell v:=z
   cases z'⟩
 keep:=fun i h h' st k=>k it (by simp) _ st
 item:=by
  intro X hP hw hK hc i pins s σ H E I hf st hg
  subst hP hw hK
  obtain ⟨f0,f1,f2,f3,f4,f5⟩:=hf it (by simp)
  have W:=Walks.range (prog:=X.prog) (w:=X.w) (I.ok.hd hc) it lo 1 n
  refine W.item i s _ _ hg st fun v h' tk hv st' kk=>?_
  obtain ⟨t,rfl⟩:=hv
  have I1:Inv X pins σ H { s with heap:=h',toks:=tk }:=I.turned (fun b o hb e=>kk b o (by simpa using hb) e) f0 f1 f3 f4 f5
  refine ⟨_,rfl,pZ (s:={ s with heap:=h',toks:=tk }) (n:="range_iterator") st' rfl rfl (by decide) ⟨.int (lo+i),H,I1,⟨t,?_⟩,⟨rfl,rfl⟩,st',fun b hb=>(hf b hb).1⟩⟩
  rw [Int.mul_one]
 done:=by
  intro X hP hw hK hc i pins s σ H E I hf st hg
  subst hP hw hK
  obtain ⟨f0,f1,f2,f3,f4,f5⟩:=hf it (by simp)
  exact wpAny_pyNext_range_end (I.ok.hd hc) st (by have:n<=i:=hg; omega) fun h' eb=>⟨rfl,I.turned (t':=s.toks) (fun b o hb e=>eb b o hb e) f0 f1 f3 f4 f5⟩
 self:=fun _ _ _ _ _ st h=>wpAny_pyIter_rangeiter st h
end L2
namespace L2
open PySem PySem.Spec PyProof.Rows
section
variable {X:Cx}{tg:Expr}
noncomputable def w6 (K:a0a)(tl:TE):TI:=fun σ H R=>tl σ H fun x H1=>∃ a,x=.ref a/\(∃ xs,SqL K H1 a xs)/\R (Itl K a) H1
noncomputable def B9 (K:a0a)(tl:TE):TI:=fun σ H R=>tl σ H fun x H1=>∃ a,x=.ref a/\(∃ xs,SqT K H1 a xs)/\R (Itt K a) H1
theorem jb {l:Expr}{tl:TE}(hl:PE X l tl):PI X tg l (w6 X.K tl):=by
 intro pins s σ H R I h
 refine thn (hl pins s σ H _ I h) fun v s1 ⟨x,H1,I1,r1,q1⟩=>?_
 obtain ⟨a,e,⟨xs,hq⟩,q⟩:=q1
 subst e
 cases r1
 obtain ⟨its,rv,p,hz⟩:=I1.list hq
 refine wpAny_pyIter_list p.isList ?_
 refine ⟨s1.heap.objs.size,[s1.heap.objs.size],_,_,H1,rfl,I1.kept (t':=s1.toks) fun b o e=>Heap.get?_push_of_some _ e,nH a _,⟨_,Heap.get?_push_size _ rfl,rfl,rfl⟩,fun b hb=>?_,q⟩
 have e:b=s1.heap.objs.size:=by simpa using hb
 subst e
 exact I1.fpOk (a0d _) (I1.hok.fresh (a0d _))
theorem yU {l:Expr}{tl:TE}(hl:PE X l tl):PI X tg l (B9 X.K tl):=by
 intro pins s σ H R I h
 refine thn (hl pins s σ H _ I h) fun v s1 ⟨x,H1,I1,r1,q1⟩=>?_
 obtain ⟨a,e,⟨xs,hq⟩,q⟩:=q1
 subst e
 cases r1
 obtain ⟨its,rv,p,hz⟩:=I1.tuple hq
 refine wpAny_pyIter_tuple (show s1.heap.IsTuple a its.toArray from p) ?_
 refine ⟨s1.heap.objs.size,[s1.heap.objs.size],_,_,H1,rfl,I1.kept (t':=s1.toks) fun b o e=>Heap.get?_push_of_some _ e,ll a _,⟨_,Heap.get?_push_size _ rfl,rfl,rfl⟩,fun b hb=>?_,q⟩
 have e:b=s1.heap.objs.size:=by simpa using hb
 subst e
 exact I1.fpOk (a0d _) (I1.hok.fresh (a0d _))
theorem pj {pins:List (Addr×Obj)}{σ:St}{H:Hp}{s:Shared}{R:It->Hp->Prop}{E:Value->Shared->Prop}{lo hi:Int}{t u v:Tok}{tk:Nat}(I:Inv X pins σ H s)(h1:-(2 ^ 62)<=lo)(h2:lo < 2 ^ 62)(h3:-(2 ^ 62)<=hi)(h4:hi < 2 ^ 62)
  (q:R (Itr lo (hi-lo).toNat) H):wpAny (model X.prog X.w) X.A (pyIter (.ref s.heap.objs.size)) (PIE X pins σ tg R) E { s with heap:=s.heap.push { cls:=.type "range",data:=.fields #[.int lo t,.int hi u,.int 1 v] },toks:=tk }:=by
 refine wpAny_pyIter_range (IsRange.new ..) (small_one h1 h2 h3 h4) ?_
 have I1:Inv X pins σ H { s with heap:=s.heap.push { cls:=.type "range",data:=.fields #[.int lo t,.int hi u,.int 1 v] },toks:=tk }:=I.kept fun b o e=>Heap.get?_push_of_some _ e
 refine ⟨(s.heap.push { cls:=.type "range",data:=.fields #[.int lo t,.int hi u,.int 1 v] }).objs.size,[(s.heap.push { cls:=.type "range",data:=.fields #[.int lo t,.int hi u,.int 1 v] }).objs.size],_,_,H,rfl,
  I1.kept (t':=tk) fun b o e=>Heap.get?_push_of_some _ e,kI _ lo (hi-lo).toNat,?_,fun b hb=>?_,q⟩
 ·have e1:lo+((0:Nat):Int) * 1=lo:=by simp
  have e2:(((hi-lo).toNat:Nat):Int)-((0:Nat):Int)=Builtin.Range.rangeSize lo hi 1:=by rw [rangeSize_one]; split<;>omega
  show IsRangeIter _ _ (lo+((0:Nat):Int) * 1) ((((hi-lo).toNat:Nat):Int)-((0:Nat):Int)) 1
  rw [e1,e2]
  exact Heap.get?_push_size _ rfl
 ·have e:b=(s.heap.push { cls:=.type "range",data:=.fields #[.int lo t,.int hi u,.int 1 v] }).objs.size:=by simpa using hb
  subst e
  exact I1.fpOk (a0d _) (I1.hok.fresh (a0d _))
noncomputable def wV (ta:TA):TI:=fun σ H R=>ta σ H fun vs H1=>∃ j:Int,vs=[.int j]/\-(2 ^ 62)<=j/\j < 2 ^ 62/\R (Itr 0 j.toNat) H1
theorem mH {a:Expr}{ta:TA}{p pos:Pos}(hg:Gl X "range")(hm:X.mg "range"=none)(ha:PA X [a] ta)(hs:starEach [a] X.env=[(false,eval a X.env)]:=by rfl):PI X tg (.Call (.Name "range" p) [a] [] pos) (wV ta):=by
 intro pins s σ H R I h
 refine Call_ (dU I hg hm boot_range (a1c (thn (ha pos pins s σ H _ I h) fun us s1 ⟨vs,H1,I1,r1,q1⟩=>?_) hs rfl))
 obtain ⟨j,e,q1,q2,q⟩:=q1
 subst e
 cases r1 with
 | cons r rr =>
  cases rr
  obtain ⟨t,rfl⟩:=r
  exact call_range_1 (pj I1 (by omega) (by omega) q1 q2 (by simpa using q))
noncomputable def yn (wi:TI)(g:TG)(tb:TS):TS:=fun D σ H=>wi σ H fun J H1=>∃ W:Nat->Nat->St->Hp->Prop,(∃ m,W 0 m σ H1)/\∀ i m σ H,W i m σ H ->
 (J.stop i H/\D.nx σ H)\/(J.go i H/\∃ N:St->Hp->Prop,(∀ σ' H',N σ' H'->∃ m',m' < m/\W (i+1) m' σ' H')/\∀ x H',J.yld i H x H'->g x σ H' fun σ2 H2=>tb { D with nx:=N,ct:=N,bk:=D.nx } σ2 H2)
noncomputable def gr (fp:List Addr)(h:Heap):List (Addr×Obj):=fp.filterMap fun b=>(h.get? b).map fun o=>(b,o)
theorem bC {fp:List Addr}{h:Heap}{b:Addr}{o:Obj}(hb:b∈fp)(e:h.get? b=some o):(b,o)∈gr fp h:=a1r.mpr ⟨b,hb,by rw [e]; rfl⟩
theorem nK {fp:List Addr}{h:Heap}{p:Addr×Obj}(hp:p∈gr fp h):p.1∈fp/\h.get? p.1=some p.2:=by
 obtain ⟨b,hb,e⟩:=a1r.mp hp
 cases q:h.get? b with
 | none=>rw [q] at e; cases e
 | some o =>
  rw [q] at e
  have e':(b,o)=p:=a0w e
  subst e'
  exact ⟨hb,q⟩
theorem Inv.pinned {pins:List (Addr×Obj)}{σ:St}{H:Hp}{s:Shared}{fp:List Addr}(I:Inv X pins σ H s)(hf:∀ b∈fp,gB X pins H b)(ho:∀ b∈fp,∃ o,s.heap.get? b=some o/\∀ v,o.data≠.cell v):Inv X (pins++gr fp s.heap) σ H s :=
 I.pins_of fun p hp=>(a0T.mp hp).elim (fun z=>I.pin p (a0m _ z)) fun z=>by
  obtain ⟨hb,e⟩:=nK z
  obtain ⟨f0,f1,f2,_⟩:=hf p.1 hb
  obtain ⟨o,e',d⟩:=ho p.1 hb
  rw [e] at e'; cases e'
  exact ⟨e,f0,f1,f2,d⟩
theorem Inv.unpinned {pins pl:List (Addr×Obj)}{σ:St}{H:Hp}{s:Shared}(I:Inv X (pins++pl) σ H s):Inv X pins σ H s:=I.pins_of fun p hp=>I.pin p (a0m _ (a0v _ hp))
theorem iX {iter:Expr}{body:List Stmt}{wi:TI}{g:TG}{tb:TS}{pos:Pos}(hp:PassesOwn (model X.prog X.w) X.A X.env X.xe)(hc:X.calm=true)(hi:PI X tg iter wi)(hg:PG X tg g)(hb:PSs X body tb)
  (hs:∀ x,foldedSetIterable iter X.env x=pure x:=by intro _; rfl):PS X (.For tg iter body [] pos) (yn wi g tb):=by
 intro pins s σ H D I h
 refine wpAny_For (thn (hi pins s σ H _ I h) fun v s1 h1=>thn h1 fun itv s2 h2=>?_) hs
 obtain ⟨it,fp,tn,J,H2,e,I2,T,st2,f2,W,⟨m0,w0⟩,turn⟩:=h2
 subst e
 -- what stays true of the iterator's objects through the loop
 have stat:∀ {H':Hp},(∀ b∈fp,H' b=none)->∀ b∈fp,gB X pins H' b:=fun hn b hb=>⟨hn b hb,(f2 b hb).2⟩
 refine codeAny_forLoop_any (fun n s'=>∃ i σ' H',Inv X pins σ' H' s'/\tn i s'.heap/\(∀ b∈fp,H' b=none)/\W i n σ' H') ?_ m0 ⟨0,σ,H2,I2,st2,fun b hb=>(f2 b hb).1,w0⟩
 rintro n s3 ⟨i,σ3,H3,I3,st3,fr3,w3⟩
 rcases turn i n σ3 H3 w3 with ⟨stop,qn⟩ | ⟨go,N,hN,step⟩
 ·refine wpAny_passesOwn hp (thn (T.done X rfl rfl rfl hc i pins s3 σ3 H3 X.xe I3 (stat fr3) st3 stop) fun r s4 ⟨hr,I4⟩=>?_)
  subst hr
  exact wpAny_execs_nil ⟨σ3,H3,I4,qn⟩
 ·refine wpAny_passesOwn hp (thn (T.item X rfl rfl rfl hc i pins s3 σ3 H3 X.xe I3 (stat fr3) st3 go) fun r s4 ⟨u,hr,h4⟩=>?_)
  subst hr
  refine wpAny_passesOwn hp (thn h4 fun _ s5 ⟨x,H5,I5,r5,y5,st5,fr5⟩=>?_)
  have I5':=I5.pinned (stat fr5) (T.obj _ _ st5)
  refine wpAny_passesOwn hp (thn (hg _ s5 σ3 H5 x u _ I5' r5 (step x H5 y5)) fun _ s6 ⟨σ6,H6,I6,q6⟩=>?_)
  refine wpAny_passesOwn hp (thn (hb _ s6 σ6 H6 _ I6 q6) fun f s7 q7=>?_)
  have again:∀ {σ7:St} {H7:Hp},Inv X (pins++gr fp s5.heap) σ7 H7 s7->N σ7 H7->∃ m,m < n/\∃ i σ' H',Inv X pins σ' H' s7/\tn i s7.heap/\(∀ b∈fp,H' b=none)/\W i m σ' H':=fun {σ7 H7} I7 n7=>by
   obtain ⟨m',hm,w7⟩:=hN σ7 H7 n7
   refine ⟨m',hm,i+1,σ7,H7,I7.unpinned,T.keep _ _ _ st5 fun b hb o e=>(I7.pin (b,o) (a0m _ (a0m _ (bC hb e)))).1,fun b hb=>?_,w7⟩
   obtain ⟨o,e,d⟩:=T.obj _ _ st5 b hb
   exact (I7.pin (b,o) (a0m _ (a0m _ (bC hb e)))).2.1
  cases f with
  | next=>obtain ⟨σ7,H7,I7,n7⟩:=q7; exact again I7 n7
  | cont=>obtain ⟨σ7,H7,I7,n7⟩:=q7; exact again I7 n7
  | brk=>obtain ⟨σ7,H7,I7,q7⟩:=q7; exact ⟨σ7,H7,I7.unpinned,q7⟩
  | ret v=>obtain ⟨x7,σ7,H7,I7,r7,q7⟩:=q7; exact ⟨x7,σ7,H7,I7.unpinned,r7,q7⟩
end
theorem f6 {K:a0a}{a:Addr}{xs:List V}{g:TG}{tb:TS}{D:bL}{σ:St}{H:Hp}(Pv:Nat->St->Hp->Prop)(h0:Pv 0 σ H)(hl:∀ i σ H,i<=xs.length->Pv i σ H->SqL K H a xs)
  (hs:∀ i x σ H,xs[i]?=some x->Pv i σ H->g x σ H fun σ2 H2=>tb { D with nx:=Pv (i+1),ct:=Pv (i+1),bk:=D.nx } σ2 H2) (hd:∀ σ H,Pv xs.length σ H->D.nx σ H) :
  ∃ W:Nat->Nat->St->Hp->Prop,(∃ m,W 0 m σ H)/\∀ i m σ H,W i m σ H ->
   ((Itl K a).stop i H/\D.nx σ H)\/((Itl K a).go i H/\∃ N:St->Hp->Prop,(∀ σ' H',N σ' H'->∃ m',m' < m/\W (i+1) m' σ' H')/\∀ x H',(Itl K a).yld i H x H'->g x σ H' fun σ2 H2=>tb { D with nx:=N,ct:=N,bk:=D.nx } σ2 H2):=by
 refine ⟨fun i m σ H=>m=xs.length-i/\i<=xs.length/\Pv i σ H,⟨xs.length,by simp,a0O _,h0⟩,?_⟩
 rintro i m σ H ⟨rfl,hi,p⟩
 have q:=hl i σ H hi p
 by_cases hlt:i < xs.length
 ·refine .inr ⟨⟨xs,xs[i],q,by simp [hlt]⟩,Pv (i+1),fun σ' H' p'=>⟨xs.length-(i+1),by omega,rfl,hlt,p'⟩,fun x H' y=>?_⟩
  obtain ⟨e,y⟩:=y
  subst e
  exact hs i x σ _ (y xs q) p
 ·have e:i=xs.length:=by omega
  subst e
  exact .inl ⟨⟨xs,q,a0d _⟩,hd σ H p⟩
end L2
namespace L2
open PySem PySem.Spec PyProof.Rows
noncomputable abbrev R2:=V->V->Hp->VK->Prop
noncomputable def OpR (X:Cx)(f:Value->Value->Sem Value)(r:R2):Prop :=
 ∀ (pins:List (Addr×Obj)) (s:Shared) (σ:St) (H:Hp) (x y:V) (v u:Value) (Q:VK),Inv X pins σ H s->RelV x v->RelV y u->r x y H Q ->
  wpAny (model X.prog X.w) X.A (f v u) (EP X pins σ Q) X.xe s
noncomputable def cq (X:Cx)(f:Value)(r:List V->Hp->VK->Prop):Prop :=
 ∀ (pins:List (Addr×Obj)) (s:Shared) (σ:St) (H:Hp) (xs:List V) (us:List Value) (Q:VK),Inv X pins σ H s->Vals xs us->r xs H Q ->
  wpAny (model X.prog X.w) X.A (call f us) (EP X pins σ Q) X.xe s
noncomputable def DF (X:Cx)(r:V->Hp->(Bool->Hp->Prop)->Prop):Prop :=
 ∀ (pins:List (Addr×Obj)) (s:Shared) (σ:St) (H:Hp) (x:V) (v:Value) (Q:Bool->Hp->Prop),Inv X pins σ H s->RelV x v->r x H Q ->
  wpAny (model X.prog X.w) X.A (truthy v) (TP X pins σ Q) X.xe s
noncomputable def tOp (r:R2)(ta tb:TE):TE:=fun σ H Q=>ta σ H fun x H1=>tb σ H1 fun y H2=>r x y H2 Q
noncomputable def rI (C:Int->Int->Prop)(g:Int->Int->V):R2:=fun x y H Q=>∃ i j,x=.int i/\y=.int j/\C i j/\Q (g i j) H
noncomputable def rI0 (g:Int->Int->V):R2:=fun x y H Q=>∃ i j,x=.int i/\y=.int j/\Q (g i j) H
section
variable {X:Cx}{a b c:Expr}{ta tb tc:TE}{pos:Pos}
theorem zI (ha:PE X a ta)(hb:PE X b tb){pins:List (Addr×Obj)}{s:Shared}{σ:St}{H:Hp}{R:V->V->Hp->Prop}(I:Inv X pins σ H s)
  (h:ta σ H fun x H1=>tb σ H1 fun y H2=>R x y H2) {Q:Value->Shared->Prop} {f:Value->Value->Sem Value}
  (hf:∀ v u s2 x y H2,Inv X pins σ H2 s2->RelV x v->RelV y u->R x y H2->wpAny (model X.prog X.w) X.A (f v u) Q X.xe s2) :
  wpAny (model X.prog X.w) X.A (eval a X.env) (fun v s₁=>wpAny (model X.prog X.w) X.A (eval b X.env) (fun u s₂=>wpAny (model X.prog X.w) X.A (f v u) Q X.xe s₂) X.xe s₁) X.xe s:=by
 refine thn (ha pins s σ H _ I h) fun v s1 ⟨x,H1,I1,r1,q1⟩=>?_
 refine thn (hb pins s1 σ H1 _ I1 q1) fun u s2 ⟨y,H2,I2,r2,q2⟩=>?_
 exact hf v u s2 x y H2 I2 r1 r2 q2
theorem ff {op:Operator}{r:R2}(ho:OpR X (binaryOp op) r)(ha:PE X a ta)(hb:PE X b tb):PE X (.BinOp a op b pos) (tOp r ta tb):=by
 intro pins s σ H Q I h
 exact wpAny_BinOp (zI ha hb I h fun v u s2 x y H2 I2 rx ry q=>ho pins s2 σ H2 x y v u Q I2 rx ry q)
theorem opI {f:Value->Value->Sem Value}{C:Int->Int->Prop}{g:Int->Int->Int}
  (rule:∀ (i j:Int) (t u:Tok) (s:Shared) (Q:Value->Shared->Prop) (E:Value->Shared->Prop),C i j->Q (.int (g i j) s.toks) { s with toks:=s.toks+1 }->wpAny (model X.prog X.w) X.A (f (.int i t) (.int j u)) Q E s) :
  OpR X f (rI C fun i j=>.int (g i j)):=by
 intro pins s σ H x y v u Q I rx ry h
 obtain ⟨i,j,rfl,rfl,hc,q⟩:=h
 obtain ⟨t,rfl⟩:=rx
 obtain ⟨t',rfl⟩:=ry
 exact rule i j t t' s _ _ hc ⟨.int (g i j),H,I.tok _,⟨_,rfl⟩,q⟩
theorem Bb {f:Value->Value->Sem Value}{g:Int->Int->Int}
  (rule:∀ (i j:Int) (t u:Tok) (s:Shared) (Q:Value->Shared->Prop) (E:Value->Shared->Prop),Q (.int (g i j) s.toks) { s with toks:=s.toks+1 }->wpAny (model X.prog X.w) X.A (f (.int i t) (.int j u)) Q E s) :
  OpR X f (rI0 fun i j=>.int (g i j)):=by
 intro pins s σ H x y v u Q I rx ry h
 obtain ⟨i,j,rfl,rfl,q⟩:=h
 obtain ⟨t,rfl⟩:=rx
 obtain ⟨t',rfl⟩:=ry
 exact rule i j t t' s _ _ ⟨.int (g i j),H,I.tok _,⟨_,rfl⟩,q⟩
theorem tS {f:Value->Value->Sem Value}{g:Int->Int->Bool}
  (rule:∀ (i j:Int) (t u:Tok) (s:Shared) (Q:Value->Shared->Prop) (E:Value->Shared->Prop),Q (.bool (g i j)) s->wpAny (model X.prog X.w) X.A (f (.int i t) (.int j u)) Q E s) :
  OpR X f (rI0 fun i j=>.bl (g i j)):=by
 intro pins s σ H x y v u Q I rx ry h
 obtain ⟨i,j,rfl,rfl,q⟩:=h
 obtain ⟨t,rfl⟩:=rx
 obtain ⟨t',rfl⟩:=ry
 exact rule i j t t' s _ _ ⟨.bl (g i j),H,I,rfl,q⟩
noncomputable def Ah (i j:Int):Prop:=0 < j/\j < 1073741824
noncomputable def zU (i j:Int):Prop:=0<=j/\j<=1000000/\i.natAbs < 2 ^ 64
noncomputable def CMul (i j:Int):Prop:=(-(2 ^ 64) < i/\i < 2 ^ 64)\/(-(2 ^ 64) < j/\j < 2 ^ 64)
theorem CMul.ok {i j:Int}(h:CMul i j):IntMulOk i j:=by
 rcases h with ⟨h1,h2⟩ | ⟨h1,h2⟩
 ·exact .of_left (intBits_le_64 h1 h2)
 ·exact .of_right (intBits_le_64 h1 h2)
theorem op_add:OpR X (binaryOp .Add) (rI0 fun i j=>.int (i+j)):=Bb fun _ _ _ _ _ _ _ q=>add_int q
theorem Aa:OpR X (binaryOp .Sub) (rI0 fun i j=>.int (i-j)):=Bb fun _ _ _ _ _ _ _ q=>sub_int q
theorem op_mul:OpR X (binaryOp .Mult) (rI CMul fun i j=>.int (i * j)):=opI fun _ _ _ _ _ _ _ hc q=>mul_int q hc.ok
theorem uu:OpR X (binaryOp .FloorDiv) (rI Ah fun i j=>.int (i / j)):=opI fun i j _ _ _ _ _ hc q=>by
 have h1:(0:Int) < j:=hc.1
 have h2:j < 1073741824:=hc.2
 exact floordiv_int (by omega) (by rw [Int.fdiv_eq_ediv_of_nonneg i (by omega)]; exact q) (.inl (PyProof.noPylong_small (by omega)))
theorem AE:OpR X (binaryOp .Mod) (rI (fun _ j=>0 < j) fun i j=>.int (i % j)):=opI fun i j _ _ _ _ _ hc q=>by
 have h1:(0:Int) < j:=hc
 exact mod_int' (by omega) (by rw [Int.fmod_eq_emod_of_nonneg i (by omega)]; exact q)
theorem zw:OpR X (binaryOp .Pow) (rI zU fun i j=>.int (i ^ j.toNat)):=opI fun _ _ _ _ _ _ _ hc q=>pow_int_small hc.1 hc.2.1 hc.2.2 q
end
section
variable {X:Cx}{a b c:Expr}{ta tb tc:TE}{pos:Pos}
theorem wd:OpR X (compareOp .Lt) (rI0 fun i j=>.bl (decide (i < j))):=tS fun _ _ _ _ _ _ _ q=>lt_int q
theorem Cs:OpR X (compareOp .LtE) (rI0 fun i j=>.bl (decide (i<=j))):=tS fun _ _ _ _ _ _ _ q=>le_int q
theorem C9:OpR X (compareOp .Gt) (rI0 fun i j=>.bl (decide (j < i))):=tS fun _ _ _ _ _ _ _ q=>gt_int q
theorem Bv:OpR X (compareOp .GtE) (rI0 fun i j=>.bl (decide (j<=i))):=tS fun _ _ _ _ _ _ _ q=>ge_int q
theorem OpR.or {f:Value->Value->Sem Value}{r r':R2}(h:OpR X f r)(h':OpR X f r'):OpR X f (fun x y H Q=>r x y H Q\/r' x y H Q):=by
 intro pins s σ H x y v u Q I rx ry q
 rcases q with q | q
 ·exact h pins s σ H x y v u Q I rx ry q
 ·exact h' pins s σ H x y v u Q I rx ry q
theorem eV (b:Expr){op:CmpOp}(h:op≠.In:=by decide)(h2:op≠.NotIn:=by decide):behindInMarks op b=false:=by
 have e1:(op==CmpOp.In)=false:=by cases op<;>first | rfl | exact absurd rfl h
 have e2:(op==CmpOp.NotIn)=false:=by cases op<;>first | rfl | exact absurd rfl h2
 cases b<;>simp [behindInMarks,e1,e2]
theorem sW {op:CmpOp}{r:R2}(ho:OpR X (compareOp op) r)(ha:PE X a ta)(hb:PE X b tb)(hm:behindInMarks op b=false):PE X (.Compare a [op] [b] pos) (tOp r ta tb):=by
 intro pins s σ H Q I h
 exact wpAny_Compare1 (zI ha hb I h fun v u s2 x y H2 I2 rx ry q=>ho pins s2 σ H2 x y v u Q I2 rx ry q) hm
noncomputable def oV (t:TE):TT:=fun σ H Q=>t σ H fun x H'=>∃ k,x=.bl k/\Q k H'
theorem ur {op:CmpOp}{r:R2}(ho:OpR X (compareOp op) r)(ha:PE X a ta)(hb:PE X b tb)(hm:behindInMarks op b=false):PT X (.Compare a [op] [b] pos) (oV (tOp r ta tb)):=by
 intro pins s σ H Q I h
 refine wpAny_isTrue_Compare1 (thn (ha pins s σ H _ I h) fun v s1 ⟨x,H1,I1,r1,q1⟩=>thn (hb pins s1 σ H1 _ I1 q1) fun u s2 ⟨y,H2,I2,r2,q2⟩ =>
  thn (ho pins s2 σ H2 x y v u _ I2 r1 r2 q2) fun c s3 ⟨z,H3,I3,r3,k,e,q3⟩=>?_) hm
 subst e
 cases r3
 exact wpAny_truthy_bool ⟨H3,I3,q3⟩
noncomputable def pw (r r':R2)(ta tb tc:TE):TE:=fun σ H Q=>ta σ H fun x H1=>tb σ H1 fun y H2=>r x y H2 fun z H3=>∃ k,z=.bl k /\
 (if k=true then tc σ H3 fun w' H4=>r' y w' H4 Q else Q (.bl false) H3)
theorem qM {op op':CmpOp}{r r':R2}(ho:OpR X (compareOp op) r)(ho':OpR X (compareOp op') r')(ha:PE X a ta)(hb:PE X b tb)(hc:PE X c tc)
  (hm:lastMarks [op,op'] [b,c]=false:=by with_unfolding_all rfl):PT X (.Compare a [op,op'] [b,c] pos) (oV (pw r r' ta tb tc)):=by
 intro pins s σ H Q I h
 refine isTrue_chain (thn (ha pins s σ H _ I h) fun v s1 ⟨x,H1,I1,r1,q1⟩=>test_link (thn (hb pins s1 σ H1 _ I1 q1) fun u s2 ⟨y,H2,I2,r2,q2⟩ =>
  thn (ho pins s2 σ H2 x y v u _ I2 r1 r2 q2) fun d s3 ⟨z,H3,I3,r3,k,e,q3⟩=>?_)) hm
 subst e
 cases r3
 refine wpAny_truthy_bool ?_
 cases k with
 | false =>
  obtain ⟨k',e',q'⟩:=q3
  cases e'
  exact ite_ff ⟨H3,I3,q'⟩
 | true =>
  refine ite_tt (test_last (thn (hc pins s3 σ H3 _ I3 q3) fun w' s4 ⟨z',H4,I4,r4,q4⟩=>thn (ho' pins s4 σ H4 y z' u w' _ I4 r2 r4 q4) fun d' s5 ⟨z2,H5,I5,r5,k2,e2,q5⟩=>?_))
  subst e2
  cases r5
  exact wpAny_truthy_bool ⟨H5,I5,q5⟩
noncomputable def rh (K:a0a)(x:V)(H:Hp)(k:Bool):Prop :=
 match x with
 | .non=>k=false
 | .bl b=>k=b
 | .int i=>k=(i != 0)
 | .str y=>y.length<=sizeLine/\k=((y.length:Int) != 0)
 | .byt y=>y.size<=sizeLine/\k=((y.size:Int) != 0)
 | .ref p=>(∃ xs,SqL K H p xs/\k=!xs.isEmpty)\/(∃ xs,SqT K H p xs/\k=!xs.isEmpty)\/∃ kvs,H p=some (.dK kvs)/\k=!kvs.isEmpty
 | _=>False
theorem kG {κ:Type}{kvs:List (κ×V)}{vs:List (κ×Value)}(r:KV kvs vs):(!vs.isEmpty)=!kvs.isEmpty:=by
 cases r<;>rfl
theorem fN {xs:List V}{its:List Value}(r:Vals xs its):(!its.toArray.isEmpty)=!xs.isEmpty:=by
 cases r<;>simp
theorem eK:(sizeLine:Nat) < 2 ^ 63:=by rw [sizeLine_eq]; decide
theorem kO:DF X (fun x H Q=>∃ k,rh X.K x H k/\Q k H):=by
 intro pins s σ H x v Q I rx h
 obtain ⟨k,e,q⟩:=h
 have hl:=eK
 have hs:sizeLine=16777216:=sizeLine_eq
 cases x with
 | non =>
  cases rx
  have e':k=false:=e
  subst e'
  exact truthy_none ⟨H,I,q⟩
 | bl b =>
  cases rx
  have e':k=b:=e
  subst e'
  exact wpAny_truthy_bool ⟨H,I,q⟩
 | int i =>
  obtain ⟨t,rfl⟩:=rx
  have e':k=(i != 0):=e
  subst e'
  exact PySem.P.truthy_int ⟨H,I,q⟩
 | str y =>
  obtain ⟨t,rfl⟩:=rx
  obtain ⟨hy,e'⟩:y.length<=sizeLine/\k=((y.length:Int) != 0):=e
  subst e'
  exact PySem.P.truthy_str (by omega) ⟨H,I.tok _,q⟩
 | byt y =>
  obtain ⟨t,rfl⟩:=rx
  obtain ⟨hy,e'⟩:y.size<=sizeLine/\k=((y.size:Int) != 0):=e
  subst e'
  exact PySem.W.truthy_bytes (by omega) ⟨H,I.tok _,q⟩
 | ref p =>
  cases rx
  have e':(∃ xs,SqL X.K H p xs/\k=!xs.isEmpty)\/(∃ xs,SqT X.K H p xs/\k=!xs.isEmpty)\/∃ kvs,H p=some (.dK kvs)/\k=!kvs.isEmpty:=e
  rcases e' with ⟨xs,hx,e'⟩ | ⟨xs,hx,e'⟩ | ⟨kvs,hx,e'⟩
  ·subst e'
   obtain ⟨its,r,pl,hz⟩:=I.list hx
   have hlen:=r.length
   exact wpAny_truthy_list pl.isList (by simp only [a0l]; omega) ⟨H,I.tok _,by rw [fN r]; exact q⟩
  ·subst e'
   obtain ⟨its,r,pl,hz⟩:=I.tuple hx
   have hlen:=r.length
   exact truthy_tuple pl (by simp only [a0l]; omega) ⟨H,I.tok _,by rw [fN r]; exact q⟩
  ·subst e'
   obtain ⟨hz,hS,vs,r,m⟩:kvs.length<=sizeLine/\(p==sysModules)=false/\∃ vs,KV kvs vs/\s.heap.DictOf (iH X.prog X.w) p vs:=I.hok p _ hx
   have hlen:kvs.length=vs.length:=Paired.length r
   exact wpAny_truthy_dict hS m (by omega) ⟨H,I.tok _,by rw [kG r]; exact q⟩
 | _=>exact (show False from e).elim
theorem ql (ha:PE X a ta)(he:∀ whole,isTrue a X.env whole=(do let v <- whole; standAt a.pos; holding [v] (truthy v))) :
  PT X a (fun σ H Q=>ta σ H fun x H'=>∃ k,rh X.K x H' k/\Q k H'):=by
 intro pins s σ H Q I h
 exact isTrue_plain (thn (ha pins s σ H _ I h) fun v s1 ⟨x,H1,I1,r1,q1⟩=>kO pins s1 σ H1 x v Q I1 r1 q1) (he _)
theorem op_add_str:OpR X (binaryOp .Add) (fun x y H Q=>∃ i j,x=.str i/\y=.str j/\i.length+j.length<=sizeLine/\Q (.str (i++j)) H):=by
 intro pins s σ H x y v u Q I rx ry h
 obtain ⟨i,j,rfl,rfl,hz,q⟩:=h
 obtain ⟨t,rfl⟩:=rx
 obtain ⟨t',rfl⟩:=ry
 exact add_str (fun t' tk=>⟨.str (i++j),H,I.tok _,⟨_,rfl⟩,q⟩) hz
theorem hZ {x:V}{us:List Value}(r:Vals [x] us):∃ u,us=[u]/\RelV x u:=by
 cases r with
 | cons r1 r2=>cases r2; exact ⟨_,rfl,r1⟩
theorem fm {x y:V}{us:List Value}(r:Vals [x,y] us):∃ u w',us=[u,w']/\RelV x u/\RelV y w':=by
 cases r with
 | cons r1 r2 =>
  cases r2 with
  | cons r3 r4=>cases r4; exact ⟨_,_,rfl,r1,r3⟩
theorem nW (hc:X.calm=true):cq X (.builtin "max") (fun xs H Q=>∃ i j,xs=[.int i,.int j]/\Q (.int (if j > i then j else i)) H):=by
 intro pins s σ H xs us Q I r h
 obtain ⟨i,j,rfl,q⟩:=h
 obtain ⟨u,w',rfl,⟨t,rfl⟩,⟨t',rfl⟩⟩:=fm r
 refine max_two_ints (I.ok.hd hc) fun h' tk k=>⟨_,H,I.kept k,?_,q⟩
 by_cases hj:j > i
 ·rw [if_pos hj,if_pos hj]; exact ⟨_,rfl⟩
 ·rw [if_neg hj,if_neg hj]; exact ⟨_,rfl⟩
noncomputable def Dh (K:a0a)(x:V)(H:Hp)(n:Nat):Prop :=
 match x with
 | .str y=>y.length<=sizeLine/\n=y.length
 | .byt y=>y.size<=sizeLine/\n=y.size
 | .ref p=>(∃ xs,SqL K H p xs/\n=xs.length)\/∃ xs,SqT K H p xs/\n=xs.length
 | _=>False
theorem oA:cq X (.builtin "len") (fun xs H Q=>∃ x n,xs=[x]/\Dh X.K x H n/\Q (.int n) H):=by
 intro pins s σ H xs us Q I r h
 obtain ⟨x,n,rfl,e,q⟩:=h
 obtain ⟨u,rfl,rx⟩:=hZ r
 have hl:=eK
 have hs:sizeLine=16777216:=sizeLine_eq
 cases x with
 | str y =>
  obtain ⟨t,rfl⟩:=rx
  obtain ⟨hy,e'⟩:y.length<=sizeLine/\n=y.length:=e
  subst e'
  exact len_str (by omega) ⟨.int _,H,I.tok _,⟨_,rfl⟩,q⟩
 | byt y =>
  obtain ⟨t,rfl⟩:=rx
  obtain ⟨hy,e'⟩:y.size<=sizeLine/\n=y.size:=e
  subst e'
  exact PySem.W.len_bytes (by omega) ⟨.int _,H,I.tok _,⟨_,rfl⟩,q⟩
 | ref p =>
  cases rx
  have e':(∃ xs,SqL X.K H p xs/\n=xs.length)\/∃ xs,SqT X.K H p xs/\n=xs.length:=e
  rcases e' with ⟨xs,hx,e'⟩ | ⟨xs,hx,e'⟩
  ·subst e'
   obtain ⟨its,r',pl,hz⟩:=I.list hx
   have hlen:=r'.length
   exact Calls.call_len_list pl.isList (by simp only [a0l]; omega) ⟨.int xs.length,H,I.tok _,⟨_,by simp only [a0l]; rw [hlen]⟩,q⟩
  ·subst e'
   obtain ⟨its,r',pl,hz⟩:=I.tuple hx
   have hlen:=r'.length
   exact len_tuple pl (by simp only [a0l]; omega) ⟨.int xs.length,H,I.tok _,⟨_,by simp only [a0l]; rw [hlen]⟩,q⟩
 | _=>exact (show False from e).elim
end
end L2
namespace L2
open PySem PySem.Spec PyProof.Rows
structure ObjM (h:Heap)(x dx C:Addr)(mA:Str->Option Value):Prop where
 obj:h.get? x=some (a2Z C dx)
 ns:h.Ns1 dx mA
 ne:dx≠x
theorem eT {h:Heap}{dx:Addr}{mA:Str->Option Value}(n:h.Ns1 dx mA):∃ od,h.get? dx=some od/\∀ name,a3c name od=some (mA name):=by
 obtain ⟨o,es,ep,ho,hd,hk,_,hm⟩:=n
 refine ⟨o,ho,fun name=>?_⟩
 have e:=hm name
 unfold nsFind findBy at e
 rw [<- a3k] at e
 unfold a3c
 rw [hd]
 dsimp only
 split
 ·rename_i y q
  rw [q] at e
  exact congrArg some e
 ·rename_i q
  rw [q] at e
  have a:es.toList.any (·.refKey)=false:=by
   rw [List.any_eq_false]
   intro y hy
   obtain ⟨z,t,hkey⟩:=hk y (Array.mem_toList_iff.mp hy)
   simp [DictEntry.refKey,hkey]
  have a':¬ es.toList.any (·.refKey)=true:=by rw [a]; exact a0r
  rw [if_neg a']
  exact congrArg some e
theorem ObjM.look {h:Heap}{x dx C:Addr}{mA:Str->Option Value}(I:ObjM h x dx C mA):∃ od,a1u h x (a2Z C dx) C (some od)/\∀ name,a3c name od=some (mA name) :=
 let ⟨od,ho,hl⟩:=eT I.ns
 ⟨od,⟨I.obj,rfl,rfl,ho⟩,hl⟩
noncomputable def BL (f:Str)(v:V):List (Str×V)->List (Str×V)
 | []=>[(f,v)]
 | (g,x)::r=>if g=f then (g,v)::r else (g,x)::BL f v r
theorem RelO.some_of {v:V}{o:Option Value}(r:RelO (some v) o):∃ u,o=some u/\RelV v u:=by
 cases o with
 | none=>exact (show False from r).elim
 | some u=>exact ⟨u,rfl,r⟩
theorem mL {v:V}{u:Value}(r:RelV v u):a3y u=true:=by
 cases v with
 | non=>cases (show u=Value.none from r); rfl
 | bl b=>cases (show u=Value.bool b from r); rfl
 | int i=>obtain ⟨t,e⟩:=(show ∃ t,u=Value.int i t from r); cases e; rfl
 | str x=>obtain ⟨t,e⟩:=(show ∃ t,u=Value.str x t from r); cases e; rfl
 | byt b=>obtain ⟨t,e⟩:=(show ∃ t,u=Value.bytes b t from r); cases e; rfl
 | flt b=>obtain ⟨t,e⟩:=(show ∃ t,u=Value.float b t from r); cases e; rfl
 | ref a=>cases (show u=Value.ref a from r); rfl
 | ty n=>cases (show u=Value.type n from r); rfl
section
variable {P:Program}{w:World}{H H':Hp}{h h':Heap}{a C dx:Addr}{fs fs':List (Str×V)}
theorem sF (hok:HOk P w H h)(e:H a=some (.ins C dx fs)):∃ mA,ObjM h a dx C mA/\(∀ f,RelO (fs.lookup f) (mA f))/\a32 mA (fs.map (·.1))/\fs.length<=1000/\H dx=some (.own a):=by
 obtain ⟨d,z,ne,ob,mA,n,r,q⟩:=(show ObjOk P w H h a (.ins C dx fs) from hok a _ e)
 exact ⟨mA,⟨ob,n,ne⟩,r,q,z,d⟩
end
structure Cls (K:a0a)(C:Addr):Prop where
 pg:a3z K C Str.empty=true
 hd:a1g K C=true
 po:PySem.W.plainOver K C=true
 sa:a0D K (.ref C) "__setattr__"=some (some (.builtin "object.__setattr__"))
theorem Cls.get {K:a0a}{C:Addr}(c:Cls K C)(f:Str):a3z K C f=true:=c.pg
section
variable {X:Cx}{pins:List (Addr×Obj)}{σ:St}{H:Hp}{s:Shared}{a C dx:Addr}{fs:List (Str×V)}{f:Str}{v:V}{A:Around}{E:Value->Shared->Prop}
theorem uQ {prog:Program}{w:World}{env:Env}{e:Expr}{f:Str}{pos:Pos}{s:Shared}{Q:Value->Shared->Prop}(hb:attributeBase e f env (eval e env)=eval e env)
  (h:wpAny (model prog w) A (eval e env) (fun o s₁=>wpAny (model prog w) A (getAttr o f true) Q E s₁) E s):wpAny (model prog w) A (eval (.Attribute e f pos) env) Q E s :=
 Attribute_any_ h (by rw [arm_eval_Attribute,hb])
end
section
variable {X:Cx}{pins:List (Addr×Obj)}{σ:St}{H:Hp}{s:Shared}{A:Around}{E:Value->Shared->Prop}{Q:Value->Shared->Prop}{c:Value}{b:Bool}
inductive fq (K:a0a)(H:Hp):V->Value->Prop where
 | non:fq K H .non (.type "NoneType")
 | bl (x:Bool):fq K H (.bl x) (.type "bool")
 | int (i:Int):fq K H (.int i) (.type "int")
 | str (x:Str):fq K H (.str x) (.type "str")
 | flt (x:UInt64):fq K H (.flt x) (.type "float")
 | lst {a:Addr} {xs:List V} (e:H a=some (.lst xs)):fq K H (.ref a) (.type "list")
 | frz {a:Addr} {o:Obj} {xs:List V} (e:H a=some (.frz o (.lst xs))):fq K H (.ref a) (.type "list")
 | tup {a:Addr} {xs:List V} (e:H a=some (.tup xs)):fq K H (.ref a) (.type "tuple")
 | dK {a:Addr} {kvs:List (Key×V)} (e:H a=some (.dK kvs)):fq K H (.ref a) (.type "dict")
 | dT {a:Addr} {kvs:List (List Key×V)} (e:H a=some (.dT kvs)):fq K H (.ref a) (.type "dict")
 | ins {a C dx:Addr} {fs:List (Str×V)} (e:H a=some (.ins C dx fs)) (cl:Cls K C) (ha:a0D K (.ref C) "__class__"=some (some (.builtin "object.__class__")))
   (hn:a1x K (.builtin "object.__class__") "__get__"=some (some (.builtin "getset_descriptor.__get__"))) (htk:a10 K (.builtin "object.__class__")=some true)
   (hm:a11 K C (.type "object")=some true):fq K H (.ref a) (.ref C)
theorem cI {x:V}{u t:Value}(I:Inv X pins σ H s)(rx:RelV x u)(ty:fq X.K H x t)(e:a0y X.K t c=some b)(h:∀ tk,Q (.bool b) { s with toks:=tk }) :
  wpAny (model X.prog X.w) A (call (.builtin "isinstance") [u,c]) Q E s:=by
 cases ty with
 | non=>cases (show u=Value.none from rx); exact a0P a2E I.kIn a0x e (fun z=>nomatch z) h
 | bl y=>cases (show u=Value.bool y from rx); exact a0P a2F I.kIn a0x e (fun z=>nomatch z) h
 | int i=>obtain ⟨t,q⟩:=(show ∃ t,u=Value.int i t from rx); cases q; exact a0P a2N I.kIn a0x e (fun z=>nomatch z) h
 | str y=>obtain ⟨t,q⟩:=(show ∃ t,u=Value.str y t from rx); cases q; exact a0P a2O I.kIn a0x e (fun z=>nomatch z) h
 | flt y=>obtain ⟨t,q⟩:=(show ∃ t,u=Value.float y t from rx); cases q; exact a0P PySem.W.kitx_float I.kIn a0x e (fun z=>nomatch z) h
 | @lst a xs ea =>
  cases (show u=Value.ref a from rx)
  obtain ⟨_,_,n,_,h1⟩:=(show ObjOk X.prog X.w H s.heap a (.lst xs) from I.hok a _ ea)
  exact a0P a1J I.kIn ⟨_,h1,rfl⟩ e (fun z=>nomatch z) h
 | @frz a ob xs ea =>
  cases (show u=Value.ref a from rx)
  obtain ⟨_,_,_,n,_,h1⟩:=(show ObjOk X.prog X.w H s.heap a (.frz ob (.lst xs)) from I.hok a _ ea)
  exact a0P a1J I.kIn ⟨_,h1,rfl⟩ e (fun z=>nomatch z) h
 | @tup a xs ea =>
  cases (show u=Value.ref a from rx)
  obtain ⟨_,_,_,p⟩:=(show ObjOk X.prog X.w H s.heap a (.tup xs) from I.hok a _ ea)
  obtain ⟨o,h1,h2,_⟩:=p
  exact a0P a12 I.kIn ⟨o,h1,h2⟩ e (fun z=>nomatch z) h
 | @dK a kvs ea =>
  cases (show u=Value.ref a from rx)
  obtain ⟨_,_,vs,_,p⟩:=(show ObjOk X.prog X.w H s.heap a (.dK kvs) from I.hok a _ ea)
  obtain ⟨o,es,ep,h1,h2,_⟩:=p
  exact a0P a3v I.kIn ⟨o,h1,h2.1⟩ e (fun z=>nomatch z) h
 | @dT a kvs ea =>
  cases (show u=Value.ref a from rx)
  obtain ⟨_,_,xs,_,o,es,ep,h1,h2,_⟩:=(show ObjOk X.prog X.w H s.heap a (.dT kvs) from I.hok a _ ea)
  exact a0P a3v I.kIn ⟨o,h1,h2.1⟩ e (fun z=>nomatch z) h
 | @ins a C dx fs ea cl ha hn htk hm =>
  cases (show u=Value.ref a from rx)
  obtain ⟨mA,O,_⟩:=sF I.hok ea
  obtain ⟨od,J,_⟩:=O.look
  exact a0P (PySem.W.kitx_own (cl.get _) cl.hd ha hn htk hm) I.kIn J e (fun z=>nomatch z) h
end
end L2
namespace L2
open PySem PySem.Spec PyProof.Rows
structure Room (k:Nat)(A:Around):Prop where
 hd:A.handled=none
 dp:A.depth+3 * k+5 < recursionLimit
 un:A.units+16 * k+200 < cLine
 gu:A.guards=some []
theorem Room.mono {j k:Nat}{A:Around}(r:Room k A)(h:j<=k):Room j A:=⟨r.hd,by have:=r.dp; omega,by have:=r.un; omega,r.gu⟩
theorem Room.deeper {k:Nat}{A:Around}(r:Room (k+1) A)(env:Env):Room k (A.deeper env) :=
 ⟨r.hd,by have:=r.dp; show A.depth+1+3 * k+5 < _; omega,by have:=r.un; show A.units+3+16 * k+200 < _; omega,r.gu⟩
theorem lB {A:Around}{C:Addr}{us:List Value}{kw:List (Str×Value)}:(A.under (.builtin "type.__call__" ⟨.ref C::us,kw⟩)).depth=A.depth+1:=by
 first | rfl | simp [Around.under,Code.weight,Code.isCreation,Code.isGuard,Code.isCaller,Code.frames,Code.isFrame,guardIds]
theorem kx {A:Around}{C:Addr}{us:List Value}{kw:List (Str×Value)}:(A.under (.builtin "type.__call__" ⟨.ref C::us,kw⟩)).units=A.units+1:=by
 first | rfl | simp [Around.under,Code.cUnits,Code.frames,Code.isFrame]
theorem make_guards {A:Around}{C:Addr}{us:List Value}{kw:List (Str×Value)}:(A.under (.builtin "type.__call__" ⟨.ref C::us,kw⟩)).guards=A.guards:=by
 first | rfl | simp [Around.under,Code.isGuard,guardIds]
theorem Room.make {k:Nat}{A:Around}(r:Room (k+1) A)(C:Addr)(us:List Value)(kw:List (Str×Value)):Room k (A.under (.builtin "type.__call__" ⟨.ref C::us,kw⟩)) :=
 ⟨r.hd,by have:=r.dp; rw [lB]; omega,by have:=r.un; rw [kx]; omega,make_guards.trans r.gu⟩
theorem Room.depth {k:Nat}{A:Around}(r:Room k A):A.depth < recursionLimit:=by have:=r.dp; omega
theorem Room.units {k:Nat}{A:Around}(r:Room k A):A.units+64 < cLine:=by have:=r.un; omega
noncomputable def yy:TA:=fun _ H Q=>Q [] H
noncomputable def mh (ta:TE)(tr:TA):TA:=fun σ H Q=>ta σ H fun x H1=>tr σ H1 fun xs H2=>Q (x::xs) H2
section
variable {X:Cx}{e:Expr}{es:List Expr}{te:TE}{t:TA}{pos:Pos}
theorem aM:PA X [] yy:=fun _ _ _ _ H Q I h=>Calls.spliced_nil ⟨[],H,I,.nil,h⟩
theorem aq (ha:PE X e te)(hr:PA X es t)(hs:starEach (e::es) X.env=(false,eval e X.env)::starEach es X.env:=by rfl):PA X (e::es) (mh te t):=by
 intro pos pins s σ H Q I h
 rw [hs]
 show wpAny _ _ (spliced ((false,eval e X.env)::backTo pos (starEach es X.env))) _ _ s
 refine Calls.spliced_cons (thn (ha pins s σ H _ I h) fun u s1 ⟨x,H1,I1,r1,q1⟩=>?_)
 exact thn (hr pos pins s1 σ H1 _ I1 q1) fun us s2 ⟨xs,H2,I2,r2,q2⟩=>⟨x::xs,H2,I2,.cons r1 r2,q2⟩
noncomputable def Dx (t:TA):TE:=fun σ H Q=>t σ H fun xs H1=>xs.length<=sizeLine/\∀ p,H1 p=none->Q (.ref p) (upd H1 p (.tup xs))
noncomputable def CJ (t:TA):TE:=fun σ H Q=>t σ H fun xs H1=>xs.length<=sizeLine/\∀ p,H1 p=none->Q (.ref p) (upd H1 p (.lst xs))
theorem lA {x1}(h:PA X es t):PE X (.Tuple es x1 pos) (Dx t):=by
 intro pins s σ H Q I hq
 refine wpAny_Tuple_spliced (thn (h pos pins s σ H _ I hq) fun us s1 ⟨xs,H1,I1,r,z,q⟩=>⟨by rw [<- r.length]; exact z,?_⟩)
 have hf:H1 s1.heap.objs.size=none:=I1.hok.fresh (a0d _)
 refine ⟨.ref s1.heap.objs.size,upd H1 s1.heap.objs.size (.tup xs),I1.laid (t':=s1.toks) (fun b u e=>Heap.get?_push_of_some _ e) (a0d _) ?_,rfl,q _ hf⟩
 exact ⟨z,us,r,⟨_,Heap.get?_push_size _ rfl,rfl,_,rfl⟩⟩
theorem oH (h:PA X es t):PE X (.List es pos) (CJ t):=by
 intro pins s σ H Q I hq
 refine wpAny_List_spliced (thn (h pos pins s σ H _ I hq) fun us s1 ⟨xs,H1,I1,r,z,q⟩=>⟨by rw [<- r.length]; exact z,?_⟩)
 have hf:H1 s1.heap.objs.size=none:=I1.hok.fresh (a0d _)
 refine ⟨.ref s1.heap.objs.size,upd H1 s1.heap.objs.size (.lst xs),I1.laid (t':=s1.toks) (fun b u e=>Heap.get?_push_of_some _ e) (a0d _) ?_,rfl,q _ hf⟩
 exact ⟨z,us,0,r,Heap.get?_push_size _ rfl⟩
end
noncomputable abbrev Sp:=List V->Hp->VK->XK->Prop
noncomputable abbrev CXT:=List Env->Hp->Shared->XK->Value->Shared->Prop
structure Env0 (P:Program)(w:World)(K:a0a)(mg:Str->Option Value)(base:Heap)(A:Around)(outer:List Env)(s:Shared)(H:Hp):Prop where
 frames:A.frames=some outer
 mod:Mod K mg base
 bs:∀ b o,base.get? b=some o->s.heap.get? b=some o/\H b=none
 bsz:base.objs.size<=s.heap.objs.size
 funs:s.heap.FunFrames base outer
 frf:∀ b∈frs outer,H b=none
 hok:HOk P w H s.heap
 bare:AllBare s.gens
noncomputable def CE (outer:List Env)(P:Program)(w:World)(H:Hp)(s:Shared)(Q:VK)(u:Value)(s':Shared):Prop :=
 ∃ v H',s'.os=s.os/\AllBare s'.gens/\Un (frs outer) [] H H' s.heap s'.heap/\HOk P w H' s'.heap/\RelV v u/\Q v H'
noncomputable def CR (CX:CXT)(outer:List Env)(P:Program)(w:World)(H:Hp)(s:Shared)(Q:VK)(E:XK)(r:Result)(s':Shared):Prop :=
 match r with
 | .ok (.ret u)=>CE outer P w H s Q u s'
 | .ok _=>False
 | .error e=>CX outer H s E e s'
structure FnOk (P:Program)(w:World)(K:a0a)(mg:Str->Option Value)(base:Heap)(CX:CXT)(k:Nat)(f:Addr)(fd:FuncData)(ps:List Str)(sp:Sp):Prop where
 len:∀ vs H Q E,sp vs H Q E->vs.length=ps.length
 run:∀ (A:Around) (outer:List Env) (s:Shared) (H:Hp) (args:Args) (us:List Value) (vs:List V) (Q:VK) (E:XK),Room k A->Env0 P w K mg base A outer s H->BindsTo s fd args (ps.zip us)->Vals vs us->sp vs H Q E ->
  codeAny (model P w) A (.call (.ref f) args) (CR CX outer P w H s Q E) s
theorem FnOk.mono {P:Program}{w:World}{K:a0a}{mg:Str->Option Value}{base:Heap}{CX:CXT}{j k:Nat}{f:Addr}{fd:FuncData}{ps:List Str}{sp:Sp}(F:FnOk P w K mg base CX j f fd ps sp)(h:j<=k) :
  FnOk P w K mg base CX k f fd ps sp:=⟨F.len,fun A outer s H args us vs Q E hr=>F.run A outer s H args us vs Q E (hr.mono h)⟩
theorem FnOk.imp {P:Program}{w:World}{K:a0a}{mg:Str->Option Value}{base:Heap}{CX:CXT}{k:Nat}{f:Addr}{fd:FuncData}{ps:List Str}{sp sp':Sp}(F:FnOk P w K mg base CX k f fd ps sp)
  (h:∀ vs H Q E,sp' vs H Q E->sp vs H Q E):FnOk P w K mg base CX k f fd ps sp' :=
 ⟨fun vs H Q E q=>F.len vs H Q E (h _ _ _ _ q),fun A outer s H args us vs Q E hr he hb hv hs=>F.run A outer s H args us vs Q E hr he hb hv (h _ _ _ _ hs)⟩
theorem Env0.make {P:Program}{w:World}{K:a0a}{mg:Str->Option Value}{base:Heap}{A:Around}{outer:List Env}{s:Shared}{H:Hp}(e:Env0 P w K mg base A outer s H)(C:Addr)(us:List Value)(kw:List (Str×Value)) :
  Env0 P w K mg base (A.under (.builtin "type.__call__" ⟨.ref C::us,kw⟩)) outer s H:=⟨by first | exact e.frames | (simpa [Around.under,Code.envs,Code.isFrame,pushEnvs] using e.frames),e.mod,e.bs,e.bsz,e.funs,e.frf,e.hok,e.bare⟩
section
variable {X:Cx}{pins:List (Addr×Obj)}{σ:St}{H:Hp}{s s':Shared}
theorem Inv.env0 (I:Inv X pins σ H s):Env0 X.prog X.w X.K X.mg X.base X.A X.stack s H :=
 ⟨I.ok.frames,I.ok.mod,I.bs,a0o I.ok.bsz I.sz,I.stack,I.stkFree,I.hok,I.bare⟩
theorem Inv.after {Q:VK}{u:Value}(I:Inv X pins σ H s)(h:CE X.stack X.prog X.w H s Q u s'):EP X pins σ Q u s':=by
 obtain ⟨v,H',os,bare,un,hok,r,q⟩:=h
 obtain ⟨hh,g,d,t,os'⟩:=s'
 obtain rfl:os'=s.os:=os
 exact ⟨v,H',I.call (h':=hh) (g':=g) (d':=d) (t':=t) (ch:=[]) un hok bare (fun b z=>absurd z (by simp)),r,q⟩
end
noncomputable def C3 (sp:Sp)(dvs:List V)(E:XK)(t:TA):TE:=fun σ H Q=>t σ H fun vs H1=>sp (vs++dvs) H1 Q E
noncomputable def Binds (K:a0a)(fd:FuncData)(ps:List Str)(ds:List Value):Prop :=
 ∀ (s:Shared) (us:List Value),K.In s.heap->(us++ds).length=ps.length->BindsTo s fd ⟨us,[]⟩ (ps.zip (us++ds))
theorem Binds.all {K:a0a}{fd:FuncData}{ps:List Str}(h:∀ us:List Value,us.length=ps.length->bindArgs fd ⟨us,[]⟩=pure (ps.zip us)):Binds K fd ps []:=fun s us _ hl=>by
 rw [a0z] at hl ⊢
 exact .of_eq (h us hl)
noncomputable def fT (CX:CXT)(X:Cx)(E:XK):Prop:=∀ (pins:List (Addr×Obj)) (σ:St) (H:Hp) (s:Shared) (e:Value) (s':Shared),Inv X pins σ H s->CX X.stack H s E e s'->X.xe e s'
section
variable {X:Cx}{CX:CXT}{k:Nat}{f C:Addr}{fd:FuncData}{ps:List Str}{sp:Sp}{dvs:List V}{ds:List Value}{E:XK}{x m:Str}{p pos apos:Pos}{e o:Expr}{es:List Expr}{ta:TE}{t:TA}
theorem yc {pins:List (Addr×Obj)}{σ:St}{H:Hp}{s:Shared}{Q:VK}{us:List Value}{vs:List V}(F:FnOk X.prog X.w X.K X.mg X.base CX k f fd ps sp)(hr:Room k X.A)(hb:Binds X.K fd ps ds)(hd:Vals dvs ds)(hx:fT CX X E)
  (I:Inv X pins σ H s) (r:Vals vs us) (h:sp (vs++dvs) H Q E):wpAny (model X.prog X.w) X.A (call (.ref f) us) (EP X pins σ Q) X.xe s:=by
 have r2:Vals (vs++dvs) (us++ds):=r.append hd
 have hl:(us++ds).length=ps.length:=by rw [<- r2.length]; exact F.len _ _ _ _ h
 refine wpAny_call (codeAny_mono (F.run X.A X.stack s H ⟨us,[]⟩ (us++ds) (vs++dvs) Q E hr I.env0 (hb s us I.kIn hl) r2 h) fun r s' hq=>?_)
 cases r with
 | error e=>exact hx pins σ H s e s' I hq
 | ok fl =>
  cases fl with
  | ret u=>exact I.after hq
  | next=>exact a05 hq
  | brk=>exact a05 hq
  | cont=>exact a05 hq
theorem jf (F:FnOk X.prog X.w X.K X.mg X.base CX k f fd ps sp)(hr:Room k X.A)(hg:Gl X x)(hm:X.mg x=some (.ref f))(hk:a1b X.K (.ref f)=true)(hb:Binds X.K fd ps ds)(hd:Vals dvs ds)(hx:fT CX X E)
  (ha:PA X (e::es) t) (hdb:(x==("__debug__":Str))=false:=by decide) (he:starEach (e::es) X.env=(false,eval e X.env)::starEach es X.env:=by rfl) (hpl:(backTo pos (starEach es X.env)).any (·.1)=false:=by rfl) :
  PE X (.Call (.Name x p) (e::es) [] pos) (C3 sp dvs E t):=by
 intro pins s σ H Q I h
 refine wpAny_Call_Name_kw (dz I hg hm ?_ hdb)
 refine a2s (h₀:=X.base) I.ok.mod.kin hk (thn (ha pos pins s σ H _ I h) fun us s1 ⟨vs,H1,I1,r,q⟩=>⟨I1.kIn,?_⟩) he hpl
 exact yc F hr hb hd hx I1 r q
end
structure ao (N P:List Str)(sc:Scope):Prop where
 kind:sc.kind=.function
 co:sc.isCoroutine=false
 gen:sc.isGenerator=false
 nd:N.Nodup
 pre:N.take P.length=P
 par:∀ x∈P,sc.names.lookup x=some .local\/sc.names.lookup x=some .cell
 nofree:∀ y∈sc.names,y.2≠.free
theorem hX {kindOf:Str->Option NameKind}{x:Str}:∀ {binds:List (Str×Value)} {m:Str->Option Value},(∀ v,(x,v) ∉ binds)->bindL kindOf binds m x=m x
 | [],_,_=>rfl
 | (n,v)::r,m,h=>by
  unfold bindL
  rw [hX fun w hw=>h w (a0c _ hw)]
  split
  ·have:x≠n:=by rintro rfl; exact h v a0k
   simp [this]
  ·rfl
theorem iy {kindOf:Str->Option NameKind}{x:Str}:∀ {binds:List (Str×Value)} {m:Str->Option Value},(∀ v,(x,v) ∉ binds)->bindC kindOf binds m x=m x
 | [],_,_=>rfl
 | (n,v)::r,m,h=>by
  unfold bindC
  rw [iy fun w hw=>h w (a0c _ hw)]
  split
  ·rfl
  ·have:x≠n:=by rintro rfl; exact h v a0k
   simp [this]
theorem gU {kindOf:Str->Option NameKind}{x:Str}{v:Value}:∀ {P:List Str} {vs:List Value} {i:Nat} {m:Str->Option Value},P.Nodup->P[i]?=some x->vs[i]?=some v->kindOf x=some .local ->
  bindL kindOf (P.zip vs) m x=some v
 | [],_,_,_,_,h,_,_=>by simp at h
 | _::_,[],_,_,_,_,h,_=>by simp at h
 | p::P,w::vs,0,m,nd,h1,h2,hk=>by
  simp at h1 h2; subst h1; subst h2
  show bindL kindOf ((p,w)::P.zip vs) m p=_
  unfold bindL
  rw [hX fun v hv=>(a1n.mp nd).1 (a20 hv).1,if_pos hk]
  simp
 | p::P,w::vs,i+1,m,nd,h1,h2,hk=>by
  show bindL kindOf ((p,w)::P.zip vs) m x=_
  unfold bindL
  exact gU (i:=i) (a1n.mp nd).2 (by simpa using h1) (by simpa using h2) hk
theorem gX {kindOf:Str->Option NameKind}{x:Str}{v:Value}:∀ {P:List Str} {vs:List Value} {i:Nat} {m:Str->Option Value},P.Nodup->P[i]?=some x->vs[i]?=some v->kindOf x≠some .local ->
  bindC kindOf (P.zip vs) m x=some v
 | [],_,_,_,_,h,_,_=>by simp at h
 | _::_,[],_,_,_,_,h,_=>by simp at h
 | p::P,w::vs,0,m,nd,h1,h2,hk=>by
  simp at h1 h2; subst h1; subst h2
  show bindC kindOf ((p,w)::P.zip vs) m p=_
  unfold bindC
  rw [iy fun v hv=>(a1n.mp nd).1 (a20 hv).1,if_neg hk]
  simp
 | p::P,w::vs,i+1,m,nd,h1,h2,hk=>by
  show bindC kindOf ((p,w)::P.zip vs) m x=_
  unfold bindC
  exact gX (i:=i) (a1n.mp nd).2 (by simpa using h1) (by simpa using h2) hk
noncomputable def start (N:List Str)(vs:List V):St:=vs.map some++a0h (N.length-vs.length) none
noncomputable def cZ (CX:CXT)(P:Program)(w:World)(K:a0a)(mg:Str->Option Value)(base:Heap)(N:List Str)(qual:Str)(scope:Scope)(f:Addr)(cd:Value)(A:Around)(outer:List Env)(s:Shared)(H:Hp)(E:XK):Cx where
 prog:=P
 w:=w
 K:=K
 mg:=mg
 base:=base
 A:=A.deeper (envOfC qual scope s.heap.objs.size f cd)
 N:=N
 s₀:=s
 H₀:=H
 env:=envOfC qual scope s.heap.objs.size f cd
 outer:=outer
 stack:=envOfC qual scope s.heap.objs.size f cd::outer
 ex:=[]
 calm:=true
 fn:=fun _=>true
 pn:=[]
 xe:=fun e s'=>wpAny (model P w) (A.deeper (envOfC qual scope s.heap.objs.size f cd)) (leaving (envOfC qual scope s.heap.objs.size f cd) e) (fun _ s''=>CX outer H s E e s'') (fun e' s''=>CX outer H s E e' s'') s'
theorem jD {sc:Scope}{n:Nat}{x:Str}(h:sc.names.lookup x=some .cell):∃ c,(cellsFrom n sc.names []).lookup x=some c:=by
 have q:=a2U sc.names n [] (.inl h)
 exact a1V.mp q
theorem nM {CX:CXT}{P:Program}{w:World}{K:a0a}{mg:Str->Option Value}{base:Heap}{N ps:List Str}{qual:Str}{scope:Scope}{f:Addr}{cd:Value}{A:Around}{outer:List Env}{s s1:Shared}{H:Hp}{E:XK}{us:List Value}{vs:List V}
  (S:ao N ps scope) (hd:A.handled=none) (e0:Env0 P w K mg base A outer s H) (hl:vs.length=ps.length) (r:Vals vs us)
  (x:InCallC s s.heap.objs.size (bindL (envOfC qual scope s.heap.objs.size f cd).kindOf (ps.zip us) fun _=>none) (cellsFrom (s.heap.objs.size+1) scope.names []) (bindC (envOfC qual scope s.heap.objs.size f cd).kindOf (ps.zip us) fun _=>none) s1) :
  Inv (cZ CX P w K mg base N qual scope f cd A outer s H E) [] (start N vs) H s1:=by
 have hpl:ps.length<=N.length:=by have:=congrArg a2J S.pre; rw [a02] at this; omega
 obtain ⟨h1,tk,rfl,hk⟩:=x.done
 have noA:∀ b:Addr,b ∉ (cZ CX P w K mg base N qual scope f cd A outer s H E).ex:=fun b z=>absurd (show b∈([]:List Addr) from z) (by simp)
 refine ⟨⟨e0.mod,S.kind,rfl,rfl,a0d _,fun y z c h1 h2=>?_,fun y hy=>?_,fun y c _ h=>?_,fun _=>hd,Around.frames_deeper e0.frames,.inr ⟨rfl,rfl⟩,fun b z=>absurd z (noA b),e0.bs,e0.bsz,fun b _ _=>noA b,fun b z=>absurd z (noA b),e0.funs,e0.frf⟩,
  rfl,e0.bare,Un.kept hk,⟨_,x.toInCall.ns,fun i y v h1 h2 h3=>?_⟩,fun y c h=>⟨_,x.cell y c h⟩,e0.hok.fresh (a0d _),fun y c h=>?_,fun p hp=>absurd (show p∈([]:List (Addr×Obj)) from hp) (by simp),e0.hok.kept hk,?_⟩
 ·exact name_of_addr x.apart (a1h h1) (a1h h2)
 ·have hy:scope.names.lookup y=some .cell\/scope.names.lookup y=some .free:=hy
  rcases hy with hy | hy
  ·exact jD hy
  ·exact absurd rfl (S.nofree _ (a1h hy))
 ·exact a1A (x.above y c (a1h h))
 ·have hi:i < vs.length:=by
   unfold start at h2
   by_cases hi:i < vs.length
   ·exact hi
   ·rw [a0R (by simpa using hi)] at h2
    rw [a13] at h2
    split at h2<;>cases h2
  have ha:vs[i]?=some v:=by
   unfold start at h2
   rw [a0M (by simpa using hi),a0t] at h2
   cases e:vs[i]? with
   | none=>rw [e] at h2; cases h2
   | some a=>rw [e] at h2; cases h2; rfl
  obtain ⟨u,hu,rv⟩:=r.get ha
  have hp:ps[i]?=some y:=by
   rw [<- S.pre,List.getElem?_take_of_lt (by omega)]; exact h1
  have ndP:ps.Nodup:=by rw [<- S.pre]; exact S.nd.sublist (List.take_sublist _ _)
  refine ⟨u,rv,?_⟩
  rcases S.par y (a03 hp) with k | k
  ·exact .inl ⟨k,gU ndP hp hu k⟩
  ·obtain ⟨c,e⟩:=jD (n:=s.heap.objs.size+1) k
   refine .inr ⟨.inl k,c,e,?_⟩
   have q:=x.cell y c e
   rw [gX ndP hp hu (by show scope.names.lookup y≠_; rw [k]; decide)] at q
   exact q
 ·exact e0.hok.fresh (a1A (x.above y c (a1h h)))
 ·unfold start
  show _=N.length
  rw [a0e,a0b,a00]
  omega
theorem rZ {CX:CXT}{P:Program}{w:World}{K:a0a}{mg:Str->Option Value}{base:Heap}{k:Nat}{f:Addr}{name qual:Str}{params:Arguments}{body:List Stmt}{scope:Scope}{dV kV doc pm cdv ct oc:Value}{an od:Option Addr}
  {osl:Array (Option Value)} {N ps:List Str} {sp:Sp} (lk:K.lookup f=some ⟨oc,od,.func (a0X name qual params body scope dV kV doc pm an cdv ct),osl⟩) (hcd:a1P K cdv qual=true) (S:ao N ps scope)
  (len:∀ vs H Q E,sp vs H Q E->vs.length=ps.length)
  (hbody:∀ (A:Around) (outer:List Env) (s:Shared) (H:Hp) (vs:List V) (Q:VK) (E:XK),Room k (A.deeper (envOfC qual scope s.heap.objs.size f cdv))->sp vs H Q E ->
   ∃ t,PSs (cZ CX P w K mg base N qual scope f cdv A outer s H E) body t/\t { nx:=fun _ H'=>Q .non H',rt:=Q } (start N vs) H) :
  FnOk P w K mg base CX (k+1) f (a0X name qual params body scope dV kV doc pm an cdv ct) ps sp:=by
 refine ⟨len,fun A outer s H args us vs Q E hr e0 hb r hsp=>?_⟩
 have hl:=len _ _ _ _ hsp
 have KX:K.In s.heap:=e0.mod.kin.keeps fun b o e=>(e0.bs b o e).1
 have lim:s.heap.NoLimit:=e0.mod.nolimit.keeps fun b o e=>(e0.bs b o e).1
 have hkind:∀ y∈ps.zip us,scope.names.lookup y.1=some .local\/(scope.names.lookup y.1=some .cell/\((cellsFrom (s.heap.objs.size+1) scope.names []).lookup y.1).isSome=true):=fun ⟨n,v⟩ hy=>by
  rcases S.par n (a20 hy).1 with q | q
  ·exact .inl q
  ·exact .inr ⟨q,a2U _ _ _ (.inl q)⟩
 refine codeAny_call_function hr.depth (KX _ _ lk) rfl S.co S.gen rfl (PySem.W.codeRec_of KX hcd) (hb _ _ _ _ ?_)
 refine wpAny_newFunctionEnv_cells S.kind hkind fun env he s1 x=>?_
 subst he
 refine ⟨lim.keeps x.toInCall.keep,codeAny_func ?_⟩
 obtain ⟨t,ht,hq⟩:=hbody A outer s H vs Q E (hr.deeper _) hsp
 have I:Inv (cZ CX P w K mg base N qual scope f cdv A outer s H E) [] (start N vs) H s1:=nM S hr.hd e0 hl r x
 refine wpAny_mono (ht [] s1 (start N vs) H _ I hq) (fun fl s' hs=>?_) fun e s' hs=>hs
 have fin:∀ {σ':St} {H':Hp} {v:V} {u:Value},Inv (cZ CX P w K mg base N qual scope f cdv A outer s H E) [] σ' H' s'->RelV v u->Q v H'->CE outer P w H s Q u s' :=
  fun {σ' H' v u} J rv q=>⟨v,H',J.os,J.bare,J.base,J.hok,rv,q⟩
 cases fl with
 | ret u =>
  obtain ⟨v,σ',H',J,rv,q⟩:=hs
  exact fin J rv q
 | next =>
  obtain ⟨σ',H',J,q⟩:=hs
  exact fin (v:=V.non) (u:=Value.none) J rfl q
 | brk =>
  obtain ⟨_,_,_,q⟩:=hs
  exact a05 q
 | cont =>
  obtain ⟨_,_,_,q⟩:=hs
  exact a05 q
end L2
namespace L2
open PySem PySem.Spec PyProof.Rows
section
variable {X:Cx}{x:Str}{p pos:Pos}{e:Expr}{es:List Expr}{t:TA}{id T:String}{r:List V->Hp->VK->Prop}
noncomputable def tCB (r:List V->Hp->VK->Prop)(t:TA):TE:=fun σ H Q=>t σ H fun vs H1=>r vs H1 Q
theorem bu (hc:cq X (.builtin id) r)(hg:Gl X x)(hm:X.mg x=none)(hv:bootBuiltins x=some (.builtin id))(ha:PA X (e::es) t)(hn:x≠"__name__":=by decide)(hdb:(x==("__debug__":Str))=false:=by decide)
  (he:starEach (e::es) X.env=(false,eval e X.env)::starEach es X.env:=by rfl) (hpl:(backTo pos (starEach es X.env)).any (·.1)=false:=by rfl):PE X (.Call (.Name x p) (e::es) [] pos) (tCB r t):=by
 intro pins s σ H Q I h
 refine wpAny_Call_Name_kw (dU I hg hm hv ?_ hn hdb)
 exact a2c (thn (ha pos pins s σ H _ I h) fun us s1 ⟨vs,H1,I1,r1,q1⟩=>hc pins s1 σ H1 vs us Q I1 r1 q1) he hpl
theorem bV (hc:cq X (.type T) r)(hg:Gl X x)(hm:X.mg x=none)(hv:bootBuiltins x=some (.type T))(ha:PA X (e::es) t)(hn:x≠"__name__":=by decide)(hdb:(x==("__debug__":Str))=false:=by decide)
  (he:starEach (e::es) X.env=(false,eval e X.env)::starEach es X.env:=by rfl) (hpl:(backTo pos (starEach es X.env)).any (·.1)=false:=by rfl):PE X (.Call (.Name x p) (e::es) [] pos) (tCB r t):=by
 intro pins s σ H Q I h
 refine wpAny_Call_Name_kw (dU I hg hm hv ?_ hn hdb)
 exact a1c (thn (ha pos pins s σ H _ I h) fun us s1 ⟨vs,H1,I1,r1,q1⟩=>hc pins s1 σ H1 vs us Q I1 r1 q1) he hpl
end
end L2
namespace HT
open PySem PyProof.Rows
section
variable {prog:Program}{w:World}{A:Around}{E:Value->Shared->Prop}{s:Shared}
theorem cat_tup {t b:Addr}{vs ws:List Value}{Q:Value->Shared->Prop}(ht:IsTup s.heap t vs.toArray)(hb:IsTup s.heap b ws.toArray)(hv:vs≠[])
  (h1:ws=[]->Q (.ref t) s) (h2:ws≠[]->Q (.ref s.heap.objs.size) { s with heap:=s.heap.push { cls:=.type "tuple",data:=.seq (vs++ws).toArray } })
  (hsz:vs.length+ws.length<=sizeLine):wpAny (model prog w) A (binaryOp .Add (.ref t) (.ref b)) Q E s:=by
 obtain ⟨⟨cls,dd,data,sl⟩,ho,hc,n,hd⟩:=id ht
 obtain ⟨⟨cls2,dd2,data2,sl2⟩,ho2,hc2,n2,hd2⟩:=id hb
 simp only at hc hd hc2 hd2
 subst hc hd hc2 hd2
 have e:vs.toArray++ws.toArray=(vs++ws).toArray:=by simp
 by_cases hw:ws=[]
 ·exact concat_meets ⟨_,ho,rfl⟩ ⟨_,ho2,rfl⟩ noFill_tuple_add seq_tuple_add a2V a2K (a2G _ _)
   (tuple_addW1 t b vs.toArray ws.toArray n n2 dd dd2 sl sl2 (by simpa using hv) (by simp [hw])) ⟨ho,ho2,h1 hw⟩
 ·refine concat_meets ⟨_,ho,rfl⟩ ⟨_,ho2,rfl⟩ noFill_tuple_add seq_tuple_add a2V a2K (a2G _ _)
   (tuple_addW2 t b vs.toArray ws.toArray n n2 dd dd2 sl sl2 (by simpa using hv) (by simpa using hw) (by rw [a0l,a0l]; exact hsz)) ⟨ho,ho2,?_⟩
  rw [e]
  exact h2 hw
noncomputable def sIx (n d:Nat):Option Int->Nat
 | none=>d
 | some v=>if v < 0 then (v+(n:Int)).toNat else min v.toNat n
theorem sIx_nat (n d k:Nat):sIx n d (some (k:Int))=min k n:=by
 show (if (k:Int) < 0 then ((k:Int)+(n:Int)).toNat else min (k:Int).toNat n)=min k n
 rw [if_neg (by omega),a1K]
theorem zo (n d:Nat)(hd:d<=n)(o:Option Int):sIx n d o<=n:=by
 cases o with
 | none=>exact hd
 | some v =>
  show (if v < 0 then (v+(n:Int)).toNat else min v.toNat n)<=n
  by_cases hv:v < 0
  ·rw [if_pos hv]; omega
  ·rw [if_neg hv]; exact Nat.min_le_right _ _
theorem lS (v:Int)(n d:Nat):(if v < 0 then max (v+(n:Int)) 0 else min v (n:Int))=((sIx n d (some v):Nat):Int):=by
 show (if v < 0 then max (v+(n:Int)) 0 else min v (n:Int))=(((if v < 0 then (v+(n:Int)).toNat else min v.toNat n):Nat):Int)
 by_cases hv:v < 0
 ·simp only [if_pos hv]; omega
 ·simp only [if_neg hv]; omega
theorem kP (lo hi:Option Int)(n:Nat):Builtin.Slice.sliceAdjust lo hi 1 (n:Int)=(((sIx n 0 lo:Nat):Int),((sIx n n hi:Nat):Int)):=by
 have h1:¬ ((1:Int) < 0):=by omega
 unfold Builtin.Slice.sliceAdjust
 simp only [h1,if_false]
 refine Prod.ext ?_ ?_
 ·cases lo with
  | none=>rfl
  | some v=>exact lS v n 0
 ·cases hi with
  | none=>rfl
  | some v=>exact lS v n n
theorem kW (i j:Nat):Builtin.Slice.slicePlaces (i:Int) (j:Int) 1=j-i:=by
 unfold Builtin.Slice.slicePlaces
 have h1:(1:Int) > 0:=by omega
 simp only [h1,if_true,Int.ediv_one]
 split<;>omega
theorem gq {v:Value}{o:Option Int}{Q:Option Int->Shared->Prop}(p:IsPart v o)(h:Q o s):wpAny (model prog w) A (Builtin.Slice.slicePartIndex v) Q E s:=by
 cases p with
 | none=>exact slicePart_none h
 | int i t=>exact slicePart_int h
theorem sliceApplied_gen {sl:Addr}{vl vu:Value}{lo hi:Option Int}{n:Nat}{Q:Int×Int×Nat->Shared->Prop}(hs:s.heap.IsSliceOf sl vl vu .none)(pl:IsPart vl lo)(pu:IsPart vu hi)
  (h:Q (((sIx n 0 lo:Nat):Int),1,sIx n n hi-sIx n 0 lo) s):wpAny (model prog w) A (Builtin.Slice.sliceApplied (.ref sl) (pure (n:Int))) Q E s:=by
 obtain ⟨os,hos,hcs,hds⟩:=id hs
 unfold Builtin.Slice.sliceApplied Builtin.Slice.sliceFields
 refine wpAny_bind (wpAny_bind (wpAny_field hos hds (x:=vl) rfl (wpAny_bind (wpAny_field hos hds (x:=vu) rfl (wpAny_bind (wpAny_field hos hds (x:=.none) rfl (wpAny_pure ?_)))))))
 refine wpAny_bind (slicePart_none ?_)
 show wpAny _ _ (if ((1:Int)==0)=true then _ else _) _ _ s
 rw [if_neg (by decide)]
 refine wpAny_bind (gq pl (wpAny_bind (gq pu (wpAny_bind (wpAny_pure ?_)))))
 show wpAny _ _ (match Builtin.Slice.sliceAdjust lo hi 1 (n:Int) with | (lo,hi)=>pure (lo,(1:Int),Builtin.Slice.slicePlaces lo hi 1)) _ _ s
 rw [kP lo hi n]
 show wpAny _ _ (pure (((sIx n 0 lo:Nat):Int),(1:Int),Builtin.Slice.slicePlaces ((sIx n 0 lo:Nat):Int) ((sIx n n hi:Nat):Int) 1)) _ _ s
 rw [kW]
 exact wpAny_pure h
theorem qF (xs:Array Value)(i k:Nat):((a0q k).filterMap fun (m:Nat)=>xs[((i:Int)+(m:Int) * 1).toNat]?).toArray=((xs.toList.drop i).take k).toArray:=by
 have e:(fun (m:Nat)=>xs[((i:Int)+(m:Int) * 1).toNat]?)=fun m=>xs[i+m]?:=by
  funext m
  have:((i:Int)+(m:Int) * 1).toNat=i+m:=by omega
  rw [this]
 rw [e]
 have:=pick_run xs i k
 rw [List.filterMap_map] at this
 have e2:((fun x=>xs[x]?) ∘ fun x=>i+x)=fun m=>xs[i+m]?:=rfl
 rw [e2] at this
 rw [this]
theorem getItem_tuple_cut {t sl:Addr}{items:Array Value}{vl vu:Value}{lo hi:Option Int}{Q:Value->Shared->Prop}(ht:IsTup s.heap t items)(hs:s.heap.IsSliceOf sl vl vu .none)(pl:IsPart vl lo)(pu:IsPart vu hi)
  (hw:¬ (sIx items.size 0 lo=0/\sIx items.size items.size hi=items.size))
  (h:Q (.ref s.heap.objs.size) { s with heap:=s.heap.push { cls:=.type "tuple",data:=.seq ((items.toList.drop (sIx items.size 0 lo)).take (sIx items.size items.size hi-sIx items.size 0 lo)).toArray } })
  (hsz:items.size<=sizeLine):wpAny (model prog w) A (getItem (.ref t) (.ref sl)) Q E s:=by
 have htake:sizeOk (.seq ((items.toList.drop (sIx items.size 0 lo)).take (sIx items.size items.size hi-sIx items.size 0 lo)).toArray):=by
  show ((items.toList.drop (sIx items.size 0 lo)).take (sIx items.size items.size hi-sIx items.size 0 lo)).toArray.size<=sizeLine
  rw [a0l,a02,a1e,a1T]
  omega
 have hj:sIx items.size items.size hi<=items.size:=zo _ _ (a0d _) hi
 obtain ⟨os,hos,hcs,hds⟩:=id hs
 have hTs:s.TypeIs (.ref sl) "slice":=⟨os,hos,hcs⟩
 unfold getItem
 try with_reducible refine wpAny_holding ?_
 first | refine wpAny_bind (wpAny_pure ?_) | skip
 refine wpAny_bind (wpAny_sequenceKey ht.typeIs (by decide) ?_)
 refine wpAny_bind (wpAny_callSpecial?_slot (name:=Str.ofString "__getitem__") ht.typeIs a0Q
  (wpAny_call_entry a0Q ht.typeIs entry_tuple_getitem ?_ (args_tuple_getitem _ _)))
 show wpAny _ _ (Builtin.Tuple.tupleItemsOf (.ref t) >>= _) _ _ s
 refine wpAny_bind (tupleItemsOf_ ht ?_)
 refine wpAny_bind (wpAny_typeOf hTs ?_)
 rw [if_pos (by decide)]
 refine wpAny_bind (sliceApplied_gen hs pl pu ?_)
 have hno:¬ ((((sIx items.size 0 lo:Nat):Int)==0&&(1:Int)==1&&(sIx items.size items.size hi-sIx items.size 0 lo)==items.size)=true):=by
  intro q
  rw [a0p,a0p] at q
  have q1:((sIx items.size 0 lo:Nat):Int)=0:=eq_of_beq q.1.1
  have q2:sIx items.size items.size hi-sIx items.size 0 lo=items.size:=eq_of_beq q.2
  exact hw ⟨by omega,by omega⟩
 show wpAny _ _ (if (((sIx items.size 0 lo:Nat):Int)==0&&(1:Int)==1&&(sIx items.size items.size hi-sIx items.size 0 lo)==items.size)=true then _ else _) _ _ s
 rw [if_neg hno,qF]
 first
  | exact wpAny_bind (m:=Builtin.Tuple.tupleExact _) (wpAny_newObj_type (wpAny_pure ⟨_,rfl,wpAny_pure h⟩) htake)
  | exact wpAny_bind (m:=Builtin.Tuple.tupleExact _) (wpAny_newObj_type (wpAny_bind (wpAny_pure (wpAny_pure ⟨_,rfl,wpAny_pure h⟩))) htake)
  | exact wpAny_bind (wpAny_bind (m:=Builtin.Tuple.tupleExact _) (wpAny_newObj_type (wpAny_pure (wpAny_pure ⟨_,rfl,wpAny_pure h⟩)) htake))
  | exact wpAny_bind (wpAny_bind (m:=Builtin.Tuple.tupleExact _) (wpAny_newObj_type (wpAny_pure ⟨_,rfl,wpAny_pure h⟩) htake))
end
end HT
namespace L2
open PySem PySem.Spec PyProof.Rows
noncomputable abbrev TO:=St->Hp->(Option Int->Hp->Prop)->Prop
noncomputable def PO (X:Cx)(e:Option Expr)(t:TO):Prop :=
 ∀ (pins:List (Addr×Obj)) (s:Shared) (σ:St) (H:Hp) (Q:Option Int->Hp->Prop),Inv X pins σ H s->t σ H Q ->
  wpAny (model X.prog X.w) X.A (evalPart e X.env) (fun u s'=>∃ o H',Inv X pins σ H' s'/\IsPart u o/\Q o H') X.xe s
noncomputable def vn:TO:=fun _ H Q=>Q none H
noncomputable def Ct (t:TE):TO:=fun σ H Q=>t σ H fun x H1=>∃ i,x=.int i/\Q (some i) H1
section
variable {X:Cx}{e:Expr}{te:TE}{lo hi:Option Expr}{tl th:TO}{pos p2:Pos}
theorem lP:PO X none vn:=by
 intro pins s σ H Q I h
 rw [evalPart_none]
 exact wpAny_pure ⟨none,H,I,.none,h⟩
theorem fA (h:PE X e te):PO X (some e) (Ct te):=by
 intro pins s σ H Q I hw
 rw [evalPart_some]
 refine thn (h pins s σ H _ I hw) fun u s1 ⟨x,H1,I1,r1,q1⟩=>?_
 obtain ⟨i,rfl,q⟩:=q1
 obtain ⟨t,rfl⟩:=r1
 exact ⟨some i,H1,I1,.int i t,q⟩
noncomputable def SlR (X:Cx)(r:V->Option Int->Option Int->Hp->VK->Prop):Prop :=
 ∀ (pins:List (Addr×Obj)) (s:Shared) (σ:St) (H:Hp) (x:V) (v vl vu:Value) (lo hi:Option Int) (sl:Addr) (Q:VK),Inv X pins σ H s->RelV x v->s.heap.IsSliceOf sl vl vu .none->IsPart vl lo->IsPart vu hi->r x lo hi H Q ->
  ∃ T id,typeLookup (.type T) "__getitem__"=pure (some (.builtin id))/\s.TypeIs v T/\wpAny (model X.prog X.w) X.A (getItem v (.ref sl)) (EP X pins σ Q) X.xe s
theorem SlR.or {r r':V->Option Int->Option Int->Hp->VK->Prop}(h:SlR X r)(h':SlR X r'):SlR X (fun x lo hi H Q=>r x lo hi H Q\/r' x lo hi H Q):=by
 intro pins s σ H x v vl vu lo hi sl Q I rx hs pl pu q
 rcases q with q | q
 ·exact h pins s σ H x v vl vu lo hi sl Q I rx hs pl pu q
 ·exact h' pins s σ H x v vl vu lo hi sl Q I rx hs pl pu q
noncomputable def tSl (r:V->Option Int->Option Int->Hp->VK->Prop)(te:TE)(tl th:TO):TE:=fun σ H Q=>te σ H fun x H1=>tl σ H1 fun l H2=>th σ H2 fun u H3=>r x l u H3 Q
theorem fG {r:V->Option Int->Option Int->Hp->VK->Prop}(hr:SlR X r)(he:PE X e te)(hl:PO X lo tl)(hu:PO X hi th):PE X (.Subscript e (.Slice lo hi none p2) pos) (tSl r te tl th):=by
 intro pins s σ H Q I h
 refine Subscript_ (thn (he pins s σ H _ I h) fun v s1 ⟨x,H1,I1,r1,q1⟩=>?_)
 refine wpAny_Slice (thn (hl pins s1 σ H1 _ I1 q1) fun vl s2 ⟨l,H2,I2,pl,q2⟩=>thn (hu pins s2 σ H2 _ I2 q2) fun vu s3 ⟨u,H3,I3,pu,q3⟩=>?_)
 rw [evalPart_none]
 refine wpAny_pure ?_
 have I4:Inv X pins σ H3 { s3 with heap:=s3.heap.push { cls:=.type "slice",data:=.fields #[vl,vu,.none] } }:=I3.kept (t':=s3.toks) fun b ob q=>Heap.get?_push_of_some _ q
 obtain ⟨T,id,hT,ht,hg⟩:=hr pins { s3 with heap:=s3.heap.push { cls:=.type "slice",data:=.fields #[vl,vu,.none] } } σ H3 x v vl vu l u s3.heap.objs.size Q I4 r1 (Heap.IsSliceOf.new ..) pl pu q3
 show wpAny (model X.prog X.w) X.A (subscriptTail e (.Slice lo hi none p2) v (.ref s3.heap.objs.size)) (EP X pins σ Q) X.xe { s3 with heap:=s3.heap.push { cls:=.type "slice",data:=.fields #[vl,vu,.none] } }
 exact tail_any (ops:=[.ref s3.heap.objs.size,v]) ht hT hg (by with_unfolding_all rfl)
noncomputable def dk (xs:List V)(lo hi:Option Int):List V:=(xs.drop (HT.sIx xs.length 0 lo)).take (HT.sIx xs.length xs.length hi-HT.sIx xs.length 0 lo)
theorem cx (xs:List V)(lo hi:Option Int):(dk xs lo hi).length<=xs.length:=by
 unfold dk
 rw [a02,a1e]
 omega
noncomputable def Ed (K:a0a):V->Option Int->Option Int->Hp->VK->Prop:=fun x lo hi H Q=>∃ a xs,x=.ref a/\SqT K H a xs /\
 ¬ (HT.sIx xs.length 0 lo=0/\HT.sIx xs.length xs.length hi=xs.length)/\∀ p,H p=none->Q (.ref p) (upd H p (.tup (dk xs lo hi)))
theorem Ax:SlR X (Ed X.K):=by
 intro pins s σ H x v vl vu lo hi sl Q I rx hs pl pu h
 obtain ⟨a,xs,rfl,hx,hw,q⟩:=h
 cases rx
 obtain ⟨its,r,ht,hz⟩:=I.tuple hx
 have hlen:its.toArray.size=xs.length:=by rw [a0l]; exact r.length.symm
 refine ⟨"tuple",_,a0Q.lookup,ht.typeIs,?_⟩
 refine HT.getItem_tuple_cut ht hs pl pu (by rw [hlen]; exact hw) ?_ (by rw [hlen]; exact hz)
 rw [hlen]
 refine ⟨.ref s.heap.objs.size,_,I.laid (t':=s.toks) (o:=.tup (dk xs lo hi)) (fun b ob q=>Heap.get?_push_of_some _ q) (a0d _) ?_,rfl,q _ (I.hok.fresh (a0d _))⟩
 exact ⟨a0o (cx xs lo hi) hz,_,(r.drop (HT.sIx xs.length 0 lo)).take (HT.sIx xs.length xs.length hi-HT.sIx xs.length 0 lo),IsTup.new _ _⟩
noncomputable def BR (K:a0a):R2:=fun x y H Q=>∃ a b xs ys,x=.ref a/\y=.ref b/\SqT K H a xs/\SqT K H b ys/\xs≠[]/\xs.length+ys.length<=sizeLine /\
 (ys=[]->Q (.ref a) H)/\(ys≠[]->∀ p,H p=none->Q (.ref p) (upd H p (.tup (xs++ys))))
theorem Vals.nil_iff {xs:List V}{us:List Value}(r:Vals xs us):us=[] ↔ xs=[]:=by
 cases r with
 | nil=>simp
 | cons _ _=>simp
theorem vU:OpR X (binaryOp .Add) (BR X.K):=by
 intro pins s σ H x y v u Q I rx ry h
 obtain ⟨a,b,xs,ys,rfl,rfl,ha,hb,hx,hz,q1,q2⟩:=h
 cases rx
 cases ry
 obtain ⟨its,r1,p1,_⟩:=I.tuple ha
 obtain ⟨its2,r2,p2,_⟩:=I.tuple hb
 refine HT.cat_tup p1 p2 (fun z=>hx (r1.nil_iff.mp z)) (fun z=>⟨.ref a,H,I,rfl,q1 (r2.nil_iff.mp z)⟩) (fun z=>?_) (by rw [<- r1.length,<- r2.length]; exact hz)
 refine ⟨.ref s.heap.objs.size,_,I.laid (t':=s.toks) (o:=.tup (xs++ys)) (fun b ob q=>Heap.get?_push_of_some _ q) (a0d _) ?_,rfl,q2 (fun w=>z (r2.nil_iff.mpr w)) _ (I.hok.fresh (a0d _))⟩
 exact ⟨by rw [a0e]; exact hz,_,r1.append r2,IsTup.new _ _⟩
end
end L2
namespace L2
open PySem PySem.Spec PyProof.Rows
noncomputable def ixN (n:Nat)(i:Int):Option Nat:=if 0<=i then (if i < n then some i.toNat else none) else if -(n:Int)<=i then some (i+n).toNat else none
noncomputable def atI {α:Type}(xs:List α)(i:Int):Option α:=(ixN xs.length i).bind fun j=>xs[j]?
theorem mw {n:Nat}{i:Int}{j:Nat}(h:ixN n i=some j):seqIndex? i n=some j/\j < n/\-(n:Int)<=i/\i < n:=by
 unfold ixN at h
 by_cases h0:0<=i
 ·rw [if_pos h0] at h
  by_cases h1:i < n
  ·rw [if_pos h1] at h
   have e:i.toNat=j:=a0w h
   exact ⟨by rw [seqIndex_of h0 h1,e],by omega,by omega,h1⟩
  ·rw [if_neg h1] at h; cases h
 ·rw [if_neg h0] at h
  by_cases h1:-(n:Int)<=i
  ·rw [if_pos h1] at h
   have e:(i+n).toNat=j:=a0w h
   exact ⟨by rw [seqIndex_neg (by omega) h1,e],by omega,h1,by omega⟩
  ·rw [if_neg h1] at h; cases h
theorem iZ {α:Type}{xs:List α}{i:Int}{v:α}(h:atI xs i=some v):∃ j,seqIndex? i xs.length=some j/\xs[j]?=some v/\j < xs.length/\-(xs.length:Int)<=i/\i < xs.length:=by
 unfold atI at h
 cases e:ixN xs.length i with
 | none=>rw [e] at h; cases h
 | some j =>
  rw [e] at h
  obtain ⟨h1,h2,h3,h4⟩:=mw e
  exact ⟨j,h1,h,h2,h3,h4⟩
noncomputable def jc (b:Expr):Prop:=∀ o i,subscripted b false o i=operate [o,i] (getItem o i)
noncomputable def IxR (X:Cx)(r:R2):Prop :=
 ∀ (value slice:Expr) (pins:List (Addr×Obj)) (s:Shared) (σ:St) (H:Hp) (x y:V) (v u:Value) (Q:VK),Inv X pins σ H s->RelV x v->RelV y u->r x y H Q ->
  subscripted slice false v u=operate [v,u] (getItem v u)->wpAny (model X.prog X.w) X.A (subscriptTail value slice v u) (EP X pins σ Q) X.xe s
noncomputable def MtR (X:Cx)(id:String)(r:V->List V->Hp->VK->Prop):Prop :=
 ∀ (pins:List (Addr×Obj)) (s:Shared) (σ:St) (H:Hp) (x:V) (xs:List V) (v:Value) (us:List Value) (Q:VK),Inv X pins σ H s->RelV x v->Vals xs us->r x xs H Q ->
  wpAny (model X.prog X.w) X.A (call (.builtin id) (v::us)) (EP X pins σ Q) X.xe s
section
variable {X:Cx}{a b:Expr}{ta tb:TE}{pos:Pos}
theorem IxR.or {r r':R2}(h:IxR X r)(h':IxR X r'):IxR X (fun x y H Q=>r x y H Q\/r' x y H Q):=by
 intro value slice pins s σ H x y v u Q I rx ry q hs
 rcases q with q | q
 ·exact h value slice pins s σ H x y v u Q I rx ry q hs
 ·exact h' value slice pins s σ H x y v u Q I rx ry q hs
theorem BZ {r:R2}(hr:IxR X r)(ha:PE X a ta)(hb:PE X b tb)(hs:jc b):PE X (.Subscript a b pos) (tOp r ta tb):=by
 intro pins s σ H Q I h
 exact Subscript_ (zI ha hb I h fun v u s2 x y H2 I2 rx ry q=>hr a b pins s2 σ H2 x y v u Q I2 rx ry q (hs _ _))
noncomputable def Et (K:a0a):R2:=fun x y H Q=>∃ p xs i v,x=.ref p/\y=.int i/\SqL K H p xs/\atI xs i=some v/\Q v H
noncomputable def D3 (K:a0a):R2:=fun x y H Q=>∃ p xs i v,x=.ref p/\y=.int i/\SqT K H p xs/\atI xs i=some v/\Q v H
noncomputable def Ez:R2:=fun x y H Q=>∃ z i c,x=.str z/\y=.int i/\z.length<=sizeLine/\atI z.cps.toList i=some c/\Q (.str ⟨#[c]⟩) H
theorem tF:IxR X (Et X.K):=by
 intro value slice pins s σ H x y v u Q I rx ry h hs
 obtain ⟨p,xs,i,z,rfl,rfl,hq,he,q⟩:=h
 cases rx
 obtain ⟨t,rfl⟩:=ry
 obtain ⟨its,r,pl,hz⟩:=I.list hq
 obtain ⟨j,h1,h2,h3,h4,h5⟩:=iZ he
 obtain ⟨w,ew,rw'⟩:=r.get h2
 have hl:=r.length
 have hn:=eK
 have fin:EP X pins σ Q w s:=⟨z,H,I,rw',q⟩
 by_cases h0:0<=i
 ·have hj:i.toNat=j:=by
   rw [seqIndex_of h0 h5] at h1
   exact a0w h1
  exact item_listR pl.isList h0 (by omega) (by rw [hj]; simpa using ew) fin hs
 ·have hj:(i+(its.toArray.size:Int)).toNat=j:=by
   rw [seqIndex_neg (by omega) h4] at h1
   rw [a0l,<- hl]
   exact a0w h1
  exact subscriptTail_builtinR (x:=w) pl.isList.typeIs slot_list_getitem.lookup
   (wpAny_getItem_list_neg (Q:=fun r s'=>r=w/\EP X pins σ Q r s') pl.isList (by omega) (by rw [a0l]<;>omega) (by omega) (by rw [hj]; simpa using ew) ⟨rfl,fin⟩) hs
theorem zG:IxR X (D3 X.K):=by
 intro value slice pins s σ H x y v u Q I rx ry h hs
 obtain ⟨p,xs,i,z,rfl,rfl,hq,he,q⟩:=h
 cases rx
 obtain ⟨t,rfl⟩:=ry
 obtain ⟨its,r,pl,hz⟩:=I.tuple hq
 obtain ⟨j,h1,h2,h3,h4,h5⟩:=iZ he
 obtain ⟨w,ew,rw'⟩:=r.get h2
 have hl:=r.length
 have hn:=eK
 have fin:EP X pins σ Q w s:=⟨z,H,I,rw',q⟩
 exact subscriptTail_builtinR (x:=w) pl.typeIs slot_tuple_getitem.lookup
  (getItem_tuple (j:=j) (Q:=fun r s'=>r=w/\EP X pins σ Q r s') pl (by omega) (by omega) (by rw [a0l,<- hl]; exact h1) (by simpa using ew) ⟨rfl,fin⟩) hs
theorem Ak:IxR X Ez:=by
 intro value slice pins s σ H x y v u Q I rx ry h hs
 obtain ⟨z,i,c,rfl,rfl,hz,he,q⟩:=h
 obtain ⟨t,rfl⟩:=rx
 obtain ⟨t',rfl⟩:=ry
 obtain ⟨j,h1,h2,h3,h4,h5⟩:=iZ he
 have hl:z.cps.toList.length=z.length:=by simp [Str.length]
 rw [hl] at h1 h4 h5
 have hn:=eK
 exact tail_any (typeIs_str s z t) slot_str_getitem.lookup (getItem_str (c:=c) (by
  have e1:decide (i < -(2 ^ 63:Int))=false:=decide_eq_false (by omega)
  have e2:decide (i >= 2 ^ 63)=false:=decide_eq_false (by omega)
  rw [e1,e2,a06]) (by rw [h1]; simpa using h2) ⟨.str ⟨#[c]⟩,H,I.tok _,⟨_,rfl⟩,q⟩) hs
theorem lF (its:List Value)(n j:Nat)(u:Value):Obj.mapSeq (·.setIfInBounds j u) { cls:=.type "list",data:=.seq its.toArray n }={ cls:=.type "list",data:=.seq (its.set j u).toArray n }:=by
 simp [Obj.mapSeq]
theorem Inv.lst {pins:List (Addr×Obj)}{σ:St}{H:Hp}{s:Shared}{p:Addr}{xs:List V}(I:Inv X pins σ H s)(h:H p=some (.lst xs)) :
  ∃ (its:List Value) (n:Nat),Vals xs its/\s.heap.get? p=some { cls:=.type "list",data:=.seq its.toArray n }/\xs.length<=sizeLine:=by
 obtain ⟨z,its,n,r,e⟩:=I.hok p _ h
 exact ⟨its,n,r,e,z⟩
theorem Inv.lstUpd {pins:List (Addr×Obj)}{σ:St}{H:Hp}{s:Shared}{p:Addr}{xs ys:List V}{its its':List Value}{n n':Nat}{f:Obj->Obj}(I:Inv X pins σ H s)(h:H p=some (.lst xs))
  (ho:s.heap.get? p=some { cls:=.type "list",data:=.seq its.toArray n }) (hf:f { cls:=.type "list",data:=.seq its.toArray n }={ cls:=.type "list",data:=.seq its'.toArray n' }) (r:Vals ys its') (hz:ys.length<=sizeLine) (t:Nat) :
  Inv X pins σ (upd H p (.lst ys)) { s with heap:=s.heap.update p f,toks:=t }:=by
 have e:(s.heap.update p f).get? p=some { cls:=.type "list",data:=.seq its'.toArray n' }:=by
  rw [Heap.get?_update_self f ho (by rw [hf]<;>rfl),hf]
 refine I.write (x:=p) (e:=p) (by rw [h]; trivial) (.inl rfl) (fun b u hb q=>(Heap.get?_update_other _ _ (a1w hb)).trans q) ⟨_,e⟩ ?_
 exact ⟨hz,its',n',r,e⟩
noncomputable def Cw:V->V->V->Hp->(Hp->Prop)->Prop:=fun o i v H Q=>∃ p xs k j,o=.ref p/\i=.int k/\H p=some (.lst xs)/\ixN xs.length k=some j/\Q (upd H p (.lst (xs.set j v)))
theorem oZ:Dl X Cw:=by
 intro pins s σ H o i v ov iv u Q I ro ri rv h
 obtain ⟨p,xs,k,j,rfl,rfl,hp,hj,q⟩:=h
 cases ro
 obtain ⟨t,rfl⟩:=ri
 obtain ⟨its,n,r,ho,hz⟩:=I.lst hp
 obtain ⟨h1,h2,h3,h4⟩:=mw hj
 have hl:=r.length
 have hn:=eK
 have I':Inv X pins σ (upd H p (.lst (xs.set j v))) { s with heap:=s.heap.update p (Obj.mapSeq (·.setIfInBounds j u)) } :=
  I.lstUpd hp ho (lF its n j u) (r.set rv j) (by rw [a1H]; exact hz) s.toks
 by_cases h0:0<=k
 ·have hk:k.toNat=j:=by
   rw [seqIndex_of h0 h4] at h1
   exact a0w h1
  exact PySem.W.ki_setAt ho h0 (by omega) (by rw [a0l,<- hl]; exact h4) (by rw [hk]; exact ⟨_,I',q⟩)
 ·have hk:(k+(its.toArray.size:Int)).toNat=j:=by
   rw [seqIndex_neg (by omega) h3] at h1
   rw [a0l,<- hl]
   exact a0w h1
  exact PySem.W.ki_setBack ho (by omega) (by rw [a0l,<- hl]; exact h3) (by omega) (by rw [hk]; exact ⟨_,I',q⟩)
theorem iQ (lo hi:Option Int)(n:Nat):(sliceBounds lo hi none n).1=((HT.sIx n 0 lo:Nat):Int)/\(sliceBounds lo hi none n).2.1=((HT.sIx n n hi:Nat):Int)/\(sliceBounds lo hi none n).2.2=1:=by
 refine ⟨?_,?_,rfl⟩
 ·cases lo with
  | none=>simp [sliceBounds,HT.sIx]
  | some i =>
   simp only [sliceBounds,HT.sIx,a3A,show (1:Int) > 0 by decide,if_true]
   by_cases h:i < 0
   ·simp only [h,if_true]<;>omega
   ·simp only [h,if_false]<;>omega
 ·cases hi with
  | none=>simp [sliceBounds,HT.sIx]
  | some i =>
   simp only [sliceBounds,HT.sIx,a3A,show (1:Int) > 0 by decide,if_true]
   by_cases h:i < 0
   ·simp only [h,if_true]<;>omega
   ·simp only [h,if_false]<;>omega
theorem gO (its:List Value)(lo hi:Option Int):slicePick its.toArray lo hi none=((its.drop (HT.sIx its.length 0 lo)).take (HT.sIx its.length its.length hi-HT.sIx its.length 0 lo)).toArray:=by
 obtain ⟨h1,h2,h3⟩:=iQ lo hi its.toArray.size
 unfold slicePick
 rw [h1,h2,h3]
 simp only [sliceRange_one,pick_run,a0l]<;>rfl
noncomputable def vT (K:a0a):V->Option Int->Option Int->Hp->VK->Prop:=fun x lo hi H Q=>∃ a xs,x=.ref a/\SqL K H a xs/\∀ p,H p=none->Q (.ref p) (upd H p (.lst (dk xs lo hi)))
theorem sl_list:SlR X (vT X.K):=by
 intro pins s σ H x v vl vu lo hi sl Q I rx hs pl pu h
 obtain ⟨a,xs,rfl,hx,q⟩:=h
 cases rx
 obtain ⟨its,r,ht,hz⟩:=I.list hx
 have hlen:=r.length
 refine ⟨"list",_,slot_list_getitem.lookup,ht.isList.typeIs,?_⟩
 refine wpAny_getItem_list_slice ht.isList hs pl pu .none (by simp) ?_ (by rw [a0l]<;>omega)
 rw [gO,<- hlen]
 refine ⟨.ref s.heap.objs.size,_,I.laid (t':=s.toks) (o:=.lst (dk xs lo hi)) (fun b ob q=>Heap.get?_push_of_some _ q) (a0d _) ?_,rfl,q _ (I.hok.fresh (a0d _))⟩
 exact ⟨a0o (cx xs lo hi) hz,_,0,(r.drop (HT.sIx xs.length 0 lo)).take (HT.sIx xs.length xs.length hi-HT.sIx xs.length 0 lo),Heap.get?_push_size _ rfl⟩
noncomputable def eqV:V->V->Bool
 | .non,.non=>true
 | .bl a,.bl b=>a==b
 | .bl a,.int b=>(if a then 1 else 0)==b
 | .int a,.bl b=>a==(if b then 1 else 0)
 | .int a,.int b=>a==b
 | .str a,.str b=>a==b
 | _,_=>false
noncomputable def inV (x:V)(xs:List V):Bool:=xs.any fun y=>eqV y x
theorem ee:cq X (.type "list") (fun xs H Q=>∃ p ys,xs=[.ref p]/\(SqL X.K H p ys\/SqT X.K H p ys)/\∀ l,H l=none->Q (.ref l) (upd H l (.lst ys))):=by
 intro pins s σ H xs us Q I r h
 obtain ⟨p,ys,rfl,hq,q⟩:=h
 obtain ⟨u,rfl,rx⟩:=hZ r
 cases rx
 have fin:∀ (its:List Value),Vals ys its->ys.length<=sizeLine->∀ (h':Heap) (c':Nat),(∀ b o',s.heap.get? b=some o'->h'.get? b=some o') ->
   h'.get? s.heap.objs.size=some { cls:=.type "list",dict:=none,data:=.seq its.toArray c',slots:=#[] }->EP X pins σ Q (.ref s.heap.objs.size) { s with heap:=h' }:=fun its r' hz h' c' kp e =>
  ⟨.ref s.heap.objs.size,_,I.laid (t':=s.toks) kp (a0d _) (show ObjOk X.prog X.w _ h' _ (.lst ys) from ⟨hz,its,c',r',e⟩),rfl,q _ (I.hok.fresh (a0d _))⟩
 rcases hq with hq | hq
 ·obtain ⟨its,r',pl,hz⟩:=I.list hq
  have hlen:=r'.length
  obtain ⟨o,ho,hc,n,hd⟩:=pl.isList
  exact call_list_seq p (.inl rfl) ho hc hd (fun h' c' kp e=>fin its r' hz h' c' kp e) (by simp only [a0l]<;>omega)
 ·obtain ⟨its,r',pl,hz⟩:=I.tuple hq
  have hlen:=r'.length
  obtain ⟨o,ho,hc,n,hd⟩:=pl
  exact call_list_seq p (.inr rfl) ho hc hd (fun h' c' kp e=>fin its r' hz h' c' kp e) (by simp only [a0l]<;>omega)
noncomputable def tyV (K:a0a)(T:String)(x:V)(H:Hp):Prop:=match x with
 | .str _=>T="str"
 | .int _=>T="int"
 | .ref p=>(T="list"/\∃ xs,SqL K H p xs)\/(T="tuple"/\∃ o,K.lookup p=some o/\o.cls=.type "tuple"/\o.dict=none) \/
   (T="dict"/\((∃ kvs,H p=some (.dK kvs))\/∃ kvs,H p=some (.dT kvs)))\/(T="set"/\∃ S n,H p=some (.set S n))
 | _=>False
theorem xQ {pins:List (Addr×Obj)}{σ:St}{H:Hp}{s:Shared}{T:String}{x:V}{v:Value}(I:Inv X pins σ H s)(r:RelV x v)(ty:tyV X.K T x H) :
  s.TypeIs v T/\∀ a,v=.ref a->∃ ob,s.heap.get? a=some ob/\ob.dict=none:=by
 cases x with
 | str z =>
  obtain ⟨t,rfl⟩:=r
  cases (show T="str" from ty)
  exact ⟨typeIs_str s z t,fun _ e=>nomatch e⟩
 | int i =>
  obtain ⟨t,rfl⟩:=r
  cases (show T="int" from ty)
  exact ⟨typeIs_int s i t,fun _ e=>nomatch e⟩
 | ref p =>
  cases r
  rcases ty with ⟨rfl,xs,hq⟩ | ⟨rfl,o,hk,hc,hd⟩ | ⟨rfl,hk⟩ | ⟨rfl,S,n,hk⟩
  ·obtain ⟨its,_,pl,_⟩:=I.list hq
   refine ⟨pl.isList.typeIs,fun a e=>?_⟩
   cases e
   obtain ⟨o,n,e,c,hd,_⟩:=pl
   exact ⟨o,e,hd⟩
  ·refine ⟨⟨o,I.kIn p o hk,hc⟩,fun a e=>?_⟩
   cases e
   exact ⟨o,I.kIn _ o hk,hd⟩
  ·have z:∃ o,s.heap.get? p=some o/\o.ExactDict:=by
    rcases hk with ⟨kvs,hk⟩ | ⟨kvs,hk⟩
    ·obtain ⟨_,_,_,_,o,_,_,e,ex,_⟩:=I.hok p _ hk
     exact ⟨o,e,ex⟩
    ·obtain ⟨_,_,_,_,o,_,_,e,ex,_⟩:=I.hok p _ hk
     exact ⟨o,e,ex⟩
   obtain ⟨o,e,ex⟩:=z
   refine ⟨⟨o,e,ex.1⟩,fun a e2=>?_⟩
   cases e2
   exact ⟨o,e,ex.2.1⟩
  ·obtain ⟨o,_,_,_,e,ex,_⟩:=I.hok p _ hk
   refine ⟨⟨o,e,ex.1⟩,fun a e2=>?_⟩
   cases e2
   exact ⟨o,e,ex.2.1⟩
 | _=>exact a05 ty
noncomputable def tBM (K:a0a)(T:String)(r:V->List V->Hp->VK->Prop)(to:TE)(t:TA):TE:=fun σ H Q=>to σ H fun x H1=>tyV K T x H1/\t σ H1 fun xs H2=>r x xs H2 Q
variable {o e:Expr}{es:List Expr}{to:TE}{t:TA}{name:Str}{apos cpos:Pos}{T id:String}{r:V->List V->Hp->VK->Prop}
theorem lX (pa:PlainAttrs T)(slot:Slot T name id)(hty:typeOf (.builtin id)=pure (.type "method_descriptor"))(hm:MtR X id r)(ho:PE X o to)(ha:PA X (e::es) t)
  (hbase:attributeBase o name X.env (eval o X.env)=eval o X.env:=by rfl)
  (hfew:((backTo cpos (starEach (e::es) X.env)).all (fun x=>!x.1)&&(backToKw cpos (keywordEach [] X.env)).all (fun x=>x.1.isSome)
  &&decide ((e::es).length+([]:List Keyword).length+(if ([]:List Keyword).isEmpty then 0 else 1) < 30))=true:=by rfl)
  (hline:(apos.endLine==cpos.line)=true:=by rfl) (hs:starEach (e::es) X.env=(false,eval e X.env)::starEach es X.env:=by rfl) (hplain:(backTo cpos (starEach es X.env)).any (·.1)=false:=by rfl) :
  PE X (.Call (.Attribute o name apos) (e::es) [] cpos) (tBM X.K T r to t):=by
 intro pins s σ H Q I h
 refine wpAny_Call_method_late hbase hfew hline rfl (thn (ho pins s σ H _ I h) fun v s1 ⟨x,H1,I1,r1,ty,q1⟩=>?_)
 obtain ⟨h1,h2⟩:=xQ I1 r1 ty
 refine ⟨T,id,pa,slot,hty,h1,h2,?_⟩
 have hA:=ha cpos pins s1 σ H1 _ I1 q1
 rw [hs] at hA ⊢
 refine Calls.callWith_builtin (by show (false || (backTo cpos (starEach es X.env)).any (·.1))=false; rw [hplain]<;>rfl) (Calls.evalArgs_plain ?_)
 exact thn hA fun us s2 ⟨vs,H2,I2,r2,q2⟩=>hm pins s2 σ H2 x vs v us Q I2 r1 r2 q2
end
end L2
namespace L2
open PySem PySem.Spec PyProof.Rows
noncomputable def MtM (X:Cx)(id:String)(r:V->List V->Hp->VK->Prop):Prop :=
 ∀ (pins:List (Addr×Obj)) (s:Shared) (σ:St) (H:Hp) (x:V) (xs:List V) (v:Value) (us:List Value) (Q:VK),Inv X pins σ H s->RelV x v->Vals xs us->r x xs H Q ->
  wpAny (model X.prog X.w) X.A (call (.builtin id) (v::us)) (EP X pins σ Q) X.xe s
theorem Vals.one:∀ {x:V} {us:List Value},Vals [x] us->∃ u,us=[u]/\RelV x u
 | _,_,.cons r .nil=>⟨_,rfl,r⟩
theorem Vals.rep {xs:List V}{us:List Value}(h:Vals xs us):∀ k:Nat,Vals (a0h k xs).flatten (a0h k us).flatten
 | 0=>.nil
 | k+1=>by
  rw [a07,a07,a18,a18]
  exact Vals.append h (Vals.rep h k)
theorem gV (its:List Value):∀ (k:Nat) (acc:List Value),
  a3Q (fun x1 x2=>x1++x2) acc.toArray (a0h k its.toArray)=(acc++(a0h k its).flatten).toArray
 | 0,acc=>by simp
 | k+1,acc=>by
  have e:acc.toArray++its.toArray=(acc++its).toArray:=by simp
  have e2:(acc++its)++(a0h k its).flatten=acc++(a0h (k+1) its).flatten:=by
   rw [a07,a18,a0V]
  rw [<- e2,<- gV its k (acc++its),<- e,a07,List.foldl_cons]
section
variable {X:Cx}{pins:List (Addr×Obj)}{σ:St}{H:Hp}{s:Shared}{l b:Addr}{xs ys zs:List V}
theorem Inv.lset {its its':List Value}{n:Nat}{f:Array Value->Array Value}{t':Nat}(I:Inv X pins σ H s)(hH:H l=some (.lst xs))
  (e:s.heap.get? l=some { cls:=.type "list",data:=.seq its.toArray n }) (hf:f its.toArray=its'.toArray) (hv:Vals ys its') (hz:ys.length<=sizeLine) :
  Inv X pins σ (upd H l (.lst ys)) { s with heap:=s.heap.update l (Obj.mapSeq f),toks:=t' }:=by
 have q:=PySem.IsL.update e f
 rw [hf] at q
 refine I.write (x:=l) (e:=l) (by rw [hH]; exact trivial) (.inl rfl) (fun b' u hb hu=>(Heap.get?_update_other s.heap (Obj.mapSeq f) (a1w hb)).trans hu) ⟨_,q⟩ ?_
 exact ⟨hz,its',_,hv,q⟩
theorem Inv.lnew {its:List Value}{t':Nat}(I:Inv X pins σ H s)(hv:Vals ys its)(hz:ys.length<=sizeLine) :
  Inv X pins σ (upd H s.heap.objs.size (.lst ys)) { s with heap:=s.heap.push { cls:=.type "list",data:=.seq its.toArray },toks:=t' } :=
 I.laid (fun _ _ q=>Heap.get?_push_of_some _ q) (a0d _) ⟨hz,its,0,hv,Heap.get?_push_size _ rfl⟩
theorem Inv.fresh (I:Inv X pins σ H s):H s.heap.objs.size=none:=I.hok.fresh (a0d _)
theorem Inv.lstM (I:Inv X pins σ H s)(hH:H l=some (.lst xs)):xs.length<=sizeLine/\∃ (its:List Value) (n:Nat),Vals xs its/\xs.length=its.length/\s.heap.get? l=some { cls:=.type "list",data:=.seq its.toArray n }:=by
 obtain ⟨z,its,n,r,e⟩:=I.hok l _ hH
 exact ⟨z,its,n,r,r.length,e⟩
theorem jY {n:Nat}(h:n<=sizeLine):Builtin.List.listTooLong n=false:=by
 unfold Builtin.List.listTooLong
 exact decide_eq_false (by omega)
end
section
variable {X:Cx}
noncomputable def s9:V->List V->Hp->VK->Prop:=fun x vs H Q=>∃ l xs y,x=.ref l/\vs=[y]/\H l=some (.lst xs)/\xs.length < sizeLine/\Q .non (upd H l (.lst (xs++[y])))
theorem eL:MtM X "list.append" s9:=by
 intro pins s σ H x vs v us Q I rx rv h
 obtain ⟨l,xs,y,rfl,rfl,hH,hz,q⟩:=h
 cases rx
 obtain ⟨u,rfl,ru⟩:=rv.one
 obtain ⟨z,its,n,r,hl,e⟩:=I.lstM hH
 refine call_meets F.slot_list_append ⟨_,e,rfl⟩ F.entry_list_append (F.args_list_append_2 _ _) (PySem.list_append l its.toArray n u (by rw [a0l]; omega)) ⟨e,?_⟩
 refine ⟨.non,_,I.lset (its':=its++[u]) hH e (by simp) (r.append (.cons ru .nil)) ?_,rfl,q⟩
 rw [a0e,a0H]
 omega
noncomputable def uk:V->List V->Hp->VK->Prop:=fun x vs H Q=>∃ l b xs zs,x=.ref l/\vs=[.ref b]/\H l=some (.lst xs)/\H b=some (.lst zs)/\xs.length+zs.length<=sizeLine/\Q .non (upd H l (.lst (xs++zs)))
theorem m9:MtM X "list.extend" uk:=by
 intro pins s σ H x vs v us Q I rx rv h
 obtain ⟨l,b,xs,zs,rfl,rfl,hH,hB,hz,q⟩:=h
 cases rx
 obtain ⟨u,rfl,ru⟩:=rv.one
 cases ru
 obtain ⟨z,its,n,r,hl,e⟩:=I.lstM hH
 obtain ⟨z2,its2,n2,r2,hl2,e2⟩:=I.lstM hB
 have hsz:its.toArray.size+its2.toArray.size<=sizeLine:=by rw [a0l,a0l]; omega
 have hlong:¬ (!its.toArray.isEmpty&&Builtin.List.listTooLong (its.toArray.size+its2.toArray.size))=true:=by
  rw [jY hsz,a3d]
  exact a0r
 refine call_meets F.slot_list_extend ⟨_,e,rfl⟩ F.entry_list_extend (F.args_list_extend_2 _ _)
  (AutoSeq1.list_extend_list_list_0 l its.toArray n b its2.toArray n2 hlong (by rw [a0l]; omega) (by omega)) ⟨e,e2,?_⟩
 refine ⟨.non,_,I.lset (its':=its++its2) hH e (by simp) (r.append r2) ?_,rfl,q⟩
 rw [a0e]
 omega
noncomputable def C4:R2:=fun x y H Q=>∃ l b xs zs,x=.ref l/\y=.ref b/\H l=some (.lst xs)/\H b=some (.lst zs)/\xs.length+zs.length<=sizeLine/\∀ p,H p=none->Q (.ref p) (upd H p (.lst (xs++zs)))
theorem op_cat:OpR X (binaryOp .Add) C4:=by
 intro pins s σ H x y v u Q I rx ry h
 obtain ⟨l,b,xs,zs,rfl,rfl,hH,hB,hz,q⟩:=h
 cases rx
 cases ry
 obtain ⟨z,its,n,r,hl,e⟩:=I.lstM hH
 obtain ⟨z2,its2,n2,r2,hl2,e2⟩:=I.lstM hB
 refine PySem.P.add_list e e2 ?_ (by rw [a0l,a0l]; omega)
 have ea:its.toArray++its2.toArray=(its++its2).toArray:=by simp
 rw [ea]
 exact ⟨.ref _,_,I.lnew (t':=s.toks) (r.append r2) (by rw [a0e]; omega),rfl,q _ I.fresh⟩
noncomputable def BU:R2:=fun x y H Q=>∃ l k xs,x=.ref l/\y=.int k/\H l=some (.lst xs)/\-(2 ^ 63)<=k/\k < 2 ^ 63/\xs.length * k.toNat<=sizeLine /\
 ∀ p,H p=none->Q (.ref p) (upd H p (.lst (a0h k.toNat xs).flatten))
theorem ue {α:Type}(xs:List α)(k:Nat):(a0h k xs).flatten.length=k * xs.length:=by
 induction k with
 | zero=>simp
 | succ k ih=>rw [a07,a18,a0e,ih,a1W,a21]
theorem zH:OpR X (binaryOp .Mult) BU:=by
 intro pins s σ H x y v u Q I rx ry h
 obtain ⟨l,k,xs,rfl,rfl,hH,h1,h2,hz,q⟩:=h
 cases rx
 obtain ⟨t,rfl⟩:=ry
 obtain ⟨z,its,n,r,hl,e⟩:=I.lstM hH
 have hlen:its.toArray.size * k.toNat<=sizeLine:=by rw [a0l,<- hl]; exact hz
 have hcap:¬ its.toArray.size * k.toNat > (2 ^ 63-1) / 8:=by
  have:(sizeLine:Nat)<=(2 ^ 63-1) / 8:=by decide
  omega
 have hfit:¬ (!Builtin.List.listFitsIndex k)=true:=by
  rw [fitsIndex_both h1 h2]
  exact a0r
 have hlong:¬ Builtin.List.listTooLong (its.toArray.size * k.toNat)=true:=by
  rw [jY hlen]
  exact a0r
 have hnew:a3Q (fun x1 x2=>x1++x2) #[] (a0h (if its.toArray.isEmpty=true then 0 else k.toNat) its.toArray)=(a0h k.toNat its).flatten.toArray:=by
  have f0:∀ m:Nat,a3Q (fun x1 x2=>x1++x2) #[] (a0h m its.toArray)=(a0h m its).flatten.toArray:=fun m=>by
   have:=gV its m []
   rw [a1o] at this
   exact this
  rw [f0]
  cases its with
  | nil=>simp
  | cons a r'=>rw [if_neg (by simp)]
 refine wpAny_binaryOp_repeat_ref (T:="list") (U:="int") (by decide) ⟨_,e,rfl⟩ (fun s'=>typeIs_int s' k t) noFill_list_mul F.fills_int_mul F.slot_int_rmul repeat_list F.slot_int_index.lookup
  (call_meets F.slot_int_rmul (typeIs_int s k t) F.entry_int_rmul (F.args_int_rmul_2 _ _) (int___rmul___int_list k t l its.toArray n)
   ⟨e,rfl,⟨_,e,rfl⟩,call_meets F.slot_list_mul ⟨_,e,rfl⟩ F.entry_list_mul (F.args_list_mul_2 _ _) (AutoListH.list___mul___list_int_3 l its.toArray n k t hfit hcap hlong) ⟨e,?_⟩⟩)
 rw [hnew]
 exact ⟨.ref _,_,I.lnew (t':=s.toks) (r.rep k.toNat) (by rw [ue,a34]; exact hz),rfl,q _ I.fresh⟩
end
end L2
namespace Att
open PySem PySem.W PySem.Calls PyProof.Rows
theorem fo {P:Params}{h:Heap}:∀ (ns:List Int) (vs:List Value),WellAll P h vs (ns.map WData.int)->IntsAre vs ns:=by
 intro ns
 induction ns with
 | nil =>
  intro vs w
  rw [a1B] at w
  cases w
  exact .nil
 | cons n ns ih =>
  intro vs w
  rw [a0A] at w
  cases w with
  | cons a b =>
   cases a
   exact .cons _ _ (ih _ b)
theorem nh {l:OpenLaw}{n:Nat}(hn:l.most=some n){P:Params}{h:Heap}{args:List WData}{vals:List Value}
  (hpre:l.row.toRowW.claim.pre args=true) (hwl:WellAll P h vals args) :
  ∃ a vs ns,vals=[Value.ref a]/\args=[WData.list (ns.map WData.int)]/\h.get? a=some { cls:=.type "list",data:=.seq vs.toArray }/\IntsAre vs ns/\ns.length<=n:=by
 have hsh:WShape.hasAll [] args [.list .int]=true:=(pre_splitW hpre).1
 have hc:l.pre.holds [] { args:=args }=true:=(pre_splitW hpre).2
 obtain ⟨d,r,rfl,h1,h2⟩:=hasAllW_cons hsh
 obtain rfl:=hasAllW_nil h2
 obtain ⟨xs,rfl,h3⟩:=hasW_list h1
 obtain ⟨ns,rfl⟩:=items_int h3
 have hlen:ns.length<=n:=by
  unfold OpenLaw.pre at hc
  have h4:(WTm.not (.lt (.lit (.int (n:Int))) (.len (.arg 0)))).holds [] { args:=[.list (ns.map .int)] }=true:=by
   have h4:=(holds_andW hc).1
   rw [hn] at h4
   exact h4
  have h5:=condW_of h4 (w_not (w_lt w_lit (w_len_list (w_arg rfl))))
  rw [a0b] at h5
  refine a3B fun q=>?_
  have q':(n:Int) < ((ns.length:Nat):Int):=by omega
  first
   | (rw [decide_eq_true q'] at h5; exact absurd h5 (by decide))
   | (simp at h5; omega)
 cases hwl with
 | cons w1 w2 =>
  cases w2
  cases w1 with
  | list ho hall=>exact ⟨_,_,ns,rfl,rfl,ho,fo ns _ hall,hlen⟩
theorem nU (l:OpenLaw)(args:List WData):l.row.toRowW.claim.post args (.bool true) args=true :=
 postW_of (r:=l.row.toRowW) (X:=(true==true))
  (show WShape.has [] (.bool true) .bool=true by first | rfl | decide | simp [WShape.has,WShape.arms,WShape.armsAll])
  (show (WTm.eq .res (.lit (.bool true))).value [] { args:=args,res:=some (.bool true),after:=args }=some (.bool (true==true)) from w_eq_bool (w_res rfl) w_lit) rfl
theorem attach_call {l:OpenLaw}{n:Nat}{q:Program}{loose:List Str}{XP:(Str->Option Value)->Heap->Prop}{YP:World->Heap->Prop}{d:DefRec}
  (hn:l.most=some n) (hdf:d.params.defaults=[])
  (call:∀ (w:World) (s₀ s₁:Shared) (mg mb:Str->Option Value) (fa:Addr) (o:Obj) (pm cd doc:Value) (a:Addr) (vs:List Value) (ns:List Int),
   Ground q loose [] XP w s₀ mg mb s₁.heap->YP w s₁.heap ->
   s₁.heap.get? fa=some o->o.data=.func (docDef d.name d.params d.body d.scope pm cd doc)->s₁.heap.CodeRec cd d.name->mg d.name=some (.ref fa) ->
   s₁.heap.get? a=some { cls:=.type "list",data:=.seq vs.toArray }->IntsAre vs ns->ns.length<=n->s₁.gens=#[] ->
   codeAny (model l.prog w) callerA (.call (.ref fa) ⟨[.ref a],[]⟩) (fun r s'=>r=.ok (.ret (.bool true))/\OldK s₁.heap s'.heap/\s'.os=s₁.os/\AllBare s'.gens) s₁) :
  WalkO q loose XP YP l.row.toRowW d [] (fun f vs=>a3R f vs):=by
 intro w s₀ s₁ mg mb G Y fa o pm cd doc dV kV ho hd hcd hD hmg hg args vals as hpre hlay hrd hwl hlo
 obtain rfl:dV=.none:=Dflts.none hD hdf
 obtain rfl:kV=.none:=Dflts.noKw hD
 obtain ⟨a,vs,ns,rfl,rfl,hobj,hints,hlen⟩:=nh hn hpre hwl
 refine enter_call (codeAny_mono (call w s₀ s₁ mg mb fa o pm cd doc a vs ns G Y ho (fd_plain hd) hcd hmg hobj hints hlen hg) fun r s' hq=>?_)
 obtain ⟨rfl,h2,h3,h4⟩:=hq
 exact ⟨.inl ⟨.bool true,.bool true,[],rfl,fun _=>rfl,.bool true,nU l _,fun _=>⟨a4a,fun _ hm=>(nomatch hm)⟩⟩,h2,h3,h4⟩
end Att
namespace L2
open PySem PySem.Spec PyProof.Rows
theorem dy:∀ {vs:List Value} {ns:List Int},IntsAre vs ns->Vals (ns.map V.int) vs
 | _,_,.nil=>.nil
 | _,_,.cons n t h=>.cons ⟨t,rfl⟩ (dy h)
noncomputable def pQ (H:Hp):Prop:=∀ b,H b=none\/∃ o xs,H b=some (.frz o (.lst xs))
theorem qo {P:Program}{w:World}{K:a0a}{mg mb:Str->Option Value}{CX:CXT}{k:Nat}{fa a:Addr}{fd:FuncData}{x:Str}{sp:Sp}{s₁:Shared}{vs:List Value}{ns:List Int}
  (KX:K.In s₁.heap) (hns:s₁.heap.Ns mainGlobals mg) (hb:s₁.heap.Ns builtinsNs mb) (hbb:∀ x:Str,x≠"__name__"->mb x=bootBuiltins x) (hlim:s₁.heap.NoLimit) (hg:s₁.gens=#[])
  (ha:s₁.heap.get? a=some { cls:=.type "list",data:=.seq vs.toArray }) (hi:IntsAre vs ns) (hl:ns.length<=sizeLine) (hr:Room k callerA)
  (F:∀ base:Heap,K.In base->base.Ns mainGlobals mg->FnOk P w K mg base CX k fa fd [x] sp) (hbind:∀ (s:Shared) (u:Value),BindsTo s fd ⟨[u],[]⟩ [(x,u)])
  (hsp:∀ H:Hp,pQ H->SqL K H a (ns.map V.int)->sp [.ref a] H (fun v _=>v=.bl true) fun _ _ _=>False)
  (hCX:∀ H e s',CX [] H s₁ (fun _ _ _=>False) e s'->False) :
  codeAny (model P w) callerA (.call (.ref fa) ⟨[.ref a],[]⟩) (fun r s'=>r=.ok (.ret (.bool true))/\OldK s₁.heap s'.heap/\s'.os=s₁.os/\AllBare s'.gens) s₁:=by
 have rv:=dy hi
 have lenV:=hi.length
 -- from an abstract heap in which nothing but the script may be tracked
 have core:∀ H:Hp,pQ H->SqL K H a (ns.map V.int)->HOk P w H s₁.heap->(∀ b,H b≠none->b=a)->(H a≠none->K.lookup a=none) ->
   codeAny (model P w) callerA (.call (.ref fa) ⟨[.ref a],[]⟩) (fun r s'=>r=.ok (.ret (.bool true))/\OldK s₁.heap s'.heap/\s'.os=s₁.os/\AllBare s'.gens) s₁:=by
  intro H hO hS hok hA hK
  have base_of:∀ {b:Addr} {o:Obj},s₁.heap.get? b=some o->H b=none->(jg s₁.heap H).get? b=some o:=fun e n=>ou e n
  have noA:∀ {b:Addr} {o:Obj} {es:Array DictEntry} {ep:Nat},s₁.heap.get? b=some o->o.data=.dict es ep->H b=none:=fun {b o es ep} e d=>by
   cases q:H b with
   | none=>rfl
   | some u =>
    have e':b=a:=hA b (by rw [q]; simp)
    subst e'
    rw [ha] at e; cases e
    have d':Data.seq vs.toArray _=Data.dict es ep:=d
    cases d'
  have nsK:∀ {b:Addr} {m:Str->Option Value},s₁.heap.Ns b m->(jg s₁.heap H).Ns b m:=fun {b m} ⟨o,es,ep,e,d,r⟩=>⟨o,es,ep,base_of e (noA e d),d,r⟩
  have hKb:K.In (jg s₁.heap H):=fun b o e=>base_of (KX b o e) (by
   cases q:H b with
   | none=>rfl
   | some u =>
    have e':b=a:=hA b (by rw [q]; simp)
    subst e'
    rw [hK (by rw [q]; simp)] at e; cases e)
  have hM:Mod K mg (jg s₁.heap H):=⟨hKb,nsK hns,⟨mb,nsK hb,hbb⟩,let ⟨mc,h1,h2⟩:=hlim; ⟨mc,nsK h1,h2⟩⟩
  have e0:Env0 P w K mg (jg s₁.heap H) callerA [] s₁ H:=⟨rfl,hM,fun b o e=>uX e,a35 (nE _ _),trivial,fun b hb=>absurd (show b∈([]:List Addr) from hb) (by simp),hok,.of_eq hg⟩
  refine codeAny_mono ((F _ hKb (nsK hns)).run callerA [] s₁ H ⟨[.ref a],[]⟩ [.ref a] [.ref a] _ _ hr e0 (hbind s₁ (.ref a)) (.cons rfl .nil) (hsp H hO hS)) fun r s' h=>?_
  cases r with
  | error e=>exact (hCX H e s' h).elim
  | ok fl =>
   cases fl with
   | next=>exact a05 h
   | brk=>exact a05 h
   | cont=>exact a05 h
   | ret u =>
    obtain ⟨v,H',os,bare,un,hok',r',q⟩:=h
    have q':v=.bl true:=q
    subst q'
    obtain rfl:u=Value.bool true:=r'
    refine ⟨rfl,OldK.of_keep fun b o e=>?_,os,bare⟩
    cases q:H b with
    | none=>exact un.keep b o e q (by intro z; exact absurd (show b∈([]:List Addr) from z) (by simp)) (by simp)
    | some u =>
     rcases hO b with z | ⟨ob,xs,z⟩
     ·rw [q] at z; cases z
     ·have z2:=un.frzs b ob _ z
      obtain ⟨e1,_⟩:=hok b _ z
      obtain ⟨e2,_⟩:=hok' b _ z2
      rw [e] at e1; cases e1
      exact e2
 cases hk:K.lookup a with
 | some o =>
  -- the script is one of the module's own objects
  have e:=KX a o hk
  rw [ha] at e
  cases e
  refine core (fun _=>none) (fun _=>.inl rfl) (.inr ⟨_,vs.toArray,_,hk,rfl,rfl,rfl,by rw [a0l,lenV]; exact hl,by simpa using rv⟩) (fun b u z=>by have z':(none:Option HO)=some u:=z; cases z') (fun b z=>absurd rfl z) fun z=>absurd rfl z
 | none =>
  refine core (fun b=>if b=a then some (.frz { cls:=.type "list",data:=.seq vs.toArray } (.lst (ns.map V.int))) else none) (fun b=>?_) (.inl (.inr ⟨{ cls:=.type "list",data:=.seq vs.toArray },if_pos rfl⟩)) (fun b u z=>?_) (fun b z=>?_) fun _=>hk
  ·by_cases hb:b=a
   ·exact .inr ⟨_,_,if_pos hb⟩
   ·exact .inl (if_neg hb)
  ·by_cases hb:b=a
   ·have z':=(if_pos hb).symm.trans z
    cases z'
    subst hb
    exact ⟨ha,by rw [a0b]; exact hl,vs,_,rv,ha⟩
   ·have z':=(if_neg hb).symm.trans z
    cases z'
  ·by_cases hb:b=a
   ·exact hb
   ·exact absurd (if_neg hb) z
end L2
namespace L2
open PySem PySem.Spec PyProof.Rows
theorem walk_of {l:a22}{n k:Nat}{q:Program}{loose:List Str}{XP:(Str->Option Value)->Heap->Prop}{YP:World->Heap->Prop}{d:DefRec}{K:Params->a0a}{CX:World->CXT}{sp:World->Sp}{x:Str}
  (hn:l.most=some n) (hn2:n<=sizeLine) (hdf:d.params.defaults=[]) (hr:Room k callerA)
  (hY:∀ (w:World) (h:Heap),YP w h->(K w.params).In h)
  (F:∀ (w:World) (mg:Str->Option Value) (fa:Addr) (h:Heap),(K w.params).In h->h.Ns mainGlobals mg->mg d.name=some (.ref fa) ->
   ∃ fd:FuncData,(∀ (s:Shared) (u:Value),BindsTo s fd ⟨[u],[]⟩ [(x,u)]) /\
    ∀ base:Heap,(K w.params).In base->base.Ns mainGlobals mg->FnOk l.prog w (K w.params) mg base (CX w) k fa fd [x] (sp w))
  (hsp:∀ (w:World) (H:Hp) (a:Addr) (ns:List Int),ns.length<=n->pQ H->SqL (K w.params) H a (ns.map V.int)->sp w [.ref a] H (fun v _=>v=.bl true) fun _ _ _=>False)
  (hCX:∀ (w:World) (H:Hp) (s:Shared) (e:Value) (s':Shared),CX w [] H s (fun _ _ _=>False) e s'->False) :
  a3S q loose XP YP l.row.toRowW d [] (fun f vs=>a3R f vs):=by
 refine Att.attach_call hn hdf fun w s₀ s₁ mg mb fa o pm cd doc a vs ns G Y ho hd hcd hmg hobj hints hlen hg=>?_
 have KX:=hY w _ Y
 obtain ⟨fd,hb,hF⟩:=F w mg fa _ KX G.T.g hmg
 exact qo KX G.T.g G.T.b G.T.builtins G.T.nolimit hg hobj hints (a0o hlen hn2) hr hF hb (fun H hO hS=>hsp w H a ns hlen hO hS) fun H e s'=>hCX w H s₁ e s'
end L2
namespace L2
open PySem PySem.Spec PyProof.Rows
noncomputable def defArgs (s:Stmt):Arguments:=match s with
 | .FunctionDef _ a _ _ _ _ _ _ _ _=>a
 | _=>{ posonlyargs:=[],args:=[],vararg:=none,kwonlyargs:=[],kw_defaults:=[],kwarg:=none,defaults:=[] }
noncomputable def defBody (s:Stmt):List Stmt:=match s with
 | .FunctionDef _ _ b _ _ _ _ _ _ _=>b
 | _=>[]
noncomputable def defScope (s:Stmt):Scope:=match s with
 | .FunctionDef _ _ _ _ _ _ sc _ _ _=>sc
 | _=>{ kind:=.function,names:=[],isGenerator:=false,isCoroutine:=false }
noncomputable abbrev CX0:CXT:=fun _ _ _ _ _ _=>False
noncomputable abbrev E0:XK:=fun _ _ _=>False
theorem lY {X:Cx}:fT CX0 X E0:=fun _ _ _ _ _ _ _ h=>h.elim
structure Fun (K:a0a)(x qual:Str)(st:Stmt)(f:Addr)(fd:FuncData):Prop where
 ex:∃ (oc:Value) (od:Option Addr) (kV doc pm:Value) (an:Option Addr) (cdv ct:Value) (osl:Array (Option Value)),
  fd=a0X x qual (defArgs st) (defBody st) (defScope st) .none kV doc pm an cdv ct/\K.lookup f=some ⟨oc,od,.func fd,osl⟩/\a1P K cdv qual=true
 kp:a1b K (.ref f)=true
section
variable {P:Program}{w:World}{K:a0a}{mg:Str->Option Value}{base:Heap}
theorem Fun.ok {x qual:Str}{st:Stmt}{f:Addr}{fd:FuncData}{N ps:List Str}{k:Nat}{sp:Sp}(F:Fun K x qual st f fd)(S:ao N ps (defScope st))(len:∀ vs H Q E,sp vs H Q E->vs.length=ps.length)
  (hbody:∀ (cdv:Value) (A:Around) (outer:List Env) (s:Shared) (H:Hp) (vs:List V) (Q:VK) (E:XK),Room k (A.deeper (envOfC qual (defScope st) s.heap.objs.size f cdv))->sp vs H Q E ->
   ∃ t,PSs (cZ CX0 P w K mg base N qual (defScope st) f cdv A outer s H E).nox (defBody st) t/\t { nx:=fun _ H'=>Q .non H',rt:=Q } (start N vs) H):FnOk P w K mg base CX0 (k+1) f fd ps sp:=by
 obtain ⟨oc,od,kV,doc,pm,an,cdv,ct,osl,rfl,lk,hcd⟩:=F.ex
 refine rZ lk hcd S len fun A outer s H vs Q E hr hsp=>?_
 obtain ⟨t,h,q⟩:=hbody cdv A outer s H vs Q E hr hsp
 exact ⟨t,h.nox,q⟩
theorem Fun.binds {x qual:Str}{st:Stmt}{f:Addr}{fd:FuncData}{ps:List Str}(F:Fun K x qual st f fd)
  (h:∀ (kV doc pm:Value) (an:Option Addr) (cdv ct:Value) (us:List Value),us.length=ps.length->bindArgs (a0X x qual (defArgs st) (defBody st) (defScope st) .none kV doc pm an cdv ct) ⟨us,[]⟩=pure (ps.zip us)):Binds K fd ps []:=by
 obtain ⟨oc,od,kV,doc,pm,an,cdv,ct,osl,rfl,lk,hcd⟩:=F.ex
 exact .all (h kV doc pm an cdv ct)
theorem qp {x qual:Str}{st:Stmt}{f:Addr}{oc:Value}{od an:Option Addr}{osl:Array (Option Value)}{kV doc pm cdv ct:Value}(l:K.lookup f=some ⟨oc,od,.func (a0X x qual (defArgs st) (defBody st) (defScope st) .none kV doc pm an cdv ct),osl⟩)
  (c:a1P K cdv qual=true) (k:a1b K (.ref f)=true):Fun K x qual st f (a0X x qual (defArgs st) (defBody st) (defScope st) .none kV doc pm an cdv ct):=⟨⟨oc,od,kV,doc,pm,an,cdv,ct,osl,rfl,l,c⟩,k⟩
end
section
variable {X:Cx}
theorem pv (i:Nat){x:Str}{pos:Pos}(hN:X.N[i]?=some x:=by rfl)(hv:Vis X.env.scope x:=by first | exact a0F rfl | exact a0B (a0F rfl) | exact a0B (a0B rfl))(hd:(x==("__debug__":Str))=false:=by decide)
  (hcd:(x==("__classdict__":Str))=false:=by decide):PE X (.Name x pos) (m6 i):=bZ hN hv hd hcd
end
theorem jl {A B:Prop}(h:B):if false=true then A else B:=by
 rw [if_neg a0r]
 exact h
theorem yf {A B:Prop}(h:A):if true=true then A else B:=by
 rw [if_pos rfl]
 exact h
noncomputable def Same (H H':Hp):Prop:=∀ b o,H b=some o->H' b=some o
theorem Same.refl (H:Hp):Same H H:=fun _ _ h=>h
theorem Same.trans {H H1 H2:Hp}(a:Same H H1)(b:Same H1 H2):Same H H2:=fun c o h=>b c o (a c o h)
end L2
namespace L2
open PySem PySem.Spec PyProof.Rows
end L2
namespace L2
open PySem PySem.Spec PyProof.Rows
end L2

set_option maxHeartbeats 4000000
namespace L3
open PySem PySem.Spec PyProof.Rows L2
noncomputable abbrev noX:Value->Shared->Prop:=fun _ _=>False
theorem ie {P:Program}{w:World}{H:Hp}{h:Heap}{a:Addr}{o:HO}(x:HOk P w H h)(hn:H a=none)(new:ObjOk P w (upd H a o) h a o):HOk P w (upd H a o) h:=by
 intro b u e
 by_cases hb:b=a
 ·subst hb
  rw [aj] at e
  cases e
  exact new
 ·rw [ag hb] at e
  refine (x b u e).stay (fun c v _ q=>q) (fun c q=>?_) (fun c xs q=>?_)
  ·rw [ag (aI q hn)]; exact q
  ·rw [ag (aI q hn)]; exact q
section
variable {prog:Program}{w:World}{A:Around}{R:Result->Shared->Prop}{s:Shared}
theorem lG {elt tg iter:Expr}{scope:Scope}{pos:Pos}{it acc:Value}{env:Env}(J:Nat->Shared->Prop)
  (turn:∀ n s,J n s->wpAny (model prog w) A (pyNext it) (fun r s₁=>match r with
   | none=>R (.ok .next) s₁
   | some v=>wpAny (model prog w) A (letOwnedTupleGo tg it v) (fun _ s₂=>wpAny (model prog w) A (assign tg env v) (fun _ s₃ =>
     wpAny (model prog w) A (eval elt env) (fun y s₄=>wpAny (model prog w) A (call (.builtin "list.append") [acc,y]) (fun _ s₅=>∃ m,m < n/\J m s₅) noX s₄) noX s₃) noX s₂) noX s₁) noX s)
  (n:Nat) (h:J n s):codeAny (model prog w) A (.compLoop (.ListComp elt [⟨tg,iter,[],0⟩] scope pos) 0 it acc env) R s:=by
 refine codeAny_loop rfl J (fun n s hJ=>?_) n h
 show wpAny _ A ((compTurn (.ListComp elt [⟨tg,iter,[],0⟩] scope pos) 0 it acc env).onRaise (fun x=>do noteFrame x env; theTreesLotGoes x)) _ _ s
 refine wpAny_noted ?_
 rw [compTurn_list]
 refine wpAny_bind (wpAny_standAt (wpAny_bind (wpAny_mono (turn n s hJ) (fun r s₁ h₁=>?_) fun _ _ z=>z.elim)))
 cases r with
 | none=>exact wpAny_pure h₁
 | some v =>
  refine wpAny_bind (wpAny_mono h₁ (fun _ s₂ h₂=>?_) fun _ _ z=>z.elim)
  refine wpAny_bind (wpAny_mono h₂ (fun _ s₃ h₃=>?_) fun _ _ z=>z.elim)
  refine wpAny_bind (wpAny_tests_nil ?_)
  exact wpAny_bind (wpAny_bind (wpAny_mono h₃ (fun y s₄ h₄=>wpAny_bind (wpAny_mono h₄ (fun _ s₅ h₅=>wpAny_pure (wpAny_pure ⟨rfl,h₅⟩)) fun _ _ z=>z.elim)) fun _ _ z=>z.elim))
end
noncomputable def av (X:Cx)(N:List Str)(scope:Scope)(cl:List (Str×Addr))(C:Addr)(s:Shared)(H:Hp)(fp:List Addr):Cx where
 prog:=X.prog
 w:=X.w
 K:=X.K
 mg:=X.mg
 base:=X.base
 A:=X.A
 N:=N
 s₀:=s
 H₀:=H
 env:=compEnvC scope cl C X.env
 outer:=X.stack
 stack:=X.stack
 ex:=fp
 fn:=fun _=>false
 calm:=X.calm
 pn:=X.pn
 xe:=noX
structure nt (x:Str)(ys:List Str)(scope:Scope):Prop where
 kind:scope.kind=.function
 cell:∀ y∈scope.names,y.2≠.cell
 nm:∀ y∈scope.names,y.2=.local->scope.names.lookup y.1=some .local
 loc:scope.names.lookup x=some .local
 nd:(x::ys).Nodup
inductive Clo (X:Cx):List (Str×Addr)->Prop
 | nil:Clo X []
 | cons {y:Str} {c:Addr} {cl:List (Str×Addr)}:X.env.cells.lookup y=some c->Clo X cl->Clo X ((y,c)::cl)
theorem Clo.get {X:Cx}{cl:List (Str×Addr)}(h:Clo X cl):∀ {y:Str} {c:Addr},cl.lookup y=some c->X.env.cells.lookup y=some c:=by
 induction h with
 | nil=>intro y c e; cases e
 | @cons z d cl' hz _ ih =>
  intro y c e
  cases q:y==z with
  | true =>
   simp only [a2e,q] at e
   cases e
   rw [eq_of_beq q]; exact hz
  | false =>
   simp only [a2e,q] at e
   exact ih e
inductive Frees (X:Cx)(scope:Scope)(cl:List (Str×Addr)):List Str->List Nat->Prop
 | nil:Frees X scope cl [] []
 | cons {y:Str} {ys:List Str} {i:Nat} {is:List Nat} {c:Addr}:X.N[i]?=some y->Vis X.env.scope y->(X.env.kindOf y=some .cell\/X.env.kindOf y=some .free)->X.env.cells.lookup y=some c->cl.lookup y=some c ->
   ((relabel scope X.env).names.lookup y=some .cell\/(relabel scope X.env).names.lookup y=some .free)->Frees X scope cl ys is->Frees X scope cl (y::ys) (i::is)
theorem Frees.len {X:Cx}{scope:Scope}{cl:List (Str×Addr)}{ys:List Str}{is:List Nat}(F:Frees X scope cl ys is):is.length=ys.length:=by
 induction F with
 | nil=>rfl
 | cons _ _ _ _ _ _ _ ih=>rw [a0g,a0g,ih]
noncomputable def bP (σ:L2.St)(is:List Nat):L2.St:=is.map fun i=>(σ[i]?).join
theorem Frees.get {X:Cx}{scope:Scope}{cl:List (Str×Addr)}{ys:List Str}{is:List Nat}{σ:L2.St}(F:Frees X scope cl ys is):∀ {j:Nat} {y:Str} {v:V},ys[j]?=some y->(bP σ is)[j]?=some (some v) ->
  ∃ (i:Nat) (c:Addr),X.N[i]?=some y/\σ[i]?=some (some v)/\Vis X.env.scope y/\(X.env.kindOf y=some .cell\/X.env.kindOf y=some .free)/\X.env.cells.lookup y=some c/\cl.lookup y=some c /\
   ((relabel scope X.env).names.lookup y=some .cell\/(relabel scope X.env).names.lookup y=some .free):=by
 induction F with
 | nil=>intro j y v e; simp at e
 | @cons z zs i is c h1 h2 h3 h4 h5 h6 _ ih =>
  intro j y v e1 e2
  unfold bP at e2
  rw [a0A] at e2
  cases j with
  | zero =>
   rw [a14] at e1 e2
   cases e1
   cases q:σ[i]? with
   | none=>rw [q] at e2; cases e2
   | some o =>
    rw [q] at e2
    have e3:o=some v:=a0w e2
    subst e3
    exact ⟨i,c,h1,q,h2,h3,h4,h5,h6⟩
  | succ j =>
   rw [a0G] at e1 e2
   exact ih e1 e2
theorem jR {X:Cx}{pins:List (Addr×Obj)}{σ:L2.St}{H:Hp}{s:Shared}{x:Str}{ys:List Str}{is:List Nat}{scope:Scope}{cl:List (Str×Addr)}{fp:List Addr}{C:Addr}{h1:Heap}{t1:Nat}{m1:Str->Option Value}
  (I:Inv X pins σ H s) (hf:∀ b∈fp,gB X pins H b) (hfo:∀ b∈fp,b < s.heap.objs.size) (S:nt x ys scope) (hcl:Clo X cl)
  (hfr:(scope.names.all fun p=>p.2 != .free || (cl.lookup p.1).isSome)=true) (fr:Frees X scope cl ys is)
  (hC:s.heap.objs.size<=C) (old:∀ b o,s.heap.get? b=some o->h1.get? b=some o) (hn:h1.Ns C m1) :
  Inv (av X (x::ys) scope cl C s H fp) pins (none::bP σ is) H { s with heap:=h1,toks:=t1 }:=by
 have stk:∀ b,b≠X.env.locals->b ∉ X.fs->b ∉ frs X.stack:=fun b q1 q2 hb=>(a0n.mp (I.stkSub b hb)).elim q1 q2
 have key:∀ a k,(relabel scope X.env).names.lookup a=some k->(k=.cell\/k=.free)->∃ c,cl.lookup a=some c:=fun a k e hk=>by
  have hm:=a1h e
  obtain ⟨⟨n,k0⟩,hp,ep⟩:=a08.mp hm
  have hk0:k0=.free/\n=a:=by
   dsimp only at ep
   split at ep
   ·rename_i hc
    simp only [a0p] at hc
    exact ⟨eq_of_beq hc.1.1,(a3g ep).1⟩
   ·obtain ⟨e1,e2⟩:=a3g ep
    subst e2
    rcases hk with z | z
    ·exact absurd z (S.cell _ hp)
    ·exact ⟨z,e1⟩
  obtain ⟨z1,z2⟩:=hk0
  subst z1 z2
  have q:=a0I.mp hfr _ hp
  have q2:(cl.lookup n).isSome=true:=by simpa using q
  exact a1V.mp q2
 refine ⟨⟨I.ok.mod,S.kind,I.ok.glob,I.ok.blt,hC,fun a b c e1 e2=>I.ok.inj a b c (hcl.get e1) (hcl.get e2),fun a ha=>?_,fun a c e=>absurd e a0r,I.ok.hd,I.ok.frames,.inl rfl,
   fun b hb=>⟨a0u (a0f (hfo b hb) hC),fun a c e=>(hf b hb).2.2.2.2.1 a c (hcl.get e)⟩,I.bs,a0o I.ok.bsz I.sz,fun b o e hb=>?_,fun b hb=>stk b (hf b hb).2.1 (hf b hb).2.2.1,I.stack,I.stkFree⟩,
  rfl,I.bare,Un.kept old,⟨m1,hn,fun j y v e1 e2 e3=>?_⟩,fun a c e=>?_,I.hok.fresh hC,fun a c e=>I.freeC a c (hcl.get e),fun p hp=>?_,I.hok.kept old,?_⟩
 ·rcases ha with e | e
  ·exact key a _ e (.inl rfl)
  ·exact key a _ e (.inr rfl)
 ·rcases (hf b hb).2.2.2.1 with z | z
  ·exact I.ok.noex b o e z
  ·exact absurd (a0f (Heap.lt_size (I.ok.bs b o e).1) z) (a0N _)
 ·cases j with
  | zero =>
   have z:(none:Option V)=some v:=a0w e2
   cases z
  | succ j =>
   obtain ⟨i,c,g1,g2,g3,g4,g5,g6,g7⟩:=fr.get (σ:=σ) (show ys[j]?=some y from e1) (show (bP σ is)[j]?=some (some v) from e2)
   obtain ⟨m0,hn0,hl0⟩:=I.loc
   obtain ⟨u,r,l⟩:=hl0 i y v g1 g2 g3
   rcases l with ⟨k,_⟩ | ⟨_,c',e',z⟩
   ·rcases g4 with q | q
    ·rw [k] at q; cases q
    ·rw [k] at q; cases q
   ·rw [g5] at e'
    cases e'
    obtain ⟨o,ho,hd⟩:=z
    exact ⟨u,r,.inr ⟨g7,c,g6,⟨o,old _ _ ho,hd⟩⟩⟩
 ·obtain ⟨v,o,ho,hd⟩:=I.cell a c (hcl.get e)
  exact ⟨v,o,old _ _ ho,hd⟩
 ·obtain ⟨e,n,ne,nf,d⟩:=I.pin p hp
  exact ⟨old _ _ e,n,a0u (a0f (Heap.lt_size e) hC),stk _ ne nf,d⟩
 ·show (none::bP σ is).length=(x::ys).length
  unfold bP
  rw [a0g,a0g,a0b,fr.len]
noncomputable abbrev jm (its:List Value):Obj:={ cls:=.type "list",data:=.seq its.toArray its.length }
theorem nI {X:Cx}(hc:X.calm=true):cq X (.builtin "all") (fun xs H Q=>∃ (a:Addr) (bs:List Bool),xs=[.ref a]/\SqL X.K H a (bs.map V.bl)/\Q (.bl (bs.all id)) H):=by
 intro pins s σ H xs us Q I r h
 obtain ⟨a,bs,rfl,hS,q⟩:=h
 obtain ⟨u,rfl,ru⟩:=hZ r
 cases ru
 obtain ⟨its,rv,p,hz⟩:=I.list hS
 have hlen:its.toArray.size=bs.length:=by rw [a0l,<- rv.length,a0b]
 have hlt:a < s.heap.objs.size:=by obtain ⟨o,e,_⟩:=p.isList; exact Heap.lt_size e
 refine call_all_walk (wpAny_pyIter_list p.isList ?_)
 refine ⟨s.heap.objs.size,_,_,_,_,_,fun i=>bs.getD i true,rfl,Walks.list (A:=X.A.in1) (show X.A.in1.handled=none from I.ok.hd hc) s.heap.objs.size a (a0u hlt) its.toArray,⟨⟨_,Heap.get?_push_size _ rfl,rfl,rfl⟩,p.isList.push _⟩,fun i v s' Q' E' hv hQ=>?_,fun h' tk k=>?_⟩
 ·have hv':its[i]?=some v:=by simpa using hv
  have hi:i < its.length:=(a0s.mp hv').1
  have hib:i < bs.length:=by have:=rv.length; rw [a0b] at this; omega
  obtain ⟨w',e1,e2⟩:=rv.get (i:=i) (x:=.bl bs[i]) (by rw [a0t,a0i hib]; rfl)
  rw [hv'] at e1
  cases e1
  cases e2
  refine wpAny_truthy_bool ?_
  have e3:bs.getD i true=bs[i]:=by rw [a0j,a0i hib]; rfl
  rw [<- e3]; exact hQ
 ·have e:(a0q its.toArray.size).all (fun i=>bs.getD i true)=bs.all id:=by
   rw [hlen,Bool.eq_iff_iff,a0I,a0I]
   constructor
   ·intro z b hb
    obtain ⟨i,hi,e⟩:=List.getElem_of_mem hb
    have:=z i (a2a.mpr hi)
    rw [a0j,a0i hi] at this
    simpa [e] using this
   ·intro z i hi
    have hi':=a2a.mp hi
    rw [a0j,a0i hi']
    exact z _ (a2P hi')
  rw [e]
  exact ⟨.bl (bs.all id),H,I.kept (fun b o eo=>k b o (fun hm=>by
   have:b=s.heap.objs.size:=by simpa using hm
   exact absurd (this ▸ Heap.lt_size eo) (a0N _)) (Heap.get?_push_of_some _ eo)),rfl,q⟩
inductive Th where
 | non | bl (b:Bool) | int (i:Int) | str (x:Str) | tup (ts:List Th) | lst (ts:List Th)
mutual
noncomputable def Has (K:a0a)(H:Hp):Th->V->Prop
 | .non,v=>v=.non
 | .bl b,v=>v=.bl b
 | .int i,v=>v=.int i
 | .str x,v=>v=.str x
 | .tup ts,v=>∃ a vs,v=.ref a/\SqT K H a vs/\HasL K H ts vs
 | .lst ts,v=>∃ a vs,v=.ref a/\H a=some (.lst vs)/\HasL K H ts vs
noncomputable def HasL (K:a0a)(H:Hp):List Th->List V->Prop
 | [],vs=>vs=[]
 | t::ts,vs=>∃ v r,vs=v::r/\Has K H t v/\HasL K H ts r
end
theorem Same.sqt {K:a0a}{H H':Hp}{a:Addr}{xs:List V}(e:Same H H')(h:SqT K H a xs):SqT K H' a xs:=by
 rcases h with (h | ⟨o,h⟩) | h
 ·exact .inl (.inl (e _ _ h))
 ·exact .inl (.inr ⟨o,e _ _ h⟩)
 ·exact .inr h
mutual
theorem Has.mono {K:a0a}{H H':Hp}(s:Same H H'):∀ {t:Th} {v:V},Has K H t v->Has K H' t v
 | .non,_,h=>h
 | .bl _,_,h=>h
 | .int _,_,h=>h
 | .str _,_,h=>h
 | .tup _,_,⟨a,vs,e,q,r⟩=>⟨a,vs,e,Same.sqt s q,HasL.mono s r⟩
 | .lst _,_,⟨a,vs,e,q,r⟩=>⟨a,vs,e,s _ _ q,HasL.mono s r⟩
theorem HasL.mono {K:a0a}{H H':Hp}(s:Same H H'):∀ {ts:List Th} {vs:List V},HasL K H ts vs->HasL K H' ts vs
 | [],_,h=>h
 | _::_,_,⟨v,r,e,q,z⟩=>⟨v,r,e,Has.mono s q,HasL.mono s z⟩
end
theorem HasL.length {K:a0a}{H:Hp}:∀ {ts:List Th} {vs:List V},HasL K H ts vs->vs.length=ts.length
 | [],_,h=>by
  have h':_=[]:=h
  rw [h']
  all_goals rfl
 | _::_,_,⟨v,r,e,_,z⟩=>by rw [e,a0g,a0g,HasL.length z]
noncomputable def Th.ty:Th->String
 | .non=>"NoneType" | .bl _=>"bool" | .int _=>"int" | .str _=>"str" | .tup _=>"tuple" | .lst _=>"list"
noncomputable def isI (c:String)(t:Th):Bool:=t.ty==c || (t.ty=="bool"&&c=="int")
theorem kit_type {K:a0a}{A B:String}:a0y K (.type A) (.type B)=a0y [] (.type A) (.type B):=by
 unfold a0y PySem.W.kitCls a3l
 rfl
theorem yM:∀ c∈["tuple","str","bool","int","list"],∀ n∈["NoneType","bool","int","str","tuple","list"],a0y [] (.type n) (.type c)=some (n==c || (n=="bool"&&c=="int")):=by decide +kernel
theorem zO (t:Th):t.ty∈["NoneType","bool","int","str","tuple","list"]:=by cases t<;>simp [Th.ty]
theorem gg {c:String}(hc:c∈["tuple","str","bool","int","list"])(t:Th):a0y [] (.type t.ty) (.type c)=some (isI c t):=yM c hc t.ty (zO t)
theorem b8 {H:Hp}{p:Addr}(h:H p=none)(o:HO):Same H (upd H p o):=fun b u q=>by rw [ag (aI q h)]; exact q
noncomputable def wO (K:a0a):R2:=fun x y H Q=>∃ a b xs ys,x=.ref a/\y=.ref b/\SqT K H a xs/\SqT K H b ys/\xs≠[]/\xs.length+ys.length<=sizeLine/\∀ v H',Same H H'->(∃ c,v=.ref c/\SqT K H' c (xs++ys))->Q v H'
theorem vA {X:Cx}:OpR X (binaryOp .Add) (wO X.K):=fun pins s σ H x y v u Q I rx ry h=>by
 obtain ⟨a,b,xs,ys,e1,e2,h1,h2,hx,hz,q⟩:=h
 exact vU pins s σ H x y v u Q I rx ry ⟨a,b,xs,ys,e1,e2,h1,h2,hx,hz,fun z=>q _ _ (Same.refl _) ⟨a,rfl,by rw [z,a0z]; exact h1⟩,fun _ p hp=>q _ _ (b8 hp _) ⟨p,rfl,SqT.of aj⟩⟩
theorem gi {X:Cx}{x:Str}{T:String}{pos:Pos}(hg:Gl X x)(hm:X.mg x=none)(hv:bootBuiltins x=some (.type T))(hn:x≠"__name__":=by decide)(hd:(x==("__debug__":Str))=false:=by decide):PE X (.Name x pos) (tC (.ty T)):=vE (v:=.ty T) hg hm hv rfl hn hd
theorem zJ {X:Cx}{x:Str}{a:Addr}{pos:Pos}(hg:Gl X x)(hm:X.mg x=some (.ref a))(hd:(x==("__debug__":Str))=false:=by decide):PE X (.Name x pos) (tC (.ref a)):=vS (v:=.ref a) hg hm rfl hd
theorem fg (ns:List Int):∀ k,k<=ns.length->preSum (fun i=>ns.getD i 0) k=(ns.take k).sum
 | 0,_=>rfl
 | k+1,h=>by
  have ih:=fg ns k (by omega)
  show preSum (fun i=>ns.getD i 0) k+ns.getD k 0=_
  rw [ih,List.take_succ,a2i,a0j,a0i (show k < ns.length by omega)]
  simp
theorem nN {X:Cx}(hc:X.calm=true):cq X (.builtin "sum") (fun xs H Q=>∃ (a:Addr) (ns:List Int),xs=[.ref a]/\SqL X.K H a (ns.map V.int)/\Q (.int ns.sum) H):=by
 intro pins s σ H xs us Q I r h
 obtain ⟨a,ns,rfl,hS,q⟩:=h
 obtain ⟨u,rfl,ru⟩:=hZ r
 cases ru
 obtain ⟨its,rv,p,hz⟩:=I.list hS
 have hlen:its.toArray.size=ns.length:=by rw [a0l,<- rv.length,a0b]
 have hlt:a < s.heap.objs.size:=by obtain ⟨o,e,_⟩:=p.isList; exact Heap.lt_size e
 refine call_sum_walkG (wpAny_pyIter_list p.isList ?_)
 refine ⟨s.heap.objs.size,_,_,_,_,_,fun i=>ns.getD i 0,rfl,Walks.list (A:=X.A.in1) (show X.A.in1.handled=none from I.ok.hd hc) s.heap.objs.size a (a0u hlt) its.toArray,⟨⟨_,Heap.get?_push_size _ rfl,rfl,rfl⟩,p.isList.push _⟩,fun b hb=>?_,fun i v hv=>?_,fun h' tk t' k=>?_⟩
 ·show b < (s.heap.push _).objs.size
  rw [Heap.size_push]
  rcases a0n.mp hb with rfl | hb
  ·exact Nat.lt_succ_self _
  ·rw [a0C.mp hb]; exact Nat.lt_succ_of_lt hlt
 ·have hv':its[i]?=some v:=by simpa using hv
  have hi:i < its.length:=(a0s.mp hv').1
  have hib:i < ns.length:=by have:=rv.length; rw [a0b] at this; omega
  obtain ⟨w',e1,e2⟩:=rv.get (i:=i) (x:=.int ns[i]) (by rw [a0t,a0i hib]; rfl)
  rw [hv'] at e1
  cases e1
  obtain ⟨t,rfl⟩:=e2
  have e3:ns.getD i 0=ns[i]:=by rw [a0j,a0i hib]; rfl
  exact ⟨t,by show Value.int ns[i] t=Value.int (ns.getD i 0) t; rw [e3]⟩
 ·have e:preSum (fun i=>ns.getD i 0) its.toArray.size=ns.sum:=by
   rw [hlen,fg ns _ (a0d _),a3C]
  rw [e]
  exact ⟨.int ns.sum,H,I.kept (fun b o eo=>k b o (fun hm=>by
   have:b=s.heap.objs.size:=by simpa using hm
   exact absurd (this ▸ Heap.lt_size eo) (a0N _)) (Heap.get?_push_of_some _ eo)),⟨t',rfl⟩,q⟩
mutual
noncomputable def toD:Th->PyData
 | .non=>.none
 | .bl b=>.bool b
 | .int i=>.int i
 | .str x=>.str x
 | .tup ts=>.tuple (fv ts)
 | .lst ts=>.list (fv ts)
noncomputable def fv:List Th->List PyData
 | []=>[]
 | t::ts=>toD t::fv ts
end
section
variable {X:Cx}{pins:List (Addr×Obj)}{σ:L2.St}{H:Hp}{s:Shared}
mutual
theorem Has.reads (I:Inv X pins σ H s):∀ {t:Th} {v:V} {u:Value},Has X.K H t v->RelV v u->∃ as,Reads s.heap u (toD t) as
 | .non,_,u,h,r=>by
  obtain rfl:_=V.non:=h
  obtain rfl:u=Value.none:=r
  exact ⟨_,.none⟩
 | .bl b,_,u,h,r=>by
  obtain rfl:_=V.bl b:=h
  obtain rfl:u=Value.bool b:=r
  exact ⟨_,.bool b⟩
 | .int i,_,u,h,r=>by
  obtain rfl:_=V.int i:=h
  obtain ⟨t,rfl⟩:∃ t,u=Value.int i t:=r
  exact ⟨_,.int i t⟩
 | .str x,_,u,h,r=>by
  obtain rfl:_=V.str x:=h
  obtain ⟨t,rfl⟩:∃ t,u=Value.str x t:=r
  exact ⟨_,.str x t⟩
 | .tup ts,_,u,⟨a,vs,e,hS,hL⟩,r=>by
  subst e
  obtain rfl:u=Value.ref a:=r
  obtain ⟨its,rv,⟨o,h1,h2,n,h3⟩,_⟩:=I.tuple hS
  obtain ⟨as,ra⟩:=HasL.reads I hL rv
  exact ⟨_,.tuple h1 h2 h3 (by simpa using ra)⟩
 | .lst ts,_,u,⟨a,vs,e,hS,hL⟩,r=>by
  subst e
  obtain rfl:u=Value.ref a:=r
  obtain ⟨its,rv,⟨o,n,h1,h2,_,h3⟩,_⟩:=I.list (SqL.of hS)
  obtain ⟨as,ra⟩:=HasL.reads I hL rv
  exact ⟨_,.list h1 h2 h3 (by simpa using ra)⟩
theorem HasL.reads (I:Inv X pins σ H s):∀ {ts:List Th} {vs:List V} {us:List Value},HasL X.K H ts vs->Vals vs us->∃ as,ReadsAll s.heap us (fv ts) as
 | [],vs,us,h,r=>by
  obtain rfl:vs=[]:=h
  cases r
  exact ⟨_,.nil⟩
 | t::ts,vs,us,⟨v,w',e,h1,h2⟩,r=>by
  subst e
  cases r with
  | cons r1 r2 =>
   obtain ⟨as,ra⟩:=Has.reads I h1 r1
   obtain ⟨bs,rb⟩:=HasL.reads I h2 r2
   exact ⟨_,.cons ra rb⟩
end
end
noncomputable abbrev iV (t:Th):Prop:=SeqAt.shaped (toD t)=true
theorem ma {X:Cx}(hu:X.A.units+64 < cLine):OpR X (compareOp .Eq) (fun x y H Q=>∃ t t',Has X.K H t x/\Has X.K H t' y/\iV t/\iV t'/\Q (.bl (PyData.eqv (toD t) (toD t'))) H):=by
 intro pins s σ H x y v u Q I rx ry h
 obtain ⟨t,t',h1,h2,o1,o2,q⟩:=h
 obtain ⟨as,ra⟩:=Has.reads I h1 rx
 obtain ⟨bs,rb⟩:=Has.reads I h2 ry
 exact a36 ra rb o1 o2 hu ⟨.bl _,H,I,rfl,q⟩
theorem u9 {X:Cx}(hu:X.A.units+64 < cLine):OpR X (compareOp .NotEq) (fun x y H Q=>∃ t t',Has X.K H t x/\Has X.K H t' y/\iV t/\iV t'/\Q (.bl (!PyData.eqv (toD t) (toD t'))) H):=by
 intro pins s σ H x y v u Q I rx ry h
 obtain ⟨t,t',h1,h2,o1,o2,q⟩:=h
 obtain ⟨as,ra⟩:=Has.reads I h1 rx
 obtain ⟨bs,rb⟩:=Has.reads I h2 ry
 exact a37 ra rb o1 o2 hu ⟨.bl _,H,I,rfl,q⟩
theorem uh {X:Cx}{c1 c2:String}(h1:c1∈["tuple","str","bool","int","list"])(h2:c2∈["tuple","str","bool","int","list"]) :
  cq X (.builtin "isinstance") (fun xs H Q=>∃ x t p,xs=[x,.ref p]/\SqT X.K H p [.ty c1,.ty c2]/\Has X.K H t x/\Q (.bl (isI c1 t || isI c2 t)) H):=by
 intro pins s σ H xs us Q I r h
 obtain ⟨x,t,p,rfl,hp,ht,q⟩:=h
 obtain ⟨u,w',rfl,ru,rw'⟩:=fm r
 cases rw'
 obtain ⟨its,rv,pt,_⟩:=I.tuple hp
 obtain ⟨y1,y2,rfl,r1,r2⟩:=fm rv
 cases r1
 cases r2
 obtain ⟨⟨oc,od,odt,osl⟩,g1,g2,n,g3⟩:=pt
 have g2':oc=.type "tuple":=g2
 have g3':odt=.seq _ n:=g3
 subst g2' g3'
 have e1:a0y X.K (.type t.ty) (.type c1)=some (isI c1 t):=kit_type.trans (gg h1 t)
 have e2:a0y X.K (.type t.ty) (.type c2)=some (isI c2 t):=kit_type.trans (gg h2 t)
 have e:a1Q X.K (.type t.ty) [.type c1,.type c2]=some (isI c1 t || isI c2 t):=by
  unfold a1Q
  rw [e1]
  cases isI c1 t with
  | true=>rfl
  | false =>
   unfold a1Q
   rw [e2]
   cases isI c2 t<;>rfl
 have fin:∀ tk,EP X pins σ Q (.bool (isI c1 t || isI c2 t)) { s with toks:=tk }:=fun tk=>⟨.bl _,H,I.tok tk,rfl,q⟩
 cases t with
 | non =>
  obtain rfl:x=.non:=ht
  cases ru
  exact a01 a2E I.kIn a0x g1 e (fun z=>nomatch z) fin
 | bl b =>
  obtain rfl:x=.bl b:=ht
  cases ru
  exact a01 a2F I.kIn a0x g1 e (fun z=>nomatch z) fin
 | int i =>
  obtain rfl:x=.int i:=ht
  obtain ⟨t,rfl⟩:=ru
  exact a01 a2N I.kIn a0x g1 e (fun z=>nomatch z) fin
 | str z =>
  obtain rfl:x=.str z:=ht
  obtain ⟨t,rfl⟩:=ru
  exact a01 a2O I.kIn a0x g1 e (fun z=>nomatch z) fin
 | tup ts =>
  obtain ⟨a,vs,rfl,hS,_⟩:=ht
  cases ru
  obtain ⟨its,_,⟨o,q1,q2,_⟩,_⟩:=I.tuple hS
  exact a01 a12 I.kIn ⟨o,q1,q2⟩ g1 e (fun z=>nomatch z) fin
 | lst ts =>
  obtain ⟨a,vs,rfl,hS,_⟩:=ht
  cases ru
  obtain ⟨its,_,⟨o,n,q1,q2,_⟩,_⟩:=I.list (SqL.of hS)
  exact a01 a1J I.kIn ⟨o,q1,q2⟩ g1 e (fun z=>nomatch z) fin
theorem Same.own {H0 H:Hp}{p:Addr}(s:Same H0 H)(h:H0 p=none)(o:HO):Same H0 (upd H p o):=fun b u q=>by rw [ag (aI q h)]; exact s b u q
section
variable {prog:Program}{w:World}{A:Around}{E:Value->Shared->Prop}{s:Shared}
theorem dW {t sl:Addr}{items:Array Value}{vl vu:Value}{lo hi:Option Int}{Q:Value->Shared->Prop}(ht:IsTup s.heap t items)(hs:s.heap.IsSliceOf sl vl vu .none)(pl:IsPart vl lo)(pu:IsPart vu hi)
  (hw:HT.sIx items.size 0 lo=0/\HT.sIx items.size items.size hi=items.size) (h:Q (.ref t) s):wpAny (model prog w) A (getItem (.ref t) (.ref sl)) Q E s:=by
 obtain ⟨os,hos,hcs,hds⟩:=id hs
 have hTs:s.TypeIs (.ref sl) "slice":=⟨os,hos,hcs⟩
 unfold getItem
 try with_reducible refine wpAny_holding ?_
 first | refine wpAny_bind (wpAny_pure ?_) | skip
 refine wpAny_bind (wpAny_sequenceKey ht.typeIs (by decide) ?_)
 refine wpAny_bind (wpAny_callSpecial?_slot (name:=Str.ofString "__getitem__") ht.typeIs a0Q
  (wpAny_call_entry a0Q ht.typeIs entry_tuple_getitem ?_ (args_tuple_getitem _ _)))
 show wpAny _ _ (Builtin.Tuple.tupleItemsOf (.ref t) >>= _) _ _ s
 refine wpAny_bind (tupleItemsOf_ ht ?_)
 refine wpAny_bind (wpAny_typeOf hTs ?_)
 rw [if_pos (by decide)]
 refine wpAny_bind (HT.sliceApplied_gen hs pl pu ?_)
 have hyes:(((HT.sIx items.size 0 lo:Nat):Int)==0&&(1:Int)==1&&(HT.sIx items.size items.size hi-HT.sIx items.size 0 lo)==items.size)=true:=by
  rw [hw.1,hw.2]
  simp
 show wpAny _ _ (if (((HT.sIx items.size 0 lo:Nat):Int)==0&&(1:Int)==1&&(HT.sIx items.size items.size hi-HT.sIx items.size 0 lo)==items.size)=true then _ else _) _ _ s
 rw [if_pos hyes]
 unfold Builtin.Tuple.tupleIsExact
 refine wpAny_bind (wpAny_bind (wpAny_typeOf ht.typeIs (wpAny_pure ?_)))
 rw [if_pos (by decide)]
 first
  | exact wpAny_bind (wpAny_rule (wpAny_pure ⟨_,rfl,wpAny_pure h⟩))
  | exact wpAny_bind (wpAny_rule (wpAny_bind (wpAny_pure (wpAny_pure ⟨_,rfl,wpAny_pure h⟩))))
end
section
variable {X:Cx}
noncomputable def tO (K:a0a):V->Option Int->Option Int->Hp->VK->Prop:=fun x lo hi H Q=>∃ a xs,x=.ref a/\SqT K H a xs/\∀ v H',Same H H'->(∃ c,v=.ref c/\SqT K H' c (dk xs lo hi))->Q v H'
theorem mi:SlR X (tO X.K):=by
 intro pins s σ H x v vl vu lo hi sl Q I rx hs pl pu h
 obtain ⟨a,xs,rfl,hx,q⟩:=h
 by_cases hw:HT.sIx xs.length 0 lo=0/\HT.sIx xs.length xs.length hi=xs.length
 ·cases rx
  obtain ⟨its,r,ht,hz⟩:=I.tuple hx
  have hlen:its.toArray.size=xs.length:=by rw [a0l]; exact r.length.symm
  refine ⟨"tuple",_,a0Q.lookup,ht.typeIs,?_⟩
  refine dW ht hs pl pu (by rw [hlen]; exact hw) ⟨.ref a,H,I,rfl,q _ _ (Same.refl H) ⟨a,rfl,?_⟩⟩
  have e:dk xs lo hi=xs:=by
   unfold dk
   rw [hw.1,hw.2]
   simp
  rw [e]
  exact hx
 ·exact Ax pins s σ H _ v vl vu lo hi sl Q I rx hs pl pu ⟨a,xs,rfl,hx,hw,fun p hp=>q _ _ (b8 hp _) ⟨p,rfl,SqT.of aj⟩⟩
end
noncomputable def DW (K:a0a):R2:=fun x y H Q=>∃ p xs i v,x=.ref p/\y=.int i/\(SqL K H p xs\/SqT K H p xs)/\atI xs i=some v/\Q v H
theorem ix_any {X:Cx}:IxR X (DW X.K):=fun value slice pins s σ H x y v u Q I rx ry h hs=>by
 obtain ⟨p,xs,i,z,e1,e2,hq,ha,q⟩:=h
 rcases hq with hq | hq
 ·exact tF value slice pins s σ H x y v u Q I rx ry ⟨p,xs,i,z,e1,e2,hq,ha,q⟩ hs
 ·exact zG value slice pins s σ H x y v u Q I rx ry ⟨p,xs,i,z,e1,e2,hq,ha,q⟩ hs
end L3

namespace L3
open PySem PySem.Spec PySem.Builtin PySem.Builtin.Str PyProof.Rows L2
end L3

namespace L3
open PySem PySem.Spec PyProof.Rows L2
noncomputable def SqO (h:Heap):Bool->Addr->Array Value->Prop
 | true,a,xs=>h.IsTuple a xs
 | false,a,xs=>h.IsList a xs
noncomputable def ItO (h:Heap):Bool->Addr->Addr->Nat->Prop
 | true,it,a,n=>h.IsTupleIter it a n
 | false,it,a,n=>h.IsListIter it a n
theorem SqO.at {h h':Heap}{k:Bool}{a:Addr}{xs:Array Value}(x:SqO h k a xs)(e:∀ o,h.get? a=some o->h'.get? a=some o):SqO h' k a xs:=by
 cases k<;>(obtain ⟨o,ho,r⟩:=x; exact ⟨o,e o ho,r⟩)
theorem ItO.at {h h':Heap}{k:Bool}{it a:Addr}{n:Nat}(x:ItO h k it a n)(e:∀ o,h.get? it=some o->h'.get? it=some o):ItO h' k it a n:=by
 cases k<;>(obtain ⟨o,ho,r⟩:=x; exact ⟨o,e o ho,r⟩)
theorem ItO.obj {h:Heap}{k:Bool}{it a:Addr}{n:Nat}(x:ItO h k it a n):∃ o,h.get? it=some o/\∀ v,o.data≠.cell v:=by
 cases k<;>(obtain ⟨o,ho,_,d⟩:=x; exact ⟨o,ho,fun v z=>by rw [d] at z; cases z⟩)
theorem SqO.lt {h:Heap}{k:Bool}{a:Addr}{xs:Array Value}(x:SqO h k a xs):a < h.objs.size:=by
 cases k<;>(obtain ⟨o,ho,_⟩:=x; exact Heap.lt_size ho)
section
variable {prog:Program}{w:World}{A:Around}{E:Value->Shared->Prop}{s:Shared}
theorem kr {it t:Addr}{i:Nat}{xs:Array Value}{x:Value}{Q:Value->Shared->Prop}(hit:s.heap.IsTupleIter it t i)(ht:s.heap.IsTuple t xs)(hx:xs[i]?=some x)
  (q:∀ h',h'.IsTupleIter it t (i+1)->Heap.SameBut it s.heap h'->Q x { s with heap:=h' }):wpAny (model prog w) A (Builtin.SmallTypes.nextOf (.ref it)) Q E s:=by
 obtain ⟨u,hu,cu,du⟩:=id hit; obtain ⟨v,hv,_,nv,dv⟩:=ht
 unfold Builtin.SmallTypes.nextOf
 refine wpAny_bind (wpAny_callSpecial?_slot (name:=Str.ofString "__next__") hit.typeIs F.slot_tuple_iterator_next (wpAny_call_entry F.slot_tuple_iterator_next hit.typeIs F.entry_tuple_iterator_next ?_ (F.args_tuple_iterator_next_1 _)))
 show wpAny _ _ (field (.ref it) 0 >>= _) _ _ _; refine wpAny_bind (wpAny_field hu du (x:=.ref t) rfl ?_)
 show wpAny _ _ (if (Value.ref t==Value.none)=true then _ else _) _ _ _; rw [if_neg (by intro z; cases z)]
 show wpAny _ _ (field (.ref it) 1 >>= _) _ _ _; refine wpAny_bind (wpAny_field hu du (x:=.int i 0) rfl ?_)
 show wpAny _ _ (seqItems? (.ref t) >>= _) _ _ _; refine wpAny_bind (wpAny_seqItems hv dv ?_)
 simp only [hx,a1K]
 exact wpAny_bind (wpAny_setField hu du (by simp) (wpAny_pure ⟨x,rfl,wpAny_pure (q _ ⟨_,Heap.get?_update_self _ hu (Obj.isFreed_of_fields (Obj.data_mapFields du _)),(Obj.cls_mapFields ..).trans cu,by rw [Obj.data_mapFields du]; simp [rawInt]⟩ (Heap.SameBut.update ..))⟩))
theorem mJ {it t:Addr}{i:Nat}{xs:Array Value}{Q:Value->Shared->Prop}(hh:A.handled=none)(hit:s.heap.IsTupleIter it t i)(ht:s.heap.IsTuple t xs)(hx:xs[i]?=none)
  (q:∀ h' e,Heap.ExtBut it s.heap h'->(∃ o,h'.get? e=some o/\o.cls=.type "StopIteration")->E (.ref e) { s with heap:=h' }):wpAny (model prog w) A (Builtin.SmallTypes.nextOf (.ref it)) Q E s:=by
 obtain ⟨u,hu,cu,du⟩:=id hit; obtain ⟨v,hv,_,nv,dv⟩:=ht
 unfold Builtin.SmallTypes.nextOf
 refine wpAny_bind (wpAny_callSpecial?_slot (name:=Str.ofString "__next__") hit.typeIs F.slot_tuple_iterator_next (wpAny_call_entry F.slot_tuple_iterator_next hit.typeIs F.entry_tuple_iterator_next ?_ (F.args_tuple_iterator_next_1 _)))
 show wpAny _ _ (field (.ref it) 0 >>= _) _ _ _; refine wpAny_bind (wpAny_field hu du (x:=.ref t) rfl ?_)
 show wpAny _ _ (if (Value.ref t==Value.none)=true then _ else _) _ _ _; rw [if_neg (by intro z; cases z)]
 show wpAny _ _ (field (.ref it) 1 >>= _) _ _ _; refine wpAny_bind (wpAny_field hu du (x:=.int i 0) rfl ?_)
 show wpAny _ _ (seqItems? (.ref t) >>= _) _ _ _; refine wpAny_bind (wpAny_seqItems hv dv ?_)
 simp only [hx,a1K]
 refine wpAny_bind (wpAny_rule (wpAny_bind (wpAny_setField hu du (by simp) ?_))); show wpAny _ _ (newExc (.type "StopIteration") [] >>= _) _ _ _
 refine wpAny_bind ?_; simp only [newTuple,newExc]
 refine wpAny_bind (wpAny_newObj_type ?_ (by size_fits)); refine wpAny_bind (m:=firstArgMember _ _) (wpAny_of_eq (a:=Value.none) (by first | rfl | (simp only [firstArgMember]; rfl)) (wpAny_newObj_type ?_ (by size_fits)))
 simp only [raiseNew]
 refine wpAny_bind (wpAny_handled ?_); first | rw [hh] | rw [show A.in1.handled=none from hh]
 exact wpAny_bind (wpAny_pure (wpAny_throw (q _ _ (((Heap.SameBut.update ..).extBut.push _).push _) ⟨_,Heap.get?_push_size _ rfl,rfl⟩)))
theorem bF {k:Bool}{it t:Addr}{i:Nat}{xs:Array Value}{x:Value}{Q:Value->Shared->Prop}(hit:ItO s.heap k it t i)(ht:SqO s.heap k t xs)(hx:xs[i]?=some x)
  (q:∀ h',ItO h' k it t (i+1)->Heap.SameBut it s.heap h'->Q x { s with heap:=h' }):wpAny (model prog w) A (Builtin.SmallTypes.nextOf (.ref it)) Q E s:=by
 cases k with
 | false=>exact wpAny_nextOf_list_item (show s.heap.IsListIter it t i from hit) (show s.heap.IsList t xs from ht) hx q
 | true=>exact kr hit ht hx q
theorem dw {k:Bool}{it t:Addr}{i:Nat}{xs:Array Value}{Q:Value->Shared->Prop}(hh:A.handled=none)(hit:ItO s.heap k it t i)(ht:SqO s.heap k t xs)(hx:xs[i]?=none)
  (q:∀ h' e,Heap.ExtBut it s.heap h'->(∃ o,h'.get? e=some o/\o.cls=.type "StopIteration")->E (.ref e) { s with heap:=h' }):wpAny (model prog w) A (Builtin.SmallTypes.nextOf (.ref it)) Q E s:=by
 cases k with
 | false=>exact wpAny_nextOf_list_end hh (show s.heap.IsListIter it t i from hit) (show s.heap.IsList t xs from ht) hx q
 | true=>exact mJ hh hit ht hx q
theorem oh {z TI TO i1 i2 a1 a2:Addr}{k1 k2:Bool}{n m:Nat}{xs ys:Array Value}{x y a b:Value}{Q:Value->Shared->Prop}(D:ZipApart z TI TO i1 i2 a1 a2)
  (hz:IsZip s.heap z TI TO .none) (hI:IsPair s.heap TI (.ref i1) (.ref i2)) (hO:IsPair s.heap TO a b) (h1:ItO s.heap k1 i1 a1 n) (h2:ItO s.heap k2 i2 a2 m) (q1:SqO s.heap k1 a1 xs) (q2:SqO s.heap k2 a2 ys) (hx:xs[n]?=some x) (hy:ys[m]?=some y)
  (q:∀ h',IsZip h' z TI TO (rawInt s.heap.objs.size)->IsPair h' TO x y->ItO h' k1 i1 a1 (n+1)->ItO h' k2 i2 a2 (m+1)->IsPair h' s.heap.objs.size x y->h'.objs.size=s.heap.objs.size+1 ->
   (∀ c o,c≠z->c≠TO->c≠i1->c≠i2->s.heap.get? c=some o->h'.get? c=some o)->Q (.ref s.heap.objs.size) { s with heap:=h' }) :
  wpAny (model prog w) A (Builtin.«zip.__next__» ⟨[.ref z],[]⟩) (fun fin s'=>∃ v,fin=.done (.ret v)/\Q v s') E s:=by
 show wpAny _ _ (field (.ref z) 2 >>= _) _ _ _; refine wpAny_bind (wpAny_field hz rfl (x:=.bool false) rfl ?_)
 show wpAny _ _ (field (.ref z) 3 >>= _) _ _ _; refine wpAny_bind (wpAny_field hz rfl (x:=.ref TI) rfl (wpAny_bind (wpAny_seqItems hI rfl ?_)))
 show wpAny _ _ (Builtin.SmallTypes.ownedTupleIsFree (.ref z) >>= _) _ _ _; refine wpAny_bind ?_
 unfold Builtin.SmallTypes.ownedTupleIsFree
 refine wpAny_bind (wpAny_field hz rfl (x:=.none) rfl (wpAny_pure ?_)); simp only [if_true]
 refine wpAny_bind (wpAny_rule (wpAny_bind (wpAny_field hz rfl (x:=.ref TO) rfl (wpAny_bind (wpAny_setField_rec hz (by simp) fun g1 z1 s1=>?_)))))
 replace z1:IsZip g1 z TI TO .ellipsis:=z1
 refine wpAny_bind ?_; simp only [a2j,a2z,a3D,a3G]
 refine wpAny_bind (wpAny_bind (wpAny_onRaise ?_)); show wpAny _ _ (Builtin.SmallTypes.nextOf (.ref i1) >>= _) _ _ _
 refine wpAny_bind (bF (h1.at fun o e=>s1.extBut _ _ D.i1z e) (q1.at fun o e=>s1.extBut _ _ D.l1z e) hx fun g2 r2 s2=>wpAny_pure ?_)
 have p2:IsPair g2 TO a b:=s2.extBut _ _ D.TOi1 (s1.extBut _ _ D.TOz hO)
 refine wpAny_bind (wpAny_seqItems p2 rfl (wpAny_bind (wpAny_updateSeq_pair p2 fun g3 p3 s3=>wpAny_bind (wpAny_letGo (wpAny_pure ?_)))))
 replace p3:IsPair g3 TO x b:=p3
 refine wpAny_bind (wpAny_bind (wpAny_onRaise ?_)); show wpAny _ _ (Builtin.SmallTypes.nextOf (.ref i2) >>= _) _ _ _
 refine wpAny_bind (bF (h2.at fun o e=>s3.extBut _ _ D.TOi2.symm (s2.extBut _ _ D.i12.symm (s1.extBut _ _ D.i2z e))) (q2.at fun o e=>s3.extBut _ _ D.l2TO (s2.extBut _ _ D.l2i1 (s1.extBut _ _ D.l2z e))) hy fun g4 r4 s4=>wpAny_pure ?_)
 have p4:IsPair g4 TO x b:=s4.extBut _ _ D.TOi2 p3
 refine wpAny_bind (wpAny_seqItems p4 rfl (wpAny_bind (wpAny_updateSeq_pair p4 fun g5 p5 s5=>wpAny_bind (wpAny_letGo (wpAny_pure (wpAny_pure ?_))))))
 replace p5:IsPair g5 TO x y:=p5
 refine wpAny_bind (wpAny_seqItems p5 rfl (wpAny_bind (wpAny_newTuple ?_)))
 have sz:g5.objs.size=s.heap.objs.size:=by rw [s5.1,s4.1,s3.1,s2.1,s1.1]
 have z5:IsZip g5 z TI TO .ellipsis:=s5.extBut _ _ D.TOz.symm (s4.extBut _ _ D.i2z.symm (s3.extBut _ _ D.TOz.symm (s2.extBut _ _ D.i1z.symm z1)))
 have k5:∀ c o,c≠z->c≠TO->c≠i1->c≠i2->s.heap.get? c=some o->g5.get? c=some o:=fun c o n1 n2 n3 n4 e=>s5.extBut _ _ n2 (s4.extBut _ _ n4 (s3.extBut _ _ n2 (s2.extBut _ _ n3 (s1.extBut _ _ n1 e))))
 have r5:ItO g5 k1 i1 a1 (n+1):=r2.at fun o e=>s5.extBut _ _ D.TOi1.symm (s4.extBut _ _ D.i12 (s3.extBut _ _ D.TOi1.symm e))
 have t5:ItO g5 k2 i2 a2 (m+1):=r4.at fun o e=>s5.extBut _ _ D.TOi2.symm e
 have zlt:z < g5.objs.size:=Heap.lt_size z5
 show wpAny _ _ (Builtin.SmallTypes.ownedTupleHandOut (.ref z) (.ref g5.objs.size) >>= _) _ _ _; refine wpAny_bind ?_
 unfold Builtin.SmallTypes.ownedTupleHandOut
 have z6:IsZip (g5.push { cls:=.type "tuple",data:=.seq #[x,y] }) z TI TO .ellipsis:=Heap.get?_push_of_some _ z5
 refine wpAny_bind (wpAny_setField_rec z6 (by simp) fun g7 z7 s7=>?_)
 replace z7:IsZip g7 z TI TO (rawInt g5.objs.size):=z7
 refine wpAny_setField_rec z7 (by simp) fun g8 z8 s8=>?_
 replace z8:IsZip g8 z TI TO (rawInt g5.objs.size):=z8
 have up:∀ c o,c≠z->g5.get? c=some o->g8.get? c=some o:=fun c o n1 e=>s8.extBut _ _ n1 (s7.extBut _ _ n1 (Heap.get?_push_of_some _ e))
 have p8:IsPair g8 g5.objs.size x y:=s8.extBut _ _ (a04 zlt) (s7.extBut _ _ (a04 zlt) (Heap.get?_push_size _ rfl))
 have e8:g8.objs.size=g5.objs.size+1:=by rw [s8.1,s7.1,Heap.size_push]
 rw [sz] at z8 p8 e8
 refine wpAny_pure ⟨_,rfl,?_⟩
 show Q (.ref g5.objs.size) _
 rw [sz]
 exact q g8 z8 (up _ _ D.TOz p5) (r5.at fun o e=>up _ o D.i1z e) (t5.at fun o e=>up _ o D.i2z e) p8 e8 fun c o n1 n2 n3 n4 e=>up c o n1 (k5 c o n1 n2 n3 n4 e)
theorem p9 {z TI TO i1 i2 a1 a2:Addr}{k1 k2:Bool}{n m:Nat}{xs ys:Array Value}{a b:Value}{Q:Fin->Shared->Prop}(hh:A.handled=none)(D:ZipApart z TI TO i1 i2 a1 a2)
  (hz:IsZip s.heap z TI TO .none) (hI:IsPair s.heap TI (.ref i1) (.ref i2)) (hO:IsPair s.heap TO a b) (h1:ItO s.heap k1 i1 a1 n) (h2:ItO s.heap k2 i2 a2 m) (q1:SqO s.heap k1 a1 xs) (q2:SqO s.heap k2 a2 ys) (hend:xs[n]?=none\/ys[m]?=none)
  (q:∀ h' e,(∀ c o,c≠z->c≠TO->c≠i1->c≠i2->s.heap.get? c=some o->h'.get? c=some o)->(∃ o,h'.get? e=some o/\o.cls=.type "StopIteration")->E (.ref e) { s with heap:=h' }) :
  wpAny (model prog w) A (Builtin.«zip.__next__» ⟨[.ref z],[]⟩) Q E s:=by
 show wpAny _ _ (field (.ref z) 2 >>= _) _ _ _; refine wpAny_bind (wpAny_field hz rfl (x:=.bool false) rfl ?_)
 show wpAny _ _ (field (.ref z) 3 >>= _) _ _ _; refine wpAny_bind (wpAny_field hz rfl (x:=.ref TI) rfl (wpAny_bind (wpAny_seqItems hI rfl ?_)))
 show wpAny _ _ (Builtin.SmallTypes.ownedTupleIsFree (.ref z) >>= _) _ _ _; refine wpAny_bind ?_
 unfold Builtin.SmallTypes.ownedTupleIsFree
 refine wpAny_bind (wpAny_field hz rfl (x:=.none) rfl (wpAny_pure ?_)); simp only [if_true]
 refine wpAny_bind (wpAny_rule (wpAny_bind (wpAny_field hz rfl (x:=.ref TO) rfl (wpAny_bind (wpAny_setField_rec hz (by simp) fun g1 z1 s1=>?_)))))
 replace z1:IsZip g1 z TI TO .ellipsis:=z1
 refine wpAny_bind ?_; simp only [a2j,a2z,a3D,a3G]
 refine wpAny_bind (wpAny_bind (wpAny_onRaise ?_)); show wpAny _ _ (Builtin.SmallTypes.nextOf (.ref i1) >>= _) _ _ _
 cases hx:xs[n]? with
 | none =>
  refine wpAny_bind (dw hh (h1.at fun o e=>s1.extBut _ _ D.i1z e) (q1.at fun o e=>s1.extBut _ _ D.l1z e) hx fun g2 e s2 he=>?_)
  obtain ⟨oe,ho,ce⟩:=he
  have z2:IsZip g2 z TI TO .ellipsis:=s2 _ _ D.i1z.symm z1
  have ez:e≠z:=fun y=>by subst y; rw [z2] at ho; cases ho; simp at ce
  exact wpAny_setField_rec z2 (by simp) fun g3 _ s3=>q g3 e (fun c o n1 _ n3 _ y=>s3.extBut _ _ n1 (s2 _ _ n3 (s1.extBut _ _ n1 y))) ⟨oe,s3.extBut _ _ ez ho,ce⟩
 | some x =>
  have hy:ys[m]?=none:=hend.elim (fun y=>by rw [hx] at y; cases y) id
  refine wpAny_bind (bF (h1.at fun o e=>s1.extBut _ _ D.i1z e) (q1.at fun o e=>s1.extBut _ _ D.l1z e) hx fun g2 r2 s2=>wpAny_pure ?_)
  have p2:IsPair g2 TO a b:=s2.extBut _ _ D.TOi1 (s1.extBut _ _ D.TOz hO)
  refine wpAny_bind (wpAny_seqItems p2 rfl (wpAny_bind (wpAny_updateSeq_pair p2 fun g3 p3 s3=>wpAny_bind (wpAny_letGo (wpAny_pure ?_)))))
  refine wpAny_bind (wpAny_bind (wpAny_onRaise ?_)); show wpAny _ _ (Builtin.SmallTypes.nextOf (.ref i2) >>= _) _ _ _
  refine wpAny_bind (dw hh (h2.at fun o e=>s3.extBut _ _ D.TOi2.symm (s2.extBut _ _ D.i12.symm (s1.extBut _ _ D.i2z e))) (q2.at fun o e=>s3.extBut _ _ D.l2TO (s2.extBut _ _ D.l2i1 (s1.extBut _ _ D.l2z e))) hy fun g4 e s4 he=>?_)
  obtain ⟨oe,ho,ce⟩:=he
  have z4:IsZip g4 z TI TO .ellipsis:=s4 _ _ D.i2z.symm (s3.extBut _ _ D.TOz.symm (s2.extBut _ _ D.i1z.symm z1))
  have ez:e≠z:=fun y=>by subst y; rw [z4] at ho; cases ho; simp at ce
  exact wpAny_setField_rec z4 (by simp) fun g5 _ s5=>q g5 e (fun c o n1 n2 n3 n4 y=>s5.extBut _ _ n1 (s4 _ _ n4 (s3.extBut _ _ n2 (s2.extBut _ _ n3 (s1.extBut _ _ n1 y))))) ⟨oe,s5.extBut _ _ ez ho,ce⟩
theorem fK {z TI TO i1 i2 a1 a2:Addr}{k1 k2:Bool}{n m:Nat}{xs ys:Array Value}{x y a b:Value}{Q:Option Value->Shared->Prop}(D:ZipApart z TI TO i1 i2 a1 a2)
  (hz:IsZip s.heap z TI TO .none) (hI:IsPair s.heap TI (.ref i1) (.ref i2)) (hO:IsPair s.heap TO a b) (h1:ItO s.heap k1 i1 a1 n) (h2:ItO s.heap k2 i2 a2 m) (q1:SqO s.heap k1 a1 xs) (q2:SqO s.heap k2 a2 ys) (hx:xs[n]?=some x) (hy:ys[m]?=some y)
  (q:∀ h',IsZip h' z TI TO (rawInt s.heap.objs.size)->IsPair h' TO x y->ItO h' k1 i1 a1 (n+1)->ItO h' k2 i2 a2 (m+1)->IsPair h' s.heap.objs.size x y->h'.objs.size=s.heap.objs.size+1 ->
   (∀ c o,c≠z->c≠TO->c≠i1->c≠i2->s.heap.get? c=some o->h'.get? c=some o)->Q (some (.ref s.heap.objs.size)) { s with heap:=h' }):wpAny (model prog w) A (pyNext (.ref z)) Q E s:=by
 have hT:s.TypeIs (.ref z) "zip":=⟨_,hz,rfl⟩
 unfold pyNext
 exact wpAny_bind (wpAny_attempt (wpAny_callSpecial?_slot (name:=Str.ofString "__next__") hT F.slot_zip_next (wpAny_call_entry F.slot_zip_next hT F.entry_zip_next (oh D hz hI hO h1 h2 q1 q2 hx hy fun h' y1 y2 y3 y4 y5 y6 y7=>wpAny_pure (q h' y1 y2 y3 y4 y5 y6 y7)) (F.args_zip_next_1 _))))
theorem ig {z TI TO i1 i2 a1 a2:Addr}{k1 k2:Bool}{n m:Nat}{xs ys:Array Value}{a b:Value}{Q:Option Value->Shared->Prop}(hh:A.handled=none)(D:ZipApart z TI TO i1 i2 a1 a2)
  (hz:IsZip s.heap z TI TO .none) (hI:IsPair s.heap TI (.ref i1) (.ref i2)) (hO:IsPair s.heap TO a b) (h1:ItO s.heap k1 i1 a1 n) (h2:ItO s.heap k2 i2 a2 m) (q1:SqO s.heap k1 a1 xs) (q2:SqO s.heap k2 a2 ys) (hend:xs[n]?=none\/ys[m]?=none)
  (q:∀ h',(∀ c o,c≠z->c≠TO->c≠i1->c≠i2->s.heap.get? c=some o->h'.get? c=some o)->Q none { s with heap:=h' }):wpAny (model prog w) A (pyNext (.ref z)) Q E s:=by
 have hT:s.TypeIs (.ref z) "zip":=⟨_,hz,rfl⟩
 unfold pyNext
 refine wpAny_bind (wpAny_attempt (wpAny_callSpecial?_slot (name:=Str.ofString "__next__") hT F.slot_zip_next (wpAny_call_entry F.slot_zip_next hT F.entry_zip_next (p9 hh D hz hI hO h1 h2 q1 q2 hend fun h' e hk he=>?_) (F.args_zip_next_1 _))))
 obtain ⟨o,ho,hc⟩:=he
 exact wpAny_bind (wpAny_isInstance (T:="StopIteration") (b:=true) ⟨o,ho,hc⟩ isSubtype_stop (wpAny_pure (q _ hk)))
end
noncomputable def nL (k:Bool)(a:Addr):Obj:=match k with
 | true=>{ cls:=.type "tuple_iterator",data:=.fields #[.ref a,.int 0 0] }
 | false=>{ cls:=.type "list_iterator",data:=.fields #[.ref a,.int 0 0] }
noncomputable abbrev zO1 (h:Heap)(k1:Bool)(a1:Addr):Heap:=h.push (nL k1 a1)
noncomputable abbrev zO2 (h:Heap)(k1 k2:Bool)(a1 a2:Addr):Heap:=(zO1 h k1 a1).push (nL k2 a2)
noncomputable abbrev zO3 (h:Heap)(k1 k2:Bool)(a1 a2:Addr):Heap:=(zO2 h k1 k2 a1 a2).push { cls:=.type "tuple",data:=.seq #[.ref h.objs.size,.ref (zO1 h k1 a1).objs.size] }
noncomputable abbrev zO4 (h:Heap)(k1 k2:Bool)(a1 a2:Addr):Heap:=(zO3 h k1 k2 a1 a2).push { cls:=.type "tuple",data:=.seq #[.none,.none] }
noncomputable abbrev zO5 (h:Heap)(k1 k2:Bool)(a1 a2:Addr):Heap:=(zO4 h k1 k2 a1 a2).push { cls:=.type "zip",data:=.fields #[.none,.bool false,.bool false,.ref (zO2 h k1 k2 a1 a2).objs.size,.ref (zO3 h k1 k2 a1 a2).objs.size] }
theorem kz (k1 k2:Bool)(a1 a2:Addr)(xs ys:Array Value) :
  Meets (Builtin.«zip.__new__» ⟨[.type "zip",.ref a1,.ref a2],[]⟩) (fun _ R s=>SqO s.heap k1 a1 xs/\SqO s.heap k2 a2 ys/\R (.ok (.ret (.ref (zO4 s.heap k1 k2 a1 a2).objs.size))) { s with heap:=zO5 s.heap k1 k2 a1 a2 }) :=
 .of_wp fun prog w A R s h=>by
  obtain ⟨hp,g,d,tk,os⟩:=s; obtain ⟨q1,q2,h⟩:=h
  have hsub:=sub_zip
  cases k1<;>cases k2
  ·have e1:Heap.IsList (Shared.heap ⟨hp,g,d,tk,os⟩) a1 xs:=q1
   have e2:Heap.IsList (Shared.heap ⟨hp.push { cls:=.type "list_iterator",data:=.fields #[.ref a1,.int 0 0] },g,d,tk,os⟩) a2 ys:=Heap.IsList.push q2 _
   wp_walk using wpAny_pyIter_list e1,wpAny_pyIter_list e2
   exact ⟨_,rfl,h⟩
  ·have e1:Heap.IsList (Shared.heap ⟨hp,g,d,tk,os⟩) a1 xs:=q1
   have e2:Heap.IsTuple (Shared.heap ⟨hp.push { cls:=.type "list_iterator",data:=.fields #[.ref a1,.int 0 0] },g,d,tk,os⟩) a2 ys:=Heap.IsTuple.push q2 _
   wp_walk using wpAny_pyIter_list e1,wpAny_pyIter_tuple e2
   exact ⟨_,rfl,h⟩
  ·have e1:Heap.IsTuple (Shared.heap ⟨hp,g,d,tk,os⟩) a1 xs:=q1
   have e2:Heap.IsList (Shared.heap ⟨hp.push { cls:=.type "tuple_iterator",data:=.fields #[.ref a1,.int 0 0] },g,d,tk,os⟩) a2 ys:=Heap.IsList.push q2 _
   wp_walk using wpAny_pyIter_tuple e1,wpAny_pyIter_list e2
   exact ⟨_,rfl,h⟩
  ·have e1:Heap.IsTuple (Shared.heap ⟨hp,g,d,tk,os⟩) a1 xs:=q1
   have e2:Heap.IsTuple (Shared.heap ⟨hp.push { cls:=.type "tuple_iterator",data:=.fields #[.ref a1,.int 0 0] },g,d,tk,os⟩) a2 ys:=Heap.IsTuple.push q2 _
   wp_walk using wpAny_pyIter_tuple e1,wpAny_pyIter_tuple e2
   exact ⟨_,rfl,h⟩
theorem lT {h:Heap}{k:Bool}{it a:Addr}(e:h.get? it=some (nL k a)):ItO h k it a 0:=by
 cases k<;>exact ⟨_,e,rfl,rfl⟩
theorem gR (k:Bool)(a:Addr):(nL k a).isFreed=false:=by cases k<;>rfl
section
variable {prog:Program}{w:World}{A:Around}{E:Value->Shared->Prop}{s:Shared}
theorem mG {k1 k2:Bool}{a1 a2:Addr}{xs ys:Array Value}{Q:Value->Shared->Prop}(q1:SqO s.heap k1 a1 xs)(q2:SqO s.heap k2 a2 ys)
  (h:∀ h',IsZip h' (s.heap.objs.size+4) (s.heap.objs.size+2) (s.heap.objs.size+3) .none->IsPair h' (s.heap.objs.size+2) (.ref s.heap.objs.size) (.ref (s.heap.objs.size+1)) ->
   IsPair h' (s.heap.objs.size+3) .none .none->ItO h' k1 s.heap.objs.size a1 0->ItO h' k2 (s.heap.objs.size+1) a2 0->(∀ c o,s.heap.get? c=some o->h'.get? c=some o)->Q (.ref (s.heap.objs.size+4)) { s with heap:=h' }) :
  wpAny (model prog w) A (call (.type "zip") [.ref a1,.ref a2]) Q E s:=by
 refine callType_new F.called_zip (by decide) (F.typeCall_zip_2 _ _) (F.newCall_zip_2 _ _) (fun obj=>F.args_object_init_3 obj _ _) F.entry_zip_new (kz k1 k2 a1 a2 xs ys) ⟨q1,q2,?_⟩
 have e1:(zO1 s.heap k1 a1).objs.size=s.heap.objs.size+1:=Heap.size_push ..
 have e2:(zO2 s.heap k1 k2 a1 a2).objs.size=s.heap.objs.size+2:=by rw [Heap.size_push,e1]
 have e3:(zO3 s.heap k1 k2 a1 a2).objs.size=s.heap.objs.size+3:=by rw [Heap.size_push,e2]
 have e4:(zO4 s.heap k1 k2 a1 a2).objs.size=s.heap.objs.size+4:=by rw [Heap.size_push,e3]
 have g5:(zO5 s.heap k1 k2 a1 a2).get? (zO4 s.heap k1 k2 a1 a2).objs.size=some _:=Heap.get?_push_size _ rfl
 have g4:(zO5 s.heap k1 k2 a1 a2).get? (zO3 s.heap k1 k2 a1 a2).objs.size=some _:=Heap.get?_push_of_some _ (Heap.get?_push_size _ rfl)
 have g3:(zO5 s.heap k1 k2 a1 a2).get? (zO2 s.heap k1 k2 a1 a2).objs.size=some _:=Heap.get?_push_of_some _ (Heap.get?_push_of_some _ (Heap.get?_push_size _ rfl))
 have g2:(zO5 s.heap k1 k2 a1 a2).get? (zO1 s.heap k1 a1).objs.size=some (nL k2 a2):=Heap.get?_push_of_some _ (Heap.get?_push_of_some _ (Heap.get?_push_of_some _ (Heap.get?_push_size _ (gR k2 a2))))
 have g1:(zO5 s.heap k1 k2 a1 a2).get? s.heap.objs.size=some (nL k1 a1):=Heap.get?_push_of_some _ (Heap.get?_push_of_some _ (Heap.get?_push_of_some _ (Heap.get?_push_of_some _ (Heap.get?_push_size _ (gR k1 a1)))))
 show _/\_
 rw [e2,e3,e4] at g5
 rw [e1,e2] at g3
 rw [e3] at g4
 rw [e1] at g2
 rw [e4]
 exact ⟨⟨_,g5,rfl⟩,h _ g5 g3 g4 (lT g1) (lT g2) fun c o x=>Heap.get?_push_of_some _ (Heap.get?_push_of_some _ (Heap.get?_push_of_some _ (Heap.get?_push_of_some _ (Heap.get?_push_of_some _ x))))⟩
end
end L3
namespace L3
open PySem PySem.Spec PyProof.Rows L2
noncomputable def Sq (K:a0a)(H:Hp):Bool->Addr->List V->Prop
 | true,a,xs=>SqT K H a xs
 | false,a,xs=>SqL K H a xs
section
variable {X:Cx}{pins:List (Addr×Obj)}{σ:L2.St}{H:Hp}{s:Shared}
theorem kj (I:Inv X pins σ H s){k:Bool}{a:Addr}{xs:List V}(h:Sq X.K H k a xs):∃ its:List Value,Vals xs its/\SqO s.heap k a its.toArray/\xs.length<=sizeLine:=by
 cases k with
 | true=>obtain ⟨its,r,p,z⟩:=I.tuple h; exact ⟨its,r,p,z⟩
 | false=>obtain ⟨its,r,p,z⟩:=I.list h; exact ⟨its,r,p.isList,z⟩
theorem mx (I:Inv X pins σ H s){k:Bool}{a:Addr}{xs ys:List V}(h:Sq X.K H k a xs)(h':Sq X.K H k a ys):xs=ys:=by
 cases k with
 | true=>exact I.tuple_inj h h'
 | false=>exact I.list_inj h h'
theorem gk {h':Heap}{ch:List Addr}(I:Inv X pins σ H s)(hf:∀ b∈ch,H b=none)(k:∀ b o,b ∉ ch->s.heap.get? b=some o->h'.get? b=some o):HOk X.prog X.w H h':=fun b u e=>by
 have nit:∀ b u,H b=some u->b ∉ ch:=fun b u e z=>by rw [hf b z] at e; cases e
 refine (I.hok b u e).stay (fun c v hc q=>k c v ?_ q) (fun _ q=>q) fun _ _ q=>q
 rcases hc with z | z
 ·rw [z]; exact nit b u e
 ·exact nit c _ z
theorem kF {h':Heap}{t':Nat}{ch:List Addr}(I:Inv X pins σ H s)(hf:∀ b∈ch,gB X pins H b)(k:∀ b o,b ∉ ch->s.heap.get? b=some o->h'.get? b=some o):Inv X pins σ H { s with heap:=h',toks:=t' }:=by
 refine I.step (g':=s.gens) (d':=s.drawn) (ch:=ch) (fun b hb=>⟨(hf b hb).2.2.2.1,(hf b hb).2.1,(hf b hb).2.2.2.2.1,(hf b hb).2.2.2.2.2⟩) (fun b o _ _ hc e _=>k b o hc e) (fun b o _ _ hc e _=>⟨o.slots,k b o hc e⟩) (fun _ _ _ _ n=>n)
  (fun b o hc e=>⟨o,k b o hc e⟩) (fun _ _ e=>e) (fun _ _ _ e=>e) (fun b ps e=>⟨#[],by rw [e]; simp⟩) (fun m hm=>?_) (gk I (fun b hb=>(hf b hb).1) k) I.bare
 obtain ⟨o,es,ep,ho,r⟩:=hm
 exact ⟨o,es,ep,k _ o (fun z=>(hf _ z).2.1 rfl) ho,r⟩
theorem fY {h':Heap}{t':Nat}{ch:List Addr}{a:Addr}{ys:List V}{its:List Value}(I:Inv X pins σ H s)(hf:∀ b∈ch,gB X pins H b)(k:∀ b o,b ∉ ch->s.heap.get? b=some o->h'.get? b=some o)
  (ha:s.heap.objs.size<=a) (hz:ys.length<=sizeLine) (hv:Vals ys its) (ht:IsTup h' a its.toArray):Inv X pins σ (upd H a (.tup ys)) { s with heap:=h',toks:=t' }:=by
 have fr:H a=none:=I.hok.fresh ha
 have na:∀ b o,s.heap.get? b=some o->b≠a:=fun b o e=>a0u (a0f (Heap.lt_size e) ha)
 refine I.step (g':=s.gens) (d':=s.drawn) (ch:=ch) (fun b hb=>⟨(hf b hb).2.2.2.1,(hf b hb).2.1,(hf b hb).2.2.2.2.1,(hf b hb).2.2.2.2.2⟩) (fun b o _ _ hc e _=>k b o hc e) (fun b o _ _ hc e _=>⟨o.slots,k b o hc e⟩) (fun b o _ e n=>by rw [ag (na b o e)]; exact n)
  (fun b o hc e=>⟨o,k b o hc e⟩) (fun b u e=>by rw [ag (aI e fr)]; exact e) (fun b o u e=>by rw [ag (aI e fr)]; exact e) (fun b ps e=>⟨#[],by rw [ag (aI e fr),e]; simp⟩) (fun m hm=>?_)
  (ie (gk I (fun b hb=>(hf b hb).1) k) fr ⟨hz,its,hv,ht⟩) I.bare
 obtain ⟨o,es,ep,ho,r⟩:=hm
 exact ⟨o,es,ep,k _ o (fun z=>(hf _ z).2.1 rfl) ho,r⟩
end
noncomputable def Itz (K:a0a)(k1 k2:Bool)(a1 a2:Addr):It :=
 ⟨fun i H=>∃ xs ys x y,Sq K H k1 a1 xs/\Sq K H k2 a2 ys/\xs[i]?=some x/\ys[i]?=some y,
  fun i H v H'=>∃ p x y,v=.ref p/\H p=none/\H'=upd H p (.tup [x,y])/\(∀ xs,Sq K H k1 a1 xs->xs[i]?=some x)/\∀ ys,Sq K H k2 a2 ys->ys[i]?=some y,
  fun i H=>∃ xs ys,Sq K H k1 a1 xs/\Sq K H k2 a2 ys/\(xs.length<=i\/ys.length<=i)⟩
noncomputable def ZSt (z TI TO i1 i2:Addr)(k1 k2:Bool)(a1 a2:Addr)(i:Nat)(h:Heap):Prop :=
 IsZip h z TI TO .none/\IsPair h TI (.ref i1) (.ref i2)/\(∃ a b,IsPair h TO a b)/\ItO h k1 i1 a1 i/\ItO h k2 i2 a2 i
theorem qi {P:Program}{w:World}{K:a0a}{es:List Expr}{kt:Nat}{pt:Pos}{z TI TO i1 i2 a1 a2:Addr}{k1 k2:Bool}(D:ZipApart z TI TO i1 i2 a1 a2) :
  qW P w K (.Tuple es kt pt) (Itz K k1 k2 a1 a2) [z,TI,TO,i1,i2] z (ZSt z TI TO i1 i2 k1 k2 a1 a2) where
 mem:=by simp
 obj:=fun i h st b hb=>by
  obtain ⟨q1,q2,⟨a,c,q3⟩,q4,q5⟩:=st
  simp only [a0n,a0E,or_false] at hb
  rcases hb with rfl | rfl | rfl | rfl | rfl
  ·exact ⟨_,q1,fun v y=>by cases y⟩
  ·exact ⟨_,q2,fun v y=>by cases y⟩
  ·exact ⟨_,q3,fun v y=>by cases y⟩
  ·exact q4.obj
  ·exact q5.obj
 keep:=fun i h h' st k=>by
  obtain ⟨q1,q2,⟨a,c,q3⟩,q4,q5⟩:=st
  exact ⟨k z (by simp) _ q1,k TI (by simp) _ q2,⟨a,c,k TO (by simp) _ q3⟩,q4.at fun o e=>k i1 (by simp) o e,q5.at fun o e=>k i2 (by simp) o e⟩
 item:=by
  intro X hP hw hK hc i pins s σ H E I hf st hg
  subst hP hw hK
  obtain ⟨xs,ys,x,y,s1,s2,hx,hy⟩:=hg
  obtain ⟨q1,q2,⟨a,c,q3⟩,q4,q5⟩:=st
  obtain ⟨its1,v1,o1,z1⟩:=kj I s1
  obtain ⟨its2,v2,o2,z2⟩:=kj I s2
  obtain ⟨u1,e1,r1⟩:=v1.get hx
  obtain ⟨u2,e2,r2⟩:=v2.get hy
  have lt:∀ b∈[z,TI,TO,i1,i2],b < s.heap.objs.size:=fun b hb=>by
   simp only [a0n,a0E,or_false] at hb
   rcases hb with rfl | rfl | rfl | rfl | rfl
   ·exact Heap.lt_size q1
   ·exact Heap.lt_size q2
   ·exact Heap.lt_size q3
   ·obtain ⟨o,e,_⟩:=q4.obj; exact Heap.lt_size e
   ·obtain ⟨o,e,_⟩:=q5.obj; exact Heap.lt_size e
  refine fK D q1 q2 q3 q4 q5 o1 o2 (x:=u1) (y:=u2) (by simpa using e1) (by simpa using e2) fun h' y1 y2 y3 y4 y5 y6 y7=>⟨_,rfl,?_⟩
  refine wpAny_letOwnedTupleGo_zip (s:={ s with heap:=h' }) y1 fun h2 w1 sb=>?_
  have sb':Heap.SameBut z h' h2:=sb
  have nz:s.heap.objs.size≠z:=a04 (lt z (by simp))
  have kk:∀ b o,b ∉ [z,TI,TO,i1,i2]->s.heap.get? b=some o->h2.get? b=some o:=fun b o hb e=>by
   simp only [a0n,a0E,or_false,not_or] at hb
   exact (sb'.2 b hb.1).trans (y7 b o hb.1 hb.2.2.1 hb.2.2.2.1 hb.2.2.2.2 e)
  have tp:IsTup h2 s.heap.objs.size [u1,u2].toArray:=⟨_,(sb'.2 _ nz).trans y5,rfl,_,rfl⟩
  refine ⟨.ref s.heap.objs.size,upd H s.heap.objs.size (.tup [x,y]),fY (s:=s) (t':=s.toks) I hf kk (a0d _) (by show 2<=sizeLine; decide) (.cons r1 (.cons r2 .nil)) tp,rfl,
   ⟨_,x,y,rfl,I.fresh,rfl,fun zs hz=>by rw [mx I hz s1]; exact hx,fun zs hz=>by rw [mx I hz s2]; exact hy⟩,?_,fun b hb=>?_⟩
  ·exact ⟨w1,(sb'.2 _ D.TIz).trans (y7 _ _ D.TIz D.TITO D.TIi1 D.TIi2 q2),⟨_,_,(sb'.2 _ D.TOz).trans y2⟩,y3.at fun o e=>(sb'.2 _ D.i1z).trans e,y4.at fun o e=>(sb'.2 _ D.i2z).trans e⟩
  ·rw [ag (a0u (lt b hb))]; exact (hf b hb).1
 done:=by
  intro X hP hw hK hc i pins s σ H E I hf st hg
  subst hP hw hK
  obtain ⟨xs,ys,s1,s2,hl⟩:=hg
  obtain ⟨q1,q2,⟨a,c,q3⟩,q4,q5⟩:=st
  obtain ⟨its1,v1,o1,z1⟩:=kj I s1
  obtain ⟨its2,v2,o2,z2⟩:=kj I s2
  have l1:=v1.length
  have l2:=v2.length
  refine ig (I.ok.hd hc) D q1 q2 q3 q4 q5 o1 o2 (hl.imp (fun q=>by simp; omega) fun q=>by simp; omega) fun h' hk=>⟨rfl,kF (t':=s.toks) I hf fun b o hb e=>?_⟩
  simp only [a0n,a0E,or_false,not_or] at hb
  exact hk b o hb.1 hb.2.2.1 hb.2.2.2.1 hb.2.2.2.2 e
 self:=fun _ _ _ _ _ st h=>wpAny_pyIter_zip st.1 h
section
variable {X:Cx}
noncomputable def Bn (K:a0a)(ta:TA):TI:=fun σ H R=>ta σ H fun vs H1=>∃ k1 k2 a1 a2,vs=[.ref a1,.ref a2]/\(∃ xs,Sq K H1 k1 a1 xs)/\(∃ ys,Sq K H1 k2 a2 ys)/\R (Itz K k1 k2 a1 a2) H1
theorem yp {a b:Expr}{ta:TA}{p pos pt:Pos}{es:List Expr}{kt:Nat}(hg:Gl X "zip")(hm:X.mg "zip"=none)(ha:PA X [a,b] ta)(hs:starEach [a,b] X.env=[(false,eval a X.env),(false,eval b X.env)]:=by rfl)(hs2:starEach [b] X.env=[(false,eval b X.env)]:=by rfl) :
  PI X (.Tuple es kt pt) (.Call (.Name "zip" p) [a,b] [] pos) (Bn X.K ta):=by
 intro pins s σ H R I h
 refine Call_ (dU I hg hm boot_zip (a1c (thn (ha pos pins s σ H _ I h) fun us s1 ⟨vs,H1,I1,r1,q1⟩=>?_) (by rw [hs,hs2]) (by rw [hs2]; rfl)))
 obtain ⟨k1,k2,a1,a2,rfl,⟨xs,s1'⟩,⟨ys,s2'⟩,q⟩:=q1
 cases r1 with
 | cons r rr =>
  cases rr with
  | cons r' rr =>
   cases rr
   cases r
   cases r'
   obtain ⟨its1,v1,o1,z1⟩:=kj I1 s1'
   obtain ⟨its2,v2,o2,z2⟩:=kj I1 s2'
   refine mG o1 o2 fun h' q1 q2 q3 q4 q5 kk=>?_
   refine wpAny_pyIter_zip (s:={ s1 with heap:=h' }) q1 ?_
   refine ⟨_,_,_,_,H1,rfl,I1.kept (t':=s1.toks) kk,qi (zipApart_new o1.lt o2.lt),⟨q1,q2,⟨_,_,q3⟩,q4,q5⟩,fun b hb=>?_,q⟩
   have hle:s1.heap.objs.size<=b:=by
    simp only [a0n,a0E,or_false] at hb
    rcases hb with e | e | e | e | e<;>(rw [e]; first | exact a0U _ _ | exact a0d _)
   exact I1.fpOk hle (I1.hok.fresh hle)
end
structure aA (pre ys:List Str)(scope:Scope):Prop where
 kind:scope.kind=.function
 cell:∀ y∈scope.names,y.2≠.cell
 nm:∀ y∈scope.names,y.2=.local->scope.names.lookup y.1=some .local
 loc:∀ x∈pre,scope.names.lookup x=some .local
 nd:(pre++ys).Nodup
theorem rF {pre:List Str}{τ:L2.St}{j:Nat}{v:V}(e:(a0h pre.length none++τ)[j]?=some (some v)):∃ i,j=pre.length+i/\τ[i]?=some (some v):=by
 by_cases hj:j < pre.length
 ·rw [a0M (by rw [a00]; exact hj),a13,if_pos hj] at e
  cases a0w e
 ·refine ⟨j-pre.length,by omega,?_⟩
  rw [a0R (by rw [a00]; omega),a00] at e
  exact e
theorem mZ {X:Cx}{pins:List (Addr×Obj)}{σ:L2.St}{H:Hp}{s:Shared}{pre ys:List Str}{is:List Nat}{scope:Scope}{cl:List (Str×Addr)}{fp:List Addr}{C:Addr}{h1:Heap}{t1:Nat}{m1:Str->Option Value}
  (I:Inv X pins σ H s) (hf:∀ b∈fp,gB X pins H b) (hfo:∀ b∈fp,b < s.heap.objs.size) (S:aA pre ys scope) (hcl:Clo X cl)
  (hfr:(scope.names.all fun p=>p.2 != .free || (cl.lookup p.1).isSome)=true) (fr:Frees X scope cl ys is)
  (hC:s.heap.objs.size<=C) (old:∀ b o,s.heap.get? b=some o->h1.get? b=some o) (hn:h1.Ns C m1) :
  Inv (av X (pre++ys) scope cl C s H fp) pins (a0h pre.length none++bP σ is) H { s with heap:=h1,toks:=t1 }:=by
 have stk:∀ b,b≠X.env.locals->b ∉ X.fs->b ∉ frs X.stack:=fun b q1 q2 hb=>(a0n.mp (I.stkSub b hb)).elim q1 q2
 have key:∀ a k,(relabel scope X.env).names.lookup a=some k->(k=.cell\/k=.free)->∃ c,cl.lookup a=some c:=fun a k e hk=>by
  have hm:=a1h e
  obtain ⟨⟨n,k0⟩,hp,ep⟩:=a08.mp hm
  have hk0:k0=.free/\n=a:=by
   dsimp only at ep
   split at ep
   ·rename_i hc
    simp only [a0p] at hc
    exact ⟨eq_of_beq hc.1.1,(a3g ep).1⟩
   ·obtain ⟨e1,e2⟩:=a3g ep
    subst e2
    rcases hk with z | z
    ·exact absurd z (S.cell _ hp)
    ·exact ⟨z,e1⟩
  obtain ⟨z1,z2⟩:=hk0
  subst z1 z2
  have q:=a0I.mp hfr _ hp
  have q2:(cl.lookup n).isSome=true:=by simpa using q
  exact a1V.mp q2
 refine ⟨⟨I.ok.mod,S.kind,I.ok.glob,I.ok.blt,hC,fun a b c e1 e2=>I.ok.inj a b c (hcl.get e1) (hcl.get e2),fun a ha=>?_,fun a c e=>absurd e a0r,I.ok.hd,I.ok.frames,.inl rfl,
   fun b hb=>⟨a0u (a0f (hfo b hb) hC),fun a c e=>(hf b hb).2.2.2.2.1 a c (hcl.get e)⟩,I.bs,a0o I.ok.bsz I.sz,fun b o e hb=>?_,fun b hb=>stk b (hf b hb).2.1 (hf b hb).2.2.1,I.stack,I.stkFree⟩,
  rfl,I.bare,Un.kept old,⟨m1,hn,fun j y v e1 e2 e3=>?_⟩,fun a c e=>?_,I.hok.fresh hC,fun a c e=>I.freeC a c (hcl.get e),fun p hp=>?_,I.hok.kept old,?_⟩
 ·rcases ha with e | e
  ·exact key a _ e (.inl rfl)
  ·exact key a _ e (.inr rfl)
 ·rcases (hf b hb).2.2.2.1 with z | z
  ·exact I.ok.noex b o e z
  ·exact absurd (a0f (Heap.lt_size (I.ok.bs b o e).1) z) (a0N _)
 ·obtain ⟨k,rfl,e2'⟩:=rF e2
  have e1':ys[k]?=some y:=by
   have e1'':(pre++ys)[pre.length+k]?=some y:=e1
   rw [a0R (by omega),a15] at e1''
   exact e1''
  obtain ⟨i,c,g1,g2,g3,g4,g5,g6,g7⟩:=fr.get (σ:=σ) e1' e2'
  obtain ⟨m0,hn0,hl0⟩:=I.loc
  obtain ⟨u,r,l⟩:=hl0 i y v g1 g2 g3
  rcases l with ⟨k,_⟩ | ⟨_,c',e',z⟩
  ·rcases g4 with q | q
   ·rw [k] at q; cases q
   ·rw [k] at q; cases q
  ·rw [g5] at e'
   cases e'
   obtain ⟨o,ho,hd⟩:=z
   exact ⟨u,r,.inr ⟨g7,c,g6,⟨o,old _ _ ho,hd⟩⟩⟩
 ·obtain ⟨v,o,ho,hd⟩:=I.cell a c (hcl.get e)
  exact ⟨v,o,old _ _ ho,hd⟩
 ·obtain ⟨e,n,ne,nf,d⟩:=I.pin p hp
  exact ⟨old _ _ e,n,a0u (a0f (Heap.lt_size e) hC),stk _ ne nf,d⟩
 ·show (a0h pre.length none++bP σ is).length=(pre++ys).length
  unfold bP
  rw [a0e,a0e,a00,a0b,fr.len]
end L3
namespace L3
open PySem PySem.Spec PyProof.Rows L2
end L3
namespace L3
open PySem PySem.Spec PyProof.Rows L2
structure FunD (K:a0a)(x qual:Str)(st:Stmt)(f:Addr)(fd:FuncData)(dV:Value):Prop where
 ex:∃ (oc:Value) (od:Option Addr) (kV doc pm:Value) (an:Option Addr) (cdv ct:Value) (osl:Array (Option Value)),
  fd=a0X x qual (defArgs st) (defBody st) (defScope st) dV kV doc pm an cdv ct/\K.lookup f=some ⟨oc,od,.func fd,osl⟩/\a1P K cdv qual=true
 kp:a1b K (.ref f)=true
section
variable {P:Program}{w:World}{K:a0a}{mg:Str->Option Value}{base:Heap}
theorem FunD.ok {x qual:Str}{st:Stmt}{f:Addr}{fd:FuncData}{dV:Value}{N ps:List Str}{k:Nat}{sp:Sp}(F:FunD K x qual st f fd dV)(S:ao N ps (defScope st))(len:∀ vs H Q E,sp vs H Q E->vs.length=ps.length)
  (hb:∀ (cdv:Value) (A:Around) (outer:List Env) (s:Shared) (H:Hp) (vs:List V) (Q:VK) (E:XK),Room k (A.deeper (envOfC qual (defScope st) s.heap.objs.size f cdv))->sp vs H Q E ->
   ∃ t,PSs (cZ CX0 P w K mg base N qual (defScope st) f cdv A outer s H E).nox (defBody st) t/\t { nx:=fun _ H'=>Q .non H',rt:=Q } (start N vs) H):FnOk P w K mg base CX0 (k+1) f fd ps sp:=by
 obtain ⟨oc,od,kV,doc,pm,an,cdv,ct,osl,rfl,lk,hcd⟩:=F.ex
 exact rZ lk hcd S len fun A outer s H vs Q E hr hsp=>let ⟨t,h,q⟩:=hb cdv A outer s H vs Q E hr hsp; ⟨t,h.nox,q⟩
theorem FunD.binds {x qual:Str}{st:Stmt}{f:Addr}{fd:FuncData}{T:Addr}{o:Obj}{n:Nat}{its:Array Value}{ps:List Str}{ds:List Value}(F:FunD K x qual st f fd (.ref T))(ho:K.lookup T=some o)(hs:o.data=.seq its n)
  (h:∀ (kV doc pm:Value) (an:Option Addr) (cdv ct:Value) (us:List Value),(us++ds).length=ps.length->∃ k:Option (Array Value)->Sem (List (Str×Value)),bindArgs (a0X x qual (defArgs st) (defBody st) (defScope st) (.ref T) kV doc pm an cdv ct) ⟨us,[]⟩=seqItems? (.ref T) >>= k/\k (some its)=pure (ps.zip (us++ds))):Binds K fd ps ds:=by
 obtain ⟨oc,od,kV,doc,pm,an,cdv,ct,osl,rfl,lk,hcd⟩:=F.ex
 intro s us KX hl
 obtain ⟨k,h1,h2⟩:=h kV doc pm an cdv ct us hl
 exact PySem.W.binds_K KX rfl ho hs h1 h2
theorem v5 {x qual:Str}{st:Stmt}{f:Addr}{oc dV:Value}{od an:Option Addr}{osl:Array (Option Value)}{kV doc pm cdv ct:Value}(l:K.lookup f=some ⟨oc,od,.func (a0X x qual (defArgs st) (defBody st) (defScope st) dV kV doc pm an cdv ct),osl⟩)
  (c:a1P K cdv qual=true) (k:a1b K (.ref f)=true):FunD K x qual st f (a0X x qual (defArgs st) (defBody st) (defScope st) dV kV doc pm an cdv ct) dV:=⟨⟨oc,od,kV,doc,pm,an,cdv,ct,osl,rfl,l,c⟩,k⟩
end
end L3
namespace L3
open PySem PySem.Spec PyProof.Rows L2
section
variable {X:Cx}
theorem mX:cq X (.type "range") (fun xs H Q=>∃ i j,xs=[.int i,.int j]/\∀ p,H p=none->Q (.ref p) (upd H p (.rng i j))):=by
 intro pins s σ H xs us Q I r h
 obtain ⟨i,j,rfl,q⟩:=h
 obtain ⟨u,w',rfl,⟨t,rfl⟩,⟨t',rfl⟩⟩:=fm r
 refine call_range_2 ?_
 exact ⟨.ref s.heap.objs.size,upd H s.heap.objs.size (.rng i j),I.laid (t':=s.toks+1) (fun _ _ e=>Heap.get?_push_of_some _ e) (a0d _) ⟨_,_,_,Heap.get?_push_size _ rfl⟩,rfl,q _ I.fresh⟩
theorem kR {lo:Int}{acc:Array Value}{n:Nat}(h:ItemsOf (fun (i:Nat) (v:Value)=>∃ t,v=Value.int (lo+(i:Int) * 1) t) acc n):Vals ((a0q n).map fun (k:Nat)=>V.int (lo+(k:Int))) acc.toList:=by
 have key:∀ (l:List Value) (m:Nat),l.length+m=n->(∀ j v,l[j]?=some v->∃ t,v=Value.int (lo+((m+j:Nat):Int)) t)->Vals ((List.range' m l.length).map fun (k:Nat)=>V.int (lo+(k:Int))) l:=by
  intro l
  induction l with
  | nil=>intro m _ _; exact .nil
  | cons v l ih =>
   intro m hm hv
   obtain ⟨t,e⟩:=hv 0 v rfl
   rw [a0g,List.range'_succ,a0A]
   refine .cons ⟨t,by rw [e]; rfl⟩ (ih (m+1) (by rw [a0g] at hm; omega) fun j v' hj=>?_)
   obtain ⟨t',e'⟩:=hv (j+1) v' hj
   exact ⟨t',by rw [e',show m+(j+1)=m+1+j by omega]⟩
 have hl:acc.toList.length=n:=by rw [a1T]; exact h.1
 have:=key acc.toList 0 (by omega) fun j v hj=>by
  obtain ⟨t,e⟩:=h.2 j v (by simpa using hj)
  exact ⟨t,by rw [e,Int.mul_one,a23]⟩
 rw [hl] at this
 rw [List.range_eq_range']
 exact this
theorem fP (hc:X.calm=true):cq X (.type "list") (fun xs H Q=>∃ p i j,xs=[.ref p]/\H p=some (.rng i j)/\(-(2 ^ 62)<=i/\i < 2 ^ 62/\-(2 ^ 62)<=j/\j < 2 ^ 62)/\(j-i).toNat<=sizeLine/\∀ l,H l=none->Q (.ref l) (upd H l (.lst ((a0q (j-i).toNat).map fun (k:Nat)=>V.int (i+(k:Int)))))):=by
 intro pins s σ H xs us Q I r h
 obtain ⟨p,i,j,rfl,hp,⟨b1,b2,b3,b4⟩,hz,q⟩:=h
 obtain ⟨u,rfl,ru⟩:=hZ r
 cases ru
 obtain ⟨t,u,v,e⟩:=I.hok p _ hp
 refine call_list_range (I.ok.hd hc) e (small_one b1 b2 b3 b4) (n:=(j-i).toNat) (by rw [rangeSize_one]; split<;>omega) (a0o hz (by decide)) fun h' tk acc' c' hk hS' hacc=>?_
 have hv:=kR hacc
 refine ⟨.ref s.heap.objs.size,upd H s.heap.objs.size (.lst ((a0q (j-i).toNat).map fun (k:Nat)=>V.int (i+(k:Int)))),I.laid (t':=tk) hk (a0d _) ⟨?_,acc'.toList,c',hv,by rw [hS',a29]⟩,rfl,q _ I.fresh⟩
 rw [a0b,a0W]
 exact hz
end
end L3
namespace L3
open PySem PySem.Spec PyProof.Rows L2
end L3
namespace L3
open PySem PySem.Spec PyProof.Rows L2
section
variable {prog:Program}{w:World}{A:Around}{R:Result->Shared->Prop}{s:Shared}
theorem jA {elt tg iter cnd:Expr}{scope:Scope}{pos:Pos}{it acc:Value}{env:Env}(J:Nat->Shared->Prop)
  (turn:∀ n s,J n s->wpAny (model prog w) A (pyNext it) (fun r s₁=>match r with
   | none=>R (.ok .next) s₁
   | some v=>wpAny (model prog w) A (letOwnedTupleGo tg it v) (fun _ s₂=>wpAny (model prog w) A (assign tg env v) (fun _ s₃=>wpAny (model prog w) A (isTrue cnd env (eval cnd env)) (fun ok s₄=>if ok=true then
     wpAny (model prog w) A (eval elt env) (fun y s₅=>wpAny (model prog w) A (call (.builtin "list.append") [acc,y]) (fun _ s₆=>∃ m,m < n/\J m s₆) noX s₅) noX s₄ else ∃ m,m < n/\J m s₄) noX s₃) noX s₂) noX s₁) noX s)
  (n:Nat) (h:J n s):codeAny (model prog w) A (.compLoop (.ListComp elt [⟨tg,iter,[cnd],0⟩] scope pos) 0 it acc env) R s:=by
 refine codeAny_loop rfl J (fun n s hJ=>?_) n h
 show wpAny _ A ((compTurn (.ListComp elt [⟨tg,iter,[cnd],0⟩] scope pos) 0 it acc env).onRaise (fun x=>do noteFrame x env; theTreesLotGoes x)) _ _ s
 refine wpAny_noted ?_
 rw [compTurn_list]
 refine wpAny_bind (wpAny_standAt (wpAny_bind (wpAny_mono (turn n s hJ) (fun r s₁ h₁=>?_) fun _ _ z=>z.elim)))
 cases r with
 | none=>exact wpAny_pure h₁
 | some v =>
  refine wpAny_bind (wpAny_mono h₁ (fun _ s₂ h₂=>?_) fun _ _ z=>z.elim)
  refine wpAny_bind (wpAny_mono h₂ (fun _ s₃ h₃=>?_) fun _ _ z=>z.elim)
  refine wpAny_bind (wpAny_tests_one (wpAny_mono h₃ (fun ok s₄ h₄=>?_) fun _ _ z=>z.elim))
  cases ok with
  | true=>exact wpAny_bind (wpAny_bind (wpAny_mono h₄ (fun y s₅ h₅=>wpAny_bind (wpAny_mono h₅ (fun _ s₆ h₆=>wpAny_pure (wpAny_pure ⟨rfl,h₆⟩)) fun _ _ z=>z.elim)) fun _ _ z=>z.elim))
  | false=>exact wpAny_bind (wpAny_pure (wpAny_pure ⟨rfl,h₄⟩))
end
end L3

namespace L3
open PySem PySem.Spec PyProof.Rows L2
noncomputable def tH (n:Nat)(J:It)(g:TG)(tc:TT)(te:TE)(σ':L2.St)(H1:Hp)(Q:VK):Prop:=∃ W:Nat->Nat->List V->Hp->Prop,(∃ m,W 0 m [] H1)/\∀ i m ys H,W i m ys H ->
 (J.stop i H/\ys.length<=sizeLine/\∀ p,H p=none->Q (.ref p) (upd H p (.lst ys))) \/
 (J.go i H/\ys.length < sizeLine/\∀ x H',J.yld i H x H'->g x (a0h n none++σ') H' fun σ2 H2=>(σ2.length=n+σ'.length/\σ2.drop n=σ')/\tc σ2 H2 fun ok H3=>if ok=true then te σ2 H3 fun y H4=>∃ m',m' < m/\W (i+1) m' (ys++[y]) H4 else ∃ m',m' < m/\W (i+1) m' ys H3)
noncomputable def u6 (n:Nat)(J:It)(g:TG)(te:TE)(σ':L2.St)(H1:Hp)(Q:VK):Prop:=∃ W:Nat->Nat->List V->Hp->Prop,(∃ m,W 0 m [] H1)/\∀ i m ys H,W i m ys H ->
 (J.stop i H/\ys.length<=sizeLine/\∀ p,H p=none->Q (.ref p) (upd H p (.lst ys))) \/
 (J.go i H/\ys.length < sizeLine/\∀ x H',J.yld i H x H'->g x (a0h n none++σ') H' fun σ2 H2=>(σ2.length=n+σ'.length/\σ2.drop n=σ')/\te σ2 H2 fun y H4=>∃ m',m' < m/\W (i+1) m' (ys++[y]) H4)
noncomputable def eW (n:Nat)(wi:TI)(is:List Nat)(g:TG)(tc:TT)(te:TE):TE:=fun σ H Q=>wi σ H fun J H1=>tH n J g tc te (bP σ is) H1 Q
noncomputable def iC (n:Nat)(wi:TI)(is:List Nat)(g:TG)(te:TE):TE:=fun σ H Q=>wi σ H fun J H1=>u6 n J g te (bP σ is) H1 Q
theorem qt {n:Nat}{σ2 σ':L2.St}(h:σ2.drop n=σ'){j:Nat}{w:V}(e:(a0h n none++σ')[j]?=some (some w)):σ2[j]?=some (some w):=by
 by_cases hj:j < n
 ·rw [a0M (by simpa using hj),a13,if_pos hj] at e
  cases a0w e
 ·rw [a0R (by simpa using hj),a00,<- h,List.getElem?_drop,Nat.add_sub_cancel' (by omega)] at e
  exact e
noncomputable def CW (X:Cx)(cs:List Expr)(k:Bool->Shared->Prop)(s:Shared):Prop:=match cs with
 | []=>k true s
 | [c]=>wpAny (model X.prog X.w) X.A (isTrue c X.env (eval c X.env)) k noX s
 | _=>False
noncomputable def PC (X:Cx)(cs:List Expr)(tc:TT):Prop:=∀ (pins:List (Addr×Obj)) (s:Shared) (σ:L2.St) (H:Hp) (Q:Bool->Hp->Prop),Inv X pins σ H s->tc σ H Q->CW X cs (fun ok s'=>∃ H',Inv X pins σ H' s'/\Q ok H') s
theorem CW.mono {X:Cx}{cs:List Expr}{k k':Bool->Shared->Prop}{s:Shared}(h:CW X cs k s)(w:∀ b s,k b s->k' b s):CW X cs k' s:=by
 match cs,h with
 | [],h=>exact w _ _ h
 | [c],h=>exact wpAny_mono h w fun _ _ z=>z
theorem km {X:Cx}{elt tg iter:Expr}{cs:List Expr}{scope:Scope}{pos:Pos}{it acc:Value}{R:Result->Shared->Prop}{s:Shared}(J:Nat->Shared->Prop)
  (turn:∀ n s,J n s->wpAny (model X.prog X.w) X.A (pyNext it) (fun r s₁=>match r with
   | none=>R (.ok .next) s₁
   | some v=>wpAny (model X.prog X.w) X.A (letOwnedTupleGo tg it v) (fun _ s₂=>wpAny (model X.prog X.w) X.A (assign tg X.env v) (fun _ s₃=>CW X cs (fun ok s₄=>if ok=true then
     wpAny (model X.prog X.w) X.A (eval elt X.env) (fun y s₅=>wpAny (model X.prog X.w) X.A (call (.builtin "list.append") [acc,y]) (fun _ s₆=>∃ m,m < n/\J m s₆) noX s₅) noX s₄ else ∃ m,m < n/\J m s₄) s₃) noX s₂) noX s₁) noX s)
  (n:Nat) (h:J n s) (hcs:cs.length<=1):codeAny (model X.prog X.w) X.A (.compLoop (.ListComp elt [⟨tg,iter,cs,0⟩] scope pos) 0 it acc X.env) R s:=by
 match cs,hcs with
 | [],_=>exact lG J turn n h
 | [c],_=>exact jA J turn n h
theorem kf {X:Cx}{elt iter tg:Expr}{cs:List Expr}{pre:List Str}{pos:Pos}{scope:Scope}{cl:List (Str×Addr)}{ys:List Str}{is:List Nat}{wi:TI}{g:TG}{te:TE}{tc:TT}{use:Option (Value->Sem Unit)}{Q:VK}{Qp:Value->Shared->Prop}{pins:List (Addr×Obj)}{s:Shared}{σ:L2.St}{H:Hp}{ip:Pos}
  (hc:X.calm=true) (hi:PI X tg iter wi) (hg:∀ C s H fp,PG (av X (pre++ys) scope cl C s H fp) tg g) (he:∀ C s H fp,PE (av X (pre++ys) scope cl C s H fp) elt te) (hcd:∀ C s H fp,PC (av X (pre++ys) scope cl C s H fp) cs tc) (hcs:cs.length<=1)
  (hclos:closureFor scope X.env=pure cl) (S:aA pre ys scope) (hcl:Clo X cl) (hfr:(scope.names.all fun p=>p.2 != .free || (cl.lookup p.1).isSome)=true) (fr:Frees X scope cl ys is) (hs:∀ v,foldedSetIterable iter X.env v=pure v)
  (fin:∀ (s4:Shared) (Hn:Hp) (D L:Addr) (m4:Str->Option Value),Inv X pins σ Hn s4->s4.heap.Ns L m4->L≠X.env.locals->(∀ a c,X.env.cells.lookup a=some c->c≠L)->Hn L=none->X.s₀.heap.objs.size<=L->(∀ p∈X.pn++pins,p.1≠L)->Q (.ref D) Hn->compPost (model X.prog X.w) X.A X.xe use Qp (.ref D) L (.ok .next) s4)
  (I:Inv X pins σ H s) (h:eW pre.length wi is g tc te σ H Q) :
  wpAny (model X.prog X.w) X.A (comprehension (.ListComp elt [⟨tg,iter,cs,0⟩] scope pos) scope X.env ip (newList []) false (eval iter X.env) use) Qp X.xe s:=by
 refine wpAny_comprehension_free (use:=use) rfl hs hclos S.kind S.nm (thn (hi pins s σ H _ I h) fun xv s1 h1=>thn h1 fun itv s2 h2=>?_)
 obtain ⟨it,fp,tn,J,H2,rfl,I2,T,st2,f2,W,⟨m0,w0⟩,turn⟩:=h2
 have fpo:∀ b∈fp,b < s2.heap.objs.size:=fun b hb=>by
  obtain ⟨o,e,_⟩:=T.obj _ _ st2 b hb
  exact Heap.lt_size e
 refine wpAny_newObj_type (wpAny_newFunctionEnv S.cell (fun y hy=>by cases hy) (fun g' hns hsb=>?_) S.kind)
 dsimp only at hns hsb ⊢
 generalize hP2:s2.heap.push { cls:=.type "list",dict:=none,data:=.seq ([]:List Value).toArray }=P2 at hns hsb ⊢
 have hCs:P2.objs.size=s2.heap.objs.size+1:=by rw [<- hP2,Heap.size_push]
 have hDC:s2.heap.objs.size≠P2.objs.size:=by omega
 have hle:s2.heap.objs.size<=P2.objs.size:=by omega
 have nc:∀ b o,s2.heap.get? b=some o->b≠P2.objs.size:=fun b o e=>a0u (a0f (Heap.lt_size e) hle)
 have nd:∀ b o,s2.heap.get? b=some o->b≠s2.heap.objs.size:=fun b o e=>a0u (Heap.lt_size e)
 have ndH:∀ b u,H2 b=some u->b≠s2.heap.objs.size:=fun b u e=>a0u (I2.hok.lt e)
 have old:∀ b o,s2.heap.get? b=some o->g'.get? b=some o:=fun b o e=>hsb.extBut b o (nc b o e) (Heap.get?_push_of_some _ (hP2 ▸ Heap.get?_push_of_some _ e))
 have accD:g'.get? s2.heap.objs.size=some (jm []):=hsb.extBut _ _ hDC (Heap.get?_push_of_some _ (hP2 ▸ Heap.get?_push_size _ rfl))
 have stkD:s2.heap.objs.size ∉ frs X.stack:=fun hb=>(a0n.mp (I2.stkSub _ hb)).elim (fun z=>absurd z (a04 I2.lt)) (I2.nofs (a0d _))
 generalize hσ':bP σ is=σ' at turn
 have I3:Inv (av X (pre++ys) scope cl P2.objs.size s2 H2 fp) pins (a0h pre.length none++σ') H2 { s2 with heap:=g',toks:=s2.toks+([]:List (Str×Value)).length }:=by rw [<- hσ']; exact mZ (pre:=pre) I2 f2 fpo S hcl hfr fr hle old hns
 have stat:∀ {H':Hp} {o:Obj},(∀ b∈fp,H' b=none)->∀ b∈fp,gB (av X (pre++ys) scope cl P2.objs.size s2 H2 fp) (pins++[(s2.heap.objs.size,o)]) H' b:=fun {H' o} hn b hb=>by
  refine ⟨hn b hb,a0u (a0f (fpo b hb) hle),fun z=>(a0n.mp (I2.stkSub _ z)).elim (f2 b hb).2.1 (f2 b hb).2.2.1,.inl hb,fun a c e=>(f2 b hb).2.2.2.2.1 a c (hcl.get e),fun p hp=>?_⟩
  rcases a0T.mp hp with z | z
  ·exact (f2 b hb).2.2.2.2.2 p (a0v _ z)
  ·rcases a0T.mp z with z | z
   ·exact (f2 b hb).2.2.2.2.2 p (a0m _ z)
   ·rw [a0C.mp z]
    exact a04 (fpo b hb)
 have loop:codeAny (model X.prog X.w) X.A (.compLoop (.ListComp elt [⟨tg,iter,cs,0⟩] scope pos) 0 (.ref it) (.ref s2.heap.objs.size) (compEnvC scope cl P2.objs.size X.env))
   (compPost (model X.prog X.w) X.A X.xe use Qp (.ref s2.heap.objs.size) P2.objs.size) { s2 with heap:=g',toks:=s2.toks+([]:List (Str×Value)).length }:=by
  refine km (X:=av X (pre++ys) scope cl P2.objs.size s2 H2 fp) (fun n s'=>∃ i zs its H',Inv (av X (pre++ys) scope cl P2.objs.size s2 H2 fp) pins (a0h pre.length none++σ') H' s'/\tn i s'.heap/\(∀ b∈fp,H' b=none)/\s'.heap.get? s2.heap.objs.size=some (jm its)/\Vals zs its/\H' s2.heap.objs.size=none/\W i n zs H')
   ?_ m0 ⟨0,[],[],H2,I3,T.keep _ _ _ st2 (fun b _ o e=>old b o e),fun b hb=>(f2 b hb).1,accD,.nil,I2.hok.fresh (a0d _),w0⟩ hcs
  rintro n s3 ⟨i,zs,its,H3,J3,st3,fr3,d3,rv3,nd3,w3⟩
  have hzl:=rv3.length
  have J3':Inv (av X (pre++ys) scope cl P2.objs.size s2 H2 fp) (pins++[(s2.heap.objs.size,jm its)]) (a0h pre.length none++σ') H3 s3:=J3.pins_of fun p hp=>by
   rcases a0T.mp hp with z | z
   ·exact J3.pin p (a0m _ z)
   ·rw [a0C.mp z]
    exact ⟨d3,nd3,hDC,stkD,fun v q=>by cases q⟩
  rcases turn i n zs H3 w3 with ⟨stop,hz,q⟩ | ⟨go,hz,step⟩
  ·refine wpAny_mono (T.done (av X (pre++ys) scope cl P2.objs.size s2 H2 fp) rfl rfl rfl hc i _ s3 _ H3 noX J3' (stat fr3) st3 stop) (fun r s4 h4=>?_) fun _ _ z=>z.elim
   obtain ⟨hr,I4⟩:=h4
   subst hr
   obtain ⟨m4,hn4,_⟩:=id I4.loc
   have f4:H3 P2.objs.size=none:=I4.free
   have d4:s4.heap.get? s2.heap.objs.size=some (jm its):=(I4.pin (s2.heap.objs.size,jm its) (a0m _ (a0m _ (a0C.mpr rfl)))).1
   have u4:Un (frs X.stack) fp H2 H3 s2.heap s4.heap:=I4.base
   have un:Un (frs X.stack) fp H2 (upd H3 s2.heap.objs.size (.lst zs)) s2.heap s4.heap :=
    ⟨u4.keep,u4.slot,fun b o e n hx=>by rw [ag (nd b o e)]; exact u4.free b o e n hx,u4.there,
     fun b xs q=>by rw [ag (ndH b _ q)]; exact u4.tups b xs q,fun b o u q=>by rw [ag (ndH b _ q)]; exact u4.frzs b o u q,fun b ps q=>by rw [ag (ndH b _ q)]; exact u4.tbls b ps q⟩
   have IX:Inv X pins σ (upd H3 s2.heap.objs.size (.lst zs)) s4:=I2.call' (s':=s4) (ch:=fp) I4.os un (ie I4.hok nd3 ⟨hz,its,its.length,rv3,d4⟩) I4.bare
    (fun b hb=>⟨(f2 b hb).2.2.2.1,(f2 b hb).2.1,(f2 b hb).2.2.2.2.1,(f2 b hb).2.2.2.2.2⟩)
   have cL:P2.objs.size≠X.env.locals:=a04 (a0f I2.lt hle)
   have cC:∀ a c,X.env.cells.lookup a=some c->c≠P2.objs.size:=fun a c e=>by
    obtain ⟨v',o',ho',_⟩:=I2.cell a c e
    exact nc c o' ho'
   exact fin s4 _ s2.heap.objs.size P2.objs.size m4 IX hn4 cL cC (by rw [ag (a1w hDC)]; exact f4) (a0o I2.sz hle) (fun p hp=>nc p.1 _ (I2.pin p hp).1) (q _ nd3)
  ·refine wpAny_mono (T.item (av X (pre++ys) scope cl P2.objs.size s2 H2 fp) rfl rfl rfl hc i _ s3 _ H3 noX J3' (stat fr3) st3 go) (fun r s4 h4=>?_) fun _ _ z=>z.elim
   obtain ⟨u,hr,h4⟩:=h4
   subst hr
   refine wpAny_mono h4 (fun _ s5 h5=>?_) fun _ _ z=>z.elim
   obtain ⟨v,H5,I5,r5,y5,st5,fr5⟩:=h5
   have I5':=I5.pinned (stat fr5) (T.obj _ _ st5)
   refine wpAny_mono (hg P2.objs.size s2 H2 fp _ s5 _ H5 v u _ I5' r5 (step v H5 y5)) (fun _ s6 h6=>?_) fun _ _ z=>z.elim
   obtain ⟨σ6,H6,I6,⟨hl6,hd6⟩,step'⟩:=h6
   have lC:∀ {H7:Hp} {s7:Shared},Inv (av X (pre++ys) scope cl P2.objs.size s2 H2 fp) ((pins++[(s2.heap.objs.size,jm its)])++gr fp s5.heap) σ6 H7 s7->Inv (av X (pre++ys) scope cl P2.objs.size s2 H2 fp) pins (a0h pre.length none++σ') H7 s7:=fun I7=>I7.unpinned.unpinned.weak (by rw [hl6,a0e,a00]) fun j w' e=>qt hd6 e
   refine CW.mono (hcd P2.objs.size s2 H2 fp _ s6 _ H6 _ I6 step') fun ok s6' h6'=>?_
   obtain ⟨H6',I6',q6⟩:=h6'
   cases ok with
   | false =>
    rw [if_neg a0r] at q6
    obtain ⟨m',hm',w7⟩:=q6
    have pinD:=I6'.pin (s2.heap.objs.size,jm its) (a0m _ (a0v _ (a0m _ (a0C.mpr rfl))))
    rw [if_neg a0r]
    refine ⟨m',hm',i+1,zs,its,H6',lC I6',T.keep _ _ _ st5 fun b hb o e=>?_,fun b hb=>?_,pinD.1,rv3,pinD.2.1,w7⟩
    ·exact (I6'.pin (b,o) (a0m _ (a0m _ (bC hb e)))).1
    ·obtain ⟨o,e,_⟩:=T.obj _ _ st5 b hb
     exact (I6'.pin (b,o) (a0m _ (a0m _ (bC hb e)))).2.1
   | true =>
    rw [if_pos rfl] at q6 ⊢
    refine wpAny_mono (he P2.objs.size s2 H2 fp _ s6' _ H6' _ I6' q6) (fun yv s7 h7=>?_) fun _ _ z=>z.elim
    obtain ⟨y',H7,I7,r7,m',hm',w7⟩:=h7
    have pinD:=I7.pin (s2.heap.objs.size,jm its) (a0m _ (a0v _ (a0m _ (a0C.mpr rfl))))
    refine append_at (hsz:=by show its.toArray.size<=sizeLine; rw [a0l]; omega) pinD.1 fun h8 sb8 hD8=>?_
    have I8:Inv (av X (pre++ys) scope cl P2.objs.size s2 H2 fp) pins (a0h pre.length none++σ') H7 { s7 with heap:=h8 }:=(lC I7).turned (t':=s7.toks) (it:=s2.heap.objs.size) (fun b o hb e=>(sb8.2 b hb).trans e) pinD.2.1 hDC (.inr (a0d _))
     (fun a c e z=>by
      obtain ⟨v',o',ho',_⟩:=I2.cell a c (hcl.get e)
      exact nd c o' ho' z)
     (fun p hp=>nd p.1 _ (I2.pin p hp).1)
    refine ⟨m',hm',i+1,zs++[y'],its++[yv],H7,I8,T.keep _ _ _ st5 fun b hb o e=>?_,fun b hb=>?_,?_,rv3.append (.cons r7 .nil),pinD.2.1,w7⟩
    ·exact (sb8.2 b (a0u (fpo b hb))).trans (I7.pin (b,o) (a0m _ (a0m _ (bC hb e)))).1
    ·obtain ⟨o,e,_⟩:=T.obj _ _ st5 b hb
     exact (I7.pin (b,o) (a0m _ (a0m _ (bC hb e)))).2.1
    ·show h8.get? s2.heap.objs.size=_
     rw [hD8]
     simp [jm]
 exact codeAny_compStart_list loop (T.self X.A 0 _ _ _ (T.keep _ _ _ st2 (fun b _ o e=>old b o e)) loop)
section
variable {X:Cx}{elt iter tg cnd:Expr}{pre:List Str}{pos spos pz:Pos}{z:Str}{jz:Nat}{scope:Scope}{cl:List (Str×Addr)}{ys:List Str}{is:List Nat}{wi:TI}{g:TG}{te:TE}{tc:TT}
theorem pcF (h:PT X cnd tc)(hx:∀ v s,X.xe v s->False):PC X [cnd] tc:=fun pins s σ H Q I q=>wpAny_mono (h pins s σ H Q I q) (fun _ _ z=>z) fun v s z=>hx v s z
noncomputable def tT:TT:=fun _ H Q=>Q true H
theorem pcN:PC X [] tT:=fun pins s σ H Q I q=>⟨H,I,q⟩
theorem goN {n:Nat}{σ:L2.St}{H:Hp}{Q:VK}(h:iC n wi is g te σ H Q):eW n wi is g tT te σ H Q:=h
theorem jN {cs:List Expr}(hc:X.calm=true)(hi:PI X tg iter wi)(hg:∀ C s H fp,PG (av X (pre++ys) scope cl C s H fp) tg g)(he:∀ C s H fp,PE (av X (pre++ys) scope cl C s H fp) elt te)(hcd:∀ C s H fp,PC (av X (pre++ys) scope cl C s H fp) cs tc)(hcs:cs.length<=1)
  (hclos:closureFor scope X.env=pure cl) (S:aA pre ys scope) (hcl:Clo X cl) (hfr:(scope.names.all fun p=>p.2 != .free || (cl.lookup p.1).isSome)=true) (fr:Frees X scope cl ys is) (hs:∀ v,foldedSetIterable iter X.env v=pure v) :
  PE X (.ListComp elt [⟨tg,iter,cs,0⟩] scope pos) (eW pre.length wi is g tc te):=by
 intro pins s σ H Q I h
 rw [eval_ListComp]
 show wpAny _ _ (comprehension _ scope X.env _ (newList []) false (eval iter X.env) none) _ _ s
 refine kf hc hi hg he hcd hcs hclos S hcl hfr fr hs (fun s4 Hn D L m4 IX hn cL cC hL hz hp q=>?_) I h
 exact ⟨m4,hn,fun h' sb=>⟨.ref D,_,IX.turned (t':=s4.toks) (it:=L) (fun b o hb e=>(sb.2 b hb).trans e) hL cL (.inr hz) cC hp,rfl,q⟩⟩
theorem q8 {cs:List Expr}(hN:X.N.Nodup)(hj:X.N[jz]?=some z)(hzLoc:Loc X.env.scope z)(hsw:swapsWith (.ListComp elt [⟨tg,iter,cs,0⟩] scope pos) (some (.Name z pz)) spos.line X.env=pure true)(hc:X.calm=true)(hi:PI X tg iter wi)(hg:∀ C s H fp,PG (av X (pre++ys) scope cl C s H fp) tg g)(he:∀ C s H fp,PE (av X (pre++ys) scope cl C s H fp) elt te)(hcd:∀ C s H fp,PC (av X (pre++ys) scope cl C s H fp) cs tc)(hcs:cs.length<=1)
  (hclos:closureFor scope X.env=pure cl) (S:aA pre ys scope) (hcl:Clo X cl) (hfr:(scope.names.all fun p=>p.2 != .free || (cl.lookup p.1).isSome)=true) (fr:Frees X scope cl ys is) (hs:∀ v,foldedSetIterable iter X.env v=pure v) (hfn:X.fn z=true\/X.env.scope.names.lookup z=some .local) :
  PS X (.Assign [.Name z pz] (.ListComp elt [⟨tg,iter,cs,0⟩] scope pos) spos) (pB (eW pre.length wi is g tc te) (dj jz)):=by
 intro pins s σ H D I h
 rw [exec_Assign_Name_used _ _ _ _ hsw]
 refine wpAny_bind (wpAny_standAt (wpAny_bind ?_)); show wpAny _ _ (do let _ <- comprehension (.ListComp elt [⟨tg,iter,cs,0⟩] scope pos) scope X.env _ (newList []) false (eval iter X.env) (some (assign (.Name z pz) X.env))) _ _ s
 refine wpAny_bind (thn (kf (use:=some (assign (.Name z pz) X.env)) (Qp:=fun _ s'=>SP X pins D .next s') hc hi hg he hcd hcs hclos S hcl hfr fr hs (fun s4 Hn d L m4 IX hn cL cC hL hz hp q=>?_) I h) fun _ s' hq=>wpAny_pure (wpAny_pure hq))
 show wpAny _ _ (assign (.Name z pz) X.env (.ref d)) _ _ s4
 refine wpAny_assign_Name (iw IX hN hj hzLoc (v:=.ref d) rfl (fun s5 I5 h5=>?_) hfn)
 obtain ⟨a5,sb5,ha5⟩:=h5
 have na:L≠a5:=ha5.elim (fun e=>by rw [e]; exact cL) fun e=>a1w (cC _ _ e)
 exact ⟨m4,hn.sameBut sb5 na,fun h' sb=>⟨_,_,I5.turned (t':=s5.toks) (it:=L) (fun b o hb e=>(sb.2 b hb).trans e) hL cL (.inr hz) cC hp,q⟩⟩
theorem gZ (hc:X.calm=true)(hi:PI X tg iter wi)(hg:∀ C s H fp,PG (av X (pre++ys) scope cl C s H fp) tg g)(he:∀ C s H fp,PE (av X (pre++ys) scope cl C s H fp) elt te)
  (hclos:closureFor scope X.env=pure cl) (S:aA pre ys scope) (hcl:Clo X cl) (hfr:(scope.names.all fun p=>p.2 != .free || (cl.lookup p.1).isSome)=true) (fr:Frees X scope cl ys is) (hs:∀ v,foldedSetIterable iter X.env v=pure v:=by intro _; rfl) :
  PE X (.ListComp elt [⟨tg,iter,[],0⟩] scope pos) (iC pre.length wi is g te):=fun pins s σ H Q I h=>jN hc hi hg he (fun _ _ _ _=>pcN) (a0O _) hclos S hcl hfr fr hs pins s σ H Q I (goN h)
theorem nO (hc:X.calm=true)(hi:PI X tg iter wi)(hg:∀ C s H fp,PG (av X (pre++ys) scope cl C s H fp) tg g)(he:∀ C s H fp,PE (av X (pre++ys) scope cl C s H fp) elt te)(hcd:∀ C s H fp,PT (av X (pre++ys) scope cl C s H fp) cnd tc)
  (hclos:closureFor scope X.env=pure cl) (S:aA pre ys scope) (hcl:Clo X cl) (hfr:(scope.names.all fun p=>p.2 != .free || (cl.lookup p.1).isSome)=true) (fr:Frees X scope cl ys is) (hs:∀ v,foldedSetIterable iter X.env v=pure v:=by intro _; rfl) :
  PE X (.ListComp elt [⟨tg,iter,[cnd],0⟩] scope pos) (eW pre.length wi is g tc te):=jN hc hi hg he (fun _ _ _ _=>pcF (hcd _ _ _ _) fun _ _ z=>z) (a0d _) hclos S hcl hfr fr hs
theorem oj (hN:X.N.Nodup)(hj:X.N[jz]?=some z)(hzLoc:Loc X.env.scope z)(hsw:swapsWith (.ListComp elt [⟨tg,iter,[],0⟩] scope pos) (some (.Name z pz)) spos.line X.env=pure true)(hc:X.calm=true)(hi:PI X tg iter wi)(hg:∀ C s H fp,PG (av X (pre++ys) scope cl C s H fp) tg g)(he:∀ C s H fp,PE (av X (pre++ys) scope cl C s H fp) elt te)
  (hclos:closureFor scope X.env=pure cl) (S:aA pre ys scope) (hcl:Clo X cl) (hfr:(scope.names.all fun p=>p.2 != .free || (cl.lookup p.1).isSome)=true) (fr:Frees X scope cl ys is) (hs:∀ v,foldedSetIterable iter X.env v=pure v:=by intro _; rfl) (hfn:X.fn z=true\/X.env.scope.names.lookup z=some .local:=by first | exact .inl rfl | exact .inr rfl | assumption) :
  PS X (.Assign [.Name z pz] (.ListComp elt [⟨tg,iter,[],0⟩] scope pos) spos) (pB (iC pre.length wi is g te) (dj jz)):=fun pins s σ H D I h=>q8 hN hj hzLoc hsw hc hi hg he (fun _ _ _ _=>pcN) (a0O _) hclos S hcl hfr fr hs hfn pins s σ H D I (goN h)
end
end L3

namespace L3
open PySem PySem.Spec PyProof.Rows L2
noncomputable abbrev cW (h:Heap)(z TI TO p:Addr)(f:Bool):Prop:=h.get? z=some { cls:=.type "zip",dict:=none,data:=.fields #[rawInt p,.bool f,.bool false,.ref TI,.ref TO],slots:=#[] }
section
variable {prog:Program}{w:World}{A:Around}{E:Value->Shared->Prop}{s:Shared}
theorem qA {a:Addr}{o:Obj}{Q:Option Obj->Shared->Prop}(ho:s.heap.get? a=some o)(h:Q (some o) s):wpAny (model prog w) A (loadIfAlive a) Q E s :=
 fun _ _ _=>(ho ▸ h:Q (s.heap.get? a) s)
theorem Dp {z TI TO p:Addr}{f:Bool}{op:Obj}{Q:Bool->Shared->Prop}(hz:cW s.heap z TI TO p f)(hp:s.heap.get? p=some op)
  (q:∀ h',cW h' z TI TO p true->Heap.SameBut z s.heap h'->Q false { s with heap:=h' }):wpAny (model prog w) A (Builtin.SmallTypes.ownedTupleIsFree (.ref z)) Q E s:=by
 unfold Builtin.SmallTypes.ownedTupleIsFree
 refine wpAny_bind (wpAny_field hz rfl (x:=rawInt p) rfl ?_)
 show wpAny _ _ (loadIfAlive ((p:Int).toNat) >>= _) _ _ _
 rw [a1K]
 refine wpAny_bind (qA hp ?_)
 rw [if_neg (by simp)]
 refine wpAny_bind (wpAny_field hz rfl (x:=.bool f) rfl ?_)
 by_cases hf:f=true
 ·subst hf
  rw [if_neg (by decide)]
  exact wpAny_pure (q s.heap hz (Heap.SameBut.refl _ _))
 ·rw [Bool.not_eq_true] at hf
  subst hf
  rw [if_pos (by decide)]
  exact wpAny_bind (wpAny_setField_rec hz (by simp) fun g hg sg=>wpAny_pure (q g hg sg))
theorem mW {z TI TO i1 i2 a1 a2 p:Addr}{f:Bool}{op:Obj}{k1 k2:Bool}{n m:Nat}{xs ys:Array Value}{x y:Value}{Q:Value->Shared->Prop}(D:ZipApart z TI TO i1 i2 a1 a2)
  (hz:cW s.heap z TI TO p f) (hp:s.heap.get? p=some op) (hI:IsPair s.heap TI (.ref i1) (.ref i2)) (h1:ItO s.heap k1 i1 a1 n) (h2:ItO s.heap k2 i2 a2 m) (q1:SqO s.heap k1 a1 xs) (q2:SqO s.heap k2 a2 ys) (hx:xs[n]?=some x) (hy:ys[m]?=some y)
  (q:∀ h',cW h' z TI TO p true->ItO h' k1 i1 a1 (n+1)->ItO h' k2 i2 a2 (m+1)->IsPair h' s.heap.objs.size x y->h'.objs.size=s.heap.objs.size+1 ->
   (∀ c o,c≠z->c≠i1->c≠i2->s.heap.get? c=some o->h'.get? c=some o)->Q (.ref s.heap.objs.size) { s with heap:=h' }) :
  wpAny (model prog w) A (Builtin.«zip.__next__» ⟨[.ref z],[]⟩) (fun fin s'=>∃ v,fin=.done (.ret v)/\Q v s') E s:=by
 show wpAny _ _ (field (.ref z) 2 >>= _) _ _ _; refine wpAny_bind (wpAny_field hz rfl (x:=.bool false) rfl ?_)
 show wpAny _ _ (field (.ref z) 3 >>= _) _ _ _; refine wpAny_bind (wpAny_field hz rfl (x:=.ref TI) rfl (wpAny_bind (wpAny_seqItems hI rfl ?_)))
 show wpAny _ _ (Builtin.SmallTypes.ownedTupleIsFree (.ref z) >>= _) _ _ _; refine wpAny_bind (Dp hz hp fun g1 z1 s1=>?_)
 have s1':Heap.SameBut z s.heap g1:=s1
 simp only [a2t,if_false]
 refine wpAny_bind ?_
 simp only [a3m,a2j,a2z]
 refine wpAny_bind (wpAny_bind (wpAny_holding ?_)); show wpAny _ _ (Builtin.SmallTypes.nextOf (.ref i1) >>= _) _ _ _
 refine wpAny_bind (bF (s:={ s with heap:=g1 }) (h1.at fun o e=>s1'.extBut _ _ D.i1z e) (q1.at fun o e=>s1'.extBut _ _ D.l1z e) hx fun g2 r2 s2=>wpAny_pure ?_)
 have s2':Heap.SameBut i1 g1 g2:=s2
 refine wpAny_pure ?_
 refine wpAny_bind (wpAny_bind (wpAny_holding ?_)); show wpAny _ _ (Builtin.SmallTypes.nextOf (.ref i2) >>= _) _ _ _
 refine wpAny_bind (bF (s:={ s with heap:=g2 }) (h2.at fun o e=>s2'.extBut _ _ D.i12.symm (s1'.extBut _ _ D.i2z e)) (q2.at fun o e=>s2'.extBut _ _ D.l2i1 (s1'.extBut _ _ D.l2z e)) hy fun g4 r4 s4=>wpAny_pure ?_)
 have s4':Heap.SameBut i2 g2 g4:=s4
 refine wpAny_pure (wpAny_pure ?_)
 refine wpAny_bind (wpAny_newTuple (hsz:=by show (2:Nat)<=sizeLine; decide) ?_)
 have sz:g4.objs.size=s.heap.objs.size:=by rw [s4'.1,s2'.1,s1'.1]
 refine wpAny_pure ⟨_,rfl,?_⟩
 show Q (.ref g4.objs.size) _
 have k4:∀ c o,c≠z->c≠i1->c≠i2->s.heap.get? c=some o->g4.get? c=some o:=fun c o n1 n3 n4 e=>s4'.extBut _ _ n4 (s2'.extBut _ _ n3 (s1'.extBut _ _ n1 e))
 rw [sz]
 refine q _ (Heap.get?_push_of_some _ (s4'.extBut _ _ D.i2z.symm (s2'.extBut _ _ D.i1z.symm z1))) (r2.at fun o e=>Heap.get?_push_of_some _ (s4'.extBut _ _ D.i12 e)) (r4.at fun o e=>Heap.get?_push_of_some _ e) ?_ ?_ fun c o n1 n3 n4 e=>Heap.get?_push_of_some _ (k4 c o n1 n3 n4 e)
 ·rw [<- sz]; exact Heap.get?_push_size _ rfl
 ·rw [Heap.size_push,sz]
theorem rW {z TI TO i1 i2 a1 a2 p:Addr}{f:Bool}{op:Obj}{k1 k2:Bool}{n m:Nat}{xs ys:Array Value}{Q:Fin->Shared->Prop}(hh:A.handled=none)(D:ZipApart z TI TO i1 i2 a1 a2)
  (hz:cW s.heap z TI TO p f) (hp:s.heap.get? p=some op) (hI:IsPair s.heap TI (.ref i1) (.ref i2)) (h1:ItO s.heap k1 i1 a1 n) (h2:ItO s.heap k2 i2 a2 m) (q1:SqO s.heap k1 a1 xs) (q2:SqO s.heap k2 a2 ys) (hend:xs[n]?=none\/ys[m]?=none)
  (q:∀ h' e,(∀ c o,c≠z->c≠i1->c≠i2->s.heap.get? c=some o->h'.get? c=some o)->(∃ o,h'.get? e=some o/\o.cls=.type "StopIteration")->E (.ref e) { s with heap:=h' }) :
  wpAny (model prog w) A (Builtin.«zip.__next__» ⟨[.ref z],[]⟩) Q E s:=by
 show wpAny _ _ (field (.ref z) 2 >>= _) _ _ _; refine wpAny_bind (wpAny_field hz rfl (x:=.bool false) rfl ?_)
 show wpAny _ _ (field (.ref z) 3 >>= _) _ _ _; refine wpAny_bind (wpAny_field hz rfl (x:=.ref TI) rfl (wpAny_bind (wpAny_seqItems hI rfl ?_)))
 show wpAny _ _ (Builtin.SmallTypes.ownedTupleIsFree (.ref z) >>= _) _ _ _; refine wpAny_bind (Dp hz hp fun g1 z1 s1=>?_)
 have s1':Heap.SameBut z s.heap g1:=s1
 simp only [a2t,if_false]
 refine wpAny_bind ?_
 simp only [a3m,a2j,a2z]
 refine wpAny_bind (wpAny_bind (wpAny_holding ?_)); show wpAny _ _ (Builtin.SmallTypes.nextOf (.ref i1) >>= _) _ _ _
 cases hx:xs[n]? with
 | none =>
  refine wpAny_bind (dw (s:={ s with heap:=g1 }) hh (h1.at fun o e=>s1'.extBut _ _ D.i1z e) (q1.at fun o e=>s1'.extBut _ _ D.l1z e) hx fun g2 e s2 he=>?_)
  exact q g2 e (fun c o n1 n3 _ y=>s2 _ _ n3 (s1'.extBut _ _ n1 y)) he
 | some x =>
  have hy:ys[m]?=none:=hend.elim (fun y=>by rw [hx] at y; cases y) id
  refine wpAny_bind (bF (s:={ s with heap:=g1 }) (h1.at fun o e=>s1'.extBut _ _ D.i1z e) (q1.at fun o e=>s1'.extBut _ _ D.l1z e) hx fun g2 r2 s2=>wpAny_pure ?_)
  have s2':Heap.SameBut i1 g1 g2:=s2
  refine wpAny_pure ?_
  refine wpAny_bind (wpAny_bind (wpAny_holding ?_)); show wpAny _ _ (Builtin.SmallTypes.nextOf (.ref i2) >>= _) _ _ _
  refine wpAny_bind (dw (s:={ s with heap:=g2 }) hh (h2.at fun o e=>s2'.extBut _ _ D.i12.symm (s1'.extBut _ _ D.i2z e)) (q2.at fun o e=>s2'.extBut _ _ D.l2i1 (s1'.extBut _ _ D.l2z e)) hy fun g4 e s4 he=>?_)
  exact q g4 e (fun c o n1 n3 n4 y=>s4 _ _ n4 (s2'.extBut _ _ n3 (s1'.extBut _ _ n1 y))) he
theorem lH {z TI TO i1 i2 a1 a2 p:Addr}{f:Bool}{op:Obj}{k1 k2:Bool}{n m:Nat}{xs ys:Array Value}{x y:Value}{Q:Option Value->Shared->Prop}(D:ZipApart z TI TO i1 i2 a1 a2)
  (hz:cW s.heap z TI TO p f) (hp:s.heap.get? p=some op) (hI:IsPair s.heap TI (.ref i1) (.ref i2)) (h1:ItO s.heap k1 i1 a1 n) (h2:ItO s.heap k2 i2 a2 m) (q1:SqO s.heap k1 a1 xs) (q2:SqO s.heap k2 a2 ys) (hx:xs[n]?=some x) (hy:ys[m]?=some y)
  (q:∀ h',cW h' z TI TO p true->ItO h' k1 i1 a1 (n+1)->ItO h' k2 i2 a2 (m+1)->IsPair h' s.heap.objs.size x y->h'.objs.size=s.heap.objs.size+1 ->
   (∀ c o,c≠z->c≠i1->c≠i2->s.heap.get? c=some o->h'.get? c=some o)->Q (some (.ref s.heap.objs.size)) { s with heap:=h' }):wpAny (model prog w) A (pyNext (.ref z)) Q E s:=by
 have hT:s.TypeIs (.ref z) "zip":=⟨_,hz,rfl⟩
 unfold pyNext
 exact wpAny_bind (wpAny_attempt (wpAny_callSpecial?_slot (name:=Str.ofString "__next__") hT F.slot_zip_next (wpAny_call_entry F.slot_zip_next hT F.entry_zip_next (mW D hz hp hI h1 h2 q1 q2 hx hy fun h' y1 y3 y4 y5 y6 y7=>wpAny_pure (q h' y1 y3 y4 y5 y6 y7)) (F.args_zip_next_1 _))))
theorem mR {z TI TO i1 i2 a1 a2 p:Addr}{f:Bool}{op:Obj}{k1 k2:Bool}{n m:Nat}{xs ys:Array Value}{Q:Option Value->Shared->Prop}(hh:A.handled=none)(D:ZipApart z TI TO i1 i2 a1 a2)
  (hz:cW s.heap z TI TO p f) (hp:s.heap.get? p=some op) (hI:IsPair s.heap TI (.ref i1) (.ref i2)) (h1:ItO s.heap k1 i1 a1 n) (h2:ItO s.heap k2 i2 a2 m) (q1:SqO s.heap k1 a1 xs) (q2:SqO s.heap k2 a2 ys) (hend:xs[n]?=none\/ys[m]?=none)
  (q:∀ h',(∀ c o,c≠z->c≠i1->c≠i2->s.heap.get? c=some o->h'.get? c=some o)->Q none { s with heap:=h' }):wpAny (model prog w) A (pyNext (.ref z)) Q E s:=by
 have hT:s.TypeIs (.ref z) "zip":=⟨_,hz,rfl⟩
 unfold pyNext
 refine wpAny_bind (wpAny_attempt (wpAny_callSpecial?_slot (name:=Str.ofString "__next__") hT F.slot_zip_next (wpAny_call_entry F.slot_zip_next hT F.entry_zip_next (rW hh D hz hp hI h1 h2 q1 q2 hend fun h' e hk he=>?_) (F.args_zip_next_1 _))))
 obtain ⟨o,ho,hc⟩:=he
 exact wpAny_bind (wpAny_isInstance (T:="StopIteration") (b:=true) ⟨o,ho,hc⟩ isSubtype_stop (wpAny_pure (q _ hk)))
end
end L3
namespace L3
open PySem PySem.Spec PyProof.Rows L2
theorem kE:typeLookup (.type "zip") "__len__"=pure none:=by rw [typeLookup_type,builtinLookup_eq_fast]; kernel_rfl
theorem j8:typeLookup (.type "zip") "__length_hint__"=pure none:=by rw [typeLookup_type,builtinLookup_eq_fast]; kernel_rfl
noncomputable def ZX (z TI TO i1 i2:Addr)(k1 k2:Bool)(a1 a2 S:Addr)(i:Nat)(h:Heap):Prop :=
 IsPair h TI (.ref i1) (.ref i2)/\ItO h k1 i1 a1 i/\ItO h k2 i2 a2 i/\((IsZip h z TI TO .none/\∃ a b,IsPair h TO a b)\/∃ p f op,cW h z TI TO p f/\h.get? p=some op/\S < p)
structure ZG (xs ys:Array Value)(S:Addr)(h:Heap)(as:List Addr):Prop where
 rise:as.Pairwise (· < ·)
 above:∀ a∈as,S < a
 pairs:∀ (j:Nat) (a:Addr),as[j]?=some a->∃ x y,xs[j]?=some x/\ys[j]?=some y/\IsPair h a x y
theorem ZG.there {xs ys:Array Value}{S:Addr}{h:Heap}{as:List Addr}(g:ZG xs ys S h as){a:Addr}(ha:a∈as):a < h.objs.size:=by
 obtain ⟨j,hj⟩:=List.getElem?_of_mem ha
 obtain ⟨_,_,_,_,e⟩:=g.pairs j a hj
 exact Heap.lt_size e
theorem ZG.snoc {xs ys:Array Value}{S n:Addr}{h h':Heap}{as:List Addr}{x y:Value}(g:ZG xs ys S h as)(hx:xs[as.length]?=some x)(hy:ys[as.length]?=some y)(hp:IsPair h' n x y)(hn:S < n)(hl:h.objs.size<=n)
  (up:∀ a o,S < a->h.get? a=some o->h'.get? a=some o):ZG xs ys S h' (as++[n]) where
 rise:=by
  simp only [List.pairwise_append,a2u,a0n,a0E]
  exact ⟨g.rise,by simp,fun a ha b hb=>hb.elim (fun e=>e ▸ a0f (g.there ha) hl) a05⟩
 above:=fun a ha=>by
  simp only [a0T,a0n,a0E,or_false] at ha
  exact ha.elim (g.above a) fun e=>e ▸ hn
 pairs:=fun j a e=>by
  rw [List.getElem?_append] at e
  split at e
  ·obtain ⟨u,v,e1,e2,e3⟩:=g.pairs j a e
   exact ⟨u,v,e1,e2,up a _ (g.above a (a03 e)) e3⟩
  ·have hj:j-as.length=0:=by
    by_cases hz:j-as.length=0
    ·exact hz
    ·rw [a09 (by simp; omega)] at e; cases e
   have hj':j=as.length:=by omega
   rw [hj] at e
   cases e
   exact ⟨x,y,hj' ▸ hx,hj' ▸ hy,hp⟩
noncomputable abbrev fu (xs:List Value)(c:Nat):Obj:={ cls:=.type "list",data:=.seq xs.toArray c }
noncomputable def Kp (S:Addr)(h h':Heap):Prop:=∀ b o,b≠S->h.get? b=some o->h'.get? b=some o
section
variable {prog:Program}{w:World}{A:Around}{E:Value->Shared->Prop}{s:Shared}{S it:Addr}{xs:List Value}{c:Nat}
theorem vV {f:Array Value->Array Value}{Q:Unit->Shared->Prop}(hS:s.heap.get? S=some (fu xs c))(h1:xs.length<=sizeLine)(h2:(f xs.toArray).size<=sizeLine+1)
  (q:∀ h' c',h'.get? S=some (fu (f xs.toArray).toList c')->Kp S s.heap h'->Q () { s with heap:=h' }):wpAny (model prog w) A (updateSeq S f) Q E s :=
 wpAny_updateSeq hS rfl (q _ _ (Heap.get?_update_self (Obj.mapSeq f) hS rfl) fun _ _ hb e=>by rw [Heap.get?_update_other _ _ hb.symm]; exact e) h1 h2
theorem CT {J J':List Value->Heap->Prop}{N:Nat}{R:Result->Shared->Prop}{res:Value}(hN:N<=sizeLine)(keep:∀ vs h h',J vs h->Kp S h h'->J vs h')
  (next:∀ vs (h:Heap) (Q:Option Value->Shared->Prop) (E:Value->Shared->Prop),J vs h->vs.length < N->S < h.objs.size->(∀ v h',J (vs++[v]) h'->(∀ o,h.get? S=some o->h'.get? S=some o)->Q (some v) { s with heap:=h' })->wpAny (model prog w) A.in1 (pyNext (.ref it)) Q E { s with heap:=h })
  (stop:∀ vs (h:Heap) (Q:Option Value->Shared->Prop) (E:Value->Shared->Prop),J vs h->vs.length=N->(∀ h',J' vs h'->(∀ o,h.get? S=some o->h'.get? S=some o)->Q none { s with heap:=h' })->wpAny (model prog w) A.in1 (pyNext (.ref it)) Q E { s with heap:=h })
  (hR:∀ vs h c,vs.length=N->J' vs h->h.get? S=some (fu vs c)->R (.ok (.ret res)) { s with heap:=h }) (vs:List Value) (h:Heap) (c:Nat) (hl:vs.length<=N) (j:J vs h) (hS:h.get? S=some (fu vs c)) :
  codeAny (model prog w) A (.builtin "list.extend.loop" ⟨[.ref S,.ref it,res],[]⟩) R { s with heap:=h }:=by
 apply codeAny_builtin PySem.F.entry_extend_loop
 rw [Around.under_plainId a1R]
 by_cases hn:vs.length=N
 ·exact wpAny_bind (stop vs h _ _ j hn fun g j' e=>wpAny_pure (hR vs g c hn j' (e _ hS)))
 ·refine wpAny_bind (next vs h _ _ j (by omega) (Heap.lt_size hS) fun v g j' e=>wpAny_bind (vV (f:=(·.push v)) (s:={ s with heap:=g }) (e _ hS) (by omega) (by simp; omega) fun g' c' hg kg=>wpAny_pure ⟨plainId_quiet a1R _,?_⟩))
  rw [show (vs.toArray.push v).toList=vs++[v] by simp] at hg
  exact CT hN keep next stop hR (vs++[v]) g' c' (by simp; omega) (keep _ _ _ j' kg) hg
termination_by N-vs.length
decreasing_by simp; omega
theorem zl {T:String}{room:Bool}{Q:Value->Shared->Prop}(hT:s.TypeIs (.ref it) T)(hl:(Value.type T==Value.type "list")=false)(ht:(Value.type T==Value.type "tuple")=false)
  (self:∀ (h:Heap) (Q:Value->Shared->Prop) (E:Value->Shared->Prop),(∀ o,s.heap.get? it=some o->h.get? it=some o)->Q (.ref it) { s with heap:=h }->wpAny (model prog w) A.in1.in1 (pyIter (.ref it)) Q E { s with heap:=h })
  (look:∀ (h:Heap) (Q:Bool->Shared->Prop) (E:Value->Shared->Prop),(∀ o,s.heap.get? it=some o->h.get? it=some o)->Q room { s with heap:=h }->wpAny (model prog w) A.in1.in1 (Builtin.List.listLengthHint (.ref it)) Q E { s with heap:=h })
  (go:∀ (h:Heap) (c:Nat),(∀ b o,s.heap.get? b=some o->h.get? b=some o)->h.get? s.heap.objs.size=some (fu [] c) ->
   codeAny (model prog w) A.in1 (.builtin "list.extend.loop" ⟨[.ref s.heap.objs.size,.ref it,.none],[]⟩) (wants (fun r s'=>r=.none/\Q (.ref s.heap.objs.size) s') E) { s with heap:=h }) :
  wpAny (model prog w) A (call (.type "list") [.ref it]) Q E s:=by
 obtain ⟨oi,hi,ci⟩:=hT
 have lt:it < s.heap.objs.size:=Heap.lt_size hi
 apply callType_codes (Q₁:=fun v s'=>v=.ref s.heap.objs.size/\s'={ s with heap:=s.heap.push (fu [] 0) }) PySem.F.called_list (PySem.F.typeCall_list_1 _) PySem.F.entry_list_init (code_list_new _ ⟨rfl,rfl⟩)
 rintro _ _ ⟨rfl,rfl⟩
 have new:(s.heap.push (fu [] 0)).get? s.heap.objs.size=some (fu [] 0):=Heap.get?_push_size _ rfl
 have old:∀ b o,s.heap.get? b=some o->(s.heap.push (fu [] 0)).get? b=some o:=fun b o e=>Heap.get?_push_of_some _ e
 refine ⟨⟨_,new,rfl⟩,PySem.F.args_list_init_2 _ _,wpAny_bind (wpAny_bind (wpAny_seqItems new rfl (wpAny_pure ?_)))⟩
 refine wpAny_bind (vV (s:={ s with heap:=s.heap.push (fu [] 0) }) (f:=fun _=>#[]) new (a0O _) (a0O _) fun g c1 n1 k1=>wpAny_bind (wpAny_letGo ?_))
 have old1:∀ b o,s.heap.get? b=some o->g.get? b=some o:=fun b o e=>k1 b o (a0u (Heap.lt_size e)) (old b o e)
 refine wpAny_bind (wpAny_typeOf (T:=T) ⟨oi,old1 _ _ hi,ci⟩ ?_)
 rw [if_neg (by simp [Builtin.List.listSameRef,hl,ht]; exact fun e=>absurd e (a04 lt))]
 refine wpAny_bind (self g _ _ (old1 it) (wpAny_bind (wpAny_holding (look g _ _ (old1 it) ?_))))
 have uA:∀ h c,Kp s.heap.objs.size g h->h.get? s.heap.objs.size=some (fu [] c)->codeAny (model prog w) A.in1 (.builtin "list.extend.loop" ⟨[.ref s.heap.objs.size,.ref it,.none],[]⟩) (wants (fun r s'=>r=.none/\Q (.ref s.heap.objs.size) s') E) { s with heap:=h } :=
  fun h c k n=>go h c (fun b o e=>k b o (a0u (Heap.lt_size e)) (old1 b o e)) n
 have fin:∀ h c,Kp s.heap.objs.size g h->h.get? s.heap.objs.size=some (fu [] c)->wpAny (model prog w) A.in1.in1 (again (.builtin "list.extend.loop" ⟨[.ref s.heap.objs.size,.ref it,.none],[]⟩))
   (fun fin s'=>match fin with | .done f=>wants (fun r s'=>r=.none/\Q (.ref s.heap.objs.size) s') E (.ok f) s' | .again c'=>c'.quiet=true/\codeAny (model prog w) A.in1 c' (wants (fun r s'=>r=.none/\Q (.ref s.heap.objs.size) s') E) s')
   (fun e s'=>wants (fun r s'=>r=.none/\Q (.ref s.heap.objs.size) s') E (.error e) s') { s with heap:=h }:=fun h c k n=>wpAny_pure ⟨plainId_quiet a1R _,uA h c k n⟩
 refine wpAny_ite_split (fun _=>wpAny_bind (wpAny_rule (wpAny_bind (wpAny_bind (vV (s:={ s with heap:=g }) (f:=(·.push .none)) n1 (a0O _) (by simp) fun g2 c2 n2 k2=>?_))))) fun _=>fin g c1 (fun _ _ _ e=>e) n1
 refine vV (s:={ s with heap:=g2 }) (f:=(·.pop)) n2 (show 1<=sizeLine by decide) (by simp) fun g3 c3 n3 k3=>?_
 exact fin g3 c3 (fun b o hb e=>k3 b o hb (k2 b o hb e)) n3
end
section
variable {prog:Program}{w:World}{A:Around}{E:Value->Shared->Prop}{s:Shared}{z TI TO i1 i2 a1 a2 S:Addr}{k1 k2:Bool}{xs ys:Array Value}
theorem vD {i:Nat}{x y:Value}{Q:Option Value->Shared->Prop}(D:ZipApart z TI TO i1 i2 a1 a2)(hb:∀ b∈[z,TI,TO,i1,i2,a1,a2],b < S)(hS:S < s.heap.objs.size)(st:ZX z TI TO i1 i2 k1 k2 a1 a2 S i s.heap)(q1:SqO s.heap k1 a1 xs)(q2:SqO s.heap k2 a2 ys)(hx:xs[i]?=some x)(hy:ys[i]?=some y)
  (q:∀ h',ZX z TI TO i1 i2 k1 k2 a1 a2 S (i+1) h'->IsPair h' s.heap.objs.size x y->h'.objs.size=s.heap.objs.size+1->(∀ c o,c ∉ [z,TO,i1,i2]->s.heap.get? c=some o->h'.get? c=some o)->Q (some (.ref s.heap.objs.size)) { s with heap:=h' }) :
  wpAny (model prog w) A (pyNext (.ref z)) Q E s:=by
 obtain ⟨hI,h1,h2,hz⟩:=st
 rcases hz with ⟨hz,a,b,hO⟩ | ⟨p,f,op,hz,hp,hSp⟩
 ·refine fK D hz hI hO h1 h2 q1 q2 hx hy fun h' y1 y2 y3 y4 y5 y6 y7=>?_
  refine q h' ⟨y7 _ _ D.TIz D.TITO D.TIi1 D.TIi2 hI,y3,y4,.inr ⟨_,false,_,y1,y5,hS⟩⟩ y5 y6 fun c o hc e=>?_
  simp only [a0n,a0E,or_false,not_or] at hc
  exact y7 c o hc.1 hc.2.1 hc.2.2.1 hc.2.2.2 e
 ·have pz:∀ b∈[z,TI,TO,i1,i2,a1,a2],p≠b:=fun b h=>a04 (a24 (hb b h) hSp)
  refine lH D hz hp hI h1 h2 q1 q2 hx hy fun h' y1 y3 y4 y5 y6 y7=>?_
  refine q h' ⟨y7 _ _ D.TIz D.TIi1 D.TIi2 hI,y3,y4,.inr ⟨p,true,op,y1,y7 p op (pz _ (by simp)) (pz _ (by simp)) (pz _ (by simp)) hp,hSp⟩⟩ y5 y6 fun c o hc e=>?_
  simp only [a0n,a0E,or_false,not_or] at hc
  exact y7 c o hc.1 hc.2.2.1 hc.2.2.2 e
theorem ux {i:Nat}{Q:Option Value->Shared->Prop}(hh:A.handled=none)(D:ZipApart z TI TO i1 i2 a1 a2)(st:ZX z TI TO i1 i2 k1 k2 a1 a2 S i s.heap)(q1:SqO s.heap k1 a1 xs)(q2:SqO s.heap k2 a2 ys)(hend:xs[i]?=none\/ys[i]?=none)
  (q:∀ h',(∀ c o,c ∉ [z,TO,i1,i2]->s.heap.get? c=some o->h'.get? c=some o)->Q none { s with heap:=h' }):wpAny (model prog w) A (pyNext (.ref z)) Q E s:=by
 obtain ⟨hI,h1,h2,hz⟩:=st
 rcases hz with ⟨hz,a,b,hO⟩ | ⟨p,f,op,hz,hp,hSp⟩
 ·refine ig hh D hz hI hO h1 h2 q1 q2 hend fun h' y7=>q h' fun c o hc e=>?_
  simp only [a0n,a0E,or_false,not_or] at hc
  exact y7 c o hc.1 hc.2.1 hc.2.2.1 hc.2.2.2 e
 ·refine mR hh D hz hp hI h1 h2 q1 q2 hend fun h' y7=>q h' fun c o hc e=>?_
  simp only [a0n,a0E,or_false,not_or] at hc
  exact y7 c o hc.1 hc.2.2.1 hc.2.2.2 e
theorem ZX.keep {i:Nat}{h h':Heap}(st:ZX z TI TO i1 i2 k1 k2 a1 a2 S i h)(hb:∀ b∈[z,TI,TO,i1,i2,a1,a2],b < S)(hk:Kp S h h'):ZX z TI TO i1 i2 k1 k2 a1 a2 S i h':=by
 have pz:∀ b∈[z,TI,TO,i1,i2,a1,a2],∀ o,h.get? b=some o->h'.get? b=some o:=fun b m o e=>hk b o (a0u (hb b m)) e
 obtain ⟨hI,h1,h2,hz⟩:=st
 refine ⟨pz _ (by simp) _ hI,h1.at fun o e=>pz _ (by simp) o e,h2.at fun o e=>pz _ (by simp) o e,hz.imp ?_ ?_⟩
 ·rintro ⟨hz,a,b,hO⟩
  exact ⟨pz _ (by simp) _ hz,a,b,pz _ (by simp) _ hO⟩
 ·rintro ⟨p,f,op,hz,hp,hSp⟩
  exact ⟨p,f,op,pz _ (by simp) _ hz,hk _ _ (a04 hSp) hp,hSp⟩
noncomputable def ZJ (z TI TO i1 i2:Addr)(k1 k2:Bool)(a1 a2 S:Addr)(xs ys:Array Value)(h₁:Heap)(vs:List Value)(h:Heap):Prop :=
 ∃ as,vs=as.map Value.ref/\ZX z TI TO i1 i2 k1 k2 a1 a2 S as.length h/\SqO h k1 a1 xs/\SqO h k2 a2 ys/\ZG xs ys S h as/\∀ b o,b≠S->b ∉ [z,TO,i1,i2]->h₁.get? b=some o->h.get? b=some o
noncomputable def ZE (z TO i1 i2 S:Addr)(xs ys:Array Value)(h₁:Heap)(vs:List Value)(h:Heap):Prop :=
 ∃ as,vs=as.map Value.ref/\ZG xs ys S h as/\∀ b o,b≠S->b ∉ [z,TO,i1,i2]->h₁.get? b=some o->h.get? b=some o
theorem vI {Q:Value->Shared->Prop}(hh:A.handled=none)(D:ZipApart z TI TO i1 i2 a1 a2)(hb:∀ b∈[z,TI,TO,i1,i2,a1,a2],b < s.heap.objs.size)(hn:min xs.size ys.size<=sizeLine)
  (hz:IsZip s.heap z TI TO .none) (hI:IsPair s.heap TI (.ref i1) (.ref i2)) (hO:∃ a b,IsPair s.heap TO a b) (h1:ItO s.heap k1 i1 a1 0) (h2:ItO s.heap k2 i2 a2 0) (q1:SqO s.heap k1 a1 xs) (q2:SqO s.heap k2 a2 ys)
  (hQ:∀ h' tk acc c as,(∀ b o,b ∉ [z,TO,i1,i2]->s.heap.get? b=some o->h'.get? b=some o)->h'.get? s.heap.objs.size=some { cls:=.type "list",dict:=none,data:=.seq acc c,slots:=#[] }->as.length=min xs.size ys.size->ZG xs ys s.heap.objs.size h' as ->
   acc.toList=as.map Value.ref->Q (.ref s.heap.objs.size) { s with heap:=h',toks:=tk }) :
  wpAny (model prog w) A (call (.type "list") [.ref z]) Q E s:=by
 obtain ⟨ta,tb,hO⟩:=hO
 have zt:∀ h:Heap,(∀ o,s.heap.get? z=some o->h.get? z=some o)->({ s with heap:=h }:Shared).TypeIs (.ref z) "zip":=fun h k=>⟨_,k _ hz,rfl⟩
 have sub:∀ b,b∈[z,TO,i1,i2]->b < s.heap.objs.size:=fun b m=>hb b (by simp only [a0n] at m ⊢; rcases m with e | e | e | e | e<;>simp_all)
 have nS:s.heap.objs.size ∉ [z,TO,i1,i2]:=fun m=>a0N _ (sub _ m)
 have nP:∀ b,s.heap.objs.size < b->b ∉ [z,TO,i1,i2]:=fun b g m=>Nat.lt_asymm g (sub b m)
 have n1:a1 ∉ [z,TO,i1,i2]:=by simp [D.l1z,D.l1TO,D.l1i1,D.l1i2]
 have n2:a2 ∉ [z,TO,i1,i2]:=by simp [D.l2z,D.l2TO,D.l2i1,D.l2i2]
 have kS:∀ {h h':Heap},(∀ c o,c ∉ [z,TO,i1,i2]->h.get? c=some o->h'.get? c=some o)->∀ o,h.get? s.heap.objs.size=some o->h'.get? s.heap.objs.size=some o:=fun k o e=>k _ o nS e
 refine zl (T:="zip") (room:=true) (zt _ fun _ e=>e) (by decide) (by decide) (fun h Q' E' k q'=>wpAny_pyIter_zip (k _ hz) q') (fun h Q' E' k q'=>?_) fun h c k hl=>?_
 ·unfold Builtin.List.listLengthHint
  exact wpAny_bind (wpAny_specialOf (zt h k) kE (wpAny_bind (wpAny_specialOf (zt h k) j8 (wpAny_pure q'))))
 ·refine CT (N:=min xs.size ys.size) (J:=ZJ z TI TO i1 i2 k1 k2 a1 a2 s.heap.objs.size xs ys s.heap) (J':=ZE z TO i1 i2 s.heap.objs.size xs ys s.heap) hn ?_ ?_ ?_ ?_ [] h c (a0O _) ?_ hl
  ·rintro vs g g' ⟨as,e,st,p1,p2,zg,r⟩ kp
   refine ⟨as,e,st.keep hb kp,p1.at fun o e=>kp _ o (a0u (hb _ (by simp))) e,p2.at fun o e=>kp _ o (a0u (hb _ (by simp))) e,⟨zg.rise,zg.above,fun j a hj=>?_⟩,fun b o nb nm e=>kp b o nb (r b o nb nm e)⟩
   obtain ⟨x,y,e1,e2,e3⟩:=zg.pairs j a hj
   exact ⟨x,y,e1,e2,kp a _ (a04 (zg.above a (a03 hj))) e3⟩
  ·rintro vs g Q' E' ⟨as,rfl,st,p1,p2,zg,r⟩ lt hs q'
   rw [a0b] at lt
   obtain ⟨x,hx⟩:∃ x,xs[as.length]?=some x:=⟨_,a2A (by omega)⟩
   obtain ⟨y,hy⟩:∃ y,ys[as.length]?=some y:=⟨_,a2A (by omega)⟩
   refine vD (s:={ s with heap:=g }) (S:=s.heap.objs.size) D hb hs st p1 p2 hx hy fun g' st' pr sz kk=>q' (.ref g.objs.size) g' ⟨as++[g.objs.size],by simp,?_,p1.at fun o e=>kk _ o n1 e,p2.at fun o e=>kk _ o n2 e,?_,fun b o nb nm e=>kk b o nm (r b o nb nm e)⟩ (kS kk)
   ·rw [a0e]; exact st'
   ·exact zg.snoc hx hy pr hs (a0d _) fun a o la e=>kk a o (nP a la) e
  ·rintro vs g Q' E' ⟨as,rfl,st,p1,p2,zg,r⟩ eq q'
   rw [a0b] at eq
   refine ux (s:={ s with heap:=g }) (A:=A.in1.in1) (S:=s.heap.objs.size) hh D st p1 p2 (by rw [a2q,a2q]; omega) fun g' kk=>q' g' ⟨as,rfl,⟨zg.rise,zg.above,fun j a hj=>?_⟩,fun b o nb nm e=>kk b o nm (r b o nb nm e)⟩ (kS kk)
   obtain ⟨x,y,e1,e2,e3⟩:=zg.pairs j a hj
   exact ⟨x,y,e1,e2,kk a _ (nP a (zg.above a (a03 hj))) e3⟩
  ·rintro vs g c' len ⟨as,rfl,zg,r⟩ hS
   exact ⟨rfl,hQ g s.toks _ c' as (fun b o nb e=>r b o (a0u (Heap.lt_size e)) nb e) hS (by simpa using len) zg (by simp)⟩
  ·exact ⟨[],rfl,⟨k _ _ hI,h1.at fun o e=>k _ o e,h2.at fun o e=>k _ o e,.inl ⟨k _ _ hz,ta,tb,k _ _ hO⟩⟩,q1.at fun o e=>k _ o e,q2.at fun o e=>k _ o e,⟨.nil,by simp,by simp⟩,fun b o _ _ e=>k b o e⟩
end
end L3
namespace L3
open PySem PySem.Spec PyProof.Rows L2
section
variable {X:Cx}{pins:List (Addr×Obj)}{σ:L2.St}{H H':Hp}{s:Shared}{h':Heap}
theorem pG {t':Nat}(I:Inv X pins σ H s)(k:∀ b u,s.heap.get? b=some u->h'.get? b=some u)(hm:∀ b o,H b=some o->H' b=some o)(hn:∀ b,H b=none->b < s.heap.objs.size->H' b=none)
  (hok:∀ b u,H b=none->H' b=some u->ObjOk X.prog X.w H' h' b u):Inv X pins σ H' { s with heap:=h',toks:=t' }:=by
 refine I.un ⟨fun b ob q _ _ _=>k b ob q,fun b ob q _ _ _=>⟨ob.slots,k b ob q⟩,fun b o q n _=>hn b n (Heap.lt_size q),fun b ob q _=>⟨ob,k b ob q⟩,fun b xs q=>hm b _ q,fun b o u q=>hm b _ q,fun b ps q=>⟨#[],by rw [hm b _ q]; simp⟩⟩ fun b u e=>?_
 cases hb:H b with
 | none=>exact hok b u hb e
 | some o =>
  rw [hm b o hb] at e
  cases e
  exact (I.hok b _ hb).stay (fun c v _ q=>k c v q) (fun c q=>hm c _ q) fun c xs q=>hm c _ q
noncomputable def fw:Hp->List Addr->List V->List V->Hp
 | H,p::ps,x::xs,y::ys=>fw (upd H p (.tup [x,y])) ps xs ys
 | H,_,_,_=>H
theorem cO:∀ {ps:List Addr} {xs ys:List V} {H:Hp} {b:Addr},b ∉ ps->fw H ps xs ys b=H b
 | [],_,_,_,_,_=>by simp [fw]
 | p::ps,[],_,_,_,_=>by simp [fw]
 | p::ps,_::_,[],_,_,_=>by simp [fw]
 | p::ps,x::xs,y::ys,H,b,hb=>by
  rw [a0n,not_or] at hb
  show fw (upd H p (.tup [x,y])) ps xs ys b=_
  rw [cO hb.2,ag hb.1]
theorem ji:∀ {ps:List Addr} {xs ys:List V} {H:Hp} {j:Nat} {p:Addr},ps.Pairwise (· < ·)->ps.length<=xs.length->ps.length<=ys.length->ps[j]?=some p->∃ x y,xs[j]?=some x/\ys[j]?=some y/\fw H ps xs ys p=some (.tup [x,y])
 | [],_,_,_,_,_,_,_,_,h=>by simp at h
 | p::ps,[],_,_,_,_,_,h1,_,_=>by simp at h1
 | p::ps,_::_,[],_,_,_,_,_,h1,_=>by simp at h1
 | p::ps,x::xs,y::ys,H,0,q,hp,_,_,h=>by
  cases h
  refine ⟨x,y,rfl,rfl,?_⟩
  show fw (upd H p (.tup [x,y])) ps xs ys p=_
  rw [cO (fun hm=>a0N _ ((a2u.mp hp).1 p hm)),aj]
 | p::ps,x::xs,y::ys,H,j+1,q,hp,h1,h2,h=>by
  obtain ⟨x',y',e1,e2,e3⟩:=ji (H:=upd H p (.tup [x,y])) (a2u.mp hp).2 (a2W h1) (a2W h2) (show ps[j]?=some q from h)
  exact ⟨x',y',e1,e2,e3⟩
noncomputable def tLZ (K:a0a)(ta:TA):TE:=fun σ H Q=>ta σ H fun vs H1=>∃ k1 k2 a1 a2 xs ys,vs=[.ref a1,.ref a2]/\Sq K H1 k1 a1 xs/\Sq K H1 k2 a2 ys/\∀ l ps,ps.length=min xs.length ys.length->ps.Pairwise (· < ·)->(∀ p∈ps,H1 p=none/\l < p)->H1 l=none->Q (.ref l) (upd (fw H1 ps xs ys) l (.lst (ps.map V.ref)))
theorem hU:∀ ps:List Addr,Vals (ps.map V.ref) (ps.map Value.ref)
 | []=>.nil
 | _::ps=>.cons rfl (hU ps)
theorem CV {a b:Expr}{ta:TA}{p p2 pos pos2:Pos}(hc:X.calm=true)(hgl:Gl X "list")(hml:X.mg "list"=none)(hg:Gl X "zip")(hm:X.mg "zip"=none)(ha:PA X [a,b] ta)
  (hs:starEach [a,b] X.env=[(false,eval a X.env),(false,eval b X.env)]:=by rfl) (hs2:starEach [b] X.env=[(false,eval b X.env)]:=by rfl)
  (he:starEach [.Call (.Name "zip" p2) [a,b] [] pos2] X.env=(false,eval (.Call (.Name "zip" p2) [a,b] [] pos2) X.env)::starEach [] X.env:=by rfl) :
  PE X (.Call (.Name "list" p) [.Call (.Name "zip" p2) [a,b] [] pos2] [] pos) (tLZ X.K ta):=by
 intro pins s σ H Q I h
 refine wpAny_Call_Name_kw (dU I hgl hml a0J ?_ (by decide) (by decide))
 refine a1c ?_ he rfl
 rw [he]
 refine Calls.spliced_cons ?_
 refine Call_ (dU I hg hm boot_zip (a1c (thn (ha pos2 pins s σ H _ I h) fun us s1 ⟨vs,H1,I1,r1,q1⟩=>?_) (by rw [hs,hs2]) (by rw [hs2]; rfl)))
 obtain ⟨k1,k2,a1,a2,xs,ys,rfl,s1',s2',q⟩:=q1
 cases r1 with
 | cons r rr =>
  cases rr with
  | cons r' rr =>
   cases rr
   cases r
   cases r'
   obtain ⟨its1,v1,o1,z1⟩:=kj I1 s1'
   obtain ⟨its2,v2,o2,z2⟩:=kj I1 s2'
   refine mG o1 o2 fun h1 q1 q2 q3 q4 q5 kk=>Calls.spliced_nil ?_
   have D:=zipApart_new o1.lt o2.lt
   have lt1:=o1.lt
   have lt2:=o2.lt
   have zlt:s1.heap.objs.size+4 < h1.objs.size:=Heap.lt_size q1
   have l1:=v1.length
   have l2:=v2.length
   refine vI (s:={ s1 with heap:=h1 }) (I.ok.hd hc) D (fun b hb=>?_) ?_ q1 q2 ⟨_,_,q3⟩ q4 q5 (o1.at fun o e=>kk _ o e) (o2.at fun o e=>kk _ o e) fun h' tk acc c as hk hS hl hG hacc=>?_
   ·simp only [a0n,a0E,or_false] at hb
    rcases hb with e | e | e | e | e | e | e<;>rw [e]
    ·exact zlt
    ·exact a1j (a2k (by decide) _) zlt
    ·exact a1j (a2k (by decide) _) zlt
    ·exact a1j (a0U _ _) zlt
    ·exact a1j (a2k (by decide) _) zlt
    ·exact a0f lt1 (a0o (a0U _ _) (a1A zlt))
    ·exact a0f lt2 (a0o (a0U _ _) (a1A zlt))
   ·simp; omega
   ·have hl':as.length=min xs.length ys.length:=by rw [hl]; simp; omega
    have kall:∀ b u,s1.heap.get? b=some u->h'.get? b=some u:=fun b u e=>by
     have hlt:b < s1.heap.objs.size:=Heap.lt_size e
     refine hk b u (fun hm=>?_) (kk b u e)
     simp only [a0n,a0E,or_false] at hm
     rcases hm with z | z | z | z
     ·rw [z] at hlt; exact absurd (a0U _ 4) (a2Q hlt)
     ·rw [z] at hlt; exact absurd (a0U _ 3) (a2Q hlt)
     ·rw [z] at hlt; exact a0N _ hlt
     ·rw [z] at hlt; exact absurd (a0U _ 1) (a2Q hlt)
    have hge:s1.heap.objs.size<=h1.objs.size:=a0o (a0U _ _) (a1A zlt)
    have fre:∀ b,h1.objs.size<=b->H1 b=none:=fun b hb=>I1.hok.fresh (a0o hge hb)
    have hl1:h1.objs.size ∉ as:=fun hm=>a0N _ (hG.above _ hm)
    refine ⟨.ref h1.objs.size,upd (fw H1 as xs ys) h1.objs.size (.lst (as.map V.ref)),pG (s:=s1) I1 (t':=tk) kall (fun b o e=>?_) (fun b e hlt=>?_) (fun b u e e'=>?_),rfl,q _ as hl' hG.rise (fun p hp=>⟨fre p (a1A (hG.above p hp)),hG.above p hp⟩) (fre _ (a0d _))⟩
    ·have hb:b ∉ as:=fun hm=>by rw [fre b (a1A (hG.above b hm))] at e; cases e
     rw [ag (fun z=>by rw [z,fre _ (a0d _)] at e; cases e),cO hb]; exact e
    ·have hb:b ∉ as:=fun hm=>a0N _ (a24 (a0f hlt hge) (hG.above b hm))
     rw [ag (a0u (a0f hlt hge)),cO hb]; exact e
    ·by_cases hb:b=h1.objs.size
     ·subst hb
      rw [aj] at e'
      cases e'
      refine ⟨?_,acc.toList,c,by rw [hacc]; exact hU as,by rw [a29]; exact hS⟩
      rw [a0b,hl']; omega
     ·rw [ag hb] at e'
      by_cases hm:b∈as
      ·obtain ⟨j,hj⟩:=List.mem_iff_getElem?.mp hm
       obtain ⟨x,y,e1,e2,e3⟩:=ji (H:=H1) (xs:=xs) (ys:=ys) hG.rise (by omega) (by omega) hj
       rw [e3] at e'
       cases e'
       obtain ⟨u1,u2,f1,f2,f3⟩:=hG.pairs j b hj
       obtain ⟨w1,g1,t1⟩:=v1.get e1
       obtain ⟨w2,g2,t2⟩:=v2.get e2
       have g1':its1.toArray[j]?=some w1:=by simpa using g1
       have g2':its2.toArray[j]?=some w2:=by simpa using g2
       rw [g1'] at f1
       rw [g2'] at f2
       cases f1
       cases f2
       exact ⟨by show 2<=sizeLine; decide,[_,_],.cons t1 (.cons t2 .nil),⟨_,f3,rfl,_,rfl⟩⟩
      ·rw [cO hm,e] at e'; cases e'
end
end L3

namespace L3
open PySem PySem.Spec PyProof.Rows L2
theorem dy:∀ {ns:List Int} {us:List Value},Vals (ns.map V.int) us->IntsAre us ns
 | [],_,.nil=>.nil
 | n::ns,_,.cons ⟨t,e⟩ r=>by cases e; exact .cons n t (dy r)
end L3
namespace L3
open PySem PySem.Spec PyProof.Rows L2
noncomputable abbrev we (h:Heap)(T:Addr)(a b c:Value):Prop:=h.get? T=some { cls:=.type "tuple",data:=.seq #[a,b,c] }
end L3
namespace L3
open PySem PySem.Spec PyProof.Rows L2
noncomputable def Z3 (n a1 a2 a3:Nat)(i:Nat)(h:Heap):Prop :=
 IsZip h (n+5) (n+3) (n+4) .none/\we h (n+3) (.ref n) (.ref (n+1)) (.ref (n+2))/\(∃ a b c,we h (n+4) a b c)/\ItO h false n a1 i/\ItO h false (n+1) a2 i/\ItO h false (n+2) a3 i
end L3

namespace L3
open PySem PySem.Spec PyProof.Rows L2
noncomputable abbrev VE:List Value:=[.type "ValueError",.type "Exception",.type "BaseException",.type "object"]
structure fE (h:Heap)(C N:Addr)(up:List Value)(names:Str->Option Value):Prop where
 obj:∃ nm q bs hd sn sub ab col dd k0 k1 k2 k3 k5,h.get? C=some (excClassObj nm q C N bs up hd sn sub ab col dd k0 k1 k2 k3 k5 "ValueError.__new__")
 ns:h.Ns N names
section
variable {prog:Program}{w:World}{h:Heap}{A:Around}{g:Array GenState}{d:Drawn}{t:Nat}{os:OsState}{E:Value->Shared->Prop}
theorem ot {C N fI:Addr}{up us:List Value}{names:Str->Option Value}{oI:Obj}{Q:Value->Shared->Prop}(c:fE h C N up names)(T:OwnTail h VE up)
  (hi:names "__init__"=some (.ref fI)) (hf:h.get? fI=some oI) (hc:oI.cls=.type "function") (hl:us.length<=sizeLine)
  (k:∀ h',Heap.MadeExcOf h h' (h.objs.size+1) (.ref C) us->wpAny (model prog w) (A.under (.builtin "type.__call__" ⟨.ref C::us,[]⟩)) (call (.ref fI) (.ref (h.objs.size+1)::us)) (fun r s'=>r=.none/\Q (.ref (h.objs.size+1)) s') E ⟨h',g,d,t,os⟩) :
  wpAny (model prog w) A (call (.ref C) us) Q E ⟨h,g,d,t,os⟩:=by
 obtain ⟨⟨nm,q,bs,hd,sn,sub,ab,col,dd,k0,k1,k2,k3,k5,hC⟩,hn⟩:=c
 have B:=a2r
 have l1:=tc_lookup
 have l2:=tc_bind (.ref C)
 have ty:(⟨h,g,d,t,os⟩:Shared).TypeIs (.ref C) "type":=⟨_,hC,rfl⟩
 refine wpAny_call (codeAny_of_tree ?_)
 show wpAny _ _ (callAny (.ref C) _) _ _ _
 repeat (any_goals (first | with_reducible refine wpAny_loadPart_at hC ?_ | assumption | wp_step))
 refine ⟨rfl,codeAny_call_builtin_at (Code.quiet_builtin _ (by decide +kernel)) entry_typeCall (wpAny_check_type_call_sub hC ?_)⟩
 repeat (first | with_reducible refine wpAny_madeBy_exc hC ?_ | with_reducible refine wpAny_loadPart_at hC ?_ | wp_step)
 refine codeAny_call_builtin_code (Code.quiet_builtin _ B.quiet) (wpAny_check_new_subU B B.hasB T hC ?_)
 refine codeAny_exc_new_subU B B.hasB B T hC ?_ hl
 show wpAny _ _ _ _ _ (⟨(h.push { cls:=.type "tuple",data:=.seq us.toArray }).push { cls:=.ref C,data:=.fields #[.ref h.objs.size,.none,.none,.none,.bool false,.none] },g,d,t,os⟩:Shared)
 generalize hG:(h.push { cls:=.type "tuple",data:=.seq us.toArray }).push { cls:=.ref C,data:=.fields #[.ref h.objs.size,.none,.none,.none,.bool false,.none] }=G
 have old:∀ b o,h.get? b=some o->G.get? b=some o:=fun b o z=>by rw [<- hG]; exact Heap.get?_push_of_some _ (Heap.get?_push_of_some _ z)
 have new:G.get? (h.objs.size+1)=some { cls:=.ref C,data:=.fields #[.ref h.objs.size,.none,.none,.none,.bool false,.none] }:=by rw [<- hG]; heap_get
 have tup:G.get? h.objs.size=some { cls:=.type "tuple",data:=.seq us.toArray }:=by rw [<- hG]; exact Heap.get?_push_of_some _ (Heap.get?_push_at rfl rfl)
 have own:(Value.ref C::up).contains (.ref C)=true:=by simp
 have hCG:=old _ _ hC
 unfold isInstance
 repeat (first | with_reducible refine wpAny_loadPart_at new ?_ | (with_reducible refine wpAny_isSubtype_exc hCG ?_; rw [own]) | wp_step)
 show wpAny _ _ (typeLookup (.ref C) _) _ _ _
 refine wpAny_typeLookup_tail hCG (hn.keeps old) (T.keeps old) B.mroIs B.init.lookup ?_
 rw [hi]
 refine wpAny_holding (wpAny_bind ?_)
 unfold bindSpecial
 refine wpAny_bind (wpAny_typeOf (T:="function") ⟨_,old _ _ hf,hc⟩ ?_)
 rw [if_pos (by decide)]
 refine wpAny_pure (wpAny_bind (wpAny_mono (k G ⟨old,Heap.get?_none_of_le (a3H _),h.objs.size,new,Heap.get?_none_of_le (a0d _),tup⟩) (fun r s' hr=>?_) fun _ _ x=>x))
 obtain ⟨rfl,hQ⟩:=hr
 wp_walk
 exact hQ
noncomputable def dD:List Value->Bool
 | .ref _::r=>dD r
 | l=>l==VE
theorem gW (self:Value):∀ {l:List Value},dD l=true->refuseLoop self "__setattr__" l=pure ()
 | .ref c::r,q=>by rw [refuseLoop_ref]; exact gW self q
 | [],q=>by cases q
 | .type n::r,q=>by rw [show Value.type n::r=VE from beq_iff_eq.mp q]; kernel_rfl
 | .none::r,q=>by cases (show Value.none::r=VE from beq_iff_eq.mp q)
 | .bool _::r,q=>by cases (show _::r=VE from beq_iff_eq.mp q)
 | .int _ _::r,q=>by cases (show _::r=VE from beq_iff_eq.mp q)
 | .float _ _::r,q=>by cases (show _::r=VE from beq_iff_eq.mp q)
 | .str _ _::r,q=>by cases (show _::r=VE from beq_iff_eq.mp q)
 | .bytes _ _::r,q=>by cases (show _::r=VE from beq_iff_eq.mp q)
 | .builtin _::r,q=>by cases (show _::r=VE from beq_iff_eq.mp q)
 | .ellipsis::r,q=>by cases (show _::r=VE from beq_iff_eq.mp q)
 | .notImplemented::r,q=>by cases (show _::r=VE from beq_iff_eq.mp q)
end
section
variable {prog:Program}{w:World}{A:Around}{E:Value->Shared->Prop}{s:Shared}{K:a0a}
theorem ug {e C:Addr}{oe:Obj}{vs:Array Value}{name:Str}{v:Value}{Q:Unit->Shared->Prop}(X:K.In s.heap)(he:s.heap.get? e=some oe)(hc:oe.cls=.ref C)(hd:oe.dict=none)(hf:oe.data=.fields vs)
  (hs:a0D K (.ref C) "__setattr__"=some (some (.builtin "object.__setattr__"))) (hp:(a1L K C).any (fun cd=>dD cd.mro)=true) (ht:a2l K C name=some none) (hh:a1g K C=true)
  (h:∀ h',h'.get? e=some { oe with dict:=some s.heap.objs.size }->h'.Ns1 s.heap.objs.size (fun y=>if y=name then some v else none)->(∀ b o,b≠e->s.heap.get? b=some o->h'.get? b=some o)->Q () { s with heap:=h',toks:=s.toks+2 }) :
  wpAny (model prog w) A (setAttr (.ref e) name v) Q E s:=by
 have J:a1u s.heap e oe C none:=⟨he,hc,by unfold a3e; rw [hf],by rw [hd]; trivial⟩
 have SF:=PySem.F.store_object
 refine PySem.W.set_plain X J hs ?_
 obtain ⟨cd,kc,ku⟩:=a1G hp
 have top:cd.mro.contains (.type "object")=true:=by
  have:∀ l:List Value,dD l=true->l.contains (.type "object")=true:=by
   intro l
   induction l with
   | nil=>intro q; cases q
   | cons v r ih =>
    intro q
    by_cases z:(∃ a,v=.ref a)
    ·obtain ⟨a,rfl⟩:=z
     rw [a1k,ih q,a0K]
    ·have:v::r=VE:=by
      cases v with
      | ref a=>exact absurd ⟨a,rfl⟩ z
      | _=>exact beq_iff_eq.mp q
     rw [this]; decide +kernel
  exact this _ ku
 have ne:cd.mro.isEmpty=false:=by cases q:cd.mro with | nil=>rw [q] at top; cases top | cons _ _=>rfl
 have sub:a3n (model prog w) s.heap (isInstance (.ref e) (.type "object")) true:=J.type.andThen (PySem.W.looks_mroIn X (by unfold a11; rw [kc,a2R,if_neg (by rw [ne]; decide),top]))
 refine codeAny_call_builtin SF.slot.plain SF.entry (@a3o (model prog w) _ _ { s with toks:=s.toks+1 } "object.__setattr__" "object" "__setattr__" (.ref e) [.str name s.toks,v] [] _ SF.kind SF.split sub (SF.args (.ref e) (.str name s.toks) v) ?_)
 obtain ⟨attr,ha,hr⟩:=(Option.bind_eq_some_iff).1 ht
 have taker:a3n (model prog w) s.heap (Builtin.ObjectAttr.storeTaker? attr) none:=by
  cases attr with
  | none=>exact .now
  | some a =>
   obtain ⟨b,hb,z⟩:=Option.map_eq_some_iff.mp hr
   refine (PySem.W.looks_takesIn X hb).andThen ?_
   cases b with
   | false=>exact .now
   | true=>cases z
 have hm:a3n (model prog w) s.heap (mroOf (.ref C)) cd.mro:=(a3h X kc).andThen .now
 rw [PySem.W.osa_eq,refuse_eq]
 refine wpAny_bind (wpAny_bind (a0Z (s:={ s with toks:=s.toks+1 }) J.type (wpAny_bind (a0Z (s:={ s with toks:=s.toks+1 }) hm ?_))))
 rw [gW _ ku]
 refine wpAny_pure (wpAny_bind (a0Z (s:={ s with toks:=s.toks+1 }) J.type (wpAny_bind (a0Z (s:={ s with toks:=s.toks+1 }) (a3a X ha) (wpAny_bind (a0Z (s:={ s with toks:=s.toks+1 }) taker ?_))))))
 obtain ⟨cd',kc',kd⟩:=a1G hh
 obtain ⟨c,di,da,sl⟩:=oe
 dsimp only at hc hd hf
 subst hc hd hf
 refine wpAny_bind (wpAny_pure (wpAny_bind (wpAny_bind (wpAny_loadPart he (wpAny_bind (a0Z (s:={ s with toks:=s.toks+1 }) (a3h X kc') ?_))))))
 rw [kd]
 have e1:(s.heap.push a19).get? e=some _:=Heap.get?_push_of_some _ he
 refine wpAny_bind (wpAny_alloc (wpAny_bind (wpAny_update e1 ?_)))
 show wpAny _ _ (pure (some s.heap.objs.size)) _ _ _
 refine wpAny_pure ?_
 generalize hG:(s.heap.push a19).update e (fun o=>{ cls:=o.cls,dict:=some s.heap.objs.size,data:=o.data,slots:=o.slots })=G
 have ng:s.heap.objs.size≠e:=a04 (Heap.lt_size he)
 have g1:G.get? e=some { cls:=.ref C,dict:=some s.heap.objs.size,data:=.fields vs,slots:=sl }:=by rw [<- hG]; exact Heap.get?_update_self _ e1 rfl
 have g2:G.get? s.heap.objs.size=some a19:=by rw [<- hG,Heap.get?_update_other _ _ (a1w ng)]; exact Heap.get?_push_size s.heap rfl
 have g3:∀ b o,b≠e->s.heap.get? b=some o->G.get? b=some o:=fun b o hb z=>by rw [<- hG,Heap.get?_update_other _ _ (a1w hb)]; exact Heap.get?_push_of_some _ z
 have g4:G.Ns1 s.heap.objs.size (fun _=>none):=Heap.Ns1.of_empty ⟨a19,#[],_,g2,rfl,(fun e he=>absurd he (by simp)),fun _=>rfl⟩
 show wpAny _ _ (Builtin.ObjectAttr.storeInDict s.heap.objs.size (.str name s.toks) name v) _ _ (⟨G,s.gens,s.drawn,s.toks+1,s.os⟩:Shared)
 refine wpAny_bind (wpAny_pure (wpAny_bind (wpAny_nsSet1 (s:=⟨G,s.gens,s.drawn,s.toks+1,s.os⟩) g4 fun h' n2 s2=>?_)))
 obtain ⟨oD,esD,epD,hoD,hdD,hcD⟩:=n2.count (a4b (ns:=[]) name v fun _ q=>absurd rfl q)
 refine wpAny_bind (wpAny_lookBehind hoD (by rw [hdD]; exact pastItsLine_dict (a0o hcD (by rw [sizeLine_eq]; simp))) ?_)
 exact wpAny_pure (h h' ((s2.2 _ (a1w ng)).trans g1) n2 fun b o hb z=>(s2.2 b (fun q=>by rw [q] at z; exact absurd (Heap.lt_size z) (a0N _))).trans (g3 b o hb z))
theorem oR {e C N:Addr}{oe:Obj}{vs:Array Value}{up us:List Value}{names:Str->Option Value}{Q:Value->Shared->Prop}(c:fE s.heap C N up names)(T:OwnTail s.heap VE up)(he:s.heap.get? e=some oe)(hc:oe.cls=.ref C)(hf:oe.data=.fields vs){t0:Addr}(h0:vs[0]?=some (.ref t0))
  (hl:us.length<=sizeLine) (h:∀ h',h'.get? e=some (Obj.mapFields (·.setIfInBounds 0 (.ref s.heap.objs.size)) oe)->(∀ b o,b≠e->s.heap.get? b=some o->h'.get? b=some o)->Q .none { s with heap:=h' }) :
  wpAny (model prog w) A (call (.builtin "ValueError.__init__") (.ref e::us)) Q E s:=by
 obtain ⟨⟨nm,q,bs,hd,sn,sub,ab,col,dd,k0,k1,k2,k3,k5,hC⟩,hn⟩:=c
 obtain ⟨hp,g,d,t,os⟩:=s
 have B:=a2r
 have he':hp.get? e=some oe:=he
 refine wpAny_call (codeAny_call_builtin B.init.plain B.initEntry (wpAny_check_init_subU B T hC he hc ?_))
 have e1:=Heap.get?_push_of_some (h:=hp) { cls:=.type "tuple",data:=.seq us.toArray } he'
 unfold Builtin.«BaseException.__init__»
 wp_walk
 rw [hf]
 refine wpAny_pure ?_
 rw [h0]
 refine wpAny_pure ?_
 wp_walk
 rw [hf]
 dsimp only
 rw [if_pos (a0S.mp h0).1]
 refine wpAny_update e1 ?_
 have ng:hp.objs.size≠e:=a04 (Heap.lt_size he')
 have g1:((hp.push { cls:=.type "tuple",data:=.seq us.toArray }).update e (Obj.mapFields (·.setIfInBounds 0 (.ref hp.objs.size)))).get? e=some (Obj.mapFields (·.setIfInBounds 0 (.ref hp.objs.size)) oe):=Heap.get?_update_self _ e1 (Obj.isFreed_of_fields (Obj.data_mapFields hf _))
 wp_walk
 exact h _ g1 fun b o hb z=>by rw [Heap.get?_update_other _ _ (a1w hb)]; exact Heap.get?_push_of_some _ z
end
noncomputable def Tb (h:Heap)(e:Addr)(vs:Array Value):Prop :=
 vs[1]?=some .none\/∃ T oT ts,vs[1]?=some (.ref T)/\T≠e/\h.get? T=some oT/\oT.data=.fields ts/\ts[3]?=some .none
structure ik (fr:List Addr)(h h':Heap)(e:Addr)(oe:Obj)(vs:Array Value)(fl:Value):Prop where
 ex:∃ T oT ts,h'.get? e=some (Obj.mapFields (·.setIfInBounds 1 (.ref T)) oe)/\h.objs.size<=T/\h'.get? T=some oT/\oT.data=.fields ts/\ts[3]?=some fl
 keep:∀ b o,h.get? b=some o->b≠e->b ∉ fr->h'.get? b=some o
 slot:∀ b o,h.get? b=some o->b∈fr->∃ sl,h'.get? b=some { o with slots:=sl }
 there:∀ b o,h.get? b=some o->∃ o',h'.get? b=some o'
theorem fS (a:Addr):(Value.ref a != Value.none)=true:=by simp
theorem r9 (a:Addr):¬ ((Value.none==rawInt a)=true):=by simp [rawInt]
theorem v8 {o:Obj}{ts:Array Value}(hd:o.data=.fields ts)(h3:ts[3]?=some .none):Obj.mapFields (·.setIfInBounds 3 Value.none) o=o:=by
 obtain ⟨a,b,c,d⟩:=o
 cases hd
 show ({ cls:=a,dict:=b,data:=.fields (ts.setIfInBounds 3 .none),slots:=d }:Obj)=_
 congr 2
 obtain ⟨hl,he⟩:=a0S.mp h3
 apply Array.ext
 ·simp
 ·intro i h1 h2
  rw [Array.getElem_setIfInBounds]
  split
  ·rename_i z; subst z; exact he.symm
  ·rfl
section
variable {M:Model}{s:Shared}{A:Around}{E:Value->Shared->Prop}
theorem ko {base:Heap}{env:Env}{outer:List Env}{L e:Addr}{oe:Obj}{vs:Array Value}{head:Value}{had:Bool}{Q:Unit->Shared->Prop}(hfr:A.frames=some (env::outer))(hl:s.heap.FunFrames base (env::outer))(hf:env.frame=some L)
  (he:s.heap.get? e=some oe) (hd:oe.data=.fields vs) (h1:1 < vs.size)
  (k:∀ h',(∃ T oT ts,h'.get? e=some (Obj.mapFields (·.setIfInBounds 1 (.ref T)) oe)/\s.heap.objs.size<=T/\h'.get? T=some oT/\oT.data=.fields ts/\ts[3]?=some (rawInt L)) ->
   (∀ b o,s.heap.get? b=some o->b≠e->b ∉ (env::outer).filterMap (·.frame)->h'.get? b=some o)->(∀ b o,s.heap.get? b=some o->b∈(env::outer).filterMap (·.frame)->∃ sl,h'.get? b=some { o with slots:=sl })->Q () { s with heap:=h' }) :
  wpAny M A (do let a <- frameOf env; let pl <- entryPlaceOf L had; let b <- EntryCells.newEntry head a .none (rawInt L) .none pl; setField (.ref e) 1 b) Q E s:=by
 have ne:e ∉ (env::outer).filterMap (·.frame):=fun z=>by
  obtain ⟨_,o,q,n⟩:=hl.mem z
  rw [he] at q; cases q; exact n vs hd
 refine wpAny_bind (wpAny_frameOf_fun hfr hl hf fun g1 z1=>wpAny_bind (wpAny_entryPlaceOf fun pl hpl=>?_))
 unfold EntryCells.newEntry newFields
 refine wpAny_bind (wpAny_newObj_type ?_ (IsPlace.sizeOk5 hpl _ _ _ _ _))
 have q1:g1.get? e=some oe:=(z1.2.1 e ne).trans he
 have sz:s.heap.objs.size<=g1.objs.size:=a35 z1.1.symm
 generalize hr:({ cls:=.type "traceback",dict:=none,data:=.fields ([head,.ref L,.none,rawInt L,.none]++(if pl.isEmpty then a0h 6 Value.none else pl)).toArray }:Obj)=rec
 have q2:=Heap.get?_push_of_some (h:=g1) rec q1
 have ng:g1.objs.size≠e:=a04 (Heap.lt_size q1)
 refine wpAny_setField (o:=oe) q2 hd h1 (k _ ⟨g1.objs.size,rec,_,Heap.get?_update_self _ q2 (Obj.isFreed_of_fields (Obj.data_mapFields hd _)),sz,?_,by rw [<- hr],?_⟩ ?_ ?_)
 ·rw [Heap.get?_update_other _ _ (a1w ng)]
  exact Heap.get?_push_size g1 (by rw [<- hr]; rfl)
 ·first | (simp; done) | (rcases hpl with rfl | ⟨_,_,_,_,_,_,_,rfl⟩<;>simp)
 ·intro b o q hb hn
  rw [Heap.get?_update_other _ _ (a1w hb)]
  exact Heap.get?_push_of_some _ ((z1.2.1 b hn).trans q)
 ·intro b o q hb
  obtain ⟨sl,z⟩:=z1.2.2 b o q
  refine ⟨sl,?_⟩
  rw [Heap.get?_update_other _ _ (fun z:e=b=>ne (by rw [z]; exact hb))]
  exact Heap.get?_push_of_some _ z
theorem ml {base:Heap}{env:Env}{outer:List Env}{L e:Addr}{oe:Obj}{vs:Array Value}{Q:Unit->Shared->Prop}(hfr:A.frames=some (env::outer))(hl:s.heap.FunFrames base (env::outer))(hf:env.frame=some L)
  (he:s.heap.get? e=some oe) (hd:oe.data=.fields vs) (ht:Tb s.heap e vs) (k:∀ h',ik ((env::outer).filterMap (·.frame)) s.heap h' e oe vs (rawInt L)->Q () { s with heap:=h' }) :
  wpAny M A (noteFrame (.ref e) env) Q E s:=by
 have nf:∀ b o,s.heap.get? b=some o->(∃ us,o.data=.fields us)->b ∉ (env::outer).filterMap (·.frame):=fun b o q ⟨us,n⟩ z=>by
  obtain ⟨_,o',q',n'⟩:=hl.mem z
  rw [q] at q'; cases q'; exact n' us n
 unfold noteFrame
 simp only [hf]
 rcases ht with h1 | ⟨T,oT,ts,h1,hT,hq,hdT,h3⟩
 ·refine wpAny_bind (wpAny_field he hd h1 ?_)
  rw [if_neg (by decide)]
  refine ko hfr hl hf he hd (a0S.mp h1).1 fun h' x1 x2 x3=>k h' ⟨x1,x2,x3,fun b o q=>?_⟩
  by_cases hb:b=e
  ·obtain ⟨_,_,_,z,_⟩:=x1; exact ⟨_,hb ▸ z⟩
  ·by_cases hn:b∈(env::outer).filterMap (·.frame)
   ·obtain ⟨sl,z⟩:=x3 b o q hn; exact ⟨_,z⟩
   ·exact ⟨o,x2 b o q hb hn⟩
 ·refine wpAny_bind (wpAny_field he hd h1 ?_)
  rw [if_pos (fS T)]
  refine wpAny_bind (wpAny_field hq hdT h3 ?_)
  rw [if_neg (r9 L)]
  refine wpAny_bind (wpAny_setField hq hdT (a0S.mp h3).1 ?_)
  have oth:∀ b,b≠T->(s.heap.update T (Obj.mapFields (·.setIfInBounds 3 Value.none))).get? b=s.heap.get? b:=fun b hb=>Heap.get?_update_other _ _ (a1w hb)
  have at_T:(s.heap.update T (Obj.mapFields (·.setIfInBounds 3 Value.none))).get? T=some oT:=by
   rw [Heap.get?_update_self (Obj.mapFields (·.setIfInBounds 3 Value.none)) hq (Obj.isFreed_of_fields (Obj.data_mapFields hdT _)),v8 hdT h3]
  have all:∀ b o,s.heap.get? b=some o->(s.heap.update T (Obj.mapFields (·.setIfInBounds 3 Value.none))).get? b=some o:=fun b o q=>by
   by_cases z:b=T
   ·rw [z] at q ⊢; rw [hq] at q; cases q; exact at_T
   ·exact (oth b z).trans q
  have nT:∀ b o,s.heap.get? b=some o->(∀ us,o.data≠.fields us)->b≠T:=fun b o q n z=>by rw [z,hq] at q; cases q; exact n ts hdT
  have sz:(s.heap.update T (Obj.mapFields (·.setIfInBounds 3 Value.none))).objs.size=s.heap.objs.size:=by simp [Heap.update]
  refine ko (s:={ s with heap:=s.heap.update T (Obj.mapFields (·.setIfInBounds 3 Value.none)) }) hfr (hl.of_keeps fun b o q n=>⟨o,(oth b (nT b o q n)).trans q,rfl⟩) hf ((oth e (a1w hT)).trans he) hd (a0S.mp h1).1 fun h' x1 x2 x3=>k h' ⟨?_,?_,?_,?_⟩
  ·obtain ⟨T',o',t',y1,y2,y3⟩:=x1
   exact ⟨T',o',t',y1,by rw [<- sz]; exact y2,y3⟩
  ·intro b o q hb hn
   exact x2 b o (all b o q) hb hn
  ·intro b o q hb
   exact x3 b o (all b o q) hb
  ·intro b o q
   by_cases hb:b=e
   ·obtain ⟨_,_,_,z,_⟩:=x1; exact ⟨_,hb ▸ z⟩
   ·by_cases hn:b∈(env::outer).filterMap (·.frame)
    ·obtain ⟨sl,z⟩:=x3 b o (all b o q) hn; exact ⟨_,z⟩
    ·exact ⟨o,x2 b o (all b o q) hb hn⟩
theorem mD {fr:List Addr}{h0:Heap}{e:Addr}{oe:Obj}{vs:Array Value}{fl:Value}{Q:Unit->Shared->Prop}(hd:oe.data=.fields vs)(h1:1 < vs.size)(he:e < h0.objs.size)(hfr:∀ b∈fr,b < h0.objs.size)(n:ik fr h0 s.heap e oe vs fl)
  (k:∀ h',ik fr h0 h' e oe vs .none->Q () { s with heap:=h' }):wpAny M A (setFlight (.ref e) none) Q E s:=by
 obtain ⟨⟨T,oT,ts,y1,y2,y3,y4,y5⟩,n2,n3,n4⟩:=n
 have hd':=Obj.data_mapFields hd (·.setIfInBounds 1 (Value.ref T))
 unfold setFlight
 refine wpAny_bind (wpAny_field y1 hd' (x:=.ref T) (by simp [h1]) ?_)
 rw [if_pos (fS T)]
 have oth:∀ b,b≠T->(s.heap.update T (Obj.mapFields (·.setIfInBounds 3 ((none:Option Addr).elim Value.none fun f=>rawInt f)))).get? b=s.heap.get? b:=fun b hb=>Heap.get?_update_other _ _ (a1w hb)
 have hz:3 < ts.size:=(a0S.mp y5).1
 have low:∀ b o,h0.get? b=some o->b≠T:=fun b o q z=>absurd (Heap.lt_size q) (by rw [z]; exact Nat.not_lt.mpr y2)
 refine wpAny_setField y3 y4 hz (k _ ⟨⟨T,_,_,(oth e (a0u (a0f he y2))).trans y1,y2,Heap.get?_update_self _ y3 (Obj.isFreed_of_fields (Obj.data_mapFields y4 _)),Obj.data_mapFields y4 _,by simp [hz]⟩,?_,?_,?_⟩)
 ·intro b o q hb hn
  exact (oth b (low b o q)).trans (n2 b o q hb hn)
 ·intro b o q hb
  obtain ⟨sl,z⟩:=n3 b o q hb
  exact ⟨sl,(oth b (low b o q)).trans z⟩
 ·intro b o q
  obtain ⟨o',z⟩:=n4 b o q
  exact ⟨o',(oth b (low b o q)).trans z⟩
theorem qV {base:Heap}{env:Env}{outer:List Env}{L e:Addr}{oe:Obj}{vs:Array Value}{Q:Unit->Shared->Prop}(hfr:A.frames=some (env::outer))(hl:s.heap.FunFrames base (env::outer))(hf:env.frame=some L)
  (he:s.heap.get? e=some oe) (hd:oe.data=.fields vs) (h1:1 < vs.size) (ht:Tb s.heap e vs) (k:∀ h',ik ((env::outer).filterMap (·.frame)) s.heap h' e oe vs .none->Q () { s with heap:=h' }) :
  wpAny M A (leaving env (.ref e)) Q E s:=by
 unfold leaving
 refine wpAny_bind (ml hfr hl hf he hd ht fun h' n=>mD (s:={ s with heap:=h' }) hd h1 (Heap.lt_size he) (fun b z=>?_) n fun h'' n'=>k h'' n')
 obtain ⟨_,o,q,_⟩:=hl.mem z
 exact Heap.lt_size q
end
noncomputable def XOk (a C:Addr)(od:Option Addr)(n:Bool)(h:Heap):Prop:=∃ o vs t0,h.get? a=some o/\o.cls=.ref C/\o.dict=od/\o.data=.fields vs/\vs[0]?=some (.ref t0)/\1 < vs.size/\(n=true->vs[1]?=some .none)
noncomputable abbrev XO (a C:Addr)(od:Option Addr)(n:Bool):HO:=.ext (XOk a C od n)
theorem XOk.stay {a C:Addr}{od:Option Addr}{n:Bool}{h h':Heap}(x:XOk a C od n h)(k:∀ o,h.get? a=some o->h'.get? a=some o):XOk a C od n h' :=
 let ⟨o,vs,t0,e,r⟩:=x; ⟨o,vs,t0,k o e,r⟩
theorem XOk.ok {P:Program}{w:World}{H:Hp}{a C:Addr}{od:Option Addr}{n:Bool}{h:Heap}(x:XOk a C od n h):ObjOk P w H h a (XO a C od n) :=
 ⟨x,let ⟨o,_,_,e,_⟩:=x; ⟨o,e⟩,fun _ _ y k=>y.stay k⟩
noncomputable def Tr (lo:Nat)(H:Hp)(h:Heap)(a:Addr):Prop:=∃ oe vs,h.get? a=some oe/\oe.data=.fields vs /\
 (vs[1]?=some .none\/∃ T oT ts,vs[1]?=some (.ref T)/\T≠a/\h.get? T=some oT/\oT.data=.fields ts/\ts[3]?=some .none/\lo<=T/\H T=none)
noncomputable def CX1 (P:Program)(w:World):CXT:=fun outer H s E e s'=>∃ a C od H',e=.ref a/\s'.os=s.os/\AllBare s'.gens/\Un (frs outer) [] H H' s.heap s'.heap/\HOk P w H' s'.heap/\H' a=some (XO a C od false)/\Tr s.heap.objs.size H' s'.heap a/\E (.ref a) none H'
section
variable {P:Program}{w:World}{H:Hp}{h h':Heap}{a C:Addr}{od:Option Addr}{n:Bool}
theorem HOk.touch (ok:HOk P w H h)(ha:H a=some (XO a C od n))(k:∀ b u o,H b=some o->b≠a->h.get? b=some u->h'.get? b=some u)(x:XOk a C od n h'):HOk P w H h':=fun b o e=>by
 by_cases hb:b=a
 ·subst hb; rw [ha] at e; cases e; exact x.ok
 ·refine (ok b o e).stay (fun c u hc q=>?_) (fun _ z=>z) fun _ _ z=>z
  rcases hc with rfl | hc
  ·exact k c u o e hb q
  ·exact k c u _ hc (fun z=>by subst z; rw [ha] at hc; cases hc) q
end
theorem qg {P:Program}{w:World}{K:a0a}{mg:Str->Option Value}{base:Heap}{N:List Str}{qual:Str}{scope:Scope}{f:Addr}{cd:Value}{A:Around}{outer:List Env}{s s':Shared}{H H':Hp}{E:XK}{pins:List (Addr×Obj)}{σ:L2.St}{a C:Addr}{od:Option Addr}
  (I:Inv (cZ (CX1 P w) P w K mg base N qual scope f cd A outer s H E) pins σ H' s') (ha:H' a=some (XO a C od false)) (t:Tr s.heap.objs.size H' s'.heap a) (q:E (.ref a) none H') :
  (cZ (CX1 P w) P w K mg base N qual scope f cd A outer s H E).xe (.ref a) s':=by
 obtain ⟨oe,vs,e1,e2,e3⟩:=t
 obtain ⟨⟨o,ws,t0,x1,x2,x3,x4,x5,x6,-⟩,-,-⟩:=I.hok a _ ha
 rw [e1] at x1; cases x1
 rw [e2] at x4; cases x4
 have hst:=I.stack
 have hfr:=I.ok.frames
 have free:=I.stkFree
 have na:a ∉ frs (envOfC qual scope s.heap.objs.size f cd::outer):=fun z=>by rw [free a z] at ha; cases ha
 show wpAny _ _ (leaving _ (.ref a)) _ _ _
 refine qV hfr hst rfl e1 e2 x6 ?_ fun h' n=>?_
 ·rcases e3 with z | ⟨T,oT,ts,y1,y2,y3,y4,y5,_⟩
  ·exact .inl z
  ·exact .inr ⟨T,oT,ts,y1,y2,y3,y4,y5⟩
 obtain ⟨⟨T',oT',ts',z1,z2,z3,z4,z5⟩,n2,n3,n4⟩:=n
 have hd':=Obj.data_mapFields e2 (·.setIfInBounds 1 (Value.ref T'))
 have low:s.heap.objs.size<=s'.heap.objs.size:=I.sz
 have xk:XOk a C od false h':=⟨_,_,t0,z1,by rw [Obj.cls_mapFields]; exact x2,by rw [<- x3]; obtain ⟨_,_,_,_⟩:=oe; cases e2; rfl,hd',by rw [a1y (by decide)]; exact x5,by rw [a1X]; exact x6,fun z=>by cases z⟩
 refine ⟨a,C,od,H',rfl,I.os,I.bare,?_,?_,ha,⟨_,_,z1,hd',.inr ⟨T',oT',ts',by simp [x6],?_,z3,z4,z5,a0o low z2,I.hok.fresh z2⟩⟩,q⟩
 ·have U:Un (frs outer) [] H H' s.heap s'.heap:=I.base
  refine ⟨fun b o e hb hn hx=>?_,fun b o e hb hm hx=>?_,U.free,fun b o e hx=>?_,U.tups,U.frzs,U.tbls⟩
  ·have g:=U.keep b o e hb hn hx
   refine n2 b o g (fun z=>?_) fun z=>?_
   ·have:=U.free b o e hb hx; rw [z,ha] at this; cases this
   ·obtain ⟨v,hv,hf⟩:=a1r.mp z
    rcases a0n.mp hv with rfl | hv
    ·have:s.heap.objs.size=b:=a0w hf
     exact absurd (Heap.lt_size e) (by rw [this]; exact a0N _)
    ·exact hn (a1r.mpr ⟨v,hv,hf⟩)
  ·obtain ⟨sl,g⟩:=U.slot b o e hb hm hx
   obtain ⟨v,hv,hf⟩:=a1r.mp hm
   obtain ⟨sl',g'⟩:=n3 b _ g (a1r.mpr ⟨v,a0c _ hv,hf⟩)
   exact ⟨sl',g'⟩
  ·obtain ⟨o',g⟩:=U.there b o e hx
   exact n4 b o' g
 ·refine HOk.touch I.hok ha (fun b u o hb hne g=>n2 b u g hne fun z=>?_) xk
  rw [free b z] at hb; cases hb
 ·exact fun z=>absurd (Heap.lt_size e1) (by rw [<- z]; exact Nat.not_lt.mpr z2)
structure XC (K:a0a)(C f:Addr)(up:List Value):Prop where
 ok:∀ h,K.In h->∃ N names,fE h C N up names/\OwnTail h VE up/\names "__init__"=some (.ref f)
 fn:∀ h,K.In h->∃ o,h.get? f=some o/\o.cls=.type "function"
 kp:a1b K (.ref C)=true
 sa:a0D K (.ref C) "__setattr__"=some (some (.builtin "object.__setattr__"))
 po:(a1L K C).any (fun cd=>dD cd.mro)=true
 hd:a1g K C=true
section
variable {X:Cx}{pins:List (Addr×Obj)}{σ:L2.St}{H:Hp}{s:Shared}{a C f:Addr}{od:Option Addr}{n:Bool}{up:List Value}{A:Around}{E:Value->Shared->Prop}{fld:Str}
theorem XOk.weak {h:Heap}(x:XOk a C od n h):XOk a C od false h:=let ⟨o,vs,t0,e,e1,e2,e3,e4,e5,_⟩:=x; ⟨o,vs,t0,e,e1,e2,e3,e4,e5,fun z=>by cases z⟩
theorem Inv.xweak (I:Inv X pins σ H s)(e:H a=some (XO a C od n)):Inv X pins σ (upd H a (XO a C od false)) s:=by
 have x:XOk a C od n s.heap:=(I.hok a _ e).1
 exact I.write (x:=a) (e:=a) (t':=s.toks) (by rw [e]; exact a0x) (.inl rfl) (fun _ _ _ z=>z) (let ⟨o,_,_,q,_⟩:=x; ⟨o,q⟩) x.weak.ok
theorem vC {y:V}{u:Value}{Q:Unit->Shared->Prop}(I:Inv X pins σ H s)(e:H a=some (XO a C none n))(c:XC X.K C f up)(ht:a2l X.K C fld=some none)(ry:RelV y u)
  (h:∀ dx s',H dx=none->dx≠a->Inv X pins σ (upd (upd H dx (.xd [(fld,y)])) a (XO a C (some dx) n)) s'->Q () s'):wpAny (model X.prog X.w) A (setAttr (.ref a) fld u) Q E s:=by
 obtain ⟨o,vs,t0,e0,e1,e2,e3,e4,e5,e6⟩:XOk a C none n s.heap:=(I.hok a _ e).1
 have lt:=Heap.lt_size e0
 refine ug I.kIn e0 e1 e2 e3 c.sa c.po ht c.hd fun h' x1 x2 x3=>h s.heap.objs.size _ (I.hok.fresh (a0d _)) (a04 lt) ?_
 obtain ⟨oD,es,ep,d1,d2,d3,d4,d5⟩:=x2
 have g1:(s.heap.push oD).get? s.heap.objs.size=some oD:=Heap.get?_push_size s.heap (by obtain ⟨_,_,_,_⟩:=oD; cases d2; rfl)
 have I1:=I.laid (a:=s.heap.objs.size) (o:=.xd [(fld,y)]) (h':=s.heap.push oD) (t':=s.toks) (fun b u q=>Heap.get?_push_of_some _ q) (a0d _) ⟨_,⟨oD,es,ep,g1,d2,d3,d4,d5⟩,fun g=>by
  show RelO (a2L g [(fld,y)]) (if g=fld then some u else none)
  by_cases q:g=fld
  ·rw [if_pos q,q]; simp [a2L]; exact ry
  ·rw [if_neg q]; unfold a2L; rw [show (g==fld)=false from beq_false_of_ne q]; exact a0x⟩
 have na:a≠s.heap.objs.size:=a0u lt
 refine I1.write (x:=a) (e:=a) (t':=s.toks+2) (by rw [ag na,e]; exact a0x) (.inl rfl) (fun b u hb q=>?_) ⟨_,x1⟩ (XOk.ok ⟨_,vs,t0,x1,e1,rfl,e3,e4,e5,e6⟩)
 by_cases hb2:b=s.heap.objs.size
 ·subst hb2
  have q':(s.heap.push oD).get? s.heap.objs.size=some u:=q
  rw [g1] at q'; cases q'; exact d1
 ·refine x3 b u hb ?_
  have q':(s.heap.push oD).get? b=some u:=q
  rcases Heap.get?_push_cases q' with z | z
  ·exact absurd z.1 hb2
  ·exact z
theorem ph {us:List Value}{Q:Value->Shared->Prop}(I:Inv X pins σ H s)(e:H a=some (XO a C od n))(c:XC X.K C f up)(hl:us.length<=sizeLine)
  (h:∀ s',Inv X pins σ H s'->Q .none s'):wpAny (model X.prog X.w) A (call (.builtin "ValueError.__init__") (.ref a::us)) Q E s:=by
 obtain ⟨o,vs,t0,e0,e1,e2,e3,e4,e5,e6⟩:XOk a C od n s.heap:=(I.hok a _ e).1
 obtain ⟨N,names,x,T,_⟩:=c.ok _ I.kIn
 refine oR x T e0 e1 e3 e4 hl fun h' x1 x2=>h _ ?_
 have hd':=Obj.data_mapFields e3 (·.setIfInBounds 0 (Value.ref s.heap.objs.size))
 have I1:=I.write (x:=a) (e:=a) (o:=XO a C od n) (h':=h') (t':=s.toks) (by rw [e]; exact a0x) (.inl rfl) x2 ⟨_,x1⟩ (XOk.ok ⟨_,_,s.heap.objs.size,x1,by rw [Obj.cls_mapFields]; exact e1,by rw [<- e2]; obtain ⟨_,_,_,_⟩:=o; cases e3; rfl,hd',by simp [a24 Nat.zero_lt_one e5],by rw [a1X]; exact e5,fun z=>by rw [a1y (by decide)]; exact e6 z⟩)
 have same:upd H a (XO a C od n)=H:=by
  funext b
  by_cases q:b=a
  ·rw [q,aj,e]
  ·rw [ag q]
 rw [same] at I1
 exact I1
end
structure XB (K:a0a)(B:Addr):Prop where
 ga:a1x K (.ref B) "__getattribute__"=some (some (.builtin "type.__getattribute__"))
 rd:PySem.W.readsIn K B (.type "type")=true
 at_:PySem.W.findCls K (.ref B) (.type "type") "__init__"=some (.val (.builtin "ValueError.__init__"))
section
variable {X:Cx}{x fld:Str}{p pos pos' apos:Pos}{e o value:Expr}{es:List Expr}{t:TA}{ta tv:TE}{B C f:Addr}{up:List Value}{k:Nat}{fd:FuncData}{ps:List Str}{sp:Sp}{CX:CXT}{E:XK}
theorem pD {pl:Sem Bool}(b:XB X.K B)(hg:Gl X x)(hm:X.mg x=some (.ref B))(ha:PA X (e::es) t)(hdb:(x==("__debug__":Str))=false:=by decide)
  (hst:starEach (e::es) X.env=(false,eval e X.env)::starEach es X.env:=by rfl) (hpl:(backTo pos (starEach es X.env)).any (·.1)=false:=by rfl)
  (ht:eval (.Call (.Attribute (.Name x p) "__init__" apos) (e::es) [] pos) X.env=(do
   let ov <- eval (.Name x p) X.env
   standAt apos.atName
   let (f,first) <- holding [ov] (getMethod ov "__init__" pl)
   callWith pos f first (backTo pos (starEach (e::es) X.env)) (backToKw pos (keywordEach [] X.env))):=by rfl) :
  PE X (.Call (.Attribute (.Name x p) "__init__" apos) (e::es) [] pos) fun σ H Q=>t σ H fun vs H1=>∃ a C od n ws f up,vs=.ref a::ws/\ws.length<=sizeLine/\H1 a=some (XO a C od n)/\XC X.K C f up/\Q .non H1:=by
 intro pins s σ H Q I h
 refine PySem.W.methodCall_KW (pl:=pl) (dz I hg hm ?_ hdb) ht
 refine PySem.W.method_cls I.kIn b.ga (PySem.W.cls_value I.kIn b.rd b.at_ (by decide +kernel) ?_)
 have I':=I.tok (s.toks+1)
 refine a2c (thn (ha pos pins _ σ H _ I' h) fun us s1 ⟨vs,H1,I1,r,a,C,od,n,ws,f,up,ev,hl,ea,c,q⟩=>?_) hst hpl
 subst ev
 cases r with
 | cons r1 r2 =>
  cases r1
  exact ph I1 ea c (by rw [<- r2.length]; exact hl) fun s' I2=>⟨.non,H1,I2,rfl,q⟩
theorem sR (ha:PE X o ta)(hv:PE X value tv)(hs:swapsWith value (some (.Attribute o fld pos')) pos.line X.env=pure false):PS X (.Assign [.Attribute o fld pos'] value pos)
  fun D σ H=>tv σ H fun y H1=>ta σ H1 fun x H2=>∃ a C n f up,x=.ref a/\H2 a=some (XO a C none n)/\XC X.K C f up/\a2l X.K C fld=some none/\∀ dx,H2 dx=none->dx≠a->D.nx σ (upd (upd H2 dx (.xd [(fld,y)])) a (XO a C (some dx) n)):=by
 intro pins s σ H D I h
 refine plainObj_wpAny_Assign_Attribute (thn (hv pins s σ H _ I h) fun u s1 ⟨y,H1,I1,ry,q⟩=>thn (ha pins s1 σ H1 _ I1 q) fun ov s2 ⟨x,H2,I2,rx,a,C,n,f,up,ex,ea,c,tk,q2⟩=>?_) hs
 subst ex
 obtain rfl:ov=Value.ref a:=rx
 exact vC I2 ea c tk ry fun dx s3 h1 h2 I3=>⟨σ,_,I3,q2 dx h1 h2⟩
theorem nA {pins:List (Addr×Obj)}{σ:L2.St}{H:Hp}{s:Shared}{Q:VK}{us:List Value}{vs:List V}(c:XC X.K C f up)(F:FnOk X.prog X.w X.K X.mg X.base CX k f fd ps sp)(hr:Room (k+1) X.A)(hb:Binds X.K fd ps [])
  (hx:fT CX X E) (I:Inv X pins σ H s) (r:Vals vs us) (hl:vs.length<=sizeLine)
  (h:∀ a,H a=none->sp (.ref a::vs) (upd H a (XO a C none true)) (fun v H2=>v=.non/\Q (.ref a) H2) E) :
  wpAny (model X.prog X.w) X.A (call (.ref C) us) (EP X pins σ Q) X.xe s:=by
 obtain ⟨N,names,xc,T,hi⟩:=c.ok _ I.kIn
 obtain ⟨oI,hf,hc⟩:=c.fn _ I.kIn
 have hq:=h (s.heap.objs.size+1) (I.hok.fresh (a3H _))
 refine ot (t:=s.toks) (g:=s.gens) (d:=s.drawn) (os:=s.os) xc T hi hf hc (by rw [<- r.length]; exact hl) fun h' m=>?_
 obtain ⟨t0,m1,m2,m3⟩:=m.there
 have I1:=I.laid (a:=s.heap.objs.size+1) (o:=XO (s.heap.objs.size+1) C none true) (h':=h') (t':=s.toks) m.keeps (a3H _) (XOk.ok ⟨_,_,t0,m1,rfl,rfl,rfl,rfl,by simp,fun _=>rfl⟩)
 have r2:Vals (V.ref (s.heap.objs.size+1)::vs) (Value.ref (s.heap.objs.size+1)::us):=.cons rfl r
 have hn:(Value.ref (s.heap.objs.size+1)::us++[]).length=ps.length:=by
  rw [a0z,<- r2.length]
  exact F.len _ _ _ _ hq
 have bd:=hb { s with heap:=h' } (Value.ref (s.heap.objs.size+1)::us) I1.kIn hn
 rw [a0z] at bd
 refine wpAny_call (codeAny_mono (F.run _ X.stack _ _ ⟨Value.ref (s.heap.objs.size+1)::us,[]⟩ (Value.ref (s.heap.objs.size+1)::us) _ _ E (hr.make C us []) (I1.env0.make C us []) bd r2 hq) fun r s' z=>?_)
 cases r with
 | error e=>exact hx pins σ _ _ e s' I1 z
 | ok fl =>
  cases fl with
  | ret u =>
   obtain ⟨v,H',I3,rv,ev,q3⟩:=I1.after z
   subst ev
   exact ⟨rv,⟨V.ref (s.heap.objs.size+1),H',I3,rfl,q3⟩⟩
  | next=>exact a05 z
  | brk=>exact a05 z
  | cont=>exact a05 z
theorem qw (c:XC X.K C f up)(F:FnOk X.prog X.w X.K X.mg X.base CX k f fd ps sp)(hr:Room (k+1) X.A)(hg:Gl X x)(hm:X.mg x=some (.ref C))(hb:Binds X.K fd ps [])(hx:fT CX X E)
  (ha:PA X (e::es) t) (hdb:(x==("__debug__":Str))=false:=by decide) (he:starEach (e::es) X.env=(false,eval e X.env)::starEach es X.env:=by rfl) (hpl:(backTo pos (starEach es X.env)).any (·.1)=false:=by rfl) :
  PE X (.Call (.Name x p) (e::es) [] pos) fun σ H Q=>t σ H fun vs H1=>vs.length<=sizeLine/\∀ a,H1 a=none->sp (.ref a::vs) (upd H1 a (XO a C none true)) (fun v H2=>v=.non/\Q (.ref a) H2) E:=by
 intro pins s σ H Q I h
 refine wpAny_Call_Name_kw (dz I hg hm ?_ hdb)
 refine a2s (h₀:=X.base) I.ok.mod.kin c.kp (thn (ha pos pins s σ H _ I h) fun us s1 ⟨vs,H1,I1,r,hl,q⟩=>⟨I1.kIn,?_⟩) he hpl
 exact nA c F hr hb hx I1 r hl q
end
section
variable {X:Cx}{lit:Str}{k:Nat}{p1 p2 pos:Pos}{e:Expr}{te:TE}
theorem vR (hl:lit.length<=1000)(he:PE X e te):PE X (.JoinedStr [.Constant (.str lit) k p1,.FormattedValue e (-1) none p2] pos) fun σ H Q=>te σ H fun v H1=>∃ n:Int,v=.int n/\n.natAbs.log2 < 1920/\∀ y,Q (.str y) H1:=by
 intro pins s σ H Q I h
 refine JoinedStr_many (joinParts_cons (Calls.Constant_str ⟨?_,joinParts_cons (FormattedValue_plain (thn (he pins _ σ H _ (I.tok _) h) fun u s1 ⟨v,H1,I1,r,n,ev,hn,q⟩=>?_))⟩))
 ·show (Str.empty++lit).length<=sizeLine
  rw [strLen_append,sizeLine_eq]
  show 0+lit.length<=_
  omega
 ·subst ev
  obtain ⟨t,rfl⟩:=r
  refine formatField_int_small hn ⟨?_,joinParts_nil ⟨.str _,H1,(I1.tok _).tok _,⟨_,rfl⟩,q _⟩ ?_⟩
  all_goals
   have z:=int_text_length_le (k:=1920) (by decide) hn
   rw [strLen_append,strLen_append,PySem.ofString_length,sizeLine_eq]
   have:Str.empty.length=0:=rfl
   omega
end
section
variable {M:Model}{s:Shared}{A:Around}{env:Env}{E:Value->Shared->Prop}
theorem mM {x:Sem Value}{Q:Flow->Shared->Prop}(hh:A.handled=none)
  (h:wpAny M A x (fun v s₁=>∃ e C N up names od vs sl,v=.ref e/\fE s₁.heap C N up names/\up.contains (.type "BaseException")=true/\s₁.heap.get? e=some { cls:=.ref C,dict:=od,data:=.fields vs,slots:=sl }/\vs[1]?=some .none/\E (.ref e) s₁) E s) :
  wpAny M A (raiseStmt env (some x) none) Q E s:=by
 unfold raiseStmt
 refine wpAny_bind (wpAny_mono h (fun v s₁ ⟨e,C,N,up,names,od,vs,sl,ev,c,hb,he,h1,hE⟩=>?_) fun _ _ x=>x)
 subst ev
 obtain ⟨⟨nm,q,bs,hd,sn,sub,ab,col,dd,k0,k1,k2,k3,k5,hC⟩,hn⟩:=c
 obtain ⟨hp,g,d,tk,os⟩:=s₁
 have up':(Value.ref C::up).contains (.type "BaseException")=true:=by rw [a1k,hb,a0K]
 repeat (first | with_reducible refine wpAny_loadPart_at he ?_ | with_reducible refine wpAny_loadPart_at hC ?_ | (with_reducible refine wpAny_isSubtype_exc hC ?_; rw [up']) | wp_step)
 rw [h1]
 refine wpAny_pure ?_
 rw [if_neg (by decide)]
 exact wpAny_pure (wpAny_raiseNew_none hh hE)
end
noncomputable def xw (X:Cx)(σ:L2.St):VK:=fun v H=>∀ (pins:List (Addr×Obj)) (s:Shared) (a C:Addr) (od:Option Addr),v=.ref a->H a=some (XO a C od false)->Inv X pins σ H s->Tr X.s₀.heap.objs.size H s.heap a->X.xe (.ref a) s
section
variable {X:Cx}{pos:Pos}{e:Expr}{te:TE}
theorem iO:∀ {l:List Value},dD l=true->l.contains (.type "BaseException")=true
 | .ref c::r,q=>by rw [a1k,iO (l:=r) q,a0K]
 | [],q=>by cases q
 | .type n::r,q=>by rw [show Value.type n::r=VE from beq_iff_eq.mp q]; decide +kernel
 | .none::r,q=>by cases (show Value.none::r=VE from beq_iff_eq.mp q)
 | .bool _::r,q=>by cases (show _::r=VE from beq_iff_eq.mp q)
 | .int _ _::r,q=>by cases (show _::r=VE from beq_iff_eq.mp q)
 | .float _ _::r,q=>by cases (show _::r=VE from beq_iff_eq.mp q)
 | .str _ _::r,q=>by cases (show _::r=VE from beq_iff_eq.mp q)
 | .bytes _ _::r,q=>by cases (show _::r=VE from beq_iff_eq.mp q)
 | .builtin _::r,q=>by cases (show _::r=VE from beq_iff_eq.mp q)
 | .ellipsis::r,q=>by cases (show _::r=VE from beq_iff_eq.mp q)
 | .notImplemented::r,q=>by cases (show _::r=VE from beq_iff_eq.mp q)
theorem qB (hc:X.calm=true)(he:PE X e te):PS X (.Raise (some e) none pos) fun D σ H=>te σ H fun v H1=>∃ a C od f up,v=.ref a/\H1 a=some (XO a C od true)/\XC X.K C f up/\dD up=true/\xw X σ (.ref a) (upd H1 a (XO a C od false)):=by
 intro pins s σ H D I h
 rw [arm_exec_Raise]
 refine wpAny_bind (wpAny_standAt ?_)
 refine mM (I.ok.hd hc) ?_
 show wpAny _ _ (do let v <- eval e X.env; standAt pos; pure v) _ _ _
 refine wpAny_bind (thn (he pins s σ H _ I h) fun u s1 ⟨v,H1,I1,r,a,C,od,f,up,ev,ea,c,hu,q⟩=>wpAny_bind (wpAny_standAt (wpAny_pure ?_)))
 subst ev
 obtain rfl:u=Value.ref a:=r
 obtain ⟨o,vs,t0,e0,e1,e2,e3,e4,e5,e6⟩:XOk a C od true s1.heap:=(I1.hok a _ ea).1
 obtain ⟨N,names,xc,_,_⟩:=c.ok _ I1.kIn
 obtain ⟨oc,oo,od',osl⟩:=o
 dsimp only at e1 e2 e3
 subst e1 e2 e3
 exact ⟨a,C,N,up,names,oo,vs,osl,rfl,xc,iO hu,e0,e6 rfl,q pins s1 a C oo rfl aj (Inv.xweak I1 ea) ⟨_,vs,e0,rfl,.inl (e6 rfl)⟩⟩
end
section
variable {X:Cx}{pins:List (Addr×Obj)}{σ:L2.St}{H:Hp}{s:Shared}{M:Model}{A:Around}{E:Value->Shared->Prop}{i:Nat}{x:Str}
theorem zZ {v:V}{Q:Unit->Shared->Prop}(I:Inv X pins σ H s)(hN:X.N.Nodup)(hi:X.N[i]?=some x)(hk:X.env.scope.names.lookup x=some .local)(hv:σ[i]?=some (some v))
  (h:∀ s',Inv X pins (σ.set i none) H s'->Q () s'):wpAny M A (deleteName X.env x) Q E s:=by
 obtain ⟨m,hn,hl⟩:=id I.loc
 have hcls:(X.env.scope.kind==.class || (X.env.scope.kind==.module&&X.env.locals != X.env.globals))=false:=by rw [I.ok.kind]; rfl
 have hko:X.env.kindOf x=some .local:=hk
 have hm:∃ u,m x=some u:=by
  obtain ⟨u,_,q⟩:=hl i x v hi hv (.inl hk)
  rcases q with ⟨_,q⟩ | ⟨z,_⟩
  ·exact ⟨u,q⟩
  ·rw [hko] at z; rcases z with z | z<;>cases z
 obtain ⟨u,hu⟩:=hm
 unfold deleteName
 rw [hko]
 dsimp only
 rw [hcls]
 refine wpAny_bind (wpAny_nsDel_keeps hn fun h' v' hn' hs=>?_)
 rw [hu]
 refine wpAny_pure (h _ ⟨I.ok,I.os,I.bare,⟨fun b o e n hb hx=>?_,fun b o e n hb hx=>?_,I.base.free,fun b o e hx=>?_,I.base.tups,I.base.frzs,I.base.tbls⟩,⟨_,hn',fun j y w e1 e2 e3=>?_⟩,fun y c e=>?_,I.free,I.freeC,fun p hp=>?_,fun b ob e=>?_,by simpa using I.len⟩)
 ·exact (hs.2 b (a0u (a0f (Heap.lt_size e) I.ok.above))).trans (I.base.keep b o e n hb hx)
 ·obtain ⟨sl,e1⟩:=I.base.slot b o e n hb hx
  exact ⟨sl,(hs.2 b (a0u (a0f (Heap.lt_size e) I.ok.above))).trans e1⟩
 ·obtain ⟨o',e1⟩:=I.base.there b o e hx
  exact ⟨o',(hs.2 b (a0u (a0f (Heap.lt_size e) I.ok.above))).trans e1⟩
 ·by_cases hj:j=i
  ·rw [hj] at e2
   by_cases hl':i < σ.length
   ·rw [a1q hl'] at e2; cases e2
   ·rw [a09 (by rw [a1H]; omega)] at e2; cases e2
  ·rw [a1d (a1w hj)] at e2
   obtain ⟨u',r',q⟩:=hl j y w e1 e2 e3
   refine ⟨u',r',?_⟩
   rcases q with ⟨k,e⟩ | ⟨k,c,e,z⟩
   ·refine .inl ⟨k,?_⟩
    have:y≠x:=fun e=>hj (gm hN e1 (e ▸ hi))
    show (if y=x then v' else m y)=some u'
    rw [if_neg this]; exact e
   ·exact .inr ⟨k,c,e,z.sameBut hs (I.cne y c e)⟩
 ·obtain ⟨w',z⟩:=I.cell y c e
  exact ⟨w',z.sameBut hs (I.cne y c e)⟩
 ·obtain ⟨e,n,ne,nf,d⟩:=I.pin p hp
  exact ⟨(hs.2 p.1 ne).trans e,n,ne,nf,d⟩
 ·refine (I.hok b ob e).stay (fun c w' hc q=>(hs.2 c ?_).trans q) (fun _ q=>q) fun _ _ q=>q
  rintro rfl
  rcases hc with rfl | hc
  ·rw [I.free] at e; cases e
  ·rw [I.free] at hc; cases hc
theorem dC {pos:Pos}{Q:Unit->Shared->Prop}(I:Inv X pins σ H s)(hN:X.N.Nodup)(hi:X.N[i]?=some x)(hk:X.env.scope.names.lookup x=some .local)
  (h:∀ s',Inv X pins (σ.set i none) H s'->Q () s'):wpAny M A (do bindName X.env x .none; unbindBehindTheSuite X.env x pos) Q E s:=by
 have hl:i < σ.length:=by rw [I.len]; exact (a0s.mp hi).1
 refine wpAny_bind (wpAny_bindName (eC (v:=.non) I hN hi (.inl hk) rfl (fun s' I'=>?_) (.inr hk)))
 unfold unbindBehindTheSuite unbindName
 refine wpAny_onRaise (wpAny_bind (wpAny_point (wpAny_bind (zZ I' hN hi hk (v:=.non) (a1q hl) fun s'' I''=>wpAny_point (h s'' ?_)))))
 rw [List.set_set] at I''
 exact I''
end
section
variable {M:Model}{h:Heap}{A:Around}{g:Array GenState}{d:Drawn}{t:Nat}{os:OsState}{E:Value->Shared->Prop}
theorem nR {e C B N N':Addr}{up up':List Value}{names names':Str->Option Value}{oe:Obj}{Q:Bool->Shared->Prop}(c:fE h C N up names)(b:fE h B N' up' names')(hb:up'.contains (.type "BaseException")=true)(hu:up.contains (.ref B)=true)
  (he:h.get? e=some oe) (hc:oe.cls=.ref C) (k:Q true ⟨h,g,d,t,os⟩):wpAny M A (excMatches (.ref e) (.ref B)) Q E ⟨h,g,d,t,os⟩:=by
 obtain ⟨⟨a1,a2,a3,a4,a5,a6,a7,a8,a9,b1,b2,b3,b4,b5,hC⟩,-⟩:=c
 obtain ⟨⟨c1,c2,c3,c4,c5,c6,c7,c8,c9,d1,d2,d3,d4,d5,hB⟩,-⟩:=b
 have y1:(Value.ref B::up').contains (.type "BaseException")=true:=by rw [a1k,hb,a0K]
 have y2:(Value.ref C::up).contains (.ref B)=true:=by rw [a1k,hu,a0K]
 have f:=tc_notTuple
 unfold excMatches
 repeat (first | (with_reducible refine wpAny_loadPart_at he ?_; rw [hc]) | with_reducible refine wpAny_loadPart_at hB ?_ | (with_reducible refine wpAny_isSubtype_exc hB ?_; rw [y1]) | (with_reducible refine wpAny_isSubtype_exc hC ?_; rw [y2]) | wp_step)
 exact k
end
noncomputable abbrev hx (X:Cx)(a:Addr):Cx:={ X with A:=X.A.mark (some (.ref a)),calm:=false,xe:=fun _ _=>False }
section
variable {X:Cx}{pins:List (Addr×Obj)}{σ:L2.St}{H:Hp}{s:Shared}{a C:Addr}{od:Option Addr}
theorem Inv.hx (I:Inv X pins σ H s)(a:Addr):Inv (hx X a) pins σ H s :=
 ⟨⟨I.ok.mod,I.ok.kind,I.ok.glob,I.ok.blt,I.ok.above,I.ok.inj,I.ok.has,I.ok.cab,(fun z=>by cases z),I.ok.frames,I.ok.stk,I.ok.exf,I.ok.bs,I.ok.bsz,I.ok.noex,I.ok.exfs,I.ok.funs,I.ok.frf⟩,I.os,I.bare,I.base,I.loc,I.cell,I.free,I.freeC,I.pin,I.hok,I.len⟩
theorem Inv.unhx (c:X.Ok)(I:Inv (L3.hx X a) pins σ H s):Inv X pins σ H s:=⟨c,I.os,I.bare,I.base,I.loc,I.cell,I.free,I.freeC,I.pin,I.hok,I.len⟩
theorem Inv.noted {h':Heap}{oe:Obj}{vs:Array Value}{fl:Value}(I:Inv X pins σ H s)(ha:H a=some (XO a C od false))(e1:s.heap.get? a=some oe)(e2:oe.data=.fields vs)(n:ik (frs X.stack) s.heap h' a oe vs fl):Inv X pins σ H { s with heap:=h' }:=by
 obtain ⟨⟨T',oT',ts',z1,z2,z3,z4,z5⟩,n2,n3,n4⟩:=n
 obtain ⟨⟨o,ws,t0,x1,x2,x3,x4,x5,x6,-⟩,-,-⟩:=I.hok a _ ha
 rw [e1] at x1; cases x1
 rw [e2] at x4; cases x4
 have hd':=Obj.data_mapFields e2 (·.setIfInBounds 1 (Value.ref T'))
 refine I.call' (s':={ s with heap:=h' }) (ch:=[]) rfl ⟨fun b o e hb hn hx=>n2 b o e (fun z=>?_) hn,fun b o e hb hm hx=>n3 b o e hm,fun b o e hb hx=>hb,fun b o e hx=>n4 b o e,fun _ _ z=>z,fun _ _ _ z=>z,fun b ps z=>⟨#[],by rw [z]; simp⟩⟩ ?_ I.bare (fun b z=>absurd z (by simp))
 ·rw [z,ha] at hb; cases hb
 ·refine HOk.touch I.hok ha (fun b u o hb hne g=>n2 b u g hne fun z=>?_) ⟨_,_,t0,z1,by rw [Obj.cls_mapFields]; exact x2,by rw [<- x3]; obtain ⟨_,_,_,_⟩:=oe; cases e2; rfl,hd',by rw [a1y (by decide)]; exact x5,by rw [a1X]; exact x6,fun z=>by cases z⟩
  rw [I.stkFree b z] at hb; cases hb
end
noncomputable abbrev tx (X:Cx)(E:Value->Shared->Prop)(pn:List (Addr×Obj)):Cx:={ X with xe:=E,pn:=pn }
section
variable {X:Cx}{pins pins':List (Addr×Obj)}{σ:L2.St}{H:Hp}{s:Shared}{E:Value->Shared->Prop}
theorem Inv.tx (I:Inv X pins σ H s)(E:Value->Shared->Prop):Inv (L3.tx X E (X.pn++pins)) [] σ H s :=
 ⟨⟨I.ok.mod,I.ok.kind,I.ok.glob,I.ok.blt,I.ok.above,I.ok.inj,I.ok.has,I.ok.cab,I.ok.hd,I.ok.frames,I.ok.stk,I.ok.exf,I.ok.bs,I.ok.bsz,I.ok.noex,I.ok.exfs,I.ok.funs,I.ok.frf⟩,I.os,I.bare,I.base,I.loc,I.cell,I.free,I.freeC,fun p hp=>I.pin p (by rw [a0z] at hp; exact hp),I.hok,I.len⟩
theorem Inv.untx (c:X.Ok)(I:Inv (L3.tx X E (X.pn++pins)) pins' σ H s):Inv X pins σ H s:=⟨c,I.os,I.bare,I.base,I.loc,I.cell,I.free,I.freeC,fun p hp=>I.pin p (a0v _ hp),I.hok,I.len⟩
theorem SP.untx {D:bL}{f:Flow}(c:X.Ok)(h:SP (L3.tx X E (X.pn++pins)) pins' D f s):SP X pins D f s:=by
 cases f with
 | next=>obtain ⟨σ',H',I,q⟩:=h; exact ⟨σ',H',Inv.untx c I,q⟩
 | brk=>obtain ⟨σ',H',I,q⟩:=h; exact ⟨σ',H',Inv.untx c I,q⟩
 | cont=>obtain ⟨σ',H',I,q⟩:=h; exact ⟨σ',H',Inv.untx c I,q⟩
 | ret u=>obtain ⟨v,σ',H',I,r,q⟩:=h; exact ⟨v,σ',H',Inv.untx c I,r,q⟩
theorem i8 {M:Model}{A:Around}{E:Value->Shared->Prop}{a T:Addr}{oe oT:Obj}{vs ts:Array Value}{Q:Unit->Shared->Prop}(e1:s.heap.get? a=some oe)(e2:oe.data=.fields vs)(e3:vs[1]?=some (.ref T))(e4:s.heap.get? T=some oT)(e5:oT.data=.fields ts)(e6:ts[3]?=some .none)
  (k:∀ h',(∀ b o,s.heap.get? b=some o->h'.get? b=some o)->Q () { s with heap:=h' }):wpAny M A (setFlight (.ref a) none) Q E s:=by
 unfold setFlight
 refine wpAny_bind (wpAny_field e1 e2 e3 ?_)
 rw [if_pos (fS T)]
 refine wpAny_setField e4 e5 (a0S.mp e6).1 (k _ fun b o q=>?_)
 by_cases z:b=T
 ·rw [z] at q ⊢
  rw [e4] at q; cases q
  show (s.heap.update T (Obj.mapFields (·.setIfInBounds 3 Value.none))).get? T=_
  rw [Heap.get?_update_self (Obj.mapFields (·.setIfInBounds 3 Value.none)) e4 (Obj.isFreed_of_fields (Obj.data_mapFields e5 _)),v8 e5 e6]
 ·rw [Heap.get?_update_other _ _ (a1w z)]; exact q
end
section
variable {X:Cx}{pos pos' p:Pos}{i:Nat}{x cn:Str}{B fB:Addr}{upB:List Value}{body suite:List Stmt}{b₀:Stmt}{tb:(L2.St->VK)->TS}{th:Addr->TS}
theorem so (hst:X.stack=X.env::X.outer)(hf:X.env.frame=some X.env.locals)(hN:X.N.Nodup)(hi:X.N[i]?=some x)(hk:X.env.scope.names.lookup x=some .local)(hg:Gl X cn)(hm:X.mg cn=some (.ref B))
  (cb:∀ h,X.K.In h->∃ N' names',fE h B N' upB names') (hub:dD upB=true) (hb:∀ E' pn,PSs (L3.tx X E' pn) body (tb (xw (L3.tx X E' pn)))) (hs:∀ a,PSs (hx X a) (b₀::suite) (th a)) (hdb:(cn==("__debug__":Str))=false:=by decide)
  (mono:∀ W W' D σ H,(∀ σ v H,W σ v H->W' σ v H)->tb W D σ H->tb W' D σ H) :
  PS X (.Try body [.ExceptHandler (some (.Name cn p)) (some x) (b₀::suite) pos'] [] [] pos) fun D σ H =>
   tb (fun σ1 v H1=>∃ a C od f up,v=.ref a/\H1 a=some (XO a C od false)/\XC X.K C f up/\up.contains (.ref B)=true/\th a { nx:=fun σ2 H2=>D.nx (σ2.set i none) H2,rt:=D.rt,bk:=fun σ2 H2=>D.bk (σ2.set i none) H2,ct:=fun σ2 H2=>D.ct (σ2.set i none) H2 } (σ1.set i (some v)) H1) D σ H:=by
 intro pins s σ H D I h
 refine wpAny_Try_except ?_
 generalize hE:(fun (e:Value) (s₁:Shared)=>wpAny (model X.prog X.w) X.A (noteFrame e X.env) (fun _ s₂=>wpAny (model X.prog X.w) X.A (setFlight e none) (fun _ s₃=>wpAny (model X.prog X.w) X.A (handleBy e X.env [.ExceptHandler (some (.Name cn p)) (some x) (b₀::suite) pos']) (SP X pins D) X.xe s₃) X.xe s₂) X.xe s₁)=E'
 refine thn (hb E' (X.pn++pins) [] s σ H D (Inv.tx I E') (mono _ _ D σ H ?_ h)) fun fl s' q=>?_
 ·rintro σ1 v H1 ⟨a,C,od,f,up,rfl,ha,c,hu,ht⟩ pins' s1 a' C' od' ev ha' I1 tr
  cases ev
  rw [ha] at ha'
  subst hE
  obtain ⟨oe,vs,e1,e2,e3⟩:=tr
  have J:Inv X pins σ1 H1 s1:=Inv.untx I.ok I1
  obtain ⟨⟨o,ws,t0,x1,x2,x3,x4,x5,x6,-⟩,-,-⟩:=J.hok a _ ha
  rw [e1] at x1; cases x1
  rw [e2] at x4; cases x4
  have hl:=J.stack
  rw [hst] at hl
  have hfr:=J.ok.frames
  rw [hst] at hfr
  have tbx:Tb s1.heap a vs:=by
   rcases e3 with z | ⟨T,oT,ts,y1,y2,y3,y4,y5,_⟩
   ·exact .inl z
   ·exact .inr ⟨T,oT,ts,y1,y2,y3,y4,y5⟩
  show wpAny _ _ (noteFrame (.ref a) X.env) _ _ _
  refine ml hfr hl hf e1 e2 tbx fun h2 n2=>mD (s:={ s1 with heap:=h2 }) e2 x6 (Heap.lt_size e1) (fun b z=>by obtain ⟨_,o,q,_⟩:=hl.mem z; exact Heap.lt_size q) n2 fun h3 n3=>?_
  have n3':ik (frs X.stack) s1.heap h3 a oe vs .none:=by rw [hst]; exact n3
  have J3:Inv X pins σ1 H1 { s1 with heap:=h3 }:=Inv.noted J ha e1 e2 n3'
  obtain ⟨⟨T',oT',ts',z1,z2,z3,z4,z5⟩,-,-,-⟩:=n3
  have hd':=Obj.data_mapFields e2 (·.setIfInBounds 1 (Value.ref T'))
  refine wpAny_handleBy_cons (codeAny_handlers_test (dz (X:=L3.hx X a) (Inv.hx J3 a) hg hm ?_ hdb)) (by intro q; cases q)
  obtain ⟨N1,names1,c1,_,_⟩:=c.ok _ J3.kIn
  obtain ⟨N2,names2,c2⟩:=cb _ J3.kIn
  refine nR (h:=h3) c1 c2 (iO hub) hu z1 (by rw [Obj.cls_mapFields]; exact x2) ?_
  show codeAny _ _ _ _ _
  refine codeAny_handlers_suite_as (i8 (s:={ s1 with heap:=h3 }) z1 hd' (by simp [x6]) z3 z4 z5 fun h4 k4=>?_)
  have J4:Inv X pins σ1 H1 { s1 with heap:=h4 }:=J3.kept (t':=s1.toks) k4
  refine eC (X:=L3.hx X a) (v:=.ref a) (Inv.hx J4 a) hN hi (.inl hk) rfl (fun s5 I5=>?_) (.inr hk)
  refine wpAny_mono (hs a pins s5 _ H1 _ I5 ht) (fun fl s6 q=>?_) fun _ _ z=>a05 z
  show wpAny _ _ (do bindName X.env x .none; unbindBehindTheSuite X.env x pos') _ _ _
  cases fl with
  | next=>obtain ⟨σ',H',I6,q⟩:=q; exact dC (Inv.unhx I.ok I6) hN hi hk fun s7 I7=>⟨_,H',I7,q⟩
  | brk=>obtain ⟨σ',H',I6,q⟩:=q; exact dC (Inv.unhx I.ok I6) hN hi hk fun s7 I7=>⟨_,H',I7,q⟩
  | cont=>obtain ⟨σ',H',I6,q⟩:=q; exact dC (Inv.unhx I.ok I6) hN hi hk fun s7 I7=>⟨_,H',I7,q⟩
  | ret u=>obtain ⟨v,σ',H',I6,r,q⟩:=q; exact dC (Inv.unhx I.ok I6) hN hi hk fun s7 I7=>⟨v,_,H',I7,r,q⟩
 ·have q:=SP.untx I.ok q
  cases fl with
  | next=>exact wpAny_execs_nil q
  | brk=>exact q
  | cont=>exact q
  | ret u=>exact q
end
theorem slot_bga:Slot "ValueError" "__getattribute__" "BaseException.__getattribute__":=PySem.F.excAttr_ValueError.ga
section
variable {prog:Program}{w:World}{A:Around}{E:Value->Shared->Prop}{s:Shared}{K:a0a}
structure XG (K:a0a)(C:Addr):Prop where
 ga:a0D K (.ref C) "__getattribute__"=some (some (.builtin "BaseException.__getattribute__"))
 hk:a0D K (.ref C) "__getattr__"=some none
 sub:a3l K (.ref C) (.type "BaseException")=some true
theorem rN {e C:Addr}{oe:Obj}{od:Option Obj}{name:Str}{tk:Tok}{fill expr:Bool}{Q:Value->Shared->Prop}(X:K.In s.heap)(J:a1u s.heap e oe C od)(c:XG K C)
  (h:wpAny (model prog w) A.in1 (Builtin.«object.__getattribute__» ⟨[.ref e,.str name tk],[]⟩) (fun fin s'=>match fin with | .done (.ret v)=>wpAny (model prog w) A (a3I v) Q E s' | _=>False) (fun _ _=>False) s) :
  wpAny (model prog w) A (getAttrBy (.ref e) (.str name tk) fill expr) Q E s:=by
 have ty:=J.type (M:=model prog w)
 refine wpAny_holding (wpAny_bind (ty _ _ _ _ (fun _ _ e=>e) (wpAny_bind (a3a X c.ga _ _ _ _ (fun _ _ e=>e) ?_))))
 dsimp only
 rw [show (Value.builtin "BaseException.__getattribute__"==Value.builtin "object.__getattribute__")=false from by decide +kernel,a3d,if_neg (by decide)]
 refine wpAny_bind (PySem.W.looks_hook X (r:=none) (by rw [if_pos (show onTheHeap (Value.ref C)=true from rfl)]; exact c.hk) _ _ _ _ (fun _ _ e=>e) (wpAny_bind (wpAny_attempt (wpAny_holding ?_))))
 unfold callGetattribute
 rw [show (expr&&onTheHeap (Value.builtin "BaseException.__getattribute__"))=false from a3d _,if_neg (by decide)]
 unfold boundAndCalled
 rw [slot_bga.bind]
 refine wpAny_bind (wpAny_pure ?_)
 show wpAny _ _ (call (.builtin "BaseException.__getattribute__") [.ref e,.str name tk]) _ _ _
 refine wpAny_call (codeAny_call_builtin slot_bga.plain PySem.F.entry_bexc_ga ?_)
 refine @a3o (model prog w) _ _ s "BaseException.__getattribute__" "BaseException" "__getattribute__" (.ref e) [.str name tk] [] _ (by decide +kernel) (by decide +kernel) (ty.andThen (PySem.W.looks_subIn X c.sub)) (PySem.F.args_bexc_ga (.ref e) (.str name tk)) ?_
 refine wpAny_mono h (fun fin s' z=>?_) fun _ _ z=>z.elim
 rcases fin with (_ | _ | _ | _) | _<;>first | exact a05 z | exact z
theorem vO {e C:Addr}{oe:Obj}{od:Option Obj}{name:Str}{v:Value}{expr:Bool}{Q:Value->Shared->Prop}(X:K.In s.heap)(J:a1u s.heap e oe C od)(c:XG K C)
  (hf:a3J K C od name=some (.value v)) (hh:a3y v=true) (h:Q v { s with toks:=s.toks+1 }):wpAny (model prog w) A (getAttr (.ref e) name expr) Q E s:=by
 refine wpAny_bind (wpAny_mkText (rN (s:={ s with toks:=s.toks+1 }) X J c ?_))
 have ty:=J.type (M:=model prog w)
 have fd:=a3p (M:=model prog w) X J hf
 refine wpAny_bind (wpAny_pure (wpAny_bind (wpAny_pure (wpAny_bind (a0Z (s:={ s with toks:=s.toks+1 }) ty (wpAny_bind (a0Z (s:={ s with toks:=s.toks+1 }) fd ?_)))))))
 refine wpAny_pure ?_
 show wpAny _ _ (a3I v) _ _ _
 rw [PySem.W.handedOut_of hh]
 exact wpAny_pure h
theorem mS {e C:Addr}{oe od:Obj}{Q:Option Value->Shared->Prop}(X:K.In s.heap)(J:a1u s.heap e oe C (some od))(c:XG K C)(hd:a1g K C=true)
  (ha:a0D K (.ref C) "__class__"=some (some (.builtin "object.__class__"))) (hn:a1x K (.builtin "object.__class__") "__get__"=some (some (.builtin "getset_descriptor.__get__"))) (htk:a10 K (.builtin "object.__class__")=some true) (hm:a11 K C (.type "object")=some true)
  (h:Q (some (.ref C)) { s with toks:=s.toks+1 }):wpAny (model prog w) A (getAttr? (.ref e) "__class__") Q E s:=by
 have hf:a3J K C (some od) "__class__"=some (.bind (.builtin "getset_descriptor.__get__") (.builtin "object.__class__")):=PySem.W.findObj_data (by obtain ⟨cd,hc,_⟩:=a1G hd; rw [hc]; rfl) ha hn htk
 unfold getAttr? getAttrBy?
 refine wpAny_bind (wpAny_mkText (wpAny_bind (wpAny_attempt (rN (s:={ s with toks:=s.toks+1 }) X J c ?_))))
 have ty:=J.type (M:=model prog w)
 have fd:=a3p (M:=model prog w) X J hf
 refine wpAny_bind (wpAny_pure (wpAny_bind (wpAny_pure (wpAny_bind (a0Z (s:={ s with toks:=s.toks+1 }) ty (wpAny_bind (a0Z (s:={ s with toks:=s.toks+1 }) fd ?_)))))))
 show wpAny _ _ (holding [.builtin "object.__class__"] (call (.builtin "getset_descriptor.__get__") [.builtin "object.__class__",.ref e,.ref C]) >>= ret) _ _ _
 refine wpAny_bind (wpAny_holding (wpAny_call (PySem.W.class_get (s:={ s with toks:=s.toks+1 }) (ox:=oe) (od:=some od) X J hm ?_)))
 exact wpAny_pure (PySem.W.handed_on rfl (wpAny_pure h))
theorem tL {e C:Addr}{oe od:Obj}(c:XG K C)(hd:a1g K C=true)
  (ha:a0D K (.ref C) "__class__"=some (some (.builtin "object.__class__"))) (hn:a1x K (.builtin "object.__class__") "__get__"=some (some (.builtin "getset_descriptor.__get__"))) (htk:a10 K (.builtin "object.__class__")=some true) (hm:a11 K C (.type "object")=some true) :
  PySem.W.KitX K (.ref e) (.ref C) (fun h=>a1u h e oe C (some od)) where
 ty:=fun _ _ _ J=>J.type
 it:=fun _ _ X _=>by
  obtain ⟨cd,hc,_⟩:=a1G hd
  unfold a1L at hc
  split at hc
  ·rename_i ho
   intro A' Q' E' s' k q
   unfold isType loadHead
   exact wpAny_bind (wpAny_loadPart (k _ _ (X C _ ho)) (wpAny_pure q))
  ·cases hc
 ne:=fun h tp dd its n sl X z=>by
  obtain ⟨cd,hc,_⟩:=a1G hd
  refine Bool.eq_false_iff.mpr fun q=>?_
  have q':C=tp:=Value.ref.inj (beq_iff_eq.mp q)
  subst q'
  unfold a1L at hc
  split at hc
  ·rename_i ho
   cases (X _ _ ho).symm.trans z
  ·cases hc
 ca:=fun X J k=>mS X J c hd ha hn htk hm k
end
structure XF (K:a0a)(C:Addr):Prop where
 xc:∃ f up,XC K C f up/\dD up=true
 xg:XG K C
 hd:a1g K C=true
 ca:a0D K (.ref C) "__class__"=some (some (.builtin "object.__class__"))
 cg:a1x K (.builtin "object.__class__") "__get__"=some (some (.builtin "getset_descriptor.__get__"))
 ct:a10 K (.builtin "object.__class__")=some true
 mo:a11 K C (.type "object")=some true
noncomputable def XNm (K:a0a)(c:Nat)(C:Addr):Prop:=c=C/\XF K C
section
variable {X:Cx}{pins:List (Addr×Obj)}{σ:L2.St}{H:Hp}{s:Shared}{a C dx:Addr}{n:Bool}{fs:List (Str×V)}{fld:Str}{v:V}{A:Around}{E:Value->Shared->Prop}
theorem vb {b:Bool}{Q:Value->Shared->Prop}(I:Inv X pins σ H s)(e:H a=some (XO a C (some dx) n))(d:H dx=some (.xd fs))(c:XF X.K C)(ha:a0D X.K (.ref C) fld=some none)(l:fs.lookup fld=some v)
  (h:∀ u s',Inv X pins σ H s'->RelV v u->Q u s'):wpAny (model X.prog X.w) A (getAttr (.ref a) fld b) Q E s:=by
 obtain ⟨o,vs,t0,e0,e1,e2,e3,e4,e5,e6⟩:XOk a C (some dx) n s.heap:=(I.hok a _ e).1
 obtain ⟨mA,ns,r⟩:∃ mA,s.heap.Ns1 dx mA/\∀ f,RelO (fs.lookup f) (mA f):=I.hok dx _ d
 obtain ⟨u,hu,ru⟩:=RelO.some_of (v:=v) (o:=mA fld) (by rw [<- l]; exact r fld)
 obtain ⟨od,ho,hl⟩:=eT ns
 have J:a1u s.heap a o C (some od):=⟨e0,e1,by unfold a3e; rw [e3],by rw [e2]; exact ho⟩
 exact vO I.kIn J c.xg (PySem.W.findObj_own c.hd ha rfl (by rw [hl,hu])) (mL ru) (h u _ (I.tok _) ru)
theorem AO {cv:Value}{b:Bool}{Q:Value->Shared->Prop}(I:Inv X pins σ H s)(e:H a=some (XO a C (some dx) n))(d:H dx=some (.xd fs))(c:XF X.K C)(k:a0y X.K (.ref C) cv=some b)
  (h:∀ tk,Q (.bool b) { s with toks:=tk }):wpAny (model X.prog X.w) A (call (.builtin "isinstance") [.ref a,cv]) Q E s:=by
 obtain ⟨o,vs,t0,e0,e1,e2,e3,e4,e5,e6⟩:XOk a C (some dx) n s.heap:=(I.hok a _ e).1
 obtain ⟨mA,ns,r⟩:∃ mA,s.heap.Ns1 dx mA/\∀ f,RelO (fs.lookup f) (mA f):=I.hok dx _ d
 obtain ⟨od,ho,hl⟩:=eT ns
 have J:a1u s.heap a o C (some od):=⟨e0,e1,by unfold a3e; rw [e3],by rw [e2]; exact ho⟩
 exact a0P (tL c.xg c.hd c.ca c.cg c.ct c.mo) I.kIn J k (fun z=>nomatch z) h
end
section
variable {X:Cx}{e:Expr}{fld:Str}{pos:Pos}{ta:TE}
theorem tQ (he:PE X e ta)(hb:attributeBase e fld X.env (eval e X.env)=eval e X.env):PE X (.Attribute e fld pos) fun σ H Q=>ta σ H fun x H1=>∃ a C dx n fs v,x=.ref a/\H1 a=some (XO a C (some dx) n)/\H1 dx=some (.xd fs)/\XF X.K C/\a0D X.K (.ref C) fld=some none/\fs.lookup fld=some v/\Q v H1:=by
 intro pins s σ H Q I h
 refine uQ hb (thn (he pins s σ H _ I h) fun u s1 ⟨x,H1,I1,rx,a,C,dx,n,fs,v,ex,ea,ed,c,ha,l,q⟩=>?_)
 subst ex
 obtain rfl:u=Value.ref a:=rx
 exact vb I1 ea ed c ha l fun u' s2 I2 ru=>⟨v,H1,I2,ru,q⟩
end
end L3

namespace M
open PySem (Str)
inductive T where
 | non | bl (b:Bool) | int (i:Int) | str (x:Str) | tup (ts:List T) | lst (ts:List T) | dct (ks:List (Int ⊕ Str)) (vs:List T) | ins (c:Nat) (fs:List Str) (vs:List T)
 | scr (ns:List Int)
 | gone
 deriving Inhabited
inductive Md where
 | s | d | o (m:Md)
 deriving DecidableEq,Inhabited
noncomputable def Md.kid:Md->Md
 | .s=>.s | .d=>.d | .o m=>m
noncomputable def Md.up:Md->Md
 | .d=>.d | m=>.o m
noncomputable def Md.meet:Md->Md->Md
 | .s,_=>.s | .d,m=>m | .o _,.s=>.s | .o a,.d=>.o a | .o a,.o b=>.o (a.meet b)
noncomputable def Md.le:Md->Md->Bool
 | .s,_=>true
 | .o a,.o b=>a.le b
 | .o _,.d=>true
 | .d,.d=>true
 | _,_=>false
noncomputable abbrev W:=Md×T
noncomputable abbrev Env:=List (Option W)
noncomputable def LIM:Nat:=16777215
noncomputable def T.leaf:T->Bool
 | .non | .bl _ | .int _ | .str _ | .scr _=>true
 | _=>false
noncomputable def T.isG:T->Bool
 | .gone=>true
 | .dct _ _=>true
 | _=>false
noncomputable def T.isH:T->Bool
 | .gone=>true
 | .dct _ _=>true
 | .ins _ _ _=>true
 | _=>false
noncomputable def T.isN:T->Bool
 | .non=>true
 | _=>false
noncomputable def leaves (ts:List T):Bool:=ts.all T.leaf
inductive Op where
 | add | sub | mul | fdiv | mod | pow | neg | eq | ne | lt | le | gt | ge | is | isnot | isin | notin | ix | sl | sl1 | sl2 | sl3
 | len | isI (cs:List String) | max1 | maxZ | min1 | count | fdivN | modN | intS | apd | mulS | listS | list | tuple | sum | all | any | max | min | int | str | rng | sorted | join | split | abs | dict | get | lzip | isB | isnB | lower | inS | ninS | inX | ninX | leS | catT | dnew | sortedD | sortedS | lenSet | countS | repr | ixD | revL
 | isX (cs:List Nat) | att (fld:Str)
  deriving DecidableEq,Inhabited
inductive Ik where
 | seq | rng | enm | zip | sq2 | zip3 | chr | enmT
 deriving DecidableEq,Inhabited
inductive E where
 | var (i:Nat) | mv (i:Nat) | io (i:Nat) | cst (t:T) | glb (x:Str) (t:T)
 | tup (es:List E) | lst (h:Bool) (es:List E) | op (o:Op) (h:Bool) (es:List E) | wk (m:Md) (e:E)
 | and (a b:E) | or (a b:E) | not (a:E) | ifx (c a b:E) | chain (o p:Op) (a b c:E)
 | call (f:Nat) (es:List E) | comp (h:Bool) (k:Ik) (src:List E) (tg:List Nat) (cnd:Option E) (elt:E)
 | pop (i:Nat) (es:List E) | lenV (i:Nat) | ixV (i j:Nat) | popN (i:Nat) (e:E) | compV (h:Bool) (i t:Nat) (c e:E)
 | tupA (es:List E) | qx (vs ls:List Nat) (e:E) | mvP (i:Nat) (p:List Nat)
 | callT (tab:List (Str×Nat)) (k:E) (es:List E) | inT (neg:Bool) (ks:List Str) (e:E) | ixT (tab:List (Str×T)) (e:E) | getT (tab:List (Str×T)) (e:E)
 deriving Inhabited
inductive X where
 | q (vs ls:List Nat) | l (vs:List Nat)
 deriving Inhabited
inductive S where
 | asg (x:X) (i:Nat) (e:E) | asgT (x:X) (is:List Nat) (e:E) | setI (x:X) (i:Nat) (k e:E) | setK (x:X) (i:Nat) (k e:E) | setS (x:X) (i:Nat) (k e:E) | insF (x:X) (i:Nat) (e:E) | revS (i:Nat) | apN (i k l:Nat) | insN (i k l:Nat) | apC (i k:Nat) (cs:List T) | popI (i k:Nat) | clrA (i j:Nat)
 | exp (x:X) (e:E) | app (x:X) (i:Nat) (e:E) | ext (x:X) (i:Nat) (e:E)
 | ret (vs:List Nat) (e:E) | retN | ite (x:X) (c:E) (a b:List S)
 | forS (vs ls:List Nat) (k:Ik) (src:List E) (tg:List Nat) (body:List S) | forU (k:Ik) (src:List E) (tg:List Nat) (body:List S) | whl (x:X) (c:E) (body:List S)
 | brk | pas | stop | tri (body:List S)
 | asgC (vs:List Nat) (i f:Nat) (es:List E) | expC (vs:List Nat) (f:Nat) (es:List E) | retC (vs:List Nat) (f:Nat) (es:List E) | raise (c:Nat) (fld:Str) (x:X) (e:E) | tryC (cs:List Nat) (body:List S) (i:Nat) (h:List S)
 deriving Inhabited
structure Fn where
 ps:Nat
 ns:Nat
 io:List Nat
 body:List S
inductive Res (α:Type) where
 | ok (a:α) | ex (t:T) | no
noncomputable def Res.bind {α β:Type}:Res α->(α->Res β)->Res β
 | .ok a,f=>f a
 | .ex t,_=>.ex t
 | .no,_=>.no
noncomputable def ofO {α:Type}:Option α->Res α
 | some a=>.ok a
 | none=>.no
inductive Fl where
 | nx (η:Env) | rt (w:W) (η:Env) | bk (η:Env) | ex (t:T) (η:Env) | no
noncomputable def truth:T->Option Bool
 | .non=>some false | .bl b=>some b | .int i=>some (i != 0) | .str x=>some (x.cps.size != 0) | .tup ts=>some (!ts.isEmpty) | .lst ts=>some (!ts.isEmpty) | .dct _ _=>none | .ins ..=>none | .scr ns=>some (!ns.isEmpty) | .gone=>none
noncomputable def b2i:Bool->Int
 | true=>1 | false=>0
mutual
noncomputable def eqT:T->T->Bool
 | .non,.non=>true
 | .bl a,.bl b=>a==b
 | .bl a,.int i=>b2i a==i
 | .int i,.bl a=>i==b2i a
 | .int i,.int j=>i==j
 | .str x,.str y=>x==y
 | .tup ts,.tup us=>eqTs ts us
 | .lst ts,.lst us=>eqTs ts us
 | _,_=>false
noncomputable def eqTs:List T->List T->Bool
 | [],[]=>true
 | t::ts,u::us=>eqT t u&&eqTs ts us
 | _,_=>false
end
mutual
noncomputable def dp:T->Nat
 | .tup ts=>dps ts+1
 | .lst ts=>dps ts+1
 | .scr _=>1000
 | .dct _ _=>1000
 | .ins _ _ _=>1000
 | .gone=>1000
 | _=>0
noncomputable def dps:List T->Nat
 | []=>0
 | t::ts=>max (dp t) (dps ts)
end
noncomputable def sOk (x:Str):Bool:=x.cps.all (· < 0x110000)&&decide (x.cps.size<=LIM)
noncomputable def kOk:Int ⊕ Str->Bool
 | .inl _=>true
 | .inr x=>sOk x
noncomputable def yS:T->Option (Int ⊕ Str)
 | .int n=>some (.inl n)
 | .str x=>some (.inr x)
 | _=>none
noncomputable def pR:List (Int ⊕ Str)->Option (List Str)
 | []=>some []
 | .inr x::ks=>(pR ks).map (x::·)
 | .inl _::_=>none
noncomputable def w5 (q:Int ⊕ Str):List (Int ⊕ Str)->List T->Option T
 | y::ys,v::vs=>if y=q then some v else w5 q ys vs
 | _,_=>none
noncomputable def ixN (n:Nat)(i:Int):Option Nat:=if 0<=i then (if i < n then some i.toNat else none) else if -(n:Int)<=i then some (i+n).toNat else none
noncomputable def atI {α:Type}(xs:List α)(i:Int):Option α:=(ixN xs.length i).bind fun j=>xs[j]?
noncomputable def sIx (n d:Nat):Option Int->Nat
 | none=>d
 | some i=>if i < 0 then (i+n).toNat else min i.toNat n
noncomputable def cut {α:Type}(xs:List α)(lo hi:Option Int):List α:=(xs.drop (sIx xs.length 0 lo)).take (sIx xs.length xs.length hi-sIx xs.length 0 lo)
noncomputable def T.ty:T->String
 | .non=>"NoneType" | .bl _=>"bool" | .int _=>"int" | .str _=>"str" | .tup _=>"tuple" | .lst _=>"list" | .dct ..=>"dict" | .ins ..=>"object" | .scr _=>"list" | .gone=>"gone"
noncomputable def isOne (c:String)(t:T):Bool:=t.ty==c || (t.ty=="bool"&&c=="int")
noncomputable def bf:List T->Option (List Int)
 | []=>some []
 | .int i::ts=>(bf ts).map (i::·)
 | _::_=>none
noncomputable def aW:List T->Option (List Bool)
 | []=>some []
 | .bl b::ts=>(aW ts).map (b::·)
 | _::_=>none
noncomputable def elems:W->Option (List T)
 | (_,.tup ts)=>some ts
 | (_,.lst ts)=>some ts
 | _=>none
noncomputable def au:T->Bool
 | .non | .bl _ | .int _ | .str _=>true
 | _=>false
noncomputable def isStr:T->Bool
 | .str _=>true
 | _=>false
noncomputable def mf:T->Bool
 | .non | .bl _ | .int _ | .str _ | .lst _ | .tup _=>true
 | _=>false
noncomputable def B6 (c:Nat):Nat:=if 65<=c/\c<=90 then c+32 else c
noncomputable def yF:List Int->Int
 | []=>0
 | [n]=>n
 | n::ns=>max n (yF ns)
noncomputable def DB:List Int->Int
 | []=>0
 | [n]=>n
 | n::ns=>min n (DB ns)
noncomputable def CC (x:Int):List Int->List Int
 | []=>[x]
 | y::ys=>if x<=y then x::y::ys else y::CC x ys
noncomputable def w8:List Int->List Int
 | []=>[]
 | x::xs=>CC x (w8 xs)
noncomputable def dg:List T->Option (List Str)
 | []=>some []
 | .str x::ts=>(dg ts).map (x::·)
 | _::_=>none
noncomputable def DL (ks:List Str)(x:Str):List Str:=if ks.contains x then ks else ks++[x]
noncomputable def xa (l:List Str):List Str:=l.foldl DL []
noncomputable def ltS (x y:Str):Bool:=decide (x.cps.toList < y.cps.toList)
noncomputable def Dd (x:Str):List Str->List Str
 | []=>[x]
 | y::ys=>if ltS y x then y::Dd x ys else x::y::ys
noncomputable def jX:List Str->List Str
 | []=>[]
 | x::xs=>Dd x (jX xs)
noncomputable def spl (c:Nat):List Nat->List Nat->List (List Nat)
 | acc,[]=>[acc]
 | acc,x::xs=>if x=c then acc::spl c [] xs else spl c (acc++[x]) xs
noncomputable def De (x:Str):List Str:=(spl 32 [] x.cps.toList).map fun l=>⟨l.toArray⟩
noncomputable def Bt (l:List Nat):Nat:=l.foldl (fun a c=>a * 10+(c-48)) 0
noncomputable def A6 (x:Str):Int:=match x.cps.toList with
 | 45::cs=>-((Bt cs:Nat):Int)
 | cs=>((Bt cs:Nat):Int)
noncomputable def Cb (i:Int):Str:=Str.ofString (toString i)
noncomputable def zipP:List T->List T->List T
 | t::ts,u::us=>.tup [t,u]::zipP ts us
 | _,_=>[]
noncomputable def newL (h:Bool)(m:Md)(ts:List T):Option W:=if h then (if leaves ts then some (.d,.lst ts) else none) else some (m.up,.lst ts)
noncomputable def fits (n:Nat):Bool:=decide (n<=LIM)
mutual
noncomputable def Dt:T->a38
 | .bl b=>.bool b
 | .int i=>.int i
 | .str x=>.str x
 | .tup ts=>.tuple (qy ts)
 | .lst ts=>.list (qy ts)
 | _=>.none
noncomputable def qy:List T->List a38
 | []=>[]
 | t::ts=>Dt t::qy ts
end
mutual
noncomputable def rOk:T->Bool
 | .non | .bl _=>true
 | .int i=>decide (i.natAbs < 10000000000000000000)
 | .str x=>decide ((a3N x).length<=100)&&sOk (a3N x)
 | .tup ts=>zu ts
 | .lst ts=>zu ts
 | _=>false
noncomputable def zu:List T->Bool
 | []=>true
 | t::ts=>rOk t&&zu ts
end
mutual
noncomputable def szR:T->Nat
 | .tup ts=>zj ts+4
 | .lst ts=>zj ts+4
 | _=>100
noncomputable def zj:List T->Nat
 | []=>0
 | t::ts=>szR t+2+zj ts
end
noncomputable def oSem:Op->Bool->List W->Option W
 | .add,h,[(m,a),(n,b)]=>match a,b with
  | .int i,.int j=>some (.d,.int (i+j))
  | .str x,.str y=>if fits (x.cps.size+y.cps.size) then some (.d,.str (x++y)) else none
  | .lst ts,.lst us=>if fits (ts.length+us.length) then newL h (m.kid.meet n.kid) (ts++us) else none
  | .tup ts,.tup us=>if fits (ts.length+us.length)&&!ts.isEmpty then some (.s,.tup (ts++us)) else none
  | _,_=>none
 | .sub,_,[(_,.int i),(_,.int j)]=>some (.d,.int (i-j))
 | .mul,h,[(m,a),(_,b)]=>match a,b with
  | .int i,.int j=>if (decide (i.natAbs < 18446744073709551616)) || (decide (j.natAbs < 18446744073709551616)) then some (.d,.int (i * j)) else none
  | .lst ts,.int k=>if decide (k.natAbs < 4611686018427387904)&&fits (ts.length * k.toNat) then newL h .s (a0h k.toNat ts).flatten else none
  | _,_=>none
 | .fdiv,_,[(_,.int i),(_,.int j)]=>if decide (0 < j)&&decide (j < 1073741824) then some (.d,.int (i / j)) else none
 | .mod,_,[(_,.int i),(_,.int j)]=>if decide (0 < j) then some (.d,.int (i % j)) else none
 | .pow,_,[(_,.int i),(_,.int j)]=>if decide (0<=j)&&decide (j<=1000000)&&decide (i.natAbs < 18446744073709551616) then some (.d,.int (i ^ j.toNat)) else none
 | .fdivN,_,[(_,.int i),(_,.int j)]=>if (j != 0)&&decide (j.natAbs < 18446744073709551616) then some (.d,.int (i.fdiv j)) else none
 | .modN,_,[(_,.int i),(_,.int j)]=>if j != 0 then some (.d,.int (i.fmod j)) else none
 | .neg,_,[(_,.int i)]=>some (.d,.int (-i))
 | .eq,_,[(_,a),(_,b)]=>if decide (dp a<=64)&&decide (dp b<=64) then some (.d,.bl (eqT a b)) else none
 | .ne,_,[(_,a),(_,b)]=>if decide (dp a<=64)&&decide (dp b<=64) then some (.d,.bl (!eqT a b)) else none
 | .lt,_,[(_,.int i),(_,.int j)]=>some (.d,.bl (decide (i < j)))
 | .le,_,[(_,.int i),(_,.int j)]=>some (.d,.bl (decide (i<=j)))
 | .gt,_,[(_,.int i),(_,.int j)]=>some (.d,.bl (decide (j < i)))
 | .ge,_,[(_,.int i),(_,.int j)]=>some (.d,.bl (decide (j<=i)))
 | .is,_,[(_,a),(_,.non)]=>if a.isG then none else some (.d,.bl a.isN)
 | .isnot,_,[(_,a),(_,.non)]=>if a.isG then none else some (.d,.bl (!a.isN))
 | .ix,_,[(m,a),(_,.int i)]=>match a with
  | .lst ts=>(atI ts i).map fun t=>(m.kid,t)
  | .tup ts=>(atI ts i).map fun t=>(m.kid,t)
  | .str x=>(atI x.cps.toList i).map fun c=>(.d,.str ⟨#[c]⟩)
  | .scr ns=>(atI ns i).map fun n=>(.d,.int n)
  | _=>none
 | .sl,h,[(m,.lst ts)]=>newL h m.kid ts
 | .sl1,h,[(m,.lst ts),(_,.int i)]=>newL h m.kid (cut ts (some i) none)
 | .sl2,h,[(m,.lst ts),(_,.int i)]=>newL h m.kid (cut ts none (some i))
 | .sl3,h,[(m,.lst ts),(_,.int i),(_,.int j)]=>newL h m.kid (cut ts (some i) (some j))
 | .sl2,_,[(_,.scr ns),(_,.int i)]=>some (.d,.lst ((cut ns none (some i)).map T.int))
 | .sl1,_,[(_,.scr ns),(_,.int i)]=>some (.d,.lst ((cut ns (some i) none).map T.int))
 | .sl,_,[(_,.scr ns)]=>some (.d,.lst (ns.map T.int))
 | .sl1,_,[(_,.tup ts),(_,.int i)]=>some (.s,.tup (cut ts (some i) none))
 | .sl2,_,[(_,.tup ts),(_,.int i)]=>some (.s,.tup (cut ts none (some i)))
 | .sl3,_,[(_,.tup ts),(_,.int i),(_,.int j)]=>some (.s,.tup (cut ts (some i) (some j)))
 | .len,_,[(_,a)]=>match a with
  | .lst ts=>some (.d,.int ts.length)
  | .tup ts=>some (.d,.int ts.length)
  | .str x=>some (.d,.int x.cps.size)
  | .scr ns=>some (.d,.int ns.length)
  | _=>none
 | .isX cs,_,[(_,.ins c _ _)]=>some (.d,.bl (cs.contains c))
 | .isX _,_,[(_,.non)]=>some (.d,.bl false)
 | .att fld,_,[(_,.ins _ [g] [.int n])]=>if (g==fld)=true then some (.d,.int n) else none
 | .isI cs,_,[(_,a)]=>if a.isH then none else some (.d,.bl (cs.any fun c=>isOne c a))
 | .list,h,[(m,a)]=>match a with
  | .lst ts=>newL h m.kid ts
  | .tup ts=>newL h m.kid ts
  | .scr ns=>some (.d,.lst (ns.map T.int))
  | _=>none
 | .tuple,_,[(m,a)]=>match a with
  | .lst ts=>some (m.kid.up,.tup ts)
  | .tup ts=>some (m,.tup ts)
  | _=>none
 | .sum,_,[(_,.lst ts)]=>(bf ts).map fun ns=>(.d,.int ns.sum)
 | .all,_,[(_,.lst ts)]=>(aW ts).map fun bs=>(.d,.bl (bs.all id))
 | .any,_,[(_,.lst ts)]=>(aW ts).map fun bs=>(.d,.bl (bs.any id))
 | .max,_,[(_,.int i),(_,.int j)]=>some (.d,.int (if j > i then j else i))
 | .min,_,[(_,.int i),(_,.int j)]=>some (.d,.int (if j < i then j else i))
 | .rng,_,[(_,.int i),(_,.int j)]=>if decide (i.natAbs < 4611686018427387904)&&decide (j.natAbs < 4611686018427387904)&&fits (j-i).toNat then some (.d,.lst ((a0q (j-i).toNat).map fun (k:Nat)=>T.int (i+k))) else none
 | .isin,_,[(_,a),(n,b)]=>(elems (n,b)).bind fun ts=>if au a&&ts.all au then some (.d,.bl (ts.any fun t=>eqT t a)) else none
 | .notin,_,[(_,a),(n,b)]=>(elems (n,b)).bind fun ts=>if au a&&ts.all au then some (.d,.bl (!ts.any fun t=>eqT t a)) else none
 | .int,_,[(_,.int i)]=>some (.d,.int i)
 | .int,_,[(_,.bl b)]=>some (.d,.int (b2i b))
 | .abs,_,[(_,.int i)]=>some (.d,.int i.natAbs)
 | .maxZ,_,[(_,.lst ts)]=>(bf ts).bind fun ns=>some (.d,.int (if ns.isEmpty then 0 else yF ns))
 | .max1,_,[(_,.lst ts)]=>(bf ts).bind fun ns=>if ns.isEmpty then none else some (.d,.int (yF ns))
 | .min1,_,[(_,.lst ts)]=>(bf ts).bind fun ns=>if ns.isEmpty then none else some (.d,.int (DB ns))
 | .sorted,_,[(_,.lst ts)]=>(bf ts).bind fun ns=>if decide (ns.length < 64) then some (.d,.lst ((w8 ns).map T.int)) else none
 | .str,_,[(_,.int i)]=>if decide (i.natAbs < 10000000000000000000) then some (.d,.str (Cb i)) else none
 | .intS,_,[(_,.str x)]=>if decide ((A6 x).natAbs < 10000000000000000000)&&(Cb (A6 x)==x) then some (.d,.int (A6 x)) else none
 | .join,_,[(_,.str z),(_,.lst ts)]=>(dg ts).bind fun ss=>if sOk (Str.join z ss)&&decide ((ss.map fun s=>s.cps.size+z.cps.size).sum<=LIM) then some (.d,.str (Str.join z ss)) else none
 | .split,_,[(_,.str z),(_,.str y)]=>if (y==Str.ofString " ")&&decide (z.cps.size+2<=LIM)&&(De z).all sOk then some (.d,.lst ((De z).map T.str)) else none
 | .mulS,_,[(_,.str x),(_,.int k)]=>if decide (0<=k)&&decide (k<=100)&&decide (x.cps.size<=1000) then some (.d,.str ⟨(a0h k.toNat x.cps.toList).flatten.toArray⟩) else none
 | .listS,_,[(_,.str x)]=>some (.d,.lst (x.cps.toList.map fun c=>T.str ⟨#[c]⟩))
 | .apd,_,[(m,.lst ts),(_,_)]=>if m==.s then none else if decide (ts.length < LIM) then some (.d,.non) else none
 | .count,_,[(_,.lst ts),(_,.bl b)]=>(aW ts).map fun bs=>(.d,.int (bs.count b))
 | .lower,_,[(_,.str x)]=>if x.cps.toList.all (fun c=>decide (c < 128)) then some (.d,.str ⟨x.cps.map B6⟩) else none
 | .inS,_,[(_,.str x),(_,.str y)]=>some (.d,.bl (!(a1l y x 0 y.length 1).isEmpty))
 | .ninS,_,[(_,.str x),(_,.str y)]=>some (.d,.bl (!(!(a1l y x 0 y.length 1).isEmpty)))
 | .inX,_,[(_,a),(_,.tup ts)]=>if ts.all isStr&&mf a then some (.d,.bl (ts.any fun t=>eqT t a)) else none
 | .ninX,_,[(_,a),(_,.tup ts)]=>if ts.all isStr&&mf a then some (.d,.bl (!ts.any fun t=>eqT t a)) else none
 | .catT,_,[(_,.tup ts),(_,.tup us)]=>if fits (ts.length+us.length) then some (.s,.tup (ts++us)) else none
 | .dnew,_,[]=>some (.d,.dct [] [])
 | .lenSet,_,[(_,.tup ts)]=>(dg ts).bind fun ss=>if decide (ss.length < 1000) then some (.d,.int (xa ss).length) else none
 | .countS,_,[(_,.lst ts),(_,.str x)]=>(dg ts).bind fun ss=>some (.d,.int (ss.count x))
 | .sortedS,_,[(_,.lst ts)]=>(dg ts).bind fun ss=>if decide (ss.length < 64) then some (.d,.lst ((jX ss).map T.str)) else none
 | .sortedD,_,[(_,.dct ks _)]=>(pR ks).bind fun ss=>if decide (ss.length < 64) then some (.d,.lst ((jX ss).map T.str)) else none
 | .ixD,_,[(.s,.dct ks vs),(_,k)]=>(yS k).bind fun q=>(w5 q ks vs).map fun t=>(.s,t)
 | .revL,_,[(.s,.lst ts)]=>some (.o .s,.lst ts.reverse)
 | .repr,_,[(_,t)]=>if decide (dp t<=64)&&rOk t&&fits (szR t) then some (.d,.str (Dt t).shown) else none
 | .leS,_,[(_,.str x),(_,.str y)]=>some (.d,.bl (!decide (y.cps.toList < x.cps.toList)))
 | .isB,_,[(_,.bl a),(_,.bl b)]=>some (.d,.bl (a==b))
 | .isnB,_,[(_,.bl a),(_,.bl b)]=>some (.d,.bl (!(a==b)))
 | .lzip,_,[(m,a),(n,b)]=>(elems (m,a)).bind fun ts=>(elems (n,b)).bind fun us=>some ((m.kid.meet n.kid).up.up,.lst (zipP ts us))
 | _,_,_=>none
noncomputable def rd:Env->Nat->Option W
 | [],_=>none
 | o::_,0=>o
 | _::η,i+1=>rd η i
noncomputable def wr:Env->Nat->Option W->Env
 | [],_,_=>[]
 | _::η,0,w=>w::η
 | o::η,i+1,w=>o::wr η i w
noncomputable abbrev put (η:Env)(i:Nat)(w:W):Env:=wr η i (some w)
noncomputable abbrev del (η:Env)(i:Nat):Env:=wr η i none
noncomputable def look:W->Option W
 | (.s,t)=>some (.s,t)
 | (_,t)=>if t.leaf=true then some (.d,t) else none
noncomputable def toS:Option W->Option W
 | some (_,t)=>some (.s,t)
 | none=>none
noncomputable def share:List Nat->Env->Env
 | [],η=>η
 | i::is,η=>share is (wr η i (toS (rd η i)))
noncomputable def lfO:Option W->Option W
 | some (_,t)=>if t.leaf=true then some (.d,t) else none
 | none=>none
noncomputable def fV:Env->Env
 | []=>[]
 | _::η=>none::fV η
noncomputable def lD:List Nat->Env->Env->Env
 | [],_,η=>η
 | i::is,η0,η=>lD is η0 (wr η i (toS (rd η0 i)))
noncomputable def gc:List Nat->Env->Env->Env
 | [],_,η=>η
 | i::is,η0,η=>gc is η0 (wr η i (lfO (rd η0 i)))
noncomputable def dG (vs ls:List Nat)(η:Env):Env:=gc ls η (lD vs η (fV η))
noncomputable def after (m:Md)(vs:List Nat)(η:Env):Env:=match m with
 | .d=>η
 | _=>share vs η
noncomputable def aL:List Nat->List W->Env->Option Env
 | [],[],η=>some η
 | i::is,w::ws,η=>aL is ws (put η i w)
 | _,_,_=>none
noncomputable def my (m:Md):Nat->List T->List (List W)
 | _,[]=>[]
 | i,t::ts=>[(.d,.int i),(m,t)]::my m (i+1) ts
noncomputable def er (m n:Md):List T->List T->List (List W)
 | t::ts,u::us=>[(m,t),(n,u)]::er m n ts us
 | _,_=>[]
noncomputable def pe:List T->Option (List (List W))
 | []=>some []
 | .tup [x,y]::ts=>(pe ts).map ([(.s,x),(.s,y)]::·)
 | _::_=>none
noncomputable def qc:List T->List T->List T->List (List W)
 | t::ts,u::us,v::vs=>[(.s,t),(.s,u),(.s,v)]::qc ts us vs
 | _,_,_=>[]
noncomputable def aY:Ik->List W->Option (List (List W))
 | .seq,[(_,.lst ts)]=>some (ts.map fun t=>[(.s,t)])
 | .seq,[(_,.tup ts)]=>some (ts.map fun t=>[(.s,t)])
 | .seq,[(_,.scr ns)]=>some (ns.map fun n=>[(.d,.int n)])
 | .rng,[(_,.int n)]=>if decide (n.natAbs < 4611686018427387904)&&fits n.toNat then some ((a0q n.toNat).map fun (k:Nat)=>[(.d,.int k)]) else none
 | .rng,[(_,.int i),(_,.int j)]=>if decide (i.natAbs < 4611686018427387904)&&decide (j.natAbs < 4611686018427387904)&&fits (j-i).toNat then some ((a0q (j-i).toNat).map fun (k:Nat)=>[(.d,.int (i+k))]) else none
 | .rng,[(_,.int i),(_,.int j),(_,.int c)]=>if decide (i.natAbs < 4611686018427387904)&&decide (j.natAbs < 4611686018427387904)&&decide (c=-1)&&fits (i-j).toNat then some ((a0q (i-j).toNat).map fun (k:Nat)=>[(.d,.int (i-k))]) else none
 | .enm,[(_,.lst ts)]=>some (my .s 0 ts)
 | .enmT,[(_,.tup ts)]=>some (my .s 0 ts)
 | .zip,[(m,a),(n,b)]=>(elems (m,a)).bind fun ts=>(elems (n,b)).bind fun us=>some (er .s .s ts us)
 | .sq2,[(_,.lst ts)]=>pe ts
 | .zip3,[(_,.lst ts),(_,.lst us),(_,.lst vs)]=>some (qc ts us vs)
 | .chr,[(_,.str x)]=>some (x.cps.toList.map fun c=>[(.d,.str ⟨#[c]⟩)])
 | _,_=>none
noncomputable abbrev Call:=Nat->List W->Res (W×List W)
noncomputable abbrev RE:=Res (W×Env)
noncomputable def lf (m:Md)(t:T):Md:=if t.leaf=true then .d else m
noncomputable def fF:List W->Md
 | []=>.d
 | w::ws=>(lf w.1 w.2).meet (fF ws)
noncomputable def aP:List W->List T
 | []=>[]
 | w::ws=>w.2::aP ws
noncomputable def ak:List Nat->Env->Env
 | [],η=>η
 | i::is,η=>ak is (del η i)
noncomputable def ios:List E->List Nat
 | []=>[]
 | .io i::es=>i::ios es
 | _::es=>ios es
noncomputable def putAll:List Nat->List W->Env->Env
 | i::is,w::ws,η=>putAll is ws (put η i w)
 | _,_,η=>η
noncomputable def Dr:W->List W->Option (W×W)
 | (.s,_),_=>none
 | (m,.lst ts),[]=>(ts.getLast?).map fun t=>((m.kid,t),(m,.lst ts.dropLast))
 | (m,.lst (t::ts)),[(_,.int 0)]=>some ((m.kid,t),(m,.lst ts))
 | _,_=>none
noncomputable def gN:W->W->Option W
 | (.s,_),_=>none
 | (m,.lst ts),(n,t)=>if ts.length < LIM then some ((m.kid.meet (lf n t)).up,.lst (ts++[t])) else none
 | _,_=>none
noncomputable def gL:W->W->Option W
 | (.s,_),_=>none
 | (m,.lst ts),(n,.lst us)=>if ts.length+us.length<=LIM then some ((m.kid.meet n.kid).up,.lst (ts++us)) else none
 | _,_=>none
noncomputable def n8 (k:Int ⊕ Str)(t:T):List (Int ⊕ Str)->List T->List (Int ⊕ Str)×List T
 | [],_=>([k],[t])
 | y::ys,v::vs=>if y=k then (y::ys,t::vs) else ((y::(n8 k t ys vs).1),(v::(n8 k t ys vs).2))
 | y::ys,[]=>(y::ys,[])
noncomputable def Cy:W->W->W->Option W
 | (.s,_),_,_=>none
 | (m,.dct ks vs),(_,k),(_,t)=>(yS k).bind fun q=>if decide (ks.length < LIM)&&au t then some (m,.dct (n8 q t ks vs).1 (n8 q t ks vs).2) else none
 | _,_,_=>none
noncomputable def Ds:W->W->W->Option W
 | (.s,_),_,_=>none
 | (m,.dct ks vs),(_,k),(_,t)=>(yS k).bind fun q=>if decide (ks.length < LIM) then some (.o .s,.dct (n8 q t ks vs).1 (n8 q t ks vs).2) else none
 | _,_,_=>none
noncomputable def Ew:W->W->Option W
 | (.s,_),_=>none
 | (m,.lst ts),(_,t)=>if decide (ts.length < LIM)&&leaves ts&&t.leaf then some (m,.lst (t::ts)) else none
 | _,_=>none
noncomputable def EF:W->Option W
 | (.s,_)=>none
 | (m,.lst ts)=>if decide (ts.length < LIM)&&leaves ts then some (m,.lst ts.reverse) else none
 | _=>none
noncomputable def apU (ts:List T)(q:Nat)(t:T):Option T->Option W
 | some (.lst us)=>if decide (us.length < LIM)&&t.leaf then some (.d,.lst (ts.set q (.lst (us++[t])))) else none
 | _=>none
noncomputable def EH:Option W->Option W->Option W->Option W
 | some (.d,.lst ts),some (_,.int j),some (_,t)=>(ixN ts.length j).bind fun q=>apU ts q t ts[q]?
 | _,_,_=>none
noncomputable def Cz:Option W->Option W->Option W->Option W
 | some (.s,_),_,_=>none
 | some (m,.lst ts),some (_,.int j),some (_,t)=>if decide (0<=j)&&decide (j.toNat<=ts.length)&&decide (ts.length < 1000)&&leaves ts&&t.leaf then some (m,.lst (ts.take j.toNat++t::ts.drop j.toNat)) else none
 | _,_,_=>none
noncomputable def DV (ts:List T)(q:Nat)(cs:List T):Option T->Option W
 | some (.lst us)=>if decide (us.length < LIM)&&leaves cs&&decide (cs.length<=100) then some (.d,.lst (ts.set q (.lst (us++[.tup cs])))) else none
 | _=>none
noncomputable def DO (cs:List T):Option W->Option W->Option W
 | some (.d,.lst ts),some (_,.int j)=>(ixN ts.length j).bind fun q=>DV ts q cs ts[q]?
 | _,_=>none
noncomputable def BI (ts:List T)(q:Nat):Option T->Option W
 | some (.lst us)=>if us.isEmpty then none else some (.d,.lst (ts.set q (.lst us.dropLast)))
 | _=>none
noncomputable def Dg:Option W->Option W->Option W
 | some (.d,.lst ts),some (_,.int j)=>(ixN ts.length j).bind fun q=>BI ts q ts[q]?
 | _,_=>none
noncomputable def isL:T->Bool
 | .lst _=>true
 | _=>false
noncomputable def DM:Option W->Option W
 | some (.d,.lst ts)=>if ts.all isL then some (.d,.lst (ts.map fun _=>.lst [])) else none
 | _=>none
noncomputable def v7:W->W->Option (W×W)
 | (.s,_),_=>none
 | (m,.lst ts),(_,.int j)=>if decide (0<=j)&&decide (j < 1000)&&leaves ts then (ts[j.toNat]?).map fun t=>((.d,t),(m,.lst (ts.eraseIdx j.toNat))) else none
 | _,_=>none
noncomputable def dI:W->W->W->Option W
 | (.s,_),_,_=>none
 | (m,.lst ts),(_,.int j),(n,t)=>(ixN ts.length j).map fun k=>((m.kid.meet (lf n t)).up,.lst (ts.set k t))
 | _,_,_=>none
noncomputable def eg:Option W->Res Unit
 | some (_,.lst _)=>.ok ()
 | _=>.no
noncomputable def Bp:W->Option (List W)
 | (m,.tup ts)=>some (ts.map fun t=>(m.kid,t))
 | _=>none
noncomputable def ret {α:Type}(η:Env)(o:Option α):Res (α×Env):=match o with
 | some a=>.ok (a,η)
 | none=>.no
noncomputable def onB {α:Type}:T->(Env->Res α)->(Env->Res α)->Env->Res α
 | .bl true,f,_,η=>f η
 | .bl false,_,g,η=>g η
 | _,_,_,_=>.no
noncomputable def onT {α:Type}(f g:Env->Res α)(p:W×Env):Res α:=match truth p.1.2 with
 | some true=>f p.2
 | some false=>g p.2
 | none=>.no
noncomputable def okW {α:Type}(a:α)(η:Env):Res (α×Env):=.ok (a,η)
noncomputable def kv (p:List W×Env):RE:=.ok (((fF p.1).up,.tup (aP p.1)),p.2)
noncomputable def rS (h:Bool)(p:List W×Env):RE:=.ok ((if h then (fF p.1).up else .o .s,.lst (aP p.1)),p.2)
noncomputable def kWk (m:Md)(p:W×Env):RE:=ret p.2 (if m.le p.1.1 then some (m,p.1.2) else none)
noncomputable def kOp (o:Op)(h:Bool)(p:List W×Env):RE:=ret p.2 (oSem o h p.1)
noncomputable def pf (f:Env->RE)(p:W×Env):RE:=onT f (okW p.1) p
noncomputable def kOr (f:Env->RE)(p:W×Env):RE:=onT (okW p.1) f p
noncomputable def nX (p:W×Env):RE:=ret p.2 ((truth p.1.2).map fun b=>(.d,.bl (!b)))
noncomputable def kC3 (q:Op)(y:W)(z:W×Env):RE:=ret z.2 (oSem q false [y,z.1])
noncomputable def then' {α β:Type}(f:Env->Res (α×Env))(k:α×Env->Res β)(η:Env):Res β:=(f η).bind k
noncomputable def kC2 (o q:Op)(fc:Env->RE)(x:W)(y:W×Env):RE:=(ret y.2 (oSem o false [x,y.1])).bind fun k=>onB k.1.2 (then' fc (kC3 q y.1)) (okW (.d,.bl false)) k.2
noncomputable def kC1 (o q:Op)(fb fc:Env->RE)(x:W×Env):RE:=(fb x.2).bind (kC2 o q fc x.1)
noncomputable def jo (is:List Nat)(η:Env)(r:W×List W):RE:=.ok (r.1,putAll is r.2 η)
noncomputable def gE (C:Call)(f:Nat)(is:List Nat)(p:List W×Env):RE:=(C f p.1).bind (jo is p.2)
noncomputable def dY (p:W×Env):Res (Option W×Env):=.ok (some p.1,p.2)
noncomputable def cD (f:Env->RE)(η:Env):Res (Option W×Env):=(f η).bind dY
noncomputable def fO (c f:Env->RE)(η:Env):Res (Option W×Env):=(c η).bind (onT (cD f) (okW none))
noncomputable def aJ (tg:List Nat)(f:Env->Res (Option W×Env)):List (List W)->Env->List W->Res (List W×Env)
 | [],η,acc=>.ok (acc,η)
 | ws::r,η,acc=>(ofO (aL tg ws η)).bind fun η1=>(f η1).bind fun p=>aJ tg f r (ak tg p.2) (acc++p.1.toList)
noncomputable def okD (w:W):Bool:=w.1==.d || w.2.leaf
noncomputable def gP (h:Bool)(q:List W×Env):RE:=ret q.2 (if h then (if q.1.all okD then some (.d,.lst (aP q.1)) else none) else some (.o .s,.lst (aP q.1)))
noncomputable def eG (h:Bool)(k:Ik)(tg:List Nat)(f:Env->Res (Option W×Env))(p:List W×Env):RE:=(ret (ak tg p.2) (aY k p.1)).bind fun t=>(aJ tg f t.1 t.2 []).bind (gP h)
noncomputable def vwT:Option W->Option (List T)
 | some (.s,_)=>none
 | some (_,.lst ts)=>if leaves ts then some ts else none
 | _=>none
noncomputable def kV2 (i:Nat)(w:Option W)(p:W×Env):RE:=.ok (p.1,wr p.2 i w)
noncomputable def kV1 (h:Bool)(i t:Nat)(f:Env->Res (Option W×Env))(η:Env)(ts:List T):RE:=((aJ [t] f (ts.map fun u=>[(.s,u)]) (ak [t] (del η i)) []).bind (gP h)).bind (kV2 i (rd η i))
noncomputable def pS (f:Env->Res (List W×Env))(η:Env)(k:List W×Env->RE)(_:Unit):RE:=(f η).bind k
noncomputable def tG (i:Nat)(p:List W×Env):RE:=(ofO ((rd p.2 i).bind fun w=>Dr w p.1)).bind fun r=>.ok (r.1,put p.2 i r.2)
noncomputable def CU:Option W->Option W->Option W
 | some (.o .s,.lst ts),some (_,.int j)=>(atI ts j).map fun t=>(.s,t)
 | some (.s,.lst ts),some (_,.int j)=>(atI ts j).map fun t=>(.s,t)
 | _,_=>none
noncomputable def q9 (f:Env->RE)(η:Env)(k:W×Env->RE)(_:Unit):RE:=(f η).bind k
noncomputable def oC (i:Nat)(p:W×Env):RE:=(ofO ((rd p.2 i).bind fun w=>v7 w p.1)).bind fun r=>.ok (r.1,put p.2 i r.2)
noncomputable def kCons (w:W)(q:List W×Env):Res (List W×Env):=.ok (w::q.1,q.2)
noncomputable def bA (f:Env->Res (List W×Env))(p:W×Env):Res (List W×Env):=(f p.2).bind (kCons p.1)
noncomputable def qv:List Nat->Md->T->Option (W×T)
 | [],m,t=>some ((m,t),.gone)
 | j::p,m,.lst ts=>(ts[j]?).bind fun t=>(qv p m.kid t).map fun r=>(r.1,.lst (ts.set j r.2))
 | j::p,m,.tup ts=>(ts[j]?).bind fun t=>(qv p m.kid t).map fun r=>(r.1,.tup (ts.set j r.2))
 | _::_,_,_=>none
noncomputable def wD (p:List Nat)(w:W):Option (W×W):=(qv p w.1 w.2).map fun r=>(r.1,(w.1,r.2))
noncomputable def B8 (i:Nat)(η:Env)(r:W×W):RE:=.ok (r.1,put η i r.2)
noncomputable def n5 {α:Type}(tab:List (Str×α))(f:α->Env->RE)(p:W×Env):RE:=match p.1.2 with
 | .str x=>match tab.lookup x with
  | some a=>f a p.2
  | none=>.no
 | _=>.no
noncomputable def kCT (C:Call)(fa:Env->Res (List W×Env))(is:List Nat)(j:Nat)(η:Env):RE:=(fa η).bind (gE C j is)
noncomputable def kIn (neg:Bool)(ks:List Str)(p:W×Env):RE:=match p.1.2 with
 | .str x=>.ok ((.d,.bl (ks.contains x != neg)),p.2)
 | _=>.no
noncomputable def okS (t:T)(η:Env):RE:=.ok ((.s,t),η)
noncomputable def sP (tab:List (Str×T))(p:W×Env):RE:=match p.1.2 with
 | .str x=>.ok ((.s,(tab.lookup x).getD .non),p.2)
 | _=>.no
noncomputable def kX (vs:List Nat)(η:Env)(p:W×Env):RE:=.ok ((lf p.1.1 p.1.2,p.1.2),after (lf p.1.1 p.1.2) vs η)
noncomputable def kIo (i:Nat)(p:List W×Env):Res (List W×Env):=(ofO (rd p.2 i)).bind fun w=>.ok (w::p.1,del p.2 i)
section
variable (C:Call)
mutual
noncomputable def evE:E->Env->RE
 | .var i,η=>ret η ((rd η i).bind look)
 | .mv i,η=>ret (del η i) (rd η i)
 | .io i,η=>ret (del η i) (rd η i)
 | .cst t,η=>.ok ((.d,t),η)
 | .glb _ t,η=>.ok ((.s,t),η)
 | .tup es,η=>(evL es η).bind kv
 | .lst h es,η=>(evL es η).bind (rS h)
 | .wk m e,η=>(evE e η).bind (kWk m)
 | .op o h es,η=>(evL es η).bind (kOp o h)
 | .and a b,η=>(evE a η).bind (pf (evE b))
 | .or a b,η=>(evE a η).bind (kOr (evE b))
 | .not a,η=>(evE a η).bind nX
 | .ifx c a b,η=>(evE c η).bind (onT (evE a) (evE b))
 | .chain o q a b c,η=>(evE a η).bind (kC1 o q (evE b) (evE c))
 | .call f es,η=>(evA es η).bind (gE C f (ios es))
 | .comp h k src tg none elt,η=>(evL src η).bind (eG h k tg (cD (evE elt)))
 | .comp h k src tg (some c) elt,η=>(evL src η).bind (eG h k tg (fO (evE c) (evE elt)))
 | .pop i es,η=>(eg (rd η i)).bind (pS (evL es) η (tG i))
 | .lenV i,η=>ret η ((rd η i).bind fun w=>oSem .len false [w])
 | .ixV i j,η=>ret η (CU (rd η i) (rd η j))
 | .compV h i t c e,η=>(ofO (vwT (rd η i))).bind (kV1 h i t (fO (evE c) (evE e)) η)
 | .popN i e,η=>(eg (rd η i)).bind (q9 (evE e) η (oC i))
 | .tupA es,η=>(evA es η).bind kv
 | .qx vs ls e,η=>(evE e (dG vs ls η)).bind (kX vs η)
 | .mvP i p,η=>(ofO ((rd η i).bind (wD p))).bind (B8 i η)
 | .callT tab k es,η=>(evE k η).bind (n5 tab (kCT C (evA es) (ios es)))
 | .inT neg ks e,η=>(evE e η).bind (kIn neg ks)
 | .ixT tab e,η=>(evE e η).bind (n5 tab okS)
 | .getT tab e,η=>(evE e η).bind (sP tab)
noncomputable def evL:List E->Env->Res (List W×Env)
 | [],η=>.ok ([],η)
 | e::es,η=>(evE e η).bind (bA (evL es))
noncomputable def evA:List E->Env->Res (List W×Env)
 | [],η=>.ok ([],η)
 | .io i::es,η=>(evA es η).bind (kIo i)
 | e::es,η=>(evE e η).bind (bA (evA es))
end
noncomputable def kT (η:Env)(p:W×Env):Res (Bool×Env):=ret η (truth p.1.2)
noncomputable def kT2 (p:W×Env):Res (Bool×Env):=ret p.2 (truth p.1.2)
noncomputable def evX:X->E->Env->RE
 | .q vs ls,e,η=>(evE C e (dG vs ls η)).bind (kX vs η)
 | .l vs,e,η=>evE C e (share vs η)
noncomputable def evT:X->E->Env->Res (Bool×Env)
 | .q vs ls,e,η=>(evE C e (dG vs ls η)).bind (kT η)
 | .l vs,e,η=>(evE C e (share vs η)).bind kT2
noncomputable def Fl.of {α:Type}(η:Env):Res α->(α->Fl)->Fl
 | .ok a,f=>f a
 | .ex _,_=>.no
 | .no,_=>.no
noncomputable def Fl.seq:Fl->(Env->Fl)->Fl
 | .nx η,f=>f η
 | z,_=>z
noncomputable def Fl.turn:Fl->(Env->Fl)->Fl
 | .nx η,f=>f η
 | .bk η,_=>.nx η
 | z,_=>z
noncomputable def onF:Bool->(Env->Fl)->(Env->Fl)->Env->Fl
 | true,f,_,η=>f η
 | false,_,g,η=>g η
noncomputable def cG (tg:List Nat)(f:Env->Fl):List (List W)->Env->Fl
 | [],η=>.nx η
 | ws::r,η=>Fl.of η (ofO (aL tg ws η)) fun η1=>Fl.turn (f η1) (cG tg f r)
noncomputable def kIf (f g:Env->Fl)(p:Bool×Env):Fl:=onF p.1 f g p.2
noncomputable def wQ (f:Env->Fl)(g:Env->Fl)(η:Env):Fl:=Fl.turn (f η) g
noncomputable def yX (c:Env->Res (Bool×Env))(f:Env->Fl):Nat->Env->Fl
 | 0,_=>.no
 | n+1,η=>Fl.of η (c η) (kIf (wQ f (yX c f n)) .nx)
noncomputable def CA:Nat:=1000000000000
noncomputable def nxO (η:Env):Option Env->Fl
 | some η=>.nx η
 | none=>.no
noncomputable def tK (i:Nat)(p:W×Env):Fl:=.nx (put p.2 i p.1)
noncomputable def v9 (is:List Nat)(p:W×Env):Fl:=nxO p.2 ((Bp p.1).bind fun ws=>aL is ws p.2)
noncomputable def qI (i:Nat)(p:W×Env):Fl:=nxO p.2 (((rd p.2 i).bind fun w=>gN w p.1).map fun w=>put p.2 i w)
noncomputable def qd (i:Nat)(p:W×Env):Fl:=nxO p.2 (((rd p.2 i).bind fun w=>gL w p.1).map fun w=>put p.2 i w)
noncomputable def rY (i:Nat)(x:W)(q:W×Env):Fl:=nxO q.2 (((rd q.2 i).bind fun w=>dI w q.1 x).map fun w=>put q.2 i w)
noncomputable def rm (i:Nat)(x:W)(q:W×Env):Fl:=nxO q.2 (((rd q.2 i).bind fun w=>Cy w q.1 x).map fun w=>put q.2 i w)
noncomputable def pb (i:Nat)(f:Env->RE)(η:Env)(p:W×Env):Fl:=Fl.of η (f p.2) (rm i p.1)
noncomputable def xT (i:Nat)(x:W)(q:W×Env):Fl:=nxO q.2 (((rd q.2 i).bind fun w=>Ds w q.1 x).map fun w=>put q.2 i w)
noncomputable def CK (i:Nat)(f:Env->RE)(η:Env)(p:W×Env):Fl:=Fl.of η (f p.2) (xT i p.1)
noncomputable def Eu (i:Nat)(p:W×Env):Fl:=nxO p.2 (((rd p.2 i).bind fun w=>Ew w p.1).map fun w=>put p.2 i w)
noncomputable def uJ (i:Nat)(f:Env->RE)(η:Env)(p:W×Env):Fl:=Fl.of η (f p.2) (rY i p.1)
noncomputable def jw (f:Env->RE)(η:Env)(k:W×Env->Fl)(_:Unit):Fl:=Fl.of η (f η) k
noncomputable def kNx (p:W×Env):Fl:=.nx p.2
noncomputable def kRt (p:W×Env):Fl:=.rt p.1 p.2
noncomputable def j1 (tg:List Nat)(f:Env->Fl)(t:List (List W)×Env):Fl:=cG tg f t.1 t.2
noncomputable def vo (vs:List Nat)(k:Ik)(tg:List Nat)(f:Env->Fl)(η:Env)(p:List W×Env):Fl:=Fl.of η (ret (share vs η) (aY k p.1)) (j1 tg f)
noncomputable def mC (k:Ik)(tg:List Nat)(f:Env->Fl)(p:List W×Env):Fl:=Fl.of p.2 (ret p.2 (aY k p.1)) (j1 tg f)
noncomputable def outC (k:W->Env->Fl)(η:Env):Res (W×List W)->Fl
 | .ok (w,[])=>k w η
 | .ex t=>.ex t η
 | _=>.no
noncomputable def kC (f:Nat)(k:W->Env->Fl)(p:List W×Env):Fl:=outC k p.2 (C f p.1)
noncomputable def kAsgC (i:Nat)(w:W)(η:Env):Fl:=.nx (put η i w)
noncomputable def kExpC (_:W)(η:Env):Fl:=.nx η
noncomputable def kRaise (c:Nat)(fld:Str)(p:W×Env):Fl:=match p.1.2 with
 | .int n=>if decide (n.natAbs.log2 < 1920)=true then .ex (.ins c [fld] [.int n]) p.2 else .no
 | _=>.no
noncomputable def Fl.drop (i:Nat):Fl->Fl
 | .nx η=>.nx (del η i)
 | .rt w η=>.rt w (del η i)
 | _=>.no
noncomputable def Fl.caught (cs:List Nat)(i:Nat)(h:Env->Fl):Fl->Fl
 | .ex (.ins c fs vs) η=>if cs.contains c=true then Fl.drop i (h (put η i (.s,.ins c fs vs))) else .no
 | .ex _ _=>.no
 | z=>z
mutual
noncomputable def evS:S->Env->Fl
 | .asg x i e,η=>Fl.of η (evX C x e η) (tK i)
 | .asgT x is e,η=>Fl.of η (evX C x e η) (v9 is)
 | .setI x i k e,η=>Fl.of η (evX C x e η) (uJ i (evX C x k) η)
 | .setK x i k e,η=>Fl.of η (evX C x e η) (pb i (evX C x k) η)
 | .setS x i k e,η=>Fl.of η (evX C x e η) (CK i (evX C x k) η)
 | .insF x i e,η=>Fl.of η (eg (rd η i)) (jw (evX C x e) η (Eu i))
 | .revS i,η=>nxO η (((rd η i).bind EF).map fun w=>put η i w)
 | .apN i k l,η=>nxO η ((EH (rd η i) (rd η k) (rd η l)).map fun w=>put η i w)
 | .insN i k l,η=>nxO η ((Cz (rd η i) (rd η k) (rd η l)).map fun w=>put η i w)
 | .apC i k cs,η=>nxO η ((DO cs (rd η i) (rd η k)).map fun w=>put η i w)
 | .popI i k,η=>nxO η ((Dg (rd η i) (rd η k)).map fun w=>put η i w)
 | .clrA i j,η=>nxO η ((DM (rd η i)).map fun w=>put (del η j) i w)
 | .exp x e,η=>Fl.of η (evX C x e η) kNx
 | .app x i e,η=>Fl.of η (eg (rd η i)) (jw (evX C x e) η (qI i))
 | .ext x i e,η=>Fl.of η (eg (rd η i)) (jw (evX C x e) η (qd i))
 | .ret vs e,η=>Fl.of η (evE C e (share vs η)) kRt
 | .retN,η=>.rt (.d,.non) η
 | .ite x c a b,η=>Fl.of η (evT C x c η) (kIf (evSs a) (evSs b))
 | .forS vs ls k src tg body,η=>Fl.of η (evL C src (dG vs ls η)) (vo vs k tg (evSs body) η)
 | .forU k src tg body,η=>Fl.of η (evL C src η) (mC k tg (evSs body))
 | .whl x c body,η=>yX (evT C x c) (evSs body) CA η
 | .brk,η=>.bk η
 | .pas,η=>.nx η
 | .stop,_=>.no
 | .tri body,η=>evSs body η
 | .asgC vs i f es,η=>Fl.of η (evL C es (share vs η)) (kC C f (kAsgC i))
 | .expC vs f es,η=>Fl.of η (evL C es (share vs η)) (kC C f kExpC)
 | .retC vs f es,η=>Fl.of η (evL C es (share vs η)) (kC C f .rt)
 | .raise c fld x e,η=>Fl.of η (evX C x e η) (kRaise c fld)
 | .tryC cs body i h,η=>Fl.caught cs i (evSs h) (evSs body η)
noncomputable def evSs:List S->Env->Fl
 | [],η=>.nx η
 | s::r,η=>Fl.seq (evS s η) (evSs r)
end
end
noncomputable def backs:List Nat->Env->Option (List W)
 | [],_=>some []
 | i::is,η=>(rd η i).bind fun w=>(backs is η).bind fun ws=>some (w::ws)
noncomputable def rX (w:W)(b:List W):Res (W×List W):=.ok (w,b)
noncomputable def Fl.out (io:List Nat):Fl->Res (W×List W)
 | .nx η=>(ofO (backs io η)).bind (rX (.d,.non))
 | .rt w η=>(ofO (backs io η)).bind (rX w)
 | .ex t _=>.ex t
 | _=>.no
noncomputable def runF (C:Call)(f:Fn)(ws:List W):Res (W×List W) :=
 if ws.length=f.ps then Fl.out f.io (evSs C f.body (ws.map some++a0h f.ns none)) else .no
noncomputable abbrev DK:=List Fn
noncomputable def spoilW (n:Nat):List W->Res (W×List W)
 | [(m,t)]=>if (lf m t==.d&&(decide (dp t<=n)&&decide (dp t<=64)))=true then .ok ((.d,.non),[]) else .no
 | _=>.no
noncomputable def rowsT:List Nat->List T->List T
 | [],_=>[]
 | n::ns,ts=>.lst (ts.take n)::rowsT ns (ts.drop n)
noncomputable def natsOf:List T->Option (List Nat)
 | []=>some []
 | .int (.ofNat n)::ts=>(natsOf ts).map (n::·)
 | _::_=>none
noncomputable def rowsW:List W->Res (W×List W)
 | [(_,.lst ls),(m,.lst ts)]=>(ofO (natsOf ls)).bind fun ns=>.ok ((m.kid.up.up,.lst (rowsT ns ts)),[])
 | _=>.no
noncomputable def callR (P:DK)(s r:Nat):Nat->Call
 | 0=>fun _ _=>.no
 | n+1=>fun f ws=>if f=s then spoilW n ws else if f=r then rowsW ws else (ofO P[f]?).bind fun d=>runF (callR P s r n) d ws
noncomputable abbrev zf:Fn:={ ps:=0,ns:=0,io:=[],body:=[.stop] }
theorem xo (C:Call)(i:Nat)(η:Env):evE C (.var i) η=ret η ((rd η i).bind look):=rfl
theorem xJ (C:Call)(i:Nat)(η:Env):evE C (.mv i) η=ret (del η i) (rd η i):=rfl
theorem Ae (C:Call)(i:Nat)(η:Env):evE C (.io i) η=ret (del η i) (rd η i):=rfl
theorem xI (C:Call)(t:T)(η:Env):evE C (.cst t) η=.ok ((.d,t),η):=rfl
theorem zS (C:Call)(es:List E)(η:Env):evE C (.tup es) η=(evL C es η).bind kv:=rfl
theorem zc (C:Call)(h:Bool)(es:List E)(η:Env):evE C (.lst h es) η=(evL C es η).bind (rS h):=rfl
theorem x9 (C:Call)(o:Op)(h:Bool)(es:List E)(η:Env):evE C (.op o h es) η=(evL C es η).bind (kOp o h):=rfl
theorem uv (C:Call)(a:E)(b:E)(η:Env):evE C (.and a b) η=(evE C a η).bind (pf (evE C b)):=rfl
theorem uM (C:Call)(a:E)(b:E)(η:Env):evE C (.or a b) η=(evE C a η).bind (kOr (evE C b)):=rfl
theorem tM (C:Call)(a:E)(η:Env):evE C (.not a) η=(evE C a η).bind nX:=rfl
theorem uq (C:Call)(c:E)(a:E)(b:E)(η:Env):evE C (.ifx c a b) η=(evE C c η).bind (onT (evE C a) (evE C b)):=rfl
theorem uP (C:Call)(o:Op)(q:Op)(a:E)(b:E)(c:E)(η:Env):evE C (.chain o q a b c) η=(evE C a η).bind (kC1 o q (evE C b) (evE C c)):=rfl
theorem tE (C:Call)(f:Nat)(es:List E)(η:Env):evE C (.call f es) η=(evA C es η).bind (gE C f (ios es)):=rfl
theorem sC (C:Call)(h:Bool)(k:Ik)(src:List E)(tg:List Nat)(elt:E)(η:Env):evE C (.comp h k src tg none elt) η=(evL C src η).bind (eG h k tg (cD (evE C elt))):=rfl
theorem vL (C:Call)(h:Bool)(k:Ik)(src:List E)(tg:List Nat)(c:E)(elt:E)(η:Env):evE C (.comp h k src tg (some c) elt) η=(evL C src η).bind (eG h k tg (fO (evE C c) (evE C elt))):=rfl
theorem uD (C:Call)(i:Nat)(es:List E)(η:Env):evE C (.pop i es) η=(eg (rd η i)).bind (pS (evL C es) η (tG i)):=rfl
theorem zi (h:Bool)(m n:Md)(ts:List T)(i:Int):oSem .sl2 h [(m,.lst ts),(n,.int i)]=newL h m.kid (cut ts none (some i)):=rfl
theorem yL (h:Bool)(m n:Md)(ts:List T)(i:Int):oSem .sl1 h [(m,.lst ts),(n,.int i)]=newL h m.kid (cut ts (some i) none):=rfl
theorem zC (h:Bool)(m n:Md)(ts:List T)(k:Int):oSem .mul h [(m,.lst ts),(n,.int k)]=if decide (k.natAbs < 4611686018427387904)&&fits (ts.length * k.toNat) then newL h .s (a0h k.toNat ts).flatten else none:=rfl
theorem Be (h:Bool)(m n:Md)(i j:Int):oSem .max h [(m,.int i),(n,.int j)]=some (.d,.int (if j > i then j else i)):=rfl
theorem BH (h:Bool)(m n:Md)(i j:Int):oSem .rng h [(m,.int i),(n,.int j)]=if decide (i.natAbs < 4611686018427387904)&&decide (j.natAbs < 4611686018427387904)&&fits (j-i).toNat then some (.d,.lst ((a0q (j-i).toNat).map fun (k:Nat)=>T.int (i+k))) else none:=rfl
theorem sY (m n:Md)(ts us:List T):aY .zip [(m,.lst ts),(n,.lst us)]=some (er .s .s ts us):=rfl
theorem ub (m n:Md)(ts us:List T):aY .zip [(m,.tup ts),(n,.tup us)]=some (er .s .s ts us):=rfl
theorem Al (m:Md)(ns:List Int):aY .seq [(m,.scr ns)]=some (ns.map fun n=>[(.d,.int n)]):=rfl
noncomputable def lkM:Md->Md
 | .s=>.s | _=>.d
theorem DJ:lkM .s=.s:=rfl
theorem En:lkM .d=.d:=rfl
theorem DI (m:Md):lkM (.o m)=.d:=rfl
theorem CZ (m:Md)(i:Int):look (m,.int i)=some (lkM m,.int i):=by cases m<;>rfl
theorem CD (m:Md)(b:Bool):look (m,.bl b)=some (lkM m,.bl b):=by cases m<;>rfl
theorem BA (m:Md)(x:Str):look (m,.str x)=some (lkM m,.str x):=by cases m<;>rfl
theorem Dz (m:Md):look (m,.non)=some (lkM m,.non):=by cases m<;>rfl
theorem AY (m n k:Md)(ts us vs:List T):aY .zip3 [(m,.lst ts),(n,.lst us),(k,.lst vs)]=some (qc ts us vs):=rfl
theorem zp (C:Call)(η:Env):evA C [] η=.ok ([],η):=rfl
theorem yY (C:Call)(i:Nat)(es:List E)(η:Env):evA C (.io i::es) η=(evA C es η).bind (kIo i):=rfl
theorem nD (C:Call)(i:Nat)(es:List E)(η:Env):evA C (.var i::es) η=(evE C (.var i) η).bind (bA (evA C es)):=rfl
theorem qY (C:Call)(i:Nat)(es:List E)(η:Env):evA C (.mv i::es) η=(evE C (.mv i) η).bind (bA (evA C es)):=rfl
theorem m8 (C:Call)(t:T)(es:List E)(η:Env):evA C (.cst t::es) η=(evE C (.cst t) η).bind (bA (evA C es)):=rfl
theorem nJ (C:Call)(l:List E)(es:List E)(η:Env):evA C (.tup l::es) η=(evE C (.tup l) η).bind (bA (evA C es)):=rfl
theorem mP (C:Call)(h:Bool)(l:List E)(es:List E)(η:Env):evA C (.lst h l::es) η=(evE C (.lst h l) η).bind (bA (evA C es)):=rfl
theorem oG (C:Call)(o:Op)(h:Bool)(l:List E)(es:List E)(η:Env):evA C (.op o h l::es) η=(evE C (.op o h l) η).bind (bA (evA C es)):=rfl
theorem mK (C:Call)(a b:E)(es:List E)(η:Env):evA C (.and a b::es) η=(evE C (.and a b) η).bind (bA (evA C es)):=rfl
theorem rV (C:Call)(a b:E)(es:List E)(η:Env):evA C (.or a b::es) η=(evE C (.or a b) η).bind (bA (evA C es)):=rfl
theorem nG (C:Call)(a:E)(es:List E)(η:Env):evA C (.not a::es) η=(evE C (.not a) η).bind (bA (evA C es)):=rfl
theorem og (C:Call)(c a b:E)(es:List E)(η:Env):evA C (.ifx c a b::es) η=(evE C (.ifx c a b) η).bind (bA (evA C es)):=rfl
theorem jT (C:Call)(o p:Op)(a b c:E)(es:List E)(η:Env):evA C (.chain o p a b c::es) η=(evE C (.chain o p a b c) η).bind (bA (evA C es)):=rfl
theorem kZ (C:Call)(f:Nat)(l:List E)(es:List E)(η:Env):evA C (.call f l::es) η=(evE C (.call f l) η).bind (bA (evA C es)):=rfl
theorem lu (C:Call)(h:Bool)(k:Ik)(src:List E)(tg:List Nat)(cnd:Option E)(elt:E)(es:List E)(η:Env):evA C (.comp h k src tg cnd elt::es) η=(evE C (.comp h k src tg cnd elt) η).bind (bA (evA C es)):=rfl
theorem evA_eq {C:Call}{e:E}{es:List E}{η:Env}(he:∀ i,e≠.io i):evA C (e::es) η=(evE C e η).bind (bA (evA C es)):=by
 cases e with
 | io i=>exact absurd rfl (he i)
 | _=>rfl
theorem vw (C:Call)(η:Env):evL C ([]) η=.ok ([],η):=rfl
theorem ua (C:Call)(e:E)(es:List E)(η:Env):evL C (e::es) η=(evE C e η).bind (bA (evL C es)):=rfl
theorem vG (C:Call)(x:X)(i:Nat)(e:E)(η:Env):evS C (.asg x i e) η=Fl.of η (evX C x e η) (tK i):=rfl
theorem sE (C:Call)(x:X)(is:List Nat)(e:E)(η:Env):evS C (.asgT x is e) η=Fl.of η (evX C x e η) (v9 is):=rfl
theorem k9 (C:Call)(x:X)(i:Nat)(k:E)(e:E)(η:Env):evS C (.setK x i k e) η=Fl.of η (evX C x e η) (pb i (evX C x k) η):=rfl
theorem vj (C:Call)(x:X)(i:Nat)(k:E)(e:E)(η:Env):evS C (.setI x i k e) η=Fl.of η (evX C x e η) (uJ i (evX C x k) η):=rfl
theorem um (C:Call)(x:X)(e:E)(η:Env):evS C (.exp x e) η=Fl.of η (evX C x e η) kNx:=rfl
theorem ui (C:Call)(x:X)(i:Nat)(e:E)(η:Env):evS C (.app x i e) η=Fl.of η (eg (rd η i)) (jw (evX C x e) η (qI i)):=rfl
theorem vg (C:Call)(x:X)(i:Nat)(e:E)(η:Env):evS C (.ext x i e) η=Fl.of η (eg (rd η i)) (jw (evX C x e) η (qd i)):=rfl
theorem vQ (C:Call)(vs:List Nat)(e:E)(η:Env):evS C (.ret vs e) η=Fl.of η (evE C e (share vs η)) kRt:=rfl
theorem sH (C:Call)(η:Env):evS C (.retN) η=.rt (.d,.non) η:=rfl
theorem uT (C:Call)(x:X)(c:E)(a:List S)(b:List S)(η:Env):evS C (.ite x c a b) η=Fl.of η (evT C x c η) (kIf (evSs C a) (evSs C b)):=rfl
theorem qs (C:Call)(k:Ik)(src:List E)(tg:List Nat)(body:List S)(η:Env):evS C (.forU k src tg body) η=Fl.of η (evL C src η) (mC k tg (evSs C body)):=rfl
theorem uL (C:Call)(vs:List Nat)(ls:List Nat)(k:Ik)(src:List E)(tg:List Nat)(body:List S)(η:Env):evS C (.forS vs ls k src tg body) η=Fl.of η (evL C src (dG vs ls η)) (vo vs k tg (evSs C body) η):=rfl
theorem vi (C:Call)(x:X)(c:E)(body:List S)(η:Env):evS C (.whl x c body) η=yX (evT C x c) (evSs C body) CA η:=rfl
theorem u7 (C:Call)(η:Env):evS C (.brk) η=.bk η:=rfl
theorem uf (C:Call)(η:Env):evS C (.pas) η=.nx η:=rfl
theorem oK (C:Call)(η:Env):evSs C ([]) η=.nx η:=rfl
theorem qP (C:Call)(s:S)(r:List S)(η:Env):evSs C (s::r) η=Fl.seq (evS C s η) (evSs C r):=rfl
theorem tU (C:Call)(vs:List Nat)(ls:List Nat)(e:E)(η:Env):evX C (.q vs ls) e η=(evE C e (dG vs ls η)).bind (kX vs η):=rfl
theorem vJ (C:Call)(vs:List Nat)(e:E)(η:Env):evX C (.l vs) e η=evE C e (share vs η):=rfl
theorem vN (C:Call)(vs:List Nat)(ls:List Nat)(e:E)(η:Env):evT C (.q vs ls) e η=(evE C e (dG vs ls η)).bind (kT η):=rfl
theorem uZ (C:Call)(vs:List Nat)(e:E)(η:Env):evT C (.l vs) e η=(evE C e (share vs η)).bind kT2:=rfl
theorem zr {α β:Type}(a:α)(f:α->Res β):(Res.ok a).bind f=f a:=rfl
theorem Ei {α:Type}(η:Env)(a:α)(f:α->Fl):Fl.of η (.ok a) f=f a:=rfl
theorem y0 (η:Env)(f:Env->Fl):Fl.seq (.nx η) f=f η:=rfl
theorem ym (w:W)(η:Env)(f:Env->Fl):Fl.seq (.rt w η) f=.rt w η:=rfl
theorem zP (η:Env)(f:Env->Fl):Fl.seq (.bk η) f=.bk η:=rfl
theorem vZ (η:Env)(f:Env->Fl):Fl.turn (.nx η) f=f η:=rfl
theorem vq (w:W)(η:Env)(f:Env->Fl):Fl.turn (.rt w η) f=.rt w η:=rfl
theorem vM (η:Env)(f:Env->Fl):Fl.turn (.bk η) f=.nx η:=rfl
theorem yk {α:Type}(f g:Env->Res α)(η:Env):onB (.bl true) f g η=f η:=rfl
theorem zT {α:Type}(f g:Env->Res α)(η:Env):onB (.bl false) f g η=g η:=rfl
theorem xl {α:Type}(f g:Env->Res α)(m:Md)(b:Bool)(η:Env):onT f g ((m,.bl b),η)=onB (.bl b) f g η:=by cases b<;>rfl
theorem AA {α:Type}(f g:Env->Res α)(m:Md)(η:Env):onT f g ((m,.bl true),η)=f η:=rfl
theorem Ab {α:Type}(f g:Env->Res α)(m:Md)(η:Env):onT f g ((m,.bl false),η)=g η:=rfl
theorem AX (f g:Env->Fl)(η:Env):onF true f g η=f η:=rfl
theorem y9 (f g:Env->Fl)(η:Env):onF false f g η=g η:=rfl
theorem Dm {α:Type}(a:α):ofO (some a)=.ok a:=rfl
theorem A8 {α:Type}(η:Env)(a:α):ret η (some a)=.ok (a,η):=rfl
theorem Bm (o:Option W)(η:Env):rd (o::η) 0=o:=rfl
theorem C5 (o:Option W)(η:Env)(i:Nat):rd (o::η) (i+1)=rd η i:=rfl
theorem BF (o w:Option W)(η:Env):wr (o::η) 0 w=w::η:=rfl
theorem B7 (o w:Option W)(η:Env)(i:Nat):wr (o::η) (i+1) w=o::wr η i w:=rfl
theorem vp (t:T):look (.s,t)=some (.s,t):=rfl
theorem sG (m:Md)(i:Int):(look (.d,.int i))=some (.d,.int i):=rfl
theorem tI (m:Md)(b:Bool):(look (.d,.bl b))=some (.d,.bl b):=rfl
theorem tY (x:Str):(look (.d,.str x))=some (.d,.str x):=rfl
theorem uV:(look (.d,.non))=some (.d,.non):=rfl
theorem BV (m:Md)(t:T):toS (some (m,t))=some (.s,t):=rfl
theorem AK:toS none=none:=rfl
theorem qX (η:Env):share [] η=η:=rfl
theorem qu (i:Nat)(is:List Nat)(η:Env):share (i::is) η=share is (wr η i (toS (rd η i))):=rfl
theorem pK:fV []=[]:=rfl
theorem oW (o:Option W)(η:Env):fV (o::η)=none::fV η:=rfl
theorem zL (vs ls:List Nat)(η:Env):dG vs ls η=gc ls η (lD vs η (fV η)):=rfl
theorem vF (η0 η:Env):lD [] η0 η=η:=rfl
theorem tZ (i:Nat)(is:List Nat)(η0 η:Env):lD (i::is) η0 η=lD is η0 (wr η i (toS (rd η0 i))):=rfl
theorem pO (η0 η:Env):gc [] η0 η=η:=rfl
theorem rB (i:Nat)(is:List Nat)(η0 η:Env):gc (i::is) η0 η=gc is η0 (wr η i (lfO (rd η0 i))):=rfl
theorem Bi (m:Md)(i:Int):lfO (some (m,.int i))=some (.d,.int i):=rfl
theorem CL (m:Md)(b:Bool):lfO (some (m,.bl b))=some (.d,.bl b):=rfl
theorem Br (m:Md)(x:Str):lfO (some (m,.str x))=some (.d,.str x):=rfl
theorem BE (m:Md):lfO (some (m,.non))=some (.d,.non):=rfl
theorem rU (vs:List Nat)(η:Env):after .d vs η=η:=rfl
theorem oB (vs:List Nat)(η:Env):after .s vs η=share vs η:=rfl
theorem pA (m:Md)(vs:List Nat)(η:Env):after (.o m) vs η=share vs η:=rfl
theorem yP (m:Md)(i:Int):lf m (.int i)=.d:=rfl
theorem xy (m:Md)(b:Bool):lf m (.bl b)=.d:=rfl
theorem zd (m:Md)(x:Str):lf m (.str x)=.d:=rfl
theorem yg (m:Md):lf m .non=.d:=rfl
theorem Ac (m:Md)(ts:List T):lf m (.lst ts)=m:=rfl
theorem Aq (m:Md)(ts:List T):lf m (.tup ts)=m:=rfl
theorem pk (t:T):lf .d t=.d:=by unfold lf; split<;>rfl
theorem zA (m:Md):Md.s.le m=true:=by cases m<;>rfl
theorem vY:Md.d.le .d=true:=rfl
theorem sU (m:Md):(Md.o m).le .d=true:=rfl
theorem uW (m n:Md):(Md.o m).le (.o n)=m.le n:=rfl
theorem xp (h:Bool)(m n:Md)(i j:Int):oSem .add h [(m,.int i),(n,.int j)]=some (.d,.int (i+j)):=rfl
theorem pU (h:Bool)(m n:Md)(ts us:List T):oSem .add h [(m,.lst ts),(n,.lst us)]=if fits (ts.length+us.length) then newL h (m.kid.meet n.kid) (ts++us) else none:=rfl
theorem oM (h:Bool)(m n:Md)(x y:Str):oSem .add h [(m,.str x),(n,.str y)]=if fits (x.cps.size+y.cps.size) then some (.d,.str (x++y)) else none:=rfl
theorem pE (h:Bool)(m n:Md)(ts us:List T):oSem .add h [(m,.tup ts),(n,.tup us)]=if fits (ts.length+us.length)&&!ts.isEmpty then some (.s,.tup (ts++us)) else none:=rfl
theorem CQ (h:Bool)(m n:Md)(i j:Int):oSem .sub h [(m,.int i),(n,.int j)]=some (.d,.int (i-j)):=rfl
theorem qL (h:Bool)(m n:Md)(i j:Int):oSem .mul h [(m,.int i),(n,.int j)]=if (decide (i.natAbs < 18446744073709551616)) || (decide (j.natAbs < 18446744073709551616)) then some (.d,.int (i * j)) else none:=rfl
theorem qD (h:Bool)(m n:Md)(i j:Int):oSem .fdiv h [(m,.int i),(n,.int j)]=if decide (0 < j)&&decide (j < 1073741824) then some (.d,.int (i / j)) else none:=rfl
theorem wR (h:Bool)(m n:Md)(i j:Int):oSem .mod h [(m,.int i),(n,.int j)]=if decide (0 < j) then some (.d,.int (i % j)) else none:=rfl
theorem Bu (h:Bool)(m n:Md)(i j:Int):oSem .pow h [(m,.int i),(n,.int j)]=if decide (0<=j)&&decide (j<=1000000)&&decide (i.natAbs < 18446744073709551616) then some (.d,.int (i ^ j.toNat)) else none:=rfl
theorem An (h:Bool)(m n:Md)(i j:Int):oSem .eq h [(m,.int i),(n,.int j)]=some (.d,.bl (i==j)):=rfl
theorem yh (h:Bool)(m n:Md)(x y:Str):oSem .eq h [(m,.str x),(n,.str y)]=some (.d,.bl (x==y)):=rfl
theorem xj (h:Bool)(m n:Md)(a b:Bool):oSem .eq h [(m,.bl a),(n,.bl b)]=some (.d,.bl (a==b)):=rfl
theorem xN (h:Bool)(m n:Md)(i j:Int):oSem .ne h [(m,.int i),(n,.int j)]=some (.d,.bl (!(i==j))):=rfl
theorem xR (h:Bool)(m n:Md)(x y:Str):oSem .ne h [(m,.str x),(n,.str y)]=some (.d,.bl (!(x==y))):=rfl
theorem xD (h:Bool)(m n:Md)(a b:Bool):oSem .ne h [(m,.bl a),(n,.bl b)]=some (.d,.bl (!(a==b))):=rfl
theorem EG (h:Bool)(m n:Md)(i j:Int):oSem .lt h [(m,.int i),(n,.int j)]=some (.d,.bl (decide (i < j))):=rfl
theorem EC (h:Bool)(m n:Md)(i j:Int):oSem .le h [(m,.int i),(n,.int j)]=some (.d,.bl (decide (i<=j))):=rfl
theorem Es (h:Bool)(m n:Md)(i j:Int):oSem .gt h [(m,.int i),(n,.int j)]=some (.d,.bl (decide (j < i))):=rfl
theorem Ef (h:Bool)(m n:Md)(i j:Int):oSem .ge h [(m,.int i),(n,.int j)]=some (.d,.bl (decide (j<=i))):=rfl
theorem BC (h:Bool)(m n:Md)(ts:List T)(i:Int):oSem .ix h [(m,.lst ts),(n,.int i)]=(atI ts i).map fun t=>(m.kid,t):=rfl
theorem Cj (h:Bool)(m n:Md)(ts:List T)(i:Int):oSem .ix h [(m,.tup ts),(n,.int i)]=(atI ts i).map fun t=>(m.kid,t):=rfl
theorem zE (h:Bool)(m:Md)(ts:List T):oSem .len h [(m,.lst ts)]=some (.d,.int ts.length):=rfl
theorem xG (h:Bool)(m:Md)(ts:List T):oSem .len h [(m,.tup ts)]=some (.d,.int ts.length):=rfl
theorem AR (h:Bool)(m:Md)(ns:List Int):oSem .len h [(m,.scr ns)]=some (.d,.int ns.length):=rfl
theorem CN (h:Bool)(m n:Md)(ns:List Int)(i:Int):oSem .ix h [(m,.scr ns),(n,.int i)]=(atI ns i).map fun n=>(.d,.int n):=rfl
theorem A7 (h:Bool)(m n:Md)(ns:List Int)(i:Int):oSem .sl2 h [(m,.scr ns),(n,.int i)]=some (.d,.lst ((cut ns none (some i)).map T.int)):=rfl
theorem zK (m:Md)(ns:List Int):lf m (.scr ns)=.d:=rfl
theorem By (m:Md)(ns:List Int):lfO (some (m,.scr ns))=some (.d,.scr ns):=rfl
theorem t9 (ns:List Int):look (.d,.scr ns)=some (.d,.scr ns):=rfl
theorem xV (h:Bool)(m:Md)(x:Str):oSem .len h [(m,.str x)]=some (.d,.int x.cps.size):=rfl
theorem Bc (cs:List Nat)(h:Bool)(m:Md)(c:Nat)(fs:List Str)(vs:List T):oSem (.isX cs) h [(m,.ins c fs vs)]=some (.d,.bl (cs.contains c)):=rfl
theorem xt (cs:List Nat)(h:Bool)(m:Md):oSem (.isX cs) h [(m,.non)]=some (.d,.bl false):=rfl
theorem Dn (fld g:Str)(c:Nat)(h:Bool)(m:Md)(n:Int):oSem (.att fld) h [(m,.ins c [g] [.int n])]=if (g==fld)=true then some (.d,.int n) else none:=rfl
theorem C6 (cs:List String)(h:Bool)(m:Md)(a:T):oSem (.isI cs) h [(m,a)]=if a.isH then none else some (.d,.bl (cs.any fun c=>isOne c a)):=rfl
theorem Dy (c:Nat)(fs:List Str)(vs:List T):T.isG (.ins c fs vs)=false:=rfl
theorem Di (c:Nat)(fs:List Str)(vs:List T):T.isN (.ins c fs vs)=false:=rfl
theorem Cq:T.isH .non=false:=rfl
theorem DR (b:Bool):T.isH (.bl b)=false:=rfl
theorem Bj (i:Int):T.isH (.int i)=false:=rfl
theorem Bk (x:Str):T.isH (.str x)=false:=rfl
theorem Bo (ts:List T):T.isH (.tup ts)=false:=rfl
theorem Ba (ts:List T):T.isH (.lst ts)=false:=rfl
theorem CY (ns:List Int):T.isH (.scr ns)=false:=rfl
theorem Du:T.isG .non=false:=rfl
theorem DH (b:Bool):T.isG (.bl b)=false:=rfl
theorem BK (i:Int):T.isG (.int i)=false:=rfl
theorem BO (x:Str):T.isG (.str x)=false:=rfl
theorem Cm (ts:List T):T.isG (.tup ts)=false:=rfl
theorem BP (ts:List T):T.isG (.lst ts)=false:=rfl
theorem Dc (ns:List Int):T.isG (.scr ns)=false:=rfl
theorem Co:T.isN .non=true:=rfl
theorem D8 (b:Bool):T.isN (.bl b)=false:=rfl
theorem Bw (i:Int):T.isN (.int i)=false:=rfl
theorem BW (x:Str):T.isN (.str x)=false:=rfl
theorem CI (ts:List T):T.isN (.tup ts)=false:=rfl
theorem Cn (ts:List T):T.isN (.lst ts)=false:=rfl
theorem uc (h:Bool)(m:Md)(ts:List T):oSem .list h [(m,.lst ts)]=newL h m.kid ts:=rfl
theorem tJ (h:Bool)(m:Md)(ts:List T):oSem .list h [(m,.tup ts)]=newL h m.kid ts:=rfl
theorem vW (h:Bool)(m:Md)(x:Str):oSem .lower h [(m,.str x)]=if x.cps.toList.all (fun c=>decide (c < 128)) then some (.d,.str ⟨x.cps.map B6⟩) else none:=rfl
theorem BN (h:Bool)(m n:Md)(x y:Str):oSem .inS h [(m,.str x),(n,.str y)]=some (.d,.bl (!(a1l y x 0 y.length 1).isEmpty)):=rfl
theorem xq (h:Bool)(m n:Md)(x y:Str):oSem .ninS h [(m,.str x),(n,.str y)]=some (.d,.bl (!(!(a1l y x 0 y.length 1).isEmpty))):=rfl
theorem CS (h:Bool)(m n:Md)(a:T)(ts:List T):oSem .inX h [(m,a),(n,.tup ts)]=if ts.all isStr&&mf a then some (.d,.bl (ts.any fun t=>eqT t a)) else none:=rfl
theorem yW (h:Bool)(m n:Md)(a:T)(ts:List T):oSem .ninX h [(m,a),(n,.tup ts)]=if ts.all isStr&&mf a then some (.d,.bl (!ts.any fun t=>eqT t a)) else none:=rfl
theorem Dv (h:Bool)(m n:Md)(x y:Str):oSem .leS h [(m,.str x),(n,.str y)]=some (.d,.bl (!decide (y.cps.toList < x.cps.toList))):=rfl
theorem AH (h:Bool)(m n:Md)(ts us:List T):oSem .catT h [(m,.tup ts),(n,.tup us)]=if fits (ts.length+us.length) then some (.s,.tup (ts++us)) else none:=rfl
theorem oN (h:Bool)(m:Md)(ts:List T):oSem .lenSet h [(m,.tup ts)]=(dg ts).bind fun ss=>if decide (ss.length < 1000) then some (.d,.int (xa ss).length) else none:=rfl
theorem pC (h:Bool)(m n:Md)(ts:List T)(x:Str):oSem .countS h [(m,.lst ts),(n,.str x)]=(dg ts).bind fun ss=>some (.d,.int (ss.count x)):=rfl
theorem Ag (h:Bool):oSem .dnew h []=some (.d,.dct [] []):=rfl
theorem mI (h:Bool)(m:Md)(ts:List T):oSem .sortedS h [(m,.lst ts)]=(dg ts).bind fun ss=>if decide (ss.length < 64) then some (.d,.lst ((jX ss).map T.str)) else none:=rfl
theorem mV (h:Bool)(m:Md)(ks:List (Int ⊕ Str))(vs:List T):oSem .sortedD h [(m,.dct ks vs)]=(pR ks).bind fun ss=>if decide (ss.length < 64) then some (.d,.lst ((jX ss).map T.str)) else none:=rfl
theorem Au (m:Md)(ts:List T):aY .enmT [(m,.tup ts)]=some (my .s 0 ts):=rfl
theorem A9 (m:Md)(x:Str):aY .chr [(m,.str x)]=some (x.cps.toList.map fun c=>[(.d,.str ⟨#[c]⟩)]):=rfl
theorem kB (C:Call)(vs:List Nat)(i f:Nat)(es:List E)(η:Env):evS C (.asgC vs i f es) η=Fl.of η (evL C es (share vs η)) (kC C f (kAsgC i)):=rfl
theorem lx (C:Call)(vs:List Nat)(f:Nat)(es:List E)(η:Env):evS C (.expC vs f es) η=Fl.of η (evL C es (share vs η)) (kC C f kExpC):=rfl
theorem kQ (C:Call)(vs:List Nat)(f:Nat)(es:List E)(η:Env):evS C (.retC vs f es) η=Fl.of η (evL C es (share vs η)) (kC C f .rt):=rfl
theorem kl (C:Call)(c:Nat)(fld:Str)(x:X)(e:E)(η:Env):evS C (.raise c fld x e) η=Fl.of η (evX C x e η) (kRaise c fld):=rfl
theorem ky (C:Call)(cs:List Nat)(body:List S)(i:Nat)(h:List S)(η:Env):evS C (.tryC cs body i h) η=Fl.caught cs i (evSs C h) (evSs C body η):=rfl
theorem D9 (C:Call)(f:Nat)(k:W->Env->Fl)(ws:List W)(η:Env):kC C f k (ws,η)=outC k η (C f ws):=rfl
theorem zq (k:W->Env->Fl)(η:Env)(w:W):outC k η (.ok (w,[]))=k w η:=rfl
theorem Ad (k:W->Env->Fl)(η:Env)(t:T):outC k η (.ex t)=.ex t η:=rfl
theorem sj (i:Nat)(w:W)(η:Env):kAsgC i w η=.nx (put η i w):=rfl
theorem vB (w:W)(η:Env):kExpC w η=.nx η:=rfl
theorem pV (c:Nat)(fld:Str)(m:Md)(n:Int)(η:Env):kRaise c fld ((m,.int n),η)=if decide (n.natAbs.log2 < 1920)=true then .ex (.ins c [fld] [.int n]) η else .no:=rfl
theorem qQ (cs:List Nat)(i:Nat)(h:Env->Fl)(c:Nat)(fs:List Str)(vs:List T)(η:Env):Fl.caught cs i h (.ex (.ins c fs vs) η)=if cs.contains c=true then Fl.drop i (h (put η i (.s,.ins c fs vs))) else .no:=rfl
theorem m5 (cs:List Nat)(i:Nat)(h:Env->Fl)(η:Env):Fl.caught cs i h (.nx η)=.nx η:=rfl
theorem mQ (cs:List Nat)(i:Nat)(h:Env->Fl)(w:W)(η:Env):Fl.caught cs i h (.rt w η)=.rt w η:=rfl
theorem Av (i:Nat)(η:Env):Fl.drop i (.nx η)=.nx (del η i):=rfl
theorem uj (i:Nat)(w:W)(η:Env):Fl.drop i (.rt w η)=.rt w (del η i):=rfl
theorem tX (h:Bool)(m n:Md)(i j:Int):oSem .fdivN h [(m,.int i),(n,.int j)]=if (j != 0)&&decide (j.natAbs < 18446744073709551616) then some (.d,.int (i.fdiv j)) else none:=rfl
theorem AJ (h:Bool)(m n:Md)(i j:Int):oSem .modN h [(m,.int i),(n,.int j)]=if j != 0 then some (.d,.int (i.fmod j)) else none:=rfl
theorem z0 (h:Bool)(m n:Md)(ts us:List T):oSem .lzip h [(m,.lst ts),(n,.lst us)]=some ((m.kid.meet n.kid).up.up,.lst (zipP ts us)):=rfl
theorem CO (h:Bool)(m:Md)(ts:List T):oSem .sum h [(m,.lst ts)]=(bf ts).map fun ns=>(.d,.int ns.sum):=rfl
theorem Cg (h:Bool)(m:Md)(ts:List T):oSem .all h [(m,.lst ts)]=(aW ts).map fun bs=>(.d,.bl (bs.all id)):=rfl
theorem yG (m:Md)(ts:List T):newL true m ts=if leaves ts then some (.d,.lst ts) else none:=rfl
theorem zN (m:Md)(ts:List T):newL false m ts=some (m.up,.lst ts):=rfl
theorem ye (m:Md)(ts:List T):aY .seq [(m,.lst ts)]=some (ts.map fun t=>[(.s,t)]):=rfl
theorem yi (m:Md)(ts:List T):aY .seq [(m,.tup ts)]=some (ts.map fun t=>[(.s,t)]):=rfl
theorem Af (m n o:Md)(i j c:Int):aY .rng [(m,.int i),(n,.int j),(o,.int c)]=if decide (i.natAbs < 4611686018427387904)&&decide (j.natAbs < 4611686018427387904)&&decide (c=-1)&&fits (i-j).toNat then some ((a0q (i-j).toNat).map fun (k:Nat)=>[(.d,.int (i-k))]) else none:=rfl
theorem rG (m:Md)(n:Int):aY .rng [(m,.int n)]=if decide (n.natAbs < 4611686018427387904)&&fits n.toNat then some ((a0q n.toNat).map fun (k:Nat)=>[(.d,.int k)]) else none:=rfl
theorem qf (η:Env):aL [] [] η=some η:=rfl
theorem qz (i:Nat)(is:List Nat)(w:W)(ws:List W)(η:Env):aL (i::is) (w::ws) η=aL is ws (put η i w):=rfl
theorem CG {α β:Type}(f:α->β)(a:α):(some a).map f=some (f a):=rfl
theorem qm (b:Bool):truth (.bl b)=some b:=rfl
theorem qE (i:Int):truth (.int i)=some (i != 0):=rfl
theorem tN {α β:Type}(a:α)(f:α->Option β):(some a).bind f=f a:=rfl
theorem u5:Md.s.kid=.s:=rfl
theorem ud:Md.d.kid=.d:=rfl
theorem ve (m:Md):(Md.o m).kid=m:=rfl
theorem xi:Md.s.up=.o .s:=rfl
theorem yZ:Md.d.up=.d:=rfl
theorem yA (m:Md):(Md.o m).up=.o (.o m):=rfl
theorem rD (m:Md):Md.s.meet m=.s:=by cases m<;>rfl
theorem dZ (m:Md):Md.d.meet m=m:=by cases m<;>rfl
theorem nu (m:Md):(Md.o m).meet .s=.s:=rfl
theorem nC (m:Md):(Md.o m).meet .d=.o m:=rfl
theorem mO (m n:Md):(Md.o m).meet (.o n)=.o (m.meet n):=rfl
theorem zv (n:Md)(ts:List T)(t:T):gN (.d,.lst ts) (n,t)=if ts.length < LIM then some ((lf n t).up,.lst (ts++[t])) else none:=by show (if _ then some ((Md.d.meet _).up,_) else none)=_; rw [dZ]
theorem AS (m n:Md)(ts:List T)(t:T):gN (.o m,.lst ts) (n,t)=if ts.length < LIM then some ((m.meet (lf n t)).up,.lst (ts++[t])) else none:=rfl
theorem xn (n:Md)(ts us:List T):gL (.d,.lst ts) (n,.lst us)=if ts.length+us.length<=LIM then some (n.kid.up,.lst (ts++us)) else none:=by show (if _ then some ((Md.d.meet _).up,_) else none)=_; rw [dZ]
theorem yz (m n:Md)(ts us:List T):gL (.o m,.lst ts) (n,.lst us)=if ts.length+us.length<=LIM then some ((m.meet n.kid).up,.lst (ts++us)) else none:=rfl
theorem zY (l n:Md)(ts:List T)(t:T)(j:Int):dI (.d,.lst ts) (l,.int j) (n,t)=(ixN ts.length j).map fun k=>((lf n t).up,.lst (ts.set k t)):=by show ((ixN ts.length j).map fun k=>((Md.d.meet _).up,_))=_; rw [dZ]
theorem yw (m l n:Md)(ts:List T)(t:T)(j:Int):dI (.o m,.lst ts) (l,.int j) (n,t)=(ixN ts.length j).map fun k=>((m.meet (lf n t)).up,.lst (ts.set k t)):=rfl
theorem yO (m:Md)(ts:List T):eg (some (m,.lst ts))=.ok ():=rfl
theorem yB (m:Md)(ts:List T):Bp (m,.tup ts)=some (ts.map fun t=>(m.kid,t)):=rfl
theorem Bl (η η':Env):nxO η (some η')=.nx η':=rfl
theorem rM (η:Env):backs [] η=some []:=rfl
theorem qq (i:Nat)(is:List Nat)(η:Env):backs (i::is) η=(rd η i).bind fun w=>(backs is η).bind fun ws=>some (w::ws):=rfl
theorem zV (io:List Nat)(η:Env):Fl.out io (.nx η)=(ofO (backs io η)).bind (rX (.d,.non)):=rfl
theorem yu (io:List Nat)(w:W)(η:Env):Fl.out io (.rt w η)=(ofO (backs io η)).bind (rX w):=rfl
theorem x_run (C:Call)(f:Fn)(ws:List W)(h:ws.length=f.ps):runF C f ws=Fl.out f.io (evSs C f.body (ws.map some++a0h f.ns none)):=if_pos h
theorem at0 {α:Type}(a:α)(l:List α):atI (a::l) 0=some a:=by simp [atI,ixN]
theorem atN {α:Type}{xs:List α}{i:Int}{n:Nat}{a:α}(hi:i=n)(h:xs[n]?=some a):atI xs i=some a:=by
 subst hi
 have:=(a0s.mp h).1
 rw [atI,ixN,if_pos (by omega),if_pos (by omega)]
 exact h
theorem at1 {α:Type}(a b:α)(l:List α):atI (a::b::l) 1=some b:=atN (n:=1) rfl rfl
theorem at2 {α:Type}(a b c:α)(l:List α):atI (a::b::c::l) 2=some c:=atN (n:=2) rfl rfl
theorem at3 {α:Type}(a b c d:α)(l:List α):atI (a::b::c::d::l) 3=some d:=atN (n:=3) rfl rfl
theorem at4 {α:Type}(a b c d e:α)(l:List α):atI (a::b::c::d::e::l) 4=some e:=atN (n:=4) rfl rfl
theorem bH {α:Type}{tg:List Nat}{f:Env->Res (Option W×Env)}{η:Env}{g:α->List W}(w:α->W):∀ (ts:List α) (acc:List W),(∀ x∈ts,∃ η1 η2,aL tg (g x) η=some η1/\f η1=.ok (some (w x),η2)/\ak tg η2=η) ->
  aJ tg f (ts.map g) η acc=.ok (acc++ts.map w,η)
 | [],acc,_=>by rw [a1B,a1B,a0z]; rfl
 | x::ts,acc,h=>by
  obtain ⟨η1,η2,h1,h2,h3⟩:=h x a0k
  rw [a0A,a0A]
  show (ofO (aL tg (g x) η)).bind _=_
  rw [h1]
  show (f η1).bind _=_
  rw [h2]
  show aJ tg f (ts.map g) (ak tg η2) (acc++[w x])=_
  rw [h3,bH w ts _ fun y hy=>h y (a0c _ hy),a0V]
  rfl
theorem iq {α:Type}{tg:List Nat}{f:Env->Res (Option W×Env)}{g:α->List W}(I:List α->Env->List W->Prop):∀ (ts pre:List α) (η:Env) (acc:List W),I pre η acc ->
  (∀ p x r η acc,pre++ts=p++x::r->I p η acc->∃ η1 o η2,aL tg (g x) η=some η1/\f η1=.ok (o,η2)/\I (p++[x]) (ak tg η2) (acc++o.toList)) ->
  ∃ ws η',aJ tg f (ts.map g) η acc=.ok (ws,η')/\I (pre++ts) η' ws
 | [],pre,η,acc,h,_=>⟨acc,η,rfl,by rw [a0z]; exact h⟩
 | x::ts,pre,η,acc,h,k=>by
  obtain ⟨η1,o,η2,h1,h2,h3⟩:=k pre x ts η acc rfl h
  obtain ⟨ws,η',e,hi⟩:=iq I ts (pre++[x]) (ak tg η2) (acc++o.toList) h3 (fun p y r η acc e=>k p y r η acc (by rw [<- e,a0V]; rfl))
  refine ⟨ws,η',?_,by rw [a0V] at hi; exact hi⟩
  rw [a0A]
  show (ofO (aL tg (g x) η)).bind _=_
  rw [h1]
  show (f η1).bind _=_
  rw [h2]
  exact e
theorem ef {α:Type}{tg:List Nat}{f:Env->Fl}{g:α->List W}(st:List α->Env):∀ (ts pre:List α),(∀ p x r,pre++ts=p++x::r->∃ η1,aL tg (g x) (st p)=some η1/\f η1=.nx (st (p++[x]))) ->
  cG tg f (ts.map g) (st pre)=.nx (st (pre++ts))
 | [],pre,_=>by rw [a0z]; rfl
 | x::ts,pre,h=>by
  obtain ⟨η1,h1,h2⟩:=h pre x ts rfl
  rw [a0A]
  show Fl.of _ (ofO (aL tg (g x) (st pre))) _=_
  rw [h1]
  show Fl.turn (f η1) _=_
  rw [h2]
  show cG tg f (ts.map g) (st (pre++[x]))=_
  rw [ef st ts (pre++[x]) fun p y r e=>h p y r (by rw [<- e,a0V]; rfl),a0V]
  rfl
theorem l9 {α:Type}(g:α->T)(ts:List α):(ts.map fun x=>((Md.d,g x):W)).all okD=true:=by
 rw [List.all_map,a0I]; intro x _; rfl
end M

namespace MR
open L2 L3 M
open PySem (Addr Str sizeLine)
noncomputable abbrev Fp:=Addr->Prop
noncomputable def ScrR (K:a0a)(H:Hp)(a:Addr)(ns:List Int):Prop:=(∃ o,H a=some (.frz o (.lst (ns.map V.int))))\/SqL K (fun _=>none) a (ns.map V.int)
theorem ScrR.sq {K:a0a}{H:Hp}{a:Addr}{ns:List Int}(h:ScrR K H a ns):SqL K H a (ns.map V.int):=by
 rcases h with ⟨o,h⟩ | ((h | ⟨o,h⟩) | h)
 ·exact .inl (.inr ⟨o,h⟩)
 ·cases h
 ·cases h
 ·exact .inr h
theorem ScrR.keep {K:a0a}{H H':Hp}{a:Addr}{ns:List Int}(s:∀ a o u,H a=some (.frz o u)->H' a=some (.frz o u))(h:ScrR K H a ns):ScrR K H' a ns:=h.imp (fun ⟨o,e⟩=>⟨o,s a o _ e⟩) id
noncomputable def LstR (K:a0a)(Z:Fp)(H:Hp)(G:Fp)(a:Addr)(xs:List V):Md->Prop
 | .s=>Z a/\H a=some (.lst xs)
 | _=>G a/\H a=some (.lst xs)
noncomputable def mkD (ks:List (Int ⊕ Str))(xs:List V):List (Key×V):=ks.zip xs
noncomputable def DctR (Z:Fp)(H:Hp)(G:Fp)(a:Addr)(o:HO):Md->Prop
 | .s=>Z a/\H a=some o
 | _=>G a/\H a=some o
noncomputable def dmd:Md->Md
 | .d=>.d
 | _=>.s
mutual
noncomputable def Rep (K:a0a)(Z:Fp)(H:Hp):Md->T->V->Fp->Prop
 | _,.non,v,_=>v=.non
 | _,.bl b,v,_=>v=.bl b
 | _,.int i,v,_=>v=.int i
 | _,.str x,v,_=>v=.str x/\sOk x=true
 | m,.tup ts,v,G=>∃ a xs,v=.ref a/\SqT K H a xs/\xs.length<=LIM/\RepL K Z H m.kid ts xs G
 | m,.lst ts,v,G=>∃ a xs,v=.ref a/\xs.length<=LIM/\LstR K Z H G a xs m/\RepL K Z H m.kid ts xs (fun b=>G b/\b≠a)
 | m,.dct ks vs,v,G=>∃ a xs,v=.ref a/\ks.length<=LIM/\DctR Z H G a (.dK (mkD ks xs)) m/\(ks.Nodup/\∀ k∈ks,kOk k=true)/\vs.length=ks.length/\RepL K Z H (dmd m) vs xs (fun _=>False)
 | m,.ins c fs vs,v,_=>m≠.d/\∃ a dx C xs,v=.ref a/\Z a/\Z dx/\H a=some (XO a C (some dx) false)/\H dx=some (.xd (fs.zip xs))/\fs.length=vs.length/\XNm K c C/\RepL K Z H .s vs xs (fun _=>False)
 | _,.gone,_,_=>True
 | _,.scr ns,v,_=>∃ a,v=.ref a/\ns.length<=LIM/\ScrR K H a ns
noncomputable def RepL (K:a0a)(Z:Fp)(H:Hp):Md->List T->List V->Fp->Prop
 | _,[],xs,_=>xs=[]
 | m,t::ts,xs,G=>∃ x r G1 G2,xs=x::r/\(∀ a,G1 a->G a)/\(∀ a,G2 a->G a)/\(∀ a,G1 a->¬ G2 a)/\Rep K Z H m t x G1/\RepL K Z H m ts r G2
end
section
variable {K:a0a}{Z Z':Fp}{H H':Hp}{m:Md}{t:T}{ts:List T}{v:V}{xs:List V}{G G':Fp}
theorem LstR.mono {a:Addr}(w:∀ a,G a->G' a)(h:LstR K Z H G a xs m):LstR K Z H G' a xs m:=by
 cases m with
 | s=>exact h
 | d=>exact ⟨w _ h.1,h.2⟩
 | o m=>exact ⟨w _ h.1,h.2⟩
theorem DctR.mono {a:Addr}{o:HO}(w:∀ a,G a->G' a)(h:DctR Z H G a o m):DctR Z H G' a o m:=by
 cases m with
 | s=>exact h
 | d=>exact ⟨w _ h.1,h.2⟩
 | o m=>exact ⟨w _ h.1,h.2⟩
mutual
theorem Rep.mono:∀ {m:Md} {t:T} {v:V} {G G':Fp},(∀ a,G a->G' a)->Rep K Z H m t v G->Rep K Z H m t v G'
 | _,.non,_,_,_,_,h=>h
 | _,.bl _,_,_,_,_,h=>h
 | _,.int _,_,_,_,_,h=>h
 | _,.str _,_,_,_,_,h=>h
 | m,.tup ts,v,G,G',w,⟨a,xs,e,q,l,r⟩=>⟨a,xs,e,q,l,RepL.mono w r⟩
 | m,.lst ts,v,G,G',w,⟨a,xs,e,l,q,r⟩=>⟨a,xs,e,l,q.mono w,RepL.mono (fun b hb=>⟨w b hb.1,hb.2⟩) r⟩
 | m,.dct ks vs,v,G,G',w,⟨a,xs,e,l,q,n,hl,r⟩=>⟨a,xs,e,l,q.mono w,n,hl,r⟩
 | _,.ins _ _ _,_,_,_,_,h=>h
 | _,.gone,_,_,_,_,h=>h
 | _,.scr _,_,_,_,_,h=>h
theorem RepL.mono:∀ {m:Md} {ts:List T} {xs:List V} {G G':Fp},(∀ a,G a->G' a)->RepL K Z H m ts xs G->RepL K Z H m ts xs G'
 | _,[],_,_,_,_,h=>h
 | m,t::ts,xs,G,G',w,⟨x,r,G1,G2,e,h1,h2,hd,p,q⟩=>⟨x,r,G1,G2,e,fun a ha=>w a (h1 a ha),fun a ha=>w a (h2 a ha),hd,p,q⟩
end
noncomputable def Stay (Z:Fp)(H H':Hp):Prop:=(∀ a o,Z a->H a=some o->H' a=some o)/\(∀ a xs,Rd H a (.tup xs)->Rd H' a (.tup xs))/\∀ a o u,H a=some (.frz o u)->H' a=some (.frz o u)
theorem Stay.sqt (s:Stay Z H H'){a:Addr}(h:SqT K H a xs):SqT K H' a xs:=by
 rcases h with h | h
 ·exact .inl (s.2.1 a xs h)
 ·exact .inr h
theorem LstR.keep {a:Addr}(s:Stay Z H H')(z:∀ a,Z a->Z' a)(g:∀ a o,G a->H a=some o->H' a=some o)(h:LstR K Z H G a xs m):LstR K Z' H' G a xs m:=by
 cases m with
 | s=>exact ⟨z _ h.1,s.1 _ _ h.1 h.2⟩
 | d=>exact ⟨h.1,g _ _ h.1 h.2⟩
 | o m=>exact ⟨h.1,g _ _ h.1 h.2⟩
theorem DctR.keep {a:Addr}{o:HO}(s:Stay Z H H')(z:∀ a,Z a->Z' a)(g:∀ a o,G a->H a=some o->H' a=some o)(h:DctR Z H G a o m):DctR Z' H' G a o m:=by
 cases m with
 | s=>exact ⟨z _ h.1,s.1 _ _ h.1 h.2⟩
 | d=>exact ⟨h.1,g _ _ h.1 h.2⟩
 | o m=>exact ⟨h.1,g _ _ h.1 h.2⟩
mutual
theorem Rep.keep (s:Stay Z H H')(z:∀ a,Z a->Z' a):∀ {m:Md} {t:T} {v:V} {G:Fp},(∀ a o,G a->H a=some o->H' a=some o)->Rep K Z H m t v G->Rep K Z' H' m t v G
 | _,.non,_,_,_,h=>h
 | _,.bl _,_,_,_,h=>h
 | _,.int _,_,_,_,h=>h
 | _,.str _,_,_,_,h=>h
 | m,.tup ts,v,G,g,⟨a,xs,e,q,l,r⟩=>⟨a,xs,e,s.sqt q,l,RepL.keep s z g r⟩
 | m,.lst ts,v,G,g,⟨a,xs,e,l,q,r⟩=>⟨a,xs,e,l,q.keep s z g,RepL.keep s z (fun b o hb=>g b o hb.1) r⟩
 | m,.dct ks vs,v,G,g,⟨a,xs,e,l,q,n,hl,r⟩=>⟨a,xs,e,l,q.keep s z g,n,hl,RepL.keep s z (fun _ _ hb=>hb.elim) r⟩
 | _,.ins _ _ _,_,_,_,⟨ne,a,dx,C,xs,e,z1,z2,h1,h2,l,n,r⟩=>⟨ne,a,dx,C,xs,e,z _ z1,z _ z2,s.1 _ _ z1 h1,s.1 _ _ z2 h2,l,n,RepL.keep s z (fun _ _ hb=>hb.elim) r⟩
 | _,.gone,_,_,_,h=>h
 | _,.scr _,_,_,_,⟨a,e,l,q⟩=>⟨a,e,l,q.keep s.2.2⟩
theorem RepL.keep (s:Stay Z H H')(z:∀ a,Z a->Z' a):∀ {m:Md} {ts:List T} {xs:List V} {G:Fp},(∀ a o,G a->H a=some o->H' a=some o)->RepL K Z H m ts xs G->RepL K Z' H' m ts xs G
 | _,[],_,_,_,h=>h
 | m,t::ts,xs,G,g,⟨x,r,G1,G2,e,h1,h2,hd,p,q⟩=>⟨x,r,G1,G2,e,h1,h2,hd,Rep.keep s z (fun a o ha=>g a o (h1 a ha)) p,RepL.keep s z (fun a o ha=>g a o (h2 a ha)) q⟩
end
theorem dA (Z:Fp)(H:Hp):Stay Z H H:=⟨fun _ _ _ h=>h,fun _ _ h=>h,fun _ _ _ h=>h⟩
theorem Rep.zmono (z:∀ a,Z a->Z' a)(h:Rep K Z H m t v G):Rep K Z' H m t v G:=h.keep (dA Z H) z fun _ _ _ q=>q
theorem RepL.zmono (z:∀ a,Z a->Z' a)(h:RepL K Z H m ts xs G):RepL K Z' H m ts xs G:=h.keep (dA Z H) z fun _ _ _ q=>q
theorem RepL.length:∀ {ts:List T} {xs:List V} {G:Fp},RepL K Z H m ts xs G->xs.length=ts.length
 | [],_,_,h=>by rw [show _=[] from h]; rfl
 | _::_,_,_,⟨x,r,G1,G2,e,_,_,_,_,q⟩=>by rw [e,a0g,a0g,RepL.length q]
theorem RepL.get:∀ {ts:List T} {xs:List V} {G:Fp} {i:Nat} {t:T},RepL K Z H m ts xs G->ts[i]?=some t->∃ x,xs[i]?=some x/\Rep K Z H m t x G
 | [],_,_,_,_,_,e=>by simp at e
 | _::_,_,_,0,_,⟨x,r,G1,G2,e,h1,_,_,p,_⟩,e2=>by
  rw [a14] at e2; cases e2
  exact ⟨x,by rw [e]; rfl,p.mono h1⟩
 | _::_,_,_,i+1,_,⟨x,r,G1,G2,e,_,h2,_,_,q⟩,e2=>by
  rw [a0G] at e2
  obtain ⟨y,hy,p⟩:=RepL.get q e2
  exact ⟨y,by rw [e,a0G]; exact hy,p.mono h2⟩
theorem RepL.append:∀ {ts us:List T} {xs ys:List V} {G1 G2 G:Fp},(∀ a,G1 a->G a)->(∀ a,G2 a->G a)->(∀ a,G1 a->¬ G2 a)->RepL K Z H m ts xs G1->RepL K Z H m us ys G2->RepL K Z H m (ts++us) (xs++ys) G
 | [],us,xs,ys,G1,G2,G,w1,w2,d,h,k=>by rw [show xs=[] from h]; exact k.mono w2
 | t::ts,us,xs,ys,G1,G2,G,w1,w2,d,⟨x,r,A,B,e,h1,h2,hd,p,q⟩,k=>by
  rw [e]
  refine ⟨x,r++ys,A,fun a=>B a\/G2 a,rfl,fun a ha=>w1 a (h1 a ha),fun a ha=>ha.elim (fun z=>w1 a (h2 a z)) (w2 a),fun a ha hb=>hb.elim (hd a ha) (d a (h1 a ha)),p,?_⟩
  exact RepL.append (fun a z=>.inl z) (fun a z=>.inr z) (fun a ha=>d a (h2 a ha)) q k
theorem RepL.one {x:V}(p:Rep K Z H m t x G):RepL K Z H m [t] [x] G:=⟨x,[],G,fun _=>False,rfl,fun _ h=>h,fun _ h=>h.elim,fun _ _ h=>h,p,rfl⟩
theorem RepL.take:∀ {ts:List T} {xs:List V} {G:Fp} (n:Nat),RepL K Z H m ts xs G->RepL K Z H m (ts.take n) (xs.take n) G
 | [],_,_,n,h=>by rw [show _=[] from h,a3T,a3T]; rfl
 | _::_,_,_,0,h=>rfl
 | _::_,_,_,n+1,⟨x,r,A,B,e,h1,h2,hd,p,q⟩=>by rw [e]; exact ⟨x,r.take n,A,B,rfl,h1,h2,hd,p,RepL.take n q⟩
theorem RepL.drop:∀ {ts:List T} {xs:List V} {G:Fp} (n:Nat),RepL K Z H m ts xs G->RepL K Z H m (ts.drop n) (xs.drop n) G
 | [],_,_,n,h=>by rw [show _=[] from h,a3U,a3U]; rfl
 | _::_,_,_,0,h=>h
 | _::_,_,_,n+1,⟨x,r,A,B,e,h1,h2,hd,p,q⟩=>by rw [e]; exact (RepL.drop n q).mono h2
theorem Rep.leaf {m':Md}(hs:∀ a o u,H a=some (.frz o u)->H' a=some (.frz o u))(hl:t.leaf=true)(h:Rep K Z H m t v G):Rep K Z' H' m' t v G':=by
 cases t with
 | non=>exact h
 | bl _=>exact h
 | int _=>exact h
 | str _=>exact h
 | scr _=>obtain ⟨a,e,l,q⟩:=h; exact ⟨a,e,l,q.keep hs⟩
 | _=>cases hl
theorem RepL.leaves {m':Md}(hs:∀ a o u,H a=some (.frz o u)->H' a=some (.frz o u)):∀ {ts:List T} {xs:List V} {G G':Fp},leaves ts=true->RepL K Z H m ts xs G->RepL K Z' H' m' ts xs G'
 | [],_,_,_,_,h=>h
 | t::ts,_,_,G',hl,⟨x,r,A,B,e,h1,h2,hd,p,q⟩=>by
  have h':(t.leaf&&ts.all T.leaf)=true:=hl
  rw [a0p] at h'
  exact ⟨x,r,fun _=>False,fun _=>False,e,fun _ z=>z.elim,fun _ z=>z.elim,fun _ z=>z.elim,p.leaf hs h'.1,RepL.leaves hs h'.2 q⟩
noncomputable def no:Fp:=fun _=>False
mutual
theorem Rep.sh:∀ {m:Md} {t:T} {v:V} {G:Fp},Rep K Z H m t v G->Rep K (fun a=>Z a\/G a) H .s t v no
 | _,.non,_,_,h=>h
 | _,.bl _,_,_,h=>h
 | _,.int _,_,_,h=>h
 | _,.str _,_,_,h=>h
 | m,.tup ts,v,G,⟨a,xs,e,q,l,r⟩=>⟨a,xs,e,q,l,RepL.sh r⟩
 | m,.lst ts,v,G,⟨a,xs,e,l,q,r⟩=>⟨a,xs,e,l,by
   cases m with
   | s=>exact ⟨.inl q.1,q.2⟩
   | d=>exact ⟨.inr q.1,q.2⟩
   | o m=>exact ⟨.inr q.1,q.2⟩,(RepL.zmono (fun b hb=>hb.elim .inl fun z=>.inr z.1) (RepL.sh r)).mono fun _ z=>z.elim⟩
 | m,.dct ks vs,v,G,⟨a,xs,e,l,q,n,hl,r⟩=>⟨a,xs,e,l,by
   cases m with
   | s=>exact ⟨.inl q.1,q.2⟩
   | d=>exact ⟨.inr q.1,q.2⟩
   | o m=>exact ⟨.inr q.1,q.2⟩,n,hl,RepL.zmono (fun b hb=>hb.elim .inl fun z=>z.elim) (RepL.sh r)⟩
 | _,.ins _ _ _,_,_,⟨ne,a,dx,C,xs,e,z1,z2,h1,h2,l,n,r⟩=>⟨(fun z=>by cases z),a,dx,C,xs,e,.inl z1,.inl z2,h1,h2,l,n,RepL.zmono (fun b hb=>hb.elim .inl fun z=>z.elim) (RepL.sh r)⟩
 | _,.gone,_,_,h=>h
 | _,.scr _,_,_,h=>h
theorem RepL.sh:∀ {m:Md} {ts:List T} {xs:List V} {G:Fp},RepL K Z H m ts xs G->RepL K (fun a=>Z a\/G a) H .s ts xs no
 | _,[],_,_,h=>h
 | m,t::ts,xs,G,⟨x,r,G1,G2,e,h1,h2,hd,p,q⟩=>⟨x,r,no,no,e,fun _ z=>z,fun _ z=>z,fun _ z _=>z,Rep.zmono (fun b hb=>hb.imp id (h1 b)) (Rep.sh p),RepL.zmono (fun b hb=>hb.imp id (h2 b)) (RepL.sh q)⟩
end
theorem Ej:∀ a:Md,a.le .d=true
 | .s=>rfl | .d=>rfl | .o _=>rfl
theorem i7:∀ a:Md,a.le a=true
 | .s=>rfl | .d=>rfl | .o a=>i7 a
theorem jU:∀ {a b c:Md},a.le b=true->b.le c=true->a.le c=true
 | .s,_,.s,_,_=>rfl
 | .s,_,.d,_,_=>rfl
 | .s,_,.o _,_,_=>rfl
 | .o a,.o b,.o c,h,k=>jU (a:=a) (b:=b) (c:=c) h k
 | .o a,.o b,.d,h,k=>rfl
 | .o a,.d,.d,h,k=>rfl
 | .d,.d,.d,_,_=>rfl
 | .d,.s,_,h,_=>by cases h
 | .d,.o _,_,h,_=>by cases h
 | .o _,.s,_,h,_=>by cases h
 | .o _,.o _,.s,_,k=>by cases k
 | .o _,.d,.s,_,k=>by cases k
 | .o _,.d,.o _,_,k=>by cases k
 | .d,.d,.s,_,k=>by cases k
 | .d,.d,.o _,_,k=>by cases k
theorem cS:∀ a b:Md,(a.meet b).le a=true/\(a.meet b).le b=true
 | .s,.s=>⟨rfl,rfl⟩
 | .s,.d=>⟨rfl,rfl⟩
 | .s,.o _=>⟨rfl,rfl⟩
 | .d,.s=>⟨rfl,rfl⟩
 | .d,.d=>⟨rfl,rfl⟩
 | .d,.o b=>⟨rfl,i7 b⟩
 | .o _,.s=>⟨rfl,rfl⟩
 | .o a,.d=>⟨i7 a,rfl⟩
 | .o a,.o b=>cS a b
theorem qK:∀ {a b:Md},a.le b=true->a.kid.le b.kid=true
 | .s,.s,_=>rfl
 | .s,.d,_=>rfl
 | .s,.o _,_=>by first | rfl | exact (by cases ‹Md›<;>rfl)
 | .o a,.o b,h=>h
 | .o a,.d,_=>Ej a
 | .d,.d,_=>rfl
 | .d,.s,h=>by cases h
 | .d,.o _,h=>by cases h
 | .o _,.s,h=>by cases h
theorem cF:∀ a:Md,a.up.kid=a
 | .s=>rfl | .d=>rfl | .o _=>rfl
theorem bq (a:Md):a.up≠.s:=by cases a<;>intro h<;>cases h
theorem LstR.own {a:Addr}(hm:m≠.s):LstR K Z H G a xs m ↔ G a/\H a=some (.lst xs):=by
 cases m with
 | s=>exact absurd rfl hm
 | d=>exact Iff.rfl
 | o m=>exact Iff.rfl
noncomputable abbrev bB (Z G G':Fp):Fp:=fun a=>Z a\/(G a/\¬ G' a)
mutual
theorem Rep.weak:∀ {m m':Md} {t:T} {v:V} {G:Fp},m'.le m=true->Rep K Z H m t v G->∃ G',(∀ a,G' a->G a)/\Rep K (bB Z G G') H m' t v G'
 | m,m',.non,_,G,_,h=>⟨G,fun _ z=>z,h⟩
 | m,m',.bl _,_,G,_,h=>⟨G,fun _ z=>z,h⟩
 | m,m',.int _,_,G,_,h=>⟨G,fun _ z=>z,h⟩
 | m,m',.str _,_,G,_,h=>⟨G,fun _ z=>z,h⟩
 | m,m',.scr _,_,G,_,h=>⟨G,fun _ z=>z,h⟩
 | m,m',.tup ts,v,G,hm,⟨a,xs,e,q,l,r⟩=>by
  obtain ⟨G',h1,h2⟩:=RepL.weak (qK hm) r
  exact ⟨G',h1,a,xs,e,q,l,h2⟩
 | m,m',.lst ts,v,G,hm,h=>by
  cases m' with
  | s=>exact ⟨no,fun _ z=>z.elim,(Rep.sh h).zmono fun a ha=>ha.imp id fun z=>⟨z,fun q=>q⟩⟩
  | d =>
   cases m with
   | s=>cases hm
   | o _=>cases hm
   | d=>exact ⟨G,fun _ z=>z,h.zmono fun _ z=>.inl z⟩
  | o k =>
   have hne:m≠.s:=by rintro rfl; cases hm
   obtain ⟨a,xs,e,l,q,r⟩:=h
   rw [LstR.own hne] at q
   obtain ⟨G',h1,h2⟩:=RepL.weak (qK hm) r
   refine ⟨fun b=>G' b\/b=a,fun b hb=>hb.elim (fun z=>(h1 b z).1) (fun z=>z ▸ q.1),a,xs,e,l,⟨.inr rfl,q.2⟩,?_⟩
   refine (h2.zmono fun b hb=>?_).mono fun b hb=>⟨.inl hb,(h1 b hb).2⟩
   rcases hb with z | ⟨⟨z1,z2⟩,z3⟩
   ·exact .inl z
   ·exact .inr ⟨z1,fun q=>q.elim z3 z2⟩
 | m,m',.dct ks vs,v,G,hm,h=>by
  cases m' with
  | s=>exact ⟨no,fun _ z=>z.elim,(Rep.sh h).zmono fun a ha=>ha.imp id fun z=>⟨z,fun q=>q⟩⟩
  | d =>
   cases m with
   | s=>cases hm
   | o _=>cases hm
   | d=>exact ⟨G,fun _ z=>z,h.zmono fun _ z=>.inl z⟩
  | o k =>
   obtain ⟨a,xs,e,l,q,n,hl,r⟩:=h
   cases m with
   | s=>cases hm
   | d=>exact ⟨G,fun _ z=>z,a,xs,e,l,q,n,hl,RepL.zmono (fun b hb=>hb.elim .inl fun z=>z.elim) (RepL.sh r)⟩
   | o k'=>exact ⟨G,fun _ z=>z,a,xs,e,l,q,n,hl,RepL.zmono (fun b hb=>.inl hb) r⟩
 | m,m',.ins _ _ _,v,G,hm,⟨ne,a,dx,C,xs,e,z1,z2,h1,h2,l,n,r⟩=>⟨G,fun _ z=>z,(fun z=>ne (by subst z; cases m<;>first | rfl | cases hm)),a,dx,C,xs,e,.inl z1,.inl z2,h1,h2,l,n,RepL.zmono (fun b hb=>.inl hb) r⟩
 | m,m',.gone,_,G,_,h=>⟨G,fun _ z=>z,h⟩
theorem RepL.weak:∀ {m m':Md} {ts:List T} {xs:List V} {G:Fp},m'.le m=true->RepL K Z H m ts xs G->∃ G',(∀ a,G' a->G a)/\RepL K (bB Z G G') H m' ts xs G'
 | m,m',[],_,G,_,h=>⟨G,fun _ z=>z,h⟩
 | m,m',t::ts,xs,G,hm,⟨x,r,G1,G2,e,h1,h2,hd,p,q⟩=>by
  obtain ⟨A,a1,a2⟩:=Rep.weak hm p
  obtain ⟨B,b1,b2⟩:=RepL.weak hm q
  refine ⟨fun b=>A b\/B b,fun b hb=>hb.elim (fun z=>h1 b (a1 b z)) (fun z=>h2 b (b1 b z)),x,r,A,B,e,fun _ z=>.inl z,fun _ z=>.inr z,fun b za zb=>hd b (a1 b za) (b1 b zb),?_,?_⟩
  ·refine a2.zmono fun b hb=>hb.imp id fun z=>⟨h1 b z.1,fun q=>q.elim z.2 fun w=>hd b z.1 (b1 b w)⟩
  ·refine b2.zmono fun b hb=>hb.imp id fun z=>⟨h2 b z.1,fun q=>q.elim (fun w=>hd b (a1 b w) z.1) z.2⟩
end
noncomputable def RepW (K:a0a)(Z:Fp)(H:Hp):List W->List V->Fp->Prop
 | [],xs,_=>xs=[]
 | w::ws,xs,G=>∃ x r G1 G2,xs=x::r/\(∀ a,G1 a->G a)/\(∀ a,G2 a->G a)/\(∀ a,G1 a->¬ G2 a)/\Rep K Z H w.1 w.2 x G1/\RepW K Z H ws r G2
theorem RepW.length:∀ {ws:List W} {xs:List V} {G:Fp},RepW K Z H ws xs G->xs.length=ws.length
 | [],_,_,h=>by rw [show _=[] from h]; rfl
 | _::_,_,_,⟨x,r,G1,G2,e,_,_,_,_,q⟩=>by rw [e,a0g,a0g,RepW.length q]
theorem RepW.mono:∀ {ws:List W} {xs:List V} {G G':Fp},(∀ a,G a->G' a)->RepW K Z H ws xs G->RepW K Z H ws xs G'
 | [],_,_,_,_,h=>h
 | _::_,_,_,_,w,⟨x,r,G1,G2,e,h1,h2,hd,p,q⟩=>⟨x,r,G1,G2,e,fun a ha=>w a (h1 a ha),fun a ha=>w a (h2 a ha),hd,p,q⟩
theorem RepW.keep (s:Stay Z H H')(z:∀ a,Z a->Z' a):∀ {ws:List W} {xs:List V} {G:Fp},(∀ a o,G a->H a=some o->H' a=some o)->RepW K Z H ws xs G->RepW K Z' H' ws xs G
 | [],_,_,_,h=>h
 | _::_,_,_,g,⟨x,r,G1,G2,e,h1,h2,hd,p,q⟩=>⟨x,r,G1,G2,e,h1,h2,hd,p.keep s z fun a o ha=>g a o (h1 a ha),RepW.keep s z (fun a o ha=>g a o (h2 a ha)) q⟩
theorem RepW.append:∀ {ws us:List W} {xs ys:List V} {G1 G2 G:Fp},(∀ a,G1 a->G a)->(∀ a,G2 a->G a)->(∀ a,G1 a->¬ G2 a)->RepW K Z H ws xs G1->RepW K Z H us ys G2->RepW K Z H (ws++us) (xs++ys) G
 | [],us,xs,ys,G1,G2,G,w1,w2,d,h,k=>by rw [show xs=[] from h]; exact k.mono w2
 | t::ts,us,xs,ys,G1,G2,G,w1,w2,d,⟨x,r,A,B,e,h1,h2,hd,p,q⟩,k=>by
  rw [e]
  refine ⟨x,r++ys,A,fun a=>B a\/G2 a,rfl,fun a ha=>w1 a (h1 a ha),fun a ha=>ha.elim (fun z=>w1 a (h2 a z)) (w2 a),fun a ha hb=>hb.elim (hd a ha) (d a (h1 a ha)),p,?_⟩
  exact RepW.append (fun a z=>.inl z) (fun a z=>.inr z) (fun a ha=>d a (h2 a ha)) q k
theorem RepW.one {w:W}{x:V}(p:Rep K Z H w.1 w.2 x G):RepW K Z H [w] [x] G:=⟨x,[],G,no,rfl,fun _ h=>h,fun _ h=>h.elim,fun _ _ h=>h,p,rfl⟩
theorem gG:∀ {ws:List W} {w:W},w∈ws->(fF ws).le (lf w.1 w.2)=true
 | u::ws,w,h=>by
  rcases a0n.mp h with z | z
  ·subst z; exact (cS _ _).1
  ·exact jU (cS _ _).2 (gG z)
theorem Rep.lf (h:Rep K Z H m t v G):Rep K Z H (M.lf m t) t v G:=by
 unfold M.lf
 split
 ·rename_i hl; exact h.leaf (fun _ _ _ q=>q) hl
 ·exact h
theorem RepW.to {N:Md}:∀ {ws:List W} {xs:List V} {G:Fp},(∀ w∈ws,N.le (M.lf w.1 w.2)=true)->RepW K Z H ws xs G->∃ G',(∀ a,G' a->G a)/\RepL K (bB Z G G') H N (aP ws) xs G'
 | [],_,G,_,h=>⟨G,fun _ z=>z,h⟩
 | w::ws,xs,G,hm,⟨x,r,G1,G2,e,h1,h2,hd,p,q⟩=>by
  obtain ⟨A,a1,a2⟩:=Rep.weak (hm w a0k) p.lf
  obtain ⟨B,b1,b2⟩:=RepW.to (fun u hu=>hm u (a0c _ hu)) q
  refine ⟨fun b=>A b\/B b,fun b hb=>hb.elim (fun z=>h1 b (a1 b z)) (fun z=>h2 b (b1 b z)),x,r,A,B,e,fun _ z=>.inl z,fun _ z=>.inr z,fun b za zb=>hd b (a1 b za) (b1 b zb),?_,?_⟩
  ·refine a2.zmono fun b hb=>hb.imp id fun z=>⟨h1 b z.1,fun q=>q.elim z.2 fun w=>hd b z.1 (b1 b w)⟩
  ·refine b2.zmono fun b hb=>hb.imp id fun z=>⟨h2 b z.1,fun q=>q.elim (fun w=>hd b (a1 b w) z.1) z.2⟩
end
noncomputable def OO:=List V ⊕ List (Key×V)
noncomputable def OO.ho:OO->HO
 | .inl xs=>.lst xs
 | .inr kvs=>.dK kvs
noncomputable def Own (Z:Fp)(H:Hp)(F:Fp):Prop:=∀ a,F a->¬ Z a/\∃ xs:OO,H a=some xs.ho
theorem pN {xs:List V}{ys:OO}(e:some (HO.tup xs)=some ys.ho):False:=by cases ys<;>cases e
theorem kq {o:PySem.Obj}{u:HO}{ys:OO}(e:some (HO.frz o u)=some ys.ho):False:=by cases ys<;>cases e
structure Step (Z:Fp)(H:Hp)(F:Fp)(Z':Fp)(H':Hp)(F':Fp):Prop where
 keep:∀ a o,H a=some o->¬ F a->H' a=some o
 zm:∀ a,Z a->Z' a
 zn:∀ a,Z' a->Z a\/F a\/H a=none
 fn:∀ a,F' a->F a\/H a=none
 al:∀ a,H a≠none->H' a≠none
 za:(∀ a,Z a->H a≠none)->∀ a,Z' a->H' a≠none
section
variable {K:a0a}{Z Z1 Z2 Z':Fp}{H H1 H2 H':Hp}{F F1 F2 F' R G:Fp}
theorem Step.refl (Z:Fp)(H:Hp)(F:Fp):Step Z H F Z H F:=⟨fun _ _ h _=>h,fun _ h=>h,fun _ h=>.inl h,fun _ h=>.inl h,fun _ h=>h,fun z=>z⟩
theorem Step.trans (s:Step Z H F Z1 H1 F1)(t:Step Z1 H1 F1 Z2 H2 F2):Step Z H F Z2 H2 F2 where
 keep:=fun a o h n=>t.keep a o (s.keep a o h n) fun q=>(s.fn a q).elim n fun z=>by rw [h] at z; cases z
 zm:=fun a h=>t.zm a (s.zm a h)
 zn:=fun a h=>by
  rcases t.zn a h with q | q | q
  ·exact s.zn a q
  ·exact .inr (s.fn a q)
  ·exact .inr (.inr (by
    cases e:H a with
    | none=>rfl
    | some o=>exact absurd q (s.al a (by rw [e]; simp))))
 fn:=fun a h=>by
  rcases t.fn a h with q | q
  ·exact s.fn a q
  ·exact .inr (by
    cases e:H a with
    | none=>rfl
    | some o=>exact absurd q (s.al a (by rw [e]; simp)))
 al:=fun a h=>t.al a (s.al a h)
 za:=fun z=>t.za (s.za z)
theorem Step.frame (R:Fp)(s:Step Z H F Z' H' F'):Step Z H (fun a=>F a\/R a) Z' H' (fun a=>F' a\/R a) where
 keep:=fun a o h n=>s.keep a o h fun q=>n (.inl q)
 zm:=s.zm
 zn:=fun a h=>(s.zn a h).imp id fun q=>q.imp .inl id
 fn:=fun a h=>h.elim (fun q=>(s.fn a q).imp .inl id) fun q=>.inl (.inr q)
 al:=s.al
 za:=s.za
theorem Step.mono (s:Step Z H F Z' H' F')(h1:∀ a,F a->F1 a)(h2:∀ a,F2 a->F' a):Step Z H F1 Z' H' F2 where
 keep:=fun a o h n=>s.keep a o h fun q=>n (h1 a q)
 zm:=s.zm
 zn:=fun a h=>(s.zn a h).imp id fun q=>q.imp (h1 a) id
 fn:=fun a h=>(s.fn a (h2 a h)).imp (h1 a) id
 al:=s.al
 za:=s.za
theorem Own.stay (o:Own Z H F)(s:Step Z H F Z' H' F'):Stay Z H H':=by
 refine ⟨fun a u hz h=>s.keep a u h fun q=>(o a q).1 hz,fun a xs h=>?_,fun a u v h=>s.keep a _ h fun q=>?_⟩
 ·rcases h with h | ⟨u,h⟩
  ·refine .inl (s.keep a _ h fun q=>?_)
   obtain ⟨_,ys,e⟩:=o a q
   rw [h] at e; exact pN e
  ·refine .inr ⟨u,s.keep a _ h fun q=>?_⟩
   obtain ⟨_,ys,e⟩:=o a q
   rw [h] at e; exact kq e
 ·obtain ⟨_,ys,e⟩:=o a q
  rw [h] at e; exact kq e
theorem Rep.frame {m:Md}{t:T}{v:V}(o:Own Z H F)(s:Step Z H F Z' H' F')(d:∀ a,G a->¬ F a)(h:Rep K Z H m t v G):Rep K Z' H' m t v G:=h.keep (o.stay s) s.zm fun a u ha e=>s.keep a u e (d a ha)
theorem RepW.frame {ws:List W}{xs:List V}(o:Own Z H F)(s:Step Z H F Z' H' F')(d:∀ a,G a->¬ F a)(h:RepW K Z H ws xs G):RepW K Z' H' ws xs G:=h.keep (o.stay s) s.zm fun a u ha e=>s.keep a u e (d a ha)
theorem Own.frame (o:Own Z H G)(s:Step Z H F Z' H' F')(d:∀ a,G a->¬ F a):Own Z' H' G/\∀ a,G a->¬ F' a:=by
 refine ⟨fun a ha=>?_,fun a ha q=>?_⟩
 ·obtain ⟨nz,xs,e⟩:=o a ha
  refine ⟨fun q=>?_,xs,s.keep a _ e (d a ha)⟩
  rcases s.zn a q with z | z | z
  ·exact nz z
  ·exact d a ha z
  ·rw [e] at z; cases z
 ·obtain ⟨nz,xs,e⟩:=o a ha
  rcases s.fn a q with z | z
  ·exact d a ha z
  ·rw [e] at z; cases z
end
noncomputable abbrev Fps:=Nat->Fp
noncomputable def tot (Fs:Fps):Fp:=fun a=>∃ i,Fs i a
structure Gd (Z:Fp)(H:Hp)(Fs:Fps):Prop where
 own:Own Z H (tot Fs)
 dis:∀ i j a,Fs i a->Fs j a->i=j
 zal:∀ a,Z a->H a≠none
structure Cf where
 sl:Nat->Option Nat
 pv:Nat->Option V
noncomputable def EI (K:a0a)(sl:Cf)(Z:Fp)(H:Hp)(η:Env)(σ:L2.St)(Fs:Fps):Prop :=
 ∀ i m t,rd η i=some (m,t)->∃ v,Rep K Z H m t v (Fs i)/\(∀ j,sl.sl i=some j->σ[j]?=some (some v))/\∀ u,sl.pv i=some u->v=u
structure At (K:a0a)(sl:Cf)(σ:L2.St)(Z:Fp)(H:Hp)(Fs:Fps)(η:Env)(G:Fp):Prop where
 gd:Gd Z H Fs
 env:EI K sl Z H η σ Fs
 own:Own Z H G
 dis:∀ a,G a->¬ tot Fs a
 lk:∀ i u j,sl.pv i=some u->sl.sl i=some j->σ[j]?=some (some u)
 ln:∀ i j,sl.sl i=some j->j < σ.length
section
variable {K:a0a}{sl:Cf}{σ:L2.St}{Z Z':Fp}{H H':Hp}{Fs Fs':Fps}{η η':Env}{G G' R:Fp}
theorem At.frame (a:At K sl σ Z H Fs η R)(b:At K sl σ Z' H' Fs' η' G)(s:Step Z H (tot Fs) Z' H' (fun c=>tot Fs' c\/G c)) :
  At K sl σ Z' H' Fs' η' (fun c=>R c\/G c)/\Step Z H (fun c=>tot Fs c\/R c) Z' H' (fun c=>tot Fs' c\/(R c\/G c))/\∀ c,R c->¬ G c:=by
 have o:=a.own.frame s a.dis
 refine ⟨⟨b.gd,b.env,fun c hc=>hc.elim (o.1 c) (b.own c),fun c hc=>hc.elim (fun z q=>o.2 c z (.inl q)) (b.dis c),b.lk,b.ln⟩,(s.frame R).mono (fun _ z=>z) fun c hc=>?_,fun c z q=>o.2 c z (.inr q)⟩
 rcases hc with z | z | z
 ·exact .inl (.inl z)
 ·exact .inr z
 ·exact .inl (.inr z)
end
end MR
namespace MR
open L2 L3 M
open PySem (Addr Str sizeLine)
section
variable {K:a0a}{sl:Cf}{sf:Nat->Option Nat}{C:Call}{σ:L2.St}{Z Z' Z1:Fp}{H H' H1:Hp}{Fs Fs' Fs1:Fps}{η η' η1:Env}{G G' R F:Fp}
theorem At.mono (a:At K sl σ Z H Fs η G)(h:∀ c,G' c->G c):At K sl σ Z H Fs η G':=⟨a.gd,a.env,fun c hc=>a.own c (h c hc),fun c hc=>a.dis c (h c hc),a.lk,a.ln⟩
theorem At.bare (a:At K sl σ Z H Fs η G):At K sl σ Z H Fs η no:=a.mono fun _ z=>z.elim
noncomputable def wE (K:a0a)(sl:Nat->Option Nat)(C:Call)(e:E):TE:=fun σ H Q=>∃ pv Z Fs η w η',At K ⟨sl,pv⟩ σ Z H Fs η no/\evE C e η=.ok (w,η') /\
 ∀ v Z' H' Fs' G,At K ⟨sl,pv⟩ σ Z' H' Fs' η' G->Rep K Z' H' w.1 w.2 v G->Step Z H (tot Fs) Z' H' (fun a=>tot Fs' a\/G a)->Q v H'
noncomputable def wL (K:a0a)(sl:Nat->Option Nat)(C:Call)(es:List E):TA:=fun σ H Q=>∃ pv Z Fs η ws η',At K ⟨sl,pv⟩ σ Z H Fs η no/\evL C es η=.ok (ws,η') /\
 ∀ vs Z' H' Fs' G,At K ⟨sl,pv⟩ σ Z' H' Fs' η' G->RepW K Z' H' ws vs G->Step Z H (tot Fs) Z' H' (fun a=>tot Fs' a\/G a)->Q vs H'
theorem gK {e:E}{w:W}{Q:VK}(A:At K sl σ Z H Fs η R)(ev:evE C e η=.ok (w,η'))
  (k:∀ v Z' H' Fs' G,At K sl σ Z' H' Fs' η' (fun c=>R c\/G c)->Rep K Z' H' w.1 w.2 v G->(∀ c,R c->¬ G c)->Step Z H (tot Fs) Z' H' (fun a=>tot Fs' a\/G a) ->
   Step Z H (fun c=>tot Fs c\/R c) Z' H' (fun c=>tot Fs' c\/(R c\/G c))->Q v H'):wE K sl.sl C e σ H Q :=
 ⟨sl.pv,Z,Fs,η,w,η',A.bare,ev,fun v Z' H' Fs' G B r s=>by
  obtain ⟨h1,h2,h3⟩:=A.frame B s
  exact k v Z' H' Fs' G h1 r h3 s h2⟩
theorem Er {es:List E}{ws:List W}{Q:List V->Hp->Prop}(A:At K sl σ Z H Fs η R)(ev:evL C es η=.ok (ws,η'))
  (k:∀ vs Z' H' Fs' G,At K sl σ Z' H' Fs' η' (fun c=>R c\/G c)->RepW K Z' H' ws vs G->(∀ c,R c->¬ G c)->Step Z H (tot Fs) Z' H' (fun a=>tot Fs' a\/G a) ->
   Step Z H (fun c=>tot Fs c\/R c) Z' H' (fun c=>tot Fs' c\/(R c\/G c))->Q vs H'):wL K sl.sl C es σ H Q :=
 ⟨sl.pv,Z,Fs,η,ws,η',A.bare,ev,fun v Z' H' Fs' G B r s=>by
  obtain ⟨h1,h2,h3⟩:=A.frame B s
  exact k v Z' H' Fs' G h1 r h3 s h2⟩
theorem aa {α β:Type}{r:Res α}{f:α->Res β}{b:β}(h:r.bind f=.ok b):∃ a,r=.ok a/\f a=.ok b:=by
 cases r with
 | ok a=>exact ⟨a,rfl,h⟩
 | ex t=>cases h
 | no=>cases h
theorem aw {α:Type}{η:Env}{o:Option α}{b:α×Env}(h:ret η o=.ok b):∃ a,o=some a/\b=(a,η):=by
 cases o with
 | none=>cases h
 | some a=>exact ⟨a,rfl,by cases h; rfl⟩
theorem bS {α:Type}{o:Option α}{b:α}(h:ofO o=.ok b):o=some b:=by
 cases o with
 | none=>cases h
 | some a=>cases h; rfl
theorem aB {e:E}{es:List E}{ws:List W}(h:evL C (e::es) η=.ok (ws,η')):∃ w η1 us,evE C e η=.ok (w,η1)/\evL C es η1=.ok (us,η')/\ws=w::us:=by
 obtain ⟨⟨w,η1⟩,h1,h2⟩:=aa (show (evE C e η).bind (bA (evL C es))=_ from h)
 obtain ⟨⟨us,η2⟩,h3,h4⟩:=aa (show (evL C es η1).bind (kCons w)=_ from h2)
 cases h4
 exact ⟨w,η1,us,h1,h3,rfl⟩
theorem cJ {e:E}{es:List E}{ws:List W}(he:∀ i,e≠.io i)(h:evA C (e::es) η=.ok (ws,η')):∃ w η1 us,evE C e η=.ok (w,η1)/\evA C es η1=.ok (us,η')/\ws=w::us:=by
 rw [evA_eq he] at h
 obtain ⟨⟨w,η1⟩,h1,h2⟩:=aa h
 obtain ⟨⟨us,η2⟩,h3,h4⟩:=aa (show (evA C es η1).bind (kCons w)=_ from h2)
 cases h4
 exact ⟨w,η1,us,h1,h3,rfl⟩
theorem eJ {i:Nat}{es:List E}{ws:List W}(h:evA C (.io i::es) η=.ok (ws,η')):∃ us η1 w,evA C es η=.ok (us,η1)/\rd η1 i=some w/\ws=w::us/\η'=del η1 i:=by
 obtain ⟨⟨us,η1⟩,h1,h2⟩:=aa (show (evA C es η).bind (kIo i)=_ from h)
 obtain ⟨w,h3,h4⟩:=aa (show (ofO (rd η1 i)).bind (fun w=>.ok (w::us,del η1 i))=_ from h2)
 cases h4
 exact ⟨us,η1,w,h1,bS h3,rfl,rfl⟩
theorem uO (e:E):(∃ i,e=.io i)\/∀ i,e≠.io i:=by
 cases e with
 | io i=>exact .inl ⟨i,rfl⟩
 | _=>exact .inr fun _ z=>by cases z
theorem iU:∀ {es:List E} {η η':Env} {ws:List W},evA C es η=.ok (ws,η')->ws.length=es.length
 | [],_,_,_,h=>by cases h; rfl
 | e::es,_,_,_,h=>by
  rcases uO e with ⟨i,rfl⟩ | he
  ·obtain ⟨us,η1,w,h1,_,rfl,_⟩:=eJ h
   rw [a0g,a0g,iU h1]
  ·obtain ⟨w,η1,us,_,h2,rfl⟩:=cJ he h
   rw [a0g,a0g,iU h2]
theorem sQ {e:E}{es:List E}(σ:L2.St)(H:Hp)(Q:List V->Hp->Prop)(h:wL K sf C (e::es) σ H Q):mh (wE K sf C e) (wL K sf C es) σ H Q:=by
 obtain ⟨pv,Z,Fs,η,ws,η',A,ev,k⟩:=h
 obtain ⟨w,η1,us,h1,h2,rfl⟩:=aB ev
 refine gK A h1 fun x Z1 H1 Fs1 G1 A1 r1 _ s1 _=>?_
 have A1':=A1.mono (G':=G1) fun _ z=>.inr z
 refine Er A1' h2 fun xs Z2 H2 Fs2 G2 A2 r2 d2 s2 t2=>?_
 refine k (x::xs) Z2 H2 Fs2 _ A2 ⟨x,xs,G1,G2,rfl,fun _ z=>.inl z,fun _ z=>.inr z,d2,r1.frame A1.gd.own s2 A1'.dis,r2⟩ ?_
 exact s1.trans t2
theorem xZ (σ:L2.St)(H:Hp)(Q:List V->Hp->Prop)(h:wL K sf C [] σ H Q):yy σ H Q:=by
 obtain ⟨pv,Z,Fs,η,ws,η',A,ev,k⟩:=h
 cases ev
 exact k [] Z H Fs no A rfl ((Step.refl _ _ _).mono (fun _ z=>z) fun a ha=>ha.elim id fun z=>z.elim)
noncomputable def Out (K:a0a)(Z:Fp)(H:Hp)(G:Fp)(w:W)(Q:VK):Prop:=∀ v Z' H' G',Rep K Z' H' w.1 w.2 v G'->Own Z' H' G'->Step Z H G Z' H' G'->Q v H'
theorem At.op (A:At K sl σ Z H Fs η G)(o:Own Z' H' G')(s:Step Z H G Z' H' G'):At K sl σ Z' H' Fs η G'/\Step Z H (fun c=>tot Fs c\/G c) Z' H' (fun c=>tot Fs c\/G' c):=by
 have d:∀ a,tot Fs a->¬ G a:=fun a h q=>A.dis a q h
 have f:=A.gd.own.frame s d
 refine ⟨⟨⟨f.1,A.gd.dis,s.za A.gd.zal⟩,fun i m t e=>?_,o,fun a ha q=>f.2 a q ha,A.lk,A.ln⟩,?_⟩
 ·obtain ⟨v,r,hv⟩:=A.env i m t e
  exact ⟨v,r.frame A.own s fun a ha=>d a ⟨i,ha⟩,hv⟩
 ·refine (s.frame (tot Fs)).mono (fun _ z=>z.symm) fun _ z=>z.symm
theorem bO {w:W}{Q:VK}(A:At K sl σ Z1 H1 Fs1 η1 G)(s:Step Z H F Z1 H1 (fun a=>tot Fs1 a\/G a))
  (k:∀ v Z' H' Fs' G,At K sl σ Z' H' Fs' η1 G->Rep K Z' H' w.1 w.2 v G->Step Z H F Z' H' (fun a=>tot Fs' a\/G a)->Q v H'):Out K Z1 H1 G w Q:=fun v Z' H' G' r o t=>by
 obtain ⟨B,u⟩:=A.op o t
 exact k v Z' H' Fs1 G' B r (s.trans u)
noncomputable def Loc (K:a0a)(n:Nat)(o:Op)(h:Bool)(r:List V->Hp->VK->Prop):Prop:=∀ (ws:List W) (w:W) (xs:List V) (Z:Fp) (H:Hp) (G:Fp) (Q:VK),ws.length=n->oSem o h ws=some w->RepW K Z H ws xs G->Own Z H G->(∀ a,Z a->H a≠none)->Out K Z H G w Q->r xs H Q
theorem cy {o:Op}{h:Bool}{es:List E}{w:W}(e:evE C (.op o h es) η=.ok (w,η')):∃ ws,evL C es η=.ok (ws,η')/\oSem o h ws=some w:=by
 obtain ⟨⟨ws,η1⟩,h1,h2⟩:=aa (show (evL C es η).bind (kOp o h)=_ from e)
 obtain ⟨a,h3,h4⟩:=aw (show ret η1 (oSem o h ws)=_ from h2)
 cases h4
 exact ⟨ws,h1,h3⟩
theorem fC:∀ {es:List E} {η η':Env} {ws:List W},evL C es η=.ok (ws,η')->ws.length=es.length
 | [],_,_,_,h=>by cases h; rfl
 | e::es,_,_,_,h=>by
  obtain ⟨w,η1,us,_,h2,rfl⟩:=aB h
  rw [a0g,a0g,fC h2]
theorem gQ {n:Nat}{o:Op}{h:Bool}{es:List E}{r:List V->Hp->VK->Prop}(l:Loc K n o h r)(hn:es.length=n)(σ:L2.St)(H:Hp)(Q:VK)(hw:wE K sf C (.op o h es) σ H Q):tCB r (wL K sf C es) σ H Q:=by
 obtain ⟨pv,Z,Fs,η,w,η',A,ev,k⟩:=hw
 obtain ⟨ws,h1,h2⟩:=cy ev
 exact ⟨pv,Z,Fs,η,ws,η',A,h1,fun vs Z' H' Fs' G B r s=>l ws w vs Z' H' G Q ((fC h1).trans hn) h2 r B.own B.gd.zal (bO B s k)⟩
theorem bg {o:Op}{h:Bool}{a b:E}{r:R2}(l:Loc K 2 o h fun xs H Q=>∀ x y,xs=[x,y]->r x y H Q)(σ:L2.St)(H:Hp)(Q:VK)(hw:wE K sf C (.op o h [a,b]) σ H Q):tOp r (wE K sf C a) (wE K sf C b) σ H Q:=by
 obtain ⟨pv,Z,Fs,η,w,η',A,ev,k⟩:=hw
 obtain ⟨ws,h1,h2⟩:=cy ev
 obtain ⟨wa,η1,us,e1,e2,rfl⟩:=aB h1
 obtain ⟨wb,η2,us,e3,e4,rfl⟩:=aB e2
 cases e4
 refine gK A e1 fun x Z1 H1 Fs1 G1 A1 r1 _ s1 _=>?_
 have A1':=A1.mono (G':=G1) fun _ z=>.inr z
 refine gK A1' e3 fun y Z2 H2 Fs2 G2 A2 r2 d2 s2 t2=>?_
 exact l [wa,wb] w [x,y] Z2 H2 _ Q rfl h2 ⟨x,[y],G1,G2,rfl,fun _ z=>.inl z,fun _ z=>.inr z,d2,r1.frame A1.gd.own s2 A1'.dis,RepW.one r2⟩ A2.own A2.gd.zal (bO A2 (s1.trans t2) k) x y rfl
theorem cB:Own Z H no:=fun _ z=>z.elim
theorem Step.drop:Step Z H G Z H no:=(Step.refl Z H G).mono (fun _ z=>z) fun _ z=>z.elim
section
variable {Q:VK}{m:Md}{ts:List T}{xs:List V}
theorem aX {i:Int}(k:Out K Z H G (m,.int i) Q):Q (.int i) H:=k _ Z H no rfl cB .drop
theorem cA {b:Bool}(k:Out K Z H G (m,.bl b) Q):Q (.bl b) H:=k _ Z H no rfl cB .drop
theorem mn {x:Str}(k:Out K Z H G (m,.str x) Q)(h:sOk x=true):Q (.str x) H:=k _ Z H no ⟨rfl,h⟩ cB .drop
theorem j3 {t:T}{v:V}(o:Own Z H G)(k:Out K Z H G (m,t) Q)(r:Rep K Z H m t v G):Q v H:=k v Z H G r o (.refl _ _ _)
theorem jM {p:Addr}{o:HO}(hp:H p=none):Stay Z H (upd H p o):=by
 have ne:∀ {a u},H a=some u->a≠p:=fun {a u} e z=>by subst z; rw [hp] at e; cases e
 refine ⟨fun a u _ e=>?_,fun a xs e=>?_,fun a u v e=>?_⟩
 ·rw [ag (ne e)]; exact e
 ·rcases e with e | ⟨u,e⟩
  ·exact .inl (by rw [ag (ne e)]; exact e)
  ·exact .inr ⟨u,by rw [ag (ne e)]; exact e⟩
 ·rw [ag (ne e)]; exact e
theorem jO {p:Addr}{o:HO}(hp:H p=none)(ow:Own Z H G)(hg:∀ a,G' a->G a\/a=p)(z:Fp)(hz:∀ a,Z a->z a)(hz':∀ a,z a->Z a\/G a):Step Z H G z (upd H p o) G':=by
 have ne:∀ {a u},H a=some u->a≠p:=fun {a u} e q=>by subst q; rw [hp] at e; cases e
 have al:∀ a,H a≠none->upd H p o a≠none:=fun a h=>by
  by_cases e:a=p
  ·rw [e,aj]; simp
  ·rw [ag e]; exact h
 refine ⟨fun a u e _=>by rw [ag (ne e)]; exact e,hz,fun a h=>(hz' a h).imp id .inl,fun a h=>(hg a h).imp id fun e=>by rw [e]; exact hp,al,fun q a h=>al a ?_⟩
 rcases hz' a h with c | c
 ·exact q a c
 ·obtain ⟨_,xs,e⟩:=ow a c
  rw [e]; simp
theorem bJ {p:Addr}(ow:Own Z H G)(za:∀ a,Z a->H a≠none)(hg:∀ a,G' a->G a)(hl:xs.length<=LIM)(r:RepL K (bB Z G G') H m.kid ts xs G')(hm:m≠.s)(k:Out K Z H G (m,.lst ts) Q)(hp:H p=none):Q (.ref p) (upd H p (.lst xs)):=by
 have ne:∀ {a u},H a=some u->a≠p:=fun {a u} e q=>by subst q; rw [hp] at e; cases e
 have np:∀ a,G' a->a≠p:=fun a h=>by obtain ⟨_,ys,e⟩:=ow a (hg a h); exact ne e
 refine k _ (bB Z G G') _ (fun a=>G' a\/a=p) ⟨p,xs,rfl,hl,(LstR.own hm).mpr ⟨.inr rfl,aj⟩,?_⟩ ?_ (jO hp ow (fun a h=>h.imp (hg a) id) _ (fun a h=>.inl h) fun a h=>h.imp id a28)
 ·refine (r.keep (jM hp) (fun _ z=>z) fun a u _ e=>by rw [ag (ne e)]; exact e).mono fun a h=>⟨.inl h,np a h⟩
 ·rintro a (h | h)
  ·obtain ⟨nz,ys,e⟩:=ow a (hg a h)
   exact ⟨fun z=>z.elim nz fun q=>q.2 h,ys,by rw [ag (ne e)]; exact e⟩
  ·subst h
   refine ⟨fun z=>z.elim (fun q=>za a q hp) fun q=>?_,.inl xs,aj⟩
   obtain ⟨_,ys,e⟩:=ow a q.1
   rw [hp] at e; cases e
theorem uH {p:Addr}(ow:Own Z H G)(hg:∀ a,G' a->G a)(hl:xs.length<=LIM)(r:RepL K (bB Z G G') H m.kid ts xs G')(k:Out K Z H G (m,.tup ts) Q)(hp:H p=none):Q (.ref p) (upd H p (.tup xs)):=by
 have ne:∀ {a u},H a=some u->a≠p:=fun {a u} e q=>by subst q; rw [hp] at e; cases e
 refine k _ (bB Z G G') _ G' ⟨p,xs,rfl,.inl (.inl aj),hl,?_⟩ ?_ (jO hp ow (fun a h=>.inl (hg a h)) _ (fun a h=>.inl h) fun a h=>h.imp id a28)
 ·exact r.keep (jM hp) (fun _ z=>z) fun a u _ e=>by rw [ag (ne e)]; exact e
 ·intro a h
  obtain ⟨nz,ys,e⟩:=ow a (hg a h)
  exact ⟨fun z=>z.elim nz fun q=>q.2 h,ys,by rw [ag (ne e)]; exact e⟩
theorem jQ {v:V}{H':Hp}(ow:Own Z H G)(hg:∀ a,G' a->G a)(hl:xs.length<=LIM)(r:RepL K (bB Z G G') H m.kid ts xs G')(k:Out K Z H G (m,.tup ts) Q)(same:∀ b o,H b=some o->H' b=some o)(hv:∃ c,v=.ref c/\SqT K H' c xs):Q v H':=by
 obtain ⟨c,rfl,hs⟩:=hv
 have al:∀ a,H a≠none->H' a≠none:=fun a h=>by
  cases e:H a with
  | none=>exact absurd e h
  | some o=>rw [same a o e]; simp
 refine k _ (bB Z G G') _ G' ⟨c,xs,rfl,hs,hl,?_⟩ (fun a h=>?_) ⟨fun a o e _=>same a o e,fun a h=>.inl h,fun a h=>h.imp id fun q=>.inl q.1,fun a h=>.inl (hg a h),al,fun q a h=>al a ?_⟩
 ·refine r.keep ⟨fun a o _ e=>same a o e,fun a ys e=>?_,fun a o u e=>same a _ e⟩ (fun _ z=>z) fun a u _ e=>same a u e
  rcases e with e | ⟨u,e⟩
  ·exact .inl (same a _ e)
  ·exact .inr ⟨u,same a _ e⟩
 ·obtain ⟨nz,ys,e⟩:=ow a (hg a h)
  exact ⟨fun z=>z.elim nz fun q=>q.2 h,ys,same a _ e⟩
 ·rcases h with h | h
  ·exact q a h
  ·obtain ⟨_,ys,e⟩:=ow a h.1
   rw [e]; simp
theorem dn {p:Addr}{h:Bool}{w:W}(ow:Own Z H G)(za:∀ a,Z a->H a≠none)(hl:xs.length<=LIM)(r:∃ G',(∀ a,G' a->G a)/\RepL K (bB Z G G') H m ts xs G')(hn:newL h m ts=some w)(k:Out K Z H G w Q)(hp:H p=none):Q (.ref p) (upd H p (.lst xs)):=by
 obtain ⟨G',hg,r⟩:=r
 unfold newL at hn
 split at hn
 ·split at hn
  ·rename_i hlv
   cases hn
   refine bJ (m:=.d) (G':=no) ow za (fun _ z=>z.elim) hl ?_ (by simp) k hp
   exact r.leaves (fun _ _ _ e=>e) hlv
  ·cases hn
 ·cases hn
  exact bJ (m:=m.up) ow za hg hl (by rw [cF]; exact r) (bq m) k hp
end
end
end MR
namespace MR
open L2 L3 M
open PySem (Addr Str sizeLine)
section
variable {K:a0a}{h:Bool}
theorem gH {α β:Type}{ws:List α}{x y:β}(e:ws.length=[x,y].length):∃ a b,ws=[a,b]:=by
 match ws,e with
 | [a,b],_=>exact ⟨a,b,rfl⟩
theorem Ee {α β:Type}{ws:List α}{x:β}(e:ws.length=[x].length):∃ a,ws=[a]:=by
 match ws,e with
 | [a],_=>exact ⟨a,rfl⟩
theorem cM {Z:Fp}{H:Hp}{G:Fp}{u w:W}{x y:V}(r:RepW K Z H [u,w] [x,y] G):∃ G1 G2,(∀ a,G1 a->G a)/\(∀ a,G2 a->G a)/\(∀ a,G1 a->¬ G2 a)/\Rep K Z H u.1 u.2 x G1/\Rep K Z H w.1 w.2 y G2:=by
 obtain ⟨x',r',G1,G2,e,h1,h2,d,p,y',r2,G3,G4,e2,h3,h4,d2,q,z⟩:=r
 cases e; cases e2
 exact ⟨G1,G3,h1,fun a ha=>h2 a (h3 a ha),fun a ha hb=>d a ha (h3 a hb),p,q⟩
theorem Bh {Z:Fp}{H:Hp}{G:Fp}{w:W}{x:V}(r:RepW K Z H [w] [x] G):Rep K Z H w.1 w.2 x G:=by
 obtain ⟨x',r',G1,G2,e,h1,h2,d,p,z⟩:=r
 cases e
 exact p.mono h1
theorem dX {ws:List W}{xs:List V}{Z:Fp}{H:Hp}{G:Fp}{w:W}(hw:ws=[w])(r:RepW K Z H ws xs G):∃ x,xs=[x]/\Rep K Z H w.1 w.2 x G:=by
 subst hw
 obtain ⟨x,hx⟩:=Ee (x:=()) (show xs.length=[()].length from r.length)
 subst hx
 exact ⟨x,rfl,Bh r⟩
theorem lr {n:Nat}(h:n<=LIM):n < sizeLine:=a1j h (by decide)
theorem bD {n:Nat}(h:n<=LIM):n<=sizeLine:=a1A (lr h)
theorem bI {n:Nat}(h:fits n=true):n<=LIM:=of_decide_eq_true h
theorem rH {o:Op}{C:Int->Int->Prop}{g:Int->Int->T}(inv:∀ {u v w:W},oSem o h [u,v]=some w->∃ m n i j,u=(m,.int i)/\v=(n,.int j)/\C i j/\w=(.d,g i j))(gv:Int->Int->V)(hg:∀ {Z:Fp} {H:Hp} {G:Fp} {Q:VK} {i j:Int},Out K Z H G (.d,g i j) Q->Q (gv i j) H) :
  Loc K 2 o h fun xs H Q=>∀ x y,xs=[x,y]->rI C gv x y H Q:=by
 intro ws w xs Z H G Q hn e r ow za k x y hx
 subst hx
 obtain ⟨u,v,rfl⟩:=gH r.length.symm
 obtain ⟨m,n,i,j,rfl,rfl,c,rfl⟩:=inv e
 obtain ⟨G1,G2,_,_,_,r1,r2⟩:=cM r
 exact ⟨i,j,r1,r2,c,hg k⟩
theorem jd {o:Op}{g:Int->Int->T}(inv:∀ {u v w:W},oSem o h [u,v]=some w->∃ m n i j,u=(m,.int i)/\v=(n,.int j)/\w=(.d,g i j))(gv:Int->Int->V)(hg:∀ {Z:Fp} {H:Hp} {G:Fp} {Q:VK} {i j:Int},Out K Z H G (.d,g i j) Q->Q (gv i j) H) :
  Loc K 2 o h fun xs H Q=>∀ x y,xs=[x,y]->rI0 gv x y H Q:=by
 intro ws w xs Z H G Q hn e r ow za k x y hx
 subst hx
 obtain ⟨u,v,rfl⟩:=gH r.length.symm
 obtain ⟨m,n,i,j,rfl,rfl,rfl⟩:=inv e
 obtain ⟨G1,G2,_,_,_,r1,r2⟩:=cM r
 exact ⟨i,j,r1,r2,hg k⟩
theorem uB {u v w:W}(e:oSem .sub h [u,v]=some w):∃ m n i j,u=(m,.int i)/\v=(n,.int j)/\w=(.d,.int (i-j)):=by
 obtain ⟨m,a⟩:=u; obtain ⟨n,b⟩:=v
 cases a<;>first | (cases e; done) | (cases b<;>first | (cases e; exact ⟨_,_,_,_,rfl,rfl,rfl⟩) | cases e)
theorem iT {u v w:W}(e:oSem .lt h [u,v]=some w):∃ m n i j,u=(m,.int i)/\v=(n,.int j)/\w=(.d,.bl (decide (i < j))):=by
 obtain ⟨m,a⟩:=u; obtain ⟨n,b⟩:=v
 cases a<;>first | (cases e; done) | (cases b<;>first | (cases e; exact ⟨_,_,_,_,rfl,rfl,rfl⟩) | cases e)
theorem rE {u v w:W}(e:oSem .le h [u,v]=some w):∃ m n i j,u=(m,.int i)/\v=(n,.int j)/\w=(.d,.bl (decide (i<=j))):=by
 obtain ⟨m,a⟩:=u; obtain ⟨n,b⟩:=v
 cases a<;>first | (cases e; done) | (cases b<;>first | (cases e; exact ⟨_,_,_,_,rfl,rfl,rfl⟩) | cases e)
theorem rC {u v w:W}(e:oSem .gt h [u,v]=some w):∃ m n i j,u=(m,.int i)/\v=(n,.int j)/\w=(.d,.bl (decide (j < i))):=by
 obtain ⟨m,a⟩:=u; obtain ⟨n,b⟩:=v
 cases a<;>first | (cases e; done) | (cases b<;>first | (cases e; exact ⟨_,_,_,_,rfl,rfl,rfl⟩) | cases e)
theorem p7 {u v w:W}(e:oSem .ge h [u,v]=some w):∃ m n i j,u=(m,.int i)/\v=(n,.int j)/\w=(.d,.bl (decide (j<=i))):=by
 obtain ⟨m,a⟩:=u; obtain ⟨n,b⟩:=v
 cases a<;>first | (cases e; done) | (cases b<;>first | (cases e; exact ⟨_,_,_,_,rfl,rfl,rfl⟩) | cases e)
theorem qU {u v w:W}(e:oSem .fdiv h [u,v]=some w):∃ m n i j,u=(m,.int i)/\v=(n,.int j)/\Ah i j/\w=(.d,.int (i / j)):=by
 obtain ⟨m,a⟩:=u; obtain ⟨n,b⟩:=v
 cases a<;>first | (cases e; done) | (cases b<;>try (cases e; done))
 rename_i i j
 rw [qD] at e
 split at e
 ·rename_i hc
  rw [a0p,decide_eq_true_eq,decide_eq_true_eq] at hc
  cases e
  exact ⟨_,_,_,_,rfl,rfl,hc,rfl⟩
 ·cases e
theorem u0 {u v w:W}(e:oSem .mod h [u,v]=some w):∃ m n i j,u=(m,.int i)/\v=(n,.int j)/\(0 < j)/\w=(.d,.int (i % j)):=by
 obtain ⟨m,a⟩:=u; obtain ⟨n,b⟩:=v
 cases a<;>first | (cases e; done) | (cases b<;>try (cases e; done))
 rename_i i j
 rw [wR] at e
 split at e
 ·rename_i hc
  rw [decide_eq_true_eq] at hc
  cases e
  exact ⟨_,_,_,_,rfl,rfl,hc,rfl⟩
 ·cases e
theorem tP {u v w:W}(e:oSem .pow h [u,v]=some w):∃ m n i j,u=(m,.int i)/\v=(n,.int j)/\zU i j/\w=(.d,.int (i ^ j.toNat)):=by
 obtain ⟨m,a⟩:=u; obtain ⟨n,b⟩:=v
 cases a<;>first | (cases e; done) | (cases b<;>try (cases e; done))
 rename_i i j
 rw [Bu] at e
 split at e
 ·rename_i hc
  rw [a0p,a0p,decide_eq_true_eq,decide_eq_true_eq,decide_eq_true_eq] at hc
  cases e
  exact ⟨_,_,_,_,rfl,rfl,⟨hc.1.1,hc.1.2,hc.2⟩,rfl⟩
 ·cases e
theorem tq:Loc K 2 .sub h fun xs H Q=>∀ x y,xs=[x,y]->rI0 (fun i j=>.int (i-j)) x y H Q:=jd uB _ fun k=>aX k
theorem yR:Loc K 2 .lt h fun xs H Q=>∀ x y,xs=[x,y]->rI0 (fun i j=>.bl (decide (i < j))) x y H Q:=jd iT _ fun k=>cA k
theorem x8:Loc K 2 .gt h fun xs H Q=>∀ x y,xs=[x,y]->rI0 (fun i j=>.bl (decide (j < i))) x y H Q:=jd rC _ fun k=>cA k
theorem AB:Loc K 2 .ge h fun xs H Q=>∀ x y,xs=[x,y]->rI0 (fun i j=>.bl (decide (j<=i))) x y H Q:=jd p7 _ fun k=>cA k
theorem pF:Loc K 2 .fdiv h fun xs H Q=>∀ x y,xs=[x,y]->rI Ah (fun i j=>.int (i / j)) x y H Q:=rH qU _ fun k=>aX k
theorem vk:Loc K 2 .mod h fun xs H Q=>∀ x y,xs=[x,y]->rI (fun _ j=>0 < j) (fun i j=>.int (i % j)) x y H Q:=rH u0 _ fun k=>aX k
theorem vK:Loc K 2 .pow h fun xs H Q=>∀ x y,xs=[x,y]->rI zU (fun i j=>.int (i ^ j.toNat)) x y H Q:=rH tP _ fun k=>aX k
theorem bh {Z:Fp}{H:Hp}{G:Fp}{m:Md}{ts:List T}{v:V}(r:Rep K Z H m (.lst ts) v G):∃ a xs,v=.ref a/\H a=some (.lst xs)/\xs.length<=LIM/\RepL K Z H m.kid ts xs G:=by
 obtain ⟨a,xs,e,l,q,p⟩:=r
 exact ⟨a,xs,e,by cases m<;>exact q.2,l,p.mono fun _ z=>z.1⟩
theorem dh {Z:Fp}{H:Hp}{G:Fp}{m:Md}{ts:List T}{v:V}(r:Rep K Z H m (.tup ts) v G):∃ a xs,v=.ref a/\SqT K H a xs/\xs.length<=LIM/\RepL K Z H m.kid ts xs G:=r
theorem ej {Z:Fp}{H:Hp}{G G1 G2:Fp}{m n:Md}{ts us:List T}{xs ys:List V}(w1:∀ a,G1 a->G a)(w2:∀ a,G2 a->G a)(d:∀ a,G1 a->¬ G2 a)(r1:RepL K Z H m ts xs G1)(r2:RepL K Z H n us ys G2) :
  ∃ G',(∀ a,G' a->G a)/\RepL K (bB Z G G') H (m.meet n) (ts++us) (xs++ys) G':=by
 obtain ⟨A,a1,a2⟩:=RepL.weak (cS m n).1 r1
 obtain ⟨B,b1,b2⟩:=RepL.weak (cS m n).2 r2
 refine ⟨fun b=>A b\/B b,fun b hb=>hb.elim (fun z=>w1 b (a1 b z)) fun z=>w2 b (b1 b z),RepL.append (fun _ z=>.inl z) (fun _ z=>.inr z) (fun b za zb=>d b (a1 b za) (b1 b zb)) (a2.zmono fun b hb=>?_) (b2.zmono fun b hb=>?_)⟩
 ·exact hb.imp id fun z=>⟨w1 b z.1,fun q=>q.elim z.2 fun w=>d b z.1 (b1 b w)⟩
 ·exact hb.imp id fun z=>⟨w2 b z.1,fun q=>q.elim (fun w=>d b (a1 b w) z.1) z.2⟩
theorem vm {p q:Str}(h1:sOk p=true)(h2:sOk q=true)(hl:p.cps.size+q.cps.size<=LIM):sOk (p++q)=true:=by
 unfold sOk at *
 rw [a0p] at *
 refine ⟨?_,decide_eq_true ?_⟩
 ·show Array.all (p.cps++q.cps) _=true
  rw [Array.all_append,a0p]
  exact ⟨h1.1,h2.1⟩
 ·show (p.cps++q.cps).size<=LIM
  rw [Array.size_append]
  exact hl
theorem uE (rT:R2)(hT:∀ {Z:Fp} {H:Hp} {G:Fp} {Q:VK} {a b:Addr} {xs ys:List V} {ts:List T},SqT K H a xs->SqT K H b ys->xs≠[]->xs.length+ys.length<=LIM->Own Z H G->(∃ G',(∀ a,G' a->G a)/\RepL K (bB Z G G') H .s ts (xs++ys) G')->Out K Z H G (.s,.tup ts) Q->rT (.ref a) (.ref b) H Q) :
  Loc K 2 .add h fun xs H Q=>∀ x y,xs=[x,y]->rI0 (fun i j=>.int (i+j)) x y H Q\/(∃ i j,x=.str i/\y=.str j/\i.length+j.length<=sizeLine/\Q (.str (i++j)) H)\/C4 x y H Q\/rT x y H Q:=by
 intro ws w xs Z H G Q hn e r ow za k x y hx
 subst hx
 obtain ⟨⟨m,a⟩,⟨n,b⟩,rfl⟩:=gH r.length.symm
 obtain ⟨G1,G2,w1,w2,d,r1,r2⟩:=cM r
 cases a<;>first | (cases e; done) | (cases b<;>try (cases e; done))
 ·cases e
  exact .inl ⟨_,_,r1,r2,aX k⟩
 ·rename_i p q
  rw [oM] at e
  split at e
  ·rename_i hf
   cases e
   refine .inr (.inl ⟨p,q,r1.1,r2.1,bD (bI hf),mn k ?_⟩)
   exact vm r1.2 r2.2 (bI hf)
  ·cases e
 ·rename_i ts us
  rw [pE] at e
  split at e
  ·rename_i hf
   cases e
   rw [a0p] at hf
   obtain ⟨a,xs,rfl,hs,hl,p⟩:=dh r1
   obtain ⟨b,ys,rfl,hs2,hl2,p2⟩:=dh r2
   have hlen:=bI hf.1
   have e1:=p.length
   have e2:=p2.length
   refine .inr (.inr (.inr (hT hs hs2 ?_ (by omega) ow ?_ k)))
   ·rintro rfl
    cases ts with
    | nil=>simp at hf
    | cons _ _=>simp at e1
   ·refine ⟨no,fun _ z=>z.elim,RepL.append (G1:=no) (G2:=no) (fun _ z=>z) (fun _ z=>z) (fun _ z _=>z) ((RepL.sh p).zmono fun b hb=>?_) ((RepL.sh p2).zmono fun b hb=>?_)⟩
    ·exact hb.imp id fun z=>⟨w1 b z,fun q=>q⟩
    ·exact hb.imp id fun z=>⟨w2 b z,fun q=>q⟩
  ·cases e
 ·rename_i ts us
  rw [pU] at e
  split at e
  ·rename_i hf
   obtain ⟨a,xs,rfl,hs,hl,p⟩:=bh r1
   obtain ⟨b,ys,rfl,hs2,hl2,p2⟩:=bh r2
   have hlen:=bI hf
   have e1:=p.length
   have e2:=p2.length
   have hl3:(xs++ys).length<=LIM:=by rw [a0e]; omega
   refine .inr (.inr (.inl ⟨a,b,xs,ys,rfl,rfl,hs,hs2,bD (by omega),fun q hq=>?_⟩))
   exact dn ow za hl3 (ej w1 w2 d p p2) e k hq
  ·cases e
theorem sZ:Loc K 2 .mul h fun xs H Q=>∀ x y,xs=[x,y]->rI CMul (fun i j=>.int (i * j)) x y H Q\/BU x y H Q:=by
 intro ws w xs Z H G Q hn e r ow za k x y hx
 subst hx
 obtain ⟨⟨m,a⟩,⟨n,b⟩,rfl⟩:=gH r.length.symm
 obtain ⟨G1,G2,w1,w2,d,r1,r2⟩:=cM r
 cases a<;>first | (cases e; done) | (cases b<;>try (cases e; done))
 ·rename_i i j
  rw [qL] at e
  split at e
  ·rename_i hc
   cases e
   refine .inl ⟨i,j,r1,r2,?_,aX k⟩
   rw [a3K,decide_eq_true_eq,decide_eq_true_eq] at hc
   have h64:(2:Int) ^ 64=18446744073709551616:=by decide
   unfold CMul
   rw [h64]
   omega
  ·cases e
 ·rename_i ts j
  have e':(if decide (j.natAbs < 4611686018427387904)&&fits (ts.length * j.toNat) then newL h .s (a0h j.toNat ts).flatten else none)=some w:=e
  split at e'
  ·rename_i hc
   rw [a0p,decide_eq_true_eq] at hc
   obtain ⟨a,xs,rfl,hs,hl,p⟩:=bh r1
   have hlen:=bI hc.2
   have e1:=p.length
   have hl3:((a0h j.toNat xs).flatten).length<=LIM:=by
    rw [List.length_flatten,List.map_replicate,List.sum_replicate_nat,e1,a34]; exact hlen
   refine .inr ⟨a,j,xs,rfl,r2,hs,by omega,by omega,bD (by rw [e1]; exact hlen),fun q hq=>?_⟩
   refine dn ow za hl3 ⟨no,fun _ z=>z.elim,?_⟩ e' k hq
   have ps:=(RepL.sh p).zmono (Z':=bB Z G no) fun b hb=>hb.imp id fun z=>⟨w1 b z,fun q=>q⟩
   generalize j.toNat=c
   induction c with
   | zero=>exact rfl
   | succ c ih=>exact RepL.append (fun _ z=>z) (fun _ z=>z) (fun _ z _=>z) ps ih
  ·cases e'
theorem oS {Z:Fp}{H:Hp}{G:Fp}{m:Md}{ts:List T}{xs:List V}{i:Int}{t:T}(p:RepL K Z H m ts xs G)(e:M.atI ts i=some t):∃ x,L2.atI xs i=some x/\Rep K Z H m t x G:=by
 unfold M.atI at e
 have hn:M.ixN ts.length i=L2.ixN xs.length i:=by rw [p.length]; rfl
 cases e1:M.ixN ts.length i with
 | none=>rw [e1] at e; cases e
 | some j =>
  rw [e1] at e
  obtain ⟨x,hx,r⟩:=p.get (show ts[j]?=some t from e)
  refine ⟨x,?_,r⟩
  unfold L2.atI
  rw [<- hn,e1]
  exact hx
theorem uF {x:Str}{c:Nat}(h:sOk x=true)(hc:c∈x.cps.toList):sOk ⟨#[c]⟩=true:=by
 unfold sOk at *
 rw [a0p] at *
 refine ⟨?_,rfl⟩
 have h1:=h.1
 rw [a2v] at h1
 have h2:=h1 c (Array.mem_def.mpr hc)
 rw [a2v]
 intro y hy
 have:y=c:=by simpa using hy
 rw [this]; exact h2
theorem iF {x:Str}(h:sOk x=true):x.cps.size<=LIM:=by
 unfold sOk at h
 rw [a0p,decide_eq_true_eq] at h
 exact h.2
theorem yI:Loc K 2 .ix h fun xs H Q=>∀ x y,xs=[x,y]->(∃ p xs i v,x=.ref p/\y=.int i/\(SqL K H p xs\/SqT K H p xs)/\L2.atI xs i=some v/\Q v H)\/(∃ z i c,x=.str z/\y=.int i/\z.length<=sizeLine/\L2.atI z.cps.toList i=some c/\Q (.str ⟨#[c]⟩) H):=by
 intro ws w xs Z H G Q hn e r ow za k x y hx
 subst hx
 obtain ⟨⟨m,a⟩,⟨n,b⟩,rfl⟩:=gH r.length.symm
 obtain ⟨G1,G2,w1,w2,d,r1,r2⟩:=cM r
 cases b with
 | int i =>
  cases a with
  | lst ts =>
   obtain ⟨a,xs,rfl,hs,hl,p⟩:=bh r1
   have e':(M.atI ts i).map (fun t=>(m.kid,t))=some w:=e
   cases e1:M.atI ts i with
   | none=>rw [e1] at e'; cases e'
   | some t =>
    rw [e1] at e'; cases e'
    obtain ⟨v,hv,rv⟩:=oS p e1
    exact .inl ⟨a,xs,i,v,rfl,r2,.inl (.inl (.inl hs)),hv,j3 ow k (rv.mono w1)⟩
  | tup ts =>
   obtain ⟨a,xs,rfl,hs,hl,p⟩:=dh r1
   have e':(M.atI ts i).map (fun t=>(m.kid,t))=some w:=e
   cases e1:M.atI ts i with
   | none=>rw [e1] at e'; cases e'
   | some t =>
    rw [e1] at e'; cases e'
    obtain ⟨v,hv,rv⟩:=oS p e1
    exact .inl ⟨a,xs,i,v,rfl,r2,.inr hs,hv,j3 ow k (rv.mono w1)⟩
  | str z =>
   have e':(M.atI z.cps.toList i).map (fun c=>((.d,.str ⟨#[c]⟩):W))=some w:=e
   cases e1:M.atI z.cps.toList i with
   | none=>rw [e1] at e'; cases e'
   | some c =>
    rw [e1] at e'; cases e'
    refine .inr ⟨z,i,c,r1.1,r2,bD (iF r1.2),e1,mn k (uF r1.2 ?_)⟩
    unfold M.atI at e1
    cases e2:M.ixN z.cps.toList.length i with
    | none=>rw [e2] at e1; cases e1
    | some j=>rw [e2] at e1; exact a03 e1
  | scr ns =>
   obtain ⟨a,rfl,hL,hs⟩:=r1
   have e':(M.atI ns i).map (fun n=>((.d,.int n):W))=some w:=e
   cases e1:M.atI ns i with
   | none=>rw [e1] at e'; cases e'
   | some n =>
    rw [e1] at e'; cases e'
    refine .inl ⟨a,_,i,.int n,rfl,r2,.inl hs.sq,?_,aX k⟩
    unfold M.atI at e1
    unfold L2.atI
    rw [a0b]
    cases e2:M.ixN ns.length i with
    | none=>rw [e2] at e1; cases e1
    | some j =>
     rw [e2] at e1
     rw [show L2.ixN ns.length i=some j from e2]
     show (ns.map V.int)[j]?=_
     rw [a0t,show ns[j]?=some n from e1]
     rfl
  | _=>cases e
 | _=>cases a<;>cases e
theorem sr:Loc K 1 .len h fun xs H Q=>∃ x n,xs=[x]/\(match x with
  | .str y=>y.length<=sizeLine/\n=y.length
  | .byt y=>y.size<=sizeLine/\n=y.size
  | .ref p=>(∃ xs,SqL K H p xs/\n=xs.length)\/∃ xs,SqT K H p xs/\n=xs.length
  | _=>False)/\Q (.int (n:Nat)) H:=by
 intro ws w xs Z H G Q hn e r ow za k
 match ws,hn with
 | [(m,a)],_ =>
  obtain ⟨x,rfl,r1⟩:=dX rfl r
  cases a with
  | lst ts =>
   obtain ⟨a,xs,hx,hs,hl,p⟩:=bh r1
   cases e
   refine ⟨x,ts.length,rfl,?_,aX k⟩
   rw [show x=.ref a from hx]
   exact .inl ⟨xs,.inl (.inl hs),p.length.symm⟩
  | tup ts =>
   obtain ⟨a,xs,hx,hs,hl,p⟩:=dh r1
   cases e
   refine ⟨x,ts.length,rfl,?_,aX k⟩
   rw [show x=.ref a from hx]
   exact .inr ⟨xs,hs,p.length.symm⟩
  | str z =>
   cases e
   refine ⟨x,z.length,rfl,?_,aX k⟩
   rw [show x=.str z from r1.1]
   exact ⟨bD (iF r1.2),rfl⟩
  | scr ns =>
   obtain ⟨a,hx,hL,hs⟩:=r1
   cases e
   refine ⟨x,ns.length,rfl,?_,aX k⟩
   rw [show x=.ref a from hx]
   exact .inl ⟨_,hs.sq,by rw [a0b]⟩
  | _=>cases e
theorem fL {Z:Fp}{H:Hp}{G:Fp}{m:Md}:∀ ns:List Int,RepL K Z H m (ns.map T.int) (ns.map V.int) G
 | []=>rfl
 | n::ns=>⟨.int n,ns.map V.int,no,no,rfl,fun _ z=>z.elim,fun _ z=>z.elim,fun _ z=>z.elim,rfl,fL ns⟩
theorem rQ:Loc K 1 .list h fun xs H Q=>∃ p ys,xs=[.ref p]/\(SqL K H p ys\/SqT K H p ys)/\∀ l,H l=none->Q (.ref l) (upd H l (.lst ys)):=by
 intro ws w xs Z H G Q hn e r ow za k
 match ws,hn with
 | [(m,a)],_ =>
  obtain ⟨x,rfl,r1⟩:=dX rfl r
  cases a with
  | lst ts =>
   obtain ⟨a,xs,hx,hs,hl,p⟩:=bh r1
   refine ⟨a,xs,by rw [hx],.inl (.inl (.inl hs)),fun q hq=>dn ow za hl ⟨G,fun _ z=>z,p.zmono fun _ z=>.inl z⟩ e k hq⟩
  | tup ts =>
   obtain ⟨a,xs,hx,hs,hl,p⟩:=dh r1
   refine ⟨a,xs,by rw [hx],.inr hs,fun q hq=>dn ow za hl ⟨G,fun _ z=>z,p.zmono fun _ z=>.inl z⟩ e k hq⟩
  | scr ns =>
   obtain ⟨a,hx,hL,hs⟩:=r1
   cases e
   refine ⟨a,_,by rw [hx],.inl hs.sq,fun q hq=>bJ (G':=no) ow za (fun _ z=>z.elim) (by rw [a0b]; exact hL) (fL ns) (by simp) k hq⟩
  | _=>cases e
theorem pH {Z:Fp}{H:Hp}{G:Fp}{m:Md}:∀ {ts:List T} {ns:List Int} {xs:List V},bf ts=some ns->RepL K Z H m ts xs G->xs=ns.map V.int:=by
 intro ts
 induction ts generalizing G with
 | nil=>intro ns xs e r; cases e; exact r
 | cons t ts ih =>
  intro ns xs e r
  obtain ⟨x,r',G1,G2,rfl,_,_,_,p,q⟩:=r
  cases t with
  | int i =>
   cases e1:bf ts with
   | none=>simp [bf,e1] at e
   | some ms =>
    have:ns=i::ms:=by simpa [bf,e1] using e.symm
    subst this
    rw [a0A,<- ih e1 q,show x=.int i from p]
  | _=>cases e
theorem nV {Z:Fp}{H:Hp}{G:Fp}{m:Md}:∀ {ts:List T} {ns:List Bool} {xs:List V},aW ts=some ns->RepL K Z H m ts xs G->xs=ns.map V.bl:=by
 intro ts
 induction ts generalizing G with
 | nil=>intro ns xs e r; cases e; exact r
 | cons t ts ih =>
  intro ns xs e r
  obtain ⟨x,r',G1,G2,rfl,_,_,_,p,q⟩:=r
  cases t with
  | bl i =>
   cases e1:aW ts with
   | none=>simp [aW,e1] at e
   | some ms =>
    have:ns=i::ms:=by simpa [aW,e1] using e.symm
    subst this
    rw [a0A,<- ih e1 q,show x=.bl i from p]
  | _=>cases e
theorem sv:Loc K 1 .sum h fun xs H Q=>∃ (a:Addr) (ns:List Int),xs=[.ref a]/\SqL K H a (ns.map V.int)/\Q (.int ns.sum) H:=by
 intro ws w xs Z H G Q hn e r ow za k
 match ws,hn with
 | [(m,a)],_ =>
  obtain ⟨x,rfl,r1⟩:=dX rfl r
  cases a with
  | lst ts =>
   obtain ⟨a,xs,hx,hs,hl,p⟩:=bh r1
   have e':(bf ts).map (fun ns=>((.d,.int ns.sum):W))=some w:=e
   cases e1:bf ts with
   | none=>rw [e1] at e'; cases e'
   | some ns =>
    rw [e1] at e'; cases e'
    rw [pH e1 p] at hs
    exact ⟨a,ns,by rw [hx],.inl (.inl hs),aX k⟩
  | _=>cases e
theorem sA:Loc K 1 .all h fun xs H Q=>∃ (a:Addr) (bs:List Bool),xs=[.ref a]/\SqL K H a (bs.map V.bl)/\Q (.bl (bs.all id)) H:=by
 intro ws w xs Z H G Q hn e r ow za k
 match ws,hn with
 | [(m,a)],_ =>
  obtain ⟨x,rfl,r1⟩:=dX rfl r
  cases a with
  | lst ts =>
   obtain ⟨a,xs,hx,hs,hl,p⟩:=bh r1
   have e':(aW ts).map (fun ns=>((.d,.bl (ns.all id)):W))=some w:=e
   cases e1:aW ts with
   | none=>rw [e1] at e'; cases e'
   | some ns =>
    rw [e1] at e'; cases e'
    rw [nV e1 p] at hs
    exact ⟨a,ns,by rw [hx],.inl (.inl hs),cA k⟩
  | _=>cases e
theorem uC:Loc K 2 .max h fun xs H Q=>∃ i j,xs=[.int i,.int j]/\Q (.int (if j > i then j else i)) H:=by
 intro ws w xs Z H G Q hn e r ow za k
 match ws,hn with
 | [(m,a),(n,b)],_ =>
  obtain ⟨x,y,hx⟩:∃ x y,xs=[x,y]:=gH (x:=()) (y:=()) (show xs.length=[(),()].length from r.length)
  subst hx
  obtain ⟨G1,G2,_,_,_,r1,r2⟩:=cM r
  cases a<;>first | (cases e; done) | (cases b<;>first | (cases e; exact ⟨_,_,by rw [show x=_ from r1,show y=_ from r2],aX k⟩) | cases e)
end
end MR
namespace MR
open L2 L3 M
open PySem (Addr Str sizeLine)
section
variable {K:a0a}{sl:Cf}{sf:Nat->Option Nat}{C:Call}{σ:L2.St}{Z Z' Z1:Fp}{H H' H1:Hp}{Fs Fs' Fs1:Fps}{η η' η1:Env}{G G' R F:Fp}
mutual
theorem Rep.sany:∀ {t:T} {v:V} {G G':Fp},Rep K Z H .s t v G->Rep K Z H .s t v G'
 | .non,_,_,_,h=>h
 | .bl _,_,_,_,h=>h
 | .int _,_,_,_,h=>h
 | .str _,_,_,_,h=>h
 | .scr _,_,_,_,h=>h
 | .tup ts,_,_,_,⟨a,xs,e,q,l,r⟩=>⟨a,xs,e,q,l,RepL.sany r⟩
 | .lst ts,_,_,_,⟨a,xs,e,l,q,r⟩=>⟨a,xs,e,l,q,RepL.sany r⟩
 | .dct _ _,_,_,_,⟨a,xs,e,l,q,n,hl,r⟩=>⟨a,xs,e,l,q,n,hl,r⟩
 | .ins _ _ _,_,_,_,h=>h
 | .gone,_,_,_,h=>h
theorem RepL.sany:∀ {ts:List T} {xs:List V} {G G':Fp},RepL K Z H .s ts xs G->RepL K Z H .s ts xs G'
 | [],_,_,_,h=>h
 | t::ts,xs,_,_,⟨x,r,G1,G2,e,h1,h2,hd,p,q⟩=>⟨x,r,no,no,e,fun _ z=>z.elim,fun _ z=>z.elim,fun _ z=>z.elim,Rep.sany p,RepL.sany q⟩
end
theorem bp:∀ (η:Env) (i j:Nat) (o:Option W),rd (wr η i o) j=if j=i/\i < η.length then o else rd η j
 | [],i,j,o=>by simp [wr,rd]
 | p::η,0,0,o=>by simp [wr,rd]
 | p::η,0,j+1,o=>by simp [wr,rd]
 | p::η,i+1,0,o=>by simp [wr,rd]
 | p::η,i+1,j+1,o=>by
  show rd (wr η i o) j=_
  rw [bp η i j o]
  simp [rd]
theorem dE:∀ {η:Env} {i:Nat} {w:W},rd η i=some w->i < η.length
 | [],_,_,h=>by cases h
 | _::_,0,_,_=>by simp
 | _::η,i+1,_,h=>by have:=dE (η:=η) (i:=i) h; simp; exact this
theorem eY (h:∀ a,F a->G a):Step Z H G Z H F:=(Step.refl Z H G).mono (fun _ z=>z) h
theorem xF {i j:Nat}(hs:sf i=some j)(σ:L2.St)(H:Hp)(Q:VK)(h:wE K sf C (.var i) σ H Q):m6 j σ H Q:=by
 obtain ⟨pv,Z,Fs,η,w,η',A,ev,k⟩:=h
 obtain ⟨w',e1,e2⟩:=aw (show ret η ((rd η i).bind look)=_ from ev)
 cases e2
 cases e3:rd η i with
 | none=>rw [e3] at e1; cases e1
 | some u =>
  rw [e3] at e1
  obtain ⟨m,t⟩:=u
  obtain ⟨v,r,hv⟩:=A.env i m t e3
  refine ⟨v,hv.1 j hs,k v Z H Fs no A ?_ (eY fun a ha=>ha.elim id fun z=>z.elim)⟩
  cases m with
  | s=>cases e1; exact r.sany
  | d =>
   have e1':(if t.leaf=true then some (Md.d,t) else none)=some w:=e1
   split at e1'
   ·rename_i hl; cases e1'; exact r.leaf (fun _ _ _ q=>q) hl
   ·cases e1'
  | o m =>
   have e1':(if t.leaf=true then some (Md.d,t) else none)=some w:=e1
   split at e1'
   ·rename_i hl; cases e1'; exact r.leaf (fun _ _ _ q=>q) hl
   ·cases e1'
noncomputable def Ao (Fs:Fps)(i:Nat):Fps:=fun j a=>j≠i/\Fs j a
theorem AW {e:E}{i j:Nat}(he:∀ η,evE C e η=ret (del η i) (rd η i))(hs:sf i=some j)(σ:L2.St)(H:Hp)(Q:VK)(h:wE K sf C e σ H Q):m6 j σ H Q:=by
 obtain ⟨pv,Z,Fs,η,w,η',A,ev,k⟩:=h
 rw [he] at ev
 obtain ⟨w',e1,e2⟩:=aw ev
 cases e2
 obtain ⟨m,t⟩:=w
 obtain ⟨v,r,hv⟩:=A.env i m t e1
 refine ⟨v,hv.1 j hs,k v Z H (Ao Fs i) (Fs i) ⟨⟨fun a ⟨l,h1,h2⟩=>A.gd.own a ⟨l,h2⟩,fun l l' a h1 h2=>A.gd.dis l l' a h1.2 h2.2,A.gd.zal⟩,fun l m' t' e=>?_,fun a ha=>A.gd.own a ⟨i,ha⟩,fun a ha ⟨l,h1,h2⟩=>h1 (A.gd.dis l i a h2 ha),A.lk,A.ln⟩ r (eY fun a ha=>ha.elim (fun ⟨l,h1,h2⟩=>⟨l,h2⟩) fun z=>⟨i,z⟩)⟩
 rw [bp] at e
 split at e
 ·cases e
 ·rename_i hne
  obtain ⟨v',r',hv'⟩:=A.env l m' t' e
  have hli:l≠i:=fun z=>hne ⟨z,dE e1⟩
  exact ⟨v',r'.mono fun a ha=>⟨hli,ha⟩,hv'⟩
theorem i9 {t:T}{v:V}(hv:∀ {Z:Fp} {H:Hp},Rep K Z H .d t v no)(σ:L2.St)(H:Hp)(Q:VK)(h:wE K sf C (.cst t) σ H Q):tC v σ H Q:=by
 obtain ⟨pv,Z,Fs,η,w,η',A,ev,k⟩:=h
 cases ev
 exact k v Z H Fs no A hv (eY fun a ha=>ha.elim id fun z=>z.elim)
theorem Aw {es:List E}(hn:es.length<=LIM)(σ:L2.St)(H:Hp)(Q:VK)(h:wE K sf C (.tup es) σ H Q):Dx (wL K sf C es) σ H Q:=by
 obtain ⟨pv,Z,Fs,η,w,η',A,ev,k⟩:=h
 obtain ⟨⟨ws,η1⟩,h1,h2⟩:=aa (show (evL C es η).bind kv=_ from ev)
 cases h2
 refine ⟨pv,Z,Fs,η,ws,_,A,h1,fun vs Z' H' Fs' G B r s=>?_⟩
 have hl:vs.length<=LIM:=by rw [r.length,fC h1]; exact hn
 obtain ⟨G',g1,g2⟩:=RepW.to (fun u hu=>gG hu) r
 refine ⟨bD hl,fun p hp=>uH (m:=(fF ws).up) B.own g1 hl (by rw [cF]; exact g2) (bO B s k) hp⟩
theorem yT {b:Bool}{es:List E}(hn:es.length<=LIM)(σ:L2.St)(H:Hp)(Q:VK)(h:wE K sf C (.lst b es) σ H Q):CJ (wL K sf C es) σ H Q:=by
 obtain ⟨pv,Z,Fs,η,w,η',A,ev,k⟩:=h
 obtain ⟨⟨ws,η1⟩,h1,h2⟩:=aa (show (evL C es η).bind (rS b)=_ from ev)
 cases h2
 refine ⟨pv,Z,Fs,η,ws,_,A,h1,fun vs Z' H' Fs' G B r s=>?_⟩
 have hl:vs.length<=LIM:=by rw [r.length,fC h1]; exact hn
 refine ⟨bD hl,fun p hp=>?_⟩
 cases b with
 | true =>
  obtain ⟨G',g1,g2⟩:=RepW.to (fun u hu=>gG hu) r
  exact bJ (m:=(fF ws).up) B.own B.gd.zal g1 hl (by rw [cF]; exact g2) (bq _) (bO B s k) hp
 | false =>
  obtain ⟨G',g1,g2⟩:=RepW.to (N:=.s) (fun u hu=>by cases lf u.1 u.2<;>rfl) r
  exact bJ (m:=.o .s) B.own B.gd.zal g1 hl g2 (by simp) (bO B s k) hp
noncomputable def wT (K:a0a)(sl:Nat->Option Nat)(C:Call)(e:E):TT:=fun σ H Q=>∃ pv Z Fs η w η' b,At K ⟨sl,pv⟩ σ Z H Fs η no/\evE C e η=.ok (w,η')/\truth w.2=some b /\
 ∀ Z' H' Fs',At K ⟨sl,pv⟩ σ Z' H' Fs' η' no->Step Z H (tot Fs) Z' H' (tot Fs')->Q b H'
noncomputable def TrV (K:a0a)(x:V)(H:Hp)(k:Bool):Prop :=
 match x with
 | .non=>k=false
 | .bl b=>k=b
 | .int i=>k=(i != 0)
 | .str y=>y.length<=sizeLine/\k=((y.length:Int) != 0)
 | .ref p=>(∃ xs,SqL K H p xs/\k=!xs.isEmpty)\/(∃ xs,SqT K H p xs/\k=!xs.isEmpty)
 | _=>False
theorem dm {α β:Type}{xs:List α}{ys:List β}(h:xs.length=ys.length):xs.isEmpty=ys.isEmpty:=by
 cases xs<;>cases ys<;>first | rfl | simp at h
theorem eM {m:Md}{t:T}{v:V}{b:Bool}(e:truth t=some b)(r:Rep K Z H m t v G):TrV K v H b:=by
 cases t with
 | non=>cases e; rw [show v=_ from r]; rfl
 | bl c=>cases e; rw [show v=_ from r]; rfl
 | int i=>cases e; rw [show v=_ from r]; rfl
 | str x =>
  cases e; rw [show v=_ from r.1]
  refine ⟨bD (iF r.2),?_⟩
  show (x.cps.size != 0)=(((x.cps.size:Nat):Int) != 0)
  cases x.cps.size with
  | zero=>rfl
  | succ n=>simp; omega
 | tup ts =>
  obtain ⟨a,xs,rfl,hs,hl,p⟩:=dh r
  cases e
  exact .inr ⟨xs,hs,by rw [dm p.length]⟩
 | lst ts =>
  obtain ⟨a,xs,rfl,hs,hl,p⟩:=bh r
  cases e
  exact .inl ⟨xs,.inl (.inl hs),by rw [dm p.length]⟩
 | scr ns =>
  obtain ⟨a,rfl,hL,hs⟩:=r
  cases e
  exact .inl ⟨_,hs.sq,by rw [dm (a0b ..)]⟩
 | dct _ _=>cases e
 | ins _ _ _=>cases e
 | gone=>cases e
theorem lb {e:E}{w:W}{b:Bool}{Q:Bool->Hp->Prop}(A:At K sl σ Z H Fs η no)(ev:evE C e η=.ok (w,η'))(ht:truth w.2=some b)(k:∀ Z' H' Fs',At K sl σ Z' H' Fs' η' no->Step Z H (tot Fs) Z' H' (tot Fs')->Q b H'):wT K sl.sl C e σ H Q:=⟨sl.pv,Z,Fs,η,w,η',b,A,ev,ht,k⟩
theorem bz {α:Type}{f g:Env->Res α}{p:W×Env}{r:α}(h:onT f g p=.ok r):∃ b,truth p.1.2=some b/\(if b=true then f p.2 else g p.2)=.ok r:=by
 unfold onT at h
 split at h
 ·rename_i e; exact ⟨true,e,h⟩
 ·rename_i e; exact ⟨false,e,h⟩
 ·cases h
theorem y8 {e:E}(σ:L2.St)(H:Hp)(Q:Bool->Hp->Prop)(h:wT K sf C (.not e) σ H Q):Bg (wT K sf C e) σ H Q:=by
 obtain ⟨pv,Z,Fs,η,w,η',b,A,ev,ht,k⟩:=h
 obtain ⟨⟨u,η1⟩,h1,h2⟩:=aa (show (evE C e η).bind nX=_ from ev)
 obtain ⟨w',e1,e2⟩:=aw (show ret η1 ((truth u.2).map fun b=>((.d,.bl (!b)):W))=_ from h2)
 cases e2
 cases e3:truth u.2 with
 | none=>rw [e3] at e1; cases e1
 | some c =>
  rw [e3] at e1; cases e1
  have:b=!c:=by cases ht; rfl
  subst this
  exact lb A h1 e3 k
theorem yN {a b:E}(σ:L2.St)(H:Hp)(Q:Bool->Hp->Prop)(h:wT K sf C (.and a b) σ H Q):DA (wT K sf C a) (wT K sf C b) σ H Q:=by
 obtain ⟨pv,Z,Fs,η,w,η',c,A,ev,ht,k⟩:=h
 obtain ⟨⟨u,η1⟩,h1,h2⟩:=aa (show (evE C a η).bind (pf (evE C b))=_ from ev)
 obtain ⟨d,h3,h4⟩:=bz (show onT (evE C b) (okW u) (u,η1)=_ from h2)
 refine lb A h1 h3 fun Z1 H1 Fs1 A1 s1=>?_
 cases d with
 | true=>rw [if_pos rfl] at h4 ⊢; exact lb A1 h4 ht fun Z2 H2 Fs2 A2 s2=>k Z2 H2 Fs2 A2 (s1.trans s2)
 | false =>
  rw [if_neg a0r] at h4 ⊢
  cases h4
  cases (h3.symm.trans ht)
  exact k Z1 H1 Fs1 A1 s1
theorem Ci {a b:E}(σ:L2.St)(H:Hp)(Q:Bool->Hp->Prop)(h:wT K sf C (.or a b) σ H Q):tOr (wT K sf C a) (wT K sf C b) σ H Q:=by
 obtain ⟨pv,Z,Fs,η,w,η',c,A,ev,ht,k⟩:=h
 obtain ⟨⟨u,η1⟩,h1,h2⟩:=aa (show (evE C a η).bind (kOr (evE C b))=_ from ev)
 obtain ⟨d,h3,h4⟩:=bz (show onT (okW u) (evE C b) (u,η1)=_ from h2)
 refine lb A h1 h3 fun Z1 H1 Fs1 A1 s1=>?_
 cases d with
 | false=>rw [if_neg a0r] at h4 ⊢; exact lb A1 h4 ht fun Z2 H2 Fs2 A2 s2=>k Z2 H2 Fs2 A2 (s1.trans s2)
 | true =>
  rw [if_pos rfl] at h4 ⊢
  cases h4
  cases (h3.symm.trans ht)
  exact k Z1 H1 Fs1 A1 s1
theorem zB {c a b:E}(σ:L2.St)(H:Hp)(Q:VK)(h:wE K sf C (.ifx c a b) σ H Q):tIf (wT K sf C c) (wE K sf C a) (wE K sf C b) σ H Q:=by
 obtain ⟨pv,Z,Fs,η,w,η',A,ev,k⟩:=h
 obtain ⟨⟨u,η1⟩,h1,h2⟩:=aa (show (evE C c η).bind (onT (evE C a) (evE C b))=_ from ev)
 obtain ⟨d,h3,h4⟩:=bz h2
 refine lb A h1 h3 fun Z1 H1 Fs1 A1 s1=>?_
 cases d with
 | true=>rw [if_pos rfl] at h4 ⊢; exact ⟨pv,Z1,Fs1,η1,w,η',A1,h4,fun v Z' H' Fs' G B r s=>k v Z' H' Fs' G B r (s1.trans s)⟩
 | false=>rw [if_neg a0r] at h4 ⊢; exact ⟨pv,Z1,Fs1,η1,w,η',A1,h4,fun v Z' H' Fs' G B r s=>k v Z' H' Fs' G B r (s1.trans s)⟩
theorem zy {e:E}(σ:L2.St)(H:Hp)(Q:VK)(h:wE K sf C (.not e) σ H Q):wE K sf C e σ H fun x H1=>∃ k,TrV K x H1 k/\Q (.bl (!k)) H1:=by
 obtain ⟨pv,Z,Fs,η,w,η',A,ev,k⟩:=h
 obtain ⟨⟨u,η1⟩,h1,h2⟩:=aa (show (evE C e η).bind nX=_ from ev)
 obtain ⟨w',e1,e2⟩:=aw (show ret η1 ((truth u.2).map fun b=>((.d,.bl (!b)):W))=_ from h2)
 cases e2
 cases e3:truth u.2 with
 | none=>rw [e3] at e1; cases e1
 | some c =>
  rw [e3] at e1; cases e1
  exact ⟨pv,Z,Fs,η,u,_,A,h1,fun v Z' H' Fs' G B r s=>⟨c,eM e3 r,k _ Z' H' Fs' no B.bare rfl (s.mono (fun _ z=>z) fun a ha=>ha.elim .inl fun z=>z.elim)⟩⟩
theorem BM {a b:E}(σ:L2.St)(H:Hp)(Q:VK)(h:wE K sf C (.or a b) σ H Q):wE K sf C a σ H fun x H1=>∃ k,TrV K x H1 k/\if k=true then Q x H1 else wE K sf C b σ H1 Q:=by
 obtain ⟨pv,Z,Fs,η,w,η',A,ev,k⟩:=h
 obtain ⟨⟨u,η1⟩,h1,h2⟩:=aa (show (evE C a η).bind (kOr (evE C b))=_ from ev)
 obtain ⟨d,h3,h4⟩:=bz (show onT (okW u) (evE C b) (u,η1)=_ from h2)
 refine ⟨pv,Z,Fs,η,u,η1,A,h1,fun v Z1 H1 Fs1 G B r s=>⟨d,eM h3 r,?_⟩⟩
 cases d with
 | false=>rw [if_neg a0r] at h4 ⊢; exact ⟨pv,Z1,Fs1,η1,w,η',B.bare,h4,fun v' Z' H' Fs' G' B' r' s'=>k v' Z' H' Fs' G' B' r' ((s.mono (fun _ z=>z) fun _ z=>.inl z).trans s')⟩
 | true =>
  rw [if_pos rfl] at h4 ⊢
  cases h4
  exact k v Z1 H1 Fs1 G B r s
end
end MR
namespace MR
open L2 L3 M
open PySem (Addr Str sizeLine)
section
variable {K:a0a}{sl:Cf}{sf:Nat->Option Nat}{C:Call}{σ:L2.St}{Z Z' Z1:Fp}{H H' H1:Hp}{Fs Fs' Fs1:Fps}{η η' η1:Env}{G G' R F:Fp}
structure Wk (K:a0a)(J:It)(Z:Fp)(H0:Hp)(ts:List (List W)):Prop where
 go:∀ H i,Stay Z H0 H->i < ts.length->J.go i H
 stop:∀ H i,Stay Z H0 H->ts.length<=i->J.stop i H
 len:ts.length<=LIM
noncomputable def oJ (K:a0a)(J:It)(Z:Fp)(H0:Hp)(ts:List (List W)):Prop :=
 ∀ H i x H',Stay Z H0 H->i < ts.length->J.yld i H x H'->H'=H/\∃ w,ts[i]?=some [w]/\Rep K Z H w.1 w.2 x no
noncomputable def DS (K:a0a)(J:It)(Z:Fp)(H0:Hp)(ts:List (List W)):Prop :=
 ∀ H i x H',Stay Z H0 H->i < ts.length->J.yld i H x H'->∃ p y z u w,x=.ref p/\(∀ b o,H b=some o->H' b=some o)/\SqT K H' p [y,z]/\ts[i]?=some [u,w]/\Rep K Z H u.1 u.2 y no/\Rep K Z H w.1 w.2 z no
theorem jv (same:∀ b o,H b=some o->H' b=some o):Stay Z H H':=by
 refine ⟨fun a o _ e=>same a o e,fun a ys e=>?_,fun a o u e=>same a _ e⟩
 rcases e with e | ⟨u,e⟩
 ·exact .inl (same a _ e)
 ·exact .inr ⟨u,same a _ e⟩
theorem gh (same:∀ a o,H a=some o->H' a=some o):Step Z H G Z H' G:=by
 have al:∀ a,H a≠none->H' a≠none:=fun a h=>by
  cases e:H a with
  | none=>exact absurd e h
  | some o=>rw [same a o e]; simp
 exact ⟨fun a o h _=>same a o h,fun _ h=>h,fun _ h=>.inl h,fun _ h=>.inl h,al,fun z a h=>al a (z a h)⟩
theorem Ay {p:Addr}{o:HO}(hp:H p=none):∀ b u,H b=some u->upd H p o b=some u:=fun a u e=>by
 have:a≠p:=fun q=>by subst q; rw [hp] at e; cases e
 rw [ag this]; exact e
noncomputable def Yld (K:a0a)(J:It)(Z:Fp)(H0:Hp)(ts:List (List W)):Nat->Prop
 | 1=>oJ K J Z H0 ts
 | 2=>DS K J Z H0 ts
 | _=>False
noncomputable def wI (K:a0a)(sl:Nat->Option Nat)(C:Call)(n:Nat)(k:Ik)(src:List E):TI:=fun σ H R=>∃ pv Z Fs η ws η' ts,At K ⟨sl,pv⟩ σ Z H Fs η no/\evL C src η=.ok (ws,η')/\aY k ws=some ts /\
 ∀ J Z' H' Fs',At K ⟨sl,pv⟩ σ Z' H' Fs' η' no->Step Z H (tot Fs) Z' H' (tot Fs')->Wk K J Z' H' ts->Yld K J Z' H' ts n->R J H'
theorem At.freeze (A:At K sl σ Z H Fs η G):At K sl σ (fun a=>Z a\/G a) H Fs η no:=by
 refine ⟨⟨fun a ha=>⟨fun z=>z.elim (A.gd.own a ha).1 fun q=>A.dis a q ha,(A.gd.own a ha).2⟩,A.gd.dis,fun a h=>h.elim (A.gd.zal a) fun q=>?_⟩,fun i m t e=>?_,cB,fun _ z=>z.elim,A.lk,A.ln⟩
 ·obtain ⟨_,xs,e⟩:=A.own a q
  rw [e]; simp
 ·obtain ⟨v,r,h⟩:=A.env i m t e
  exact ⟨v,r.zmono fun a h=>.inl h,h⟩
theorem bM (o:Own Z' H' G)(s:Step Z H F Z' H' (fun a=>F' a\/G a)):Step Z H F (fun a=>Z' a\/G a) H' F' where
 keep:=s.keep
 zm:=fun a h=>.inl (s.zm a h)
 zn:=fun a h=>h.elim (s.zn a) fun q=>.inr (s.fn a (.inr q))
 fn:=fun a h=>s.fn a (.inl h)
 al:=s.al
 za:=fun z a h=>h.elim (s.za z a) fun q=>by
  obtain ⟨_,xs,e⟩:=o a q
  rw [e]; simp
theorem fx {a:Addr}{xs:List V}{H0:Hp}(s:Stay Z H0 H)(hz:Z a)(h:H0 a=some (.lst xs)):SqL K H a xs:=.inl (.inl (s.1 a _ hz h))
theorem uN {a:Addr}{xs:List V}{ts:List T}(hL:xs.length<=LIM)(hz:Z a)(h:H a=some (.lst xs))(r:RepL K Z H .s ts xs no):Wk K (Itl K a) Z H (ts.map fun t=>[(.s,t)])/\oJ K (Itl K a) Z H (ts.map fun t=>[(.s,t)]):=by
 have hl:=r.length
 refine ⟨⟨fun H' i s hi=>?_,fun H' i s hi=>?_,by rw [a0b]; omega⟩,fun H' i x H'' s hi y=>?_⟩
 ·rw [a0b] at hi
  exact ⟨xs,xs[i]'(by omega),fx s hz h,by simp⟩
 ·rw [a0b] at hi
  exact ⟨xs,fx s hz h,by omega⟩
 ·rw [a0b] at hi
  obtain ⟨rfl,y⟩:=y
  have hx:=y xs (fx s hz h)
  obtain ⟨x',hx',rx⟩:=r.get (show ts[i]?=some ts[i] by simp)
  rw [hx] at hx'; cases hx'
  refine ⟨rfl,(.s,ts[i]),by rw [a0t,show ts[i]?=some ts[i] by simp]; rfl,rx.keep s (fun _ z=>z) fun _ _ z=>z.elim⟩
theorem xP {a:Addr}{xs:List V}{ts:List T}(hL:xs.length<=LIM)(h:SqT K H a xs)(r:RepL K Z H .s ts xs no):Wk K (Itt K a) Z H (ts.map fun t=>[(.s,t)])/\oJ K (Itt K a) Z H (ts.map fun t=>[(.s,t)]):=by
 have hl:=r.length
 refine ⟨⟨fun H' i s hi=>?_,fun H' i s hi=>?_,by rw [a0b]; omega⟩,fun H' i x H'' s hi y=>?_⟩
 ·rw [a0b] at hi
  exact ⟨xs,xs[i]'(by omega),s.sqt h,by simp⟩
 ·rw [a0b] at hi
  exact ⟨xs,s.sqt h,by omega⟩
 ·rw [a0b] at hi
  obtain ⟨rfl,y⟩:=y
  have hx:=y xs (s.sqt h)
  obtain ⟨x',hx',rx⟩:=r.get (show ts[i]?=some ts[i] by simp)
  rw [hx] at hx'; cases hx'
  refine ⟨rfl,(.s,ts[i]),by rw [a0t,show ts[i]?=some ts[i] by simp]; rfl,rx.keep s (fun _ z=>z) fun _ _ z=>z.elim⟩
theorem zx {lo:Int}{n:Nat}(hL:n<=LIM):Wk K (Itr lo n) Z H ((a0q n).map fun (k:Nat)=>[(.d,.int (lo+k))])/\oJ K (Itr lo n) Z H ((a0q n).map fun (k:Nat)=>[(.d,.int (lo+k))]):=by
 refine ⟨⟨fun H' i s hi=>by show i < n; simpa using hi,fun H' i s hi=>by show n<=i; simpa using hi,by simpa using hL⟩,fun H' i x H'' s hi y=>?_⟩
 obtain ⟨rfl,rfl⟩:=y
 refine ⟨rfl,(.d,.int (lo+i)),?_,rfl⟩
 rw [a0b,a0W] at hi
 rw [a0t,a1U hi]
 rfl
theorem kL {a:Addr}{ns:List Int}{H0:Hp}(s:Stay Z H0 H)(h:ScrR K H0 a ns):SqL K H a (ns.map V.int):=(h.keep s.2.2).sq
theorem xh {a:Addr}{ns:List Int}(hL:ns.length<=LIM)(h:ScrR K H a ns):Wk K (Itl K a) Z H (ns.map fun n=>[(.d,.int n)])/\oJ K (Itl K a) Z H (ns.map fun n=>[(.d,.int n)]):=by
 refine ⟨⟨fun H' i s hi=>?_,fun H' i s hi=>?_,by rw [a0b]; exact hL⟩,fun H' i x H'' s hi y=>?_⟩
 ·rw [a0b] at hi
  exact ⟨_,(ns.map V.int)[i]'(by rw [a0b]; exact hi),kL s h,by simp⟩
 ·rw [a0b] at hi
  exact ⟨_,kL s h,by rw [a0b]; exact hi⟩
 ·rw [a0b] at hi
  obtain ⟨rfl,y⟩:=y
  have hx:=y _ (kL s h)
  refine ⟨rfl,(.d,.int ns[i]),by rw [a0t,show ns[i]?=some ns[i] by simp]; rfl,?_⟩
  rw [a0t,show ns[i]?=some ns[i] by simp] at hx
  exact (a0w hx).symm
theorem AD {e:E}(σ:L2.St)(H:Hp)(R:It->Hp->Prop)(h:wI K sf C 1 .seq [e] σ H R):w6 K (wE K sf C e) σ H R\/B9 K (wE K sf C e) σ H R:=by
 obtain ⟨pv,Z,Fs,η,ws,η',ts,A,ev,ht,k⟩:=h
 obtain ⟨⟨m,a⟩,η1,us,e1,e2,rfl⟩:=aB ev
 cases e2
 cases a with
 | lst ts' =>
  cases ht
  refine .inl ⟨pv,Z,Fs,η,_,_,A,e1,fun v Z' H' Fs' G B r s=>?_⟩
  obtain ⟨a,xs,rfl,l,q,p⟩:=Rep.sh r
  obtain ⟨w1,w2⟩:=uN l q.1 q.2 p.sany
  exact ⟨a,rfl,⟨xs,.inl (.inl q.2)⟩,k _ _ H' Fs' B.freeze (bM B.own s) w1 w2⟩
 | tup ts' =>
  cases ht
  refine .inr ⟨pv,Z,Fs,η,_,_,A,e1,fun v Z' H' Fs' G B r s=>?_⟩
  obtain ⟨a,xs,rfl,q,l,p⟩:=Rep.sh r
  obtain ⟨w1,w2⟩:=xP l q p.sany
  exact ⟨a,rfl,⟨xs,q⟩,k _ _ H' Fs' B.freeze (bM B.own s) w1 w2⟩
 | scr ns =>
  cases ht
  refine .inl ⟨pv,Z,Fs,η,_,_,A,e1,fun v Z' H' Fs' G B r s=>?_⟩
  obtain ⟨a,rfl,hl,q⟩:=r
  obtain ⟨w1,w2⟩:=xh (Z:=fun a=>Z' a\/G a) hl q
  exact ⟨a,rfl,⟨_,q.sq⟩,k _ _ H' Fs' B.freeze (bM B.own s) w1 w2⟩
 | _=>cases ht
theorem p62:(2:Int) ^ 62=4611686018427387904:=by decide
theorem uI {e:E}(σ:L2.St)(H:Hp)(R:It->Hp->Prop)(h:wI K sf C 1 .rng [e] σ H R):wV (wL K sf C [e]) σ H R:=by
 obtain ⟨pv,Z,Fs,η,ws,η',ts,A,ev,ht,k⟩:=h
 refine ⟨pv,Z,Fs,η,ws,η',A,ev,fun vs Z' H' Fs' G B r s=>?_⟩
 obtain ⟨⟨m,a⟩,η1,us,e1,e2,rfl⟩:=aB ev
 cases e2
 obtain ⟨x,rfl,r1⟩:=dX rfl r
 cases a with
 | int n =>
  rw [rG] at ht
  split at ht
  ·rename_i hc
   rw [a0p,decide_eq_true_eq] at hc
   cases ht
   refine ⟨n,by rw [show x=_ from r1],by rw [p62]; omega,by rw [p62]; omega,?_⟩
   obtain ⟨w1,w2⟩:=zx (K:=K) (Z:=fun a=>Z' a\/G a) (H:=H') (lo:=0) (n:=n.toNat) (bI hc.2)
   have hz:∀ k:Nat,(0:Int)+(k:Int)=k:=fun k=>by omega
   simp only [hz] at w1 w2
   exact k _ _ H' Fs' B.freeze (bM B.own s) w1 w2
  ·cases ht
 | _=>cases ht
theorem wU {m:Md}{t:T}{v:V}{ts:List T}(e:elems (m,t)=some ts)(r:Rep K Z H m t v G):∃ k a xs,v=.ref a/\xs.length<=LIM/\RepL K (fun a=>Z a\/G a) H .s ts xs no/\∀ H',Stay (fun a=>Z a\/G a) H H'->Sq K H' k a xs:=by
 cases t with
 | lst us =>
  cases e
  obtain ⟨a,xs,rfl,l,q,p⟩:=Rep.sh r
  exact ⟨false,a,xs,rfl,l,p.sany,fun H' s=>fx s q.1 q.2⟩
 | tup us =>
  cases e
  obtain ⟨a,xs,rfl,q,l,p⟩:=Rep.sh r
  exact ⟨true,a,xs,rfl,l,p.sany,fun H' s=>s.sqt q⟩
 | _=>cases e
theorem jG {m n:Md}:∀ {ts us:List T} {i:Nat} {t u:T},ts[i]?=some t->us[i]?=some u->(er m n ts us)[i]?=some [(m,t),(n,u)]
 | t::ts,u::us,0,_,_,h,h'=>by cases h; cases h'; rfl
 | t::ts,u::us,i+1,_,_,h,h'=>jG (ts:=ts) (us:=us) (i:=i) h h'
 | [],_,_,_,_,h,_=>by simp at h
 | _::_,[],_,_,_,_,h'=>by simp at h'
theorem dq {m n:Md}:∀ {ts us:List T},(er m n ts us).length=min ts.length us.length
 | [],_=>by simp [er]
 | _::_,[]=>by simp [er]
 | t::ts,u::us=>by
  show (er m n ts us).length+1=_
  rw [dq]; simp
theorem AF {e e':E}(σ:L2.St)(H:Hp)(R:It->Hp->Prop)(h:wI K sf C 2 .zip [e,e'] σ H R):Bn K (wL K sf C [e,e']) σ H R:=by
 obtain ⟨pv,Z,Fs,η,ws,η',ts,A,ev,ht,k⟩:=h
 refine ⟨pv,Z,Fs,η,ws,η',A,ev,fun vs Z' H' Fs' G B r s=>?_⟩
 obtain ⟨⟨m,a⟩,η1,us,e1,e2,rfl⟩:=aB ev
 obtain ⟨⟨n,b⟩,η2,us,e3,e4,rfl⟩:=aB e2
 cases e4
 obtain ⟨x,y,hx⟩:∃ x y,vs=[x,y]:=gH (x:=()) (y:=()) (show vs.length=[(),()].length from r.length)
 subst hx
 obtain ⟨G1,G2,g1,g2,_,r1,r2⟩:=cM r
 have ht':((elems (m,a)).bind fun ts=>(elems (n,b)).bind fun us=>some (er .s .s ts us))=some ts:=ht
 cases ea:elems (m,a) with
 | none=>rw [ea] at ht'; cases ht'
 | some t1 =>
  cases eb:elems (n,b) with
  | none=>rw [ea,eb] at ht'; cases ht'
  | some t2 =>
   rw [ea,eb] at ht'; cases ht'
   obtain ⟨k1,a1,xs,rfl,L1,p1,q1⟩:=wU ea r1
   obtain ⟨k2,a2,ys,rfl,L2',p2,q2⟩:=wU eb r2
   have z1:∀ c,(Z' c\/G1 c)->(Z' c\/G c):=fun c h=>h.imp id (g1 c)
   have z2:∀ c,(Z' c\/G2 c)->(Z' c\/G c):=fun c h=>h.imp id (g2 c)
   have st1:∀ H0,Stay (fun c=>Z' c\/G c) H' H0->Sq K H0 k1 a1 xs:=fun H0 s=>q1 H0 ⟨fun c o hc=>s.1 c o (z1 c hc),s.2⟩
   have st2:∀ H0,Stay (fun c=>Z' c\/G c) H' H0->Sq K H0 k2 a2 ys:=fun H0 s=>q2 H0 ⟨fun c o hc=>s.1 c o (z2 c hc),s.2⟩
   have l1:=p1.length
   have l2:=p2.length
   refine ⟨k1,k2,a1,a2,rfl,⟨xs,st1 _ (dA _ _)⟩,⟨ys,st2 _ (dA _ _)⟩,k _ _ H' Fs' B.freeze (bM B.own s) ⟨fun H0 i s hi=>?_,fun H0 i s hi=>?_,by rw [dq]; omega⟩ fun H0 i x H1 s hi y=>?_⟩
   ·rw [dq] at hi
    exact ⟨xs,ys,xs[i]'(by omega),ys[i]'(by omega),st1 _ s,st2 _ s,by simp,by simp⟩
   ·rw [dq] at hi
    exact ⟨xs,ys,st1 _ s,st2 _ s,by omega⟩
   ·rw [dq] at hi
    obtain ⟨p,x1,y1,rfl,hp,rfl,hx,hy⟩:=y
    have hi1:i < t1.length:=by omega
    have hi2:i < t2.length:=by omega
    obtain ⟨x',hx',rx⟩:=p1.get (show t1[i]?=some t1[i] by simp)
    obtain ⟨y',hy',ry⟩:=p2.get (show t2[i]?=some t2[i] by simp)
    rw [hx xs (st1 _ s)] at hx'; cases hx'
    rw [hy ys (st2 _ s)] at hy'; cases hy'
    exact ⟨p,x1,y1,(.s,t1[i]),(.s,t2[i]),rfl,Ay hp,.inl (.inl aj),jG (by simp) (by simp),(rx.zmono z1).keep s (fun _ z=>z) fun _ _ z=>z.elim,(ry.zmono z2).keep s (fun _ z=>z) fun _ _ z=>z.elim⟩
end
end MR
namespace MR
open L2 L3 M
open PySem (Addr Str sizeLine)
section
variable {K:a0a}{sl:Cf}{sf sg:Nat->Option Nat}{C:Call}{σ σ2:L2.St}{Z Z' Z1:Fp}{H H' H1:Hp}{Fs Fs' Fs1:Fps}{η η' η1:Env}{G G' R F:Fp}{tg is:List Nat}{pv val:Nat->Option V}
theorem aF:∀ (tg:List Nat) (η:Env) (i:Nat),rd (ak tg η) i=if i∈tg then none else rd η i
 | [],η,i=>by simp [ak]
 | t::tg,η,i=>by
  show rd (ak tg (wr η t none)) i=_
  rw [aF tg,bp]
  by_cases h1:i∈tg
  ·simp [h1]
  ·by_cases h2:i=t
   ·subst h2
    rw [if_neg h1,if_pos a0k]
    split
    ·rfl
    ·rename_i hn
     cases e:rd η i with
     | none=>rfl
     | some w=>exact absurd ⟨rfl,dE e⟩ hn
   ·rw [if_neg h1,if_neg (show ¬ i∈t::tg by simp [h1,h2]),if_neg (show ¬ (i=t/\t < η.length) from fun h=>h2 h.1)]
noncomputable def Nn (η η':Env):Prop:=∀ i,rd η i=none->rd η' i=none
theorem Nn.refl (η:Env):Nn η η:=fun _ h=>h
theorem Nn.trans {a b c:Env}(h:Nn a b)(k:Nn b c):Nn a c:=fun i e=>k i (h i e)
theorem iz (η:Env)(j:Nat):Nn η (del η j):=fun i e=>by
 rw [bp]; split
 ·rfl
 ·exact e
theorem kY {η:Env}{j:Nat}{w:W}(h:rd η j≠none):Nn η (put η j w):=fun i e=>by
 rw [bp]; split
 ·rename_i hc; rw [<- hc.1] at h; exact absurd e h
 ·exact e
theorem eP:∀ {is:List Nat} {ws:List W} {η0 η:Env},(∀ i∈is,rd η0 i≠none)->Nn η0 η->Nn η0 (putAll is ws η)
 | [],_,_,_,_,h=>h
 | _::_,[],_,_,_,h=>h
 | i::is,w::ws,η0,η,hi,h=>by
  show Nn η0 (putAll is ws (put η i w))
  refine eP (fun j hj=>hi j (a0c _ hj)) fun j e=>?_
  rw [bp]; split
  ·rename_i hc; rw [hc.1] at e; exact absurd e (hi i a0k)
  ·exact h j e
theorem eE {f:Env->Res (Option W×Env)}(hf:∀ {η o η'},f η=.ok (o,η')->Nn η η'):∀ {ts:List (List W)} {η η':Env} {acc ws:List W},(∀ i∈tg,rd η i=none)->aJ tg f ts η acc=.ok (ws,η')->Nn η η'
 | [],η,η',acc,ws,_,h=>by cases h; exact Nn.refl _
 | t::ts,η,η',acc,ws,ht,h=>by
  obtain ⟨η1,h1,h2⟩:=aa (show (ofO (aL tg t η)).bind (fun η1=>(f η1).bind fun p=>aJ tg f ts (ak tg p.2) (acc++p.1.toList))=_ from h)
  obtain ⟨⟨o,η2⟩,h3,h4⟩:=aa h2
  have hb:∀ {tg:List Nat} {t:List W} {η η1:Env},aL tg t η=some η1->∀ i,i ∉ tg->rd η1 i=rd η i:=fun {tg}=>by
   induction tg with
   | nil=>intro t η η1 h i hi; cases t with
    | nil=>cases h; rfl
    | cons _ _=>cases h
   | cons j tg ih=>intro t η η1 h i hi; cases t with
    | nil=>cases h
    | cons w t =>
     have:=ih (show aL tg t (put η j w)=some η1 from h) i (fun z=>hi (a0c _ z))
     rw [this,bp,if_neg fun z=>hi (by rw [z.1]; exact a0k)]
  have e1:=hb (bS h1)
  have hd:∀ i,rd η i=none->rd (ak tg η2) i=none:=fun i e=>by
   rw [aF]
   split
   ·rfl
   ·rename_i hi
    exact hf h3 i (by rw [e1 i hi]; exact e)
  exact Nn.trans (b:=ak tg η2) hd (eE hf (fun i hi=>by rw [aF,if_pos hi]) h4)
noncomputable def f9 (sf sg:Nat->Option Nat)(tg:List Nat)(is:List Nat):Prop :=
 ∀ i j,sg i=some j->(∃ k:Nat,tg[k]?=some i/\j=k)\/(i ∉ tg/\∃ (k j0:Nat),j=tg.length+k/\is[k]?=some j0/\sf i=some j0)
theorem At.pin (A:At K ⟨sf,pv⟩ σ Z H Fs η G):∃ val,(∀ i u,pv i=some u->val i=some u)/\At K ⟨sf,val⟩ σ Z H Fs η G/\∀ i m t,rd η i=some (m,t)->val i≠none:=by
 have ch:∀ i,∃ o:Option V,(∀ u,pv i=some u->o=some u)/\(∀ u j,o=some u->sf i=some j->σ[j]?=some (some u))/\∀ m t,rd η i=some (m,t)->∃ v,o=some v/\Rep K Z H m t v (Fs i)/\(∀ j,sf i=some j->σ[j]?=some (some v)):=fun i=>by
  cases e:rd η i with
  | none=>exact ⟨pv i,fun _ h=>h,fun u j h hs=>A.lk i u j h hs,fun _ _ h=>by cases h⟩
  | some w =>
   obtain ⟨m,t⟩:=w
   obtain ⟨v,r,h1,h2⟩:=A.env i m t e
   refine ⟨some v,fun u h=>by rw [h2 u h],fun u j h hs=>?_,fun m' t' h=>by cases h; exact ⟨v,rfl,r,h1⟩⟩
   cases h
   exact h1 j hs
 obtain ⟨val,hval⟩:=Classical.axiomOfChoice ch
 refine ⟨val,fun i u h=>(hval i).1 u h,⟨A.gd,fun i m t e=>?_,A.own,A.dis,fun i u j h hs=>(hval i).2.1 u j h hs,A.ln⟩,fun i m t e=>?_⟩
 ·obtain ⟨v,h1,r,h2⟩:=(hval i).2.2 m t e
  exact ⟨v,r,h2,fun u hu=>by rw [show val i=some u from hu] at h1; cases h1; rfl⟩
 ·obtain ⟨v,h1,r,h2⟩:=(hval i).2.2 m t e
  rw [h1]; simp
theorem At.unpin (h:∀ i u,pv i=some u->val i=some u)(A:At K ⟨sf,val⟩ σ Z H Fs η G):At K ⟨sf,pv⟩ σ Z H Fs η G :=
 ⟨A.gd,fun i m t e=>let ⟨v,r,h1,h2⟩:=A.env i m t e; ⟨v,r,h1,fun u hu=>h2 u (h i u hu)⟩,A.own,A.dis,fun i u j hu hs=>A.lk i u j (h i u hu) hs,A.ln⟩
noncomputable def inV (val:Nat->Option V)(tg:List Nat):Nat->Option V:=fun i=>if i∈tg then none else val i
theorem At.into (I:f9 sf sg tg is)(ht:∀ i∈tg,rd η i=none)(hσ:∀ (k j0:Nat) (v:V),is[k]?=some j0->σ[j0]?=some (some v)->σ2[tg.length+k]?=some (some v))(hl:∀ i j,sg i=some j->j < σ2.length)(A:At K ⟨sf,val⟩ σ Z H Fs η G):At K ⟨sg,inV val tg⟩ σ2 Z H Fs η G:=by
 refine ⟨A.gd,fun i m t e=>?_,A.own,A.dis,fun i u j hu hs=>?_,hl⟩
 ·have hi:i ∉ tg:=fun h=>by rw [ht i h] at e; cases e
  obtain ⟨v,r,h1,h2⟩:=A.env i m t e
  refine ⟨v,r,fun j hj=>?_,fun u hu=>h2 u (by have h3:inV val tg i=some u:=hu; unfold inV at h3; rw [if_neg hi] at h3; exact h3)⟩
  rcases I i j hj with ⟨k,hk,_⟩ | ⟨_,k,j0,rfl,hk,hs⟩
  ·exact absurd (a03 hk) hi
  ·exact hσ k j0 v hk (h1 j0 hs)
 ·have hi:i ∉ tg:=fun h=>by
   have hu':inV val tg i=some u:=hu
   unfold inV at hu'; rw [if_pos h] at hu'; cases hu'
  have hu':val i=some u:=by have h3:inV val tg i=some u:=hu; unfold inV at h3; rw [if_neg hi] at h3; exact h3
  rcases I i j hs with ⟨k,hk,_⟩ | ⟨_,k,j0,rfl,hk,hs⟩
  ·exact absurd (a03 hk) hi
  ·exact hσ k j0 u hk (A.lk i u j0 hu' hs)
theorem At.outof (ht:∀ i∈tg,rd η i=none)(hv:∀ i m t,rd η i=some (m,t)->val i≠none)(lk:∀ i u j,val i=some u->sf i=some j->σ[j]?=some (some u))(ln:∀ i j,sf i=some j->j < σ.length)(A:At K ⟨sg,inV val tg⟩ σ2 Z H Fs η G):At K ⟨sf,val⟩ σ Z H Fs η G:=by
 refine ⟨A.gd,fun i m t e=>?_,A.own,A.dis,lk,ln⟩
 have hi:i ∉ tg:=fun h=>by rw [ht i h] at e; cases e
 obtain ⟨v,r,h1,h2⟩:=A.env i m t e
 cases hu:val i with
 | none=>exact absurd hu (hv i m t e)
 | some u =>
  have:v=u:=h2 u (by show inV val tg i=some u; unfold inV; rw [if_neg hi]; exact hu)
  subst this
  exact ⟨v,r,fun j hj=>lk i v j hu hj,fun u' hu'=>by rw [show val i=some u' from hu'] at hu; cases hu; rfl⟩
end
section
variable {C:Call}
theorem gC:∀ (vs:List Nat) (η:Env),Nn η (M.share vs η)
 | [],η=>fun _ e=>e
 | v::vs,η=>Nn.trans (b:=wr η v (toS (rd η v))) (fun i e=>by
   rw [bp]; split
   ·rename_i hc; rw [<- hc.1,e]; rfl
   ·exact e) (gC vs _)
theorem q0 (m:Md)(vs:List Nat)(η:Env):Nn η (after m vs η):=by
 cases m with
 | d=>exact fun _ e=>e
 | s=>exact gC vs η
 | o _=>exact gC vs η
theorem jy {α:Type}{tab:List (Str×α)}{f:α->Env->RE}{p:W×Env}{r:W×Env}(h:n5 tab f p=.ok r):∃ x a,p.1.2=.str x/\tab.lookup x=some a/\f a p.2=.ok r:=by
 unfold n5 at h
 split at h
 ·rename_i x hx
  split at h
  ·rename_i a ha; exact ⟨x,a,hx,ha,h⟩
  ·cases h
 ·cases h
theorem tV {neg:Bool}{ks:List Str}{p r:W×Env}(h:kIn neg ks p=.ok r):∃ x,p.1.2=.str x/\r.2=p.2/\r.1=(.d,.bl (ks.contains x != neg)):=by
 unfold kIn at h
 split at h
 ·rename_i x hx; cases h; exact ⟨x,hx,rfl,rfl⟩
 ·cases h
theorem qZ {tab:List (Str×T)}{p r:W×Env}(h:sP tab p=.ok r):∃ x,p.1.2=.str x/\r.2=p.2/\r.1=(.s,(tab.lookup x).getD .non):=by
 unfold sP at h
 split at h
 ·rename_i x hx; cases h; exact ⟨x,hx,rfl,rfl⟩
 ·cases h
mutual
theorem ax:∀ (e:E) {η η':Env} {w:W},evE C e η=.ok (w,η')->Nn η η'
 | .var i,η,η',w,h=>by obtain ⟨_,_,e⟩:=aw (show ret η ((rd η i).bind look)=_ from h); cases e; exact Nn.refl _
 | .mv i,η,η',w,h=>by obtain ⟨_,_,e⟩:=aw (show ret (del η i) (rd η i)=_ from h); cases e; exact iz _ _
 | .io i,η,η',w,h=>by obtain ⟨_,_,e⟩:=aw (show ret (del η i) (rd η i)=_ from h); cases e; exact iz _ _
 | .cst t,η,η',w,h=>by cases h; exact Nn.refl _
 | .glb _ t,η,η',w,h=>by cases h; exact Nn.refl _
 | .tup es,η,η',w,h=>by
  obtain ⟨⟨ws,η1⟩,h1,h2⟩:=aa (show (evL C es η).bind kv=_ from h)
  cases h2; exact dJ es h1
 | .lst b es,η,η',w,h=>by
  obtain ⟨⟨ws,η1⟩,h1,h2⟩:=aa (show (evL C es η).bind (rS b)=_ from h)
  cases h2; exact dJ es h1
 | .wk m e,η,η',w,h=>by
  obtain ⟨⟨u,η1⟩,h1,h2⟩:=aa (show (evE C e η).bind (kWk m)=_ from h)
  obtain ⟨_,_,e3⟩:=aw (show ret η1 _=_ from h2)
  cases e3; exact ax e h1
 | .op o b es,η,η',w,h=>by
  obtain ⟨ws,h1,h2⟩:=cy h
  exact dJ es h1
 | .and a b,η,η',w,h=>by
  obtain ⟨⟨u,η1⟩,h1,h2⟩:=aa (show (evE C a η).bind (pf (evE C b))=_ from h)
  obtain ⟨d,h3,h4⟩:=bz (show onT (evE C b) (okW u) (u,η1)=_ from h2)
  cases d with
  | true=>rw [if_pos rfl] at h4; exact (ax a h1).trans (ax b h4)
  | false=>rw [if_neg a0r] at h4; cases h4; exact ax a h1
 | .or a b,η,η',w,h=>by
  obtain ⟨⟨u,η1⟩,h1,h2⟩:=aa (show (evE C a η).bind (kOr (evE C b))=_ from h)
  obtain ⟨d,h3,h4⟩:=bz (show onT (okW u) (evE C b) (u,η1)=_ from h2)
  cases d with
  | false=>rw [if_neg a0r] at h4; exact (ax a h1).trans (ax b h4)
  | true=>rw [if_pos rfl] at h4; cases h4; exact ax a h1
 | .not a,η,η',w,h=>by
  obtain ⟨⟨u,η1⟩,h1,h2⟩:=aa (show (evE C a η).bind nX=_ from h)
  obtain ⟨_,_,e3⟩:=aw (show ret η1 _=_ from h2)
  cases e3; exact ax a h1
 | .ifx c a b,η,η',w,h=>by
  obtain ⟨⟨u,η1⟩,h1,h2⟩:=aa (show (evE C c η).bind (onT (evE C a) (evE C b))=_ from h)
  obtain ⟨d,h3,h4⟩:=bz h2
  cases d with
  | true=>rw [if_pos rfl] at h4; exact (ax c h1).trans (ax a h4)
  | false=>rw [if_neg a0r] at h4; exact (ax c h1).trans (ax b h4)
 | .chain o q a b c,η,η',w,h=>by
  obtain ⟨⟨x,η1⟩,h1,h2⟩:=aa (show (evE C a η).bind (kC1 o q (evE C b) (evE C c))=_ from h)
  obtain ⟨⟨y,η2⟩,h3,h4⟩:=aa (show (evE C b η1).bind (kC2 o q (evE C c) x)=_ from h2)
  obtain ⟨⟨k,η3⟩,h5,h6⟩:=aa (show (ret η2 (oSem o false [x,y])).bind (fun k=>onB k.1.2 (then' (evE C c) (kC3 q y)) (okW (.d,.bl false)) k.2)=_ from h4)
  obtain ⟨k',_,e5⟩:=aw h5
  have e6:η3=η2:=congrArg a2h e5
  have n2:=(ax a h1).trans (ax b h3)
  have h6':onB k.2 (then' (evE C c) (kC3 q y)) (okW (.d,.bl false)) η2=.ok (w,η'):=by rw [<- e6]; exact h6
  generalize k.2=kk at h6'
  cases kk with
  | bl b =>
   cases b with
   | true =>
    obtain ⟨⟨z,η4⟩,h7,h8⟩:=aa (show (evE C c η2).bind (kC3 q y)=_ from h6')
    obtain ⟨z',_,e8⟩:=aw (show ret η4 (oSem q false [y,z])=_ from h8)
    have e9:η'=η4:=congrArg a2h e8
    rw [e9]
    exact n2.trans (ax c h7)
   | false=>cases h6'; exact n2
  | _=>cases h6'
 | .call f es,η,η',w,h=>by
  obtain ⟨⟨ws,η1⟩,h1,h2⟩:=aa (show (evA C es η).bind (gE C f (ios es))=_ from h)
  obtain ⟨⟨u,us⟩,h3,h4⟩:=aa (show (C f ws).bind (jo (ios es) η1)=_ from h2)
  cases h4
  exact eP (gf es h1) (dQ es h1)
 | .comp b k src tg none elt,η,η',w,h=>by
  obtain ⟨⟨ws,η1⟩,h1,h2⟩:=aa (show (evL C src η).bind (eG b k tg (cD (evE C elt)))=_ from h)
  obtain ⟨⟨ts,η2⟩,h3,h4⟩:=aa (show (ret (ak tg η1) (aY k ws)).bind (fun t=>(aJ tg (cD (evE C elt)) t.1 t.2 []).bind (gP b))=_ from h2)
  obtain ⟨_,_,e3⟩:=aw h3
  have e4:η2=ak tg η1:=congrArg a2h e3
  subst e4
  obtain ⟨⟨us,η3⟩,h5,h6⟩:=aa (show (aJ tg (cD (evE C elt)) ts (ak tg η1) []).bind (gP b)=_ from h4)
  obtain ⟨_,_,e6⟩:=aw (show ret η3 _=_ from h6)
  have e7:η'=η3:=congrArg a2h e6
  subst e7
  refine (dJ src h1).trans (Nn.trans (b:=ak tg η1) (fun i e=>by rw [aF]; split<;>first | rfl | exact e) (eE (fun {η o η'} hf=>?_) (fun i hi=>by rw [aF,if_pos hi]) h5))
  obtain ⟨⟨u,η4⟩,h7,h8⟩:=aa (show (evE C elt η).bind dY=_ from hf)
  cases h8
  exact ax elt h7
 | .comp b k src tg (some c) elt,η,η',w,h=>by
  obtain ⟨⟨ws,η1⟩,h1,h2⟩:=aa (show (evL C src η).bind (eG b k tg (fO (evE C c) (evE C elt)))=_ from h)
  obtain ⟨⟨ts,η2⟩,h3,h4⟩:=aa (show (ret (ak tg η1) (aY k ws)).bind (fun t=>(aJ tg (fO (evE C c) (evE C elt)) t.1 t.2 []).bind (gP b))=_ from h2)
  obtain ⟨_,_,e3⟩:=aw h3
  have e4:η2=ak tg η1:=congrArg a2h e3
  subst e4
  obtain ⟨⟨us,η3⟩,h5,h6⟩:=aa (show (aJ tg (fO (evE C c) (evE C elt)) ts (ak tg η1) []).bind (gP b)=_ from h4)
  obtain ⟨_,_,e6⟩:=aw (show ret η3 _=_ from h6)
  have e7:η'=η3:=congrArg a2h e6
  subst e7
  refine (dJ src h1).trans (Nn.trans (b:=ak tg η1) (fun i e=>by rw [aF]; split<;>first | rfl | exact e) (eE (fun {η o η'} hf=>?_) (fun i hi=>by rw [aF,if_pos hi]) h5))
  obtain ⟨⟨u,η4⟩,h7,h8⟩:=aa (show (evE C c η).bind (onT (cD (evE C elt)) (okW none))=_ from hf)
  obtain ⟨d,h9,h10⟩:=bz h8
  cases d with
  | true =>
   rw [if_pos rfl] at h10
   obtain ⟨⟨u2,η5⟩,h11,h12⟩:=aa (show (evE C elt η4).bind dY=_ from h10)
   cases h12
   exact (ax c h7).trans (ax elt h11)
  | false =>
   rw [if_neg a0r] at h10
   cases h10
   exact ax c h7
 | .pop i es,η,η',w,h=>by
  obtain ⟨_,_,h0⟩:=aa (show (eg (rd η i)).bind (pS (evL C es) η (tG i))=_ from h)
  obtain ⟨⟨ws,η1⟩,h1,h2⟩:=aa (show (evL C es η).bind (tG i)=_ from h0)
  obtain ⟨r,h3,h4⟩:=aa (show (ofO ((rd η1 i).bind fun w=>Dr w ws)).bind (fun r=>.ok (r.1,put η1 i r.2))=_ from h2)
  cases h4
  refine (dJ es h1).trans (kY ?_)
  have:=bS h3
  intro e; rw [e] at this; cases this
 | .lenV i,η,η',w,h=>by obtain ⟨_,_,e⟩:=aw (show ret η ((rd η i).bind fun w=>oSem .len false [w])=_ from h); cases e; exact Nn.refl _
 | .ixV i j,η,η',w,h=>by obtain ⟨_,_,e⟩:=aw (show ret η (CU (rd η i) (rd η j))=_ from h); cases e; exact Nn.refl _
 | .compV b i t c e,η,η',w,h=>by
  obtain ⟨ts,h1,h2⟩:=aa (show (ofO (vwT (rd η i))).bind (kV1 b i t (fO (evE C c) (evE C e)) η)=_ from h)
  obtain ⟨⟨u,η1⟩,h3,h4⟩:=aa (show ((aJ [t] (fO (evE C c) (evE C e)) (ts.map fun u=>[(.s,u)]) (ak [t] (del η i)) []).bind (gP b)).bind (kV2 i (rd η i))=_ from h2)
  obtain ⟨⟨us,η2⟩,h5,h6⟩:=aa h3
  obtain ⟨_,_,e6⟩:=aw (show ret η2 _=_ from h6)
  cases e6
  cases h4
  have nc:Nn (ak [t] (del η i)) η1:=by
   refine eE (fun {η o η'} hf=>?_) (fun j hj=>by rw [aF,if_pos hj]) h5
   obtain ⟨⟨u,η4⟩,h7,h8⟩:=aa (show (evE C c η).bind (onT (cD (evE C e)) (okW none))=_ from hf)
   obtain ⟨d,h9,h10⟩:=bz h8
   cases d with
   | true =>
    rw [if_pos rfl] at h10
    obtain ⟨⟨u2,η5⟩,h11,h12⟩:=aa (show (evE C e η4).bind dY=_ from h10)
    cases h12
    exact (ax c h7).trans (ax e h11)
   | false =>
    rw [if_neg a0r] at h10
    cases h10
    exact ax c h7
  intro j e
  rw [bp]
  split
  ·rename_i hc
   rw [<- hc.1]; exact e
  ·refine nc j ?_
   rw [aF]
   split
   ·rfl
   ·exact iz η i j e
 | .popN i e,η,η',w,h=>by
  obtain ⟨_,_,h0⟩:=aa (show (eg (rd η i)).bind (q9 (evE C e) η (oC i))=_ from h)
  obtain ⟨⟨u,η1⟩,h1,h2⟩:=aa (show (evE C e η).bind (oC i)=_ from h0)
  obtain ⟨r,h3,h4⟩:=aa (show (ofO ((rd η1 i).bind fun w=>v7 w u)).bind (fun r=>.ok (r.1,put η1 i r.2))=_ from h2)
  cases h4
  refine (ax e h1).trans (kY ?_)
  have:=bS h3
  intro e; rw [e] at this; cases this
 | .tupA es,η,η',w,h=>by
  obtain ⟨⟨ws,η1⟩,h1,h2⟩:=aa (show (evA C es η).bind kv=_ from h)
  cases h2; exact dQ es h1
 | .qx vs ls e,η,η',w,h=>by
  obtain ⟨⟨u,η1⟩,h1,h2⟩:=aa (show (evE C e (dG vs ls η)).bind (kX vs η)=_ from h)
  cases h2
  exact q0 _ vs η
 | .mvP i p,η,η',w,h=>by
  obtain ⟨r,h1,h2⟩:=aa (show (ofO ((rd η i).bind (wD p))).bind (B8 i η)=_ from h)
  cases h2
  refine kY fun e=>?_
  have:=bS h1
  rw [e] at this; cases this
 | .callT tab k es,η,η',w,h=>by
  obtain ⟨⟨u,η1⟩,h1,h2⟩:=aa (show (evE C k η).bind (n5 tab (kCT C (evA C es) (ios es)))=_ from h)
  obtain ⟨x,j,_,_,h3⟩:=jy h2
  obtain ⟨⟨ws,η2⟩,h4,h5⟩:=aa (show (evA C es η1).bind (gE C j (ios es))=_ from h3)
  obtain ⟨⟨r,bs⟩,h6,h7⟩:=aa (show (C j ws).bind (jo (ios es) η2)=_ from h5)
  cases h7
  exact (ax k h1).trans (eP (gf es h4) (dQ es h4))
 | .inT neg ks e,η,η',w,h=>by
  obtain ⟨⟨u,η1⟩,h1,h2⟩:=aa (show (evE C e η).bind (kIn neg ks)=_ from h)
  obtain ⟨x,_,e2,_⟩:=tV h2
  cases e2; exact ax e h1
 | .ixT tab e,η,η',w,h=>by
  obtain ⟨⟨u,η1⟩,h1,h2⟩:=aa (show (evE C e η).bind (n5 tab okS)=_ from h)
  obtain ⟨x,j,_,_,h3⟩:=jy h2
  cases h3; exact ax e h1
 | .getT tab e,η,η',w,h=>by
  obtain ⟨⟨u,η1⟩,h1,h2⟩:=aa (show (evE C e η).bind (sP tab)=_ from h)
  obtain ⟨x,_,e2,_⟩:=qZ h2
  cases e2; exact ax e h1
theorem dJ:∀ (es:List E) {η η':Env} {ws:List W},evL C es η=.ok (ws,η')->Nn η η'
 | [],η,η',ws,h=>by cases h; exact Nn.refl _
 | e::es,η,η',ws,h=>by
  obtain ⟨w,η1,us,h1,h2,_⟩:=aB h
  exact (ax e h1).trans (dJ es h2)
theorem dQ:∀ (es:List E) {η η':Env} {ws:List W},evA C es η=.ok (ws,η')->Nn η η'
 | [],η,η',ws,h=>by cases h; exact Nn.refl _
 | e::es,η,η',ws,h=>by
  rcases uO e with ⟨i,hi⟩ | he
  ·subst hi
   obtain ⟨us,η1,w,h1,_,_,h4⟩:=eJ h
   rw [h4]
   exact (dQ es h1).trans (iz _ _)
  ·obtain ⟨w,η1,us,h1,h2,_⟩:=cJ he h
   exact (ax e h1).trans (dQ es h2)
theorem gf:∀ (es:List E) {η η':Env} {ws:List W},evA C es η=.ok (ws,η')->∀ i∈ios es,rd η i≠none
 | [],_,_,_,_,i,hi=>by simp [ios] at hi
 | e::es,η,η',ws,h,i,hi=>by
  rcases uO e with ⟨j,hj⟩ | he
  ·subst hj
   obtain ⟨us,η1,w,h1,h2,_,_⟩:=eJ h
   rcases a0n.mp (show i∈j::ios es from hi) with z | z
   ·subst z
    exact fun z=>by rw [dQ es h1 i z] at h2; cases h2
   ·exact gf es h1 i z
  ·obtain ⟨w,η1,us,h1,h2,_⟩:=cJ he h
   have hi':i∈ios es:=by
    cases e with
    | io j=>exact absurd rfl (he j)
    | _=>exact hi
   exact fun z=>gf es h2 i hi' (ax e h1 i z)
end
end
section
variable {K:a0a}{sl:Cf}{sf sg:Nat->Option Nat}{C:Call}{σ σ2:L2.St}{Z Z' Z1:Fp}{H H' H1:Hp}{Fs Fs' Fs1:Fps}{η η' η1 ηb:Env}{G G' R F:Fp}{tg is:List Nat}{pv val:Nat->Option V}
noncomputable def gT (K:a0a):Nat->TG
 | 1=>dj 0
 | 2=>yq K 2 (ke (dj 0) (ke (dj 1) yE))
 | _=>fun _ _ _ _=>False
theorem At.put1 {i:Nat}{w:W}{x:V}(A:At K sl σ Z H Fs η G)(r:Rep K Z H w.1 w.2 x (Fs i))(hl:∀ j,sl.sl i=some j->σ[j]?=some (some x))(hp:sl.pv i=none):At K sl σ Z H Fs (put η i w) G:=by
 refine ⟨A.gd,fun j m t e=>?_,A.own,A.dis,A.lk,A.ln⟩
 rw [bp] at e
 split at e
 ·rename_i hc
  cases e
  obtain ⟨rfl,_⟩:=hc
  exact ⟨x,r,hl,fun u hu=>by rw [hp] at hu; cases hu⟩
 ·exact A.env j m t e
theorem jH {k j0:Nat}{v:V}(h1:is[k]?=some j0)(h2:σ[j0]?=some (some v)):(bP σ is)[k]?=some (some v):=by
 unfold bP
 rw [a0t,h1]
 show some ((σ[j0]?).join)=_
 rw [h2]
 rfl
theorem hV (I:f9 sf sg tg is)(h:σ2.length=tg.length+is.length):∀ i j,sg i=some j->j < σ2.length:=fun i j hj=>by
 rcases I i j hj with ⟨k,hk,rfl⟩ | ⟨_,k,j0,rfl,hk,_⟩
 ·have:=(a0s.mp hk).1
  omega
 ·have:=(a0s.mp hk).1
  omega
theorem mY {n i:Nat}{J:It}{ts:List (List W)}{ws:List W}{x:V}{Q:L2.St->Hp->Prop}(hn:tg.length=n)(nd:tg.Nodup)(I:f9 sf sg tg is)(hz:∀ a,Z1 a->Z a)(st:Stay Z1 H1 H)(yl:Yld K J Z1 H1 ts n)(A:At K ⟨sf,val⟩ σ Z H Fs η G)
  (ht:∀ i∈tg,rd η i=none) (hw:ts[i]?=some ws) (hb:aL tg ws η=some ηb) (y:J.yld i H x H')
  (k:∀ σ2 H2,At K ⟨sg,inV val tg⟩ σ2 Z H2 Fs ηb G->Step Z H no Z H2 no->(σ2.length=n+(bP σ is).length/\σ2.drop n=bP σ is)->Q σ2 H2):gT K n x (a0h n none++bP σ is) H' Q:=by
 have hi:i < ts.length:=(a0s.mp hw).1
 have own0:∀ {t:Nat},t∈tg->inV val tg t=none:=fun {t} h=>if_pos h
 match n,yl with
 | 1,yl =>
  obtain ⟨e0,w,hw',r⟩:=yl H i x H' st hi y
  rw [e0]
  rw [hw] at hw'; cases hw'
  match tg,hn with
  | [t],_ =>
   cases hb
   have r':Rep K Z H w.1 w.2 x (Fs t):=(r.zmono hz).mono fun _ z=>z.elim
   refine k _ H ?_ (Step.refl _ _ _) ⟨by simp [a21],rfl⟩
   refine (A.into (σ2:=some x::bP σ is) I ht (fun k j0 v h1 h2=>?_) (hV I (by simp [bP,a21]))).put1 r' (fun j hj=>?_) (own0 (by simp))
   ·rw [a0H,a21,a0G]; exact jH h1 h2
   ·rcases I t j hj with ⟨k,hk,rfl⟩ | ⟨h,_⟩
    ·cases j with
     | zero=>rfl
     | succ _=>simp at hk
    ·exact absurd (a0C.mpr rfl) h
 | 2,yl =>
  obtain ⟨p,y1,z1,u,w,rfl,sm,hq,hw',r1,r2⟩:=yl H i x H' st hi y
  rw [hw] at hw'; cases hw'
  match tg,hn with
  | [t,t'],_ =>
   cases hb
   have hne:t≠t':=fun z=>by simp [z] at nd
   have s1:Step Z H G Z H' G:=gh sm
   have o1:Own Z H' G:=fun a ha=>by
    obtain ⟨nz,ys,e⟩:=A.own a ha
    exact ⟨nz,ys,sm _ _ e⟩
   obtain ⟨A1,_⟩:=A.op o1 s1
   have sn:Stay Z H H':=jv sm
   have r1':Rep K Z H' u.1 u.2 y1 (Fs t):=((r1.zmono hz).keep sn (fun _ z=>z) fun _ _ z=>z.elim).mono fun _ z=>z.elim
   have r2':Rep K Z H' w.1 w.2 z1 (Fs t'):=((r2.zmono hz).keep sn (fun _ z=>z) fun _ _ z=>z.elim).mono fun _ z=>z.elim
   have s0:Step Z H no Z H' no:=gh sm
   refine ⟨p,[y1,z1],rfl,hq,rfl,y1,[z1],rfl,z1,[],rfl,rfl,k (some y1::some z1::bP σ is) _ ?_ s0 ⟨by simp; omega,rfl⟩⟩
   refine ((A1.into (σ2:=some y1::some z1::bP σ is) I ht (fun k j0 v h1 h2=>?_) (hV I (by simp [bP]; omega))).put1 r1' (fun j hj=>?_) (own0 (by simp))).put1 r2' (fun j hj=>?_) (own0 (by simp))
   ·rw [show [t,t'].length+k=k+1+1 by simp; omega,a0G,a0G]; exact jH h1 h2
   ·rcases I t j hj with ⟨k,hk,rfl⟩ | ⟨h,_⟩
    ·match j,hk with
     | 0,_=>rfl
     | 1,hk=>exact absurd (a0w hk).symm hne
    ·exact absurd (by simp) h
   ·rcases I t' j hj with ⟨k,hk,rfl⟩ | ⟨h,_⟩
    ·match j,hk with
     | 0,hk=>exact absurd (a0w hk) hne
     | 1,_=>rfl
    ·exact absurd (by simp) h
noncomputable def eX (Fs:Fps)(tg:List Nat):Fps:=fun j a=>j ∉ tg/\Fs j a
theorem cH {a:Addr}(h:tot (eX Fs tg) a):tot Fs a:=let ⟨j,_,h2⟩:=h; ⟨j,h2⟩
theorem At.dels (A:At K sl σ Z H Fs η G):At K sl σ Z H (eX Fs tg) (ak tg η) G:=by
 refine ⟨⟨fun a h=>A.gd.own a (cH h),fun i j a h1 h2=>A.gd.dis i j a h1.2 h2.2,A.gd.zal⟩,fun i m t e=>?_,A.own,fun a h q=>A.dis a h (cH q),A.lk,A.ln⟩
 rw [aF] at e
 split at e
 ·cases e
 ·rename_i hi
  obtain ⟨v,r,h⟩:=A.env i m t e
  exact ⟨v,r.mono fun a ha=>⟨hi,ha⟩,h⟩
theorem fR:∀ {tg:List Nat} {t:List W} {η η1:Env},aL tg t η=some η1->∀ i,i ∉ tg->rd η1 i=rd η i
 | [],[],η,η1,h,i,_=>by cases h; rfl
 | [],_::_,_,_,h,_,_=>by cases h
 | _::_,[],_,_,h,_,_=>by cases h
 | j::tg,w::t,η,η1,h,i,hi=>by
  rw [fR (show aL tg t (put η j w)=some η1 from h) i fun z=>hi (a0c _ z),bp,if_neg fun z=>hi (by rw [z.1]; exact a0k)]
structure CSt (K:a0a)(sf:Nat->Option Nat)(val:Nat->Option V)(σ:L2.St)(tg:List Nat)(f:Env->Res (Option W×Env))(ts:List (List W))(η0:Env)(us:List W)(η3:Env)(Z1:Fp)(H1:Hp)(F1:Fp)(i:Nat)(ys:List V)(H:Hp):Prop where
 ex:∃ (Z:Fp) (Fs:Fps) (η:Env) (acc:List W) (G:Fp),At K ⟨sf,val⟩ σ Z H Fs η G/\RepW K Z H acc ys G/\aJ tg f (ts.drop i) η acc=.ok (us,η3)/\(∀ j∈tg,rd η j=none)/\(∀ j∈tg,∀ a,¬ Fs j a)/\Nn η0 η/\Step Z1 H1 F1 Z H (fun a=>tot Fs a\/G a)
 len:ys.length<=i
theorem pW {h:Bool}{us:List W}{ys:List V}{w:W}{Q:VK}(o:Own Z H G)(za:∀ a,Z a->H a≠none)(r:RepW K Z H us ys G)(hl:ys.length<=LIM)(hn:(if h then (if us.all okD then some ((.d,.lst (aP us)):W) else none) else some (.o .s,.lst (aP us)))=some w)(k:Out K Z H G w Q):∀ p,H p=none->Q (.ref p) (upd H p (.lst ys)):=by
 intro p hp
 cases h with
 | true =>
  rw [if_pos rfl] at hn
  split at hn
  ·rename_i ha
   cases hn
   rw [a0I] at ha
   obtain ⟨G',g1,g2⟩:=RepW.to (N:=.d) (fun u hu=>by
    have:=ha u hu
    unfold okD at this
    rw [a3K] at this
    unfold M.lf
    split
    ·rfl
    ·rename_i hnl
     rcases this with z | z
     ·rw [eq_of_beq z]; rfl
     ·exact absurd z hnl) r
   exact bJ (m:=.d) o za g1 hl g2 (by simp) k hp
  ·cases hn
 | false =>
  rw [if_neg a0r] at hn
  cases hn
  obtain ⟨G',g1,g2⟩:=RepW.to (N:=.s) (fun u hu=>by cases M.lf u.1 u.2<;>rfl) r
  exact bJ (m:=.o .s) o za g1 hl g2 (by simp) k hp
end
end MR
namespace MR
open L2 L3 M
open PySem (Addr Str sizeLine)
section
variable {K:a0a}{sf sg:Nat->Option Nat}{C:Call}{tg is:List Nat}
theorem eO {α:Type}{l:List α}{i:Nat}{a:α}(h:l[i]?=some a):l.drop i=a::l.drop (i+1):=by
 obtain ⟨h1,h2⟩:=a0s.mp h
 rw [a1v h1,h2]
theorem jR {h:Bool}{k:Ik}{f:Env->Res (Option W×Env)}{p:List W×Env}{w:W}{η':Env}(e:eG h k tg f p=.ok (w,η')):∃ ts us,aY k p.1=some ts/\aJ tg f ts (ak tg p.2) []=.ok (us,η')/\(if h then (if us.all okD then some ((.d,.lst (aP us)):W) else none) else some (.o .s,.lst (aP us)))=some w:=by
 obtain ⟨⟨ts,η2⟩,h3,h4⟩:=aa (show (ret (ak tg p.2) (aY k p.1)).bind (fun t=>(aJ tg f t.1 t.2 []).bind (gP h))=_ from e)
 obtain ⟨ts',ht,e3⟩:=aw h3
 have e4:ts=ts':=congrArg a3V e3
 have e5:η2=ak tg p.2:=congrArg a2h e3
 subst e4 e5
 obtain ⟨⟨us,η3⟩,h5,h6⟩:=aa (show (aJ tg f ts (ak tg p.2) []).bind (gP h)=_ from h4)
 obtain ⟨w',hw,e6⟩:=aw (show ret η3 (if h then (if us.all okD then some ((.d,.lst (aP us)):W) else none) else some (.o .s,.lst (aP us)))=_ from h6)
 have e7:w=w':=congrArg a3V e6
 have e8:η'=η3:=congrArg a2h e6
 subst e7 e8
 exact ⟨ts,us,ht,h5,hw⟩
theorem k8 {f:Env->Res (Option W×Env)}{t:List W}{ts:List (List W)}{η η3:Env}{acc us:List W}(e:aJ tg f (t::ts) η acc=.ok (us,η3)):∃ ηb o ηc,aL tg t η=some ηb/\f ηb=.ok (o,ηc)/\aJ tg f ts (ak tg ηc) (acc++o.toList)=.ok (us,η3):=by
 obtain ⟨η1,h1,h2⟩:=aa (show (ofO (aL tg t η)).bind (fun η1=>(f η1).bind fun p=>aJ tg f ts (ak tg p.2) (acc++p.1.toList))=_ from e)
 obtain ⟨⟨o,η2⟩,h3,h4⟩:=aa h2
 exact ⟨η1,o,η2,bS h1,h3,h4⟩
theorem gY {n:Nat}{h:Bool}{k:Ik}{src:List E}{f:Env->Res (Option W×Env)}{te:L2.St->Hp->(Option V->Hp->Prop)->Prop}(hn:tg.length=n)(nd:tg.Nodup)(I:f9 sf sg tg is)
  (hf:∀ {η o η'},f η=.ok (o,η')->Nn η η')
  (hte:∀ {val:Nat->Option V} {σ2:L2.St} {Z:Fp} {H:Hp} {Fs:Fps} {η ηc:Env} {R:Fp} {o:Option W} {Q:Option V->Hp->Prop},At K ⟨sg,val⟩ σ2 Z H Fs η R->f η=.ok (o,ηc) ->
   (∀ oy Z' H' Fs' G,At K ⟨sg,val⟩ σ2 Z' H' Fs' ηc (fun c=>R c\/G c)->(match o,oy with | some w,some y=>Rep K Z' H' w.1 w.2 y G | none,none=>True | _,_=>False)->(∀ c,R c->¬ G c)->Step Z H (tot Fs) Z' H' (fun a=>tot Fs' a\/G a)->Q oy H')->te σ2 H Q)
  {e:E} (he:∀ η,evE C e η=(evL C src η).bind (eG h k tg f)) (σ:L2.St) (H:Hp) (Q:VK) (hw:wE K sf C e σ H Q) :
  wI K sf C n k src σ H fun J H1=>∃ W:Nat->Nat->List V->Hp->Prop,(∃ m,W 0 m [] H1)/\∀ i m ys H,W i m ys H ->
   (J.stop i H/\ys.length<=sizeLine/\∀ p,H p=none->Q (.ref p) (upd H p (.lst ys))) \/
   (J.go i H/\ys.length < sizeLine/\∀ x H',J.yld i H x H'->gT K n x (a0h n none++bP σ is) H' fun σ2 H2=>(σ2.length=n+(bP σ is).length/\σ2.drop n=bP σ is)/\te σ2 H2 fun oy H3=>∃ m',m' < m/\W (i+1) m' (ys++oy.toList) H3):=by
 obtain ⟨pv,Z,Fs,η,w,η',A,ev,kk⟩:=hw
 rw [he] at ev
 obtain ⟨⟨ws,η1⟩,h1,h2⟩:=aa ev
 obtain ⟨ts,us,ht,h3,h4⟩:=jR h2
 refine ⟨pv,Z,Fs,η,ws,η1,ts,A,h1,ht,fun J Z1 H1 Fs1 A1 s1 wk yl=>?_⟩
 obtain ⟨val,v1,A2,v2⟩:=(A1.dels (tg:=tg)).pin
 have s1':Step Z H (tot Fs) Z1 H1 (tot (eX Fs1 tg)):=s1.mono (fun _ z=>z) fun _ z=>cH z
 refine ⟨fun i m ys H=>m=ts.length-i/\i<=ts.length/\CSt K sf val σ tg f ts (ak tg η1) us η' Z1 H1 (tot (eX Fs1 tg)) i ys H,⟨ts.length,by simp,a0O _,⟨⟨Z1,eX Fs1 tg,ak tg η1,[],no,A2,rfl,h3,fun j hj=>by rw [aF,if_pos hj],fun j hj a ha=>ha.1 hj,Nn.refl _,(Step.refl _ _ _).mono (fun _ z=>z) fun a ha=>ha.elim id fun z=>z.elim⟩,a0d _⟩⟩,?_⟩
 rintro i m ys H0 ⟨rfl,hi,⟨⟨Zi,Fsi,ηi,acc,Ga,Ai,ra,hc,htg,hfp,hnn,si⟩,hlen⟩⟩
 have st:Stay Z1 H1 H0:=A2.gd.own.stay si
 have hL:=wk.len
 by_cases hlt:i < ts.length
 ·right
  refine ⟨wk.go H0 i st hlt,a1j (a0o hlen hi) (lr hL),fun x H2 y=>?_⟩
  have hw:ts[i]?=some ts[i]:=by simp [hlt]
  rw [eO hw] at hc
  obtain ⟨ηb,o,ηc,hb,hfe,hc2⟩:=k8 hc
  refine mY hn nd I si.zm st yl Ai htg hw hb y fun σ2 H3 A3 s3 hσ=>⟨hσ,?_⟩
  refine hte A3 hfe fun oy Z4 H4 Fs4 G4 A4 r4 d4 s4=>⟨ts.length-(i+1),by omega,rfl,hlt,⟨?_,?_⟩⟩
  ·have ra3:RepW K Zi H3 acc ys Ga:=ra.frame cB s3 fun _ _ z=>z
   have ra4:RepW K Z4 H4 acc ys Ga:=ra3.frame A3.gd.own s4 A3.dis
   have vv:∀ j m t,rd (ak tg ηc) j=some (m,t)->val j≠none:=fun j m t e=>by
    rw [aF] at e
    split at e
    ·cases e
    ·rename_i hj
     have n1:rd ηb j≠none:=fun z=>by rw [hf hfe j z] at e; cases e
     rw [fR hb j hj] at n1
     have n2:rd (ak tg η1) j≠none:=fun z=>n1 (hnn j z)
     cases e2:rd (ak tg η1) j with
     | none=>exact absurd e2 n2
     | some u=>exact v2 j u.1 u.2 e2
   have A5:=(A4.dels (tg:=tg)).outof (sf:=sf) (σ:=σ) (val:=val) (fun j hj=>by rw [aF,if_pos hj]) vv Ai.lk Ai.ln
   have s5:Step Z1 H1 (tot (eX Fs1 tg)) Z4 H4 (fun a=>tot (eX Fs4 tg) a\/(Ga a\/G4 a)):=by
    refine (si.trans (((s3.frame (fun a=>tot Fsi a\/Ga a)).mono (fun a ha=>ha.elim (fun z=>z.elim) id) fun a ha=>.inr ha).trans (s4.frame Ga))).mono (fun _ z=>z) fun a ha=>?_
    rcases ha with z | z | z
    ·exact .inl (.inl (cH z))
    ·exact .inr z
    ·exact .inl (.inr z)
   refine ⟨Z4,eX Fs4 tg,ak tg ηc,acc++o.toList,fun c=>Ga c\/G4 c,A5,?_,hc2,fun j hj=>by rw [aF,if_pos hj],fun j hj a ha=>ha.1 hj,fun j e=>?_,s5⟩
   ·cases o with
    | none =>
     cases oy with
     | none=>rw [a2w,a2w,a0z,a0z]; exact ra4.mono fun _ z=>.inl z
     | some _=>exact r4.elim
    | some w4 =>
     cases oy with
     | none=>exact r4.elim
     | some y4=>exact RepW.append (fun _ z=>.inl z) (fun _ z=>.inr z) d4 ra4 (RepW.one r4)
   ·have e':=hnn j e
    rw [aF]
    split
    ·rfl
    ·rename_i hj
     exact hf hfe j (by rw [fR hb j hj]; exact e')
  ·have:ys.length<=i:=hlen
   cases oy<;>simp<;>omega
 ·left
  have hi':i=ts.length:=by omega
  subst hi'
  rw [a2S] at hc
  cases hc
  refine ⟨wk.stop H0 _ st (a0d _),bD (a0o hlen hL),pW Ai.own Ai.gd.zal ra (a0o hlen hL) h4 (bO (Ai.unpin v1) (s1'.trans si) kk)⟩
theorem fZ {n:Nat}{h:Bool}{k:Ik}{src:List E}{elt:E}(hn:tg.length=n)(nd:tg.Nodup)(I:f9 sf sg tg is)(σ:L2.St)(H:Hp)(Q:VK)(hw:wE K sf C (.comp h k src tg none elt) σ H Q):iC n (wI K sf C n k src) is (gT K n) (wE K sg C elt) σ H Q:=by
 refine gY (te:=fun σ2 H Q=>wE K sg C elt σ2 H fun y H'=>Q (some y) H') hn nd I (fun {η o η'} hf=>?_) (fun {val σ2 Z H Fs η ηc R o Q} A hf k=>?_) (fun η=>rfl) σ H Q hw
 ·obtain ⟨⟨u,η4⟩,h7,h8⟩:=aa (show (evE C elt η).bind dY=_ from hf)
  cases h8
  exact ax elt h7
 ·obtain ⟨⟨u,η4⟩,h7,h8⟩:=aa (show (evE C elt η).bind dY=_ from hf)
  cases h8
  exact gK A h7 fun v Z' H' Fs' G B r d s _=>k (some v) Z' H' Fs' G B r d s
theorem pJ {n:Nat}{h:Bool}{k:Ik}{src:List E}{elt cnd:E}(hn:tg.length=n)(nd:tg.Nodup)(I:f9 sf sg tg is)(σ:L2.St)(H:Hp)(Q:VK)(hw:wE K sf C (.comp h k src tg (some cnd) elt) σ H Q):eW n (wI K sf C n k src) is (gT K n) (wT K sg C cnd) (wE K sg C elt) σ H Q:=by
 have main:=gY (te:=fun σ2 H Q=>wT K sg C cnd σ2 H fun ok H2=>if ok=true then wE K sg C elt σ2 H2 fun y H'=>Q (some y) H' else Q none H2) hn nd I (f:=fO (evE C cnd) (evE C elt)) (fun {η o η'} hf=>by
  obtain ⟨⟨u,η4⟩,h7,h8⟩:=aa (show (evE C cnd η).bind (onT (cD (evE C elt)) (okW none))=_ from hf)
  obtain ⟨d,h9,h10⟩:=bz h8
  cases d with
  | true =>
   rw [if_pos rfl] at h10
   obtain ⟨⟨u2,η5⟩,h11,h12⟩:=aa (show (evE C elt η4).bind dY=_ from h10)
   cases h12
   exact (ax cnd h7).trans (ax elt h11)
  | false =>
   rw [if_neg a0r] at h10
   cases h10
   exact ax cnd h7) (fun {val σ2 Z H Fs η ηc R o Q} A hf k=>by
  obtain ⟨⟨u,η4⟩,h7,h8⟩:=aa (show (evE C cnd η).bind (onT (cD (evE C elt)) (okW none))=_ from hf)
  obtain ⟨d,h9,h10⟩:=bz h8
  refine lb A.bare h7 h9 fun Z1 H1 Fs1 A1 s1=>?_
  have A1':=A.frame (A1.mono (G':=no) fun _ z=>z) (s1.mono (fun _ z=>z) fun a ha=>ha.elim id fun z=>z.elim)
  have A2:=A1'.1.mono (G':=R) fun _ z=>.inl z
  cases d with
  | true =>
   rw [if_pos rfl] at h10 ⊢
   obtain ⟨⟨u2,η5⟩,h11,h12⟩:=aa (show (evE C elt η4).bind dY=_ from h10)
   cases h12
   exact gK A2 h11 fun v Z' H' Fs' G B r d s _=>k (some v) Z' H' Fs' G B r d (s1.trans s)
  | false =>
   rw [if_neg a0r] at h10 ⊢
   cases h10
   exact k none Z1 H1 Fs1 no (A2.mono fun _ z=>z.elim id fun q=>q.elim) trivial (fun _ _ z=>z) (s1.mono (fun _ z=>z) fun a ha=>ha.elim id fun z=>z.elim)) (fun η=>rfl) σ H Q hw
 refine (?_:∀ {a b:It->Hp->Prop},(∀ J H1,a J H1->b J H1)->wI K sf C n k src σ H a->wI K sf C n k src σ H b) ?_ main
 ·rintro a b hab ⟨pv,Z,Fs,η,ws,η',ts,A,ev,ht,kk⟩
  exact ⟨pv,Z,Fs,η,ws,η',ts,A,ev,ht,fun J Z' H' Fs' A' s' w' y'=>hab J H' (kk J Z' H' Fs' A' s' w' y')⟩
 ·rintro J H1 ⟨W,w0,turn⟩
  refine ⟨W,w0,fun i m ys H w=>?_⟩
  rcases turn i m ys H w with c | ⟨go,hz,step⟩
  ·exact .inl c
  ·refine .inr ⟨go,hz,fun x H' y=>?_⟩
   have st:=step x H' y
   simp only [Option.toList_some,a2w,a0z] at st
   exact st
end
end MR
namespace MR
open L2 L3 M
open PySem (Addr Str sizeLine)
section
variable {K:a0a}{sl:Cf}{sf sg:Nat->Option Nat}{C:Call}{σ σ2:L2.St}{Z Z' Z1:Fp}{H H' H1:Hp}{Fs Fs' Fs1:Fps}{η η' η1 ηb:Env}{G G' G1 R F:Fp}{tg is:List Nat}{pv val:Nat->Option V}
noncomputable def lh (Fs:Fps)(i:Nat)(G:Fp):Fps:=fun j a=>(j=i/\G a)\/(j≠i/\Fs j a)
theorem br {i:Nat}{a:Addr}(h:tot (lh Fs i G) a):tot Fs a\/G a:=by
 obtain ⟨j,h | h⟩:=h
 ·exact .inr h.2
 ·exact .inl ⟨j,h.2⟩
theorem At.put {i:Nat}{w:W}{x:V}(A:At K sl σ Z H Fs η G)(r:Rep K Z H w.1 w.2 x G1)(h1:∀ a,G1 a->G a)(h2:∀ a,R a->G a)(hd:∀ a,R a->¬ G1 a)(hl:∀ j,sl.sl i=some j->σ[j]?=some (some x))(hp:∀ u,sl.pv i=some u->x=u) :
  At K sl σ Z H (lh Fs i G1) (M.put η i w) R:=by
 refine ⟨⟨fun a h=>(br h).elim (A.gd.own a) fun q=>A.own a (h1 a q),fun j k a hj hk=>?_,A.gd.zal⟩,fun j m t e=>?_,fun a h=>A.own a (h2 a h),fun a h q=>(br q).elim (A.dis a (h2 a h)) (hd a h),A.lk,A.ln⟩
 ·rcases hj with ⟨rfl,hj⟩ | ⟨nj,hj⟩
  ·rcases hk with ⟨rfl,_⟩ | ⟨nk,hk⟩
   ·rfl
   ·exact absurd ⟨k,hk⟩ (A.dis a (h1 a hj))
  ·rcases hk with ⟨rfl,hk⟩ | ⟨nk,hk⟩
   ·exact absurd ⟨j,hj⟩ (A.dis a (h1 a hk))
   ·exact A.gd.dis j k a hj hk
 ·rw [bp] at e
  split at e
  ·rename_i hc
   cases e
   obtain ⟨rfl,_⟩:=hc
   exact ⟨x,r.mono fun a h=>.inl ⟨rfl,h⟩,hl,hp⟩
  ·rename_i hc
   obtain ⟨v,r',h'⟩:=A.env j m t e
   by_cases hj:j=i
   ·subst hj
    exact absurd ⟨rfl,dE e⟩ hc
   ·exact ⟨v,r'.mono fun a h=>.inr ⟨hj,h⟩,h'⟩
noncomputable def wA (K:a0a)(sl:Nat->Option Nat)(C:Call)(es:List E):TA:=fun σ H Q=>∃ pv Z Fs η ws η',At K ⟨sl,pv⟩ σ Z H Fs η no/\evA C es η=.ok (ws,η') /\
 ∀ vs Z' H' Fs' G,At K ⟨sl,pv⟩ σ Z' H' Fs' η' G->RepW K Z' H' ws vs G->Step Z H (tot Fs) Z' H' (fun a=>tot Fs' a\/G a)->(∀ (k i:Nat) (u:V),es[k]?=some (.io i)->pv i=some u->vs[k]?=some u)->Q vs H'
theorem AN (σ:L2.St)(H:Hp)(Q:List V->Hp->Prop)(h:wA K sf C [] σ H Q):yy σ H Q:=by
 obtain ⟨pv,Z,Fs,η,ws,η',A,ev,k⟩:=h
 cases ev
 exact k [] Z H Fs no A rfl ((Step.refl _ _ _).mono (fun _ z=>z) fun a ha=>ha.elim id fun z=>z.elim) fun k i u h _=>by simp at h
theorem EA {es:List E}{ws:List W}{Q:List V->Hp->Prop}(A:At K sl σ Z H Fs η R)(ev:evA C es η=.ok (ws,η'))
  (k:∀ vs Z' H' Fs' G,At K sl σ Z' H' Fs' η' (fun c=>R c\/G c)->RepW K Z' H' ws vs G->(∀ c,R c->¬ G c)->Step Z H (tot Fs) Z' H' (fun a=>tot Fs' a\/G a) ->
   Step Z H (fun c=>tot Fs c\/R c) Z' H' (fun c=>tot Fs' c\/(R c\/G c))->(∀ (k i:Nat) (u:V),es[k]?=some (.io i)->sl.pv i=some u->vs[k]?=some u)->Q vs H'):wA K sl.sl C es σ H Q :=
 ⟨sl.pv,Z,Fs,η,ws,η',A.bare,ev,fun v Z' H' Fs' G B r s hio=>by
  obtain ⟨h1,h2,h3⟩:=A.frame B s
  exact k v Z' H' Fs' G h1 r h3 s h2 hio⟩
theorem oz {e:E}{es:List E}(he:∀ i,e≠.io i)(σ:L2.St)(H:Hp)(Q:List V->Hp->Prop)(h:wA K sf C (e::es) σ H Q):mh (wE K sf C e) (wA K sf C es) σ H Q:=by
 obtain ⟨pv,Z,Fs,η,ws,η',A,ev,k⟩:=h
 obtain ⟨w,η1,us,h1,h2,rfl⟩:=cJ he ev
 refine gK A h1 fun x Z1 H1 Fs1 G1 A1 r1 _ s1 _=>?_
 have A1':=A1.mono (G':=G1) fun _ z=>.inr z
 refine EA A1' h2 fun xs Z2 H2 Fs2 G2 A2 r2 d2 s2 t2 hio=>?_
 refine k (x::xs) Z2 H2 Fs2 _ A2 ⟨x,xs,G1,G2,rfl,fun _ z=>.inl z,fun _ z=>.inr z,d2,r1.frame A1.gd.own s2 A1'.dis,r2⟩ (s1.trans t2) fun k i u h hu=>?_
 cases k with
 | zero=>exact absurd (a0w h) (he i)
 | succ k=>exact hio k i u h hu
theorem n6 {i j:Nat}{es:List E}(hs:sf i=some j)(σ:L2.St)(H:Hp)(Q:List V->Hp->Prop)(h:wA K sf C (.io i::es) σ H Q):mh (m6 j) (wA K sf C es) σ H Q:=by
 obtain ⟨pv,Z,Fs,η,ws,η',A,ev,k⟩:=h
 obtain ⟨us,η1,w,h1,h2,rfl,rfl⟩:=eJ ev
 obtain ⟨m,t⟩:=w
 cases e0:rd η i with
 | none=>rw [dQ es h1 i e0] at h2; cases h2
 | some w0 =>
  obtain ⟨v,_,hv⟩:=A.env i w0.1 w0.2 e0
  refine ⟨v,hv.1 j hs,pv,Z,Fs,η,us,η1,A,h1,fun xs Z2 H2 Fs2 G2 A2 r2 s2 hio=>?_⟩
  obtain ⟨v',r,hv'⟩:=A2.env i m t h2
  have ev':v'=v:=by
   have e1:=hv.1 j hs
   rw [hv'.1 j hs] at e1
   exact a0w (a0w e1)
  subst ev'
  have A3:At K ⟨sf,pv⟩ σ Z2 H2 (Ao Fs2 i) (del η1 i) (fun a=>Fs2 i a\/G2 a):=by
   refine ⟨⟨fun a ⟨l,h1,h2⟩=>A2.gd.own a ⟨l,h2⟩,fun l l' a h1 h2=>A2.gd.dis l l' a h1.2 h2.2,A2.gd.zal⟩,fun l m' t' e=>?_,fun a ha=>ha.elim (fun z=>A2.gd.own a ⟨i,z⟩) (A2.own a),fun a ha ⟨l,h1,h2⟩=>ha.elim (fun z=>h1 (A2.gd.dis l i a h2 z)) fun z=>A2.dis a z ⟨l,h2⟩,A2.lk,A2.ln⟩
   rw [bp] at e
   split at e
   ·cases e
   ·rename_i hne
    obtain ⟨v'',r',hv''⟩:=A2.env l m' t' e
    have hli:l≠i:=fun z=>hne ⟨z,dE h2⟩
    exact ⟨v'',r'.mono fun a ha=>⟨hli,ha⟩,hv''⟩
  refine k (v'::xs) Z2 H2 (Ao Fs2 i) _ A3 ⟨v',xs,Fs2 i,G2,rfl,fun _ z=>.inl z,fun _ z=>.inr z,fun a z y=>A2.dis a y ⟨i,z⟩,r,r2⟩ (s2.mono (fun _ z=>z) fun a ha=>?_) fun k i' u h hu=>?_
  ·rcases ha with ⟨l,_,z⟩ | z | z
   ·exact .inl ⟨l,z⟩
   ·exact .inl ⟨i,z⟩
   ·exact .inr z
  ·cases k with
   | zero=>cases h; rw [<- hv'.2 u hu]; rfl
   | succ k=>exact hio k i' u h hu
noncomputable def atV (io:List Nat)(vs:List V):List V:=io.filterMap fun i=>vs[i]?
noncomputable def spC (K:a0a)(C:Call)(f:Nat)(io:List Nat):List V->Hp->VK->Prop:=fun vs H Q=>∃ Z ws G w bs,RepW K Z H ws vs G/\Own Z H G/\(∀ a,Z a->H a≠none)/\C f ws=.ok (w,bs) /\
 ∀ v Z' H' G1 G2,Rep K Z' H' w.1 w.2 v G1->RepW K Z' H' bs (atV io vs) G2->(∀ a,G1 a->¬ G2 a)->Own Z' H' (fun a=>G1 a\/G2 a)->Step Z H G Z' H' (fun a=>G1 a\/G2 a)->Q v H'
noncomputable def fj:List E->Nat->List Nat
 | [],_=>[]
 | .io _::es,n=>n::fj es (n+1)
 | _::es,n=>fj es (n+1)
theorem wm {vs:List V}:∀ {es:List E} {n:Nat},(∀ (k i:Nat) (u:V),es[k]?=some (.io i)->pv i=some u->vs[n+k]?=some u)->(∀ i∈ios es,pv i≠none)->(ios es).filterMap pv=atV (fj es n) vs
 | [],_,_,_=>rfl
 | e::es,n,h,hv=>by
  have rest:(∀ i∈ios es,pv i≠none)->(ios es).filterMap pv=atV (fj es (n+1)) vs:=fun q=>wm (fun k i u hk hu=>by have:=h (k+1) i u hk hu; rw [show n+(k+1)=n+1+k by omega] at this; exact this) q
  cases e with
  | io i =>
   cases hu:pv i with
   | none=>exact absurd hu (hv i (by simp [ios]))
   | some u =>
    have h0:=h 0 i u rfl hu
    rw [Nat.add_zero] at h0
    show (i::ios es).filterMap pv=(n::fj es (n+1)).filterMap fun i=>vs[i]?
    rw [a0L,a0L,hu,h0]
    exact congrArg (u::·) (rest fun j hj=>hv j (by simp [ios,hj]))
  | _=>exact rest fun j hj=>hv j hj
theorem At.putAll:∀ {is:List Nat} {bs:List W} {Fs:Fps} {η:Env} {G2:Fp},At K ⟨sf,val⟩ σ Z H Fs η (fun a=>R a\/G2 a)->(∀ a,R a->¬ G2 a)->RepW K Z H bs (is.filterMap val) G2->(∀ i∈is,val i≠none)->∃ Fs',At K ⟨sf,val⟩ σ Z H Fs' (M.putAll is bs η) R/\∀ a,tot Fs' a->tot Fs a\/G2 a
 | [],bs,Fs,η,G2,A,_,_,_=>⟨Fs,A.mono fun _ z=>.inl z,fun _ z=>.inl z⟩
 | i::is,[],Fs,η,G2,A,_,_,_=>⟨Fs,A.mono fun _ z=>.inl z,fun _ z=>.inl z⟩
 | i::is,b::bs,Fs,η,G2,A,hd,r,hv=>by
  cases hu:val i with
  | none=>exact absurd hu (hv i a0k)
  | some u =>
   rw [a0L,hu] at r
   obtain ⟨x,r',A1,A2,e,a1,a2,ad,p,q⟩:=r
   cases e
   have B:=At.put (i:=i) (R:=fun a=>R a\/A2 a) (G1:=A1) A p (fun a h=>.inr (a1 a h)) (fun a h=>h.imp id (a2 a)) (fun a h q=>h.elim (fun z=>hd a z (a1 a q)) fun z=>ad a q z) (fun j hj=>A.lk i u j hu hj) (fun u' hu'=>by rw [show val i=some u' from hu'] at hu; cases hu; rfl)
   obtain ⟨Fs',B1,B2⟩:=At.putAll (is:=is) (bs:=bs) B (fun a h q=>hd a h (a2 a q)) q fun j hj=>hv j (a0c _ hj)
   exact ⟨Fs',B1,fun a h=>(B2 a h).elim (fun z=>(br z).imp id (a1 a)) fun z=>.inr (a2 a z)⟩
theorem mq {f:Nat}{es:List E}{io:List Nat}(hio:fj es 0=io\/ios es=[])(σ:L2.St)(H:Hp)(Q:VK)(h:wE K sf C (.call f es) σ H Q):wA K sf C es σ H fun vs H1=>spC K C f io vs H1 Q:=by
 obtain ⟨pv,Z,Fs,η,w,η',A,ev,k⟩:=h
 obtain ⟨⟨ws,η1⟩,h1,h2⟩:=aa (show (evA C es η).bind (gE C f (ios es))=_ from ev)
 obtain ⟨⟨u,bs⟩,h3,h4⟩:=aa (show (C f ws).bind (jo (ios es) η1)=_ from h2)
 cases h4
 obtain ⟨val,v1,A2,v2⟩:=A.pin
 have hvn:∀ i∈ios es,val i≠none:=fun i hi=>by
  cases e:rd η i with
  | none=>exact absurd e (gf es h1 i hi)
  | some q=>exact v2 i q.1 q.2 e
 refine ⟨val,Z,Fs,η,ws,η1,A2,h1,fun vs Z1 H1 Fs1 G B r s hv=>?_⟩
 refine ⟨Z1,ws,G,u,bs,r,B.own,B.gd.zal,h3,fun v Z2 H2 G1 G2 r1 r2 d o st=>?_⟩
 obtain ⟨B2,s2⟩:=B.op o st
 have fin:∃ Fs',At K ⟨sf,val⟩ σ Z2 H2 Fs' (M.putAll (ios es) bs η1) G1/\∀ a,tot Fs' a->tot Fs1 a\/G2 a:=by
  rcases hio with e | e
  ·have e2:=wm (pv:=val) (es:=es) (n:=0) (vs:=vs) (fun k i u' hk hu=>by rw [a23]; exact hv k i u' hk hu) hvn
   rw [e] at e2
   rw [<- e2] at r2
   exact At.putAll B2 d r2 hvn
  ·rw [e]
   exact ⟨Fs1,B2.mono fun _ z=>.inl z,fun _ z=>.inl z⟩
 obtain ⟨Fs',B3,hF⟩:=fin
 refine k v Z2 H2 Fs' G1 (B3.unpin v1) r1 ((s.trans s2).mono (fun _ z=>z) fun a ha=>?_)
 rcases ha with z | z
 ·exact (hF a z).imp id .inr
 ·exact .inr (.inl z)
end
end MR
namespace MR
open L2 L3 M
open PySem (Addr Str sizeLine)
section
variable {K:a0a}{sl:Cf}{sf sg:Nat->Option Nat}{C:Call}{σ σ2:L2.St}{Z Z' Z1:Fp}{H H' H1:Hp}{Fs Fs' Fs1:Fps}{η η' η1 ηb:Env}{G G' G1 R F F':Fp}{tg is vs ls:List Nat}{pv val:Nat->Option V}
theorem pL (o:Option W):toS (toS o)=toS o:=by
 cases o with
 | none=>rfl
 | some w=>rfl
theorem gz:∀ (vs:List Nat) (η:Env) (i:Nat),rd (share vs η) i=if i∈vs then toS (rd η i) else rd η i
 | [],η,i=>by simp [share]
 | v::vs,η,i=>by
  show rd (share vs (wr η v (toS (rd η v)))) i=_
  rw [gz vs,bp]
  by_cases h2:i=v
  ·subst h2
   rw [if_pos (show i∈i::vs from a0k)]
   by_cases hl:i < η.length
   ·rw [if_pos (show i=i/\i < η.length from ⟨rfl,hl⟩)]
    split
    ·exact pL _
    ·rfl
   ·have e:rd η i=none:=by
     cases e:rd η i with
     | none=>rfl
     | some w=>exact absurd (dE e) hl
    rw [if_neg (show ¬ (i=i/\i < η.length) from fun h=>hl h.2),e]
    split<;>rfl
  ·rw [if_neg (show ¬ (i=v/\v < η.length) from fun h=>h2 h.1)]
   by_cases h1:i∈vs
   ·rw [if_pos h1,if_pos (a0c _ h1)]
   ·rw [if_neg h1,if_neg (by simp [h1,h2])]
theorem jr:∀ (η:Env) (i:Nat),rd (fV η) i=none
 | [],_=>rfl
 | _::_,0=>rfl
 | _::η,i+1=>jr η i
theorem l7:∀ (vs:List Nat) (η0 η:Env) (i:Nat) (w:W),rd (lD vs η0 η) i=some w->rd η i=some w\/(i∈vs/\toS (rd η0 i)=some w)
 | [],_,_,_,_,h=>.inl h
 | v::vs,η0,η,i,w,h=>by
  rcases l7 vs η0 (wr η v (toS (rd η0 v))) i w h with e | e
  ·rw [bp] at e
   split at e
   ·rename_i hc; obtain ⟨rfl,_⟩:=hc; exact .inr ⟨a0k,e⟩
   ·exact .inl e
  ·exact .inr ⟨a0c _ e.1,e.2⟩
theorem jF:∀ (vs:List Nat) (η0 η:Env) (i:Nat) (w:W),rd (gc vs η0 η) i=some w->rd η i=some w\/lfO (rd η0 i)=some w
 | [],_,_,_,_,h=>.inl h
 | v::vs,η0,η,i,w,h=>by
  rcases jF vs η0 (wr η v (lfO (rd η0 v))) i w h with e | e
  ·rw [bp] at e
   split at e
   ·rename_i hc; obtain ⟨rfl,_⟩:=hc; exact .inr e
   ·exact .inl e
  ·exact .inr e
theorem vf {i:Nat}{w:W}(h:rd (dG vs ls η) i=some w):∃ m t,rd η i=some (m,t)/\((i∈vs/\w=(.s,t))\/(t.leaf=true/\w=(.d,t))):=by
 rcases jF ls η _ i w h with e | e
 ·rcases l7 vs η _ i w e with e | ⟨hi,e⟩
  ·rw [jr] at e; cases e
  ·cases q:rd η i with
   | none=>rw [q] at e; cases e
   | some u=>rw [q] at e; cases e; exact ⟨u.1,u.2,rfl,.inl ⟨hi,rfl⟩⟩
 ·cases q:rd η i with
  | none=>rw [q] at e; cases e
  | some u =>
   rw [q] at e
   obtain ⟨m,t⟩:=u
   have e':(if t.leaf=true then some ((.d,t):W) else none)=some w:=e
   split at e'
   ·rename_i hl; cases e'; exact ⟨m,t,rfl,.inr ⟨hl,rfl⟩⟩
   ·cases e'
noncomputable def cN (Fs:Fps)(vs:List Nat):Fp:=fun a=>∃ i,i∈vs/\Fs i a
noncomputable def pM:Fps:=fun _ _=>False
theorem cK {a:Addr}(h:cN Fs vs a):tot Fs a:=let ⟨i,_,h⟩:=h; ⟨i,h⟩
theorem i0 {a:Addr}(h:tot pM a):False:=let ⟨_,h⟩:=h; h
theorem At.quiet (A:At K sl σ Z H Fs η no):At K sl σ (fun a=>Z a\/cN Fs vs a) H pM (dG vs ls η) no:=by
 refine ⟨⟨fun a h=>(i0 h).elim,fun _ _ _ h=>h.elim,fun a h=>h.elim (A.gd.zal a) fun q=>?_⟩,fun i m t e=>?_,cB,fun _ z=>z.elim,A.lk,A.ln⟩
 ·obtain ⟨_,xs,e⟩:=A.gd.own a (cK q)
  rw [e]; simp
 ·obtain ⟨m',t',e1,e2⟩:=vf e
  obtain ⟨v,r,h⟩:=A.env i m' t' e1
  rcases e2 with ⟨hi,e2⟩ | ⟨hl,e2⟩
  ·cases e2
   exact ⟨v,(r.sh.zmono fun a h=>h.imp id fun q=>⟨i,hi,q⟩).sany,h⟩
  ·cases e2
   exact ⟨v,r.leaf (fun _ _ _ q=>q) hl,h⟩
mutual
theorem Rep.dany:∀ {t:T} {v:V} {G:Fp},Rep K Z H .d t v G->Rep K Z' H .d t v G
 | .non,_,_,h=>h
 | .bl _,_,_,h=>h
 | .int _,_,_,h=>h
 | .str _,_,_,h=>h
 | .scr _,_,_,h=>h
 | .tup ts,_,_,⟨a,xs,e,q,l,r⟩=>⟨a,xs,e,q,l,RepL.dany r⟩
 | .lst ts,_,_,⟨a,xs,e,l,q,r⟩=>⟨a,xs,e,l,q,RepL.dany r⟩
 | .dct _ _,_,_,⟨a,xs,e,l,q,n,hl,r⟩=>⟨a,xs,e,l,q,n,hl,RepL.dany r⟩
 | .ins _ _ _,_,_,h=>absurd rfl h.1
 | .gone,_,_,h=>h
theorem RepL.dany:∀ {ts:List T} {xs:List V} {G:Fp},RepL K Z H .d ts xs G->RepL K Z' H .d ts xs G
 | [],_,_,h=>h
 | t::ts,xs,_,⟨x,r,G1,G2,e,h1,h2,hd,p,q⟩=>⟨x,r,G1,G2,e,h1,h2,hd,Rep.dany p,RepL.dany q⟩
end
theorem dH (A:At K sl σ Z H Fs η no)(B:Own Z' H' G)(zal:∀ a,Z' a->H' a≠none)(s:Step (fun a=>Z a\/cN Fs vs a) H F Z' H' (fun a=>F' a\/G a))(hF:∀ a,¬ F a) :
  At K sl σ (fun a=>Z' a/\¬ cN Fs vs a) H' Fs η G/\Step Z H (tot Fs) (fun a=>Z' a/\¬ cN Fs vs a) H' (fun a=>tot Fs a\/G a):=by
 have keep:∀ a o,H a=some o->H' a=some o:=fun a o e=>s.keep a o e (hF a)
 have zz:∀ a,Z a->Z' a/\¬ cN Fs vs a:=fun a h=>⟨s.zm a (.inl h),fun q=>(A.gd.own a (cK q)).1 h⟩
 have nz:∀ a,tot Fs a->¬ (Z' a/\¬ cN Fs vs a):=fun a h q=>by
  obtain ⟨nz,xs,e⟩:=A.gd.own a h
  rcases s.zn a q.1 with z | z | z
  ·exact z.elim nz q.2
  ·exact hF a z
  ·rw [e] at z; cases z
 have gd:∀ a,G a->¬ tot Fs a:=fun a h q=>by
  obtain ⟨_,xs,e⟩:=A.gd.own a q
  rcases s.fn a (.inr h) with z | z
  ·exact hF a z
  ·rw [e] at z; cases z
 refine ⟨⟨⟨fun a h=>?_,A.gd.dis,fun a h=>zal a h.1⟩,fun i m t e=>?_,fun a h=>⟨fun q=>(B a h).1 q.1,(B a h).2⟩,gd,A.lk,A.ln⟩,⟨fun a o e _=>keep a o e,zz,fun a h=>?_,fun a h=>?_,s.al,fun _ a h=>zal a h.1⟩⟩
 ·obtain ⟨_,xs,e⟩:=A.gd.own a h
  exact ⟨nz a h,xs,keep a _ e⟩
 ·obtain ⟨v,r,h⟩:=A.env i m t e
  refine ⟨v,r.keep ⟨fun a o _ e=>keep a o e,fun a xs e=>?_,fun a o u e=>keep a _ e⟩ zz fun a o _ e=>keep a o e,h⟩
  rcases e with e | ⟨u,e⟩
  ·exact .inl (keep a _ e)
  ·exact .inr ⟨u,keep a _ e⟩
 ·rcases s.zn a h.1 with z | z | z
  ·exact z.elim .inl fun q=>absurd q h.2
  ·exact (hF a z).elim
  ·exact .inr (.inr z)
 ·rcases h with h | h
  ·exact .inl h
  ·exact (s.fn a (.inr h)).elim (fun z=>(hF a z).elim) .inr
theorem At.share (A:At K sl σ Z H Fs η G):At K sl σ (fun a=>Z a\/cN Fs vs a) H (eX Fs vs) (M.share vs η) G/\∀ {Z0 H0 F0},Step Z0 H0 F0 Z H (fun a=>tot Fs a\/G a)->Step Z0 H0 F0 (fun a=>Z a\/cN Fs vs a) H (fun a=>tot (eX Fs vs) a\/G a):=by
 refine ⟨⟨⟨fun a h=>?_,fun i j a h1 h2=>A.gd.dis i j a h1.2 h2.2,fun a h=>h.elim (A.gd.zal a) fun q=>?_⟩,fun i m t e=>?_,fun a h=>⟨fun z=>z.elim (A.own a h).1 fun q=>A.dis a h (cK q),(A.own a h).2⟩,fun a h q=>A.dis a h (cH q),A.lk,A.ln⟩,fun {Z0 H0 F0} s=>⟨s.keep,fun a h=>.inl (s.zm a h),fun a h=>h.elim (s.zn a) fun q=>.inr (s.fn a (.inl (cK q))),fun a h=>s.fn a (h.imp cH id),s.al,fun z a h=>h.elim (s.za z a) fun q=>?_⟩⟩
 ·obtain ⟨i,hi,h'⟩:=h
  obtain ⟨nz,xs,e⟩:=A.gd.own a ⟨i,h'⟩
  exact ⟨fun z=>z.elim nz fun ⟨j,hj,q⟩=>hi (A.gd.dis i j a h' q ▸ hj),xs,e⟩
 ·obtain ⟨_,xs,e⟩:=A.gd.own a (cK q)
  rw [e]; simp
 ·rw [gz] at e
  split at e
  ·rename_i hi
   cases q:rd η i with
   | none=>rw [q] at e; cases e
   | some u =>
    rw [q] at e; cases e
    obtain ⟨v,r,h⟩:=A.env i u.1 u.2 q
    exact ⟨v,(r.sh.zmono fun a h=>h.imp id fun q=>⟨i,hi,q⟩).sany,h⟩
  ·rename_i hi
   obtain ⟨v,r,h⟩:=A.env i m t e
   exact ⟨v,(r.zmono fun a h=>.inl h).mono fun a h=>⟨hi,h⟩,h⟩
 ·obtain ⟨_,xs,e⟩:=A.gd.own a (cK q)
  rw [e]; simp
theorem jt {x:X}{e:E}{w:W}{Q:VK}(A:At K sl σ Z H Fs η no)(ev:evX C x e η=.ok (w,η'))(k:∀ v Z' H' Fs' G,At K sl σ Z' H' Fs' η' G->Rep K Z' H' w.1 w.2 v G->Step Z H (tot Fs) Z' H' (fun a=>tot Fs' a\/G a)->Q v H'):wE K sl.sl C e σ H Q:=by
 cases x with
 | q vs ls =>
  obtain ⟨⟨u,η2⟩,h1,h2⟩:=aa (show (evE C e (dG vs ls η)).bind (kX vs η)=_ from ev)
  cases h2
  generalize hm0:M.lf u.1 u.2=m0 at k
  refine ⟨sl.pv,_,pM,_,_,η2,A.quiet (vs:=vs) (ls:=ls),h1,fun v Z' H' Fs' G B r0 s=>?_⟩
  have r:=r0.lf
  rw [hm0] at r
  obtain ⟨B1,s1⟩:=dH A B.own B.gd.zal s fun a h=>i0 h
  have other:Q v H'\/m0=.d:=by
   by_cases hd:m0=.d
   ·exact .inr hd
   ·refine .inl ?_
    have e':after m0 vs η=share vs η:=by
     cases hm:m0 with
     | d=>exact absurd hm hd
     | s=>rfl
     | o m=>rfl
    obtain ⟨B2,s2⟩:=B1.share (vs:=vs)
    have zz:∀ a,(Z' a/\¬ cN Fs vs a)\/cN Fs vs a->Z' a:=fun a h=>h.elim a28 fun q=>s.zm a (.inr q)
    have zz':∀ a,Z' a->(Z' a/\¬ cN Fs vs a)\/cN Fs vs a:=fun a h=>(a39 (cN Fs vs a)).elim .inr fun q=>.inl ⟨h,q⟩
    exact k v _ H' _ G (e' ▸ B2) (r.zmono zz') (s2 s1)
  rcases other with q | hd
  ·exact q
  ·have e':after m0 vs η=η:=by rw [hd]; rfl
   refine k v _ H' Fs G (e'.symm ▸ B1) ?_ s1
   subst hd
   exact r.dany
 | l vs =>
  obtain ⟨B,s0⟩:=A.share (vs:=vs)
  have s1:=s0 ((Step.refl Z H (tot Fs)).mono (F2:=fun a=>tot Fs a\/no a) (fun _ z=>z) fun a h=>h.elim id fun z=>z.elim)
  refine ⟨sl.pv,_,_,_,w,η',B,ev,fun v Z' H' Fs' G B' r s=>k v Z' H' Fs' G B' r ((s1.mono (fun _ z=>z) fun a h=>.inl h).trans s)⟩
theorem ED {x:X}{e:E}{b:Bool}{Q:Bool->Hp->Prop}(A:At K sl σ Z H Fs η no)(ev:evT C x e η=.ok (b,η'))(k:∀ Z' H' Fs',At K sl σ Z' H' Fs' η' no->Step Z H (tot Fs) Z' H' (tot Fs')->Q b H'):wT K sl.sl C e σ H Q:=by
 cases x with
 | q vs ls =>
  obtain ⟨⟨u,η2⟩,h1,h2⟩:=aa (show (evE C e (dG vs ls η)).bind (kT η)=_ from ev)
  obtain ⟨b',h3,e3⟩:=aw (show ret η (truth u.2)=_ from h2)
  cases e3
  refine ⟨sl.pv,_,pM,_,u,η2,b,A.quiet (vs:=vs) (ls:=ls),h1,h3,fun Z' H' Fs' B s=>?_⟩
  obtain ⟨B1,s1⟩:=dH (G:=no) A cB B.gd.zal (s.mono (F2:=fun a=>tot Fs' a\/no a) (fun _ z=>z) fun a h=>h.elim id fun z=>z.elim) fun a h=>i0 h
  exact k _ H' Fs B1 (s1.mono (fun _ z=>z) fun a h=>.inl h)
 | l vs =>
  obtain ⟨⟨u,η2⟩,h1,h2⟩:=aa (show (evE C e (M.share vs η)).bind kT2=_ from ev)
  obtain ⟨b',h3,e3⟩:=aw (show ret η2 (truth u.2)=_ from h2)
  cases e3
  obtain ⟨B,s0⟩:=A.share (vs:=vs)
  have s1:=s0 ((Step.refl Z H (tot Fs)).mono (F2:=fun a=>tot Fs a\/no a) (fun _ z=>z) fun a h=>h.elim id fun z=>z.elim)
  exact ⟨sl.pv,_,_,_,u,_,b,B,h1,h3,fun Z' H' Fs' B' s=>k Z' H' Fs' B' ((s1.mono (fun _ z=>z) fun a h=>.inl h).trans s)⟩
end
end MR
namespace MR
open L2 L3 M
open PySem (Addr Str sizeLine)
section
variable {K:a0a}{Wx:L2.St->VK}{sl:Cf}{sf sg:Nat->Option Nat}{C:Call}{σ σ2:L2.St}{Z Z' Z1:Fp}{H H' H1:Hp}{Fs Fs' Fs1:Fps}{η η' η1 ηb:Env}{G G' G1 R F F':Fp}{tg is vs ls io:List Nat}{pv val:Nat->Option V}{D:bL}
noncomputable def Fin (K:a0a)(Wx:L2.St->VK)(sl:Cf)(Z:Fp)(H:Hp)(F:Fp)(D:bL):Fl->Prop
 | .nx η'=>∀ σ' Z' H' Fs',At K sl σ' Z' H' Fs' η' no->Step Z H F Z' H' (tot Fs')->D.nx σ' H'
 | .rt w η'=>∀ v σ' Z' H' Fs' G,At K sl σ' Z' H' Fs' η' G->Rep K Z' H' w.1 w.2 v G->Step Z H F Z' H' (fun a=>tot Fs' a\/G a)->D.rt v H'
 | .bk η'=>∀ σ' Z' H' Fs',At K sl σ' Z' H' Fs' η' no->Step Z H F Z' H' (tot Fs')->D.bk σ' H'
 | .ex t η'=>∀ v σ' Z' H' Fs',At K sl σ' Z' H' Fs' η' no->Rep K Z' H' .s t v no->Step Z H F Z' H' (tot Fs')->Wx σ' v H'
 | _=>False
theorem Fin.step {fl:Fl}(s:Step Z H F Z1 H1 F')(h:Fin K Wx sl Z H F D fl):Fin K Wx sl Z1 H1 F' D fl:=by
 cases fl with
 | nx η=>exact fun σ' Z' H' Fs' A t=>h σ' Z' H' Fs' A (s.trans t)
 | rt w η=>exact fun v σ' Z' H' Fs' G A r t=>h v σ' Z' H' Fs' G A r (s.trans t)
 | bk η=>exact fun σ' Z' H' Fs' A t=>h σ' Z' H' Fs' A (s.trans t)
 | ex t η=>exact fun v σ' Z' H' Fs' A r t=>h v σ' Z' H' Fs' A r (s.trans t)
 | _=>exact h.elim
structure mU (sf:Nat->Option Nat)(io:List Nat)(pv:Nat->Option V):Prop where
 inj:∀ i i' j,sf i=some j->sf i'=some j->i=i'
 io:∀ i,i ∉ io->pv i=none
noncomputable def wS (K:a0a)(Wx:L2.St->VK)(sf:Nat->Option Nat)(io:List Nat)(C:Call)(st:S):TS:=fun D σ H=>∃ pv Z Fs η,mU sf io pv/\At K ⟨sf,pv⟩ σ Z H Fs η no/\Fin K Wx ⟨sf,pv⟩ Z H (tot Fs) D (evS C st η)
noncomputable def wSs (K:a0a)(Wx:L2.St->VK)(sf:Nat->Option Nat)(io:List Nat)(C:Call)(st:List S):TS:=fun D σ H=>∃ pv Z Fs η,mU sf io pv/\At K ⟨sf,pv⟩ σ Z H Fs η no/\Fin K Wx ⟨sf,pv⟩ Z H (tot Fs) D (evSs C st η)
theorem sJ (D:bL)(σ:L2.St)(H:Hp)(h:wSs K Wx sf io C [] D σ H):wt D σ H:=by
 obtain ⟨pv,Z,Fs,η,N,A,f⟩:=h
 exact f σ Z H Fs A (Step.refl _ _ _)
theorem oU {s:S}{r:List S}(D:bL)(σ:L2.St)(H:Hp)(h:wSs K Wx sf io C (s::r) D σ H):CP (wS K Wx sf io C s) (wSs K Wx sf io C r) D σ H:=by
 obtain ⟨pv,Z,Fs,η,N,A,f⟩:=h
 refine ⟨pv,Z,Fs,η,N,A,?_⟩
 have f':Fin K Wx ⟨sf,pv⟩ Z H (tot Fs) D (Fl.seq (evS C s η) (evSs C r)):=f
 cases e:evS C s η with
 | nx η1 =>
  rw [e] at f'
  exact fun σ' Z' H' Fs' A' t=>⟨pv,Z',Fs',η1,N,A',f'.step t⟩
 | rt w η1=>rw [e] at f'; exact f'
 | bk η1=>rw [e] at f'; exact f'
 | ex t η1=>rw [e] at f'; exact f'
 | no=>rw [e] at f'; exact f'.elim
theorem uK {s:S}(D:bL)(σ:L2.St)(H:Hp)(h:wSs K Wx sf io C [s] D σ H):wS K Wx sf io C s D σ H:=by
 obtain ⟨pv,Z,Fs,η,N,A,f⟩:=h
 refine ⟨pv,Z,Fs,η,N,A,?_⟩
 have f':Fin K Wx ⟨sf,pv⟩ Z H (tot Fs) D (Fl.seq (evS C s η) (evSs C [])):=f
 cases e:evS C s η with
 | nx η1=>rw [e] at f'; exact f'
 | rt w η1=>rw [e] at f'; exact f'
 | bk η1=>rw [e] at f'; exact f'
 | ex t η1=>rw [e] at f'; exact f'
 | no=>rw [e] at f'; exact f'.elim
theorem aT {α:Type}{r:Res α}{g:α->Fl}(f:Fin K Wx sl Z H F D (Fl.of η r g)):∃ a,r=.ok a/\Fin K Wx sl Z H F D (g a):=by
 cases r with
 | ok a=>exact ⟨a,rfl,f⟩
 | ex t=>exact f.elim
 | no=>exact f.elim
theorem iE {o:Option Env}(f:Fin K Wx sl Z H F D (nxO η o)):∃ η',o=some η'/\Fin K Wx sl Z H F D (.nx η'):=by
 cases o with
 | some a=>exact ⟨a,rfl,f⟩
 | none=>exact f.elim
theorem At.setR {i j:Nat}{w:W}{x:V}(N:mU sf io pv)(hi:i ∉ io)(hs:sf i=some j)(A:At K ⟨sf,pv⟩ σ Z H Fs η G)(r:Rep K Z H w.1 w.2 x G1)(q1:∀ a,G1 a->G a)(q2:∀ a,R a->G a)(q3:∀ a,R a->¬ G1 a):At K ⟨sf,pv⟩ (σ.set j (some x)) Z H (lh Fs i G1) (M.put η i w) R:=by
 have hj:j < σ.length:=A.ln i j hs
 have B:At K ⟨fun k=>if k=i then none else sf k,pv⟩ (σ.set j (some x)) Z H Fs (M.del η i) G:=by
  refine ⟨A.gd,fun l m t e=>?_,A.own,A.dis,fun l u k hu hk=>?_,fun l k hk=>?_⟩
  ·rw [bp] at e
   split at e
   ·cases e
   ·rename_i hne
    obtain ⟨v,r',h1,h2⟩:=A.env l m t e
    have hl:l≠i:=fun z=>hne ⟨z,by rw [<- z]; exact dE e⟩
    refine ⟨v,r',fun k hk=>?_,h2⟩
    have hk':sf l=some k:=by have:(if l=i then none else sf l)=some k:=hk; rw [if_neg hl] at this; exact this
    have hjk:j≠k:=fun z=>hl (N.inj l i k hk' (by rw [<- z]; exact hs))
    rw [a1d hjk]
    exact h1 k hk'
  ·have hl:l≠i:=fun z=>by
    have hu':pv l=some u:=hu
    rw [z,N.io i hi] at hu'; cases hu'
   have hk':sf l=some k:=by have:(if l=i then none else sf l)=some k:=hk; rw [if_neg hl] at this; exact this
   have hjk:j≠k:=fun z=>hl (N.inj l i k hk' (by rw [<- z]; exact hs))
   rw [a1d hjk]
   exact A.lk l u k hu hk'
  ·have hk':sf l=some k:=by
    have:(if l=i then none else sf l)=some k:=hk
    split at this
    ·cases this
    ·exact this
   rw [a1H]
   exact A.ln l k hk'
 have B2:=At.put (i:=i) (w:=w) (G1:=G1) (R:=R) B r q1 q2 q3 (fun k hk=>by have hk':(if i=i then none else sf i)=some k:=hk; rw [if_pos rfl] at hk'; cases hk') (fun u hu=>by have:=N.io i hi; rw [show pv i=some u from hu] at this; cases this)
 have e1:M.put (M.del η i) i w=M.put η i w:=by
  have:∀ (η:Env) (i:Nat) (a b:Option W),wr (wr η i a) i b=wr η i b:=fun η=>by
   induction η with
   | nil=>intro i a b; rfl
   | cons o η ih=>intro i a b; cases i with
    | zero=>rfl
    | succ i=>show o::wr (wr η i a) i b=o::wr η i b; rw [ih]
  exact this η i none (some w)
 rw [e1] at B2
 refine ⟨B2.gd,fun l m t e=>?_,B2.own,B2.dis,fun l u k hu hk=>?_,fun l k hk=>by rw [a1H]; exact A.ln l k hk⟩
 ·obtain ⟨v,r',h1,h2⟩:=B2.env l m t e
  by_cases hl:l=i
  ·subst hl
   rw [bp] at e
   split at e
   ·cases e
    refine ⟨x,r.mono fun a h=>.inl ⟨rfl,h⟩,fun k hk=>?_,fun u hu=>by have:=N.io l hi; rw [show pv l=some u from hu] at this; cases this⟩
    have:k=j:=by rw [show sf l=some k from hk] at hs; cases hs; rfl
    subst this
    rw [a1q hj]
   ·rename_i hc
    exact absurd ⟨rfl,dE e⟩ hc
  ·refine ⟨v,r',fun k hk=>h1 k ?_,h2⟩
   show (if l=i then none else sf l)=some k
   rw [if_neg hl]; exact hk
 ·by_cases hl:l=i
  ·subst hl
   have:=N.io l hi
   rw [show pv l=some u from hu] at this; cases this
  ·exact B2.lk l u k hu (show (if l=i then none else sf l)=some k by rw [if_neg hl]; exact hk)
theorem At.set {i j:Nat}{w:W}{x:V}(N:mU sf io pv)(hi:i ∉ io)(hs:sf i=some j)(A:At K ⟨sf,pv⟩ σ Z H Fs η G)(r:Rep K Z H w.1 w.2 x G):At K ⟨sf,pv⟩ (σ.set j (some x)) Z H (lh Fs i G) (M.put η i w) no:=At.setR N hi hs A r (fun _ h=>h) (fun _ z=>z.elim) (fun _ z=>z.elim)
theorem oP {x:X}{i j:Nat}{e:E}(hi:i ∉ io)(hs:sf i=some j)(D:bL)(σ:L2.St)(H:Hp)(h:wS K Wx sf io C (.asg x i e) D σ H):pB (wE K sf C e) (dj j) D σ H:=by
 obtain ⟨pv,Z,Fs,η,N,A,f⟩:=h
 obtain ⟨⟨w,η1⟩,h1,h2⟩:=aT (show Fin K Wx ⟨sf,pv⟩ Z H (tot Fs) D (Fl.of η (evX C x e η) (tK i)) from f)
 refine jt (sl:=⟨sf,pv⟩) A h1 fun v Z' H' Fs' G B r s=>?_
 exact h2 _ Z' H' _ (At.set N hi hs B r) (s.mono (fun _ z=>z) fun a ha=>br ha)
theorem xX {x:X}{e:E}(D:bL)(σ:L2.St)(H:Hp)(h:wS K Wx sf io C (.exp x e) D σ H):wY (wE K sf C e) D σ H:=by
 obtain ⟨pv,Z,Fs,η,N,A,f⟩:=h
 obtain ⟨⟨w,η1⟩,h1,h2⟩:=aT (show Fin K Wx ⟨sf,pv⟩ Z H (tot Fs) D (Fl.of η (evX C x e η) kNx) from f)
 exact jt (sl:=⟨sf,pv⟩) A h1 fun v Z' H' Fs' G B r s=>h2 σ Z' H' Fs' B.bare (s.mono (fun _ z=>z) fun a ha=>.inl ha)
theorem Ar {e:E}(D:bL)(σ:L2.St)(H:Hp)(h:wS K Wx sf io C (.ret vs e) D σ H):Bq (wE K sf C e) D σ H:=by
 obtain ⟨pv,Z,Fs,η,N,A,f⟩:=h
 obtain ⟨⟨w,η1⟩,h1,h2⟩:=aT (show Fin K Wx ⟨sf,pv⟩ Z H (tot Fs) D (Fl.of η (evE C e (M.share vs η)) kRt) from f)
 exact jt (sl:=⟨sf,pv⟩) (x:=.l vs) A h1 fun v Z' H' Fs' G B r s=>h2 v σ Z' H' Fs' G B r s
theorem yK {x:X}{c:E}{a b:List S}(D:bL)(σ:L2.St)(H:Hp)(h:wS K Wx sf io C (.ite x c a b) D σ H):Cv (wT K sf C c) (wSs K Wx sf io C a) (wSs K Wx sf io C b) D σ H:=by
 obtain ⟨pv,Z,Fs,η,N,A,f⟩:=h
 obtain ⟨⟨k,η1⟩,h1,h2⟩:=aT (show Fin K Wx ⟨sf,pv⟩ Z H (tot Fs) D (Fl.of η (evT C x c η) (kIf (evSs C a) (evSs C b))) from f)
 refine ED (sl:=⟨sf,pv⟩) A h1 fun Z' H' Fs' B s=>?_
 cases k with
 | true=>rw [if_pos rfl]; exact ⟨pv,Z',Fs',η1,N,B,Fin.step s h2⟩
 | false=>rw [if_neg a0r]; exact ⟨pv,Z',Fs',η1,N,B,Fin.step s h2⟩
theorem l6 {m:Md}{ts:List T}{v:V}(hm:m≠.s)(r:Rep K Z H m (.lst ts) v G):∃ a xs,v=.ref a/\xs.length<=LIM/\G a/\H a=some (.lst xs)/\RepL K Z H m.kid ts xs (fun b=>G b/\b≠a):=by
 obtain ⟨a,xs,e,l,q,p⟩:=r
 rw [LstR.own hm] at q
 exact ⟨a,xs,e,l,q.1,q.2,p⟩
theorem vH {i:Nat}{a:Addr}{ts':List T}{xs':List V}{m':Md}(hm:m'≠.s)(A:At K ⟨sf,pv⟩ σ Z H Fs η G){w0:W}(hi:rd η i=some w0)(ha:Fs i a)(hx:∀ j,sf i=some j->σ[j]?=some (some (.ref a)))(hl:xs'.length<=LIM)(hpv:∀ u,pv i=some u->V.ref a=u)
  (hg:∀ b,G' b->(Fs i b\/G b)/\b≠a) (hR:∀ b,R b->(Fs i b\/G b)/\b≠a) (hRG:∀ b,R b->¬ G' b) (p:RepL K (fun b=>Z b\/((Fs i b\/G b)/\b≠a/\¬ G' b/\¬ R b)) H m'.kid ts' xs' G') {Q:Hp->Prop}
  (k:∀ Z' Fs',At K ⟨sf,pv⟩ σ Z' (upd H a (.lst xs')) Fs' (M.put η i (m',.lst ts')) R->Step Z H (fun b=>tot Fs b\/G b) Z' (upd H a (.lst xs')) (fun b=>tot Fs' b\/R b)->(∀ {m t v},Rep K (fun b=>Z b\/((Fs i b\/G b)/\b≠a/\¬ G' b/\¬ R b)) H m t v R->Rep K Z' (upd H a (.lst xs')) m t v R)->Q (upd H a (.lst xs'))):Q (upd H a (.lst xs')):=by
 have hta:tot Fs a:=⟨i,ha⟩
 obtain ⟨nza,ys,hya⟩:=A.gd.own a hta
 have nGa:¬ G a:=fun q=>A.dis a q hta
 have zdef:∀ b,(Z b\/((Fs i b\/G b)/\b≠a/\¬ G' b/\¬ R b))->b≠a:=fun b h z=>by
  subst z
  rcases h with h | h
  ·exact nza h
  ·exact h.2.1 rfl
 have keep:∀ b o,H b=some o->b≠a->upd H a (.lst xs') b=some o:=fun b o e hb=>by rw [ag hb]; exact e
 have neT:∀ b xs,H b=some (.tup xs)->b≠a:=fun b xs e z=>by rw [z,hya] at e; exact pN e.symm
 have neF:∀ b o u,H b=some (.frz o u)->b≠a:=fun b o u e z=>by rw [z,hya] at e; exact kq e.symm
 have stay:∀ {Y:Fp},(∀ b,Y b->b≠a)->Stay Y H (upd H a (.lst xs')):=fun {Y} hY=>⟨fun b o hb e=>keep b o e (hY b hb),fun b xs e=>by
  rcases e with e | ⟨u,e⟩
  ·exact .inl (keep b _ e (neT b xs e))
  ·exact .inr ⟨u,keep b _ e (neF b u _ e)⟩,fun b o u e=>keep b _ e (neF b o u e)⟩
 have al:∀ b,H b≠none->upd H a (.lst xs') b≠none:=fun b h=>by
  by_cases e:b=a
  ·rw [e,aj]; simp
  ·rw [ag e]; exact h
 have zal':∀ b,(Z b\/((Fs i b\/G b)/\b≠a/\¬ G' b/\¬ R b))->H b≠none:=fun b h=>by
  rcases h with h | ⟨h | h,_⟩
  ·exact A.gd.zal b h
  ·obtain ⟨_,zs,e⟩:=A.gd.own b ⟨i,h⟩; rw [e]; simp
  ·obtain ⟨_,zs,e⟩:=A.own b h; rw [e]; simp
 have listAt:∀ b,(tot Fs b\/G b)->∃ zs:OO,upd H a (.lst xs') b=some zs.ho:=fun b h=>by
  by_cases e:b=a
  ·exact ⟨.inl xs',by rw [e,aj]; rfl⟩
  ·rcases h with h | h
   ·obtain ⟨_,zs,q⟩:=A.gd.own b h; exact ⟨zs,by rw [ag e]; exact q⟩
   ·obtain ⟨_,zs,q⟩:=A.own b h; exact ⟨zs,by rw [ag e]; exact q⟩
 have nZ:∀ b,(Fs i b\/G b)->¬ Z b:=fun b h z=>h.elim (fun y=>(A.gd.own b ⟨i,y⟩).1 z) fun y=>(A.own b y).1 z
 have dI:∀ b,tot (lh Fs i fun b=>G' b\/b=a) b->(∃ j,j≠i/\Fs j b)\/G' b\/b=a:=fun b h=>by
  obtain ⟨j,h | h⟩:=h
  ·exact .inr h.2
  ·exact .inl ⟨j,h⟩
 refine k (fun b=>Z b\/((Fs i b\/G b)/\b≠a/\¬ G' b/\¬ R b)) (lh Fs i fun b=>G' b\/b=a) ⟨⟨fun b h=>⟨fun z=>?_,?_⟩,fun j l b hj hk=>?_,fun b h=>al b (zal' b h)⟩,fun l m t e=>?_,fun b h=>⟨fun z=>?_,listAt b ((hR b h).1.imp (fun z=>⟨i,z⟩) id)⟩,fun b h q=>?_,A.lk,A.ln⟩ ⟨fun b o e n=>keep b o e fun z=>n (.inl (z ▸ hta)),fun b h=>.inl h,fun b h=>h.imp id fun q=>.inl (q.1.imp (fun z=>⟨i,z⟩) id),fun b h=>?_,al,fun _ b h=>al b (zal' b h)⟩ fun {m t v} r=>r.keep (stay zdef) (fun _ z=>z) fun b o hb e=>keep b o e (hR b hb).2
 ·rcases dI b h with ⟨j,hj,q⟩ | q | q
  ·rcases z with z | ⟨z | z,_⟩
   ·exact (A.gd.own b ⟨j,q⟩).1 z
   ·exact hj (A.gd.dis j i b q z)
   ·exact A.dis b z ⟨j,q⟩
  ·rcases z with z | z
   ·exact nZ b (hg b q).1 z
   ·exact z.2.2.1 q
  ·exact zdef b z q
 ·rcases dI b h with ⟨j,hj,q⟩ | q | q
  ·exact listAt b (.inl ⟨j,q⟩)
  ·exact listAt b ((hg b q).1.imp (fun z=>⟨i,z⟩) id)
  ·exact ⟨.inl xs',by rw [q,aj]; rfl⟩
 ·have key:∀ {j:Nat},(G' b\/b=a)->Fs j b->j=i:=fun {j} h q=>by
   rcases h with h | h
   ·rcases (hg b h).1 with y | y
    ·exact A.gd.dis j i b q y
    ·exact absurd ⟨j,q⟩ (A.dis b y)
   ·rw [h] at q; exact A.gd.dis j i a q ha
  rcases hj with ⟨rfl,hj⟩ | ⟨nj,hj⟩
  ·rcases hk with ⟨rfl,_⟩ | ⟨nk,hk⟩
   ·rfl
   ·exact absurd (key hj hk) nk
  ·rcases hk with ⟨rfl,hk⟩ | ⟨nk,hk⟩
   ·exact absurd (key hk hj) nj
   ·exact A.gd.dis j l b hj hk
 ·rw [bp] at e
  split at e
  ·rename_i hc
   obtain ⟨rfl,_⟩:=hc
   cases e
   refine ⟨.ref a,⟨a,xs',rfl,hl,(LstR.own hm).mpr ⟨.inl ⟨rfl,.inr rfl⟩,aj⟩,?_⟩,hx,hpv⟩
   exact (p.keep (stay zdef) (fun _ z=>z) fun b o hb e=>keep b o e (hg b hb).2).mono fun b hb=>⟨.inl ⟨rfl,.inl hb⟩,(hg b hb).2⟩
  ·rename_i hc
   have hl':l≠i:=fun z=>hc ⟨z,dE hi⟩
   obtain ⟨v,r,h⟩:=A.env l m t e
   have nea:∀ b,Fs l b->b≠a:=fun b q z=>hl' (A.gd.dis l i a (z ▸ q) ha)
   exact ⟨v,((r.keep (stay fun b hb z=>nza (z ▸ hb)) (fun _ z=>z) fun b o hb e=>keep b o e (nea b hb)).zmono fun b h=>.inl h).mono fun b h=>.inr ⟨hl',h⟩,h⟩
 ·rcases z with z | z
  ·exact nZ b (hR b h).1 z
  ·exact z.2.2.2 h
 ·rcases dI b q with ⟨j,hj,y⟩ | y | y
  ·rcases (hR b h).1 with z | z
   ·exact hj (A.gd.dis j i b y z)
   ·exact A.dis b z ⟨j,y⟩
  ·exact hRG b h y
  ·exact (hR b h).2 y
 ·rcases h with h | h
  ·rcases dI b h with ⟨j,_,q⟩ | q | q
   ·exact .inl (.inl ⟨j,q⟩)
   ·exact .inl ((hg b q).1.imp (fun z=>⟨i,z⟩) id)
   ·exact .inl (.inl (q ▸ hta))
  ·exact .inl ((hR b h).1.imp (fun z=>⟨i,z⟩) id)
theorem change {i:Nat}{a:Addr}{ts':List T}{xs':List V}{m':Md}(hm:m'≠.s)(A:At K ⟨sf,pv⟩ σ Z H Fs η G){w0:W}(hi:rd η i=some w0)(ha:Fs i a)(hx:∀ j,sf i=some j->σ[j]?=some (some (.ref a)))(hl:xs'.length<=LIM)(hpv:∀ u,pv i=some u->V.ref a=u)
  (hg:∀ b,G' b->(Fs i b\/G b)/\b≠a) (p:RepL K (fun b=>Z b\/((Fs i b\/G b)/\b≠a/\¬ G' b)) H m'.kid ts' xs' G') {Q:Hp->Prop}
  (k:∀ Z' Fs',At K ⟨sf,pv⟩ σ Z' (upd H a (.lst xs')) Fs' (M.put η i (m',.lst ts')) no->Step Z H (fun b=>tot Fs b\/G b) Z' (upd H a (.lst xs')) (tot Fs')->Q (upd H a (.lst xs'))):Q (upd H a (.lst xs')) :=
 vH (R:=no) hm A hi ha hx hl hpv hg (fun _ z=>z.elim) (fun _ z=>z.elim) (p.zmono fun b h=>h.imp id fun q=>⟨q.1,q.2.1,q.2.2,fun z=>z⟩) fun Z' Fs' B s _=>k Z' Fs' B (s.mono (fun _ z=>z) fun _ z=>.inl z)
end
end MR
namespace MR
open L2 L3 M
open PySem (Addr Str sizeLine)
section
variable {K:a0a}{Wx:L2.St->VK}{sl:Cf}{sf sg:Nat->Option Nat}{C:Call}{σ σ2:L2.St}{Z Z' Z1:Fp}{H H' H1:Hp}{Fs Fs' Fs1:Fps}{η η' η1 ηb:Env}{G G' G1 R F F':Fp}{tg is vs ls io:List Nat}{pv val:Nat->Option V}{D:bL}
theorem j4 {o:Option W}{u:Unit}(h:eg o=.ok u):∃ m ts,o=some (m,.lst ts):=by
 cases o with
 | none=>cases h
 | some w =>
  obtain ⟨m,t⟩:=w
  cases t with
  | lst ts=>exact ⟨m,ts,rfl⟩
  | _=>cases h
theorem At.listAt {i j:Nat}{m:Md}{ts:List T}(hs:sf i=some j)(A:At K ⟨sf,pv⟩ σ Z H Fs η G)(h:rd η i=some (m,.lst ts)):∃ a xs,σ[j]?=some (some (.ref a))/\H a=some (.lst xs):=by
 obtain ⟨v,r,hl,_⟩:=A.env i m _ h
 obtain ⟨a,xs,rfl,hx,_⟩:=bh r
 exact ⟨a,xs,hl j hs,hx⟩
theorem At.ourList {i j:Nat}{a:Addr}{m:Md}{ts:List T}(hs:sf i=some j)(hm:m≠.s)(hj:σ[j]?=some (some (.ref a)))(A:At K ⟨sf,pv⟩ σ Z H Fs η G)(h:rd η i=some (m,.lst ts)) :
  ∃ xs,xs.length<=LIM/\Fs i a/\H a=some (.lst xs)/\RepL K Z H m.kid ts xs (fun b=>Fs i b/\b≠a)/\(∀ u,pv i=some u->V.ref a=u):=by
 obtain ⟨v,r,hl,hp⟩:=A.env i m _ h
 have e:=hl j hs
 rw [hj] at e
 cases e
 obtain ⟨b,xs,e,l,g,hx,p⟩:=l6 hm r
 cases e
 exact ⟨xs,l,g,hx,p,hp⟩
theorem oY {u w r:W}(h:gN u w=some r):∃ m ts,u=(m,.lst ts)/\m≠.s/\ts.length < LIM/\r=((m.kid.meet (lf w.1 w.2)).up,.lst (ts++[w.2])):=by
 obtain ⟨m,t⟩:=u
 obtain ⟨n,t'⟩:=w
 cases m with
 | s=>cases h
 | d =>
  cases t with
  | lst ts =>
   have h':(if ts.length < LIM then some ((((Md.d.kid.meet (lf n t')).up,.lst (ts++[t'])):W)) else none)=some r:=h
   split at h'
   ·rename_i hl; cases h'; exact ⟨.d,ts,rfl,by simp,hl,rfl⟩
   ·cases h'
  | _=>cases h
 | o m =>
  cases t with
  | lst ts =>
   have h':(if ts.length < LIM then some (((((Md.o m).kid.meet (lf n t')).up,.lst (ts++[t'])):W)) else none)=some r:=h
   split at h'
   ·rename_i hl; cases h'; exact ⟨.o m,ts,rfl,by simp,hl,rfl⟩
   ·cases h'
  | _=>cases h
theorem qj {u w r:W}(h:gL u w=some r):∃ m ts n us,u=(m,.lst ts)/\w=(n,.lst us)/\m≠.s/\ts.length+us.length<=LIM/\r=((m.kid.meet n.kid).up,.lst (ts++us)):=by
 obtain ⟨m,t⟩:=u
 obtain ⟨n,t'⟩:=w
 cases m with
 | s=>cases h
 | d =>
  cases t with
  | lst ts =>
   cases t' with
   | lst us =>
    have h':(if ts.length+us.length<=LIM then some ((((Md.d.kid.meet n.kid).up,.lst (ts++us)):W)) else none)=some r:=h
    split at h'
    ·rename_i hl; cases h'; exact ⟨.d,ts,n,us,rfl,rfl,by simp,hl,rfl⟩
    ·cases h'
   | _=>cases h
  | _=>cases h
 | o m =>
  cases t with
  | lst ts =>
   cases t' with
   | lst us =>
    have h':(if ts.length+us.length<=LIM then some (((((Md.o m).kid.meet n.kid).up,.lst (ts++us)):W)) else none)=some r:=h
    split at h'
    ·rename_i hl; cases h'; exact ⟨.o m,ts,n,us,rfl,rfl,by simp,hl,rfl⟩
    ·cases h'
   | _=>cases h
  | _=>cases h
theorem qH {u k w r:W}(h:dI u k w=some r):∃ m ts n j q,u=(m,.lst ts)/\k=(n,.int j)/\m≠.s/\M.ixN ts.length j=some q/\r=((m.kid.meet (lf w.1 w.2)).up,.lst (ts.set q w.2)):=by
 obtain ⟨m,t⟩:=u
 obtain ⟨n,t'⟩:=k
 cases m with
 | s=>cases h
 | d =>
  cases t with
  | lst ts =>
   cases t' with
   | int j =>
    have h':(M.ixN ts.length j).map (fun k=>(((Md.d.kid.meet (lf w.1 w.2)).up,.lst (ts.set k w.2)):W))=some r:=h
    cases e:M.ixN ts.length j with
    | none=>rw [e] at h'; cases h'
    | some q=>rw [e] at h'; cases h'; exact ⟨.d,ts,n,j,q,rfl,rfl,by simp,e,rfl⟩
   | _=>cases h
  | _=>cases h
 | o m =>
  cases t with
  | lst ts =>
   cases t' with
   | int j =>
    have h':(M.ixN ts.length j).map (fun k=>((((Md.o m).kid.meet (lf w.1 w.2)).up,.lst (ts.set k w.2)):W))=some r:=h
    cases e:M.ixN ts.length j with
    | none=>rw [e] at h'; cases h'
    | some q=>rw [e] at h'; cases h'; exact ⟨.o m,ts,n,j,q,rfl,rfl,by simp,e,rfl⟩
   | _=>cases h
  | _=>cases h
theorem pT {a:Addr}{m:Md}{ts:List T}{xs:List V}{w:W}{y:V}{A0:Fp}(hA:∀ b,A0 b->b≠a)(hG:∀ b,G b->b≠a)(d:∀ b,A0 b->¬ G b)(p:RepL K Z H m ts xs A0)(r:Rep K Z H w.1 w.2 y G) :
  ∃ G',(∀ b,G' b->(A0 b\/G b)/\b≠a)/\RepL K (fun b=>Z b\/((A0 b\/G b)/\b≠a/\¬ G' b)) H (m.meet (lf w.1 w.2)) (ts++[w.2]) (xs++[y]) G':=by
 obtain ⟨G',g1,g2⟩:=ej (G:=fun b=>A0 b\/G b) (fun _ z=>.inl z) (fun _ z=>.inr z) d p (RepL.one r.lf)
 have ne:∀ b,(A0 b\/G b)->b≠a:=fun b h=>h.elim (hA b) (hG b)
 exact ⟨G',fun b h=>⟨g1 b h,ne b (g1 b h)⟩,g2.zmono fun b h=>h.imp id fun q=>⟨q.1,ne b q.1,q.2⟩⟩
theorem zF {x:X}{i j:Nat}{e:E}(hs:sf i=some j)(D:bL)(σ:L2.St)(H:Hp)(h:wS K Wx sf io C (.app x i e) D σ H) :
  ∃ a xs,σ[j]?=some (some (.ref a))/\H a=some (.lst xs)/\wE K sf C e σ H fun y H1=>∃ xs,H1 a=some (.lst xs)/\xs.length < sizeLine/\D.nx σ (upd H1 a (.lst (xs++[y]))):=by
 obtain ⟨pv,Z,Fs,η,N,A,f⟩:=h
 obtain ⟨u,h0,h1⟩:=aT (show Fin K Wx ⟨sf,pv⟩ Z H (tot Fs) D (Fl.of η (eg (rd η i)) (jw (evX C x e) η (qI i))) from f)
 obtain ⟨m0,t0,h00⟩:=j4 h0
 obtain ⟨a,xs0,hj,ha⟩:=A.listAt hs h00
 obtain ⟨⟨w,η1⟩,h2,h3⟩:=aT (show Fin K Wx ⟨sf,pv⟩ Z H (tot Fs) D (Fl.of η (evX C x e η) (qI i)) from h1)
 obtain ⟨η2,h4,h5⟩:=iE (show Fin K Wx ⟨sf,pv⟩ Z H (tot Fs) D (nxO η1 (((rd η1 i).bind fun u=>gN u w).map fun u=>M.put η1 i u)) from h3)
 refine ⟨a,xs0,hj,ha,jt (sl:=⟨sf,pv⟩) A h2 fun y Z' H' Fs' G B r s=>?_⟩
 cases e1:rd η1 i with
 | none=>rw [e1] at h4; cases h4
 | some u1 =>
  rw [e1] at h4
  cases e2:gN u1 w with
  | none=>rw [show (some u1).bind (fun u=>gN u w)=gN u1 w from rfl,e2] at h4; cases h4
  | some r1 =>
   rw [show (some u1).bind (fun u=>gN u w)=gN u1 w from rfl,e2] at h4
   cases h4
   obtain ⟨m,ts,rfl,hm,hlen,rfl⟩:=oY e2
   obtain ⟨xs,hl,hf,hx,p,hpv⟩:=B.ourList hs hm hj e1
   have e3:=p.length
   obtain ⟨G',g1,g2⟩:=pT (a:=a) (fun b h=>h.2) (fun b h z=>B.dis b h ⟨i,z ▸ hf⟩) (fun b h q=>B.dis b q ⟨i,h.1⟩) p r
   refine ⟨xs,hx,lr hl,?_⟩
   refine change (K:=K) (m':=(m.kid.meet (lf w.1 w.2)).up) (bq _) B e1 hf (fun k hk=>by rw [show sf i=some k from hk] at hs; cases hs; exact hj) (by rw [a0e,e3,a0H]; omega) hpv (fun b h=>⟨(g1 b h).1.imp a28 id,(g1 b h).2⟩) (ts':=ts++[w.2]) (by rw [cF]; exact g2.zmono fun b h=>h.imp id fun q=>⟨q.1.imp a28 id,q.2⟩) fun Z2 Fs2 B2 s2=>h5 σ Z2 _ Fs2 B2 (s.trans s2)
theorem yd {x:X}{i j:Nat}{e:E}(hs:sf i=some j)(D:bL)(σ:L2.St)(H:Hp)(h:wS K Wx sf io C (.ext x i e) D σ H) :
  ∃ a xs,σ[j]?=some (some (.ref a))/\H a=some (.lst xs)/\wE K sf C e σ H fun y H1=>∃ b xs zs,y=.ref b/\H1 a=some (.lst xs)/\H1 b=some (.lst zs)/\xs.length+zs.length<=sizeLine/\D.nx σ (upd H1 a (.lst (xs++zs))):=by
 obtain ⟨pv,Z,Fs,η,N,A,f⟩:=h
 obtain ⟨u,h0,h1⟩:=aT (show Fin K Wx ⟨sf,pv⟩ Z H (tot Fs) D (Fl.of η (eg (rd η i)) (jw (evX C x e) η (qd i))) from f)
 obtain ⟨m0,t0,h00⟩:=j4 h0
 obtain ⟨a,xs0,hj,ha⟩:=A.listAt hs h00
 obtain ⟨⟨w,η1⟩,h2,h3⟩:=aT (show Fin K Wx ⟨sf,pv⟩ Z H (tot Fs) D (Fl.of η (evX C x e η) (qd i)) from h1)
 obtain ⟨η2,h4,h5⟩:=iE (show Fin K Wx ⟨sf,pv⟩ Z H (tot Fs) D (nxO η1 (((rd η1 i).bind fun u=>gL u w).map fun u=>M.put η1 i u)) from h3)
 refine ⟨a,xs0,hj,ha,jt (sl:=⟨sf,pv⟩) A h2 fun y Z' H' Fs' G B r s=>?_⟩
 cases e1:rd η1 i with
 | none=>rw [e1] at h4; cases h4
 | some u1 =>
  rw [e1] at h4
  cases e2:gL u1 w with
  | none=>rw [show (some u1).bind (fun u=>gL u w)=gL u1 w from rfl,e2] at h4; cases h4
  | some r1 =>
   rw [show (some u1).bind (fun u=>gL u w)=gL u1 w from rfl,e2] at h4
   cases h4
   obtain ⟨m,ts,n,us,rfl,rfl,hm,hlen,rfl⟩:=qj e2
   obtain ⟨xs,hl,hf,hx,p,hpv⟩:=B.ourList hs hm hj e1
   obtain ⟨b,zs,rfl,hb,hl2,p2⟩:=bh r
   have e3:=p.length
   have e4:=p2.length
   have hG:∀ b,G b->b≠a:=fun b h z=>B.dis b h ⟨i,z ▸ hf⟩
   obtain ⟨G',g1,g2⟩:=ej (G:=fun b=>(Fs' i b/\b≠a)\/G b) (fun _ z=>.inl z) (fun _ z=>.inr z) (fun b h q=>B.dis b q ⟨i,h.1⟩) p p2
   have ne:∀ b,((Fs' i b/\b≠a)\/G b)->b≠a:=fun b h=>h.elim And.right (hG b)
   refine ⟨b,xs,zs,rfl,hx,hb,bD (by omega),?_⟩
   refine change (K:=K) (m':=(m.kid.meet n.kid).up) (bq _) B e1 hf (fun k hk=>by rw [show sf i=some k from hk] at hs; cases hs; exact hj) (by rw [a0e]; omega) hpv (fun b h=>⟨(g1 b h).imp a28 id,ne b (g1 b h)⟩) (ts':=ts++us) (by rw [cF]; exact g2.zmono fun b h=>h.imp id fun q=>⟨q.1.imp a28 id,ne b q.1,q.2⟩) fun Z2 Fs2 B2 s2=>h5 σ Z2 _ Fs2 B2 (s.trans s2)
theorem RepL.setAt:∀ {ts:List T} {xs:List V} {A0 G0 G:Fp} {q:Nat} {t:T} {y:V} {m:Md},(∀ b,A0 b->G b)->(∀ b,G0 b->G b)->(∀ b,A0 b->¬ G0 b)->RepL K Z H m ts xs A0->Rep K Z H m t y G0->RepL K Z H m (ts.set q t) (xs.set q y) G
 | [],xs,A0,G0,G,q,t,y,m,w1,w2,d,h,r=>by rw [show xs=[] from h]; exact rfl
 | u::ts,xs,A0,G0,G,0,t,y,m,w1,w2,d,⟨x,r',A,B,e,h1,h2,hd,p,q⟩,r=>by
  rw [e]
  exact ⟨y,r',G0,B,rfl,w2,fun a h=>w1 a (h2 a h),fun a h q=>d a (h2 a q) h,r,q⟩
 | u::ts,xs,A0,G0,G,n+1,t,y,m,w1,w2,d,⟨x,r',A,B,e,h1,h2,hd,p,q⟩,r=>by
  rw [e]
  refine ⟨x,r'.set n y,A,fun a=>B a\/G0 a,rfl,fun a h=>w1 a (h1 a h),fun a h=>h.elim (fun z=>w1 a (h2 a z)) (w2 a),fun a h q=>q.elim (hd a h) (d a (h1 a h)),p,?_⟩
  exact RepL.setAt (fun _ z=>.inl z) (fun _ z=>.inr z) (fun b h=>d b (h2 b h)) q r
theorem f7 (vs:List Nat)(η:Env):Nn η (M.share vs η):=fun i e=>by
 rw [gz]; split
 ·rw [e]; rfl
 ·exact e
theorem zR {x:X}{e:E}{w:W}(h:evX C x e η=.ok (w,η')):Nn η η':=by
 cases x with
 | q vs ls =>
  obtain ⟨⟨u,η2⟩,h1,h2⟩:=aa (show (evE C e (dG vs ls η)).bind (kX vs η)=_ from h)
  cases h2
  show Nn η (after (M.lf u.1 u.2) vs η)
  cases hm:M.lf u.1 u.2 with
  | d=>intro i e; exact e
  | s=>exact f7 vs η
  | o m=>exact f7 vs η
 | l vs=>exact (f7 vs η).trans (ax e h)
theorem vh {x:X}{i j:Nat}{k e:E}(hs:sf i=some j)(D:bL)(σ:L2.St)(H:Hp)(h:wS K Wx sf io C (.setI x i k e) D σ H) :
  wE K sf C e σ H fun y H1=>m6 j σ H1 fun o H1=>wE K sf C k σ H1 fun z H2=>∃ a xs n q,o=.ref a/\z=.int n/\H2 a=some (.lst xs)/\L2.ixN xs.length n=some q/\D.nx σ (upd H2 a (.lst (xs.set q y))):=by
 obtain ⟨pv,Z,Fs,η,N,A,f⟩:=h
 obtain ⟨⟨w,η1⟩,h2,h3⟩:=aT (show Fin K Wx ⟨sf,pv⟩ Z H (tot Fs) D (Fl.of η (evX C x e η) (uJ i (evX C x k) η)) from f)
 obtain ⟨⟨kw,η2⟩,h6,h7⟩:=aT (show Fin K Wx ⟨sf,pv⟩ Z H (tot Fs) D (Fl.of η (evX C x k η1) (rY i w)) from h3)
 obtain ⟨η3,h4,h5⟩:=iE (show Fin K Wx ⟨sf,pv⟩ Z H (tot Fs) D (nxO η2 (((rd η2 i).bind fun u=>dI u kw w).map fun u=>M.put η2 i u)) from h7)
 refine jt (sl:=⟨sf,pv⟩) A h2 fun y Z' H' Fs' G B r s=>?_
 cases e1:rd η2 i with
 | none=>rw [e1] at h4; cases h4
 | some u1 =>
  rw [e1] at h4
  cases e2:dI u1 kw w with
  | none=>rw [show (some u1).bind (fun u=>dI u kw w)=dI u1 kw w from rfl,e2] at h4; cases h4
  | some r1 =>
   rw [show (some u1).bind (fun u=>dI u kw w)=dI u1 kw w from rfl,e2] at h4
   cases h4
   obtain ⟨m,ts,n,jj,q,rfl,rfl,hm,hq,rfl⟩:=qH e2
   have n1:rd η1 i≠none:=fun z=>by rw [zR h6 i z] at e1; cases e1
   cases e3:rd η1 i with
   | none=>exact absurd e3 n1
   | some u3 =>
    obtain ⟨v3,r3,l3,p3⟩:=B.env i u3.1 u3.2 e3
    refine ⟨v3,l3 j hs,jt (sl:=⟨sf,pv⟩) B.bare h6 fun z Z2 H2 Fs2 G2 B2 rz s2=>?_⟩
    obtain ⟨B3,s3,d3⟩:=B.frame B2 s2
    have r':=r.frame B.gd.own s2 B.dis
    have B4:=B3.mono (G':=G) fun _ z=>.inl z
    obtain ⟨v4,r4,l4,p4⟩:=B4.env i m _ e1
    have hv:v3=v4:=by have e5:=l3 j hs; have e6:=l4 j hs; rw [e5] at e6; cases e6; rfl
    subst hv
    obtain ⟨a,xs,rfl,hl,hf,hx,p⟩:=l6 hm r4
    have e7:=p.length
    obtain ⟨A1,a1,a2⟩:=RepL.weak (cS m.kid (lf w.1 w.2)).1 p
    obtain ⟨A2,b1,b2⟩:=Rep.weak (cS m.kid (lf w.1 w.2)).2 r'.lf
    have dis:∀ b,(Fs2 i b/\b≠a)->¬ G b:=fun b h q=>B4.dis b q ⟨i,h.1⟩
    have hG:∀ b,G b->b≠a:=fun b h z=>B4.dis b h ⟨i,z ▸ hf⟩
    refine ⟨a,xs,jj,q,rfl,show z=_ from rz,hx,by rw [e7]; exact hq,?_⟩
    refine change (K:=K) (G':=fun b=>A1 b\/A2 b) (m':=(m.kid.meet (lf w.1 w.2)).up) (bq _) B4 e1 hf (fun k hk=>by rw [show sf i=some k from hk] at hs; cases hs; exact l3 _ hk) (by rw [a1H]; exact hl) p4 (fun b h=>h.elim (fun z=>⟨.inl (a1 b z).1,(a1 b z).2⟩) fun z=>⟨.inr (b1 b z),hG b (b1 b z)⟩) (ts':=ts.set q w.2) ?_ fun Z5 Fs5 B5 s5=>h5 σ Z5 _ Fs5 B5 ((s.trans (s3.mono (fun _ z=>z) fun b h=>h.imp id .inl)).trans s5)
    rw [cF]
    refine RepL.setAt (A0:=A1) (G0:=A2) (fun _ z=>.inl z) (fun _ z=>.inr z) (fun b h q=>dis b (a1 b h) (b1 b q)) (a2.zmono fun b h=>?_) (b2.zmono fun b h=>?_)
    ·exact h.imp id fun q=>⟨.inl q.1.1,q.1.2,fun z=>z.elim q.2 fun z=>dis b q.1 (b1 b z)⟩
    ·exact h.imp id fun q=>⟨.inr q.1,hG b q.1,fun z=>z.elim (fun z=>dis b (a1 b z) q.1) q.2⟩
end
end MR
namespace MR
open L2 L3 M
open PySem (Addr Str sizeLine)
section
variable {K:a0a}{Wx:L2.St->VK}{sl:Cf}{sf sg:Nat->Option Nat}{C:Call}{σ σ2:L2.St}{Z Z' Z1:Fp}{H H' H1:Hp}{Fs Fs' Fs1:Fps}{η η' η1 ηb:Env}{G G' G1 R F F':Fp}{tg is vs ls io:List Nat}{pv val:Nat->Option V}{D:bL}
noncomputable def gF (K:a0a):List Nat->TG
 | [j]=>dj j
 | [j,l]=>yq K 2 (ke (dj j) (ke (dj l) yE))
 | _=>fun _ _ _ _=>False
theorem rj {fl:Fl}{g:Env->Fl}(f:Fin K Wx sl Z H F D (Fl.turn fl g)):(∃ η',fl=.nx η'/\Fin K Wx sl Z H F D (g η'))\/(∃ η',fl=.bk η'/\Fin K Wx sl Z H F D (.nx η'))\/(∃ w η',fl=.rt w η'/\Fin K Wx sl Z H F D (.rt w η'))\/(∃ t η',fl=.ex t η'/\Fin K Wx sl Z H F D (.ex t η')):=by
 cases fl with
 | nx η=>exact .inl ⟨η,rfl,f⟩
 | bk η=>exact .inr (.inl ⟨η,rfl,f⟩)
 | rt w η=>exact .inr (.inr (.inl ⟨w,η,rfl,f⟩))
 | ex t η=>exact .inr (.inr (.inr ⟨t,η,rfl,f⟩))
 | no=>exact f.elim
theorem j5 {fl:Fl}{g:Env->Fl}{N:L2.St->Hp->Prop}(f:Fin K Wx sl Z H F D (Fl.turn fl g))(hN:∀ η' σ' Z' H' Fs',fl=.nx η'->Fin K Wx sl Z H F D (g η')->At K sl σ' Z' H' Fs' η' no->Step Z H F Z' H' (tot Fs')->N σ' H'):Fin K Wx sl Z H F { D with nx:=N,ct:=N,bk:=D.nx } fl:=by
 rcases rj f with ⟨η',rfl,f⟩ | ⟨η',rfl,f⟩ | ⟨w,η',rfl,f⟩ | ⟨t,η',rfl,f⟩
 ·exact fun σ' Z' H' Fs' A s=>hN η' σ' Z' H' Fs' rfl f A s
 ·exact f
 ·exact f
 ·exact f
theorem j6 {n i:Nat}{J:It}{ts:List (List W)}{ws:List W}{js:List Nat}{x:V}{Q:L2.St->Hp->Prop}(hn:tg.length=n)(nd:tg.Nodup)(N:mU sf io pv)(hio:∀ t∈tg,t ∉ io)(hjs:tg.map sf=js.map some)(hz:∀ a,Z1 a->Z a)(st:Stay Z1 H1 H)(yl:Yld K J Z1 H1 ts n)(A:At K ⟨sf,pv⟩ σ Z H Fs η no)
  (hw:ts[i]?=some ws) (hb:aL tg ws η=some ηb) (y:J.yld i H x H') (k:∀ σ2 H2 Fs2,At K ⟨sf,pv⟩ σ2 Z H2 Fs2 ηb no->Step Z H (tot Fs) Z H2 (tot Fs2)->Q σ2 H2):gF K js x σ H' Q:=by
 have hi:i < ts.length:=(a0s.mp hw).1
 match n,yl with
 | 1,yl =>
  obtain ⟨e0,w,hw',r⟩:=yl H i x H' st hi y
  rw [e0]
  rw [hw] at hw'; cases hw'
  match tg,hn,js,hjs with
  | [t],_,[j],hjs =>
   cases hb
   have hs:sf t=some j:=by simpa using hjs
   exact k _ H _ (At.set N (hio t (by simp)) hs A (r.zmono hz)) ((Step.refl _ _ _).mono (fun _ z=>z) fun a h=>(br h).elim id fun z=>z.elim)
  | [t],_,[],hjs=>simp at hjs
  | [t],_,_::_::_,hjs=>simp at hjs
 | 2,yl =>
  obtain ⟨p,y1,z1,u,w,rfl,sm,hq,hw',r1,r2⟩:=yl H i x H' st hi y
  rw [hw] at hw'; cases hw'
  match tg,hn,js,hjs with
  | [t,t'],_,[j,j'],hjs =>
   cases hb
   have hs:sf t=some j:=by simp at hjs; exact hjs.1
   have hs':sf t'=some j':=by simp at hjs; exact hjs.2
   have s0:Step Z H no Z H' no:=gh sm
   obtain ⟨A1,s1⟩:=A.op cB s0
   have sn:Stay Z H H':=jv sm
   have r1':Rep K Z H' u.1 u.2 y1 no:=(r1.zmono hz).keep sn (fun _ z=>z) fun _ _ z=>z.elim
   have r2':Rep K Z H' w.1 w.2 z1 no:=(r2.zmono hz).keep sn (fun _ z=>z) fun _ _ z=>z.elim
   have A2:=At.set N (hio t (by simp)) hs A1 r1'
   have A3:=At.set N (hio t' (by simp)) hs' A2 r2'
   refine ⟨p,[y1,z1],rfl,hq,rfl,y1,[z1],rfl,z1,[],rfl,rfl,k _ _ _ A3 (s1.mono (fun a h=>h.elim id fun z=>z.elim) fun a h=>?_)⟩
   rcases br h with h | h
   ·exact .inl ((br h).elim id fun z=>z.elim)
   ·exact h.elim
  | [t,t'],_,[],hjs=>simp at hjs
  | [t,t'],_,[_],hjs=>simp at hjs
  | [t,t'],_,_::_::_::_,hjs=>simp at hjs
theorem ze {n:Nat}{k:Ik}{src:List E}{js:List Nat}{body:List S}(hn:tg.length=n)(nd:tg.Nodup)(hio:∀ t∈tg,t ∉ io)(hjs:tg.map sf=js.map some)(D:bL)(σ:L2.St)(H:Hp)(h:wS K Wx sf io C (.forS vs ls k src tg body) D σ H) :
  yn (wI K sf C n k src) (gF K js) (wSs K Wx sf io C body) D σ H:=by
 obtain ⟨pv,Z,Fs,η,N,A,f⟩:=h
 obtain ⟨⟨ws,η2⟩,h1,h2⟩:=aT (show Fin K Wx ⟨sf,pv⟩ Z H (tot Fs) D (Fl.of η (evL C src (dG vs ls η)) (vo vs k tg (evSs C body) η)) from f)
 obtain ⟨⟨ts,η3⟩,h3,h4⟩:=aT (show Fin K Wx ⟨sf,pv⟩ Z H (tot Fs) D (Fl.of η (ret (M.share vs η) (aY k ws)) (j1 tg (evSs C body))) from h2)
 obtain ⟨ts',ht,e3⟩:=aw h3
 have e4:ts=ts':=congrArg a3V e3
 have e5:η3=M.share vs η:=congrArg a2h e3
 subst e4 e5
 have h4':Fin K Wx ⟨sf,pv⟩ Z H (tot Fs) D (cG tg (evSs C body) ts (M.share vs η)):=h4
 refine ⟨pv,_,pM,_,ws,η2,ts,A.quiet (vs:=vs) (ls:=ls),h1,ht,fun J Z1 H1 Fs1 B s wk yl=>?_⟩
 obtain ⟨B1,s1⟩:=dH (G:=no) A cB B.gd.zal (s.mono (F2:=fun a=>tot Fs1 a\/no a) (fun _ z=>z) fun a h=>h.elim id fun z=>z.elim) fun a h=>i0 h
 obtain ⟨B2,s2⟩:=B1.share (vs:=vs)
 have s3:=(s2 s1).mono (F2:=tot (eX Fs vs)) (fun _ z=>z) fun _ z=>.inl z
 have zz:∀ a,Z1 a->((Z1 a/\¬ cN Fs vs a)\/cN Fs vs a):=fun a h=>(a39 (cN Fs vs a)).elim .inr fun q=>.inl ⟨h,q⟩
 refine ⟨fun i m σ' H'=>m=ts.length-i/\i<=ts.length/\∃ Zi Fsi ηi,At K ⟨sf,pv⟩ σ' Zi H' Fsi ηi no/\Step (fun a=>(Z1 a/\¬ cN Fs vs a)\/cN Fs vs a) H1 (tot (eX Fs vs)) Zi H' (tot Fsi)/\Fin K Wx ⟨sf,pv⟩ Zi H' (tot Fsi) D (cG tg (evSs C body) (ts.drop i) ηi),⟨ts.length,by simp,a0O _,_,_,_,B2,Step.refl _ _ _,h4'.step s3⟩,?_⟩
 rintro i m σi H0 ⟨rfl,hi,Zi,Fsi,ηi,Ai,si,fi⟩
 have st:Stay Z1 H1 H0:=by
  have:=B2.gd.own.stay si
  exact ⟨fun a o h=>this.1 a o (zz a h),this.2⟩
 by_cases hlt:i < ts.length
 ·right
  refine ⟨wk.go H0 i st hlt,_,fun σ' H' hw=>⟨ts.length-(i+1),by omega,hw⟩,fun x H' y=>?_⟩
  have hw:ts[i]?=some ts[i]:=by simp [hlt]
  rw [eO hw] at fi
  obtain ⟨ηb,hb,fb⟩:=aT (show Fin K Wx ⟨sf,pv⟩ Zi H0 (tot Fsi) D (Fl.of ηi (ofO (aL tg ts[i] ηi)) fun η1=>Fl.turn (evSs C body η1) (cG tg (evSs C body) (ts.drop (i+1)))) from fi)
  refine j6 hn nd N hio hjs (fun a h=>si.zm a (zz a h)) st yl Ai hw (bS hb) y fun σ2 H2 Fs2 A2 t2=>?_
  refine ⟨pv,Zi,Fs2,ηb,N,A2,j5 (fb.step t2) fun η' σ' Z' H' Fs' _ f' A' s'=>⟨rfl,hlt,Z',Fs',η',A',(si.trans t2).trans s',f'.step s'⟩⟩
 ·left
  have hi':i=ts.length:=by omega
  subst hi'
  rw [a2S] at fi
  exact ⟨wk.stop H0 _ st (a0d _),fi σi Zi H0 Fsi Ai (Step.refl _ _ _)⟩
end
end MR

namespace MR
open PySem PySem.Spec PyProof.Rows L2 L3
section
variable {X:Cx}{sf sg:Nat->Option Nat}{C:M.Call}{pos p2:Pos}{ea eb ec:Expr}{a b c:M.E}{h:Bool}{n:Nat}
theorem aD {e:Expr}{t t':TE}(h:PE X e t)(hw:∀ σ H Q,t' σ H Q->t σ H Q):PE X e t':=fun pins s σ H Q I q=>h pins s σ H Q I (hw σ H Q q)
theorem mB {e:Expr}{t t':TT}(h:PT X e t)(hw:∀ σ H Q,t' σ H Q->t σ H Q):PT X e t':=fun pins s σ H Q I q=>h pins s σ H Q I (hw σ H Q q)
theorem wX {e:Expr}{t t':TT}(h:PW X e t)(hw:∀ σ H Q,t' σ H Q->t σ H Q):PW X e t':=fun whole pins s σ H Q I q=>h whole pins s σ H Q I (hw σ H Q q)
theorem ka {es:List Expr}{t t':TA}(h:PA X es t)(hw:∀ σ H Q,t' σ H Q->t σ H Q):PA X es t':=fun pos pins s σ H Q I q=>h pos pins s σ H Q I (hw σ H Q q)
theorem bW {s:Stmt}{t t':TS}(h:PS X s t)(hw:∀ D σ H,t' D σ H->t D σ H):PS X s t':=fun pins s σ H D I q=>h pins s σ H D I (hw D σ H q)
theorem lz {s:List Stmt}{t t':TS}(h:PSs X s t)(hw:∀ D σ H,t' D σ H->t D σ H):PSs X s t':=fun pins s σ H D I q=>h pins s σ H D I (hw D σ H q)
theorem qk {tg e:Expr}{t t':TI}(h:PI X tg e t)(hw:∀ σ H R,t' σ H R->t σ H R):PI X tg e t':=fun pins s σ H R I q=>h pins s σ H R I (hw σ H R q)
theorem Bz {tg e:Expr}{t t':TI}(h:PI X tg e t)(h':PI X tg e t'):PI X tg e (fun σ H R=>t σ H R\/t' σ H R):=fun pins s σ H R I q=>q.elim (h pins s σ H R I) (h' pins s σ H R I)
noncomputable abbrev SE (X:Cx)(sf:Nat->Option Nat)(C:M.Call)(me:Expr)(e:M.E):Prop:=PE X me (wE X.K sf C e)
noncomputable abbrev SB (X:Cx)(sf:Nat->Option Nat)(C:M.Call)(me:Expr)(e:M.E):Prop:=PT X me (wT X.K sf C e)
noncomputable abbrev SL (X:Cx)(sf:Nat->Option Nat)(C:M.Call)(me:List Expr)(es:List M.E):Prop:=PA X me (wL X.K sf C es)
noncomputable abbrev SA (X:Cx)(sf:Nat->Option Nat)(C:M.Call)(me:List Expr)(es:List M.E):Prop:=PA X me (wA X.K sf C es)
noncomputable abbrev SS (X:Cx)(sf:Nat->Option Nat)(io:List Nat)(C:M.Call)(ms:Stmt)(s:M.S):Prop:=PS X ms (wS X.K (xw X) sf io C s)
noncomputable abbrev SSs (X:Cx)(sf:Nat->Option Nat)(io:List Nat)(C:M.Call)(ms:List Stmt)(s:List M.S):Prop:=PSs X ms (wSs X.K (xw X) sf io C s)
theorem sV (j:Nat){i:Nat}{x:Str}(hs:sf i=some j:=by rfl)(hN:X.N[j]?=some x:=by rfl)(hv:Vis X.env.scope x:=by first | exact a0F rfl | exact a0B (a0F rfl) | exact a0B (a0B rfl))(hd:(x==("__debug__":Str))=false:=by decide)
  (hcd:(x==("__classdict__":Str))=false:=by decide):SE X sf C (.Name x pos) (.var i):=aD (bZ hN hv hd hcd) (xF hs)
theorem sM (j:Nat){i:Nat}{x:Str}(hs:sf i=some j:=by rfl)(hN:X.N[j]?=some x:=by rfl)(hv:Vis X.env.scope x:=by first | exact a0F rfl | exact a0B (a0F rfl) | exact a0B (a0B rfl))(hd:(x==("__debug__":Str))=false:=by decide)
  (hcd:(x==("__classdict__":Str))=false:=by decide):SE X sf C (.Name x pos) (.mv i):=aD (bZ hN hv hd hcd) (AW (fun _=>rfl) hs)
theorem sI {i:Int}{k:Nat}:SE X sf C (.Constant (.int i) k pos) (.cst (.int i)):=aD kH (i9 fun {_ _}=>rfl)
theorem sO {i:Bool}{k:Nat}:SE X sf C (.Constant (.bool i) k pos) (.cst (.bl i)):=aD C2 (i9 fun {_ _}=>rfl)
theorem sN {k:Nat}:SE X sf C (.Constant .none k pos) (.cst .non):=aD yH (i9 fun {_ _}=>rfl)
theorem uz (s:String)(hl:s.length<=1000):M.sOk (Str.ofString s)=true:=by
 unfold M.sOk
 rw [Str.ofString_eq_toList,a0p]
 refine ⟨?_,decide_eq_true ?_⟩
 ·rw [a2v]
  intro x hx
  rw [List.mem_toArray,a08] at hx
  obtain ⟨c,_,rfl⟩:=hx
  refine decide_eq_true ?_
  have:=c.valid
  have h2:c.toNat < 0x110000:=by
   have h3:=c.valid
   unfold UInt32.isValidChar Nat.isValidChar at h3
   show c.val.toNat < _
   omega
  exact h2
 ·rw [a0l,a0b,String.length_toList]
  exact a0o hl (by decide)
theorem sS {s:String}{k:Nat}(hl:s.length<=1000:=by decide):SE X sf C (.Constant (.str (Str.ofString s)) k pos) (.cst (.str (Str.ofString s))):=aD xu (i9 fun {_ _}=>⟨rfl,uz s hl⟩)
theorem sl0:SL X sf C [] []:=ka aM xZ
theorem slc {es:List Expr}{bs:List M.E}(ha:SE X sf C ea a)(hb:SL X sf C es bs)(hs:starEach (ea::es) X.env=(false,eval ea X.env)::starEach es X.env:=by rfl):SL X sf C (ea::es) (a::bs):=ka (aq ha hb hs) sQ
theorem sT {es:List Expr}{bs:List M.E}{x1:Nat}(h:SL X sf C es bs)(hn:bs.length<=M.LIM:=by decide):SE X sf C (.Tuple es x1 pos) (.tup bs):=aD (lA h) (Aw hn)
theorem sLs {es:List Expr}{bs:List M.E}(hh:SL X sf C es bs)(hn:bs.length<=M.LIM:=by decide):SE X sf C (.List es pos) (.lst h bs):=aD (oH hh) (yT hn)
theorem cT (ha:SE X sf C ea a)(hb:SE X sf C eb b):SE X sf C (.BinOp ea .Add eb pos) (.op .add h [a,b]) :=
 aD (ff (op_add.or (op_add_str.or (op_cat.or vA))) ha hb) (bg (uE (wO X.K) fun {Z H G Q a b xs ys ts} h1 h2 h3 h4 ow r k=>by
  obtain ⟨G',g1,g2⟩:=r
  refine ⟨a,b,xs,ys,rfl,rfl,h1,h2,h3,bD h4,fun v H' same hv=>jQ (m:=.s) ow g1 ?_ g2 k same hv⟩
  rw [a0e]; exact h4))
theorem eF (ha:SE X sf C ea a)(hb:SE X sf C eb b):SE X sf C (.BinOp ea .Sub eb pos) (.op .sub h [a,b]):=aD (ff Aa ha hb) (bg tq)
theorem gw (ha:SE X sf C ea a)(hb:SE X sf C eb b):SE X sf C (.BinOp ea .Mult eb pos) (.op .mul h [a,b]):=aD (ff (op_mul.or zH) ha hb) (bg sZ)
theorem BX (ha:SE X sf C ea a)(hb:SE X sf C eb b):SE X sf C (.BinOp ea .FloorDiv eb pos) (.op .fdiv h [a,b]):=aD (ff uu ha hb) (bg pF)
theorem fX (ha:SE X sf C ea a)(hb:SE X sf C eb b):SE X sf C (.BinOp ea .Mod eb pos) (.op .mod h [a,b]):=aD (ff AE ha hb) (bg vk)
theorem iW (ha:SE X sf C ea a)(hb:SE X sf C eb b):SE X sf C (.BinOp ea .Pow eb pos) (.op .pow h [a,b]):=aD (ff zw ha hb) (bg vK)
theorem sIx (ha:SE X sf C ea a)(hb:SE X sf C eb b)(hs:jc eb:=by intro _ _; rfl):SE X sf C (.Subscript ea eb pos) (.op .ix h [a,b]):=aD (BZ (ix_any.or Ak) ha hb hs) (bg yI)
mutual
noncomputable def th:M.T->Th
 | .non=>.non | .bl b=>.bl b | .int i=>.int i | .str x=>.str x | .tup ts=>.tup (ths ts) | .lst ts=>.lst (ths ts) | .dct _ _=>.non | .ins _ _ _=>.non | .scr _=>.non | .gone=>.non
noncomputable def ths:List M.T->List Th
 | []=>[]
 | t::ts=>th t::ths ts
end
mutual
theorem lO {K:a0a}{Z:Fp}{H:Hp}:∀ {t:M.T} {m:M.Md} {v:V} {G:Fp} {n:Nat},M.dp t<=n->n<=64->Rep K Z H m t v G->Has K H (th t) v/\(toD (th t)).canLay0=true/\(toD (th t)).depth<=n
 | .non,_,_,_,_,_,_,r=>⟨r,rfl,a0O _⟩
 | .bl _,_,_,_,_,_,_,r=>⟨r,rfl,a0O _⟩
 | .int _,_,_,_,_,_,_,r=>⟨r,rfl,a0O _⟩
 | .str x,_,_,_,_,_,_,r=>⟨r.1,by have h:=r.2; unfold M.sOk at h; rw [a0p] at h; exact h.1,a0O _⟩
 | .tup ts,m,v,G,n,hd,hn,⟨a,xs,e,q,l,r⟩=>by
  have hd':M.dps ts+1<=n:=hd
  match n,hd' with
  | n+1,hd' =>
   obtain ⟨h1,h2,h3⟩:=fJ (n:=n) (by omega) (by omega) r
   exact ⟨⟨a,xs,e,q,h1⟩,h2,a1S h3⟩
 | .lst ts,m,v,G,n,hd,hn,⟨a,xs,e,l,q,r⟩=>by
  have hd':M.dps ts+1<=n:=hd
  match n,hd' with
  | n+1,hd' =>
   obtain ⟨h1,h2,h3⟩:=fJ (n:=n) (by omega) (by omega) r
   exact ⟨⟨a,xs,e,by cases m<;>exact q.2,h1⟩,h2,a1S h3⟩
 | .dct _ _,_,_,_,_,hd,hn,_=>by have:1000<=64:=a0o hd hn; omega
 | .ins _ _ _,_,_,_,_,hd,hn,_=>by have:1000<=64:=a0o hd hn; omega
 | .gone,_,_,_,_,hd,hn,_=>by have:1000<=64:=a0o hd hn; omega
 | .scr _,_,_,_,_,hd,hn,_=>by have:1000<=64:=a0o hd hn; omega
theorem fJ {K:a0a}{Z:Fp}{H:Hp}:∀ {ts:List M.T} {m:M.Md} {xs:List V} {G:Fp} {n:Nat},M.dps ts<=n->n<=64->RepL K Z H m ts xs G->HasL K H (ths ts) xs/\PyData.canLayAll0 (fv (ths ts))=true/\PyData.depthAll (fv (ths ts))<=n
 | [],_,_,_,_,_,_,r=>⟨r,rfl,a0O _⟩
 | t::ts,m,xs,G,n,hd,hn,⟨x,r,G1,G2,e,_,_,_,p,q⟩=>by
  have hd':max (M.dp t) (M.dps ts)<=n:=hd
  obtain ⟨h1,h2,h3⟩:=lO (n:=n) (by omega) hn p
  obtain ⟨k1,k2,k3⟩:=fJ (n:=n) (by omega) hn q
  refine ⟨⟨x,r,e,h1,k1⟩,?_,?_⟩
  ·show ((toD (th t)).canLay0&&PyData.canLayAll0 (fv (ths ts)))=true
   rw [h2,k2]; rfl
  ·show max (toD (th t)).depth (PyData.depthAll (fv (ths ts)))<=n
   omega
end
mutual
theorem kJ:∀ (t u:M.T),M.dp t<=64->M.dp u<=64->PyData.eqv (toD (th t)) (toD (th u))=M.eqT t u
 | .dct _ _,_,h,_=>by have:1000<=64:=h; omega
 | .ins _ _ _,_,h,_=>by have:1000<=64:=h; omega
 | .gone,_,h,_=>by have:1000<=64:=h; omega
 | .scr _,_,h,_=>by have:1000<=64:=h; omega
 | .non,u,_,h=>by cases u<;>first | rfl | (have:1000<=64:=h; omega)
 | .bl a,u,_,h=>by cases u<;>first | rfl | (cases a<;>rfl) | (have:1000<=64:=h; omega)
 | .int i,u,_,h=>by
  cases u with
  | bl b=>cases b<;>rfl
  | _=>first | rfl | (have:1000<=64:=h; omega)
 | .str x,u,_,h=>by cases u<;>first | rfl | (have:1000<=64:=h; omega)
 | .tup ts,u,h1,h=>by
  cases u with
  | tup us=>exact iP ts us (by have:M.dps ts+1<=64:=h1; omega) (by have:M.dps us+1<=64:=h; omega)
  | _=>first | rfl | (have:1000<=64:=h; omega)
 | .lst ts,u,h1,h=>by
  cases u with
  | lst us=>exact iP ts us (by have:M.dps ts+1<=64:=h1; omega) (by have:M.dps us+1<=64:=h; omega)
  | _=>first | rfl | (have:1000<=64:=h; omega)
theorem iP:∀ (ts us:List M.T),M.dps ts<=64->M.dps us<=64->PyData.eqvAll (fv (ths ts)) (fv (ths us))=M.eqTs ts us
 | [],[],_,_=>rfl
 | [],_::_,_,_=>rfl
 | _::_,[],_,_=>rfl
 | t::ts,u::us,h1,h2=>by
  have h1':max (M.dp t) (M.dps ts)<=64:=h1
  have h2':max (M.dp u) (M.dps us)<=64:=h2
  show (PyData.eqv (toD (th t)) (toD (th u))&&PyData.eqvAll (fv (ths ts)) (fv (ths us)))=(M.eqT t u&&M.eqTs ts us)
  rw [kJ t u (by omega) (by omega),iP ts us (by omega) (by omega)]
end
theorem iN {K:a0a}{Z:Fp}{H:Hp}{t:M.T}{m:M.Md}{v:V}{G:Fp}(hd:M.dp t<=64)(r:Rep K Z H m t v G):Has K H (th t) v/\iV (th t):=by
 obtain ⟨h1,h2,h3⟩:=lO hd (a0d _) r
 refine ⟨h1,?_⟩
 show ((toD (th t)).canLay0&&decide ((toD (th t)).depth<=64))=true
 rw [h2,decide_eq_true h3]; rfl
theorem qC {K:a0a}:Loc K 2 .eq h fun xs H Q=>∀ x y,xs=[x,y]->∃ t t',Has K H t x/\Has K H t' y/\iV t/\iV t'/\Q (.bl (PyData.eqv (toD t) (toD t'))) H:=by
 intro ws w xs Z H G Q hn e r ow za k x y hx
 subst hx
 obtain ⟨⟨m,a⟩,⟨n,b⟩,rfl⟩:=gH r.length.symm
 obtain ⟨G1,G2,w1,w2,d,r1,r2⟩:=cM r
 have e':(if decide (M.dp a<=64)&&decide (M.dp b<=64) then some ((.d,.bl (M.eqT a b)):M.W) else none)=some w:=e
 split at e'
 ·rename_i hc
  rw [a0p,decide_eq_true_eq,decide_eq_true_eq] at hc
  cases e'
  obtain ⟨h1,o1⟩:=iN hc.1 r1
  obtain ⟨h2,o2⟩:=iN hc.2 r2
  refine ⟨th a,th b,h1,h2,o1,o2,?_⟩
  rw [kJ a b hc.1 hc.2]
  exact cA k
 ·cases e'
theorem xK {K:a0a}:Loc K 2 .ne h fun xs H Q=>∀ x y,xs=[x,y]->∃ t t',Has K H t x/\Has K H t' y/\iV t/\iV t'/\Q (.bl (!PyData.eqv (toD t) (toD t'))) H:=by
 intro ws w xs Z H G Q hn e r ow za k x y hx
 subst hx
 obtain ⟨⟨m,a⟩,⟨n,b⟩,rfl⟩:=gH r.length.symm
 obtain ⟨G1,G2,w1,w2,d,r1,r2⟩:=cM r
 have e':(if decide (M.dp a<=64)&&decide (M.dp b<=64) then some ((.d,.bl (!M.eqT a b)):M.W) else none)=some w:=e
 split at e'
 ·rename_i hc
  rw [a0p,decide_eq_true_eq,decide_eq_true_eq] at hc
  cases e'
  obtain ⟨h1,o1⟩:=iN hc.1 r1
  obtain ⟨h2,o2⟩:=iN hc.2 r2
  refine ⟨th a,th b,h1,h2,o1,o2,?_⟩
  rw [kJ a b hc.1 hc.2]
  exact cA k
 ·cases e'
theorem sEq (hr:Room n X.A)(ha:SE X sf C ea a)(hb:SE X sf C eb b):SE X sf C (.Compare ea [.Eq] [eb] pos) (.op .eq h [a,b]):=aD (sW (ma hr.units) ha hb (eV _)) (bg qC)
theorem ifN {α:Type}{b:Bool}{x:Option α}{y:α}(h:(if b=true then none else x)=some y):b=false/\x=some y:=by cases b<;>first | exact ⟨rfl,h⟩ | cases h
theorem lZ {K:a0a}{Z:Fp}{H:Hp}{G:Fp}{m:M.Md}{ts:List M.T}{xs:List V}(lo hi:Option Int)(r:RepL K Z H m ts xs G):RepL K Z H m (M.cut ts lo hi) (dk xs lo hi) G:=by
 have e:=r.length
 have hs:∀ n d o,HT.sIx n d o=M.sIx n d o:=fun n d o=>by cases o<;>rfl
 have hc:dk xs lo hi=(xs.drop (M.sIx ts.length 0 lo)).take (M.sIx ts.length ts.length hi-M.sIx ts.length 0 lo):=by
  unfold dk
  rw [hs,hs,e]
 rw [hc]
 exact (r.drop _).take _
theorem rP (ns:List Int)(lo hi:Option Int):dk (ns.map V.int) lo hi=(M.cut ns lo hi).map V.int:=by
 have hs:∀ n d o,HT.sIx n d o=M.sIx n d o:=fun n d o=>by cases o<;>rfl
 unfold dk M.cut
 rw [hs,hs,a0b,a3q,a3W]
theorem xm {α:Type}(xs:List α)(lo hi:Option Int):(M.cut xs lo hi).length<=xs.length:=by
 unfold M.cut
 rw [a02,a1e]; omega
theorem pY {K:a0a}{Z:Fp}{H:Hp}{G G1:Fp}{Q:VK}{m:M.Md}{a:M.T}{x:V}{w:M.W}{lo hi:Option Int}(hg:∀ b,G1 b->G b)(ow:Own Z H G)(za:∀ a,Z a->H a≠none)(r:Rep K Z H m a x G1)
  (e:(match a with | .lst ts=>M.newL h m.kid (M.cut ts lo hi) | .tup ts=>some ((.s,.tup (M.cut ts lo hi)):M.W) | .scr ns=>some (.d,.lst ((M.cut ns lo hi).map M.T.int)) | _=>none)=some w) (k:Out K Z H G w Q):vT K x lo hi H Q\/tO K x lo hi H Q:=by
 cases a with
 | lst ts =>
  obtain ⟨p,xs,rfl,hs,hl,q⟩:=bh r
  refine .inl ⟨p,xs,rfl,.inl (.inl hs),fun l hl'=>?_⟩
  exact dn ow za (a0o (cx xs lo hi) hl) ⟨G1,hg,(lZ lo hi q).zmono fun _ z=>.inl z⟩ e k hl'
 | tup ts =>
  obtain ⟨p,xs,rfl,hs,hl,q⟩:=dh r
  cases e
  refine .inr ⟨p,xs,rfl,hs,fun v H' same hv=>?_⟩
  exact jQ (m:=.s) (G':=no) ow (fun _ z=>z.elim) (a0o (cx xs lo hi) hl) ((RepL.sh (lZ lo hi q)).zmono fun b hb=>hb.imp id fun z=>⟨hg b z,fun q=>q⟩) k same hv
 | scr ns =>
  obtain ⟨p,rfl,hL,hs⟩:=r
  cases e
  refine .inl ⟨p,_,rfl,hs.sq,fun l hl'=>?_⟩
  rw [rP]
  exact bJ (m:=.d) (G':=no) ow za (fun _ z=>z.elim) (by rw [a0b]; exact a0o (xm ns lo hi) hL) (fL _) (by simp) k hl'
 | _=>cases e
theorem C1 {p3:Pos}(ha:SE X sf C ea a)(hb:SE X sf C eb b):SE X sf C (.Subscript ea (.Slice none (some eb) none p3) pos) (.op .sl2 h [a,b]) :=
 aD (fG (sl_list.or mi) ha lP (fA hb)) (fun σ H Q hw=>bg (r:=fun x y H Q=>∃ i,y=.int i/\(vT X.K x none (some i) H Q\/tO X.K x none (some i) H Q)) (by
  intro ws w xs Z H G Q hn e r ow za k x y hx
  subst hx
  obtain ⟨⟨m,a⟩,⟨n,b⟩,rfl⟩:=gH r.length.symm
  obtain ⟨G1,G2,w1,w2,d,r1,r2⟩:=cM r
  cases b with
  | int i=>exact ⟨i,r2,pY (h:=h) (lo:=none) (hi:=some i) w1 ow za r1 (by cases a<;>exact e) k⟩
  | _=>cases a<;>cases e) σ H Q hw)
theorem DP {p3:Pos}(ha:SE X sf C ea a)(hb:SE X sf C eb b):SE X sf C (.Subscript ea (.Slice (some eb) none none p3) pos) (.op .sl1 h [a,b]) :=
 aD (fG (sl_list.or mi) ha (fA hb) lP) (fun σ H Q hw=>bg (r:=fun x y H Q=>∃ i,y=.int i/\(vT X.K x (some i) none H Q\/tO X.K x (some i) none H Q)) (by
  intro ws w xs Z H G Q hn e r ow za k x y hx
  subst hx
  obtain ⟨⟨m,a⟩,⟨n,b⟩,rfl⟩:=gH r.length.symm
  obtain ⟨G1,G2,w1,w2,d,r1,r2⟩:=cM r
  cases b with
  | int i=>exact ⟨i,r2,pY (h:=h) (lo:=some i) (hi:=none) w1 ow za r1 (by cases a<;>exact e) k⟩
  | _=>cases a<;>cases e) σ H Q hw)
theorem qJ {K:a0a}:Loc K 1 .len h fun xs H Q=>∃ x n,xs=[x]/\Dh K x H n/\Q (.int n) H:=by
 intro ws w xs Z H G Q hn e r ow za k
 obtain ⟨x,n,hx,hm,q⟩:=sr (h:=h) ws w xs Z H G Q hn e r ow za k
 exact ⟨x,n,hx,by cases x<;>exact hm,q⟩
section
variable {p:Pos}{x1:Str}
theorem dN (hm:X.mg "len"=none)(hg:Gl X "len":=by rfl)(ha:SE X sf C ea a)(hs:starEach [ea] X.env=(false,eval ea X.env)::starEach [] X.env:=by rfl)(hpl:(backTo pos (starEach [] X.env)).any (·.1)=false:=by rfl):SE X sf C (.Call (.Name "len" p) [ea] [] pos) (.op .len h [a]) :=
 aD (bu oA hg hm PySem.boot_len (slc ha sl0 hs) (by decide) (by decide) hs hpl) (gQ qJ rfl)
theorem D2 (hc:X.calm=true:=by rfl)(hm:X.mg "sum"=none)(hg:Gl X "sum":=by rfl)(ha:SE X sf C ea a)(hs:starEach [ea] X.env=(false,eval ea X.env)::starEach [] X.env:=by rfl)(hpl:(backTo pos (starEach [] X.env)).any (·.1)=false:=by rfl):SE X sf C (.Call (.Name "sum" p) [ea] [] pos) (.op .sum h [a]) :=
 aD (bu (nN hc) hg hm (by rfl) (slc ha sl0 hs) (by decide) (by decide) hs hpl) (gQ sv rfl)
theorem D1 (hc:X.calm=true:=by rfl)(hm:X.mg "all"=none)(hg:Gl X "all":=by rfl)(ha:SE X sf C ea a)(hs:starEach [ea] X.env=(false,eval ea X.env)::starEach [] X.env:=by rfl)(hpl:(backTo pos (starEach [] X.env)).any (·.1)=false:=by rfl):SE X sf C (.Call (.Name "all" p) [ea] [] pos) (.op .all h [a]) :=
 aD (bu (nI hc) hg hm (by rfl) (slc ha sl0 hs) (by decide) (by decide) hs hpl) (gQ sA rfl)
theorem fU (hm:X.mg "list"=none)(hg:Gl X "list":=by rfl)(ha:SE X sf C ea a)(hs:starEach [ea] X.env=(false,eval ea X.env)::starEach [] X.env:=by rfl)(hpl:(backTo pos (starEach [] X.env)).any (·.1)=false:=by rfl):SE X sf C (.Call (.Name "list" p) [ea] [] pos) (.op .list h [a]) :=
 aD (bV ee hg hm a0J (slc ha sl0 hs) (by decide) (by decide) hs hpl) (gQ rQ rfl)
theorem Eh (hc:X.calm=true:=by rfl)(hm:X.mg "max"=none)(hg:Gl X "max":=by rfl)(ha:SE X sf C ea a)(hb:SE X sf C eb b)(hs:starEach [ea,eb] X.env=(false,eval ea X.env)::starEach [eb] X.env:=by rfl)(hs2:starEach [eb] X.env=(false,eval eb X.env)::starEach [] X.env:=by rfl)(hpl:(backTo pos (starEach [eb] X.env)).any (·.1)=false:=by rfl):SE X sf C (.Call (.Name "max" p) [ea,eb] [] pos) (.op .max h [a,b]) :=
 aD (bu (nW hc) hg hm (by rfl) (slc ha (slc hb sl0 hs2) hs) (by decide) (by decide) hs hpl) (gQ uC rfl)
end
theorem iI {K:a0a}{x:V}{H:Hp}{k:Bool}(h:TrV K x H k):rh K x H k:=by
 cases x with
 | ref p=>exact h.imp id .inl
 | byt _=>exact h.elim
 | _=>exact h
theorem tB (ha:SE X sf C ea a)(he:∀ whole,isTrue ea X.env whole=(do let v <- whole; standAt ea.pos; holding [v] (truthy v)):=by intro _; rfl):SB X sf C ea a :=
 mB (ql ha he) fun σ H Q h=>by
  obtain ⟨pv,Z,Fs,η,w,η',b,A,ev,ht,k⟩:=h
  exact ⟨pv,Z,Fs,η,w,η',A,ev,fun v Z' H' Fs' G B r s=>⟨b,iI (eM ht r),k Z' H' Fs' B.bare (s.mono (fun _ z=>z) fun _ z=>.inl z)⟩⟩
theorem de (ha:SB X sf C ea a):SB X sf C (.UnaryOp .Not ea pos) (.not a):=mB (Az ha) y8
theorem w9 {σ:L2.St}{H:Hp}{Q:Bool->Hp->Prop}(hb:∀ η w η',M.evE C a η=.ok (w,η')->∃ b,w.2=.bl b)(h:wT X.K sf C a σ H Q):oV (wE X.K sf C a) σ H Q:=by
 obtain ⟨pv,Z,Fs,η,w,η',b,A,ev,ht,k⟩:=h
 refine ⟨pv,Z,Fs,η,w,η',A,ev,fun v Z' H' Fs' G B r s=>⟨b,?_,k Z' H' Fs' B.bare (s.mono (fun _ z=>z) fun _ z=>.inl z)⟩⟩
 obtain ⟨b',hb'⟩:=hb _ _ _ ev
 rw [hb'] at ht r
 cases ht
 exact r
theorem Cr {o:M.Op}(ho:∀ u v w,M.oSem o h [u,v]=some w->∃ b,w.2=.bl b):∀ η w η',M.evE C (.op o h [a,b]) η=.ok (w,η')->∃ b,w.2=.bl b:=fun η w η' e=>by
 obtain ⟨ws,h1,h2⟩:=cy e
 obtain ⟨u,η1,us,_,e2,rfl⟩:=aB h1
 obtain ⟨v,η2,us,_,e4,rfl⟩:=aB e2
 cases e4
 exact ho u v w h2
theorem ei {op:CmpOp}{r:R2}{o:M.Op}(ho:OpR X (compareOp op) r)(ha:SE X sf C ea a)(hb:SE X sf C eb b)(hm:behindInMarks op eb=false)(hl:∀ σ H Q,wE X.K sf C (.op o h [a,b]) σ H Q->tOp r (wE X.K sf C a) (wE X.K sf C b) σ H Q)
  (hbl:∀ u v w,M.oSem o h [u,v]=some w->∃ b,w.2=.bl b):SB X sf C (.Compare ea [op] [eb] pos) (.op o h [a,b]) :=
 mB (ur ho ha hb hm) fun σ H Q hw=>hl σ H _ (w9 (Cr hbl) hw)
theorem Bf {u v w:M.W}(e:M.oSem .eq h [u,v]=some w):∃ b,w.2=.bl b:=by
 obtain ⟨m,a⟩:=u; obtain ⟨n,b⟩:=v
 have e':(if decide (M.dp a<=64)&&decide (M.dp b<=64) then some ((.d,.bl (M.eqT a b)):M.W) else none)=some w:=e
 split at e'
 ·cases e'; exact ⟨_,rfl⟩
 ·cases e'
theorem Ck {u v w:M.W}(e:M.oSem .ne h [u,v]=some w):∃ b,w.2=.bl b:=by
 obtain ⟨m,a⟩:=u; obtain ⟨n,b⟩:=v
 have e':(if decide (M.dp a<=64)&&decide (M.dp b<=64) then some ((.d,.bl (!M.eqT a b)):M.W) else none)=some w:=e
 split at e'
 ·cases e'; exact ⟨_,rfl⟩
 ·cases e'
theorem sy (ha:SE X sf C ea a)(hb:SE X sf C eb b):SB X sf C (.Compare ea [.Lt] [eb] pos) (.op .lt h [a,b]):=ei wd ha hb (eV _) (bg yR) fun u v w e=>by obtain ⟨_,_,_,_,_,_,rfl⟩:=iT e; exact ⟨_,rfl⟩
theorem Bd (ha:SE X sf C ea a)(hb:SE X sf C eb b):SB X sf C (.Compare ea [.Gt] [eb] pos) (.op .gt h [a,b]):=ei C9 ha hb (eV _) (bg x8) fun u v w e=>by obtain ⟨_,_,_,_,_,_,rfl⟩:=rC e; exact ⟨_,rfl⟩
theorem DT (ha:SE X sf C ea a)(hb:SE X sf C eb b):SB X sf C (.Compare ea [.GtE] [eb] pos) (.op .ge h [a,b]):=ei Bv ha hb (eV _) (bg AB) fun u v w e=>by obtain ⟨_,_,_,_,_,_,rfl⟩:=p7 e; exact ⟨_,rfl⟩
theorem cP (hr:Room n X.A)(ha:SE X sf C ea a)(hb:SE X sf C eb b):SB X sf C (.Compare ea [.Eq] [eb] pos) (.op .eq h [a,b]):=ei (ma hr.units) ha hb (eV _) (bg qC) fun u v w e=>Bf e
theorem se (hr:Room n X.A)(ha:SE X sf C ea a)(hb:SE X sf C eb b):SB X sf C (.Compare ea [.NotEq] [eb] pos) (.op .ne h [a,b]):=ei (u9 hr.units) ha hb (eV _) (bg xK) fun u v w e=>Ck e
noncomputable abbrev SW (X:Cx)(sf:Nat->Option Nat)(C:M.Call)(me:Expr)(e:M.E):Prop:=PW X me (wT X.K sf C e)
theorem wA1 (ha:SB X sf C ea a):SW X sf C (.BoolOp .And [ea] pos) a:=tR ha
theorem wO1 (ha:SB X sf C ea a):SW X sf C (.BoolOp .Or [ea] pos) a:=AI ha
theorem xM {rest:List Expr}(ha:SB X sf C ea a)(hb:SW X sf C (.BoolOp .And (eb::rest) pos) b):SW X sf C (.BoolOp .And (ea::eb::rest) pos) (.and a b):=wX (yJ ha hb) yN
theorem wOr {rest:List Expr}(ha:SB X sf C ea a)(hb:SW X sf C (.BoolOp .Or (eb::rest) pos) b):SW X sf C (.BoolOp .Or (ea::eb::rest) pos) (.or a b):=wX (Cu ha hb) Ci
theorem tW (h:SW X sf C ea a):SB X sf C ea a:=h.pt
theorem vd {ta:TE}(ha:PE X ea ta):PE X (.UnaryOp .Not ea pos) (fun σ H Q=>ta σ H fun x H1=>∃ k,rh X.K x H1 k/\Q (.bl (!k)) H1):=by
 intro pins s σ H Q I h
 refine UnaryOp_ (thn (ha pins s σ H _ I h) fun v s1 ⟨x,H1,I1,r1,q1⟩=>?_)
 refine not_of (thn (kO pins s1 σ H1 x v (fun k H2=>Q (.bl (!k)) H2) I1 r1 q1) fun k s2 ⟨H2,I2,q2⟩=>⟨.bl (!k),H2,I2,rfl,q2⟩)
theorem DN (ha:SE X sf C ea a):SE X sf C (.UnaryOp .Not ea pos) (.not a):=aD (vd ha) fun σ H Q h=>by
 obtain ⟨pv,Z,Fs,η,w,η',A,ev,k⟩:=zy σ H Q h
 exact ⟨pv,Z,Fs,η,w,η',A,ev,fun v Z' H' Fs' G B r s=>let ⟨c,t,q⟩:=k v Z' H' Fs' G B r s; ⟨c,iI t,q⟩⟩
theorem sIf (hc:SB X sf C ec c)(ha:SE X sf C ea a)(hb:SE X sf C eb b):SE X sf C (.IfExp ec ea eb pos) (.ifx c a b):=aD (pP hc ha hb) zB
theorem eU {tg:Expr}(ha:SE X sf C ea a):PI X tg ea (wI X.K sf C 1 .seq [a]):=qk (Bz (jb ha) (yU ha)) AD
theorem uG {tg:Expr}{p:Pos}(hm:X.mg "range"=none)(hg:Gl X "range":=by rfl)(ha:SE X sf C ea a)(hs:starEach [ea] X.env=[(false,eval ea X.env)]:=by rfl):PI X tg (.Call (.Name "range" p) [ea] [] pos) (wI X.K sf C 1 .rng [a]):=qk (mH hg hm (slc ha sl0 hs) hs) uI
theorem BQ {es:List Expr}{kt:Nat}{pt p:Pos}(hc:X.calm=true:=by rfl)(hm:X.mg "zip"=none)(hg:Gl X "zip":=by rfl)(ha:SE X sf C ea a)(hb:SE X sf C eb b)(hs:starEach [ea,eb] X.env=[(false,eval ea X.env),(false,eval eb X.env)]:=by rfl)(hs2:starEach [eb] X.env=[(false,eval eb X.env)]:=by rfl):PI X (.Tuple es kt pt) (.Call (.Name "zip" p) [ea,eb] [] pos) (wI X.K sf C 2 .zip [a,b]):=qk (yp hg hm (slc ha (slc hb sl0 hs2) (by rw [hs,hs2])) hs hs2) AF
noncomputable def lkN:List Nat->Nat->Nat->Option Nat
 | [],_,_=>none
 | t::ts,n,i=>if i=t then some n else lkN ts (n+1) i
theorem l5:∀ {l:List Nat} {n i j:Nat},lkN l n i=some j->∃ k,l[k]?=some i/\j=n+k/\i ∉ l.take k
 | [],_,_,_,h=>by cases h
 | t::ts,n,i,j,h=>by
  have h':(if i=t then some n else lkN ts (n+1) i)=some j:=h
  split at h'
  ·rename_i e; cases h'; exact ⟨0,by rw [e]; rfl,rfl,by simp⟩
  ·rename_i e
   obtain ⟨k,h1,h2,h3⟩:=l5 h'
   exact ⟨k+1,h1,by omega,by rw [List.take_succ_cons,a0n]; exact fun z=>z.elim e h3⟩
noncomputable def inF (tg ls:List Nat):Nat->Option Nat:=lkN (tg++ls) 0
theorem ek {tg ls is:List Nat}(h:ls.map sf=is.map some):f9 sf (inF tg ls) tg is:=fun i j hj=>by
 obtain ⟨k,h1,h2,h3⟩:=l5 (show lkN (tg++ls) 0 i=some j from hj)
 rw [a23] at h2
 subst h2
 by_cases hk:j < tg.length
 ·rw [a0M hk] at h1
  exact .inl ⟨j,h1,rfl⟩
 ·have hk':tg.length<=j:=a3B hk
  rw [a0R hk'] at h1
  refine .inr ⟨fun hi=>h3 ?_,?_⟩
  ·rw [List.take_append,a1f hk']
   exact a0v _ hi
  ·have e1:(ls.map sf)[j-tg.length]?=some (sf i):=by rw [a0t,h1]; rfl
   rw [h,a0t] at e1
   cases e2:is[j-tg.length]? with
   | none=>rw [e2] at e1; cases e1
   | some j0 =>
    rw [e2] at e1
    exact ⟨j-tg.length,j0,by omega,e2,(a0w e1).symm⟩
theorem AV {x:Str}{px:Pos}{ys:List Str}{scope:Scope}{cl:List (Str×Addr)}(S:aA [x] ys scope)(Ca:Addr)(s:Shared)(H:Hp)(fp:List Addr):PG (av X ([x]++ys) scope cl Ca s H fp) (.Name x px) (gT X.K 1) :=
 cV (X:=av X ([x]++ys) scope cl Ca s H fp) (i:=0) (x:=x) (pos:=px) S.nd rfl (.inl (lookup_relabel_local (S.loc x (by simp)))) (.inr (lookup_relabel_local (S.loc x (by simp))))
theorem Eo {x y:Str}{px py pt:Pos}{kt:Nat}{ys:List Str}{scope:Scope}{cl:List (Str×Addr)}(hc:X.calm=true)(S:aA [x,y] ys scope)(Ca:Addr)(s:Shared)(H:Hp)(fp:List Addr):PG (av X ([x,y]++ys) scope cl Ca s H fp) (.Tuple [.Name x px,.Name y py] kt pt) (gT X.K 2) :=
 yQ (X:=av X ([x,y]++ys) scope cl Ca s H fp) (pos:=pt) (k:=kt) (n:=2) hc (jP (cV (pos:=px) (i:=0) (x:=x) S.nd rfl (.inl (lookup_relabel_local (S.loc x (by simp)))) (.inr (lookup_relabel_local (S.loc x (by simp))))) (jP (cV (pos:=py) (i:=1) (x:=y) S.nd rfl (.inl (lookup_relabel_local (S.loc y (by simp)))) (.inr (lookup_relabel_local (S.loc y (by simp))))) uw))
end
end MR

namespace MR
open PySem PySem.Spec PyProof.Rows L2 L3
section
variable {X:Cx}{sf sg:Nat->Option Nat}{C:M.Call}{pos p2:Pos}{ea eb ec:Expr}{a b c:M.E}{h:Bool}{n:Nat}{io:List Nat}
section
variable {elt iter cnd:Expr}{x y:Str}{px py pt:Pos}{kt:Nat}{scope:Scope}{cl:List (Str×Addr)}{ys:List Str}{tg ls is:List Nat}{k:M.Ik}{src:List M.E}{e cd:M.E}
theorem sC1 (ls:List Nat)(is:List Nat)(cl:List (Str×Addr))(ys:List Str){t:Nat}(hi:PI X (.Name x px) iter (wI X.K sf C 1 k src))(he:∀ Ca s H fp,SE (av X ([x]++ys) scope cl Ca s H fp) (inF [t] ls) C elt e)
  (S:aA [x] ys scope) (hcl:Clo X cl) (fr:Frees X scope cl ys is) (hc:X.calm=true:=by rfl) (hl:ls.map sf=is.map some:=by rfl)
  (hclos:closureFor scope X.env=pure cl:=by with_unfolding_all rfl) (hfr:(scope.names.all fun p=>p.2 != .free || (cl.lookup p.1).isSome)=true:=by rfl)
  (hs:∀ v,foldedSetIterable iter X.env v=pure v:=by intro _; rfl):SE X sf C (.ListComp elt [⟨.Name x px,iter,[],0⟩] scope pos) (.comp h k src [t] none e) :=
 aD (gZ (pre:=[x]) hc hi (AV S) (fun Ca s H fp=>he Ca s H fp) hclos S hcl hfr fr hs) (fZ rfl (by simp) (ek hl))
theorem Em (ls:List Nat)(is:List Nat)(cl:List (Str×Addr))(ys:List Str){t:Nat}(hi:PI X (.Name x px) iter (wI X.K sf C 1 k src))(hcd:∀ Ca s H fp,SB (av X ([x]++ys) scope cl Ca s H fp) (inF [t] ls) C cnd cd)(he:∀ Ca s H fp,SE (av X ([x]++ys) scope cl Ca s H fp) (inF [t] ls) C elt e)
  (S:aA [x] ys scope) (hcl:Clo X cl) (fr:Frees X scope cl ys is) (hc:X.calm=true:=by rfl) (hl:ls.map sf=is.map some:=by rfl)
  (hclos:closureFor scope X.env=pure cl:=by with_unfolding_all rfl) (hfr:(scope.names.all fun p=>p.2 != .free || (cl.lookup p.1).isSome)=true:=by rfl)
  (hs:∀ v,foldedSetIterable iter X.env v=pure v:=by intro _; rfl):SE X sf C (.ListComp elt [⟨.Name x px,iter,[cnd],0⟩] scope pos) (.comp h k src [t] (some cd) e) :=
 aD (nO (pre:=[x]) hc hi (AV S) (fun Ca s H fp=>he Ca s H fp) (fun Ca s H fp=>hcd Ca s H fp) hclos S hcl hfr fr hs) (pJ rfl (by simp) (ek hl))
theorem sC2 (ls:List Nat)(is:List Nat)(cl:List (Str×Addr))(ys:List Str){t t':Nat}(hi:PI X (.Tuple [.Name x px,.Name y py] kt pt) iter (wI X.K sf C 2 k src))(he:∀ Ca s H fp,SE (av X ([x,y]++ys) scope cl Ca s H fp) (inF [t,t'] ls) C elt e)
  (S:aA [x,y] ys scope) (hcl:Clo X cl) (fr:Frees X scope cl ys is) (hc:X.calm=true:=by rfl) (hl:ls.map sf=is.map some:=by rfl) (nd:[t,t'].Nodup:=by decide)
  (hclos:closureFor scope X.env=pure cl:=by with_unfolding_all rfl) (hfr:(scope.names.all fun p=>p.2 != .free || (cl.lookup p.1).isSome)=true:=by rfl)
  (hs:∀ v,foldedSetIterable iter X.env v=pure v:=by intro _; rfl):SE X sf C (.ListComp elt [⟨.Tuple [.Name x px,.Name y py] kt pt,iter,[],0⟩] scope pos) (.comp h k src [t,t'] none e) :=
 aD (gZ (pre:=[x,y]) hc hi (Eo hc S) (fun Ca s H fp=>he Ca s H fp) hclos S hcl hfr fr hs) (fZ rfl nd (ek hl))
end
noncomputable def spS (K:a0a)(C:M.Call)(f:Nat)(io:List Nat):Sp:=fun vs H Q _=>spC K C f io vs H Q
theorem sa0:SA X sf C [] []:=ka aM AN
theorem sac {es:List Expr}{bs:List M.E}(ha:SE X sf C ea a)(hb:SA X sf C es bs)(he:∀ i,a≠.io i:=by intro _ z; cases z)(hs:starEach (ea::es) X.env=(false,eval ea X.env)::starEach es X.env:=by rfl):SA X sf C (ea::es) (a::bs):=ka (aq ha hb hs) (oz he)
theorem sai (j:Nat){i:Nat}{x:Str}{es:List Expr}{bs:List M.E}(hb:SA X sf C es bs)(hs:sf i=some j:=by rfl)(hN:X.N[j]?=some x:=by rfl)(hv:Vis X.env.scope x:=by first | exact a0F rfl | exact a0B (a0F rfl) | exact a0B (a0B rfl))(hd:(x==("__debug__":Str))=false:=by decide)
  (hcd:(x==("__classdict__":Str))=false:=by decide) (hst:starEach (.Name x pos::es) X.env=(false,eval (.Name x pos) X.env)::starEach es X.env:=by rfl):SA X sf C (.Name x pos::es) (.io i::bs):=ka (aq (bZ hN hv hd hcd) hb hst) (n6 hs)
noncomputable def ai (P:Program)(w:World)(K:a0a)(mg:Str->Option Value)(base:Heap)(n:Nat)(C:M.Call)(x:Str)(f:Nat)(io:List Nat):Prop :=
 ∃ fa fd ps,FnOk P w K mg base CX0 n fa fd ps (spS K C f io)/\mg x=some (.ref fa)/\a1b K (.ref fa)=true/\Binds K fd ps []
theorem ah {x:Str}{p:Pos}{f:Nat}{es:List Expr}{bs:List M.E}(c:ai X.prog X.w X.K X.mg X.base n C x f io)(hr:Room n X.A)(ha:SA X sf C (ea::es) bs)(hio:fj bs 0=io\/M.ios bs=[]:=by first | exact .inl rfl | exact .inr rfl)(hg:Gl X x:=by rfl)(hdb:(x==("__debug__":Str))=false:=by decide)
  (he:starEach (ea::es) X.env=(false,eval ea X.env)::starEach es X.env:=by rfl) (hpl:(backTo pos (starEach es X.env)).any (·.1)=false:=by rfl):SE X sf C (.Call (.Name x p) (ea::es) [] pos) (.call f bs):=by
 obtain ⟨fa,fd,ps,F,hm,hk,hb⟩:=c
 refine aD (jf (E:=E0) F hr hg hm hk hb .nil lY ha hdb he hpl) fun σ H Q hw=>?_
 have h2:=mq hio σ H Q hw
 obtain ⟨pv,Z,Fs,η,ws,η',A,ev,k⟩:=h2
 exact ⟨pv,Z,Fs,η,ws,η',A,ev,fun vs Z' H' Fs' G B r s hv=>by show spS X.K C f io (vs++[]) H' Q E0; rw [a0z]; exact k vs Z' H' Fs' G B r s hv⟩
theorem ss0:SSs X sf io C [] []:=lz ja sJ
theorem ss1 {s:Stmt}{t:M.S}(hs:SS X sf io C s t):SSs X sf io C [s] [t]:=lz (ck hs) uK
theorem ssc {s:Stmt}{t:M.S}{r:List Stmt}{u:List M.S}(hs:SS X sf io C s t)(hr:SSs X sf io C r u):SSs X sf io C (s::r) (t::u):=lz (b7 hs hr) oU
theorem aO (j:Nat){i:Nat}{x:Str}{xx:M.X}{pos':Pos}(hN:X.N.Nodup)(ha:SE X sf C ea a)(hi:i ∉ io:=by decide)(hs:sf i=some j:=by rfl)(hj:X.N[j]?=some x:=by rfl)(hx:L2.Loc X.env.scope x:=by first | exact a0F rfl | exact a0B rfl)
  (hsw:swapsWith ea (some (.Name x pos')) pos.line X.env=pure false:=by rfl) (hf:X.fn x=true\/X.env.scope.names.lookup x=some .local:=by first | exact .inl rfl | exact .inr rfl):SS X sf io C (.Assign [.Name x pos'] ea pos) (.asg xx i a):=bW (fW (i:=j) hN hj hx ha hsw hf) (oP hi hs)
theorem sL {xx:M.X}(ha:SE X sf C ea a)(hs:swapsWith ea none pos.line X.env=pure false:=by rfl):SS X sf io C (.Expr ea pos) (.exp xx a):=bW (cj ha hs) xX
theorem aG {vs:List Nat}(ha:SE X sf C ea a):SS X sf io C (.Return (some ea) pos) (.ret vs a):=bW (ly ha) Ar
theorem zIf {xx:M.X}{r u:List Stmt}{s t:List M.S}(hc:SB X sf C ec c)(ha:SSs X sf io C r s)(hb:SSs X sf io C u t):SS X sf io C (.If ec r u pos) (.ite xx c s t):=bW (pI hc ha hb) yK
theorem jZ (j:Nat){t:Nat}{x:Str}{px:Pos}{iter:Expr}{r:List Stmt}{s:List M.S}{vs ls:List Nat}{k:M.Ik}{src:List M.E}(hN:X.N.Nodup)(hi:PI X (.Name x px) iter (wI X.K sf C 1 k src))(ha:SSs X sf io C r s)(hio:∀ u∈[t],u ∉ io:=by decide)(hjs:[t].map sf=[j].map some:=by rfl)(hj:X.N[j]?=some x:=by rfl)(hx:L2.Loc X.env.scope x:=by first | exact a0F rfl | exact a0B rfl)
  (hc:X.calm=true:=by rfl) (hp:PassesOwn (model X.prog X.w) X.A X.env X.xe:=by exact PassesOwn.never) (hf:X.fn x=true\/X.env.scope.names.lookup x=some .local:=by first | exact .inl rfl | exact .inr rfl) (hs:∀ x,foldedSetIterable iter X.env x=pure x:=by intro _; rfl):SS X sf io C (.For (.Name x px) iter r [] pos) (.forS vs ls k src [t] s) :=
 bW (iX hp hc hi (cV (i:=j) hN hj hx hf) ha hs) (ze rfl (by simp) hio hjs)
theorem BS (j:Nat){i:Nat}{x:Str}{xx:M.X}{apos cpos px:Pos}(ha:SE X sf C ea a)(hs:sf i=some j:=by rfl)(hN:X.N[j]?=some x:=by rfl)(hv:Vis X.env.scope x:=by first | exact a0F rfl | exact a0B (a0F rfl) | exact a0B (a0B rfl))(hd:(x==("__debug__":Str))=false:=by decide)(hcd:(x==("__classdict__":Str))=false:=by decide)
  (hbase:attributeBase (.Name x px) "append" X.env (eval (.Name x px) X.env)=eval (.Name x px) X.env:=by rfl)
  (hfew:((backTo cpos (starEach [ea] X.env)).all (fun x=>!x.1)&&(backToKw cpos (keywordEach [] X.env)).all (fun x=>x.1.isSome)&&decide ([ea].length+([]:List Keyword).length+(if ([]:List Keyword).isEmpty then 0 else 1) < 30))=true:=by rfl)
  (hline:(apos.endLine==cpos.line)=true:=by rfl) (hst:starEach [ea] X.env=(false,eval ea X.env)::starEach [] X.env:=by rfl) (hplain:(backTo cpos (starEach [] X.env)).any (·.1)=false:=by rfl) (hsw:swapsWith (.Call (.Attribute (.Name x px) "append" apos) [ea] [] cpos) none pos.line X.env=pure false:=by rfl) :
  SS X sf io C (.Expr (.Call (.Attribute (.Name x px) "append" apos) [ea] [] cpos) pos) (.app xx i a) :=
 bW (cj (lX a1C a1Y a1Z eL (bZ hN hv hd hcd) (aq ha aM hst) hbase hfew hline hst hplain) hsw) fun D σ H hw=>by
  obtain ⟨p,xs,hj,hp,pv,Z,Fs,η,w,η',A,ev,k⟩:=zF hs D σ H hw
  refine ⟨.ref p,hj,.inl ⟨rfl,xs,.inl (.inl hp)⟩,pv,Z,Fs,η,w,η',A,ev,fun v Z' H' Fs' G B r s=>?_⟩
  obtain ⟨ys,h1,h2,h3⟩:=k v Z' H' Fs' G B r s
  exact ⟨p,ys,v,rfl,rfl,h1,h2,h3⟩
theorem Cp (j:Nat){i:Nat}{x:Str}{xx:M.X}{apos cpos px:Pos}(ha:SE X sf C ea a)(hs:sf i=some j:=by rfl)(hN:X.N[j]?=some x:=by rfl)(hv:Vis X.env.scope x:=by first | exact a0F rfl | exact a0B (a0F rfl) | exact a0B (a0B rfl))(hd:(x==("__debug__":Str))=false:=by decide)(hcd:(x==("__classdict__":Str))=false:=by decide)
  (hbase:attributeBase (.Name x px) "extend" X.env (eval (.Name x px) X.env)=eval (.Name x px) X.env:=by rfl)
  (hfew:((backTo cpos (starEach [ea] X.env)).all (fun x=>!x.1)&&(backToKw cpos (keywordEach [] X.env)).all (fun x=>x.1.isSome)&&decide ([ea].length+([]:List Keyword).length+(if ([]:List Keyword).isEmpty then 0 else 1) < 30))=true:=by rfl)
  (hline:(apos.endLine==cpos.line)=true:=by rfl) (hst:starEach [ea] X.env=(false,eval ea X.env)::starEach [] X.env:=by rfl) (hplain:(backTo cpos (starEach [] X.env)).any (·.1)=false:=by rfl) (hsw:swapsWith (.Call (.Attribute (.Name x px) "extend" apos) [ea] [] cpos) none pos.line X.env=pure false:=by rfl) :
  SS X sf io C (.Expr (.Call (.Attribute (.Name x px) "extend" apos) [ea] [] cpos) pos) (.ext xx i a) :=
 bW (cj (lX a1C PySem.F.slot_list_extend PySem.F.type_list_extend m9 (bZ hN hv hd hcd) (aq ha aM hst) hbase hfew hline hst hplain) hsw) fun D σ H hw=>by
  obtain ⟨p,xs,hj,hp,pv,Z,Fs,η,w,η',A,ev,k⟩:=yd hs D σ H hw
  refine ⟨.ref p,hj,.inl ⟨rfl,xs,.inl (.inl hp)⟩,pv,Z,Fs,η,w,η',A,ev,fun v Z' H' Fs' G B r s=>?_⟩
  obtain ⟨b,ys,zs,rfl,h1,h2,h3,h4⟩:=k v Z' H' Fs' G B r s
  exact ⟨p,b,ys,zs,rfl,rfl,h1,h2,h3,h4⟩
theorem rJ (j:Nat){i:Nat}{x:Str}{xx:M.X}{px ps:Pos}(ha:SE X sf C ea a)(hb:SE X sf C eb b)(hs:sf i=some j:=by rfl)(hN:X.N[j]?=some x:=by rfl)(hv:Vis X.env.scope x:=by first | exact a0F rfl | exact a0B (a0F rfl) | exact a0B (a0B rfl))(hd:(x==("__debug__":Str))=false:=by decide)(hcd:(x==("__classdict__":Str))=false:=by decide)
  (has:∀ v,assign (.Subscript (.Name x px) eb ps) X.env v=(do
   let ov <- holding [v] (eval (.Name x px) X.env)
   let iv <- holding [v,ov] (eval eb X.env)
   standAt ps
   holding [v,ov,iv] (setItem ov iv v)
   release [v,ov,iv] []):=by intro _; rfl)
  (h1:swapsWithSole [.Subscript (.Name x px) eb ps] ea pos.line X.env=pure false:=by rfl) (h2:swappedStores [.Subscript (.Name x px) eb ps] ea X.env=pure none:=by rfl) (h3:(assignEach [.Subscript (.Name x px) eb ps] X.env).map (·.2)=[assign (.Subscript (.Name x px) eb ps) X.env]:=by rfl) :
  SS X sf io C (.Assign [.Subscript (.Name x px) eb ps] ea pos) (.setI xx i b a) :=
 bW (zh ha (yj (bZ hN hv hd hcd) hb oZ has) h1 h2 h3) fun D σ H hw=>by
  obtain ⟨pv,Z,Fs,η,w,η',A,ev,k⟩:=vh hs D σ H hw
  refine ⟨pv,Z,Fs,η,w,η',A,ev,fun v Z' H' Fs' G B r s=>?_⟩
  obtain ⟨o,ho,pv2,Z2,Fs2,η2,w2,η3,A2,ev2,k2⟩:=k v Z' H' Fs' G B r s
  refine ⟨o,ho,pv2,Z2,Fs2,η2,w2,η3,A2,ev2,fun z Z3 H3 Fs3 G3 B3 r3 s3=>?_⟩
  obtain ⟨q,xs,n,m,rfl,rfl,g1,g2,g3⟩:=k2 z Z3 H3 Fs3 G3 B3 r3 s3
  exact ⟨q,xs,n,m,rfl,rfl,g1,g2,g3⟩
end
end MR

namespace MR
open PySem PySem.Spec PyProof.Rows L2 L3
section
variable {K:a0a}{Z:Fp}{H:Hp}
theorem iB:∀ {ws:List M.W} {n i:Nat} {w:M.W},M.rd (ws.map some++a0h n none) i=some w->ws[i]?=some w
 | [],0,i,w,h=>by simp [M.rd] at h
 | [],n+1,0,w,h=>by simp [a07,M.rd] at h
 | [],n+1,i+1,w,h=>by
  have:M.rd (([]:List M.W).map some++a0h n none) i=some w:=by simpa [a07,M.rd] using h
  have:=iB this
  simp at this
 | u::ws,n,0,w,h=>by simpa [M.rd] using h
 | u::ws,n,i+1,w,h=>by
  have:M.rd (ws.map some++a0h n none) i=some w:=by simpa [M.rd] using h
  simpa using iB this
theorem qS:∀ {ws:List M.W} {vs:List V} {G:Fp},RepW K Z H ws vs G->∃ Fs:Fps,(∀ i a,Fs i a->G a)/\(∀ i j a,Fs i a->Fs j a->i=j)/\∀ i w,ws[i]?=some w->∃ v,vs[i]?=some v/\Rep K Z H w.1 w.2 v (Fs i)
 | [],vs,G,_=>⟨fun _=>no,fun _ _ h=>h.elim,fun _ _ _ h=>h.elim,fun i w h=>by simp at h⟩
 | w::ws,vs,G,⟨x,r,G1,G2,e,h1,h2,hd,p,q⟩=>by
  obtain ⟨Fs,f1,f2,f3⟩:=qS q
  subst e
  refine ⟨fun i=>match i with | 0=>G1 | i+1=>Fs i,fun i a h=>?_,fun i j a hi hj=>?_,fun i u h=>?_⟩
  ·cases i with
   | zero=>exact h1 a h
   | succ i=>exact h2 a (f1 i a h)
  ·cases i with
   | zero =>
    cases j with
    | zero=>rfl
    | succ j=>exact absurd (f1 j a hj) (hd a hi)
   | succ i =>
    cases j with
    | zero=>exact absurd (f1 i a hi) (hd a hj)
    | succ j=>exact congrArg (·+1) (f2 i j a hi hj)
  ·cases i with
   | zero=>simp only [a14,a2H] at h; subst h; exact ⟨x,rfl,p⟩
   | succ i=>simpa using f3 i u (by simpa using h)
noncomputable def slN (n:Nat):Nat->Option Nat:=fun i=>if i < n then some i else none
theorem cQ {sl:Cf}{σ:L2.St}{Fs:Fps}{η:M.Env}{G:Fp}{vs:List V}(A:At K sl σ Z H Fs η G):∀ {io:List Nat} {bs:List M.W},io.Nodup->(∀ i∈io,sl.pv i=vs[i]?/\i < vs.length)->M.backs io η=some bs->RepW K Z H bs (atV io vs) (fun a=>∃ i∈io,Fs i a)
 | [],bs,_,_,h=>by
  simp only [M.backs,a2H] at h; subst h; rfl
 | i::io,bs,nd,hv,h=>by
  simp only [M.backs] at h
  cases e:M.rd η i with
  | none=>rw [e] at h; cases h
  | some w =>
   rw [e] at h
   simp only [a2R] at h
   cases e2:M.backs io η with
   | none=>rw [e2] at h; cases h
   | some ws =>
    rw [e2] at h
    simp only [a2R,a2H] at h
    subst h
    obtain ⟨v,r,_,hp⟩:=A.env i w.1 w.2 e
    have hi:=hv i a0k
    obtain ⟨u,hu⟩:∃ u,vs[i]?=some u:=⟨vs[i]'hi.2,a0i hi.2⟩
    have:=hp u (hi.1.trans hu)
    subst this
    refine ⟨v,atV io vs,Fs i,fun a=>∃ j∈io,Fs j a,?_,fun a h=>⟨i,a0k,h⟩,fun a ⟨j,hj,h⟩=>⟨j,a0c _ hj,h⟩,fun a h ⟨j,hj,h'⟩=>?_,r,cQ A (a1n.mp nd).2 (fun j hj=>hv j (a0c _ hj)) e2⟩
    ·rw [atV,a0L,hu]; rfl
    ·exact (a1n.mp nd).1 (A.gd.dis i j a h h' ▸ hj)
end
section
variable {P:Program}{w:World}{K:a0a}{mg:Str->Option Value}{base:Heap}
theorem gx {Z:Fp}{H:Hp}{ws:List M.W}{vs:List V}{G:Fp}{N:List Str}{n:Nat}{io:List Nat}(r:RepW K Z H ws vs G)(o:Own Z H G)(z:∀ a,Z a->H a≠none)(hl:vs.length<=N.length) :
  ∃ Fs,(∀ a,tot Fs a->G a)/\At K ⟨slN N.length,fun i=>if i∈io then vs[i]? else none⟩ (L2.start N vs) Z H Fs (ws.map some++a0h n none) no:=by
 obtain ⟨Fs,f1,f2,f3⟩:=qS r
 have st:∀ i v,vs[i]?=some v->(L2.start N vs)[i]?=some (some v):=fun i v h=>by
  have hi:=(a0s.mp h).1
  rw [L2.start,a0M (by simpa using hi),a0t,h]; rfl
 refine ⟨Fs,fun a ⟨i,h⟩=>f1 i a h,⟨⟨fun a ⟨i,h⟩=>o a (f1 i a h),f2,z⟩,fun i m t e=>?_,fun a h=>h.elim,fun a h=>h.elim,fun i u j hu hj=>?_,fun i j hj=>?_⟩⟩
 ·obtain ⟨v,hv,rp⟩:=f3 i (m,t) (iB e)
  refine ⟨v,rp,fun j hj=>?_,fun u hu=>?_⟩
  ·simp only [slN] at hj
   split at hj
   ·cases hj; exact st i v hv
   ·cases hj
  ·simp only at hu
   split at hu
   ·rw [hv] at hu; cases hu; rfl
   ·cases hu
 ·simp only at hu
  simp only [slN] at hj
  split at hj
  ·cases hj
   split at hu
   ·exact st i u hu
   ·cases hu
  ·cases hj
 ·simp only [slN] at hj
  split at hj
  ·cases hj
   rename_i h
   rw [L2.start,a0e,a0b,a00]; omega
  ·cases hj
theorem Fun.okM {x qual:Str}{st:Stmt}{f:Addr}{fd:FuncData}{N ps:List Str}{k:Nat}{C:M.Call}{d:M.Fn}(F:L2.Fun K x qual st f fd)(S:ao N ps (defScope st))(hps:d.ps=ps.length)(hle:ps.length<=N.length)(nd:d.io.Nodup)(hio:∀ i∈d.io,i < ps.length)
  (hbody:∀ (cdv:Value) (A:Around) (outer:List Env) (s:Shared) (H:Hp) (E:XK),Room k (A.deeper (envOfC qual (defScope st) s.heap.objs.size f cdv)) ->
   SSs (cZ CX0 P w K mg base N qual (defScope st) f cdv A outer s H E).nox (slN N.length) d.io C (defBody st) d.body) {g:Nat} {C':M.Call} (hC:∀ ws,C' g ws=M.runF C d ws):FnOk P w K mg base CX0 (k+1) f fd ps (spS K C' g d.io):=by
 have len:∀ vs H Q E,spS K C' g d.io vs H Q E->vs.length=ps.length:=fun vs H Q E ⟨Z,ws,G,w,bs,r,_,_,hr,_⟩=>by
  rw [hC] at hr
  unfold M.runF at hr
  split at hr
  ·rename_i h; rw [r.length,h,hps]
  ·cases hr
 refine F.ok S len fun cdv A outer s H vs Q E hr h=>⟨_,hbody cdv A outer s H E hr,?_⟩
 have hlen:=len vs H Q E h
 obtain ⟨Z,ws,G,w,bs,r,o,z,hc,q⟩:=h
 rw [hC] at hc
 have hwl:ws.length=d.ps:=by rw [<- r.length,hlen,hps]
 rw [M.x_run _ _ _ hwl] at hc
 obtain ⟨Fs,ft,A0⟩:=gx (n:=d.ns) (io:=d.io) r o z (N:=N) (by omega)
 refine ⟨_,Z,Fs,_,⟨fun i i' j h h'=>?_,fun i h=>if_neg h⟩,A0,?_⟩
 ·simp only [slN] at h h'
  split at h
  ·split at h'
   ·cases h; cases h'; rfl
   ·cases h'
  ·cases h
 have hv:∀ i∈d.io,(if i∈d.io then vs[i]? else none)=vs[i]?/\i < vs.length:=fun i hi=>⟨if_pos hi,hlen ▸ hio i hi⟩
 cases e:M.evSs C d.body (ws.map some++a0h d.ns none) with
 | nx η =>
  rw [e] at hc
  intro σ' Z' H' Fs' A' t
  simp only [M.Fl.out] at hc
  cases e2:M.backs d.io η with
  | none=>rw [e2] at hc; cases hc
  | some cs =>
   rw [e2] at hc
   cases hc
   refine q .non Z' H' no _ rfl (cQ A' nd hv e2) (fun _ h=>h.elim) (fun a h=>h.elim (fun z=>z.elim) fun ⟨i,_,z⟩=>A'.gd.own a ⟨i,z⟩) (t.mono ft fun a h=>h.elim (fun z=>z.elim) fun ⟨i,_,z⟩=>⟨i,z⟩)
 | rt u η =>
  rw [e] at hc
  intro v σ' Z' H' Fs' G' A' rp t
  simp only [M.Fl.out] at hc
  cases e2:M.backs d.io η with
  | none=>rw [e2] at hc; cases hc
  | some cs =>
   rw [e2] at hc
   cases hc
   exact q v Z' H' G' _ rp (cQ A' nd hv e2) (fun a h ⟨i,_,z⟩=>A'.dis a h ⟨i,z⟩) (fun a h=>h.elim (A'.own a) fun ⟨i,_,z⟩=>A'.gd.own a ⟨i,z⟩) (t.mono ft fun a h=>h.elim .inr fun ⟨i,_,z⟩=>.inl ⟨i,z⟩)
 | bk η=>rw [e] at hc; cases hc
 | ex t η=>rw [e] at hc; cases hc
 | no=>rw [e] at hc; cases hc
end
end MR

namespace MR
open PySem PySem.Spec PyProof.Rows L2 L3
noncomputable def TopV (K:a0a)(H:Hp):Th->V->Prop
 | .tup _,x=>∃ a vs,x=.ref a/\SqT K H a vs
 | .lst _,x=>∃ a vs,x=.ref a/\SqL K H a vs
 | .non,x=>x=.non
 | .bl b,x=>x=.bl b
 | .int i,x=>x=.int i
 | .str z,x=>x=.str z
theorem jC {X:Cx}{c:String}(hc:c∈["tuple","str","bool","int","list"]):cq X (.builtin "isinstance") (fun xs H Q=>∃ x t,xs=[x,.ty c]/\TopV X.K H t x/\Q (.bl (isI c t)) H):=by
 intro pins s σ H xs us Q I r h
 obtain ⟨x,t,rfl,ht,q⟩:=h
 obtain ⟨u,w',rfl,ru,rw'⟩:=fm r
 cases rw'
 have e:a0y X.K (.type t.ty) (.type c)=some (isI c t):=kit_type.trans (gg hc t)
 have fin:∀ tk,EP X pins σ Q (.bool (isI c t)) { s with toks:=tk }:=fun tk=>⟨.bl (isI c t),H,I.tok tk,rfl,q⟩
 cases t with
 | non =>
  obtain rfl:x=.non:=ht
  exact cI I ru .non e fin
 | bl b =>
  obtain rfl:x=.bl b:=ht
  exact cI I ru (.bl b) e fin
 | int i =>
  obtain rfl:x=.int i:=ht
  exact cI I ru (.int i) e fin
 | str z =>
  obtain rfl:x=.str z:=ht
  exact cI I ru (.str z) e fin
 | tup ts =>
  obtain ⟨a,vs,rfl,hS⟩:=ht
  cases ru
  obtain ⟨its,_,p,_⟩:=I.tuple hS
  obtain ⟨o,h1,h2,_⟩:=p
  exact a0P a12 I.kIn ⟨o,h1,h2⟩ e (fun z=>nomatch z) fin
 | lst ts =>
  obtain ⟨a,vs,rfl,hS⟩:=ht
  cases ru
  obtain ⟨its,_,p,_⟩:=I.list hS
  obtain ⟨o,n,h1,h2,_⟩:=p
  exact a0P a1J I.kIn ⟨o,h1,h2⟩ e (fun z=>nomatch z) fin
theorem su {X:Cx}{c1 c2:String}(h1:c1∈["tuple","str","bool","int","list"])(h2:c2∈["tuple","str","bool","int","list"]) :
  cq X (.builtin "isinstance") (fun xs H Q=>∃ x t p,xs=[x,.ref p]/\SqT X.K H p [.ty c1,.ty c2]/\TopV X.K H t x/\Q (.bl (isI c1 t || isI c2 t)) H):=by
 intro pins s σ H xs us Q I r h
 obtain ⟨x,t,p,rfl,hp,ht,q⟩:=h
 obtain ⟨u,w',rfl,ru,rw'⟩:=fm r
 cases rw'
 obtain ⟨its,rv,pt,_⟩:=I.tuple hp
 obtain ⟨y1,y2,rfl,r1,r2⟩:=fm rv
 cases r1
 cases r2
 obtain ⟨⟨oc,od,odt,osl⟩,g1,g2,n,g3⟩:=pt
 have g2':oc=.type "tuple":=g2
 have g3':odt=.seq _ n:=g3
 subst g2' g3'
 have e1:a0y X.K (.type t.ty) (.type c1)=some (isI c1 t):=kit_type.trans (gg h1 t)
 have e2:a0y X.K (.type t.ty) (.type c2)=some (isI c2 t):=kit_type.trans (gg h2 t)
 have e:a1Q X.K (.type t.ty) [.type c1,.type c2]=some (isI c1 t || isI c2 t):=by
  unfold a1Q
  rw [e1]
  cases isI c1 t with
  | true=>rfl
  | false =>
   unfold a1Q
   rw [e2]
   cases isI c2 t<;>rfl
 have fin:∀ tk,EP X pins σ Q (.bool (isI c1 t || isI c2 t)) { s with toks:=tk }:=fun tk=>⟨.bl _,H,I.tok tk,rfl,q⟩
 cases t with
 | non =>
  obtain rfl:x=.non:=ht
  cases ru
  exact a01 a2E I.kIn a0x g1 e (fun z=>nomatch z) fin
 | bl b =>
  obtain rfl:x=.bl b:=ht
  cases ru
  exact a01 a2F I.kIn a0x g1 e (fun z=>nomatch z) fin
 | int i =>
  obtain rfl:x=.int i:=ht
  obtain ⟨t,rfl⟩:=ru
  exact a01 a2N I.kIn a0x g1 e (fun z=>nomatch z) fin
 | str z =>
  obtain rfl:x=.str z:=ht
  obtain ⟨t,rfl⟩:=ru
  exact a01 a2O I.kIn a0x g1 e (fun z=>nomatch z) fin
 | tup ts =>
  obtain ⟨a,vs,rfl,hS⟩:=ht
  cases ru
  obtain ⟨its,_,⟨o,q1,q2,_⟩,_⟩:=I.tuple hS
  exact a01 a12 I.kIn ⟨o,q1,q2⟩ g1 e (fun z=>nomatch z) fin
 | lst ts =>
  obtain ⟨a,vs,rfl,hS⟩:=ht
  cases ru
  obtain ⟨its,_,⟨o,n,q1,q2,_⟩,_⟩:=I.list hS
  exact a01 a1J I.kIn ⟨o,q1,q2⟩ g1 e (fun z=>nomatch z) fin
noncomputable def thT:M.T->Th
 | .non=>.non | .bl b=>.bl b | .int i=>.int i | .str x=>.str x | .tup _=>.tup [] | .lst _=>.lst [] | .scr _=>.lst [] | .dct _ _=>.non | .ins _ _ _=>.non | .gone=>.non
theorem lK {K:a0a}{Z:Fp}{H:Hp}{t:M.T}{m:M.Md}{x:V}{G:Fp}(hg:t.isH=false)(r:Rep K Z H m t x G):TopV K H (thT t) x/\(thT t).ty=t.ty:=by
 cases t with
 | non=>exact ⟨r,rfl⟩
 | bl _=>exact ⟨r,rfl⟩
 | int _=>exact ⟨r,rfl⟩
 | str _=>exact ⟨r.1,rfl⟩
 | tup _=>obtain ⟨p,xs,e,q,_⟩:=r; exact ⟨⟨p,xs,e,q⟩,rfl⟩
 | lst _=>obtain ⟨p,xs,e,_,q,_⟩:=r; exact ⟨⟨p,xs,e,.inl (.inl (by cases m<;>exact q.2))⟩,rfl⟩
 | scr _=>obtain ⟨p,e,_,q⟩:=r; exact ⟨⟨p,_,e,q.sq⟩,rfl⟩
 | dct _ _=>cases hg
 | ins _ _ _=>cases hg
 | gone=>cases hg
theorem iM {t:Th}{u:M.T}{c:String}(h:t.ty=u.ty):isI c t=M.isOne c u:=by unfold isI M.isOne; rw [h]
section
variable {X:Cx}{sf sg:Nat->Option Nat}{C:M.Call}{pos p2 p3:Pos}{ea eb ec:Expr}{a b c:M.E}{h:Bool}{n:Nat}{io:List Nat}
theorem mz {Z:Fp}{H H1:Hp}{G:Fp}(same:∀ a o,H a=some o->H1 a=some o):Step Z H G Z H1 G:=by
 have al:∀ a,H a≠none->H1 a≠none:=fun a h=>by
  cases e:H a with
  | none=>exact absurd e h
  | some o=>rw [same a o e]; simp
 exact ⟨fun a o h _=>same a o h,fun _ h=>h,fun _ h=>.inl h,fun _ h=>.inl h,al,fun z a h=>al a (z a h)⟩
theorem gy {K:a0a}{Z:Fp}{H H1:Hp}{G:Fp}{w:M.W}{Q:VK}(same:∀ a o,H a=some o->H1 a=some o)(k:Out K Z H G w Q):Out K Z H1 G w Q:=fun v Z' H' G' r o t=>k v Z' H' G' r o ((mz same).trans t)
theorem df {H:Hp}{p:Addr}{o:HO}(hp:H p=none):∀ a u,H a=some u->upd H p o a=some u:=fun a u e=>by
 have:a≠p:=fun q=>by subst q; rw [hp] at e; cases e
 rw [ag this]; exact e
theorem TopV.same {K:a0a}{H H1:Hp}{t:Th}{x:V}(sm:∀ a o,H a=some o->H1 a=some o)(h:TopV K H t x):TopV K H1 t x:=by
 cases t with
 | tup _ =>
  obtain ⟨a,vs,e,q⟩:=h
  refine ⟨a,vs,e,?_⟩
  rcases q with (z | ⟨o,z⟩) | z
  ·exact .inl (.inl (sm _ _ z))
  ·exact .inl (.inr ⟨o,sm _ _ z⟩)
  ·exact .inr z
 | lst _ =>
  obtain ⟨a,vs,e,q⟩:=h
  refine ⟨a,vs,e,?_⟩
  rcases q with (z | ⟨o,z⟩) | z
  ·exact .inl (.inl (sm _ _ z))
  ·exact .inl (.inr ⟨o,sm _ _ z⟩)
  ·exact .inr z
 | _=>exact h
theorem hW {c:String}{k:Str}(hc:c∈["tuple","str","bool","int","list"])(hv:bootBuiltins k=some (.type c))(hm:X.mg "isinstance"=none)(hm2:X.mg k=none)(ha:SE X sf C ea a)(hg:Gl X "isinstance":=by rfl)(hg2:Gl X k:=by rfl)(hn:k≠"__name__":=by decide)(hd:(k==("__debug__":Str))=false:=by decide)
  (hs:starEach [ea,.Name k p2] X.env=(false,eval ea X.env)::starEach [.Name k p2] X.env:=by rfl) (hs2:starEach [.Name k p2] X.env=(false,eval (.Name k p2) X.env)::starEach [] X.env:=by rfl) (hpl:(backTo pos (starEach [.Name k p2] X.env)).any (·.1)=false:=by rfl) :
  SE X sf C (.Call (.Name "isinstance" p3) [ea,.Name k p2] [] pos) (.op (.isI [c]) h [a]) :=
 aD (bu (jC hc) hg hm a1a (aq ha (aq (gi hg2 hm2 hv hn hd) aM hs2) hs) (by decide) (by decide) hs hpl) fun σ H Q hw=>by
  obtain ⟨pv,Z,Fs,η,w,η',A,ev,k⟩:=hw
  obtain ⟨ws,h1,h2⟩:=cy ev
  obtain ⟨⟨m,u⟩,η1,us,e1,e2,rfl⟩:=aB h1
  cases e2
  obtain ⟨hug,h2⟩:=ifN (show (if u.isH=true then none else some _)=_ from h2)
  cases h2
  refine ⟨pv,Z,Fs,η,(m,u),η',A,e1,fun x Z' H' Fs' G B r s=>?_⟩
  obtain ⟨t1,t2⟩:=lK hug r
  refine ⟨x,thT u,rfl,t1,?_⟩
  have:=cA (bO B s k)
  rw [iM t2]
  rw [show ([c].any fun c=>M.isOne c u)=M.isOne c u by simp] at this
  exact this
theorem CM {c1 c2:String}{k1 k2:Str}{p4 pt:Pos}{kt:Nat}(hc1:c1∈["tuple","str","bool","int","list"])(hv1:bootBuiltins k1=some (.type c1))(hc2:c2∈["tuple","str","bool","int","list"])(hv2:bootBuiltins k2=some (.type c2))(hm:X.mg "isinstance"=none)(hm1:X.mg k1=none)(hm2:X.mg k2=none)(ha:SE X sf C ea a)
  (hg:Gl X "isinstance":=by rfl) (hg1:Gl X k1:=by rfl) (hg2:Gl X k2:=by rfl) (hn1:k1≠"__name__":=by decide) (hd1:(k1==("__debug__":Str))=false:=by decide) (hn2:k2≠"__name__":=by decide) (hd2:(k2==("__debug__":Str))=false:=by decide)
  (hs:starEach [ea,.Tuple [.Name k1 p2,.Name k2 p4] kt pt] X.env=(false,eval ea X.env)::starEach [.Tuple [.Name k1 p2,.Name k2 p4] kt pt] X.env:=by rfl) (hs2:starEach [.Tuple [.Name k1 p2,.Name k2 p4] kt pt] X.env=(false,eval (.Tuple [.Name k1 p2,.Name k2 p4] kt pt) X.env)::starEach [] X.env:=by rfl)
  (hs3:starEach [.Name k1 p2,.Name k2 p4] X.env=(false,eval (.Name k1 p2) X.env)::starEach [.Name k2 p4] X.env:=by rfl) (hs4:starEach [.Name k2 p4] X.env=(false,eval (.Name k2 p4) X.env)::starEach [] X.env:=by rfl) (hpl:(backTo pos (starEach [.Tuple [.Name k1 p2,.Name k2 p4] kt pt] X.env)).any (·.1)=false:=by rfl) :
  SE X sf C (.Call (.Name "isinstance" p3) [ea,.Tuple [.Name k1 p2,.Name k2 p4] kt pt] [] pos) (.op (.isI [c1,c2]) h [a]) :=
 aD (bu (su hc1 hc2) hg hm a1a (aq ha (aq (lA (aq (gi hg1 hm1 hv1 hn1 hd1) (aq (gi hg2 hm2 hv2 hn2 hd2) aM hs4) hs3)) aM hs2) hs) (by decide) (by decide) hs hpl) fun σ H Q hw=>by
  obtain ⟨pv,Z,Fs,η,w,η',A,ev,k⟩:=hw
  obtain ⟨ws,h1,h2⟩:=cy ev
  obtain ⟨⟨m,u⟩,η1,us,e1,e2,rfl⟩:=aB h1
  cases e2
  obtain ⟨hug,h2⟩:=ifN (show (if u.isH=true then none else some _)=_ from h2)
  cases h2
  refine ⟨pv,Z,Fs,η,(m,u),η',A,e1,fun x Z' H' Fs' G B r s=>?_⟩
  refine ⟨(by show 2<=sizeLine; decide),fun p hp=>?_⟩
  have st:=mz (Z:=Z') (G:=fun a=>tot Fs' a\/G a) (df (o:=.tup [.ty c1,.ty c2]) hp)
  obtain ⟨t0,t2⟩:=lK hug r
  have t1:=t0.same (df (o:=.tup [.ty c1,.ty c2]) hp)
  refine ⟨x,thT u,p,rfl,.inl (.inl aj),t1,?_⟩
  have:=cA (gy (df (o:=.tup [.ty c1,.ty c2]) hp) (bO B s k))
  rw [iM t2,iM t2]
  rw [show ([c1,c2].any fun c=>M.isOne c u)=(M.isOne c1 u || M.isOne c2 u) by simp] at this
  exact this
theorem Ec (hm:X.mg "list"=none)(hm2:X.mg "range"=none)(ha:SE X sf C ea a)(hb:SE X sf C eb b)(hc:X.calm=true:=by rfl)(hg:Gl X "list":=by rfl)(hg2:Gl X "range":=by rfl)
  (hs:starEach [.Call (.Name "range" p3) [ea,eb] [] p2] X.env=(false,eval (.Call (.Name "range" p3) [ea,eb] [] p2) X.env)::starEach [] X.env:=by rfl) (hpl:(backTo pos (starEach [] X.env)).any (·.1)=false:=by rfl)
  (hs3:starEach [ea,eb] X.env=(false,eval ea X.env)::starEach [eb] X.env:=by rfl) (hs4:starEach [eb] X.env=(false,eval eb X.env)::starEach [] X.env:=by rfl) (hpl2:(backTo p2 (starEach [eb] X.env)).any (·.1)=false:=by rfl) {p4:Pos} :
  SE X sf C (.Call (.Name "list" p4) [.Call (.Name "range" p3) [ea,eb] [] p2] [] pos) (.op .rng h [a,b]) :=
 aD (bV (fP hc) hg hm a0J (aq (bV mX hg2 hm2 a2M (aq ha (aq hb aM hs4) hs3) (by decide) (by decide) hs3 hpl2) aM hs) (by decide) (by decide) hs hpl) fun σ H Q hw=>by
  obtain ⟨pv,Z,Fs,η,w,η',A,ev,k⟩:=hw
  obtain ⟨ws,h1,h2⟩:=cy ev
  obtain ⟨⟨m,u⟩,η1,us,e1,e2,rfl⟩:=aB h1
  obtain ⟨⟨m',u'⟩,η2,us,e3,e4,rfl⟩:=aB e2
  cases e4
  cases u with
  | int i =>
   cases u' with
   | int j =>
    have h3:(if (decide (i.natAbs < 4611686018427387904)&&decide (j.natAbs < 4611686018427387904)&&M.fits (j-i).toNat)=true then some ((.d,.lst ((a0q (j-i).toNat).map fun (k:Nat)=>M.T.int (i+k))):M.W) else none)=some w:=h2
    split at h3
    ·rename_i hc
     rw [a0p,a0p,decide_eq_true_eq,decide_eq_true_eq] at hc
     cases h3
     refine ⟨pv,Z,Fs,η,(m,.int i),η1,A,e1,fun x Z1 H1 Fs1 G1 A1 r1 s1=>gK A1 e3 fun y Z2 H2 Fs2 G2 A2 r2 d2 s2 t2=>?_⟩
     cases r1
     cases r2
     refine ⟨i,j,rfl,fun p hp=>⟨p,i,j,rfl,aj,⟨by omega,by omega,by omega,by omega⟩,bD (bI hc.2),fun l hl=>?_⟩⟩
     have sm:=df (o:=.rng i j) hp
     have ow:Own Z2 (upd H2 p (.rng i j)) (fun c=>G1 c\/G2 c):=fun a ha=>by
      obtain ⟨z1,ys,z2⟩:=A2.own a ha
      exact ⟨z1,ys,sm a _ z2⟩
     have za:∀ a,Z2 a->upd H2 p (.rng i j) a≠none:=fun a ha q=>by
      cases e:H2 a with
      | none=>exact A2.gd.zal a ha e
      | some o=>rw [sm a o e] at q; cases q
     have kk:=gy sm (bO A2 (s1.trans t2) k)
     refine bJ (m:=.d) (G':=no) ow za (fun _ z=>z.elim) ?_ ?_ (by simp) kk hl
     ·rw [a0b,a0W]; exact bI hc.2
     ·have q1:((a0q (j-i).toNat).map fun (k:Nat)=>M.T.int (i+(k:Int)))=((a0q (j-i).toNat).map fun (k:Nat)=>i+(k:Int)).map M.T.int:=by rw [a0Y]; rfl
      have q2:((a0q (j-i).toNat).map fun (k:Nat)=>V.int (i+(k:Int)))=((a0q (j-i).toNat).map fun (k:Nat)=>i+(k:Int)).map V.int:=by rw [a0Y]; rfl
      rw [q1,q2]
      exact fL _
    ·cases h3
   | _=>cases h2
  | _=>cases u'<;>cases h2
end
end MR

namespace MR
open PySem PySem.Spec PyProof.Rows L2 L3
structure Txt (mg:Str->Option Value):Prop where
 isin:mg "isinstance"=none
 int:mg "int"=none
 tup:mg "tuple"=none
 list:mg "list"=none
 bool:mg "bool"=none
 sum:mg "sum"=none
 len:mg "len"=none
 all:mg "all"=none
 zip:mg "zip"=none
 range:mg "range"=none
 enum:mg "enumerate"=none
 any:mg "any"=none
 max:mg "max"=none
 min:mg "min"=none
 sorted:mg "sorted"=none
 str:mg "str"=none
 repr:mg "repr"=none
 abs:mg "abs"=none
 dict:mg "dict"=none
 set:mg "set"=none
 rev:mg "reversed"=none
theorem frc {X:Cx}{scope:Scope}{cl:List (Str×Addr)}{y:Str}{ys:List Str}{i:Nat}{is:List Nat}{c:Addr}(r:Frees X scope cl ys is)(h1:X.N[i]?=some y:=by rfl)(h2:Vis X.env.scope y:=by first | exact a0F rfl | exact a0B (a0F rfl) | exact a0B (a0B rfl))(h3:X.env.kindOf y=some .cell\/X.env.kindOf y=some .free:=by first | exact a0F rfl | exact a0B rfl)
  (h4:X.env.cells.lookup y=some c:=by rfl) (h5:cl.lookup y=some c:=by rfl) (h6:(relabel scope X.env).names.lookup y=some .cell\/(relabel scope X.env).names.lookup y=some .free:=by first | exact a0F rfl | exact a0B rfl):Frees X scope cl (y::ys) (i::is):=.cons h1 h2 h3 h4 h5 h6 r
theorem iG {X:Cx}{y:Str}{c:Addr}{cl:List (Str×Addr)}(r:Clo X cl)(h:X.env.cells.lookup y=some c:=by rfl):Clo X ((y,c)::cl):=.cons h r
section
variable {X:Cx}{sf sg:Nat->Option Nat}{C:M.Call}{pos p2 p3:Pos}{ea eb ec:Expr}{a b c:M.E}{h:Bool}{n:Nat}{io:List Nat}
section
variable {elt iter cnd:Expr}{x y:Str}{px py pt:Pos}{kt:Nat}{scope:Scope}{tg:List Nat}{k:M.Ik}{src:List M.E}{e cd:M.E}
theorem zC1 (j:Nat)(ls:List Nat)(is:List Nat)(cl:List (Str×Addr))(ys:List Str){z:Str}{pz spos:Pos}{xx:M.X}{i t:Nat}(hi:PI X (.Name x px) iter (wI X.K sf C 1 k src))(he:∀ Ca s H fp,SE (av X ([x]++ys) scope cl Ca s H fp) (inF [t] ls) C elt e)
  (S:aA [x] ys scope) (hcl:Clo X cl) (fr:Frees X scope cl ys is) (hN:X.N.Nodup) (hni:i ∉ io:=by decide) (hsj:sf i=some j:=by rfl) (hj:X.N[j]?=some z:=by rfl) (hz:L2.Loc X.env.scope z:=by first | exact a0F rfl | exact a0B rfl)
  (hsw:swapsWith (.ListComp elt [⟨(.Name x px),iter,[],0⟩] scope pos) (some (.Name z pz)) spos.line X.env=pure true:=by rfl) (hc:X.calm=true:=by rfl) (hl:ls.map sf=is.map some:=by rfl)
  (hclos:closureFor scope X.env=pure cl:=by with_unfolding_all rfl) (hfr:(scope.names.all fun p=>p.2 != .free || (cl.lookup p.1).isSome)=true:=by rfl)
  (hs:∀ v,foldedSetIterable iter X.env v=pure v:=by intro _; rfl) (hfn:X.fn z=true\/X.env.scope.names.lookup z=some .local:=by first | exact .inl rfl | exact .inr rfl):SS X sf io C (.Assign [.Name z pz] (.ListComp elt [⟨(.Name x px),iter,[],0⟩] scope pos) spos) (.asg xx i (.comp h k src [t] none e)) :=
 bW (oj (pre:=[x]) hN hj hz hsw hc hi (AV S) (fun Ca s H fp=>he Ca s H fp) hclos S hcl hfr fr hs hfn) fun D σ H hw=>fZ rfl (by simp) (ek hl) σ H _ (oP hni hsj D σ H hw)
end
noncomputable def cR (P:Program)(w:World)(K:a0a)(mg:Str->Option Value)(base:Heap)(n:Nat)(C:M.Call)(x:Str)(f:Nat)(io:List Nat)(t:M.T):Prop :=
 ∃ fa fd ps d dv,FnOk P w K mg base CX0 n fa fd ps (spS K C f io)/\mg x=some (.ref fa)/\a1b K (.ref fa)=true/\Binds K fd ps [d]/\RelV dv d/\∀ Z H m G,Rep K Z H m t dv G
theorem gA {t:M.T}:∀ {bs:List M.E} {η η':M.Env} {ws:List M.W},M.evA C (bs++[.cst t]) η=.ok (ws,η')->∃ us,M.evA C bs η=.ok (us,η')/\ws=us++[(.d,t)]
 | [],η,η',ws,e=>by
  obtain ⟨u,η1,us,e1,e2,rfl⟩:=cJ (fun _ z=>by cases z) (show M.evA C [.cst t] η=_ from e)
  cases e1
  cases e2
  exact ⟨[],rfl,rfl⟩
 | b::bs,η,η',ws,e=>by
  rcases uO b with ⟨i,rfl⟩ | hb
  ·obtain ⟨us,η1,w,h1,h2,rfl,rfl⟩:=eJ (show M.evA C (.io i::(bs++[.cst t])) η=_ from e)
   obtain ⟨vs,h3,rfl⟩:=gA h1
   refine ⟨w::vs,?_,rfl⟩
   show (M.evA C bs η).bind (M.kIo i)=_
   rw [h3]
   show (M.ofO (M.rd η1 i)).bind _=_
   rw [h2]
   rfl
  ·obtain ⟨u,η1,us,e1,e2,rfl⟩:=cJ hb (show M.evA C (b::(bs++[.cst t])) η=_ from e)
   obtain ⟨vs,h1,rfl⟩:=gA e2
   refine ⟨u::vs,?_,rfl⟩
   rw [M.evA_eq hb,e1]
   show (M.evA C bs η1).bind (M.kCons u)=_
   rw [h1]
   rfl
theorem sk {x:Str}{p:Pos}{f:Nat}{es:List Expr}{bs bs':List M.E}{t:M.T}(c:cR X.prog X.w X.K X.mg X.base n C x f io t)(hr:Room n X.A)(ha:SA X sf C (ea::es) bs)(hbs:bs'=bs++[.cst t]:=by rfl)(hio:fj bs' 0=io\/M.ios bs'=[]:=by first | exact .inl rfl | exact .inr rfl)(hg:Gl X x:=by rfl)(hdb:(x==("__debug__":Str))=false:=by decide)
  (he:starEach (ea::es) X.env=(false,eval ea X.env)::starEach es X.env:=by rfl) (hpl:(backTo pos (starEach es X.env)).any (·.1)=false:=by rfl):SE X sf C (.Call (.Name x p) (ea::es) [] pos) (.call f bs'):=by
 obtain ⟨fa,fd,ps,d,dv,F,hm,hk,hb,hd,hR⟩:=c
 refine aD (jf (E:=E0) F hr hg hm hk hb (.cons hd .nil) lY ha hdb he hpl) fun σ H Q hw=>?_
 subst hbs
 obtain ⟨pv,Z,Fs,η,ws,η',A,ev,k⟩:=mq hio σ H Q hw
 obtain ⟨us,h1,rfl⟩:=gA ev
 refine ⟨pv,Z,Fs,η,us,η',A,h1,fun vs Z' H' Fs' G B r s hv=>?_⟩
 have hl:us.length=bs.length:=iU h1
 refine k (vs++[dv]) Z' H' Fs' G B (RepW.append (G1:=G) (G2:=no) (fun _ z=>z) (fun _ z=>z.elim) (fun _ _ z=>z) r (RepW.one (hR _ _ _ _))) s fun j i u hj hu=>?_
 by_cases q:j < bs.length
 ·rw [a0M q] at hj
  have:=hv j i u hj hu
  rw [a0M (by rw [r.length]; omega)]
  exact this
 ·rw [a0R (by omega)] at hj
  cases e:j-bs.length with
  | zero=>rw [e] at hj; simp at hj
  | succ m=>rw [e] at hj; simp at hj
end
end MR

namespace MR
open PySem PySem.Spec PyProof.Rows L2 L3
section
variable {P:Program}{w:World}{K:a0a}{mg:Str->Option Value}{base:Heap}
theorem FunD.okM {dV:Value}{x qual:Str}{st:Stmt}{f:Addr}{fd:FuncData}{N ps:List Str}{k:Nat}{C:M.Call}{d:M.Fn}(F:L3.FunD K x qual st f fd dV)(S:ao N ps (defScope st))(hps:d.ps=ps.length)(hle:ps.length<=N.length)(nd:d.io.Nodup)(hio:∀ i∈d.io,i < ps.length)
  (hbody:∀ (cdv:Value) (A:Around) (outer:List Env) (s:Shared) (H:Hp) (E:XK),Room k (A.deeper (envOfC qual (defScope st) s.heap.objs.size f cdv)) ->
   SSs (cZ CX0 P w K mg base N qual (defScope st) f cdv A outer s H E).nox (slN N.length) d.io C (defBody st) d.body) {g:Nat} {C':M.Call} (hC:∀ ws,C' g ws=M.runF C d ws):FnOk P w K mg base CX0 (k+1) f fd ps (spS K C' g d.io):=by
 have len:∀ vs H Q E,spS K C' g d.io vs H Q E->vs.length=ps.length:=fun vs H Q E ⟨Z,ws,G,w,bs,r,_,_,hr,_⟩=>by
  rw [hC] at hr
  unfold M.runF at hr
  split at hr
  ·rename_i h; rw [r.length,h,hps]
  ·cases hr
 refine F.ok S len fun cdv A outer s H vs Q E hr h=>⟨_,hbody cdv A outer s H E hr,?_⟩
 have hlen:=len vs H Q E h
 obtain ⟨Z,ws,G,w,bs,r,o,z,hc,q⟩:=h
 rw [hC] at hc
 have hwl:ws.length=d.ps:=by rw [<- r.length,hlen,hps]
 rw [M.x_run _ _ _ hwl] at hc
 obtain ⟨Fs,ft,A0⟩:=gx (n:=d.ns) (io:=d.io) r o z (N:=N) (by omega)
 refine ⟨_,Z,Fs,_,⟨fun i i' j h h'=>?_,fun i h=>if_neg h⟩,A0,?_⟩
 ·simp only [slN] at h h'
  split at h
  ·split at h'
   ·cases h; cases h'; rfl
   ·cases h'
  ·cases h
 have hv:∀ i∈d.io,(if i∈d.io then vs[i]? else none)=vs[i]?/\i < vs.length:=fun i hi=>⟨if_pos hi,hlen ▸ hio i hi⟩
 cases e:M.evSs C d.body (ws.map some++a0h d.ns none) with
 | nx η =>
  rw [e] at hc
  intro σ' Z' H' Fs' A' t
  simp only [M.Fl.out] at hc
  cases e2:M.backs d.io η with
  | none=>rw [e2] at hc; cases hc
  | some cs =>
   rw [e2] at hc
   cases hc
   refine q .non Z' H' no _ rfl (cQ A' nd hv e2) (fun _ h=>h.elim) (fun a h=>h.elim (fun z=>z.elim) fun ⟨i,_,z⟩=>A'.gd.own a ⟨i,z⟩) (t.mono ft fun a h=>h.elim (fun z=>z.elim) fun ⟨i,_,z⟩=>⟨i,z⟩)
 | rt u η =>
  rw [e] at hc
  intro v σ' Z' H' Fs' G' A' rp t
  simp only [M.Fl.out] at hc
  cases e2:M.backs d.io η with
  | none=>rw [e2] at hc; cases hc
  | some cs =>
   rw [e2] at hc
   cases hc
   exact q v Z' H' G' _ rp (cQ A' nd hv e2) (fun a h ⟨i,_,z⟩=>A'.dis a h ⟨i,z⟩) (fun a h=>h.elim (A'.own a) fun ⟨i,_,z⟩=>A'.gd.own a ⟨i,z⟩) (t.mono ft fun a h=>h.elim .inr fun ⟨i,_,z⟩=>.inl ⟨i,z⟩)
 | bk η=>rw [e] at hc; cases hc
 | ex t η=>rw [e] at hc; cases hc
 | no=>rw [e] at hc; cases hc
theorem yo {us:List Value}{d:Value}(h:(us++[d]).length=3):∃ a b,us=[a,b]:=by
 match us,h with
 | [a,b],_=>exact ⟨a,b,rfl⟩
 | [],h=>cases h
 | [_],h=>cases h
 | _::_::_::_,h=>simp at h
theorem jx {C:M.Call}{g:Nat}{io:List Nat}{vs:List V}{H:Hp}{Q:VK}{E:XK}(hC:∀ ws,C g ws=.no)(h:spS K C g io vs H Q E):False:=by
 obtain ⟨Z,ws,G,w,bs,_,_,_,e,_⟩:=h
 rw [hC] at e
 cases e
theorem fn0 {f:Addr}{fd:FuncData}{ps:List Str}{k g:Nat}{io:List Nat}{C:M.Call}(hC:∀ ws,C g ws=.no):FnOk P w K mg base CX0 k f fd ps (spS K C g io) :=
 ⟨fun _ _ _ _ h=>(jx hC h).elim,fun _ _ _ _ _ _ _ _ _ _ _ _ _ h=>(jx hC h).elim⟩
theorem lE {Z:Fp}{H:Hp}{a:Addr}{ns:List Int}(hO:pQ H)(hl:ns.length<=63)(h:SqL K H a (ns.map V.int)):Rep K Z H .d (.scr ns) (.ref a) no:=by
 refine ⟨a,rfl,a0o hl (by decide),?_⟩
 rcases h with (z | ⟨o,z⟩) | z
 ·rcases hO a with y | ⟨o,xs,y⟩<;>rw [y] at z<;>cases z
 ·exact .inl ⟨o,z⟩
 ·exact .inr (.inr z)
theorem As {H:Hp}{a:Addr}{ns:List Int}{C:M.Call}{ix:Nat}(hp:∃ m bs,C ix [(.d,.scr ns)]=.ok ((m,.bl true),bs))(hl:ns.length<=63)(hO:pQ H)(h:SqL K H a (ns.map V.int)):spS K C ix [] [.ref a] H (fun v _=>v=.bl true) fun _ _ _=>False:=by
 obtain ⟨m,bs,e⟩:=hp
 exact ⟨no,[(.d,.scr ns)],no,(m,.bl true),bs,RepW.one (lE hO hl h),cB,fun _ z=>z.elim,e,fun v Z' H' G1 G2 r _ _ _ _=>r⟩
end
end MR

namespace MR
open PySem PySem.Spec PyProof.Rows L2 L3
mutual
noncomputable def HasA (K:a0a)(H:Hp):Th->V->List Addr->Prop
 | .non,v,as=>v=.non/\as=[]
 | .bl b,v,as=>v=.bl b/\as=[]
 | .int i,v,as=>v=.int i/\as=[]
 | .str x,v,as=>v=.str x/\as=[]
 | .tup ts,v,as=>∃ a vs,v=.ref a/\SqT K H a vs/\HasAL K H ts vs as
 | .lst ts,v,as=>∃ a vs bs,v=.ref a/\H a=some (.lst vs)/\HasAL K H ts vs bs/\as=a::bs
noncomputable def HasAL (K:a0a)(H:Hp):List Th->List V->List Addr->Prop
 | [],vs,as=>vs=[]/\as=[]
 | t::ts,vs,as=>∃ v r b c,vs=v::r/\HasA K H t v b/\HasAL K H ts r c/\as=b++c
end
mutual
theorem HasA.has {K:a0a}{H:Hp}:∀ {t:Th} {v:V} {as:List Addr},HasA K H t v as->Has K H t v
 | .non,_,_,h=>h.1
 | .bl _,_,_,h=>h.1
 | .int _,_,_,h=>h.1
 | .str _,_,_,h=>h.1
 | .tup _,_,_,⟨a,vs,e,q,r⟩=>⟨a,vs,e,q,HasAL.has r⟩
 | .lst _,_,_,⟨a,vs,_,e,q,r,_⟩=>⟨a,vs,e,q,HasAL.has r⟩
theorem HasAL.has {K:a0a}{H:Hp}:∀ {ts:List Th} {vs:List V} {as:List Addr},HasAL K H ts vs as->HasL K H ts vs
 | [],_,_,h=>h.1
 | _::_,_,_,⟨v,r,_,_,e,q,z,_⟩=>⟨v,r,e,HasA.has q,HasAL.has z⟩
end
mutual
theorem HasA.lists {K:a0a}{H:Hp}:∀ {t:Th} {v:V} {as:List Addr},HasA K H t v as->∀ b∈as,∃ zs,H b=some (.lst zs)
 | .non,_,_,h,b,hb=>by rw [h.2] at hb; cases hb
 | .bl _,_,_,h,b,hb=>by rw [h.2] at hb; cases hb
 | .int _,_,_,h,b,hb=>by rw [h.2] at hb; cases hb
 | .str _,_,_,h,b,hb=>by rw [h.2] at hb; cases hb
 | .tup _,_,_,⟨a,vs,e,q,r⟩,b,hb=>HasAL.lists r b hb
 | .lst _,_,_,⟨a,vs,bs,e,q,r,e2⟩,b,hb=>by
  rw [e2] at hb
  rcases a0n.mp hb with z | z
  ·rw [z]; exact ⟨vs,q⟩
  ·exact HasAL.lists r b z
theorem HasAL.lists {K:a0a}{H:Hp}:∀ {ts:List Th} {vs:List V} {as:List Addr},HasAL K H ts vs as->∀ b∈as,∃ zs,H b=some (.lst zs)
 | [],_,_,h,b,hb=>by rw [h.2] at hb; cases hb
 | _::_,_,_,⟨v,r,b1,c,e,q,z,e2⟩,b,hb=>by
  rw [e2] at hb
  rcases a0T.mp hb with y | y
  ·exact HasA.lists q b y
  ·exact HasAL.lists z b y
end
structure SBs (as:List Addr)(H H':Hp):Prop where
 keep:∀ b u,b ∉ as->H b=some u->H' b=some u
 al:∀ b,H b≠none->H' b≠none
instance {as:List Addr} {H H':Hp}:CoeFun (SBs as H H') (fun _=>∀ b u,b ∉ as->H b=some u->H' b=some u):=⟨fun s=>s.keep⟩
theorem SBs.refl {as:List Addr}{H:Hp}:SBs as H H:=⟨fun _ _ _ z=>z,fun _ z=>z⟩
theorem SBs.trans {as bs:List Addr}{H H' H'':Hp}(x:SBs as H H')(y:SBs bs H' H''):SBs (as++bs) H H'':=⟨fun b u n q=>y b u (fun z=>n (a0m _ z)) (x b u (fun z=>n (a0v _ z)) q),fun b h=>y.al b (x.al b h)⟩
theorem iJ {H H':Hp}(s:Same H H'):∀ b,H b≠none->H' b≠none:=fun b h=>by
 cases e:H b with
 | none=>exact absurd e h
 | some o=>rw [s b o e]; simp
theorem SBs.same {as:List Addr}{H H':Hp}(s:Same H H'):SBs as H H':=⟨fun b u _ q=>s b u q,iJ s⟩
theorem ki {K:a0a}{H H':Hp}{cs:List Addr}{a:Addr}{vs:List V}(s:SBs cs H H')(hc:∀ b∈cs,∃ zs,H b=some (.lst zs))(h:SqT K H a vs):SqT K H' a vs:=by
 rcases h with (z | ⟨o,z⟩) | z
 ·exact .inl (.inl (s _ _ (fun y=>by obtain ⟨zs,e⟩:=hc _ y; rw [z] at e; cases e) z))
 ·exact .inl (.inr ⟨o,s _ _ (fun y=>by obtain ⟨zs,e⟩:=hc _ y; rw [z] at e; cases e) z⟩)
 ·exact .inr z
mutual
theorem HasA.kept {K:a0a}{H H':Hp}{cs:List Addr}(s:SBs cs H H')(hc:∀ b∈cs,∃ zs,H b=some (.lst zs)):∀ {t:Th} {v:V} {as:List Addr},HasA K H t v as->(∀ b∈as,b ∉ cs)->HasA K H' t v as
 | .non,_,_,h,_=>h
 | .bl _,_,_,h,_=>h
 | .int _,_,_,h,_=>h
 | .str _,_,_,h,_=>h
 | .tup _,_,_,⟨a,vs,e,q,r⟩,d=>⟨a,vs,e,ki s hc q,HasAL.kept s hc r d⟩
 | .lst _,_,_,⟨a,vs,bs,e,q,r,e2⟩,d=>⟨a,vs,bs,e,s _ _ (d a (by rw [e2]; exact a0k)) q,HasAL.kept s hc r fun b hb=>d b (by rw [e2]; exact a0c _ hb),e2⟩
theorem HasAL.kept {K:a0a}{H H':Hp}{cs:List Addr}(s:SBs cs H H')(hc:∀ b∈cs,∃ zs,H b=some (.lst zs)):∀ {ts:List Th} {vs:List V} {as:List Addr},HasAL K H ts vs as->(∀ b∈as,b ∉ cs)->HasAL K H' ts vs as
 | [],_,_,h,_=>h
 | _::_,_,_,⟨v,r,b1,c,e,q,z,e2⟩,d=>⟨v,r,b1,c,e,HasA.kept s hc q fun b hb=>d b (by rw [e2]; exact a0v _ hb),HasAL.kept s hc z fun b hb=>d b (by rw [e2]; exact a0m _ hb),e2⟩
end
theorem HasA.mono {K:a0a}{H H':Hp}(s:Same H H'){t:Th}{v:V}{as:List Addr}(h:HasA K H t v as):HasA K H' t v as:=HasA.kept (cs:=[]) (SBs.same s) (fun _ z=>nomatch z) h fun _ _ z=>nomatch z
theorem HasAL.mono {K:a0a}{H H':Hp}(s:Same H H'){ts:List Th}{vs:List V}{as:List Addr}(h:HasAL K H ts vs as):HasAL K H' ts vs as:=HasAL.kept (cs:=[]) (SBs.same s) (fun _ z=>nomatch z) h fun _ _ z=>nomatch z
theorem HasAL.at {K:a0a}{H:Hp}:∀ {ts:List Th} {vs:List V} {as:List Addr} {x:V} {r:List V},HasAL K H ts vs as->vs=x::r->∃ t us b c,ts=t::us/\HasA K H t x b/\HasAL K H us r c/\as=b++c
 | [],_,_,_,_,h,e=>by rw [h.1] at e; cases e
 | t::us,_,_,_,_,⟨v,r',b,c,e1,q,z,e2⟩,e=>by
  rw [e1] at e
  cases e
  exact ⟨t,us,b,c,rfl,q,z,e2⟩
noncomputable def WSx:Nat->Th->Prop
 | 0,_=>False
 | _+1,.non=>True
 | _+1,.bl _=>True
 | _+1,.int _=>True
 | _+1,.str _=>True
 | n+1,.tup ts=>ts.length<=M.LIM/\∀ u∈ts,WSx n u
 | n+1,.lst ts=>ts.length<=M.LIM/\∀ u∈ts,WSx n u
noncomputable def fD (K:a0a)(n:Nat):Sp:=fun vs H Q _=>∃ (v:V) (t:Th) (as:List Addr),vs=[v]/\HasA K H t v as/\as.Nodup/\WSx n t/\∀ H',SBs as H H'->Q .non H'
mutual
theorem jI {K:a0a}{Z:Fp}{H:Hp}:∀ {t:M.T} {v:V} {G:Fp} {n:Nat},M.dp t<=n->n<=64->Rep K Z H .d t v G->∃ as,HasA K H (th t) v as/\as.Nodup/\(∀ b∈as,G b)/\WSx (n+1) (th t)
 | .non,_,_,_,_,_,r=>⟨[],⟨r,rfl⟩,a2b,fun _ h=>(nomatch h),a0x⟩
 | .bl _,_,_,_,_,_,r=>⟨[],⟨r,rfl⟩,a2b,fun _ h=>(nomatch h),a0x⟩
 | .int _,_,_,_,_,_,r=>⟨[],⟨r,rfl⟩,a2b,fun _ h=>(nomatch h),a0x⟩
 | .str x,_,_,_,_,_,r=>⟨[],⟨r.1,rfl⟩,a2b,fun _ h=>(nomatch h),a0x⟩
 | .tup ts,v,G,n,hd,hn,⟨a,xs,e,q,l,r⟩=>by
  have hd':M.dps ts+1<=n:=hd
  match n,hd' with
  | n+1,hd' =>
   obtain ⟨as,h1,h2,h3,h4⟩:=eS (n:=n) (by omega) (by omega) r
   exact ⟨as,⟨a,xs,e,q,h1⟩,h2,h3,by rw [<- h1.has.length]; exact l,h4⟩
 | .lst ts,v,G,n,hd,hn,⟨a,xs,e,l,q,r⟩=>by
  have hd':M.dps ts+1<=n:=hd
  match n,hd' with
  | n+1,hd' =>
   obtain ⟨as,h1,h2,h3,h4⟩:=eS (n:=n) (by omega) (by omega) r
   refine ⟨a::as,⟨a,xs,as,e,q.2,h1,rfl⟩,a1n.mpr ⟨fun z=>(h3 a z).2 rfl,h2⟩,fun b hb=>?_,by rw [<- h1.has.length]; exact l,h4⟩
   rcases a0n.mp hb with z | z
   ·rw [z]; exact q.1
   ·exact (h3 b z).1
 | .dct _ _,_,_,_,hd,hn,_=>by have:1000<=64:=a0o hd hn; omega
 | .ins _ _ _,_,_,_,hd,hn,_=>by have:1000<=64:=a0o hd hn; omega
 | .gone,_,_,_,hd,hn,_=>by have:1000<=64:=a0o hd hn; omega
 | .scr _,_,_,_,hd,hn,_=>by have:1000<=64:=a0o hd hn; omega
theorem eS {K:a0a}{Z:Fp}{H:Hp}:∀ {ts:List M.T} {xs:List V} {G:Fp} {n:Nat},M.dps ts<=n->n<=64->RepL K Z H .d ts xs G->∃ as,HasAL K H (ths ts) xs as/\as.Nodup/\(∀ b∈as,G b)/\∀ u∈ths ts,WSx (n+1) u
 | [],_,_,_,_,_,r=>⟨[],⟨r,rfl⟩,a2b,fun _ h=>(nomatch h),fun _ h=>(nomatch h)⟩
 | t::ts,xs,G,n,hd,hn,⟨x,r,G1,G2,e,w1,w2,d,p,q⟩=>by
  have hd':max (M.dp t) (M.dps ts)<=n:=hd
  obtain ⟨as,h1,h2,h3,h4⟩:=jI (n:=n) (by omega) hn p
  obtain ⟨bs,k1,k2,k3,k4⟩:=eS (n:=n) (by omega) hn q
  refine ⟨as++bs,⟨x,r,as,bs,e,h1,k1,rfl⟩,a2I.mpr ⟨h2,k2,fun a ha b hb z=>d a (h3 a ha) (k3 a (z ▸ hb))⟩,fun b hb=>(a0T.mp hb).elim (fun z=>w1 b (h3 b z)) fun z=>w2 b (k3 b z),fun u hu=>?_⟩
  rcases a0n.mp (show u∈th t::ths ts from hu) with z | z
  ·rw [z]; exact h4
  ·exact k4 u z
end
theorem WSx.mono:∀ {n m:Nat} {t:Th},n<=m->WSx n t->WSx m t
 | 0,_,_,_,h=>h.elim
 | n+1,m+1,.non,_,_=>a0x
 | n+1,m+1,.bl _,_,_=>a0x
 | n+1,m+1,.int _,_,_=>a0x
 | n+1,m+1,.str _,_,_=>a0x
 | n+1,m+1,.tup ts,e,⟨h1,h2⟩=>⟨h1,fun u hu=>WSx.mono (by omega) (h2 u hu)⟩
 | n+1,m+1,.lst ts,e,⟨h1,h2⟩=>⟨h1,fun u hu=>WSx.mono (by omega) (h2 u hu)⟩
theorem n9 {K:a0a}{C:M.Call}{g n:Nat}{vs:List V}{H:Hp}{Q:VK}{E:XK}(hC:∀ ws,C g ws=M.spoilW n ws)(h:spS K C g [] vs H Q E):fD K (n+1) vs H Q E:=by
 obtain ⟨Z,ws,G,w,bs,r,ow,za,e,q⟩:=h
 rw [hC] at e
 match ws,e,r with
 | [(m,t)],e,r =>
  have e':(if (M.lf m t==.d&&(decide (M.dp t<=n)&&decide (M.dp t<=64)))=true then M.Res.ok (((.d,.non):M.W),([]:List M.W)) else .no)=.ok (w,bs):=e
  split at e'
  ·rename_i hc
   rw [a0p,a0p,beq_iff_eq,decide_eq_true_eq,decide_eq_true_eq] at hc
   cases e'
   obtain ⟨x,r',G1,G2,e1,w1,w2,d,r1,r2⟩:=r
   cases (show r'=[] from r2)
   have r3:=r1.lf
   rw [hc.1] at r3
   obtain ⟨as,h1,h2,h3,h4⟩:=jI (n:=M.dp t) (a0d _) hc.2.2 r3
   refine ⟨x,th t,as,e1,h1,h2,WSx.mono (by omega) h4,fun H' s=>?_⟩
   refine q .non Z H' no no rfl rfl (fun _ z=>z.elim) (fun _ z=>z.elim (fun y=>y.elim) fun y=>y.elim) ⟨fun a o ha hg=>s a o (fun z=>hg (w1 a (h3 a z))) ha,fun _ z=>z,fun _ z=>.inl z,fun _ z=>z.elim (fun y=>y.elim) fun y=>y.elim,s.al,fun z a ha=>s.al a (z a ha)⟩
  ·cases e'
 | [],e,_=>cases e
 | _::_::_,e,_=>cases e
theorem le2:2<=sizeLine:=by decide
end MR

namespace MR
open PySem PySem.Spec PyProof.Rows L2 L3
section
variable {X:Cx}{sf sg:Nat->Option Nat}{io:List Nat}{C:M.Call}{pos p2:Pos}{ea eb ec:Expr}{a b c:M.E}{h:Bool}{n:Nat}
theorem AM {rest:List Expr}{ta tb:TE}(ha:PE X ea ta)(hb:PE X (.BoolOp .Or (eb::rest) pos) tb):PE X (.BoolOp .Or (ea::eb::rest) pos) (fun σ H Q=>ta σ H fun x H1=>∃ k,rh X.K x H1 k/\if k=true then Q x H1 else tb σ H1 Q):=by
 intro pins s σ H Q I h
 refine BoolOp_or (thn (ha pins s σ H _ I h) fun v s1 ⟨x,H1,I1,r1,q1⟩=>?_)
 refine thn (kO pins s1 σ H1 x v (fun k H2=>if k=true then Q x H2 else tb σ H2 Q) I1 r1 q1) fun k s2 ⟨H2,I2,q2⟩=>?_
 cases k with
 | false=>exact hb pins s2 σ H2 Q I2 (by rw [if_neg a0r] at q2; exact q2)
 | true=>exact ⟨x,H2,I2,r1,by rw [if_pos rfl] at q2; exact q2⟩
theorem vO1 (ha:SE X sf C ea a):SE X sf C (.BoolOp .Or [ea] pos) a:=Am ha
theorem vOr {rest:List Expr}(ha:SE X sf C ea a)(hb:SE X sf C (.BoolOp .Or (eb::rest) pos) b):SE X sf C (.BoolOp .Or (ea::eb::rest) pos) (.or a b):=aD (AM ha hb) fun σ H Q h=>by
 obtain ⟨pv,Z,Fs,η,w,η',A,ev,k⟩:=BM σ H Q h
 exact ⟨pv,Z,Fs,η,w,η',A,ev,fun v Z' H' Fs' G B r s=>let ⟨c,t,q⟩:=k v Z' H' Fs' G B r s; ⟨c,iI t,q⟩⟩
theorem sBW (h:SE X sf C ea a):SE X sf C ea a:=h
end
end MR

namespace MR
open PySem PySem.Spec PyProof.Rows L2 L3
section
variable {K:a0a}{Z:Fp}{H H':Hp}{G G' Gn:Fp}{Q:VK}
theorem ic (same:∀ b o,H b=some o->H' b=some o):Stay Z H H':=by
 refine ⟨fun a o _ e=>same a o e,fun a ys e=>?_,fun a o u e=>same a _ e⟩
 rcases e with e | ⟨u,e⟩
 ·exact .inl (same a _ e)
 ·exact .inr ⟨u,same a _ e⟩
theorem jW {w:M.W}{v:V}(ow:Own Z H G)(za:∀ a,Z a->H a≠none)(hg:∀ a,G' a->G a)(same:∀ b o,H b=some o->H' b=some o)(hn:∀ a,Gn a->H a=none/\∃ xs,H' a=some (.lst xs))
  (r:Rep K (bB Z G G') H' w.1 w.2 v (fun a=>G' a\/Gn a)) (k:Out K Z H G w Q):Q v H':=by
 have al:∀ a,H a≠none->H' a≠none:=fun a h=>by
  cases e:H a with
  | none=>exact absurd e h
  | some o=>rw [same a o e]; simp
 refine k v (bB Z G G') H' _ r (fun a h=>?_) ⟨fun a o e _=>same a o e,fun a h=>.inl h,fun a h=>h.imp id fun q=>.inl q.1,fun a h=>h.elim (fun z=>.inl (hg a z)) fun z=>.inr (hn a z).1,al,fun q a h=>al a ?_⟩
 ·rcases h with h | h
  ·obtain ⟨nz,ys,e⟩:=ow a (hg a h)
   exact ⟨fun z=>z.elim nz fun q=>q.2 h,ys,same a _ e⟩
  ·obtain ⟨e,ys,e'⟩:=hn a h
   refine ⟨fun z=>z.elim (fun q=>za a q e) fun q=>?_,.inl ys,e'⟩
   obtain ⟨_,zs,e2⟩:=ow a q.1
   rw [e] at e2; cases e2
 ·rcases h with h | h
  ·exact q a h
  ·obtain ⟨_,ys,e⟩:=ow a h.1
   rw [e]; simp
theorem RepL.split {m:M.Md}:∀ {ts us:List M.T} {xs ys:List V} {G:Fp},xs.length=ts.length->RepL K Z H m (ts++us) (xs++ys) G->∃ G1 G2,(∀ a,G1 a->G a)/\(∀ a,G2 a->G a)/\(∀ a,G1 a->¬ G2 a)/\RepL K Z H m ts xs G1/\RepL K Z H m us ys G2
 | [],us,[],ys,G,_,r=>⟨no,G,fun _ z=>z.elim,fun _ z=>z,fun _ z=>z.elim,rfl,r⟩
 | t::ts,us,x::xs,ys,G,hl,⟨x',r',A,B,e,a1,a2,ad0,p,q⟩=>by
  cases e
  obtain ⟨G1,G2,g1,g2,gd,q1,q2⟩:=RepL.split (Nat.succ.inj hl) q
  exact ⟨fun a=>A a\/G1 a,G2,fun a h=>h.elim (a1 a) fun z=>a2 a (g1 a z),fun a h=>a2 a (g2 a h),fun a h z=>h.elim (fun y=>ad0 a y (g2 a z)) fun y=>gd a y z,⟨x,xs,A,G1,rfl,fun _ z=>.inl z,fun _ z=>.inr z,fun a h z=>ad0 a h (g1 a z),p,q1⟩,q2⟩
 | [],_,_::_,_,_,hl,_=>by cases hl
 | _::_,_,[],_,_,hl,_=>by cases hl
theorem RepL.cut {m:M.Md}:∀ (n:Nat) {ts:List M.T} {xs:List V} {G:Fp},RepL K Z H m ts xs G->∃ G1 G2,(∀ a,G1 a->G a)/\(∀ a,G2 a->G a)/\(∀ a,G1 a->¬ G2 a)/\RepL K Z H m (ts.take n) (xs.take n) G1/\RepL K Z H m (ts.drop n) (xs.drop n) G2:=fun n ts xs G r=>by
 refine RepL.split (by rw [a02,a02,r.length]) ?_
 rw [a1s,a1s]
 exact r
theorem lV {N:M.Md}:∀ {ts us:List M.T} {xs ys:List V} {ps:List Addr} {A B:Fp},RepL K Z H N ts xs A->RepL K Z H N us ys B->(∀ a,A a->¬ B a)->ps.length=min xs.length ys.length->(∀ (j:Nat) (p:Addr),ps[j]?=some p->∃ x y,xs[j]?=some x/\ys[j]?=some y/\SqT K H p [x,y]) ->
  RepL K Z H N.up (M.zipP ts us) (ps.map V.ref) (fun a=>A a\/B a)
 | [],us,xs,ys,ps,A,B,r1,_,_,hl,_=>by
  cases (show xs=[] from r1)
  rw [a25,Nat.zero_min] at hl
  cases a16.mp hl
  rfl
 | _::_,[],xs,ys,ps,A,B,_,r2,_,hl,_=>by
  cases (show ys=[] from r2)
  rw [a25,Nat.min_zero] at hl
  cases a16.mp hl
  rfl
 | t::ts,u::us,xs,ys,ps,A,B,⟨x,r,A1,A2,e,a1,a2,ad0,p,q⟩,⟨y,r',B1,B2,e',b1,b2,bd,p',q'⟩,d,hl,hp=>by
  cases e
  cases e'
  match ps,hl,hp with
  | [],hl,_=>rw [a0g,a0g] at hl; simp at hl
  | c::ps,hl,hp =>
   refine ⟨.ref c,ps.map V.ref,fun a=>A1 a\/B1 a,fun a=>A2 a\/B2 a,rfl,fun a h=>h.imp (a1 a) (b1 a),fun a h=>h.imp (a2 a) (b2 a),fun a h z=>?_,?_,lV q q' (fun a h z=>d a (a2 a h) (b2 a z)) (by rw [a0g,a0g,a0g] at hl; omega) fun j p h=>hp (j+1) p h⟩
   ·rcases h with h | h<;>rcases z with z | z
    ·exact ad0 a h z
    ·exact d a (a1 a h) (b2 a z)
    ·exact d a (a2 a z) (b1 a h)
    ·exact bd a h z
   ·obtain ⟨x',y',e1,e2,hq⟩:=hp 0 c rfl
    cases e1
    cases e2
    refine ⟨c,[x,y],rfl,hq,(by decide:2<=M.LIM),?_⟩
    rw [cF]
    exact ⟨x,[y],A1,B1,rfl,fun _ z=>.inl z,fun _ z=>.inr z,fun a h z=>d a (a1 a h) (b1 a z),p,RepL.one p'⟩
theorem g9 {m:M.Md}{a:M.T}{ts:List M.T}{v:V}{G:Fp}(e:M.elems (m,a)=some ts)(r:Rep K Z H m a v G):∃ k p xs,v=.ref p/\Sq K H k p xs/\xs.length<=M.LIM/\RepL K Z H m.kid ts xs G:=by
 cases a with
 | lst us =>
  cases e
  obtain ⟨p,xs,rfl,hs,hl,q⟩:=bh r
  exact ⟨false,p,xs,rfl,SqL.of hs,hl,q⟩
 | tup us =>
  cases e
  obtain ⟨p,xs,rfl,hs,hl,q⟩:=dh r
  exact ⟨true,p,xs,rfl,hs,hl,q⟩
 | _=>cases e
theorem rR {h:Bool}:Loc K 2 .lzip h fun vs H1 Q=>∃ k1 k2 a1 a2 xs ys,vs=[.ref a1,.ref a2]/\Sq K H1 k1 a1 xs/\Sq K H1 k2 a2 ys/\∀ l ps,ps.length=min xs.length ys.length->ps.Pairwise (· < ·)->(∀ p∈ps,H1 p=none/\l < p)->H1 l=none->Q (.ref l) (upd (fw H1 ps xs ys) l (.lst (ps.map V.ref))):=by
 intro ws w vs Z H G Q hn e r ow za k
 match ws,hn,r,e with
 | [(m,a),(n,b)],_,r,e =>
  obtain ⟨x,y,rfl⟩:∃ x y,vs=[x,y]:=by
   have:=r.length
   match vs,this with
   | [x,y],_=>exact ⟨x,y,rfl⟩
  obtain ⟨G1,G2,w1,w2,d,r1,r2⟩:=cM r
  have e0:((M.elems (m,a)).bind fun ts=>(M.elems (n,b)).bind fun us=>some (((m.kid.meet n.kid).up.up,.lst (M.zipP ts us)):M.W))=some w:=e
  cases ea:M.elems (m,a) with
  | none=>rw [ea] at e0; cases e0
  | some ts =>
   cases eb:M.elems (n,b) with
   | none=>rw [ea,eb] at e0; cases e0
   | some us =>
    rw [ea,eb] at e0
    cases e0
    obtain ⟨k1,p1,xs,rfl,s1,l1,q1⟩:=g9 ea r1
    obtain ⟨k2,p2,ys,rfl,s2,l2,q2⟩:=g9 eb r2
    refine ⟨k1,k2,p1,p2,xs,ys,rfl,s1,s2,fun l ps hl hr hp hl0=>?_⟩
    obtain ⟨G',hg,rr⟩:=ej w1 w2 d q1 q2
    have hlp:l ∉ ps:=fun hm=>a0N _ (hp l hm).2
    have same:∀ b o,H b=some o->upd (fw H ps xs ys) l (.lst (ps.map V.ref)) b=some o:=fun b o e=>by
     have h1:b≠l:=fun z=>by rw [z,hl0] at e; cases e
     have h2:b ∉ ps:=fun z=>by rw [(hp b z).1] at e; cases e
     rw [ag h1,cO h2]; exact e
    have rr':=rr.keep (Z':=bB Z G G') (ic same) (fun _ z=>z) fun a o _ e=>same a o e
    obtain ⟨A,B,a1,a2,ad0,qa,qb⟩:=RepL.split q1.length rr'
    refine jW (w:=((m.kid.meet n.kid).up.up,.lst (M.zipP ts us))) (K:=K) (G':=G') (Gn:=fun a=>a=l) ow za hg same (fun a h=>by rw [h]; exact ⟨hl0,_,aj⟩) ⟨l,ps.map V.ref,rfl,by rw [a0b,hl]; omega,(LstR.own (bq _)).mpr ⟨.inr rfl,aj⟩,?_⟩ k
    rw [cF]
    refine (lV qa qb ad0 hl fun j p hj=>?_).mono fun b hb=>?_
    ·obtain ⟨x,y,e1,e2,e3⟩:=ji (H:=H) (xs:=xs) (ys:=ys) hr (by omega) (by omega) hj
     refine ⟨x,y,e1,e2,.inl (.inl ?_)⟩
     rw [ag (fun z=>hlp (by rw [<- z]; exact a03 hj))]; exact e3
    ·have hbG:G' b:=hb.elim (a1 b) (a2 b)
     refine ⟨.inl hbG,fun z=>?_⟩
     obtain ⟨_,zs,e⟩:=ow b (hg b hbG)
     rw [z,hl0] at e; cases e
end
section
variable {X:Cx}{sf sg:Nat->Option Nat}{io:List Nat}{C:M.Call}{pos pos2 p p2:Pos}{ea eb ec:Expr}{a b c:M.E}{h:Bool}{n:Nat}
theorem sLZ (hml:X.mg "list"=none)(hm:X.mg "zip"=none)(ha:SE X sf C ea a)(hb:SE X sf C eb b)(hc:X.calm=true:=by rfl)(hgl:Gl X "list":=by rfl)(hg:Gl X "zip":=by rfl)
  (hs:starEach [ea,eb] X.env=[(false,eval ea X.env),(false,eval eb X.env)]:=by rfl) (hs2:starEach [eb] X.env=[(false,eval eb X.env)]:=by rfl)
  (he:starEach [.Call (.Name "zip" p2) [ea,eb] [] pos2] X.env=(false,eval (.Call (.Name "zip" p2) [ea,eb] [] pos2) X.env)::starEach [] X.env:=by rfl) :
  SE X sf C (.Call (.Name "list" p) [.Call (.Name "zip" p2) [ea,eb] [] pos2] [] pos) (.op .lzip h [a,b]) :=
 aD (CV hc hgl hml hg hm (slc ha (slc hb sl0 hs2) (by rw [hs,hs2])) hs hs2 he) (gQ rR rfl)
end
theorem nq {H H2:Hp}{p:Addr}(s:Same H H2)(h:H2 p=none):H p=none:=by
 cases e:H p with
 | none=>rfl
 | some o=>rw [s p o e] at h; cases h
theorem gp {K:a0a}{H H':Hp}{a:Addr}{xs:List V}(e:Same H H')(h:SqL K H a xs):SqL K H' a xs:=by
 rcases h with (z | ⟨o,z⟩) | z
 ·exact .inl (.inl (e _ _ z))
 ·exact .inl (.inr ⟨o,e _ _ z⟩)
 ·exact .inr z
noncomputable def fH (ls:List Nat):List V:=ls.map fun (n:Nat)=>V.int (n:Int)
noncomputable def RowsAt (H H':Hp)(ra:Addr):List Nat->List V->List Addr->Prop
 | [],_,ps=>ps=[]
 | n::ns,ws,ps=>∃ p r,ps=p::r/\H p=none/\p≠ra/\p ∉ r/\H' p=some (.lst (ws.take n))/\RowsAt H H' ra ns (ws.drop n) r
theorem RowsAt.length {H H':Hp}{ra:Addr}:∀ {ns:List Nat} {ws:List V} {ps:List Addr},RowsAt H H' ra ns ws ps->ps.length=ns.length
 | [],_,_,h=>by rw [show _=[] from h,a25]
 | _::_,_,_,⟨_,_,e,_,_,_,_,q⟩=>by rw [e,a0g,a0g,q.length]
theorem RowsAt.new {H H':Hp}{ra:Addr}:∀ {ns:List Nat} {ws:List V} {ps:List Addr},RowsAt H H' ra ns ws ps->∀ p∈ps,H p=none/\p≠ra/\∃ xs,H' p=some (.lst xs)
 | [],_,_,h,p,hp=>by rw [show _=[] from h] at hp; cases hp
 | _::_,_,_,⟨_,_,e,h1,h2,_,h3,q⟩,p,hp=>by
  rw [e] at hp
  rcases a0n.mp hp with z | z
  ·rw [z]; exact ⟨h1,h2,_,h3⟩
  ·exact q.new p z
theorem RowsAt.keep {H H1 H2:Hp}{ra:Addr}(k:∀ b o,b≠ra->H1 b=some o->H2 b=some o):∀ {ns:List Nat} {ws:List V} {ps:List Addr},RowsAt H H1 ra ns ws ps->RowsAt H H2 ra ns ws ps
 | [],_,_,h=>h
 | _::_,_,_,⟨p,r,e,h1,h2,h4,h3,q⟩=>⟨p,r,e,h1,h2,h4,k _ _ h2 h3,q.keep k⟩
theorem RowsAt.snoc {H H':Hp}{ra p:Addr}{n:Nat}(h1:H p=none)(h2:p≠ra):∀ {ns:List Nat} {ws:List V} {ps:List Addr},RowsAt H H' ra ns ws ps->p ∉ ps->H' p=some (.lst ((ws.drop ns.sum).take n))->RowsAt H H' ra (ns++[n]) ws (ps++[p])
 | [],ws,_,h,_,h3=>by rw [show _=[] from h]; exact ⟨p,[],rfl,h1,h2,a0E,h3,rfl⟩
 | m::ns,ws,_,⟨c,r,e,k1,k2,k4,k3,q⟩,hn,h3=>by
  rw [e] at hn ⊢
  rw [a0n,not_or] at hn
  rw [a3X,<- a3f] at h3
  refine ⟨c,r++[p],rfl,k1,k2,fun z=>?_,k3,RowsAt.snoc h1 h2 q hn.2 h3⟩
  rcases a0T.mp z with z | z
  ·exact k4 z
  ·exact hn.1 (a0C.mp z).symm
noncomputable def mE (K:a0a):Sp:=fun vs H Q _=>∃ (la ta:Addr) (ns:List Nat) (ws:List V),vs=[.ref la,.ref ta]/\SqL K H la (fH ns)/\SqL K H ta ws/\ns.length<=M.LIM /\
 ∀ ra ps H',Same H H'->H ra=none->H' ra=some (.lst (ps.map V.ref))->RowsAt H H' ra ns ws ps->Q (.ref ra) H'
theorem jJ {K:a0a}{Z:Fp}{H:Hp}{G:Fp}{m:M.Md}:∀ {ts:List M.T} {ns:List Nat} {xs:List V} {G:Fp},M.natsOf ts=some ns->RepL K Z H m ts xs G->xs=fH ns
 | [],ns,xs,_,e,r=>by cases e; exact r
 | t::ts,ns,xs,G,e,⟨x,r,A,B,ex,_,_,_,p,q⟩=>by
  cases t with
  | int i =>
   cases i with
   | ofNat n =>
    have e':(M.natsOf ts).map (n::·)=some ns:=e
    cases h:M.natsOf ts with
    | none=>rw [h] at e'; cases e'
    | some ms =>
     rw [h] at e'
     cases e'
     rw [ex,jJ (G:=B) h q,show x=_ from p]
     rfl
   | negSucc n=>cases e
  | _=>cases e
theorem jL {K:a0a}{Z:Fp}{H H':Hp}{N:M.Md}{ra:Addr}:∀ {ns:List Nat} {ts:List M.T} {ws:List V} {ps:List Addr} {A:Fp},RowsAt H H' ra ns ws ps->RepL K Z H' N ts ws A->ws.length<=M.LIM->(∀ a,A a->H a≠none)->RepL K Z H' N.up (M.rowsT ns ts) (ps.map V.ref) (fun a=>A a\/a∈ps)
 | [],_,_,_,_,h,_,_,_=>by rw [show _=[] from h]; rfl
 | n::ns,ts,ws,_,A,⟨p,r,e,h1,h2,h4,h3,q⟩,rr,hl,ha=>by
  rw [e]
  obtain ⟨G1,G2,g1,g2,gd,q1,q2⟩:=RepL.cut n rr
  have np:∀ a,A a->a≠p:=fun a h z=>ha a h (by rw [z]; exact h1)
  refine ⟨.ref p,r.map V.ref,fun a=>G1 a\/a=p,fun a=>G2 a\/a∈r,rfl,fun a h=>h.elim (fun z=>.inl (g1 a z)) fun z=>.inr (by rw [z]; exact a0k),fun a h=>h.elim (fun z=>.inl (g2 a z)) fun z=>.inr (a0c _ z),fun a h z=>?_,
   ⟨p,ws.take n,rfl,by rw [a02]; omega,(LstR.own (bq N)).mpr ⟨.inr rfl,h3⟩,by rw [cF]; exact q1.mono fun a h=>⟨.inl h,np a (g1 a h)⟩⟩,jL q q2 (by rw [a1e]; omega) fun a h=>ha a (g2 a h)⟩
  rcases h with h | h<;>rcases z with z | z
  ·exact gd a h z
  ·exact ha a (g1 a h) (q.new a z).1
  ·rw [h] at z; exact np p (g2 p z) rfl
  ·rw [h] at z; exact h4 z
theorem qR {K:a0a}{C:M.Call}{g:Nat}{vs:List V}{H:Hp}{Q:VK}{E:XK}(hC:∀ ws,C g ws=M.rowsW ws)(h:spS K C g [] vs H Q E):mE K vs H Q E:=by
 obtain ⟨Z,ws,G,w,bs,r,ow,za,e,q⟩:=h
 rw [hC] at e
 match ws,e,r with
 | [(m1,.lst ls),(m,.lst ts)],e,r =>
  obtain ⟨ns,e1,e2⟩:=aa (show (M.ofO (M.natsOf ls)).bind (fun ns=>M.Res.ok (((m.kid.up.up,.lst (M.rowsT ns ts)):M.W),([]:List M.W)))=.ok (w,bs) from e)
  have e1':=bS e1
  cases e2
  obtain ⟨x,y,rfl⟩:∃ x y,vs=[x,y]:=by
   have:=r.length
   match vs,this with
   | [x,y],_=>exact ⟨x,y,rfl⟩
  obtain ⟨G1,G2,w1,w2,d,r1,r2⟩:=cM r
  obtain ⟨la,xs,rfl,hs,hl,q1⟩:=bh r1
  obtain ⟨ta,ys,rfl,hs2,hl2,q2⟩:=bh r2
  have ex:=jJ (G:=G1) e1' q1
  subst ex
  have hln:ns.length<=M.LIM:=by unfold fH at hl; rw [a0b] at hl; exact hl
  refine ⟨la,ta,ns,ys,rfl,SqL.of hs,SqL.of hs2,hln,fun ra ps H' same hra hrs hR=>?_⟩
  have same':∀ b o,H b=some o->H' b=some o:=same
  have key:Out K Z H G (m.kid.up.up,.lst (M.rowsT ns ts)) Q:=fun v Z' H2 G' rv o t=>q v Z' H2 G' no rv rfl (fun _ _ z=>z) (fun a h=>h.elim (o a) fun z=>z.elim) (t.mono (fun _ z=>z) fun a h=>h.elim id fun z=>z.elim)
  have hG:∀ a,G2 a->H a≠none:=fun a h=>by obtain ⟨_,zs,e⟩:=ow a (w2 a h); rw [e]; simp
  have q2':=(q2.zmono (Z':=bB Z G G2) fun _ z=>.inl z).keep (H':=H') (Z':=bB Z G G2) (ic same') (fun _ z=>z) fun a o _ e=>same' a o e
  refine jW (w:=(m.kid.up.up,.lst (M.rowsT ns ts))) (K:=K) (G':=G2) (Gn:=fun a=>a=ra\/a∈ps) ow za w2 same' (fun a h=>?_) ⟨ra,ps.map V.ref,rfl,by rw [a0b,hR.length]; exact hln,(LstR.own (bq _)).mpr ⟨.inr (.inl rfl),hrs⟩,?_⟩ key
  ·rcases h with h | h
   ·rw [h]; exact ⟨hra,_,hrs⟩
   ·exact ⟨(hR.new a h).1,(hR.new a h).2.2⟩
  ·rw [cF]
   refine (jL hR q2' hl2 hG).mono fun b hb=>?_
   rcases hb with z | z
   ·exact ⟨.inl z,fun y=>hG b z (by rw [y]; exact hra)⟩
   ·exact ⟨.inr (.inr z),(hR.new b z).2.1⟩
 | [],e,_=>cases e
 | [(_,t)],e,_=>cases t<;>cases e
 | (_,t)::(_,u)::_::_,e,_=>cases t<;>first | (cases e; done) | (cases u<;>cases e)
 | [(_,.non),_],e,_=>cases e
 | [(_,.bl _),_],e,_=>cases e
 | [(_,.int _),_],e,_=>cases e
 | [(_,.str _),_],e,_=>cases e
 | [(_,.tup _),_],e,_=>cases e
 | [(_,.dct _ _),_],e,_=>cases e
 | [(_,.ins _ _ _),_],e,_=>cases e
 | [(_,.gone),_],e,_=>cases e
 | [(_,.scr _),_],e,_=>cases e
 | [(_,.lst _),(_,.non)],e,_=>cases e
 | [(_,.lst _),(_,.bl _)],e,_=>cases e
 | [(_,.lst _),(_,.int _)],e,_=>cases e
 | [(_,.lst _),(_,.str _)],e,_=>cases e
 | [(_,.lst _),(_,.tup _)],e,_=>cases e
 | [(_,.lst _),(_,.dct _ _)],e,_=>cases e
 | [(_,.lst _),(_,.ins _ _ _)],e,_=>cases e
 | [(_,.lst _),(_,.gone)],e,_=>cases e
 | [(_,.lst _),(_,.scr _)],e,_=>cases e
end MR

namespace MR
open PySem PySem.Spec PyProof.Rows L2 L3
section
variable {X:Cx}{sf sg:Nat->Option Nat}{io:List Nat}{C:M.Call}{pos p2:Pos}{ea eb ec:Expr}{a b c:M.E}{h:Bool}{n:Nat}
theorem mT {K:a0a}{o p:M.Op}{g g':Int->Int->Bool}(inv:∀ {u v w:M.W},M.oSem o false [u,v]=some w->∃ m n i j,u=(m,.int i)/\v=(n,.int j)/\w=(.d,.bl (g i j)))(inv':∀ {u v w:M.W},M.oSem p false [u,v]=some w->∃ m n i j,u=(m,.int i)/\v=(n,.int j)/\w=(.d,.bl (g' i j)))
  (σ:L2.St) (H:Hp) (Q:VK) (hw:wE K sf C (.chain o p a b c) σ H Q):pw (rI0 fun i j=>.bl (g i j)) (rI0 fun i j=>.bl (g' i j)) (wE K sf C a) (wE K sf C b) (wE K sf C c) σ H Q:=by
 obtain ⟨pv,Z,Fs,η,w,η',A,ev,k⟩:=hw
 obtain ⟨⟨x,η1⟩,h1,h2⟩:=aa (show (M.evE C a η).bind (M.kC1 o p (M.evE C b) (M.evE C c))=_ from ev)
 obtain ⟨⟨y,η2⟩,h3,h4⟩:=aa (show (M.evE C b η1).bind (M.kC2 o p (M.evE C c) x)=_ from h2)
 obtain ⟨⟨kk,η3⟩,h5,h6⟩:=aa (show (M.ret η2 (M.oSem o false [x,y])).bind (fun k=>M.onB k.1.2 (M.then' (M.evE C c) (M.kC3 p y)) (M.okW (.d,.bl false)) k.2)=_ from h4)
 obtain ⟨k',e5,e5'⟩:=aw h5
 cases e5'
 obtain ⟨m1,m2,i,j,rfl,rfl,rfl⟩:=inv e5
 have dr:∀ {Z:Fp} {H:Hp} {F Z1:Fp} {H1:Hp} {Fs1:Fps} {G1:Fp},Step Z H F Z1 H1 (fun a=>tot Fs1 a\/G1 a)->Step Z H F Z1 H1 (tot Fs1):=fun s=>s.mono (fun _ z=>z) fun _ z=>.inl z
 refine gK A h1 fun vx Z1 H1 Fs1 G1 A1 r1 _ s1 _=>?_
 have A1':=A1.bare
 refine gK A1' h3 fun vy Z2 H2 Fs2 G2 A2 r2 _ s2 _=>⟨i,j,r1,r2,g i j,rfl,?_⟩
 have A2':=A2.bare
 have s12:=(dr s1).trans (dr s2)
 have h6':M.onB (.bl (g i j)) (M.then' (M.evE C c) (M.kC3 p (m2,.int j))) (M.okW (.d,.bl false)) η2=.ok (w,η'):=h6
 cases hg:g i j with
 | true =>
  rw [hg] at h6'
  rw [if_pos rfl]
  obtain ⟨⟨z,η4⟩,h7,h8⟩:=aa (show (M.evE C c η2).bind (M.kC3 p (m2,.int j))=_ from h6')
  obtain ⟨z',e8,e8'⟩:=aw (show M.ret η4 (M.oSem p false [(m2,.int j),z])=_ from h8)
  cases e8'
  obtain ⟨n1,n2,i',j',e9,rfl,rfl⟩:=inv' e8
  cases e9
  refine gK A2' h7 fun vz Z3 H3 Fs3 G3 A3 r3 _ s3 _=>⟨j,j',r2,r3,?_⟩
  exact k _ Z3 H3 Fs3 no A3.bare rfl ((s12.trans (dr s3)).mono (fun _ z=>z) fun _ z=>z.elim id fun q=>q.elim)
 | false =>
  rw [hg] at h6'
  rw [if_neg a0r]
  cases h6'
  exact k _ Z2 H2 Fs2 no A2' rfl (s12.mono (fun _ z=>z) fun _ z=>z.elim id fun q=>q.elim)
theorem rL {o p:M.Op}{g g':Int->Int->Bool}(inv:∀ {u v w:M.W},M.oSem o false [u,v]=some w->∃ m n i j,u=(m,.int i)/\v=(n,.int j)/\w=(.d,.bl (g i j)))(inv':∀ {u v w:M.W},M.oSem p false [u,v]=some w->∃ m n i j,u=(m,.int i)/\v=(n,.int j)/\w=(.d,.bl (g' i j))) :
  ∀ η w η',M.evE C (.chain o p a b c) η=.ok (w,η')->∃ b,w.2=.bl b:=fun η w η' ev=>by
 obtain ⟨⟨x,η1⟩,h1,h2⟩:=aa (show (M.evE C a η).bind (M.kC1 o p (M.evE C b) (M.evE C c))=_ from ev)
 obtain ⟨⟨y,η2⟩,h3,h4⟩:=aa (show (M.evE C b η1).bind (M.kC2 o p (M.evE C c) x)=_ from h2)
 obtain ⟨⟨kk,η3⟩,h5,h6⟩:=aa (show (M.ret η2 (M.oSem o false [x,y])).bind (fun k=>M.onB k.1.2 (M.then' (M.evE C c) (M.kC3 p y)) (M.okW (.d,.bl false)) k.2)=_ from h4)
 obtain ⟨k',e5,e5'⟩:=aw h5
 cases e5'
 obtain ⟨m1,m2,i,j,rfl,rfl,rfl⟩:=inv e5
 have h6':M.onB (.bl (g i j)) (M.then' (M.evE C c) (M.kC3 p (m2,.int j))) (M.okW (.d,.bl false)) η2=.ok (w,η'):=h6
 cases hg:g i j with
 | true =>
  rw [hg] at h6'
  obtain ⟨⟨z,η4⟩,h7,h8⟩:=aa (show (M.evE C c η2).bind (M.kC3 p (m2,.int j))=_ from h6')
  obtain ⟨z',e8,e8'⟩:=aw (show M.ret η4 (M.oSem p false [(m2,.int j),z])=_ from h8)
  cases e8'
  obtain ⟨n1,n2,i',j',e9,rfl,rfl⟩:=inv' e8
  exact ⟨_,rfl⟩
 | false =>
  rw [hg] at h6'
  cases h6'
  exact ⟨_,rfl⟩
theorem iD (ha:SE X sf C ea a)(hb:SE X sf C eb b)(hc:SE X sf C ec c)(hm:lastMarks [.LtE,.Lt] [eb,ec]=false:=by with_unfolding_all rfl):SB X sf C (.Compare ea [.LtE,.Lt] [eb,ec] pos) (.chain .le .lt a b c) :=
 mB (qM Cs wd ha hb hc hm) fun σ H Q hw=>mT rE iT σ H _ (w9 (rL rE iT) hw)
end
end MR

namespace MR
open PySem PySem.Spec PyProof.Rows L2 L3
section
variable {X:Cx}{sf sg:Nat->Option Nat}{C:M.Call}{pos p2 p3:Pos}{ea eb ec:Expr}{a b c:M.E}{h:Bool}{n:Nat}{io:List Nat}
noncomputable def wM (K:a0a)(H:Hp):List Nat->V->V->Prop
 | [],v,u=>u=v
 | j::p,v,u=>∃ a xs x,v=.ref a/\(SqL K H a xs\/SqT K H a xs)/\xs[j]?=some x/\wM K H p x u
noncomputable def wP (K:a0a)(sf:Nat->Option Nat)(i:Nat)(p:List Nat):TE:=fun σ H Q=>∃ j v u,sf i=some j/\σ[j]?=some (some v)/\wM K H p v u/\Q u H
noncomputable abbrev SP (X:Cx)(sf:Nat->Option Nat)(me:Expr)(i:Nat)(p:List Nat):Prop:=PE X me (wP X.K sf i p)
noncomputable def BL (Fs:Fps)(i:Nat)(G:Fp):Fps:=fun l a=>(l=i/\G a)\/(l≠i/\Fs l a)
end
end MR

namespace MR
open PySem PySem.Spec PyProof.Rows L2 L3
theorem fsc {N P:List Str}{sc:Scope}(h1:sc.kind=.function:=by rfl)(h2:sc.isCoroutine=false:=by rfl)(h3:sc.isGenerator=false:=by rfl)(h4:N.Nodup:=by decide +kernel)(h5:N.take P.length=P:=by rfl)(h6:∀ x∈P,sc.names.lookup x=some .local\/sc.names.lookup x=some .cell:=by decide +kernel)(h7:∀ y∈sc.names,y.2≠.free:=by decide +kernel):ao N P sc:=⟨h1,h2,h3,h4,h5,h6,h7⟩
theorem csc {pre ys:List Str}{scope:Scope}(h1:scope.kind=.function:=by rfl)(h2:∀ y∈scope.names,y.2≠.cell:=by decide +kernel)(h3:∀ y∈scope.names,y.2=.local->scope.names.lookup y.1=some .local:=by decide +kernel)(h4:∀ x∈pre,scope.names.lookup x=some .local:=by decide +kernel)(h5:(pre++ys).Nodup:=by decide +kernel):aA pre ys scope:=⟨h1,h2,h3,h4,h5⟩
section
variable {P:Program}{w:World}{K:a0a}{mg:Str->Option Value}{base:Heap}{x:Str}{st:Stmt}{ps N:List Str}{n g:Nat}{io:List Nat}{C C':M.Call}{d:Value}{t:M.T}
structure Df (K:a0a)(mg:Str->Option Value)(x:Str)(st:Stmt)(ps:List Str):Prop where
 ex:∃ f fd,Fun K x x st f fd/\Binds K fd ps []/\mg x=some (.ref f)
structure DfD (K:a0a)(mg:Str->Option Value)(x:Str)(st:Stmt)(ps:List Str)(d:Value):Prop where
 ex:∃ f fd dV,FunD K x x st f fd dV/\Binds K fd ps []/\Binds K fd ps [d]/\mg x=some (.ref f)
theorem Df.ok (e:Df K mg x st ps)(h:∀ f fd,Fun K x x st f fd->FnOk P w K mg base CX0 n f fd ps (spS K C g io)):ai P w K mg base n C x g io:=by
 obtain ⟨f,fd,F,b,m⟩:=e.ex
 exact ⟨f,fd,ps,h f fd F,m,F.kp,b⟩
theorem Df.z (e:Df K mg x st ps)(hC:∀ ws,C g ws=.no:=by intro _; rfl):ai P w K mg base n C x g io:=e.ok fun _ _ _=>fn0 hC
theorem Df.s (fn:M.Fn)(e:Df K mg x st ps)(S:ao N ps (defScope st))
  (hb:∀ {f:Addr} {cdv:Value} {A:Around} {outer:List Env} {s:Shared} {H:Hp} {E:XK},Room n (A.deeper (envOfC x (defScope st) s.heap.objs.size f cdv))->SSs (cZ CX0 P w K mg base N x (defScope st) f cdv A outer s H E).nox (slN N.length) fn.io C (defBody st) fn.body)
  (hC:∀ ws,C' g ws=M.runF C fn ws:=by intro _; rfl) (hps:fn.ps=ps.length:=by rfl) (hle:ps.length<=N.length:=by decide) (nd:fn.io.Nodup:=by decide) (hio:∀ i∈fn.io,i < ps.length:=by decide):ai P w K mg base (n+1) C' x g fn.io :=
 e.ok fun _ _ F=>Fun.okM F S hps hle nd hio (fun _ _ _ _ _ _ h=>hb h) hC
theorem DfD.ok (e:DfD K mg x st ps d)(h:∀ f fd dV,FunD K x x st f fd dV->FnOk P w K mg base CX0 n f fd ps (spS K C g io)):ai P w K mg base n C x g io:=by
 obtain ⟨f,fd,dV,F,b,_,m⟩:=e.ex
 exact ⟨f,fd,ps,h f fd dV F,m,F.kp,b⟩
theorem DfD.okD {dv:V}(e:DfD K mg x st ps d)(h:∀ f fd dV,FunD K x x st f fd dV->FnOk P w K mg base CX0 n f fd ps (spS K C g io))(hr:RelV dv d)(ht:∀ Z H m G,Rep K Z H m t dv G):cR P w K mg base n C x g io t:=by
 obtain ⟨f,fd,dV,F,_,b,m⟩:=e.ex
 exact ⟨f,fd,ps,d,dv,h f fd dV F,m,F.kp,b,hr,ht⟩
theorem DfD.z (e:DfD K mg x st ps d)(hC:∀ ws,C g ws=.no:=by intro _; rfl):ai P w K mg base n C x g io:=e.ok fun _ _ _ _=>fn0 hC
theorem DfD.zD {b:Bool}(e:DfD K mg x st ps (.bool b))(hC:∀ ws,C g ws=.no:=by intro _; rfl):cR P w K mg base n C x g io (.bl b):=e.okD (dv:=.bl b) (fun _ _ _ _=>fn0 hC) rfl fun _ _ _ _=>rfl
theorem DfD.fn (fn:M.Fn){f:Addr}{fd:FuncData}{dV:Value}(F:FunD K x x st f fd dV)(S:ao N ps (defScope st))
  (hb:∀ {f:Addr} {cdv:Value} {A:Around} {outer:List Env} {s:Shared} {H:Hp} {E:XK},Room n (A.deeper (envOfC x (defScope st) s.heap.objs.size f cdv))->SSs (cZ CX0 P w K mg base N x (defScope st) f cdv A outer s H E).nox (slN N.length) fn.io C (defBody st) fn.body)
  (hC:∀ ws,C' g ws=M.runF C fn ws) (hps:fn.ps=ps.length) (hle:ps.length<=N.length) (nd:fn.io.Nodup) (hio:∀ i∈fn.io,i < ps.length):FnOk P w K mg base CX0 (n+1) f fd ps (spS K C' g fn.io):=FunD.okM F S hps hle nd hio (fun _ _ _ _ _ _ h=>hb h) hC
theorem DfD.s (fn:M.Fn)(e:DfD K mg x st ps d)(S:ao N ps (defScope st))
  (hb:∀ {f:Addr} {cdv:Value} {A:Around} {outer:List Env} {s:Shared} {H:Hp} {E:XK},Room n (A.deeper (envOfC x (defScope st) s.heap.objs.size f cdv))->SSs (cZ CX0 P w K mg base N x (defScope st) f cdv A outer s H E).nox (slN N.length) fn.io C (defBody st) fn.body)
  (hC:∀ ws,C' g ws=M.runF C fn ws:=by intro _; rfl) (hps:fn.ps=ps.length:=by rfl) (hle:ps.length<=N.length:=by decide) (nd:fn.io.Nodup:=by decide) (hio:∀ i∈fn.io,i < ps.length:=by decide):ai P w K mg base (n+1) C' x g fn.io :=
 e.ok fun _ _ _ F=>DfD.fn fn F S hb hC hps hle nd hio
theorem DfD.sD {b:Bool}(fn:M.Fn)(e:DfD K mg x st ps (.bool b))(S:ao N ps (defScope st))
  (hb:∀ {f:Addr} {cdv:Value} {A:Around} {outer:List Env} {s:Shared} {H:Hp} {E:XK},Room n (A.deeper (envOfC x (defScope st) s.heap.objs.size f cdv))->SSs (cZ CX0 P w K mg base N x (defScope st) f cdv A outer s H E).nox (slN N.length) fn.io C (defBody st) fn.body)
  (hC:∀ ws,C' g ws=M.runF C fn ws:=by intro _; rfl) (hps:fn.ps=ps.length:=by rfl) (hle:ps.length<=N.length:=by decide) (nd:fn.io.Nodup:=by decide) (hio:∀ i∈fn.io,i < ps.length:=by decide):cR P w K mg base (n+1) C' x g fn.io (.bl b) :=
 e.okD (dv:=.bl b) (fun _ _ _ F=>DfD.fn fn F S hb hC hps hle nd hio) rfl fun _ _ _ _=>rfl
noncomputable def Raw (K:a0a)(x:Str)(st:Stmt)(dV:Value):Prop:=∃ f oc od sl kV dc pm an cd ct,a1I K mainGlobals x=some (some (.ref f))/\K.lookup f=some ⟨oc,od,.func (a0X x x (defArgs st) (defBody st) (defScope st) dV kV dc pm an cd ct),sl⟩/\a1P K cd x=true/\a1b K (.ref f)=true
theorem bQ {h:Heap}(X:K.In h)(G:h.Ns mainGlobals mg)(r:Raw K x st .none)(hb:∀ (kV doc pm:Value) (an:Option Addr) (cdv ct:Value) (us:List Value),us.length=ps.length->bindArgs (a0X x x (defArgs st) (defBody st) (defScope st) .none kV doc pm an cdv ct) ⟨us,[]⟩=pure (ps.zip us)):Df K mg x st ps:=by
 obtain ⟨f,oc,od,sl,kV,dc,pm,an,cd,ct,h1,h2,h3,h4⟩:=r
 have F:=qp (st:=st) h2 h3 h4
 exact ⟨f,_,F,F.binds hb,a1i X G h1⟩
noncomputable def RawD (K:a0a)(x:Str)(st:Stmt)(v:Value):Prop:=∃ T o m,Raw K x st (.ref T)/\K.lookup T=some o/\o.data=.seq #[v] m
theorem zW {h:Heap}{v:Value}(X:K.In h)(G:h.Ns mainGlobals mg)(r:RawD K x st v)
  (hb:∀ (T:Addr) (kV doc pm:Value) (an:Option Addr) (cdv ct:Value) (us:List Value),(us++[]).length=ps.length->∃ k:Option (Array Value)->Sem (List (Str×Value)),bindArgs (a0X x x (defArgs st) (defBody st) (defScope st) (.ref T) kV doc pm an cdv ct) ⟨us,[]⟩=seqItems? (.ref T) >>= k/\k (some #[v])=pure (ps.zip (us++[])))
  (hd:∀ (T:Addr) (kV doc pm:Value) (an:Option Addr) (cdv ct:Value) (us:List Value),(us++[v]).length=ps.length->∃ k:Option (Array Value)->Sem (List (Str×Value)),bindArgs (a0X x x (defArgs st) (defBody st) (defScope st) (.ref T) kV doc pm an cdv ct) ⟨us,[]⟩=seqItems? (.ref T) >>= k/\k (some #[v])=pure (ps.zip (us++[v]))):DfD K mg x st ps v:=by
 obtain ⟨T,o,m,⟨f,oc,od,sl,kV,dc,pm,an,cd,ct,h1,h2,h3,h4⟩,h5,h6⟩:=r
 have F:=v5 (st:=st) h2 h3 h4
 exact ⟨f,_,_,F,F.binds h5 h6 (hb T),F.binds h5 h6 (hd T),a1i X G h1⟩
noncomputable def AL (K:a0a):List Str->Prop
 | []=>True
 | x::r=>a1I K mainGlobals x=some none/\AL K r
theorem AG {h:Heap}(X:K.In h)(G:h.Ns mainGlobals mg)(r:AL K ["isinstance","int","tuple","list","bool","sum","len","all","zip","range","enumerate","any","max","min","sorted","str","repr","abs","dict","set","reversed"]):Txt mg:=by
 obtain ⟨z1,z2,z3,z4,z5,z6,z7,z8,z9,z10,z11,z12,z13,z14,z15,z16,z17,z18,z19,z20,z21,_⟩:=r
 have m:=fun {x:Str} (z:a1I K mainGlobals x=some none)=>PySem.W.mg_none_of X G z
 exact ⟨m z1,m z2,m z3,m z4,m z5,m z6,m z7,m z8,m z9,m z10,m z11,m z12,m z13,m z14,m z15,m z16,m z17,m z18,m z19,m z20,m z21⟩
end
end MR

namespace MR
open PySem PySem.Spec PyProof.Rows L2 L3
end MR
namespace MR
open PySem PySem.Spec PyProof.Rows L2 L3
end MR
namespace MR
open PySem PySem.Spec PyProof.Rows L2 L3
theorem n0 {X:Cx}:cq X (.type "range") (fun xs H Q=>∃ j,xs=[.int j]/\∀ p,H p=none->Q (.ref p) (upd H p (.rng 0 j))):=by
 intro pins s σ H xs us Q I r h
 obtain ⟨j,rfl,q⟩:=h
 obtain ⟨u,rfl,t,rfl⟩:=hZ r
 refine call_range_1 ?_
 exact ⟨.ref s.heap.objs.size,upd H s.heap.objs.size (.rng 0 j),I.laid (t':=s.toks+2) (fun _ _ e=>Heap.get?_push_of_some _ e) (a0d _) ⟨_,_,_,Heap.get?_push_size _ rfl⟩,rfl,q _ I.fresh⟩
section
variable {X:Cx}{sf sg:Nat->Option Nat}{C:M.Call}{pos p p2 p3:Pos}{ea eb ec:Expr}{a b c:M.E}{h:Bool}{io:List Nat}
theorem BD (hm:X.mg "list"=none)(hm2:X.mg "range"=none)(ha:SE X sf C ea a)(hc:X.calm=true:=by rfl)(hg:Gl X "list":=by rfl)(hg2:Gl X "range":=by rfl)
  (hs:starEach [.Call (.Name "range" p3) [ea] [] p2] X.env=(false,eval (.Call (.Name "range" p3) [ea] [] p2) X.env)::starEach [] X.env:=by rfl) (hpl:(backTo pos (starEach [] X.env)).any (·.1)=false:=by rfl)
  (hs3:starEach [ea] X.env=(false,eval ea X.env)::starEach [] X.env:=by rfl) (hpl2:(backTo p2 (starEach [] X.env)).any (·.1)=false:=by rfl) {p4:Pos} :
  SE X sf C (.Call (.Name "list" p4) [.Call (.Name "range" p3) [ea] [] p2] [] pos) (.op .rng h [.cst (.int 0),a]) :=
 aD (bV (fP hc) hg hm a0J (aq (bV n0 hg2 hm2 a2M (aq ha aM hs3) (by decide) (by decide) hs3 hpl2) aM hs) (by decide) (by decide) hs hpl) fun σ H Q hw=>by
  obtain ⟨pv,Z,Fs,η,w,η',A,ev,k⟩:=hw
  obtain ⟨ws,h1,h2⟩:=cy ev
  obtain ⟨⟨m,u⟩,η1,us,e1,e2,rfl⟩:=aB h1
  obtain ⟨⟨m',u'⟩,η2,us,e3,e4,rfl⟩:=aB e2
  cases e4
  cases e1
  cases u' with
  | int j =>
   have h3:(if (decide ((0:Int).natAbs < 4611686018427387904)&&decide (j.natAbs < 4611686018427387904)&&M.fits (j-0).toNat)=true then some ((.d,.lst ((a0q (j-0).toNat).map fun (k:Nat)=>M.T.int (0+k))):M.W) else none)=some w:=h2
   split at h3
   ·rename_i hc
    rw [a0p,a0p,decide_eq_true_eq,decide_eq_true_eq] at hc
    cases h3
    refine ⟨pv,Z,Fs,η,(m',.int j),η',A,e3,fun y Z2 H2 Fs2 G2 A2 r2 s2=>?_⟩
    cases r2
    refine ⟨j,rfl,fun p hp=>⟨p,0,j,rfl,aj,⟨by omega,by omega,by omega,by omega⟩,bD (bI hc.2),fun l hl=>?_⟩⟩
    have sm:=df (o:=.rng 0 j) hp
    have ow:Own Z2 (upd H2 p (.rng 0 j)) G2:=fun a ha=>by
     obtain ⟨z1,ys,z2⟩:=A2.own a ha
     exact ⟨z1,ys,sm a _ z2⟩
    have za:∀ a,Z2 a->upd H2 p (.rng 0 j) a≠none:=fun a ha q=>by
     cases e:H2 a with
     | none=>exact A2.gd.zal a ha e
     | some o=>rw [sm a o e] at q; cases q
    have kk:=gy sm (bO A2 s2 k)
    refine bJ (m:=.d) (G':=no) ow za (fun _ z=>z.elim) ?_ ?_ (by simp) kk hl
    ·rw [a0b,a0W]; exact bI hc.2
    ·have q1:((a0q (j-0).toNat).map fun (k:Nat)=>M.T.int (0+(k:Int)))=((a0q (j-0).toNat).map fun (k:Nat)=>0+(k:Int)).map M.T.int:=by rw [a0Y]; rfl
     have q2:((a0q (j-0).toNat).map fun (k:Nat)=>V.int (0+(k:Int)))=((a0q (j-0).toNat).map fun (k:Nat)=>0+(k:Int)).map V.int:=by rw [a0Y]; rfl
     rw [q1,q2]
     exact fL _
   ·cases h3
  | _=>cases h2
end
end MR
namespace MR
open PySem PySem.Spec PyProof.Rows L2 L3
end MR
namespace MR
open PySem PySem.Spec PyProof.Rows L2 L3
end MR

namespace MR
open PySem PySem.W L2 M
end MR

namespace MR
open PySem PySem.Spec PyProof.Rows L2 L3 M
section
variable {X:Cx}{sf sg:Nat->Option Nat}{C:M.Call}{pos p p2 p3:Pos}{io:List Nat}{K:a0a}{Wx:L2.St->VK}{tg:List Nat}
theorem vX {n:Nat}{k:Ik}{src:List M.E}{js:List Nat}{body:List M.S}(hn:tg.length=n)(nd:tg.Nodup)(hio:∀ t∈tg,t ∉ io)(hjs:tg.map sf=js.map some)(D:bL)(σ:L2.St)(H:Hp)(h:wS K Wx sf io C (.forU k src tg body) D σ H) :
  yn (wI K sf C n k src) (gF K js) (wSs K Wx sf io C body) D σ H:=by
 obtain ⟨pv,Z,Fs,η,N,A,f⟩:=h
 obtain ⟨⟨ws,η2⟩,h1,h2⟩:=aT (show Fin K Wx ⟨sf,pv⟩ Z H (tot Fs) D (Fl.of η (evL C src η) (mC k tg (evSs C body))) from f)
 obtain ⟨⟨ts,η3⟩,h3,h4⟩:=aT (show Fin K Wx ⟨sf,pv⟩ Z H (tot Fs) D (Fl.of η2 (M.ret η2 (aY k ws)) (j1 tg (evSs C body))) from h2)
 obtain ⟨ts',ht,e3⟩:=aw h3
 have e4:ts=ts':=congrArg a3V e3
 have e5:η3=η2:=congrArg a2h e3
 subst e4 e5
 have h4':Fin K Wx ⟨sf,pv⟩ Z H (tot Fs) D (cG tg (evSs C body) ts η3):=h4
 refine ⟨pv,Z,Fs,η,ws,η3,ts,A,h1,ht,fun J Z1 H1 Fs1 B s wk yl=>?_⟩
 refine ⟨fun i m σ' H'=>m=ts.length-i/\i<=ts.length/\∃ Zi Fsi ηi,At K ⟨sf,pv⟩ σ' Zi H' Fsi ηi no/\Step Z1 H1 (tot Fs1) Zi H' (tot Fsi)/\Fin K Wx ⟨sf,pv⟩ Zi H' (tot Fsi) D (cG tg (evSs C body) (ts.drop i) ηi),⟨ts.length,by simp,a0O _,_,_,_,B,Step.refl _ _ _,h4'.step s⟩,?_⟩
 rintro i m σi H0 ⟨rfl,hi,Zi,Fsi,ηi,Ai,si,fi⟩
 have st:Stay Z1 H1 H0:=B.gd.own.stay si
 by_cases hlt:i < ts.length
 ·right
  refine ⟨wk.go H0 i st hlt,_,fun σ' H' hw=>⟨ts.length-(i+1),by omega,hw⟩,fun x H' y=>?_⟩
  have hw:ts[i]?=some ts[i]:=by simp [hlt]
  rw [eO hw] at fi
  obtain ⟨ηb,hb,fb⟩:=aT (show Fin K Wx ⟨sf,pv⟩ Zi H0 (tot Fsi) D (Fl.of ηi (ofO (aL tg ts[i] ηi)) fun η1=>Fl.turn (evSs C body η1) (cG tg (evSs C body) (ts.drop (i+1)))) from fi)
  refine j6 hn nd N hio hjs (fun a h=>si.zm a h) st yl Ai hw (bS hb) y fun σ2 H2 Fs2 A2 t2=>?_
  refine ⟨pv,Zi,Fs2,ηb,N,A2,j5 (fb.step t2) fun η' σ' Z' H' Fs' _ f' A' s'=>⟨rfl,hlt,Z',Fs',η',A',(si.trans t2).trans s',f'.step s'⟩⟩
 ·left
  have hi':i=ts.length:=by omega
  subst hi'
  rw [a2S] at fi
  exact ⟨wk.stop H0 _ st (a0d _),fi σi Zi H0 Fsi Ai (Step.refl _ _ _)⟩
theorem wJ (j:Nat){t:Nat}{x:Str}{px:Pos}{iter:Expr}{r:List Stmt}{s:List M.S}{k:M.Ik}{src:List M.E}(hN:X.N.Nodup)(hi:PI X (.Name x px) iter (wI X.K sf C 1 k src))(ha:SSs X sf io C r s)(hio:∀ u∈[t],u ∉ io:=by decide)(hjs:[t].map sf=[j].map some:=by rfl)(hj:X.N[j]?=some x:=by rfl)(hx:L2.Loc X.env.scope x:=by first | exact a0F rfl | exact a0B rfl)
  (hc:X.calm=true:=by rfl) (hp:PassesOwn (model X.prog X.w) X.A X.env X.xe:=by exact PassesOwn.never) (hf:X.fn x=true\/X.env.scope.names.lookup x=some .local:=by first | exact .inl rfl | exact .inr rfl) (hs:∀ x,foldedSetIterable iter X.env x=pure x:=by intro _; rfl):SS X sf io C (.For (.Name x px) iter r [] pos) (.forU k src [t] s) :=
 bW (iX hp hc hi (cV (i:=j) hN hj hx hf) ha hs) (vX rfl (by simp) hio hjs)
end
end MR

namespace L3
open PySem PySem.Spec PyProof.Rows L2
end L3
namespace MR
open PySem PySem.Spec PyProof.Rows L2 L3
end MR

namespace L3
open PySem PySem.Spec PyProof.Rows L2
end L3
namespace MR
open PySem PySem.Spec PyProof.Rows L2 L3
end MR

namespace L3
open PySem PySem.Spec PySem.NumText PyProof.Rows L2
end L3
namespace MR
open PySem PySem.Spec PyProof.Rows L2 L3
end MR

namespace L3
open PySem PySem.Spec PyProof.Rows L2
end L3
namespace MR
open PySem PySem.Spec PyProof.Rows L2 L3
theorem slx {X:Cx}{sf:Nat->Option Nat}{C:M.Call}{ea:Expr}{a:M.E}{es:List Expr}{bs:List M.E}(ha:SE X sf C ea a)(hb:SL X sf C es bs)(hs:starEach (ea::es) X.env=(false,eval ea X.env)::starEach es X.env):SL X sf C (ea::es) (a::bs):=slc ha hb hs
theorem sTx {X:Cx}{sf:Nat->Option Nat}{C:M.Call}{pos:Pos}{es:List Expr}{bs:List M.E}{x1:Nat}(hn:bs.length<=M.LIM)(h:SL X sf C es bs):SE X sf C (.Tuple es x1 pos) (.tup bs):=sT h hn
theorem sLx {X:Cx}{sf:Nat->Option Nat}{C:M.Call}{pos:Pos}{h:Bool}{es:List Expr}{bs:List M.E}(hn:bs.length<=M.LIM)(hh:SL X sf C es bs):SE X sf C (.List es pos) (.lst h bs):=sLs hh hn
theorem az {X:Cx}{sf:Nat->Option Nat}{C:M.Call}{pos:Pos}{h:Bool}{ea eb:Expr}{a b:M.E}(ha:SE X sf C ea a)(hb:SE X sf C eb b)(hs:jc eb):SE X sf C (.Subscript ea eb pos) (.op .ix h [a,b]):=sIx ha hb hs
theorem af {X:Cx}{sf:Nat->Option Nat}{C:M.Call}{ea:Expr}{a:M.E}{es:List Expr}{bs:List M.E}(ha:SE X sf C ea a)(hb:SA X sf C es bs)(he:∀ i,a≠.io i)(hs:starEach (ea::es) X.env=(false,eval ea X.env)::starEach es X.env):SA X sf C (ea::es) (a::bs):=sac ha hb he hs
end MR

namespace TP
open PySem PySem.W
noncomputable def en (P:Params)(k:Str)(t:Nat)(v:Value):DictEntry:=⟨PyData.keyHash P k,.str k t,v⟩
noncomputable def tu (xs:List Value):Obj:=⟨.type "tuple",none,.seq xs.toArray 0,#[]⟩
noncomputable def fe (xs:List Value):Obj:=⟨.none,none,.fields xs.toArray,#[]⟩
noncomputable def di (es:List DictEntry)(n:Nat):Obj:=⟨.type "dict",none,.dict es.toArray n,#[]⟩
noncomputable abbrev fl:Str:="/claim/cut.py"
noncomputable def iv (i:Int):Value:=.int i 0
noncomputable def cdo (n q:Str)(t t2:Nat)(ln ac:Nat)(f:Nat)(a:Nat)(b:Bool)(x y z:Value):Obj :=
 ⟨.type "code",none,.fields #[.str n t,.str q (t+1),.str fl (t+2),iv ln,iv ac,iv 0,iv 0,iv f,.ref a,.bool b,iv 181,.ref (a+1),.none,x,y,z,iv t2,iv ln,.str fl (t2+1)],#[]⟩
noncomputable def ofn (c:Value)(st:Stmt)(q:Str)(g:Nat)(d m:Value)(cd:Value):Obj:=match st with
 | .FunctionDef n ar b _ _ _ sc _ _ _=>⟨c,none,.func { name:=n,qualname:=q,params:=ar,body:=.stmts b,scope:=sc,globals:=g,closure:=[],defaults:=d,kwdefaults:=.none,pyModule:=m,code:=cd },#[]⟩
 | _=>default
noncomputable def tks:List Str->Nat->List Value
 | [],_=>[]
 | x::r,t=>.str x t::tks r (t+1)
structure R where
 os:List Obj
 ns:List DictEntry
 tb:List Value
 n:Nat
 tk:Nat
 md:Value
inductive Rc where
 | d | m | c
 | x (k:Str) (kt:Nat) (v:Value) (os:Params->List Obj) (tb:List Value) (n tk:Nat)
noncomputable def cv:Expr->Value
 | .Constant (.bool b) _ _=>.bool b
 | _=>.none
noncomputable def dO (P:Params)(n tk:Nat)(md:Value)(st:Stmt):R:=match st with
 | .FunctionDef nm ar b _ _ _ sc _ _ pos =>
  let pr:List Obj×Value×Nat:=match ar.defaults with
   | []=>([],.none,n)
   | ds=>([tu (ds.map cv)],.ref n,n+1)
  let a:=pr.2.2
  match localNames ar sc (.stmts b) with
  | none=>⟨pr.1++[tu [],fe [],ofn .none st nm 0 .none .none .none,cdo nm nm tk (tk+3) pos.line ar.args.length 3 a true .none .none (.ref (a+2)),ofn (.type "function") st nm 3 pr.2.1 md (.ref (a+3))],
    [en P nm (tk+5) (.ref (a+4))],[iv pos.line,iv pos.col,.ref (a+3)],a+5,tk+6,md⟩
  | some l =>
   let k:=l.1.length
   let j:=l.2.length
   ⟨pr.1++[tu [],fe [],tu (tks l.1 (tk+3)),tu (tks l.2 (tk+3+k)),ofn .none st nm 0 .none .none .none,cdo nm nm tk (tk+3+k+j) pos.line ar.args.length 3 a true (.ref (a+2)) (.ref (a+3)) (.ref (a+4)),ofn (.type "function") st nm 3 pr.2.1 md (.ref (a+5))],
    [en P nm (tk+5+k+j) (.ref (a+6))],[iv pos.line,iv pos.col,.ref (a+5)],a+7,tk+6+k+j,md⟩
 | _=>⟨[],[],[],n,tk,md⟩
noncomputable def one (P:Params)(n tk:Nat)(md:Value)(st:Stmt):Rc->R
 | .d=>dO P n tk md st
 | .m=>match st with
  | .Assign _ (.Constant (.str s) _ _) _=>⟨[],[],[],n,tk+2,.str s tk⟩
  | _=>⟨[],[],[],n,tk,md⟩
 | .c=>match st with
  | .Assign (.Name x _::_) (.Constant (.str s) _ _) _=>⟨[],[en P x (tk+1) (.str s tk)],[],n,tk+2,md⟩
  | .Assign (.Name x _::_) (.Constant (.int i) _ _) _=>⟨[],[en P x (tk+1) (.int i tk)],[],n,tk+2,md⟩
  | _=>⟨[],[],[],n,tk,md⟩
 | .x k kt v os tb n' tk'=>⟨os P,[en P k kt v],tb,n',tk',md⟩
noncomputable def go (P:Params):List (Stmt×Rc)->Nat->Nat->Value->List R
 | [],_,_,_=>[]
 | (st,r)::l,n,tk,md=>let x:=one P n tk md st r
  x::go P l x.n x.tk x.md
noncomputable def uA (x:R):List R->R
 | []=>x
 | y::l=>uA y l
noncomputable def ds:Data->List DictEntry
 | .dict es _=>es.toList
 | _=>[]
noncomputable def ep:Data->Nat
 | .dict _ n=>n
 | _=>0
noncomputable def r0:R:=⟨[],[],[],15,187,.str "__main__" 164⟩
noncomputable def rs (P:Params)(l:List (Stmt×Rc)):List R:=go P l 15 187 (.str "__main__" 164)
noncomputable def o3 (P:Params)(l:List R):Obj:=di (en P "__name__" 165 (uA r0 l).md::((ds (boot_o_3 P).data).tail++l.flatMap R.ns)) (ep (boot_o_3 P).data+(l.flatMap R.ns).length)
noncomputable def os (P:Params)(l:List R):List Obj :=
 boot_o_0 P::boot_o_1 P::boot_o_2 P::o3 P l::boot_o_4 P::boot_o_5 P::boot_o_6 P::boot_o_7 P::boot_o_8 P::boot_o_9 P::boot_o_10 P ::
 tu []::fe (l.flatMap R.tb)::cdo "<module>" "<module>" 182 185 1 0 0 11 false .none .none .none ::
 ⟨.type "frame",none,.plain,#[some (.ref 13),some (.ref 3),some (.ref 3),none,some (.str "__main__" 164),none,some (.ref 0)]⟩::l.flatMap R.os
noncomputable def odd {α:Type}:List α->List α×List α
 | []=>([],[])
 | x::l=>(x::(odd l).2,(odd l).1)
noncomputable def bt:Nat->List Obj->BT
 | 0,_=>.nil
 | _+1,[]=>.nil
 | k+1,x::l=>.node x (bt k (odd l).1) (bt k (odd l).2)
noncomputable abbrev p0:Pos:=⟨0,0,0,0⟩
noncomputable abbrev B0:List Frame:=[topFrame p0]
noncomputable abbrev an:Option Value:=some (.ref 6)
noncomputable def ev (p:Program):Env:={ scope:=p.main.scope,locals:=mainNs,globals:=mainNs,cells:=[],code:=.ref 13,frame:=some 14 }
noncomputable def cE (p:Program):Code:=.body (behindTheImports p) (ev p)
noncomputable def sT (p:Program)(rc:List Rc)(P:Params)(m n tk:Nat)(o:OsState):SharedT:=⟨bt 12 (os P (rs P ((p.main.body.zip rc).take m))),n,{},#[],{},tk,o⟩
noncomputable def hp (p:Program)(rc:List Rc)(m n:Nat)(P:Params):Heap:=absHeap (bt 12 (os P (rs P ((p.main.body.zip rc).take m)))) n {}
noncomputable def Cut (p:Program)(rc:List Rc)(i n t:Nat)(ps:Pos)(k N n' t':Nat)(ps':Pos)(w:World):Prop:=∀ o,segRunT treeTable p w 11 an 1 N (sT p rc w.params i n t o) (piecesOf ((p.main.body.drop i).take k) (ev p) (cE p) ps B0)=some (.next,sT p rc w.params (i+k) n' t' o,cE p,ps')
noncomputable def Ch (p:Program)(rc:List Rc)(m n1 t1:Nat)(i n t:Nat)(ps:Pos)(M:Nat):Prop:=∀ w o,topRun treeTable p w 11 an M (sT p rc w.params i n t o).abs (restOf (p.main.body.drop i) (ev p) (cE p) ps B0)=some (sT p rc w.params m n1 t1 o).abs
theorem jk {p:Program}{rc:List Rc}{m n1 t1 i n t k N n' t' M:Nat}{ps ps':Pos}(c:∀ w,Cut p rc i n t ps k N n' t' ps' w)(h:Ch p rc m n1 t1 (i+k) n' t' ps' M):Ch p rc m n1 t1 i n t ps (N+M):=fun w o=>by
 have x:=piece_app (segRun_of (c w o)) (h w o)
 rw [<- a3f,a1s] at x
 exact x
theorem xW {p:Program}{rc:List Rc}{m n1 t1:Nat}{ps:Pos}(hd:p.main.body.drop m=[]):Ch p rc m n1 t1 m n1 t1 ps 2:=fun w o=>by
 rw [hd]
 exact piece_nil rfl
theorem uS (w:World):((boot_heap w.params).isNs mainGlobals&&(a3Y []:Array GenState).size==0,(boot_heap w.params).objs.size,(boot_heap w.params).nsMap mainGlobals "__annotations__")=(true,11,an):=by kernel_rfl
theorem uR {p q:Program}{loose:List Str}{Xt:Shared->Bool}{α:Type}{Yf:Shared->α}{Ya:World->α}{N M m n1 t1:Nat}{rc:List Rc}
  (e:opening p=plainProg p.main.scope.names) (hN:Nat.ble 600 N=true) (f:∀ s,fenceModules? p s=some s) (hb:behindTheImports p=p.main.body)
  (size:∀ w:World,((boot_heap w.params).isNs mainGlobals&&(a3Y []:Array GenState).size==0,(boot_heap w.params).objs.size,(boot_heap w.params).nsMap mainGlobals "__annotations__")=(true,11,an))
  (pre:∀ (w:World) (o:OsState),topGo treeTable p w 11 an 12 ⟨boot_heap w.params,a3Y [],boot_drawn,boot_toks,o⟩ (topStub p)=some ((sT p rc w.params 0 15 187 o).abs,⟨denote treeTable (cE p),cE p,p0,B0⟩))
  (blk:∀ (w:World) (o:OsState),segRun treeTable p w 11 an 1 1 (sT p rc w.params 0 15 187 o).abs (blockOf (behindTheImports p) (ev p) (cE p) p0 B0)=some (.next,(sT p rc w.params 0 15 187 o).abs,cE p,p0))
  (ch:Ch p rc m n1 t1 0 15 187 p0 M) (le:Nat.ble (12+(1+M)) N=true)
  (looks:∀ w:World,(fun o=>((staticsOk (importedModules p.main.body) (boot_heap w.params) (hp p rc m n1 w.params)&&namesBound p (hp p rc m n1 w.params)&&gensDone ⟨hp p rc m n1 w.params,#[],{},t1,o⟩&&laidKept (boot_heap w.params) (hp p rc m n1 w.params)),
    openSeen q loose (importedModules p.main.body) Xt true ⟨hp p rc m n1 w.params,#[],{},t1,o⟩,Yf ⟨hp p rc m n1 w.params,#[],{},t1,o⟩))=fun _=>(true,openGood q loose,Ya w)):LeftO p q loose Xt Yf Ya N :=
 LeftO.of_pieces (H₀:=boot_heap) (H₁:=hp p rc m n1) (gs₁:=#[]) (d₁:={}) (k₁:=t1) (boot_open e hN f) size
  (fun w o=>go_top (pre w o) (piece_block (blk w o) (by have x:=ch w o; rw [a3O,<- hb] at x; exact x))) le looks
noncomputable def cb (st:Stmt)(j:Nat):Stmt:=match st with
 | .ClassDef _ _ _ b _ _ _ _ _ _ _=>b.getD j st
 | _=>st
noncomputable def drec (st:Stmt):PySem.DefRec:=match st with
 | .FunctionDef n a b _ _ _ sc _ _ pos=>⟨n,a,b,sc,pos⟩
 | _=>⟨default,default,[],default,default⟩
theorem fz {α:Type}:∀ (l:List α) (i:Nat),(odd l).1[i]?=l[2 * i]?/\(odd l).2[i]?=l[2 * i+1]?
 | [],i=>by simp [odd]
 | x::l,i=>by
  refine ⟨?_,?_⟩
  ·cases i with
   | zero=>simp [odd]
   | succ j=>rw [show 2 * (j+1)=2 * j+1+1 by omega]; simp only [odd,a0G]; exact (fz l j).2
  ·simp only [odd,a0G]; exact (fz l i).1
theorem mj {α:Type}:∀ (l:List α),(odd l).1.length=(l.length+1) / 2/\(odd l).2.length=l.length / 2
 | []=>by simp [odd]
 | x::l=>by
  have h:=mj l
  simp only [odd,a0g,h.1,h.2]
  exact ⟨by omega,trivial⟩
theorem kM:∀ (k:Nat) (l:List Obj) (a:Nat),l.length < 2 ^ k->(bt k l).get a=l[a]?
 | 0,l,a,h=>by
  have:l=[]:=a16.mp (by simpa using h)
  subst this; simp [bt,BT.get]
 | k+1,[],a,h=>by simp [bt,BT.get]
 | k+1,x::l,a,h=>by
  have e:2 ^ (k+1)=2 * 2 ^ k:=by rw [Nat.pow_succ]; omega
  have hl:=mj l
  simp only [a0g] at h
  unfold bt
  rw [BT.get_node]
  by_cases h0:a=0
  ·simp [h0]
  ·rw [if_neg h0]
   by_cases h1:a % 2=1
   ·rw [if_pos h1,kM k _ _ (by omega),(fz l (a / 2)).1]
    obtain ⟨b,rfl⟩:∃ b,a=b+1:=⟨a-1,by omega⟩
    rw [a0G]; congr 1; omega
   ·rw [if_neg h1,kM k _ _ (by omega),(fz l (a / 2-1)).2]
    obtain ⟨b,rfl⟩:∃ b,a=b+1:=⟨a-1,by omega⟩
    rw [a0G]; congr 1; omega
noncomputable def lL (p:Program)(rc:List Rc)(m:Nat)(P:Params):List Obj:=os P (rs P ((p.main.body.zip rc).take m))
noncomputable def kK (p:Program)(rc:List Rc)(m:Nat)(as:List Addr)(P:Params):Frag:=as.map fun a=>(a,(lL p rc m P).getD a default)
noncomputable def okO:Option Obj->Bool
 | some ⟨_,_,.freed,_⟩=>false
 | some _=>true
 | none=>false
theorem lR {p:Program}{rc:List Rc}{m:Nat}{P:Params}{a:Addr}{o:Obj}:∀ {as:List Addr},(kK p rc m as P).lookup a=some o->a∈as/\o=(lL p rc m P).getD a default
 | [],h=>by simp [kK] at h
 | b::as,h=>by
  unfold kK at h
  rw [a0A,a2e] at h
  by_cases e:a=b
  ·subst e
   rw [beq_self_eq_true] at h
   exact ⟨a0k ..,(a0w h).symm⟩
  ·rw [beq_false_of_ne e] at h
   have x:=lR (as:=as) h
   exact ⟨a0c _ x.1,x.2⟩
noncomputable def hkk (p:Program)(rc:List Rc)(m n:Nat):Hook where
 α:=Array Obj
 obs s:=s.heap.objs
 val w:=(hp p rc m n w.params).objs
 says w h:=∀ a o,(hp p rc m n w.params).get? a=some o->h.get? a=some o
 of w s e a o x:=by unfold Heap.get? at *; rw [e]; exact x
 keeps w h h' X k a o x:=k _ _ (X a o x)
theorem DC {p:Program}{rc:List Rc}{m n:Nat}{as:List Addr}{w:World}{h:Heap}(hl:Nat.blt (lL p rc m w.params).length 4096=true)(hc:(as.all fun a=>Nat.blt a n&&okO (lL p rc m w.params)[a]?)=true)
  (Y:(hkk p rc m n).says w h):(kK p rc m as w.params).In h:=fun a o e=>by
 obtain ⟨e1,e2⟩:=lR e
 obtain ⟨c1,c2⟩:=a2g.mp (a0I.mp hc a e1)
 refine Y a o ?_
 have c3:a < n:=a26 c1
 have c4:(lL p rc m w.params).length < 2 ^ 12:=a26 hl
 have g:=kM 12 (lL p rc m w.params) a c4
 unfold hp Heap.get?
 rw [absHeap_at,if_pos c3]
 show (match some (((bt 12 (lL p rc m w.params)).get a).getD default) with | some ⟨_,_,.freed,_⟩=>none | o=>o)=some o
 rw [g]
 rw [a0j] at e2
 rw [<- e2]
 cases q:(lL p rc m w.params)[a]? with
 | none=>rw [q] at c2; cases c2
 | some x =>
  rw [q] at c2 e2
  have e3:o=x:=e2
  subst e3
  obtain ⟨_,_,d,_⟩:=o
  cases d<;>first | rfl | cases c2
noncomputable def pmO:Option Obj->Value
 | some ⟨_,_,.func f,_⟩=>f.pyModule
 | _=>.none
noncomputable def dvO:Option Obj->Nat
 | some ⟨_,_,.func f,_⟩=>match f.defaults with | .ref a=>a | _=>0
 | _=>0
noncomputable def rfO:Option (Option Value)->Nat
 | some (some (.ref a))=>a
 | _=>0
theorem raw_mk {K:Frag}{x:Str}{st:Stmt}{dV:Value}(h1:nsIn K mainGlobals x=some (some (.ref (rfO (nsIn K mainGlobals x)))))
  (h2:K.lookup (rfO (nsIn K mainGlobals x))=some ⟨.type "function",none,.func (fnOf x x (L2.defArgs st) (L2.defBody st) (L2.defScope st) dV .none .none (pmO (K.lookup (rfO (nsIn K mainGlobals x)))) none (.ref (rfO (nsIn K mainGlobals x)-1)) .none),#[]⟩)
  (h3:codeIn K (.ref (rfO (nsIn K mainGlobals x)-1)) x=true) (h4:keepIn K (.ref (rfO (nsIn K mainGlobals x)))=true):MR.Raw K x st dV:=⟨_,_,_,_,_,_,_,_,_,_,h1,h2,h3,h4⟩
theorem rawd_mk {K:Frag}{x:Str}{st:Stmt}{v:Value}(h1:nsIn K mainGlobals x=some (some (.ref (rfO (nsIn K mainGlobals x)))))
  (h2:K.lookup (rfO (nsIn K mainGlobals x))=some ⟨.type "function",none,.func (fnOf x x (L2.defArgs st) (L2.defBody st) (L2.defScope st) (.ref (dvO (K.lookup (rfO (nsIn K mainGlobals x))))) .none .none (pmO (K.lookup (rfO (nsIn K mainGlobals x)))) none (.ref (rfO (nsIn K mainGlobals x)-1)) .none),#[]⟩)
  (h3:codeIn K (.ref (rfO (nsIn K mainGlobals x)-1)) x=true) (h4:keepIn K (.ref (rfO (nsIn K mainGlobals x)))=true) (h5:K.lookup (dvO (K.lookup (rfO (nsIn K mainGlobals x))))=some (tu [v])):MR.RawD K x st v:=⟨_,_,_,raw_mk h1 h2 h3 h4,h5,rfl⟩
end TP

namespace MR
open PySem PySem.Spec PyProof.Rows L2 L3
theorem walkX {sx:Str}{C:M.Call}{ix k:Nat}{l:a22}{q:Program}{loose:List Str}{XP:(Str->Option Value)->Heap->Prop}{YP:World->Heap->Prop}{d:DefRec}{K:Params->a0a}(hp:∀ ns:List Int,ns.length<=63->∃ m bs,C ix [(.d,.scr ns)]=.ok ((m,.bl true),bs))(hn:l.most=some 63)(hdf:d.params.defaults=[])(hr:Room k callerA)
  (hY:∀ (w:World) (h:Heap),YP w h->(K w.params).In h)
  (F:∀ (w:World) (mg:Str->Option Value) (fa:Addr) (h:Heap),(K w.params).In h->h.Ns mainGlobals mg->mg d.name=some (.ref fa) ->
   ∃ fd:FuncData,(∀ (s:Shared) (u:Value),BindsTo s fd ⟨[u],[]⟩ [(sx,u)])/\∀ base:Heap,(K w.params).In base->base.Ns mainGlobals mg->FnOk l.prog w (K w.params) mg base CX0 k fa fd [sx] (spS (K w.params) C ix [])) :
  a3S q loose XP YP l.row.toRowW d [] (fun f vs=>a3R f vs) :=
 L2.walk_of (n:=63) (k:=k) (x:=sx) (CX:=fun _=>CX0) (sp:=fun w=>spS (K w.params) C ix []) hn (by decide) hdf hr hY F (fun _ _ a ns hl hO hS=>As (hp ns hl) hl hO hS) fun _ _ _ _ _ z=>z
theorem uo {sx:Str}{w:World}{K:a0a}{mg:Str->Option Value}{st:Stmt}{h:Heap}{fa:Addr}{pr:Program}{k:Nat}{sp:Sp}(X:K.In h)(G:h.Ns mainGlobals mg)(hfa:mg "law"=some (.ref fa))(r:Raw K "law" st .none)(hb:∀ (kV dc pm:Value) (an:Option Addr) (cd ct:Value) (s:Shared) (v:Value),BindsTo s (a0X "law" "law" (defArgs st) (defBody st) (defScope st) .none kV dc pm an cd ct) ⟨[v],[]⟩ [(sx,v)])
  (ok:∀ f fd,Fun K "law" "law" st f fd->∀ base,FnOk pr w K mg base CX0 k f fd [sx] sp):∃ fd:FuncData,(∀ (s:Shared) (v:Value),BindsTo s fd ⟨[v],[]⟩ [(sx,v)])/\∀ base:Heap,K.In base->base.Ns mainGlobals mg->FnOk pr w K mg base CX0 k fa fd [sx] sp:=by
 obtain ⟨f,oc,od,sl,kV,dc,pm,an,cd,ct,h1,h2,h3,h4⟩:=r
 have e:=hfa.symm.trans (a1i X G h1)
 cases e
 exact ⟨_,hb kV dc pm an cd ct,fun base _ _=>ok _ _ (qp (st:=st) h2 h3 h4) base⟩
end MR

namespace L3
open PySem PySem.Spec PyProof.Rows L2
end L3
namespace MR
open PySem PySem.Spec PyProof.Rows L2 L3
end MR

namespace L3
open PySem PySem.Spec PyProof.Rows L2
end L3
namespace MR
open PySem PySem.Spec PyProof.Rows L2 L3
end MR

namespace L3
open PySem PySem.Spec PyProof.Rows L2
end L3
namespace MR
open PySem PySem.Spec PyProof.Rows L2 L3
end MR

namespace L3
open PySem PySem.Spec PyProof.Rows L2
end L3
namespace MR
open PySem PySem.Spec PyProof.Rows L2 L3
end MR

namespace MR
open L2 L3 M
open PySem (Addr Str sizeLine)
section
variable {K:a0a}{Wx:L2.St->VK}{sl:Cf}{sf sg:Nat->Option Nat}{C:Call}{σ σ2:L2.St}{Z Z' Z1:Fp}{H H' H1:Hp}{Fs Fs' Fs1:Fps}{η η' η1 ηb:Env}{G G' G1 R F F':Fp}{tg is vs ls io:List Nat}{pv val:Nat->Option V}{D:bL}
noncomputable def kT:Int ⊕ Str->T
 | .inl n=>.int n
 | .inr x=>.str x
end
end MR
namespace MR
open PySem PySem.Spec PyProof.Rows L2 L3
end MR

namespace L3
open PySem PySem.Spec PyProof.Rows L2
end L3

namespace L3
open PySem PySem.Spec PyProof.Rows L2
end L3
namespace MR
open PySem PySem.Spec PyProof.Rows L2 L3
end MR

namespace L3
open PySem PySem.Spec PySem.NumText PyProof.Rows L2
end L3
namespace MR
open PySem PySem.Spec PyProof.Rows L2 L3
end MR

namespace MR
open PySem PySem.Spec PyProof.Rows L2 L3
end MR

namespace L3
open PySem PySem.Spec PyProof.Rows L2
end L3
namespace MR
open L2 L3 M
open PySem (Addr Str sizeLine)
end MR
namespace MR
open PySem PySem.Spec PyProof.Rows L2 L3
end MR

namespace L3
open PySem PySem.Spec PyProof.Rows L2
end L3
namespace MR
open PySem PySem.Spec PyProof.Rows L2 L3
end MR

namespace MR
open L2 L3 M
open PySem (Addr Str sizeLine)
end MR
namespace MR
open PySem PySem.Spec PyProof.Rows L2 L3
end MR

namespace L2
open PySem PySem.Spec PyProof.Rows
end L2
namespace L3
open PySem PySem.Spec PyProof.Rows L2
end L3
namespace MR
open L2 L3 M
open PySem (Addr Str sizeLine)
end MR
namespace MR
open PySem PySem.Spec PyProof.Rows L2 L3
end MR

namespace L3
open PySem PySem.Spec PyProof.Rows L2
end L3
namespace MR
open L2 L3 M
open PySem (Addr Str sizeLine)
end MR
namespace MR
open PySem PySem.Spec PyProof.Rows L2 L3
end MR

namespace MR
open L2 L3 M
open PySem (Addr Str sizeLine)
end MR
namespace MR
open PySem PySem.Spec PyProof.Rows L2 L3
end MR

namespace L3
open PySem PySem.Spec PyProof.Rows L2
end L3
namespace MR
open L2 L3 M
open PySem (Addr Str sizeLine)
end MR
namespace MR
open PySem PySem.Spec PyProof.Rows L2 L3
end MR

namespace MR
open L2 L3 M
open PySem (Addr Str sizeLine)
end MR
namespace MR
open PySem PySem.Spec PyProof.Rows L2 L3
end MR

namespace MR
open PySem PySem.Spec PyProof.Rows L2 L3
noncomputable def spX (K:a0a)(C:M.Call)(g:Nat):Sp:=fun vs H Q E=>∃ Z ws G,RepW K Z H ws vs G/\Own Z H G/\(∀ a,Z a->H a≠none) /\
 ((∃ w,C g ws=.ok (w,[])/\∀ v Z' H' G1,Rep K Z' H' w.1 w.2 v G1->Own Z' H' G1->Step Z H G Z' H' G1->Q v H') \/
  (∃ t,C g ws=.ex t/\∀ a Z' H',Rep K Z' H' .s t (.ref a) no->Step Z H G Z' H' no->E (.ref a) none H'))
section
variable {P:Program}{w:World}{K:a0a}{mg:Str->Option Value}{base:Heap}
theorem Fun.okX {x qual:Str}{st:Stmt}{f:Addr}{fd:FuncData}{N ps:List Str}{k:Nat}{C:M.Call}{d:M.Fn}(F:L2.Fun K x qual st f fd)(S:ao N ps (defScope st))(hps:d.ps=ps.length)(hle:ps.length<=N.length)(hio:d.io=[])
  (hbody:∀ (cdv:Value) (A:Around) (outer:List Env) (s:Shared) (H:Hp) (E:XK),Room k (A.deeper (envOfC qual (defScope st) s.heap.objs.size f cdv)) ->
   SSs (cZ (CX1 P w) P w K mg base N qual (defScope st) f cdv A outer s H E) (slN N.length) [] C (defBody st) d.body) {g:Nat} {C':M.Call} (hC:∀ ws,C' g ws=M.runF C d ws):FnOk P w K mg base (CX1 P w) (k+1) f fd ps (spX K C' g):=by
 have len:∀ vs H Q E,spX K C' g vs H Q E->vs.length=ps.length:=fun vs H Q E ⟨Z,ws,G,r,_,_,h⟩=>by
  have:M.runF C d ws≠.no:=by
   rcases h with ⟨w,h,_⟩ | ⟨t,h,_⟩<;>(rw [hC] at h; rw [h]; intro z; cases z)
  unfold M.runF at this
  split at this
  ·rename_i h; rw [r.length,h,hps]
  ·exact absurd rfl this
 obtain ⟨oc,od,kV,doc,pm,an,cdv,ct,osl,rfl,lk,hcd⟩:=F.ex
 refine rZ lk hcd S len fun A outer s H vs Q E hr h=>⟨_,hbody cdv A outer s H E hr,?_⟩
 have hlen:=len vs H Q E h
 obtain ⟨Z,ws,G,r,o,z,h⟩:=h
 have hwl:ws.length=d.ps:=by rw [<- r.length,hlen,hps]
 rw [hC,M.x_run _ _ _ hwl,hio] at h
 obtain ⟨Fs,ft,A0⟩:=gx (n:=d.ns) (io:=[]) r o z (N:=N) (by omega)
 refine ⟨_,Z,Fs,_,⟨fun i i' j h h'=>?_,fun i h=>if_neg h⟩,A0,?_⟩
 ·simp only [slN] at h h'
  split at h
  ·split at h'
   ·cases h; cases h'; rfl
   ·cases h'
  ·cases h
 cases e:M.evSs C d.body (ws.map some++a0h d.ns none) with
 | nx η =>
  rw [e] at h
  intro σ' Z' H' Fs' A' t
  rcases h with ⟨w,h,q⟩ | ⟨t,h,q⟩
  ·cases h
   exact q .non Z' H' no rfl (fun _ z=>z.elim) (t.mono ft fun a z=>z.elim)
  ·cases h
 | rt u η =>
  rw [e] at h
  intro v σ' Z' H' Fs' G' A' rp t
  rcases h with ⟨w,h,q⟩ | ⟨t,h,q⟩
  ·cases h
   exact q v Z' H' G' rp A'.own (t.mono ft fun a z=>.inr z)
  ·cases h
 | ex t η =>
  rw [e] at h
  intro v σ' Z' H' Fs' A' rp st pins s1 a C0 od0 ev ha I tr
  subst ev
  rcases h with ⟨w,h,q⟩ | ⟨t,h,q⟩
  ·cases h
  ·cases h
   exact qg I ha tr (q a Z' H' rp (st.mono ft fun a z=>z.elim))
 | bk η=>rw [e] at h; rcases h with ⟨w,h,q⟩ | ⟨t,h,q⟩<;>cases h
 | no=>rw [e] at h; rcases h with ⟨w,h,q⟩ | ⟨t,h,q⟩<;>cases h
theorem EB {f:Addr}{fd:FuncData}{ps:List Str}{k g:Nat}{C:M.Call}(hC:∀ ws,C g ws=.no):FnOk P w K mg base (CX1 P w) k f fd ps (spX K C g):=by
 have no:∀ {vs H Q E},spX K C g vs H Q E->False:=fun ⟨Z,ws,G,_,_,_,h⟩=>by rcases h with ⟨w,h,_⟩ | ⟨t,h,_⟩<;>(rw [hC] at h; cases h)
 exact ⟨fun _ _ _ _ h=>(no h).elim,fun _ _ _ _ _ _ _ _ _ _ _ _ _ h=>(no h).elim⟩
end
noncomputable def dF (P:Program)(w:World)(K:a0a)(mg:Str->Option Value)(base:Heap)(n:Nat)(C:M.Call)(x:Str)(g:Nat):Prop :=
 ∃ fa fd ps,FnOk P w K mg base (CX1 P w) n fa fd ps (spX K C g)/\mg x=some (.ref fa)/\a1b K (.ref fa)=true/\Binds K fd ps []
noncomputable def wC (K:a0a)(Wx:L2.St->VK)(sf:Nat->Option Nat)(C:M.Call)(f:Nat)(es:List M.E):TE:=fun σ H Q=>∃ pv Z Fs η ws η',At K ⟨sf,pv⟩ σ Z H Fs η no/\M.evL C es η=.ok (ws,η') /\
 ((∃ w,C f ws=.ok (w,[])/\∀ v Z' H' Fs' G,At K ⟨sf,pv⟩ σ Z' H' Fs' η' G->Rep K Z' H' w.1 w.2 v G->Step Z H (tot Fs) Z' H' (fun a=>tot Fs' a\/G a)->Q v H') \/
  (∃ t,C f ws=.ex t/\∀ v Z' H' Fs',At K ⟨sf,pv⟩ σ Z' H' Fs' η' no->Rep K Z' H' .s t v no->Step Z H (tot Fs) Z' H' (tot Fs')->Wx σ v H'))
noncomputable def EX (X:Cx)(σ:L2.St):XK:=fun u _ H'=>∀ a,u=.ref a->xw X σ (.ref a) H'
section
variable {X:Cx}{sf:Nat->Option Nat}{C:M.Call}{pos p:Pos}{ea:Expr}{es:List Expr}{bs:List M.E}{x:Str}{n g:Nat}{io:List Nat}{vs:List Nat}{i j:Nat}
theorem om {k:Nat}{f:Addr}{fd:FuncData}{ps:List Str}{sp:Sp}{pins:List (Addr×Obj)}{σ:L2.St}{H:Hp}{s:Shared}{Q:VK}{us:List Value}{vs:List V}(F:FnOk X.prog X.w X.K X.mg X.base (CX1 X.prog X.w) k f fd ps sp)(hr:Room k X.A)(hb:Binds X.K fd ps [])
  (I:Inv X pins σ H s) (r:Vals vs us) (h:sp vs H Q (EX X σ)):wpAny (model X.prog X.w) X.A (call (.ref f) us) (EP X pins σ Q) X.xe s:=by
 have hl:(us++[]).length=ps.length:=by rw [a0z,<- r.length]; exact F.len _ _ _ _ h
 have bd:=hb s us I.kIn hl
 rw [a0z] at bd
 refine wpAny_call (codeAny_mono (F.run X.A X.stack s H ⟨us,[]⟩ us vs Q (EX X σ) hr I.env0 bd r h) fun r s' hq=>?_)
 cases r with
 | error e =>
  obtain ⟨a,C0,od,H',rfl,os,bare,un,hok,ha,tr,q⟩:=hq
  refine q a rfl pins s' a C0 od rfl ha (I.call' os un hok bare fun b z=>absurd z (by simp)) ?_
  obtain ⟨oe,ws,e1,e2,e3⟩:=tr
  refine ⟨oe,ws,e1,e2,e3.imp id fun ⟨T,oT,ts,y1,y2,y3,y4,y5,y6,y7⟩=>⟨T,oT,ts,y1,y2,y3,y4,y5,a0o I.sz y6,y7⟩⟩
 | ok fl =>
  cases fl with
  | ret u=>exact I.after hq
  | next=>exact a05 hq
  | brk=>exact a05 hq
  | cont=>exact a05 hq
theorem jh (c:dF X.prog X.w X.K X.mg X.base n C x g)(hr:Room n X.A)(ha:SL X sf C (ea::es) bs)(hg:Gl X x:=by rfl)(hdb:(x==("__debug__":Str))=false:=by decide)
  (he:starEach (ea::es) X.env=(false,eval ea X.env)::starEach es X.env:=by rfl) (hpl:(backTo pos (starEach es X.env)).any (·.1)=false:=by rfl):PE X (.Call (.Name x p) (ea::es) [] pos) (wC X.K (xw X) sf C g bs):=by
 obtain ⟨fa,fd,ps,F,hm,hk,hb⟩:=c
 intro pins s σ H Q I h
 obtain ⟨pv,Z,Fs,η,ws,η',A,ev,h⟩:=h
 refine wpAny_Call_Name_kw (dz I hg hm ?_ hdb)
 refine a2s (h₀:=X.base) I.ok.mod.kin hk (thn (ha pos pins s σ H (fun vs H1=>spX X.K C g vs H1 Q (EX X σ)) I ⟨pv,Z,Fs,η,ws,η',A,ev,fun vs Z1 H1 Fs1 G B r st=>?_⟩) fun us s1 ⟨vs,H1,I1,r,q⟩=>⟨I1.kIn,?_⟩) he hpl
 ·refine ⟨Z1,ws,G,r,B.own,B.gd.zal,?_⟩
  rcases h with ⟨w,e,q⟩ | ⟨t,e,q⟩
  ·refine .inl ⟨w,e,fun v Z2 H2 G1 r1 o s2=>?_⟩
   obtain ⟨B2,s3⟩:=B.op o s2
   exact q v Z2 H2 Fs1 G1 B2 r1 (st.trans s3)
  ·refine .inr ⟨t,e,fun a Z2 H2 r1 s2=>?_⟩
   obtain ⟨B2,s3⟩:=B.op (fun _ z=>z.elim) s2
   intro a' ea'
   cases ea'
   exact q (.ref a) Z2 H2 Fs1 B2 r1 ((st.trans s3).mono (fun _ z=>z) fun a z=>.inl z)
 ·exact om F hr hb I1 r q
theorem qe {k:M.W->M.Env->M.Fl}{K:a0a}{Wx:L2.St->VK}{pv:Nat->Option V}{Z:Fp}{H:Hp}{Fs:Fps}{η:M.Env}{D:bL}{σ:L2.St}{Q:VK}(A:At K ⟨sf,pv⟩ σ Z H Fs η no)
  (f:Fin K Wx ⟨sf,pv⟩ Z H (tot Fs) D (M.Fl.of η (M.evL C bs (M.share vs η)) (M.kC C g k)))
  (q:∀ w η1 v Z' H' Fs' G,Fin K Wx ⟨sf,pv⟩ Z H (tot Fs) D (k w η1)->At K ⟨sf,pv⟩ σ Z' H' Fs' η1 G->Rep K Z' H' w.1 w.2 v G->Step Z H (tot Fs) Z' H' (fun a=>tot Fs' a\/G a)->Q v H'):wC K Wx sf C g bs σ H Q:=by
 obtain ⟨⟨ws,η1⟩,h1,h2⟩:=aT f
 have h2:Fin K Wx ⟨sf,pv⟩ Z H (tot Fs) D (M.outC k η1 (C g ws)):=h2
 obtain ⟨A1,s1⟩:=A.share (vs:=vs)
 have s0:Step Z H (tot Fs) (fun a=>Z a\/cN Fs vs a) H (tot (eX Fs vs)):=(s1 ((Step.refl Z H (tot Fs)).mono (fun _ z=>z) fun a z=>z.elim id fun y=>y.elim)).mono (fun _ z=>z) fun a z=>.inl z
 refine ⟨pv,_,_,_,ws,η1,A1,h1,?_⟩
 cases e:C g ws with
 | no=>rw [e] at h2; exact h2.elim
 | ex t =>
  rw [e] at h2
  exact .inr ⟨t,rfl,fun v Z' H' Fs' B r st=>h2 v σ Z' H' Fs' B r (s0.trans st)⟩
 | ok p =>
  obtain ⟨w,l⟩:=p
  rw [e] at h2
  cases l with
  | cons _ _=>exact h2.elim
  | nil=>exact .inl ⟨w,rfl,fun v Z' H' Fs' G B r st=>q w η1 v Z' H' Fs' G h2 B r (s0.trans st)⟩
theorem wx (j:Nat){i:Nat}{x:Str}{pos':Pos}(hN:X.N.Nodup)(ha:PE X ea (wC X.K (xw X) sf C g bs))(hi:i ∉ io:=by decide)(hs:sf i=some j:=by rfl)(hj:X.N[j]?=some x:=by rfl)(hx:L2.Loc X.env.scope x:=by first | exact a0F rfl | exact a0B rfl)
  (hsw:swapsWith ea (some (.Name x pos')) pos.line X.env=pure false:=by rfl) (hf:X.fn x=true\/X.env.scope.names.lookup x=some .local:=by first | exact .inl rfl | exact .inr rfl):SS X sf io C (.Assign [.Name x pos'] ea pos) (.asgC vs i g bs) :=
 bW (fW (i:=j) hN hj hx ha hsw hf) fun D σ H h=>by
  obtain ⟨pv,Z,Fs,η,N,A,f⟩:=h
  exact qe (k:=M.kAsgC i) (vs:=vs) A f fun w η1 v Z' H' Fs' G h2 B r st=>(show Fin X.K (xw X) ⟨sf,pv⟩ Z H (tot Fs) D (.nx (M.put η1 i w)) from h2) _ Z' H' _ (At.set N hi hs B r) (st.mono (fun _ z=>z) fun a ha=>br ha)
theorem CF (ha:PE X ea (wC X.K (xw X) sf C g bs))(hs:swapsWith ea none pos.line X.env=pure false:=by rfl):SS X sf io C (.Expr ea pos) (.expC vs g bs) :=
 bW (cj ha hs) fun D σ H h=>by
  obtain ⟨pv,Z,Fs,η,N,A,f⟩:=h
  exact qe (k:=M.kExpC) (vs:=vs) A f fun w η1 v Z' H' Fs' G h2 B r st=>(show Fin X.K (xw X) ⟨sf,pv⟩ Z H (tot Fs) D (.nx η1) from h2) σ Z' H' Fs' B.bare (st.mono (fun _ z=>z) fun a ha=>.inl ha)
theorem Dw (ha:PE X ea (wC X.K (xw X) sf C g bs)):SS X sf io C (.Return (some ea) pos) (.retC vs g bs) :=
 bW (ly ha) fun D σ H h=>by
  obtain ⟨pv,Z,Fs,η,N,A,f⟩:=h
  exact qe (k:=.rt) (vs:=vs) A f fun w η1 v Z' H' Fs' G h2 B r st=>(show Fin X.K (xw X) ⟨sf,pv⟩ Z H (tot Fs) D (.rt w η1) from h2) v σ Z' H' Fs' G B r st
end
noncomputable def spI (C:Addr)(fld:Str):Sp:=fun vs H Q _=>∃ a n,vs=[.ref a,.int n]/\n.natAbs.log2 < 1920/\H a=some (XO a C none true)/\∀ dx,H dx=none->dx≠a->Q .non (upd (upd H dx (.xd [(fld,.int n)])) a (XO a C (some dx) true))
section
variable {X:Cx}{sf:Nat->Option Nat}{C:M.Call}{pos p p2:Pos}{ea:Expr}{a:M.E}{x fld:Str}{c k:Nat}{io:List Nat}{xx:M.X}{Cc f:Addr}{up:List Value}{fd:FuncData}{ps:List Str}
theorem xC (xc:XC X.K Cc f up)(hu:dD up=true)(nm:XNm X.K c Cc)(F:FnOk X.prog X.w X.K X.mg X.base CX0 k f fd ps (spI Cc fld))(hb:Binds X.K fd ps [])(hm:X.mg x=some (.ref Cc))(hr:Room (k+1) X.A)(ha:SE X sf C ea a)(hc:X.calm=true:=by rfl)(hg:Gl X x:=by rfl)
  (hdb:(x==("__debug__":Str))=false:=by decide) (hst:starEach [ea] X.env=(false,eval ea X.env)::starEach [] X.env:=by rfl) (hpl:(backTo p2 (starEach [] X.env)).any (·.1)=false:=by rfl) :
  SS X sf io C (.Raise (some (.Call (.Name x p) [ea] [] p2)) none pos) (.raise c fld xx a) :=
 bW (qB hc (qw (E:=E0) xc F hr hg hm hb lY (aq ha aM hst) hdb hst hpl)) fun D σ H h=>by
  obtain ⟨pv,Z,Fs,η,N,A,g⟩:=h
  obtain ⟨⟨⟨m,t⟩,η1⟩,h1,h2⟩:=aT (show Fin X.K (xw X) ⟨sf,pv⟩ Z H (tot Fs) D (M.Fl.of η (M.evX C xx a η) (M.kRaise c fld)) from g)
  refine jt (sl:=⟨sf,pv⟩) A h1 fun v Z' H' Fs' G B r s=>?_
  cases t with
  | int n =>
   have h3:Fin X.K (xw X) ⟨sf,pv⟩ Z H (tot Fs) D (if decide (n.natAbs.log2 < 1920)=true then .ex (.ins c [fld] [.int n]) η1 else .no):=h2
   split at h3
   ·rename_i hlt
    obtain rfl:v=.int n:=r
    refine ⟨by show 1<=sizeLine; rw [sizeLine_eq]; omega,fun a' h0=>⟨a',n,rfl,of_decide_eq_true hlt,aj,fun dx hd hne=>⟨rfl,a',Cc,some dx,f,up,rfl,aj,xc,hu,?_⟩⟩⟩
    have hd0:H' dx=none:=by rw [ag hne] at hd; exact hd
    generalize hH:upd (upd (upd (upd H' a' (XO a' Cc none true)) dx (.xd [(fld,.int n)])) a' (XO a' Cc (some dx) true)) a' (XO a' Cc (some dx) false)=H3
    have q1:H3 a'=some (XO a' Cc (some dx) false):=by rw [<- hH,aj]
    have q2:H3 dx=some (.xd [(fld,.int n)]):=by rw [<- hH,ag hne,ag hne,aj]
    have q3:∀ b,b≠a'->b≠dx->H3 b=H' b:=fun b n1 n2=>by rw [<- hH,ag n1,ag n1,ag n2,ag n1]
    have ne:∀ b,H' b≠none->b≠a'/\b≠dx:=fun b z=>⟨fun e=>z (by rw [e]; exact h0),fun e=>z (by rw [e]; exact hd0)⟩
    have st:Step Z' H' G (fun b=>Z' b\/b=a'\/b=dx) H3 no:={
     keep:=fun b o e _=>by obtain ⟨n1,n2⟩:=ne b (by rw [e]; simp); rw [q3 b n1 n2]; exact e
     zm:=fun b z=>.inl z
     zn:=fun b z=>z.elim .inl fun z=>.inr (.inr (z.elim (fun e=>by rw [e]; exact h0) fun e=>by rw [e]; exact hd0))
     fn:=fun _ z=>z.elim
     al:=fun b z=>by obtain ⟨n1,n2⟩:=ne b z; rw [q3 b n1 n2]; exact z
     za:=fun hz b z=>by
      rcases z with z | rfl | rfl
      ·obtain ⟨n1,n2⟩:=ne b (hz b z); rw [q3 b n1 n2]; exact hz b z
      ·rw [q1]; simp
      ·rw [q2]; simp }
    obtain ⟨B2,s2⟩:=B.op (fun _ z=>z.elim) st
    exact h3 (.ref a') σ _ H3 Fs' B2 ⟨(fun z=>by cases z),a',dx,Cc,[.int n],rfl,.inr (.inl rfl),.inr (.inr rfl),q1,q2,rfl,nm,RepL.one (show Rep X.K _ H3 .s (.int n) (.int n) (fun _=>False) from rfl)⟩ ((s.trans s2).mono (fun _ z=>z) fun b z=>.inl z)
   ·exact h3.elim
  | _=>exact h2.elim
end
theorem At.drop {K:a0a}{sf:Nat->Option Nat}{pv:Nat->Option V}{io:List Nat}{σ:L2.St}{Z:Fp}{H:Hp}{Fs:Fps}{η:M.Env}{G:Fp}{i j:Nat}(N:mU sf io pv)(hi:i ∉ io)(hs:sf i=some j)(A:At K ⟨sf,pv⟩ σ Z H Fs η G):At K ⟨sf,pv⟩ (σ.set j none) Z H Fs (M.del η i) G:=by
 refine ⟨A.gd,fun l m t e=>?_,A.own,A.dis,fun l u q hu hq=>?_,fun l q hq=>by rw [a1H]; exact A.ln l q hq⟩
 ·have e':M.rd (M.wr η i none) l=some (m,t):=e
  rw [bp] at e'
  split at e'
  ·cases e'
  ·rename_i hne
   have hli:l≠i:=fun z=>hne ⟨z,by rw [<- z]; exact dE e'⟩
   obtain ⟨v,r,h1,h2⟩:=A.env l m t e'
   refine ⟨v,r,fun q hq=>?_,h2⟩
   have:q≠j:=fun z=>hli (N.inj l i j (by rw [<- z]; exact hq) hs)
   rw [a1d (a1w this)]
   exact h1 q hq
 ·have hli:l≠i:=fun z=>by
   have:=N.io i hi
   rw [<- z,show pv l=some u from hu] at this; cases this
  have:q≠j:=fun z=>hli (N.inj l i j (by rw [<- z]; exact hq) hs)
  show (σ.set j none)[q]?=_
  rw [a1d (a1w this)]
  exact A.lk l u q hu hq
theorem Fin.wish {K:a0a}{W W':L2.St->VK}{sl:Cf}{Z:Fp}{H:Hp}{F:Fp}{D:bL}{fl:M.Fl}(h:∀ σ v H,W σ v H->W' σ v H)(f:Fin K W sl Z H F D fl):Fin K W' sl Z H F D fl:=by
 cases fl with
 | nx η=>exact f
 | rt w η=>exact f
 | bk η=>exact f
 | ex t η=>exact fun v σ' Z' H' Fs' A r s=>h _ _ _ (f v σ' Z' H' Fs' A r s)
 | no=>exact f
section
variable {X:Cx}{sf:Nat->Option Nat}{C:M.Call}{pos pos' p:Pos}{io:List Nat}{cs:List Nat}{cn x:Str}{i:Nat}{B:Addr}{upB:List Value}{body suite:List Stmt}{b₀:Stmt}{ms hs:List M.S}
theorem Cd (j:Nat)(hN:X.N.Nodup)(cb:∀ h,X.K.In h->∃ N' names',fE h B N' upB names')(hub:dD upB=true)(hm:X.mg cn=some (.ref B))(hcs:∀ c∈cs,∀ C,XNm X.K c C->∃ f up,XC X.K C f up/\up.contains (.ref B)=true)
  (hb:∀ E' pn,SSs (L3.tx X E' pn) sf io C body ms) (hh:∀ a,SSs (L3.hx X a) sf io C (b₀::suite) hs)
  (hst:X.stack=X.env::X.outer:=by rfl) (hf:X.env.frame=some X.env.locals:=by rfl) (hi:i ∉ io:=by decide) (hs':sf i=some j:=by rfl) (hj:X.N[j]?=some x:=by rfl) (hk:X.env.scope.names.lookup x=some .local:=by rfl) (hg:Gl X cn:=by rfl) (hdb:(cn==("__debug__":Str))=false:=by decide) :
  SS X sf io C (.Try body [.ExceptHandler (some (.Name cn p)) (some x) (b₀::suite) pos'] [] [] pos) (.tryC cs ms i hs):=by
 refine bW (so (i:=j) (tb:=fun W=>wSs X.K W sf io C ms) (th:=fun a=>wSs X.K (xw (L3.hx X a)) sf io C hs) hst hf hN hj hk hg hm cb hub (fun E' pn=>hb E' pn) hh hdb fun W W' D σ H h ⟨pv,Z,Fs,η,N,A,f⟩=>⟨pv,Z,Fs,η,N,A,Fin.wish h f⟩) fun D σ H h=>?_
 obtain ⟨pv,Z,Fs,η,N,A,f⟩:=h
 have f:Fin X.K (xw X) ⟨sf,pv⟩ Z H (tot Fs) D (M.Fl.caught cs i (M.evSs C hs) (M.evSs C ms η)):=f
 refine ⟨pv,Z,Fs,η,N,A,?_⟩
 cases e:M.evSs C ms η with
 | nx η1=>rw [e] at f; exact f
 | rt w η1=>rw [e] at f; exact f
 | bk η1=>rw [e] at f; exact f
 | no=>rw [e] at f; exact f
 | ex t η1 =>
  rw [e] at f
  intro v σ' Z' H' Fs' A' r st
  cases t with
  | ins c fs vs =>
   have f:Fin X.K (xw X) ⟨sf,pv⟩ Z H (tot Fs) D (if cs.contains c=true then M.Fl.drop i (M.evSs C hs (M.put η1 i (.s,.ins c fs vs))) else .no):=f
   split at f
   ·rename_i hcc
    have r0:=r
    obtain ⟨_,a,dx,Cc,xs,rfl,z1,z2,e1,e2,l,nm,_⟩:=r
    obtain ⟨fI,up,xc,hu⟩:=hcs c (by simpa using hcc) Cc nm
    have A2:=At.set (w:=(.s,.ins c fs vs)) N hi hs' A' r0
    have f:=f.step st
    refine ⟨a,Cc,some dx,fI,up,rfl,e1,xc,hu,pv,Z',_,_,N,A2,?_⟩
    have tf:∀ b,tot (lh Fs' i no) b->tot Fs' b:=fun b z=>(br z).elim id fun y=>y.elim
    cases e3:M.evSs C hs (M.put η1 i (.s,.ins c fs vs)) with
    | nx η2 =>
     rw [e3] at f
     exact fun σ2 Z2 H2 Fs2 A3 s2=>f _ Z2 H2 Fs2 (At.drop N hi hs' A3) (s2.mono tf fun _ z=>z)
    | rt w η2 =>
     rw [e3] at f
     exact fun v2 σ2 Z2 H2 Fs2 G2 A3 r3 s2=>f v2 _ Z2 H2 Fs2 G2 (At.drop N hi hs' A3) r3 (s2.mono tf fun _ z=>z)
    | bk η2=>rw [e3] at f; exact f.elim
    | ex t η2=>rw [e3] at f; exact f.elim
    | no=>rw [e3] at f; exact f.elim
   ·exact f.elim
  | _=>exact f.elim
end
end MR

namespace L3
open PySem PySem.Spec PyProof.Rows L2
theorem oX {X:Cx}{cv:Value}{rv:V}(rc:∀ u,RelV rv u->u=cv):cq X (.builtin "isinstance") (fun xs H Q=>∃ x b,xs=[x,rv]/\((∃ a C dx n fs,x=.ref a/\H a=some (XO a C (some dx) n)/\H dx=some (.xd fs)/\XF X.K C/\a0y X.K (.ref C) cv=some b)\/(x=.non/\a0y X.K (.type "NoneType") cv=some b))/\Q (.bl b) H):=by
 intro pins s σ H xs us Q I r h
 obtain ⟨x,b,rfl,h,q⟩:=h
 obtain ⟨u,w',rfl,ru,rw'⟩:=fm r
 obtain rfl:w'=cv:=rc _ rw'
 rcases h with ⟨a,C,dx,n,fs,rfl,e,d,c,k⟩ | ⟨rfl,k⟩
 ·obtain rfl:u=Value.ref a:=ru
  exact AO I e d c k fun tk=>⟨.bl b,H,I.tok tk,rfl,q⟩
 ·exact cI I ru .non k fun tk=>⟨.bl b,H,I.tok tk,rfl,q⟩
end L3
namespace MR
open PySem PySem.Spec PyProof.Rows L2 L3
section
variable {X:Cx}{sf:Nat->Option Nat}{C:M.Call}{pos p p2 p3:Pos}{ea:Expr}{a:M.E}{h:Bool}{k fld:Str}{cs:List Nat}{cv:Value}{rv:V}
theorem lQ {K:a0a}{Z:Fp}{H:Hp}{m:M.Md}{c:Nat}{fs:List Str}{vs:List M.T}{v:V}{G:Fp}(r:Rep K Z H m (.ins c fs vs) v G):∃ a dx xs,v=.ref a/\H a=some (XO a c (some dx) false)/\H dx=some (.xd (fs.zip xs))/\fs.length=vs.length/\XF K c/\RepL K Z H .s vs xs (fun _=>False):=by
 obtain ⟨_,a,dx,C,xs,e,_,_,h1,h2,l,⟨rfl,f⟩,r⟩:=r
 exact ⟨a,dx,xs,e,h1,h2,l,f,r⟩
theorem Eg (ha:SE X sf C ea a)(hn:∀ c:Nat,XF X.K c->a0D X.K (.ref c) fld=some none)(hb:attributeBase ea fld X.env (eval ea X.env)=eval ea X.env:=by rfl):SE X sf C (.Attribute ea fld pos) (.op (.att fld) h [a]) :=
 aD (tQ ha hb) fun σ H Q hw=>by
  obtain ⟨pv,Z,Fs,η,w,η',A,ev,k⟩:=hw
  obtain ⟨ws,h1,h2⟩:=cy ev
  obtain ⟨⟨m,u⟩,η1,us,e1,e2,rfl⟩:=aB h1
  cases e2
  cases u with
  | ins c fs vs =>
   match fs,vs,h2 with
   | [g],[.int n],h2 =>
    have h3:(if (g==fld)=true then some ((.d,.int n):M.W) else none)=some w:=h2
    split at h3
    ·rename_i hg
     cases h3
     refine ⟨pv,Z,Fs,η,_,η',A,e1,fun x Z' H' Fs' G B r s=>?_⟩
     obtain ⟨a',dx,xs,e,q1,q2,l,f,rl⟩:=lQ r
     obtain ⟨y,r',G1,G2,ex,_,_,_,ry,rn⟩:=rl
     cases ex
     obtain rfl:y=.int n:=ry
     obtain rfl:r'=[]:=rn
     refine ⟨a',c,dx,false,[(g,.int n)],.int n,e,q1,q2,f,hn c f,?_,?_⟩
     ·rw [<- beq_iff_eq.mp hg]; simp [a2L]
     ·exact k (.int n) Z' H' Fs' no B.bare rfl (s.mono (fun _ z=>z) fun b z=>z.elim .inl fun y=>y.elim)
    ·cases h3
  | _=>cases h2
theorem wF {rk:PE X (.Name k p2) (fun σ H Q=>Q rv H)}(rc:∀ u,RelV rv u->u=cv)(hk:∀ c:Nat,XF X.K c->a0y X.K (.ref c) cv=some (cs.contains c))(hk0:a0y X.K (.type "NoneType") cv=some false)(hm:X.mg "isinstance"=none)(ha:SE X sf C ea a)(hg:Gl X "isinstance":=by rfl)
  (hs:starEach [ea,.Name k p2] X.env=(false,eval ea X.env)::starEach [.Name k p2] X.env:=by rfl) (hs2:starEach [.Name k p2] X.env=(false,eval (.Name k p2) X.env)::starEach [] X.env:=by rfl) (hpl:(backTo pos (starEach [.Name k p2] X.env)).any (·.1)=false:=by rfl) :
  SE X sf C (.Call (.Name "isinstance" p3) [ea,.Name k p2] [] pos) (.op (.isX cs) h [a]) :=
 aD (bu (oX rc) hg hm a1a (aq ha (aq rk aM hs2) hs) (by decide) (by decide) hs hpl) fun σ H Q hw=>by
  obtain ⟨pv,Z,Fs,η,w,η',A,ev,k⟩:=hw
  obtain ⟨ws,h1,h2⟩:=cy ev
  obtain ⟨⟨m,u⟩,η1,us,e1,e2,rfl⟩:=aB h1
  cases e2
  cases u with
  | ins c fs vs =>
   have h3:some ((.d,.bl (cs.contains c)):M.W)=some w:=h2
   cases h3
   refine ⟨pv,Z,Fs,η,_,η',A,e1,fun x Z' H' Fs' G B r s=>?_⟩
   obtain ⟨a',dx,xs,e,q1,q2,l,f,rl⟩:=lQ r
   exact ⟨x,_,rfl,.inl ⟨a',c,dx,false,_,e,q1,q2,f,hk c f⟩,cA (bO B s k)⟩
  | non =>
   have h3:some ((.d,.bl false):M.W)=some w:=h2
   cases h3
   refine ⟨pv,Z,Fs,η,_,η',A,e1,fun x Z' H' Fs' G B r s=>?_⟩
   obtain rfl:x=.non:=r
   exact ⟨.non,_,rfl,.inr ⟨rfl,hk0⟩,cA (bO B s k)⟩
  | _=>cases h2
end
end MR

namespace MR
open PySem PySem.Spec PyProof.Rows L2 L3
structure XCl (P:Program)(w:World)(K:a0a)(mg:Str->Option Value)(base:Heap)(x:Str)(c B:Nat)(fld:Str):Prop where
 ex:∃ f up fd ps,XC K c f up/\dD up=true/\up.contains (.ref B)=true/\Binds K fd ps []/\∀ k,FnOk P w K mg base CX0 (k+1) f fd ps (spI c fld)
 xf:XF K c
 nm:mg x=some (.ref c)
structure XBs (K:a0a)(mg:Str->Option Value)(x:Str)(B:Nat)(cs:List Nat):Prop where
 nm:mg x=some (.ref B)
 cb:∃ upB,dD upB=true/\∀ h,K.In h->∃ N' names',fE h B N' upB names'
 cs:∀ c∈cs,∃ f up,XC K c f up/\up.contains (.ref B)=true
structure XIs (K:a0a)(mg:Str->Option Value)(x:Str)(cv:Value)(cs:List Nat):Prop where
 nm:mg x=some cv\/(mg x=none/\bootBuiltins x=some cv)
 one:∀ c:Nat,XF K c->a0y K (.ref c) cv=some (cs.contains c)
 non:a0y K (.type "NoneType") cv=some false
section
variable {X:Cx}{sf:Nat->Option Nat}{C:M.Call}{pos pos' p p2 p3:Pos}{ea:Expr}{a:M.E}{x k fld cn:Str}{c B n i C':Nat}{io cs:List Nat}{xx:M.X}{h:Bool}{body suite:List Stmt}{b₀:Stmt}{ms hs:List M.S}
theorem lU (r:XCl X.prog X.w X.K X.mg X.base x c B fld)(hr:Room (n+2) X.A)(ha:SE X sf C ea a)(hc:X.calm=true:=by rfl)(hg:Gl X x:=by rfl)
  (hdb:(x==("__debug__":Str))=false:=by decide) (hst:starEach [ea] X.env=(false,eval ea X.env)::starEach [] X.env:=by rfl) (hpl:(backTo p2 (starEach [] X.env)).any (·.1)=false:=by rfl) :
  SS X sf io C (.Raise (some (.Call (.Name x p) [ea] [] p2)) none pos) (.raise c fld xx a):=by
 obtain ⟨f,up,fd,ps,xc,hu,_,hb,F⟩:=r.ex
 exact xC (k:=n+1) xc hu ⟨rfl,r.xf⟩ (F n) hb r.nm hr ha hc hg hdb hst hpl
theorem yD (j:Nat)(hN:X.N.Nodup)(b:XBs X.K X.mg cn B cs)(hb:∀ E' pn,SSs (L3.tx X E' pn) sf io C body ms)(hh:∀ a,SSs (L3.hx X a) sf io C (b₀::suite) hs)
  (hst:X.stack=X.env::X.outer:=by rfl) (hf:X.env.frame=some X.env.locals:=by rfl) (hi:i ∉ io:=by decide) (hs':sf i=some j:=by rfl) (hj:X.N[j]?=some x:=by rfl) (hk:X.env.scope.names.lookup x=some .local:=by rfl) (hg:Gl X cn:=by rfl) (hdb:(cn==("__debug__":Str))=false:=by decide) :
  SS X sf io C (.Try body [.ExceptHandler (some (.Name cn p)) (some x) (b₀::suite) pos'] [] [] pos) (.tryC cs ms i hs):=by
 obtain ⟨upB,hu,cb⟩:=b.cb
 exact Cd j hN cb hu b.nm (fun c hc C0 nm=>by obtain ⟨rfl,_⟩:=nm; exact b.cs c hc) hb hh hst hf hi hs' hj hk hg hdb
theorem il (r:XIs X.K X.mg k (.ref C') cs)(hm:X.mg "isinstance"=none)(ha:SE X sf C ea a)(hg:Gl X "isinstance":=by rfl)(hg2:Gl X k:=by rfl)(hd:(k==("__debug__":Str))=false:=by decide)
  (hs:starEach [ea,.Name k p2] X.env=(false,eval ea X.env)::starEach [.Name k p2] X.env:=by rfl) (hs2:starEach [.Name k p2] X.env=(false,eval (.Name k p2) X.env)::starEach [] X.env:=by rfl) (hpl:(backTo pos (starEach [.Name k p2] X.env)).any (·.1)=false:=by rfl) (hb:bootBuiltins k=none:=by kernel_rfl) :
  SE X sf C (.Call (.Name "isinstance" p3) [ea,.Name k p2] [] pos) (.op (.isX cs) h [a]):=by
 have nm:X.mg k=some (.ref C'):=by
  rcases r.nm with z | ⟨_,z⟩
  ·exact z
  ·rw [hb] at z; cases z
 exact wF (rv:=.ref C') (cv:=.ref C') (rk:=zJ hg2 nm hd) (fun u z=>z) r.one r.non hm ha hg hs hs2 hpl
theorem Dk {T:String}(r:XIs X.K X.mg k (.type T) cs)(hm:X.mg "isinstance"=none)(ha:SE X sf C ea a)(hm2:X.mg k=none)(hb:bootBuiltins k=some (.type T):=by first | exact PyProof.Rows.Boot.«ValueError» | kernel_rfl)(hn:k≠"__name__":=by decide)(hg:Gl X "isinstance":=by rfl)(hg2:Gl X k:=by rfl)(hd:(k==("__debug__":Str))=false:=by decide)
  (hs:starEach [ea,.Name k p2] X.env=(false,eval ea X.env)::starEach [.Name k p2] X.env:=by rfl) (hs2:starEach [.Name k p2] X.env=(false,eval (.Name k p2) X.env)::starEach [] X.env:=by rfl) (hpl:(backTo pos (starEach [.Name k p2] X.env)).any (·.1)=false:=by rfl) :
  SE X sf C (.Call (.Name "isinstance" p3) [ea,.Name k p2] [] pos) (.op (.isX cs) h [a]) :=
 wF (rv:=.ty T) (cv:=.type T) (rk:=gi hg2 hm2 hb hn hd) (fun u z=>z) r.one r.non hm ha hg hs hs2 hpl
end
section
variable {P:Program}{w:World}{K:a0a}{mg:Str->Option Value}{base:Heap}{x:Str}{st:Stmt}{ps N:List Str}{n g:Nat}{C C':M.Call}{fn:M.Fn}
theorem Df.okX (e:Df K mg x st ps)(h:∀ f fd,L2.Fun K x x st f fd->FnOk P w K mg base (CX1 P w) n f fd ps (spX K C g)):dF P w K mg base n C x g:=by
 obtain ⟨f,fd,F,b,m⟩:=e.ex
 exact ⟨f,fd,ps,h f fd F,m,F.kp,b⟩
theorem Df.zX (e:Df K mg x st ps)(hC:∀ ws,C g ws=.no:=by intro _; rfl):dF P w K mg base n C x g:=e.okX fun _ _ _=>EB hC
theorem Df.sX (e:Df K mg x st ps)(fn:M.Fn)(S:ao N ps (defScope st))
  (hb:∀ {f:Addr} {cdv:Value} {A:Around} {outer:List Env} {s:Shared} {H:Hp} {E:XK},Room n (A.deeper (envOfC x (defScope st) s.heap.objs.size f cdv))->SSs (cZ (CX1 P w) P w K mg base N x (defScope st) f cdv A outer s H E) (slN N.length) [] C (defBody st) fn.body)
  (hC:∀ ws,C' g ws=M.runF C fn ws:=by intro _; rfl) (hps:fn.ps=ps.length:=by rfl) (hle:ps.length<=N.length:=by decide) (hio:fn.io=[]:=by rfl):dF P w K mg base (n+1) C' x g :=
 e.okX fun f fd F=>Fun.okX F S hps hle hio (fun _ _ _ _ _ _ h=>hb h) hC
end
end MR

namespace MR
open PySem PySem.Spec PyProof.Rows L2 L3
noncomputable def wc (K:a0a)(C:Addr)(up:List Value)(cd:ClassData)(sl:Array (Option Value)):Bool :=
 (match sl.toList with | [_,_,_,_,some (.builtin m),_]=>m=="ValueError.__new__" | _=>false)&&(cd.mro==.ref C::up&&(!cd.hasDel&&PySem.W.nsOkIn K cd.ns))
noncomputable def oQ (K:a0a)(C:Addr)(up:List Value):Bool:=match K.lookup C with
 | some ⟨.type "type",_,.cls cd,sl⟩=>wc K C up cd sl
 | _=>false
theorem iS {K:a0a}{h:Heap}{N:Addr}{mg:Str->Option Value}{x:Str}{r:Option Value}(X:K.In h)(G:h.Ns N mg)(e:a1I K N x=some r):mg x=r:=by
 cases r with
 | none=>exact PySem.W.ns_none_of X G e
 | some v =>
  obtain ⟨o,es,ep,ho,hd,_,hf⟩:=G
  rw [<- hf x]
  unfold a1I at e
  split at e
  ·rename_i q
   cases (X _ _ q).symm.trans ho
   cases hd
   cases z:es.toList.find? (fun y=>y.key.isStr x) with
   | none=>rw [z] at e; dsimp only at e; split at e<;>cases e
   | some en =>
    rw [z] at e
    cases e
    show (es.find? (fun y=>y.key.isStr x)).map (·.val)=_
    rw [<- a3k,z]
    rfl
  ·cases e
theorem xr {K:a0a}{C:Addr}{up:List Value}(e:oQ K C up=true):∃ N,∀ h,K.In h->fE h C N up (h.nsMap N)/\∀ x r,a1I K N x=some r->h.nsMap N x=r:=by
 unfold oQ at e
 split at e
 ·rename_i dd cd sl ho
  unfold wc at e
  rw [a0p] at e
  obtain ⟨e1,e2⟩:=e
  split at e1
  ·rename_i k0 k1 k2 k3 m k5 hs
   simp only [a0p,beq_iff_eq,Bool.not_eq_true'] at e1 e2
   obtain ⟨hm,hdel,hns⟩:=e2
   obtain ⟨nm,bs,mro,ns,qn,hd,sn,sub,ab,col,del⟩:=cd
   dsimp only at hm hdel hns
   subst hm hdel e1
   have hsl:sl=#[k0,k1,k2,k3,some (.builtin "ValueError.__new__"),k5]:=by
    obtain ⟨l⟩:=sl
    simp only at hs
    rw [hs]
   subst hsl
   exact ⟨ns,fun h X=>⟨⟨⟨nm,qn,bs,hd,sn,sub,ab,col,dd,k0,k1,k2,k3,k5,X _ _ ho⟩,.of_isNs (a3r X hns)⟩,fun x r q=>iS X (.of_isNs (a3r X hns)) q⟩⟩
  ·cases e1
 ·cases e
noncomputable def fnB (K:a0a)(f:Addr):Bool:=match K.lookup f with
 | some ⟨.type "function",_,_,_⟩=>true
 | _=>false
noncomputable def kN (K:a0a)(C:Addr):Addr:=match K.lookup C with
 | some ⟨_,_,.cls cd,_⟩=>cd.ns
 | _=>0
noncomputable def xcB (K:a0a)(C f:Addr)(up:List Value):Bool :=
 oQ K C up&&(a1I K (kN K C) "__init__"==some (some (.ref f))&&(PySem.W.tailIn K VE up&&(fnB K f&&(a1b K (.ref C)&&(a0D K (.ref C) "__setattr__"==some (some (.builtin "object.__setattr__"))&&((a1L K C).any (fun cd=>dD cd.mro)&&a1g K C))))))
theorem kU {K:a0a}{C:Addr}{up:List Value}(e:oQ K C up=true):∀ h,K.In h->fE h C (kN K C) up (h.nsMap (kN K C))/\∀ x r,a1I K (kN K C) x=some r->h.nsMap (kN K C) x=r:=by
 obtain ⟨N,q⟩:=xr e
 have:∀ h,K.In h->N=kN K C:=fun h X=>by
  obtain ⟨⟨nm,qn,bs,hd,sn,sub,ab,col,dd,k0,k1,k2,k3,k5,ho⟩,_⟩:=(q h X).1
  unfold oQ at e
  unfold kN
  split at e
  ·rename_i hl
   rw [hl]
   cases (X _ _ hl).symm.trans ho
   rfl
  ·cases e
 intro h X
 rw [<- this h X]
 exact q h X
theorem gS {K:a0a}{C f:Addr}{up:List Value}(e:xcB K C f up=true):XC K C f up:=by
 unfold xcB at e
 simp only [a0p,beq_iff_eq] at e
 obtain ⟨e1,e2,e3,e4,e5,e6,e7,e8⟩:=e
 refine ⟨fun h X=>⟨_,_,(kU e1 h X).1,PySem.W.tail_of_in X e3,(kU e1 h X).2 _ _ e2⟩,fun h X=>?_,e5,e6,e7,e8⟩
 unfold fnB at e4
 split at e4
 ·rename_i hl
  exact ⟨_,X _ _ hl,rfl⟩
 ·cases e4
noncomputable def xfB (K:a0a)(C:Addr):Bool :=
 a0D K (.ref C) "__getattribute__"==some (some (.builtin "BaseException.__getattribute__"))&&(a0D K (.ref C) "__getattr__"==some none&&(a3l K (.ref C) (.type "BaseException")==some true&&(a1g K C&&(a0D K (.ref C) "__class__"==some (some (.builtin "object.__class__"))&&(a1x K (.builtin "object.__class__") "__get__"==some (some (.builtin "getset_descriptor.__get__"))&&(a10 K (.builtin "object.__class__")==some true&&a11 K C (.type "object")==some true))))))
theorem C8 {K:a0a}{C f:Addr}{up:List Value}(c:XC K C f up)(hu:dD up=true)(e:xfB K C=true):XF K C:=by
 unfold xfB at e
 simp only [a0p,beq_iff_eq] at e
 obtain ⟨e1,e2,e3,e4,e5,e6,e7,e8⟩:=e
 exact ⟨⟨f,up,c,hu⟩,⟨e1,e2,e3⟩,e4,e5,e6,e7,e8⟩
noncomputable def Bx (K:a0a)(p:Nat->Bool):Bool:=K.all fun q=>!((a1L K q.1).any fun cd=>dD cd.mro) || p q.1
theorem pd {K:a0a}{p:Nat->Bool}(e:Bx K p=true){c:Nat}(x:XF K c):p c=true:=by
 obtain ⟨f,up,xc,_⟩:=x.xc
 have po:=xc.po
 obtain ⟨cd,hc,_⟩:=a1G po
 have:∃ o,(c,o)∈K:=by
  unfold a1L at hc
  split at hc
  ·rename_i hl
   have hl':a2L c K=some _:=hl
   clear hc po xc e x
   induction K with
   | nil=>cases hl'
   | cons q r ih =>
    obtain ⟨a,o⟩:=q
    rw [a2e] at hl'
    by_cases z:c=a
    ·exact ⟨o,by rw [z]; exact a0k ..⟩
    ·rw [show (c==a)=false from beq_false_of_ne z] at hl'
     obtain ⟨o',h⟩:=ih hl' hl'
     exact ⟨o',a0c _ h⟩
  ·cases hc
 obtain ⟨o,m⟩:=this
 have q:=a0I.mp e (c,o) m
 rw [po] at q
 exact q
end MR

namespace A34
open M
open PySem (Str)
noncomputable abbrev q:=Str.ofString
noncomputable abbrev bT:Nat:=24
noncomputable abbrev bY:Nat:=44
noncomputable abbrev bX:Nat:=63
noncomputable abbrev bE:Nat:=82
noncomputable abbrev aH:Nat:=101
noncomputable abbrev cc:Nat:=120
noncomputable abbrev b0:Nat:=139
noncomputable def oa:Fn:={ ps:=2,ns:=3,io:=[],body:=[.pas] }
noncomputable def bo:Fn:={ ps:=2,ns:=5,io:=[],body:=[
  .ite (.q [0] []) (.op .eq false [.op .ix false [.var 0,.cst (.int 0)],.cst (.str (q "pair"))]) [
   .ret [0,1] (.tup [.call 6 [.op .ix false [.var 0,.cst (.int 1)],.comp false .seq [.var 1] [4] none (.op .ix false [.var 4,.cst (.int 0)])],.call 6 [.op .ix false [.var 0,.cst (.int 2)],.comp false .seq [.var 1] [5] none (.op .ix false [.var 5,.cst (.int 1)])]])] [],
  .ite (.q [0] []) (.op .eq false [.op .ix false [.var 0,.cst (.int 0)],.cst (.str (q "row"))]) [
   .asg (.q [] []) 2 (.lst false []),
   .forS [1] [] .seq [.var 1] [3] [
    .ext (.q [3] []) 2 (.var 3)],
   .ret [] (.tup [.comp true .seq [.mv 1] [6] none (.op .len false [.var 6]),.call 6 [.op .ix false [.mv 0,.cst (.int 1)],.mv 2]])] [],
  .ret [] (.op .list true [.mv 1])] }
noncomputable def aR:Fn:={ ps:=3,ns:=0,io:=[],body:=[
  .ite (.q [0] []) (.op .eq false [.op .ix false [.var 0,.cst (.int 0)],.cst (.str (q "pair"))]) [
   .ret [0,1] (.op .lzip false [.call 7 [.op .ix false [.var 0,.cst (.int 1)],.op .ix false [.var 1,.cst (.int 0)],.var 2],.call 7 [.op .ix false [.var 0,.cst (.int 2)],.op .ix false [.var 1,.cst (.int 1)],.var 2]])] [],
  .ite (.q [0] []) (.op .eq false [.op .ix false [.var 0,.cst (.int 0)],.cst (.str (q "row"))]) [
   .ret [1] (.call 1 [.op .ix false [.var 1,.cst (.int 0)],.call 7 [.op .ix false [.mv 0,.cst (.int 1)],.op .ix false [.var 1,.cst (.int 1)],.op .sum false [.op .ix false [.var 1,.cst (.int 0)]]]])] [],
  .ret [] (.op .list true [.mv 1])] }
noncomputable def bj:Fn:={ ps:=2,ns:=0,io:=[],body:=[
  .ite (.q [0] []) (.op .eq false [.op .ix false [.var 0,.cst (.int 0)],.cst (.str (q "pair"))]) [
   .ret [] (.call 11 [.op .ix false [.mv 0,.cst (.int 1)],.op .ix false [.mv 1,.cst (.int 0)]])] [],
  .ret [1] (.ifx (.op .eq false [.op .ix false [.mv 0,.cst (.int 0)],.cst (.str (q "row"))]) (.op .len false [.op .ix false [.var 1,.cst (.int 0)]]) (.op .len false [.var 1]))] }
noncomputable def cw:Fn:={ ps:=3,ns:=2,io:=[],body:=[
  .asg (.q [0,1] []) 3 (.call 11 [.var 0,.var 1]),
  .forS [2] [] .seq [.var 2] [4] [
   .ite (.q [] [3,4]) (.not (.chain .le .lt (.cst (.int 0)) (.var 4) (.var 3))) [
    .raise aH (q "number") (.q [] [4]) (.var 4)] []],
  .ret [] (.call 13 [.mv 0,.mv 1,.mv 2])] }
noncomputable def aK:Fn:={ ps:=3,ns:=3,io:=[],body:=[
  .ite (.q [0] []) (.op .eq false [.op .ix false [.var 0,.cst (.int 0)],.cst (.str (q "pair"))]) [
   .ret [0,1,2] (.tup [.call 13 [.op .ix false [.var 0,.cst (.int 1)],.op .ix false [.var 1,.cst (.int 0)],.var 2],.call 13 [.op .ix false [.var 0,.cst (.int 2)],.op .ix false [.var 1,.cst (.int 1)],.var 2]])] [],
  .ite (.q [0] []) (.op .eq false [.op .ix false [.var 0,.cst (.int 0)],.cst (.str (q "row"))]) [
   .asg (.q [1,2] []) 3 (.comp true .seq [.var 2] [4] none (.op .ix false [.op .ix false [.var 1,.cst (.int 0)],.var 4])),
   .ret [1] (.tup [.mv 3,.call 13 [.op .ix false [.mv 0,.cst (.int 1)],.op .ix false [.var 1,.cst (.int 1)],.call 14 [.op .ix false [.var 1,.cst (.int 0)],.mv 2]]])] [],
  .ret [1] (.comp true .seq [.mv 2] [5] none (.op .ix false [.var 1,.var 5]))] }
noncomputable def bN:Fn:={ ps:=2,ns:=5,io:=[],body:=[
  .asg (.q [] []) 2 (.lst true []),
  .asg (.q [] []) 3 (.cst (.int 0)),
  .forS [0] [] .seq [.var 0] [4] [
   .app (.q [] [3]) 2 (.var 3),
   .asg (.q [] [3,4]) 3 (.op .add false [.var 3,.var 4])],
  .asg (.q [] []) 5 (.lst true []),
  .forS [1] [] .seq [.var 1] [6] [
   .ext (.q [0,2] [6]) 5 (.op .rng false [.op .ix false [.var 2,.var 6],.op .add false [.op .ix false [.var 2,.var 6],.op .ix false [.var 0,.var 6]]])],
  .ret [] (.mv 5)] }
noncomputable def aV:Fn:={ ps:=2,ns:=4,io:=[0],body:=[
  .ite (.q [0] []) (.op .gt false [.op .ix false [.var 0,.cst (.int 3)],.cst (.int 0)]) [
   .setI (.q [0] []) 0 (.cst (.int 3)) (.op .sub false [.op .ix false [.var 0,.cst (.int 3)],.cst (.int 1)]),
   .asg (.q [0] []) 2 (.op .ix false [.var 0,.cst (.int 2)]),
   .setI (.q [] [1,2]) 0 (.cst (.int 2)) (.op .fdiv false [.var 2,.var 1]),
   .ret [] (.op .mod false [.mv 2,.mv 1])] [],
  .asg (.q [0] []) 3 (.op .ix false [.var 0,.cst (.int 1)]),
  .setI (.q [] [3]) 0 (.cst (.int 1)) (.op .add false [.var 3,.cst (.int 1)]),
  .asg (.q [] []) 4 (.cst (.int 0)),
  .ite (.q [0] []) (.op .gt false [.op .len false [.op .ix false [.var 0,.cst (.int 0)]],.cst (.int 0)]) [
   .asg (.q [0] [3]) 4 (.op .ix false [.op .ix false [.var 0,.cst (.int 0)],.op .mod false [.var 3,.op .len false [.op .ix false [.var 0,.cst (.int 0)]]]])] [],
  .ite (.q [0] [3,4]) (.and (.op .lt false [.var 3,.op .len false [.op .ix false [.var 0,.cst (.int 0)]]]) (.op .ge false [.var 4,.op .pow false [.cst (.int 10),.cst (.int 18)]])) [
   .setI (.q [] [4]) 0 (.cst (.int 2)) (.op .sub false [.var 4,.op .pow false [.cst (.int 10),.cst (.int 18)]]),
   .setI (.q [] []) 0 (.cst (.int 3)) (.cst (.int 40)),
   .ret [] (.call 20 [.io 0,.mv 1])] [],
  .asg (.q [] [3,4]) 5 (.op .mul false [.op .add false [.op .mod false [.var 4,.cst (.int 999983)],.cst (.int 3)],.op .add false [.op .add false [.op .mod false [.op .mul false [.var 3,.var 3],.cst (.int 10007)],.op .mul false [.cst (.int 61),.var 3]],.cst (.int 7)]]),
  .asg (.q [] [5]) 5 (.op .mod false [.op .mul false [.op .mod false [.var 5,.cst (.int 1000003)],.op .mod false [.var 5,.cst (.int 1000003)]],.cst (.int 999979)]),
  .ret [] (.op .mod false [.op .mod false [.op .add false [.op .fdiv false [.mv 5,.cst (.int 3)],.op .mul false [.cst (.int 131),.mv 3]],.cst (.int 99991)],.mv 1])] }
noncomputable def bx:Fn:={ ps:=1,ns:=3,io:=[0],body:=[
  .asg (.l []) 1 (.call 20 [.io 0,.cst (.int 6)]),
  .ite (.q [] [1]) (.op .lt false [.var 1,.cst (.int 4)]) [
   .ret [] (.op .sub false [.call 20 [.io 0,.cst (.int 19)],.cst (.int 9)])] [],
  .ite (.q [] [1]) (.op .eq false [.var 1,.cst (.int 4)]) [
   .asg (.q [] []) 2 (.op .pow false [.cst (.int 10),.cst (.int 18)]),
   .ret [] (.op .ix false [.lst false [.var 2,.op .sub false [.cst (.int 0),.var 2],.op .sub false [.var 2,.cst (.int 1)],.op .sub false [.cst (.int 1),.var 2],.cst (.int 0)],.call 20 [.io 0,.cst (.int 5)]])] [],
  .asg (.l []) 3 (.op .mul false [.call 20 [.io 0,.op .pow false [.cst (.int 10),.cst (.int 6)]],.op .pow false [.cst (.int 10),.cst (.int 12)]]),
  .asg (.l []) 3 (.op .add false [.var 3,.op .mul false [.call 20 [.io 0,.op .pow false [.cst (.int 10),.cst (.int 6)]],.op .pow false [.cst (.int 10),.cst (.int 6)]]]),
  .asg (.l []) 3 (.op .add false [.var 3,.call 20 [.io 0,.op .pow false [.cst (.int 10),.cst (.int 6)]]]),
  .ret [] (.op .mul false [.mv 3,.op .sub false [.cst (.int 1),.op .mul false [.cst (.int 2),.call 20 [.io 0,.cst (.int 2)]]]])] }
noncomputable def b9:Fn:={ ps:=2,ns:=2,io:=[0],body:=[
  .asg (.l []) 2 (.call 20 [.io 0,.cst (.int 6)]),
  .ite (.q [] [1,2]) (.or (.op .eq false [.var 1,.cst (.int 1)]) (.op .lt false [.var 2,.cst (.int 2)])) [
   .ret [] (.op .ix false [.lst false [.tup [.cst (.str (q "num"))],.tup [.cst (.str (q "truth"))]],.op .mod false [.mv 2,.cst (.int 2)]])] [],
  .ite (.q [] [2]) (.op .lt false [.var 2,.cst (.int 4)]) [
   .asg (.l []) 3 (.call 22 [.io 0,.op .sub false [.var 1,.cst (.int 1)]]),
   .ret [] (.tup [.cst (.str (q "pair")),.mv 3,.call 22 [.io 0,.op .sub false [.mv 1,.cst (.int 1)]]])] [],
  .ret [] (.tup [.cst (.str (q "row")),.call 22 [.io 0,.op .sub false [.mv 1,.cst (.int 1)]]])] }
noncomputable def aC:Fn:={ ps:=3,ns:=3,io:=[0],body:=[
  .ite (.q [1] []) (.op .eq false [.op .ix false [.var 1,.cst (.int 0)],.cst (.str (q "num"))]) [
   .ret [] (.call 21 [.io 0])] [],
  .ite (.q [1] []) (.op .eq false [.op .ix false [.var 1,.cst (.int 0)],.cst (.str (q "truth"))]) [
   .ret [] (.op .eq false [.call 20 [.io 0,.cst (.int 2)],.cst (.int 1)])] [],
  .ite (.q [1] []) (.op .eq false [.op .ix false [.var 1,.cst (.int 0)],.cst (.str (q "pair"))]) [
   .asg (.l [1]) 3 (.call 23 [.io 0,.op .ix false [.var 1,.cst (.int 1)],.var 2]),
   .ret [] (.tup [.mv 3,.call 23 [.io 0,.op .ix false [.mv 1,.cst (.int 2)],.mv 2]])] [],
  .asg (.l []) 4 (.call 20 [.io 0,.cst (.int 4)]),
  .ite (.l [1]) (.and (.var 2) (.and (.op .eq false [.op .len false [.op .ix false [.var 1,.cst (.int 1)]],.cst (.int 1)]) (.op .eq false [.call 20 [.io 0,.cst (.int 32)],.cst (.int 31)]))) [
   .asg (.l []) 4 (.op .add false [.cst (.int 196),.call 20 [.io 0,.cst (.int 5)]])] [],
  .ret [1] (.comp true .rng [.mv 4] [5] none (.call 23 [.io 0,.op .ix false [.var 1,.cst (.int 1)],.cst (.bl false)]))] }
noncomputable def ay:Fn:={ ps:=2,ns:=2,io:=[],body:=[
  .ite (.q [0] []) (.op (.isI ["list","tuple"]) false [.var 0]) [
   .ite (.q [0,1] []) (.op .ne false [.op (.isI ["list"]) false [.var 0],.op (.isI ["list"]) false [.var 1]]) [
    .ret [] (.cst (.bl false))] [],
   .ite (.q [0,1] []) (.op .ne false [.op (.isI ["tuple"]) false [.var 0],.op (.isI ["tuple"]) false [.var 1]]) [
    .ret [] (.cst (.bl false))] [],
   .ite (.q [0,1] []) (.op .ne false [.op .len false [.var 0],.op .len false [.var 1]]) [
    .ret [] (.cst (.bl false))] [],
   .ret [] (.op .all false [.comp false .zip [.mv 0,.mv 1] [2,3] none (.call 24 [.var 2,.var 3])])] [],
  .ite (.q [0,1] []) (.op .ne false [.op (.isI ["bool"]) false [.var 0],.op (.isI ["bool"]) false [.var 1]]) [
   .ret [] (.cst (.bl false))] [],
  .ret [] (.op .eq false [.mv 0,.mv 1])] }
noncomputable def bK:Fn:={ ps:=1,ns:=0,io:=[],body:=[
  .ite (.q [0] []) (.or (.op (.isX [bY]) false [.var 0]) (.op (.isX [bX]) false [.var 0])) [
   .ret [] (.cst (.bl true))] [],
  .ite (.q [0] []) (.or (.op (.isX [bE]) false [.var 0]) (.op (.isX [cc]) false [.var 0])) [
   .ret [] (.cst (.bl true))] [],
  .ret [0] (.or (.op (.isX [b0]) false [.var 0]) (.not (.op (.isX [bY,bX,bE,aH,cc,b0,bT]) false [.var 0])))] }
noncomputable def bc:Fn:={ ps:=3,ns:=2,io:=[],body:=[
  .asg (.q [] []) 3 (.tup [.cst (.str (q "none")),.cst (.int 0)]),
  .tryC [bY,bX,bE,aH,cc,b0] [
   .expC [0,1,2] 313 [.var 0,.var 1,.var 2]] 4 [
   .asg (.q [4] []) 3 (.tup [.cst (.str (q "refused")),.var 4])],
  .ite (.q [3] []) (.or (.op .eq false [.op .ix false [.var 3,.cst (.int 0)],.cst (.str (q "none"))]) (.call 314 [.op .ix false [.var 3,.cst (.int 1)]])) [
   .ret [] (.cst (.non))] [],
  .ite (.q [3] []) (.not (.op (.isX [aH]) false [.op .ix false [.var 3,.cst (.int 1)]])) [
   .ret [] (.cst (.non))] [],
  .ret [] (.op (.att (q "number")) false [.op .ix false [.mv 3,.cst (.int 1)]])] }
noncomputable def aZ:Fn:={ ps:=2,ns:=1,io:=[0],body:=[
  .asg (.l []) 2 (.call 20 [.io 0,.cst (.int 5)]),
  .ite (.q [] [2]) (.op .eq false [.var 2,.cst (.int 0)]) [
   .ret [] (.op .sub false [.op .sub false [.cst (.int 0),.cst (.int 1)],.call 20 [.io 0,.cst (.int 3)]])] [],
  .ite (.q [] [2]) (.op .eq false [.var 2,.cst (.int 1)]) [
   .ret [] (.mv 1)] [],
  .ite (.q [] [2]) (.op .eq false [.var 2,.cst (.int 2)]) [
   .ret [] (.op .add false [.op .add false [.mv 1,.cst (.int 1)],.call 20 [.io 0,.cst (.int 200)]])] [],
  .ret [] (.op .mul false [.op .add false [.op .pow false [.cst (.int 10),.cst (.int 30)],.call 20 [.io 0,.cst (.int 99)]],.op .sub false [.cst (.int 1),.op .mul false [.cst (.int 2),.op .sub false [.mv 2,.cst (.int 3)]]]])] }
noncomputable def jK:Fn:={ ps:=1,ns:=1,io:=[],body:=[.pas] }
noncomputable def aU:Fn:={ ps:=3,ns:=5,io:=[],body:=[
  .asg (.q [0,1] []) 3 (.call 6 [.var 0,.var 1]),
  .asgC [0,2,3] 4 313 [.var 0,.var 3,.var 2],
  .asg (.q [1,2] []) 5 (.comp false .seq [.var 2] [7] none (.op .ix false [.var 1,.var 7])),
  .ite (.q [0,2,4,5] []) (.not (.call 24 [.var 5,.call 7 [.var 0,.var 4,.op .len false [.var 2]]])) [
   .ret [] (.cst (.bl false))] [],
  .exp (.l []) (.call 95 [.mv 4]),
  .ite (.q [0,1,3] []) (.not (.call 24 [.call 6 [.var 0,.var 1],.var 3])) [
   .ret [] (.cst (.bl false))] [],
  .asg (.q [1] []) 6 (.op .rng false [.cst (.int 0),.op .len false [.var 1]]),
  .exp (.q [0,3,6] []) (.call 95 [.call 313 [.var 0,.var 3,.var 6]]),
  .ret [0] (.call 24 [.call 6 [.var 0,.mv 1],.call 313 [.var 0,.mv 3,.mv 6]])] }
noncomputable def f_law:Fn:={ ps:=1,ns:=13,io:=[],body:=[
  .asg (.q [0] []) 1 (.lst true [.op .list true [.op .sl2 true [.var 0,.cst (.int 63)]],.cst (.int 0),.cst (.int 0),.cst (.int 0)]),
  .asg (.l []) 2 (.call 22 [.io 1,.op .add false [.cst (.int 1),.call 20 [.io 1,.cst (.int 5)]]]),
  .asg (.l [2]) 3 (.comp false .rng [.call 20 [.io 1,.cst (.int 6)]] [12] none (.call 23 [.io 1,.var 2,.cst (.bl true)])),
  .asg (.q [3] []) 4 (.op .len false [.var 3]),
  .asg (.q [] []) 5 (.lst false []),
  .forU .rng [.call 20 [.io 1,.cst (.int 10)]] [6] [
   .app (.l []) 5 (.op .mod false [.call 20 [.io 1,.op .add false [.var 4,.cst (.int 1)]],.op .max false [.cst (.int 1),.var 4]])],
  .ite (.q [] [4]) (.op .eq false [.var 4,.cst (.int 0)]) [
   .asg (.q [] []) 5 (.lst false [])] [],
  .ite (.q [2,3,5] []) (.not (.call 317 [.var 2,.var 3,.op .list false [.var 5]])) [
   .ret [] (.cst (.bl false))] [],
  .asg (.q [5] []) 7 (.op .list false [.var 5]),
  .forU .rng [.op .add false [.cst (.int 1),.call 20 [.io 1,.cst (.int 3)]]] [6] [
   .asg (.l [7]) 8 (.call 20 [.io 1,.op .add false [.op .len false [.var 7],.cst (.int 1)]]),
   .asg (.l [7]) 7 (.op .add false [.op .add false [.op .sl2 false [.var 7,.var 8],.lst false [.call 316 [.io 1,.var 4]]],.op .sl1 false [.var 7,.var 8]])],
  .asg (.q [7] [4]) 9 (.op .ix false [.comp false .seq [.var 7] [13] (some (.not (.chain .le .lt (.cst (.int 0)) (.var 13) (.var 4)))) (.var 13),.cst (.int 0)]),
  .asg (.q [2,3] []) 10 (.call 6 [.var 2,.var 3]),
  .asg (.q [7] []) 11 (.op .list false [.var 7]),
  .ite (.q [2,9,10,11] []) (.not (.call 24 [.var 9,.call 318 [.var 2,.var 10,.var 11]])) [
   .ret [] (.cst (.bl false))] [],
  .ite (.q [2,3,7,10,11] []) (.or (.op .ne false [.var 11,.var 7]) (.not (.call 24 [.call 6 [.var 2,.var 3],.var 10]))) [
   .ret [] (.cst (.bl false))] [],
  .retC [2,3,5] 317 [.var 2,.var 3,.op .list false [.var 5]]] }
noncomputable def prog:List Fn:=[f_law,oa,zf,zf,zf,zf,bo,aR,zf,zf,zf,bj,zf,aK,bN,zf,zf,zf,zf,zf,aV,bx,b9,aC,ay,zf,zf,zf,zf,zf,zf,zf,zf,zf,zf,zf,zf,zf,zf,zf,zf,zf,zf,zf,zf,zf,zf,zf,zf,zf,zf,zf,zf,zf,zf,zf,zf,zf,zf,zf,zf,zf,zf,zf,zf,zf,zf,zf,zf,zf,zf,zf,zf,zf,zf,zf,zf,zf,zf,zf,zf,zf,zf,zf,zf,zf,zf,zf,zf,zf,zf,zf,zf,zf,zf,jK,zf,zf,zf,zf,zf,zf,zf,zf,zf,zf,zf,zf,zf,zf,zf,zf,zf,zf,zf,zf,zf,zf,zf,zf,zf,zf,zf,zf,zf,zf,zf,zf,zf,zf,zf,zf,zf,zf,zf,zf,zf,zf,zf,zf,zf,zf,zf,zf,zf,zf,zf,zf,zf,zf,zf,zf,zf,zf,zf,zf,zf,zf,zf,zf,zf,zf,zf,zf,zf,zf,zf,zf,zf,zf,zf,zf,zf,zf,zf,zf,zf,zf,zf,zf,zf,zf,zf,zf,zf,zf,zf,zf,zf,zf,zf,zf,zf,zf,zf,zf,zf,zf,zf,zf,zf,zf,zf,zf,zf,zf,zf,zf,zf,zf,zf,zf,zf,zf,zf,zf,zf,zf,zf,zf,zf,zf,zf,zf,zf,zf,zf,zf,zf,zf,zf,zf,zf,zf,zf,zf,zf,zf,zf,zf,zf,zf,zf,zf,zf,zf,zf,zf,zf,zf,zf,zf,zf,zf,zf,zf,zf,zf,zf,zf,zf,zf,zf,zf,zf,zf,zf,zf,zf,zf,zf,zf,zf,zf,zf,zf,zf,zf,zf,zf,zf,zf,zf,zf,zf,zf,zf,zf,zf,zf,zf,zf,zf,zf,zf,zf,zf,zf,zf,zf,zf,zf,zf,zf,zf,zf,zf,zf,zf,zf,zf,zf,zf,cw,bK,zf,aZ,aU,bc]
end A34

set_option compiler.extract_closed false
namespace P34
noncomputable section
open M A34
open PySem (Str)
local macro_rules
 | `(tactic| simp_all only [$ls,*])=>`(tactic| simp only [xo,xJ,Ae,xI,zS,zc,x9,uv,uM,tM,uq,uP,tE,sC,vL,uD,vw,ua,vG,sE,vj,um,ui,vg,vQ,sH,uT,uL,qs,mC,vi,u7,uf,oK,qP,tU,vJ,vN,uZ,kv,rS,kOp,pf,kOr,nX,kC3,kC2,kC1,jo,gE,dY,cD,fO,gP,eG,kCons,bA,kX,kT,kT2,kIf,tK,qI,qd,rY,uJ,jw,kNx,kRt,j1,vo,rX,okW,then',wQ,fF,aP,ak,ios,putAll,zr,Ei,y0,ym,zP,vZ,vq,vM,yk,zT,xl,AA,Ab,AX,y9,Dm,A8,Bm,C5,BF,B7,sG,tI,tY,uV,BV,AK,qX,qu,pK,oW,zL,vF,tZ,pO,rB,Bi,CL,Br,BE,rU,oB,pA,yP,xy,zd,yg,Ac,Aq,pk,zA,vY,sU,uW,xp,pU,oM,pE,CQ,qL,qD,wR,An,yh,xj,xN,xR,xD,EG,EC,Es,Ef,BC,Cj,zE,xG,AR,CN,A7,zK,By,t9,xV,Bc,xt,Dn,C6,uc,tJ,CO,Cg,yG,zN,ye,yi,rG,qf,qz,CG,qm,qE,tN,u5,ud,ve,xi,yZ,yA,rD,dZ,nu,nC,mO,zv,AS,xn,yz,zY,yw,yO,yB,Bl,rM,qq,zV,yu,at0,at1,at2,at3,at4,a2T,a1o,a0z,a0A,a1B,a07,List.replicate_zero,reduceIte,if_true,if_false,String.reduceBEq,Bool.not_true,Bool.not_false,a2t,Bool.and_self,Bool.true_and,Bool.and_true,vp,kIo,zp,yY,nD,qY,m8,nJ,mP,oG,mK,rV,nG,og,jT,kZ,lu,z0,zi,yL,zC,Be,sY,ub,Al,vW,BN,xq,CS,yW,Dv,A9,AH,oN,pC,Ag,mI,mV,Au,k9,pb,rm,kB,lx,kQ,kl,ky,D9,zq,Ad,sj,vB,pV,qQ,m5,mQ,Av,uj,Dy,Di,Cq,DR,Bj,Bk,Bo,Ba,CY,Du,DH,BK,BO,Cm,BP,Dc,Co,D8,Bw,BW,CI,Cn,CZ,CD,BA,Dz,DJ,En,DI,AY,tX,AJ,Af,$ls,*])
noncomputable abbrev C (n:Nat):Call:=callR prog 95 1 n
theorem kD (n:Nat)(ws:List W):C (n+1) 1 ws=rowsW ws:=rfl
theorem cX (n:Nat)(ws:List W):C (n+1) 6 ws=runF (C n) bo ws:=rfl
theorem bR (n:Nat)(ws:List W):C (n+1) 7 ws=runF (C n) aR ws:=rfl
theorem cU (n:Nat)(ws:List W):C (n+1) 11 ws=runF (C n) bj ws:=rfl
theorem bw (n:Nat)(ws:List W):C (n+1) 13 ws=runF (C n) aK ws:=rfl
theorem i5 (n:Nat)(ws:List W):C (n+1) 14 ws=runF (C n) bN ws:=rfl
theorem fk (n:Nat)(ws:List W):C (n+1) 20 ws=runF (C n) aV ws:=rfl
theorem gM (n:Nat)(ws:List W):C (n+1) 21 ws=runF (C n) bx ws:=rfl
theorem j9 (n:Nat)(ws:List W):C (n+1) 22 ws=runF (C n) b9 ws:=rfl
theorem bU (n:Nat)(ws:List W):C (n+1) 23 ws=runF (C n) aC ws:=rfl
theorem eB (n:Nat)(ws:List W):C (n+1) 24 ws=runF (C n) ay ws:=rfl
theorem jB (n:Nat)(ws:List W):C (n+1) 313 ws=runF (C n) cw ws:=rfl
theorem i6 (n:Nat)(ws:List W):C (n+1) 314 ws=runF (C n) bK ws:=rfl
theorem gb (n:Nat)(ws:List W):C (n+1) 316 ws=runF (C n) aZ ws:=rfl
theorem iR (n:Nat)(ws:List W):C (n+1) 317 ws=runF (C n) aU ws:=rfl
theorem fM (n:Nat)(ws:List W):C (n+1) 318 ws=runF (C n) bc ws:=rfl
noncomputable def tape (ns:List Int)(x y z:Int):T:=.lst [.lst (ns.map T.int),.int x,.int y,.int z]
theorem qeq (a b:String):(q a==q b)=(a==b):=by
 by_cases h:a=b
 ·subst h; simp
 ·have h2:q a≠q b:=fun z=>h (by
   have:=congrArg (fun s:Str=>s.cps.toList) z
   rw [q,Str.ofString_eq_toList,Str.ofString_eq_toList] at this
   simp only at this
   have h3:a.toList=b.toList:=by
    have inj:∀ l1 l2:List Char,l1.map Char.toNat=l2.map Char.toNat->l1=l2:=by
     intro l1
     induction l1 with
     | nil=>intro l2 h; cases l2 with
      | nil=>rfl
      | cons=>cases h
     | cons c cs ih=>intro l2 h; cases l2 with
      | nil=>cases h
      | cons d ds =>
       rw [a0A,a0A] at h
       injection h with h1 h2
       rw [ih ds h2,Char.toNat_inj.mp h1]
    exact inj _ _ (by simpa using this)
   exact String.toList_inj.mp h3)
  rw [beq_eq_false_iff_ne.mpr h2,beq_eq_false_iff_ne.mpr h]
theorem xA {α:Type}(a b c d:α):ixN [a,b,c,d].length 1=some 1:=rfl
theorem yV {α:Type}(a b c d:α):ixN [a,b,c,d].length 2=some 2:=rfl
theorem zQ {α:Type}(a b c d:α):ixN [a,b,c,d].length 3=some 3:=rfl
theorem oq (D:Call)(ns:List Int)(x y z:Int)(m:Md)(k:Int)(hz:0 < z)(hk:0 < k)(hk2:k < 1073741824) :
  runF D aV [(.d,tape ns x y z),(m,.int k)]=.ok ((.d,.int (y % k)),[(.d,tape ns x (y / k) (z-1))]):=by
 rw [x_run _ _ _ rfl]
 simp_all only [aV,tape,decide_eq_true hz,decide_eq_true hk,decide_eq_true hk2,xA,yV,zQ,a2x,a2y]
theorem Dj {ns:List Int}{x:Int}(hx:0<=x)(hn:ns≠[]):∃ c,atI (ns.map T.int) (x % (ns.length:Int))=some (.int c):=by
 have hl:0 < ns.length:=a3i.mpr hn
 have h1:0<=x % (ns.length:Int):=a2m _ (by omega)
 have h2:x % (ns.length:Int) < ns.length:=a17 _ (by omega)
 obtain ⟨j,hj⟩:∃ j:Nat,x % (ns.length:Int)=j:=⟨_,(a2n h1).symm⟩
 have hj':j < ns.length:=by omega
 exact ⟨ns[j],atN hj (by rw [a0t,a0i hj']; rfl)⟩
theorem gD:oSem .pow false [(.d,.int 10),(.d,.int 18)]=some (.d,.int 1000000000000000000):=rfl
theorem yC (D:Call)(ns:List Int)(x:Nat)(y z:Int)(m:Md)(k:Int)(hz:z<=0)(hk:0 < k)(hk2:k < 1073741824)(hx:x < 1000000000000000000)
  (hD:∀ y',D 20 [(.d,tape ns (x+1) y' 40),(m,.int k)]=.ok ((.d,.int (y' % k)),[(.d,tape ns (x+1) (y' / k) 39)])) :
  ∃ r x' y' z',0<=r/\r < k/\x'<=x+1/\runF D aV [(.d,tape ns x y z),(m,.int k)]=.ok ((.d,.int r),[(.d,tape ns ((x':Nat):Int) y' z')]):=by
 have hz':decide (0 < z)=false:=decide_eq_false (by omega)
 have hm:∀ a:Int,0<=a % k/\a % k < k:=fun a=>⟨a2m _ (by omega),a17 _ hk⟩
 rw [x_run _ _ _ rfl]
 simp_all only [aV,tape,hz',decide_eq_true hk,decide_eq_true hk2,xA,yV,zQ,a2x,a2y,gD]
 generalize hE:onF _ _ _ _=e
 obtain ⟨c,rfl⟩:∃ c:Int,e=.nx [some (Md.d,T.lst [T.lst (a3Z T.int ns),T.int (x+1),T.int y,T.int z]),some (m,T.int k),none,some (Md.d,T.int x),some (Md.d,T.int c),none]:=by
  rw [<- hE]
  by_cases hn:ns=[]
  ·subst hn
   exact ⟨0,rfl⟩
  ·obtain ⟨c,hc⟩:=Dj (x:=(x:Int)) (by omega) hn
   have hp:decide (0 < ((a3Z T.int ns).length:Int))=true:=decide_eq_true (by rw [a0b]; have:=a3i.mpr hn; omega)
   refine ⟨c,?_⟩
   rw [<- a0b (f:=T.int)] at hc
   simp_all only [hp,hc]
 have xb:decide ((x:Int).natAbs < 18446744073709551616)=true:=decide_eq_true (by omega)
 have cb:decide ((c % 999983+3).natAbs < 18446744073709551616)=true:=decide_eq_true (by omega)
 have nb:∀ a:Int,decide ((a % 1000003).natAbs < 18446744073709551616)=true:=fun a=>decide_eq_true (by omega)
 have b61:decide ((61:Int).natAbs < 18446744073709551616)=true:=rfl
 have b131:decide ((131:Int).natAbs < 18446744073709551616)=true:=rfl
 have d1:decide ((0:Int) < 999983)=true:=rfl
 have d2:decide ((0:Int) < 10007)=true:=rfl
 have d3:decide ((0:Int) < 1000003)=true:=rfl
 have d4:decide ((0:Int) < 999979)=true:=rfl
 have d5:decide ((0:Int) < 3)=true:=rfl
 have d6:decide ((3:Int) < 1073741824)=true:=rfl
 have d7:decide ((0:Int) < 99991)=true:=rfl
 cases h1:decide ((x:Int) < ((a3Z T.int ns).length:Int)) with
 | false =>
  simp_all only [h1,decide_eq_true hk,decide_eq_true hk2,gD,xb,cb,nb,b61,b131,d1,d2,d3,d4,d5,d6,d7,a2d]
  exact ⟨_,x+1,y,z,(hm _).1,(hm _).2,a0d _,rfl⟩
 | true =>
  cases h2:decide (1000000000000000000<=c) with
  | false =>
   simp_all only [h1,h2,decide_eq_true hk,decide_eq_true hk2,gD,xb,cb,nb,b61,b131,d1,d2,d3,d4,d5,d6,d7,a2d]
   exact ⟨_,x+1,y,z,(hm _).1,(hm _).2,a0d _,rfl⟩
  | true =>
   have hD':=hD (c-1000000000000000000)
   unfold tape at hD'
   simp_all only [h1,h2,gD,xA,yV,zQ,a2x,a2y]
   simp_all only [hD']
   exact ⟨_,x+1,_,_,(hm _).1,(hm _).2,a0d _,rfl⟩
noncomputable def Tp (N:Nat)(t:T):Prop:=∃ ns x y z,t=tape ns ((x:Nat):Int) y z/\x<=N
theorem cf {n N:Nat}{t:T}(m:Md)(k:Int)(ht:Tp N t)(hN:N < 1000000000000000000)(hk:0 < k)(hk2:k < 1073741824) :
  ∃ r t',0<=r/\r < k/\Tp (N+1) t'/\C (n+2) 20 [(.d,t),(m,.int k)]=.ok ((.d,.int r),[(.d,t')]):=by
 obtain ⟨ns,x,y,z,rfl,hx⟩:=ht
 rw [fk]
 by_cases hz:0 < z
 ·exact ⟨_,_,a2m _ (by omega),a17 _ hk,⟨ns,x,_,_,rfl,by omega⟩,oq (C (n+1)) ns x y z m k hz hk hk2⟩
 ·obtain ⟨r,x',y',z',h1,h2,h3,h4⟩:=yC (C (n+1)) ns x y z m k (by omega) hk hk2 (by omega) fun y'=>by rw [fk,oq (C n) ns (x+1) y' 40 m k (by decide) hk hk2]; rfl
  exact ⟨r,_,h1,h2,⟨ns,x',y',z',rfl,by omega⟩,h4⟩
theorem p6:oSem .pow false [(.d,.int 10),(.d,.int 6)]=some (.d,.int 1000000):=rfl
theorem p12:oSem .pow false [(.d,.int 10),(.d,.int 12)]=some (.d,.int 1000000000000):=rfl
theorem at5 {α:Type}(a b c d e:α)(r:Int)(h0:0<=r)(h1:r < 5):∃ x,atI [a,b,c,d,e] r=some x/\x∈[a,b,c,d,e]:=by
 have:r=0\/r=1\/r=2\/r=3\/r=4:=by omega
 rcases this with rfl | rfl | rfl | rfl | rfl
 ·exact ⟨a,rfl,by simp⟩
 ·exact ⟨b,rfl,by simp⟩
 ·exact ⟨c,rfl,by simp⟩
 ·exact ⟨d,rfl,by simp⟩
 ·exact ⟨e,rfl,by simp⟩
theorem tm {a b:Nat}{t:T}(h:Tp a t)(h2:a<=b):Tp b t:=by obtain ⟨ns,x,y,z,e,h⟩:=h; exact ⟨ns,x,y,z,e,by omega⟩
theorem number {n N:Nat}{t:T}(ht:Tp N t)(hN:N+5 < 1000000000000000000) :
  ∃ md i t',i.natAbs<=1000000000000000000/\Tp (N+5) t'/\C (n+3) 21 [(.d,t)]=.ok ((md,.int i),[(.d,t')]):=by
 rw [gM]
 obtain ⟨r,t1,r0,r1,ht1,e1⟩:=cf (n:=n) .d 6 ht (by omega) (by decide) (by decide)
 rw [x_run _ _ _ rfl]
 simp_all only [bx,e1]
 cases h1:decide (r < 4) with
 | true =>
  obtain ⟨r2,t2,_,_,ht2,e2⟩:=cf (n:=n) .d 19 ht1 (by omega) (by decide) (by decide)
  simp_all only [h1,e2]
  exact ⟨_,_,_,by omega,tm ht2 (by omega),rfl⟩
 | false =>
  cases h2:r==4 with
  | true =>
   obtain ⟨r2,t2,r20,r21,ht2,e2⟩:=cf (n:=n) .d 5 ht1 (by omega) (by decide) (by decide)
   obtain ⟨x,hx,hm⟩:=at5 (T.int 1000000000000000000) (.int (0-1000000000000000000)) (.int (1000000000000000000-1)) (.int (1-1000000000000000000)) (.int 0) r2 r20 r21
   obtain ⟨i,hi,rfl⟩:∃ i:Int,i.natAbs<=1000000000000000000/\x=T.int i:=by
    simp only [a0n,a0E,or_false] at hm
    rcases hm with e | e | e | e | e<;>exact ⟨_,by decide,e⟩
   simp_all only [h1,h2,e2,gD,hx]
   exact ⟨_,_,_,hi,tm ht2 (by omega),rfl⟩
  | false =>
   obtain ⟨r2,t2,_,_,ht2,e2⟩:=cf (n:=n) .d 1000000 ht1 (by omega) (by decide) (by decide)
   obtain ⟨r3,t3,_,_,ht3,e3⟩:=cf (n:=n) .d 1000000 ht2 (by omega) (by decide) (by decide)
   obtain ⟨r4,t4,_,_,ht4,e4⟩:=cf (n:=n) .d 1000000 ht3 (by omega) (by decide) (by decide)
   obtain ⟨r5,t5,_,_,ht5,e5⟩:=cf (n:=n) .d 2 ht4 (by omega) (by decide) (by decide)
   have b12:decide ((1000000000000:Int).natAbs < 18446744073709551616)=true:=rfl
   have b6:decide ((1000000:Int).natAbs < 18446744073709551616)=true:=rfl
   have b2:decide ((2:Int).natAbs < 18446744073709551616)=true:=rfl
   have b1:decide ((1-2 * r5).natAbs < 18446744073709551616)=true:=decide_eq_true (by omega)
   simp_all only [h1,h2,e2,e3,e4,e5,p6,p12,b12,b6,b2,b1,a2d,a0K]
   exact ⟨_,_,_,by rcases (show r5=0\/r5=1 by omega) with rfl | rfl<;>omega,tm ht5 (by omega),rfl⟩
inductive Kd where | num | truth | pair (a b:Kd) | row (a:Kd)
noncomputable def Kd.th:Kd->T
 | .num=>.tup [.str (q "num")]
 | .truth=>.tup [.str (q "truth")]
 | .pair a b=>.tup [.str (q "pair"),a.th,b.th]
 | .row a=>.tup [.str (q "row"),a.th]
noncomputable def Kd.deep:Kd->Nat
 | .num=>0 | .truth=>0 | .pair a b=>max a.deep b.deep+1 | .row a=>a.deep+1
noncomputable def kb:Nat->Nat
 | 0=>1
 | l+1=>2 * kb l+1
theorem Ey {α:Type}(a b:α)(r:Int)(h0:0<=r)(h1:r < 2):atI [a,b] r=some a\/atI [a,b] r=some b:=by
 have:r=0\/r=1:=by omega
 rcases this with rfl | rfl
 ·exact .inl rfl
 ·exact .inr rfl
theorem d02:decide ((0:Int) < 2)=true:=rfl
theorem kind (n:Nat):∀ (l:Nat) {N:Nat} {t:T},Tp N t->N+kb l < 1000000000000000000->1<=l ->
  ∃ (md:Md) (k:Kd) (t':T),k.deep < l/\Tp (N+kb l) t'/\C (n+l+2) 22 [(.d,t),(.d,.int l)]=.ok ((md,k.th),[(.d,t')])
 | 0,_,_,_,_,h=>by omega
 | l+1,N,t,ht,hN,_=>by
  have hb:kb (l+1)=2 * kb l+1:=rfl
  rw [show n+(l+1)+2=(n+l+2)+1 by omega,j9]
  obtain ⟨r,t1,r0,r1,ht1,e1⟩:=cf (n:=n+l) .d 6 ht (by omega) (by decide) (by decide)
  rw [x_run _ _ _ rfl]
  simp_all only [b9,e1]
  have leafy:∃ k:Kd,k.deep=0/\(atI [T.tup [T.str (q "num")],T.tup [T.str (q "truth")]] (r % 2))=some k.th:=by
   rcases Ey (T.tup [T.str (q "num")]) (T.tup [T.str (q "truth")]) (r % 2) (by omega) (by omega) with h | h
   ·exact ⟨.num,rfl,h⟩
   ·exact ⟨.truth,rfl,h⟩
  obtain ⟨k0,hk0,ek0⟩:=leafy
  cases h1:(((l+1:Nat):Int)==1) with
  | true =>
   simp_all only [h1,d02,ek0]
   exact ⟨_,k0,_,by omega,tm ht1 (by omega),rfl⟩
  | false =>
   have hl:1<=l:=by
    have:=beq_eq_false_iff_ne.mp h1
    omega
   cases h2:decide (r < 2) with
   | true =>
    simp_all only [h1,h2,d02,ek0]
    exact ⟨_,k0,_,by omega,tm ht1 (by omega),rfl⟩
   | false =>
    have el:((l+1:Nat):Int)-1=(l:Int):=by omega
    cases h3:decide (r < 4) with
    | true =>
     obtain ⟨m1,k1,t2,d1,ht2,e2⟩:=kind n l ht1 (by omega) hl
     obtain ⟨m2,k2,t3,d2,ht3,e3⟩:=kind n l ht2 (by omega) hl
     simp_all only [h1,h2,h3,el,e2,e3]
     exact ⟨_,.pair k1 k2,_,by show max k1.deep k2.deep+1 < l+1; omega,tm ht3 (by omega),rfl⟩
    | false =>
     obtain ⟨m1,k1,t2,d1,ht2,e2⟩:=kind n l ht1 (by omega) hl
     simp_all only [h1,h2,h3,el,e2]
     exact ⟨_,.row k1,_,by show k1.deep+1 < l+1; omega,tm ht2 (by omega),rfl⟩
noncomputable def OfK:Kd->T->Prop
 | .num,t=>∃ i:Int,t=.int i/\i.natAbs<=1000000000000000000
 | .truth,t=>∃ b,t=.bl b
 | .pair a b,t=>∃ x y,t=.tup [x,y]/\OfK a x/\OfK b y
 | .row a,t=>∃ ts,t=.lst ts/\ts.length<=200/\∀ u∈ts,OfK a u
mutual
noncomputable def sz:T->Nat
 | .tup ts=>szs ts+1
 | .lst ts=>szs ts+1
 | _=>1
noncomputable def szs:List T->Nat
 | []=>0
 | t::ts=>sz t+szs ts
end
noncomputable def B:Nat->Nat
 | 0=>1
 | d+1=>3 * B d+201
noncomputable def D:Nat->Nat
 | 0=>5
 | d+1=>3 * D d+1003
theorem iY:∀ {a b:Nat},a<=b->B a<=B b
 | _,0,h=>by cases Nat.le_zero.mp h; exact a0d _
 | a,b+1,h=>by
  by_cases e:a=b+1
  ·rw [e]; exact a0d _
  ·have:=iY (a:=a) (b:=b) (by omega)
   have e2:B (b+1)=3 * B b+201:=rfl
   omega
theorem iL:∀ {a b:Nat},a<=b->D a<=D b
 | _,0,h=>by cases Nat.le_zero.mp h; exact a0d _
 | a,b+1,h=>by
  by_cases e:a=b+1
  ·rw [e]; exact a0d _
  ·have:=iL (a:=a) (b:=b) (by omega)
   have e2:D (b+1)=3 * D b+1003:=rfl
   omega
theorem qG {b:Nat}:∀ {ws:List W},(∀ w∈ws,sz w.2<=b)->szs (aP ws)<=ws.length * b
 | [],_=>a0O _
 | w::ws,h=>by
  have h1:=h w a0k
  have h2:=qG fun v hv=>h v (a0c _ hv)
  show sz w.2+szs (aP ws)<=_
  rw [a0g,a1W]; omega
theorem xO {w:W}(h:lf w.1 w.2=.d):okD w=true:=by
 unfold lf at h
 unfold okD
 split at h
 ·rename_i hl; rw [hl,a0K]
 ·rw [h]; rfl
theorem eZ:∀ {ws:List W} {t:T},t∈aP ws->∃ w∈ws,w.2=t
 | w::ws,t,h=>by
  rcases a0n.mp (show t∈w.2::aP ws from h) with e | e
  ·exact ⟨w,a0k,e.symm⟩
  ·obtain ⟨v,hv,e2⟩:=eZ e
   exact ⟨v,a0c _ hv,e2⟩
theorem eR:∀ ws:List W,(aP ws).length=ws.length
 | []=>rfl
 | w::ws=>by show (aP ws).length+1=ws.length+1; rw [eR ws]
theorem yt:∀ a:Kd,∃ l,a.th=.tup l/\(l.length=1->a.deep=0)
 | .num=>⟨_,rfl,fun _=>rfl⟩
 | .truth=>⟨_,rfl,fun _=>rfl⟩
 | .pair a b=>⟨_,rfl,fun h=>by cases h⟩
 | .row a=>⟨_,rfl,fun h=>by cases h⟩
theorem qN {F:Call}{a:Kd}{o2 o3 o4:Option W}{N:Nat}{t:T}{x:T}(ht:Tp N t)(mm:Nat)(hN:N+mm * D a.deep < 1000000000000000000)
  (ih:∀ N t,Tp N t->N+D a.deep < 1000000000000000000->∃ md w t',OfK a w/\sz w<=B a.deep/\lf md w=.d/\Tp (N+D a.deep) t'/\F 23 [(.d,t),(.s,a.th),(.d,.bl false)]=.ok ((md,w),[(.d,t')])) :
  ∃ ws t',ws.length=mm/\(∀ w∈ws,OfK a w.2/\sz w.2<=B a.deep/\lf w.1 w.2=.d)/\Tp (N+mm * D a.deep) t' /\
   aJ [5] (cD (evE F (.call 23 [.io 0,.op .ix false [.var 1,.cst (.int 1)],.cst (.bl false)]))) ((a0q mm).map fun (k:Nat)=>[((.d,.int k):W)]) [some (.d,t),some (.s,.tup [x,a.th]),o2,o3,o4,none] []=.ok (ws,[some (.d,t'),some (.s,.tup [x,a.th]),o2,o3,o4,none]):=by
 obtain ⟨ws,η',e,t',rfl,ht',hl,hw⟩:=iq (tg:=[5]) (f:=cD (evE F (.call 23 [.io 0,.op .ix false [.var 1,.cst (.int 1)],.cst (.bl false)]))) (g:=fun (k:Nat)=>[((.d,.int k):W)])
  (fun pre η acc=>∃ t',η=[some (.d,t'),some (.s,.tup [x,a.th]),o2,o3,o4,none]/\Tp (N+pre.length * D a.deep) t'/\acc.length=pre.length/\∀ w∈acc,OfK a w.2/\sz w.2<=B a.deep/\lf w.1 w.2=.d)
  (a0q mm) [] [some (.d,t),some (.s,.tup [x,a.th]),o2,o3,o4,none] [] ⟨t,rfl,by simpa using ht,rfl,fun _ h=>nomatch h⟩ (fun p k r η acc hp ⟨t',he,ht',hl,hw⟩=>by
   subst he
   have hpl:p.length+1<=mm:=by
    have:=congrArg a2J hp
    simp at this; omega
   have hmul:p.length * D a.deep+D a.deep<=mm * D a.deep:=by
    rw [<- a1W]; exact a1N _ hpl
   obtain ⟨md,w,t2,h1,h2,h3,h4,h5⟩:=ih _ _ ht' (by omega)
   refine ⟨_,some (md,w),[some (.d,t2),some (.s,.tup [x,a.th]),o2,o3,o4,some (.d,.int k)],rfl,?_,t2,rfl,?_,?_,?_⟩
   ·simp_all only [h5]
   ·rw [a0e,a0H,a1W]; exact tm h4 (by omega)
   ·rw [a0e,a0e,hl]; rfl
   ·intro v hv
    rcases a0T.mp hv with e | e
    ·exact hw v e
    ·rw [a0C.mp e]; exact ⟨h1,h2,h3⟩)
 refine ⟨ws,t',?_,hw,?_,e⟩
 ·rw [hl]; simp
 ·simpa using ht'
theorem worth:∀ (k:Kd) (n:Nat) (lg:Bool) (m:Md) {N:Nat} {t:T},Tp N t->N+D k.deep < 1000000000000000000 ->
  ∃ (md:Md) (w:T) (t':T),OfK k w/\sz w<=B k.deep/\lf md w=.d/\Tp (N+D k.deep) t'/\C (n+k.deep+4) 23 [(.d,t),(m,k.th),(.d,.bl lg)]=.ok ((md,w),[(.d,t')])
 | .num,n,lg,m,N,t,ht,hN=>by
  obtain ⟨md,i,t1,hi,ht1,e1⟩:=number (n:=n) ht hN
  rw [show n+Kd.num.deep+4=(n+3)+1 from rfl,bU,x_run _ _ _ rfl]
  simp_all only [aC,Kd.th,qeq,e1]
  exact ⟨_,_,_,⟨i,rfl,hi⟩,a0d _,rfl,ht1,rfl⟩
 | .truth,n,lg,m,N,t,ht,hN=>by
  obtain ⟨r,t1,_,_,ht1,e1⟩:=cf (n:=n+1) .d 2 ht (by have:D Kd.truth.deep=5:=rfl; omega) (by decide) (by decide)
  rw [show n+Kd.truth.deep+4=(n+3)+1 from rfl,bU,x_run _ _ _ rfl]
  simp_all only [aC,Kd.th,qeq,e1]
  exact ⟨_,_,_,⟨_,rfl⟩,a0d _,rfl,tm ht1 (by have:D Kd.truth.deep=5:=rfl; omega),rfl⟩
 | .pair a b,n,lg,m,N,t,ht,hN=>by
  have hd:(Kd.pair a b).deep=max a.deep b.deep+1:=rfl
  have hD:D (Kd.pair a b).deep=3 * D (max a.deep b.deep)+1003:=rfl
  have hB:B (Kd.pair a b).deep=3 * B (max a.deep b.deep)+201:=rfl
  have da:=iL (a:=a.deep) (b:=max a.deep b.deep) (by omega)
  have db:=iL (a:=b.deep) (b:=max a.deep b.deep) (by omega)
  have ba:=iY (a:=a.deep) (b:=max a.deep b.deep) (by omega)
  have bb:=iY (a:=b.deep) (b:=max a.deep b.deep) (by omega)
  obtain ⟨m1,w1,t1,o1,s1,l1,ht1,e1⟩:=worth a (n+(max a.deep b.deep-a.deep)) lg .s ht (by omega)
  obtain ⟨m2,w2,t2,o2,s2,l2,ht2,e2⟩:=worth b (n+(max a.deep b.deep-b.deep)) lg (.s) ht1 (by omega)
  rw [show n+(max a.deep b.deep-a.deep)+a.deep+4=n+max a.deep b.deep+4 by omega] at e1
  rw [show n+(max a.deep b.deep-b.deep)+b.deep+4=n+max a.deep b.deep+4 by omega] at e2
  rw [show n+(Kd.pair a b).deep+4=(n+max a.deep b.deep+4)+1 by omega,bU,x_run _ _ _ rfl]
  simp_all only [aC,Kd.th,qeq,e1,e2,l1,l2]
  refine ⟨_,_,_,⟨w1,w2,rfl,o1,o2⟩,?_,rfl,tm ht2 (by omega),rfl⟩
  show sz w1+(sz w2+0)+1<=_
  omega
 | .row a,n,lg,m,N,t,ht,hN=>by
  have hd:(Kd.row a).deep=a.deep+1:=rfl
  have hD:D (Kd.row a).deep=3 * D a.deep+1003:=rfl
  have hB:B (Kd.row a).deep=3 * B a.deep+201:=rfl
  obtain ⟨l,hl,hl1⟩:=yt a
  obtain ⟨r,t1,r0,r1,ht1,e1⟩:=cf (n:=n+a.deep+2) .d 4 ht (by omega) (by decide) (by decide)
  have ih:∀ N t,Tp N t->N+D a.deep < 1000000000000000000->∃ md w t',OfK a w/\sz w<=B a.deep/\lf md w=.d/\Tp (N+D a.deep) t'/\C (n+a.deep+4) 23 [(.d,t),(.s,a.th),(.d,.bl false)]=.ok ((md,w),[(.d,t')]):=fun N t h1 h2=>worth a n false .s h1 h2
  have key:∀ (mm:Int) (N2:Nat) (t2:T),Tp N2 t2->N2<=N+3->0<=mm->(mm<=3\/(a.deep=0/\mm<=200))->∃ ws t3,decide (mm.natAbs < 4611686018427387904)=true/\fits mm.toNat=true/\ws.all okD=true /\
    OfK (.row a) (.lst (aP ws))/\sz (.lst (aP ws))<=B (Kd.row a).deep/\Tp (N+D (Kd.row a).deep) t3 /\
    aJ [5] (cD (evE (C (n+a.deep+4)) (.call 23 [.io 0,.op .ix false [.var 1,.cst (.int 1)],.cst (.bl false)]))) ((a0q mm.toNat).map fun (k:Nat)=>[((.d,.int k):W)]) [some (.d,t2),some (.s,.tup [.str (q "row"),.tup l]),some (.d,.bl lg),none,none,none] []=.ok (ws,[some (.d,t3),some (.s,.tup [.str (q "row"),.tup l]),some (.d,.bl lg),none,none,none]):=by
   intro mm N2 t2 ht2 hN2 h0 hm
   have hmn:mm.toNat<=3\/(a.deep=0/\mm.toNat<=200):=hm.imp (by omega) fun h=>⟨h.1,by omega⟩
   have hD2:mm.toNat * D a.deep<=3 * D a.deep+1000:=by
    rcases hmn with h | ⟨h,h'⟩
    ·have:=a1N (D a.deep) h; omega
    ·rw [h]; have:D 0=5:=rfl; rw [this]; omega
   have hB2:mm.toNat * B a.deep<=3 * B a.deep+200:=by
    rcases hmn with h | ⟨h,h'⟩
    ·have:=a1N (B a.deep) h; omega
    ·rw [h]; have:B 0=1:=rfl; rw [this]; omega
   obtain ⟨ws,t3,h1,h2,h3,h4⟩:=qN (F:=C (n+a.deep+4)) (a:=a) (o2:=some (.d,.bl lg)) (o3:=none) (o4:=none) (x:=.str (q "row")) ht2 mm.toNat (by omega) ih
   rw [hl] at h4
   refine ⟨ws,t3,decide_eq_true (by omega),decide_eq_true (by show mm.toNat<=LIM; unfold LIM; omega),a0I.mpr fun w hw=>xO (h2 w hw).2.2,⟨_,rfl,by rw [eR,h1]; rcases hmn with h | ⟨_,h⟩<;>omega,fun u hu=>?_⟩,?_,tm h3 (by omega),h4⟩
   ·obtain ⟨w,hw,rfl⟩:=eZ hu
    exact (h2 w hw).1
   ·have:=qG (b:=B a.deep) fun w hw=>(h2 w hw).2.1
    rw [h1] at this
    show szs (aP ws)+1<=_
    omega
  rw [show n+(Kd.row a).deep+4=(n+a.deep+4)+1 by omega,bU,x_run _ _ _ rfl]
  cases lg with
  | false =>
   obtain ⟨ws,t3,k1,k2,k3,k4,k5,k6,k7⟩:=key r (N+1) t1 ht1 (by omega) r0 (.inl (by omega))
   simp_all only [aC,Kd.th,qeq,hl,e1,k1,k2,k3,k7]
   exact ⟨_,_,_,k4,k5,rfl,k6,rfl⟩
  | true =>
   cases h1:((l.length:Int)==1) with
   | false =>
    obtain ⟨ws,t3,k1,k2,k3,k4,k5,k6,k7⟩:=key r (N+1) t1 ht1 (by omega) r0 (.inl (by omega))
    simp_all only [aC,Kd.th,qeq,hl,e1,h1,k1,k2,k3,k7]
    exact ⟨_,_,_,k4,k5,rfl,k6,rfl⟩
   | true =>
    have hd0:a.deep=0:=hl1 (by have:=beq_iff_eq.mp h1; omega)
    obtain ⟨r2,t2,r20,r21,ht2,e2⟩:=cf (n:=n+a.deep+2) .d 32 ht1 (by omega) (by decide) (by decide)
    cases h2:(r2==31) with
    | false =>
     obtain ⟨ws,t3,k1,k2,k3,k4,k5,k6,k7⟩:=key r (N+1+1) t2 ht2 (by omega) r0 (.inl (by omega))
     simp_all only [aC,Kd.th,qeq,hl,e1,h1,e2,h2,k1,k2,k3,k7]
     exact ⟨_,_,_,k4,k5,rfl,k6,rfl⟩
    | true =>
     obtain ⟨r3,t4,r30,r31,ht4,e4⟩:=cf (n:=n+a.deep+2) .d 5 ht2 (by omega) (by decide) (by decide)
     obtain ⟨ws,t3,k1,k2,k3,k4,k5,k6,k7⟩:=key (196+r3) (N+1+1+1) t4 ht4 (by omega) (by omega) (.inr ⟨hd0,by omega⟩)
     simp_all only [aC,Kd.th,qeq,hl,e1,h1,e2,h2,e4,k1,k2,k3,k7]
     exact ⟨_,_,_,k4,k5,rfl,k6,rfl⟩
noncomputable def PT:Nat->T->Prop
 | _,.bl _=>True
 | _,.int _=>True
 | _,.str _=>True
 | _,.non=>True
 | d+1,.tup ts=>∀ u∈ts,PT d u
 | d+1,.lst ts=>∀ u∈ts,PT d u
 | _,_=>False
theorem eN (m n:Md):∀ ts:List T,er m n ts ts=ts.map fun t=>[(m,t),(n,t)]
 | []=>rfl
 | t::ts=>by show _::er m n ts ts=_::_; rw [eN m n ts]
theorem xS (m n:Md)(ts us:List T):aY .zip [(m,.lst ts),(n,.lst us)]=some (er .s .s ts us):=rfl
theorem xE (m n:Md)(ts us:List T):aY .zip [(m,.tup ts),(n,.tup us)]=some (er .s .s ts us):=rfl
theorem dM:∀ ts:List T,aW (ts.map fun _=>T.bl true)=some (ts.map fun _=>true)
 | []=>rfl
 | _::ts=>by show (aW (ts.map fun _=>T.bl true)).map _=_; rw [dM ts]; rfl
theorem fQ:∀ ts:List T,(ts.map fun _=>true).all id=true
 | []=>rfl
 | _::ts=>by show (true&&(ts.map fun _=>true).all id)=true; rw [fQ ts]; rfl
theorem aS {α:Type}(f:α->Md)(g:α->T):∀ ts:List α,aP (ts.map fun x=>(f x,g x))=ts.map g
 | []=>rfl
 | x::ts=>by show g x::aP _=g x::ts.map g; rw [aS f g ts]
theorem BG (ts:List T):isOne "list" (.lst ts)=true:=rfl
theorem CB (ts:List T):isOne "tuple" (.lst ts)=false:=rfl
theorem Bs (ts:List T):isOne "list" (.tup ts)=false:=rfl
theorem Ce (ts:List T):isOne "tuple" (.tup ts)=true:=rfl
theorem wy (i:Int):isOne "list" (.int i)=false:=rfl
theorem wG (i:Int):isOne "tuple" (.int i)=false:=rfl
theorem wN (b:Bool):isOne "list" (.bl b)=false:=rfl
theorem wo (b:Bool):isOne "tuple" (.bl b)=false:=rfl
theorem wH (b:Bool):isOne "bool" (.bl b)=true:=rfl
theorem wW (i:Int):isOne "bool" (.int i)=false:=rfl
theorem wK (x:Str):isOne "list" (.str x)=false:=rfl
theorem wq (x:Str):isOne "tuple" (.str x)=false:=rfl
theorem wg (x:Str):isOne "bool" (.str x)=false:=rfl
theorem wZ:isOne "list" .non=false:=rfl
theorem wz:isOne "tuple" .non=false:=rfl
theorem wB:isOne "bool" .non=false:=rfl
theorem C7 (h:Bool)(m n:Md):oSem .eq h [(m,.non),(n,.non)]=some (.d,.bl true):=rfl
theorem l8 (n:Nat):∀ (d:Nat) (t:T) (m m':Md),PT d t->C (n+d+1) 24 [(m,t),(m',t)]=.ok ((.d,.bl true),[]):=by
 intro d
 induction d with
 | zero =>
  intro t m m' h
  rw [eB,x_run _ _ _ rfl]
  cases t with
  | bl b=>simp_all only [ay,a1m,a1t,wN,wo,wH,a06,a0K,beq_self_eq_true]
  | int i=>simp_all only [ay,a1m,a1t,wy,wG,wW,a06,a0K,beq_self_eq_true]
  | str x=>simp_all only [ay,a1m,a1t,wK,wq,wg,a06,a0K,beq_self_eq_true]
  | non=>simp_all only [ay,a1m,a1t,wZ,wz,wB,a06,a0K,beq_self_eq_true,C7]
  | _=>exact h.elim
 | succ d ih =>
  intro t m m' h
  rw [show n+(d+1)+1=(n+d+1)+1 by omega,eB,x_run _ _ _ rfl]
  have cm:∀ ts:List T,(∀ u∈ts,PT d u)->∀ o0 o1:Option W,aJ [2,3] (cD (evE (C (n+d+1)) (.call 24 [.var 2,.var 3]))) (ts.map fun t=>[((.s,t):W),(.s,t)]) [o0,o1,none,none] []=.ok ([]++ts.map fun _=>(.d,.bl true),[o0,o1,none,none]):=by
   intro ts hts o0 o1
   refine bH (fun _=>((.d,.bl true):W)) ts [] fun u hu=>⟨_,[o0,o1,some (.s,u),some (.s,u)],rfl,?_,rfl⟩
   simp_all only [ih u .s .s (hts u hu)]
  cases t with
  | bl b=>simp_all only [ay,a1m,a1t,wN,wo,wH,a06,a0K,beq_self_eq_true]
  | int i=>simp_all only [ay,a1m,a1t,wy,wG,wW,a06,a0K,beq_self_eq_true]
  | str x=>simp_all only [ay,a1m,a1t,wK,wq,wg,a06,a0K,beq_self_eq_true]
  | non=>simp_all only [ay,a1m,a1t,wZ,wz,wB,a06,a0K,beq_self_eq_true,C7]
  | lst ts=>simp_all only [ay,a1m,a1t,BG,CB,a06,a0K,beq_self_eq_true,xS,eN,cm ts h,aS (fun _=>Md.d),dM,fQ]
  | tup ts=>simp_all only [ay,a1m,a1t,Bs,Ce,a06,a0K,beq_self_eq_true,xE,eN,cm ts h,aS (fun _=>Md.d),dM,fQ]
  | _=>exact h.elim
noncomputable def fst:T->T | .tup [x,_]=>x | _=>.non
noncomputable def snd:T->T | .tup [_,x]=>x | _=>.non
noncomputable def aQ:T->List T | .lst ts=>ts | _=>[]
noncomputable def gJ (t:T):T:=.int (((aQ t).length:Nat):Int)
noncomputable def au:Kd->List T->T
 | .num,ts=>.lst ts
 | .truth,ts=>.lst ts
 | .pair a b,ts=>.tup [au a (ts.map fst),au b (ts.map snd)]
 | .row a,ts=>.tup [.lst (ts.map gJ),au a (ts.flatMap aQ)]
theorem lN:∀ ts us:List T,szs (ts++us)=szs ts+szs us
 | [],us=>by show szs us=0+szs us; omega
 | t::ts,us=>by show sz t+szs (ts++us)=sz t+szs ts+szs us; rw [lN ts us]; omega
theorem zM (t:T):1<=sz t:=by
 cases t<;>first | exact a0d _ | exact Nat.le_add_left _ _
theorem fy:∀ ts:List T,ts.length<=szs ts
 | []=>a0d _
 | t::ts=>by
  have:=fy ts
  have:=zM t
  show ts.length+1<=sz t+szs ts
  omega
theorem eA {a b:Kd}:∀ {ts:List T},(∀ t∈ts,OfK (.pair a b) t)->szs (ts.map fst)<=szs ts/\szs (ts.map snd)<=szs ts
 | [],_=>⟨a0d _,a0d _⟩
 | t::ts,h=>by
  obtain ⟨x,y,rfl,_,_⟩:=h t a0k
  obtain ⟨h1,h2⟩:=eA fun u hu=>h u (a0c _ hu)
  refine ⟨?_,?_⟩
  ·show sz x+szs (ts.map fst)<=(sz x+(sz y+0)+1)+szs ts; omega
  ·show sz y+szs (ts.map snd)<=(sz x+(sz y+0)+1)+szs ts; omega
theorem eD {a:Kd}:∀ {ts:List T},(∀ t∈ts,OfK (.row a) t)->szs (ts.flatMap aQ)<=szs ts
 | [],_=>a0d _
 | t::ts,h=>by
  obtain ⟨us,rfl,_,_⟩:=h t a0k
  have:=eD fun u hu=>h u (a0c _ hu)
  rw [a1M,lN]
  show szs us+_<=(szs us+1)+szs ts
  omega
theorem cz {a b:Kd}{ts:List T}(h:∀ t∈ts,OfK (.pair a b) t):(∀ t∈ts.map fst,OfK a t)/\∀ t∈ts.map snd,OfK b t:=by
 refine ⟨fun u hu=>?_,fun u hu=>?_⟩
 ·obtain ⟨t,ht,rfl⟩:=a08.mp hu
  obtain ⟨x,y,rfl,h1,_⟩:=h t ht
  exact h1
 ·obtain ⟨t,ht,rfl⟩:=a08.mp hu
  obtain ⟨x,y,rfl,_,h1⟩:=h t ht
  exact h1
theorem d8 {a:Kd}{ts:List T}(h:∀ t∈ts,OfK (.row a) t):∀ t∈ts.flatMap aQ,OfK a t:=by
 intro u hu
 obtain ⟨t,ht,hu⟩:=a3E.mp hu
 obtain ⟨us,rfl,_,h1⟩:=h t ht
 exact h1 u hu
theorem dS {ts:List T}(h:∀ t∈ts,OfK .num t):leaves ts=true:=a0I.mpr fun t ht=>by obtain ⟨i,rfl,_⟩:=h t ht; rfl
theorem cY {ts:List T}(h:∀ t∈ts,OfK .truth t):leaves ts=true:=a0I.mpr fun t ht=>by obtain ⟨i,rfl⟩:=h t ht; rfl
theorem l9 {α:Type}(g:α->T)(ts:List α):(ts.map fun x=>((.d,g x):W)).all okD=true:=a0I.mpr fun w hw=>by
 obtain ⟨u,_,rfl⟩:=a08.mp hw
 rfl
theorem kh {F:Call}{a b:Kd}{ts:List T}(h:∀ t∈ts,OfK (.pair a b) t)(η:Env)(s:Nat)(hη:∀ t,rd (put η s (.s,t)) s=some (.s,t))(hd:∀ t,ak [s] (put η s (.s,t))=η) :
  aJ [s] (cD (evE F (.op .ix false [.var s,.cst (.int 0)]))) (ts.map fun t=>[((.s,t):W)]) η []=.ok ([]++ts.map fun t=>(.s,fst t),η) /\
  aJ [s] (cD (evE F (.op .ix false [.var s,.cst (.int 1)]))) (ts.map fun t=>[((.s,t):W)]) η []=.ok ([]++ts.map fun t=>(.s,snd t),η):=by
 constructor
 ·refine bH (fun t=>((.s,fst t):W)) ts [] fun u hu=>⟨_,put η s (.s,u),rfl,?_,hd u⟩
  obtain ⟨x,y,rfl,_,_⟩:=h u hu
  simp_all only [hη,fst]
 ·refine bH (fun t=>((.s,snd t):W)) ts [] fun u hu=>⟨_,put η s (.s,u),rfl,?_,hd u⟩
  obtain ⟨x,y,rfl,_,_⟩:=h u hu
  simp_all only [hη,snd]
theorem qr {F:Call}{a:Kd}{ts:List T}(h:∀ t∈ts,OfK (.row a) t)(η:Env)(s:Nat)(hη:∀ t,rd (put η s (.s,t)) s=some (.s,t))(hd:∀ t,ak [s] (put η s (.s,t))=η) :
  aJ [s] (cD (evE F (.op .len false [.var s]))) (ts.map fun t=>[((.s,t):W)]) η []=.ok ([]++ts.map fun t=>(.d,gJ t),η):=by
 refine bH (fun t=>((.d,gJ t):W)) ts [] fun u hu=>⟨_,put η s (.s,u),rfl,?_,hd u⟩
 obtain ⟨us,rfl,_,_⟩:=h u hu
 simp_all only [hη,gJ,aQ]
theorem flat:∀ (k:Kd) (n:Nat) (ts:List T) (m1 m:Md),(∀ t∈ts,OfK k t)->szs ts<=LIM->C (n+k.deep+1) 6 [(m1,k.th),(m,.lst ts)]=.ok ((.d,au k ts),[])
 | .num,n,ts,m1,m,h,_=>by
  rw [cX,x_run _ _ _ rfl]
  simp_all only [bo,Kd.th,qeq,dS h,au]
 | .truth,n,ts,m1,m,h,_=>by
  rw [cX,x_run _ _ _ rfl]
  simp_all only [bo,Kd.th,qeq,cY h,au]
 | .pair a b,n,ts,m1,m,h,hs=>by
  have e1:=flat a (n+(max a.deep b.deep-a.deep)) (ts.map fst) .s (.o .s) (cz h).1 (a0o (eA h).1 hs)
  have e2:=flat b (n+(max a.deep b.deep-b.deep)) (ts.map snd) .s (.o .s) (cz h).2 (a0o (eA h).2 hs)
  rw [show n+(max a.deep b.deep-a.deep)+a.deep+1=n+max a.deep b.deep+1 by omega] at e1
  rw [show n+(max a.deep b.deep-b.deep)+b.deep+1=n+max a.deep b.deep+1 by omega] at e2
  rw [show n+(Kd.pair a b).deep+1=(n+max a.deep b.deep+1)+1 from rfl,cX,x_run _ _ _ rfl]
  have c1:=(kh (F:=C (n+max a.deep b.deep+1)) h [some (.s,.tup [.str (q "pair"),a.th,b.th]),some (.s,.lst ts),none,none,none,none,none] 4 (fun _=>rfl) (fun _=>rfl)).1
  have c2:=(kh (F:=C (n+max a.deep b.deep+1)) h [some (.s,.tup [.str (q "pair"),a.th,b.th]),some (.s,.lst ts),none,none,none,none,none] 5 (fun _=>rfl) (fun _=>rfl)).2
  simp_all only [bo,Kd.th,qeq,c1,c2,aS (fun _=>Md.s),e1,e2,au]
 | .row a,n,ts,m1,m,h,hs=>by
  have hk:=a0o (eD h) hs
  have hl:=a0o (fy (ts.flatMap aQ)) hk
  have e1:=fun m2=>flat a n (ts.flatMap aQ) m2 (.o .s) (d8 h) hk
  rw [show n+(Kd.row a).deep+1=(n+a.deep+1)+1 from rfl,cX,x_run _ _ _ rfl]
  have lp:cG [3] (evSs (C (n+a.deep+1)) [S.ext (X.q [3] []) 2 (E.var 3)]) (ts.map fun t=>[((Md.s,t):W)]) [some (m1,T.tup [T.str (q "row"),a.th]),some (Md.s,T.lst ts),some (Md.s.o,T.lst []),none,none,none,none] =
    .nx [some (m1,T.tup [T.str (q "row"),a.th]),some (Md.s,T.lst ts),some (Md.s.o,T.lst (ts.flatMap aQ)),ts.getLast?.map fun t=>(Md.s,t),none,none,none]:=by
   refine ef (fun p=>[some (m1,T.tup [T.str (q "row"),a.th]),some (Md.s,T.lst ts),some (Md.s.o,T.lst (p.flatMap aQ)),p.getLast?.map fun t=>(Md.s,t),none,none,none]) ts [] fun p t r e=>?_
   obtain ⟨us,rfl,_,_⟩:=h t (by simp at e; rw [e]; simp)
   refine ⟨_,rfl,?_⟩
   have hle:((p.flatMap aQ).length+us.length<=LIM):=by
    have e':ts=p++.lst us::r:=e
    rw [e',a1D,a1M,a0e,a0e] at hl
    have:(aQ (.lst us)).length=us.length:=rfl
    omega
   simp_all only [if_pos hle,a1D,a1M,List.flatMap_nil,aQ,a1O,a1E,a2B]
  have c1:=fun o0 o2 o3 o4 o5=>qr (F:=C (n+a.deep+1)) h [o0,none,o2,o3,o4,o5,none] 6 (fun _=>rfl) (fun _=>rfl)
  simp_all only [bo,Kd.th,qeq,lp,c1,aS (fun _=>Md.d),e1,l9,au]
theorem jq:∀ ts:List T,∃ ns:List Int,bf (ts.map gJ)=some ns
 | []=>⟨[],rfl⟩
 | t::ts=>by
  obtain ⟨ns,e⟩:=jq ts
  refine ⟨((aQ t).length:Int)::ns,?_⟩
  show (bf (ts.map gJ)).map _=_
  rw [e]; rfl
theorem jS:∀ ts:List T,natsOf (ts.map gJ)=some (ts.map fun t=>(aQ t).length)
 | []=>rfl
 | t::ts=>by
  show (natsOf (ts.map gJ)).map _=_
  rw [jS ts]; rfl
theorem ib {a:Kd}:∀ {ts:List T},(∀ t∈ts,OfK (.row a) t)->rowsT (ts.map fun t=>(aQ t).length) (ts.flatMap aQ)=ts
 | [],_=>rfl
 | t::ts,h=>by
  obtain ⟨us,rfl,_,_⟩:=h t a0k
  show T.lst (((us:List T)++ts.flatMap aQ).take us.length)::rowsT _ ((us++ts.flatMap aQ).drop us.length)=_
  rw [a3P,List.drop_left,ib fun u hu=>h u (a0c _ hu)]
theorem jn {a b:Kd}:∀ {ts:List T},(∀ t∈ts,OfK (.pair a b) t)->zipP (ts.map fst) (ts.map snd)=ts
 | [],_=>rfl
 | t::ts,h=>by
  obtain ⟨x,y,rfl,_,_⟩:=h t a0k
  show T.tup [x,y]::zipP (ts.map fst) (ts.map snd)=_
  rw [jn fun u hu=>h u (a0c _ hu)]
theorem lC:∀ (k:Kd) (n:Nat) (ts:List T) (m1 m:Md) (L:Int),(∀ t∈ts,OfK k t)->C (n+k.deep+1) 7 [(m1,k.th),(m,au k ts),(.d,.int L)]=.ok ((.d,.lst ts),[])
 | .num,n,ts,m1,m,L,h=>by
  rw [bR,x_run _ _ _ rfl]
  simp_all only [aR,Kd.th,qeq,au,dS h]
 | .truth,n,ts,m1,m,L,h=>by
  rw [bR,x_run _ _ _ rfl]
  simp_all only [aR,Kd.th,qeq,au,cY h]
 | .pair a b,n,ts,m1,m,L,h=>by
  have e1:=lC a (n+(max a.deep b.deep-a.deep)) (ts.map fst) .s .s L (cz h).1
  have e2:=lC b (n+(max a.deep b.deep-b.deep)) (ts.map snd) .s .s L (cz h).2
  rw [show n+(max a.deep b.deep-a.deep)+a.deep+1=n+max a.deep b.deep+1 by omega] at e1
  rw [show n+(max a.deep b.deep-b.deep)+b.deep+1=n+max a.deep b.deep+1 by omega] at e2
  rw [show n+(Kd.pair a b).deep+1=(n+max a.deep b.deep+1)+1 from rfl,bR,x_run _ _ _ rfl]
  simp_all only [aR,Kd.th,qeq,au,e1,e2,jn h]
 | .row a,n,ts,m1,m,L,h=>by
  obtain ⟨ns,hns⟩:=jq ts
  have e1:=fun m2=>lC a n (ts.flatMap aQ) m2 .s ns.sum (d8 h)
  rw [show n+(Kd.row a).deep+1=(n+a.deep+1)+1 from rfl,bR,x_run _ _ _ rfl]
  simp_all only [aR,Kd.th,qeq,au,hns,e1,kD,rowsW,jS,ib h]
theorem of_PT:∀ (k:Kd) (t:T),OfK k t->PT (k.deep+1) t
 | .num,t,h=>by obtain ⟨i,rfl,_⟩:=h; exact a0x
 | .truth,t,h=>by obtain ⟨i,rfl⟩:=h; exact a0x
 | .pair a b,t,h=>by
  obtain ⟨x,y,rfl,h1,h2⟩:=h
  have mono:∀ (d e:Nat) (t:T),d<=e->PT d t->PT e t:=PTm
  intro u hu
  rcases a0n.mp hu with z | z
  ·rw [z]; exact mono _ _ _ (by show a.deep+1<=max a.deep b.deep+1; omega) (of_PT a x h1)
  ·rw [a0C.mp z]; exact mono _ _ _ (by show b.deep+1<=max a.deep b.deep+1; omega) (of_PT b y h2)
 | .row a,t,h=>by
  obtain ⟨ts,rfl,_,h1⟩:=h
  exact fun u hu=>of_PT a u (h1 u hu)
where
 PTm:∀ (d e:Nat) (t:T),d<=e->PT d t->PT e t
  | _,0,.bl _,_,_=>a0x
  | _,_+1,.bl _,_,_=>a0x
  | _,0,.int _,_,_=>a0x
  | _,_+1,.int _,_,_=>a0x
  | d+1,e+1,.tup ts,h,p=>fun u hu=>PTm d e u (by omega) (p u hu)
  | d+1,e+1,.lst ts,h,p=>fun u hu=>PTm d e u (by omega) (p u hu)
  | 0,_,.tup _,_,p=>p.elim
  | 0,_,.lst _,_,p=>p.elim
  | _,0,.non,_,_=>a0x
  | _,_+1,.non,_,_=>a0x
  | _,0,.str _,_,_=>a0x
  | _,_+1,.str _,_,_=>a0x
  | 0,_,.dct _ _,_,p=>p.elim
  | _+1,_,.dct _ _,_,p=>p.elim
  | 0,_,.ins _ _ _,_,p=>p.elim
  | _+1,_,.ins _ _ _,_,p=>p.elim
  | 0,_,.scr _,_,p=>p.elim
  | _+1,_,.scr _,_,p=>p.elim
  | 0,_,.gone,_,p=>p.elim
  | _+1,_,.gone,_,p=>p.elim
theorem gI {n:Nat}:∀ {ts:List T},(∀ u∈ts,dp u<=n)->dps ts<=n
 | [],_=>a0O _
 | t::ts,h=>by
  have h1:=h t a0k
  have h2:=gI fun u hu=>h u (a0c _ hu)
  show max (dp t) (dps ts)<=n
  omega
theorem eI:∀ (k:Kd) (ts:List T),(∀ t∈ts,OfK k t)->dp (au k ts)<=k.deep+1
 | .num,ts,h=>a1S (gI (n:=0) fun u hu=>by obtain ⟨i,rfl,_⟩:=h u hu; exact a0d _)
 | .truth,ts,h=>a1S (gI (n:=0) fun u hu=>by obtain ⟨i,rfl⟩:=h u hu; exact a0d _)
 | .pair a b,ts,h=>by
  have h1:=eI a _ (cz h).1
  have h2:=eI b _ (cz h).2
  show max (dp _) (max (dp _) 0)+1<=max a.deep b.deep+1+1
  omega
 | .row a,ts,h=>by
  have h1:=eI a _ (d8 h)
  have h2:dp (.lst (ts.map gJ))<=1:=a1S (gI (n:=0) fun u hu=>by obtain ⟨i,_,rfl⟩:=a08.mp hu; exact a0d _)
  show max (dp _) (max (dp _) 0)+1<=a.deep+1+1
  omega
theorem j7 (ns:List Int):leaves (ns.map T.int)=true:=a0I.mpr fun t ht=>by obtain ⟨i,_,rfl⟩:=a08.mp ht; rfl
theorem qT {d e:Nat}{t:T}(h:d<=e)(p:PT d t):PT e t:=of_PT.PTm d e t h p
theorem ey:∀ (k:Kd) (ts:List T),(∀ t∈ts,OfK k t)->PT (k.deep+2) (au k ts)
 | .num,ts,h=>fun u hu=>by obtain ⟨i,rfl,_⟩:=h u hu; exact a0x
 | .truth,ts,h=>fun u hu=>by obtain ⟨i,rfl⟩:=h u hu; exact a0x
 | .pair a b,ts,h=>by
  have h1:=ey a _ (cz h).1
  have h2:=ey b _ (cz h).2
  intro u hu
  rcases a0n.mp hu with z | z
  ·rw [z]; exact qT (by show a.deep+2<=max a.deep b.deep+1+1; omega) h1
  ·rw [a0C.mp z]; exact qT (by show b.deep+2<=max a.deep b.deep+1+1; omega) h2
 | .row a,ts,h=>by
  have h1:=ey a _ (d8 h)
  intro u hu
  rcases a0n.mp hu with z | z
  ·rw [z]; exact fun v hv=>by obtain ⟨x,_,rfl⟩:=a08.mp hv; exact a0x
  ·rw [a0C.mp z]; exact qT (by show a.deep+2<=a.deep+1+1; omega) h1
noncomputable def nT (i:Nat):T:=.int (i:Int)
noncomputable def ae (is:List Nat):List T:=is.map nT
theorem eh (is:List Nat):(ae is).length=is.length:=a0b ..
theorem je {is:List Nat}{j i:Nat}(h:is[j]?=some i):atI (ae is) (j:Int)=some (nT i):=atN rfl (by rw [ae,a0t,h]; rfl)
theorem xU {ts:List T}{j:Nat}(h:j < ts.length):atI ts (j:Int)=some (ts.getD j .non):=atN rfl (by rw [a0j,a0i h]; rfl)
theorem ij {α:Type}{tg:List Nat}{f:Env->Res (Option W×Env)}{η:Env}{g:α->List W}(w:α->Option W):∀ (ts:List α) (acc:List W),(∀ x∈ts,∃ η1 η2,aL tg (g x) η=some η1/\f η1=.ok (w x,η2)/\ak tg η2=η) ->
  aJ tg f (ts.map g) η acc=.ok (acc++ts.filterMap w,η)
 | [],acc,_=>by rw [a1B,a3s,a0z]; rfl
 | x::ts,acc,h=>by
  obtain ⟨η1,η2,h1,h2,h3⟩:=h x a0k
  rw [a0A]
  show (ofO (aL tg (g x) η)).bind _=_
  rw [h1]
  show (f η1).bind _=_
  rw [h2]
  show aJ tg f (ts.map g) (ak tg η2) (acc++(w x).toList)=_
  rw [h3,ij w ts _ fun y hy=>h y (a0c _ hy),a0V,a0L]
  cases w x<;>rfl
theorem gn {α:Type}{tg:List Nat}{f:Env->Fl}{g:α->List W}(I:List α->Env->Prop):∀ (ts pre:List α) (η:Env),I pre η->(∀ p x r η,pre++ts=p++x::r->I p η->∃ η1 η2,aL tg (g x) η=some η1/\f η1=.nx η2/\I (p++[x]) η2) ->
  ∃ η',cG tg f (ts.map g) η=.nx η'/\I (pre++ts) η'
 | [],pre,η,h,_=>⟨η,rfl,by rw [a0z]; exact h⟩
 | x::ts,pre,η,h,k=>by
  obtain ⟨η1,η2,h1,h2,h3⟩:=k pre x ts η rfl h
  obtain ⟨η',e,hi⟩:=gn I ts (pre++[x]) η2 h3 fun p y r η e=>k p y r η (by rw [<- e,a0V]; rfl)
  refine ⟨η',?_,by rw [a0V] at hi; exact hi⟩
  rw [a0A]
  show Fl.of _ (ofO (aL tg (g x) η)) _=_
  rw [h1]
  show Fl.turn (f η1) _=_
  rw [h2]
  exact e
theorem pq {α:Type}(ts:List α)(j:Nat):cut ts none (some (j:Int))=ts.take j:=by
 show (ts.drop 0).take ((if (j:Int) < 0 then ((j:Int)+ts.length).toNat else min (j:Int).toNat ts.length)-0)=_
 rw [if_neg (by omega),a1K,Nat.sub_zero,a3O]
 by_cases h:j<=ts.length
 ·rw [a27 h]
 ·rw [a2f (by omega),a1f (a0d _),a1f (by omega)]
noncomputable def a0 (ts:List T):List Nat:=ts.map fun t=>(aQ t).length
theorem nQ (ts:List T):ts.map gJ=ae (a0 ts):=by rw [ae,a0,a0Y]; rfl
theorem gj (ts:List T):(a0 ts).sum=(ts.flatMap aQ).length:=by rw [List.length_flatMap]; rfl
theorem ju (ts:List T):(a0 ts).length=ts.length:=a0b ..
noncomputable def aE (ts:List T)(is:List Nat):List T:=is.map fun i=>ts.getD i .non
theorem dt {p:T->Prop}{ts:List T}{is:List Nat}(h:∀ t∈ts,p t)(hi:∀ i∈is,i < ts.length):∀ t∈aE ts is,p t:=fun t ht=>by
 obtain ⟨i,hi',rfl⟩:=a08.mp ht
 have:=hi i hi'
 rw [a0j,a0i this]
 exact h _ (a2P this)
theorem dB {g:T->T}(ts:List T){is:List Nat}(hi:∀ i∈is,i < ts.length):aE (ts.map g) is=(aE ts is).map g:=by
 rw [aE,aE,a0Y]
 refine a3j fun i h=>?_
 have:=hi i h
 simp only [a1p]
 rw [a0j,a0j,a0t,a0i this]
 rfl
noncomputable def off (l:List Nat)(i:Nat):Nat:=(l.take i).sum
noncomputable def tng (l:List Nat)(is:List Nat):List Nat:=is.flatMap fun i=>(a0q (l.getD i 0)).map fun k=>off l i+k
theorem rA (l:List Nat)(i:Nat):off l i+l.getD i 0<=l.sum:=by
 unfold off
 conv=>rhs; rw [<- a1s i l]
 rw [a2i]
 by_cases h:i < l.length
 ·rw [a1v h,a3X,a0j,a0i h]
  show (l.take i).sum+l[i]<=_
  omega
 ·rw [a0j,a09 (by omega)]
  show (l.take i).sum+0<=_
  omega
theorem zk {l is:List Nat}:∀ j∈tng l is,j < l.sum:=fun j hj=>by
 obtain ⟨i,_,h2⟩:=a3E.mp hj
 obtain ⟨k,h3,rfl⟩:=a08.mp h2
 have:=rA l i
 have:=a2a.mp h3
 omega
theorem eH (ts:List T):∀ (is:List Nat),(∀ i∈is,i < ts.length)->aE (ts.flatMap aQ) (tng (a0 ts) is)=(aE ts is).flatMap aQ
 | [],_=>rfl
 | i::is,h=>by
  have hi:=h i a0k
  have e:aE (ts.flatMap aQ) (tng (a0 ts) (i::is))=aE (ts.flatMap aQ) ((a0q ((a0 ts).getD i 0)).map fun k=>off (a0 ts) i+k)++aE (ts.flatMap aQ) (tng (a0 ts) is):=by
   rw [aE,aE,aE,<- a1z]; rfl
  rw [e,eH ts is fun j hj=>h j (a0c _ hj)]
  show _=aQ (ts.getD i .non)++_
  congr 1
  have e1:ts.getD i .non=ts[i]:=by rw [a0j,a0i hi]; rfl
  have e2:(a0 ts).getD i 0=(aQ ts[i]).length:=by rw [a0j,a0,a0t,a0i hi]; rfl
  have e3:off (a0 ts) i=((ts.take i).flatMap aQ).length:=by rw [off,a0,<- a3q,<- gj]; rfl
  have e4:ts.flatMap aQ=(ts.take i).flatMap aQ++(aQ ts[i]++(ts.drop (i+1)).flatMap aQ):=by
   conv=>lhs; rw [<- a1s i ts,a1v hi]
   rw [a1D,a1M]
  rw [e1,e2,e3,aE,a0Y]
  refine a3w fun k=>?_
  rw [a0t]
  by_cases hk:k < (aQ ts[i]).length
  ·rw [a1U hk,a0i hk]
   simp only [a3L,a1p]
   rw [a0j,e4,a0R (by omega),a15,a0M hk,a0i hk]
   rfl
  ·rw [a09 (by simpa using hk),a09 (by omega)]
   rfl
theorem tw (ts:List T){is:List Nat}(h:∀ i∈is,i < ts.length):(tng (a0 ts) is).length=((aE ts is).flatMap aQ).length:=by
 rw [<- eH ts is h,aE,a0b]
theorem many:∀ (k:Kd) (n:Nat) (ts:List T) (m1 m:Md),C (n+k.deep+1) 11 [(m1,k.th),(m,au k ts)]=.ok ((.d,.int (ts.length:Nat)),[])
 | .num,n,ts,m1,m=>by
  rw [cU,x_run _ _ _ rfl]
  simp_all only [bj,Kd.th,qeq,au]
 | .truth,n,ts,m1,m=>by
  rw [cU,x_run _ _ _ rfl]
  simp_all only [bj,Kd.th,qeq,au]
 | .pair a b,n,ts,m1,m=>by
  have e1:=fun m1 m=>many a (n+(max a.deep b.deep-a.deep)) (ts.map fst) m1 m
  rw [show n+(max a.deep b.deep-a.deep)+a.deep+1=n+max a.deep b.deep+1 by omega] at e1
  rw [show n+(Kd.pair a b).deep+1=(n+max a.deep b.deep+1)+1 from rfl,cU,x_run _ _ _ rfl]
  simp_all only [bj,Kd.th,qeq,au,e1,a0b]
 | .row a,n,ts,m1,m=>by
  rw [show n+(Kd.row a).deep+1=(n+a.deep+1)+1 from rfl,cU,x_run _ _ _ rfl]
  simp_all only [bj,Kd.th,qeq,au,a0b]
theorem j2 (h:Bool)(m m':Md)(a l:Nat)(hb:a+l<=LIM):oSem .rng h [(m,.int (a:Int)),(m',.int ((a:Int)+(l:Int)))]=some (.d,.lst (ae ((a0q l).map fun k=>a+k))):=by
 have hL:LIM=16777215:=rfl
 rw [BH,decide_eq_true (by omega:(a:Int).natAbs < 4611686018427387904),decide_eq_true (by omega:((a:Int)+(l:Int)).natAbs < 4611686018427387904),show ((a:Int)+(l:Int)-(a:Int)).toNat=l by omega,show fits l=true from decide_eq_true (by omega)]
 rw [ae,a0Y]
 rfl
theorem things (n:Nat)(l is:List Nat)(m1 m:Md)(hi:∀ i∈is,i < l.length)(hb:l.sum+l.length<=LIM)(ht:(tng l is).length<=LIM):C (n+1) 14 [(m1,.lst (ae l)),(m,.lst (ae is))]=.ok ((.d,.lst (ae (tng l is))),[]):=by
 rw [i5,x_run _ _ _ rfl]
 have lp:cG [4] (evSs (C n) [.app (.q [] [3]) 2 (.var 3),.asg (.q [] [3,4]) 3 (.op .add false [.var 3,.var 4])]) ((ae l).map fun t=>[((Md.s,t):W)]) [some (Md.s,T.lst (ae l)),some (m,T.lst (ae is)),some (Md.d,T.lst []),some (Md.d,T.int 0),none,none,none] =
   .nx [some (Md.s,T.lst (ae l)),some (m,T.lst (ae is)),some (Md.d,T.lst (ae ((a0q l.length).map (off l)))),some (Md.d,T.int ((l.sum:Nat):Int)),l.getLast?.map fun i=>(Md.s,nT i),none,none]:=by
  rw [ae,a0Y]
  refine ef (fun p=>[some (Md.s,T.lst (ae l)),some (m,T.lst (ae is)),some (Md.d,T.lst (ae ((a0q p.length).map (off l)))),some (Md.d,T.int ((p.sum:Nat):Int)),p.getLast?.map fun i=>(Md.s,nT i),none,none]) l [] fun p x r e=>⟨_,rfl,?_⟩
  have e':l=p++x::r:=e
  have hl:(ae ((a0q p.length).map (off l))).length < LIM:=by
   rw [eh,a0b,a0W]
   have:=congrArg a2J e'
   rw [a0e,a0g] at this
   omega
  have h1:ae ((a0q (p++[x]).length).map (off l))=ae ((a0q p.length).map (off l))++[T.int ((p.sum:Nat):Int)]:=by
   rw [a0e,a0H,List.range_succ,a1z,ae,a1z]
   show _++[nT (off l p.length)]=_
   rw [show off l p.length=p.sum by rw [off,e',a3P]]
   rfl
  have h2:(((p++[x]).sum:Nat):Int)=(p.sum:Int)+(x:Int):=by rw [a2i,List.sum_singleton]; omega
  simp_all only [a1p,nT,if_pos hl,h1,h2,a1O,a1E,a2B]
 have lq:cG [6] (evSs (C n) [.ext (.q [0,2] [6]) 5 (.op .rng false [.op .ix false [.var 2,.var 6],.op .add false [.op .ix false [.var 2,.var 6],.op .ix false [.var 0,.var 6]]])]) ((ae is).map fun t=>[((Md.s,t):W)]) [some (Md.s,T.lst (ae l)),some (Md.s,T.lst (ae is)),some (Md.d,T.lst (ae ((a0q l.length).map (off l)))),some (Md.d,T.int ((l.sum:Nat):Int)),l.getLast?.map fun i=>(Md.s,nT i),some (Md.d,T.lst []),none] =
   .nx [some (Md.s,T.lst (ae l)),some (Md.s,T.lst (ae is)),some (Md.d,T.lst (ae ((a0q l.length).map (off l)))),some (Md.d,T.int ((l.sum:Nat):Int)),l.getLast?.map fun i=>(Md.s,nT i),some (Md.d,T.lst (ae (tng l is))),is.getLast?.map fun i=>(Md.s,nT i)]:=by
  rw [ae,a0Y]
  refine ef (fun p=>[some (Md.s,T.lst (ae l)),some (Md.s,T.lst (ae is)),some (Md.d,T.lst (ae ((a0q l.length).map (off l)))),some (Md.d,T.int ((l.sum:Nat):Int)),l.getLast?.map fun i=>(Md.s,nT i),some (Md.d,T.lst (ae (tng l p))),p.getLast?.map fun i=>(Md.s,nT i)]) is [] fun p x r e=>⟨_,rfl,?_⟩
  have e':is=p++x::r:=e
  have hx:x < l.length:=hi x (by rw [e']; simp)
  have a1:atI (ae ((a0q l.length).map (off l))) (x:Int)=some (.int (off l x:Nat)):=je (by rw [a0t,a1U hx]; rfl)
  have a2:atI (ae l) (x:Int)=some (.int (l.getD x 0:Nat)):=je (by rw [a0j,a0i hx]; rfl)
  have a3:=rA l x
  have h1:tng l (p++[x])=tng l p++(a0q (l.getD x 0)).map fun k=>off l x+k:=by rw [tng,a1D]; show _++(_++[])=_; rw [a0z]; rfl
  have h2:ae (tng l (p++[x]))=ae (tng l p)++ae ((a0q (l.getD x 0)).map fun k=>off l x+k):=by rw [h1,ae,a1z]; rfl
  have hle:(ae (tng l p)).length+(ae ((a0q (l.getD x 0)).map fun k=>off l x+k)).length<=LIM:=by
   rw [<- a0e,<- h2,eh]
   have h3:tng l is=tng l (p++[x])++tng l r:=by
    rw [e',show p++x::r=(p++[x])++r by simp]
    exact a1D
   rw [h3,a0e] at ht
   omega
  have rg:=fun h m m'=>j2 h m m' (off l x) (l.getD x 0) (by omega)
  simp_all only [a1p,nT,a1,a2,rg,if_pos hle,h2,a1O,a1E,a2B]
 simp_all only [bN,lp,lq]
theorem dR {a:Kd}:∀ {ts:List T},(∀ t∈ts,OfK (.row a) t)->(ts.flatMap aQ).length+ts.length<=szs ts
 | [],_=>a0d _
 | t::ts,h=>by
  obtain ⟨us,rfl,_,_⟩:=h t a0k
  have:=dR fun u hu=>h u (a0c _ hu)
  have:=fy us
  rw [a1M,a0e]
  show us.length+_+(ts.length+1)<=(szs us+1)+szs ts
  omega
theorem eQ {F:Call}{ts:List T}{is:List Nat}(hi:∀ i∈is,i < ts.length)(η:Env)(s v:Nat)(hs:∀ i,rd (put η s (.s,.int (i:Int))) s=some (.s,.int (i:Int)))(hv:∀ i,rd (put η s (.s,.int (i:Int))) v=some (.s,.lst ts))(hd:∀ i,ak [s] (put η s (.s,.int (i:Int)))=η) :
  aJ [s] (cD (evE F (.op .ix false [.var v,.var s]))) ((ae is).map fun t=>[((.s,t):W)]) η []=.ok ([]++is.map fun i=>(.s,ts.getD i .non),η):=by
 rw [ae,a0Y]
 refine bH (fun i=>((.s,ts.getD i .non):W)) is [] fun i h=>⟨_,put η s (.s,.int (i:Int)),rfl,?_,hd i⟩
 have a1:=xU (hi i h)
 simp_all only [nT,hs,hv,a1]
theorem dP {α:Type}{m:Md}{g:α->T}{l:List α}(h:∀ x∈l,(g x).leaf=true):(l.map fun x=>((m,g x):W)).all okD=true:=a0I.mpr fun w hw=>by
 obtain ⟨x,hx,rfl⟩:=a08.mp hw
 show (_ || (g x).leaf)=true
 rw [h x hx,a0K]
theorem mr {ts:List T}(h:leaves ts=true){is:List Nat}(hi:∀ i∈is,i < ts.length):∀ i∈is,(ts.getD i .non).leaf=true:=fun i h'=>by
 have:=hi i h'
 rw [a0j,a0i this]
 exact a0I.mp h _ (a2P this)
theorem nY (ts:List T){is:List Nat}(hi:∀ i∈is,i < ts.length):(is.map fun i=>(a0 ts).getD i 0)=a0 (aE ts is):=by
 rw [aE,a0,a0,a0Y]
 refine a3j fun i h=>?_
 have:=hi i h
 simp only [a1p]
 rw [a0j,a0j,a0t,a0i this]
 rfl
theorem d9:∀ (k:Kd) (n:Nat) (ts:List T) (is:List Nat) (m1 m m2:Md),(∀ t∈ts,OfK k t)->(∀ i∈is,i < ts.length)->szs ts<=LIM->szs (aE ts is)<=LIM->C (n+k.deep+1) 13 [(m1,k.th),(m,au k ts),(m2,.lst (ae is))]=.ok ((.d,au k (aE ts is)),[])
 | .num,n,ts,is,m1,m,m2,h,hi,_,_=>by
  rw [bw,x_run _ _ _ rfl]
  have c1:=fun o0 o2 o3 o4=>eQ (F:=C (n+Kd.num.deep)) hi [o0,some (.s,.lst ts),o2,o3,o4,none] 5 1 (fun _=>rfl) (fun _=>rfl) (fun _=>rfl)
  simp_all only [aK,Kd.th,qeq,au,c1,dP (mr (dS h) hi),aS (fun _=>Md.s),aE]
 | .truth,n,ts,is,m1,m,m2,h,hi,_,_=>by
  rw [bw,x_run _ _ _ rfl]
  have c1:=fun o0 o2 o3 o4=>eQ (F:=C (n+Kd.truth.deep)) hi [o0,some (.s,.lst ts),o2,o3,o4,none] 5 1 (fun _=>rfl) (fun _=>rfl) (fun _=>rfl)
  simp_all only [aK,Kd.th,qeq,au,c1,dP (mr (cY h) hi),aS (fun _=>Md.s),aE]
 | .pair a b,n,ts,is,m1,m,m2,h,hi,hs,hs2=>by
  have q1:=eA h
  have q2:=eA (ts:=aE ts is) (dt h hi)
  have hi1:∀ i∈is,i < (ts.map fst).length:=fun i z=>by rw [a0b]; exact hi i z
  have hi2:∀ i∈is,i < (ts.map snd).length:=fun i z=>by rw [a0b]; exact hi i z
  have e1:=fun m1 m m2=>d9 a (n+(max a.deep b.deep-a.deep)) (ts.map fst) is m1 m m2 (cz h).1 hi1 (by omega) (by rw [dB ts hi]; omega)
  have e2:=fun m1 m m2=>d9 b (n+(max a.deep b.deep-b.deep)) (ts.map snd) is m1 m m2 (cz h).2 hi2 (by omega) (by rw [dB ts hi]; omega)
  rw [show n+(max a.deep b.deep-a.deep)+a.deep+1=n+max a.deep b.deep+1 by omega,dB ts hi] at e1
  rw [show n+(max a.deep b.deep-b.deep)+b.deep+1=n+max a.deep b.deep+1 by omega,dB ts hi] at e2
  rw [show n+(Kd.pair a b).deep+1=(n+max a.deep b.deep+1)+1 from rfl,bw,x_run _ _ _ rfl]
  simp_all only [aK,Kd.th,qeq,au,e1,e2]
 | .row a,n,ts,is,m1,m,m2,h,hi,hs,hs2=>by
  have h':=dt h hi
  have q1:=eD h
  have q2:=eD h'
  have q3:=dR h
  have q4:=dR h'
  have hl:∀ i∈is,i < (a0 ts).length:=fun i z=>by rw [ju]; exact hi i z
  have e0:=fun m1 m=>things (n+a.deep) (a0 ts) is m1 m hl (by rw [gj,ju]; omega) (by rw [tw ts hi]; omega)
  have e1:=fun m1 m m2=>d9 a n (ts.flatMap aQ) (tng (a0 ts) is) m1 m m2 (d8 h) (fun i z=>by rw [<- gj]; exact zk i z) (by omega) (by rw [eH ts is hi]; omega)
  rw [eH ts is hi] at e1
  have hl2:∀ i∈is,i < (ae (a0 ts)).length:=fun i z=>by rw [eh]; exact hl i z
  have c1:aJ [4] (cD (evE (C (n+a.deep+1)) (.op .ix false [.op .ix false [.var 1,.cst (.int 0)],.var 4]))) ((ae is).map fun t=>[((.s,t):W)]) [none,some (.s,.tup [.lst (ae (a0 ts)),au a (ts.flatMap aQ)]),some (.s,.lst (ae is)),none,none,none] []=.ok ([]++is.map fun i=>(.s,nT ((a0 ts).getD i 0)),[none,some (.s,.tup [.lst (ae (a0 ts)),au a (ts.flatMap aQ)]),some (.s,.lst (ae is)),none,none,none]):=by
   rw [ae,a0Y]
   refine bH (fun i=>((.s,nT ((a0 ts).getD i 0)):W)) is [] fun i h=>⟨_,[none,some (.s,.tup [.lst (ae (a0 ts)),au a (ts.flatMap aQ)]),some (.s,.lst (ae is)),none,some (.s,nT i),none],rfl,?_,rfl⟩
   have a1:atI (ae (a0 ts)) (i:Int)=some (.int ((a0 ts).getD i 0:Nat)):=je (by rw [a0j,a0i (hl i h)]; rfl)
   simp_all only [nT,a1]
   rfl
  have e3:(is.map fun i=>nT ((a0 ts).getD i 0))=ae (a0 (aE ts is)):=by rw [<- nY ts hi,ae,a0Y]; rfl
  rw [show n+(Kd.row a).deep+1=(n+a.deep+1)+1 from rfl,bw,x_run _ _ _ rfl]
  simp_all only [aK,Kd.th,qeq,au,nQ,c1,dP (m:=.s) (g:=fun i=>nT ((a0 ts).getD i 0)) (l:=is) (fun _ _=>rfl),aS (fun _=>Md.s),e3,e0,e1]
theorem kn (k:Kd)(n:Nat)(ts:List T)(is:List Nat)(m1 m m2:Md)(h:∀ t∈ts,OfK k t)(hi:∀ i∈is,i < ts.length)(hs:szs ts<=LIM)(hs2:szs (aE ts is)<=LIM):C (n+k.deep+2) 313 [(m1,k.th),(m,au k ts),(m2,.lst (ae is))]=.ok ((.d,au k (aE ts is)),[]):=by
 rw [show n+k.deep+2=(n+k.deep+1)+1 from rfl,jB,x_run _ _ _ rfl]
 have e1:=fun m1 m=>many k n ts m1 m
 have e2:=fun m1 m m2=>d9 k n ts is m1 m m2 h hi hs hs2
 have lp:cG [4] (evSs (C (n+k.deep+1)) [.ite (.q [] [3,4]) (.not (.chain .le .lt (.cst (.int 0)) (.var 4) (.var 3))) [.raise aH (q "number") (.q [] [4]) (.var 4)] []]) ((ae is).map fun t=>[((Md.s,t):W)]) [some (m1,k.th),some (m,au k ts),some (.s,.lst (ae is)),some (.d,.int (ts.length:Nat)),none] =
   .nx [some (m1,k.th),some (m,au k ts),some (.s,.lst (ae is)),some (.d,.int (ts.length:Nat)),is.getLast?.map fun i=>(Md.s,nT i)]:=by
  rw [ae,a0Y]
  refine ef (fun p=>[some (m1,k.th),some (m,au k ts),some (.s,.lst (is.map nT)),some (.d,.int (ts.length:Nat)),p.getLast?.map fun i=>(Md.s,nT i)]) is [] fun p x r e=>⟨_,rfl,?_⟩
  have e':is=p++x::r:=e
  have hx:x < ts.length:=hi x (by rw [e']; simp)
  simp_all only [a1p,nT,decide_eq_true (show (0:Int)<=(x:Int) by omega),decide_eq_true (show (x:Int) < ((ts.length:Nat):Int) by omega),a1O,a1E,a2B]
 simp_all only [cw,e1,lp,e2]
theorem ia {α:Type}{f:Env->Res (Option W×Env)}{s:Nat}{g:α->W}(E:T->Env)(E':T->W->Env){P:Option W->Prop}{c:Nat}(hb:∀ t w,aL [s] [w] (E t)=some (E' t w))(hd:∀ t w,ak [s] (E' t w)=E t)
  (hf:∀ N t w,Tp N t->N+c < 1000000000000000000->∃ o t',P o/\Tp (N+c) t'/\f (E' t w)=.ok (o,E' t' w)):∀ (l:List α) (N:Nat) (t:T),Tp N t->N+l.length * c < 1000000000000000000 ->
  ∃ (os:List (Option W)) (t':T),os.length=l.length/\(∀ o∈os,P o)/\Tp (N+l.length * c) t'/\∀ acc,aJ [s] f (l.map fun x=>[g x]) (E t) acc=.ok (acc++os.filterMap id,E t')
 | [],N,t,ht,_=>⟨[],t,rfl,(fun _ h=>nomatch h),by simpa using ht,fun acc=>by rw [a3s,a0z]; rfl⟩
 | x::l,N,t,ht,hN=>by
  rw [a0g,a1W] at hN
  obtain ⟨o,t1,h1,h2,h3⟩:=hf N t (g x) ht (by omega)
  obtain ⟨os,t2,k1,k2,k3,k4⟩:=ia E E' hb hd hf l (N+c) t1 h2 (by omega)
  refine ⟨o::os,t2,by rw [a0g,a0g,k1],fun q hq=>(a0n.mp hq).elim (fun e=>e ▸ h1) (k2 q),by rw [a0g,a1W]; exact tm k3 (by omega),fun acc=>?_⟩
  rw [a0A]
  show (ofO (aL [s] [g x] (E t))).bind _=_
  rw [hb]
  show (f (E' t (g x))).bind _=_
  rw [h3]
  show aJ [s] f (l.map fun x=>[g x]) (ak [s] (E' t1 (g x))) (acc++o.toList)=_
  rw [hd,k4,a0V,a0L]
  cases o<;>rfl
theorem lj {mm:Int}(h0:0<=mm)(h1:mm<=1000000):decide (mm.natAbs < 4611686018427387904)=true/\fits mm.toNat=true:=⟨decide_eq_true (by omega),decide_eq_true (by show mm.toNat<=16777215; omega)⟩
theorem wu {P:W->Prop}:∀ {os:List (Option W)},(∀ o∈os,∃ w,o=some w/\P w)->∃ ws:List W,os.filterMap id=ws/\ws.length=os.length/\∀ w∈ws,P w
 | [],_=>⟨[],rfl,rfl,(fun _ h=>nomatch h)⟩
 | o::os,h=>by
  obtain ⟨w,rfl,hw⟩:=h o a0k
  obtain ⟨ws,e,l,k⟩:=wu fun q hq=>h q (a0c _ hq)
  exact ⟨w::ws,by show w::os.filterMap id=_; rw [e],by rw [a0g,a0g,l],fun v hv=>(a0n.mp hv).elim (fun e=>e ▸ hw) (k v)⟩
noncomputable def Ok (k:Kd)(N:Nat)(us:List T):Prop:=(∀ t∈us,OfK k t/\sz t<=B k.deep)/\us.length<=N
theorem lM {b:Nat}:∀ {ts:List T},(∀ t∈ts,sz t<=b)->szs ts<=ts.length * b
 | [],_=>a0O _
 | t::ts,h=>by
  have h1:=h t a0k
  have h2:=lM fun v hv=>h v (a0c _ hv)
  show sz t+szs ts<=_
  rw [a0g,a1W]; omega
theorem Ok.szs {k:Kd}{N:Nat}{us:List T}(h:Ok k N us):szs us<=N * B k.deep:=a0o (lM fun t ht=>(h.1 t ht).2) (a1N _ h.2)
theorem Ok.of {k:Kd}{N:Nat}{us:List T}(h:Ok k N us):∀ t∈us,OfK k t:=fun t ht=>(h.1 t ht).1
theorem Ap {k:Kd}:∀ {ws:List W},(∀ w∈ws,OfK k w.2/\sz w.2<=B k.deep)->∀ {N:Nat},ws.length<=N->Ok k N (aP ws):=fun {ws} h {N} hl=>⟨fun t ht=>by
 obtain ⟨w,hw,rfl⟩:=eZ ht
 exact h w hw,by rw [eR]; exact hl⟩
theorem iK (tg:List Nat)(f:Env->Fl)(x:List W)(r:List (List W))(η:Env):cG tg f (x::r) η=Fl.of η (ofO (aL tg x η)) fun η1=>Fl.turn (f η1) (cG tg f r):=rfl
theorem lI (L:Call)(k:Kd)(ts:List T)(m1 m:Md)(X:T)(b:Int)(rest:List T)(hb:¬ (0<=b/\b < ((ts.length:Nat):Int)))(hl:b.natAbs.log2 < 1920):∀ (is:List Nat) (o:Option W),(∀ i∈is,i < ts.length) ->
  ∃ η,cG [4] (evSs L [.ite (.q [] [3,4]) (.not (.chain .le .lt (.cst (.int 0)) (.var 4) (.var 3))) [.raise aH (q "number") (.q [] [4]) (.var 4)] []]) ((ae is++T.int b::rest).map fun t=>[((Md.s,t):W)]) [some (m1,k.th),some (m,au k ts),some (.s,X),some (.d,.int (ts.length:Nat)),o]=.ex (.ins aH [q "number"] [.int b]) η
 | [],o,_=>by
  by_cases h0:0<=b
  ·have h1:¬ (b < ((ts.length:Nat):Int)):=fun z=>hb ⟨h0,z⟩
   refine ⟨[some (m1,k.th),some (m,au k ts),some (.s,X),some (.d,.int (ts.length:Nat)),some (.s,.int b)],?_⟩
   simp only [ae,a1B,a1o,a0A]
   rw [iK]
   simp_all only [decide_eq_true h0,decide_eq_false h1,decide_eq_true hl]
   rfl
  ·refine ⟨[some (m1,k.th),some (m,au k ts),some (.s,X),some (.d,.int (ts.length:Nat)),some (.s,.int b)],?_⟩
   simp only [ae,a1B,a1o,a0A]
   rw [iK]
   simp_all only [decide_eq_false h0,decide_eq_true hl]
   rfl
 | i::is,o,hi=>by
  have hx:i < ts.length:=hi i (by simp)
  obtain ⟨η,e⟩:=lI L k ts m1 m X b rest hb hl is (some (.s,nT i)) fun j h=>hi j (by simp [h])
  refine ⟨η,?_⟩
  rw [<- e]
  simp only [ae,a0A,a2T]
  rw [iK]
  simp_all only [nT,decide_eq_true (show (0:Int)<=(i:Int) by omega),decide_eq_true (show (i:Int) < ((ts.length:Nat):Int) by omega)]
theorem oF (k:Kd)(n:Nat)(ts:List T)(is:List Nat)(b:Int)(rest:List T)(m1 m m2:Md)(hi:∀ i∈is,i < ts.length)(hb:¬ (0<=b/\b < ((ts.length:Nat):Int)))(hl:b.natAbs.log2 < 1920):C (n+k.deep+2) 313 [(m1,k.th),(m,au k ts),(m2,.lst (ae is++T.int b::rest))]=.ex (.ins aH [q "number"] [.int b]):=by
 rw [show n+k.deep+2=(n+k.deep+1)+1 from rfl,jB,x_run _ _ _ rfl]
 have e1:=fun m1 m=>many k n ts m1 m
 obtain ⟨η,e⟩:=lI (C (n+k.deep+1)) k ts m1 m (.lst (ae is++T.int b::rest)) b rest hb hl is none hi
 simp_all only [cw,e1,e]
 rfl
theorem DG:(q "refused"==q "none")=false:=by decide +kernel
theorem AQ (m:Md)(c:Nat)(fs:List Str)(vs:List T):lf m (.ins c fs vs)=m:=rfl
theorem AZ (t:T)(η:Env)(f:Env->Fl):Fl.seq (.ex t η) f=.ex t η:=rfl
theorem qO (n:Nat)(m:Md)(b:Int):C (n+1) 314 [(m,.ins aH [q "number"] [.int b])]=.ok ((.d,.bl false),[]):=by
 rw [i6,x_run _ _ _ rfl]
 simp_all only [bK,a1k,a3x,a30,a06,a31,a0K,a2d]
 rfl
theorem kA (k:Kd)(n:Nat)(ts:List T)(is:List Nat)(b:Int)(rest:List T)(m1 m m2:Md)(hi:∀ i∈is,i < ts.length)(hb:¬ (0<=b/\b < ((ts.length:Nat):Int)))(hl:b.natAbs.log2 < 1920):C (n+k.deep+3) 318 [(m1,k.th),(m,au k ts),(m2,.lst (ae is++T.int b::rest))]=.ok ((.d,.int b),[]):=by
 rw [show n+k.deep+3=(n+k.deep+2)+1 from rfl,fM,x_run _ _ _ rfl]
 have e1:=fun m1 m m2=>oF k n ts is b rest m1 m m2 hi hb hl
 have e2:=fun m=>qO (n+k.deep+1) m b
 simp_all only [bc,e1,e2,AZ,AQ,DG,beq_self_eq_true,a1k,a3x,a30,a06,a31,a0K,a2d]
theorem qh {n:Nat}{t:T}(h:dp t<=n)(h2:dp t<=64):C (n+1) 95 [(.d,t)]=.ok ((.d,.non),[]):=by
 have h1:(lf .d t==Md.d&&(decide (dp t<=n)&&decide (dp t<=64)))=true:=by
  rw [pk,decide_eq_true h,decide_eq_true h2]; rfl
 exact if_pos h1
theorem p30:oSem .pow false [(.d,.int 10),(.d,.int 30)]=some (.d,.int 1000000000000000000000000000000):=rfl
theorem td {n N:Nat}{t:T}(m:Md)(M:Nat)(hM:M<=10)(ht:Tp N t)(hN:N+2 < 1000000000000000000) :
  ∃ md b t',¬ (0<=b/\b < (M:Int))/\b.natAbs < 10000000000000000000000000000000/\Tp (N+2) t'/\C (n+3) 316 [(.d,t),(m,.int M)]=.ok ((md,.int b),[(.d,t')]):=by
 rw [gb]
 obtain ⟨r,t1,r0,r1,ht1,e1⟩:=cf (n:=n) .d 5 ht (by omega) (by decide) (by decide)
 rw [x_run _ _ _ rfl]
 simp_all only [aZ,e1]
 cases h1:r==0 with
 | true =>
  obtain ⟨r2,t2,_,_,ht2,e2⟩:=cf (n:=n) .d 3 ht1 (by omega) (by decide) (by decide)
  simp_all only [h1,e2]
  exact ⟨_,_,_,by omega,by omega,tm ht2 (by omega),rfl⟩
 | false =>
  cases h2:r==1 with
  | true =>
   simp_all only [h1,h2]
   exact ⟨_,_,_,by omega,by omega,tm ht1 (by omega),rfl⟩
  | false =>
   cases h3:r==2 with
   | true =>
    obtain ⟨r2,t2,_,_,ht2,e2⟩:=cf (n:=n) .d 200 ht1 (by omega) (by decide) (by decide)
    simp_all only [h1,h2,h3,e2]
    exact ⟨_,_,_,by omega,by omega,tm ht2 (by omega),rfl⟩
   | false =>
    obtain ⟨r2,t2,_,_,ht2,e2⟩:=cf (n:=n) .d 99 ht1 (by omega) (by decide) (by decide)
    have g0:r≠0:=by simpa using h1
    have g1:r≠1:=by simpa using h2
    have g2:r≠2:=by simpa using h3
    have b2:decide ((2:Int).natAbs < 18446744073709551616)=true:=rfl
    have b1:decide ((1-2 * (r-3)).natAbs < 18446744073709551616)=true:=decide_eq_true (by omega)
    simp_all only [h1,h2,h3,e2,p30,b2,b1,a2d,a0K]
    exact ⟨_,_,_,by rcases (show r=3\/r=4 by omega) with rfl | rfl<;>omega,by rcases (show r=3\/r=4 by omega) with rfl | rfl<;>omega,tm ht2 (by omega),rfl⟩
theorem fh (ts:List T):aE ts (a0q ts.length)=ts:=by
 refine a3w fun i=>?_
 rw [aE,a0t]
 by_cases h:i < ts.length
 ·rw [a1U h,a0i h,a3L,a0j,a0i h]
  rfl
 ·rw [a09 (by simpa using h),a09 (by omega)]
  rfl
theorem right (k:Kd)(n:Nat)(ts:List T)(is:List Nat)(m1 m2 m3:Md)(hk:k.deep<=8)(hn:k.deep+8<=n)(h:∀ t∈ts,OfK k t)(hi:∀ i∈is,i < ts.length)(hs:szs ts<=LIM)(hs2:szs (aE ts is)<=LIM):C (n+1) 317 [(m1,k.th),(m2,.lst ts),(m3,.lst (ae is))]=.ok ((.d,.bl true),[]):=by
 rw [iR,x_run _ _ _ rfl]
 obtain ⟨i1,h1⟩:∃ i,n=i+k.deep+1:=⟨n-k.deep-1,by omega⟩
 obtain ⟨i2,h2⟩:∃ i,n=i+k.deep+2:=⟨n-k.deep-2,by omega⟩
 obtain ⟨i3,h3⟩:∃ i,n=i+(k.deep+2)+1:=⟨n-k.deep-3,by omega⟩
 obtain ⟨i4,h4⟩:∃ i,n=i+1:=⟨n-1,by omega⟩
 have hl:=fy ts
 have e1:=fun m1 m=>flat k i1 ts m1 m h hs
 rw [<- h1] at e1
 have e2:=fun m1 m m2=>kn k i2 ts is m1 m m2 h hi hs hs2
 rw [<- h2] at e2
 have e3:=fun m1 m m2=>kn k i2 ts (a0q ts.length) m1 m m2 h (fun i z=>a2a.mp z) hs (by rw [fh]; exact hs)
 rw [<- h2,fh] at e3
 have hT:=dt (p:=OfK k) h hi
 have e4:=fun m1 m L=>lC k i1 (aE ts is) m1 m L hT
 rw [<- h1] at e4
 have e5:=fun m m'=>l8 i3 (k.deep+2) (.lst (aE ts is)) m m' (fun u hu=>of_PT k u (hT u hu))
 rw [<- h3] at e5
 have e6:=fun m m'=>l8 i3 (k.deep+2) (au k ts) m m' (ey k ts h)
 rw [<- h3] at e6
 have s1:C n 95 [(.d,au k (aE ts is))]=.ok ((.d,.non),[]):=by
  have:=eI k (aE ts is) hT
  rw [h4]
  exact qh (by omega) (by omega)
 have s2:C n 95 [(.d,au k ts)]=.ok ((.d,.non),[]):=by
  have:=eI k ts h
  rw [h4]
  exact qh (by omega) (by omega)
 have c1:=eQ (F:=C n) hi [none,some (.s,.lst ts),some (.s,.lst (ae is)),none,none,none,none,none] 7 1 (fun _=>rfl) (fun _=>rfl) (fun _=>rfl)
 have rg:∀ (h:Bool) (m m':Md),oSem .rng h [(m,.int 0),(m',.int ((ts.length:Nat):Int))]=some (.d,.lst (ae (a0q ts.length))):=fun h m m'=>by
  have:=j2 h m m' 0 ts.length (by omega)
  simp only [Int.natCast_zero,Int.zero_add,a23,List.map_id'] at this
  exact this
 simp_all only [aU,e1,e2,c1,aS (fun _=>Md.s),show (is.map fun x=>ts.getD x T.non)=aE ts is from rfl,e4,e5,s1,e6,rg,e3,s2]
theorem oE {α:Type}(l:List α)(k:Nat)(h:k<=l.length):cut l (some (k:Int)) none=l.drop k:=by
 have e:sIx l.length 0 (some (k:Int))=k:=by
  show (if (k:Int) < 0 then ((k:Int)+(l.length:Int)).toNat else min (k:Int).toNat l.length)=k
  rw [if_neg (by omega)]; omega
 have e2:sIx l.length l.length none=l.length:=rfl
 rw [cut,e,e2]
 exact a1f (by rw [a1e]; omega)
theorem jE {M:Nat}{w:Int->Option W}{md:Md}(w0:∀ x,0<=x/\x < (M:Int)->w x=none)(w1:∀ x,¬ (0<=x/\x < (M:Int))->w x=some (md,.int x)):∀ (l:List Int),(∃ x∈l,¬ (0<=x/\x < (M:Int))) ->
  ∃ (is:List Nat) (b:Int) (rest:List T) (rr:List W),(∀ i∈is,i < M)/\¬ (0<=b/\b < (M:Int))/\b∈l/\l.map T.int=ae is++T.int b::rest/\l.filterMap w=(md,.int b)::rr
 | [],h=>by obtain ⟨x,h,_⟩:=h; cases h
 | x::l,h=>by
  by_cases hx:0<=x/\x < (M:Int)
  ·obtain ⟨y,hy,hn⟩:=h
   have hy':y∈l:=(a0n.mp hy).elim (fun e=>absurd (e ▸ hx) hn) id
   obtain ⟨is,b,rest,rr,h1,h2,h3,h4,h5⟩:=jE w0 w1 l ⟨y,hy',hn⟩
   refine ⟨x.toNat::is,b,rest,rr,?_,h2,a0c _ h3,?_,?_⟩
   ·intro i hi
    rcases a0n.mp hi with e | e
    ·omega
    ·exact h1 i e
   ·rw [a0A,h4,ae,ae,a0A,a2T]
    show T.int x::_=T.int ((x.toNat:Nat):Int)::_
    rw [a2n hx.1]
   ·rw [a0L,w0 x hx]
    exact h5
  ·exact ⟨[],x,l.map T.int,l.filterMap w,(fun _ h=>nomatch h),hx,a0k,rfl,by rw [a0L,w1 x hx]⟩
theorem yb {b:Int}(h:b.natAbs < 10000000000000000000000000000000):b.natAbs.log2 < 1920:=by
 by_cases h0:b.natAbs=0
 ·rw [h0]; decide
 ·exact (Nat.log2_lt h0).mpr (a24 h (by decide +kernel))
theorem vc (l:List Int):dp (.lst (l.map T.int))<=64:=by
 have:=gI (n:=1) (ts:=l.map T.int) fun u hu=>by
  obtain ⟨i,_,rfl⟩:=a08.mp hu
  exact a0O _
 show dps _+1<=64
 omega
theorem ir:∀ l:List Int,eqTs (l.map T.int) (l.map T.int)=true
 | []=>rfl
 | x::l=>by show (x==x&&eqTs (l.map T.int) (l.map T.int))=true; rw [beq_self_eq_true,ir l]; rfl
theorem vt (h:Bool)(m n:Md)(l:List Int):oSem .ne h [(m,.lst (l.map T.int)),(n,.lst (l.map T.int))]=some (.d,.bl false):=by
 have hd:=vc l
 show (if decide (dp (.lst (l.map T.int))<=64)&&decide (dp (.lst (l.map T.int))<=64) then some (Md.d,T.bl (!eqT (.lst (l.map T.int)) (.lst (l.map T.int)))) else none)=_
 rw [decide_eq_true hd]
 show some (Md.d,T.bl (!eqTs (l.map T.int) (l.map T.int)))=_
 rw [ir]; rfl
theorem nr {M N:Nat}{t:T}(hM:M<=5)(o0 o2 o3 o7 o8 o9 o10 o11 o12 o13:Option W):∀ (j:Nat),Tp N t->N+j < 1000000000000000000->j<=20->∀ o6,∃ (t':T) (is:List Nat) (o6':Option W),Tp (N+j) t'/\(∀ i∈is,0 < M->i < M)/\is.length=j /\
  cG [6] (evSs (C 39) [.app (.l []) 5 (.op .mod false [.call 20 [.io 1,.op .add false [.var 4,.cst (.int 1)]],.op .max false [.cst (.int 1),.var 4]])]) ((a0q j).map fun (k:Nat)=>[((.d,.int k):W)]) [o0,some (.d,t),o2,o3,some (.d,.int (M:Nat)),some (.o .s,.lst []),o6,o7,o8,o9,o10,o11,o12,o13] =
   .nx [o0,some (.d,t'),o2,o3,some (.d,.int (M:Nat)),some (.o .s,.lst (ae is)),o6',o7,o8,o9,o10,o11,o12,o13]:=by
 intro j ht hN hj o6
 obtain ⟨η',e,t',is,o6',he,ht',h1,h2⟩:=gn (tg:=[6]) (f:=evSs (C 39) [.app (.l []) 5 (.op .mod false [.call 20 [.io 1,.op .add false [.var 4,.cst (.int 1)]],.op .max false [.cst (.int 1),.var 4]])]) (g:=fun (k:Nat)=>[((.d,.int k):W)])
  (fun p η=>∃ (t':T) (is:List Nat) (o6':Option W),η=[o0,some (.d,t'),o2,o3,some (.d,.int (M:Nat)),some (.o .s,.lst (ae is)),o6',o7,o8,o9,o10,o11,o12,o13]/\Tp (N+p.length) t'/\(∀ i∈is,0 < M->i < M)/\is.length=p.length)
  (a0q j) [] [o0,some (.d,t),o2,o3,some (.d,.int (M:Nat)),some (.o .s,.lst []),o6,o7,o8,o9,o10,o11,o12,o13] ⟨t,[],o6,rfl,ht,(fun _ h=>nomatch h),rfl⟩ (fun p x r η e ⟨t',is,o6',he,ht',h1,h2⟩=>by
   subst he
   have pl:p.length < j:=by
    have:=congrArg a2J e
    rw [a1o,a0W,a0e,a0g] at this
    omega
   obtain ⟨d,t2,d0,d1,ht2,e1⟩:=cf (n:=37) .d ((M:Int)+1) ht' (by omega) (by omega) (by omega)
   obtain ⟨i,hi⟩:∃ i:Nat,d % (if (M:Int) > 1 then (M:Int) else 1)=(i:Int):=⟨(d % (if (M:Int) > 1 then (M:Int) else 1)).toNat,(a2n (a2m _ (by split<;>omega))).symm⟩
   have hp:decide (0 < (if (M:Int) > 1 then (M:Int) else 1))=true:=decide_eq_true (by split<;>omega)
   have hi2:0 < M->i < M:=fun h0=>by
    have:=a17 d (show 0 < (if (M:Int) > 1 then (M:Int) else 1) by split<;>omega)
    rw [hi] at this
    split at this<;>omega
   have hle:(ae is).length < LIM:=by rw [eh]; have:LIM=16777215:=rfl; omega
   refine ⟨_,_,rfl,?_,t2,is++[i],some (.d,.int x),rfl,tm ht2 (by rw [a0e,a0H]; omega),?_,by rw [a0e,a0e,h2]; rfl⟩
   ·have hn:ae (is++[i])=ae is++[T.int (i:Int)]:=by rw [ae,a1z]; rfl
    simp_all only [e1,hp,hi,if_pos hle,hn]
   ·intro z hz h0
    rcases a0T.mp hz with z1 | z1
    ·exact h1 z z1 h0
    ·rw [a0C.mp z1]; exact hi2 h0)
 subst he
 rw [a1o,a0W] at ht' h2
 exact ⟨t',is,o6',ht',h1,h2,e⟩
theorem rq {M N:Nat}{t:T}{l0:List Int}(hM:M<=5)(hl0:l0.length<=10)(hs0:∀ x∈l0,x.natAbs < 10000000000000000000000000000000)(m7:Md)(o0 o2 o3 o5 o9 o10 o11 o12 o13:Option W):∀ (j:Nat),Tp N t->N+3 * j < 1000000000000000000->j<=20->∀ o6 o8,∃ (t':T) (l:List Int) (m7':Md) (o6' o8':Option W),Tp (N+3 * j) t'/\(0 < j->∃ x∈l,¬ (0<=x/\x < (M:Int)))/\(∀ x∈l,x.natAbs < 10000000000000000000000000000000) /\
  cG [6] (evSs (C 39) [.asg (.l [7]) 8 (.call 20 [.io 1,.op .add false [.op .len false [.var 7],.cst (.int 1)]]),
   .asg (.l [7]) 7 (.op .add false [.op .add false [.op .sl2 false [.var 7,.var 8],.lst false [.call 316 [.io 1,.var 4]]],.op .sl1 false [.var 7,.var 8]])]) ((a0q j).map fun (k:Nat)=>[((.d,.int k):W)]) [o0,some (.d,t),o2,o3,some (.d,.int (M:Nat)),o5,o6,some (m7,.lst (l0.map T.int)),o8,o9,o10,o11,o12,o13] =
   .nx [o0,some (.d,t'),o2,o3,some (.d,.int (M:Nat)),o5,o6',some (m7',.lst (l.map T.int)),o8',o9,o10,o11,o12,o13]:=by
 intro j ht hN hj o6 o8
 obtain ⟨η',e,t',l,m7',o6',o8',he,ht',h1,h2,h3⟩:=gn (tg:=[6]) (f:=evSs (C 39) [.asg (.l [7]) 8 (.call 20 [.io 1,.op .add false [.op .len false [.var 7],.cst (.int 1)]]),
   .asg (.l [7]) 7 (.op .add false [.op .add false [.op .sl2 false [.var 7,.var 8],.lst false [.call 316 [.io 1,.var 4]]],.op .sl1 false [.var 7,.var 8]])]) (g:=fun (k:Nat)=>[((.d,.int k):W)])
  (fun p η=>∃ (t':T) (l:List Int) (m7':Md) (o6' o8':Option W),η=[o0,some (.d,t'),o2,o3,some (.d,.int (M:Nat)),o5,o6',some (m7',.lst (l.map T.int)),o8',o9,o10,o11,o12,o13]/\Tp (N+3 * p.length) t'/\(0 < p.length->∃ x∈l,¬ (0<=x/\x < (M:Int)))/\(∀ x∈l,x.natAbs < 10000000000000000000000000000000)/\l.length<=10+p.length)
  (a0q j) [] _ ⟨t,l0,m7,o6,o8,rfl,ht,(fun h=>absurd h (by simp)),hs0,hl0⟩ (fun p x r η e ⟨t',l,m7',o6',o8',he,ht',h1,h2,h3⟩=>by
   subst he
   have pl:p.length < j:=by
    have:=congrArg a2J e
    rw [a1o,a0W,a0e,a0g] at this
    omega
   obtain ⟨d,t2,d0,d1,ht2,e1⟩:=cf (n:=37) .d ((l.length:Int)+1) ht' (by omega) (by omega) (by omega)
   obtain ⟨a,rfl⟩:∃ a:Nat,d=(a:Int):=⟨d.toNat,by omega⟩
   obtain ⟨md,b,t3,hb1,hb2,ht3,e2⟩:=td (n:=36) .d M (by omega) ht2 (by omega)
   have hL:LIM=16777215:=rfl
   have f1:fits (((l.map T.int).take a).length+[T.int b].length)=true:=decide_eq_true (by rw [a02,a0b,a0H]; omega)
   have f2:fits (((l.map T.int).take a++[T.int b]).length+((l.map T.int).drop a).length)=true:=decide_eq_true (by rw [a0e,a02,a1e,a0b,a0H]; omega)
   have c2:cut (l.map T.int) (some (a:Int)) none=(l.map T.int).drop a:=oE _ _ (by rw [a0b]; omega)
   refine ⟨_,_,rfl,?_,t3,l.take a++[b]++l.drop a,.o .s,some (.d,.int x),some (.d,.int a),rfl,tm ht3 (by rw [a0e,a0H]; omega),fun _=>⟨b,by simp,hb1⟩,?_,by rw [a0e,a0e,a02,a1e,a0e,a0H,a0H]; omega⟩
   ·simp_all only [e1,a0b,pq,e2,if_pos f1,c2,if_pos f2,a1z,a3q,a3W,a0A,a1B]
   ·intro z hz
    rcases a0T.mp hz with z1 | z1
    ·rcases a0T.mp z1 with z2 | z2
     ·exact h2 z (List.mem_of_mem_take z2)
     ·rw [a0C.mp z2]; exact hb2
    ·exact h2 z (a3b z1))
 subst he
 rw [a1o,a0W] at ht' h1
 exact ⟨t',l,m7',o6',o8',ht',h1,h2,e⟩
theorem lJ (C:Call):∀ (a b:List S) (η:Env),evSs C (a++b) η=(evSs C a η).seq (evSs C b)
 | [],b,η=>rfl
 | s::a,b,η=>by
  show (evS C s η).seq (evSs C (a++b))=((evS C s η).seq (evSs C a)).seq (evSs C b)
  cases evS C s η<;>first | rfl | exact lJ C a b _
theorem go1 {C:Call}{a b:List S}{η η':Env}(h:evSs C a η=.nx η'):evSs C (a++b) η=evSs C b η':=by rw [lJ,h]; rfl
noncomputable abbrev Wk (i j:Nat):List S:=(f_law.body.drop i).take j
theorem pure_law (ns:List Int):∃ m bs,C 40 0 [(.d,.scr ns)]=.ok ((m,.bl true),bs):=by
 rw [show C 40 0 [(.d,.scr ns)]=runF (C 39) f_law [(.d,.scr ns)] from rfl,x_run _ _ _ rfl]
 have ht0:Tp 0 (tape (cut ns none (some 63)) 0 0 0):=⟨_,0,0,0,rfl,a0d _⟩
 obtain ⟨r,t1,r0,r1,ht1,e1⟩:=cf (n:=37) .d 5 ht0 (by decide) (by decide) (by decide)
 obtain ⟨l,hl⟩:∃ l:Nat,1+r=(l:Int):=⟨(1+r).toNat,by omega⟩
 have hl5:l<=5:=by omega
 have kbl:kb l<=63:=by
  have:l=0\/l=1\/l=2\/l=3\/l=4\/l=5:=by omega
  rcases this with rfl | rfl | rfl | rfl | rfl | rfl<;>decide
 obtain ⟨md,k,t2,hkd,ht2,e2⟩:=kind (37-l) l ht1 (by omega) (by omega)
 rw [show 37-l+l+2=39 by omega] at e2
 obtain ⟨r2,t3,r20,r21,ht3,e3⟩:=cf (n:=37) .d 6 ht2 (by omega) (by decide) (by decide)
 have hk:k.deep<=4:=by omega
 have hB:B k.deep<=8121:=a0o (iY hk) (by decide)
 have hD:D k.deep<=100000:=a0o (iL hk) (by decide)
 obtain ⟨b1,b2⟩:=lj (mm:=r2) (by omega) (by omega)
 obtain ⟨os,t4,h1,h2,h3,h4⟩:=ia (s:=12) (g:=fun (k:Nat)=>((.d,.int k):W)) (f:=cD (evE (C 39) (.call 23 [.io 1,.var 2,.cst (.bl true)]))) (fun t=>[some (.d,.scr ns),some (.d,t),some (.s,k.th),none,none,none,none,none,none,none,none,none,none,none]) (fun t w=>[some (.d,.scr ns),some (.d,t),some (.s,k.th),none,none,none,none,none,none,none,none,none,some w,none]) (P:=fun o=>∃ w,o=some w/\OfK k w.2/\sz w.2<=B k.deep) (c:=D k.deep) (fun _ _=>rfl) (fun _ _=>rfl) (fun N t w ht hN=>by
   obtain ⟨md,v,t',q1,q2,q3,q4,q5⟩:=worth k (35-k.deep) true .s ht hN
   rw [show 35-k.deep+k.deep+4=39 by omega] at q5
   refine ⟨some (md,v),t',⟨_,rfl,q1,q2⟩,q4,?_⟩
   simp_all only [q5]) (a0q r2.toNat) _ t3 ht3 (by rw [a0W]; have:=a2C (show r2.toNat<=5 by omega) hD; omega)
 obtain ⟨ws,w1,w2,w3⟩:=wu h2
 rw [a0W] at h1 h3
 have h5:=h4 []
 rw [w1] at h5
 have hu0:Ok k 5 (aP ws):=Ap w3 (by omega)
 obtain ⟨ts,hts⟩:∃ ts,aP ws=ts:=⟨_,rfl⟩
 rw [hts] at hu0
 have ht4:Tp 600000 t4:=tm h3 (by have:=a2C (show r2.toNat<=5 by omega) hD; omega)
 have hLIM:LIM=16777215:=rfl
 have z1:szs ts<=LIM:=by have:=hu0.szs; have:=a2C (show 5<=5 by omega) hB; omega
 have hM:=hu0.2
 have fl:=fun m1 m=>flat k (38-k.deep) ts m1 m hu0.of z1
 rw [show 38-k.deep+k.deep+1=39 by omega] at fl
 have al:=fun m m'=>l8 (36-k.deep) (k.deep+2) (au k ts) m m' (ey k ts hu0.of)
 rw [show 36-k.deep+(k.deep+2)+1=39 by omega] at al
 obtain ⟨r3,t5,r30,r31,ht5,e5⟩:=cf (n:=37) .d 10 ht4 (by omega) (by decide) (by decide)
 obtain ⟨c1,c2⟩:=lj (mm:=r3) (by omega) (by omega)
 unfold tape at e1
 have H1:evSs (C 39) (Wk 0 5) ([some (.d,.scr ns)]++a0h 13 none)=.nx [some (.d,.scr ns),some (.d,t4),some (.s,k.th),some (.o .s,.lst ts),some (.d,.int (ts.length:Nat)),some (.o .s,.lst []),none,none,none,none,none,none,none,none]:=by
  simp_all only [Wk,f_law,a2o,a2p,j7,e1,hl,e2,e3,b1,b2,h5,hts]
 obtain ⟨t6,is0,o6,ht6,hi0,hj0,e6⟩:=nr (M:=ts.length) hM (some (.d,.scr ns)) (some (.s,k.th)) (some (.o .s,.lst ts)) none none none none none none none r3.toNat ht5 (by omega) (by omega) none
 have H2:evSs (C 39) (Wk 5 1) [some (.d,.scr ns),some (.d,t4),some (.s,k.th),some (.o .s,.lst ts),some (.d,.int (ts.length:Nat)),some (.o .s,.lst []),none,none,none,none,none,none,none,none]=.nx [some (.d,.scr ns),some (.d,t6),some (.s,k.th),some (.o .s,.lst ts),some (.d,.int (ts.length:Nat)),some (.o .s,.lst (ae is0)),o6,none,none,none,none,none,none,none]:=by
  simp_all only [Wk,f_law,a2o,a2p,e5,c1,c2,e6]
 obtain ⟨is,hi,hil,H3⟩:∃ is:List Nat,(∀ i∈is,i < ts.length)/\is.length<=10/\evSs (C 39) (Wk 6 1) [some (.d,.scr ns),some (.d,t6),some (.s,k.th),some (.o .s,.lst ts),some (.d,.int (ts.length:Nat)),some (.o .s,.lst (ae is0)),o6,none,none,none,none,none,none,none]=.nx [some (.d,.scr ns),some (.d,t6),some (.s,k.th),some (.o .s,.lst ts),some (.d,.int (ts.length:Nat)),some (.o .s,.lst (ae is)),o6,none,none,none,none,none,none,none]:=by
  cases h0:((ts.length:Int)==0) with
  | true =>
   refine ⟨[],(fun _ h=>nomatch h),by simp,?_⟩
   simp_all only [Wk,f_law,a2o,a2p,h0,ae,a1B]
  | false =>
   have h0':(ts.length:Int)≠0:=by simpa using h0
   refine ⟨is0,fun i hx=>hi0 i hx (by omega),by omega,?_⟩
   simp_all only [Wk,f_law,a2o,a2p,h0]
 have hok:∀ t∈aE ts is,OfK k t/\sz t<=B k.deep:=dt hu0.1 hi
 have z2:szs (aE ts is)<=LIM:=by
  have h1:=(show Ok k 10 (aE ts is) from ⟨hok,by rw [aE,a0b]; exact hil⟩).szs
  have:=a2C (show 10<=10 by omega) hB; omega
 have rt:=fun m1 m2 m3=>right k 38 ts is m1 m2 m3 (by omega) (by omega) hu0.of hi z1 z2
 have ni:ae is=(is.map fun i:Nat=>(i:Int)).map T.int:=by rw [ae,a0Y]; rfl
 have H4:evSs (C 39) (Wk 7 2) [some (.d,.scr ns),some (.d,t6),some (.s,k.th),some (.o .s,.lst ts),some (.d,.int (ts.length:Nat)),some (.o .s,.lst (ae is)),o6,none,none,none,none,none,none,none]=.nx [some (.d,.scr ns),some (.d,t6),some (.s,k.th),some (.o .s,.lst ts),some (.d,.int (ts.length:Nat)),some (.s,.lst (ae is)),o6,some (.o .s,.lst ((is.map fun i:Nat=>(i:Int)).map T.int)),none,none,none,none,none,none]:=by
  simp_all only [Wk,f_law,a2o,a2p,rt]
  rw [ni]
 obtain ⟨r4,t7,r40,r41,ht7,e7⟩:=cf (n:=37) .d 3 ht6 (by omega) (by decide) (by decide)
 obtain ⟨c3,c4⟩:=lj (mm:=1+r4) (by omega) (by omega)
 obtain ⟨t8,bad,m7,o6',o8,ht8,hb1,hb2,e8⟩:=rq (M:=ts.length) (l0:=is.map fun i:Nat=>(i:Int)) hM (by rw [a0b]; exact hil) (fun x hx=>by obtain ⟨i,h1,rfl⟩:=a08.mp hx; have:=hi i h1; omega) (.o .s) (some (.d,.scr ns)) (some (.s,k.th)) (some (.o .s,.lst ts)) (some (.s,.lst (ae is))) none none none none none (1+r4).toNat ht7 (by omega) (by omega) o6 none
 have H5:evSs (C 39) (Wk 9 1) [some (.d,.scr ns),some (.d,t6),some (.s,k.th),some (.o .s,.lst ts),some (.d,.int (ts.length:Nat)),some (.s,.lst (ae is)),o6,some (.o .s,.lst ((is.map fun i:Nat=>(i:Int)).map T.int)),none,none,none,none,none,none]=.nx [some (.d,.scr ns),some (.d,t8),some (.s,k.th),some (.o .s,.lst ts),some (.d,.int (ts.length:Nat)),some (.s,.lst (ae is)),o6',some (m7,.lst (bad.map T.int)),o8,none,none,none,none,none]:=by
  simp_all only [Wk,f_law,a2o,a2p,e7,c3,c4,e8]
 obtain ⟨js,b,rest,rr,g1,g2,g3,g4,g5⟩:=jE (M:=ts.length) (w:=fun x=>if decide (0<=x)&&decide (x < (ts.length:Int)) then none else some (Md.s,.int x)) (md:=.s) (fun x ⟨h1,h2⟩=>by rw [decide_eq_true h1,decide_eq_true h2]; rfl) (fun x h=>by
  by_cases h1:0<=x
  ·rw [decide_eq_true h1,decide_eq_false (fun z=>h ⟨h1,z⟩)]; rfl
  ·rw [decide_eq_false h1]; rfl) bad (hb1 (by omega))
 have cp:aJ [13] (fO (evE (C 39) (.not (.chain .le .lt (.cst (.int 0)) (.var 13) (.var 4)))) (evE (C 39) (.var 13))) ((bad.map T.int).map fun t=>[((.s,t):W)]) [none,none,none,none,some (.d,.int (ts.length:Nat)),none,none,some (.s,.lst (bad.map T.int)),none,none,none,none,none,none] []=.ok ([]++((Md.s,T.int b)::rr),[none,none,none,none,some (.d,.int (ts.length:Nat)),none,none,some (.s,.lst (bad.map T.int)),none,none,none,none,none,none]):=by
  rw [a0Y,<- g5]
  refine ij (fun x=>if decide (0<=x)&&decide (x < (ts.length:Int)) then none else some (Md.s,T.int x)) bad [] fun x hx=>⟨_,[none,none,none,none,some (.d,.int (ts.length:Nat)),none,none,some (.s,.lst (bad.map T.int)),none,none,none,none,none,some (.s,.int x)],rfl,?_,rfl⟩
  cases h1:decide (0<=x) with
  | true =>
   cases h2:decide (x < (ts.length:Int)) with
   | true =>
    simp_all only [h1,h2]
   | false =>
    simp_all only [h1,h2]
  | false =>
   simp_all only [h1,a3M]
 have H6:evSs (C 39) (Wk 10 3) [some (.d,.scr ns),some (.d,t8),some (.s,k.th),some (.o .s,.lst ts),some (.d,.int (ts.length:Nat)),some (.s,.lst (ae is)),o6',some (m7,.lst (bad.map T.int)),o8,none,none,none,none,none]=.nx [some (.d,.scr ns),some (.d,t8),some (.s,k.th),some (.o .s,.lst ts),some (.d,.int (ts.length:Nat)),some (.s,.lst (ae is)),o6',some (.s,.lst (bad.map T.int)),o8,some (.d,.int b),some (.d,au k ts),some (.o .s,.lst (bad.map T.int)),none,none]:=by
  simp_all only [Wk,f_law,a2o,a2p,cp,fl]
 have rf:=fun m1 m m2=>kA k (36-k.deep) ts js b rest m1 m m2 g1 g2 (yb (hb2 b g3))
 rw [show 36-k.deep+k.deep+3=39 by omega,<- g4] at rf
 have ab:∀ m m',C 39 24 [(m,.int b),(m',.int b)]=.ok ((.d,.bl true),[]):=fun m m'=>l8 38 0 (.int b) m m' trivial
 rw [show f_law.body=Wk 0 5++(Wk 5 1++(Wk 6 1++(Wk 7 2++(Wk 9 1++(Wk 10 3++Wk 13 3))))) from rfl]
 rw [show (a3Z some [((.d,.scr ns):W)]++a0h f_law.ns none)=[some (.d,.scr ns)]++a0h 13 none from rfl]
 rw [go1 H1,go1 H2,go1 H3,go1 H4,go1 H5,go1 H6]
 refine ⟨.d,[],?_⟩
 simp_all only [Wk,f_law,a2o,a2p,rf,ab,vt,fl,al,rt]
end
end P34

namespace A34
open PySem PySem.Spec PyProof.Rows L2 L3 MR
noncomputable def top (i:Nat):Stmt:=PySem.Challenge.pw_broadrow_k34_taken_by_numbers.main.body.getD i (.Pass ⟨0,0,0,0⟩)
noncomputable abbrev s1:Stmt:=top 9
noncomputable abbrev s6:Stmt:=top 11
noncomputable abbrev s7:Stmt:=top 12
noncomputable abbrev s11:Stmt:=top 13
noncomputable abbrev mN:Stmt:=top 15
noncomputable abbrev s13:Stmt:=top 16
noncomputable abbrev s14:Stmt:=top 17
noncomputable abbrev s20:Stmt:=top 19
noncomputable abbrev s21:Stmt:=top 20
noncomputable abbrev s22:Stmt:=top 21
noncomputable abbrev s23:Stmt:=top 22
noncomputable abbrev s24:Stmt:=top 23
noncomputable abbrev rO:Stmt:=top 24
noncomputable abbrev oO:Stmt:=top 25
noncomputable abbrev pX:Stmt:=top 26
noncomputable abbrev s95:Stmt:=top 27
noncomputable abbrev nF:Stmt:=top 28
noncomputable abbrev s0:Stmt:=top 29
structure Glb (K:a0a)(w:World)(mg:Str->Option Value):Prop where
 mk ::
structure Xs (P:Program)(w:World)(K:a0a)(mg:Str->Option Value)(base:Heap):Prop where
 b_BroadError:XBs K mg "BroadError" bT [bY,bX,bE,aH,cc,b0]
 f_number:∀ c:Nat,XF K c->a0D K (.ref c) "number"=some none
 i_NoKind:XIs K mg "NoKind" (.ref bX) [bX]
 i_NoLine:XIs K mg "NoLine" (.ref b0) [b0]
 i_NoPlace:XIs K mg "NoPlace" (.ref bE) [bE]
 i_NoRule:XIs K mg "NoRule" (.ref cc) [cc]
 i_NoText:XIs K mg "NoText" (.ref bY) [bY]
 i_NoThing:XIs K mg "NoThing" (.ref aH) [aH]
 i_ValueError:XIs K mg "ValueError" (.type "ValueError") [bY,bX,bE,aH,cc,b0,bT]
 m_ValueError:mg "ValueError"=none
 r_NoThing:XCl P w K mg base "NoThing" aH bT "number"
structure Calls (P:Program)(w:World)(K:a0a)(mg:Str->Option Value)(base:Heap)(n:Nat)(C:M.Call):Prop where
 c1:ai P w K mg base n C "in_rows" 1 []
 c6:ai P w K mg base n C "flat_of" 6 []
 c7:ai P w K mg base n C "worths_of" 7 []
 c11:ai P w K mg base n C "many_in" 11 []
 c313:ai P w K mg base n C "taken" 313 []
 x313:dF P w K mg base n C "taken" 313
 c13:ai P w K mg base n C "taken_there" 13 []
 c14:ai P w K mg base n C "things_of" 14 []
 c20:ai P w K mg base n C "_law_draw" 20 [0]
 c21:ai P w K mg base n C "_law_number" 21 [0]
 c22:ai P w K mg base n C "_law_kind" 22 [0]
 c23:ai P w K mg base n C "_law_worth" 23 [0]
 d23:cR P w K mg base n C "_law_worth" 23 [0] (.bl true)
 c24:ai P w K mg base n C "_law_alike" 24 []
 c314:ai P w K mg base n C "_law_other" 314 []
 c318:ai P w K mg base n C "_law_refused" 318 []
 c316:ai P w K mg base n C "_law_strange" 316 [0]
 c95:ai P w K mg base n C "_law_spoil" 95 []
 c317:ai P w K mg base n C "_law_right" 317 []
 x317:dF P w K mg base n C "_law_right" 317
noncomputable abbrev DD (x:Str)(st:Stmt)(N:List Str)(fn:M.Fn):Prop:=∀ {P:Program} {w:World} {K:a0a} {mg:Str->Option Value} {base:Heap} {n:Nat} {C:M.Call} {f:Addr} {cdv:Value} {A:Around} {outer:List Env} {s:Shared} {H:Hp} {E:XK},Xs P w K mg base->Calls P w K mg base (n+2) C->Txt mg->Glb K w mg->Room (n+2) (A.deeper (envOfC x (defScope st) s.heap.objs.size f cdv))->SSs (cZ CX0 P w K mg base N x (defScope st) f cdv A outer s H E).nox (slN N.length) fn.io C (defBody st) fn.body
noncomputable abbrev DX (x:Str)(st:Stmt)(N:List Str)(fn:M.Fn):Prop:=∀ {P:Program} {w:World} {K:a0a} {mg:Str->Option Value} {base:Heap} {n:Nat} {C:M.Call} {f:Addr} {cdv:Value} {A:Around} {outer:List Env} {s:Shared} {H:Hp} {E:XK},Xs P w K mg base->Calls P w K mg base (n+2) C->Txt mg->Glb K w mg->Room (n+2) (A.deeper (envOfC x (defScope st) s.heap.objs.size f cdv))->SSs (cZ (CX1 P w) P w K mg base N x (defScope st) f cdv A outer s H E) (slN N.length) [] C (defBody st) fn.body
theorem S6:ao ["kind","worths","things","worth"] ["kind","worths"] (defScope s6):=fsc
theorem D6:DD "flat_of" s6 ["kind","worths","things","worth"] bo:=fun {_ _ _ _ _ _ _ _ _ _ _ s _ _} xs cs T G hr =>
 have S:=S6
 (@ssc _ _ _ _ _ _ _ _ (@zIf _ _ _ _ _ _ _ _ _ _ _ _ (cP hr (@az _ _ _ _ _ _ _ _ _ (sV 0) sI (by intro _ _; rfl)) sS) (@ss1 _ _ _ _ _ _ (@aG _ _ _ _ _ _ _ _ (@sTx _ _ _ _ _ _ _ (by decide) (@slx _ _ _ _ _ _ _ (ah cs.c6 hr (@af _ _ _ _ _ _ _ (@az _ _ _ _ _ _ _ _ _ (sV 0) sI (by intro _ _; rfl)) (@af _ _ _ _ _ _ _ (sC1 [] [] [] [] (eU (sV 1)) (fun _ _ _ _=>(@az _ _ _ _ _ _ _ _ _ (sV 0) sI (by intro _ _; rfl))) csc .nil .nil) sa0 (by intro _ z; cases z) (by rfl)) (by intro _ z; cases z) (by rfl))) (@slx _ _ _ _ _ _ _ (ah cs.c6 hr (@af _ _ _ _ _ _ _ (@az _ _ _ _ _ _ _ _ _ (sV 0) sI (by intro _ _; rfl)) (@af _ _ _ _ _ _ _ (sC1 [] [] [] [] (eU (sV 1)) (fun _ _ _ _=>(@az _ _ _ _ _ _ _ _ _ (sV 0) sI (by intro _ _; rfl))) csc .nil .nil) sa0 (by intro _ z; cases z) (by rfl)) (by intro _ z; cases z) (by rfl))) sl0 (by rfl)) (by rfl))))) ss0)
    (@ssc _ _ _ _ _ _ _ _ (@zIf _ _ _ _ _ _ _ _ _ _ _ _ (cP hr (@az _ _ _ _ _ _ _ _ _ (sV 0) sI (by intro _ _; rfl)) sS) (@ssc _ _ _ _ _ _ _ _ (@aO _ _ _ _ _ _ _ 2 _ _ _ _ S.nd (@sLx _ _ _ _ _ _ _ (by decide) sl0) (by decide) (by rfl) (by rfl) (by first | exact a0F rfl | exact a0B rfl) (by rfl) (by first | exact .inl rfl | exact .inr rfl))
     (@ssc _ _ _ _ _ _ _ _ (jZ 3 S.nd (eU (sV 1)) (@ss1 _ _ _ _ _ _ (Cp 2 (sV 3))))
     (@ss1 _ _ _ _ _ _ (@aG _ _ _ _ _ _ _ _ (@sTx _ _ _ _ _ _ _ (by decide) (@slx _ _ _ _ _ _ _ (sC1 [] [] [] [] (eU (sM 1)) (fun _ _ _ _=>(dN (hm:=T.len) (ha:=(sV 0)))) csc .nil .nil) (@slx _ _ _ _ _ _ _ (ah cs.c6 hr (@af _ _ _ _ _ _ _ (@az _ _ _ _ _ _ _ _ _ (sM 0) sI (by intro _ _; rfl)) (@af _ _ _ _ _ _ _ (sM 2) sa0 (by intro _ z; cases z) (by rfl)) (by intro _ z; cases z) (by rfl))) sl0 (by rfl)) (by rfl))))))) ss0)
    (@ss1 _ _ _ _ _ _ (@aG _ _ _ _ _ _ _ _ (fU (hm:=T.list) (ha:=(sM 1)))))))
theorem S7:ao ["kind","flat","many"] ["kind","flat","many"] (defScope s7):=fsc
theorem D7:DD "worths_of" s7 ["kind","flat","many"] aR:=fun {_ _ _ _ _ _ _ _ _ _ _ s _ _} xs cs T G hr =>
 have S:=S7
 (@ssc _ _ _ _ _ _ _ _ (@zIf _ _ _ _ _ _ _ _ _ _ _ _ (cP hr (@az _ _ _ _ _ _ _ _ _ (sV 0) sI (by intro _ _; rfl)) sS) (@ss1 _ _ _ _ _ _ (@aG _ _ _ _ _ _ _ _ (sLZ T.list T.zip (ah cs.c7 hr (@af _ _ _ _ _ _ _ (@az _ _ _ _ _ _ _ _ _ (sV 0) sI (by intro _ _; rfl)) (@af _ _ _ _ _ _ _ (@az _ _ _ _ _ _ _ _ _ (sV 1) sI (by intro _ _; rfl)) (@af _ _ _ _ _ _ _ (sV 2) sa0 (by intro _ z; cases z) (by rfl)) (by intro _ z; cases z) (by rfl)) (by intro _ z; cases z) (by rfl))) (ah cs.c7 hr (@af _ _ _ _ _ _ _ (@az _ _ _ _ _ _ _ _ _ (sV 0) sI (by intro _ _; rfl)) (@af _ _ _ _ _ _ _ (@az _ _ _ _ _ _ _ _ _ (sV 1) sI (by intro _ _; rfl)) (@af _ _ _ _ _ _ _ (sV 2) sa0 (by intro _ z; cases z) (by rfl)) (by intro _ z; cases z) (by rfl)) (by intro _ z; cases z) (by rfl)))))) ss0)
    (@ssc _ _ _ _ _ _ _ _ (@zIf _ _ _ _ _ _ _ _ _ _ _ _ (cP hr (@az _ _ _ _ _ _ _ _ _ (sV 0) sI (by intro _ _; rfl)) sS) (@ss1 _ _ _ _ _ _ (@aG _ _ _ _ _ _ _ _ (ah cs.c1 hr (@af _ _ _ _ _ _ _ (@az _ _ _ _ _ _ _ _ _ (sV 1) sI (by intro _ _; rfl)) (@af _ _ _ _ _ _ _ (ah cs.c7 hr (@af _ _ _ _ _ _ _ (@az _ _ _ _ _ _ _ _ _ (sM 0) sI (by intro _ _; rfl)) (@af _ _ _ _ _ _ _ (@az _ _ _ _ _ _ _ _ _ (sV 1) sI (by intro _ _; rfl)) (@af _ _ _ _ _ _ _ (D2 (hm:=T.sum) (ha:=(@az _ _ _ _ _ _ _ _ _ (sV 1) sI (by intro _ _; rfl)))) sa0 (by intro _ z; cases z) (by rfl)) (by intro _ z; cases z) (by rfl)) (by intro _ z; cases z) (by rfl))) sa0 (by intro _ z; cases z) (by rfl)) (by intro _ z; cases z) (by rfl))))) ss0)
    (@ss1 _ _ _ _ _ _ (@aG _ _ _ _ _ _ _ _ (fU (hm:=T.list) (ha:=(sM 1)))))))
theorem S11:ao ["kind","flat"] ["kind","flat"] (defScope s11):=fsc
theorem D11:DD "many_in" s11 ["kind","flat"] bj:=fun {_ _ _ _ _ _ _ _ _ _ _ s _ _} xs cs T G hr =>
 have S:=S11
 (@ssc _ _ _ _ _ _ _ _ (@zIf _ _ _ _ _ _ _ _ _ _ _ _ (cP hr (@az _ _ _ _ _ _ _ _ _ (sV 0) sI (by intro _ _; rfl)) sS) (@ss1 _ _ _ _ _ _ (@aG _ _ _ _ _ _ _ _ (ah cs.c11 hr (@af _ _ _ _ _ _ _ (@az _ _ _ _ _ _ _ _ _ (sM 0) sI (by intro _ _; rfl)) (@af _ _ _ _ _ _ _ (@az _ _ _ _ _ _ _ _ _ (sM 1) sI (by intro _ _; rfl)) sa0 (by intro _ z; cases z) (by rfl)) (by intro _ z; cases z) (by rfl))))) ss0)
    (@ss1 _ _ _ _ _ _ (@aG _ _ _ _ _ _ _ _ (sIf (cP hr (@az _ _ _ _ _ _ _ _ _ (sM 0) sI (by intro _ _; rfl)) sS) (dN (hm:=T.len) (ha:=(@az _ _ _ _ _ _ _ _ _ (sV 1) sI (by intro _ _; rfl)))) (dN (hm:=T.len) (ha:=(sV 1)))))))
theorem uY:ao ["kind","flat","numbers","many","number"] ["kind","flat","numbers"] (defScope mN):=fsc
theorem Ea:DD "taken" mN ["kind","flat","numbers","many","number"] cw:=fun {_ _ _ _ _ _ _ _ _ _ _ s _ _} xs cs T G hr =>
 have S:=uY
 (@ssc _ _ _ _ _ _ _ _ (@aO _ _ _ _ _ _ _ 3 _ _ _ _ S.nd (ah cs.c11 hr (@af _ _ _ _ _ _ _ (sV 0) (@af _ _ _ _ _ _ _ (sV 1) sa0 (by intro _ z; cases z) (by rfl)) (by intro _ z; cases z) (by rfl))) (by decide) (by rfl) (by rfl) (by first | exact a0F rfl | exact a0B rfl) (by rfl) (by first | exact .inl rfl | exact .inr rfl))
    (@ssc _ _ _ _ _ _ _ _ (jZ 4 S.nd (eU (sV 2)) (@ss1 _ _ _ _ _ _ (@zIf _ _ _ _ _ _ _ _ _ _ _ _ (de (iD sI (sV 4) (sV 3))) (@ss1 _ _ _ _ _ _ (lU xs.r_NoThing hr (sV 4))) ss0)))
    (@ss1 _ _ _ _ _ _ (@aG _ _ _ _ _ _ _ _ (ah cs.c13 hr (@af _ _ _ _ _ _ _ (sM 0) (@af _ _ _ _ _ _ _ (sM 1) (@af _ _ _ _ _ _ _ (sM 2) sa0 (by intro _ z; cases z) (by rfl)) (by intro _ z; cases z) (by rfl)) (by intro _ z; cases z) (by rfl)))))))
theorem DZ:DX "taken" mN ["kind","flat","numbers","many","number"] cw:=fun {_ _ _ _ _ _ _ _ _ _ _ s _ _} xs cs T G hr =>
 have S:=uY
 (@ssc _ _ _ _ _ _ _ _ (@aO _ _ _ _ _ _ _ 3 _ _ _ _ S.nd (ah cs.c11 hr (@af _ _ _ _ _ _ _ (sV 0) (@af _ _ _ _ _ _ _ (sV 1) sa0 (by intro _ z; cases z) (by rfl)) (by intro _ z; cases z) (by rfl))) (by decide) (by rfl) (by rfl) (by first | exact a0F rfl | exact a0B rfl) (by rfl) (by first | exact .inl rfl | exact .inr rfl))
    (@ssc _ _ _ _ _ _ _ _ (jZ (hp:=PassesOwn.leaving) 4 S.nd (eU (sV 2)) (@ss1 _ _ _ _ _ _ (@zIf _ _ _ _ _ _ _ _ _ _ _ _ (de (iD sI (sV 4) (sV 3))) (@ss1 _ _ _ _ _ _ (lU xs.r_NoThing hr (sV 4))) ss0)))
    (@ss1 _ _ _ _ _ _ (@aG _ _ _ _ _ _ _ _ (ah cs.c13 hr (@af _ _ _ _ _ _ _ (sM 0) (@af _ _ _ _ _ _ _ (sM 1) (@af _ _ _ _ _ _ _ (sM 2) sa0 (by intro _ z; cases z) (by rfl)) (by intro _ z; cases z) (by rfl)) (by intro _ z; cases z) (by rfl)))))))
theorem S13:ao ["kind","flat","numbers","lengths"] ["kind","flat","numbers"] (defScope s13):=fsc
theorem D13:DD "taken_there" s13 ["kind","flat","numbers","lengths"] aK:=fun {_ _ _ _ _ _ _ _ _ _ _ s _ _} xs cs T G hr =>
 have S:=S13
 (@ssc _ _ _ _ _ _ _ _ (@zIf _ _ _ _ _ _ _ _ _ _ _ _ (cP hr (@az _ _ _ _ _ _ _ _ _ (sV 0) sI (by intro _ _; rfl)) sS) (@ss1 _ _ _ _ _ _ (@aG _ _ _ _ _ _ _ _ (@sTx _ _ _ _ _ _ _ (by decide) (@slx _ _ _ _ _ _ _ (ah cs.c13 hr (@af _ _ _ _ _ _ _ (@az _ _ _ _ _ _ _ _ _ (sV 0) sI (by intro _ _; rfl)) (@af _ _ _ _ _ _ _ (@az _ _ _ _ _ _ _ _ _ (sV 1) sI (by intro _ _; rfl)) (@af _ _ _ _ _ _ _ (sV 2) sa0 (by intro _ z; cases z) (by rfl)) (by intro _ z; cases z) (by rfl)) (by intro _ z; cases z) (by rfl))) (@slx _ _ _ _ _ _ _ (ah cs.c13 hr (@af _ _ _ _ _ _ _ (@az _ _ _ _ _ _ _ _ _ (sV 0) sI (by intro _ _; rfl)) (@af _ _ _ _ _ _ _ (@az _ _ _ _ _ _ _ _ _ (sV 1) sI (by intro _ _; rfl)) (@af _ _ _ _ _ _ _ (sV 2) sa0 (by intro _ z; cases z) (by rfl)) (by intro _ z; cases z) (by rfl)) (by intro _ z; cases z) (by rfl))) sl0 (by rfl)) (by rfl))))) ss0)
    (@ssc _ _ _ _ _ _ _ _ (@zIf _ _ _ _ _ _ _ _ _ _ _ _ (cP hr (@az _ _ _ _ _ _ _ _ _ (sV 0) sI (by intro _ _; rfl)) sS) (@ssc _ _ _ _ _ _ _ _ (zC1 3 [1] [1] [("flat",s.heap.objs.size+1)] ["flat"] (eU (sV 2)) (fun _ _ _ _=>(@az _ _ _ _ _ _ _ _ _ (@az _ _ _ _ _ _ _ _ _ (sV 1) sI (by intro _ _; rfl)) (sV 0) (by intro _ _; rfl))) csc (iG .nil) (frc .nil) S.nd)
     (@ss1 _ _ _ _ _ _ (@aG _ _ _ _ _ _ _ _ (@sTx _ _ _ _ _ _ _ (by decide) (@slx _ _ _ _ _ _ _ (sM 3) (@slx _ _ _ _ _ _ _ (ah cs.c13 hr (@af _ _ _ _ _ _ _ (@az _ _ _ _ _ _ _ _ _ (sM 0) sI (by intro _ _; rfl)) (@af _ _ _ _ _ _ _ (@az _ _ _ _ _ _ _ _ _ (sV 1) sI (by intro _ _; rfl)) (@af _ _ _ _ _ _ _ (ah cs.c14 hr (@af _ _ _ _ _ _ _ (@az _ _ _ _ _ _ _ _ _ (sV 1) sI (by intro _ _; rfl)) (@af _ _ _ _ _ _ _ (sM 2) sa0 (by intro _ z; cases z) (by rfl)) (by intro _ z; cases z) (by rfl))) sa0 (by intro _ z; cases z) (by rfl)) (by intro _ z; cases z) (by rfl)) (by intro _ z; cases z) (by rfl))) sl0 (by rfl)) (by rfl)))))) ss0)
    (@ss1 _ _ _ _ _ _ (@aG _ _ _ _ _ _ _ _ (sC1 [1] [1] [("flat",s.heap.objs.size+1)] ["flat"] (eU (sM 2)) (fun _ _ _ _=>(@az _ _ _ _ _ _ _ _ _ (sV 1) (sV 0) (by intro _ _; rfl))) csc (iG .nil) (frc .nil))))))
theorem S14:ao ["lengths","numbers","starts","start","length","things","number"] ["lengths","numbers"] (defScope s14):=fsc
theorem D14:DD "things_of" s14 ["lengths","numbers","starts","start","length","things","number"] bN:=fun {_ _ _ _ _ _ _ _ _ _ _ s _ _} xs cs T G hr =>
 have S:=S14
 (@ssc _ _ _ _ _ _ _ _ (@aO _ _ _ _ _ _ _ 2 _ _ _ _ S.nd (@sLx _ _ _ _ _ _ _ (by decide) sl0) (by decide) (by rfl) (by rfl) (by first | exact a0F rfl | exact a0B rfl) (by rfl) (by first | exact .inl rfl | exact .inr rfl))
    (@ssc _ _ _ _ _ _ _ _ (@aO _ _ _ _ _ _ _ 3 _ _ _ _ S.nd sI (by decide) (by rfl) (by rfl) (by first | exact a0F rfl | exact a0B rfl) (by rfl) (by first | exact .inl rfl | exact .inr rfl))
    (@ssc _ _ _ _ _ _ _ _ (jZ 4 S.nd (eU (sV 0)) (@ssc _ _ _ _ _ _ _ _ (BS 2 (sV 3))
     (@ss1 _ _ _ _ _ _ (@aO _ _ _ _ _ _ _ 3 _ _ _ _ S.nd (cT (sV 3) (sV 4)) (by decide) (by rfl) (by rfl) (by first | exact a0F rfl | exact a0B rfl) (by rfl) (by first | exact .inl rfl | exact .inr rfl)))))
    (@ssc _ _ _ _ _ _ _ _ (@aO _ _ _ _ _ _ _ 5 _ _ _ _ S.nd (@sLx _ _ _ _ _ _ _ (by decide) sl0) (by decide) (by rfl) (by rfl) (by first | exact a0F rfl | exact a0B rfl) (by rfl) (by first | exact .inl rfl | exact .inr rfl))
    (@ssc _ _ _ _ _ _ _ _ (jZ 6 S.nd (eU (sV 1)) (@ss1 _ _ _ _ _ _ (Cp 5 (Ec T.list T.range (@az _ _ _ _ _ _ _ _ _ (sV 2) (sV 6) (by intro _ _; rfl)) (cT (@az _ _ _ _ _ _ _ _ _ (sV 2) (sV 6) (by intro _ _; rfl)) (@az _ _ _ _ _ _ _ _ _ (sV 0) (sV 6) (by intro _ _; rfl)))))))
    (@ss1 _ _ _ _ _ _ (@aG _ _ _ _ _ _ _ _ (sM 5))))))))
theorem S20:ao ["tape","many","rest","spot","cell","number"] ["tape","many"] (defScope s20):=fsc
theorem D20:DD "_law_draw" s20 ["tape","many","rest","spot","cell","number"] aV:=fun {_ _ _ _ _ _ _ _ _ _ _ s _ _} xs cs T G hr =>
 have S:=S20
 (@ssc _ _ _ _ _ _ _ _ (@zIf _ _ _ _ _ _ _ _ _ _ _ _ (Bd (@az _ _ _ _ _ _ _ _ _ (sV 0) sI (by intro _ _; rfl)) sI) (@ssc _ _ _ _ _ _ _ _ (rJ 0 (eF (@az _ _ _ _ _ _ _ _ _ (sV 0) sI (by intro _ _; rfl)) sI) sI)
      (@ssc _ _ _ _ _ _ _ _ (@aO _ _ _ _ _ _ _ 2 _ _ _ _ S.nd (@az _ _ _ _ _ _ _ _ _ (sV 0) sI (by intro _ _; rfl)) (by decide) (by rfl) (by rfl) (by first | exact a0F rfl | exact a0B rfl) (by rfl) (by first | exact .inl rfl | exact .inr rfl))
      (@ssc _ _ _ _ _ _ _ _ (rJ 0 (BX (sV 2) (sV 1)) sI)
      (@ss1 _ _ _ _ _ _ (@aG _ _ _ _ _ _ _ _ (fX (sM 2) (sM 1))))))) ss0)
    (@ssc _ _ _ _ _ _ _ _ (@aO _ _ _ _ _ _ _ 3 _ _ _ _ S.nd (@az _ _ _ _ _ _ _ _ _ (sV 0) sI (by intro _ _; rfl)) (by decide) (by rfl) (by rfl) (by first | exact a0F rfl | exact a0B rfl) (by rfl) (by first | exact .inl rfl | exact .inr rfl))
    (@ssc _ _ _ _ _ _ _ _ (rJ 0 (cT (sV 3) sI) sI)
    (@ssc _ _ _ _ _ _ _ _ (@aO _ _ _ _ _ _ _ 4 _ _ _ _ S.nd sI (by decide) (by rfl) (by rfl) (by first | exact a0F rfl | exact a0B rfl) (by rfl) (by first | exact .inl rfl | exact .inr rfl))
    (@ssc _ _ _ _ _ _ _ _ (@zIf _ _ _ _ _ _ _ _ _ _ _ _ (Bd (dN (hm:=T.len) (ha:=(@az _ _ _ _ _ _ _ _ _ (sV 0) sI (by intro _ _; rfl)))) sI) (@ss1 _ _ _ _ _ _ (@aO _ _ _ _ _ _ _ 4 _ _ _ _ S.nd (@az _ _ _ _ _ _ _ _ _ (@az _ _ _ _ _ _ _ _ _ (sV 0) sI (by intro _ _; rfl)) (fX (sV 3) (dN (hm:=T.len) (ha:=(@az _ _ _ _ _ _ _ _ _ (sV 0) sI (by intro _ _; rfl))))) (by intro _ _; rfl)) (by decide) (by rfl) (by rfl) (by first | exact a0F rfl | exact a0B rfl) (by rfl) (by first | exact .inl rfl | exact .inr rfl))) ss0)
    (@ssc _ _ _ _ _ _ _ _ (@zIf _ _ _ _ _ _ _ _ _ _ _ _ (tW (xM (sy (sV 3) (dN (hm:=T.len) (ha:=(@az _ _ _ _ _ _ _ _ _ (sV 0) sI (by intro _ _; rfl))))) (wA1 (DT (sV 4) (iW sI sI))))) (@ssc _ _ _ _ _ _ _ _ (rJ 0 (eF (sV 4) (iW sI sI)) sI)
     (@ssc _ _ _ _ _ _ _ _ (rJ 0 sI sI)
     (@ss1 _ _ _ _ _ _ (@aG _ _ _ _ _ _ _ _ (ah cs.c20 hr (sai 0 (@af _ _ _ _ _ _ _ (sM 1) sa0 (by intro _ z; cases z) (by rfl)))))))) ss0)
    (@ssc _ _ _ _ _ _ _ _ (@aO _ _ _ _ _ _ _ 5 _ _ _ _ S.nd (gw (cT (fX (sV 4) sI) sI) (cT (cT (fX (gw (sV 3) (sV 3)) sI) (gw sI (sV 3))) sI)) (by decide) (by rfl) (by rfl) (by first | exact a0F rfl | exact a0B rfl) (by rfl) (by first | exact .inl rfl | exact .inr rfl))
    (@ssc _ _ _ _ _ _ _ _ (@aO _ _ _ _ _ _ _ 5 _ _ _ _ S.nd (fX (gw (fX (sV 5) sI) (fX (sV 5) sI)) sI) (by decide) (by rfl) (by rfl) (by first | exact a0F rfl | exact a0B rfl) (by rfl) (by first | exact .inl rfl | exact .inr rfl))
    (@ss1 _ _ _ _ _ _ (@aG _ _ _ _ _ _ _ _ (fX (fX (cT (BX (sM 5) sI) (gw sI (sM 3))) sI) (sM 1))))))))))))
theorem S21:ao ["tape","way","top","great"] ["tape"] (defScope s21):=fsc
theorem D21:DD "_law_number" s21 ["tape","way","top","great"] bx:=fun {_ _ _ _ _ _ _ _ _ _ _ s _ _} xs cs T G hr =>
 have S:=S21
 (@ssc _ _ _ _ _ _ _ _ (@aO _ _ _ _ _ _ _ 1 _ _ _ _ S.nd (ah cs.c20 hr (sai 0 (@af _ _ _ _ _ _ _ sI sa0 (by intro _ z; cases z) (by rfl)))) (by decide) (by rfl) (by rfl) (by first | exact a0F rfl | exact a0B rfl) (by rfl) (by first | exact .inl rfl | exact .inr rfl))
    (@ssc _ _ _ _ _ _ _ _ (@zIf _ _ _ _ _ _ _ _ _ _ _ _ (sy (sV 1) sI) (@ss1 _ _ _ _ _ _ (@aG _ _ _ _ _ _ _ _ (eF (ah cs.c20 hr (sai 0 (@af _ _ _ _ _ _ _ sI sa0 (by intro _ z; cases z) (by rfl)))) sI))) ss0)
    (@ssc _ _ _ _ _ _ _ _ (@zIf _ _ _ _ _ _ _ _ _ _ _ _ (cP hr (sV 1) sI) (@ssc _ _ _ _ _ _ _ _ (@aO _ _ _ _ _ _ _ 2 _ _ _ _ S.nd (iW sI sI) (by decide) (by rfl) (by rfl) (by first | exact a0F rfl | exact a0B rfl) (by rfl) (by first | exact .inl rfl | exact .inr rfl))
     (@ss1 _ _ _ _ _ _ (@aG _ _ _ _ _ _ _ _ (@az _ _ _ _ _ _ _ _ _ (@sLx _ _ _ _ _ _ _ (by decide) (@slx _ _ _ _ _ _ _ (sV 2) (@slx _ _ _ _ _ _ _ (eF sI (sV 2)) (@slx _ _ _ _ _ _ _ (eF (sV 2) sI) (@slx _ _ _ _ _ _ _ (eF sI (sV 2)) (@slx _ _ _ _ _ _ _ sI sl0 (by rfl)) (by rfl)) (by rfl)) (by rfl)) (by rfl))) (ah cs.c20 hr (sai 0 (@af _ _ _ _ _ _ _ sI sa0 (by intro _ z; cases z) (by rfl)))) (by intro _ _; rfl))))) ss0)
    (@ssc _ _ _ _ _ _ _ _ (@aO _ _ _ _ _ _ _ 3 _ _ _ _ S.nd (gw (ah cs.c20 hr (sai 0 (@af _ _ _ _ _ _ _ (iW sI sI) sa0 (by intro _ z; cases z) (by rfl)))) (iW sI sI)) (by decide) (by rfl) (by rfl) (by first | exact a0F rfl | exact a0B rfl) (by rfl) (by first | exact .inl rfl | exact .inr rfl))
    (@ssc _ _ _ _ _ _ _ _ (@aO _ _ _ _ _ _ _ 3 _ _ _ _ S.nd (cT (sV 3) (gw (ah cs.c20 hr (sai 0 (@af _ _ _ _ _ _ _ (iW sI sI) sa0 (by intro _ z; cases z) (by rfl)))) (iW sI sI))) (by decide) (by rfl) (by rfl) (by first | exact a0F rfl | exact a0B rfl) (by rfl) (by first | exact .inl rfl | exact .inr rfl))
    (@ssc _ _ _ _ _ _ _ _ (@aO _ _ _ _ _ _ _ 3 _ _ _ _ S.nd (cT (sV 3) (ah cs.c20 hr (sai 0 (@af _ _ _ _ _ _ _ (iW sI sI) sa0 (by intro _ z; cases z) (by rfl))))) (by decide) (by rfl) (by rfl) (by first | exact a0F rfl | exact a0B rfl) (by rfl) (by first | exact .inl rfl | exact .inr rfl))
    (@ss1 _ _ _ _ _ _ (@aG _ _ _ _ _ _ _ _ (gw (sM 3) (eF sI (gw sI (ah cs.c20 hr (sai 0 (@af _ _ _ _ _ _ _ sI sa0 (by intro _ z; cases z) (by rfl)))))))))))))))
theorem S22:ao ["tape","left","way","one"] ["tape","left"] (defScope s22):=fsc
theorem D22:DD "_law_kind" s22 ["tape","left","way","one"] b9:=fun {_ _ _ _ _ _ _ _ _ _ _ s _ _} xs cs T G hr =>
 have S:=S22
 (@ssc _ _ _ _ _ _ _ _ (@aO _ _ _ _ _ _ _ 2 _ _ _ _ S.nd (ah cs.c20 hr (sai 0 (@af _ _ _ _ _ _ _ sI sa0 (by intro _ z; cases z) (by rfl)))) (by decide) (by rfl) (by rfl) (by first | exact a0F rfl | exact a0B rfl) (by rfl) (by first | exact .inl rfl | exact .inr rfl))
    (@ssc _ _ _ _ _ _ _ _ (@zIf _ _ _ _ _ _ _ _ _ _ _ _ (tW (wOr (cP hr (sV 1) sI) (wO1 (sy (sV 2) sI)))) (@ss1 _ _ _ _ _ _ (@aG _ _ _ _ _ _ _ _ (@az _ _ _ _ _ _ _ _ _ (@sLx _ _ _ _ _ _ _ (by decide) (@slx _ _ _ _ _ _ _ (@sTx _ _ _ _ _ _ _ (by decide) (@slx _ _ _ _ _ _ _ sS sl0 (by rfl))) (@slx _ _ _ _ _ _ _ (@sTx _ _ _ _ _ _ _ (by decide) (@slx _ _ _ _ _ _ _ sS sl0 (by rfl))) sl0 (by rfl)) (by rfl))) (fX (sM 2) sI) (by intro _ _; rfl)))) ss0)
    (@ssc _ _ _ _ _ _ _ _ (@zIf _ _ _ _ _ _ _ _ _ _ _ _ (sy (sV 2) sI) (@ssc _ _ _ _ _ _ _ _ (@aO _ _ _ _ _ _ _ 3 _ _ _ _ S.nd (ah cs.c22 hr (sai 0 (@af _ _ _ _ _ _ _ (eF (sV 1) sI) sa0 (by intro _ z; cases z) (by rfl)))) (by decide) (by rfl) (by rfl) (by first | exact a0F rfl | exact a0B rfl) (by rfl) (by first | exact .inl rfl | exact .inr rfl))
     (@ss1 _ _ _ _ _ _ (@aG _ _ _ _ _ _ _ _ (@sTx _ _ _ _ _ _ _ (by decide) (@slx _ _ _ _ _ _ _ sS (@slx _ _ _ _ _ _ _ (sM 3) (@slx _ _ _ _ _ _ _ (ah cs.c22 hr (sai 0 (@af _ _ _ _ _ _ _ (eF (sM 1) sI) sa0 (by intro _ z; cases z) (by rfl)))) sl0 (by rfl)) (by rfl)) (by rfl)))))) ss0)
    (@ss1 _ _ _ _ _ _ (@aG _ _ _ _ _ _ _ _ (@sTx _ _ _ _ _ _ _ (by decide) (@slx _ _ _ _ _ _ _ sS (@slx _ _ _ _ _ _ _ (ah cs.c22 hr (sai 0 (@af _ _ _ _ _ _ _ (eF (sM 1) sI) sa0 (by intro _ z; cases z) (by rfl)))) sl0 (by rfl)) (by rfl))))))))
theorem S23:ao ["tape","kind","long","one","many"] ["tape","kind","long"] (defScope s23):=fsc
theorem D23:DD "_law_worth" s23 ["tape","kind","long","one","many"] aC:=fun {_ _ _ _ _ _ _ _ _ _ _ s _ _} xs cs T G hr =>
 have S:=S23
 (@ssc _ _ _ _ _ _ _ _ (@zIf _ _ _ _ _ _ _ _ _ _ _ _ (cP hr (@az _ _ _ _ _ _ _ _ _ (sV 1) sI (by intro _ _; rfl)) sS) (@ss1 _ _ _ _ _ _ (@aG _ _ _ _ _ _ _ _ (ah cs.c21 hr (sai 0 sa0)))) ss0)
    (@ssc _ _ _ _ _ _ _ _ (@zIf _ _ _ _ _ _ _ _ _ _ _ _ (cP hr (@az _ _ _ _ _ _ _ _ _ (sV 1) sI (by intro _ _; rfl)) sS) (@ss1 _ _ _ _ _ _ (@aG _ _ _ _ _ _ _ _ (sEq hr (ah cs.c20 hr (sai 0 (@af _ _ _ _ _ _ _ sI sa0 (by intro _ z; cases z) (by rfl)))) sI))) ss0)
    (@ssc _ _ _ _ _ _ _ _ (@zIf _ _ _ _ _ _ _ _ _ _ _ _ (cP hr (@az _ _ _ _ _ _ _ _ _ (sV 1) sI (by intro _ _; rfl)) sS) (@ssc _ _ _ _ _ _ _ _ (@aO _ _ _ _ _ _ _ 3 _ _ _ _ S.nd (ah cs.c23 hr (sai 0 (@af _ _ _ _ _ _ _ (@az _ _ _ _ _ _ _ _ _ (sV 1) sI (by intro _ _; rfl)) (@af _ _ _ _ _ _ _ (sV 2) sa0 (by intro _ z; cases z) (by rfl)) (by intro _ z; cases z) (by rfl)))) (by decide) (by rfl) (by rfl) (by first | exact a0F rfl | exact a0B rfl) (by rfl) (by first | exact .inl rfl | exact .inr rfl))
     (@ss1 _ _ _ _ _ _ (@aG _ _ _ _ _ _ _ _ (@sTx _ _ _ _ _ _ _ (by decide) (@slx _ _ _ _ _ _ _ (sM 3) (@slx _ _ _ _ _ _ _ (ah cs.c23 hr (sai 0 (@af _ _ _ _ _ _ _ (@az _ _ _ _ _ _ _ _ _ (sM 1) sI (by intro _ _; rfl)) (@af _ _ _ _ _ _ _ (sM 2) sa0 (by intro _ z; cases z) (by rfl)) (by intro _ z; cases z) (by rfl)))) sl0 (by rfl)) (by rfl)))))) ss0)
    (@ssc _ _ _ _ _ _ _ _ (@aO _ _ _ _ _ _ _ 4 _ _ _ _ S.nd (ah cs.c20 hr (sai 0 (@af _ _ _ _ _ _ _ sI sa0 (by intro _ z; cases z) (by rfl)))) (by decide) (by rfl) (by rfl) (by first | exact a0F rfl | exact a0B rfl) (by rfl) (by first | exact .inl rfl | exact .inr rfl))
    (@ssc _ _ _ _ _ _ _ _ (@zIf _ _ _ _ _ _ _ _ _ _ _ _ (tW (xM (tB (sV 2)) (xM (cP hr (dN (hm:=T.len) (ha:=(@az _ _ _ _ _ _ _ _ _ (sV 1) sI (by intro _ _; rfl)))) sI) (wA1 (cP hr (ah cs.c20 hr (sai 0 (@af _ _ _ _ _ _ _ sI sa0 (by intro _ z; cases z) (by rfl)))) sI))))) (@ss1 _ _ _ _ _ _ (@aO _ _ _ _ _ _ _ 4 _ _ _ _ S.nd (cT sI (ah cs.c20 hr (sai 0 (@af _ _ _ _ _ _ _ sI sa0 (by intro _ z; cases z) (by rfl))))) (by decide) (by rfl) (by rfl) (by first | exact a0F rfl | exact a0B rfl) (by rfl) (by first | exact .inl rfl | exact .inr rfl))) ss0)
    (@ss1 _ _ _ _ _ _ (@aG _ _ _ _ _ _ _ _ (sC1 [1,0] [1,0] [("tape",s.heap.objs.size+1),("kind",s.heap.objs.size+2)] ["kind","tape"] (uG (hm:=T.range) (ha:=(sM 4))) (fun _ _ _ _=>(ah cs.c23 hr (sai 2 (@af _ _ _ _ _ _ _ (@az _ _ _ _ _ _ _ _ _ (sV 1) sI (by intro _ _; rfl)) (@af _ _ _ _ _ _ _ sO sa0 (by intro _ z; cases z) (by rfl)) (by intro _ z; cases z) (by rfl))))) csc (iG (iG .nil)) (frc (frc .nil))))))))))
theorem S24:ao ["due","found"] ["due","found"] (defScope s24):=fsc
theorem D24:DD "_law_alike" s24 ["due","found"] ay:=fun {_ _ _ _ _ _ _ _ _ _ _ s _ _} xs cs T G hr =>
 have S:=S24
 (@ssc _ _ _ _ _ _ _ _ (@zIf _ _ _ _ _ _ _ _ _ _ _ _ (tB (CM (by decide) a0J (by decide) a1F T.isin T.list T.tup (sV 0))) (@ssc _ _ _ _ _ _ _ _ (@zIf _ _ _ _ _ _ _ _ _ _ _ _ (se hr (hW (by decide) a0J T.isin T.list (sV 0)) (hW (by decide) a0J T.isin T.list (sV 1))) (@ss1 _ _ _ _ _ _ (@aG _ _ _ _ _ _ _ _ sO)) ss0)
      (@ssc _ _ _ _ _ _ _ _ (@zIf _ _ _ _ _ _ _ _ _ _ _ _ (se hr (hW (by decide) a1F T.isin T.tup (sV 0)) (hW (by decide) a1F T.isin T.tup (sV 1))) (@ss1 _ _ _ _ _ _ (@aG _ _ _ _ _ _ _ _ sO)) ss0)
      (@ssc _ _ _ _ _ _ _ _ (@zIf _ _ _ _ _ _ _ _ _ _ _ _ (se hr (dN (hm:=T.len) (ha:=(sV 0))) (dN (hm:=T.len) (ha:=(sV 1)))) (@ss1 _ _ _ _ _ _ (@aG _ _ _ _ _ _ _ _ sO)) ss0)
      (@ss1 _ _ _ _ _ _ (@aG _ _ _ _ _ _ _ _ (D1 (hm:=T.all) (ha:=(sC2 [] [] [] [] (BQ (hm:=T.zip) (ha:=(sM 0)) (hb:=(sM 1))) (fun _ _ _ _=>(ah cs.c24 hr (@af _ _ _ _ _ _ _ (sV 0) (@af _ _ _ _ _ _ _ (sV 1) sa0 (by intro _ z; cases z) (by rfl)) (by intro _ z; cases z) (by rfl)))) csc .nil .nil)))))))) ss0)
    (@ssc _ _ _ _ _ _ _ _ (@zIf _ _ _ _ _ _ _ _ _ _ _ _ (se hr (hW (by decide) a2X T.isin T.bool (sV 0)) (hW (by decide) a2X T.isin T.bool (sV 1))) (@ss1 _ _ _ _ _ _ (@aG _ _ _ _ _ _ _ _ sO)) ss0)
    (@ss1 _ _ _ _ _ _ (@aG _ _ _ _ _ _ _ _ (sEq hr (sM 0) (sM 1))))))
theorem Dq:ao ["e"] ["e"] (defScope rO):=fsc
theorem Ep:DD "_law_other" rO ["e"] bK:=fun {_ _ _ _ _ _ _ _ _ _ _ s _ _} xs cs T G hr =>
 have S:=Dq
 (@ssc _ _ _ _ _ _ _ _ (@zIf _ _ _ _ _ _ _ _ _ _ _ _ (tW (wOr (tB (il xs.i_NoText T.isin (sV 0))) (wO1 (tB (il xs.i_NoKind T.isin (sV 0)))))) (@ss1 _ _ _ _ _ _ (@aG _ _ _ _ _ _ _ _ sO)) ss0)
    (@ssc _ _ _ _ _ _ _ _ (@zIf _ _ _ _ _ _ _ _ _ _ _ _ (tW (wOr (tB (il xs.i_NoPlace T.isin (sV 0))) (wO1 (tB (il xs.i_NoRule T.isin (sV 0)))))) (@ss1 _ _ _ _ _ _ (@aG _ _ _ _ _ _ _ _ sO)) ss0)
    (@ss1 _ _ _ _ _ _ (@aG _ _ _ _ _ _ _ _ (sBW (vOr (il xs.i_NoLine T.isin (sV 0)) (vO1 (DN (Dk xs.i_ValueError T.isin (sV 0) xs.m_ValueError)))))))))
theorem BY:ao ["kind","flat","numbers","told","e"] ["kind","flat","numbers"] (defScope oO):=fsc
theorem Ex:DD "_law_refused" oO ["kind","flat","numbers","told","e"] bc:=fun {_ _ _ _ _ _ _ _ _ _ _ s _ _} xs cs T G hr =>
 have S:=BY
 (@ssc _ _ _ _ _ _ _ _ (@aO _ _ _ _ _ _ _ 3 _ _ _ _ S.nd (@sTx _ _ _ _ _ _ _ (by decide) (@slx _ _ _ _ _ _ _ sS (@slx _ _ _ _ _ _ _ sI sl0 (by rfl)) (by rfl))) (by decide) (by rfl) (by rfl) (by first | exact a0F rfl | exact a0B rfl) (by rfl) (by first | exact .inl rfl | exact .inr rfl))
    (@ssc _ _ _ _ _ _ _ _ (yD 4 S.nd xs.b_BroadError (fun _ _=>(@ss1 _ _ _ _ _ _ (CF (jh cs.x313 hr (@slx _ _ _ _ _ _ _ (sV 0) (@slx _ _ _ _ _ _ _ (sV 1) (@slx _ _ _ _ _ _ _ (sV 2) sl0 (by rfl)) (by rfl)) (by rfl)))))) (fun _=>(@ss1 _ _ _ _ _ _ (@aO _ _ _ _ _ _ _ 3 _ _ _ _ S.nd (@sTx _ _ _ _ _ _ _ (by decide) (@slx _ _ _ _ _ _ _ sS (@slx _ _ _ _ _ _ _ (sV 4) sl0 (by rfl)) (by rfl))) (by decide) (by rfl) (by rfl) (by first | exact a0F rfl | exact a0B rfl) (by rfl) (by first | exact .inl rfl | exact .inr rfl)))))
    (@ssc _ _ _ _ _ _ _ _ (@zIf _ _ _ _ _ _ _ _ _ _ _ _ (tW (wOr (cP hr (@az _ _ _ _ _ _ _ _ _ (sV 3) sI (by intro _ _; rfl)) sS) (wO1 (tB (ah cs.c314 hr (@af _ _ _ _ _ _ _ (@az _ _ _ _ _ _ _ _ _ (sV 3) sI (by intro _ _; rfl)) sa0 (by intro _ z; cases z) (by rfl))))))) (@ss1 _ _ _ _ _ _ (@aG _ _ _ _ _ _ _ _ sN)) ss0)
    (@ssc _ _ _ _ _ _ _ _ (@zIf _ _ _ _ _ _ _ _ _ _ _ _ (de (tB (il xs.i_NoThing T.isin (@az _ _ _ _ _ _ _ _ _ (sV 3) sI (by intro _ _; rfl))))) (@ss1 _ _ _ _ _ _ (@aG _ _ _ _ _ _ _ _ sN)) ss0)
    (@ss1 _ _ _ _ _ _ (@aG _ _ _ _ _ _ _ _ (Eg (@az _ _ _ _ _ _ _ _ _ (sM 3) sI (by intro _ _; rfl)) xs.f_number)))))))
theorem CH:ao ["tape","many","way"] ["tape","many"] (defScope pX):=fsc
theorem Eb:DD "_law_strange" pX ["tape","many","way"] aZ:=fun {_ _ _ _ _ _ _ _ _ _ _ s _ _} xs cs T G hr =>
 have S:=CH
 (@ssc _ _ _ _ _ _ _ _ (@aO _ _ _ _ _ _ _ 2 _ _ _ _ S.nd (ah cs.c20 hr (sai 0 (@af _ _ _ _ _ _ _ sI sa0 (by intro _ z; cases z) (by rfl)))) (by decide) (by rfl) (by rfl) (by first | exact a0F rfl | exact a0B rfl) (by rfl) (by first | exact .inl rfl | exact .inr rfl))
    (@ssc _ _ _ _ _ _ _ _ (@zIf _ _ _ _ _ _ _ _ _ _ _ _ (cP hr (sV 2) sI) (@ss1 _ _ _ _ _ _ (@aG _ _ _ _ _ _ _ _ (eF (eF sI sI) (ah cs.c20 hr (sai 0 (@af _ _ _ _ _ _ _ sI sa0 (by intro _ z; cases z) (by rfl))))))) ss0)
    (@ssc _ _ _ _ _ _ _ _ (@zIf _ _ _ _ _ _ _ _ _ _ _ _ (cP hr (sV 2) sI) (@ss1 _ _ _ _ _ _ (@aG _ _ _ _ _ _ _ _ (sM 1))) ss0)
    (@ssc _ _ _ _ _ _ _ _ (@zIf _ _ _ _ _ _ _ _ _ _ _ _ (cP hr (sV 2) sI) (@ss1 _ _ _ _ _ _ (@aG _ _ _ _ _ _ _ _ (cT (cT (sM 1) sI) (ah cs.c20 hr (sai 0 (@af _ _ _ _ _ _ _ sI sa0 (by intro _ z; cases z) (by rfl))))))) ss0)
    (@ss1 _ _ _ _ _ _ (@aG _ _ _ _ _ _ _ _ (gw (cT (iW sI sI) (ah cs.c20 hr (sai 0 (@af _ _ _ _ _ _ _ sI sa0 (by intro _ z; cases z) (by rfl))))) (eF sI (gw sI (eF (sM 2) sI))))))))))
theorem tj:ao ["kind","worths","numbers","flat","told","due","order"] ["kind","worths","numbers"] (defScope nF):=fsc
theorem DQ:DD "_law_right" nF ["kind","worths","numbers","flat","told","due","order"] aU:=fun {_ _ _ _ _ _ _ _ _ _ _ s _ _} xs cs T G hr =>
 have S:=tj
 (@ssc _ _ _ _ _ _ _ _ (@aO _ _ _ _ _ _ _ 3 _ _ _ _ S.nd (ah cs.c6 hr (@af _ _ _ _ _ _ _ (sV 0) (@af _ _ _ _ _ _ _ (sV 1) sa0 (by intro _ z; cases z) (by rfl)) (by intro _ z; cases z) (by rfl))) (by decide) (by rfl) (by rfl) (by first | exact a0F rfl | exact a0B rfl) (by rfl) (by first | exact .inl rfl | exact .inr rfl))
    (@ssc _ _ _ _ _ _ _ _ (wx 4 S.nd (jh cs.x313 hr (@slx _ _ _ _ _ _ _ (sV 0) (@slx _ _ _ _ _ _ _ (sV 3) (@slx _ _ _ _ _ _ _ (sV 2) sl0 (by rfl)) (by rfl)) (by rfl))))
    (@ssc _ _ _ _ _ _ _ _ (zC1 5 [1] [1] [("worths",s.heap.objs.size+1)] ["worths"] (eU (sV 2)) (fun _ _ _ _=>(@az _ _ _ _ _ _ _ _ _ (sV 1) (sV 0) (by intro _ _; rfl))) csc (iG .nil) (frc .nil) S.nd)
    (@ssc _ _ _ _ _ _ _ _ (@zIf _ _ _ _ _ _ _ _ _ _ _ _ (de (tB (ah cs.c24 hr (@af _ _ _ _ _ _ _ (sV 5) (@af _ _ _ _ _ _ _ (ah cs.c7 hr (@af _ _ _ _ _ _ _ (sV 0) (@af _ _ _ _ _ _ _ (sV 4) (@af _ _ _ _ _ _ _ (dN (hm:=T.len) (ha:=(sV 2))) sa0 (by intro _ z; cases z) (by rfl)) (by intro _ z; cases z) (by rfl)) (by intro _ z; cases z) (by rfl))) sa0 (by intro _ z; cases z) (by rfl)) (by intro _ z; cases z) (by rfl))))) (@ss1 _ _ _ _ _ _ (@aG _ _ _ _ _ _ _ _ sO)) ss0)
    (@ssc _ _ _ _ _ _ _ _ (sL (ah cs.c95 hr (@af _ _ _ _ _ _ _ (sM 4) sa0 (by intro _ z; cases z) (by rfl))))
    (@ssc _ _ _ _ _ _ _ _ (@zIf _ _ _ _ _ _ _ _ _ _ _ _ (de (tB (ah cs.c24 hr (@af _ _ _ _ _ _ _ (ah cs.c6 hr (@af _ _ _ _ _ _ _ (sV 0) (@af _ _ _ _ _ _ _ (sV 1) sa0 (by intro _ z; cases z) (by rfl)) (by intro _ z; cases z) (by rfl))) (@af _ _ _ _ _ _ _ (sV 3) sa0 (by intro _ z; cases z) (by rfl)) (by intro _ z; cases z) (by rfl))))) (@ss1 _ _ _ _ _ _ (@aG _ _ _ _ _ _ _ _ sO)) ss0)
    (@ssc _ _ _ _ _ _ _ _ (@aO _ _ _ _ _ _ _ 6 _ _ _ _ S.nd (BD T.list T.range (dN (hm:=T.len) (ha:=(sV 1)))) (by decide) (by rfl) (by rfl) (by first | exact a0F rfl | exact a0B rfl) (by rfl) (by first | exact .inl rfl | exact .inr rfl))
    (@ssc _ _ _ _ _ _ _ _ (sL (ah cs.c95 hr (@af _ _ _ _ _ _ _ (ah cs.c313 hr (@af _ _ _ _ _ _ _ (sV 0) (@af _ _ _ _ _ _ _ (sV 3) (@af _ _ _ _ _ _ _ (sV 6) sa0 (by intro _ z; cases z) (by rfl)) (by intro _ z; cases z) (by rfl)) (by intro _ z; cases z) (by rfl))) sa0 (by intro _ z; cases z) (by rfl))))
    (@ss1 _ _ _ _ _ _ (@aG _ _ _ _ _ _ _ _ (ah cs.c24 hr (@af _ _ _ _ _ _ _ (ah cs.c6 hr (@af _ _ _ _ _ _ _ (sV 0) (@af _ _ _ _ _ _ _ (sM 1) sa0 (by intro _ z; cases z) (by rfl)) (by intro _ z; cases z) (by rfl))) (@af _ _ _ _ _ _ _ (ah cs.c313 hr (@af _ _ _ _ _ _ _ (sV 0) (@af _ _ _ _ _ _ _ (sM 3) (@af _ _ _ _ _ _ _ (sM 6) sa0 (by intro _ z; cases z) (by rfl)) (by intro _ z; cases z) (by rfl)) (by intro _ z; cases z) (by rfl))) sa0 (by intro _ z; cases z) (by rfl)) (by intro _ z; cases z) (by rfl)))))))))))))
theorem D4:DX "_law_right" nF ["kind","worths","numbers","flat","told","due","order"] aU:=fun {_ _ _ _ _ _ _ _ _ _ _ s _ _} xs cs T G hr =>
 have S:=tj
 (@ssc _ _ _ _ _ _ _ _ (@aO _ _ _ _ _ _ _ 3 _ _ _ _ S.nd (ah cs.c6 hr (@af _ _ _ _ _ _ _ (sV 0) (@af _ _ _ _ _ _ _ (sV 1) sa0 (by intro _ z; cases z) (by rfl)) (by intro _ z; cases z) (by rfl))) (by decide) (by rfl) (by rfl) (by first | exact a0F rfl | exact a0B rfl) (by rfl) (by first | exact .inl rfl | exact .inr rfl))
    (@ssc _ _ _ _ _ _ _ _ (wx 4 S.nd (jh cs.x313 hr (@slx _ _ _ _ _ _ _ (sV 0) (@slx _ _ _ _ _ _ _ (sV 3) (@slx _ _ _ _ _ _ _ (sV 2) sl0 (by rfl)) (by rfl)) (by rfl))))
    (@ssc _ _ _ _ _ _ _ _ (zC1 5 [1] [1] [("worths",s.heap.objs.size+1)] ["worths"] (eU (sV 2)) (fun _ _ _ _=>(@az _ _ _ _ _ _ _ _ _ (sV 1) (sV 0) (by intro _ _; rfl))) csc (iG .nil) (frc .nil) S.nd)
    (@ssc _ _ _ _ _ _ _ _ (@zIf _ _ _ _ _ _ _ _ _ _ _ _ (de (tB (ah cs.c24 hr (@af _ _ _ _ _ _ _ (sV 5) (@af _ _ _ _ _ _ _ (ah cs.c7 hr (@af _ _ _ _ _ _ _ (sV 0) (@af _ _ _ _ _ _ _ (sV 4) (@af _ _ _ _ _ _ _ (dN (hm:=T.len) (ha:=(sV 2))) sa0 (by intro _ z; cases z) (by rfl)) (by intro _ z; cases z) (by rfl)) (by intro _ z; cases z) (by rfl))) sa0 (by intro _ z; cases z) (by rfl)) (by intro _ z; cases z) (by rfl))))) (@ss1 _ _ _ _ _ _ (@aG _ _ _ _ _ _ _ _ sO)) ss0)
    (@ssc _ _ _ _ _ _ _ _ (sL (ah cs.c95 hr (@af _ _ _ _ _ _ _ (sM 4) sa0 (by intro _ z; cases z) (by rfl))))
    (@ssc _ _ _ _ _ _ _ _ (@zIf _ _ _ _ _ _ _ _ _ _ _ _ (de (tB (ah cs.c24 hr (@af _ _ _ _ _ _ _ (ah cs.c6 hr (@af _ _ _ _ _ _ _ (sV 0) (@af _ _ _ _ _ _ _ (sV 1) sa0 (by intro _ z; cases z) (by rfl)) (by intro _ z; cases z) (by rfl))) (@af _ _ _ _ _ _ _ (sV 3) sa0 (by intro _ z; cases z) (by rfl)) (by intro _ z; cases z) (by rfl))))) (@ss1 _ _ _ _ _ _ (@aG _ _ _ _ _ _ _ _ sO)) ss0)
    (@ssc _ _ _ _ _ _ _ _ (@aO _ _ _ _ _ _ _ 6 _ _ _ _ S.nd (BD T.list T.range (dN (hm:=T.len) (ha:=(sV 1)))) (by decide) (by rfl) (by rfl) (by first | exact a0F rfl | exact a0B rfl) (by rfl) (by first | exact .inl rfl | exact .inr rfl))
    (@ssc _ _ _ _ _ _ _ _ (sL (ah cs.c95 hr (@af _ _ _ _ _ _ _ (ah cs.c313 hr (@af _ _ _ _ _ _ _ (sV 0) (@af _ _ _ _ _ _ _ (sV 3) (@af _ _ _ _ _ _ _ (sV 6) sa0 (by intro _ z; cases z) (by rfl)) (by intro _ z; cases z) (by rfl)) (by intro _ z; cases z) (by rfl))) sa0 (by intro _ z; cases z) (by rfl))))
    (@ss1 _ _ _ _ _ _ (@aG _ _ _ _ _ _ _ _ (ah cs.c24 hr (@af _ _ _ _ _ _ _ (ah cs.c6 hr (@af _ _ _ _ _ _ _ (sV 0) (@af _ _ _ _ _ _ _ (sM 1) sa0 (by intro _ z; cases z) (by rfl)) (by intro _ z; cases z) (by rfl))) (@af _ _ _ _ _ _ _ (ah cs.c313 hr (@af _ _ _ _ _ _ _ (sV 0) (@af _ _ _ _ _ _ _ (sM 3) (@af _ _ _ _ _ _ _ (sM 6) sa0 (by intro _ z; cases z) (by rfl)) (by intro _ z; cases z) (by rfl)) (by intro _ z; cases z) (by rfl))) sa0 (by intro _ z; cases z) (by rfl)) (by intro _ z; cases z) (by rfl)))))))))))))
theorem S0:ao ["script","tape","kind","worths","many","numbers","k","bad","at","first","flat","handed"] ["script"] (defScope s0):=fsc
theorem D0:DD "law" s0 ["script","tape","kind","worths","many","numbers","k","bad","at","first","flat","handed"] f_law:=fun {_ _ _ _ _ _ _ _ _ _ _ s _ _} xs cs T G hr =>
 have S:=S0
 (@ssc _ _ _ _ _ _ _ _ (@aO _ _ _ _ _ _ _ 1 _ _ _ _ S.nd (@sLx _ _ _ _ _ _ _ (by decide) (@slx _ _ _ _ _ _ _ (fU (hm:=T.list) (ha:=(C1 (sV 0) sI))) (@slx _ _ _ _ _ _ _ sI (@slx _ _ _ _ _ _ _ sI (@slx _ _ _ _ _ _ _ sI sl0 (by rfl)) (by rfl)) (by rfl)) (by rfl))) (by decide) (by rfl) (by rfl) (by first | exact a0F rfl | exact a0B rfl) (by rfl) (by first | exact .inl rfl | exact .inr rfl))
    (@ssc _ _ _ _ _ _ _ _ (@aO _ _ _ _ _ _ _ 2 _ _ _ _ S.nd (ah cs.c22 hr (sai 1 (@af _ _ _ _ _ _ _ (cT sI (ah cs.c20 hr (sai 1 (@af _ _ _ _ _ _ _ sI sa0 (by intro _ z; cases z) (by rfl))))) sa0 (by intro _ z; cases z) (by rfl)))) (by decide) (by rfl) (by rfl) (by first | exact a0F rfl | exact a0B rfl) (by rfl) (by first | exact .inl rfl | exact .inr rfl))
    (@ssc _ _ _ _ _ _ _ _ (zC1 3 [2,1] [2,1] [("tape",s.heap.objs.size+1),("kind",s.heap.objs.size+2)] ["kind","tape"] (uG (hm:=T.range) (ha:=(ah cs.c20 hr (sai 1 (@af _ _ _ _ _ _ _ sI sa0 (by intro _ z; cases z) (by rfl)))))) (fun _ _ _ _=>(sk (bs:=[.io 1,.var 2]) cs.d23 hr (sai 2 (@af _ _ _ _ _ _ _ (sV 1) sa0 (by intro _ z; cases z) (by rfl))))) csc (iG (iG .nil)) (frc (frc .nil)) S.nd)
    (@ssc _ _ _ _ _ _ _ _ (@aO _ _ _ _ _ _ _ 4 _ _ _ _ S.nd (dN (hm:=T.len) (ha:=(sV 3))) (by decide) (by rfl) (by rfl) (by first | exact a0F rfl | exact a0B rfl) (by rfl) (by first | exact .inl rfl | exact .inr rfl))
    (@ssc _ _ _ _ _ _ _ _ (@aO _ _ _ _ _ _ _ 5 _ _ _ _ S.nd (@sLx _ _ _ _ _ _ _ (by decide) sl0) (by decide) (by rfl) (by rfl) (by first | exact a0F rfl | exact a0B rfl) (by rfl) (by first | exact .inl rfl | exact .inr rfl))
    (@ssc _ _ _ _ _ _ _ _ (wJ 6 S.nd (uG (hm:=T.range) (ha:=(ah cs.c20 hr (sai 1 (@af _ _ _ _ _ _ _ sI sa0 (by intro _ z; cases z) (by rfl)))))) (@ss1 _ _ _ _ _ _ (BS 5 (fX (ah cs.c20 hr (sai 1 (@af _ _ _ _ _ _ _ (cT (sV 4) sI) sa0 (by intro _ z; cases z) (by rfl)))) (Eh (hm:=T.max) (ha:=sI) (hb:=(sV 4)))))))
    (@ssc _ _ _ _ _ _ _ _ (@zIf _ _ _ _ _ _ _ _ _ _ _ _ (cP hr (sV 4) sI) (@ss1 _ _ _ _ _ _ (@aO _ _ _ _ _ _ _ 5 _ _ _ _ S.nd (@sLx _ _ _ _ _ _ _ (by decide) sl0) (by decide) (by rfl) (by rfl) (by first | exact a0F rfl | exact a0B rfl) (by rfl) (by first | exact .inl rfl | exact .inr rfl))) ss0)
    (@ssc _ _ _ _ _ _ _ _ (@zIf _ _ _ _ _ _ _ _ _ _ _ _ (de (tB (ah cs.c317 hr (@af _ _ _ _ _ _ _ (sV 2) (@af _ _ _ _ _ _ _ (sV 3) (@af _ _ _ _ _ _ _ (fU (hm:=T.list) (ha:=(sV 5))) sa0 (by intro _ z; cases z) (by rfl)) (by intro _ z; cases z) (by rfl)) (by intro _ z; cases z) (by rfl))))) (@ss1 _ _ _ _ _ _ (@aG _ _ _ _ _ _ _ _ sO)) ss0)
    (@ssc _ _ _ _ _ _ _ _ (@aO _ _ _ _ _ _ _ 7 _ _ _ _ S.nd (fU (hm:=T.list) (ha:=(sV 5))) (by decide) (by rfl) (by rfl) (by first | exact a0F rfl | exact a0B rfl) (by rfl) (by first | exact .inl rfl | exact .inr rfl))
    (@ssc _ _ _ _ _ _ _ _ (wJ 6 S.nd (uG (hm:=T.range) (ha:=(cT sI (ah cs.c20 hr (sai 1 (@af _ _ _ _ _ _ _ sI sa0 (by intro _ z; cases z) (by rfl))))))) (@ssc _ _ _ _ _ _ _ _ (@aO _ _ _ _ _ _ _ 8 _ _ _ _ S.nd (ah cs.c20 hr (sai 1 (@af _ _ _ _ _ _ _ (cT (dN (hm:=T.len) (ha:=(sV 7))) sI) sa0 (by intro _ z; cases z) (by rfl)))) (by decide) (by rfl) (by rfl) (by first | exact a0F rfl | exact a0B rfl) (by rfl) (by first | exact .inl rfl | exact .inr rfl))
     (@ss1 _ _ _ _ _ _ (@aO _ _ _ _ _ _ _ 7 _ _ _ _ S.nd (cT (cT (C1 (sV 7) (sV 8)) (@sLx _ _ _ _ _ _ _ (by decide) (@slx _ _ _ _ _ _ _ (ah cs.c316 hr (sai 1 (@af _ _ _ _ _ _ _ (sV 4) sa0 (by intro _ z; cases z) (by rfl)))) sl0 (by rfl)))) (DP (sV 7) (sV 8))) (by decide) (by rfl) (by rfl) (by first | exact a0F rfl | exact a0B rfl) (by rfl) (by first | exact .inl rfl | exact .inr rfl)))))
    (@ssc _ _ _ _ _ _ _ _ (@aO _ _ _ _ _ _ _ 9 _ _ _ _ S.nd (@az _ _ _ _ _ _ _ _ _ (Em [4] [4] [("many",s.heap.objs.size+3)] ["many"] (eU (sV 7)) (fun _ _ _ _=>(de (iD sI (sV 0) (sV 1)))) (fun _ _ _ _=>(sV 0)) csc (iG .nil) (frc .nil)) sI (by intro _ _; rfl)) (by decide) (by rfl) (by rfl) (by first | exact a0F rfl | exact a0B rfl) (by rfl) (by first | exact .inl rfl | exact .inr rfl))
    (@ssc _ _ _ _ _ _ _ _ (@aO _ _ _ _ _ _ _ 10 _ _ _ _ S.nd (ah cs.c6 hr (@af _ _ _ _ _ _ _ (sV 2) (@af _ _ _ _ _ _ _ (sV 3) sa0 (by intro _ z; cases z) (by rfl)) (by intro _ z; cases z) (by rfl))) (by decide) (by rfl) (by rfl) (by first | exact a0F rfl | exact a0B rfl) (by rfl) (by first | exact .inl rfl | exact .inr rfl))
    (@ssc _ _ _ _ _ _ _ _ (@aO _ _ _ _ _ _ _ 11 _ _ _ _ S.nd (fU (hm:=T.list) (ha:=(sV 7))) (by decide) (by rfl) (by rfl) (by first | exact a0F rfl | exact a0B rfl) (by rfl) (by first | exact .inl rfl | exact .inr rfl))
    (@ssc _ _ _ _ _ _ _ _ (@zIf _ _ _ _ _ _ _ _ _ _ _ _ (de (tB (ah cs.c24 hr (@af _ _ _ _ _ _ _ (sV 9) (@af _ _ _ _ _ _ _ (ah cs.c318 hr (@af _ _ _ _ _ _ _ (sV 2) (@af _ _ _ _ _ _ _ (sV 10) (@af _ _ _ _ _ _ _ (sV 11) sa0 (by intro _ z; cases z) (by rfl)) (by intro _ z; cases z) (by rfl)) (by intro _ z; cases z) (by rfl))) sa0 (by intro _ z; cases z) (by rfl)) (by intro _ z; cases z) (by rfl))))) (@ss1 _ _ _ _ _ _ (@aG _ _ _ _ _ _ _ _ sO)) ss0)
    (@ssc _ _ _ _ _ _ _ _ (@zIf _ _ _ _ _ _ _ _ _ _ _ _ (tW (wOr (se hr (sV 11) (sV 7)) (wO1 (de (tB (ah cs.c24 hr (@af _ _ _ _ _ _ _ (ah cs.c6 hr (@af _ _ _ _ _ _ _ (sV 2) (@af _ _ _ _ _ _ _ (sV 3) sa0 (by intro _ z; cases z) (by rfl)) (by intro _ z; cases z) (by rfl))) (@af _ _ _ _ _ _ _ (sV 10) sa0 (by intro _ z; cases z) (by rfl)) (by intro _ z; cases z) (by rfl)))))))) (@ss1 _ _ _ _ _ _ (@aG _ _ _ _ _ _ _ _ sO)) ss0)
    (@ss1 _ _ _ _ _ _ (Dw (jh cs.x317 hr (@slx _ _ _ _ _ _ _ (sV 2) (@slx _ _ _ _ _ _ _ (sV 3) (@slx _ _ _ _ _ _ _ (fU (hm:=T.list) (ha:=(sV 5))) sl0 (by rfl)) (by rfl)) (by rfl))))))))))))))))))))
end A34

namespace A34
open PySem PySem.Spec PyProof.Rows L2 L3 MR
noncomputable abbrev Cl (n:Nat):M.Call:=M.callR prog 95 1 n
noncomputable abbrev iA:Stmt:=s95
noncomputable abbrev xY:Nat:=95
section
variable {P:Program}{w:World}{K:a0a}{mg:Str->Option Value}{base:Heap}{f:Addr}{fd:FuncData}
theorem scSp:ao ["thing","one"] ["thing"] (defScope iA):=⟨rfl,rfl,rfl,by decide +kernel,rfl,by decide +kernel,by decide +kernel⟩
theorem sd {n:Nat}(F:Fun K "_law_spoil" "_law_spoil" iA f fd)(G:FnOk P w K mg base CX0 n f fd ["thing"] (fD K n))(bG:Binds K fd ["thing"] [])(T:Txt mg)(mF:mg "_law_spoil"=some (.ref f)):FnOk P w K mg base CX0 (n+1) f fd ["thing"] (fD K (n+1)):=by
 refine F.ok scSp (fun vs H Q E h=>?_) (fun cdv A outer s H vs Q E hr h=>?_)
 ·obtain ⟨v,t,as,rfl,_⟩:=h
  rfl
 obtain ⟨v,t,as,rfl,ht,hnd,hw,q⟩:=h
 refine ⟨_,b7 (pI (r8 (bu (uh (c1:="list") (c2:="tuple") (by decide) (by decide)) rfl T.isin a1a (aq (pv 0) (aq (lA (aq (gi rfl T.list a0J) (aq (gi rfl T.tup a1F) aM))) aM))))
   (ck (iX PassesOwn.never rfl (jb (bV ee rfl T.list a0J (aq (pv 0) aM))) (cV (i:=1) scSp.nd rfl (a0F rfl)) (ck (cj (jf G hr rfl mF F.kp bG .nil lY (aq (pv 1) aM)))))) ja)
  (ck (pI (r8 (bu (jC (c:="list") (by decide)) rfl T.isin a1a (aq (pv 0) (aq (gi rfl T.list a0J) aM))))
   (ck (cj (lX a1C a1Y a1Z eL (pv 0) (aq kH aM)))) ja)),?_⟩
 refine ⟨_,rfl,le2,fun p0 g0=>?_⟩
 have s0:Same H (upd H p0 (.tup [V.ty "list",V.ty "tuple"])):=b8 g0 _
 generalize hH1:upd H p0 (.tup [V.ty "list",V.ty "tuple"])=H1 at s0 ⊢
 have hp0:H1 p0=some (.tup [V.ty "list",V.ty "tuple"]):=by rw [<- hH1]; exact aj
 have turn:∀ {ts:List Th} {ws:List V} {bs:List Addr} {p:Addr} {H2:Hp},HasAL K H2 ts ws bs->bs.Nodup->(∀ u∈ts,WSx n u)->p ∉ bs->H2 p=some (.lst ws) ->
   ∀ (x:V) (i:Nat) (H3:Hp),ws[i]?=some x->(∃ b c,bs=b++c/\SBs b H2 H3/\HasAL K H2 (ts.drop i) (ws.drop i) c) ->
    ∃ t' b,HasA K H3 t' x b/\b.Nodup/\WSx n t'/\∀ H4,SBs b H3 H4->∃ b' c,bs=b'++c/\SBs b' H2 H4/\HasAL K H2 (ts.drop (i+1)) (ws.drop (i+1)) c:=by
  intro ts ws bs p H2 hA hN hWS hp hpp x i H3 hx ⟨b,c,e,s3,hD⟩
  have hlt:=(a0s.mp hx).1
  have hxe:=(a0s.mp hx).2
  have ed:ws.drop i=x::ws.drop (i+1):=by rw [a1v hlt,hxe]
  obtain ⟨t',us,b1,c1,et,h1,h2,e2⟩:=hD.at ed
  have eu:ts.drop (i+1)=us:=by rw [<- a3f (i:=1),et]; rfl
  have hmem:t'∈ts:=a3b (i:=i) (by rw [et]; exact a0k)
  rw [e,e2] at hN
  have hN2:=a2I.mp hN
  have hN3:=a2I.mp hN2.2.1
  refine ⟨t',b1,HasA.kept s3 (fun y hy=>hA.lists y (by rw [e]; exact a0v _ hy)) h1 (fun y hy hy'=>hN2.2.2 y hy' y (a0v _ hy) rfl),hN3.1,hWS t' hmem,fun H4 s4=>⟨b++b1,c1,by rw [e,e2,a0V],s3.trans s4,?_⟩⟩
  rw [eu]
  exact h2
 cases t with
 | non =>
  refine ⟨_,_,p0,rfl,SqT.of hp0,ht.has.mono s0,_,rfl,jl ?_⟩
  refine ⟨_,rfl,_,.non,rfl,(ht.has.mono s0 :),_,rfl,jl ?_⟩
  exact q _ (SBs.same s0)
 | str z =>
  refine ⟨_,_,p0,rfl,SqT.of hp0,ht.has.mono s0,_,rfl,jl ?_⟩
  refine ⟨_,rfl,_,.str z,rfl,(ht.has.mono s0 :),_,rfl,jl ?_⟩
  exact q _ (SBs.same s0)
 | int i =>
  refine ⟨_,_,p0,rfl,SqT.of hp0,ht.has.mono s0,_,rfl,jl ?_⟩
  refine ⟨_,rfl,_,.int i,rfl,ht.has.mono s0,_,rfl,jl ?_⟩
  exact q _ (SBs.same s0)
 | bl i =>
  refine ⟨_,_,p0,rfl,SqT.of hp0,ht.has.mono s0,_,rfl,jl ?_⟩
  refine ⟨_,rfl,_,.bl i,rfl,ht.has.mono s0,_,rfl,jl ?_⟩
  exact q _ (SBs.same s0)
 | tup ts =>
  have ht0:=ht.has
  obtain ⟨hlen,hall⟩:=hw
  obtain ⟨a,ws,rfl,hS,hL⟩:=ht
  refine ⟨_,_,p0,rfl,SqT.of hp0,ht0.mono s0,_,rfl,yf ?_⟩
  refine ⟨_,rfl,a,ws,rfl,.inr (Same.sqt s0 hS),fun p hp=>⟨p,rfl,⟨_,SqL.of aj⟩,?_⟩⟩
  have u:=b8 hp (.lst ws)
  have S1:=s0.trans u
  have hpn:p ∉ as:=fun z=>by obtain ⟨zs,e⟩:=hL.lists p z; rw [s0 _ _ e] at hp; cases hp
  have hp1:upd H1 p (.lst ws) p=some (.lst ws):=aj
  generalize upd H1 p (.lst ws)=H2 at S1 hp1 u ⊢
  have hA:=hL.mono S1
  refine f6 (K:=K) (a:=p) (xs:=ws) (fun i σ H3=>(∃ o,σ=[some (.ref a),o])/\∃ b c,as=b++c/\SBs b H2 H3/\HasAL K H2 (ts.drop i) (ws.drop i) c) ⟨⟨_,rfl⟩,[],as,rfl,SBs.refl,hA⟩ (fun i σ H3 _ h3=>?_) ?_ ?_
  ·obtain ⟨_,b,c,e,s3,_⟩:=h3
   exact SqL.of (s3 _ _ (fun z=>hpn (by rw [e]; exact a0v _ z)) hp1)
  ·rintro i x σ H3 hx ⟨⟨o,rfl⟩,h3⟩
   obtain ⟨t',b,g1,g2,g3,g4⟩:=turn hA hnd hall hpn hp1 x i H3 hx h3
   exact ⟨_,rfl,x,t',b,rfl,g1,g2,g3,fun H4 s4=>⟨⟨_,rfl⟩,g4 H4 s4⟩⟩
  rintro σ H3 ⟨⟨o,rfl⟩,b,c,e,s3,hD⟩
  have hb:∀ y∈b,∃ zs,H2 y=some (.lst zs):=fun y hy=>hA.lists y (by rw [e]; exact a0v _ hy)
  refine ⟨_,rfl,_,.tup ts,rfl,⟨a,ws,rfl,ki s3 hb (Same.sqt S1 hS)⟩,_,rfl,jl ?_⟩
  exact q _ ⟨fun y uy ny hy=>s3 y uy (fun z=>ny (by rw [e]; exact a0v _ z)) (S1 _ _ hy),fun y hy=>s3.al y (iJ S1 y hy)⟩
 | lst ts =>
  have ht0:=ht.has
  obtain ⟨hlen,hall⟩:=hw
  obtain ⟨a,ws,bs,rfl,hS,hL,rfl⟩:=ht
  have hnd':=a1n.mp hnd
  refine ⟨_,_,p0,rfl,SqT.of hp0,ht0.mono s0,_,rfl,yf ?_⟩
  refine ⟨_,rfl,a,ws,rfl,.inl (SqL.of (s0 _ _ hS)),fun p hp=>⟨p,rfl,⟨_,SqL.of aj⟩,?_⟩⟩
  have u:=b8 hp (.lst ws)
  have S1:=s0.trans u
  have hpn:p ∉ bs:=fun z=>by obtain ⟨zs,e⟩:=hL.lists p z; rw [s0 _ _ e] at hp; cases hp
  have hp1:upd H1 p (.lst ws) p=some (.lst ws):=aj
  generalize upd H1 p (.lst ws)=H2 at S1 hp1 u ⊢
  have hA:=hL.mono S1
  refine f6 (K:=K) (a:=p) (xs:=ws) (fun i σ H3=>(∃ o,σ=[some (.ref a),o])/\∃ b c,bs=b++c/\SBs b H2 H3/\HasAL K H2 (ts.drop i) (ws.drop i) c) ⟨⟨_,rfl⟩,[],bs,rfl,SBs.refl,hA⟩ (fun i σ H3 _ h3=>?_) ?_ ?_
  ·obtain ⟨_,b,c,e,s3,_⟩:=h3
   exact SqL.of (s3 _ _ (fun z=>hpn (by rw [e]; exact a0v _ z)) hp1)
  ·rintro i x σ H3 hx ⟨⟨o,rfl⟩,h3⟩
   obtain ⟨t',b,g1,g2,g3,g4⟩:=turn hA hnd'.2 hall hpn hp1 x i H3 hx h3
   exact ⟨_,rfl,x,t',b,rfl,g1,g2,g3,fun H4 s4=>⟨⟨_,rfl⟩,g4 H4 s4⟩⟩
  rintro σ H3 ⟨⟨o,rfl⟩,b,c,e,s3,hD⟩
  have ha3:H3 a=some (.lst ws):=s3 _ _ (fun z=>hnd'.1 (by rw [e]; exact a0v _ z)) (S1 _ _ hS)
  refine ⟨_,rfl,_,.lst ts,rfl,⟨a,ws,rfl,SqL.of ha3⟩,_,rfl,yf ?_⟩
  refine ⟨_,rfl,.inl ⟨rfl,_,SqL.of ha3⟩,a,ws,_,rfl,rfl,ha3,(by rw [hL.has.length]; exact a1j hlen (by decide)),?_⟩
  refine q _ ⟨fun y uy ny hy=>?_,fun y hy z=>?_⟩
  rotate_left
  ·by_cases ya:y=a
   ·rw [ya,aj] at z; cases z
   ·rw [ag ya] at z; exact s3.al y (iJ S1 y hy) z
  have ny':=fun z=>ny (a0n.mpr z)
  rw [ag (fun z=>ny' (.inl z))]
  exact s3 y uy (fun z=>ny' (.inr (by rw [e]; exact a0v _ z))) (S1 _ _ hy)
theorem iu (F:Fun K "_law_spoil" "_law_spoil" iA f fd)(bG:Binds K fd ["thing"] [])(T:Txt mg)(mF:mg "_law_spoil"=some (.ref f)):∀ n,FnOk P w K mg base CX0 n f fd ["thing"] (fD K n)
 | 0=>⟨fun vs H Q E h=>by obtain ⟨_,_,_,_,_,_,hd,_⟩:=h; exact hd.elim,fun A outer s H args us vs Q E _ _ _ _ h=>by obtain ⟨_,_,_,_,_,_,hd,_⟩:=h; exact hd.elim⟩
 | n+1=>sd F (iu F bG T mF n) bG T mF
theorem jV (F:Fun K "_law_spoil" "_law_spoil" iA f fd)(b:Binds K fd ["thing"] [])(T:Txt mg)(m:mg "_law_spoil"=some (.ref f)):∀ n,FnOk P w K mg base CX0 n f fd ["thing"] (spS K (Cl n) xY [])
 | 0=>fn0 fun _=>rfl
 | n+1=>(iu F b T m (n+1)).imp fun _ _ _ _ h=>n9 (fun _=>rfl) h
end
noncomputable abbrev rK:Stmt:=s1
noncomputable abbrev BJ:Nat:=1
section
variable {P:Program}{w:World}{K:a0a}{mg:Str->Option Value}{base:Heap}{f:Addr}{fd:FuncData}
theorem scRo:ao ["lengths","things","rows","start","length"] ["lengths","things"] (defScope rK):=⟨rfl,rfl,rfl,by decide +kernel,rfl,by decide +kernel,by decide +kernel⟩
theorem vP (xs:List V)(i n:Nat):dk xs (some (i:Int)) (some ((i:Int)+(n:Int)))=(xs.drop i).take n:=by
 have e:(i:Int)+(n:Int)=((i+n:Nat):Int):=by omega
 unfold dk
 rw [e,HT.sIx_nat,HT.sIx_nat]
 by_cases h:i<=xs.length
 ·rw [a27 h]
  by_cases h2:i+n<=xs.length
  ·rw [a27 h2,a15]
  ·rw [a2f (by omega),a1f (by rw [a1e]; omega),a1f (by rw [a1e]; omega)]
 ·rw [a2f (by omega:xs.length<=i),a2f (by omega:xs.length<=i+n),a2Y (a0d _),a2Y (by omega)]
  simp
theorem uU {k:Nat}(F:Fun K "in_rows" "in_rows" rK f fd)(T:Txt mg):FnOk P w K mg base CX0 (k+1) f fd ["lengths","things"] (mE K):=by
 refine F.ok scRo (fun vs H Q E h=>?_) (fun cdv A outer s H vs Q E hr h=>?_)
 ·obtain ⟨la,ta,ls,ws,rfl,_⟩:=h
  rfl
 obtain ⟨la,ta,ls,ws,rfl,hla,hta,hll,q⟩:=h
 refine ⟨_,b7 (fW (i:=2) scRo.nd rfl (a0F rfl) (oH aM))
  (b7 (fW (i:=3) scRo.nd rfl (a0F rfl) kH)
  (b7 (iX PassesOwn.never rfl (jb (pv 0)) (cV (i:=4) scRo.nd rfl (a0F rfl))
   (b7 (cj (lX a1C a1Y a1Z eL (pv 2) (aq (fG sl_list (pv 1) (fA (pv 3)) (fA (ff op_add (pv 3) (pv 4)))) aM)))
   (ck (fW (i:=3) scRo.nd rfl (a0F rfl) (ff op_add (pv 3) (pv 4))))))
  (ck (ly (pv 2))))),?_⟩
 refine ⟨a0O _,fun ra hra=>?_⟩
 have s0:Same H (upd H ra (.lst [])):=b8 hra _
 refine ⟨_,rfl,la,rfl,⟨_,gp s0 hla⟩,?_⟩
 refine f6 (K:=K) (a:=la) (xs:=fH ls) (fun i σ H2=>i<=ls.length/\(∃ o,σ=[some (.ref la),some (.ref ta),some (.ref ra),some (.int (((ls.take i).sum:Nat):Int)),o])/\Same H H2/\∃ ps:List Addr,H2 ra=some (.lst (ps.map V.ref))/\RowsAt H H2 ra (ls.take i) ws ps)
  ⟨a0O _,⟨_,rfl⟩,s0,[],aj,rfl⟩ (fun i σ H2 _ h2=>gp h2.2.2.1 hla) ?_ ?_
 ·rintro i x σ H2 hx ⟨hi,⟨o,rfl⟩,s2,ps,hrs,hR⟩
  obtain ⟨n,en,ex⟩:∃ n,ls[i]?=some n/\x=.int (n:Int):=by
   unfold fH at hx
   rw [a0t] at hx
   cases e:ls[i]? with
   | none=>rw [e] at hx; cases hx
   | some n=>rw [e] at hx; exact ⟨n,rfl,(a0w hx).symm⟩
  subst ex
  have hi':i < ls.length:=(a0s.mp en).1
  have hlr:=hR.length
  rw [a02] at hlr
  refine ⟨_,rfl,.inl ⟨rfl,_,SqL.of hrs⟩,_,rfl,_,rfl,_,rfl,_,rfl,_,rfl,_,_,rfl,rfl,_,rfl,ta,ws,rfl,gp s2 hta,fun p hp=>?_⟩
  have u:=b8 hp (.lst (dk ws (some (((ls.take i).sum:Nat):Int)) (some ((((ls.take i).sum:Nat):Int)+(n:Int)))))
  have npr:p≠ra:=fun e=>by rw [e,hrs] at hp; cases hp
  refine ⟨ra,ps.map V.ref,_,rfl,rfl,u _ _ hrs,(by rw [a0b]; exact a0f (show ps.length < ls.length by omega) (a0o hll (by decide))),?_⟩
  refine ⟨_,rfl,_,rfl,_,_,rfl,rfl,?_⟩
  have etk:ls.take (i+1)=ls.take i++[n]:=by rw [List.take_add_one,en]; rfl
  refine ⟨hi',⟨some (.int (n:Int)),?_⟩,Same.own (s2.trans u) hra _,ps++[p],by rw [aj,a1z]; rfl,?_⟩
  ·rw [etk,a2i]
   show [some (V.ref la),some (V.ref ta),some (V.ref ra),some (V.int ((((ls.take i).sum:Nat):Int)+(n:Int))),some (V.int (n:Int))]=[some (V.ref la),some (V.ref ta),some (V.ref ra),some (V.int (((ls.take i).sum+[n].sum:Nat):Int)),some (V.int (n:Int))]
   have:[n].sum=n:=by simp
   rw [this]
   have e2:(((ls.take i).sum:Nat):Int)+(n:Int)=(((ls.take i).sum+n:Nat):Int):=by omega
   rw [e2]
  ·rw [etk]
   have hpH:H p=none:=nq s2 hp
   have hpp:p ∉ ps:=fun z=>by obtain ⟨zs,e⟩:=(hR.new p z).2.2; rw [hp] at e; cases e
   refine RowsAt.snoc hpH npr (hR.keep fun b o hb e=>?_) hpp ?_
   ·rw [ag hb]; exact u b o e
   ·rw [ag npr,aj,vP]
 rintro σ H2 ⟨_,⟨o,rfl⟩,s2,ps,hrs,hR⟩
 have el:(fH ls).length=ls.length:=by unfold fH; rw [a0b]
 rw [el,a3C] at hR
 exact ⟨_,rfl,q _ _ _ s2 hra hrs hR⟩
theorem lW (F:Fun K "in_rows" "in_rows" rK f fd)(T:Txt mg):∀ n,FnOk P w K mg base CX0 n f fd ["lengths","things"] (spS K (Cl n) BJ [])
 | 0=>fn0 fun _=>rfl
 | n+1=>(uU (k:=n) F T).imp fun _ _ _ _ h=>qR (fun _=>rfl) h
end
section
variable {P:Program}{w:World}{K:a0a}{mg:Str->Option Value}{base:Heap}
theorem all (d1:Df K mg "in_rows" s1 ["lengths","things"])(d6:Df K mg "flat_of" s6 ["kind","worths"])(d7:Df K mg "worths_of" s7 ["kind","flat","many"])(d11:Df K mg "many_in" s11 ["kind","flat"])(d313:Df K mg "taken" mN ["kind","flat","numbers"])(d13:Df K mg "taken_there" s13 ["kind","flat","numbers"])(d14:Df K mg "things_of" s14 ["lengths","numbers"])(d20:Df K mg "_law_draw" s20 ["tape","many"])(d21:Df K mg "_law_number" s21 ["tape"])(d22:Df K mg "_law_kind" s22 ["tape","left"])(d23:DfD K mg "_law_worth" s23 ["tape","kind","long"] (.bool true))(d24:Df K mg "_law_alike" s24 ["due","found"])(d314:Df K mg "_law_other" rO ["e"])(d318:Df K mg "_law_refused" oO ["kind","flat","numbers"])(d316:Df K mg "_law_strange" pX ["tape","many"])(d95:Df K mg "_law_spoil" s95 ["thing"])(d317:Df K mg "_law_right" nF ["kind","worths","numbers"])  (T:Txt mg)(G:Glb K w mg)(xs:Xs P w K mg base):∀ n,Calls P w K mg base (n+2) (Cl n)
 | 0 =>
  have c1:ai P w K mg base (0+2) (Cl 0) "in_rows" 1 []:=d1.ok fun _ _ F=>(lW F T 0).mono (a0U _ 2)
  have c6:ai P w K mg base (0+2) (Cl 0) "flat_of" 6 []:=d6.z
  have c7:ai P w K mg base (0+2) (Cl 0) "worths_of" 7 []:=d7.z
  have c11:ai P w K mg base (0+2) (Cl 0) "many_in" 11 []:=d11.z
  have c313:ai P w K mg base (0+2) (Cl 0) "taken" 313 []:=d313.z
  have x313:dF P w K mg base (0+2) (Cl 0) "taken" 313:=d313.zX
  have c13:ai P w K mg base (0+2) (Cl 0) "taken_there" 13 []:=d13.z
  have c14:ai P w K mg base (0+2) (Cl 0) "things_of" 14 []:=d14.z
  have c20:ai P w K mg base (0+2) (Cl 0) "_law_draw" 20 [0]:=d20.z
  have c21:ai P w K mg base (0+2) (Cl 0) "_law_number" 21 [0]:=d21.z
  have c22:ai P w K mg base (0+2) (Cl 0) "_law_kind" 22 [0]:=d22.z
  have c23:ai P w K mg base (0+2) (Cl 0) "_law_worth" 23 [0]:=d23.z
  have e23:cR P w K mg base (0+2) (Cl 0) "_law_worth" 23 [0] (.bl true):=d23.zD
  have c24:ai P w K mg base (0+2) (Cl 0) "_law_alike" 24 []:=d24.z
  have c314:ai P w K mg base (0+2) (Cl 0) "_law_other" 314 []:=d314.z
  have c318:ai P w K mg base (0+2) (Cl 0) "_law_refused" 318 []:=d318.z
  have c316:ai P w K mg base (0+2) (Cl 0) "_law_strange" 316 [0]:=d316.z
  have c95:ai P w K mg base (0+2) (Cl 0) "_law_spoil" 95 []:=let ⟨_,_,F,b,m⟩:=d95.ex; ⟨_,_,_,(jV F b T m 0).mono (a0U _ 2),m,F.kp,b⟩
  have c317:ai P w K mg base (0+2) (Cl 0) "_law_right" 317 []:=d317.z
  have x317:dF P w K mg base (0+2) (Cl 0) "_law_right" 317:=d317.zX
  ⟨c1,c6,c7,c11,c313,x313,c13,c14,c20,c21,c22,c23,e23,c24,c314,c318,c316,c95,c317,x317⟩
 | n+1 =>
  have c:=all d1 d6 d7 d11 d313 d13 d14 d20 d21 d22 d23 d24 d314 d318 d316 d95 d317  T G xs n
  have c1:ai P w K mg base ((n+1)+2) (Cl (n+1)) "in_rows" 1 []:=d1.ok fun _ _ F=>(lW F T (n+1)).mono (a0U _ 2)
  have c6:ai P w K mg base ((n+1)+2) (Cl (n+1)) "flat_of" 6 []:=d6.s bo S6 (C:=Cl n) (by intro f cdv A outer s H E h; exact @D6 P w K mg base n (Cl n) f cdv A outer s H E xs c T G h)
  have c7:ai P w K mg base ((n+1)+2) (Cl (n+1)) "worths_of" 7 []:=d7.s aR S7 (C:=Cl n) (by intro f cdv A outer s H E h; exact @D7 P w K mg base n (Cl n) f cdv A outer s H E xs c T G h)
  have c11:ai P w K mg base ((n+1)+2) (Cl (n+1)) "many_in" 11 []:=d11.s bj S11 (C:=Cl n) (by intro f cdv A outer s H E h; exact @D11 P w K mg base n (Cl n) f cdv A outer s H E xs c T G h)
  have c313:ai P w K mg base ((n+1)+2) (Cl (n+1)) "taken" 313 []:=d313.s cw uY (C:=Cl n) (by intro f cdv A outer s H E h; exact @Ea P w K mg base n (Cl n) f cdv A outer s H E xs c T G h)
  have x313:dF P w K mg base ((n+1)+2) (Cl (n+1)) "taken" 313:=d313.sX cw uY (C:=Cl n) (by intro f cdv A outer s H E h; exact @DZ P w K mg base n (Cl n) f cdv A outer s H E xs c T G h)
  have c13:ai P w K mg base ((n+1)+2) (Cl (n+1)) "taken_there" 13 []:=d13.s aK S13 (C:=Cl n) (by intro f cdv A outer s H E h; exact @D13 P w K mg base n (Cl n) f cdv A outer s H E xs c T G h)
  have c14:ai P w K mg base ((n+1)+2) (Cl (n+1)) "things_of" 14 []:=d14.s bN S14 (C:=Cl n) (by intro f cdv A outer s H E h; exact @D14 P w K mg base n (Cl n) f cdv A outer s H E xs c T G h)
  have c20:ai P w K mg base ((n+1)+2) (Cl (n+1)) "_law_draw" 20 [0]:=d20.s aV S20 (C:=Cl n) (by intro f cdv A outer s H E h; exact @D20 P w K mg base n (Cl n) f cdv A outer s H E xs c T G h)
  have c21:ai P w K mg base ((n+1)+2) (Cl (n+1)) "_law_number" 21 [0]:=d21.s bx S21 (C:=Cl n) (by intro f cdv A outer s H E h; exact @D21 P w K mg base n (Cl n) f cdv A outer s H E xs c T G h)
  have c22:ai P w K mg base ((n+1)+2) (Cl (n+1)) "_law_kind" 22 [0]:=d22.s b9 S22 (C:=Cl n) (by intro f cdv A outer s H E h; exact @D22 P w K mg base n (Cl n) f cdv A outer s H E xs c T G h)
  have c23:ai P w K mg base ((n+1)+2) (Cl (n+1)) "_law_worth" 23 [0]:=d23.s aC S23 (C:=Cl n) (by intro f cdv A outer s H E h; exact @D23 P w K mg base n (Cl n) f cdv A outer s H E xs c T G h)
  have e23:cR P w K mg base ((n+1)+2) (Cl (n+1)) "_law_worth" 23 [0] (.bl true):=d23.sD aC S23 (C:=Cl n) (by intro f cdv A outer s H E h; exact @D23 P w K mg base n (Cl n) f cdv A outer s H E xs c T G h)
  have c24:ai P w K mg base ((n+1)+2) (Cl (n+1)) "_law_alike" 24 []:=d24.s ay S24 (C:=Cl n) (by intro f cdv A outer s H E h; exact @D24 P w K mg base n (Cl n) f cdv A outer s H E xs c T G h)
  have c314:ai P w K mg base ((n+1)+2) (Cl (n+1)) "_law_other" 314 []:=d314.s bK Dq (C:=Cl n) (by intro f cdv A outer s H E h; exact @Ep P w K mg base n (Cl n) f cdv A outer s H E xs c T G h)
  have c318:ai P w K mg base ((n+1)+2) (Cl (n+1)) "_law_refused" 318 []:=d318.s bc BY (C:=Cl n) (by intro f cdv A outer s H E h; exact @Ex P w K mg base n (Cl n) f cdv A outer s H E xs c T G h)
  have c316:ai P w K mg base ((n+1)+2) (Cl (n+1)) "_law_strange" 316 [0]:=d316.s aZ CH (C:=Cl n) (by intro f cdv A outer s H E h; exact @Eb P w K mg base n (Cl n) f cdv A outer s H E xs c T G h)
  have c95:ai P w K mg base ((n+1)+2) (Cl (n+1)) "_law_spoil" 95 []:=let ⟨_,_,F,b,m⟩:=d95.ex; ⟨_,_,_,(jV F b T m (n+1)).mono (a0U _ 2),m,F.kp,b⟩
  have c317:ai P w K mg base ((n+1)+2) (Cl (n+1)) "_law_right" 317 []:=d317.s aU tj (C:=Cl n) (by intro f cdv A outer s H E h; exact @DQ P w K mg base n (Cl n) f cdv A outer s H E xs c T G h)
  have x317:dF P w K mg base ((n+1)+2) (Cl (n+1)) "_law_right" 317:=d317.sX aU tj (C:=Cl n) (by intro f cdv A outer s H E h; exact @D4 P w K mg base n (Cl n) f cdv A outer s H E xs c T G h)
  ⟨c1,c6,c7,c11,c313,x313,c13,c14,c20,c21,c22,c23,e23,c24,c314,c318,c316,c95,c317,x317⟩
end
theorem pure_law:∀ ns:List Int,ns.length<=63->∃ m bs,Cl 40 0 [(.d,.scr ns)]=.ok ((m,.bl true),bs):=fun ns _=>P34.pure_law ns
theorem all_mk {l:a22}{w:World}{K:a0a}{h:Heap}{mg:Str->Option Value}{fa:Addr}(X:K.In h)(G:h.Ns mainGlobals mg)(hfa:mg "law"=some (.ref fa))(r1:Raw K "in_rows" s1 .none)(r6:Raw K "flat_of" s6 .none)(r7:Raw K "worths_of" s7 .none)(r11:Raw K "many_in" s11 .none)(r313:Raw K "taken" mN .none)(r13:Raw K "taken_there" s13 .none)(r14:Raw K "things_of" s14 .none)(r20:Raw K "_law_draw" s20 .none)(r21:Raw K "_law_number" s21 .none)(r22:Raw K "_law_kind" s22 .none)(r23:RawD K "_law_worth" s23 (.bool true))(r24:Raw K "_law_alike" s24 .none)(r314:Raw K "_law_other" rO .none)(r318:Raw K "_law_refused" oO .none)(r316:Raw K "_law_strange" pX .none)(r95:Raw K "_law_spoil" s95 .none)(r317:Raw K "_law_right" nF .none)(r0:Raw K "law" s0 .none)   (tx:AL K ["isinstance","int","tuple","list","bool","sum","len","all","zip","range","enumerate","any","max","min","sorted","str","repr","abs","dict","set","reversed"])(xs:∀ base,Xs l.prog w K mg base) :
  ∃ fd:FuncData,(∀ (s:Shared) (v:Value),BindsTo s fd ⟨[v],[]⟩ [("script",v)])/\∀ base:Heap,K.In base->base.Ns mainGlobals mg->FnOk l.prog w K mg base CX0 42 fa fd ["script"] (spS K (Cl 40) 0 []):=by
 have d1:Df K mg "in_rows" s1 ["lengths","things"]:=bQ X G r1 fun _ _ _ _ _ _ us hl=>match us,hl with | [_,_],_=>rfl
 have d6:Df K mg "flat_of" s6 ["kind","worths"]:=bQ X G r6 fun _ _ _ _ _ _ us hl=>match us,hl with | [_,_],_=>rfl
 have d7:Df K mg "worths_of" s7 ["kind","flat","many"]:=bQ X G r7 fun _ _ _ _ _ _ us hl=>match us,hl with | [_,_,_],_=>rfl
 have d11:Df K mg "many_in" s11 ["kind","flat"]:=bQ X G r11 fun _ _ _ _ _ _ us hl=>match us,hl with | [_,_],_=>rfl
 have d313:Df K mg "taken" mN ["kind","flat","numbers"]:=bQ X G r313 fun _ _ _ _ _ _ us hl=>match us,hl with | [_,_,_],_=>rfl
 have d13:Df K mg "taken_there" s13 ["kind","flat","numbers"]:=bQ X G r13 fun _ _ _ _ _ _ us hl=>match us,hl with | [_,_,_],_=>rfl
 have d14:Df K mg "things_of" s14 ["lengths","numbers"]:=bQ X G r14 fun _ _ _ _ _ _ us hl=>match us,hl with | [_,_],_=>rfl
 have d20:Df K mg "_law_draw" s20 ["tape","many"]:=bQ X G r20 fun _ _ _ _ _ _ us hl=>match us,hl with | [_,_],_=>rfl
 have d21:Df K mg "_law_number" s21 ["tape"]:=bQ X G r21 fun _ _ _ _ _ _ us hl=>match us,hl with | [_],_=>rfl
 have d22:Df K mg "_law_kind" s22 ["tape","left"]:=bQ X G r22 fun _ _ _ _ _ _ us hl=>match us,hl with | [_,_],_=>rfl
 have d23:DfD K mg "_law_worth" s23 ["tape","kind","long"] (.bool true):=zW X G r23 (fun _ _ _ _ _ _ _ us hl=>match us,hl with | [_,_,_],_=>⟨_,rfl,rfl⟩) (fun _ _ _ _ _ _ _ us hl=>by obtain ⟨_,_,rfl⟩:=yo hl; exact ⟨_,rfl,rfl⟩)
 have d24:Df K mg "_law_alike" s24 ["due","found"]:=bQ X G r24 fun _ _ _ _ _ _ us hl=>match us,hl with | [_,_],_=>rfl
 have d314:Df K mg "_law_other" rO ["e"]:=bQ X G r314 fun _ _ _ _ _ _ us hl=>match us,hl with | [_],_=>rfl
 have d318:Df K mg "_law_refused" oO ["kind","flat","numbers"]:=bQ X G r318 fun _ _ _ _ _ _ us hl=>match us,hl with | [_,_,_],_=>rfl
 have d316:Df K mg "_law_strange" pX ["tape","many"]:=bQ X G r316 fun _ _ _ _ _ _ us hl=>match us,hl with | [_,_],_=>rfl
 have d95:Df K mg "_law_spoil" s95 ["thing"]:=bQ X G r95 fun _ _ _ _ _ _ us hl=>match us,hl with | [_],_=>rfl
 have d317:Df K mg "_law_right" nF ["kind","worths","numbers"]:=bQ X G r317 fun _ _ _ _ _ _ us hl=>match us,hl with | [_,_,_],_=>rfl
 have T:=AG X G tx
 have Gm:Glb K w mg:=⟨⟩
 exact uo X G hfa r0 (fun _ _ _ _ _ _ _ _=>.of_eq rfl) fun f fd F base=>Fun.okM F S0 rfl (by decide) (by decide) (by decide) (fun _ _ _ _ _ _ h=>D0 (xs base) (all d1 d6 d7 d11 d313 d13 d14 d20 d21 d22 d23 d24 d314 d318 d316 d95 d317  T Gm (xs base) 39) T Gm h) fun _=>rfl
end A34

namespace I34
open PySem PySem.Spec PyProof.Rows L2 L3 MR
noncomputable def top (i:Nat):Stmt:=PySem.Challenge.pw_broadrow_k34_taken_by_numbers.main.body.getD i (.Pass ⟨0,0,0,0⟩)
noncomputable def yr:Stmt->List Stmt
 | .ClassDef _ _ _ b _ _ _ _ _ _ _=>b
 | _=>[]
noncomputable def ini (i:Nat):Stmt:=(yr (top i)).getD 0 (.Pass ⟨0,0,0,0⟩)
noncomputable abbrev sI:Stmt:=ini 5
theorem S:ao ["self","number"] ["self","number"] (defScope sI):=fsc
theorem init_ok {P:Program}{w:World}{K:a0a}{mg:Str->Option Value}{base:Heap}{f:Addr}{fd:FuncData}{B C fI:Addr}{up:List Value}{k:Nat}(F:L2.Fun K "__init__" "NoThing.__init__" sI f fd)(hm:mg "BroadError"=some (.ref B))(b:XB K B)(c:XC K C fI up)(tk:a2l K C "number"=some none) :
  FnOk P w K mg base CX0 (k+1) f fd ["self","number"] (spI C "number"):=by
 have len:∀ vs H Q E,spI C "number" vs H Q E->vs.length=["self","number"].length:=fun vs H Q E ⟨a,n,e,_⟩=>by rw [e]; rfl
 refine F.ok S len fun cdv A outer s H vs Q E hr h=>⟨_,b7 (cj (pD (B:=B) b rfl hm (aq (bZ (i:=0) rfl (.inl rfl)) (aq (vR (by decide) (bZ (i:=1) rfl (.inl rfl))) aM))) rfl) (ck (sR (bZ (i:=0) rfl (.inl rfl)) (bZ (i:=1) rfl (.inl rfl)) rfl)),?_⟩
 obtain ⟨a,n,rfl,hn,ha,q⟩:=h
 exact ⟨.ref a,rfl,.int n,rfl,n,rfl,hn,fun y=>⟨a,C,none,true,[.str y],fI,up,rfl,(by show 1<=sizeLine; rw [sizeLine_eq]; omega),ha,c,.int n,rfl,.ref a,rfl,a,C,true,fI,up,rfl,ha,c,tk,q⟩⟩
end I34

set_option maxHeartbeats 0
namespace H34
open PySem PySem.W TP
noncomputable abbrev pr:Program:=PySem.Challenge.pw_broadrow_k34_taken_by_numbers
noncomputable def tn (i:Nat):Stmt:=pr.main.body.getD i (.Pass p0)
noncomputable def rc:List Rc:=[.m,
.x "BroadError" 206 (.ref 24) (fun P=>[tu [.type "ValueError"],⟨.type "builtin_function_or_method",none,.fields #[.builtin "type.__prepare__",.type "type"],#[]⟩,di [en P "__module__" 196 (.str "broadrow.errors" 187),en P "__qualname__" 198 (.str "BroadError" 197),en P "__firstlineno__" 200 (.int (2) 199),en P "__static_attributes__" 201 (.ref 22)] 4,tu [],fe [],cdo "BroadError" "BroadError" 191 194 2 0 0 18 false .none .none .none,⟨.type "frame",none,.plain,#[some (.ref 20),some (.ref 3),some (.ref 17),none,some (.str "broadrow.errors" 187),none,some (.ref 0)]⟩,tu [],di [en P "__module__" 196 (.str "broadrow.errors" 187),en P "__firstlineno__" 200 (.int (2) 199),en P "__static_attributes__" 201 (.ref 22),en P "__weakref__" 203 (.ref 25),en P "__doc__" 204 .none] 3,⟨.type "type",none,.cls {name:="BroadError",bases:=[.type "ValueError"],mro:=[.ref 24,.type "ValueError",.type "Exception",.type "BaseException",.type "object"],ns:=23,qualname:="BroadError",subclasses:=[.ref 44,.ref 63,.ref 82,.ref 101,.ref 120,.ref 139]},#[some (.ref 15),none,some (.str "BroadError" 189),some (.str "BroadError" 197),some (.builtin "ValueError.__new__"),some (.bool true)]⟩,⟨.type "getset_descriptor",none,.fields #[.str "__weakref__" 202,.ref 24,.builtin "ExceptionGroup.__weakref__",.none],#[]⟩,⟨.type "super",none,.fields #[.ref 24,.ref 24,.ref 24],#[]⟩,⟨.type "builtin_function_or_method",none,.fields #[.builtin "object.__init_subclass__",.ref 24],#[]⟩]) [iv 2,iv 0,.ref 20] 28 207,
.x "NoText" 231 (.ref 44) (fun P=>[tu [.ref 24],⟨.type "builtin_function_or_method",none,.fields #[.builtin "type.__prepare__",.type "type"],#[]⟩,di [en P "__module__" 214 (.str "broadrow.errors" 187),en P "__qualname__" 216 (.str "NoText" 215),en P "__firstlineno__" 218 (.int (4) 217),en P "__init__" 226 (.ref 41),en P "__static_attributes__" 228 (.ref 42)] 5,tu [],fe [iv 6,iv 4,.ref 40],cdo "NoText" "NoText" 209 212 4 0 0 31 false .none .none .none,⟨.type "frame",none,.plain,#[some (.ref 33),some (.ref 3),some (.ref 30),none,some (.str "broadrow.errors" 187),none,some (.ref 0)]⟩,tu [],fe [],tu [.str "self" 222,.str "at" 223],tu [],ofn .none (cb (tn 2) 0) "NoText.__init__" 0 .none .none .none,cdo "__init__" "NoText.__init__" 219 224 6 2 3 35 true (.ref 37) (.ref 38) (.ref 39),ofn (.type "function") (cb (tn 2) 0) "NoText.__init__" 3 .none (.str "broadrow.errors" 187) (.ref 40),tu [.str "at" 227],di [en P "__module__" 214 (.str "broadrow.errors" 187),en P "__firstlineno__" 218 (.int (4) 217),en P "__init__" 226 (.ref 41),en P "__static_attributes__" 228 (.ref 42),en P "__doc__" 229 .none] 2,⟨.type "type",none,.cls {name:="NoText",bases:=[.ref 24],mro:=[.ref 44,.ref 24,.type "ValueError",.type "Exception",.type "BaseException",.type "object"],ns:=43,qualname:="NoText"},#[some (.ref 28),none,some (.str "NoText" 207),some (.str "NoText" 215),some (.builtin "ValueError.__new__"),some (.bool true)]⟩,⟨.type "super",none,.fields #[.ref 44,.ref 44,.ref 44],#[]⟩,⟨.type "builtin_function_or_method",none,.fields #[.builtin "object.__init_subclass__",.ref 44],#[]⟩]) [iv 4,iv 0,.ref 33] 47 232,
.x "NoKind" 256 (.ref 63) (fun P=>[tu [.ref 24],⟨.type "builtin_function_or_method",none,.fields #[.builtin "type.__prepare__",.type "type"],#[]⟩,di [en P "__module__" 239 (.str "broadrow.errors" 187),en P "__qualname__" 241 (.str "NoKind" 240),en P "__firstlineno__" 243 (.int (9) 242),en P "__init__" 251 (.ref 60),en P "__static_attributes__" 253 (.ref 61)] 5,tu [],fe [iv 11,iv 4,.ref 59],cdo "NoKind" "NoKind" 234 237 9 0 0 50 false .none .none .none,⟨.type "frame",none,.plain,#[some (.ref 52),some (.ref 3),some (.ref 49),none,some (.str "broadrow.errors" 187),none,some (.ref 0)]⟩,tu [],fe [],tu [.str "self" 247,.str "place" 248],tu [],ofn .none (cb (tn 3) 0) "NoKind.__init__" 0 .none .none .none,cdo "__init__" "NoKind.__init__" 244 249 11 2 3 54 true (.ref 56) (.ref 57) (.ref 58),ofn (.type "function") (cb (tn 3) 0) "NoKind.__init__" 3 .none (.str "broadrow.errors" 187) (.ref 59),tu [.str "place" 252],di [en P "__module__" 239 (.str "broadrow.errors" 187),en P "__firstlineno__" 243 (.int (9) 242),en P "__init__" 251 (.ref 60),en P "__static_attributes__" 253 (.ref 61),en P "__doc__" 254 .none] 2,⟨.type "type",none,.cls {name:="NoKind",bases:=[.ref 24],mro:=[.ref 63,.ref 24,.type "ValueError",.type "Exception",.type "BaseException",.type "object"],ns:=62,qualname:="NoKind"},#[some (.ref 47),none,some (.str "NoKind" 232),some (.str "NoKind" 240),some (.builtin "ValueError.__new__"),some (.bool true)]⟩,⟨.type "super",none,.fields #[.ref 63,.ref 63,.ref 63],#[]⟩,⟨.type "builtin_function_or_method",none,.fields #[.builtin "object.__init_subclass__",.ref 63],#[]⟩]) [iv 9,iv 0,.ref 52] 66 257,
.x "NoPlace" 281 (.ref 82) (fun P=>[tu [.ref 24],⟨.type "builtin_function_or_method",none,.fields #[.builtin "type.__prepare__",.type "type"],#[]⟩,di [en P "__module__" 264 (.str "broadrow.errors" 187),en P "__qualname__" 266 (.str "NoPlace" 265),en P "__firstlineno__" 268 (.int (14) 267),en P "__init__" 276 (.ref 79),en P "__static_attributes__" 278 (.ref 80)] 5,tu [],fe [iv 16,iv 4,.ref 78],cdo "NoPlace" "NoPlace" 259 262 14 0 0 69 false .none .none .none,⟨.type "frame",none,.plain,#[some (.ref 71),some (.ref 3),some (.ref 68),none,some (.str "broadrow.errors" 187),none,some (.ref 0)]⟩,tu [],fe [],tu [.str "self" 272,.str "place" 273],tu [],ofn .none (cb (tn 4) 0) "NoPlace.__init__" 0 .none .none .none,cdo "__init__" "NoPlace.__init__" 269 274 16 2 3 73 true (.ref 75) (.ref 76) (.ref 77),ofn (.type "function") (cb (tn 4) 0) "NoPlace.__init__" 3 .none (.str "broadrow.errors" 187) (.ref 78),tu [.str "place" 277],di [en P "__module__" 264 (.str "broadrow.errors" 187),en P "__firstlineno__" 268 (.int (14) 267),en P "__init__" 276 (.ref 79),en P "__static_attributes__" 278 (.ref 80),en P "__doc__" 279 .none] 2,⟨.type "type",none,.cls {name:="NoPlace",bases:=[.ref 24],mro:=[.ref 82,.ref 24,.type "ValueError",.type "Exception",.type "BaseException",.type "object"],ns:=81,qualname:="NoPlace"},#[some (.ref 66),none,some (.str "NoPlace" 257),some (.str "NoPlace" 265),some (.builtin "ValueError.__new__"),some (.bool true)]⟩,⟨.type "super",none,.fields #[.ref 82,.ref 82,.ref 82],#[]⟩,⟨.type "builtin_function_or_method",none,.fields #[.builtin "object.__init_subclass__",.ref 82],#[]⟩]) [iv 14,iv 0,.ref 71] 85 282,
.x "NoThing" 306 (.ref 101) (fun P=>[tu [.ref 24],⟨.type "builtin_function_or_method",none,.fields #[.builtin "type.__prepare__",.type "type"],#[]⟩,di [en P "__module__" 289 (.str "broadrow.errors" 187),en P "__qualname__" 291 (.str "NoThing" 290),en P "__firstlineno__" 293 (.int (19) 292),en P "__init__" 301 (.ref 98),en P "__static_attributes__" 303 (.ref 99)] 5,tu [],fe [iv 21,iv 4,.ref 97],cdo "NoThing" "NoThing" 284 287 19 0 0 88 false .none .none .none,⟨.type "frame",none,.plain,#[some (.ref 90),some (.ref 3),some (.ref 87),none,some (.str "broadrow.errors" 187),none,some (.ref 0)]⟩,tu [],fe [],tu [.str "self" 297,.str "number" 298],tu [],ofn .none (cb (tn 5) 0) "NoThing.__init__" 0 .none .none .none,cdo "__init__" "NoThing.__init__" 294 299 21 2 3 92 true (.ref 94) (.ref 95) (.ref 96),ofn (.type "function") (cb (tn 5) 0) "NoThing.__init__" 3 .none (.str "broadrow.errors" 187) (.ref 97),tu [.str "number" 302],di [en P "__module__" 289 (.str "broadrow.errors" 187),en P "__firstlineno__" 293 (.int (19) 292),en P "__init__" 301 (.ref 98),en P "__static_attributes__" 303 (.ref 99),en P "__doc__" 304 .none] 2,⟨.type "type",none,.cls {name:="NoThing",bases:=[.ref 24],mro:=[.ref 101,.ref 24,.type "ValueError",.type "Exception",.type "BaseException",.type "object"],ns:=100,qualname:="NoThing"},#[some (.ref 85),none,some (.str "NoThing" 282),some (.str "NoThing" 290),some (.builtin "ValueError.__new__"),some (.bool true)]⟩,⟨.type "super",none,.fields #[.ref 101,.ref 101,.ref 101],#[]⟩,⟨.type "builtin_function_or_method",none,.fields #[.builtin "object.__init_subclass__",.ref 101],#[]⟩]) [iv 19,iv 0,.ref 90] 104 307,
.x "NoRule" 331 (.ref 120) (fun P=>[tu [.ref 24],⟨.type "builtin_function_or_method",none,.fields #[.builtin "type.__prepare__",.type "type"],#[]⟩,di [en P "__module__" 314 (.str "broadrow.errors" 187),en P "__qualname__" 316 (.str "NoRule" 315),en P "__firstlineno__" 318 (.int (24) 317),en P "__init__" 326 (.ref 117),en P "__static_attributes__" 328 (.ref 118)] 5,tu [],fe [iv 26,iv 4,.ref 116],cdo "NoRule" "NoRule" 309 312 24 0 0 107 false .none .none .none,⟨.type "frame",none,.plain,#[some (.ref 109),some (.ref 3),some (.ref 106),none,some (.str "broadrow.errors" 187),none,some (.ref 0)]⟩,tu [],fe [],tu [.str "self" 322,.str "text" 323],tu [],ofn .none (cb (tn 6) 0) "NoRule.__init__" 0 .none .none .none,cdo "__init__" "NoRule.__init__" 319 324 26 2 3 111 true (.ref 113) (.ref 114) (.ref 115),ofn (.type "function") (cb (tn 6) 0) "NoRule.__init__" 3 .none (.str "broadrow.errors" 187) (.ref 116),tu [.str "text" 327],di [en P "__module__" 314 (.str "broadrow.errors" 187),en P "__firstlineno__" 318 (.int (24) 317),en P "__init__" 326 (.ref 117),en P "__static_attributes__" 328 (.ref 118),en P "__doc__" 329 .none] 2,⟨.type "type",none,.cls {name:="NoRule",bases:=[.ref 24],mro:=[.ref 120,.ref 24,.type "ValueError",.type "Exception",.type "BaseException",.type "object"],ns:=119,qualname:="NoRule"},#[some (.ref 104),none,some (.str "NoRule" 307),some (.str "NoRule" 315),some (.builtin "ValueError.__new__"),some (.bool true)]⟩,⟨.type "super",none,.fields #[.ref 120,.ref 120,.ref 120],#[]⟩,⟨.type "builtin_function_or_method",none,.fields #[.builtin "object.__init_subclass__",.ref 120],#[]⟩]) [iv 24,iv 0,.ref 109] 123 332,
.x "NoLine" 356 (.ref 139) (fun P=>[tu [.ref 24],⟨.type "builtin_function_or_method",none,.fields #[.builtin "type.__prepare__",.type "type"],#[]⟩,di [en P "__module__" 339 (.str "broadrow.errors" 187),en P "__qualname__" 341 (.str "NoLine" 340),en P "__firstlineno__" 343 (.int (29) 342),en P "__init__" 351 (.ref 136),en P "__static_attributes__" 353 (.ref 137)] 5,tu [],fe [iv 31,iv 4,.ref 135],cdo "NoLine" "NoLine" 334 337 29 0 0 126 false .none .none .none,⟨.type "frame",none,.plain,#[some (.ref 128),some (.ref 3),some (.ref 125),none,some (.str "broadrow.errors" 187),none,some (.ref 0)]⟩,tu [],fe [],tu [.str "self" 347,.str "text" 348],tu [],ofn .none (cb (tn 7) 0) "NoLine.__init__" 0 .none .none .none,cdo "__init__" "NoLine.__init__" 344 349 31 2 3 130 true (.ref 132) (.ref 133) (.ref 134),ofn (.type "function") (cb (tn 7) 0) "NoLine.__init__" 3 .none (.str "broadrow.errors" 187) (.ref 135),tu [.str "text" 352],di [en P "__module__" 339 (.str "broadrow.errors" 187),en P "__firstlineno__" 343 (.int (29) 342),en P "__init__" 351 (.ref 136),en P "__static_attributes__" 353 (.ref 137),en P "__doc__" 354 .none] 2,⟨.type "type",none,.cls {name:="NoLine",bases:=[.ref 24],mro:=[.ref 139,.ref 24,.type "ValueError",.type "Exception",.type "BaseException",.type "object"],ns:=138,qualname:="NoLine"},#[some (.ref 123),none,some (.str "NoLine" 332),some (.str "NoLine" 340),some (.builtin "ValueError.__new__"),some (.bool true)]⟩,⟨.type "super",none,.fields #[.ref 139,.ref 139,.ref 139],#[]⟩,⟨.type "builtin_function_or_method",none,.fields #[.builtin "object.__init_subclass__",.ref 139],#[]⟩]) [iv 29,iv 0,.ref 128] 142 357,
.m,
.d,
.m,
.d,
.d,
.d,
.m,
.d,
.d,
.d,
.m,
.d,
.d,
.d,
.d,
.d,
.d,
.d,
.d,
.d,
.d,
.d]
theorem c0 (w:World):Cut pr rc 0 15 187 p0 1 10 15 189 ⟨1,0,1,8⟩ w:=fun o=>by kernel_rfl
theorem c1 (w:World):Cut pr rc 1 15 189 ⟨1,0,1,8⟩ 7 1657 142 357 ⟨29,0,33,24⟩ w:=fun o=>by kernel_rfl
theorem c8 (w:World):Cut pr rc 8 142 357 ⟨29,0,33,24⟩ 22 577 257 520 ⟨192,0,215,50⟩ w:=fun o=>by kernel_rfl
theorem ch:Ch pr rc 30 257 520 0 15 187 p0 (10+(1657+(577+(2)))):=jk c0 ( jk c1 ( jk c8 (xW (by kernel_rfl))))
noncomputable def q:Program:=view pr [29]
noncomputable def lo:List Str:=(["BroadError","NoText","NoKind","NoPlace","NoThing","NoRule","NoLine","in_rows","flat_of","worths_of","many_in","taken","taken_there","things_of","_law_draw","_law_number","_law_kind","_law_worth","_law_alike","_law_other","_law_refused","_law_strange","_law_spoil","_law_right"]:List String).map Str.ofString
noncomputable def as:List Addr:=[3,24,44,63,82,101,120,139,147,148,152,153,159,160,166,167,173,174,178,179,185,186,192,193,199,200,206,207,208,212,213,217,218,224,225,231,232,238,239,245,246,250,251,255,256,2,23,43,41,40,62,60,59,81,79,78,100,98,97,119,117,116,138,136,135]
noncomputable def K:Params->Frag:=kK pr rc 30 as
noncomputable def hk:Hook:=hkk pr rc 30 257
noncomputable abbrev Xt (s:Shared):Bool:=xlAt q [] s&&recOk (RowW.records (OpenRow.toRowW (OpenLaw.row PySem.Challenge.rw_broadrow_k34_taken_by_numbers))) s
theorem kin (w:World)(h:Heap)(Y:hk.says w h):(K w.params).In h:=DC (by kernel_rfl) (by kernel_rfl) Y
theorem lk (w:World):(fun o=>((staticsOk (importedModules pr.main.body) (boot_heap w.params) (hp pr rc 30 257 w.params)&&namesBound pr (hp pr rc 30 257 w.params)&&gensDone ⟨hp pr rc 30 257 w.params,#[],{},520,o⟩&&laidKept (boot_heap w.params) (hp pr rc 30 257 w.params)),openSeen q lo (importedModules pr.main.body) Xt true ⟨hp pr rc 30 257 w.params,#[],{},520,o⟩,Hook.obs hk ⟨hp pr rc 30 257 w.params,#[],{},520,o⟩))=fun _=>(true,openGood q lo,Hook.val hk w):=by kernel_rfl
theorem e1:opening pr=plainProg pr.main.scope.names:=by kernel_rfl
theorem e2:behindTheImports pr=pr.main.body:=by kernel_rfl
theorem e3 (s:Shared):fenceModules? pr s=some s:=by kernel_rfl
theorem pre (w:World)(o:OsState):topGo treeTable pr w 11 an 12 ⟨boot_heap w.params,a3Y [],boot_drawn,boot_toks,o⟩ (topStub pr)=some ((sT pr rc w.params 0 15 187 o).abs,⟨denote treeTable (cE pr),cE pr,p0,B0⟩):=by kernel_rfl
theorem blk (w:World)(o:OsState):segRun treeTable pr w 11 an 1 1 (sT pr rc w.params 0 15 187 o).abs (blockOf (behindTheImports pr) (ev pr) (cE pr) p0 B0)=some (.next,(sT pr rc w.params 0 15 187 o).abs,cE pr,p0):=by kernel_rfl
theorem left:LeftO pr q lo Xt (Hook.obs hk) (Hook.val hk) 4608:=uR e1 (by kernel_rfl) e3 e2 uS pre blk ch (by kernel_rfl) lk
end H34

namespace A34
open PySem PySem.Spec PyProof.Rows L2 L3 MR
noncomputable abbrev KK (w:World):a0a:=H34.K w.params
noncomputable abbrev UB:List Value:=.ref 24::VE
theorem x44 (w:World):XC (KK w) 44 41 UB:=gS (by kernel_rfl)
theorem x63 (w:World):XC (KK w) 63 60 UB:=gS (by kernel_rfl)
theorem x82 (w:World):XC (KK w) 82 79 UB:=gS (by kernel_rfl)
theorem tD (w:World):XC (KK w) 101 98 UB:=gS (by kernel_rfl)
theorem DU (w:World):XC (KK w) 120 117 UB:=gS (by kernel_rfl)
theorem D5 (w:World):XC (KK w) 139 136 UB:=gS (by kernel_rfl)
theorem BB (w:World):XF (KK w) 101:=C8 (tD w) (by rfl) (by kernel_rfl)
theorem xb (w:World):XB (KK w) 24:=⟨by kernel_rfl,by kernel_rfl,by kernel_rfl⟩
theorem fI (w:World):∃ fd,L2.Fun (KK w) "__init__" "NoThing.__init__" I34.sI 98 fd/\Binds (KK w) fd ["self","number"] []:=by
 refine ⟨a0X "__init__" "NoThing.__init__" (defArgs I34.sI) (defBody I34.sI) (defScope I34.sI) .none .none .none (TP.pmO ((KK w).lookup 98)) none (.ref 97) .none,?_⟩
 have F:L2.Fun (KK w) "__init__" "NoThing.__init__" I34.sI 98 (a0X "__init__" "NoThing.__init__" (defArgs I34.sI) (defBody I34.sI) (defScope I34.sI) .none .none .none (TP.pmO ((KK w).lookup 98)) none (.ref 97) .none):=⟨⟨.type "function",none,_,_,_,_,_,_,#[],rfl,by kernel_rfl,by kernel_rfl⟩,by kernel_rfl⟩
 exact ⟨F,F.binds fun _ _ _ _ _ _ us hl=>match us,hl with | [_,_],_=>rfl⟩
theorem EE (w:World)(c:Nat)(x:XF (KK w) c):a0D (KK w) (.ref c) "number"=some none :=
 beq_iff_eq.mp (pd (p:=fun c=>a0D (KK w) (.ref c) "number"==some none) (by kernel_rfl) x)
theorem one (w:World)(cv:Value)(cs:List Nat)(e:Bx (KK w) (fun c=>a0y (KK w) (.ref c) cv==some (cs.contains c))=true)(c:Nat)(x:XF (KK w) c):a0y (KK w) (.ref c) cv=some (cs.contains c):=beq_iff_eq.mp (pd (p:=fun c=>a0y (KK w) (.ref c) cv==some (cs.contains c)) e x)
theorem xs_mk {P:Program}{w:World}{h:Heap}{mg:Str->Option Value}(X:(KK w).In h)(G:h.Ns mainGlobals mg)(base:Heap):Xs P w (KK w) mg base:=by
 have nB:mg "BroadError"=some (.ref 24):=a1i X G (by kernel_rfl)
 refine ⟨⟨nB,⟨VE,rfl,fun h X=>⟨_,_,(kU (K:=KK w) (C:=24) (up:=VE) (by kernel_rfl) h X).1⟩⟩,?_⟩,EE w,⟨.inl (a1i X G (by kernel_rfl)),one w _ _ (by kernel_rfl),by kernel_rfl⟩,⟨.inl (a1i X G (by kernel_rfl)),one w _ _ (by kernel_rfl),by kernel_rfl⟩,⟨.inl (a1i X G (by kernel_rfl)),one w _ _ (by kernel_rfl),by kernel_rfl⟩,⟨.inl (a1i X G (by kernel_rfl)),one w _ _ (by kernel_rfl),by kernel_rfl⟩,⟨.inl (a1i X G (by kernel_rfl)),one w _ _ (by kernel_rfl),by kernel_rfl⟩,⟨.inl (a1i X G (by kernel_rfl)),one w _ _ (by kernel_rfl),by kernel_rfl⟩,⟨.inr ⟨iS X G (by kernel_rfl),PyProof.Rows.Boot.«ValueError»⟩,one w _ _ (by kernel_rfl),by kernel_rfl⟩,iS X G (by kernel_rfl),?_⟩
 ·intro c hc
  simp only [a0n,a0E,or_false] at hc
  rcases hc with rfl | rfl | rfl | rfl | rfl | rfl
  ·exact ⟨_,_,x44 w,by decide +kernel⟩
  ·exact ⟨_,_,x63 w,by decide +kernel⟩
  ·exact ⟨_,_,x82 w,by decide +kernel⟩
  ·exact ⟨_,_,tD w,by decide +kernel⟩
  ·exact ⟨_,_,DU w,by decide +kernel⟩
  ·exact ⟨_,_,D5 w,by decide +kernel⟩
 ·obtain ⟨fd,F,b⟩:=fI w
  exact ⟨⟨98,UB,fd,["self","number"],tD w,rfl,by decide +kernel,b,fun k=>I34.init_ok F nB (xb w) (tD w) (by kernel_rfl)⟩,BB w,a1i X G (by kernel_rfl)⟩
end A34

set_option maxHeartbeats 4000000
open PySem PySem.W PyProof.Rows
set_option maxRecDepth 100000 in
set_option maxHeartbeats 0 in
theorem PySem.Challenge.cw_broadrow_k34_taken_by_numbers_holds : PySem.Challenge.rw_broadrow_k34_taken_by_numbers.Holds := by
 w_on; o_law
 refine holds_open (q:=H34.q) (loose:=H34.lo) (Xt:=H34.Xt) (XP:=XL H34.q []) (Yf:=Hook.obs H34.hk) (Ya:=Hook.val H34.hk) (YP:=Hook.says H34.hk) (N:=4608) (d:=TP.drec (H34.tn 29)) (kwd:=[]) H34.left (Hook.of H34.hk) (Hook.keeps H34.hk) (fun s e=>xl_of s (a2g.mp e).1) XL.keeps (by kernel_rfl) (by kernel_rfl) (by kernel_rfl) (fun s e=>recFacts_of (a2g.mp e).2) (by rfl) (by first | assumption | decide +kernel) (by decide +kernel) ⟨rfl,rfl,rfl,rfl,rfl,by decide +kernel⟩ ?hw ?hc
 case hw=>w_witness2
 refine MR.walkX (sx:="script") (l:=PySem.Challenge.rw_broadrow_k34_taken_by_numbers) (k:=42) (C:=A34.Cl 40) (ix:=0) (K:=H34.K) A34.pure_law rfl (by kernel_rfl) ⟨rfl,by decide,by decide,rfl⟩ H34.kin ?F
 case F =>
  intro w mg fa h KX G hmg
  refine' A34.all_mk KX G hmg ?zr1 ?zr6 ?zr7 ?zr11 ?zr313 ?zr13 ?zr14 ?zr20 ?zr21 ?zr22 ?zr23 ?zr24 ?zr314 ?zr318 ?zr316 ?zr95 ?zr317 ?zr0   ?ztx ?zxs
  case zr23=>exact TP.rawd_mk (by kernel_rfl) (by kernel_rfl) (by kernel_rfl) (by kernel_rfl) (by kernel_rfl)
  case zxs=>exact fun base=>A34.xs_mk KX G base
  case ztx=>refine' ⟨?_,?_,?_,?_,?_,?_,?_,?_,?_,?_,?_,?_,?_,?_,?_,?_,?_,?_,?_,?_,?_,trivial⟩<;>kernel_rfl
  all_goals exact TP.raw_mk (by kernel_rfl) (by kernel_rfl) (by kernel_rfl) (by kernel_rfl)
