import PyProof.Rows.All
import Wide.All
import OpenK.AllK
import Wide.FinOn
import Lean
import PyProof.EqAt
import PyProof.EqKinds
import PyProof.TupleCall
import PySem.Challenge.RW_broadrow_k74_timetables_told
open PySem.W renaming Frag → a0a, kia_one → a0Q, fnOf → a1g, kitOne → a1k, keepIn → a1K, codeIn → a15, methodObj → a19, kitx_list → a2a, cellsFrom_some → a2r, instObj → a2x, OpenLaw → a2A, lookIn → a2O, kitx_tuple → a2U, kitx_dict → a21, nsIn → a29, plainGet → a3b, findIn → a3q, WalkO → a3u, mg_of → a3z
open List renaming getD_eq_getElem?_getD → a0b, mem_cons_of_mem → a0c, mem_cons_self → a0d, length_map → a0e, length_cons → a0f, length_append → a0g, getElem?_eq_getElem → a0i, size_toArray → a0j, replicate → a0l, mem_append_right → a0m, range → a0p, mem_cons → a0q, length_singleton → a0r, getElem?_map → a0t, append_nil → a0w, map_cons → a0x, getElem?_eq_some_iff → a0z, all_eq_true → a0A, mem_map → a0B, getElem?_cons_succ → a0C, length_set → a0D, mem_singleton → a0E, getElem?_append_right → a0G, nodup_cons → a0H, append_assoc → a0J, length_range → a0K, mem_append_left → a0L, length_replicate → a0N, filterMap_cons → a0O, map_append → a0R, getElem?_set_ne → a0S, mem_append → a0T, getElem?_append_left → a0U, nil_append → a0V, length_take → a0W, length_drop → a0X, replicate_succ → a0Y, take_of_length_le → a0Z, mem_range → a01, mem_filter → a02, map_map → a03, mem_of_getElem? → a05, getElem?_replicate → a07, getElem?_cons_zero → a08, getElem?_range → a1a, getElem?_set_self → a1b, countP_cons → a1c, pairwise_cons → a1e, take_succ_cons → a1i, map_congr_left → a1j, drop_zero → a1l, find?_cons → a1m, mem_of_mem_drop → a1q, take_zero → a1r, drop_length → a1t, drop_succ_cons → a1w, set_cons_zero → a1D, count_cons → a1F, flatten_cons → a1H, eraseIdxIfInBounds_toArray → a1I, idxOf_append → a1J, map_nil → a1M, not_mem_nil → a1P, getElem_mem → a1Q, eq_nil_of_length_eq_zero → a1R, mem_of_mem_take → a1S, mem_iff_getElem → a1U, of_mem_zip → a1W, foldl_cons → a1X, length_pos_iff → a1Y, idxOf_lt_length_of_mem → a1Z, getElem?_drop → a10, set_cons_succ → a13, drop_eq_getElem_cons → a17, count_nil → a18, getElem?_take_of_lt → a2b, count_append → a2f, length → a2g, any_cons → a2j, map_take → a2k, map_drop → a2l, sum_cons → a2m, lookup_cons → a2n, mem_reverse → a2p, pairwise_lt_range → a2v, drop_of_length_le → a2w, length_nil → a2B, dropLast_eq_take → a2D, take_append_drop → a2E, range_zero → a2G, getElem?_eq_none → a2H, length_dropLast → a2J, dropLast_concat → a2L, pairwise_append → a2N, nodup_nil → a2P, foldl_nil → a2Q, mem_filterMap → a2T, map_replicate → a2W, take_sublist → a22, pairwise_map → a24, getElem?_set → a25, take_length → a3f, cons_append → a3h, nodup_range → a3i, filter_cons → a3j, foldl → a3s, take_nil → a3w, drop_nil → a3x, map → a3E, map_set → a3N
open Nat renaming le_refl → a0h, lt_of_lt_of_le → a0o, le_trans → a0u, zero_le → a0F, ne_of_lt → a0I, lt_irrefl → a06, succ_le_succ → a1s, add_comm → a1z, lt_of_le_of_lt → a1C, not_lt_zero → a1E, ne_of_gt → a1L, sub_self → a12, lt_or_ge → a14, le_succ → a2i, lt_succ_self → a2o, lt_of_succ_lt_succ → a2u, le_of_lt → a2y, zero_add → a2C, le_of_ble_eq_true → a2F, lt_trans → a28, min_le_right → a3c, le_of_not_lt → a3e, min_eq_right → a3k, min_eq_left → a3o, mul_comm → a3H, add_zero → a3L, le_total → a3O
open Bool renaming and_eq_true → a0k, false_ne_true → a0n, and_eq_true_iff → a1T, true_or → a27, or_true → a3a, or_eq_true → a3m, false_and → a3p, false_or → a3v, true_and → a3C, and_true → a3D
open Or renaming inr → a0s, inl → a0y
open Option.some renaming inj → a0v, injEq → a2d
open PyProof.Rows renaming slot_tuple_getitem → a0M, callWith_type1 → a09, boot_list → a1G, callWith_builtin1 → a26, boot_isinstance → a3l, boot_range → a3A, eq_dataH → a3I, ne_dataH → a3J
open PySem.F renaming plainAttrs_list → a0P, slot_list_append → a1A, type_list_append → a1B, slot_list_pop → a1N, type_list_pop → a1O, args_tuple_add_2 → a2c, slot_list_insert → a2e, entry_tuple_add → a2h, slot_tuple_add → a2s
open PySem renaming mem_of_lookup → a00, reprText → a16, boot_len → a3r, call → a3t, Within → a3F, PyData → a3K
open PySem.Builtin.Str renaming occurrences → a04
open Option renaming toList_none → a1d, isSome_iff_exists → a1y, toList_some → a2X, getD_none → a3d, bind_some → a3g
open Nat.succ renaming inj → a1f
open Array renaming length_toList → a1h, all_eq_true' → a11, getElem?_toList → a2z, toArray_toList → a2K, size_append → a23, mk → a3B, toList → a3G
open False renaming elim → a1n
open Int renaming toNat_natCast → a1o, fmod_eq_emod_of_nonneg → a1p, toNat_of_nonneg → a1v, emod_lt_of_pos → a2Y, emod_nonneg → a3n
open Ne renaming symm → a1u
open True renaming intro → a1x
open Prod renaming snd → a1V, fst → a3y
open PyProof renaming noPylong_small → a2q
open PySem.AutoSeq1 renaming list_insert_list_int_val_1 → a2t
open List.Pairwise renaming sublist → a2I, nil → a3Q, imp → a3R
open String renaming length_toList → a2M
open Prod.mk renaming inj → a2R
open List.Perm renaming nodup_iff → a2S
open And renaming left → a2V
open Sum renaming inl → a2Z, inr → a20
open Classical renaming em → a3M
open Sum.inl renaming inj → a3P
open List.Sublist renaming map → a3S
set_option genSizeOf false
set_option genInjectivity false
set_option Elab.async false
set_option linter.all false
set_option maxRecDepth 100000
namespace L2
open PySem PySem.Spec PyProof.Rows
noncomputable abbrev Key:=Sum Int Str
noncomputable def fP:Key->Value->Bool
 | .inl k,v=>Value.isInt k v
 | .inr x,v=>Value.isStrOf x v
noncomputable def CS (w:World):Key->Int
 | .inl k=>hashInt k
 | .inr x=>hashStr w x
theorem aB:∀ {k:Key} {v:Value},fP k v=true->(∃ i t,k=a2Z i/\v=Value.int i t)\/(∃ x t,k=a20 x/\v=Value.str x t)
 | .inl i,v,h=>by
  obtain ⟨t,e⟩:=Value.isInt_shape (k:=i) (v:=v) h
  exact .inl ⟨i,t,rfl,e⟩
 | .inr x,v,h=>by
  obtain ⟨t,e⟩:=Value.isStrOf_shape (x:=x) (v:=v) h
  exact .inr ⟨x,t,rfl,e⟩
theorem mn (i:Int)(t:Tok):fP (.inl i) (.int i t)=true:=by simp [fP,Value.isInt]
theorem l7 (x:Str)(t:Tok):fP (.inr x) (.str x t)=true:=by simp [fP,Value.isStrOf]
theorem ym (a b:Int):decide ((a2Z a:Key)=a2Z b)=(a==b):=by
 by_cases e:a=b
 ·subst e; simp
 ·have h:¬ (a2Z a:Key)=a2Z b:=fun q=>e (a3P q)
  rw [decide_eq_false h]
  exact (beq_eq_false_iff_ne.mpr e).symm
theorem zj (a b:Str):decide ((a20 a:Key)=a20 b)=decide (a=b):=by
 by_cases e:a=b
 ·subst e; simp
 ·have h:¬ (a20 a:Key)=a20 b:=fun q=>e (Sum.inr.inj q)
  rw [decide_eq_false h,decide_eq_false e]
theorem zc (a:Int)(b:Str):decide ((a2Z a:Key)=a20 b)=false:=decide_eq_false (fun q=>nomatch q)
theorem xN (a:Str)(b:Int):decide ((a20 a:Key)=a2Z b)=false:=decide_eq_false (fun q=>nomatch q)
noncomputable def aN (prog:Program)(w:World):PySem.KeyKind prog w Key where
 is:=fP
 hash:=CS w
 inj:=fun v a b ha hb=>by
  rcases aB ha with ⟨i,t,rfl,rfl⟩ | ⟨x,t,rfl,rfl⟩
  ·rcases aB hb with ⟨j,u,rfl,e⟩ | ⟨y,u,rfl,e⟩
   ·injection e with e1 _; rw [e1]
   ·exact nomatch e
  ·rcases aB hb with ⟨j,u,rfl,e⟩ | ⟨y,u,rfl,e⟩
   ·exact nomatch e
   ·injection e with e1 _; rw [e1]
 byValue:=fun k v h=>by
  rcases aB h with ⟨i,t,rfl,rfl⟩ | ⟨x,t,rfl,rfl⟩<;>rfl
 pyHash:=fun hv h=>by
  rcases aB hv with ⟨i,t,rfl,rfl⟩ | ⟨x,t,rfl,rfl⟩
  ·exact wpAny_pyHash_int h
  ·exact wpAny_pyHash_str h
 eqBool:=fun hu hv h=>by
  rcases aB hu with ⟨i,t,rfl,rfl⟩ | ⟨x,t,rfl,rfl⟩
  ·rcases aB hv with ⟨j,u,rfl,rfl⟩ | ⟨y,u,rfl,rfl⟩
   ·rw [ym] at h; exact wpAny_eqBool_int h
   ·rw [zc] at h; exact SeqAt.EqAt.int_str i t y u _ _ _ _ h
  ·rcases aB hv with ⟨j,u,rfl,rfl⟩ | ⟨y,u,rfl,rfl⟩
   ·rw [xN] at h; exact SeqAt.EqAt.str_int x t j u _ _ _ _ h
   ·rw [zj] at h; exact wpAny_eqBool_str h
 «strs»:=fun k x t v h=>by
  rcases aB h with ⟨i,u,rfl,e⟩ | ⟨y,u,rfl,e⟩
  ·exact nomatch e
  ·injection e with e1 _
   subst e1
   cases v<;>rfl
theorem iK (prog:Program)(w:World)(i:Int)(t:Tok):(aN prog w).is (.inl i) (.int i t)=true:=mn i t
theorem ic (prog:Program)(w:World)(x:Str)(t:Tok):(aN prog w).is (.inr x) (.str x t)=true:=l7 x t
end L2
namespace L2
open PySem PySem.Spec PyProof.Rows
set_option genInjectivity true
inductive V where
 | non | bl (b:Bool) | int (i:Int) | str (x:Str) | byt (b:Array UInt8) | flt (b:UInt64) | ref (a:Addr) | ty (n:String)
 deriving DecidableEq
set_option genInjectivity false
noncomputable def RelV:V->Value->Prop
 | .non,u=>u=Value.none
 | .bl b,u=>u=Value.bool b
 | .int i,u=>∃ t,u=Value.int i t
 | .str x,u=>∃ t,u=Value.str x t
 | .byt b,u=>∃ t,u=Value.bytes b t
 | .flt b,u=>∃ t,u=Value.float b t
 | .ref a,u=>u=Value.ref a
 | .ty n,u=>u=Value.type n
noncomputable abbrev Vals:List V->List Value->Prop:=Paired RelV
theorem Vals.length {xs:List V}{us:List Value}(r:Vals xs us):xs.length=us.length:=Paired.length r
theorem Vals.get:∀ {xs:List V} {us:List Value} {i:Nat} {x:V},Vals xs us->xs[i]?=some x->∃ u,us[i]?=some u/\RelV x u
 | _,_,_,_,.nil,e=>by simp at e
 | _,_,0,_,.cons r _,e=>by simp at e; subst e; exact ⟨_,rfl,r⟩
 | _,_,i+1,x,.cons _ t,e=>by
  obtain ⟨u,h1,h2⟩:=Vals.get (i:=i) (x:=x) t (by simpa using e)
  exact ⟨u,by simpa using h1,h2⟩
theorem Vals.set {x:V}{u:Value}(r:RelV x u):∀ {xs:List V} {us:List Value} (i:Nat),Vals xs us->Vals (xs.set i x) (us.set i u)
 | _,_,_,.nil=>.nil
 | _,_,0,.cons _ t=>.cons r t
 | _,_,i+1,.cons q t=>.cons q (Vals.set r i t)
theorem Vals.append:∀ {xs ys:List V} {us ws:List Value},Vals xs us->Vals ys ws->Vals (xs++ys) (us++ws)
 | _,_,_,_,.nil,s=>s
 | _,_,_,_,.cons r t,s=>.cons r (Vals.append t s)
theorem Vals.take:∀ {xs:List V} {us:List Value} (n:Nat),Vals xs us->Vals (xs.take n) (us.take n)
 | _,_,0,_=>.nil
 | _,_,_+1,.nil=>.nil
 | _,_,n+1,.cons r t=>.cons r (Vals.take n t)
theorem Vals.drop:∀ {xs:List V} {us:List Value} (n:Nat),Vals xs us->Vals (xs.drop n) (us.drop n)
 | _,_,0,r=>r
 | _,_,_+1,.nil=>.nil
 | _,_,n+1,.cons _ t=>Vals.drop n t
noncomputable def RelO:Option V->Option Value->Prop
 | some v,some u=>RelV v u
 | none,none=>True
 | _,_=>False
noncomputable def KV {κ:Type}:List (κ×V)->List (κ×Value)->Prop:=Paired fun (p:κ×V) (q:κ×Value)=>p.1=q.1/\RelV p.2 q.2
noncomputable def kV:Key->V
 | .inl i=>.int i
 | .inr x=>.str x
inductive HO where
 | lst (xs:List V)
 | tup (xs:List V)
 | dK (kvs:List (Key×V)) | dT (kvs:List (List Key×V))
 | set (S:Int->Bool) (n:Nat)
 | ins (C dx:Addr) (fs:List (Str×V))
 | own (x:Addr)
 | xd (fs:List (Str×V))
 | met (f x:Addr)
 | rng (lo hi:Int)
 | frz (o:Obj) (u:HO)
 | tbl (ps:Array Value)
 | ext (φ:Heap->Prop)
noncomputable abbrev Hp:=Addr->Option HO
noncomputable def upd (H:Hp)(a:Addr)(o:HO):Hp:=fun b=>if b=a then some o else H b
theorem ag {H:Hp}{a:Addr}{o:HO}:upd H a o a=some o:=by unfold upd; rw [if_pos rfl]
theorem ab {H:Hp}{a b:Addr}{o:HO}(h:b≠a):upd H a o b=H b:=by unfold upd; rw [if_neg h]
theorem zB {H:Hp}{a b:Addr}{o u:HO}(h:H a=some o)(h':H b=some u)(d:o≠u):a≠b:=by
 intro e; subst e; rw [h] at h'; exact d (a0v h')
theorem aA {H:Hp}{a b:Addr}{o:HO}(h:H a=some o)(h':H b=none):a≠b:=by
 intro e; subst e; rw [h] at h'; cases h'
section
variable (P:Program)(w:World)
noncomputable def ObjOk (H:Hp)(h:Heap)(a:Addr):HO->Prop
 | .lst xs=>xs.length<=sizeLine/\∃ (its:List Value) (n:Nat),Vals xs its/\h.get? a=some { cls:=.type "list",data:=.seq its.toArray n }
 | .tup xs=>xs.length<=sizeLine/\∃ its:List Value,Vals xs its/\IsTup h a its.toArray
 | .dK kvs=>kvs.length<=sizeLine/\(a==sysModules)=false/\∃ vs,KV kvs vs/\h.DictOf (aN P w) a vs
 | .dT kvs=>kvs.length<=sizeLine/\(a==sysModules)=false/\∃ xs:List (List Key×Addr×Value),
   Paired (fun (p:List Key×V) (q:List Key×Addr×Value)=>p.1=q.1/\H q.2.1=some (.tup (p.1.map kV))/\RelV p.2 q.2.2) kvs xs /\
   ∃ o es ep,h.get? a=some o/\o.ExactDict/\o.data=.dict es ep/\es.toList=xs.map (entryOfKey (tupleKind (aN P w)))/\(xs.map (·.1)).Nodup
 | .set S n=>h.SetOf (intKind P w) a S n
 | .ins C dx fs=>H dx=some (.own a)/\fs.length<=1000/\dx≠a/\h.get? a=some (a2x C dx) /\
   ∃ mA,h.Ns1 dx mA/\(∀ f,RelO (fs.lookup f) (mA f))/\a3F mA (fs.map (·.1))
 | .own _=>∃ o,h.get? a=some o
 | .xd fs=>∃ mA,h.Ns1 a mA/\∀ f,RelO (fs.lookup f) (mA f)
 | .rng lo hi=>∃ t u v,h.get? a=some { cls:=.type "range",data:=.fields #[.int lo t,.int hi u,.int 1 v] }
 | .frz o u=>h.get? a=some o/\ObjOk H h a u
 | .tbl ps=>h.get? a=some { cls:=.none,data:=.fields ps }
 | .met f x=>h.get? a=some (a19 (.ref f) (.ref x))
 | .ext φ=>φ h/\(∃ o,h.get? a=some o)/\∀ h1 h2:Heap,φ h1->(∀ o,h1.get? a=some o->h2.get? a=some o)->φ h2
noncomputable def HOk (H:Hp)(h:Heap):Prop:=∀ a o,H a=some o->ObjOk P w H h a o
end
section
variable {P:Program}{w:World}{H H':Hp}{h h':Heap}{a:Addr}{o:HO}
theorem ObjOk.lt (x:ObjOk P w H h a o):a < h.objs.size:=by
 cases o with
 | lst xs=>obtain ⟨_,_,_,_,e⟩:=x; exact Heap.lt_size e
 | tup xs=>obtain ⟨_,_,_,p⟩:=x; exact p.lt
 | dK kvs=>obtain ⟨_,_,_,_,o,_,_,e,_⟩:=x; exact Heap.lt_size e
 | dT kvs=>obtain ⟨_,_,_,_,o,_,_,e,_⟩:=x; exact Heap.lt_size e
 | set S n=>obtain ⟨o,_,_,_,e,_⟩:=x; exact Heap.lt_size e
 | ins C dx fs=>obtain ⟨_,_,_,e,_⟩:=x; exact Heap.lt_size e
 | own y=>obtain ⟨_,e⟩:=x; exact Heap.lt_size e
 | xd fs=>obtain ⟨_,⟨_,_,_,e,_⟩,_⟩:=x; exact Heap.lt_size e
 | rng lo hi=>obtain ⟨_,_,_,e⟩:=x; exact Heap.lt_size e
 | frz ob u=>obtain ⟨e,_⟩:=x; exact Heap.lt_size e
 | tbl ps=>exact Heap.lt_size (show h.get? a=some _ from x)
 | met f y=>exact Heap.lt_size (show h.get? a=some _ from x)
 | ext φ=>obtain ⟨_,⟨_,e⟩,_⟩:=x; exact Heap.lt_size e
theorem Paired.mapP {α β:Type}{F G:α->β->Prop}:∀ {l₁:List α} {l₂:List β},Paired F l₁ l₂->(∀ a b,F a b->G a b)->Paired G l₁ l₂
 | _,_,.nil,_=>.nil
 | _,_,.cons r t,f=>.cons (f _ _ r) (Paired.mapP t f)
theorem ObjOk.stay (x:ObjOk P w H h a o)(k:∀ b u,(b=a\/H b=some (.own a))->h.get? b=some u->h'.get? b=some u)
  (ho:∀ b,H b=some (.own a)->H' b=some (.own a)) (ht:∀ b xs,H b=some (.tup xs)->H' b=some (.tup xs)):ObjOk P w H' h' a o:=by
 induction o with
 | lst xs=>obtain ⟨z,its,n,r,e⟩:=x; exact ⟨z,its,n,r,k _ _ (.inl rfl) e⟩
 | tup xs=>obtain ⟨z,its,r,ob,e,c⟩:=x; exact ⟨z,its,r,ob,k _ _ (.inl rfl) e,c⟩
 | dK kvs=>obtain ⟨z,y,vs,r,ob,es,ep,e,c⟩:=x; exact ⟨z,y,vs,r,ob,es,ep,k _ _ (.inl rfl) e,c⟩
 | dT kvs =>
  obtain ⟨z,y,xs,r,ob,es,ep,e,c⟩:=x
  exact ⟨z,y,xs,Paired.mapP r fun p q z=>⟨z.1,ht _ _ z.2.1,z.2.2⟩,ob,es,ep,k _ _ (.inl rfl) e,c⟩
 | set S n=>obtain ⟨ob,es,ep,t,e,c⟩:=x; exact ⟨ob,es,ep,t,k _ _ (.inl rfl) e,c⟩
 | ins C dx fs =>
  obtain ⟨d,z,ne,e,mA,⟨od,es,ep,e2,c⟩,r⟩:=x
  exact ⟨ho _ d,z,ne,k _ _ (.inl rfl) e,mA,⟨od,es,ep,k _ _ (.inr d) e2,c⟩,r⟩
 | own y=>obtain ⟨ob,e⟩:=x; exact ⟨ob,k _ _ (.inl rfl) e⟩
 | xd fs=>obtain ⟨mA,⟨od,es,ep,e,c⟩,r⟩:=x; exact ⟨mA,⟨od,es,ep,k _ _ (.inl rfl) e,c⟩,r⟩
 | rng lo hi=>obtain ⟨t,u,v,e⟩:=x; exact ⟨t,u,v,k _ _ (.inl rfl) e⟩
 | frz ob u ih=>obtain ⟨e,q⟩:=x; exact ⟨k _ _ (.inl rfl) e,ih q⟩
 | tbl ps =>
  have e:h.get? a=some { cls:=.none,data:=.fields ps }:=x
  show h'.get? a=some { cls:=.none,data:=.fields ps }
  exact k a _ (.inl rfl) e
 | met f y =>
  have e:h.get? a=some (a19 (.ref f) (.ref y)):=x
  show h'.get? a=some (a19 (.ref f) (.ref y))
  exact k a _ (.inl rfl) e
 | ext φ=>obtain ⟨p,⟨o,e⟩,st⟩:=x; exact ⟨st _ _ p fun o q=>k _ _ (.inl rfl) q,⟨o,k _ _ (.inl rfl) e⟩,st⟩
theorem HOk.lt (x:HOk P w H h)(e:H a=some o):a < h.objs.size:=(x a o e).lt
theorem HOk.fresh (x:HOk P w H h)(e:h.objs.size<=a):H a=none:=by
 cases q:H a with
 | none=>rfl
 | some u=>exact absurd (a0o (x.lt q) e) (a06 _)
theorem HOk.kept (x:HOk P w H h)(k:∀ b u,h.get? b=some u->h'.get? b=some u):HOk P w H h':=fun a o e =>
 (x a o e).stay (fun b u _ q=>k b u q) (fun _ q=>q) fun _ _ q=>q
theorem HOk.laid (x:HOk P w H h)(k:∀ b u,h.get? b=some u->h'.get? b=some u)(hp:h.objs.size<=a)(new:ObjOk P w (upd H a o) h' a o):HOk P w (upd H a o) h':=fun b u e=>by
 have hn:=x.fresh hp
 by_cases hb:b=a
 ·subst hb; rw [ag] at e; cases e; exact new
 ·rw [ab hb] at e
  exact (x b u e).stay (fun c v _ q=>k c v q) (fun c q=>by rw [ab (aA q hn)]; exact q) fun c xs q=>by rw [ab (aA q hn)]; exact q
end
noncomputable def Rd (H:Hp)(a:Addr)(u:HO):Prop:=H a=some u\/∃ o,H a=some (.frz o u)
theorem Rd.ok {P:Program}{w:World}{H:Hp}{h:Heap}{a:Addr}{u:HO}(r:Rd H a u)(x:HOk P w H h):ObjOk P w H h a u:=by
 rcases r with r | ⟨o,r⟩
 ·exact x a u r
 ·obtain ⟨_,q⟩:=x a _ r
  exact q
noncomputable def Mut:Option HO->Prop
 | some (.lst _)=>True
 | some (.dK _)=>True
 | some (.dT _)=>True
 | some (.set _ _)=>True
 | some (.ins _ _ _)=>True
 | some (.ext _)=>True
 | _=>False
section
variable {P:Program}{w:World}{H:Hp}{h h':Heap}{x e:Addr}{o':HO}
theorem HOk.write (ok:HOk P w H h)(mu:Mut (H x))(he:e=x\/H e=some (.own x))(k:∀ b u,b≠e->h.get? b=some u->h'.get? b=some u)(heo:∃ u,h'.get? e=some u)
  (new:ObjOk P w (upd H x o') h' x o'):HOk P w (upd H x o') h':=fun b u q=>by
 have nown:∀ c y,H c=some (.own y)->c≠x:=fun c y r z=>by subst z; rw [r] at mu; exact mu
 have ntup:∀ c xs,H c=some (.tup xs)->c≠x:=fun c xs r z=>by subst z; rw [r] at mu; exact mu
 by_cases hb:b=x
 ·subst hb; rw [ag] at q; cases q; exact new
 ·rw [ab hb] at q
  by_cases hbe:b=e
  ·have q':H b=some (.own x):=by
    rcases he with z | z
    ·exact absurd (hbe.trans z) hb
    ·rw [hbe]; exact z
   rw [q] at q'; cases q'
   obtain ⟨v,hv⟩:=heo
   exact ⟨v,by rw [hbe]; exact hv⟩
  ·refine (ok b u q).stay (fun c v hc r=>k c v ?_ r) (fun c r=>by rw [ab (nown c b r)]; exact r) fun c xs r=>by rw [ab (ntup c xs r)]; exact r
   rcases hc with rfl | hc
   ·exact hbe
   ·rintro rfl
    rcases he with z | z
    ·exact nown c b hc z
    ·rw [hc] at z; cases z; exact hb rfl
end
structure Un (fs ex:List Addr)(H H':Hp)(h h':Heap):Prop where
 keep:∀ b o,h.get? b=some o->H b=none->b ∉ fs->b ∉ ex->h'.get? b=some o
 slot:∀ b o,h.get? b=some o->H b=none->b∈fs->b ∉ ex->∃ sl,h'.get? b=some { o with slots:=sl }
 free:∀ b o,h.get? b=some o->H b=none->b ∉ ex->H' b=none
 there:∀ b o,h.get? b=some o->b ∉ ex->∃ o',h'.get? b=some o'
 tups:∀ b xs,H b=some (.tup xs)->H' b=some (.tup xs)
 frzs:∀ b o u,H b=some (.frz o u)->H' b=some (.frz o u)
 tbls:∀ b ps,H b=some (.tbl ps)->∃ more,H' b=some (.tbl (ps++more))
section
variable {fs fs' ex ex':List Addr}{H H1 H2:Hp}{h h1 h2 h':Heap}{a x e:Addr}{o:HO}
theorem Un.any (u:Un fs ex H H1 h h1){b:Addr}{ob:Obj}(q:h.get? b=some ob)(n:H b=none)(hx:b ∉ ex):∃ sl,h1.get? b=some { ob with slots:=sl }:=by
 by_cases hb:b∈fs
 ·exact u.slot b ob q n hb hx
 ·exact ⟨ob.slots,u.keep b ob q n hb hx⟩
theorem Un.kept (k:∀ b u,h.get? b=some u->h'.get? b=some u):Un fs ex H H h h' :=
 ⟨fun b ob q _ _ _=>k b ob q,fun b ob q _ _ _=>⟨ob.slots,k b ob q⟩,fun _ _ _ n _=>n,fun b ob q _=>⟨ob,k b ob q⟩,fun _ _ q=>q,fun _ _ _ q=>q,fun _ ps q=>⟨#[],by rw [q]; simp⟩⟩
theorem Un.refl:Un fs ex H H h h:=Un.kept fun _ _ q=>q
theorem Un.laid (k:∀ b u,h.get? b=some u->h'.get? b=some u)(hp:h.objs.size<=a)(hn:H a=none):Un fs ex H (upd H a o) h h' where
 keep:=fun b u q _ _ _=>k b u q
 slot:=fun b u q _ _ _=>⟨u.slots,k b u q⟩
 free:=fun b u q n _=>by rw [ab (a0I (a0o (Heap.lt_size q) hp))]; exact n
 there:=fun b u q _=>⟨u,k b u q⟩
 tups:=fun b xs q=>by rw [ab (aA q hn)]; exact q
 frzs:=fun b u xs q=>by rw [ab (aA q hn)]; exact q
 tbls:=fun b ps q=>⟨#[],by rw [ab (aA q hn),q]; simp⟩
theorem Un.write (mu:Mut (H x))(he:e=x\/H e=some (.own x))(k:∀ b u,b≠e->h.get? b=some u->h'.get? b=some u)(heo:∃ u,h'.get? e=some u):Un fs ex H (upd H x o) h h':=by
 have hx:∀ b,H b=none->b≠x:=fun b n z=>by subst z; rw [n] at mu; exact mu
 have hb:∀ b,H b=none->b≠e:=fun b n z=>by
  subst z
  rcases he with r | r
  ·exact hx b n r
  ·rw [n] at r; cases r
 have hm:∀ b u,H b=some u->¬ Mut (some u)->b≠x:=fun b u q nm z=>by subst z; rw [q] at mu; exact nm mu
 refine ⟨fun b u q n _ _=>k b u (hb b n) q,fun b u q n _ _=>⟨u.slots,k b u (hb b n) q⟩,fun b u q n _=>by rw [ab (hx b n)]; exact n,fun b u q _=>?_,
  fun b xs q=>by rw [ab (hm b _ q fun z=>z)]; exact q,fun b u xs q=>by rw [ab (hm b _ q fun z=>z)]; exact q,fun b ps q=>⟨#[],by rw [ab (hm b _ q fun z=>z),q]; simp⟩⟩
 by_cases hbe:b=e
 ·subst hbe; exact heo
 ·exact ⟨u,k b u hbe q⟩
end
noncomputable def trk (h:Heap)(H:Hp):List Addr:=(a0p h.objs.size).filter fun a=>(H a).isSome
noncomputable def gQ (h:Heap)(H:Hp):Heap:=PySem.W.hideAll h (trk h H)
theorem mi (h:Heap)(H:Hp):(gQ h H).objs.size=h.objs.size:=PySem.W.hideAll_size _ _
theorem oh {h:Heap}{H:Hp}{b:Addr}{o:Obj}(e:h.get? b=some o)(n:H b=none):(gQ h H).get? b=some o :=
 PySem.W.hideAll_get _ e fun hm=>by
  have q:(H b).isSome=true:=(a02.mp hm).2
  rw [n] at q; simp at q
theorem uj {h:Heap}{H:Hp}{b:Addr}{o:Obj}(e:(gQ h H).get? b=some o):h.get? b=some o/\H b=none:=by
 have e':h.get? b=some o:=PySem.W.of_hideAll (trk h H) e
 refine ⟨e',?_⟩
 cases q:H b with
 | none=>rfl
 | some x =>
  have hm:b∈trk h H:=a02.mpr ⟨a01.mpr (Heap.lt_size e'),by simp [q]⟩
  have z:(gQ h H).get? b=none:=PySem.W.hideAll_none (trk h H) hm
  rw [z] at e; cases e
noncomputable def t6 (g h:Heap)(L:Addr):List (Addr×Obj):=(a0p h.objs.size).filterMap fun a=>if a=L\/(g.get? a).isSome=true then none else (h.get? a).map fun o=>(a,o)
noncomputable def rest (g h:Heap)(L d:Addr):List (Addr×Obj):=(t6 g h L).filter fun p=>decide (p.1≠d)
end L2
namespace L2
open PySem PySem.Spec PyProof.Rows
structure Mod (K:a0a)(mg:Str->Option Value)(base:Heap):Prop where
 kin:K.In base
 glob:base.Ns mainGlobals mg
 blt:∃ mb,base.Ns builtinsNs mb/\∀ x:Str,x≠"__name__"->mb x=bootBuiltins x
 nolimit:base.NoLimit
structure Cx where
 prog:Program
 w:World
 K:a0a
 mg:Str->Option Value
 base:Heap
 A:Around
 N:List Str
 s₀:Shared
 H₀:Hp
 env:Env
 outer:List Env
 stack:List Env
 ex:List Addr
 fn:Str->Bool
 calm:Bool
 pn:List (Addr×Obj)
 xe:Value->Shared->Prop
noncomputable def frs (l:List Env):List Addr:=l.filterMap (·.frame)
noncomputable abbrev Cx.fs (X:Cx):List Addr:=frs X.outer
noncomputable def Vis (sc:Scope)(x:Str):Prop:=sc.names.lookup x=some .local\/sc.names.lookup x=some .cell\/sc.names.lookup x=some .free
noncomputable def Loc (sc:Scope)(x:Str):Prop:=sc.names.lookup x=some .local\/sc.names.lookup x=some .cell
noncomputable def CU (env:Env)(h:Heap)(m:Str->Option Value)(x:Str)(u:Value):Prop :=
 (env.kindOf x=some .local/\m x=some u)\/((env.kindOf x=some .cell\/env.kindOf x=some .free)/\∃ c,env.cells.lookup x=some c/\h.IsCell c (some u))
structure Cx.Ok (X:Cx):Prop where
 mod:Mod X.K X.mg X.base
 kind:X.env.scope.kind=.function
 glob:X.env.globals=mainGlobals
 blt:X.env.builtins=builtinsNs
 above:X.s₀.heap.objs.size<=X.env.locals
 inj:∀ x y c,X.env.cells.lookup x=some c->X.env.cells.lookup y=some c->x=y
 has:∀ x,(X.env.kindOf x=some .cell\/X.env.kindOf x=some .free)->∃ c,X.env.cells.lookup x=some c
 cab:∀ x c,X.fn x=true->X.env.cells.lookup x=some c->X.s₀.heap.objs.size<=c
 hd:X.calm=true->X.A.handled=none
 frames:X.A.frames=some X.stack
 stk:X.stack=X.outer\/(X.stack=X.env::X.outer/\X.env.frame=some X.env.locals)
 exf:∀ b∈X.ex,b≠X.env.locals/\∀ x c,X.env.cells.lookup x=some c->c≠b
 bs:∀ b o,X.base.get? b=some o->X.s₀.heap.get? b=some o/\X.H₀ b=none
 bsz:X.base.objs.size<=X.s₀.heap.objs.size
 noex:∀ b o,X.base.get? b=some o->b ∉ X.ex
 exfs:∀ b∈X.ex,b ∉ X.fs
 funs:X.s₀.heap.FunFrames X.base X.outer
 frf:∀ b∈X.fs,X.H₀ b=none
structure Inv (X:Cx)(pins:List (Addr×Obj))(σ:List (Option V))(H:Hp)(s:Shared):Prop where
 ok:X.Ok
 os:s.os=X.s₀.os
 bare:AllBare s.gens
 base:Un X.fs X.ex X.H₀ H X.s₀.heap s.heap
 loc:∃ m,s.heap.Ns X.env.locals m/\∀ (i:Nat) (x:Str) (v:V),X.N[i]?=some x->σ[i]?=some (some v)->Vis X.env.scope x->∃ u,RelV v u/\CU X.env s.heap m x u
 cell:∀ x c,X.env.cells.lookup x=some c->∃ v,s.heap.IsCell c v
 free:H X.env.locals=none
 freeC:∀ x c,X.env.cells.lookup x=some c->H c=none
 pin:∀ p∈X.pn++pins,s.heap.get? p.1=some p.2/\H p.1=none/\p.1≠X.env.locals/\p.1 ∉ X.fs/\∀ v,p.2.data≠.cell v
 hok:HOk X.prog X.w H s.heap
 len:σ.length=X.N.length
section
variable {X:Cx}{pins:List (Addr×Obj)}{σ:List (Option V)}{H H':Hp}{s:Shared}{h':Heap}
theorem Cx.Ok.nofr (ok:X.Ok){b:Addr}{o:Obj}(e:X.base.get? b=some o):b ∉ X.fs:=fun hb=>by
 have:=(ok.funs.mem hb).1
 rw [e] at this; cases this
theorem Inv.bs (I:Inv X pins σ H s):∀ b o,X.base.get? b=some o->s.heap.get? b=some o/\H b=none:=fun b o e =>
 ⟨I.base.keep b o (I.ok.bs b o e).1 (I.ok.bs b o e).2 (I.ok.nofr e) (I.ok.noex b o e),I.base.free b o (I.ok.bs b o e).1 (I.ok.bs b o e).2 (I.ok.noex b o e)⟩
theorem Inv.bk (I:Inv X pins σ H s):∀ b o,X.base.get? b=some o->s.heap.get? b=some o:=fun b o e=>(I.bs b o e).1
theorem Inv.mod (I:Inv X pins σ H s):Mod X.K X.mg X.base:=I.ok.mod
theorem Inv.kIn (I:Inv X pins σ H s):X.K.In s.heap:=I.ok.mod.kin.keeps I.bk
theorem Inv.fr (I:Inv X pins σ H s):∃ m,Fr X.base X.env.locals s.heap m :=
 let ⟨m,hn,_⟩:=I.loc
 ⟨m,hn,I.bk,a0u I.ok.bsz I.ok.above⟩
theorem Inv.lt (I:Inv X pins σ H s):X.env.locals < s.heap.objs.size:=let ⟨_,hn,_⟩:=I.loc; hn.lt
theorem Inv.sz (I:Inv X pins σ H s):X.s₀.heap.objs.size<=s.heap.objs.size:=a0u I.ok.above (a2y I.lt)
theorem Inv.nofs (I:Inv X pins σ H s){a:Addr}(h:s.heap.objs.size<=a):a ∉ X.fs:=fun hb=>by
 obtain ⟨_,o,ho,_⟩:=I.ok.funs.mem hb
 exact absurd (a0o (Heap.lt_size ho) (a0u I.sz h)) (a06 _)
theorem Inv.cne (I:Inv X pins σ H s):∀ x c,X.env.cells.lookup x=some c->c≠X.env.locals:=fun x c e z=>by
 obtain ⟨v,o,ho,hd⟩:=I.cell x c e
 obtain ⟨m,⟨o',es,ep,ho',hd',_⟩,_⟩:=I.loc
 rw [z,ho'] at ho; cases ho; rw [hd'] at hd; cases hd
theorem Inv.funs (I:Inv X pins σ H s):s.heap.FunFrames X.base X.outer:=by
 have all:∀ (l:List Env),(∀ b∈frs l,b∈X.fs)->X.s₀.heap.FunFrames X.base l->s.heap.FunFrames X.base l:=by
  intro l
  induction l with
  | nil=>intro _ _; trivial
  | cons env r ih =>
   intro hs hl
   obtain ⟨hk,⟨L,o,hf,hn,ho,hd⟩,hr⟩:=hl
   have hL:L∈X.fs:=hs L (by unfold frs; rw [a0O,hf]; exact a0d)
   obtain ⟨sl,e⟩:=I.base.slot L o ho (I.ok.frf L hL) hL fun z=>I.ok.exfs L z hL
   exact ⟨hk,⟨L,_,hf,hn,e,hd⟩,ih (fun b hb=>hs b (by unfold frs; rw [a0O,hf]; exact a0c _ hb)) hr⟩
 exact all X.outer (fun _ hb=>hb) I.ok.funs
theorem Inv.stack (I:Inv X pins σ H s):s.heap.FunFrames X.base X.stack:=by
 rcases I.ok.stk with e | ⟨e,hf⟩
 ·rw [e]; exact I.funs
 ·rw [e]
  obtain ⟨m,hn,_⟩:=I.loc
  refine .cons (by rw [I.ok.kind]; decide) hf hn ?_ I.funs
  exact Heap.get?_none_of_le (a0u I.ok.bsz I.ok.above)
theorem Inv.stkSub (I:Inv X pins σ H s):∀ b∈frs X.stack,b∈X.env.locals::X.fs:=fun b hb=>by
 rcases I.ok.stk with e | ⟨e,hf⟩
 ·rw [e] at hb; exact a0c _ hb
 ·rw [e] at hb
  unfold frs at hb
  rw [a0O,hf] at hb
  exact hb
theorem Inv.stkFree (I:Inv X pins σ H s):∀ b∈frs X.stack,H b=none:=fun b hb=>by
 rcases a0q.mp (I.stkSub b hb) with e | hb
 ·rw [e]; exact I.free
 ·obtain ⟨_,o,ho,_⟩:=I.ok.funs.mem hb
  exact I.base.free b o ho (I.ok.frf b hb) fun z=>I.ok.exfs b z hb
theorem Inv.step {g':Array GenState}{t':Nat}{d':Drawn}{ch:List Addr}(I:Inv X pins σ H s)
  (hch:∀ b∈ch,(b∈X.ex\/X.s₀.heap.objs.size<=b)/\b≠X.env.locals/\(∀ x c,X.env.cells.lookup x=some c->c≠b)/\∀ p∈X.pn++pins,p.1≠b)
  (keep:∀ b o,b≠X.env.locals->b ∉ X.fs->b ∉ ch->s.heap.get? b=some o->H b=none->h'.get? b=some o)
  (slot:∀ b o,b≠X.env.locals->b∈X.fs->b ∉ ch->s.heap.get? b=some o->H b=none->∃ sl,h'.get? b=some { o with slots:=sl }) (free:∀ b o,b ∉ ch->s.heap.get? b=some o->H b=none->H' b=none)
  (there:∀ b o,b ∉ ch->s.heap.get? b=some o->∃ o',h'.get? b=some o')
  (tups:∀ b xs,H b=some (.tup xs)->H' b=some (.tup xs)) (frzs:∀ b o u,H b=some (.frz o u)->H' b=some (.frz o u)) (tbls:∀ b ps,H b=some (.tbl ps)->∃ more,H' b=some (.tbl (ps++more)))
  (ns:∀ m,s.heap.Ns X.env.locals m->h'.Ns X.env.locals m) (hok:HOk X.prog X.w H' h') (hg:AllBare g') :
  Inv X pins σ H' { s with heap:=h',gens:=g',drawn:=d',toks:=t' }:=by
 have neL:∀ b o,X.s₀.heap.get? b=some o->b≠X.env.locals:=fun b o e=>a0I (a0o (Heap.lt_size e) I.ok.above)
 have neC:∀ b o,X.s₀.heap.get? b=some o->b ∉ X.ex->b ∉ ch:=fun b o e hx hb=>by
  rcases (hch b hb).1 with z | z
  ·exact hx z
  ·exact absurd (a0o (Heap.lt_size e) z) (a06 _)
 have cellK:∀ x c,X.env.cells.lookup x=some c->∀ v,s.heap.IsCell c v->h'.IsCell c v:=fun x c e v ⟨o,ho,hd⟩=>by
  have nch:c ∉ ch:=fun z=>(hch c z).2.2.1 x c e rfl
  by_cases hc:c∈X.fs
  ·obtain ⟨sl,q⟩:=slot c o (I.cne x c e) hc nch ho (I.freeC x c e)
   exact ⟨_,q,hd⟩
  ·exact ⟨o,keep c o (I.cne x c e) hc nch ho (I.freeC x c e),hd⟩
 refine ⟨I.ok,I.os,hg,⟨fun b o e n hb hx=>?_,fun b o e n hb hx=>?_,fun b o e n hx=>?_,fun b o e hx=>?_,fun b xs e=>tups b xs (I.base.tups b xs e),fun b o xs e=>frzs b o xs (I.base.frzs b o xs e),fun b ps e=>?_⟩,?_,fun x c e=>?_,?_,fun x c e=>?_,fun p hp=>?_,hok,I.len⟩
 ·exact keep b o (neL b o e) hb (neC b o e hx) (I.base.keep b o e n hb hx) (I.base.free b o e n hx)
 ·obtain ⟨sl,e1⟩:=I.base.slot b o e n hb hx
  obtain ⟨sl',e2⟩:=slot b _ (neL b o e) hb (neC b o e hx) e1 (I.base.free b o e n hx)
  exact ⟨sl',e2⟩
 ·obtain ⟨o',e1⟩:=I.base.there b o e hx
  exact free b o' (neC b o e hx) e1 (I.base.free b o e n hx)
 ·obtain ⟨o',e1⟩:=I.base.there b o e hx
  exact there b o' (neC b o e hx) e1
 ·obtain ⟨m1,e1⟩:=I.base.tbls b ps e
  obtain ⟨m2,e2⟩:=tbls b _ e1
  exact ⟨m1++m2,by rw [e2,Array.append_assoc]⟩
 ·obtain ⟨m,hn,hl⟩:=I.loc
  refine ⟨m,ns m hn,fun i x v e1 e2 e3=>?_⟩
  obtain ⟨u,r,l⟩:=hl i x v e1 e2 e3
  refine ⟨u,r,?_⟩
  rcases l with l | ⟨k,c,e,z⟩
  ·exact .inl l
  ·exact .inr ⟨k,c,e,cellK x c e _ z⟩
 ·obtain ⟨v,z⟩:=I.cell x c e
  exact ⟨v,cellK x c e v z⟩
 ·obtain ⟨m,⟨o,_,_,ho,_⟩,_⟩:=I.loc
  exact free _ o (fun z=>(hch _ z).2.1 rfl) ho I.free
 ·obtain ⟨v,o,ho,hd⟩:=I.cell x c e
  exact free c o (fun z=>(hch c z).2.2.1 x c e rfl) ho (I.freeC x c e)
 ·obtain ⟨e,n,ne,nf,d⟩:=I.pin p hp
  have nch:p.1 ∉ ch:=fun z=>(hch p.1 z).2.2.2 p hp rfl
  exact ⟨keep p.1 p.2 ne nf nch e n,free p.1 p.2 nch e n,ne,nf,d⟩
theorem Inv.un {t':Nat}(I:Inv X pins σ H s)(u:Un X.fs [] H H' s.heap h')(hok:HOk X.prog X.w H' h'):Inv X pins σ H' { s with heap:=h',toks:=t' }:=by
 obtain ⟨m,⟨o,es,ep,ho,r⟩,_⟩:=id I.loc
 obtain ⟨sl,hL⟩:=u.any ho I.free (by simp)
 exact I.step (g':=s.gens) (d':=s.drawn) (ch:=[]) (fun _ z=>nomatch z) (fun b o _ hb _ e n=>u.keep b o e n hb (by simp)) (fun b o _ hb _ e n=>u.slot b o e n hb (by simp)) (fun b o _ e n=>u.free b o e n (by simp)) (fun b o _ e=>u.there b o e (by simp)) u.tups u.frzs u.tbls (fun m' hm=>by
  obtain ⟨o',es',ep',ho',r'⟩:=hm
  rw [ho] at ho'; cases ho'
  exact ⟨_,es',ep',hL,r'⟩) hok I.bare
theorem Inv.call {g':Array GenState}{t':Nat}{d':Drawn}{ch:List Addr}(I:Inv X pins σ H s)(u:Un (frs X.stack) ch H H' s.heap h')(hok:HOk X.prog X.w H' h')(hg:AllBare g')
  (hch:∀ b∈ch,(b∈X.ex\/X.s₀.heap.objs.size<=b)/\b≠X.env.locals/\(∀ x c,X.env.cells.lookup x=some c->c≠b)/\∀ p∈X.pn++pins,p.1≠b) :
  Inv X pins σ H' { s with heap:=h',gens:=g',drawn:=d',toks:=t' }:=by
 obtain ⟨m,⟨o,es,ep,ho,r⟩,_⟩:=id I.loc
 obtain ⟨sl,hL⟩:=u.any ho I.free fun z=>(hch _ z).2.1 rfl
 exact I.step (ch:=ch) hch (fun b o hL hb hc e n=>u.keep b o e n (fun z=>(a0q.mp (I.stkSub b z)).elim hL hb) hc) (fun b o _ _ hc e n=>u.any e n hc) (fun b o hc e n=>u.free b o e n hc) (fun b o hc e=>u.there b o e hc) u.tups u.frzs u.tbls (fun m' hm=>by
  obtain ⟨o',es',ep',ho',r'⟩:=hm
  rw [ho] at ho'; cases ho'
  exact ⟨_,es',ep',hL,r'⟩) hok hg
theorem Inv.turned {t':Nat}{it:Addr}(I:Inv X pins σ H s)(k:∀ b o,b≠it->s.heap.get? b=some o->h'.get? b=some o)(hn:H it=none)(hL:it≠X.env.locals)
  (h1:it∈X.ex\/X.s₀.heap.objs.size<=it) (h2:∀ x c,X.env.cells.lookup x=some c->c≠it) (h3:∀ p∈X.pn++pins,p.1≠it):Inv X pins σ H { s with heap:=h',toks:=t' }:=by
 have nit:∀ b u,H b=some u->b≠it:=fun b u e z=>by rw [z,hn] at e; cases e
 refine I.step (g':=s.gens) (d':=s.drawn) (ch:=[it]) (fun b hb=>?_) (fun b o _ _ hc e _=>k b o (fun z=>hc (by simp [z])) e) (fun b o _ _ hc e _=>⟨o.slots,k b o (fun z=>hc (by simp [z])) e⟩) (fun _ _ _ _ n=>n)
  (fun b o hc e=>⟨o,k b o (fun z=>hc (by simp [z])) e⟩) (fun _ _ e=>e) (fun _ _ _ e=>e) (fun b ps e=>⟨#[],by rw [e]; simp⟩) (fun m hm=>?_) (fun b u e=>?_) I.bare
 ·have e:b=it:=by simpa using hb
  subst e
  exact ⟨h1,hL,h2,h3⟩
 ·obtain ⟨o,es,ep,ho,r⟩:=hm
  exact ⟨o,es,ep,k _ o (a1u hL) ho,r⟩
 ·refine (I.hok b u e).stay (fun c v hc q=>k c v ?_ q) (fun _ q=>q) fun _ _ q=>q
  rcases hc with z | z
  ·rw [z]; exact nit b u e
  ·exact nit c _ z
theorem Inv.tok (I:Inv X pins σ H s)(t:Nat):Inv X pins σ H { s with toks:=t }:=I.un (h':=s.heap) (t':=t) Un.refl I.hok
theorem Inv.kept {t':Nat}(I:Inv X pins σ H s)(k:∀ b u,s.heap.get? b=some u->h'.get? b=some u):Inv X pins σ H { s with heap:=h',toks:=t' }:=I.un (Un.kept k) (I.hok.kept k)
theorem Inv.laid {a:Addr}{o:HO}{t':Nat}(I:Inv X pins σ H s)(k:∀ b u,s.heap.get? b=some u->h'.get? b=some u)(hp:s.heap.objs.size<=a)(new:ObjOk X.prog X.w (upd H a o) h' a o) :
  Inv X pins σ (upd H a o) { s with heap:=h',toks:=t' }:=I.un (Un.laid k hp (I.hok.fresh hp)) (I.hok.laid k hp new)
theorem Inv.write {x e:Addr}{o:HO}{t':Nat}(I:Inv X pins σ H s)(mu:Mut (H x))(he:e=x\/H e=some (.own x))(k:∀ b u,b≠e->s.heap.get? b=some u->h'.get? b=some u)(heo:∃ u,h'.get? e=some u)
  (new:ObjOk X.prog X.w (upd H x o) h' x o):Inv X pins σ (upd H x o) { s with heap:=h',toks:=t' }:=I.un (Un.write mu he k heo) (I.hok.write mu he k heo new)
theorem Inv.weak {σ':List (Option V)}(I:Inv X pins σ H s)(hl:σ'.length=σ.length)(w:∀ (i:Nat) v,σ'[i]?=some (some v)->σ[i]?=some (some v)):Inv X pins σ' H s :=
 ⟨I.ok,I.os,I.bare,I.base,let ⟨m,hn,hl'⟩:=I.loc; ⟨m,hn,fun i x v e1 e2 e3=>hl' i x v e1 (w i v e2) e3⟩,I.cell,I.free,I.freeC,I.pin,I.hok,hl.trans I.len⟩
theorem Inv.pins_of {pins':List (Addr×Obj)}(I:Inv X pins σ H s)(h:∀ p∈pins',s.heap.get? p.1=some p.2/\H p.1=none/\p.1≠X.env.locals/\p.1 ∉ X.fs/\∀ v,p.2.data≠.cell v):Inv X pins' σ H s :=
 ⟨I.ok,I.os,I.bare,I.base,I.loc,I.cell,I.free,I.freeC,fun p hp=>(a0T.mp hp).elim (fun z=>I.pin p (a0L _ z)) (h p),I.hok,I.len⟩
theorem i4 {N:List Str}(hN:N.Nodup){i j:Nat}{x:Str}(a:N[i]?=some x)(b:N[j]?=some x):i=j:=by
 obtain ⟨h1,e1⟩:=a0z.mp a
 obtain ⟨h2,e2⟩:=a0z.mp b
 exact (List.getElem_inj hN).mp (e1.trans e2.symm)
theorem fX {M:Model}{A:Around}{E:Value->Shared->Prop}{i:Nat}{x:Str}{v:V}{u:Value}{Q:Unit->Shared->Prop}(I:Inv X pins σ H s)(hN:X.N.Nodup)(hi:X.N[i]?=some x)(hx:Loc X.env.scope x)(r:RelV v u)
  (h:∀ s',Inv X pins (σ.set i (some v)) H s'->(∃ a,Heap.SameBut a s.heap s'.heap/\(a=X.env.locals\/X.env.cells.lookup x=some a))->Q () s') (hf:X.fn x=true\/X.env.scope.names.lookup x=some .local:=by first | exact .inl rfl | exact .inr rfl | assumption):wpAny M A (storeName X.env x u) Q E s:=by
 obtain ⟨m,hn,hl⟩:=id I.loc
 have hcls:(X.env.scope.kind==.class || (X.env.scope.kind==.module&&X.env.locals != X.env.globals))=false:=by rw [I.ok.kind]; rfl
 have hiσ:i < σ.length:=by rw [I.len]; exact (a0z.mp hi).1
 have cne:=I.cne
 have tracked:∀ {a:Addr} {h':Heap},(∃ o,s.heap.get? a=some o/\H a=none)->Heap.SameBut a s.heap h'->HOk X.prog X.w H h':=fun {a h'} ha hs b ob e=>by
  obtain ⟨_,_,hfree⟩:=ha
  refine (I.hok b ob e).stay (fun c w' hc q=>(hs.2 c ?_).trans q) (fun _ q=>q) fun _ _ q=>q
  rintro rfl
  rcases hc with rfl | hc
  ·rw [hfree] at e; cases e
  ·rw [hfree] at hc; cases hc
 rcases hx with hk | hk
 ·refine wpAny_storeName_local hk hn (fun h' hn' hs=>?_) hcls
  obtain ⟨oL,_,_,hoL,_⟩:=id hn
  refine h _ ⟨I.ok,I.os,I.bare,⟨fun b o e n hb hx=>?_,fun b o e n hb hx=>?_,I.base.free,fun b o e hx=>?_,I.base.tups,I.base.frzs,I.base.tbls⟩,⟨_,hn',fun j y v' e1 e2 e3=>?_⟩,fun y c e=>?_,I.free,I.freeC,fun p hp=>?_,tracked ⟨oL,hoL,I.free⟩ hs,by simpa using I.len⟩ ⟨_,hs,.inl rfl⟩
  ·exact (hs.2 b (a0I (a0o (Heap.lt_size e) I.ok.above))).trans (I.base.keep b o e n hb hx)
  ·obtain ⟨sl,e1⟩:=I.base.slot b o e n hb hx
   exact ⟨sl,(hs.2 b (a0I (a0o (Heap.lt_size e) I.ok.above))).trans e1⟩
  ·obtain ⟨o',e1⟩:=I.base.there b o e hx
   exact ⟨o',(hs.2 b (a0I (a0o (Heap.lt_size e) I.ok.above))).trans e1⟩
  ·by_cases hj:j=i
   ·subst hj
    rw [hi] at e1; cases e1
    rw [a1b hiσ] at e2
    cases e2
    exact ⟨u,r,.inl ⟨hk,by simp⟩⟩
   ·rw [a0S (a1u hj)] at e2
    obtain ⟨u',r',q⟩:=hl j y v' e1 e2 e3
    refine ⟨u',r',?_⟩
    rcases q with ⟨k,e⟩ | ⟨k,c,e,z⟩
    ·refine .inl ⟨k,?_⟩
     have:y≠x:=fun e=>hj (i4 hN e1 (e ▸ hi))
     simp [this,e]
    ·exact .inr ⟨k,c,e,z.sameBut hs (cne y c e)⟩
  ·obtain ⟨w',z⟩:=I.cell y c e
   exact ⟨w',z.sameBut hs (cne y c e)⟩
  ·obtain ⟨e,n,ne,nf,d⟩:=I.pin p hp
   exact ⟨(hs.2 p.1 ne).trans e,n,ne,nf,d⟩
 ·have hfn:X.fn x=true:=by
   rcases hf with z | z
   ·exact z
   ·rw [z] at hk; cases hk
  obtain ⟨c,hc⟩:=I.ok.has x (.inl hk)
  obtain ⟨w',z⟩:=I.cell x c hc
  refine wpAny_storeName_cell I.ok.kind hk hc z (fun h' hc' hs=>?_)
  obtain ⟨oc,hoc,hocd⟩:=id z
  refine h { s with heap:=h' } ⟨I.ok,I.os,I.bare,⟨fun b o e n hb hx=>?_,fun b o e n hb hx=>?_,I.base.free,fun b o e hx=>?_,I.base.tups,I.base.frzs,I.base.tbls⟩,⟨m,hn.sameBut hs (a1u (cne x c hc)),fun j y v' e1 e2 e3=>?_⟩,fun y c' e=>?_,I.free,I.freeC,fun p hp=>?_,tracked ⟨oc,hoc,I.freeC x c hc⟩ hs,by simpa using I.len⟩ ⟨c,hs,.inr hc⟩
  ·exact (hs.2 b (a0I (a0o (Heap.lt_size e) (I.ok.cab x c hfn hc)))).trans (I.base.keep b o e n hb hx)
  ·obtain ⟨sl,e1⟩:=I.base.slot b o e n hb hx
   exact ⟨sl,(hs.2 b (a0I (a0o (Heap.lt_size e) (I.ok.cab x c hfn hc)))).trans e1⟩
  ·obtain ⟨o',e1⟩:=I.base.there b o e hx
   exact ⟨o',(hs.2 b (a0I (a0o (Heap.lt_size e) (I.ok.cab x c hfn hc)))).trans e1⟩
  ·by_cases hj:j=i
   ·subst hj
    rw [hi] at e1; cases e1
    rw [a1b hiσ] at e2
    cases e2
    exact ⟨u,r,.inr ⟨.inl hk,c,hc,hc'⟩⟩
   ·rw [a0S (a1u hj)] at e2
    obtain ⟨u',r',q⟩:=hl j y v' e1 e2 e3
    refine ⟨u',r',?_⟩
    rcases q with q | ⟨k,c',e,z'⟩
    ·exact .inl q
    ·refine .inr ⟨k,c',e,z'.sameBut hs ?_⟩
     rintro rfl
     exact hj (i4 hN e1 (I.ok.inj _ _ _ e hc ▸ hi))
  ·by_cases hcc:c'=c
   ·subst hcc; exact ⟨_,hc'⟩
   ·obtain ⟨w2,z2⟩:=I.cell y c' e
    exact ⟨w2,z2.sameBut hs hcc⟩
  ·obtain ⟨e,n,ne,nf,d⟩:=I.pin p hp
   refine ⟨(hs.2 p.1 ?_).trans e,n,ne,nf,d⟩
   intro q
   rw [q,hoc] at e
   have q':oc=p.2:=a0v e
   exact d w' (by rw [<- q']; exact hocd)
theorem jn {M:Model}{A:Around}{E:Value->Shared->Prop}{i:Nat}{x:Str}{v:V}{u:Value}{Q:Unit->Shared->Prop}(I:Inv X pins σ H s)(hN:X.N.Nodup)(hi:X.N[i]?=some x)(hx:Loc X.env.scope x)(r:RelV v u)
  (h:∀ s',Inv X pins (σ.set i (some v)) H s'->Q () s') (hf:X.fn x=true\/X.env.scope.names.lookup x=some .local:=by first | exact .inl rfl | exact .inr rfl | assumption):wpAny M A (storeName X.env x u) Q E s :=
 fX I hN hi hx r (fun s' I' _=>h s' I') hf
theorem Inv.call' {s':Shared}{ch:List Addr}(I:Inv X pins σ H s)(ho:s'.os=s.os)(u:Un (frs X.stack) ch H H' s.heap s'.heap)(hok:HOk X.prog X.w H' s'.heap)(hg:AllBare s'.gens)
  (hch:∀ b∈ch,(b∈X.ex\/X.s₀.heap.objs.size<=b)/\b≠X.env.locals/\(∀ x c,X.env.cells.lookup x=some c->c≠b)/\∀ p∈X.pn++pins,p.1≠b):Inv X pins σ H' s':=by
 obtain ⟨h',g',d',t',o'⟩:=s'
 have e:o'=s.os:=ho
 subst e
 exact I.call (g':=g') (t':=t') (d':=d') u hok hg hch
end
noncomputable abbrev XK:=Value->Option Addr->Hp->Prop
noncomputable abbrev St:=List (Option V)
noncomputable abbrev VK:=V->Hp->Prop
noncomputable abbrev TE:=St->Hp->VK->Prop
noncomputable abbrev TT:=St->Hp->(Bool->Hp->Prop)->Prop
noncomputable abbrev TA:=St->Hp->(List V->Hp->Prop)->Prop
structure aT where
 nx:St->Hp->Prop
 rt:VK
 bk:St->Hp->Prop:=fun _ _=>False
 ct:St->Hp->Prop:=fun _ _=>False
noncomputable abbrev TS:=aT->St->Hp->Prop
noncomputable def EP (X:Cx)(pins:List (Addr×Obj))(σ:St)(Q:VK)(u:Value)(s':Shared):Prop:=∃ v H',Inv X pins σ H' s'/\RelV v u/\Q v H'
noncomputable def TP (X:Cx)(pins:List (Addr×Obj))(σ:St)(Q:Bool->Hp->Prop)(b:Bool)(s':Shared):Prop:=∃ H',Inv X pins σ H' s'/\Q b H'
noncomputable def AP (X:Cx)(pins:List (Addr×Obj))(σ:St)(Q:List V->Hp->Prop)(us:List Value)(s':Shared):Prop:=∃ vs H',Inv X pins σ H' s'/\Vals vs us/\Q vs H'
noncomputable def SP (X:Cx)(pins:List (Addr×Obj))(D:aT)(f:Flow)(s':Shared):Prop :=
 match f with
 | .next=>∃ σ' H',Inv X pins σ' H' s'/\D.nx σ' H'
 | .brk=>∃ σ' H',Inv X pins σ' H' s'/\D.bk σ' H'
 | .cont=>∃ σ' H',Inv X pins σ' H' s'/\D.ct σ' H'
 | .ret u=>∃ v σ' H',Inv X pins σ' H' s'/\RelV v u/\D.rt v H'
noncomputable def PE (X:Cx)(e:Expr)(t:TE):Prop :=
 ∀ (pins:List (Addr×Obj)) (s:Shared) (σ:St) (H:Hp) (Q:VK),Inv X pins σ H s->t σ H Q->wpAny (model X.prog X.w) X.A (eval e X.env) (EP X pins σ Q) X.xe s
noncomputable def PT (X:Cx)(e:Expr)(t:TT):Prop :=
 ∀ (pins:List (Addr×Obj)) (s:Shared) (σ:St) (H:Hp) (Q:Bool->Hp->Prop),Inv X pins σ H s->t σ H Q->wpAny (model X.prog X.w) X.A (isTrue e X.env (eval e X.env)) (TP X pins σ Q) X.xe s
noncomputable def PW (X:Cx)(e:Expr)(t:TT):Prop :=
 ∀ (whole:Sem Value) (pins:List (Addr×Obj)) (s:Shared) (σ:St) (H:Hp) (Q:Bool->Hp->Prop),Inv X pins σ H s->t σ H Q->wpAny (model X.prog X.w) X.A (isTrue e X.env whole) (TP X pins σ Q) X.xe s
theorem PW.pt {X:Cx}{e:Expr}{t:TT}(h:PW X e t):PT X e t:=h _
noncomputable def PA (X:Cx)(es:List Expr)(t:TA):Prop :=
 ∀ (pos:Pos) (pins:List (Addr×Obj)) (s:Shared) (σ:St) (H:Hp) (Q:List V->Hp->Prop),Inv X pins σ H s->t σ H Q->wpAny (model X.prog X.w) X.A (spliced (backTo pos (starEach es X.env))) (AP X pins σ Q) X.xe s
noncomputable def PS (X:Cx)(st:Stmt)(t:TS):Prop :=
 ∀ (pins:List (Addr×Obj)) (s:Shared) (σ:St) (H:Hp) (D:aT),Inv X pins σ H s->t D σ H->wpAny (model X.prog X.w) X.A (exec st X.env) (SP X pins D) X.xe s
noncomputable def PSs (X:Cx)(st:List Stmt)(t:TS):Prop :=
 ∀ (pins:List (Addr×Obj)) (s:Shared) (σ:St) (H:Hp) (D:aT),Inv X pins σ H s->t D σ H->wpAny (model X.prog X.w) X.A (execs st X.env) (SP X pins D) X.xe s
theorem thn {α:Type}{t:Sem α}{Q Q':α->Shared->Prop}{M:Model}{A:Around}{E:Value->Shared->Prop}{s:Shared}(h:wpAny M A t Q E s)(hQ:∀ a s,Q a s->Q' a s):wpAny M A t Q' E s:=wpAny_mono h hQ fun _ _ x=>x
end L2
namespace L2
open PySem PySem.Spec PyProof.Rows
section
variable {X:Cx}
noncomputable def eJ (i:Nat):TE:=fun σ H Q=>∃ v,σ[i]?=some (some v)/\Q v H
noncomputable def tC (v:V):TE:=fun _ H Q=>Q v H
theorem az {i:Nat}{x:Str}{pos:Pos}(hN:X.N[i]?=some x)(hv:Vis X.env.scope x)(hd:(x==("__debug__":Str))=false:=by decide)(hcd:(x==("__classdict__":Str))=false:=by decide):PE X (.Name x pos) (eJ i):=by
 intro pins s σ H Q I h
 obtain ⟨v,e,h⟩:=h
 obtain ⟨m,hn,hl⟩:=I.loc
 obtain ⟨u,r,l⟩:=hl i x v hN e hv
 have fin:EP X pins σ Q u s:=⟨v,H,I,r,h⟩
 rcases l with ⟨hk,hm⟩ | ⟨hk,c,hc,hcell⟩
 ·exact wpAny_Name (wpAny_loadName_local I.ok.kind hk hn hm fin) hd
 ·rcases hk with hk | hk
  ·exact wpAny_Name (wpAny_loadName_cell I.ok.kind hk hc hcell fin) hd
  ·exact wpAny_Name (wpAny_loadName_free I.ok.kind hk hc hcell fin hcd) hd
theorem j7 {i j pos}:PE X (.Constant (.int i) j pos) (tC (.int i)):=fun _ _ _ H _ I h=>wpAny_Constant_int ⟨.int i,H,I.tok _,⟨_,rfl⟩,h⟩
theorem Ak {b j pos}:PE X (.Constant (.bool b) j pos) (tC (.bl b)):=fun _ _ _ H _ I h=>Constant_bool ⟨.bl b,H,I,rfl,h⟩
noncomputable def Gl (X:Cx)(x:Str):Prop:=X.env.kindOf x=some .globalImplicit
theorem rL {E:Value->Shared->Prop}{pins:List (Addr×Obj)}{s:Shared}{σ:St}{H:Hp}{x:Str}{u:Value}{pos:Pos}{Q:Value->Shared->Prop}(I:Inv X pins σ H s)(hg:Gl X x)(hm:X.mg x=some u)(h:Q u s)
  (hd:(x==("__debug__":Str))=false:=by decide):wpAny (model X.prog X.w) X.A (eval (.Name x pos) X.env) Q E s :=
 Calls.Name_function_global I.ok.kind hg (Calls.loadGlobal_global (by rw [I.ok.glob]; exact I.mod.glob.keeps I.bk) hm h) hd
theorem dz {E:Value->Shared->Prop}{pins:List (Addr×Obj)}{s:Shared}{σ:St}{H:Hp}{x:Str}{u:Value}{pos:Pos}{Q:Value->Shared->Prop}(I:Inv X pins σ H s)(hg:Gl X x)(hm:X.mg x=none)(hv:bootBuiltins x=some u)(h:Q u s)
  (hn:x≠"__name__":=by decide) (hd:(x==("__debug__":Str))=false:=by decide):wpAny (model X.prog X.w) X.A (eval (.Name x pos) X.env) Q E s:=by
 obtain ⟨mb,h1,h2⟩:=I.mod.blt
 exact Calls.Name_function_global I.ok.kind hg (Calls.loadGlobal_builtin (by rw [I.ok.glob]; exact I.mod.glob.keeps I.bk) hm (by rw [I.ok.blt]; exact h1.keeps I.bk) ((h2 x hn).trans hv) h) hd
theorem qX {x:Str}{v:V}{u:Value}{pos:Pos}(hg:Gl X x)(hm:X.mg x=none)(hv:bootBuiltins x=some u)(r:RelV v u)(hn:x≠"__name__":=by decide)(hd:(x==("__debug__":Str))=false:=by decide):PE X (.Name x pos) (tC v) :=
 fun _ _ _ H _ I h=>dz I hg hm hv ⟨v,H,I,r,h⟩ hn hd
variable {a b:Expr}{ta tb:TE}{pos:Pos}
noncomputable def PC (X:Cx)(op:CmpOp)(a b:Expr)(t:TE):Prop :=
 ∀ (pins:List (Addr×Obj)) (s:Shared) (σ:St) (H:Hp) (Q:VK),Inv X pins σ H s->t σ H Q ->
  wpAny (model X.prog X.w) X.A (eval a X.env) (fun v s₁=>wpAny (model X.prog X.w) X.A (eval b X.env) (fun u s₂=>wpAny (model X.prog X.w) X.A (compareOp op v u) (EP X pins σ Q) X.xe s₂) X.xe s₁) X.xe s
noncomputable def tB (t:TE):TT:=fun σ H Q=>t σ H fun x H1=>∃ c,x=.bl c/\Q c H1
variable {tA tB':TT}{rest:List Expr}
noncomputable def Cs (t u:TT):TT:=fun σ H Q=>t σ H fun c H1=>if c=true then u σ H1 Q else Q false H1
noncomputable def tOr (t u:TT):TT:=fun σ H Q=>t σ H fun c H1=>if c=true then Q true H1 else u σ H1 Q
noncomputable def zU (t:TT):TT:=fun σ H Q=>t σ H fun c H1=>Q (!c) H1
theorem q5 (ha:PT X a tA):PW X (.BoolOp .And [a] pos) tA:=by
 intro wh pins s σ H Q I h
 refine isTrue_and (thn (ha pins s σ H Q I h) fun c s1 e=>?_)
 cases c with
 | true=>exact isTrue_and_nil e
 | false=>exact e
theorem yn (ha:PT X a tA):PW X (.BoolOp .Or [a] pos) tA:=by
 intro wh pins s σ H Q I h
 refine isTrue_or (thn (ha pins s σ H Q I h) fun c s1 e=>?_)
 cases c with
 | false=>exact isTrue_or_nil e
 | true=>exact e
theorem xE (ha:PT X a tA)(hb:PW X (.BoolOp .And (b::rest) pos) tB'):PW X (.BoolOp .And (a::b::rest) pos) (Cs tA tB'):=by
 intro wh pins s σ H Q I h
 refine isTrue_and (thn (ha pins s σ H _ I h) fun c s1 ⟨H1,I1,q1⟩=>?_)
 cases c with
 | true=>exact hb wh pins s1 σ H1 Q I1 q1
 | false=>exact ⟨H1,I1,q1⟩
theorem BM (ha:PT X a tA)(hb:PW X (.BoolOp .Or (b::rest) pos) tB'):PW X (.BoolOp .Or (a::b::rest) pos) (tOr tA tB'):=by
 intro wh pins s σ H Q I h
 refine isTrue_or (thn (ha pins s σ H _ I h) fun c s1 ⟨H1,I1,q1⟩=>?_)
 cases c with
 | true=>exact ⟨H1,I1,q1⟩
 | false=>exact hb wh pins s1 σ H1 Q I1 q1
theorem yt (ha:PT X a tA):PT X (.UnaryOp .Not a pos) (zU tA):=by
 intro pins s σ H Q I h
 exact isTrue_not (ha pins s σ H (fun c H1=>Q (!c) H1) I h)
end
end L2
namespace L2
open PySem PySem.Spec PyProof.Rows
noncomputable def SqL (K:a0a)(H:Hp)(a:Addr)(xs:List V):Prop :=
 Rd H a (.lst xs) \/
  ∃ (o:Obj) (its:Array Value) (n:Nat),K.lookup a=some o/\o.cls=.type "list"/\o.dict=none/\o.data=.seq its n/\its.size<=sizeLine/\Vals xs its.toList
noncomputable def SqT (K:a0a)(H:Hp)(a:Addr)(xs:List V):Prop :=
 Rd H a (.tup xs) \/
  ∃ (o:Obj) (its:Array Value) (n:Nat),K.lookup a=some o/\o.cls=.type "tuple"/\o.data=.seq its n/\its.size<=sizeLine/\Vals xs its.toList
noncomputable def C8:Value->Option V
 | .none=>some .non
 | .bool b=>some (.bl b)
 | .int i _=>some (.int i)
 | .str x _=>some (.str x)
 | .bytes b _=>some (.byt b)
 | .float b _=>some (.flt b)
 | .ref a=>some (.ref a)
 | .type n=>some (.ty n)
 | _=>none
theorem RelV.abs {x:V}{u:Value}(r:RelV x u):C8 u=some x:=by
 cases x with
 | non=>cases r; rfl
 | bl _=>cases r; rfl
 | int _=>obtain ⟨t,rfl⟩:=r; rfl
 | str _=>obtain ⟨t,rfl⟩:=r; rfl
 | byt _=>obtain ⟨t,rfl⟩:=r; rfl
 | flt _=>obtain ⟨t,rfl⟩:=r; rfl
 | ref _=>cases r; rfl
 | ty _=>cases r; rfl
theorem RelV.inj {x y:V}{u:Value}(r:RelV x u)(q:RelV y u):x=y:=a0v (r.abs.symm.trans q.abs)
theorem Vals.inj:∀ {xs ys:List V} {us:List Value},Vals xs us->Vals ys us->xs=ys
 | _,_,_,.nil,.nil=>rfl
 | _,_,_,.cons r t,.cons r' t'=>by rw [r.inj r',Vals.inj t t']
section
variable {X:Cx}{pins:List (Addr×Obj)}{σ:St}{H:Hp}{s:Shared}{a:Addr}{xs ys:List V}
theorem SqL.of {K:a0a}(h:H a=some (.lst xs)):SqL K H a xs:=.inl (.inl h)
theorem SqT.of {K:a0a}(h:H a=some (.tup xs)):SqT K H a xs:=.inl (.inl h)
theorem Inv.list (I:Inv X pins σ H s)(h:SqL X.K H a xs):∃ its:List Value,Vals xs its/\PlainL s.heap a its.toArray/\xs.length<=sizeLine:=by
 rcases h with h | ⟨o,its,n,hk,hc,hd,hs,hz,r⟩
 ·obtain ⟨z,its,n,r,e⟩:=h.ok I.hok
  exact ⟨its,r,⟨_,n,e,rfl,rfl,rfl⟩,z⟩
 ·refine ⟨its.toList,r,⟨o,n,I.kIn a o hk,hc,hd,by simpa using hs⟩,?_⟩
  have e:=r.length
  simp only [a1h] at e
  omega
theorem Inv.tuple (I:Inv X pins σ H s)(h:SqT X.K H a xs):∃ its:List Value,Vals xs its/\IsTup s.heap a its.toArray/\xs.length<=sizeLine:=by
 rcases h with h | ⟨o,its,n,hk,hc,hs,hz,r⟩
 ·obtain ⟨z,its,r,p⟩:=h.ok I.hok
  exact ⟨its,r,p,z⟩
 ·refine ⟨its.toList,r,⟨o,I.kIn a o hk,hc,n,by simpa using hs⟩,?_⟩
  have e:=r.length
  simp only [a1h] at e
  omega
theorem Inv.list_inj (I:Inv X pins σ H s)(h:SqL X.K H a xs)(h':SqL X.K H a ys):xs=ys:=by
 obtain ⟨its,r,⟨o,n,e,_,_,d⟩,_⟩:=I.list h
 obtain ⟨its',r',⟨o',n',e',_,_,d'⟩,_⟩:=I.list h'
 rw [e] at e'; cases e'
 rw [d] at d'
 injection d' with d1 _
 have:its=its':=by simpa using congrArg a3G d1
 subst this
 exact r.inj r'
theorem Inv.tuple_inj (I:Inv X pins σ H s)(h:SqT X.K H a xs)(h':SqT X.K H a ys):xs=ys:=by
 obtain ⟨its,r,⟨o,e,_,n,d⟩,_⟩:=I.tuple h
 obtain ⟨its',r',⟨o',e',_,n',d'⟩,_⟩:=I.tuple h'
 rw [e] at e'; cases e'
 rw [d] at d'
 injection d' with d1 _
 have:its=its':=by simpa using congrArg a3G d1
 subst this
 exact r.inj r'
end
noncomputable abbrev Cx.wish (X:Cx)(E:Value->Shared->Prop):Cx:={ X with xe:=E }
noncomputable abbrev Cx.nox (X:Cx):Cx:=X.wish fun _ _=>False
theorem Cx.Ok.wish {X:Cx}(ok:X.Ok)(E:Value->Shared->Prop):(X.wish E).Ok :=
 ⟨ok.mod,ok.kind,ok.glob,ok.blt,ok.above,ok.inj,ok.has,ok.cab,ok.hd,ok.frames,ok.stk,ok.exf,ok.bs,ok.bsz,ok.noex,ok.exfs,ok.funs,ok.frf⟩
theorem Cx.Ok.unwish {X:Cx}{E:Value->Shared->Prop}(ok:(X.wish E).Ok):X.Ok :=
 ⟨ok.mod,ok.kind,ok.glob,ok.blt,ok.above,ok.inj,ok.has,ok.cab,ok.hd,ok.frames,ok.stk,ok.exf,ok.bs,ok.bsz,ok.noex,ok.exfs,ok.funs,ok.frf⟩
section
variable {X:Cx}{pins:List (Addr×Obj)}{σ:St}{H:Hp}{s:Shared}{E:Value->Shared->Prop}
theorem Inv.wish (I:Inv X pins σ H s)(E:Value->Shared->Prop):Inv (X.wish E) pins σ H s:=⟨I.ok.wish E,I.os,I.bare,I.base,I.loc,I.cell,I.free,I.freeC,I.pin,I.hok,I.len⟩
theorem Inv.unwish (I:Inv (X.wish E) pins σ H s):Inv X pins σ H s:=⟨I.ok.unwish,I.os,I.bare,I.base,I.loc,I.cell,I.free,I.freeC,I.pin,I.hok,I.len⟩
theorem SP.unwish {D:aT}{f:Flow}{s':Shared}(h:SP (X.wish E) pins D f s'):SP X pins D f s':=by
 cases f with
 | next=>obtain ⟨σ',H',I,q⟩:=h; exact ⟨σ',H',I.unwish,q⟩
 | brk=>obtain ⟨σ',H',I,q⟩:=h; exact ⟨σ',H',I.unwish,q⟩
 | cont=>obtain ⟨σ',H',I,q⟩:=h; exact ⟨σ',H',I.unwish,q⟩
 | ret u=>obtain ⟨v,σ',H',I,r,q⟩:=h; exact ⟨v,σ',H',I.unwish,r,q⟩
theorem PSs.nox {st:List Stmt}{t:TS}(h:PSs X.nox st t):PSs X st t:=fun pins s σ H D I hw =>
 wpAny_mono (h pins s σ H D (I.wish _) hw) (fun _ _ q=>q.unwish) fun _ _ z=>a1n z
end
section
variable {X:Cx}{st:Stmt}{rest:List Stmt}{t u:TS}{e:Expr}{te:TE}{pos:Pos}
noncomputable def vM:TS:=fun D σ H=>D.nx σ H
noncomputable def Cc (t u:TS):TS:=fun D σ H=>t { D with nx:=u D } σ H
theorem sk:PSs X [] vM:=fun _ _ σ H _ I h=>wpAny_execs_nil ⟨σ,H,I,h⟩
theorem n6 (h1:PS X st t)(h2:PSs X rest u):PSs X (st::rest) (Cc t u):=by
 intro pins s σ H D I h
 refine wpAny_execs_cons (thn (h1 pins s σ H { D with nx:=u D } I h) fun f s1 q=>?_)
 cases f with
 | next =>
  obtain ⟨σ',H',I',q⟩:=q
  exact h2 pins s1 σ' H' D I' q
 | ret v=>exact q
 | brk=>exact q
 | cont=>exact q
theorem lA (h1:PS X st t):PSs X [st] t:=by
 intro pins s σ H D I h
 refine wpAny_execs_cons (thn (h1 pins s σ H D I h) fun f s1 q=>?_)
 cases f with
 | next=>exact wpAny_execs_nil q
 | ret v=>exact q
 | brk=>exact q
 | cont=>exact q
theorem Inv.quiet {pins:List (Addr×Obj)}{σ:St}{H:Hp}{s:Shared}(I:Inv X pins σ H s):interactive X.env=false:=by simp [interactive,I.ok.kind]
noncomputable def nY (te:TE):TS:=fun D σ H=>te σ H fun _ H1=>D.nx σ H1
theorem cf (he:PE X e te)(hs:swapsWith e none pos.line X.env=pure false:=by rfl):PS X (.Expr e pos) (nY te):=by
 intro pins s σ H D I h
 exact wpAny_Expr_any (thn (he pins s σ H _ I h) fun v s1 ⟨x,H1,I1,r1,q1⟩=>⟨σ,H1,I1,q1⟩) I.quiet hs
noncomputable def Ct (te:TE):TS:=fun D σ H=>te σ H D.rt
theorem yy (he:PE X e te):PS X (.Return (some e) pos) (Ct te):=by
 intro pins s σ H D I h
 exact wpAny_Return_some (thn (he pins s σ H _ I h) fun v s1 ⟨x,H1,I1,r1,q1⟩=>⟨x,σ,H1,I1,r1,q1⟩)
noncomputable def zO (c:TT)(t u:TS):TS:=fun D σ H=>c σ H fun b H1=>if b=true then t D σ H1 else u D σ H1
theorem BB {c:Expr}{a b:List Stmt}{tc:TT}(hc:PT X c tc)(ha:PSs X a t)(hb:PSs X b u):PS X (.If c a b pos) (zO tc t u):=by
 intro pins s σ H D I h
 refine wpAny_If (thn (hc pins s σ H _ I h) fun d s1 ⟨H1,I1,q1⟩=>?_)
 cases d with
 | true=>exact ha pins s1 σ H1 D I1 q1
 | false=>exact hb pins s1 σ H1 D I1 q1
end
noncomputable abbrev TG:=V->St->Hp->(St->Hp->Prop)->Prop
noncomputable abbrev TGs:=List V->St->Hp->(St->Hp->Prop)->Prop
noncomputable def PG (X:Cx)(target:Expr)(t:TG):Prop :=
 ∀ (pins:List (Addr×Obj)) (s:Shared) (σ:St) (H:Hp) (v:V) (u:Value) (Q:St->Hp->Prop),Inv X pins σ H s->RelV v u->t v σ H Q ->
  wpAny (model X.prog X.w) X.A (assign target X.env u) (fun _ s'=>∃ σ' H',Inv X pins σ' H' s'/\Q σ' H') X.xe s
noncomputable def PGs (X:Cx)(ts:List Expr)(t:TGs):Prop :=
 ∀ (pins:List (Addr×Obj)) (s:Shared) (σ:St) (H:Hp) (vs:List V) (us:List Value) (Q:St->Hp->Prop),Inv X pins σ H s->Vals vs us->t vs σ H Q ->
  wpAny (model X.prog X.w) X.A (assignInOrder ((assignEach ts X.env).map (·.2)) us) (fun _ s'=>∃ σ' H',Inv X pins σ' H' s'/\Q σ' H') X.xe s
noncomputable abbrev w9:=V->V->V->Hp->(Hp->Prop)->Prop
noncomputable def BK (X:Cx)(t:w9):Prop :=
 ∀ (pins:List (Addr×Obj)) (s:Shared) (σ:St) (H:Hp) (o i v:V) (ov iv u:Value) (Q:Hp->Prop),Inv X pins σ H s->RelV o ov->RelV i iv->RelV v u->t o i v H Q ->
  wpAny (model X.prog X.w) X.A (setItem ov iv u) (fun _ s'=>∃ H',Inv X pins σ H' s'/\Q H') X.xe s
section
variable {X:Cx}{pos:Pos}
noncomputable def bZ (i:Nat):TG:=fun v σ H Q=>Q (σ.set i (some v)) H
theorem bJ {i:Nat}{x:Str}(hN:X.N.Nodup)(hi:X.N[i]?=some x)(hx:Loc X.env.scope x)(hf:X.fn x=true\/X.env.scope.names.lookup x=some .local:=by first | exact .inl rfl | exact .inr rfl | assumption):PG X (.Name x pos) (bZ i):=by
 intro pins s σ H v u Q I r h
 exact wpAny_assign_Name (jn I hN hi hx r (fun s' I'=>⟨_,H,I',h⟩) hf)
noncomputable def xo:TGs:=fun vs σ H Q=>vs=[]/\Q σ H
noncomputable def i6 (t:TG)(u:TGs):TGs:=fun vs σ H Q=>∃ v r,vs=v::r/\t v σ H fun σ' H'=>u r σ' H' Q
theorem lM:PGs X [] xo:=by
 intro pins s σ H vs us Q I r h
 obtain ⟨e,h⟩:=h
 subst e
 cases r
 exact assignInOrder_nil ⟨σ,H,I,h⟩
theorem da {e:Expr}{es:List Expr}{t:TG}{u:TGs}(h1:PG X e t)(h2:PGs X es u)
  (hs:(assignEach (e::es) X.env).map (·.2)=assign e X.env::(assignEach es X.env).map (·.2):=by rfl):PGs X (e::es) (i6 t u):=by
 intro pins s σ H vs us Q I r h
 obtain ⟨v,vr,e1,h⟩:=h
 subst e1
 cases r with
 | cons r rr =>
  rw [hs]
  refine assignInOrder_cons (thn (h1 pins s σ H _ _ _ I r h) fun _ s1 ⟨σ1,H1,I1,q1⟩=>?_)
  exact h2 pins s1 σ1 H1 _ _ Q I1 rr q1
noncomputable def wz (K:a0a)(n:Nat)(t:TGs):TG:=fun v σ H Q=>∃ a xs,v=.ref a/\SqT K H a xs/\xs.length=n/\t xs σ H Q
theorem qK {es:List Expr}{k:Nat}{t:TGs}{n:Nat}(hc:X.calm=true)(h:PGs X es t)
  (hn:(assignEach es X.env).length=n:=by rfl) (hst:(assignEach es X.env).findIdx? (·.1)=none:=by rfl):PG X (.Tuple es k pos) (wz X.K n t):=by
 intro pins s σ H v u Q I r hw
 obtain ⟨a,xs,e1,hq,hl,hw⟩:=hw
 subst e1
 cases r
 obtain ⟨its,rv,ht,hz⟩:=I.tuple hq
 refine assign_Tuple_tuple (I.ok.hd hc) ht (by simp [hn,<- hl,rv.length]) hst fun h' hx=>?_
 have I1:Inv X pins σ H { s with heap:=h' }:=I.kept (t':=s.toks) fun b o e=>hx b o (a0I (Heap.lt_size e)) e
 exact h pins _ σ H xs _ Q I1 (by simpa using rv) hw
noncomputable def C5 (to ti:TE)(t:w9):TG:=fun v σ H Q=>to σ H fun o H1=>ti σ H1 fun i H2=>t o i v H2 fun H3=>Q σ H3
theorem yr {o i:Expr}{to ti:TE}{t:w9}(ho:PE X o to)(hi:PE X i ti)(hs:BK X t)
  (ha:∀ v,assign (.Subscript o i pos) X.env v=(do
   let ov <- holding [v] (eval o X.env)
   let iv <- holding [v,ov] (eval i X.env)
   standAt pos
   holding [v,ov,iv] (setItem ov iv v)
   release [v,ov,iv] []):=by intro _; rfl):PG X (.Subscript o i pos) (C5 to ti t):=by
 intro pins s σ H v u Q I r h
 rw [ha]
 refine wpAny_bind (wpAny_holding (thn (ho pins s σ H _ I h) fun ov s1 ⟨x,H1,I1,r1,q1⟩=>?_))
 refine wpAny_bind (wpAny_holding (thn (hi pins s1 σ H1 _ I1 q1) fun iv s2 ⟨y,H2,I2,r2,q2⟩=>?_))
 refine wpAny_bind (wpAny_standAt (wpAny_bind (wpAny_holding (thn (hs pins s2 σ H2 x y v ov iv u _ I2 r1 r2 r q2) fun _ s3 ⟨H3,I3,q3⟩=>?_))))
 exact wpAny_release ⟨σ,H3,I3,q3⟩
noncomputable def mq (te:TE)(g:TG):TS:=fun D σ H=>te σ H fun x H1=>g x σ H1 D.nx
theorem yG {tg e:Expr}{te:TE}{g:TG}(he:PE X e te)(hg:PG X tg g)(hs:swapsWithSole [tg] e pos.line X.env=pure false:=by rfl)(hw:swappedStores [tg] e X.env=pure none:=by rfl)
  (h1:(assignEach [tg] X.env).map (·.2)=[assign tg X.env]:=by rfl):PS X (.Assign [tg] e pos) (mq te g):=by
 intro pins s σ H D I h
 refine wpAny_Assign_stores (thn (he pins s σ H _ I h) fun v s1 ⟨x,H1,I1,r1,q1⟩=>?_) hs hw
 rw [h1]
 exact thn (hg pins s1 σ H1 x v _ I1 r1 q1) fun _ s2 q=>q
theorem yP {i:Nat}{x:Str}{e:Expr}{te:TE}{pos':Pos}(hN:X.N.Nodup)(hi:X.N[i]?=some x)(hx:Loc X.env.scope x)(he:PE X e te)(hs:swapsWith e (some (.Name x pos')) pos.line X.env=pure false:=by rfl)(hf:X.fn x=true\/X.env.scope.names.lookup x=some .local:=by first | exact .inl rfl | exact .inr rfl | assumption) :
  PS X (.Assign [.Name x pos'] e pos) (mq te (bZ i)):=by
 intro pins s σ H D I h
 refine wpAny_Assign_Name (thn (he pins s σ H _ I h) fun v s1 ⟨y,H1,I1,r1,q1⟩=>?_) hs
 exact jn I1 hN hi hx r1 (fun s2 I2=>⟨_,H1,I2,q1⟩) hf
end
section
variable {X:Cx}{pos:Pos}
noncomputable def qh (c:TT)(tb:TS):TS:=fun D σ H=>∃ W:Nat->St->Hp->Prop,(∃ m,W m σ H)/\∀ m σ H,W m σ H ->
 c σ H fun b H1=>if b=true then ∃ N:St->Hp->Prop,(∀ σ' H',N σ' H'->∃ m',m' < m/\W m' σ' H')/\tb { D with nx:=N,ct:=N,bk:=D.nx } σ H1 else D.nx σ H1
theorem oU {c:Expr}{body:List Stmt}{tc:TT}{tb:TS}(hp:PassesOwn (model X.prog X.w) X.A X.env X.xe)(hc:PT X c tc)(hb:PSs X body tb):PS X (.While c body [] pos) (qh tc tb):=by
 intro pins s σ H D I h
 obtain ⟨W,⟨m0,w0⟩,turn⟩:=h
 refine wpAny_While (codeAny_whileLoop (fun n s'=>∃ σ' H',Inv X pins σ' H' s'/\W n σ' H') ?_ m0 ⟨σ,H,I,w0⟩)
 rintro n s1 ⟨σ1,H1,I1,w1⟩
 refine wpAny_passesOwn hp (thn (hc pins s1 σ1 H1 _ I1 (turn n σ1 H1 w1)) fun b s2 ⟨H2,I2,q2⟩=>?_)
 cases b with
 | true =>
  obtain ⟨N,hN,q2⟩:=q2
  rw [if_pos rfl]
  refine wpAny_passesOwn hp (thn (hb pins s2 σ1 H2 _ I2 q2) fun f s3 q3=>?_)
  cases f with
  | next =>
   obtain ⟨σ3,H3,I3,n3⟩:=q3
   obtain ⟨m',hm,w3⟩:=hN σ3 H3 n3
   exact ⟨m',hm,σ3,H3,I3,w3⟩
  | cont =>
   obtain ⟨σ3,H3,I3,n3⟩:=q3
   obtain ⟨m',hm,w3⟩:=hN σ3 H3 n3
   exact ⟨m',hm,σ3,H3,I3,w3⟩
  | brk=>exact q3
  | ret v=>exact q3
 | false =>
  rw [if_neg a0n]
  exact wpAny_execs_nil ⟨σ1,H2,I2,q2⟩
end
structure It where
 go:Nat->Hp->Prop
 yld:Nat->Hp->V->Hp->Prop
 stop:Nat->Hp->Prop
noncomputable def eL (X:Cx)(pins:List (Addr×Obj))(H:Hp)(b:Addr):Prop :=
 H b=none/\b≠X.env.locals/\b ∉ X.fs/\(b∈X.ex\/X.s₀.heap.objs.size<=b)/\(∀ x c,X.env.cells.lookup x=some c->c≠b)/\∀ p∈X.pn++pins,p.1≠b
theorem Inv.fpOk {X:Cx}{pins:List (Addr×Obj)}{σ:St}{H H':Hp}{s:Shared}{b:Addr}(I:Inv X pins σ H s)(hb:s.heap.objs.size<=b)(hn:H' b=none):eL X pins H' b:=by
 refine ⟨hn,a1L (a0o I.lt hb),I.nofs hb,.inr (a0u I.sz hb),fun x c e z=>?_,fun p hp z=>?_⟩
 ·obtain ⟨v,q⟩:=I.cell x c e
  exact absurd (a0o q.lt (by rw [z]; exact hb)) (a06 _)
 ·exact absurd (a0o (Heap.lt_size (I.pin p hp).1) (by rw [z]; exact hb)) (a06 _)
structure lV (P:Program)(w:World)(K:a0a)(tg:Expr)(J:It)(fp:List Addr)(it:Addr)(tn:Nat->Heap->Prop):Prop where
 mem:it∈fp
 obj:∀ i h,tn i h->∀ b∈fp,∃ o,h.get? b=some o/\∀ v,o.data≠.cell v
 keep:∀ i h h',tn i h->(∀ b∈fp,∀ o,h.get? b=some o->h'.get? b=some o)->tn i h'
 item:∀ (X:Cx),X.prog=P->X.w=w->X.K=K->X.calm=true->∀ (i:Nat) (pins:List (Addr×Obj)) (s:Shared) (σ:St) (H:Hp) (E:Value->Shared->Prop),Inv X pins σ H s->(∀ b∈fp,eL X pins H b)->tn i s.heap->J.go i H ->
  wpAny (model P w) X.A (pyNext (.ref it)) (fun r s1=>∃ u,r=some u /\
   wpAny (model P w) X.A (letOwnedTupleGo tg (.ref it) u) (fun _ s2=>∃ x H',Inv X pins σ H' s2/\RelV x u/\J.yld i H x H'/\tn (i+1) s2.heap/\∀ b∈fp,H' b=none) E s1) E s
 done:∀ (X:Cx),X.prog=P->X.w=w->X.K=K->X.calm=true->∀ (i:Nat) (pins:List (Addr×Obj)) (s:Shared) (σ:St) (H:Hp) (E:Value->Shared->Prop),Inv X pins σ H s->(∀ b∈fp,eL X pins H b)->tn i s.heap->J.stop i H ->
  wpAny (model P w) X.A (pyNext (.ref it)) (fun r s1=>r=none/\Inv X pins σ H s1) E s
 self:∀ (A:Around) (i:Nat) (s:Shared) (Q:Value->Shared->Prop) (E:Value->Shared->Prop),tn i s.heap->Q (.ref it) s->wpAny (model P w) A (pyIter (.ref it)) Q E s
noncomputable abbrev TI:=St->Hp->(It->Hp->Prop)->Prop
noncomputable def PIE (X:Cx)(pins:List (Addr×Obj))(σ:St)(tg:Expr)(R:It->Hp->Prop)(itv:Value)(s2:Shared):Prop :=
 ∃ (it:Addr) (fp:List Addr) (tn:Nat->Heap->Prop) (J:It) (H':Hp),itv=.ref it/\Inv X pins σ H' s2/\lV X.prog X.w X.K tg J fp it tn/\tn 0 s2.heap/\(∀ b∈fp,eL X pins H' b)/\R J H'
noncomputable def PI (X:Cx)(tg iter:Expr)(wi:TI):Prop :=
 ∀ (pins:List (Addr×Obj)) (s:Shared) (σ:St) (H:Hp) (R:It->Hp->Prop),Inv X pins σ H s->wi σ H R ->
  wpAny (model X.prog X.w) X.A (eval iter X.env) (fun v s1=>wpAny (model X.prog X.w) X.A (pyIter v) (PIE X pins σ tg R) X.xe s1) X.xe s
theorem kR {M:Model}{A:Around}{E:Value->Shared->Prop}{s:Shared}{tg:Expr}{it:Addr}{u:Value}{o:Obj}{n:String}{vs:Array Value}{Q:Unit->Shared->Prop}(ho:s.heap.get? it=some o)(hc:o.cls=.type n)(hd:o.data=.fields vs)
  (hn:["enumerate","zip","dict_itemiterator","dict_reverseitemiterator","odict_iterator","itertools.zip_longest","itertools.pairwise"].contains n=false) (hQ:Q () s):wpAny M A (letOwnedTupleGo tg (.ref it) u) Q E s:=by
 unfold letOwnedTupleGo
 cases tg<;>first
  | exact wpAny_pure hQ
  | (cases u<;>first
    | exact wpAny_pure hQ
    | (refine wpAny_bind (wpAny_load ho ?_)
       rw [hc,hd]
       show wpAny M A (if (["enumerate","zip","dict_itemiterator","dict_reverseitemiterator","odict_iterator","itertools.zip_longest","itertools.pairwise"].contains n&&vs[0]?==some (rawInt _))=true then _ else _) Q E s
       rw [if_neg (by intro h; rw [hn,a3p] at h; cases h)]
       exact wpAny_pure hQ))
noncomputable def Itl (K:a0a)(a:Addr):It :=
 ⟨fun i H=>∃ xs x,SqL K H a xs/\xs[i]?=some x,fun i H x H'=>H'=H/\∀ xs,SqL K H a xs->xs[i]?=some x,fun i H=>∃ xs,SqL K H a xs/\xs.length<=i⟩
noncomputable def Itt (K:a0a)(a:Addr):It :=
 ⟨fun i H=>∃ xs x,SqT K H a xs/\xs[i]?=some x,fun i H x H'=>H'=H/\∀ xs,SqT K H a xs->xs[i]?=some x,fun i H=>∃ xs,SqT K H a xs/\xs.length<=i⟩
noncomputable def Itr (lo:Int)(n:Nat):It:=⟨fun i _=>i < n,fun i H x H'=>H'=H/\x=.int (lo+i),fun i _=>n<=i⟩
theorem lW {P:Program}{w:World}{K:a0a}{tg:Expr}(a it:Addr):lV P w K tg (Itl K a) [it] it (fun i h=>h.IsListIter it a i) where
 mem:=by simp
 obj:=fun i h st b hb=>by
  have e:b=it:=by simpa using hb
  subst e
  obtain ⟨o,e,c,d⟩:=st
  exact ⟨o,e,fun v z=>by rw [d] at z; cases z⟩
 keep:=fun i h h' st k=>st.at fun o e=>k it (by simp) o e
 item:=by
  intro X hP hw hK hc i pins s σ H E I hf st hg
  subst hP hw hK
  obtain ⟨xs,x,hq,hx⟩:=hg
  obtain ⟨its,rv,p,hz⟩:=I.list hq
  obtain ⟨u,hu,ru⟩:=rv.get hx
  obtain ⟨f0,f1,f2,f3,f4,f5⟩:=hf it (by simp)
  refine wpAny_pyNext_list_item st p.isList (x:=u) (by simpa using hu) fun h' st' sb=>?_
  have I1:Inv X pins σ H { s with heap:=h' }:=I.turned (t':=s.toks) (fun b o hb e=>(sb.2 b hb).trans e) f0 f1 f3 f4 f5
  obtain ⟨o,e,c,d⟩:=id st'
  exact ⟨u,rfl,kR (s:={ s with heap:=h' }) e c d (by decide) ⟨x,H,I1,ru,⟨rfl,fun ys hy=>by rw [I.list_inj hy hq]; exact hx⟩,st',fun b hb=>(hf b hb).1⟩⟩
 done:=by
  intro X hP hw hK hc i pins s σ H E I hf st hg
  subst hP hw hK
  obtain ⟨xs,hq,hx⟩:=hg
  obtain ⟨its,rv,p,hz⟩:=I.list hq
  obtain ⟨f0,f1,f2,f3,f4,f5⟩:=hf it (by simp)
  have hl:=rv.length
  exact wpAny_pyNext_list_end (I.ok.hd hc) st p.isList (by simp; omega) fun h' eb=>⟨rfl,I.turned (t':=s.toks) (fun b o hb e=>eb b o hb e) f0 f1 f3 f4 f5⟩
 self:=fun _ _ _ _ _ st h=>wpAny_pyIter_listiter st h
theorem j6 {P:Program}{w:World}{K:a0a}{tg:Expr}(a it:Addr):lV P w K tg (Itt K a) [it] it (fun i h=>h.IsTupleIter it a i) where
 mem:=by simp
 obj:=fun i h st b hb=>by
  have e:b=it:=by simpa using hb
  subst e
  obtain ⟨o,e,c,d⟩:=st
  exact ⟨o,e,fun v z=>by rw [d] at z; cases z⟩
 keep:=fun i h h' st k=>st.at fun o e=>k it (by simp) o e
 item:=by
  intro X hP hw hK hc i pins s σ H E I hf st hg
  subst hP hw hK
  obtain ⟨xs,x,hq,hx⟩:=hg
  obtain ⟨its,rv,p,hz⟩:=I.tuple hq
  obtain ⟨u,hu,ru⟩:=rv.get hx
  obtain ⟨f0,f1,f2,f3,f4,f5⟩:=hf it (by simp)
  refine wpAny_pyNext_tuple_item st (show s.heap.IsTuple a its.toArray from p) (x:=u) (by simpa using hu) fun h' st' sb=>?_
  have I1:Inv X pins σ H { s with heap:=h' }:=I.turned (t':=s.toks) (fun b o hb e=>(sb.2 b hb).trans e) f0 f1 f3 f4 f5
  obtain ⟨o,e,c,d⟩:=id st'
  exact ⟨u,rfl,kR (s:={ s with heap:=h' }) e c d (by decide) ⟨x,H,I1,ru,⟨rfl,fun ys hy=>by rw [I.tuple_inj hy hq]; exact hx⟩,st',fun b hb=>(hf b hb).1⟩⟩
 done:=by
  intro X hP hw hK hc i pins s σ H E I hf st hg
  subst hP hw hK
  obtain ⟨xs,hq,hx⟩:=hg
  obtain ⟨its,rv,p,hz⟩:=I.tuple hq
  obtain ⟨f0,f1,f2,f3,f4,f5⟩:=hf it (by simp)
  have hl:=rv.length
  exact wpAny_pyNext_tuple_end (I.ok.hd hc) st (show s.heap.IsTuple a its.toArray from p) (by simp; omega) fun h' eb=>⟨rfl,I.turned (t':=s.toks) (fun b o hb e=>eb b o hb e) f0 f1 f3 f4 f5⟩
 self:=fun _ _ _ _ _ st h=>wpAny_pyIter_tupleiter st h
theorem kq {P:Program}{w:World}{K:a0a}{tg:Expr}(it:Addr)(lo:Int)(n:Nat):lV P w K tg (Itr lo n) [it] it (fun i h=>IsRangeIter h it (lo+(i:Nat) * 1) ((n:Int)-(i:Nat)) 1) where
 mem:=by simp
 obj:=fun i h st b hb=>by
  have e:b=it:=by simpa using hb
  subst e
  exact ⟨_,st,fun v z=>by
   have z':Data.fields _=Data.cell v:=z
   cases z'⟩
 keep:=fun i h h' st k=>k it (by simp) _ st
 item:=by
  intro X hP hw hK hc i pins s σ H E I hf st hg
  subst hP hw hK
  obtain ⟨f0,f1,f2,f3,f4,f5⟩:=hf it (by simp)
  have W:=Walks.range (prog:=X.prog) (w:=X.w) (I.ok.hd hc) it lo 1 n
  refine W.item i s _ _ hg st fun v h' tk hv st' kk=>?_
  obtain ⟨t,rfl⟩:=hv
  have I1:Inv X pins σ H { s with heap:=h',toks:=tk }:=I.turned (fun b o hb e=>kk b o (by simpa using hb) e) f0 f1 f3 f4 f5
  refine ⟨_,rfl,kR (s:={ s with heap:=h',toks:=tk }) (n:="range_iterator") st' rfl rfl (by decide) ⟨.int (lo+i),H,I1,⟨t,?_⟩,⟨rfl,rfl⟩,st',fun b hb=>(hf b hb).1⟩⟩
  rw [Int.mul_one]
 done:=by
  intro X hP hw hK hc i pins s σ H E I hf st hg
  subst hP hw hK
  obtain ⟨f0,f1,f2,f3,f4,f5⟩:=hf it (by simp)
  exact wpAny_pyNext_range_end (I.ok.hd hc) st (by have:n<=i:=hg; omega) fun h' eb=>⟨rfl,I.turned (t':=s.toks) (fun b o hb e=>eb b o hb e) f0 f1 f3 f4 f5⟩
 self:=fun _ _ _ _ _ st h=>wpAny_pyIter_rangeiter st h
end L2
namespace L2
open PySem PySem.Spec PyProof.Rows
section
variable {X:Cx}{tg:Expr}
noncomputable def fZ (K:a0a)(tl:TE):TI:=fun σ H R=>tl σ H fun x H1=>∃ a,x=.ref a/\(∃ xs,SqL K H1 a xs)/\R (Itl K a) H1
noncomputable def A9 (K:a0a)(tl:TE):TI:=fun σ H R=>tl σ H fun x H1=>∃ a,x=.ref a/\(∃ xs,SqT K H1 a xs)/\R (Itt K a) H1
theorem dZ {l:Expr}{tl:TE}(hl:PE X l tl):PI X tg l (fZ X.K tl):=by
 intro pins s σ H R I h
 refine thn (hl pins s σ H _ I h) fun v s1 ⟨x,H1,I1,r1,q1⟩=>?_
 obtain ⟨a,e,⟨xs,hq⟩,q⟩:=q1
 subst e
 cases r1
 obtain ⟨its,rv,p,hz⟩:=I1.list hq
 refine wpAny_pyIter_list p.isList ?_
 refine ⟨s1.heap.objs.size,[s1.heap.objs.size],_,_,H1,rfl,I1.kept (t':=s1.toks) fun b o e=>Heap.get?_push_of_some _ e,lW a _,⟨_,Heap.get?_push_size _ rfl,rfl,rfl⟩,fun b hb=>?_,q⟩
 have e:b=s1.heap.objs.size:=by simpa using hb
 subst e
 exact I1.fpOk (a0h _) (I1.hok.fresh (a0h _))
theorem wY {l:Expr}{tl:TE}(hl:PE X l tl):PI X tg l (A9 X.K tl):=by
 intro pins s σ H R I h
 refine thn (hl pins s σ H _ I h) fun v s1 ⟨x,H1,I1,r1,q1⟩=>?_
 obtain ⟨a,e,⟨xs,hq⟩,q⟩:=q1
 subst e
 cases r1
 obtain ⟨its,rv,p,hz⟩:=I1.tuple hq
 refine wpAny_pyIter_tuple (show s1.heap.IsTuple a its.toArray from p) ?_
 refine ⟨s1.heap.objs.size,[s1.heap.objs.size],_,_,H1,rfl,I1.kept (t':=s1.toks) fun b o e=>Heap.get?_push_of_some _ e,j6 a _,⟨_,Heap.get?_push_size _ rfl,rfl,rfl⟩,fun b hb=>?_,q⟩
 have e:b=s1.heap.objs.size:=by simpa using hb
 subst e
 exact I1.fpOk (a0h _) (I1.hok.fresh (a0h _))
theorem nP {pins:List (Addr×Obj)}{σ:St}{H:Hp}{s:Shared}{R:It->Hp->Prop}{E:Value->Shared->Prop}{lo hi:Int}{t u v:Tok}{tk:Nat}(I:Inv X pins σ H s)(h1:-(2 ^ 62)<=lo)(h2:lo < 2 ^ 62)(h3:-(2 ^ 62)<=hi)(h4:hi < 2 ^ 62)
  (q:R (Itr lo (hi-lo).toNat) H):wpAny (model X.prog X.w) X.A (pyIter (.ref s.heap.objs.size)) (PIE X pins σ tg R) E { s with heap:=s.heap.push { cls:=.type "range",data:=.fields #[.int lo t,.int hi u,.int 1 v] },toks:=tk }:=by
 refine wpAny_pyIter_range (IsRange.new ..) (small_one h1 h2 h3 h4) ?_
 have I1:Inv X pins σ H { s with heap:=s.heap.push { cls:=.type "range",data:=.fields #[.int lo t,.int hi u,.int 1 v] },toks:=tk }:=I.kept fun b o e=>Heap.get?_push_of_some _ e
 refine ⟨(s.heap.push { cls:=.type "range",data:=.fields #[.int lo t,.int hi u,.int 1 v] }).objs.size,[(s.heap.push { cls:=.type "range",data:=.fields #[.int lo t,.int hi u,.int 1 v] }).objs.size],_,_,H,rfl,
  I1.kept (t':=tk) fun b o e=>Heap.get?_push_of_some _ e,kq _ lo (hi-lo).toNat,?_,fun b hb=>?_,q⟩
 ·have e1:lo+((0:Nat):Int) * 1=lo:=by simp
  have e2:(((hi-lo).toNat:Nat):Int)-((0:Nat):Int)=Builtin.Range.rangeSize lo hi 1:=by rw [rangeSize_one]; split<;>omega
  show IsRangeIter _ _ (lo+((0:Nat):Int) * 1) ((((hi-lo).toNat:Nat):Int)-((0:Nat):Int)) 1
  rw [e1,e2]
  exact Heap.get?_push_size _ rfl
 ·have e:b=(s.heap.push { cls:=.type "range",data:=.fields #[.int lo t,.int hi u,.int 1 v] }).objs.size:=by simpa using hb
  subst e
  exact I1.fpOk (a0h _) (I1.hok.fresh (a0h _))
noncomputable def vD (ta:TA):TI:=fun σ H R=>ta σ H fun vs H1=>∃ j:Int,vs=[.int j]/\-(2 ^ 62)<=j/\j < 2 ^ 62/\R (Itr 0 j.toNat) H1
theorem mD {a:Expr}{ta:TA}{p pos:Pos}(hg:Gl X "range")(hm:X.mg "range"=none)(ha:PA X [a] ta)(hs:starEach [a] X.env=[(false,eval a X.env)]:=by rfl):PI X tg (.Call (.Name "range" p) [a] [] pos) (vD ta):=by
 intro pins s σ H R I h
 refine Call_ (dz I hg hm boot_range (a09 (thn (ha pos pins s σ H _ I h) fun us s1 ⟨vs,H1,I1,r1,q1⟩=>?_) hs rfl))
 obtain ⟨j,e,q1,q2,q⟩:=q1
 subst e
 cases r1 with
 | cons r rr =>
  cases rr
  obtain ⟨t,rfl⟩:=r
  exact call_range_1 (nP I1 (by omega) (by omega) q1 q2 (by simpa using q))
noncomputable def tU (wi:TI)(g:TG)(tb:TS):TS:=fun D σ H=>wi σ H fun J H1=>∃ W:Nat->Nat->St->Hp->Prop,(∃ m,W 0 m σ H1)/\∀ i m σ H,W i m σ H ->
 (J.stop i H/\D.nx σ H)\/(J.go i H/\∃ N:St->Hp->Prop,(∀ σ' H',N σ' H'->∃ m',m' < m/\W (i+1) m' σ' H')/\∀ x H',J.yld i H x H'->g x σ H' fun σ2 H2=>tb { D with nx:=N,ct:=N,bk:=D.nx } σ2 H2)
noncomputable def eZ (fp:List Addr)(h:Heap):List (Addr×Obj):=fp.filterMap fun b=>(h.get? b).map fun o=>(b,o)
theorem bh {fp:List Addr}{h:Heap}{b:Addr}{o:Obj}(hb:b∈fp)(e:h.get? b=some o):(b,o)∈eZ fp h:=a2T.mpr ⟨b,hb,by rw [e]; rfl⟩
theorem mm {fp:List Addr}{h:Heap}{p:Addr×Obj}(hp:p∈eZ fp h):p.1∈fp/\h.get? p.1=some p.2:=by
 obtain ⟨b,hb,e⟩:=a2T.mp hp
 cases q:h.get? b with
 | none=>rw [q] at e; cases e
 | some o =>
  rw [q] at e
  have e':(b,o)=p:=a0v e
  subst e'
  exact ⟨hb,q⟩
theorem Inv.pinned {pins:List (Addr×Obj)}{σ:St}{H:Hp}{s:Shared}{fp:List Addr}(I:Inv X pins σ H s)(hf:∀ b∈fp,eL X pins H b)(ho:∀ b∈fp,∃ o,s.heap.get? b=some o/\∀ v,o.data≠.cell v):Inv X (pins++eZ fp s.heap) σ H s :=
 I.pins_of fun p hp=>(a0T.mp hp).elim (fun z=>I.pin p (a0m _ z)) fun z=>by
  obtain ⟨hb,e⟩:=mm z
  obtain ⟨f0,f1,f2,_⟩:=hf p.1 hb
  obtain ⟨o,e',d⟩:=ho p.1 hb
  rw [e] at e'; cases e'
  exact ⟨e,f0,f1,f2,d⟩
theorem Inv.unpinned {pins pl:List (Addr×Obj)}{σ:St}{H:Hp}{s:Shared}(I:Inv X (pins++pl) σ H s):Inv X pins σ H s:=I.pins_of fun p hp=>I.pin p (a0m _ (a0L _ hp))
theorem gX {iter:Expr}{body:List Stmt}{wi:TI}{g:TG}{tb:TS}{pos:Pos}(hp:PassesOwn (model X.prog X.w) X.A X.env X.xe)(hc:X.calm=true)(hi:PI X tg iter wi)(hg:PG X tg g)(hb:PSs X body tb)
  (hs:∀ x,foldedSetIterable iter X.env x=pure x:=by intro _; rfl):PS X (.For tg iter body [] pos) (tU wi g tb):=by
 intro pins s σ H D I h
 refine wpAny_For (thn (hi pins s σ H _ I h) fun v s1 h1=>thn h1 fun itv s2 h2=>?_) hs
 obtain ⟨it,fp,tn,J,H2,e,I2,T,st2,f2,W,⟨m0,w0⟩,turn⟩:=h2
 subst e
 -- what stays true of the iterator's objects through the loop
 have stat:∀ {H':Hp},(∀ b∈fp,H' b=none)->∀ b∈fp,eL X pins H' b:=fun hn b hb=>⟨hn b hb,(f2 b hb).2⟩
 refine codeAny_forLoop_any (fun n s'=>∃ i σ' H',Inv X pins σ' H' s'/\tn i s'.heap/\(∀ b∈fp,H' b=none)/\W i n σ' H') ?_ m0 ⟨0,σ,H2,I2,st2,fun b hb=>(f2 b hb).1,w0⟩
 rintro n s3 ⟨i,σ3,H3,I3,st3,fr3,w3⟩
 rcases turn i n σ3 H3 w3 with ⟨stop,qn⟩ | ⟨go,N,hN,step⟩
 ·refine wpAny_passesOwn hp (thn (T.done X rfl rfl rfl hc i pins s3 σ3 H3 X.xe I3 (stat fr3) st3 stop) fun r s4 ⟨hr,I4⟩=>?_)
  subst hr
  exact wpAny_execs_nil ⟨σ3,H3,I4,qn⟩
 ·refine wpAny_passesOwn hp (thn (T.item X rfl rfl rfl hc i pins s3 σ3 H3 X.xe I3 (stat fr3) st3 go) fun r s4 ⟨u,hr,h4⟩=>?_)
  subst hr
  refine wpAny_passesOwn hp (thn h4 fun _ s5 ⟨x,H5,I5,r5,y5,st5,fr5⟩=>?_)
  have I5':=I5.pinned (stat fr5) (T.obj _ _ st5)
  refine wpAny_passesOwn hp (thn (hg _ s5 σ3 H5 x u _ I5' r5 (step x H5 y5)) fun _ s6 ⟨σ6,H6,I6,q6⟩=>?_)
  refine wpAny_passesOwn hp (thn (hb _ s6 σ6 H6 _ I6 q6) fun f s7 q7=>?_)
  have again:∀ {σ7:St} {H7:Hp},Inv X (pins++eZ fp s5.heap) σ7 H7 s7->N σ7 H7->∃ m,m < n/\∃ i σ' H',Inv X pins σ' H' s7/\tn i s7.heap/\(∀ b∈fp,H' b=none)/\W i m σ' H':=fun {σ7 H7} I7 n7=>by
   obtain ⟨m',hm,w7⟩:=hN σ7 H7 n7
   refine ⟨m',hm,i+1,σ7,H7,I7.unpinned,T.keep _ _ _ st5 fun b hb o e=>(I7.pin (b,o) (a0m _ (a0m _ (bh hb e)))).1,fun b hb=>?_,w7⟩
   obtain ⟨o,e,d⟩:=T.obj _ _ st5 b hb
   exact (I7.pin (b,o) (a0m _ (a0m _ (bh hb e)))).2.1
  cases f with
  | next=>obtain ⟨σ7,H7,I7,n7⟩:=q7; exact again I7 n7
  | cont=>obtain ⟨σ7,H7,I7,n7⟩:=q7; exact again I7 n7
  | brk=>obtain ⟨σ7,H7,I7,q7⟩:=q7; exact ⟨σ7,H7,I7.unpinned,q7⟩
  | ret v=>obtain ⟨x7,σ7,H7,I7,r7,q7⟩:=q7; exact ⟨x7,σ7,H7,I7.unpinned,r7,q7⟩
end
theorem nU {K:a0a}{a:Addr}{xs:List V}{g:TG}{tb:TS}{D:aT}{σ:St}{H:Hp}(Pv:Nat->St->Hp->Prop)(h0:Pv 0 σ H)(hl:∀ i σ H,i<=xs.length->Pv i σ H->SqL K H a xs)
  (hs:∀ i x σ H,xs[i]?=some x->Pv i σ H->g x σ H fun σ2 H2=>tb { D with nx:=Pv (i+1),ct:=Pv (i+1),bk:=D.nx } σ2 H2) (hd:∀ σ H,Pv xs.length σ H->D.nx σ H) :
  ∃ W:Nat->Nat->St->Hp->Prop,(∃ m,W 0 m σ H)/\∀ i m σ H,W i m σ H ->
   ((Itl K a).stop i H/\D.nx σ H)\/((Itl K a).go i H/\∃ N:St->Hp->Prop,(∀ σ' H',N σ' H'->∃ m',m' < m/\W (i+1) m' σ' H')/\∀ x H',(Itl K a).yld i H x H'->g x σ H' fun σ2 H2=>tb { D with nx:=N,ct:=N,bk:=D.nx } σ2 H2):=by
 refine ⟨fun i m σ H=>m=xs.length-i/\i<=xs.length/\Pv i σ H,⟨xs.length,by simp,a0F _,h0⟩,?_⟩
 rintro i m σ H ⟨rfl,hi,p⟩
 have q:=hl i σ H hi p
 by_cases hlt:i < xs.length
 ·refine .inr ⟨⟨xs,xs[i],q,by simp [hlt]⟩,Pv (i+1),fun σ' H' p'=>⟨xs.length-(i+1),by omega,rfl,hlt,p'⟩,fun x H' y=>?_⟩
  obtain ⟨e,y⟩:=y
  subst e
  exact hs i x σ _ (y xs q) p
 ·have e:i=xs.length:=by omega
  subst e
  exact .inl ⟨⟨xs,q,a0h _⟩,hd σ H p⟩
end L2
namespace L2
open PySem PySem.Spec PyProof.Rows
noncomputable abbrev R2:=V->V->Hp->VK->Prop
noncomputable def OpR (X:Cx)(f:Value->Value->Sem Value)(r:R2):Prop :=
 ∀ (pins:List (Addr×Obj)) (s:Shared) (σ:St) (H:Hp) (x y:V) (v u:Value) (Q:VK),Inv X pins σ H s->RelV x v->RelV y u->r x y H Q ->
  wpAny (model X.prog X.w) X.A (f v u) (EP X pins σ Q) X.xe s
noncomputable def UnR (X:Cx)(f:Value->Sem Value)(r:V->Hp->VK->Prop):Prop :=
 ∀ (pins:List (Addr×Obj)) (s:Shared) (σ:St) (H:Hp) (x:V) (v:Value) (Q:VK),Inv X pins σ H s->RelV x v->r x H Q ->
  wpAny (model X.prog X.w) X.A (f v) (EP X pins σ Q) X.xe s
noncomputable def cy (X:Cx)(f:Value)(r:List V->Hp->VK->Prop):Prop :=
 ∀ (pins:List (Addr×Obj)) (s:Shared) (σ:St) (H:Hp) (xs:List V) (us:List Value) (Q:VK),Inv X pins σ H s->Vals xs us->r xs H Q ->
  wpAny (model X.prog X.w) X.A (call f us) (EP X pins σ Q) X.xe s
noncomputable def C7 (X:Cx)(r:V->Hp->(Bool->Hp->Prop)->Prop):Prop :=
 ∀ (pins:List (Addr×Obj)) (s:Shared) (σ:St) (H:Hp) (x:V) (v:Value) (Q:Bool->Hp->Prop),Inv X pins σ H s->RelV x v->r x H Q ->
  wpAny (model X.prog X.w) X.A (truthy v) (TP X pins σ Q) X.xe s
noncomputable def tOp (r:R2)(ta tb:TE):TE:=fun σ H Q=>ta σ H fun x H1=>tb σ H1 fun y H2=>r x y H2 Q
noncomputable def tUn (r:V->Hp->VK->Prop)(ta:TE):TE:=fun σ H Q=>ta σ H fun x H1=>r x H1 Q
noncomputable def rI (C:Int->Int->Prop)(g:Int->Int->V):R2:=fun x y H Q=>∃ i j,x=.int i/\y=.int j/\C i j/\Q (g i j) H
noncomputable def rI0 (g:Int->Int->V):R2:=fun x y H Q=>∃ i j,x=.int i/\y=.int j/\Q (g i j) H
noncomputable def rU (g:Int->V):V->Hp->VK->Prop:=fun x H Q=>∃ i,x=.int i/\Q (g i) H
section
variable {X:Cx}{a b c:Expr}{ta tb tc:TE}{pos:Pos}
theorem xQ (ha:PE X a ta)(hb:PE X b tb){pins:List (Addr×Obj)}{s:Shared}{σ:St}{H:Hp}{R:V->V->Hp->Prop}(I:Inv X pins σ H s)
  (h:ta σ H fun x H1=>tb σ H1 fun y H2=>R x y H2) {Q:Value->Shared->Prop} {f:Value->Value->Sem Value}
  (hf:∀ v u s2 x y H2,Inv X pins σ H2 s2->RelV x v->RelV y u->R x y H2->wpAny (model X.prog X.w) X.A (f v u) Q X.xe s2) :
  wpAny (model X.prog X.w) X.A (eval a X.env) (fun v s₁=>wpAny (model X.prog X.w) X.A (eval b X.env) (fun u s₂=>wpAny (model X.prog X.w) X.A (f v u) Q X.xe s₂) X.xe s₁) X.xe s:=by
 refine thn (ha pins s σ H _ I h) fun v s1 ⟨x,H1,I1,r1,q1⟩=>?_
 refine thn (hb pins s1 σ H1 _ I1 q1) fun u s2 ⟨y,H2,I2,r2,q2⟩=>?_
 exact hf v u s2 x y H2 I2 r1 r2 q2
theorem dM {op:Operator}{r:R2}(ho:OpR X (binaryOp op) r)(ha:PE X a ta)(hb:PE X b tb):PE X (.BinOp a op b pos) (tOp r ta tb):=by
 intro pins s σ H Q I h
 exact wpAny_BinOp (xQ ha hb I h fun v u s2 x y H2 I2 rx ry q=>ho pins s2 σ H2 x y v u Q I2 rx ry q)
theorem zG {op:UnaryOp}{r:V->Hp->VK->Prop}(ho:UnR X (unaryOp op) r)(ha:PE X a ta):PE X (.UnaryOp op a pos) (tUn r ta):=by
 intro pins s σ H Q I h
 exact UnaryOp_ (thn (ha pins s σ H _ I h) fun v s1 ⟨x,H1,I1,r1,q1⟩=>ho pins s1 σ H1 x v Q I1 r1 q1)
theorem opI {f:Value->Value->Sem Value}{C:Int->Int->Prop}{g:Int->Int->Int}
  (rule:∀ (i j:Int) (t u:Tok) (s:Shared) (Q:Value->Shared->Prop) (E:Value->Shared->Prop),C i j->Q (.int (g i j) s.toks) { s with toks:=s.toks+1 }->wpAny (model X.prog X.w) X.A (f (.int i t) (.int j u)) Q E s) :
  OpR X f (rI C fun i j=>.int (g i j)):=by
 intro pins s σ H x y v u Q I rx ry h
 obtain ⟨i,j,rfl,rfl,hc,q⟩:=h
 obtain ⟨t,rfl⟩:=rx
 obtain ⟨t',rfl⟩:=ry
 exact rule i j t t' s _ _ hc ⟨.int (g i j),H,I.tok _,⟨_,rfl⟩,q⟩
theorem Bx {f:Value->Value->Sem Value}{g:Int->Int->Int}
  (rule:∀ (i j:Int) (t u:Tok) (s:Shared) (Q:Value->Shared->Prop) (E:Value->Shared->Prop),Q (.int (g i j) s.toks) { s with toks:=s.toks+1 }->wpAny (model X.prog X.w) X.A (f (.int i t) (.int j u)) Q E s) :
  OpR X f (rI0 fun i j=>.int (g i j)):=by
 intro pins s σ H x y v u Q I rx ry h
 obtain ⟨i,j,rfl,rfl,q⟩:=h
 obtain ⟨t,rfl⟩:=rx
 obtain ⟨t',rfl⟩:=ry
 exact rule i j t t' s _ _ ⟨.int (g i j),H,I.tok _,⟨_,rfl⟩,q⟩
theorem wO {f:Value->Value->Sem Value}{g:Int->Int->Bool}
  (rule:∀ (i j:Int) (t u:Tok) (s:Shared) (Q:Value->Shared->Prop) (E:Value->Shared->Prop),Q (.bool (g i j)) s->wpAny (model X.prog X.w) X.A (f (.int i t) (.int j u)) Q E s) :
  OpR X f (rI0 fun i j=>.bl (g i j)):=by
 intro pins s σ H x y v u Q I rx ry h
 obtain ⟨i,j,rfl,rfl,q⟩:=h
 obtain ⟨t,rfl⟩:=rx
 obtain ⟨t',rfl⟩:=ry
 exact rule i j t t' s _ _ ⟨.bl (g i j),H,I,rfl,q⟩
noncomputable def xj (i j:Int):Prop:=0 < j/\j < 1073741824
noncomputable def yw (i j:Int):Prop:=0<=j/\j<=1000000/\i.natAbs < 2 ^ 64
noncomputable def CMul (i j:Int):Prop:=(-(2 ^ 64) < i/\i < 2 ^ 64)\/(-(2 ^ 64) < j/\j < 2 ^ 64)
theorem CMul.ok {i j:Int}(h:CMul i j):IntMulOk i j:=by
 rcases h with ⟨h1,h2⟩ | ⟨h1,h2⟩
 ·exact .of_left (intBits_le_64 h1 h2)
 ·exact .of_right (intBits_le_64 h1 h2)
theorem op_add:OpR X (binaryOp .Add) (rI0 fun i j=>.int (i+j)):=Bx fun _ _ _ _ _ _ _ q=>add_int q
theorem wB:OpR X (binaryOp .Sub) (rI0 fun i j=>.int (i-j)):=Bx fun _ _ _ _ _ _ _ q=>sub_int q
theorem op_mul:OpR X (binaryOp .Mult) (rI CMul fun i j=>.int (i * j)):=opI fun _ _ _ _ _ _ _ hc q=>mul_int q hc.ok
theorem se:OpR X (binaryOp .FloorDiv) (rI xj fun i j=>.int (i / j)):=opI fun i j _ _ _ _ _ hc q=>by
 have h1:(0:Int) < j:=hc.1
 have h2:j < 1073741824:=hc.2
 exact floordiv_int (by omega) (by rw [Int.fdiv_eq_ediv_of_nonneg i (by omega)]; exact q) (.inl (a2q (by omega)))
theorem xZ:OpR X (binaryOp .Mod) (rI (fun _ j=>0 < j) fun i j=>.int (i % j)):=opI fun i j _ _ _ _ _ hc q=>by
 have h1:(0:Int) < j:=hc
 exact mod_int' (by omega) (by rw [a1p i (by omega)]; exact q)
theorem qY:OpR X (binaryOp .Mod) (rI (fun _ j=>j≠0) fun i j=>.int (i.fmod j)):=opI fun _ _ _ _ _ _ _ hc q=>mod_int' hc q
theorem yV:OpR X (binaryOp .Pow) (rI yw fun i j=>.int (i ^ j.toNat)):=opI fun _ _ _ _ _ _ _ hc q=>pow_int_small hc.1 hc.2.1 hc.2.2 q
theorem unI {f:Value->Sem Value}{g:Int->Int}
  (rule:∀ (i:Int) (t:Tok) (s:Shared) (Q:Value->Shared->Prop) (E:Value->Shared->Prop),Q (.int (g i) s.toks) { s with toks:=s.toks+1 }->wpAny (model X.prog X.w) X.A (f (.int i t)) Q E s) :
  UnR X f (rU fun i=>.int (g i)):=by
 intro pins s σ H x v Q I rx h
 obtain ⟨i,rfl,q⟩:=h
 obtain ⟨t,rfl⟩:=rx
 exact rule i t s _ _ ⟨.int (g i),H,I.tok _,⟨_,rfl⟩,q⟩
theorem zx:UnR X (unaryOp .USub) (rU fun i=>.int (-i)):=unI fun _ _ _ _ _ q=>neg_int q
end
section
variable {X:Cx}{a b c:Expr}{ta tb tc:TE}{pos:Pos}
theorem CH:OpR X (compareOp .Lt) (rI0 fun i j=>.bl (decide (i < j))):=wO fun _ _ _ _ _ _ _ q=>lt_int q
theorem CG:OpR X (compareOp .Gt) (rI0 fun i j=>.bl (decide (j < i))):=wO fun _ _ _ _ _ _ _ q=>gt_int q
theorem Bz:OpR X (compareOp .GtE) (rI0 fun i j=>.bl (decide (j<=i))):=wO fun _ _ _ _ _ _ _ q=>ge_int q
theorem OpR.or {f:Value->Value->Sem Value}{r r':R2}(h:OpR X f r)(h':OpR X f r'):OpR X f (fun x y H Q=>r x y H Q\/r' x y H Q):=by
 intro pins s σ H x y v u Q I rx ry q
 rcases q with q | q
 ·exact h pins s σ H x y v u Q I rx ry q
 ·exact h' pins s σ H x y v u Q I rx ry q
theorem dA (b:Expr){op:CmpOp}(h:op≠.In:=by decide)(h2:op≠.NotIn:=by decide):behindInMarks op b=false:=by
 have e1:(op==CmpOp.In)=false:=by cases op<;>first | rfl | exact absurd rfl h
 have e2:(op==CmpOp.NotIn)=false:=by cases op<;>first | rfl | exact absurd rfl h2
 cases b<;>simp [behindInMarks,e1,e2]
theorem sZ {op:CmpOp}{r:R2}(ho:OpR X (compareOp op) r)(ha:PE X a ta)(hb:PE X b tb)(hm:behindInMarks op b=false):PE X (.Compare a [op] [b] pos) (tOp r ta tb):=by
 intro pins s σ H Q I h
 exact wpAny_Compare1 (xQ ha hb I h fun v u s2 x y H2 I2 rx ry q=>ho pins s2 σ H2 x y v u Q I2 rx ry q) hm
noncomputable def vJ (t:TE):TT:=fun σ H Q=>t σ H fun x H'=>∃ k,x=.bl k/\Q k H'
theorem u5 {op:CmpOp}{r:R2}(ho:OpR X (compareOp op) r)(ha:PE X a ta)(hb:PE X b tb)(hm:behindInMarks op b=false):PT X (.Compare a [op] [b] pos) (vJ (tOp r ta tb)):=by
 intro pins s σ H Q I h
 refine wpAny_isTrue_Compare1 (thn (ha pins s σ H _ I h) fun v s1 ⟨x,H1,I1,r1,q1⟩=>thn (hb pins s1 σ H1 _ I1 q1) fun u s2 ⟨y,H2,I2,r2,q2⟩ =>
  thn (ho pins s2 σ H2 x y v u _ I2 r1 r2 q2) fun c s3 ⟨z,H3,I3,r3,k,e,q3⟩=>?_) hm
 subst e
 cases r3
 exact wpAny_truthy_bool ⟨H3,I3,q3⟩
noncomputable def xY (K:a0a)(x:V)(H:Hp)(k:Bool):Prop :=
 match x with
 | .non=>k=false
 | .bl b=>k=b
 | .int i=>k=(i != 0)
 | .str y=>y.length<=sizeLine/\k=((y.length:Int) != 0)
 | .byt y=>y.size<=sizeLine/\k=((y.size:Int) != 0)
 | .ref p=>(∃ xs,SqL K H p xs/\k=!xs.isEmpty)\/(∃ xs,SqT K H p xs/\k=!xs.isEmpty)\/∃ kvs,H p=some (.dK kvs)/\k=!kvs.isEmpty
 | _=>False
theorem jT {κ:Type}{kvs:List (κ×V)}{vs:List (κ×Value)}(r:KV kvs vs):(!vs.isEmpty)=!kvs.isEmpty:=by
 cases r<;>rfl
theorem eD {xs:List V}{its:List Value}(r:Vals xs its):(!its.toArray.isEmpty)=!xs.isEmpty:=by
 cases r<;>simp
theorem dv:(sizeLine:Nat) < 2 ^ 63:=by rw [sizeLine_eq]; decide
theorem vS:C7 X (fun x H Q=>∃ k,xY X.K x H k/\Q k H):=by
 intro pins s σ H x v Q I rx h
 obtain ⟨k,e,q⟩:=h
 have hl:=dv
 have hs:sizeLine=16777216:=sizeLine_eq
 cases x with
 | non =>
  cases rx
  have e':k=false:=e
  subst e'
  exact truthy_none ⟨H,I,q⟩
 | bl b =>
  cases rx
  have e':k=b:=e
  subst e'
  exact wpAny_truthy_bool ⟨H,I,q⟩
 | int i =>
  obtain ⟨t,rfl⟩:=rx
  have e':k=(i != 0):=e
  subst e'
  exact PySem.P.truthy_int ⟨H,I,q⟩
 | str y =>
  obtain ⟨t,rfl⟩:=rx
  obtain ⟨hy,e'⟩:y.length<=sizeLine/\k=((y.length:Int) != 0):=e
  subst e'
  exact PySem.P.truthy_str (by omega) ⟨H,I.tok _,q⟩
 | byt y =>
  obtain ⟨t,rfl⟩:=rx
  obtain ⟨hy,e'⟩:y.size<=sizeLine/\k=((y.size:Int) != 0):=e
  subst e'
  exact PySem.W.truthy_bytes (by omega) ⟨H,I.tok _,q⟩
 | ref p =>
  cases rx
  have e':(∃ xs,SqL X.K H p xs/\k=!xs.isEmpty)\/(∃ xs,SqT X.K H p xs/\k=!xs.isEmpty)\/∃ kvs,H p=some (.dK kvs)/\k=!kvs.isEmpty:=e
  rcases e' with ⟨xs,hx,e'⟩ | ⟨xs,hx,e'⟩ | ⟨kvs,hx,e'⟩
  ·subst e'
   obtain ⟨its,r,pl,hz⟩:=I.list hx
   have hlen:=r.length
   exact wpAny_truthy_list pl.isList (by simp only [a0j]; omega) ⟨H,I.tok _,by rw [eD r]; exact q⟩
  ·subst e'
   obtain ⟨its,r,pl,hz⟩:=I.tuple hx
   have hlen:=r.length
   exact truthy_tuple pl (by simp only [a0j]; omega) ⟨H,I.tok _,by rw [eD r]; exact q⟩
  ·subst e'
   obtain ⟨hz,hS,vs,r,m⟩:kvs.length<=sizeLine/\(p==sysModules)=false/\∃ vs,KV kvs vs/\s.heap.DictOf (aN X.prog X.w) p vs:=I.hok p _ hx
   have hlen:kvs.length=vs.length:=Paired.length r
   exact wpAny_truthy_dict hS m (by omega) ⟨H,I.tok _,by rw [jT r]; exact q⟩
 | _=>exact (show False from e).elim
theorem oC (ha:PE X a ta)(he:∀ whole,isTrue a X.env whole=(do let v <- whole; standAt a.pos; holding [v] (truthy v))) :
  PT X a (fun σ H Q=>ta σ H fun x H'=>∃ k,xY X.K x H' k/\Q k H'):=by
 intro pins s σ H Q I h
 exact isTrue_plain (thn (ha pins s σ H _ I h) fun v s1 ⟨x,H1,I1,r1,q1⟩=>vS pins s1 σ H1 x v Q I1 r1 q1) (he _)
theorem op_add_str:OpR X (binaryOp .Add) (fun x y H Q=>∃ i j,x=.str i/\y=.str j/\i.length+j.length<=sizeLine/\Q (.str (i++j)) H):=by
 intro pins s σ H x y v u Q I rx ry h
 obtain ⟨i,j,rfl,rfl,hz,q⟩:=h
 obtain ⟨t,rfl⟩:=rx
 obtain ⟨t',rfl⟩:=ry
 exact add_str (fun t' tk=>⟨.str (i++j),H,I.tok _,⟨_,rfl⟩,q⟩) hz
theorem dJ {x:V}{us:List Value}(r:Vals [x] us):∃ u,us=[u]/\RelV x u:=by
 cases r with
 | cons r1 r2=>cases r2; exact ⟨_,rfl,r1⟩
theorem vq {x y:V}{us:List Value}(r:Vals [x,y] us):∃ u w',us=[u,w']/\RelV x u/\RelV y w':=by
 cases r with
 | cons r1 r2 =>
  cases r2 with
  | cons r3 r4=>cases r4; exact ⟨_,_,rfl,r1,r3⟩
theorem ng (hc:X.calm=true):cy X (.builtin "min") (fun xs H Q=>∃ i j,xs=[.int i,.int j]/\Q (.int (if j < i then j else i)) H):=by
 intro pins s σ H xs us Q I r h
 obtain ⟨i,j,rfl,q⟩:=h
 obtain ⟨u,w',rfl,⟨t,rfl⟩,⟨t',rfl⟩⟩:=vq r
 refine min_two_ints (I.ok.hd hc) fun h' tk k=>⟨_,H,I.kept k,?_,q⟩
 by_cases hj:j < i
 ·rw [if_pos hj,if_pos hj]; exact ⟨_,rfl⟩
 ·rw [if_neg hj,if_neg hj]; exact ⟨_,rfl⟩
noncomputable def zM (K:a0a)(x:V)(H:Hp)(n:Nat):Prop :=
 match x with
 | .str y=>y.length<=sizeLine/\n=y.length
 | .byt y=>y.size<=sizeLine/\n=y.size
 | .ref p=>(∃ xs,SqL K H p xs/\n=xs.length)\/∃ xs,SqT K H p xs/\n=xs.length
 | _=>False
theorem ir:cy X (.builtin "len") (fun xs H Q=>∃ x n,xs=[x]/\zM X.K x H n/\Q (.int n) H):=by
 intro pins s σ H xs us Q I r h
 obtain ⟨x,n,rfl,e,q⟩:=h
 obtain ⟨u,rfl,rx⟩:=dJ r
 have hl:=dv
 have hs:sizeLine=16777216:=sizeLine_eq
 cases x with
 | str y =>
  obtain ⟨t,rfl⟩:=rx
  obtain ⟨hy,e'⟩:y.length<=sizeLine/\n=y.length:=e
  subst e'
  exact len_str (by omega) ⟨.int _,H,I.tok _,⟨_,rfl⟩,q⟩
 | byt y =>
  obtain ⟨t,rfl⟩:=rx
  obtain ⟨hy,e'⟩:y.size<=sizeLine/\n=y.size:=e
  subst e'
  exact PySem.W.len_bytes (by omega) ⟨.int _,H,I.tok _,⟨_,rfl⟩,q⟩
 | ref p =>
  cases rx
  have e':(∃ xs,SqL X.K H p xs/\n=xs.length)\/∃ xs,SqT X.K H p xs/\n=xs.length:=e
  rcases e' with ⟨xs,hx,e'⟩ | ⟨xs,hx,e'⟩
  ·subst e'
   obtain ⟨its,r',pl,hz⟩:=I.list hx
   have hlen:=r'.length
   exact Calls.call_len_list pl.isList (by simp only [a0j]; omega) ⟨.int xs.length,H,I.tok _,⟨_,by simp only [a0j]; rw [hlen]⟩,q⟩
  ·subst e'
   obtain ⟨its,r',pl,hz⟩:=I.tuple hx
   have hlen:=r'.length
   exact len_tuple pl (by simp only [a0j]; omega) ⟨.int xs.length,H,I.tok _,⟨_,by simp only [a0j]; rw [hlen]⟩,q⟩
 | _=>exact (show False from e).elim
end
end L2
namespace L2
open PySem PySem.Spec PyProof.Rows
structure ObjM (h:Heap)(x dx C:Addr)(mA:Str->Option Value):Prop where
 obj:h.get? x=some (a2x C dx)
 ns:h.Ns1 dx mA
 ne:dx≠x
theorem lQ {h:Heap}{dx:Addr}{mA:Str->Option Value}(n:h.Ns1 dx mA):∃ od,h.get? dx=some od/\∀ name,a2O name od=some (mA name):=by
 obtain ⟨o,es,ep,ho,hd,hk,_,hm⟩:=n
 refine ⟨o,ho,fun name=>?_⟩
 have e:=hm name
 unfold nsFind findBy at e
 rw [<- Array.find?_toList] at e
 unfold a2O
 rw [hd]
 dsimp only
 split
 ·rename_i y q
  rw [q] at e
  exact congrArg some e
 ·rename_i q
  rw [q] at e
  have a:es.toList.any (·.refKey)=false:=by
   rw [List.any_eq_false]
   intro y hy
   obtain ⟨z,t,hkey⟩:=hk y (Array.mem_toList_iff.mp hy)
   simp [DictEntry.refKey,hkey]
  have a':¬ es.toList.any (·.refKey)=true:=by rw [a]; exact a0n
  rw [if_neg a']
  exact congrArg some e
theorem ObjM.look {h:Heap}{x dx C:Addr}{mA:Str->Option Value}(I:ObjM h x dx C mA):∃ od,PySem.W.InstAt h x (a2x C dx) C (some od)/\∀ name,a2O name od=some (mA name) :=
 let ⟨od,ho,hl⟩:=lQ I.ns
 ⟨od,⟨I.obj,rfl,rfl,ho⟩,hl⟩
noncomputable def Bg (f:Str)(v:V):List (Str×V)->List (Str×V)
 | []=>[(f,v)]
 | (g,x)::r=>if g=f then (g,v)::r else (g,x)::Bg f v r
theorem RelO.some_of {v:V}{o:Option Value}(r:RelO (some v) o):∃ u,o=some u/\RelV v u:=by
 cases o with
 | none=>exact (show False from r).elim
 | some u=>exact ⟨u,rfl,r⟩
section
variable {P:Program}{w:World}{H H':Hp}{h h':Heap}{a C dx:Addr}{fs fs':List (Str×V)}
theorem uk (hok:HOk P w H h)(e:H a=some (.ins C dx fs)):∃ mA,ObjM h a dx C mA/\(∀ f,RelO (fs.lookup f) (mA f))/\a3F mA (fs.map (·.1))/\fs.length<=1000/\H dx=some (.own a):=by
 obtain ⟨d,z,ne,ob,mA,n,r,q⟩:=(show ObjOk P w H h a (.ins C dx fs) from hok a _ e)
 exact ⟨mA,⟨ob,n,ne⟩,r,q,z,d⟩
end
structure Cls (K:a0a)(C:Addr):Prop where
 pg:a3b K C Str.empty=true
 hd:PySem.W.hasDictIn K C=true
 po:PySem.W.plainOver K C=true
 sa:a3q K (.ref C) "__setattr__"=some (some (.builtin "object.__setattr__"))
theorem Cls.get {K:a0a}{C:Addr}(c:Cls K C)(f:Str):a3b K C f=true:=c.pg
section
variable {X:Cx}{pins:List (Addr×Obj)}{σ:St}{H:Hp}{s:Shared}{A:Around}{E:Value->Shared->Prop}{Q:Value->Shared->Prop}{c:Value}{b:Bool}
inductive dW (K:a0a)(H:Hp):V->Value->Prop where
 | non:dW K H .non (.type "NoneType")
 | bl (x:Bool):dW K H (.bl x) (.type "bool")
 | int (i:Int):dW K H (.int i) (.type "int")
 | str (x:Str):dW K H (.str x) (.type "str")
 | flt (x:UInt64):dW K H (.flt x) (.type "float")
 | lst {a:Addr} {xs:List V} (e:H a=some (.lst xs)):dW K H (.ref a) (.type "list")
 | frz {a:Addr} {o:Obj} {xs:List V} (e:H a=some (.frz o (.lst xs))):dW K H (.ref a) (.type "list")
 | tup {a:Addr} {xs:List V} (e:H a=some (.tup xs)):dW K H (.ref a) (.type "tuple")
 | dK {a:Addr} {kvs:List (Key×V)} (e:H a=some (.dK kvs)):dW K H (.ref a) (.type "dict")
 | dT {a:Addr} {kvs:List (List Key×V)} (e:H a=some (.dT kvs)):dW K H (.ref a) (.type "dict")
 | ins {a C dx:Addr} {fs:List (Str×V)} (e:H a=some (.ins C dx fs)) (cl:Cls K C) (ha:a3q K (.ref C) "__class__"=some (some (.builtin "object.__class__")))
   (hn:PySem.W.specialIn K (.builtin "object.__class__") "__get__"=some (some (.builtin "getset_descriptor.__get__"))) (htk:PySem.W.takesIn K (.builtin "object.__class__")=some true)
   (hm:PySem.W.mroIn K C (.type "object")=some true):dW K H (.ref a) (.ref C)
theorem cG {x:V}{u t:Value}(I:Inv X pins σ H s)(rx:RelV x u)(ty:dW X.K H x t)(e:a1k X.K t c=some b)(h:∀ tk,Q (.bool b) { s with toks:=tk }) :
  wpAny (model X.prog X.w) A (call (.builtin "isinstance") [u,c]) Q E s:=by
 cases ty with
 | non=>cases (show u=Value.none from rx); exact a0Q PySem.W.kitx_none I.kIn a1x e (fun z=>nomatch z) h
 | bl y=>cases (show u=Value.bool y from rx); exact a0Q PySem.W.kitx_bool I.kIn a1x e (fun z=>nomatch z) h
 | int i=>obtain ⟨t,q⟩:=(show ∃ t,u=Value.int i t from rx); cases q; exact a0Q PySem.W.kitx_int I.kIn a1x e (fun z=>nomatch z) h
 | str y=>obtain ⟨t,q⟩:=(show ∃ t,u=Value.str y t from rx); cases q; exact a0Q PySem.W.kitx_str I.kIn a1x e (fun z=>nomatch z) h
 | flt y=>obtain ⟨t,q⟩:=(show ∃ t,u=Value.float y t from rx); cases q; exact a0Q PySem.W.kitx_float I.kIn a1x e (fun z=>nomatch z) h
 | @lst a xs ea =>
  cases (show u=Value.ref a from rx)
  obtain ⟨_,_,n,_,h1⟩:=(show ObjOk X.prog X.w H s.heap a (.lst xs) from I.hok a _ ea)
  exact a0Q a2a I.kIn ⟨_,h1,rfl⟩ e (fun z=>nomatch z) h
 | @frz a ob xs ea =>
  cases (show u=Value.ref a from rx)
  obtain ⟨_,_,_,n,_,h1⟩:=(show ObjOk X.prog X.w H s.heap a (.frz ob (.lst xs)) from I.hok a _ ea)
  exact a0Q a2a I.kIn ⟨_,h1,rfl⟩ e (fun z=>nomatch z) h
 | @tup a xs ea =>
  cases (show u=Value.ref a from rx)
  obtain ⟨_,_,_,p⟩:=(show ObjOk X.prog X.w H s.heap a (.tup xs) from I.hok a _ ea)
  obtain ⟨o,h1,h2,_⟩:=p
  exact a0Q a2U I.kIn ⟨o,h1,h2⟩ e (fun z=>nomatch z) h
 | @dK a kvs ea =>
  cases (show u=Value.ref a from rx)
  obtain ⟨_,_,vs,_,p⟩:=(show ObjOk X.prog X.w H s.heap a (.dK kvs) from I.hok a _ ea)
  obtain ⟨o,es,ep,h1,h2,_⟩:=p
  exact a0Q a21 I.kIn ⟨o,h1,h2.1⟩ e (fun z=>nomatch z) h
 | @dT a kvs ea =>
  cases (show u=Value.ref a from rx)
  obtain ⟨_,_,xs,_,o,es,ep,h1,h2,_⟩:=(show ObjOk X.prog X.w H s.heap a (.dT kvs) from I.hok a _ ea)
  exact a0Q a21 I.kIn ⟨o,h1,h2.1⟩ e (fun z=>nomatch z) h
 | @ins a C dx fs ea cl ha hn htk hm =>
  cases (show u=Value.ref a from rx)
  obtain ⟨mA,O,_⟩:=uk I.hok ea
  obtain ⟨od,J,_⟩:=O.look
  exact a0Q (PySem.W.kitx_own (cl.get _) cl.hd ha hn htk hm) I.kIn J e (fun z=>nomatch z) h
end
end L2
namespace L2
open PySem PySem.Spec PyProof.Rows
structure Room (k:Nat)(A:Around):Prop where
 hd:A.handled=none
 dp:A.depth+3 * k+5 < recursionLimit
 un:A.units+16 * k+200 < cLine
 gu:A.guards=some []
theorem Room.deeper {k:Nat}{A:Around}(r:Room (k+1) A)(env:Env):Room k (A.deeper env) :=
 ⟨r.hd,by have:=r.dp; show A.depth+1+3 * k+5 < _; omega,by have:=r.un; show A.units+3+16 * k+200 < _; omega,r.gu⟩
theorem Room.depth {k:Nat}{A:Around}(r:Room k A):A.depth < recursionLimit:=by have:=r.dp; omega
theorem Room.units {k:Nat}{A:Around}(r:Room k A):A.units+64 < cLine:=by have:=r.un; omega
noncomputable def xD:TA:=fun _ H Q=>Q [] H
noncomputable def lP (ta:TE)(tr:TA):TA:=fun σ H Q=>ta σ H fun x H1=>tr σ H1 fun xs H2=>Q (x::xs) H2
section
variable {X:Cx}{e:Expr}{es:List Expr}{te:TE}{t:TA}{pos:Pos}
theorem bx:PA X [] xD:=fun _ _ _ _ H Q I h=>Calls.spliced_nil ⟨[],H,I,.nil,h⟩
theorem aG (ha:PE X e te)(hr:PA X es t)(hs:starEach (e::es) X.env=(false,eval e X.env)::starEach es X.env:=by rfl):PA X (e::es) (lP te t):=by
 intro pos pins s σ H Q I h
 rw [hs]
 show wpAny _ _ (spliced ((false,eval e X.env)::backTo pos (starEach es X.env))) _ _ s
 refine Calls.spliced_cons (thn (ha pins s σ H _ I h) fun u s1 ⟨x,H1,I1,r1,q1⟩=>?_)
 exact thn (hr pos pins s1 σ H1 _ I1 q1) fun us s2 ⟨xs,H2,I2,r2,q2⟩=>⟨x::xs,H2,I2,.cons r1 r2,q2⟩
noncomputable def Ae (t:TA):TE:=fun σ H Q=>t σ H fun xs H1=>xs.length<=sizeLine/\∀ p,H1 p=none->Q (.ref p) (upd H1 p (.tup xs))
noncomputable def zR (t:TA):TE:=fun σ H Q=>t σ H fun xs H1=>xs.length<=sizeLine/\∀ p,H1 p=none->Q (.ref p) (upd H1 p (.lst xs))
theorem qL {x1}(h:PA X es t):PE X (.Tuple es x1 pos) (Ae t):=by
 intro pins s σ H Q I hq
 refine wpAny_Tuple_spliced (thn (h pos pins s σ H _ I hq) fun us s1 ⟨xs,H1,I1,r,z,q⟩=>⟨by rw [<- r.length]; exact z,?_⟩)
 have hf:H1 s1.heap.objs.size=none:=I1.hok.fresh (a0h _)
 refine ⟨.ref s1.heap.objs.size,upd H1 s1.heap.objs.size (.tup xs),I1.laid (t':=s1.toks) (fun b u e=>Heap.get?_push_of_some _ e) (a0h _) ?_,rfl,q _ hf⟩
 exact ⟨z,us,r,⟨_,Heap.get?_push_size _ rfl,rfl,_,rfl⟩⟩
theorem xw (h:PA X es t):PE X (.List es pos) (zR t):=by
 intro pins s σ H Q I hq
 refine wpAny_List_spliced (thn (h pos pins s σ H _ I hq) fun us s1 ⟨xs,H1,I1,r,z,q⟩=>⟨by rw [<- r.length]; exact z,?_⟩)
 have hf:H1 s1.heap.objs.size=none:=I1.hok.fresh (a0h _)
 refine ⟨.ref s1.heap.objs.size,upd H1 s1.heap.objs.size (.lst xs),I1.laid (t':=s1.toks) (fun b u e=>Heap.get?_push_of_some _ e) (a0h _) ?_,rfl,q _ hf⟩
 exact ⟨z,us,0,r,Heap.get?_push_size _ rfl⟩
end
noncomputable abbrev Sp:=List V->Hp->VK->XK->Prop
noncomputable abbrev CXT:=List Env->Hp->Shared->XK->Value->Shared->Prop
structure tI (P:Program)(w:World)(K:a0a)(mg:Str->Option Value)(base:Heap)(A:Around)(outer:List Env)(s:Shared)(H:Hp):Prop where
 frames:A.frames=some outer
 mod:Mod K mg base
 bs:∀ b o,base.get? b=some o->s.heap.get? b=some o/\H b=none
 bsz:base.objs.size<=s.heap.objs.size
 funs:s.heap.FunFrames base outer
 frf:∀ b∈frs outer,H b=none
 hok:HOk P w H s.heap
 bare:AllBare s.gens
noncomputable def CE (outer:List Env)(P:Program)(w:World)(H:Hp)(s:Shared)(Q:VK)(u:Value)(s':Shared):Prop :=
 ∃ v H',s'.os=s.os/\AllBare s'.gens/\Un (frs outer) [] H H' s.heap s'.heap/\HOk P w H' s'.heap/\RelV v u/\Q v H'
noncomputable def CR (CX:CXT)(outer:List Env)(P:Program)(w:World)(H:Hp)(s:Shared)(Q:VK)(E:XK)(r:Result)(s':Shared):Prop :=
 match r with
 | .ok (.ret u)=>CE outer P w H s Q u s'
 | .ok _=>False
 | .error e=>CX outer H s E e s'
structure cZ (P:Program)(w:World)(K:a0a)(mg:Str->Option Value)(base:Heap)(CX:CXT)(k:Nat)(f:Addr)(fd:FuncData)(ps:List Str)(sp:Sp):Prop where
 len:∀ vs H Q E,sp vs H Q E->vs.length=ps.length
 run:∀ (A:Around) (outer:List Env) (s:Shared) (H:Hp) (args:Args) (us:List Value) (vs:List V) (Q:VK) (E:XK),Room k A->tI P w K mg base A outer s H->BindsTo s fd args (ps.zip us)->Vals vs us->sp vs H Q E ->
  codeAny (model P w) A (.call (.ref f) args) (CR CX outer P w H s Q E) s
section
variable {X:Cx}{pins:List (Addr×Obj)}{σ:St}{H:Hp}{s s':Shared}
theorem Inv.env0 (I:Inv X pins σ H s):tI X.prog X.w X.K X.mg X.base X.A X.stack s H :=
 ⟨I.ok.frames,I.ok.mod,I.bs,a0u I.ok.bsz I.sz,I.stack,I.stkFree,I.hok,I.bare⟩
theorem Inv.after {Q:VK}{u:Value}(I:Inv X pins σ H s)(h:CE X.stack X.prog X.w H s Q u s'):EP X pins σ Q u s':=by
 obtain ⟨v,H',os,bare,un,hok,r,q⟩:=h
 obtain ⟨hh,g,d,t,os'⟩:=s'
 obtain rfl:os'=s.os:=os
 exact ⟨v,H',I.call (h':=hh) (g':=g) (d':=d) (t':=t) (ch:=[]) un hok bare (fun b z=>absurd z (by simp)),r,q⟩
end
noncomputable def BC (sp:Sp)(dvs:List V)(E:XK)(t:TA):TE:=fun σ H Q=>t σ H fun vs H1=>sp (vs++dvs) H1 Q E
noncomputable def Binds (K:a0a)(fd:FuncData)(ps:List Str)(ds:List Value):Prop :=
 ∀ (s:Shared) (us:List Value),K.In s.heap->(us++ds).length=ps.length->BindsTo s fd ⟨us,[]⟩ (ps.zip (us++ds))
theorem Binds.all {K:a0a}{fd:FuncData}{ps:List Str}(h:∀ us:List Value,us.length=ps.length->bindArgs fd ⟨us,[]⟩=pure (ps.zip us)):Binds K fd ps []:=fun s us _ hl=>by
 rw [a0w] at hl ⊢
 exact .of_eq (h us hl)
noncomputable def jv (CX:CXT)(X:Cx)(E:XK):Prop:=∀ (pins:List (Addr×Obj)) (σ:St) (H:Hp) (s:Shared) (e:Value) (s':Shared),Inv X pins σ H s->CX X.stack H s E e s'->X.xe e s'
section
variable {X:Cx}{CX:CXT}{k:Nat}{f C:Addr}{fd:FuncData}{ps:List Str}{sp:Sp}{dvs:List V}{ds:List Value}{E:XK}{x m:Str}{p pos apos:Pos}{e o:Expr}{es:List Expr}{ta:TE}{t:TA}
theorem xM {pins:List (Addr×Obj)}{σ:St}{H:Hp}{s:Shared}{Q:VK}{us:List Value}{vs:List V}(F:cZ X.prog X.w X.K X.mg X.base CX k f fd ps sp)(hr:Room k X.A)(hb:Binds X.K fd ps ds)(hd:Vals dvs ds)(hx:jv CX X E)
  (I:Inv X pins σ H s) (r:Vals vs us) (h:sp (vs++dvs) H Q E):wpAny (model X.prog X.w) X.A (call (.ref f) us) (EP X pins σ Q) X.xe s:=by
 have r2:Vals (vs++dvs) (us++ds):=r.append hd
 have hl:(us++ds).length=ps.length:=by rw [<- r2.length]; exact F.len _ _ _ _ h
 refine wpAny_call (codeAny_mono (F.run X.A X.stack s H ⟨us,[]⟩ (us++ds) (vs++dvs) Q E hr I.env0 (hb s us I.kIn hl) r2 h) fun r s' hq=>?_)
 cases r with
 | error e=>exact hx pins σ H s e s' I hq
 | ok fl =>
  cases fl with
  | ret u=>exact I.after hq
  | next=>exact a1n hq
  | brk=>exact a1n hq
  | cont=>exact a1n hq
theorem rJ (F:cZ X.prog X.w X.K X.mg X.base CX k f fd ps sp)(hr:Room k X.A)(hg:Gl X x)(hm:X.mg x=some (.ref f))(hk:a1K X.K (.ref f)=true)(hb:Binds X.K fd ps ds)(hd:Vals dvs ds)(hx:jv CX X E)
  (ha:PA X (e::es) t) (hdb:(x==("__debug__":Str))=false:=by decide) (he:starEach (e::es) X.env=(false,eval e X.env)::starEach es X.env:=by rfl) (hpl:(backTo pos (starEach es X.env)).any (·.1)=false:=by rfl) :
  PE X (.Call (.Name x p) (e::es) [] pos) (BC sp dvs E t):=by
 intro pins s σ H Q I h
 refine wpAny_Call_Name_kw (rL I hg hm ?_ hdb)
 refine PySem.W.callWith_K (h₀:=X.base) I.ok.mod.kin hk (thn (ha pos pins s σ H _ I h) fun us s1 ⟨vs,H1,I1,r,q⟩=>⟨I1.kIn,?_⟩) he hpl
 exact xM F hr hb hd hx I1 r q
end
structure aD (N P:List Str)(sc:Scope):Prop where
 kind:sc.kind=.function
 co:sc.isCoroutine=false
 gen:sc.isGenerator=false
 nd:N.Nodup
 pre:N.take P.length=P
 par:∀ x∈P,sc.names.lookup x=some .local\/sc.names.lookup x=some .cell
 nofree:∀ y∈sc.names,y.2≠.free
theorem gf {kindOf:Str->Option NameKind}{x:Str}:∀ {binds:List (Str×Value)} {m:Str->Option Value},(∀ v,(x,v) ∉ binds)->bindL kindOf binds m x=m x
 | [],_,_=>rfl
 | (n,v)::r,m,h=>by
  unfold bindL
  rw [gf fun w hw=>h w (a0c _ hw)]
  split
  ·have:x≠n:=by rintro rfl; exact h v a0d
   simp [this]
  ·rfl
theorem fN {kindOf:Str->Option NameKind}{x:Str}:∀ {binds:List (Str×Value)} {m:Str->Option Value},(∀ v,(x,v) ∉ binds)->bindC kindOf binds m x=m x
 | [],_,_=>rfl
 | (n,v)::r,m,h=>by
  unfold bindC
  rw [fN fun w hw=>h w (a0c _ hw)]
  split
  ·rfl
  ·have:x≠n:=by rintro rfl; exact h v a0d
   simp [this]
theorem fU {kindOf:Str->Option NameKind}{x:Str}{v:Value}:∀ {P:List Str} {vs:List Value} {i:Nat} {m:Str->Option Value},P.Nodup->P[i]?=some x->vs[i]?=some v->kindOf x=some .local ->
  bindL kindOf (P.zip vs) m x=some v
 | [],_,_,_,_,h,_,_=>by simp at h
 | _::_,[],_,_,_,_,h,_=>by simp at h
 | p::P,w::vs,0,m,nd,h1,h2,hk=>by
  simp at h1 h2; subst h1; subst h2
  show bindL kindOf ((p,w)::P.zip vs) m p=_
  unfold bindL
  rw [gf fun v hv=>(a0H.mp nd).1 (a1W hv).1,if_pos hk]
  simp
 | p::P,w::vs,i+1,m,nd,h1,h2,hk=>by
  show bindL kindOf ((p,w)::P.zip vs) m x=_
  unfold bindL
  exact fU (i:=i) (a0H.mp nd).2 (by simpa using h1) (by simpa using h2) hk
theorem f6 {kindOf:Str->Option NameKind}{x:Str}{v:Value}:∀ {P:List Str} {vs:List Value} {i:Nat} {m:Str->Option Value},P.Nodup->P[i]?=some x->vs[i]?=some v->kindOf x≠some .local ->
  bindC kindOf (P.zip vs) m x=some v
 | [],_,_,_,_,h,_,_=>by simp at h
 | _::_,[],_,_,_,_,h,_=>by simp at h
 | p::P,w::vs,0,m,nd,h1,h2,hk=>by
  simp at h1 h2; subst h1; subst h2
  show bindC kindOf ((p,w)::P.zip vs) m p=_
  unfold bindC
  rw [fN fun v hv=>(a0H.mp nd).1 (a1W hv).1,if_neg hk]
  simp
 | p::P,w::vs,i+1,m,nd,h1,h2,hk=>by
  show bindC kindOf ((p,w)::P.zip vs) m x=_
  unfold bindC
  exact f6 (i:=i) (a0H.mp nd).2 (by simpa using h1) (by simpa using h2) hk
noncomputable def start (N:List Str)(vs:List V):St:=vs.map some++a0l (N.length-vs.length) none
noncomputable def gJ (CX:CXT)(P:Program)(w:World)(K:a0a)(mg:Str->Option Value)(base:Heap)(N:List Str)(qual:Str)(scope:Scope)(f:Addr)(cd:Value)(A:Around)(outer:List Env)(s:Shared)(H:Hp)(E:XK):Cx where
 prog:=P
 w:=w
 K:=K
 mg:=mg
 base:=base
 A:=A.deeper (envOfC qual scope s.heap.objs.size f cd)
 N:=N
 s₀:=s
 H₀:=H
 env:=envOfC qual scope s.heap.objs.size f cd
 outer:=outer
 stack:=envOfC qual scope s.heap.objs.size f cd::outer
 ex:=[]
 calm:=true
 fn:=fun _=>true
 pn:=[]
 xe:=fun e s'=>wpAny (model P w) (A.deeper (envOfC qual scope s.heap.objs.size f cd)) (leaving (envOfC qual scope s.heap.objs.size f cd) e) (fun _ s''=>CX outer H s E e s'') (fun e' s''=>CX outer H s E e' s'') s'
theorem iR {sc:Scope}{n:Nat}{x:Str}(h:sc.names.lookup x=some .cell):∃ c,(cellsFrom n sc.names []).lookup x=some c:=by
 have q:=a2r sc.names n [] (.inl h)
 exact a1y.mp q
theorem ml {CX:CXT}{P:Program}{w:World}{K:a0a}{mg:Str->Option Value}{base:Heap}{N ps:List Str}{qual:Str}{scope:Scope}{f:Addr}{cd:Value}{A:Around}{outer:List Env}{s s1:Shared}{H:Hp}{E:XK}{us:List Value}{vs:List V}
  (S:aD N ps scope) (hd:A.handled=none) (e0:tI P w K mg base A outer s H) (hl:vs.length=ps.length) (r:Vals vs us)
  (x:InCallC s s.heap.objs.size (bindL (envOfC qual scope s.heap.objs.size f cd).kindOf (ps.zip us) fun _=>none) (cellsFrom (s.heap.objs.size+1) scope.names []) (bindC (envOfC qual scope s.heap.objs.size f cd).kindOf (ps.zip us) fun _=>none) s1) :
  Inv (gJ CX P w K mg base N qual scope f cd A outer s H E) [] (start N vs) H s1:=by
 have hpl:ps.length<=N.length:=by have:=congrArg a2g S.pre; rw [a0W] at this; omega
 obtain ⟨h1,tk,rfl,hk⟩:=x.done
 have noA:∀ b:Addr,b ∉ (gJ CX P w K mg base N qual scope f cd A outer s H E).ex:=fun b z=>absurd (show b∈([]:List Addr) from z) (by simp)
 refine ⟨⟨e0.mod,S.kind,rfl,rfl,a0h _,fun y z c h1 h2=>?_,fun y hy=>?_,fun y c _ h=>?_,fun _=>hd,Around.frames_deeper e0.frames,.inr ⟨rfl,rfl⟩,fun b z=>absurd z (noA b),e0.bs,e0.bsz,fun b _ _=>noA b,fun b z=>absurd z (noA b),e0.funs,e0.frf⟩,
  rfl,e0.bare,Un.kept hk,⟨_,x.toInCall.ns,fun i y v h1 h2 h3=>?_⟩,fun y c h=>⟨_,x.cell y c h⟩,e0.hok.fresh (a0h _),fun y c h=>?_,fun p hp=>absurd (show p∈([]:List (Addr×Obj)) from hp) (by simp),e0.hok.kept hk,?_⟩
 ·exact name_of_addr x.apart (a00 h1) (a00 h2)
 ·have hy:scope.names.lookup y=some .cell\/scope.names.lookup y=some .free:=hy
  rcases hy with hy | hy
  ·exact iR hy
  ·exact absurd rfl (S.nofree _ (a00 hy))
 ·exact a2y (x.above y c (a00 h))
 ·have hi:i < vs.length:=by
   unfold start at h2
   by_cases hi:i < vs.length
   ·exact hi
   ·rw [a0G (by simpa using hi)] at h2
    rw [a07] at h2
    split at h2<;>cases h2
  have ha:vs[i]?=some v:=by
   unfold start at h2
   rw [a0U (by simpa using hi),a0t] at h2
   cases e:vs[i]? with
   | none=>rw [e] at h2; cases h2
   | some a=>rw [e] at h2; cases h2; rfl
  obtain ⟨u,hu,rv⟩:=r.get ha
  have hp:ps[i]?=some y:=by
   rw [<- S.pre,a2b (by omega)]; exact h1
  have ndP:ps.Nodup:=by rw [<- S.pre]; exact S.nd.sublist (a22 _ _)
  refine ⟨u,rv,?_⟩
  rcases S.par y (a05 hp) with k | k
  ·exact .inl ⟨k,fU ndP hp hu k⟩
  ·obtain ⟨c,e⟩:=iR (n:=s.heap.objs.size+1) k
   refine .inr ⟨.inl k,c,e,?_⟩
   have q:=x.cell y c e
   rw [f6 ndP hp hu (by show scope.names.lookup y≠_; rw [k]; decide)] at q
   exact q
 ·exact e0.hok.fresh (a2y (x.above y c (a00 h)))
 ·unfold start
  show _=N.length
  rw [a0g,a0e,a0N]
  omega
theorem Cd {CX:CXT}{P:Program}{w:World}{K:a0a}{mg:Str->Option Value}{base:Heap}{k:Nat}{f:Addr}{name qual:Str}{params:Arguments}{body:List Stmt}{scope:Scope}{dV kV doc pm cdv ct oc:Value}{an od:Option Addr}
  {osl:Array (Option Value)} {N ps:List Str} {sp:Sp} (lk:K.lookup f=some ⟨oc,od,.func (a1g name qual params body scope dV kV doc pm an cdv ct),osl⟩) (hcd:a15 K cdv qual=true) (S:aD N ps scope)
  (len:∀ vs H Q E,sp vs H Q E->vs.length=ps.length)
  (hbody:∀ (A:Around) (outer:List Env) (s:Shared) (H:Hp) (vs:List V) (Q:VK) (E:XK),Room k (A.deeper (envOfC qual scope s.heap.objs.size f cdv))->sp vs H Q E ->
   ∃ t,PSs (gJ CX P w K mg base N qual scope f cdv A outer s H E) body t/\t { nx:=fun _ H'=>Q .non H',rt:=Q } (start N vs) H) :
  cZ P w K mg base CX (k+1) f (a1g name qual params body scope dV kV doc pm an cdv ct) ps sp:=by
 refine ⟨len,fun A outer s H args us vs Q E hr e0 hb r hsp=>?_⟩
 have hl:=len _ _ _ _ hsp
 have KX:K.In s.heap:=e0.mod.kin.keeps fun b o e=>(e0.bs b o e).1
 have lim:s.heap.NoLimit:=e0.mod.nolimit.keeps fun b o e=>(e0.bs b o e).1
 have hkind:∀ y∈ps.zip us,scope.names.lookup y.1=some .local\/(scope.names.lookup y.1=some .cell/\((cellsFrom (s.heap.objs.size+1) scope.names []).lookup y.1).isSome=true):=fun ⟨n,v⟩ hy=>by
  rcases S.par n (a1W hy).1 with q | q
  ·exact .inl q
  ·exact .inr ⟨q,a2r _ _ _ (.inl q)⟩
 refine codeAny_call_function hr.depth (KX _ _ lk) rfl S.co S.gen rfl (PySem.W.codeRec_of KX hcd) (hb _ _ _ _ ?_)
 refine wpAny_newFunctionEnv_cells S.kind hkind fun env he s1 x=>?_
 subst he
 refine ⟨lim.keeps x.toInCall.keep,codeAny_func ?_⟩
 obtain ⟨t,ht,hq⟩:=hbody A outer s H vs Q E (hr.deeper _) hsp
 have I:Inv (gJ CX P w K mg base N qual scope f cdv A outer s H E) [] (start N vs) H s1:=ml S hr.hd e0 hl r x
 refine wpAny_mono (ht [] s1 (start N vs) H _ I hq) (fun fl s' hs=>?_) fun e s' hs=>hs
 have fin:∀ {σ':St} {H':Hp} {v:V} {u:Value},Inv (gJ CX P w K mg base N qual scope f cdv A outer s H E) [] σ' H' s'->RelV v u->Q v H'->CE outer P w H s Q u s' :=
  fun {σ' H' v u} J rv q=>⟨v,H',J.os,J.bare,J.base,J.hok,rv,q⟩
 cases fl with
 | ret u =>
  obtain ⟨v,σ',H',J,rv,q⟩:=hs
  exact fin J rv q
 | next =>
  obtain ⟨σ',H',J,q⟩:=hs
  exact fin (v:=V.non) (u:=Value.none) J rfl q
 | brk =>
  obtain ⟨_,_,_,q⟩:=hs
  exact a1n q
 | cont =>
  obtain ⟨_,_,_,q⟩:=hs
  exact a1n q
end L2
namespace L2
open PySem PySem.Spec PyProof.Rows
section
variable {X:Cx}{x:Str}{p pos:Pos}{e:Expr}{es:List Expr}{t:TA}{id T:String}{r:List V->Hp->VK->Prop}
noncomputable def tCB (r:List V->Hp->VK->Prop)(t:TA):TE:=fun σ H Q=>t σ H fun vs H1=>r vs H1 Q
theorem bF (hc:cy X (.builtin id) r)(hg:Gl X x)(hm:X.mg x=none)(hv:bootBuiltins x=some (.builtin id))(ha:PA X (e::es) t)(hn:x≠"__name__":=by decide)(hdb:(x==("__debug__":Str))=false:=by decide)
  (he:starEach (e::es) X.env=(false,eval e X.env)::starEach es X.env:=by rfl) (hpl:(backTo pos (starEach es X.env)).any (·.1)=false:=by rfl):PE X (.Call (.Name x p) (e::es) [] pos) (tCB r t):=by
 intro pins s σ H Q I h
 refine wpAny_Call_Name_kw (dz I hg hm hv ?_ hn hdb)
 exact a26 (thn (ha pos pins s σ H _ I h) fun us s1 ⟨vs,H1,I1,r1,q1⟩=>hc pins s1 σ H1 vs us Q I1 r1 q1) he hpl
theorem dE (hc:cy X (.type T) r)(hg:Gl X x)(hm:X.mg x=none)(hv:bootBuiltins x=some (.type T))(ha:PA X (e::es) t)(hn:x≠"__name__":=by decide)(hdb:(x==("__debug__":Str))=false:=by decide)
  (he:starEach (e::es) X.env=(false,eval e X.env)::starEach es X.env:=by rfl) (hpl:(backTo pos (starEach es X.env)).any (·.1)=false:=by rfl):PE X (.Call (.Name x p) (e::es) [] pos) (tCB r t):=by
 intro pins s σ H Q I h
 refine wpAny_Call_Name_kw (dz I hg hm hv ?_ hn hdb)
 exact a09 (thn (ha pos pins s σ H _ I h) fun us s1 ⟨vs,H1,I1,r1,q1⟩=>hc pins s1 σ H1 vs us Q I1 r1 q1) he hpl
end
end L2
namespace HT
open PySem PyProof.Rows
section
variable {prog:Program}{w:World}{A:Around}{E:Value->Shared->Prop}{s:Shared}
theorem cat_tup {t b:Addr}{vs ws:List Value}{Q:Value->Shared->Prop}(ht:IsTup s.heap t vs.toArray)(hb:IsTup s.heap b ws.toArray)(hv:vs≠[])
  (h1:ws=[]->Q (.ref t) s) (h2:ws≠[]->Q (.ref s.heap.objs.size) { s with heap:=s.heap.push { cls:=.type "tuple",data:=.seq (vs++ws).toArray } })
  (hsz:vs.length+ws.length<=sizeLine):wpAny (model prog w) A (binaryOp .Add (.ref t) (.ref b)) Q E s:=by
 obtain ⟨⟨cls,dd,data,sl⟩,ho,hc,n,hd⟩:=id ht
 obtain ⟨⟨cls2,dd2,data2,sl2⟩,ho2,hc2,n2,hd2⟩:=id hb
 simp only at hc hd hc2 hd2
 subst hc hd hc2 hd2
 have e:vs.toArray++ws.toArray=(vs++ws).toArray:=by simp
 by_cases hw:ws=[]
 ·exact concat_meets ⟨_,ho,rfl⟩ ⟨_,ho2,rfl⟩ noFill_tuple_add seq_tuple_add a2s a2h (a2c _ _)
   (tuple_addW1 t b vs.toArray ws.toArray n n2 dd dd2 sl sl2 (by simpa using hv) (by simp [hw])) ⟨ho,ho2,h1 hw⟩
 ·refine concat_meets ⟨_,ho,rfl⟩ ⟨_,ho2,rfl⟩ noFill_tuple_add seq_tuple_add a2s a2h (a2c _ _)
   (tuple_addW2 t b vs.toArray ws.toArray n n2 dd dd2 sl sl2 (by simpa using hv) (by simpa using hw) (by rw [a0j,a0j]; exact hsz)) ⟨ho,ho2,?_⟩
  rw [e]
  exact h2 hw
noncomputable def sIx (n d:Nat):Option Int->Nat
 | none=>d
 | some v=>if v < 0 then (v+(n:Int)).toNat else min v.toNat n
theorem yk (n d:Nat)(hd:d<=n)(o:Option Int):sIx n d o<=n:=by
 cases o with
 | none=>exact hd
 | some v =>
  show (if v < 0 then (v+(n:Int)).toNat else min v.toNat n)<=n
  by_cases hv:v < 0
  ·rw [if_pos hv]; omega
  ·rw [if_neg hv]; exact a3c _ _
theorem lH (v:Int)(n d:Nat):(if v < 0 then max (v+(n:Int)) 0 else min v (n:Int))=((sIx n d (some v):Nat):Int):=by
 show (if v < 0 then max (v+(n:Int)) 0 else min v (n:Int))=(((if v < 0 then (v+(n:Int)).toNat else min v.toNat n):Nat):Int)
 by_cases hv:v < 0
 ·simp only [if_pos hv]; omega
 ·simp only [if_neg hv]; omega
theorem ko (lo hi:Option Int)(n:Nat):Builtin.Slice.sliceAdjust lo hi 1 (n:Int)=(((sIx n 0 lo:Nat):Int),((sIx n n hi:Nat):Int)):=by
 have h1:¬ ((1:Int) < 0):=by omega
 unfold Builtin.Slice.sliceAdjust
 simp only [h1,if_false]
 refine Prod.ext ?_ ?_
 ·cases lo with
  | none=>rfl
  | some v=>exact lH v n 0
 ·cases hi with
  | none=>rfl
  | some v=>exact lH v n n
theorem jx (i j:Nat):Builtin.Slice.slicePlaces (i:Int) (j:Int) 1=j-i:=by
 unfold Builtin.Slice.slicePlaces
 have h1:(1:Int) > 0:=by omega
 simp only [h1,if_true,Int.ediv_one]
 split<;>omega
theorem d9 {v:Value}{o:Option Int}{Q:Option Int->Shared->Prop}(p:IsPart v o)(h:Q o s):wpAny (model prog w) A (Builtin.Slice.slicePartIndex v) Q E s:=by
 cases p with
 | none=>exact slicePart_none h
 | int i t=>exact slicePart_int h
theorem sliceApplied_gen {sl:Addr}{vl vu:Value}{lo hi:Option Int}{n:Nat}{Q:Int×Int×Nat->Shared->Prop}(hs:s.heap.IsSliceOf sl vl vu .none)(pl:IsPart vl lo)(pu:IsPart vu hi)
  (h:Q (((sIx n 0 lo:Nat):Int),1,sIx n n hi-sIx n 0 lo) s):wpAny (model prog w) A (Builtin.Slice.sliceApplied (.ref sl) (pure (n:Int))) Q E s:=by
 obtain ⟨os,hos,hcs,hds⟩:=id hs
 unfold Builtin.Slice.sliceApplied Builtin.Slice.sliceFields
 refine wpAny_bind (wpAny_bind (wpAny_field hos hds (x:=vl) rfl (wpAny_bind (wpAny_field hos hds (x:=vu) rfl (wpAny_bind (wpAny_field hos hds (x:=.none) rfl (wpAny_pure ?_)))))))
 refine wpAny_bind (slicePart_none ?_)
 show wpAny _ _ (if ((1:Int)==0)=true then _ else _) _ _ s
 rw [if_neg (by decide)]
 refine wpAny_bind (d9 pl (wpAny_bind (d9 pu (wpAny_bind (wpAny_pure ?_)))))
 show wpAny _ _ (match Builtin.Slice.sliceAdjust lo hi 1 (n:Int) with | (lo,hi)=>pure (lo,(1:Int),Builtin.Slice.slicePlaces lo hi 1)) _ _ s
 rw [ko lo hi n]
 show wpAny _ _ (pure (((sIx n 0 lo:Nat):Int),(1:Int),Builtin.Slice.slicePlaces ((sIx n 0 lo:Nat):Int) ((sIx n n hi:Nat):Int) 1)) _ _ s
 rw [jx]
 exact wpAny_pure h
theorem qk (xs:Array Value)(i k:Nat):((a0p k).filterMap fun (m:Nat)=>xs[((i:Int)+(m:Int) * 1).toNat]?).toArray=((xs.toList.drop i).take k).toArray:=by
 have e:(fun (m:Nat)=>xs[((i:Int)+(m:Int) * 1).toNat]?)=fun m=>xs[i+m]?:=by
  funext m
  have:((i:Int)+(m:Int) * 1).toNat=i+m:=by omega
  rw [this]
 rw [e]
 have:=pick_run xs i k
 rw [List.filterMap_map] at this
 have e2:((fun x=>xs[x]?) ∘ fun x=>i+x)=fun m=>xs[i+m]?:=rfl
 rw [e2] at this
 rw [this]
theorem getItem_tuple_cut {t sl:Addr}{items:Array Value}{vl vu:Value}{lo hi:Option Int}{Q:Value->Shared->Prop}(ht:IsTup s.heap t items)(hs:s.heap.IsSliceOf sl vl vu .none)(pl:IsPart vl lo)(pu:IsPart vu hi)
  (hw:¬ (sIx items.size 0 lo=0/\sIx items.size items.size hi=items.size))
  (h:Q (.ref s.heap.objs.size) { s with heap:=s.heap.push { cls:=.type "tuple",data:=.seq ((items.toList.drop (sIx items.size 0 lo)).take (sIx items.size items.size hi-sIx items.size 0 lo)).toArray } })
  (hsz:items.size<=sizeLine):wpAny (model prog w) A (getItem (.ref t) (.ref sl)) Q E s:=by
 have htake:sizeOk (.seq ((items.toList.drop (sIx items.size 0 lo)).take (sIx items.size items.size hi-sIx items.size 0 lo)).toArray):=by
  show ((items.toList.drop (sIx items.size 0 lo)).take (sIx items.size items.size hi-sIx items.size 0 lo)).toArray.size<=sizeLine
  rw [a0j,a0W,a0X,a1h]
  omega
 have hj:sIx items.size items.size hi<=items.size:=yk _ _ (a0h _) hi
 obtain ⟨os,hos,hcs,hds⟩:=id hs
 have hTs:s.TypeIs (.ref sl) "slice":=⟨os,hos,hcs⟩
 unfold getItem
 try with_reducible refine wpAny_holding ?_
 first | refine wpAny_bind (wpAny_pure ?_) | skip
 refine wpAny_bind (wpAny_sequenceKey ht.typeIs (by decide) ?_)
 refine wpAny_bind (wpAny_callSpecial?_slot (name:=Str.ofString "__getitem__") ht.typeIs a0M
  (wpAny_call_entry a0M ht.typeIs entry_tuple_getitem ?_ (args_tuple_getitem _ _)))
 show wpAny _ _ (Builtin.Tuple.tupleItemsOf (.ref t) >>= _) _ _ s
 refine wpAny_bind (tupleItemsOf_ ht ?_)
 refine wpAny_bind (wpAny_typeOf hTs ?_)
 rw [if_pos (by decide)]
 refine wpAny_bind (sliceApplied_gen hs pl pu ?_)
 have hno:¬ ((((sIx items.size 0 lo:Nat):Int)==0&&(1:Int)==1&&(sIx items.size items.size hi-sIx items.size 0 lo)==items.size)=true):=by
  intro q
  rw [a0k,a0k] at q
  have q1:((sIx items.size 0 lo:Nat):Int)=0:=eq_of_beq q.1.1
  have q2:sIx items.size items.size hi-sIx items.size 0 lo=items.size:=eq_of_beq q.2
  exact hw ⟨by omega,by omega⟩
 show wpAny _ _ (if (((sIx items.size 0 lo:Nat):Int)==0&&(1:Int)==1&&(sIx items.size items.size hi-sIx items.size 0 lo)==items.size)=true then _ else _) _ _ s
 rw [if_neg hno,qk]
 first
  | exact wpAny_bind (m:=Builtin.Tuple.tupleExact _) (wpAny_newObj_type (wpAny_pure ⟨_,rfl,wpAny_pure h⟩) htake)
  | exact wpAny_bind (m:=Builtin.Tuple.tupleExact _) (wpAny_newObj_type (wpAny_bind (wpAny_pure (wpAny_pure ⟨_,rfl,wpAny_pure h⟩))) htake)
  | exact wpAny_bind (wpAny_bind (m:=Builtin.Tuple.tupleExact _) (wpAny_newObj_type (wpAny_pure (wpAny_pure ⟨_,rfl,wpAny_pure h⟩)) htake))
  | exact wpAny_bind (wpAny_bind (m:=Builtin.Tuple.tupleExact _) (wpAny_newObj_type (wpAny_pure ⟨_,rfl,wpAny_pure h⟩) htake))
end
end HT
namespace L2
open PySem PySem.Spec PyProof.Rows
noncomputable abbrev TO:=St->Hp->(Option Int->Hp->Prop)->Prop
noncomputable def PO (X:Cx)(e:Option Expr)(t:TO):Prop :=
 ∀ (pins:List (Addr×Obj)) (s:Shared) (σ:St) (H:Hp) (Q:Option Int->Hp->Prop),Inv X pins σ H s->t σ H Q ->
  wpAny (model X.prog X.w) X.A (evalPart e X.env) (fun u s'=>∃ o H',Inv X pins σ H' s'/\IsPart u o/\Q o H') X.xe s
noncomputable def r8:TO:=fun _ H Q=>Q none H
noncomputable def Cp (t:TE):TO:=fun σ H Q=>t σ H fun x H1=>∃ i,x=.int i/\Q (some i) H1
section
variable {X:Cx}{e:Expr}{te:TE}{lo hi:Option Expr}{tl th:TO}{pos p2:Pos}
theorem lj:PO X none r8:=by
 intro pins s σ H Q I h
 rw [evalPart_none]
 exact wpAny_pure ⟨none,H,I,.none,h⟩
theorem kF (h:PE X e te):PO X (some e) (Cp te):=by
 intro pins s σ H Q I hw
 rw [evalPart_some]
 refine thn (h pins s σ H _ I hw) fun u s1 ⟨x,H1,I1,r1,q1⟩=>?_
 obtain ⟨i,rfl,q⟩:=q1
 obtain ⟨t,rfl⟩:=r1
 exact ⟨some i,H1,I1,.int i t,q⟩
noncomputable def SlR (X:Cx)(r:V->Option Int->Option Int->Hp->VK->Prop):Prop :=
 ∀ (pins:List (Addr×Obj)) (s:Shared) (σ:St) (H:Hp) (x:V) (v vl vu:Value) (lo hi:Option Int) (sl:Addr) (Q:VK),Inv X pins σ H s->RelV x v->s.heap.IsSliceOf sl vl vu .none->IsPart vl lo->IsPart vu hi->r x lo hi H Q ->
  ∃ T id,typeLookup (.type T) "__getitem__"=pure (some (.builtin id))/\s.TypeIs v T/\wpAny (model X.prog X.w) X.A (getItem v (.ref sl)) (EP X pins σ Q) X.xe s
theorem SlR.or {r r':V->Option Int->Option Int->Hp->VK->Prop}(h:SlR X r)(h':SlR X r'):SlR X (fun x lo hi H Q=>r x lo hi H Q\/r' x lo hi H Q):=by
 intro pins s σ H x v vl vu lo hi sl Q I rx hs pl pu q
 rcases q with q | q
 ·exact h pins s σ H x v vl vu lo hi sl Q I rx hs pl pu q
 ·exact h' pins s σ H x v vl vu lo hi sl Q I rx hs pl pu q
noncomputable def tSl (r:V->Option Int->Option Int->Hp->VK->Prop)(te:TE)(tl th:TO):TE:=fun σ H Q=>te σ H fun x H1=>tl σ H1 fun l H2=>th σ H2 fun u H3=>r x l u H3 Q
theorem iG {r:V->Option Int->Option Int->Hp->VK->Prop}(hr:SlR X r)(he:PE X e te)(hl:PO X lo tl)(hu:PO X hi th):PE X (.Subscript e (.Slice lo hi none p2) pos) (tSl r te tl th):=by
 intro pins s σ H Q I h
 refine Subscript_ (thn (he pins s σ H _ I h) fun v s1 ⟨x,H1,I1,r1,q1⟩=>?_)
 refine wpAny_Slice (thn (hl pins s1 σ H1 _ I1 q1) fun vl s2 ⟨l,H2,I2,pl,q2⟩=>thn (hu pins s2 σ H2 _ I2 q2) fun vu s3 ⟨u,H3,I3,pu,q3⟩=>?_)
 rw [evalPart_none]
 refine wpAny_pure ?_
 have I4:Inv X pins σ H3 { s3 with heap:=s3.heap.push { cls:=.type "slice",data:=.fields #[vl,vu,.none] } }:=I3.kept (t':=s3.toks) fun b ob q=>Heap.get?_push_of_some _ q
 obtain ⟨T,id,hT,ht,hg⟩:=hr pins { s3 with heap:=s3.heap.push { cls:=.type "slice",data:=.fields #[vl,vu,.none] } } σ H3 x v vl vu l u s3.heap.objs.size Q I4 r1 (Heap.IsSliceOf.new ..) pl pu q3
 show wpAny (model X.prog X.w) X.A (subscriptTail e (.Slice lo hi none p2) v (.ref s3.heap.objs.size)) (EP X pins σ Q) X.xe { s3 with heap:=s3.heap.push { cls:=.type "slice",data:=.fields #[vl,vu,.none] } }
 exact tail_any (ops:=[.ref s3.heap.objs.size,v]) ht hT hg (by with_unfolding_all rfl)
noncomputable def dj (xs:List V)(lo hi:Option Int):List V:=(xs.drop (HT.sIx xs.length 0 lo)).take (HT.sIx xs.length xs.length hi-HT.sIx xs.length 0 lo)
theorem bI (xs:List V)(lo hi:Option Int):(dj xs lo hi).length<=xs.length:=by
 unfold dj
 rw [a0W,a0X]
 omega
noncomputable def Dd (K:a0a):V->Option Int->Option Int->Hp->VK->Prop:=fun x lo hi H Q=>∃ a xs,x=.ref a/\SqT K H a xs /\
 ¬ (HT.sIx xs.length 0 lo=0/\HT.sIx xs.length xs.length hi=xs.length)/\∀ p,H p=none->Q (.ref p) (upd H p (.tup (dj xs lo hi)))
theorem xc:SlR X (Dd X.K):=by
 intro pins s σ H x v vl vu lo hi sl Q I rx hs pl pu h
 obtain ⟨a,xs,rfl,hx,hw,q⟩:=h
 cases rx
 obtain ⟨its,r,ht,hz⟩:=I.tuple hx
 have hlen:its.toArray.size=xs.length:=by rw [a0j]; exact r.length.symm
 refine ⟨"tuple",_,a0M.lookup,ht.typeIs,?_⟩
 refine HT.getItem_tuple_cut ht hs pl pu (by rw [hlen]; exact hw) ?_ (by rw [hlen]; exact hz)
 rw [hlen]
 refine ⟨.ref s.heap.objs.size,_,I.laid (t':=s.toks) (o:=.tup (dj xs lo hi)) (fun b ob q=>Heap.get?_push_of_some _ q) (a0h _) ?_,rfl,q _ (I.hok.fresh (a0h _))⟩
 exact ⟨a0u (bI xs lo hi) hz,_,(r.drop (HT.sIx xs.length 0 lo)).take (HT.sIx xs.length xs.length hi-HT.sIx xs.length 0 lo),IsTup.new _ _⟩
noncomputable def BA (K:a0a):R2:=fun x y H Q=>∃ a b xs ys,x=.ref a/\y=.ref b/\SqT K H a xs/\SqT K H b ys/\xs≠[]/\xs.length+ys.length<=sizeLine /\
 (ys=[]->Q (.ref a) H)/\(ys≠[]->∀ p,H p=none->Q (.ref p) (upd H p (.tup (xs++ys))))
theorem Vals.nil_iff {xs:List V}{us:List Value}(r:Vals xs us):us=[] ↔ xs=[]:=by
 cases r with
 | nil=>simp
 | cons _ _=>simp
theorem uu:OpR X (binaryOp .Add) (BA X.K):=by
 intro pins s σ H x y v u Q I rx ry h
 obtain ⟨a,b,xs,ys,rfl,rfl,ha,hb,hx,hz,q1,q2⟩:=h
 cases rx
 cases ry
 obtain ⟨its,r1,p1,_⟩:=I.tuple ha
 obtain ⟨its2,r2,p2,_⟩:=I.tuple hb
 refine HT.cat_tup p1 p2 (fun z=>hx (r1.nil_iff.mp z)) (fun z=>⟨.ref a,H,I,rfl,q1 (r2.nil_iff.mp z)⟩) (fun z=>?_) (by rw [<- r1.length,<- r2.length]; exact hz)
 refine ⟨.ref s.heap.objs.size,_,I.laid (t':=s.toks) (o:=.tup (xs++ys)) (fun b ob q=>Heap.get?_push_of_some _ q) (a0h _) ?_,rfl,q2 (fun w=>z (r2.nil_iff.mpr w)) _ (I.hok.fresh (a0h _))⟩
 exact ⟨by rw [a0g]; exact hz,_,r1.append r2,IsTup.new _ _⟩
end
end L2
namespace L2
open PySem PySem.Spec PyProof.Rows
noncomputable def ixN (n:Nat)(i:Int):Option Nat:=if 0<=i then (if i < n then some i.toNat else none) else if -(n:Int)<=i then some (i+n).toNat else none
noncomputable def atI {α:Type}(xs:List α)(i:Int):Option α:=(ixN xs.length i).bind fun j=>xs[j]?
theorem lG {n:Nat}{i:Int}{j:Nat}(h:ixN n i=some j):seqIndex? i n=some j/\j < n/\-(n:Int)<=i/\i < n:=by
 unfold ixN at h
 by_cases h0:0<=i
 ·rw [if_pos h0] at h
  by_cases h1:i < n
  ·rw [if_pos h1] at h
   have e:i.toNat=j:=a0v h
   exact ⟨by rw [seqIndex_of h0 h1,e],by omega,by omega,h1⟩
  ·rw [if_neg h1] at h; cases h
 ·rw [if_neg h0] at h
  by_cases h1:-(n:Int)<=i
  ·rw [if_pos h1] at h
   have e:(i+n).toNat=j:=a0v h
   exact ⟨by rw [seqIndex_neg (by omega) h1,e],by omega,h1,by omega⟩
  ·rw [if_neg h1] at h; cases h
theorem gN {α:Type}{xs:List α}{i:Int}{v:α}(h:atI xs i=some v):∃ j,seqIndex? i xs.length=some j/\xs[j]?=some v/\j < xs.length/\-(xs.length:Int)<=i/\i < xs.length:=by
 unfold atI at h
 cases e:ixN xs.length i with
 | none=>rw [e] at h; cases h
 | some j =>
  rw [e] at h
  obtain ⟨h1,h2,h3,h4⟩:=lG e
  exact ⟨j,h1,h,h2,h3,h4⟩
noncomputable def gO (b:Expr):Prop:=∀ o i,subscripted b false o i=operate [o,i] (getItem o i)
noncomputable def IxR (X:Cx)(r:R2):Prop :=
 ∀ (value slice:Expr) (pins:List (Addr×Obj)) (s:Shared) (σ:St) (H:Hp) (x y:V) (v u:Value) (Q:VK),Inv X pins σ H s->RelV x v->RelV y u->r x y H Q ->
  subscripted slice false v u=operate [v,u] (getItem v u)->wpAny (model X.prog X.w) X.A (subscriptTail value slice v u) (EP X pins σ Q) X.xe s
noncomputable def MtR (X:Cx)(id:String)(r:V->List V->Hp->VK->Prop):Prop :=
 ∀ (pins:List (Addr×Obj)) (s:Shared) (σ:St) (H:Hp) (x:V) (xs:List V) (v:Value) (us:List Value) (Q:VK),Inv X pins σ H s->RelV x v->Vals xs us->r x xs H Q ->
  wpAny (model X.prog X.w) X.A (call (.builtin id) (v::us)) (EP X pins σ Q) X.xe s
section
variable {X:Cx}{a b:Expr}{ta tb:TE}{pos:Pos}
theorem IxR.or {r r':R2}(h:IxR X r)(h':IxR X r'):IxR X (fun x y H Q=>r x y H Q\/r' x y H Q):=by
 intro value slice pins s σ H x y v u Q I rx ry q hs
 rcases q with q | q
 ·exact h value slice pins s σ H x y v u Q I rx ry q hs
 ·exact h' value slice pins s σ H x y v u Q I rx ry q hs
theorem lK {r:R2}(hr:IxR X r)(ha:PE X a ta)(hb:PE X b tb)(hs:gO b):PE X (.Subscript a b pos) (tOp r ta tb):=by
 intro pins s σ H Q I h
 exact Subscript_ (xQ ha hb I h fun v u s2 x y H2 I2 rx ry q=>hr a b pins s2 σ H2 x y v u Q I2 rx ry q (hs _ _))
noncomputable def Dn (K:a0a):R2:=fun x y H Q=>∃ p xs i v,x=.ref p/\y=.int i/\SqL K H p xs/\atI xs i=some v/\Q v H
noncomputable def C6 (K:a0a):R2:=fun x y H Q=>∃ p xs i v,x=.ref p/\y=.int i/\SqT K H p xs/\atI xs i=some v/\Q v H
noncomputable def DF:R2:=fun x y H Q=>∃ z i c,x=.str z/\y=.int i/\z.length<=sizeLine/\atI z.cps.toList i=some c/\Q (.str ⟨#[c]⟩) H
theorem uz:IxR X (Dn X.K):=by
 intro value slice pins s σ H x y v u Q I rx ry h hs
 obtain ⟨p,xs,i,z,rfl,rfl,hq,he,q⟩:=h
 cases rx
 obtain ⟨t,rfl⟩:=ry
 obtain ⟨its,r,pl,hz⟩:=I.list hq
 obtain ⟨j,h1,h2,h3,h4,h5⟩:=gN he
 obtain ⟨w,ew,rw'⟩:=r.get h2
 have hl:=r.length
 have hn:=dv
 have fin:EP X pins σ Q w s:=⟨z,H,I,rw',q⟩
 by_cases h0:0<=i
 ·have hj:i.toNat=j:=by
   rw [seqIndex_of h0 h5] at h1
   exact a0v h1
  exact item_listR pl.isList h0 (by omega) (by rw [hj]; simpa using ew) fin hs
 ·have hj:(i+(its.toArray.size:Int)).toNat=j:=by
   rw [seqIndex_neg (by omega) h4] at h1
   rw [a0j,<- hl]
   exact a0v h1
  exact subscriptTail_builtinR (x:=w) pl.isList.typeIs slot_list_getitem.lookup
   (wpAny_getItem_list_neg (Q:=fun r s'=>r=w/\EP X pins σ Q r s') pl.isList (by omega) (by rw [a0j]<;>omega) (by omega) (by rw [hj]; simpa using ew) ⟨rfl,fin⟩) hs
theorem yD:IxR X (C6 X.K):=by
 intro value slice pins s σ H x y v u Q I rx ry h hs
 obtain ⟨p,xs,i,z,rfl,rfl,hq,he,q⟩:=h
 cases rx
 obtain ⟨t,rfl⟩:=ry
 obtain ⟨its,r,pl,hz⟩:=I.tuple hq
 obtain ⟨j,h1,h2,h3,h4,h5⟩:=gN he
 obtain ⟨w,ew,rw'⟩:=r.get h2
 have hl:=r.length
 have hn:=dv
 have fin:EP X pins σ Q w s:=⟨z,H,I,rw',q⟩
 exact subscriptTail_builtinR (x:=w) pl.typeIs slot_tuple_getitem.lookup
  (getItem_tuple (j:=j) (Q:=fun r s'=>r=w/\EP X pins σ Q r s') pl (by omega) (by omega) (by rw [a0j,<- hl]; exact h1) (by simpa using ew) ⟨rfl,fin⟩) hs
theorem zp:IxR X DF:=by
 intro value slice pins s σ H x y v u Q I rx ry h hs
 obtain ⟨z,i,c,rfl,rfl,hz,he,q⟩:=h
 obtain ⟨t,rfl⟩:=rx
 obtain ⟨t',rfl⟩:=ry
 obtain ⟨j,h1,h2,h3,h4,h5⟩:=gN he
 have hl:z.cps.toList.length=z.length:=by simp [Str.length]
 rw [hl] at h1 h4 h5
 have hn:=dv
 exact tail_any (typeIs_str s z t) slot_str_getitem.lookup (getItem_str (c:=c) (by
  have e1:decide (i < -(2 ^ 63:Int))=false:=decide_eq_false (by omega)
  have e2:decide (i >= 2 ^ 63)=false:=decide_eq_false (by omega)
  rw [e1,e2,Bool.or_false]) (by rw [h1]; simpa using h2) ⟨.str ⟨#[c]⟩,H,I.tok _,⟨_,rfl⟩,q⟩) hs
theorem jM (its:List Value)(n j:Nat)(u:Value):Obj.mapSeq (·.setIfInBounds j u) { cls:=.type "list",data:=.seq its.toArray n }={ cls:=.type "list",data:=.seq (its.set j u).toArray n }:=by
 simp [Obj.mapSeq]
theorem Inv.lst {pins:List (Addr×Obj)}{σ:St}{H:Hp}{s:Shared}{p:Addr}{xs:List V}(I:Inv X pins σ H s)(h:H p=some (.lst xs)) :
  ∃ (its:List Value) (n:Nat),Vals xs its/\s.heap.get? p=some { cls:=.type "list",data:=.seq its.toArray n }/\xs.length<=sizeLine:=by
 obtain ⟨z,its,n,r,e⟩:=I.hok p _ h
 exact ⟨its,n,r,e,z⟩
theorem Inv.lstUpd {pins:List (Addr×Obj)}{σ:St}{H:Hp}{s:Shared}{p:Addr}{xs ys:List V}{its its':List Value}{n n':Nat}{f:Obj->Obj}(I:Inv X pins σ H s)(h:H p=some (.lst xs))
  (ho:s.heap.get? p=some { cls:=.type "list",data:=.seq its.toArray n }) (hf:f { cls:=.type "list",data:=.seq its.toArray n }={ cls:=.type "list",data:=.seq its'.toArray n' }) (r:Vals ys its') (hz:ys.length<=sizeLine) (t:Nat) :
  Inv X pins σ (upd H p (.lst ys)) { s with heap:=s.heap.update p f,toks:=t }:=by
 have e:(s.heap.update p f).get? p=some { cls:=.type "list",data:=.seq its'.toArray n' }:=by
  rw [Heap.get?_update_self f ho (by rw [hf]<;>rfl),hf]
 refine I.write (x:=p) (e:=p) (by rw [h]; trivial) (.inl rfl) (fun b u hb q=>(Heap.get?_update_other _ _ (a1u hb)).trans q) ⟨_,e⟩ ?_
 exact ⟨hz,its',n',r,e⟩
noncomputable def As:V->V->V->Hp->(Hp->Prop)->Prop:=fun o i v H Q=>∃ p xs k j,o=.ref p/\i=.int k/\H p=some (.lst xs)/\ixN xs.length k=some j/\Q (upd H p (.lst (xs.set j v)))
theorem qG:BK X As:=by
 intro pins s σ H o i v ov iv u Q I ro ri rv h
 obtain ⟨p,xs,k,j,rfl,rfl,hp,hj,q⟩:=h
 cases ro
 obtain ⟨t,rfl⟩:=ri
 obtain ⟨its,n,r,ho,hz⟩:=I.lst hp
 obtain ⟨h1,h2,h3,h4⟩:=lG hj
 have hl:=r.length
 have hn:=dv
 have I':Inv X pins σ (upd H p (.lst (xs.set j v))) { s with heap:=s.heap.update p (Obj.mapSeq (·.setIfInBounds j u)) } :=
  I.lstUpd hp ho (jM its n j u) (r.set rv j) (by rw [a0D]; exact hz) s.toks
 by_cases h0:0<=k
 ·have hk:k.toNat=j:=by
   rw [seqIndex_of h0 h4] at h1
   exact a0v h1
  exact PySem.W.ki_setAt ho h0 (by omega) (by rw [a0j,<- hl]; exact h4) (by rw [hk]; exact ⟨_,I',q⟩)
 ·have hk:(k+(its.toArray.size:Int)).toNat=j:=by
   rw [seqIndex_neg (by omega) h3] at h1
   rw [a0j,<- hl]
   exact a0v h1
  exact PySem.W.ki_setBack ho (by omega) (by rw [a0j,<- hl]; exact h3) (by omega) (by rw [hk]; exact ⟨_,I',q⟩)
theorem ib (lo hi:Option Int)(n:Nat):(sliceBounds lo hi none n).1=((HT.sIx n 0 lo:Nat):Int)/\(sliceBounds lo hi none n).2.1=((HT.sIx n n hi:Nat):Int)/\(sliceBounds lo hi none n).2.2=1:=by
 refine ⟨?_,?_,rfl⟩
 ·cases lo with
  | none=>simp [sliceBounds,HT.sIx]
  | some i =>
   simp only [sliceBounds,HT.sIx,a3d,show (1:Int) > 0 by decide,if_true]
   by_cases h:i < 0
   ·simp only [h,if_true]<;>omega
   ·simp only [h,if_false]<;>omega
 ·cases hi with
  | none=>simp [sliceBounds,HT.sIx]
  | some i =>
   simp only [sliceBounds,HT.sIx,a3d,show (1:Int) > 0 by decide,if_true]
   by_cases h:i < 0
   ·simp only [h,if_true]<;>omega
   ·simp only [h,if_false]<;>omega
theorem fC (its:List Value)(lo hi:Option Int):slicePick its.toArray lo hi none=((its.drop (HT.sIx its.length 0 lo)).take (HT.sIx its.length its.length hi-HT.sIx its.length 0 lo)).toArray:=by
 obtain ⟨h1,h2,h3⟩:=ib lo hi its.toArray.size
 unfold slicePick
 rw [h1,h2,h3]
 simp only [sliceRange_one,pick_run,a0j]<;>rfl
noncomputable def qV (K:a0a):V->Option Int->Option Int->Hp->VK->Prop:=fun x lo hi H Q=>∃ a xs,x=.ref a/\SqL K H a xs/\∀ p,H p=none->Q (.ref p) (upd H p (.lst (dj xs lo hi)))
theorem sl_list:SlR X (qV X.K):=by
 intro pins s σ H x v vl vu lo hi sl Q I rx hs pl pu h
 obtain ⟨a,xs,rfl,hx,q⟩:=h
 cases rx
 obtain ⟨its,r,ht,hz⟩:=I.list hx
 have hlen:=r.length
 refine ⟨"list",_,slot_list_getitem.lookup,ht.isList.typeIs,?_⟩
 refine wpAny_getItem_list_slice ht.isList hs pl pu .none (by simp) ?_ (by rw [a0j]<;>omega)
 rw [fC,<- hlen]
 refine ⟨.ref s.heap.objs.size,_,I.laid (t':=s.toks) (o:=.lst (dj xs lo hi)) (fun b ob q=>Heap.get?_push_of_some _ q) (a0h _) ?_,rfl,q _ (I.hok.fresh (a0h _))⟩
 exact ⟨a0u (bI xs lo hi) hz,_,0,(r.drop (HT.sIx xs.length 0 lo)).take (HT.sIx xs.length xs.length hi-HT.sIx xs.length 0 lo),Heap.get?_push_size _ rfl⟩
noncomputable def eqV:V->V->Bool
 | .non,.non=>true
 | .bl a,.bl b=>a==b
 | .bl a,.int b=>(if a then 1 else 0)==b
 | .int a,.bl b=>a==(if b then 1 else 0)
 | .int a,.int b=>a==b
 | .str a,.str b=>a==b
 | _,_=>false
noncomputable def inV (x:V)(xs:List V):Bool:=xs.any fun y=>eqV y x
theorem gE:cy X (.type "list") (fun xs H Q=>∃ p ys,xs=[.ref p]/\(SqL X.K H p ys\/SqT X.K H p ys)/\∀ l,H l=none->Q (.ref l) (upd H l (.lst ys))):=by
 intro pins s σ H xs us Q I r h
 obtain ⟨p,ys,rfl,hq,q⟩:=h
 obtain ⟨u,rfl,rx⟩:=dJ r
 cases rx
 have fin:∀ (its:List Value),Vals ys its->ys.length<=sizeLine->∀ (h':Heap) (c':Nat),(∀ b o',s.heap.get? b=some o'->h'.get? b=some o') ->
   h'.get? s.heap.objs.size=some { cls:=.type "list",dict:=none,data:=.seq its.toArray c',slots:=#[] }->EP X pins σ Q (.ref s.heap.objs.size) { s with heap:=h' }:=fun its r' hz h' c' kp e =>
  ⟨.ref s.heap.objs.size,_,I.laid (t':=s.toks) kp (a0h _) (show ObjOk X.prog X.w _ h' _ (.lst ys) from ⟨hz,its,c',r',e⟩),rfl,q _ (I.hok.fresh (a0h _))⟩
 rcases hq with hq | hq
 ·obtain ⟨its,r',pl,hz⟩:=I.list hq
  have hlen:=r'.length
  obtain ⟨o,ho,hc,n,hd⟩:=pl.isList
  exact call_list_seq p (.inl rfl) ho hc hd (fun h' c' kp e=>fin its r' hz h' c' kp e) (by simp only [a0j]<;>omega)
 ·obtain ⟨its,r',pl,hz⟩:=I.tuple hq
  have hlen:=r'.length
  obtain ⟨o,ho,hc,n,hd⟩:=pl
  exact call_list_seq p (.inr rfl) ho hc hd (fun h' c' kp e=>fin its r' hz h' c' kp e) (by simp only [a0j]<;>omega)
noncomputable def tyV (K:a0a)(T:String)(x:V)(H:Hp):Prop:=match x with
 | .str _=>T="str"
 | .int _=>T="int"
 | .ref p=>(T="list"/\∃ xs,SqL K H p xs)\/(T="tuple"/\∃ o,K.lookup p=some o/\o.cls=.type "tuple"/\o.dict=none) \/
   (T="dict"/\((∃ kvs,H p=some (.dK kvs))\/∃ kvs,H p=some (.dT kvs)))\/(T="set"/\∃ S n,H p=some (.set S n))
 | _=>False
theorem nM {pins:List (Addr×Obj)}{σ:St}{H:Hp}{s:Shared}{T:String}{x:V}{v:Value}(I:Inv X pins σ H s)(r:RelV x v)(ty:tyV X.K T x H) :
  s.TypeIs v T/\∀ a,v=.ref a->∃ ob,s.heap.get? a=some ob/\ob.dict=none:=by
 cases x with
 | str z =>
  obtain ⟨t,rfl⟩:=r
  cases (show T="str" from ty)
  exact ⟨typeIs_str s z t,fun _ e=>nomatch e⟩
 | int i =>
  obtain ⟨t,rfl⟩:=r
  cases (show T="int" from ty)
  exact ⟨typeIs_int s i t,fun _ e=>nomatch e⟩
 | ref p =>
  cases r
  rcases ty with ⟨rfl,xs,hq⟩ | ⟨rfl,o,hk,hc,hd⟩ | ⟨rfl,hk⟩ | ⟨rfl,S,n,hk⟩
  ·obtain ⟨its,_,pl,_⟩:=I.list hq
   refine ⟨pl.isList.typeIs,fun a e=>?_⟩
   cases e
   obtain ⟨o,n,e,c,hd,_⟩:=pl
   exact ⟨o,e,hd⟩
  ·refine ⟨⟨o,I.kIn p o hk,hc⟩,fun a e=>?_⟩
   cases e
   exact ⟨o,I.kIn _ o hk,hd⟩
  ·have z:∃ o,s.heap.get? p=some o/\o.ExactDict:=by
    rcases hk with ⟨kvs,hk⟩ | ⟨kvs,hk⟩
    ·obtain ⟨_,_,_,_,o,_,_,e,ex,_⟩:=I.hok p _ hk
     exact ⟨o,e,ex⟩
    ·obtain ⟨_,_,_,_,o,_,_,e,ex,_⟩:=I.hok p _ hk
     exact ⟨o,e,ex⟩
   obtain ⟨o,e,ex⟩:=z
   refine ⟨⟨o,e,ex.1⟩,fun a e2=>?_⟩
   cases e2
   exact ⟨o,e,ex.2.1⟩
  ·obtain ⟨o,_,_,_,e,ex,_⟩:=I.hok p _ hk
   refine ⟨⟨o,e,ex.1⟩,fun a e2=>?_⟩
   cases e2
   exact ⟨o,e,ex.2.1⟩
 | _=>exact a1n ty
noncomputable def Aj (K:a0a)(T:String)(r:V->List V->Hp->VK->Prop)(to:TE):TE:=fun σ H Q=>to σ H fun x H1=>tyV K T x H1/\r x [] H1 Q
noncomputable def tBM (K:a0a)(T:String)(r:V->List V->Hp->VK->Prop)(to:TE)(t:TA):TE:=fun σ H Q=>to σ H fun x H1=>tyV K T x H1/\t σ H1 fun xs H2=>r x xs H2 Q
variable {o e:Expr}{es:List Expr}{to:TE}{t:TA}{name:Str}{apos cpos:Pos}{T id:String}{r:V->List V->Hp->VK->Prop}
theorem jZ (pa:PlainAttrs T)(slot:Slot T name id)(hty:typeOf (.builtin id)=pure (.type "method_descriptor"))(hm:MtR X id r)(ho:PE X o to)
  (hbase:attributeBase o name X.env (eval o X.env)=eval o X.env:=by rfl) (hline:(apos.endLine==cpos.line)=true:=by rfl):PE X (.Call (.Attribute o name apos) [] [] cpos) (Aj X.K T r to):=by
 intro pins s σ H Q I h
 refine wpAny_Call_method0_late hbase hline (thn (ho pins s σ H _ I h) fun v s1 ⟨x,H1,I1,r1,ty,q1⟩=>?_)
 obtain ⟨h1,h2⟩:=nM I1 r1 ty
 exact ⟨T,id,pa,slot,hty,h1,h2,Calls.callWith_builtin rfl (PySem.evalArgs_none (hm pins s1 σ H1 x [] v [] Q I1 r1 .nil q1))⟩
theorem iW (pa:PlainAttrs T)(slot:Slot T name id)(hty:typeOf (.builtin id)=pure (.type "method_descriptor"))(hm:MtR X id r)(ho:PE X o to)(ha:PA X (e::es) t)
  (hbase:attributeBase o name X.env (eval o X.env)=eval o X.env:=by rfl)
  (hfew:((backTo cpos (starEach (e::es) X.env)).all (fun x=>!x.1)&&(backToKw cpos (keywordEach [] X.env)).all (fun x=>x.1.isSome)
  &&decide ((e::es).length+([]:List Keyword).length+(if ([]:List Keyword).isEmpty then 0 else 1) < 30))=true:=by rfl)
  (hline:(apos.endLine==cpos.line)=true:=by rfl) (hs:starEach (e::es) X.env=(false,eval e X.env)::starEach es X.env:=by rfl) (hplain:(backTo cpos (starEach es X.env)).any (·.1)=false:=by rfl) :
  PE X (.Call (.Attribute o name apos) (e::es) [] cpos) (tBM X.K T r to t):=by
 intro pins s σ H Q I h
 refine wpAny_Call_method_late hbase hfew hline rfl (thn (ho pins s σ H _ I h) fun v s1 ⟨x,H1,I1,r1,ty,q1⟩=>?_)
 obtain ⟨h1,h2⟩:=nM I1 r1 ty
 refine ⟨T,id,pa,slot,hty,h1,h2,?_⟩
 have hA:=ha cpos pins s1 σ H1 _ I1 q1
 rw [hs] at hA ⊢
 refine Calls.callWith_builtin (by show (false || (backTo cpos (starEach es X.env)).any (·.1))=false; rw [hplain]<;>rfl) (Calls.evalArgs_plain ?_)
 exact thn hA fun us s2 ⟨vs,H2,I2,r2,q2⟩=>hm pins s2 σ H2 x vs v us Q I2 r1 r2 q2
end
end L2
namespace L2
open PySem PySem.Spec PyProof.Rows
noncomputable def MtM (X:Cx)(id:String)(r:V->List V->Hp->VK->Prop):Prop :=
 ∀ (pins:List (Addr×Obj)) (s:Shared) (σ:St) (H:Hp) (x:V) (xs:List V) (v:Value) (us:List Value) (Q:VK),Inv X pins σ H s->RelV x v->Vals xs us->r x xs H Q ->
  wpAny (model X.prog X.w) X.A (call (.builtin id) (v::us)) (EP X pins σ Q) X.xe s
theorem Vals.one:∀ {x:V} {us:List Value},Vals [x] us->∃ u,us=[u]/\RelV x u
 | _,_,.cons r .nil=>⟨_,rfl,r⟩
theorem Vals.zero:∀ {us:List Value},Vals [] us->us=[]
 | _,.nil=>rfl
theorem Vals.dropLast {xs:List V}{us:List Value}(h:Vals xs us):Vals xs.dropLast us.dropLast:=by
 induction h with
 | nil=>exact .nil
 | cons r t ih =>
  cases t with
  | nil=>exact .nil
  | cons q t'=>exact .cons r ih
theorem Vals.eraseIdx:∀ {xs:List V} {us:List Value} (i:Nat),Vals xs us->Vals (xs.eraseIdx i) (us.eraseIdx i)
 | _,_,_,.nil=>.nil
 | _,_,0,.cons _ t=>t
 | _,_,i+1,.cons r t=>.cons r (Vals.eraseIdx i t)
theorem Vals.rep {xs:List V}{us:List Value}(h:Vals xs us):∀ k:Nat,Vals (a0l k xs).flatten (a0l k us).flatten
 | 0=>.nil
 | k+1=>by
  rw [a0Y,a0Y,a1H,a1H]
  exact Vals.append h (Vals.rep h k)
theorem jK {α:Type}(l:List α):l.eraseIdx (l.length-1)=l.dropLast:=by
 induction l with
 | nil=>rfl
 | cons a r ih =>
  cases r with
  | nil=>rfl
  | cons b r =>
   have e:(a::b::r).length-1=((b::r).length-1)+1:=by
    have h1:(a::b::r).length=r.length+2:=rfl
    have h2:(b::r).length=r.length+1:=rfl
    omega
   rw [e,List.eraseIdx_cons_succ,ih]
   all_goals rfl
theorem fQ {α:Type}:∀ (l:List α) (i:Nat),(l.eraseIdx i).length<=l.length
 | [],_=>a0h _
 | _::_,0=>a2i _
 | _::r,i+1=>a1s (fQ r i)
theorem fL (its:List Value):∀ (k:Nat) (acc:List Value),
  a3s (fun x1 x2=>x1++x2) acc.toArray (a0l k its.toArray)=(acc++(a0l k its).flatten).toArray
 | 0,acc=>by simp
 | k+1,acc=>by
  have e:acc.toArray++its.toArray=(acc++its).toArray:=by simp
  have e2:(acc++its)++(a0l k its).flatten=acc++(a0l (k+1) its).flatten:=by
   rw [a0Y,a1H,a0J]
  rw [<- e2,<- fL its k (acc++its),<- e,a0Y,a1X]
section
variable {X:Cx}{pins:List (Addr×Obj)}{σ:St}{H:Hp}{s:Shared}{l b:Addr}{xs ys zs:List V}
theorem Inv.lset {its its':List Value}{n:Nat}{f:Array Value->Array Value}{t':Nat}(I:Inv X pins σ H s)(hH:H l=some (.lst xs))
  (e:s.heap.get? l=some { cls:=.type "list",data:=.seq its.toArray n }) (hf:f its.toArray=its'.toArray) (hv:Vals ys its') (hz:ys.length<=sizeLine) :
  Inv X pins σ (upd H l (.lst ys)) { s with heap:=s.heap.update l (Obj.mapSeq f),toks:=t' }:=by
 have q:=PySem.IsL.update e f
 rw [hf] at q
 refine I.write (x:=l) (e:=l) (by rw [hH]; exact trivial) (.inl rfl) (fun b' u hb hu=>(Heap.get?_update_other s.heap (Obj.mapSeq f) (a1u hb)).trans hu) ⟨_,q⟩ ?_
 exact ⟨hz,its',_,hv,q⟩
theorem Inv.lnew {its:List Value}{t':Nat}(I:Inv X pins σ H s)(hv:Vals ys its)(hz:ys.length<=sizeLine) :
  Inv X pins σ (upd H s.heap.objs.size (.lst ys)) { s with heap:=s.heap.push { cls:=.type "list",data:=.seq its.toArray },toks:=t' } :=
 I.laid (fun _ _ q=>Heap.get?_push_of_some _ q) (a0h _) ⟨hz,its,0,hv,Heap.get?_push_size _ rfl⟩
theorem Inv.fresh (I:Inv X pins σ H s):H s.heap.objs.size=none:=I.hok.fresh (a0h _)
theorem Inv.lstM (I:Inv X pins σ H s)(hH:H l=some (.lst xs)):xs.length<=sizeLine/\∃ (its:List Value) (n:Nat),Vals xs its/\xs.length=its.length/\s.heap.get? l=some { cls:=.type "list",data:=.seq its.toArray n }:=by
 obtain ⟨z,its,n,r,e⟩:=I.hok l _ hH
 exact ⟨z,its,n,r,r.length,e⟩
theorem pP {n:Nat}(h:n<=sizeLine):Builtin.List.listTooLong n=false:=by
 unfold Builtin.List.listTooLong
 exact decide_eq_false (by omega)
end
section
variable {X:Cx}
noncomputable def rG:V->List V->Hp->VK->Prop:=fun x vs H Q=>∃ l xs y,x=.ref l/\vs=[y]/\H l=some (.lst xs)/\xs.length < sizeLine/\Q .non (upd H l (.lst (xs++[y])))
theorem dw:MtM X "list.append" rG:=by
 intro pins s σ H x vs v us Q I rx rv h
 obtain ⟨l,xs,y,rfl,rfl,hH,hz,q⟩:=h
 cases rx
 obtain ⟨u,rfl,ru⟩:=rv.one
 obtain ⟨z,its,n,r,hl,e⟩:=I.lstM hH
 refine call_meets F.slot_list_append ⟨_,e,rfl⟩ F.entry_list_append (F.args_list_append_2 _ _) (PySem.list_append l its.toArray n u (by rw [a0j]; omega)) ⟨e,?_⟩
 refine ⟨.non,_,I.lset (its':=its++[u]) hH e (by simp) (r.append (.cons ru .nil)) ?_,rfl,q⟩
 rw [a0g,a0r]
 omega
noncomputable def DE:V->List V->Hp->VK->Prop:=fun x vs H Q=>∃ l xs y,x=.ref l/\vs=[]/\H l=some (.lst xs)/\xs[xs.length-1]?=some y/\Q y (upd H l (.lst xs.dropLast))
theorem n0:MtM X "list.pop" DE:=by
 intro pins s σ H x vs v us Q I rx rv h
 obtain ⟨l,xs,y,rfl,rfl,hH,hy,q⟩:=h
 cases rx
 have hus:=rv.zero
 subst hus
 obtain ⟨z,its,n,r,hl,e⟩:=I.lstM hH
 obtain ⟨u,hu,ru⟩:=r.get hy
 have hy':its.toArray[its.toArray.size-1]?=some u:=by
  show its.toArray[its.length-1]?=some u
  rw [<- a2z,<- hl]
  exact hu
 refine call_meets F.slot_list_pop ⟨_,e,rfl⟩ F.entry_list_pop (F.args_list_pop_1 _) (MeetsSeq.list_pop_last l its.toArray n u hy' (by rw [a0j]; omega)) ⟨e,?_⟩
 refine ⟨y,_,I.lset (its':=its.dropLast) hH e ?_ r.dropLast ?_,ru,q⟩
 ·show its.toArray.eraseIdxIfInBounds (its.toArray.size-1)=its.dropLast.toArray
  rw [a0j,a1I,jK]
 ·rw [a2J]
  omega
noncomputable def x6:V->List V->Hp->VK->Prop:=fun x vs H Q=>∃ l xs i k y,x=.ref l/\vs=[.int i]/\H l=some (.lst xs)/\-(2 ^ 63)<=i/\i < 2 ^ 63/\seqIndex? i xs.length=some k/\xs[k]?=some y/\Q y (upd H l (.lst (xs.eraseIdx k)))
theorem om:MtM X "list.pop" x6:=by
 intro pins s σ H x vs v us Q I rx rv h
 obtain ⟨l,xs,i,k,y,rfl,rfl,hH,h1,h2,hk,hy,q⟩:=h
 cases rx
 obtain ⟨u,rfl,ru⟩:=rv.one
 obtain ⟨t,rfl⟩:=ru
 obtain ⟨z,its,n,r,hl,e⟩:=I.lstM hH
 obtain ⟨w,hw,rw'⟩:=r.get hy
 refine call_meets F.slot_list_pop ⟨_,e,rfl⟩ F.entry_list_pop (F.args_list_pop_2 _ _)
  (MeetsSeq.list_pop_at l its.toArray n i t k w (fitsIndex_both h1 h2) (by rw [a0j,<- hl]; exact hk) (by rw [<- a2z]; exact hw) (by rw [a0j]; omega)) ⟨e,?_⟩
 refine ⟨y,_,I.lset (its':=its.eraseIdx k) hH e ?_ (r.eraseIdx k) ?_,rw',q⟩
 ·show its.toArray.eraseIdxIfInBounds k=(its.eraseIdx k).toArray
  rw [a1I]
 ·have:=fQ xs k
  omega
noncomputable def pw:V->List V->Hp->VK->Prop:=fun x vs H Q=>∃ l xs,x=.ref l/\vs=[]/\H l=some (.lst xs)/\Q .non (upd H l (.lst []))
theorem p7:MtM X "list.clear" pw:=by
 intro pins s σ H x vs v us Q I rx rv h
 obtain ⟨l,xs,rfl,rfl,hH,q⟩:=h
 cases rx
 have hus:=rv.zero
 subst hus
 obtain ⟨z,its,n,r,hl,e⟩:=I.lstM hH
 refine call_meets F.slot_list_clear ⟨_,e,rfl⟩ F.entry_list_clear (F.args_list_clear_1 _) (AutoSeq1.list_clear_list_0 l its.toArray n (by rw [a0j]; omega)) ⟨e,?_⟩
 exact ⟨.non,_,I.lset (its':=[]) (ys:=[]) hH e rfl .nil (a0F _),rfl,q⟩
noncomputable def Ag:R2:=fun x y H Q=>∃ l b xs zs,x=.ref l/\y=.ref b/\H l=some (.lst xs)/\H b=some (.lst zs)/\xs.length+zs.length<=sizeLine/\∀ p,H p=none->Q (.ref p) (upd H p (.lst (xs++zs)))
theorem op_cat:OpR X (binaryOp .Add) Ag:=by
 intro pins s σ H x y v u Q I rx ry h
 obtain ⟨l,b,xs,zs,rfl,rfl,hH,hB,hz,q⟩:=h
 cases rx
 cases ry
 obtain ⟨z,its,n,r,hl,e⟩:=I.lstM hH
 obtain ⟨z2,its2,n2,r2,hl2,e2⟩:=I.lstM hB
 refine PySem.P.add_list e e2 ?_ (by rw [a0j,a0j]; omega)
 have ea:its.toArray++its2.toArray=(its++its2).toArray:=by simp
 rw [ea]
 exact ⟨.ref _,_,I.lnew (t':=s.toks) (r.append r2) (by rw [a0g]; omega),rfl,q _ I.fresh⟩
noncomputable def AY:R2:=fun x y H Q=>∃ l k xs,x=.ref l/\y=.int k/\H l=some (.lst xs)/\-(2 ^ 63)<=k/\k < 2 ^ 63/\xs.length * k.toNat<=sizeLine /\
 ∀ p,H p=none->Q (.ref p) (upd H p (.lst (a0l k.toNat xs).flatten))
theorem sd {α:Type}(xs:List α)(k:Nat):(a0l k xs).flatten.length=k * xs.length:=by
 induction k with
 | zero=>simp
 | succ k ih=>rw [a0Y,a1H,a0g,ih,Nat.succ_mul,a1z]
theorem wR:OpR X (binaryOp .Mult) AY:=by
 intro pins s σ H x y v u Q I rx ry h
 obtain ⟨l,k,xs,rfl,rfl,hH,h1,h2,hz,q⟩:=h
 cases rx
 obtain ⟨t,rfl⟩:=ry
 obtain ⟨z,its,n,r,hl,e⟩:=I.lstM hH
 have hlen:its.toArray.size * k.toNat<=sizeLine:=by rw [a0j,<- hl]; exact hz
 have hcap:¬ its.toArray.size * k.toNat > (2 ^ 63-1) / 8:=by
  have:(sizeLine:Nat)<=(2 ^ 63-1) / 8:=by decide
  omega
 have hfit:¬ (!Builtin.List.listFitsIndex k)=true:=by
  rw [fitsIndex_both h1 h2]
  exact a0n
 have hlong:¬ Builtin.List.listTooLong (its.toArray.size * k.toNat)=true:=by
  rw [pP hlen]
  exact a0n
 have hnew:a3s (fun x1 x2=>x1++x2) #[] (a0l (if its.toArray.isEmpty=true then 0 else k.toNat) its.toArray)=(a0l k.toNat its).flatten.toArray:=by
  have f0:∀ m:Nat,a3s (fun x1 x2=>x1++x2) #[] (a0l m its.toArray)=(a0l m its).flatten.toArray:=fun m=>by
   have:=fL its m []
   rw [a0V] at this
   exact this
  rw [f0]
  cases its with
  | nil=>simp
  | cons a r'=>rw [if_neg (by simp)]
 refine wpAny_binaryOp_repeat_ref (T:="list") (U:="int") (by decide) ⟨_,e,rfl⟩ (fun s'=>typeIs_int s' k t) noFill_list_mul F.fills_int_mul F.slot_int_rmul repeat_list F.slot_int_index.lookup
  (call_meets F.slot_int_rmul (typeIs_int s k t) F.entry_int_rmul (F.args_int_rmul_2 _ _) (int___rmul___int_list k t l its.toArray n)
   ⟨e,rfl,⟨_,e,rfl⟩,call_meets F.slot_list_mul ⟨_,e,rfl⟩ F.entry_list_mul (F.args_list_mul_2 _ _) (AutoListH.list___mul___list_int_3 l its.toArray n k t hfit hcap hlong) ⟨e,?_⟩⟩)
 rw [hnew]
 exact ⟨.ref _,_,I.lnew (t':=s.toks) (r.rep k.toNat) (by rw [sd,a3H]; exact hz),rfl,q _ I.fresh⟩
end
end L2
namespace Att
open PySem PySem.W PySem.Calls PyProof.Rows
theorem dX {P:Params}{h:Heap}:∀ (ns:List Int) (vs:List Value),WellAll P h vs (ns.map WData.int)->IntsAre vs ns:=by
 intro ns
 induction ns with
 | nil =>
  intro vs w
  rw [a1M] at w
  cases w
  exact .nil
 | cons n ns ih =>
  intro vs w
  rw [a0x] at w
  cases w with
  | cons a b =>
   cases a
   exact .cons _ _ (ih _ b)
theorem lZ {l:OpenLaw}{n:Nat}(hn:l.most=some n){P:Params}{h:Heap}{args:List WData}{vals:List Value}
  (hpre:l.row.toRowW.claim.pre args=true) (hwl:WellAll P h vals args) :
  ∃ a vs ns,vals=[Value.ref a]/\args=[WData.list (ns.map WData.int)]/\h.get? a=some { cls:=.type "list",data:=.seq vs.toArray }/\IntsAre vs ns/\ns.length<=n:=by
 have hsh:WShape.hasAll [] args [.list .int]=true:=(pre_splitW hpre).1
 have hc:l.pre.holds [] { args:=args }=true:=(pre_splitW hpre).2
 obtain ⟨d,r,rfl,h1,h2⟩:=hasAllW_cons hsh
 obtain rfl:=hasAllW_nil h2
 obtain ⟨xs,rfl,h3⟩:=hasW_list h1
 obtain ⟨ns,rfl⟩:=items_int h3
 have hlen:ns.length<=n:=by
  unfold OpenLaw.pre at hc
  have h4:(WTm.not (.lt (.lit (.int (n:Int))) (.len (.arg 0)))).holds [] { args:=[.list (ns.map .int)] }=true:=by
   have h4:=(holds_andW hc).1
   rw [hn] at h4
   exact h4
  have h5:=condW_of h4 (w_not (w_lt w_lit (w_len_list (w_arg rfl))))
  rw [a0e] at h5
  refine a3e fun q=>?_
  have q':(n:Int) < ((ns.length:Nat):Int):=by omega
  first
   | (rw [decide_eq_true q'] at h5; exact absurd h5 (by decide))
   | (simp at h5; omega)
 cases hwl with
 | cons w1 w2 =>
  cases w2
  cases w1 with
  | list ho hall=>exact ⟨_,_,ns,rfl,rfl,ho,dX ns _ hall,hlen⟩
theorem l9 (l:OpenLaw)(args:List WData):l.row.toRowW.claim.post args (.bool true) args=true :=
 postW_of (r:=l.row.toRowW) (X:=(true==true))
  (show WShape.has [] (.bool true) .bool=true by first | rfl | decide | simp [WShape.has,WShape.arms,WShape.armsAll])
  (show (WTm.eq .res (.lit (.bool true))).value [] { args:=args,res:=some (.bool true),after:=args }=some (.bool (true==true)) from w_eq_bool (w_res rfl) w_lit) rfl
theorem attach_call {l:OpenLaw}{n:Nat}{q:Program}{loose:List Str}{XP:(Str->Option Value)->Heap->Prop}{YP:World->Heap->Prop}{d:DefRec}
  (hn:l.most=some n) (hdf:d.params.defaults=[])
  (call:∀ (w:World) (s₀ s₁:Shared) (mg mb:Str->Option Value) (fa:Addr) (o:Obj) (pm cd doc:Value) (a:Addr) (vs:List Value) (ns:List Int),
   Ground q loose [] XP w s₀ mg mb s₁.heap->YP w s₁.heap ->
   s₁.heap.get? fa=some o->o.data=.func (docDef d.name d.params d.body d.scope pm cd doc)->s₁.heap.CodeRec cd d.name->mg d.name=some (.ref fa) ->
   s₁.heap.get? a=some { cls:=.type "list",data:=.seq vs.toArray }->IntsAre vs ns->ns.length<=n->s₁.gens=#[] ->
   codeAny (model l.prog w) callerA (.call (.ref fa) ⟨[.ref a],[]⟩) (fun r s'=>r=.ok (.ret (.bool true))/\OldK s₁.heap s'.heap/\s'.os=s₁.os/\AllBare s'.gens) s₁) :
  WalkO q loose XP YP l.row.toRowW d [] (fun f vs=>a3t f vs):=by
 intro w s₀ s₁ mg mb G Y fa o pm cd doc dV kV ho hd hcd hD hmg hg args vals as hpre hlay hrd hwl hlo
 obtain rfl:dV=.none:=Dflts.none hD hdf
 obtain rfl:kV=.none:=Dflts.noKw hD
 obtain ⟨a,vs,ns,rfl,rfl,hobj,hints,hlen⟩:=lZ hn hpre hwl
 refine enter_call (codeAny_mono (call w s₀ s₁ mg mb fa o pm cd doc a vs ns G Y ho (fd_plain hd) hcd hmg hobj hints hlen hg) fun r s' hq=>?_)
 obtain ⟨rfl,h2,h3,h4⟩:=hq
 exact ⟨.inl ⟨.bool true,.bool true,[],rfl,fun _=>rfl,.bool true,l9 l _,fun _=>⟨a3Q,fun _ hm=>(nomatch hm)⟩⟩,h2,h3,h4⟩
end Att
namespace L2
open PySem PySem.Spec PyProof.Rows
theorem bT:∀ {vs:List Value} {ns:List Int},IntsAre vs ns->Vals (ns.map V.int) vs
 | _,_,.nil=>.nil
 | _,_,.cons n t h=>.cons ⟨t,rfl⟩ (bT h)
noncomputable def qF (H:Hp):Prop:=∀ b,H b=none\/∃ o xs,H b=some (.frz o (.lst xs))
theorem p9 {P:Program}{w:World}{K:a0a}{mg mb:Str->Option Value}{CX:CXT}{k:Nat}{fa a:Addr}{fd:FuncData}{x:Str}{sp:Sp}{s₁:Shared}{vs:List Value}{ns:List Int}
  (KX:K.In s₁.heap) (hns:s₁.heap.Ns mainGlobals mg) (hb:s₁.heap.Ns builtinsNs mb) (hbb:∀ x:Str,x≠"__name__"->mb x=bootBuiltins x) (hlim:s₁.heap.NoLimit) (hg:s₁.gens=#[])
  (ha:s₁.heap.get? a=some { cls:=.type "list",data:=.seq vs.toArray }) (hi:IntsAre vs ns) (hl:ns.length<=sizeLine) (hr:Room k callerA)
  (F:∀ base:Heap,K.In base->base.Ns mainGlobals mg->cZ P w K mg base CX k fa fd [x] sp) (hbind:∀ (s:Shared) (u:Value),BindsTo s fd ⟨[u],[]⟩ [(x,u)])
  (hsp:∀ H:Hp,qF H->SqL K H a (ns.map V.int)->sp [.ref a] H (fun v _=>v=.bl true) fun _ _ _=>False)
  (hCX:∀ H e s',CX [] H s₁ (fun _ _ _=>False) e s'->False) :
  codeAny (model P w) callerA (.call (.ref fa) ⟨[.ref a],[]⟩) (fun r s'=>r=.ok (.ret (.bool true))/\OldK s₁.heap s'.heap/\s'.os=s₁.os/\AllBare s'.gens) s₁:=by
 have rv:=bT hi
 have lenV:=hi.length
 -- from an abstract heap in which nothing but the script may be tracked
 have core:∀ H:Hp,qF H->SqL K H a (ns.map V.int)->HOk P w H s₁.heap->(∀ b,H b≠none->b=a)->(H a≠none->K.lookup a=none) ->
   codeAny (model P w) callerA (.call (.ref fa) ⟨[.ref a],[]⟩) (fun r s'=>r=.ok (.ret (.bool true))/\OldK s₁.heap s'.heap/\s'.os=s₁.os/\AllBare s'.gens) s₁:=by
  intro H hO hS hok hA hK
  have base_of:∀ {b:Addr} {o:Obj},s₁.heap.get? b=some o->H b=none->(gQ s₁.heap H).get? b=some o:=fun e n=>oh e n
  have noA:∀ {b:Addr} {o:Obj} {es:Array DictEntry} {ep:Nat},s₁.heap.get? b=some o->o.data=.dict es ep->H b=none:=fun {b o es ep} e d=>by
   cases q:H b with
   | none=>rfl
   | some u =>
    have e':b=a:=hA b (by rw [q]; simp)
    subst e'
    rw [ha] at e; cases e
    have d':Data.seq vs.toArray _=Data.dict es ep:=d
    cases d'
  have nsK:∀ {b:Addr} {m:Str->Option Value},s₁.heap.Ns b m->(gQ s₁.heap H).Ns b m:=fun {b m} ⟨o,es,ep,e,d,r⟩=>⟨o,es,ep,base_of e (noA e d),d,r⟩
  have hKb:K.In (gQ s₁.heap H):=fun b o e=>base_of (KX b o e) (by
   cases q:H b with
   | none=>rfl
   | some u =>
    have e':b=a:=hA b (by rw [q]; simp)
    subst e'
    rw [hK (by rw [q]; simp)] at e; cases e)
  have hM:Mod K mg (gQ s₁.heap H):=⟨hKb,nsK hns,⟨mb,nsK hb,hbb⟩,let ⟨mc,h1,h2⟩:=hlim; ⟨mc,nsK h1,h2⟩⟩
  have e0:tI P w K mg (gQ s₁.heap H) callerA [] s₁ H:=⟨rfl,hM,fun b o e=>uj e,Nat.le_of_eq (mi _ _),trivial,fun b hb=>absurd (show b∈([]:List Addr) from hb) (by simp),hok,.of_eq hg⟩
  refine codeAny_mono ((F _ hKb (nsK hns)).run callerA [] s₁ H ⟨[.ref a],[]⟩ [.ref a] [.ref a] _ _ hr e0 (hbind s₁ (.ref a)) (.cons rfl .nil) (hsp H hO hS)) fun r s' h=>?_
  cases r with
  | error e=>exact (hCX H e s' h).elim
  | ok fl =>
   cases fl with
   | next=>exact a1n h
   | brk=>exact a1n h
   | cont=>exact a1n h
   | ret u =>
    obtain ⟨v,H',os,bare,un,hok',r',q⟩:=h
    have q':v=.bl true:=q
    subst q'
    obtain rfl:u=Value.bool true:=r'
    refine ⟨rfl,OldK.of_keep fun b o e=>?_,os,bare⟩
    cases q:H b with
    | none=>exact un.keep b o e q (by intro z; exact absurd (show b∈([]:List Addr) from z) (by simp)) (by simp)
    | some u =>
     rcases hO b with z | ⟨ob,xs,z⟩
     ·rw [q] at z; cases z
     ·have z2:=un.frzs b ob _ z
      obtain ⟨e1,_⟩:=hok b _ z
      obtain ⟨e2,_⟩:=hok' b _ z2
      rw [e] at e1; cases e1
      exact e2
 cases hk:K.lookup a with
 | some o =>
  -- the script is one of the module's own objects
  have e:=KX a o hk
  rw [ha] at e
  cases e
  refine core (fun _=>none) (fun _=>.inl rfl) (.inr ⟨_,vs.toArray,_,hk,rfl,rfl,rfl,by rw [a0j,lenV]; exact hl,by simpa using rv⟩) (fun b u z=>by have z':(none:Option HO)=some u:=z; cases z') (fun b z=>absurd rfl z) fun z=>absurd rfl z
 | none =>
  refine core (fun b=>if b=a then some (.frz { cls:=.type "list",data:=.seq vs.toArray } (.lst (ns.map V.int))) else none) (fun b=>?_) (.inl (.inr ⟨{ cls:=.type "list",data:=.seq vs.toArray },if_pos rfl⟩)) (fun b u z=>?_) (fun b z=>?_) fun _=>hk
  ·by_cases hb:b=a
   ·exact .inr ⟨_,_,if_pos hb⟩
   ·exact .inl (if_neg hb)
  ·by_cases hb:b=a
   ·have z':=(if_pos hb).symm.trans z
    cases z'
    subst hb
    exact ⟨ha,by rw [a0e]; exact hl,vs,_,rv,ha⟩
   ·have z':=(if_neg hb).symm.trans z
    cases z'
  ·by_cases hb:b=a
   ·exact hb
   ·exact absurd (if_neg hb) z
end L2
namespace L2
open PySem PySem.Spec PyProof.Rows
theorem walk_of {l:a2A}{n k:Nat}{q:Program}{loose:List Str}{XP:(Str->Option Value)->Heap->Prop}{YP:World->Heap->Prop}{d:DefRec}{K:Params->a0a}{CX:World->CXT}{sp:World->Sp}{x:Str}
  (hn:l.most=some n) (hn2:n<=sizeLine) (hdf:d.params.defaults=[]) (hr:Room k callerA)
  (hY:∀ (w:World) (h:Heap),YP w h->(K w.params).In h)
  (F:∀ (w:World) (mg:Str->Option Value) (fa:Addr) (h:Heap),(K w.params).In h->h.Ns mainGlobals mg->mg d.name=some (.ref fa) ->
   ∃ fd:FuncData,(∀ (s:Shared) (u:Value),BindsTo s fd ⟨[u],[]⟩ [(x,u)]) /\
    ∀ base:Heap,(K w.params).In base->base.Ns mainGlobals mg->cZ l.prog w (K w.params) mg base (CX w) k fa fd [x] (sp w))
  (hsp:∀ (w:World) (H:Hp) (a:Addr) (ns:List Int),ns.length<=n->qF H->SqL (K w.params) H a (ns.map V.int)->sp w [.ref a] H (fun v _=>v=.bl true) fun _ _ _=>False)
  (hCX:∀ (w:World) (H:Hp) (s:Shared) (e:Value) (s':Shared),CX w [] H s (fun _ _ _=>False) e s'->False) :
  a3u q loose XP YP l.row.toRowW d [] (fun f vs=>a3t f vs):=by
 refine Att.attach_call hn hdf fun w s₀ s₁ mg mb fa o pm cd doc a vs ns G Y ho hd hcd hmg hobj hints hlen hg=>?_
 have KX:=hY w _ Y
 obtain ⟨fd,hb,hF⟩:=F w mg fa _ KX G.T.g hmg
 exact p9 KX G.T.g G.T.b G.T.builtins G.T.nolimit hg hobj hints (a0u hlen hn2) hr hF hb (fun H hO hS=>hsp w H a ns hlen hO hS) fun H e s'=>hCX w H s₁ e s'
end L2
namespace L2
open PySem PySem.Spec PyProof.Rows
noncomputable def defArgs (s:Stmt):Arguments:=match s with
 | .FunctionDef _ a _ _ _ _ _ _ _ _=>a
 | _=>{ posonlyargs:=[],args:=[],vararg:=none,kwonlyargs:=[],kw_defaults:=[],kwarg:=none,defaults:=[] }
noncomputable def defBody (s:Stmt):List Stmt:=match s with
 | .FunctionDef _ _ b _ _ _ _ _ _ _=>b
 | _=>[]
noncomputable def defScope (s:Stmt):Scope:=match s with
 | .FunctionDef _ _ _ _ _ _ sc _ _ _=>sc
 | _=>{ kind:=.function,names:=[],isGenerator:=false,isCoroutine:=false }
noncomputable abbrev CX0:CXT:=fun _ _ _ _ _ _=>False
noncomputable abbrev E0:XK:=fun _ _ _=>False
theorem BS {X:Cx}:jv CX0 X E0:=fun _ _ _ _ _ _ _ h=>h.elim
structure Fun (K:a0a)(x qual:Str)(st:Stmt)(f:Addr)(fd:FuncData):Prop where
 ex:∃ (oc:Value) (od:Option Addr) (kV doc pm:Value) (an:Option Addr) (cdv ct:Value) (osl:Array (Option Value)),
  fd=a1g x qual (defArgs st) (defBody st) (defScope st) .none kV doc pm an cdv ct/\K.lookup f=some ⟨oc,od,.func fd,osl⟩/\a15 K cdv qual=true
 kp:a1K K (.ref f)=true
section
variable {P:Program}{w:World}{K:a0a}{mg:Str->Option Value}{base:Heap}
theorem Fun.ok {x qual:Str}{st:Stmt}{f:Addr}{fd:FuncData}{N ps:List Str}{k:Nat}{sp:Sp}(F:Fun K x qual st f fd)(S:aD N ps (defScope st))(len:∀ vs H Q E,sp vs H Q E->vs.length=ps.length)
  (hbody:∀ (cdv:Value) (A:Around) (outer:List Env) (s:Shared) (H:Hp) (vs:List V) (Q:VK) (E:XK),Room k (A.deeper (envOfC qual (defScope st) s.heap.objs.size f cdv))->sp vs H Q E ->
   ∃ t,PSs (gJ CX0 P w K mg base N qual (defScope st) f cdv A outer s H E).nox (defBody st) t/\t { nx:=fun _ H'=>Q .non H',rt:=Q } (start N vs) H):cZ P w K mg base CX0 (k+1) f fd ps sp:=by
 obtain ⟨oc,od,kV,doc,pm,an,cdv,ct,osl,rfl,lk,hcd⟩:=F.ex
 refine Cd lk hcd S len fun A outer s H vs Q E hr hsp=>?_
 obtain ⟨t,h,q⟩:=hbody cdv A outer s H vs Q E hr hsp
 exact ⟨t,h.nox,q⟩
theorem Fun.binds {x qual:Str}{st:Stmt}{f:Addr}{fd:FuncData}{ps:List Str}(F:Fun K x qual st f fd)
  (h:∀ (kV doc pm:Value) (an:Option Addr) (cdv ct:Value) (us:List Value),us.length=ps.length->bindArgs (a1g x qual (defArgs st) (defBody st) (defScope st) .none kV doc pm an cdv ct) ⟨us,[]⟩=pure (ps.zip us)):Binds K fd ps []:=by
 obtain ⟨oc,od,kV,doc,pm,an,cdv,ct,osl,rfl,lk,hcd⟩:=F.ex
 exact .all (h kV doc pm an cdv ct)
theorem pE {x qual:Str}{st:Stmt}{f:Addr}{oc:Value}{od an:Option Addr}{osl:Array (Option Value)}{kV doc pm cdv ct:Value}(l:K.lookup f=some ⟨oc,od,.func (a1g x qual (defArgs st) (defBody st) (defScope st) .none kV doc pm an cdv ct),osl⟩)
  (c:a15 K cdv qual=true) (k:a1K K (.ref f)=true):Fun K x qual st f (a1g x qual (defArgs st) (defBody st) (defScope st) .none kV doc pm an cdv ct):=⟨⟨oc,od,kV,doc,pm,an,cdv,ct,osl,rfl,l,c⟩,k⟩
end
theorem vz {A:Around}{k:Nat}(hr:Room k A):A.units+1 < cLine:=a1C (Nat.add_le_add_left (by decide:1<=64) _) hr.units
section
variable {X:Cx}
theorem pv (i:Nat){x:Str}{pos:Pos}(hN:X.N[i]?=some x:=by rfl)(hv:Vis X.env.scope x:=by first | exact a0y rfl | exact a0s (a0y rfl) | exact a0s (a0s rfl))(hd:(x==("__debug__":Str))=false:=by decide)
  (hcd:(x==("__classdict__":Str))=false:=by decide):PE X (.Name x pos) (eJ i):=az hN hv hd hcd
end
noncomputable def Same (H H':Hp):Prop:=∀ b o,H b=some o->H' b=some o
theorem Same.refl (H:Hp):Same H H:=fun _ _ h=>h
end L2
namespace L2
open PySem PySem.Spec PyProof.Rows
section
variable {κ:Type}[DecidableEq κ]
noncomputable def dU (kvs:List (κ×V))(k:κ):Option V:=(kvs.find? fun kv=>decide (kv.1=k)).map (·.2)
noncomputable def cN (kvs:List (κ×V))(k:κ)(v:V):List (κ×V) :=
 if (kvs.any fun kv=>decide (kv.1=k))=true then kvs.map (fun kv=>if kv.1=k then (kv.1,v) else kv) else kvs++[(k,v)]
theorem d8 {p:κ×V}{r:List (κ×V)}{k:κ}(e:p.1=k):dU (p::r) k=some p.2:=by simp [dU,a1m,e]
theorem eK {p:κ×V}{r:List (κ×V)}{k:κ}(e:¬ p.1=k):dU (p::r) k=dU r k:=by simp [dU,a1m,e]
theorem ig (k:κ):∀ kvs:List (κ×V),(kvs.any fun kv=>decide (kv.1=k))=(dU kvs k).isSome
 | []=>rfl
 | p::r=>by
  rw [a2j]
  by_cases e:p.1=k
  ·simp only [d8 e,decide_eq_true e,a27,Option.isSome_some]
  ·rw [eK e,decide_eq_false e,a3v]; exact ig k r
theorem dR (kvs:List (κ×V))(k:κ)(v:V):(cN kvs k v).length<=kvs.length+1:=by
 unfold cN
 split
 ·rw [a0e]; omega
 ·rw [a0g,a0f,a2B]; omega
theorem RelO.isSome_eq {o:Option V}{u:Option Value}(r:RelO o u):o.isSome=u.isSome:=by
 cases o with
 | none=>cases u with
  | none=>rfl
  | some _=>exact (show False from r).elim
 | some _=>cases u with
  | none=>exact (show False from r).elim
  | some _=>rfl
theorem KV.val {kvs:List (κ×V)}{vs:List (κ×Value)}(r:KV kvs vs)(k:κ):RelO (dU kvs k) (valueAt vs k):=by
 unfold KV at r
 induction r with
 | nil=>exact a1x
 | @cons p q ps qs h t ih =>
  obtain ⟨h1,h2⟩:=h
  by_cases e:p.1=k
  ·have e':q.1=k:=h1.symm.trans e
   have b:valueAt (q::qs) k=some q.2:=by simp [valueAt,a1m,e']
   rw [d8 e,b]; exact h2
  ·have e':¬ q.1=k:=fun z=>e (h1.trans z)
   have b:valueAt (q::qs) k=valueAt qs k:=by simp [valueAt,a1m,e']
   rw [eK e,b]; exact ih
theorem KV.any {kvs:List (κ×V)}{vs:List (κ×Value)}(r:KV kvs vs)(k:κ):(kvs.any fun kv=>decide (kv.1=k))=vs.any fun kv=>decide (kv.1=k):=by
 unfold KV at r
 induction r with
 | nil=>rfl
 | cons h t ih=>rw [a2j,a2j,ih,h.1]
theorem KV.repl {kvs:List (κ×V)}{vs:List (κ×Value)}(r:KV kvs vs)(k:κ){y:V}{u:Value}(ry:RelV y u) :
  KV (kvs.map fun kv=>if kv.1=k then (kv.1,y) else kv) (vs.map fun kv=>if kv.1=k then (kv.1,u) else kv):=by
 unfold KV at r ⊢
 induction r with
 | nil=>exact .nil
 | @cons p q ps qs h t ih =>
  rw [a0x,a0x]
  refine .cons ?_ ih
  obtain ⟨h1,h2⟩:=h
  by_cases e:p.1=k
  ·rw [if_pos e,if_pos (h1.symm.trans e)]; exact ⟨h1,ry⟩
  ·rw [if_neg e,if_neg (fun z=>e (h1.trans z))]; exact ⟨h1,h2⟩
theorem KV.put {kvs:List (κ×V)}{vs:List (κ×Value)}(r:KV kvs vs)(k:κ){y:V}{u:Value}(ry:RelV y u):KV (cN kvs k y) (stored vs k u):=by
 unfold cN stored
 rw [r.any k]
 by_cases e:(vs.any fun kv=>decide (kv.1=k))=true
 ·rw [if_pos e,if_pos e]; exact r.repl k ry
 ·rw [if_neg e,if_neg e]; exact Paired.snoc r ⟨rfl,ry⟩
theorem KV.length {kvs:List (κ×V)}{vs:List (κ×Value)}(r:KV kvs vs):kvs.length=vs.length:=Paired.length r
end
theorem oH {P:Program}{w:World}{k:Key}{u:Value}(r:RelV (kV k) u):(aN P w).is k u=true:=by
 cases k with
 | inl i=>obtain ⟨t,e⟩:=(show ∃ t,u=Value.int i t from r); subst e; exact iK P w i t
 | inr x=>obtain ⟨t,e⟩:=(show ∃ t,u=Value.str x t from r); subst e; exact ic P w x t
theorem fW {P:Program}{w:World}:∀ {ks:List Key} {us:List Value},Vals (ks.map kV) us->ItemsAre (aN P w) ks us
 | [],_,r=>by rw [a1M] at r; cases r; exact .nil
 | k::ks,_,r=>by
  rw [a0x] at r
  cases r with
  | cons h t=>exact .cons (oH h) (fW t)
noncomputable abbrev KT (H:Hp):List (List Key×V)->List (List Key×Addr×Value)->Prop:=Paired fun p q=>p.1=q.1/\H q.2.1=some (.tup (p.1.map kV))/\RelV p.2 q.2.2
theorem KT.val {H:Hp}{kvs:List (List Key×V)}{xs:List (List Key×Addr×Value)}(r:KT H kvs xs)(k:List Key):RelO (dU kvs k) ((atKey xs k).map (·.2)):=by
 induction r with
 | nil=>exact a1x
 | @cons p q ps qs h t ih =>
  obtain ⟨h1,_,h2⟩:=h
  by_cases e:p.1=k
  ·have e':q.1=k:=h1.symm.trans e
   have b:atKey (q::qs) k=some q.2:=by simp [atKey,a1m,e']
   rw [d8 e,b]; exact h2
  ·have e':¬ q.1=k:=fun z=>e (h1.trans z)
   have b:atKey (q::qs) k=atKey qs k:=by simp [atKey,a1m,e']
   rw [eK e,b]; exact ih
theorem KT.repl {H:Hp}{kvs:List (List Key×V)}{xs:List (List Key×Addr×Value)}(r:KT H kvs xs)(k:List Key){y:V}{u:Value}(ry:RelV y u) :
  KT H (kvs.map fun kv=>if kv.1=k then (kv.1,y) else kv) (xs.map (putAt k u)):=by
 induction r with
 | nil=>exact .nil
 | @cons p q ps qs h t ih =>
  rw [a0x,a0x]
  refine .cons ?_ ih
  obtain ⟨h1,h2,h3⟩:=h
  unfold putAt
  by_cases e:p.1=k
  ·rw [if_pos e,if_pos (h1.symm.trans e)]; exact ⟨h1,h2,ry⟩
  ·rw [if_neg e,if_neg (fun z=>e (h1.trans z))]; exact ⟨h1,h2,h3⟩
theorem KT.put {H:Hp}{kvs:List (List Key×V)}{xs:List (List Key×Addr×Value)}(r:KT H kvs xs)(k:List Key){b:Addr}{y:V}{u:Value}(hb:H b=some (.tup (k.map kV)))(ry:RelV y u) :
  KT H (cN kvs k y) (storedH xs k b u):=by
 have e:(kvs.any fun kv=>decide (kv.1=k))=(atKey xs k).isSome:=by
  rw [ig,(r.val k).isSome_eq,Option.isSome_map]
 unfold cN storedH
 rw [e]
 by_cases q:(atKey xs k).isSome=true
 ·rw [if_pos q,if_pos q]; exact r.repl k ry
 ·rw [if_neg q,if_neg q]; exact Paired.snoc r ⟨rfl,hb,ry⟩
theorem KT.keeps {H H':Hp}{kvs:List (List Key×V)}{xs:List (List Key×Addr×Value)}(r:KT H kvs xs)(ht:∀ b ys,H b=some (.tup ys)->H' b=some (.tup ys)):KT H' kvs xs :=
 Paired.mapP r fun _ _ z=>⟨z.1,ht _ _ z.2.1,z.2.2⟩
section
variable {P:Program}{w:World}{H:Hp}{h:Heap}{a:Addr}
theorem vI {u:HO}(ok:HOk P w H h)(e:Rd H a u):ObjOk P w H h a u:=e.ok ok
theorem pB {kvs:List (Key×V)}(ok:HOk P w H h)(e:Rd H a (.dK kvs)):kvs.length<=sizeLine/\(a==sysModules)=false/\∃ vs,KV kvs vs/\h.DictOf (aN P w) a vs :=
 show ObjOk P w H h a (.dK kvs) from vI ok e
theorem Bd {kvs:List (Key×V)}(ok:HOk P w H h)(e:H a=some (.dK kvs)):kvs.length<=sizeLine/\(a==sysModules)=false/\∃ vs,KV kvs vs/\h.DictOf (aN P w) a vs:=pB ok (.inl e)
theorem jL {ks:List Key}(ok:HOk P w H h)(e:H a=some (.tup (ks.map kV))):(tupleKind (aN P w)).is h ks a:=by
 obtain ⟨_,its,r,o,h1,h2,n,h3⟩:=(show ObjOk P w H h a (.tup (ks.map kV)) from ok a _ e)
 exact ⟨o,its.toArray,n,h1,h2,h3,by simpa using fW r⟩
theorem pb {kvs:List (List Key×V)}(ok:HOk P w H h)(e:Rd H a (.dT kvs)):kvs.length<=sizeLine/\(a==sysModules)=false /\
  ∃ xs,KT H kvs xs/\h.DictOfH (tupleKind (aN P w)) a xs:=by
 obtain ⟨z,y,xs,r,o,es,ep,h1,h2,h3,h4,h5⟩:=(show ObjOk P w H h a (.dT kvs) from vI ok e)
 refine ⟨z,y,xs,r,o,es,ep,h1,h2,h3,h4,fun x hx=>?_,h5⟩
 have all:∀ {l:List (List Key×V)} {m:List (List Key×Addr×Value)},KT H l m->∀ x∈m,(tupleKind (aN P w)).is h x.1 x.2.1:=by
  intro l m q
  induction q with
  | nil=>intro x hx; exact nomatch hx
  | @cons p q ps qs hq t ih =>
   intro x hx
   rcases a0q.mp hx with e | hx
   ·subst e
    exact jL ok (by rw [<- hq.1]; exact hq.2.1)
   ·exact ih x hx
 exact all r x hx
theorem BN {kvs:List (List Key×V)}(ok:HOk P w H h)(e:H a=some (.dT kvs)):kvs.length<=sizeLine/\(a==sysModules)=false /\
  ∃ xs,KT H kvs xs/\h.DictOfH (tupleKind (aN P w)) a xs:=pb ok (.inl e)
end
noncomputable def DGet (H:Hp)(a:Addr)(y:V)(r:Option V):Prop :=
 (∃ kvs k,Rd H a (.dK kvs)/\y=kV k/\r=dU kvs k)\/∃ kvs k b,Rd H a (.dT kvs)/\y=.ref b/\H b=some (.tup (k.map kV))/\r=dU kvs k
noncomputable def AJ (H:Hp)(a:Addr)(y v:V)(H':Hp):Prop :=
 (∃ kvs k,H a=some (.dK kvs)/\y=kV k/\kvs.length < sizeLine/\H'=upd H a (.dK (cN kvs k v))) \/
 ∃ kvs k b,H a=some (.dT kvs)/\y=.ref b/\H b=some (.tup (k.map kV))/\kvs.length < sizeLine/\H'=upd H a (.dT (cN kvs k v))
theorem DGet.k {H:Hp}{a:Addr}{kvs:List (Key×V)}{k:Key}(e:H a=some (.dK kvs)):DGet H a (kV k) (dU kvs k):=.inl ⟨kvs,k,.inl e,rfl,rfl⟩
section
variable {X:Cx}{pins:List (Addr×Obj)}{σ:St}{H:Hp}{s:Shared}{a:Addr}{y v:V}{u r:Value}{o:Option V}{A:Around}{E:Value->Shared->Prop}
theorem Inv.big (I:Inv X pins σ H s):sysModules < s.heap.objs.size:=by
 have h:mainGlobals < s.heap.objs.size:=(I.mod.glob.keeps I.bk).lt
 exact a28 (by decide) h
theorem my {Q:Value->Shared->Prop}(hu:A.units+1 < cLine)(I:Inv X pins σ H s)(g:DGet H a y (some v))(ry:RelV y u)(h:∀ w' s',Inv X pins σ H s'->RelV v w'->Q w' s') :
  wpAny (model X.prog X.w) A (getItem (.ref a) u) Q E s:=by
 rcases g with ⟨kvs,k,e,ey,l⟩ | ⟨kvs,k,b,e,ey,eb,l⟩
 ·subst ey
  obtain ⟨z,hd,vs,rel,dd⟩:=pB I.hok e
  obtain ⟨w',hw,rw'⟩:=RelO.some_of (v:=v) (o:=valueAt vs k) (by rw [l]; exact rel.val k)
  exact wpAny_getItem_of (oH ry) dd.mapOf hw (h w' _ (I.tok _) rw')
 ·subst ey
  cases (show u=Value.ref b from ry)
  obtain ⟨z,hd,xs,rel,dd⟩:=pb I.hok e
  obtain ⟨w',hw,rw'⟩:=RelO.some_of (v:=v) (o:=(atKey xs k).map (·.2)) (by rw [l]; exact rel.val k)
  obtain ⟨p,hp,hp2⟩:=Option.map_eq_some_iff.mp hw
  refine wpAny_getItem_heap (tupleKind_room_in1 hu) (jL I.hok eb) dd hp ?_
  rw [hp2]
  exact h w' _ (I.tok _) rw'
theorem la {h':Heap}{t':Nat}{ob:HO}(I:Inv X pins σ H s)(mu:Mut (H a))(hs:Heap.SameBut a s.heap h')(he:∃ q,h'.get? a=some q)(new:ObjOk X.prog X.w (upd H a ob) h' a ob) :
  Inv X pins σ (upd H a ob) { s with heap:=h',toks:=t' } :=
 I.write (x:=a) (e:=a) mu (.inl rfl) (fun b q hb z=>(hs.2 b hb).trans z) he new
theorem yo {P:Program}{w:World}{H':Hp}{h':Heap}{kvs:List (Key×V)}{vs:List (Key×Value)}(z:kvs.length<=sizeLine)(hd:(a==sysModules)=false)(rel:KV kvs vs)(dd:h'.DictOf (aN P w) a vs) :
  ObjOk P w H' h' a (.dK kvs):=⟨z,hd,vs,rel,dd⟩
theorem l5 {H':Hp}{Q:Unit->Shared->Prop}(hu:A.units+1 < cLine)(I:Inv X pins σ H s)(g:AJ H a y v H')(ry:RelV y u)(rv:RelV v r)(h:∀ s',Inv X pins σ H' s'->Q () s') :
  wpAny (model X.prog X.w) A (setItem (.ref a) u r) Q E s:=by
 rcases g with ⟨kvs,k,e,ey,l,eH⟩ | ⟨kvs,k,b,e,ey,eb,l,eH⟩
 ·subst ey eH
  obtain ⟨z,hd,vs,rel,dd⟩:=Bd I.hok e
  have hz:vs.length<=sizeLine:=by rw [<- rel.length]; exact z
  have hl:(cN kvs k v).length<=sizeLine:=by have:=dR kvs k v; omega
  refine wpAny_setItem_pairs (hsz:=hz) (oH ry) dd fun h' dd' hs=>h _ ?_
  have he:∃ q,h'.get? a=some q:=let ⟨q,_,_,hq,_⟩:=dd'; ⟨q,hq⟩
  exact la I (by rw [e]; exact a1x) hs he (yo hl hd (rel.put k rv) dd')
 ·subst ey eH
  cases (show u=Value.ref b from ry)
  obtain ⟨z,hd,xs,rel,dd⟩:=BN I.hok e
  have hz:xs.length<=sizeLine:=by rw [<- Paired.length rel]; exact z
  have hl:(cN kvs k v).length<=sizeLine:=by have:=dR kvs k v; omega
  refine wpAny_setItem_heap (hsz:=hz) (tupleKind_room_in1 hu) (jL I.hok eb) dd fun h' dd' hs=>h _ ?_
  obtain ⟨q,es,ep,hq,h2,h3,h4,_,h5⟩:=dd'
  refine la I (by rw [e]; exact a1x) hs ⟨q,hq⟩ ⟨hl,hd,_,(rel.put k eb rv).keeps fun c ys ec=>?_,q,es,ep,hq,h2,h3,h4,h5⟩
  rw [ab (zB ec e (fun z=>nomatch z))]
  exact ec
end
noncomputable def y0 (i:Expr):Prop:=∀ ov iv,subscripted i false ov iv=operate [ov,iv] (getItem ov iv)
theorem sv {prog:Program}{w:World}{A:Around}{E:Value->Shared->Prop}{s:Shared}{env:Env}{value slice:Expr}{pos:Pos}{T id:String}{Q:Value->Shared->Prop}
  (hl:typeLookup (.type T) "__getitem__"=pure (some (.builtin id))) (hs:y0 slice)
  (h:wpAny (model prog w) A (eval value env) (fun o s₁=>wpAny (model prog w) A (eval slice env) (fun i s₂=>s₂.TypeIs o T/\wpAny (model prog w) A (getItem o i) Q E s₂) E s₁) E s) :
  wpAny (model prog w) A (eval (.Subscript value slice pos) env) Q E s:=by
 refine Subscript_ (wpAny_mono h (fun o s₁ h₁=>wpAny_mono h₁ (fun i s₂ h₂=>?_) fun _ _ x=>x) fun _ _ x=>x)
 obtain ⟨hT,h₂⟩:=h₂
 unfold subscriptTail
 refine wpAny_bind ?_
 rw [getitemInPython_of_ne hT.not_modules]
 refine wpAny_bind (wpAny_specialOf hT hl ?_)
 have fin:wpAny (model prog w) A (subscripted slice false o i) (fun r s₃=>wpAny (model prog w) A (letTemporaryGo value o r >>= fun _=>pure r) Q E s₃) E s₂:=by
  rw [hs o i]
  exact wpAny_operating (wpAny_mono h₂ (fun r s₃ h₃=>wpAny_bind (wpAny_letTemporaryGo (wpAny_pure h₃))) fun _ _ x=>x)
 first
  | exact wpAny_pure (wpAny_bind fin)
  | exact wpAny_bind (wpAny_pure (wpAny_bind fin))
  | exact wpAny_bind fin
theorem iD {X:Cx}{pins:List (Addr×Obj)}{σ:St}{H:Hp}{s:Shared}{a:Addr}{y:V}{o:Option V}(I:Inv X pins σ H s)(g:DGet H a y o):s.TypeIs (.ref a) "dict":=by
 rcases g with ⟨kvs,k,e,_,_⟩ | ⟨kvs,k,b,e,_,_,_⟩
 ·obtain ⟨_,_,vs,_,dd⟩:=pB I.hok e
  exact dd.typeIs
 ·obtain ⟨_,_,xs,_,dd⟩:=pb I.hok e
  exact dd.typeIs
noncomputable def Bp (td ty:TE):TE:=fun σ H Q=>td σ H fun x H1=>ty σ H1 fun y H2=>∃ a v,x=.ref a/\DGet H2 a y (some v)/\Q v H2
noncomputable def Bq (td ty tv:TE):TS:=fun D σ H=>tv σ H fun v H1=>td σ H1 fun x H2=>ty σ H2 fun y H3=>∃ a H4,x=.ref a/\AJ H3 a y v H4/\D.nx σ H4
section
variable {X:Cx}{o i e value:Expr}{pos pos' tpos:Pos}{td ty tv:TE}
theorem t9 (hu:X.A.units+1 < cLine)(ho:PE X o td)(hi:PE X i ty)(hs:y0 i):PE X (.Subscript o i pos) (Bp td ty):=by
 intro pins s σ H Q I h
 refine sv PySem.F.slot_dict_getitem.lookup hs (thn (ho pins s σ H _ I h) fun u s1 ⟨x,H1,I1,rx,q1⟩=>thn (hi pins s1 σ H1 _ I1 q1) fun iv s2 ⟨y,H2,I2,ry,a,v,ex,g,q2⟩=>?_)
 subst ex
 obtain rfl:u=Value.ref a:=rx
 exact ⟨iD I2 g,my hu I2 g ry fun w' s3 I3 rw'=>⟨v,H2,I3,rw',q2⟩⟩
theorem tf (hu:X.A.units+1 < cLine)(ho:PE X o td)(hi:PE X i ty)(hv:PE X value tv)(hs:swapsWith value (some (.Subscript o i pos')) pos.line X.env=pure false) :
  PS X (.Assign [.Subscript o i pos'] value pos) (Bq td ty tv):=by
 intro pins s σ H D I h
 refine wpAny_Assign_Subscript (thn (hv pins s σ H _ I h) fun r s1 ⟨v,H1,I1,rv,q1⟩=>thn (ho pins s1 σ H1 _ I1 q1) fun u s2 ⟨x,H2,I2,rx,q2⟩=>thn (hi pins s2 σ H2 _ I2 q2) fun iv s3 ⟨y,H3,I3,ry,a,H4,ex,g,q3⟩=>?_) hs
 subst ex
 obtain rfl:u=Value.ref a:=rx
 exact l5 hu I3 g ry rv fun s4 I4=>⟨σ,H4,I4,q3⟩
end
theorem oF {P:Program}{w:World}{H:Hp}(h:Heap)(hb:sysModules < h.objs.size):ObjOk P w H (h.push { cls:=.type "dict",data:=.dict #[] }) h.objs.size (.dK []) :=
 ⟨a0F _,beq_eq_false_iff_ne.mpr (a1u (a0I hb)),[],.nil,Heap.DictOf.new h⟩
noncomputable def pL:TE:=fun _ H Q=>∀ p,H p=none->Q (.ref p) (upd H p (.dK []))
section
variable {X:Cx}{pos:Pos}
theorem oY:PE X (.Dict [] [] pos) pL:=fun pins s σ H Q I h =>
 wpAny_Dict_empty ⟨.ref s.heap.objs.size,_,I.laid (a:=s.heap.objs.size) (o:=.dK []) (t':=s.toks) (fun _ _ q=>Heap.get?_push_of_some _ q) (a0h _) (oF s.heap I.big),rfl,h _ (I.hok.fresh (a0h _))⟩
end
end L2
namespace L2
open PySem PySem.Spec PyProof.Rows
end L2

set_option maxHeartbeats 4000000
namespace L3
open PySem PySem.Spec PyProof.Rows L2
noncomputable abbrev noX:Value->Shared->Prop:=fun _ _=>False
theorem gi {P:Program}{w:World}{H:Hp}{h:Heap}{a:Addr}{o:HO}(x:HOk P w H h)(hn:H a=none)(new:ObjOk P w (upd H a o) h a o):HOk P w (upd H a o) h:=by
 intro b u e
 by_cases hb:b=a
 ·subst hb
  rw [ag] at e
  cases e
  exact new
 ·rw [ab hb] at e
  refine (x b u e).stay (fun c v _ q=>q) (fun c q=>?_) (fun c xs q=>?_)
  ·rw [ab (aA q hn)]; exact q
  ·rw [ab (aA q hn)]; exact q
section
variable {prog:Program}{w:World}{A:Around}{R:Result->Shared->Prop}{s:Shared}
theorem jX {elt tg iter:Expr}{scope:Scope}{pos:Pos}{it acc:Value}{env:Env}(J:Nat->Shared->Prop)
  (turn:∀ n s,J n s->wpAny (model prog w) A (pyNext it) (fun r s₁=>match r with
   | none=>R (.ok .next) s₁
   | some v=>wpAny (model prog w) A (letOwnedTupleGo tg it v) (fun _ s₂=>wpAny (model prog w) A (assign tg env v) (fun _ s₃ =>
     wpAny (model prog w) A (eval elt env) (fun y s₄=>wpAny (model prog w) A (call (.builtin "list.append") [acc,y]) (fun _ s₅=>∃ m,m < n/\J m s₅) noX s₄) noX s₃) noX s₂) noX s₁) noX s)
  (n:Nat) (h:J n s):codeAny (model prog w) A (.compLoop (.ListComp elt [⟨tg,iter,[],0⟩] scope pos) 0 it acc env) R s:=by
 refine codeAny_loop rfl J (fun n s hJ=>?_) n h
 show wpAny _ A ((compTurn (.ListComp elt [⟨tg,iter,[],0⟩] scope pos) 0 it acc env).onRaise (fun x=>do noteFrame x env; theTreesLotGoes x)) _ _ s
 refine wpAny_noted ?_
 rw [compTurn_list]
 refine wpAny_bind (wpAny_standAt (wpAny_bind (wpAny_mono (turn n s hJ) (fun r s₁ h₁=>?_) fun _ _ z=>z.elim)))
 cases r with
 | none=>exact wpAny_pure h₁
 | some v =>
  refine wpAny_bind (wpAny_mono h₁ (fun _ s₂ h₂=>?_) fun _ _ z=>z.elim)
  refine wpAny_bind (wpAny_mono h₂ (fun _ s₃ h₃=>?_) fun _ _ z=>z.elim)
  refine wpAny_bind (wpAny_tests_nil ?_)
  exact wpAny_bind (wpAny_bind (wpAny_mono h₃ (fun y s₄ h₄=>wpAny_bind (wpAny_mono h₄ (fun _ s₅ h₅=>wpAny_pure (wpAny_pure ⟨rfl,h₅⟩)) fun _ _ z=>z.elim)) fun _ _ z=>z.elim))
end
noncomputable def af (X:Cx)(N:List Str)(scope:Scope)(cl:List (Str×Addr))(C:Addr)(s:Shared)(H:Hp)(fp:List Addr):Cx where
 prog:=X.prog
 w:=X.w
 K:=X.K
 mg:=X.mg
 base:=X.base
 A:=X.A
 N:=N
 s₀:=s
 H₀:=H
 env:=compEnvC scope cl C X.env
 outer:=X.stack
 stack:=X.stack
 ex:=fp
 fn:=fun _=>false
 calm:=X.calm
 pn:=X.pn
 xe:=noX
structure mQ (x:Str)(ys:List Str)(scope:Scope):Prop where
 kind:scope.kind=.function
 cell:∀ y∈scope.names,y.2≠.cell
 nm:∀ y∈scope.names,y.2=.local->scope.names.lookup y.1=some .local
 loc:scope.names.lookup x=some .local
 nd:(x::ys).Nodup
inductive Clo (X:Cx):List (Str×Addr)->Prop
 | nil:Clo X []
 | cons {y:Str} {c:Addr} {cl:List (Str×Addr)}:X.env.cells.lookup y=some c->Clo X cl->Clo X ((y,c)::cl)
theorem Clo.get {X:Cx}{cl:List (Str×Addr)}(h:Clo X cl):∀ {y:Str} {c:Addr},cl.lookup y=some c->X.env.cells.lookup y=some c:=by
 induction h with
 | nil=>intro y c e; cases e
 | @cons z d cl' hz _ ih =>
  intro y c e
  cases q:y==z with
  | true =>
   simp only [a2n,q] at e
   cases e
   rw [eq_of_beq q]; exact hz
  | false =>
   simp only [a2n,q] at e
   exact ih e
inductive Frees (X:Cx)(scope:Scope)(cl:List (Str×Addr)):List Str->List Nat->Prop
 | nil:Frees X scope cl [] []
 | cons {y:Str} {ys:List Str} {i:Nat} {is:List Nat} {c:Addr}:X.N[i]?=some y->Vis X.env.scope y->(X.env.kindOf y=some .cell\/X.env.kindOf y=some .free)->X.env.cells.lookup y=some c->cl.lookup y=some c ->
   ((relabel scope X.env).names.lookup y=some .cell\/(relabel scope X.env).names.lookup y=some .free)->Frees X scope cl ys is->Frees X scope cl (y::ys) (i::is)
theorem Frees.len {X:Cx}{scope:Scope}{cl:List (Str×Addr)}{ys:List Str}{is:List Nat}(F:Frees X scope cl ys is):is.length=ys.length:=by
 induction F with
 | nil=>rfl
 | cons _ _ _ _ _ _ _ ih=>rw [a0f,a0f,ih]
noncomputable def aZ (σ:L2.St)(is:List Nat):L2.St:=is.map fun i=>(σ[i]?).join
theorem Frees.get {X:Cx}{scope:Scope}{cl:List (Str×Addr)}{ys:List Str}{is:List Nat}{σ:L2.St}(F:Frees X scope cl ys is):∀ {j:Nat} {y:Str} {v:V},ys[j]?=some y->(aZ σ is)[j]?=some (some v) ->
  ∃ (i:Nat) (c:Addr),X.N[i]?=some y/\σ[i]?=some (some v)/\Vis X.env.scope y/\(X.env.kindOf y=some .cell\/X.env.kindOf y=some .free)/\X.env.cells.lookup y=some c/\cl.lookup y=some c /\
   ((relabel scope X.env).names.lookup y=some .cell\/(relabel scope X.env).names.lookup y=some .free):=by
 induction F with
 | nil=>intro j y v e; simp at e
 | @cons z zs i is c h1 h2 h3 h4 h5 h6 _ ih =>
  intro j y v e1 e2
  unfold aZ at e2
  rw [a0x] at e2
  cases j with
  | zero =>
   rw [a08] at e1 e2
   cases e1
   cases q:σ[i]? with
   | none=>rw [q] at e2; cases e2
   | some o =>
    rw [q] at e2
    have e3:o=some v:=a0v e2
    subst e3
    exact ⟨i,c,h1,q,h2,h3,h4,h5,h6⟩
  | succ j =>
   rw [a0C] at e1 e2
   exact ih e1 e2
theorem iN {X:Cx}{pins:List (Addr×Obj)}{σ:L2.St}{H:Hp}{s:Shared}{x:Str}{ys:List Str}{is:List Nat}{scope:Scope}{cl:List (Str×Addr)}{fp:List Addr}{C:Addr}{h1:Heap}{t1:Nat}{m1:Str->Option Value}
  (I:Inv X pins σ H s) (hf:∀ b∈fp,eL X pins H b) (hfo:∀ b∈fp,b < s.heap.objs.size) (S:mQ x ys scope) (hcl:Clo X cl)
  (hfr:(scope.names.all fun p=>p.2 != .free || (cl.lookup p.1).isSome)=true) (fr:Frees X scope cl ys is)
  (hC:s.heap.objs.size<=C) (old:∀ b o,s.heap.get? b=some o->h1.get? b=some o) (hn:h1.Ns C m1) :
  Inv (af X (x::ys) scope cl C s H fp) pins (none::aZ σ is) H { s with heap:=h1,toks:=t1 }:=by
 have stk:∀ b,b≠X.env.locals->b ∉ X.fs->b ∉ frs X.stack:=fun b q1 q2 hb=>(a0q.mp (I.stkSub b hb)).elim q1 q2
 have key:∀ a k,(relabel scope X.env).names.lookup a=some k->(k=.cell\/k=.free)->∃ c,cl.lookup a=some c:=fun a k e hk=>by
  have hm:=a00 e
  obtain ⟨⟨n,k0⟩,hp,ep⟩:=a0B.mp hm
  have hk0:k0=.free/\n=a:=by
   dsimp only at ep
   split at ep
   ·rename_i hc
    simp only [a0k] at hc
    exact ⟨eq_of_beq hc.1.1,(a2R ep).1⟩
   ·obtain ⟨e1,e2⟩:=a2R ep
    subst e2
    rcases hk with z | z
    ·exact absurd z (S.cell _ hp)
    ·exact ⟨z,e1⟩
  obtain ⟨z1,z2⟩:=hk0
  subst z1 z2
  have q:=a0A.mp hfr _ hp
  have q2:(cl.lookup n).isSome=true:=by simpa using q
  exact a1y.mp q2
 refine ⟨⟨I.ok.mod,S.kind,I.ok.glob,I.ok.blt,hC,fun a b c e1 e2=>I.ok.inj a b c (hcl.get e1) (hcl.get e2),fun a ha=>?_,fun a c e=>absurd e a0n,I.ok.hd,I.ok.frames,.inl rfl,
   fun b hb=>⟨a0I (a0o (hfo b hb) hC),fun a c e=>(hf b hb).2.2.2.2.1 a c (hcl.get e)⟩,I.bs,a0u I.ok.bsz I.sz,fun b o e hb=>?_,fun b hb=>stk b (hf b hb).2.1 (hf b hb).2.2.1,I.stack,I.stkFree⟩,
  rfl,I.bare,Un.kept old,⟨m1,hn,fun j y v e1 e2 e3=>?_⟩,fun a c e=>?_,I.hok.fresh hC,fun a c e=>I.freeC a c (hcl.get e),fun p hp=>?_,I.hok.kept old,?_⟩
 ·rcases ha with e | e
  ·exact key a _ e (.inl rfl)
  ·exact key a _ e (.inr rfl)
 ·rcases (hf b hb).2.2.2.1 with z | z
  ·exact I.ok.noex b o e z
  ·exact absurd (a0o (Heap.lt_size (I.ok.bs b o e).1) z) (a06 _)
 ·cases j with
  | zero =>
   have z:(none:Option V)=some v:=a0v e2
   cases z
  | succ j =>
   obtain ⟨i,c,g1,g2,g3,g4,g5,g6,g7⟩:=fr.get (σ:=σ) (show ys[j]?=some y from e1) (show (aZ σ is)[j]?=some (some v) from e2)
   obtain ⟨m0,hn0,hl0⟩:=I.loc
   obtain ⟨u,r,l⟩:=hl0 i y v g1 g2 g3
   rcases l with ⟨k,_⟩ | ⟨_,c',e',z⟩
   ·rcases g4 with q | q
    ·rw [k] at q; cases q
    ·rw [k] at q; cases q
   ·rw [g5] at e'
    cases e'
    obtain ⟨o,ho,hd⟩:=z
    exact ⟨u,r,.inr ⟨g7,c,g6,⟨o,old _ _ ho,hd⟩⟩⟩
 ·obtain ⟨v,o,ho,hd⟩:=I.cell a c (hcl.get e)
  exact ⟨v,o,old _ _ ho,hd⟩
 ·obtain ⟨e,n,ne,nf,d⟩:=I.pin p hp
  exact ⟨old _ _ e,n,a0I (a0o (Heap.lt_size e) hC),stk _ ne nf,d⟩
 ·show (none::aZ σ is).length=(x::ys).length
  unfold aZ
  rw [a0f,a0f,a0e,fr.len]
noncomputable abbrev gR (its:List Value):Obj:={ cls:=.type "list",data:=.seq its.toArray its.length }
inductive Th where
 | non | bl (b:Bool) | int (i:Int) | str (x:Str) | tup (ts:List Th) | lst (ts:List Th)
mutual
noncomputable def Has (K:a0a)(H:Hp):Th->V->Prop
 | .non,v=>v=.non
 | .bl b,v=>v=.bl b
 | .int i,v=>v=.int i
 | .str x,v=>v=.str x
 | .tup ts,v=>∃ a vs,v=.ref a/\SqT K H a vs/\HasL K H ts vs
 | .lst ts,v=>∃ a vs,v=.ref a/\H a=some (.lst vs)/\HasL K H ts vs
noncomputable def HasL (K:a0a)(H:Hp):List Th->List V->Prop
 | [],vs=>vs=[]
 | t::ts,vs=>∃ v r,vs=v::r/\Has K H t v/\HasL K H ts r
end
noncomputable def Th.ty:Th->String
 | .non=>"NoneType" | .bl _=>"bool" | .int _=>"int" | .str _=>"str" | .tup _=>"tuple" | .lst _=>"list"
noncomputable def isI (c:String)(t:Th):Bool:=t.ty==c || (t.ty=="bool"&&c=="int")
theorem kit_type {K:a0a}{A B:String}:a1k K (.type A) (.type B)=a1k [] (.type A) (.type B):=by
 unfold a1k PySem.W.kitCls PySem.W.subIn
 rfl
theorem wM:∀ c∈["tuple","str","bool","int","list"],∀ n∈["NoneType","bool","int","str","tuple","list"],a1k [] (.type n) (.type c)=some (n==c || (n=="bool"&&c=="int")):=by decide +kernel
theorem yS (t:Th):t.ty∈["NoneType","bool","int","str","tuple","list"]:=by cases t<;>simp [Th.ty]
theorem wx {c:String}(hc:c∈["tuple","str","bool","int","list"])(t:Th):a1k [] (.type t.ty) (.type c)=some (isI c t):=wM c hc t.ty (yS t)
theorem iH {H:Hp}{p:Addr}(h:H p=none)(o:HO):Same H (upd H p o):=fun b u q=>by rw [ab (aA q h)]; exact q
noncomputable def vk (K:a0a):R2:=fun x y H Q=>∃ a b xs ys,x=.ref a/\y=.ref b/\SqT K H a xs/\SqT K H b ys/\xs≠[]/\xs.length+ys.length<=sizeLine/\∀ v H',Same H H'->(∃ c,v=.ref c/\SqT K H' c (xs++ys))->Q v H'
theorem uU {X:Cx}:OpR X (binaryOp .Add) (vk X.K):=fun pins s σ H x y v u Q I rx ry h=>by
 obtain ⟨a,b,xs,ys,e1,e2,h1,h2,hx,hz,q⟩:=h
 exact uu pins s σ H x y v u Q I rx ry ⟨a,b,xs,ys,e1,e2,h1,h2,hx,hz,fun z=>q _ _ (Same.refl _) ⟨a,rfl,by rw [z,a0w]; exact h1⟩,fun _ p hp=>q _ _ (iH hp _) ⟨p,rfl,SqT.of ag⟩⟩
theorem Ad {X:Cx}{x:Str}{T:String}{pos:Pos}(hg:Gl X x)(hm:X.mg x=none)(hv:bootBuiltins x=some (.type T))(hn:x≠"__name__":=by decide)(hd:(x==("__debug__":Str))=false:=by decide):PE X (.Name x pos) (tC (.ty T)):=qX (v:=.ty T) hg hm hv rfl hn hd
theorem dS (ns:List Int):∀ k,k<=ns.length->preSum (fun i=>ns.getD i 0) k=(ns.take k).sum
 | 0,_=>rfl
 | k+1,h=>by
  have ih:=dS ns k (by omega)
  show preSum (fun i=>ns.getD i 0) k+ns.getD k 0=_
  rw [ih,List.take_succ,List.sum_append,a0b,a0i (show k < ns.length by omega)]
  simp
theorem mB {X:Cx}(hc:X.calm=true):cy X (.builtin "sum") (fun xs H Q=>∃ (a:Addr) (ns:List Int),xs=[.ref a]/\SqL X.K H a (ns.map V.int)/\Q (.int ns.sum) H):=by
 intro pins s σ H xs us Q I r h
 obtain ⟨a,ns,rfl,hS,q⟩:=h
 obtain ⟨u,rfl,ru⟩:=dJ r
 cases ru
 obtain ⟨its,rv,p,hz⟩:=I.list hS
 have hlen:its.toArray.size=ns.length:=by rw [a0j,<- rv.length,a0e]
 have hlt:a < s.heap.objs.size:=by obtain ⟨o,e,_⟩:=p.isList; exact Heap.lt_size e
 refine call_sum_walkG (wpAny_pyIter_list p.isList ?_)
 refine ⟨s.heap.objs.size,_,_,_,_,_,fun i=>ns.getD i 0,rfl,Walks.list (A:=X.A.in1) (show X.A.in1.handled=none from I.ok.hd hc) s.heap.objs.size a (a0I hlt) its.toArray,⟨⟨_,Heap.get?_push_size _ rfl,rfl,rfl⟩,p.isList.push _⟩,fun b hb=>?_,fun i v hv=>?_,fun h' tk t' k=>?_⟩
 ·show b < (s.heap.push _).objs.size
  rw [Heap.size_push]
  rcases a0q.mp hb with rfl | hb
  ·exact a2o _
  ·rw [a0E.mp hb]; exact Nat.lt_succ_of_lt hlt
 ·have hv':its[i]?=some v:=by simpa using hv
  have hi:i < its.length:=(a0z.mp hv').1
  have hib:i < ns.length:=by have:=rv.length; rw [a0e] at this; omega
  obtain ⟨w',e1,e2⟩:=rv.get (i:=i) (x:=.int ns[i]) (by rw [a0t,a0i hib]; rfl)
  rw [hv'] at e1
  cases e1
  obtain ⟨t,rfl⟩:=e2
  have e3:ns.getD i 0=ns[i]:=by rw [a0b,a0i hib]; rfl
  exact ⟨t,by show Value.int ns[i] t=Value.int (ns.getD i 0) t; rw [e3]⟩
 ·have e:preSum (fun i=>ns.getD i 0) its.toArray.size=ns.sum:=by
   rw [hlen,dS ns _ (a0h _),a3f]
  rw [e]
  exact ⟨.int ns.sum,H,I.kept (fun b o eo=>k b o (fun hm=>by
   have:b=s.heap.objs.size:=by simpa using hm
   exact absurd (this ▸ Heap.lt_size eo) (a06 _)) (Heap.get?_push_of_some _ eo)),⟨t',rfl⟩,q⟩
mutual
noncomputable def toD:Th->PyData
 | .non=>.none
 | .bl b=>.bool b
 | .int i=>.int i
 | .str x=>.str x
 | .tup ts=>.tuple (c5 ts)
 | .lst ts=>.list (c5 ts)
noncomputable def c5:List Th->List PyData
 | []=>[]
 | t::ts=>toD t::c5 ts
end
section
variable {X:Cx}{pins:List (Addr×Obj)}{σ:L2.St}{H:Hp}{s:Shared}
mutual
theorem Has.reads (I:Inv X pins σ H s):∀ {t:Th} {v:V} {u:Value},Has X.K H t v->RelV v u->∃ as,Reads s.heap u (toD t) as
 | .non,_,u,h,r=>by
  obtain rfl:_=V.non:=h
  obtain rfl:u=Value.none:=r
  exact ⟨_,.none⟩
 | .bl b,_,u,h,r=>by
  obtain rfl:_=V.bl b:=h
  obtain rfl:u=Value.bool b:=r
  exact ⟨_,.bool b⟩
 | .int i,_,u,h,r=>by
  obtain rfl:_=V.int i:=h
  obtain ⟨t,rfl⟩:∃ t,u=Value.int i t:=r
  exact ⟨_,.int i t⟩
 | .str x,_,u,h,r=>by
  obtain rfl:_=V.str x:=h
  obtain ⟨t,rfl⟩:∃ t,u=Value.str x t:=r
  exact ⟨_,.str x t⟩
 | .tup ts,_,u,⟨a,vs,e,hS,hL⟩,r=>by
  subst e
  obtain rfl:u=Value.ref a:=r
  obtain ⟨its,rv,⟨o,h1,h2,n,h3⟩,_⟩:=I.tuple hS
  obtain ⟨as,ra⟩:=HasL.reads I hL rv
  exact ⟨_,.tuple h1 h2 h3 (by simpa using ra)⟩
 | .lst ts,_,u,⟨a,vs,e,hS,hL⟩,r=>by
  subst e
  obtain rfl:u=Value.ref a:=r
  obtain ⟨its,rv,⟨o,n,h1,h2,_,h3⟩,_⟩:=I.list (SqL.of hS)
  obtain ⟨as,ra⟩:=HasL.reads I hL rv
  exact ⟨_,.list h1 h2 h3 (by simpa using ra)⟩
theorem HasL.reads (I:Inv X pins σ H s):∀ {ts:List Th} {vs:List V} {us:List Value},HasL X.K H ts vs->Vals vs us->∃ as,ReadsAll s.heap us (c5 ts) as
 | [],vs,us,h,r=>by
  obtain rfl:vs=[]:=h
  cases r
  exact ⟨_,.nil⟩
 | t::ts,vs,us,⟨v,w',e,h1,h2⟩,r=>by
  subst e
  cases r with
  | cons r1 r2 =>
   obtain ⟨as,ra⟩:=Has.reads I h1 r1
   obtain ⟨bs,rb⟩:=HasL.reads I h2 r2
   exact ⟨_,.cons ra rb⟩
end
end
noncomputable abbrev gA (t:Th):Prop:=SeqAt.shaped (toD t)=true
theorem ku {X:Cx}(hu:X.A.units+64 < cLine):OpR X (compareOp .Eq) (fun x y H Q=>∃ t t',Has X.K H t x/\Has X.K H t' y/\gA t/\gA t'/\Q (.bl (PyData.eqv (toD t) (toD t'))) H):=by
 intro pins s σ H x y v u Q I rx ry h
 obtain ⟨t,t',h1,h2,o1,o2,q⟩:=h
 obtain ⟨as,ra⟩:=Has.reads I h1 rx
 obtain ⟨bs,rb⟩:=Has.reads I h2 ry
 exact a3I ra rb o1 o2 hu ⟨.bl _,H,I,rfl,q⟩
theorem sA {X:Cx}(hu:X.A.units+64 < cLine):OpR X (compareOp .NotEq) (fun x y H Q=>∃ t t',Has X.K H t x/\Has X.K H t' y/\gA t/\gA t'/\Q (.bl (!PyData.eqv (toD t) (toD t'))) H):=by
 intro pins s σ H x y v u Q I rx ry h
 obtain ⟨t,t',h1,h2,o1,o2,q⟩:=h
 obtain ⟨as,ra⟩:=Has.reads I h1 rx
 obtain ⟨bs,rb⟩:=Has.reads I h2 ry
 exact a3J ra rb o1 o2 hu ⟨.bl _,H,I,rfl,q⟩
section
variable {prog:Program}{w:World}{A:Around}{E:Value->Shared->Prop}{s:Shared}
theorem dn {t sl:Addr}{items:Array Value}{vl vu:Value}{lo hi:Option Int}{Q:Value->Shared->Prop}(ht:IsTup s.heap t items)(hs:s.heap.IsSliceOf sl vl vu .none)(pl:IsPart vl lo)(pu:IsPart vu hi)
  (hw:HT.sIx items.size 0 lo=0/\HT.sIx items.size items.size hi=items.size) (h:Q (.ref t) s):wpAny (model prog w) A (getItem (.ref t) (.ref sl)) Q E s:=by
 obtain ⟨os,hos,hcs,hds⟩:=id hs
 have hTs:s.TypeIs (.ref sl) "slice":=⟨os,hos,hcs⟩
 unfold getItem
 try with_reducible refine wpAny_holding ?_
 first | refine wpAny_bind (wpAny_pure ?_) | skip
 refine wpAny_bind (wpAny_sequenceKey ht.typeIs (by decide) ?_)
 refine wpAny_bind (wpAny_callSpecial?_slot (name:=Str.ofString "__getitem__") ht.typeIs a0M
  (wpAny_call_entry a0M ht.typeIs entry_tuple_getitem ?_ (args_tuple_getitem _ _)))
 show wpAny _ _ (Builtin.Tuple.tupleItemsOf (.ref t) >>= _) _ _ s
 refine wpAny_bind (tupleItemsOf_ ht ?_)
 refine wpAny_bind (wpAny_typeOf hTs ?_)
 rw [if_pos (by decide)]
 refine wpAny_bind (HT.sliceApplied_gen hs pl pu ?_)
 have hyes:(((HT.sIx items.size 0 lo:Nat):Int)==0&&(1:Int)==1&&(HT.sIx items.size items.size hi-HT.sIx items.size 0 lo)==items.size)=true:=by
  rw [hw.1,hw.2]
  simp
 show wpAny _ _ (if (((HT.sIx items.size 0 lo:Nat):Int)==0&&(1:Int)==1&&(HT.sIx items.size items.size hi-HT.sIx items.size 0 lo)==items.size)=true then _ else _) _ _ s
 rw [if_pos hyes]
 unfold Builtin.Tuple.tupleIsExact
 refine wpAny_bind (wpAny_bind (wpAny_typeOf ht.typeIs (wpAny_pure ?_)))
 rw [if_pos (by decide)]
 first
  | exact wpAny_bind (wpAny_rule (wpAny_pure ⟨_,rfl,wpAny_pure h⟩))
  | exact wpAny_bind (wpAny_rule (wpAny_bind (wpAny_pure (wpAny_pure ⟨_,rfl,wpAny_pure h⟩))))
end
section
variable {X:Cx}
noncomputable def rn (K:a0a):V->Option Int->Option Int->Hp->VK->Prop:=fun x lo hi H Q=>∃ a xs,x=.ref a/\SqT K H a xs/\∀ v H',Same H H'->(∃ c,v=.ref c/\SqT K H' c (dj xs lo hi))->Q v H'
theorem kW:SlR X (rn X.K):=by
 intro pins s σ H x v vl vu lo hi sl Q I rx hs pl pu h
 obtain ⟨a,xs,rfl,hx,q⟩:=h
 by_cases hw:HT.sIx xs.length 0 lo=0/\HT.sIx xs.length xs.length hi=xs.length
 ·cases rx
  obtain ⟨its,r,ht,hz⟩:=I.tuple hx
  have hlen:its.toArray.size=xs.length:=by rw [a0j]; exact r.length.symm
  refine ⟨"tuple",_,a0M.lookup,ht.typeIs,?_⟩
  refine dn ht hs pl pu (by rw [hlen]; exact hw) ⟨.ref a,H,I,rfl,q _ _ (Same.refl H) ⟨a,rfl,?_⟩⟩
  have e:dj xs lo hi=xs:=by
   unfold dj
   rw [hw.1,hw.2]
   simp
  rw [e]
  exact hx
 ·exact xc pins s σ H _ v vl vu lo hi sl Q I rx hs pl pu ⟨a,xs,rfl,hx,hw,fun p hp=>q _ _ (iH hp _) ⟨p,rfl,SqT.of ag⟩⟩
end
noncomputable def Dk (K:a0a):R2:=fun x y H Q=>∃ p xs i v,x=.ref p/\y=.int i/\(SqL K H p xs\/SqT K H p xs)/\atI xs i=some v/\Q v H
theorem ix_any {X:Cx}:IxR X (Dk X.K):=fun value slice pins s σ H x y v u Q I rx ry h hs=>by
 obtain ⟨p,xs,i,z,e1,e2,hq,ha,q⟩:=h
 rcases hq with hq | hq
 ·exact uz value slice pins s σ H x y v u Q I rx ry ⟨p,xs,i,z,e1,e2,hq,ha,q⟩ hs
 ·exact yD value slice pins s σ H x y v u Q I rx ry ⟨p,xs,i,z,e1,e2,hq,ha,q⟩ hs
end L3

namespace L3
open PySem PySem.Spec PySem.Builtin PySem.Builtin.Str PyProof.Rows L2
end L3

namespace L3
open PySem PySem.Spec PyProof.Rows L2
noncomputable def ItO (h:Heap):Bool->Addr->Addr->Nat->Prop
 | true,it,a,n=>h.IsTupleIter it a n
 | false,it,a,n=>h.IsListIter it a n
end L3
namespace L3
open PySem PySem.Spec PyProof.Rows L2
section
variable {X:Cx}{pins:List (Addr×Obj)}{σ:L2.St}{H:Hp}{s:Shared}
theorem eA {h':Heap}{ch:List Addr}(I:Inv X pins σ H s)(hf:∀ b∈ch,H b=none)(k:∀ b o,b ∉ ch->s.heap.get? b=some o->h'.get? b=some o):HOk X.prog X.w H h':=fun b u e=>by
 have nit:∀ b u,H b=some u->b ∉ ch:=fun b u e z=>by rw [hf b z] at e; cases e
 refine (I.hok b u e).stay (fun c v hc q=>k c v ?_ q) (fun _ q=>q) fun _ _ q=>q
 rcases hc with z | z
 ·rw [z]; exact nit b u e
 ·exact nit c _ z
theorem jY {h':Heap}{t':Nat}{ch:List Addr}(I:Inv X pins σ H s)(hf:∀ b∈ch,eL X pins H b)(k:∀ b o,b ∉ ch->s.heap.get? b=some o->h'.get? b=some o):Inv X pins σ H { s with heap:=h',toks:=t' }:=by
 refine I.step (g':=s.gens) (d':=s.drawn) (ch:=ch) (fun b hb=>⟨(hf b hb).2.2.2.1,(hf b hb).2.1,(hf b hb).2.2.2.2.1,(hf b hb).2.2.2.2.2⟩) (fun b o _ _ hc e _=>k b o hc e) (fun b o _ _ hc e _=>⟨o.slots,k b o hc e⟩) (fun _ _ _ _ n=>n)
  (fun b o hc e=>⟨o,k b o hc e⟩) (fun _ _ e=>e) (fun _ _ _ e=>e) (fun b ps e=>⟨#[],by rw [e]; simp⟩) (fun m hm=>?_) (eA I (fun b hb=>(hf b hb).1) k) I.bare
 obtain ⟨o,es,ep,ho,r⟩:=hm
 exact ⟨o,es,ep,k _ o (fun z=>(hf _ z).2.1 rfl) ho,r⟩
theorem eF {h':Heap}{t':Nat}{ch:List Addr}{a:Addr}{ys:List V}{its:List Value}(I:Inv X pins σ H s)(hf:∀ b∈ch,eL X pins H b)(k:∀ b o,b ∉ ch->s.heap.get? b=some o->h'.get? b=some o)
  (ha:s.heap.objs.size<=a) (hz:ys.length<=sizeLine) (hv:Vals ys its) (ht:IsTup h' a its.toArray):Inv X pins σ (upd H a (.tup ys)) { s with heap:=h',toks:=t' }:=by
 have fr:H a=none:=I.hok.fresh ha
 have na:∀ b o,s.heap.get? b=some o->b≠a:=fun b o e=>a0I (a0o (Heap.lt_size e) ha)
 refine I.step (g':=s.gens) (d':=s.drawn) (ch:=ch) (fun b hb=>⟨(hf b hb).2.2.2.1,(hf b hb).2.1,(hf b hb).2.2.2.2.1,(hf b hb).2.2.2.2.2⟩) (fun b o _ _ hc e _=>k b o hc e) (fun b o _ _ hc e _=>⟨o.slots,k b o hc e⟩) (fun b o _ e n=>by rw [ab (na b o e)]; exact n)
  (fun b o hc e=>⟨o,k b o hc e⟩) (fun b u e=>by rw [ab (aA e fr)]; exact e) (fun b o u e=>by rw [ab (aA e fr)]; exact e) (fun b ps e=>⟨#[],by rw [ab (aA e fr),e]; simp⟩) (fun m hm=>?_)
  (gi (eA I (fun b hb=>(hf b hb).1) k) fr ⟨hz,its,hv,ht⟩) I.bare
 obtain ⟨o,es,ep,ho,r⟩:=hm
 exact ⟨o,es,ep,k _ o (fun z=>(hf _ z).2.1 rfl) ho,r⟩
end
structure aj (pre ys:List Str)(scope:Scope):Prop where
 kind:scope.kind=.function
 cell:∀ y∈scope.names,y.2≠.cell
 nm:∀ y∈scope.names,y.2=.local->scope.names.lookup y.1=some .local
 loc:∀ x∈pre,scope.names.lookup x=some .local
 nd:(pre++ys).Nodup
theorem oB {pre:List Str}{τ:L2.St}{j:Nat}{v:V}(e:(a0l pre.length none++τ)[j]?=some (some v)):∃ i,j=pre.length+i/\τ[i]?=some (some v):=by
 by_cases hj:j < pre.length
 ·rw [a0U (by rw [a0N]; exact hj),a07,if_pos hj] at e
  cases a0v e
 ·refine ⟨j-pre.length,by omega,?_⟩
  rw [a0G (by rw [a0N]; omega),a0N] at e
  exact e
theorem lY {X:Cx}{pins:List (Addr×Obj)}{σ:L2.St}{H:Hp}{s:Shared}{pre ys:List Str}{is:List Nat}{scope:Scope}{cl:List (Str×Addr)}{fp:List Addr}{C:Addr}{h1:Heap}{t1:Nat}{m1:Str->Option Value}
  (I:Inv X pins σ H s) (hf:∀ b∈fp,eL X pins H b) (hfo:∀ b∈fp,b < s.heap.objs.size) (S:aj pre ys scope) (hcl:Clo X cl)
  (hfr:(scope.names.all fun p=>p.2 != .free || (cl.lookup p.1).isSome)=true) (fr:Frees X scope cl ys is)
  (hC:s.heap.objs.size<=C) (old:∀ b o,s.heap.get? b=some o->h1.get? b=some o) (hn:h1.Ns C m1) :
  Inv (af X (pre++ys) scope cl C s H fp) pins (a0l pre.length none++aZ σ is) H { s with heap:=h1,toks:=t1 }:=by
 have stk:∀ b,b≠X.env.locals->b ∉ X.fs->b ∉ frs X.stack:=fun b q1 q2 hb=>(a0q.mp (I.stkSub b hb)).elim q1 q2
 have key:∀ a k,(relabel scope X.env).names.lookup a=some k->(k=.cell\/k=.free)->∃ c,cl.lookup a=some c:=fun a k e hk=>by
  have hm:=a00 e
  obtain ⟨⟨n,k0⟩,hp,ep⟩:=a0B.mp hm
  have hk0:k0=.free/\n=a:=by
   dsimp only at ep
   split at ep
   ·rename_i hc
    simp only [a0k] at hc
    exact ⟨eq_of_beq hc.1.1,(a2R ep).1⟩
   ·obtain ⟨e1,e2⟩:=a2R ep
    subst e2
    rcases hk with z | z
    ·exact absurd z (S.cell _ hp)
    ·exact ⟨z,e1⟩
  obtain ⟨z1,z2⟩:=hk0
  subst z1 z2
  have q:=a0A.mp hfr _ hp
  have q2:(cl.lookup n).isSome=true:=by simpa using q
  exact a1y.mp q2
 refine ⟨⟨I.ok.mod,S.kind,I.ok.glob,I.ok.blt,hC,fun a b c e1 e2=>I.ok.inj a b c (hcl.get e1) (hcl.get e2),fun a ha=>?_,fun a c e=>absurd e a0n,I.ok.hd,I.ok.frames,.inl rfl,
   fun b hb=>⟨a0I (a0o (hfo b hb) hC),fun a c e=>(hf b hb).2.2.2.2.1 a c (hcl.get e)⟩,I.bs,a0u I.ok.bsz I.sz,fun b o e hb=>?_,fun b hb=>stk b (hf b hb).2.1 (hf b hb).2.2.1,I.stack,I.stkFree⟩,
  rfl,I.bare,Un.kept old,⟨m1,hn,fun j y v e1 e2 e3=>?_⟩,fun a c e=>?_,I.hok.fresh hC,fun a c e=>I.freeC a c (hcl.get e),fun p hp=>?_,I.hok.kept old,?_⟩
 ·rcases ha with e | e
  ·exact key a _ e (.inl rfl)
  ·exact key a _ e (.inr rfl)
 ·rcases (hf b hb).2.2.2.1 with z | z
  ·exact I.ok.noex b o e z
  ·exact absurd (a0o (Heap.lt_size (I.ok.bs b o e).1) z) (a06 _)
 ·obtain ⟨k,rfl,e2'⟩:=oB e2
  have e1':ys[k]?=some y:=by
   have e1'':(pre++ys)[pre.length+k]?=some y:=e1
   rw [a0G (by omega),Nat.add_sub_cancel_left] at e1''
   exact e1''
  obtain ⟨i,c,g1,g2,g3,g4,g5,g6,g7⟩:=fr.get (σ:=σ) e1' e2'
  obtain ⟨m0,hn0,hl0⟩:=I.loc
  obtain ⟨u,r,l⟩:=hl0 i y v g1 g2 g3
  rcases l with ⟨k,_⟩ | ⟨_,c',e',z⟩
  ·rcases g4 with q | q
   ·rw [k] at q; cases q
   ·rw [k] at q; cases q
  ·rw [g5] at e'
   cases e'
   obtain ⟨o,ho,hd⟩:=z
   exact ⟨u,r,.inr ⟨g7,c,g6,⟨o,old _ _ ho,hd⟩⟩⟩
 ·obtain ⟨v,o,ho,hd⟩:=I.cell a c (hcl.get e)
  exact ⟨v,o,old _ _ ho,hd⟩
 ·obtain ⟨e,n,ne,nf,d⟩:=I.pin p hp
  exact ⟨old _ _ e,n,a0I (a0o (Heap.lt_size e) hC),stk _ ne nf,d⟩
 ·show (a0l pre.length none++aZ σ is).length=(pre++ys).length
  unfold aZ
  rw [a0g,a0g,a0N,a0e,fr.len]
end L3
namespace L3
open PySem PySem.Spec PyProof.Rows L2
end L3
namespace L3
open PySem PySem.Spec PyProof.Rows L2
end L3
namespace L3
open PySem PySem.Spec PyProof.Rows L2
section
variable {X:Cx}
theorem j3 {lo:Int}{acc:Array Value}{n:Nat}(h:ItemsOf (fun (i:Nat) (v:Value)=>∃ t,v=Value.int (lo+(i:Int) * 1) t) acc n):Vals ((a0p n).map fun (k:Nat)=>V.int (lo+(k:Int))) acc.toList:=by
 have key:∀ (l:List Value) (m:Nat),l.length+m=n->(∀ j v,l[j]?=some v->∃ t,v=Value.int (lo+((m+j:Nat):Int)) t)->Vals ((List.range' m l.length).map fun (k:Nat)=>V.int (lo+(k:Int))) l:=by
  intro l
  induction l with
  | nil=>intro m _ _; exact .nil
  | cons v l ih =>
   intro m hm hv
   obtain ⟨t,e⟩:=hv 0 v rfl
   rw [a0f,List.range'_succ,a0x]
   refine .cons ⟨t,by rw [e]; rfl⟩ (ih (m+1) (by rw [a0f] at hm; omega) fun j v' hj=>?_)
   obtain ⟨t',e'⟩:=hv (j+1) v' hj
   exact ⟨t',by rw [e',show m+(j+1)=m+1+j by omega]⟩
 have hl:acc.toList.length=n:=by rw [a1h]; exact h.1
 have:=key acc.toList 0 (by omega) fun j v hj=>by
  obtain ⟨t,e⟩:=h.2 j v (by simpa using hj)
  exact ⟨t,by rw [e,Int.mul_one,a2C]⟩
 rw [hl] at this
 rw [List.range_eq_range']
 exact this
theorem jB (hc:X.calm=true):cy X (.type "list") (fun xs H Q=>∃ p i j,xs=[.ref p]/\H p=some (.rng i j)/\(-(2 ^ 62)<=i/\i < 2 ^ 62/\-(2 ^ 62)<=j/\j < 2 ^ 62)/\(j-i).toNat<=sizeLine/\∀ l,H l=none->Q (.ref l) (upd H l (.lst ((a0p (j-i).toNat).map fun (k:Nat)=>V.int (i+(k:Int)))))):=by
 intro pins s σ H xs us Q I r h
 obtain ⟨p,i,j,rfl,hp,⟨b1,b2,b3,b4⟩,hz,q⟩:=h
 obtain ⟨u,rfl,ru⟩:=dJ r
 cases ru
 obtain ⟨t,u,v,e⟩:=I.hok p _ hp
 refine call_list_range (I.ok.hd hc) e (small_one b1 b2 b3 b4) (n:=(j-i).toNat) (by rw [rangeSize_one]; split<;>omega) (a0u hz (by decide)) fun h' tk acc' c' hk hS' hacc=>?_
 have hv:=j3 hacc
 refine ⟨.ref s.heap.objs.size,upd H s.heap.objs.size (.lst ((a0p (j-i).toNat).map fun (k:Nat)=>V.int (i+(k:Int)))),I.laid (t':=tk) hk (a0h _) ⟨?_,acc'.toList,c',hv,by rw [hS',a2K]⟩,rfl,q _ I.fresh⟩
 rw [a0e,a0K]
 exact hz
end
end L3
namespace L3
open PySem PySem.Spec PyProof.Rows L2
noncomputable def Ite (K:a0a)(a:Addr):It :=
 ⟨fun i H=>∃ xs x,SqL K H a xs/\xs[i]?=some x,
  fun i H v H'=>∃ p x,v=.ref p/\H p=none/\H'=upd H p (.tup [.int (i:Int),x])/\∀ xs,SqL K H a xs->xs[i]?=some x,
  fun i H=>∃ xs,SqL K H a xs/\xs.length<=i⟩
theorem l6 {P:Program}{w:World}{K:a0a}{es:List Expr}{kt:Nat}{pt:Pos}{e it a:Addr}(hne:e≠it):lV P w K (.Tuple es kt pt) (Ite K a) [e,it] e (fun i h=>(∃ old,IsEnum h e it (i:Int) old)/\h.IsListIter it a i) where
 mem:=by simp
 obj:=fun i h st b hb=>by
  obtain ⟨⟨old,q1⟩,q2⟩:=st
  simp only [a0q,a1P,or_false] at hb
  rcases hb with rfl | rfl
  ·exact ⟨_,q1,fun v y=>by cases y⟩
  ·obtain ⟨o,e',_,d⟩:=q2
   exact ⟨o,e',fun v y=>by rw [d] at y; cases y⟩
 keep:=fun i h h' st k=>by
  obtain ⟨⟨old,q1⟩,q2⟩:=st
  exact ⟨⟨old,k e (by simp) _ q1⟩,q2.at fun o z=>k it (by simp) o z⟩
 item:=by
  intro X hP hw hK hc i pins s σ H E I hf st hg
  subst hP hw hK
  obtain ⟨xs,x,s1,hx⟩:=hg
  obtain ⟨⟨old,q1⟩,q2⟩:=st
  obtain ⟨its,v1,o1,z1⟩:=I.list s1
  obtain ⟨u1,e1,r1⟩:=v1.get hx
  have lt:∀ b∈[e,it],b < s.heap.objs.size:=fun b hb=>by
   simp only [a0q,a1P,or_false] at hb
   rcases hb with rfl | rfl
   ·exact Heap.lt_size q1
   ·obtain ⟨o,e',_⟩:=q2; exact Heap.lt_size e'
  refine wpAny_pyNext_enum_item q1 q2 o1.isList (x:=u1) (by simpa using e1) hne fun h' y1 y2 y3 y4 y5=>⟨_,rfl,?_⟩
  refine wpAny_letOwnedTupleGo_enum (s:={ s with heap:=h',toks:=s.toks+1 }) y1 fun h2 w1 sb=>?_
  have sb':Heap.SameBut e h' h2:=sb
  have nz:s.heap.objs.size≠e:=a1L (lt e (by simp))
  have kk:∀ b o,b ∉ [e,it]->s.heap.get? b=some o->h2.get? b=some o:=fun b o hb z=>by
   simp only [a0q,a1P,or_false,not_or] at hb
   exact (sb'.2 b hb.1).trans (y5 b o hb.1 hb.2 z)
  have tp:IsTup h2 s.heap.objs.size [.int (i:Int) s.toks,u1].toArray:=⟨_,(sb'.2 _ nz).trans y3,rfl,_,rfl⟩
  refine ⟨.ref s.heap.objs.size,upd H s.heap.objs.size (.tup [.int (i:Int),x]),eF (s:=s) (t':=s.toks+1) I hf kk (a0h _) (by show 2<=sizeLine; decide) (.cons ⟨_,rfl⟩ (.cons r1 .nil)) tp,rfl,
   ⟨_,x,rfl,I.fresh,rfl,fun zs hz=>by rw [I.list_inj hz s1]; exact hx⟩,?_,fun b hb=>?_⟩
  ·exact ⟨⟨_,w1⟩,y2.at fun o z=>(sb'.2 _ (a1u hne)).trans z⟩
  ·rw [ab (a0I (lt b hb))]; exact (hf b hb).1
 done:=by
  intro X hP hw hK hc i pins s σ H E I hf st hg
  subst hP hw hK
  obtain ⟨xs,s1,hl⟩:=hg
  obtain ⟨⟨old,q1⟩,q2⟩:=st
  obtain ⟨its,v1,o1,z1⟩:=I.list s1
  have l1:=v1.length
  refine wpAny_pyNext_enum_end (I.ok.hd hc) q1 q2 o1.isList (by simp; omega) fun h' eb=>⟨rfl,jY (t':=s.toks) I hf fun b o hb z=>eb b o (fun y=>hb (by simp [y])) z⟩
 self:=fun _ _ _ _ _ st h=>by
  obtain ⟨⟨old,q1⟩,_⟩:=st
  exact wpAny_pyIter_enum q1 h
section
variable {X:Cx}
noncomputable def vF (K:a0a)(ta:TA):TI:=fun σ H R=>ta σ H fun vs H1=>∃ a,vs=[.ref a]/\(∃ xs,SqL K H1 a xs)/\R (Ite K a) H1
theorem tS {a:Expr}{ta:TA}{p pos pt:Pos}{es:List Expr}{kt:Nat}(hg:Gl X "enumerate")(hm:X.mg "enumerate"=none)(ha:PA X [a] ta)(hs:starEach [a] X.env=[(false,eval a X.env)]:=by rfl) :
  PI X (.Tuple es kt pt) (.Call (.Name "enumerate" p) [a] [] pos) (vF X.K ta):=by
 intro pins s σ H R I h
 refine Call_ (dz I hg hm boot_enumerate (a09 (thn (ha pos pins s σ H _ I h) fun us s1 ⟨vs,H1,I1,r1,q1⟩=>?_) hs rfl))
 obtain ⟨a,rfl,⟨xs,s1'⟩,q⟩:=q1
 cases r1 with
 | cons r rr =>
  cases rr
  cases r
  obtain ⟨its,v1,o1,z1⟩:=I1.list s1'
  refine call_enumerate_list o1.isList fun h' q1 q2 _ kk=>?_
  refine wpAny_pyIter_enum (s:={ s1 with heap:=h' }) q1 ?_
  refine ⟨_,_,_,_,H1,rfl,I1.kept (t':=s1.toks) kk,l6 (Nat.succ_ne_self _),⟨⟨_,q1⟩,q2⟩,fun b hb=>?_,q⟩
  have hle:s1.heap.objs.size<=b:=by
   simp only [a0q,a1P,or_false] at hb
   rcases hb with e | e<;>(rw [e]; first | exact Nat.le_add_right _ _ | exact a0h _)
  exact I1.fpOk hle (I1.hok.fresh hle)
end
end L3
namespace L3
open PySem PySem.Spec PyProof.Rows L2
section
variable {prog:Program}{w:World}{A:Around}{R:Result->Shared->Prop}{s:Shared}
theorem iQ {elt tg iter cnd:Expr}{scope:Scope}{pos:Pos}{it acc:Value}{env:Env}(J:Nat->Shared->Prop)
  (turn:∀ n s,J n s->wpAny (model prog w) A (pyNext it) (fun r s₁=>match r with
   | none=>R (.ok .next) s₁
   | some v=>wpAny (model prog w) A (letOwnedTupleGo tg it v) (fun _ s₂=>wpAny (model prog w) A (assign tg env v) (fun _ s₃=>wpAny (model prog w) A (isTrue cnd env (eval cnd env)) (fun ok s₄=>if ok=true then
     wpAny (model prog w) A (eval elt env) (fun y s₅=>wpAny (model prog w) A (call (.builtin "list.append") [acc,y]) (fun _ s₆=>∃ m,m < n/\J m s₆) noX s₅) noX s₄ else ∃ m,m < n/\J m s₄) noX s₃) noX s₂) noX s₁) noX s)
  (n:Nat) (h:J n s):codeAny (model prog w) A (.compLoop (.ListComp elt [⟨tg,iter,[cnd],0⟩] scope pos) 0 it acc env) R s:=by
 refine codeAny_loop rfl J (fun n s hJ=>?_) n h
 show wpAny _ A ((compTurn (.ListComp elt [⟨tg,iter,[cnd],0⟩] scope pos) 0 it acc env).onRaise (fun x=>do noteFrame x env; theTreesLotGoes x)) _ _ s
 refine wpAny_noted ?_
 rw [compTurn_list]
 refine wpAny_bind (wpAny_standAt (wpAny_bind (wpAny_mono (turn n s hJ) (fun r s₁ h₁=>?_) fun _ _ z=>z.elim)))
 cases r with
 | none=>exact wpAny_pure h₁
 | some v =>
  refine wpAny_bind (wpAny_mono h₁ (fun _ s₂ h₂=>?_) fun _ _ z=>z.elim)
  refine wpAny_bind (wpAny_mono h₂ (fun _ s₃ h₃=>?_) fun _ _ z=>z.elim)
  refine wpAny_bind (wpAny_tests_one (wpAny_mono h₃ (fun ok s₄ h₄=>?_) fun _ _ z=>z.elim))
  cases ok with
  | true=>exact wpAny_bind (wpAny_bind (wpAny_mono h₄ (fun y s₅ h₅=>wpAny_bind (wpAny_mono h₅ (fun _ s₆ h₆=>wpAny_pure (wpAny_pure ⟨rfl,h₆⟩)) fun _ _ z=>z.elim)) fun _ _ z=>z.elim))
  | false=>exact wpAny_bind (wpAny_pure (wpAny_pure ⟨rfl,h₄⟩))
end
end L3

namespace L3
open PySem PySem.Spec PyProof.Rows L2
noncomputable def tF (n:Nat)(J:It)(g:TG)(tc:TT)(te:TE)(σ':L2.St)(H1:Hp)(Q:VK):Prop:=∃ W:Nat->Nat->List V->Hp->Prop,(∃ m,W 0 m [] H1)/\∀ i m ys H,W i m ys H ->
 (J.stop i H/\ys.length<=sizeLine/\∀ p,H p=none->Q (.ref p) (upd H p (.lst ys))) \/
 (J.go i H/\ys.length < sizeLine/\∀ x H',J.yld i H x H'->g x (a0l n none++σ') H' fun σ2 H2=>(σ2.length=n+σ'.length/\σ2.drop n=σ')/\tc σ2 H2 fun ok H3=>if ok=true then te σ2 H3 fun y H4=>∃ m',m' < m/\W (i+1) m' (ys++[y]) H4 else ∃ m',m' < m/\W (i+1) m' ys H3)
noncomputable def sJ (n:Nat)(J:It)(g:TG)(te:TE)(σ':L2.St)(H1:Hp)(Q:VK):Prop:=∃ W:Nat->Nat->List V->Hp->Prop,(∃ m,W 0 m [] H1)/\∀ i m ys H,W i m ys H ->
 (J.stop i H/\ys.length<=sizeLine/\∀ p,H p=none->Q (.ref p) (upd H p (.lst ys))) \/
 (J.go i H/\ys.length < sizeLine/\∀ x H',J.yld i H x H'->g x (a0l n none++σ') H' fun σ2 H2=>(σ2.length=n+σ'.length/\σ2.drop n=σ')/\te σ2 H2 fun y H4=>∃ m',m' < m/\W (i+1) m' (ys++[y]) H4)
noncomputable def cq (n:Nat)(wi:TI)(is:List Nat)(g:TG)(tc:TT)(te:TE):TE:=fun σ H Q=>wi σ H fun J H1=>tF n J g tc te (aZ σ is) H1 Q
noncomputable def hW (n:Nat)(wi:TI)(is:List Nat)(g:TG)(te:TE):TE:=fun σ H Q=>wi σ H fun J H1=>sJ n J g te (aZ σ is) H1 Q
theorem qR {n:Nat}{σ2 σ':L2.St}(h:σ2.drop n=σ'){j:Nat}{w:V}(e:(a0l n none++σ')[j]?=some (some w)):σ2[j]?=some (some w):=by
 by_cases hj:j < n
 ·rw [a0U (by simpa using hj),a07,if_pos hj] at e
  cases a0v e
 ·rw [a0G (by simpa using hj),a0N,<- h,a10,Nat.add_sub_cancel' (by omega)] at e
  exact e
noncomputable def CW (X:Cx)(cs:List Expr)(k:Bool->Shared->Prop)(s:Shared):Prop:=match cs with
 | []=>k true s
 | [c]=>wpAny (model X.prog X.w) X.A (isTrue c X.env (eval c X.env)) k noX s
 | _=>False
noncomputable def PC (X:Cx)(cs:List Expr)(tc:TT):Prop:=∀ (pins:List (Addr×Obj)) (s:Shared) (σ:L2.St) (H:Hp) (Q:Bool->Hp->Prop),Inv X pins σ H s->tc σ H Q->CW X cs (fun ok s'=>∃ H',Inv X pins σ H' s'/\Q ok H') s
theorem CW.mono {X:Cx}{cs:List Expr}{k k':Bool->Shared->Prop}{s:Shared}(h:CW X cs k s)(w:∀ b s,k b s->k' b s):CW X cs k' s:=by
 match cs,h with
 | [],h=>exact w _ _ h
 | [c],h=>exact wpAny_mono h w fun _ _ z=>z
theorem jh {X:Cx}{elt tg iter:Expr}{cs:List Expr}{scope:Scope}{pos:Pos}{it acc:Value}{R:Result->Shared->Prop}{s:Shared}(J:Nat->Shared->Prop)
  (turn:∀ n s,J n s->wpAny (model X.prog X.w) X.A (pyNext it) (fun r s₁=>match r with
   | none=>R (.ok .next) s₁
   | some v=>wpAny (model X.prog X.w) X.A (letOwnedTupleGo tg it v) (fun _ s₂=>wpAny (model X.prog X.w) X.A (assign tg X.env v) (fun _ s₃=>CW X cs (fun ok s₄=>if ok=true then
     wpAny (model X.prog X.w) X.A (eval elt X.env) (fun y s₅=>wpAny (model X.prog X.w) X.A (call (.builtin "list.append") [acc,y]) (fun _ s₆=>∃ m,m < n/\J m s₆) noX s₅) noX s₄ else ∃ m,m < n/\J m s₄) s₃) noX s₂) noX s₁) noX s)
  (n:Nat) (h:J n s) (hcs:cs.length<=1):codeAny (model X.prog X.w) X.A (.compLoop (.ListComp elt [⟨tg,iter,cs,0⟩] scope pos) 0 it acc X.env) R s:=by
 match cs,hcs with
 | [],_=>exact jX J turn n h
 | [c],_=>exact iQ J turn n h
theorem iC {X:Cx}{elt iter tg:Expr}{cs:List Expr}{pre:List Str}{pos:Pos}{scope:Scope}{cl:List (Str×Addr)}{ys:List Str}{is:List Nat}{wi:TI}{g:TG}{te:TE}{tc:TT}{use:Option (Value->Sem Unit)}{Q:VK}{Qp:Value->Shared->Prop}{pins:List (Addr×Obj)}{s:Shared}{σ:L2.St}{H:Hp}{ip:Pos}
  (hc:X.calm=true) (hi:PI X tg iter wi) (hg:∀ C s H fp,PG (af X (pre++ys) scope cl C s H fp) tg g) (he:∀ C s H fp,PE (af X (pre++ys) scope cl C s H fp) elt te) (hcd:∀ C s H fp,PC (af X (pre++ys) scope cl C s H fp) cs tc) (hcs:cs.length<=1)
  (hclos:closureFor scope X.env=pure cl) (S:aj pre ys scope) (hcl:Clo X cl) (hfr:(scope.names.all fun p=>p.2 != .free || (cl.lookup p.1).isSome)=true) (fr:Frees X scope cl ys is) (hs:∀ v,foldedSetIterable iter X.env v=pure v)
  (fin:∀ (s4:Shared) (Hn:Hp) (D L:Addr) (m4:Str->Option Value),Inv X pins σ Hn s4->s4.heap.Ns L m4->L≠X.env.locals->(∀ a c,X.env.cells.lookup a=some c->c≠L)->Hn L=none->X.s₀.heap.objs.size<=L->(∀ p∈X.pn++pins,p.1≠L)->Q (.ref D) Hn->compPost (model X.prog X.w) X.A X.xe use Qp (.ref D) L (.ok .next) s4)
  (I:Inv X pins σ H s) (h:cq pre.length wi is g tc te σ H Q) :
  wpAny (model X.prog X.w) X.A (comprehension (.ListComp elt [⟨tg,iter,cs,0⟩] scope pos) scope X.env ip (newList []) false (eval iter X.env) use) Qp X.xe s:=by
 refine wpAny_comprehension_free (use:=use) rfl hs hclos S.kind S.nm (thn (hi pins s σ H _ I h) fun xv s1 h1=>thn h1 fun itv s2 h2=>?_)
 obtain ⟨it,fp,tn,J,H2,rfl,I2,T,st2,f2,W,⟨m0,w0⟩,turn⟩:=h2
 have fpo:∀ b∈fp,b < s2.heap.objs.size:=fun b hb=>by
  obtain ⟨o,e,_⟩:=T.obj _ _ st2 b hb
  exact Heap.lt_size e
 refine wpAny_newObj_type (wpAny_newFunctionEnv S.cell (fun y hy=>by cases hy) (fun g' hns hsb=>?_) S.kind)
 dsimp only at hns hsb ⊢
 generalize hP2:s2.heap.push { cls:=.type "list",dict:=none,data:=.seq ([]:List Value).toArray }=P2 at hns hsb ⊢
 have hCs:P2.objs.size=s2.heap.objs.size+1:=by rw [<- hP2,Heap.size_push]
 have hDC:s2.heap.objs.size≠P2.objs.size:=by omega
 have hle:s2.heap.objs.size<=P2.objs.size:=by omega
 have nc:∀ b o,s2.heap.get? b=some o->b≠P2.objs.size:=fun b o e=>a0I (a0o (Heap.lt_size e) hle)
 have nd:∀ b o,s2.heap.get? b=some o->b≠s2.heap.objs.size:=fun b o e=>a0I (Heap.lt_size e)
 have ndH:∀ b u,H2 b=some u->b≠s2.heap.objs.size:=fun b u e=>a0I (I2.hok.lt e)
 have old:∀ b o,s2.heap.get? b=some o->g'.get? b=some o:=fun b o e=>hsb.extBut b o (nc b o e) (Heap.get?_push_of_some _ (hP2 ▸ Heap.get?_push_of_some _ e))
 have accD:g'.get? s2.heap.objs.size=some (gR []):=hsb.extBut _ _ hDC (Heap.get?_push_of_some _ (hP2 ▸ Heap.get?_push_size _ rfl))
 have stkD:s2.heap.objs.size ∉ frs X.stack:=fun hb=>(a0q.mp (I2.stkSub _ hb)).elim (fun z=>absurd z (a1L I2.lt)) (I2.nofs (a0h _))
 generalize hσ':aZ σ is=σ' at turn
 have I3:Inv (af X (pre++ys) scope cl P2.objs.size s2 H2 fp) pins (a0l pre.length none++σ') H2 { s2 with heap:=g',toks:=s2.toks+([]:List (Str×Value)).length }:=by rw [<- hσ']; exact lY (pre:=pre) I2 f2 fpo S hcl hfr fr hle old hns
 have stat:∀ {H':Hp} {o:Obj},(∀ b∈fp,H' b=none)->∀ b∈fp,eL (af X (pre++ys) scope cl P2.objs.size s2 H2 fp) (pins++[(s2.heap.objs.size,o)]) H' b:=fun {H' o} hn b hb=>by
  refine ⟨hn b hb,a0I (a0o (fpo b hb) hle),fun z=>(a0q.mp (I2.stkSub _ z)).elim (f2 b hb).2.1 (f2 b hb).2.2.1,.inl hb,fun a c e=>(f2 b hb).2.2.2.2.1 a c (hcl.get e),fun p hp=>?_⟩
  rcases a0T.mp hp with z | z
  ·exact (f2 b hb).2.2.2.2.2 p (a0L _ z)
  ·rcases a0T.mp z with z | z
   ·exact (f2 b hb).2.2.2.2.2 p (a0m _ z)
   ·rw [a0E.mp z]
    exact a1L (fpo b hb)
 have loop:codeAny (model X.prog X.w) X.A (.compLoop (.ListComp elt [⟨tg,iter,cs,0⟩] scope pos) 0 (.ref it) (.ref s2.heap.objs.size) (compEnvC scope cl P2.objs.size X.env))
   (compPost (model X.prog X.w) X.A X.xe use Qp (.ref s2.heap.objs.size) P2.objs.size) { s2 with heap:=g',toks:=s2.toks+([]:List (Str×Value)).length }:=by
  refine jh (X:=af X (pre++ys) scope cl P2.objs.size s2 H2 fp) (fun n s'=>∃ i zs its H',Inv (af X (pre++ys) scope cl P2.objs.size s2 H2 fp) pins (a0l pre.length none++σ') H' s'/\tn i s'.heap/\(∀ b∈fp,H' b=none)/\s'.heap.get? s2.heap.objs.size=some (gR its)/\Vals zs its/\H' s2.heap.objs.size=none/\W i n zs H')
   ?_ m0 ⟨0,[],[],H2,I3,T.keep _ _ _ st2 (fun b _ o e=>old b o e),fun b hb=>(f2 b hb).1,accD,.nil,I2.hok.fresh (a0h _),w0⟩ hcs
  rintro n s3 ⟨i,zs,its,H3,J3,st3,fr3,d3,rv3,nd3,w3⟩
  have hzl:=rv3.length
  have J3':Inv (af X (pre++ys) scope cl P2.objs.size s2 H2 fp) (pins++[(s2.heap.objs.size,gR its)]) (a0l pre.length none++σ') H3 s3:=J3.pins_of fun p hp=>by
   rcases a0T.mp hp with z | z
   ·exact J3.pin p (a0m _ z)
   ·rw [a0E.mp z]
    exact ⟨d3,nd3,hDC,stkD,fun v q=>by cases q⟩
  rcases turn i n zs H3 w3 with ⟨stop,hz,q⟩ | ⟨go,hz,step⟩
  ·refine wpAny_mono (T.done (af X (pre++ys) scope cl P2.objs.size s2 H2 fp) rfl rfl rfl hc i _ s3 _ H3 noX J3' (stat fr3) st3 stop) (fun r s4 h4=>?_) fun _ _ z=>z.elim
   obtain ⟨hr,I4⟩:=h4
   subst hr
   obtain ⟨m4,hn4,_⟩:=id I4.loc
   have f4:H3 P2.objs.size=none:=I4.free
   have d4:s4.heap.get? s2.heap.objs.size=some (gR its):=(I4.pin (s2.heap.objs.size,gR its) (a0m _ (a0m _ (a0E.mpr rfl)))).1
   have u4:Un (frs X.stack) fp H2 H3 s2.heap s4.heap:=I4.base
   have un:Un (frs X.stack) fp H2 (upd H3 s2.heap.objs.size (.lst zs)) s2.heap s4.heap :=
    ⟨u4.keep,u4.slot,fun b o e n hx=>by rw [ab (nd b o e)]; exact u4.free b o e n hx,u4.there,
     fun b xs q=>by rw [ab (ndH b _ q)]; exact u4.tups b xs q,fun b o u q=>by rw [ab (ndH b _ q)]; exact u4.frzs b o u q,fun b ps q=>by rw [ab (ndH b _ q)]; exact u4.tbls b ps q⟩
   have IX:Inv X pins σ (upd H3 s2.heap.objs.size (.lst zs)) s4:=I2.call' (s':=s4) (ch:=fp) I4.os un (gi I4.hok nd3 ⟨hz,its,its.length,rv3,d4⟩) I4.bare
    (fun b hb=>⟨(f2 b hb).2.2.2.1,(f2 b hb).2.1,(f2 b hb).2.2.2.2.1,(f2 b hb).2.2.2.2.2⟩)
   have cL:P2.objs.size≠X.env.locals:=a1L (a0o I2.lt hle)
   have cC:∀ a c,X.env.cells.lookup a=some c->c≠P2.objs.size:=fun a c e=>by
    obtain ⟨v',o',ho',_⟩:=I2.cell a c e
    exact nc c o' ho'
   exact fin s4 _ s2.heap.objs.size P2.objs.size m4 IX hn4 cL cC (by rw [ab (a1u hDC)]; exact f4) (a0u I2.sz hle) (fun p hp=>nc p.1 _ (I2.pin p hp).1) (q _ nd3)
  ·refine wpAny_mono (T.item (af X (pre++ys) scope cl P2.objs.size s2 H2 fp) rfl rfl rfl hc i _ s3 _ H3 noX J3' (stat fr3) st3 go) (fun r s4 h4=>?_) fun _ _ z=>z.elim
   obtain ⟨u,hr,h4⟩:=h4
   subst hr
   refine wpAny_mono h4 (fun _ s5 h5=>?_) fun _ _ z=>z.elim
   obtain ⟨v,H5,I5,r5,y5,st5,fr5⟩:=h5
   have I5':=I5.pinned (stat fr5) (T.obj _ _ st5)
   refine wpAny_mono (hg P2.objs.size s2 H2 fp _ s5 _ H5 v u _ I5' r5 (step v H5 y5)) (fun _ s6 h6=>?_) fun _ _ z=>z.elim
   obtain ⟨σ6,H6,I6,⟨hl6,hd6⟩,step'⟩:=h6
   have back:∀ {H7:Hp} {s7:Shared},Inv (af X (pre++ys) scope cl P2.objs.size s2 H2 fp) ((pins++[(s2.heap.objs.size,gR its)])++eZ fp s5.heap) σ6 H7 s7->Inv (af X (pre++ys) scope cl P2.objs.size s2 H2 fp) pins (a0l pre.length none++σ') H7 s7:=fun I7=>I7.unpinned.unpinned.weak (by rw [hl6,a0g,a0N]) fun j w' e=>qR hd6 e
   refine CW.mono (hcd P2.objs.size s2 H2 fp _ s6 _ H6 _ I6 step') fun ok s6' h6'=>?_
   obtain ⟨H6',I6',q6⟩:=h6'
   cases ok with
   | false =>
    rw [if_neg a0n] at q6
    obtain ⟨m',hm',w7⟩:=q6
    have pinD:=I6'.pin (s2.heap.objs.size,gR its) (a0m _ (a0L _ (a0m _ (a0E.mpr rfl))))
    rw [if_neg a0n]
    refine ⟨m',hm',i+1,zs,its,H6',back I6',T.keep _ _ _ st5 fun b hb o e=>?_,fun b hb=>?_,pinD.1,rv3,pinD.2.1,w7⟩
    ·exact (I6'.pin (b,o) (a0m _ (a0m _ (bh hb e)))).1
    ·obtain ⟨o,e,_⟩:=T.obj _ _ st5 b hb
     exact (I6'.pin (b,o) (a0m _ (a0m _ (bh hb e)))).2.1
   | true =>
    rw [if_pos rfl] at q6 ⊢
    refine wpAny_mono (he P2.objs.size s2 H2 fp _ s6' _ H6' _ I6' q6) (fun yv s7 h7=>?_) fun _ _ z=>z.elim
    obtain ⟨y',H7,I7,r7,m',hm',w7⟩:=h7
    have pinD:=I7.pin (s2.heap.objs.size,gR its) (a0m _ (a0L _ (a0m _ (a0E.mpr rfl))))
    refine append_at (hsz:=by show its.toArray.size<=sizeLine; rw [a0j]; omega) pinD.1 fun h8 sb8 hD8=>?_
    have I8:Inv (af X (pre++ys) scope cl P2.objs.size s2 H2 fp) pins (a0l pre.length none++σ') H7 { s7 with heap:=h8 }:=(back I7).turned (t':=s7.toks) (it:=s2.heap.objs.size) (fun b o hb e=>(sb8.2 b hb).trans e) pinD.2.1 hDC (.inr (a0h _))
     (fun a c e z=>by
      obtain ⟨v',o',ho',_⟩:=I2.cell a c (hcl.get e)
      exact nd c o' ho' z)
     (fun p hp=>nd p.1 _ (I2.pin p hp).1)
    refine ⟨m',hm',i+1,zs++[y'],its++[yv],H7,I8,T.keep _ _ _ st5 fun b hb o e=>?_,fun b hb=>?_,?_,rv3.append (.cons r7 .nil),pinD.2.1,w7⟩
    ·exact (sb8.2 b (a0I (fpo b hb))).trans (I7.pin (b,o) (a0m _ (a0m _ (bh hb e)))).1
    ·obtain ⟨o,e,_⟩:=T.obj _ _ st5 b hb
     exact (I7.pin (b,o) (a0m _ (a0m _ (bh hb e)))).2.1
    ·show h8.get? s2.heap.objs.size=_
     rw [hD8]
     simp [gR]
 exact codeAny_compStart_list loop (T.self X.A 0 _ _ _ (T.keep _ _ _ st2 (fun b _ o e=>old b o e)) loop)
section
variable {X:Cx}{elt iter tg cnd:Expr}{pre:List Str}{pos spos pz:Pos}{z:Str}{jz:Nat}{scope:Scope}{cl:List (Str×Addr)}{ys:List Str}{is:List Nat}{wi:TI}{g:TG}{te:TE}{tc:TT}
theorem pcF (h:PT X cnd tc)(hx:∀ v s,X.xe v s->False):PC X [cnd] tc:=fun pins s σ H Q I q=>wpAny_mono (h pins s σ H Q I q) (fun _ _ z=>z) fun v s z=>hx v s z
noncomputable def tT:TT:=fun _ H Q=>Q true H
theorem pcN:PC X [] tT:=fun pins s σ H Q I q=>⟨H,I,q⟩
theorem goN {n:Nat}{σ:L2.St}{H:Hp}{Q:VK}(h:hW n wi is g te σ H Q):cq n wi is g tT te σ H Q:=h
theorem iY {cs:List Expr}(hc:X.calm=true)(hi:PI X tg iter wi)(hg:∀ C s H fp,PG (af X (pre++ys) scope cl C s H fp) tg g)(he:∀ C s H fp,PE (af X (pre++ys) scope cl C s H fp) elt te)(hcd:∀ C s H fp,PC (af X (pre++ys) scope cl C s H fp) cs tc)(hcs:cs.length<=1)
  (hclos:closureFor scope X.env=pure cl) (S:aj pre ys scope) (hcl:Clo X cl) (hfr:(scope.names.all fun p=>p.2 != .free || (cl.lookup p.1).isSome)=true) (fr:Frees X scope cl ys is) (hs:∀ v,foldedSetIterable iter X.env v=pure v) :
  PE X (.ListComp elt [⟨tg,iter,cs,0⟩] scope pos) (cq pre.length wi is g tc te):=by
 intro pins s σ H Q I h
 rw [eval_ListComp]
 show wpAny _ _ (comprehension _ scope X.env _ (newList []) false (eval iter X.env) none) _ _ s
 refine iC hc hi hg he hcd hcs hclos S hcl hfr fr hs (fun s4 Hn D L m4 IX hn cL cC hL hz hp q=>?_) I h
 exact ⟨m4,hn,fun h' sb=>⟨.ref D,_,IX.turned (t':=s4.toks) (it:=L) (fun b o hb e=>(sb.2 b hb).trans e) hL cL (.inr hz) cC hp,rfl,q⟩⟩
theorem iM {cs:List Expr}(hN:X.N.Nodup)(hj:X.N[jz]?=some z)(hzLoc:Loc X.env.scope z)(hsw:swapsWith (.ListComp elt [⟨tg,iter,cs,0⟩] scope pos) (some (.Name z pz)) spos.line X.env=pure true)(hc:X.calm=true)(hi:PI X tg iter wi)(hg:∀ C s H fp,PG (af X (pre++ys) scope cl C s H fp) tg g)(he:∀ C s H fp,PE (af X (pre++ys) scope cl C s H fp) elt te)(hcd:∀ C s H fp,PC (af X (pre++ys) scope cl C s H fp) cs tc)(hcs:cs.length<=1)
  (hclos:closureFor scope X.env=pure cl) (S:aj pre ys scope) (hcl:Clo X cl) (hfr:(scope.names.all fun p=>p.2 != .free || (cl.lookup p.1).isSome)=true) (fr:Frees X scope cl ys is) (hs:∀ v,foldedSetIterable iter X.env v=pure v) (hfn:X.fn z=true\/X.env.scope.names.lookup z=some .local) :
  PS X (.Assign [.Name z pz] (.ListComp elt [⟨tg,iter,cs,0⟩] scope pos) spos) (mq (cq pre.length wi is g tc te) (bZ jz)):=by
 intro pins s σ H D I h
 rw [exec_Assign_Name_used _ _ _ _ hsw]
 refine wpAny_bind (wpAny_standAt (wpAny_bind ?_)); show wpAny _ _ (do let _ <- comprehension (.ListComp elt [⟨tg,iter,cs,0⟩] scope pos) scope X.env _ (newList []) false (eval iter X.env) (some (assign (.Name z pz) X.env))) _ _ s
 refine wpAny_bind (thn (iC (use:=some (assign (.Name z pz) X.env)) (Qp:=fun _ s'=>SP X pins D .next s') hc hi hg he hcd hcs hclos S hcl hfr fr hs (fun s4 Hn d L m4 IX hn cL cC hL hz hp q=>?_) I h) fun _ s' hq=>wpAny_pure (wpAny_pure hq))
 show wpAny _ _ (assign (.Name z pz) X.env (.ref d)) _ _ s4
 refine wpAny_assign_Name (fX IX hN hj hzLoc (v:=.ref d) rfl (fun s5 I5 h5=>?_) hfn)
 obtain ⟨a5,sb5,ha5⟩:=h5
 have na:L≠a5:=ha5.elim (fun e=>by rw [e]; exact cL) fun e=>a1u (cC _ _ e)
 exact ⟨m4,hn.sameBut sb5 na,fun h' sb=>⟨_,_,I5.turned (t':=s5.toks) (it:=L) (fun b o hb e=>(sb.2 b hb).trans e) hL cL (.inr hz) cC hp,q⟩⟩
theorem fO (hc:X.calm=true)(hi:PI X tg iter wi)(hg:∀ C s H fp,PG (af X (pre++ys) scope cl C s H fp) tg g)(he:∀ C s H fp,PE (af X (pre++ys) scope cl C s H fp) elt te)
  (hclos:closureFor scope X.env=pure cl) (S:aj pre ys scope) (hcl:Clo X cl) (hfr:(scope.names.all fun p=>p.2 != .free || (cl.lookup p.1).isSome)=true) (fr:Frees X scope cl ys is) (hs:∀ v,foldedSetIterable iter X.env v=pure v:=by intro _; rfl) :
  PE X (.ListComp elt [⟨tg,iter,[],0⟩] scope pos) (hW pre.length wi is g te):=fun pins s σ H Q I h=>iY hc hi hg he (fun _ _ _ _=>pcN) (a0F _) hclos S hcl hfr fr hs pins s σ H Q I (goN h)
theorem fI (hc:X.calm=true)(hi:PI X tg iter wi)(hg:∀ C s H fp,PG (af X (pre++ys) scope cl C s H fp) tg g)(he:∀ C s H fp,PE (af X (pre++ys) scope cl C s H fp) elt te)(hcd:∀ C s H fp,PT (af X (pre++ys) scope cl C s H fp) cnd tc)
  (hclos:closureFor scope X.env=pure cl) (S:aj pre ys scope) (hcl:Clo X cl) (hfr:(scope.names.all fun p=>p.2 != .free || (cl.lookup p.1).isSome)=true) (fr:Frees X scope cl ys is) (hs:∀ v,foldedSetIterable iter X.env v=pure v:=by intro _; rfl) :
  PE X (.ListComp elt [⟨tg,iter,[cnd],0⟩] scope pos) (cq pre.length wi is g tc te):=iY hc hi hg he (fun _ _ _ _=>pcF (hcd _ _ _ _) fun _ _ z=>z) (a0h _) hclos S hcl hfr fr hs
theorem mW (hN:X.N.Nodup)(hj:X.N[jz]?=some z)(hzLoc:Loc X.env.scope z)(hsw:swapsWith (.ListComp elt [⟨tg,iter,[],0⟩] scope pos) (some (.Name z pz)) spos.line X.env=pure true)(hc:X.calm=true)(hi:PI X tg iter wi)(hg:∀ C s H fp,PG (af X (pre++ys) scope cl C s H fp) tg g)(he:∀ C s H fp,PE (af X (pre++ys) scope cl C s H fp) elt te)
  (hclos:closureFor scope X.env=pure cl) (S:aj pre ys scope) (hcl:Clo X cl) (hfr:(scope.names.all fun p=>p.2 != .free || (cl.lookup p.1).isSome)=true) (fr:Frees X scope cl ys is) (hs:∀ v,foldedSetIterable iter X.env v=pure v:=by intro _; rfl) (hfn:X.fn z=true\/X.env.scope.names.lookup z=some .local:=by first | exact .inl rfl | exact .inr rfl | assumption) :
  PS X (.Assign [.Name z pz] (.ListComp elt [⟨tg,iter,[],0⟩] scope pos) spos) (mq (hW pre.length wi is g te) (bZ jz)):=fun pins s σ H D I h=>iM hN hj hzLoc hsw hc hi hg he (fun _ _ _ _=>pcN) (a0F _) hclos S hcl hfr fr hs hfn pins s σ H D I (goN h)
theorem mC (hN:X.N.Nodup)(hj:X.N[jz]?=some z)(hzLoc:Loc X.env.scope z)(hsw:swapsWith (.ListComp elt [⟨tg,iter,[cnd],0⟩] scope pos) (some (.Name z pz)) spos.line X.env=pure true)(hc:X.calm=true)(hi:PI X tg iter wi)(hg:∀ C s H fp,PG (af X (pre++ys) scope cl C s H fp) tg g)(he:∀ C s H fp,PE (af X (pre++ys) scope cl C s H fp) elt te)(hcd:∀ C s H fp,PT (af X (pre++ys) scope cl C s H fp) cnd tc)
  (hclos:closureFor scope X.env=pure cl) (S:aj pre ys scope) (hcl:Clo X cl) (hfr:(scope.names.all fun p=>p.2 != .free || (cl.lookup p.1).isSome)=true) (fr:Frees X scope cl ys is) (hs:∀ v,foldedSetIterable iter X.env v=pure v:=by intro _; rfl) (hfn:X.fn z=true\/X.env.scope.names.lookup z=some .local:=by first | exact .inl rfl | exact .inr rfl | assumption) :
  PS X (.Assign [.Name z pz] (.ListComp elt [⟨tg,iter,[cnd],0⟩] scope pos) spos) (mq (cq pre.length wi is g tc te) (bZ jz)):=iM hN hj hzLoc hsw hc hi hg he (fun _ _ _ _=>pcF (hcd _ _ _ _) fun _ _ z=>z) (a0h _) hclos S hcl hfr fr hs hfn
end
end L3

namespace L3
open PySem PySem.Spec PyProof.Rows L2
end L3
namespace L3
open PySem PySem.Spec PyProof.Rows L2
end L3
namespace L3
open PySem PySem.Spec PyProof.Rows L2
end L3

namespace L3
open PySem PySem.Spec PyProof.Rows L2
theorem bT:∀ {ns:List Int} {us:List Value},Vals (ns.map V.int) us->IntsAre us ns
 | [],_,.nil=>.nil
 | n::ns,_,.cons ⟨t,e⟩ r=>by cases e; exact .cons n t (bT r)
end L3
namespace L3
open PySem PySem.Spec PyProof.Rows L2
noncomputable abbrev vp (h:Heap)(T:Addr)(a b c:Value):Prop:=h.get? T=some { cls:=.type "tuple",data:=.seq #[a,b,c] }
end L3
namespace L3
open PySem PySem.Spec PyProof.Rows L2
noncomputable def Z3 (n a1 a2 a3:Nat)(i:Nat)(h:Heap):Prop :=
 IsZip h (n+5) (n+3) (n+4) .none/\vp h (n+3) (.ref n) (.ref (n+1)) (.ref (n+2))/\(∃ a b c,vp h (n+4) a b c)/\ItO h false n a1 i/\ItO h false (n+1) a2 i/\ItO h false (n+2) a3 i
end L3

namespace M
open PySem (Str)
inductive T where
 | non | bl (b:Bool) | int (i:Int) | str (x:Str) | tup (ts:List T) | lst (ts:List T) | dct (ks:List (Int ⊕ Str)) (vs:List T) | ins (c:Str) (fs:List Str) (vs:List T)
 | scr (ns:List Int)
 | gone
 deriving Inhabited
inductive Md where
 | s | d | o (m:Md)
 deriving DecidableEq,Inhabited
noncomputable def Md.kid:Md->Md
 | .s=>.s | .d=>.d | .o m=>m
noncomputable def Md.up:Md->Md
 | .d=>.d | m=>.o m
noncomputable def Md.meet:Md->Md->Md
 | .s,_=>.s | .d,m=>m | .o _,.s=>.s | .o a,.d=>.o a | .o a,.o b=>.o (a.meet b)
noncomputable def Md.le:Md->Md->Bool
 | .s,_=>true
 | .o a,.o b=>a.le b
 | .o _,.d=>true
 | .d,.d=>true
 | _,_=>false
noncomputable abbrev W:=Md×T
noncomputable abbrev Env:=List (Option W)
noncomputable def LIM:Nat:=16777215
noncomputable def T.leaf:T->Bool
 | .non | .bl _ | .int _ | .str _ | .scr _=>true
 | _=>false
noncomputable def T.isG:T->Bool
 | .gone=>true
 | .dct _ _=>true
 | _=>false
noncomputable def T.isN:T->Bool
 | .non=>true
 | _=>false
noncomputable def leaves (ts:List T):Bool:=ts.all T.leaf
inductive Op where
 | add | sub | mul | fdiv | mod | pow | neg | eq | ne | lt | le | gt | ge | is | isnot | isin | notin | ix | sl | sl1 | sl2 | sl3
 | len | isI (cs:List String) | max1 | maxZ | min1 | count | fdivN | modN | intS | apd | mulS | listS | list | tuple | sum | all | any | max | min | int | str | rng | sorted | join | split | abs | dict | get | lzip | isB | isnB | lower | inS | ninS | inX | ninX | leS | catT | dnew | sortedD | sortedS | lenSet | countS | repr | ixD | revL
 deriving DecidableEq,Inhabited
inductive Ik where
 | seq | rng | enm | zip | sq2 | zip3 | chr | enmT
 deriving DecidableEq,Inhabited
inductive E where
 | var (i:Nat) | mv (i:Nat) | io (i:Nat) | cst (t:T) | glb (x:Str) (t:T)
 | tup (es:List E) | lst (h:Bool) (es:List E) | op (o:Op) (h:Bool) (es:List E) | wk (m:Md) (e:E)
 | and (a b:E) | or (a b:E) | not (a:E) | ifx (c a b:E) | chain (o p:Op) (a b c:E)
 | call (f:Nat) (es:List E) | comp (h:Bool) (k:Ik) (src:List E) (tg:List Nat) (cnd:Option E) (elt:E)
 | pop (i:Nat) (es:List E) | lenV (i:Nat) | ixV (i j:Nat) | popN (i:Nat) (e:E) | compV (h:Bool) (i t:Nat) (c e:E)
 | tupA (es:List E) | qx (vs ls:List Nat) (e:E) | mvP (i:Nat) (p:List Nat)
 | callT (tab:List (Str×Nat)) (k:E) (es:List E) | inT (neg:Bool) (ks:List Str) (e:E) | ixT (tab:List (Str×T)) (e:E) | getT (tab:List (Str×T)) (e:E)
 deriving Inhabited
inductive X where
 | q (vs ls:List Nat) | l (vs:List Nat)
 deriving Inhabited
inductive S where
 | asg (x:X) (i:Nat) (e:E) | asgT (x:X) (is:List Nat) (e:E) | setI (x:X) (i:Nat) (k e:E) | setK (x:X) (i:Nat) (k e:E) | setS (x:X) (i:Nat) (k e:E) | insF (x:X) (i:Nat) (e:E) | revS (i:Nat) | apN (i k l:Nat) | insN (i k l:Nat) | apC (i k:Nat) (cs:List T) | popI (i k:Nat) | clrA (i j:Nat)
 | exp (x:X) (e:E) | app (x:X) (i:Nat) (e:E) | ext (x:X) (i:Nat) (e:E)
 | ret (vs:List Nat) (e:E) | retN | ite (x:X) (c:E) (a b:List S)
 | forS (vs ls:List Nat) (k:Ik) (src:List E) (tg:List Nat) (body:List S) | forU (k:Ik) (src:List E) (tg:List Nat) (body:List S) | whl (x:X) (c:E) (body:List S)
 | brk | pas | stop | tri (body:List S)
 deriving Inhabited
structure Fn where
 ps:Nat
 ns:Nat
 io:List Nat
 body:List S
inductive Res (α:Type) where
 | ok (a:α) | ex (c:Str) (x:List T) | no
noncomputable def Res.bind {α β:Type}:Res α->(α->Res β)->Res β
 | .ok a,f=>f a
 | .ex c x,_=>.ex c x
 | .no,_=>.no
noncomputable def ofO {α:Type}:Option α->Res α
 | some a=>.ok a
 | none=>.no
inductive Fl where
 | nx (η:Env) | rt (w:W) (η:Env) | bk (η:Env) | ex (c:Str) (x:List T) (η:Env) | no
noncomputable def a6:T->Option Bool
 | .non=>some false | .bl b=>some b | .int i=>some (i != 0) | .str x=>some (x.cps.size != 0) | .tup ts=>some (!ts.isEmpty) | .lst ts=>some (!ts.isEmpty) | .dct _ _=>none | .ins ..=>none | .scr ns=>some (!ns.isEmpty) | .gone=>none
noncomputable def b2i:Bool->Int
 | true=>1 | false=>0
mutual
noncomputable def eqT:T->T->Bool
 | .non,.non=>true
 | .bl a,.bl b=>a==b
 | .bl a,.int i=>b2i a==i
 | .int i,.bl a=>i==b2i a
 | .int i,.int j=>i==j
 | .str x,.str y=>x==y
 | .tup ts,.tup us=>eqTs ts us
 | .lst ts,.lst us=>eqTs ts us
 | _,_=>false
noncomputable def eqTs:List T->List T->Bool
 | [],[]=>true
 | t::ts,u::us=>eqT t u&&eqTs ts us
 | _,_=>false
end
mutual
noncomputable def dp:T->Nat
 | .tup ts=>dps ts+1
 | .lst ts=>dps ts+1
 | .scr _=>1000
 | .dct _ _=>1000
 | .ins _ _ _=>1000
 | .gone=>1000
 | _=>0
noncomputable def dps:List T->Nat
 | []=>0
 | t::ts=>max (dp t) (dps ts)
end
noncomputable def sOk (x:Str):Bool:=x.cps.all (· < 0x110000)&&decide (x.cps.size<=LIM)
noncomputable def kOk:Int ⊕ Str->Bool
 | .inl _=>true
 | .inr x=>sOk x
noncomputable def keyT:T->Option (Int ⊕ Str)
 | .int n=>some (.inl n)
 | .str x=>some (.inr x)
 | _=>none
noncomputable def qP:List (Int ⊕ Str)->Option (List Str)
 | []=>some []
 | .inr x::ks=>(qP ks).map (x::·)
 | .inl _::_=>none
noncomputable def lookD (q:Int ⊕ Str):List (Int ⊕ Str)->List T->Option T
 | y::ys,v::vs=>if y=q then some v else lookD q ys vs
 | _,_=>none
noncomputable def ixN (n:Nat)(i:Int):Option Nat:=if 0<=i then (if i < n then some i.toNat else none) else if -(n:Int)<=i then some (i+n).toNat else none
noncomputable def atI {α:Type}(xs:List α)(i:Int):Option α:=(ixN xs.length i).bind fun j=>xs[j]?
noncomputable def sIx (n d:Nat):Option Int->Nat
 | none=>d
 | some i=>if i < 0 then (i+n).toNat else min i.toNat n
noncomputable def cut {α:Type}(xs:List α)(lo hi:Option Int):List α:=(xs.drop (sIx xs.length 0 lo)).take (sIx xs.length xs.length hi-sIx xs.length 0 lo)
noncomputable def T.ty:T->String
 | .non=>"NoneType" | .bl _=>"bool" | .int _=>"int" | .str _=>"str" | .tup _=>"tuple" | .lst _=>"list" | .dct ..=>"dict" | .ins ..=>"object" | .scr _=>"list" | .gone=>"gone"
noncomputable def isOne (c:String)(t:T):Bool:=t.ty==c || (t.ty=="bool"&&c=="int")
noncomputable def intsOf:List T->Option (List Int)
 | []=>some []
 | .int i::ts=>(intsOf ts).map (i::·)
 | _::_=>none
noncomputable def d7:List T->Option (List Bool)
 | []=>some []
 | .bl b::ts=>(d7 ts).map (b::·)
 | _::_=>none
noncomputable def fV:W->Option (List T)
 | (_,.tup ts)=>some ts
 | (_,.lst ts)=>some ts
 | _=>none
noncomputable def iz:T->Bool
 | .non | .bl _ | .int _ | .str _=>true
 | _=>false
noncomputable def kL:T->Bool
 | .str _=>true
 | _=>false
noncomputable def lI:T->Bool
 | .non | .bl _ | .int _ | .str _ | .lst _ | .tup _=>true
 | _=>false
noncomputable def B6 (c:Nat):Nat:=if 65<=c/\c<=90 then c+32 else c
noncomputable def xO:List Int->Int
 | []=>0
 | [n]=>n
 | n::ns=>max n (xO ns)
noncomputable def zy:List Int->Int
 | []=>0
 | [n]=>n
 | n::ns=>min n (zy ns)
noncomputable def insI (x:Int):List Int->List Int
 | []=>[x]
 | y::ys=>if x<=y then x::y::ys else y::insI x ys
noncomputable def sortI:List Int->List Int
 | []=>[]
 | x::xs=>insI x (sortI xs)
noncomputable def cF:List T->Option (List Str)
 | []=>some []
 | .str x::ts=>(cF ts).map (x::·)
 | _::_=>none
noncomputable def C2 (ks:List Str)(x:Str):List Str:=if ks.contains x then ks else ks++[x]
noncomputable def vj (l:List Str):List Str:=l.foldl C2 []
noncomputable def ltS (x y:Str):Bool:=decide (x.cps.toList < y.cps.toList)
noncomputable def Cw (x:Str):List Str->List Str
 | []=>[x]
 | y::ys=>if ltS y x then y::Cw x ys else x::y::ys
noncomputable def iI:List Str->List Str
 | []=>[]
 | x::xs=>Cw x (iI xs)
noncomputable def spl (c:Nat):List Nat->List Nat->List (List Nat)
 | acc,[]=>[acc]
 | acc,x::xs=>if x=c then acc::spl c [] xs else spl c (acc++[x]) xs
noncomputable def AX (x:Str):List Str:=(spl 32 [] x.cps.toList).map fun l=>⟨l.toArray⟩
noncomputable def BJ (l:List Nat):Nat:=l.foldl (fun a c=>a * 10+(c-48)) 0
noncomputable def yR (x:Str):Int:=match x.cps.toList with
 | 45::cs=>-((BJ cs:Nat):Int)
 | cs=>((BJ cs:Nat):Int)
noncomputable def Cm (i:Int):Str:=Str.ofString (toString i)
noncomputable def zW:List T->List T->List T
 | t::ts,u::us=>.tup [t,u]::zW ts us
 | _,_=>[]
noncomputable def newL (h:Bool)(m:Md)(ts:List T):Option W:=if h then (if leaves ts then some (.d,.lst ts) else none) else some (m.up,.lst ts)
noncomputable def fits (n:Nat):Bool:=decide (n<=LIM)
mutual
noncomputable def datT:T->a3K
 | .bl b=>.bool b
 | .int i=>.int i
 | .str x=>.str x
 | .tup ts=>.tuple (datTs ts)
 | .lst ts=>.list (datTs ts)
 | _=>.none
noncomputable def datTs:List T->List a3K
 | []=>[]
 | t::ts=>datT t::datTs ts
end
mutual
noncomputable def rOk:T->Bool
 | .non | .bl _=>true
 | .int i=>decide (i.natAbs < 10000000000000000000)
 | .str x=>decide ((a16 x).length<=100)&&sOk (a16 x)
 | .tup ts=>rOks ts
 | .lst ts=>rOks ts
 | _=>false
noncomputable def rOks:List T->Bool
 | []=>true
 | t::ts=>rOk t&&rOks ts
end
mutual
noncomputable def szR:T->Nat
 | .tup ts=>szRs ts+4
 | .lst ts=>szRs ts+4
 | _=>100
noncomputable def szRs:List T->Nat
 | []=>0
 | t::ts=>szR t+2+szRs ts
end
noncomputable def oSem:Op->Bool->List W->Option W
 | .add,h,[(m,a),(n,b)]=>match a,b with
  | .int i,.int j=>some (.d,.int (i+j))
  | .str x,.str y=>if fits (x.cps.size+y.cps.size) then some (.d,.str (x++y)) else none
  | .lst ts,.lst us=>if fits (ts.length+us.length) then newL h (m.kid.meet n.kid) (ts++us) else none
  | .tup ts,.tup us=>if fits (ts.length+us.length)&&!ts.isEmpty then some (.s,.tup (ts++us)) else none
  | _,_=>none
 | .sub,_,[(_,.int i),(_,.int j)]=>some (.d,.int (i-j))
 | .mul,h,[(m,a),(_,b)]=>match a,b with
  | .int i,.int j=>if (decide (i.natAbs < 18446744073709551616)) || (decide (j.natAbs < 18446744073709551616)) then some (.d,.int (i * j)) else none
  | .lst ts,.int k=>if decide (k.natAbs < 4611686018427387904)&&fits (ts.length * k.toNat) then newL h .s (a0l k.toNat ts).flatten else none
  | _,_=>none
 | .fdiv,_,[(_,.int i),(_,.int j)]=>if decide (0 < j)&&decide (j < 1073741824) then some (.d,.int (i / j)) else none
 | .mod,_,[(_,.int i),(_,.int j)]=>if decide (0 < j) then some (.d,.int (i % j)) else none
 | .pow,_,[(_,.int i),(_,.int j)]=>if decide (0<=j)&&decide (j<=1000000)&&decide (i.natAbs < 18446744073709551616) then some (.d,.int (i ^ j.toNat)) else none
 | .fdivN,_,[(_,.int i),(_,.int j)]=>if (j != 0)&&decide (j.natAbs < 18446744073709551616) then some (.d,.int (i.fdiv j)) else none
 | .modN,_,[(_,.int i),(_,.int j)]=>if j != 0 then some (.d,.int (i.fmod j)) else none
 | .neg,_,[(_,.int i)]=>some (.d,.int (-i))
 | .eq,_,[(_,a),(_,b)]=>if decide (dp a<=64)&&decide (dp b<=64) then some (.d,.bl (eqT a b)) else none
 | .ne,_,[(_,a),(_,b)]=>if decide (dp a<=64)&&decide (dp b<=64) then some (.d,.bl (!eqT a b)) else none
 | .lt,_,[(_,.int i),(_,.int j)]=>some (.d,.bl (decide (i < j)))
 | .le,_,[(_,.int i),(_,.int j)]=>some (.d,.bl (decide (i<=j)))
 | .gt,_,[(_,.int i),(_,.int j)]=>some (.d,.bl (decide (j < i)))
 | .ge,_,[(_,.int i),(_,.int j)]=>some (.d,.bl (decide (j<=i)))
 | .is,_,[(_,a),(_,.non)]=>if a.isG then none else some (.d,.bl a.isN)
 | .isnot,_,[(_,a),(_,.non)]=>if a.isG then none else some (.d,.bl (!a.isN))
 | .ix,_,[(m,a),(_,.int i)]=>match a with
  | .lst ts=>(atI ts i).map fun t=>(m.kid,t)
  | .tup ts=>(atI ts i).map fun t=>(m.kid,t)
  | .str x=>(atI x.cps.toList i).map fun c=>(.d,.str ⟨#[c]⟩)
  | .scr ns=>(atI ns i).map fun n=>(.d,.int n)
  | _=>none
 | .sl,h,[(m,.lst ts)]=>newL h m.kid ts
 | .sl1,h,[(m,.lst ts),(_,.int i)]=>newL h m.kid (cut ts (some i) none)
 | .sl2,h,[(m,.lst ts),(_,.int i)]=>newL h m.kid (cut ts none (some i))
 | .sl3,h,[(m,.lst ts),(_,.int i),(_,.int j)]=>newL h m.kid (cut ts (some i) (some j))
 | .sl2,_,[(_,.scr ns),(_,.int i)]=>some (.d,.lst ((cut ns none (some i)).map T.int))
 | .sl1,_,[(_,.scr ns),(_,.int i)]=>some (.d,.lst ((cut ns (some i) none).map T.int))
 | .sl,_,[(_,.scr ns)]=>some (.d,.lst (ns.map T.int))
 | .sl1,_,[(_,.tup ts),(_,.int i)]=>some (.s,.tup (cut ts (some i) none))
 | .sl2,_,[(_,.tup ts),(_,.int i)]=>some (.s,.tup (cut ts none (some i)))
 | .sl3,_,[(_,.tup ts),(_,.int i),(_,.int j)]=>some (.s,.tup (cut ts (some i) (some j)))
 | .len,_,[(_,a)]=>match a with
  | .lst ts=>some (.d,.int ts.length)
  | .tup ts=>some (.d,.int ts.length)
  | .str x=>some (.d,.int x.cps.size)
  | .scr ns=>some (.d,.int ns.length)
  | _=>none
 | .isI cs,_,[(_,a)]=>if a.isG then none else some (.d,.bl (cs.any fun c=>isOne c a))
 | .list,h,[(m,a)]=>match a with
  | .lst ts=>newL h m.kid ts
  | .tup ts=>newL h m.kid ts
  | .scr ns=>some (.d,.lst (ns.map T.int))
  | _=>none
 | .tuple,_,[(m,a)]=>match a with
  | .lst ts=>some (m.kid.up,.tup ts)
  | .tup ts=>some (m,.tup ts)
  | _=>none
 | .sum,_,[(_,.lst ts)]=>(intsOf ts).map fun ns=>(.d,.int ns.sum)
 | .all,_,[(_,.lst ts)]=>(d7 ts).map fun bs=>(.d,.bl (bs.all id))
 | .any,_,[(_,.lst ts)]=>(d7 ts).map fun bs=>(.d,.bl (bs.any id))
 | .max,_,[(_,.int i),(_,.int j)]=>some (.d,.int (if j > i then j else i))
 | .min,_,[(_,.int i),(_,.int j)]=>some (.d,.int (if j < i then j else i))
 | .rng,_,[(_,.int i),(_,.int j)]=>if decide (i.natAbs < 4611686018427387904)&&decide (j.natAbs < 4611686018427387904)&&fits (j-i).toNat then some (.d,.lst ((a0p (j-i).toNat).map fun (k:Nat)=>T.int (i+k))) else none
 | .isin,_,[(_,a),(n,b)]=>(fV (n,b)).bind fun ts=>if iz a&&ts.all iz then some (.d,.bl (ts.any fun t=>eqT t a)) else none
 | .notin,_,[(_,a),(n,b)]=>(fV (n,b)).bind fun ts=>if iz a&&ts.all iz then some (.d,.bl (!ts.any fun t=>eqT t a)) else none
 | .int,_,[(_,.int i)]=>some (.d,.int i)
 | .int,_,[(_,.bl b)]=>some (.d,.int (b2i b))
 | .abs,_,[(_,.int i)]=>some (.d,.int i.natAbs)
 | .maxZ,_,[(_,.lst ts)]=>(intsOf ts).bind fun ns=>some (.d,.int (if ns.isEmpty then 0 else xO ns))
 | .max1,_,[(_,.lst ts)]=>(intsOf ts).bind fun ns=>if ns.isEmpty then none else some (.d,.int (xO ns))
 | .min1,_,[(_,.lst ts)]=>(intsOf ts).bind fun ns=>if ns.isEmpty then none else some (.d,.int (zy ns))
 | .sorted,_,[(_,.lst ts)]=>(intsOf ts).bind fun ns=>if decide (ns.length < 64) then some (.d,.lst ((sortI ns).map T.int)) else none
 | .str,_,[(_,.int i)]=>if decide (i.natAbs < 10000000000000000000) then some (.d,.str (Cm i)) else none
 | .intS,_,[(_,.str x)]=>if decide ((yR x).natAbs < 10000000000000000000)&&(Cm (yR x)==x) then some (.d,.int (yR x)) else none
 | .join,_,[(_,.str z),(_,.lst ts)]=>(cF ts).bind fun ss=>if sOk (Str.join z ss)&&decide ((ss.map fun s=>s.cps.size+z.cps.size).sum<=LIM) then some (.d,.str (Str.join z ss)) else none
 | .split,_,[(_,.str z),(_,.str y)]=>if (y==Str.ofString " ")&&decide (z.cps.size+2<=LIM)&&(AX z).all sOk then some (.d,.lst ((AX z).map T.str)) else none
 | .mulS,_,[(_,.str x),(_,.int k)]=>if decide (0<=k)&&decide (k<=100)&&decide (x.cps.size<=1000) then some (.d,.str ⟨(a0l k.toNat x.cps.toList).flatten.toArray⟩) else none
 | .listS,_,[(_,.str x)]=>some (.d,.lst (x.cps.toList.map fun c=>T.str ⟨#[c]⟩))
 | .apd,_,[(m,.lst ts),(_,_)]=>if m==.s then none else if decide (ts.length < LIM) then some (.d,.non) else none
 | .count,_,[(_,.lst ts),(_,.bl b)]=>(d7 ts).map fun bs=>(.d,.int (bs.count b))
 | .lower,_,[(_,.str x)]=>if x.cps.toList.all (fun c=>decide (c < 128)) then some (.d,.str ⟨x.cps.map B6⟩) else none
 | .inS,_,[(_,.str x),(_,.str y)]=>some (.d,.bl (!(a04 y x 0 y.length 1).isEmpty))
 | .ninS,_,[(_,.str x),(_,.str y)]=>some (.d,.bl (!(!(a04 y x 0 y.length 1).isEmpty)))
 | .inX,_,[(_,a),(_,.tup ts)]=>if ts.all kL&&lI a then some (.d,.bl (ts.any fun t=>eqT t a)) else none
 | .ninX,_,[(_,a),(_,.tup ts)]=>if ts.all kL&&lI a then some (.d,.bl (!ts.any fun t=>eqT t a)) else none
 | .catT,_,[(_,.tup ts),(_,.tup us)]=>if fits (ts.length+us.length) then some (.s,.tup (ts++us)) else none
 | .dnew,_,[]=>some (.d,.dct [] [])
 | .lenSet,_,[(_,.tup ts)]=>(cF ts).bind fun ss=>if decide (ss.length < 1000) then some (.d,.int (vj ss).length) else none
 | .countS,_,[(_,.lst ts),(_,.str x)]=>(cF ts).bind fun ss=>some (.d,.int (ss.count x))
 | .sortedS,_,[(_,.lst ts)]=>(cF ts).bind fun ss=>if decide (ss.length < 64) then some (.d,.lst ((iI ss).map T.str)) else none
 | .sortedD,_,[(_,.dct ks _)]=>(qP ks).bind fun ss=>if decide (ss.length < 64) then some (.d,.lst ((iI ss).map T.str)) else none
 | .ixD,_,[(.s,.dct ks vs),(_,k)]=>(keyT k).bind fun q=>(lookD q ks vs).map fun t=>(.s,t)
 | .revL,_,[(.s,.lst ts)]=>some (.o .s,.lst ts.reverse)
 | .repr,_,[(_,t)]=>if decide (dp t<=64)&&rOk t&&fits (szR t) then some (.d,.str (datT t).shown) else none
 | .leS,_,[(_,.str x),(_,.str y)]=>some (.d,.bl (!decide (y.cps.toList < x.cps.toList)))
 | .isB,_,[(_,.bl a),(_,.bl b)]=>some (.d,.bl (a==b))
 | .isnB,_,[(_,.bl a),(_,.bl b)]=>some (.d,.bl (!(a==b)))
 | .lzip,_,[(m,a),(n,b)]=>(fV (m,a)).bind fun ts=>(fV (n,b)).bind fun us=>some ((m.kid.meet n.kid).up.up,.lst (zW ts us))
 | _,_,_=>none
noncomputable def rd:Env->Nat->Option W
 | [],_=>none
 | o::_,0=>o
 | _::η,i+1=>rd η i
noncomputable def wr:Env->Nat->Option W->Env
 | [],_,_=>[]
 | _::η,0,w=>w::η
 | o::η,i+1,w=>o::wr η i w
noncomputable abbrev put (η:Env)(i:Nat)(w:W):Env:=wr η i (some w)
noncomputable abbrev del (η:Env)(i:Nat):Env:=wr η i none
noncomputable def look:W->Option W
 | (.s,t)=>some (.s,t)
 | (_,t)=>if t.leaf=true then some (.d,t) else none
noncomputable def toS:Option W->Option W
 | some (_,t)=>some (.s,t)
 | none=>none
noncomputable def share:List Nat->Env->Env
 | [],η=>η
 | i::is,η=>share is (wr η i (toS (rd η i)))
noncomputable def lfO:Option W->Option W
 | some (_,t)=>if t.leaf=true then some (.d,t) else none
 | none=>none
noncomputable def blank:Env->Env
 | []=>[]
 | _::η=>none::blank η
noncomputable def km:List Nat->Env->Env->Env
 | [],_,η=>η
 | i::is,η0,η=>km is η0 (wr η i (toS (rd η0 i)))
noncomputable def fA:List Nat->Env->Env->Env
 | [],_,η=>η
 | i::is,η0,η=>fA is η0 (wr η i (lfO (rd η0 i)))
noncomputable def cM (vs ls:List Nat)(η:Env):Env:=fA ls η (km vs η (blank η))
noncomputable def after (m:Md)(vs:List Nat)(η:Env):Env:=match m with
 | .d=>η
 | _=>share vs η
noncomputable def aM:List Nat->List W->Env->Option Env
 | [],[],η=>some η
 | i::is,w::ws,η=>aM is ws (put η i w)
 | _,_,_=>none
noncomputable def cw (m:Md):Nat->List T->List (List W)
 | _,[]=>[]
 | i,t::ts=>[(.d,.int i),(m,t)]::cw m (i+1) ts
noncomputable def BQ (m n:Md):List T->List T->List (List W)
 | t::ts,u::us=>[(m,t),(n,u)]::BQ m n ts us
 | _,_=>[]
noncomputable def bw:List T->Option (List (List W))
 | []=>some []
 | .tup [x,y]::ts=>(bw ts).map ([(.s,x),(.s,y)]::·)
 | _::_=>none
noncomputable def nJ:List T->List T->List T->List (List W)
 | t::ts,u::us,v::vs=>[(.s,t),(.s,u),(.s,v)]::nJ ts us vs
 | _,_,_=>[]
noncomputable def a7:Ik->List W->Option (List (List W))
 | .seq,[(_,.lst ts)]=>some (ts.map fun t=>[(.s,t)])
 | .seq,[(_,.tup ts)]=>some (ts.map fun t=>[(.s,t)])
 | .seq,[(_,.scr ns)]=>some (ns.map fun n=>[(.d,.int n)])
 | .rng,[(_,.int n)]=>if decide (n.natAbs < 4611686018427387904)&&fits n.toNat then some ((a0p n.toNat).map fun (k:Nat)=>[(.d,.int k)]) else none
 | .rng,[(_,.int i),(_,.int j)]=>if decide (i.natAbs < 4611686018427387904)&&decide (j.natAbs < 4611686018427387904)&&fits (j-i).toNat then some ((a0p (j-i).toNat).map fun (k:Nat)=>[(.d,.int (i+k))]) else none
 | .rng,[(_,.int i),(_,.int j),(_,.int c)]=>if decide (i.natAbs < 4611686018427387904)&&decide (j.natAbs < 4611686018427387904)&&decide (c=-1)&&fits (i-j).toNat then some ((a0p (i-j).toNat).map fun (k:Nat)=>[(.d,.int (i-k))]) else none
 | .enm,[(_,.lst ts)]=>some (cw .s 0 ts)
 | .enmT,[(_,.tup ts)]=>some (cw .s 0 ts)
 | .zip,[(m,a),(n,b)]=>(fV (m,a)).bind fun ts=>(fV (n,b)).bind fun us=>some (BQ .s .s ts us)
 | .sq2,[(_,.lst ts)]=>bw ts
 | .zip3,[(_,.lst ts),(_,.lst us),(_,.lst vs)]=>some (nJ ts us vs)
 | .chr,[(_,.str x)]=>some (x.cps.toList.map fun c=>[(.d,.str ⟨#[c]⟩)])
 | _,_=>none
noncomputable abbrev Call:=Nat->List W->Res (W×List W)
noncomputable abbrev RE:=Res (W×Env)
noncomputable def lf (m:Md)(t:T):Md:=if t.leaf=true then .d else m
noncomputable def fo:List W->Md
 | []=>.d
 | w::ws=>(lf w.1 w.2).meet (fo ws)
noncomputable def aI:List W->List T
 | []=>[]
 | w::ws=>w.2::aI ws
noncomputable def ae:List Nat->Env->Env
 | [],η=>η
 | i::is,η=>ae is (del η i)
noncomputable def ios:List E->List Nat
 | []=>[]
 | .io i::es=>i::ios es
 | _::es=>ios es
noncomputable def putAll:List Nat->List W->Env->Env
 | i::is,w::ws,η=>putAll is ws (put η i w)
 | _,_,η=>η
noncomputable def gV:W->List W->Option (W×W)
 | (.s,_),_=>none
 | (m,.lst ts),[]=>(ts.getLast?).map fun t=>((m.kid,t),(m,.lst ts.dropLast))
 | (m,.lst (t::ts)),[(_,.int 0)]=>some ((m.kid,t),(m,.lst ts))
 | _,_=>none
noncomputable def fD:W->W->Option W
 | (.s,_),_=>none
 | (m,.lst ts),(n,t)=>if ts.length < LIM then some ((m.kid.meet (lf n t)).up,.lst (ts++[t])) else none
 | _,_=>none
noncomputable def xC:W->W->Option W
 | (.s,_),_=>none
 | (m,.lst ts),(n,.lst us)=>if ts.length+us.length<=LIM then some ((m.kid.meet n.kid).up,.lst (ts++us)) else none
 | _,_=>none
noncomputable def aC (k:Int ⊕ Str)(t:T):List (Int ⊕ Str)->List T->List (Int ⊕ Str)×List T
 | [],_=>([k],[t])
 | y::ys,v::vs=>if y=k then (y::ys,t::vs) else ((y::(aC k t ys vs).1),(v::(aC k t ys vs).2))
 | y::ys,[]=>(y::ys,[])
noncomputable def AO:W->W->W->Option W
 | (.s,_),_,_=>none
 | (m,.dct ks vs),(_,k),(_,t)=>(keyT k).bind fun q=>if decide (ks.length < LIM)&&iz t then some (m,.dct (aC q t ks vs).1 (aC q t ks vs).2) else none
 | _,_,_=>none
noncomputable def c7:W->W->W->Option W
 | (.s,_),_,_=>none
 | (m,.dct ks vs),(_,k),(_,t)=>(keyT k).bind fun q=>if decide (ks.length < LIM) then some (.o .s,.dct (aC q t ks vs).1 (aC q t ks vs).2) else none
 | _,_,_=>none
noncomputable def Dp:W->W->Option W
 | (.s,_),_=>none
 | (m,.lst ts),(_,t)=>if decide (ts.length < LIM)&&leaves ts&&t.leaf then some (m,.lst (t::ts)) else none
 | _,_=>none
noncomputable def Di:W->Option W
 | (.s,_)=>none
 | (m,.lst ts)=>if decide (ts.length < LIM)&&leaves ts then some (m,.lst ts.reverse) else none
 | _=>none
noncomputable def apU (ts:List T)(q:Nat)(t:T):Option T->Option W
 | some (.lst us)=>if decide (us.length < LIM)&&t.leaf then some (.d,.lst (ts.set q (.lst (us++[t])))) else none
 | _=>none
noncomputable def gm:Option W->Option W->Option W->Option W
 | some (.d,.lst ts),some (_,.int j),some (_,t)=>(ixN ts.length j).bind fun q=>apU ts q t ts[q]?
 | _,_,_=>none
noncomputable def eE:Option W->Option W->Option W->Option W
 | some (.s,_),_,_=>none
 | some (m,.lst ts),some (_,.int j),some (_,t)=>if decide (0<=j)&&decide (j.toNat<=ts.length)&&decide (ts.length < 1000)&&leaves ts&&t.leaf then some (m,.lst (ts.take j.toNat++t::ts.drop j.toNat)) else none
 | _,_,_=>none
noncomputable def u0 (ts:List T)(q:Nat)(cs:List T):Option T->Option W
 | some (.lst us)=>if decide (us.length < LIM)&&leaves cs&&decide (cs.length<=100) then some (.d,.lst (ts.set q (.lst (us++[.tup cs])))) else none
 | _=>none
noncomputable def jN (cs:List T):Option W->Option W->Option W
 | some (.d,.lst ts),some (_,.int j)=>(ixN ts.length j).bind fun q=>u0 ts q cs ts[q]?
 | _,_=>none
noncomputable def kE (ts:List T)(q:Nat):Option T->Option W
 | some (.lst us)=>if us.isEmpty then none else some (.d,.lst (ts.set q (.lst us.dropLast)))
 | _=>none
noncomputable def ek:Option W->Option W->Option W
 | some (.d,.lst ts),some (_,.int j)=>(ixN ts.length j).bind fun q=>kE ts q ts[q]?
 | _,_=>none
noncomputable def isL:T->Bool
 | .lst _=>true
 | _=>false
noncomputable def kb:Option W->Option W
 | some (.d,.lst ts)=>if ts.all isL then some (.d,.lst (ts.map fun _=>.lst [])) else none
 | _=>none
noncomputable def fH:W->W->Option (W×W)
 | (.s,_),_=>none
 | (m,.lst ts),(_,.int j)=>if decide (0<=j)&&decide (j < 1000)&&leaves ts then (ts[j.toNat]?).map fun t=>((.d,t),(m,.lst (ts.eraseIdx j.toNat))) else none
 | _,_=>none
noncomputable def bV:W->W->W->Option W
 | (.s,_),_,_=>none
 | (m,.lst ts),(_,.int j),(n,t)=>(ixN ts.length j).map fun k=>((m.kid.meet (lf n t)).up,.lst (ts.set k t))
 | _,_,_=>none
noncomputable def cK:Option W->Res Unit
 | some (_,.lst _)=>.ok ()
 | _=>.no
noncomputable def Cv:W->Option (List W)
 | (m,.tup ts)=>some (ts.map fun t=>(m.kid,t))
 | _=>none
noncomputable def ret {α:Type}(η:Env)(o:Option α):Res (α×Env):=match o with
 | some a=>.ok (a,η)
 | none=>.no
noncomputable def onB {α:Type}:T->(Env->Res α)->(Env->Res α)->Env->Res α
 | .bl true,f,_,η=>f η
 | .bl false,_,g,η=>g η
 | _,_,_,_=>.no
noncomputable def onT {α:Type}(f g:Env->Res α)(p:W×Env):Res α:=match a6 p.1.2 with
 | some true=>f p.2
 | some false=>g p.2
 | none=>.no
noncomputable def okW {α:Type}(a:α)(η:Env):Res (α×Env):=.ok (a,η)
noncomputable def kd (p:List W×Env):RE:=.ok (((fo p.1).up,.tup (aI p.1)),p.2)
noncomputable def qD (h:Bool)(p:List W×Env):RE:=.ok ((if h then (fo p.1).up else .o .s,.lst (aI p.1)),p.2)
noncomputable def kWk (m:Md)(p:W×Env):RE:=ret p.2 (if m.le p.1.1 then some (m,p.1.2) else none)
noncomputable def kOp (o:Op)(h:Bool)(p:List W×Env):RE:=ret p.2 (oSem o h p.1)
noncomputable def oE (f:Env->RE)(p:W×Env):RE:=onT f (okW p.1) p
noncomputable def kOr (f:Env->RE)(p:W×Env):RE:=onT (okW p.1) f p
noncomputable def nr (p:W×Env):RE:=ret p.2 ((a6 p.1.2).map fun b=>(.d,.bl (!b)))
noncomputable def kC3 (q:Op)(y:W)(z:W×Env):RE:=ret z.2 (oSem q false [y,z.1])
noncomputable def lg {α β:Type}(f:Env->Res (α×Env))(k:α×Env->Res β)(η:Env):Res β:=(f η).bind k
noncomputable def kC2 (o q:Op)(fc:Env->RE)(x:W)(y:W×Env):RE:=(ret y.2 (oSem o false [x,y.1])).bind fun k=>onB k.1.2 (lg fc (kC3 q y.1)) (okW (.d,.bl false)) k.2
noncomputable def kC1 (o q:Op)(fb fc:Env->RE)(x:W×Env):RE:=(fb x.2).bind (kC2 o q fc x.1)
noncomputable def iA (is:List Nat)(η:Env)(r:W×List W):RE:=.ok (r.1,putAll is r.2 η)
noncomputable def eS (C:Call)(f:Nat)(is:List Nat)(p:List W×Env):RE:=(C f p.1).bind (iA is p.2)
noncomputable def cj (p:W×Env):Res (Option W×Env):=.ok (some p.1,p.2)
noncomputable def cu (f:Env->RE)(η:Env):Res (Option W×Env):=(f η).bind cj
noncomputable def bE (c f:Env->RE)(η:Env):Res (Option W×Env):=(c η).bind (onT (cu f) (okW none))
noncomputable def ay (tg:List Nat)(f:Env->Res (Option W×Env)):List (List W)->Env->List W->Res (List W×Env)
 | [],η,acc=>.ok (acc,η)
 | ws::r,η,acc=>(ofO (aM tg ws η)).bind fun η1=>(f η1).bind fun p=>ay tg f r (ae tg p.2) (acc++p.1.toList)
noncomputable def okD (w:W):Bool:=w.1==.d || w.2.leaf
noncomputable def eT (h:Bool)(q:List W×Env):RE:=ret q.2 (if h then (if q.1.all okD then some (.d,.lst (aI q.1)) else none) else some (.o .s,.lst (aI q.1)))
noncomputable def de (h:Bool)(k:Ik)(tg:List Nat)(f:Env->Res (Option W×Env))(p:List W×Env):RE:=(ret (ae tg p.2) (a7 k p.1)).bind fun t=>(ay tg f t.1 t.2 []).bind (eT h)
noncomputable def vwT:Option W->Option (List T)
 | some (.s,_)=>none
 | some (_,.lst ts)=>if leaves ts then some ts else none
 | _=>none
noncomputable def kV2 (i:Nat)(w:Option W)(p:W×Env):RE:=.ok (p.1,wr p.2 i w)
noncomputable def kV1 (h:Bool)(i t:Nat)(f:Env->Res (Option W×Env))(η:Env)(ts:List T):RE:=((ay [t] f (ts.map fun u=>[(.s,u)]) (ae [t] (del η i)) []).bind (eT h)).bind (kV2 i (rd η i))
noncomputable def il (f:Env->Res (List W×Env))(η:Env)(k:List W×Env->RE)(_:Unit):RE:=(f η).bind k
noncomputable def mr (i:Nat)(p:List W×Env):RE:=(ofO ((rd p.2 i).bind fun w=>gV w p.1)).bind fun r=>.ok (r.1,put p.2 i r.2)
noncomputable def AG:Option W->Option W->Option W
 | some (.o .s,.lst ts),some (_,.int j)=>(atI ts j).map fun t=>(.s,t)
 | some (.s,.lst ts),some (_,.int j)=>(atI ts j).map fun t=>(.s,t)
 | _,_=>none
noncomputable def ed (f:Env->RE)(η:Env)(k:W×Env->RE)(_:Unit):RE:=(f η).bind k
noncomputable def fu (i:Nat)(p:W×Env):RE:=(ofO ((rd p.2 i).bind fun w=>fH w p.1)).bind fun r=>.ok (r.1,put p.2 i r.2)
noncomputable def kH (w:W)(q:List W×Env):Res (List W×Env):=.ok (w::q.1,q.2)
noncomputable def aV (f:Env->Res (List W×Env))(p:W×Env):Res (List W×Env):=(f p.2).bind (kH p.1)
noncomputable def qc:List Nat->Md->T->Option (W×T)
 | [],m,t=>some ((m,t),.gone)
 | j::p,m,.lst ts=>(ts[j]?).bind fun t=>(qc p m.kid t).map fun r=>(r.1,.lst (ts.set j r.2))
 | j::p,m,.tup ts=>(ts[j]?).bind fun t=>(qc p m.kid t).map fun r=>(r.1,.tup (ts.set j r.2))
 | _::_,_,_=>none
noncomputable def vm (p:List Nat)(w:W):Option (W×W):=(qc p w.1 w.2).map fun r=>(r.1,(w.1,r.2))
noncomputable def Ar (i:Nat)(η:Env)(r:W×W):RE:=.ok (r.1,put η i r.2)
noncomputable def mI {α:Type}(tab:List (Str×α))(f:α->Env->RE)(p:W×Env):RE:=match p.1.2 with
 | .str x=>match tab.lookup x with
  | some a=>f a p.2
  | none=>.no
 | _=>.no
noncomputable def kCT (C:Call)(fa:Env->Res (List W×Env))(is:List Nat)(j:Nat)(η:Env):RE:=(fa η).bind (eS C j is)
noncomputable def kIn (neg:Bool)(ks:List Str)(p:W×Env):RE:=match p.1.2 with
 | .str x=>.ok ((.d,.bl (ks.contains x != neg)),p.2)
 | _=>.no
noncomputable def okS (t:T)(η:Env):RE:=.ok ((.s,t),η)
noncomputable def rg (tab:List (Str×T))(p:W×Env):RE:=match p.1.2 with
 | .str x=>.ok ((.s,(tab.lookup x).getD .non),p.2)
 | _=>.no
noncomputable def kX (vs:List Nat)(η:Env)(p:W×Env):RE:=.ok ((lf p.1.1 p.1.2,p.1.2),after (lf p.1.1 p.1.2) vs η)
noncomputable def kIo (i:Nat)(p:List W×Env):Res (List W×Env):=(ofO (rd p.2 i)).bind fun w=>.ok (w::p.1,del p.2 i)
section
variable (C:Call)
mutual
noncomputable def evE:E->Env->RE
 | .var i,η=>ret η ((rd η i).bind look)
 | .mv i,η=>ret (del η i) (rd η i)
 | .io i,η=>ret (del η i) (rd η i)
 | .cst t,η=>.ok ((.d,t),η)
 | .glb _ t,η=>.ok ((.s,t),η)
 | .tup es,η=>(evL es η).bind kd
 | .lst h es,η=>(evL es η).bind (qD h)
 | .wk m e,η=>(evE e η).bind (kWk m)
 | .op o h es,η=>(evL es η).bind (kOp o h)
 | .and a b,η=>(evE a η).bind (oE (evE b))
 | .or a b,η=>(evE a η).bind (kOr (evE b))
 | .not a,η=>(evE a η).bind nr
 | .ifx c a b,η=>(evE c η).bind (onT (evE a) (evE b))
 | .chain o q a b c,η=>(evE a η).bind (kC1 o q (evE b) (evE c))
 | .call f es,η=>(evA es η).bind (eS C f (ios es))
 | .comp h k src tg none elt,η=>(evL src η).bind (de h k tg (cu (evE elt)))
 | .comp h k src tg (some c) elt,η=>(evL src η).bind (de h k tg (bE (evE c) (evE elt)))
 | .pop i es,η=>(cK (rd η i)).bind (il (evL es) η (mr i))
 | .lenV i,η=>ret η ((rd η i).bind fun w=>oSem .len false [w])
 | .ixV i j,η=>ret η (AG (rd η i) (rd η j))
 | .compV h i t c e,η=>(ofO (vwT (rd η i))).bind (kV1 h i t (bE (evE c) (evE e)) η)
 | .popN i e,η=>(cK (rd η i)).bind (ed (evE e) η (fu i))
 | .tupA es,η=>(evA es η).bind kd
 | .qx vs ls e,η=>(evE e (cM vs ls η)).bind (kX vs η)
 | .mvP i p,η=>(ofO ((rd η i).bind (vm p))).bind (Ar i η)
 | .callT tab k es,η=>(evE k η).bind (mI tab (kCT C (evA es) (ios es)))
 | .inT neg ks e,η=>(evE e η).bind (kIn neg ks)
 | .ixT tab e,η=>(evE e η).bind (mI tab okS)
 | .getT tab e,η=>(evE e η).bind (rg tab)
noncomputable def evL:List E->Env->Res (List W×Env)
 | [],η=>.ok ([],η)
 | e::es,η=>(evE e η).bind (aV (evL es))
noncomputable def evA:List E->Env->Res (List W×Env)
 | [],η=>.ok ([],η)
 | .io i::es,η=>(evA es η).bind (kIo i)
 | e::es,η=>(evE e η).bind (aV (evA es))
end
noncomputable def kT (η:Env)(p:W×Env):Res (Bool×Env):=ret η (a6 p.1.2)
noncomputable def kT2 (p:W×Env):Res (Bool×Env):=ret p.2 (a6 p.1.2)
noncomputable def evX:X->E->Env->RE
 | .q vs ls,e,η=>(evE C e (cM vs ls η)).bind (kX vs η)
 | .l vs,e,η=>evE C e (share vs η)
noncomputable def evT:X->E->Env->Res (Bool×Env)
 | .q vs ls,e,η=>(evE C e (cM vs ls η)).bind (kT η)
 | .l vs,e,η=>(evE C e (share vs η)).bind kT2
noncomputable def Fl.of {α:Type}(η:Env):Res α->(α->Fl)->Fl
 | .ok a,f=>f a
 | .ex c x,_=>.ex c x η
 | .no,_=>.no
noncomputable def Fl.seq:Fl->(Env->Fl)->Fl
 | .nx η,f=>f η
 | z,_=>z
noncomputable def Fl.turn:Fl->(Env->Fl)->Fl
 | .nx η,f=>f η
 | .bk η,_=>.nx η
 | z,_=>z
noncomputable def onF:Bool->(Env->Fl)->(Env->Fl)->Env->Fl
 | true,f,_,η=>f η
 | false,_,g,η=>g η
noncomputable def bf (tg:List Nat)(f:Env->Fl):List (List W)->Env->Fl
 | [],η=>.nx η
 | ws::r,η=>Fl.of η (ofO (aM tg ws η)) fun η1=>Fl.turn (f η1) (bf tg f r)
noncomputable def kIf (f g:Env->Fl)(p:Bool×Env):Fl:=onF p.1 f g p.2
noncomputable def nq (f:Env->Fl)(g:Env->Fl)(η:Env):Fl:=Fl.turn (f η) g
noncomputable def fF (c:Env->Res (Bool×Env))(f:Env->Fl):Nat->Env->Fl
 | 0,_=>.no
 | n+1,η=>Fl.of η (c η) (kIf (nq f (fF c f n)) .nx)
noncomputable def fE:Nat:=1000000000000
noncomputable def nxO (η:Env):Option Env->Fl
 | some η=>.nx η
 | none=>.no
noncomputable def uP (i:Nat)(p:W×Env):Fl:=.nx (put p.2 i p.1)
noncomputable def vA (is:List Nat)(p:W×Env):Fl:=nxO p.2 ((Cv p.1).bind fun ws=>aM is ws p.2)
noncomputable def n9 (i:Nat)(p:W×Env):Fl:=nxO p.2 (((rd p.2 i).bind fun w=>fD w p.1).map fun w=>put p.2 i w)
noncomputable def xV (i:Nat)(p:W×Env):Fl:=nxO p.2 (((rd p.2 i).bind fun w=>xC w p.1).map fun w=>put p.2 i w)
noncomputable def ox (i:Nat)(x:W)(q:W×Env):Fl:=nxO q.2 (((rd q.2 i).bind fun w=>bV w q.1 x).map fun w=>put q.2 i w)
noncomputable def qH (i:Nat)(x:W)(q:W×Env):Fl:=nxO q.2 (((rd q.2 i).bind fun w=>AO w q.1 x).map fun w=>put q.2 i w)
noncomputable def pA (i:Nat)(f:Env->RE)(η:Env)(p:W×Env):Fl:=Fl.of η (f p.2) (qH i p.1)
noncomputable def jS (i:Nat)(x:W)(q:W×Env):Fl:=nxO q.2 (((rd q.2 i).bind fun w=>c7 w q.1 x).map fun w=>put q.2 i w)
noncomputable def kY (i:Nat)(f:Env->RE)(η:Env)(p:W×Env):Fl:=Fl.of η (f p.2) (jS i p.1)
noncomputable def DK (i:Nat)(p:W×Env):Fl:=nxO p.2 (((rd p.2 i).bind fun w=>Dp w p.1).map fun w=>put p.2 i w)
noncomputable def tE (i:Nat)(f:Env->RE)(η:Env)(p:W×Env):Fl:=Fl.of η (f p.2) (ox i p.1)
noncomputable def kl (f:Env->RE)(η:Env)(k:W×Env->Fl)(_:Unit):Fl:=Fl.of η (f η) k
noncomputable def kNx (p:W×Env):Fl:=.nx p.2
noncomputable def kRt (p:W×Env):Fl:=.rt p.1 p.2
noncomputable def iJ (tg:List Nat)(f:Env->Fl)(t:List (List W)×Env):Fl:=bf tg f t.1 t.2
noncomputable def rO (vs:List Nat)(k:Ik)(tg:List Nat)(f:Env->Fl)(η:Env)(p:List W×Env):Fl:=Fl.of η (ret (share vs η) (a7 k p.1)) (iJ tg f)
noncomputable def kC (k:Ik)(tg:List Nat)(f:Env->Fl)(p:List W×Env):Fl:=Fl.of p.2 (ret p.2 (a7 k p.1)) (iJ tg f)
mutual
noncomputable def evS:S->Env->Fl
 | .asg x i e,η=>Fl.of η (evX C x e η) (uP i)
 | .asgT x is e,η=>Fl.of η (evX C x e η) (vA is)
 | .setI x i k e,η=>Fl.of η (evX C x e η) (tE i (evX C x k) η)
 | .setK x i k e,η=>Fl.of η (evX C x e η) (pA i (evX C x k) η)
 | .setS x i k e,η=>Fl.of η (evX C x e η) (kY i (evX C x k) η)
 | .insF x i e,η=>Fl.of η (cK (rd η i)) (kl (evX C x e) η (DK i))
 | .revS i,η=>nxO η (((rd η i).bind Di).map fun w=>put η i w)
 | .apN i k l,η=>nxO η ((gm (rd η i) (rd η k) (rd η l)).map fun w=>put η i w)
 | .insN i k l,η=>nxO η ((eE (rd η i) (rd η k) (rd η l)).map fun w=>put η i w)
 | .apC i k cs,η=>nxO η ((jN cs (rd η i) (rd η k)).map fun w=>put η i w)
 | .popI i k,η=>nxO η ((ek (rd η i) (rd η k)).map fun w=>put η i w)
 | .clrA i j,η=>nxO η ((kb (rd η i)).map fun w=>put (del η j) i w)
 | .exp x e,η=>Fl.of η (evX C x e η) kNx
 | .app x i e,η=>Fl.of η (cK (rd η i)) (kl (evX C x e) η (n9 i))
 | .ext x i e,η=>Fl.of η (cK (rd η i)) (kl (evX C x e) η (xV i))
 | .ret vs e,η=>Fl.of η (evE C e (share vs η)) kRt
 | .retN,η=>.rt (.d,.non) η
 | .ite x c a b,η=>Fl.of η (evT C x c η) (kIf (evSs a) (evSs b))
 | .forS vs ls k src tg body,η=>Fl.of η (evL C src (cM vs ls η)) (rO vs k tg (evSs body) η)
 | .forU k src tg body,η=>Fl.of η (evL C src η) (kC k tg (evSs body))
 | .whl x c body,η=>fF (evT C x c) (evSs body) fE η
 | .brk,η=>.bk η
 | .pas,η=>.nx η
 | .stop,_=>.no
 | .tri body,η=>evSs body η
noncomputable def evSs:List S->Env->Fl
 | [],η=>.nx η
 | s::r,η=>Fl.seq (evS s η) (evSs r)
end
end
noncomputable def backs:List Nat->Env->Option (List W)
 | [],_=>some []
 | i::is,η=>(rd η i).bind fun w=>(backs is η).bind fun ws=>some (w::ws)
noncomputable def n8 (w:W)(b:List W):Res (W×List W):=.ok (w,b)
noncomputable def Fl.out (io:List Nat):Fl->Res (W×List W)
 | .nx η=>(ofO (backs io η)).bind (n8 (.d,.non))
 | .rt w η=>(ofO (backs io η)).bind (n8 w)
 | .ex c x _=>.ex c x
 | _=>.no
noncomputable def runF (C:Call)(f:Fn)(ws:List W):Res (W×List W) :=
 if ws.length=f.ps then Fl.out f.io (evSs C f.body (ws.map some++a0l f.ns none)) else .no
noncomputable abbrev Du:=List Fn
noncomputable def yJ (n:Nat):List W->Res (W×List W)
 | [(m,t)]=>if (lf m t==.d&&(decide (dp t<=n)&&decide (dp t<=64)))=true then .ok ((.d,.non),[]) else .no
 | _=>.no
noncomputable def vC:List Nat->List T->List T
 | [],_=>[]
 | n::ns,ts=>.lst (ts.take n)::vC ns (ts.drop n)
noncomputable def ny:List T->Option (List Nat)
 | []=>some []
 | .int (.ofNat n)::ts=>(ny ts).map (n::·)
 | _::_=>none
noncomputable def BU:List W->Res (W×List W)
 | [(_,.lst ls),(m,.lst ts)]=>(ofO (ny ls)).bind fun ns=>.ok ((m.kid.up.up,.lst (vC ns ts)),[])
 | _=>.no
noncomputable def callR (P:Du)(s r:Nat):Nat->Call
 | 0=>fun _ _=>.no
 | n+1=>fun f ws=>if f=s then yJ n ws else if f=r then BU ws else (ofO P[f]?).bind fun d=>runF (callR P s r n) d ws
noncomputable abbrev zf:Fn:={ ps:=0,ns:=0,io:=[],body:=[.stop] }
theorem xS (C:Call)(i:Nat)(η:Env):evE C (.var i) η=ret η ((rd η i).bind look):=rfl
theorem xn (C:Call)(i:Nat)(η:Env):evE C (.mv i) η=ret (del η i) (rd η i):=rfl
theorem wJ (C:Call)(i:Nat)(η:Env):evE C (.io i) η=ret (del η i) (rd η i):=rfl
theorem zi (C:Call)(t:T)(η:Env):evE C (.cst t) η=.ok ((.d,t),η):=rfl
theorem zl (C:Call)(es:List E)(η:Env):evE C (.tup es) η=(evL C es η).bind kd:=rfl
theorem xP (C:Call)(h:Bool)(es:List E)(η:Env):evE C (.lst h es) η=(evL C es η).bind (qD h):=rfl
theorem xR (C:Call)(o:Op)(h:Bool)(es:List E)(η:Env):evE C (.op o h es) η=(evL C es η).bind (kOp o h):=rfl
theorem ub (C:Call)(a:E)(b:E)(η:Env):evE C (.and a b) η=(evE C a η).bind (oE (evE C b)):=rfl
theorem rW (C:Call)(a:E)(b:E)(η:Env):evE C (.or a b) η=(evE C a η).bind (kOr (evE C b)):=rfl
theorem tO (C:Call)(a:E)(η:Env):evE C (.not a) η=(evE C a η).bind nr:=rfl
theorem q9 (C:Call)(c:E)(a:E)(b:E)(η:Env):evE C (.ifx c a b) η=(evE C c η).bind (onT (evE C a) (evE C b)):=rfl
theorem rK (C:Call)(o:Op)(q:Op)(a:E)(b:E)(c:E)(η:Env):evE C (.chain o q a b c) η=(evE C a η).bind (kC1 o q (evE C b) (evE C c)):=rfl
theorem ua (C:Call)(f:Nat)(es:List E)(η:Env):evE C (.call f es) η=(evA C es η).bind (eS C f (ios es)):=rfl
theorem tL (C:Call)(h:Bool)(k:Ik)(src:List E)(tg:List Nat)(elt:E)(η:Env):evE C (.comp h k src tg none elt) η=(evL C src η).bind (de h k tg (cu (evE C elt))):=rfl
theorem rj (C:Call)(h:Bool)(k:Ik)(src:List E)(tg:List Nat)(c:E)(elt:E)(η:Env):evE C (.comp h k src tg (some c) elt) η=(evL C src η).bind (de h k tg (bE (evE C c) (evE C elt))):=rfl
theorem uT (C:Call)(i:Nat)(es:List E)(η:Env):evE C (.pop i es) η=(cK (rd η i)).bind (il (evL C es) η (mr i)):=rfl
theorem nT (C:Call)(vs ls:List Nat)(e:E)(η:Env):evE C (.qx vs ls e) η=(evE C e (cM vs ls η)).bind (kX vs η):=rfl
theorem pU (C:Call)(vs ls:List Nat)(e:E)(es:List E)(η:Env):evA C (.qx vs ls e::es) η=(evE C (.qx vs ls e) η).bind (aV (evA C es)):=rfl
theorem wH (h:Bool)(m n:Md)(ts:List T)(i:Int):oSem .sl2 h [(m,.lst ts),(n,.int i)]=newL h m.kid (cut ts none (some i)):=rfl
theorem yh (h:Bool)(m n:Md)(ts:List T)(i:Int):oSem .sl1 h [(m,.lst ts),(n,.int i)]=newL h m.kid (cut ts (some i) none):=rfl
theorem zk (h:Bool)(m n:Md)(ts:List T)(k:Int):oSem .mul h [(m,.lst ts),(n,.int k)]=if decide (k.natAbs < 4611686018427387904)&&fits (ts.length * k.toNat) then newL h .s (a0l k.toNat ts).flatten else none:=rfl
theorem Ce (h:Bool)(m n:Md)(i j:Int):oSem .min h [(m,.int i),(n,.int j)]=some (.d,.int (if j < i then j else i)):=rfl
theorem zS (h:Bool)(m n:Md)(i j:Int):oSem .rng h [(m,.int i),(n,.int j)]=if decide (i.natAbs < 4611686018427387904)&&decide (j.natAbs < 4611686018427387904)&&fits (j-i).toNat then some (.d,.lst ((a0p (j-i).toNat).map fun (k:Nat)=>T.int (i+k))) else none:=rfl
theorem Cb (m:Md)(ts:List T):a7 .enm [(m,.lst ts)]=some (cw .s 0 ts):=rfl
noncomputable def lkM:Md->Md
 | .s=>.s | _=>.d
theorem Dq:lkM .s=.s:=rfl
theorem DG:lkM .d=.d:=rfl
theorem DO (m:Md):lkM (.o m)=.d:=rfl
theorem Aa (m:Md)(i:Int):look (m,.int i)=some (lkM m,.int i):=by cases m<;>rfl
theorem AR (m:Md)(b:Bool):look (m,.bl b)=some (lkM m,.bl b):=by cases m<;>rfl
theorem By (m:Md)(x:Str):look (m,.str x)=some (lkM m,.str x):=by cases m<;>rfl
theorem Co (m:Md):look (m,.non)=some (lkM m,.non):=by cases m<;>rfl
theorem wy (m n k:Md)(ts us vs:List T):a7 .zip3 [(m,.lst ts),(n,.lst us),(k,.lst vs)]=some (nJ ts us vs):=rfl
theorem ke (C:Call)(i:Nat)(η:Env):evE C (.lenV i) η=ret η ((rd η i).bind fun w=>oSem .len false [w]):=rfl
theorem jw (C:Call)(i:Nat)(es:List E)(η:Env):evA C (.lenV i::es) η=(evE C (.lenV i) η).bind (aV (evA C es)):=rfl
theorem yF (C:Call)(η:Env):evA C [] η=.ok ([],η):=rfl
theorem wo (C:Call)(i:Nat)(es:List E)(η:Env):evA C (.io i::es) η=(evA C es η).bind (kIo i):=rfl
theorem mE (C:Call)(i:Nat)(es:List E)(η:Env):evA C (.var i::es) η=(evE C (.var i) η).bind (aV (evA C es)):=rfl
theorem oW (C:Call)(i:Nat)(es:List E)(η:Env):evA C (.mv i::es) η=(evE C (.mv i) η).bind (aV (evA C es)):=rfl
theorem ma (C:Call)(t:T)(es:List E)(η:Env):evA C (.cst t::es) η=(evE C (.cst t) η).bind (aV (evA C es)):=rfl
theorem mF (C:Call)(l:List E)(es:List E)(η:Env):evA C (.tup l::es) η=(evE C (.tup l) η).bind (aV (evA C es)):=rfl
theorem mO (C:Call)(h:Bool)(l:List E)(es:List E)(η:Env):evA C (.lst h l::es) η=(evE C (.lst h l) η).bind (aV (evA C es)):=rfl
theorem oQ (C:Call)(o:Op)(h:Bool)(l:List E)(es:List E)(η:Env):evA C (.op o h l::es) η=(evE C (.op o h l) η).bind (aV (evA C es)):=rfl
theorem mG (C:Call)(a b:E)(es:List E)(η:Env):evA C (.and a b::es) η=(evE C (.and a b) η).bind (aV (evA C es)):=rfl
theorem qr (C:Call)(a b:E)(es:List E)(η:Env):evA C (.or a b::es) η=(evE C (.or a b) η).bind (aV (evA C es)):=rfl
theorem lU (C:Call)(a:E)(es:List E)(η:Env):evA C (.not a::es) η=(evE C (.not a) η).bind (aV (evA C es)):=rfl
theorem jR (C:Call)(f:Nat)(l:List E)(es:List E)(η:Env):evA C (.call f l::es) η=(evE C (.call f l) η).bind (aV (evA C es)):=rfl
theorem ju (C:Call)(h:Bool)(k:Ik)(src:List E)(tg:List Nat)(cnd:Option E)(elt:E)(es:List E)(η:Env):evA C (.comp h k src tg cnd elt::es) η=(evE C (.comp h k src tg cnd elt) η).bind (aV (evA C es)):=rfl
theorem mT (C:Call)(i:Nat)(l:List E)(es:List E)(η:Env):evA C (.pop i l::es) η=(evE C (.pop i l) η).bind (aV (evA C es)):=rfl
theorem v5 {C:Call}{e:E}{es:List E}{η:Env}(he:∀ i,e≠.io i):evA C (e::es) η=(evE C e η).bind (aV (evA C es)):=by
 cases e with
 | io i=>exact absurd rfl (he i)
 | _=>rfl
theorem tN (C:Call)(η:Env):evL C ([]) η=.ok ([],η):=rfl
theorem tQ (C:Call)(e:E)(es:List E)(η:Env):evL C (e::es) η=(evE C e η).bind (aV (evL C es)):=rfl
theorem rq (C:Call)(x:X)(i:Nat)(e:E)(η:Env):evS C (.asg x i e) η=Fl.of η (evX C x e η) (uP i):=rfl
theorem tG (C:Call)(x:X)(is:List Nat)(e:E)(η:Env):evS C (.asgT x is e) η=Fl.of η (evX C x e η) (vA is):=rfl
theorem ka (C:Call)(x:X)(i:Nat)(k:E)(e:E)(η:Env):evS C (.setK x i k e) η=Fl.of η (evX C x e η) (pA i (evX C x k) η):=rfl
theorem rh (C:Call)(x:X)(i:Nat)(k:E)(e:E)(η:Env):evS C (.setI x i k e) η=Fl.of η (evX C x e η) (tE i (evX C x k) η):=rfl
theorem sL (C:Call)(x:X)(e:E)(η:Env):evS C (.exp x e) η=Fl.of η (evX C x e η) kNx:=rfl
theorem tD (C:Call)(x:X)(i:Nat)(e:E)(η:Env):evS C (.app x i e) η=Fl.of η (cK (rd η i)) (kl (evX C x e) η (n9 i)):=rfl
theorem sj (C:Call)(x:X)(i:Nat)(e:E)(η:Env):evS C (.ext x i e) η=Fl.of η (cK (rd η i)) (kl (evX C x e) η (xV i)):=rfl
theorem tX (C:Call)(vs:List Nat)(e:E)(η:Env):evS C (.ret vs e) η=Fl.of η (evE C e (share vs η)) kRt:=rfl
theorem uc (C:Call)(η:Env):evS C (.retN) η=.rt (.d,.non) η:=rfl
theorem u9 (C:Call)(x:X)(c:E)(a:List S)(b:List S)(η:Env):evS C (.ite x c a b) η=Fl.of η (evT C x c η) (kIf (evSs C a) (evSs C b)):=rfl
theorem qO (C:Call)(k:Ik)(src:List E)(tg:List Nat)(body:List S)(η:Env):evS C (.forU k src tg body) η=Fl.of η (evL C src η) (kC k tg (evSs C body)):=rfl
theorem so (C:Call)(vs:List Nat)(ls:List Nat)(k:Ik)(src:List E)(tg:List Nat)(body:List S)(η:Env):evS C (.forS vs ls k src tg body) η=Fl.of η (evL C src (cM vs ls η)) (rO vs k tg (evSs C body) η):=rfl
theorem vf (C:Call)(x:X)(c:E)(body:List S)(η:Env):evS C (.whl x c body) η=fF (evT C x c) (evSs C body) fE η:=rfl
theorem tM (C:Call)(η:Env):evS C (.brk) η=.bk η:=rfl
theorem uK (C:Call)(η:Env):evS C (.pas) η=.nx η:=rfl
theorem qA (C:Call)(η:Env):evSs C ([]) η=.nx η:=rfl
theorem nX (C:Call)(s:S)(r:List S)(η:Env):evSs C (s::r) η=Fl.seq (evS C s η) (evSs C r):=rfl
theorem sP (C:Call)(vs:List Nat)(ls:List Nat)(e:E)(η:Env):evX C (.q vs ls) e η=(evE C e (cM vs ls η)).bind (kX vs η):=rfl
theorem ud (C:Call)(vs:List Nat)(e:E)(η:Env):evX C (.l vs) e η=evE C e (share vs η):=rfl
theorem sR (C:Call)(vs:List Nat)(ls:List Nat)(e:E)(η:Env):evT C (.q vs ls) e η=(evE C e (cM vs ls η)).bind (kT η):=rfl
theorem rB (C:Call)(vs:List Nat)(e:E)(η:Env):evT C (.l vs) e η=(evE C e (share vs η)).bind kT2:=rfl
theorem vU {α β:Type}(a:α)(f:α->Res β):(Res.ok a).bind f=f a:=rfl
theorem CY {α:Type}(η:Env)(a:α)(f:α->Fl):Fl.of η (.ok a) f=f a:=rfl
theorem xh (η:Env)(f:Env->Fl):Fl.seq (.nx η) f=f η:=rfl
theorem xg (w:W)(η:Env)(f:Env->Fl):Fl.seq (.rt w η) f=.rt w η:=rfl
theorem wU (η:Env)(f:Env->Fl):Fl.seq (.bk η) f=.bk η:=rfl
theorem va (η:Env)(f:Env->Fl):Fl.turn (.nx η) f=f η:=rfl
theorem r9 (w:W)(η:Env)(f:Env->Fl):Fl.turn (.rt w η) f=.rt w η:=rfl
theorem um (η:Env)(f:Env->Fl):Fl.turn (.bk η) f=.nx η:=rfl
theorem yI {α:Type}(f g:Env->Res α)(η:Env):onB (.bl true) f g η=f η:=rfl
theorem yd {α:Type}(f g:Env->Res α)(η:Env):onB (.bl false) f g η=g η:=rfl
theorem vV {α:Type}(f g:Env->Res α)(m:Md)(b:Bool)(η:Env):onT f g ((m,.bl b),η)=onB (.bl b) f g η:=by cases b<;>rfl
theorem yT {α:Type}(f g:Env->Res α)(m:Md)(η:Env):onT f g ((m,.bl true),η)=f η:=rfl
theorem yK {α:Type}(f g:Env->Res α)(m:Md)(η:Env):onT f g ((m,.bl false),η)=g η:=rfl
theorem vQ (f g:Env->Fl)(η:Env):onF true f g η=f η:=rfl
theorem xl (f g:Env->Fl)(η:Env):onF false f g η=g η:=rfl
theorem Bn {α:Type}(a:α):ofO (some a)=.ok a:=rfl
theorem BY {α:Type}(η:Env)(a:α):ret η (some a)=.ok (a,η):=rfl
theorem Cz (o:Option W)(η:Env):rd (o::η) 0=o:=rfl
theorem Ah (o:Option W)(η:Env)(i:Nat):rd (o::η) (i+1)=rd η i:=rfl
theorem Be (o w:Option W)(η:Env):wr (o::η) 0 w=w::η:=rfl
theorem Bi (o w:Option W)(η:Env)(i:Nat):wr (o::η) (i+1) w=o::wr η i w:=rfl
theorem uM (t:T):look (.s,t)=some (.s,t):=rfl
theorem tj (m:Md)(i:Int):(look (.d,.int i))=some (.d,.int i):=rfl
theorem sD (m:Md)(b:Bool):(look (.d,.bl b))=some (.d,.bl b):=rfl
theorem uS (x:Str):(look (.d,.str x))=some (.d,.str x):=rfl
theorem tY:(look (.d,.non))=some (.d,.non):=rfl
theorem BD (m:Md)(t:T):toS (some (m,t))=some (.s,t):=rfl
theorem v7:toS none=none:=rfl
theorem oM (η:Env):share [] η=η:=rfl
theorem oo (i:Nat)(is:List Nat)(η:Env):share (i::is) η=share is (wr η i (toS (rd η i))):=rfl
theorem og:blank []=[]:=rfl
theorem qU (o:Option W)(η:Env):blank (o::η)=none::blank η:=rfl
theorem yc (vs ls:List Nat)(η:Env):cM vs ls η=fA ls η (km vs η (blank η)):=rfl
theorem tR (η0 η:Env):km [] η0 η=η:=rfl
theorem ux (i:Nat)(is:List Nat)(η0 η:Env):km (i::is) η0 η=km is η0 (wr η i (toS (rd η0 i))):=rfl
theorem qd (η0 η:Env):fA [] η0 η=η:=rfl
theorem pd (i:Nat)(is:List Nat)(η0 η:Env):fA (i::is) η0 η=fA is η0 (wr η i (lfO (rd η0 i))):=rfl
theorem Cn (m:Md)(i:Int):lfO (some (m,.int i))=some (.d,.int i):=rfl
theorem AF (m:Md)(b:Bool):lfO (some (m,.bl b))=some (.d,.bl b):=rfl
theorem AQ (m:Md)(x:Str):lfO (some (m,.str x))=some (.d,.str x):=rfl
theorem Cg (m:Md):lfO (some (m,.non))=some (.d,.non):=rfl
theorem oJ (vs:List Nat)(η:Env):after .d vs η=η:=rfl
theorem pK (vs:List Nat)(η:Env):after .s vs η=share vs η:=rfl
theorem pG (m:Md)(vs:List Nat)(η:Env):after (.o m) vs η=share vs η:=rfl
theorem zg (m:Md)(i:Int):lf m (.int i)=.d:=rfl
theorem vO (m:Md)(b:Bool):lf m (.bl b)=.d:=rfl
theorem vT (m:Md)(x:Str):lf m (.str x)=.d:=rfl
theorem yQ (m:Md):lf m .non=.d:=rfl
theorem vR (m:Md)(ts:List T):lf m (.lst ts)=m:=rfl
theorem wQ (m:Md)(ts:List T):lf m (.tup ts)=m:=rfl
theorem zq (t:T):lf .d t=.d:=by unfold lf; split<;>rfl
theorem ze (m:Md):Md.s.le m=true:=by cases m<;>rfl
theorem uH:Md.d.le .d=true:=rfl
theorem rH (m:Md):(Md.o m).le .d=true:=rfl
theorem vb (m n:Md):(Md.o m).le (.o n)=m.le n:=rfl
theorem xW (h:Bool)(m n:Md)(i j:Int):oSem .add h [(m,.int i),(n,.int j)]=some (.d,.int (i+j)):=rfl
theorem oG (h:Bool)(m n:Md)(ts us:List T):oSem .add h [(m,.lst ts),(n,.lst us)]=if fits (ts.length+us.length) then newL h (m.kid.meet n.kid) (ts++us) else none:=rfl
theorem qQ (h:Bool)(m n:Md)(x y:Str):oSem .add h [(m,.str x),(n,.str y)]=if fits (x.cps.size+y.cps.size) then some (.d,.str (x++y)) else none:=rfl
theorem qI (h:Bool)(m n:Md)(ts us:List T):oSem .add h [(m,.tup ts),(n,.tup us)]=if fits (ts.length+us.length)&&!ts.isEmpty then some (.s,.tup (ts++us)) else none:=rfl
theorem zL (h:Bool)(m n:Md)(i j:Int):oSem .sub h [(m,.int i),(n,.int j)]=some (.d,.int (i-j)):=rfl
theorem qt (h:Bool)(m n:Md)(i j:Int):oSem .mul h [(m,.int i),(n,.int j)]=if (decide (i.natAbs < 18446744073709551616)) || (decide (j.natAbs < 18446744073709551616)) then some (.d,.int (i * j)) else none:=rfl
theorem qv (h:Bool)(m n:Md)(i j:Int):oSem .fdiv h [(m,.int i),(n,.int j)]=if decide (0 < j)&&decide (j < 1073741824) then some (.d,.int (i / j)) else none:=rfl
theorem vB (h:Bool)(m n:Md)(i j:Int):oSem .mod h [(m,.int i),(n,.int j)]=if decide (0 < j) then some (.d,.int (i % j)) else none:=rfl
theorem Bm (h:Bool)(m n:Md)(i j:Int):oSem .pow h [(m,.int i),(n,.int j)]=if decide (0<=j)&&decide (j<=1000000)&&decide (i.natAbs < 18446744073709551616) then some (.d,.int (i ^ j.toNat)) else none:=rfl
theorem BI (h:Bool)(m:Md)(i:Int):oSem .neg h [(m,.int i)]=some (.d,.int (-i)):=rfl
theorem vZ (h:Bool)(m n:Md)(i j:Int):oSem .eq h [(m,.int i),(n,.int j)]=some (.d,.bl (i==j)):=rfl
theorem xu (h:Bool)(m n:Md)(x y:Str):oSem .eq h [(m,.str x),(n,.str y)]=some (.d,.bl (x==y)):=rfl
theorem wW (h:Bool)(m n:Md)(a b:Bool):oSem .eq h [(m,.bl a),(n,.bl b)]=some (.d,.bl (a==b)):=rfl
theorem v9 (h:Bool)(m n:Md)(i j:Int):oSem .ne h [(m,.int i),(n,.int j)]=some (.d,.bl (!(i==j))):=rfl
theorem xi (h:Bool)(m n:Md)(x y:Str):oSem .ne h [(m,.str x),(n,.str y)]=some (.d,.bl (!(x==y))):=rfl
theorem xq (h:Bool)(m n:Md)(a b:Bool):oSem .ne h [(m,.bl a),(n,.bl b)]=some (.d,.bl (!(a==b))):=rfl
theorem Dc (h:Bool)(m n:Md)(i j:Int):oSem .lt h [(m,.int i),(n,.int j)]=some (.d,.bl (decide (i < j))):=rfl
theorem Ds (h:Bool)(m n:Md)(i j:Int):oSem .le h [(m,.int i),(n,.int j)]=some (.d,.bl (decide (i<=j))):=rfl
theorem DI (h:Bool)(m n:Md)(i j:Int):oSem .gt h [(m,.int i),(n,.int j)]=some (.d,.bl (decide (j < i))):=rfl
theorem Dt (h:Bool)(m n:Md)(i j:Int):oSem .ge h [(m,.int i),(n,.int j)]=some (.d,.bl (decide (j<=i))):=rfl
theorem A8 (h:Bool)(m n:Md)(ts:List T)(i:Int):oSem .ix h [(m,.lst ts),(n,.int i)]=(atI ts i).map fun t=>(m.kid,t):=rfl
theorem AE (h:Bool)(m n:Md)(ts:List T)(i:Int):oSem .ix h [(m,.tup ts),(n,.int i)]=(atI ts i).map fun t=>(m.kid,t):=rfl
theorem x4 (h:Bool)(m:Md)(ts:List T):oSem .len h [(m,.lst ts)]=some (.d,.int ts.length):=rfl
theorem yW (h:Bool)(m:Md)(ts:List T):oSem .len h [(m,.tup ts)]=some (.d,.int ts.length):=rfl
theorem yf (h:Bool)(m:Md)(ns:List Int):oSem .len h [(m,.scr ns)]=some (.d,.int ns.length):=rfl
theorem Ao (h:Bool)(m n:Md)(ns:List Int)(i:Int):oSem .ix h [(m,.scr ns),(n,.int i)]=(atI ns i).map fun n=>(.d,.int n):=rfl
theorem zY (h:Bool)(m n:Md)(ns:List Int)(i:Int):oSem .sl2 h [(m,.scr ns),(n,.int i)]=some (.d,.lst ((cut ns none (some i)).map T.int)):=rfl
theorem v8 (m:Md)(ns:List Int):lf m (.scr ns)=.d:=rfl
theorem AU (m:Md)(ns:List Int):lfO (some (m,.scr ns))=some (.d,.scr ns):=rfl
theorem uQ (ns:List Int):look (.d,.scr ns)=some (.d,.scr ns):=rfl
theorem wm (h:Bool)(m:Md)(x:Str):oSem .len h [(m,.str x)]=some (.d,.int x.cps.size):=rfl
theorem CJ (cs:List String)(h:Bool)(m:Md)(a:T):oSem (.isI cs) h [(m,a)]=if a.isG then none else some (.d,.bl (cs.any fun c=>isOne c a)):=rfl
theorem Au:T.isG .non=false:=rfl
theorem Dl (b:Bool):T.isG (.bl b)=false:=rfl
theorem AZ (i:Int):T.isG (.int i)=false:=rfl
theorem B9 (x:Str):T.isG (.str x)=false:=rfl
theorem An (ts:List T):T.isG (.tup ts)=false:=rfl
theorem Az (ts:List T):T.isG (.lst ts)=false:=rfl
theorem zZ (ns:List Int):T.isG (.scr ns)=false:=rfl
theorem AW:T.isN .non=true:=rfl
theorem CZ (b:Bool):T.isN (.bl b)=false:=rfl
theorem AA (i:Int):T.isN (.int i)=false:=rfl
theorem Bv (x:Str):T.isN (.str x)=false:=rfl
theorem AI (ts:List T):T.isN (.tup ts)=false:=rfl
theorem zP (ts:List T):T.isN (.lst ts)=false:=rfl
theorem rM (h:Bool)(m:Md)(ts:List T):oSem .list h [(m,.lst ts)]=newL h m.kid ts:=rfl
theorem su (h:Bool)(m:Md)(ts:List T):oSem .list h [(m,.tup ts)]=newL h m.kid ts:=rfl
theorem t5 (h:Bool)(m:Md)(x:Str):oSem .lower h [(m,.str x)]=if x.cps.toList.all (fun c=>decide (c < 128)) then some (.d,.str ⟨x.cps.map B6⟩) else none:=rfl
theorem zJ (h:Bool)(m n:Md)(x y:Str):oSem .inS h [(m,.str x),(n,.str y)]=some (.d,.bl (!(a04 y x 0 y.length 1).isEmpty)):=rfl
theorem xB (h:Bool)(m n:Md)(x y:Str):oSem .ninS h [(m,.str x),(n,.str y)]=some (.d,.bl (!(!(a04 y x 0 y.length 1).isEmpty))):=rfl
theorem CK (h:Bool)(m n:Md)(a:T)(ts:List T):oSem .inX h [(m,a),(n,.tup ts)]=if ts.all kL&&lI a then some (.d,.bl (ts.any fun t=>eqT t a)) else none:=rfl
theorem wg (h:Bool)(m n:Md)(a:T)(ts:List T):oSem .ninX h [(m,a),(n,.tup ts)]=if ts.all kL&&lI a then some (.d,.bl (!ts.any fun t=>eqT t a)) else none:=rfl
theorem Ab (h:Bool)(m n:Md)(x y:Str):oSem .leS h [(m,.str x),(n,.str y)]=some (.d,.bl (!decide (y.cps.toList < x.cps.toList))):=rfl
theorem xT (h:Bool)(m n:Md)(ts us:List T):oSem .catT h [(m,.tup ts),(n,.tup us)]=if fits (ts.length+us.length) then some (.s,.tup (ts++us)) else none:=rfl
theorem nL (h:Bool)(m:Md)(ts:List T):oSem .lenSet h [(m,.tup ts)]=(cF ts).bind fun ss=>if decide (ss.length < 1000) then some (.d,.int (vj ss).length) else none:=rfl
theorem pM (h:Bool)(m n:Md)(ts:List T)(x:Str):oSem .countS h [(m,.lst ts),(n,.str x)]=(cF ts).bind fun ss=>some (.d,.int (ss.count x)):=rfl
theorem yi (h:Bool)(m:Md)(t:T):oSem .repr h [(m,t)]=if decide (dp t<=64)&&rOk t&&fits (szR t) then some (.d,.str (datT t).shown) else none:=rfl
theorem Av (h:Bool)(n:Md)(ks:List (Int ⊕ Str))(vs:List T)(k:T):oSem .ixD h [(.s,.dct ks vs),(n,k)]=(keyT k).bind fun q=>(lookD q ks vs).map fun t=>(.s,t):=rfl
theorem ie (C:Call)(h:Bool)(i t:Nat)(c e:E)(η:Env):evE C (.compV h i t c e) η=(ofO (vwT (rd η i))).bind (kV1 h i t (bE (evE C c) (evE C e)) η):=rfl
theorem i3 (C:Call)(h:Bool)(i t:Nat)(c e:E)(es:List E)(η:Env):evA C (.compV h i t c e::es) η=(evE C (.compV h i t c e) η).bind (aV (evA C es)):=rfl
theorem jC (C:Call)(i:Nat)(e:E)(η:Env):evE C (.popN i e) η=(cK (rd η i)).bind (ed (evE C e) η (fu i)):=rfl
theorem jA (C:Call)(i:Nat)(e:E)(es:List E)(η:Env):evA C (.popN i e::es) η=(evE C (.popN i e) η).bind (aV (evA C es)):=rfl
theorem ki (C:Call)(x:X)(i:Nat)(k e:E)(η:Env):evS C (.setS x i k e) η=Fl.of η (evX C x e η) (kY i (evX C x k) η):=rfl
theorem lR (C:Call)(i k l:Nat)(η:Env):evS C (.apN i k l) η=nxO η ((gm (rd η i) (rd η k) (rd η l)).map fun w=>put η i w):=rfl
theorem j9 (C:Call)(i k l:Nat)(η:Env):evS C (.insN i k l) η=nxO η ((eE (rd η i) (rd η k) (rd η l)).map fun w=>put η i w):=rfl
theorem qg (m n:Md)(ts:List T)(j:Int)(t:T):gm (some (.d,.lst ts)) (some (m,.int j)) (some (n,t))=(ixN ts.length j).bind fun q=>apU ts q t ts[q]?:=rfl
theorem mw (C:Call)(i k:Nat)(cs:List T)(η:Env):evS C (.apC i k cs) η=nxO η ((jN cs (rd η i) (rd η k)).map fun w=>put η i w):=rfl
theorem jH (C:Call)(i k:Nat)(η:Env):evS C (.popI i k) η=nxO η ((ek (rd η i) (rd η k)).map fun w=>put η i w):=rfl
theorem kn (C:Call)(i j:Nat)(η:Env):evS C (.clrA i j) η=nxO η ((kb (rd η i)).map fun w=>put (del η j) i w):=rfl
theorem vW (h:Bool):oSem .dnew h []=some (.d,.dct [] []):=rfl
theorem mU (h:Bool)(m:Md)(ts:List T):oSem .sortedS h [(m,.lst ts)]=(cF ts).bind fun ss=>if decide (ss.length < 64) then some (.d,.lst ((iI ss).map T.str)) else none:=rfl
theorem mV (h:Bool)(m:Md)(ks:List (Int ⊕ Str))(vs:List T):oSem .sortedD h [(m,.dct ks vs)]=(qP ks).bind fun ss=>if decide (ss.length < 64) then some (.d,.lst ((iI ss).map T.str)) else none:=rfl
theorem zh (m:Md)(ts:List T):a7 .enmT [(m,.tup ts)]=some (cw .s 0 ts):=rfl
theorem Cr (m:Md)(x:Str):a7 .chr [(m,.str x)]=some (x.cps.toList.map fun c=>[(.d,.str ⟨#[c]⟩)]):=rfl
theorem nR (h:Bool)(m:Md)(ts:List T):oSem .sorted h [(m,.lst ts)]=(intsOf ts).bind fun ns=>if decide (ns.length < 64) then some (.d,.lst ((sortI ns).map T.int)) else none:=rfl
theorem s8 (h:Bool)(m n:Md)(i j:Int):oSem .fdivN h [(m,.int i),(n,.int j)]=if (j != 0)&&decide (j.natAbs < 18446744073709551616) then some (.d,.int (i.fdiv j)) else none:=rfl
theorem yx (h:Bool)(m n:Md)(i j:Int):oSem .modN h [(m,.int i),(n,.int j)]=if j != 0 then some (.d,.int (i.fmod j)) else none:=rfl
theorem ky (m:Md)(ts:List T):a7 .sq2 [(m,.lst ts)]=bw ts:=rfl
theorem Al (h:Bool)(m:Md)(ts:List T):oSem .sum h [(m,.lst ts)]=(intsOf ts).map fun ns=>(.d,.int ns.sum):=rfl
theorem x8 (m:Md)(ts:List T):newL true m ts=if leaves ts then some (.d,.lst ts) else none:=rfl
theorem vY (m:Md)(ts:List T):newL false m ts=some (m.up,.lst ts):=rfl
theorem x5 (m:Md)(ts:List T):a7 .seq [(m,.lst ts)]=some (ts.map fun t=>[(.s,t)]):=rfl
theorem zd (m:Md)(ts:List T):a7 .seq [(m,.tup ts)]=some (ts.map fun t=>[(.s,t)]):=rfl
theorem we (m n o:Md)(i j c:Int):a7 .rng [(m,.int i),(n,.int j),(o,.int c)]=if decide (i.natAbs < 4611686018427387904)&&decide (j.natAbs < 4611686018427387904)&&decide (c=-1)&&fits (i-j).toNat then some ((a0p (i-j).toNat).map fun (k:Nat)=>[(.d,.int (i-k))]) else none:=rfl
theorem p8 (m:Md)(n:Int):a7 .rng [(m,.int n)]=if decide (n.natAbs < 4611686018427387904)&&fits n.toNat then some ((a0p n.toNat).map fun (k:Nat)=>[(.d,.int k)]) else none:=rfl
theorem qb (η:Env):aM [] [] η=some η:=rfl
theorem pf (i:Nat)(is:List Nat)(w:W)(ws:List W)(η:Env):aM (i::is) (w::ws) η=aM is ws (put η i w):=rfl
theorem Bs {α β:Type}(f:α->β)(a:α):(some a).map f=some (f a):=rfl
theorem ph (b:Bool):a6 (.bl b)=some b:=rfl
theorem qM (i:Int):a6 (.int i)=some (i != 0):=rfl
theorem ui {α β:Type}(a:α)(f:α->Option β):(some a).bind f=f a:=rfl
theorem rR:Md.s.kid=.s:=rfl
theorem uE:Md.d.kid=.d:=rfl
theorem rP (m:Md):(Md.o m).kid=m:=rfl
theorem xy:Md.s.up=.o .s:=rfl
theorem wd:Md.d.up=.d:=rfl
theorem y9 (m:Md):(Md.o m).up=.o (.o m):=rfl
theorem pC (m:Md):Md.s.meet m=.s:=by cases m<;>rfl
theorem c8 (m:Md):Md.d.meet m=m:=by cases m<;>rfl
theorem lX (m:Md):(Md.o m).meet .s=.s:=rfl
theorem mh (m:Md):(Md.o m).meet .d=.o m:=rfl
theorem mJ (m n:Md):(Md.o m).meet (.o n)=.o (m.meet n):=rfl
theorem wj (n:Md)(ts:List T)(t:T):fD (.d,.lst ts) (n,t)=if ts.length < LIM then some ((lf n t).up,.lst (ts++[t])) else none:=by show (if _ then some ((Md.d.meet _).up,_) else none)=_; rw [c8]
theorem yg (m n:Md)(ts:List T)(t:T):fD (.o m,.lst ts) (n,t)=if ts.length < LIM then some ((m.meet (lf n t)).up,.lst (ts++[t])) else none:=rfl
theorem xJ (n:Md)(ts us:List T):xC (.d,.lst ts) (n,.lst us)=if ts.length+us.length<=LIM then some (n.kid.up,.lst (ts++us)) else none:=by show (if _ then some ((Md.d.meet _).up,_) else none)=_; rw [c8]
theorem xU (m n:Md)(ts us:List T):xC (.o m,.lst ts) (n,.lst us)=if ts.length+us.length<=LIM then some ((m.meet n.kid).up,.lst (ts++us)) else none:=rfl
theorem zu (l n:Md)(ts:List T)(t:T)(j:Int):bV (.d,.lst ts) (l,.int j) (n,t)=(ixN ts.length j).map fun k=>((lf n t).up,.lst (ts.set k t)):=by show ((ixN ts.length j).map fun k=>((Md.d.meet _).up,_))=_; rw [c8]
theorem xA (m l n:Md)(ts:List T)(t:T)(j:Int):bV (.o m,.lst ts) (l,.int j) (n,t)=(ixN ts.length j).map fun k=>((m.meet (lf n t)).up,.lst (ts.set k t)):=rfl
theorem y8 (m:Md)(ts:List T):cK (some (m,.lst ts))=.ok ():=rfl
theorem xr (m:Md)(ts:List T):Cv (m,.tup ts)=some (ts.map fun t=>(m.kid,t)):=rfl
theorem AD (η η':Env):nxO η (some η')=.nx η':=rfl
theorem oK (η:Env):backs [] η=some []:=rfl
theorem nv (i:Nat)(is:List Nat)(η:Env):backs (i::is) η=(rd η i).bind fun w=>(backs is η).bind fun ws=>some (w::ws):=rfl
theorem yj (io:List Nat)(η:Env):Fl.out io (.nx η)=(ofO (backs io η)).bind (n8 (.d,.non)):=rfl
theorem wD (io:List Nat)(w:W)(η:Env):Fl.out io (.rt w η)=(ofO (backs io η)).bind (n8 w):=rfl
theorem x_run (C:Call)(f:Fn)(ws:List W)(h:ws.length=f.ps):runF C f ws=Fl.out f.io (evSs C f.body (ws.map some++a0l f.ns none)):=if_pos h
theorem at0 {α:Type}(a:α)(l:List α):atI (a::l) 0=some a:=by simp [atI,ixN]
theorem atN {α:Type}{xs:List α}{i:Int}{n:Nat}{a:α}(hi:i=n)(h:xs[n]?=some a):atI xs i=some a:=by
 subst hi
 have:=(a0z.mp h).1
 rw [atI,ixN,if_pos (by omega),if_pos (by omega)]
 exact h
theorem at1 {α:Type}(a b:α)(l:List α):atI (a::b::l) 1=some b:=atN (n:=1) rfl rfl
theorem at2 {α:Type}(a b c:α)(l:List α):atI (a::b::c::l) 2=some c:=atN (n:=2) rfl rfl
theorem at3 {α:Type}(a b c d:α)(l:List α):atI (a::b::c::d::l) 3=some d:=atN (n:=3) rfl rfl
theorem at4 {α:Type}(a b c d e:α)(l:List α):atI (a::b::c::d::e::l) 4=some e:=atN (n:=4) rfl rfl
theorem bP {α:Type}{tg:List Nat}{f:Env->Res (Option W×Env)}{η:Env}{g:α->List W}(w:α->W):∀ (ts:List α) (acc:List W),(∀ x∈ts,∃ η1 η2,aM tg (g x) η=some η1/\f η1=.ok (some (w x),η2)/\ae tg η2=η) ->
  ay tg f (ts.map g) η acc=.ok (acc++ts.map w,η)
 | [],acc,_=>by rw [a1M,a1M,a0w]; rfl
 | x::ts,acc,h=>by
  obtain ⟨η1,η2,h1,h2,h3⟩:=h x a0d
  rw [a0x,a0x]
  show (ofO (aM tg (g x) η)).bind _=_
  rw [h1]
  show (f η1).bind _=_
  rw [h2]
  show ay tg f (ts.map g) (ae tg η2) (acc++[w x])=_
  rw [h3,bP w ts _ fun y hy=>h y (a0c _ hy),a0J]
  rfl
theorem kN {α:Type}(g:α->T)(ts:List α):(ts.map fun x=>((Md.d,g x):W)).all okD=true:=by
 rw [List.all_map,a0A]; intro x _; rfl
end M

namespace MR
open L2 L3 M
open PySem (Addr Str sizeLine)
noncomputable abbrev Fp:=Addr->Prop
noncomputable def ScrR (K:a0a)(H:Hp)(a:Addr)(ns:List Int):Prop:=(∃ o,H a=some (.frz o (.lst (ns.map V.int))))\/SqL K (fun _=>none) a (ns.map V.int)
theorem ScrR.sq {K:a0a}{H:Hp}{a:Addr}{ns:List Int}(h:ScrR K H a ns):SqL K H a (ns.map V.int):=by
 rcases h with ⟨o,h⟩ | ((h | ⟨o,h⟩) | h)
 ·exact .inl (.inr ⟨o,h⟩)
 ·cases h
 ·cases h
 ·exact .inr h
theorem ScrR.keep {K:a0a}{H H':Hp}{a:Addr}{ns:List Int}(s:∀ a o u,H a=some (.frz o u)->H' a=some (.frz o u))(h:ScrR K H a ns):ScrR K H' a ns:=h.imp (fun ⟨o,e⟩=>⟨o,s a o _ e⟩) id
noncomputable def LstR (K:a0a)(Z:Fp)(H:Hp)(G:Fp)(a:Addr)(xs:List V):Md->Prop
 | .s=>Z a/\H a=some (.lst xs)
 | _=>G a/\H a=some (.lst xs)
noncomputable def mkD (ks:List (Int ⊕ Str))(xs:List V):List (Key×V):=ks.zip xs
noncomputable def DctR (Z:Fp)(H:Hp)(G:Fp)(a:Addr)(o:HO):Md->Prop
 | .s=>Z a/\H a=some o
 | _=>G a/\H a=some o
noncomputable def dmd:Md->Md
 | .d=>.d
 | _=>.s
mutual
noncomputable def Rep (K:a0a)(Z:Fp)(H:Hp):Md->T->V->Fp->Prop
 | _,.non,v,_=>v=.non
 | _,.bl b,v,_=>v=.bl b
 | _,.int i,v,_=>v=.int i
 | _,.str x,v,_=>v=.str x/\sOk x=true
 | m,.tup ts,v,G=>∃ a xs,v=.ref a/\SqT K H a xs/\xs.length<=LIM/\RepL K Z H m.kid ts xs G
 | m,.lst ts,v,G=>∃ a xs,v=.ref a/\xs.length<=LIM/\LstR K Z H G a xs m/\RepL K Z H m.kid ts xs (fun b=>G b/\b≠a)
 | m,.dct ks vs,v,G=>∃ a xs,v=.ref a/\ks.length<=LIM/\DctR Z H G a (.dK (mkD ks xs)) m/\(ks.Nodup/\∀ k∈ks,kOk k=true)/\vs.length=ks.length/\RepL K Z H (dmd m) vs xs (fun _=>False)
 | _,.ins _ _ _,_,_=>False
 | _,.gone,_,_=>True
 | _,.scr ns,v,_=>∃ a,v=.ref a/\ns.length<=LIM/\ScrR K H a ns
noncomputable def RepL (K:a0a)(Z:Fp)(H:Hp):Md->List T->List V->Fp->Prop
 | _,[],xs,_=>xs=[]
 | m,t::ts,xs,G=>∃ x r G1 G2,xs=x::r/\(∀ a,G1 a->G a)/\(∀ a,G2 a->G a)/\(∀ a,G1 a->¬ G2 a)/\Rep K Z H m t x G1/\RepL K Z H m ts r G2
end
section
variable {K:a0a}{Z Z':Fp}{H H':Hp}{m:Md}{t:T}{ts:List T}{v:V}{xs:List V}{G G':Fp}
theorem LstR.mono {a:Addr}(w:∀ a,G a->G' a)(h:LstR K Z H G a xs m):LstR K Z H G' a xs m:=by
 cases m with
 | s=>exact h
 | d=>exact ⟨w _ h.1,h.2⟩
 | o m=>exact ⟨w _ h.1,h.2⟩
theorem DctR.mono {a:Addr}{o:HO}(w:∀ a,G a->G' a)(h:DctR Z H G a o m):DctR Z H G' a o m:=by
 cases m with
 | s=>exact h
 | d=>exact ⟨w _ h.1,h.2⟩
 | o m=>exact ⟨w _ h.1,h.2⟩
mutual
theorem Rep.mono:∀ {m:Md} {t:T} {v:V} {G G':Fp},(∀ a,G a->G' a)->Rep K Z H m t v G->Rep K Z H m t v G'
 | _,.non,_,_,_,_,h=>h
 | _,.bl _,_,_,_,_,h=>h
 | _,.int _,_,_,_,_,h=>h
 | _,.str _,_,_,_,_,h=>h
 | m,.tup ts,v,G,G',w,⟨a,xs,e,q,l,r⟩=>⟨a,xs,e,q,l,RepL.mono w r⟩
 | m,.lst ts,v,G,G',w,⟨a,xs,e,l,q,r⟩=>⟨a,xs,e,l,q.mono w,RepL.mono (fun b hb=>⟨w b hb.1,hb.2⟩) r⟩
 | m,.dct ks vs,v,G,G',w,⟨a,xs,e,l,q,n,hl,r⟩=>⟨a,xs,e,l,q.mono w,n,hl,r⟩
 | _,.ins _ _ _,_,_,_,_,h=>h.elim
 | _,.gone,_,_,_,_,h=>h
 | _,.scr _,_,_,_,_,h=>h
theorem RepL.mono:∀ {m:Md} {ts:List T} {xs:List V} {G G':Fp},(∀ a,G a->G' a)->RepL K Z H m ts xs G->RepL K Z H m ts xs G'
 | _,[],_,_,_,_,h=>h
 | m,t::ts,xs,G,G',w,⟨x,r,G1,G2,e,h1,h2,hd,p,q⟩=>⟨x,r,G1,G2,e,fun a ha=>w a (h1 a ha),fun a ha=>w a (h2 a ha),hd,p,q⟩
end
noncomputable def Stay (Z:Fp)(H H':Hp):Prop:=(∀ a o,Z a->H a=some o->H' a=some o)/\(∀ a xs,Rd H a (.tup xs)->Rd H' a (.tup xs))/\∀ a o u,H a=some (.frz o u)->H' a=some (.frz o u)
theorem Stay.sqt (s:Stay Z H H'){a:Addr}(h:SqT K H a xs):SqT K H' a xs:=by
 rcases h with h | h
 ·exact .inl (s.2.1 a xs h)
 ·exact .inr h
theorem LstR.keep {a:Addr}(s:Stay Z H H')(z:∀ a,Z a->Z' a)(g:∀ a o,G a->H a=some o->H' a=some o)(h:LstR K Z H G a xs m):LstR K Z' H' G a xs m:=by
 cases m with
 | s=>exact ⟨z _ h.1,s.1 _ _ h.1 h.2⟩
 | d=>exact ⟨h.1,g _ _ h.1 h.2⟩
 | o m=>exact ⟨h.1,g _ _ h.1 h.2⟩
theorem DctR.keep {a:Addr}{o:HO}(s:Stay Z H H')(z:∀ a,Z a->Z' a)(g:∀ a o,G a->H a=some o->H' a=some o)(h:DctR Z H G a o m):DctR Z' H' G a o m:=by
 cases m with
 | s=>exact ⟨z _ h.1,s.1 _ _ h.1 h.2⟩
 | d=>exact ⟨h.1,g _ _ h.1 h.2⟩
 | o m=>exact ⟨h.1,g _ _ h.1 h.2⟩
mutual
theorem Rep.keep (s:Stay Z H H')(z:∀ a,Z a->Z' a):∀ {m:Md} {t:T} {v:V} {G:Fp},(∀ a o,G a->H a=some o->H' a=some o)->Rep K Z H m t v G->Rep K Z' H' m t v G
 | _,.non,_,_,_,h=>h
 | _,.bl _,_,_,_,h=>h
 | _,.int _,_,_,_,h=>h
 | _,.str _,_,_,_,h=>h
 | m,.tup ts,v,G,g,⟨a,xs,e,q,l,r⟩=>⟨a,xs,e,s.sqt q,l,RepL.keep s z g r⟩
 | m,.lst ts,v,G,g,⟨a,xs,e,l,q,r⟩=>⟨a,xs,e,l,q.keep s z g,RepL.keep s z (fun b o hb=>g b o hb.1) r⟩
 | m,.dct ks vs,v,G,g,⟨a,xs,e,l,q,n,hl,r⟩=>⟨a,xs,e,l,q.keep s z g,n,hl,RepL.keep s z (fun _ _ hb=>hb.elim) r⟩
 | _,.ins _ _ _,_,_,_,h=>h.elim
 | _,.gone,_,_,_,h=>h
 | _,.scr _,_,_,_,⟨a,e,l,q⟩=>⟨a,e,l,q.keep s.2.2⟩
theorem RepL.keep (s:Stay Z H H')(z:∀ a,Z a->Z' a):∀ {m:Md} {ts:List T} {xs:List V} {G:Fp},(∀ a o,G a->H a=some o->H' a=some o)->RepL K Z H m ts xs G->RepL K Z' H' m ts xs G
 | _,[],_,_,_,h=>h
 | m,t::ts,xs,G,g,⟨x,r,G1,G2,e,h1,h2,hd,p,q⟩=>⟨x,r,G1,G2,e,h1,h2,hd,Rep.keep s z (fun a o ha=>g a o (h1 a ha)) p,RepL.keep s z (fun a o ha=>g a o (h2 a ha)) q⟩
end
theorem fT (Z:Fp)(H:Hp):Stay Z H H:=⟨fun _ _ _ h=>h,fun _ _ h=>h,fun _ _ _ h=>h⟩
theorem Rep.zmono (z:∀ a,Z a->Z' a)(h:Rep K Z H m t v G):Rep K Z' H m t v G:=h.keep (fT Z H) z fun _ _ _ q=>q
theorem RepL.zmono (z:∀ a,Z a->Z' a)(h:RepL K Z H m ts xs G):RepL K Z' H m ts xs G:=h.keep (fT Z H) z fun _ _ _ q=>q
theorem RepL.length:∀ {ts:List T} {xs:List V} {G:Fp},RepL K Z H m ts xs G->xs.length=ts.length
 | [],_,_,h=>by rw [show _=[] from h]; rfl
 | _::_,_,_,⟨x,r,G1,G2,e,_,_,_,_,q⟩=>by rw [e,a0f,a0f,RepL.length q]
theorem RepL.get:∀ {ts:List T} {xs:List V} {G:Fp} {i:Nat} {t:T},RepL K Z H m ts xs G->ts[i]?=some t->∃ x,xs[i]?=some x/\Rep K Z H m t x G
 | [],_,_,_,_,_,e=>by simp at e
 | _::_,_,_,0,_,⟨x,r,G1,G2,e,h1,_,_,p,_⟩,e2=>by
  rw [a08] at e2; cases e2
  exact ⟨x,by rw [e]; rfl,p.mono h1⟩
 | _::_,_,_,i+1,_,⟨x,r,G1,G2,e,_,h2,_,_,q⟩,e2=>by
  rw [a0C] at e2
  obtain ⟨y,hy,p⟩:=RepL.get q e2
  exact ⟨y,by rw [e,a0C]; exact hy,p.mono h2⟩
theorem RepL.append:∀ {ts us:List T} {xs ys:List V} {G1 G2 G:Fp},(∀ a,G1 a->G a)->(∀ a,G2 a->G a)->(∀ a,G1 a->¬ G2 a)->RepL K Z H m ts xs G1->RepL K Z H m us ys G2->RepL K Z H m (ts++us) (xs++ys) G
 | [],us,xs,ys,G1,G2,G,w1,w2,d,h,k=>by rw [show xs=[] from h]; exact k.mono w2
 | t::ts,us,xs,ys,G1,G2,G,w1,w2,d,⟨x,r,A,B,e,h1,h2,hd,p,q⟩,k=>by
  rw [e]
  refine ⟨x,r++ys,A,fun a=>B a\/G2 a,rfl,fun a ha=>w1 a (h1 a ha),fun a ha=>ha.elim (fun z=>w1 a (h2 a z)) (w2 a),fun a ha hb=>hb.elim (hd a ha) (d a (h1 a ha)),p,?_⟩
  exact RepL.append (fun a z=>.inl z) (fun a z=>.inr z) (fun a ha=>d a (h2 a ha)) q k
theorem RepL.one {x:V}(p:Rep K Z H m t x G):RepL K Z H m [t] [x] G:=⟨x,[],G,fun _=>False,rfl,fun _ h=>h,fun _ h=>h.elim,fun _ _ h=>h,p,rfl⟩
theorem RepL.take:∀ {ts:List T} {xs:List V} {G:Fp} (n:Nat),RepL K Z H m ts xs G->RepL K Z H m (ts.take n) (xs.take n) G
 | [],_,_,n,h=>by rw [show _=[] from h,a3w,a3w]; rfl
 | _::_,_,_,0,h=>rfl
 | _::_,_,_,n+1,⟨x,r,A,B,e,h1,h2,hd,p,q⟩=>by rw [e]; exact ⟨x,r.take n,A,B,rfl,h1,h2,hd,p,RepL.take n q⟩
theorem RepL.drop:∀ {ts:List T} {xs:List V} {G:Fp} (n:Nat),RepL K Z H m ts xs G->RepL K Z H m (ts.drop n) (xs.drop n) G
 | [],_,_,n,h=>by rw [show _=[] from h,a3x,a3x]; rfl
 | _::_,_,_,0,h=>h
 | _::_,_,_,n+1,⟨x,r,A,B,e,h1,h2,hd,p,q⟩=>by rw [e]; exact (RepL.drop n q).mono h2
theorem Rep.leaf {m':Md}(hs:∀ a o u,H a=some (.frz o u)->H' a=some (.frz o u))(hl:t.leaf=true)(h:Rep K Z H m t v G):Rep K Z' H' m' t v G':=by
 cases t with
 | non=>exact h
 | bl _=>exact h
 | int _=>exact h
 | str _=>exact h
 | scr _=>obtain ⟨a,e,l,q⟩:=h; exact ⟨a,e,l,q.keep hs⟩
 | _=>cases hl
theorem RepL.leaves {m':Md}(hs:∀ a o u,H a=some (.frz o u)->H' a=some (.frz o u)):∀ {ts:List T} {xs:List V} {G G':Fp},leaves ts=true->RepL K Z H m ts xs G->RepL K Z' H' m' ts xs G'
 | [],_,_,_,_,h=>h
 | t::ts,_,_,G',hl,⟨x,r,A,B,e,h1,h2,hd,p,q⟩=>by
  have h':(t.leaf&&ts.all T.leaf)=true:=hl
  rw [a0k] at h'
  exact ⟨x,r,fun _=>False,fun _=>False,e,fun _ z=>z.elim,fun _ z=>z.elim,fun _ z=>z.elim,p.leaf hs h'.1,RepL.leaves hs h'.2 q⟩
noncomputable def no:Fp:=fun _=>False
mutual
theorem Rep.sh:∀ {m:Md} {t:T} {v:V} {G:Fp},Rep K Z H m t v G->Rep K (fun a=>Z a\/G a) H .s t v no
 | _,.non,_,_,h=>h
 | _,.bl _,_,_,h=>h
 | _,.int _,_,_,h=>h
 | _,.str _,_,_,h=>h
 | m,.tup ts,v,G,⟨a,xs,e,q,l,r⟩=>⟨a,xs,e,q,l,RepL.sh r⟩
 | m,.lst ts,v,G,⟨a,xs,e,l,q,r⟩=>⟨a,xs,e,l,by
   cases m with
   | s=>exact ⟨.inl q.1,q.2⟩
   | d=>exact ⟨.inr q.1,q.2⟩
   | o m=>exact ⟨.inr q.1,q.2⟩,(RepL.zmono (fun b hb=>hb.elim .inl fun z=>.inr z.1) (RepL.sh r)).mono fun _ z=>z.elim⟩
 | m,.dct ks vs,v,G,⟨a,xs,e,l,q,n,hl,r⟩=>⟨a,xs,e,l,by
   cases m with
   | s=>exact ⟨.inl q.1,q.2⟩
   | d=>exact ⟨.inr q.1,q.2⟩
   | o m=>exact ⟨.inr q.1,q.2⟩,n,hl,RepL.zmono (fun b hb=>hb.elim .inl fun z=>z.elim) (RepL.sh r)⟩
 | _,.ins _ _ _,_,_,h=>h.elim
 | _,.gone,_,_,h=>h
 | _,.scr _,_,_,h=>h
theorem RepL.sh:∀ {m:Md} {ts:List T} {xs:List V} {G:Fp},RepL K Z H m ts xs G->RepL K (fun a=>Z a\/G a) H .s ts xs no
 | _,[],_,_,h=>h
 | m,t::ts,xs,G,⟨x,r,G1,G2,e,h1,h2,hd,p,q⟩=>⟨x,r,no,no,e,fun _ z=>z,fun _ z=>z,fun _ z _=>z,Rep.zmono (fun b hb=>hb.imp id (h1 b)) (Rep.sh p),RepL.zmono (fun b hb=>hb.imp id (h2 b)) (RepL.sh q)⟩
end
theorem DJ:∀ a:Md,a.le .d=true
 | .s=>rfl | .d=>rfl | .o _=>rfl
theorem gn:∀ a:Md,a.le a=true
 | .s=>rfl | .d=>rfl | .o a=>gn a
theorem le_trans:∀ {a b c:Md},a.le b=true->b.le c=true->a.le c=true
 | .s,_,.s,_,_=>rfl
 | .s,_,.d,_,_=>rfl
 | .s,_,.o _,_,_=>rfl
 | .o a,.o b,.o c,h,k=>le_trans (a:=a) (b:=b) (c:=c) h k
 | .o a,.o b,.d,h,k=>rfl
 | .o a,.d,.d,h,k=>rfl
 | .d,.d,.d,_,_=>rfl
 | .d,.s,_,h,_=>by cases h
 | .d,.o _,_,h,_=>by cases h
 | .o _,.s,_,h,_=>by cases h
 | .o _,.o _,.s,_,k=>by cases k
 | .o _,.d,.s,_,k=>by cases k
 | .o _,.d,.o _,_,k=>by cases k
 | .d,.d,.s,_,k=>by cases k
 | .d,.d,.o _,_,k=>by cases k
theorem b9:∀ a b:Md,(a.meet b).le a=true/\(a.meet b).le b=true
 | .s,.s=>⟨rfl,rfl⟩
 | .s,.d=>⟨rfl,rfl⟩
 | .s,.o _=>⟨rfl,rfl⟩
 | .d,.s=>⟨rfl,rfl⟩
 | .d,.d=>⟨rfl,rfl⟩
 | .d,.o b=>⟨rfl,gn b⟩
 | .o _,.s=>⟨rfl,rfl⟩
 | .o a,.d=>⟨gn a,rfl⟩
 | .o a,.o b=>b9 a b
theorem oZ:∀ {a b:Md},a.le b=true->a.kid.le b.kid=true
 | .s,.s,_=>rfl
 | .s,.d,_=>rfl
 | .s,.o _,_=>by first | rfl | exact (by cases ‹Md›<;>rfl)
 | .o a,.o b,h=>h
 | .o a,.d,_=>DJ a
 | .d,.d,_=>rfl
 | .d,.s,h=>by cases h
 | .d,.o _,h=>by cases h
 | .o _,.s,h=>by cases h
theorem eG:∀ a:Md,a.up.kid=a
 | .s=>rfl | .d=>rfl | .o _=>rfl
theorem cI (a:Md):a.up≠.s:=by cases a<;>intro h<;>cases h
theorem LstR.own {a:Addr}(hm:m≠.s):LstR K Z H G a xs m ↔ G a/\H a=some (.lst xs):=by
 cases m with
 | s=>exact absurd rfl hm
 | d=>exact Iff.rfl
 | o m=>exact Iff.rfl
noncomputable abbrev bO (Z G G':Fp):Fp:=fun a=>Z a\/(G a/\¬ G' a)
mutual
theorem Rep.weak:∀ {m m':Md} {t:T} {v:V} {G:Fp},m'.le m=true->Rep K Z H m t v G->∃ G',(∀ a,G' a->G a)/\Rep K (bO Z G G') H m' t v G'
 | m,m',.non,_,G,_,h=>⟨G,fun _ z=>z,h⟩
 | m,m',.bl _,_,G,_,h=>⟨G,fun _ z=>z,h⟩
 | m,m',.int _,_,G,_,h=>⟨G,fun _ z=>z,h⟩
 | m,m',.str _,_,G,_,h=>⟨G,fun _ z=>z,h⟩
 | m,m',.scr _,_,G,_,h=>⟨G,fun _ z=>z,h⟩
 | m,m',.tup ts,v,G,hm,⟨a,xs,e,q,l,r⟩=>by
  obtain ⟨G',h1,h2⟩:=RepL.weak (oZ hm) r
  exact ⟨G',h1,a,xs,e,q,l,h2⟩
 | m,m',.lst ts,v,G,hm,h=>by
  cases m' with
  | s=>exact ⟨no,fun _ z=>z.elim,(Rep.sh h).zmono fun a ha=>ha.imp id fun z=>⟨z,fun q=>q⟩⟩
  | d =>
   cases m with
   | s=>cases hm
   | o _=>cases hm
   | d=>exact ⟨G,fun _ z=>z,h.zmono fun _ z=>.inl z⟩
  | o k =>
   have hne:m≠.s:=by rintro rfl; cases hm
   obtain ⟨a,xs,e,l,q,r⟩:=h
   rw [LstR.own hne] at q
   obtain ⟨G',h1,h2⟩:=RepL.weak (oZ hm) r
   refine ⟨fun b=>G' b\/b=a,fun b hb=>hb.elim (fun z=>(h1 b z).1) (fun z=>z ▸ q.1),a,xs,e,l,⟨.inr rfl,q.2⟩,?_⟩
   refine (h2.zmono fun b hb=>?_).mono fun b hb=>⟨.inl hb,(h1 b hb).2⟩
   rcases hb with z | ⟨⟨z1,z2⟩,z3⟩
   ·exact .inl z
   ·exact .inr ⟨z1,fun q=>q.elim z3 z2⟩
 | m,m',.dct ks vs,v,G,hm,h=>by
  cases m' with
  | s=>exact ⟨no,fun _ z=>z.elim,(Rep.sh h).zmono fun a ha=>ha.imp id fun z=>⟨z,fun q=>q⟩⟩
  | d =>
   cases m with
   | s=>cases hm
   | o _=>cases hm
   | d=>exact ⟨G,fun _ z=>z,h.zmono fun _ z=>.inl z⟩
  | o k =>
   obtain ⟨a,xs,e,l,q,n,hl,r⟩:=h
   cases m with
   | s=>cases hm
   | d=>exact ⟨G,fun _ z=>z,a,xs,e,l,q,n,hl,RepL.zmono (fun b hb=>hb.elim .inl fun z=>z.elim) (RepL.sh r)⟩
   | o k'=>exact ⟨G,fun _ z=>z,a,xs,e,l,q,n,hl,RepL.zmono (fun b hb=>.inl hb) r⟩
 | _,_,.ins _ _ _,_,_,_,h=>h.elim
 | m,m',.gone,_,G,_,h=>⟨G,fun _ z=>z,h⟩
theorem RepL.weak:∀ {m m':Md} {ts:List T} {xs:List V} {G:Fp},m'.le m=true->RepL K Z H m ts xs G->∃ G',(∀ a,G' a->G a)/\RepL K (bO Z G G') H m' ts xs G'
 | m,m',[],_,G,_,h=>⟨G,fun _ z=>z,h⟩
 | m,m',t::ts,xs,G,hm,⟨x,r,G1,G2,e,h1,h2,hd,p,q⟩=>by
  obtain ⟨A,a1,a2⟩:=Rep.weak hm p
  obtain ⟨B,b1,b2⟩:=RepL.weak hm q
  refine ⟨fun b=>A b\/B b,fun b hb=>hb.elim (fun z=>h1 b (a1 b z)) (fun z=>h2 b (b1 b z)),x,r,A,B,e,fun _ z=>.inl z,fun _ z=>.inr z,fun b za zb=>hd b (a1 b za) (b1 b zb),?_,?_⟩
  ·refine a2.zmono fun b hb=>hb.imp id fun z=>⟨h1 b z.1,fun q=>q.elim z.2 fun w=>hd b z.1 (b1 b w)⟩
  ·refine b2.zmono fun b hb=>hb.imp id fun z=>⟨h2 b z.1,fun q=>q.elim (fun w=>hd b (a1 b w) z.1) z.2⟩
end
noncomputable def RepW (K:a0a)(Z:Fp)(H:Hp):List W->List V->Fp->Prop
 | [],xs,_=>xs=[]
 | w::ws,xs,G=>∃ x r G1 G2,xs=x::r/\(∀ a,G1 a->G a)/\(∀ a,G2 a->G a)/\(∀ a,G1 a->¬ G2 a)/\Rep K Z H w.1 w.2 x G1/\RepW K Z H ws r G2
theorem RepW.length:∀ {ws:List W} {xs:List V} {G:Fp},RepW K Z H ws xs G->xs.length=ws.length
 | [],_,_,h=>by rw [show _=[] from h]; rfl
 | _::_,_,_,⟨x,r,G1,G2,e,_,_,_,_,q⟩=>by rw [e,a0f,a0f,RepW.length q]
theorem RepW.mono:∀ {ws:List W} {xs:List V} {G G':Fp},(∀ a,G a->G' a)->RepW K Z H ws xs G->RepW K Z H ws xs G'
 | [],_,_,_,_,h=>h
 | _::_,_,_,_,w,⟨x,r,G1,G2,e,h1,h2,hd,p,q⟩=>⟨x,r,G1,G2,e,fun a ha=>w a (h1 a ha),fun a ha=>w a (h2 a ha),hd,p,q⟩
theorem RepW.keep (s:Stay Z H H')(z:∀ a,Z a->Z' a):∀ {ws:List W} {xs:List V} {G:Fp},(∀ a o,G a->H a=some o->H' a=some o)->RepW K Z H ws xs G->RepW K Z' H' ws xs G
 | [],_,_,_,h=>h
 | _::_,_,_,g,⟨x,r,G1,G2,e,h1,h2,hd,p,q⟩=>⟨x,r,G1,G2,e,h1,h2,hd,p.keep s z fun a o ha=>g a o (h1 a ha),RepW.keep s z (fun a o ha=>g a o (h2 a ha)) q⟩
theorem RepW.append:∀ {ws us:List W} {xs ys:List V} {G1 G2 G:Fp},(∀ a,G1 a->G a)->(∀ a,G2 a->G a)->(∀ a,G1 a->¬ G2 a)->RepW K Z H ws xs G1->RepW K Z H us ys G2->RepW K Z H (ws++us) (xs++ys) G
 | [],us,xs,ys,G1,G2,G,w1,w2,d,h,k=>by rw [show xs=[] from h]; exact k.mono w2
 | t::ts,us,xs,ys,G1,G2,G,w1,w2,d,⟨x,r,A,B,e,h1,h2,hd,p,q⟩,k=>by
  rw [e]
  refine ⟨x,r++ys,A,fun a=>B a\/G2 a,rfl,fun a ha=>w1 a (h1 a ha),fun a ha=>ha.elim (fun z=>w1 a (h2 a z)) (w2 a),fun a ha hb=>hb.elim (hd a ha) (d a (h1 a ha)),p,?_⟩
  exact RepW.append (fun a z=>.inl z) (fun a z=>.inr z) (fun a ha=>d a (h2 a ha)) q k
theorem RepW.one {w:W}{x:V}(p:Rep K Z H w.1 w.2 x G):RepW K Z H [w] [x] G:=⟨x,[],G,no,rfl,fun _ h=>h,fun _ h=>h.elim,fun _ _ h=>h,p,rfl⟩
theorem fx:∀ {ws:List W} {w:W},w∈ws->(fo ws).le (lf w.1 w.2)=true
 | u::ws,w,h=>by
  rcases a0q.mp h with z | z
  ·subst z; exact (b9 _ _).1
  ·exact le_trans (b9 _ _).2 (fx z)
theorem Rep.lf (h:Rep K Z H m t v G):Rep K Z H (M.lf m t) t v G:=by
 unfold M.lf
 split
 ·rename_i hl; exact h.leaf (fun _ _ _ q=>q) hl
 ·exact h
theorem RepW.to {N:Md}:∀ {ws:List W} {xs:List V} {G:Fp},(∀ w∈ws,N.le (M.lf w.1 w.2)=true)->RepW K Z H ws xs G->∃ G',(∀ a,G' a->G a)/\RepL K (bO Z G G') H N (aI ws) xs G'
 | [],_,G,_,h=>⟨G,fun _ z=>z,h⟩
 | w::ws,xs,G,hm,⟨x,r,G1,G2,e,h1,h2,hd,p,q⟩=>by
  obtain ⟨A,a1,a2⟩:=Rep.weak (hm w a0d) p.lf
  obtain ⟨B,b1,b2⟩:=RepW.to (fun u hu=>hm u (a0c _ hu)) q
  refine ⟨fun b=>A b\/B b,fun b hb=>hb.elim (fun z=>h1 b (a1 b z)) (fun z=>h2 b (b1 b z)),x,r,A,B,e,fun _ z=>.inl z,fun _ z=>.inr z,fun b za zb=>hd b (a1 b za) (b1 b zb),?_,?_⟩
  ·refine a2.zmono fun b hb=>hb.imp id fun z=>⟨h1 b z.1,fun q=>q.elim z.2 fun w=>hd b z.1 (b1 b w)⟩
  ·refine b2.zmono fun b hb=>hb.imp id fun z=>⟨h2 b z.1,fun q=>q.elim (fun w=>hd b (a1 b w) z.1) z.2⟩
end
noncomputable def OO:=List V ⊕ List (Key×V)
noncomputable def OO.ho:OO->HO
 | .inl xs=>.lst xs
 | .inr kvs=>.dK kvs
noncomputable def Own (Z:Fp)(H:Hp)(F:Fp):Prop:=∀ a,F a->¬ Z a/\∃ xs:OO,H a=some xs.ho
theorem gM {xs:List V}{ys:OO}(e:some (HO.tup xs)=some ys.ho):False:=by cases ys<;>cases e
theorem cQ {o:PySem.Obj}{u:HO}{ys:OO}(e:some (HO.frz o u)=some ys.ho):False:=by cases ys<;>cases e
structure Step (Z:Fp)(H:Hp)(F:Fp)(Z':Fp)(H':Hp)(F':Fp):Prop where
 keep:∀ a o,H a=some o->¬ F a->H' a=some o
 zm:∀ a,Z a->Z' a
 zn:∀ a,Z' a->Z a\/F a\/H a=none
 fn:∀ a,F' a->F a\/H a=none
 al:∀ a,H a≠none->H' a≠none
 za:(∀ a,Z a->H a≠none)->∀ a,Z' a->H' a≠none
section
variable {K:a0a}{Z Z1 Z2 Z':Fp}{H H1 H2 H':Hp}{F F1 F2 F' R G:Fp}
theorem Step.refl (Z:Fp)(H:Hp)(F:Fp):Step Z H F Z H F:=⟨fun _ _ h _=>h,fun _ h=>h,fun _ h=>.inl h,fun _ h=>.inl h,fun _ h=>h,fun z=>z⟩
theorem Step.trans (s:Step Z H F Z1 H1 F1)(t:Step Z1 H1 F1 Z2 H2 F2):Step Z H F Z2 H2 F2 where
 keep:=fun a o h n=>t.keep a o (s.keep a o h n) fun q=>(s.fn a q).elim n fun z=>by rw [h] at z; cases z
 zm:=fun a h=>t.zm a (s.zm a h)
 zn:=fun a h=>by
  rcases t.zn a h with q | q | q
  ·exact s.zn a q
  ·exact .inr (s.fn a q)
  ·exact .inr (.inr (by
    cases e:H a with
    | none=>rfl
    | some o=>exact absurd q (s.al a (by rw [e]; simp))))
 fn:=fun a h=>by
  rcases t.fn a h with q | q
  ·exact s.fn a q
  ·exact .inr (by
    cases e:H a with
    | none=>rfl
    | some o=>exact absurd q (s.al a (by rw [e]; simp)))
 al:=fun a h=>t.al a (s.al a h)
 za:=fun z=>t.za (s.za z)
theorem Step.frame (R:Fp)(s:Step Z H F Z' H' F'):Step Z H (fun a=>F a\/R a) Z' H' (fun a=>F' a\/R a) where
 keep:=fun a o h n=>s.keep a o h fun q=>n (.inl q)
 zm:=s.zm
 zn:=fun a h=>(s.zn a h).imp id fun q=>q.imp .inl id
 fn:=fun a h=>h.elim (fun q=>(s.fn a q).imp .inl id) fun q=>.inl (.inr q)
 al:=s.al
 za:=s.za
theorem Step.mono (s:Step Z H F Z' H' F')(h1:∀ a,F a->F1 a)(h2:∀ a,F2 a->F' a):Step Z H F1 Z' H' F2 where
 keep:=fun a o h n=>s.keep a o h fun q=>n (h1 a q)
 zm:=s.zm
 zn:=fun a h=>(s.zn a h).imp id fun q=>q.imp (h1 a) id
 fn:=fun a h=>(s.fn a (h2 a h)).imp (h1 a) id
 al:=s.al
 za:=s.za
theorem Own.stay (o:Own Z H F)(s:Step Z H F Z' H' F'):Stay Z H H':=by
 refine ⟨fun a u hz h=>s.keep a u h fun q=>(o a q).1 hz,fun a xs h=>?_,fun a u v h=>s.keep a _ h fun q=>?_⟩
 ·rcases h with h | ⟨u,h⟩
  ·refine .inl (s.keep a _ h fun q=>?_)
   obtain ⟨_,ys,e⟩:=o a q
   rw [h] at e; exact gM e
  ·refine .inr ⟨u,s.keep a _ h fun q=>?_⟩
   obtain ⟨_,ys,e⟩:=o a q
   rw [h] at e; exact cQ e
 ·obtain ⟨_,ys,e⟩:=o a q
  rw [h] at e; exact cQ e
theorem Rep.frame {m:Md}{t:T}{v:V}(o:Own Z H F)(s:Step Z H F Z' H' F')(d:∀ a,G a->¬ F a)(h:Rep K Z H m t v G):Rep K Z' H' m t v G:=h.keep (o.stay s) s.zm fun a u ha e=>s.keep a u e (d a ha)
theorem RepW.frame {ws:List W}{xs:List V}(o:Own Z H F)(s:Step Z H F Z' H' F')(d:∀ a,G a->¬ F a)(h:RepW K Z H ws xs G):RepW K Z' H' ws xs G:=h.keep (o.stay s) s.zm fun a u ha e=>s.keep a u e (d a ha)
theorem Own.frame (o:Own Z H G)(s:Step Z H F Z' H' F')(d:∀ a,G a->¬ F a):Own Z' H' G/\∀ a,G a->¬ F' a:=by
 refine ⟨fun a ha=>?_,fun a ha q=>?_⟩
 ·obtain ⟨nz,xs,e⟩:=o a ha
  refine ⟨fun q=>?_,xs,s.keep a _ e (d a ha)⟩
  rcases s.zn a q with z | z | z
  ·exact nz z
  ·exact d a ha z
  ·rw [e] at z; cases z
 ·obtain ⟨nz,xs,e⟩:=o a ha
  rcases s.fn a q with z | z
  ·exact d a ha z
  ·rw [e] at z; cases z
end
noncomputable abbrev Fps:=Nat->Fp
noncomputable def tot (Fs:Fps):Fp:=fun a=>∃ i,Fs i a
structure Gd (Z:Fp)(H:Hp)(Fs:Fps):Prop where
 own:Own Z H (tot Fs)
 dis:∀ i j a,Fs i a->Fs j a->i=j
 zal:∀ a,Z a->H a≠none
structure Cf where
 sl:Nat->Option Nat
 pv:Nat->Option V
noncomputable def CO (K:a0a)(sl:Cf)(Z:Fp)(H:Hp)(η:Env)(σ:L2.St)(Fs:Fps):Prop :=
 ∀ i m t,rd η i=some (m,t)->∃ v,Rep K Z H m t v (Fs i)/\(∀ j,sl.sl i=some j->σ[j]?=some (some v))/\∀ u,sl.pv i=some u->v=u
structure At (K:a0a)(sl:Cf)(σ:L2.St)(Z:Fp)(H:Hp)(Fs:Fps)(η:Env)(G:Fp):Prop where
 gd:Gd Z H Fs
 env:CO K sl Z H η σ Fs
 own:Own Z H G
 dis:∀ a,G a->¬ tot Fs a
 lk:∀ i u j,sl.pv i=some u->sl.sl i=some j->σ[j]?=some (some u)
 ln:∀ i j,sl.sl i=some j->j < σ.length
section
variable {K:a0a}{sl:Cf}{σ:L2.St}{Z Z':Fp}{H H':Hp}{Fs Fs':Fps}{η η':Env}{G G' R:Fp}
theorem At.frame (a:At K sl σ Z H Fs η R)(b:At K sl σ Z' H' Fs' η' G)(s:Step Z H (tot Fs) Z' H' (fun c=>tot Fs' c\/G c)) :
  At K sl σ Z' H' Fs' η' (fun c=>R c\/G c)/\Step Z H (fun c=>tot Fs c\/R c) Z' H' (fun c=>tot Fs' c\/(R c\/G c))/\∀ c,R c->¬ G c:=by
 have o:=a.own.frame s a.dis
 refine ⟨⟨b.gd,b.env,fun c hc=>hc.elim (o.1 c) (b.own c),fun c hc=>hc.elim (fun z q=>o.2 c z (.inl q)) (b.dis c),b.lk,b.ln⟩,(s.frame R).mono (fun _ z=>z) fun c hc=>?_,fun c z q=>o.2 c z (.inr q)⟩
 rcases hc with z | z | z
 ·exact .inl (.inl z)
 ·exact .inr z
 ·exact .inl (.inr z)
end
end MR
namespace MR
open L2 L3 M
open PySem (Addr Str sizeLine)
section
variable {K:a0a}{sl:Cf}{sf:Nat->Option Nat}{C:Call}{σ:L2.St}{Z Z' Z1:Fp}{H H' H1:Hp}{Fs Fs' Fs1:Fps}{η η' η1:Env}{G G' R F:Fp}
theorem At.mono (a:At K sl σ Z H Fs η G)(h:∀ c,G' c->G c):At K sl σ Z H Fs η G':=⟨a.gd,a.env,fun c hc=>a.own c (h c hc),fun c hc=>a.dis c (h c hc),a.lk,a.ln⟩
theorem At.bare (a:At K sl σ Z H Fs η G):At K sl σ Z H Fs η no:=a.mono fun _ z=>z.elim
noncomputable def wE (K:a0a)(sl:Nat->Option Nat)(C:Call)(e:E):TE:=fun σ H Q=>∃ pv Z Fs η w η',At K ⟨sl,pv⟩ σ Z H Fs η no/\evE C e η=.ok (w,η') /\
 ∀ v Z' H' Fs' G,At K ⟨sl,pv⟩ σ Z' H' Fs' η' G->Rep K Z' H' w.1 w.2 v G->Step Z H (tot Fs) Z' H' (fun a=>tot Fs' a\/G a)->Q v H'
noncomputable def wL (K:a0a)(sl:Nat->Option Nat)(C:Call)(es:List E):TA:=fun σ H Q=>∃ pv Z Fs η ws η',At K ⟨sl,pv⟩ σ Z H Fs η no/\evL C es η=.ok (ws,η') /\
 ∀ vs Z' H' Fs' G,At K ⟨sl,pv⟩ σ Z' H' Fs' η' G->RepW K Z' H' ws vs G->Step Z H (tot Fs) Z' H' (fun a=>tot Fs' a\/G a)->Q vs H'
theorem jO {e:E}{w:W}{Q:VK}(A:At K sl σ Z H Fs η R)(ev:evE C e η=.ok (w,η'))
  (k:∀ v Z' H' Fs' G,At K sl σ Z' H' Fs' η' (fun c=>R c\/G c)->Rep K Z' H' w.1 w.2 v G->(∀ c,R c->¬ G c)->Step Z H (tot Fs) Z' H' (fun a=>tot Fs' a\/G a) ->
   Step Z H (fun c=>tot Fs c\/R c) Z' H' (fun c=>tot Fs' c\/(R c\/G c))->Q v H'):wE K sl.sl C e σ H Q :=
 ⟨sl.pv,Z,Fs,η,w,η',A.bare,ev,fun v Z' H' Fs' G B r s=>by
  obtain ⟨h1,h2,h3⟩:=A.frame B s
  exact k v Z' H' Fs' G h1 r h3 s h2⟩
theorem CP {es:List E}{ws:List W}{Q:List V->Hp->Prop}(A:At K sl σ Z H Fs η R)(ev:evL C es η=.ok (ws,η'))
  (k:∀ vs Z' H' Fs' G,At K sl σ Z' H' Fs' η' (fun c=>R c\/G c)->RepW K Z' H' ws vs G->(∀ c,R c->¬ G c)->Step Z H (tot Fs) Z' H' (fun a=>tot Fs' a\/G a) ->
   Step Z H (fun c=>tot Fs c\/R c) Z' H' (fun c=>tot Fs' c\/(R c\/G c))->Q vs H'):wL K sl.sl C es σ H Q :=
 ⟨sl.pv,Z,Fs,η,ws,η',A.bare,ev,fun v Z' H' Fs' G B r s=>by
  obtain ⟨h1,h2,h3⟩:=A.frame B s
  exact k v Z' H' Fs' G h1 r h3 s h2⟩
theorem aa {α β:Type}{r:Res α}{f:α->Res β}{b:β}(h:r.bind f=.ok b):∃ a,r=.ok a/\f a=.ok b:=by
 cases r with
 | ok a=>exact ⟨a,rfl,h⟩
 | ex c x=>cases h
 | no=>cases h
theorem aq {α:Type}{η:Env}{o:Option α}{b:α×Env}(h:ret η o=.ok b):∃ a,o=some a/\b=(a,η):=by
 cases o with
 | none=>cases h
 | some a=>exact ⟨a,rfl,by cases h; rfl⟩
theorem a9 {α:Type}{o:Option α}{b:α}(h:ofO o=.ok b):o=some b:=by
 cases o with
 | none=>cases h
 | some a=>cases h; rfl
theorem av {e:E}{es:List E}{ws:List W}(h:evL C (e::es) η=.ok (ws,η')):∃ w η1 us,evE C e η=.ok (w,η1)/\evL C es η1=.ok (us,η')/\ws=w::us:=by
 obtain ⟨⟨w,η1⟩,h1,h2⟩:=aa (show (evE C e η).bind (aV (evL C es))=_ from h)
 obtain ⟨⟨us,η2⟩,h3,h4⟩:=aa (show (evL C es η1).bind (kH w)=_ from h2)
 cases h4
 exact ⟨w,η1,us,h1,h3,rfl⟩
theorem ez {e:E}{es:List E}{ws:List W}(he:∀ i,e≠.io i)(h:evA C (e::es) η=.ok (ws,η')):∃ w η1 us,evE C e η=.ok (w,η1)/\evA C es η1=.ok (us,η')/\ws=w::us:=by
 rw [v5 he] at h
 obtain ⟨⟨w,η1⟩,h1,h2⟩:=aa h
 obtain ⟨⟨us,η2⟩,h3,h4⟩:=aa (show (evA C es η1).bind (kH w)=_ from h2)
 cases h4
 exact ⟨w,η1,us,h1,h3,rfl⟩
theorem gy {i:Nat}{es:List E}{ws:List W}(h:evA C (.io i::es) η=.ok (ws,η')):∃ us η1 w,evA C es η=.ok (us,η1)/\rd η1 i=some w/\ws=w::us/\η'=del η1 i:=by
 obtain ⟨⟨us,η1⟩,h1,h2⟩:=aa (show (evA C es η).bind (kIo i)=_ from h)
 obtain ⟨w,h3,h4⟩:=aa (show (ofO (rd η1 i)).bind (fun w=>.ok (w::us,del η1 i))=_ from h2)
 cases h4
 exact ⟨us,η1,w,h1,a9 h3,rfl,rfl⟩
theorem BP (e:E):(∃ i,e=.io i)\/∀ i,e≠.io i:=by
 cases e with
 | io i=>exact .inl ⟨i,rfl⟩
 | _=>exact .inr fun _ z=>by cases z
theorem rm {e:E}{es:List E}(σ:L2.St)(H:Hp)(Q:List V->Hp->Prop)(h:wL K sf C (e::es) σ H Q):lP (wE K sf C e) (wL K sf C es) σ H Q:=by
 obtain ⟨pv,Z,Fs,η,ws,η',A,ev,k⟩:=h
 obtain ⟨w,η1,us,h1,h2,rfl⟩:=av ev
 refine jO A h1 fun x Z1 H1 Fs1 G1 A1 r1 _ s1 _=>?_
 have A1':=A1.mono (G':=G1) fun _ z=>.inr z
 refine CP A1' h2 fun xs Z2 H2 Fs2 G2 A2 r2 d2 s2 t2=>?_
 refine k (x::xs) Z2 H2 Fs2 _ A2 ⟨x,xs,G1,G2,rfl,fun _ z=>.inl z,fun _ z=>.inr z,d2,r1.frame A1.gd.own s2 A1'.dis,r2⟩ ?_
 exact s1.trans t2
theorem xF (σ:L2.St)(H:Hp)(Q:List V->Hp->Prop)(h:wL K sf C [] σ H Q):xD σ H Q:=by
 obtain ⟨pv,Z,Fs,η,ws,η',A,ev,k⟩:=h
 cases ev
 exact k [] Z H Fs no A rfl ((Step.refl _ _ _).mono (fun _ z=>z) fun a ha=>ha.elim id fun z=>z.elim)
noncomputable def Out (K:a0a)(Z:Fp)(H:Hp)(G:Fp)(w:W)(Q:VK):Prop:=∀ v Z' H' G',Rep K Z' H' w.1 w.2 v G'->Own Z' H' G'->Step Z H G Z' H' G'->Q v H'
theorem At.op (A:At K sl σ Z H Fs η G)(o:Own Z' H' G')(s:Step Z H G Z' H' G'):At K sl σ Z' H' Fs η G'/\Step Z H (fun c=>tot Fs c\/G c) Z' H' (fun c=>tot Fs c\/G' c):=by
 have d:∀ a,tot Fs a->¬ G a:=fun a h q=>A.dis a q h
 have f:=A.gd.own.frame s d
 refine ⟨⟨⟨f.1,A.gd.dis,s.za A.gd.zal⟩,fun i m t e=>?_,o,fun a ha q=>f.2 a q ha,A.lk,A.ln⟩,?_⟩
 ·obtain ⟨v,r,hv⟩:=A.env i m t e
  exact ⟨v,r.frame A.own s fun a ha=>d a ⟨i,ha⟩,hv⟩
 ·refine (s.frame (tot Fs)).mono (fun _ z=>z.symm) fun _ z=>z.symm
theorem bN {w:W}{Q:VK}(A:At K sl σ Z1 H1 Fs1 η1 G)(s:Step Z H F Z1 H1 (fun a=>tot Fs1 a\/G a))
  (k:∀ v Z' H' Fs' G,At K sl σ Z' H' Fs' η1 G->Rep K Z' H' w.1 w.2 v G->Step Z H F Z' H' (fun a=>tot Fs' a\/G a)->Q v H'):Out K Z1 H1 G w Q:=fun v Z' H' G' r o t=>by
 obtain ⟨B,u⟩:=A.op o t
 exact k v Z' H' Fs1 G' B r (s.trans u)
noncomputable def Loc (K:a0a)(n:Nat)(o:Op)(h:Bool)(r:List V->Hp->VK->Prop):Prop:=∀ (ws:List W) (w:W) (xs:List V) (Z:Fp) (H:Hp) (G:Fp) (Q:VK),ws.length=n->oSem o h ws=some w->RepW K Z H ws xs G->Own Z H G->(∀ a,Z a->H a≠none)->Out K Z H G w Q->r xs H Q
theorem cx {o:Op}{h:Bool}{es:List E}{w:W}(e:evE C (.op o h es) η=.ok (w,η')):∃ ws,evL C es η=.ok (ws,η')/\oSem o h ws=some w:=by
 obtain ⟨⟨ws,η1⟩,h1,h2⟩:=aa (show (evL C es η).bind (kOp o h)=_ from e)
 obtain ⟨a,h3,h4⟩:=aq (show ret η1 (oSem o h ws)=_ from h2)
 cases h4
 exact ⟨ws,h1,h3⟩
theorem d5:∀ {es:List E} {η η':Env} {ws:List W},evL C es η=.ok (ws,η')->ws.length=es.length
 | [],_,_,_,h=>by cases h; rfl
 | e::es,_,_,_,h=>by
  obtain ⟨w,η1,us,_,h2,rfl⟩:=av h
  rw [a0f,a0f,d5 h2]
theorem gj {n:Nat}{o:Op}{h:Bool}{es:List E}{r:List V->Hp->VK->Prop}(l:Loc K n o h r)(hn:es.length=n)(σ:L2.St)(H:Hp)(Q:VK)(hw:wE K sf C (.op o h es) σ H Q):tCB r (wL K sf C es) σ H Q:=by
 obtain ⟨pv,Z,Fs,η,w,η',A,ev,k⟩:=hw
 obtain ⟨ws,h1,h2⟩:=cx ev
 exact ⟨pv,Z,Fs,η,ws,η',A,h1,fun vs Z' H' Fs' G B r s=>l ws w vs Z' H' G Q ((d5 h1).trans hn) h2 r B.own B.gd.zal (bN B s k)⟩
theorem xt {o:Op}{h:Bool}{a:E}{r:V->Hp->VK->Prop}(l:Loc K 1 o h fun xs H Q=>∀ x,xs=[x]->r x H Q)(σ:L2.St)(H:Hp)(Q:VK)(hw:wE K sf C (.op o h [a]) σ H Q):tUn r (wE K sf C a) σ H Q:=by
 obtain ⟨pv,Z,Fs,η,w,η',A,ev,k⟩:=hw
 obtain ⟨ws,h1,h2⟩:=cx ev
 obtain ⟨wa,η1,us,e1,e2,rfl⟩:=av h1
 cases e2
 refine ⟨pv,Z,Fs,η,wa,η',A,e1,fun x Z' H' Fs' G B r s=>l [wa] w [x] Z' H' G Q rfl h2 (RepW.one r) B.own B.gd.zal (bN B s k) x rfl⟩
theorem aL {o:Op}{h:Bool}{a b:E}{r:R2}(l:Loc K 2 o h fun xs H Q=>∀ x y,xs=[x,y]->r x y H Q)(σ:L2.St)(H:Hp)(Q:VK)(hw:wE K sf C (.op o h [a,b]) σ H Q):tOp r (wE K sf C a) (wE K sf C b) σ H Q:=by
 obtain ⟨pv,Z,Fs,η,w,η',A,ev,k⟩:=hw
 obtain ⟨ws,h1,h2⟩:=cx ev
 obtain ⟨wa,η1,us,e1,e2,rfl⟩:=av h1
 obtain ⟨wb,η2,us,e3,e4,rfl⟩:=av e2
 cases e4
 refine jO A e1 fun x Z1 H1 Fs1 G1 A1 r1 _ s1 _=>?_
 have A1':=A1.mono (G':=G1) fun _ z=>.inr z
 refine jO A1' e3 fun y Z2 H2 Fs2 G2 A2 r2 d2 s2 t2=>?_
 exact l [wa,wb] w [x,y] Z2 H2 _ Q rfl h2 ⟨x,[y],G1,G2,rfl,fun _ z=>.inl z,fun _ z=>.inr z,d2,r1.frame A1.gd.own s2 A1'.dis,RepW.one r2⟩ A2.own A2.gd.zal (bN A2 (s1.trans t2) k) x y rfl
theorem bC:Own Z H no:=fun _ z=>z.elim
theorem Step.drop:Step Z H G Z H no:=(Step.refl Z H G).mono (fun _ z=>z) fun _ z=>z.elim
section
variable {Q:VK}{m:Md}{ts:List T}{xs:List V}
theorem aF {i:Int}(k:Out K Z H G (m,.int i) Q):Q (.int i) H:=k _ Z H no rfl bC .drop
theorem dB {b:Bool}(k:Out K Z H G (m,.bl b) Q):Q (.bl b) H:=k _ Z H no rfl bC .drop
theorem gG {x:Str}(k:Out K Z H G (m,.str x) Q)(h:sOk x=true):Q (.str x) H:=k _ Z H no ⟨rfl,h⟩ bC .drop
theorem fg {t:T}{v:V}(o:Own Z H G)(k:Out K Z H G (m,t) Q)(r:Rep K Z H m t v G):Q v H:=k v Z H G r o (.refl _ _ _)
theorem iP {p:Addr}{o:HO}(hp:H p=none):Stay Z H (upd H p o):=by
 have ne:∀ {a u},H a=some u->a≠p:=fun {a u} e z=>by subst z; rw [hp] at e; cases e
 refine ⟨fun a u _ e=>?_,fun a xs e=>?_,fun a u v e=>?_⟩
 ·rw [ab (ne e)]; exact e
 ·rcases e with e | ⟨u,e⟩
  ·exact .inl (by rw [ab (ne e)]; exact e)
  ·exact .inr ⟨u,by rw [ab (ne e)]; exact e⟩
 ·rw [ab (ne e)]; exact e
theorem ef {p:Addr}{o:HO}(hp:H p=none)(ow:Own Z H G)(hg:∀ a,G' a->G a\/a=p)(z:Fp)(hz:∀ a,Z a->z a)(hz':∀ a,z a->Z a\/G a):Step Z H G z (upd H p o) G':=by
 have ne:∀ {a u},H a=some u->a≠p:=fun {a u} e q=>by subst q; rw [hp] at e; cases e
 have al:∀ a,H a≠none->upd H p o a≠none:=fun a h=>by
  by_cases e:a=p
  ·rw [e,ag]; simp
  ·rw [ab e]; exact h
 refine ⟨fun a u e _=>by rw [ab (ne e)]; exact e,hz,fun a h=>(hz' a h).imp id .inl,fun a h=>(hg a h).imp id fun e=>by rw [e]; exact hp,al,fun q a h=>al a ?_⟩
 rcases hz' a h with c | c
 ·exact q a c
 ·obtain ⟨_,xs,e⟩:=ow a c
  rw [e]; simp
theorem bo {p:Addr}(ow:Own Z H G)(za:∀ a,Z a->H a≠none)(hg:∀ a,G' a->G a)(hl:xs.length<=LIM)(r:RepL K (bO Z G G') H m.kid ts xs G')(hm:m≠.s)(k:Out K Z H G (m,.lst ts) Q)(hp:H p=none):Q (.ref p) (upd H p (.lst xs)):=by
 have ne:∀ {a u},H a=some u->a≠p:=fun {a u} e q=>by subst q; rw [hp] at e; cases e
 have np:∀ a,G' a->a≠p:=fun a h=>by obtain ⟨_,ys,e⟩:=ow a (hg a h); exact ne e
 refine k _ (bO Z G G') _ (fun a=>G' a\/a=p) ⟨p,xs,rfl,hl,(LstR.own hm).mpr ⟨.inr rfl,ag⟩,?_⟩ ?_ (ef hp ow (fun a h=>h.imp (hg a) id) _ (fun a h=>.inl h) fun a h=>h.imp id a2V)
 ·refine (r.keep (iP hp) (fun _ z=>z) fun a u _ e=>by rw [ab (ne e)]; exact e).mono fun a h=>⟨.inl h,np a h⟩
 ·rintro a (h | h)
  ·obtain ⟨nz,ys,e⟩:=ow a (hg a h)
   exact ⟨fun z=>z.elim nz fun q=>q.2 h,ys,by rw [ab (ne e)]; exact e⟩
  ·subst h
   refine ⟨fun z=>z.elim (fun q=>za a q hp) fun q=>?_,.inl xs,ag⟩
   obtain ⟨_,ys,e⟩:=ow a q.1
   rw [hp] at e; cases e
theorem rE {p:Addr}(ow:Own Z H G)(hg:∀ a,G' a->G a)(hl:xs.length<=LIM)(r:RepL K (bO Z G G') H m.kid ts xs G')(k:Out K Z H G (m,.tup ts) Q)(hp:H p=none):Q (.ref p) (upd H p (.tup xs)):=by
 have ne:∀ {a u},H a=some u->a≠p:=fun {a u} e q=>by subst q; rw [hp] at e; cases e
 refine k _ (bO Z G G') _ G' ⟨p,xs,rfl,.inl (.inl ag),hl,?_⟩ ?_ (ef hp ow (fun a h=>.inl (hg a h)) _ (fun a h=>.inl h) fun a h=>h.imp id a2V)
 ·exact r.keep (iP hp) (fun _ z=>z) fun a u _ e=>by rw [ab (ne e)]; exact e
 ·intro a h
  obtain ⟨nz,ys,e⟩:=ow a (hg a h)
  exact ⟨fun z=>z.elim nz fun q=>q.2 h,ys,by rw [ab (ne e)]; exact e⟩
theorem jg {v:V}{H':Hp}(ow:Own Z H G)(hg:∀ a,G' a->G a)(hl:xs.length<=LIM)(r:RepL K (bO Z G G') H m.kid ts xs G')(k:Out K Z H G (m,.tup ts) Q)(same:∀ b o,H b=some o->H' b=some o)(hv:∃ c,v=.ref c/\SqT K H' c xs):Q v H':=by
 obtain ⟨c,rfl,hs⟩:=hv
 have al:∀ a,H a≠none->H' a≠none:=fun a h=>by
  cases e:H a with
  | none=>exact absurd e h
  | some o=>rw [same a o e]; simp
 refine k _ (bO Z G G') _ G' ⟨c,xs,rfl,hs,hl,?_⟩ (fun a h=>?_) ⟨fun a o e _=>same a o e,fun a h=>.inl h,fun a h=>h.imp id fun q=>.inl q.1,fun a h=>.inl (hg a h),al,fun q a h=>al a ?_⟩
 ·refine r.keep ⟨fun a o _ e=>same a o e,fun a ys e=>?_,fun a o u e=>same a _ e⟩ (fun _ z=>z) fun a u _ e=>same a u e
  rcases e with e | ⟨u,e⟩
  ·exact .inl (same a _ e)
  ·exact .inr ⟨u,same a _ e⟩
 ·obtain ⟨nz,ys,e⟩:=ow a (hg a h)
  exact ⟨fun z=>z.elim nz fun q=>q.2 h,ys,same a _ e⟩
 ·rcases h with h | h
  ·exact q a h
  ·obtain ⟨_,ys,e⟩:=ow a h.1
   rw [e]; simp
theorem cB {p:Addr}{h:Bool}{w:W}(ow:Own Z H G)(za:∀ a,Z a->H a≠none)(hl:xs.length<=LIM)(r:∃ G',(∀ a,G' a->G a)/\RepL K (bO Z G G') H m ts xs G')(hn:newL h m ts=some w)(k:Out K Z H G w Q)(hp:H p=none):Q (.ref p) (upd H p (.lst xs)):=by
 obtain ⟨G',hg,r⟩:=r
 unfold newL at hn
 split at hn
 ·split at hn
  ·rename_i hlv
   cases hn
   refine bo (m:=.d) (G':=no) ow za (fun _ z=>z.elim) hl ?_ (by simp) k hp
   exact r.leaves (fun _ _ _ e=>e) hlv
  ·cases hn
 ·cases hn
  exact bo (m:=m.up) ow za hg hl (by rw [eG]; exact r) (cI m) k hp
end
end
end MR
namespace MR
open L2 L3 M
open PySem (Addr Str sizeLine)
section
variable {K:a0a}{h:Bool}
theorem dy {α β:Type}{ws:List α}{x y:β}(e:ws.length=[x,y].length):∃ a b,ws=[a,b]:=by
 match ws,e with
 | [a,b],_=>exact ⟨a,b,rfl⟩
theorem Bl {α β:Type}{ws:List α}{x:β}(e:ws.length=[x].length):∃ a,ws=[a]:=by
 match ws,e with
 | [a],_=>exact ⟨a,rfl⟩
theorem b5 {Z:Fp}{H:Hp}{G:Fp}{u w:W}{x y:V}(r:RepW K Z H [u,w] [x,y] G):∃ G1 G2,(∀ a,G1 a->G a)/\(∀ a,G2 a->G a)/\(∀ a,G1 a->¬ G2 a)/\Rep K Z H u.1 u.2 x G1/\Rep K Z H w.1 w.2 y G2:=by
 obtain ⟨x',r',G1,G2,e,h1,h2,d,p,y',r2,G3,G4,e2,h3,h4,d2,q,z⟩:=r
 cases e; cases e2
 exact ⟨G1,G3,h1,fun a ha=>h2 a (h3 a ha),fun a ha hb=>d a ha (h3 a hb),p,q⟩
theorem vN {Z:Fp}{H:Hp}{G:Fp}{w:W}{x:V}(r:RepW K Z H [w] [x] G):Rep K Z H w.1 w.2 x G:=by
 obtain ⟨x',r',G1,G2,e,h1,h2,d,p,z⟩:=r
 cases e
 exact p.mono h1
theorem cg {ws:List W}{xs:List V}{Z:Fp}{H:Hp}{G:Fp}{w:W}(hw:ws=[w])(r:RepW K Z H ws xs G):∃ x,xs=[x]/\Rep K Z H w.1 w.2 x G:=by
 subst hw
 obtain ⟨x,hx⟩:=Bl (x:=()) (show xs.length=[()].length from r.length)
 subst hx
 exact ⟨x,rfl,vN r⟩
theorem dG {n:Nat}(h:n<=LIM):n < sizeLine:=a1C h (by decide)
theorem a8 {n:Nat}(h:n<=LIM):n<=sizeLine:=a2y (dG h)
theorem bB {n:Nat}(h:fits n=true):n<=LIM:=of_decide_eq_true h
theorem oa {o:Op}{C:Int->Int->Prop}{g:Int->Int->T}(inv:∀ {u v w:W},oSem o h [u,v]=some w->∃ m n i j,u=(m,.int i)/\v=(n,.int j)/\C i j/\w=(.d,g i j))(gv:Int->Int->V)(hg:∀ {Z:Fp} {H:Hp} {G:Fp} {Q:VK} {i j:Int},Out K Z H G (.d,g i j) Q->Q (gv i j) H) :
  Loc K 2 o h fun xs H Q=>∀ x y,xs=[x,y]->rI C gv x y H Q:=by
 intro ws w xs Z H G Q hn e r ow za k x y hx
 subst hx
 obtain ⟨u,v,rfl⟩:=dy r.length.symm
 obtain ⟨m,n,i,j,rfl,rfl,c,rfl⟩:=inv e
 obtain ⟨G1,G2,_,_,_,r1,r2⟩:=b5 r
 exact ⟨i,j,r1,r2,c,hg k⟩
theorem gW {o:Op}{g:Int->Int->T}(inv:∀ {u v w:W},oSem o h [u,v]=some w->∃ m n i j,u=(m,.int i)/\v=(n,.int j)/\w=(.d,g i j))(gv:Int->Int->V)(hg:∀ {Z:Fp} {H:Hp} {G:Fp} {Q:VK} {i j:Int},Out K Z H G (.d,g i j) Q->Q (gv i j) H) :
  Loc K 2 o h fun xs H Q=>∀ x y,xs=[x,y]->rI0 gv x y H Q:=by
 intro ws w xs Z H G Q hn e r ow za k x y hx
 subst hx
 obtain ⟨u,v,rfl⟩:=dy r.length.symm
 obtain ⟨m,n,i,j,rfl,rfl,rfl⟩:=inv e
 obtain ⟨G1,G2,_,_,_,r1,r2⟩:=b5 r
 exact ⟨i,j,r1,r2,hg k⟩
theorem tJ {u v w:W}(e:oSem .sub h [u,v]=some w):∃ m n i j,u=(m,.int i)/\v=(n,.int j)/\w=(.d,.int (i-j)):=by
 obtain ⟨m,a⟩:=u; obtain ⟨n,b⟩:=v
 cases a<;>first | (cases e; done) | (cases b<;>first | (cases e; exact ⟨_,_,_,_,rfl,rfl,rfl⟩) | cases e)
theorem pT {u v w:W}(e:oSem .lt h [u,v]=some w):∃ m n i j,u=(m,.int i)/\v=(n,.int j)/\w=(.d,.bl (decide (i < j))):=by
 obtain ⟨m,a⟩:=u; obtain ⟨n,b⟩:=v
 cases a<;>first | (cases e; done) | (cases b<;>first | (cases e; exact ⟨_,_,_,_,rfl,rfl,rfl⟩) | cases e)
theorem pD {u v w:W}(e:oSem .gt h [u,v]=some w):∃ m n i j,u=(m,.int i)/\v=(n,.int j)/\w=(.d,.bl (decide (j < i))):=by
 obtain ⟨m,a⟩:=u; obtain ⟨n,b⟩:=v
 cases a<;>first | (cases e; done) | (cases b<;>first | (cases e; exact ⟨_,_,_,_,rfl,rfl,rfl⟩) | cases e)
theorem n4 {u v w:W}(e:oSem .ge h [u,v]=some w):∃ m n i j,u=(m,.int i)/\v=(n,.int j)/\w=(.d,.bl (decide (j<=i))):=by
 obtain ⟨m,a⟩:=u; obtain ⟨n,b⟩:=v
 cases a<;>first | (cases e; done) | (cases b<;>first | (cases e; exact ⟨_,_,_,_,rfl,rfl,rfl⟩) | cases e)
theorem oI {u v w:W}(e:oSem .fdiv h [u,v]=some w):∃ m n i j,u=(m,.int i)/\v=(n,.int j)/\xj i j/\w=(.d,.int (i / j)):=by
 obtain ⟨m,a⟩:=u; obtain ⟨n,b⟩:=v
 cases a<;>first | (cases e; done) | (cases b<;>try (cases e; done))
 rename_i i j
 rw [qv] at e
 split at e
 ·rename_i hc
  rw [a0k,decide_eq_true_eq,decide_eq_true_eq] at hc
  cases e
  exact ⟨_,_,_,_,rfl,rfl,hc,rfl⟩
 ·cases e
theorem uF {u v w:W}(e:oSem .mod h [u,v]=some w):∃ m n i j,u=(m,.int i)/\v=(n,.int j)/\(0 < j)/\w=(.d,.int (i % j)):=by
 obtain ⟨m,a⟩:=u; obtain ⟨n,b⟩:=v
 cases a<;>first | (cases e; done) | (cases b<;>try (cases e; done))
 rename_i i j
 rw [vB] at e
 split at e
 ·rename_i hc
  rw [decide_eq_true_eq] at hc
  cases e
  exact ⟨_,_,_,_,rfl,rfl,hc,rfl⟩
 ·cases e
theorem uZ {u v w:W}(e:oSem .pow h [u,v]=some w):∃ m n i j,u=(m,.int i)/\v=(n,.int j)/\yw i j/\w=(.d,.int (i ^ j.toNat)):=by
 obtain ⟨m,a⟩:=u; obtain ⟨n,b⟩:=v
 cases a<;>first | (cases e; done) | (cases b<;>try (cases e; done))
 rename_i i j
 rw [Bm] at e
 split at e
 ·rename_i hc
  rw [a0k,a0k,decide_eq_true_eq,decide_eq_true_eq,decide_eq_true_eq] at hc
  cases e
  exact ⟨_,_,_,_,rfl,rfl,⟨hc.1.1,hc.1.2,hc.2⟩,rfl⟩
 ·cases e
theorem s9:Loc K 2 .sub h fun xs H Q=>∀ x y,xs=[x,y]->rI0 (fun i j=>.int (i-j)) x y H Q:=gW tJ _ fun k=>aF k
theorem xG:Loc K 2 .lt h fun xs H Q=>∀ x y,xs=[x,y]->rI0 (fun i j=>.bl (decide (i < j))) x y H Q:=gW pT _ fun k=>dB k
theorem yb:Loc K 2 .gt h fun xs H Q=>∀ x y,xs=[x,y]->rI0 (fun i j=>.bl (decide (j < i))) x y H Q:=gW pD _ fun k=>dB k
theorem yq:Loc K 2 .ge h fun xs H Q=>∀ x y,xs=[x,y]->rI0 (fun i j=>.bl (decide (j<=i))) x y H Q:=gW n4 _ fun k=>dB k
theorem qf:Loc K 2 .fdiv h fun xs H Q=>∀ x y,xs=[x,y]->rI xj (fun i j=>.int (i / j)) x y H Q:=oa oI _ fun k=>aF k
theorem tZ:Loc K 2 .mod h fun xs H Q=>∀ x y,xs=[x,y]->rI (fun _ j=>0 < j) (fun i j=>.int (i % j)) x y H Q:=oa uF _ fun k=>aF k
theorem tq:Loc K 2 .pow h fun xs H Q=>∀ x y,xs=[x,y]->rI yw (fun i j=>.int (i ^ j.toNat)) x y H Q:=oa uZ _ fun k=>aF k
theorem rQ:Loc K 1 .neg h fun xs H Q=>∀ x,xs=[x]->rU (fun i=>.int (-i)) x H Q:=by
 intro ws w xs Z H G Q hn e r ow za k x hx
 subst hx
 obtain ⟨⟨m,a⟩,rfl⟩:=Bl r.length.symm
 cases a<;>first | (cases e; exact ⟨_,vN r,aF k⟩) | cases e
theorem bG {Z:Fp}{H:Hp}{G:Fp}{m:Md}{ts:List T}{v:V}(r:Rep K Z H m (.lst ts) v G):∃ a xs,v=.ref a/\H a=some (.lst xs)/\xs.length<=LIM/\RepL K Z H m.kid ts xs G:=by
 obtain ⟨a,xs,e,l,q,p⟩:=r
 exact ⟨a,xs,e,by cases m<;>exact q.2,l,p.mono fun _ z=>z.1⟩
theorem cV {Z:Fp}{H:Hp}{G:Fp}{m:Md}{ts:List T}{v:V}(r:Rep K Z H m (.tup ts) v G):∃ a xs,v=.ref a/\SqT K H a xs/\xs.length<=LIM/\RepL K Z H m.kid ts xs G:=r
theorem iw {Z:Fp}{H:Hp}{G G1 G2:Fp}{m n:Md}{ts us:List T}{xs ys:List V}(w1:∀ a,G1 a->G a)(w2:∀ a,G2 a->G a)(d:∀ a,G1 a->¬ G2 a)(r1:RepL K Z H m ts xs G1)(r2:RepL K Z H n us ys G2) :
  ∃ G',(∀ a,G' a->G a)/\RepL K (bO Z G G') H (m.meet n) (ts++us) (xs++ys) G':=by
 obtain ⟨A,a1,a2⟩:=RepL.weak (b9 m n).1 r1
 obtain ⟨B,b1,b2⟩:=RepL.weak (b9 m n).2 r2
 refine ⟨fun b=>A b\/B b,fun b hb=>hb.elim (fun z=>w1 b (a1 b z)) fun z=>w2 b (b1 b z),RepL.append (fun _ z=>.inl z) (fun _ z=>.inr z) (fun b za zb=>d b (a1 b za) (b1 b zb)) (a2.zmono fun b hb=>?_) (b2.zmono fun b hb=>?_)⟩
 ·exact hb.imp id fun z=>⟨w1 b z.1,fun q=>q.elim z.2 fun w=>d b z.1 (b1 b w)⟩
 ·exact hb.imp id fun z=>⟨w2 b z.1,fun q=>q.elim (fun w=>d b (a1 b w) z.1) z.2⟩
theorem bK {p q:Str}(h1:sOk p=true)(h2:sOk q=true)(hl:p.cps.size+q.cps.size<=LIM):sOk (p++q)=true:=by
 unfold sOk at *
 rw [a0k] at *
 refine ⟨?_,decide_eq_true ?_⟩
 ·show Array.all (p.cps++q.cps) _=true
  rw [Array.all_append,a0k]
  exact ⟨h1.1,h2.1⟩
 ·show (p.cps++q.cps).size<=LIM
  rw [a23]
  exact hl
theorem ur (rT:R2)(hT:∀ {Z:Fp} {H:Hp} {G:Fp} {Q:VK} {a b:Addr} {xs ys:List V} {ts:List T},SqT K H a xs->SqT K H b ys->xs≠[]->xs.length+ys.length<=LIM->Own Z H G->(∃ G',(∀ a,G' a->G a)/\RepL K (bO Z G G') H .s ts (xs++ys) G')->Out K Z H G (.s,.tup ts) Q->rT (.ref a) (.ref b) H Q) :
  Loc K 2 .add h fun xs H Q=>∀ x y,xs=[x,y]->rI0 (fun i j=>.int (i+j)) x y H Q\/(∃ i j,x=.str i/\y=.str j/\i.length+j.length<=sizeLine/\Q (.str (i++j)) H)\/Ag x y H Q\/rT x y H Q:=by
 intro ws w xs Z H G Q hn e r ow za k x y hx
 subst hx
 obtain ⟨⟨m,a⟩,⟨n,b⟩,rfl⟩:=dy r.length.symm
 obtain ⟨G1,G2,w1,w2,d,r1,r2⟩:=b5 r
 cases a<;>first | (cases e; done) | (cases b<;>try (cases e; done))
 ·cases e
  exact .inl ⟨_,_,r1,r2,aF k⟩
 ·rename_i p q
  rw [qQ] at e
  split at e
  ·rename_i hf
   cases e
   refine .inr (.inl ⟨p,q,r1.1,r2.1,a8 (bB hf),gG k ?_⟩)
   exact bK r1.2 r2.2 (bB hf)
  ·cases e
 ·rename_i ts us
  rw [qI] at e
  split at e
  ·rename_i hf
   cases e
   rw [a0k] at hf
   obtain ⟨a,xs,rfl,hs,hl,p⟩:=cV r1
   obtain ⟨b,ys,rfl,hs2,hl2,p2⟩:=cV r2
   have hlen:=bB hf.1
   have e1:=p.length
   have e2:=p2.length
   refine .inr (.inr (.inr (hT hs hs2 ?_ (by omega) ow ?_ k)))
   ·rintro rfl
    cases ts with
    | nil=>simp at hf
    | cons _ _=>simp at e1
   ·refine ⟨no,fun _ z=>z.elim,RepL.append (G1:=no) (G2:=no) (fun _ z=>z) (fun _ z=>z) (fun _ z _=>z) ((RepL.sh p).zmono fun b hb=>?_) ((RepL.sh p2).zmono fun b hb=>?_)⟩
    ·exact hb.imp id fun z=>⟨w1 b z,fun q=>q⟩
    ·exact hb.imp id fun z=>⟨w2 b z,fun q=>q⟩
  ·cases e
 ·rename_i ts us
  rw [oG] at e
  split at e
  ·rename_i hf
   obtain ⟨a,xs,rfl,hs,hl,p⟩:=bG r1
   obtain ⟨b,ys,rfl,hs2,hl2,p2⟩:=bG r2
   have hlen:=bB hf
   have e1:=p.length
   have e2:=p2.length
   have hl3:(xs++ys).length<=LIM:=by rw [a0g]; omega
   refine .inr (.inr (.inl ⟨a,b,xs,ys,rfl,rfl,hs,hs2,a8 (by omega),fun q hq=>?_⟩))
   exact cB ow za hl3 (iw w1 w2 d p p2) e k hq
  ·cases e
theorem uB:Loc K 2 .mul h fun xs H Q=>∀ x y,xs=[x,y]->rI CMul (fun i j=>.int (i * j)) x y H Q\/AY x y H Q:=by
 intro ws w xs Z H G Q hn e r ow za k x y hx
 subst hx
 obtain ⟨⟨m,a⟩,⟨n,b⟩,rfl⟩:=dy r.length.symm
 obtain ⟨G1,G2,w1,w2,d,r1,r2⟩:=b5 r
 cases a<;>first | (cases e; done) | (cases b<;>try (cases e; done))
 ·rename_i i j
  rw [qt] at e
  split at e
  ·rename_i hc
   cases e
   refine .inl ⟨i,j,r1,r2,?_,aF k⟩
   rw [a3m,decide_eq_true_eq,decide_eq_true_eq] at hc
   have h64:(2:Int) ^ 64=18446744073709551616:=by decide
   unfold CMul
   rw [h64]
   omega
  ·cases e
 ·rename_i ts j
  have e':(if decide (j.natAbs < 4611686018427387904)&&fits (ts.length * j.toNat) then newL h .s (a0l j.toNat ts).flatten else none)=some w:=e
  split at e'
  ·rename_i hc
   rw [a0k,decide_eq_true_eq] at hc
   obtain ⟨a,xs,rfl,hs,hl,p⟩:=bG r1
   have hlen:=bB hc.2
   have e1:=p.length
   have hl3:((a0l j.toNat xs).flatten).length<=LIM:=by
    rw [List.length_flatten,a2W,List.sum_replicate_nat,e1,a3H]; exact hlen
   refine .inr ⟨a,j,xs,rfl,r2,hs,by omega,by omega,a8 (by rw [e1]; exact hlen),fun q hq=>?_⟩
   refine cB ow za hl3 ⟨no,fun _ z=>z.elim,?_⟩ e' k hq
   have ps:=(RepL.sh p).zmono (Z':=bO Z G no) fun b hb=>hb.imp id fun z=>⟨w1 b z,fun q=>q⟩
   generalize j.toNat=c
   induction c with
   | zero=>exact rfl
   | succ c ih=>exact RepL.append (fun _ z=>z) (fun _ z=>z) (fun _ z _=>z) ps ih
  ·cases e'
theorem pR {Z:Fp}{H:Hp}{G:Fp}{m:Md}{ts:List T}{xs:List V}{i:Int}{t:T}(p:RepL K Z H m ts xs G)(e:M.atI ts i=some t):∃ x,L2.atI xs i=some x/\Rep K Z H m t x G:=by
 unfold M.atI at e
 have hn:M.ixN ts.length i=L2.ixN xs.length i:=by rw [p.length]; rfl
 cases e1:M.ixN ts.length i with
 | none=>rw [e1] at e; cases e
 | some j =>
  rw [e1] at e
  obtain ⟨x,hx,r⟩:=p.get (show ts[j]?=some t from e)
  refine ⟨x,?_,r⟩
  unfold L2.atI
  rw [<- hn,e1]
  exact hx
theorem sG {x:Str}{c:Nat}(h:sOk x=true)(hc:c∈x.cps.toList):sOk ⟨#[c]⟩=true:=by
 unfold sOk at *
 rw [a0k] at *
 refine ⟨?_,rfl⟩
 have h1:=h.1
 rw [a11] at h1
 have h2:=h1 c (Array.mem_def.mpr hc)
 rw [a11]
 intro y hy
 have:y=c:=by simpa using hy
 rw [this]; exact h2
theorem gC {x:Str}(h:sOk x=true):x.cps.size<=LIM:=by
 unfold sOk at h
 rw [a0k,decide_eq_true_eq] at h
 exact h.2
theorem xf:Loc K 2 .ix h fun xs H Q=>∀ x y,xs=[x,y]->(∃ p xs i v,x=.ref p/\y=.int i/\(SqL K H p xs\/SqT K H p xs)/\L2.atI xs i=some v/\Q v H)\/(∃ z i c,x=.str z/\y=.int i/\z.length<=sizeLine/\L2.atI z.cps.toList i=some c/\Q (.str ⟨#[c]⟩) H):=by
 intro ws w xs Z H G Q hn e r ow za k x y hx
 subst hx
 obtain ⟨⟨m,a⟩,⟨n,b⟩,rfl⟩:=dy r.length.symm
 obtain ⟨G1,G2,w1,w2,d,r1,r2⟩:=b5 r
 cases b with
 | int i =>
  cases a with
  | lst ts =>
   obtain ⟨a,xs,rfl,hs,hl,p⟩:=bG r1
   have e':(M.atI ts i).map (fun t=>(m.kid,t))=some w:=e
   cases e1:M.atI ts i with
   | none=>rw [e1] at e'; cases e'
   | some t =>
    rw [e1] at e'; cases e'
    obtain ⟨v,hv,rv⟩:=pR p e1
    exact .inl ⟨a,xs,i,v,rfl,r2,.inl (.inl (.inl hs)),hv,fg ow k (rv.mono w1)⟩
  | tup ts =>
   obtain ⟨a,xs,rfl,hs,hl,p⟩:=cV r1
   have e':(M.atI ts i).map (fun t=>(m.kid,t))=some w:=e
   cases e1:M.atI ts i with
   | none=>rw [e1] at e'; cases e'
   | some t =>
    rw [e1] at e'; cases e'
    obtain ⟨v,hv,rv⟩:=pR p e1
    exact .inl ⟨a,xs,i,v,rfl,r2,.inr hs,hv,fg ow k (rv.mono w1)⟩
  | str z =>
   have e':(M.atI z.cps.toList i).map (fun c=>((.d,.str ⟨#[c]⟩):W))=some w:=e
   cases e1:M.atI z.cps.toList i with
   | none=>rw [e1] at e'; cases e'
   | some c =>
    rw [e1] at e'; cases e'
    refine .inr ⟨z,i,c,r1.1,r2,a8 (gC r1.2),e1,gG k (sG r1.2 ?_)⟩
    unfold M.atI at e1
    cases e2:M.ixN z.cps.toList.length i with
    | none=>rw [e2] at e1; cases e1
    | some j=>rw [e2] at e1; exact a05 e1
  | scr ns =>
   obtain ⟨a,rfl,hL,hs⟩:=r1
   have e':(M.atI ns i).map (fun n=>((.d,.int n):W))=some w:=e
   cases e1:M.atI ns i with
   | none=>rw [e1] at e'; cases e'
   | some n =>
    rw [e1] at e'; cases e'
    refine .inl ⟨a,_,i,.int n,rfl,r2,.inl hs.sq,?_,aF k⟩
    unfold M.atI at e1
    unfold L2.atI
    rw [a0e]
    cases e2:M.ixN ns.length i with
    | none=>rw [e2] at e1; cases e1
    | some j =>
     rw [e2] at e1
     rw [show L2.ixN ns.length i=some j from e2]
     show (ns.map V.int)[j]?=_
     rw [a0t,show ns[j]?=some n from e1]
     rfl
  | _=>cases e
 | _=>cases a<;>cases e
theorem vd:Loc K 1 .len h fun xs H Q=>∃ x n,xs=[x]/\(match x with
  | .str y=>y.length<=sizeLine/\n=y.length
  | .byt y=>y.size<=sizeLine/\n=y.size
  | .ref p=>(∃ xs,SqL K H p xs/\n=xs.length)\/∃ xs,SqT K H p xs/\n=xs.length
  | _=>False)/\Q (.int (n:Nat)) H:=by
 intro ws w xs Z H G Q hn e r ow za k
 match ws,hn with
 | [(m,a)],_ =>
  obtain ⟨x,rfl,r1⟩:=cg rfl r
  cases a with
  | lst ts =>
   obtain ⟨a,xs,hx,hs,hl,p⟩:=bG r1
   cases e
   refine ⟨x,ts.length,rfl,?_,aF k⟩
   rw [show x=.ref a from hx]
   exact .inl ⟨xs,.inl (.inl hs),p.length.symm⟩
  | tup ts =>
   obtain ⟨a,xs,hx,hs,hl,p⟩:=cV r1
   cases e
   refine ⟨x,ts.length,rfl,?_,aF k⟩
   rw [show x=.ref a from hx]
   exact .inr ⟨xs,hs,p.length.symm⟩
  | str z =>
   cases e
   refine ⟨x,z.length,rfl,?_,aF k⟩
   rw [show x=.str z from r1.1]
   exact ⟨a8 (gC r1.2),rfl⟩
  | scr ns =>
   obtain ⟨a,hx,hL,hs⟩:=r1
   cases e
   refine ⟨x,ns.length,rfl,?_,aF k⟩
   rw [show x=.ref a from hx]
   exact .inl ⟨_,hs.sq,by rw [a0e]⟩
  | _=>cases e
theorem ee {Z:Fp}{H:Hp}{G:Fp}{m:Md}:∀ ns:List Int,RepL K Z H m (ns.map T.int) (ns.map V.int) G
 | []=>rfl
 | n::ns=>⟨.int n,ns.map V.int,no,no,rfl,fun _ z=>z.elim,fun _ z=>z.elim,fun _ z=>z.elim,rfl,ee ns⟩
theorem qN:Loc K 1 .list h fun xs H Q=>∃ p ys,xs=[.ref p]/\(SqL K H p ys\/SqT K H p ys)/\∀ l,H l=none->Q (.ref l) (upd H l (.lst ys)):=by
 intro ws w xs Z H G Q hn e r ow za k
 match ws,hn with
 | [(m,a)],_ =>
  obtain ⟨x,rfl,r1⟩:=cg rfl r
  cases a with
  | lst ts =>
   obtain ⟨a,xs,hx,hs,hl,p⟩:=bG r1
   refine ⟨a,xs,by rw [hx],.inl (.inl (.inl hs)),fun q hq=>cB ow za hl ⟨G,fun _ z=>z,p.zmono fun _ z=>.inl z⟩ e k hq⟩
  | tup ts =>
   obtain ⟨a,xs,hx,hs,hl,p⟩:=cV r1
   refine ⟨a,xs,by rw [hx],.inr hs,fun q hq=>cB ow za hl ⟨G,fun _ z=>z,p.zmono fun _ z=>.inl z⟩ e k hq⟩
  | scr ns =>
   obtain ⟨a,hx,hL,hs⟩:=r1
   cases e
   refine ⟨a,_,by rw [hx],.inl hs.sq,fun q hq=>bo (G':=no) ow za (fun _ z=>z.elim) (by rw [a0e]; exact hL) (ee ns) (by simp) k hq⟩
  | _=>cases e
theorem ik {Z:Fp}{H:Hp}{G:Fp}{m:Md}:∀ {ts:List T} {ns:List Int} {xs:List V},intsOf ts=some ns->RepL K Z H m ts xs G->xs=ns.map V.int:=by
 intro ts
 induction ts generalizing G with
 | nil=>intro ns xs e r; cases e; exact r
 | cons t ts ih =>
  intro ns xs e r
  obtain ⟨x,r',G1,G2,rfl,_,_,_,p,q⟩:=r
  cases t with
  | int i =>
   cases e1:intsOf ts with
   | none=>simp [intsOf,e1] at e
   | some ms =>
    have:ns=i::ms:=by simpa [intsOf,e1] using e.symm
    subst this
    rw [a0x,<- ih e1 q,show x=.int i from p]
  | _=>cases e
theorem uO:Loc K 1 .sum h fun xs H Q=>∃ (a:Addr) (ns:List Int),xs=[.ref a]/\SqL K H a (ns.map V.int)/\Q (.int ns.sum) H:=by
 intro ws w xs Z H G Q hn e r ow za k
 match ws,hn with
 | [(m,a)],_ =>
  obtain ⟨x,rfl,r1⟩:=cg rfl r
  cases a with
  | lst ts =>
   obtain ⟨a,xs,hx,hs,hl,p⟩:=bG r1
   have e':(intsOf ts).map (fun ns=>((.d,.int ns.sum):W))=some w:=e
   cases e1:intsOf ts with
   | none=>rw [e1] at e'; cases e'
   | some ns =>
    rw [e1] at e'; cases e'
    rw [ik e1 p] at hs
    exact ⟨a,ns,by rw [hx],.inl (.inl hs),aF k⟩
  | _=>cases e
theorem q8:Loc K 2 .min h fun xs H Q=>∃ i j,xs=[.int i,.int j]/\Q (.int (if j < i then j else i)) H:=by
 intro ws w xs Z H G Q hn e r ow za k
 match ws,hn with
 | [(m,a),(n,b)],_ =>
  obtain ⟨x,y,hx⟩:∃ x y,xs=[x,y]:=dy (x:=()) (y:=()) (show xs.length=[(),()].length from r.length)
  subst hx
  obtain ⟨G1,G2,_,_,_,r1,r2⟩:=b5 r
  cases a<;>first | (cases e; done) | (cases b<;>first | (cases e; exact ⟨_,_,by rw [show x=_ from r1,show y=_ from r2],aF k⟩) | cases e)
end
end MR
namespace MR
open L2 L3 M
open PySem (Addr Str sizeLine)
section
variable {K:a0a}{sl:Cf}{sf:Nat->Option Nat}{C:Call}{σ:L2.St}{Z Z' Z1:Fp}{H H' H1:Hp}{Fs Fs' Fs1:Fps}{η η' η1:Env}{G G' R F:Fp}
mutual
theorem Rep.sany:∀ {t:T} {v:V} {G G':Fp},Rep K Z H .s t v G->Rep K Z H .s t v G'
 | .non,_,_,_,h=>h
 | .bl _,_,_,_,h=>h
 | .int _,_,_,_,h=>h
 | .str _,_,_,_,h=>h
 | .scr _,_,_,_,h=>h
 | .tup ts,_,_,_,⟨a,xs,e,q,l,r⟩=>⟨a,xs,e,q,l,RepL.sany r⟩
 | .lst ts,_,_,_,⟨a,xs,e,l,q,r⟩=>⟨a,xs,e,l,q,RepL.sany r⟩
 | .dct _ _,_,_,_,⟨a,xs,e,l,q,n,hl,r⟩=>⟨a,xs,e,l,q,n,hl,r⟩
 | .ins _ _ _,_,_,_,h=>h.elim
 | .gone,_,_,_,h=>h
theorem RepL.sany:∀ {ts:List T} {xs:List V} {G G':Fp},RepL K Z H .s ts xs G->RepL K Z H .s ts xs G'
 | [],_,_,_,h=>h
 | t::ts,xs,_,_,⟨x,r,G1,G2,e,h1,h2,hd,p,q⟩=>⟨x,r,no,no,e,fun _ z=>z.elim,fun _ z=>z.elim,fun _ z=>z.elim,Rep.sany p,RepL.sany q⟩
end
theorem aH:∀ (η:Env) (i j:Nat) (o:Option W),rd (wr η i o) j=if j=i/\i < η.length then o else rd η j
 | [],i,j,o=>by simp [wr,rd]
 | p::η,0,0,o=>by simp [wr,rd]
 | p::η,0,j+1,o=>by simp [wr,rd]
 | p::η,i+1,0,o=>by simp [wr,rd]
 | p::η,i+1,j+1,o=>by
  show rd (wr η i o) j=_
  rw [aH η i j o]
  simp [rd]
theorem bH:∀ {η:Env} {i:Nat} {w:W},rd η i=some w->i < η.length
 | [],_,_,h=>by cases h
 | _::_,0,_,_=>by simp
 | _::η,i+1,_,h=>by have:=bH (η:=η) (i:=i) h; simp; exact this
theorem dq (h:∀ a,F a->G a):Step Z H G Z H F:=(Step.refl Z H G).mono (fun _ z=>z) h
theorem yC {i j:Nat}(hs:sf i=some j)(σ:L2.St)(H:Hp)(Q:VK)(h:wE K sf C (.var i) σ H Q):eJ j σ H Q:=by
 obtain ⟨pv,Z,Fs,η,w,η',A,ev,k⟩:=h
 obtain ⟨w',e1,e2⟩:=aq (show ret η ((rd η i).bind look)=_ from ev)
 cases e2
 cases e3:rd η i with
 | none=>rw [e3] at e1; cases e1
 | some u =>
  rw [e3] at e1
  obtain ⟨m,t⟩:=u
  obtain ⟨v,r,hv⟩:=A.env i m t e3
  refine ⟨v,hv.1 j hs,k v Z H Fs no A ?_ (dq fun a ha=>ha.elim id fun z=>z.elim)⟩
  cases m with
  | s=>cases e1; exact r.sany
  | d =>
   have e1':(if t.leaf=true then some (Md.d,t) else none)=some w:=e1
   split at e1'
   ·rename_i hl; cases e1'; exact r.leaf (fun _ _ _ q=>q) hl
   ·cases e1'
  | o m =>
   have e1':(if t.leaf=true then some (Md.d,t) else none)=some w:=e1
   split at e1'
   ·rename_i hl; cases e1'; exact r.leaf (fun _ _ _ q=>q) hl
   ·cases e1'
noncomputable def gB (Fs:Fps)(i:Nat):Fps:=fun j a=>j≠i/\Fs j a
theorem xk {e:E}{i j:Nat}(he:∀ η,evE C e η=ret (del η i) (rd η i))(hs:sf i=some j)(σ:L2.St)(H:Hp)(Q:VK)(h:wE K sf C e σ H Q):eJ j σ H Q:=by
 obtain ⟨pv,Z,Fs,η,w,η',A,ev,k⟩:=h
 rw [he] at ev
 obtain ⟨w',e1,e2⟩:=aq ev
 cases e2
 obtain ⟨m,t⟩:=w
 obtain ⟨v,r,hv⟩:=A.env i m t e1
 refine ⟨v,hv.1 j hs,k v Z H (gB Fs i) (Fs i) ⟨⟨fun a ⟨l,h1,h2⟩=>A.gd.own a ⟨l,h2⟩,fun l l' a h1 h2=>A.gd.dis l l' a h1.2 h2.2,A.gd.zal⟩,fun l m' t' e=>?_,fun a ha=>A.gd.own a ⟨i,ha⟩,fun a ha ⟨l,h1,h2⟩=>h1 (A.gd.dis l i a h2 ha),A.lk,A.ln⟩ r (dq fun a ha=>ha.elim (fun ⟨l,h1,h2⟩=>⟨l,h2⟩) fun z=>⟨i,z⟩)⟩
 rw [aH] at e
 split at e
 ·cases e
 ·rename_i hne
  obtain ⟨v',r',hv'⟩:=A.env l m' t' e
  have hli:l≠i:=fun z=>hne ⟨z,bH e1⟩
  exact ⟨v',r'.mono fun a ha=>⟨hli,ha⟩,hv'⟩
theorem nu {t:T}{v:V}(hv:∀ {Z:Fp} {H:Hp},Rep K Z H .d t v no)(σ:L2.St)(H:Hp)(Q:VK)(h:wE K sf C (.cst t) σ H Q):tC v σ H Q:=by
 obtain ⟨pv,Z,Fs,η,w,η',A,ev,k⟩:=h
 cases ev
 exact k v Z H Fs no A hv (dq fun a ha=>ha.elim id fun z=>z.elim)
theorem zw {es:List E}(hn:es.length<=LIM)(σ:L2.St)(H:Hp)(Q:VK)(h:wE K sf C (.tup es) σ H Q):Ae (wL K sf C es) σ H Q:=by
 obtain ⟨pv,Z,Fs,η,w,η',A,ev,k⟩:=h
 obtain ⟨⟨ws,η1⟩,h1,h2⟩:=aa (show (evL C es η).bind kd=_ from ev)
 cases h2
 refine ⟨pv,Z,Fs,η,ws,_,A,h1,fun vs Z' H' Fs' G B r s=>?_⟩
 have hl:vs.length<=LIM:=by rw [r.length,d5 h1]; exact hn
 obtain ⟨G',g1,g2⟩:=RepW.to (fun u hu=>fx hu) r
 refine ⟨a8 hl,fun p hp=>rE (m:=(fo ws).up) B.own g1 hl (by rw [eG]; exact g2) (bN B s k) hp⟩
theorem y6 {b:Bool}{es:List E}(hn:es.length<=LIM)(σ:L2.St)(H:Hp)(Q:VK)(h:wE K sf C (.lst b es) σ H Q):zR (wL K sf C es) σ H Q:=by
 obtain ⟨pv,Z,Fs,η,w,η',A,ev,k⟩:=h
 obtain ⟨⟨ws,η1⟩,h1,h2⟩:=aa (show (evL C es η).bind (qD b)=_ from ev)
 cases h2
 refine ⟨pv,Z,Fs,η,ws,_,A,h1,fun vs Z' H' Fs' G B r s=>?_⟩
 have hl:vs.length<=LIM:=by rw [r.length,d5 h1]; exact hn
 refine ⟨a8 hl,fun p hp=>?_⟩
 cases b with
 | true =>
  obtain ⟨G',g1,g2⟩:=RepW.to (fun u hu=>fx hu) r
  exact bo (m:=(fo ws).up) B.own B.gd.zal g1 hl (by rw [eG]; exact g2) (cI _) (bN B s k) hp
 | false =>
  obtain ⟨G',g1,g2⟩:=RepW.to (N:=.s) (fun u hu=>by cases lf u.1 u.2<;>rfl) r
  exact bo (m:=.o .s) B.own B.gd.zal g1 hl g2 (by simp) (bN B s k) hp
noncomputable def wT (K:a0a)(sl:Nat->Option Nat)(C:Call)(e:E):TT:=fun σ H Q=>∃ pv Z Fs η w η' b,At K ⟨sl,pv⟩ σ Z H Fs η no/\evE C e η=.ok (w,η')/\a6 w.2=some b /\
 ∀ Z' H' Fs',At K ⟨sl,pv⟩ σ Z' H' Fs' η' no->Step Z H (tot Fs) Z' H' (tot Fs')->Q b H'
noncomputable def TrV (K:a0a)(x:V)(H:Hp)(k:Bool):Prop :=
 match x with
 | .non=>k=false
 | .bl b=>k=b
 | .int i=>k=(i != 0)
 | .str y=>y.length<=sizeLine/\k=((y.length:Int) != 0)
 | .ref p=>(∃ xs,SqL K H p xs/\k=!xs.isEmpty)\/(∃ xs,SqT K H p xs/\k=!xs.isEmpty)
 | _=>False
theorem cp {α β:Type}{xs:List α}{ys:List β}(h:xs.length=ys.length):xs.isEmpty=ys.isEmpty:=by
 cases xs<;>cases ys<;>first | rfl | simp at h
theorem mH {m:Md}{t:T}{v:V}{b:Bool}(e:a6 t=some b)(r:Rep K Z H m t v G):TrV K v H b:=by
 cases t with
 | non=>cases e; rw [show v=_ from r]; rfl
 | bl c=>cases e; rw [show v=_ from r]; rfl
 | int i=>cases e; rw [show v=_ from r]; rfl
 | str x =>
  cases e; rw [show v=_ from r.1]
  refine ⟨a8 (gC r.2),?_⟩
  show (x.cps.size != 0)=(((x.cps.size:Nat):Int) != 0)
  cases x.cps.size with
  | zero=>rfl
  | succ n=>simp; omega
 | tup ts =>
  obtain ⟨a,xs,rfl,hs,hl,p⟩:=cV r
  cases e
  exact .inr ⟨xs,hs,by rw [cp p.length]⟩
 | lst ts =>
  obtain ⟨a,xs,rfl,hs,hl,p⟩:=bG r
  cases e
  exact .inl ⟨xs,.inl (.inl hs),by rw [cp p.length]⟩
 | scr ns =>
  obtain ⟨a,rfl,hL,hs⟩:=r
  cases e
  exact .inl ⟨_,hs.sq,by rw [cp (a0e ..)]⟩
 | dct _ _=>cases e
 | ins _ _ _=>cases e
 | gone=>cases e
theorem jI {e:E}{w:W}{b:Bool}{Q:Bool->Hp->Prop}(A:At K sl σ Z H Fs η no)(ev:evE C e η=.ok (w,η'))(ht:a6 w.2=some b)(k:∀ Z' H' Fs',At K sl σ Z' H' Fs' η' no->Step Z H (tot Fs) Z' H' (tot Fs')->Q b H'):wT K sl.sl C e σ H Q:=⟨sl.pv,Z,Fs,η,w,η',b,A,ev,ht,k⟩
theorem a0 {α:Type}{f g:Env->Res α}{p:W×Env}{r:α}(h:onT f g p=.ok r):∃ b,a6 p.1.2=some b/\(if b=true then f p.2 else g p.2)=.ok r:=by
 unfold onT at h
 split at h
 ·rename_i e; exact ⟨true,e,h⟩
 ·rename_i e; exact ⟨false,e,h⟩
 ·cases h
theorem xX {e:E}(σ:L2.St)(H:Hp)(Q:Bool->Hp->Prop)(h:wT K sf C (.not e) σ H Q):zU (wT K sf C e) σ H Q:=by
 obtain ⟨pv,Z,Fs,η,w,η',b,A,ev,ht,k⟩:=h
 obtain ⟨⟨u,η1⟩,h1,h2⟩:=aa (show (evE C e η).bind nr=_ from ev)
 obtain ⟨w',e1,e2⟩:=aq (show ret η1 ((a6 u.2).map fun b=>((.d,.bl (!b)):W))=_ from h2)
 cases e2
 cases e3:a6 u.2 with
 | none=>rw [e3] at e1; cases e1
 | some c =>
  rw [e3] at e1; cases e1
  have:b=!c:=by cases ht; rfl
  subst this
  exact jI A h1 e3 k
theorem wC {a b:E}(σ:L2.St)(H:Hp)(Q:Bool->Hp->Prop)(h:wT K sf C (.and a b) σ H Q):Cs (wT K sf C a) (wT K sf C b) σ H Q:=by
 obtain ⟨pv,Z,Fs,η,w,η',c,A,ev,ht,k⟩:=h
 obtain ⟨⟨u,η1⟩,h1,h2⟩:=aa (show (evE C a η).bind (oE (evE C b))=_ from ev)
 obtain ⟨d,h3,h4⟩:=a0 (show onT (evE C b) (okW u) (u,η1)=_ from h2)
 refine jI A h1 h3 fun Z1 H1 Fs1 A1 s1=>?_
 cases d with
 | true=>rw [if_pos rfl] at h4 ⊢; exact jI A1 h4 ht fun Z2 H2 Fs2 A2 s2=>k Z2 H2 Fs2 A2 (s1.trans s2)
 | false =>
  rw [if_neg a0n] at h4 ⊢
  cases h4
  cases (h3.symm.trans ht)
  exact k Z1 H1 Fs1 A1 s1
theorem Bo {a b:E}(σ:L2.St)(H:Hp)(Q:Bool->Hp->Prop)(h:wT K sf C (.or a b) σ H Q):tOr (wT K sf C a) (wT K sf C b) σ H Q:=by
 obtain ⟨pv,Z,Fs,η,w,η',c,A,ev,ht,k⟩:=h
 obtain ⟨⟨u,η1⟩,h1,h2⟩:=aa (show (evE C a η).bind (kOr (evE C b))=_ from ev)
 obtain ⟨d,h3,h4⟩:=a0 (show onT (okW u) (evE C b) (u,η1)=_ from h2)
 refine jI A h1 h3 fun Z1 H1 Fs1 A1 s1=>?_
 cases d with
 | false=>rw [if_neg a0n] at h4 ⊢; exact jI A1 h4 ht fun Z2 H2 Fs2 A2 s2=>k Z2 H2 Fs2 A2 (s1.trans s2)
 | true =>
  rw [if_pos rfl] at h4 ⊢
  cases h4
  cases (h3.symm.trans ht)
  exact k Z1 H1 Fs1 A1 s1
end
end MR
namespace MR
open L2 L3 M
open PySem (Addr Str sizeLine)
section
variable {K:a0a}{sl:Cf}{sf:Nat->Option Nat}{C:Call}{σ:L2.St}{Z Z' Z1:Fp}{H H' H1:Hp}{Fs Fs' Fs1:Fps}{η η' η1:Env}{G G' R F:Fp}
structure Wk (K:a0a)(J:It)(Z:Fp)(H0:Hp)(ts:List (List W)):Prop where
 go:∀ H i,Stay Z H0 H->i < ts.length->J.go i H
 stop:∀ H i,Stay Z H0 H->ts.length<=i->J.stop i H
 len:ts.length<=LIM
noncomputable def nh (K:a0a)(J:It)(Z:Fp)(H0:Hp)(ts:List (List W)):Prop :=
 ∀ H i x H',Stay Z H0 H->i < ts.length->J.yld i H x H'->H'=H/\∃ w,ts[i]?=some [w]/\Rep K Z H w.1 w.2 x no
noncomputable def Dh (K:a0a)(J:It)(Z:Fp)(H0:Hp)(ts:List (List W)):Prop :=
 ∀ H i x H',Stay Z H0 H->i < ts.length->J.yld i H x H'->∃ p y z u w,x=.ref p/\(∀ b o,H b=some o->H' b=some o)/\SqT K H' p [y,z]/\ts[i]?=some [u,w]/\Rep K Z H u.1 u.2 y no/\Rep K Z H w.1 w.2 z no
theorem jc (same:∀ b o,H b=some o->H' b=some o):Stay Z H H':=by
 refine ⟨fun a o _ e=>same a o e,fun a ys e=>?_,fun a o u e=>same a _ e⟩
 rcases e with e | ⟨u,e⟩
 ·exact .inl (same a _ e)
 ·exact .inr ⟨u,same a _ e⟩
theorem eh (same:∀ a o,H a=some o->H' a=some o):Step Z H G Z H' G:=by
 have al:∀ a,H a≠none->H' a≠none:=fun a h=>by
  cases e:H a with
  | none=>exact absurd e h
  | some o=>rw [same a o e]; simp
 exact ⟨fun a o h _=>same a o h,fun _ h=>h,fun _ h=>.inl h,fun _ h=>.inl h,al,fun z a h=>al a (z a h)⟩
theorem yX {p:Addr}{o:HO}(hp:H p=none):∀ b u,H b=some u->upd H p o b=some u:=fun a u e=>by
 have:a≠p:=fun q=>by subst q; rw [hp] at e; cases e
 rw [ab this]; exact e
noncomputable def Yld (K:a0a)(J:It)(Z:Fp)(H0:Hp)(ts:List (List W)):Nat->Prop
 | 1=>nh K J Z H0 ts
 | 2=>Dh K J Z H0 ts
 | _=>False
noncomputable def wI (K:a0a)(sl:Nat->Option Nat)(C:Call)(n:Nat)(k:Ik)(src:List E):TI:=fun σ H R=>∃ pv Z Fs η ws η' ts,At K ⟨sl,pv⟩ σ Z H Fs η no/\evL C src η=.ok (ws,η')/\a7 k ws=some ts /\
 ∀ J Z' H' Fs',At K ⟨sl,pv⟩ σ Z' H' Fs' η' no->Step Z H (tot Fs) Z' H' (tot Fs')->Wk K J Z' H' ts->Yld K J Z' H' ts n->R J H'
theorem At.freeze (A:At K sl σ Z H Fs η G):At K sl σ (fun a=>Z a\/G a) H Fs η no:=by
 refine ⟨⟨fun a ha=>⟨fun z=>z.elim (A.gd.own a ha).1 fun q=>A.dis a q ha,(A.gd.own a ha).2⟩,A.gd.dis,fun a h=>h.elim (A.gd.zal a) fun q=>?_⟩,fun i m t e=>?_,bC,fun _ z=>z.elim,A.lk,A.ln⟩
 ·obtain ⟨_,xs,e⟩:=A.own a q
  rw [e]; simp
 ·obtain ⟨v,r,h⟩:=A.env i m t e
  exact ⟨v,r.zmono fun a h=>.inl h,h⟩
theorem aP (o:Own Z' H' G)(s:Step Z H F Z' H' (fun a=>F' a\/G a)):Step Z H F (fun a=>Z' a\/G a) H' F' where
 keep:=s.keep
 zm:=fun a h=>.inl (s.zm a h)
 zn:=fun a h=>h.elim (s.zn a) fun q=>.inr (s.fn a (.inr q))
 fn:=fun a h=>s.fn a (.inl h)
 al:=s.al
 za:=fun z a h=>h.elim (s.za z a) fun q=>by
  obtain ⟨_,xs,e⟩:=o a q
  rw [e]; simp
theorem bA {a:Addr}{xs:List V}{H0:Hp}(s:Stay Z H0 H)(hz:Z a)(h:H0 a=some (.lst xs)):SqL K H a xs:=.inl (.inl (s.1 a _ hz h))
theorem vc {a:Addr}{xs:List V}{ts:List T}(hL:xs.length<=LIM)(hz:Z a)(h:H a=some (.lst xs))(r:RepL K Z H .s ts xs no):Wk K (Itl K a) Z H (ts.map fun t=>[(.s,t)])/\nh K (Itl K a) Z H (ts.map fun t=>[(.s,t)]):=by
 have hl:=r.length
 refine ⟨⟨fun H' i s hi=>?_,fun H' i s hi=>?_,by rw [a0e]; omega⟩,fun H' i x H'' s hi y=>?_⟩
 ·rw [a0e] at hi
  exact ⟨xs,xs[i]'(by omega),bA s hz h,by simp⟩
 ·rw [a0e] at hi
  exact ⟨xs,bA s hz h,by omega⟩
 ·rw [a0e] at hi
  obtain ⟨rfl,y⟩:=y
  have hx:=y xs (bA s hz h)
  obtain ⟨x',hx',rx⟩:=r.get (show ts[i]?=some ts[i] by simp)
  rw [hx] at hx'; cases hx'
  refine ⟨rfl,(.s,ts[i]),by rw [a0t,show ts[i]?=some ts[i] by simp]; rfl,rx.keep s (fun _ z=>z) fun _ _ z=>z.elim⟩
theorem vP {a:Addr}{xs:List V}{ts:List T}(hL:xs.length<=LIM)(h:SqT K H a xs)(r:RepL K Z H .s ts xs no):Wk K (Itt K a) Z H (ts.map fun t=>[(.s,t)])/\nh K (Itt K a) Z H (ts.map fun t=>[(.s,t)]):=by
 have hl:=r.length
 refine ⟨⟨fun H' i s hi=>?_,fun H' i s hi=>?_,by rw [a0e]; omega⟩,fun H' i x H'' s hi y=>?_⟩
 ·rw [a0e] at hi
  exact ⟨xs,xs[i]'(by omega),s.sqt h,by simp⟩
 ·rw [a0e] at hi
  exact ⟨xs,s.sqt h,by omega⟩
 ·rw [a0e] at hi
  obtain ⟨rfl,y⟩:=y
  have hx:=y xs (s.sqt h)
  obtain ⟨x',hx',rx⟩:=r.get (show ts[i]?=some ts[i] by simp)
  rw [hx] at hx'; cases hx'
  refine ⟨rfl,(.s,ts[i]),by rw [a0t,show ts[i]?=some ts[i] by simp]; rfl,rx.keep s (fun _ z=>z) fun _ _ z=>z.elim⟩
theorem wt {lo:Int}{n:Nat}(hL:n<=LIM):Wk K (Itr lo n) Z H ((a0p n).map fun (k:Nat)=>[(.d,.int (lo+k))])/\nh K (Itr lo n) Z H ((a0p n).map fun (k:Nat)=>[(.d,.int (lo+k))]):=by
 refine ⟨⟨fun H' i s hi=>by show i < n; simpa using hi,fun H' i s hi=>by show n<=i; simpa using hi,by simpa using hL⟩,fun H' i x H'' s hi y=>?_⟩
 obtain ⟨rfl,rfl⟩:=y
 refine ⟨rfl,(.d,.int (lo+i)),?_,rfl⟩
 rw [a0e,a0K] at hi
 rw [a0t,a1a hi]
 rfl
theorem j8 {a:Addr}{ns:List Int}{H0:Hp}(s:Stay Z H0 H)(h:ScrR K H0 a ns):SqL K H a (ns.map V.int):=(h.keep s.2.2).sq
theorem yE {a:Addr}{ns:List Int}(hL:ns.length<=LIM)(h:ScrR K H a ns):Wk K (Itl K a) Z H (ns.map fun n=>[(.d,.int n)])/\nh K (Itl K a) Z H (ns.map fun n=>[(.d,.int n)]):=by
 refine ⟨⟨fun H' i s hi=>?_,fun H' i s hi=>?_,by rw [a0e]; exact hL⟩,fun H' i x H'' s hi y=>?_⟩
 ·rw [a0e] at hi
  exact ⟨_,(ns.map V.int)[i]'(by rw [a0e]; exact hi),j8 s h,by simp⟩
 ·rw [a0e] at hi
  exact ⟨_,j8 s h,by rw [a0e]; exact hi⟩
 ·rw [a0e] at hi
  obtain ⟨rfl,y⟩:=y
  have hx:=y _ (j8 s h)
  refine ⟨rfl,(.d,.int ns[i]),by rw [a0t,show ns[i]?=some ns[i] by simp]; rfl,?_⟩
  rw [a0t,show ns[i]?=some ns[i] by simp] at hx
  exact (a0v hx).symm
theorem yN {e:E}(σ:L2.St)(H:Hp)(R:It->Hp->Prop)(h:wI K sf C 1 .seq [e] σ H R):fZ K (wE K sf C e) σ H R\/A9 K (wE K sf C e) σ H R:=by
 obtain ⟨pv,Z,Fs,η,ws,η',ts,A,ev,ht,k⟩:=h
 obtain ⟨⟨m,a⟩,η1,us,e1,e2,rfl⟩:=av ev
 cases e2
 cases a with
 | lst ts' =>
  cases ht
  refine .inl ⟨pv,Z,Fs,η,_,_,A,e1,fun v Z' H' Fs' G B r s=>?_⟩
  obtain ⟨a,xs,rfl,l,q,p⟩:=Rep.sh r
  obtain ⟨w1,w2⟩:=vc l q.1 q.2 p.sany
  exact ⟨a,rfl,⟨xs,.inl (.inl q.2)⟩,k _ _ H' Fs' B.freeze (aP B.own s) w1 w2⟩
 | tup ts' =>
  cases ht
  refine .inr ⟨pv,Z,Fs,η,_,_,A,e1,fun v Z' H' Fs' G B r s=>?_⟩
  obtain ⟨a,xs,rfl,q,l,p⟩:=Rep.sh r
  obtain ⟨w1,w2⟩:=vP l q p.sany
  exact ⟨a,rfl,⟨xs,q⟩,k _ _ H' Fs' B.freeze (aP B.own s) w1 w2⟩
 | scr ns =>
  cases ht
  refine .inl ⟨pv,Z,Fs,η,_,_,A,e1,fun v Z' H' Fs' G B r s=>?_⟩
  obtain ⟨a,rfl,hl,q⟩:=r
  obtain ⟨w1,w2⟩:=yE (Z:=fun a=>Z' a\/G a) hl q
  exact ⟨a,rfl,⟨_,q.sq⟩,k _ _ H' Fs' B.freeze (aP B.own s) w1 w2⟩
 | _=>cases ht
theorem p62:(2:Int) ^ 62=4611686018427387904:=by decide
theorem uL {e:E}(σ:L2.St)(H:Hp)(R:It->Hp->Prop)(h:wI K sf C 1 .rng [e] σ H R):vD (wL K sf C [e]) σ H R:=by
 obtain ⟨pv,Z,Fs,η,ws,η',ts,A,ev,ht,k⟩:=h
 refine ⟨pv,Z,Fs,η,ws,η',A,ev,fun vs Z' H' Fs' G B r s=>?_⟩
 obtain ⟨⟨m,a⟩,η1,us,e1,e2,rfl⟩:=av ev
 cases e2
 obtain ⟨x,rfl,r1⟩:=cg rfl r
 cases a with
 | int n =>
  rw [p8] at ht
  split at ht
  ·rename_i hc
   rw [a0k,decide_eq_true_eq] at hc
   cases ht
   refine ⟨n,by rw [show x=_ from r1],by rw [p62]; omega,by rw [p62]; omega,?_⟩
   obtain ⟨w1,w2⟩:=wt (K:=K) (Z:=fun a=>Z' a\/G a) (H:=H') (lo:=0) (n:=n.toNat) (bB hc.2)
   have hz:∀ k:Nat,(0:Int)+(k:Int)=k:=fun k=>by omega
   simp only [hz] at w1 w2
   exact k _ _ H' Fs' B.freeze (aP B.own s) w1 w2
  ·cases ht
 | _=>cases ht
theorem gh {m:Md}:∀ {ts:List T} {n i:Nat} {t:T},ts[i]?=some t->(cw m n ts)[i]?=some [(.d,.int ((n+i:Nat):Int)),(m,t)]
 | t::ts,n,0,_,h=>by cases h; rfl
 | t::ts,n,i+1,_,h=>by
  have:=gh (m:=m) (ts:=ts) (n:=n+1) (i:=i) h
  rw [show n+1+i=n+(i+1) by omega] at this
  exact this
 | [],_,_,_,h=>by simp at h
theorem bY {m:Md}:∀ {ts:List T} {n:Nat},(cw m n ts).length=ts.length
 | [],_=>rfl
 | t::ts,n=>by show (cw m (n+1) ts).length+1=ts.length+1; rw [bY]
theorem zo {e:E}(σ:L2.St)(H:Hp)(R:It->Hp->Prop)(h:wI K sf C 2 .enm [e] σ H R):vF K (wL K sf C [e]) σ H R:=by
 obtain ⟨pv,Z,Fs,η,ws,η',ts,A,ev,ht,k⟩:=h
 refine ⟨pv,Z,Fs,η,ws,η',A,ev,fun vs Z' H' Fs' G B r s=>?_⟩
 obtain ⟨⟨m,a⟩,η1,us,e1,e2,rfl⟩:=av ev
 cases e2
 obtain ⟨x,rfl,r1⟩:=cg rfl r
 obtain ⟨t1,rfl⟩:∃ t1,a=.lst t1:=by cases a<;>first | exact ⟨_,rfl⟩ | cases ht
 cases ht
 obtain ⟨a,xs,rfl,l,q,p⟩:=Rep.sh r1
 have l1:=p.length
 refine ⟨a,rfl,⟨xs,.inl (.inl q.2)⟩,k _ _ H' Fs' B.freeze (aP B.own s) ⟨fun H0 i s hi=>?_,fun H0 i s hi=>?_,by rw [bY]; omega⟩ fun H0 i x H1 s hi y=>?_⟩
 ·rw [bY] at hi
  exact ⟨xs,xs[i]'(by omega),bA s q.1 q.2,by simp⟩
 ·rw [bY] at hi
  exact ⟨xs,bA s q.1 q.2,by omega⟩
 ·rw [bY] at hi
  obtain ⟨p',x1,rfl,hp,rfl,hx⟩:=y
  obtain ⟨x',hx',rx⟩:=p.get (show t1[i]?=some t1[i] by simp)
  rw [hx xs (bA s q.1 q.2)] at hx'; cases hx'
  refine ⟨p',.int i,x1,(.d,.int ((0+i:Nat):Int)),(.s,t1[i]),rfl,yX hp,.inl (.inl ag),gh (by simp),?_,rx.sany.keep s (fun _ z=>z) fun _ _ z=>z.elim⟩
  show V.int (i:Int)=V.int ((0+i:Nat):Int)
  rw [a2C]
theorem eV:∀ {ts:List T} {ps:List (List W)} {i:Nat} {t:T},bw ts=some ps->ts[i]?=some t->∃ x y,t=.tup [x,y]/\ps[i]?=some [(.s,x),(.s,y)]
 | [],_,_,_,_,h=>by simp at h
 | u::ts,ps,i,t,e,h=>by
  match u,e with
  | .tup [x,y],e =>
   have e':(bw ts).map ([(.s,x),(.s,y)]::·)=some ps:=e
   cases e1:bw ts with
   | none=>rw [e1] at e'; cases e'
   | some qs =>
    rw [e1] at e'
    cases e'
    cases i with
    | zero=>cases h; exact ⟨x,y,rfl,rfl⟩
    | succ i=>exact eV (ts:=ts) (ps:=qs) (i:=i) e1 h
theorem er:∀ {ts:List T} {ps:List (List W)},bw ts=some ps->ps.length=ts.length
 | [],_,e=>by cases e; rfl
 | u::ts,ps,e=>by
  match u,e with
  | .tup [x,y],e =>
   have e':(bw ts).map ([(.s,x),(.s,y)]::·)=some ps:=e
   cases e1:bw ts with
   | none=>rw [e1] at e'; cases e'
   | some qs =>
    rw [e1] at e'
    cases e'
    rw [a0f,a0f,er e1]
theorem zt {e:E}(σ:L2.St)(H:Hp)(R:It->Hp->Prop)(h:wI K sf C 2 .sq2 [e] σ H R):fZ K (wE K sf C e) σ H R:=by
 obtain ⟨pv,Z,Fs,η,ws,η',ts,A,ev,ht,k⟩:=h
 obtain ⟨⟨m,a⟩,η1,us,e1,e2,rfl⟩:=av ev
 cases e2
 obtain ⟨t1,rfl⟩:∃ t1,a=.lst t1:=by cases a<;>first | exact ⟨_,rfl⟩ | cases ht
 have ht':bw t1=some ts:=ht
 have hlen:=er ht'
 refine ⟨pv,Z,Fs,η,_,_,A,e1,fun v Z' H' Fs' G B r s=>?_⟩
 obtain ⟨a,xs,rfl,l,q,p⟩:=Rep.sh r
 have hl:=p.length
 refine ⟨a,rfl,⟨xs,.inl (.inl q.2)⟩,k _ _ H' Fs' B.freeze (aP B.own s) ⟨fun H0 i s hi=>?_,fun H0 i s hi=>?_,by omega⟩ fun H0 i x H1 s hi y=>?_⟩
 ·exact ⟨xs,xs[i]'(by omega),bA s q.1 q.2,by simp⟩
 ·exact ⟨xs,bA s q.1 q.2,by omega⟩
 ·obtain ⟨rfl,y⟩:=y
  have hx:=y xs (bA s q.1 q.2)
  have hi':i < t1.length:=by omega
  obtain ⟨x',hx',rx⟩:=p.get (show t1[i]?=some t1[i] by simp)
  rw [hx] at hx'; cases hx'
  obtain ⟨u,w,et,eu⟩:=eV ht' (show t1[i]?=some t1[i] by simp)
  rw [et] at rx
  obtain ⟨c,ys,rfl,hq,_,y1,r1,G1,G2,rfl,g1,g2,d,p1,y2,r2,G3,G4,e2,g3,g4,d2,p2,q2⟩:=rx
  cases e2
  obtain rfl:r2=[]:=q2
  refine ⟨c,y1,y2,(.s,u),(.s,w),rfl,fun _ _ e=>e,s.sqt hq,eu,(p1.mono (G':=no) fun a h=>(g1 a h).1).sany.keep s (fun _ z=>z) fun _ _ z=>z.elim,(p2.mono (G':=no) fun a h=>(g2 a (g3 a h)).1).sany.keep s (fun _ z=>z) fun _ _ z=>z.elim⟩
end
end MR
namespace MR
open L2 L3 M
open PySem (Addr Str sizeLine)
section
variable {K:a0a}{sl:Cf}{sf sg:Nat->Option Nat}{C:Call}{σ σ2:L2.St}{Z Z' Z1:Fp}{H H' H1:Hp}{Fs Fs' Fs1:Fps}{η η' η1:Env}{G G' R F:Fp}{tg is:List Nat}{pv val:Nat->Option V}
theorem ai:∀ (tg:List Nat) (η:Env) (i:Nat),rd (ae tg η) i=if i∈tg then none else rd η i
 | [],η,i=>by simp [ae]
 | t::tg,η,i=>by
  show rd (ae tg (wr η t none)) i=_
  rw [ai tg,aH]
  by_cases h1:i∈tg
  ·simp [h1]
  ·by_cases h2:i=t
   ·subst h2
    rw [if_neg h1,if_pos a0d]
    split
    ·rfl
    ·rename_i hn
     cases e:rd η i with
     | none=>rfl
     | some w=>exact absurd ⟨rfl,bH e⟩ hn
   ·rw [if_neg h1,if_neg (show ¬ i∈t::tg by simp [h1,h2]),if_neg (show ¬ (i=t/\t < η.length) from fun h=>h2 h.1)]
noncomputable def Nn (η η':Env):Prop:=∀ i,rd η i=none->rd η' i=none
theorem Nn.refl (η:Env):Nn η η:=fun _ h=>h
theorem Nn.trans {a b c:Env}(h:Nn a b)(k:Nn b c):Nn a c:=fun i e=>k i (h i e)
theorem gp (η:Env)(j:Nat):Nn η (del η j):=fun i e=>by
 rw [aH]; split
 ·rfl
 ·exact e
theorem jF {η:Env}{j:Nat}{w:W}(h:rd η j≠none):Nn η (put η j w):=fun i e=>by
 rw [aH]; split
 ·rename_i hc; rw [<- hc.1] at h; exact absurd e h
 ·exact e
theorem dD:∀ {is:List Nat} {ws:List W} {η0 η:Env},(∀ i∈is,rd η0 i≠none)->Nn η0 η->Nn η0 (putAll is ws η)
 | [],_,_,_,_,h=>h
 | _::_,[],_,_,_,h=>h
 | i::is,w::ws,η0,η,hi,h=>by
  show Nn η0 (putAll is ws (put η i w))
  refine dD (fun j hj=>hi j (a0c _ hj)) fun j e=>?_
  rw [aH]; split
  ·rename_i hc; rw [hc.1] at e; exact absurd e (hi i a0d)
  ·exact h j e
theorem c6 {f:Env->Res (Option W×Env)}(hf:∀ {η o η'},f η=.ok (o,η')->Nn η η'):∀ {ts:List (List W)} {η η':Env} {acc ws:List W},(∀ i∈tg,rd η i=none)->ay tg f ts η acc=.ok (ws,η')->Nn η η'
 | [],η,η',acc,ws,_,h=>by cases h; exact Nn.refl _
 | t::ts,η,η',acc,ws,ht,h=>by
  obtain ⟨η1,h1,h2⟩:=aa (show (ofO (aM tg t η)).bind (fun η1=>(f η1).bind fun p=>ay tg f ts (ae tg p.2) (acc++p.1.toList))=_ from h)
  obtain ⟨⟨o,η2⟩,h3,h4⟩:=aa h2
  have hb:∀ {tg:List Nat} {t:List W} {η η1:Env},aM tg t η=some η1->∀ i,i ∉ tg->rd η1 i=rd η i:=fun {tg}=>by
   induction tg with
   | nil=>intro t η η1 h i hi; cases t with
    | nil=>cases h; rfl
    | cons _ _=>cases h
   | cons j tg ih=>intro t η η1 h i hi; cases t with
    | nil=>cases h
    | cons w t =>
     have:=ih (show aM tg t (put η j w)=some η1 from h) i (fun z=>hi (a0c _ z))
     rw [this,aH,if_neg fun z=>hi (by rw [z.1]; exact a0d)]
  have e1:=hb (a9 h1)
  have hd:∀ i,rd η i=none->rd (ae tg η2) i=none:=fun i e=>by
   rw [ai]
   split
   ·rfl
   ·rename_i hi
    exact hf h3 i (by rw [e1 i hi]; exact e)
  exact Nn.trans (b:=ae tg η2) hd (c6 hf (fun i hi=>by rw [ai,if_pos hi]) h4)
noncomputable def c9 (sf sg:Nat->Option Nat)(tg:List Nat)(is:List Nat):Prop :=
 ∀ i j,sg i=some j->(∃ k:Nat,tg[k]?=some i/\j=k)\/(i ∉ tg/\∃ (k j0:Nat),j=tg.length+k/\is[k]?=some j0/\sf i=some j0)
theorem At.pin (A:At K ⟨sf,pv⟩ σ Z H Fs η G):∃ val,(∀ i u,pv i=some u->val i=some u)/\At K ⟨sf,val⟩ σ Z H Fs η G/\∀ i m t,rd η i=some (m,t)->val i≠none:=by
 have ch:∀ i,∃ o:Option V,(∀ u,pv i=some u->o=some u)/\(∀ u j,o=some u->sf i=some j->σ[j]?=some (some u))/\∀ m t,rd η i=some (m,t)->∃ v,o=some v/\Rep K Z H m t v (Fs i)/\(∀ j,sf i=some j->σ[j]?=some (some v)):=fun i=>by
  cases e:rd η i with
  | none=>exact ⟨pv i,fun _ h=>h,fun u j h hs=>A.lk i u j h hs,fun _ _ h=>by cases h⟩
  | some w =>
   obtain ⟨m,t⟩:=w
   obtain ⟨v,r,h1,h2⟩:=A.env i m t e
   refine ⟨some v,fun u h=>by rw [h2 u h],fun u j h hs=>?_,fun m' t' h=>by cases h; exact ⟨v,rfl,r,h1⟩⟩
   cases h
   exact h1 j hs
 obtain ⟨val,hval⟩:=Classical.axiomOfChoice ch
 refine ⟨val,fun i u h=>(hval i).1 u h,⟨A.gd,fun i m t e=>?_,A.own,A.dis,fun i u j h hs=>(hval i).2.1 u j h hs,A.ln⟩,fun i m t e=>?_⟩
 ·obtain ⟨v,h1,r,h2⟩:=(hval i).2.2 m t e
  exact ⟨v,r,h2,fun u hu=>by rw [show val i=some u from hu] at h1; cases h1; rfl⟩
 ·obtain ⟨v,h1,r,h2⟩:=(hval i).2.2 m t e
  rw [h1]; simp
theorem At.unpin (h:∀ i u,pv i=some u->val i=some u)(A:At K ⟨sf,val⟩ σ Z H Fs η G):At K ⟨sf,pv⟩ σ Z H Fs η G :=
 ⟨A.gd,fun i m t e=>let ⟨v,r,h1,h2⟩:=A.env i m t e; ⟨v,r,h1,fun u hu=>h2 u (h i u hu)⟩,A.own,A.dis,fun i u j hu hs=>A.lk i u j (h i u hu) hs,A.ln⟩
noncomputable def inV (val:Nat->Option V)(tg:List Nat):Nat->Option V:=fun i=>if i∈tg then none else val i
theorem At.into (I:c9 sf sg tg is)(ht:∀ i∈tg,rd η i=none)(hσ:∀ (k j0:Nat) (v:V),is[k]?=some j0->σ[j0]?=some (some v)->σ2[tg.length+k]?=some (some v))(hl:∀ i j,sg i=some j->j < σ2.length)(A:At K ⟨sf,val⟩ σ Z H Fs η G):At K ⟨sg,inV val tg⟩ σ2 Z H Fs η G:=by
 refine ⟨A.gd,fun i m t e=>?_,A.own,A.dis,fun i u j hu hs=>?_,hl⟩
 ·have hi:i ∉ tg:=fun h=>by rw [ht i h] at e; cases e
  obtain ⟨v,r,h1,h2⟩:=A.env i m t e
  refine ⟨v,r,fun j hj=>?_,fun u hu=>h2 u (by have h3:inV val tg i=some u:=hu; unfold inV at h3; rw [if_neg hi] at h3; exact h3)⟩
  rcases I i j hj with ⟨k,hk,_⟩ | ⟨_,k,j0,rfl,hk,hs⟩
  ·exact absurd (a05 hk) hi
  ·exact hσ k j0 v hk (h1 j0 hs)
 ·have hi:i ∉ tg:=fun h=>by
   have hu':inV val tg i=some u:=hu
   unfold inV at hu'; rw [if_pos h] at hu'; cases hu'
  have hu':val i=some u:=by have h3:inV val tg i=some u:=hu; unfold inV at h3; rw [if_neg hi] at h3; exact h3
  rcases I i j hs with ⟨k,hk,_⟩ | ⟨_,k,j0,rfl,hk,hs⟩
  ·exact absurd (a05 hk) hi
  ·exact hσ k j0 u hk (A.lk i u j0 hu' hs)
theorem At.outof (ht:∀ i∈tg,rd η i=none)(hv:∀ i m t,rd η i=some (m,t)->val i≠none)(lk:∀ i u j,val i=some u->sf i=some j->σ[j]?=some (some u))(ln:∀ i j,sf i=some j->j < σ.length)(A:At K ⟨sg,inV val tg⟩ σ2 Z H Fs η G):At K ⟨sf,val⟩ σ Z H Fs η G:=by
 refine ⟨A.gd,fun i m t e=>?_,A.own,A.dis,lk,ln⟩
 have hi:i ∉ tg:=fun h=>by rw [ht i h] at e; cases e
 obtain ⟨v,r,h1,h2⟩:=A.env i m t e
 cases hu:val i with
 | none=>exact absurd hu (hv i m t e)
 | some u =>
  have:v=u:=h2 u (by show inV val tg i=some u; unfold inV; rw [if_neg hi]; exact hu)
  subst this
  exact ⟨v,r,fun j hj=>lk i v j hu hj,fun u' hu'=>by rw [show val i=some u' from hu'] at hu; cases hu; rfl⟩
end
section
variable {C:Call}
theorem fv:∀ (vs:List Nat) (η:Env),Nn η (M.share vs η)
 | [],η=>fun _ e=>e
 | v::vs,η=>Nn.trans (b:=wr η v (toS (rd η v))) (fun i e=>by
   rw [aH]; split
   ·rename_i hc; rw [<- hc.1,e]; rfl
   ·exact e) (fv vs _)
theorem pY (m:Md)(vs:List Nat)(η:Env):Nn η (after m vs η):=by
 cases m with
 | d=>exact fun _ e=>e
 | s=>exact fv vs η
 | o _=>exact fv vs η
theorem iU {α:Type}{tab:List (Str×α)}{f:α->Env->RE}{p:W×Env}{r:W×Env}(h:mI tab f p=.ok r):∃ x a,p.1.2=.str x/\tab.lookup x=some a/\f a p.2=.ok r:=by
 unfold mI at h
 split at h
 ·rename_i x hx
  split at h
  ·rename_i a ha; exact ⟨x,a,hx,ha,h⟩
  ·cases h
 ·cases h
theorem ue {neg:Bool}{ks:List Str}{p r:W×Env}(h:kIn neg ks p=.ok r):∃ x,p.1.2=.str x/\r.2=p.2/\r.1=(.d,.bl (ks.contains x != neg)):=by
 unfold kIn at h
 split at h
 ·rename_i x hx; cases h; exact ⟨x,hx,rfl,rfl⟩
 ·cases h
theorem pN {tab:List (Str×T)}{p r:W×Env}(h:rg tab p=.ok r):∃ x,p.1.2=.str x/\r.2=p.2/\r.1=(.s,(tab.lookup x).getD .non):=by
 unfold rg at h
 split at h
 ·rename_i x hx; cases h; exact ⟨x,hx,rfl,rfl⟩
 ·cases h
mutual
theorem ah:∀ (e:E) {η η':Env} {w:W},evE C e η=.ok (w,η')->Nn η η'
 | .var i,η,η',w,h=>by obtain ⟨_,_,e⟩:=aq (show ret η ((rd η i).bind look)=_ from h); cases e; exact Nn.refl _
 | .mv i,η,η',w,h=>by obtain ⟨_,_,e⟩:=aq (show ret (del η i) (rd η i)=_ from h); cases e; exact gp _ _
 | .io i,η,η',w,h=>by obtain ⟨_,_,e⟩:=aq (show ret (del η i) (rd η i)=_ from h); cases e; exact gp _ _
 | .cst t,η,η',w,h=>by cases h; exact Nn.refl _
 | .glb _ t,η,η',w,h=>by cases h; exact Nn.refl _
 | .tup es,η,η',w,h=>by
  obtain ⟨⟨ws,η1⟩,h1,h2⟩:=aa (show (evL C es η).bind kd=_ from h)
  cases h2; exact cW es h1
 | .lst b es,η,η',w,h=>by
  obtain ⟨⟨ws,η1⟩,h1,h2⟩:=aa (show (evL C es η).bind (qD b)=_ from h)
  cases h2; exact cW es h1
 | .wk m e,η,η',w,h=>by
  obtain ⟨⟨u,η1⟩,h1,h2⟩:=aa (show (evE C e η).bind (kWk m)=_ from h)
  obtain ⟨_,_,e3⟩:=aq (show ret η1 _=_ from h2)
  cases e3; exact ah e h1
 | .op o b es,η,η',w,h=>by
  obtain ⟨ws,h1,h2⟩:=cx h
  exact cW es h1
 | .and a b,η,η',w,h=>by
  obtain ⟨⟨u,η1⟩,h1,h2⟩:=aa (show (evE C a η).bind (oE (evE C b))=_ from h)
  obtain ⟨d,h3,h4⟩:=a0 (show onT (evE C b) (okW u) (u,η1)=_ from h2)
  cases d with
  | true=>rw [if_pos rfl] at h4; exact (ah a h1).trans (ah b h4)
  | false=>rw [if_neg a0n] at h4; cases h4; exact ah a h1
 | .or a b,η,η',w,h=>by
  obtain ⟨⟨u,η1⟩,h1,h2⟩:=aa (show (evE C a η).bind (kOr (evE C b))=_ from h)
  obtain ⟨d,h3,h4⟩:=a0 (show onT (okW u) (evE C b) (u,η1)=_ from h2)
  cases d with
  | false=>rw [if_neg a0n] at h4; exact (ah a h1).trans (ah b h4)
  | true=>rw [if_pos rfl] at h4; cases h4; exact ah a h1
 | .not a,η,η',w,h=>by
  obtain ⟨⟨u,η1⟩,h1,h2⟩:=aa (show (evE C a η).bind nr=_ from h)
  obtain ⟨_,_,e3⟩:=aq (show ret η1 _=_ from h2)
  cases e3; exact ah a h1
 | .ifx c a b,η,η',w,h=>by
  obtain ⟨⟨u,η1⟩,h1,h2⟩:=aa (show (evE C c η).bind (onT (evE C a) (evE C b))=_ from h)
  obtain ⟨d,h3,h4⟩:=a0 h2
  cases d with
  | true=>rw [if_pos rfl] at h4; exact (ah c h1).trans (ah a h4)
  | false=>rw [if_neg a0n] at h4; exact (ah c h1).trans (ah b h4)
 | .chain o q a b c,η,η',w,h=>by
  obtain ⟨⟨x,η1⟩,h1,h2⟩:=aa (show (evE C a η).bind (kC1 o q (evE C b) (evE C c))=_ from h)
  obtain ⟨⟨y,η2⟩,h3,h4⟩:=aa (show (evE C b η1).bind (kC2 o q (evE C c) x)=_ from h2)
  obtain ⟨⟨k,η3⟩,h5,h6⟩:=aa (show (ret η2 (oSem o false [x,y])).bind (fun k=>onB k.1.2 (lg (evE C c) (kC3 q y)) (okW (.d,.bl false)) k.2)=_ from h4)
  obtain ⟨k',_,e5⟩:=aq h5
  have e6:η3=η2:=congrArg a1V e5
  have n2:=(ah a h1).trans (ah b h3)
  have h6':onB k.2 (lg (evE C c) (kC3 q y)) (okW (.d,.bl false)) η2=.ok (w,η'):=by rw [<- e6]; exact h6
  generalize k.2=kk at h6'
  cases kk with
  | bl b =>
   cases b with
   | true =>
    obtain ⟨⟨z,η4⟩,h7,h8⟩:=aa (show (evE C c η2).bind (kC3 q y)=_ from h6')
    obtain ⟨z',_,e8⟩:=aq (show ret η4 (oSem q false [y,z])=_ from h8)
    have e9:η'=η4:=congrArg a1V e8
    rw [e9]
    exact n2.trans (ah c h7)
   | false=>cases h6'; exact n2
  | _=>cases h6'
 | .call f es,η,η',w,h=>by
  obtain ⟨⟨ws,η1⟩,h1,h2⟩:=aa (show (evA C es η).bind (eS C f (ios es))=_ from h)
  obtain ⟨⟨u,us⟩,h3,h4⟩:=aa (show (C f ws).bind (iA (ios es) η1)=_ from h2)
  cases h4
  exact dD (ei es h1) (cR es h1)
 | .comp b k src tg none elt,η,η',w,h=>by
  obtain ⟨⟨ws,η1⟩,h1,h2⟩:=aa (show (evL C src η).bind (de b k tg (cu (evE C elt)))=_ from h)
  obtain ⟨⟨ts,η2⟩,h3,h4⟩:=aa (show (ret (ae tg η1) (a7 k ws)).bind (fun t=>(ay tg (cu (evE C elt)) t.1 t.2 []).bind (eT b))=_ from h2)
  obtain ⟨_,_,e3⟩:=aq h3
  have e4:η2=ae tg η1:=congrArg a1V e3
  subst e4
  obtain ⟨⟨us,η3⟩,h5,h6⟩:=aa (show (ay tg (cu (evE C elt)) ts (ae tg η1) []).bind (eT b)=_ from h4)
  obtain ⟨_,_,e6⟩:=aq (show ret η3 _=_ from h6)
  have e7:η'=η3:=congrArg a1V e6
  subst e7
  refine (cW src h1).trans (Nn.trans (b:=ae tg η1) (fun i e=>by rw [ai]; split<;>first | rfl | exact e) (c6 (fun {η o η'} hf=>?_) (fun i hi=>by rw [ai,if_pos hi]) h5))
  obtain ⟨⟨u,η4⟩,h7,h8⟩:=aa (show (evE C elt η).bind cj=_ from hf)
  cases h8
  exact ah elt h7
 | .comp b k src tg (some c) elt,η,η',w,h=>by
  obtain ⟨⟨ws,η1⟩,h1,h2⟩:=aa (show (evL C src η).bind (de b k tg (bE (evE C c) (evE C elt)))=_ from h)
  obtain ⟨⟨ts,η2⟩,h3,h4⟩:=aa (show (ret (ae tg η1) (a7 k ws)).bind (fun t=>(ay tg (bE (evE C c) (evE C elt)) t.1 t.2 []).bind (eT b))=_ from h2)
  obtain ⟨_,_,e3⟩:=aq h3
  have e4:η2=ae tg η1:=congrArg a1V e3
  subst e4
  obtain ⟨⟨us,η3⟩,h5,h6⟩:=aa (show (ay tg (bE (evE C c) (evE C elt)) ts (ae tg η1) []).bind (eT b)=_ from h4)
  obtain ⟨_,_,e6⟩:=aq (show ret η3 _=_ from h6)
  have e7:η'=η3:=congrArg a1V e6
  subst e7
  refine (cW src h1).trans (Nn.trans (b:=ae tg η1) (fun i e=>by rw [ai]; split<;>first | rfl | exact e) (c6 (fun {η o η'} hf=>?_) (fun i hi=>by rw [ai,if_pos hi]) h5))
  obtain ⟨⟨u,η4⟩,h7,h8⟩:=aa (show (evE C c η).bind (onT (cu (evE C elt)) (okW none))=_ from hf)
  obtain ⟨d,h9,h10⟩:=a0 h8
  cases d with
  | true =>
   rw [if_pos rfl] at h10
   obtain ⟨⟨u2,η5⟩,h11,h12⟩:=aa (show (evE C elt η4).bind cj=_ from h10)
   cases h12
   exact (ah c h7).trans (ah elt h11)
  | false =>
   rw [if_neg a0n] at h10
   cases h10
   exact ah c h7
 | .pop i es,η,η',w,h=>by
  obtain ⟨_,_,h0⟩:=aa (show (cK (rd η i)).bind (il (evL C es) η (mr i))=_ from h)
  obtain ⟨⟨ws,η1⟩,h1,h2⟩:=aa (show (evL C es η).bind (mr i)=_ from h0)
  obtain ⟨r,h3,h4⟩:=aa (show (ofO ((rd η1 i).bind fun w=>gV w ws)).bind (fun r=>.ok (r.1,put η1 i r.2))=_ from h2)
  cases h4
  refine (cW es h1).trans (jF ?_)
  have:=a9 h3
  intro e; rw [e] at this; cases this
 | .lenV i,η,η',w,h=>by obtain ⟨_,_,e⟩:=aq (show ret η ((rd η i).bind fun w=>oSem .len false [w])=_ from h); cases e; exact Nn.refl _
 | .ixV i j,η,η',w,h=>by obtain ⟨_,_,e⟩:=aq (show ret η (AG (rd η i) (rd η j))=_ from h); cases e; exact Nn.refl _
 | .compV b i t c e,η,η',w,h=>by
  obtain ⟨ts,h1,h2⟩:=aa (show (ofO (vwT (rd η i))).bind (kV1 b i t (bE (evE C c) (evE C e)) η)=_ from h)
  obtain ⟨⟨u,η1⟩,h3,h4⟩:=aa (show ((ay [t] (bE (evE C c) (evE C e)) (ts.map fun u=>[(.s,u)]) (ae [t] (del η i)) []).bind (eT b)).bind (kV2 i (rd η i))=_ from h2)
  obtain ⟨⟨us,η2⟩,h5,h6⟩:=aa h3
  obtain ⟨_,_,e6⟩:=aq (show ret η2 _=_ from h6)
  cases e6
  cases h4
  have nc:Nn (ae [t] (del η i)) η1:=by
   refine c6 (fun {η o η'} hf=>?_) (fun j hj=>by rw [ai,if_pos hj]) h5
   obtain ⟨⟨u,η4⟩,h7,h8⟩:=aa (show (evE C c η).bind (onT (cu (evE C e)) (okW none))=_ from hf)
   obtain ⟨d,h9,h10⟩:=a0 h8
   cases d with
   | true =>
    rw [if_pos rfl] at h10
    obtain ⟨⟨u2,η5⟩,h11,h12⟩:=aa (show (evE C e η4).bind cj=_ from h10)
    cases h12
    exact (ah c h7).trans (ah e h11)
   | false =>
    rw [if_neg a0n] at h10
    cases h10
    exact ah c h7
  intro j e
  rw [aH]
  split
  ·rename_i hc
   rw [<- hc.1]; exact e
  ·refine nc j ?_
   rw [ai]
   split
   ·rfl
   ·exact gp η i j e
 | .popN i e,η,η',w,h=>by
  obtain ⟨_,_,h0⟩:=aa (show (cK (rd η i)).bind (ed (evE C e) η (fu i))=_ from h)
  obtain ⟨⟨u,η1⟩,h1,h2⟩:=aa (show (evE C e η).bind (fu i)=_ from h0)
  obtain ⟨r,h3,h4⟩:=aa (show (ofO ((rd η1 i).bind fun w=>fH w u)).bind (fun r=>.ok (r.1,put η1 i r.2))=_ from h2)
  cases h4
  refine (ah e h1).trans (jF ?_)
  have:=a9 h3
  intro e; rw [e] at this; cases this
 | .tupA es,η,η',w,h=>by
  obtain ⟨⟨ws,η1⟩,h1,h2⟩:=aa (show (evA C es η).bind kd=_ from h)
  cases h2; exact cR es h1
 | .qx vs ls e,η,η',w,h=>by
  obtain ⟨⟨u,η1⟩,h1,h2⟩:=aa (show (evE C e (cM vs ls η)).bind (kX vs η)=_ from h)
  cases h2
  exact pY _ vs η
 | .mvP i p,η,η',w,h=>by
  obtain ⟨r,h1,h2⟩:=aa (show (ofO ((rd η i).bind (vm p))).bind (Ar i η)=_ from h)
  cases h2
  refine jF fun e=>?_
  have:=a9 h1
  rw [e] at this; cases this
 | .callT tab k es,η,η',w,h=>by
  obtain ⟨⟨u,η1⟩,h1,h2⟩:=aa (show (evE C k η).bind (mI tab (kCT C (evA C es) (ios es)))=_ from h)
  obtain ⟨x,j,_,_,h3⟩:=iU h2
  obtain ⟨⟨ws,η2⟩,h4,h5⟩:=aa (show (evA C es η1).bind (eS C j (ios es))=_ from h3)
  obtain ⟨⟨r,bs⟩,h6,h7⟩:=aa (show (C j ws).bind (iA (ios es) η2)=_ from h5)
  cases h7
  exact (ah k h1).trans (dD (ei es h4) (cR es h4))
 | .inT neg ks e,η,η',w,h=>by
  obtain ⟨⟨u,η1⟩,h1,h2⟩:=aa (show (evE C e η).bind (kIn neg ks)=_ from h)
  obtain ⟨x,_,e2,_⟩:=ue h2
  cases e2; exact ah e h1
 | .ixT tab e,η,η',w,h=>by
  obtain ⟨⟨u,η1⟩,h1,h2⟩:=aa (show (evE C e η).bind (mI tab okS)=_ from h)
  obtain ⟨x,j,_,_,h3⟩:=iU h2
  cases h3; exact ah e h1
 | .getT tab e,η,η',w,h=>by
  obtain ⟨⟨u,η1⟩,h1,h2⟩:=aa (show (evE C e η).bind (rg tab)=_ from h)
  obtain ⟨x,_,e2,_⟩:=pN h2
  cases e2; exact ah e h1
theorem cW:∀ (es:List E) {η η':Env} {ws:List W},evL C es η=.ok (ws,η')->Nn η η'
 | [],η,η',ws,h=>by cases h; exact Nn.refl _
 | e::es,η,η',ws,h=>by
  obtain ⟨w,η1,us,h1,h2,_⟩:=av h
  exact (ah e h1).trans (cW es h2)
theorem cR:∀ (es:List E) {η η':Env} {ws:List W},evA C es η=.ok (ws,η')->Nn η η'
 | [],η,η',ws,h=>by cases h; exact Nn.refl _
 | e::es,η,η',ws,h=>by
  rcases BP e with ⟨i,hi⟩ | he
  ·subst hi
   obtain ⟨us,η1,w,h1,_,_,h4⟩:=gy h
   rw [h4]
   exact (cR es h1).trans (gp _ _)
  ·obtain ⟨w,η1,us,h1,h2,_⟩:=ez he h
   exact (ah e h1).trans (cR es h2)
theorem ei:∀ (es:List E) {η η':Env} {ws:List W},evA C es η=.ok (ws,η')->∀ i∈ios es,rd η i≠none
 | [],_,_,_,_,i,hi=>by simp [ios] at hi
 | e::es,η,η',ws,h,i,hi=>by
  rcases BP e with ⟨j,hj⟩ | he
  ·subst hj
   obtain ⟨us,η1,w,h1,h2,_,_⟩:=gy h
   rcases a0q.mp (show i∈j::ios es from hi) with z | z
   ·subst z
    exact fun z=>by rw [cR es h1 i z] at h2; cases h2
   ·exact ei es h1 i z
  ·obtain ⟨w,η1,us,h1,h2,_⟩:=ez he h
   have hi':i∈ios es:=by
    cases e with
    | io j=>exact absurd rfl (he j)
    | _=>exact hi
   exact fun z=>ei es h2 i hi' (ah e h1 i z)
end
end
section
variable {K:a0a}{sl:Cf}{sf sg:Nat->Option Nat}{C:Call}{σ σ2:L2.St}{Z Z' Z1:Fp}{H H' H1:Hp}{Fs Fs' Fs1:Fps}{η η' η1 ηb:Env}{G G' R F:Fp}{tg is:List Nat}{pv val:Nat->Option V}
noncomputable def gT (K:a0a):Nat->TG
 | 1=>bZ 0
 | 2=>wz K 2 (i6 (bZ 0) (i6 (bZ 1) xo))
 | _=>fun _ _ _ _=>False
theorem At.put1 {i:Nat}{w:W}{x:V}(A:At K sl σ Z H Fs η G)(r:Rep K Z H w.1 w.2 x (Fs i))(hl:∀ j,sl.sl i=some j->σ[j]?=some (some x))(hp:sl.pv i=none):At K sl σ Z H Fs (put η i w) G:=by
 refine ⟨A.gd,fun j m t e=>?_,A.own,A.dis,A.lk,A.ln⟩
 rw [aH] at e
 split at e
 ·rename_i hc
  cases e
  obtain ⟨rfl,_⟩:=hc
  exact ⟨x,r,hl,fun u hu=>by rw [hp] at hu; cases hu⟩
 ·exact A.env j m t e
theorem eB {k j0:Nat}{v:V}(h1:is[k]?=some j0)(h2:σ[j0]?=some (some v)):(aZ σ is)[k]?=some (some v):=by
 unfold aZ
 rw [a0t,h1]
 show some ((σ[j0]?).join)=_
 rw [h2]
 rfl
theorem du (I:c9 sf sg tg is)(h:σ2.length=tg.length+is.length):∀ i j,sg i=some j->j < σ2.length:=fun i j hj=>by
 rcases I i j hj with ⟨k,hk,rfl⟩ | ⟨_,k,j0,rfl,hk,_⟩
 ·have:=(a0z.mp hk).1
  omega
 ·have:=(a0z.mp hk).1
  omega
theorem mX {n i:Nat}{J:It}{ts:List (List W)}{ws:List W}{x:V}{Q:L2.St->Hp->Prop}(hn:tg.length=n)(nd:tg.Nodup)(I:c9 sf sg tg is)(hz:∀ a,Z1 a->Z a)(st:Stay Z1 H1 H)(yl:Yld K J Z1 H1 ts n)(A:At K ⟨sf,val⟩ σ Z H Fs η G)
  (ht:∀ i∈tg,rd η i=none) (hw:ts[i]?=some ws) (hb:aM tg ws η=some ηb) (y:J.yld i H x H')
  (k:∀ σ2 H2,At K ⟨sg,inV val tg⟩ σ2 Z H2 Fs ηb G->Step Z H no Z H2 no->(σ2.length=n+(aZ σ is).length/\σ2.drop n=aZ σ is)->Q σ2 H2):gT K n x (a0l n none++aZ σ is) H' Q:=by
 have hi:i < ts.length:=(a0z.mp hw).1
 have own0:∀ {t:Nat},t∈tg->inV val tg t=none:=fun {t} h=>if_pos h
 match n,yl with
 | 1,yl =>
  obtain ⟨e0,w,hw',r⟩:=yl H i x H' st hi y
  rw [e0]
  rw [hw] at hw'; cases hw'
  match tg,hn with
  | [t],_ =>
   cases hb
   have r':Rep K Z H w.1 w.2 x (Fs t):=(r.zmono hz).mono fun _ z=>z.elim
   refine k _ H ?_ (Step.refl _ _ _) ⟨by simp [a1z],rfl⟩
   refine (A.into (σ2:=some x::aZ σ is) I ht (fun k j0 v h1 h2=>?_) (du I (by simp [aZ,a1z]))).put1 r' (fun j hj=>?_) (own0 (by simp))
   ·rw [a0r,a1z,a0C]; exact eB h1 h2
   ·rcases I t j hj with ⟨k,hk,rfl⟩ | ⟨h,_⟩
    ·cases j with
     | zero=>rfl
     | succ _=>simp at hk
    ·exact absurd (a0E.mpr rfl) h
 | 2,yl =>
  obtain ⟨p,y1,z1,u,w,rfl,sm,hq,hw',r1,r2⟩:=yl H i x H' st hi y
  rw [hw] at hw'; cases hw'
  match tg,hn with
  | [t,t'],_ =>
   cases hb
   have hne:t≠t':=fun z=>by simp [z] at nd
   have s1:Step Z H G Z H' G:=eh sm
   have o1:Own Z H' G:=fun a ha=>by
    obtain ⟨nz,ys,e⟩:=A.own a ha
    exact ⟨nz,ys,sm _ _ e⟩
   obtain ⟨A1,_⟩:=A.op o1 s1
   have sn:Stay Z H H':=jc sm
   have r1':Rep K Z H' u.1 u.2 y1 (Fs t):=((r1.zmono hz).keep sn (fun _ z=>z) fun _ _ z=>z.elim).mono fun _ z=>z.elim
   have r2':Rep K Z H' w.1 w.2 z1 (Fs t'):=((r2.zmono hz).keep sn (fun _ z=>z) fun _ _ z=>z.elim).mono fun _ z=>z.elim
   have s0:Step Z H no Z H' no:=eh sm
   refine ⟨p,[y1,z1],rfl,hq,rfl,y1,[z1],rfl,z1,[],rfl,rfl,k (some y1::some z1::aZ σ is) _ ?_ s0 ⟨by simp; omega,rfl⟩⟩
   refine ((A1.into (σ2:=some y1::some z1::aZ σ is) I ht (fun k j0 v h1 h2=>?_) (du I (by simp [aZ]; omega))).put1 r1' (fun j hj=>?_) (own0 (by simp))).put1 r2' (fun j hj=>?_) (own0 (by simp))
   ·rw [show [t,t'].length+k=k+1+1 by simp; omega,a0C,a0C]; exact eB h1 h2
   ·rcases I t j hj with ⟨k,hk,rfl⟩ | ⟨h,_⟩
    ·match j,hk with
     | 0,_=>rfl
     | 1,hk=>exact absurd (a0v hk).symm hne
    ·exact absurd (by simp) h
   ·rcases I t' j hj with ⟨k,hk,rfl⟩ | ⟨h,_⟩
    ·match j,hk with
     | 0,hk=>exact absurd (a0v hk) hne
     | 1,_=>rfl
    ·exact absurd (by simp) h
noncomputable def ck (Fs:Fps)(tg:List Nat):Fps:=fun j a=>j ∉ tg/\Fs j a
theorem bp {a:Addr}(h:tot (ck Fs tg) a):tot Fs a:=let ⟨j,_,h2⟩:=h; ⟨j,h2⟩
theorem At.dels (A:At K sl σ Z H Fs η G):At K sl σ Z H (ck Fs tg) (ae tg η) G:=by
 refine ⟨⟨fun a h=>A.gd.own a (bp h),fun i j a h1 h2=>A.gd.dis i j a h1.2 h2.2,A.gd.zal⟩,fun i m t e=>?_,A.own,fun a h q=>A.dis a h (bp q),A.lk,A.ln⟩
 rw [ai] at e
 split at e
 ·cases e
 ·rename_i hi
  obtain ⟨v,r,h⟩:=A.env i m t e
  exact ⟨v,r.mono fun a ha=>⟨hi,ha⟩,h⟩
theorem cA:∀ {tg:List Nat} {t:List W} {η η1:Env},aM tg t η=some η1->∀ i,i ∉ tg->rd η1 i=rd η i
 | [],[],η,η1,h,i,_=>by cases h; rfl
 | [],_::_,_,_,h,_,_=>by cases h
 | _::_,[],_,_,h,_,_=>by cases h
 | j::tg,w::t,η,η1,h,i,hi=>by
  rw [cA (show aM tg t (put η j w)=some η1 from h) i fun z=>hi (a0c _ z),aH,if_neg fun z=>hi (by rw [z.1]; exact a0d)]
structure CSt (K:a0a)(sf:Nat->Option Nat)(val:Nat->Option V)(σ:L2.St)(tg:List Nat)(f:Env->Res (Option W×Env))(ts:List (List W))(η0:Env)(us:List W)(η3:Env)(Z1:Fp)(H1:Hp)(F1:Fp)(i:Nat)(ys:List V)(H:Hp):Prop where
 ex:∃ (Z:Fp) (Fs:Fps) (η:Env) (acc:List W) (G:Fp),At K ⟨sf,val⟩ σ Z H Fs η G/\RepW K Z H acc ys G/\ay tg f (ts.drop i) η acc=.ok (us,η3)/\(∀ j∈tg,rd η j=none)/\(∀ j∈tg,∀ a,¬ Fs j a)/\Nn η0 η/\Step Z1 H1 F1 Z H (fun a=>tot Fs a\/G a)
 len:ys.length<=i
theorem i7 {h:Bool}{us:List W}{ys:List V}{w:W}{Q:VK}(o:Own Z H G)(za:∀ a,Z a->H a≠none)(r:RepW K Z H us ys G)(hl:ys.length<=LIM)(hn:(if h then (if us.all okD then some ((.d,.lst (aI us)):W) else none) else some (.o .s,.lst (aI us)))=some w)(k:Out K Z H G w Q):∀ p,H p=none->Q (.ref p) (upd H p (.lst ys)):=by
 intro p hp
 cases h with
 | true =>
  rw [if_pos rfl] at hn
  split at hn
  ·rename_i ha
   cases hn
   rw [a0A] at ha
   obtain ⟨G',g1,g2⟩:=RepW.to (N:=.d) (fun u hu=>by
    have:=ha u hu
    unfold okD at this
    rw [a3m] at this
    unfold M.lf
    split
    ·rfl
    ·rename_i hnl
     rcases this with z | z
     ·rw [eq_of_beq z]; rfl
     ·exact absurd z hnl) r
   exact bo (m:=.d) o za g1 hl g2 (by simp) k hp
  ·cases hn
 | false =>
  rw [if_neg a0n] at hn
  cases hn
  obtain ⟨G',g1,g2⟩:=RepW.to (N:=.s) (fun u hu=>by cases M.lf u.1 u.2<;>rfl) r
  exact bo (m:=.o .s) o za g1 hl g2 (by simp) k hp
end
end MR
namespace MR
open L2 L3 M
open PySem (Addr Str sizeLine)
section
variable {K:a0a}{sf sg:Nat->Option Nat}{C:Call}{tg is:List Nat}
theorem cJ {α:Type}{l:List α}{i:Nat}{a:α}(h:l[i]?=some a):l.drop i=a::l.drop (i+1):=by
 obtain ⟨h1,h2⟩:=a0z.mp h
 rw [a17 h1,h2]
theorem iN {h:Bool}{k:Ik}{f:Env->Res (Option W×Env)}{p:List W×Env}{w:W}{η':Env}(e:de h k tg f p=.ok (w,η')):∃ ts us,a7 k p.1=some ts/\ay tg f ts (ae tg p.2) []=.ok (us,η')/\(if h then (if us.all okD then some ((.d,.lst (aI us)):W) else none) else some (.o .s,.lst (aI us)))=some w:=by
 obtain ⟨⟨ts,η2⟩,h3,h4⟩:=aa (show (ret (ae tg p.2) (a7 k p.1)).bind (fun t=>(ay tg f t.1 t.2 []).bind (eT h))=_ from e)
 obtain ⟨ts',ht,e3⟩:=aq h3
 have e4:ts=ts':=congrArg a3y e3
 have e5:η2=ae tg p.2:=congrArg a1V e3
 subst e4 e5
 obtain ⟨⟨us,η3⟩,h5,h6⟩:=aa (show (ay tg f ts (ae tg p.2) []).bind (eT h)=_ from h4)
 obtain ⟨w',hw,e6⟩:=aq (show ret η3 (if h then (if us.all okD then some ((.d,.lst (aI us)):W) else none) else some (.o .s,.lst (aI us)))=_ from h6)
 have e7:w=w':=congrArg a3y e6
 have e8:η'=η3:=congrArg a1V e6
 subst e7 e8
 exact ⟨ts,us,ht,h5,hw⟩
theorem eU {f:Env->Res (Option W×Env)}{t:List W}{ts:List (List W)}{η η3:Env}{acc us:List W}(e:ay tg f (t::ts) η acc=.ok (us,η3)):∃ ηb o ηc,aM tg t η=some ηb/\f ηb=.ok (o,ηc)/\ay tg f ts (ae tg ηc) (acc++o.toList)=.ok (us,η3):=by
 obtain ⟨η1,h1,h2⟩:=aa (show (ofO (aM tg t η)).bind (fun η1=>(f η1).bind fun p=>ay tg f ts (ae tg p.2) (acc++p.1.toList))=_ from e)
 obtain ⟨⟨o,η2⟩,h3,h4⟩:=aa h2
 exact ⟨η1,o,η2,a9 h1,h3,h4⟩
theorem f9 {n:Nat}{h:Bool}{k:Ik}{src:List E}{f:Env->Res (Option W×Env)}{te:L2.St->Hp->(Option V->Hp->Prop)->Prop}(hn:tg.length=n)(nd:tg.Nodup)(I:c9 sf sg tg is)
  (hf:∀ {η o η'},f η=.ok (o,η')->Nn η η')
  (hte:∀ {val:Nat->Option V} {σ2:L2.St} {Z:Fp} {H:Hp} {Fs:Fps} {η ηc:Env} {R:Fp} {o:Option W} {Q:Option V->Hp->Prop},At K ⟨sg,val⟩ σ2 Z H Fs η R->f η=.ok (o,ηc) ->
   (∀ oy Z' H' Fs' G,At K ⟨sg,val⟩ σ2 Z' H' Fs' ηc (fun c=>R c\/G c)->(match o,oy with | some w,some y=>Rep K Z' H' w.1 w.2 y G | none,none=>True | _,_=>False)->(∀ c,R c->¬ G c)->Step Z H (tot Fs) Z' H' (fun a=>tot Fs' a\/G a)->Q oy H')->te σ2 H Q)
  {e:E} (he:∀ η,evE C e η=(evL C src η).bind (de h k tg f)) (σ:L2.St) (H:Hp) (Q:VK) (hw:wE K sf C e σ H Q) :
  wI K sf C n k src σ H fun J H1=>∃ W:Nat->Nat->List V->Hp->Prop,(∃ m,W 0 m [] H1)/\∀ i m ys H,W i m ys H ->
   (J.stop i H/\ys.length<=sizeLine/\∀ p,H p=none->Q (.ref p) (upd H p (.lst ys))) \/
   (J.go i H/\ys.length < sizeLine/\∀ x H',J.yld i H x H'->gT K n x (a0l n none++aZ σ is) H' fun σ2 H2=>(σ2.length=n+(aZ σ is).length/\σ2.drop n=aZ σ is)/\te σ2 H2 fun oy H3=>∃ m',m' < m/\W (i+1) m' (ys++oy.toList) H3):=by
 obtain ⟨pv,Z,Fs,η,w,η',A,ev,kk⟩:=hw
 rw [he] at ev
 obtain ⟨⟨ws,η1⟩,h1,h2⟩:=aa ev
 obtain ⟨ts,us,ht,h3,h4⟩:=iN h2
 refine ⟨pv,Z,Fs,η,ws,η1,ts,A,h1,ht,fun J Z1 H1 Fs1 A1 s1 wk yl=>?_⟩
 obtain ⟨val,v1,A2,v2⟩:=(A1.dels (tg:=tg)).pin
 have s1':Step Z H (tot Fs) Z1 H1 (tot (ck Fs1 tg)):=s1.mono (fun _ z=>z) fun _ z=>bp z
 refine ⟨fun i m ys H=>m=ts.length-i/\i<=ts.length/\CSt K sf val σ tg f ts (ae tg η1) us η' Z1 H1 (tot (ck Fs1 tg)) i ys H,⟨ts.length,by simp,a0F _,⟨⟨Z1,ck Fs1 tg,ae tg η1,[],no,A2,rfl,h3,fun j hj=>by rw [ai,if_pos hj],fun j hj a ha=>ha.1 hj,Nn.refl _,(Step.refl _ _ _).mono (fun _ z=>z) fun a ha=>ha.elim id fun z=>z.elim⟩,a0h _⟩⟩,?_⟩
 rintro i m ys H0 ⟨rfl,hi,⟨⟨Zi,Fsi,ηi,acc,Ga,Ai,ra,hc,htg,hfp,hnn,si⟩,hlen⟩⟩
 have st:Stay Z1 H1 H0:=A2.gd.own.stay si
 have hL:=wk.len
 by_cases hlt:i < ts.length
 ·right
  refine ⟨wk.go H0 i st hlt,a1C (a0u hlen hi) (dG hL),fun x H2 y=>?_⟩
  have hw:ts[i]?=some ts[i]:=by simp [hlt]
  rw [cJ hw] at hc
  obtain ⟨ηb,o,ηc,hb,hfe,hc2⟩:=eU hc
  refine mX hn nd I si.zm st yl Ai htg hw hb y fun σ2 H3 A3 s3 hσ=>⟨hσ,?_⟩
  refine hte A3 hfe fun oy Z4 H4 Fs4 G4 A4 r4 d4 s4=>⟨ts.length-(i+1),by omega,rfl,hlt,⟨?_,?_⟩⟩
  ·have ra3:RepW K Zi H3 acc ys Ga:=ra.frame bC s3 fun _ _ z=>z
   have ra4:RepW K Z4 H4 acc ys Ga:=ra3.frame A3.gd.own s4 A3.dis
   have vv:∀ j m t,rd (ae tg ηc) j=some (m,t)->val j≠none:=fun j m t e=>by
    rw [ai] at e
    split at e
    ·cases e
    ·rename_i hj
     have n1:rd ηb j≠none:=fun z=>by rw [hf hfe j z] at e; cases e
     rw [cA hb j hj] at n1
     have n2:rd (ae tg η1) j≠none:=fun z=>n1 (hnn j z)
     cases e2:rd (ae tg η1) j with
     | none=>exact absurd e2 n2
     | some u=>exact v2 j u.1 u.2 e2
   have A5:=(A4.dels (tg:=tg)).outof (sf:=sf) (σ:=σ) (val:=val) (fun j hj=>by rw [ai,if_pos hj]) vv Ai.lk Ai.ln
   have s5:Step Z1 H1 (tot (ck Fs1 tg)) Z4 H4 (fun a=>tot (ck Fs4 tg) a\/(Ga a\/G4 a)):=by
    refine (si.trans (((s3.frame (fun a=>tot Fsi a\/Ga a)).mono (fun a ha=>ha.elim (fun z=>z.elim) id) fun a ha=>.inr ha).trans (s4.frame Ga))).mono (fun _ z=>z) fun a ha=>?_
    rcases ha with z | z | z
    ·exact .inl (.inl (bp z))
    ·exact .inr z
    ·exact .inl (.inr z)
   refine ⟨Z4,ck Fs4 tg,ae tg ηc,acc++o.toList,fun c=>Ga c\/G4 c,A5,?_,hc2,fun j hj=>by rw [ai,if_pos hj],fun j hj a ha=>ha.1 hj,fun j e=>?_,s5⟩
   ·cases o with
    | none =>
     cases oy with
     | none=>rw [a1d,a1d,a0w,a0w]; exact ra4.mono fun _ z=>.inl z
     | some _=>exact r4.elim
    | some w4 =>
     cases oy with
     | none=>exact r4.elim
     | some y4=>exact RepW.append (fun _ z=>.inl z) (fun _ z=>.inr z) d4 ra4 (RepW.one r4)
   ·have e':=hnn j e
    rw [ai]
    split
    ·rfl
    ·rename_i hj
     exact hf hfe j (by rw [cA hb j hj]; exact e')
  ·have:ys.length<=i:=hlen
   cases oy<;>simp<;>omega
 ·left
  have hi':i=ts.length:=by omega
  subst hi'
  rw [a1t] at hc
  cases hc
  refine ⟨wk.stop H0 _ st (a0h _),a8 (a0u hlen hL),i7 Ai.own Ai.gd.zal ra (a0u hlen hL) h4 (bN (Ai.unpin v1) (s1'.trans si) kk)⟩
theorem eR {n:Nat}{h:Bool}{k:Ik}{src:List E}{elt:E}(hn:tg.length=n)(nd:tg.Nodup)(I:c9 sf sg tg is)(σ:L2.St)(H:Hp)(Q:VK)(hw:wE K sf C (.comp h k src tg none elt) σ H Q):hW n (wI K sf C n k src) is (gT K n) (wE K sg C elt) σ H Q:=by
 refine f9 (te:=fun σ2 H Q=>wE K sg C elt σ2 H fun y H'=>Q (some y) H') hn nd I (fun {η o η'} hf=>?_) (fun {val σ2 Z H Fs η ηc R o Q} A hf k=>?_) (fun η=>rfl) σ H Q hw
 ·obtain ⟨⟨u,η4⟩,h7,h8⟩:=aa (show (evE C elt η).bind cj=_ from hf)
  cases h8
  exact ah elt h7
 ·obtain ⟨⟨u,η4⟩,h7,h8⟩:=aa (show (evE C elt η).bind cj=_ from hf)
  cases h8
  exact jO A h7 fun v Z' H' Fs' G B r d s _=>k (some v) Z' H' Fs' G B r d s
theorem je {n:Nat}{h:Bool}{k:Ik}{src:List E}{elt cnd:E}(hn:tg.length=n)(nd:tg.Nodup)(I:c9 sf sg tg is)(σ:L2.St)(H:Hp)(Q:VK)(hw:wE K sf C (.comp h k src tg (some cnd) elt) σ H Q):cq n (wI K sf C n k src) is (gT K n) (wT K sg C cnd) (wE K sg C elt) σ H Q:=by
 have main:=f9 (te:=fun σ2 H Q=>wT K sg C cnd σ2 H fun ok H2=>if ok=true then wE K sg C elt σ2 H2 fun y H'=>Q (some y) H' else Q none H2) hn nd I (f:=bE (evE C cnd) (evE C elt)) (fun {η o η'} hf=>by
  obtain ⟨⟨u,η4⟩,h7,h8⟩:=aa (show (evE C cnd η).bind (onT (cu (evE C elt)) (okW none))=_ from hf)
  obtain ⟨d,h9,h10⟩:=a0 h8
  cases d with
  | true =>
   rw [if_pos rfl] at h10
   obtain ⟨⟨u2,η5⟩,h11,h12⟩:=aa (show (evE C elt η4).bind cj=_ from h10)
   cases h12
   exact (ah cnd h7).trans (ah elt h11)
  | false =>
   rw [if_neg a0n] at h10
   cases h10
   exact ah cnd h7) (fun {val σ2 Z H Fs η ηc R o Q} A hf k=>by
  obtain ⟨⟨u,η4⟩,h7,h8⟩:=aa (show (evE C cnd η).bind (onT (cu (evE C elt)) (okW none))=_ from hf)
  obtain ⟨d,h9,h10⟩:=a0 h8
  refine jI A.bare h7 h9 fun Z1 H1 Fs1 A1 s1=>?_
  have A1':=A.frame (A1.mono (G':=no) fun _ z=>z) (s1.mono (fun _ z=>z) fun a ha=>ha.elim id fun z=>z.elim)
  have A2:=A1'.1.mono (G':=R) fun _ z=>.inl z
  cases d with
  | true =>
   rw [if_pos rfl] at h10 ⊢
   obtain ⟨⟨u2,η5⟩,h11,h12⟩:=aa (show (evE C elt η4).bind cj=_ from h10)
   cases h12
   exact jO A2 h11 fun v Z' H' Fs' G B r d s _=>k (some v) Z' H' Fs' G B r d (s1.trans s)
  | false =>
   rw [if_neg a0n] at h10 ⊢
   cases h10
   exact k none Z1 H1 Fs1 no (A2.mono fun _ z=>z.elim id fun q=>q.elim) trivial (fun _ _ z=>z) (s1.mono (fun _ z=>z) fun a ha=>ha.elim id fun z=>z.elim)) (fun η=>rfl) σ H Q hw
 refine (?_:∀ {a b:It->Hp->Prop},(∀ J H1,a J H1->b J H1)->wI K sf C n k src σ H a->wI K sf C n k src σ H b) ?_ main
 ·rintro a b hab ⟨pv,Z,Fs,η,ws,η',ts,A,ev,ht,kk⟩
  exact ⟨pv,Z,Fs,η,ws,η',ts,A,ev,ht,fun J Z' H' Fs' A' s' w' y'=>hab J H' (kk J Z' H' Fs' A' s' w' y')⟩
 ·rintro J H1 ⟨W,w0,turn⟩
  refine ⟨W,w0,fun i m ys H w=>?_⟩
  rcases turn i m ys H w with c | ⟨go,hz,step⟩
  ·exact .inl c
  ·refine .inr ⟨go,hz,fun x H' y=>?_⟩
   have st:=step x H' y
   simp only [a2X,a1d,a0w] at st
   exact st
end
end MR
namespace MR
open L2 L3 M
open PySem (Addr Str sizeLine)
section
variable {K:a0a}{sl:Cf}{sf sg:Nat->Option Nat}{C:Call}{σ σ2:L2.St}{Z Z' Z1:Fp}{H H' H1:Hp}{Fs Fs' Fs1:Fps}{η η' η1 ηb:Env}{G G' G1 R F:Fp}{tg is:List Nat}{pv val:Nat->Option V}
noncomputable def gH (Fs:Fps)(i:Nat)(G:Fp):Fps:=fun j a=>(j=i/\G a)\/(j≠i/\Fs j a)
theorem bu {i:Nat}{a:Addr}(h:tot (gH Fs i G) a):tot Fs a\/G a:=by
 obtain ⟨j,h | h⟩:=h
 ·exact .inr h.2
 ·exact .inl ⟨j,h.2⟩
theorem At.put {i:Nat}{w:W}{x:V}(A:At K sl σ Z H Fs η G)(r:Rep K Z H w.1 w.2 x G1)(h1:∀ a,G1 a->G a)(h2:∀ a,R a->G a)(hd:∀ a,R a->¬ G1 a)(hl:∀ j,sl.sl i=some j->σ[j]?=some (some x))(hp:∀ u,sl.pv i=some u->x=u) :
  At K sl σ Z H (gH Fs i G1) (M.put η i w) R:=by
 refine ⟨⟨fun a h=>(bu h).elim (A.gd.own a) fun q=>A.own a (h1 a q),fun j k a hj hk=>?_,A.gd.zal⟩,fun j m t e=>?_,fun a h=>A.own a (h2 a h),fun a h q=>(bu q).elim (A.dis a (h2 a h)) (hd a h),A.lk,A.ln⟩
 ·rcases hj with ⟨rfl,hj⟩ | ⟨nj,hj⟩
  ·rcases hk with ⟨rfl,_⟩ | ⟨nk,hk⟩
   ·rfl
   ·exact absurd ⟨k,hk⟩ (A.dis a (h1 a hj))
  ·rcases hk with ⟨rfl,hk⟩ | ⟨nk,hk⟩
   ·exact absurd ⟨j,hj⟩ (A.dis a (h1 a hk))
   ·exact A.gd.dis j k a hj hk
 ·rw [aH] at e
  split at e
  ·rename_i hc
   cases e
   obtain ⟨rfl,_⟩:=hc
   exact ⟨x,r.mono fun a h=>.inl ⟨rfl,h⟩,hl,hp⟩
  ·rename_i hc
   obtain ⟨v,r',h'⟩:=A.env j m t e
   by_cases hj:j=i
   ·subst hj
    exact absurd ⟨rfl,bH e⟩ hc
   ·exact ⟨v,r'.mono fun a h=>.inr ⟨hj,h⟩,h'⟩
noncomputable def wA (K:a0a)(sl:Nat->Option Nat)(C:Call)(es:List E):TA:=fun σ H Q=>∃ pv Z Fs η ws η',At K ⟨sl,pv⟩ σ Z H Fs η no/\evA C es η=.ok (ws,η') /\
 ∀ vs Z' H' Fs' G,At K ⟨sl,pv⟩ σ Z' H' Fs' η' G->RepW K Z' H' ws vs G->Step Z H (tot Fs) Z' H' (fun a=>tot Fs' a\/G a)->(∀ (k i:Nat) (u:V),es[k]?=some (.io i)->pv i=some u->vs[k]?=some u)->Q vs H'
theorem xm (σ:L2.St)(H:Hp)(Q:List V->Hp->Prop)(h:wA K sf C [] σ H Q):xD σ H Q:=by
 obtain ⟨pv,Z,Fs,η,ws,η',A,ev,k⟩:=h
 cases ev
 exact k [] Z H Fs no A rfl ((Step.refl _ _ _).mono (fun _ z=>z) fun a ha=>ha.elim id fun z=>z.elim) fun k i u h _=>by simp at h
theorem De {es:List E}{ws:List W}{Q:List V->Hp->Prop}(A:At K sl σ Z H Fs η R)(ev:evA C es η=.ok (ws,η'))
  (k:∀ vs Z' H' Fs' G,At K sl σ Z' H' Fs' η' (fun c=>R c\/G c)->RepW K Z' H' ws vs G->(∀ c,R c->¬ G c)->Step Z H (tot Fs) Z' H' (fun a=>tot Fs' a\/G a) ->
   Step Z H (fun c=>tot Fs c\/R c) Z' H' (fun c=>tot Fs' c\/(R c\/G c))->(∀ (k i:Nat) (u:V),es[k]?=some (.io i)->sl.pv i=some u->vs[k]?=some u)->Q vs H'):wA K sl.sl C es σ H Q :=
 ⟨sl.pv,Z,Fs,η,ws,η',A.bare,ev,fun v Z' H' Fs' G B r s hio=>by
  obtain ⟨h1,h2,h3⟩:=A.frame B s
  exact k v Z' H' Fs' G h1 r h3 s h2 hio⟩
theorem qS {e:E}{es:List E}(he:∀ i,e≠.io i)(σ:L2.St)(H:Hp)(Q:List V->Hp->Prop)(h:wA K sf C (e::es) σ H Q):lP (wE K sf C e) (wA K sf C es) σ H Q:=by
 obtain ⟨pv,Z,Fs,η,ws,η',A,ev,k⟩:=h
 obtain ⟨w,η1,us,h1,h2,rfl⟩:=ez he ev
 refine jO A h1 fun x Z1 H1 Fs1 G1 A1 r1 _ s1 _=>?_
 have A1':=A1.mono (G':=G1) fun _ z=>.inr z
 refine De A1' h2 fun xs Z2 H2 Fs2 G2 A2 r2 d2 s2 t2 hio=>?_
 refine k (x::xs) Z2 H2 Fs2 _ A2 ⟨x,xs,G1,G2,rfl,fun _ z=>.inl z,fun _ z=>.inr z,d2,r1.frame A1.gd.own s2 A1'.dis,r2⟩ (s1.trans t2) fun k i u h hu=>?_
 cases k with
 | zero=>exact absurd (a0v h) (he i)
 | succ k=>exact hio k i u h hu
theorem mx {i j:Nat}{es:List E}(hs:sf i=some j)(σ:L2.St)(H:Hp)(Q:List V->Hp->Prop)(h:wA K sf C (.io i::es) σ H Q):lP (eJ j) (wA K sf C es) σ H Q:=by
 obtain ⟨pv,Z,Fs,η,ws,η',A,ev,k⟩:=h
 obtain ⟨us,η1,w,h1,h2,rfl,rfl⟩:=gy ev
 obtain ⟨m,t⟩:=w
 cases e0:rd η i with
 | none=>rw [cR es h1 i e0] at h2; cases h2
 | some w0 =>
  obtain ⟨v,_,hv⟩:=A.env i w0.1 w0.2 e0
  refine ⟨v,hv.1 j hs,pv,Z,Fs,η,us,η1,A,h1,fun xs Z2 H2 Fs2 G2 A2 r2 s2 hio=>?_⟩
  obtain ⟨v',r,hv'⟩:=A2.env i m t h2
  have ev':v'=v:=by
   have e1:=hv.1 j hs
   rw [hv'.1 j hs] at e1
   exact a0v (a0v e1)
  subst ev'
  have A3:At K ⟨sf,pv⟩ σ Z2 H2 (gB Fs2 i) (del η1 i) (fun a=>Fs2 i a\/G2 a):=by
   refine ⟨⟨fun a ⟨l,h1,h2⟩=>A2.gd.own a ⟨l,h2⟩,fun l l' a h1 h2=>A2.gd.dis l l' a h1.2 h2.2,A2.gd.zal⟩,fun l m' t' e=>?_,fun a ha=>ha.elim (fun z=>A2.gd.own a ⟨i,z⟩) (A2.own a),fun a ha ⟨l,h1,h2⟩=>ha.elim (fun z=>h1 (A2.gd.dis l i a h2 z)) fun z=>A2.dis a z ⟨l,h2⟩,A2.lk,A2.ln⟩
   rw [aH] at e
   split at e
   ·cases e
   ·rename_i hne
    obtain ⟨v'',r',hv''⟩:=A2.env l m' t' e
    have hli:l≠i:=fun z=>hne ⟨z,bH h2⟩
    exact ⟨v'',r'.mono fun a ha=>⟨hli,ha⟩,hv''⟩
  refine k (v'::xs) Z2 H2 (gB Fs2 i) _ A3 ⟨v',xs,Fs2 i,G2,rfl,fun _ z=>.inl z,fun _ z=>.inr z,fun a z y=>A2.dis a y ⟨i,z⟩,r,r2⟩ (s2.mono (fun _ z=>z) fun a ha=>?_) fun k i' u h hu=>?_
  ·rcases ha with ⟨l,_,z⟩ | z | z
   ·exact .inl ⟨l,z⟩
   ·exact .inl ⟨i,z⟩
   ·exact .inr z
  ·cases k with
   | zero=>cases h; rw [<- hv'.2 u hu]; rfl
   | succ k=>exact hio k i' u h hu
noncomputable def atV (io:List Nat)(vs:List V):List V:=io.filterMap fun i=>vs[i]?
noncomputable def spC (K:a0a)(C:Call)(f:Nat)(io:List Nat):List V->Hp->VK->Prop:=fun vs H Q=>∃ Z ws G w bs,RepW K Z H ws vs G/\Own Z H G/\(∀ a,Z a->H a≠none)/\C f ws=.ok (w,bs) /\
 ∀ v Z' H' G1 G2,Rep K Z' H' w.1 w.2 v G1->RepW K Z' H' bs (atV io vs) G2->(∀ a,G1 a->¬ G2 a)->Own Z' H' (fun a=>G1 a\/G2 a)->Step Z H G Z' H' (fun a=>G1 a\/G2 a)->Q v H'
noncomputable def eQ:List E->Nat->List Nat
 | [],_=>[]
 | .io _::es,n=>n::eQ es (n+1)
 | _::es,n=>eQ es (n+1)
theorem vH {vs:List V}:∀ {es:List E} {n:Nat},(∀ (k i:Nat) (u:V),es[k]?=some (.io i)->pv i=some u->vs[n+k]?=some u)->(∀ i∈ios es,pv i≠none)->(ios es).filterMap pv=atV (eQ es n) vs
 | [],_,_,_=>rfl
 | e::es,n,h,hv=>by
  have rest:(∀ i∈ios es,pv i≠none)->(ios es).filterMap pv=atV (eQ es (n+1)) vs:=fun q=>vH (fun k i u hk hu=>by have:=h (k+1) i u hk hu; rw [show n+(k+1)=n+1+k by omega] at this; exact this) q
  cases e with
  | io i =>
   cases hu:pv i with
   | none=>exact absurd hu (hv i (by simp [ios]))
   | some u =>
    have h0:=h 0 i u rfl hu
    rw [a3L] at h0
    show (i::ios es).filterMap pv=(n::eQ es (n+1)).filterMap fun i=>vs[i]?
    rw [a0O,a0O,hu,h0]
    exact congrArg (u::·) (rest fun j hj=>hv j (by simp [ios,hj]))
  | _=>exact rest fun j hj=>hv j hj
theorem At.putAll:∀ {is:List Nat} {bs:List W} {Fs:Fps} {η:Env} {G2:Fp},At K ⟨sf,val⟩ σ Z H Fs η (fun a=>R a\/G2 a)->(∀ a,R a->¬ G2 a)->RepW K Z H bs (is.filterMap val) G2->(∀ i∈is,val i≠none)->∃ Fs',At K ⟨sf,val⟩ σ Z H Fs' (M.putAll is bs η) R/\∀ a,tot Fs' a->tot Fs a\/G2 a
 | [],bs,Fs,η,G2,A,_,_,_=>⟨Fs,A.mono fun _ z=>.inl z,fun _ z=>.inl z⟩
 | i::is,[],Fs,η,G2,A,_,_,_=>⟨Fs,A.mono fun _ z=>.inl z,fun _ z=>.inl z⟩
 | i::is,b::bs,Fs,η,G2,A,hd,r,hv=>by
  cases hu:val i with
  | none=>exact absurd hu (hv i a0d)
  | some u =>
   rw [a0O,hu] at r
   obtain ⟨x,r',A1,A2,e,a1,a2,ad,p,q⟩:=r
   cases e
   have B:=At.put (i:=i) (R:=fun a=>R a\/A2 a) (G1:=A1) A p (fun a h=>.inr (a1 a h)) (fun a h=>h.imp id (a2 a)) (fun a h q=>h.elim (fun z=>hd a z (a1 a q)) fun z=>ad a q z) (fun j hj=>A.lk i u j hu hj) (fun u' hu'=>by rw [show val i=some u' from hu'] at hu; cases hu; rfl)
   obtain ⟨Fs',B1,B2⟩:=At.putAll (is:=is) (bs:=bs) B (fun a h q=>hd a h (a2 a q)) q fun j hj=>hv j (a0c _ hj)
   exact ⟨Fs',B1,fun a h=>(B2 a h).elim (fun z=>(bu z).imp id (a1 a)) fun z=>.inr (a2 a z)⟩
theorem rX {f:Nat}{es:List E}{io:List Nat}(hio:eQ es 0=io\/ios es=[])(σ:L2.St)(H:Hp)(Q:VK)(h:wE K sf C (.call f es) σ H Q):wA K sf C es σ H fun vs H1=>spC K C f io vs H1 Q:=by
 obtain ⟨pv,Z,Fs,η,w,η',A,ev,k⟩:=h
 obtain ⟨⟨ws,η1⟩,h1,h2⟩:=aa (show (evA C es η).bind (eS C f (ios es))=_ from ev)
 obtain ⟨⟨u,bs⟩,h3,h4⟩:=aa (show (C f ws).bind (iA (ios es) η1)=_ from h2)
 cases h4
 obtain ⟨val,v1,A2,v2⟩:=A.pin
 have hvn:∀ i∈ios es,val i≠none:=fun i hi=>by
  cases e:rd η i with
  | none=>exact absurd e (ei es h1 i hi)
  | some q=>exact v2 i q.1 q.2 e
 refine ⟨val,Z,Fs,η,ws,η1,A2,h1,fun vs Z1 H1 Fs1 G B r s hv=>?_⟩
 refine ⟨Z1,ws,G,u,bs,r,B.own,B.gd.zal,h3,fun v Z2 H2 G1 G2 r1 r2 d o st=>?_⟩
 obtain ⟨B2,s2⟩:=B.op o st
 have fin:∃ Fs',At K ⟨sf,val⟩ σ Z2 H2 Fs' (M.putAll (ios es) bs η1) G1/\∀ a,tot Fs' a->tot Fs1 a\/G2 a:=by
  rcases hio with e | e
  ·have e2:=vH (pv:=val) (es:=es) (n:=0) (vs:=vs) (fun k i u' hk hu=>by rw [a2C]; exact hv k i u' hk hu) hvn
   rw [e] at e2
   rw [<- e2] at r2
   exact At.putAll B2 d r2 hvn
  ·rw [e]
   exact ⟨Fs1,B2.mono fun _ z=>.inl z,fun _ z=>.inl z⟩
 obtain ⟨Fs',B3,hF⟩:=fin
 refine k v Z2 H2 Fs' G1 (B3.unpin v1) r1 ((s.trans s2).mono (fun _ z=>z) fun a ha=>?_)
 rcases ha with z | z
 ·exact (hF a z).imp id .inr
 ·exact .inr (.inl z)
end
end MR
namespace MR
open L2 L3 M
open PySem (Addr Str sizeLine)
section
variable {K:a0a}{sl:Cf}{sf sg:Nat->Option Nat}{C:Call}{σ σ2:L2.St}{Z Z' Z1:Fp}{H H' H1:Hp}{Fs Fs' Fs1:Fps}{η η' η1 ηb:Env}{G G' G1 R F F':Fp}{tg is vs ls:List Nat}{pv val:Nat->Option V}
theorem pV (o:Option W):toS (toS o)=toS o:=by
 cases o with
 | none=>rfl
 | some w=>rfl
theorem fh:∀ (vs:List Nat) (η:Env) (i:Nat),rd (share vs η) i=if i∈vs then toS (rd η i) else rd η i
 | [],η,i=>by simp [share]
 | v::vs,η,i=>by
  show rd (share vs (wr η v (toS (rd η v)))) i=_
  rw [fh vs,aH]
  by_cases h2:i=v
  ·subst h2
   rw [if_pos (show i∈i::vs from a0d)]
   by_cases hl:i < η.length
   ·rw [if_pos (show i=i/\i < η.length from ⟨rfl,hl⟩)]
    split
    ·exact pV _
    ·rfl
   ·have e:rd η i=none:=by
     cases e:rd η i with
     | none=>rfl
     | some w=>exact absurd (bH e) hl
    rw [if_neg (show ¬ (i=i/\i < η.length) from fun h=>hl h.2),e]
    split<;>rfl
  ·rw [if_neg (show ¬ (i=v/\v < η.length) from fun h=>h2 h.1)]
   by_cases h1:i∈vs
   ·rw [if_pos h1,if_pos (a0c _ h1)]
   ·rw [if_neg h1,if_neg (by simp [h1,h2])]
theorem iF:∀ (η:Env) (i:Nat),rd (blank η) i=none
 | [],_=>rfl
 | _::_,0=>rfl
 | _::η,i+1=>iF η i
theorem lh:∀ (vs:List Nat) (η0 η:Env) (i:Nat) (w:W),rd (km vs η0 η) i=some w->rd η i=some w\/(i∈vs/\toS (rd η0 i)=some w)
 | [],_,_,_,_,h=>.inl h
 | v::vs,η0,η,i,w,h=>by
  rcases lh vs η0 (wr η v (toS (rd η0 v))) i w h with e | e
  ·rw [aH] at e
   split at e
   ·rename_i hc; obtain ⟨rfl,_⟩:=hc; exact .inr ⟨a0d,e⟩
   ·exact .inl e
  ·exact .inr ⟨a0c _ e.1,e.2⟩
theorem jt:∀ (vs:List Nat) (η0 η:Env) (i:Nat) (w:W),rd (fA vs η0 η) i=some w->rd η i=some w\/lfO (rd η0 i)=some w
 | [],_,_,_,_,h=>.inl h
 | v::vs,η0,η,i,w,h=>by
  rcases jt vs η0 (wr η v (lfO (rd η0 v))) i w h with e | e
  ·rw [aH] at e
   split at e
   ·rename_i hc; obtain ⟨rfl,_⟩:=hc; exact .inr e
   ·exact .inl e
  ·exact .inr e
theorem sE {i:Nat}{w:W}(h:rd (cM vs ls η) i=some w):∃ m t,rd η i=some (m,t)/\((i∈vs/\w=(.s,t))\/(t.leaf=true/\w=(.d,t))):=by
 rcases jt ls η _ i w h with e | e
 ·rcases lh vs η _ i w e with e | ⟨hi,e⟩
  ·rw [iF] at e; cases e
  ·cases q:rd η i with
   | none=>rw [q] at e; cases e
   | some u=>rw [q] at e; cases e; exact ⟨u.1,u.2,rfl,.inl ⟨hi,rfl⟩⟩
 ·cases q:rd η i with
  | none=>rw [q] at e; cases e
  | some u =>
   rw [q] at e
   obtain ⟨m,t⟩:=u
   have e':(if t.leaf=true then some ((.d,t):W) else none)=some w:=e
   split at e'
   ·rename_i hl; cases e'; exact ⟨m,t,rfl,.inr ⟨hl,rfl⟩⟩
   ·cases e'
noncomputable def b7 (Fs:Fps)(vs:List Nat):Fp:=fun a=>∃ i,i∈vs/\Fs i a
noncomputable def nE:Fps:=fun _ _=>False
theorem bW {a:Addr}(h:b7 Fs vs a):tot Fs a:=let ⟨i,_,h⟩:=h; ⟨i,h⟩
theorem gr {a:Addr}(h:tot nE a):False:=let ⟨_,h⟩:=h; h
theorem At.quiet (A:At K sl σ Z H Fs η no):At K sl σ (fun a=>Z a\/b7 Fs vs a) H nE (cM vs ls η) no:=by
 refine ⟨⟨fun a h=>(gr h).elim,fun _ _ _ h=>h.elim,fun a h=>h.elim (A.gd.zal a) fun q=>?_⟩,fun i m t e=>?_,bC,fun _ z=>z.elim,A.lk,A.ln⟩
 ·obtain ⟨_,xs,e⟩:=A.gd.own a (bW q)
  rw [e]; simp
 ·obtain ⟨m',t',e1,e2⟩:=sE e
  obtain ⟨v,r,h⟩:=A.env i m' t' e1
  rcases e2 with ⟨hi,e2⟩ | ⟨hl,e2⟩
  ·cases e2
   exact ⟨v,(r.sh.zmono fun a h=>h.imp id fun q=>⟨i,hi,q⟩).sany,h⟩
  ·cases e2
   exact ⟨v,r.leaf (fun _ _ _ q=>q) hl,h⟩
mutual
theorem Rep.dany:∀ {t:T} {v:V} {G:Fp},Rep K Z H .d t v G->Rep K Z' H .d t v G
 | .non,_,_,h=>h
 | .bl _,_,_,h=>h
 | .int _,_,_,h=>h
 | .str _,_,_,h=>h
 | .scr _,_,_,h=>h
 | .tup ts,_,_,⟨a,xs,e,q,l,r⟩=>⟨a,xs,e,q,l,RepL.dany r⟩
 | .lst ts,_,_,⟨a,xs,e,l,q,r⟩=>⟨a,xs,e,l,q,RepL.dany r⟩
 | .dct _ _,_,_,⟨a,xs,e,l,q,n,hl,r⟩=>⟨a,xs,e,l,q,n,hl,RepL.dany r⟩
 | .ins _ _ _,_,_,h=>h.elim
 | .gone,_,_,h=>h
theorem RepL.dany:∀ {ts:List T} {xs:List V} {G:Fp},RepL K Z H .d ts xs G->RepL K Z' H .d ts xs G
 | [],_,_,h=>h
 | t::ts,xs,_,⟨x,r,G1,G2,e,h1,h2,hd,p,q⟩=>⟨x,r,G1,G2,e,h1,h2,hd,Rep.dany p,RepL.dany q⟩
end
theorem cU (A:At K sl σ Z H Fs η no)(B:Own Z' H' G)(zal:∀ a,Z' a->H' a≠none)(s:Step (fun a=>Z a\/b7 Fs vs a) H F Z' H' (fun a=>F' a\/G a))(hF:∀ a,¬ F a) :
  At K sl σ (fun a=>Z' a/\¬ b7 Fs vs a) H' Fs η G/\Step Z H (tot Fs) (fun a=>Z' a/\¬ b7 Fs vs a) H' (fun a=>tot Fs a\/G a):=by
 have keep:∀ a o,H a=some o->H' a=some o:=fun a o e=>s.keep a o e (hF a)
 have zz:∀ a,Z a->Z' a/\¬ b7 Fs vs a:=fun a h=>⟨s.zm a (.inl h),fun q=>(A.gd.own a (bW q)).1 h⟩
 have nz:∀ a,tot Fs a->¬ (Z' a/\¬ b7 Fs vs a):=fun a h q=>by
  obtain ⟨nz,xs,e⟩:=A.gd.own a h
  rcases s.zn a q.1 with z | z | z
  ·exact z.elim nz q.2
  ·exact hF a z
  ·rw [e] at z; cases z
 have gd:∀ a,G a->¬ tot Fs a:=fun a h q=>by
  obtain ⟨_,xs,e⟩:=A.gd.own a q
  rcases s.fn a (.inr h) with z | z
  ·exact hF a z
  ·rw [e] at z; cases z
 refine ⟨⟨⟨fun a h=>?_,A.gd.dis,fun a h=>zal a h.1⟩,fun i m t e=>?_,fun a h=>⟨fun q=>(B a h).1 q.1,(B a h).2⟩,gd,A.lk,A.ln⟩,⟨fun a o e _=>keep a o e,zz,fun a h=>?_,fun a h=>?_,s.al,fun _ a h=>zal a h.1⟩⟩
 ·obtain ⟨_,xs,e⟩:=A.gd.own a h
  exact ⟨nz a h,xs,keep a _ e⟩
 ·obtain ⟨v,r,h⟩:=A.env i m t e
  refine ⟨v,r.keep ⟨fun a o _ e=>keep a o e,fun a xs e=>?_,fun a o u e=>keep a _ e⟩ zz fun a o _ e=>keep a o e,h⟩
  rcases e with e | ⟨u,e⟩
  ·exact .inl (keep a _ e)
  ·exact .inr ⟨u,keep a _ e⟩
 ·rcases s.zn a h.1 with z | z | z
  ·exact z.elim .inl fun q=>absurd q h.2
  ·exact (hF a z).elim
  ·exact .inr (.inr z)
 ·rcases h with h | h
  ·exact .inl h
  ·exact (s.fn a (.inr h)).elim (fun z=>(hF a z).elim) .inr
theorem At.share (A:At K sl σ Z H Fs η G):At K sl σ (fun a=>Z a\/b7 Fs vs a) H (ck Fs vs) (M.share vs η) G/\∀ {Z0 H0 F0},Step Z0 H0 F0 Z H (fun a=>tot Fs a\/G a)->Step Z0 H0 F0 (fun a=>Z a\/b7 Fs vs a) H (fun a=>tot (ck Fs vs) a\/G a):=by
 refine ⟨⟨⟨fun a h=>?_,fun i j a h1 h2=>A.gd.dis i j a h1.2 h2.2,fun a h=>h.elim (A.gd.zal a) fun q=>?_⟩,fun i m t e=>?_,fun a h=>⟨fun z=>z.elim (A.own a h).1 fun q=>A.dis a h (bW q),(A.own a h).2⟩,fun a h q=>A.dis a h (bp q),A.lk,A.ln⟩,fun {Z0 H0 F0} s=>⟨s.keep,fun a h=>.inl (s.zm a h),fun a h=>h.elim (s.zn a) fun q=>.inr (s.fn a (.inl (bW q))),fun a h=>s.fn a (h.imp bp id),s.al,fun z a h=>h.elim (s.za z a) fun q=>?_⟩⟩
 ·obtain ⟨i,hi,h'⟩:=h
  obtain ⟨nz,xs,e⟩:=A.gd.own a ⟨i,h'⟩
  exact ⟨fun z=>z.elim nz fun ⟨j,hj,q⟩=>hi (A.gd.dis i j a h' q ▸ hj),xs,e⟩
 ·obtain ⟨_,xs,e⟩:=A.gd.own a (bW q)
  rw [e]; simp
 ·rw [fh] at e
  split at e
  ·rename_i hi
   cases q:rd η i with
   | none=>rw [q] at e; cases e
   | some u =>
    rw [q] at e; cases e
    obtain ⟨v,r,h⟩:=A.env i u.1 u.2 q
    exact ⟨v,(r.sh.zmono fun a h=>h.imp id fun q=>⟨i,hi,q⟩).sany,h⟩
  ·rename_i hi
   obtain ⟨v,r,h⟩:=A.env i m t e
   exact ⟨v,(r.zmono fun a h=>.inl h).mono fun a h=>⟨hi,h⟩,h⟩
 ·obtain ⟨_,xs,e⟩:=A.gd.own a (bW q)
  rw [e]; simp
theorem gK {x:X}{e:E}{w:W}{Q:VK}(A:At K sl σ Z H Fs η no)(ev:evX C x e η=.ok (w,η'))(k:∀ v Z' H' Fs' G,At K sl σ Z' H' Fs' η' G->Rep K Z' H' w.1 w.2 v G->Step Z H (tot Fs) Z' H' (fun a=>tot Fs' a\/G a)->Q v H'):wE K sl.sl C e σ H Q:=by
 cases x with
 | q vs ls =>
  obtain ⟨⟨u,η2⟩,h1,h2⟩:=aa (show (evE C e (cM vs ls η)).bind (kX vs η)=_ from ev)
  cases h2
  generalize hm0:M.lf u.1 u.2=m0 at k
  refine ⟨sl.pv,_,nE,_,_,η2,A.quiet (vs:=vs) (ls:=ls),h1,fun v Z' H' Fs' G B r0 s=>?_⟩
  have r:=r0.lf
  rw [hm0] at r
  obtain ⟨B1,s1⟩:=cU A B.own B.gd.zal s fun a h=>gr h
  have other:Q v H'\/m0=.d:=by
   by_cases hd:m0=.d
   ·exact .inr hd
   ·refine .inl ?_
    have e':after m0 vs η=share vs η:=by
     cases hm:m0 with
     | d=>exact absurd hm hd
     | s=>rfl
     | o m=>rfl
    obtain ⟨B2,s2⟩:=B1.share (vs:=vs)
    have zz:∀ a,(Z' a/\¬ b7 Fs vs a)\/b7 Fs vs a->Z' a:=fun a h=>h.elim a2V fun q=>s.zm a (.inr q)
    have zz':∀ a,Z' a->(Z' a/\¬ b7 Fs vs a)\/b7 Fs vs a:=fun a h=>(a3M (b7 Fs vs a)).elim .inr fun q=>.inl ⟨h,q⟩
    exact k v _ H' _ G (e' ▸ B2) (r.zmono zz') (s2 s1)
  rcases other with q | hd
  ·exact q
  ·have e':after m0 vs η=η:=by rw [hd]; rfl
   refine k v _ H' Fs G (e'.symm ▸ B1) ?_ s1
   subst hd
   exact r.dany
 | l vs =>
  obtain ⟨B,s0⟩:=A.share (vs:=vs)
  have s1:=s0 ((Step.refl Z H (tot Fs)).mono (F2:=fun a=>tot Fs a\/no a) (fun _ z=>z) fun a h=>h.elim id fun z=>z.elim)
  refine ⟨sl.pv,_,_,_,w,η',B,ev,fun v Z' H' Fs' G B' r s=>k v Z' H' Fs' G B' r ((s1.mono (fun _ z=>z) fun a h=>.inl h).trans s)⟩
theorem Cu {x:X}{e:E}{b:Bool}{Q:Bool->Hp->Prop}(A:At K sl σ Z H Fs η no)(ev:evT C x e η=.ok (b,η'))(k:∀ Z' H' Fs',At K sl σ Z' H' Fs' η' no->Step Z H (tot Fs) Z' H' (tot Fs')->Q b H'):wT K sl.sl C e σ H Q:=by
 cases x with
 | q vs ls =>
  obtain ⟨⟨u,η2⟩,h1,h2⟩:=aa (show (evE C e (cM vs ls η)).bind (kT η)=_ from ev)
  obtain ⟨b',h3,e3⟩:=aq (show ret η (a6 u.2)=_ from h2)
  cases e3
  refine ⟨sl.pv,_,nE,_,u,η2,b,A.quiet (vs:=vs) (ls:=ls),h1,h3,fun Z' H' Fs' B s=>?_⟩
  obtain ⟨B1,s1⟩:=cU (G:=no) A bC B.gd.zal (s.mono (F2:=fun a=>tot Fs' a\/no a) (fun _ z=>z) fun a h=>h.elim id fun z=>z.elim) fun a h=>gr h
  exact k _ H' Fs B1 (s1.mono (fun _ z=>z) fun a h=>.inl h)
 | l vs =>
  obtain ⟨⟨u,η2⟩,h1,h2⟩:=aa (show (evE C e (M.share vs η)).bind kT2=_ from ev)
  obtain ⟨b',h3,e3⟩:=aq (show ret η2 (a6 u.2)=_ from h2)
  cases e3
  obtain ⟨B,s0⟩:=A.share (vs:=vs)
  have s1:=s0 ((Step.refl Z H (tot Fs)).mono (F2:=fun a=>tot Fs a\/no a) (fun _ z=>z) fun a h=>h.elim id fun z=>z.elim)
  exact ⟨sl.pv,_,_,_,u,_,b,B,h1,h3,fun Z' H' Fs' B' s=>k Z' H' Fs' B' ((s1.mono (fun _ z=>z) fun a h=>.inl h).trans s)⟩
end
end MR
namespace MR
open L2 L3 M
open PySem (Addr Str sizeLine)
section
variable {K:a0a}{sl:Cf}{sf sg:Nat->Option Nat}{C:Call}{σ σ2:L2.St}{Z Z' Z1:Fp}{H H' H1:Hp}{Fs Fs' Fs1:Fps}{η η' η1 ηb:Env}{G G' G1 R F F':Fp}{tg is vs ls io:List Nat}{pv val:Nat->Option V}{D:aT}
noncomputable def Fin (K:a0a)(sl:Cf)(Z:Fp)(H:Hp)(F:Fp)(D:aT):Fl->Prop
 | .nx η'=>∀ σ' Z' H' Fs',At K sl σ' Z' H' Fs' η' no->Step Z H F Z' H' (tot Fs')->D.nx σ' H'
 | .rt w η'=>∀ v σ' Z' H' Fs' G,At K sl σ' Z' H' Fs' η' G->Rep K Z' H' w.1 w.2 v G->Step Z H F Z' H' (fun a=>tot Fs' a\/G a)->D.rt v H'
 | .bk η'=>∀ σ' Z' H' Fs',At K sl σ' Z' H' Fs' η' no->Step Z H F Z' H' (tot Fs')->D.bk σ' H'
 | _=>False
theorem Fin.step {fl:Fl}(s:Step Z H F Z1 H1 F')(h:Fin K sl Z H F D fl):Fin K sl Z1 H1 F' D fl:=by
 cases fl with
 | nx η=>exact fun σ' Z' H' Fs' A t=>h σ' Z' H' Fs' A (s.trans t)
 | rt w η=>exact fun v σ' Z' H' Fs' G A r t=>h v σ' Z' H' Fs' G A r (s.trans t)
 | bk η=>exact fun σ' Z' H' Fs' A t=>h σ' Z' H' Fs' A (s.trans t)
 | _=>exact h.elim
structure mZ (sf:Nat->Option Nat)(io:List Nat)(pv:Nat->Option V):Prop where
 inj:∀ i i' j,sf i=some j->sf i'=some j->i=i'
 io:∀ i,i ∉ io->pv i=none
noncomputable def wS (K:a0a)(sf:Nat->Option Nat)(io:List Nat)(C:Call)(st:S):TS:=fun D σ H=>∃ pv Z Fs η,mZ sf io pv/\At K ⟨sf,pv⟩ σ Z H Fs η no/\Fin K ⟨sf,pv⟩ Z H (tot Fs) D (evS C st η)
noncomputable def wSs (K:a0a)(sf:Nat->Option Nat)(io:List Nat)(C:Call)(st:List S):TS:=fun D σ H=>∃ pv Z Fs η,mZ sf io pv/\At K ⟨sf,pv⟩ σ Z H Fs η no/\Fin K ⟨sf,pv⟩ Z H (tot Fs) D (evSs C st η)
theorem qW (D:aT)(σ:L2.St)(H:Hp)(h:wSs K sf io C [] D σ H):vM D σ H:=by
 obtain ⟨pv,Z,Fs,η,N,A,f⟩:=h
 exact f σ Z H Fs A (Step.refl _ _ _)
theorem oN {s:S}{r:List S}(D:aT)(σ:L2.St)(H:Hp)(h:wSs K sf io C (s::r) D σ H):Cc (wS K sf io C s) (wSs K sf io C r) D σ H:=by
 obtain ⟨pv,Z,Fs,η,N,A,f⟩:=h
 refine ⟨pv,Z,Fs,η,N,A,?_⟩
 have f':Fin K ⟨sf,pv⟩ Z H (tot Fs) D (Fl.seq (evS C s η) (evSs C r)):=f
 cases e:evS C s η with
 | nx η1 =>
  rw [e] at f'
  exact fun σ' Z' H' Fs' A' t=>⟨pv,Z',Fs',η1,N,A',f'.step t⟩
 | rt w η1=>rw [e] at f'; exact f'
 | bk η1=>rw [e] at f'; exact f'
 | ex c x η1=>rw [e] at f'; exact f'.elim
 | no=>rw [e] at f'; exact f'.elim
theorem uR {s:S}(D:aT)(σ:L2.St)(H:Hp)(h:wSs K sf io C [s] D σ H):wS K sf io C s D σ H:=by
 obtain ⟨pv,Z,Fs,η,N,A,f⟩:=h
 refine ⟨pv,Z,Fs,η,N,A,?_⟩
 have f':Fin K ⟨sf,pv⟩ Z H (tot Fs) D (Fl.seq (evS C s η) (evSs C [])):=f
 cases e:evS C s η with
 | nx η1=>rw [e] at f'; exact f'
 | rt w η1=>rw [e] at f'; exact f'
 | bk η1=>rw [e] at f'; exact f'
 | ex c x η1=>rw [e] at f'; exact f'.elim
 | no=>rw [e] at f'; exact f'.elim
theorem aS {α:Type}{r:Res α}{g:α->Fl}(f:Fin K sl Z H F D (Fl.of η r g)):∃ a,r=.ok a/\Fin K sl Z H F D (g a):=by
 cases r with
 | ok a=>exact ⟨a,rfl,f⟩
 | ex c x=>exact f.elim
 | no=>exact f.elim
theorem bM {o:Option Env}(f:Fin K sl Z H F D (nxO η o)):∃ η',o=some η'/\Fin K sl Z H F D (.nx η'):=by
 cases o with
 | some a=>exact ⟨a,rfl,f⟩
 | none=>exact f.elim
theorem At.setR {i j:Nat}{w:W}{x:V}(N:mZ sf io pv)(hi:i ∉ io)(hs:sf i=some j)(A:At K ⟨sf,pv⟩ σ Z H Fs η G)(r:Rep K Z H w.1 w.2 x G1)(q1:∀ a,G1 a->G a)(q2:∀ a,R a->G a)(q3:∀ a,R a->¬ G1 a):At K ⟨sf,pv⟩ (σ.set j (some x)) Z H (gH Fs i G1) (M.put η i w) R:=by
 have hj:j < σ.length:=A.ln i j hs
 have B:At K ⟨fun k=>if k=i then none else sf k,pv⟩ (σ.set j (some x)) Z H Fs (M.del η i) G:=by
  refine ⟨A.gd,fun l m t e=>?_,A.own,A.dis,fun l u k hu hk=>?_,fun l k hk=>?_⟩
  ·rw [aH] at e
   split at e
   ·cases e
   ·rename_i hne
    obtain ⟨v,r',h1,h2⟩:=A.env l m t e
    have hl:l≠i:=fun z=>hne ⟨z,by rw [<- z]; exact bH e⟩
    refine ⟨v,r',fun k hk=>?_,h2⟩
    have hk':sf l=some k:=by have:(if l=i then none else sf l)=some k:=hk; rw [if_neg hl] at this; exact this
    have hjk:j≠k:=fun z=>hl (N.inj l i k hk' (by rw [<- z]; exact hs))
    rw [a0S hjk]
    exact h1 k hk'
  ·have hl:l≠i:=fun z=>by
    have hu':pv l=some u:=hu
    rw [z,N.io i hi] at hu'; cases hu'
   have hk':sf l=some k:=by have:(if l=i then none else sf l)=some k:=hk; rw [if_neg hl] at this; exact this
   have hjk:j≠k:=fun z=>hl (N.inj l i k hk' (by rw [<- z]; exact hs))
   rw [a0S hjk]
   exact A.lk l u k hu hk'
  ·have hk':sf l=some k:=by
    have:(if l=i then none else sf l)=some k:=hk
    split at this
    ·cases this
    ·exact this
   rw [a0D]
   exact A.ln l k hk'
 have B2:=At.put (i:=i) (w:=w) (G1:=G1) (R:=R) B r q1 q2 q3 (fun k hk=>by have hk':(if i=i then none else sf i)=some k:=hk; rw [if_pos rfl] at hk'; cases hk') (fun u hu=>by have:=N.io i hi; rw [show pv i=some u from hu] at this; cases this)
 have e1:M.put (M.del η i) i w=M.put η i w:=by
  have:∀ (η:Env) (i:Nat) (a b:Option W),wr (wr η i a) i b=wr η i b:=fun η=>by
   induction η with
   | nil=>intro i a b; rfl
   | cons o η ih=>intro i a b; cases i with
    | zero=>rfl
    | succ i=>show o::wr (wr η i a) i b=o::wr η i b; rw [ih]
  exact this η i none (some w)
 rw [e1] at B2
 refine ⟨B2.gd,fun l m t e=>?_,B2.own,B2.dis,fun l u k hu hk=>?_,fun l k hk=>by rw [a0D]; exact A.ln l k hk⟩
 ·obtain ⟨v,r',h1,h2⟩:=B2.env l m t e
  by_cases hl:l=i
  ·subst hl
   rw [aH] at e
   split at e
   ·cases e
    refine ⟨x,r.mono fun a h=>.inl ⟨rfl,h⟩,fun k hk=>?_,fun u hu=>by have:=N.io l hi; rw [show pv l=some u from hu] at this; cases this⟩
    have:k=j:=by rw [show sf l=some k from hk] at hs; cases hs; rfl
    subst this
    rw [a1b hj]
   ·rename_i hc
    exact absurd ⟨rfl,bH e⟩ hc
  ·refine ⟨v,r',fun k hk=>h1 k ?_,h2⟩
   show (if l=i then none else sf l)=some k
   rw [if_neg hl]; exact hk
 ·by_cases hl:l=i
  ·subst hl
   have:=N.io l hi
   rw [show pv l=some u from hu] at this; cases this
  ·exact B2.lk l u k hu (show (if l=i then none else sf l)=some k by rw [if_neg hl]; exact hk)
theorem At.set {i j:Nat}{w:W}{x:V}(N:mZ sf io pv)(hi:i ∉ io)(hs:sf i=some j)(A:At K ⟨sf,pv⟩ σ Z H Fs η G)(r:Rep K Z H w.1 w.2 x G):At K ⟨sf,pv⟩ (σ.set j (some x)) Z H (gH Fs i G) (M.put η i w) no:=At.setR N hi hs A r (fun _ h=>h) (fun _ z=>z.elim) (fun _ z=>z.elim)
theorem j4 {x:X}{i j:Nat}{e:E}(hi:i ∉ io)(hs:sf i=some j)(D:aT)(σ:L2.St)(H:Hp)(h:wS K sf io C (.asg x i e) D σ H):mq (wE K sf C e) (bZ j) D σ H:=by
 obtain ⟨pv,Z,Fs,η,N,A,f⟩:=h
 obtain ⟨⟨w,η1⟩,h1,h2⟩:=aS (show Fin K ⟨sf,pv⟩ Z H (tot Fs) D (Fl.of η (evX C x e η) (uP i)) from f)
 refine gK (sl:=⟨sf,pv⟩) A h1 fun v Z' H' Fs' G B r s=>?_
 exact h2 _ Z' H' _ (At.set N hi hs B r) (s.mono (fun _ z=>z) fun a ha=>bu ha)
theorem wc {x:X}{e:E}(D:aT)(σ:L2.St)(H:Hp)(h:wS K sf io C (.exp x e) D σ H):nY (wE K sf C e) D σ H:=by
 obtain ⟨pv,Z,Fs,η,N,A,f⟩:=h
 obtain ⟨⟨w,η1⟩,h1,h2⟩:=aS (show Fin K ⟨sf,pv⟩ Z H (tot Fs) D (Fl.of η (evX C x e η) kNx) from f)
 exact gK (sl:=⟨sf,pv⟩) A h1 fun v Z' H' Fs' G B r s=>h2 σ Z' H' Fs' B.bare (s.mono (fun _ z=>z) fun a ha=>.inl ha)
theorem xa {e:E}(D:aT)(σ:L2.St)(H:Hp)(h:wS K sf io C (.ret vs e) D σ H):Ct (wE K sf C e) D σ H:=by
 obtain ⟨pv,Z,Fs,η,N,A,f⟩:=h
 obtain ⟨⟨w,η1⟩,h1,h2⟩:=aS (show Fin K ⟨sf,pv⟩ Z H (tot Fs) D (Fl.of η (evE C e (M.share vs η)) kRt) from f)
 exact gK (sl:=⟨sf,pv⟩) (x:=.l vs) A h1 fun v Z' H' Fs' G B r s=>h2 v σ Z' H' Fs' G B r s
theorem wG {x:X}{c:E}{a b:List S}(D:aT)(σ:L2.St)(H:Hp)(h:wS K sf io C (.ite x c a b) D σ H):zO (wT K sf C c) (wSs K sf io C a) (wSs K sf io C b) D σ H:=by
 obtain ⟨pv,Z,Fs,η,N,A,f⟩:=h
 obtain ⟨⟨k,η1⟩,h1,h2⟩:=aS (show Fin K ⟨sf,pv⟩ Z H (tot Fs) D (Fl.of η (evT C x c η) (kIf (evSs C a) (evSs C b))) from f)
 refine Cu (sl:=⟨sf,pv⟩) A h1 fun Z' H' Fs' B s=>?_
 cases k with
 | true=>rw [if_pos rfl]; exact ⟨pv,Z',Fs',η1,N,B,Fin.step s h2⟩
 | false=>rw [if_neg a0n]; exact ⟨pv,Z',Fs',η1,N,B,Fin.step s h2⟩
theorem bj {m:Md}{ts:List T}{v:V}(hm:m≠.s)(r:Rep K Z H m (.lst ts) v G):∃ a xs,v=.ref a/\xs.length<=LIM/\G a/\H a=some (.lst xs)/\RepL K Z H m.kid ts xs (fun b=>G b/\b≠a):=by
 obtain ⟨a,xs,e,l,q,p⟩:=r
 rw [LstR.own hm] at q
 exact ⟨a,xs,e,l,q.1,q.2,p⟩
theorem lB {i:Nat}{a:Addr}{ts':List T}{xs':List V}{m':Md}(hm:m'≠.s)(A:At K ⟨sf,pv⟩ σ Z H Fs η G){w0:W}(hi:rd η i=some w0)(ha:Fs i a)(hx:∀ j,sf i=some j->σ[j]?=some (some (.ref a)))(hl:xs'.length<=LIM)(hpv:∀ u,pv i=some u->V.ref a=u)
  (hg:∀ b,G' b->(Fs i b\/G b)/\b≠a) (hR:∀ b,R b->(Fs i b\/G b)/\b≠a) (hRG:∀ b,R b->¬ G' b) (p:RepL K (fun b=>Z b\/((Fs i b\/G b)/\b≠a/\¬ G' b/\¬ R b)) H m'.kid ts' xs' G') {Q:Hp->Prop}
  (k:∀ Z' Fs',At K ⟨sf,pv⟩ σ Z' (upd H a (.lst xs')) Fs' (M.put η i (m',.lst ts')) R->Step Z H (fun b=>tot Fs b\/G b) Z' (upd H a (.lst xs')) (fun b=>tot Fs' b\/R b)->(∀ {m t v},Rep K (fun b=>Z b\/((Fs i b\/G b)/\b≠a/\¬ G' b/\¬ R b)) H m t v R->Rep K Z' (upd H a (.lst xs')) m t v R)->Q (upd H a (.lst xs'))):Q (upd H a (.lst xs')):=by
 have hta:tot Fs a:=⟨i,ha⟩
 obtain ⟨nza,ys,hya⟩:=A.gd.own a hta
 have nGa:¬ G a:=fun q=>A.dis a q hta
 have zdef:∀ b,(Z b\/((Fs i b\/G b)/\b≠a/\¬ G' b/\¬ R b))->b≠a:=fun b h z=>by
  subst z
  rcases h with h | h
  ·exact nza h
  ·exact h.2.1 rfl
 have keep:∀ b o,H b=some o->b≠a->upd H a (.lst xs') b=some o:=fun b o e hb=>by rw [ab hb]; exact e
 have neT:∀ b xs,H b=some (.tup xs)->b≠a:=fun b xs e z=>by rw [z,hya] at e; exact gM e.symm
 have neF:∀ b o u,H b=some (.frz o u)->b≠a:=fun b o u e z=>by rw [z,hya] at e; exact cQ e.symm
 have stay:∀ {Y:Fp},(∀ b,Y b->b≠a)->Stay Y H (upd H a (.lst xs')):=fun {Y} hY=>⟨fun b o hb e=>keep b o e (hY b hb),fun b xs e=>by
  rcases e with e | ⟨u,e⟩
  ·exact .inl (keep b _ e (neT b xs e))
  ·exact .inr ⟨u,keep b _ e (neF b u _ e)⟩,fun b o u e=>keep b _ e (neF b o u e)⟩
 have al:∀ b,H b≠none->upd H a (.lst xs') b≠none:=fun b h=>by
  by_cases e:b=a
  ·rw [e,ag]; simp
  ·rw [ab e]; exact h
 have zal':∀ b,(Z b\/((Fs i b\/G b)/\b≠a/\¬ G' b/\¬ R b))->H b≠none:=fun b h=>by
  rcases h with h | ⟨h | h,_⟩
  ·exact A.gd.zal b h
  ·obtain ⟨_,zs,e⟩:=A.gd.own b ⟨i,h⟩; rw [e]; simp
  ·obtain ⟨_,zs,e⟩:=A.own b h; rw [e]; simp
 have listAt:∀ b,(tot Fs b\/G b)->∃ zs:OO,upd H a (.lst xs') b=some zs.ho:=fun b h=>by
  by_cases e:b=a
  ·exact ⟨.inl xs',by rw [e,ag]; rfl⟩
  ·rcases h with h | h
   ·obtain ⟨_,zs,q⟩:=A.gd.own b h; exact ⟨zs,by rw [ab e]; exact q⟩
   ·obtain ⟨_,zs,q⟩:=A.own b h; exact ⟨zs,by rw [ab e]; exact q⟩
 have nZ:∀ b,(Fs i b\/G b)->¬ Z b:=fun b h z=>h.elim (fun y=>(A.gd.own b ⟨i,y⟩).1 z) fun y=>(A.own b y).1 z
 have bV:∀ b,tot (gH Fs i fun b=>G' b\/b=a) b->(∃ j,j≠i/\Fs j b)\/G' b\/b=a:=fun b h=>by
  obtain ⟨j,h | h⟩:=h
  ·exact .inr h.2
  ·exact .inl ⟨j,h⟩
 refine k (fun b=>Z b\/((Fs i b\/G b)/\b≠a/\¬ G' b/\¬ R b)) (gH Fs i fun b=>G' b\/b=a) ⟨⟨fun b h=>⟨fun z=>?_,?_⟩,fun j l b hj hk=>?_,fun b h=>al b (zal' b h)⟩,fun l m t e=>?_,fun b h=>⟨fun z=>?_,listAt b ((hR b h).1.imp (fun z=>⟨i,z⟩) id)⟩,fun b h q=>?_,A.lk,A.ln⟩ ⟨fun b o e n=>keep b o e fun z=>n (.inl (z ▸ hta)),fun b h=>.inl h,fun b h=>h.imp id fun q=>.inl (q.1.imp (fun z=>⟨i,z⟩) id),fun b h=>?_,al,fun _ b h=>al b (zal' b h)⟩ fun {m t v} r=>r.keep (stay zdef) (fun _ z=>z) fun b o hb e=>keep b o e (hR b hb).2
 ·rcases bV b h with ⟨j,hj,q⟩ | q | q
  ·rcases z with z | ⟨z | z,_⟩
   ·exact (A.gd.own b ⟨j,q⟩).1 z
   ·exact hj (A.gd.dis j i b q z)
   ·exact A.dis b z ⟨j,q⟩
  ·rcases z with z | z
   ·exact nZ b (hg b q).1 z
   ·exact z.2.2.1 q
  ·exact zdef b z q
 ·rcases bV b h with ⟨j,hj,q⟩ | q | q
  ·exact listAt b (.inl ⟨j,q⟩)
  ·exact listAt b ((hg b q).1.imp (fun z=>⟨i,z⟩) id)
  ·exact ⟨.inl xs',by rw [q,ag]; rfl⟩
 ·have key:∀ {j:Nat},(G' b\/b=a)->Fs j b->j=i:=fun {j} h q=>by
   rcases h with h | h
   ·rcases (hg b h).1 with y | y
    ·exact A.gd.dis j i b q y
    ·exact absurd ⟨j,q⟩ (A.dis b y)
   ·rw [h] at q; exact A.gd.dis j i a q ha
  rcases hj with ⟨rfl,hj⟩ | ⟨nj,hj⟩
  ·rcases hk with ⟨rfl,_⟩ | ⟨nk,hk⟩
   ·rfl
   ·exact absurd (key hj hk) nk
  ·rcases hk with ⟨rfl,hk⟩ | ⟨nk,hk⟩
   ·exact absurd (key hk hj) nj
   ·exact A.gd.dis j l b hj hk
 ·rw [aH] at e
  split at e
  ·rename_i hc
   obtain ⟨rfl,_⟩:=hc
   cases e
   refine ⟨.ref a,⟨a,xs',rfl,hl,(LstR.own hm).mpr ⟨.inl ⟨rfl,.inr rfl⟩,ag⟩,?_⟩,hx,hpv⟩
   exact (p.keep (stay zdef) (fun _ z=>z) fun b o hb e=>keep b o e (hg b hb).2).mono fun b hb=>⟨.inl ⟨rfl,.inl hb⟩,(hg b hb).2⟩
  ·rename_i hc
   have hl':l≠i:=fun z=>hc ⟨z,bH hi⟩
   obtain ⟨v,r,h⟩:=A.env l m t e
   have nea:∀ b,Fs l b->b≠a:=fun b q z=>hl' (A.gd.dis l i a (z ▸ q) ha)
   exact ⟨v,((r.keep (stay fun b hb z=>nza (z ▸ hb)) (fun _ z=>z) fun b o hb e=>keep b o e (nea b hb)).zmono fun b h=>.inl h).mono fun b h=>.inr ⟨hl',h⟩,h⟩
 ·rcases z with z | z
  ·exact nZ b (hR b h).1 z
  ·exact z.2.2.2 h
 ·rcases bV b q with ⟨j,hj,y⟩ | y | y
  ·rcases (hR b h).1 with z | z
   ·exact hj (A.gd.dis j i b y z)
   ·exact A.dis b z ⟨j,y⟩
  ·exact hRG b h y
  ·exact (hR b h).2 y
 ·rcases h with h | h
  ·rcases bV b h with ⟨j,_,q⟩ | q | q
   ·exact .inl (.inl ⟨j,q⟩)
   ·exact .inl ((hg b q).1.imp (fun z=>⟨i,z⟩) id)
   ·exact .inl (.inl (q ▸ hta))
  ·exact .inl ((hR b h).1.imp (fun z=>⟨i,z⟩) id)
theorem change {i:Nat}{a:Addr}{ts':List T}{xs':List V}{m':Md}(hm:m'≠.s)(A:At K ⟨sf,pv⟩ σ Z H Fs η G){w0:W}(hi:rd η i=some w0)(ha:Fs i a)(hx:∀ j,sf i=some j->σ[j]?=some (some (.ref a)))(hl:xs'.length<=LIM)(hpv:∀ u,pv i=some u->V.ref a=u)
  (hg:∀ b,G' b->(Fs i b\/G b)/\b≠a) (p:RepL K (fun b=>Z b\/((Fs i b\/G b)/\b≠a/\¬ G' b)) H m'.kid ts' xs' G') {Q:Hp->Prop}
  (k:∀ Z' Fs',At K ⟨sf,pv⟩ σ Z' (upd H a (.lst xs')) Fs' (M.put η i (m',.lst ts')) no->Step Z H (fun b=>tot Fs b\/G b) Z' (upd H a (.lst xs')) (tot Fs')->Q (upd H a (.lst xs'))):Q (upd H a (.lst xs')) :=
 lB (R:=no) hm A hi ha hx hl hpv hg (fun _ z=>z.elim) (fun _ z=>z.elim) (p.zmono fun b h=>h.imp id fun q=>⟨q.1,q.2.1,q.2.2,fun z=>z⟩) fun Z' Fs' B s _=>k Z' Fs' B (s.mono (fun _ z=>z) fun _ z=>.inl z)
end
end MR
namespace MR
open L2 L3 M
open PySem (Addr Str sizeLine)
section
variable {K:a0a}{sl:Cf}{sf sg:Nat->Option Nat}{C:Call}{σ σ2:L2.St}{Z Z' Z1:Fp}{H H' H1:Hp}{Fs Fs' Fs1:Fps}{η η' η1 ηb:Env}{G G' G1 R F F':Fp}{tg is vs ls io:List Nat}{pv val:Nat->Option V}{D:aT}
theorem iu {o:Option W}{u:Unit}(h:cK o=.ok u):∃ m ts,o=some (m,.lst ts):=by
 cases o with
 | none=>cases h
 | some w =>
  obtain ⟨m,t⟩:=w
  cases t with
  | lst ts=>exact ⟨m,ts,rfl⟩
  | _=>cases h
theorem At.listAt {i j:Nat}{m:Md}{ts:List T}(hs:sf i=some j)(A:At K ⟨sf,pv⟩ σ Z H Fs η G)(h:rd η i=some (m,.lst ts)):∃ a xs,σ[j]?=some (some (.ref a))/\H a=some (.lst xs):=by
 obtain ⟨v,r,hl,_⟩:=A.env i m _ h
 obtain ⟨a,xs,rfl,hx,_⟩:=bG r
 exact ⟨a,xs,hl j hs,hx⟩
theorem At.ourList {i j:Nat}{a:Addr}{m:Md}{ts:List T}(hs:sf i=some j)(hm:m≠.s)(hj:σ[j]?=some (some (.ref a)))(A:At K ⟨sf,pv⟩ σ Z H Fs η G)(h:rd η i=some (m,.lst ts)) :
  ∃ xs,xs.length<=LIM/\Fs i a/\H a=some (.lst xs)/\RepL K Z H m.kid ts xs (fun b=>Fs i b/\b≠a)/\(∀ u,pv i=some u->V.ref a=u):=by
 obtain ⟨v,r,hl,hp⟩:=A.env i m _ h
 have e:=hl j hs
 rw [hj] at e
 cases e
 obtain ⟨b,xs,e,l,g,hx,p⟩:=bj hm r
 cases e
 exact ⟨xs,l,g,hx,p,hp⟩
theorem nO {u w r:W}(h:fD u w=some r):∃ m ts,u=(m,.lst ts)/\m≠.s/\ts.length < LIM/\r=((m.kid.meet (lf w.1 w.2)).up,.lst (ts++[w.2])):=by
 obtain ⟨m,t⟩:=u
 obtain ⟨n,t'⟩:=w
 cases m with
 | s=>cases h
 | d =>
  cases t with
  | lst ts =>
   have h':(if ts.length < LIM then some ((((Md.d.kid.meet (lf n t')).up,.lst (ts++[t'])):W)) else none)=some r:=h
   split at h'
   ·rename_i hl; cases h'; exact ⟨.d,ts,rfl,by simp,hl,rfl⟩
   ·cases h'
  | _=>cases h
 | o m =>
  cases t with
  | lst ts =>
   have h':(if ts.length < LIM then some (((((Md.o m).kid.meet (lf n t')).up,.lst (ts++[t'])):W)) else none)=some r:=h
   split at h'
   ·rename_i hl; cases h'; exact ⟨.o m,ts,rfl,by simp,hl,rfl⟩
   ·cases h'
  | _=>cases h
theorem qq {u k w r:W}(h:bV u k w=some r):∃ m ts n j q,u=(m,.lst ts)/\k=(n,.int j)/\m≠.s/\M.ixN ts.length j=some q/\r=((m.kid.meet (lf w.1 w.2)).up,.lst (ts.set q w.2)):=by
 obtain ⟨m,t⟩:=u
 obtain ⟨n,t'⟩:=k
 cases m with
 | s=>cases h
 | d =>
  cases t with
  | lst ts =>
   cases t' with
   | int j =>
    have h':(M.ixN ts.length j).map (fun k=>(((Md.d.kid.meet (lf w.1 w.2)).up,.lst (ts.set k w.2)):W))=some r:=h
    cases e:M.ixN ts.length j with
    | none=>rw [e] at h'; cases h'
    | some q=>rw [e] at h'; cases h'; exact ⟨.d,ts,n,j,q,rfl,rfl,by simp,e,rfl⟩
   | _=>cases h
  | _=>cases h
 | o m =>
  cases t with
  | lst ts =>
   cases t' with
   | int j =>
    have h':(M.ixN ts.length j).map (fun k=>((((Md.o m).kid.meet (lf w.1 w.2)).up,.lst (ts.set k w.2)):W))=some r:=h
    cases e:M.ixN ts.length j with
    | none=>rw [e] at h'; cases h'
    | some q=>rw [e] at h'; cases h'; exact ⟨.o m,ts,n,j,q,rfl,rfl,by simp,e,rfl⟩
   | _=>cases h
  | _=>cases h
theorem oS {a:Addr}{m:Md}{ts:List T}{xs:List V}{w:W}{y:V}{A0:Fp}(hA:∀ b,A0 b->b≠a)(hG:∀ b,G b->b≠a)(d:∀ b,A0 b->¬ G b)(p:RepL K Z H m ts xs A0)(r:Rep K Z H w.1 w.2 y G) :
  ∃ G',(∀ b,G' b->(A0 b\/G b)/\b≠a)/\RepL K (fun b=>Z b\/((A0 b\/G b)/\b≠a/\¬ G' b)) H (m.meet (lf w.1 w.2)) (ts++[w.2]) (xs++[y]) G':=by
 obtain ⟨G',g1,g2⟩:=iw (G:=fun b=>A0 b\/G b) (fun _ z=>.inl z) (fun _ z=>.inr z) d p (RepL.one r.lf)
 have ne:∀ b,(A0 b\/G b)->b≠a:=fun b h=>h.elim (hA b) (hG b)
 exact ⟨G',fun b h=>⟨g1 b h,ne b (g1 b h)⟩,g2.zmono fun b h=>h.imp id fun q=>⟨q.1,ne b q.1,q.2⟩⟩
theorem wX {x:X}{i j:Nat}{e:E}(hs:sf i=some j)(D:aT)(σ:L2.St)(H:Hp)(h:wS K sf io C (.app x i e) D σ H) :
  ∃ a xs,σ[j]?=some (some (.ref a))/\H a=some (.lst xs)/\wE K sf C e σ H fun y H1=>∃ xs,H1 a=some (.lst xs)/\xs.length < sizeLine/\D.nx σ (upd H1 a (.lst (xs++[y]))):=by
 obtain ⟨pv,Z,Fs,η,N,A,f⟩:=h
 obtain ⟨u,h0,h1⟩:=aS (show Fin K ⟨sf,pv⟩ Z H (tot Fs) D (Fl.of η (cK (rd η i)) (kl (evX C x e) η (n9 i))) from f)
 obtain ⟨m0,t0,h00⟩:=iu h0
 obtain ⟨a,xs0,hj,ha⟩:=A.listAt hs h00
 obtain ⟨⟨w,η1⟩,h2,h3⟩:=aS (show Fin K ⟨sf,pv⟩ Z H (tot Fs) D (Fl.of η (evX C x e η) (n9 i)) from h1)
 obtain ⟨η2,h4,h5⟩:=bM (show Fin K ⟨sf,pv⟩ Z H (tot Fs) D (nxO η1 (((rd η1 i).bind fun u=>fD u w).map fun u=>M.put η1 i u)) from h3)
 refine ⟨a,xs0,hj,ha,gK (sl:=⟨sf,pv⟩) A h2 fun y Z' H' Fs' G B r s=>?_⟩
 cases e1:rd η1 i with
 | none=>rw [e1] at h4; cases h4
 | some u1 =>
  rw [e1] at h4
  cases e2:fD u1 w with
  | none=>rw [show (some u1).bind (fun u=>fD u w)=fD u1 w from rfl,e2] at h4; cases h4
  | some r1 =>
   rw [show (some u1).bind (fun u=>fD u w)=fD u1 w from rfl,e2] at h4
   cases h4
   obtain ⟨m,ts,rfl,hm,hlen,rfl⟩:=nO e2
   obtain ⟨xs,hl,hf,hx,p,hpv⟩:=B.ourList hs hm hj e1
   have e3:=p.length
   obtain ⟨G',g1,g2⟩:=oS (a:=a) (fun b h=>h.2) (fun b h z=>B.dis b h ⟨i,z ▸ hf⟩) (fun b h q=>B.dis b q ⟨i,h.1⟩) p r
   refine ⟨xs,hx,dG hl,?_⟩
   refine change (K:=K) (m':=(m.kid.meet (lf w.1 w.2)).up) (cI _) B e1 hf (fun k hk=>by rw [show sf i=some k from hk] at hs; cases hs; exact hj) (by rw [a0g,e3,a0r]; omega) hpv (fun b h=>⟨(g1 b h).1.imp a2V id,(g1 b h).2⟩) (ts':=ts++[w.2]) (by rw [eG]; exact g2.zmono fun b h=>h.imp id fun q=>⟨q.1.imp a2V id,q.2⟩) fun Z2 Fs2 B2 s2=>h5 σ Z2 _ Fs2 B2 (s.trans s2)
theorem RepL.setAt:∀ {ts:List T} {xs:List V} {A0 G0 G:Fp} {q:Nat} {t:T} {y:V} {m:Md},(∀ b,A0 b->G b)->(∀ b,G0 b->G b)->(∀ b,A0 b->¬ G0 b)->RepL K Z H m ts xs A0->Rep K Z H m t y G0->RepL K Z H m (ts.set q t) (xs.set q y) G
 | [],xs,A0,G0,G,q,t,y,m,w1,w2,d,h,r=>by rw [show xs=[] from h]; exact rfl
 | u::ts,xs,A0,G0,G,0,t,y,m,w1,w2,d,⟨x,r',A,B,e,h1,h2,hd,p,q⟩,r=>by
  rw [e]
  exact ⟨y,r',G0,B,rfl,w2,fun a h=>w1 a (h2 a h),fun a h q=>d a (h2 a q) h,r,q⟩
 | u::ts,xs,A0,G0,G,n+1,t,y,m,w1,w2,d,⟨x,r',A,B,e,h1,h2,hd,p,q⟩,r=>by
  rw [e]
  refine ⟨x,r'.set n y,A,fun a=>B a\/G0 a,rfl,fun a h=>w1 a (h1 a h),fun a h=>h.elim (fun z=>w1 a (h2 a z)) (w2 a),fun a h q=>q.elim (hd a h) (d a (h1 a h)),p,?_⟩
  exact RepL.setAt (fun _ z=>.inl z) (fun _ z=>.inr z) (fun b h=>d b (h2 b h)) q r
theorem eX (vs:List Nat)(η:Env):Nn η (M.share vs η):=fun i e=>by
 rw [fh]; split
 ·rw [e]; rfl
 ·exact e
theorem nS {x:X}{e:E}{w:W}(h:evX C x e η=.ok (w,η')):Nn η η':=by
 cases x with
 | q vs ls =>
  obtain ⟨⟨u,η2⟩,h1,h2⟩:=aa (show (evE C e (cM vs ls η)).bind (kX vs η)=_ from h)
  cases h2
  show Nn η (after (M.lf u.1 u.2) vs η)
  cases hm:M.lf u.1 u.2 with
  | d=>intro i e; exact e
  | s=>exact eX vs η
  | o m=>exact eX vs η
 | l vs=>exact (eX vs η).trans (ah e h)
theorem rC {x:X}{i j:Nat}{k e:E}(hs:sf i=some j)(D:aT)(σ:L2.St)(H:Hp)(h:wS K sf io C (.setI x i k e) D σ H) :
  wE K sf C e σ H fun y H1=>eJ j σ H1 fun o H1=>wE K sf C k σ H1 fun z H2=>∃ a xs n q,o=.ref a/\z=.int n/\H2 a=some (.lst xs)/\L2.ixN xs.length n=some q/\D.nx σ (upd H2 a (.lst (xs.set q y))):=by
 obtain ⟨pv,Z,Fs,η,N,A,f⟩:=h
 obtain ⟨⟨w,η1⟩,h2,h3⟩:=aS (show Fin K ⟨sf,pv⟩ Z H (tot Fs) D (Fl.of η (evX C x e η) (tE i (evX C x k) η)) from f)
 obtain ⟨⟨kw,η2⟩,h6,h7⟩:=aS (show Fin K ⟨sf,pv⟩ Z H (tot Fs) D (Fl.of η (evX C x k η1) (ox i w)) from h3)
 obtain ⟨η3,h4,h5⟩:=bM (show Fin K ⟨sf,pv⟩ Z H (tot Fs) D (nxO η2 (((rd η2 i).bind fun u=>bV u kw w).map fun u=>M.put η2 i u)) from h7)
 refine gK (sl:=⟨sf,pv⟩) A h2 fun y Z' H' Fs' G B r s=>?_
 cases e1:rd η2 i with
 | none=>rw [e1] at h4; cases h4
 | some u1 =>
  rw [e1] at h4
  cases e2:bV u1 kw w with
  | none=>rw [show (some u1).bind (fun u=>bV u kw w)=bV u1 kw w from rfl,e2] at h4; cases h4
  | some r1 =>
   rw [show (some u1).bind (fun u=>bV u kw w)=bV u1 kw w from rfl,e2] at h4
   cases h4
   obtain ⟨m,ts,n,jj,q,rfl,rfl,hm,hq,rfl⟩:=qq e2
   have n1:rd η1 i≠none:=fun z=>by rw [nS h6 i z] at e1; cases e1
   cases e3:rd η1 i with
   | none=>exact absurd e3 n1
   | some u3 =>
    obtain ⟨v3,r3,l3,p3⟩:=B.env i u3.1 u3.2 e3
    refine ⟨v3,l3 j hs,gK (sl:=⟨sf,pv⟩) B.bare h6 fun z Z2 H2 Fs2 G2 B2 rz s2=>?_⟩
    obtain ⟨B3,s3,d3⟩:=B.frame B2 s2
    have r':=r.frame B.gd.own s2 B.dis
    have B4:=B3.mono (G':=G) fun _ z=>.inl z
    obtain ⟨v4,r4,l4,p4⟩:=B4.env i m _ e1
    have hv:v3=v4:=by have e5:=l3 j hs; have e6:=l4 j hs; rw [e5] at e6; cases e6; rfl
    subst hv
    obtain ⟨a,xs,rfl,hl,hf,hx,p⟩:=bj hm r4
    have e7:=p.length
    obtain ⟨A1,a1,a2⟩:=RepL.weak (b9 m.kid (lf w.1 w.2)).1 p
    obtain ⟨A2,b1,b2⟩:=Rep.weak (b9 m.kid (lf w.1 w.2)).2 r'.lf
    have dis:∀ b,(Fs2 i b/\b≠a)->¬ G b:=fun b h q=>B4.dis b q ⟨i,h.1⟩
    have hG:∀ b,G b->b≠a:=fun b h z=>B4.dis b h ⟨i,z ▸ hf⟩
    refine ⟨a,xs,jj,q,rfl,show z=_ from rz,hx,by rw [e7]; exact hq,?_⟩
    refine change (K:=K) (G':=fun b=>A1 b\/A2 b) (m':=(m.kid.meet (lf w.1 w.2)).up) (cI _) B4 e1 hf (fun k hk=>by rw [show sf i=some k from hk] at hs; cases hs; exact l3 _ hk) (by rw [a0D]; exact hl) p4 (fun b h=>h.elim (fun z=>⟨.inl (a1 b z).1,(a1 b z).2⟩) fun z=>⟨.inr (b1 b z),hG b (b1 b z)⟩) (ts':=ts.set q w.2) ?_ fun Z5 Fs5 B5 s5=>h5 σ Z5 _ Fs5 B5 ((s.trans (s3.mono (fun _ z=>z) fun b h=>h.imp id .inl)).trans s5)
    rw [eG]
    refine RepL.setAt (A0:=A1) (G0:=A2) (fun _ z=>.inl z) (fun _ z=>.inr z) (fun b h q=>dis b (a1 b h) (b1 b q)) (a2.zmono fun b h=>?_) (b2.zmono fun b h=>?_)
    ·exact h.imp id fun q=>⟨.inl q.1.1,q.1.2,fun z=>z.elim q.2 fun z=>dis b q.1 (b1 b z)⟩
    ·exact h.imp id fun q=>⟨.inr q.1,hG b q.1,fun z=>z.elim (fun z=>dis b (a1 b z) q.1) q.2⟩
theorem RepL.splitA {m:Md}:∀ {ts us:List T} {zs:List V} {G:Fp},RepL K Z H m (ts++us) zs G->∃ xs ys G1 G2,zs=xs++ys/\(∀ a,G1 a->G a)/\(∀ a,G2 a->G a)/\(∀ a,G1 a->¬ G2 a)/\RepL K Z H m ts xs G1/\RepL K Z H m us ys G2
 | [],us,zs,G,h=>⟨[],zs,no,G,rfl,fun _ z=>z.elim,fun _ z=>z,fun _ z=>z.elim,rfl,h⟩
 | t::ts,us,zs,G,⟨x,r,A,B,e,h1,h2,hd,p,q⟩=>by
  obtain ⟨xs,ys,G1,G2,e',g1,g2,d,p1,p2⟩:=RepL.splitA q
  refine ⟨x::xs,ys,fun a=>A a\/G1 a,G2,by rw [e,e']; rfl,fun a h=>h.elim (h1 a) fun z=>h2 a (g1 a z),fun a h=>h2 a (g2 a h),fun a h z=>h.elim (fun y=>hd a y (g2 a z)) fun y=>d a y z,⟨x,xs,A,G1,rfl,fun _ z=>.inl z,fun _ z=>.inr z,fun a h z=>hd a h (g1 a z),p,p1⟩,p2⟩
theorem qp {u:W}{ws:List W}{r:W×W}(h:gV u ws=some r):∃ m ts,u=(m,.lst ts)/\m≠.s/\((ws=[]/\∃ t,ts.getLast?=some t/\r=((m.kid,t),(m,.lst ts.dropLast)))\/(∃ n t us,ws=[(n,.int 0)]/\ts=t::us/\r=((m.kid,t),(m,.lst us)))):=by
 obtain ⟨m,t⟩:=u
 have key:∀ m:Md,m≠.s->gV (m,t) ws=some r->∃ m' ts,(m,t)=(m',.lst ts)/\m'≠.s/\((ws=[]/\∃ t,ts.getLast?=some t/\r=((m'.kid,t),(m',.lst ts.dropLast)))\/(∃ n t us,ws=[(n,.int 0)]/\ts=t::us/\r=((m'.kid,t),(m',.lst us)))):=fun m hm h=>by
  unfold gV at h
  split at h
  ·cases h
  ·rename_i m1 ts1 hq1 hq2 hq3
   cases hq2
   cases e:ts1.getLast? with
   | none=>rw [e] at h; cases h
   | some t=>rw [e] at h; cases h; exact ⟨_,ts1,rfl,hm,.inl ⟨rfl,t,e,rfl⟩⟩
  ·rename_i m1 t1 ts1 n1 hq1 hq2 hq3
   cases hq2
   cases h
   exact ⟨_,_,rfl,hm,.inr ⟨_,_,_,rfl,rfl,rfl⟩⟩
  ·cases h
 cases m with
 | s=>cases h
 | d=>exact key .d (by simp) h
 | o m=>exact key (.o m) (by simp) h
theorem tV {i j:Nat}(hs:sf i=some j)(σ:L2.St)(H:Hp)(Q:VK)(h:wE K sf C (.pop i []) σ H Q):∃ a xs y,σ[j]?=some (some (.ref a))/\H a=some (.lst xs)/\xs[xs.length-1]?=some y/\Q y (upd H a (.lst xs.dropLast)):=by
 obtain ⟨pv,Z,Fs,η,w,η',A,ev,k⟩:=h
 obtain ⟨_,_,h0⟩:=aa (show (cK (rd η i)).bind (il (evL C []) η (mr i))=_ from ev)
 obtain ⟨r,h3,h4⟩:=aa (show (ofO ((rd η i).bind fun w=>gV w [])).bind (fun r=>.ok (r.1,M.put η i r.2))=_ from h0)
 cases h4
 have h5:=a9 h3
 cases e1:rd η i with
 | none=>rw [e1] at h5; cases h5
 | some u =>
  rw [e1] at h5
  obtain ⟨m,ts,rfl,hm,⟨_,t,ht,rfl⟩ | ⟨n,t,us,e,_⟩⟩:=qp (show gV u []=some r from h5)
  ·obtain ⟨v,r4,l4,p4⟩:=A.env i m _ e1
   obtain ⟨a,xs,rfl,hl,hf,hx,p⟩:=bj hm r4
   have ets:ts=ts.dropLast++[t]:=by
    have hne:ts≠[]:=fun z=>by rw [z] at ht; cases ht
    have:=List.dropLast_concat_getLast hne
    rw [List.getLast?_eq_some_getLast hne] at ht
    cases ht
    exact this.symm
   rw [ets] at p
   obtain ⟨xs1,ys1,G1,G2,rfl,g1,g2,d,p1,p2⟩:=RepL.splitA p
   obtain ⟨y,r',A1,A2,e,a1,_,_,ry,q⟩:=p2
   obtain rfl:r'=[]:=q
   subst e
   have ry':=ry.mono a1
   refine ⟨a,xs1++[y],y,l4 j hs,hx,by simp,?_⟩
   rw [a2L]
   have hl1:xs1.length<=LIM:=by rw [a0g] at hl; omega
   refine lB (K:=K) (G':=G1) (R:=G2) (Q:=fun H'=>Q y H') hm A e1 hf (fun k hk=>l4 k hk) hl1 p4 (fun b h=>⟨.inl (g1 b h).1,(g1 b h).2⟩) (fun b h=>⟨.inl (g2 b h).1,(g2 b h).2⟩) (fun b h z=>d b z h) (ts':=ts.dropLast) (p1.zmono fun b h=>.inl h) fun Z' Fs' B s tr=>?_
   exact k y Z' _ Fs' G2 B (tr (ry'.zmono fun b h=>.inl h)) (s.mono (fun b h=>h.elim id fun z=>z.elim) fun _ z=>z)
  ·cases e
end
end MR
namespace MR
open L2 L3 M
open PySem (Addr Str sizeLine)
section
variable {K:a0a}{sl:Cf}{sf sg:Nat->Option Nat}{C:Call}{σ σ2:L2.St}{Z Z' Z1:Fp}{H H' H1:Hp}{Fs Fs' Fs1:Fps}{η η' η1 ηb:Env}{G G' G1 R F F':Fp}{tg is vs ls io:List Nat}{pv val:Nat->Option V}{D:aT}
noncomputable def gF (K:a0a):List Nat->TG
 | [j]=>bZ j
 | [j,l]=>wz K 2 (i6 (bZ j) (i6 (bZ l) xo))
 | _=>fun _ _ _ _=>False
theorem qC {fl:Fl}{g:Env->Fl}(f:Fin K sl Z H F D (Fl.turn fl g)):(∃ η',fl=.nx η'/\Fin K sl Z H F D (g η'))\/(∃ η',fl=.bk η'/\Fin K sl Z H F D (.nx η'))\/(∃ w η',fl=.rt w η'/\Fin K sl Z H F D (.rt w η')):=by
 cases fl with
 | nx η=>exact .inl ⟨η,rfl,f⟩
 | bk η=>exact .inr (.inl ⟨η,rfl,f⟩)
 | rt w η=>exact .inr (.inr ⟨w,η,rfl,f⟩)
 | ex c x η=>exact f.elim
 | no=>exact f.elim
theorem eC {fl:Fl}{g:Env->Fl}{N:L2.St->Hp->Prop}(f:Fin K sl Z H F D (Fl.turn fl g))(hN:∀ η' σ' Z' H' Fs',fl=.nx η'->Fin K sl Z H F D (g η')->At K sl σ' Z' H' Fs' η' no->Step Z H F Z' H' (tot Fs')->N σ' H'):Fin K sl Z H F { D with nx:=N,ct:=N,bk:=D.nx } fl:=by
 rcases qC f with ⟨η',rfl,f⟩ | ⟨η',rfl,f⟩ | ⟨w,η',rfl,f⟩
 ·exact fun σ' Z' H' Fs' A s=>hN η' σ' Z' H' Fs' rfl f A s
 ·exact f
 ·exact f
theorem i2 {n i:Nat}{J:It}{ts:List (List W)}{ws:List W}{js:List Nat}{x:V}{Q:L2.St->Hp->Prop}(hn:tg.length=n)(nd:tg.Nodup)(N:mZ sf io pv)(hio:∀ t∈tg,t ∉ io)(hjs:tg.map sf=js.map some)(hz:∀ a,Z1 a->Z a)(st:Stay Z1 H1 H)(yl:Yld K J Z1 H1 ts n)(A:At K ⟨sf,pv⟩ σ Z H Fs η no)
  (hw:ts[i]?=some ws) (hb:aM tg ws η=some ηb) (y:J.yld i H x H') (k:∀ σ2 H2 Fs2,At K ⟨sf,pv⟩ σ2 Z H2 Fs2 ηb no->Step Z H (tot Fs) Z H2 (tot Fs2)->Q σ2 H2):gF K js x σ H' Q:=by
 have hi:i < ts.length:=(a0z.mp hw).1
 match n,yl with
 | 1,yl =>
  obtain ⟨e0,w,hw',r⟩:=yl H i x H' st hi y
  rw [e0]
  rw [hw] at hw'; cases hw'
  match tg,hn,js,hjs with
  | [t],_,[j],hjs =>
   cases hb
   have hs:sf t=some j:=by simpa using hjs
   exact k _ H _ (At.set N (hio t (by simp)) hs A (r.zmono hz)) ((Step.refl _ _ _).mono (fun _ z=>z) fun a h=>(bu h).elim id fun z=>z.elim)
  | [t],_,[],hjs=>simp at hjs
  | [t],_,_::_::_,hjs=>simp at hjs
 | 2,yl =>
  obtain ⟨p,y1,z1,u,w,rfl,sm,hq,hw',r1,r2⟩:=yl H i x H' st hi y
  rw [hw] at hw'; cases hw'
  match tg,hn,js,hjs with
  | [t,t'],_,[j,j'],hjs =>
   cases hb
   have hs:sf t=some j:=by simp at hjs; exact hjs.1
   have hs':sf t'=some j':=by simp at hjs; exact hjs.2
   have s0:Step Z H no Z H' no:=eh sm
   obtain ⟨A1,s1⟩:=A.op bC s0
   have sn:Stay Z H H':=jc sm
   have r1':Rep K Z H' u.1 u.2 y1 no:=(r1.zmono hz).keep sn (fun _ z=>z) fun _ _ z=>z.elim
   have r2':Rep K Z H' w.1 w.2 z1 no:=(r2.zmono hz).keep sn (fun _ z=>z) fun _ _ z=>z.elim
   have A2:=At.set N (hio t (by simp)) hs A1 r1'
   have A3:=At.set N (hio t' (by simp)) hs' A2 r2'
   refine ⟨p,[y1,z1],rfl,hq,rfl,y1,[z1],rfl,z1,[],rfl,rfl,k _ _ _ A3 (s1.mono (fun a h=>h.elim id fun z=>z.elim) fun a h=>?_)⟩
   rcases bu h with h | h
   ·exact .inl ((bu h).elim id fun z=>z.elim)
   ·exact h.elim
  | [t,t'],_,[],hjs=>simp at hjs
  | [t,t'],_,[_],hjs=>simp at hjs
  | [t,t'],_,_::_::_::_,hjs=>simp at hjs
theorem nG {n:Nat}{k:Ik}{src:List E}{js:List Nat}{body:List S}(hn:tg.length=n)(nd:tg.Nodup)(hio:∀ t∈tg,t ∉ io)(hjs:tg.map sf=js.map some)(D:aT)(σ:L2.St)(H:Hp)(h:wS K sf io C (.forS vs ls k src tg body) D σ H) :
  tU (wI K sf C n k src) (gF K js) (wSs K sf io C body) D σ H:=by
 obtain ⟨pv,Z,Fs,η,N,A,f⟩:=h
 obtain ⟨⟨ws,η2⟩,h1,h2⟩:=aS (show Fin K ⟨sf,pv⟩ Z H (tot Fs) D (Fl.of η (evL C src (cM vs ls η)) (rO vs k tg (evSs C body) η)) from f)
 obtain ⟨⟨ts,η3⟩,h3,h4⟩:=aS (show Fin K ⟨sf,pv⟩ Z H (tot Fs) D (Fl.of η (ret (M.share vs η) (a7 k ws)) (iJ tg (evSs C body))) from h2)
 obtain ⟨ts',ht,e3⟩:=aq h3
 have e4:ts=ts':=congrArg a3y e3
 have e5:η3=M.share vs η:=congrArg a1V e3
 subst e4 e5
 have h4':Fin K ⟨sf,pv⟩ Z H (tot Fs) D (bf tg (evSs C body) ts (M.share vs η)):=h4
 refine ⟨pv,_,nE,_,ws,η2,ts,A.quiet (vs:=vs) (ls:=ls),h1,ht,fun J Z1 H1 Fs1 B s wk yl=>?_⟩
 obtain ⟨B1,s1⟩:=cU (G:=no) A bC B.gd.zal (s.mono (F2:=fun a=>tot Fs1 a\/no a) (fun _ z=>z) fun a h=>h.elim id fun z=>z.elim) fun a h=>gr h
 obtain ⟨B2,s2⟩:=B1.share (vs:=vs)
 have s3:=(s2 s1).mono (F2:=tot (ck Fs vs)) (fun _ z=>z) fun _ z=>.inl z
 have zz:∀ a,Z1 a->((Z1 a/\¬ b7 Fs vs a)\/b7 Fs vs a):=fun a h=>(a3M (b7 Fs vs a)).elim .inr fun q=>.inl ⟨h,q⟩
 refine ⟨fun i m σ' H'=>m=ts.length-i/\i<=ts.length/\∃ Zi Fsi ηi,At K ⟨sf,pv⟩ σ' Zi H' Fsi ηi no/\Step (fun a=>(Z1 a/\¬ b7 Fs vs a)\/b7 Fs vs a) H1 (tot (ck Fs vs)) Zi H' (tot Fsi)/\Fin K ⟨sf,pv⟩ Zi H' (tot Fsi) D (bf tg (evSs C body) (ts.drop i) ηi),⟨ts.length,by simp,a0F _,_,_,_,B2,Step.refl _ _ _,h4'.step s3⟩,?_⟩
 rintro i m σi H0 ⟨rfl,hi,Zi,Fsi,ηi,Ai,si,fi⟩
 have st:Stay Z1 H1 H0:=by
  have:=B2.gd.own.stay si
  exact ⟨fun a o h=>this.1 a o (zz a h),this.2⟩
 by_cases hlt:i < ts.length
 ·right
  refine ⟨wk.go H0 i st hlt,_,fun σ' H' hw=>⟨ts.length-(i+1),by omega,hw⟩,fun x H' y=>?_⟩
  have hw:ts[i]?=some ts[i]:=by simp [hlt]
  rw [cJ hw] at fi
  obtain ⟨ηb,hb,fb⟩:=aS (show Fin K ⟨sf,pv⟩ Zi H0 (tot Fsi) D (Fl.of ηi (ofO (aM tg ts[i] ηi)) fun η1=>Fl.turn (evSs C body η1) (bf tg (evSs C body) (ts.drop (i+1)))) from fi)
  refine i2 hn nd N hio hjs (fun a h=>si.zm a (zz a h)) st yl Ai hw (a9 hb) y fun σ2 H2 Fs2 A2 t2=>?_
  refine ⟨pv,Zi,Fs2,ηb,N,A2,eC (fb.step t2) fun η' σ' Z' H' Fs' _ f' A' s'=>⟨rfl,hlt,Z',Fs',η',A',(si.trans t2).trans s',f'.step s'⟩⟩
 ·left
  have hi':i=ts.length:=by omega
  subst hi'
  rw [a1t] at fi
  exact ⟨wk.stop H0 _ st (a0h _),fi σi Zi H0 Fsi Ai (Step.refl _ _ _)⟩
theorem yH {x:X}{c:E}{body:List S}(D:aT)(σ:L2.St)(H:Hp)(h:wS K sf io C (.whl x c body) D σ H):qh (wT K sf C c) (wSs K sf io C body) D σ H:=by
 obtain ⟨pv,Z,Fs,η,N,A,f⟩:=h
 have f':Fin K ⟨sf,pv⟩ Z H (tot Fs) D (fF (evT C x c) (evSs C body) fE η):=f
 refine ⟨fun m σ' H'=>∃ Z' Fs' η',At K ⟨sf,pv⟩ σ' Z' H' Fs' η' no/\Fin K ⟨sf,pv⟩ Z' H' (tot Fs') D (fF (evT C x c) (evSs C body) m η'),⟨fE,Z,Fs,η,A,f'⟩,?_⟩
 rintro m σ1 H1 ⟨Z1,Fs1,η1,A1,f1⟩
 cases m with
 | zero=>exact f1.elim
 | succ m =>
  obtain ⟨⟨b,η2⟩,h1,h2⟩:=aS (show Fin K ⟨sf,pv⟩ Z1 H1 (tot Fs1) D (Fl.of η1 (evT C x c η1) (kIf (nq (evSs C body) (fF (evT C x c) (evSs C body) m)) .nx)) from f1)
  refine Cu (sl:=⟨sf,pv⟩) A1 h1 fun Z2 H2 Fs2 B s=>?_
  cases b with
  | true =>
   rw [if_pos rfl]
   refine ⟨_,fun σ' H' hw=>⟨m,a2o m,hw⟩,pv,Z2,Fs2,η2,N,B,eC (Fin.step s (show Fin K ⟨sf,pv⟩ Z1 H1 (tot Fs1) D (Fl.turn (evSs C body η2) (fF (evT C x c) (evSs C body) m)) from h2)) fun η' σ' Z' H' Fs' _ f' A' s'=>⟨Z',Fs',η',A',f'.step s'⟩⟩
  | false =>
   rw [if_neg a0n]
   exact (show Fin K ⟨sf,pv⟩ Z1 H1 (tot Fs1) D (.nx η2) from h2) σ1 Z2 H2 Fs2 B s
end
end MR

namespace MR
open PySem PySem.Spec PyProof.Rows L2 L3
section
variable {X:Cx}{sf sg:Nat->Option Nat}{C:M.Call}{pos p2:Pos}{ea eb ec:Expr}{a b c:M.E}{h:Bool}{n:Nat}
theorem au {e:Expr}{t t':TE}(h:PE X e t)(hw:∀ σ H Q,t' σ H Q->t σ H Q):PE X e t':=fun pins s σ H Q I q=>h pins s σ H Q I (hw σ H Q q)
theorem pk {e:Expr}{t t':TT}(h:PT X e t)(hw:∀ σ H Q,t' σ H Q->t σ H Q):PT X e t':=fun pins s σ H Q I q=>h pins s σ H Q I (hw σ H Q q)
theorem vE {e:Expr}{t t':TT}(h:PW X e t)(hw:∀ σ H Q,t' σ H Q->t σ H Q):PW X e t':=fun whole pins s σ H Q I q=>h whole pins s σ H Q I (hw σ H Q q)
theorem jf {es:List Expr}{t t':TA}(h:PA X es t)(hw:∀ σ H Q,t' σ H Q->t σ H Q):PA X es t':=fun pos pins s σ H Q I q=>h pos pins s σ H Q I (hw σ H Q q)
theorem ba {s:Stmt}{t t':TS}(h:PS X s t)(hw:∀ D σ H,t' D σ H->t D σ H):PS X s t':=fun pins s σ H D I q=>h pins s σ H D I (hw D σ H q)
theorem kg {s:List Stmt}{t t':TS}(h:PSs X s t)(hw:∀ D σ H,t' D σ H->t D σ H):PSs X s t':=fun pins s σ H D I q=>h pins s σ H D I (hw D σ H q)
theorem iZ {tg e:Expr}{t t':TI}(h:PI X tg e t)(hw:∀ σ H R,t' σ H R->t σ H R):PI X tg e t':=fun pins s σ H R I q=>h pins s σ H R I (hw σ H R q)
theorem BF {tg e:Expr}{t t':TI}(h:PI X tg e t)(h':PI X tg e t'):PI X tg e (fun σ H R=>t σ H R\/t' σ H R):=fun pins s σ H R I q=>q.elim (h pins s σ H R I) (h' pins s σ H R I)
noncomputable abbrev SE (X:Cx)(sf:Nat->Option Nat)(C:M.Call)(me:Expr)(e:M.E):Prop:=PE X me (wE X.K sf C e)
noncomputable abbrev SB (X:Cx)(sf:Nat->Option Nat)(C:M.Call)(me:Expr)(e:M.E):Prop:=PT X me (wT X.K sf C e)
noncomputable abbrev SL (X:Cx)(sf:Nat->Option Nat)(C:M.Call)(me:List Expr)(es:List M.E):Prop:=PA X me (wL X.K sf C es)
noncomputable abbrev SA (X:Cx)(sf:Nat->Option Nat)(C:M.Call)(me:List Expr)(es:List M.E):Prop:=PA X me (wA X.K sf C es)
noncomputable abbrev SS (X:Cx)(sf:Nat->Option Nat)(io:List Nat)(C:M.Call)(ms:Stmt)(s:M.S):Prop:=PS X ms (wS X.K sf io C s)
noncomputable abbrev SSs (X:Cx)(sf:Nat->Option Nat)(io:List Nat)(C:M.Call)(ms:List Stmt)(s:List M.S):Prop:=PSs X ms (wSs X.K sf io C s)
theorem sV (j:Nat){i:Nat}{x:Str}(hs:sf i=some j:=by rfl)(hN:X.N[j]?=some x:=by rfl)(hv:Vis X.env.scope x:=by first | exact a0y rfl | exact a0s (a0y rfl) | exact a0s (a0s rfl))(hd:(x==("__debug__":Str))=false:=by decide)
  (hcd:(x==("__classdict__":Str))=false:=by decide):SE X sf C (.Name x pos) (.var i):=au (az hN hv hd hcd) (yC hs)
theorem sM (j:Nat){i:Nat}{x:Str}(hs:sf i=some j:=by rfl)(hN:X.N[j]?=some x:=by rfl)(hv:Vis X.env.scope x:=by first | exact a0y rfl | exact a0s (a0y rfl) | exact a0s (a0s rfl))(hd:(x==("__debug__":Str))=false:=by decide)
  (hcd:(x==("__classdict__":Str))=false:=by decide):SE X sf C (.Name x pos) (.mv i):=au (az hN hv hd hcd) (xk (fun _=>rfl) hs)
theorem sI {i:Int}{k:Nat}:SE X sf C (.Constant (.int i) k pos) (.cst (.int i)):=au j7 (nu fun {_ _}=>rfl)
theorem sO {i:Bool}{k:Nat}:SE X sf C (.Constant (.bool i) k pos) (.cst (.bl i)):=au Ak (nu fun {_ _}=>rfl)
theorem aY (s:String)(hl:s.length<=1000):M.sOk (Str.ofString s)=true:=by
 unfold M.sOk
 rw [Str.ofString_eq_toList,a0k]
 refine ⟨?_,decide_eq_true ?_⟩
 ·rw [a11]
  intro x hx
  rw [List.mem_toArray,a0B] at hx
  obtain ⟨c,_,rfl⟩:=hx
  refine decide_eq_true ?_
  have:=c.valid
  have h2:c.toNat < 0x110000:=by
   have h3:=c.valid
   unfold UInt32.isValidChar Nat.isValidChar at h3
   show c.val.toNat < _
   omega
  exact h2
 ·rw [a0j,a0e,a2M]
  exact a0u hl (by decide)
theorem sl0:SL X sf C [] []:=jf bx xF
theorem slc {es:List Expr}{bs:List M.E}(ha:SE X sf C ea a)(hb:SL X sf C es bs)(hs:starEach (ea::es) X.env=(false,eval ea X.env)::starEach es X.env:=by rfl):SL X sf C (ea::es) (a::bs):=jf (aG ha hb hs) rm
theorem sT {es:List Expr}{bs:List M.E}{x1:Nat}(h:SL X sf C es bs)(hn:bs.length<=M.LIM:=by decide):SE X sf C (.Tuple es x1 pos) (.tup bs):=au (qL h) (zw hn)
theorem sLs {es:List Expr}{bs:List M.E}(hh:SL X sf C es bs)(hn:bs.length<=M.LIM:=by decide):SE X sf C (.List es pos) (.lst h bs):=au (xw hh) (y6 hn)
theorem cm (ha:SE X sf C ea a)(hb:SE X sf C eb b):SE X sf C (.BinOp ea .Add eb pos) (.op .add h [a,b]) :=
 au (dM (op_add.or (op_add_str.or (op_cat.or uU))) ha hb) (aL (ur (vk X.K) fun {Z H G Q a b xs ys ts} h1 h2 h3 h4 ow r k=>by
  obtain ⟨G',g1,g2⟩:=r
  refine ⟨a,b,xs,ys,rfl,rfl,h1,h2,h3,a8 h4,fun v H' same hv=>jg (m:=.s) ow g1 ?_ g2 k same hv⟩
  rw [a0g]; exact h4))
theorem l8 (ha:SE X sf C ea a)(hb:SE X sf C eb b):SE X sf C (.BinOp ea .Sub eb pos) (.op .sub h [a,b]):=au (dM wB ha hb) (aL s9)
theorem jV (ha:SE X sf C ea a)(hb:SE X sf C eb b):SE X sf C (.BinOp ea .Mult eb pos) (.op .mul h [a,b]):=au (dM (op_mul.or wR) ha hb) (aL uB)
theorem sS (ha:SE X sf C ea a)(hb:SE X sf C eb b):SE X sf C (.BinOp ea .FloorDiv eb pos) (.op .fdiv h [a,b]):=au (dM se ha hb) (aL qf)
theorem Dx (ha:SE X sf C ea a)(hb:SE X sf C eb b):SE X sf C (.BinOp ea .Mod eb pos) (.op .mod h [a,b]):=au (dM xZ ha hb) (aL tZ)
theorem DL (ha:SE X sf C ea a)(hb:SE X sf C eb b):SE X sf C (.BinOp ea .Pow eb pos) (.op .pow h [a,b]):=au (dM yV ha hb) (aL tq)
theorem yz (ha:SE X sf C ea a):SE X sf C (.UnaryOp .USub ea pos) (.op .neg h [a]):=au (zG zx ha) (xt rQ)
theorem sIx (ha:SE X sf C ea a)(hb:SE X sf C eb b)(hs:gO eb:=by intro _ _; rfl):SE X sf C (.Subscript ea eb pos) (.op .ix h [a,b]):=au (lK (ix_any.or zp) ha hb hs) (aL xf)
mutual
noncomputable def th:M.T->Th
 | .non=>.non | .bl b=>.bl b | .int i=>.int i | .str x=>.str x | .tup ts=>.tup (ths ts) | .lst ts=>.lst (ths ts) | .dct _ _=>.non | .ins _ _ _=>.non | .scr _=>.non | .gone=>.non
noncomputable def ths:List M.T->List Th
 | []=>[]
 | t::ts=>th t::ths ts
end
mutual
theorem gq {K:a0a}{Z:Fp}{H:Hp}:∀ {t:M.T} {m:M.Md} {v:V} {G:Fp} {n:Nat},M.dp t<=n->n<=64->Rep K Z H m t v G->Has K H (th t) v/\(toD (th t)).canLay0=true/\(toD (th t)).depth<=n
 | .non,_,_,_,_,_,_,r=>⟨r,rfl,a0F _⟩
 | .bl _,_,_,_,_,_,_,r=>⟨r,rfl,a0F _⟩
 | .int _,_,_,_,_,_,_,r=>⟨r,rfl,a0F _⟩
 | .str x,_,_,_,_,_,_,r=>⟨r.1,by have h:=r.2; unfold M.sOk at h; rw [a0k] at h; exact h.1,a0F _⟩
 | .tup ts,m,v,G,n,hd,hn,⟨a,xs,e,q,l,r⟩=>by
  have hd':M.dps ts+1<=n:=hd
  match n,hd' with
  | n+1,hd' =>
   obtain ⟨h1,h2,h3⟩:=fw (n:=n) (by omega) (by omega) r
   exact ⟨⟨a,xs,e,q,h1⟩,h2,a1s h3⟩
 | .lst ts,m,v,G,n,hd,hn,⟨a,xs,e,l,q,r⟩=>by
  have hd':M.dps ts+1<=n:=hd
  match n,hd' with
  | n+1,hd' =>
   obtain ⟨h1,h2,h3⟩:=fw (n:=n) (by omega) (by omega) r
   exact ⟨⟨a,xs,e,by cases m<;>exact q.2,h1⟩,h2,a1s h3⟩
 | .dct _ _,_,_,_,_,hd,hn,_=>by have:1000<=64:=a0u hd hn; omega
 | .ins _ _ _,_,_,_,_,hd,hn,_=>by have:1000<=64:=a0u hd hn; omega
 | .gone,_,_,_,_,hd,hn,_=>by have:1000<=64:=a0u hd hn; omega
 | .scr _,_,_,_,_,hd,hn,_=>by have:1000<=64:=a0u hd hn; omega
theorem fw {K:a0a}{Z:Fp}{H:Hp}:∀ {ts:List M.T} {m:M.Md} {xs:List V} {G:Fp} {n:Nat},M.dps ts<=n->n<=64->RepL K Z H m ts xs G->HasL K H (ths ts) xs/\PyData.canLayAll0 (c5 (ths ts))=true/\PyData.depthAll (c5 (ths ts))<=n
 | [],_,_,_,_,_,_,r=>⟨r,rfl,a0F _⟩
 | t::ts,m,xs,G,n,hd,hn,⟨x,r,G1,G2,e,_,_,_,p,q⟩=>by
  have hd':max (M.dp t) (M.dps ts)<=n:=hd
  obtain ⟨h1,h2,h3⟩:=gq (n:=n) (by omega) hn p
  obtain ⟨k1,k2,k3⟩:=fw (n:=n) (by omega) hn q
  refine ⟨⟨x,r,e,h1,k1⟩,?_,?_⟩
  ·show ((toD (th t)).canLay0&&PyData.canLayAll0 (c5 (ths ts)))=true
   rw [h2,k2]; rfl
  ·show max (toD (th t)).depth (PyData.depthAll (c5 (ths ts)))<=n
   omega
end
mutual
theorem jW:∀ (t u:M.T),M.dp t<=64->M.dp u<=64->PyData.eqv (toD (th t)) (toD (th u))=M.eqT t u
 | .dct _ _,_,h,_=>by have:1000<=64:=h; omega
 | .ins _ _ _,_,h,_=>by have:1000<=64:=h; omega
 | .gone,_,h,_=>by have:1000<=64:=h; omega
 | .scr _,_,h,_=>by have:1000<=64:=h; omega
 | .non,u,_,h=>by cases u<;>first | rfl | (have:1000<=64:=h; omega)
 | .bl a,u,_,h=>by cases u<;>first | rfl | (cases a<;>rfl) | (have:1000<=64:=h; omega)
 | .int i,u,_,h=>by
  cases u with
  | bl b=>cases b<;>rfl
  | _=>first | rfl | (have:1000<=64:=h; omega)
 | .str x,u,_,h=>by cases u<;>first | rfl | (have:1000<=64:=h; omega)
 | .tup ts,u,h1,h=>by
  cases u with
  | tup us=>exact ia ts us (by have:M.dps ts+1<=64:=h1; omega) (by have:M.dps us+1<=64:=h; omega)
  | _=>first | rfl | (have:1000<=64:=h; omega)
 | .lst ts,u,h1,h=>by
  cases u with
  | lst us=>exact ia ts us (by have:M.dps ts+1<=64:=h1; omega) (by have:M.dps us+1<=64:=h; omega)
  | _=>first | rfl | (have:1000<=64:=h; omega)
theorem ia:∀ (ts us:List M.T),M.dps ts<=64->M.dps us<=64->PyData.eqvAll (c5 (ths ts)) (c5 (ths us))=M.eqTs ts us
 | [],[],_,_=>rfl
 | [],_::_,_,_=>rfl
 | _::_,[],_,_=>rfl
 | t::ts,u::us,h1,h2=>by
  have h1':max (M.dp t) (M.dps ts)<=64:=h1
  have h2':max (M.dp u) (M.dps us)<=64:=h2
  show (PyData.eqv (toD (th t)) (toD (th u))&&PyData.eqvAll (c5 (ths ts)) (c5 (ths us)))=(M.eqT t u&&M.eqTs ts us)
  rw [jW t u (by omega) (by omega),ia ts us (by omega) (by omega)]
end
theorem gL {K:a0a}{Z:Fp}{H:Hp}{t:M.T}{m:M.Md}{v:V}{G:Fp}(hd:M.dp t<=64)(r:Rep K Z H m t v G):Has K H (th t) v/\gA (th t):=by
 obtain ⟨h1,h2,h3⟩:=gq hd (a0h _) r
 refine ⟨h1,?_⟩
 show ((toD (th t)).canLay0&&decide ((toD (th t)).depth<=64))=true
 rw [h2,decide_eq_true h3]; rfl
theorem qm {K:a0a}:Loc K 2 .eq h fun xs H Q=>∀ x y,xs=[x,y]->∃ t t',Has K H t x/\Has K H t' y/\gA t/\gA t'/\Q (.bl (PyData.eqv (toD t) (toD t'))) H:=by
 intro ws w xs Z H G Q hn e r ow za k x y hx
 subst hx
 obtain ⟨⟨m,a⟩,⟨n,b⟩,rfl⟩:=dy r.length.symm
 obtain ⟨G1,G2,w1,w2,d,r1,r2⟩:=b5 r
 have e':(if decide (M.dp a<=64)&&decide (M.dp b<=64) then some ((.d,.bl (M.eqT a b)):M.W) else none)=some w:=e
 split at e'
 ·rename_i hc
  rw [a0k,decide_eq_true_eq,decide_eq_true_eq] at hc
  cases e'
  obtain ⟨h1,o1⟩:=gL hc.1 r1
  obtain ⟨h2,o2⟩:=gL hc.2 r2
  refine ⟨th a,th b,h1,h2,o1,o2,?_⟩
  rw [jW a b hc.1 hc.2]
  exact dB k
 ·cases e'
theorem xp {K:a0a}:Loc K 2 .ne h fun xs H Q=>∀ x y,xs=[x,y]->∃ t t',Has K H t x/\Has K H t' y/\gA t/\gA t'/\Q (.bl (!PyData.eqv (toD t) (toD t'))) H:=by
 intro ws w xs Z H G Q hn e r ow za k x y hx
 subst hx
 obtain ⟨⟨m,a⟩,⟨n,b⟩,rfl⟩:=dy r.length.symm
 obtain ⟨G1,G2,w1,w2,d,r1,r2⟩:=b5 r
 have e':(if decide (M.dp a<=64)&&decide (M.dp b<=64) then some ((.d,.bl (!M.eqT a b)):M.W) else none)=some w:=e
 split at e'
 ·rename_i hc
  rw [a0k,decide_eq_true_eq,decide_eq_true_eq] at hc
  cases e'
  obtain ⟨h1,o1⟩:=gL hc.1 r1
  obtain ⟨h2,o2⟩:=gL hc.2 r2
  refine ⟨th a,th b,h1,h2,o1,o2,?_⟩
  rw [jW a b hc.1 hc.2]
  exact dB k
 ·cases e'
theorem sEq (hr:Room n X.A)(ha:SE X sf C ea a)(hb:SE X sf C eb b):SE X sf C (.Compare ea [.Eq] [eb] pos) (.op .eq h [a,b]):=au (sZ (ku hr.units) ha hb (dA _)) (aL qm)
theorem ifN {α:Type}{b:Bool}{x:Option α}{y:α}(h:(if b=true then none else x)=some y):b=false/\x=some y:=by cases b<;>first | exact ⟨rfl,h⟩ | cases h
theorem lF {K:a0a}{Z:Fp}{H:Hp}{G:Fp}{m:M.Md}{ts:List M.T}{xs:List V}(lo hi:Option Int)(r:RepL K Z H m ts xs G):RepL K Z H m (M.cut ts lo hi) (dj xs lo hi) G:=by
 have e:=r.length
 have hs:∀ n d o,HT.sIx n d o=M.sIx n d o:=fun n d o=>by cases o<;>rfl
 have hc:dj xs lo hi=(xs.drop (M.sIx ts.length 0 lo)).take (M.sIx ts.length ts.length hi-M.sIx ts.length 0 lo):=by
  unfold dj
  rw [hs,hs,e]
 rw [hc]
 exact (r.drop _).take _
theorem nN (ns:List Int)(lo hi:Option Int):dj (ns.map V.int) lo hi=(M.cut ns lo hi).map V.int:=by
 have hs:∀ n d o,HT.sIx n d o=M.sIx n d o:=fun n d o=>by cases o<;>rfl
 unfold dj M.cut
 rw [hs,hs,a0e,a2k,a2l]
theorem wV {α:Type}(xs:List α)(lo hi:Option Int):(M.cut xs lo hi).length<=xs.length:=by
 unfold M.cut
 rw [a0W,a0X]; omega
theorem pQ {K:a0a}{Z:Fp}{H:Hp}{G G1:Fp}{Q:VK}{m:M.Md}{a:M.T}{x:V}{w:M.W}{lo hi:Option Int}(hg:∀ b,G1 b->G b)(ow:Own Z H G)(za:∀ a,Z a->H a≠none)(r:Rep K Z H m a x G1)
  (e:(match a with | .lst ts=>M.newL h m.kid (M.cut ts lo hi) | .tup ts=>some ((.s,.tup (M.cut ts lo hi)):M.W) | .scr ns=>some (.d,.lst ((M.cut ns lo hi).map M.T.int)) | _=>none)=some w) (k:Out K Z H G w Q):qV K x lo hi H Q\/rn K x lo hi H Q:=by
 cases a with
 | lst ts =>
  obtain ⟨p,xs,rfl,hs,hl,q⟩:=bG r
  refine .inl ⟨p,xs,rfl,.inl (.inl hs),fun l hl'=>?_⟩
  exact cB ow za (a0u (bI xs lo hi) hl) ⟨G1,hg,(lF lo hi q).zmono fun _ z=>.inl z⟩ e k hl'
 | tup ts =>
  obtain ⟨p,xs,rfl,hs,hl,q⟩:=cV r
  cases e
  refine .inr ⟨p,xs,rfl,hs,fun v H' same hv=>?_⟩
  exact jg (m:=.s) (G':=no) ow (fun _ z=>z.elim) (a0u (bI xs lo hi) hl) ((RepL.sh (lF lo hi q)).zmono fun b hb=>hb.imp id fun z=>⟨hg b z,fun q=>q⟩) k same hv
 | scr ns =>
  obtain ⟨p,rfl,hL,hs⟩:=r
  cases e
  refine .inl ⟨p,_,rfl,hs.sq,fun l hl'=>?_⟩
  rw [nN]
  exact bo (m:=.d) (G':=no) ow za (fun _ z=>z.elim) (by rw [a0e]; exact a0u (wV ns lo hi) hL) (ee _) (by simp) k hl'
 | _=>cases e
theorem uv {p3:Pos}(ha:SE X sf C ea a)(hb:SE X sf C eb b):SE X sf C (.Subscript ea (.Slice none (some eb) none p3) pos) (.op .sl2 h [a,b]) :=
 au (iG (sl_list.or kW) ha lj (kF hb)) (fun σ H Q hw=>aL (r:=fun x y H Q=>∃ i,y=.int i/\(qV X.K x none (some i) H Q\/rn X.K x none (some i) H Q)) (by
  intro ws w xs Z H G Q hn e r ow za k x y hx
  subst hx
  obtain ⟨⟨m,a⟩,⟨n,b⟩,rfl⟩:=dy r.length.symm
  obtain ⟨G1,G2,w1,w2,d,r1,r2⟩:=b5 r
  cases b with
  | int i=>exact ⟨i,r2,pQ (h:=h) (lo:=none) (hi:=some i) w1 ow za r1 (by cases a<;>exact e) k⟩
  | _=>cases a<;>cases e) σ H Q hw)
theorem Bb {p3:Pos}(ha:SE X sf C ea a)(hb:SE X sf C eb b):SE X sf C (.Subscript ea (.Slice (some eb) none none p3) pos) (.op .sl1 h [a,b]) :=
 au (iG (sl_list.or kW) ha (kF hb) lj) (fun σ H Q hw=>aL (r:=fun x y H Q=>∃ i,y=.int i/\(qV X.K x (some i) none H Q\/rn X.K x (some i) none H Q)) (by
  intro ws w xs Z H G Q hn e r ow za k x y hx
  subst hx
  obtain ⟨⟨m,a⟩,⟨n,b⟩,rfl⟩:=dy r.length.symm
  obtain ⟨G1,G2,w1,w2,d,r1,r2⟩:=b5 r
  cases b with
  | int i=>exact ⟨i,r2,pQ (h:=h) (lo:=some i) (hi:=none) w1 ow za r1 (by cases a<;>exact e) k⟩
  | _=>cases a<;>cases e) σ H Q hw)
theorem jr {K:a0a}:Loc K 1 .len h fun xs H Q=>∃ x n,xs=[x]/\zM K x H n/\Q (.int n) H:=by
 intro ws w xs Z H G Q hn e r ow za k
 obtain ⟨x,n,hx,hm,q⟩:=vd (h:=h) ws w xs Z H G Q hn e r ow za k
 exact ⟨x,n,hx,by cases x<;>exact hm,q⟩
section
variable {p:Pos}{x1:Str}
theorem gD (hm:X.mg "len"=none)(hg:Gl X "len":=by rfl)(ha:SE X sf C ea a)(hs:starEach [ea] X.env=(false,eval ea X.env)::starEach [] X.env:=by rfl)(hpl:(backTo pos (starEach [] X.env)).any (·.1)=false:=by rfl):SE X sf C (.Call (.Name "len" p) [ea] [] pos) (.op .len h [a]) :=
 au (bF ir hg hm a3r (slc ha sl0 hs) (by decide) (by decide) hs hpl) (gj jr rfl)
theorem DH (hc:X.calm=true:=by rfl)(hm:X.mg "sum"=none)(hg:Gl X "sum":=by rfl)(ha:SE X sf C ea a)(hs:starEach [ea] X.env=(false,eval ea X.env)::starEach [] X.env:=by rfl)(hpl:(backTo pos (starEach [] X.env)).any (·.1)=false:=by rfl):SE X sf C (.Call (.Name "sum" p) [ea] [] pos) (.op .sum h [a]) :=
 au (bF (mB hc) hg hm (by rfl) (slc ha sl0 hs) (by decide) (by decide) hs hpl) (gj uO rfl)
theorem Bj (hm:X.mg "list"=none)(hg:Gl X "list":=by rfl)(ha:SE X sf C ea a)(hs:starEach [ea] X.env=(false,eval ea X.env)::starEach [] X.env:=by rfl)(hpl:(backTo pos (starEach [] X.env)).any (·.1)=false:=by rfl):SE X sf C (.Call (.Name "list" p) [ea] [] pos) (.op .list h [a]) :=
 au (dE gE hg hm a1G (slc ha sl0 hs) (by decide) (by decide) hs hpl) (gj qN rfl)
theorem BG (hc:X.calm=true:=by rfl)(hm:X.mg "min"=none)(hg:Gl X "min":=by rfl)(ha:SE X sf C ea a)(hb:SE X sf C eb b)(hs:starEach [ea,eb] X.env=(false,eval ea X.env)::starEach [eb] X.env:=by rfl)(hs2:starEach [eb] X.env=(false,eval eb X.env)::starEach [] X.env:=by rfl)(hpl:(backTo pos (starEach [eb] X.env)).any (·.1)=false:=by rfl):SE X sf C (.Call (.Name "min" p) [ea,eb] [] pos) (.op .min h [a,b]) :=
 au (bF (ng hc) hg hm (by rfl) (slc ha (slc hb sl0 hs2) hs) (by decide) (by decide) hs hpl) (gj q8 rfl)
end
theorem tH {K:a0a}{x:V}{H:Hp}{k:Bool}(h:TrV K x H k):xY K x H k:=by
 cases x with
 | ref p=>exact h.imp id .inl
 | byt _=>exact h.elim
 | _=>exact h
theorem tB (ha:SE X sf C ea a)(he:∀ whole,isTrue ea X.env whole=(do let v <- whole; standAt ea.pos; holding [v] (truthy v)):=by intro _; rfl):SB X sf C ea a :=
 pk (oC ha he) fun σ H Q h=>by
  obtain ⟨pv,Z,Fs,η,w,η',b,A,ev,ht,k⟩:=h
  exact ⟨pv,Z,Fs,η,w,η',A,ev,fun v Z' H' Fs' G B r s=>⟨b,tH (mH ht r),k Z' H' Fs' B.bare (s.mono (fun _ z=>z) fun _ z=>.inl z)⟩⟩
theorem zH (ha:SB X sf C ea a):SB X sf C (.UnaryOp .Not ea pos) (.not a):=pk (yt ha) xX
theorem AN {σ:L2.St}{H:Hp}{Q:Bool->Hp->Prop}(hb:∀ η w η',M.evE C a η=.ok (w,η')->∃ b,w.2=.bl b)(h:wT X.K sf C a σ H Q):vJ (wE X.K sf C a) σ H Q:=by
 obtain ⟨pv,Z,Fs,η,w,η',b,A,ev,ht,k⟩:=h
 refine ⟨pv,Z,Fs,η,w,η',A,ev,fun v Z' H' Fs' G B r s=>⟨b,?_,k Z' H' Fs' B.bare (s.mono (fun _ z=>z) fun _ z=>.inl z)⟩⟩
 obtain ⟨b',hb'⟩:=hb _ _ _ ev
 rw [hb'] at ht r
 cases ht
 exact r
theorem AM {o:M.Op}(ho:∀ u v w,M.oSem o h [u,v]=some w->∃ b,w.2=.bl b):∀ η w η',M.evE C (.op o h [a,b]) η=.ok (w,η')->∃ b,w.2=.bl b:=fun η w η' e=>by
 obtain ⟨ws,h1,h2⟩:=cx e
 obtain ⟨u,η1,us,_,e2,rfl⟩:=av h1
 obtain ⟨v,η2,us,_,e4,rfl⟩:=av e2
 cases e4
 exact ho u v w h2
theorem dk {op:CmpOp}{r:R2}{o:M.Op}(ho:OpR X (compareOp op) r)(ha:SE X sf C ea a)(hb:SE X sf C eb b)(hm:behindInMarks op eb=false)(hl:∀ σ H Q,wE X.K sf C (.op o h [a,b]) σ H Q->tOp r (wE X.K sf C a) (wE X.K sf C b) σ H Q)
  (hbl:∀ u v w,M.oSem o h [u,v]=some w->∃ b,w.2=.bl b):SB X sf C (.Compare ea [op] [eb] pos) (.op o h [a,b]) :=
 pk (u5 ho ha hb hm) fun σ H Q hw=>hl σ H _ (AN (AM hbl) hw)
theorem CF {u v w:M.W}(e:M.oSem .eq h [u,v]=some w):∃ b,w.2=.bl b:=by
 obtain ⟨m,a⟩:=u; obtain ⟨n,b⟩:=v
 have e':(if decide (M.dp a<=64)&&decide (M.dp b<=64) then some ((.d,.bl (M.eqT a b)):M.W) else none)=some w:=e
 split at e'
 ·cases e'; exact ⟨_,rfl⟩
 ·cases e'
theorem CI {u v w:M.W}(e:M.oSem .ne h [u,v]=some w):∃ b,w.2=.bl b:=by
 obtain ⟨m,a⟩:=u; obtain ⟨n,b⟩:=v
 have e':(if decide (M.dp a<=64)&&decide (M.dp b<=64) then some ((.d,.bl (!M.eqT a b)):M.W) else none)=some w:=e
 split at e'
 ·cases e'; exact ⟨_,rfl⟩
 ·cases e'
theorem Bc (ha:SE X sf C ea a)(hb:SE X sf C eb b):SB X sf C (.Compare ea [.Lt] [eb] pos) (.op .lt h [a,b]):=dk CH ha hb (dA _) (aL xG) fun u v w e=>by obtain ⟨_,_,_,_,_,_,rfl⟩:=pT e; exact ⟨_,rfl⟩
theorem jP (ha:SE X sf C ea a)(hb:SE X sf C eb b):SB X sf C (.Compare ea [.Gt] [eb] pos) (.op .gt h [a,b]):=dk CG ha hb (dA _) (aL yb) fun u v w e=>by obtain ⟨_,_,_,_,_,_,rfl⟩:=pD e; exact ⟨_,rfl⟩
theorem C4 (ha:SE X sf C ea a)(hb:SE X sf C eb b):SB X sf C (.Compare ea [.GtE] [eb] pos) (.op .ge h [a,b]):=dk Bz ha hb (dA _) (aL yq) fun u v w e=>by obtain ⟨_,_,_,_,_,_,rfl⟩:=n4 e; exact ⟨_,rfl⟩
theorem mR (hr:Room n X.A)(ha:SE X sf C ea a)(hb:SE X sf C eb b):SB X sf C (.Compare ea [.Eq] [eb] pos) (.op .eq h [a,b]):=dk (ku hr.units) ha hb (dA _) (aL qm) fun u v w e=>CF e
theorem p6 (hr:Room n X.A)(ha:SE X sf C ea a)(hb:SE X sf C eb b):SB X sf C (.Compare ea [.NotEq] [eb] pos) (.op .ne h [a,b]):=dk (sA hr.units) ha hb (dA _) (aL xp) fun u v w e=>CI e
noncomputable abbrev SW (X:Cx)(sf:Nat->Option Nat)(C:M.Call)(me:Expr)(e:M.E):Prop:=PW X me (wT X.K sf C e)
theorem wA1 (ha:SB X sf C ea a):SW X sf C (.BoolOp .And [ea] pos) a:=q5 ha
theorem wO1 (ha:SB X sf C ea a):SW X sf C (.BoolOp .Or [ea] pos) a:=yn ha
theorem wq {rest:List Expr}(ha:SB X sf C ea a)(hb:SW X sf C (.BoolOp .And (eb::rest) pos) b):SW X sf C (.BoolOp .And (ea::eb::rest) pos) (.and a b):=vE (xE ha hb) wC
theorem wOr {rest:List Expr}(ha:SB X sf C ea a)(hb:SW X sf C (.BoolOp .Or (eb::rest) pos) b):SW X sf C (.BoolOp .Or (ea::eb::rest) pos) (.or a b):=vE (BM ha hb) Bo
theorem tW (h:SW X sf C ea a):SB X sf C ea a:=h.pt
theorem fB {tg:Expr}(ha:SE X sf C ea a):PI X tg ea (wI X.K sf C 1 .seq [a]):=iZ (BF (dZ ha) (wY ha)) yN
theorem ve {tg:Expr}{p:Pos}(hm:X.mg "range"=none)(hg:Gl X "range":=by rfl)(ha:SE X sf C ea a)(hs:starEach [ea] X.env=[(false,eval ea X.env)]:=by rfl):PI X tg (.Call (.Name "range" p) [ea] [] pos) (wI X.K sf C 1 .rng [a]):=iZ (mD hg hm (slc ha sl0 hs) hs) uL
noncomputable def lkN:List Nat->Nat->Nat->Option Nat
 | [],_,_=>none
 | t::ts,n,i=>if i=t then some n else lkN ts (n+1) i
theorem kQ:∀ {l:List Nat} {n i j:Nat},lkN l n i=some j->∃ k,l[k]?=some i/\j=n+k/\i ∉ l.take k
 | [],_,_,_,h=>by cases h
 | t::ts,n,i,j,h=>by
  have h':(if i=t then some n else lkN ts (n+1) i)=some j:=h
  split at h'
  ·rename_i e; cases h'; exact ⟨0,by rw [e]; rfl,rfl,by simp⟩
  ·rename_i e
   obtain ⟨k,h1,h2,h3⟩:=kQ h'
   exact ⟨k+1,h1,by omega,by rw [a1i,a0q]; exact fun z=>z.elim e h3⟩
noncomputable def inF (tg ls:List Nat):Nat->Option Nat:=lkN (tg++ls) 0
theorem b0 {tg ls is:List Nat}(h:ls.map sf=is.map some):c9 sf (inF tg ls) tg is:=fun i j hj=>by
 obtain ⟨k,h1,h2,h3⟩:=kQ (show lkN (tg++ls) 0 i=some j from hj)
 rw [a2C] at h2
 subst h2
 by_cases hk:j < tg.length
 ·rw [a0U hk] at h1
  exact .inl ⟨j,h1,rfl⟩
 ·have hk':tg.length<=j:=a3e hk
  rw [a0G hk'] at h1
  refine .inr ⟨fun hi=>h3 ?_,?_⟩
  ·rw [List.take_append,a0Z hk']
   exact a0L _ hi
  ·have e1:(ls.map sf)[j-tg.length]?=some (sf i):=by rw [a0t,h1]; rfl
   rw [h,a0t] at e1
   cases e2:is[j-tg.length]? with
   | none=>rw [e2] at e1; cases e1
   | some j0 =>
    rw [e2] at e1
    exact ⟨j-tg.length,j0,by omega,e2,(a0v e1).symm⟩
theorem qE {x:Str}{px:Pos}{ys:List Str}{scope:Scope}{cl:List (Str×Addr)}(S:aj [x] ys scope)(Ca:Addr)(s:Shared)(H:Hp)(fp:List Addr):PG (af X ([x]++ys) scope cl Ca s H fp) (.Name x px) (gT X.K 1) :=
 bJ (X:=af X ([x]++ys) scope cl Ca s H fp) (i:=0) (x:=x) (pos:=px) S.nd rfl (.inl (lookup_relabel_local (S.loc x (by simp)))) (.inr (lookup_relabel_local (S.loc x (by simp))))
theorem Dw {x y:Str}{px py pt:Pos}{kt:Nat}{ys:List Str}{scope:Scope}{cl:List (Str×Addr)}(hc:X.calm=true)(S:aj [x,y] ys scope)(Ca:Addr)(s:Shared)(H:Hp)(fp:List Addr):PG (af X ([x,y]++ys) scope cl Ca s H fp) (.Tuple [.Name x px,.Name y py] kt pt) (gT X.K 2) :=
 qK (X:=af X ([x,y]++ys) scope cl Ca s H fp) (pos:=pt) (k:=kt) (n:=2) hc (da (bJ (pos:=px) (i:=0) (x:=x) S.nd rfl (.inl (lookup_relabel_local (S.loc x (by simp)))) (.inr (lookup_relabel_local (S.loc x (by simp))))) (da (bJ (pos:=py) (i:=1) (x:=y) S.nd rfl (.inl (lookup_relabel_local (S.loc y (by simp)))) (.inr (lookup_relabel_local (S.loc y (by simp))))) lM))
end
end MR

namespace MR
open PySem PySem.Spec PyProof.Rows L2 L3
section
variable {X:Cx}{sf sg:Nat->Option Nat}{C:M.Call}{pos p2:Pos}{ea eb ec:Expr}{a b c:M.E}{h:Bool}{n:Nat}{io:List Nat}
section
variable {elt iter cnd:Expr}{x y:Str}{px py pt:Pos}{kt:Nat}{scope:Scope}{cl:List (Str×Addr)}{ys:List Str}{tg ls is:List Nat}{k:M.Ik}{src:List M.E}{e cd:M.E}
theorem sC1 (ls:List Nat)(is:List Nat)(cl:List (Str×Addr))(ys:List Str){t:Nat}(hi:PI X (.Name x px) iter (wI X.K sf C 1 k src))(he:∀ Ca s H fp,SE (af X ([x]++ys) scope cl Ca s H fp) (inF [t] ls) C elt e)
  (S:aj [x] ys scope) (hcl:Clo X cl) (fr:Frees X scope cl ys is) (hc:X.calm=true:=by rfl) (hl:ls.map sf=is.map some:=by rfl)
  (hclos:closureFor scope X.env=pure cl:=by with_unfolding_all rfl) (hfr:(scope.names.all fun p=>p.2 != .free || (cl.lookup p.1).isSome)=true:=by rfl)
  (hs:∀ v,foldedSetIterable iter X.env v=pure v:=by intro _; rfl):SE X sf C (.ListComp elt [⟨.Name x px,iter,[],0⟩] scope pos) (.comp h k src [t] none e) :=
 au (fO (pre:=[x]) hc hi (qE S) (fun Ca s H fp=>he Ca s H fp) hclos S hcl hfr fr hs) (eR rfl (by simp) (b0 hl))
theorem yZ (ls:List Nat)(is:List Nat)(cl:List (Str×Addr))(ys:List Str){t:Nat}(hi:PI X (.Name x px) iter (wI X.K sf C 1 k src))(hcd:∀ Ca s H fp,SB (af X ([x]++ys) scope cl Ca s H fp) (inF [t] ls) C cnd cd)(he:∀ Ca s H fp,SE (af X ([x]++ys) scope cl Ca s H fp) (inF [t] ls) C elt e)
  (S:aj [x] ys scope) (hcl:Clo X cl) (fr:Frees X scope cl ys is) (hc:X.calm=true:=by rfl) (hl:ls.map sf=is.map some:=by rfl)
  (hclos:closureFor scope X.env=pure cl:=by with_unfolding_all rfl) (hfr:(scope.names.all fun p=>p.2 != .free || (cl.lookup p.1).isSome)=true:=by rfl)
  (hs:∀ v,foldedSetIterable iter X.env v=pure v:=by intro _; rfl):SE X sf C (.ListComp elt [⟨.Name x px,iter,[cnd],0⟩] scope pos) (.comp h k src [t] (some cd) e) :=
 au (fI (pre:=[x]) hc hi (qE S) (fun Ca s H fp=>he Ca s H fp) (fun Ca s H fp=>hcd Ca s H fp) hclos S hcl hfr fr hs) (je rfl (by simp) (b0 hl))
theorem sC2 (ls:List Nat)(is:List Nat)(cl:List (Str×Addr))(ys:List Str){t t':Nat}(hi:PI X (.Tuple [.Name x px,.Name y py] kt pt) iter (wI X.K sf C 2 k src))(he:∀ Ca s H fp,SE (af X ([x,y]++ys) scope cl Ca s H fp) (inF [t,t'] ls) C elt e)
  (S:aj [x,y] ys scope) (hcl:Clo X cl) (fr:Frees X scope cl ys is) (hc:X.calm=true:=by rfl) (hl:ls.map sf=is.map some:=by rfl) (nd:[t,t'].Nodup:=by decide)
  (hclos:closureFor scope X.env=pure cl:=by with_unfolding_all rfl) (hfr:(scope.names.all fun p=>p.2 != .free || (cl.lookup p.1).isSome)=true:=by rfl)
  (hs:∀ v,foldedSetIterable iter X.env v=pure v:=by intro _; rfl):SE X sf C (.ListComp elt [⟨.Tuple [.Name x px,.Name y py] kt pt,iter,[],0⟩] scope pos) (.comp h k src [t,t'] none e) :=
 au (fO (pre:=[x,y]) hc hi (Dw hc S) (fun Ca s H fp=>he Ca s H fp) hclos S hcl hfr fr hs) (eR rfl nd (b0 hl))
end
noncomputable def spS (K:a0a)(C:M.Call)(f:Nat)(io:List Nat):Sp:=fun vs H Q _=>spC K C f io vs H Q
theorem sa0:SA X sf C [] []:=jf bx xm
theorem sac {es:List Expr}{bs:List M.E}(ha:SE X sf C ea a)(hb:SA X sf C es bs)(he:∀ i,a≠.io i:=by intro _ z; cases z)(hs:starEach (ea::es) X.env=(false,eval ea X.env)::starEach es X.env:=by rfl):SA X sf C (ea::es) (a::bs):=jf (aG ha hb hs) (qS he)
theorem sai (j:Nat){i:Nat}{x:Str}{es:List Expr}{bs:List M.E}(hb:SA X sf C es bs)(hs:sf i=some j:=by rfl)(hN:X.N[j]?=some x:=by rfl)(hv:Vis X.env.scope x:=by first | exact a0y rfl | exact a0s (a0y rfl) | exact a0s (a0s rfl))(hd:(x==("__debug__":Str))=false:=by decide)
  (hcd:(x==("__classdict__":Str))=false:=by decide) (hst:starEach (.Name x pos::es) X.env=(false,eval (.Name x pos) X.env)::starEach es X.env:=by rfl):SA X sf C (.Name x pos::es) (.io i::bs):=jf (aG (az hN hv hd hcd) hb hst) (mx hs)
noncomputable def ak (P:Program)(w:World)(K:a0a)(mg:Str->Option Value)(base:Heap)(n:Nat)(C:M.Call)(x:Str)(f:Nat)(io:List Nat):Prop :=
 ∃ fa fd ps,cZ P w K mg base CX0 n fa fd ps (spS K C f io)/\mg x=some (.ref fa)/\a1K K (.ref fa)=true/\Binds K fd ps []
theorem aO {x:Str}{p:Pos}{f:Nat}{es:List Expr}{bs:List M.E}(c:ak X.prog X.w X.K X.mg X.base n C x f io)(hr:Room n X.A)(ha:SA X sf C (ea::es) bs)(hio:eQ bs 0=io\/M.ios bs=[]:=by first | exact .inl rfl | exact .inr rfl)(hg:Gl X x:=by rfl)(hdb:(x==("__debug__":Str))=false:=by decide)
  (he:starEach (ea::es) X.env=(false,eval ea X.env)::starEach es X.env:=by rfl) (hpl:(backTo pos (starEach es X.env)).any (·.1)=false:=by rfl):SE X sf C (.Call (.Name x p) (ea::es) [] pos) (.call f bs):=by
 obtain ⟨fa,fd,ps,F,hm,hk,hb⟩:=c
 refine au (rJ (E:=E0) F hr hg hm hk hb .nil BS ha hdb he hpl) fun σ H Q hw=>?_
 have h2:=rX hio σ H Q hw
 obtain ⟨pv,Z,Fs,η,ws,η',A,ev,k⟩:=h2
 exact ⟨pv,Z,Fs,η,ws,η',A,ev,fun vs Z' H' Fs' G B r s hv=>by show spS X.K C f io (vs++[]) H' Q E0; rw [a0w]; exact k vs Z' H' Fs' G B r s hv⟩
theorem ss0:SSs X sf io C [] []:=kg sk qW
theorem ss1 {s:Stmt}{t:M.S}(hs:SS X sf io C s t):SSs X sf io C [s] [t]:=kg (lA hs) uR
theorem ssc {s:Stmt}{t:M.S}{r:List Stmt}{u:List M.S}(hs:SS X sf io C s t)(hr:SSs X sf io C r u):SSs X sf io C (s::r) (t::u):=kg (n6 hs hr) oN
theorem aK (j:Nat){i:Nat}{x:Str}{xx:M.X}{pos':Pos}(hN:X.N.Nodup)(ha:SE X sf C ea a)(hi:i ∉ io:=by decide)(hs:sf i=some j:=by rfl)(hj:X.N[j]?=some x:=by rfl)(hx:L2.Loc X.env.scope x:=by first | exact a0y rfl | exact a0s rfl)
  (hsw:swapsWith ea (some (.Name x pos')) pos.line X.env=pure false:=by rfl) (hf:X.fn x=true\/X.env.scope.names.lookup x=some .local:=by first | exact .inl rfl | exact .inr rfl):SS X sf io C (.Assign [.Name x pos'] ea pos) (.asg xx i a):=ba (yP (i:=j) hN hj hx ha hsw hf) (j4 hi hs)
theorem BX {xx:M.X}(ha:SE X sf C ea a)(hs:swapsWith ea none pos.line X.env=pure false:=by rfl):SS X sf io C (.Expr ea pos) (.exp xx a):=ba (cf ha hs) wc
theorem cP {vs:List Nat}(ha:SE X sf C ea a):SS X sf io C (.Return (some ea) pos) (.ret vs a):=ba (yy ha) xa
theorem zIf {xx:M.X}{r u:List Stmt}{s t:List M.S}(hc:SB X sf C ec c)(ha:SSs X sf io C r s)(hb:SSs X sf io C u t):SS X sf io C (.If ec r u pos) (.ite xx c s t):=ba (BB hc ha hb) wG
theorem rN {xx:M.X}{r:List Stmt}{s:List M.S}(hc:SB X sf C ec c)(ha:SSs X sf io C r s)(hp:PassesOwn (model X.prog X.w) X.A X.env X.xe:=by exact PassesOwn.never):SS X sf io C (.While ec r [] pos) (.whl xx c s):=ba (oU hp hc ha) yH
theorem jb (j:Nat){t:Nat}{x:Str}{px:Pos}{iter:Expr}{r:List Stmt}{s:List M.S}{vs ls:List Nat}{k:M.Ik}{src:List M.E}(hN:X.N.Nodup)(hi:PI X (.Name x px) iter (wI X.K sf C 1 k src))(ha:SSs X sf io C r s)(hio:∀ u∈[t],u ∉ io:=by decide)(hjs:[t].map sf=[j].map some:=by rfl)(hj:X.N[j]?=some x:=by rfl)(hx:L2.Loc X.env.scope x:=by first | exact a0y rfl | exact a0s rfl)
  (hc:X.calm=true:=by rfl) (hp:PassesOwn (model X.prog X.w) X.A X.env X.xe:=by exact PassesOwn.never) (hf:X.fn x=true\/X.env.scope.names.lookup x=some .local:=by first | exact .inl rfl | exact .inr rfl) (hs:∀ x,foldedSetIterable iter X.env x=pure x:=by intro _; rfl):SS X sf io C (.For (.Name x px) iter r [] pos) (.forS vs ls k src [t] s) :=
 ba (gX hp hc hi (bJ (i:=j) hN hj hx hf) ha hs) (nG rfl (by simp) hio hjs)
theorem vo (j l:Nat){t u:Nat}{x y:Str}{px py pt:Pos}{kt:Nat}{iter:Expr}{r:List Stmt}{s:List M.S}{vs ls:List Nat}{k:M.Ik}{src:List M.E}(hN:X.N.Nodup)(hi:PI X (.Tuple [.Name x px,.Name y py] kt pt) iter (wI X.K sf C 2 k src))(ha:SSs X sf io C r s)(hio:∀ v∈[t,u],v ∉ io:=by decide)(nd:[t,u].Nodup:=by decide)(hjs:[t,u].map sf=[j,l].map some:=by rfl)(hj:X.N[j]?=some x:=by rfl)(hl:X.N[l]?=some y:=by rfl)
  (hx:L2.Loc X.env.scope x:=by first | exact a0y rfl | exact a0s rfl) (hy:L2.Loc X.env.scope y:=by first | exact a0y rfl | exact a0s rfl)
  (hc:X.calm=true:=by rfl) (hp:PassesOwn (model X.prog X.w) X.A X.env X.xe:=by exact PassesOwn.never) (hf:X.fn x=true\/X.env.scope.names.lookup x=some .local:=by first | exact .inl rfl | exact .inr rfl) (hf':X.fn y=true\/X.env.scope.names.lookup y=some .local:=by first | exact .inl rfl | exact .inr rfl) (hs:∀ x,foldedSetIterable iter X.env x=pure x:=by intro _; rfl):SS X sf io C (.For (.Tuple [.Name x px,.Name y py] kt pt) iter r [] pos) (.forS vs ls k src [t,u] s) :=
 ba (gX hp hc hi (qK (n:=2) hc (da (bJ (i:=j) hN hj hx hf) (da (bJ (i:=l) hN hl hy hf') lM))) ha hs) (nG rfl nd hio hjs)
theorem kc (j:Nat){i:Nat}{x:Str}{xx:M.X}{apos cpos px:Pos}(ha:SE X sf C ea a)(hs:sf i=some j:=by rfl)(hN:X.N[j]?=some x:=by rfl)(hv:Vis X.env.scope x:=by first | exact a0y rfl | exact a0s (a0y rfl) | exact a0s (a0s rfl))(hd:(x==("__debug__":Str))=false:=by decide)(hcd:(x==("__classdict__":Str))=false:=by decide)
  (hbase:attributeBase (.Name x px) "append" X.env (eval (.Name x px) X.env)=eval (.Name x px) X.env:=by rfl)
  (hfew:((backTo cpos (starEach [ea] X.env)).all (fun x=>!x.1)&&(backToKw cpos (keywordEach [] X.env)).all (fun x=>x.1.isSome)&&decide ([ea].length+([]:List Keyword).length+(if ([]:List Keyword).isEmpty then 0 else 1) < 30))=true:=by rfl)
  (hline:(apos.endLine==cpos.line)=true:=by rfl) (hst:starEach [ea] X.env=(false,eval ea X.env)::starEach [] X.env:=by rfl) (hplain:(backTo cpos (starEach [] X.env)).any (·.1)=false:=by rfl) (hsw:swapsWith (.Call (.Attribute (.Name x px) "append" apos) [ea] [] cpos) none pos.line X.env=pure false:=by rfl) :
  SS X sf io C (.Expr (.Call (.Attribute (.Name x px) "append" apos) [ea] [] cpos) pos) (.app xx i a) :=
 ba (cf (iW a0P a1A a1B dw (az hN hv hd hcd) (aG ha bx hst) hbase hfew hline hst hplain) hsw) fun D σ H hw=>by
  obtain ⟨p,xs,hj,hp,pv,Z,Fs,η,w,η',A,ev,k⟩:=wX hs D σ H hw
  refine ⟨.ref p,hj,.inl ⟨rfl,xs,.inl (.inl hp)⟩,pv,Z,Fs,η,w,η',A,ev,fun v Z' H' Fs' G B r s=>?_⟩
  obtain ⟨ys,h1,h2,h3⟩:=k v Z' H' Fs' G B r s
  exact ⟨p,ys,v,rfl,rfl,h1,h2,h3⟩
theorem mP (j:Nat){i:Nat}{x:Str}{xx:M.X}{px ps:Pos}(ha:SE X sf C ea a)(hb:SE X sf C eb b)(hs:sf i=some j:=by rfl)(hN:X.N[j]?=some x:=by rfl)(hv:Vis X.env.scope x:=by first | exact a0y rfl | exact a0s (a0y rfl) | exact a0s (a0s rfl))(hd:(x==("__debug__":Str))=false:=by decide)(hcd:(x==("__classdict__":Str))=false:=by decide)
  (has:∀ v,assign (.Subscript (.Name x px) eb ps) X.env v=(do
   let ov <- holding [v] (eval (.Name x px) X.env)
   let iv <- holding [v,ov] (eval eb X.env)
   standAt ps
   holding [v,ov,iv] (setItem ov iv v)
   release [v,ov,iv] []):=by intro _; rfl)
  (h1:swapsWithSole [.Subscript (.Name x px) eb ps] ea pos.line X.env=pure false:=by rfl) (h2:swappedStores [.Subscript (.Name x px) eb ps] ea X.env=pure none:=by rfl) (h3:(assignEach [.Subscript (.Name x px) eb ps] X.env).map (·.2)=[assign (.Subscript (.Name x px) eb ps) X.env]:=by rfl) :
  SS X sf io C (.Assign [.Subscript (.Name x px) eb ps] ea pos) (.setI xx i b a) :=
 ba (yG ha (yr (az hN hv hd hcd) hb qG has) h1 h2 h3) fun D σ H hw=>by
  obtain ⟨pv,Z,Fs,η,w,η',A,ev,k⟩:=rC hs D σ H hw
  refine ⟨pv,Z,Fs,η,w,η',A,ev,fun v Z' H' Fs' G B r s=>?_⟩
  obtain ⟨o,ho,pv2,Z2,Fs2,η2,w2,η3,A2,ev2,k2⟩:=k v Z' H' Fs' G B r s
  refine ⟨o,ho,pv2,Z2,Fs2,η2,w2,η3,A2,ev2,fun z Z3 H3 Fs3 G3 B3 r3 s3=>?_⟩
  obtain ⟨q,xs,n,m,rfl,rfl,g1,g2,g3⟩:=k2 z Z3 H3 Fs3 G3 B3 r3 s3
  exact ⟨q,xs,n,m,rfl,rfl,g1,g2,g3⟩
end
end MR

namespace MR
open PySem PySem.Spec PyProof.Rows L2 L3
section
variable {K:a0a}{Z:Fp}{H:Hp}
theorem hU:∀ {ws:List M.W} {n i:Nat} {w:M.W},M.rd (ws.map some++a0l n none) i=some w->ws[i]?=some w
 | [],0,i,w,h=>by simp [M.rd] at h
 | [],n+1,0,w,h=>by simp [a0Y,M.rd] at h
 | [],n+1,i+1,w,h=>by
  have:M.rd (([]:List M.W).map some++a0l n none) i=some w:=by simpa [a0Y,M.rd] using h
  have:=hU this
  simp at this
 | u::ws,n,0,w,h=>by simpa [M.rd] using h
 | u::ws,n,i+1,w,h=>by
  have:M.rd (ws.map some++a0l n none) i=some w:=by simpa [M.rd] using h
  simpa using hU this
theorem oT:∀ {ws:List M.W} {vs:List V} {G:Fp},RepW K Z H ws vs G->∃ Fs:Fps,(∀ i a,Fs i a->G a)/\(∀ i j a,Fs i a->Fs j a->i=j)/\∀ i w,ws[i]?=some w->∃ v,vs[i]?=some v/\Rep K Z H w.1 w.2 v (Fs i)
 | [],vs,G,_=>⟨fun _=>no,fun _ _ h=>h.elim,fun _ _ _ h=>h.elim,fun i w h=>by simp at h⟩
 | w::ws,vs,G,⟨x,r,G1,G2,e,h1,h2,hd,p,q⟩=>by
  obtain ⟨Fs,f1,f2,f3⟩:=oT q
  subst e
  refine ⟨fun i=>match i with | 0=>G1 | i+1=>Fs i,fun i a h=>?_,fun i j a hi hj=>?_,fun i u h=>?_⟩
  ·cases i with
   | zero=>exact h1 a h
   | succ i=>exact h2 a (f1 i a h)
  ·cases i with
   | zero =>
    cases j with
    | zero=>rfl
    | succ j=>exact absurd (f1 j a hj) (hd a hi)
   | succ i =>
    cases j with
    | zero=>exact absurd (f1 i a hi) (hd a hj)
    | succ j=>exact congrArg (·+1) (f2 i j a hi hj)
  ·cases i with
   | zero=>simp only [a08,a2d] at h; subst h; exact ⟨x,rfl,p⟩
   | succ i=>simpa using f3 i u (by simpa using h)
noncomputable def slN (n:Nat):Nat->Option Nat:=fun i=>if i < n then some i else none
theorem dC {sl:Cf}{σ:L2.St}{Fs:Fps}{η:M.Env}{G:Fp}{vs:List V}(A:At K sl σ Z H Fs η G):∀ {io:List Nat} {bs:List M.W},io.Nodup->(∀ i∈io,sl.pv i=vs[i]?/\i < vs.length)->M.backs io η=some bs->RepW K Z H bs (atV io vs) (fun a=>∃ i∈io,Fs i a)
 | [],bs,_,_,h=>by
  simp only [M.backs,a2d] at h; subst h; rfl
 | i::io,bs,nd,hv,h=>by
  simp only [M.backs] at h
  cases e:M.rd η i with
  | none=>rw [e] at h; cases h
  | some w =>
   rw [e] at h
   simp only [a3g] at h
   cases e2:M.backs io η with
   | none=>rw [e2] at h; cases h
   | some ws =>
    rw [e2] at h
    simp only [a3g,a2d] at h
    subst h
    obtain ⟨v,r,_,hp⟩:=A.env i w.1 w.2 e
    have hi:=hv i a0d
    obtain ⟨u,hu⟩:∃ u,vs[i]?=some u:=⟨vs[i]'hi.2,a0i hi.2⟩
    have:=hp u (hi.1.trans hu)
    subst this
    refine ⟨v,atV io vs,Fs i,fun a=>∃ j∈io,Fs j a,?_,fun a h=>⟨i,a0d,h⟩,fun a ⟨j,hj,h⟩=>⟨j,a0c _ hj,h⟩,fun a h ⟨j,hj,h'⟩=>?_,r,dC A (a0H.mp nd).2 (fun j hj=>hv j (a0c _ hj)) e2⟩
    ·rw [atV,a0O,hu]; rfl
    ·exact (a0H.mp nd).1 (A.gd.dis i j a h h' ▸ hj)
end
section
variable {P:Program}{w:World}{K:a0a}{mg:Str->Option Value}{base:Heap}
theorem pZ {Z:Fp}{H:Hp}{ws:List M.W}{vs:List V}{G:Fp}{N:List Str}{n:Nat}{io:List Nat}(r:RepW K Z H ws vs G)(o:Own Z H G)(z:∀ a,Z a->H a≠none)(hl:vs.length<=N.length) :
  ∃ Fs,(∀ a,tot Fs a->G a)/\At K ⟨slN N.length,fun i=>if i∈io then vs[i]? else none⟩ (L2.start N vs) Z H Fs (ws.map some++a0l n none) no:=by
 obtain ⟨Fs,f1,f2,f3⟩:=oT r
 have st:∀ i v,vs[i]?=some v->(L2.start N vs)[i]?=some (some v):=fun i v h=>by
  have hi:=(a0z.mp h).1
  rw [L2.start,a0U (by simpa using hi),a0t,h]; rfl
 refine ⟨Fs,fun a ⟨i,h⟩=>f1 i a h,⟨⟨fun a ⟨i,h⟩=>o a (f1 i a h),f2,z⟩,fun i m t e=>?_,fun a h=>h.elim,fun a h=>h.elim,fun i u j hu hj=>?_,fun i j hj=>?_⟩⟩
 ·obtain ⟨v,hv,rp⟩:=f3 i (m,t) (hU e)
  refine ⟨v,rp,fun j hj=>?_,fun u hu=>?_⟩
  ·simp only [slN] at hj
   split at hj
   ·cases hj; exact st i v hv
   ·cases hj
  ·simp only at hu
   split at hu
   ·rw [hv] at hu; cases hu; rfl
   ·cases hu
 ·simp only at hu
  simp only [slN] at hj
  split at hj
  ·cases hj
   split at hu
   ·exact st i u hu
   ·cases hu
  ·cases hj
 ·simp only [slN] at hj
  split at hj
  ·cases hj
   rename_i h
   rw [L2.start,a0g,a0e,a0N]; omega
  ·cases hj
theorem Fun.okM {x qual:Str}{st:Stmt}{f:Addr}{fd:FuncData}{N ps:List Str}{k:Nat}{C:M.Call}{d:M.Fn}(F:L2.Fun K x qual st f fd)(S:aD N ps (defScope st))(hps:d.ps=ps.length)(hle:ps.length<=N.length)(nd:d.io.Nodup)(hio:∀ i∈d.io,i < ps.length)
  (hbody:∀ (cdv:Value) (A:Around) (outer:List Env) (s:Shared) (H:Hp) (E:XK),Room k (A.deeper (envOfC qual (defScope st) s.heap.objs.size f cdv)) ->
   SSs (gJ CX0 P w K mg base N qual (defScope st) f cdv A outer s H E).nox (slN N.length) d.io C (defBody st) d.body) {g:Nat} {C':M.Call} (hC:∀ ws,C' g ws=M.runF C d ws):cZ P w K mg base CX0 (k+1) f fd ps (spS K C' g d.io):=by
 have len:∀ vs H Q E,spS K C' g d.io vs H Q E->vs.length=ps.length:=fun vs H Q E ⟨Z,ws,G,w,bs,r,_,_,hr,_⟩=>by
  rw [hC] at hr
  unfold M.runF at hr
  split at hr
  ·rename_i h; rw [r.length,h,hps]
  ·cases hr
 refine F.ok S len fun cdv A outer s H vs Q E hr h=>⟨_,hbody cdv A outer s H E hr,?_⟩
 have hlen:=len vs H Q E h
 obtain ⟨Z,ws,G,w,bs,r,o,z,hc,q⟩:=h
 rw [hC] at hc
 have hwl:ws.length=d.ps:=by rw [<- r.length,hlen,hps]
 rw [M.x_run _ _ _ hwl] at hc
 obtain ⟨Fs,ft,A0⟩:=pZ (n:=d.ns) (io:=d.io) r o z (N:=N) (by omega)
 refine ⟨_,Z,Fs,_,⟨fun i i' j h h'=>?_,fun i h=>if_neg h⟩,A0,?_⟩
 ·simp only [slN] at h h'
  split at h
  ·split at h'
   ·cases h; cases h'; rfl
   ·cases h'
  ·cases h
 have hv:∀ i∈d.io,(if i∈d.io then vs[i]? else none)=vs[i]?/\i < vs.length:=fun i hi=>⟨if_pos hi,hlen ▸ hio i hi⟩
 cases e:M.evSs C d.body (ws.map some++a0l d.ns none) with
 | nx η =>
  rw [e] at hc
  intro σ' Z' H' Fs' A' t
  simp only [M.Fl.out] at hc
  cases e2:M.backs d.io η with
  | none=>rw [e2] at hc; cases hc
  | some cs =>
   rw [e2] at hc
   cases hc
   refine q .non Z' H' no _ rfl (dC A' nd hv e2) (fun _ h=>h.elim) (fun a h=>h.elim (fun z=>z.elim) fun ⟨i,_,z⟩=>A'.gd.own a ⟨i,z⟩) (t.mono ft fun a h=>h.elim (fun z=>z.elim) fun ⟨i,_,z⟩=>⟨i,z⟩)
 | rt u η =>
  rw [e] at hc
  intro v σ' Z' H' Fs' G' A' rp t
  simp only [M.Fl.out] at hc
  cases e2:M.backs d.io η with
  | none=>rw [e2] at hc; cases hc
  | some cs =>
   rw [e2] at hc
   cases hc
   exact q v Z' H' G' _ rp (dC A' nd hv e2) (fun a h ⟨i,_,z⟩=>A'.dis a h ⟨i,z⟩) (fun a h=>h.elim (A'.own a) fun ⟨i,_,z⟩=>A'.gd.own a ⟨i,z⟩) (t.mono ft fun a h=>h.elim .inr fun ⟨i,_,z⟩=>.inl ⟨i,z⟩)
 | bk η=>rw [e] at hc; cases hc
 | ex c x η=>rw [e] at hc; cases hc
 | no=>rw [e] at hc; cases hc
end
end MR

namespace MR
open PySem PySem.Spec PyProof.Rows L2 L3
noncomputable def Bh (K:a0a)(H:Hp):Th->V->Prop
 | .tup _,x=>∃ a vs,x=.ref a/\SqT K H a vs
 | .lst _,x=>∃ a vs,x=.ref a/\SqL K H a vs
 | .non,x=>x=.non
 | .bl b,x=>x=.bl b
 | .int i,x=>x=.int i
 | .str z,x=>x=.str z
theorem oA {X:Cx}{c:String}(hc:c∈["tuple","str","bool","int","list"]):cy X (.builtin "isinstance") (fun xs H Q=>∃ x t,xs=[x,.ty c]/\Bh X.K H t x/\Q (.bl (isI c t)) H):=by
 intro pins s σ H xs us Q I r h
 obtain ⟨x,t,rfl,ht,q⟩:=h
 obtain ⟨u,w',rfl,ru,rw'⟩:=vq r
 cases rw'
 have e:a1k X.K (.type t.ty) (.type c)=some (isI c t):=kit_type.trans (wx hc t)
 have fin:∀ tk,EP X pins σ Q (.bool (isI c t)) { s with toks:=tk }:=fun tk=>⟨.bl (isI c t),H,I.tok tk,rfl,q⟩
 cases t with
 | non =>
  obtain rfl:x=.non:=ht
  exact cG I ru .non e fin
 | bl b =>
  obtain rfl:x=.bl b:=ht
  exact cG I ru (.bl b) e fin
 | int i =>
  obtain rfl:x=.int i:=ht
  exact cG I ru (.int i) e fin
 | str z =>
  obtain rfl:x=.str z:=ht
  exact cG I ru (.str z) e fin
 | tup ts =>
  obtain ⟨a,vs,rfl,hS⟩:=ht
  cases ru
  obtain ⟨its,_,p,_⟩:=I.tuple hS
  obtain ⟨o,h1,h2,_⟩:=p
  exact a0Q a2U I.kIn ⟨o,h1,h2⟩ e (fun z=>nomatch z) fin
 | lst ts =>
  obtain ⟨a,vs,rfl,hS⟩:=ht
  cases ru
  obtain ⟨its,_,p,_⟩:=I.list hS
  obtain ⟨o,n,h1,h2,_⟩:=p
  exact a0Q a2a I.kIn ⟨o,h1,h2⟩ e (fun z=>nomatch z) fin
noncomputable def thT:M.T->Th
 | .non=>.non | .bl b=>.bl b | .int i=>.int i | .str x=>.str x | .tup _=>.tup [] | .lst _=>.lst [] | .scr _=>.lst [] | .dct _ _=>.non | .ins _ _ _=>.non | .gone=>.non
theorem sF {K:a0a}{Z:Fp}{H:Hp}{t:M.T}{m:M.Md}{x:V}{G:Fp}(hg:t.isG=false)(r:Rep K Z H m t x G):Bh K H (thT t) x/\(thT t).ty=t.ty:=by
 cases t with
 | non=>exact ⟨r,rfl⟩
 | bl _=>exact ⟨r,rfl⟩
 | int _=>exact ⟨r,rfl⟩
 | str _=>exact ⟨r.1,rfl⟩
 | tup _=>obtain ⟨p,xs,e,q,_⟩:=r; exact ⟨⟨p,xs,e,q⟩,rfl⟩
 | lst _=>obtain ⟨p,xs,e,_,q,_⟩:=r; exact ⟨⟨p,xs,e,.inl (.inl (by cases m<;>exact q.2))⟩,rfl⟩
 | scr _=>obtain ⟨p,e,_,q⟩:=r; exact ⟨⟨p,_,e,q.sq⟩,rfl⟩
 | dct _ _=>cases hg
 | ins _ _ _=>exact r.elim
 | gone=>cases hg
theorem rV {t:Th}{u:M.T}{c:String}(h:t.ty=u.ty):isI c t=M.isOne c u:=by unfold isI M.isOne; rw [h]
section
variable {X:Cx}{sf sg:Nat->Option Nat}{C:M.Call}{pos p2 p3:Pos}{ea eb ec:Expr}{a b c:M.E}{h:Bool}{n:Nat}{io:List Nat}
theorem rY {Z:Fp}{H H1:Hp}{G:Fp}(same:∀ a o,H a=some o->H1 a=some o):Step Z H G Z H1 G:=by
 have al:∀ a,H a≠none->H1 a≠none:=fun a h=>by
  cases e:H a with
  | none=>exact absurd e h
  | some o=>rw [same a o e]; simp
 exact ⟨fun a o h _=>same a o h,fun _ h=>h,fun _ h=>.inl h,fun _ h=>.inl h,al,fun z a h=>al a (z a h)⟩
theorem nC {K:a0a}{Z:Fp}{H H1:Hp}{G:Fp}{w:M.W}{Q:VK}(same:∀ a o,H a=some o->H1 a=some o)(k:Out K Z H G w Q):Out K Z H1 G w Q:=fun v Z' H' G' r o t=>k v Z' H' G' r o ((rY same).trans t)
theorem pJ {H:Hp}{p:Addr}{o:HO}(hp:H p=none):∀ a u,H a=some u->upd H p o a=some u:=fun a u e=>by
 have:a≠p:=fun q=>by subst q; rw [hp] at e; cases e
 rw [ab this]; exact e
theorem CC {c:String}{k:Str}(hc:c∈["tuple","str","bool","int","list"])(hv:bootBuiltins k=some (.type c))(hm:X.mg "isinstance"=none)(hm2:X.mg k=none)(ha:SE X sf C ea a)(hg:Gl X "isinstance":=by rfl)(hg2:Gl X k:=by rfl)(hn:k≠"__name__":=by decide)(hd:(k==("__debug__":Str))=false:=by decide)
  (hs:starEach [ea,.Name k p2] X.env=(false,eval ea X.env)::starEach [.Name k p2] X.env:=by rfl) (hs2:starEach [.Name k p2] X.env=(false,eval (.Name k p2) X.env)::starEach [] X.env:=by rfl) (hpl:(backTo pos (starEach [.Name k p2] X.env)).any (·.1)=false:=by rfl) :
  SE X sf C (.Call (.Name "isinstance" p3) [ea,.Name k p2] [] pos) (.op (.isI [c]) h [a]) :=
 au (bF (oA hc) hg hm a3l (aG ha (aG (Ad hg2 hm2 hv hn hd) bx hs2) hs) (by decide) (by decide) hs hpl) fun σ H Q hw=>by
  obtain ⟨pv,Z,Fs,η,w,η',A,ev,k⟩:=hw
  obtain ⟨ws,h1,h2⟩:=cx ev
  obtain ⟨⟨m,u⟩,η1,us,e1,e2,rfl⟩:=av h1
  cases e2
  obtain ⟨hug,h2⟩:=ifN (show (if u.isG=true then none else some _)=_ from h2)
  cases h2
  refine ⟨pv,Z,Fs,η,(m,u),η',A,e1,fun x Z' H' Fs' G B r s=>?_⟩
  obtain ⟨t1,t2⟩:=sF hug r
  refine ⟨x,thT u,rfl,t1,?_⟩
  have:=dB (bN B s k)
  rw [rV t2]
  rw [show ([c].any fun c=>M.isOne c u)=M.isOne c u by simp] at this
  exact this
theorem AV (j:Nat){i:Nat}{x:Str}{apos cpos px:Pos}(hs:sf i=some j:=by rfl)(hN:X.N[j]?=some x:=by rfl)(hv:Vis X.env.scope x:=by first | exact a0y rfl | exact a0s (a0y rfl) | exact a0s (a0s rfl))(hd:(x==("__debug__":Str))=false:=by decide)(hcd:(x==("__classdict__":Str))=false:=by decide)
  (hbase:attributeBase (.Name x px) "pop" X.env (eval (.Name x px) X.env)=eval (.Name x px) X.env:=by rfl) (hline:(apos.endLine==cpos.line)=true:=by rfl) :
  SE X sf C (.Call (.Attribute (.Name x px) "pop" apos) [] [] cpos) (.pop i []) :=
 au (jZ a0P a1N a1O n0 (az hN hv hd hcd) hbase hline) fun σ H Q hw=>by
  obtain ⟨a,xs,y,hj,hp,hy,q⟩:=tV hs σ H Q hw
  exact ⟨.ref a,hj,.inl ⟨rfl,xs,.inl (.inl hp)⟩,a,xs,y,rfl,rfl,hp,hy,q⟩
theorem AK {es:List Expr}{kt:Nat}{pt p:Pos}(hm:X.mg "enumerate"=none)(hg:Gl X "enumerate":=by rfl)(ha:SE X sf C ea a)(hs:starEach [ea] X.env=[(false,eval ea X.env)]:=by rfl):PI X (.Tuple es kt pt) (.Call (.Name "enumerate" p) [ea] [] pos) (wI X.K sf C 2 .enm [a]):=iZ (tS hg hm (slc ha sl0 hs) hs) zo
end
end MR

namespace MR
open PySem PySem.Spec PyProof.Rows L2 L3
structure Txt (mg:Str->Option Value):Prop where
 isin:mg "isinstance"=none
 int:mg "int"=none
 tup:mg "tuple"=none
 list:mg "list"=none
 bool:mg "bool"=none
 sum:mg "sum"=none
 len:mg "len"=none
 all:mg "all"=none
 zip:mg "zip"=none
 range:mg "range"=none
 enum:mg "enumerate"=none
 any:mg "any"=none
 max:mg "max"=none
 min:mg "min"=none
 sorted:mg "sorted"=none
 str:mg "str"=none
 repr:mg "repr"=none
 abs:mg "abs"=none
 dict:mg "dict"=none
 set:mg "set"=none
 rev:mg "reversed"=none
theorem frc {X:Cx}{scope:Scope}{cl:List (Str×Addr)}{y:Str}{ys:List Str}{i:Nat}{is:List Nat}{c:Addr}(r:Frees X scope cl ys is)(h1:X.N[i]?=some y:=by rfl)(h2:Vis X.env.scope y:=by first | exact a0y rfl | exact a0s (a0y rfl) | exact a0s (a0s rfl))(h3:X.env.kindOf y=some .cell\/X.env.kindOf y=some .free:=by first | exact a0y rfl | exact a0s rfl)
  (h4:X.env.cells.lookup y=some c:=by rfl) (h5:cl.lookup y=some c:=by rfl) (h6:(relabel scope X.env).names.lookup y=some .cell\/(relabel scope X.env).names.lookup y=some .free:=by first | exact a0y rfl | exact a0s rfl):Frees X scope cl (y::ys) (i::is):=.cons h1 h2 h3 h4 h5 h6 r
theorem jU {X:Cx}{y:Str}{c:Addr}{cl:List (Str×Addr)}(r:Clo X cl)(h:X.env.cells.lookup y=some c:=by rfl):Clo X ((y,c)::cl):=.cons h r
section
variable {X:Cx}{sf sg:Nat->Option Nat}{C:M.Call}{pos p2 p3:Pos}{ea eb ec:Expr}{a b c:M.E}{h:Bool}{n:Nat}{io:List Nat}
section
variable {elt iter cnd:Expr}{x y:Str}{px py pt:Pos}{kt:Nat}{scope:Scope}{tg:List Nat}{k:M.Ik}{src:List M.E}{e cd:M.E}
theorem zC1 (j:Nat)(ls:List Nat)(is:List Nat)(cl:List (Str×Addr))(ys:List Str){z:Str}{pz spos:Pos}{xx:M.X}{i t:Nat}(hi:PI X (.Name x px) iter (wI X.K sf C 1 k src))(he:∀ Ca s H fp,SE (af X ([x]++ys) scope cl Ca s H fp) (inF [t] ls) C elt e)
  (S:aj [x] ys scope) (hcl:Clo X cl) (fr:Frees X scope cl ys is) (hN:X.N.Nodup) (hni:i ∉ io:=by decide) (hsj:sf i=some j:=by rfl) (hj:X.N[j]?=some z:=by rfl) (hz:L2.Loc X.env.scope z:=by first | exact a0y rfl | exact a0s rfl)
  (hsw:swapsWith (.ListComp elt [⟨(.Name x px),iter,[],0⟩] scope pos) (some (.Name z pz)) spos.line X.env=pure true:=by rfl) (hc:X.calm=true:=by rfl) (hl:ls.map sf=is.map some:=by rfl)
  (hclos:closureFor scope X.env=pure cl:=by with_unfolding_all rfl) (hfr:(scope.names.all fun p=>p.2 != .free || (cl.lookup p.1).isSome)=true:=by rfl)
  (hs:∀ v,foldedSetIterable iter X.env v=pure v:=by intro _; rfl) (hfn:X.fn z=true\/X.env.scope.names.lookup z=some .local:=by first | exact .inl rfl | exact .inr rfl):SS X sf io C (.Assign [.Name z pz] (.ListComp elt [⟨(.Name x px),iter,[],0⟩] scope pos) spos) (.asg xx i (.comp h k src [t] none e)) :=
 ba (mW (pre:=[x]) hN hj hz hsw hc hi (qE S) (fun Ca s H fp=>he Ca s H fp) hclos S hcl hfr fr hs hfn) fun D σ H hw=>eR rfl (by simp) (b0 hl) σ H _ (j4 hni hsj D σ H hw)
theorem CQ (j:Nat)(ls:List Nat)(is:List Nat)(cl:List (Str×Addr))(ys:List Str){z:Str}{pz spos:Pos}{xx:M.X}{i t:Nat}(hi:PI X (.Name x px) iter (wI X.K sf C 1 k src))(hcd:∀ Ca s H fp,SB (af X ([x]++ys) scope cl Ca s H fp) (inF [t] ls) C cnd cd)(he:∀ Ca s H fp,SE (af X ([x]++ys) scope cl Ca s H fp) (inF [t] ls) C elt e)
  (S:aj [x] ys scope) (hcl:Clo X cl) (fr:Frees X scope cl ys is) (hN:X.N.Nodup) (hni:i ∉ io:=by decide) (hsj:sf i=some j:=by rfl) (hj:X.N[j]?=some z:=by rfl) (hz:L2.Loc X.env.scope z:=by first | exact a0y rfl | exact a0s rfl)
  (hsw:swapsWith (.ListComp elt [⟨(.Name x px),iter,[cnd],0⟩] scope pos) (some (.Name z pz)) spos.line X.env=pure true:=by rfl) (hc:X.calm=true:=by rfl) (hl:ls.map sf=is.map some:=by rfl)
  (hclos:closureFor scope X.env=pure cl:=by with_unfolding_all rfl) (hfr:(scope.names.all fun p=>p.2 != .free || (cl.lookup p.1).isSome)=true:=by rfl)
  (hs:∀ v,foldedSetIterable iter X.env v=pure v:=by intro _; rfl) (hfn:X.fn z=true\/X.env.scope.names.lookup z=some .local:=by first | exact .inl rfl | exact .inr rfl):SS X sf io C (.Assign [.Name z pz] (.ListComp elt [⟨(.Name x px),iter,[cnd],0⟩] scope pos) spos) (.asg xx i (.comp h k src [t] (some cd) e)) :=
 ba (mC (pre:=[x]) hN hj hz hsw hc hi (qE S) (fun Ca s H fp=>he Ca s H fp) (fun Ca s H fp=>hcd Ca s H fp) hclos S hcl hfr fr hs hfn) fun D σ H hw=>je rfl (by simp) (b0 hl) σ H _ (j4 hni hsj D σ H hw)
end
end
end MR

namespace MR
open PySem PySem.Spec PyProof.Rows L2 L3
section
variable {P:Program}{w:World}{K:a0a}{mg:Str->Option Value}{base:Heap}
theorem iE {C:M.Call}{g:Nat}{io:List Nat}{vs:List V}{H:Hp}{Q:VK}{E:XK}(hC:∀ ws,C g ws=.no)(h:spS K C g io vs H Q E):False:=by
 obtain ⟨Z,ws,G,w,bs,_,_,_,e,_⟩:=h
 rw [hC] at e
 cases e
theorem fn0 {f:Addr}{fd:FuncData}{ps:List Str}{k g:Nat}{io:List Nat}{C:M.Call}(hC:∀ ws,C g ws=.no):cZ P w K mg base CX0 k f fd ps (spS K C g io) :=
 ⟨fun _ _ _ _ h=>(iE hC h).elim,fun _ _ _ _ _ _ _ _ _ _ _ _ _ h=>(iE hC h).elim⟩
theorem jG {Z:Fp}{H:Hp}{a:Addr}{ns:List Int}(hO:qF H)(hl:ns.length<=63)(h:SqL K H a (ns.map V.int)):Rep K Z H .d (.scr ns) (.ref a) no:=by
 refine ⟨a,rfl,a0u hl (by decide),?_⟩
 rcases h with (z | ⟨o,z⟩) | z
 ·rcases hO a with y | ⟨o,xs,y⟩<;>rw [y] at z<;>cases z
 ·exact .inl ⟨o,z⟩
 ·exact .inr (.inr z)
theorem ya {H:Hp}{a:Addr}{ns:List Int}{C:M.Call}{ix:Nat}(hp:∃ m bs,C ix [(.d,.scr ns)]=.ok ((m,.bl true),bs))(hl:ns.length<=63)(hO:qF H)(h:SqL K H a (ns.map V.int)):spS K C ix [] [.ref a] H (fun v _=>v=.bl true) fun _ _ _=>False:=by
 obtain ⟨m,bs,e⟩:=hp
 exact ⟨no,[(.d,.scr ns)],no,(m,.bl true),bs,RepW.one (jG hO hl h),bC,fun _ z=>z.elim,e,fun v Z' H' G1 G2 r _ _ _ _=>r⟩
end
end MR

namespace MR
open PySem PySem.Spec PyProof.Rows L2 L3
structure SBs (as:List Addr)(H H':Hp):Prop where
 keep:∀ b u,b ∉ as->H b=some u->H' b=some u
 al:∀ b,H b≠none->H' b≠none
instance {as:List Addr} {H H':Hp}:CoeFun (SBs as H H') (fun _=>∀ b u,b ∉ as->H b=some u->H' b=some u):=⟨fun s=>s.keep⟩
end MR

namespace MR
open PySem PySem.Spec PyProof.Rows L2 L3
end MR

namespace MR
open PySem PySem.Spec PyProof.Rows L2 L3
end MR

namespace MR
open PySem PySem.Spec PyProof.Rows L2 L3
section
variable {X:Cx}{sf sg:Nat->Option Nat}{io:List Nat}{C:M.Call}{pos p2:Pos}{ea eb ec:Expr}{a b c:M.E}{h:Bool}{n:Nat}
theorem vt {tg:Expr}(ha:SE X sf C ea a):PI X tg ea (wI X.K sf C 2 .sq2 [a]):=iZ (dZ ha) zt
theorem uW {u w:M.W}(e:M.oSem .len false [u]=some w):∃ n:Nat,w=(.d,.int n):=by
 obtain ⟨m,a⟩:=u
 cases a<;>first | (cases e; exact ⟨_,rfl⟩) | (cases e; done)
theorem Ba (j:Nat){i:Nat}{x:Str}{p px:Pos}(hm:X.mg "len"=none)(hg:Gl X "len":=by rfl)(hs:sf i=some j:=by rfl)(hN:X.N[j]?=some x:=by rfl)(hv:Vis X.env.scope x:=by first | exact a0y rfl | exact a0s (a0y rfl) | exact a0s (a0s rfl))(hd:(x==("__debug__":Str))=false:=by decide)
  (hcd:(x==("__classdict__":Str))=false:=by decide) (hst:starEach [.Name x px] X.env=(false,eval (.Name x px) X.env)::starEach [] X.env:=by rfl) (hpl:(backTo pos (starEach [] X.env)).any (·.1)=false:=by rfl):SE X sf C (.Call (.Name "len" p) [.Name x px] [] pos) (.lenV i) :=
 au (bF ir hg hm a3r (aG (az hN hv hd hcd) bx hst) (by decide) (by decide) hst hpl) fun σ H Q hw=>by
  obtain ⟨pv,Z,Fs,η,w,η',A,ev,k⟩:=hw
  obtain ⟨w',e1,e2⟩:=aq (show M.ret η ((M.rd η i).bind fun w=>M.oSem .len false [w])=_ from ev)
  cases e2
  cases e0:M.rd η i with
  | none=>rw [e0] at e1; cases e1
  | some w0 =>
   rw [e0] at e1
   have e1':M.oSem .len false [w0]=some w:=e1
   obtain ⟨n,rfl⟩:=uW e1'
   obtain ⟨v,r,hv'⟩:=A.env i w0.1 w0.2 e0
   obtain ⟨x',n',hx,hl,hq⟩:=jr (K:=X.K) (h:=false) [w0] (.d,.int n) [v] Z H (Fs i) (fun v' _=>v'=.int n) rfl e1' (RepW.one r) (fun a ha=>A.gd.own a ⟨i,ha⟩) A.gd.zal (fun _ _ _ _ r _ _=>r)
   cases hx
   cases hq
   exact ⟨v,hv'.1 j hs,v,n,rfl,hl,k _ Z H Fs no A rfl ((Step.refl _ _ _).mono (fun _ z=>z) fun a ha=>ha.elim id fun z=>z.elim)⟩
end
end MR

namespace MR
open PySem PySem.Spec PyProof.Rows L2 L3
section
variable {X:Cx}{sf sg:Nat->Option Nat}{C:M.Call}{pos p2 p3:Pos}{ea eb ec:Expr}{a b c:M.E}{h:Bool}{n:Nat}{io:List Nat}
theorem zA {K:a0a}{vs ls:List Nat}{e:M.E}(σ:L2.St)(H:Hp)(Q:VK)(h:wE K sf C (.qx vs ls e) σ H Q):wE K sf C e σ H Q:=by
 obtain ⟨pv,Z,Fs,η,w,η',A,ev,k⟩:=h
 exact gK (x:=.q vs ls) (sl:=⟨sf,pv⟩) A ev k
theorem sQ {vs ls:List Nat}(ha:SE X sf C ea a):SE X sf C ea (.qx vs ls a):=au ha zA
noncomputable def vn (K:a0a)(H:Hp):List Nat->V->V->Prop
 | [],v,u=>u=v
 | j::p,v,u=>∃ a xs x,v=.ref a/\(SqL K H a xs\/SqT K H a xs)/\xs[j]?=some x/\vn K H p x u
noncomputable def wP (K:a0a)(sf:Nat->Option Nat)(i:Nat)(p:List Nat):TE:=fun σ H Q=>∃ j v u,sf i=some j/\σ[j]?=some (some v)/\vn K H p v u/\Q u H
noncomputable abbrev SP (X:Cx)(sf:Nat->Option Nat)(me:Expr)(i:Nat)(p:List Nat):Prop:=PE X me (wP X.K sf i p)
noncomputable def Bg (Fs:Fps)(i:Nat)(G:Fp):Fps:=fun l a=>(l=i/\G a)\/(l≠i/\Fs l a)
end
end MR

namespace MR
open PySem PySem.Spec PyProof.Rows L2 L3
theorem fsc {N P:List Str}{sc:Scope}(h1:sc.kind=.function:=by rfl)(h2:sc.isCoroutine=false:=by rfl)(h3:sc.isGenerator=false:=by rfl)(h4:N.Nodup:=by decide +kernel)(h5:N.take P.length=P:=by rfl)(h6:∀ x∈P,sc.names.lookup x=some .local\/sc.names.lookup x=some .cell:=by decide +kernel)(h7:∀ y∈sc.names,y.2≠.free:=by decide +kernel):aD N P sc:=⟨h1,h2,h3,h4,h5,h6,h7⟩
theorem csc {pre ys:List Str}{scope:Scope}(h1:scope.kind=.function:=by rfl)(h2:∀ y∈scope.names,y.2≠.cell:=by decide +kernel)(h3:∀ y∈scope.names,y.2=.local->scope.names.lookup y.1=some .local:=by decide +kernel)(h4:∀ x∈pre,scope.names.lookup x=some .local:=by decide +kernel)(h5:(pre++ys).Nodup:=by decide +kernel):aj pre ys scope:=⟨h1,h2,h3,h4,h5⟩
section
variable {P:Program}{w:World}{K:a0a}{mg:Str->Option Value}{base:Heap}{x:Str}{st:Stmt}{ps N:List Str}{n g:Nat}{io:List Nat}{C C':M.Call}{d:Value}{t:M.T}
structure Df (K:a0a)(mg:Str->Option Value)(x:Str)(st:Stmt)(ps:List Str):Prop where
 ex:∃ f fd,Fun K x x st f fd/\Binds K fd ps []/\mg x=some (.ref f)
theorem Df.ok (e:Df K mg x st ps)(h:∀ f fd,Fun K x x st f fd->cZ P w K mg base CX0 n f fd ps (spS K C g io)):ak P w K mg base n C x g io:=by
 obtain ⟨f,fd,F,b,m⟩:=e.ex
 exact ⟨f,fd,ps,h f fd F,m,F.kp,b⟩
theorem Df.z (e:Df K mg x st ps)(hC:∀ ws,C g ws=.no:=by intro _; rfl):ak P w K mg base n C x g io:=e.ok fun _ _ _=>fn0 hC
theorem Df.s (fn:M.Fn)(e:Df K mg x st ps)(S:aD N ps (defScope st))
  (hb:∀ {f:Addr} {cdv:Value} {A:Around} {outer:List Env} {s:Shared} {H:Hp} {E:XK},Room n (A.deeper (envOfC x (defScope st) s.heap.objs.size f cdv))->SSs (gJ CX0 P w K mg base N x (defScope st) f cdv A outer s H E).nox (slN N.length) fn.io C (defBody st) fn.body)
  (hC:∀ ws,C' g ws=M.runF C fn ws:=by intro _; rfl) (hps:fn.ps=ps.length:=by rfl) (hle:ps.length<=N.length:=by decide) (nd:fn.io.Nodup:=by decide) (hio:∀ i∈fn.io,i < ps.length:=by decide):ak P w K mg base (n+1) C' x g fn.io :=
 e.ok fun _ _ F=>Fun.okM F S hps hle nd hio (fun _ _ _ _ _ _ h=>hb h) hC
noncomputable def Raw (K:a0a)(x:Str)(st:Stmt)(dV:Value):Prop:=∃ f oc od sl kV dc pm an cd ct,a29 K mainGlobals x=some (some (.ref f))/\K.lookup f=some ⟨oc,od,.func (a1g x x (defArgs st) (defBody st) (defScope st) dV kV dc pm an cd ct),sl⟩/\a15 K cd x=true/\a1K K (.ref f)=true
theorem cO {h:Heap}(X:K.In h)(G:h.Ns mainGlobals mg)(r:Raw K x st .none)(hb:∀ (kV doc pm:Value) (an:Option Addr) (cdv ct:Value) (us:List Value),us.length=ps.length->bindArgs (a1g x x (defArgs st) (defBody st) (defScope st) .none kV doc pm an cdv ct) ⟨us,[]⟩=pure (ps.zip us)):Df K mg x st ps:=by
 obtain ⟨f,oc,od,sl,kV,dc,pm,an,cd,ct,h1,h2,h3,h4⟩:=r
 have F:=pE (st:=st) h2 h3 h4
 exact ⟨f,_,F,F.binds hb,a3z X G h1⟩
noncomputable def x9 (K:a0a):List Str->Prop
 | []=>True
 | x::r=>a29 K mainGlobals x=some none/\x9 K r
theorem wF {h:Heap}(X:K.In h)(G:h.Ns mainGlobals mg)(r:x9 K ["isinstance","int","tuple","list","bool","sum","len","all","zip","range","enumerate","any","max","min","sorted","str","repr","abs","dict","set","reversed"]):Txt mg:=by
 obtain ⟨z1,z2,z3,z4,z5,z6,z7,z8,z9,z10,z11,z12,z13,z14,z15,z16,z17,z18,z19,z20,z21,_⟩:=r
 have m:=fun {x:Str} (z:a29 K mainGlobals x=some none)=>PySem.W.mg_none_of X G z
 exact ⟨m z1,m z2,m z3,m z4,m z5,m z6,m z7,m z8,m z9,m z10,m z11,m z12,m z13,m z14,m z15,m z16,m z17,m z18,m z19,m z20,m z21⟩
end
end MR

namespace MR
open PySem PySem.Spec PyProof.Rows L2 L3
end MR
namespace MR
open PySem PySem.Spec PyProof.Rows L2 L3
end MR
namespace MR
open PySem PySem.Spec PyProof.Rows L2 L3
theorem mj {X:Cx}:cy X (.type "range") (fun xs H Q=>∃ j,xs=[.int j]/\∀ p,H p=none->Q (.ref p) (upd H p (.rng 0 j))):=by
 intro pins s σ H xs us Q I r h
 obtain ⟨j,rfl,q⟩:=h
 obtain ⟨u,rfl,t,rfl⟩:=dJ r
 refine call_range_1 ?_
 exact ⟨.ref s.heap.objs.size,upd H s.heap.objs.size (.rng 0 j),I.laid (t':=s.toks+2) (fun _ _ e=>Heap.get?_push_of_some _ e) (a0h _) ⟨_,_,_,Heap.get?_push_size _ rfl⟩,rfl,q _ I.fresh⟩
section
variable {X:Cx}{sf sg:Nat->Option Nat}{C:M.Call}{pos p p2 p3:Pos}{ea eb ec:Expr}{a b c:M.E}{h:Bool}{io:List Nat}
theorem C3 (hm:X.mg "list"=none)(hm2:X.mg "range"=none)(ha:SE X sf C ea a)(hc:X.calm=true:=by rfl)(hg:Gl X "list":=by rfl)(hg2:Gl X "range":=by rfl)
  (hs:starEach [.Call (.Name "range" p3) [ea] [] p2] X.env=(false,eval (.Call (.Name "range" p3) [ea] [] p2) X.env)::starEach [] X.env:=by rfl) (hpl:(backTo pos (starEach [] X.env)).any (·.1)=false:=by rfl)
  (hs3:starEach [ea] X.env=(false,eval ea X.env)::starEach [] X.env:=by rfl) (hpl2:(backTo p2 (starEach [] X.env)).any (·.1)=false:=by rfl) {p4:Pos} :
  SE X sf C (.Call (.Name "list" p4) [.Call (.Name "range" p3) [ea] [] p2] [] pos) (.op .rng h [.cst (.int 0),a]) :=
 au (dE (jB hc) hg hm a1G (aG (dE mj hg2 hm2 a3A (aG ha bx hs3) (by decide) (by decide) hs3 hpl2) bx hs) (by decide) (by decide) hs hpl) fun σ H Q hw=>by
  obtain ⟨pv,Z,Fs,η,w,η',A,ev,k⟩:=hw
  obtain ⟨ws,h1,h2⟩:=cx ev
  obtain ⟨⟨m,u⟩,η1,us,e1,e2,rfl⟩:=av h1
  obtain ⟨⟨m',u'⟩,η2,us,e3,e4,rfl⟩:=av e2
  cases e4
  cases e1
  cases u' with
  | int j =>
   have h3:(if (decide ((0:Int).natAbs < 4611686018427387904)&&decide (j.natAbs < 4611686018427387904)&&M.fits (j-0).toNat)=true then some ((.d,.lst ((a0p (j-0).toNat).map fun (k:Nat)=>M.T.int (0+k))):M.W) else none)=some w:=h2
   split at h3
   ·rename_i hc
    rw [a0k,a0k,decide_eq_true_eq,decide_eq_true_eq] at hc
    cases h3
    refine ⟨pv,Z,Fs,η,(m',.int j),η',A,e3,fun y Z2 H2 Fs2 G2 A2 r2 s2=>?_⟩
    cases r2
    refine ⟨j,rfl,fun p hp=>⟨p,0,j,rfl,ag,⟨by omega,by omega,by omega,by omega⟩,a8 (bB hc.2),fun l hl=>?_⟩⟩
    have sm:=pJ (o:=.rng 0 j) hp
    have ow:Own Z2 (upd H2 p (.rng 0 j)) G2:=fun a ha=>by
     obtain ⟨z1,ys,z2⟩:=A2.own a ha
     exact ⟨z1,ys,sm a _ z2⟩
    have za:∀ a,Z2 a->upd H2 p (.rng 0 j) a≠none:=fun a ha q=>by
     cases e:H2 a with
     | none=>exact A2.gd.zal a ha e
     | some o=>rw [sm a o e] at q; cases q
    have kk:=nC sm (bN A2 s2 k)
    refine bo (m:=.d) (G':=no) ow za (fun _ z=>z.elim) ?_ ?_ (by simp) kk hl
    ·rw [a0e,a0K]; exact bB hc.2
    ·have q1:((a0p (j-0).toNat).map fun (k:Nat)=>M.T.int (0+(k:Int)))=((a0p (j-0).toNat).map fun (k:Nat)=>0+(k:Int)).map M.T.int:=by rw [a03]; rfl
     have q2:((a0p (j-0).toNat).map fun (k:Nat)=>V.int (0+(k:Int)))=((a0p (j-0).toNat).map fun (k:Nat)=>0+(k:Int)).map V.int:=by rw [a03]; rfl
     rw [q1,q2]
     exact ee _
   ·cases h3
  | _=>cases h2
end
end MR
namespace MR
open PySem PySem.Spec PyProof.Rows L2 L3
section
variable {X:Cx}{sf sg:Nat->Option Nat}{C:M.Call}{pos p p2 p3:Pos}{ea eb ec:Expr}{a b c:M.E}{h:Bool}{io:List Nat}{K:a0a}
theorem wu {x y:Int}(h:y.natAbs < 18446744073709551616):Builtin.divisionGoesByPylong x y=false:=by
 refine PyProof.noPylong_of_log2 ?_
 by_cases h0:y.natAbs=0
 ·rw [h0]; decide +kernel
 ·have h30:y.natAbs.log2 < 64:=(Nat.log2_lt h0).mpr h
  omega
theorem qj:OpR X (binaryOp .FloorDiv) (rI (fun _ j=>j≠0/\j.natAbs < 18446744073709551616) fun i j=>.int (i.fdiv j)):=opI fun _ _ _ _ _ _ _ hc q=>floordiv_int hc.1 q (.inl (wu hc.2))
theorem lS:Loc K 2 .fdivN h fun xs H Q=>∀ x y,xs=[x,y]->rI (fun _ j=>j≠0/\j.natAbs < 18446744073709551616) (fun i j=>.int (i.fdiv j)) x y H Q:=by
 intro ws w xs Z H G Q hn e r ow za k x y hx
 subst hx
 obtain ⟨⟨m,a⟩,⟨n,b⟩,rfl⟩:=dy r.length.symm
 obtain ⟨G1,G2,w1,w2,d,r1,r2⟩:=b5 r
 cases a with
 | int i =>
  cases b with
  | int j =>
   have e':(if ((j != 0)&&decide (j.natAbs < 18446744073709551616))=true then some ((.d,.int (i.fdiv j)):M.W) else none)=some w:=e
   split at e'
   ·rename_i hc
    rw [a0k,decide_eq_true_eq,bne_iff_ne] at hc
    cases e'
    exact ⟨i,j,r1,r2,hc,aF k⟩
   ·cases e'
  | _=>cases e
 | _=>cases b<;>cases e
theorem oO:Loc K 2 .modN h fun xs H Q=>∀ x y,xs=[x,y]->rI (fun _ j=>j≠0) (fun i j=>.int (i.fmod j)) x y H Q:=by
 intro ws w xs Z H G Q hn e r ow za k x y hx
 subst hx
 obtain ⟨⟨m,a⟩,⟨n,b⟩,rfl⟩:=dy r.length.symm
 obtain ⟨G1,G2,w1,w2,d,r1,r2⟩:=b5 r
 cases a with
 | int i =>
  cases b with
  | int j =>
   have e':(if (j != 0)=true then some ((.d,.int (i.fmod j)):M.W) else none)=some w:=e
   split at e'
   ·rename_i hc
    rw [bne_iff_ne] at hc
    cases e'
    exact ⟨i,j,r1,r2,hc,aF k⟩
   ·cases e'
  | _=>cases e
 | _=>cases b<;>cases e
theorem nK (ha:SE X sf C ea a)(hb:SE X sf C eb b):SE X sf C (.BinOp ea .FloorDiv eb pos) (.op .fdivN h [a,b]):=au (dM qj ha hb) (aL lS)
theorem dI (ha:SE X sf C ea a)(hb:SE X sf C eb b):SE X sf C (.BinOp ea .Mod eb pos) (.op .modN h [a,b]):=au (dM qY ha hb) (aL oO)
end
end MR
namespace MR
open PySem PySem.Spec PyProof.Rows L2 L3
end MR

namespace MR
open PySem PySem.W L2 M
end MR

namespace MR
open PySem PySem.Spec PyProof.Rows L2 L3 M
section
variable {X:Cx}{sf sg:Nat->Option Nat}{C:M.Call}{pos p p2 p3:Pos}{io:List Nat}{K:a0a}{tg:List Nat}
theorem sC {n:Nat}{k:Ik}{src:List M.E}{js:List Nat}{body:List M.S}(hn:tg.length=n)(nd:tg.Nodup)(hio:∀ t∈tg,t ∉ io)(hjs:tg.map sf=js.map some)(D:aT)(σ:L2.St)(H:Hp)(h:wS K sf io C (.forU k src tg body) D σ H) :
  tU (wI K sf C n k src) (gF K js) (wSs K sf io C body) D σ H:=by
 obtain ⟨pv,Z,Fs,η,N,A,f⟩:=h
 obtain ⟨⟨ws,η2⟩,h1,h2⟩:=aS (show Fin K ⟨sf,pv⟩ Z H (tot Fs) D (Fl.of η (evL C src η) (kC k tg (evSs C body))) from f)
 obtain ⟨⟨ts,η3⟩,h3,h4⟩:=aS (show Fin K ⟨sf,pv⟩ Z H (tot Fs) D (Fl.of η2 (M.ret η2 (a7 k ws)) (iJ tg (evSs C body))) from h2)
 obtain ⟨ts',ht,e3⟩:=aq h3
 have e4:ts=ts':=congrArg a3y e3
 have e5:η3=η2:=congrArg a1V e3
 subst e4 e5
 have h4':Fin K ⟨sf,pv⟩ Z H (tot Fs) D (bf tg (evSs C body) ts η3):=h4
 refine ⟨pv,Z,Fs,η,ws,η3,ts,A,h1,ht,fun J Z1 H1 Fs1 B s wk yl=>?_⟩
 refine ⟨fun i m σ' H'=>m=ts.length-i/\i<=ts.length/\∃ Zi Fsi ηi,At K ⟨sf,pv⟩ σ' Zi H' Fsi ηi no/\Step Z1 H1 (tot Fs1) Zi H' (tot Fsi)/\Fin K ⟨sf,pv⟩ Zi H' (tot Fsi) D (bf tg (evSs C body) (ts.drop i) ηi),⟨ts.length,by simp,a0F _,_,_,_,B,Step.refl _ _ _,h4'.step s⟩,?_⟩
 rintro i m σi H0 ⟨rfl,hi,Zi,Fsi,ηi,Ai,si,fi⟩
 have st:Stay Z1 H1 H0:=B.gd.own.stay si
 by_cases hlt:i < ts.length
 ·right
  refine ⟨wk.go H0 i st hlt,_,fun σ' H' hw=>⟨ts.length-(i+1),by omega,hw⟩,fun x H' y=>?_⟩
  have hw:ts[i]?=some ts[i]:=by simp [hlt]
  rw [cJ hw] at fi
  obtain ⟨ηb,hb,fb⟩:=aS (show Fin K ⟨sf,pv⟩ Zi H0 (tot Fsi) D (Fl.of ηi (ofO (aM tg ts[i] ηi)) fun η1=>Fl.turn (evSs C body η1) (bf tg (evSs C body) (ts.drop (i+1)))) from fi)
  refine i2 hn nd N hio hjs (fun a h=>si.zm a h) st yl Ai hw (a9 hb) y fun σ2 H2 Fs2 A2 t2=>?_
  refine ⟨pv,Zi,Fs2,ηb,N,A2,eC (fb.step t2) fun η' σ' Z' H' Fs' _ f' A' s'=>⟨rfl,hlt,Z',Fs',η',A',(si.trans t2).trans s',f'.step s'⟩⟩
 ·left
  have hi':i=ts.length:=by omega
  subst hi'
  rw [a1t] at fi
  exact ⟨wk.stop H0 _ st (a0h _),fi σi Zi H0 Fsi Ai (Step.refl _ _ _)⟩
theorem n5 (j:Nat){t:Nat}{x:Str}{px:Pos}{iter:Expr}{r:List Stmt}{s:List M.S}{k:M.Ik}{src:List M.E}(hN:X.N.Nodup)(hi:PI X (.Name x px) iter (wI X.K sf C 1 k src))(ha:SSs X sf io C r s)(hio:∀ u∈[t],u ∉ io:=by decide)(hjs:[t].map sf=[j].map some:=by rfl)(hj:X.N[j]?=some x:=by rfl)(hx:L2.Loc X.env.scope x:=by first | exact a0y rfl | exact a0s rfl)
  (hc:X.calm=true:=by rfl) (hp:PassesOwn (model X.prog X.w) X.A X.env X.xe:=by exact PassesOwn.never) (hf:X.fn x=true\/X.env.scope.names.lookup x=some .local:=by first | exact .inl rfl | exact .inr rfl) (hs:∀ x,foldedSetIterable iter X.env x=pure x:=by intro _; rfl):SS X sf io C (.For (.Name x px) iter r [] pos) (.forU k src [t] s) :=
 ba (gX hp hc hi (bJ (i:=j) hN hj hx hf) ha hs) (sC rfl (by simp) hio hjs)
end
end MR

namespace L3
open PySem PySem.Spec PyProof.Rows L2
end L3
namespace MR
open PySem PySem.Spec PyProof.Rows L2 L3
end MR

namespace L3
open PySem PySem.Spec PyProof.Rows L2
theorem fS:∀ {ns:List Int} {us:List Value},IntsAre us ns->Vals (ns.map V.int) us
 | _,_,.nil=>.nil
 | _,_,.cons n t h=>.cons ⟨t,rfl⟩ (fS h)
theorem jy {X:Cx}:cy X (.builtin "sorted") (fun xs H Q=>∃ (a:Addr) (ns:List Int),xs=[.ref a]/\SqL X.K H a (ns.map V.int)/\ns.length < 64/\∀ ms:List Int,ms.Perm ns->ms.Pairwise (·<=·)->∀ p,H p=none->Q (.ref p) (upd H p (.lst (ms.map V.int)))):=by
 intro pins s σ H xs us Q I r h
 obtain ⟨a,ns,rfl,hS,h64,q⟩:=h
 obtain ⟨u,rfl,ru⟩:=dJ r
 cases ru
 obtain ⟨its,rv,p,hz⟩:=I.list hS
 have hi:=bT rv
 have hlen:its.length=ns.length:=IntsAre.length hi
 refine sorted_ints p.isList hi (by omega) fun out ms h1 h2 h3=>?_
 obtain ⟨e,he⟩:=sortedAll_at s.heap its out
 have hml:ms.length=ns.length:=h2.length_eq
 refine ⟨.ref (s.heap.objs.size+1),upd H (s.heap.objs.size+1) (.lst (ms.map V.int)),I.laid (t':=s.toks) (fun _ _=>sortedAll_old) (a2i _) ⟨by rw [a0e,sizeLine_eq]; omega,out.toList,e,fS h1,by rw [he,a2K]⟩,rfl,q _ h2 h3 _ (I.hok.fresh (a2i _))⟩
end L3
namespace MR
open PySem PySem.Spec PyProof.Rows L2 L3
section
variable {X:Cx}{sf sg:Nat->Option Nat}{C:M.Call}{pos p p2 p3:Pos}{ea eb ec:Expr}{a b c:M.E}{h:Bool}{n:Nat}{io:List Nat}{K:a0a}
theorem kG (x:Int):∀ l:List Int,l.Pairwise (·<=·)->(M.insI x l).Perm (x::l)/\(M.insI x l).Pairwise (·<=·)
 | [],_=>⟨.refl _,List.pairwise_singleton _ _⟩
 | y::ys,hp=>by
  obtain ⟨h1,h2⟩:=a1e.mp hp
  obtain ⟨a,b⟩:=kG x ys h2
  unfold M.insI
  split
  ·rename_i hxy
   exact ⟨.refl _,a1e.mpr ⟨fun z hz=>(a0q.mp hz).elim (fun e=>e ▸ hxy) fun hz=>Int.le_trans hxy (h1 z hz),hp⟩⟩
  ·rename_i hxy
   refine ⟨(a.cons y).trans (.swap x y ys),a1e.mpr ⟨fun z hz=>?_,b⟩⟩
   rcases a0q.mp (a.mem_iff.mp hz) with rfl | hz
   ·omega
   ·exact h1 z hz
theorem dm:∀ l:List Int,(M.sortI l).Perm l/\(M.sortI l).Pairwise (·<=·)
 | []=>⟨.refl _,.nil⟩
 | x::l=>by
  obtain ⟨a,b⟩:=dm l
  obtain ⟨c,d⟩:=kG x _ b
  exact ⟨c.trans (a.cons x),d⟩
theorem nQ {ns ms:List Int}(h1:ms.Perm ns)(h2:ms.Pairwise (·<=·)):ms=M.sortI ns :=
 List.Perm.eq_of_pairwise (le:=fun a b:Int=>a<=b) (fun a b _ _ h h'=>Int.le_antisymm h h') h2 (dm ns).2 (h1.trans (dm ns).1.symm)
theorem kj:Loc K 1 .sorted h fun xs H Q=>∃ (a:Addr) (ns:List Int),xs=[.ref a]/\SqL K H a (ns.map V.int)/\ns.length < 64/\∀ ms:List Int,ms.Perm ns->ms.Pairwise (·<=·)->∀ p,H p=none->Q (.ref p) (upd H p (.lst (ms.map V.int))):=by
 intro ws w xs Z H G Q hn e r ow za k
 match ws,hn with
 | [(m,a)],_ =>
  obtain ⟨x,rfl,r1⟩:=cg rfl r
  cases a with
  | lst ts =>
   obtain ⟨a,xs,hx,hs,hl,p⟩:=bG r1
   have e':((M.intsOf ts).bind fun ns=>if decide (ns.length < 64)=true then some ((.d,.lst ((M.sortI ns).map M.T.int)):M.W) else none)=some w:=e
   cases e1:M.intsOf ts with
   | none=>rw [e1] at e'; cases e'
   | some ns =>
    rw [e1] at e'
    have e2:(if decide (ns.length < 64)=true then some ((.d,.lst ((M.sortI ns).map M.T.int)):M.W) else none)=some w:=e'
    split at e2
    ·rename_i hlt
     cases e2
     have hlt:=of_decide_eq_true hlt
     rw [ik e1 p] at hs
     refine ⟨a,ns,by rw [hx],.inl (.inl hs),hlt,fun ms h1 h2 q hq=>?_⟩
     rw [nQ h1 h2]
     have hln:(M.sortI ns).length=ns.length:=(dm ns).1.length_eq
     exact bo (G':=no) ow za (fun _ z=>z.elim) (by rw [a0e,hln]; show _<=16777215; omega) (ee _) (by simp) k hq
    ·cases e2
  | _=>cases e
theorem rF (hm:X.mg "sorted"=none)(hg:Gl X "sorted":=by rfl)(ha:SE X sf C ea a)(hs:starEach [ea] X.env=(false,eval ea X.env)::starEach [] X.env:=by rfl)(hpl:(backTo pos (starEach [] X.env)).any (·.1)=false:=by rfl):SE X sf C (.Call (.Name "sorted" p) [ea] [] pos) (.op .sorted h [a]) :=
 au (bF jy hg hm (by rfl) (slc ha sl0 hs) (by decide) (by decide) hs hpl) (gj kj rfl)
end
end MR

namespace L3
open PySem PySem.Spec PySem.NumText PyProof.Rows L2
theorem xH {i:Int}(h:i.natAbs < 10000000000000000000):i.natAbs.log2 < 1920:=by
 by_cases h0:i.natAbs=0
 ·rw [h0]; decide
 ·exact a0o ((Nat.log2_lt h0).mpr (show i.natAbs < 2 ^ 64 from a0o h (by decide))) (by decide)
theorem qo {n:Int}(h:n.natAbs < 10000000000000000000):(Str.ofString (toString n)).length<=20:=by
 have h2:=int_text_length_le10 (a:=n) (k:=19) (by decide) h
 have:(Str.ofString (toString n)).length=(toString n).length:=by
  show (Str.ofString (toString n)).cps.size=_
  rw [<- a1h,signs_ofString,a0e,a2M]
 omega
end L3
namespace MR
open PySem PySem.Spec PyProof.Rows L2 L3
end MR

namespace L3
open PySem PySem.Spec PyProof.Rows L2
end L3
namespace MR
open PySem PySem.Spec PyProof.Rows L2 L3
theorem slx {X:Cx}{sf:Nat->Option Nat}{C:M.Call}{ea:Expr}{a:M.E}{es:List Expr}{bs:List M.E}(ha:SE X sf C ea a)(hb:SL X sf C es bs)(hs:starEach (ea::es) X.env=(false,eval ea X.env)::starEach es X.env):SL X sf C (ea::es) (a::bs):=slc ha hb hs
theorem sTx {X:Cx}{sf:Nat->Option Nat}{C:M.Call}{pos:Pos}{es:List Expr}{bs:List M.E}{x1:Nat}(hn:bs.length<=M.LIM)(h:SL X sf C es bs):SE X sf C (.Tuple es x1 pos) (.tup bs):=sT h hn
theorem sLx {X:Cx}{sf:Nat->Option Nat}{C:M.Call}{pos:Pos}{h:Bool}{es:List Expr}{bs:List M.E}(hn:bs.length<=M.LIM)(hh:SL X sf C es bs):SE X sf C (.List es pos) (.lst h bs):=sLs hh hn
theorem aU {X:Cx}{sf:Nat->Option Nat}{C:M.Call}{pos:Pos}{h:Bool}{ea eb:Expr}{a b:M.E}(ha:SE X sf C ea a)(hb:SE X sf C eb b)(hs:gO eb):SE X sf C (.Subscript ea eb pos) (.op .ix h [a,b]):=sIx ha hb hs
theorem bg {X:Cx}{sf:Nat->Option Nat}{C:M.Call}{ea:Expr}{a:M.E}{es:List Expr}{bs:List M.E}(ha:SE X sf C ea a)(hb:SA X sf C es bs)(he:∀ i,a≠.io i)(hs:starEach (ea::es) X.env=(false,eval ea X.env)::starEach es X.env):SA X sf C (ea::es) (a::bs):=sac ha hb he hs
end MR

namespace MR
open PySem PySem.Spec PyProof.Rows L2 L3
theorem walkX {sx:Str}{C:M.Call}{ix k:Nat}{l:a2A}{q:Program}{loose:List Str}{XP:(Str->Option Value)->Heap->Prop}{YP:World->Heap->Prop}{d:DefRec}{K:Params->a0a}(hp:∀ ns:List Int,ns.length<=63->∃ m bs,C ix [(.d,.scr ns)]=.ok ((m,.bl true),bs))(hn:l.most=some 63)(hdf:d.params.defaults=[])(hr:Room k callerA)
  (hY:∀ (w:World) (h:Heap),YP w h->(K w.params).In h)
  (F:∀ (w:World) (mg:Str->Option Value) (fa:Addr) (h:Heap),(K w.params).In h->h.Ns mainGlobals mg->mg d.name=some (.ref fa) ->
   ∃ fd:FuncData,(∀ (s:Shared) (u:Value),BindsTo s fd ⟨[u],[]⟩ [(sx,u)])/\∀ base:Heap,(K w.params).In base->base.Ns mainGlobals mg->cZ l.prog w (K w.params) mg base CX0 k fa fd [sx] (spS (K w.params) C ix [])) :
  a3u q loose XP YP l.row.toRowW d [] (fun f vs=>a3t f vs) :=
 L2.walk_of (n:=63) (k:=k) (x:=sx) (CX:=fun _=>CX0) (sp:=fun w=>spS (K w.params) C ix []) hn (by decide) hdf hr hY F (fun _ _ a ns hl hO hS=>ya (hp ns hl) hl hO hS) fun _ _ _ _ _ z=>z
theorem uY {sx:Str}{w:World}{K:a0a}{mg:Str->Option Value}{st:Stmt}{h:Heap}{fa:Addr}{pr:Program}{k:Nat}{sp:Sp}(X:K.In h)(G:h.Ns mainGlobals mg)(hfa:mg "law"=some (.ref fa))(r:Raw K "law" st .none)(hb:∀ (kV dc pm:Value) (an:Option Addr) (cd ct:Value) (s:Shared) (v:Value),BindsTo s (a1g "law" "law" (defArgs st) (defBody st) (defScope st) .none kV dc pm an cd ct) ⟨[v],[]⟩ [(sx,v)])
  (ok:∀ f fd,Fun K "law" "law" st f fd->∀ base,cZ pr w K mg base CX0 k f fd [sx] sp):∃ fd:FuncData,(∀ (s:Shared) (v:Value),BindsTo s fd ⟨[v],[]⟩ [(sx,v)])/\∀ base:Heap,K.In base->base.Ns mainGlobals mg->cZ pr w K mg base CX0 k fa fd [sx] sp:=by
 obtain ⟨f,oc,od,sl,kV,dc,pm,an,cd,ct,h1,h2,h3,h4⟩:=r
 have e:=hfa.symm.trans (a3z X G h1)
 cases e
 exact ⟨_,hb kV dc pm an cd ct,fun base _ _=>ok _ _ (pE (st:=st) h2 h3 h4) base⟩
end MR

namespace L3
open PySem PySem.Spec PyProof.Rows L2
end L3
namespace MR
open PySem PySem.Spec PyProof.Rows L2 L3
end MR

namespace L3
open PySem PySem.Spec PyProof.Rows L2
end L3
namespace MR
open PySem PySem.Spec PyProof.Rows L2 L3
end MR

namespace L3
open PySem PySem.Spec PyProof.Rows L2
end L3
namespace MR
open PySem PySem.Spec PyProof.Rows L2 L3
section
variable {X:Cx}{sf sg:Nat->Option Nat}{C:M.Call}{pos p p2 p3:Pos}{ea eb ec:Expr}{a b c:M.E}{h:Bool}{n:Nat}{io:List Nat}{K:a0a}
theorem rf {Z:Fp}{H:Hp}{G:Fp}{Q:VK}{p:Addr}(ow:Own Z H G)(za:∀ a,Z a->H a≠none)(k:Out K Z H G (.d,.dct [] []) Q)(hp:H p=none):Q (.ref p) (upd H p (.dK [])):=by
 refine k _ Z _ (fun a=>a=p) ⟨p,[],rfl,a0F _,⟨rfl,ag⟩,⟨a2P,fun _ z=>nomatch z⟩,rfl,rfl⟩ ?_ (ef hp ow (fun a h=>.inr h) Z (fun _ z=>z) fun _ z=>.inl z)
 rintro a rfl
 exact ⟨fun z=>za a z hp,.inr [],ag⟩
theorem rZ (σ:L2.St)(H:Hp)(Q:VK)(hw:wE K sf C (.op .dnew h []) σ H Q):pL σ H Q:=by
 obtain ⟨pv,Z,Fs,η,w,η',A,ev,k⟩:=hw
 obtain ⟨ws,h1,h2⟩:=cx ev
 cases h1
 cases h2
 intro p hp
 have A':At K ⟨sf,pv⟩ σ Z H Fs η no:=A
 have o:=bN (F:=tot Fs) A' ((Step.refl Z H (tot Fs)).mono (fun _ z=>z) fun _ z=>z.elim id fun q=>q.elim) k
 exact rf bC A.gd.zal o hp
theorem zI:SE X sf C (.Dict [] [] pos) (.op .dnew h []):=au oY rZ
end
end MR

namespace L3
open PySem PySem.Spec PyProof.Rows L2
end L3
namespace MR
open PySem PySem.Spec PyProof.Rows L2 L3
end MR

namespace MR
open L2 L3 M
open PySem (Addr Str sizeLine)
section
variable {K:a0a}{sl:Cf}{sf sg:Nat->Option Nat}{C:Call}{σ σ2:L2.St}{Z Z' Z1:Fp}{H H' H1:Hp}{Fs Fs' Fs1:Fps}{η η' η1 ηb:Env}{G G' G1 R F F':Fp}{tg is vs ls io:List Nat}{pv val:Nat->Option V}{D:aT}
theorem r6 {Z:Fp}{H:Hp}{G:Fp}{a:Addr}{o:HO}{m:Md}(hm:m≠.s)(h:G a/\H a=some o):DctR Z H G a o m:=by
 cases m with
 | s=>exact absurd rfl hm
 | d=>exact h
 | o m=>exact h
theorem sy {i:Nat}{a:Addr}{ks':List (Int ⊕ Str)}{vs':List T}{xs':List V}{m':Md}(hm:m'≠.s)(A:At K ⟨sf,pv⟩ σ Z H Fs η G){w0:W}(hi:rd η i=some w0)(ha:Fs i a)(hx:∀ j,sf i=some j->σ[j]?=some (some (.ref a)))(hl:ks'.length<=LIM)(hnd:ks'.Nodup/\∀ k∈ks',kOk k=true)(hvl:vs'.length=ks'.length)(hpv:∀ u,pv i=some u->V.ref a=u)
  (hg:∀ b,G' b->(Fs i b\/G b)/\b≠a) (hR:∀ b,R b->(Fs i b\/G b)/\b≠a) (hRG:∀ b,R b->¬ G' b) (p:RepL K (fun b=>Z b\/((Fs i b\/G b)/\b≠a/\¬ G' b/\¬ R b)) H (dmd m') vs' xs' (fun _=>False)) {Q:Hp->Prop}
  (k:∀ Z' Fs',At K ⟨sf,pv⟩ σ Z' (upd H a (.dK (mkD ks' xs'))) Fs' (M.put η i (m',.dct ks' vs')) R->Step Z H (fun b=>tot Fs b\/G b) Z' (upd H a (.dK (mkD ks' xs'))) (fun b=>tot Fs' b\/R b)->(∀ {m t v},Rep K (fun b=>Z b\/((Fs i b\/G b)/\b≠a/\¬ G' b/\¬ R b)) H m t v R->Rep K Z' (upd H a (.dK (mkD ks' xs'))) m t v R)->Q (upd H a (.dK (mkD ks' xs')))):Q (upd H a (.dK (mkD ks' xs'))):=by
 have hta:tot Fs a:=⟨i,ha⟩
 obtain ⟨nza,ys,hya⟩:=A.gd.own a hta
 have nGa:¬ G a:=fun q=>A.dis a q hta
 have zdef:∀ b,(Z b\/((Fs i b\/G b)/\b≠a/\¬ G' b/\¬ R b))->b≠a:=fun b h z=>by
  subst z
  rcases h with h | h
  ·exact nza h
  ·exact h.2.1 rfl
 have keep:∀ b o,H b=some o->b≠a->upd H a (.dK (mkD ks' xs')) b=some o:=fun b o e hb=>by rw [ab hb]; exact e
 have neT:∀ b xs,H b=some (.tup xs)->b≠a:=fun b xs e z=>by rw [z,hya] at e; exact gM e.symm
 have neF:∀ b o u,H b=some (.frz o u)->b≠a:=fun b o u e z=>by rw [z,hya] at e; exact cQ e.symm
 have stay:∀ {Y:Fp},(∀ b,Y b->b≠a)->Stay Y H (upd H a (.dK (mkD ks' xs'))):=fun {Y} hY=>⟨fun b o hb e=>keep b o e (hY b hb),fun b xs e=>by
  rcases e with e | ⟨u,e⟩
  ·exact .inl (keep b _ e (neT b xs e))
  ·exact .inr ⟨u,keep b _ e (neF b u _ e)⟩,fun b o u e=>keep b _ e (neF b o u e)⟩
 have al:∀ b,H b≠none->upd H a (.dK (mkD ks' xs')) b≠none:=fun b h=>by
  by_cases e:b=a
  ·rw [e,ag]; simp
  ·rw [ab e]; exact h
 have zal':∀ b,(Z b\/((Fs i b\/G b)/\b≠a/\¬ G' b/\¬ R b))->H b≠none:=fun b h=>by
  rcases h with h | ⟨h | h,_⟩
  ·exact A.gd.zal b h
  ·obtain ⟨_,zs,e⟩:=A.gd.own b ⟨i,h⟩; rw [e]; simp
  ·obtain ⟨_,zs,e⟩:=A.own b h; rw [e]; simp
 have listAt:∀ b,(tot Fs b\/G b)->∃ zs:OO,upd H a (.dK (mkD ks' xs')) b=some zs.ho:=fun b h=>by
  by_cases e:b=a
  ·exact ⟨(.inr (mkD ks' xs')),by rw [e,ag]; rfl⟩
  ·rcases h with h | h
   ·obtain ⟨_,zs,q⟩:=A.gd.own b h; exact ⟨zs,by rw [ab e]; exact q⟩
   ·obtain ⟨_,zs,q⟩:=A.own b h; exact ⟨zs,by rw [ab e]; exact q⟩
 have nZ:∀ b,(Fs i b\/G b)->¬ Z b:=fun b h z=>h.elim (fun y=>(A.gd.own b ⟨i,y⟩).1 z) fun y=>(A.own b y).1 z
 have bV:∀ b,tot (gH Fs i fun b=>G' b\/b=a) b->(∃ j,j≠i/\Fs j b)\/G' b\/b=a:=fun b h=>by
  obtain ⟨j,h | h⟩:=h
  ·exact .inr h.2
  ·exact .inl ⟨j,h⟩
 refine k (fun b=>Z b\/((Fs i b\/G b)/\b≠a/\¬ G' b/\¬ R b)) (gH Fs i fun b=>G' b\/b=a) ⟨⟨fun b h=>⟨fun z=>?_,?_⟩,fun j l b hj hk=>?_,fun b h=>al b (zal' b h)⟩,fun l m t e=>?_,fun b h=>⟨fun z=>?_,listAt b ((hR b h).1.imp (fun z=>⟨i,z⟩) id)⟩,fun b h q=>?_,A.lk,A.ln⟩ ⟨fun b o e n=>keep b o e fun z=>n (.inl (z ▸ hta)),fun b h=>.inl h,fun b h=>h.imp id fun q=>.inl (q.1.imp (fun z=>⟨i,z⟩) id),fun b h=>?_,al,fun _ b h=>al b (zal' b h)⟩ fun {m t v} r=>r.keep (stay zdef) (fun _ z=>z) fun b o hb e=>keep b o e (hR b hb).2
 ·rcases bV b h with ⟨j,hj,q⟩ | q | q
  ·rcases z with z | ⟨z | z,_⟩
   ·exact (A.gd.own b ⟨j,q⟩).1 z
   ·exact hj (A.gd.dis j i b q z)
   ·exact A.dis b z ⟨j,q⟩
  ·rcases z with z | z
   ·exact nZ b (hg b q).1 z
   ·exact z.2.2.1 q
  ·exact zdef b z q
 ·rcases bV b h with ⟨j,hj,q⟩ | q | q
  ·exact listAt b (.inl ⟨j,q⟩)
  ·exact listAt b ((hg b q).1.imp (fun z=>⟨i,z⟩) id)
  ·exact ⟨(.inr (mkD ks' xs')),by rw [q,ag]; rfl⟩
 ·have key:∀ {j:Nat},(G' b\/b=a)->Fs j b->j=i:=fun {j} h q=>by
   rcases h with h | h
   ·rcases (hg b h).1 with y | y
    ·exact A.gd.dis j i b q y
    ·exact absurd ⟨j,q⟩ (A.dis b y)
   ·rw [h] at q; exact A.gd.dis j i a q ha
  rcases hj with ⟨rfl,hj⟩ | ⟨nj,hj⟩
  ·rcases hk with ⟨rfl,_⟩ | ⟨nk,hk⟩
   ·rfl
   ·exact absurd (key hj hk) nk
  ·rcases hk with ⟨rfl,hk⟩ | ⟨nk,hk⟩
   ·exact absurd (key hk hj) nj
   ·exact A.gd.dis j l b hj hk
 ·rw [aH] at e
  split at e
  ·rename_i hc
   obtain ⟨rfl,_⟩:=hc
   cases e
   refine ⟨.ref a,⟨a,xs',rfl,hl,r6 hm ⟨.inl ⟨rfl,.inr rfl⟩,ag⟩,hnd,hvl,?_⟩,hx,hpv⟩
   exact p.keep (stay zdef) (fun _ z=>z) fun b o hb e=>hb.elim
  ·rename_i hc
   have hl':l≠i:=fun z=>hc ⟨z,bH hi⟩
   obtain ⟨v,r,h⟩:=A.env l m t e
   have nea:∀ b,Fs l b->b≠a:=fun b q z=>hl' (A.gd.dis l i a (z ▸ q) ha)
   exact ⟨v,((r.keep (stay fun b hb z=>nza (z ▸ hb)) (fun _ z=>z) fun b o hb e=>keep b o e (nea b hb)).zmono fun b h=>.inl h).mono fun b h=>.inr ⟨hl',h⟩,h⟩
 ·rcases z with z | z
  ·exact nZ b (hR b h).1 z
  ·exact z.2.2.2 h
 ·rcases bV b q with ⟨j,hj,y⟩ | y | y
  ·rcases (hR b h).1 with z | z
   ·exact hj (A.gd.dis j i b y z)
   ·exact A.dis b z ⟨j,y⟩
  ·exact hRG b h y
  ·exact (hR b h).2 y
 ·rcases h with h | h
  ·rcases bV b h with ⟨j,_,q⟩ | q | q
   ·exact .inl (.inl ⟨j,q⟩)
   ·exact .inl ((hg b q).1.imp (fun z=>⟨i,z⟩) id)
   ·exact .inl (.inl (q ▸ hta))
  ·exact .inl ((hR b h).1.imp (fun z=>⟨i,z⟩) id)
theorem t8 {m:Md}{ks:List (Int ⊕ Str)}{vs:List T}{v:V}(hm:m≠.s)(r:Rep K Z H m (.dct ks vs) v G):∃ a xs,v=.ref a/\ks.length<=LIM/\G a/\H a=some (.dK (mkD ks xs))/\(ks.Nodup/\∀ k∈ks,kOk k=true)/\vs.length=ks.length/\RepL K Z H (dmd m) vs xs (fun _=>False):=by
 obtain ⟨a,xs,e,l,q,n,hl,p⟩:=r
 cases m with
 | s=>exact absurd rfl hm
 | d=>exact ⟨a,xs,e,l,q.1,q.2,n,hl,p⟩
 | o m=>exact ⟨a,xs,e,l,q.1,q.2,n,hl,p⟩
noncomputable def kT:Int ⊕ Str->T
 | .inl n=>.int n
 | .inr x=>.str x
theorem jo {k:T}{q:Int ⊕ Str}(h:keyT k=some q):k=kT q:=by
 cases k with
 | int n=>cases h; rfl
 | str x=>cases h; rfl
 | _=>cases h
theorem nt {m:Md}{q:Int ⊕ Str}{v:V}(r:Rep K Z H m (kT q) v G):v=kV q/\kOk q=true:=by
 cases q with
 | inl n=>exact ⟨r,rfl⟩
 | inr x=>exact ⟨r.1,r.2⟩
noncomputable def jJ (k:Int ⊕ Str)(y:V):List (Int ⊕ Str)->List V->List V
 | [],_=>[y]
 | z::zs,x::xs=>if z=k then y::xs else x::jJ k y zs xs
 | _::_,[]=>[]
theorem iy (k:Int ⊕ Str)(t:T):∀ (ks:List (Int ⊕ Str)) (vs:List T),vs.length=ks.length->(aC k t ks vs).2.length=(aC k t ks vs).1.length/\(aC k t ks vs).1.length<=ks.length+1
 | [],[],_=>⟨rfl,a0h _⟩
 | [],_::_,e=>by cases e
 | _::_,[],e=>by cases e
 | z::zs,v::vs,e=>by
  unfold aC
  split
  ·exact ⟨e,a2i _⟩
  ·obtain ⟨a,b⟩:=iy k t zs vs (a1f e)
   exact ⟨by rw [a0f,a0f,a],by rw [a0f,a0f]; omega⟩
theorem eP (k:Int ⊕ Str)(t:T):∀ (ks:List (Int ⊕ Str)) (vs:List T),vs.length=ks.length->∀ z,z∈(aC k t ks vs).1 ↔ z=k\/z∈ks
 | [],[],_,z=>by simp [aC]
 | [],_::_,e,_=>by cases e
 | _::_,[],e,_=>by cases e
 | y::ys,v::vs,e,z=>by
  unfold aC
  split
  ·rename_i hy
   subst hy
   simp
  ·have:=eP k t ys vs (a1f e) z
   rw [a0q,this,a0q]
   constructor
   ·rintro (h | h | h)
    ·exact .inr (.inl h)
    ·exact .inl h
    ·exact .inr (.inr h)
   ·rintro (h | h | h)
    ·exact .inr (.inl h)
    ·exact .inl h
    ·exact .inr (.inr h)
theorem eI (k:Int ⊕ Str)(t:T):∀ (ks:List (Int ⊕ Str)) (vs:List T),vs.length=ks.length->ks.Nodup->(aC k t ks vs).1.Nodup
 | [],[],_,_=>by simp [aC]
 | [],_::_,e,_=>by cases e
 | _::_,[],e,_=>by cases e
 | y::ys,v::vs,e,h=>by
  unfold aC
  split
  ·exact h
  ·rename_i hy
   obtain ⟨h1,h2⟩:=a0H.mp h
   refine a0H.mpr ⟨fun q=>?_,eI k t ys vs (a1f e) h2⟩
   rcases (eP k t ys vs (a1f e) y).mp q with q | q
   ·exact hy q
   ·exact h1 q
theorem kz (k:Int ⊕ Str)(t:T)(y:V):∀ (ks:List (Int ⊕ Str)) (vs:List T) (xs:List V),vs.length=ks.length->xs.length=ks.length->ks.Nodup->cN (mkD ks xs) k y=mkD (aC k t ks vs).1 (jJ k y ks xs)
 | [],[],[],_,_,_=>rfl
 | [],[],_::_,_,e,_=>by cases e
 | [],_::_,_,e,_,_=>by cases e
 | _::_,[],_,e,_,_=>by cases e
 | _::_,_::_,[],_,e,_=>by cases e
 | z::zs,v::vs,x::xs,e1,e2,nd=>by
  obtain ⟨n1,n2⟩:=a0H.mp nd
  have ih:=kz k t y zs vs xs (a1f e1) (a1f e2) n2
  unfold aC jJ
  by_cases hz:z=k
  ·rw [if_pos hz,if_pos hz]
   subst hz
   have hno:∀ p∈mkD zs xs,p.1≠z:=fun p hp q=>by
    obtain ⟨a,b⟩:=p
    have:=(a1W hp).1
    have q':a=z:=q
    rw [q'] at this
    exact n1 this
   show cN ((z,x)::mkD zs xs) z y=(z,y)::mkD zs xs
   unfold cN
   rw [if_pos (by simp)]
   rw [a0x,if_pos rfl]
   congr 1
   conv=>rhs; rw [<- List.map_id (mkD zs xs)]
   refine a1j fun p hp=>?_
   rw [if_neg (hno p hp)]
   rfl
  ·rw [if_neg hz,if_neg hz]
   show cN ((z,x)::mkD zs xs) k y=(z,x)::mkD (aC k t zs vs).1 (jJ k y zs xs)
   rw [<- ih]
   have hne:¬ (z=k):=hz
   unfold cN
   rw [a2j,decide_eq_false hne,a3v]
   split
   ·rw [a0x,if_neg hne]
   ·rfl
end
end MR
namespace MR
open PySem PySem.Spec PyProof.Rows L2 L3
end MR

namespace L3
open PySem PySem.Spec PyProof.Rows L2
end L3

namespace L3
open PySem PySem.Spec PyProof.Rows L2
end L3
namespace MR
open PySem PySem.Spec PyProof.Rows L2 L3
end MR

namespace L3
open PySem PySem.Spec PySem.NumText PyProof.Rows L2
theorem iT {X:Cx}(hg:X.A.guards=some [])(hu:X.A.units+200 < cLine):cy X (.builtin "repr") (fun xs H Q=>∃ x t,xs=[x]/\Has X.K H t x/\(toD t).showable=true/\(toD t).hasDict=false/\(toD t).depth<=64/\(toD t).shown.length<=sizeLine/\Q (.str (toD t).shown) H):=by
 intro pins s σ H xs us Q I r h
 obtain ⟨x,t,rfl,ht,hs,hd,hp,hl,q⟩:=h
 obtain ⟨u,rfl,ru⟩:=dJ r
 obtain ⟨as,ra⟩:=Has.reads I ht ru
 have key:∀ a,u=.ref a->wpAny (model X.prog X.w) X.A (call (.builtin "repr") [u]) (EP X pins σ Q) X.xe s:=fun a e=>by
  subst e
  exact repr_of_reads' ra hs (PyData.noDict_hsm hd) hg (by omega) (fun _ _ e=>e) (fun h' u tk hk=>⟨.str _,H,I.kept hk,⟨_,rfl⟩,q⟩) hl
 cases t with
 | non =>
  obtain rfl:x=V.non:=ht
  obtain rfl:u=Value.none:=ru
  exact PySem.P.repr_of_none ⟨.str _,H,I.tok _,⟨_,rfl⟩,q⟩
 | bl b =>
  obtain rfl:x=V.bl b:=ht
  obtain rfl:u=Value.bool b:=ru
  exact PySem.P.repr_of_bool ⟨.str _,H,I.tok _,⟨_,by cases b<;>rfl⟩,q⟩
 | int i =>
  obtain rfl:x=V.int i:=ht
  obtain ⟨t,rfl⟩:∃ t,u=Value.int i t:=ru
  exact PySem.P.repr_of_int (of_decide_eq_true hs) ⟨.str _,H,I.tok _,⟨_,rfl⟩,q⟩
 | str z =>
  obtain rfl:x=V.str z:=ht
  obtain ⟨t,rfl⟩:∃ t,u=Value.str z t:=ru
  exact PySem.P.repr_of_str ⟨.str _,H,I.tok _,⟨_,rfl⟩,q⟩ hl
 | tup ts =>
  obtain ⟨a,vs,rfl,_,_⟩:=ht
  exact key a ru
 | lst ts =>
  obtain ⟨a,vs,rfl,_,_⟩:=ht
  exact key a ru
end L3
namespace MR
open PySem PySem.Spec PyProof.Rows L2 L3
mutual
theorem g9:∀ t:M.T,toD (th t)=M.datT t
 | .non=>rfl
 | .bl _=>rfl
 | .int _=>rfl
 | .str _=>rfl
 | .tup ts=>congrArg PyData.tuple (hV ts)
 | .lst ts=>congrArg PyData.list (hV ts)
 | .dct _ _=>rfl
 | .ins _ _ _=>rfl
 | .scr _=>rfl
 | .gone=>rfl
theorem hV:∀ ts:List M.T,c5 (ths ts)=M.datTs ts
 | []=>rfl
 | t::ts=>by
  show toD (th t)::c5 (ths ts)=M.datT t::M.datTs ts
  rw [g9 t,hV ts]
end
noncomputable def df (ss:List Str):Nat:=(ss.map fun s=>s.cps.size+2).sum
theorem cS (p q:Str):(p++q).cps.size=p.cps.size+q.cps.size:=a23 ..
theorem nD:∀ (ss:List Str) (k:Nat) (acc:Str),M.sOk acc=true->(∀ s∈ss,M.sOk s=true)->acc.cps.size+df ss<=M.LIM->M.sOk (textFrom k acc ss)=true/\(textFrom k acc ss).cps.size<=acc.cps.size+df ss
 | [],_,acc,h,_,hl=>⟨h,by show acc.cps.size<=_; omega⟩
 | s::ss,k,acc,h,hs,hl=>by
  have hp:df (s::ss)=s.cps.size+2+df ss:=by unfold df; rw [a0x,a2m]
  have h1:=hs s a0d
  have key:∀ z:Str,M.sOk z=true->z.cps.size<=2->M.sOk (textFrom (k+1) (acc++z++s) ss)=true/\(textFrom (k+1) (acc++z++s) ss).cps.size<=acc.cps.size+df (s::ss):=fun z hz hz2=>by
   have e1:(acc++z).cps.size=acc.cps.size+z.cps.size:=cS _ _
   have e2:(acc++z++s).cps.size=acc.cps.size+z.cps.size+s.cps.size:=by rw [cS,e1]
   obtain ⟨a,b⟩:=nD ss (k+1) (acc++z++s) (bK (bK h hz (by omega)) h1 (by omega)) (fun x hx=>hs x (a0c _ hx)) (by omega)
   exact ⟨a,by omega⟩
  show M.sOk (textFrom (k+1) (acc++(if k > 0 then ", " else "":String)++s) ss)=true/\(textFrom (k+1) (acc++(if k > 0 then ", " else "":String)++s) ss).cps.size<=_
  split
  ·exact key (Str.ofString ", ") (aY _ (by decide)) (by decide)
  ·exact key (Str.ofString "") (aY _ (by decide)) (by decide)
theorem kr:∀ (ss:List Str),(∀ s∈ss,M.sOk s=true)->df ss<=M.LIM->M.sOk (Str.join ", " ss)=true/\(Str.join ", " ss).cps.size<=df ss
 | [],_,_=>⟨aY "" (by decide),a0F _⟩
 | [s],hs,hl=>⟨hs s a0d,by show s.cps.size<=(s.cps.size+2)+0; omega⟩
 | s::u::ss,hs,hl=>by
  have hp:df (s::u::ss)=s.cps.size+2+df (u::ss):=by unfold df; rw [a0x,a2m]
  obtain ⟨a,b⟩:=kr (u::ss) (fun x hx=>hs x (a0c _ hx)) (by omega)
  have e0:Str.join ", " (s::u::ss)=s++Str.ofString ", "++Str.join ", " (u::ss):=rfl
  have z2:(Str.ofString ", ").cps.size=2:=by decide
  have e1:(s++Str.ofString ", ").cps.size=s.cps.size+2:=by rw [cS,z2]
  rw [e0]
  refine ⟨bK (bK (hs s a0d) (aY _ (by decide)) (by omega)) a (by omega),?_⟩
  rw [cS,e1]; omega
mutual
theorem i5:∀ t:M.T,M.rOk t=true->M.szR t<=M.LIM->(M.datT t).showable=true/\M.sOk (M.datT t).shown=true/\(M.datT t).shown.cps.size<=M.szR t
 | .non,_,_=>⟨rfl,aY _ (by decide),by decide⟩
 | .bl b,_,_=>⟨rfl,by cases b<;>exact aY _ (by decide),by cases b<;>decide⟩
 | .int i,h,_=>by
  have hb:i.natAbs < 10000000000000000000:=of_decide_eq_true h
  have hl:=qo hb
  have h2:=int_text_length_le10 (a:=i) (k:=19) (by decide) hb
  exact ⟨decide_eq_true (xH hb),aY _ (by omega),a0u hl (show 20<=100 by decide)⟩
 | .str x,h,_=>by
  have h:(decide ((a16 x).length<=100)&&M.sOk (a16 x))=true:=h
  rw [a0k] at h
  exact ⟨rfl,h.2,of_decide_eq_true h.1⟩
 | .tup ts,h,hl=>by
  have hl':M.szRs ts+4<=M.LIM:=hl
  obtain ⟨a,b,c⟩:=dr ts h (by omega)
  obtain ⟨d,e⟩:=kr _ b (by omega)
  refine ⟨a,?_⟩
  show M.sOk (("(":Str)++Str.join ", " (PyData.shownAll (M.datTs ts))++(if (PyData.shownAll (M.datTs ts)).length==1 then ",)" else ")":String))=true/\(("(":Str)++Str.join ", " (PyData.shownAll (M.datTs ts))++(if (PyData.shownAll (M.datTs ts)).length==1 then ",)" else ")":String)).cps.size<=M.szRs ts+4
  have z1:(Str.ofString "(").cps.size=1:=by decide
  have e1:(Str.ofString "("++Str.join ", " (PyData.shownAll (M.datTs ts))).cps.size=1+(Str.join ", " (PyData.shownAll (M.datTs ts))).cps.size:=by rw [cS,z1]
  have key:∀ z:Str,M.sOk z=true->z.cps.size<=2->M.sOk (Str.ofString "("++Str.join ", " (PyData.shownAll (M.datTs ts))++z)=true/\(Str.ofString "("++Str.join ", " (PyData.shownAll (M.datTs ts))++z).cps.size<=M.szRs ts+4:=fun z hz hz2 =>
   ⟨bK (bK (aY _ (by decide)) d (by omega)) hz (by omega),by rw [cS,e1]; omega⟩
  split
  ·exact key (Str.ofString ",)") (aY _ (by decide)) (by decide)
  ·exact key (Str.ofString ")") (aY _ (by decide)) (by decide)
 | .lst ts,h,hl=>by
  have hl':M.szRs ts+4<=M.LIM:=hl
  obtain ⟨a,b,c⟩:=dr ts h (by omega)
  have z1:(Str.ofString "[").cps.size=1:=by decide
  have z2:(Str.ofString "]").cps.size=1:=by decide
  obtain ⟨d,e⟩:=nD _ 0 (Str.ofString "[") (aY _ (by decide)) b (by omega)
  refine ⟨a,?_⟩
  show M.sOk (textFrom 0 (Str.ofString "[") (PyData.shownAll (M.datTs ts))++Str.ofString "]")=true/\(textFrom 0 (Str.ofString "[") (PyData.shownAll (M.datTs ts))++Str.ofString "]").cps.size<=M.szRs ts+4
  exact ⟨bK d (aY _ (by decide)) (by omega),by rw [cS]; omega⟩
 | .dct _ _,h,_=>by cases h
 | .ins _ _ _,h,_=>by cases h
 | .scr _,h,_=>by cases h
 | .gone,h,_=>by cases h
theorem dr:∀ ts:List M.T,M.rOks ts=true->M.szRs ts<=M.LIM->PyData.showableAll (M.datTs ts)=true/\(∀ s∈PyData.shownAll (M.datTs ts),M.sOk s=true)/\df (PyData.shownAll (M.datTs ts))<=M.szRs ts
 | [],_,_=>⟨rfl,(fun _ h=>nomatch h),a0h _⟩
 | t::ts,h,hl=>by
  have hl':M.szR t+2+M.szRs ts<=M.LIM:=hl
  have h':(M.rOk t&&M.rOks ts)=true:=h
  rw [a0k] at h'
  obtain ⟨a,b,c⟩:=i5 t h'.1 (by omega)
  obtain ⟨d,e,f⟩:=dr ts h'.2 (by omega)
  refine ⟨?_,fun s hs=>?_,?_⟩
  ·show ((M.datT t).showable&&PyData.showableAll (M.datTs ts))=true
   rw [a,d]; rfl
  ·have hs:s∈(M.datT t).shown::PyData.shownAll (M.datTs ts):=hs
   rcases a0q.mp hs with rfl | hs
   ·exact b
   ·exact e s hs
  ·show df ((M.datT t).shown::PyData.shownAll (M.datTs ts))<=M.szR t+2+M.szRs ts
   unfold df at f ⊢
   rw [a0x,a2m]; omega
end
section
variable {X:Cx}{sf sg:Nat->Option Nat}{C:M.Call}{pos p p2 p3:Pos}{ea eb ec:Expr}{a b c:M.E}{h:Bool}{n:Nat}{io:List Nat}{K:a0a}
theorem oi:Loc K 1 .repr h fun xs H Q=>∃ x t,xs=[x]/\Has K H t x/\(toD t).showable=true/\(toD t).hasDict=false/\(toD t).depth<=64/\(toD t).shown.length<=sizeLine/\Q (.str (toD t).shown) H:=by
 intro ws w xs Z H G Q hn e r ow za k
 match ws,hn with
 | [(m,a)],_ =>
  obtain ⟨x,rfl,r1⟩:=cg rfl r
  have e2:(if (decide (M.dp a<=64)&&M.rOk a&&M.fits (M.szR a))=true then some ((.d,.str (M.datT a).shown):M.W) else none)=some w:=e
  split at e2
  ·rename_i hb
   cases e2
   rw [a0k,a0k,decide_eq_true_eq] at hb
   obtain ⟨⟨h1,h2⟩,h3⟩:=hb
   have h3:M.szR a<=M.LIM:=of_decide_eq_true h3
   obtain ⟨o1,o2,o3⟩:=gq (n:=64) h1 (a0h _) r1
   obtain ⟨s1,s2,s3⟩:=i5 a h2 h3
   refine ⟨x,th a,rfl,o1,?_,PyData.hasDict_of_canLay _ o2,o3,?_,?_⟩
   ·rw [g9]; exact s1
   ·rw [g9]; exact a8 (a0u s3 h3)
   ·rw [g9]; exact gG k s2
  ·cases e2
theorem dN (hr:Room n X.A)(hm:X.mg "repr"=none)(hg:Gl X "repr":=by rfl)(ha:SE X sf C ea a)(hs:starEach [ea] X.env=(false,eval ea X.env)::starEach [] X.env:=by rfl)(hpl:(backTo pos (starEach [] X.env)).any (·.1)=false:=by rfl):SE X sf C (.Call (.Name "repr" p) [ea] [] pos) (.op .repr h [a]) :=
 au (bF (iT hr.gu (by have:=hr.un; omega)) hg hm (by rfl) (slc ha sl0 hs) (by decide) (by decide) hs hpl) (gj oi rfl)
end
end MR

namespace MR
open PySem PySem.Spec PyProof.Rows L2 L3
end MR

namespace L3
open PySem PySem.Spec PyProof.Rows L2
end L3
namespace MR
open L2 L3 M
open PySem (Addr Str sizeLine)
section
variable {K:a0a}{sl:Cf}{sf sg:Nat->Option Nat}{C:Call}{σ σ2:L2.St}{Z Z' Z1:Fp}{H H' H1:Hp}{Fs Fs' Fs1:Fps}{η η' η1 ηb:Env}{G G' G1 R F F':Fp}{tg is vs ls io:List Nat}{pv val:Nat->Option V}{D:aT}
theorem m8 {u kw w r:W}(h:c7 u kw w=some r):∃ m ks vs n k,u=(m,.dct ks vs)/\kw=(n,kT k)/\m≠.s/\ks.length < LIM/\r=(.o .s,.dct (aC k w.2 ks vs).1 (aC k w.2 ks vs).2):=by
 obtain ⟨m,t⟩:=u
 obtain ⟨n,k⟩:=kw
 obtain ⟨n2,x⟩:=w
 have key:∀ ks vs,((keyT k).bind fun q=>if (decide (ks.length < LIM))=true then some ((.o .s,.dct (aC q x ks vs).1 (aC q x ks vs).2):W) else none)=some r->∃ k',(n,k)=(n,kT k')/\ks.length < LIM/\r=(.o .s,.dct (aC k' x ks vs).1 (aC k' x ks vs).2):=fun ks vs h=>by
  cases e:keyT k with
  | none=>rw [e] at h; cases h
  | some q =>
   rw [e] at h
   have h':(if (decide (ks.length < LIM))=true then some ((.o .s,.dct (aC q x ks vs).1 (aC q x ks vs).2):W) else none)=some r:=h
   split at h'
   ·rename_i hc
    cases h'
    exact ⟨q,by rw [jo e],of_decide_eq_true hc,rfl⟩
   ·cases h'
 cases t with
 | dct ks vs =>
  cases m with
  | s=>cases h
  | d =>
   obtain ⟨k',a,b,d⟩:=key ks vs h
   exact ⟨.d,ks,vs,n,k',rfl,a,by simp,b,d⟩
  | o m =>
   obtain ⟨k',a,b,d⟩:=key ks vs h
   exact ⟨.o m,ks,vs,n,k',rfl,a,by simp,b,d⟩
 | _=>cases m<;>cases h
theorem gg {k:Int ⊕ Str}{t:T}{y:V}(ry:Rep K Z H .s t y no):∀ (ks:List (Int ⊕ Str)) (vs:List T) (xs:List V),vs.length=ks.length->RepL K Z H .s vs xs (fun _=>False)->RepL K Z H .s (aC k t ks vs).2 (jJ k y ks xs) (fun _=>False)
 | [],[],xs,_,r=>by
  cases r
  exact ⟨y,[],fun _=>False,fun _=>False,rfl,fun _ z=>z,fun _ z=>z,fun _ z=>z.elim,ry,rfl⟩
 | [],_::_,_,e,_=>by cases e
 | _::_,[],_,e,_=>by cases e
 | z::zs,v::vs,xs,e,⟨x,r',G1,G2,ex,h1,h2,hd,p,q⟩=>by
  subst ex
  unfold aC jJ
  by_cases hz:z=k
  ·rw [if_pos hz,if_pos hz]
   exact ⟨y,r',fun _=>False,G2,rfl,fun _ z=>z,h2,fun _ z=>z.elim,ry,q⟩
  ·rw [if_neg hz,if_neg hz]
   exact ⟨x,jJ k y zs r',G1,fun _=>False,rfl,h1,fun _ z=>z,fun a _ z=>z,p,gg ry zs vs r' (a1f e) (q.mono h2)⟩
theorem uV {x:M.X}{i j:Nat}{k e:E}(hs:sf i=some j)(D:aT)(σ:L2.St)(H:Hp)(h:wS K sf io C (.setS x i k e) D σ H) :
  wE K sf C e σ H fun y H1=>eJ j σ H1 fun o H1=>wE K sf C k σ H1 fun z H2=>∃ a kvs q,o=.ref a/\z=kV q/\H2 a=some (.dK kvs)/\kvs.length < sizeLine/\D.nx σ (upd H2 a (.dK (cN kvs q y))):=by
 obtain ⟨pv,Z,Fs,η,N,A,f⟩:=h
 obtain ⟨⟨w,η1⟩,h2,h3⟩:=aS (show Fin K ⟨sf,pv⟩ Z H (tot Fs) D (Fl.of η (evX C x e η) (kY i (evX C x k) η)) from f)
 obtain ⟨⟨kw,η2⟩,h6,h7⟩:=aS (show Fin K ⟨sf,pv⟩ Z H (tot Fs) D (Fl.of η (evX C x k η1) (jS i w)) from h3)
 obtain ⟨η3,h4,h5⟩:=bM (show Fin K ⟨sf,pv⟩ Z H (tot Fs) D (nxO η2 (((rd η2 i).bind fun u=>c7 u kw w).map fun u=>M.put η2 i u)) from h7)
 refine gK (sl:=⟨sf,pv⟩) A h2 fun y Z' H' Fs' G B r s=>?_
 cases e1:rd η2 i with
 | none=>rw [e1] at h4; cases h4
 | some u1 =>
  rw [e1] at h4
  cases e2:c7 u1 kw w with
  | none=>rw [show (some u1).bind (fun u=>c7 u kw w)=c7 u1 kw w from rfl,e2] at h4; cases h4
  | some r1 =>
   rw [show (some u1).bind (fun u=>c7 u kw w)=c7 u1 kw w from rfl,e2] at h4
   cases h4
   obtain ⟨m,ks,vs,n,kk,rfl,rfl,hm,hlen,rfl⟩:=m8 e2
   have n1:rd η1 i≠none:=fun z=>by rw [nS h6 i z] at e1; cases e1
   cases e3:rd η1 i with
   | none=>exact absurd e3 n1
   | some u3 =>
    obtain ⟨v3,r3,l3,p3⟩:=B.env i u3.1 u3.2 e3
    refine ⟨v3,l3 j hs,gK (sl:=⟨sf,pv⟩) B.bare h6 fun z Z2 H2 Fs2 G2 B2 rz s2=>?_⟩
    obtain ⟨B3,s3,d3⟩:=B.frame B2 s2
    have r':=r.frame B.gd.own s2 B.dis
    have B4:=B3.mono (G':=G) fun _ z=>.inl z
    obtain ⟨v4,r4,l4,p4⟩:=B4.env i m _ e1
    have hv:v3=v4:=by have e5:=l3 j hs; have e6:=l4 j hs; rw [e5] at e6; cases e6; rfl
    subst hv
    obtain ⟨a,xs,rfl,hl,hf,hx,hnk,hvl,p⟩:=t8 hm r4
    have hxl:xs.length=ks.length:=by rw [p.length,hvl]
    obtain ⟨q1,q2⟩:=iy kk w.2 ks vs hvl
    have rz':z=kV kk/\kOk kk=true:=nt rz
    have nGa:¬ G a:=fun q=>B4.dis a q ⟨i,hf⟩
    have pS:RepL K (fun b=>Z2 b\/((Fs2 i b\/G b)/\b≠a/\¬ no b/\¬ no b)) H2 .s vs xs (fun _=>False):=by
     have:=RepL.sh p
     exact (this.zmono fun b h=>h.elim .inl fun z=>z.elim).mono fun _ z=>z
    have rS:Rep K (fun b=>Z2 b\/((Fs2 i b\/G b)/\b≠a/\¬ no b/\¬ no b)) H2 .s w.2 y no:=(Rep.sh r').zmono fun b h=>h.imp id fun q=>⟨.inr q,fun e=>nGa (e ▸ q),fun z=>z,fun z=>z⟩
    refine ⟨a,mkD ks xs,kk,rfl,rz'.1,hx,?_,?_⟩
    ·show (ks.zip xs).length < _
     rw [List.length_zip,hxl,Nat.min_self]
     exact a0o hlen (a8 (a0h _))
    ·rw [kz kk w.2 y ks vs xs hvl hxl hnk.1]
     exact sy (K:=K) (m':=.o .s) (G':=no) (R:=no) (by simp) B4 e1 hf (fun k hk=>by rw [show sf i=some k from hk] at hs; cases hs; exact l3 _ hk) (by omega) ⟨eI kk w.2 ks vs hvl hnk.1,fun z hz=>((eP kk w.2 ks vs hvl z).mp hz).elim (fun e=>e ▸ rz'.2) (hnk.2 z)⟩ q1 p4 (fun _ z=>z.elim) (fun _ z=>z.elim) (fun _ z=>z.elim) (gg rS ks vs xs hvl pS) fun Z5 Fs5 B5 s5 _=>h5 σ Z5 _ Fs5 B5 ((s.trans (s3.mono (fun _ z=>z) fun b h=>h.imp id .inl)).trans (s5.mono (fun _ z=>z) fun _ z=>.inl z))
theorem fj {m m':Md}{t:T}{v:V}{G G' Z':Fp}(hl:t.leaf=true)(r:Rep K Z H m t v G):Rep K Z' H m' t v G':=r.leaf (fun _ _ _ e=>e) hl
theorem mz {u w:W}{r:W×W}(h:fH u w=some r):∃ m ts n j t,u=(m,.lst ts)/\m≠.s/\w=(n,.int (j:Nat))/\j < 1000/\leaves ts=true/\ts[j]?=some t/\r=((.d,t),(m,.lst (ts.eraseIdx j))):=by
 obtain ⟨m,t⟩:=u
 obtain ⟨n,x⟩:=w
 have key:∀ ts (i:Int),(if (decide (0<=i)&&decide (i < 1000)&&leaves ts)=true then (ts[i.toNat]?).map (fun t=>(((.d,t),(m,.lst (ts.eraseIdx i.toNat))):W×W)) else none)=some r->∃ (j:Nat) (t:T),i=(j:Int)/\j < 1000/\leaves ts=true/\ts[j]?=some t/\r=((.d,t),(m,.lst (ts.eraseIdx j))):=fun ts i h=>by
  split at h
  ·rename_i hc
   rw [a0k,a0k,decide_eq_true_eq,decide_eq_true_eq] at hc
   cases e:ts[i.toNat]? with
   | none=>rw [e] at h; cases h
   | some t =>
    rw [e] at h
    cases h
    exact ⟨i.toNat,t,by omega,by omega,hc.2,e,rfl⟩
  ·cases h
 cases t with
 | lst ts =>
  cases x with
  | int i =>
   cases m with
   | s=>cases h
   | d =>
    obtain ⟨j,t,rfl,a,b,c,d⟩:=key ts i h
    exact ⟨.d,ts,n,j,t,rfl,by simp,rfl,a,b,c,d⟩
   | o m =>
    obtain ⟨j,t,rfl,a,b,c,d⟩:=key ts i h
    exact ⟨.o m,ts,n,j,t,rfl,by simp,rfl,a,b,c,d⟩
  | _=>cases m<;>cases h
 | _=>cases m<;>cases h
theorem dP {m m':Md}{Z':Fp}:∀ {ts:List T} {xs:List V} {G G':Fp} (j:Nat),leaves ts=true->RepL K Z H m ts xs G->RepL K Z' H m' (ts.eraseIdx j) (xs.eraseIdx j) G'
 | [],_,_,_,j,_,h=>by rw [show _=[] from h]; rfl
 | t::ts,_,G,G',0,hl,⟨x,r,G1,G2,e,_,_,_,p,q⟩=>by
  subst e
  have hl':(t.leaf&&leaves ts)=true:=hl
  rw [a0k] at hl'
  exact RepL.leaves (fun _ _ _ e=>e) hl'.2 q
 | t::ts,_,G,G',j+1,hl,⟨x,r,G1,G2,e,_,_,_,p,q⟩=>by
  subst e
  have hl':(t.leaf&&leaves ts)=true:=hl
  rw [a0k] at hl'
  exact ⟨x,r.eraseIdx j,fun _=>False,G',rfl,fun _ z=>z.elim,fun _ z=>z,fun _ z=>z.elim,fj hl'.1 p,dP (G':=G') j hl'.2 q⟩
theorem u7 {i j:Nat}{e:E}(hs:sf i=some j)(σ:L2.St)(H:Hp)(Q:VK)(h:wE K sf C (.popN i e) σ H Q) :
  ∃ a xs,σ[j]?=some (some (.ref a))/\H a=some (.lst xs)/\wE K sf C e σ H fun z H1=>∃ xs n y,z=.int ((n:Nat):Int)/\n < 1000/\H1 a=some (.lst xs)/\xs[n]?=some y/\Q y (upd H1 a (.lst (xs.eraseIdx n))):=by
 obtain ⟨pv,Z,Fs,η,w,η',A,ev,k⟩:=h
 obtain ⟨_,h0,h1⟩:=aa (show (cK (rd η i)).bind (ed (evE C e) η (fu i))=_ from ev)
 obtain ⟨m0,t0,h00⟩:=iu h0
 obtain ⟨a,xs0,hj,ha⟩:=A.listAt hs h00
 obtain ⟨⟨u,η1⟩,h2,h3⟩:=aa (show (evE C e η).bind (fu i)=_ from h1)
 obtain ⟨r,h4,h5⟩:=aa (show (ofO ((rd η1 i).bind fun w=>fH w u)).bind (fun r=>.ok (r.1,M.put η1 i r.2))=_ from h3)
 cases h5
 have h6:=a9 h4
 refine ⟨a,xs0,hj,ha,pv,Z,Fs,η,u,η1,A,h2,fun z Z' H' Fs' G B rz s=>?_⟩
 cases e1:rd η1 i with
 | none=>rw [e1] at h6; cases h6
 | some u1 =>
  rw [e1] at h6
  obtain ⟨m,ts,n,q,t,rfl,hm,rfl,hq,hlv,ht,rfl⟩:=mz (show fH u1 u=some r from h6)
  obtain ⟨xs,hl,hf,hx,p,hpv⟩:=B.ourList hs hm hj e1
  obtain ⟨y,hy,ry⟩:=RepL.get p ht
  have htl:t.leaf=true:=a0A.mp hlv t (a05 ht)
  refine ⟨xs,q,y,rz,hq,hx,hy,?_⟩
  have pl:RepL K (fun b=>Z' b\/((Fs' i b\/G b)/\b≠a/\¬ no b)) H' m.kid (ts.eraseIdx q) (xs.eraseIdx q) no:=dP q hlv p
  have hle:(xs.eraseIdx q).length<=LIM:=a0u (List.length_eraseIdx_le ..) hl
  refine change (K:=K) (m':=m) (G':=no) (Q:=fun H''=>Q y H'') hm B e1 hf (fun k hk=>by rw [show sf i=some k from hk] at hs; cases hs; exact hj) hle hpv (fun _ z=>z.elim) (ts':=ts.eraseIdx q) pl fun Z2 Fs2 B2 s2=>?_
  exact k y Z2 _ Fs2 no B2 (by have:=fj (m':=.d) (G':=no) (Z':=Z2) htl ry; exact this.leaf (fun b o u e=>by rw [ab (fun z=>by rw [z,hx] at e; cases e)]; exact e) htl) ((s.trans s2).mono (fun _ z=>z) fun b h=>h.elim id fun z=>z.elim)
end
end MR
namespace MR
open PySem PySem.Spec PyProof.Rows L2 L3
section
variable {X:Cx}{sf sg:Nat->Option Nat}{C:M.Call}{pos p p2 p3:Pos}{ea eb ec:Expr}{a b c:M.E}{h:Bool}{n:Nat}{io:List Nat}{K:a0a}
theorem BL (j:Nat)(hr:Room n X.A){i:Nat}{x:Str}{xx:M.X}{px ps:Pos}(ha:SE X sf C ea a)(hb:SE X sf C eb b)(hs:sf i=some j:=by rfl)(hN:X.N[j]?=some x:=by rfl)(hv:Vis X.env.scope x:=by first | exact a0y rfl | exact a0s (a0y rfl) | exact a0s (a0s rfl))(hd:(x==("__debug__":Str))=false:=by decide)(hcd:(x==("__classdict__":Str))=false:=by decide)
  (hsw:swapsWith ea (some (.Subscript (.Name x px) eb ps)) pos.line X.env=pure false:=by rfl) :
  SS X sf io C (.Assign [.Subscript (.Name x px) eb ps] ea pos) (.setS xx i b a) :=
 ba (tf (vz hr) (az hN hv hd hcd) hb ha hsw) fun D σ H hw=>by
  obtain ⟨pv,Z,Fs,η,w,η',A,ev,k⟩:=uV hs D σ H hw
  refine ⟨pv,Z,Fs,η,w,η',A,ev,fun v Z' H' Fs' G B r s=>?_⟩
  obtain ⟨o,ho,pv2,Z2,Fs2,η2,w2,η3,A2,ev2,k2⟩:=k v Z' H' Fs' G B r s
  refine ⟨o,ho,pv2,Z2,Fs2,η2,w2,η3,A2,ev2,fun z Z3 H3 Fs3 G3 B3 r3 s3=>?_⟩
  obtain ⟨q,kvs,kk,rfl,rfl,g1,g2,g3⟩:=k2 z Z3 H3 Fs3 G3 B3 r3 s3
  exact ⟨q,_,rfl,.inl ⟨kvs,kk,g1,rfl,g2,rfl⟩,g3⟩
theorem Br (j:Nat){i:Nat}{x:Str}{apos cpos px:Pos}(ha:SE X sf C ea a)(hs:sf i=some j:=by rfl)(hN:X.N[j]?=some x:=by rfl)(hv:Vis X.env.scope x:=by first | exact a0y rfl | exact a0s (a0y rfl) | exact a0s (a0s rfl))(hd:(x==("__debug__":Str))=false:=by decide)(hcd:(x==("__classdict__":Str))=false:=by decide)
  (hbase:attributeBase (.Name x px) "pop" X.env (eval (.Name x px) X.env)=eval (.Name x px) X.env:=by rfl)
  (hfew:((backTo cpos (starEach [ea] X.env)).all (fun x=>!x.1)&&(backToKw cpos (keywordEach [] X.env)).all (fun x=>x.1.isSome)&&decide ([ea].length+([]:List Keyword).length+(if ([]:List Keyword).isEmpty then 0 else 1) < 30))=true:=by rfl)
  (hline:(apos.endLine==cpos.line)=true:=by rfl) (hst:starEach [ea] X.env=(false,eval (ea) X.env)::starEach [] X.env:=by rfl) (hplain:(backTo cpos (starEach [] X.env)).any (·.1)=false:=by rfl) :
  SE X sf C (.Call (.Attribute (.Name x px) "pop" apos) [ea] [] cpos) (.popN i a) :=
 au (iW a0P a1N a1O om (az hN hv hd hcd) (aG ha bx hst) hbase hfew hline hst hplain) fun σ H Q hw=>by
  obtain ⟨p,xs,hj,hp,pv,Z,Fs,η,w,η',A,ev,k⟩:=u7 hs σ H Q hw
  refine ⟨.ref p,hj,.inl ⟨rfl,xs,.inl (.inl hp)⟩,pv,Z,Fs,η,w,η',A,ev,fun v Z' H' Fs' G B r s=>?_⟩
  obtain ⟨ys,n,y,rfl,hn,h1,h2,h3⟩:=k v Z' H' Fs' G B r s
  have hlt:n < ys.length:=(a0z.mp h2).1
  exact ⟨p,ys,(n:Int),n,y,rfl,rfl,h1,by omega,by omega,by unfold seqIndex?; rw [if_neg (by omega:¬ ((n:Int) < 0))]; simp [hlt],h2,h3⟩
theorem iq {Z:Fp}{H:Hp}{G:Fp}{q:Int ⊕ Str}{t:M.T}:∀ {ks:List (Int ⊕ Str)} {vs:List M.T} {xs:List V},RepL K Z H .s vs xs G->M.lookD q ks vs=some t->∃ x,dU (mkD ks xs) q=some x/\Rep K Z H .s t x no
 | [],[],_,_,e=>by cases e
 | [],_::_,_,_,e=>by cases e
 | _::_,[],_,_,e=>by cases e
 | k::ks,v::vs,xs,⟨x,r,G1,G2,e0,_,h2,_,p,r2⟩,e=>by
  subst e0
  have e':(if k=q then some v else M.lookD q ks vs)=some t:=e
  by_cases hk:k=q
  ·rw [if_pos hk] at e'
   cases e'
   refine ⟨x,?_,p.sany⟩
   show (((k,x)::mkD ks r).find? fun kv=>decide (kv.1=q)).map (·.2)=some x
   rw [List.find?_cons_of_pos (by simpa using hk)]
   rfl
  ·rw [if_neg hk] at e'
   obtain ⟨y,hy,ry⟩:=iq r2 e'
   refine ⟨y,?_,ry⟩
   show (((k,x)::mkD ks r).find? fun kv=>decide (kv.1=q)).map (·.2)=some y
   rw [List.find?_cons_of_neg (by simpa using hk)]
   exact hy
theorem uA:Loc K 2 .ixD h fun xs H Q=>∀ x y,xs=[x,y]->∃ a v,x=.ref a/\DGet H a y (some v)/\Q v H:=by
 intro ws w xs Z H G Q hn e r ow za k x y hx
 subst hx
 obtain ⟨⟨m,a⟩,⟨n,b⟩,rfl⟩:=dy r.length.symm
 obtain ⟨G1,G2,w1,w2,d,r1,r2⟩:=b5 r
 cases a with
 | dct ks vs =>
  cases m with
  | s =>
   have e':((M.keyT b).bind fun q=>(M.lookD q ks vs).map fun t=>((.s,t):M.W))=some w:=e
   cases e1:M.keyT b with
   | none=>rw [e1] at e'; cases e'
   | some q =>
    rw [e1] at e'
    have e2:((M.lookD q ks vs).map fun t=>((.s,t):M.W))=some w:=e'
    cases e3:M.lookD q ks vs with
    | none=>rw [e3] at e2; cases e2
    | some t =>
     rw [e3] at e2
     cases e2
     obtain ⟨ad,ys,hq,hl,hd,hnk,hvl,pr⟩:=r1
     have hb:=jo e1
     subst hb
     obtain ⟨hy,_⟩:=nt r2
     obtain ⟨v,hv,rv⟩:=iq pr e3
     have hx':x=.ref ad:=hq
     have hy':y=kV q:=hy
     subst hx' hy'
     refine ⟨ad,v,rfl,?_,fg ow k (rv.sany)⟩
     rw [<- hv]
     exact DGet.k hd.2
  | d=>cases e
  | o m=>cases e
 | _=>cases m<;>cases e
theorem y7 (hr:Room n X.A)(ha:SE X sf C ea a)(hb:SE X sf C eb b)(hs:y0 eb:=by intro _ _; rfl):SE X sf C (.Subscript ea eb pos) (.op .ixD h [a,b]):=au (t9 (vz hr) ha hb hs) (aL uA)
end
end MR

namespace L3
open PySem PySem.Spec PyProof.Rows L2
end L3
namespace MR
open PySem PySem.Spec PyProof.Rows L2 L3
end MR

namespace MR
open L2 L3 M
open PySem (Addr Str sizeLine)
section
variable {K:a0a}{sl:Cf}{sf sg:Nat->Option Nat}{C:Call}{σ σ2:L2.St}{Z Z' Z1:Fp}{H H' H1:Hp}{Fs Fs' Fs1:Fps}{η η' η1 ηb:Env}{G G' G1 R F F':Fp}{tg is vs ls io:List Nat}{pv val:Nat->Option V}{D:aT}
theorem sX {o:Option W}{ts:List T}(h:vwT o=some ts):∃ m,o=some (m,.lst ts)/\m≠.s/\leaves ts=true:=by
 unfold vwT at h
 split at h
 ·cases h
 ·rename_i m ts' hm
  split at h
  ·rename_i hl
   cases h
   exact ⟨m,rfl,fun e=>hm (e ▸ rfl) ,hl⟩
  ·cases h
 ·cases h
theorem At.away {i:Nat}{w:W}(A:At K sl σ Z H Fs η no)(e1:rd η i=some w):At K sl σ Z H (gB Fs i) (del η i) (Fs i):=by
 refine ⟨⟨fun a ⟨l,h1,h2⟩=>A.gd.own a ⟨l,h2⟩,fun l l' a h1 h2=>A.gd.dis l l' a h1.2 h2.2,A.gd.zal⟩,fun l m' t' e=>?_,fun a ha=>A.gd.own a ⟨i,ha⟩,fun a ha ⟨l,h1,h2⟩=>h1 (A.gd.dis l i a h2 ha),A.lk,A.ln⟩
 rw [aH] at e
 split at e
 ·cases e
 ·rename_i hne
  obtain ⟨v',r',hv'⟩:=A.env l m' t' e
  have hli:l≠i:=fun z=>hne ⟨z,bH e1⟩
  exact ⟨v',r'.mono fun a ha=>⟨hli,ha⟩,hv'⟩
theorem kf {h:Bool}{t i0 j0:Nat}{f:Env->Res (Option W×Env)}{te:L2.St->Hp->(Option V->Hp->Prop)->Prop}(I:c9 sf sg [t] is)(hs:sf i0=some j0)
  (hf:∀ {η o η'},f η=.ok (o,η')->Nn η η')
  (hte:∀ {val:Nat->Option V} {σ2:L2.St} {Z:Fp} {H:Hp} {Fs:Fps} {η ηc:Env} {R:Fp} {o:Option W} {Q:Option V->Hp->Prop},At K ⟨sg,val⟩ σ2 Z H Fs η R->f η=.ok (o,ηc) ->
   (∀ oy Z' H' Fs' G,At K ⟨sg,val⟩ σ2 Z' H' Fs' ηc (fun c=>R c\/G c)->(match o,oy with | some w,some y=>Rep K Z' H' w.1 w.2 y G | none,none=>True | _,_=>False)->(∀ c,R c->¬ G c)->Step Z H (tot Fs) Z' H' (fun a=>tot Fs' a\/G a)->Q oy H')->te σ2 H Q)
  {e:E} (he:∀ η,evE C e η=(ofO (vwT (rd η i0))).bind (kV1 h i0 t f η)) (σ:L2.St) (H:Hp) (Q:VK) (hw:wE K sf C e σ H Q) :
  fZ K (eJ j0) σ H fun J H1=>∃ W:Nat->Nat->List V->Hp->Prop,(∃ m,W 0 m [] H1)/\∀ i m ys H,W i m ys H ->
   (J.stop i H/\ys.length<=sizeLine/\∀ p,H p=none->Q (.ref p) (upd H p (.lst ys))) \/
   (J.go i H/\ys.length < sizeLine/\∀ x H',J.yld i H x H'->gT K 1 x (a0l 1 none++aZ σ is) H' fun σ2 H2=>(σ2.length=1+(aZ σ is).length/\σ2.drop 1=aZ σ is)/\te σ2 H2 fun oy H3=>∃ m',m' < m/\W (i+1) m' (ys++oy.toList) H3):=by
 obtain ⟨pv,Z,Fs,η,w,η',A,ev,kk⟩:=hw
 rw [he] at ev
 obtain ⟨ts0,g1,g2⟩:=aa ev
 obtain ⟨m0,e1,hm0,hlv⟩:=sX (a9 g1)
 obtain ⟨⟨w',η2⟩,g3,g4⟩:=aa (show ((ay [t] f (ts0.map fun u=>[(.s,u)]) (ae [t] (del η i0)) []).bind (eT h)).bind (kV2 i0 (rd η i0))=_ from g2)
 cases g4
 obtain ⟨⟨us,η3⟩,h3,g5⟩:=aa g3
 obtain ⟨w'',h4,g6⟩:=aq (show ret η3 _=_ from g5)
 cases g6
 obtain ⟨v,r0,l0,p0⟩:=A.env i0 m0 (.lst ts0) e1
 obtain ⟨a,xs,rfl,hl,hfa,hxa,pl⟩:=bj hm0 r0
 have A0:=A.away e1
 obtain ⟨val,v1,A2,v2⟩:=(A0.dels (tg:=[t])).pin
 generalize hN:ts0.map (fun u=>[((.s,u):W)])=tss at h3
 have hNl:tss.length=xs.length:=by rw [<- hN,a0e,pl.length]
 have sH:∀ {Z':Fp} {H':Hp} {F':Fp},Step Z H (tot (ck (gB Fs i0) [t])) Z' H' F'->H' a=some (.lst xs):=fun s=>s.keep a _ hxa fun ⟨l,_,h1,h2⟩=>h1 (A.gd.dis l i0 a h2 hfa)
 refine ⟨.ref a,l0 j0 hs,a,rfl,⟨xs,.inl (.inl hxa)⟩,fun i m ys H0=>m=tss.length-i/\i<=tss.length/\ys.length<=i/\∃ (Zi:Fp) (Fsi:Fps) (ηi:Env) (acc:List W) (Ga:Fp),At K ⟨sf,val⟩ σ Zi H0 Fsi ηi (fun c=>Fs i0 c\/Ga c)/\(∀ c,Fs i0 c->¬ Ga c)/\RepW K Zi H0 acc ys Ga/\ay [t] f (tss.drop i) ηi acc=.ok (us,η2)/\(∀ j∈[t],rd ηi j=none)/\(∀ j∈[t],∀ b,¬ Fsi j b)/\Nn (ae [t] (del η i0)) ηi/\Step Z H (tot (ck (gB Fs i0) [t])) Zi H0 (fun b=>tot Fsi b\/Ga b),
  ⟨tss.length,by simp,a0F _,a0h _,Z,ck (gB Fs i0) [t],ae [t] (del η i0),[],no,A2.mono fun c hc=>hc.elim id fun z=>z.elim,fun _ _ z=>z,rfl,h3,fun j hj=>by rw [ai,if_pos hj],fun j hj b hb=>hb.1 hj,Nn.refl _,(Step.refl _ _ _).mono (fun _ z=>z) fun b hb=>hb.elim id fun z=>z.elim⟩,?_⟩
 rintro i m ys H0 ⟨rfl,hi,hlen,Zi,Fsi,ηi,acc,Ga,Ai,dGa,ra,hc,htg,hfp,hnn,si⟩
 have hx0:=sH si
 by_cases hlt:i < tss.length
 ·right
  have hix:i < xs.length:=by omega
  have hw:tss[i]?=some tss[i]:=by simp [hlt]
  have hu:∃ u,tss[i]=[((.s,u):W)]/\ts0[i]?=some u:=by
   have hi0:i < ts0.length:=by rw [<- hN,a0e] at hlt; exact hlt
   refine ⟨ts0[i],?_,by simp [hi0]⟩
   have:tss[i]?=some [((.s,ts0[i]):W)]:=by rw [<- hN,a0t]; simp [hi0]
   rw [hw] at this
   exact a0v this
  obtain ⟨u,hu1,hu2⟩:=hu
  refine ⟨⟨xs,xs[i],.inl (.inl hx0),by simp [hix]⟩,a1C (a0u hlen hi) (dG (by omega)),fun x H2 y=>?_⟩
  obtain ⟨e0,hyx⟩:=y
  subst e0
  have hx1:xs[i]?=some x:=hyx xs (.inl (.inl hx0))
  rw [cJ hw,hu1] at hc
  obtain ⟨ηb,o,ηc,hb,hfe,hc2⟩:=eU hc
  have hb':M.put ηi t (.s,u)=ηb:=a0v (show some (M.put ηi t (.s,u))=some ηb from hb)
  subst hb'
  have hul:u.leaf=true:=a0A.mp hlv u (a05 hu2)
  obtain ⟨x',hx',rx⟩:=RepL.get pl hu2
  have hxe:x'=x:=by rw [hx'] at hx1; exact a0v hx1
  subst hxe
  have hfrz:∀ b o u,H b=some (.frz o u)->H2 b=some (.frz o u):=fun b o u eb=>si.keep b _ eb fun ⟨l,hl1,hl2⟩=>by
   obtain ⟨_,zs,e⟩:=A0.gd.own b ⟨l,hl2⟩
   rw [e] at eb
   exact (cQ eb.symm).elim
  have r':Rep K Zi H2 (Md.s) u x' (Fsi t):=rx.leaf hfrz hul
  have A3:At K ⟨sg,inV val [t]⟩ (some x'::aZ σ is) Zi H2 Fsi (M.put ηi t (.s,u)) (fun c=>Fs i0 c\/Ga c):=by
   refine (Ai.into (σ2:=some x'::aZ σ is) I htg (fun k j0 v h1 h2=>?_) (du I (by simp [aZ,a1z]))).put1 r' (fun j hj=>?_) (if_pos (by simp))
   ·rw [a0r,a1z,a0C]; exact eB h1 h2
   ·rcases I t j hj with ⟨k,hk,rfl⟩ | ⟨h,_⟩
    ·cases j with
     | zero=>rfl
     | succ _=>simp at hk
    ·exact absurd (a0E.mpr rfl) h
  show (_/\_)/\_
  refine ⟨⟨by simp [a1z],rfl⟩,?_⟩
  refine hte A3 hfe fun oy Z4 H4 Fs4 G4 A4 r4 d4 s4=>⟨tss.length-(i+1),by omega,rfl,hlt,?_,?_⟩
  ·cases oy<;>simp<;>omega
  ·have ra4:RepW K Z4 H4 acc ys Ga:=ra.frame A3.gd.own s4 fun b hb=>A3.dis b (.inr hb)
   have vv:∀ j m t',rd (ae [t] ηc) j=some (m,t')->val j≠none:=fun j m t' e=>by
    rw [ai] at e
    split at e
    ·cases e
    ·rename_i hj
     have n1:rd (M.put ηi t (.s,u)) j≠none:=fun z=>by rw [hf hfe j z] at e; cases e
     rw [cA (tg:=[t]) (t:=[(.s,u)]) (η:=ηi) rfl j hj] at n1
     have n2:rd (ae [t] (del η i0)) j≠none:=fun z=>n1 (hnn j z)
     cases e2:rd (ae [t] (del η i0)) j with
     | none=>exact absurd e2 n2
     | some u'=>exact v2 j u'.1 u'.2 e2
   have A5:=(A4.dels (tg:=[t])).outof (sf:=sf) (σ:=σ) (val:=val) (fun j hj=>by rw [ai,if_pos hj]) vv Ai.lk Ai.ln
   have s5:Step Z H (tot (ck (gB Fs i0) [t])) Z4 H4 (fun b=>tot (ck Fs4 [t]) b\/(Ga b\/G4 b)):=by
    refine (si.trans (s4.frame Ga)).mono (fun _ z=>z) fun b hb=>?_
    rcases hb with z | z | z
    ·exact .inl (.inl (bp z))
    ·exact .inr z
    ·exact .inl (.inr z)
   refine ⟨Z4,ck Fs4 [t],ae [t] ηc,acc++o.toList,fun c=>Ga c\/G4 c,A5.mono fun c hc=>?_,fun c hc z=>?_,?_,hc2,fun j hj=>by rw [ai,if_pos hj],fun j hj b hb=>hb.1 hj,fun j e=>?_,s5⟩
   ·rcases hc with z | z | z
    ·exact .inl (.inl z)
    ·exact .inl (.inr z)
    ·exact .inr z
   ·rcases z with z | z
    ·exact dGa c hc z
    ·exact d4 c (.inl hc) z
   ·cases o with
    | none =>
     cases oy with
     | none=>rw [a1d,a1d,a0w,a0w]; exact ra4.mono fun _ z=>.inl z
     | some _=>exact r4.elim
    | some w4 =>
     cases oy with
     | none=>exact r4.elim
     | some y4=>exact RepW.append (fun _ z=>.inl z) (fun _ z=>.inr z) (fun c hc=>d4 c (.inr hc)) ra4 (RepW.one r4)
   ·have e':=hnn j e
    rw [ai]
    split
    ·rfl
    ·rename_i hj
     exact hf hfe j (by rw [cA (tg:=[t]) (t:=[(.s,u)]) (η:=ηi) rfl j hj]; exact e')
 ·left
  have hi':i=tss.length:=by omega
  subst hi'
  rw [a1t] at hc
  cases hc
  refine ⟨⟨xs,.inl (.inl hx0),by omega⟩,a8 (by omega),?_⟩
  have Ai':=Ai.unpin v1
  have rl:Rep K Zi H0 m0 (.lst ts0) (.ref a) (Fs i0):=r0.frame A0.gd.own (show Step Z H (tot (gB Fs i0)) Zi H0 (fun b=>tot Fsi b\/Ga b) from si.mono (fun _ z=>bp z) fun _ z=>z) fun b hb=>A0.dis b hb
  refine i7 (G:=Ga) (fun b hb=>Ai'.own b (.inr hb)) Ai'.gd.zal ra (by omega) h4 ?_
  intro v' Z' H' G' rv ow st
  have hR:Own Zi H0 (Fs i0):=fun b hb=>Ai'.own b (.inl hb)
  have oR:=hR.frame st dGa
  have stR:Step Zi H0 (fun c=>Fs i0 c\/Ga c) Z' H' (fun c=>Fs i0 c\/G' c):=(st.frame (Fs i0)).mono (fun _ z=>z.elim .inr .inl) fun _ z=>z.elim .inr .inl
  obtain ⟨B,sB⟩:=Ai'.op (G':=fun c=>Fs i0 c\/G' c) (fun c hc=>hc.elim (oR.1 c) (ow c)) stR
  have rl':Rep K Z' H' m0 (.lst ts0) (.ref a) (Fs i0):=rl.frame (fun b hb=>Ai'.own b (.inr hb)) st dGa
  have B2:=B.put (i:=i0) (w:=(m0,.lst ts0)) (G1:=Fs i0) (R:=G') rl' (fun _ z=>.inl z) (fun _ z=>.inr z) (fun c hc z=>oR.2 c z hc) (fun j hj=>l0 j hj) p0
  rw [e1] at kk
  refine kk v' Z' H' (gH Fsi i0 (Fs i0)) G' B2 rv ?_
  have s1:Step Z H (tot Fs) Zi H0 (fun c=>tot Fsi c\/(Fs i0 c\/Ga c)):=by
   refine (si.frame (Fs i0)).mono (fun c hc=>?_) fun c hc=>?_
   ·rcases hc with z | z
    ·obtain ⟨l,_,_,z2⟩:=z
     exact ⟨l,z2⟩
    ·exact ⟨i0,z⟩
   ·rcases hc with z | z | z
    ·exact .inl (.inl z)
    ·exact .inr z
    ·exact .inl (.inr z)
  refine (s1.trans sB).mono (fun _ z=>z) fun c hc=>?_
  ·rcases hc with z | z
   ·rcases bu z with q | q
    ·exact .inl q
    ·exact .inr (.inl q)
   ·exact .inr (.inr z)
theorem qJ {h:Bool}{t i0 j0:Nat}{elt cnd:E}(I:c9 sf sg [t] is)(hs:sf i0=some j0)(σ:L2.St)(H:Hp)(Q:VK)(hw:wE K sf C (.compV h i0 t cnd elt) σ H Q):cq 1 (fZ K (eJ j0)) is (gT K 1) (wT K sg C cnd) (wE K sg C elt) σ H Q:=by
 have main:=kf (te:=fun σ2 H Q=>wT K sg C cnd σ2 H fun ok H2=>if ok=true then wE K sg C elt σ2 H2 fun y H'=>Q (some y) H' else Q none H2) I hs (f:=bE (evE C cnd) (evE C elt)) (fun {η o η'} hf=>by
  obtain ⟨⟨u,η4⟩,h7,h8⟩:=aa (show (evE C cnd η).bind (onT (cu (evE C elt)) (okW none))=_ from hf)
  obtain ⟨d,h9,h10⟩:=a0 h8
  cases d with
  | true =>
   rw [if_pos rfl] at h10
   obtain ⟨⟨u2,η5⟩,h11,h12⟩:=aa (show (evE C elt η4).bind cj=_ from h10)
   cases h12
   exact (ah cnd h7).trans (ah elt h11)
  | false =>
   rw [if_neg a0n] at h10
   cases h10
   exact ah cnd h7) (fun {val σ2 Z H Fs η ηc R o Q} A hf k=>by
  obtain ⟨⟨u,η4⟩,h7,h8⟩:=aa (show (evE C cnd η).bind (onT (cu (evE C elt)) (okW none))=_ from hf)
  obtain ⟨d,h9,h10⟩:=a0 h8
  refine jI A.bare h7 h9 fun Z1 H1 Fs1 A1 s1=>?_
  have A1':=A.frame (A1.mono (G':=no) fun _ z=>z) (s1.mono (fun _ z=>z) fun a ha=>ha.elim id fun z=>z.elim)
  have A2:=A1'.1.mono (G':=R) fun _ z=>.inl z
  cases d with
  | true =>
   rw [if_pos rfl] at h10 ⊢
   obtain ⟨⟨u2,η5⟩,h11,h12⟩:=aa (show (evE C elt η4).bind cj=_ from h10)
   cases h12
   exact jO A2 h11 fun v Z' H' Fs' G B r d s _=>k (some v) Z' H' Fs' G B r d (s1.trans s)
  | false =>
   rw [if_neg a0n] at h10 ⊢
   cases h10
   exact k none Z1 H1 Fs1 no (A2.mono fun _ z=>z.elim id fun q=>q.elim) trivial (fun _ _ z=>z) (s1.mono (fun _ z=>z) fun a ha=>ha.elim id fun z=>z.elim)) (fun η=>rfl) σ H Q hw
 obtain ⟨x,hx,a,e,sq,W,w0,turn⟩:=main
 refine ⟨x,hx,a,e,sq,W,w0,fun i m ys H w=>?_⟩
 rcases turn i m ys H w with c | ⟨go,hz,step⟩
 ·exact .inl c
 ·refine .inr ⟨go,hz,fun x H' y=>?_⟩
  have st:=step x H' y
  simp only [a2X,a1d,a0w] at st
  exact st
end
end MR
namespace MR
open PySem PySem.Spec PyProof.Rows L2 L3
section
variable {X:Cx}{sf sg:Nat->Option Nat}{C:M.Call}{pos p p2 p3:Pos}{ea eb ec:Expr}{a b c:M.E}{h:Bool}{n:Nat}{io:List Nat}{K:a0a}{elt iter cnd:Expr}{x y:Str}{px py pt:Pos}{kt:Nat}{scope:Scope}{cl:List (Str×Addr)}{ys:List Str}{tg ls is:List Nat}{k:M.Ik}{src:List M.E}{e cd:M.E}
theorem Dz (j:Nat)(ls:List Nat)(is:List Nat)(cl:List (Str×Addr))(ys:List Str){t i:Nat}(hcd:∀ Ca s H fp,SB (af X ([x]++ys) scope cl Ca s H fp) (inF [t] ls) C cnd cd)(he:∀ Ca s H fp,SE (af X ([x]++ys) scope cl Ca s H fp) (inF [t] ls) C elt e)
  (S:aj [x] ys scope) (hcl:Clo X cl) (fr:Frees X scope cl ys is) (hs0:sf i=some j:=by rfl) (hN:X.N[j]?=some y:=by rfl) (hv:Vis X.env.scope y:=by first | exact a0y rfl | exact a0s (a0y rfl) | exact a0s (a0s rfl)) (hd:(y==("__debug__":Str))=false:=by decide) (hcd0:(y==("__classdict__":Str))=false:=by decide) (hc:X.calm=true:=by rfl) (hl:ls.map sf=is.map some:=by rfl)
  (hclos:closureFor scope X.env=pure cl:=by with_unfolding_all rfl) (hfr:(scope.names.all fun p=>p.2 != .free || (cl.lookup p.1).isSome)=true:=by rfl)
  (hs:∀ v,foldedSetIterable (.Name y py) X.env v=pure v:=by intro _; rfl):SE X sf C (.ListComp elt [⟨.Name x px,.Name y py,[cnd],0⟩] scope pos) (.compV h i t cd e) :=
 au (fI (pre:=[x]) hc (dZ (az hN hv hd hcd0)) (qE S) (fun Ca s H fp=>he Ca s H fp) (fun Ca s H fp=>hcd Ca s H fp) hclos S hcl hfr fr hs) (qJ (b0 hl) hs0)
end
end MR

namespace L2
open PySem PySem.Spec PyProof.Rows
section
variable {X:Cx}{tg:Expr}
noncomputable def Itd (lo:Int)(n:Nat):It:=⟨fun i _=>i < n,fun i H x H'=>H'=H/\x=.int (lo-i),fun i _=>n<=i⟩
theorem mN {P:Program}{w:World}{K:a0a}{tg:Expr}(it:Addr)(lo:Int)(n:Nat):lV P w K tg (Itd lo n) [it] it (fun i h=>IsRangeIter h it (lo+(i:Nat) * (-1)) ((n:Int)-(i:Nat)) (-1)) where
 mem:=by simp
 obj:=fun i h st b hb=>by
  have e:b=it:=by simpa using hb
  subst e
  exact ⟨_,st,fun v z=>by
   have z':Data.fields _=Data.cell v:=z
   cases z'⟩
 keep:=fun i h h' st k=>k it (by simp) _ st
 item:=by
  intro X hP hw hK hc i pins s σ H E I hf st hg
  subst hP hw hK
  obtain ⟨f0,f1,f2,f3,f4,f5⟩:=hf it (by simp)
  have W:=Walks.range (prog:=X.prog) (w:=X.w) (I.ok.hd hc) it lo (-1) n
  refine W.item i s _ _ hg st fun v h' tk hv st' kk=>?_
  obtain ⟨t,rfl⟩:=hv
  have I1:Inv X pins σ H { s with heap:=h',toks:=tk }:=I.turned (fun b o hb e=>kk b o (by simpa using hb) e) f0 f1 f3 f4 f5
  refine ⟨_,rfl,kR (s:={ s with heap:=h',toks:=tk }) (n:="range_iterator") st' rfl rfl (by decide) ⟨.int (lo-i),H,I1,⟨t,?_⟩,⟨rfl,rfl⟩,st',fun b hb=>(hf b hb).1⟩⟩
  rw [show lo+(i:Int) * (-1)=lo-(i:Int) by omega]
 done:=by
  intro X hP hw hK hc i pins s σ H E I hf st hg
  subst hP hw hK
  obtain ⟨f0,f1,f2,f3,f4,f5⟩:=hf it (by simp)
  exact wpAny_pyNext_range_end (I.ok.hd hc) st (by have:n<=i:=hg; omega) fun h' eb=>⟨rfl,I.turned (t':=s.toks) (fun b o hb e=>eb b o hb e) f0 f1 f3 f4 f5⟩
 self:=fun _ _ _ _ _ st h=>wpAny_pyIter_rangeiter st h
theorem uG {pins:List (Addr×Obj)}{σ:St}{H:Hp}{s:Shared}{R:It->Hp->Prop}{E:Value->Shared->Prop}{lo hi:Int}{t u v:Tok}{tk:Nat}(I:Inv X pins σ H s)(h1:-(2 ^ 62)<=lo)(h2:lo < 2 ^ 62)(h3:-(2 ^ 62)<=hi)(h4:hi < 2 ^ 62)
  (q:R (Itd lo (lo-hi).toNat) H):wpAny (model X.prog X.w) X.A (pyIter (.ref s.heap.objs.size)) (PIE X pins σ tg R) E { s with heap:=s.heap.push { cls:=.type "range",data:=.fields #[.int lo t,.int hi u,.int (-1) v] },toks:=tk }:=by
 refine wpAny_pyIter_range (IsRange.new ..) (PySem.W.small_down h1 h2 h3 h4) ?_
 have I1:Inv X pins σ H { s with heap:=s.heap.push { cls:=.type "range",data:=.fields #[.int lo t,.int hi u,.int (-1) v] },toks:=tk }:=I.kept fun b o e=>Heap.get?_push_of_some _ e
 refine ⟨(s.heap.push { cls:=.type "range",data:=.fields #[.int lo t,.int hi u,.int (-1) v] }).objs.size,[(s.heap.push { cls:=.type "range",data:=.fields #[.int lo t,.int hi u,.int (-1) v] }).objs.size],_,_,H,rfl,
  I1.kept (t':=tk) fun b o e=>Heap.get?_push_of_some _ e,mN _ lo (lo-hi).toNat,?_,fun b hb=>?_,q⟩
 ·have e1:lo+((0:Nat):Int) * (-1)=lo:=by simp
  have e2:(((lo-hi).toNat:Nat):Int)-((0:Nat):Int)=Builtin.Range.rangeSize lo hi (-1):=by rw [PySem.W.rangeSize_downNat]; omega
  show IsRangeIter _ _ (lo+((0:Nat):Int) * (-1)) ((((lo-hi).toNat:Nat):Int)-((0:Nat):Int)) (-1)
  rw [e1,e2]
  exact Heap.get?_push_size _ rfl
 ·have e:b=(s.heap.push { cls:=.type "range",data:=.fields #[.int lo t,.int hi u,.int (-1) v] }).objs.size:=by simpa using hb
  subst e
  exact I1.fpOk (a0h _) (I1.hok.fresh (a0h _))
noncomputable def vL (ta:TA):TI:=fun σ H R=>ta σ H fun vs H1=>∃ i j:Int,vs=[.int i,.int j,.int (-1)]/\(-(2 ^ 62)<=i/\i < 2 ^ 62/\-(2 ^ 62)<=j/\j < 2 ^ 62)/\R (Itd i (i-j).toNat) H1
theorem mM {a b c:Expr}{ta:TA}{p pos:Pos}(hg:Gl X "range")(hm:X.mg "range"=none)(ha:PA X [a,b,c] ta)(hs:starEach [a,b,c] X.env=[(false,eval a X.env),(false,eval b X.env),(false,eval c X.env)]:=by rfl)(hs2:starEach [b,c] X.env=[(false,eval b X.env),(false,eval c X.env)]:=by rfl) :
  PI X tg (.Call (.Name "range" p) [a,b,c] [] pos) (vL ta):=by
 intro pins s σ H R I h
 refine Call_ (dz I hg hm boot_range (a09 (thn (ha pos pins s σ H _ I h) fun us s1 ⟨vs,H1,I1,r1,q1⟩=>?_) (by rw [hs,hs2]) (by rw [hs2]; rfl)))
 obtain ⟨i,j,e,⟨q1,q2,q3,q4⟩,q⟩:=q1
 subst e
 cases r1 with
 | cons r rr =>
  cases rr with
  | cons r' rr =>
   cases rr with
   | cons r'' rr =>
    cases rr
    obtain ⟨t,rfl⟩:=r
    obtain ⟨t',rfl⟩:=r'
    obtain ⟨t'',rfl⟩:=r''
    exact call_range_3 (by decide) (uG I1 q1 q2 q3 q4 q) (.inl (a2q (by omega)))
end
end L2
namespace L3
open PySem PySem.Spec PyProof.Rows L2
end L3
namespace MR
open L2 L3 M
open PySem (Addr Str sizeLine)
section
variable {K:a0a}{sl:Cf}{sf sg:Nat->Option Nat}{C:Call}{σ σ2:L2.St}{Z Z' Z1:Fp}{H H' H1:Hp}{Fs Fs' Fs1:Fps}{η η' η1 ηb:Env}{G G' G1 R F F':Fp}{tg is vs ls io:List Nat}{pv val:Nat->Option V}{D:aT}
theorem tw {lo:Int}{n:Nat}(hL:n<=LIM):Wk K (Itd lo n) Z H ((a0p n).map fun (k:Nat)=>[(.d,.int (lo-k))])/\nh K (Itd lo n) Z H ((a0p n).map fun (k:Nat)=>[(.d,.int (lo-k))]):=by
 refine ⟨⟨fun H' i s hi=>by show i < n; simpa using hi,fun H' i s hi=>by show n<=i; simpa using hi,by simpa using hL⟩,fun H' i x H'' s hi y=>?_⟩
 obtain ⟨rfl,rfl⟩:=y
 refine ⟨rfl,(.d,.int (lo-i)),?_,rfl⟩
 rw [a0e,a0K] at hi
 rw [a0t,a1a hi]
 rfl
theorem tK {e e' e'':E}(σ:L2.St)(H:Hp)(R:It->Hp->Prop)(h:wI K sf C 1 .rng [e,e',e''] σ H R):vL (wL K sf C [e,e',e'']) σ H R:=by
 obtain ⟨pv,Z,Fs,η,ws,η',ts,A,ev,ht,k⟩:=h
 refine ⟨pv,Z,Fs,η,ws,η',A,ev,fun vs Z' H' Fs' G B r s=>?_⟩
 obtain ⟨⟨m,a⟩,η1,us,e1,e2,rfl⟩:=av ev
 obtain ⟨⟨n,b⟩,η2,us,e3,e4,rfl⟩:=av e2
 obtain ⟨⟨o,c⟩,η3,us,e5,e6,rfl⟩:=av e4
 cases e6
 obtain ⟨x,y,z,hx⟩:∃ x y z,vs=[x,y,z]:=by
  have hl:vs.length=3:=r.length
  match vs,hl with
  | [x,y,z],_=>exact ⟨x,y,z,rfl⟩
 subst hx
 obtain ⟨G1,G2,G3,r1,r2,r3⟩:∃ G1 G2 G3,Rep K Z' H' m a x G1/\Rep K Z' H' n b y G2/\Rep K Z' H' o c z G3:=by
  obtain ⟨x',r',G1,G2,e,_,_,_,p,y',r2,G3,G4,e2,_,_,_,q,z',r3,G5,G6,e3,_,_,_,q3,_⟩:=r
  cases e; cases e2; cases e3
  exact ⟨_,_,_,p,q,q3⟩
 cases a with
 | int i =>
  cases b with
  | int j =>
   cases c with
   | int l =>
    have ht':(if decide (i.natAbs < 4611686018427387904)&&decide (j.natAbs < 4611686018427387904)&&decide (l=-1)&&fits (i-j).toNat then some ((a0p (i-j).toNat).map fun (k:Nat)=>[((.d,.int (i-k)):W)]) else none)=some ts:=ht
    split at ht'
    ·rename_i hc
     rw [a0k,a0k,a0k,decide_eq_true_eq,decide_eq_true_eq,decide_eq_true_eq] at hc
     cases ht'
     obtain ⟨⟨⟨c1,c2⟩,c3⟩,c4⟩:=hc
     subst c3
     refine ⟨i,j,by rw [show x=_ from r1,show y=_ from r2,show z=_ from r3],by rw [p62]; omega,?_⟩
     obtain ⟨w1,w2⟩:=tw (K:=K) (Z:=fun a=>Z' a\/G a) (H:=H') (lo:=i) (n:=(i-j).toNat) (bB c4)
     exact k _ _ H' Fs' B.freeze (aP B.own s) w1 w2
    ·cases ht'
   | _=>cases ht
  | _=>cases ht
 | _=>cases ht
end
end MR
namespace MR
open PySem PySem.Spec PyProof.Rows L2 L3
section
variable {X:Cx}{sf sg:Nat->Option Nat}{C:M.Call}{pos p p2 p3:Pos}{ea eb ec:Expr}{a b c:M.E}{h:Bool}{n:Nat}{io:List Nat}{K:a0a}
theorem zr {tg:Expr}{p:Pos}(hm:X.mg "range"=none)(hg:Gl X "range":=by rfl)(ha:SE X sf C ea a)(hb:SE X sf C eb b)(hc:SE X sf C ec c)(hs:starEach [ea,eb,ec] X.env=[(false,eval ea X.env),(false,eval eb X.env),(false,eval ec X.env)]:=by rfl)(hs2:starEach [eb,ec] X.env=[(false,eval eb X.env),(false,eval ec X.env)]:=by rfl)(hs3:starEach [ec] X.env=[(false,eval ec X.env)]:=by rfl):PI X tg (.Call (.Name "range" p) [ea,eb,ec] [] pos) (wI X.K sf C 1 .rng [a,b,c]):=iZ (mM hg hm (slc ha (slc hb (slc hc sl0 hs3) (by rw [hs2,hs3])) (by rw [hs,hs2])) hs hs2) tK
end
end MR

namespace L3
open PySem PySem.Spec PyProof.Rows L2
end L3
namespace MR
open L2 L3 M
open PySem (Addr Str sizeLine)
end MR
namespace MR
open PySem PySem.Spec PyProof.Rows L2 L3
end MR

namespace MR
open L2 L3 M
open PySem (Addr Str sizeLine)
section
variable {K:a0a}{sl:Cf}{sf sg:Nat->Option Nat}{C:Call}{σ σ2:L2.St}{Z Z' Z1:Fp}{H H' H1:Hp}{Fs Fs' Fs1:Fps}{η η' η1 ηb:Env}{G G' G1 R F F':Fp}{tg is vs ls io:List Nat}{pv val:Nat->Option V}{D:aT}
theorem qi {a b c:Option W}{r:W}(h:gm a b c=some r):∃ ts m j n t q us,a=some (.d,.lst ts)/\b=some (m,.int j)/\c=some (n,t)/\M.ixN ts.length j=some q/\ts[q]?=some (.lst us)/\us.length < LIM/\t.leaf=true/\r=(.d,.lst (ts.set q (.lst (us++[t])))):=by
 unfold gm at h
 split at h
 ·rename_i ts m j n t
  cases e:M.ixN ts.length j with
  | none=>rw [e] at h; cases h
  | some q =>
   rw [e] at h
   have h':apU ts q t ts[q]?=some r:=h
   cases e2:ts[q]? with
   | none=>rw [e2] at h'; cases h'
   | some u =>
    rw [e2] at h'
    cases u with
    | lst us =>
     have h2:(if (decide (us.length < LIM)&&t.leaf)=true then some ((.d,.lst (ts.set q (.lst (us++[t])))):W) else none)=some r:=h'
     split at h2
     ·rename_i hc
      rw [a0k] at hc
      cases h2
      exact ⟨ts,m,j,n,t,q,us,rfl,rfl,rfl,e,e2,of_decide_eq_true hc.1,hc.2,rfl⟩
     ·cases h2
    | _=>cases h'
 ·cases h
theorem RepL.inner {y:V}{t:T}(hl:t.leaf=true)(ry:Rep K Z H .d t y no)(oz:∀ a,Z a->H a≠none):∀ {ts:List T} {xs:List V} {G:Fp} {q:Nat} {us:List T},Own Z H G->RepL K Z H .d ts xs G->ts[q]?=some (.lst us)->us.length < LIM ->
  ∃ b ys,xs[q]?=some (.ref b)/\G b/\H b=some (.lst ys)/\ys.length=us.length/\RepL K Z (upd H b (.lst (ys++[y]))) .d (ts.set q (.lst (us++[t]))) xs G
 | [],_,_,_,_,_,_,e,_=>by simp at e
 | u::ts,xs,G,q,us,ow,⟨x,r,G1,G2,ex,h1,h2,hd,p,pq⟩,e,hn=>by
  have stay:∀ {b:Addr} {ys zs:List V},G b->H b=some (.lst ys)->Stay Z H (upd H b (.lst zs)):=fun {b ys zs} gb hb=>by
   have ne:∀ a o,H a=some o->(∀ ys,o≠.lst ys)->upd H b (.lst zs) a=some o:=fun a o e no=>by
    rw [ab fun z=>by rw [z,hb] at e; cases e; exact no _ rfl]; exact e
   refine ⟨fun a o za e=>?_,fun a xs e=>?_,fun a o u e=>ne a _ e (by intro ys z; cases z)⟩
   ·rw [ab (show a≠b from fun z=>(ow b gb).1 (z ▸ za))]; exact e
   ·rcases e with e | ⟨o,e⟩
    ·exact .inl (ne a _ e (by intro ys z; cases z))
    ·exact .inr ⟨o,ne a _ e (by intro ys z; cases z)⟩
  have keep:∀ {b:Addr} {zs:List V} {G':Fp},¬ G' b->∀ a o,G' a->H a=some o->upd H b (.lst zs) a=some o:=fun {b zs G'} nb a o ga e=>by
   rw [ab (show a≠b from fun z=>nb (z ▸ ga))]; exact e
  subst ex
  cases q with
  | zero =>
   rw [a08] at e
   cases e
   obtain ⟨b,ys,rfl,hyl,gb,hb,pr⟩:=bj (by simp) p
   have hyn:ys.length=us.length:=pr.length
   have st:=stay (zs:=ys++[y]) (h1 b gb) hb
   refine ⟨b,ys,rfl,h1 b gb,hb,hyn,.ref b,r,G1,G2,rfl,h1,h2,hd,⟨b,ys++[y],rfl,?_,⟨gb,ag⟩,?_⟩,pq.keep st (fun _ z=>z) (keep (hd b gb))⟩
   ·rw [a0g,a0r,hyn]; exact hn
   ·exact RepL.append (G1:=fun c=>G1 c/\c≠b) (G2:=no) (fun _ z=>z) (fun _ z=>z.elim) (fun _ _ z=>z) (pr.keep st (fun _ z=>z) (keep fun z=>z.2 rfl)) (RepL.one (ry.leaf st.2.2 hl))
  | succ q =>
   rw [a0C] at e
   obtain ⟨b,ys,e1,gb,hb,hyn,pr⟩:=RepL.inner hl ry oz (fun a ga=>ow a (h2 a ga)) pq e hn
   refine ⟨b,ys,e1,h2 b gb,hb,hyn,x,r,G1,G2,rfl,h1,h2,hd,p.keep (stay (h2 b gb) hb) (fun _ z=>z) (keep fun z=>hd b z gb),pr⟩
theorem gw {i:Nat}{b:Addr}{xs':List V}{w':W}{v:V}(A:At K ⟨sf,pv⟩ σ Z H Fs η no){w0:W}(hi:rd η i=some w0)(hb:Fs i b)(hx:∀ j,sf i=some j->σ[j]?=some (some v))(hpv:∀ u,pv i=some u->v=u)(p:Rep K Z (upd H b (.lst xs')) w'.1 w'.2 v (Fs i)) :
  At K ⟨sf,pv⟩ σ Z (upd H b (.lst xs')) Fs (M.put η i w') no/\Step Z H (tot Fs) Z (upd H b (.lst xs')) (tot Fs):=by
 have tb:tot Fs b:=⟨i,hb⟩
 obtain ⟨nz,ys,hy⟩:=A.gd.own b tb
 have al:∀ a,H a≠none->upd H b (.lst xs') a≠none:=fun a h=>by
  by_cases e:a=b
  ·rw [e,ag]; simp
  ·rw [ab e]; exact h
 have kp:∀ a o,H a=some o->a≠b->upd H b (.lst xs') a=some o:=fun a o e ne=>by rw [ab ne]; exact e
 have stay:Stay Z H (upd H b (.lst xs')):=⟨fun a o za e=>kp a o e fun z=>nz (z ▸ za),fun a xs e=>by
  rcases e with e | ⟨o,e⟩
  ·exact .inl (kp a _ e fun z=>by rw [z,hy] at e; exact gM e.symm)
  ·exact .inr ⟨o,kp a _ e fun z=>by rw [z,hy] at e; exact cQ e.symm⟩,fun a o u e=>kp a _ e fun z=>by rw [z,hy] at e; exact cQ e.symm⟩
 refine ⟨⟨⟨fun a ta=>?_,A.gd.dis,fun a za=>al a (A.gd.zal a za)⟩,fun l m t e=>?_,fun a z=>z.elim,fun a z=>z.elim,A.lk,A.ln⟩,⟨fun a o e n=>kp a o e fun z=>n (z ▸ tb),fun _ z=>z,fun _ z=>.inl z,fun _ z=>.inl z,al,fun z a h=>al a (z a h)⟩⟩
 ·obtain ⟨nza,zs,hz⟩:=A.gd.own a ta
  refine ⟨nza,?_⟩
  by_cases e:a=b
  ·exact ⟨.inl xs',by rw [e,ag]; rfl⟩
  ·exact ⟨zs,by rw [ab e]; exact hz⟩
 ·rw [aH] at e
  split at e
  ·rename_i hc
   obtain ⟨rfl,_⟩:=hc
   cases e
   exact ⟨v,p,hx,hpv⟩
  ·rename_i hc
   have hl:l≠i:=fun z=>hc ⟨z,bH hi⟩
   obtain ⟨u,r,h⟩:=A.env l m t e
   exact ⟨u,r.keep stay (fun _ z=>z) fun a o fa e=>kp a o e fun z=>hl (A.gd.dis l i b (z ▸ fa) hb),h⟩
theorem ye {i k l ji jk jl:Nat}(hi:sf i=some ji)(hk:sf k=some jk)(hl:sf l=some jl)(D:aT)(σ:L2.St)(H:Hp)(h:wS K sf io C (.apN i k l) D σ H) :
  ∃ a xs j b ys y,σ[ji]?=some (some (.ref a))/\σ[jk]?=some (some (.int j))/\σ[jl]?=some (some y)/\H a=some (.lst xs)/\L2.atI xs j=some (.ref b)/\H b=some (.lst ys)/\ys.length < sizeLine/\D.nx σ (upd H b (.lst (ys++[y]))):=by
 obtain ⟨pv,Z,Fs,η,N,A,f⟩:=h
 obtain ⟨η2,h4,h5⟩:=bM (show Fin K ⟨sf,pv⟩ Z H (tot Fs) D (nxO η ((gm (rd η i) (rd η k) (rd η l)).map fun w=>M.put η i w)) from f)
 cases e:gm (rd η i) (rd η k) (rd η l) with
 | none=>rw [e] at h4; cases h4
 | some r1 =>
  rw [e] at h4
  cases h4
  obtain ⟨ts,m,j,n,t,q,us,r1,r2,r3,hq,hu,hn,lf,rfl⟩:=qi e
  obtain ⟨v,rv,l1,p1⟩:=A.env i _ _ r1
  obtain ⟨z,rz,l2,_⟩:=A.env k _ _ r2
  obtain ⟨y,ry,l3,_⟩:=A.env l _ _ r3
  obtain ⟨a,xs,rfl,hxl,ga,ha,p⟩:=bj (by simp) rv
  obtain rfl:z=V.int j:=rz
  have hxn:=p.length
  obtain ⟨b,ys,e1,gb,hb,hyn,pr⟩:=RepL.inner (y:=y) lf (ry.leaf (fun _ _ _ e=>e) lf) A.gd.zal (fun c gc=>A.gd.own c ⟨i,gc.1⟩) p hu hn
  refine ⟨a,xs,j,b,ys,y,l1 ji hi,l2 jk hk,l3 jl hl,ha,?_,hb,dG (by omega),?_⟩
  ·have hq':L2.ixN xs.length j=some q:=by rw [hxn]; exact hq
   unfold L2.atI
   rw [hq']
   exact e1
  ·obtain ⟨B,s⟩:=gw (w':=(.d,.lst (ts.set q (.lst (us++[t]))))) A r1 gb.1 l1 p1 ⟨a,xs,rfl,hxl,⟨ga,by rw [ab (a1u gb.2)]; exact ha⟩,pr⟩
   exact h5 σ Z _ Fs B s
theorem mY {a b c:Option W}{r:W}(h:eE a b c=some r):∃ m0 ts m j n t,a=some (m0,.lst ts)/\m0≠.s/\b=some (m,.int j)/\c=some (n,t)/\0<=j/\j.toNat<=ts.length/\ts.length < 1000/\leaves ts=true/\t.leaf=true/\r=(m0,.lst (ts.take j.toNat++t::ts.drop j.toNat)):=by
 unfold eE at h
 split at h
 ·cases h
 ·rename_i m0 ts m j n t hs
  split at h
  ·rename_i hc
   simp only [a0k,decide_eq_true_eq] at hc
   cases h
   exact ⟨m0,ts,m,j,n,t,rfl,fun z=>hs z,rfl,rfl,hc.1.1.1.1,hc.1.1.1.2,hc.1.1.2,hc.1.2,hc.2,rfl⟩
  ·cases h
 ·cases h
end
end MR
namespace MR
open PySem PySem.Spec PyProof.Rows L2 L3
section
variable {X:Cx}{sf sg:Nat->Option Nat}{C:M.Call}{pos p p2 p3:Pos}{ea eb ec:Expr}{a b c:M.E}{h:Bool}{n:Nat}{io:List Nat}{K:a0a}
theorem C0 (ji jk jl:Nat){i k l:Nat}{x y z:Str}{apos cpos px py pz ps:Pos}(hi:sf i=some ji:=by rfl)(hk:sf k=some jk:=by rfl)(hl:sf l=some jl:=by rfl)(hN:X.N[ji]?=some x:=by rfl)(hN2:X.N[jk]?=some y:=by rfl)(hN3:X.N[jl]?=some z:=by rfl)
  (hv:Vis X.env.scope x:=by first | exact a0y rfl | exact a0s (a0y rfl) | exact a0s (a0s rfl)) (hv2:Vis X.env.scope y:=by first | exact a0y rfl | exact a0s (a0y rfl) | exact a0s (a0s rfl)) (hv3:Vis X.env.scope z:=by first | exact a0y rfl | exact a0s (a0y rfl) | exact a0s (a0s rfl))
  (hd:(x==("__debug__":Str))=false:=by decide) (hd2:(y==("__debug__":Str))=false:=by decide) (hd3:(z==("__debug__":Str))=false:=by decide) (hcd:(x==("__classdict__":Str))=false:=by decide) (hcd2:(y==("__classdict__":Str))=false:=by decide) (hcd3:(z==("__classdict__":Str))=false:=by decide)
  (hbase:attributeBase (.Subscript (.Name x px) (.Name y py) ps) "append" X.env (eval (.Subscript (.Name x px) (.Name y py) ps) X.env)=eval (.Subscript (.Name x px) (.Name y py) ps) X.env:=by rfl)
  (hfew:((backTo cpos (starEach [Expr.Name z pz] X.env)).all (fun x=>!x.1)&&(backToKw cpos (keywordEach [] X.env)).all (fun x=>x.1.isSome)&&decide ([Expr.Name z pz].length+([]:List Keyword).length+(if ([]:List Keyword).isEmpty then 0 else 1) < 30))=true:=by rfl)
  (hline:(apos.endLine==cpos.line)=true:=by rfl) (hst:starEach [Expr.Name z pz] X.env=(false,eval (.Name z pz) X.env)::starEach [] X.env:=by rfl) (hplain:(backTo cpos (starEach [] X.env)).any (·.1)=false:=by rfl)
  (hsw:swapsWith (.Call (.Attribute (.Subscript (.Name x px) (.Name y py) ps) "append" apos) [.Name z pz] [] cpos) none pos.line X.env=pure false:=by rfl) :
  SS X sf io C (.Expr (.Call (.Attribute (.Subscript (.Name x px) (.Name y py) ps) "append" apos) [.Name z pz] [] cpos) pos) (.apN i k l) :=
 ba (cf (iW a0P a1A a1B dw (lK ix_any (az hN hv hd hcd) (az hN2 hv2 hd2 hcd2) (by intro _ _; rfl)) (aG (az hN3 hv3 hd3 hcd3) bx hst) hbase hfew hline hst hplain) hsw) fun D σ H hw=>by
  obtain ⟨a,xs,j,b,ys,v,e1,e2,e3,ha,hat,hb,hln,hq⟩:=ye hi hk hl D σ H hw
  exact ⟨.ref a,e1,.int j,e2,a,xs,j,.ref b,rfl,rfl,.inl (.inl (.inl ha)),hat,.inl ⟨rfl,ys,.inl (.inl hb)⟩,v,e3,b,ys,v,rfl,rfl,hb,hln,hq⟩
end
end MR

namespace L3
open PySem PySem.Spec PyProof.Rows L2
theorem Vals.takeN:∀ {xs:List V} {us:List Value} (n:Nat),Vals xs us->Vals (xs.take n) (us.take n)
 | _,_,0,_=>by rw [a1r,a1r]; exact .nil
 | _,_,n+1,.nil=>.nil
 | _,_,n+1,.cons r t=>.cons r (Vals.takeN n t)
theorem Vals.dropN:∀ {xs:List V} {us:List Value} (n:Nat),Vals xs us->Vals (xs.drop n) (us.drop n)
 | _,_,0,h=>h
 | _,_,n+1,.nil=>.nil
 | _,_,n+1,.cons r t=>Vals.dropN n t
noncomputable def Ck:V->List V->Hp->VK->Prop:=fun x vs H Q=>∃ l xs j y,x=.ref l/\vs=[.int j,y]/\H l=some (.lst xs)/\0<=j/\j.toNat<=xs.length/\xs.length < 1000/\Q .non (upd H l (.lst (xs.take j.toNat++y::xs.drop j.toNat)))
theorem u6 {X:Cx}:MtM X "list.insert" Ck:=by
 intro pins s σ H x vs v us Q I rx rv h
 obtain ⟨l,xs,j,y,rfl,rfl,hH,hj,hjl,hz,q⟩:=h
 cases rx
 cases rv with
 | cons r0 rv =>
  obtain ⟨u,rfl,ru⟩:=dJ rv
  obtain ⟨t,rfl⟩:=r0
  obtain ⟨z,its,n,r,hl,e⟩:=I.lstM hH
  have fit:Builtin.List.listFitsIndex j=true:=by
   unfold Builtin.List.listFitsIndex
   simp
   omega
  refine call_meets a2e ⟨_,e,rfl⟩ PySem.F.entry_list_insert (PySem.F.args_list_insert_3 _ _ _) (a2t l its.toArray n j t u (by rw [fit]; decide) (by rw [a0j,<- hl]; exact z)) ⟨e,?_⟩
  refine ⟨.non,_,I.lset (its':=its.take j.toNat++u::its.drop j.toNat) hH e ?_ ((Vals.takeN _ r).append (.cons ru (Vals.dropN _ r))) ?_,rfl,q⟩
  ·apply Array.toList_inj.mp
   have k1:(if j < 0 then (j+(its.toArray.size:Int)).toNat else min j.toNat its.toArray.size)=j.toNat:=by
    rw [if_neg (by omega),a0j,<- hl]; omega
   show (((its.toArray.extract 0 (if j < 0 then (j+(its.toArray.size:Int)).toNat else min j.toNat its.toArray.size)).push u++its.toArray.extract (if j < 0 then (j+(its.toArray.size:Int)).toNat else min j.toNat its.toArray.size))).toList=_
   rw [k1]
   simp
   exact a0Z (by rw [a0X]; exact a0h _)
  ·rw [a0g,a0f,a0W,a0X]
   have:(1000:Nat)<=sizeLine:=by decide
   omega
end L3
namespace MR
open L2 L3 M
open PySem (Addr Str sizeLine)
section
variable {K:a0a}{sl:Cf}{sf sg:Nat->Option Nat}{C:Call}{σ σ2:L2.St}{Z Z' Z1:Fp}{H H' H1:Hp}{Fs Fs' Fs1:Fps}{η η' η1 ηb:Env}{G G' G1 R F F':Fp}{tg is vs ls io:List Nat}{pv val:Nat->Option V}{D:aT}
theorem rD {i k l ji jk jl:Nat}(hi:sf i=some ji)(hk:sf k=some jk)(hl:sf l=some jl)(D:aT)(σ:L2.St)(H:Hp)(h:wS K sf io C (.insN i k l) D σ H) :
  ∃ a xs j y,σ[ji]?=some (some (.ref a))/\σ[jk]?=some (some (.int j))/\σ[jl]?=some (some y)/\H a=some (.lst xs)/\0<=j/\j.toNat<=xs.length/\xs.length < 1000/\D.nx σ (upd H a (.lst (xs.take j.toNat++y::xs.drop j.toNat))):=by
 obtain ⟨pv,Z,Fs,η,N,A,f⟩:=h
 obtain ⟨η2,h4,h5⟩:=bM (show Fin K ⟨sf,pv⟩ Z H (tot Fs) D (nxO η ((eE (rd η i) (rd η k) (rd η l)).map fun w=>M.put η i w)) from f)
 cases e:eE (rd η i) (rd η k) (rd η l) with
 | none=>rw [e] at h4; cases h4
 | some r1 =>
  rw [e] at h4
  cases h4
  obtain ⟨m0,ts,m,j,n,t,r1,hm,r2,r3,j0,j1,j2,lv,lf,rfl⟩:=mY e
  obtain ⟨z,rz,l2,_⟩:=A.env k _ _ r2
  obtain ⟨y,ry,l3,_⟩:=A.env l _ _ r3
  obtain rfl:z=V.int j:=rz
  obtain ⟨a,xs0,hj,ha⟩:=A.listAt hi r1
  obtain ⟨xs,hxl,hf,hx,p,hpv⟩:=A.ourList hi hm hj r1
  have e3:=p.length
  have lt:∀ t∈ts,t.leaf=true:=fun t ht=>a0A.mp lv t ht
  refine ⟨a,xs,j,y,hj,l2 jk hk,l3 jl hl,hx,j0,by rw [e3]; exact j1,by rw [e3]; exact j2,?_⟩
  have pl:RepL K (fun b=>Z b\/((Fs i b\/no b)/\b≠a/\¬ no b)) H m0.kid (ts.take j.toNat++t::ts.drop j.toNat) (xs.take j.toNat++y::xs.drop j.toNat) no:=by
   have q0:RepL K Z H .s ts xs no:=RepL.leaves (fun _ _ _ e=>e) lv p
   refine RepL.leaves (Z:=Z) (m:=.s) (G:=no) (fun _ _ _ e=>e) (a0A.mpr fun u hu=>?_) (RepL.append (G1:=no) (G2:=no) (fun _ z=>z) (fun _ z=>z) (fun _ z=>z.elim) (RepL.take _ q0) ⟨y,_,no,no,rfl,fun _ z=>z,fun _ z=>z,fun _ z=>z.elim,ry.leaf (fun _ _ _ e=>e) lf,RepL.drop _ q0⟩)
   rcases a0T.mp hu with z | z
   ·exact lt u (a1S z)
   ·rcases a0q.mp z with z | z
    ·rw [z]; exact lf
    ·exact lt u (a1q z)
  exact change (K:=K) (m':=m0) (G':=no) hm A r1 hf (fun k hk=>by rw [show sf i=some k from hk] at hi; cases hi; exact hj) (by
   rw [a0g,a0f,a0W,a0X,e3]
   show _<=16777215
   omega) hpv (fun _ z=>z.elim) (ts':=ts.take j.toNat++t::ts.drop j.toNat) pl fun Z2 Fs2 B2 s2=>h5 σ Z2 _ Fs2 B2 (s2.mono (fun _ z=>z.elim id fun q=>q.elim) fun _ z=>z)
end
end MR
namespace MR
open PySem PySem.Spec PyProof.Rows L2 L3
section
variable {X:Cx}{sf sg:Nat->Option Nat}{C:M.Call}{pos p p2 p3:Pos}{ea eb ec:Expr}{a b c:M.E}{h:Bool}{n:Nat}{io:List Nat}{K:a0a}
theorem Aw (ji jk jl:Nat){i k l:Nat}{x y z:Str}{apos cpos px py pz:Pos}(hi:sf i=some ji:=by rfl)(hk:sf k=some jk:=by rfl)(hl:sf l=some jl:=by rfl)(hN:X.N[ji]?=some x:=by rfl)(hN2:X.N[jk]?=some y:=by rfl)(hN3:X.N[jl]?=some z:=by rfl)
  (hv:Vis X.env.scope x:=by first | exact a0y rfl | exact a0s (a0y rfl) | exact a0s (a0s rfl)) (hv2:Vis X.env.scope y:=by first | exact a0y rfl | exact a0s (a0y rfl) | exact a0s (a0s rfl)) (hv3:Vis X.env.scope z:=by first | exact a0y rfl | exact a0s (a0y rfl) | exact a0s (a0s rfl))
  (hd:(x==("__debug__":Str))=false:=by decide) (hd2:(y==("__debug__":Str))=false:=by decide) (hd3:(z==("__debug__":Str))=false:=by decide) (hcd:(x==("__classdict__":Str))=false:=by decide) (hcd2:(y==("__classdict__":Str))=false:=by decide) (hcd3:(z==("__classdict__":Str))=false:=by decide)
  (hbase:attributeBase (.Name x px) "insert" X.env (eval (.Name x px) X.env)=eval (.Name x px) X.env:=by rfl)
  (hfew:((backTo cpos (starEach [Expr.Name y py,.Name z pz] X.env)).all (fun x=>!x.1)&&(backToKw cpos (keywordEach [] X.env)).all (fun x=>x.1.isSome)&&decide ([Expr.Name y py,.Name z pz].length+([]:List Keyword).length+(if ([]:List Keyword).isEmpty then 0 else 1) < 30))=true:=by rfl)
  (hline:(apos.endLine==cpos.line)=true:=by rfl) (hst:starEach [Expr.Name y py,.Name z pz] X.env=(false,eval (.Name y py) X.env)::starEach [.Name z pz] X.env:=by rfl) (hst2:starEach [Expr.Name z pz] X.env=(false,eval (.Name z pz) X.env)::starEach [] X.env:=by rfl) (hplain:(backTo cpos (starEach [Expr.Name z pz] X.env)).any (·.1)=false:=by rfl)
  (hsw:swapsWith (.Call (.Attribute (.Name x px) "insert" apos) [.Name y py,.Name z pz] [] cpos) none pos.line X.env=pure false:=by rfl) :
  SS X sf io C (.Expr (.Call (.Attribute (.Name x px) "insert" apos) [.Name y py,.Name z pz] [] cpos) pos) (.insN i k l) :=
 ba (cf (iW a0P a2e PySem.F.type_list_insert u6 (az hN hv hd hcd) (aG (az hN2 hv2 hd2 hcd2) (aG (az hN3 hv3 hd3 hcd3) bx hst2) hst) hbase hfew hline hst hplain) hsw) fun D σ H hw=>by
  obtain ⟨a,xs,j,v,e1,e2,e3,ha,j0,j1,j2,hq⟩:=rD hi hk hl D σ H hw
  exact ⟨.ref a,e1,.inl ⟨rfl,xs,.inl (.inl ha)⟩,.int j,e2,v,e3,a,xs,j,v,rfl,rfl,ha,j0,j1,j2,hq⟩
end
end MR

namespace MR
open L2 L3 M
open PySem (Addr Str sizeLine)
section
variable {K:a0a}{sl:Cf}{sf sg:Nat->Option Nat}{C:Call}{σ σ2:L2.St}{Z Z' Z1:Fp}{H H' H1:Hp}{Fs Fs' Fs1:Fps}{η η' η1 ηb:Env}{G G' G1 R F F':Fp}{tg is vs ls io:List Nat}{pv val:Nat->Option V}{D:aT}
theorem RepL.innerG:∀ {ts:List T} {xs:List V} {G:Fp} {q:Nat} {us:List T},Own Z H G->RepL K Z H .d ts xs G->ts[q]?=some (.lst us) ->
  ∃ b ys G0,xs[q]?=some (.ref b)/\G b/\H b=some (.lst ys)/\ys.length<=LIM/\(∀ c,G0 c->G c/\c≠b)/\RepL K Z H .d us ys G0/\∀ us' ys',ys'.length<=LIM->RepL K Z H .d us' ys' G0->RepL K Z (upd H b (.lst ys')) .d (ts.set q (.lst us')) xs G
 | [],_,_,_,_,_,_,e=>by simp at e
 | u::ts,xs,G,q,us,ow,⟨x,r,G1,G2,ex,h1,h2,hd,p,pq⟩,e=>by
  have stay:∀ {b:Addr} {ys zs:List V},G b->H b=some (.lst ys)->Stay Z H (upd H b (.lst zs)):=fun {b ys zs} gb hb=>by
   have ne:∀ a o,H a=some o->(∀ ys,o≠.lst ys)->upd H b (.lst zs) a=some o:=fun a o e no=>by
    rw [ab (show a≠b from fun z=>by rw [z,hb] at e; cases e; exact no _ rfl)]; exact e
   refine ⟨fun a o za e=>?_,fun a xs e=>?_,fun a o u e=>ne a _ e (by intro ys z; cases z)⟩
   ·rw [ab (show a≠b from fun z=>(ow b gb).1 (z ▸ za))]; exact e
   ·rcases e with e | ⟨o,e⟩
    ·exact .inl (ne a _ e (by intro ys z; cases z))
    ·exact .inr ⟨o,ne a _ e (by intro ys z; cases z)⟩
  have keep:∀ {b:Addr} {zs:List V} {G':Fp},¬ G' b->∀ a o,G' a->H a=some o->upd H b (.lst zs) a=some o:=fun {b zs G'} nb a o ga e=>by
   rw [ab (show a≠b from fun z=>nb (z ▸ ga))]; exact e
  subst ex
  cases q with
  | zero =>
   rw [a08] at e
   cases e
   obtain ⟨b,ys,rfl,hyl,gb,hb,pr⟩:=bj (by simp) p
   refine ⟨b,ys,fun c=>G1 c/\c≠b,rfl,h1 b gb,hb,hyl,fun c hc=>⟨h1 c hc.1,hc.2⟩,pr,fun us' ys' hl' pr'=>?_⟩
   have st:=stay (zs:=ys') (h1 b gb) hb
   exact ⟨.ref b,r,G1,G2,rfl,h1,h2,hd,⟨b,ys',rfl,hl',⟨gb,ag⟩,pr'.keep st (fun _ z=>z) (keep fun z=>z.2 rfl)⟩,pq.keep st (fun _ z=>z) (keep (hd b gb))⟩
  | succ q =>
   rw [a0C] at e
   obtain ⟨b,ys,G0,e1,gb,hb,hyl,g0,pr,k⟩:=RepL.innerG (fun a ga=>ow a (h2 a ga)) pq e
   refine ⟨b,ys,G0,e1,h2 b gb,hb,hyl,fun c hc=>⟨h2 c (g0 c hc).1,(g0 c hc).2⟩,pr,fun us' ys' hl' pr'=>?_⟩
   exact ⟨x,r,G1,G2,rfl,h1,h2,hd,p.keep (stay (h2 b gb) hb) (fun _ z=>z) (keep fun z=>hd b z gb),k us' ys' hl' pr'⟩
theorem At.more (hm:∀ a o,H a=some o->H1 a=some o)(A:At K sl σ Z H Fs η no):At K sl σ Z H1 Fs η no/\Step Z H (tot Fs) Z H1 (tot Fs):=by
 have al:∀ a,H a≠none->H1 a≠none:=fun a h=>by
  cases e:H a with
  | none=>exact absurd e h
  | some o=>rw [hm a o e]; simp
 have stay:Stay Z H H1:=⟨fun a o _ e=>hm a o e,fun a xs e=>e.imp (hm a _) fun ⟨o,e⟩=>⟨o,hm a _ e⟩,fun a o u e=>hm a _ e⟩
 refine ⟨⟨⟨fun a ta=>?_,A.gd.dis,fun a za=>al a (A.gd.zal a za)⟩,fun l m t e=>?_,fun a z=>z.elim,fun a z=>z.elim,A.lk,A.ln⟩,⟨fun a o e _=>hm a o e,fun _ z=>z,fun _ z=>.inl z,fun _ z=>.inl z,al,fun z a h=>al a (z a h)⟩⟩
 ·obtain ⟨nz,zs,hz⟩:=A.gd.own a ta
  exact ⟨nz,zs,hm a _ hz⟩
 ·obtain ⟨u,r,h⟩:=A.env l m t e
  exact ⟨u,r.keep stay (fun _ z=>z) fun a o _ e=>hm a o e,h⟩
theorem At.blank {j jj:Nat}{x:V}(N:mZ sf io pv)(hj:j ∉ io)(hs:sf j=some jj)(A:At K ⟨sf,pv⟩ σ Z H Fs η no):At K ⟨sf,pv⟩ (σ.set jj (some x)) Z H Fs (M.del η j) no:=by
 have far:∀ l k,l≠j->sf l=some k->jj≠k:=fun l k hl hk z=>hl (N.inj l j k hk (by rw [<- z]; exact hs))
 refine ⟨A.gd,fun l m t e=>?_,fun a z=>z.elim,fun a z=>z.elim,fun l u k hu hk=>?_,fun l k hk=>by rw [a0D]; exact A.ln l k hk⟩
 ·rw [aH] at e
  split at e
  ·cases e
  ·rename_i hne
   have hl:l≠j:=fun z=>hne ⟨z,by rw [<- z]; exact bH e⟩
   obtain ⟨v,r,h1,h2⟩:=A.env l m t e
   exact ⟨v,r,fun k hk=>by rw [a0S (far l k hl hk)]; exact h1 k hk,h2⟩
 ·have hl:l≠j:=fun z=>by
   have hu':pv l=some u:=hu
   rw [z,N.io j hj] at hu'; cases hu'
  rw [a0S (far l k hl hk)]
  exact A.lk l u k hu hk
theorem qy {a b:Option W}{cs:List T}{r:W}(h:jN cs a b=some r):∃ ts m j q us,a=some (.d,.lst ts)/\b=some (m,.int j)/\M.ixN ts.length j=some q/\ts[q]?=some (.lst us)/\us.length < LIM/\leaves cs=true/\cs.length<=100/\r=(.d,.lst (ts.set q (.lst (us++[.tup cs])))):=by
 unfold jN at h
 split at h
 ·rename_i ts m j
  cases e:M.ixN ts.length j with
  | none=>rw [e] at h; cases h
  | some q =>
   rw [e] at h
   have h':u0 ts q cs ts[q]?=some r:=h
   cases e2:ts[q]? with
   | none=>rw [e2] at h'; cases h'
   | some u =>
    rw [e2] at h'
    cases u with
    | lst us =>
     have h2:(if (decide (us.length < LIM)&&leaves cs&&decide (cs.length<=100))=true then some ((.d,.lst (ts.set q (.lst (us++[.tup cs])))):W) else none)=some r:=h'
     split at h2
     ·rename_i hc
      simp only [a0k,decide_eq_true_eq] at hc
      cases h2
      exact ⟨ts,m,j,q,us,rfl,rfl,e,e2,hc.1.1,hc.1.2,hc.2,rfl⟩
     ·cases h2
    | _=>cases h'
 ·cases h
theorem mf {a b:Option W}{r:W}(h:ek a b=some r):∃ ts m j q us,a=some (.d,.lst ts)/\b=some (m,.int j)/\M.ixN ts.length j=some q/\ts[q]?=some (.lst us)/\us≠[]/\r=(.d,.lst (ts.set q (.lst us.dropLast))):=by
 unfold ek at h
 split at h
 ·rename_i ts m j
  cases e:M.ixN ts.length j with
  | none=>rw [e] at h; cases h
  | some q =>
   rw [e] at h
   have h':kE ts q ts[q]?=some r:=h
   cases e2:ts[q]? with
   | none=>rw [e2] at h'; cases h'
   | some u =>
    rw [e2] at h'
    cases u with
    | lst us =>
     have h2:(if us.isEmpty=true then none else some ((.d,.lst (ts.set q (.lst us.dropLast))):W))=some r:=h'
     split at h2
     ·cases h2
     ·rename_i hc
      cases h2
      exact ⟨ts,m,j,q,us,rfl,rfl,e,e2,fun z=>hc (by rw [z]; rfl),rfl⟩
    | _=>cases h'
 ·cases h
theorem At.inner {i k ji jk:Nat}{ts us:List T}{m:Md}{j:Int}{q:Nat}(hi:sf i=some ji)(hk:sf k=some jk)(A:At K ⟨sf,pv⟩ σ Z H Fs η no)(r1:rd η i=some (.d,.lst ts))(r2:rd η k=some (m,.int j))(hq:M.ixN ts.length j=some q)(hu:ts[q]?=some (.lst us)) :
  ∃ a xs b ys G0,σ[ji]?=some (some (.ref a))/\σ[jk]?=some (some (.int j))/\H a=some (.lst xs)/\L2.atI xs j=some (.ref b)/\H b=some (.lst ys)/\ys.length=us.length/\ys.length<=LIM/\RepL K Z H .d us ys G0 /\
   ∀ us' ys',ys'.length<=LIM->RepL K Z H .d us' ys' G0->At K ⟨sf,pv⟩ σ Z (upd H b (.lst ys')) Fs (M.put η i (.d,.lst (ts.set q (.lst us')))) no/\Step Z H (tot Fs) Z (upd H b (.lst ys')) (tot Fs):=by
 obtain ⟨v,rv,l1,p1⟩:=A.env i _ _ r1
 obtain ⟨z,rz,l2,_⟩:=A.env k _ _ r2
 obtain ⟨a,xs,rfl,hxl,ga,ha,p⟩:=bj (by simp) rv
 obtain rfl:z=V.int j:=rz
 obtain ⟨b,ys,G0,e1,gb,hb,hyl,g0,pr,kk⟩:=RepL.innerG (fun c gc=>A.gd.own c ⟨i,gc.1⟩) p hu
 refine ⟨a,xs,b,ys,G0,l1 ji hi,l2 jk hk,ha,?_,hb,pr.length,hyl,pr,fun us' ys' hl' pr'=>?_⟩
 ·have hq':L2.ixN xs.length j=some q:=by rw [p.length]; exact hq
  unfold L2.atI
  rw [hq']
  exact e1
 ·exact gw (w':=(.d,.lst (ts.set q (.lst us')))) A r1 gb.1 l1 p1 ⟨a,xs,rfl,hxl,⟨ga,by rw [ab (a1u gb.2)]; exact ha⟩,kk us' ys' hl' pr'⟩
theorem uo {i k ji jk:Nat}(hi:sf i=some ji)(hk:sf k=some jk)(D:aT)(σ:L2.St)(H:Hp)(h:wS K sf io C (.popI i k) D σ H) :
  ∃ a xs j b ys y,σ[ji]?=some (some (.ref a))/\σ[jk]?=some (some (.int j))/\H a=some (.lst xs)/\L2.atI xs j=some (.ref b)/\H b=some (.lst ys)/\ys[ys.length-1]?=some y/\D.nx σ (upd H b (.lst ys.dropLast)):=by
 obtain ⟨pv,Z,Fs,η,N,A,f⟩:=h
 obtain ⟨η2,h4,h5⟩:=bM (show Fin K ⟨sf,pv⟩ Z H (tot Fs) D (nxO η ((ek (rd η i) (rd η k)).map fun w=>M.put η i w)) from f)
 cases e:ek (rd η i) (rd η k) with
 | none=>rw [e] at h4; cases h4
 | some r1 =>
  rw [e] at h4
  cases h4
  obtain ⟨ts,m,j,q,us,r1,r2,hq,hu,hne,rfl⟩:=mf e
  obtain ⟨a,xs,b,ys,G0,e1,e2,ha,hat,hb,hyn,hyl,pr,kk⟩:=A.inner hi hk r1 r2 hq hu
  have hpos:0 < ys.length:=by rw [hyn]; exact a1Y.mpr hne
  obtain ⟨B,s⟩:=kk us.dropLast ys.dropLast (by rw [a2J]; omega) (by
   rw [a2D,a2D,hyn]
   exact RepL.take _ pr)
  exact ⟨a,xs,j,b,ys,ys[ys.length-1],e1,e2,ha,hat,hb,a0i _,h5 σ Z _ Fs B s⟩
theorem fJ {m:Md}:∀ (ns:List Int),RepL K Z H m (ns.map T.int) (ns.map V.int) no
 | []=>rfl
 | n::ns=>⟨.int n,ns.map V.int,no,no,rfl,fun _ z=>z,fun _ z=>z,fun _ z=>z.elim,rfl,fJ ns⟩
theorem yO {i k ji jk:Nat}{ns:List Int}(hi:sf i=some ji)(hk:sf k=some jk)(D:aT)(σ:L2.St)(H:Hp)(h:wS K sf io C (.apC i k (ns.map T.int)) D σ H) :
  ∃ a xs j b,σ[ji]?=some (some (.ref a))/\σ[jk]?=some (some (.int j))/\H a=some (.lst xs)/\L2.atI xs j=some (.ref b)/\(∃ ys,H b=some (.lst ys))/\(ns.map V.int).length<=sizeLine /\
   ∀ p,H p=none->∃ ys,upd H p (.tup (ns.map V.int)) b=some (.lst ys)/\ys.length < sizeLine/\D.nx σ (upd (upd H p (.tup (ns.map V.int))) b (.lst (ys++[.ref p]))):=by
 obtain ⟨pv,Z,Fs,η,N,A,f⟩:=h
 obtain ⟨η2,h4,h5⟩:=bM (show Fin K ⟨sf,pv⟩ Z H (tot Fs) D (nxO η ((jN (ns.map T.int) (rd η i) (rd η k)).map fun w=>M.put η i w)) from f)
 cases e:jN (ns.map T.int) (rd η i) (rd η k) with
 | none=>rw [e] at h4; cases h4
 | some r1 =>
  rw [e] at h4
  cases h4
  obtain ⟨ts,m,j,q,us,r1,r2,hq,hu,hn,lv,hcl,rfl⟩:=qy e
  obtain ⟨a,xs,b,ys,G0,e1,e2,ha,hat,hb,hyn,hyl,pr,kk⟩:=A.inner hi hk r1 r2 hq hu
  rw [a0e] at hcl
  refine ⟨a,xs,j,b,e1,e2,ha,hat,⟨ys,hb⟩,by rw [a0e]; exact a0u hcl (by decide),fun p hp=>?_⟩
  have hm:∀ c o,H c=some o->upd H p (.tup (ns.map V.int)) c=some o:=fun c o e=>by
   rw [ab (show c≠p from fun z=>by rw [z,hp] at e; cases e)]; exact e
  obtain ⟨B,s⟩:=A.more hm
  obtain ⟨a',xs',b',ys',G0',e1',e2',ha',hat',hb',hyn',hyl',pr',kk'⟩:=B.inner hi hk r1 r2 hq hu
  have ea:a'=a:=by rw [e1] at e1'; cases e1'; rfl
  subst ea
  have ex:xs'=xs:=by rw [hm _ _ ha] at ha'; cases ha'; rfl
  subst ex
  have eb:b'=b:=by rw [hat] at hat'; cases hat'; rfl
  subst eb
  obtain ⟨B2,s2⟩:=kk' (us++[.tup (ns.map T.int)]) (ys'++[.ref p]) (by rw [a0g,a0r,hyn']; exact hn)
   (RepL.append (G1:=G0') (G2:=no) (fun _ z=>z) (fun _ z=>z.elim) (fun _ _ z=>z) pr' (RepL.one (show Rep K Z (upd H p (.tup (ns.map V.int))) .d (.tup (ns.map T.int)) (.ref p) no from ⟨p,ns.map V.int,rfl,.inl (.inl ag),by rw [a0e]; show _<=16777215; omega,fJ ns⟩)))
  refine ⟨ys',hb',dG (by omega),h5 σ Z _ Fs B2 (s.trans s2)⟩
theorem pX {a:Option W}{r:W}(h:kb a=some r):∃ ts,a=some (.d,.lst ts)/\ts.all isL=true/\r=(.d,.lst (ts.map fun _=>.lst [])):=by
 unfold kb at h
 split at h
 ·rename_i ts
  split at h
  ·rename_i hc
   cases h
   exact ⟨ts,rfl,hc,rfl⟩
  ·cases h
 ·cases h
theorem ni:∀ (η:Env) (i:Nat) (a b:Option W),wr (wr η i a) i b=wr η i b
 | [],_,_,_=>rfl
 | o::η,0,_,_=>rfl
 | o::η,i+1,a,b=>by show o::wr (wr η i a) i b=o::wr η i b; rw [ni η i a b]
theorem qw:∀ (η:Env) (i:Nat) (a:Option W),(wr η i a).length=η.length
 | [],_,_=>rfl
 | o::η,0,_=>rfl
 | o::η,i+1,a=>by show (wr η i a).length+1=η.length+1; rw [qw η i a]
theorem kJ:∀ (η:Env) (i j:Nat) (a b:Option W),i≠j->wr (wr η i a) j b=wr (wr η j b) i a
 | [],_,_,_,_,_=>rfl
 | o::η,0,0,_,_,h=>absurd rfl h
 | o::η,0,j+1,_,_,_=>rfl
 | o::η,i+1,0,_,_,_=>rfl
 | o::η,i+1,j+1,a,b,h=>by show o::wr (wr η i a) j b=o::wr (wr η j b) i a; rw [kJ η i j a b (fun z=>h (by rw [z]))]
noncomputable def clr (n:Nat)(ts:List T):List T:=(ts.take n).map (fun _=>.lst [])++ts.drop n
theorem wZ {ts:List T}{n:Nat}(h:n < ts.length):(clr n ts)[n]?=ts[n]?/\(clr n ts).set n (.lst [])=clr (n+1) ts:=by
 have hl:((ts.take n).map fun _=>T.lst []).length=n:=by rw [a0e,a0W]; omega
 constructor
 ·unfold clr
  rw [a0G (by omega),hl,a12,a10,a3L]
 ·unfold clr
  rw [List.set_append_right _ _ (by omega),hl,a12,a17 h,a1D,List.take_succ_eq_append_getElem h,a0R,a0J]
  rfl
theorem uy {i j ji jj:Nat}(hij:i≠j)(hjo:j ∉ io)(hi:sf i=some ji)(hj:sf j=some jj)(D:aT)(σ:L2.St)(H:Hp)(h:wS K sf io C (.clrA i j) D σ H) :
  tU (fZ K (eJ ji)) (bZ jj) (nY (Aj K "list" pw (eJ jj))) D σ H:=by
 obtain ⟨pv,Z,Fs,η,N,A,f⟩:=h
 obtain ⟨η2,h4,h5⟩:=bM (show Fin K ⟨sf,pv⟩ Z H (tot Fs) D (nxO η ((kb (rd η i)).map fun w=>M.put (M.del η j) i w)) from f)
 cases e:kb (rd η i) with
 | none=>rw [e] at h4; cases h4
 | some r1 =>
  rw [e] at h4
  cases h4
  obtain ⟨ts,r1,hL,rfl⟩:=pX e
  obtain ⟨v,rv,l1,p1⟩:=A.env i _ _ r1
  obtain ⟨a,xs,rfl,hxl,ga,ha,p⟩:=bj (by simp) rv
  have hxn:=p.length
  have hja:∀ {x:V},(σ.set jj (some x))[ji]?=σ[ji]?:=fun {x}=>a0S fun z=>hij (N.inj i j ji hi (by rw [<- z]; exact hj))
  refine ⟨.ref a,l1 ji hi,a,rfl,⟨xs,.inl (.inl ha)⟩,nU (xs:=xs) (fun n σ' H'=>(n=0/\σ'=σ/\H'=H)\/(0 < n/\σ'[ji]?=some (some (.ref a))/\H' a=some (.lst xs)/\At K ⟨sf,pv⟩ σ' Z H' Fs (M.put (M.del η j) i (.d,.lst (clr n ts))) no/\Step Z H (tot Fs) Z H' (tot Fs))) (.inl ⟨rfl,rfl,rfl⟩) (fun n σ' H' _ q=>?_) (fun n x σ' H' hx q=>?_) (fun σ' H' q=>?_)⟩
  ·rcases q with ⟨_,_,rfl⟩ | ⟨_,_,ha',_⟩
   ·exact .inl (.inl ha)
   ·exact .inl (.inl ha')
  ·have hn:n < ts.length:=by rw [<- hxn]; exact (a0z.mp hx).1
   -- as it stands ahead of this turn
   have q':∃ η3,rd η3 i=some (.d,.lst (clr n ts))/\σ'[ji]?=some (some (.ref a))/\H' a=some (.lst xs)/\At K ⟨sf,pv⟩ σ' Z H' Fs η3 no/\Step Z H (tot Fs) Z H' (tot Fs)/\M.put (M.del η3 j) i (.d,.lst (clr (n+1) ts))=M.put (M.del η j) i (.d,.lst (clr (n+1) ts)):=by
    rcases q with ⟨rfl,rfl,rfl⟩ | ⟨hn0,hs',ha',A',s'⟩
    ·exact ⟨η,by rw [r1]; rfl,l1 ji hi,ha,A,Step.refl _ _ _,rfl⟩
    ·refine ⟨_,?_,hs',ha',A',s',?_⟩
     ·show rd (wr (wr η j none) i (some (.d,.lst (clr n ts)))) i=_
      rw [aH,if_pos ⟨rfl,by rw [qw]; exact bH r1⟩]
     ·show wr (wr (wr (wr η j none) i (some (.d,.lst (clr n ts)))) j none) i _=wr (wr η j none) i _
      rw [kJ _ i j _ _ hij,ni,ni]
   obtain ⟨η3,r3,hs',ha',A',s',e3⟩:=q'
   obtain ⟨us,hus⟩:∃ us,ts[n]?=some (.lst us):=by
    have hm:ts[n]∈ts:=a1Q hn
    have:=a0A.mp hL _ hm
    rw [a0i hn]
    cases hu:ts[n] with
    | lst us=>exact ⟨us,rfl⟩
    | _=>rw [hu] at this; cases this
   obtain ⟨c1,c2⟩:=wZ hn
   have B:=A'.blank (x:=x) N hjo hj
   have r4:rd (M.del η3 j) i=some (.d,.lst (clr n ts)):=by
    show rd (wr η3 j none) i=_
    rw [aH,if_neg (fun z=>hij z.1)]
    exact r3
   obtain ⟨v4,rv4,l4,p4⟩:=B.env i _ _ r4
   have hjl:jj < σ'.length:=A'.ln j jj hj
   have hv4:v4=.ref a:=by
    have:=l4 ji hi
    rw [a0S (fun z=>hij (N.inj i j ji hi (by rw [<- z]; exact hj))),hs'] at this
    cases this
    rfl
   subst hv4
   obtain ⟨a4,xs4,ea,hxl4,ga4,ha4,pp4⟩:=bj (by simp) rv4
   cases ea
   have ex:xs4=xs:=by rw [ha'] at ha4; cases ha4; rfl
   subst ex
   obtain ⟨b,ys,G0,e1,gb,hb,hyl,g0,pr,kk⟩:=RepL.innerG (fun c gc=>B.gd.own c ⟨i,gc.1⟩) pp4 (c1.trans hus)
   have exb:x=.ref b:=by rw [hx] at e1; cases e1; rfl
   subst exb
   obtain ⟨B2,s2⟩:=gw (w':=(.d,.lst ((clr n ts).set n (.lst [])))) B r4 gb.1 l4 p4 ⟨a,xs4,rfl,hxl4,⟨ga4,by rw [ab (a1u gb.2)]; exact ha4⟩,kk [] [] (a0F _) rfl⟩
   rw [c2,e3] at B2
   exact ⟨.ref b,by rw [a1b hjl],.inl ⟨rfl,ys,.inl (.inl hb)⟩,b,ys,rfl,rfl,hb,.inr ⟨Nat.succ_pos _,l4 ji hi,by rw [ab (a1u gb.2)]; exact ha4,B2,s'.trans s2⟩⟩
  ·rcases q with ⟨h0,rfl,rfl⟩ | ⟨_,_,_,A',s'⟩
   ·have hz:ts=[]:=a1R (by omega)
    subst hz
    refine h5 σ' Z H' Fs ⟨A.gd,fun l m t e=>?_,fun a z=>z.elim,fun a z=>z.elim,A.lk,A.ln⟩ (Step.refl _ _ _)
    have e':rd (wr (wr η j none) i (some (.d,.lst []))) l=some (m,t):=e
    rw [aH] at e'
    split at e'
    ·rename_i hc
     cases e'
     exact A.env l _ _ (by rw [hc.1]; exact r1)
    ·rw [aH] at e'
     split at e'
     ·cases e'
     ·exact A.env l m t e'
   ·rw [hxn] at A'
    have hc:clr ts.length ts=ts.map fun _=>.lst []:=by
     unfold clr
     rw [a3f,a1t,a0w]
    rw [hc] at A'
    exact h5 σ' Z H' Fs A' s'
end
end MR
namespace MR
open PySem PySem.Spec PyProof.Rows L2 L3
section
variable {X:Cx}{sf sg:Nat->Option Nat}{C:M.Call}{pos p p2 p3:Pos}{ea eb ec:Expr}{a b c:M.E}{h:Bool}{n:Nat}{io:List Nat}{K:a0a}
theorem A7 (ji jk:Nat){i k:Nat}{x y:Str}{apos cpos px py ps:Pos}(hi:sf i=some ji:=by rfl)(hk:sf k=some jk:=by rfl)(hN:X.N[ji]?=some x:=by rfl)(hN2:X.N[jk]?=some y:=by rfl)
  (hv:Vis X.env.scope x:=by first | exact a0y rfl | exact a0s (a0y rfl) | exact a0s (a0s rfl)) (hv2:Vis X.env.scope y:=by first | exact a0y rfl | exact a0s (a0y rfl) | exact a0s (a0s rfl))
  (hd:(x==("__debug__":Str))=false:=by decide) (hd2:(y==("__debug__":Str))=false:=by decide) (hcd:(x==("__classdict__":Str))=false:=by decide) (hcd2:(y==("__classdict__":Str))=false:=by decide)
  (hbase:attributeBase (.Subscript (.Name x px) (.Name y py) ps) "pop" X.env (eval (.Subscript (.Name x px) (.Name y py) ps) X.env)=eval (.Subscript (.Name x px) (.Name y py) ps) X.env:=by rfl) (hline:(apos.endLine==cpos.line)=true:=by rfl)
  (hsw:swapsWith (.Call (.Attribute (.Subscript (.Name x px) (.Name y py) ps) "pop" apos) [] [] cpos) none pos.line X.env=pure false:=by rfl) :
  SS X sf io C (.Expr (.Call (.Attribute (.Subscript (.Name x px) (.Name y py) ps) "pop" apos) [] [] cpos) pos) (.popI i k) :=
 ba (cf (jZ a0P a1N a1O n0 (lK ix_any (az hN hv hd hcd) (az hN2 hv2 hd2 hcd2) (by intro _ _; rfl)) hbase hline) hsw) fun D σ H hw=>by
  obtain ⟨a,xs,j,b,ys,v,e1,e2,ha,hat,hb,hy,hq⟩:=uo hi hk D σ H hw
  exact ⟨.ref a,e1,.int j,e2,a,xs,j,.ref b,rfl,rfl,.inl (.inl (.inl ha)),hat,.inl ⟨rfl,ys,.inl (.inl hb)⟩,b,ys,v,rfl,rfl,hb,hy,hq⟩
theorem Dr (ji jk:Nat){i k:Nat}{n1 n2:Int}{x y:Str}{apos cpos px py ps p1 p2 pt:Pos}{k1 k2 kt:Nat}(hi:sf i=some ji:=by rfl)(hk:sf k=some jk:=by rfl)(hN:X.N[ji]?=some x:=by rfl)(hN2:X.N[jk]?=some y:=by rfl)
  (hv:Vis X.env.scope x:=by first | exact a0y rfl | exact a0s (a0y rfl) | exact a0s (a0s rfl)) (hv2:Vis X.env.scope y:=by first | exact a0y rfl | exact a0s (a0y rfl) | exact a0s (a0s rfl))
  (hd:(x==("__debug__":Str))=false:=by decide) (hd2:(y==("__debug__":Str))=false:=by decide) (hcd:(x==("__classdict__":Str))=false:=by decide) (hcd2:(y==("__classdict__":Str))=false:=by decide)
  (hbase:attributeBase (.Subscript (.Name x px) (.Name y py) ps) "append" X.env (eval (.Subscript (.Name x px) (.Name y py) ps) X.env)=eval (.Subscript (.Name x px) (.Name y py) ps) X.env:=by rfl)
  (hfew:((backTo cpos (starEach [Expr.Tuple [.Constant (.int n1) k1 p1,.Constant (.int n2) k2 p2] kt pt] X.env)).all (fun x=>!x.1)&&(backToKw cpos (keywordEach [] X.env)).all (fun x=>x.1.isSome)&&decide ([Expr.Tuple [.Constant (.int n1) k1 p1,.Constant (.int n2) k2 p2] kt pt].length+([]:List Keyword).length+(if ([]:List Keyword).isEmpty then 0 else 1) < 30))=true:=by rfl)
  (hline:(apos.endLine==cpos.line)=true:=by rfl) (hst:starEach [Expr.Tuple [.Constant (.int n1) k1 p1,.Constant (.int n2) k2 p2] kt pt] X.env=(false,eval (.Tuple [.Constant (.int n1) k1 p1,.Constant (.int n2) k2 p2] kt pt) X.env)::starEach [] X.env:=by rfl) (hplain:(backTo cpos (starEach [] X.env)).any (·.1)=false:=by rfl)
  (ht1:starEach [Expr.Constant (.int n1) k1 p1,.Constant (.int n2) k2 p2] X.env=(false,eval (.Constant (.int n1) k1 p1) X.env)::starEach [.Constant (.int n2) k2 p2] X.env:=by rfl) (ht2:starEach [Expr.Constant (.int n2) k2 p2] X.env=(false,eval (.Constant (.int n2) k2 p2) X.env)::starEach [] X.env:=by rfl)
  (hsw:swapsWith (.Call (.Attribute (.Subscript (.Name x px) (.Name y py) ps) "append" apos) [.Tuple [.Constant (.int n1) k1 p1,.Constant (.int n2) k2 p2] kt pt] [] cpos) none pos.line X.env=pure false:=by rfl) :
  SS X sf io C (.Expr (.Call (.Attribute (.Subscript (.Name x px) (.Name y py) ps) "append" apos) [.Tuple [.Constant (.int n1) k1 p1,.Constant (.int n2) k2 p2] kt pt] [] cpos) pos) (.apC i k [.int n1,.int n2]) :=
 ba (cf (iW a0P a1A a1B dw (lK ix_any (az hN hv hd hcd) (az hN2 hv2 hd2 hcd2) (by intro _ _; rfl)) (aG (qL (aG j7 (aG j7 bx ht2) ht1)) bx hst) hbase hfew hline hst hplain) hsw) fun D σ H hw=>by
  obtain ⟨a,xs,j,b,e1,e2,ha,hat,⟨ys0,hb⟩,hl,hp⟩:=yO (ns:=[n1,n2]) hi hk D σ H hw
  refine ⟨.ref a,e1,.int j,e2,a,xs,j,.ref b,rfl,rfl,.inl (.inl (.inl ha)),hat,.inl ⟨rfl,ys0,.inl (.inl hb)⟩,hl,fun p hn=>?_⟩
  obtain ⟨ys,h1,h2,h3⟩:=hp p hn
  exact ⟨b,ys,.ref p,rfl,rfl,h1,h2,h3⟩
theorem BE (ji jj:Nat)(hN:X.N.Nodup){i j:Nat}{x z:Str}{apos cpos px pz pz2 pe:Pos}(hij:i≠j:=by decide)(hjo:j ∉ io:=by decide)(hi:sf i=some ji:=by rfl)(hj:sf j=some jj:=by rfl)(hNi:X.N[ji]?=some x:=by rfl)(hNj:X.N[jj]?=some z:=by rfl)
  (hv:Vis X.env.scope x:=by first | exact a0y rfl | exact a0s (a0y rfl) | exact a0s (a0s rfl)) (hv2:Vis X.env.scope z:=by first | exact a0y rfl | exact a0s (a0y rfl) | exact a0s (a0s rfl)) (hx:L2.Loc X.env.scope z:=by first | exact a0y rfl | exact a0s rfl)
  (hd:(x==("__debug__":Str))=false:=by decide) (hd2:(z==("__debug__":Str))=false:=by decide) (hcd:(x==("__classdict__":Str))=false:=by decide) (hcd2:(z==("__classdict__":Str))=false:=by decide)
  (hbase:attributeBase (.Name z pz2) "clear" X.env (eval (.Name z pz2) X.env)=eval (.Name z pz2) X.env:=by rfl) (hline:(apos.endLine==cpos.line)=true:=by rfl)
  (hsw:swapsWith (.Call (.Attribute (.Name z pz2) "clear" apos) [] [] cpos) none pe.line X.env=pure false:=by rfl)
  (hc:X.calm=true:=by rfl) (hp:PassesOwn (model X.prog X.w) X.A X.env X.xe:=by exact PassesOwn.never) (hf:X.fn z=true\/X.env.scope.names.lookup z=some .local:=by first | exact .inl rfl | exact .inr rfl) (hs:∀ y,foldedSetIterable (.Name x px) X.env y=pure y:=by intro _; rfl) :
  SS X sf io C (.For (.Name z pz) (.Name x px) [.Expr (.Call (.Attribute (.Name z pz2) "clear" apos) [] [] cpos) pe] [] pos) (.clrA i j) :=
 ba (gX hp hc (dZ (az hNi hv hd hcd)) (bJ (i:=jj) hN hNj hx hf) (lA (cf (jZ a0P PySem.F.slot_list_clear PySem.F.type_list_clear p7 (az hNj hv2 hd2 hcd2) hbase hline) hsw)) hs) (uy hij hjo hi hj)
end
end MR

namespace TP
open PySem PySem.W
noncomputable def en (P:Params)(k:Str)(t:Nat)(v:Value):DictEntry:=⟨PyData.keyHash P k,.str k t,v⟩
noncomputable def tu (xs:List Value):Obj:=⟨.type "tuple",none,.seq xs.toArray 0,#[]⟩
noncomputable def fe (xs:List Value):Obj:=⟨.none,none,.fields xs.toArray,#[]⟩
noncomputable def di (es:List DictEntry)(n:Nat):Obj:=⟨.type "dict",none,.dict es.toArray n,#[]⟩
noncomputable abbrev fl:Str:="/claim/cut.py"
noncomputable def iv (i:Int):Value:=.int i 0
noncomputable def cdo (n q:Str)(t t2:Nat)(ln ac:Nat)(f:Nat)(a:Nat)(b:Bool)(x y z:Value):Obj :=
 ⟨.type "code",none,.fields #[.str n t,.str q (t+1),.str fl (t+2),iv ln,iv ac,iv 0,iv 0,iv f,.ref a,.bool b,iv 181,.ref (a+1),.none,x,y,z,iv t2,iv ln,.str fl (t2+1)],#[]⟩
noncomputable def ofn (c:Value)(st:Stmt)(q:Str)(g:Nat)(d m:Value)(cd:Value):Obj:=match st with
 | .FunctionDef n ar b _ _ _ sc _ _ _=>⟨c,none,.func { name:=n,qualname:=q,params:=ar,body:=.stmts b,scope:=sc,globals:=g,closure:=[],defaults:=d,kwdefaults:=.none,pyModule:=m,code:=cd },#[]⟩
 | _=>default
noncomputable def tks:List Str->Nat->List Value
 | [],_=>[]
 | x::r,t=>.str x t::tks r (t+1)
structure R where
 os:List Obj
 ns:List DictEntry
 tb:List Value
 n:Nat
 tk:Nat
 md:Value
inductive Rc where
 | d | m | c
 | x (k:Str) (kt:Nat) (v:Value) (os:Params->List Obj) (tb:List Value) (n tk:Nat)
noncomputable def cv:Expr->Value
 | .Constant (.bool b) _ _=>.bool b
 | _=>.none
noncomputable def dO (P:Params)(n tk:Nat)(md:Value)(st:Stmt):R:=match st with
 | .FunctionDef nm ar b _ _ _ sc _ _ pos =>
  let pr:List Obj×Value×Nat:=match ar.defaults with
   | []=>([],.none,n)
   | ds=>([tu (ds.map cv)],.ref n,n+1)
  let a:=pr.2.2
  match localNames ar sc (.stmts b) with
  | none=>⟨pr.1++[tu [],fe [],ofn .none st nm 0 .none .none .none,cdo nm nm tk (tk+3) pos.line ar.args.length 3 a true .none .none (.ref (a+2)),ofn (.type "function") st nm 3 pr.2.1 md (.ref (a+3))],
    [en P nm (tk+5) (.ref (a+4))],[iv pos.line,iv pos.col,.ref (a+3)],a+5,tk+6,md⟩
  | some l =>
   let k:=l.1.length
   let j:=l.2.length
   ⟨pr.1++[tu [],fe [],tu (tks l.1 (tk+3)),tu (tks l.2 (tk+3+k)),ofn .none st nm 0 .none .none .none,cdo nm nm tk (tk+3+k+j) pos.line ar.args.length 3 a true (.ref (a+2)) (.ref (a+3)) (.ref (a+4)),ofn (.type "function") st nm 3 pr.2.1 md (.ref (a+5))],
    [en P nm (tk+5+k+j) (.ref (a+6))],[iv pos.line,iv pos.col,.ref (a+5)],a+7,tk+6+k+j,md⟩
 | _=>⟨[],[],[],n,tk,md⟩
noncomputable def one (P:Params)(n tk:Nat)(md:Value)(st:Stmt):Rc->R
 | .d=>dO P n tk md st
 | .m=>match st with
  | .Assign _ (.Constant (.str s) _ _) _=>⟨[],[],[],n,tk+2,.str s tk⟩
  | _=>⟨[],[],[],n,tk,md⟩
 | .c=>match st with
  | .Assign (.Name x _::_) (.Constant (.str s) _ _) _=>⟨[],[en P x (tk+1) (.str s tk)],[],n,tk+2,md⟩
  | .Assign (.Name x _::_) (.Constant (.int i) _ _) _=>⟨[],[en P x (tk+1) (.int i tk)],[],n,tk+2,md⟩
  | _=>⟨[],[],[],n,tk,md⟩
 | .x k kt v os tb n' tk'=>⟨os P,[en P k kt v],tb,n',tk',md⟩
noncomputable def go (P:Params):List (Stmt×Rc)->Nat->Nat->Value->List R
 | [],_,_,_=>[]
 | (st,r)::l,n,tk,md=>let x:=one P n tk md st r
  x::go P l x.n x.tk x.md
noncomputable def Ay (x:R):List R->R
 | []=>x
 | y::l=>Ay y l
noncomputable def ds:Data->List DictEntry
 | .dict es _=>es.toList
 | _=>[]
noncomputable def ep:Data->Nat
 | .dict _ n=>n
 | _=>0
noncomputable def r0:R:=⟨[],[],[],15,187,.str "__main__" 164⟩
noncomputable def rs (P:Params)(l:List (Stmt×Rc)):List R:=go P l 15 187 (.str "__main__" 164)
noncomputable def o3 (P:Params)(l:List R):Obj:=di (en P "__name__" 165 (Ay r0 l).md::((ds (boot_o_3 P).data).tail++l.flatMap R.ns)) (ep (boot_o_3 P).data+(l.flatMap R.ns).length)
noncomputable def os (P:Params)(l:List R):List Obj :=
 boot_o_0 P::boot_o_1 P::boot_o_2 P::o3 P l::boot_o_4 P::boot_o_5 P::boot_o_6 P::boot_o_7 P::boot_o_8 P::boot_o_9 P::boot_o_10 P ::
 tu []::fe (l.flatMap R.tb)::cdo "<module>" "<module>" 182 185 1 0 0 11 false .none .none .none ::
 ⟨.type "frame",none,.plain,#[some (.ref 13),some (.ref 3),some (.ref 3),none,some (.str "__main__" 164),none,some (.ref 0)]⟩::l.flatMap R.os
noncomputable def odd {α:Type}:List α->List α×List α
 | []=>([],[])
 | x::l=>(x::(odd l).2,(odd l).1)
noncomputable def bt:Nat->List Obj->BT
 | 0,_=>.nil
 | _+1,[]=>.nil
 | k+1,x::l=>.node x (bt k (odd l).1) (bt k (odd l).2)
noncomputable abbrev p0:Pos:=⟨0,0,0,0⟩
noncomputable abbrev B0:List Frame:=[topFrame p0]
noncomputable abbrev an:Option Value:=some (.ref 6)
noncomputable def ev (p:Program):Env:={ scope:=p.main.scope,locals:=mainNs,globals:=mainNs,cells:=[],code:=.ref 13,frame:=some 14 }
noncomputable def cE (p:Program):Code:=.body (behindTheImports p) (ev p)
noncomputable def sT (p:Program)(rc:List Rc)(P:Params)(m n tk:Nat)(o:OsState):SharedT:=⟨bt 12 (os P (rs P ((p.main.body.zip rc).take m))),n,{},#[],{},tk,o⟩
noncomputable def hp (p:Program)(rc:List Rc)(m n:Nat)(P:Params):Heap:=absHeap (bt 12 (os P (rs P ((p.main.body.zip rc).take m)))) n {}
noncomputable def Cut (p:Program)(rc:List Rc)(i n t:Nat)(ps:Pos)(k N n' t':Nat)(ps':Pos)(w:World):Prop:=∀ o,segRunT treeTable p w 11 an 1 N (sT p rc w.params i n t o) (piecesOf ((p.main.body.drop i).take k) (ev p) (cE p) ps B0)=some (.next,sT p rc w.params (i+k) n' t' o,cE p,ps')
noncomputable def Ch (p:Program)(rc:List Rc)(m n1 t1:Nat)(i n t:Nat)(ps:Pos)(M:Nat):Prop:=∀ w o,topRun treeTable p w 11 an M (sT p rc w.params i n t o).abs (restOf (p.main.body.drop i) (ev p) (cE p) ps B0)=some (sT p rc w.params m n1 t1 o).abs
theorem uJ {p:Program}{rc:List Rc}{m n1 t1 i n t k N n' t' M:Nat}{ps ps':Pos}(c:∀ w,Cut p rc i n t ps k N n' t' ps' w)(h:Ch p rc m n1 t1 (i+k) n' t' ps' M):Ch p rc m n1 t1 i n t ps (N+M):=fun w o=>by
 have x:=piece_app (segRun_of (c w o)) (h w o)
 rw [<- List.drop_drop,a2E] at x
 exact x
theorem yB {p:Program}{rc:List Rc}{m n1 t1:Nat}{ps:Pos}(hd:p.main.body.drop m=[]):Ch p rc m n1 t1 m n1 t1 ps 2:=fun w o=>by
 rw [hd]
 exact piece_nil rfl
theorem qZ (w:World):((boot_heap w.params).isNs mainGlobals&&(a3B []:Array GenState).size==0,(boot_heap w.params).objs.size,(boot_heap w.params).nsMap mainGlobals "__annotations__")=(true,11,an):=by kernel_rfl
theorem rA {p q:Program}{loose:List Str}{Xt:Shared->Bool}{α:Type}{Yf:Shared->α}{Ya:World->α}{N M m n1 t1:Nat}{rc:List Rc}
  (e:opening p=plainProg p.main.scope.names) (hN:Nat.ble 600 N=true) (f:∀ s,fenceModules? p s=some s) (hb:behindTheImports p=p.main.body)
  (size:∀ w:World,((boot_heap w.params).isNs mainGlobals&&(a3B []:Array GenState).size==0,(boot_heap w.params).objs.size,(boot_heap w.params).nsMap mainGlobals "__annotations__")=(true,11,an))
  (pre:∀ (w:World) (o:OsState),topGo treeTable p w 11 an 12 ⟨boot_heap w.params,a3B [],boot_drawn,boot_toks,o⟩ (topStub p)=some ((sT p rc w.params 0 15 187 o).abs,⟨denote treeTable (cE p),cE p,p0,B0⟩))
  (blk:∀ (w:World) (o:OsState),segRun treeTable p w 11 an 1 1 (sT p rc w.params 0 15 187 o).abs (blockOf (behindTheImports p) (ev p) (cE p) p0 B0)=some (.next,(sT p rc w.params 0 15 187 o).abs,cE p,p0))
  (ch:Ch p rc m n1 t1 0 15 187 p0 M) (le:Nat.ble (12+(1+M)) N=true)
  (looks:∀ w:World,(fun o=>((staticsOk (importedModules p.main.body) (boot_heap w.params) (hp p rc m n1 w.params)&&namesBound p (hp p rc m n1 w.params)&&gensDone ⟨hp p rc m n1 w.params,#[],{},t1,o⟩&&laidKept (boot_heap w.params) (hp p rc m n1 w.params)),
    openSeen q loose (importedModules p.main.body) Xt true ⟨hp p rc m n1 w.params,#[],{},t1,o⟩,Yf ⟨hp p rc m n1 w.params,#[],{},t1,o⟩))=fun _=>(true,openGood q loose,Ya w)):LeftO p q loose Xt Yf Ya N :=
 LeftO.of_pieces (H₀:=boot_heap) (H₁:=hp p rc m n1) (gs₁:=#[]) (d₁:={}) (k₁:=t1) (boot_open e hN f) size
  (fun w o=>go_top (pre w o) (piece_block (blk w o) (by have x:=ch w o; rw [a1l,<- hb] at x; exact x))) le looks
noncomputable def cb (st:Stmt)(j:Nat):Stmt:=match st with
 | .ClassDef _ _ _ b _ _ _ _ _ _ _=>b.getD j st
 | _=>st
noncomputable def drec (st:Stmt):PySem.DefRec:=match st with
 | .FunctionDef n a b _ _ _ sc _ _ pos=>⟨n,a,b,sc,pos⟩
 | _=>⟨default,default,[],default,default⟩
theorem d6 {α:Type}:∀ (l:List α) (i:Nat),(odd l).1[i]?=l[2 * i]?/\(odd l).2[i]?=l[2 * i+1]?
 | [],i=>by simp [odd]
 | x::l,i=>by
  refine ⟨?_,?_⟩
  ·cases i with
   | zero=>simp [odd]
   | succ j=>rw [show 2 * (j+1)=2 * j+1+1 by omega]; simp only [odd,a0C]; exact (d6 l j).2
  ·simp only [odd,a0C]; exact (d6 l i).1
theorem lC {α:Type}:∀ (l:List α),(odd l).1.length=(l.length+1) / 2/\(odd l).2.length=l.length / 2
 | []=>by simp [odd]
 | x::l=>by
  have h:=lC l
  simp only [odd,a0f,h.1,h.2]
  exact ⟨by omega,trivial⟩
theorem jD:∀ (k:Nat) (l:List Obj) (a:Nat),l.length < 2 ^ k->(bt k l).get a=l[a]?
 | 0,l,a,h=>by
  have:l=[]:=List.length_eq_zero_iff.mp (by simpa using h)
  subst this; simp [bt,BT.get]
 | k+1,[],a,h=>by simp [bt,BT.get]
 | k+1,x::l,a,h=>by
  have e:2 ^ (k+1)=2 * 2 ^ k:=by rw [Nat.pow_succ]; omega
  have hl:=lC l
  simp only [a0f] at h
  unfold bt
  rw [BT.get_node]
  by_cases h0:a=0
  ·simp [h0]
  ·rw [if_neg h0]
   by_cases h1:a % 2=1
   ·rw [if_pos h1,jD k _ _ (by omega),(d6 l (a / 2)).1]
    obtain ⟨b,rfl⟩:∃ b,a=b+1:=⟨a-1,by omega⟩
    rw [a0C]; congr 1; omega
   ·rw [if_neg h1,jD k _ _ (by omega),(d6 l (a / 2-1)).2]
    obtain ⟨b,rfl⟩:∃ b,a=b+1:=⟨a-1,by omega⟩
    rw [a0C]; congr 1; omega
noncomputable def lL (p:Program)(rc:List Rc)(m:Nat)(P:Params):List Obj:=os P (rs P ((p.main.body.zip rc).take m))
noncomputable def kK (p:Program)(rc:List Rc)(m:Nat)(as:List Addr)(P:Params):Frag:=as.map fun a=>(a,(lL p rc m P).getD a default)
noncomputable def okO:Option Obj->Bool
 | some ⟨_,_,.freed,_⟩=>false
 | some _=>true
 | none=>false
theorem kI {p:Program}{rc:List Rc}{m:Nat}{P:Params}{a:Addr}{o:Obj}:∀ {as:List Addr},(kK p rc m as P).lookup a=some o->a∈as/\o=(lL p rc m P).getD a default
 | [],h=>by simp [kK] at h
 | b::as,h=>by
  unfold kK at h
  rw [a0x,a2n] at h
  by_cases e:a=b
  ·subst e
   rw [beq_self_eq_true] at h
   exact ⟨a0d ..,(a0v h).symm⟩
  ·rw [beq_false_of_ne e] at h
   have x:=kI (as:=as) h
   exact ⟨a0c _ x.1,x.2⟩
noncomputable def hkk (p:Program)(rc:List Rc)(m n:Nat):Hook where
 α:=Array Obj
 obs s:=s.heap.objs
 val w:=(hp p rc m n w.params).objs
 says w h:=∀ a o,(hp p rc m n w.params).get? a=some o->h.get? a=some o
 of w s e a o x:=by unfold Heap.get? at *; rw [e]; exact x
 keeps w h h' X k a o x:=k _ _ (X a o x)
theorem CM {p:Program}{rc:List Rc}{m n:Nat}{as:List Addr}{w:World}{h:Heap}(hl:Nat.blt (lL p rc m w.params).length 4096=true)(hc:(as.all fun a=>Nat.blt a n&&okO (lL p rc m w.params)[a]?)=true)
  (Y:(hkk p rc m n).says w h):(kK p rc m as w.params).In h:=fun a o e=>by
 obtain ⟨e1,e2⟩:=kI e
 obtain ⟨c1,c2⟩:=a1T.mp (a0A.mp hc a e1)
 refine Y a o ?_
 have c3:a < n:=a2F c1
 have c4:(lL p rc m w.params).length < 2 ^ 12:=a2F hl
 have g:=jD 12 (lL p rc m w.params) a c4
 unfold hp Heap.get?
 rw [absHeap_at,if_pos c3]
 show (match some (((bt 12 (lL p rc m w.params)).get a).getD default) with | some ⟨_,_,.freed,_⟩=>none | o=>o)=some o
 rw [g]
 rw [a0b] at e2
 rw [<- e2]
 cases q:(lL p rc m w.params)[a]? with
 | none=>rw [q] at c2; cases c2
 | some x =>
  rw [q] at c2 e2
  have e3:o=x:=e2
  subst e3
  obtain ⟨_,_,d,_⟩:=o
  cases d<;>first | rfl | cases c2
noncomputable def pmO:Option Obj->Value
 | some ⟨_,_,.func f,_⟩=>f.pyModule
 | _=>.none
noncomputable def rfO:Option (Option Value)->Nat
 | some (some (.ref a))=>a
 | _=>0
theorem raw_mk {K:Frag}{x:Str}{st:Stmt}{dV:Value}(h1:nsIn K mainGlobals x=some (some (.ref (rfO (nsIn K mainGlobals x)))))
  (h2:K.lookup (rfO (nsIn K mainGlobals x))=some ⟨.type "function",none,.func (fnOf x x (L2.defArgs st) (L2.defBody st) (L2.defScope st) dV .none .none (pmO (K.lookup (rfO (nsIn K mainGlobals x)))) none (.ref (rfO (nsIn K mainGlobals x)-1)) .none),#[]⟩)
  (h3:codeIn K (.ref (rfO (nsIn K mainGlobals x)-1)) x=true) (h4:keepIn K (.ref (rfO (nsIn K mainGlobals x)))=true):MR.Raw K x st dV:=⟨_,_,_,_,_,_,_,_,_,_,h1,h2,h3,h4⟩
end TP

namespace A74
open M
open PySem (Str)
noncomputable abbrev q:=Str.ofString
noncomputable def bq:Fn:={ ps:=2,ns:=12,io:=[],body:=[
  .asg (.q [0] []) 2 (.comp false .seq [.var 0] [10] none (.op .ix false [.var 10,.cst (.int 2)])),
  .asg (.q [0] []) 3 (.comp false .seq [.var 0] [11] none (.op .len false [.op .ix false [.var 11,.cst (.int 3)]])),
  .asg (.q [0] []) 4 (.call 290 [.var 0]),
  .asg (.q [0,3] []) 5 (.comp true .rng [.op .sub false [.op .len false [.var 0],.cst (.int 1)],.op .neg false [.cst (.int 1)],.op .neg false [.cst (.int 1)]] [12] (some (.op .eq false [.op .ix false [.var 3,.var 12],.cst (.int 0)])) (.var 12)),
  .asg (.q [] []) 6 (.lst true []),
  .whl (.q [5] []) (.var 5) [
   .asg (.l [1]) 7 (.call 311 [.io 5,.io 2,.var 1]),
   .forU .seq [.qx [2,7] [] (.comp true .seq [.var 7] [13] (some (.op .eq false [.op .ix false [.var 2,.op .ix false [.var 13,.cst (.int 0)]],.cst (.int 0)])) (.op .ix false [.var 13,.cst (.int 0)]))] [8] [
    .forS [4] [8] .seq [.op .ix false [.var 4,.var 8]] [9] [
     .setI (.q [3,9] []) 3 (.var 9) (.op .sub false [.op .ix false [.var 3,.var 9],.cst (.int 1)]),
     .ite (.q [3,9] []) (.op .eq false [.op .ix false [.var 3,.var 9],.cst (.int 0)]) [
      .exp (.l [9]) (.call 299 [.io 5,.var 9])] []]],
   .app (.l []) 6 (.mv 7)],
  .ret [] (.mv 6)] }
noncomputable def aQ:Fn:={ ps:=1,ns:=5,io:=[],body:=[
  .asg (.q [0] []) 1 (.comp true .seq [.var 0] [5] none (.lst true [])),
  .forS [0] [] .enm [.var 0] [2,3] [
   .forS [3] [] .seq [.op .ix false [.var 3,.cst (.int 3)]] [4] [
    .apN 1 4 2]],
  .ret [] (.mv 1)] }
noncomputable def ff:Fn:={ ps:=3,ns:=4,io:=[0,1],body:=[
  .asg (.q [] []) 3 (.lst true []),
  .asg (.q [2] []) 4 (.var 2),
  .whl (.q [0,4] []) (.and (.op .gt false [.var 4,.cst (.int 0)]) (.var 0)) [
   .asg (.q [0] []) 5 (.op .ix false [.var 0,.op .neg false [.cst (.int 1)]]),
   .asg (.q [1,4] [5]) 6 (.op .min false [.var 4,.op .ix false [.var 1,.var 5]]),
   .app (.q [] [5,6]) 3 (.tup [.var 5,.var 6]),
   .asg (.q [4] [6]) 4 (.op .sub false [.var 4,.var 6]),
   .setI (.q [1] [5,6]) 1 (.var 5) (.op .sub false [.op .ix false [.var 1,.var 5],.var 6]),
   .ite (.q [1] [5]) (.op .eq false [.op .ix false [.var 1,.var 5],.cst (.int 0)]) [
    .exp (.l []) (.pop 0 [])] []],
  .ret [] (.mv 3)] }
noncomputable def aW:Fn:={ ps:=2,ns:=3,io:=[0],body:=[
  .asg (.q [] []) 2 (.cst (.int 0)),
  .asg (.q [0] []) 3 (.op .len false [.var 0]),
  .whl (.q [] [2,3]) (.op .lt false [.var 2,.var 3]) [
   .asg (.q [] [2,3]) 4 (.op .fdiv false [.op .add false [.var 2,.var 3],.cst (.int 2)]),
   .ite (.q [0] [1,4]) (.op .gt false [.op .ix false [.var 0,.var 4],.var 1]) [
    .asg (.q [] [4]) 2 (.op .add false [.var 4,.cst (.int 1)])] [
    .asg (.q [] [4]) 3 (.var 4)]],
  .insN 0 2 1] }
noncomputable def bD:Fn:={ ps:=1,ns:=0,io:=[],body:=[
  .ret [] (.lst true [.op .list true [.op .sl2 true [.mv 0,.cst (.int 63)]],.cst (.int 0),.cst (.int 0)])] }
noncomputable def bc:Fn:={ ps:=2,ns:=4,io:=[0],body:=[
  .ite (.q [0] []) (.op .gt false [.op .ix false [.var 0,.cst (.int 2)],.cst (.int 0)]) [
   .asg (.q [0] [1]) 2 (.op .modN false [.op .ix false [.var 0,.cst (.int 2)],.var 1]),
   .setI (.q [0] [1]) 0 (.cst (.int 2)) (.op .fdivN false [.op .ix false [.var 0,.cst (.int 2)],.var 1]),
   .ret [] (.mv 2)] [],
  .asg (.q [0] []) 3 (.op .ix false [.var 0,.cst (.int 1)]),
  .setI (.q [3] []) 0 (.cst (.int 1)) (.op .add false [.var 3,.cst (.int 1)]),
  .asg (.q [] []) 4 (.cst (.int 0)),
  .ite (.q [0] []) (.op .gt false [.op .len false [.op .ix false [.var 0,.cst (.int 0)]],.cst (.int 0)]) [
   .asg (.q [0,3] []) 4 (.op .ix false [.op .ix false [.var 0,.cst (.int 0)],.op .modN false [.var 3,.op .len false [.op .ix false [.var 0,.cst (.int 0)]]]])] [],
  .ite (.q [0,3,4] []) (.and (.op .lt false [.var 3,.op .len false [.op .ix false [.var 0,.cst (.int 0)]]]) (.op .ge false [.var 4,.op .pow false [.cst (.int 10),.cst (.int 18)]])) [
   .setI (.q [4] [1]) 0 (.cst (.int 2)) (.op .fdivN false [.var 4,.var 1]),
   .ret [] (.op .modN false [.mv 4,.mv 1])] [],
  .asg (.q [3,4] []) 5 (.op .modN false [.op .mul false [.op .add false [.op .modN false [.var 4,.cst (.int 1000003)],.cst (.int 1)],.op .add false [.op .add false [.op .mul false [.op .mul false [.cst (.int 7919),.var 3],.var 3],.op .mul false [.cst (.int 104729),.var 3]],.cst (.int 12345)]],.cst (.int 2147483647)]),
  .asg (.q [3,4] [5]) 5 (.op .modN false [.op .add false [.op .add false [.op .mul false [.var 5,.var 5],.op .mul false [.cst (.int 48271),.var 3]],.op .modN false [.var 4,.cst (.int 65537)]],.cst (.int 2147483629)]),
  .ret [] (.op .modN false [.op .fdivN false [.mv 5,.cst (.int 8)],.mv 1])] }
noncomputable def f_law_waits:Fn:={ ps:=1,ns:=10,io:=[0],body:=[
  .asg (.l []) 1 (.op .ix false [.lst false [.cst (.int 0),.cst (.int 1),.cst (.int 2),.cst (.int 3),.cst (.int 4),.cst (.int 5),.cst (.int 6),.cst (.int 7),.cst (.int 8),.cst (.int 9),.cst (.int 10),.cst (.int 12)],.call 201 [.io 0,.cst (.int 12)]]),
  .asg (.q [] [1]) 2 (.op .rng false [.cst (.int 0),.var 1]),
  .asg (.q [] []) 3 (.lst false []),
  .asg (.q [] []) 4 (.op .dnew false []),
  .asg (.l []) 5 (.op .add false [.cst (.int 2),.call 201 [.io 0,.cst (.int 4)]]),
  .forS [] [1] .rng [.var 1] [6] [
   .asg (.l []) 7 (.popN 2 (.call 201 [.io 0,.lenV 2])),
   .setS (.l [7]) 4 (.var 7) (.op .sorted false [.compV true 3 10 (.op .eq false [.call 201 [.io 0,.var 5],.cst (.int 0)]) (.var 10)]),
   .app (.q [7] []) 3 (.var 7)],
  .asg (.q [] []) 8 (.lst false []),
  .forS [] [1] .rng [.var 1] [6] [
   .asg (.l []) 9 (.op .ix false [.lst false [.cst (.int 1),.op .add false [.cst (.int 1),.call 201 [.io 0,.cst (.int 4)]],.op .add false [.cst (.int 1),.call 201 [.io 0,.cst (.int 9)]],.op .add false [.cst (.int 20),.call 201 [.io 0,.cst (.int 40)]]],.op .fdiv false [.op .mul false [.call 201 [.io 0,.cst (.int 8)],.cst (.int 4)],.cst (.int 8)]]),
   .app (.q [4,9] [6]) 8 (.tup [.tup [.op .fdiv false [.var 6,.cst (.int 3)],.op .mod false [.var 6,.cst (.int 3)]],.tup [],.var 9,.op .ixD false [.var 4,.var 6]])],
  .ret [] (.mv 8)] }
noncomputable def br:Fn:={ ps:=1,ns:=0,io:=[0],body:=[
  .ret [] (.op .ix false [.lst false [.cst (.int 1),.cst (.int 20),.op .add false [.cst (.int 1),.call 201 [.io 0,.cst (.int 4)]],.op .add false [.cst (.int 1),.call 201 [.io 0,.cst (.int 20)]]],.call 201 [.io 0,.cst (.int 4)]])] }
noncomputable def bQ:Fn:={ ps:=2,ns:=2,io:=[],body:=[
  .ret [0,1] (.comp true .rng [.op .len false [.var 0]] [2] (some (.and (.op .gt false [.op .ix false [.var 1,.var 2],.cst (.int 0)]) (.op .eq false [.comp false .seq [.op .ix false [.op .ix false [.var 0,.var 2],.cst (.int 3)]] [3] (some (.op .gt false [.op .ix false [.var 1,.var 3],.cst (.int 0)])) (.var 3),.lst false []]))) (.var 2))] }
noncomputable def bS:Fn:={ ps:=2,ns:=9,io:=[],body:=[
  .asg (.q [0] []) 2 (.comp false .seq [.var 0] [8] none (.op .ix false [.var 8,.cst (.int 2)])),
  .asg (.q [] []) 3 (.lst false []),
  .whl (.l []) (.op .ne false [.qx [0,2] [] (.call 308 [.var 0,.var 2]),.lst false []]) [
   .asg (.q [] []) 4 (.lst false []),
   .forU .seq [.qx [0,2] [] (.call 308 [.var 0,.var 2])] [5] [
    .asg (.q [1,4] []) 6 (.op .sub false [.var 1,.op .sum false [.comp false .sq2 [.var 4] [9,10] none (.var 10)]]),
    .ite (.q [] [6]) (.op .gt false [.var 6,.cst (.int 0)]) [
     .app (.q [2,5] [6]) 4 (.tup [.var 5,.op .min false [.var 6,.op .ix false [.var 2,.var 5]]])] []],
   .forS [4] [] .sq2 [.var 4] [5,7] [
    .setI (.q [2,5] [7]) 2 (.var 5) (.op .sub false [.op .ix false [.var 2,.var 5],.var 7])],
   .app (.q [4] []) 3 (.var 4)],
  .ret [] (.mv 3)] }
noncomputable def lu:Fn:={ ps:=1,ns:=9,io:=[],body:=[
  .asg (.q [0] []) 1 (.call 179 [.var 0]),
  .forS [] [] .rng [.cst (.int 3)] [2] [
   .asg (.l []) 3 (.call 278 [.io 1]),
   .asg (.l [3]) 4 (.call 279 [.io 1]),
   .asg (.q [3] []) 5 (.op .repr false [.var 3]),
   .asg (.q [3,4] []) 6 (.call 310 [.var 3,.var 4]),
   .asg (.q [3,4] []) 7 (.call 312 [.var 3,.var 4]),
   .ite (.q [3,5,6,7] []) (.or (.not (.op (.isI ["list"]) false [.var 6])) (.or (.op .ne false [.op .repr false [.var 6],.op .repr false [.var 7]]) (.op .ne false [.op .repr false [.var 3],.var 5]))) [
    .ret [] (.cst (.bl false))] [],
   .forU .seq [.qx [6] [] (.op .sl2 true [.lst true [.cst (.int 0),.op .fdiv false [.op .len false [.var 6],.cst (.int 2)]],.op .len false [.var 6]])] [8] [
    .apC 6 8 [.int 0,.int 0],
    .ite (.q [6,7,8] []) (.op .ne false [.op .repr false [.op .add false [.op .sl2 false [.var 6,.var 8],.op .sl1 false [.var 6,.op .add false [.var 8,.cst (.int 1)]]]],.op .repr false [.op .add false [.op .sl2 false [.var 7,.var 8],.op .sl1 false [.var 7,.op .add false [.var 8,.cst (.int 1)]]]]]) [
     .ret [] (.cst (.bl false))] [],
    .popI 6 8],
   .clrA 6 9,
   .app (.q [] []) 6 (.lst false []),
   .ite (.q [3,4,7] []) (.op .ne false [.op .repr false [.call 310 [.var 3,.var 4]],.op .repr false [.var 7]]) [
    .ret [] (.cst (.bl false))] []],
  .ret [] (.op .eq false [.call 310 [.lst false [],.cst (.int 3)],.lst false []])] }
noncomputable def prog:List Fn:=[lu,zf,zf,zf,zf,zf,zf,zf,zf,zf,zf,zf,zf,zf,zf,zf,zf,zf,zf,zf,zf,zf,zf,zf,zf,zf,zf,zf,zf,zf,zf,zf,zf,zf,zf,zf,zf,zf,zf,zf,zf,zf,zf,zf,zf,zf,zf,zf,zf,zf,zf,zf,zf,zf,zf,zf,zf,zf,zf,zf,zf,zf,zf,zf,zf,zf,zf,zf,zf,zf,zf,zf,zf,zf,zf,zf,zf,zf,zf,zf,zf,zf,zf,zf,zf,zf,zf,zf,zf,zf,zf,zf,zf,zf,zf,zf,zf,zf,zf,zf,zf,zf,zf,zf,zf,zf,zf,zf,zf,zf,zf,zf,zf,zf,zf,zf,zf,zf,zf,zf,zf,zf,zf,zf,zf,zf,zf,zf,zf,zf,zf,zf,zf,zf,zf,zf,zf,zf,zf,zf,zf,zf,zf,zf,zf,zf,zf,zf,zf,zf,zf,zf,zf,zf,zf,zf,zf,zf,zf,zf,zf,zf,zf,zf,zf,zf,zf,zf,zf,zf,zf,zf,zf,zf,zf,zf,zf,zf,zf,bD,zf,zf,zf,zf,zf,zf,zf,zf,zf,zf,zf,zf,zf,zf,zf,zf,zf,zf,zf,zf,zf,bc,zf,zf,zf,zf,zf,zf,zf,zf,zf,zf,zf,zf,zf,zf,zf,zf,zf,zf,zf,zf,zf,zf,zf,zf,zf,zf,zf,zf,zf,zf,zf,zf,zf,zf,zf,zf,zf,zf,zf,zf,zf,zf,zf,zf,zf,zf,zf,zf,zf,zf,zf,zf,zf,zf,zf,zf,zf,zf,zf,zf,zf,zf,zf,zf,zf,zf,zf,zf,zf,zf,zf,zf,zf,zf,zf,zf,f_law_waits,br,zf,zf,zf,zf,zf,zf,zf,zf,zf,zf,aQ,zf,zf,zf,zf,zf,zf,zf,zf,aW,zf,zf,zf,zf,zf,zf,zf,zf,bQ,zf,bq,ff,bS]
end A74

set_option compiler.extract_closed false
namespace P74
noncomputable section
open M A74
open PySem (Str)
local macro_rules
 | `(tactic| simp_all only [$ls,*])=>`(tactic| simp only [xS,xn,wJ,zi,zl,xP,xR,ub,rW,tO,q9,rK,ua,tL,rj,uT,tN,tQ,rq,tG,rh,sL,tD,sj,tX,uc,u9,so,qO,kC,vf,tM,uK,qA,nX,sP,ud,sR,rB,kd,qD,kOp,oE,kOr,nr,kC3,kC2,kC1,iA,eS,cj,cu,bE,eT,de,il,mr,kH,aV,kX,kT,kT2,kIf,uP,n9,xV,ox,tE,kl,kNx,kRt,iJ,rO,n8,okW,lg,nq,fo,aI,ae,ios,putAll,vU,CY,xh,xg,wU,va,r9,um,yI,yd,vV,yT,yK,vQ,xl,Bn,BY,Cz,Ah,Be,Bi,tj,sD,uS,tY,BD,v7,oM,oo,og,qU,yc,tR,ux,qd,pd,Cn,AF,AQ,Cg,oJ,pK,pG,zg,vO,vT,yQ,vR,wQ,zq,ze,uH,rH,vb,xW,oG,qQ,qI,zL,qt,qv,vB,BI,vZ,xu,wW,v9,xi,xq,Dc,Ds,DI,Dt,A8,AE,x4,yW,yf,Ao,zY,v8,AU,uQ,wm,CJ,rM,su,Al,x8,vY,x5,zd,p8,qb,pf,Bs,ph,qM,ui,rR,uE,rP,xy,wd,y9,pC,c8,lX,mh,mJ,wj,yg,xJ,xU,zu,xA,y8,xr,AD,oK,nv,yj,wD,at0,at1,at2,at3,at4,a3h,a0V,a0w,a0x,a1M,a0Y,List.replicate_zero,reduceIte,if_true,if_false,String.reduceBEq,Bool.not_true,Bool.not_false,Bool.false_eq_true,Bool.and_self,a3C,a3D,uM,kIo,yF,wo,mE,oW,ma,mF,mO,oQ,mG,qr,lU,jR,ju,mT,ke,jw,nT,pU,wH,yh,zk,Ce,Cb,t5,zJ,xB,CK,wg,Ab,Cr,xT,nL,pM,vW,mU,mV,zh,ka,pA,qH,nR,ky,Au,Dl,AZ,B9,An,Az,zZ,AW,CZ,AA,Bv,AI,zP,Aa,AR,By,Co,Dq,DG,DO,wy,s8,yx,yi,Av,jC,jA,ed,fu,ki,kY,jS,ie,i3,kV1,kV2,we,lR,qg,apU,j9,mw,jH,kn,$ls,*])
noncomputable abbrev C (n:Nat):Call:=callR prog 1000000 1000001 n
theorem ja (n:Nat)(ws:List W):C (n+1) 179 ws=runF (C n) bD ws:=rfl
theorem iX (n:Nat)(ws:List W):C (n+1) 201 ws=runF (C n) bc ws:=rfl
theorem g8 (n:Nat)(ws:List W):C (n+1) 278 ws=runF (C n) f_law_waits ws:=rfl
theorem gU (n:Nat)(ws:List W):C (n+1) 279 ws=runF (C n) br ws:=rfl
theorem dY (n:Nat)(ws:List W):C (n+1) 290 ws=runF (C n) aQ ws:=rfl
theorem eg (n:Nat)(ws:List W):C (n+1) 299 ws=runF (C n) aW ws:=rfl
theorem jE (n:Nat)(ws:List W):C (n+1) 308 ws=runF (C n) bQ ws:=rfl
theorem gP (n:Nat)(ws:List W):C (n+1) 310 ws=runF (C n) bq ws:=rfl
theorem sU (n:Nat)(ws:List W):C (n+1) 311 ws=runF (C n) ff ws:=rfl
theorem kh (n:Nat)(ws:List W):C (n+1) 312 ws=runF (C n) bS ws:=rfl
noncomputable def jQ (ns:List Int)(x y:Int):T:=.lst [.lst (ns.map T.int),.int x,.int y]
noncomputable def Tp (N:Nat)(t:T):Prop:=∃ ns x y,t=jQ ns ((x:Nat):Int) y/\x<=N
theorem tm {a b:Nat}{t:T}(h:Tp a t)(hab:a<=b):Tp b t:=by obtain ⟨ns,x,y,e,hx⟩:=h; exact ⟨ns,x,y,e,a0u hx hab⟩
theorem yL {α:Type}(a b c:α):ixN [a,b,c].length 1=some 1:=rfl
theorem xK {α:Type}(a b c:α):ixN [a,b,c].length 2=some 2:=rfl
theorem j5:oSem .pow false [(.d,.int 10),(.d,.int 18)]=some (.d,.int 1000000000000000000):=rfl
theorem BV {ns:List Int}{x:Int}(hx:0<=x)(hn:ns≠[]):∃ c,atI (ns.map T.int) (x.fmod ((ns.map T.int).length:Int))=some (.int c):=by
 have hl:0 < ns.length:=a1Y.mpr hn
 have e:((ns.map T.int).length:Int)=(ns.length:Int):=by rw [a0e]
 rw [e,a1p x (by omega)]
 have h1:0<=x % (ns.length:Int):=a3n _ (by omega)
 have h2:x % (ns.length:Int) < ns.length:=a2Y _ (by omega)
 obtain ⟨j,hj⟩:∃ j:Nat,x % (ns.length:Int)=j:=⟨_,(a1v h1).symm⟩
 have hj':j < ns.length:=by omega
 exact ⟨ns[j],atN hj (by rw [a0t,a0i hj']; rfl)⟩
theorem fm {a k:Int}(hk:0 < k):0<=a.fmod k/\a.fmod k < k:=by
 rw [a1p a (by omega)]
 exact ⟨a3n _ (by omega),a2Y _ hk⟩
theorem el {n N:Nat}{t:T}(m:Md)(k:Int)(ht:Tp N t)(hN:N < 1000000000000000000)(hk:0 < k)(hk2:k < 1000000000000000000) :
  ∃ r t',0<=r/\r < k/\Tp (N+1) t'/\C (n+1) 201 [(.d,t),(m,.int k)]=.ok ((.d,.int r),[(.d,t')]):=by
 obtain ⟨ns,x,y,rfl,hx⟩:=ht
 have k0:(k != 0)=true:=bne_iff_ne.mpr (by omega)
 have k1:decide (k.natAbs < 18446744073709551616)=true:=decide_eq_true (by omega)
 rw [iX,x_run _ _ _ rfl]
 cases hz:decide (0 < y) with
 | true =>
  refine ⟨y.fmod k,jQ ns ((x:Nat):Int) (y.fdiv k),(fm hk).1,(fm hk).2,⟨ns,x,_,rfl,by omega⟩,?_⟩
  simp_all only [bc,jQ,hz,k0,k1,yL,xK,a1D,a13]
 | false =>
  simp_all only [bc,jQ,hz,yL,xK,a1D,a13]
  generalize hE:onF _ _ _ _=e
  obtain ⟨c,rfl⟩:∃ c:Int,e=.nx [some (Md.d,T.lst [T.lst (a3E T.int ns),T.int ((x:Nat)+1),T.int y]),some (m,T.int k),none,some (Md.d,T.int x),some (Md.d,T.int c),none]:=by
   rw [<- hE]
   by_cases hn:ns=[]
   ·subst hn
    exact ⟨0,rfl⟩
   ·obtain ⟨c,hc⟩:=BV (x:=(x:Int)) (by omega) hn
    have hp:decide (0 < ((a3E T.int ns).length:Int))=true:=decide_eq_true (by rw [a0e]; have:=a1Y.mpr hn; omega)
    have hq:(((a3E T.int ns).length:Int) != 0)=true:=bne_iff_ne.mpr (by have:=of_decide_eq_true hp; omega)
    refine ⟨c,?_⟩
    simp_all only [hp,hq,hc]
  have xb:decide ((x:Int).natAbs < 18446744073709551616)=true:=decide_eq_true (by omega)
  have cb:∀ a:Int,decide ((a.fmod 1000003+1).natAbs < 18446744073709551616)=true:=fun a=>decide_eq_true (by have:=fm (a:=a) (show (0:Int) < 1000003 by decide); omega)
  have nb:∀ a:Int,decide ((a.fmod 2147483647).natAbs < 18446744073709551616)=true:=fun a=>decide_eq_true (by have:=fm (a:=a) (show (0:Int) < 2147483647 by decide); omega)
  have b1:decide ((7919:Int).natAbs < 18446744073709551616)=true:=rfl
  have b2:decide ((104729:Int).natAbs < 18446744073709551616)=true:=rfl
  have b3:decide ((48271:Int).natAbs < 18446744073709551616)=true:=rfl
  have z1:((1000003:Int) != 0)=true:=rfl
  have z2:((2147483647:Int) != 0)=true:=rfl
  have z3:((65537:Int) != 0)=true:=rfl
  have z4:((2147483629:Int) != 0)=true:=rfl
  have z5:((8:Int) != 0)=true:=rfl
  have z6:decide ((8:Int).natAbs < 18446744073709551616)=true:=rfl
  cases h1:decide ((x:Int) < ((a3E T.int ns).length:Int)) with
  | false =>
   simp_all only [h1,k0,k1,j5,xb,cb,nb,b1,b2,b3,z1,z2,z3,z4,z5,z6,a27,a3a]
   exact ⟨_,_,(fm hk).1,(fm hk).2,⟨ns,x+1,y,rfl,by omega⟩,rfl⟩
  | true =>
   cases h2:decide (1000000000000000000<=c) with
   | false =>
    simp_all only [h1,h2,k0,k1,j5,xb,cb,nb,b1,b2,b3,z1,z2,z3,z4,z5,z6,a27,a3a]
    exact ⟨_,_,(fm hk).1,(fm hk).2,⟨ns,x+1,y,rfl,by omega⟩,rfl⟩
   | true =>
    simp_all only [h1,h2,k0,k1,j5,yL,xK,a1D,a13]
    exact ⟨_,_,(fm hk).1,(fm hk).2,⟨ns,x+1,c.fdiv k,rfl,by omega⟩,rfl⟩
theorem aE {α:Type}(f:α->Md)(g:α->T):∀ ts:List α,aI (ts.map fun x=>(f x,g x))=ts.map g
 | []=>rfl
 | x::ts=>by show g x::aI _=g x::ts.map g; rw [aE f g ts]
theorem CT (ts:List T):(["list"].any fun c=>isOne c (T.lst ts))=true:=rfl
theorem rOks_all:∀ {ts:List T},rOks ts=true ↔ ∀ t∈ts,rOk t=true
 | []=>⟨(fun _ _ h=>nomatch h),fun _=>rfl⟩
 | t::ts=>by
  show (rOk t&&rOks ts)=true ↔ _
  rw [a0k,rOks_all]
  constructor
  ·rintro ⟨h1,h2⟩ u hu
   rcases a0q.mp hu with rfl | hu
   ·exact h1
   ·exact h2 u hu
  ·exact fun h=>⟨h t a0d,fun u hu=>h u (a0c _ hu)⟩
theorem cD {α:Type}{tg:List Nat}{f:Env->Fl}{g:α->List W}(I:List α->Env->Prop):∀ (ts pre:List α) (η:Env),I pre η->(∀ p x r η,pre++ts=p++x::r->I p η->∃ η1 η2,aM tg (g x) η=some η1/\f η1=.nx η2/\I (p++[x]) η2) ->
  ∃ η',bf tg f (ts.map g) η=.nx η'/\I (pre++ts) η'
 | [],pre,η,h,_=>⟨η,rfl,by rw [a0w]; exact h⟩
 | x::ts,pre,η,h,k=>by
  obtain ⟨η1,η2,h1,h2,h3⟩:=k pre x ts η rfl h
  obtain ⟨η',e,hi⟩:=cD I ts (pre++[x]) η2 h3 fun p y r η e=>k p y r η (by rw [<- e,a0J]; rfl)
  refine ⟨η',?_,by rw [a0J] at hi; exact hi⟩
  rw [a0x]
  show Fl.of _ (ofO (aM tg (g x) η)) _=_
  rw [h1]
  show Fl.turn (f η1) _=_
  rw [h2]
  exact e
theorem lb (C:Call):∀ (a b:List S) (η:Env),evSs C (a++b) η=(evSs C a η).seq (evSs C b)
 | [],b,η=>rfl
 | s::a,b,η=>by
  show (evS C s η).seq (evSs C (a++b))=((evS C s η).seq (evSs C a)).seq (evSs C b)
  cases evS C s η<;>first | rfl | exact lb C a b _
theorem go1 {C:Call}{a b:List S}{η η':Env}(h:evSs C a η=.nx η'):evSs C (a++b) η=evSs C b η':=by rw [lb,h]; rfl
noncomputable abbrev Bk (f:Fn)(i j:Nat):List S:=(f.body.drop i).take j
theorem iV {x y:Int}:∀ {l:List Int},y∈insI x l->y=x\/y∈l
 | [],h=>.inl (a0E.mp h)
 | z::l,h=>by
  unfold insI at h
  split at h
  ·rcases a0q.mp h with e | e
   ·exact .inl e
   ·exact .inr e
  ·rcases a0q.mp h with e | e
   ·exact .inr (e ▸ a0d)
   ·exact (iV e).imp id (a0c _)
theorem jq (x:Int):∀ l:List Int,(insI x l).length=l.length+1
 | []=>rfl
 | z::l=>by
  unfold insI
  split
  ·rfl
  ·rw [a0f,jq x l,a0f]
theorem dt {y:Int}:∀ {l:List Int},y∈sortI l->y∈l
 | [],h=>h
 | x::l,h=>by
  rcases iV (show y∈insI x (sortI l) from h) with e | e
  ·exact e ▸ a0d
  ·exact a0c _ (dt e)
theorem fG:∀ l:List Int,(sortI l).length=l.length
 | []=>rfl
 | x::l=>by show (insI x (sortI l)).length=_; rw [jq,fG l,a0f]
theorem ij:∀ l:List Int,intsOf (l.map T.int)=some l
 | []=>rfl
 | i::l=>by show (intsOf (l.map T.int)).map (i::·)=_; rw [ij l]; rfl
theorem lx (l:List Int):leaves (l.map T.int)=true:=a0A.mpr fun t ht=>by
 obtain ⟨i,_,rfl⟩:=a0B.mp ht
 rfl
theorem f7:∀ (l:List Int) (j:Nat),(l.map T.int).eraseIdx j=(l.eraseIdx j).map T.int
 | [],_=>rfl
 | _::_,0=>rfl
 | x::l,j+1=>by show T.int x::(l.map T.int).eraseIdx j=T.int x::(l.eraseIdx j).map T.int; rw [f7 l j]
theorem lO:∀ (l:List Int) (j:Nat) (hj:j < l.length),(l[j]::l.eraseIdx j).Perm l
 | [],_,h=>nomatch h
 | x::l,0,_=>List.Perm.refl _
 | x::l,j+1,h=>(List.Perm.swap x _ (l.eraseIdx j)).trans ((lO l j (a2u h)).cons x)
theorem x3 (l:List Int)(j:Nat)(hj:j < l.length)(h9:j < 1000)(n:Md):∃ x∈l,(∀ y∈l,y=x\/y∈l.eraseIdx j)/\(x::l.eraseIdx j).Perm l/\fH (.d,.lst (l.map T.int)) (n,.int (j:Int))=some ((.d,.int x),(.d,.lst ((l.eraseIdx j).map T.int))):=by
 refine ⟨l[j],a1Q hj,fun y hy=>?_,lO l j hj,?_⟩
 ·obtain ⟨k,hk,rfl⟩:=a1U.mp hy
  by_cases e:k=j
  ·exact .inl (by subst e; rfl)
  ·exact .inr (List.mem_eraseIdx_iff_getElem.mpr ⟨k,hk,e,rfl⟩)
 ·show (if (decide ((0:Int)<=(j:Int))&&decide ((j:Int) < 1000)&&leaves (l.map T.int))=true then ((l.map T.int)[(j:Int).toNat]?).map (fun t=>(((.d,t),(.d,.lst ((l.map T.int).eraseIdx (j:Int).toNat))):W×W)) else none)=_
  rw [decide_eq_true (by omega),decide_eq_true (by omega),lx,a1o,a0t,a0i hj,f7]
  rfl
theorem qT {P:T->Prop}(q:Int ⊕ Str)(t:T)(ht:P t):∀ (ks:List (Int ⊕ Str)) (vs:List T),vs.length=ks.length->(∀ v∈vs,P v)->(aC q t ks vs).2.length=(aC q t ks vs).1.length/\(aC q t ks vs).1.length<=ks.length+1/\(∀ v∈(aC q t ks vs).2,P v)/\(∀ z,z=q\/z∈ks->z∈(aC q t ks vs).1)
 | [],[],_,_=>⟨rfl,a0h _,(fun v hv=>by rw [a0E.mp hv]; exact ht),fun z hz=>hz.elim (fun e=>e ▸ a0E.mpr rfl) fun h=>nomatch h⟩
 | [],_::_,e,_=>by cases e
 | _::_,[],e,_=>by cases e
 | y::ys,v::vs,e,h=>by
  unfold aC
  split
  ·rename_i hy
   refine ⟨e,a2i _,fun u hu=>?_,fun z hz=>?_⟩
   ·rcases a0q.mp hu with rfl | hu
    ·exact ht
    ·exact h u (a0c _ hu)
   ·rcases hz with rfl | hz
    ·rw [hy]; exact a0d
    ·exact hz
  ·obtain ⟨a,b,c,d⟩:=qT q t ht ys vs (a1f e) fun u hu=>h u (a0c _ hu)
   refine ⟨by rw [a0f,a0f,a],by rw [a0f,a0f]; omega,fun u hu=>?_,fun z hz=>?_⟩
   ·rcases a0q.mp hu with rfl | hu
    ·exact h u a0d
    ·exact c u hu
   ·rcases hz with rfl | hz
    ·exact a0c _ (d z (.inl rfl))
    ·rcases a0q.mp hz with rfl | hz
     ·exact a0d
     ·exact a0c _ (d z (.inr hz))
theorem ly {P:T->Prop}(q:Int ⊕ Str):∀ (ks:List (Int ⊕ Str)) (vs:List T),vs.length=ks.length->(∀ v∈vs,P v)->q∈ks->∃ v,lookD q ks vs=some v/\P v
 | [],_,_,_,h=>nomatch h
 | _::_,[],e,_,_=>by cases e
 | y::ys,v::vs,e,h,hq=>by
  by_cases hy:y=q
  ·exact ⟨v,if_pos hy,h v a0d⟩
  ·rcases a0q.mp hq with rfl | hq
   ·exact absurd rfl hy
   ·obtain ⟨u,a,b⟩:=ly q ys vs (a1f e) (fun u hu=>h u (a0c _ hu)) hq
    exact ⟨u,(if_neg hy).trans a,b⟩
theorem iS (q z:Int ⊕ Str)(t:T):∀ (ks:List (Int ⊕ Str)) (vs:List T),vs.length=ks.length->lookD z (aC q t ks vs).1 (aC q t ks vs).2=if z=q then some t else lookD z ks vs
 | [],[],_=>by
  show (if q=z then some t else none)=_
  by_cases h:q=z
  ·rw [if_pos h,if_pos h.symm]
  ·rw [if_neg h,if_neg fun e=>h e.symm]; rfl
 | [],_::_,e=>by cases e
 | _::_,[],e=>by cases e
 | y::ys,v::vs,e=>by
  unfold aC
  split
  ·rename_i hy
   show (if y=z then some t else lookD z ys vs)=if z=q then some t else if y=z then some v else lookD z ys vs
   by_cases h:z=q
   ·rw [if_pos h,if_pos (hy.trans h.symm)]
   ·rw [if_neg h,if_neg fun e=>h (e.symm.trans hy),if_neg fun e=>h (e.symm.trans hy)]
  ·rename_i hy
   show (if y=z then some v else lookD z (aC q t ys vs).1 (aC q t ys vs).2)=if z=q then some t else if y=z then some v else lookD z ys vs
   rw [iS q z t ys vs (a1f e)]
   by_cases h:z=q
   ·rw [if_pos h,if_pos h,if_neg fun e=>hy (e.trans h)]
   ·rw [if_neg h,if_neg h]
noncomputable abbrev CD:E:=.op .eq false [.call 201 [.io 0,.var 5],.cst (.int 0)]
theorem zE (n:Nat)(o1 o2 o4 o6 o7 o8 o9:Option W)(m5:Md)(k:Int)(hk:0 < k)(hk2:k < 100):∀ (l:List Int) (N:Nat) (t:T),Tp N t->N+l.length < 1000000000000000000->∃ (ws:List W) (rs:List Int) (t':T),ws=rs.map (fun i=>((.s,.int i):W))/\(∀ i∈rs,i∈l)/\rs.length<=l.length/\Tp (N+l.length) t' /\
  ∀ acc,ay [10] (bE (evE (C (n+1)) CD) (evE (C (n+1)) (.var 10))) (l.map fun i=>[((.s,.int i):W)]) [some (.d,t),o1,o2,none,o4,some (m5,.int k),o6,o7,o8,o9,none] acc=.ok (acc++ws,[some (.d,t'),o1,o2,none,o4,some (m5,.int k),o6,o7,o8,o9,none])
 | [],N,t,ht,_=>⟨[],[],t,rfl,(fun _ h=>nomatch h),a0h _,ht,fun acc=>by rw [a0w]; rfl⟩
 | i::l,N,t,ht,hN=>by
  rw [a0f] at hN
  have hd:=fun m=>el (n:=n) (m:=m) k ht (by omega) hk (by omega)
  obtain ⟨r,t1,_,_,ht1,e1⟩:=hd (lkM m5)
  obtain ⟨ws,rs,t2,rfl,h2,h3,ht2,e2⟩:=zE n o1 o2 o4 o6 o7 o8 o9 m5 k hk hk2 l (N+1) t1 ht1 (by omega)
  have ht2':Tp (N+(i::l).length) t2:=tm ht2 (by rw [a0f]; omega)
  cases hr:r==0 with
  | true =>
   refine ⟨_,i::rs,t2,rfl,fun x hx=>?_,by rw [a0f,a0f]; omega,ht2',fun acc=>?_⟩
   ·rcases a0q.mp hx with rfl | hx
    ·exact a0d
    ·exact a0c _ (h2 x hx)
   ·have st:bE (evE (C (n+1)) CD) (evE (C (n+1)) (.var 10)) [some (.d,t),o1,o2,none,o4,some (m5,.int k),o6,o7,o8,o9,some (.s,.int i)]=.ok (some (.s,.int i),[some (.d,t1),o1,o2,none,o4,some (m5,.int k),o6,o7,o8,o9,some (.s,.int i)]):=by
     simp_all only [bE,e1,hr]
    rw [a0x]
    show (bE _ _ _).bind _=_
    rw [show put [some ((.d,t):W),o1,o2,none,o4,some (m5,.int k),o6,o7,o8,o9,none] 10 (.s,.int i)=[some (.d,t),o1,o2,none,o4,some (m5,.int k),o6,o7,o8,o9,some (.s,.int i)] from rfl,st]
    show ay [10] _ _ _ (acc++[((.s,.int i):W)])=_
    rw [show ae [10] [some ((.d,t1):W),o1,o2,none,o4,some (m5,.int k),o6,o7,o8,o9,some (.s,.int i)]=[some (.d,t1),o1,o2,none,o4,some (m5,.int k),o6,o7,o8,o9,none] from rfl,e2,a0J]
    rfl
  | false =>
   refine ⟨_,rs,t2,rfl,fun x hx=>a0c _ (h2 x hx),by rw [a0f]; omega,ht2',fun acc=>?_⟩
   have st:bE (evE (C (n+1)) CD) (evE (C (n+1)) (.var 10)) [some (.d,t),o1,o2,none,o4,some (m5,.int k),o6,o7,o8,o9,some (.s,.int i)]=.ok (none,[some (.d,t1),o1,o2,none,o4,some (m5,.int k),o6,o7,o8,o9,some (.s,.int i)]):=by
    simp_all only [bE,e1,hr]
   rw [a0x]
   show (bE _ _ _).bind _=_
   rw [show put [some ((.d,t):W),o1,o2,none,o4,some (m5,.int k),o6,o7,o8,o9,none] 10 (.s,.int i)=[some (.d,t),o1,o2,none,o4,some (m5,.int k),o6,o7,o8,o9,some (.s,.int i)] from rfl,st]
   show ay [10] _ _ _ (acc++[])=_
   rw [show ae [10] [some ((.d,t1):W),o1,o2,none,o4,some (m5,.int k),o6,o7,o8,o9,some (.s,.int i)]=[some (.d,t1),o1,o2,none,o4,some (m5,.int k),o6,o7,o8,o9,none] from rfl,e2,a0w]
noncomputable def gZ (n:Nat)(t:T):Prop:=∃ ns:List Int,t=.lst (ns.map T.int)/\(∀ x∈ns,0<=x/\x < (n:Int))/\ns.length<=12
noncomputable abbrev WB1:List S:=[
   .asg (.l []) 7 (.popN 2 (.call 201 [.io 0,.lenV 2])),
   .setS (.l [7]) 4 (.var 7) (.op .sorted false [.compV true 3 10 CD (.var 10)]),
   .app (.q [7] []) 3 (.var 7)]
theorem kN (rs:List Int):(rs.map fun i=>((.s,.int i):W)).all okD=true:=a0A.mpr fun w hw=>by
 obtain ⟨i,_,rfl⟩:=a0B.mp hw
 rfl
theorem vg (rs:List Int):aI (rs.map fun i=>((.s,.int i):W))=rs.map T.int:=aE (fun _=>Md.s) T.int rs
theorem tP (n L N:Nat)(t:T)(ht:Tp N t)(hN:N+50 < 1000000000000000000)(hn:n<=12)(l tu:List Int)(hl:1<=l.length)(hl2:l.length<=12)(hl3:∀ x∈l,0<=x/\x < (n:Int))(htu:tu.length<=12)(htu3:∀ x∈tu,0<=x/\x < (n:Int))(ks:List (Int ⊕ Str))(vs:List T)(hk:vs.length=ks.length)(hk2:ks.length<=12)(hv:∀ v∈vs,gZ n v)(m4:Md)(hm4:m4≠.s)(k:Int)(hk0:0 < k)(hk1:k < 100)(o1 o6 o7:Option W) :
  ∃ t' x j ks' vs',Tp (N+15) t'/\x∈l/\(∀ y∈l,y=x\/y∈l.eraseIdx j)/\(x::l.eraseIdx j).Perm l/\(∃ ns:List Int,(∀ y∈ns,y∈tu)/\∀ z,lookD z ks' vs'=if z=.inl x then some (.lst (ns.map T.int)) else lookD z ks vs)/\j < l.length/\vs'.length=ks'.length/\ks'.length<=ks.length+1/\(∀ v∈vs',gZ n v)/\(∀ z:Int ⊕ Str,z=.inl x\/z∈ks->z∈ks') /\
  ∃ o7',evSs (C (L+1)) WB1 [some (.d,t),o1,some (.d,.lst (l.map T.int)),some (.o .s,.lst (tu.map T.int)),some (m4,.dct ks vs),some (.d,.int k),o6,o7,none,none,none]=.nx [some (.d,t'),o1,some (.d,.lst ((l.eraseIdx j).map T.int)),some (.o .s,.lst ((tu++[x]).map T.int)),some (.o .s,.dct ks' vs'),some (.d,.int k),o6,o7',none,none,none]:=by
 obtain ⟨r,t1,r0,r1,ht1,e1⟩:=el (n:=L) .d ((l.length:Nat):Int) ht (by omega) (by omega) (by omega)
 obtain ⟨j,rfl⟩:∃ j:Nat,r=(j:Int):=⟨r.toNat,by omega⟩
 obtain ⟨x,hx,hy,hpm,ep⟩:=x3 l j (by omega) (by omega) .d
 have hlen:(((l.map T.int).length:Nat):Int)=((l.length:Nat):Int):=by rw [a0e]
 obtain ⟨ws,rs,t2,rfl,h2,h3,ht2,e2⟩:=zE L o1 (some (.d,.lst ((l.eraseIdx j).map T.int))) (some (m4,.dct ks vs)) o6 (some (.s,.int x)) none none .d k hk0 hk1 tu (N+1) t1 ht1 (by omega)
 have em:(tu.map T.int).map (fun u=>[((.s,u):W)])=tu.map fun i=>[((.s,.int i):W)]:=by rw [a03]; rfl
 have hvw:vwT (some (.o .s,.lst (tu.map T.int)))=some (tu.map T.int):=if_pos (lx tu)
 have ao:=kN rs
 have tr:=vg rs
 have im:=ij rs
 have rl:decide (rs.length < 64)=true:=decide_eq_true (by omega)
 have hLs:gZ n (.lst ((sortI rs).map T.int)):=⟨sortI rs,rfl,fun y hy=>htu3 y (h2 y (dt hy)),by rw [fG]; omega⟩
 obtain ⟨p1,p2,p3,p4⟩:=qT (P:=gZ n) (.inl x) (.lst ((sortI rs).map T.int)) hLs ks vs hk hv
 have lk:decide (ks.length < LIM)=true:=decide_eq_true (by show _ < 16777215; omega)
 have hst:∀ m m',c7 (m4,.dct ks vs) (m,.int x) (m',.lst ((sortI rs).map T.int))=some (.o .s,.dct (aC (.inl x) (.lst ((sortI rs).map T.int)) ks vs).1 (aC (.inl x) (.lst ((sortI rs).map T.int)) ks vs).2):=fun m m'=>by
  cases m4 with
  | s=>exact absurd rfl hm4
  | d=>show (if decide (ks.length < LIM)=true then _ else none)=_; rw [if_pos lk]
  | o _=>show (if decide (ks.length < LIM)=true then _ else none)=_; rw [if_pos lk]
 have lt:((tu.map T.int).length < LIM)=True:=eq_true (by rw [a0e]; show _ < 16777215; omega)
 have ap:tu.map T.int++[T.int x]=(tu++[x]).map T.int:=by rw [a0R]; rfl
 refine ⟨t2,x,j,_,_,tm ht2 (by omega),hx,hy,hpm,⟨sortI rs,fun y hy=>h2 y (dt hy),fun z=>iS _ z _ ks vs hk⟩,by omega,p1,p2,p3,p4,?_⟩
 generalize (aC (.inl x) (.lst ((sortI rs).map T.int)) ks vs).1=ks' at hst
 generalize (aC (.inl x) (.lst ((sortI rs).map T.int)) ks vs).2=vs' at hst
 have hA:evSs (C (L+1)) [.asg (.l []) 7 (.popN 2 (.call 201 [.io 0,.lenV 2]))] [some (.d,t),o1,some (.d,.lst (l.map T.int)),some (.o .s,.lst (tu.map T.int)),some (m4,.dct ks vs),some (.d,.int k),o6,o7,none,none,none]=.nx [some (.d,t1),o1,some (.d,.lst ((l.eraseIdx j).map T.int)),some (.o .s,.lst (tu.map T.int)),some (m4,.dct ks vs),some (.d,.int k),o6,some (.d,.int x),none,none,none]:=by
  generalize l.map T.int=lt at hlen ep
  simp_all only [hlen,e1,ep]
 have hB:evSs (C (L+1)) [.setS (.l [7]) 4 (.var 7) (.op .sorted false [.compV true 3 10 CD (.var 10)])] [some (.d,t1),o1,some (.d,.lst ((l.eraseIdx j).map T.int)),some (.o .s,.lst (tu.map T.int)),some (m4,.dct ks vs),some (.d,.int k),o6,some (.d,.int x),none,none,none]=.nx [some (.d,t2),o1,some (.d,.lst ((l.eraseIdx j).map T.int)),some (.o .s,.lst (tu.map T.int)),some (.o .s,.dct ks' vs'),some (.d,.int k),o6,some (.s,.int x),none,none,none]:=by
  simp_all only [hvw,em,e2,ao,tr,im,rl,hst]
 have hC:evSs (C (L+1)) [.app (.q [7] []) 3 (.var 7)] [some (.d,t2),o1,some (.d,.lst ((l.eraseIdx j).map T.int)),some (.o .s,.lst (tu.map T.int)),some (.o .s,.dct ks' vs'),some (.d,.int k),o6,some (.s,.int x),none,none,none]=.nx [some (.d,t2),o1,some (.d,.lst ((l.eraseIdx j).map T.int)),some (.o .s,.lst ((tu++[x]).map T.int)),some (.o .s,.dct ks' vs'),some (.d,.int k),o6,some (.s,.int x),none,none,none]:=by
  rw [<- ap]
  simp_all only [lt]
 refine ⟨some (.s,.int x),?_⟩
 show evSs (C (L+1)) ([.asg (.l []) 7 (.popN 2 (.call 201 [.io 0,.lenV 2]))]++([.setS (.l [7]) 4 (.var 7) (.op .sorted false [.compV true 3 10 CD (.var 10)])]++[.app (.q [7] []) 3 (.var 7)])) _=_
 rw [go1 hA,go1 hB,hC]
noncomputable def Rk (rk:Int->Nat)(ks:List (Int ⊕ Str))(vs:List T):Prop:=∀ (z:Int) (v:T),lookD (.inl z) ks vs=some v->rk z < 13/\∃ ns:List Int,v=.lst (ns.map T.int)/\∀ y∈ns,rk y < rk z
noncomputable def Kd (tu:List Int)(ks:List (Int ⊕ Str))(vs:List T):Prop:=∀ (z:Int) (v:T),lookD (.inl z) ks vs=some v->z∈tu/\∃ ns:List Int,v=.lst (ns.map T.int)/\∀ y∈ns,y∈tu/\tu.idxOf y < tu.idxOf z
theorem uX {tu:List Int}{ks ks':List (Int ⊕ Str)}{vs vs':List T}{x:Int}(h:Kd tu ks vs)(hx:x ∉ tu)(ns:List Int)(hn:∀ y∈ns,y∈tu)(e:∀ z,lookD z ks' vs'=if z=.inl x then some (.lst (ns.map T.int)) else lookD z ks vs):Kd (tu++[x]) ks' vs':=fun z v hz=>by
 rw [e] at hz
 by_cases hh:z=x
 ·subst hh
  rw [if_pos rfl] at hz
  refine ⟨a0m _ a0d,ns,(a0v hz).symm,fun y hy=>⟨a0L _ (hn y hy),?_⟩⟩
  rw [a1J,if_pos (hn y hy),a1J,if_neg hx]
  have:=a1Z (hn y hy)
  omega
 ·rw [if_neg fun e=>hh (a3P e)] at hz
  obtain ⟨a,ns',b,c⟩:=h z v hz
  refine ⟨a0L _ a,ns',b,fun y hy=>⟨a0L _ (c y hy).1,?_⟩⟩
  rw [a1J,if_pos (c y hy).1,a1J,if_pos a]
  exact (c y hy).2
theorem uN (n L N:Nat)(t:T)(ht:Tp N t)(hN:N+1000 < 1000000000000000000)(hn:n<=12)(k:Int)(hk0:0 < k)(hk1:k < 100)(o1:Option W)(l0:List Int)(hl0:l0.length=n)(hl1:∀ x∈l0,0<=x/\x < (n:Int))(hl2:∀ i:Nat,i < n->(i:Int)∈l0)(hnd:l0.Nodup) :
  ∃ t' w2 w3 m4 ks vs o6 o7,Tp (N+15 * n) t'/\(∃ rk,Rk rk ks vs)/\vs.length=ks.length/\ks.length<=12/\(∀ v∈vs,gZ n v)/\(∀ i:Nat,i < n->(.inl (i:Int):Int ⊕ Str)∈ks) /\
   bf [6] (evSs (C (L+1)) WB1) ((a0p n).map fun (i:Nat)=>[((.d,.int (i:Int)):W)]) [some (.d,t),o1,some (.d,.lst (l0.map T.int)),some (.o .s,.lst []),some (.d,.dct [] []),some (.d,.int k),none,none,none,none,none]=.nx [some (.d,t'),o1,w2,w3,some (m4,.dct ks vs),some (.d,.int k),o6,o7,none,none,none]:=by
 obtain ⟨η',lp,t',l,tu,m4,ks,vs,o6,o7,ht',hnd1,hkd,hm4,h1,h2,h3,h4,h5,h6,h7,h8,rfl⟩:=cD (tg:=[6]) (f:=evSs (C (L+1)) WB1) (g:=fun (i:Nat)=>[((.d,.int (i:Int)):W)])
  (fun pre η=>∃ (t':T) (l tu:List Int) (m4:Md) (ks:List (Int ⊕ Str)) (vs:List T) (o6 o7:Option W),Tp (N+15 * pre.length) t'/\(l++tu).Nodup/\Kd tu ks vs/\m4≠.s/\l.length+pre.length=n/\tu.length=pre.length/\vs.length=ks.length/\ks.length<=pre.length/\(∀ v∈vs,gZ n v)/\(∀ x∈l,0<=x/\x < (n:Int))/\(∀ x∈tu,0<=x/\x < (n:Int))/\(∀ i:Nat,i < n->(i:Int)∈l\/(.inl (i:Int):Int ⊕ Str)∈ks)/\η=[some (.d,t'),o1,some (.d,.lst (l.map T.int)),some (.o .s,.lst (tu.map T.int)),some (m4,.dct ks vs),some (.d,.int k),o6,o7,none,none,none])
  (a0p n) [] [some (.d,t),o1,some (.d,.lst (l0.map T.int)),some (.o .s,.lst []),some (.d,.dct [] []),some (.d,.int k),none,none,none,none,none]
  ⟨t,l0,[],.d,[],[],none,none,ht,by rw [a0w]; exact hnd,(fun _ _ h=>nomatch h),by simp,by simpa using hl0,rfl,rfl,a0h _,(fun _ h=>nomatch h),hl1,(fun _ h=>nomatch h),fun i hi=>.inl (hl2 i hi),rfl⟩
  (fun p i r η hp ⟨t',l,tu,m4,ks,vs,o6,o7,ht',hnd1,hkd,hm4,h1,h2,h3,h4,h5,h6,h7,h8,he⟩=>by
   subst he
   have hpl:=congrArg a2g hp
   simp only [a0V,a0K,a0g,a0f] at hpl
   obtain ⟨t2,x,j,ks',vs',ht2,hx,hy,hpm,⟨ns,hns,hlk⟩,hj,a1,a2,a3,a4,o7',e⟩:=tP n L _ t' ht' (by omega) hn l tu (by omega) (by omega) h6 (by omega) h7 ks vs h3 (by omega) h5 m4 hm4 k hk0 hk1 o1 (some (.d,.int (i:Int))) o7
   have hnd2:(x::(l.eraseIdx j++tu)).Nodup:=(a2S (List.Perm.append_right tu hpm)).mpr hnd1
   have hxt:x ∉ tu:=fun h=>(a0H.mp hnd2).1 (a0m _ h)
   have hnd3:(l.eraseIdx j++(tu++[x])).Nodup:=by
    rw [<- a0J]
    exact (a2S (List.perm_append_singleton _ _)).mpr hnd2
   refine ⟨_,_,rfl,e,t2,l.eraseIdx j,tu++[x],.o .s,ks',vs',_,o7',?_,hnd3,uX hkd hxt ns hns hlk,by simp,?_,?_,a1,?_,a3,?_,?_,?_,rfl⟩
   ·rw [a0g,a0r]; exact tm ht2 (by omega)
   ·rw [List.length_eraseIdx_of_lt hj,a0g,a0r]; omega
   ·rw [a0g,a0g,h2]; rfl
   ·rw [a0g,a0r]; omega
   ·exact fun y hy=>h6 y (List.mem_of_mem_eraseIdx hy)
   ·intro y hy
    rcases a0T.mp hy with z | z
    ·exact h7 y z
    ·rw [a0E.mp z]; exact h6 x hx
   ·intro i hi
    rcases h8 i hi with z | z
    ·rcases hy _ z with q | q
     ·exact .inr (a4 _ (.inl (by rw [q])))
     ·exact .inl q
    ·exact .inr (a4 _ (.inr z)))
 rw [a0V,a0K] at ht' h1 h2 h4
 have hl:l=[]:=a1R (by omega)
 subst hl
 exact ⟨t',_,_,m4,ks,vs,o6,o7,ht',⟨tu.idxOf,fun z v hz=>by
  obtain ⟨a,ns,b,c⟩:=hkd z v hz
  have:=a1Z a
  have:tu.idxOf z < 13:=by omega
  exact ⟨this,ns,b,fun y hy=>(c y hy).2⟩⟩,h3,by omega,h5,fun i hi=>(h8 i hi).elim (fun z=>nomatch z) id,lp⟩
noncomputable def StT (n:Nat)(t:T):Prop:=∃ (i j:Nat) (w:Int) (ns:List Int),t=.tup [.tup [.int (i:Int),.int (j:Int)],.tup [],.int w,.lst (ns.map T.int)]/\i<=100/\j<=100/\1<=w/\w<=60/\(∀ x∈ns,0<=x/\x < (n:Int))/\ns.length<=12
noncomputable abbrev WB2:List S:=[
   .asg (.l []) 9 (.op .ix false [.lst false [.cst (.int 1),.op .add false [.cst (.int 1),.call 201 [.io 0,.cst (.int 4)]],.op .add false [.cst (.int 1),.call 201 [.io 0,.cst (.int 9)]],.op .add false [.cst (.int 20),.call 201 [.io 0,.cst (.int 40)]]],.op .fdiv false [.op .mul false [.call 201 [.io 0,.cst (.int 8)],.cst (.int 4)],.cst (.int 8)]]),
   .app (.q [4,9] [6]) 8 (.tup [.tup [.op .fdiv false [.var 6,.cst (.int 3)],.op .mod false [.var 6,.cst (.int 3)]],.tup [],.var 9,.op .ixD false [.var 4,.var 6]])]
noncomputable def RkT (rk:Int->Nat)(i:Int)(u:T):Prop:=rk i < 13/\∃ (a b c:T) (ns:List Int),u=.tup [a,b,c,.lst (ns.map T.int)]/\∀ y∈ns,rk y < rk i
theorem uw (n L N:Nat)(t:T)(ht:Tp N t)(hN:N+50 < 1000000000000000000)(hn:n<=12)(i:Nat)(hi:i < n)(ks:List (Int ⊕ Str))(vs:List T)(hk:vs.length=ks.length)(hv:∀ v∈vs,gZ n v)(hin:(.inl (i:Int):Int ⊕ Str)∈ks)(m4:Md)(fs:List T)(hf:fs.length<=12)(o1 w2 w3 o5 o7 o9:Option W) :
  ∃ t' u o9',Tp (N+4) t'/\StT n u/\(∀ rk,Rk rk ks vs->RkT rk (i:Int) u)/\evSs (C (L+1)) WB2 [some (.d,t),o1,w2,w3,some (m4,.dct ks vs),o5,some (.d,.int (i:Int)),o7,some (.o .s,.lst fs),o9,none]=.nx [some (.d,t'),o1,w2,w3,some (.s,.dct ks vs),o5,some (.d,.int (i:Int)),o7,some (.o .s,.lst (fs++[u])),o9',none]:=by
 obtain ⟨r1,t1,a1,b1,ht1,e1⟩:=el (n:=L) .d 4 ht (by omega) (by decide) (by decide)
 obtain ⟨r2,t2,a2,b2,ht2,e2⟩:=el (n:=L) .d 9 ht1 (by omega) (by decide) (by decide)
 obtain ⟨r3,t3,a3,b3,ht3,e3⟩:=el (n:=L) .d 40 ht2 (by omega) (by decide) (by decide)
 obtain ⟨r4,t4,a4,b4,ht4,e4⟩:=el (n:=L) .d 8 ht3 (by omega) (by decide) (by decide)
 have hw:∃ w:Int,1<=w/\w<=60/\atI [T.int 1,T.int (1+r1),T.int (1+r2),T.int (20+r3)] (r4 * 4 / 8)=some (.int w):=by
  have h:r4 * 4 / 8=0\/r4 * 4 / 8=1\/r4 * 4 / 8=2\/r4 * 4 / 8=3:=by omega
  rcases h with h | h | h | h<;>rw [h]
  ·exact ⟨1,by omega,by omega,rfl⟩
  ·exact ⟨1+r1,by omega,by omega,rfl⟩
  ·exact ⟨1+r2,by omega,by omega,rfl⟩
  ·exact ⟨20+r3,by omega,by omega,rfl⟩
 obtain ⟨w,w1,w60,aw⟩:=hw
 obtain ⟨v,lv,ns,rfl,hns,hnl⟩:=ly (P:=gZ n) (.inl (i:Int)) ks vs hk hv hin
 have p1:decide ((0:Int) < 8)=true:=rfl
 have p2:decide ((8:Int) < 1073741824)=true:=rfl
 have p3:decide ((0:Int) < 3)=true:=rfl
 have p4:decide ((3:Int) < 1073741824)=true:=rfl
 have p5:decide ((4:Int).natAbs < 18446744073709551616)=true:=rfl
 have kT:keyT (.int (i:Int))=some (.inl (i:Int)):=rfl
 have q1:(i:Int) / 3=((i / 3:Nat):Int):=by omega
 have q2:(i:Int) % 3=((i % 3:Nat):Int):=by omega
 have fl:(fs.length < LIM)=True:=eq_true (by show _ < 16777215; omega)
 have hA:evSs (C (L+1)) (WB2.take 1) [some (.d,t),o1,w2,w3,some (m4,.dct ks vs),o5,some (.d,.int (i:Int)),o7,some (.o .s,.lst fs),o9,none]=.nx [some (.d,t4),o1,w2,w3,some (m4,.dct ks vs),o5,some (.d,.int (i:Int)),o7,some (.o .s,.lst fs),some (.s,.int w),none]:=by
  simp_all only [a1i,a1r,e1,e2,e3,e4,p1,p2,p5,a3a,aw]
 have hB:∃ o9',evSs (C (L+1)) (WB2.drop 1) [some (.d,t4),o1,w2,w3,some (m4,.dct ks vs),o5,some (.d,.int (i:Int)),o7,some (.o .s,.lst fs),some (.s,.int w),none]=.nx [some (.d,t4),o1,w2,w3,some (.s,.dct ks vs),o5,some (.d,.int (i:Int)),o7,some (.o .s,.lst (fs++[.tup [.tup [.int ((i / 3:Nat):Int),.int ((i % 3:Nat):Int)],.tup [],.int w,.lst (ns.map T.int)]])),o9',none]:=by
  exact ⟨_,by simp_all only [a1w,a1l,p3,p4,q1,q2,kT,lv,fl]; rfl⟩
 obtain ⟨o9',hB⟩:=hB
 refine ⟨t4,_,o9',tm ht4 (by omega),⟨i / 3,i % 3,w,ns,rfl,by omega,by omega,w1,w60,hns,hnl⟩,fun rk hr=>?_,?_⟩
 ·obtain ⟨a,ns',b,c⟩:=hr _ _ lv
  have b:T.lst (ns.map T.int)=T.lst (ns'.map T.int):=b
  exact ⟨a,_,_,_,ns',by rw [b],c⟩
 show evSs (C (L+1)) (WB2.take 1++WB2.drop 1) _=_
 rw [go1 hA,hB]
theorem sY (n L N:Nat)(t:T)(ht:Tp N t)(hN:N+1000 < 1000000000000000000)(hn:n<=12)(ks:List (Int ⊕ Str))(vs:List T)(hk:vs.length=ks.length)(hv:∀ v∈vs,gZ n v)(hin:∀ i:Nat,i < n->(.inl (i:Int):Int ⊕ Str)∈ks)(m4:Md)(o1 w2 w3 o5 o6 o7:Option W) :
  ∃ t' fs m4' o6' o9,Tp (N+4 * n) t'/\fs.length=n/\(∀ u∈fs,StT n u)/\(∀ rk,Rk rk ks vs->∀ k:Nat,k < fs.length->RkT rk (k:Int) (fs.getD k .non))/\bf [6] (evSs (C (L+1)) WB2) ((a0p n).map fun (i:Nat)=>[((.d,.int (i:Int)):W)]) [some (.d,t),o1,w2,w3,some (m4,.dct ks vs),o5,o6,o7,some (.o .s,.lst []),none,none]=.nx [some (.d,t'),o1,w2,w3,some (m4',.dct ks vs),o5,o6',o7,some (.o .s,.lst fs),o9,none]:=by
 obtain ⟨η',lp,t',fs,m4',o6',o9,ht',h1,h2,hk2,rfl⟩:=cD (tg:=[6]) (f:=evSs (C (L+1)) WB2) (g:=fun (i:Nat)=>[((.d,.int (i:Int)):W)])
  (fun pre η=>∃ (t':T) (fs:List T) (m4':Md) (o6' o9:Option W),Tp (N+4 * pre.length) t'/\fs.length=pre.length/\(∀ u∈fs,StT n u)/\(∀ rk,Rk rk ks vs->∀ k:Nat,k < fs.length->RkT rk (k:Int) (fs.getD k .non))/\η=[some (.d,t'),o1,w2,w3,some (m4',.dct ks vs),o5,o6',o7,some (.o .s,.lst fs),o9,none])
  (a0p n) [] [some (.d,t),o1,w2,w3,some (m4,.dct ks vs),o5,o6,o7,some (.o .s,.lst []),none,none]
  ⟨t,[],m4,o6,none,ht,rfl,(fun _ h=>nomatch h),(fun _ _ _ h=>nomatch h),rfl⟩
  (fun p i r η hp ⟨t',fs,m4',o6',o9,ht',h1,h2,hk2,he⟩=>by
   subst he
   have hpl:=congrArg a2g hp
   simp only [a0V,a0K,a0g,a0f] at hpl
   have hi:i < n:=by
    have:i∈a0p n:=by rw [a0V] at hp; rw [hp]; exact a0m _ a0d
    exact a01.mp this
   obtain ⟨t2,u,o9',ht2,hu,hur,e⟩:=uw n L _ t' ht' (by omega) hn i hi ks vs hk hv (hin i hi) m4' fs (by omega) o1 w2 w3 o5 o7 o9
   have hip:i=p.length:=by
    rw [a0V] at hp
    have q1:(a0p n)[p.length]?=some i:=by rw [hp,a0G (a0h _),a12]; rfl
    rw [a1a (by omega)] at q1
    exact (a0v q1).symm
   refine ⟨_,_,rfl,e,t2,fs++[u],.s,_,o9',?_,?_,?_,?_,rfl⟩
   ·rw [a0g,a0r]; exact tm ht2 (by omega)
   ·rw [a0g,a0g,h1]; rfl
   ·intro y hy
    rcases a0T.mp hy with z | z
    ·exact h2 y z
    ·rw [a0E.mp z]; exact hu
   ·intro rk hr k hk
    rw [a0g,a0r] at hk
    by_cases hk3:k < fs.length
    ·have:=hk2 rk hr k hk3
     rw [a0b] at this ⊢
     rw [a0U hk3]
     exact this
    ·have e3:k=fs.length:=by omega
     rw [e3,a0b,a0G (a0h _),a12,h1,<- hip]
     exact hur rk hr)
 rw [a0V,a0K] at ht' h1
 exact ⟨t',fs,m4',o6',o9,ht',h1,h2,hk2,lp⟩
theorem yu (r:Int)(h0:0<=r)(h1:r < 12):∃ n:Nat,n<=12/\atI [T.int 0,.int 1,.int 2,.int 3,.int 4,.int 5,.int 6,.int 7,.int 8,.int 9,.int 10,.int 12] r=some (.int (n:Int)):=by
 have h:r=0\/r=1\/r=2\/r=3\/r=4\/r=5\/r=6\/r=7\/r=8\/r=9\/r=10\/r=11:=by omega
 rcases h with rfl | rfl | rfl | rfl | rfl | rfl | rfl | rfl | rfl | rfl | rfl | rfl
 ·exact ⟨0,by decide,rfl⟩
 ·exact ⟨1,by decide,rfl⟩
 ·exact ⟨2,by decide,rfl⟩
 ·exact ⟨3,by decide,rfl⟩
 ·exact ⟨4,by decide,rfl⟩
 ·exact ⟨5,by decide,rfl⟩
 ·exact ⟨6,by decide,rfl⟩
 ·exact ⟨7,by decide,rfl⟩
 ·exact ⟨8,by decide,rfl⟩
 ·exact ⟨9,by decide,rfl⟩
 ·exact ⟨10,by decide,rfl⟩
 ·exact ⟨12,by decide,rfl⟩
theorem qB {L N:Nat}{t:T}(ht:Tp N t)(hN:N+3000 < 1000000000000000000):∃ md fs t',Tp (N+300) t'/\fs.length<=12/\(∀ u∈fs,StT fs.length u)/\(∃ rk:Int->Nat,∀ k:Nat,k < fs.length->RkT rk (k:Int) (fs.getD k .non))/\C (L+2) 278 [(.d,t)]=.ok ((md,.lst fs),[(.d,t')]):=by
 obtain ⟨r,t1,r0,r1,ht1,e1⟩:=el (n:=L) .d 12 ht (by omega) (by decide) (by decide)
 obtain ⟨n,hn,an⟩:=yu r r0 r1
 obtain ⟨r2,t2,r20,r21,ht2,e2⟩:=el (n:=L) .d 4 ht1 (by omega) (by decide) (by decide)
 have z1:(decide ((0:Int).natAbs < 4611686018427387904)&&decide ((n:Int).natAbs < 4611686018427387904)&&fits ((n:Int)-0).toNat)=true:=by
  rw [decide_eq_true (by omega),decide_eq_true (by omega)]
  exact decide_eq_true (by show _<=16777215; omega)
 have z2:((n:Int)-0).toNat=n:=by omega
 have z3:(a0p n).map (fun (k:Nat)=>T.int (0+(k:Int)))=((a0p n).map fun (k:Nat)=>(k:Int)).map T.int:=by
  rw [a03]
  refine a1j fun k _=>?_
  show T.int (0+(k:Int))=T.int (k:Int)
  rw [Int.zero_add]
 obtain ⟨t3,w2,w3,m4,ks,vs,o6,o7,ht3,⟨rk,hrk⟩,h1,h2,h3,h4,lp1⟩:=uN n L _ t2 ht2 (by omega) hn (2+r2) (by omega) (by omega) (some (.s,.int (n:Int))) ((a0p n).map fun (k:Nat)=>(k:Int)) (by rw [a0e,a0K]) (fun x hx=>by
  obtain ⟨k,hk,rfl⟩:=a0B.mp hx
  have:=a01.mp hk
  omega) (fun i hi=>a0B.mpr ⟨i,a01.mpr hi,rfl⟩) (a24.mpr (a3R (fun h e=>h (Int.ofNat.inj e)) a3i))
 obtain ⟨t4,fs,m4',o6',o9,ht4,f1,f2,f3,lp2⟩:=sY n L _ t3 ht3 (by omega) hn ks vs h1 h3 h4 m4 (some (.s,.int (n:Int))) w2 w3 (some (.d,.int (2+r2))) o6 o7
 have n1:(decide ((n:Int).natAbs < 4611686018427387904)&&fits n)=true:=by
  rw [decide_eq_true (by omega)]
  exact decide_eq_true (by show _<=16777215; omega)
 have n2:(n:Int).toNat=n:=by omega
 have hrg:oSem .rng false [(.d,.int 0),(.d,.int (n:Int))]=some (.d,.lst (((a0p n).map fun (k:Nat)=>(k:Int)).map T.int)):=by rw [zS,if_pos z1,z2,z3]
 have hA:evSs (C (L+1)) (Bk f_law_waits 0 5) [some (.d,t),none,none,none,none,none,none,none,none,none,none]=.nx [some (.d,t2),some (.s,.int (n:Int)),some (.d,.lst (((a0p n).map fun (k:Nat)=>(k:Int)).map T.int)),some (.o .s,.lst []),some (.d,.dct [] []),some (.d,.int (2+r2)),none,none,none,none,none]:=by
  simp_all only [Bk,f_law_waits,a1l,a1i,a1r,e1,an,hrg,e2]
 have hB:evSs (C (L+1)) (Bk f_law_waits 5 1) [some (.d,t2),some (.s,.int (n:Int)),some (.d,.lst (((a0p n).map fun (k:Nat)=>(k:Int)).map T.int)),some (.o .s,.lst []),some (.d,.dct [] []),some (.d,.int (2+r2)),none,none,none,none,none]=.nx [some (.d,t3),some (.s,.int (n:Int)),w2,w3,some (m4,.dct ks vs),some (.d,.int (2+r2)),o6,o7,none,none,none]:=by
  simp_all only [Bk,f_law_waits,a1w,a1l,a1i,a1r,n1,n2,lp1]
 have hC:∃ md η,evSs (C (L+1)) (f_law_waits.body.drop 6) [some (.d,t3),some (.s,.int (n:Int)),w2,w3,some (m4,.dct ks vs),some (.d,.int (2+r2)),o6,o7,none,none,none]=.rt (md,.lst fs) (some (.d,t4)::η):=⟨_,_,by simp_all only [f_law_waits,a1w,a1l,n1,n2,lp2]; rfl⟩
 obtain ⟨md,η,hC⟩:=hC
 refine ⟨md,fs,t4,tm ht4 (by omega),by omega,by rw [f1]; exact f2,⟨rk,f3 rk hrk⟩,?_⟩
 rw [g8,x_run _ _ _ rfl,show f_law_waits.body=Bk f_law_waits 0 5++(Bk f_law_waits 5 1++f_law_waits.body.drop 6) from rfl]
 show Fl.out [0] (evSs (C (L+1)) (Bk f_law_waits 0 5++(Bk f_law_waits 5 1++f_law_waits.body.drop 6)) [some (.d,t),none,none,none,none,none,none,none,none,none,none])=_
 rw [go1 hA,go1 hB,hC]
 rfl
theorem oq {L N:Nat}{t:T}(ht:Tp N t)(hN:N+10 < 1000000000000000000):∃ md h t',Tp (N+3) t'/\1<=h/\h<=20/\C (L+2) 279 [(.d,t)]=.ok ((md,.int h),[(.d,t')]):=by
 obtain ⟨r1,t1,a1,b1,ht1,e1⟩:=el (n:=L) .d 4 ht (by omega) (by decide) (by decide)
 obtain ⟨r2,t2,a2,b2,ht2,e2⟩:=el (n:=L) .d 20 ht1 (by omega) (by decide) (by decide)
 obtain ⟨r3,t3,a3,b3,ht3,e3⟩:=el (n:=L) .d 4 ht2 (by omega) (by decide) (by decide)
 have hw:∃ w:Int,1<=w/\w<=20/\atI [T.int 1,T.int 20,T.int (1+r1),T.int (1+r2)] r3=some (.int w):=by
  have h:r3=0\/r3=1\/r3=2\/r3=3:=by omega
  rcases h with rfl | rfl | rfl | rfl
  ·exact ⟨1,by omega,by omega,rfl⟩
  ·exact ⟨20,by omega,by omega,rfl⟩
  ·exact ⟨1+r1,by omega,by omega,rfl⟩
  ·exact ⟨1+r2,by omega,by omega,rfl⟩
 obtain ⟨w,w1,w2,aw⟩:=hw
 exact ⟨_,w,t3,tm ht3 (by omega),w1,w2,by rw [gU,x_run _ _ _ rfl]; simp_all only [br,e1,e2,e3,aw]; rfl⟩
noncomputable def wOf:T->Int
 | .tup [_,_,.int w,_]=>w
 | _=>0
noncomputable def ahT:T->List T
 | .tup [_,_,_,.lst ts]=>ts
 | _=>[]
structure Sts (L:List T):Prop where
 len:L.length<=12
 st:∀ u∈L,StT L.length u
 rk:∃ rk:Int->Nat,∀ k:Nat,k < L.length->RkT rk (k:Int) (L.getD k .non)
theorem zC {i j:T}{w:Int}{ns:List Int}:atI [i,j,T.int w,.lst (ns.map T.int)] 2=some (T.int w):=at2 _ _ _ _
theorem vi (F:Call)(s:Nat)(L:List T){n:Nat}(h:∀ u∈L,StT n u)(η:Env)(hη:∀ t,rd (put η s (.s,t)) s=some (.s,t))(hd:∀ t,ae [s] (put η s (.s,t))=η) :
  ay [s] (cu (evE F (.op .ix false [.var s,.cst (.int 2)]))) (L.map fun t=>[((.s,t):W)]) η []=.ok ([]++L.map (fun u=>((.s,.int (wOf u)):W)),η):=bP (fun u=>((.s,.int (wOf u)):W)) L [] fun u hu=>⟨_,put η s (.s,u),rfl,by
  obtain ⟨i,j,w,ns,rfl,_⟩:=h u hu
  show (evE F (.op .ix false [.var s,.cst (.int 2)]) (put η s (.s,_))).bind cj=_
  have e:evE F (.op .ix false [.var s,.cst (.int 2)]) (put η s (.s,.tup [.tup [.int (i:Int),.int (j:Int)],.tup [],.int w,.lst (ns.map T.int)]))=.ok ((.s,.int w),put η s (.s,.tup [.tup [.int (i:Int),.int (j:Int)],.tup [],.int w,.lst (ns.map T.int)])):=by
   have hh:=hη (.tup [.tup [.int (i:Int),.int (j:Int)],.tup [],.int w,.lst (ns.map T.int)])
   generalize put η s (.s,.tup [.tup [.int (i:Int),.int (j:Int)],.tup [],.int w,.lst (ns.map T.int)])=η1 at hh
   simp_all only [hh,zC]
  rw [e]; rfl,hd _⟩
theorem kA (L:List T):aI (L.map fun u=>((.s,.int (wOf u)):W))=L.map fun u=>T.int (wOf u):=aE (fun _=>Md.s) (fun u=>T.int (wOf u)) L
theorem wK {L:List T}{i:Nat}(h:i < L.length):atI L (i:Int)=some (L.getD i .non):=atN rfl (by rw [a0b,a0i h]; rfl)
theorem kP {L:List T}{i:Nat}(h:i < L.length):L.getD i .non∈L:=by
 rw [a0b,a0i h]
 exact a1Q _
theorem uI {i j k l:T}:atI [i,j,k,l] 3=some l:=at3 _ _ _ _ _
theorem dh {c:Env->Res (Bool×Env)}{f:Env->Fl}(I:Nat->Env->Prop)(P:Env->Prop):∀ (N m:Nat) (η:Env),m < N->I m η->(∀ m η,I m η->(∃ η',c η=.ok (false,η')/\P η')\/∃ η1 η2 m',c η=.ok (true,η1)/\f η1=.nx η2/\m' < m/\I m' η2) ->
  ∃ η',fF c f N η=.nx η'/\P η'
 | 0,_,_,h,_,_=>by omega
 | N+1,m,η,h,hi,k=>by
  rcases k m η hi with ⟨η',h1,h2⟩ | ⟨η1,η2,m',h1,h2,h3,h4⟩
  ·refine ⟨η',?_,h2⟩
   show Fl.of η (c η) _=_
   rw [h1]; rfl
  ·obtain ⟨η',e,p⟩:=dh I P N m' η2 (by omega) h4 k
   refine ⟨η',?_,p⟩
   show Fl.of η (c η) _=_
   rw [h1]
   show Fl.turn (f η1) _=_
   rw [h2]; exact e
theorem dH {n:Nat}:∀ {ts:List T},(∀ u∈ts,dp u<=n)->dps ts<=n
 | [],_=>a0F _
 | t::ts,h=>by
  have h1:=h t a0d
  have h2:=dH fun u hu=>h u (a0c _ hu)
  show max (dp t) (dps ts)<=n
  omega
theorem pj (ns:List Int):dps (ns.map T.int)<=0:=dH fun u hu=>by
 obtain ⟨i,_,rfl⟩:=a0B.mp hu
 exact a0h _
theorem AH {n:Nat}{u:T}(h:StT n u):dp u<=3:=by
 obtain ⟨i,j,w,ns,rfl,_⟩:=h
 show max (max 0 (max 0 0)+1) (max (0+1) (max 0 (max (dps (ns.map T.int)+1) 0)))+1<=3
 have:=pj ns
 omega
theorem CN {L:List T}(h:Sts L):dp (.lst L)<=4:=by
 have:=dH fun u hu=>AH (h.st u hu)
 show dps L+1<=4
 omega
theorem yY {n:Nat}{u:T}(hn:n<=12)(h:StT n u):rOk u=true:=by
 obtain ⟨i,j,w,ns,rfl,hi,hj,w1,w2,hns,_⟩:=h
 have a:rOks (ns.map T.int)=true:=rOks_all.mpr fun t ht=>by
  obtain ⟨x,hx,rfl⟩:=a0B.mp ht
  have:=hns x hx
  exact decide_eq_true (by omega)
 show ((decide ((i:Int).natAbs < 10000000000000000000)&&(decide ((j:Int).natAbs < 10000000000000000000)&&true))&&(true&&(decide (w.natAbs < 10000000000000000000)&&(rOks (ns.map T.int)&&true))))=true
 rw [a,decide_eq_true (by omega),decide_eq_true (by omega),decide_eq_true (by omega)]
 rfl
theorem lq:∀ ns:List Int,szRs (ns.map T.int)=102 * ns.length
 | []=>rfl
 | i::ns=>by
  show 100+2+szRs (ns.map T.int)=_
  rw [lq ns,a0f]
  omega
theorem Bu {n:Nat}{u:T}(h:StT n u):szR u<=2000:=by
 obtain ⟨i,j,w,ns,rfl,hi,hj,w1,w2,hns,hl⟩:=h
 show ((100+2+(100+2+0)+4)+2+((0+4)+2+(100+2+((szRs (ns.map T.int)+4)+2+0))))+4<=2000
 rw [lq]
 omega
theorem CB:∀ {L:List T},(∀ u∈L,szR u<=2000)->szRs L<=2002 * L.length
 | [],_=>a0F _
 | u::L,h=>by
  have h1:=h u a0d
  have h2:=CB fun v hv=>h v (a0c _ hv)
  show szR u+2+szRs L<=_
  rw [a0f]
  omega
theorem bss (x:Str):(!(x==x))=false:=by rw [beq_self_eq_true]; rfl
theorem ug (ns:List Int)(m:Md):C 39 179 [(m,.scr ns)]=.ok ((.d,jQ (cut ns none (some 63)) 0 0),[]):=by
 rw [ja,x_run _ _ _ rfl]
 have lv:∀ l:List Int,leaves (l.map T.int)=true:=fun ns=>a0A.mpr fun t ht=>by obtain ⟨i,_,rfl⟩:=a0B.mp ht; rfl
 simp_all only [bD,lv]
 rfl
theorem fk:∀ (n:Nat) (l:List Nat),l.Nodup->(∀ x∈l,x < n)->l.length<=n
 | 0,l,_,h=>by
  cases l with
  | nil=>exact a0h _
  | cons a l=>exact absurd (h a a0d) (a1E _)
 | n+1,l,nd,h=>by
  have:=fk n (l.erase n) (nd.erase n) fun x hx=>by
   have h1:=h x (List.mem_of_mem_erase hx)
   have h2:x≠n:=fun e=>by subst e; exact (nd.not_mem_erase) hx
   omega
  have h3:l.length<=(l.erase n).length+1:=by rw [List.length_erase]; split<;>omega
  omega
noncomputable abbrev nI (i:Nat):T:=.int (i:Int)
noncomputable def zv:T->Nat
 | .int i=>i.toNat
 | _=>0
noncomputable def PL (L:List T)(k:Nat):List Nat:=(ahT (L.getD k .non)).map zv
theorem fY:∀ ns:List Int,(∀ x∈ns,0<=x)->((ns.map T.int).map zv).map nI=ns.map T.int
 | [],_=>rfl
 | x::ns,h=>by
  show nI x.toNat::((ns.map T.int).map zv).map nI=_
  rw [fY ns fun y hy=>h y (a0c _ hy),nI,a1v (h x a0d)]; rfl
theorem sr {L:List T}(hL:Sts L){k:Nat}(hk:k < L.length):∃ a b w,L.getD k .non=.tup [a,b,.int w,.lst ((PL L k).map nI)]/\(∀ p∈PL L k,p < L.length)/\(PL L k).length<=12:=by
 obtain ⟨i,j,w,ns,e,_,_,_,_,h1,h2⟩:=hL.st _ (kP hk)
 have e2:ahT (L.getD k .non)=ns.map T.int:=by rw [e]; rfl
 refine ⟨_,_,w,by rw [PL,e2,fY ns fun x hx=>(h1 x hx).1]; exact e,fun p hp=>?_,by rw [PL,e2,a0e,a0e]; exact h2⟩
 rw [PL,e2] at hp
 obtain ⟨t,ht,rfl⟩:=a0B.mp hp
 obtain ⟨x,hx,rfl⟩:=a0B.mp ht
 have:=h1 x hx
 show x.toNat < _
 omega
theorem fK:∀ (L:List T) (k:Nat),cw .s k L=(a0p L.length).map fun i=>[((.d,nI (k+i)):W),(.s,L.getD i .non)]
 | [],k=>rfl
 | t::L,k=>by
  show [((.d,nI k):W),(.s,t)]::cw .s (k+1) L=_
  rw [fK L (k+1),a0f,List.range_succ_eq_map,a0x,a03]
  congr 1
  apply a1j
  intro i _
  show [((.d,nI (k+1+i)):W),(.s,L.getD i .non)]=[((.d,nI (k+(i+1))):W),(.s,(t::L).getD (i+1) .non)]
  rw [show k+1+i=k+(i+1) by omega]; rfl
theorem oD (L:List T):cw .s 0 L=(a0p L.length).map fun i=>[((.d,nI i):W),(.s,L.getD i .non)]:=by
 rw [fK L 0]
 simp
theorem bR (ps:List Nat):(ps.map nI).map (fun t=>[((.s,t):W)])=ps.map fun i=>[((.s,nI i):W)]:=by rw [a03]; rfl
noncomputable def dg (m:Nat)(S:List (List Nat))(k:Nat):List (List Nat):=S.set k (S.getD k []++[m])
noncomputable def mK (P:Nat->List Nat)(S:List (List Nat))(m:Nat):List (List Nat):=(P m).foldl (dg m) S
noncomputable def ax (P:Nat->List Nat)(n r:Nat):List (List Nat):=(a0p r).foldl (mK P) (a0l n [])
theorem bX (m:Nat)(S:List (List Nat))(k:Nat):(dg m S k).length=S.length:=by rw [dg,a0D]
theorem gk (m:Nat):∀ (ps:List Nat) (S:List (List Nat)),(ps.foldl (dg m) S).length=S.length
 | [],S=>rfl
 | k::ps,S=>by rw [a1X,gk m ps,bX]
theorem eN (m:Nat)(S:List (List Nat))(k j:Nat)(hj:j < S.length):(dg m S k).getD j []=if k=j then S.getD j []++[m] else S.getD j []:=by
 rw [dg,a0b,a25]
 by_cases h:k=j
 ·subst h; rw [if_pos rfl,if_pos hj,if_pos rfl]; rfl
 ·rw [if_neg h,if_neg h,a0b]
theorem dQ (m:Nat):∀ (ps:List Nat) (S:List (List Nat)) (j x:Nat),j < S.length->((ps.foldl (dg m) S).getD j []).count x=(S.getD j []).count x+(if x=m then ps.count j else 0)
 | [],S,j,x,_=>by simp
 | k::ps,S,j,x,hj=>by
  rw [a1X,dQ m ps _ j x (by rw [bX]; exact hj),eN m S k j hj,a1F]
  by_cases h:k=j
  ·subst h
   rw [if_pos rfl,a2f]
   by_cases hx:x=m
   ·subst hx; simp; omega
   ·have z:[m].count x=0:=List.count_eq_zero_of_not_mem (by simpa using hx)
    rw [if_neg hx,if_neg hx,z]
  ·rw [if_neg h]
   by_cases hx:x=m
   ·rw [if_pos hx,if_pos hx,if_neg (by simpa using h)]; omega
   ·rw [if_neg hx,if_neg hx]
theorem eO (m:Nat):∀ (ps:List Nat) (S:List (List Nat)) (j:Nat),j < S.length->((ps.foldl (dg m) S).getD j []).length<=(S.getD j []).length+ps.length
 | [],S,j,_=>by simp
 | k::ps,S,j,hj=>by
  have:=eO m ps (dg m S k) j (by rw [bX]; exact hj)
  rw [eN m S k j hj] at this
  rw [a1X,a0f]
  split at this
  ·rw [a0g,a0r] at this; omega
  ·omega
theorem b6 (P:Nat->List Nat)(n r:Nat):ax P n (r+1)=mK P (ax P n r) r:=by rw [ax,List.range_succ,List.foldl_append]; rfl
theorem bb (P:Nat->List Nat)(n:Nat):∀ r,(ax P n r).length=n
 | 0=>by rw [ax,a2G,a2Q,a0N]
 | r+1=>by rw [b6,mK,gk,bb]
theorem cz (P:Nat->List Nat)(n:Nat):∀ (r j x:Nat),j < n->((ax P n r).getD j []).count x=if x < r then (P x).count j else 0
 | 0,j,x,hj=>by rw [ax,a2G,a2Q,a0b,a07,if_pos hj]; simp
 | r+1,j,x,hj=>by
  rw [b6,mK,dQ _ _ _ _ _ (by rw [bb]; exact hj),cz P n r j x hj]
  by_cases h:x=r
  ·subst h; simp
  ·rw [if_neg h]
   by_cases h2:x < r
   ·rw [if_pos h2,if_pos (by omega)]; rfl
   ·rw [if_neg h2,if_neg (by omega)]
theorem eW (P:Nat->List Nat)(n:Nat)(hP:∀ k,k < n->(P k).length<=12):∀ (r j:Nat),r<=n->j < n->((ax P n r).getD j []).length<=12 * r
 | 0,j,_,hj=>by rw [ax,a2G,a2Q,a0b,a07,if_pos hj]; simp
 | r+1,j,hr,hj=>by
  have h1:=eO r (P r) (ax P n r) j (by rw [bb]; exact hj)
  have h2:=eW P n hP r j (by omega) hj
  have h3:=hP r (by omega)
  rw [b6,mK]
  omega
noncomputable def mS (S:List (List Nat)):List T:=S.map fun l=>.lst (l.map nI)
theorem zX {S:List (List Nat)}{k m:Nat}(hk:k < S.length)(hn:S.length < 1000)(hl:(S.getD k []).length < 1000)(m1 m2:Md):gm (some (.d,.lst (mS S))) (some (m1,nI k)) (some (m2,nI m))=some (.d,.lst (mS (dg m S k))):=by
 have h1:ixN (mS S).length (k:Int)=some k:=by
  have:k < (mS S).length:=by rw [mS,a0e]; exact hk
  unfold ixN
  rw [if_pos (by omega),if_pos (by omega)]
  simp
 rw [qg,h1]
 have h2:(mS S)[k]?=some (.lst ((S.getD k []).map nI)):=by
  rw [mS,a0t,a0b,a0i hk]; rfl
 show apU (mS S) k (nI m) (mS S)[k]?=_
 rw [h2]
 show (if (decide (((S.getD k []).map nI).length < LIM)&&true)=true then some ((.d,.lst ((mS S).set k (.lst ((S.getD k []).map nI++[nI m])))):W) else none)=_
 rw [if_pos (by rw [a0e,a3D]; exact decide_eq_true (by show _ < 16777215; omega))]
 congr 3
 rw [mS,mS,dg,a3N]
 simp
theorem vy (n:Nat)(w0 w3 o5:Option W)(m2:Md)(m:Nat):∀ (ps:List Nat) (S:List (List Nat)) (o4:Option W),(∀ k∈ps,k < S.length)->S.length < 100->(∀ j,j < S.length->(S.getD j []).length+ps.length < 500) ->
  ∃ o4',bf [4] (evSs (C n) [.apN 1 4 2]) (ps.map fun i=>[((.s,nI i):W)]) [w0,some (.d,.lst (mS S)),some (m2,nI m),w3,o4,o5]=.nx [w0,some (.d,.lst (mS (ps.foldl (dg m) S))),some (m2,nI m),w3,o4',o5]
 | [],S,o4,_,_,_=>⟨o4,rfl⟩
 | k::ps,S,o4,h1,h2,h3=>by
  have hk:=h1 k a0d
  have hb:=h3 k hk
  rw [a0f] at hb
  have e:evSs (C n) [.apN 1 4 2] [w0,some (.d,.lst (mS S)),some (m2,nI m),w3,some (.s,nI k),o5]=.nx [w0,some (.d,.lst (mS (dg m S k))),some (m2,nI m),w3,some (.s,nI k),o5]:=by
   have a:=zX (S:=S) (k:=k) (m:=m) hk (by omega) (by omega) .s m2
   have e2:evSs (C n) [.apN 1 4 2] [w0,some (.d,.lst (mS S)),some (m2,nI m),w3,some (.s,nI k),o5]=Fl.seq (nxO [w0,some (.d,.lst (mS S)),some (m2,nI m),w3,some (.s,nI k),o5] ((gm (some (.d,.lst (mS S))) (some (.s,nI k)) (some (m2,nI m))).map fun w=>put [w0,some (.d,.lst (mS S)),some (m2,nI m),w3,some (.s,nI k),o5] 1 w)) (evSs (C n) []):=rfl
   rw [e2,a]; rfl
  obtain ⟨o4',ih⟩:=vy n w0 w3 o5 m2 m ps (dg m S k) (some (.s,nI k)) (fun j hj=>by rw [bX]; exact h1 j (a0c _ hj)) (by rw [bX]; exact h2) (fun j hj=>by
   rw [bX] at hj
   have:=h3 j hj
   rw [a0f] at this
   rw [eN m S k j hj]
   split
   ·rw [a0g,a0r]; omega
   ·omega)
  refine ⟨o4',?_⟩
  show Fl.turn (evSs (C n) [.apN 1 4 2] [w0,some (.d,.lst (mS S)),some (m2,nI m),w3,some (.s,nI k),o5]) (bf [4] (evSs (C n) [.apN 1 4 2]) (ps.map fun i=>[((.s,nI i):W)]))=_
  rw [e]
  exact ih
noncomputable abbrev TB:List S:=[.forS [3] [] .seq [.op .ix false [.var 3,.cst (.int 3)]] [4] [.apN 1 4 2]]
theorem t7 (n:Nat)(L:List T)(hL:Sts L)(w0:Option W) :
  ∃ o2 o3 o4,bf [2,3] (evSs (C n) TB) ((a0p L.length).map fun i=>[((.d,nI i):W),(.s,L.getD i .non)]) [w0,some (.d,.lst (mS (a0l L.length []))),none,none,none,none]=.nx [w0,some (.d,.lst (mS (ax (PL L) L.length L.length))),o2,o3,o4,none]:=by
 obtain ⟨η',lp,o2,o3,o4,e⟩:=cD (tg:=[2,3]) (f:=evSs (C n) TB) (g:=fun (i:Nat)=>[((.d,nI i):W),(.s,L.getD i .non)])
  (fun pre η=>∃ (o2 o3 o4:Option W),η=[w0,some (.d,.lst (mS (ax (PL L) L.length pre.length))),o2,o3,o4,none])
  (a0p L.length) [] [w0,some (.d,.lst (mS (a0l L.length []))),none,none,none,none] ⟨none,none,none,by rw [a2B,ax]; rfl⟩
  (fun p i r η hp ⟨o2,o3,o4,he⟩=>by
   subst he
   rw [a0V] at hp
   have hpl:=congrArg a2g hp
   simp only [a0K,a0g,a0f] at hpl
   have hi:i=p.length:=by
    have this:(a0p L.length)[p.length]?=(p++i::r)[p.length]?:=by rw [hp]
    rw [a1a (by omega),a0G (a0h _),a12] at this
    simpa using this.symm
   have hlt:i < L.length:=by omega
   obtain ⟨a,b,w,e1,e2,e3⟩:=sr hL hlt
   have hlen:=hL.len
   obtain ⟨o4',lp⟩:=vy n w0 (some (.s,L.getD i .non)) none .d i (PL L i) (ax (PL L) L.length p.length) o4 (fun k hk=>by rw [bb]; exact e2 k hk) (by rw [bb]; omega) (fun j hj=>by
    rw [bb] at hj
    have:=eW (PL L) L.length (fun k hk=>(sr hL hk).elim fun _ ⟨_,_,_,_,h⟩=>h) p.length j (by omega) hj
    omega)
   have tm:=bR (PL L i)
   rw [e1] at lp
   refine ⟨[w0,some (.d,.lst (mS (ax (PL L) L.length p.length))),some (.d,nI i),some (.s,L.getD i .non),o4,none],[w0,some (.d,.lst (mS (ax (PL L) L.length (p++[i]).length))),some (.d,nI i),some (.s,L.getD i .non),o4',none],rfl,?_,_,_,_,rfl⟩
   rw [a0g,a0r,b6,<- hi,e1]
   rw [<- hi] at lp
   unfold mK
   simp_all only [uI,tm,lp])
 refine ⟨o2,o3,o4,?_⟩
 rw [lp,e]
 simp
theorem A6 (n:Nat)(L:List T)(hL:Sts L)(m:Md):C (n+1) 290 [(m,.lst L)]=.ok ((.d,.lst (mS (ax (PL L) L.length L.length))),[]):=by
 have c1:∀ w0,ay [5] (cu (evE (C n) (.lst true []))) (L.map fun t=>[((.s,t):W)]) [w0,none,none,none,none,none] []=.ok ([]++L.map (fun _=>((.d,.lst []):W)),[w0,none,none,none,none,none]):=fun w0=>bP (fun _=>((.d,.lst []):W)) L [] fun u hu=>⟨_,[w0,none,none,none,none,some (.s,u)],rfl,by simp_all only [],rfl⟩
 have t1:aI (L.map fun _=>((.d,.lst []):W))=mS (a0l L.length []):=by
  rw [aE (fun _=>Md.d) (fun _=>T.lst []) L,mS,a2W,List.map_const']; rfl
 have t2:(L.map fun _=>((.d,.lst []):W)).all okD=true:=a0A.mpr fun w hw=>by obtain ⟨_,_,rfl⟩:=a0B.mp hw; rfl
 have e1:=oD L
 obtain ⟨o2,o3,o4,lp⟩:=t7 n L hL (some (.s,.lst L))
 rw [dY,x_run _ _ _ rfl]
 simp_all only [aQ,c1,t1,t2,e1,lp]
theorem aR (l:List Nat)(m j v:Nat)(hm:m < l.length):(l.set m v).getD j 0=if m=j then v else l.getD j 0:=by
 rw [a0b,a25]
 by_cases h:m=j
 ·subst h; rw [if_pos rfl,if_pos rfl,if_pos hm]; rfl
 ·rw [if_neg h,if_neg h,a0b]
theorem gS {l:List Nat}{m:Nat}(h:m < l.length):ixN (l.map nI).length (m:Int)=some m:=by
 unfold ixN
 rw [a0e,if_pos (by omega),if_pos (by omega)]
 simp
theorem bz {l:List Nat}{m:Nat}(h:m < l.length):atI (l.map nI) (m:Int)=some (nI (l.getD m 0)):=by
 unfold atI
 rw [gS h]
 show (l.map nI)[m]?=_
 rw [a0t,a0b,a0i h]; rfl
theorem gI (l:List Nat)(m v:Nat):(l.map nI).set m (nI v)=(l.set m v).map nI:=(a3N ..).symm
theorem Ax {n:Nat}(h:n < 1000):n < LIM:=by show n < 16777215; omega
theorem BH {S:List (List Nat)}{x:Nat}(h:x < S.length):atI (mS S) (x:Int)=some (.lst ((S.getD x []).map nI)):=by
 have:ixN (mS S).length (x:Int)=some x:=by
  unfold ixN
  rw [mS,a0e,if_pos (by omega),if_pos (by omega)]
  simp
 unfold atI
 rw [this]
 show (mS S)[x]?=_
 rw [mS,a0t,a0b,a0i h]; rfl
theorem bU {α:Type}{tg:List Nat}{f:Env->Res (Option W×Env)}{η:Env}{g:α->List W}(w:α->Option W):∀ (ts:List α) (acc:List W),(∀ x∈ts,∃ η1 η2,aM tg (g x) η=some η1/\f η1=.ok (w x,η2)/\ae tg η2=η) ->
  ay tg f (ts.map g) η acc=.ok (acc++ts.filterMap w,η)
 | [],acc,_=>by rw [a1M,List.filterMap_nil,a0w]; rfl
 | x::ts,acc,h=>by
  obtain ⟨η1,η2,h1,h2,h3⟩:=h x a0d
  rw [a0x]
  show (ofO (aM tg (g x) η)).bind _=_
  rw [h1]
  show (f η1).bind _=_
  rw [h2]
  show ay tg f (ts.map g) (ae tg η2) (acc++(w x).toList)=_
  rw [h3,bU w ts _ fun y hy=>h y (a0c _ hy),a0J,a0O]
  cases w x<;>rfl
theorem mL {α:Type}(f:T->α)(L:List T):L.map f=(a0p L.length).map fun i=>f (L.getD i .non):=by
 apply List.ext_getElem?
 intro i
 rw [a0t,a0t]
 rcases a14 i L.length with h | h
 ·rw [a1a h,a0i h]
  show some (f L[i])=some (f (L.getD i .non))
  rw [a0b,a0i h]; rfl
 ·rw [a2H h,a2H (by rw [a0K]; exact h)]; rfl
theorem aX {α:Type}(c:Nat->Bool)(g:Nat->α):∀ l:List Nat,l.filterMap (fun i=>if c i then some (g i) else none)=(l.filter c).map g
 | []=>rfl
 | x::l=>by
  rw [a0O,a3j]
  cases h:c x with
  | true=>rw [if_pos rfl,if_pos rfl,a0x,aX c g l]
  | false=>rw [if_neg a0n,if_neg a0n,aX c g l]
theorem vX {L:List T}(k:Nat):(ahT (L.getD k .non)).length=(PL L k).length:=by rw [PL,a0e]
theorem iO (a b:Nat):(((a:Nat):Int)==((b:Nat):Int))=(a==b):=by
 by_cases h:a=b
 ·subst h; simp
 ·rw [beq_eq_false_iff_ne.mpr h,beq_eq_false_iff_ne.mpr (by omega)]
theorem sW {l:List T}{t:T}(h:l.getLast?=some t):atI l (-1)=some t:=by
 cases l with
 | nil=>cases h
 | cons a r =>
  have e:ixN (a::r).length (-1)=some r.length:=by
   unfold ixN
   rw [if_neg (by decide),if_pos (by rw [a0f]; omega)]
   congr 1
   rw [a0f]
   omega
  unfold atI
  rw [e]
  show (a::r)[r.length]?=some t
  rw [List.getLast?_eq_getElem?] at h
  simpa using h
noncomputable def dlB:Nat->List Nat->List Nat->List (Nat×Nat)
 | _,[],_=>[]
 | f,c::cs,l=>if f=0 then [] else (c,min f (l.getD c 0))::dlB (f-min f (l.getD c 0)) cs (l.set c (l.getD c 0-min f (l.getD c 0)))
noncomputable def dlL:Nat->List Nat->List Nat->List Nat
 | _,[],l=>l
 | f,c::cs,l=>if f=0 then l else dlL (f-min f (l.getD c 0)) cs (l.set c (l.getD c 0-min f (l.getD c 0)))
noncomputable def dlR:Nat->List Nat->List Nat->List Nat
 | _,[],_=>[]
 | f,c::cs,l=>if f=0 then c::cs else if l.getD c 0<=f then dlR (f-min f (l.getD c 0)) cs (l.set c (l.getD c 0-min f (l.getD c 0))) else c::cs
theorem yp (cs l:List Nat):dlB 0 cs l=[]:=by cases cs<;>rfl
theorem sN (cs l:List Nat):dlL 0 cs l=l:=by cases cs<;>rfl
theorem Am (cs l:List Nat):dlR 0 cs l=cs:=by cases cs<;>rfl
theorem cY:∀ (cs:List Nat) (f:Nat) (l:List Nat),(dlL f cs l).length=l.length
 | [],_,_=>rfl
 | c::cs,f,l=>by
  unfold dlL
  split
  ·rfl
  ·rw [cY cs,a0D]
theorem hI:∀ (cs:List Nat) (f:Nat) (l:List Nat) (x:Nat),(∀ c∈cs,c < l.length)->x ∉ cs->(dlL f cs l).getD x 0=l.getD x 0
 | [],_,_,_,_,_=>rfl
 | c::cs,f,l,x,h,hx=>by
  unfold dlL
  split
  ·rfl
  ·rw [hI cs _ _ x (fun d hd=>by rw [a0D]; exact h d (a0c _ hd)) fun z=>hx (a0c _ z),aR l c x _ (h c a0d),if_neg fun z=>hx (by rw [z]; exact a0d)]
theorem pW:∀ (cs:List Nat) (f:Nat) (l:List Nat) (x:Nat),(∀ c∈cs,c < l.length)->(dlL f cs l).getD x 0<=l.getD x 0
 | [],_,_,_,_=>a0h _
 | c::cs,f,l,x,h=>by
  unfold dlL
  split
  ·exact a0h _
  ·have ih:=pW cs (f-min f (l.getD c 0)) (l.set c (l.getD c 0-min f (l.getD c 0))) x fun d hd=>by rw [a0D]; exact h d (a0c _ hd)
   rw [aR l c x _ (h c a0d)] at ih
   split at ih
   ·rename_i e; subst e; omega
   ·exact ih
theorem kO:∀ (cs:List Nat) (f:Nat) (l:List Nat),cs.Nodup->(∀ c∈cs,c < l.length)->(∀ c∈cs,0 < l.getD c 0)->∀ x,x∈dlR f cs l ↔ x∈cs/\0 < (dlL f cs l).getD x 0
 | [],_,_,_,_,_,x=>by simp [dlR]
 | c::cs,f,l,nd,h,hp,x=>by
  have hc:=h c a0d
  have hcp:=hp c a0d
  have nc:=(a0H.mp nd).1
  unfold dlR dlL
  by_cases hf:f=0
  ·rw [if_pos hf,if_pos hf]
   exact ⟨fun z=>⟨z,hp x z⟩,fun z=>z.1⟩
  ·rw [if_neg hf,if_neg hf]
   have h':∀ d∈cs,d < (l.set c (l.getD c 0-min f (l.getD c 0))).length:=fun d hd=>by rw [a0D]; exact h d (a0c _ hd)
   have gx:∀ d,d≠c->(l.set c (l.getD c 0-min f (l.getD c 0))).getD d 0=l.getD d 0:=fun d hd=>by rw [aR l c d _ hc,if_neg (a1u hd)]
   by_cases hl:l.getD c 0<=f
   ·rw [if_pos hl,kO cs _ _ (a0H.mp nd).2 h' (fun d hd=>by rw [gx d fun z=>nc (z ▸ hd)]; exact hp d (a0c _ hd)) x]
    constructor
    ·exact fun z=>⟨a0c _ z.1,z.2⟩
    ·rintro ⟨z,z2⟩
     rcases a0q.mp z with e | e
     ·exfalso
      subst e
      rw [hI cs _ _ x h' nc,aR l x x _ hc,if_pos rfl] at z2
      omega
     ·exact ⟨e,z2⟩
   ·rw [if_neg hl]
    have hz:f-min f (l.getD c 0)=0:=by omega
    rw [hz,sN]
    constructor
    ·intro z
     refine ⟨z,?_⟩
     by_cases e:x=c
     ·subst e; rw [aR l x x _ hc,if_pos rfl]; omega
     ·rw [gx x e]; exact hp x z
    ·exact fun z=>z.1
theorem kZ:∀ (cs:List Nat) (f:Nat) (l:List Nat),∃ p,cs=p++dlR f cs l
 | [],_,_=>⟨[],rfl⟩
 | c::cs,f,l=>by
  unfold dlR
  split
  ·exact ⟨[],rfl⟩
  ·split
   ·obtain ⟨p,hp⟩:=kZ cs (f-min f (l.getD c 0)) (l.set c (l.getD c 0-min f (l.getD c 0)))
    exact ⟨c::p,by rw [a3h,<- hp]⟩
   ·exact ⟨[],rfl⟩
theorem cH:∀ (cs:List Nat) (f:Nat) (l:List Nat) (x m:Nat),(x,m)∈dlB f cs l->x∈cs
 | [],_,_,_,_,h=>by cases h
 | c::cs,f,l,x,m,h=>by
  unfold dlB at h
  split at h
  ·cases h
  ·rcases a0q.mp h with e | e
   ·cases e; exact a0d
   ·exact a0c _ (cH cs _ _ x m e)
theorem kM:∀ (cs:List Nat) (f:Nat) (l:List Nat),cs.Nodup->((dlB f cs l).map (·.1)).Nodup
 | [],_,_,_=>a2P
 | c::cs,f,l,nd=>by
  unfold dlB
  split
  ·exact a2P
  ·rw [a0x,a0H]
   refine ⟨fun z=>?_,kM cs _ _ (a0H.mp nd).2⟩
   obtain ⟨⟨y,m⟩,hy,e⟩:=a0B.mp z
   have e:y=c:=e
   subst e
   exact (a0H.mp nd).1 (cH cs _ _ y m hy)
theorem jm:∀ (cs:List Nat) (f:Nat) (l:List Nat) (x:Nat),(∀ c∈cs,c < l.length)->(dlL f cs l).getD x 0≠l.getD x 0->x∈(dlB f cs l).map (·.1)
 | [],_,_,_,_,h=>absurd rfl h
 | c::cs,f,l,x,hc,h=>by
  unfold dlL at h
  unfold dlB
  split at h
  ·exact absurd rfl h
  ·rename_i hf
   rw [if_neg hf,a0x]
   by_cases e:x=c
   ·rw [e]; exact a0d
   ·refine a0c _ (jm cs _ _ x (fun d hd=>by rw [a0D]; exact hc d (a0c _ hd)) ?_)
    rw [aR l c x _ (hc c a0d),if_neg (a1u e)]
    exact h
noncomputable def aJ (l:List Nat):Nat:=l.foldr (·+·) 0
theorem gz:∀ (l:List Nat) (c v:Nat),c < l.length->aJ (l.set c v)+l.getD c 0=aJ l+v
 | [],_,_,h=>by cases h
 | x::l,0,v,_=>by show v+aJ l+x=x+aJ l+v; omega
 | x::l,c+1,v,h=>by
  have ih:=gz l c v (a2u h)
  show x+aJ (l.set c v)+l.getD c 0=x+aJ l+v
  omega
theorem ll:∀ (cs:List Nat) (f:Nat) (l:List Nat),(∀ c∈cs,c < l.length)->aJ (dlL f cs l)<=aJ l
 | [],_,_,_=>a0h _
 | c::cs,f,l,h=>by
  unfold dlL
  split
  ·exact a0h _
  ·have h1:=ll cs (f-min f (l.getD c 0)) (l.set c (l.getD c 0-min f (l.getD c 0))) fun d hd=>by rw [a0D]; exact h d (a0c _ hd)
   have h2:=gz l c (l.getD c 0-min f (l.getD c 0)) (h c a0d)
   omega
theorem oX {c f:Nat}{cs l:List Nat}(h:∀ d∈c::cs,d < l.length)(hp:0 < l.getD c 0)(hf:0 < f):aJ (dlL f (c::cs) l) < aJ l:=by
 unfold dlL
 rw [if_neg (by omega)]
 have h1:=ll cs (f-min f (l.getD c 0)) (l.set c (l.getD c 0-min f (l.getD c 0))) fun d hd=>by rw [a0D]; exact h d (a0c _ hd)
 have h2:=gz l c (l.getD c 0-min f (l.getD c 0)) (h c a0d)
 omega
noncomputable def fy (P:Nat->List Nat)(l:List Nat)(k:Nat):Bool:=decide (0 < l.getD k 0)&&(P k).all fun p=>l.getD p 0==0
noncomputable def can (P:Nat->List Nat)(l:List Nat):List Nat:=(a0p l.length).filter (fy P l)
noncomputable def tt (P:Nat->List Nat)(h:Nat):Nat->List Nat->List (List (Nat×Nat))
 | 0,_=>[]
 | f+1,l=>if can P l=[] then [] else dlB h (can P l) l::tt P h f (dlL h (can P l) l)
theorem can_mem {P:Nat->List Nat}{l:List Nat}{k:Nat}:k∈can P l ↔ k < l.length/\0 < l.getD k 0/\∀ p∈P k,l.getD p 0=0:=by
 rw [can,a02,a01,fy,a0k,decide_eq_true_eq,a0A]
 exact ⟨fun z=>⟨z.1,z.2.1,fun p hp=>by simpa using z.2.2 p hp⟩,fun z=>⟨z.1,z.2.1,fun p hp=>by simpa using z.2.2 p hp⟩⟩
theorem dF {P:Nat->List Nat}{l:List Nat}:(can P l).Nodup:=(a3i).filter _
theorem vh {P:Nat->List Nat}{h f:Nat}{l:List Nat}(hh:0 < h)(hc:can P l≠[])(hf:aJ l < f+1):tt P h (f+1) l=dlB h (can P l) l::tt P h f (dlL h (can P l) l)/\aJ (dlL h (can P l) l) < f/\aJ (dlL h (can P l) l) < aJ l:=by
 have less:aJ (dlL h (can P l) l) < aJ l:=by
  cases e:can P l with
  | nil=>exact absurd e hc
  | cons c cs =>
   have hm:∀ d∈c::cs,d < l.length:=fun d hd=>(can_mem.mp (e ▸ hd:d∈can P l)).1
   exact oX hm (can_mem.mp (e ▸ a0d:c∈can P l)).2.1 hh
 exact ⟨by rw [tt,if_neg hc],by omega,less⟩
theorem hZ:∀ {a b:List Nat},a.Pairwise (· > ·)->b.Pairwise (· > ·)->(∀ x,x∈a ↔ x∈b)->a=b
 | [],[],_,_,_=>rfl
 | [],y::b,_,_,h=>absurd ((h y).mpr a0d) (by simp)
 | x::a,[],_,_,h=>absurd ((h x).mp a0d) (by simp)
 | x::a,y::b,ha,hb,h=>by
  have ha':=a1e.mp ha
  have hb':=a1e.mp hb
  have e:x=y:=by
   rcases a0q.mp ((h x).mp a0d) with z | z
   ·exact z
   ·rcases a0q.mp ((h y).mpr a0d) with w | w
    ·exact w.symm
    ·have:=ha'.1 y w; have:=hb'.1 x z; omega
  subst e
  rw [hZ ha'.2 hb'.2 fun z=>?_]
  constructor
  ·intro hz
   rcases a0q.mp ((h z).mp (a0c _ hz)) with w | w
   ·subst w; exact absurd (ha'.1 z hz) (a06 _)
   ·exact w
  ·intro hz
   rcases a0q.mp ((h z).mpr (a0c _ hz)) with w | w
   ·subst w; exact absurd (hb'.1 z hz) (a06 _)
   ·exact w
theorem fq {P:Nat->List Nat}{l:List Nat}:(can P l).reverse.Pairwise (· > ·):=by
 rw [List.pairwise_reverse]
 exact (a2v).filter _
noncomputable abbrev cT (p:Nat×Nat):T:=.tup [nI p.1,nI p.2]
noncomputable abbrev bL (b:List (Nat×Nat)):T:=.lst (b.map cT)
noncomputable abbrev DA:List S:=[
   .asg (.q [0] []) 5 (.op .ix false [.var 0,.op .neg false [.cst (.int 1)]]),
   .asg (.q [1,4] [5]) 6 (.op .min false [.var 4,.op .ix false [.var 1,.var 5]]),
   .app (.q [] [5,6]) 3 (.tup [.var 5,.var 6]),
   .asg (.q [4] [6]) 4 (.op .sub false [.var 4,.var 6])]
noncomputable abbrev DB:List S:=[.setI (.q [1] [5,6]) 1 (.var 5) (.op .sub false [.op .ix false [.var 1,.var 5],.var 6])]
noncomputable abbrev DC:List S:=[.ite (.q [1] [5]) (.op .eq false [.op .ix false [.var 1,.var 5],.cst (.int 0)]) [.exp (.l []) (.pop 0 [])] []]
theorem Cq (k:Nat)(c f:Nat)(cs l:List Nat)(bt:List (Nat×Nat))(hc:c < l.length)(hb:bt.length < 500)(w2 o5 o6:Option W)(m4:Md) :
  ∃ m5,evSs (C k) DA [some (.d,.lst ((c::cs).reverse.map nI)),some (.o .s,.lst (l.map nI)),w2,some (.d,bL bt),some (m4,nI f),o5,o6]=.nx [some (.d,.lst ((c::cs).reverse.map nI)),some (.o .s,.lst (l.map nI)),w2,some (.d,bL (bt++[(c,min f (l.getD c 0))])),some (.d,nI (f-min f (l.getD c 0))),some (m5,nI c),some (.d,nI (min f (l.getD c 0)))]:=by
 have g1:atI ((c::cs).reverse.map nI) (-1)=some (nI c):=sW (by rw [List.getLast?_map,List.getLast?_reverse]; rfl)
 have n1:-(1:Int)=-1:=rfl
 have g2:=bz hc
 have g3:(if ((l.getD c 0:Nat):Int) < ((f:Nat):Int) then ((l.getD c 0:Nat):Int) else ((f:Nat):Int))=((min f (l.getD c 0):Nat):Int):=by split<;>omega
 have g4:((f:Nat):Int)-((min f (l.getD c 0):Nat):Int)=((f-min f (l.getD c 0):Nat):Int):=by omega
 have g5:(bt.map cT).length < LIM:=by rw [a0e]; exact Ax (by omega)
 have g6:bt.map cT++[T.tup [nI c,nI (min f (l.getD c 0))]]=(bt++[(c,min f (l.getD c 0))]).map cT:=by rw [a0R]; rfl
 exact ⟨_,by simp_all only [g1,n1,g2,g3,g4,g5,g6]; rfl⟩
theorem Ac (k:Nat)(c m:Nat)(l:List Nat)(hc:c < l.length)(hm:m<=l.getD c 0)(w0 w2 w3 w4:Option W)(m5 m6:Md) :
  evSs (C k) DB [w0,some (.o .s,.lst (l.map nI)),w2,w3,w4,some (m5,nI c),some (m6,nI m)]=.nx [w0,some (.o .s,.lst ((l.set c (l.getD c 0-m)).map nI)),w2,w3,w4,some (m5,nI c),some (m6,nI m)]:=by
 have g1:=bz hc
 have g2:=gS hc
 have g3:((l.getD c 0:Nat):Int)-((m:Nat):Int)=((l.getD c 0-m:Nat):Int):=by omega
 have g4:=gI l c (l.getD c 0-m)
 simp_all only [g1,g2,g3,g4]
theorem zV (k:Nat)(c:Nat)(cs l:List Nat)(hc:c < l.length)(w2 w3 w4 w6:Option W)(m5:Md) :
  evSs (C k) DC [some (.d,.lst ((c::cs).reverse.map nI)),some (.o .s,.lst (l.map nI)),w2,w3,w4,some (m5,nI c),w6]=.nx [some (.d,.lst ((if l.getD c 0=0 then cs else c::cs).reverse.map nI)),some (.o .s,.lst (l.map nI)),w2,w3,w4,some (m5,nI c),w6]:=by
 have g1:=bz hc
 by_cases h:l.getD c 0=0
 ·have g2:(((l.getD c 0:Nat):Int)==0)=true:=by rw [h]; rfl
  rw [if_pos h]
  have g3:gV (.d,.lst ((c::cs).reverse.map nI)) []=some ((.d,nI c),(.d,.lst (cs.reverse.map nI))):=by
   rw [List.reverse_cons,a0R]
   unfold gV
   simp
   rfl
  simp_all only [g1,g2,g3]
 ·have g2:(((l.getD c 0:Nat):Int)==0)=false:=by rw [beq_eq_false_iff_ne]; omega
  rw [if_neg h]
  simp_all only [g1,g2]
theorem cX (f c:Nat)(cs l:List Nat):dlB f (c::cs) l=if f=0 then [] else (c,min f (l.getD c 0))::dlB (f-min f (l.getD c 0)) cs (l.set c (l.getD c 0-min f (l.getD c 0))):=rfl
theorem iL (f c:Nat)(cs l:List Nat):dlL f (c::cs) l=if f=0 then l else dlL (f-min f (l.getD c 0)) cs (l.set c (l.getD c 0-min f (l.getD c 0))):=rfl
theorem pF (f c:Nat)(cs l:List Nat):dlR f (c::cs) l=if f=0 then c::cs else if l.getD c 0<=f then dlR (f-min f (l.getD c 0)) cs (l.set c (l.getD c 0-min f (l.getD c 0))) else c::cs:=rfl
theorem fM (ts:List T):a6 (.lst ts)=some (!ts.isEmpty):=rfl
noncomputable abbrev DQ:List S:=[
   .asg (.q [0] []) 5 (.op .ix false [.var 0,.op .neg false [.cst (.int 1)]]),
   .asg (.q [1,4] [5]) 6 (.op .min false [.var 4,.op .ix false [.var 1,.var 5]]),
   .app (.q [] [5,6]) 3 (.tup [.var 5,.var 6]),
   .asg (.q [4] [6]) 4 (.op .sub false [.var 4,.var 6]),
   .setI (.q [1] [5,6]) 1 (.var 5) (.op .sub false [.op .ix false [.var 1,.var 5],.var 6]),
   .ite (.q [1] [5]) (.op .eq false [.op .ix false [.var 1,.var 5],.cst (.int 0)]) [.exp (.l []) (.pop 0 [])] []]
noncomputable abbrev DT:E:=.and (.op .gt false [.var 4,.cst (.int 0)]) (.var 0)
theorem lN:∀ (cs:List Nat) (f:Nat) (l:List Nat),(dlB f cs l).length<=cs.length
 | [],_,_=>a0h _
 | c::cs,f,l=>by
  unfold dlB
  split
  ·exact a0F _
  ·rw [a0f,a0f]
   exact a1s (lN cs _ _)
theorem lT (k h:Nat)(cs l:List Nat)(hc:∀ c∈cs,c < l.length)(hl:cs.length<=12)(w2:Option W)(m4:Md) :
  ∃ o4 o5 o6,fF (evT (C k) (.q [0,4] []) DT) (evSs (C k) DQ) fE [some (.d,.lst (cs.reverse.map nI)),some (.o .s,.lst (l.map nI)),w2,some (.d,.lst []),some (m4,nI h),none,none]=.nx [some (.d,.lst ((dlR h cs l).reverse.map nI)),some (.o .s,.lst ((dlL h cs l).map nI)),w2,some (.d,bL (dlB h cs l)),o4,o5,o6]:=by
 obtain ⟨η',lp,o4,o5,o6,rfl⟩:=dh (c:=evT (C k) (.q [0,4] []) DT) (f:=evSs (C k) DQ)
  (fun r η=>∃ (f:Nat) (cs' l':List Nat) (bt:List (Nat×Nat)) (m4:Md) (o5 o6:Option W),r=cs'.length+(if f=0 then 0 else 1)/\(∀ c∈cs',c < l'.length)/\bt.length+r<=24/\bt++dlB f cs' l'=dlB h cs l/\dlR f cs' l'=dlR h cs l/\dlL f cs' l'=dlL h cs l/\η=[some (.d,.lst (cs'.reverse.map nI)),some (.o .s,.lst (l'.map nI)),w2,some (.d,bL bt),some (m4,nI f),o5,o6])
  (fun η=>∃ (o4 o5 o6:Option W),η=[some (.d,.lst ((dlR h cs l).reverse.map nI)),some (.o .s,.lst ((dlL h cs l).map nI)),w2,some (.d,bL (dlB h cs l)),o4,o5,o6])
  fE (cs.length+(if h=0 then 0 else 1)) [some (.d,.lst (cs.reverse.map nI)),some (.o .s,.lst (l.map nI)),w2,some (.d,.lst []),some (m4,nI h),none,none] (by show _ < 1000000000000; split<;>omega)
  ⟨h,cs,l,[],m4,none,none,rfl,hc,by simp only [a2B]; split<;>omega,rfl,rfl,rfl,rfl⟩
  (fun r η ⟨f,cs',l',bt,m4,o5,o6,hr,hc',hb,e1,e2,e3,he⟩=>by
   subst he
   by_cases hf:f=0
   ·left
    subst hf
    rw [yp,a0w] at e1
    rw [Am] at e2
    rw [sN] at e3
    have d:decide ((((0:Nat):Nat):Int) > 0)=false:=rfl
    exact ⟨_,by simp_all only [d]; rfl,some (m4,nI 0),o5,o6,by rw [<- e1,<- e2,<- e3]⟩
   ·have d:decide (((f:Nat):Int) > 0)=true:=decide_eq_true (by omega)
    cases cs' with
    | nil =>
     left
     have e1':bt=dlB h cs l:=by rw [<- e1]; show bt=bt++[]; rw [a0w]
     have tr:a6 (.lst (([]:List Nat).reverse.map nI))=some false:=rfl
     exact ⟨_,by simp_all only [d,tr]; rfl,some (m4,nI f),o5,o6,by rw [<- e1',<- e2,<- e3]; rfl⟩
    | cons c cs' =>
     right
     have hcl:=hc' c a0d
     have tr:a6 (.lst ((c::cs').reverse.map nI))=some true:=by rw [fM]; simp
     rw [a0f,if_neg hf] at hr
     obtain ⟨m5,a1⟩:=Cq k c f cs' l' bt hcl (by omega) w2 o5 o6 m4
     have a2:=Ac k c (min f (l'.getD c 0)) l' hcl (a3c _ _) (some (.d,.lst ((c::cs').reverse.map nI))) w2 (some (.d,bL (bt++[(c,min f (l'.getD c 0))]))) (some (.d,nI (f-min f (l'.getD c 0)))) m5 .d
     have a3:=zV k c cs' (l'.set c (l'.getD c 0-min f (l'.getD c 0))) (by rw [a0D]; exact hcl) w2 (some (.d,bL (bt++[(c,min f (l'.getD c 0))]))) (some (.d,nI (f-min f (l'.getD c 0)))) (some (.d,nI (min f (l'.getD c 0)))) m5
     rw [aR l' c c _ hcl,if_pos rfl] at a3
     have run:=(go1 (b:=DB++DC) a1).trans ((go1 (b:=DC) a2).trans a3)
     rw [cX f c cs' l',if_neg hf] at e1
     rw [pF f c cs' l',if_neg hf] at e2
     rw [iL f c cs' l',if_neg hf] at e3
     by_cases hle:l'.getD c 0<=f
     ·have hz:l'.getD c 0-min f (l'.getD c 0)=0:=by omega
      rw [if_pos hz] at run
      rw [if_pos hle] at e2
      refine ⟨_,_,cs'.length+(if f-min f (l'.getD c 0)=0 then 0 else 1),by simp_all only [d,tr],run,?_,_,cs',_,_,_,_,_,rfl,fun x hx=>by rw [a0D]; exact hc' x (a0c _ hx),?_,?_,e2,e3,rfl⟩
      ·rw [hr]; split<;>omega
      ·rw [a0g,a0r]; split<;>omega
      ·rw [a0J]; exact e1
     ·have hz:¬ l'.getD c 0-min f (l'.getD c 0)=0:=by omega
      have hf0:f-min f (l'.getD c 0)=0:=by omega
      rw [if_neg hz,hf0] at run
      rw [if_neg hle] at e2
      rw [hf0,yp] at e1
      rw [hf0,sN] at e3
      refine ⟨_,_,(c::cs').length,by simp_all only [d,tr],run,?_,0,c::cs',_,_,_,_,_,by rw [if_pos rfl]; rfl,fun x hx=>by rw [a0D]; exact hc' x hx,?_,?_,by rw [Am]; exact e2,by rw [sN]; exact e3,rfl⟩
      ·rw [hr,a0f]; omega
      ·rw [a0g,a0r,a0f]; omega
      ·rw [yp,a0w]; exact e1)
 exact ⟨o4,o5,o6,lp⟩
theorem uf (k h:Nat)(cs l:List Nat)(hc:∀ c∈cs,c < l.length)(hl:cs.length<=12)(m:Md):C (k+1) 311 [(.d,.lst (cs.reverse.map nI)),(.o .s,.lst (l.map nI)),(m,nI h)]=.ok ((.d,bL (dlB h cs l)),[(.d,.lst ((dlR h cs l).reverse.map nI)),(.o .s,.lst ((dlL h cs l).map nI))]):=by
 obtain ⟨o4,o5,o6,lp⟩:=lT k h cs l hc hl (some (m,nI h)) .d
 rw [sU,x_run _ _ _ rfl]
 simp_all only [ff,lp]
noncomputable abbrev PT:E:=.op .lt false [.var 2,.var 3]
noncomputable abbrev PB:List S:=[
   .asg (.q [] [2,3]) 4 (.op .fdiv false [.op .add false [.var 2,.var 3],.cst (.int 2)]),
   .ite (.q [0] [1,4]) (.op .gt false [.op .ix false [.var 0,.var 4],.var 1]) [
    .asg (.q [] [4]) 2 (.op .add false [.var 4,.cst (.int 1)])] [
    .asg (.q [] [4]) 3 (.var 4)]]
theorem Ci (k:Nat)(rd:List Nat)(x lo hi:Nat)(hlt:lo < hi)(hhi:hi<=rd.length)(o4:Option W)(m1 m2 m3:Md) :
  ∃ m2' m3' o4',evSs (C k) PB [some (.d,.lst (rd.map nI)),some (m1,nI x),some (m2,nI lo),some (m3,nI hi),o4]=.nx [some (.d,.lst (rd.map nI)),some (m1,nI x),some (m2',nI (if rd.getD ((lo+hi) / 2) 0 > x then (lo+hi) / 2+1 else lo)),some (m3',nI (if rd.getD ((lo+hi) / 2) 0 > x then hi else (lo+hi) / 2)),o4']:=by
 have hm:(lo+hi) / 2 < rd.length:=by omega
 have g1:=bz hm
 have g2:(((lo:Nat):Int)+((hi:Nat):Int)) / 2=(((lo+hi) / 2:Nat):Int):=by omega
 have g0:(decide ((0:Int) < 2)&&decide ((2:Int) < 1073741824))=true:=rfl
 by_cases h:rd.getD ((lo+hi) / 2) 0 > x
 ·have d:decide (((rd.getD ((lo+hi) / 2) 0:Nat):Int) > ((x:Nat):Int))=true:=decide_eq_true (by omega)
  have g3:(((lo+hi) / 2:Nat):Int)+1=(((lo+hi) / 2+1:Nat):Int):=by omega
  exact ⟨_,_,_,by rw [if_pos h,if_pos h]; simp_all only [g0,g2,g1,d,g3]; rfl⟩
 ·have d:decide (((rd.getD ((lo+hi) / 2) 0:Nat):Int) > ((x:Nat):Int))=false:=decide_eq_false (by omega)
  exact ⟨_,_,_,by rw [if_neg h,if_neg h]; simp_all only [g0,g2,g1,d]; rfl⟩
theorem lr {rd:List Nat}(h:rd.Pairwise (· > ·)){i j:Nat}(hij:i < j)(hj:j < rd.length):rd.getD i 0 > rd.getD j 0:=by
 rw [a0b,a0i (by omega),a0b,a0i hj]
 exact List.pairwise_iff_getElem.mp h i j (by omega) hj hij
theorem nV (k:Nat)(rd:List Nat)(x:Nat)(hf:rd.Pairwise (· > ·))(hl:rd.length<=100)(m1 m3:Md) :
  ∃ lo m1' m2 o3 o4,lo<=rd.length/\(∀ i,i < lo->rd.getD i 0 > x)/\(∀ i,lo<=i->i < rd.length->rd.getD i 0<=x)/\fF (evT (C k) (.q [] [2,3]) PT) (evSs (C k) PB) fE [some (.d,.lst (rd.map nI)),some (m1,nI x),some (.d,.int 0),some (m3,nI rd.length),none]=.nx [some (.d,.lst (rd.map nI)),some (m1',nI x),some (m2,nI lo),o3,o4]:=by
 obtain ⟨η',lp,lo,m1',m2,o3,o4,h1,h2,h3,rfl⟩:=dh (c:=evT (C k) (.q [] [2,3]) PT) (f:=evSs (C k) PB)
  (fun r η=>∃ (lo hi:Nat) (m1 m2 m3:Md) (o4:Option W),r=hi-lo/\lo<=hi/\hi<=rd.length/\(∀ i,i < lo->rd.getD i 0 > x)/\(∀ i,hi<=i->i < rd.length->rd.getD i 0<=x)/\η=[some (.d,.lst (rd.map nI)),some (m1,nI x),some (m2,nI lo),some (m3,nI hi),o4])
  (fun η=>∃ (lo:Nat) (m1 m2:Md) (o3 o4:Option W),lo<=rd.length/\(∀ i,i < lo->rd.getD i 0 > x)/\(∀ i,lo<=i->i < rd.length->rd.getD i 0<=x)/\η=[some (.d,.lst (rd.map nI)),some (m1,nI x),some (m2,nI lo),o3,o4])
  fE rd.length [some (.d,.lst (rd.map nI)),some (m1,nI x),some (.d,.int 0),some (m3,nI rd.length),none] (by show _ < 1000000000000; omega)
  ⟨0,rd.length,m1,.d,m3,none,rfl,a0F _,a0h _,fun i hi=>absurd hi (a1E _),fun i h1 h2=>absurd h2 (by omega),rfl⟩
  (fun r η ⟨lo,hi,m1,m2,m3,o4,hr,h1,h2,h3,h4,he⟩=>by
   subst he
   rcases a14 lo hi with hlt | hge
   ·right
    have d:decide (((lo:Nat):Int) < ((hi:Nat):Int))=true:=decide_eq_true (by omega)
    obtain ⟨m2',m3',o4',e⟩:=Ci k rd x lo hi hlt h2 o4 m1 m2 m3
    by_cases h:rd.getD ((lo+hi) / 2) 0 > x
    ·rw [if_pos h,if_pos h] at e
     refine ⟨_,_,hi-((lo+hi) / 2+1),by simp_all only [d],e,by omega,(lo+hi) / 2+1,hi,_,_,_,_,rfl,by omega,h2,fun i hi'=>?_,h4,rfl⟩
     rcases a14 i ((lo+hi) / 2) with z | z
     ·exact a28 h (lr hf z (by omega))
     ·have:i=(lo+hi) / 2:=by omega
      rw [this]; exact h
    ·rw [if_neg h,if_neg h] at e
     refine ⟨_,_,(lo+hi) / 2-lo,by simp_all only [d],e,by omega,lo,(lo+hi) / 2,_,_,_,_,rfl,by omega,by omega,h3,fun i hi' hi2=>?_,rfl⟩
     rcases a14 ((lo+hi) / 2) i with z | z
     ·have:=lr hf z hi2; omega
     ·have:i=(lo+hi) / 2:=by omega
      rw [this]; omega
   ·left
    have d:decide (((lo:Nat):Int) < ((hi:Nat):Int))=false:=decide_eq_false (by omega)
    have e:lo=hi:=by omega
    subst e
    exact ⟨_,by simp_all only [d]; rfl,lo,m1,m2,_,_,h2,h3,h4,rfl⟩)
 exact ⟨lo,m1',m2,o3,o4,h1,h2,h3,lp⟩
theorem pO {rd:List Nat}{y:Nat}(h:y∈rd):∃ i,i < rd.length/\rd.getD i 0=y:=by
 obtain ⟨i,hi,e⟩:=a1U.mp h
 exact ⟨i,hi,by rw [a0b,a0i hi]; exact e⟩
theorem uq (k:Nat)(rd:List Nat)(x:Nat)(hf:rd.Pairwise (· > ·))(hl:rd.length<=100)(hx:x ∉ rd)(m1:Md) :
  ∃ rd':List Nat,rd'.Pairwise (· > ·)/\(∀ y,y∈rd' ↔ y=x\/y∈rd)/\C (k+1) 299 [(.d,.lst (rd.map nI)),(m1,nI x)]=.ok ((.d,.non),[(.d,.lst (rd'.map nI))]):=by
 obtain ⟨lo,m1',m2,o3,o4,h1,h2,h3,lp⟩:=nV k rd x hf hl m1 .d
 refine ⟨rd.take lo++x::rd.drop lo,?_,fun y=>?_,?_⟩
 ·rw [a2N,a1e]
  have hd:∀ y∈rd.drop lo,x > y:=fun y hy=>by
   obtain ⟨i,hi,e⟩:=pO hy
   rw [a0X] at hi
   rw [a0b,a10] at e
   have:=h3 (lo+i) (by omega) (by omega)
   rw [a0b,e] at this
   have hne:y≠x:=fun z=>hx (z ▸ a1q hy)
   omega
  have ht:∀ y∈rd.take lo,y > x:=fun y hy=>by
   obtain ⟨i,hi,e⟩:=pO hy
   rw [a0W] at hi
   rw [a0b,a2b (by omega)] at e
   have:=h2 i (by omega)
   rw [a0b,e] at this
   exact this
  exact ⟨a2I (a22 _ _) hf,⟨hd,a2I (List.drop_sublist _ _) hf⟩,fun a ha b hb=>by
   rcases a0q.mp hb with z | z
   ·rw [z]; exact ht a ha
   ·exact a28 (hd b z) (ht a ha)⟩
 ·rw [a0T,a0q]
  constructor
  ·rintro (z | z | z)
   ·exact .inr (a1S z)
   ·exact .inl z
   ·exact .inr (a1q z)
  ·rintro (z | z)
   ·exact .inr (.inl z)
   ·rw [<- a2E lo rd,a0T] at z
    exact z.imp id .inr
 ·have i1:eE (some (.d,.lst (rd.map nI))) (some (m2,nI lo)) (some (m1',nI x))=some (.d,.lst ((rd.take lo++x::rd.drop lo).map nI)):=by
   show (if (decide (0<=((lo:Nat):Int))&&decide ((((lo:Nat):Int)).toNat<=(rd.map nI).length)&&decide ((rd.map nI).length < 1000)&&leaves (rd.map nI)&&(nI x).leaf)=true then some ((.d,.lst ((rd.map nI).take (((lo:Nat):Int)).toNat++nI x::(rd.map nI).drop (((lo:Nat):Int)).toNat)):W) else none)=_
   have lv:leaves (rd.map nI)=true:=a0A.mpr fun t ht=>by obtain ⟨_,_,rfl⟩:=a0B.mp ht; rfl
   rw [a1o,a0e,lv,decide_eq_true (show 0<=((lo:Nat):Int) by omega),decide_eq_true h1,decide_eq_true (show rd.length < 1000 by omega),a0R,a0x,a2k,a2l]
   rfl
  have l1:(((rd.map nI).length:Nat):Int)=((rd.length:Nat):Int):=by rw [a0e]
  rw [eg,x_run _ _ _ rfl]
  simp_all only [aW,l1,lp,i1]
noncomputable def cn0 (l ps:List Nat):Nat:=ps.countP fun p=>decide (0 < l.getD p 0)
noncomputable def cnE (e ps:List Nat):Nat:=ps.countP fun p=>decide (p∈e)
theorem nW {l e:List Nat}{x:Nat}(he:∀ y∈e,0 < l.getD y 0)(hx:0 < l.getD x 0)(hn:x ∉ e):∀ ps:List Nat,cnE e ps+ps.count x<=cn0 l ps
 | []=>a0h _
 | p::ps=>by
  have ih:=nW he hx hn ps
  unfold cnE cn0 at ih ⊢
  rw [a1c,a1c,a1F]
  by_cases h1:p=x
  ·subst h1; simp [-a0b,hn,hx]; omega
  ·by_cases h2:p∈e
   ·have:=he p h2
    simp [-a0b,h1,h2,this]; omega
   ·simp [-a0b,h1,h2]
    split<;>omega
theorem jd {e:List Nat}{x:Nat}(hn:x ∉ e):∀ ps:List Nat,cnE (e++[x]) ps=cnE e ps+ps.count x
 | []=>rfl
 | p::ps=>by
  have ih:=jd hn ps
  unfold cnE at ih ⊢
  rw [a1c,a1c,a1F,ih]
  by_cases h1:p=x
  ·subst h1; simp [-a0b,hn]; omega
  ·by_cases h2:p∈e
   ·simp [-a0b,h1,h2]; omega
   ·simp [-a0b,h1,h2]
theorem iB {l l' e:List Nat}(h:∀ p,p∈e ↔ 0 < l.getD p 0/\l'.getD p 0=0)(hle:∀ p,l'.getD p 0<=l.getD p 0):∀ ps:List Nat,cn0 l ps=cn0 l' ps+cnE e ps
 | []=>rfl
 | p::ps=>by
  have ih:=iB h hle ps
  unfold cn0 cnE at ih ⊢
  rw [a1c,a1c,a1c,ih]
  have hp:=h p
  have hl:=hle p
  by_cases h1:0 < l.getD p 0
  ·by_cases h2:l'.getD p 0=0
   ·have he:p∈e:=hp.mpr ⟨h1,h2⟩
    rw [decide_eq_true h1,decide_eq_true he,decide_eq_false (show ¬ 0 < l'.getD p 0 by omega)]
    simp [-a0b]
    omega
   ·have he:p ∉ e:=fun z=>h2 (hp.mp z).2
    rw [decide_eq_true h1,decide_eq_false he,decide_eq_true (show 0 < l'.getD p 0 by omega)]
    simp [-a0b]
    omega
  ·have he:p ∉ e:=fun z=>h1 (hp.mp z).1
   rw [decide_eq_false h1,decide_eq_false he,decide_eq_false (show ¬ 0 < l'.getD p 0 by omega)]
   simp [-a0b]
theorem ou {l ps:List Nat}:cn0 l ps=0 ↔ ∀ p∈ps,l.getD p 0=0:=by
 rw [cn0,List.countP_eq_zero]
 exact ⟨fun h p hp=>by have:=h p hp; simp [-a0b] at this; exact this,fun h p hp=>by simp [-a0b,h p hp]⟩
structure Fz (P:Nat->List Nat)(n:Nat)(l:List Nat)(A:Nat->Prop)(e u aw rd:List Nat):Prop where
 len:aw.length=n
 cn:∀ m,m < n->aw.getD m 0+u.count m+cnE e (P m)=cn0 l (P m)
 fall:rd.Pairwise (· > ·)
 mem:∀ x,x∈rd ↔ A x\/(x < n/\0 < cn0 l (P x)/\aw.getD x 0=0)
theorem Fz.lt {P:Nat->List Nat}{n:Nat}{l:List Nat}{A:Nat->Prop}{e u aw rd:List Nat}(hA:∀ x,A x->x < n/\cn0 l (P x)=0)(h:Fz P n l A e u aw rd):∀ x∈rd,x < n:=fun x hx=>((h.mem x).mp hx).elim (fun z=>(hA x z).1) a2V
theorem Fz.few {P:Nat->List Nat}{n:Nat}{l:List Nat}{A:Nat->Prop}{e u aw rd:List Nat}(hA:∀ x,A x->x < n/\cn0 l (P x)=0)(h:Fz P n l A e u aw rd):rd.length<=n :=
 fk n rd (h.fall.imp fun {a b} z=>a1L z) (h.lt hA)
theorem Fz.step {P:Nat->List Nat}{n:Nat}{l:List Nat}{A:Nat->Prop}{e u aw rd:List Nat}{x m:Nat}(hA:∀ x,A x->x < n/\cn0 l (P x)=0)(he:∀ y∈e,0 < l.getD y 0)(hx:0 < l.getD x 0)(hn:x ∉ e)(h:Fz P n l A e u aw rd)(hm:m < n)(hc:u.count m+1<=(P m).count x) :
  1<=aw.getD m 0/\m ∉ rd/\∀ rd':List Nat,rd'.Pairwise (· > ·)->(∀ y,y∈rd' ↔ (aw.getD m 0-1=0/\y=m)\/y∈rd)->Fz P n l A e (u++[m]) (aw.set m (aw.getD m 0-1)) rd':=by
 have h1:=h.cn m hm
 have h2:=nW he hx hn (P m)
 have h3:1<=aw.getD m 0:=by omega
 have hml:m < aw.length:=by rw [h.len]; exact hm
 have hc0:0 < cn0 l (P m):=by omega
 have hnm:m ∉ rd:=fun z=>by
  rcases (h.mem m).mp z with z | z
  ·have:=(hA m z).2; omega
  ·omega
 refine ⟨h3,hnm,fun rd' hf hr=>⟨by rw [a0D]; exact h.len,fun j hj=>?_,hf,fun y=>?_⟩⟩
 ·rw [aR aw m j _ hml,a2f,a1F,a18]
  by_cases ej:m=j
  ·subst ej; rw [if_pos rfl]; simp [-a0b]; omega
  ·rw [if_neg ej]; simp [-a0b,ej]; exact h.cn j hj
 ·rw [hr y,h.mem y,aR aw m y _ hml]
  by_cases ey:m=y
  ·subst ey
   rw [if_pos rfl]
   constructor
   ·rintro (z | z | z)
    ·exact .inr ⟨hm,hc0,z.1⟩
    ·exact .inl z
    ·omega
   ·rintro (z | z)
    ·exact .inr (.inl z)
    ·exact .inl ⟨z.2.2,rfl⟩
  ·rw [if_neg ey]
   constructor
   ·rintro (z | z)
    ·exact absurd z.2.symm ey
    ·exact z
   ·exact .inr
theorem Fz.next {P:Nat->List Nat}{n:Nat}{l:List Nat}{A:Nat->Prop}{e u aw rd:List Nat}{x:Nat}(hn:x ∉ e)(h:Fz P n l A e u aw rd)(hu:∀ m,m < n->u.count m=(P m).count x):Fz P n l A (e++[x]) [] aw rd:=by
 refine ⟨h.len,fun m hm=>?_,h.fall,h.mem⟩
 have h1:=h.cn m hm
 have h2:=jd hn (P m)
 have h3:=hu m hm
 rw [a18]
 omega
structure Hd (P:Nat->List Nat)(n:Nat)(l aw:List Nat):Prop where
 len:l.length=n
 alen:aw.length=n
 aw:∀ m,m < n->aw.getD m 0=cn0 l (P m)
 st:∀ m,m < n->0 < cn0 l (P m)->0 < l.getD m 0
theorem can_cn {P:Nat->List Nat}{l:List Nat}{x:Nat}:x∈can P l ↔ x < l.length/\0 < l.getD x 0/\cn0 l (P x)=0:=by rw [can_mem,ou]
theorem vw {P:Nat->List Nat}{h:Nat}{l:List Nat}(p:Nat):p∈((dlB h (can P l) l).filter fun q=>(dlL h (can P l) l).getD q.1 0==0).map (·.1) ↔ 0 < l.getD p 0/\(dlL h (can P l) l).getD p 0=0:=by
 have hl:∀ c∈can P l,c < l.length:=fun c hc=>(can_mem.mp hc).1
 constructor
 ·intro hp
  obtain ⟨⟨y,m⟩,hy,e⟩:=a0B.mp hp
  have e:y=p:=e
  subst e
  have h1:=a02.mp hy
  exact ⟨(can_mem.mp (cH _ _ _ y m h1.1)).2.1,by simpa [-a0b] using h1.2⟩
 ·rintro ⟨h1,h2⟩
  have h3:=jm (can P l) h l p hl (by omega)
  obtain ⟨⟨y,m⟩,hy,e⟩:=a0B.mp h3
  have e:y=p:=e
  subst e
  exact a0B.mpr ⟨(y,m),a02.mpr ⟨hy,by simp [-a0b,h2]⟩,rfl⟩
theorem Hd.next {P:Nat->List Nat}{n h:Nat}{l aw0 aw rd:List Nat}(d:Hd P n l aw0)(f:Fz P n l (fun x=>x∈can P l/\0 < (dlL h (can P l) l).getD x 0) (((dlB h (can P l) l).filter fun q=>(dlL h (can P l) l).getD q.1 0==0).map (·.1)) [] aw rd) :
  Hd P n (dlL h (can P l) l) aw/\rd=(can P (dlL h (can P l) l)).reverse:=by
 have hl:∀ c∈can P l,c < l.length:=fun c hc=>(can_mem.mp hc).1
 have hle:=fun p=>pW (can P l) h l p hl
 have hlen:(dlL h (can P l) l).length=n:=by rw [cY]; exact d.len
 have sp:=fun m=>iB (l:=l) (l':=dlL h (can P l) l) (fun p=>vw (P:=P) (h:=h) (l:=l) p) hle (P m)
 have haw:∀ m,m < n->aw.getD m 0=cn0 (dlL h (can P l) l) (P m):=fun m hm=>by
  have h1:=f.cn m hm
  have h2:=sp m
  rw [a18] at h1
  omega
 have out:∀ x,0 < cn0 l (P x)->(dlL h (can P l) l).getD x 0=l.getD x 0:=fun x hx=>hI (can P l) h l x hl fun z=>by have:=(can_cn.mp z).2.2; omega
 refine ⟨⟨hlen,f.len,haw,fun m hm h0=>?_⟩,hZ f.fall fq fun x=>?_⟩
 ·have h1:0 < cn0 l (P m):=by have:=sp m; omega
  rw [out m h1]
  exact d.st m hm h1
 ·rw [f.mem x,a2p,can_cn (l:=dlL h (can P l) l),hlen]
  constructor
  ·rintro (⟨z1,z2⟩ | ⟨z1,z2,z3⟩)
   ·have hz:=can_cn.mp z1
    have:=sp x
    exact ⟨by rw [<- d.len]; exact hz.1,z2,by omega⟩
   ·exact ⟨z1,by rw [out x z2]; exact d.st x z1 z2,by rw [<- haw x z1]; exact z3⟩
  ·rintro ⟨z1,z2,z3⟩
   by_cases hc:cn0 l (P x)=0
   ·exact .inl ⟨can_cn.mpr ⟨by rw [d.len]; exact z1,a0o z2 (hle x),hc⟩,z2⟩
   ·exact .inr ⟨z1,by omega,by rw [haw x z1]; exact z3⟩
theorem Hd.fz {P:Nat->List Nat}{n h:Nat}{l aw:List Nat}(d:Hd P n l aw):Fz P n l (fun x=>x∈can P l/\0 < (dlL h (can P l) l).getD x 0) [] [] aw (dlR h (can P l) l).reverse:=by
 have hl:∀ c∈can P l,c < l.length:=fun c hc=>(can_mem.mp hc).1
 refine ⟨d.alen,fun m hm=>?_,?_,fun x=>?_⟩
 ·rw [d.aw m hm,a18]; simp [-a0b,cnE]
 ·obtain ⟨p,hp⟩:=kZ (can P l) h l
  have:=fq (P:=P) (l:=l)
  rw [hp,List.reverse_append] at this
  exact (a2N.mp this).1
 ·rw [a2p,kO (can P l) h l dF hl (fun c hc=>(can_mem.mp hc).2.1) x]
  constructor
  ·exact .inl
  ·rintro (z | z)
   ·exact z
   ·have:=d.aw x z.1; omega
noncomputable abbrev T1:List S:=[.setI (.q [3,9] []) 3 (.var 9) (.op .sub false [.op .ix false [.var 3,.var 9],.cst (.int 1)])]
noncomputable abbrev T2:List S:=[.ite (.q [3,9] []) (.op .eq false [.op .ix false [.var 3,.var 9],.cst (.int 0)]) [.exp (.l [9]) (.call 299 [.io 5,.var 9])] []]
theorem Bw (k:Nat)(aw:List Nat)(m:Nat)(hm:m < aw.length)(h1:1<=aw.getD m 0)(w0 w1 w2 w4 w5 w6 w7 w8:Option W)(m9:Md) :
  evSs (C k) T1 [w0,w1,w2,some (.o .s,.lst (aw.map nI)),w4,w5,w6,w7,w8,some (m9,nI m),none,none,none,none]=.nx [w0,w1,w2,some (.o .s,.lst ((aw.set m (aw.getD m 0-1)).map nI)),w4,w5,w6,w7,w8,some (m9,nI m),none,none,none,none]:=by
 have e1:=bz hm
 have e2:=gS hm
 have e3:((aw.getD m 0:Nat):Int)-1=((aw.getD m 0-1:Nat):Int):=by omega
 have e4:=gI aw m (aw.getD m 0-1)
 simp_all only [e1,e2,e3,e4]
theorem BZ (k:Nat)(aw rd:List Nat)(m:Nat)(hm:m < aw.length)(hf:rd.Pairwise (· > ·))(hl:rd.length<=100)(hx:m ∉ rd)(w0 w1 w2 w4 w6 w7 w8:Option W) :
  ∃ (rd':List Nat) (m9:Md),rd'.Pairwise (· > ·)/\(∀ y,y∈rd' ↔ (aw.getD m 0=0/\y=m)\/y∈rd)/\evSs (C (k+1)) T2 [w0,w1,w2,some (.o .s,.lst (aw.map nI)),w4,some (.d,.lst (rd.map nI)),w6,w7,w8,some (.s,nI m),none,none,none,none]=.nx [w0,w1,w2,some (.o .s,.lst (aw.map nI)),w4,some (.d,.lst (rd'.map nI)),w6,w7,w8,some (m9,nI m),none,none,none,none]:=by
 have e1:=bz hm
 by_cases h:aw.getD m 0=0
 ·have e2:(((aw.getD m 0:Nat):Int)==0)=true:=by rw [h]; rfl
  obtain ⟨rd',a1,a2,a3⟩:=uq k rd m hf hl hx .s
  exact ⟨rd',_,a1,fun y=>by rw [a2 y]; simp [-a0b,h],by simp_all only [e1,e2,a3]; rfl⟩
 ·have e2:(((aw.getD m 0:Nat):Int)==0)=false:=by rw [beq_eq_false_iff_ne]; omega
  exact ⟨rd,_,hf,fun y=>by simp [-a0b,h],by simp_all only [e1,e2]; rfl⟩
noncomputable abbrev TI:List S:=[
     .setI (.q [3,9] []) 3 (.var 9) (.op .sub false [.op .ix false [.var 3,.var 9],.cst (.int 1)]),
     .ite (.q [3,9] []) (.op .eq false [.op .ix false [.var 3,.var 9],.cst (.int 0)]) [.exp (.l [9]) (.call 299 [.io 5,.var 9])] []]
theorem kS (k n:Nat)(hn:n<=12)(P:Nat->List Nat)(l:List Nat)(A:Nat->Prop)(hA:∀ x,A x->x < n/\cn0 l (P x)=0)(e:List Nat)(he:∀ y∈e,0 < l.getD y 0)(x:Nat)(hx:0 < l.getD x 0)(hxe:x ∉ e)(sl:List Nat)(hs:∀ m,m < n->sl.count m=(P m).count x)(w0 w1 w2 w4 w6 w7 w8:Option W) :
  ∀ (r u aw rd:List Nat) (o9:Option W),u++r=sl->(∀ m∈r,m < n)->Fz P n l A e u aw rd ->
  ∃ aw' rd' o9',Fz P n l A e sl aw' rd'/\bf [9] (evSs (C (k+1)) TI) (r.map fun i=>[((.s,nI i):W)]) [w0,w1,w2,some (.o .s,.lst (aw.map nI)),w4,some (.d,.lst (rd.map nI)),w6,w7,w8,o9,none,none,none,none]=.nx [w0,w1,w2,some (.o .s,.lst (aw'.map nI)),w4,some (.d,.lst (rd'.map nI)),w6,w7,w8,o9',none,none,none,none]
 | [],u,aw,rd,o9,hu,_,h=>⟨aw,rd,o9,by rw [<- hu,a0w]; exact h,rfl⟩
 | m::r,u,aw,rd,o9,hu,hr,h=>by
  have hm:=hr m a0d
  have hc:u.count m+1<=(P m).count x:=by
   rw [<- hs m hm,<- hu,a2f,a1F]
   simp
  obtain ⟨h1,h2,h3⟩:=h.step hA he hx hxe hm hc
  have hml:m < aw.length:=by rw [h.len]; exact hm
  have hfew:=h.few hA
  have e1:=Bw (k+1) aw m hml h1 w0 w1 w2 w4 (some (.d,.lst (rd.map nI))) w6 w7 w8 .s
  obtain ⟨rd',m9,a1,a2,e2⟩:=BZ k (aw.set m (aw.getD m 0-1)) rd m (by rw [a0D]; exact hml) h.fall (by omega) h2 w0 w1 w2 w4 w6 w7 w8
  rw [aR aw m m _ hml,if_pos rfl] at a2
  obtain ⟨aw',rd2,o9',h',lp⟩:=kS k n hn P l A hA e he x hx hxe sl hs w0 w1 w2 w4 w6 w7 w8 r (u++[m]) _ rd' (some (m9,nI m)) (by rw [a0J]; exact hu) (fun y hy=>hr y (a0c _ hy)) (h3 rd' a1 a2)
  refine ⟨aw',rd2,o9',h',?_⟩
  show Fl.turn (evSs (C (k+1)) (T1++T2) [w0,w1,w2,some (.o .s,.lst (aw.map nI)),w4,some (.d,.lst (rd.map nI)),w6,w7,w8,some (.s,nI m),none,none,none,none]) (bf [9] (evSs (C (k+1)) TI) (r.map fun i=>[((.s,nI i):W)]))=_
  rw [go1 e1,e2]
  exact lp
noncomputable abbrev TJ:List S:=[.forS [4] [8] .seq [.op .ix false [.var 4,.var 8]] [9] TI]
theorem kD (k n:Nat)(hn:n<=12)(P:Nat->List Nat)(l:List Nat)(A:Nat->Prop)(hA:∀ x,A x->x < n/\cn0 l (P x)=0)(E:List Nat)(hE:E.Nodup)(hEn:∀ y∈E,y < n)(hEl:∀ y∈E,0 < l.getD y 0)(w0 w1 w2 w6 w7:Option W) :
  ∀ (r e aw rd:List Nat) (o8 o9:Option W) (m4:Md),e++r=E->Fz P n l A e [] aw rd ->
  ∃ aw' rd' o8' o9' m4',Fz P n l A E [] aw' rd'/\bf [8] (evSs (C (k+1)) TJ) (r.map fun i=>[((.s,nI i):W)]) [w0,w1,w2,some (.o .s,.lst (aw.map nI)),some (m4,.lst (mS (ax P n n))),some (.d,.lst (rd.map nI)),w6,w7,o8,o9,none,none,none,none]=.nx [w0,w1,w2,some (.o .s,.lst (aw'.map nI)),some (m4',.lst (mS (ax P n n))),some (.d,.lst (rd'.map nI)),w6,w7,o8',o9',none,none,none,none]
 | [],e,aw,rd,o8,o9,m4,hu,h=>⟨aw,rd,o8,o9,m4,by rw [<- hu,a0w]; exact h,rfl⟩
 | x::r,e,aw,rd,o8,o9,m4,hu,h=>by
  have hxE:x∈E:=by rw [<- hu]; exact a0m _ a0d
  have hxn:=hEn x hxE
  have hsub:∀ y∈e,y∈E:=fun y hy=>by rw [<- hu]; exact a0L _ hy
  have hxe:x ∉ e:=fun z=>by
   rw [<- hu,List.nodup_append] at hE
   exact hE.2.2 x z x a0d rfl
  have sc:∀ m,m < n->((ax P n n).getD x []).count m=(P m).count x:=fun m hm=>by rw [cz P n n x m hxn,if_pos hm]
  have sl:∀ m∈(ax P n n).getD x [],m < n:=fun m hm=>by
   rcases a14 m n with z | z
   ·exact z
   ·have:=cz P n n x m hxn
    rw [if_neg (by omega)] at this
    exact absurd hm (List.count_eq_zero.mp this)
  obtain ⟨aw',rd',o9',h',lp⟩:=kS k n hn P l A hA e (fun y hy=>hEl y (hsub y hy)) x (hEl x hxE) hxe ((ax P n n).getD x []) sc w0 w1 w2 (some (.s,.lst (mS (ax P n n)))) w6 w7 (some (.s,nI x)) ((ax P n n).getD x []) [] aw rd o9 rfl sl h
  obtain ⟨aw2,rd2,o8',o9'',m4',h2,lp2⟩:=kD k n hn P l A hA E hE hEn hEl w0 w1 w2 w6 w7 r (e++[x]) aw' rd' (some (.s,nI x)) o9' .s (by rw [a0J]; exact hu) (h'.next hxe sc)
  refine ⟨aw2,rd2,o8',o9'',m4',h2,?_⟩
  have g1:=BH (S:=ax P n n) (x:=x) (by rw [bb]; exact hxn)
  have g2:=bR ((ax P n n).getD x [])
  have e1:evSs (C (k+1)) TJ [w0,w1,w2,some (.o .s,.lst (aw.map nI)),some (m4,.lst (mS (ax P n n))),some (.d,.lst (rd.map nI)),w6,w7,some (.s,nI x),o9,none,none,none,none]=.nx [w0,w1,w2,some (.o .s,.lst (aw'.map nI)),some (.s,.lst (mS (ax P n n))),some (.d,.lst (rd'.map nI)),w6,w7,some (.s,nI x),o9',none,none,none,none]:=by
   simp_all only [g1,g2,lp]
  show Fl.turn (evSs (C (k+1)) TJ [w0,w1,w2,some (.o .s,.lst (aw.map nI)),some (m4,.lst (mS (ax P n n))),some (.d,.lst (rd.map nI)),w6,w7,some (.s,nI x),o9,none,none,none,none]) (bf [8] (evSs (C (k+1)) TJ) (r.map fun i=>[((.s,nI i):W)]))=_
  rw [e1]
  exact lp2
noncomputable abbrev QE:E:=.comp true .seq [.var 7] [13] (some (.op .eq false [.op .ix false [.var 2,.op .ix false [.var 13,.cst (.int 0)]],.cst (.int 0)])) (.op .ix false [.var 13,.cst (.int 0)])
noncomputable abbrev TW:List S:=[
   .asg (.l [1]) 7 (.call 311 [.io 5,.io 2,.var 1]),
   .forU .seq [.qx [2,7] [] QE] [8] TJ,
   .app (.l []) 6 (.mv 7)]
theorem Ap {a b:T}:atI [a,b] 0=some a:=rfl
theorem b8 {α:Type}(c:Nat×Nat->Bool)(g:Nat×Nat->α):∀ l:List (Nat×Nat),l.filterMap (fun i=>if c i then some (g i) else none)=(l.filter c).map g
 | []=>rfl
 | x::l=>by
  rw [a0O,a3j]
  cases h:c x with
  | true=>rw [if_pos rfl,if_pos rfl,a0x,b8 c g l]
  | false=>rw [if_neg a0n,if_neg a0n,b8 c g l]
theorem BR (k:Nat)(l:List Nat)(b:List (Nat×Nat))(hb:∀ q∈b,q.1 < l.length) :
  evE (C k) QE [none,none,some (.s,.lst (l.map nI)),none,none,none,none,some (.s,bL b),none,none,none,none,none,none]=.ok ((.d,.lst (((b.filter fun q=>l.getD q.1 0==0).map (·.1)).map nI)),[none,none,some (.s,.lst (l.map nI)),none,none,none,none,some (.s,bL b),none,none,none,none,none,none]):=by
 have c1:ay [13] (bE (evE (C k) (.op .eq false [.op .ix false [.var 2,.op .ix false [.var 13,.cst (.int 0)]],.cst (.int 0)])) (evE (C k) (.op .ix false [.var 13,.cst (.int 0)]))) (b.map fun q=>[((.s,cT q):W)]) [none,none,some (.s,.lst (l.map nI)),none,none,none,none,some (.s,bL b),none,none,none,none,none,none] []=.ok ([]++b.filterMap (fun q=>if l.getD q.1 0==0 then some ((.s,nI q.1):W) else none),[none,none,some (.s,.lst (l.map nI)),none,none,none,none,some (.s,bL b),none,none,none,none,none,none]):=bU (fun q=>if l.getD q.1 0==0 then some ((.s,nI q.1):W) else none) b [] fun q hq=>by
  refine ⟨_,[none,none,some (.s,.lst (l.map nI)),none,none,none,none,some (.s,bL b),none,none,none,none,none,some (.s,cT q)],rfl,?_,rfl⟩
  have g:=bz (hb q hq)
  have g2:=iO (l.getD q.1 0) 0
  cases h0:l.getD q.1 0==0 with
  | true =>
   rw [h0] at g2
   have g3:(((l.getD q.1 0:Nat):Int)==0)=true:=g2
   rw [if_pos rfl]
   simp_all only [Ap,g,g3]
  | false =>
   rw [h0] at g2
   have g3:(((l.getD q.1 0:Nat):Int)==0)=false:=g2
   rw [if_neg a0n]
   simp_all only [Ap,g,g3]
 have t0:(b.map cT).map (fun t=>[((.s,t):W)])=b.map fun q=>[((.s,cT q):W)]:=by rw [a03]; rfl
 have t1:=b8 (fun q=>l.getD q.1 0==0) (fun q=>((.s,nI q.1):W)) b
 have t2:aI ((b.filter fun q=>l.getD q.1 0==0).map fun q=>((.s,nI q.1):W))=((b.filter fun q=>l.getD q.1 0==0).map (·.1)).map nI:=by rw [aE (fun _=>Md.s) (fun q:Nat×Nat=>nI q.1),a03]; rfl
 have t3:((b.filter fun q=>l.getD q.1 0==0).map fun q=>((.s,nI q.1):W)).all okD=true:=a0A.mpr fun w hw=>by obtain ⟨_,_,rfl⟩:=a0B.mp hw; rfl
 simp_all only [t0,c1,t1,t2,t3]
theorem zF (k n h:Nat)(hn:n<=12)(P:Nat->List Nat)(l aw:List Nat)(d:Hd P n l aw)(bs:List (List (Nat×Nat)))(hb:bs.length < 10000)(w0 o7 o8 o9:Option W)(m1 m4:Md) :
  ∃ aw' m1' m4' o8' o9',Hd P n (dlL h (can P l) l) aw'/\evSs (C (k+2)) TW [w0,some (m1,nI h),some (.o .s,.lst (l.map nI)),some (.o .s,.lst (aw.map nI)),some (m4,.lst (mS (ax P n n))),some (.d,.lst ((can P l).reverse.map nI)),some (.d,.lst (bs.map bL)),o7,o8,o9,none,none,none,none]=.nx [w0,some (m1',nI h),some (.o .s,.lst ((dlL h (can P l) l).map nI)),some (.o .s,.lst (aw'.map nI)),some (m4',.lst (mS (ax P n n))),some (.d,.lst ((can P (dlL h (can P l) l)).reverse.map nI)),some (.d,.lst ((bs++[dlB h (can P l) l]).map bL)),none,o8',o9',none,none,none,none]:=by
 have hcl:∀ c∈can P l,c < l.length:=fun c hc=>(can_mem.mp hc).1
 have hcn:∀ c∈can P l,c < n:=fun c hc=>by rw [<- d.len]; exact hcl c hc
 have hfew:(can P l).length<=12:=a0u (fk n _ dF hcn) hn
 have e1:=fun m=>uf (k+1) h (can P l) l hcl hfew m
 have e2:=BR (k+2) (dlL h (can P l) l) (dlB h (can P l) l) fun q hq=>by rw [cY]; exact hcl q.1 (cH _ _ _ q.1 q.2 hq)
 generalize hE:((dlB h (can P l) l).filter fun q=>(dlL h (can P l) l).getD q.1 0==0).map (·.1)=E at e2
 have hEm:∀ y∈E,0 < l.getD y 0:=fun y hy=>by rw [<- hE] at hy; exact ((vw y).mp hy).1
 have hEc:∀ y∈E,y∈can P l:=fun y hy=>by
  rw [<- hE] at hy
  obtain ⟨⟨z,m⟩,hz,e⟩:=a0B.mp hy
  have e:z=y:=e
  subst e
  exact cH _ _ _ z m (a02.mp hz).1
 have hEd:E.Nodup:=by
  rw [<- hE]
  exact ((kM (can P l) h l dF).sublist (a3S _ List.filter_sublist))
 obtain ⟨aw',rd',o8',o9',m4',hF,lp⟩:=kD (k+1) n hn P l (fun x=>x∈can P l/\0 < (dlL h (can P l) l).getD x 0) (fun x hx=>⟨hcn x hx.1,(can_cn.mp hx.1).2.2⟩) E hEd (fun y hy=>hcn y (hEc y hy)) hEm w0 (some (.s,nI h)) (some (.o .s,.lst ((dlL h (can P l) l).map nI))) (some (.d,.lst (bs.map bL))) (some (.d,bL (dlB h (can P l) l))) E [] aw (dlR h (can P l) l).reverse o8 o9 m4 rfl d.fz
 obtain ⟨hd',hr⟩:=Hd.next d (by rw [hE]; exact hF)
 rw [hr] at lp
 have g1:(bs.map bL).length < LIM:=by rw [a0e]; show _ < 16777215; omega
 have g2:bs.map bL++[bL (dlB h (can P l) l)]=(bs++[dlB h (can P l) l]).map bL:=by rw [a0R]; rfl
 have g3:=bR E
 refine ⟨aw',.s,m4',o8',o9',hd',?_⟩
 have hA:evSs (C (k+2)) (TW.take 1) [w0,some (m1,nI h),some (.o .s,.lst (l.map nI)),some (.o .s,.lst (aw.map nI)),some (m4,.lst (mS (ax P n n))),some (.d,.lst ((can P l).reverse.map nI)),some (.d,.lst (bs.map bL)),o7,o8,o9,none,none,none,none]=.nx [w0,some (.s,nI h),some (.o .s,.lst ((dlL h (can P l) l).map nI)),some (.o .s,.lst (aw.map nI)),some (m4,.lst (mS (ax P n n))),some (.d,.lst ((dlR h (can P l) l).reverse.map nI)),some (.d,.lst (bs.map bL)),some (.d,bL (dlB h (can P l) l)),o8,o9,none,none,none,none]:=by
  simp_all only [a1i,a1r,e1]
 show evSs (C (k+2)) (TW.take 1++TW.drop 1) _=_
 rw [go1 hA]
 simp_all only [a1w,a1l,e2,g3,lp,g1,g2]
noncomputable def wN (L:List T):List Nat:=L.map fun u=>(wOf u).toNat
theorem cc (L:List T):(wN L).length=L.length:=a0e _
theorem gY {L:List T}(hL:Sts L){k:Nat}(hk:k < L.length):0 < (wN L).getD k 0/\(wN L).getD k 0<=60:=by
 obtain ⟨i,j,w,ns,e,_,_,w1,w2,_⟩:=hL.st _ (kP hk)
 rw [a0b,a0i hk] at e
 have e:L[k]=_:=e
 rw [wN,a0b,a0t,a0i hk,e]
 show 0 < w.toNat/\w.toNat<=60
 omega
theorem B7 {L:List T}(hL:Sts L):(L.map fun u=>T.int (wOf u))=(wN L).map nI:=by
 rw [wN,a03]
 exact a1j fun u hu=>by
  obtain ⟨i,j,w,ns,rfl,_,_,w1,_⟩:=hL.st u hu
  show T.int w=.int ((w.toNat:Nat):Int)
  rw [a1v (by omega)]
theorem lJ:∀ (l:List Nat) (b:Nat),(∀ x∈l,x<=b)->aJ l<=b * l.length
 | [],_,_=>a0F _
 | x::l,b,h=>by
  have:=lJ l b fun y hy=>h y (a0c _ hy)
  have:=h x a0d
  show x+aJ l<=b * (l.length+1)
  rw [Nat.mul_add]
  omega
theorem oV {L:List T}(hL:Sts L):aJ (wN L)<=720:=by
 have h1:=lJ (wN L) 60 fun x hx=>by
  obtain ⟨i,hi,e⟩:=a1U.mp hx
  rw [cc] at hi
  have:=(gY hL hi).2
  rw [a0b,a0i (by rw [cc]; exact hi),e] at this
  exact this
 rw [cc] at h1
 have:=hL.len
 omega
theorem hd0 {L:List T}(hL:Sts L):Hd (PL L) L.length (wN L) ((a0p L.length).map fun m=>(PL L m).length):=by
 have g:∀ m,m < L.length->((a0p L.length).map fun m=>(PL L m).length).getD m 0=(PL L m).length:=fun m hm=>by
  rw [a0b,a0t,a1a hm]; rfl
 refine ⟨cc L,by rw [a0e,a0K],fun m hm=>?_,fun m hm _=>(gY hL hm).1⟩
 rw [g m hm,cn0]
 symm
 rw [List.countP_eq_length]
 intro p hp
 obtain ⟨_,_,_,_,h2,_⟩:=sr hL hm
 exact decide_eq_true (gY hL (h2 p hp)).1
theorem eM (k:Nat)(L:List T)(hL:Sts L)(h:Nat)(hh:0 < h)(m m':Md):C (k+3) 310 [(m,.lst L),(m',nI h)]=.ok ((.d,.lst ((tt (PL L) h 1000 (wN L)).map bL)),[]):=by
 have hn:=hL.len
 have c0:=vi (C (k+2)) 10 L hL.st [some (.s,.lst L),none,none,none,none,none,none,none,none,none,none,none,none,none] (fun _=>rfl) fun _=>rfl
 have t0:aI (L.map fun u=>((.s,.int (wOf u)):W))=(wN L).map nI:=by rw [kA,B7 hL]
 have c1:ay [11] (cu (evE (C (k+2)) (.op .len false [.op .ix false [.var 11,.cst (.int 3)]]))) (L.map fun t=>[((.s,t):W)]) [some (.s,.lst L),none,none,none,none,none,none,none,none,none,none,none,none,none] []=.ok ([]++L.map (fun u=>((.d,nI (ahT u).length):W)),[some (.s,.lst L),none,none,none,none,none,none,none,none,none,none,none,none,none]):=bP (fun u=>((.d,nI (ahT u).length):W)) L [] fun u hu=>⟨_,[some (.s,.lst L),none,none,none,none,none,none,none,none,none,none,some (.s,u),none,none],rfl,by
  obtain ⟨i,j,w,ns,rfl,_⟩:=hL.st u hu
  have e:ahT (.tup [.tup [.int (i:Int),.int (j:Int)],.tup [],.int w,.lst (ns.map T.int)])=ns.map T.int:=rfl
  rw [e]
  simp_all only [uI],rfl⟩
 generalize haw:(a0p L.length).map (fun m=>(PL L m).length)=aw
 have t1:aI (L.map fun u=>((.d,nI (ahT u).length):W))=aw.map nI:=by
  rw [aE (fun _=>Md.d) (fun u=>nI (ahT u).length) L,mL,<- haw,a03]
  exact a1j fun i _=>by show nI _=nI _; rw [vX]
 have d0:=hd0 hL
 rw [haw] at d0
 have e1:=A6 (k+1) L hL
 -- those that wait for none, falling
 have c2:ay [12] (bE (evE (C (k+2)) (.op .eq false [.op .ix false [.var 3,.var 12],.cst (.int 0)])) (evE (C (k+2)) (.var 12))) ((a0p L.length).map fun (j:Nat)=>[((.d,.int (((L.length:Nat):Int)-1-(j:Int))):W)]) [some (.s,.lst L),none,none,some (.s,.lst (aw.map nI)),none,none,none,none,none,none,none,none,none,none] []=.ok ([]++(a0p L.length).filterMap (fun j=>if aw.getD (L.length-1-j) 0==0 then some ((.d,nI (L.length-1-j)):W) else none),[some (.s,.lst L),none,none,some (.s,.lst (aw.map nI)),none,none,none,none,none,none,none,none,none,none]):=bU (fun j=>if aw.getD (L.length-1-j) 0==0 then some ((.d,nI (L.length-1-j)):W) else none) _ [] fun j hj=>by
  have hj':=a01.mp hj
  have ej:((L.length:Nat):Int)-1-(j:Int)=((L.length-1-j:Nat):Int):=by omega
  refine ⟨[some (.s,.lst L),none,none,some (.s,.lst (aw.map nI)),none,none,none,none,none,none,none,none,some (.d,nI (L.length-1-j)),none],[some (.s,.lst L),none,none,some (.s,.lst (aw.map nI)),none,none,none,none,none,none,none,none,some (.d,nI (L.length-1-j)),none],by rw [ej]; rfl,?_,rfl⟩
  have g:=bz (l:=aw) (m:=L.length-1-j) (by rw [d0.alen]; omega)
  have g2:=iO (aw.getD (L.length-1-j) 0) 0
  cases h0:aw.getD (L.length-1-j) 0==0 with
  | true =>
   rw [h0] at g2
   have g3:(((aw.getD (L.length-1-j) 0:Nat):Int)==0)=true:=g2
   rw [if_pos rfl]
   simp_all only [g,g3]
  | false =>
   rw [h0] at g2
   have g3:(((aw.getD (L.length-1-j) 0:Nat):Int)==0)=false:=g2
   rw [if_neg a0n]
   simp_all only [g,g3]
 have t2:=aX (fun j=>aw.getD (L.length-1-j) 0==0) (fun j=>((.d,nI (L.length-1-j)):W)) (a0p L.length)
 have t3:aI (((a0p L.length).filter fun j=>aw.getD (L.length-1-j) 0==0).map fun j=>((.d,nI (L.length-1-j)):W))=(can (PL L) (wN L)).reverse.map nI:=by
  rw [aE (fun _=>Md.d) (fun j=>nI (L.length-1-j))]
  have:(can (PL L) (wN L)).reverse=((a0p L.length).filter fun j=>aw.getD (L.length-1-j) 0==0).map fun j=>L.length-1-j:=by
   refine hZ fq ?_ fun x=>?_
   ·rw [a24]
    refine ((a2v (n:=L.length)).filter _).imp_of_mem fun {a b} ha hb hab=>?_
    have hb':=a01.mp (a02.mp hb).1
    show L.length-1-a > L.length-1-b
    omega
   ·rw [a2p,can_cn,cc]
    constructor
    ·rintro ⟨z1,z2,z3⟩
     refine a0B.mpr ⟨L.length-1-x,a02.mpr ⟨a01.mpr (by omega),?_⟩,by omega⟩
     rw [show L.length-1-(L.length-1-x)=x by omega,d0.aw x z1,z3]; rfl
    ·intro z
     obtain ⟨j,hj,e⟩:=a0B.mp z
     have hj':=a02.mp hj
     have hjl:=a01.mp hj'.1
     have e:L.length-1-j=x:=e
     have hx:x < L.length:=by omega
     rw [e,d0.aw x hx,beq_iff_eq] at hj'
     exact ⟨hx,(gY hL hx).1,hj'.2⟩
  rw [this,a03]
  rfl
 have t4:(((a0p L.length).filter fun j=>aw.getD (L.length-1-j) 0==0).map fun j=>((.d,nI (L.length-1-j)):W)).all okD=true:=a0A.mpr fun w hw=>by obtain ⟨_,_,rfl⟩:=a0B.mp hw; rfl
 have hs:=oV hL
 obtain ⟨η',lp,w0,o1,o2,o3,o4,o5,o7,o8,o9,rfl⟩:=dh (c:=evT (C (k+2)) (.q [5] []) (.var 5)) (f:=evSs (C (k+2)) TW)
  (fun r η=>∃ (l aw:List Nat) (bs:List (List (Nat×Nat))) (f:Nat) (m1 m4:Md) (o7 o8 o9:Option W),r=aJ l/\Hd (PL L) L.length l aw/\aJ l < f/\bs.length+aJ l<=720/\bs++tt (PL L) h f l=tt (PL L) h 1000 (wN L)/\η=[some (.s,.lst L),some (m1,nI h),some (.o .s,.lst (l.map nI)),some (.o .s,.lst (aw.map nI)),some (m4,.lst (mS (ax (PL L) L.length L.length))),some (.d,.lst ((can (PL L) l).reverse.map nI)),some (.d,.lst (bs.map bL)),o7,o8,o9,none,none,none,none])
  (fun η=>∃ (w0 o1 o2 o3 o4 o5 o7 o8 o9:Option W),η=[w0,o1,o2,o3,o4,o5,some (.d,.lst ((tt (PL L) h 1000 (wN L)).map bL)),o7,o8,o9,none,none,none,none])
  fE (aJ (wN L)) [some (.s,.lst L),some (m',nI h),some (.o .s,.lst ((wN L).map nI)),some (.o .s,.lst (aw.map nI)),some (.d,.lst (mS (ax (PL L) L.length L.length))),some (.d,.lst ((can (PL L) (wN L)).reverse.map nI)),some (.d,.lst []),none,none,none,none,none,none,none] (by show _ < 1000000000000; omega)
  ⟨wN L,aw,[],1000,m',.d,none,none,none,rfl,d0,by omega,by simp; omega,rfl,rfl⟩
  (fun r η ⟨l,aw,bs,f,m1,m4,o7,o8,o9,hr,d,hf,hb,e,he⟩=>by
   subst he
   cases f with
   | zero=>exact absurd hf (a1E _)
   | succ f =>
    by_cases hc:can (PL L) l=[]
    ·left
     have tr:a6 (.lst ((can (PL L) l).reverse.map nI))=some false:=by rw [hc]; rfl
     have e':bs=tt (PL L) h 1000 (wN L):=by
      rw [tt,if_pos hc,a0w] at e
      exact e
     exact ⟨_,by simp_all only [tr]; rfl,_,_,_,_,_,_,_,_,_,by rw [<- e']⟩
    ·right
     have tr:a6 (.lst ((can (PL L) l).reverse.map nI))=some true:=by
      rw [fM]
      cases hh:can (PL L) l with
      | nil=>exact absurd hh hc
      | cons a b=>simp
     obtain ⟨g1,g2,g3⟩:=vh (P:=PL L) (h:=h) (f:=f) (l:=l) hh hc hf
     obtain ⟨aw',m1',m4',o8',o9',d',run⟩:=zF k L.length h hn (PL L) l aw d bs (by omega) (some (.s,.lst L)) o7 o8 o9 m1 m4
     rw [g1] at e
     exact ⟨_,_,aJ (dlL h (can (PL L) l) l),by simp_all only [tr],run,by omega,dlL h (can (PL L) l) l,aw',bs++[dlB h (can (PL L) l) l],f,m1',m4',none,o8',o9',rfl,d',g2,by rw [a0g,a0r]; omega,by rw [a0J]; exact e,rfl⟩)
 have n1:-(1:Int)=-1:=rfl
 have r1:(((L.length:Nat):Int)-1-(-1)).toNat=L.length:=by omega
 have r2:(decide ((((L.length:Nat):Int)-1).natAbs < 4611686018427387904)&&decide ((-1:Int).natAbs < 4611686018427387904)&&decide True&&fits L.length)=true:=by
  rw [decide_eq_true (show (((L.length:Nat):Int)-1).natAbs < 4611686018427387904 by omega),show fits L.length=true from decide_eq_true (by show _<=16777215; omega)]
  rfl
 rw [gP,x_run _ _ _ rfl]
 simp_all only [bq,c0,t0,c1,t1,e1,n1,r1,r2,c2,t2,t3,t4,lp]
theorem kB (l:List Nat):dp (.lst (l.map nI))<=64:=by
 have:dps (l.map nI)<=0:=dH fun u hu=>by obtain ⟨_,_,rfl⟩:=a0B.mp hu; exact a0h _
 show dps (l.map nI)+1<=64
 omega
theorem lz (l:List Nat):eqT (.lst (l.map nI)) (.lst [])=l.isEmpty:=by cases l<;>rfl
theorem qe (l:List Nat)(m m':Md):oSem .eq false [(m,.lst (l.map nI)),(m',.lst [])]=some (.d,.bl l.isEmpty):=by
 show (if (decide (dp (.lst (l.map nI))<=64)&&decide (dp (.lst [])<=64))=true then some ((.d,.bl (eqT (.lst (l.map nI)) (.lst []))):W) else none)=_
 rw [decide_eq_true (kB l),lz]; rfl
theorem xI (l:List Nat)(m m':Md):oSem .ne false [(m,.lst (l.map nI)),(m',.lst [])]=some (.d,.bl (!l.isEmpty)):=by
 show (if (decide (dp (.lst (l.map nI))<=64)&&decide (dp (.lst [])<=64))=true then some ((.d,.bl (!eqT (.lst (l.map nI)) (.lst []))):W) else none)=_
 rw [decide_eq_true (kB l),lz]; rfl
theorem oe (k:Nat)(L:List T)(hL:Sts L)(l:List Nat)(hl:l.length=L.length)(m m':Md):C (k+1) 308 [(m,.lst L),(m',.lst (l.map nI))]=.ok ((.d,.lst ((can (PL L) l).map nI)),[]):=by
 have hn:=hL.len
 have c1:ay [2] (bE (evE (C k) (.and (.op .gt false [.op .ix false [.var 1,.var 2],.cst (.int 0)]) (.op .eq false [.comp false .seq [.op .ix false [.op .ix false [.var 0,.var 2],.cst (.int 3)]] [3] (some (.op .gt false [.op .ix false [.var 1,.var 3],.cst (.int 0)])) (.var 3),.lst false []]))) (evE (C k) (.var 2))) ((a0p L.length).map fun (i:Nat)=>[((.d,.int (i:Int)):W)]) [some (.s,.lst L),some (.s,.lst (l.map nI)),none,none] []=.ok ([]++(a0p L.length).filterMap (fun i=>if fy (PL L) l i then some ((.d,nI i):W) else none),[some (.s,.lst L),some (.s,.lst (l.map nI)),none,none]):=bU (fun i=>if fy (PL L) l i then some ((.d,nI i):W) else none) _ [] fun i hi=>by
  have hi':=a01.mp hi
  refine ⟨_,[some (.s,.lst L),some (.s,.lst (l.map nI)),some (.d,nI i),none],rfl,?_,rfl⟩
  have g1:=bz (l:=l) (m:=i) (by rw [hl]; exact hi')
  obtain ⟨a,b,w,e1,e2,e3⟩:=sr hL hi'
  have g2:=wK hi'
  rw [e1] at g2
  by_cases h0:0 < l.getD i 0
  ·have d1:decide (((l.getD i 0:Nat):Int) > 0)=true:=decide_eq_true (by omega)
   have c2:ay [3] (bE (evE (C k) (.op .gt false [.op .ix false [.var 1,.var 3],.cst (.int 0)])) (evE (C k) (.var 3))) ((PL L i).map fun j=>[((.s,nI j):W)]) [some (.s,.lst L),some (.s,.lst (l.map nI)),some (.d,nI i),none] []=.ok ([]++(PL L i).filterMap (fun j=>if decide (0 < l.getD j 0) then some ((.s,nI j):W) else none),[some (.s,.lst L),some (.s,.lst (l.map nI)),some (.d,nI i),none]):=bU (fun j=>if decide (0 < l.getD j 0) then some ((.s,nI j):W) else none) _ [] fun j hj=>by
    refine ⟨_,[some (.s,.lst L),some (.s,.lst (l.map nI)),some (.d,nI i),some (.s,nI j)],rfl,?_,rfl⟩
    have g3:=bz (l:=l) (m:=j) (by rw [hl]; exact e2 j hj)
    by_cases hj0:0 < l.getD j 0
    ·have d2:decide (((l.getD j 0:Nat):Int) > 0)=true:=decide_eq_true (by omega)
     rw [decide_eq_true hj0,if_pos rfl]
     simp_all only [g3,d2]
    ·have d2:decide (((l.getD j 0:Nat):Int) > 0)=false:=decide_eq_false (by omega)
     rw [decide_eq_false hj0,if_neg a0n]
     simp_all only [g3,d2]
   have t0:=bR (PL L i)
   have t1:=aX (fun j=>decide (0 < l.getD j 0)) (fun j=>((.s,nI j):W)) (PL L i)
   have t2:aI (((PL L i).filter fun j=>decide (0 < l.getD j 0)).map fun j=>((.s,nI j):W))=((PL L i).filter fun j=>decide (0 < l.getD j 0)).map nI:=aE (fun _=>Md.s) nI _
   have t3:=fun m m'=>qe ((PL L i).filter fun j=>decide (0 < l.getD j 0)) m m'
   have hb:fy (PL L) l i=((PL L i).filter fun j=>decide (0 < l.getD j 0)).isEmpty:=by
    rw [fy,decide_eq_true h0,a3C,Bool.eq_iff_iff,a0A,List.isEmpty_iff,List.filter_eq_nil_iff]
    exact ⟨fun z j hj=>by have:=z j hj; rw [beq_iff_eq] at this; rw [decide_eq_true_eq]; omega,fun z j hj=>by have:=z j hj; rw [decide_eq_true_eq] at this; rw [beq_iff_eq]; omega⟩
   rw [hb]
   cases hE:((PL L i).filter fun j=>decide (0 < l.getD j 0)).isEmpty with
   | true =>
    rw [hE] at t3
    rw [if_pos rfl]
    simp_all only [g1,d1,g2,uI,t0,c2,t1,t2,t3]
   | false =>
    rw [hE] at t3
    rw [if_neg a0n]
    simp_all only [g1,d1,g2,uI,t0,c2,t1,t2,t3]
  ·have d1:decide (((l.getD i 0:Nat):Int) > 0)=false:=decide_eq_false (by omega)
   have hb:fy (PL L) l i=false:=by rw [fy,decide_eq_false h0,a3p]
   rw [hb,if_neg a0n]
   simp_all only [g1,d1]
 have t1:=aX (fy (PL L) l) (fun i=>((.d,nI i):W)) (a0p L.length)
 have t2:aI (((a0p L.length).filter (fy (PL L) l)).map fun i=>((.d,nI i):W))=(can (PL L) l).map nI:=by
  rw [aE (fun _=>Md.d) nI,can,hl]
 have t3:(((a0p L.length).filter (fy (PL L) l)).map fun i=>((.d,nI i):W)).all okD=true:=a0A.mpr fun w hw=>by obtain ⟨_,_,rfl⟩:=a0B.mp hw; rfl
 have z1:(decide ((((L.length:Nat):Int)).natAbs < 4611686018427387904)&&fits L.length)=true:=by
  rw [decide_eq_true (show (((L.length:Nat):Int)).natAbs < 4611686018427387904 by omega),show fits L.length=true from decide_eq_true (by show _<=16777215; omega)]; rfl
 have z2:(((L.length:Nat):Int)).toNat=L.length:=a1o _
 rw [jE,x_run _ _ _ rfl]
 simp_all only [bQ,z1,z2,c1,t1,t2,t3]
noncomputable def smB (b:List (Nat×Nat)):Nat:=aJ (b.map (·.2))
theorem uh (b:List (Nat×Nat))(c m:Nat):smB (b++[(c,m)])=smB b+m:=by
 unfold smB
 rw [a0R]
 induction b with
 | nil=>show m+0=0+m; omega
 | cons q b ih =>
  show q.2+aJ (b.map (·.2)++[m])=q.2+aJ (b.map (·.2))+m
  have ih:aJ (b.map (·.2)++[m])=aJ (b.map (·.2))+m:=ih
  omega
theorem k8 (b:List (Nat×Nat)):bw (b.map cT)=some (b.map fun q=>[((.s,nI q.1):W),(.s,nI q.2)]):=by
 induction b with
 | nil=>rfl
 | cons q b ih=>show (bw (b.map cT)).map ([((.s,nI q.1):W),(.s,nI q.2)]::·)=_; rw [ih]; rfl
theorem i8:∀ l:List Nat,(l.map fun (i:Nat)=>(i:Int)).sum=((aJ l:Nat):Int)
 | []=>rfl
 | x::l=>by
  rw [a0x,a2m,i8 l]
  show (x:Int)+((aJ l:Nat):Int)=((x+aJ l:Nat):Int)
  omega
noncomputable abbrev UB:List S:=[
    .asg (.q [1,4] []) 6 (.op .sub false [.var 1,.op .sum false [.comp false .sq2 [.var 4] [9,10] none (.var 10)]]),
    .ite (.q [] [6]) (.op .gt false [.var 6,.cst (.int 0)]) [
     .app (.q [2,5] [6]) 4 (.tup [.var 5,.op .min false [.var 6,.op .ix false [.var 2,.var 5]]])] []]
theorem fR:∀ l:List Nat,intsOf (l.map nI)=some (l.map fun (i:Nat)=>(i:Int))
 | []=>rfl
 | x::l=>by show (intsOf (l.map nI)).map ((x:Int)::·)=_; rw [fR l]; rfl
theorem zK (k h c:Nat)(l:List Nat)(hc:c < l.length)(bt:List (Nat×Nat))(hs:smB bt<=h)(hb:bt.length < 500)(w0 w3 o6 o7:Option W)(m1:Md) :
  ∃ o6',evSs (C k) UB [w0,some (m1,nI h),some (.o .s,.lst (l.map nI)),w3,some (.o .s,bL bt),some (.s,nI c),o6,o7,none,none,none]=.nx [w0,some (m1,nI h),some (.o .s,.lst (l.map nI)),w3,some (.o .s,bL (if h-smB bt=0 then bt else bt++[(c,min (h-smB bt) (l.getD c 0))])),some (.s,nI c),o6',o7,none,none,none]:=by
 have c1:∀ w1:Option W,ay [9,10] (cu (evE (C k) (.var 10))) (bt.map fun q=>[((.s,nI q.1):W),(.s,nI q.2)]) [none,w1,none,none,some (.s,bL bt),none,none,none,none,none,none] []=.ok ([]++bt.map (fun q=>((.s,nI q.2):W)),[none,w1,none,none,some (.s,bL bt),none,none,none,none,none,none]):=fun w1=>bP (fun q=>((.s,nI q.2):W)) bt [] fun q hq=>⟨_,[none,w1,none,none,some (.s,bL bt),none,none,none,none,some (.s,nI q.1),some (.s,nI q.2)],rfl,by simp_all only [],rfl⟩
 have t0:=k8 bt
 have t1:aI (bt.map fun q=>((.s,nI q.2):W))=(bt.map (·.2)).map nI:=by rw [aE (fun _=>Md.s) (fun q:Nat×Nat=>nI q.2),a03]; rfl
 have t2:=fR (bt.map (·.2))
 have t3:=i8 (bt.map (·.2))
 have g1:((h:Nat):Int)-((aJ (bt.map (·.2)):Nat):Int)=((h-smB bt:Nat):Int):=by
  have:smB bt=aJ (bt.map (·.2)):=rfl
  omega
 have g2:=bz hc
 generalize (bt.map (·.2)).map (fun (i:Nat)=>(i:Int))=ns at t2 t3
 by_cases h0:h-smB bt=0
 ·have d:decide (((h-smB bt:Nat):Int) > 0)=false:=decide_eq_false (by omega)
  exact ⟨_,by rw [if_pos h0]; simp_all only [ky,t0,c1,t1,t2,t3,g1,d]; rfl⟩
 ·have d:decide (((h-smB bt:Nat):Int) > 0)=true:=decide_eq_true (by omega)
  have g3:(if ((l.getD c 0:Nat):Int) < ((h-smB bt:Nat):Int) then ((l.getD c 0:Nat):Int) else ((h-smB bt:Nat):Int))=((min (h-smB bt) (l.getD c 0):Nat):Int):=by split<;>omega
  have g5:(bt.map cT).length < LIM:=by rw [a0e]; exact Ax (by omega)
  have g6:bt.map cT++[T.tup [nI c,nI (min (h-smB bt) (l.getD c 0))]]=(bt++[(c,min (h-smB bt) (l.getD c 0))]).map cT:=by rw [a0R]; rfl
  exact ⟨_,by rw [if_neg h0]; simp_all only [ky,t0,c1,t1,t2,t3,g1,d,g2,g3,g5,g6]; rfl⟩
noncomputable def dlC:Nat->List Nat->List Nat->List (Nat×Nat)
 | _,[],_=>[]
 | f,c::cs,l=>if f=0 then [] else (c,min f (l.getD c 0))::dlC (f-min f (l.getD c 0)) cs l
theorem Af (cs l:List Nat):dlC 0 cs l=[]:=by cases cs<;>rfl
theorem i9 (f c:Nat)(cs l:List Nat):dlC f (c::cs) l=if f=0 then [] else (c,min f (l.getD c 0))::dlC (f-min f (l.getD c 0)) cs l:=rfl
theorem vG:∀ (cs:List Nat) (f:Nat) (l l':List Nat),cs.Nodup->(∀ c∈cs,c < l'.length)->(∀ c∈cs,l'.getD c 0=l.getD c 0)->dlB f cs l'=dlC f cs l
 | [],_,_,_,_,_,_=>rfl
 | c::cs,f,l,l',nd,hl,h=>by
  rw [cX,i9]
  split
  ·rfl
  ·rw [h c a0d]
   congr 1
   exact vG cs _ l _ (a0H.mp nd).2 (fun d hd=>by rw [a0D]; exact hl d (a0c _ hd)) fun d hd=>by
    rw [aR l' c d _ (hl c a0d),if_neg (show ¬ c=d from fun z=>(a0H.mp nd).1 (by rw [z]; exact hd))]
    exact h d (a0c _ hd)
theorem kU (k h:Nat)(l:List Nat)(w0 w3 o7:Option W)(m1:Md):∀ (cs:List Nat) (bt:List (Nat×Nat)) (o5 o6:Option W),(∀ c∈cs,c < l.length)->smB bt<=h->bt.length+cs.length < 500 ->
  ∃ o5' o6',bf [5] (evSs (C k) UB) (cs.map fun i=>[((.s,nI i):W)]) [w0,some (m1,nI h),some (.o .s,.lst (l.map nI)),w3,some (.o .s,bL bt),o5,o6,o7,none,none,none]=.nx [w0,some (m1,nI h),some (.o .s,.lst (l.map nI)),w3,some (.o .s,bL (bt++dlC (h-smB bt) cs l)),o5',o6',o7,none,none,none]
 | [],bt,o5,o6,_,_,_=>⟨o5,o6,by show _=Fl.nx [_,_,_,_,some (.o .s,bL (bt++[])),_,_,_,_,_,_]; rw [a0w]; rfl⟩
 | c::cs,bt,o5,o6,hc,hs,hb=>by
  rw [a0f] at hb
  obtain ⟨o6',e⟩:=zK k h c l (hc c a0d) bt hs (by omega) w0 w3 o6 o7 m1
  have hc':∀ d∈cs,d < l.length:=fun d hd=>hc d (a0c _ hd)
  have go:∀ bt':List (Nat×Nat),smB bt'<=h->bt'.length+cs.length < 500->bt'++dlC (h-smB bt') cs l=bt++dlC (h-smB bt) (c::cs) l->evSs (C k) UB [w0,some (m1,nI h),some (.o .s,.lst (l.map nI)),w3,some (.o .s,bL bt),some (.s,nI c),o6,o7,none,none,none]=.nx [w0,some (m1,nI h),some (.o .s,.lst (l.map nI)),w3,some (.o .s,bL bt'),some (.s,nI c),o6',o7,none,none,none]->∃ o5' o6',bf [5] (evSs (C k) UB) ((c::cs).map fun i=>[((.s,nI i):W)]) [w0,some (m1,nI h),some (.o .s,.lst (l.map nI)),w3,some (.o .s,bL bt),o5,o6,o7,none,none,none]=.nx [w0,some (m1,nI h),some (.o .s,.lst (l.map nI)),w3,some (.o .s,bL (bt++dlC (h-smB bt) (c::cs) l)),o5',o6',o7,none,none,none]:=fun bt' h1 h2 h3 e=>by
   obtain ⟨o5',o6'',lp⟩:=kU k h l w0 w3 o7 m1 cs bt' (some (.s,nI c)) o6' hc' h1 h2
   refine ⟨o5',o6'',?_⟩
   show Fl.turn (evSs (C k) UB [w0,some (m1,nI h),some (.o .s,.lst (l.map nI)),w3,some (.o .s,bL bt),some (.s,nI c),o6,o7,none,none,none]) (bf [5] (evSs (C k) UB) (cs.map fun i=>[((.s,nI i):W)]))=_
   rw [e,<- h3]
   exact lp
  by_cases h0:h-smB bt=0
  ·rw [if_pos h0] at e
   exact go bt hs (by omega) (by rw [h0,Af,Af]) e
  ·rw [if_neg h0] at e
   have sm:=uh bt c (min (h-smB bt) (l.getD c 0))
   refine go _ (by omega) (by rw [a0g,a0r]; omega) ?_ e
   rw [sm,i9,if_neg h0,a0J,show h-(smB bt+min (h-smB bt) (l.getD c 0))=h-smB bt-min (h-smB bt) (l.getD c 0) by omega]
   rfl
noncomputable abbrev VB:List S:=[.setI (.q [2,5] [7]) 2 (.var 5) (.op .sub false [.op .ix false [.var 2,.var 5],.var 7])]
theorem lE (k:Nat)(w0 w1 w3 w4 w6:Option W):∀ (cs:List Nat) (f:Nat) (l:List Nat) (o5 o7:Option W),(∀ c∈cs,c < l.length) ->
  ∃ o5' o7',bf [5,7] (evSs (C k) VB) ((dlB f cs l).map fun q=>[((.s,nI q.1):W),(.s,nI q.2)]) [w0,w1,some (.o .s,.lst (l.map nI)),w3,w4,o5,w6,o7,none,none,none]=.nx [w0,w1,some (.o .s,.lst ((dlL f cs l).map nI)),w3,w4,o5',w6,o7',none,none,none]
 | [],f,l,o5,o7,_=>⟨o5,o7,rfl⟩
 | c::cs,f,l,o5,o7,hc=>by
  rw [cX,iL]
  by_cases h0:f=0
  ·rw [if_pos h0,if_pos h0]; exact ⟨o5,o7,rfl⟩
  ·rw [if_neg h0,if_neg h0]
   have hcl:=hc c a0d
   obtain ⟨o5',o7',lp⟩:=lE k w0 w1 w3 w4 w6 cs (f-min f (l.getD c 0)) (l.set c (l.getD c 0-min f (l.getD c 0))) (some (.s,nI c)) (some (.s,nI (min f (l.getD c 0)))) fun d hd=>by rw [a0D]; exact hc d (a0c _ hd)
   refine ⟨o5',o7',?_⟩
   have g1:=bz hcl
   have g2:=gS hcl
   have g3:((l.getD c 0:Nat):Int)-((min f (l.getD c 0):Nat):Int)=((l.getD c 0-min f (l.getD c 0):Nat):Int):=by omega
   have g4:=gI l c (l.getD c 0-min f (l.getD c 0))
   have e:evSs (C k) VB [w0,w1,some (.o .s,.lst (l.map nI)),w3,w4,some (.s,nI c),w6,some (.s,nI (min f (l.getD c 0))),none,none,none]=.nx [w0,w1,some (.o .s,.lst ((l.set c (l.getD c 0-min f (l.getD c 0))).map nI)),w3,w4,some (.s,nI c),w6,some (.s,nI (min f (l.getD c 0))),none,none,none]:=by
    simp_all only [g1,g2,g3,g4]
   show Fl.turn (evSs (C k) VB [w0,w1,some (.o .s,.lst (l.map nI)),w3,w4,some (.s,nI c),w6,some (.s,nI (min f (l.getD c 0))),none,none,none]) (bf [5,7] (evSs (C k) VB) ((dlB (f-min f (l.getD c 0)) cs (l.set c (l.getD c 0-min f (l.getD c 0)))).map fun q=>[((.s,nI q.1):W),(.s,nI q.2)]))=_
   rw [e]
   exact lp
noncomputable abbrev UW:List S:=[
   .asg (.q [] []) 4 (.lst false []),
   .forU .seq [.qx [0,2] [] (.call 308 [.var 0,.var 2])] [5] UB,
   .forS [4] [] .sq2 [.var 4] [5,7] VB,
   .app (.q [4] []) 3 (.var 4)]
noncomputable abbrev UC:E:=.op .ne false [.qx [0,2] [] (.call 308 [.var 0,.var 2]),.lst false []]
theorem zQ (k h:Nat)(L:List T)(hL:Sts L)(l:List Nat)(hl:l.length=L.length)(bs:List (List (Nat×Nat)))(hb:bs.length < 10000)(o4 o5 o6 o7:Option W)(m0 m1:Md) :
  ∃ m0' o4' o5' o6' o7',evSs (C (k+1)) UW [some (m0,.lst L),some (m1,nI h),some (.o .s,.lst (l.map nI)),some (.o .s,.lst (bs.map bL)),o4,o5,o6,o7,none,none,none]=.nx [some (m0',.lst L),some (m1,nI h),some (.o .s,.lst ((dlL h (can (PL L) l) l).map nI)),some (.o .s,.lst ((bs++[dlB h (can (PL L) l) l]).map bL)),o4',o5',o6',o7',none,none,none]:=by
 have hn:=hL.len
 have hcl:∀ c∈can (PL L) l,c < l.length:=fun c hc=>(can_mem.mp hc).1
 have hfew:(can (PL L) l).length<=12:=a0u (fk L.length _ dF fun c hc=>by rw [<- hl]; exact hcl c hc) hn
 have e1:=fun m m'=>oe k L hL l hl m m'
 have g3:=bR (can (PL L) l)
 obtain ⟨o5',o6',lp1⟩:=kU (k+1) h l (some (m0,.lst L)) (some (.o .s,.lst (bs.map bL))) o7 m1 (can (PL L) l) [] o5 o6 hcl (a0F _) (by simp; omega)
 have z0:h-smB []=h:=rfl
 rw [z0,a0V,<- vG (can (PL L) l) h l l dF hcl fun _ _=>rfl] at lp1
 have lp1:bf [5] (evSs (C (k+1)) UB) ((can (PL L) l).map fun i=>[((.s,nI i):W)]) [some (m0,.lst L),some (m1,nI h),some (.o .s,.lst (l.map nI)),some (.o .s,.lst (bs.map bL)),some (.o .s,.lst []),o5,o6,o7,none,none,none]=_:=lp1
 have t0:=k8 (dlB h (can (PL L) l) l)
 obtain ⟨o5'',o7',lp2⟩:=lE (k+1) (some (m0,.lst L)) (some (m1,nI h)) (some (.o .s,.lst (bs.map bL))) (some (.s,bL (dlB h (can (PL L) l) l))) o6' (can (PL L) l) h l o5' o7 hcl
 have g1:(bs.map bL).length < LIM:=by rw [a0e]; show _ < 16777215; omega
 have g2:bs.map bL++[bL (dlB h (can (PL L) l) l)]=(bs++[dlB h (can (PL L) l) l]).map bL:=by rw [a0R]; rfl
 exact ⟨_,_,_,_,_,by simp_all only [e1,g3,lp1,ky,t0,lp2,g1,g2]; rfl⟩
theorem yU (k:Nat)(L:List T)(hL:Sts L)(h:Nat)(hh:0 < h)(m m':Md):C (k+2) 312 [(m,.lst L),(m',nI h)]=.ok ((.o .s,.lst ((tt (PL L) h 1000 (wN L)).map bL)),[]):=by
 have hn:=hL.len
 have c0:=vi (C (k+1)) 8 L hL.st [some (.s,.lst L),none,none,none,none,none,none,none,none,none,none] (fun _=>rfl) fun _=>rfl
 have t0:aI (L.map fun u=>((.s,.int (wOf u)):W))=(wN L).map nI:=by rw [kA,B7 hL]
 have hs:=oV hL
 obtain ⟨η',lp,w0,o1,o2,o4,o5,o6,o7,rfl⟩:=dh (c:=evT (C (k+1)) (.l []) UC) (f:=evSs (C (k+1)) UW)
  (fun r η=>∃ (l:List Nat) (bs:List (List (Nat×Nat))) (f:Nat) (m0 m1:Md) (o4 o5 o6 o7:Option W),r=aJ l/\l.length=L.length/\aJ l < f/\bs.length+aJ l<=720/\bs++tt (PL L) h f l=tt (PL L) h 1000 (wN L)/\η=[some (m0,.lst L),some (m1,nI h),some (.o .s,.lst (l.map nI)),some (.o .s,.lst (bs.map bL)),o4,o5,o6,o7,none,none,none])
  (fun η=>∃ (w0 o1 o2 o4 o5 o6 o7:Option W),η=[w0,o1,o2,some (.o .s,.lst ((tt (PL L) h 1000 (wN L)).map bL)),o4,o5,o6,o7,none,none,none])
  fE (aJ (wN L)) [some (.s,.lst L),some (m',nI h),some (.o .s,.lst ((wN L).map nI)),some (.o .s,.lst []),none,none,none,none,none,none,none] (by show _ < 1000000000000; omega)
  ⟨wN L,[],1000,.s,m',none,none,none,none,rfl,cc L,by omega,by simp; omega,rfl,rfl⟩
  (fun r η ⟨l,bs,f,m0,m1,o4,o5,o6,o7,hr,hl,hf,hb,e,he⟩=>by
   subst he
   have e1:=fun m m'=>oe k L hL l hl m m'
   have e2:=fun m m'=>xI (can (PL L) l) m m'
   cases f with
   | zero=>exact absurd hf (a1E _)
   | succ f =>
    by_cases hc:can (PL L) l=[]
    ·left
     have tr:(!(can (PL L) l).isEmpty)=false:=by rw [hc]; rfl
     rw [tr] at e2
     have e':bs=tt (PL L) h 1000 (wN L):=by
      rw [tt,if_pos hc,a0w] at e
      exact e
     exact ⟨_,by simp_all only [e1,e2]; rfl,_,_,_,_,_,_,_,by rw [<- e']⟩
    ·right
     have tr:(!(can (PL L) l).isEmpty)=true:=by
      cases hq:can (PL L) l with
      | nil=>exact absurd hq hc
      | cons a b=>rfl
     rw [tr] at e2
     obtain ⟨g1,g2,g3⟩:=vh (P:=PL L) (h:=h) (f:=f) (l:=l) hh hc hf
     obtain ⟨m0',o4',o5',o6',o7',run⟩:=zQ k h L hL l hl bs (by omega) o4 o5 o6 o7 m0 m1
     rw [g1] at e
     exact ⟨_,_,aJ (dlL h (can (PL L) l) l),by simp_all only [e1,e2],run,by omega,dlL h (can (PL L) l) l,bs++[dlB h (can (PL L) l) l],f,m0',m1,o4',o5',o6',o7',rfl,by rw [cY]; exact hl,g2,by rw [a0g,a0r]; omega,by rw [a0J]; exact e,rfl⟩)
 rw [kh,x_run _ _ _ rfl]
 simp_all only [bS,c0,t0,lp]
noncomputable def Bt (b:List (Nat×Nat)):Prop:=b.length<=12/\∀ q∈b,q.1 < 12/\q.2<=20
theorem k9:∀ (cs:List Nat) (f:Nat) (l:List Nat) (q:Nat×Nat),q∈dlB f cs l->q.2<=f
 | [],_,_,_,h=>by cases h
 | c::cs,f,l,q,h=>by
  rw [cX] at h
  split at h
  ·cases h
  ·rcases a0q.mp h with e | e
   ·rw [e]; exact Nat.min_le_left _ _
   ·exact a0u (k9 cs _ _ q e) (Nat.sub_le _ _)
theorem eY (P:Nat->List Nat)(h:Nat):∀ (f:Nat) (l:List Nat),(tt P h f l).length<=f
 | 0,_=>a0h _
 | f+1,l=>by
  rw [tt]
  split
  ·exact a0F _
  ·rw [a0f]; exact a1s (eY P h f _)
theorem lD (P:Nat->List Nat)(h:Nat)(hh:h<=20):∀ (f:Nat) (l:List Nat),l.length<=12->∀ b∈tt P h f l,Bt b
 | 0,_,_,b,hb=>by cases hb
 | f+1,l,hl,b,hb=>by
  rw [tt] at hb
  split at hb
  ·cases hb
  ·have hcl:∀ c∈can P l,c < l.length:=fun c hc=>(can_mem.mp hc).1
   rcases a0q.mp hb with e | e
   ·rw [e]
    refine ⟨a0u (lN _ _ _) (a0u (fk l.length _ dF hcl) hl),fun q hq=>⟨?_,a0u (k9 _ _ _ q hq) hh⟩⟩
    have:=hcl q.1 (cH _ _ _ q.1 q.2 hq)
    omega
   ·exact lD P h hh f _ (by rw [cY]; exact hl) b e
theorem r_b {b:List (Nat×Nat)}(h:Bt b):rOk (bL b)=true/\dp (bL b)<=2/\szR (bL b)<=2524:=by
 refine ⟨rOks_all.mpr fun t ht=>?_,?_,?_⟩
 ·obtain ⟨q,hq,rfl⟩:=a0B.mp ht
  have:=h.2 q hq
  show (decide (((q.1:Nat):Int).natAbs < 10000000000000000000)&&(decide (((q.2:Nat):Int).natAbs < 10000000000000000000)&&true))=true
  rw [decide_eq_true (by omega),decide_eq_true (by omega)]; rfl
 ·have:dps (b.map cT)<=1:=dH fun u hu=>by obtain ⟨_,_,rfl⟩:=a0B.mp hu; exact a0h _
  show dps (b.map cT)+1<=2
  omega
 ·have:∀ c:List (Nat×Nat),szRs (c.map cT)=210 * c.length:=fun c=>by
   induction c with
   | nil=>rfl
   | cons q c ih=>show (100+2+(100+2+0)+4)+2+szRs (c.map cT)=_; rw [ih,a0f]; omega
  have h1:=h.1
  show szRs (b.map cT)+4<=2524
  rw [this]; omega
theorem yA {bs:List (List (Nat×Nat))}(h:∀ b∈bs,Bt b)(hl:bs.length<=1000):(decide (dp (.lst (bs.map bL))<=64)&&rOk (.lst (bs.map bL))&&fits (szR (.lst (bs.map bL))))=true:=by
 have a:dp (.lst (bs.map bL))<=64:=by
  have:dps (bs.map bL)<=2:=dH fun u hu=>by obtain ⟨b,hb,rfl⟩:=a0B.mp hu; exact (r_b (h b hb)).2.1
  show dps (bs.map bL)+1<=64
  omega
 have b:rOk (.lst (bs.map bL))=true:=rOks_all.mpr fun t ht=>by obtain ⟨b,hb,rfl⟩:=a0B.mp ht; exact (r_b (h b hb)).1
 have c:szRs (bs.map bL)<=2526 * bs.length:=by
  clear a b hl
  induction bs with
  | nil=>exact a0F _
  | cons x bs ih =>
   have h1:=(r_b (h x a0d)).2.2
   have h2:=ih fun y hy=>h y (a0c _ hy)
   show szR (bL x)+2+szRs (bs.map bL)<=_
   rw [a0f]
   omega
 rw [decide_eq_true a,b]
 exact decide_eq_true (by show szRs (bs.map bL)+4<=16777215; omega)
theorem rp1 {L:List T}(hL:Sts L):(decide (dp (.lst L)<=64)&&rOk (.lst L)&&fits (szR (.lst L)))=true:=by
 have d1:=CN hL
 have r1:rOk (.lst L)=true:=rOks_all.mpr fun t ht=>yY hL.len (hL.st t ht)
 have s1:=CB fun t ht=>Bu (hL.st t ht)
 have hl:=hL.len
 have c:szR (.lst L)<=16777215:=by show szRs L+4<=16777215; omega
 rw [decide_eq_true (show dp (.lst L)<=64 by omega),r1]
 exact decide_eq_true c
theorem oj {α:Type}(ts:List α)(a:Nat):cut ts none (some (a:Int))=ts.take a:=by
 have e1:sIx ts.length ts.length (some (a:Int))=min a ts.length:=by
  show (if (a:Int) < 0 then ((a:Int)+(ts.length:Int)).toNat else min (a:Int).toNat ts.length)=_
  rw [if_neg (by omega),a1o]
 have e2:sIx ts.length 0 none=0:=rfl
 rw [cut,e1,e2,a1l,Nat.sub_zero]
 rcases a3O a ts.length with h | h
 ·rw [a3o h]
 ·rw [a3k h,a0Z (a0h _),a0Z h]
theorem vK {α:Type}(ts:List α)(a:Nat):cut ts (some (a:Int)) none=ts.drop a:=by
 have e1:sIx ts.length 0 (some (a:Int))=min a ts.length:=by
  show (if (a:Int) < 0 then ((a:Int)+(ts.length:Int)).toNat else min (a:Int).toNat ts.length)=_
  rw [if_neg (by omega),a1o]
 have e2:sIx ts.length ts.length none=ts.length:=rfl
 rw [cut,e1,e2]
 rcases a3O a ts.length with h | h
 ·rw [a3o h,a0Z (by rw [a0X]; omega)]
 ·rw [a3k h,a2w (a0h _),a2w h]; simp
theorem vx {bs:List (List (Nat×Nat))}{a:Nat}(h:a < bs.length):ixN (bs.map bL).length (a:Int)=some a:=by
 unfold ixN
 rw [a0e,if_pos (by omega),if_pos (by omega)]
 simp
theorem yM {bs:List (List (Nat×Nat))}{a:Nat}(h:a < bs.length)(hb:(bs.getD a []).length<=100)(m:Md):jN [.int 0,.int 0] (some (.d,.lst (bs.map bL))) (some (m,nI a))=some (.d,.lst ((bs.map bL).set a (bL (bs.getD a []++[(0,0)])))):=by
 show (ixN (bs.map bL).length (a:Int)).bind (fun q=>u0 (bs.map bL) q [.int 0,.int 0] (bs.map bL)[q]?)=_
 rw [vx h]
 show u0 (bs.map bL) a [.int 0,.int 0] (bs.map bL)[a]?=_
 have e:(bs.map bL)[a]?=some (bL (bs.getD a [])):=by rw [a0t,a0b,a0i h]; rfl
 rw [e]
 show (if (decide (((bs.getD a []).map cT).length < LIM)&&true&&true)=true then some ((.d,.lst ((bs.map bL).set a (.lst ((bs.getD a []).map cT++[.tup [.int 0,.int 0]])))):W) else none)=_
 rw [a0e,decide_eq_true (show (bs.getD a []).length < LIM by show _ < 16777215; omega)]
 show some ((.d,.lst ((bs.map bL).set a (.lst ((bs.getD a []).map cT++[.tup [.int 0,.int 0]])))):W)=_
 rw [show bL (bs.getD a []++[(0,0)])=.lst ((bs.getD a []).map cT++[.tup [.int 0,.int 0]]) by show T.lst ((bs.getD a []++[(0,0)]).map cT)=_; rw [a0R]; rfl]
theorem uC {bs:List (List (Nat×Nat))}{a:Nat}(h:a < bs.length)(m:Md):ek (some (.d,.lst ((bs.map bL).set a (bL (bs.getD a []++[(0,0)]))))) (some (m,nI a))=some (.d,.lst (bs.map bL)):=by
 have hl:a < (bs.map bL).length:=by rw [a0e]; exact h
 show (ixN ((bs.map bL).set a (bL (bs.getD a []++[(0,0)]))).length (a:Int)).bind (fun q=>kE ((bs.map bL).set a (bL (bs.getD a []++[(0,0)]))) q ((bs.map bL).set a (bL (bs.getD a []++[(0,0)])))[q]?)=_
 rw [a0D,vx h]
 show kE ((bs.map bL).set a (bL (bs.getD a []++[(0,0)]))) a ((bs.map bL).set a (bL (bs.getD a []++[(0,0)])))[a]?=_
 rw [a1b hl]
 show (if ((bs.getD a []++[(0,0)]).map cT).isEmpty=true then none else some ((.d,.lst (((bs.map bL).set a (bL (bs.getD a []++[(0,0)]))).set a (.lst ((bs.getD a []++[(0,0)]).map cT).dropLast))):W))=_
 rw [if_neg (by simp),List.set_set,a0R,show ((bs.getD a []).map cT++[((0,0):Nat×Nat)].map cT).dropLast=(bs.getD a []).map cT from a2L]
 congr 3
 have e:(bs.map bL)[a]?=some (bL (bs.getD a [])):=by rw [a0t,a0b,a0i h]; rfl
 rw [a0i hl] at e
 have e:(bs.map bL)[a]=.lst ((bs.getD a []).map cT):=by injection e
 rw [<- e]
 exact List.set_getElem_self hl
noncomputable abbrev AB:List S:=[
    .apC 6 8 [.int 0,.int 0],
    .ite (.q [6,7,8] []) (.op .ne false [.op .repr false [.op .add false [.op .sl2 false [.var 6,.var 8],.op .sl1 false [.var 6,.op .add false [.var 8,.cst (.int 1)]]]],.op .repr false [.op .add false [.op .sl2 false [.var 7,.var 8],.op .sl1 false [.var 7,.op .add false [.var 8,.cst (.int 1)]]]]]) [
     .ret [] (.cst (.bl false))] [],
    .popI 6 8]
theorem CA (bs:List (List (Nat×Nat)))(hb:∀ b∈bs,Bt b)(hl:bs.length<=1000)(a:Nat)(ha:a < bs.length)(w0 w1 w2 w3 w4 w5 o9:Option W)(m7:Md) :
  evSs (C 39) AB [w0,w1,w2,w3,w4,w5,some (.d,.lst (bs.map bL)),some (m7,.lst (bs.map bL)),some (.s,nI a),o9]=.nx [w0,w1,w2,w3,w4,w5,some (.d,.lst (bs.map bL)),some (m7,.lst (bs.map bL)),some (.s,nI a),o9]:=by
 have hba:(bs.getD a []).length<=100:=by
  have hm:bs.getD a []∈bs:=by rw [a0b,a0i ha]; exact a1Q _
  have:=(hb _ hm).1
  omega
 have p1:=yM ha hba .s
 have p2:=uC ha .s
 generalize hX:bL (bs.getD a []++[(0,0)])=X at p1 p2
 have k1:cut ((bs.map bL).set a X) none (some (a:Int))=(bs.take a).map bL:=by
  rw [oj,List.take_set_of_le (a0h _),a2k]
 have n1:(a:Int)+1=((a+1:Nat):Int):=by omega
 have k2:cut ((bs.map bL).set a X) (some ((a+1:Nat):Int)) none=(bs.drop (a+1)).map bL:=by
  rw [vK,List.drop_set_of_lt (a2o _),a2l]
 have k3:cut (bs.map bL) none (some (a:Int))=(bs.take a).map bL:=by rw [oj,a2k]
 have k4:cut (bs.map bL) (some ((a+1:Nat):Int)) none=(bs.drop (a+1)).map bL:=by rw [vK,a2l]
 have k5:fits (((bs.take a).map bL).length+((bs.drop (a+1)).map bL).length)=true:=decide_eq_true (by
  rw [a0e,a0e,a0W,a0X]
  show _<=16777215
  omega)
 have k6:(bs.take a).map bL++(bs.drop (a+1)).map bL=(bs.take a++bs.drop (a+1)).map bL:=a0R.symm
 have k7:=yA (bs:=bs.take a++bs.drop (a+1)) (fun b hb'=>(a0T.mp hb').elim (fun z=>hb b (a1S z)) fun z=>hb b (a1q z)) (by rw [a0g,a0W,a0X]; omega)
 simp_all only [p1,k1,n1,k2,k3,k4,k5,k6,k7,bss,p2]
theorem kx (bs:List (List (Nat×Nat)))(hb:∀ b∈bs,Bt b)(hl:bs.length<=1000)(w0 w1 w2 w3 w4 w5 o9:Option W)(m7:Md):∀ (as:List Nat) (o8:Option W),(∀ a∈as,a < bs.length) ->
  ∃ o8',bf [8] (evSs (C 39) AB) (as.map fun i=>[((.s,nI i):W)]) [w0,w1,w2,w3,w4,w5,some (.d,.lst (bs.map bL)),some (m7,.lst (bs.map bL)),o8,o9]=.nx [w0,w1,w2,w3,w4,w5,some (.d,.lst (bs.map bL)),some (m7,.lst (bs.map bL)),o8',o9]
 | [],o8,_=>⟨o8,rfl⟩
 | a::as,o8,h=>by
  have e:=CA bs hb hl a (h a a0d) w0 w1 w2 w3 w4 w5 o9 m7
  obtain ⟨o8',lp⟩:=kx bs hb hl w0 w1 w2 w3 w4 w5 o9 m7 as (some (.s,nI a)) fun c hc=>h c (a0c _ hc)
  refine ⟨o8',?_⟩
  show Fl.turn (evSs (C 39) AB [w0,w1,w2,w3,w4,w5,some (.d,.lst (bs.map bL)),some (m7,.lst (bs.map bL)),some (.s,nI a),o9]) (bf [8] (evSs (C 39) AB) (as.map fun i=>[((.s,nI i):W)]))=_
  rw [e]
  exact lp
theorem ats (n:Nat):∃ as:List Nat,(∀ a∈as,a < n)/\cut [T.int 0,T.int (((n:Nat):Int) / 2)] none (some ((n:Nat):Int))=as.map nI:=by
 have e:((n:Nat):Int) / 2=((n / 2:Nat):Int):=by omega
 rw [oj,e]
 match n with
 | 0=>exact ⟨[],fun _ z=>(nomatch z),rfl⟩
 | 1=>exact ⟨[0],fun a ha=>by rw [a0E.mp ha]; decide,rfl⟩
 | n+2=>exact ⟨[0,(n+2) / 2],fun a ha=>by
   rcases a0q.mp ha with z | z
   ·omega
   ·rw [a0E.mp z]; omega,a0Z (by simp)⟩
noncomputable abbrev YA:List S:=[
   .asg (.q [3] []) 5 (.op .repr false [.var 3]),
   .asg (.q [3,4] []) 6 (.call 310 [.var 3,.var 4]),
   .asg (.q [3,4] []) 7 (.call 312 [.var 3,.var 4]),
   .ite (.q [3,5,6,7] []) (.or (.not (.op (.isI ["list"]) false [.var 6])) (.or (.op .ne false [.op .repr false [.var 6],.op .repr false [.var 7]]) (.op .ne false [.op .repr false [.var 3],.var 5]))) [
    .ret [] (.cst (.bl false))] []]
theorem BO (L:List T)(hL:Sts L)(h:Nat)(h1:1<=h)(h2:h<=20)(w0 w1 w2 o5 o6 o7 o8 o9:Option W)(m4:Md) :
  ∃ m4' m7,evSs (C 39) YA [w0,w1,w2,some (.s,.lst L),some (m4,nI h),o5,o6,o7,o8,o9]=.nx [w0,w1,w2,some (.s,.lst L),some (m4',nI h),some (.d,.str (datT (.lst L)).shown),some (.d,.lst ((tt (PL L) h 1000 (wN L)).map bL)),some (m7,.lst ((tt (PL L) h 1000 (wN L)).map bL)),o8,o9]:=by
 have rp:=rp1 hL
 have rb:=yA (lD (PL L) h h2 1000 (wN L) (by rw [cc]; exact hL.len)) (eY (PL L) h 1000 (wN L))
 have e1:=fun m m'=>eM 36 L hL h (by omega) m m'
 have e2:=fun m m'=>yU 37 L hL h (by omega) m m'
 generalize tt (PL L) h 1000 (wN L)=bs at rb e1 e2
 exact ⟨_,_,by simp_all only [rp,e1,e2,rb,CT,bss]; rfl⟩
noncomputable abbrev YB:List S:=[
   .forU .seq [.qx [6] [] (.op .sl2 true [.lst true [.cst (.int 0),.op .fdiv false [.op .len false [.var 6],.cst (.int 2)]],.op .len false [.var 6]])] [8] AB]
noncomputable abbrev YC:List S:=[
   .clrA 6 9,
   .app (.q [] []) 6 (.lst false []),
   .ite (.q [3,4,7] []) (.op .ne false [.op .repr false [.call 310 [.var 3,.var 4]],.op .repr false [.var 7]]) [
    .ret [] (.cst (.bl false))] []]
theorem Cj (bs:List (List (Nat×Nat)))(hb:∀ b∈bs,Bt b)(hl:bs.length<=1000)(w0 w1 w2 w3 w4 w5 o8 o9:Option W)(m7:Md) :
  ∃ o8',evSs (C 39) YB [w0,w1,w2,w3,w4,w5,some (.d,.lst (bs.map bL)),some (m7,.lst (bs.map bL)),o8,o9]=.nx [w0,w1,w2,w3,w4,w5,some (.d,.lst (bs.map bL)),some (m7,.lst (bs.map bL)),o8',o9]:=by
 obtain ⟨as,ha,ct⟩:=ats bs.length
 obtain ⟨o8',lp⟩:=kx bs hb hl w0 w1 w2 w3 w4 w5 o9 m7 as o8 ha
 have l1:(((bs.map bL).length:Nat):Int)=((bs.length:Nat):Int):=by rw [a0e]
 have g0:(decide ((0:Int) < 2)&&decide ((2:Int) < 1073741824))=true:=rfl
 have lv:leaves (as.map nI)=true:=a0A.mpr fun t ht=>by obtain ⟨_,_,rfl⟩:=a0B.mp ht; rfl
 have tm:=bR as
 exact ⟨o8',by simp_all only [l1,g0,ct,lv,tm,lp]⟩
theorem zD (L:List T)(hL:Sts L)(h:Nat)(h1:1<=h)(h2:h<=20)(w0 w1 w2 w5 o8 o9:Option W)(m4 m7:Md) :
  ∃ o3 o4 o6 o7,evSs (C 39) YC [w0,w1,w2,some (.s,.lst L),some (m4,nI h),w5,some (.d,.lst ((tt (PL L) h 1000 (wN L)).map bL)),some (m7,.lst ((tt (PL L) h 1000 (wN L)).map bL)),o8,o9]=.nx [w0,w1,w2,o3,o4,w5,o6,o7,o8,none]:=by
 have rb:=yA (lD (PL L) h h2 1000 (wN L) (by rw [cc]; exact hL.len)) (eY (PL L) h 1000 (wN L))
 have e1:=fun m m'=>eM 36 L hL h (by omega) m m'
 have hl:=eY (PL L) h 1000 (wN L)
 generalize tt (PL L) h 1000 (wN L)=bs at rb e1 hl
 have cl:kb (some (.d,.lst (bs.map bL)))=some (.d,.lst ((bs.map bL).map fun _=>.lst [])):=by
  show (if (bs.map bL).all isL=true then some ((.d,.lst ((bs.map bL).map fun _=>.lst [])):W) else none)=_
  exact if_pos (a0A.mpr fun t ht=>by obtain ⟨_,_,rfl⟩:=a0B.mp ht; rfl)
 have g1:((bs.map bL).map fun _=>T.lst []).length < LIM:=by rw [a0e,a0e]; show _ < 16777215; omega
 exact ⟨_,_,_,_,by simp_all only [cl,del,g1,e1,rb,bss]; rfl⟩
noncomputable abbrev OC:List S:=[
   .asg (.l []) 3 (.call 278 [.io 1]),
   .asg (.l [3]) 4 (.call 279 [.io 1]),
   .asg (.q [3] []) 5 (.op .repr false [.var 3]),
   .asg (.q [3,4] []) 6 (.call 310 [.var 3,.var 4]),
   .asg (.q [3,4] []) 7 (.call 312 [.var 3,.var 4]),
   .ite (.q [3,5,6,7] []) (.or (.not (.op (.isI ["list"]) false [.var 6])) (.or (.op .ne false [.op .repr false [.var 6],.op .repr false [.var 7]]) (.op .ne false [.op .repr false [.var 3],.var 5]))) [
    .ret [] (.cst (.bl false))] [],
   .forU .seq [.qx [6] [] (.op .sl2 true [.lst true [.cst (.int 0),.op .fdiv false [.op .len false [.var 6],.cst (.int 2)]],.op .len false [.var 6]])] [8] AB,
   .clrA 6 9,
   .app (.q [] []) 6 (.lst false []),
   .ite (.q [3,4,7] []) (.op .ne false [.op .repr false [.call 310 [.var 3,.var 4]],.op .repr false [.var 7]]) [
    .ret [] (.cst (.bl false))] []]
theorem qa (N:Nat)(t:T)(ht:Tp N t)(hN:N+5000 < 1000000000000000000)(w0 w2 o3 o4 o5 o6 o7 o8 o9:Option W) :
  ∃ t' o3' o4' o5' o6' o7' o8' o9',Tp (N+500) t'/\evSs (C 39) OC [w0,some (.d,t),w2,o3,o4,o5,o6,o7,o8,o9]=.nx [w0,some (.d,t'),w2,o3',o4',o5',o6',o7',o8',o9']:=by
 obtain ⟨md,L,t1,ht1,l1,l2,l3,e1⟩:=qB (L:=37) ht (by omega)
 have hL:Sts L:=⟨l1,l2,l3⟩
 obtain ⟨md2,hi,t2,ht2,h1,h2,e2⟩:=oq (L:=37) ht1 (by omega)
 obtain ⟨h,rfl⟩:∃ h:Nat,hi=(h:Int):=⟨hi.toNat,(a1v (by omega)).symm⟩
 have hA:∃ m4,evSs (C 39) [
   .asg (.l []) 3 (.call 278 [.io 1]),
   .asg (.l [3]) 4 (.call 279 [.io 1])] [w0,some (.d,t),w2,o3,o4,o5,o6,o7,o8,o9]=.nx [w0,some (.d,t2),w2,some (.s,.lst L),some (m4,nI h),o5,o6,o7,o8,o9]:=⟨_,by simp_all only [e1,e2]; rfl⟩
 obtain ⟨m4,hA⟩:=hA
 obtain ⟨m4',m7,hB⟩:=BO L hL h (by omega) (by omega) w0 (some (.d,t2)) w2 o5 o6 o7 o8 o9 m4
 obtain ⟨o8',hC⟩:=Cj (tt (PL L) h 1000 (wN L)) (lD (PL L) h (by omega) 1000 (wN L) (by rw [cc]; exact hL.len)) (eY (PL L) h 1000 (wN L)) w0 (some (.d,t2)) w2 (some (.s,.lst L)) (some (m4',nI h)) (some (.d,.str (datT (.lst L)).shown)) o8 o9 m7
 obtain ⟨a,b,c,d,hD⟩:=zD L hL h (by omega) (by omega) w0 (some (.d,t2)) w2 (some (.d,.str (datT (.lst L)).shown)) o8' o9 m4' m7
 exact ⟨t2,a,b,_,c,d,o8',none,tm ht2 (by omega),(go1 (b:=YA++(YB++YC)) hA).trans ((go1 (b:=YB++YC) hB).trans ((go1 (b:=YC) hC).trans hD))⟩
theorem nH (t:T)(ht:Tp 0 t)(w0:Option W) :
  ∃ w1 w2 o3 o4 o5 o6 o7 o8 o9,bf [2] (evSs (C 39) OC) ((a0p 3).map fun (i:Nat)=>[((.d,.int (i:Int)):W)]) [w0,some (.d,t),none,none,none,none,none,none,none,none]=.nx [w0,w1,w2,o3,o4,o5,o6,o7,o8,o9]:=by
 obtain ⟨η',lp,t',w2,o3,o4,o5,o6,o7,o8,o9,_,rfl⟩:=cD (tg:=[2]) (f:=evSs (C 39) OC) (g:=fun (i:Nat)=>[((.d,.int (i:Int)):W)])
  (fun pre η=>∃ (t':T) (w2 o3 o4 o5 o6 o7 o8 o9:Option W),Tp (500 * pre.length) t'/\η=[w0,some (.d,t'),w2,o3,o4,o5,o6,o7,o8,o9])
  (a0p 3) [] [w0,some (.d,t),none,none,none,none,none,none,none,none] ⟨t,none,none,none,none,none,none,none,none,ht,rfl⟩
  (fun p i r η hp ⟨t',w2,o3,o4,o5,o6,o7,o8,o9,ht',he⟩=>by
   subst he
   have hpl:=congrArg a2g hp
   simp only [a0V,a0K,a0g,a0f] at hpl
   obtain ⟨t2,a,b,c,d,e,f,g,ht2,hh⟩:=qa _ t' ht' (by omega) w0 (some (.d,.int (i:Int))) o3 o4 o5 o6 o7 o8 o9
   exact ⟨_,_,rfl,hh,t2,_,a,b,c,d,e,f,g,tm ht2 (by rw [a0g,a0r]; omega),rfl⟩)
 exact ⟨_,_,_,_,_,_,_,_,_,lp⟩
theorem uD:Sts []:=⟨a0F _,fun _ z=>(nomatch z),fun _=>0,fun k hk=>absurd hk (a1E _)⟩
theorem pure_law (ns:List Int):∃ m bs,C 40 0 [(.d,.scr ns)]=.ok ((m,.bl true),bs):=by
 have ht0:Tp 0 (jQ (cut ns none (some 63)) 0 0):=⟨_,0,0,rfl,a0h _⟩
 have e1:=ug ns
 obtain ⟨w1,w2,o3,o4,o5,o6,o7,o8,o9,lp⟩:=nH _ ht0 (some (.d,.scr ns))
 generalize jQ (cut ns none (some 63)) 0 0=t0 at e1 lp
 have n1:(decide ((3:Int).natAbs < 4611686018427387904)&&fits 3)=true:=rfl
 have n2:(3:Int).toNat=3:=rfl
 have e2:∀ m m',C 39 310 [(m,.lst []),(m',.int 3)]=.ok ((.d,.lst []),[]):=fun m m'=>eM 36 [] uD 3 (by decide) m m'
 have e3:=fun m m'=>qe [] m m'
 have e3:∀ m m',oSem .eq false [(m,.lst []),(m',.lst [])]=some (.d,.bl true):=e3
 rw [show C 40 0 [(.d,.scr ns)]=runF (C 39) lu [(.d,.scr ns)] from rfl,x_run _ _ _ rfl]
 exact ⟨_,_,by simp_all only [lu,e1,n1,n2,lp,e2,e3]; rfl⟩
end
end P74

namespace A74
open PySem PySem.Spec PyProof.Rows L2 L3 MR
noncomputable def top (i:Nat):Stmt:=PySem.Challenge.pw_broadrow_k74_timetables_told.main.body.getD i (.Pass ⟨0,0,0,0⟩)
noncomputable abbrev ot:Stmt:=top 1
noncomputable abbrev pI:Stmt:=top 2
noncomputable abbrev nA:Stmt:=top 3
noncomputable abbrev nF:Stmt:=top 4
noncomputable abbrev qu:Stmt:=top 6
noncomputable abbrev oP:Stmt:=top 7
noncomputable abbrev pH:Stmt:=top 8
noncomputable abbrev qz:Stmt:=top 9
noncomputable abbrev nB:Stmt:=top 10
noncomputable abbrev ql:Stmt:=top 12
noncomputable abbrev s0:Stmt:=top 13
structure Glb (K:a0a)(w:World)(mg:Str->Option Value):Prop where
 mk ::
structure Calls (P:Program)(w:World)(K:a0a)(mg:Str->Option Value)(base:Heap)(n:Nat)(C:M.Call):Prop where
 c310:ak P w K mg base n C "timetable" 310 []
 c290:ak P w K mg base n C "those_behind" 290 []
 c311:ak P w K mg base n C "deal" 311 [0,1]
 c299:ak P w K mg base n C "put_falling" 299 [0]
 c179:ak P w K mg base n C "_law_tape" 179 []
 c201:ak P w K mg base n C "_law_draw" 201 [0]
 c278:ak P w K mg base n C "_law_waits" 278 [0]
 c279:ak P w K mg base n C "_law_hands" 279 [0]
 c308:ak P w K mg base n C "_law_can" 308 []
 c312:ak P w K mg base n C "_law_due" 312 []
noncomputable abbrev DD (x:Str)(st:Stmt)(N:List Str)(fn:M.Fn):Prop:=∀ {P:Program} {w:World} {K:a0a} {mg:Str->Option Value} {base:Heap} {n:Nat} {C:M.Call} {f:Addr} {cdv:Value} {A:Around} {outer:List Env} {s:Shared} {H:Hp} {E:XK},Calls P w K mg base n C->Txt mg->Glb K w mg->Room n (A.deeper (envOfC x (defScope st) s.heap.objs.size f cdv))->SSs (gJ CX0 P w K mg base N x (defScope st) f cdv A outer s H E).nox (slN N.length) fn.io C (defBody st) fn.body
theorem zT:aD ["steps","hands","left","awaited","later","ready","beats","beat","number","other"] ["steps","hands"] (defScope ot):=fsc
theorem C1:DD "timetable" ot ["steps","hands","left","awaited","later","ready","beats","beat","number","other"] bq:=fun {_ _ _ _ _ _ _ _ _ _ _ s _ _} cs T G hr =>
 have S:=zT
 (@ssc _ _ _ _ _ _ _ _ (@aK _ _ _ _ _ _ _ 2 _ _ _ _ S.nd (sC1 [] [] [] [] (fB (sV 0)) (fun _ _ _ _=>(@aU _ _ _ _ _ _ _ _ _ (sV 0) sI (by intro _ _; rfl))) csc .nil .nil) (by decide) (by rfl) (by rfl) (by first | exact a0y rfl | exact a0s rfl) (by rfl) (by first | exact .inl rfl | exact .inr rfl))
    (@ssc _ _ _ _ _ _ _ _ (@aK _ _ _ _ _ _ _ 3 _ _ _ _ S.nd (sC1 [] [] [] [] (fB (sV 0)) (fun _ _ _ _=>(gD (hm:=T.len) (ha:=(@aU _ _ _ _ _ _ _ _ _ (sV 0) sI (by intro _ _; rfl))))) csc .nil .nil) (by decide) (by rfl) (by rfl) (by first | exact a0y rfl | exact a0s rfl) (by rfl) (by first | exact .inl rfl | exact .inr rfl))
    (@ssc _ _ _ _ _ _ _ _ (@aK _ _ _ _ _ _ _ 4 _ _ _ _ S.nd (aO cs.c290 hr (@bg _ _ _ _ _ _ _ (sV 0) sa0 (by intro _ z; cases z) (by rfl))) (by decide) (by rfl) (by rfl) (by first | exact a0y rfl | exact a0s rfl) (by rfl) (by first | exact .inl rfl | exact .inr rfl))
    (@ssc _ _ _ _ _ _ _ _ (CQ 5 [3] [3] [("awaited",s.heap.objs.size+2)] ["awaited"] (zr (hm:=T.range) (ha:=(l8 (gD (hm:=T.len) (ha:=(sV 0))) sI)) (hb:=(yz sI)) (hc:=(yz sI))) (fun _ _ _ _=>(mR hr (@aU _ _ _ _ _ _ _ _ _ (sV 1) (sV 0) (by intro _ _; rfl)) sI)) (fun _ _ _ _=>(sV 0)) csc (jU .nil) (frc .nil) S.nd)
    (@ssc _ _ _ _ _ _ _ _ (@aK _ _ _ _ _ _ _ 6 _ _ _ _ S.nd (@sLx _ _ _ _ _ _ _ (by decide) sl0) (by decide) (by rfl) (by rfl) (by first | exact a0y rfl | exact a0s rfl) (by rfl) (by first | exact .inl rfl | exact .inr rfl))
    (@ssc _ _ _ _ _ _ _ _ (rN (tB (sV 5)) (@ssc _ _ _ _ _ _ _ _ (@aK _ _ _ _ _ _ _ 7 _ _ _ _ S.nd (aO cs.c311 hr (sai 5 (sai 2 (@bg _ _ _ _ _ _ _ (sV 1) sa0 (by intro _ z; cases z) (by rfl))))) (by decide) (by rfl) (by rfl) (by first | exact a0y rfl | exact a0s rfl) (by rfl) (by first | exact .inl rfl | exact .inr rfl))
     (@ssc _ _ _ _ _ _ _ _ (n5 8 S.nd (fB (sQ (yZ [2] [2] [("left",s.heap.objs.size+1)] ["left"] (fB (sV 7)) (fun _ _ _ _=>(mR hr (@aU _ _ _ _ _ _ _ _ _ (sV 1) (@aU _ _ _ _ _ _ _ _ _ (sV 0) sI (by intro _ _; rfl)) (by intro _ _; rfl)) sI)) (fun _ _ _ _=>(@aU _ _ _ _ _ _ _ _ _ (sV 0) sI (by intro _ _; rfl))) csc (jU .nil) (frc .nil)))) (@ss1 _ _ _ _ _ _ (jb 9 S.nd (fB (@aU _ _ _ _ _ _ _ _ _ (sV 4) (sV 8) (by intro _ _; rfl))) (@ssc _ _ _ _ _ _ _ _ (mP 3 (l8 (@aU _ _ _ _ _ _ _ _ _ (sV 3) (sV 9) (by intro _ _; rfl)) sI) (sV 9))
       (@ss1 _ _ _ _ _ _ (@zIf _ _ _ _ _ _ _ _ _ _ _ _ (mR hr (@aU _ _ _ _ _ _ _ _ _ (sV 3) (sV 9) (by intro _ _; rfl)) sI) (@ss1 _ _ _ _ _ _ (BX (aO cs.c299 hr (sai 5 (@bg _ _ _ _ _ _ _ (sV 9) sa0 (by intro _ z; cases z) (by rfl)))))) ss0))))))
     (@ss1 _ _ _ _ _ _ (kc 6 (sM 7))))))
    (@ss1 _ _ _ _ _ _ (@cP _ _ _ _ _ _ _ _ (sM 6)))))))))
theorem CL:aD ["steps","told","number","step","one"] ["steps"] (defScope pI):=fsc
theorem Dy:DD "those_behind" pI ["steps","told","number","step","one"] aQ:=fun {_ _ _ _ _ _ _ _ _ _ _ s _ _} cs T G hr =>
 have S:=CL
 (@ssc _ _ _ _ _ _ _ _ (zC1 1 [] [] [] [] (fB (sV 0)) (fun _ _ _ _=>(@sLx _ _ _ _ _ _ _ (by decide) sl0)) csc .nil .nil S.nd)
    (@ssc _ _ _ _ _ _ _ _ (vo 2 3 S.nd (AK (hm:=T.enum) (ha:=(sV 0))) (@ss1 _ _ _ _ _ _ (jb 4 S.nd (fB (@aU _ _ _ _ _ _ _ _ _ (sV 3) sI (by intro _ _; rfl))) (@ss1 _ _ _ _ _ _ (C0 1 4 2)))))
    (@ss1 _ _ _ _ _ _ (@cP _ _ _ _ _ _ _ _ (sM 1)))))
theorem AS:aD ["ready","left","hands","beat","free","number","many"] ["ready","left","hands"] (defScope nA):=fsc
theorem Dg:DD "deal" nA ["ready","left","hands","beat","free","number","many"] ff:=fun {_ _ _ _ _ _ _ _ _ _ _ s _ _} cs T G hr =>
 have S:=AS
 (@ssc _ _ _ _ _ _ _ _ (@aK _ _ _ _ _ _ _ 3 _ _ _ _ S.nd (@sLx _ _ _ _ _ _ _ (by decide) sl0) (by decide) (by rfl) (by rfl) (by first | exact a0y rfl | exact a0s rfl) (by rfl) (by first | exact .inl rfl | exact .inr rfl))
    (@ssc _ _ _ _ _ _ _ _ (@aK _ _ _ _ _ _ _ 4 _ _ _ _ S.nd (sV 2) (by decide) (by rfl) (by rfl) (by first | exact a0y rfl | exact a0s rfl) (by rfl) (by first | exact .inl rfl | exact .inr rfl))
    (@ssc _ _ _ _ _ _ _ _ (rN (tW (wq (jP (sV 4) sI) (wA1 (tB (sV 0))))) (@ssc _ _ _ _ _ _ _ _ (@aK _ _ _ _ _ _ _ 5 _ _ _ _ S.nd (@aU _ _ _ _ _ _ _ _ _ (sV 0) (yz sI) (by intro _ _; rfl)) (by decide) (by rfl) (by rfl) (by first | exact a0y rfl | exact a0s rfl) (by rfl) (by first | exact .inl rfl | exact .inr rfl))
     (@ssc _ _ _ _ _ _ _ _ (@aK _ _ _ _ _ _ _ 6 _ _ _ _ S.nd (BG (hm:=T.min) (ha:=(sV 4)) (hb:=(@aU _ _ _ _ _ _ _ _ _ (sV 1) (sV 5) (by intro _ _; rfl)))) (by decide) (by rfl) (by rfl) (by first | exact a0y rfl | exact a0s rfl) (by rfl) (by first | exact .inl rfl | exact .inr rfl))
     (@ssc _ _ _ _ _ _ _ _ (kc 3 (@sTx _ _ _ _ _ _ _ (by decide) (@slx _ _ _ _ _ _ _ (sV 5) (@slx _ _ _ _ _ _ _ (sV 6) sl0 (by rfl)) (by rfl))))
     (@ssc _ _ _ _ _ _ _ _ (@aK _ _ _ _ _ _ _ 4 _ _ _ _ S.nd (l8 (sV 4) (sV 6)) (by decide) (by rfl) (by rfl) (by first | exact a0y rfl | exact a0s rfl) (by rfl) (by first | exact .inl rfl | exact .inr rfl))
     (@ssc _ _ _ _ _ _ _ _ (mP 1 (l8 (@aU _ _ _ _ _ _ _ _ _ (sV 1) (sV 5) (by intro _ _; rfl)) (sV 6)) (sV 5))
     (@ss1 _ _ _ _ _ _ (@zIf _ _ _ _ _ _ _ _ _ _ _ _ (mR hr (@aU _ _ _ _ _ _ _ _ _ (sV 1) (sV 5) (by intro _ _; rfl)) sI) (@ss1 _ _ _ _ _ _ (BX (AV 0))) ss0))))))))
    (@ss1 _ _ _ _ _ _ (@cP _ _ _ _ _ _ _ _ (sM 3))))))
theorem zN:aD ["numbers","number","low","high","middle"] ["numbers","number"] (defScope nF):=fsc
theorem DN:DD "put_falling" nF ["numbers","number","low","high","middle"] aW:=fun {_ _ _ _ _ _ _ _ _ _ _ s _ _} cs T G hr =>
 have S:=zN
 (@ssc _ _ _ _ _ _ _ _ (@aK _ _ _ _ _ _ _ 2 _ _ _ _ S.nd sI (by decide) (by rfl) (by rfl) (by first | exact a0y rfl | exact a0s rfl) (by rfl) (by first | exact .inl rfl | exact .inr rfl))
    (@ssc _ _ _ _ _ _ _ _ (@aK _ _ _ _ _ _ _ 3 _ _ _ _ S.nd (gD (hm:=T.len) (ha:=(sV 0))) (by decide) (by rfl) (by rfl) (by first | exact a0y rfl | exact a0s rfl) (by rfl) (by first | exact .inl rfl | exact .inr rfl))
    (@ssc _ _ _ _ _ _ _ _ (rN (Bc (sV 2) (sV 3)) (@ssc _ _ _ _ _ _ _ _ (@aK _ _ _ _ _ _ _ 4 _ _ _ _ S.nd (sS (cm (sV 2) (sV 3)) sI) (by decide) (by rfl) (by rfl) (by first | exact a0y rfl | exact a0s rfl) (by rfl) (by first | exact .inl rfl | exact .inr rfl))
     (@ss1 _ _ _ _ _ _ (@zIf _ _ _ _ _ _ _ _ _ _ _ _ (jP (@aU _ _ _ _ _ _ _ _ _ (sV 0) (sV 4) (by intro _ _; rfl)) (sV 1)) (@ss1 _ _ _ _ _ _ (@aK _ _ _ _ _ _ _ 2 _ _ _ _ S.nd (cm (sV 4) sI) (by decide) (by rfl) (by rfl) (by first | exact a0y rfl | exact a0s rfl) (by rfl) (by first | exact .inl rfl | exact .inr rfl))) (@ss1 _ _ _ _ _ _ (@aK _ _ _ _ _ _ _ 3 _ _ _ _ S.nd (sV 4) (by decide) (by rfl) (by rfl) (by first | exact a0y rfl | exact a0s rfl) (by rfl) (by first | exact .inl rfl | exact .inr rfl)))))))
    (@ss1 _ _ _ _ _ _ (Aw 0 2 1)))))
theorem B8:aD ["_law_script"] ["_law_script"] (defScope qu):=fsc
theorem Dj:DD "_law_tape" qu ["_law_script"] bD:=fun {_ _ _ _ _ _ _ _ _ _ _ s _ _} cs T G hr =>
 have S:=B8
 (@ss1 _ _ _ _ _ _ (@cP _ _ _ _ _ _ _ _ (@sLx _ _ _ _ _ _ _ (by decide) (@slx _ _ _ _ _ _ _ (Bj (hm:=T.list) (ha:=(uv (sM 0) sI))) (@slx _ _ _ _ _ _ _ sI (@slx _ _ _ _ _ _ _ sI sl0 (by rfl)) (by rfl)) (by rfl)))))
theorem BW:aD ["_law_tape_here","_law_many","_law_digit","_law_at","_law_cell","_law_mixed"] ["_law_tape_here","_law_many"] (defScope oP):=fsc
theorem CV:DD "_law_draw" oP ["_law_tape_here","_law_many","_law_digit","_law_at","_law_cell","_law_mixed"] bc:=fun {_ _ _ _ _ _ _ _ _ _ _ s _ _} cs T G hr =>
 have S:=BW
 (@ssc _ _ _ _ _ _ _ _ (@zIf _ _ _ _ _ _ _ _ _ _ _ _ (jP (@aU _ _ _ _ _ _ _ _ _ (sV 0) sI (by intro _ _; rfl)) sI) (@ssc _ _ _ _ _ _ _ _ (@aK _ _ _ _ _ _ _ 2 _ _ _ _ S.nd (dI (@aU _ _ _ _ _ _ _ _ _ (sV 0) sI (by intro _ _; rfl)) (sV 1)) (by decide) (by rfl) (by rfl) (by first | exact a0y rfl | exact a0s rfl) (by rfl) (by first | exact .inl rfl | exact .inr rfl))
      (@ssc _ _ _ _ _ _ _ _ (mP 0 (nK (@aU _ _ _ _ _ _ _ _ _ (sV 0) sI (by intro _ _; rfl)) (sV 1)) sI)
      (@ss1 _ _ _ _ _ _ (@cP _ _ _ _ _ _ _ _ (sM 2))))) ss0)
    (@ssc _ _ _ _ _ _ _ _ (@aK _ _ _ _ _ _ _ 3 _ _ _ _ S.nd (@aU _ _ _ _ _ _ _ _ _ (sV 0) sI (by intro _ _; rfl)) (by decide) (by rfl) (by rfl) (by first | exact a0y rfl | exact a0s rfl) (by rfl) (by first | exact .inl rfl | exact .inr rfl))
    (@ssc _ _ _ _ _ _ _ _ (mP 0 (cm (sV 3) sI) sI)
    (@ssc _ _ _ _ _ _ _ _ (@aK _ _ _ _ _ _ _ 4 _ _ _ _ S.nd sI (by decide) (by rfl) (by rfl) (by first | exact a0y rfl | exact a0s rfl) (by rfl) (by first | exact .inl rfl | exact .inr rfl))
    (@ssc _ _ _ _ _ _ _ _ (@zIf _ _ _ _ _ _ _ _ _ _ _ _ (jP (gD (hm:=T.len) (ha:=(@aU _ _ _ _ _ _ _ _ _ (sV 0) sI (by intro _ _; rfl)))) sI) (@ss1 _ _ _ _ _ _ (@aK _ _ _ _ _ _ _ 4 _ _ _ _ S.nd (@aU _ _ _ _ _ _ _ _ _ (@aU _ _ _ _ _ _ _ _ _ (sV 0) sI (by intro _ _; rfl)) (dI (sV 3) (gD (hm:=T.len) (ha:=(@aU _ _ _ _ _ _ _ _ _ (sV 0) sI (by intro _ _; rfl))))) (by intro _ _; rfl)) (by decide) (by rfl) (by rfl) (by first | exact a0y rfl | exact a0s rfl) (by rfl) (by first | exact .inl rfl | exact .inr rfl))) ss0)
    (@ssc _ _ _ _ _ _ _ _ (@zIf _ _ _ _ _ _ _ _ _ _ _ _ (tW (wq (Bc (sV 3) (gD (hm:=T.len) (ha:=(@aU _ _ _ _ _ _ _ _ _ (sV 0) sI (by intro _ _; rfl))))) (wA1 (C4 (sV 4) (DL sI sI))))) (@ssc _ _ _ _ _ _ _ _ (mP 0 (nK (sV 4) (sV 1)) sI)
     (@ss1 _ _ _ _ _ _ (@cP _ _ _ _ _ _ _ _ (dI (sM 4) (sM 1))))) ss0)
    (@ssc _ _ _ _ _ _ _ _ (@aK _ _ _ _ _ _ _ 5 _ _ _ _ S.nd (dI (jV (cm (dI (sV 4) sI) sI) (cm (cm (jV (jV sI (sV 3)) (sV 3)) (jV sI (sV 3))) sI)) sI) (by decide) (by rfl) (by rfl) (by first | exact a0y rfl | exact a0s rfl) (by rfl) (by first | exact .inl rfl | exact .inr rfl))
    (@ssc _ _ _ _ _ _ _ _ (@aK _ _ _ _ _ _ _ 5 _ _ _ _ S.nd (dI (cm (cm (jV (sV 5) (sV 5)) (jV sI (sV 3))) (dI (sV 4) sI)) sI) (by decide) (by rfl) (by rfl) (by first | exact a0y rfl | exact a0s rfl) (by rfl) (by first | exact .inl rfl | exact .inr rfl))
    (@ss1 _ _ _ _ _ _ (@cP _ _ _ _ _ _ _ _ (dI (nK (sM 5) sI) (sM 1))))))))))))
theorem Cy:aD ["_law_tape_here","_law_many","_law_left","_law_turn","_law_ahead","_law_often","_law_k","_law_number","_law_found","_law_width"] ["_law_tape_here"] (defScope pH):=fsc
theorem Dv:DD "_law_waits" pH ["_law_tape_here","_law_many","_law_left","_law_turn","_law_ahead","_law_often","_law_k","_law_number","_law_found","_law_width"] f_law_waits:=fun {_ _ _ _ _ _ _ _ _ _ _ s _ _} cs T G hr =>
 have S:=Cy
 (@ssc _ _ _ _ _ _ _ _ (@aK _ _ _ _ _ _ _ 1 _ _ _ _ S.nd (@aU _ _ _ _ _ _ _ _ _ (@sLx _ _ _ _ _ _ _ (by decide) (@slx _ _ _ _ _ _ _ sI (@slx _ _ _ _ _ _ _ sI (@slx _ _ _ _ _ _ _ sI (@slx _ _ _ _ _ _ _ sI (@slx _ _ _ _ _ _ _ sI (@slx _ _ _ _ _ _ _ sI (@slx _ _ _ _ _ _ _ sI (@slx _ _ _ _ _ _ _ sI (@slx _ _ _ _ _ _ _ sI (@slx _ _ _ _ _ _ _ sI (@slx _ _ _ _ _ _ _ sI (@slx _ _ _ _ _ _ _ sI sl0 (by rfl)) (by rfl)) (by rfl)) (by rfl)) (by rfl)) (by rfl)) (by rfl)) (by rfl)) (by rfl)) (by rfl)) (by rfl)) (by rfl))) (aO cs.c201 hr (sai 0 (@bg _ _ _ _ _ _ _ sI sa0 (by intro _ z; cases z) (by rfl)))) (by intro _ _; rfl)) (by decide) (by rfl) (by rfl) (by first | exact a0y rfl | exact a0s rfl) (by rfl) (by first | exact .inl rfl | exact .inr rfl))
    (@ssc _ _ _ _ _ _ _ _ (@aK _ _ _ _ _ _ _ 2 _ _ _ _ S.nd (C3 T.list T.range (sV 1)) (by decide) (by rfl) (by rfl) (by first | exact a0y rfl | exact a0s rfl) (by rfl) (by first | exact .inl rfl | exact .inr rfl))
    (@ssc _ _ _ _ _ _ _ _ (@aK _ _ _ _ _ _ _ 3 _ _ _ _ S.nd (@sLx _ _ _ _ _ _ _ (by decide) sl0) (by decide) (by rfl) (by rfl) (by first | exact a0y rfl | exact a0s rfl) (by rfl) (by first | exact .inl rfl | exact .inr rfl))
    (@ssc _ _ _ _ _ _ _ _ (@aK _ _ _ _ _ _ _ 4 _ _ _ _ S.nd zI (by decide) (by rfl) (by rfl) (by first | exact a0y rfl | exact a0s rfl) (by rfl) (by first | exact .inl rfl | exact .inr rfl))
    (@ssc _ _ _ _ _ _ _ _ (@aK _ _ _ _ _ _ _ 5 _ _ _ _ S.nd (cm sI (aO cs.c201 hr (sai 0 (@bg _ _ _ _ _ _ _ sI sa0 (by intro _ z; cases z) (by rfl))))) (by decide) (by rfl) (by rfl) (by first | exact a0y rfl | exact a0s rfl) (by rfl) (by first | exact .inl rfl | exact .inr rfl))
    (@ssc _ _ _ _ _ _ _ _ (jb 6 S.nd (ve (hm:=T.range) (ha:=(sV 1))) (@ssc _ _ _ _ _ _ _ _ (@aK _ _ _ _ _ _ _ 7 _ _ _ _ S.nd (Br 2 (aO cs.c201 hr (sai 0 (@bg _ _ _ _ _ _ _ (Ba 2 T.len) sa0 (by intro _ z; cases z) (by rfl))))) (by decide) (by rfl) (by rfl) (by first | exact a0y rfl | exact a0s rfl) (by rfl) (by first | exact .inl rfl | exact .inr rfl))
     (@ssc _ _ _ _ _ _ _ _ (BL 4 hr (rF (hm:=T.sorted) (ha:=(Dz 3 [5,0] [5,0] [("_law_tape_here",s.heap.objs.size+1),("_law_often",s.heap.objs.size+2)] ["_law_often","_law_tape_here"] (fun _ _ _ _=>(mR hr (aO cs.c201 hr (sai 2 (@bg _ _ _ _ _ _ _ (sV 1) sa0 (by intro _ z; cases z) (by rfl)))) sI)) (fun _ _ _ _=>(sV 0)) csc (jU (jU .nil)) (frc (frc .nil))))) (sV 7))
     (@ss1 _ _ _ _ _ _ (kc 3 (sV 7))))))
    (@ssc _ _ _ _ _ _ _ _ (@aK _ _ _ _ _ _ _ 8 _ _ _ _ S.nd (@sLx _ _ _ _ _ _ _ (by decide) sl0) (by decide) (by rfl) (by rfl) (by first | exact a0y rfl | exact a0s rfl) (by rfl) (by first | exact .inl rfl | exact .inr rfl))
    (@ssc _ _ _ _ _ _ _ _ (jb 6 S.nd (ve (hm:=T.range) (ha:=(sV 1))) (@ssc _ _ _ _ _ _ _ _ (@aK _ _ _ _ _ _ _ 9 _ _ _ _ S.nd (@aU _ _ _ _ _ _ _ _ _ (@sLx _ _ _ _ _ _ _ (by decide) (@slx _ _ _ _ _ _ _ sI (@slx _ _ _ _ _ _ _ (cm sI (aO cs.c201 hr (sai 0 (@bg _ _ _ _ _ _ _ sI sa0 (by intro _ z; cases z) (by rfl))))) (@slx _ _ _ _ _ _ _ (cm sI (aO cs.c201 hr (sai 0 (@bg _ _ _ _ _ _ _ sI sa0 (by intro _ z; cases z) (by rfl))))) (@slx _ _ _ _ _ _ _ (cm sI (aO cs.c201 hr (sai 0 (@bg _ _ _ _ _ _ _ sI sa0 (by intro _ z; cases z) (by rfl))))) sl0 (by rfl)) (by rfl)) (by rfl)) (by rfl))) (sS (jV (aO cs.c201 hr (sai 0 (@bg _ _ _ _ _ _ _ sI sa0 (by intro _ z; cases z) (by rfl)))) sI) sI) (by intro _ _; rfl)) (by decide) (by rfl) (by rfl) (by first | exact a0y rfl | exact a0s rfl) (by rfl) (by first | exact .inl rfl | exact .inr rfl))
     (@ss1 _ _ _ _ _ _ (kc 8 (@sTx _ _ _ _ _ _ _ (by decide) (@slx _ _ _ _ _ _ _ (@sTx _ _ _ _ _ _ _ (by decide) (@slx _ _ _ _ _ _ _ (sS (sV 6) sI) (@slx _ _ _ _ _ _ _ (Dx (sV 6) sI) sl0 (by rfl)) (by rfl))) (@slx _ _ _ _ _ _ _ (@sTx _ _ _ _ _ _ _ (by decide) sl0) (@slx _ _ _ _ _ _ _ (sV 9) (@slx _ _ _ _ _ _ _ (y7 hr (sV 4) (sV 6)) sl0 (by rfl)) (by rfl)) (by rfl)) (by rfl)))))))
    (@ss1 _ _ _ _ _ _ (@cP _ _ _ _ _ _ _ _ (sM 8)))))))))))
theorem Bf:aD ["_law_tape_here"] ["_law_tape_here"] (defScope qz):=fsc
theorem Dm:DD "_law_hands" qz ["_law_tape_here"] br:=fun {_ _ _ _ _ _ _ _ _ _ _ s _ _} cs T G hr =>
 have S:=Bf
 (@ss1 _ _ _ _ _ _ (@cP _ _ _ _ _ _ _ _ (@aU _ _ _ _ _ _ _ _ _ (@sLx _ _ _ _ _ _ _ (by decide) (@slx _ _ _ _ _ _ _ sI (@slx _ _ _ _ _ _ _ sI (@slx _ _ _ _ _ _ _ (cm sI (aO cs.c201 hr (sai 0 (@bg _ _ _ _ _ _ _ sI sa0 (by intro _ z; cases z) (by rfl))))) (@slx _ _ _ _ _ _ _ (cm sI (aO cs.c201 hr (sai 0 (@bg _ _ _ _ _ _ _ sI sa0 (by intro _ z; cases z) (by rfl))))) sl0 (by rfl)) (by rfl)) (by rfl)) (by rfl))) (aO cs.c201 hr (sai 0 (@bg _ _ _ _ _ _ _ sI sa0 (by intro _ z; cases z) (by rfl)))) (by intro _ _; rfl))))
theorem Aq:aD ["_law_steps","_law_left"] ["_law_steps","_law_left"] (defScope nB):=fsc
theorem DM:DD "_law_can" nB ["_law_steps","_law_left"] bQ:=fun {_ _ _ _ _ _ _ _ _ _ _ s _ _} cs T G hr =>
 have S:=Aq
 (@ss1 _ _ _ _ _ _ (@cP _ _ _ _ _ _ _ _ (yZ [1,0] [1,0] [("_law_steps",s.heap.objs.size+1),("_law_left",s.heap.objs.size+2)] ["_law_left","_law_steps"] (ve (hm:=T.range) (ha:=(gD (hm:=T.len) (ha:=(sV 0))))) (fun _ _ _ _=>(tW (wq (jP (@aU _ _ _ _ _ _ _ _ _ (sV 1) (sV 0) (by intro _ _; rfl)) sI) (wA1 (mR hr (yZ [1] [1] [("_law_left",s.heap.objs.size+2)] ["_law_left"] (fB (@aU _ _ _ _ _ _ _ _ _ (@aU _ _ _ _ _ _ _ _ _ (sV 2) (sV 0) (by intro _ _; rfl)) sI (by intro _ _; rfl))) (fun _ _ _ _=>(jP (@aU _ _ _ _ _ _ _ _ _ (sV 1) (sV 0) (by intro _ _; rfl)) sI)) (fun _ _ _ _=>(sV 0)) csc (jU .nil) (frc .nil)) (@sLx _ _ _ _ _ _ _ (by decide) sl0)))))) (fun _ _ _ _=>(sV 0)) csc (jU (jU .nil)) (frc (frc .nil)))))
theorem AL:aD ["_law_steps","_law_hands_here","_law_left","_law_beats","_law_beat","_law_number","_law_free","_law_many"] ["_law_steps","_law_hands_here"] (defScope ql):=fsc
theorem C9:DD "_law_due" ql ["_law_steps","_law_hands_here","_law_left","_law_beats","_law_beat","_law_number","_law_free","_law_many"] bS:=fun {_ _ _ _ _ _ _ _ _ _ _ s _ _} cs T G hr =>
 have S:=AL
 (@ssc _ _ _ _ _ _ _ _ (zC1 2 [] [] [] [] (fB (sV 0)) (fun _ _ _ _=>(@aU _ _ _ _ _ _ _ _ _ (sV 0) sI (by intro _ _; rfl))) csc .nil .nil S.nd)
    (@ssc _ _ _ _ _ _ _ _ (@aK _ _ _ _ _ _ _ 3 _ _ _ _ S.nd (@sLx _ _ _ _ _ _ _ (by decide) sl0) (by decide) (by rfl) (by rfl) (by first | exact a0y rfl | exact a0s rfl) (by rfl) (by first | exact .inl rfl | exact .inr rfl))
    (@ssc _ _ _ _ _ _ _ _ (rN (p6 hr (sQ (aO cs.c308 hr (@bg _ _ _ _ _ _ _ (sV 0) (@bg _ _ _ _ _ _ _ (sV 2) sa0 (by intro _ z; cases z) (by rfl)) (by intro _ z; cases z) (by rfl)))) (@sLx _ _ _ _ _ _ _ (by decide) sl0)) (@ssc _ _ _ _ _ _ _ _ (@aK _ _ _ _ _ _ _ 4 _ _ _ _ S.nd (@sLx _ _ _ _ _ _ _ (by decide) sl0) (by decide) (by rfl) (by rfl) (by first | exact a0y rfl | exact a0s rfl) (by rfl) (by first | exact .inl rfl | exact .inr rfl))
     (@ssc _ _ _ _ _ _ _ _ (n5 5 S.nd (fB (sQ (aO cs.c308 hr (@bg _ _ _ _ _ _ _ (sV 0) (@bg _ _ _ _ _ _ _ (sV 2) sa0 (by intro _ z; cases z) (by rfl)) (by intro _ z; cases z) (by rfl))))) (@ssc _ _ _ _ _ _ _ _ (@aK _ _ _ _ _ _ _ 6 _ _ _ _ S.nd (l8 (sV 1) (DH (hm:=T.sum) (ha:=(sC2 [] [] [] [] (vt (sV 4)) (fun _ _ _ _=>(sV 1)) csc .nil .nil)))) (by decide) (by rfl) (by rfl) (by first | exact a0y rfl | exact a0s rfl) (by rfl) (by first | exact .inl rfl | exact .inr rfl))
      (@ss1 _ _ _ _ _ _ (@zIf _ _ _ _ _ _ _ _ _ _ _ _ (jP (sV 6) sI) (@ss1 _ _ _ _ _ _ (kc 4 (@sTx _ _ _ _ _ _ _ (by decide) (@slx _ _ _ _ _ _ _ (sV 5) (@slx _ _ _ _ _ _ _ (BG (hm:=T.min) (ha:=(sV 6)) (hb:=(@aU _ _ _ _ _ _ _ _ _ (sV 2) (sV 5) (by intro _ _; rfl)))) sl0 (by rfl)) (by rfl))))) ss0))))
     (@ssc _ _ _ _ _ _ _ _ (vo 5 7 S.nd (vt (sV 4)) (@ss1 _ _ _ _ _ _ (mP 2 (l8 (@aU _ _ _ _ _ _ _ _ _ (sV 2) (sV 5) (by intro _ _; rfl)) (sV 7)) (sV 5))))
     (@ss1 _ _ _ _ _ _ (kc 3 (sV 4)))))))
    (@ss1 _ _ _ _ _ _ (@cP _ _ _ _ _ _ _ _ (sM 3))))))
theorem S0:aD ["_law_script","_law_tape_here","_law_k","_law_steps","_law_hands_here","_law_kept","_law_told","_law_own","_law_at","_law_beat"] ["_law_script"] (defScope s0):=fsc
theorem D0:DD "law" s0 ["_law_script","_law_tape_here","_law_k","_law_steps","_law_hands_here","_law_kept","_law_told","_law_own","_law_at","_law_beat"] lu:=fun {_ _ _ _ _ _ _ _ _ _ _ s _ _} cs T G hr =>
 have S:=S0
 (@ssc _ _ _ _ _ _ _ _ (@aK _ _ _ _ _ _ _ 1 _ _ _ _ S.nd (aO cs.c179 hr (@bg _ _ _ _ _ _ _ (sV 0) sa0 (by intro _ z; cases z) (by rfl))) (by decide) (by rfl) (by rfl) (by first | exact a0y rfl | exact a0s rfl) (by rfl) (by first | exact .inl rfl | exact .inr rfl))
    (@ssc _ _ _ _ _ _ _ _ (jb 2 S.nd (ve (hm:=T.range) (ha:=sI)) (@ssc _ _ _ _ _ _ _ _ (@aK _ _ _ _ _ _ _ 3 _ _ _ _ S.nd (aO cs.c278 hr (sai 1 sa0)) (by decide) (by rfl) (by rfl) (by first | exact a0y rfl | exact a0s rfl) (by rfl) (by first | exact .inl rfl | exact .inr rfl))
     (@ssc _ _ _ _ _ _ _ _ (@aK _ _ _ _ _ _ _ 4 _ _ _ _ S.nd (aO cs.c279 hr (sai 1 sa0)) (by decide) (by rfl) (by rfl) (by first | exact a0y rfl | exact a0s rfl) (by rfl) (by first | exact .inl rfl | exact .inr rfl))
     (@ssc _ _ _ _ _ _ _ _ (@aK _ _ _ _ _ _ _ 5 _ _ _ _ S.nd (dN (hr:=hr) (hm:=T.repr) (ha:=(sV 3))) (by decide) (by rfl) (by rfl) (by first | exact a0y rfl | exact a0s rfl) (by rfl) (by first | exact .inl rfl | exact .inr rfl))
     (@ssc _ _ _ _ _ _ _ _ (@aK _ _ _ _ _ _ _ 6 _ _ _ _ S.nd (aO cs.c310 hr (@bg _ _ _ _ _ _ _ (sV 3) (@bg _ _ _ _ _ _ _ (sV 4) sa0 (by intro _ z; cases z) (by rfl)) (by intro _ z; cases z) (by rfl))) (by decide) (by rfl) (by rfl) (by first | exact a0y rfl | exact a0s rfl) (by rfl) (by first | exact .inl rfl | exact .inr rfl))
     (@ssc _ _ _ _ _ _ _ _ (@aK _ _ _ _ _ _ _ 7 _ _ _ _ S.nd (aO cs.c312 hr (@bg _ _ _ _ _ _ _ (sV 3) (@bg _ _ _ _ _ _ _ (sV 4) sa0 (by intro _ z; cases z) (by rfl)) (by intro _ z; cases z) (by rfl))) (by decide) (by rfl) (by rfl) (by first | exact a0y rfl | exact a0s rfl) (by rfl) (by first | exact .inl rfl | exact .inr rfl))
     (@ssc _ _ _ _ _ _ _ _ (@zIf _ _ _ _ _ _ _ _ _ _ _ _ (tW (wOr (zH (tB (CC (by decide) a1G T.isin T.list (sV 6)))) (wOr (p6 hr (dN (hr:=hr) (hm:=T.repr) (ha:=(sV 6))) (dN (hr:=hr) (hm:=T.repr) (ha:=(sV 7)))) (wO1 (p6 hr (dN (hr:=hr) (hm:=T.repr) (ha:=(sV 3))) (sV 5)))))) (@ss1 _ _ _ _ _ _ (@cP _ _ _ _ _ _ _ _ sO)) ss0)
     (@ssc _ _ _ _ _ _ _ _ (n5 8 S.nd (fB (sQ (uv (@sLx _ _ _ _ _ _ _ (by decide) (@slx _ _ _ _ _ _ _ sI (@slx _ _ _ _ _ _ _ (sS (gD (hm:=T.len) (ha:=(sV 6))) sI) sl0 (by rfl)) (by rfl))) (gD (hm:=T.len) (ha:=(sV 6)))))) (@ssc _ _ _ _ _ _ _ _ (Dr 6 8)
      (@ssc _ _ _ _ _ _ _ _ (@zIf _ _ _ _ _ _ _ _ _ _ _ _ (p6 hr (dN (hr:=hr) (hm:=T.repr) (ha:=(cm (uv (sV 6) (sV 8)) (Bb (sV 6) (cm (sV 8) sI))))) (dN (hr:=hr) (hm:=T.repr) (ha:=(cm (uv (sV 7) (sV 8)) (Bb (sV 7) (cm (sV 8) sI)))))) (@ss1 _ _ _ _ _ _ (@cP _ _ _ _ _ _ _ _ sO)) ss0)
      (@ss1 _ _ _ _ _ _ (A7 6 8)))))
     (@ssc _ _ _ _ _ _ _ _ (BE 6 9 S.nd)
     (@ssc _ _ _ _ _ _ _ _ (kc 6 (@sLx _ _ _ _ _ _ _ (by decide) sl0))
     (@ss1 _ _ _ _ _ _ (@zIf _ _ _ _ _ _ _ _ _ _ _ _ (p6 hr (dN (hr:=hr) (hm:=T.repr) (ha:=(aO cs.c310 hr (@bg _ _ _ _ _ _ _ (sV 3) (@bg _ _ _ _ _ _ _ (sV 4) sa0 (by intro _ z; cases z) (by rfl)) (by intro _ z; cases z) (by rfl))))) (dN (hr:=hr) (hm:=T.repr) (ha:=(sV 7)))) (@ss1 _ _ _ _ _ _ (@cP _ _ _ _ _ _ _ _ sO)) ss0))))))))))))
    (@ss1 _ _ _ _ _ _ (@cP _ _ _ _ _ _ _ _ (sEq hr (aO cs.c310 hr (@bg _ _ _ _ _ _ _ (@sLx _ _ _ _ _ _ _ (by decide) sl0) (@bg _ _ _ _ _ _ _ sI sa0 (by intro _ z; cases z) (by rfl)) (by intro _ z; cases z) (by rfl))) (@sLx _ _ _ _ _ _ _ (by decide) sl0))))))
end A74

namespace A74
open PySem PySem.Spec PyProof.Rows L2 L3 MR
noncomputable abbrev Cl (n:Nat):M.Call:=M.callR prog 1000000 1000001 n
section
variable {P:Program}{w:World}{K:a0a}{mg:Str->Option Value}{base:Heap}
theorem all (d310:Df K mg "timetable" ot ["steps","hands"])(d290:Df K mg "those_behind" pI ["steps"])(d311:Df K mg "deal" nA ["ready","left","hands"])(d299:Df K mg "put_falling" nF ["numbers","number"])(d179:Df K mg "_law_tape" qu ["_law_script"])(d201:Df K mg "_law_draw" oP ["_law_tape_here","_law_many"])(d278:Df K mg "_law_waits" pH ["_law_tape_here"])(d279:Df K mg "_law_hands" qz ["_law_tape_here"])(d308:Df K mg "_law_can" nB ["_law_steps","_law_left"])(d312:Df K mg "_law_due" ql ["_law_steps","_law_hands_here"])  (T:Txt mg)(G:Glb K w mg):∀ n,Calls P w K mg base n (Cl n)
 | 0 =>
  have c310:ak P w K mg base 0 (Cl 0) "timetable" 310 []:=d310.z
  have c290:ak P w K mg base 0 (Cl 0) "those_behind" 290 []:=d290.z
  have c311:ak P w K mg base 0 (Cl 0) "deal" 311 [0,1]:=d311.z
  have c299:ak P w K mg base 0 (Cl 0) "put_falling" 299 [0]:=d299.z
  have c179:ak P w K mg base 0 (Cl 0) "_law_tape" 179 []:=d179.z
  have c201:ak P w K mg base 0 (Cl 0) "_law_draw" 201 [0]:=d201.z
  have c278:ak P w K mg base 0 (Cl 0) "_law_waits" 278 [0]:=d278.z
  have c279:ak P w K mg base 0 (Cl 0) "_law_hands" 279 [0]:=d279.z
  have c308:ak P w K mg base 0 (Cl 0) "_law_can" 308 []:=d308.z
  have c312:ak P w K mg base 0 (Cl 0) "_law_due" 312 []:=d312.z
  ⟨c310,c290,c311,c299,c179,c201,c278,c279,c308,c312⟩
 | n+1 =>
  have c:=all d310 d290 d311 d299 d179 d201 d278 d279 d308 d312  T G n
  have c310:ak P w K mg base (n+1) (Cl (n+1)) "timetable" 310 []:=d310.s bq zT (C:=Cl n) (by intro f cdv A outer s H E h; exact @C1 P w K mg base n (Cl n) f cdv A outer s H E c T G h)
  have c290:ak P w K mg base (n+1) (Cl (n+1)) "those_behind" 290 []:=d290.s aQ CL (C:=Cl n) (by intro f cdv A outer s H E h; exact @Dy P w K mg base n (Cl n) f cdv A outer s H E c T G h)
  have c311:ak P w K mg base (n+1) (Cl (n+1)) "deal" 311 [0,1]:=d311.s ff AS (C:=Cl n) (by intro f cdv A outer s H E h; exact @Dg P w K mg base n (Cl n) f cdv A outer s H E c T G h)
  have c299:ak P w K mg base (n+1) (Cl (n+1)) "put_falling" 299 [0]:=d299.s aW zN (C:=Cl n) (by intro f cdv A outer s H E h; exact @DN P w K mg base n (Cl n) f cdv A outer s H E c T G h)
  have c179:ak P w K mg base (n+1) (Cl (n+1)) "_law_tape" 179 []:=d179.s bD B8 (C:=Cl n) (by intro f cdv A outer s H E h; exact @Dj P w K mg base n (Cl n) f cdv A outer s H E c T G h)
  have c201:ak P w K mg base (n+1) (Cl (n+1)) "_law_draw" 201 [0]:=d201.s bc BW (C:=Cl n) (by intro f cdv A outer s H E h; exact @CV P w K mg base n (Cl n) f cdv A outer s H E c T G h)
  have c278:ak P w K mg base (n+1) (Cl (n+1)) "_law_waits" 278 [0]:=d278.s f_law_waits Cy (C:=Cl n) (by intro f cdv A outer s H E h; exact @Dv P w K mg base n (Cl n) f cdv A outer s H E c T G h)
  have c279:ak P w K mg base (n+1) (Cl (n+1)) "_law_hands" 279 [0]:=d279.s br Bf (C:=Cl n) (by intro f cdv A outer s H E h; exact @Dm P w K mg base n (Cl n) f cdv A outer s H E c T G h)
  have c308:ak P w K mg base (n+1) (Cl (n+1)) "_law_can" 308 []:=d308.s bQ Aq (C:=Cl n) (by intro f cdv A outer s H E h; exact @DM P w K mg base n (Cl n) f cdv A outer s H E c T G h)
  have c312:ak P w K mg base (n+1) (Cl (n+1)) "_law_due" 312 []:=d312.s bS AL (C:=Cl n) (by intro f cdv A outer s H E h; exact @C9 P w K mg base n (Cl n) f cdv A outer s H E c T G h)
  ⟨c310,c290,c311,c299,c179,c201,c278,c279,c308,c312⟩
end
theorem pure_law:∀ ns:List Int,ns.length<=63->∃ m bs,Cl 40 0 [(.d,.scr ns)]=.ok ((m,.bl true),bs):=fun ns _=>P74.pure_law ns
theorem all_mk {l:a2A}{w:World}{K:a0a}{h:Heap}{mg:Str->Option Value}{fa:Addr}(X:K.In h)(G:h.Ns mainGlobals mg)(hfa:mg "law"=some (.ref fa))(r310:Raw K "timetable" ot .none)(r290:Raw K "those_behind" pI .none)(r311:Raw K "deal" nA .none)(r299:Raw K "put_falling" nF .none)(r179:Raw K "_law_tape" qu .none)(r201:Raw K "_law_draw" oP .none)(r278:Raw K "_law_waits" pH .none)(r279:Raw K "_law_hands" qz .none)(r308:Raw K "_law_can" nB .none)(r312:Raw K "_law_due" ql .none)(r0:Raw K "law" s0 .none)   (tx:x9 K ["isinstance","int","tuple","list","bool","sum","len","all","zip","range","enumerate","any","max","min","sorted","str","repr","abs","dict","set","reversed"]) :
  ∃ fd:FuncData,(∀ (s:Shared) (v:Value),BindsTo s fd ⟨[v],[]⟩ [("_law_script",v)])/\∀ base:Heap,K.In base->base.Ns mainGlobals mg->cZ l.prog w K mg base CX0 40 fa fd ["_law_script"] (spS K (Cl 40) 0 []):=by
 have d310:Df K mg "timetable" ot ["steps","hands"]:=cO X G r310 fun _ _ _ _ _ _ us hl=>match us,hl with | [_,_],_=>rfl
 have d290:Df K mg "those_behind" pI ["steps"]:=cO X G r290 fun _ _ _ _ _ _ us hl=>match us,hl with | [_],_=>rfl
 have d311:Df K mg "deal" nA ["ready","left","hands"]:=cO X G r311 fun _ _ _ _ _ _ us hl=>match us,hl with | [_,_,_],_=>rfl
 have d299:Df K mg "put_falling" nF ["numbers","number"]:=cO X G r299 fun _ _ _ _ _ _ us hl=>match us,hl with | [_,_],_=>rfl
 have d179:Df K mg "_law_tape" qu ["_law_script"]:=cO X G r179 fun _ _ _ _ _ _ us hl=>match us,hl with | [_],_=>rfl
 have d201:Df K mg "_law_draw" oP ["_law_tape_here","_law_many"]:=cO X G r201 fun _ _ _ _ _ _ us hl=>match us,hl with | [_,_],_=>rfl
 have d278:Df K mg "_law_waits" pH ["_law_tape_here"]:=cO X G r278 fun _ _ _ _ _ _ us hl=>match us,hl with | [_],_=>rfl
 have d279:Df K mg "_law_hands" qz ["_law_tape_here"]:=cO X G r279 fun _ _ _ _ _ _ us hl=>match us,hl with | [_],_=>rfl
 have d308:Df K mg "_law_can" nB ["_law_steps","_law_left"]:=cO X G r308 fun _ _ _ _ _ _ us hl=>match us,hl with | [_,_],_=>rfl
 have d312:Df K mg "_law_due" ql ["_law_steps","_law_hands_here"]:=cO X G r312 fun _ _ _ _ _ _ us hl=>match us,hl with | [_,_],_=>rfl
 have T:=wF X G tx
 have Gm:Glb K w mg:=⟨⟩
 exact uY X G hfa r0 (fun _ _ _ _ _ _ _ _=>.of_eq rfl) fun f fd F base=>Fun.okM F S0 rfl (by decide) (by decide) (by decide) (fun _ _ _ _ _ _ h=>D0 (all d310 d290 d311 d299 d179 d201 d278 d279 d308 d312  T Gm 39) T Gm h) fun _=>rfl
end A74

set_option maxHeartbeats 0
namespace H74
open PySem PySem.W TP
noncomputable abbrev pr:Program:=PySem.Challenge.pw_broadrow_k74_timetables_told
noncomputable def tn (i:Nat):Stmt:=pr.main.body.getD i (.Pass p0)
noncomputable def rc:List Rc:=[.m,
.d,
.d,
.d,
.d,
.m,
.d,
.d,
.d,
.d,
.d,
.d,
.d,
.d]
theorem c0 (w:World):Cut pr rc 0 15 187 p0 14 376 89 294 ⟨98,0,118,33⟩ w:=fun o=>by kernel_rfl
theorem ch:Ch pr rc 14 89 294 0 15 187 p0 (376+(2)):=uJ c0 (yB (by kernel_rfl))
noncomputable def q:Program:=view pr [13]
noncomputable def lo:List Str:=(["timetable","those_behind","deal","put_falling","_law_tape","_law_draw","_law_waits","_law_hands","_law_can","_law_whole","_law_due"]:List String).map Str.ofString
noncomputable def as:List Addr:=[3,18,19,23,24,30,31,37,38,44,45,51,52,56,57,63,64,68,69,75,76,80,81,87,88]
noncomputable def K:Params->Frag:=kK pr rc 14 as
noncomputable def hk:Hook:=hkk pr rc 14 89
noncomputable abbrev Xt (s:Shared):Bool:=xlAt q [] s&&recOk (RowW.records (OpenRow.toRowW (OpenLaw.row PySem.Challenge.rw_broadrow_k74_timetables_told))) s
theorem kin (w:World)(h:Heap)(Y:hk.says w h):(K w.params).In h:=CM (by kernel_rfl) (by kernel_rfl) Y
theorem lk (w:World):(fun o=>((staticsOk (importedModules pr.main.body) (boot_heap w.params) (hp pr rc 14 89 w.params)&&namesBound pr (hp pr rc 14 89 w.params)&&gensDone ⟨hp pr rc 14 89 w.params,#[],{},294,o⟩&&laidKept (boot_heap w.params) (hp pr rc 14 89 w.params)),openSeen q lo (importedModules pr.main.body) Xt true ⟨hp pr rc 14 89 w.params,#[],{},294,o⟩,Hook.obs hk ⟨hp pr rc 14 89 w.params,#[],{},294,o⟩))=fun _=>(true,openGood q lo,Hook.val hk w):=by kernel_rfl
theorem e1:opening pr=plainProg pr.main.scope.names:=by kernel_rfl
theorem e2:behindTheImports pr=pr.main.body:=by kernel_rfl
theorem e3 (s:Shared):fenceModules? pr s=some s:=by kernel_rfl
theorem pre (w:World)(o:OsState):topGo treeTable pr w 11 an 12 ⟨boot_heap w.params,a3B [],boot_drawn,boot_toks,o⟩ (topStub pr)=some ((sT pr rc w.params 0 15 187 o).abs,⟨denote treeTable (cE pr),cE pr,p0,B0⟩):=by kernel_rfl
theorem blk (w:World)(o:OsState):segRun treeTable pr w 11 an 1 1 (sT pr rc w.params 0 15 187 o).abs (blockOf (behindTheImports pr) (ev pr) (cE pr) p0 B0)=some (.next,(sT pr rc w.params 0 15 187 o).abs,cE pr,p0):=by kernel_rfl
theorem left:LeftO pr q lo Xt (Hook.obs hk) (Hook.val hk) 880:=rA e1 (by kernel_rfl) e3 e2 qZ pre blk ch (by kernel_rfl) lk
end H74

set_option maxHeartbeats 4000000
open PySem PySem.W PyProof.Rows
set_option maxRecDepth 100000 in
set_option maxHeartbeats 0 in
theorem PySem.Challenge.cw_broadrow_k74_timetables_told_holds : PySem.Challenge.rw_broadrow_k74_timetables_told.Holds := by
 w_on; o_law
 refine holds_open (q:=H74.q) (loose:=H74.lo) (Xt:=H74.Xt) (XP:=XL H74.q []) (Yf:=Hook.obs H74.hk) (Ya:=Hook.val H74.hk) (YP:=Hook.says H74.hk) (N:=880) (d:=TP.drec (H74.tn 13)) (kwd:=[]) H74.left (Hook.of H74.hk) (Hook.keeps H74.hk) (fun s e=>xl_of s (a1T.mp e).1) XL.keeps (by kernel_rfl) (by kernel_rfl) (by kernel_rfl) (fun s e=>recFacts_of (a1T.mp e).2) (by rfl) (by first | assumption | decide +kernel) (by decide +kernel) ⟨rfl,rfl,rfl,rfl,rfl,by decide +kernel⟩ ?hw ?hc
 case hw=>w_witness2
 refine MR.walkX (sx:="_law_script") (l:=PySem.Challenge.rw_broadrow_k74_timetables_told) (k:=40) (C:=A74.Cl 40) (ix:=0) (K:=H74.K) A74.pure_law rfl (by kernel_rfl) ⟨rfl,by decide,by decide,rfl⟩ H74.kin ?F
 case F =>
  intro w mg fa h KX G hmg
  refine' A74.all_mk KX G hmg ?zr310 ?zr290 ?zr311 ?zr299 ?zr179 ?zr201 ?zr278 ?zr279 ?zr308 ?zr312 ?zr0   ?ztx
  case ztx=>refine' ⟨?_,?_,?_,?_,?_,?_,?_,?_,?_,?_,?_,?_,?_,?_,?_,?_,?_,?_,?_,?_,?_,trivial⟩<;>kernel_rfl
  all_goals exact TP.raw_mk (by kernel_rfl) (by kernel_rfl) (by kernel_rfl) (by kernel_rfl)
