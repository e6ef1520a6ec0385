import PyProof.Rows.All
import Wide.All
import OpenK.AllK
import Wide.FinOn
import Lean
import PyProof.EqAt
import PyProof.EqKinds
import PyProof.TupleCall
import PySem.Challenge.RW_broadrow_k76_what_shows_the_least
open PySem.W renaming Frag → a0a, kia_one → a0P, kitOne → a08, fnOf → a1g, kia_tup → a1m, kitx_list → a1G, keepIn → a1J, kitx_tuple → a10, codeIn → a19, methodObj → a2c, cellsFrom_some → a2u, instObj → a2y, OpenLaw → a2z, lookIn → a2F, kitAny → a2G, kitx_none → a2V, kitx_bool → a2W, kitx_dict → a2X, nsIn → a25, plainGet → a27, kitx_int → a28, kitx_str → a29, findIn → a3r, WalkO → a3w, mg_of → a3A
open List renaming length_map → a0b, getD_eq_getElem?_getD → a0c, mem_cons_of_mem → a0d, mem_cons_self → a0e, length_cons → a0g, getElem?_eq_getElem → a0h, replicate → a0i, range → a0k, length_append → a0l, size_toArray → a0n, mem_append_right → a0o, mem_singleton → a0q, mem_cons → a0r, getElem?_map → a0s, length_singleton → a0u, getElem?_eq_some_iff → a0v, map_cons → a0w, all_eq_true → a0x, mem_map → a0z, getElem?_append_right → a0B, length_range → a0C, getElem?_cons_succ → a0E, append_nil → a0F, length_replicate → a0H, mem_append_left → a0I, mem_of_getElem? → a0J, nil_append → a0K, replicate_succ → a0N, mem_append → a0O, getElem?_append_left → a0Q, filterMap_cons → a0R, getElem?_range → a0S, append_assoc → a0T, mem_range → a0U, map_congr_left → a0W, nodup_cons → a0Y, getElem?_replicate → a0Z, not_mem_nil → a01, length_set → a05, take_append_of_le_length → a07, mem_filter → a1e, map_map → a1h, getElem?_cons_zero → a1i, of_mem_zip → a1k, find?_cons → a1l, any_cons → a1o, flatten_cons → a1p, reverse_cons → a1q, getElem?_set_ne → a1s, length_take → a1t, take_length → a1v, take_succ_cons → a1w, length_reverse → a1x, mem_map_of_mem → a1z, map_replicate → a1D, getElem?_set_self → a1F, idxOf_append → a1H, drop_zero → a1K, map_nil → a1L, getElem?_eq_none → a1N, length_drop → a1O, eq_nil_of_length_eq_zero → a1P, mem_iff_getElem → a1R, length → a1T, foldl_cons → a1U, length_pos_iff → a1V, idxOf_lt_length_of_mem → a1W, drop_succ_cons → a1X, count_cons → a1Y, pairwise_cons → a13, set_cons_zero → a14, set_cons_succ → a15, take_add_one → a2h, count_append → a2i, all_cons → a2k, sum_cons → a2n, length_eq_zero_iff → a2o, lookup_cons → a2q, getElem_mem → a2r, drop_length → a2s, take_of_length_le → a2w, range_zero → a2C, take_zero → a2H, foldl_nil → a2I, count_nil → a2J, mem_filterMap → a2O, getElem_range → a2S, take_sublist → a2Y, getElem?_set → a20, nodup_append → a21, zipIdx_cons → a3c, nodup_range → a3f, countP_cons → a3g, ext_getElem → a3h, getElem_map → a3i, length_nil → a3k, forIn_cons → a3l, zipIdx_nil → a3m, map_append → a3p, map_const' → a3q, forIn_nil → a3s, foldl → a3u, take_nil → a3y, drop_nil → a3z, map → a3D, map_set → a3O
open Bool renaming false_ne_true → a0f, and_eq_true → a0j, true_and → a1E, false_and → a1I, and_eq_true_iff → a1Q, and_true → a2Q, true_or → a23, or_true → a26, or_eq_true → a3n, false_or → a3x
open Nat renaming le_refl → a0m, lt_of_lt_of_le → a0p, le_trans → a0y, ne_of_lt → a0D, zero_le → a0M, lt_irrefl → a04, ne_of_gt → a1b, not_lt_zero → a1f, lt_succ_self → a1u, add_comm → a1B, lt_of_le_of_lt → a1C, le_of_lt → a1Z, sub_self → a16, lt_or_ge → a17, le_succ → a2l, succ_le_succ → a2p, zero_add → a2A, le_of_ble_eq_true → a2B, lt_trans → a24, le_of_not_lt → a3b, le_add_right → a3d, mul_comm → a3G, max_zero → a3N
open Option.some renaming inj → a0t, injEq → a2g
open Or renaming inr → a0A, inl → a0G
open PyProof.Rows renaming slot_tuple_getitem → a0L, callWith_type1 → a0X, boot_tuple → a00, boot_list → a02, boot_int → a1M, boot_isinstance → a1S, boot_bool → a2x, callWith_builtin1 → a22, boot_range → a3B, eq_dataH → a3H, ne_dataH → a3I, kmk_tree → a3L, boot_str → a3P
open Array renaming length_toList → a0V, all_eq_true' → a11, toArray_toList → a2D, size_append → a2Z, mk → a3C, toList → a3F
open PySem renaming mem_of_lookup → a03, reprText → a2a, boot_len → a3t, call → a3v, Within → a3E, PyData → a3J
open PySem.Builtin.Str renaming occurrences → a06
open Int renaming toNat_natCast → a09, fmod_eq_emod_of_nonneg → a1r, toNat_of_nonneg → a1y, le_refl → a2M, emod_lt_of_pos → a2R, emod_nonneg → a3o, zero_add → a3M
open True renaming intro → a1a
open Option renaming toList_none → a1c, isSome_iff_exists → a1A, bind_eq_some_iff → a2m, toList_some → a2P, getD_none → a3a, bind_some → a3e
open Nat.succ renaming inj → a1d
open PySem.F renaming plainAttrs_list → a1j, slot_list_reverse → a2b, args_tuple_add_2 → a2d, slot_list_append → a2e, type_list_append → a2f, entry_tuple_add → a2j, slot_tuple_add → a2v
open False renaming elim → a1n
open Prod renaming snd → a12, fst → a3R
open Ne renaming symm → a18
open PyProof renaming noPylong_small → a2t
open String renaming length_toList → a2E
open Prod.mk renaming inj → a2K
open PySem.AutoListH renaming list_reverse_list_0 → a2L
open List.Perm renaming nodup_iff → a2N
open Sum renaming inl → a2T, inr → a2U
open And renaming left → a3j
open Classical renaming em → a3K
open Sum.inl renaming inj → a3Q
open List.Pairwise renaming nil → a3S, imp → a3T
set_option genSizeOf false
set_option genInjectivity false
set_option Elab.async false
set_option linter.all false
set_option maxRecDepth 100000
namespace L2
open PySem PySem.Spec PyProof.Rows
noncomputable abbrev Key:=Sum Int Str
noncomputable def gQ:Key->Value->Bool
 | .inl k,v=>Value.isInt k v
 | .inr x,v=>Value.isStrOf x v
noncomputable def EG (w:World):Key->Int
 | .inl k=>hashInt k
 | .inr x=>hashStr w x
theorem aJ:∀ {k:Key} {v:Value},gQ k v=true->(∃ i t,k=a2T i/\v=Value.int i t)\/(∃ x t,k=a2U x/\v=Value.str x t)
 | .inl i,v,h=>by
  obtain ⟨t,e⟩:=Value.isInt_shape (k:=i) (v:=v) h
  exact .inl ⟨i,t,rfl,e⟩
 | .inr x,v,h=>by
  obtain ⟨t,e⟩:=Value.isStrOf_shape (x:=x) (v:=v) h
  exact .inr ⟨x,t,rfl,e⟩
theorem ny (i:Int)(t:Tok):gQ (.inl i) (.int i t)=true:=by simp [gQ,Value.isInt]
theorem mM (x:Str)(t:Tok):gQ (.inr x) (.str x t)=true:=by simp [gQ,Value.isStrOf]
theorem yW (a b:Int):decide ((a2T a:Key)=a2T b)=(a==b):=by
 by_cases e:a=b
 ·subst e; simp
 ·have h:¬ (a2T a:Key)=a2T b:=fun q=>e (a3Q q)
  rw [decide_eq_false h]
  exact (beq_eq_false_iff_ne.mpr e).symm
theorem ye (a b:Str):decide ((a2U a:Key)=a2U b)=decide (a=b):=by
 by_cases e:a=b
 ·subst e; simp
 ·have h:¬ (a2U a:Key)=a2U b:=fun q=>e (Sum.inr.inj q)
  rw [decide_eq_false h,decide_eq_false e]
theorem yV (a:Int)(b:Str):decide ((a2T a:Key)=a2U b)=false:=decide_eq_false (fun q=>nomatch q)
theorem zP (a:Str)(b:Int):decide ((a2U a:Key)=a2T b)=false:=decide_eq_false (fun q=>nomatch q)
noncomputable def aT (prog:Program)(w:World):PySem.KeyKind prog w Key where
 is:=gQ
 hash:=EG w
 inj:=fun v a b ha hb=>by
  rcases aJ ha with ⟨i,t,rfl,rfl⟩ | ⟨x,t,rfl,rfl⟩
  ·rcases aJ hb with ⟨j,u,rfl,e⟩ | ⟨y,u,rfl,e⟩
   ·injection e with e1 _; rw [e1]
   ·exact nomatch e
  ·rcases aJ hb with ⟨j,u,rfl,e⟩ | ⟨y,u,rfl,e⟩
   ·exact nomatch e
   ·injection e with e1 _; rw [e1]
 byValue:=fun k v h=>by
  rcases aJ h with ⟨i,t,rfl,rfl⟩ | ⟨x,t,rfl,rfl⟩<;>rfl
 pyHash:=fun hv h=>by
  rcases aJ hv with ⟨i,t,rfl,rfl⟩ | ⟨x,t,rfl,rfl⟩
  ·exact wpAny_pyHash_int h
  ·exact wpAny_pyHash_str h
 eqBool:=fun hu hv h=>by
  rcases aJ hu with ⟨i,t,rfl,rfl⟩ | ⟨x,t,rfl,rfl⟩
  ·rcases aJ hv with ⟨j,u,rfl,rfl⟩ | ⟨y,u,rfl,rfl⟩
   ·rw [yW] at h; exact wpAny_eqBool_int h
   ·rw [yV] at h; exact SeqAt.EqAt.int_str i t y u _ _ _ _ h
  ·rcases aJ hv with ⟨j,u,rfl,rfl⟩ | ⟨y,u,rfl,rfl⟩
   ·rw [zP] at h; exact SeqAt.EqAt.str_int x t j u _ _ _ _ h
   ·rw [ye] at h; exact wpAny_eqBool_str h
 «strs»:=fun k x t v h=>by
  rcases aJ h with ⟨i,u,rfl,e⟩ | ⟨y,u,rfl,e⟩
  ·exact nomatch e
  ·injection e with e1 _
   subst e1
   cases v<;>rfl
theorem jm (prog:Program)(w:World)(i:Int)(t:Tok):(aT prog w).is (.inl i) (.int i t)=true:=ny i t
theorem jM (prog:Program)(w:World)(x:Str)(t:Tok):(aT prog w).is (.inr x) (.str x t)=true:=mM x t
end L2
namespace L2
open PySem PySem.Spec PyProof.Rows
set_option genInjectivity true
inductive V where
 | non | bl (b:Bool) | int (i:Int) | str (x:Str) | byt (b:Array UInt8) | flt (b:UInt64) | ref (a:Addr) | ty (n:String)
 deriving DecidableEq
set_option genInjectivity false
noncomputable def RelV:V->Value->Prop
 | .non,u=>u=Value.none
 | .bl b,u=>u=Value.bool b
 | .int i,u=>∃ t,u=Value.int i t
 | .str x,u=>∃ t,u=Value.str x t
 | .byt b,u=>∃ t,u=Value.bytes b t
 | .flt b,u=>∃ t,u=Value.float b t
 | .ref a,u=>u=Value.ref a
 | .ty n,u=>u=Value.type n
noncomputable abbrev Vals:List V->List Value->Prop:=Paired RelV
theorem Vals.length {xs:List V}{us:List Value}(r:Vals xs us):xs.length=us.length:=Paired.length r
theorem Vals.get:∀ {xs:List V} {us:List Value} {i:Nat} {x:V},Vals xs us->xs[i]?=some x->∃ u,us[i]?=some u/\RelV x u
 | _,_,_,_,.nil,e=>by simp at e
 | _,_,0,_,.cons r _,e=>by simp at e; subst e; exact ⟨_,rfl,r⟩
 | _,_,i+1,x,.cons _ t,e=>by
  obtain ⟨u,h1,h2⟩:=Vals.get (i:=i) (x:=x) t (by simpa using e)
  exact ⟨u,by simpa using h1,h2⟩
theorem Vals.set {x:V}{u:Value}(r:RelV x u):∀ {xs:List V} {us:List Value} (i:Nat),Vals xs us->Vals (xs.set i x) (us.set i u)
 | _,_,_,.nil=>.nil
 | _,_,0,.cons _ t=>.cons r t
 | _,_,i+1,.cons q t=>.cons q (Vals.set r i t)
theorem Vals.append:∀ {xs ys:List V} {us ws:List Value},Vals xs us->Vals ys ws->Vals (xs++ys) (us++ws)
 | _,_,_,_,.nil,s=>s
 | _,_,_,_,.cons r t,s=>.cons r (Vals.append t s)
theorem Vals.take:∀ {xs:List V} {us:List Value} (n:Nat),Vals xs us->Vals (xs.take n) (us.take n)
 | _,_,0,_=>.nil
 | _,_,_+1,.nil=>.nil
 | _,_,n+1,.cons r t=>.cons r (Vals.take n t)
theorem Vals.drop:∀ {xs:List V} {us:List Value} (n:Nat),Vals xs us->Vals (xs.drop n) (us.drop n)
 | _,_,0,r=>r
 | _,_,_+1,.nil=>.nil
 | _,_,n+1,.cons _ t=>Vals.drop n t
noncomputable def RelO:Option V->Option Value->Prop
 | some v,some u=>RelV v u
 | none,none=>True
 | _,_=>False
noncomputable def KV {κ:Type}:List (κ×V)->List (κ×Value)->Prop:=Paired fun (p:κ×V) (q:κ×Value)=>p.1=q.1/\RelV p.2 q.2
noncomputable def kV:Key->V
 | .inl i=>.int i
 | .inr x=>.str x
inductive HO where
 | lst (xs:List V)
 | tup (xs:List V)
 | dK (kvs:List (Key×V)) | dT (kvs:List (List Key×V))
 | set (S:Int->Bool) (n:Nat)
 | ins (C dx:Addr) (fs:List (Str×V))
 | own (x:Addr)
 | xd (fs:List (Str×V))
 | met (f x:Addr)
 | rng (lo hi:Int)
 | frz (o:Obj) (u:HO)
 | tbl (ps:Array Value)
 | ext (φ:Heap->Prop)
noncomputable abbrev Hp:=Addr->Option HO
noncomputable def upd (H:Hp)(a:Addr)(o:HO):Hp:=fun b=>if b=a then some o else H b
theorem ai {H:Hp}{a:Addr}{o:HO}:upd H a o a=some o:=by unfold upd; rw [if_pos rfl]
theorem ab {H:Hp}{a b:Addr}{o:HO}(h:b≠a):upd H a o b=H b:=by unfold upd; rw [if_neg h]
theorem Ed {H:Hp}{a b:Addr}{o u:HO}(h:H a=some o)(h':H b=some u)(d:o≠u):a≠b:=by
 intro e; subst e; rw [h] at h'; exact d (a0t h')
theorem aE {H:Hp}{a b:Addr}{o:HO}(h:H a=some o)(h':H b=none):a≠b:=by
 intro e; subst e; rw [h] at h'; cases h'
section
variable (P:Program)(w:World)
noncomputable def ObjOk (H:Hp)(h:Heap)(a:Addr):HO->Prop
 | .lst xs=>xs.length<=sizeLine/\∃ (its:List Value) (n:Nat),Vals xs its/\h.get? a=some { cls:=.type "list",data:=.seq its.toArray n }
 | .tup xs=>xs.length<=sizeLine/\∃ its:List Value,Vals xs its/\IsTup h a its.toArray
 | .dK kvs=>kvs.length<=sizeLine/\(a==sysModules)=false/\∃ vs,KV kvs vs/\h.DictOf (aT P w) a vs
 | .dT kvs=>kvs.length<=sizeLine/\(a==sysModules)=false/\∃ xs:List (List Key×Addr×Value),
   Paired (fun (p:List Key×V) (q:List Key×Addr×Value)=>p.1=q.1/\H q.2.1=some (.tup (p.1.map kV))/\RelV p.2 q.2.2) kvs xs /\
   ∃ o es ep,h.get? a=some o/\o.ExactDict/\o.data=.dict es ep/\es.toList=xs.map (entryOfKey (tupleKind (aT P w)))/\(xs.map (·.1)).Nodup
 | .set S n=>h.SetOf (intKind P w) a S n
 | .ins C dx fs=>H dx=some (.own a)/\fs.length<=1000/\dx≠a/\h.get? a=some (a2y C dx) /\
   ∃ mA,h.Ns1 dx mA/\(∀ f,RelO (fs.lookup f) (mA f))/\a3E mA (fs.map (·.1))
 | .own _=>∃ o,h.get? a=some o
 | .xd fs=>∃ mA,h.Ns1 a mA/\∀ f,RelO (fs.lookup f) (mA f)
 | .rng lo hi=>∃ t u v,h.get? a=some { cls:=.type "range",data:=.fields #[.int lo t,.int hi u,.int 1 v] }
 | .frz o u=>h.get? a=some o/\ObjOk H h a u
 | .tbl ps=>h.get? a=some { cls:=.none,data:=.fields ps }
 | .met f x=>h.get? a=some (a2c (.ref f) (.ref x))
 | .ext φ=>φ h/\(∃ o,h.get? a=some o)/\∀ h1 h2:Heap,φ h1->(∀ o,h1.get? a=some o->h2.get? a=some o)->φ h2
noncomputable def HOk (H:Hp)(h:Heap):Prop:=∀ a o,H a=some o->ObjOk P w H h a o
end
section
variable {P:Program}{w:World}{H H':Hp}{h h':Heap}{a:Addr}{o:HO}
theorem ObjOk.lt (x:ObjOk P w H h a o):a < h.objs.size:=by
 cases o with
 | lst xs=>obtain ⟨_,_,_,_,e⟩:=x; exact Heap.lt_size e
 | tup xs=>obtain ⟨_,_,_,p⟩:=x; exact p.lt
 | dK kvs=>obtain ⟨_,_,_,_,o,_,_,e,_⟩:=x; exact Heap.lt_size e
 | dT kvs=>obtain ⟨_,_,_,_,o,_,_,e,_⟩:=x; exact Heap.lt_size e
 | set S n=>obtain ⟨o,_,_,_,e,_⟩:=x; exact Heap.lt_size e
 | ins C dx fs=>obtain ⟨_,_,_,e,_⟩:=x; exact Heap.lt_size e
 | own y=>obtain ⟨_,e⟩:=x; exact Heap.lt_size e
 | xd fs=>obtain ⟨_,⟨_,_,_,e,_⟩,_⟩:=x; exact Heap.lt_size e
 | rng lo hi=>obtain ⟨_,_,_,e⟩:=x; exact Heap.lt_size e
 | frz ob u=>obtain ⟨e,_⟩:=x; exact Heap.lt_size e
 | tbl ps=>exact Heap.lt_size (show h.get? a=some _ from x)
 | met f y=>exact Heap.lt_size (show h.get? a=some _ from x)
 | ext φ=>obtain ⟨_,⟨_,e⟩,_⟩:=x; exact Heap.lt_size e
theorem Paired.mapP {α β:Type}{F G:α->β->Prop}:∀ {l₁:List α} {l₂:List β},Paired F l₁ l₂->(∀ a b,F a b->G a b)->Paired G l₁ l₂
 | _,_,.nil,_=>.nil
 | _,_,.cons r t,f=>.cons (f _ _ r) (Paired.mapP t f)
theorem ObjOk.stay (x:ObjOk P w H h a o)(k:∀ b u,(b=a\/H b=some (.own a))->h.get? b=some u->h'.get? b=some u)
  (ho:∀ b,H b=some (.own a)->H' b=some (.own a)) (ht:∀ b xs,H b=some (.tup xs)->H' b=some (.tup xs)):ObjOk P w H' h' a o:=by
 induction o with
 | lst xs=>obtain ⟨z,its,n,r,e⟩:=x; exact ⟨z,its,n,r,k _ _ (.inl rfl) e⟩
 | tup xs=>obtain ⟨z,its,r,ob,e,c⟩:=x; exact ⟨z,its,r,ob,k _ _ (.inl rfl) e,c⟩
 | dK kvs=>obtain ⟨z,y,vs,r,ob,es,ep,e,c⟩:=x; exact ⟨z,y,vs,r,ob,es,ep,k _ _ (.inl rfl) e,c⟩
 | dT kvs =>
  obtain ⟨z,y,xs,r,ob,es,ep,e,c⟩:=x
  exact ⟨z,y,xs,Paired.mapP r fun p q z=>⟨z.1,ht _ _ z.2.1,z.2.2⟩,ob,es,ep,k _ _ (.inl rfl) e,c⟩
 | set S n=>obtain ⟨ob,es,ep,t,e,c⟩:=x; exact ⟨ob,es,ep,t,k _ _ (.inl rfl) e,c⟩
 | ins C dx fs =>
  obtain ⟨d,z,ne,e,mA,⟨od,es,ep,e2,c⟩,r⟩:=x
  exact ⟨ho _ d,z,ne,k _ _ (.inl rfl) e,mA,⟨od,es,ep,k _ _ (.inr d) e2,c⟩,r⟩
 | own y=>obtain ⟨ob,e⟩:=x; exact ⟨ob,k _ _ (.inl rfl) e⟩
 | xd fs=>obtain ⟨mA,⟨od,es,ep,e,c⟩,r⟩:=x; exact ⟨mA,⟨od,es,ep,k _ _ (.inl rfl) e,c⟩,r⟩
 | rng lo hi=>obtain ⟨t,u,v,e⟩:=x; exact ⟨t,u,v,k _ _ (.inl rfl) e⟩
 | frz ob u ih=>obtain ⟨e,q⟩:=x; exact ⟨k _ _ (.inl rfl) e,ih q⟩
 | tbl ps =>
  have e:h.get? a=some { cls:=.none,data:=.fields ps }:=x
  show h'.get? a=some { cls:=.none,data:=.fields ps }
  exact k a _ (.inl rfl) e
 | met f y =>
  have e:h.get? a=some (a2c (.ref f) (.ref y)):=x
  show h'.get? a=some (a2c (.ref f) (.ref y))
  exact k a _ (.inl rfl) e
 | ext φ=>obtain ⟨p,⟨o,e⟩,st⟩:=x; exact ⟨st _ _ p fun o q=>k _ _ (.inl rfl) q,⟨o,k _ _ (.inl rfl) e⟩,st⟩
theorem HOk.lt (x:HOk P w H h)(e:H a=some o):a < h.objs.size:=(x a o e).lt
theorem HOk.fresh (x:HOk P w H h)(e:h.objs.size<=a):H a=none:=by
 cases q:H a with
 | none=>rfl
 | some u=>exact absurd (a0p (x.lt q) e) (a04 _)
theorem HOk.kept (x:HOk P w H h)(k:∀ b u,h.get? b=some u->h'.get? b=some u):HOk P w H h':=fun a o e =>
 (x a o e).stay (fun b u _ q=>k b u q) (fun _ q=>q) fun _ _ q=>q
theorem HOk.laid (x:HOk P w H h)(k:∀ b u,h.get? b=some u->h'.get? b=some u)(hp:h.objs.size<=a)(new:ObjOk P w (upd H a o) h' a o):HOk P w (upd H a o) h':=fun b u e=>by
 have hn:=x.fresh hp
 by_cases hb:b=a
 ·subst hb; rw [ai] at e; cases e; exact new
 ·rw [ab hb] at e
  exact (x b u e).stay (fun c v _ q=>k c v q) (fun c q=>by rw [ab (aE q hn)]; exact q) fun c xs q=>by rw [ab (aE q hn)]; exact q
end
noncomputable def Rd (H:Hp)(a:Addr)(u:HO):Prop:=H a=some u\/∃ o,H a=some (.frz o u)
theorem Rd.ok {P:Program}{w:World}{H:Hp}{h:Heap}{a:Addr}{u:HO}(r:Rd H a u)(x:HOk P w H h):ObjOk P w H h a u:=by
 rcases r with r | ⟨o,r⟩
 ·exact x a u r
 ·obtain ⟨_,q⟩:=x a _ r
  exact q
noncomputable def Mut:Option HO->Prop
 | some (.lst _)=>True
 | some (.dK _)=>True
 | some (.dT _)=>True
 | some (.set _ _)=>True
 | some (.ins _ _ _)=>True
 | some (.ext _)=>True
 | _=>False
section
variable {P:Program}{w:World}{H:Hp}{h h':Heap}{x e:Addr}{o':HO}
theorem HOk.write (ok:HOk P w H h)(mu:Mut (H x))(he:e=x\/H e=some (.own x))(k:∀ b u,b≠e->h.get? b=some u->h'.get? b=some u)(heo:∃ u,h'.get? e=some u)
  (new:ObjOk P w (upd H x o') h' x o'):HOk P w (upd H x o') h':=fun b u q=>by
 have nown:∀ c y,H c=some (.own y)->c≠x:=fun c y r z=>by subst z; rw [r] at mu; exact mu
 have ntup:∀ c xs,H c=some (.tup xs)->c≠x:=fun c xs r z=>by subst z; rw [r] at mu; exact mu
 by_cases hb:b=x
 ·subst hb; rw [ai] at q; cases q; exact new
 ·rw [ab hb] at q
  by_cases hbe:b=e
  ·have q':H b=some (.own x):=by
    rcases he with z | z
    ·exact absurd (hbe.trans z) hb
    ·rw [hbe]; exact z
   rw [q] at q'; cases q'
   obtain ⟨v,hv⟩:=heo
   exact ⟨v,by rw [hbe]; exact hv⟩
  ·refine (ok b u q).stay (fun c v hc r=>k c v ?_ r) (fun c r=>by rw [ab (nown c b r)]; exact r) fun c xs r=>by rw [ab (ntup c xs r)]; exact r
   rcases hc with rfl | hc
   ·exact hbe
   ·rintro rfl
    rcases he with z | z
    ·exact nown c b hc z
    ·rw [hc] at z; cases z; exact hb rfl
end
structure Un (fs ex:List Addr)(H H':Hp)(h h':Heap):Prop where
 keep:∀ b o,h.get? b=some o->H b=none->b ∉ fs->b ∉ ex->h'.get? b=some o
 slot:∀ b o,h.get? b=some o->H b=none->b∈fs->b ∉ ex->∃ sl,h'.get? b=some { o with slots:=sl }
 free:∀ b o,h.get? b=some o->H b=none->b ∉ ex->H' b=none
 there:∀ b o,h.get? b=some o->b ∉ ex->∃ o',h'.get? b=some o'
 tups:∀ b xs,H b=some (.tup xs)->H' b=some (.tup xs)
 frzs:∀ b o u,H b=some (.frz o u)->H' b=some (.frz o u)
 tbls:∀ b ps,H b=some (.tbl ps)->∃ more,H' b=some (.tbl (ps++more))
section
variable {fs fs' ex ex':List Addr}{H H1 H2:Hp}{h h1 h2 h':Heap}{a x e:Addr}{o:HO}
theorem Un.any (u:Un fs ex H H1 h h1){b:Addr}{ob:Obj}(q:h.get? b=some ob)(n:H b=none)(hx:b ∉ ex):∃ sl,h1.get? b=some { ob with slots:=sl }:=by
 by_cases hb:b∈fs
 ·exact u.slot b ob q n hb hx
 ·exact ⟨ob.slots,u.keep b ob q n hb hx⟩
theorem Un.kept (k:∀ b u,h.get? b=some u->h'.get? b=some u):Un fs ex H H h h' :=
 ⟨fun b ob q _ _ _=>k b ob q,fun b ob q _ _ _=>⟨ob.slots,k b ob q⟩,fun _ _ _ n _=>n,fun b ob q _=>⟨ob,k b ob q⟩,fun _ _ q=>q,fun _ _ _ q=>q,fun _ ps q=>⟨#[],by rw [q]; simp⟩⟩
theorem Un.refl:Un fs ex H H h h:=Un.kept fun _ _ q=>q
theorem Un.laid (k:∀ b u,h.get? b=some u->h'.get? b=some u)(hp:h.objs.size<=a)(hn:H a=none):Un fs ex H (upd H a o) h h' where
 keep:=fun b u q _ _ _=>k b u q
 slot:=fun b u q _ _ _=>⟨u.slots,k b u q⟩
 free:=fun b u q n _=>by rw [ab (a0D (a0p (Heap.lt_size q) hp))]; exact n
 there:=fun b u q _=>⟨u,k b u q⟩
 tups:=fun b xs q=>by rw [ab (aE q hn)]; exact q
 frzs:=fun b u xs q=>by rw [ab (aE q hn)]; exact q
 tbls:=fun b ps q=>⟨#[],by rw [ab (aE q hn),q]; simp⟩
theorem Un.write (mu:Mut (H x))(he:e=x\/H e=some (.own x))(k:∀ b u,b≠e->h.get? b=some u->h'.get? b=some u)(heo:∃ u,h'.get? e=some u):Un fs ex H (upd H x o) h h':=by
 have hx:∀ b,H b=none->b≠x:=fun b n z=>by subst z; rw [n] at mu; exact mu
 have hb:∀ b,H b=none->b≠e:=fun b n z=>by
  subst z
  rcases he with r | r
  ·exact hx b n r
  ·rw [n] at r; cases r
 have hm:∀ b u,H b=some u->¬ Mut (some u)->b≠x:=fun b u q nm z=>by subst z; rw [q] at mu; exact nm mu
 refine ⟨fun b u q n _ _=>k b u (hb b n) q,fun b u q n _ _=>⟨u.slots,k b u (hb b n) q⟩,fun b u q n _=>by rw [ab (hx b n)]; exact n,fun b u q _=>?_,
  fun b xs q=>by rw [ab (hm b _ q fun z=>z)]; exact q,fun b u xs q=>by rw [ab (hm b _ q fun z=>z)]; exact q,fun b ps q=>⟨#[],by rw [ab (hm b _ q fun z=>z),q]; simp⟩⟩
 by_cases hbe:b=e
 ·subst hbe; exact heo
 ·exact ⟨u,k b u hbe q⟩
end
noncomputable def trk (h:Heap)(H:Hp):List Addr:=(a0k h.objs.size).filter fun a=>(H a).isSome
noncomputable def ic (h:Heap)(H:Hp):Heap:=PySem.W.hideAll h (trk h H)
theorem m8 (h:Heap)(H:Hp):(ic h H).objs.size=h.objs.size:=PySem.W.hideAll_size _ _
theorem qk {h:Heap}{H:Hp}{b:Addr}{o:Obj}(e:h.get? b=some o)(n:H b=none):(ic h H).get? b=some o :=
 PySem.W.hideAll_get _ e fun hm=>by
  have q:(H b).isSome=true:=(a1e.mp hm).2
  rw [n] at q; simp at q
theorem v9 {h:Heap}{H:Hp}{b:Addr}{o:Obj}(e:(ic h H).get? b=some o):h.get? b=some o/\H b=none:=by
 have e':h.get? b=some o:=PySem.W.of_hideAll (trk h H) e
 refine ⟨e',?_⟩
 cases q:H b with
 | none=>rfl
 | some x =>
  have hm:b∈trk h H:=a1e.mpr ⟨a0U.mpr (Heap.lt_size e'),by simp [q]⟩
  have z:(ic h H).get? b=none:=PySem.W.hideAll_none (trk h H) hm
  rw [z] at e; cases e
noncomputable def tF (g h:Heap)(L:Addr):List (Addr×Obj):=(a0k h.objs.size).filterMap fun a=>if a=L\/(g.get? a).isSome=true then none else (h.get? a).map fun o=>(a,o)
noncomputable def rest (g h:Heap)(L d:Addr):List (Addr×Obj):=(tF g h L).filter fun p=>decide (p.1≠d)
end L2
namespace L2
open PySem PySem.Spec PyProof.Rows
structure Mod (K:a0a)(mg:Str->Option Value)(base:Heap):Prop where
 kin:K.In base
 glob:base.Ns mainGlobals mg
 blt:∃ mb,base.Ns builtinsNs mb/\∀ x:Str,x≠"__name__"->mb x=bootBuiltins x
 nolimit:base.NoLimit
structure Cx where
 prog:Program
 w:World
 K:a0a
 mg:Str->Option Value
 base:Heap
 A:Around
 N:List Str
 s₀:Shared
 H₀:Hp
 env:Env
 outer:List Env
 stack:List Env
 ex:List Addr
 fn:Str->Bool
 calm:Bool
 pn:List (Addr×Obj)
 xe:Value->Shared->Prop
noncomputable def frs (l:List Env):List Addr:=l.filterMap (·.frame)
noncomputable abbrev Cx.fs (X:Cx):List Addr:=frs X.outer
noncomputable def Vis (sc:Scope)(x:Str):Prop:=sc.names.lookup x=some .local\/sc.names.lookup x=some .cell\/sc.names.lookup x=some .free
noncomputable def Loc (sc:Scope)(x:Str):Prop:=sc.names.lookup x=some .local\/sc.names.lookup x=some .cell
noncomputable def FR (env:Env)(h:Heap)(m:Str->Option Value)(x:Str)(u:Value):Prop :=
 (env.kindOf x=some .local/\m x=some u)\/((env.kindOf x=some .cell\/env.kindOf x=some .free)/\∃ c,env.cells.lookup x=some c/\h.IsCell c (some u))
structure Cx.Ok (X:Cx):Prop where
 mod:Mod X.K X.mg X.base
 kind:X.env.scope.kind=.function
 glob:X.env.globals=mainGlobals
 blt:X.env.builtins=builtinsNs
 above:X.s₀.heap.objs.size<=X.env.locals
 inj:∀ x y c,X.env.cells.lookup x=some c->X.env.cells.lookup y=some c->x=y
 has:∀ x,(X.env.kindOf x=some .cell\/X.env.kindOf x=some .free)->∃ c,X.env.cells.lookup x=some c
 cab:∀ x c,X.fn x=true->X.env.cells.lookup x=some c->X.s₀.heap.objs.size<=c
 hd:X.calm=true->X.A.handled=none
 frames:X.A.frames=some X.stack
 stk:X.stack=X.outer\/(X.stack=X.env::X.outer/\X.env.frame=some X.env.locals)
 exf:∀ b∈X.ex,b≠X.env.locals/\∀ x c,X.env.cells.lookup x=some c->c≠b
 bs:∀ b o,X.base.get? b=some o->X.s₀.heap.get? b=some o/\X.H₀ b=none
 bsz:X.base.objs.size<=X.s₀.heap.objs.size
 noex:∀ b o,X.base.get? b=some o->b ∉ X.ex
 exfs:∀ b∈X.ex,b ∉ X.fs
 funs:X.s₀.heap.FunFrames X.base X.outer
 frf:∀ b∈X.fs,X.H₀ b=none
structure Inv (X:Cx)(pins:List (Addr×Obj))(σ:List (Option V))(H:Hp)(s:Shared):Prop where
 ok:X.Ok
 os:s.os=X.s₀.os
 bare:AllBare s.gens
 base:Un X.fs X.ex X.H₀ H X.s₀.heap s.heap
 loc:∃ m,s.heap.Ns X.env.locals m/\∀ (i:Nat) (x:Str) (v:V),X.N[i]?=some x->σ[i]?=some (some v)->Vis X.env.scope x->∃ u,RelV v u/\FR X.env s.heap m x u
 cell:∀ x c,X.env.cells.lookup x=some c->∃ v,s.heap.IsCell c v
 free:H X.env.locals=none
 freeC:∀ x c,X.env.cells.lookup x=some c->H c=none
 pin:∀ p∈X.pn++pins,s.heap.get? p.1=some p.2/\H p.1=none/\p.1≠X.env.locals/\p.1 ∉ X.fs/\∀ v,p.2.data≠.cell v
 hok:HOk X.prog X.w H s.heap
 len:σ.length=X.N.length
section
variable {X:Cx}{pins:List (Addr×Obj)}{σ:List (Option V)}{H H':Hp}{s:Shared}{h':Heap}
theorem Cx.Ok.nofr (ok:X.Ok){b:Addr}{o:Obj}(e:X.base.get? b=some o):b ∉ X.fs:=fun hb=>by
 have:=(ok.funs.mem hb).1
 rw [e] at this; cases this
theorem Inv.bs (I:Inv X pins σ H s):∀ b o,X.base.get? b=some o->s.heap.get? b=some o/\H b=none:=fun b o e =>
 ⟨I.base.keep b o (I.ok.bs b o e).1 (I.ok.bs b o e).2 (I.ok.nofr e) (I.ok.noex b o e),I.base.free b o (I.ok.bs b o e).1 (I.ok.bs b o e).2 (I.ok.noex b o e)⟩
theorem Inv.bk (I:Inv X pins σ H s):∀ b o,X.base.get? b=some o->s.heap.get? b=some o:=fun b o e=>(I.bs b o e).1
theorem Inv.mod (I:Inv X pins σ H s):Mod X.K X.mg X.base:=I.ok.mod
theorem Inv.kIn (I:Inv X pins σ H s):X.K.In s.heap:=I.ok.mod.kin.keeps I.bk
theorem Inv.fr (I:Inv X pins σ H s):∃ m,Fr X.base X.env.locals s.heap m :=
 let ⟨m,hn,_⟩:=I.loc
 ⟨m,hn,I.bk,a0y I.ok.bsz I.ok.above⟩
theorem Inv.lt (I:Inv X pins σ H s):X.env.locals < s.heap.objs.size:=let ⟨_,hn,_⟩:=I.loc; hn.lt
theorem Inv.sz (I:Inv X pins σ H s):X.s₀.heap.objs.size<=s.heap.objs.size:=a0y I.ok.above (a1Z I.lt)
theorem Inv.nofs (I:Inv X pins σ H s){a:Addr}(h:s.heap.objs.size<=a):a ∉ X.fs:=fun hb=>by
 obtain ⟨_,o,ho,_⟩:=I.ok.funs.mem hb
 exact absurd (a0p (Heap.lt_size ho) (a0y I.sz h)) (a04 _)
theorem Inv.cne (I:Inv X pins σ H s):∀ x c,X.env.cells.lookup x=some c->c≠X.env.locals:=fun x c e z=>by
 obtain ⟨v,o,ho,hd⟩:=I.cell x c e
 obtain ⟨m,⟨o',es,ep,ho',hd',_⟩,_⟩:=I.loc
 rw [z,ho'] at ho; cases ho; rw [hd'] at hd; cases hd
theorem Inv.funs (I:Inv X pins σ H s):s.heap.FunFrames X.base X.outer:=by
 have all:∀ (l:List Env),(∀ b∈frs l,b∈X.fs)->X.s₀.heap.FunFrames X.base l->s.heap.FunFrames X.base l:=by
  intro l
  induction l with
  | nil=>intro _ _; trivial
  | cons env r ih =>
   intro hs hl
   obtain ⟨hk,⟨L,o,hf,hn,ho,hd⟩,hr⟩:=hl
   have hL:L∈X.fs:=hs L (by unfold frs; rw [a0R,hf]; exact a0e)
   obtain ⟨sl,e⟩:=I.base.slot L o ho (I.ok.frf L hL) hL fun z=>I.ok.exfs L z hL
   exact ⟨hk,⟨L,_,hf,hn,e,hd⟩,ih (fun b hb=>hs b (by unfold frs; rw [a0R,hf]; exact a0d _ hb)) hr⟩
 exact all X.outer (fun _ hb=>hb) I.ok.funs
theorem Inv.stack (I:Inv X pins σ H s):s.heap.FunFrames X.base X.stack:=by
 rcases I.ok.stk with e | ⟨e,hf⟩
 ·rw [e]; exact I.funs
 ·rw [e]
  obtain ⟨m,hn,_⟩:=I.loc
  refine .cons (by rw [I.ok.kind]; decide) hf hn ?_ I.funs
  exact Heap.get?_none_of_le (a0y I.ok.bsz I.ok.above)
theorem Inv.stkSub (I:Inv X pins σ H s):∀ b∈frs X.stack,b∈X.env.locals::X.fs:=fun b hb=>by
 rcases I.ok.stk with e | ⟨e,hf⟩
 ·rw [e] at hb; exact a0d _ hb
 ·rw [e] at hb
  unfold frs at hb
  rw [a0R,hf] at hb
  exact hb
theorem Inv.stkFree (I:Inv X pins σ H s):∀ b∈frs X.stack,H b=none:=fun b hb=>by
 rcases a0r.mp (I.stkSub b hb) with e | hb
 ·rw [e]; exact I.free
 ·obtain ⟨_,o,ho,_⟩:=I.ok.funs.mem hb
  exact I.base.free b o ho (I.ok.frf b hb) fun z=>I.ok.exfs b z hb
theorem Inv.step {g':Array GenState}{t':Nat}{d':Drawn}{ch:List Addr}(I:Inv X pins σ H s)
  (hch:∀ b∈ch,(b∈X.ex\/X.s₀.heap.objs.size<=b)/\b≠X.env.locals/\(∀ x c,X.env.cells.lookup x=some c->c≠b)/\∀ p∈X.pn++pins,p.1≠b)
  (keep:∀ b o,b≠X.env.locals->b ∉ X.fs->b ∉ ch->s.heap.get? b=some o->H b=none->h'.get? b=some o)
  (slot:∀ b o,b≠X.env.locals->b∈X.fs->b ∉ ch->s.heap.get? b=some o->H b=none->∃ sl,h'.get? b=some { o with slots:=sl }) (free:∀ b o,b ∉ ch->s.heap.get? b=some o->H b=none->H' b=none)
  (there:∀ b o,b ∉ ch->s.heap.get? b=some o->∃ o',h'.get? b=some o')
  (tups:∀ b xs,H b=some (.tup xs)->H' b=some (.tup xs)) (frzs:∀ b o u,H b=some (.frz o u)->H' b=some (.frz o u)) (tbls:∀ b ps,H b=some (.tbl ps)->∃ more,H' b=some (.tbl (ps++more)))
  (ns:∀ m,s.heap.Ns X.env.locals m->h'.Ns X.env.locals m) (hok:HOk X.prog X.w H' h') (hg:AllBare g') :
  Inv X pins σ H' { s with heap:=h',gens:=g',drawn:=d',toks:=t' }:=by
 have neL:∀ b o,X.s₀.heap.get? b=some o->b≠X.env.locals:=fun b o e=>a0D (a0p (Heap.lt_size e) I.ok.above)
 have neC:∀ b o,X.s₀.heap.get? b=some o->b ∉ X.ex->b ∉ ch:=fun b o e hx hb=>by
  rcases (hch b hb).1 with z | z
  ·exact hx z
  ·exact absurd (a0p (Heap.lt_size e) z) (a04 _)
 have cellK:∀ x c,X.env.cells.lookup x=some c->∀ v,s.heap.IsCell c v->h'.IsCell c v:=fun x c e v ⟨o,ho,hd⟩=>by
  have nch:c ∉ ch:=fun z=>(hch c z).2.2.1 x c e rfl
  by_cases hc:c∈X.fs
  ·obtain ⟨sl,q⟩:=slot c o (I.cne x c e) hc nch ho (I.freeC x c e)
   exact ⟨_,q,hd⟩
  ·exact ⟨o,keep c o (I.cne x c e) hc nch ho (I.freeC x c e),hd⟩
 refine ⟨I.ok,I.os,hg,⟨fun b o e n hb hx=>?_,fun b o e n hb hx=>?_,fun b o e n hx=>?_,fun b o e hx=>?_,fun b xs e=>tups b xs (I.base.tups b xs e),fun b o xs e=>frzs b o xs (I.base.frzs b o xs e),fun b ps e=>?_⟩,?_,fun x c e=>?_,?_,fun x c e=>?_,fun p hp=>?_,hok,I.len⟩
 ·exact keep b o (neL b o e) hb (neC b o e hx) (I.base.keep b o e n hb hx) (I.base.free b o e n hx)
 ·obtain ⟨sl,e1⟩:=I.base.slot b o e n hb hx
  obtain ⟨sl',e2⟩:=slot b _ (neL b o e) hb (neC b o e hx) e1 (I.base.free b o e n hx)
  exact ⟨sl',e2⟩
 ·obtain ⟨o',e1⟩:=I.base.there b o e hx
  exact free b o' (neC b o e hx) e1 (I.base.free b o e n hx)
 ·obtain ⟨o',e1⟩:=I.base.there b o e hx
  exact there b o' (neC b o e hx) e1
 ·obtain ⟨m1,e1⟩:=I.base.tbls b ps e
  obtain ⟨m2,e2⟩:=tbls b _ e1
  exact ⟨m1++m2,by rw [e2,Array.append_assoc]⟩
 ·obtain ⟨m,hn,hl⟩:=I.loc
  refine ⟨m,ns m hn,fun i x v e1 e2 e3=>?_⟩
  obtain ⟨u,r,l⟩:=hl i x v e1 e2 e3
  refine ⟨u,r,?_⟩
  rcases l with l | ⟨k,c,e,z⟩
  ·exact .inl l
  ·exact .inr ⟨k,c,e,cellK x c e _ z⟩
 ·obtain ⟨v,z⟩:=I.cell x c e
  exact ⟨v,cellK x c e v z⟩
 ·obtain ⟨m,⟨o,_,_,ho,_⟩,_⟩:=I.loc
  exact free _ o (fun z=>(hch _ z).2.1 rfl) ho I.free
 ·obtain ⟨v,o,ho,hd⟩:=I.cell x c e
  exact free c o (fun z=>(hch c z).2.2.1 x c e rfl) ho (I.freeC x c e)
 ·obtain ⟨e,n,ne,nf,d⟩:=I.pin p hp
  have nch:p.1 ∉ ch:=fun z=>(hch p.1 z).2.2.2 p hp rfl
  exact ⟨keep p.1 p.2 ne nf nch e n,free p.1 p.2 nch e n,ne,nf,d⟩
theorem Inv.un {t':Nat}(I:Inv X pins σ H s)(u:Un X.fs [] H H' s.heap h')(hok:HOk X.prog X.w H' h'):Inv X pins σ H' { s with heap:=h',toks:=t' }:=by
 obtain ⟨m,⟨o,es,ep,ho,r⟩,_⟩:=id I.loc
 obtain ⟨sl,hL⟩:=u.any ho I.free (by simp)
 exact I.step (g':=s.gens) (d':=s.drawn) (ch:=[]) (fun _ z=>nomatch z) (fun b o _ hb _ e n=>u.keep b o e n hb (by simp)) (fun b o _ hb _ e n=>u.slot b o e n hb (by simp)) (fun b o _ e n=>u.free b o e n (by simp)) (fun b o _ e=>u.there b o e (by simp)) u.tups u.frzs u.tbls (fun m' hm=>by
  obtain ⟨o',es',ep',ho',r'⟩:=hm
  rw [ho] at ho'; cases ho'
  exact ⟨_,es',ep',hL,r'⟩) hok I.bare
theorem Inv.call {g':Array GenState}{t':Nat}{d':Drawn}{ch:List Addr}(I:Inv X pins σ H s)(u:Un (frs X.stack) ch H H' s.heap h')(hok:HOk X.prog X.w H' h')(hg:AllBare g')
  (hch:∀ b∈ch,(b∈X.ex\/X.s₀.heap.objs.size<=b)/\b≠X.env.locals/\(∀ x c,X.env.cells.lookup x=some c->c≠b)/\∀ p∈X.pn++pins,p.1≠b) :
  Inv X pins σ H' { s with heap:=h',gens:=g',drawn:=d',toks:=t' }:=by
 obtain ⟨m,⟨o,es,ep,ho,r⟩,_⟩:=id I.loc
 obtain ⟨sl,hL⟩:=u.any ho I.free fun z=>(hch _ z).2.1 rfl
 exact I.step (ch:=ch) hch (fun b o hL hb hc e n=>u.keep b o e n (fun z=>(a0r.mp (I.stkSub b z)).elim hL hb) hc) (fun b o _ _ hc e n=>u.any e n hc) (fun b o hc e n=>u.free b o e n hc) (fun b o hc e=>u.there b o e hc) u.tups u.frzs u.tbls (fun m' hm=>by
  obtain ⟨o',es',ep',ho',r'⟩:=hm
  rw [ho] at ho'; cases ho'
  exact ⟨_,es',ep',hL,r'⟩) hok hg
theorem Inv.turned {t':Nat}{it:Addr}(I:Inv X pins σ H s)(k:∀ b o,b≠it->s.heap.get? b=some o->h'.get? b=some o)(hn:H it=none)(hL:it≠X.env.locals)
  (h1:it∈X.ex\/X.s₀.heap.objs.size<=it) (h2:∀ x c,X.env.cells.lookup x=some c->c≠it) (h3:∀ p∈X.pn++pins,p.1≠it):Inv X pins σ H { s with heap:=h',toks:=t' }:=by
 have nit:∀ b u,H b=some u->b≠it:=fun b u e z=>by rw [z,hn] at e; cases e
 refine I.step (g':=s.gens) (d':=s.drawn) (ch:=[it]) (fun b hb=>?_) (fun b o _ _ hc e _=>k b o (fun z=>hc (by simp [z])) e) (fun b o _ _ hc e _=>⟨o.slots,k b o (fun z=>hc (by simp [z])) e⟩) (fun _ _ _ _ n=>n)
  (fun b o hc e=>⟨o,k b o (fun z=>hc (by simp [z])) e⟩) (fun _ _ e=>e) (fun _ _ _ e=>e) (fun b ps e=>⟨#[],by rw [e]; simp⟩) (fun m hm=>?_) (fun b u e=>?_) I.bare
 ·have e:b=it:=by simpa using hb
  subst e
  exact ⟨h1,hL,h2,h3⟩
 ·obtain ⟨o,es,ep,ho,r⟩:=hm
  exact ⟨o,es,ep,k _ o (a18 hL) ho,r⟩
 ·refine (I.hok b u e).stay (fun c v hc q=>k c v ?_ q) (fun _ q=>q) fun _ _ q=>q
  rcases hc with z | z
  ·rw [z]; exact nit b u e
  ·exact nit c _ z
theorem Inv.tok (I:Inv X pins σ H s)(t:Nat):Inv X pins σ H { s with toks:=t }:=I.un (h':=s.heap) (t':=t) Un.refl I.hok
theorem Inv.kept {t':Nat}(I:Inv X pins σ H s)(k:∀ b u,s.heap.get? b=some u->h'.get? b=some u):Inv X pins σ H { s with heap:=h',toks:=t' }:=I.un (Un.kept k) (I.hok.kept k)
theorem Inv.laid {a:Addr}{o:HO}{t':Nat}(I:Inv X pins σ H s)(k:∀ b u,s.heap.get? b=some u->h'.get? b=some u)(hp:s.heap.objs.size<=a)(new:ObjOk X.prog X.w (upd H a o) h' a o) :
  Inv X pins σ (upd H a o) { s with heap:=h',toks:=t' }:=I.un (Un.laid k hp (I.hok.fresh hp)) (I.hok.laid k hp new)
theorem Inv.write {x e:Addr}{o:HO}{t':Nat}(I:Inv X pins σ H s)(mu:Mut (H x))(he:e=x\/H e=some (.own x))(k:∀ b u,b≠e->s.heap.get? b=some u->h'.get? b=some u)(heo:∃ u,h'.get? e=some u)
  (new:ObjOk X.prog X.w (upd H x o) h' x o):Inv X pins σ (upd H x o) { s with heap:=h',toks:=t' }:=I.un (Un.write mu he k heo) (I.hok.write mu he k heo new)
theorem Inv.weak {σ':List (Option V)}(I:Inv X pins σ H s)(hl:σ'.length=σ.length)(w:∀ (i:Nat) v,σ'[i]?=some (some v)->σ[i]?=some (some v)):Inv X pins σ' H s :=
 ⟨I.ok,I.os,I.bare,I.base,let ⟨m,hn,hl'⟩:=I.loc; ⟨m,hn,fun i x v e1 e2 e3=>hl' i x v e1 (w i v e2) e3⟩,I.cell,I.free,I.freeC,I.pin,I.hok,hl.trans I.len⟩
theorem Inv.pins_of {pins':List (Addr×Obj)}(I:Inv X pins σ H s)(h:∀ p∈pins',s.heap.get? p.1=some p.2/\H p.1=none/\p.1≠X.env.locals/\p.1 ∉ X.fs/\∀ v,p.2.data≠.cell v):Inv X pins' σ H s :=
 ⟨I.ok,I.os,I.bare,I.base,I.loc,I.cell,I.free,I.freeC,fun p hp=>(a0O.mp hp).elim (fun z=>I.pin p (a0I _ z)) (h p),I.hok,I.len⟩
theorem jq {N:List Str}(hN:N.Nodup){i j:Nat}{x:Str}(a:N[i]?=some x)(b:N[j]?=some x):i=j:=by
 obtain ⟨h1,e1⟩:=a0v.mp a
 obtain ⟨h2,e2⟩:=a0v.mp b
 exact (List.getElem_inj hN).mp (e1.trans e2.symm)
theorem gW {M:Model}{A:Around}{E:Value->Shared->Prop}{i:Nat}{x:Str}{v:V}{u:Value}{Q:Unit->Shared->Prop}(I:Inv X pins σ H s)(hN:X.N.Nodup)(hi:X.N[i]?=some x)(hx:Loc X.env.scope x)(r:RelV v u)
  (h:∀ s',Inv X pins (σ.set i (some v)) H s'->(∃ a,Heap.SameBut a s.heap s'.heap/\(a=X.env.locals\/X.env.cells.lookup x=some a))->Q () s') (hf:X.fn x=true\/X.env.scope.names.lookup x=some .local:=by first | exact .inl rfl | exact .inr rfl | assumption):wpAny M A (storeName X.env x u) Q E s:=by
 obtain ⟨m,hn,hl⟩:=id I.loc
 have hcls:(X.env.scope.kind==.class || (X.env.scope.kind==.module&&X.env.locals != X.env.globals))=false:=by rw [I.ok.kind]; rfl
 have hiσ:i < σ.length:=by rw [I.len]; exact (a0v.mp hi).1
 have cne:=I.cne
 have tracked:∀ {a:Addr} {h':Heap},(∃ o,s.heap.get? a=some o/\H a=none)->Heap.SameBut a s.heap h'->HOk X.prog X.w H h':=fun {a h'} ha hs b ob e=>by
  obtain ⟨_,_,hfree⟩:=ha
  refine (I.hok b ob e).stay (fun c w' hc q=>(hs.2 c ?_).trans q) (fun _ q=>q) fun _ _ q=>q
  rintro rfl
  rcases hc with rfl | hc
  ·rw [hfree] at e; cases e
  ·rw [hfree] at hc; cases hc
 rcases hx with hk | hk
 ·refine wpAny_storeName_local hk hn (fun h' hn' hs=>?_) hcls
  obtain ⟨oL,_,_,hoL,_⟩:=id hn
  refine h _ ⟨I.ok,I.os,I.bare,⟨fun b o e n hb hx=>?_,fun b o e n hb hx=>?_,I.base.free,fun b o e hx=>?_,I.base.tups,I.base.frzs,I.base.tbls⟩,⟨_,hn',fun j y v' e1 e2 e3=>?_⟩,fun y c e=>?_,I.free,I.freeC,fun p hp=>?_,tracked ⟨oL,hoL,I.free⟩ hs,by simpa using I.len⟩ ⟨_,hs,.inl rfl⟩
  ·exact (hs.2 b (a0D (a0p (Heap.lt_size e) I.ok.above))).trans (I.base.keep b o e n hb hx)
  ·obtain ⟨sl,e1⟩:=I.base.slot b o e n hb hx
   exact ⟨sl,(hs.2 b (a0D (a0p (Heap.lt_size e) I.ok.above))).trans e1⟩
  ·obtain ⟨o',e1⟩:=I.base.there b o e hx
   exact ⟨o',(hs.2 b (a0D (a0p (Heap.lt_size e) I.ok.above))).trans e1⟩
  ·by_cases hj:j=i
   ·subst hj
    rw [hi] at e1; cases e1
    rw [a1F hiσ] at e2
    cases e2
    exact ⟨u,r,.inl ⟨hk,by simp⟩⟩
   ·rw [a1s (a18 hj)] at e2
    obtain ⟨u',r',q⟩:=hl j y v' e1 e2 e3
    refine ⟨u',r',?_⟩
    rcases q with ⟨k,e⟩ | ⟨k,c,e,z⟩
    ·refine .inl ⟨k,?_⟩
     have:y≠x:=fun e=>hj (jq hN e1 (e ▸ hi))
     simp [this,e]
    ·exact .inr ⟨k,c,e,z.sameBut hs (cne y c e)⟩
  ·obtain ⟨w',z⟩:=I.cell y c e
   exact ⟨w',z.sameBut hs (cne y c e)⟩
  ·obtain ⟨e,n,ne,nf,d⟩:=I.pin p hp
   exact ⟨(hs.2 p.1 ne).trans e,n,ne,nf,d⟩
 ·have hfn:X.fn x=true:=by
   rcases hf with z | z
   ·exact z
   ·rw [z] at hk; cases hk
  obtain ⟨c,hc⟩:=I.ok.has x (.inl hk)
  obtain ⟨w',z⟩:=I.cell x c hc
  refine wpAny_storeName_cell I.ok.kind hk hc z (fun h' hc' hs=>?_)
  obtain ⟨oc,hoc,hocd⟩:=id z
  refine h { s with heap:=h' } ⟨I.ok,I.os,I.bare,⟨fun b o e n hb hx=>?_,fun b o e n hb hx=>?_,I.base.free,fun b o e hx=>?_,I.base.tups,I.base.frzs,I.base.tbls⟩,⟨m,hn.sameBut hs (a18 (cne x c hc)),fun j y v' e1 e2 e3=>?_⟩,fun y c' e=>?_,I.free,I.freeC,fun p hp=>?_,tracked ⟨oc,hoc,I.freeC x c hc⟩ hs,by simpa using I.len⟩ ⟨c,hs,.inr hc⟩
  ·exact (hs.2 b (a0D (a0p (Heap.lt_size e) (I.ok.cab x c hfn hc)))).trans (I.base.keep b o e n hb hx)
  ·obtain ⟨sl,e1⟩:=I.base.slot b o e n hb hx
   exact ⟨sl,(hs.2 b (a0D (a0p (Heap.lt_size e) (I.ok.cab x c hfn hc)))).trans e1⟩
  ·obtain ⟨o',e1⟩:=I.base.there b o e hx
   exact ⟨o',(hs.2 b (a0D (a0p (Heap.lt_size e) (I.ok.cab x c hfn hc)))).trans e1⟩
  ·by_cases hj:j=i
   ·subst hj
    rw [hi] at e1; cases e1
    rw [a1F hiσ] at e2
    cases e2
    exact ⟨u,r,.inr ⟨.inl hk,c,hc,hc'⟩⟩
   ·rw [a1s (a18 hj)] at e2
    obtain ⟨u',r',q⟩:=hl j y v' e1 e2 e3
    refine ⟨u',r',?_⟩
    rcases q with q | ⟨k,c',e,z'⟩
    ·exact .inl q
    ·refine .inr ⟨k,c',e,z'.sameBut hs ?_⟩
     rintro rfl
     exact hj (jq hN e1 (I.ok.inj _ _ _ e hc ▸ hi))
  ·by_cases hcc:c'=c
   ·subst hcc; exact ⟨_,hc'⟩
   ·obtain ⟨w2,z2⟩:=I.cell y c' e
    exact ⟨w2,z2.sameBut hs hcc⟩
  ·obtain ⟨e,n,ne,nf,d⟩:=I.pin p hp
   refine ⟨(hs.2 p.1 ?_).trans e,n,ne,nf,d⟩
   intro q
   rw [q,hoc] at e
   have q':oc=p.2:=a0t e
   exact d w' (by rw [<- q']; exact hocd)
theorem ju {M:Model}{A:Around}{E:Value->Shared->Prop}{i:Nat}{x:Str}{v:V}{u:Value}{Q:Unit->Shared->Prop}(I:Inv X pins σ H s)(hN:X.N.Nodup)(hi:X.N[i]?=some x)(hx:Loc X.env.scope x)(r:RelV v u)
  (h:∀ s',Inv X pins (σ.set i (some v)) H s'->Q () s') (hf:X.fn x=true\/X.env.scope.names.lookup x=some .local:=by first | exact .inl rfl | exact .inr rfl | assumption):wpAny M A (storeName X.env x u) Q E s :=
 gW I hN hi hx r (fun s' I' _=>h s' I') hf
theorem Inv.call' {s':Shared}{ch:List Addr}(I:Inv X pins σ H s)(ho:s'.os=s.os)(u:Un (frs X.stack) ch H H' s.heap s'.heap)(hok:HOk X.prog X.w H' s'.heap)(hg:AllBare s'.gens)
  (hch:∀ b∈ch,(b∈X.ex\/X.s₀.heap.objs.size<=b)/\b≠X.env.locals/\(∀ x c,X.env.cells.lookup x=some c->c≠b)/\∀ p∈X.pn++pins,p.1≠b):Inv X pins σ H' s':=by
 obtain ⟨h',g',d',t',o'⟩:=s'
 have e:o'=s.os:=ho
 subst e
 exact I.call (g':=g') (t':=t') (d':=d') u hok hg hch
end
noncomputable abbrev XK:=Value->Option Addr->Hp->Prop
noncomputable abbrev St:=List (Option V)
noncomputable abbrev VK:=V->Hp->Prop
noncomputable abbrev TE:=St->Hp->VK->Prop
noncomputable abbrev TT:=St->Hp->(Bool->Hp->Prop)->Prop
noncomputable abbrev TA:=St->Hp->(List V->Hp->Prop)->Prop
structure bw where
 nx:St->Hp->Prop
 rt:VK
 bk:St->Hp->Prop:=fun _ _=>False
 ct:St->Hp->Prop:=fun _ _=>False
noncomputable abbrev TS:=bw->St->Hp->Prop
noncomputable def EP (X:Cx)(pins:List (Addr×Obj))(σ:St)(Q:VK)(u:Value)(s':Shared):Prop:=∃ v H',Inv X pins σ H' s'/\RelV v u/\Q v H'
noncomputable def TP (X:Cx)(pins:List (Addr×Obj))(σ:St)(Q:Bool->Hp->Prop)(b:Bool)(s':Shared):Prop:=∃ H',Inv X pins σ H' s'/\Q b H'
noncomputable def AP (X:Cx)(pins:List (Addr×Obj))(σ:St)(Q:List V->Hp->Prop)(us:List Value)(s':Shared):Prop:=∃ vs H',Inv X pins σ H' s'/\Vals vs us/\Q vs H'
noncomputable def SP (X:Cx)(pins:List (Addr×Obj))(D:bw)(f:Flow)(s':Shared):Prop :=
 match f with
 | .next=>∃ σ' H',Inv X pins σ' H' s'/\D.nx σ' H'
 | .brk=>∃ σ' H',Inv X pins σ' H' s'/\D.bk σ' H'
 | .cont=>∃ σ' H',Inv X pins σ' H' s'/\D.ct σ' H'
 | .ret u=>∃ v σ' H',Inv X pins σ' H' s'/\RelV v u/\D.rt v H'
noncomputable def PE (X:Cx)(e:Expr)(t:TE):Prop :=
 ∀ (pins:List (Addr×Obj)) (s:Shared) (σ:St) (H:Hp) (Q:VK),Inv X pins σ H s->t σ H Q->wpAny (model X.prog X.w) X.A (eval e X.env) (EP X pins σ Q) X.xe s
noncomputable def PT (X:Cx)(e:Expr)(t:TT):Prop :=
 ∀ (pins:List (Addr×Obj)) (s:Shared) (σ:St) (H:Hp) (Q:Bool->Hp->Prop),Inv X pins σ H s->t σ H Q->wpAny (model X.prog X.w) X.A (isTrue e X.env (eval e X.env)) (TP X pins σ Q) X.xe s
noncomputable def PW (X:Cx)(e:Expr)(t:TT):Prop :=
 ∀ (whole:Sem Value) (pins:List (Addr×Obj)) (s:Shared) (σ:St) (H:Hp) (Q:Bool->Hp->Prop),Inv X pins σ H s->t σ H Q->wpAny (model X.prog X.w) X.A (isTrue e X.env whole) (TP X pins σ Q) X.xe s
theorem PW.pt {X:Cx}{e:Expr}{t:TT}(h:PW X e t):PT X e t:=h _
noncomputable def PA (X:Cx)(es:List Expr)(t:TA):Prop :=
 ∀ (pos:Pos) (pins:List (Addr×Obj)) (s:Shared) (σ:St) (H:Hp) (Q:List V->Hp->Prop),Inv X pins σ H s->t σ H Q->wpAny (model X.prog X.w) X.A (spliced (backTo pos (starEach es X.env))) (AP X pins σ Q) X.xe s
noncomputable def PS (X:Cx)(st:Stmt)(t:TS):Prop :=
 ∀ (pins:List (Addr×Obj)) (s:Shared) (σ:St) (H:Hp) (D:bw),Inv X pins σ H s->t D σ H->wpAny (model X.prog X.w) X.A (exec st X.env) (SP X pins D) X.xe s
noncomputable def PSs (X:Cx)(st:List Stmt)(t:TS):Prop :=
 ∀ (pins:List (Addr×Obj)) (s:Shared) (σ:St) (H:Hp) (D:bw),Inv X pins σ H s->t D σ H->wpAny (model X.prog X.w) X.A (execs st X.env) (SP X pins D) X.xe s
theorem thn {α:Type}{t:Sem α}{Q Q':α->Shared->Prop}{M:Model}{A:Around}{E:Value->Shared->Prop}{s:Shared}(h:wpAny M A t Q E s)(hQ:∀ a s,Q a s->Q' a s):wpAny M A t Q' E s:=wpAny_mono h hQ fun _ _ x=>x
end L2
namespace L2
open PySem PySem.Spec PyProof.Rows
section
variable {X:Cx}
noncomputable def iN (i:Nat):TE:=fun σ H Q=>∃ v,σ[i]?=some (some v)/\Q v H
noncomputable def tC (v:V):TE:=fun _ H Q=>Q v H
theorem bq {i:Nat}{x:Str}{pos:Pos}(hN:X.N[i]?=some x)(hv:Vis X.env.scope x)(hd:(x==("__debug__":Str))=false:=by decide)(hcd:(x==("__classdict__":Str))=false:=by decide):PE X (.Name x pos) (iN i):=by
 intro pins s σ H Q I h
 obtain ⟨v,e,h⟩:=h
 obtain ⟨m,hn,hl⟩:=I.loc
 obtain ⟨u,r,l⟩:=hl i x v hN e hv
 have fin:EP X pins σ Q u s:=⟨v,H,I,r,h⟩
 rcases l with ⟨hk,hm⟩ | ⟨hk,c,hc,hcell⟩
 ·exact wpAny_Name (wpAny_loadName_local I.ok.kind hk hn hm fin) hd
 ·rcases hk with hk | hk
  ·exact wpAny_Name (wpAny_loadName_cell I.ok.kind hk hc hcell fin) hd
  ·exact wpAny_Name (wpAny_loadName_free I.ok.kind hk hc hcell fin hcd) hd
theorem qB {i j pos}:PE X (.Constant (.int i) j pos) (tC (.int i)):=fun _ _ _ H _ I h=>wpAny_Constant_int ⟨.int i,H,I.tok _,⟨_,rfl⟩,h⟩
theorem Cd {b j pos}:PE X (.Constant (.bool b) j pos) (tC (.bl b)):=fun _ _ _ H _ I h=>Constant_bool ⟨.bl b,H,I,rfl,h⟩
theorem AS {j pos}:PE X (.Constant .none j pos) (tC .non):=fun _ _ _ H _ I h=>Constant_none ⟨.non,H,I,rfl,h⟩
theorem AX {x j pos}:PE X (.Constant (.str x) j pos) (tC (.str x)):=fun _ _ _ H _ I h=>Calls.Constant_str ⟨.str x,H,I.tok _,⟨_,rfl⟩,h⟩
noncomputable def Gl (X:Cx)(x:Str):Prop:=X.env.kindOf x=some .globalImplicit
theorem tE {E:Value->Shared->Prop}{pins:List (Addr×Obj)}{s:Shared}{σ:St}{H:Hp}{x:Str}{u:Value}{pos:Pos}{Q:Value->Shared->Prop}(I:Inv X pins σ H s)(hg:Gl X x)(hm:X.mg x=some u)(h:Q u s)
  (hd:(x==("__debug__":Str))=false:=by decide):wpAny (model X.prog X.w) X.A (eval (.Name x pos) X.env) Q E s :=
 Calls.Name_function_global I.ok.kind hg (Calls.loadGlobal_global (by rw [I.ok.glob]; exact I.mod.glob.keeps I.bk) hm h) hd
theorem cX {E:Value->Shared->Prop}{pins:List (Addr×Obj)}{s:Shared}{σ:St}{H:Hp}{x:Str}{u:Value}{pos:Pos}{Q:Value->Shared->Prop}(I:Inv X pins σ H s)(hg:Gl X x)(hm:X.mg x=none)(hv:bootBuiltins x=some u)(h:Q u s)
  (hn:x≠"__name__":=by decide) (hd:(x==("__debug__":Str))=false:=by decide):wpAny (model X.prog X.w) X.A (eval (.Name x pos) X.env) Q E s:=by
 obtain ⟨mb,h1,h2⟩:=I.mod.blt
 exact Calls.Name_function_global I.ok.kind hg (Calls.loadGlobal_builtin (by rw [I.ok.glob]; exact I.mod.glob.keeps I.bk) hm (by rw [I.ok.blt]; exact h1.keeps I.bk) ((h2 x hn).trans hv) h) hd
theorem wj {x:Str}{v:V}{u:Value}{pos:Pos}(hg:Gl X x)(hm:X.mg x=none)(hv:bootBuiltins x=some u)(r:RelV v u)(hn:x≠"__name__":=by decide)(hd:(x==("__debug__":Str))=false:=by decide):PE X (.Name x pos) (tC v) :=
 fun _ _ _ H _ I h=>cX I hg hm hv ⟨v,H,I,r,h⟩ hn hd
variable {a b:Expr}{ta tb:TE}{pos:Pos}
noncomputable def PC (X:Cx)(op:CmpOp)(a b:Expr)(t:TE):Prop :=
 ∀ (pins:List (Addr×Obj)) (s:Shared) (σ:St) (H:Hp) (Q:VK),Inv X pins σ H s->t σ H Q ->
  wpAny (model X.prog X.w) X.A (eval a X.env) (fun v s₁=>wpAny (model X.prog X.w) X.A (eval b X.env) (fun u s₂=>wpAny (model X.prog X.w) X.A (compareOp op v u) (EP X pins σ Q) X.xe s₂) X.xe s₁) X.xe s
noncomputable def tB (t:TE):TT:=fun σ H Q=>t σ H fun x H1=>∃ c,x=.bl c/\Q c H1
variable {tA tB':TT}{rest:List Expr}
noncomputable def BW (t u:TT):TT:=fun σ H Q=>t σ H fun c H1=>if c=true then u σ H1 Q else Q false H1
noncomputable def tOr (t u:TT):TT:=fun σ H Q=>t σ H fun c H1=>if c=true then Q true H1 else u σ H1 Q
noncomputable def Bq (t:TT):TT:=fun σ H Q=>t σ H fun c H1=>Q (!c) H1
theorem u7 (ha:PT X a tA):PW X (.BoolOp .And [a] pos) tA:=by
 intro wh pins s σ H Q I h
 refine isTrue_and (thn (ha pins s σ H Q I h) fun c s1 e=>?_)
 cases c with
 | true=>exact isTrue_and_nil e
 | false=>exact e
theorem zK (ha:PT X a tA):PW X (.BoolOp .Or [a] pos) tA:=by
 intro wh pins s σ H Q I h
 refine isTrue_or (thn (ha pins s σ H Q I h) fun c s1 e=>?_)
 cases c with
 | false=>exact isTrue_or_nil e
 | true=>exact e
theorem Ag (ha:PT X a tA)(hb:PW X (.BoolOp .And (b::rest) pos) tB'):PW X (.BoolOp .And (a::b::rest) pos) (BW tA tB'):=by
 intro wh pins s σ H Q I h
 refine isTrue_and (thn (ha pins s σ H _ I h) fun c s1 ⟨H1,I1,q1⟩=>?_)
 cases c with
 | true=>exact hb wh pins s1 σ H1 Q I1 q1
 | false=>exact ⟨H1,I1,q1⟩
theorem D4 (ha:PT X a tA)(hb:PW X (.BoolOp .Or (b::rest) pos) tB'):PW X (.BoolOp .Or (a::b::rest) pos) (tOr tA tB'):=by
 intro wh pins s σ H Q I h
 refine isTrue_or (thn (ha pins s σ H _ I h) fun c s1 ⟨H1,I1,q1⟩=>?_)
 cases c with
 | true=>exact ⟨H1,I1,q1⟩
 | false=>exact hb wh pins s1 σ H1 Q I1 q1
theorem AL (ha:PT X a tA):PT X (.UnaryOp .Not a pos) (Bq tA):=by
 intro pins s σ H Q I h
 exact isTrue_not (ha pins s σ H (fun c H1=>Q (!c) H1) I h)
theorem A8 {op}{t:TE}(h:PE X a t):PE X (.BoolOp op [a] pos) t:=fun pins s σ H Q I hw=>BoolOp_one (h pins s σ H Q I hw)
noncomputable def tIf (t:TT)(ta tb:TE):TE:=fun σ H Q=>t σ H fun c H1=>if c=true then ta σ H1 Q else tb σ H1 Q
theorem oV {c:Expr}(hc:PT X c tA)(ha:PE X a ta)(hb:PE X b tb):PE X (.IfExp c a b pos) (tIf tA ta tb):=by
 intro pins s σ H Q I h
 refine wpAny_IfExp (thn (hc pins s σ H _ I h) fun d s1 ⟨H1,I1,q1⟩=>?_)
 cases d with
 | true=>exact ha pins s1 σ H1 Q I1 q1
 | false=>exact hb pins s1 σ H1 Q I1 q1
end
end L2
namespace L2
open PySem PySem.Spec PyProof.Rows
noncomputable def SqL (K:a0a)(H:Hp)(a:Addr)(xs:List V):Prop :=
 Rd H a (.lst xs) \/
  ∃ (o:Obj) (its:Array Value) (n:Nat),K.lookup a=some o/\o.cls=.type "list"/\o.dict=none/\o.data=.seq its n/\its.size<=sizeLine/\Vals xs its.toList
noncomputable def SqT (K:a0a)(H:Hp)(a:Addr)(xs:List V):Prop :=
 Rd H a (.tup xs) \/
  ∃ (o:Obj) (its:Array Value) (n:Nat),K.lookup a=some o/\o.cls=.type "tuple"/\o.data=.seq its n/\its.size<=sizeLine/\Vals xs its.toList
noncomputable def FZ:Value->Option V
 | .none=>some .non
 | .bool b=>some (.bl b)
 | .int i _=>some (.int i)
 | .str x _=>some (.str x)
 | .bytes b _=>some (.byt b)
 | .float b _=>some (.flt b)
 | .ref a=>some (.ref a)
 | .type n=>some (.ty n)
 | _=>none
theorem RelV.abs {x:V}{u:Value}(r:RelV x u):FZ u=some x:=by
 cases x with
 | non=>cases r; rfl
 | bl _=>cases r; rfl
 | int _=>obtain ⟨t,rfl⟩:=r; rfl
 | str _=>obtain ⟨t,rfl⟩:=r; rfl
 | byt _=>obtain ⟨t,rfl⟩:=r; rfl
 | flt _=>obtain ⟨t,rfl⟩:=r; rfl
 | ref _=>cases r; rfl
 | ty _=>cases r; rfl
theorem RelV.inj {x y:V}{u:Value}(r:RelV x u)(q:RelV y u):x=y:=a0t (r.abs.symm.trans q.abs)
theorem Vals.inj:∀ {xs ys:List V} {us:List Value},Vals xs us->Vals ys us->xs=ys
 | _,_,_,.nil,.nil=>rfl
 | _,_,_,.cons r t,.cons r' t'=>by rw [r.inj r',Vals.inj t t']
section
variable {X:Cx}{pins:List (Addr×Obj)}{σ:St}{H:Hp}{s:Shared}{a:Addr}{xs ys:List V}
theorem SqL.of {K:a0a}(h:H a=some (.lst xs)):SqL K H a xs:=.inl (.inl h)
theorem SqT.of {K:a0a}(h:H a=some (.tup xs)):SqT K H a xs:=.inl (.inl h)
theorem Inv.list (I:Inv X pins σ H s)(h:SqL X.K H a xs):∃ its:List Value,Vals xs its/\PlainL s.heap a its.toArray/\xs.length<=sizeLine:=by
 rcases h with h | ⟨o,its,n,hk,hc,hd,hs,hz,r⟩
 ·obtain ⟨z,its,n,r,e⟩:=h.ok I.hok
  exact ⟨its,r,⟨_,n,e,rfl,rfl,rfl⟩,z⟩
 ·refine ⟨its.toList,r,⟨o,n,I.kIn a o hk,hc,hd,by simpa using hs⟩,?_⟩
  have e:=r.length
  simp only [a0V] at e
  omega
theorem Inv.tuple (I:Inv X pins σ H s)(h:SqT X.K H a xs):∃ its:List Value,Vals xs its/\IsTup s.heap a its.toArray/\xs.length<=sizeLine:=by
 rcases h with h | ⟨o,its,n,hk,hc,hs,hz,r⟩
 ·obtain ⟨z,its,r,p⟩:=h.ok I.hok
  exact ⟨its,r,p,z⟩
 ·refine ⟨its.toList,r,⟨o,I.kIn a o hk,hc,n,by simpa using hs⟩,?_⟩
  have e:=r.length
  simp only [a0V] at e
  omega
theorem Inv.list_inj (I:Inv X pins σ H s)(h:SqL X.K H a xs)(h':SqL X.K H a ys):xs=ys:=by
 obtain ⟨its,r,⟨o,n,e,_,_,d⟩,_⟩:=I.list h
 obtain ⟨its',r',⟨o',n',e',_,_,d'⟩,_⟩:=I.list h'
 rw [e] at e'; cases e'
 rw [d] at d'
 injection d' with d1 _
 have:its=its':=by simpa using congrArg a3F d1
 subst this
 exact r.inj r'
theorem Inv.tuple_inj (I:Inv X pins σ H s)(h:SqT X.K H a xs)(h':SqT X.K H a ys):xs=ys:=by
 obtain ⟨its,r,⟨o,e,_,n,d⟩,_⟩:=I.tuple h
 obtain ⟨its',r',⟨o',e',_,n',d'⟩,_⟩:=I.tuple h'
 rw [e] at e'; cases e'
 rw [d] at d'
 injection d' with d1 _
 have:its=its':=by simpa using congrArg a3F d1
 subst this
 exact r.inj r'
end
noncomputable abbrev Cx.wish (X:Cx)(E:Value->Shared->Prop):Cx:={ X with xe:=E }
noncomputable abbrev Cx.nox (X:Cx):Cx:=X.wish fun _ _=>False
theorem Cx.Ok.wish {X:Cx}(ok:X.Ok)(E:Value->Shared->Prop):(X.wish E).Ok :=
 ⟨ok.mod,ok.kind,ok.glob,ok.blt,ok.above,ok.inj,ok.has,ok.cab,ok.hd,ok.frames,ok.stk,ok.exf,ok.bs,ok.bsz,ok.noex,ok.exfs,ok.funs,ok.frf⟩
theorem Cx.Ok.unwish {X:Cx}{E:Value->Shared->Prop}(ok:(X.wish E).Ok):X.Ok :=
 ⟨ok.mod,ok.kind,ok.glob,ok.blt,ok.above,ok.inj,ok.has,ok.cab,ok.hd,ok.frames,ok.stk,ok.exf,ok.bs,ok.bsz,ok.noex,ok.exfs,ok.funs,ok.frf⟩
section
variable {X:Cx}{pins:List (Addr×Obj)}{σ:St}{H:Hp}{s:Shared}{E:Value->Shared->Prop}
theorem Inv.wish (I:Inv X pins σ H s)(E:Value->Shared->Prop):Inv (X.wish E) pins σ H s:=⟨I.ok.wish E,I.os,I.bare,I.base,I.loc,I.cell,I.free,I.freeC,I.pin,I.hok,I.len⟩
theorem Inv.unwish (I:Inv (X.wish E) pins σ H s):Inv X pins σ H s:=⟨I.ok.unwish,I.os,I.bare,I.base,I.loc,I.cell,I.free,I.freeC,I.pin,I.hok,I.len⟩
theorem SP.unwish {D:bw}{f:Flow}{s':Shared}(h:SP (X.wish E) pins D f s'):SP X pins D f s':=by
 cases f with
 | next=>obtain ⟨σ',H',I,q⟩:=h; exact ⟨σ',H',I.unwish,q⟩
 | brk=>obtain ⟨σ',H',I,q⟩:=h; exact ⟨σ',H',I.unwish,q⟩
 | cont=>obtain ⟨σ',H',I,q⟩:=h; exact ⟨σ',H',I.unwish,q⟩
 | ret u=>obtain ⟨v,σ',H',I,r,q⟩:=h; exact ⟨v,σ',H',I.unwish,r,q⟩
theorem PSs.nox {st:List Stmt}{t:TS}(h:PSs X.nox st t):PSs X st t:=fun pins s σ H D I hw =>
 wpAny_mono (h pins s σ H D (I.wish _) hw) (fun _ _ q=>q.unwish) fun _ _ z=>a1n z
end
section
variable {X:Cx}{st:Stmt}{rest:List Stmt}{t u:TS}{e:Expr}{te:TE}{pos:Pos}
noncomputable def xl:TS:=fun D σ H=>D.nx σ H
noncomputable def CJ (t u:TS):TS:=fun D σ H=>t { D with nx:=u D } σ H
theorem tj:PSs X [] xl:=fun _ _ σ H _ I h=>wpAny_execs_nil ⟨σ,H,I,h⟩
theorem pB (h1:PS X st t)(h2:PSs X rest u):PSs X (st::rest) (CJ t u):=by
 intro pins s σ H D I h
 refine wpAny_execs_cons (thn (h1 pins s σ H { D with nx:=u D } I h) fun f s1 q=>?_)
 cases f with
 | next =>
  obtain ⟨σ',H',I',q⟩:=q
  exact h2 pins s1 σ' H' D I' q
 | ret v=>exact q
 | brk=>exact q
 | cont=>exact q
theorem uH (h1:PS X st t):PSs X [st] t:=by
 intro pins s σ H D I h
 refine wpAny_execs_cons (thn (h1 pins s σ H D I h) fun f s1 q=>?_)
 cases f with
 | next=>exact wpAny_execs_nil q
 | ret v=>exact q
 | brk=>exact q
 | cont=>exact q
theorem Inv.quiet {pins:List (Addr×Obj)}{σ:St}{H:Hp}{s:Shared}(I:Inv X pins σ H s):interactive X.env=false:=by simp [interactive,I.ok.kind]
noncomputable def DA (te:TE):TS:=fun D σ H=>te σ H fun _ H1=>D.nx σ H1
theorem iY (he:PE X e te)(hs:swapsWith e none pos.line X.env=pure false:=by rfl):PS X (.Expr e pos) (DA te):=by
 intro pins s σ H D I h
 exact wpAny_Expr_any (thn (he pins s σ H _ I h) fun v s1 ⟨x,H1,I1,r1,q1⟩=>⟨σ,H1,I1,q1⟩) I.quiet hs
noncomputable def CK (te:TE):TS:=fun D σ H=>te σ H D.rt
theorem x4 (he:PE X e te):PS X (.Return (some e) pos) (CK te):=by
 intro pins s σ H D I h
 exact wpAny_Return_some (thn (he pins s σ H _ I h) fun v s1 ⟨x,H1,I1,r1,q1⟩=>⟨x,σ,H1,I1,r1,q1⟩)
noncomputable def Dj (c:TT)(t u:TS):TS:=fun D σ H=>c σ H fun b H1=>if b=true then t D σ H1 else u D σ H1
theorem BI {c:Expr}{a b:List Stmt}{tc:TT}(hc:PT X c tc)(ha:PSs X a t)(hb:PSs X b u):PS X (.If c a b pos) (Dj tc t u):=by
 intro pins s σ H D I h
 refine wpAny_If (thn (hc pins s σ H _ I h) fun d s1 ⟨H1,I1,q1⟩=>?_)
 cases d with
 | true=>exact ha pins s1 σ H1 D I1 q1
 | false=>exact hb pins s1 σ H1 D I1 q1
end
noncomputable abbrev TG:=V->St->Hp->(St->Hp->Prop)->Prop
noncomputable abbrev TGs:=List V->St->Hp->(St->Hp->Prop)->Prop
noncomputable def PG (X:Cx)(target:Expr)(t:TG):Prop :=
 ∀ (pins:List (Addr×Obj)) (s:Shared) (σ:St) (H:Hp) (v:V) (u:Value) (Q:St->Hp->Prop),Inv X pins σ H s->RelV v u->t v σ H Q ->
  wpAny (model X.prog X.w) X.A (assign target X.env u) (fun _ s'=>∃ σ' H',Inv X pins σ' H' s'/\Q σ' H') X.xe s
noncomputable def PGs (X:Cx)(ts:List Expr)(t:TGs):Prop :=
 ∀ (pins:List (Addr×Obj)) (s:Shared) (σ:St) (H:Hp) (vs:List V) (us:List Value) (Q:St->Hp->Prop),Inv X pins σ H s->Vals vs us->t vs σ H Q ->
  wpAny (model X.prog X.w) X.A (assignInOrder ((assignEach ts X.env).map (·.2)) us) (fun _ s'=>∃ σ' H',Inv X pins σ' H' s'/\Q σ' H') X.xe s
noncomputable abbrev Ah:=V->V->V->Hp->(Hp->Prop)->Prop
noncomputable def CZ (X:Cx)(t:Ah):Prop :=
 ∀ (pins:List (Addr×Obj)) (s:Shared) (σ:St) (H:Hp) (o i v:V) (ov iv u:Value) (Q:Hp->Prop),Inv X pins σ H s->RelV o ov->RelV i iv->RelV v u->t o i v H Q ->
  wpAny (model X.prog X.w) X.A (setItem ov iv u) (fun _ s'=>∃ H',Inv X pins σ H' s'/\Q H') X.xe s
section
variable {X:Cx}{pos:Pos}
noncomputable def cJ (i:Nat):TG:=fun v σ H Q=>Q (σ.set i (some v)) H
theorem c7 {i:Nat}{x:Str}(hN:X.N.Nodup)(hi:X.N[i]?=some x)(hx:Loc X.env.scope x)(hf:X.fn x=true\/X.env.scope.names.lookup x=some .local:=by first | exact .inl rfl | exact .inr rfl | assumption):PG X (.Name x pos) (cJ i):=by
 intro pins s σ H v u Q I r h
 exact wpAny_assign_Name (ju I hN hi hx r (fun s' I'=>⟨_,H,I',h⟩) hf)
noncomputable def Ak:TGs:=fun vs σ H Q=>vs=[]/\Q σ H
noncomputable def je (t:TG)(u:TGs):TGs:=fun vs σ H Q=>∃ v r,vs=v::r/\t v σ H fun σ' H'=>u r σ' H' Q
theorem mE:PGs X [] Ak:=by
 intro pins s σ H vs us Q I r h
 obtain ⟨e,h⟩:=h
 subst e
 cases r
 exact assignInOrder_nil ⟨σ,H,I,h⟩
theorem dP {e:Expr}{es:List Expr}{t:TG}{u:TGs}(h1:PG X e t)(h2:PGs X es u)
  (hs:(assignEach (e::es) X.env).map (·.2)=assign e X.env::(assignEach es X.env).map (·.2):=by rfl):PGs X (e::es) (je t u):=by
 intro pins s σ H vs us Q I r h
 obtain ⟨v,vr,e1,h⟩:=h
 subst e1
 cases r with
 | cons r rr =>
  rw [hs]
  refine assignInOrder_cons (thn (h1 pins s σ H _ _ _ I r h) fun _ s1 ⟨σ1,H1,I1,q1⟩=>?_)
  exact h2 pins s1 σ1 H1 _ _ Q I1 rr q1
noncomputable def yR (K:a0a)(n:Nat)(t:TGs):TG:=fun v σ H Q=>∃ a xs,v=.ref a/\SqT K H a xs/\xs.length=n/\t xs σ H Q
theorem ph {es:List Expr}{k:Nat}{t:TGs}{n:Nat}(hc:X.calm=true)(h:PGs X es t)
  (hn:(assignEach es X.env).length=n:=by rfl) (hst:(assignEach es X.env).findIdx? (·.1)=none:=by rfl):PG X (.Tuple es k pos) (yR X.K n t):=by
 intro pins s σ H v u Q I r hw
 obtain ⟨a,xs,e1,hq,hl,hw⟩:=hw
 subst e1
 cases r
 obtain ⟨its,rv,ht,hz⟩:=I.tuple hq
 refine assign_Tuple_tuple (I.ok.hd hc) ht (by simp [hn,<- hl,rv.length]) hst fun h' hx=>?_
 have I1:Inv X pins σ H { s with heap:=h' }:=I.kept (t':=s.toks) fun b o e=>hx b o (a0D (Heap.lt_size e)) e
 exact h pins _ σ H xs _ Q I1 (by simpa using rv) hw
noncomputable def ET (to ti:TE)(t:Ah):TG:=fun v σ H Q=>to σ H fun o H1=>ti σ H1 fun i H2=>t o i v H2 fun H3=>Q σ H3
theorem yC {o i:Expr}{to ti:TE}{t:Ah}(ho:PE X o to)(hi:PE X i ti)(hs:CZ X t)
  (ha:∀ v,assign (.Subscript o i pos) X.env v=(do
   let ov <- holding [v] (eval o X.env)
   let iv <- holding [v,ov] (eval i X.env)
   standAt pos
   holding [v,ov,iv] (setItem ov iv v)
   release [v,ov,iv] []):=by intro _; rfl):PG X (.Subscript o i pos) (ET to ti t):=by
 intro pins s σ H v u Q I r h
 rw [ha]
 refine wpAny_bind (wpAny_holding (thn (ho pins s σ H _ I h) fun ov s1 ⟨x,H1,I1,r1,q1⟩=>?_))
 refine wpAny_bind (wpAny_holding (thn (hi pins s1 σ H1 _ I1 q1) fun iv s2 ⟨y,H2,I2,r2,q2⟩=>?_))
 refine wpAny_bind (wpAny_standAt (wpAny_bind (wpAny_holding (thn (hs pins s2 σ H2 x y v ov iv u _ I2 r1 r2 r q2) fun _ s3 ⟨H3,I3,q3⟩=>?_))))
 exact wpAny_release ⟨σ,H3,I3,q3⟩
noncomputable def nK (te:TE)(g:TG):TS:=fun D σ H=>te σ H fun x H1=>g x σ H1 D.nx
theorem AV {tg e:Expr}{te:TE}{g:TG}(he:PE X e te)(hg:PG X tg g)(hs:swapsWithSole [tg] e pos.line X.env=pure false:=by rfl)(hw:swappedStores [tg] e X.env=pure none:=by rfl)
  (h1:(assignEach [tg] X.env).map (·.2)=[assign tg X.env]:=by rfl):PS X (.Assign [tg] e pos) (nK te g):=by
 intro pins s σ H D I h
 refine wpAny_Assign_stores (thn (he pins s σ H _ I h) fun v s1 ⟨x,H1,I1,r1,q1⟩=>?_) hs hw
 rw [h1]
 exact thn (hg pins s1 σ H1 x v _ I1 r1 q1) fun _ s2 q=>q
theorem Ad {i:Nat}{x:Str}{e:Expr}{te:TE}{pos':Pos}(hN:X.N.Nodup)(hi:X.N[i]?=some x)(hx:Loc X.env.scope x)(he:PE X e te)(hs:swapsWith e (some (.Name x pos')) pos.line X.env=pure false:=by rfl)(hf:X.fn x=true\/X.env.scope.names.lookup x=some .local:=by first | exact .inl rfl | exact .inr rfl | assumption) :
  PS X (.Assign [.Name x pos'] e pos) (nK te (cJ i)):=by
 intro pins s σ H D I h
 refine wpAny_Assign_Name (thn (he pins s σ H _ I h) fun v s1 ⟨y,H1,I1,r1,q1⟩=>?_) hs
 exact ju I1 hN hi hx r1 (fun s2 I2=>⟨_,H1,I2,q1⟩) hf
end
section
variable {X:Cx}{pos:Pos}
noncomputable def sk (c:TT)(tb:TS):TS:=fun D σ H=>∃ W:Nat->St->Hp->Prop,(∃ m,W m σ H)/\∀ m σ H,W m σ H ->
 c σ H fun b H1=>if b=true then ∃ N:St->Hp->Prop,(∀ σ' H',N σ' H'->∃ m',m' < m/\W m' σ' H')/\tb { D with nx:=N,ct:=N,bk:=D.nx } σ H1 else D.nx σ H1
theorem qZ {c:Expr}{body:List Stmt}{tc:TT}{tb:TS}(hp:PassesOwn (model X.prog X.w) X.A X.env X.xe)(hc:PT X c tc)(hb:PSs X body tb):PS X (.While c body [] pos) (sk tc tb):=by
 intro pins s σ H D I h
 obtain ⟨W,⟨m0,w0⟩,turn⟩:=h
 refine wpAny_While (codeAny_whileLoop (fun n s'=>∃ σ' H',Inv X pins σ' H' s'/\W n σ' H') ?_ m0 ⟨σ,H,I,w0⟩)
 rintro n s1 ⟨σ1,H1,I1,w1⟩
 refine wpAny_passesOwn hp (thn (hc pins s1 σ1 H1 _ I1 (turn n σ1 H1 w1)) fun b s2 ⟨H2,I2,q2⟩=>?_)
 cases b with
 | true =>
  obtain ⟨N,hN,q2⟩:=q2
  rw [if_pos rfl]
  refine wpAny_passesOwn hp (thn (hb pins s2 σ1 H2 _ I2 q2) fun f s3 q3=>?_)
  cases f with
  | next =>
   obtain ⟨σ3,H3,I3,n3⟩:=q3
   obtain ⟨m',hm,w3⟩:=hN σ3 H3 n3
   exact ⟨m',hm,σ3,H3,I3,w3⟩
  | cont =>
   obtain ⟨σ3,H3,I3,n3⟩:=q3
   obtain ⟨m',hm,w3⟩:=hN σ3 H3 n3
   exact ⟨m',hm,σ3,H3,I3,w3⟩
  | brk=>exact q3
  | ret v=>exact q3
 | false =>
  rw [if_neg a0f]
  exact wpAny_execs_nil ⟨σ1,H2,I2,q2⟩
end
structure It where
 go:Nat->Hp->Prop
 yld:Nat->Hp->V->Hp->Prop
 stop:Nat->Hp->Prop
noncomputable def fP (X:Cx)(pins:List (Addr×Obj))(H:Hp)(b:Addr):Prop :=
 H b=none/\b≠X.env.locals/\b ∉ X.fs/\(b∈X.ex\/X.s₀.heap.objs.size<=b)/\(∀ x c,X.env.cells.lookup x=some c->c≠b)/\∀ p∈X.pn++pins,p.1≠b
theorem Inv.fpOk {X:Cx}{pins:List (Addr×Obj)}{σ:St}{H H':Hp}{s:Shared}{b:Addr}(I:Inv X pins σ H s)(hb:s.heap.objs.size<=b)(hn:H' b=none):fP X pins H' b:=by
 refine ⟨hn,a1b (a0p I.lt hb),I.nofs hb,.inr (a0y I.sz hb),fun x c e z=>?_,fun p hp z=>?_⟩
 ·obtain ⟨v,q⟩:=I.cell x c e
  exact absurd (a0p q.lt (by rw [z]; exact hb)) (a04 _)
 ·exact absurd (a0p (Heap.lt_size (I.pin p hp).1) (by rw [z]; exact hb)) (a04 _)
structure kA (P:Program)(w:World)(K:a0a)(tg:Expr)(J:It)(fp:List Addr)(it:Addr)(tn:Nat->Heap->Prop):Prop where
 mem:it∈fp
 obj:∀ i h,tn i h->∀ b∈fp,∃ o,h.get? b=some o/\∀ v,o.data≠.cell v
 keep:∀ i h h',tn i h->(∀ b∈fp,∀ o,h.get? b=some o->h'.get? b=some o)->tn i h'
 item:∀ (X:Cx),X.prog=P->X.w=w->X.K=K->X.calm=true->∀ (i:Nat) (pins:List (Addr×Obj)) (s:Shared) (σ:St) (H:Hp) (E:Value->Shared->Prop),Inv X pins σ H s->(∀ b∈fp,fP X pins H b)->tn i s.heap->J.go i H ->
  wpAny (model P w) X.A (pyNext (.ref it)) (fun r s1=>∃ u,r=some u /\
   wpAny (model P w) X.A (letOwnedTupleGo tg (.ref it) u) (fun _ s2=>∃ x H',Inv X pins σ H' s2/\RelV x u/\J.yld i H x H'/\tn (i+1) s2.heap/\∀ b∈fp,H' b=none) E s1) E s
 done:∀ (X:Cx),X.prog=P->X.w=w->X.K=K->X.calm=true->∀ (i:Nat) (pins:List (Addr×Obj)) (s:Shared) (σ:St) (H:Hp) (E:Value->Shared->Prop),Inv X pins σ H s->(∀ b∈fp,fP X pins H b)->tn i s.heap->J.stop i H ->
  wpAny (model P w) X.A (pyNext (.ref it)) (fun r s1=>r=none/\Inv X pins σ H s1) E s
 self:∀ (A:Around) (i:Nat) (s:Shared) (Q:Value->Shared->Prop) (E:Value->Shared->Prop),tn i s.heap->Q (.ref it) s->wpAny (model P w) A (pyIter (.ref it)) Q E s
noncomputable abbrev TI:=St->Hp->(It->Hp->Prop)->Prop
noncomputable def PIE (X:Cx)(pins:List (Addr×Obj))(σ:St)(tg:Expr)(R:It->Hp->Prop)(itv:Value)(s2:Shared):Prop :=
 ∃ (it:Addr) (fp:List Addr) (tn:Nat->Heap->Prop) (J:It) (H':Hp),itv=.ref it/\Inv X pins σ H' s2/\kA X.prog X.w X.K tg J fp it tn/\tn 0 s2.heap/\(∀ b∈fp,fP X pins H' b)/\R J H'
noncomputable def PI (X:Cx)(tg iter:Expr)(wi:TI):Prop :=
 ∀ (pins:List (Addr×Obj)) (s:Shared) (σ:St) (H:Hp) (R:It->Hp->Prop),Inv X pins σ H s->wi σ H R ->
  wpAny (model X.prog X.w) X.A (eval iter X.env) (fun v s1=>wpAny (model X.prog X.w) X.A (pyIter v) (PIE X pins σ tg R) X.xe s1) X.xe s
theorem lB {M:Model}{A:Around}{E:Value->Shared->Prop}{s:Shared}{tg:Expr}{it:Addr}{u:Value}{o:Obj}{n:String}{vs:Array Value}{Q:Unit->Shared->Prop}(ho:s.heap.get? it=some o)(hc:o.cls=.type n)(hd:o.data=.fields vs)
  (hn:["enumerate","zip","dict_itemiterator","dict_reverseitemiterator","odict_iterator","itertools.zip_longest","itertools.pairwise"].contains n=false) (hQ:Q () s):wpAny M A (letOwnedTupleGo tg (.ref it) u) Q E s:=by
 unfold letOwnedTupleGo
 cases tg<;>first
  | exact wpAny_pure hQ
  | (cases u<;>first
    | exact wpAny_pure hQ
    | (refine wpAny_bind (wpAny_load ho ?_)
       rw [hc,hd]
       show wpAny M A (if (["enumerate","zip","dict_itemiterator","dict_reverseitemiterator","odict_iterator","itertools.zip_longest","itertools.pairwise"].contains n&&vs[0]?==some (rawInt _))=true then _ else _) Q E s
       rw [if_neg (by intro h; rw [hn,a1I] at h; cases h)]
       exact wpAny_pure hQ))
noncomputable def Itl (K:a0a)(a:Addr):It :=
 ⟨fun i H=>∃ xs x,SqL K H a xs/\xs[i]?=some x,fun i H x H'=>H'=H/\∀ xs,SqL K H a xs->xs[i]?=some x,fun i H=>∃ xs,SqL K H a xs/\xs.length<=i⟩
noncomputable def Itt (K:a0a)(a:Addr):It :=
 ⟨fun i H=>∃ xs x,SqT K H a xs/\xs[i]?=some x,fun i H x H'=>H'=H/\∀ xs,SqT K H a xs->xs[i]?=some x,fun i H=>∃ xs,SqT K H a xs/\xs.length<=i⟩
noncomputable def Itr (lo:Int)(n:Nat):It:=⟨fun i _=>i < n,fun i H x H'=>H'=H/\x=.int (lo+i),fun i _=>n<=i⟩
theorem mN {P:Program}{w:World}{K:a0a}{tg:Expr}(a it:Addr):kA P w K tg (Itl K a) [it] it (fun i h=>h.IsListIter it a i) where
 mem:=by simp
 obj:=fun i h st b hb=>by
  have e:b=it:=by simpa using hb
  subst e
  obtain ⟨o,e,c,d⟩:=st
  exact ⟨o,e,fun v z=>by rw [d] at z; cases z⟩
 keep:=fun i h h' st k=>st.at fun o e=>k it (by simp) o e
 item:=by
  intro X hP hw hK hc i pins s σ H E I hf st hg
  subst hP hw hK
  obtain ⟨xs,x,hq,hx⟩:=hg
  obtain ⟨its,rv,p,hz⟩:=I.list hq
  obtain ⟨u,hu,ru⟩:=rv.get hx
  obtain ⟨f0,f1,f2,f3,f4,f5⟩:=hf it (by simp)
  refine wpAny_pyNext_list_item st p.isList (x:=u) (by simpa using hu) fun h' st' sb=>?_
  have I1:Inv X pins σ H { s with heap:=h' }:=I.turned (t':=s.toks) (fun b o hb e=>(sb.2 b hb).trans e) f0 f1 f3 f4 f5
  obtain ⟨o,e,c,d⟩:=id st'
  exact ⟨u,rfl,lB (s:={ s with heap:=h' }) e c d (by decide) ⟨x,H,I1,ru,⟨rfl,fun ys hy=>by rw [I.list_inj hy hq]; exact hx⟩,st',fun b hb=>(hf b hb).1⟩⟩
 done:=by
  intro X hP hw hK hc i pins s σ H E I hf st hg
  subst hP hw hK
  obtain ⟨xs,hq,hx⟩:=hg
  obtain ⟨its,rv,p,hz⟩:=I.list hq
  obtain ⟨f0,f1,f2,f3,f4,f5⟩:=hf it (by simp)
  have hl:=rv.length
  exact wpAny_pyNext_list_end (I.ok.hd hc) st p.isList (by simp; omega) fun h' eb=>⟨rfl,I.turned (t':=s.toks) (fun b o hb e=>eb b o hb e) f0 f1 f3 f4 f5⟩
 self:=fun _ _ _ _ _ st h=>wpAny_pyIter_listiter st h
theorem kE {P:Program}{w:World}{K:a0a}{tg:Expr}(a it:Addr):kA P w K tg (Itt K a) [it] it (fun i h=>h.IsTupleIter it a i) where
 mem:=by simp
 obj:=fun i h st b hb=>by
  have e:b=it:=by simpa using hb
  subst e
  obtain ⟨o,e,c,d⟩:=st
  exact ⟨o,e,fun v z=>by rw [d] at z; cases z⟩
 keep:=fun i h h' st k=>st.at fun o e=>k it (by simp) o e
 item:=by
  intro X hP hw hK hc i pins s σ H E I hf st hg
  subst hP hw hK
  obtain ⟨xs,x,hq,hx⟩:=hg
  obtain ⟨its,rv,p,hz⟩:=I.tuple hq
  obtain ⟨u,hu,ru⟩:=rv.get hx
  obtain ⟨f0,f1,f2,f3,f4,f5⟩:=hf it (by simp)
  refine wpAny_pyNext_tuple_item st (show s.heap.IsTuple a its.toArray from p) (x:=u) (by simpa using hu) fun h' st' sb=>?_
  have I1:Inv X pins σ H { s with heap:=h' }:=I.turned (t':=s.toks) (fun b o hb e=>(sb.2 b hb).trans e) f0 f1 f3 f4 f5
  obtain ⟨o,e,c,d⟩:=id st'
  exact ⟨u,rfl,lB (s:={ s with heap:=h' }) e c d (by decide) ⟨x,H,I1,ru,⟨rfl,fun ys hy=>by rw [I.tuple_inj hy hq]; exact hx⟩,st',fun b hb=>(hf b hb).1⟩⟩
 done:=by
  intro X hP hw hK hc i pins s σ H E I hf st hg
  subst hP hw hK
  obtain ⟨xs,hq,hx⟩:=hg
  obtain ⟨its,rv,p,hz⟩:=I.tuple hq
  obtain ⟨f0,f1,f2,f3,f4,f5⟩:=hf it (by simp)
  have hl:=rv.length
  exact wpAny_pyNext_tuple_end (I.ok.hd hc) st (show s.heap.IsTuple a its.toArray from p) (by simp; omega) fun h' eb=>⟨rfl,I.turned (t':=s.toks) (fun b o hb e=>eb b o hb e) f0 f1 f3 f4 f5⟩
 self:=fun _ _ _ _ _ st h=>wpAny_pyIter_tupleiter st h
theorem ky {P:Program}{w:World}{K:a0a}{tg:Expr}(it:Addr)(lo:Int)(n:Nat):kA P w K tg (Itr lo n) [it] it (fun i h=>IsRangeIter h it (lo+(i:Nat) * 1) ((n:Int)-(i:Nat)) 1) where
 mem:=by simp
 obj:=fun i h st b hb=>by
  have e:b=it:=by simpa using hb
  subst e
  exact ⟨_,st,fun v z=>by
   have z':Data.fields _=Data.cell v:=z
   cases z'⟩
 keep:=fun i h h' st k=>k it (by simp) _ st
 item:=by
  intro X hP hw hK hc i pins s σ H E I hf st hg
  subst hP hw hK
  obtain ⟨f0,f1,f2,f3,f4,f5⟩:=hf it (by simp)
  have W:=Walks.range (prog:=X.prog) (w:=X.w) (I.ok.hd hc) it lo 1 n
  refine W.item i s _ _ hg st fun v h' tk hv st' kk=>?_
  obtain ⟨t,rfl⟩:=hv
  have I1:Inv X pins σ H { s with heap:=h',toks:=tk }:=I.turned (fun b o hb e=>kk b o (by simpa using hb) e) f0 f1 f3 f4 f5
  refine ⟨_,rfl,lB (s:={ s with heap:=h',toks:=tk }) (n:="range_iterator") st' rfl rfl (by decide) ⟨.int (lo+i),H,I1,⟨t,?_⟩,⟨rfl,rfl⟩,st',fun b hb=>(hf b hb).1⟩⟩
  rw [Int.mul_one]
 done:=by
  intro X hP hw hK hc i pins s σ H E I hf st hg
  subst hP hw hK
  obtain ⟨f0,f1,f2,f3,f4,f5⟩:=hf it (by simp)
  exact wpAny_pyNext_range_end (I.ok.hd hc) st (by have:n<=i:=hg; omega) fun h' eb=>⟨rfl,I.turned (t':=s.toks) (fun b o hb e=>eb b o hb e) f0 f1 f3 f4 f5⟩
 self:=fun _ _ _ _ _ st h=>wpAny_pyIter_rangeiter st h
end L2
namespace L2
open PySem PySem.Spec PyProof.Rows
section
variable {X:Cx}{tg:Expr}
noncomputable def mz (K:a0a)(tl:TE):TI:=fun σ H R=>tl σ H fun x H1=>∃ a,x=.ref a/\(∃ xs,SqL K H1 a xs)/\R (Itl K a) H1
noncomputable def Dy (K:a0a)(tl:TE):TI:=fun σ H R=>tl σ H fun x H1=>∃ a,x=.ref a/\(∃ xs,SqT K H1 a xs)/\R (Itt K a) H1
theorem l5 {l:Expr}{tl:TE}(hl:PE X l tl):PI X tg l (mz X.K tl):=by
 intro pins s σ H R I h
 refine thn (hl pins s σ H _ I h) fun v s1 ⟨x,H1,I1,r1,q1⟩=>?_
 obtain ⟨a,e,⟨xs,hq⟩,q⟩:=q1
 subst e
 cases r1
 obtain ⟨its,rv,p,hz⟩:=I1.list hq
 refine wpAny_pyIter_list p.isList ?_
 refine ⟨s1.heap.objs.size,[s1.heap.objs.size],_,_,H1,rfl,I1.kept (t':=s1.toks) fun b o e=>Heap.get?_push_of_some _ e,mN a _,⟨_,Heap.get?_push_size _ rfl,rfl,rfl⟩,fun b hb=>?_,q⟩
 have e:b=s1.heap.objs.size:=by simpa using hb
 subst e
 exact I1.fpOk (a0m _) (I1.hok.fresh (a0m _))
theorem Ae {l:Expr}{tl:TE}(hl:PE X l tl):PI X tg l (Dy X.K tl):=by
 intro pins s σ H R I h
 refine thn (hl pins s σ H _ I h) fun v s1 ⟨x,H1,I1,r1,q1⟩=>?_
 obtain ⟨a,e,⟨xs,hq⟩,q⟩:=q1
 subst e
 cases r1
 obtain ⟨its,rv,p,hz⟩:=I1.tuple hq
 refine wpAny_pyIter_tuple (show s1.heap.IsTuple a its.toArray from p) ?_
 refine ⟨s1.heap.objs.size,[s1.heap.objs.size],_,_,H1,rfl,I1.kept (t':=s1.toks) fun b o e=>Heap.get?_push_of_some _ e,kE a _,⟨_,Heap.get?_push_size _ rfl,rfl,rfl⟩,fun b hb=>?_,q⟩
 have e:b=s1.heap.objs.size:=by simpa using hb
 subst e
 exact I1.fpOk (a0m _) (I1.hok.fresh (a0m _))
theorem oB {pins:List (Addr×Obj)}{σ:St}{H:Hp}{s:Shared}{R:It->Hp->Prop}{E:Value->Shared->Prop}{lo hi:Int}{t u v:Tok}{tk:Nat}(I:Inv X pins σ H s)(h1:-(2 ^ 62)<=lo)(h2:lo < 2 ^ 62)(h3:-(2 ^ 62)<=hi)(h4:hi < 2 ^ 62)
  (q:R (Itr lo (hi-lo).toNat) H):wpAny (model X.prog X.w) X.A (pyIter (.ref s.heap.objs.size)) (PIE X pins σ tg R) E { s with heap:=s.heap.push { cls:=.type "range",data:=.fields #[.int lo t,.int hi u,.int 1 v] },toks:=tk }:=by
 refine wpAny_pyIter_range (IsRange.new ..) (small_one h1 h2 h3 h4) ?_
 have I1:Inv X pins σ H { s with heap:=s.heap.push { cls:=.type "range",data:=.fields #[.int lo t,.int hi u,.int 1 v] },toks:=tk }:=I.kept fun b o e=>Heap.get?_push_of_some _ e
 refine ⟨(s.heap.push { cls:=.type "range",data:=.fields #[.int lo t,.int hi u,.int 1 v] }).objs.size,[(s.heap.push { cls:=.type "range",data:=.fields #[.int lo t,.int hi u,.int 1 v] }).objs.size],_,_,H,rfl,
  I1.kept (t':=tk) fun b o e=>Heap.get?_push_of_some _ e,ky _ lo (hi-lo).toNat,?_,fun b hb=>?_,q⟩
 ·have e1:lo+((0:Nat):Int) * 1=lo:=by simp
  have e2:(((hi-lo).toNat:Nat):Int)-((0:Nat):Int)=Builtin.Range.rangeSize lo hi 1:=by rw [rangeSize_one]; split<;>omega
  show IsRangeIter _ _ (lo+((0:Nat):Int) * 1) ((((hi-lo).toNat:Nat):Int)-((0:Nat):Int)) 1
  rw [e1,e2]
  exact Heap.get?_push_size _ rfl
 ·have e:b=(s.heap.push { cls:=.type "range",data:=.fields #[.int lo t,.int hi u,.int 1 v] }).objs.size:=by simpa using hb
  subst e
  exact I1.fpOk (a0m _) (I1.hok.fresh (a0m _))
noncomputable def xw (ta:TA):TI:=fun σ H R=>ta σ H fun vs H1=>∃ j:Int,vs=[.int j]/\-(2 ^ 62)<=j/\j < 2 ^ 62/\R (Itr 0 j.toNat) H1
theorem n6 {a:Expr}{ta:TA}{p pos:Pos}(hg:Gl X "range")(hm:X.mg "range"=none)(ha:PA X [a] ta)(hs:starEach [a] X.env=[(false,eval a X.env)]:=by rfl):PI X tg (.Call (.Name "range" p) [a] [] pos) (xw ta):=by
 intro pins s σ H R I h
 refine Call_ (cX I hg hm boot_range (a0X (thn (ha pos pins s σ H _ I h) fun us s1 ⟨vs,H1,I1,r1,q1⟩=>?_) hs rfl))
 obtain ⟨j,e,q1,q2,q⟩:=q1
 subst e
 cases r1 with
 | cons r rr =>
  cases rr
  obtain ⟨t,rfl⟩:=r
  exact call_range_1 (oB I1 (by omega) (by omega) q1 q2 (by simpa using q))
noncomputable def Cr (wi:TI)(g:TG)(tb:TS):TS:=fun D σ H=>wi σ H fun J H1=>∃ W:Nat->Nat->St->Hp->Prop,(∃ m,W 0 m σ H1)/\∀ i m σ H,W i m σ H ->
 (J.stop i H/\D.nx σ H)\/(J.go i H/\∃ N:St->Hp->Prop,(∀ σ' H',N σ' H'->∃ m',m' < m/\W (i+1) m' σ' H')/\∀ x H',J.yld i H x H'->g x σ H' fun σ2 H2=>tb { D with nx:=N,ct:=N,bk:=D.nx } σ2 H2)
noncomputable def fO (fp:List Addr)(h:Heap):List (Addr×Obj):=fp.filterMap fun b=>(h.get? b).map fun o=>(b,o)
theorem bx {fp:List Addr}{h:Heap}{b:Addr}{o:Obj}(hb:b∈fp)(e:h.get? b=some o):(b,o)∈fO fp h:=a2O.mpr ⟨b,hb,by rw [e]; rfl⟩
theorem oh {fp:List Addr}{h:Heap}{p:Addr×Obj}(hp:p∈fO fp h):p.1∈fp/\h.get? p.1=some p.2:=by
 obtain ⟨b,hb,e⟩:=a2O.mp hp
 cases q:h.get? b with
 | none=>rw [q] at e; cases e
 | some o =>
  rw [q] at e
  have e':(b,o)=p:=a0t e
  subst e'
  exact ⟨hb,q⟩
theorem Inv.pinned {pins:List (Addr×Obj)}{σ:St}{H:Hp}{s:Shared}{fp:List Addr}(I:Inv X pins σ H s)(hf:∀ b∈fp,fP X pins H b)(ho:∀ b∈fp,∃ o,s.heap.get? b=some o/\∀ v,o.data≠.cell v):Inv X (pins++fO fp s.heap) σ H s :=
 I.pins_of fun p hp=>(a0O.mp hp).elim (fun z=>I.pin p (a0o _ z)) fun z=>by
  obtain ⟨hb,e⟩:=oh z
  obtain ⟨f0,f1,f2,_⟩:=hf p.1 hb
  obtain ⟨o,e',d⟩:=ho p.1 hb
  rw [e] at e'; cases e'
  exact ⟨e,f0,f1,f2,d⟩
theorem Inv.unpinned {pins pl:List (Addr×Obj)}{σ:St}{H:Hp}{s:Shared}(I:Inv X (pins++pl) σ H s):Inv X pins σ H s:=I.pins_of fun p hp=>I.pin p (a0o _ (a0I _ hp))
theorem sD {iter:Expr}{body:List Stmt}{wi:TI}{g:TG}{tb:TS}{pos:Pos}(hp:PassesOwn (model X.prog X.w) X.A X.env X.xe)(hc:X.calm=true)(hi:PI X tg iter wi)(hg:PG X tg g)(hb:PSs X body tb)
  (hs:∀ x,foldedSetIterable iter X.env x=pure x:=by intro _; rfl):PS X (.For tg iter body [] pos) (Cr wi g tb):=by
 intro pins s σ H D I h
 refine wpAny_For (thn (hi pins s σ H _ I h) fun v s1 h1=>thn h1 fun itv s2 h2=>?_) hs
 obtain ⟨it,fp,tn,J,H2,e,I2,T,st2,f2,W,⟨m0,w0⟩,turn⟩:=h2
 subst e
 -- what stays true of the iterator's objects through the loop
 have stat:∀ {H':Hp},(∀ b∈fp,H' b=none)->∀ b∈fp,fP X pins H' b:=fun hn b hb=>⟨hn b hb,(f2 b hb).2⟩
 refine codeAny_forLoop_any (fun n s'=>∃ i σ' H',Inv X pins σ' H' s'/\tn i s'.heap/\(∀ b∈fp,H' b=none)/\W i n σ' H') ?_ m0 ⟨0,σ,H2,I2,st2,fun b hb=>(f2 b hb).1,w0⟩
 rintro n s3 ⟨i,σ3,H3,I3,st3,fr3,w3⟩
 rcases turn i n σ3 H3 w3 with ⟨stop,qn⟩ | ⟨go,N,hN,step⟩
 ·refine wpAny_passesOwn hp (thn (T.done X rfl rfl rfl hc i pins s3 σ3 H3 X.xe I3 (stat fr3) st3 stop) fun r s4 ⟨hr,I4⟩=>?_)
  subst hr
  exact wpAny_execs_nil ⟨σ3,H3,I4,qn⟩
 ·refine wpAny_passesOwn hp (thn (T.item X rfl rfl rfl hc i pins s3 σ3 H3 X.xe I3 (stat fr3) st3 go) fun r s4 ⟨u,hr,h4⟩=>?_)
  subst hr
  refine wpAny_passesOwn hp (thn h4 fun _ s5 ⟨x,H5,I5,r5,y5,st5,fr5⟩=>?_)
  have I5':=I5.pinned (stat fr5) (T.obj _ _ st5)
  refine wpAny_passesOwn hp (thn (hg _ s5 σ3 H5 x u _ I5' r5 (step x H5 y5)) fun _ s6 ⟨σ6,H6,I6,q6⟩=>?_)
  refine wpAny_passesOwn hp (thn (hb _ s6 σ6 H6 _ I6 q6) fun f s7 q7=>?_)
  have again:∀ {σ7:St} {H7:Hp},Inv X (pins++fO fp s5.heap) σ7 H7 s7->N σ7 H7->∃ m,m < n/\∃ i σ' H',Inv X pins σ' H' s7/\tn i s7.heap/\(∀ b∈fp,H' b=none)/\W i m σ' H':=fun {σ7 H7} I7 n7=>by
   obtain ⟨m',hm,w7⟩:=hN σ7 H7 n7
   refine ⟨m',hm,i+1,σ7,H7,I7.unpinned,T.keep _ _ _ st5 fun b hb o e=>(I7.pin (b,o) (a0o _ (a0o _ (bx hb e)))).1,fun b hb=>?_,w7⟩
   obtain ⟨o,e,d⟩:=T.obj _ _ st5 b hb
   exact (I7.pin (b,o) (a0o _ (a0o _ (bx hb e)))).2.1
  cases f with
  | next=>obtain ⟨σ7,H7,I7,n7⟩:=q7; exact again I7 n7
  | cont=>obtain ⟨σ7,H7,I7,n7⟩:=q7; exact again I7 n7
  | brk=>obtain ⟨σ7,H7,I7,q7⟩:=q7; exact ⟨σ7,H7,I7.unpinned,q7⟩
  | ret v=>obtain ⟨x7,σ7,H7,I7,r7,q7⟩:=q7; exact ⟨x7,σ7,H7,I7.unpinned,r7,q7⟩
end
end L2
namespace L2
open PySem PySem.Spec PyProof.Rows
noncomputable abbrev R2:=V->V->Hp->VK->Prop
noncomputable def OpR (X:Cx)(f:Value->Value->Sem Value)(r:R2):Prop :=
 ∀ (pins:List (Addr×Obj)) (s:Shared) (σ:St) (H:Hp) (x y:V) (v u:Value) (Q:VK),Inv X pins σ H s->RelV x v->RelV y u->r x y H Q ->
  wpAny (model X.prog X.w) X.A (f v u) (EP X pins σ Q) X.xe s
noncomputable def UnR (X:Cx)(f:Value->Sem Value)(r:V->Hp->VK->Prop):Prop :=
 ∀ (pins:List (Addr×Obj)) (s:Shared) (σ:St) (H:Hp) (x:V) (v:Value) (Q:VK),Inv X pins σ H s->RelV x v->r x H Q ->
  wpAny (model X.prog X.w) X.A (f v) (EP X pins σ Q) X.xe s
noncomputable def bI (X:Cx)(f:Value)(r:List V->Hp->VK->Prop):Prop :=
 ∀ (pins:List (Addr×Obj)) (s:Shared) (σ:St) (H:Hp) (xs:List V) (us:List Value) (Q:VK),Inv X pins σ H s->Vals xs us->r xs H Q ->
  wpAny (model X.prog X.w) X.A (call f us) (EP X pins σ Q) X.xe s
noncomputable def FJ (X:Cx)(r:V->Hp->(Bool->Hp->Prop)->Prop):Prop :=
 ∀ (pins:List (Addr×Obj)) (s:Shared) (σ:St) (H:Hp) (x:V) (v:Value) (Q:Bool->Hp->Prop),Inv X pins σ H s->RelV x v->r x H Q ->
  wpAny (model X.prog X.w) X.A (truthy v) (TP X pins σ Q) X.xe s
noncomputable def tOp (r:R2)(ta tb:TE):TE:=fun σ H Q=>ta σ H fun x H1=>tb σ H1 fun y H2=>r x y H2 Q
noncomputable def tUn (r:V->Hp->VK->Prop)(ta:TE):TE:=fun σ H Q=>ta σ H fun x H1=>r x H1 Q
noncomputable def rI (C:Int->Int->Prop)(g:Int->Int->V):R2:=fun x y H Q=>∃ i j,x=.int i/\y=.int j/\C i j/\Q (g i j) H
noncomputable def rI0 (g:Int->Int->V):R2:=fun x y H Q=>∃ i j,x=.int i/\y=.int j/\Q (g i j) H
noncomputable def rU (g:Int->V):V->Hp->VK->Prop:=fun x H Q=>∃ i,x=.int i/\Q (g i) H
section
variable {X:Cx}{a b c:Expr}{ta tb tc:TE}{pos:Pos}
theorem yY (ha:PE X a ta)(hb:PE X b tb){pins:List (Addr×Obj)}{s:Shared}{σ:St}{H:Hp}{R:V->V->Hp->Prop}(I:Inv X pins σ H s)
  (h:ta σ H fun x H1=>tb σ H1 fun y H2=>R x y H2) {Q:Value->Shared->Prop} {f:Value->Value->Sem Value}
  (hf:∀ v u s2 x y H2,Inv X pins σ H2 s2->RelV x v->RelV y u->R x y H2->wpAny (model X.prog X.w) X.A (f v u) Q X.xe s2) :
  wpAny (model X.prog X.w) X.A (eval a X.env) (fun v s₁=>wpAny (model X.prog X.w) X.A (eval b X.env) (fun u s₂=>wpAny (model X.prog X.w) X.A (f v u) Q X.xe s₂) X.xe s₁) X.xe s:=by
 refine thn (ha pins s σ H _ I h) fun v s1 ⟨x,H1,I1,r1,q1⟩=>?_
 refine thn (hb pins s1 σ H1 _ I1 q1) fun u s2 ⟨y,H2,I2,r2,q2⟩=>?_
 exact hf v u s2 x y H2 I2 r1 r2 q2
theorem eO {op:Operator}{r:R2}(ho:OpR X (binaryOp op) r)(ha:PE X a ta)(hb:PE X b tb):PE X (.BinOp a op b pos) (tOp r ta tb):=by
 intro pins s σ H Q I h
 exact wpAny_BinOp (yY ha hb I h fun v u s2 x y H2 I2 rx ry q=>ho pins s2 σ H2 x y v u Q I2 rx ry q)
theorem El {op:UnaryOp}{r:V->Hp->VK->Prop}(ho:UnR X (unaryOp op) r)(ha:PE X a ta):PE X (.UnaryOp op a pos) (tUn r ta):=by
 intro pins s σ H Q I h
 exact UnaryOp_ (thn (ha pins s σ H _ I h) fun v s1 ⟨x,H1,I1,r1,q1⟩=>ho pins s1 σ H1 x v Q I1 r1 q1)
theorem opI {f:Value->Value->Sem Value}{C:Int->Int->Prop}{g:Int->Int->Int}
  (rule:∀ (i j:Int) (t u:Tok) (s:Shared) (Q:Value->Shared->Prop) (E:Value->Shared->Prop),C i j->Q (.int (g i j) s.toks) { s with toks:=s.toks+1 }->wpAny (model X.prog X.w) X.A (f (.int i t) (.int j u)) Q E s) :
  OpR X f (rI C fun i j=>.int (g i j)):=by
 intro pins s σ H x y v u Q I rx ry h
 obtain ⟨i,j,rfl,rfl,hc,q⟩:=h
 obtain ⟨t,rfl⟩:=rx
 obtain ⟨t',rfl⟩:=ry
 exact rule i j t t' s _ _ hc ⟨.int (g i j),H,I.tok _,⟨_,rfl⟩,q⟩
theorem DP {f:Value->Value->Sem Value}{g:Int->Int->Int}
  (rule:∀ (i j:Int) (t u:Tok) (s:Shared) (Q:Value->Shared->Prop) (E:Value->Shared->Prop),Q (.int (g i j) s.toks) { s with toks:=s.toks+1 }->wpAny (model X.prog X.w) X.A (f (.int i t) (.int j u)) Q E s) :
  OpR X f (rI0 fun i j=>.int (g i j)):=by
 intro pins s σ H x y v u Q I rx ry h
 obtain ⟨i,j,rfl,rfl,q⟩:=h
 obtain ⟨t,rfl⟩:=rx
 obtain ⟨t',rfl⟩:=ry
 exact rule i j t t' s _ _ ⟨.int (g i j),H,I.tok _,⟨_,rfl⟩,q⟩
theorem tS {f:Value->Value->Sem Value}{g:Int->Int->Bool}
  (rule:∀ (i j:Int) (t u:Tok) (s:Shared) (Q:Value->Shared->Prop) (E:Value->Shared->Prop),Q (.bool (g i j)) s->wpAny (model X.prog X.w) X.A (f (.int i t) (.int j u)) Q E s) :
  OpR X f (rI0 fun i j=>.bl (g i j)):=by
 intro pins s σ H x y v u Q I rx ry h
 obtain ⟨i,j,rfl,rfl,q⟩:=h
 obtain ⟨t,rfl⟩:=rx
 obtain ⟨t',rfl⟩:=ry
 exact rule i j t t' s _ _ ⟨.bl (g i j),H,I,rfl,q⟩
noncomputable def yN (i j:Int):Prop:=0 < j/\j < 1073741824
noncomputable def zi (i j:Int):Prop:=0<=j/\j<=1000000/\i.natAbs < 2 ^ 64
noncomputable def CMul (i j:Int):Prop:=(-(2 ^ 64) < i/\i < 2 ^ 64)\/(-(2 ^ 64) < j/\j < 2 ^ 64)
theorem CMul.ok {i j:Int}(h:CMul i j):IntMulOk i j:=by
 rcases h with ⟨h1,h2⟩ | ⟨h1,h2⟩
 ·exact .of_left (intBits_le_64 h1 h2)
 ·exact .of_right (intBits_le_64 h1 h2)
theorem op_add:OpR X (binaryOp .Add) (rI0 fun i j=>.int (i+j)):=DP fun _ _ _ _ _ _ _ q=>add_int q
theorem zZ:OpR X (binaryOp .Sub) (rI0 fun i j=>.int (i-j)):=DP fun _ _ _ _ _ _ _ q=>sub_int q
theorem op_mul:OpR X (binaryOp .Mult) (rI CMul fun i j=>.int (i * j)):=opI fun _ _ _ _ _ _ _ hc q=>mul_int q hc.ok
theorem wo:OpR X (binaryOp .FloorDiv) (rI yN fun i j=>.int (i / j)):=opI fun i j _ _ _ _ _ hc q=>by
 have h1:(0:Int) < j:=hc.1
 have h2:j < 1073741824:=hc.2
 exact floordiv_int (by omega) (by rw [Int.fdiv_eq_ediv_of_nonneg i (by omega)]; exact q) (.inl (a2t (by omega)))
theorem ym:OpR X (binaryOp .Mod) (rI (fun _ j=>0 < j) fun i j=>.int (i % j)):=opI fun i j _ _ _ _ _ hc q=>by
 have h1:(0:Int) < j:=hc
 exact mod_int' (by omega) (by rw [a1r i (by omega)]; exact q)
theorem tQ:OpR X (binaryOp .Mod) (rI (fun _ j=>j≠0) fun i j=>.int (i.fmod j)):=opI fun _ _ _ _ _ _ _ hc q=>mod_int' hc q
theorem zq:OpR X (binaryOp .Pow) (rI zi fun i j=>.int (i ^ j.toNat)):=opI fun _ _ _ _ _ _ _ hc q=>pow_int_small hc.1 hc.2.1 hc.2.2 q
theorem unI {f:Value->Sem Value}{g:Int->Int}
  (rule:∀ (i:Int) (t:Tok) (s:Shared) (Q:Value->Shared->Prop) (E:Value->Shared->Prop),Q (.int (g i) s.toks) { s with toks:=s.toks+1 }->wpAny (model X.prog X.w) X.A (f (.int i t)) Q E s) :
  UnR X f (rU fun i=>.int (g i)):=by
 intro pins s σ H x v Q I rx h
 obtain ⟨i,rfl,q⟩:=h
 obtain ⟨t,rfl⟩:=rx
 exact rule i t s _ _ ⟨.int (g i),H,I.tok _,⟨_,rfl⟩,q⟩
theorem Aw:UnR X (unaryOp .USub) (rU fun i=>.int (-i)):=unI fun _ _ _ _ _ q=>neg_int q
end
section
variable {X:Cx}{a b c:Expr}{ta tb tc:TE}{pos:Pos}
theorem rE:OpR X (compareOp .Lt) (rI0 fun i j=>.bl (decide (i < j))):=tS fun _ _ _ _ _ _ _ q=>lt_int q
theorem xm:OpR X (compareOp .LtE) (rI0 fun i j=>.bl (decide (i<=j))):=tS fun _ _ _ _ _ _ _ q=>le_int q
theorem xI:OpR X (compareOp .Gt) (rI0 fun i j=>.bl (decide (j < i))):=tS fun _ _ _ _ _ _ _ q=>gt_int q
theorem D9:OpR X (compareOp .GtE) (rI0 fun i j=>.bl (decide (j<=i))):=tS fun _ _ _ _ _ _ _ q=>ge_int q
theorem OpR.or {f:Value->Value->Sem Value}{r r':R2}(h:OpR X f r)(h':OpR X f r'):OpR X f (fun x y H Q=>r x y H Q\/r' x y H Q):=by
 intro pins s σ H x y v u Q I rx ry q
 rcases q with q | q
 ·exact h pins s σ H x y v u Q I rx ry q
 ·exact h' pins s σ H x y v u Q I rx ry q
theorem dz (b:Expr){op:CmpOp}(h:op≠.In:=by decide)(h2:op≠.NotIn:=by decide):behindInMarks op b=false:=by
 have e1:(op==CmpOp.In)=false:=by cases op<;>first | rfl | exact absurd rfl h
 have e2:(op==CmpOp.NotIn)=false:=by cases op<;>first | rfl | exact absurd rfl h2
 cases b<;>simp [behindInMarks,e1,e2]
theorem i6 {op:CmpOp}{r:R2}(ho:OpR X (compareOp op) r)(ha:PE X a ta)(hb:PE X b tb)(hm:behindInMarks op b=false):PE X (.Compare a [op] [b] pos) (tOp r ta tb):=by
 intro pins s σ H Q I h
 exact wpAny_Compare1 (yY ha hb I h fun v u s2 x y H2 I2 rx ry q=>ho pins s2 σ H2 x y v u Q I2 rx ry q) hm
noncomputable def pj (t:TE):TT:=fun σ H Q=>t σ H fun x H'=>∃ k,x=.bl k/\Q k H'
theorem vS {op:CmpOp}{r:R2}(ho:OpR X (compareOp op) r)(ha:PE X a ta)(hb:PE X b tb)(hm:behindInMarks op b=false):PT X (.Compare a [op] [b] pos) (pj (tOp r ta tb)):=by
 intro pins s σ H Q I h
 refine wpAny_isTrue_Compare1 (thn (ha pins s σ H _ I h) fun v s1 ⟨x,H1,I1,r1,q1⟩=>thn (hb pins s1 σ H1 _ I1 q1) fun u s2 ⟨y,H2,I2,r2,q2⟩ =>
  thn (ho pins s2 σ H2 x y v u _ I2 r1 r2 q2) fun c s3 ⟨z,H3,I3,r3,k,e,q3⟩=>?_) hm
 subst e
 cases r3
 exact wpAny_truthy_bool ⟨H3,I3,q3⟩
noncomputable def kB (r r':R2)(ta tb tc:TE):TE:=fun σ H Q=>ta σ H fun x H1=>tb σ H1 fun y H2=>r x y H2 fun z H3=>∃ k,z=.bl k /\
 (if k=true then tc σ H3 fun w' H4=>r' y w' H4 Q else Q (.bl false) H3)
theorem qr {op op':CmpOp}{r r':R2}(ho:OpR X (compareOp op) r)(ho':OpR X (compareOp op') r')(ha:PE X a ta)(hb:PE X b tb)(hc:PE X c tc)
  (hm:lastMarks [op,op'] [b,c]=false:=by with_unfolding_all rfl):PE X (.Compare a [op,op'] [b,c] pos) (kB r r' ta tb tc):=by
 intro pins s σ H Q I h
 refine Compare_chain (thn (ha pins s σ H _ I h) fun v s1 ⟨x,H1,I1,r1,q1⟩=>chain_link (thn (hb pins s1 σ H1 _ I1 q1) fun u s2 ⟨y,H2,I2,r2,q2⟩ =>
  thn (ho pins s2 σ H2 x y v u _ I2 r1 r2 q2) fun d s3 ⟨z,H3,I3,r3,k,e,q3⟩=>?_)) hm
 subst e
 cases r3
 refine wpAny_truthy_bool ?_
 cases k with
 | false=>exact ite_ff ⟨.bl false,H3,I3,rfl,q3⟩
 | true=>exact ite_tt (chain_last (thn (hc pins s3 σ H3 _ I3 q3) fun w' s4 ⟨z',H4,I4,r4,q4⟩=>ho' pins s4 σ H4 y z' u w' Q I4 r2 r4 q4))
theorem qg {op op':CmpOp}{r r':R2}(ho:OpR X (compareOp op) r)(ho':OpR X (compareOp op') r')(ha:PE X a ta)(hb:PE X b tb)(hc:PE X c tc)
  (hm:lastMarks [op,op'] [b,c]=false:=by with_unfolding_all rfl):PT X (.Compare a [op,op'] [b,c] pos) (pj (kB r r' ta tb tc)):=by
 intro pins s σ H Q I h
 refine isTrue_chain (thn (ha pins s σ H _ I h) fun v s1 ⟨x,H1,I1,r1,q1⟩=>test_link (thn (hb pins s1 σ H1 _ I1 q1) fun u s2 ⟨y,H2,I2,r2,q2⟩ =>
  thn (ho pins s2 σ H2 x y v u _ I2 r1 r2 q2) fun d s3 ⟨z,H3,I3,r3,k,e,q3⟩=>?_)) hm
 subst e
 cases r3
 refine wpAny_truthy_bool ?_
 cases k with
 | false =>
  obtain ⟨k',e',q'⟩:=q3
  cases e'
  exact ite_ff ⟨H3,I3,q'⟩
 | true =>
  refine ite_tt (test_last (thn (hc pins s3 σ H3 _ I3 q3) fun w' s4 ⟨z',H4,I4,r4,q4⟩=>thn (ho' pins s4 σ H4 y z' u w' _ I4 r2 r4 q4) fun d' s5 ⟨z2,H5,I5,r5,k2,e2,q5⟩=>?_))
  subst e2
  cases r5
  exact wpAny_truthy_bool ⟨H5,I5,q5⟩
noncomputable def qc (K:a0a)(x:V)(H:Hp)(k:Bool):Prop :=
 match x with
 | .non=>k=false
 | .bl b=>k=b
 | .int i=>k=(i != 0)
 | .str y=>y.length<=sizeLine/\k=((y.length:Int) != 0)
 | .byt y=>y.size<=sizeLine/\k=((y.size:Int) != 0)
 | .ref p=>(∃ xs,SqL K H p xs/\k=!xs.isEmpty)\/(∃ xs,SqT K H p xs/\k=!xs.isEmpty)\/∃ kvs,H p=some (.dK kvs)/\k=!kvs.isEmpty
 | _=>False
theorem kL {κ:Type}{kvs:List (κ×V)}{vs:List (κ×Value)}(r:KV kvs vs):(!vs.isEmpty)=!kvs.isEmpty:=by
 cases r<;>rfl
theorem fk {xs:List V}{its:List Value}(r:Vals xs its):(!its.toArray.isEmpty)=!xs.isEmpty:=by
 cases r<;>simp
theorem eJ:(sizeLine:Nat) < 2 ^ 63:=by rw [sizeLine_eq]; decide
theorem k6:FJ X (fun x H Q=>∃ k,qc X.K x H k/\Q k H):=by
 intro pins s σ H x v Q I rx h
 obtain ⟨k,e,q⟩:=h
 have hl:=eJ
 have hs:sizeLine=16777216:=sizeLine_eq
 cases x with
 | non =>
  cases rx
  have e':k=false:=e
  subst e'
  exact truthy_none ⟨H,I,q⟩
 | bl b =>
  cases rx
  have e':k=b:=e
  subst e'
  exact wpAny_truthy_bool ⟨H,I,q⟩
 | int i =>
  obtain ⟨t,rfl⟩:=rx
  have e':k=(i != 0):=e
  subst e'
  exact PySem.P.truthy_int ⟨H,I,q⟩
 | str y =>
  obtain ⟨t,rfl⟩:=rx
  obtain ⟨hy,e'⟩:y.length<=sizeLine/\k=((y.length:Int) != 0):=e
  subst e'
  exact PySem.P.truthy_str (by omega) ⟨H,I.tok _,q⟩
 | byt y =>
  obtain ⟨t,rfl⟩:=rx
  obtain ⟨hy,e'⟩:y.size<=sizeLine/\k=((y.size:Int) != 0):=e
  subst e'
  exact PySem.W.truthy_bytes (by omega) ⟨H,I.tok _,q⟩
 | ref p =>
  cases rx
  have e':(∃ xs,SqL X.K H p xs/\k=!xs.isEmpty)\/(∃ xs,SqT X.K H p xs/\k=!xs.isEmpty)\/∃ kvs,H p=some (.dK kvs)/\k=!kvs.isEmpty:=e
  rcases e' with ⟨xs,hx,e'⟩ | ⟨xs,hx,e'⟩ | ⟨kvs,hx,e'⟩
  ·subst e'
   obtain ⟨its,r,pl,hz⟩:=I.list hx
   have hlen:=r.length
   exact wpAny_truthy_list pl.isList (by simp only [a0n]; omega) ⟨H,I.tok _,by rw [fk r]; exact q⟩
  ·subst e'
   obtain ⟨its,r,pl,hz⟩:=I.tuple hx
   have hlen:=r.length
   exact truthy_tuple pl (by simp only [a0n]; omega) ⟨H,I.tok _,by rw [fk r]; exact q⟩
  ·subst e'
   obtain ⟨hz,hS,vs,r,m⟩:kvs.length<=sizeLine/\(p==sysModules)=false/\∃ vs,KV kvs vs/\s.heap.DictOf (aT X.prog X.w) p vs:=I.hok p _ hx
   have hlen:kvs.length=vs.length:=Paired.length r
   exact wpAny_truthy_dict hS m (by omega) ⟨H,I.tok _,by rw [kL r]; exact q⟩
 | _=>exact (show False from e).elim
theorem p9 (ha:PE X a ta)(he:∀ whole,isTrue a X.env whole=(do let v <- whole; standAt a.pos; holding [v] (truthy v))) :
  PT X a (fun σ H Q=>ta σ H fun x H'=>∃ k,qc X.K x H' k/\Q k H'):=by
 intro pins s σ H Q I h
 exact isTrue_plain (thn (ha pins s σ H _ I h) fun v s1 ⟨x,H1,I1,r1,q1⟩=>k6 pins s1 σ H1 x v Q I1 r1 q1) (he _)
theorem op_add_str:OpR X (binaryOp .Add) (fun x y H Q=>∃ i j,x=.str i/\y=.str j/\i.length+j.length<=sizeLine/\Q (.str (i++j)) H):=by
 intro pins s σ H x y v u Q I rx ry h
 obtain ⟨i,j,rfl,rfl,hz,q⟩:=h
 obtain ⟨t,rfl⟩:=rx
 obtain ⟨t',rfl⟩:=ry
 exact add_str (fun t' tk=>⟨.str (i++j),H,I.tok _,⟨_,rfl⟩,q⟩) hz
theorem cf {x:V}{us:List Value}(r:Vals [x] us):∃ u,us=[u]/\RelV x u:=by
 cases r with
 | cons r1 r2=>cases r2; exact ⟨_,rfl,r1⟩
theorem mr {x y:V}{us:List Value}(r:Vals [x,y] us):∃ u w',us=[u,w']/\RelV x u/\RelV y w':=by
 cases r with
 | cons r1 r2 =>
  cases r2 with
  | cons r3 r4=>cases r4; exact ⟨_,_,rfl,r1,r3⟩
theorem nR (hc:X.calm=true):bI X (.builtin "max") (fun xs H Q=>∃ i j,xs=[.int i,.int j]/\Q (.int (if j > i then j else i)) H):=by
 intro pins s σ H xs us Q I r h
 obtain ⟨i,j,rfl,q⟩:=h
 obtain ⟨u,w',rfl,⟨t,rfl⟩,⟨t',rfl⟩⟩:=mr r
 refine max_two_ints (I.ok.hd hc) fun h' tk k=>⟨_,H,I.kept k,?_,q⟩
 by_cases hj:j > i
 ·rw [if_pos hj,if_pos hj]; exact ⟨_,rfl⟩
 ·rw [if_neg hj,if_neg hj]; exact ⟨_,rfl⟩
theorem nC:bI X (.type "int") (fun xs H Q=>(∃ i,xs=[.int i]/\Q (.int i) H)\/∃ k,xs=[.bl k]/\Q (.int (if k then 1 else 0)) H):=by
 intro pins s σ H xs us Q I r h
 rcases h with ⟨i,rfl,q⟩ | ⟨k,rfl,q⟩
 ·obtain ⟨u,rfl,t,rfl⟩:=cf r
  exact call_int_int ⟨.int i,H,I,⟨_,rfl⟩,q⟩
 ·obtain ⟨u,rfl,r1⟩:=cf r
  cases r1
  exact call_int_bool ⟨.int (if k then 1 else 0),H,I.tok _,⟨_,rfl⟩,q⟩
noncomputable def DL (K:a0a)(x:V)(H:Hp)(n:Nat):Prop :=
 match x with
 | .str y=>y.length<=sizeLine/\n=y.length
 | .byt y=>y.size<=sizeLine/\n=y.size
 | .ref p=>(∃ xs,SqL K H p xs/\n=xs.length)\/∃ xs,SqT K H p xs/\n=xs.length
 | _=>False
theorem jF:bI X (.builtin "len") (fun xs H Q=>∃ x n,xs=[x]/\DL X.K x H n/\Q (.int n) H):=by
 intro pins s σ H xs us Q I r h
 obtain ⟨x,n,rfl,e,q⟩:=h
 obtain ⟨u,rfl,rx⟩:=cf r
 have hl:=eJ
 have hs:sizeLine=16777216:=sizeLine_eq
 cases x with
 | str y =>
  obtain ⟨t,rfl⟩:=rx
  obtain ⟨hy,e'⟩:y.length<=sizeLine/\n=y.length:=e
  subst e'
  exact len_str (by omega) ⟨.int _,H,I.tok _,⟨_,rfl⟩,q⟩
 | byt y =>
  obtain ⟨t,rfl⟩:=rx
  obtain ⟨hy,e'⟩:y.size<=sizeLine/\n=y.size:=e
  subst e'
  exact PySem.W.len_bytes (by omega) ⟨.int _,H,I.tok _,⟨_,rfl⟩,q⟩
 | ref p =>
  cases rx
  have e':(∃ xs,SqL X.K H p xs/\n=xs.length)\/∃ xs,SqT X.K H p xs/\n=xs.length:=e
  rcases e' with ⟨xs,hx,e'⟩ | ⟨xs,hx,e'⟩
  ·subst e'
   obtain ⟨its,r',pl,hz⟩:=I.list hx
   have hlen:=r'.length
   exact Calls.call_len_list pl.isList (by simp only [a0n]; omega) ⟨.int xs.length,H,I.tok _,⟨_,by simp only [a0n]; rw [hlen]⟩,q⟩
  ·subst e'
   obtain ⟨its,r',pl,hz⟩:=I.tuple hx
   have hlen:=r'.length
   exact len_tuple pl (by simp only [a0n]; omega) ⟨.int xs.length,H,I.tok _,⟨_,by simp only [a0n]; rw [hlen]⟩,q⟩
 | _=>exact (show False from e).elim
end
end L2
namespace L2
open PySem PySem.Spec PyProof.Rows
structure ObjM (h:Heap)(x dx C:Addr)(mA:Str->Option Value):Prop where
 obj:h.get? x=some (a2y C dx)
 ns:h.Ns1 dx mA
 ne:dx≠x
theorem nM {h:Heap}{dx:Addr}{mA:Str->Option Value}(n:h.Ns1 dx mA):∃ od,h.get? dx=some od/\∀ name,a2F name od=some (mA name):=by
 obtain ⟨o,es,ep,ho,hd,hk,_,hm⟩:=n
 refine ⟨o,ho,fun name=>?_⟩
 have e:=hm name
 unfold nsFind findBy at e
 rw [<- Array.find?_toList] at e
 unfold a2F
 rw [hd]
 dsimp only
 split
 ·rename_i y q
  rw [q] at e
  exact congrArg some e
 ·rename_i q
  rw [q] at e
  have a:es.toList.any (·.refKey)=false:=by
   rw [List.any_eq_false]
   intro y hy
   obtain ⟨z,t,hkey⟩:=hk y (Array.mem_toList_iff.mp hy)
   simp [DictEntry.refKey,hkey]
  have a':¬ es.toList.any (·.refKey)=true:=by rw [a]; exact a0f
  rw [if_neg a']
  exact congrArg some e
theorem ObjM.look {h:Heap}{x dx C:Addr}{mA:Str->Option Value}(I:ObjM h x dx C mA):∃ od,PySem.W.InstAt h x (a2y C dx) C (some od)/\∀ name,a2F name od=some (mA name) :=
 let ⟨od,ho,hl⟩:=nM I.ns
 ⟨od,⟨I.obj,rfl,rfl,ho⟩,hl⟩
noncomputable def Eo (f:Str)(v:V):List (Str×V)->List (Str×V)
 | []=>[(f,v)]
 | (g,x)::r=>if g=f then (g,v)::r else (g,x)::Eo f v r
theorem RelO.some_of {v:V}{o:Option Value}(r:RelO (some v) o):∃ u,o=some u/\RelV v u:=by
 cases o with
 | none=>exact (show False from r).elim
 | some u=>exact ⟨u,rfl,r⟩
section
variable {P:Program}{w:World}{H H':Hp}{h h':Heap}{a C dx:Addr}{fs fs':List (Str×V)}
theorem vw (hok:HOk P w H h)(e:H a=some (.ins C dx fs)):∃ mA,ObjM h a dx C mA/\(∀ f,RelO (fs.lookup f) (mA f))/\a3E mA (fs.map (·.1))/\fs.length<=1000/\H dx=some (.own a):=by
 obtain ⟨d,z,ne,ob,mA,n,r,q⟩:=(show ObjOk P w H h a (.ins C dx fs) from hok a _ e)
 exact ⟨mA,⟨ob,n,ne⟩,r,q,z,d⟩
end
structure Cls (K:a0a)(C:Addr):Prop where
 pg:a27 K C Str.empty=true
 hd:PySem.W.hasDictIn K C=true
 po:PySem.W.plainOver K C=true
 sa:a3r K (.ref C) "__setattr__"=some (some (.builtin "object.__setattr__"))
theorem Cls.get {K:a0a}{C:Addr}(c:Cls K C)(f:Str):a27 K C f=true:=c.pg
section
variable {X:Cx}{pins:List (Addr×Obj)}{σ:St}{H:Hp}{s:Shared}{A:Around}{E:Value->Shared->Prop}{Q:Value->Shared->Prop}{c:Value}{b:Bool}
inductive eT (K:a0a)(H:Hp):V->Value->Prop where
 | non:eT K H .non (.type "NoneType")
 | bl (x:Bool):eT K H (.bl x) (.type "bool")
 | int (i:Int):eT K H (.int i) (.type "int")
 | str (x:Str):eT K H (.str x) (.type "str")
 | flt (x:UInt64):eT K H (.flt x) (.type "float")
 | lst {a:Addr} {xs:List V} (e:H a=some (.lst xs)):eT K H (.ref a) (.type "list")
 | frz {a:Addr} {o:Obj} {xs:List V} (e:H a=some (.frz o (.lst xs))):eT K H (.ref a) (.type "list")
 | tup {a:Addr} {xs:List V} (e:H a=some (.tup xs)):eT K H (.ref a) (.type "tuple")
 | dK {a:Addr} {kvs:List (Key×V)} (e:H a=some (.dK kvs)):eT K H (.ref a) (.type "dict")
 | dT {a:Addr} {kvs:List (List Key×V)} (e:H a=some (.dT kvs)):eT K H (.ref a) (.type "dict")
 | ins {a C dx:Addr} {fs:List (Str×V)} (e:H a=some (.ins C dx fs)) (cl:Cls K C) (ha:a3r K (.ref C) "__class__"=some (some (.builtin "object.__class__")))
   (hn:PySem.W.specialIn K (.builtin "object.__class__") "__get__"=some (some (.builtin "getset_descriptor.__get__"))) (htk:PySem.W.takesIn K (.builtin "object.__class__")=some true)
   (hm:PySem.W.mroIn K C (.type "object")=some true):eT K H (.ref a) (.ref C)
theorem de {x:V}{u t:Value}(I:Inv X pins σ H s)(rx:RelV x u)(ty:eT X.K H x t)(e:a08 X.K t c=some b)(h:∀ tk,Q (.bool b) { s with toks:=tk }) :
  wpAny (model X.prog X.w) A (call (.builtin "isinstance") [u,c]) Q E s:=by
 cases ty with
 | non=>cases (show u=Value.none from rx); exact a0P a2V I.kIn a1a e (fun z=>nomatch z) h
 | bl y=>cases (show u=Value.bool y from rx); exact a0P a2W I.kIn a1a e (fun z=>nomatch z) h
 | int i=>obtain ⟨t,q⟩:=(show ∃ t,u=Value.int i t from rx); cases q; exact a0P a28 I.kIn a1a e (fun z=>nomatch z) h
 | str y=>obtain ⟨t,q⟩:=(show ∃ t,u=Value.str y t from rx); cases q; exact a0P a29 I.kIn a1a e (fun z=>nomatch z) h
 | flt y=>obtain ⟨t,q⟩:=(show ∃ t,u=Value.float y t from rx); cases q; exact a0P PySem.W.kitx_float I.kIn a1a e (fun z=>nomatch z) h
 | @lst a xs ea =>
  cases (show u=Value.ref a from rx)
  obtain ⟨_,_,n,_,h1⟩:=(show ObjOk X.prog X.w H s.heap a (.lst xs) from I.hok a _ ea)
  exact a0P a1G I.kIn ⟨_,h1,rfl⟩ e (fun z=>nomatch z) h
 | @frz a ob xs ea =>
  cases (show u=Value.ref a from rx)
  obtain ⟨_,_,_,n,_,h1⟩:=(show ObjOk X.prog X.w H s.heap a (.frz ob (.lst xs)) from I.hok a _ ea)
  exact a0P a1G I.kIn ⟨_,h1,rfl⟩ e (fun z=>nomatch z) h
 | @tup a xs ea =>
  cases (show u=Value.ref a from rx)
  obtain ⟨_,_,_,p⟩:=(show ObjOk X.prog X.w H s.heap a (.tup xs) from I.hok a _ ea)
  obtain ⟨o,h1,h2,_⟩:=p
  exact a0P a10 I.kIn ⟨o,h1,h2⟩ e (fun z=>nomatch z) h
 | @dK a kvs ea =>
  cases (show u=Value.ref a from rx)
  obtain ⟨_,_,vs,_,p⟩:=(show ObjOk X.prog X.w H s.heap a (.dK kvs) from I.hok a _ ea)
  obtain ⟨o,es,ep,h1,h2,_⟩:=p
  exact a0P a2X I.kIn ⟨o,h1,h2.1⟩ e (fun z=>nomatch z) h
 | @dT a kvs ea =>
  cases (show u=Value.ref a from rx)
  obtain ⟨_,_,xs,_,o,es,ep,h1,h2,_⟩:=(show ObjOk X.prog X.w H s.heap a (.dT kvs) from I.hok a _ ea)
  exact a0P a2X I.kIn ⟨o,h1,h2.1⟩ e (fun z=>nomatch z) h
 | @ins a C dx fs ea cl ha hn htk hm =>
  cases (show u=Value.ref a from rx)
  obtain ⟨mA,O,_⟩:=vw I.hok ea
  obtain ⟨od,J,_⟩:=O.look
  exact a0P (PySem.W.kitx_own (cl.get _) cl.hd ha hn htk hm) I.kIn J e (fun z=>nomatch z) h
end
end L2
namespace L2
open PySem PySem.Spec PyProof.Rows
structure Room (k:Nat)(A:Around):Prop where
 hd:A.handled=none
 dp:A.depth+3 * k+5 < recursionLimit
 un:A.units+16 * k+200 < cLine
 gu:A.guards=some []
theorem Room.deeper {k:Nat}{A:Around}(r:Room (k+1) A)(env:Env):Room k (A.deeper env) :=
 ⟨r.hd,by have:=r.dp; show A.depth+1+3 * k+5 < _; omega,by have:=r.un; show A.units+3+16 * k+200 < _; omega,r.gu⟩
theorem Room.depth {k:Nat}{A:Around}(r:Room k A):A.depth < recursionLimit:=by have:=r.dp; omega
theorem Room.units {k:Nat}{A:Around}(r:Room k A):A.units+64 < cLine:=by have:=r.un; omega
noncomputable def Ay:TA:=fun _ H Q=>Q [] H
noncomputable def l7 (ta:TE)(tr:TA):TA:=fun σ H Q=>ta σ H fun x H1=>tr σ H1 fun xs H2=>Q (x::xs) H2
section
variable {X:Cx}{e:Expr}{es:List Expr}{te:TE}{t:TA}{pos:Pos}
theorem bQ:PA X [] Ay:=fun _ _ _ _ H Q I h=>Calls.spliced_nil ⟨[],H,I,.nil,h⟩
theorem aP (ha:PE X e te)(hr:PA X es t)(hs:starEach (e::es) X.env=(false,eval e X.env)::starEach es X.env:=by rfl):PA X (e::es) (l7 te t):=by
 intro pos pins s σ H Q I h
 rw [hs]
 show wpAny _ _ (spliced ((false,eval e X.env)::backTo pos (starEach es X.env))) _ _ s
 refine Calls.spliced_cons (thn (ha pins s σ H _ I h) fun u s1 ⟨x,H1,I1,r1,q1⟩=>?_)
 exact thn (hr pos pins s1 σ H1 _ I1 q1) fun us s2 ⟨xs,H2,I2,r2,q2⟩=>⟨x::xs,H2,I2,.cons r1 r2,q2⟩
noncomputable def Bs (t:TA):TE:=fun σ H Q=>t σ H fun xs H1=>xs.length<=sizeLine/\∀ p,H1 p=none->Q (.ref p) (upd H1 p (.tup xs))
noncomputable def BF (t:TA):TE:=fun σ H Q=>t σ H fun xs H1=>xs.length<=sizeLine/\∀ p,H1 p=none->Q (.ref p) (upd H1 p (.lst xs))
theorem pN {x1}(h:PA X es t):PE X (.Tuple es x1 pos) (Bs t):=by
 intro pins s σ H Q I hq
 refine wpAny_Tuple_spliced (thn (h pos pins s σ H _ I hq) fun us s1 ⟨xs,H1,I1,r,z,q⟩=>⟨by rw [<- r.length]; exact z,?_⟩)
 have hf:H1 s1.heap.objs.size=none:=I1.hok.fresh (a0m _)
 refine ⟨.ref s1.heap.objs.size,upd H1 s1.heap.objs.size (.tup xs),I1.laid (t':=s1.toks) (fun b u e=>Heap.get?_push_of_some _ e) (a0m _) ?_,rfl,q _ hf⟩
 exact ⟨z,us,r,⟨_,Heap.get?_push_size _ rfl,rfl,_,rfl⟩⟩
theorem AN (h:PA X es t):PE X (.List es pos) (BF t):=by
 intro pins s σ H Q I hq
 refine wpAny_List_spliced (thn (h pos pins s σ H _ I hq) fun us s1 ⟨xs,H1,I1,r,z,q⟩=>⟨by rw [<- r.length]; exact z,?_⟩)
 have hf:H1 s1.heap.objs.size=none:=I1.hok.fresh (a0m _)
 refine ⟨.ref s1.heap.objs.size,upd H1 s1.heap.objs.size (.lst xs),I1.laid (t':=s1.toks) (fun b u e=>Heap.get?_push_of_some _ e) (a0m _) ?_,rfl,q _ hf⟩
 exact ⟨z,us,0,r,Heap.get?_push_size _ rfl⟩
end
noncomputable abbrev Sp:=List V->Hp->VK->XK->Prop
noncomputable abbrev CXT:=List Env->Hp->Shared->XK->Value->Shared->Prop
structure uF (P:Program)(w:World)(K:a0a)(mg:Str->Option Value)(base:Heap)(A:Around)(outer:List Env)(s:Shared)(H:Hp):Prop where
 frames:A.frames=some outer
 mod:Mod K mg base
 bs:∀ b o,base.get? b=some o->s.heap.get? b=some o/\H b=none
 bsz:base.objs.size<=s.heap.objs.size
 funs:s.heap.FunFrames base outer
 frf:∀ b∈frs outer,H b=none
 hok:HOk P w H s.heap
 bare:AllBare s.gens
noncomputable def CE (outer:List Env)(P:Program)(w:World)(H:Hp)(s:Shared)(Q:VK)(u:Value)(s':Shared):Prop :=
 ∃ v H',s'.os=s.os/\AllBare s'.gens/\Un (frs outer) [] H H' s.heap s'.heap/\HOk P w H' s'.heap/\RelV v u/\Q v H'
noncomputable def CR (CX:CXT)(outer:List Env)(P:Program)(w:World)(H:Hp)(s:Shared)(Q:VK)(E:XK)(r:Result)(s':Shared):Prop :=
 match r with
 | .ok (.ret u)=>CE outer P w H s Q u s'
 | .ok _=>False
 | .error e=>CX outer H s E e s'
structure dJ (P:Program)(w:World)(K:a0a)(mg:Str->Option Value)(base:Heap)(CX:CXT)(k:Nat)(f:Addr)(fd:FuncData)(ps:List Str)(sp:Sp):Prop where
 len:∀ vs H Q E,sp vs H Q E->vs.length=ps.length
 run:∀ (A:Around) (outer:List Env) (s:Shared) (H:Hp) (args:Args) (us:List Value) (vs:List V) (Q:VK) (E:XK),Room k A->uF P w K mg base A outer s H->BindsTo s fd args (ps.zip us)->Vals vs us->sp vs H Q E ->
  codeAny (model P w) A (.call (.ref f) args) (CR CX outer P w H s Q E) s
section
variable {X:Cx}{pins:List (Addr×Obj)}{σ:St}{H:Hp}{s s':Shared}
theorem Inv.env0 (I:Inv X pins σ H s):uF X.prog X.w X.K X.mg X.base X.A X.stack s H :=
 ⟨I.ok.frames,I.ok.mod,I.bs,a0y I.ok.bsz I.sz,I.stack,I.stkFree,I.hok,I.bare⟩
theorem Inv.after {Q:VK}{u:Value}(I:Inv X pins σ H s)(h:CE X.stack X.prog X.w H s Q u s'):EP X pins σ Q u s':=by
 obtain ⟨v,H',os,bare,un,hok,r,q⟩:=h
 obtain ⟨hh,g,d,t,os'⟩:=s'
 obtain rfl:os'=s.os:=os
 exact ⟨v,H',I.call (h':=hh) (g':=g) (d':=d) (t':=t) (ch:=[]) un hok bare (fun b z=>absurd z (by simp)),r,q⟩
end
noncomputable def Dh (sp:Sp)(dvs:List V)(E:XK)(t:TA):TE:=fun σ H Q=>t σ H fun vs H1=>sp (vs++dvs) H1 Q E
noncomputable def Binds (K:a0a)(fd:FuncData)(ps:List Str)(ds:List Value):Prop :=
 ∀ (s:Shared) (us:List Value),K.In s.heap->(us++ds).length=ps.length->BindsTo s fd ⟨us,[]⟩ (ps.zip (us++ds))
theorem Binds.all {K:a0a}{fd:FuncData}{ps:List Str}(h:∀ us:List Value,us.length=ps.length->bindArgs fd ⟨us,[]⟩=pure (ps.zip us)):Binds K fd ps []:=fun s us _ hl=>by
 rw [a0F] at hl ⊢
 exact .of_eq (h us hl)
noncomputable def kY (CX:CXT)(X:Cx)(E:XK):Prop:=∀ (pins:List (Addr×Obj)) (σ:St) (H:Hp) (s:Shared) (e:Value) (s':Shared),Inv X pins σ H s->CX X.stack H s E e s'->X.xe e s'
section
variable {X:Cx}{CX:CXT}{k:Nat}{f C:Addr}{fd:FuncData}{ps:List Str}{sp:Sp}{dvs:List V}{ds:List Value}{E:XK}{x m:Str}{p pos apos:Pos}{e o:Expr}{es:List Expr}{ta:TE}{t:TA}
theorem xV {pins:List (Addr×Obj)}{σ:St}{H:Hp}{s:Shared}{Q:VK}{us:List Value}{vs:List V}(F:dJ X.prog X.w X.K X.mg X.base CX k f fd ps sp)(hr:Room k X.A)(hb:Binds X.K fd ps ds)(hd:Vals dvs ds)(hx:kY CX X E)
  (I:Inv X pins σ H s) (r:Vals vs us) (h:sp (vs++dvs) H Q E):wpAny (model X.prog X.w) X.A (call (.ref f) us) (EP X pins σ Q) X.xe s:=by
 have r2:Vals (vs++dvs) (us++ds):=r.append hd
 have hl:(us++ds).length=ps.length:=by rw [<- r2.length]; exact F.len _ _ _ _ h
 refine wpAny_call (codeAny_mono (F.run X.A X.stack s H ⟨us,[]⟩ (us++ds) (vs++dvs) Q E hr I.env0 (hb s us I.kIn hl) r2 h) fun r s' hq=>?_)
 cases r with
 | error e=>exact hx pins σ H s e s' I hq
 | ok fl =>
  cases fl with
  | ret u=>exact I.after hq
  | next=>exact a1n hq
  | brk=>exact a1n hq
  | cont=>exact a1n hq
theorem vX (F:dJ X.prog X.w X.K X.mg X.base CX k f fd ps sp)(hr:Room k X.A)(hg:Gl X x)(hm:X.mg x=some (.ref f))(hk:a1J X.K (.ref f)=true)(hb:Binds X.K fd ps ds)(hd:Vals dvs ds)(hx:kY CX X E)
  (ha:PA X (e::es) t) (hdb:(x==("__debug__":Str))=false:=by decide) (he:starEach (e::es) X.env=(false,eval e X.env)::starEach es X.env:=by rfl) (hpl:(backTo pos (starEach es X.env)).any (·.1)=false:=by rfl) :
  PE X (.Call (.Name x p) (e::es) [] pos) (Dh sp dvs E t):=by
 intro pins s σ H Q I h
 refine wpAny_Call_Name_kw (tE I hg hm ?_ hdb)
 refine PySem.W.callWith_K (h₀:=X.base) I.ok.mod.kin hk (thn (ha pos pins s σ H _ I h) fun us s1 ⟨vs,H1,I1,r,q⟩=>⟨I1.kIn,?_⟩) he hpl
 exact xV F hr hb hd hx I1 r q
end
structure ay (N P:List Str)(sc:Scope):Prop where
 kind:sc.kind=.function
 co:sc.isCoroutine=false
 gen:sc.isGenerator=false
 nd:N.Nodup
 pre:N.take P.length=P
 par:∀ x∈P,sc.names.lookup x=some .local\/sc.names.lookup x=some .cell
 nofree:∀ y∈sc.names,y.2≠.free
theorem gM {kindOf:Str->Option NameKind}{x:Str}:∀ {binds:List (Str×Value)} {m:Str->Option Value},(∀ v,(x,v) ∉ binds)->bindL kindOf binds m x=m x
 | [],_,_=>rfl
 | (n,v)::r,m,h=>by
  unfold bindL
  rw [gM fun w hw=>h w (a0d _ hw)]
  split
  ·have:x≠n:=by rintro rfl; exact h v a0e
   simp [this]
  ·rfl
theorem gH {kindOf:Str->Option NameKind}{x:Str}:∀ {binds:List (Str×Value)} {m:Str->Option Value},(∀ v,(x,v) ∉ binds)->bindC kindOf binds m x=m x
 | [],_,_=>rfl
 | (n,v)::r,m,h=>by
  unfold bindC
  rw [gH fun w hw=>h w (a0d _ hw)]
  split
  ·rfl
  ·have:x≠n:=by rintro rfl; exact h v a0e
   simp [this]
theorem gU {kindOf:Str->Option NameKind}{x:Str}{v:Value}:∀ {P:List Str} {vs:List Value} {i:Nat} {m:Str->Option Value},P.Nodup->P[i]?=some x->vs[i]?=some v->kindOf x=some .local ->
  bindL kindOf (P.zip vs) m x=some v
 | [],_,_,_,_,h,_,_=>by simp at h
 | _::_,[],_,_,_,_,h,_=>by simp at h
 | p::P,w::vs,0,m,nd,h1,h2,hk=>by
  simp at h1 h2; subst h1; subst h2
  show bindL kindOf ((p,w)::P.zip vs) m p=_
  unfold bindL
  rw [gM fun v hv=>(a0Y.mp nd).1 (a1k hv).1,if_pos hk]
  simp
 | p::P,w::vs,i+1,m,nd,h1,h2,hk=>by
  show bindL kindOf ((p,w)::P.zip vs) m x=_
  unfold bindL
  exact gU (i:=i) (a0Y.mp nd).2 (by simpa using h1) (by simpa using h2) hk
theorem gD {kindOf:Str->Option NameKind}{x:Str}{v:Value}:∀ {P:List Str} {vs:List Value} {i:Nat} {m:Str->Option Value},P.Nodup->P[i]?=some x->vs[i]?=some v->kindOf x≠some .local ->
  bindC kindOf (P.zip vs) m x=some v
 | [],_,_,_,_,h,_,_=>by simp at h
 | _::_,[],_,_,_,_,h,_=>by simp at h
 | p::P,w::vs,0,m,nd,h1,h2,hk=>by
  simp at h1 h2; subst h1; subst h2
  show bindC kindOf ((p,w)::P.zip vs) m p=_
  unfold bindC
  rw [gH fun v hv=>(a0Y.mp nd).1 (a1k hv).1,if_neg hk]
  simp
 | p::P,w::vs,i+1,m,nd,h1,h2,hk=>by
  show bindC kindOf ((p,w)::P.zip vs) m x=_
  unfold bindC
  exact gD (i:=i) (a0Y.mp nd).2 (by simpa using h1) (by simpa using h2) hk
noncomputable def start (N:List Str)(vs:List V):St:=vs.map some++a0i (N.length-vs.length) none
noncomputable def il (CX:CXT)(P:Program)(w:World)(K:a0a)(mg:Str->Option Value)(base:Heap)(N:List Str)(qual:Str)(scope:Scope)(f:Addr)(cd:Value)(A:Around)(outer:List Env)(s:Shared)(H:Hp)(E:XK):Cx where
 prog:=P
 w:=w
 K:=K
 mg:=mg
 base:=base
 A:=A.deeper (envOfC qual scope s.heap.objs.size f cd)
 N:=N
 s₀:=s
 H₀:=H
 env:=envOfC qual scope s.heap.objs.size f cd
 outer:=outer
 stack:=envOfC qual scope s.heap.objs.size f cd::outer
 ex:=[]
 calm:=true
 fn:=fun _=>true
 pn:=[]
 xe:=fun e s'=>wpAny (model P w) (A.deeper (envOfC qual scope s.heap.objs.size f cd)) (leaving (envOfC qual scope s.heap.objs.size f cd) e) (fun _ s''=>CX outer H s E e s'') (fun e' s''=>CX outer H s E e' s'') s'
theorem jc {sc:Scope}{n:Nat}{x:Str}(h:sc.names.lookup x=some .cell):∃ c,(cellsFrom n sc.names []).lookup x=some c:=by
 have q:=a2u sc.names n [] (.inl h)
 exact a1A.mp q
theorem nG {CX:CXT}{P:Program}{w:World}{K:a0a}{mg:Str->Option Value}{base:Heap}{N ps:List Str}{qual:Str}{scope:Scope}{f:Addr}{cd:Value}{A:Around}{outer:List Env}{s s1:Shared}{H:Hp}{E:XK}{us:List Value}{vs:List V}
  (S:ay N ps scope) (hd:A.handled=none) (e0:uF P w K mg base A outer s H) (hl:vs.length=ps.length) (r:Vals vs us)
  (x:InCallC s s.heap.objs.size (bindL (envOfC qual scope s.heap.objs.size f cd).kindOf (ps.zip us) fun _=>none) (cellsFrom (s.heap.objs.size+1) scope.names []) (bindC (envOfC qual scope s.heap.objs.size f cd).kindOf (ps.zip us) fun _=>none) s1) :
  Inv (il CX P w K mg base N qual scope f cd A outer s H E) [] (start N vs) H s1:=by
 have hpl:ps.length<=N.length:=by have:=congrArg a1T S.pre; rw [a1t] at this; omega
 obtain ⟨h1,tk,rfl,hk⟩:=x.done
 have noA:∀ b:Addr,b ∉ (il CX P w K mg base N qual scope f cd A outer s H E).ex:=fun b z=>absurd (show b∈([]:List Addr) from z) (by simp)
 refine ⟨⟨e0.mod,S.kind,rfl,rfl,a0m _,fun y z c h1 h2=>?_,fun y hy=>?_,fun y c _ h=>?_,fun _=>hd,Around.frames_deeper e0.frames,.inr ⟨rfl,rfl⟩,fun b z=>absurd z (noA b),e0.bs,e0.bsz,fun b _ _=>noA b,fun b z=>absurd z (noA b),e0.funs,e0.frf⟩,
  rfl,e0.bare,Un.kept hk,⟨_,x.toInCall.ns,fun i y v h1 h2 h3=>?_⟩,fun y c h=>⟨_,x.cell y c h⟩,e0.hok.fresh (a0m _),fun y c h=>?_,fun p hp=>absurd (show p∈([]:List (Addr×Obj)) from hp) (by simp),e0.hok.kept hk,?_⟩
 ·exact name_of_addr x.apart (a03 h1) (a03 h2)
 ·have hy:scope.names.lookup y=some .cell\/scope.names.lookup y=some .free:=hy
  rcases hy with hy | hy
  ·exact jc hy
  ·exact absurd rfl (S.nofree _ (a03 hy))
 ·exact a1Z (x.above y c (a03 h))
 ·have hi:i < vs.length:=by
   unfold start at h2
   by_cases hi:i < vs.length
   ·exact hi
   ·rw [a0B (by simpa using hi)] at h2
    rw [a0Z] at h2
    split at h2<;>cases h2
  have ha:vs[i]?=some v:=by
   unfold start at h2
   rw [a0Q (by simpa using hi),a0s] at h2
   cases e:vs[i]? with
   | none=>rw [e] at h2; cases h2
   | some a=>rw [e] at h2; cases h2; rfl
  obtain ⟨u,hu,rv⟩:=r.get ha
  have hp:ps[i]?=some y:=by
   rw [<- S.pre,List.getElem?_take_of_lt (by omega)]; exact h1
  have ndP:ps.Nodup:=by rw [<- S.pre]; exact S.nd.sublist (a2Y _ _)
  refine ⟨u,rv,?_⟩
  rcases S.par y (a0J hp) with k | k
  ·exact .inl ⟨k,gU ndP hp hu k⟩
  ·obtain ⟨c,e⟩:=jc (n:=s.heap.objs.size+1) k
   refine .inr ⟨.inl k,c,e,?_⟩
   have q:=x.cell y c e
   rw [gD ndP hp hu (by show scope.names.lookup y≠_; rw [k]; decide)] at q
   exact q
 ·exact e0.hok.fresh (a1Z (x.above y c (a03 h)))
 ·unfold start
  show _=N.length
  rw [a0l,a0b,a0H]
  omega
theorem D1 {CX:CXT}{P:Program}{w:World}{K:a0a}{mg:Str->Option Value}{base:Heap}{k:Nat}{f:Addr}{name qual:Str}{params:Arguments}{body:List Stmt}{scope:Scope}{dV kV doc pm cdv ct oc:Value}{an od:Option Addr}
  {osl:Array (Option Value)} {N ps:List Str} {sp:Sp} (lk:K.lookup f=some ⟨oc,od,.func (a1g name qual params body scope dV kV doc pm an cdv ct),osl⟩) (hcd:a19 K cdv qual=true) (S:ay N ps scope)
  (len:∀ vs H Q E,sp vs H Q E->vs.length=ps.length)
  (hbody:∀ (A:Around) (outer:List Env) (s:Shared) (H:Hp) (vs:List V) (Q:VK) (E:XK),Room k (A.deeper (envOfC qual scope s.heap.objs.size f cdv))->sp vs H Q E ->
   ∃ t,PSs (il CX P w K mg base N qual scope f cdv A outer s H E) body t/\t { nx:=fun _ H'=>Q .non H',rt:=Q } (start N vs) H) :
  dJ P w K mg base CX (k+1) f (a1g name qual params body scope dV kV doc pm an cdv ct) ps sp:=by
 refine ⟨len,fun A outer s H args us vs Q E hr e0 hb r hsp=>?_⟩
 have hl:=len _ _ _ _ hsp
 have KX:K.In s.heap:=e0.mod.kin.keeps fun b o e=>(e0.bs b o e).1
 have lim:s.heap.NoLimit:=e0.mod.nolimit.keeps fun b o e=>(e0.bs b o e).1
 have hkind:∀ y∈ps.zip us,scope.names.lookup y.1=some .local\/(scope.names.lookup y.1=some .cell/\((cellsFrom (s.heap.objs.size+1) scope.names []).lookup y.1).isSome=true):=fun ⟨n,v⟩ hy=>by
  rcases S.par n (a1k hy).1 with q | q
  ·exact .inl q
  ·exact .inr ⟨q,a2u _ _ _ (.inl q)⟩
 refine codeAny_call_function hr.depth (KX _ _ lk) rfl S.co S.gen rfl (PySem.W.codeRec_of KX hcd) (hb _ _ _ _ ?_)
 refine wpAny_newFunctionEnv_cells S.kind hkind fun env he s1 x=>?_
 subst he
 refine ⟨lim.keeps x.toInCall.keep,codeAny_func ?_⟩
 obtain ⟨t,ht,hq⟩:=hbody A outer s H vs Q E (hr.deeper _) hsp
 have I:Inv (il CX P w K mg base N qual scope f cdv A outer s H E) [] (start N vs) H s1:=nG S hr.hd e0 hl r x
 refine wpAny_mono (ht [] s1 (start N vs) H _ I hq) (fun fl s' hs=>?_) fun e s' hs=>hs
 have fin:∀ {σ':St} {H':Hp} {v:V} {u:Value},Inv (il CX P w K mg base N qual scope f cdv A outer s H E) [] σ' H' s'->RelV v u->Q v H'->CE outer P w H s Q u s' :=
  fun {σ' H' v u} J rv q=>⟨v,H',J.os,J.bare,J.base,J.hok,rv,q⟩
 cases fl with
 | ret u =>
  obtain ⟨v,σ',H',J,rv,q⟩:=hs
  exact fin J rv q
 | next =>
  obtain ⟨σ',H',J,q⟩:=hs
  exact fin (v:=V.non) (u:=Value.none) J rfl q
 | brk =>
  obtain ⟨_,_,_,q⟩:=hs
  exact a1n q
 | cont =>
  obtain ⟨_,_,_,q⟩:=hs
  exact a1n q
end L2
namespace L2
open PySem PySem.Spec PyProof.Rows
section
variable {X:Cx}{x:Str}{p pos:Pos}{e:Expr}{es:List Expr}{t:TA}{id T:String}{r:List V->Hp->VK->Prop}
noncomputable def tCB (r:List V->Hp->VK->Prop)(t:TA):TE:=fun σ H Q=>t σ H fun vs H1=>r vs H1 Q
theorem ba (hc:bI X (.builtin id) r)(hg:Gl X x)(hm:X.mg x=none)(hv:bootBuiltins x=some (.builtin id))(ha:PA X (e::es) t)(hn:x≠"__name__":=by decide)(hdb:(x==("__debug__":Str))=false:=by decide)
  (he:starEach (e::es) X.env=(false,eval e X.env)::starEach es X.env:=by rfl) (hpl:(backTo pos (starEach es X.env)).any (·.1)=false:=by rfl):PE X (.Call (.Name x p) (e::es) [] pos) (tCB r t):=by
 intro pins s σ H Q I h
 refine wpAny_Call_Name_kw (cX I hg hm hv ?_ hn hdb)
 exact a22 (thn (ha pos pins s σ H _ I h) fun us s1 ⟨vs,H1,I1,r1,q1⟩=>hc pins s1 σ H1 vs us Q I1 r1 q1) he hpl
theorem cp (hc:bI X (.type T) r)(hg:Gl X x)(hm:X.mg x=none)(hv:bootBuiltins x=some (.type T))(ha:PA X (e::es) t)(hn:x≠"__name__":=by decide)(hdb:(x==("__debug__":Str))=false:=by decide)
  (he:starEach (e::es) X.env=(false,eval e X.env)::starEach es X.env:=by rfl) (hpl:(backTo pos (starEach es X.env)).any (·.1)=false:=by rfl):PE X (.Call (.Name x p) (e::es) [] pos) (tCB r t):=by
 intro pins s σ H Q I h
 refine wpAny_Call_Name_kw (cX I hg hm hv ?_ hn hdb)
 exact a0X (thn (ha pos pins s σ H _ I h) fun us s1 ⟨vs,H1,I1,r1,q1⟩=>hc pins s1 σ H1 vs us Q I1 r1 q1) he hpl
end
end L2
namespace HT
open PySem PyProof.Rows
section
variable {prog:Program}{w:World}{A:Around}{E:Value->Shared->Prop}{s:Shared}
theorem cat_tup {t b:Addr}{vs ws:List Value}{Q:Value->Shared->Prop}(ht:IsTup s.heap t vs.toArray)(hb:IsTup s.heap b ws.toArray)(hv:vs≠[])
  (h1:ws=[]->Q (.ref t) s) (h2:ws≠[]->Q (.ref s.heap.objs.size) { s with heap:=s.heap.push { cls:=.type "tuple",data:=.seq (vs++ws).toArray } })
  (hsz:vs.length+ws.length<=sizeLine):wpAny (model prog w) A (binaryOp .Add (.ref t) (.ref b)) Q E s:=by
 obtain ⟨⟨cls,dd,data,sl⟩,ho,hc,n,hd⟩:=id ht
 obtain ⟨⟨cls2,dd2,data2,sl2⟩,ho2,hc2,n2,hd2⟩:=id hb
 simp only at hc hd hc2 hd2
 subst hc hd hc2 hd2
 have e:vs.toArray++ws.toArray=(vs++ws).toArray:=by simp
 by_cases hw:ws=[]
 ·exact concat_meets ⟨_,ho,rfl⟩ ⟨_,ho2,rfl⟩ noFill_tuple_add seq_tuple_add a2v a2j (a2d _ _)
   (tuple_addW1 t b vs.toArray ws.toArray n n2 dd dd2 sl sl2 (by simpa using hv) (by simp [hw])) ⟨ho,ho2,h1 hw⟩
 ·refine concat_meets ⟨_,ho,rfl⟩ ⟨_,ho2,rfl⟩ noFill_tuple_add seq_tuple_add a2v a2j (a2d _ _)
   (tuple_addW2 t b vs.toArray ws.toArray n n2 dd dd2 sl sl2 (by simpa using hv) (by simpa using hw) (by rw [a0n,a0n]; exact hsz)) ⟨ho,ho2,?_⟩
  rw [e]
  exact h2 hw
noncomputable def sIx (n d:Nat):Option Int->Nat
 | none=>d
 | some v=>if v < 0 then (v+(n:Int)).toNat else min v.toNat n
theorem xY (n d:Nat)(hd:d<=n)(o:Option Int):sIx n d o<=n:=by
 cases o with
 | none=>exact hd
 | some v =>
  show (if v < 0 then (v+(n:Int)).toNat else min v.toNat n)<=n
  by_cases hv:v < 0
  ·rw [if_pos hv]; omega
  ·rw [if_neg hv]; exact Nat.min_le_right _ _
theorem mw (v:Int)(n d:Nat):(if v < 0 then max (v+(n:Int)) 0 else min v (n:Int))=((sIx n d (some v):Nat):Int):=by
 show (if v < 0 then max (v+(n:Int)) 0 else min v (n:Int))=(((if v < 0 then (v+(n:Int)).toNat else min v.toNat n):Nat):Int)
 by_cases hv:v < 0
 ·simp only [if_pos hv]; omega
 ·simp only [if_neg hv]; omega
theorem kF (lo hi:Option Int)(n:Nat):Builtin.Slice.sliceAdjust lo hi 1 (n:Int)=(((sIx n 0 lo:Nat):Int),((sIx n n hi:Nat):Int)):=by
 have h1:¬ ((1:Int) < 0):=by omega
 unfold Builtin.Slice.sliceAdjust
 simp only [h1,if_false]
 refine Prod.ext ?_ ?_
 ·cases lo with
  | none=>rfl
  | some v=>exact mw v n 0
 ·cases hi with
  | none=>rfl
  | some v=>exact mw v n n
theorem kW (i j:Nat):Builtin.Slice.slicePlaces (i:Int) (j:Int) 1=j-i:=by
 unfold Builtin.Slice.slicePlaces
 have h1:(1:Int) > 0:=by omega
 simp only [h1,if_true,Int.ediv_one]
 split<;>omega
theorem fg {v:Value}{o:Option Int}{Q:Option Int->Shared->Prop}(p:IsPart v o)(h:Q o s):wpAny (model prog w) A (Builtin.Slice.slicePartIndex v) Q E s:=by
 cases p with
 | none=>exact slicePart_none h
 | int i t=>exact slicePart_int h
theorem sliceApplied_gen {sl:Addr}{vl vu:Value}{lo hi:Option Int}{n:Nat}{Q:Int×Int×Nat->Shared->Prop}(hs:s.heap.IsSliceOf sl vl vu .none)(pl:IsPart vl lo)(pu:IsPart vu hi)
  (h:Q (((sIx n 0 lo:Nat):Int),1,sIx n n hi-sIx n 0 lo) s):wpAny (model prog w) A (Builtin.Slice.sliceApplied (.ref sl) (pure (n:Int))) Q E s:=by
 obtain ⟨os,hos,hcs,hds⟩:=id hs
 unfold Builtin.Slice.sliceApplied Builtin.Slice.sliceFields
 refine wpAny_bind (wpAny_bind (wpAny_field hos hds (x:=vl) rfl (wpAny_bind (wpAny_field hos hds (x:=vu) rfl (wpAny_bind (wpAny_field hos hds (x:=.none) rfl (wpAny_pure ?_)))))))
 refine wpAny_bind (slicePart_none ?_)
 show wpAny _ _ (if ((1:Int)==0)=true then _ else _) _ _ s
 rw [if_neg (by decide)]
 refine wpAny_bind (fg pl (wpAny_bind (fg pu (wpAny_bind (wpAny_pure ?_)))))
 show wpAny _ _ (match Builtin.Slice.sliceAdjust lo hi 1 (n:Int) with | (lo,hi)=>pure (lo,(1:Int),Builtin.Slice.slicePlaces lo hi 1)) _ _ s
 rw [kF lo hi n]
 show wpAny _ _ (pure (((sIx n 0 lo:Nat):Int),(1:Int),Builtin.Slice.slicePlaces ((sIx n 0 lo:Nat):Int) ((sIx n n hi:Nat):Int) 1)) _ _ s
 rw [kW]
 exact wpAny_pure h
theorem rH (xs:Array Value)(i k:Nat):((a0k k).filterMap fun (m:Nat)=>xs[((i:Int)+(m:Int) * 1).toNat]?).toArray=((xs.toList.drop i).take k).toArray:=by
 have e:(fun (m:Nat)=>xs[((i:Int)+(m:Int) * 1).toNat]?)=fun m=>xs[i+m]?:=by
  funext m
  have:((i:Int)+(m:Int) * 1).toNat=i+m:=by omega
  rw [this]
 rw [e]
 have:=pick_run xs i k
 rw [List.filterMap_map] at this
 have e2:((fun x=>xs[x]?) ∘ fun x=>i+x)=fun m=>xs[i+m]?:=rfl
 rw [e2] at this
 rw [this]
theorem getItem_tuple_cut {t sl:Addr}{items:Array Value}{vl vu:Value}{lo hi:Option Int}{Q:Value->Shared->Prop}(ht:IsTup s.heap t items)(hs:s.heap.IsSliceOf sl vl vu .none)(pl:IsPart vl lo)(pu:IsPart vu hi)
  (hw:¬ (sIx items.size 0 lo=0/\sIx items.size items.size hi=items.size))
  (h:Q (.ref s.heap.objs.size) { s with heap:=s.heap.push { cls:=.type "tuple",data:=.seq ((items.toList.drop (sIx items.size 0 lo)).take (sIx items.size items.size hi-sIx items.size 0 lo)).toArray } })
  (hsz:items.size<=sizeLine):wpAny (model prog w) A (getItem (.ref t) (.ref sl)) Q E s:=by
 have htake:sizeOk (.seq ((items.toList.drop (sIx items.size 0 lo)).take (sIx items.size items.size hi-sIx items.size 0 lo)).toArray):=by
  show ((items.toList.drop (sIx items.size 0 lo)).take (sIx items.size items.size hi-sIx items.size 0 lo)).toArray.size<=sizeLine
  rw [a0n,a1t,a1O,a0V]
  omega
 have hj:sIx items.size items.size hi<=items.size:=xY _ _ (a0m _) hi
 obtain ⟨os,hos,hcs,hds⟩:=id hs
 have hTs:s.TypeIs (.ref sl) "slice":=⟨os,hos,hcs⟩
 unfold getItem
 try with_reducible refine wpAny_holding ?_
 first | refine wpAny_bind (wpAny_pure ?_) | skip
 refine wpAny_bind (wpAny_sequenceKey ht.typeIs (by decide) ?_)
 refine wpAny_bind (wpAny_callSpecial?_slot (name:=Str.ofString "__getitem__") ht.typeIs a0L
  (wpAny_call_entry a0L ht.typeIs entry_tuple_getitem ?_ (args_tuple_getitem _ _)))
 show wpAny _ _ (Builtin.Tuple.tupleItemsOf (.ref t) >>= _) _ _ s
 refine wpAny_bind (tupleItemsOf_ ht ?_)
 refine wpAny_bind (wpAny_typeOf hTs ?_)
 rw [if_pos (by decide)]
 refine wpAny_bind (sliceApplied_gen hs pl pu ?_)
 have hno:¬ ((((sIx items.size 0 lo:Nat):Int)==0&&(1:Int)==1&&(sIx items.size items.size hi-sIx items.size 0 lo)==items.size)=true):=by
  intro q
  rw [a0j,a0j] at q
  have q1:((sIx items.size 0 lo:Nat):Int)=0:=eq_of_beq q.1.1
  have q2:sIx items.size items.size hi-sIx items.size 0 lo=items.size:=eq_of_beq q.2
  exact hw ⟨by omega,by omega⟩
 show wpAny _ _ (if (((sIx items.size 0 lo:Nat):Int)==0&&(1:Int)==1&&(sIx items.size items.size hi-sIx items.size 0 lo)==items.size)=true then _ else _) _ _ s
 rw [if_neg hno,rH]
 first
  | exact wpAny_bind (m:=Builtin.Tuple.tupleExact _) (wpAny_newObj_type (wpAny_pure ⟨_,rfl,wpAny_pure h⟩) htake)
  | exact wpAny_bind (m:=Builtin.Tuple.tupleExact _) (wpAny_newObj_type (wpAny_bind (wpAny_pure (wpAny_pure ⟨_,rfl,wpAny_pure h⟩))) htake)
  | exact wpAny_bind (wpAny_bind (m:=Builtin.Tuple.tupleExact _) (wpAny_newObj_type (wpAny_pure (wpAny_pure ⟨_,rfl,wpAny_pure h⟩)) htake))
  | exact wpAny_bind (wpAny_bind (m:=Builtin.Tuple.tupleExact _) (wpAny_newObj_type (wpAny_pure ⟨_,rfl,wpAny_pure h⟩) htake))
end
end HT
namespace L2
open PySem PySem.Spec PyProof.Rows
noncomputable abbrev TO:=St->Hp->(Option Int->Hp->Prop)->Prop
noncomputable def PO (X:Cx)(e:Option Expr)(t:TO):Prop :=
 ∀ (pins:List (Addr×Obj)) (s:Shared) (σ:St) (H:Hp) (Q:Option Int->Hp->Prop),Inv X pins σ H s->t σ H Q ->
  wpAny (model X.prog X.w) X.A (evalPart e X.env) (fun u s'=>∃ o H',Inv X pins σ H' s'/\IsPart u o/\Q o H') X.xe s
noncomputable def wF:TO:=fun _ H Q=>Q none H
noncomputable def Ei (t:TE):TO:=fun σ H Q=>t σ H fun x H1=>∃ i,x=.int i/\Q (some i) H1
section
variable {X:Cx}{e:Expr}{te:TE}{lo hi:Option Expr}{tl th:TO}{pos p2:Pos}
theorem lX:PO X none wF:=by
 intro pins s σ H Q I h
 rw [evalPart_none]
 exact wpAny_pure ⟨none,H,I,.none,h⟩
theorem mq (h:PE X e te):PO X (some e) (Ei te):=by
 intro pins s σ H Q I hw
 rw [evalPart_some]
 refine thn (h pins s σ H _ I hw) fun u s1 ⟨x,H1,I1,r1,q1⟩=>?_
 obtain ⟨i,rfl,q⟩:=q1
 obtain ⟨t,rfl⟩:=r1
 exact ⟨some i,H1,I1,.int i t,q⟩
noncomputable def SlR (X:Cx)(r:V->Option Int->Option Int->Hp->VK->Prop):Prop :=
 ∀ (pins:List (Addr×Obj)) (s:Shared) (σ:St) (H:Hp) (x:V) (v vl vu:Value) (lo hi:Option Int) (sl:Addr) (Q:VK),Inv X pins σ H s->RelV x v->s.heap.IsSliceOf sl vl vu .none->IsPart vl lo->IsPart vu hi->r x lo hi H Q ->
  ∃ T id,typeLookup (.type T) "__getitem__"=pure (some (.builtin id))/\s.TypeIs v T/\wpAny (model X.prog X.w) X.A (getItem v (.ref sl)) (EP X pins σ Q) X.xe s
theorem SlR.or {r r':V->Option Int->Option Int->Hp->VK->Prop}(h:SlR X r)(h':SlR X r'):SlR X (fun x lo hi H Q=>r x lo hi H Q\/r' x lo hi H Q):=by
 intro pins s σ H x v vl vu lo hi sl Q I rx hs pl pu q
 rcases q with q | q
 ·exact h pins s σ H x v vl vu lo hi sl Q I rx hs pl pu q
 ·exact h' pins s σ H x v vl vu lo hi sl Q I rx hs pl pu q
noncomputable def tSl (r:V->Option Int->Option Int->Hp->VK->Prop)(te:TE)(tl th:TO):TE:=fun σ H Q=>te σ H fun x H1=>tl σ H1 fun l H2=>th σ H2 fun u H3=>r x l u H3 Q
theorem jA {r:V->Option Int->Option Int->Hp->VK->Prop}(hr:SlR X r)(he:PE X e te)(hl:PO X lo tl)(hu:PO X hi th):PE X (.Subscript e (.Slice lo hi none p2) pos) (tSl r te tl th):=by
 intro pins s σ H Q I h
 refine Subscript_ (thn (he pins s σ H _ I h) fun v s1 ⟨x,H1,I1,r1,q1⟩=>?_)
 refine wpAny_Slice (thn (hl pins s1 σ H1 _ I1 q1) fun vl s2 ⟨l,H2,I2,pl,q2⟩=>thn (hu pins s2 σ H2 _ I2 q2) fun vu s3 ⟨u,H3,I3,pu,q3⟩=>?_)
 rw [evalPart_none]
 refine wpAny_pure ?_
 have I4:Inv X pins σ H3 { s3 with heap:=s3.heap.push { cls:=.type "slice",data:=.fields #[vl,vu,.none] } }:=I3.kept (t':=s3.toks) fun b ob q=>Heap.get?_push_of_some _ q
 obtain ⟨T,id,hT,ht,hg⟩:=hr pins { s3 with heap:=s3.heap.push { cls:=.type "slice",data:=.fields #[vl,vu,.none] } } σ H3 x v vl vu l u s3.heap.objs.size Q I4 r1 (Heap.IsSliceOf.new ..) pl pu q3
 show wpAny (model X.prog X.w) X.A (subscriptTail e (.Slice lo hi none p2) v (.ref s3.heap.objs.size)) (EP X pins σ Q) X.xe { s3 with heap:=s3.heap.push { cls:=.type "slice",data:=.fields #[vl,vu,.none] } }
 exact tail_any (ops:=[.ref s3.heap.objs.size,v]) ht hT hg (by with_unfolding_all rfl)
noncomputable def eg (xs:List V)(lo hi:Option Int):List V:=(xs.drop (HT.sIx xs.length 0 lo)).take (HT.sIx xs.length xs.length hi-HT.sIx xs.length 0 lo)
theorem bX (xs:List V)(lo hi:Option Int):(eg xs lo hi).length<=xs.length:=by
 unfold eg
 rw [a1t,a1O]
 omega
noncomputable def FD (K:a0a):V->Option Int->Option Int->Hp->VK->Prop:=fun x lo hi H Q=>∃ a xs,x=.ref a/\SqT K H a xs /\
 ¬ (HT.sIx xs.length 0 lo=0/\HT.sIx xs.length xs.length hi=xs.length)/\∀ p,H p=none->Q (.ref p) (upd H p (.tup (eg xs lo hi)))
theorem AA:SlR X (FD X.K):=by
 intro pins s σ H x v vl vu lo hi sl Q I rx hs pl pu h
 obtain ⟨a,xs,rfl,hx,hw,q⟩:=h
 cases rx
 obtain ⟨its,r,ht,hz⟩:=I.tuple hx
 have hlen:its.toArray.size=xs.length:=by rw [a0n]; exact r.length.symm
 refine ⟨"tuple",_,a0L.lookup,ht.typeIs,?_⟩
 refine HT.getItem_tuple_cut ht hs pl pu (by rw [hlen]; exact hw) ?_ (by rw [hlen]; exact hz)
 rw [hlen]
 refine ⟨.ref s.heap.objs.size,_,I.laid (t':=s.toks) (o:=.tup (eg xs lo hi)) (fun b ob q=>Heap.get?_push_of_some _ q) (a0m _) ?_,rfl,q _ (I.hok.fresh (a0m _))⟩
 exact ⟨a0y (bX xs lo hi) hz,_,(r.drop (HT.sIx xs.length 0 lo)).take (HT.sIx xs.length xs.length hi-HT.sIx xs.length 0 lo),IsTup.new _ _⟩
noncomputable def CN (K:a0a):R2:=fun x y H Q=>∃ a b xs ys,x=.ref a/\y=.ref b/\SqT K H a xs/\SqT K H b ys/\xs≠[]/\xs.length+ys.length<=sizeLine /\
 (ys=[]->Q (.ref a) H)/\(ys≠[]->∀ p,H p=none->Q (.ref p) (upd H p (.tup (xs++ys))))
theorem Vals.nil_iff {xs:List V}{us:List Value}(r:Vals xs us):us=[] ↔ xs=[]:=by
 cases r with
 | nil=>simp
 | cons _ _=>simp
theorem vI:OpR X (binaryOp .Add) (CN X.K):=by
 intro pins s σ H x y v u Q I rx ry h
 obtain ⟨a,b,xs,ys,rfl,rfl,ha,hb,hx,hz,q1,q2⟩:=h
 cases rx
 cases ry
 obtain ⟨its,r1,p1,_⟩:=I.tuple ha
 obtain ⟨its2,r2,p2,_⟩:=I.tuple hb
 refine HT.cat_tup p1 p2 (fun z=>hx (r1.nil_iff.mp z)) (fun z=>⟨.ref a,H,I,rfl,q1 (r2.nil_iff.mp z)⟩) (fun z=>?_) (by rw [<- r1.length,<- r2.length]; exact hz)
 refine ⟨.ref s.heap.objs.size,_,I.laid (t':=s.toks) (o:=.tup (xs++ys)) (fun b ob q=>Heap.get?_push_of_some _ q) (a0m _) ?_,rfl,q2 (fun w=>z (r2.nil_iff.mpr w)) _ (I.hok.fresh (a0m _))⟩
 exact ⟨by rw [a0l]; exact hz,_,r1.append r2,IsTup.new _ _⟩
end
end L2
namespace L2
open PySem PySem.Spec PyProof.Rows
noncomputable def ixN (n:Nat)(i:Int):Option Nat:=if 0<=i then (if i < n then some i.toNat else none) else if -(n:Int)<=i then some (i+n).toNat else none
noncomputable def atI {α:Type}(xs:List α)(i:Int):Option α:=(ixN xs.length i).bind fun j=>xs[j]?
theorem l6 {n:Nat}{i:Int}{j:Nat}(h:ixN n i=some j):seqIndex? i n=some j/\j < n/\-(n:Int)<=i/\i < n:=by
 unfold ixN at h
 by_cases h0:0<=i
 ·rw [if_pos h0] at h
  by_cases h1:i < n
  ·rw [if_pos h1] at h
   have e:i.toNat=j:=a0t h
   exact ⟨by rw [seqIndex_of h0 h1,e],by omega,by omega,h1⟩
  ·rw [if_neg h1] at h; cases h
 ·rw [if_neg h0] at h
  by_cases h1:-(n:Int)<=i
  ·rw [if_pos h1] at h
   have e:(i+n).toNat=j:=a0t h
   exact ⟨by rw [seqIndex_neg (by omega) h1,e],by omega,h1,by omega⟩
  ·rw [if_neg h1] at h; cases h
theorem i4 {α:Type}{xs:List α}{i:Int}{v:α}(h:atI xs i=some v):∃ j,seqIndex? i xs.length=some j/\xs[j]?=some v/\j < xs.length/\-(xs.length:Int)<=i/\i < xs.length:=by
 unfold atI at h
 cases e:ixN xs.length i with
 | none=>rw [e] at h; cases h
 | some j =>
  rw [e] at h
  obtain ⟨h1,h2,h3,h4⟩:=l6 e
  exact ⟨j,h1,h,h2,h3,h4⟩
noncomputable def iB (b:Expr):Prop:=∀ o i,subscripted b false o i=operate [o,i] (getItem o i)
noncomputable def IxR (X:Cx)(r:R2):Prop :=
 ∀ (value slice:Expr) (pins:List (Addr×Obj)) (s:Shared) (σ:St) (H:Hp) (x y:V) (v u:Value) (Q:VK),Inv X pins σ H s->RelV x v->RelV y u->r x y H Q ->
  subscripted slice false v u=operate [v,u] (getItem v u)->wpAny (model X.prog X.w) X.A (subscriptTail value slice v u) (EP X pins σ Q) X.xe s
noncomputable def MtR (X:Cx)(id:String)(r:V->List V->Hp->VK->Prop):Prop :=
 ∀ (pins:List (Addr×Obj)) (s:Shared) (σ:St) (H:Hp) (x:V) (xs:List V) (v:Value) (us:List Value) (Q:VK),Inv X pins σ H s->RelV x v->Vals xs us->r x xs H Q ->
  wpAny (model X.prog X.w) X.A (call (.builtin id) (v::us)) (EP X pins σ Q) X.xe s
section
variable {X:Cx}{a b:Expr}{ta tb:TE}{pos:Pos}
theorem IxR.or {r r':R2}(h:IxR X r)(h':IxR X r'):IxR X (fun x y H Q=>r x y H Q\/r' x y H Q):=by
 intro value slice pins s σ H x y v u Q I rx ry q hs
 rcases q with q | q
 ·exact h value slice pins s σ H x y v u Q I rx ry q hs
 ·exact h' value slice pins s σ H x y v u Q I rx ry q hs
theorem xG {r:R2}(hr:IxR X r)(ha:PE X a ta)(hb:PE X b tb)(hs:iB b):PE X (.Subscript a b pos) (tOp r ta tb):=by
 intro pins s σ H Q I h
 exact Subscript_ (yY ha hb I h fun v u s2 x y H2 I2 rx ry q=>hr a b pins s2 σ H2 x y v u Q I2 rx ry q (hs _ _))
noncomputable def E3 (K:a0a):R2:=fun x y H Q=>∃ p xs i v,x=.ref p/\y=.int i/\SqL K H p xs/\atI xs i=some v/\Q v H
noncomputable def Fi (K:a0a):R2:=fun x y H Q=>∃ p xs i v,x=.ref p/\y=.int i/\SqT K H p xs/\atI xs i=some v/\Q v H
noncomputable def EY:R2:=fun x y H Q=>∃ z i c,x=.str z/\y=.int i/\z.length<=sizeLine/\atI z.cps.toList i=some c/\Q (.str ⟨#[c]⟩) H
theorem vP:IxR X (E3 X.K):=by
 intro value slice pins s σ H x y v u Q I rx ry h hs
 obtain ⟨p,xs,i,z,rfl,rfl,hq,he,q⟩:=h
 cases rx
 obtain ⟨t,rfl⟩:=ry
 obtain ⟨its,r,pl,hz⟩:=I.list hq
 obtain ⟨j,h1,h2,h3,h4,h5⟩:=i4 he
 obtain ⟨w,ew,rw'⟩:=r.get h2
 have hl:=r.length
 have hn:=eJ
 have fin:EP X pins σ Q w s:=⟨z,H,I,rw',q⟩
 by_cases h0:0<=i
 ·have hj:i.toNat=j:=by
   rw [seqIndex_of h0 h5] at h1
   exact a0t h1
  exact item_listR pl.isList h0 (by omega) (by rw [hj]; simpa using ew) fin hs
 ·have hj:(i+(its.toArray.size:Int)).toNat=j:=by
   rw [seqIndex_neg (by omega) h4] at h1
   rw [a0n,<- hl]
   exact a0t h1
  exact subscriptTail_builtinR (x:=w) pl.isList.typeIs slot_list_getitem.lookup
   (wpAny_getItem_list_neg (Q:=fun r s'=>r=w/\EP X pins σ Q r s') pl.isList (by omega) (by rw [a0n]<;>omega) (by omega) (by rw [hj]; simpa using ew) ⟨rfl,fin⟩) hs
theorem yg:IxR X (Fi X.K):=by
 intro value slice pins s σ H x y v u Q I rx ry h hs
 obtain ⟨p,xs,i,z,rfl,rfl,hq,he,q⟩:=h
 cases rx
 obtain ⟨t,rfl⟩:=ry
 obtain ⟨its,r,pl,hz⟩:=I.tuple hq
 obtain ⟨j,h1,h2,h3,h4,h5⟩:=i4 he
 obtain ⟨w,ew,rw'⟩:=r.get h2
 have hl:=r.length
 have hn:=eJ
 have fin:EP X pins σ Q w s:=⟨z,H,I,rw',q⟩
 exact subscriptTail_builtinR (x:=w) pl.typeIs slot_tuple_getitem.lookup
  (getItem_tuple (j:=j) (Q:=fun r s'=>r=w/\EP X pins σ Q r s') pl (by omega) (by omega) (by rw [a0n,<- hl]; exact h1) (by simpa using ew) ⟨rfl,fin⟩) hs
theorem z0:IxR X EY:=by
 intro value slice pins s σ H x y v u Q I rx ry h hs
 obtain ⟨z,i,c,rfl,rfl,hz,he,q⟩:=h
 obtain ⟨t,rfl⟩:=rx
 obtain ⟨t',rfl⟩:=ry
 obtain ⟨j,h1,h2,h3,h4,h5⟩:=i4 he
 have hl:z.cps.toList.length=z.length:=by simp [Str.length]
 rw [hl] at h1 h4 h5
 have hn:=eJ
 exact tail_any (typeIs_str s z t) slot_str_getitem.lookup (getItem_str (c:=c) (by
  have e1:decide (i < -(2 ^ 63:Int))=false:=decide_eq_false (by omega)
  have e2:decide (i >= 2 ^ 63)=false:=decide_eq_false (by omega)
  rw [e1,e2,Bool.or_false]) (by rw [h1]; simpa using h2) ⟨.str ⟨#[c]⟩,H,I.tok _,⟨_,rfl⟩,q⟩) hs
theorem lh (its:List Value)(n j:Nat)(u:Value):Obj.mapSeq (·.setIfInBounds j u) { cls:=.type "list",data:=.seq its.toArray n }={ cls:=.type "list",data:=.seq (its.set j u).toArray n }:=by
 simp [Obj.mapSeq]
theorem Inv.lst {pins:List (Addr×Obj)}{σ:St}{H:Hp}{s:Shared}{p:Addr}{xs:List V}(I:Inv X pins σ H s)(h:H p=some (.lst xs)) :
  ∃ (its:List Value) (n:Nat),Vals xs its/\s.heap.get? p=some { cls:=.type "list",data:=.seq its.toArray n }/\xs.length<=sizeLine:=by
 obtain ⟨z,its,n,r,e⟩:=I.hok p _ h
 exact ⟨its,n,r,e,z⟩
theorem Inv.lstUpd {pins:List (Addr×Obj)}{σ:St}{H:Hp}{s:Shared}{p:Addr}{xs ys:List V}{its its':List Value}{n n':Nat}{f:Obj->Obj}(I:Inv X pins σ H s)(h:H p=some (.lst xs))
  (ho:s.heap.get? p=some { cls:=.type "list",data:=.seq its.toArray n }) (hf:f { cls:=.type "list",data:=.seq its.toArray n }={ cls:=.type "list",data:=.seq its'.toArray n' }) (r:Vals ys its') (hz:ys.length<=sizeLine) (t:Nat) :
  Inv X pins σ (upd H p (.lst ys)) { s with heap:=s.heap.update p f,toks:=t }:=by
 have e:(s.heap.update p f).get? p=some { cls:=.type "list",data:=.seq its'.toArray n' }:=by
  rw [Heap.get?_update_self f ho (by rw [hf]<;>rfl),hf]
 refine I.write (x:=p) (e:=p) (by rw [h]; trivial) (.inl rfl) (fun b u hb q=>(Heap.get?_update_other _ _ (a18 hb)).trans q) ⟨_,e⟩ ?_
 exact ⟨hz,its',n',r,e⟩
noncomputable def Cm:V->V->V->Hp->(Hp->Prop)->Prop:=fun o i v H Q=>∃ p xs k j,o=.ref p/\i=.int k/\H p=some (.lst xs)/\ixN xs.length k=some j/\Q (upd H p (.lst (xs.set j v)))
theorem sX:CZ X Cm:=by
 intro pins s σ H o i v ov iv u Q I ro ri rv h
 obtain ⟨p,xs,k,j,rfl,rfl,hp,hj,q⟩:=h
 cases ro
 obtain ⟨t,rfl⟩:=ri
 obtain ⟨its,n,r,ho,hz⟩:=I.lst hp
 obtain ⟨h1,h2,h3,h4⟩:=l6 hj
 have hl:=r.length
 have hn:=eJ
 have I':Inv X pins σ (upd H p (.lst (xs.set j v))) { s with heap:=s.heap.update p (Obj.mapSeq (·.setIfInBounds j u)) } :=
  I.lstUpd hp ho (lh its n j u) (r.set rv j) (by rw [a05]; exact hz) s.toks
 by_cases h0:0<=k
 ·have hk:k.toNat=j:=by
   rw [seqIndex_of h0 h4] at h1
   exact a0t h1
  exact PySem.W.ki_setAt ho h0 (by omega) (by rw [a0n,<- hl]; exact h4) (by rw [hk]; exact ⟨_,I',q⟩)
 ·have hk:(k+(its.toArray.size:Int)).toNat=j:=by
   rw [seqIndex_neg (by omega) h3] at h1
   rw [a0n,<- hl]
   exact a0t h1
  exact PySem.W.ki_setBack ho (by omega) (by rw [a0n,<- hl]; exact h3) (by omega) (by rw [hk]; exact ⟨_,I',q⟩)
theorem iG (lo hi:Option Int)(n:Nat):(sliceBounds lo hi none n).1=((HT.sIx n 0 lo:Nat):Int)/\(sliceBounds lo hi none n).2.1=((HT.sIx n n hi:Nat):Int)/\(sliceBounds lo hi none n).2.2=1:=by
 refine ⟨?_,?_,rfl⟩
 ·cases lo with
  | none=>simp [sliceBounds,HT.sIx]
  | some i =>
   simp only [sliceBounds,HT.sIx,a3a,show (1:Int) > 0 by decide,if_true]
   by_cases h:i < 0
   ·simp only [h,if_true]<;>omega
   ·simp only [h,if_false]<;>omega
 ·cases hi with
  | none=>simp [sliceBounds,HT.sIx]
  | some i =>
   simp only [sliceBounds,HT.sIx,a3a,show (1:Int) > 0 by decide,if_true]
   by_cases h:i < 0
   ·simp only [h,if_true]<;>omega
   ·simp only [h,if_false]<;>omega
theorem gq (its:List Value)(lo hi:Option Int):slicePick its.toArray lo hi none=((its.drop (HT.sIx its.length 0 lo)).take (HT.sIx its.length its.length hi-HT.sIx its.length 0 lo)).toArray:=by
 obtain ⟨h1,h2,h3⟩:=iG lo hi its.toArray.size
 unfold slicePick
 rw [h1,h2,h3]
 simp only [sliceRange_one,pick_run,a0n]<;>rfl
noncomputable def va (K:a0a):V->Option Int->Option Int->Hp->VK->Prop:=fun x lo hi H Q=>∃ a xs,x=.ref a/\SqL K H a xs/\∀ p,H p=none->Q (.ref p) (upd H p (.lst (eg xs lo hi)))
theorem sl_list:SlR X (va X.K):=by
 intro pins s σ H x v vl vu lo hi sl Q I rx hs pl pu h
 obtain ⟨a,xs,rfl,hx,q⟩:=h
 cases rx
 obtain ⟨its,r,ht,hz⟩:=I.list hx
 have hlen:=r.length
 refine ⟨"list",_,slot_list_getitem.lookup,ht.isList.typeIs,?_⟩
 refine wpAny_getItem_list_slice ht.isList hs pl pu .none (by simp) ?_ (by rw [a0n]<;>omega)
 rw [gq,<- hlen]
 refine ⟨.ref s.heap.objs.size,_,I.laid (t':=s.toks) (o:=.lst (eg xs lo hi)) (fun b ob q=>Heap.get?_push_of_some _ q) (a0m _) ?_,rfl,q _ (I.hok.fresh (a0m _))⟩
 exact ⟨a0y (bX xs lo hi) hz,_,0,(r.drop (HT.sIx xs.length 0 lo)).take (HT.sIx xs.length xs.length hi-HT.sIx xs.length 0 lo),Heap.get?_push_size _ rfl⟩
noncomputable def dj:V->Bool
 | .non=>true
 | .bl _=>true
 | .int _=>true
 | .str _=>true
 | _=>false
noncomputable def eqV:V->V->Bool
 | .non,.non=>true
 | .bl a,.bl b=>a==b
 | .bl a,.int b=>(if a then 1 else 0)==b
 | .int a,.bl b=>a==(if b then 1 else 0)
 | .int a,.int b=>a==b
 | .str a,.str b=>a==b
 | _,_=>false
theorem yf {A:Around}{s:Shared}{y x:V}{u v:Value}(ry:RelV y u)(rx:RelV x v)(fy:dj y=true)(fx:dj x=true):SeqAt.EqAt A s u v (eqV y x):=by
 cases y with
 | non =>
  cases ry
  cases x with
  | non=>cases rx; exact SeqAt.EqAt.same _
  | bl b=>cases rx; exact SeqAt.EqAt.none_bool b
  | int b=>obtain ⟨t,rfl⟩:=rx; exact SeqAt.EqAt.none_int b t
  | str b=>obtain ⟨t,rfl⟩:=rx; exact SeqAt.EqAt.none_str b t
  | _=>exact absurd (show false=true from fx) a0f
 | bl a =>
  cases ry
  cases x with
  | non=>cases rx; exact SeqAt.EqAt.bool_none a
  | bl b=>cases rx; exact SeqAt.EqAt.bool_bool a b
  | int b=>obtain ⟨t,rfl⟩:=rx; exact SeqAt.EqAt.bool_int a b t
  | str b=>obtain ⟨t,rfl⟩:=rx; exact SeqAt.EqAt.bool_str a b t
  | _=>exact absurd (show false=true from fx) a0f
 | int a =>
  obtain ⟨t',rfl⟩:=ry
  cases x with
  | non=>cases rx; exact SeqAt.EqAt.int_none a t'
  | bl b=>cases rx; exact SeqAt.EqAt.int_bool a t' b
  | int b=>obtain ⟨t,rfl⟩:=rx; exact SeqAt.EqAt.int_int a t' b t
  | str b=>obtain ⟨t,rfl⟩:=rx; exact SeqAt.EqAt.int_str a t' b t
  | _=>exact absurd (show false=true from fx) a0f
 | str a =>
  obtain ⟨t',rfl⟩:=ry
  cases x with
  | non=>cases rx; exact SeqAt.EqAt.str_none a t'
  | bl b=>cases rx; exact SeqAt.EqAt.str_bool a t' b
  | int b=>obtain ⟨t,rfl⟩:=rx; exact SeqAt.EqAt.str_int a t' b t
  | str b=>obtain ⟨t,rfl⟩:=rx; exact SeqAt.EqAt.str_str a t' b t
  | _=>exact absurd (show false=true from fx) a0f
 | _=>exact absurd (show false=true from fy) a0f
noncomputable def eqU (x:V)(u:Value):Bool:=match u with
 | .none=>eqV .non x
 | .bool b=>eqV (.bl b) x
 | .int i _=>eqV (.int i) x
 | .str z _=>eqV (.str z) x
 | _=>false
theorem rj {x y:V}{u:Value}(r:RelV y u)(f:dj y=true):eqU x u=eqV y x:=by
 cases y with
 | non=>cases r; rfl
 | bl b=>cases r; rfl
 | int i=>obtain ⟨t,rfl⟩:=r; rfl
 | str z=>obtain ⟨t,rfl⟩:=r; rfl
 | _=>exact absurd (show false=true from f) a0f
theorem d5 {x:V}:∀ {xs:List V} {us:List Value},Vals xs us->xs.all dj=true->us.any (eqU x)=xs.any fun y=>eqV y x
 | _,_,.nil,_=>rfl
 | y::xs,u::us,.cons r t,f=>by
  rw [a2k,a0j] at f
  rw [a1o,a1o,rj r f.1,d5 t f.2]
theorem cW {A:Around}{s:Shared}{x:V}{v:Value}(rx:RelV x v)(fx:dj x=true):∀ {xs:List V} {us:List Value},Vals xs us->xs.all dj=true->∀ u∈us,SeqAt.EqAt A s u v (eqU x u)
 | _,_,.nil,_=>fun u hu=>by cases hu
 | y::xs,u::us,.cons r t,f=>fun u' hu=>by
  rw [a2k,a0j] at f
  rcases a0r.mp hu with rfl | hu
  ·rw [rj r f.1]; exact yf r rx f.1 fx
  ·exact cW rx fx t f.2 u' hu
noncomputable def inV (x:V)(xs:List V):Bool:=xs.any fun y=>eqV y x
noncomputable def rIn (K:a0a)(neg:Bool):R2:=fun x y H Q=>∃ p xs,y=.ref p/\(SqL K H p xs\/SqT K H p xs)/\dj x=true/\xs.all dj=true/\Q (.bl (if neg then !inV x xs else inV x xs)) H
theorem mV:OpR X (compareOp .In) (rIn X.K false):=by
 intro pins s σ H x y v u Q I rx ry h
 obtain ⟨p,xs,rfl,hq,fx,fs,q⟩:=h
 cases ry
 rcases hq with hq | hq
 ·obtain ⟨its,r,pl,hz⟩:=I.list hq
  refine SeqAt.in_listAt (eqU x) pl.isList (fun w hw=>cW rx fx r fs w (by simpa using hw)) ⟨.bl _,H,I,rfl,?_⟩
  rw [show its.toArray.any (eqU x)=its.any (eqU x) by simp,d5 r fs]
  exact q
 ·obtain ⟨its,r,pl,hz⟩:=I.tuple hq
  refine SeqAt.in_tupleAt (eqU x) pl (fun w hw=>cW rx fx r fs w (by simpa using hw)) ⟨.bl _,H,I,rfl,?_⟩
  rw [show its.toArray.any (eqU x)=its.any (eqU x) by simp,d5 r fs]
  exact q
theorem iE:OpR X (compareOp .NotIn) (rIn X.K true):=by
 intro pins s σ H x y v u Q I rx ry h
 obtain ⟨p,xs,rfl,hq,fx,fs,q⟩:=h
 cases ry
 rcases hq with hq | hq
 ·obtain ⟨its,r,pl,hz⟩:=I.list hq
  refine SeqAt.notIn_listAt (eqU x) pl.isList (fun w hw=>cW rx fx r fs w (by simpa using hw)) ⟨.bl _,H,I,rfl,?_⟩
  rw [show its.toArray.any (eqU x)=its.any (eqU x) by simp,d5 r fs]
  exact q
 ·obtain ⟨its,r,pl,hz⟩:=I.tuple hq
  refine SeqAt.notIn_tupleAt (eqU x) pl (fun w hw=>cW rx fx r fs w (by simpa using hw)) ⟨.bl _,H,I,rfl,?_⟩
  rw [show its.toArray.any (eqU x)=its.any (eqU x) by simp,d5 r fs]
  exact q
theorem ig:bI X (.type "list") (fun xs H Q=>∃ p ys,xs=[.ref p]/\(SqL X.K H p ys\/SqT X.K H p ys)/\∀ l,H l=none->Q (.ref l) (upd H l (.lst ys))):=by
 intro pins s σ H xs us Q I r h
 obtain ⟨p,ys,rfl,hq,q⟩:=h
 obtain ⟨u,rfl,rx⟩:=cf r
 cases rx
 have fin:∀ (its:List Value),Vals ys its->ys.length<=sizeLine->∀ (h':Heap) (c':Nat),(∀ b o',s.heap.get? b=some o'->h'.get? b=some o') ->
   h'.get? s.heap.objs.size=some { cls:=.type "list",dict:=none,data:=.seq its.toArray c',slots:=#[] }->EP X pins σ Q (.ref s.heap.objs.size) { s with heap:=h' }:=fun its r' hz h' c' kp e =>
  ⟨.ref s.heap.objs.size,_,I.laid (t':=s.toks) kp (a0m _) (show ObjOk X.prog X.w _ h' _ (.lst ys) from ⟨hz,its,c',r',e⟩),rfl,q _ (I.hok.fresh (a0m _))⟩
 rcases hq with hq | hq
 ·obtain ⟨its,r',pl,hz⟩:=I.list hq
  have hlen:=r'.length
  obtain ⟨o,ho,hc,n,hd⟩:=pl.isList
  exact call_list_seq p (.inl rfl) ho hc hd (fun h' c' kp e=>fin its r' hz h' c' kp e) (by simp only [a0n]<;>omega)
 ·obtain ⟨its,r',pl,hz⟩:=I.tuple hq
  have hlen:=r'.length
  obtain ⟨o,ho,hc,n,hd⟩:=pl
  exact call_list_seq p (.inr rfl) ho hc hd (fun h' c' kp e=>fin its r' hz h' c' kp e) (by simp only [a0n]<;>omega)
theorem gp:bI X (.type "tuple") (fun xs H Q=>∃ p ys,xs=[.ref p]/\((SqL X.K H p ys/\∀ l,H l=none->Q (.ref l) (upd H l (.tup ys)))\/(SqT X.K H p ys/\Q (.ref p) H))):=by
 intro pins s σ H xs us Q I r h
 obtain ⟨p,ys,rfl,h⟩:=h
 obtain ⟨u,rfl,rx⟩:=cf r
 cases rx
 rcases h with ⟨hq,q⟩ | ⟨hq,q⟩
 ·obtain ⟨its,r',pl,hz⟩:=I.list hq
  have hlen:=r'.length
  refine call_tuple_list pl.isList (fun h' kp=>?_) (by simp only [a0n]<;>omega)
  have I1:Inv X pins σ H { s with heap:=h' }:=I.kept (t':=s.toks) kp
  have I2:Inv X pins σ (upd H h'.objs.size (.tup ys)) { s with heap:=h'.push { cls:=.type "tuple",data:=.seq its.toArray } } :=
   I1.laid (t':=s.toks) (fun b o e=>Heap.get?_push_of_some _ e) (a0m _) (show ObjOk X.prog X.w _ _ _ (.tup ys) from ⟨hz,its,r',IsTup.new _ _⟩)
  exact ⟨.ref h'.objs.size,_,I2,rfl,q _ (I1.hok.fresh (a0m _))⟩
 ·obtain ⟨its,r',pl,hz⟩:=I.tuple hq
  exact call_tuple_same pl ⟨.ref p,H,I,rfl,q⟩
noncomputable def tyV (K:a0a)(T:String)(x:V)(H:Hp):Prop:=match x with
 | .str _=>T="str"
 | .int _=>T="int"
 | .ref p=>(T="list"/\∃ xs,SqL K H p xs)\/(T="tuple"/\∃ o,K.lookup p=some o/\o.cls=.type "tuple"/\o.dict=none) \/
   (T="dict"/\((∃ kvs,H p=some (.dK kvs))\/∃ kvs,H p=some (.dT kvs)))\/(T="set"/\∃ S n,H p=some (.set S n))
 | _=>False
theorem qG {pins:List (Addr×Obj)}{σ:St}{H:Hp}{s:Shared}{T:String}{x:V}{v:Value}(I:Inv X pins σ H s)(r:RelV x v)(ty:tyV X.K T x H) :
  s.TypeIs v T/\∀ a,v=.ref a->∃ ob,s.heap.get? a=some ob/\ob.dict=none:=by
 cases x with
 | str z =>
  obtain ⟨t,rfl⟩:=r
  cases (show T="str" from ty)
  exact ⟨typeIs_str s z t,fun _ e=>nomatch e⟩
 | int i =>
  obtain ⟨t,rfl⟩:=r
  cases (show T="int" from ty)
  exact ⟨typeIs_int s i t,fun _ e=>nomatch e⟩
 | ref p =>
  cases r
  rcases ty with ⟨rfl,xs,hq⟩ | ⟨rfl,o,hk,hc,hd⟩ | ⟨rfl,hk⟩ | ⟨rfl,S,n,hk⟩
  ·obtain ⟨its,_,pl,_⟩:=I.list hq
   refine ⟨pl.isList.typeIs,fun a e=>?_⟩
   cases e
   obtain ⟨o,n,e,c,hd,_⟩:=pl
   exact ⟨o,e,hd⟩
  ·refine ⟨⟨o,I.kIn p o hk,hc⟩,fun a e=>?_⟩
   cases e
   exact ⟨o,I.kIn _ o hk,hd⟩
  ·have z:∃ o,s.heap.get? p=some o/\o.ExactDict:=by
    rcases hk with ⟨kvs,hk⟩ | ⟨kvs,hk⟩
    ·obtain ⟨_,_,_,_,o,_,_,e,ex,_⟩:=I.hok p _ hk
     exact ⟨o,e,ex⟩
    ·obtain ⟨_,_,_,_,o,_,_,e,ex,_⟩:=I.hok p _ hk
     exact ⟨o,e,ex⟩
   obtain ⟨o,e,ex⟩:=z
   refine ⟨⟨o,e,ex.1⟩,fun a e2=>?_⟩
   cases e2
   exact ⟨o,e,ex.2.1⟩
  ·obtain ⟨o,_,_,_,e,ex,_⟩:=I.hok p _ hk
   refine ⟨⟨o,e,ex.1⟩,fun a e2=>?_⟩
   cases e2
   exact ⟨o,e,ex.2.1⟩
 | _=>exact a1n ty
noncomputable def FI (K:a0a)(T:String)(r:V->List V->Hp->VK->Prop)(to:TE):TE:=fun σ H Q=>to σ H fun x H1=>tyV K T x H1/\r x [] H1 Q
noncomputable def tBM (K:a0a)(T:String)(r:V->List V->Hp->VK->Prop)(to:TE)(t:TA):TE:=fun σ H Q=>to σ H fun x H1=>tyV K T x H1/\t σ H1 fun xs H2=>r x xs H2 Q
variable {o e:Expr}{es:List Expr}{to:TE}{t:TA}{name:Str}{apos cpos:Pos}{T id:String}{r:V->List V->Hp->VK->Prop}
theorem yI (pa:PlainAttrs T)(slot:Slot T name id)(hty:typeOf (.builtin id)=pure (.type "method_descriptor"))(hm:MtR X id r)(ho:PE X o to)
  (hbase:attributeBase o name X.env (eval o X.env)=eval o X.env:=by rfl) (hline:(apos.endLine==cpos.line)=true:=by rfl):PE X (.Call (.Attribute o name apos) [] [] cpos) (FI X.K T r to):=by
 intro pins s σ H Q I h
 refine wpAny_Call_method0_late hbase hline (thn (ho pins s σ H _ I h) fun v s1 ⟨x,H1,I1,r1,ty,q1⟩=>?_)
 obtain ⟨h1,h2⟩:=qG I1 r1 ty
 exact ⟨T,id,pa,slot,hty,h1,h2,Calls.callWith_builtin rfl (PySem.evalArgs_none (hm pins s1 σ H1 x [] v [] Q I1 r1 .nil q1))⟩
theorem rC (pa:PlainAttrs T)(slot:Slot T name id)(hty:typeOf (.builtin id)=pure (.type "method_descriptor"))(hm:MtR X id r)(ho:PE X o to)(ha:PA X (e::es) t)
  (hbase:attributeBase o name X.env (eval o X.env)=eval o X.env:=by rfl)
  (hfew:((backTo cpos (starEach (e::es) X.env)).all (fun x=>!x.1)&&(backToKw cpos (keywordEach [] X.env)).all (fun x=>x.1.isSome)
  &&decide ((e::es).length+([]:List Keyword).length+(if ([]:List Keyword).isEmpty then 0 else 1) < 30))=true:=by rfl)
  (hline:(apos.endLine==cpos.line)=true:=by rfl) (hs:starEach (e::es) X.env=(false,eval e X.env)::starEach es X.env:=by rfl) (hplain:(backTo cpos (starEach es X.env)).any (·.1)=false:=by rfl) :
  PE X (.Call (.Attribute o name apos) (e::es) [] cpos) (tBM X.K T r to t):=by
 intro pins s σ H Q I h
 refine wpAny_Call_method_late hbase hfew hline rfl (thn (ho pins s σ H _ I h) fun v s1 ⟨x,H1,I1,r1,ty,q1⟩=>?_)
 obtain ⟨h1,h2⟩:=qG I1 r1 ty
 refine ⟨T,id,pa,slot,hty,h1,h2,?_⟩
 have hA:=ha cpos pins s1 σ H1 _ I1 q1
 rw [hs] at hA ⊢
 refine Calls.callWith_builtin (by show (false || (backTo cpos (starEach es X.env)).any (·.1))=false; rw [hplain]<;>rfl) (Calls.evalArgs_plain ?_)
 exact thn hA fun us s2 ⟨vs,H2,I2,r2,q2⟩=>hm pins s2 σ H2 x vs v us Q I2 r1 r2 q2
end
end L2
namespace L2
open PySem PySem.Spec PyProof.Rows
noncomputable def MtM (X:Cx)(id:String)(r:V->List V->Hp->VK->Prop):Prop :=
 ∀ (pins:List (Addr×Obj)) (s:Shared) (σ:St) (H:Hp) (x:V) (xs:List V) (v:Value) (us:List Value) (Q:VK),Inv X pins σ H s->RelV x v->Vals xs us->r x xs H Q ->
  wpAny (model X.prog X.w) X.A (call (.builtin id) (v::us)) (EP X pins σ Q) X.xe s
theorem Vals.one:∀ {x:V} {us:List Value},Vals [x] us->∃ u,us=[u]/\RelV x u
 | _,_,.cons r .nil=>⟨_,rfl,r⟩
theorem Vals.eraseIdx:∀ {xs:List V} {us:List Value} (i:Nat),Vals xs us->Vals (xs.eraseIdx i) (us.eraseIdx i)
 | _,_,_,.nil=>.nil
 | _,_,0,.cons _ t=>t
 | _,_,i+1,.cons r t=>.cons r (Vals.eraseIdx i t)
theorem Vals.rep {xs:List V}{us:List Value}(h:Vals xs us):∀ k:Nat,Vals (a0i k xs).flatten (a0i k us).flatten
 | 0=>.nil
 | k+1=>by
  rw [a0N,a0N,a1p,a1p]
  exact Vals.append h (Vals.rep h k)
theorem gS {α:Type}:∀ (l:List α) (i:Nat),(l.eraseIdx i).length<=l.length
 | [],_=>a0m _
 | _::_,0=>a2l _
 | _::r,i+1=>a2p (gS r i)
theorem gN (its:List Value):∀ (k:Nat) (acc:List Value),
  a3u (fun x1 x2=>x1++x2) acc.toArray (a0i k its.toArray)=(acc++(a0i k its).flatten).toArray
 | 0,acc=>by simp
 | k+1,acc=>by
  have e:acc.toArray++its.toArray=(acc++its).toArray:=by simp
  have e2:(acc++its)++(a0i k its).flatten=acc++(a0i (k+1) its).flatten:=by
   rw [a0N,a1p,a0T]
  rw [<- e2,<- gN its k (acc++its),<- e,a0N,a1U]
section
variable {X:Cx}{pins:List (Addr×Obj)}{σ:St}{H:Hp}{s:Shared}{l b:Addr}{xs ys zs:List V}
theorem Inv.lset {its its':List Value}{n:Nat}{f:Array Value->Array Value}{t':Nat}(I:Inv X pins σ H s)(hH:H l=some (.lst xs))
  (e:s.heap.get? l=some { cls:=.type "list",data:=.seq its.toArray n }) (hf:f its.toArray=its'.toArray) (hv:Vals ys its') (hz:ys.length<=sizeLine) :
  Inv X pins σ (upd H l (.lst ys)) { s with heap:=s.heap.update l (Obj.mapSeq f),toks:=t' }:=by
 have q:=PySem.IsL.update e f
 rw [hf] at q
 refine I.write (x:=l) (e:=l) (by rw [hH]; exact trivial) (.inl rfl) (fun b' u hb hu=>(Heap.get?_update_other s.heap (Obj.mapSeq f) (a18 hb)).trans hu) ⟨_,q⟩ ?_
 exact ⟨hz,its',_,hv,q⟩
theorem Inv.lnew {its:List Value}{t':Nat}(I:Inv X pins σ H s)(hv:Vals ys its)(hz:ys.length<=sizeLine) :
  Inv X pins σ (upd H s.heap.objs.size (.lst ys)) { s with heap:=s.heap.push { cls:=.type "list",data:=.seq its.toArray },toks:=t' } :=
 I.laid (fun _ _ q=>Heap.get?_push_of_some _ q) (a0m _) ⟨hz,its,0,hv,Heap.get?_push_size _ rfl⟩
theorem Inv.fresh (I:Inv X pins σ H s):H s.heap.objs.size=none:=I.hok.fresh (a0m _)
theorem Inv.lstM (I:Inv X pins σ H s)(hH:H l=some (.lst xs)):xs.length<=sizeLine/\∃ (its:List Value) (n:Nat),Vals xs its/\xs.length=its.length/\s.heap.get? l=some { cls:=.type "list",data:=.seq its.toArray n }:=by
 obtain ⟨z,its,n,r,e⟩:=I.hok l _ hH
 exact ⟨z,its,n,r,r.length,e⟩
theorem oY {n:Nat}(h:n<=sizeLine):Builtin.List.listTooLong n=false:=by
 unfold Builtin.List.listTooLong
 exact decide_eq_false (by omega)
end
section
variable {X:Cx}
noncomputable def tG:V->List V->Hp->VK->Prop:=fun x vs H Q=>∃ l xs y,x=.ref l/\vs=[y]/\H l=some (.lst xs)/\xs.length < sizeLine/\Q .non (upd H l (.lst (xs++[y])))
theorem gx:MtM X "list.append" tG:=by
 intro pins s σ H x vs v us Q I rx rv h
 obtain ⟨l,xs,y,rfl,rfl,hH,hz,q⟩:=h
 cases rx
 obtain ⟨u,rfl,ru⟩:=rv.one
 obtain ⟨z,its,n,r,hl,e⟩:=I.lstM hH
 refine call_meets F.slot_list_append ⟨_,e,rfl⟩ F.entry_list_append (F.args_list_append_2 _ _) (PySem.list_append l its.toArray n u (by rw [a0n]; omega)) ⟨e,?_⟩
 refine ⟨.non,_,I.lset (its':=its++[u]) hH e (by simp) (r.append (.cons ru .nil)) ?_,rfl,q⟩
 rw [a0l,a0u]
 omega
noncomputable def yH:V->List V->Hp->VK->Prop:=fun x vs H Q=>∃ l xs i k y,x=.ref l/\vs=[.int i]/\H l=some (.lst xs)/\-(2 ^ 63)<=i/\i < 2 ^ 63/\seqIndex? i xs.length=some k/\xs[k]?=some y/\Q y (upd H l (.lst (xs.eraseIdx k)))
theorem qW:MtM X "list.pop" yH:=by
 intro pins s σ H x vs v us Q I rx rv h
 obtain ⟨l,xs,i,k,y,rfl,rfl,hH,h1,h2,hk,hy,q⟩:=h
 cases rx
 obtain ⟨u,rfl,ru⟩:=rv.one
 obtain ⟨t,rfl⟩:=ru
 obtain ⟨z,its,n,r,hl,e⟩:=I.lstM hH
 obtain ⟨w,hw,rw'⟩:=r.get hy
 refine call_meets F.slot_list_pop ⟨_,e,rfl⟩ F.entry_list_pop (F.args_list_pop_2 _ _)
  (MeetsSeq.list_pop_at l its.toArray n i t k w (fitsIndex_both h1 h2) (by rw [a0n,<- hl]; exact hk) (by rw [<- Array.getElem?_toList]; exact hw) (by rw [a0n]; omega)) ⟨e,?_⟩
 refine ⟨y,_,I.lset (its':=its.eraseIdx k) hH e ?_ (r.eraseIdx k) ?_,rw',q⟩
 ·show its.toArray.eraseIdxIfInBounds k=(its.eraseIdx k).toArray
  rw [List.eraseIdxIfInBounds_toArray]
 ·have:=gS xs k
  omega
noncomputable def BR:R2:=fun x y H Q=>∃ l b xs zs,x=.ref l/\y=.ref b/\H l=some (.lst xs)/\H b=some (.lst zs)/\xs.length+zs.length<=sizeLine/\∀ p,H p=none->Q (.ref p) (upd H p (.lst (xs++zs)))
theorem op_cat:OpR X (binaryOp .Add) BR:=by
 intro pins s σ H x y v u Q I rx ry h
 obtain ⟨l,b,xs,zs,rfl,rfl,hH,hB,hz,q⟩:=h
 cases rx
 cases ry
 obtain ⟨z,its,n,r,hl,e⟩:=I.lstM hH
 obtain ⟨z2,its2,n2,r2,hl2,e2⟩:=I.lstM hB
 refine PySem.P.add_list e e2 ?_ (by rw [a0n,a0n]; omega)
 have ea:its.toArray++its2.toArray=(its++its2).toArray:=by simp
 rw [ea]
 exact ⟨.ref _,_,I.lnew (t':=s.toks) (r.append r2) (by rw [a0l]; omega),rfl,q _ I.fresh⟩
noncomputable def Ee:R2:=fun x y H Q=>∃ l k xs,x=.ref l/\y=.int k/\H l=some (.lst xs)/\-(2 ^ 63)<=k/\k < 2 ^ 63/\xs.length * k.toNat<=sizeLine /\
 ∀ p,H p=none->Q (.ref p) (upd H p (.lst (a0i k.toNat xs).flatten))
theorem uO {α:Type}(xs:List α)(k:Nat):(a0i k xs).flatten.length=k * xs.length:=by
 induction k with
 | zero=>simp
 | succ k ih=>rw [a0N,a1p,a0l,ih,Nat.succ_mul,a1B]
theorem zX:OpR X (binaryOp .Mult) Ee:=by
 intro pins s σ H x y v u Q I rx ry h
 obtain ⟨l,k,xs,rfl,rfl,hH,h1,h2,hz,q⟩:=h
 cases rx
 obtain ⟨t,rfl⟩:=ry
 obtain ⟨z,its,n,r,hl,e⟩:=I.lstM hH
 have hlen:its.toArray.size * k.toNat<=sizeLine:=by rw [a0n,<- hl]; exact hz
 have hcap:¬ its.toArray.size * k.toNat > (2 ^ 63-1) / 8:=by
  have:(sizeLine:Nat)<=(2 ^ 63-1) / 8:=by decide
  omega
 have hfit:¬ (!Builtin.List.listFitsIndex k)=true:=by
  rw [fitsIndex_both h1 h2]
  exact a0f
 have hlong:¬ Builtin.List.listTooLong (its.toArray.size * k.toNat)=true:=by
  rw [oY hlen]
  exact a0f
 have hnew:a3u (fun x1 x2=>x1++x2) #[] (a0i (if its.toArray.isEmpty=true then 0 else k.toNat) its.toArray)=(a0i k.toNat its).flatten.toArray:=by
  have f0:∀ m:Nat,a3u (fun x1 x2=>x1++x2) #[] (a0i m its.toArray)=(a0i m its).flatten.toArray:=fun m=>by
   have:=gN its m []
   rw [a0K] at this
   exact this
  rw [f0]
  cases its with
  | nil=>simp
  | cons a r'=>rw [if_neg (by simp)]
 refine wpAny_binaryOp_repeat_ref (T:="list") (U:="int") (by decide) ⟨_,e,rfl⟩ (fun s'=>typeIs_int s' k t) noFill_list_mul F.fills_int_mul F.slot_int_rmul repeat_list F.slot_int_index.lookup
  (call_meets F.slot_int_rmul (typeIs_int s k t) F.entry_int_rmul (F.args_int_rmul_2 _ _) (int___rmul___int_list k t l its.toArray n)
   ⟨e,rfl,⟨_,e,rfl⟩,call_meets F.slot_list_mul ⟨_,e,rfl⟩ F.entry_list_mul (F.args_list_mul_2 _ _) (AutoListH.list___mul___list_int_3 l its.toArray n k t hfit hcap hlong) ⟨e,?_⟩⟩)
 rw [hnew]
 exact ⟨.ref _,_,I.lnew (t':=s.toks) (r.rep k.toNat) (by rw [uO,a3G]; exact hz),rfl,q _ I.fresh⟩
end
end L2
namespace Att
open PySem PySem.W PySem.Calls PyProof.Rows
theorem eU {P:Params}{h:Heap}:∀ (ns:List Int) (vs:List Value),WellAll P h vs (ns.map WData.int)->IntsAre vs ns:=by
 intro ns
 induction ns with
 | nil =>
  intro vs w
  rw [a1L] at w
  cases w
  exact .nil
 | cons n ns ih =>
  intro vs w
  rw [a0w] at w
  cases w with
  | cons a b =>
   cases a
   exact .cons _ _ (ih _ b)
theorem n8 {l:OpenLaw}{n:Nat}(hn:l.most=some n){P:Params}{h:Heap}{args:List WData}{vals:List Value}
  (hpre:l.row.toRowW.claim.pre args=true) (hwl:WellAll P h vals args) :
  ∃ a vs ns,vals=[Value.ref a]/\args=[WData.list (ns.map WData.int)]/\h.get? a=some { cls:=.type "list",data:=.seq vs.toArray }/\IntsAre vs ns/\ns.length<=n:=by
 have hsh:WShape.hasAll [] args [.list .int]=true:=(pre_splitW hpre).1
 have hc:l.pre.holds [] { args:=args }=true:=(pre_splitW hpre).2
 obtain ⟨d,r,rfl,h1,h2⟩:=hasAllW_cons hsh
 obtain rfl:=hasAllW_nil h2
 obtain ⟨xs,rfl,h3⟩:=hasW_list h1
 obtain ⟨ns,rfl⟩:=items_int h3
 have hlen:ns.length<=n:=by
  unfold OpenLaw.pre at hc
  have h4:(WTm.not (.lt (.lit (.int (n:Int))) (.len (.arg 0)))).holds [] { args:=[.list (ns.map .int)] }=true:=by
   have h4:=(holds_andW hc).1
   rw [hn] at h4
   exact h4
  have h5:=condW_of h4 (w_not (w_lt w_lit (w_len_list (w_arg rfl))))
  rw [a0b] at h5
  refine a3b fun q=>?_
  have q':(n:Int) < ((ns.length:Nat):Int):=by omega
  first
   | (rw [decide_eq_true q'] at h5; exact absurd h5 (by decide))
   | (simp at h5; omega)
 cases hwl with
 | cons w1 w2 =>
  cases w2
  cases w1 with
  | list ho hall=>exact ⟨_,_,ns,rfl,rfl,ho,eU ns _ hall,hlen⟩
theorem nV (l:OpenLaw)(args:List WData):l.row.toRowW.claim.post args (.bool true) args=true :=
 postW_of (r:=l.row.toRowW) (X:=(true==true))
  (show WShape.has [] (.bool true) .bool=true by first | rfl | decide | simp [WShape.has,WShape.arms,WShape.armsAll])
  (show (WTm.eq .res (.lit (.bool true))).value [] { args:=args,res:=some (.bool true),after:=args }=some (.bool (true==true)) from w_eq_bool (w_res rfl) w_lit) rfl
theorem attach_call {l:OpenLaw}{n:Nat}{q:Program}{loose:List Str}{XP:(Str->Option Value)->Heap->Prop}{YP:World->Heap->Prop}{d:DefRec}
  (hn:l.most=some n) (hdf:d.params.defaults=[])
  (call:∀ (w:World) (s₀ s₁:Shared) (mg mb:Str->Option Value) (fa:Addr) (o:Obj) (pm cd doc:Value) (a:Addr) (vs:List Value) (ns:List Int),
   Ground q loose [] XP w s₀ mg mb s₁.heap->YP w s₁.heap ->
   s₁.heap.get? fa=some o->o.data=.func (docDef d.name d.params d.body d.scope pm cd doc)->s₁.heap.CodeRec cd d.name->mg d.name=some (.ref fa) ->
   s₁.heap.get? a=some { cls:=.type "list",data:=.seq vs.toArray }->IntsAre vs ns->ns.length<=n->s₁.gens=#[] ->
   codeAny (model l.prog w) callerA (.call (.ref fa) ⟨[.ref a],[]⟩) (fun r s'=>r=.ok (.ret (.bool true))/\OldK s₁.heap s'.heap/\s'.os=s₁.os/\AllBare s'.gens) s₁) :
  WalkO q loose XP YP l.row.toRowW d [] (fun f vs=>a3v f vs):=by
 intro w s₀ s₁ mg mb G Y fa o pm cd doc dV kV ho hd hcd hD hmg hg args vals as hpre hlay hrd hwl hlo
 obtain rfl:dV=.none:=Dflts.none hD hdf
 obtain rfl:kV=.none:=Dflts.noKw hD
 obtain ⟨a,vs,ns,rfl,rfl,hobj,hints,hlen⟩:=n8 hn hpre hwl
 refine enter_call (codeAny_mono (call w s₀ s₁ mg mb fa o pm cd doc a vs ns G Y ho (fd_plain hd) hcd hmg hobj hints hlen hg) fun r s' hq=>?_)
 obtain ⟨rfl,h2,h3,h4⟩:=hq
 exact ⟨.inl ⟨.bool true,.bool true,[],rfl,fun _=>rfl,.bool true,nV l _,fun _=>⟨a3S,fun _ hm=>(nomatch hm)⟩⟩,h2,h3,h4⟩
end Att
namespace L2
open PySem PySem.Spec PyProof.Rows
theorem bM:∀ {vs:List Value} {ns:List Int},IntsAre vs ns->Vals (ns.map V.int) vs
 | _,_,.nil=>.nil
 | _,_,.cons n t h=>.cons ⟨t,rfl⟩ (bM h)
noncomputable def pU (H:Hp):Prop:=∀ b,H b=none\/∃ o xs,H b=some (.frz o (.lst xs))
theorem ql {P:Program}{w:World}{K:a0a}{mg mb:Str->Option Value}{CX:CXT}{k:Nat}{fa a:Addr}{fd:FuncData}{x:Str}{sp:Sp}{s₁:Shared}{vs:List Value}{ns:List Int}
  (KX:K.In s₁.heap) (hns:s₁.heap.Ns mainGlobals mg) (hb:s₁.heap.Ns builtinsNs mb) (hbb:∀ x:Str,x≠"__name__"->mb x=bootBuiltins x) (hlim:s₁.heap.NoLimit) (hg:s₁.gens=#[])
  (ha:s₁.heap.get? a=some { cls:=.type "list",data:=.seq vs.toArray }) (hi:IntsAre vs ns) (hl:ns.length<=sizeLine) (hr:Room k callerA)
  (F:∀ base:Heap,K.In base->base.Ns mainGlobals mg->dJ P w K mg base CX k fa fd [x] sp) (hbind:∀ (s:Shared) (u:Value),BindsTo s fd ⟨[u],[]⟩ [(x,u)])
  (hsp:∀ H:Hp,pU H->SqL K H a (ns.map V.int)->sp [.ref a] H (fun v _=>v=.bl true) fun _ _ _=>False)
  (hCX:∀ H e s',CX [] H s₁ (fun _ _ _=>False) e s'->False) :
  codeAny (model P w) callerA (.call (.ref fa) ⟨[.ref a],[]⟩) (fun r s'=>r=.ok (.ret (.bool true))/\OldK s₁.heap s'.heap/\s'.os=s₁.os/\AllBare s'.gens) s₁:=by
 have rv:=bM hi
 have lenV:=hi.length
 -- from an abstract heap in which nothing but the script may be tracked
 have core:∀ H:Hp,pU H->SqL K H a (ns.map V.int)->HOk P w H s₁.heap->(∀ b,H b≠none->b=a)->(H a≠none->K.lookup a=none) ->
   codeAny (model P w) callerA (.call (.ref fa) ⟨[.ref a],[]⟩) (fun r s'=>r=.ok (.ret (.bool true))/\OldK s₁.heap s'.heap/\s'.os=s₁.os/\AllBare s'.gens) s₁:=by
  intro H hO hS hok hA hK
  have base_of:∀ {b:Addr} {o:Obj},s₁.heap.get? b=some o->H b=none->(ic s₁.heap H).get? b=some o:=fun e n=>qk e n
  have noA:∀ {b:Addr} {o:Obj} {es:Array DictEntry} {ep:Nat},s₁.heap.get? b=some o->o.data=.dict es ep->H b=none:=fun {b o es ep} e d=>by
   cases q:H b with
   | none=>rfl
   | some u =>
    have e':b=a:=hA b (by rw [q]; simp)
    subst e'
    rw [ha] at e; cases e
    have d':Data.seq vs.toArray _=Data.dict es ep:=d
    cases d'
  have nsK:∀ {b:Addr} {m:Str->Option Value},s₁.heap.Ns b m->(ic s₁.heap H).Ns b m:=fun {b m} ⟨o,es,ep,e,d,r⟩=>⟨o,es,ep,base_of e (noA e d),d,r⟩
  have hKb:K.In (ic s₁.heap H):=fun b o e=>base_of (KX b o e) (by
   cases q:H b with
   | none=>rfl
   | some u =>
    have e':b=a:=hA b (by rw [q]; simp)
    subst e'
    rw [hK (by rw [q]; simp)] at e; cases e)
  have hM:Mod K mg (ic s₁.heap H):=⟨hKb,nsK hns,⟨mb,nsK hb,hbb⟩,let ⟨mc,h1,h2⟩:=hlim; ⟨mc,nsK h1,h2⟩⟩
  have e0:uF P w K mg (ic s₁.heap H) callerA [] s₁ H:=⟨rfl,hM,fun b o e=>v9 e,Nat.le_of_eq (m8 _ _),trivial,fun b hb=>absurd (show b∈([]:List Addr) from hb) (by simp),hok,.of_eq hg⟩
  refine codeAny_mono ((F _ hKb (nsK hns)).run callerA [] s₁ H ⟨[.ref a],[]⟩ [.ref a] [.ref a] _ _ hr e0 (hbind s₁ (.ref a)) (.cons rfl .nil) (hsp H hO hS)) fun r s' h=>?_
  cases r with
  | error e=>exact (hCX H e s' h).elim
  | ok fl =>
   cases fl with
   | next=>exact a1n h
   | brk=>exact a1n h
   | cont=>exact a1n h
   | ret u =>
    obtain ⟨v,H',os,bare,un,hok',r',q⟩:=h
    have q':v=.bl true:=q
    subst q'
    obtain rfl:u=Value.bool true:=r'
    refine ⟨rfl,OldK.of_keep fun b o e=>?_,os,bare⟩
    cases q:H b with
    | none=>exact un.keep b o e q (by intro z; exact absurd (show b∈([]:List Addr) from z) (by simp)) (by simp)
    | some u =>
     rcases hO b with z | ⟨ob,xs,z⟩
     ·rw [q] at z; cases z
     ·have z2:=un.frzs b ob _ z
      obtain ⟨e1,_⟩:=hok b _ z
      obtain ⟨e2,_⟩:=hok' b _ z2
      rw [e] at e1; cases e1
      exact e2
 cases hk:K.lookup a with
 | some o =>
  -- the script is one of the module's own objects
  have e:=KX a o hk
  rw [ha] at e
  cases e
  refine core (fun _=>none) (fun _=>.inl rfl) (.inr ⟨_,vs.toArray,_,hk,rfl,rfl,rfl,by rw [a0n,lenV]; exact hl,by simpa using rv⟩) (fun b u z=>by have z':(none:Option HO)=some u:=z; cases z') (fun b z=>absurd rfl z) fun z=>absurd rfl z
 | none =>
  refine core (fun b=>if b=a then some (.frz { cls:=.type "list",data:=.seq vs.toArray } (.lst (ns.map V.int))) else none) (fun b=>?_) (.inl (.inr ⟨{ cls:=.type "list",data:=.seq vs.toArray },if_pos rfl⟩)) (fun b u z=>?_) (fun b z=>?_) fun _=>hk
  ·by_cases hb:b=a
   ·exact .inr ⟨_,_,if_pos hb⟩
   ·exact .inl (if_neg hb)
  ·by_cases hb:b=a
   ·have z':=(if_pos hb).symm.trans z
    cases z'
    subst hb
    exact ⟨ha,by rw [a0b]; exact hl,vs,_,rv,ha⟩
   ·have z':=(if_neg hb).symm.trans z
    cases z'
  ·by_cases hb:b=a
   ·exact hb
   ·exact absurd (if_neg hb) z
end L2
namespace L2
open PySem PySem.Spec PyProof.Rows
theorem walk_of {l:a2z}{n k:Nat}{q:Program}{loose:List Str}{XP:(Str->Option Value)->Heap->Prop}{YP:World->Heap->Prop}{d:DefRec}{K:Params->a0a}{CX:World->CXT}{sp:World->Sp}{x:Str}
  (hn:l.most=some n) (hn2:n<=sizeLine) (hdf:d.params.defaults=[]) (hr:Room k callerA)
  (hY:∀ (w:World) (h:Heap),YP w h->(K w.params).In h)
  (F:∀ (w:World) (mg:Str->Option Value) (fa:Addr) (h:Heap),(K w.params).In h->h.Ns mainGlobals mg->mg d.name=some (.ref fa) ->
   ∃ fd:FuncData,(∀ (s:Shared) (u:Value),BindsTo s fd ⟨[u],[]⟩ [(x,u)]) /\
    ∀ base:Heap,(K w.params).In base->base.Ns mainGlobals mg->dJ l.prog w (K w.params) mg base (CX w) k fa fd [x] (sp w))
  (hsp:∀ (w:World) (H:Hp) (a:Addr) (ns:List Int),ns.length<=n->pU H->SqL (K w.params) H a (ns.map V.int)->sp w [.ref a] H (fun v _=>v=.bl true) fun _ _ _=>False)
  (hCX:∀ (w:World) (H:Hp) (s:Shared) (e:Value) (s':Shared),CX w [] H s (fun _ _ _=>False) e s'->False) :
  a3w q loose XP YP l.row.toRowW d [] (fun f vs=>a3v f vs):=by
 refine Att.attach_call hn hdf fun w s₀ s₁ mg mb fa o pm cd doc a vs ns G Y ho hd hcd hmg hobj hints hlen hg=>?_
 have KX:=hY w _ Y
 obtain ⟨fd,hb,hF⟩:=F w mg fa _ KX G.T.g hmg
 exact ql KX G.T.g G.T.b G.T.builtins G.T.nolimit hg hobj hints (a0y hlen hn2) hr hF hb (fun H hO hS=>hsp w H a ns hlen hO hS) fun H e s'=>hCX w H s₁ e s'
end L2
namespace L2
open PySem PySem.Spec PyProof.Rows
noncomputable def defArgs (s:Stmt):Arguments:=match s with
 | .FunctionDef _ a _ _ _ _ _ _ _ _=>a
 | _=>{ posonlyargs:=[],args:=[],vararg:=none,kwonlyargs:=[],kw_defaults:=[],kwarg:=none,defaults:=[] }
noncomputable def defBody (s:Stmt):List Stmt:=match s with
 | .FunctionDef _ _ b _ _ _ _ _ _ _=>b
 | _=>[]
noncomputable def defScope (s:Stmt):Scope:=match s with
 | .FunctionDef _ _ _ _ _ _ sc _ _ _=>sc
 | _=>{ kind:=.function,names:=[],isGenerator:=false,isCoroutine:=false }
noncomputable abbrev CX0:CXT:=fun _ _ _ _ _ _=>False
noncomputable abbrev E0:XK:=fun _ _ _=>False
theorem BX {X:Cx}:kY CX0 X E0:=fun _ _ _ _ _ _ _ h=>h.elim
structure Fun (K:a0a)(x qual:Str)(st:Stmt)(f:Addr)(fd:FuncData):Prop where
 ex:∃ (oc:Value) (od:Option Addr) (kV doc pm:Value) (an:Option Addr) (cdv ct:Value) (osl:Array (Option Value)),
  fd=a1g x qual (defArgs st) (defBody st) (defScope st) .none kV doc pm an cdv ct/\K.lookup f=some ⟨oc,od,.func fd,osl⟩/\a19 K cdv qual=true
 kp:a1J K (.ref f)=true
section
variable {P:Program}{w:World}{K:a0a}{mg:Str->Option Value}{base:Heap}
theorem Fun.ok {x qual:Str}{st:Stmt}{f:Addr}{fd:FuncData}{N ps:List Str}{k:Nat}{sp:Sp}(F:Fun K x qual st f fd)(S:ay N ps (defScope st))(len:∀ vs H Q E,sp vs H Q E->vs.length=ps.length)
  (hbody:∀ (cdv:Value) (A:Around) (outer:List Env) (s:Shared) (H:Hp) (vs:List V) (Q:VK) (E:XK),Room k (A.deeper (envOfC qual (defScope st) s.heap.objs.size f cdv))->sp vs H Q E ->
   ∃ t,PSs (il CX0 P w K mg base N qual (defScope st) f cdv A outer s H E).nox (defBody st) t/\t { nx:=fun _ H'=>Q .non H',rt:=Q } (start N vs) H):dJ P w K mg base CX0 (k+1) f fd ps sp:=by
 obtain ⟨oc,od,kV,doc,pm,an,cdv,ct,osl,rfl,lk,hcd⟩:=F.ex
 refine D1 lk hcd S len fun A outer s H vs Q E hr hsp=>?_
 obtain ⟨t,h,q⟩:=hbody cdv A outer s H vs Q E hr hsp
 exact ⟨t,h.nox,q⟩
theorem Fun.binds {x qual:Str}{st:Stmt}{f:Addr}{fd:FuncData}{ps:List Str}(F:Fun K x qual st f fd)
  (h:∀ (kV doc pm:Value) (an:Option Addr) (cdv ct:Value) (us:List Value),us.length=ps.length->bindArgs (a1g x qual (defArgs st) (defBody st) (defScope st) .none kV doc pm an cdv ct) ⟨us,[]⟩=pure (ps.zip us)):Binds K fd ps []:=by
 obtain ⟨oc,od,kV,doc,pm,an,cdv,ct,osl,rfl,lk,hcd⟩:=F.ex
 exact .all (h kV doc pm an cdv ct)
theorem pE {x qual:Str}{st:Stmt}{f:Addr}{oc:Value}{od an:Option Addr}{osl:Array (Option Value)}{kV doc pm cdv ct:Value}(l:K.lookup f=some ⟨oc,od,.func (a1g x qual (defArgs st) (defBody st) (defScope st) .none kV doc pm an cdv ct),osl⟩)
  (c:a19 K cdv qual=true) (k:a1J K (.ref f)=true):Fun K x qual st f (a1g x qual (defArgs st) (defBody st) (defScope st) .none kV doc pm an cdv ct):=⟨⟨oc,od,kV,doc,pm,an,cdv,ct,osl,rfl,l,c⟩,k⟩
end
theorem xk {A:Around}{k:Nat}(hr:Room k A):A.units+1 < cLine:=a1C (Nat.add_le_add_left (by decide:1<=64) _) hr.units
section
variable {X:Cx}
theorem pv (i:Nat){x:Str}{pos:Pos}(hN:X.N[i]?=some x:=by rfl)(hv:Vis X.env.scope x:=by first | exact a0G rfl | exact a0A (a0G rfl) | exact a0A (a0A rfl))(hd:(x==("__debug__":Str))=false:=by decide)
  (hcd:(x==("__classdict__":Str))=false:=by decide):PE X (.Name x pos) (iN i):=bq hN hv hd hcd
end
noncomputable def Same (H H':Hp):Prop:=∀ b o,H b=some o->H' b=some o
theorem Same.refl (H:Hp):Same H H:=fun _ _ h=>h
end L2
namespace L2
open PySem PySem.Spec PyProof.Rows
section
variable {κ:Type}[DecidableEq κ]
noncomputable def eS (kvs:List (κ×V))(k:κ):Option V:=(kvs.find? fun kv=>decide (kv.1=k)).map (·.2)
noncomputable def dg (kvs:List (κ×V))(k:κ)(v:V):List (κ×V) :=
 if (kvs.any fun kv=>decide (kv.1=k))=true then kvs.map (fun kv=>if kv.1=k then (kv.1,v) else kv) else kvs++[(k,v)]
theorem fM {p:κ×V}{r:List (κ×V)}{k:κ}(e:p.1=k):eS (p::r) k=some p.2:=by simp [eS,a1l,e]
theorem fX {p:κ×V}{r:List (κ×V)}{k:κ}(e:¬ p.1=k):eS (p::r) k=eS r k:=by simp [eS,a1l,e]
theorem jV (k:κ):∀ kvs:List (κ×V),(kvs.any fun kv=>decide (kv.1=k))=(eS kvs k).isSome
 | []=>rfl
 | p::r=>by
  rw [a1o]
  by_cases e:p.1=k
  ·simp only [fM e,decide_eq_true e,a23,Option.isSome_some]
  ·rw [fX e,decide_eq_false e,a3x]; exact jV k r
theorem eL (kvs:List (κ×V))(k:κ)(v:V):(dg kvs k v).length<=kvs.length+1:=by
 unfold dg
 split
 ·rw [a0b]; omega
 ·rw [a0l,a0g,a3k]; omega
theorem RelO.isSome_eq {o:Option V}{u:Option Value}(r:RelO o u):o.isSome=u.isSome:=by
 cases o with
 | none=>cases u with
  | none=>rfl
  | some _=>exact (show False from r).elim
 | some _=>cases u with
  | none=>exact (show False from r).elim
  | some _=>rfl
theorem KV.val {kvs:List (κ×V)}{vs:List (κ×Value)}(r:KV kvs vs)(k:κ):RelO (eS kvs k) (valueAt vs k):=by
 unfold KV at r
 induction r with
 | nil=>exact a1a
 | @cons p q ps qs h t ih =>
  obtain ⟨h1,h2⟩:=h
  by_cases e:p.1=k
  ·have e':q.1=k:=h1.symm.trans e
   have b:valueAt (q::qs) k=some q.2:=by simp [valueAt,a1l,e']
   rw [fM e,b]; exact h2
  ·have e':¬ q.1=k:=fun z=>e (h1.trans z)
   have b:valueAt (q::qs) k=valueAt qs k:=by simp [valueAt,a1l,e']
   rw [fX e,b]; exact ih
theorem KV.any {kvs:List (κ×V)}{vs:List (κ×Value)}(r:KV kvs vs)(k:κ):(kvs.any fun kv=>decide (kv.1=k))=vs.any fun kv=>decide (kv.1=k):=by
 unfold KV at r
 induction r with
 | nil=>rfl
 | cons h t ih=>rw [a1o,a1o,ih,h.1]
theorem KV.repl {kvs:List (κ×V)}{vs:List (κ×Value)}(r:KV kvs vs)(k:κ){y:V}{u:Value}(ry:RelV y u) :
  KV (kvs.map fun kv=>if kv.1=k then (kv.1,y) else kv) (vs.map fun kv=>if kv.1=k then (kv.1,u) else kv):=by
 unfold KV at r ⊢
 induction r with
 | nil=>exact .nil
 | @cons p q ps qs h t ih =>
  rw [a0w,a0w]
  refine .cons ?_ ih
  obtain ⟨h1,h2⟩:=h
  by_cases e:p.1=k
  ·rw [if_pos e,if_pos (h1.symm.trans e)]; exact ⟨h1,ry⟩
  ·rw [if_neg e,if_neg (fun z=>e (h1.trans z))]; exact ⟨h1,h2⟩
theorem KV.put {kvs:List (κ×V)}{vs:List (κ×Value)}(r:KV kvs vs)(k:κ){y:V}{u:Value}(ry:RelV y u):KV (dg kvs k y) (stored vs k u):=by
 unfold dg stored
 rw [r.any k]
 by_cases e:(vs.any fun kv=>decide (kv.1=k))=true
 ·rw [if_pos e,if_pos e]; exact r.repl k ry
 ·rw [if_neg e,if_neg e]; exact Paired.snoc r ⟨rfl,ry⟩
theorem KV.length {kvs:List (κ×V)}{vs:List (κ×Value)}(r:KV kvs vs):kvs.length=vs.length:=Paired.length r
end
theorem qp {P:Program}{w:World}{k:Key}{u:Value}(r:RelV (kV k) u):(aT P w).is k u=true:=by
 cases k with
 | inl i=>obtain ⟨t,e⟩:=(show ∃ t,u=Value.int i t from r); subst e; exact jm P w i t
 | inr x=>obtain ⟨t,e⟩:=(show ∃ t,u=Value.str x t from r); subst e; exact jM P w x t
theorem gw {P:Program}{w:World}:∀ {ks:List Key} {us:List Value},Vals (ks.map kV) us->ItemsAre (aT P w) ks us
 | [],_,r=>by rw [a1L] at r; cases r; exact .nil
 | k::ks,_,r=>by
  rw [a0w] at r
  cases r with
  | cons h t=>exact .cons (qp h) (gw t)
noncomputable abbrev KT (H:Hp):List (List Key×V)->List (List Key×Addr×Value)->Prop:=Paired fun p q=>p.1=q.1/\H q.2.1=some (.tup (p.1.map kV))/\RelV p.2 q.2.2
theorem KT.val {H:Hp}{kvs:List (List Key×V)}{xs:List (List Key×Addr×Value)}(r:KT H kvs xs)(k:List Key):RelO (eS kvs k) ((atKey xs k).map (·.2)):=by
 induction r with
 | nil=>exact a1a
 | @cons p q ps qs h t ih =>
  obtain ⟨h1,_,h2⟩:=h
  by_cases e:p.1=k
  ·have e':q.1=k:=h1.symm.trans e
   have b:atKey (q::qs) k=some q.2:=by simp [atKey,a1l,e']
   rw [fM e,b]; exact h2
  ·have e':¬ q.1=k:=fun z=>e (h1.trans z)
   have b:atKey (q::qs) k=atKey qs k:=by simp [atKey,a1l,e']
   rw [fX e,b]; exact ih
theorem KT.repl {H:Hp}{kvs:List (List Key×V)}{xs:List (List Key×Addr×Value)}(r:KT H kvs xs)(k:List Key){y:V}{u:Value}(ry:RelV y u) :
  KT H (kvs.map fun kv=>if kv.1=k then (kv.1,y) else kv) (xs.map (putAt k u)):=by
 induction r with
 | nil=>exact .nil
 | @cons p q ps qs h t ih =>
  rw [a0w,a0w]
  refine .cons ?_ ih
  obtain ⟨h1,h2,h3⟩:=h
  unfold putAt
  by_cases e:p.1=k
  ·rw [if_pos e,if_pos (h1.symm.trans e)]; exact ⟨h1,h2,ry⟩
  ·rw [if_neg e,if_neg (fun z=>e (h1.trans z))]; exact ⟨h1,h2,h3⟩
theorem KT.put {H:Hp}{kvs:List (List Key×V)}{xs:List (List Key×Addr×Value)}(r:KT H kvs xs)(k:List Key){b:Addr}{y:V}{u:Value}(hb:H b=some (.tup (k.map kV)))(ry:RelV y u) :
  KT H (dg kvs k y) (storedH xs k b u):=by
 have e:(kvs.any fun kv=>decide (kv.1=k))=(atKey xs k).isSome:=by
  rw [jV,(r.val k).isSome_eq,Option.isSome_map]
 unfold dg storedH
 rw [e]
 by_cases q:(atKey xs k).isSome=true
 ·rw [if_pos q,if_pos q]; exact r.repl k ry
 ·rw [if_neg q,if_neg q]; exact Paired.snoc r ⟨rfl,hb,ry⟩
theorem KT.keeps {H H':Hp}{kvs:List (List Key×V)}{xs:List (List Key×Addr×Value)}(r:KT H kvs xs)(ht:∀ b ys,H b=some (.tup ys)->H' b=some (.tup ys)):KT H' kvs xs :=
 Paired.mapP r fun _ _ z=>⟨z.1,ht _ _ z.2.1,z.2.2⟩
section
variable {P:Program}{w:World}{H:Hp}{h:Heap}{a:Addr}
theorem xH {u:HO}(ok:HOk P w H h)(e:Rd H a u):ObjOk P w H h a u:=e.ok ok
theorem oZ {kvs:List (Key×V)}(ok:HOk P w H h)(e:Rd H a (.dK kvs)):kvs.length<=sizeLine/\(a==sysModules)=false/\∃ vs,KV kvs vs/\h.DictOf (aT P w) a vs :=
 show ObjOk P w H h a (.dK kvs) from xH ok e
theorem BZ {kvs:List (Key×V)}(ok:HOk P w H h)(e:H a=some (.dK kvs)):kvs.length<=sizeLine/\(a==sysModules)=false/\∃ vs,KV kvs vs/\h.DictOf (aT P w) a vs:=oZ ok (.inl e)
theorem km {ks:List Key}(ok:HOk P w H h)(e:H a=some (.tup (ks.map kV))):(tupleKind (aT P w)).is h ks a:=by
 obtain ⟨_,its,r,o,h1,h2,n,h3⟩:=(show ObjOk P w H h a (.tup (ks.map kV)) from ok a _ e)
 exact ⟨o,its.toArray,n,h1,h2,h3,by simpa using gw r⟩
theorem qf {kvs:List (List Key×V)}(ok:HOk P w H h)(e:Rd H a (.dT kvs)):kvs.length<=sizeLine/\(a==sysModules)=false /\
  ∃ xs,KT H kvs xs/\h.DictOfH (tupleKind (aT P w)) a xs:=by
 obtain ⟨z,y,xs,r,o,es,ep,h1,h2,h3,h4,h5⟩:=(show ObjOk P w H h a (.dT kvs) from xH ok e)
 refine ⟨z,y,xs,r,o,es,ep,h1,h2,h3,h4,fun x hx=>?_,h5⟩
 have all:∀ {l:List (List Key×V)} {m:List (List Key×Addr×Value)},KT H l m->∀ x∈m,(tupleKind (aT P w)).is h x.1 x.2.1:=by
  intro l m q
  induction q with
  | nil=>intro x hx; exact nomatch hx
  | @cons p q ps qs hq t ih =>
   intro x hx
   rcases a0r.mp hx with e | hx
   ·subst e
    exact km ok (by rw [<- hq.1]; exact hq.2.1)
   ·exact ih x hx
 exact all r x hx
theorem BN {kvs:List (List Key×V)}(ok:HOk P w H h)(e:H a=some (.dT kvs)):kvs.length<=sizeLine/\(a==sysModules)=false /\
  ∃ xs,KT H kvs xs/\h.DictOfH (tupleKind (aT P w)) a xs:=qf ok (.inl e)
end
noncomputable def DGet (H:Hp)(a:Addr)(y:V)(r:Option V):Prop :=
 (∃ kvs k,Rd H a (.dK kvs)/\y=kV k/\r=eS kvs k)\/∃ kvs k b,Rd H a (.dT kvs)/\y=.ref b/\H b=some (.tup (k.map kV))/\r=eS kvs k
noncomputable def Dg (H:Hp)(a:Addr)(y v:V)(H':Hp):Prop :=
 (∃ kvs k,H a=some (.dK kvs)/\y=kV k/\kvs.length < sizeLine/\H'=upd H a (.dK (dg kvs k v))) \/
 ∃ kvs k b,H a=some (.dT kvs)/\y=.ref b/\H b=some (.tup (k.map kV))/\kvs.length < sizeLine/\H'=upd H a (.dT (dg kvs k v))
theorem DGet.k {H:Hp}{a:Addr}{kvs:List (Key×V)}{k:Key}(e:H a=some (.dK kvs)):DGet H a (kV k) (eS kvs k):=.inl ⟨kvs,k,.inl e,rfl,rfl⟩
section
variable {X:Cx}{pins:List (Addr×Obj)}{σ:St}{H:Hp}{s:Shared}{a:Addr}{y v:V}{u r:Value}{o:Option V}{A:Around}{E:Value->Shared->Prop}
theorem Inv.big (I:Inv X pins σ H s):sysModules < s.heap.objs.size:=by
 have h:mainGlobals < s.heap.objs.size:=(I.mod.glob.keeps I.bk).lt
 exact a24 (by decide) h
theorem nB {Q:Value->Shared->Prop}(hu:A.units+1 < cLine)(I:Inv X pins σ H s)(g:DGet H a y (some v))(ry:RelV y u)(h:∀ w' s',Inv X pins σ H s'->RelV v w'->Q w' s') :
  wpAny (model X.prog X.w) A (getItem (.ref a) u) Q E s:=by
 rcases g with ⟨kvs,k,e,ey,l⟩ | ⟨kvs,k,b,e,ey,eb,l⟩
 ·subst ey
  obtain ⟨z,hd,vs,rel,dd⟩:=oZ I.hok e
  obtain ⟨w',hw,rw'⟩:=RelO.some_of (v:=v) (o:=valueAt vs k) (by rw [l]; exact rel.val k)
  exact wpAny_getItem_of (qp ry) dd.mapOf hw (h w' _ (I.tok _) rw')
 ·subst ey
  cases (show u=Value.ref b from ry)
  obtain ⟨z,hd,xs,rel,dd⟩:=qf I.hok e
  obtain ⟨w',hw,rw'⟩:=RelO.some_of (v:=v) (o:=(atKey xs k).map (·.2)) (by rw [l]; exact rel.val k)
  obtain ⟨p,hp,hp2⟩:=Option.map_eq_some_iff.mp hw
  refine wpAny_getItem_heap (tupleKind_room_in1 hu) (km I.hok eb) dd hp ?_
  rw [hp2]
  exact h w' _ (I.tok _) rw'
theorem lE {h':Heap}{t':Nat}{ob:HO}(I:Inv X pins σ H s)(mu:Mut (H a))(hs:Heap.SameBut a s.heap h')(he:∃ q,h'.get? a=some q)(new:ObjOk X.prog X.w (upd H a ob) h' a ob) :
  Inv X pins σ (upd H a ob) { s with heap:=h',toks:=t' } :=
 I.write (x:=a) (e:=a) mu (.inl rfl) (fun b q hb z=>(hs.2 b hb).trans z) he new
theorem zu {P:Program}{w:World}{H':Hp}{h':Heap}{kvs:List (Key×V)}{vs:List (Key×Value)}(z:kvs.length<=sizeLine)(hd:(a==sysModules)=false)(rel:KV kvs vs)(dd:h'.DictOf (aT P w) a vs) :
  ObjOk P w H' h' a (.dK kvs):=⟨z,hd,vs,rel,dd⟩
theorem n5 {H':Hp}{Q:Unit->Shared->Prop}(hu:A.units+1 < cLine)(I:Inv X pins σ H s)(g:Dg H a y v H')(ry:RelV y u)(rv:RelV v r)(h:∀ s',Inv X pins σ H' s'->Q () s') :
  wpAny (model X.prog X.w) A (setItem (.ref a) u r) Q E s:=by
 rcases g with ⟨kvs,k,e,ey,l,eH⟩ | ⟨kvs,k,b,e,ey,eb,l,eH⟩
 ·subst ey eH
  obtain ⟨z,hd,vs,rel,dd⟩:=BZ I.hok e
  have hz:vs.length<=sizeLine:=by rw [<- rel.length]; exact z
  have hl:(dg kvs k v).length<=sizeLine:=by have:=eL kvs k v; omega
  refine wpAny_setItem_pairs (hsz:=hz) (qp ry) dd fun h' dd' hs=>h _ ?_
  have he:∃ q,h'.get? a=some q:=let ⟨q,_,_,hq,_⟩:=dd'; ⟨q,hq⟩
  exact lE I (by rw [e]; exact a1a) hs he (zu hl hd (rel.put k rv) dd')
 ·subst ey eH
  cases (show u=Value.ref b from ry)
  obtain ⟨z,hd,xs,rel,dd⟩:=BN I.hok e
  have hz:xs.length<=sizeLine:=by rw [<- Paired.length rel]; exact z
  have hl:(dg kvs k v).length<=sizeLine:=by have:=eL kvs k v; omega
  refine wpAny_setItem_heap (hsz:=hz) (tupleKind_room_in1 hu) (km I.hok eb) dd fun h' dd' hs=>h _ ?_
  obtain ⟨q,es,ep,hq,h2,h3,h4,_,h5⟩:=dd'
  refine lE I (by rw [e]; exact a1a) hs ⟨q,hq⟩ ⟨hl,hd,_,(rel.put k eb rv).keeps fun c ys ec=>?_,q,es,ep,hq,h2,h3,h4,h5⟩
  rw [ab (Ed ec e (fun z=>nomatch z))]
  exact ec
end
noncomputable def yO (i:Expr):Prop:=∀ ov iv,subscripted i false ov iv=operate [ov,iv] (getItem ov iv)
theorem wC {prog:Program}{w:World}{A:Around}{E:Value->Shared->Prop}{s:Shared}{env:Env}{value slice:Expr}{pos:Pos}{T id:String}{Q:Value->Shared->Prop}
  (hl:typeLookup (.type T) "__getitem__"=pure (some (.builtin id))) (hs:yO slice)
  (h:wpAny (model prog w) A (eval value env) (fun o s₁=>wpAny (model prog w) A (eval slice env) (fun i s₂=>s₂.TypeIs o T/\wpAny (model prog w) A (getItem o i) Q E s₂) E s₁) E s) :
  wpAny (model prog w) A (eval (.Subscript value slice pos) env) Q E s:=by
 refine Subscript_ (wpAny_mono h (fun o s₁ h₁=>wpAny_mono h₁ (fun i s₂ h₂=>?_) fun _ _ x=>x) fun _ _ x=>x)
 obtain ⟨hT,h₂⟩:=h₂
 unfold subscriptTail
 refine wpAny_bind ?_
 rw [getitemInPython_of_ne hT.not_modules]
 refine wpAny_bind (wpAny_specialOf hT hl ?_)
 have fin:wpAny (model prog w) A (subscripted slice false o i) (fun r s₃=>wpAny (model prog w) A (letTemporaryGo value o r >>= fun _=>pure r) Q E s₃) E s₂:=by
  rw [hs o i]
  exact wpAny_operating (wpAny_mono h₂ (fun r s₃ h₃=>wpAny_bind (wpAny_letTemporaryGo (wpAny_pure h₃))) fun _ _ x=>x)
 first
  | exact wpAny_pure (wpAny_bind fin)
  | exact wpAny_bind (wpAny_pure (wpAny_bind fin))
  | exact wpAny_bind fin
theorem i7 {X:Cx}{pins:List (Addr×Obj)}{σ:St}{H:Hp}{s:Shared}{a:Addr}{y:V}{o:Option V}(I:Inv X pins σ H s)(g:DGet H a y o):s.TypeIs (.ref a) "dict":=by
 rcases g with ⟨kvs,k,e,_,_⟩ | ⟨kvs,k,b,e,_,_,_⟩
 ·obtain ⟨_,_,vs,_,dd⟩:=oZ I.hok e
  exact dd.typeIs
 ·obtain ⟨_,_,xs,_,dd⟩:=qf I.hok e
  exact dd.typeIs
noncomputable def C4 (td ty:TE):TE:=fun σ H Q=>td σ H fun x H1=>ty σ H1 fun y H2=>∃ a v,x=.ref a/\DGet H2 a y (some v)/\Q v H2
noncomputable def BC (td ty tv:TE):TS:=fun D σ H=>tv σ H fun v H1=>td σ H1 fun x H2=>ty σ H2 fun y H3=>∃ a H4,x=.ref a/\Dg H3 a y v H4/\D.nx σ H4
section
variable {X:Cx}{o i e value:Expr}{pos pos' tpos:Pos}{td ty tv:TE}
theorem we (hu:X.A.units+1 < cLine)(ho:PE X o td)(hi:PE X i ty)(hs:yO i):PE X (.Subscript o i pos) (C4 td ty):=by
 intro pins s σ H Q I h
 refine wC PySem.F.slot_dict_getitem.lookup hs (thn (ho pins s σ H _ I h) fun u s1 ⟨x,H1,I1,rx,q1⟩=>thn (hi pins s1 σ H1 _ I1 q1) fun iv s2 ⟨y,H2,I2,ry,a,v,ex,g,q2⟩=>?_)
 subst ex
 obtain rfl:u=Value.ref a:=rx
 exact ⟨i7 I2 g,nB hu I2 g ry fun w' s3 I3 rw'=>⟨v,H2,I3,rw',q2⟩⟩
theorem uM (hu:X.A.units+1 < cLine)(ho:PE X o td)(hi:PE X i ty)(hv:PE X value tv)(hs:swapsWith value (some (.Subscript o i pos')) pos.line X.env=pure false) :
  PS X (.Assign [.Subscript o i pos'] value pos) (BC td ty tv):=by
 intro pins s σ H D I h
 refine wpAny_Assign_Subscript (thn (hv pins s σ H _ I h) fun r s1 ⟨v,H1,I1,rv,q1⟩=>thn (ho pins s1 σ H1 _ I1 q1) fun u s2 ⟨x,H2,I2,rx,q2⟩=>thn (hi pins s2 σ H2 _ I2 q2) fun iv s3 ⟨y,H3,I3,ry,a,H4,ex,g,q3⟩=>?_) hs
 subst ex
 obtain rfl:u=Value.ref a:=rx
 exact n5 hu I3 g ry rv fun s4 I4=>⟨σ,H4,I4,q3⟩
end
theorem ox {P:Program}{w:World}{H:Hp}(h:Heap)(hb:sysModules < h.objs.size):ObjOk P w H (h.push { cls:=.type "dict",data:=.dict #[] }) h.objs.size (.dK []) :=
 ⟨a0M _,beq_eq_false_iff_ne.mpr (a18 (a0D hb)),[],.nil,Heap.DictOf.new h⟩
noncomputable def qi:TE:=fun _ H Q=>∀ p,H p=none->Q (.ref p) (upd H p (.dK []))
section
variable {X:Cx}{pos:Pos}
theorem pI:PE X (.Dict [] [] pos) qi:=fun pins s σ H Q I h =>
 wpAny_Dict_empty ⟨.ref s.heap.objs.size,_,I.laid (a:=s.heap.objs.size) (o:=.dK []) (t':=s.toks) (fun _ _ q=>Heap.get?_push_of_some _ q) (a0m _) (ox s.heap I.big),rfl,h _ (I.hok.fresh (a0m _))⟩
end
end L2
namespace L2
open PySem PySem.Spec PyProof.Rows
end L2

set_option maxHeartbeats 4000000
namespace L3
open PySem PySem.Spec PyProof.Rows L2
noncomputable abbrev noX:Value->Shared->Prop:=fun _ _=>False
theorem gR {P:Program}{w:World}{H:Hp}{h:Heap}{a:Addr}{o:HO}(x:HOk P w H h)(hn:H a=none)(new:ObjOk P w (upd H a o) h a o):HOk P w (upd H a o) h:=by
 intro b u e
 by_cases hb:b=a
 ·subst hb
  rw [ai] at e
  cases e
  exact new
 ·rw [ab hb] at e
  refine (x b u e).stay (fun c v _ q=>q) (fun c q=>?_) (fun c xs q=>?_)
  ·rw [ab (aE q hn)]; exact q
  ·rw [ab (aE q hn)]; exact q
section
variable {prog:Program}{w:World}{A:Around}{R:Result->Shared->Prop}{s:Shared}
theorem ki {elt tg iter:Expr}{scope:Scope}{pos:Pos}{it acc:Value}{env:Env}(J:Nat->Shared->Prop)
  (turn:∀ n s,J n s->wpAny (model prog w) A (pyNext it) (fun r s₁=>match r with
   | none=>R (.ok .next) s₁
   | some v=>wpAny (model prog w) A (letOwnedTupleGo tg it v) (fun _ s₂=>wpAny (model prog w) A (assign tg env v) (fun _ s₃ =>
     wpAny (model prog w) A (eval elt env) (fun y s₄=>wpAny (model prog w) A (call (.builtin "list.append") [acc,y]) (fun _ s₅=>∃ m,m < n/\J m s₅) noX s₄) noX s₃) noX s₂) noX s₁) noX s)
  (n:Nat) (h:J n s):codeAny (model prog w) A (.compLoop (.ListComp elt [⟨tg,iter,[],0⟩] scope pos) 0 it acc env) R s:=by
 refine codeAny_loop rfl J (fun n s hJ=>?_) n h
 show wpAny _ A ((compTurn (.ListComp elt [⟨tg,iter,[],0⟩] scope pos) 0 it acc env).onRaise (fun x=>do noteFrame x env; theTreesLotGoes x)) _ _ s
 refine wpAny_noted ?_
 rw [compTurn_list]
 refine wpAny_bind (wpAny_standAt (wpAny_bind (wpAny_mono (turn n s hJ) (fun r s₁ h₁=>?_) fun _ _ z=>z.elim)))
 cases r with
 | none=>exact wpAny_pure h₁
 | some v =>
  refine wpAny_bind (wpAny_mono h₁ (fun _ s₂ h₂=>?_) fun _ _ z=>z.elim)
  refine wpAny_bind (wpAny_mono h₂ (fun _ s₃ h₃=>?_) fun _ _ z=>z.elim)
  refine wpAny_bind (wpAny_tests_nil ?_)
  exact wpAny_bind (wpAny_bind (wpAny_mono h₃ (fun y s₄ h₄=>wpAny_bind (wpAny_mono h₄ (fun _ s₅ h₅=>wpAny_pure (wpAny_pure ⟨rfl,h₅⟩)) fun _ _ z=>z.elim)) fun _ _ z=>z.elim))
end
noncomputable def ah (X:Cx)(N:List Str)(scope:Scope)(cl:List (Str×Addr))(C:Addr)(s:Shared)(H:Hp)(fp:List Addr):Cx where
 prog:=X.prog
 w:=X.w
 K:=X.K
 mg:=X.mg
 base:=X.base
 A:=X.A
 N:=N
 s₀:=s
 H₀:=H
 env:=compEnvC scope cl C X.env
 outer:=X.stack
 stack:=X.stack
 ex:=fp
 fn:=fun _=>false
 calm:=X.calm
 pn:=X.pn
 xe:=noX
structure n0 (x:Str)(ys:List Str)(scope:Scope):Prop where
 kind:scope.kind=.function
 cell:∀ y∈scope.names,y.2≠.cell
 nm:∀ y∈scope.names,y.2=.local->scope.names.lookup y.1=some .local
 loc:scope.names.lookup x=some .local
 nd:(x::ys).Nodup
inductive Clo (X:Cx):List (Str×Addr)->Prop
 | nil:Clo X []
 | cons {y:Str} {c:Addr} {cl:List (Str×Addr)}:X.env.cells.lookup y=some c->Clo X cl->Clo X ((y,c)::cl)
theorem Clo.get {X:Cx}{cl:List (Str×Addr)}(h:Clo X cl):∀ {y:Str} {c:Addr},cl.lookup y=some c->X.env.cells.lookup y=some c:=by
 induction h with
 | nil=>intro y c e; cases e
 | @cons z d cl' hz _ ih =>
  intro y c e
  cases q:y==z with
  | true =>
   simp only [a2q,q] at e
   cases e
   rw [eq_of_beq q]; exact hz
  | false =>
   simp only [a2q,q] at e
   exact ih e
inductive Frees (X:Cx)(scope:Scope)(cl:List (Str×Addr)):List Str->List Nat->Prop
 | nil:Frees X scope cl [] []
 | cons {y:Str} {ys:List Str} {i:Nat} {is:List Nat} {c:Addr}:X.N[i]?=some y->Vis X.env.scope y->(X.env.kindOf y=some .cell\/X.env.kindOf y=some .free)->X.env.cells.lookup y=some c->cl.lookup y=some c ->
   ((relabel scope X.env).names.lookup y=some .cell\/(relabel scope X.env).names.lookup y=some .free)->Frees X scope cl ys is->Frees X scope cl (y::ys) (i::is)
theorem Frees.len {X:Cx}{scope:Scope}{cl:List (Str×Addr)}{ys:List Str}{is:List Nat}(F:Frees X scope cl ys is):is.length=ys.length:=by
 induction F with
 | nil=>rfl
 | cons _ _ _ _ _ _ _ ih=>rw [a0g,a0g,ih]
noncomputable def bj (σ:L2.St)(is:List Nat):L2.St:=is.map fun i=>(σ[i]?).join
theorem Frees.get {X:Cx}{scope:Scope}{cl:List (Str×Addr)}{ys:List Str}{is:List Nat}{σ:L2.St}(F:Frees X scope cl ys is):∀ {j:Nat} {y:Str} {v:V},ys[j]?=some y->(bj σ is)[j]?=some (some v) ->
  ∃ (i:Nat) (c:Addr),X.N[i]?=some y/\σ[i]?=some (some v)/\Vis X.env.scope y/\(X.env.kindOf y=some .cell\/X.env.kindOf y=some .free)/\X.env.cells.lookup y=some c/\cl.lookup y=some c /\
   ((relabel scope X.env).names.lookup y=some .cell\/(relabel scope X.env).names.lookup y=some .free):=by
 induction F with
 | nil=>intro j y v e; simp at e
 | @cons z zs i is c h1 h2 h3 h4 h5 h6 _ ih =>
  intro j y v e1 e2
  unfold bj at e2
  rw [a0w] at e2
  cases j with
  | zero =>
   rw [a1i] at e1 e2
   cases e1
   cases q:σ[i]? with
   | none=>rw [q] at e2; cases e2
   | some o =>
    rw [q] at e2
    have e3:o=some v:=a0t e2
    subst e3
    exact ⟨i,c,h1,q,h2,h3,h4,h5,h6⟩
  | succ j =>
   rw [a0E] at e1 e2
   exact ih e1 e2
theorem jZ {X:Cx}{pins:List (Addr×Obj)}{σ:L2.St}{H:Hp}{s:Shared}{x:Str}{ys:List Str}{is:List Nat}{scope:Scope}{cl:List (Str×Addr)}{fp:List Addr}{C:Addr}{h1:Heap}{t1:Nat}{m1:Str->Option Value}
  (I:Inv X pins σ H s) (hf:∀ b∈fp,fP X pins H b) (hfo:∀ b∈fp,b < s.heap.objs.size) (S:n0 x ys scope) (hcl:Clo X cl)
  (hfr:(scope.names.all fun p=>p.2 != .free || (cl.lookup p.1).isSome)=true) (fr:Frees X scope cl ys is)
  (hC:s.heap.objs.size<=C) (old:∀ b o,s.heap.get? b=some o->h1.get? b=some o) (hn:h1.Ns C m1) :
  Inv (ah X (x::ys) scope cl C s H fp) pins (none::bj σ is) H { s with heap:=h1,toks:=t1 }:=by
 have stk:∀ b,b≠X.env.locals->b ∉ X.fs->b ∉ frs X.stack:=fun b q1 q2 hb=>(a0r.mp (I.stkSub b hb)).elim q1 q2
 have key:∀ a k,(relabel scope X.env).names.lookup a=some k->(k=.cell\/k=.free)->∃ c,cl.lookup a=some c:=fun a k e hk=>by
  have hm:=a03 e
  obtain ⟨⟨n,k0⟩,hp,ep⟩:=a0z.mp hm
  have hk0:k0=.free/\n=a:=by
   dsimp only at ep
   split at ep
   ·rename_i hc
    simp only [a0j] at hc
    exact ⟨eq_of_beq hc.1.1,(a2K ep).1⟩
   ·obtain ⟨e1,e2⟩:=a2K ep
    subst e2
    rcases hk with z | z
    ·exact absurd z (S.cell _ hp)
    ·exact ⟨z,e1⟩
  obtain ⟨z1,z2⟩:=hk0
  subst z1 z2
  have q:=a0x.mp hfr _ hp
  have q2:(cl.lookup n).isSome=true:=by simpa using q
  exact a1A.mp q2
 refine ⟨⟨I.ok.mod,S.kind,I.ok.glob,I.ok.blt,hC,fun a b c e1 e2=>I.ok.inj a b c (hcl.get e1) (hcl.get e2),fun a ha=>?_,fun a c e=>absurd e a0f,I.ok.hd,I.ok.frames,.inl rfl,
   fun b hb=>⟨a0D (a0p (hfo b hb) hC),fun a c e=>(hf b hb).2.2.2.2.1 a c (hcl.get e)⟩,I.bs,a0y I.ok.bsz I.sz,fun b o e hb=>?_,fun b hb=>stk b (hf b hb).2.1 (hf b hb).2.2.1,I.stack,I.stkFree⟩,
  rfl,I.bare,Un.kept old,⟨m1,hn,fun j y v e1 e2 e3=>?_⟩,fun a c e=>?_,I.hok.fresh hC,fun a c e=>I.freeC a c (hcl.get e),fun p hp=>?_,I.hok.kept old,?_⟩
 ·rcases ha with e | e
  ·exact key a _ e (.inl rfl)
  ·exact key a _ e (.inr rfl)
 ·rcases (hf b hb).2.2.2.1 with z | z
  ·exact I.ok.noex b o e z
  ·exact absurd (a0p (Heap.lt_size (I.ok.bs b o e).1) z) (a04 _)
 ·cases j with
  | zero =>
   have z:(none:Option V)=some v:=a0t e2
   cases z
  | succ j =>
   obtain ⟨i,c,g1,g2,g3,g4,g5,g6,g7⟩:=fr.get (σ:=σ) (show ys[j]?=some y from e1) (show (bj σ is)[j]?=some (some v) from e2)
   obtain ⟨m0,hn0,hl0⟩:=I.loc
   obtain ⟨u,r,l⟩:=hl0 i y v g1 g2 g3
   rcases l with ⟨k,_⟩ | ⟨_,c',e',z⟩
   ·rcases g4 with q | q
    ·rw [k] at q; cases q
    ·rw [k] at q; cases q
   ·rw [g5] at e'
    cases e'
    obtain ⟨o,ho,hd⟩:=z
    exact ⟨u,r,.inr ⟨g7,c,g6,⟨o,old _ _ ho,hd⟩⟩⟩
 ·obtain ⟨v,o,ho,hd⟩:=I.cell a c (hcl.get e)
  exact ⟨v,o,old _ _ ho,hd⟩
 ·obtain ⟨e,n,ne,nf,d⟩:=I.pin p hp
  exact ⟨old _ _ e,n,a0D (a0p (Heap.lt_size e) hC),stk _ ne nf,d⟩
 ·show (none::bj σ is).length=(x::ys).length
  unfold bj
  rw [a0g,a0g,a0b,fr.len]
noncomputable abbrev iL (its:List Value):Obj:={ cls:=.type "list",data:=.seq its.toArray its.length }
theorem nA {X:Cx}(hc:X.calm=true):bI X (.builtin "all") (fun xs H Q=>∃ (a:Addr) (bs:List Bool),xs=[.ref a]/\SqL X.K H a (bs.map V.bl)/\Q (.bl (bs.all id)) H):=by
 intro pins s σ H xs us Q I r h
 obtain ⟨a,bs,rfl,hS,q⟩:=h
 obtain ⟨u,rfl,ru⟩:=cf r
 cases ru
 obtain ⟨its,rv,p,hz⟩:=I.list hS
 have hlen:its.toArray.size=bs.length:=by rw [a0n,<- rv.length,a0b]
 have hlt:a < s.heap.objs.size:=by obtain ⟨o,e,_⟩:=p.isList; exact Heap.lt_size e
 refine call_all_walk (wpAny_pyIter_list p.isList ?_)
 refine ⟨s.heap.objs.size,_,_,_,_,_,fun i=>bs.getD i true,rfl,Walks.list (A:=X.A.in1) (show X.A.in1.handled=none from I.ok.hd hc) s.heap.objs.size a (a0D hlt) its.toArray,⟨⟨_,Heap.get?_push_size _ rfl,rfl,rfl⟩,p.isList.push _⟩,fun i v s' Q' E' hv hQ=>?_,fun h' tk k=>?_⟩
 ·have hv':its[i]?=some v:=by simpa using hv
  have hi:i < its.length:=(a0v.mp hv').1
  have hib:i < bs.length:=by have:=rv.length; rw [a0b] at this; omega
  obtain ⟨w',e1,e2⟩:=rv.get (i:=i) (x:=.bl bs[i]) (by rw [a0s,a0h hib]; rfl)
  rw [hv'] at e1
  cases e1
  cases e2
  refine wpAny_truthy_bool ?_
  have e3:bs.getD i true=bs[i]:=by rw [a0c,a0h hib]; rfl
  rw [<- e3]; exact hQ
 ·have e:(a0k its.toArray.size).all (fun i=>bs.getD i true)=bs.all id:=by
   rw [hlen,Bool.eq_iff_iff,a0x,a0x]
   constructor
   ·intro z b hb
    obtain ⟨i,hi,e⟩:=List.getElem_of_mem hb
    have:=z i (a0U.mpr hi)
    rw [a0c,a0h hi] at this
    simpa [e] using this
   ·intro z i hi
    have hi':=a0U.mp hi
    rw [a0c,a0h hi']
    exact z _ (a2r hi')
  rw [e]
  exact ⟨.bl (bs.all id),H,I.kept (fun b o eo=>k b o (fun hm=>by
   have:b=s.heap.objs.size:=by simpa using hm
   exact absurd (this ▸ Heap.lt_size eo) (a04 _)) (Heap.get?_push_of_some _ eo)),rfl,q⟩
inductive Th where
 | non | bl (b:Bool) | int (i:Int) | str (x:Str) | tup (ts:List Th) | lst (ts:List Th)
mutual
noncomputable def Has (K:a0a)(H:Hp):Th->V->Prop
 | .non,v=>v=.non
 | .bl b,v=>v=.bl b
 | .int i,v=>v=.int i
 | .str x,v=>v=.str x
 | .tup ts,v=>∃ a vs,v=.ref a/\SqT K H a vs/\HasL K H ts vs
 | .lst ts,v=>∃ a vs,v=.ref a/\H a=some (.lst vs)/\HasL K H ts vs
noncomputable def HasL (K:a0a)(H:Hp):List Th->List V->Prop
 | [],vs=>vs=[]
 | t::ts,vs=>∃ v r,vs=v::r/\Has K H t v/\HasL K H ts r
end
noncomputable def Th.ty:Th->String
 | .non=>"NoneType" | .bl _=>"bool" | .int _=>"int" | .str _=>"str" | .tup _=>"tuple" | .lst _=>"list"
noncomputable def isI (c:String)(t:Th):Bool:=t.ty==c || (t.ty=="bool"&&c=="int")
theorem kit_type {K:a0a}{A B:String}:a08 K (.type A) (.type B)=a08 [] (.type A) (.type B):=by
 unfold a08 PySem.W.kitCls PySem.W.subIn
 rfl
theorem zM:∀ c∈["tuple","str","bool","int","list"],∀ n∈["NoneType","bool","int","str","tuple","list"],a08 [] (.type n) (.type c)=some (n==c || (n=="bool"&&c=="int")):=by decide +kernel
theorem zQ (t:Th):t.ty∈["NoneType","bool","int","str","tuple","list"]:=by cases t<;>simp [Th.ty]
theorem lb {c:String}(hc:c∈["tuple","str","bool","int","list"])(t:Th):a08 [] (.type t.ty) (.type c)=some (isI c t):=zM c hc t.ty (zQ t)
theorem jQ {H:Hp}{p:Addr}(h:H p=none)(o:HO):Same H (upd H p o):=fun b u q=>by rw [ab (aE q h)]; exact q
noncomputable def xu (K:a0a):R2:=fun x y H Q=>∃ a b xs ys,x=.ref a/\y=.ref b/\SqT K H a xs/\SqT K H b ys/\xs≠[]/\xs.length+ys.length<=sizeLine/\∀ v H',Same H H'->(∃ c,v=.ref c/\SqT K H' c (xs++ys))->Q v H'
theorem vh {X:Cx}:OpR X (binaryOp .Add) (xu X.K):=fun pins s σ H x y v u Q I rx ry h=>by
 obtain ⟨a,b,xs,ys,e1,e2,h1,h2,hx,hz,q⟩:=h
 exact vI pins s σ H x y v u Q I rx ry ⟨a,b,xs,ys,e1,e2,h1,h2,hx,hz,fun z=>q _ _ (Same.refl _) ⟨a,rfl,by rw [z,a0F]; exact h1⟩,fun _ p hp=>q _ _ (jQ hp _) ⟨p,rfl,SqT.of ai⟩⟩
theorem qU {X:Cx}{x:Str}{T:String}{pos:Pos}(hg:Gl X x)(hm:X.mg x=none)(hv:bootBuiltins x=some (.type T))(hn:x≠"__name__":=by decide)(hd:(x==("__debug__":Str))=false:=by decide):PE X (.Name x pos) (tC (.ty T)):=wj (v:=.ty T) hg hm hv rfl hn hd
theorem eM (ns:List Int):∀ k,k<=ns.length->preSum (fun i=>ns.getD i 0) k=(ns.take k).sum
 | 0,_=>rfl
 | k+1,h=>by
  have ih:=eM ns k (by omega)
  show preSum (fun i=>ns.getD i 0) k+ns.getD k 0=_
  rw [ih,List.take_succ,List.sum_append,a0c,a0h (show k < ns.length by omega)]
  simp
theorem nE {X:Cx}(hc:X.calm=true):bI X (.builtin "sum") (fun xs H Q=>∃ (a:Addr) (ns:List Int),xs=[.ref a]/\SqL X.K H a (ns.map V.int)/\Q (.int ns.sum) H):=by
 intro pins s σ H xs us Q I r h
 obtain ⟨a,ns,rfl,hS,q⟩:=h
 obtain ⟨u,rfl,ru⟩:=cf r
 cases ru
 obtain ⟨its,rv,p,hz⟩:=I.list hS
 have hlen:its.toArray.size=ns.length:=by rw [a0n,<- rv.length,a0b]
 have hlt:a < s.heap.objs.size:=by obtain ⟨o,e,_⟩:=p.isList; exact Heap.lt_size e
 refine call_sum_walkG (wpAny_pyIter_list p.isList ?_)
 refine ⟨s.heap.objs.size,_,_,_,_,_,fun i=>ns.getD i 0,rfl,Walks.list (A:=X.A.in1) (show X.A.in1.handled=none from I.ok.hd hc) s.heap.objs.size a (a0D hlt) its.toArray,⟨⟨_,Heap.get?_push_size _ rfl,rfl,rfl⟩,p.isList.push _⟩,fun b hb=>?_,fun i v hv=>?_,fun h' tk t' k=>?_⟩
 ·show b < (s.heap.push _).objs.size
  rw [Heap.size_push]
  rcases a0r.mp hb with rfl | hb
  ·exact a1u _
  ·rw [a0q.mp hb]; exact Nat.lt_succ_of_lt hlt
 ·have hv':its[i]?=some v:=by simpa using hv
  have hi:i < its.length:=(a0v.mp hv').1
  have hib:i < ns.length:=by have:=rv.length; rw [a0b] at this; omega
  obtain ⟨w',e1,e2⟩:=rv.get (i:=i) (x:=.int ns[i]) (by rw [a0s,a0h hib]; rfl)
  rw [hv'] at e1
  cases e1
  obtain ⟨t,rfl⟩:=e2
  have e3:ns.getD i 0=ns[i]:=by rw [a0c,a0h hib]; rfl
  exact ⟨t,by show Value.int ns[i] t=Value.int (ns.getD i 0) t; rw [e3]⟩
 ·have e:preSum (fun i=>ns.getD i 0) its.toArray.size=ns.sum:=by
   rw [hlen,eM ns _ (a0m _),a1v]
  rw [e]
  exact ⟨.int ns.sum,H,I.kept (fun b o eo=>k b o (fun hm=>by
   have:b=s.heap.objs.size:=by simpa using hm
   exact absurd (this ▸ Heap.lt_size eo) (a04 _)) (Heap.get?_push_of_some _ eo)),⟨t',rfl⟩,q⟩
mutual
noncomputable def toD:Th->PyData
 | .non=>.none
 | .bl b=>.bool b
 | .int i=>.int i
 | .str x=>.str x
 | .tup ts=>.tuple (d0 ts)
 | .lst ts=>.list (d0 ts)
noncomputable def d0:List Th->List PyData
 | []=>[]
 | t::ts=>toD t::d0 ts
end
section
variable {X:Cx}{pins:List (Addr×Obj)}{σ:L2.St}{H:Hp}{s:Shared}
mutual
theorem Has.reads (I:Inv X pins σ H s):∀ {t:Th} {v:V} {u:Value},Has X.K H t v->RelV v u->∃ as,Reads s.heap u (toD t) as
 | .non,_,u,h,r=>by
  obtain rfl:_=V.non:=h
  obtain rfl:u=Value.none:=r
  exact ⟨_,.none⟩
 | .bl b,_,u,h,r=>by
  obtain rfl:_=V.bl b:=h
  obtain rfl:u=Value.bool b:=r
  exact ⟨_,.bool b⟩
 | .int i,_,u,h,r=>by
  obtain rfl:_=V.int i:=h
  obtain ⟨t,rfl⟩:∃ t,u=Value.int i t:=r
  exact ⟨_,.int i t⟩
 | .str x,_,u,h,r=>by
  obtain rfl:_=V.str x:=h
  obtain ⟨t,rfl⟩:∃ t,u=Value.str x t:=r
  exact ⟨_,.str x t⟩
 | .tup ts,_,u,⟨a,vs,e,hS,hL⟩,r=>by
  subst e
  obtain rfl:u=Value.ref a:=r
  obtain ⟨its,rv,⟨o,h1,h2,n,h3⟩,_⟩:=I.tuple hS
  obtain ⟨as,ra⟩:=HasL.reads I hL rv
  exact ⟨_,.tuple h1 h2 h3 (by simpa using ra)⟩
 | .lst ts,_,u,⟨a,vs,e,hS,hL⟩,r=>by
  subst e
  obtain rfl:u=Value.ref a:=r
  obtain ⟨its,rv,⟨o,n,h1,h2,_,h3⟩,_⟩:=I.list (SqL.of hS)
  obtain ⟨as,ra⟩:=HasL.reads I hL rv
  exact ⟨_,.list h1 h2 h3 (by simpa using ra)⟩
theorem HasL.reads (I:Inv X pins σ H s):∀ {ts:List Th} {vs:List V} {us:List Value},HasL X.K H ts vs->Vals vs us->∃ as,ReadsAll s.heap us (d0 ts) as
 | [],vs,us,h,r=>by
  obtain rfl:vs=[]:=h
  cases r
  exact ⟨_,.nil⟩
 | t::ts,vs,us,⟨v,w',e,h1,h2⟩,r=>by
  subst e
  cases r with
  | cons r1 r2 =>
   obtain ⟨as,ra⟩:=Has.reads I h1 r1
   obtain ⟨bs,rb⟩:=HasL.reads I h2 r2
   exact ⟨_,.cons ra rb⟩
end
end
noncomputable abbrev iR (t:Th):Prop:=SeqAt.shaped (toD t)=true
theorem lP {X:Cx}(hu:X.A.units+64 < cLine):OpR X (compareOp .Eq) (fun x y H Q=>∃ t t',Has X.K H t x/\Has X.K H t' y/\iR t/\iR t'/\Q (.bl (PyData.eqv (toD t) (toD t'))) H):=by
 intro pins s σ H x y v u Q I rx ry h
 obtain ⟨t,t',h1,h2,o1,o2,q⟩:=h
 obtain ⟨as,ra⟩:=Has.reads I h1 rx
 obtain ⟨bs,rb⟩:=Has.reads I h2 ry
 exact a3H ra rb o1 o2 hu ⟨.bl _,H,I,rfl,q⟩
theorem tI {X:Cx}(hu:X.A.units+64 < cLine):OpR X (compareOp .NotEq) (fun x y H Q=>∃ t t',Has X.K H t x/\Has X.K H t' y/\iR t/\iR t'/\Q (.bl (!PyData.eqv (toD t) (toD t'))) H):=by
 intro pins s σ H x y v u Q I rx ry h
 obtain ⟨t,t',h1,h2,o1,o2,q⟩:=h
 obtain ⟨as,ra⟩:=Has.reads I h1 rx
 obtain ⟨bs,rb⟩:=Has.reads I h2 ry
 exact a3I ra rb o1 o2 hu ⟨.bl _,H,I,rfl,q⟩
section
variable {prog:Program}{w:World}{A:Around}{E:Value->Shared->Prop}{s:Shared}
theorem ee {t sl:Addr}{items:Array Value}{vl vu:Value}{lo hi:Option Int}{Q:Value->Shared->Prop}(ht:IsTup s.heap t items)(hs:s.heap.IsSliceOf sl vl vu .none)(pl:IsPart vl lo)(pu:IsPart vu hi)
  (hw:HT.sIx items.size 0 lo=0/\HT.sIx items.size items.size hi=items.size) (h:Q (.ref t) s):wpAny (model prog w) A (getItem (.ref t) (.ref sl)) Q E s:=by
 obtain ⟨os,hos,hcs,hds⟩:=id hs
 have hTs:s.TypeIs (.ref sl) "slice":=⟨os,hos,hcs⟩
 unfold getItem
 try with_reducible refine wpAny_holding ?_
 first | refine wpAny_bind (wpAny_pure ?_) | skip
 refine wpAny_bind (wpAny_sequenceKey ht.typeIs (by decide) ?_)
 refine wpAny_bind (wpAny_callSpecial?_slot (name:=Str.ofString "__getitem__") ht.typeIs a0L
  (wpAny_call_entry a0L ht.typeIs entry_tuple_getitem ?_ (args_tuple_getitem _ _)))
 show wpAny _ _ (Builtin.Tuple.tupleItemsOf (.ref t) >>= _) _ _ s
 refine wpAny_bind (tupleItemsOf_ ht ?_)
 refine wpAny_bind (wpAny_typeOf hTs ?_)
 rw [if_pos (by decide)]
 refine wpAny_bind (HT.sliceApplied_gen hs pl pu ?_)
 have hyes:(((HT.sIx items.size 0 lo:Nat):Int)==0&&(1:Int)==1&&(HT.sIx items.size items.size hi-HT.sIx items.size 0 lo)==items.size)=true:=by
  rw [hw.1,hw.2]
  simp
 show wpAny _ _ (if (((HT.sIx items.size 0 lo:Nat):Int)==0&&(1:Int)==1&&(HT.sIx items.size items.size hi-HT.sIx items.size 0 lo)==items.size)=true then _ else _) _ _ s
 rw [if_pos hyes]
 unfold Builtin.Tuple.tupleIsExact
 refine wpAny_bind (wpAny_bind (wpAny_typeOf ht.typeIs (wpAny_pure ?_)))
 rw [if_pos (by decide)]
 first
  | exact wpAny_bind (wpAny_rule (wpAny_pure ⟨_,rfl,wpAny_pure h⟩))
  | exact wpAny_bind (wpAny_rule (wpAny_bind (wpAny_pure (wpAny_pure ⟨_,rfl,wpAny_pure h⟩))))
end
section
variable {X:Cx}
noncomputable def s9 (K:a0a):V->Option Int->Option Int->Hp->VK->Prop:=fun x lo hi H Q=>∃ a xs,x=.ref a/\SqT K H a xs/\∀ v H',Same H H'->(∃ c,v=.ref c/\SqT K H' c (eg xs lo hi))->Q v H'
theorem mi:SlR X (s9 X.K):=by
 intro pins s σ H x v vl vu lo hi sl Q I rx hs pl pu h
 obtain ⟨a,xs,rfl,hx,q⟩:=h
 by_cases hw:HT.sIx xs.length 0 lo=0/\HT.sIx xs.length xs.length hi=xs.length
 ·cases rx
  obtain ⟨its,r,ht,hz⟩:=I.tuple hx
  have hlen:its.toArray.size=xs.length:=by rw [a0n]; exact r.length.symm
  refine ⟨"tuple",_,a0L.lookup,ht.typeIs,?_⟩
  refine ee ht hs pl pu (by rw [hlen]; exact hw) ⟨.ref a,H,I,rfl,q _ _ (Same.refl H) ⟨a,rfl,?_⟩⟩
  have e:eg xs lo hi=xs:=by
   unfold eg
   rw [hw.1,hw.2]
   simp
  rw [e]
  exact hx
 ·exact AA pins s σ H _ v vl vu lo hi sl Q I rx hs pl pu ⟨a,xs,rfl,hx,hw,fun p hp=>q _ _ (jQ hp _) ⟨p,rfl,SqT.of ai⟩⟩
end
noncomputable def FN (K:a0a):R2:=fun x y H Q=>∃ p xs i v,x=.ref p/\y=.int i/\(SqL K H p xs\/SqT K H p xs)/\atI xs i=some v/\Q v H
theorem ix_any {X:Cx}:IxR X (FN X.K):=fun value slice pins s σ H x y v u Q I rx ry h hs=>by
 obtain ⟨p,xs,i,z,e1,e2,hq,ha,q⟩:=h
 rcases hq with hq | hq
 ·exact vP value slice pins s σ H x y v u Q I rx ry ⟨p,xs,i,z,e1,e2,hq,ha,q⟩ hs
 ·exact yg value slice pins s σ H x y v u Q I rx ry ⟨p,xs,i,z,e1,e2,hq,ha,q⟩ hs
end L3

namespace L3
open PySem PySem.Spec PySem.Builtin PySem.Builtin.Str PyProof.Rows L2
end L3

namespace L3
open PySem PySem.Spec PyProof.Rows L2
noncomputable def SqO (h:Heap):Bool->Addr->Array Value->Prop
 | true,a,xs=>h.IsTuple a xs
 | false,a,xs=>h.IsList a xs
noncomputable def ItO (h:Heap):Bool->Addr->Addr->Nat->Prop
 | true,it,a,n=>h.IsTupleIter it a n
 | false,it,a,n=>h.IsListIter it a n
theorem SqO.at {h h':Heap}{k:Bool}{a:Addr}{xs:Array Value}(x:SqO h k a xs)(e:∀ o,h.get? a=some o->h'.get? a=some o):SqO h' k a xs:=by
 cases k<;>(obtain ⟨o,ho,r⟩:=x; exact ⟨o,e o ho,r⟩)
theorem ItO.at {h h':Heap}{k:Bool}{it a:Addr}{n:Nat}(x:ItO h k it a n)(e:∀ o,h.get? it=some o->h'.get? it=some o):ItO h' k it a n:=by
 cases k<;>(obtain ⟨o,ho,r⟩:=x; exact ⟨o,e o ho,r⟩)
theorem ItO.obj {h:Heap}{k:Bool}{it a:Addr}{n:Nat}(x:ItO h k it a n):∃ o,h.get? it=some o/\∀ v,o.data≠.cell v:=by
 cases k<;>(obtain ⟨o,ho,_,d⟩:=x; exact ⟨o,ho,fun v z=>by rw [d] at z; cases z⟩)
theorem SqO.lt {h:Heap}{k:Bool}{a:Addr}{xs:Array Value}(x:SqO h k a xs):a < h.objs.size:=by
 cases k<;>(obtain ⟨o,ho,_⟩:=x; exact Heap.lt_size ho)
section
variable {prog:Program}{w:World}{A:Around}{E:Value->Shared->Prop}{s:Shared}
theorem ku {it t:Addr}{i:Nat}{xs:Array Value}{x:Value}{Q:Value->Shared->Prop}(hit:s.heap.IsTupleIter it t i)(ht:s.heap.IsTuple t xs)(hx:xs[i]?=some x)
  (q:∀ h',h'.IsTupleIter it t (i+1)->Heap.SameBut it s.heap h'->Q x { s with heap:=h' }):wpAny (model prog w) A (Builtin.SmallTypes.nextOf (.ref it)) Q E s:=by
 obtain ⟨u,hu,cu,du⟩:=id hit; obtain ⟨v,hv,_,nv,dv⟩:=ht
 unfold Builtin.SmallTypes.nextOf
 refine wpAny_bind (wpAny_callSpecial?_slot (name:=Str.ofString "__next__") hit.typeIs F.slot_tuple_iterator_next (wpAny_call_entry F.slot_tuple_iterator_next hit.typeIs F.entry_tuple_iterator_next ?_ (F.args_tuple_iterator_next_1 _)))
 show wpAny _ _ (field (.ref it) 0 >>= _) _ _ _; refine wpAny_bind (wpAny_field hu du (x:=.ref t) rfl ?_)
 show wpAny _ _ (if (Value.ref t==Value.none)=true then _ else _) _ _ _; rw [if_neg (by intro z; cases z)]
 show wpAny _ _ (field (.ref it) 1 >>= _) _ _ _; refine wpAny_bind (wpAny_field hu du (x:=.int i 0) rfl ?_)
 show wpAny _ _ (seqItems? (.ref t) >>= _) _ _ _; refine wpAny_bind (wpAny_seqItems hv dv ?_)
 simp only [hx,a09]
 exact wpAny_bind (wpAny_setField hu du (by simp) (wpAny_pure ⟨x,rfl,wpAny_pure (q _ ⟨_,Heap.get?_update_self _ hu (Obj.isFreed_of_fields (Obj.data_mapFields du _)),(Obj.cls_mapFields ..).trans cu,by rw [Obj.data_mapFields du]; simp [rawInt]⟩ (Heap.SameBut.update ..))⟩))
theorem mZ {it t:Addr}{i:Nat}{xs:Array Value}{Q:Value->Shared->Prop}(hh:A.handled=none)(hit:s.heap.IsTupleIter it t i)(ht:s.heap.IsTuple t xs)(hx:xs[i]?=none)
  (q:∀ h' e,Heap.ExtBut it s.heap h'->(∃ o,h'.get? e=some o/\o.cls=.type "StopIteration")->E (.ref e) { s with heap:=h' }):wpAny (model prog w) A (Builtin.SmallTypes.nextOf (.ref it)) Q E s:=by
 obtain ⟨u,hu,cu,du⟩:=id hit; obtain ⟨v,hv,_,nv,dv⟩:=ht
 unfold Builtin.SmallTypes.nextOf
 refine wpAny_bind (wpAny_callSpecial?_slot (name:=Str.ofString "__next__") hit.typeIs F.slot_tuple_iterator_next (wpAny_call_entry F.slot_tuple_iterator_next hit.typeIs F.entry_tuple_iterator_next ?_ (F.args_tuple_iterator_next_1 _)))
 show wpAny _ _ (field (.ref it) 0 >>= _) _ _ _; refine wpAny_bind (wpAny_field hu du (x:=.ref t) rfl ?_)
 show wpAny _ _ (if (Value.ref t==Value.none)=true then _ else _) _ _ _; rw [if_neg (by intro z; cases z)]
 show wpAny _ _ (field (.ref it) 1 >>= _) _ _ _; refine wpAny_bind (wpAny_field hu du (x:=.int i 0) rfl ?_)
 show wpAny _ _ (seqItems? (.ref t) >>= _) _ _ _; refine wpAny_bind (wpAny_seqItems hv dv ?_)
 simp only [hx,a09]
 refine wpAny_bind (wpAny_rule (wpAny_bind (wpAny_setField hu du (by simp) ?_))); show wpAny _ _ (newExc (.type "StopIteration") [] >>= _) _ _ _
 refine wpAny_bind ?_; simp only [newTuple,newExc]
 refine wpAny_bind (wpAny_newObj_type ?_ (by size_fits)); refine wpAny_bind (m:=firstArgMember _ _) (wpAny_of_eq (a:=Value.none) (by first | rfl | (simp only [firstArgMember]; rfl)) (wpAny_newObj_type ?_ (by size_fits)))
 simp only [raiseNew]
 refine wpAny_bind (wpAny_handled ?_); first | rw [hh] | rw [show A.in1.handled=none from hh]
 exact wpAny_bind (wpAny_pure (wpAny_throw (q _ _ (((Heap.SameBut.update ..).extBut.push _).push _) ⟨_,Heap.get?_push_size _ rfl,rfl⟩)))
theorem dC {k:Bool}{it t:Addr}{i:Nat}{xs:Array Value}{x:Value}{Q:Value->Shared->Prop}(hit:ItO s.heap k it t i)(ht:SqO s.heap k t xs)(hx:xs[i]?=some x)
  (q:∀ h',ItO h' k it t (i+1)->Heap.SameBut it s.heap h'->Q x { s with heap:=h' }):wpAny (model prog w) A (Builtin.SmallTypes.nextOf (.ref it)) Q E s:=by
 cases k with
 | false=>exact wpAny_nextOf_list_item (show s.heap.IsListIter it t i from hit) (show s.heap.IsList t xs from ht) hx q
 | true=>exact ku hit ht hx q
theorem gX {k:Bool}{it t:Addr}{i:Nat}{xs:Array Value}{Q:Value->Shared->Prop}(hh:A.handled=none)(hit:ItO s.heap k it t i)(ht:SqO s.heap k t xs)(hx:xs[i]?=none)
  (q:∀ h' e,Heap.ExtBut it s.heap h'->(∃ o,h'.get? e=some o/\o.cls=.type "StopIteration")->E (.ref e) { s with heap:=h' }):wpAny (model prog w) A (Builtin.SmallTypes.nextOf (.ref it)) Q E s:=by
 cases k with
 | false=>exact wpAny_nextOf_list_end hh (show s.heap.IsListIter it t i from hit) (show s.heap.IsList t xs from ht) hx q
 | true=>exact mZ hh hit ht hx q
theorem nr {z TI TO i1 i2 a1 a2:Addr}{k1 k2:Bool}{n m:Nat}{xs ys:Array Value}{x y a b:Value}{Q:Value->Shared->Prop}(D:ZipApart z TI TO i1 i2 a1 a2)
  (hz:IsZip s.heap z TI TO .none) (hI:IsPair s.heap TI (.ref i1) (.ref i2)) (hO:IsPair s.heap TO a b) (h1:ItO s.heap k1 i1 a1 n) (h2:ItO s.heap k2 i2 a2 m) (q1:SqO s.heap k1 a1 xs) (q2:SqO s.heap k2 a2 ys) (hx:xs[n]?=some x) (hy:ys[m]?=some y)
  (q:∀ h',IsZip h' z TI TO (rawInt s.heap.objs.size)->IsPair h' TO x y->ItO h' k1 i1 a1 (n+1)->ItO h' k2 i2 a2 (m+1)->IsPair h' s.heap.objs.size x y->h'.objs.size=s.heap.objs.size+1 ->
   (∀ c o,c≠z->c≠TO->c≠i1->c≠i2->s.heap.get? c=some o->h'.get? c=some o)->Q (.ref s.heap.objs.size) { s with heap:=h' }) :
  wpAny (model prog w) A (Builtin.«zip.__next__» ⟨[.ref z],[]⟩) (fun fin s'=>∃ v,fin=.done (.ret v)/\Q v s') E s:=by
 show wpAny _ _ (field (.ref z) 2 >>= _) _ _ _; refine wpAny_bind (wpAny_field hz rfl (x:=.bool false) rfl ?_)
 show wpAny _ _ (field (.ref z) 3 >>= _) _ _ _; refine wpAny_bind (wpAny_field hz rfl (x:=.ref TI) rfl (wpAny_bind (wpAny_seqItems hI rfl ?_)))
 show wpAny _ _ (Builtin.SmallTypes.ownedTupleIsFree (.ref z) >>= _) _ _ _; refine wpAny_bind ?_
 unfold Builtin.SmallTypes.ownedTupleIsFree
 refine wpAny_bind (wpAny_field hz rfl (x:=.none) rfl (wpAny_pure ?_)); simp only [if_true]
 refine wpAny_bind (wpAny_rule (wpAny_bind (wpAny_field hz rfl (x:=.ref TO) rfl (wpAny_bind (wpAny_setField_rec hz (by simp) fun g1 z1 s1=>?_)))))
 replace z1:IsZip g1 z TI TO .ellipsis:=z1
 refine wpAny_bind ?_; simp only [a3l,a3s,a3c,a3m]
 refine wpAny_bind (wpAny_bind (wpAny_onRaise ?_)); show wpAny _ _ (Builtin.SmallTypes.nextOf (.ref i1) >>= _) _ _ _
 refine wpAny_bind (dC (h1.at fun o e=>s1.extBut _ _ D.i1z e) (q1.at fun o e=>s1.extBut _ _ D.l1z e) hx fun g2 r2 s2=>wpAny_pure ?_)
 have p2:IsPair g2 TO a b:=s2.extBut _ _ D.TOi1 (s1.extBut _ _ D.TOz hO)
 refine wpAny_bind (wpAny_seqItems p2 rfl (wpAny_bind (wpAny_updateSeq_pair p2 fun g3 p3 s3=>wpAny_bind (wpAny_letGo (wpAny_pure ?_)))))
 replace p3:IsPair g3 TO x b:=p3
 refine wpAny_bind (wpAny_bind (wpAny_onRaise ?_)); show wpAny _ _ (Builtin.SmallTypes.nextOf (.ref i2) >>= _) _ _ _
 refine wpAny_bind (dC (h2.at fun o e=>s3.extBut _ _ D.TOi2.symm (s2.extBut _ _ D.i12.symm (s1.extBut _ _ D.i2z e))) (q2.at fun o e=>s3.extBut _ _ D.l2TO (s2.extBut _ _ D.l2i1 (s1.extBut _ _ D.l2z e))) hy fun g4 r4 s4=>wpAny_pure ?_)
 have p4:IsPair g4 TO x b:=s4.extBut _ _ D.TOi2 p3
 refine wpAny_bind (wpAny_seqItems p4 rfl (wpAny_bind (wpAny_updateSeq_pair p4 fun g5 p5 s5=>wpAny_bind (wpAny_letGo (wpAny_pure (wpAny_pure ?_))))))
 replace p5:IsPair g5 TO x y:=p5
 refine wpAny_bind (wpAny_seqItems p5 rfl (wpAny_bind (wpAny_newTuple ?_)))
 have sz:g5.objs.size=s.heap.objs.size:=by rw [s5.1,s4.1,s3.1,s2.1,s1.1]
 have z5:IsZip g5 z TI TO .ellipsis:=s5.extBut _ _ D.TOz.symm (s4.extBut _ _ D.i2z.symm (s3.extBut _ _ D.TOz.symm (s2.extBut _ _ D.i1z.symm z1)))
 have k5:∀ c o,c≠z->c≠TO->c≠i1->c≠i2->s.heap.get? c=some o->g5.get? c=some o:=fun c o n1 n2 n3 n4 e=>s5.extBut _ _ n2 (s4.extBut _ _ n4 (s3.extBut _ _ n2 (s2.extBut _ _ n3 (s1.extBut _ _ n1 e))))
 have r5:ItO g5 k1 i1 a1 (n+1):=r2.at fun o e=>s5.extBut _ _ D.TOi1.symm (s4.extBut _ _ D.i12 (s3.extBut _ _ D.TOi1.symm e))
 have t5:ItO g5 k2 i2 a2 (m+1):=r4.at fun o e=>s5.extBut _ _ D.TOi2.symm e
 have zlt:z < g5.objs.size:=Heap.lt_size z5
 show wpAny _ _ (Builtin.SmallTypes.ownedTupleHandOut (.ref z) (.ref g5.objs.size) >>= _) _ _ _; refine wpAny_bind ?_
 unfold Builtin.SmallTypes.ownedTupleHandOut
 have z6:IsZip (g5.push { cls:=.type "tuple",data:=.seq #[x,y] }) z TI TO .ellipsis:=Heap.get?_push_of_some _ z5
 refine wpAny_bind (wpAny_setField_rec z6 (by simp) fun g7 z7 s7=>?_)
 replace z7:IsZip g7 z TI TO (rawInt g5.objs.size):=z7
 refine wpAny_setField_rec z7 (by simp) fun g8 z8 s8=>?_
 replace z8:IsZip g8 z TI TO (rawInt g5.objs.size):=z8
 have up:∀ c o,c≠z->g5.get? c=some o->g8.get? c=some o:=fun c o n1 e=>s8.extBut _ _ n1 (s7.extBut _ _ n1 (Heap.get?_push_of_some _ e))
 have p8:IsPair g8 g5.objs.size x y:=s8.extBut _ _ (a1b zlt) (s7.extBut _ _ (a1b zlt) (Heap.get?_push_size _ rfl))
 have e8:g8.objs.size=g5.objs.size+1:=by rw [s8.1,s7.1,Heap.size_push]
 rw [sz] at z8 p8 e8
 refine wpAny_pure ⟨_,rfl,?_⟩
 show Q (.ref g5.objs.size) _
 rw [sz]
 exact q g8 z8 (up _ _ D.TOz p5) (r5.at fun o e=>up _ o D.i1z e) (t5.at fun o e=>up _ o D.i2z e) p8 e8 fun c o n1 n2 n3 n4 e=>up c o n1 (k5 c o n1 n2 n3 n4 e)
theorem sG {z TI TO i1 i2 a1 a2:Addr}{k1 k2:Bool}{n m:Nat}{xs ys:Array Value}{a b:Value}{Q:Fin->Shared->Prop}(hh:A.handled=none)(D:ZipApart z TI TO i1 i2 a1 a2)
  (hz:IsZip s.heap z TI TO .none) (hI:IsPair s.heap TI (.ref i1) (.ref i2)) (hO:IsPair s.heap TO a b) (h1:ItO s.heap k1 i1 a1 n) (h2:ItO s.heap k2 i2 a2 m) (q1:SqO s.heap k1 a1 xs) (q2:SqO s.heap k2 a2 ys) (hend:xs[n]?=none\/ys[m]?=none)
  (q:∀ h' e,(∀ c o,c≠z->c≠TO->c≠i1->c≠i2->s.heap.get? c=some o->h'.get? c=some o)->(∃ o,h'.get? e=some o/\o.cls=.type "StopIteration")->E (.ref e) { s with heap:=h' }) :
  wpAny (model prog w) A (Builtin.«zip.__next__» ⟨[.ref z],[]⟩) Q E s:=by
 show wpAny _ _ (field (.ref z) 2 >>= _) _ _ _; refine wpAny_bind (wpAny_field hz rfl (x:=.bool false) rfl ?_)
 show wpAny _ _ (field (.ref z) 3 >>= _) _ _ _; refine wpAny_bind (wpAny_field hz rfl (x:=.ref TI) rfl (wpAny_bind (wpAny_seqItems hI rfl ?_)))
 show wpAny _ _ (Builtin.SmallTypes.ownedTupleIsFree (.ref z) >>= _) _ _ _; refine wpAny_bind ?_
 unfold Builtin.SmallTypes.ownedTupleIsFree
 refine wpAny_bind (wpAny_field hz rfl (x:=.none) rfl (wpAny_pure ?_)); simp only [if_true]
 refine wpAny_bind (wpAny_rule (wpAny_bind (wpAny_field hz rfl (x:=.ref TO) rfl (wpAny_bind (wpAny_setField_rec hz (by simp) fun g1 z1 s1=>?_)))))
 replace z1:IsZip g1 z TI TO .ellipsis:=z1
 refine wpAny_bind ?_; simp only [a3l,a3s,a3c,a3m]
 refine wpAny_bind (wpAny_bind (wpAny_onRaise ?_)); show wpAny _ _ (Builtin.SmallTypes.nextOf (.ref i1) >>= _) _ _ _
 cases hx:xs[n]? with
 | none =>
  refine wpAny_bind (gX hh (h1.at fun o e=>s1.extBut _ _ D.i1z e) (q1.at fun o e=>s1.extBut _ _ D.l1z e) hx fun g2 e s2 he=>?_)
  obtain ⟨oe,ho,ce⟩:=he
  have z2:IsZip g2 z TI TO .ellipsis:=s2 _ _ D.i1z.symm z1
  have ez:e≠z:=fun y=>by subst y; rw [z2] at ho; cases ho; simp at ce
  exact wpAny_setField_rec z2 (by simp) fun g3 _ s3=>q g3 e (fun c o n1 _ n3 _ y=>s3.extBut _ _ n1 (s2 _ _ n3 (s1.extBut _ _ n1 y))) ⟨oe,s3.extBut _ _ ez ho,ce⟩
 | some x =>
  have hy:ys[m]?=none:=hend.elim (fun y=>by rw [hx] at y; cases y) id
  refine wpAny_bind (dC (h1.at fun o e=>s1.extBut _ _ D.i1z e) (q1.at fun o e=>s1.extBut _ _ D.l1z e) hx fun g2 r2 s2=>wpAny_pure ?_)
  have p2:IsPair g2 TO a b:=s2.extBut _ _ D.TOi1 (s1.extBut _ _ D.TOz hO)
  refine wpAny_bind (wpAny_seqItems p2 rfl (wpAny_bind (wpAny_updateSeq_pair p2 fun g3 p3 s3=>wpAny_bind (wpAny_letGo (wpAny_pure ?_)))))
  refine wpAny_bind (wpAny_bind (wpAny_onRaise ?_)); show wpAny _ _ (Builtin.SmallTypes.nextOf (.ref i2) >>= _) _ _ _
  refine wpAny_bind (gX hh (h2.at fun o e=>s3.extBut _ _ D.TOi2.symm (s2.extBut _ _ D.i12.symm (s1.extBut _ _ D.i2z e))) (q2.at fun o e=>s3.extBut _ _ D.l2TO (s2.extBut _ _ D.l2i1 (s1.extBut _ _ D.l2z e))) hy fun g4 e s4 he=>?_)
  obtain ⟨oe,ho,ce⟩:=he
  have z4:IsZip g4 z TI TO .ellipsis:=s4 _ _ D.i2z.symm (s3.extBut _ _ D.TOz.symm (s2.extBut _ _ D.i1z.symm z1))
  have ez:e≠z:=fun y=>by subst y; rw [z4] at ho; cases ho; simp at ce
  exact wpAny_setField_rec z4 (by simp) fun g5 _ s5=>q g5 e (fun c o n1 n2 n3 n4 y=>s5.extBut _ _ n1 (s4 _ _ n4 (s3.extBut _ _ n2 (s2.extBut _ _ n3 (s1.extBut _ _ n1 y))))) ⟨oe,s5.extBut _ _ ez ho,ce⟩
theorem kG {z TI TO i1 i2 a1 a2:Addr}{k1 k2:Bool}{n m:Nat}{xs ys:Array Value}{x y a b:Value}{Q:Option Value->Shared->Prop}(D:ZipApart z TI TO i1 i2 a1 a2)
  (hz:IsZip s.heap z TI TO .none) (hI:IsPair s.heap TI (.ref i1) (.ref i2)) (hO:IsPair s.heap TO a b) (h1:ItO s.heap k1 i1 a1 n) (h2:ItO s.heap k2 i2 a2 m) (q1:SqO s.heap k1 a1 xs) (q2:SqO s.heap k2 a2 ys) (hx:xs[n]?=some x) (hy:ys[m]?=some y)
  (q:∀ h',IsZip h' z TI TO (rawInt s.heap.objs.size)->IsPair h' TO x y->ItO h' k1 i1 a1 (n+1)->ItO h' k2 i2 a2 (m+1)->IsPair h' s.heap.objs.size x y->h'.objs.size=s.heap.objs.size+1 ->
   (∀ c o,c≠z->c≠TO->c≠i1->c≠i2->s.heap.get? c=some o->h'.get? c=some o)->Q (some (.ref s.heap.objs.size)) { s with heap:=h' }):wpAny (model prog w) A (pyNext (.ref z)) Q E s:=by
 have hT:s.TypeIs (.ref z) "zip":=⟨_,hz,rfl⟩
 unfold pyNext
 exact wpAny_bind (wpAny_attempt (wpAny_callSpecial?_slot (name:=Str.ofString "__next__") hT F.slot_zip_next (wpAny_call_entry F.slot_zip_next hT F.entry_zip_next (nr D hz hI hO h1 h2 q1 q2 hx hy fun h' y1 y2 y3 y4 y5 y6 y7=>wpAny_pure (q h' y1 y2 y3 y4 y5 y6 y7)) (F.args_zip_next_1 _))))
theorem mK {z TI TO i1 i2 a1 a2:Addr}{k1 k2:Bool}{n m:Nat}{xs ys:Array Value}{a b:Value}{Q:Option Value->Shared->Prop}(hh:A.handled=none)(D:ZipApart z TI TO i1 i2 a1 a2)
  (hz:IsZip s.heap z TI TO .none) (hI:IsPair s.heap TI (.ref i1) (.ref i2)) (hO:IsPair s.heap TO a b) (h1:ItO s.heap k1 i1 a1 n) (h2:ItO s.heap k2 i2 a2 m) (q1:SqO s.heap k1 a1 xs) (q2:SqO s.heap k2 a2 ys) (hend:xs[n]?=none\/ys[m]?=none)
  (q:∀ h',(∀ c o,c≠z->c≠TO->c≠i1->c≠i2->s.heap.get? c=some o->h'.get? c=some o)->Q none { s with heap:=h' }):wpAny (model prog w) A (pyNext (.ref z)) Q E s:=by
 have hT:s.TypeIs (.ref z) "zip":=⟨_,hz,rfl⟩
 unfold pyNext
 refine wpAny_bind (wpAny_attempt (wpAny_callSpecial?_slot (name:=Str.ofString "__next__") hT F.slot_zip_next (wpAny_call_entry F.slot_zip_next hT F.entry_zip_next (sG hh D hz hI hO h1 h2 q1 q2 hend fun h' e hk he=>?_) (F.args_zip_next_1 _))))
 obtain ⟨o,ho,hc⟩:=he
 exact wpAny_bind (wpAny_isInstance (T:="StopIteration") (b:=true) ⟨o,ho,hc⟩ isSubtype_stop (wpAny_pure (q _ hk)))
end
noncomputable def nT (k:Bool)(a:Addr):Obj:=match k with
 | true=>{ cls:=.type "tuple_iterator",data:=.fields #[.ref a,.int 0 0] }
 | false=>{ cls:=.type "list_iterator",data:=.fields #[.ref a,.int 0 0] }
noncomputable abbrev zO1 (h:Heap)(k1:Bool)(a1:Addr):Heap:=h.push (nT k1 a1)
noncomputable abbrev zO2 (h:Heap)(k1 k2:Bool)(a1 a2:Addr):Heap:=(zO1 h k1 a1).push (nT k2 a2)
noncomputable abbrev zO3 (h:Heap)(k1 k2:Bool)(a1 a2:Addr):Heap:=(zO2 h k1 k2 a1 a2).push { cls:=.type "tuple",data:=.seq #[.ref h.objs.size,.ref (zO1 h k1 a1).objs.size] }
noncomputable abbrev zO4 (h:Heap)(k1 k2:Bool)(a1 a2:Addr):Heap:=(zO3 h k1 k2 a1 a2).push { cls:=.type "tuple",data:=.seq #[.none,.none] }
noncomputable abbrev zO5 (h:Heap)(k1 k2:Bool)(a1 a2:Addr):Heap:=(zO4 h k1 k2 a1 a2).push { cls:=.type "zip",data:=.fields #[.none,.bool false,.bool false,.ref (zO2 h k1 k2 a1 a2).objs.size,.ref (zO3 h k1 k2 a1 a2).objs.size] }
theorem kl (k1 k2:Bool)(a1 a2:Addr)(xs ys:Array Value) :
  Meets (Builtin.«zip.__new__» ⟨[.type "zip",.ref a1,.ref a2],[]⟩) (fun _ R s=>SqO s.heap k1 a1 xs/\SqO s.heap k2 a2 ys/\R (.ok (.ret (.ref (zO4 s.heap k1 k2 a1 a2).objs.size))) { s with heap:=zO5 s.heap k1 k2 a1 a2 }) :=
 .of_wp fun prog w A R s h=>by
  obtain ⟨hp,g,d,tk,os⟩:=s; obtain ⟨q1,q2,h⟩:=h
  have hsub:=sub_zip
  cases k1<;>cases k2
  ·have e1:Heap.IsList (Shared.heap ⟨hp,g,d,tk,os⟩) a1 xs:=q1
   have e2:Heap.IsList (Shared.heap ⟨hp.push { cls:=.type "list_iterator",data:=.fields #[.ref a1,.int 0 0] },g,d,tk,os⟩) a2 ys:=Heap.IsList.push q2 _
   wp_walk using wpAny_pyIter_list e1,wpAny_pyIter_list e2
   exact ⟨_,rfl,h⟩
  ·have e1:Heap.IsList (Shared.heap ⟨hp,g,d,tk,os⟩) a1 xs:=q1
   have e2:Heap.IsTuple (Shared.heap ⟨hp.push { cls:=.type "list_iterator",data:=.fields #[.ref a1,.int 0 0] },g,d,tk,os⟩) a2 ys:=Heap.IsTuple.push q2 _
   wp_walk using wpAny_pyIter_list e1,wpAny_pyIter_tuple e2
   exact ⟨_,rfl,h⟩
  ·have e1:Heap.IsTuple (Shared.heap ⟨hp,g,d,tk,os⟩) a1 xs:=q1
   have e2:Heap.IsList (Shared.heap ⟨hp.push { cls:=.type "tuple_iterator",data:=.fields #[.ref a1,.int 0 0] },g,d,tk,os⟩) a2 ys:=Heap.IsList.push q2 _
   wp_walk using wpAny_pyIter_tuple e1,wpAny_pyIter_list e2
   exact ⟨_,rfl,h⟩
  ·have e1:Heap.IsTuple (Shared.heap ⟨hp,g,d,tk,os⟩) a1 xs:=q1
   have e2:Heap.IsTuple (Shared.heap ⟨hp.push { cls:=.type "tuple_iterator",data:=.fields #[.ref a1,.int 0 0] },g,d,tk,os⟩) a2 ys:=Heap.IsTuple.push q2 _
   wp_walk using wpAny_pyIter_tuple e1,wpAny_pyIter_tuple e2
   exact ⟨_,rfl,h⟩
theorem mF {h:Heap}{k:Bool}{it a:Addr}(e:h.get? it=some (nT k a)):ItO h k it a 0:=by
 cases k<;>exact ⟨_,e,rfl,rfl⟩
theorem gO (k:Bool)(a:Addr):(nT k a).isFreed=false:=by cases k<;>rfl
section
variable {prog:Program}{w:World}{A:Around}{E:Value->Shared->Prop}{s:Shared}
theorem wt {k1 k2:Bool}{a1 a2:Addr}{xs ys:Array Value}{Q:Value->Shared->Prop}(q1:SqO s.heap k1 a1 xs)(q2:SqO s.heap k2 a2 ys)
  (h:∀ h',IsZip h' (s.heap.objs.size+4) (s.heap.objs.size+2) (s.heap.objs.size+3) .none->IsPair h' (s.heap.objs.size+2) (.ref s.heap.objs.size) (.ref (s.heap.objs.size+1)) ->
   IsPair h' (s.heap.objs.size+3) .none .none->ItO h' k1 s.heap.objs.size a1 0->ItO h' k2 (s.heap.objs.size+1) a2 0->(∀ c o,s.heap.get? c=some o->h'.get? c=some o)->Q (.ref (s.heap.objs.size+4)) { s with heap:=h' }) :
  wpAny (model prog w) A (call (.type "zip") [.ref a1,.ref a2]) Q E s:=by
 refine callType_new F.called_zip (by decide) (F.typeCall_zip_2 _ _) (F.newCall_zip_2 _ _) (fun obj=>F.args_object_init_3 obj _ _) F.entry_zip_new (kl k1 k2 a1 a2 xs ys) ⟨q1,q2,?_⟩
 have e1:(zO1 s.heap k1 a1).objs.size=s.heap.objs.size+1:=Heap.size_push ..
 have e2:(zO2 s.heap k1 k2 a1 a2).objs.size=s.heap.objs.size+2:=by rw [Heap.size_push,e1]
 have e3:(zO3 s.heap k1 k2 a1 a2).objs.size=s.heap.objs.size+3:=by rw [Heap.size_push,e2]
 have e4:(zO4 s.heap k1 k2 a1 a2).objs.size=s.heap.objs.size+4:=by rw [Heap.size_push,e3]
 have g5:(zO5 s.heap k1 k2 a1 a2).get? (zO4 s.heap k1 k2 a1 a2).objs.size=some _:=Heap.get?_push_size _ rfl
 have g4:(zO5 s.heap k1 k2 a1 a2).get? (zO3 s.heap k1 k2 a1 a2).objs.size=some _:=Heap.get?_push_of_some _ (Heap.get?_push_size _ rfl)
 have g3:(zO5 s.heap k1 k2 a1 a2).get? (zO2 s.heap k1 k2 a1 a2).objs.size=some _:=Heap.get?_push_of_some _ (Heap.get?_push_of_some _ (Heap.get?_push_size _ rfl))
 have g2:(zO5 s.heap k1 k2 a1 a2).get? (zO1 s.heap k1 a1).objs.size=some (nT k2 a2):=Heap.get?_push_of_some _ (Heap.get?_push_of_some _ (Heap.get?_push_of_some _ (Heap.get?_push_size _ (gO k2 a2))))
 have g1:(zO5 s.heap k1 k2 a1 a2).get? s.heap.objs.size=some (nT k1 a1):=Heap.get?_push_of_some _ (Heap.get?_push_of_some _ (Heap.get?_push_of_some _ (Heap.get?_push_of_some _ (Heap.get?_push_size _ (gO k1 a1)))))
 show _/\_
 rw [e2,e3,e4] at g5
 rw [e1,e2] at g3
 rw [e3] at g4
 rw [e1] at g2
 rw [e4]
 exact ⟨⟨_,g5,rfl⟩,h _ g5 g3 g4 (mF g1) (mF g2) fun c o x=>Heap.get?_push_of_some _ (Heap.get?_push_of_some _ (Heap.get?_push_of_some _ (Heap.get?_push_of_some _ (Heap.get?_push_of_some _ x))))⟩
end
end L3
namespace L3
open PySem PySem.Spec PyProof.Rows L2
noncomputable def Sq (K:a0a)(H:Hp):Bool->Addr->List V->Prop
 | true,a,xs=>SqT K H a xs
 | false,a,xs=>SqL K H a xs
section
variable {X:Cx}{pins:List (Addr×Obj)}{σ:L2.St}{H:Hp}{s:Shared}
theorem oa (I:Inv X pins σ H s){k:Bool}{a:Addr}{xs:List V}(h:Sq X.K H k a xs):∃ its:List Value,Vals xs its/\SqO s.heap k a its.toArray/\xs.length<=sizeLine:=by
 cases k with
 | true=>obtain ⟨its,r,p,z⟩:=I.tuple h; exact ⟨its,r,p,z⟩
 | false=>obtain ⟨its,r,p,z⟩:=I.list h; exact ⟨its,r,p.isList,z⟩
theorem lS (I:Inv X pins σ H s){k:Bool}{a:Addr}{xs ys:List V}(h:Sq X.K H k a xs)(h':Sq X.K H k a ys):xs=ys:=by
 cases k with
 | true=>exact I.tuple_inj h h'
 | false=>exact I.list_inj h h'
theorem fo {h':Heap}{ch:List Addr}(I:Inv X pins σ H s)(hf:∀ b∈ch,H b=none)(k:∀ b o,b ∉ ch->s.heap.get? b=some o->h'.get? b=some o):HOk X.prog X.w H h':=fun b u e=>by
 have nit:∀ b u,H b=some u->b ∉ ch:=fun b u e z=>by rw [hf b z] at e; cases e
 refine (I.hok b u e).stay (fun c v hc q=>k c v ?_ q) (fun _ q=>q) fun _ _ q=>q
 rcases hc with z | z
 ·rw [z]; exact nit b u e
 ·exact nit c _ z
theorem gh {h':Heap}{t':Nat}{ch:List Addr}(I:Inv X pins σ H s)(hf:∀ b∈ch,fP X pins H b)(k:∀ b o,b ∉ ch->s.heap.get? b=some o->h'.get? b=some o):Inv X pins σ H { s with heap:=h',toks:=t' }:=by
 refine I.step (g':=s.gens) (d':=s.drawn) (ch:=ch) (fun b hb=>⟨(hf b hb).2.2.2.1,(hf b hb).2.1,(hf b hb).2.2.2.2.1,(hf b hb).2.2.2.2.2⟩) (fun b o _ _ hc e _=>k b o hc e) (fun b o _ _ hc e _=>⟨o.slots,k b o hc e⟩) (fun _ _ _ _ n=>n)
  (fun b o hc e=>⟨o,k b o hc e⟩) (fun _ _ e=>e) (fun _ _ _ e=>e) (fun b ps e=>⟨#[],by rw [e]; simp⟩) (fun m hm=>?_) (fo I (fun b hb=>(hf b hb).1) k) I.bare
 obtain ⟨o,es,ep,ho,r⟩:=hm
 exact ⟨o,es,ep,k _ o (fun z=>(hf _ z).2.1 rfl) ho,r⟩
theorem cR {h':Heap}{t':Nat}{ch:List Addr}{a:Addr}{ys:List V}{its:List Value}(I:Inv X pins σ H s)(hf:∀ b∈ch,fP X pins H b)(k:∀ b o,b ∉ ch->s.heap.get? b=some o->h'.get? b=some o)
  (ha:s.heap.objs.size<=a) (hz:ys.length<=sizeLine) (hv:Vals ys its) (ht:IsTup h' a its.toArray):Inv X pins σ (upd H a (.tup ys)) { s with heap:=h',toks:=t' }:=by
 have fr:H a=none:=I.hok.fresh ha
 have na:∀ b o,s.heap.get? b=some o->b≠a:=fun b o e=>a0D (a0p (Heap.lt_size e) ha)
 refine I.step (g':=s.gens) (d':=s.drawn) (ch:=ch) (fun b hb=>⟨(hf b hb).2.2.2.1,(hf b hb).2.1,(hf b hb).2.2.2.2.1,(hf b hb).2.2.2.2.2⟩) (fun b o _ _ hc e _=>k b o hc e) (fun b o _ _ hc e _=>⟨o.slots,k b o hc e⟩) (fun b o _ e n=>by rw [ab (na b o e)]; exact n)
  (fun b o hc e=>⟨o,k b o hc e⟩) (fun b u e=>by rw [ab (aE e fr)]; exact e) (fun b o u e=>by rw [ab (aE e fr)]; exact e) (fun b ps e=>⟨#[],by rw [ab (aE e fr),e]; simp⟩) (fun m hm=>?_)
  (gR (fo I (fun b hb=>(hf b hb).1) k) fr ⟨hz,its,hv,ht⟩) I.bare
 obtain ⟨o,es,ep,ho,r⟩:=hm
 exact ⟨o,es,ep,k _ o (fun z=>(hf _ z).2.1 rfl) ho,r⟩
end
noncomputable def Itz (K:a0a)(k1 k2:Bool)(a1 a2:Addr):It :=
 ⟨fun i H=>∃ xs ys x y,Sq K H k1 a1 xs/\Sq K H k2 a2 ys/\xs[i]?=some x/\ys[i]?=some y,
  fun i H v H'=>∃ p x y,v=.ref p/\H p=none/\H'=upd H p (.tup [x,y])/\(∀ xs,Sq K H k1 a1 xs->xs[i]?=some x)/\∀ ys,Sq K H k2 a2 ys->ys[i]?=some y,
  fun i H=>∃ xs ys,Sq K H k1 a1 xs/\Sq K H k2 a2 ys/\(xs.length<=i\/ys.length<=i)⟩
noncomputable def ZSt (z TI TO i1 i2:Addr)(k1 k2:Bool)(a1 a2:Addr)(i:Nat)(h:Heap):Prop :=
 IsZip h z TI TO .none/\IsPair h TI (.ref i1) (.ref i2)/\(∃ a b,IsPair h TO a b)/\ItO h k1 i1 a1 i/\ItO h k2 i2 a2 i
theorem rM {P:Program}{w:World}{K:a0a}{es:List Expr}{kt:Nat}{pt:Pos}{z TI TO i1 i2 a1 a2:Addr}{k1 k2:Bool}(D:ZipApart z TI TO i1 i2 a1 a2) :
  kA P w K (.Tuple es kt pt) (Itz K k1 k2 a1 a2) [z,TI,TO,i1,i2] z (ZSt z TI TO i1 i2 k1 k2 a1 a2) where
 mem:=by simp
 obj:=fun i h st b hb=>by
  obtain ⟨q1,q2,⟨a,c,q3⟩,q4,q5⟩:=st
  simp only [a0r,a01,or_false] at hb
  rcases hb with rfl | rfl | rfl | rfl | rfl
  ·exact ⟨_,q1,fun v y=>by cases y⟩
  ·exact ⟨_,q2,fun v y=>by cases y⟩
  ·exact ⟨_,q3,fun v y=>by cases y⟩
  ·exact q4.obj
  ·exact q5.obj
 keep:=fun i h h' st k=>by
  obtain ⟨q1,q2,⟨a,c,q3⟩,q4,q5⟩:=st
  exact ⟨k z (by simp) _ q1,k TI (by simp) _ q2,⟨a,c,k TO (by simp) _ q3⟩,q4.at fun o e=>k i1 (by simp) o e,q5.at fun o e=>k i2 (by simp) o e⟩
 item:=by
  intro X hP hw hK hc i pins s σ H E I hf st hg
  subst hP hw hK
  obtain ⟨xs,ys,x,y,s1,s2,hx,hy⟩:=hg
  obtain ⟨q1,q2,⟨a,c,q3⟩,q4,q5⟩:=st
  obtain ⟨its1,v1,o1,z1⟩:=oa I s1
  obtain ⟨its2,v2,o2,z2⟩:=oa I s2
  obtain ⟨u1,e1,r1⟩:=v1.get hx
  obtain ⟨u2,e2,r2⟩:=v2.get hy
  have lt:∀ b∈[z,TI,TO,i1,i2],b < s.heap.objs.size:=fun b hb=>by
   simp only [a0r,a01,or_false] at hb
   rcases hb with rfl | rfl | rfl | rfl | rfl
   ·exact Heap.lt_size q1
   ·exact Heap.lt_size q2
   ·exact Heap.lt_size q3
   ·obtain ⟨o,e,_⟩:=q4.obj; exact Heap.lt_size e
   ·obtain ⟨o,e,_⟩:=q5.obj; exact Heap.lt_size e
  refine kG D q1 q2 q3 q4 q5 o1 o2 (x:=u1) (y:=u2) (by simpa using e1) (by simpa using e2) fun h' y1 y2 y3 y4 y5 y6 y7=>⟨_,rfl,?_⟩
  refine wpAny_letOwnedTupleGo_zip (s:={ s with heap:=h' }) y1 fun h2 w1 sb=>?_
  have sb':Heap.SameBut z h' h2:=sb
  have nz:s.heap.objs.size≠z:=a1b (lt z (by simp))
  have kk:∀ b o,b ∉ [z,TI,TO,i1,i2]->s.heap.get? b=some o->h2.get? b=some o:=fun b o hb e=>by
   simp only [a0r,a01,or_false,not_or] at hb
   exact (sb'.2 b hb.1).trans (y7 b o hb.1 hb.2.2.1 hb.2.2.2.1 hb.2.2.2.2 e)
  have tp:IsTup h2 s.heap.objs.size [u1,u2].toArray:=⟨_,(sb'.2 _ nz).trans y5,rfl,_,rfl⟩
  refine ⟨.ref s.heap.objs.size,upd H s.heap.objs.size (.tup [x,y]),cR (s:=s) (t':=s.toks) I hf kk (a0m _) (by show 2<=sizeLine; decide) (.cons r1 (.cons r2 .nil)) tp,rfl,
   ⟨_,x,y,rfl,I.fresh,rfl,fun zs hz=>by rw [lS I hz s1]; exact hx,fun zs hz=>by rw [lS I hz s2]; exact hy⟩,?_,fun b hb=>?_⟩
  ·exact ⟨w1,(sb'.2 _ D.TIz).trans (y7 _ _ D.TIz D.TITO D.TIi1 D.TIi2 q2),⟨_,_,(sb'.2 _ D.TOz).trans y2⟩,y3.at fun o e=>(sb'.2 _ D.i1z).trans e,y4.at fun o e=>(sb'.2 _ D.i2z).trans e⟩
  ·rw [ab (a0D (lt b hb))]; exact (hf b hb).1
 done:=by
  intro X hP hw hK hc i pins s σ H E I hf st hg
  subst hP hw hK
  obtain ⟨xs,ys,s1,s2,hl⟩:=hg
  obtain ⟨q1,q2,⟨a,c,q3⟩,q4,q5⟩:=st
  obtain ⟨its1,v1,o1,z1⟩:=oa I s1
  obtain ⟨its2,v2,o2,z2⟩:=oa I s2
  have l1:=v1.length
  have l2:=v2.length
  refine mK (I.ok.hd hc) D q1 q2 q3 q4 q5 o1 o2 (hl.imp (fun q=>by simp; omega) fun q=>by simp; omega) fun h' hk=>⟨rfl,gh (t':=s.toks) I hf fun b o hb e=>?_⟩
  simp only [a0r,a01,or_false,not_or] at hb
  exact hk b o hb.1 hb.2.2.1 hb.2.2.2.1 hb.2.2.2.2 e
 self:=fun _ _ _ _ _ st h=>wpAny_pyIter_zip st.1 h
section
variable {X:Cx}
noncomputable def Dp (K:a0a)(ta:TA):TI:=fun σ H R=>ta σ H fun vs H1=>∃ k1 k2 a1 a2,vs=[.ref a1,.ref a2]/\(∃ xs,Sq K H1 k1 a1 xs)/\(∃ ys,Sq K H1 k2 a2 ys)/\R (Itz K k1 k2 a1 a2) H1
theorem Ap {a b:Expr}{ta:TA}{p pos pt:Pos}{es:List Expr}{kt:Nat}(hg:Gl X "zip")(hm:X.mg "zip"=none)(ha:PA X [a,b] ta)(hs:starEach [a,b] X.env=[(false,eval a X.env),(false,eval b X.env)]:=by rfl)(hs2:starEach [b] X.env=[(false,eval b X.env)]:=by rfl) :
  PI X (.Tuple es kt pt) (.Call (.Name "zip" p) [a,b] [] pos) (Dp X.K ta):=by
 intro pins s σ H R I h
 refine Call_ (cX I hg hm boot_zip (a0X (thn (ha pos pins s σ H _ I h) fun us s1 ⟨vs,H1,I1,r1,q1⟩=>?_) (by rw [hs,hs2]) (by rw [hs2]; rfl)))
 obtain ⟨k1,k2,a1,a2,rfl,⟨xs,s1'⟩,⟨ys,s2'⟩,q⟩:=q1
 cases r1 with
 | cons r rr =>
  cases rr with
  | cons r' rr =>
   cases rr
   cases r
   cases r'
   obtain ⟨its1,v1,o1,z1⟩:=oa I1 s1'
   obtain ⟨its2,v2,o2,z2⟩:=oa I1 s2'
   refine wt o1 o2 fun h' q1 q2 q3 q4 q5 kk=>?_
   refine wpAny_pyIter_zip (s:={ s1 with heap:=h' }) q1 ?_
   refine ⟨_,_,_,_,H1,rfl,I1.kept (t':=s1.toks) kk,rM (zipApart_new o1.lt o2.lt),⟨q1,q2,⟨_,_,q3⟩,q4,q5⟩,fun b hb=>?_,q⟩
   have hle:s1.heap.objs.size<=b:=by
    simp only [a0r,a01,or_false] at hb
    rcases hb with e | e | e | e | e<;>(rw [e]; first | exact a3d _ _ | exact a0m _)
   exact I1.fpOk hle (I1.hok.fresh hle)
end
structure av (pre ys:List Str)(scope:Scope):Prop where
 kind:scope.kind=.function
 cell:∀ y∈scope.names,y.2≠.cell
 nm:∀ y∈scope.names,y.2=.local->scope.names.lookup y.1=some .local
 loc:∀ x∈pre,scope.names.lookup x=some .local
 nd:(pre++ys).Nodup
theorem oP {pre:List Str}{τ:L2.St}{j:Nat}{v:V}(e:(a0i pre.length none++τ)[j]?=some (some v)):∃ i,j=pre.length+i/\τ[i]?=some (some v):=by
 by_cases hj:j < pre.length
 ·rw [a0Q (by rw [a0H]; exact hj),a0Z,if_pos hj] at e
  cases a0t e
 ·refine ⟨j-pre.length,by omega,?_⟩
  rw [a0B (by rw [a0H]; omega),a0H] at e
  exact e
theorem mP {X:Cx}{pins:List (Addr×Obj)}{σ:L2.St}{H:Hp}{s:Shared}{pre ys:List Str}{is:List Nat}{scope:Scope}{cl:List (Str×Addr)}{fp:List Addr}{C:Addr}{h1:Heap}{t1:Nat}{m1:Str->Option Value}
  (I:Inv X pins σ H s) (hf:∀ b∈fp,fP X pins H b) (hfo:∀ b∈fp,b < s.heap.objs.size) (S:av pre ys scope) (hcl:Clo X cl)
  (hfr:(scope.names.all fun p=>p.2 != .free || (cl.lookup p.1).isSome)=true) (fr:Frees X scope cl ys is)
  (hC:s.heap.objs.size<=C) (old:∀ b o,s.heap.get? b=some o->h1.get? b=some o) (hn:h1.Ns C m1) :
  Inv (ah X (pre++ys) scope cl C s H fp) pins (a0i pre.length none++bj σ is) H { s with heap:=h1,toks:=t1 }:=by
 have stk:∀ b,b≠X.env.locals->b ∉ X.fs->b ∉ frs X.stack:=fun b q1 q2 hb=>(a0r.mp (I.stkSub b hb)).elim q1 q2
 have key:∀ a k,(relabel scope X.env).names.lookup a=some k->(k=.cell\/k=.free)->∃ c,cl.lookup a=some c:=fun a k e hk=>by
  have hm:=a03 e
  obtain ⟨⟨n,k0⟩,hp,ep⟩:=a0z.mp hm
  have hk0:k0=.free/\n=a:=by
   dsimp only at ep
   split at ep
   ·rename_i hc
    simp only [a0j] at hc
    exact ⟨eq_of_beq hc.1.1,(a2K ep).1⟩
   ·obtain ⟨e1,e2⟩:=a2K ep
    subst e2
    rcases hk with z | z
    ·exact absurd z (S.cell _ hp)
    ·exact ⟨z,e1⟩
  obtain ⟨z1,z2⟩:=hk0
  subst z1 z2
  have q:=a0x.mp hfr _ hp
  have q2:(cl.lookup n).isSome=true:=by simpa using q
  exact a1A.mp q2
 refine ⟨⟨I.ok.mod,S.kind,I.ok.glob,I.ok.blt,hC,fun a b c e1 e2=>I.ok.inj a b c (hcl.get e1) (hcl.get e2),fun a ha=>?_,fun a c e=>absurd e a0f,I.ok.hd,I.ok.frames,.inl rfl,
   fun b hb=>⟨a0D (a0p (hfo b hb) hC),fun a c e=>(hf b hb).2.2.2.2.1 a c (hcl.get e)⟩,I.bs,a0y I.ok.bsz I.sz,fun b o e hb=>?_,fun b hb=>stk b (hf b hb).2.1 (hf b hb).2.2.1,I.stack,I.stkFree⟩,
  rfl,I.bare,Un.kept old,⟨m1,hn,fun j y v e1 e2 e3=>?_⟩,fun a c e=>?_,I.hok.fresh hC,fun a c e=>I.freeC a c (hcl.get e),fun p hp=>?_,I.hok.kept old,?_⟩
 ·rcases ha with e | e
  ·exact key a _ e (.inl rfl)
  ·exact key a _ e (.inr rfl)
 ·rcases (hf b hb).2.2.2.1 with z | z
  ·exact I.ok.noex b o e z
  ·exact absurd (a0p (Heap.lt_size (I.ok.bs b o e).1) z) (a04 _)
 ·obtain ⟨k,rfl,e2'⟩:=oP e2
  have e1':ys[k]?=some y:=by
   have e1'':(pre++ys)[pre.length+k]?=some y:=e1
   rw [a0B (by omega),Nat.add_sub_cancel_left] at e1''
   exact e1''
  obtain ⟨i,c,g1,g2,g3,g4,g5,g6,g7⟩:=fr.get (σ:=σ) e1' e2'
  obtain ⟨m0,hn0,hl0⟩:=I.loc
  obtain ⟨u,r,l⟩:=hl0 i y v g1 g2 g3
  rcases l with ⟨k,_⟩ | ⟨_,c',e',z⟩
  ·rcases g4 with q | q
   ·rw [k] at q; cases q
   ·rw [k] at q; cases q
  ·rw [g5] at e'
   cases e'
   obtain ⟨o,ho,hd⟩:=z
   exact ⟨u,r,.inr ⟨g7,c,g6,⟨o,old _ _ ho,hd⟩⟩⟩
 ·obtain ⟨v,o,ho,hd⟩:=I.cell a c (hcl.get e)
  exact ⟨v,o,old _ _ ho,hd⟩
 ·obtain ⟨e,n,ne,nf,d⟩:=I.pin p hp
  exact ⟨old _ _ e,n,a0D (a0p (Heap.lt_size e) hC),stk _ ne nf,d⟩
 ·show (a0i pre.length none++bj σ is).length=(pre++ys).length
  unfold bj
  rw [a0l,a0l,a0H,a0b,fr.len]
end L3
namespace L3
open PySem PySem.Spec PyProof.Rows L2
end L3
namespace L3
open PySem PySem.Spec PyProof.Rows L2
end L3
namespace L3
open PySem PySem.Spec PyProof.Rows L2
section
variable {X:Cx}
theorem k7 {lo:Int}{acc:Array Value}{n:Nat}(h:ItemsOf (fun (i:Nat) (v:Value)=>∃ t,v=Value.int (lo+(i:Int) * 1) t) acc n):Vals ((a0k n).map fun (k:Nat)=>V.int (lo+(k:Int))) acc.toList:=by
 have key:∀ (l:List Value) (m:Nat),l.length+m=n->(∀ j v,l[j]?=some v->∃ t,v=Value.int (lo+((m+j:Nat):Int)) t)->Vals ((List.range' m l.length).map fun (k:Nat)=>V.int (lo+(k:Int))) l:=by
  intro l
  induction l with
  | nil=>intro m _ _; exact .nil
  | cons v l ih =>
   intro m hm hv
   obtain ⟨t,e⟩:=hv 0 v rfl
   rw [a0g,List.range'_succ,a0w]
   refine .cons ⟨t,by rw [e]; rfl⟩ (ih (m+1) (by rw [a0g] at hm; omega) fun j v' hj=>?_)
   obtain ⟨t',e'⟩:=hv (j+1) v' hj
   exact ⟨t',by rw [e',show m+(j+1)=m+1+j by omega]⟩
 have hl:acc.toList.length=n:=by rw [a0V]; exact h.1
 have:=key acc.toList 0 (by omega) fun j v hj=>by
  obtain ⟨t,e⟩:=h.2 j v (by simpa using hj)
  exact ⟨t,by rw [e,Int.mul_one,a2A]⟩
 rw [hl] at this
 rw [List.range_eq_range']
 exact this
theorem k4 (hc:X.calm=true):bI X (.type "list") (fun xs H Q=>∃ p i j,xs=[.ref p]/\H p=some (.rng i j)/\(-(2 ^ 62)<=i/\i < 2 ^ 62/\-(2 ^ 62)<=j/\j < 2 ^ 62)/\(j-i).toNat<=sizeLine/\∀ l,H l=none->Q (.ref l) (upd H l (.lst ((a0k (j-i).toNat).map fun (k:Nat)=>V.int (i+(k:Int)))))):=by
 intro pins s σ H xs us Q I r h
 obtain ⟨p,i,j,rfl,hp,⟨b1,b2,b3,b4⟩,hz,q⟩:=h
 obtain ⟨u,rfl,ru⟩:=cf r
 cases ru
 obtain ⟨t,u,v,e⟩:=I.hok p _ hp
 refine call_list_range (I.ok.hd hc) e (small_one b1 b2 b3 b4) (n:=(j-i).toNat) (by rw [rangeSize_one]; split<;>omega) (a0y hz (by decide)) fun h' tk acc' c' hk hS' hacc=>?_
 have hv:=k7 hacc
 refine ⟨.ref s.heap.objs.size,upd H s.heap.objs.size (.lst ((a0k (j-i).toNat).map fun (k:Nat)=>V.int (i+(k:Int)))),I.laid (t':=tk) hk (a0m _) ⟨?_,acc'.toList,c',hv,by rw [hS',a2D]⟩,rfl,q _ I.fresh⟩
 rw [a0b,a0C]
 exact hz
end
end L3
namespace L3
open PySem PySem.Spec PyProof.Rows L2
noncomputable def Ite (K:a0a)(a:Addr):It :=
 ⟨fun i H=>∃ xs x,SqL K H a xs/\xs[i]?=some x,
  fun i H v H'=>∃ p x,v=.ref p/\H p=none/\H'=upd H p (.tup [.int (i:Int),x])/\∀ xs,SqL K H a xs->xs[i]?=some x,
  fun i H=>∃ xs,SqL K H a xs/\xs.length<=i⟩
theorem nO {P:Program}{w:World}{K:a0a}{es:List Expr}{kt:Nat}{pt:Pos}{e it a:Addr}(hne:e≠it):kA P w K (.Tuple es kt pt) (Ite K a) [e,it] e (fun i h=>(∃ old,IsEnum h e it (i:Int) old)/\h.IsListIter it a i) where
 mem:=by simp
 obj:=fun i h st b hb=>by
  obtain ⟨⟨old,q1⟩,q2⟩:=st
  simp only [a0r,a01,or_false] at hb
  rcases hb with rfl | rfl
  ·exact ⟨_,q1,fun v y=>by cases y⟩
  ·obtain ⟨o,e',_,d⟩:=q2
   exact ⟨o,e',fun v y=>by rw [d] at y; cases y⟩
 keep:=fun i h h' st k=>by
  obtain ⟨⟨old,q1⟩,q2⟩:=st
  exact ⟨⟨old,k e (by simp) _ q1⟩,q2.at fun o z=>k it (by simp) o z⟩
 item:=by
  intro X hP hw hK hc i pins s σ H E I hf st hg
  subst hP hw hK
  obtain ⟨xs,x,s1,hx⟩:=hg
  obtain ⟨⟨old,q1⟩,q2⟩:=st
  obtain ⟨its,v1,o1,z1⟩:=I.list s1
  obtain ⟨u1,e1,r1⟩:=v1.get hx
  have lt:∀ b∈[e,it],b < s.heap.objs.size:=fun b hb=>by
   simp only [a0r,a01,or_false] at hb
   rcases hb with rfl | rfl
   ·exact Heap.lt_size q1
   ·obtain ⟨o,e',_⟩:=q2; exact Heap.lt_size e'
  refine wpAny_pyNext_enum_item q1 q2 o1.isList (x:=u1) (by simpa using e1) hne fun h' y1 y2 y3 y4 y5=>⟨_,rfl,?_⟩
  refine wpAny_letOwnedTupleGo_enum (s:={ s with heap:=h',toks:=s.toks+1 }) y1 fun h2 w1 sb=>?_
  have sb':Heap.SameBut e h' h2:=sb
  have nz:s.heap.objs.size≠e:=a1b (lt e (by simp))
  have kk:∀ b o,b ∉ [e,it]->s.heap.get? b=some o->h2.get? b=some o:=fun b o hb z=>by
   simp only [a0r,a01,or_false,not_or] at hb
   exact (sb'.2 b hb.1).trans (y5 b o hb.1 hb.2 z)
  have tp:IsTup h2 s.heap.objs.size [.int (i:Int) s.toks,u1].toArray:=⟨_,(sb'.2 _ nz).trans y3,rfl,_,rfl⟩
  refine ⟨.ref s.heap.objs.size,upd H s.heap.objs.size (.tup [.int (i:Int),x]),cR (s:=s) (t':=s.toks+1) I hf kk (a0m _) (by show 2<=sizeLine; decide) (.cons ⟨_,rfl⟩ (.cons r1 .nil)) tp,rfl,
   ⟨_,x,rfl,I.fresh,rfl,fun zs hz=>by rw [I.list_inj hz s1]; exact hx⟩,?_,fun b hb=>?_⟩
  ·exact ⟨⟨_,w1⟩,y2.at fun o z=>(sb'.2 _ (a18 hne)).trans z⟩
  ·rw [ab (a0D (lt b hb))]; exact (hf b hb).1
 done:=by
  intro X hP hw hK hc i pins s σ H E I hf st hg
  subst hP hw hK
  obtain ⟨xs,s1,hl⟩:=hg
  obtain ⟨⟨old,q1⟩,q2⟩:=st
  obtain ⟨its,v1,o1,z1⟩:=I.list s1
  have l1:=v1.length
  refine wpAny_pyNext_enum_end (I.ok.hd hc) q1 q2 o1.isList (by simp; omega) fun h' eb=>⟨rfl,gh (t':=s.toks) I hf fun b o hb z=>eb b o (fun y=>hb (by simp [y])) z⟩
 self:=fun _ _ _ _ _ st h=>by
  obtain ⟨⟨old,q1⟩,_⟩:=st
  exact wpAny_pyIter_enum q1 h
section
variable {X:Cx}
noncomputable def xt (K:a0a)(ta:TA):TI:=fun σ H R=>ta σ H fun vs H1=>∃ a,vs=[.ref a]/\(∃ xs,SqL K H1 a xs)/\R (Ite K a) H1
theorem tU {a:Expr}{ta:TA}{p pos pt:Pos}{es:List Expr}{kt:Nat}(hg:Gl X "enumerate")(hm:X.mg "enumerate"=none)(ha:PA X [a] ta)(hs:starEach [a] X.env=[(false,eval a X.env)]:=by rfl) :
  PI X (.Tuple es kt pt) (.Call (.Name "enumerate" p) [a] [] pos) (xt X.K ta):=by
 intro pins s σ H R I h
 refine Call_ (cX I hg hm boot_enumerate (a0X (thn (ha pos pins s σ H _ I h) fun us s1 ⟨vs,H1,I1,r1,q1⟩=>?_) hs rfl))
 obtain ⟨a,rfl,⟨xs,s1'⟩,q⟩:=q1
 cases r1 with
 | cons r rr =>
  cases rr
  cases r
  obtain ⟨its,v1,o1,z1⟩:=I1.list s1'
  refine call_enumerate_list o1.isList fun h' q1 q2 _ kk=>?_
  refine wpAny_pyIter_enum (s:={ s1 with heap:=h' }) q1 ?_
  refine ⟨_,_,_,_,H1,rfl,I1.kept (t':=s1.toks) kk,nO (Nat.succ_ne_self _),⟨⟨_,q1⟩,q2⟩,fun b hb=>?_,q⟩
  have hle:s1.heap.objs.size<=b:=by
   simp only [a0r,a01,or_false] at hb
   rcases hb with e | e<;>(rw [e]; first | exact a3d _ _ | exact a0m _)
  exact I1.fpOk hle (I1.hok.fresh hle)
end
end L3
namespace L3
open PySem PySem.Spec PyProof.Rows L2
section
variable {prog:Program}{w:World}{A:Around}{R:Result->Shared->Prop}{s:Shared}
theorem kc {elt tg iter cnd:Expr}{scope:Scope}{pos:Pos}{it acc:Value}{env:Env}(J:Nat->Shared->Prop)
  (turn:∀ n s,J n s->wpAny (model prog w) A (pyNext it) (fun r s₁=>match r with
   | none=>R (.ok .next) s₁
   | some v=>wpAny (model prog w) A (letOwnedTupleGo tg it v) (fun _ s₂=>wpAny (model prog w) A (assign tg env v) (fun _ s₃=>wpAny (model prog w) A (isTrue cnd env (eval cnd env)) (fun ok s₄=>if ok=true then
     wpAny (model prog w) A (eval elt env) (fun y s₅=>wpAny (model prog w) A (call (.builtin "list.append") [acc,y]) (fun _ s₆=>∃ m,m < n/\J m s₆) noX s₅) noX s₄ else ∃ m,m < n/\J m s₄) noX s₃) noX s₂) noX s₁) noX s)
  (n:Nat) (h:J n s):codeAny (model prog w) A (.compLoop (.ListComp elt [⟨tg,iter,[cnd],0⟩] scope pos) 0 it acc env) R s:=by
 refine codeAny_loop rfl J (fun n s hJ=>?_) n h
 show wpAny _ A ((compTurn (.ListComp elt [⟨tg,iter,[cnd],0⟩] scope pos) 0 it acc env).onRaise (fun x=>do noteFrame x env; theTreesLotGoes x)) _ _ s
 refine wpAny_noted ?_
 rw [compTurn_list]
 refine wpAny_bind (wpAny_standAt (wpAny_bind (wpAny_mono (turn n s hJ) (fun r s₁ h₁=>?_) fun _ _ z=>z.elim)))
 cases r with
 | none=>exact wpAny_pure h₁
 | some v =>
  refine wpAny_bind (wpAny_mono h₁ (fun _ s₂ h₂=>?_) fun _ _ z=>z.elim)
  refine wpAny_bind (wpAny_mono h₂ (fun _ s₃ h₃=>?_) fun _ _ z=>z.elim)
  refine wpAny_bind (wpAny_tests_one (wpAny_mono h₃ (fun ok s₄ h₄=>?_) fun _ _ z=>z.elim))
  cases ok with
  | true=>exact wpAny_bind (wpAny_bind (wpAny_mono h₄ (fun y s₅ h₅=>wpAny_bind (wpAny_mono h₅ (fun _ s₆ h₆=>wpAny_pure (wpAny_pure ⟨rfl,h₆⟩)) fun _ _ z=>z.elim)) fun _ _ z=>z.elim))
  | false=>exact wpAny_bind (wpAny_pure (wpAny_pure ⟨rfl,h₄⟩))
end
end L3

namespace L3
open PySem PySem.Spec PyProof.Rows L2
noncomputable def tO (n:Nat)(J:It)(g:TG)(tc:TT)(te:TE)(σ':L2.St)(H1:Hp)(Q:VK):Prop:=∃ W:Nat->Nat->List V->Hp->Prop,(∃ m,W 0 m [] H1)/\∀ i m ys H,W i m ys H ->
 (J.stop i H/\ys.length<=sizeLine/\∀ p,H p=none->Q (.ref p) (upd H p (.lst ys))) \/
 (J.go i H/\ys.length < sizeLine/\∀ x H',J.yld i H x H'->g x (a0i n none++σ') H' fun σ2 H2=>(σ2.length=n+σ'.length/\σ2.drop n=σ')/\tc σ2 H2 fun ok H3=>if ok=true then te σ2 H3 fun y H4=>∃ m',m' < m/\W (i+1) m' (ys++[y]) H4 else ∃ m',m' < m/\W (i+1) m' ys H3)
noncomputable def w9 (n:Nat)(J:It)(g:TG)(te:TE)(σ':L2.St)(H1:Hp)(Q:VK):Prop:=∃ W:Nat->Nat->List V->Hp->Prop,(∃ m,W 0 m [] H1)/\∀ i m ys H,W i m ys H ->
 (J.stop i H/\ys.length<=sizeLine/\∀ p,H p=none->Q (.ref p) (upd H p (.lst ys))) \/
 (J.go i H/\ys.length < sizeLine/\∀ x H',J.yld i H x H'->g x (a0i n none++σ') H' fun σ2 H2=>(σ2.length=n+σ'.length/\σ2.drop n=σ')/\te σ2 H2 fun y H4=>∃ m',m' < m/\W (i+1) m' (ys++[y]) H4)
noncomputable def cN (n:Nat)(wi:TI)(is:List Nat)(g:TG)(tc:TT)(te:TE):TE:=fun σ H Q=>wi σ H fun J H1=>tO n J g tc te (bj σ is) H1 Q
noncomputable def ir (n:Nat)(wi:TI)(is:List Nat)(g:TG)(te:TE):TE:=fun σ H Q=>wi σ H fun J H1=>w9 n J g te (bj σ is) H1 Q
theorem qF {n:Nat}{σ2 σ':L2.St}(h:σ2.drop n=σ'){j:Nat}{w:V}(e:(a0i n none++σ')[j]?=some (some w)):σ2[j]?=some (some w):=by
 by_cases hj:j < n
 ·rw [a0Q (by simpa using hj),a0Z,if_pos hj] at e
  cases a0t e
 ·rw [a0B (by simpa using hj),a0H,<- h,List.getElem?_drop,Nat.add_sub_cancel' (by omega)] at e
  exact e
noncomputable def CW (X:Cx)(cs:List Expr)(k:Bool->Shared->Prop)(s:Shared):Prop:=match cs with
 | []=>k true s
 | [c]=>wpAny (model X.prog X.w) X.A (isTrue c X.env (eval c X.env)) k noX s
 | _=>False
noncomputable def PC (X:Cx)(cs:List Expr)(tc:TT):Prop:=∀ (pins:List (Addr×Obj)) (s:Shared) (σ:L2.St) (H:Hp) (Q:Bool->Hp->Prop),Inv X pins σ H s->tc σ H Q->CW X cs (fun ok s'=>∃ H',Inv X pins σ H' s'/\Q ok H') s
theorem CW.mono {X:Cx}{cs:List Expr}{k k':Bool->Shared->Prop}{s:Shared}(h:CW X cs k s)(w:∀ b s,k b s->k' b s):CW X cs k' s:=by
 match cs,h with
 | [],h=>exact w _ _ h
 | [c],h=>exact wpAny_mono h w fun _ _ z=>z
theorem i8 {X:Cx}{elt tg iter:Expr}{cs:List Expr}{scope:Scope}{pos:Pos}{it acc:Value}{R:Result->Shared->Prop}{s:Shared}(J:Nat->Shared->Prop)
  (turn:∀ n s,J n s->wpAny (model X.prog X.w) X.A (pyNext it) (fun r s₁=>match r with
   | none=>R (.ok .next) s₁
   | some v=>wpAny (model X.prog X.w) X.A (letOwnedTupleGo tg it v) (fun _ s₂=>wpAny (model X.prog X.w) X.A (assign tg X.env v) (fun _ s₃=>CW X cs (fun ok s₄=>if ok=true then
     wpAny (model X.prog X.w) X.A (eval elt X.env) (fun y s₅=>wpAny (model X.prog X.w) X.A (call (.builtin "list.append") [acc,y]) (fun _ s₆=>∃ m,m < n/\J m s₆) noX s₅) noX s₄ else ∃ m,m < n/\J m s₄) s₃) noX s₂) noX s₁) noX s)
  (n:Nat) (h:J n s) (hcs:cs.length<=1):codeAny (model X.prog X.w) X.A (.compLoop (.ListComp elt [⟨tg,iter,cs,0⟩] scope pos) 0 it acc X.env) R s:=by
 match cs,hcs with
 | [],_=>exact ki J turn n h
 | [c],_=>exact kc J turn n h
theorem j6 {X:Cx}{elt iter tg:Expr}{cs:List Expr}{pre:List Str}{pos:Pos}{scope:Scope}{cl:List (Str×Addr)}{ys:List Str}{is:List Nat}{wi:TI}{g:TG}{te:TE}{tc:TT}{use:Option (Value->Sem Unit)}{Q:VK}{Qp:Value->Shared->Prop}{pins:List (Addr×Obj)}{s:Shared}{σ:L2.St}{H:Hp}{ip:Pos}
  (hc:X.calm=true) (hi:PI X tg iter wi) (hg:∀ C s H fp,PG (ah X (pre++ys) scope cl C s H fp) tg g) (he:∀ C s H fp,PE (ah X (pre++ys) scope cl C s H fp) elt te) (hcd:∀ C s H fp,PC (ah X (pre++ys) scope cl C s H fp) cs tc) (hcs:cs.length<=1)
  (hclos:closureFor scope X.env=pure cl) (S:av pre ys scope) (hcl:Clo X cl) (hfr:(scope.names.all fun p=>p.2 != .free || (cl.lookup p.1).isSome)=true) (fr:Frees X scope cl ys is) (hs:∀ v,foldedSetIterable iter X.env v=pure v)
  (fin:∀ (s4:Shared) (Hn:Hp) (D L:Addr) (m4:Str->Option Value),Inv X pins σ Hn s4->s4.heap.Ns L m4->L≠X.env.locals->(∀ a c,X.env.cells.lookup a=some c->c≠L)->Hn L=none->X.s₀.heap.objs.size<=L->(∀ p∈X.pn++pins,p.1≠L)->Q (.ref D) Hn->compPost (model X.prog X.w) X.A X.xe use Qp (.ref D) L (.ok .next) s4)
  (I:Inv X pins σ H s) (h:cN pre.length wi is g tc te σ H Q) :
  wpAny (model X.prog X.w) X.A (comprehension (.ListComp elt [⟨tg,iter,cs,0⟩] scope pos) scope X.env ip (newList []) false (eval iter X.env) use) Qp X.xe s:=by
 refine wpAny_comprehension_free (use:=use) rfl hs hclos S.kind S.nm (thn (hi pins s σ H _ I h) fun xv s1 h1=>thn h1 fun itv s2 h2=>?_)
 obtain ⟨it,fp,tn,J,H2,rfl,I2,T,st2,f2,W,⟨m0,w0⟩,turn⟩:=h2
 have fpo:∀ b∈fp,b < s2.heap.objs.size:=fun b hb=>by
  obtain ⟨o,e,_⟩:=T.obj _ _ st2 b hb
  exact Heap.lt_size e
 refine wpAny_newObj_type (wpAny_newFunctionEnv S.cell (fun y hy=>by cases hy) (fun g' hns hsb=>?_) S.kind)
 dsimp only at hns hsb ⊢
 generalize hP2:s2.heap.push { cls:=.type "list",dict:=none,data:=.seq ([]:List Value).toArray }=P2 at hns hsb ⊢
 have hCs:P2.objs.size=s2.heap.objs.size+1:=by rw [<- hP2,Heap.size_push]
 have hDC:s2.heap.objs.size≠P2.objs.size:=by omega
 have hle:s2.heap.objs.size<=P2.objs.size:=by omega
 have nc:∀ b o,s2.heap.get? b=some o->b≠P2.objs.size:=fun b o e=>a0D (a0p (Heap.lt_size e) hle)
 have nd:∀ b o,s2.heap.get? b=some o->b≠s2.heap.objs.size:=fun b o e=>a0D (Heap.lt_size e)
 have ndH:∀ b u,H2 b=some u->b≠s2.heap.objs.size:=fun b u e=>a0D (I2.hok.lt e)
 have old:∀ b o,s2.heap.get? b=some o->g'.get? b=some o:=fun b o e=>hsb.extBut b o (nc b o e) (Heap.get?_push_of_some _ (hP2 ▸ Heap.get?_push_of_some _ e))
 have accD:g'.get? s2.heap.objs.size=some (iL []):=hsb.extBut _ _ hDC (Heap.get?_push_of_some _ (hP2 ▸ Heap.get?_push_size _ rfl))
 have stkD:s2.heap.objs.size ∉ frs X.stack:=fun hb=>(a0r.mp (I2.stkSub _ hb)).elim (fun z=>absurd z (a1b I2.lt)) (I2.nofs (a0m _))
 generalize hσ':bj σ is=σ' at turn
 have I3:Inv (ah X (pre++ys) scope cl P2.objs.size s2 H2 fp) pins (a0i pre.length none++σ') H2 { s2 with heap:=g',toks:=s2.toks+([]:List (Str×Value)).length }:=by rw [<- hσ']; exact mP (pre:=pre) I2 f2 fpo S hcl hfr fr hle old hns
 have stat:∀ {H':Hp} {o:Obj},(∀ b∈fp,H' b=none)->∀ b∈fp,fP (ah X (pre++ys) scope cl P2.objs.size s2 H2 fp) (pins++[(s2.heap.objs.size,o)]) H' b:=fun {H' o} hn b hb=>by
  refine ⟨hn b hb,a0D (a0p (fpo b hb) hle),fun z=>(a0r.mp (I2.stkSub _ z)).elim (f2 b hb).2.1 (f2 b hb).2.2.1,.inl hb,fun a c e=>(f2 b hb).2.2.2.2.1 a c (hcl.get e),fun p hp=>?_⟩
  rcases a0O.mp hp with z | z
  ·exact (f2 b hb).2.2.2.2.2 p (a0I _ z)
  ·rcases a0O.mp z with z | z
   ·exact (f2 b hb).2.2.2.2.2 p (a0o _ z)
   ·rw [a0q.mp z]
    exact a1b (fpo b hb)
 have loop:codeAny (model X.prog X.w) X.A (.compLoop (.ListComp elt [⟨tg,iter,cs,0⟩] scope pos) 0 (.ref it) (.ref s2.heap.objs.size) (compEnvC scope cl P2.objs.size X.env))
   (compPost (model X.prog X.w) X.A X.xe use Qp (.ref s2.heap.objs.size) P2.objs.size) { s2 with heap:=g',toks:=s2.toks+([]:List (Str×Value)).length }:=by
  refine i8 (X:=ah X (pre++ys) scope cl P2.objs.size s2 H2 fp) (fun n s'=>∃ i zs its H',Inv (ah X (pre++ys) scope cl P2.objs.size s2 H2 fp) pins (a0i pre.length none++σ') H' s'/\tn i s'.heap/\(∀ b∈fp,H' b=none)/\s'.heap.get? s2.heap.objs.size=some (iL its)/\Vals zs its/\H' s2.heap.objs.size=none/\W i n zs H')
   ?_ m0 ⟨0,[],[],H2,I3,T.keep _ _ _ st2 (fun b _ o e=>old b o e),fun b hb=>(f2 b hb).1,accD,.nil,I2.hok.fresh (a0m _),w0⟩ hcs
  rintro n s3 ⟨i,zs,its,H3,J3,st3,fr3,d3,rv3,nd3,w3⟩
  have hzl:=rv3.length
  have J3':Inv (ah X (pre++ys) scope cl P2.objs.size s2 H2 fp) (pins++[(s2.heap.objs.size,iL its)]) (a0i pre.length none++σ') H3 s3:=J3.pins_of fun p hp=>by
   rcases a0O.mp hp with z | z
   ·exact J3.pin p (a0o _ z)
   ·rw [a0q.mp z]
    exact ⟨d3,nd3,hDC,stkD,fun v q=>by cases q⟩
  rcases turn i n zs H3 w3 with ⟨stop,hz,q⟩ | ⟨go,hz,step⟩
  ·refine wpAny_mono (T.done (ah X (pre++ys) scope cl P2.objs.size s2 H2 fp) rfl rfl rfl hc i _ s3 _ H3 noX J3' (stat fr3) st3 stop) (fun r s4 h4=>?_) fun _ _ z=>z.elim
   obtain ⟨hr,I4⟩:=h4
   subst hr
   obtain ⟨m4,hn4,_⟩:=id I4.loc
   have f4:H3 P2.objs.size=none:=I4.free
   have d4:s4.heap.get? s2.heap.objs.size=some (iL its):=(I4.pin (s2.heap.objs.size,iL its) (a0o _ (a0o _ (a0q.mpr rfl)))).1
   have u4:Un (frs X.stack) fp H2 H3 s2.heap s4.heap:=I4.base
   have un:Un (frs X.stack) fp H2 (upd H3 s2.heap.objs.size (.lst zs)) s2.heap s4.heap :=
    ⟨u4.keep,u4.slot,fun b o e n hx=>by rw [ab (nd b o e)]; exact u4.free b o e n hx,u4.there,
     fun b xs q=>by rw [ab (ndH b _ q)]; exact u4.tups b xs q,fun b o u q=>by rw [ab (ndH b _ q)]; exact u4.frzs b o u q,fun b ps q=>by rw [ab (ndH b _ q)]; exact u4.tbls b ps q⟩
   have IX:Inv X pins σ (upd H3 s2.heap.objs.size (.lst zs)) s4:=I2.call' (s':=s4) (ch:=fp) I4.os un (gR I4.hok nd3 ⟨hz,its,its.length,rv3,d4⟩) I4.bare
    (fun b hb=>⟨(f2 b hb).2.2.2.1,(f2 b hb).2.1,(f2 b hb).2.2.2.2.1,(f2 b hb).2.2.2.2.2⟩)
   have cL:P2.objs.size≠X.env.locals:=a1b (a0p I2.lt hle)
   have cC:∀ a c,X.env.cells.lookup a=some c->c≠P2.objs.size:=fun a c e=>by
    obtain ⟨v',o',ho',_⟩:=I2.cell a c e
    exact nc c o' ho'
   exact fin s4 _ s2.heap.objs.size P2.objs.size m4 IX hn4 cL cC (by rw [ab (a18 hDC)]; exact f4) (a0y I2.sz hle) (fun p hp=>nc p.1 _ (I2.pin p hp).1) (q _ nd3)
  ·refine wpAny_mono (T.item (ah X (pre++ys) scope cl P2.objs.size s2 H2 fp) rfl rfl rfl hc i _ s3 _ H3 noX J3' (stat fr3) st3 go) (fun r s4 h4=>?_) fun _ _ z=>z.elim
   obtain ⟨u,hr,h4⟩:=h4
   subst hr
   refine wpAny_mono h4 (fun _ s5 h5=>?_) fun _ _ z=>z.elim
   obtain ⟨v,H5,I5,r5,y5,st5,fr5⟩:=h5
   have I5':=I5.pinned (stat fr5) (T.obj _ _ st5)
   refine wpAny_mono (hg P2.objs.size s2 H2 fp _ s5 _ H5 v u _ I5' r5 (step v H5 y5)) (fun _ s6 h6=>?_) fun _ _ z=>z.elim
   obtain ⟨σ6,H6,I6,⟨hl6,hd6⟩,step'⟩:=h6
   have back:∀ {H7:Hp} {s7:Shared},Inv (ah X (pre++ys) scope cl P2.objs.size s2 H2 fp) ((pins++[(s2.heap.objs.size,iL its)])++fO fp s5.heap) σ6 H7 s7->Inv (ah X (pre++ys) scope cl P2.objs.size s2 H2 fp) pins (a0i pre.length none++σ') H7 s7:=fun I7=>I7.unpinned.unpinned.weak (by rw [hl6,a0l,a0H]) fun j w' e=>qF hd6 e
   refine CW.mono (hcd P2.objs.size s2 H2 fp _ s6 _ H6 _ I6 step') fun ok s6' h6'=>?_
   obtain ⟨H6',I6',q6⟩:=h6'
   cases ok with
   | false =>
    rw [if_neg a0f] at q6
    obtain ⟨m',hm',w7⟩:=q6
    have pinD:=I6'.pin (s2.heap.objs.size,iL its) (a0o _ (a0I _ (a0o _ (a0q.mpr rfl))))
    rw [if_neg a0f]
    refine ⟨m',hm',i+1,zs,its,H6',back I6',T.keep _ _ _ st5 fun b hb o e=>?_,fun b hb=>?_,pinD.1,rv3,pinD.2.1,w7⟩
    ·exact (I6'.pin (b,o) (a0o _ (a0o _ (bx hb e)))).1
    ·obtain ⟨o,e,_⟩:=T.obj _ _ st5 b hb
     exact (I6'.pin (b,o) (a0o _ (a0o _ (bx hb e)))).2.1
   | true =>
    rw [if_pos rfl] at q6 ⊢
    refine wpAny_mono (he P2.objs.size s2 H2 fp _ s6' _ H6' _ I6' q6) (fun yv s7 h7=>?_) fun _ _ z=>z.elim
    obtain ⟨y',H7,I7,r7,m',hm',w7⟩:=h7
    have pinD:=I7.pin (s2.heap.objs.size,iL its) (a0o _ (a0I _ (a0o _ (a0q.mpr rfl))))
    refine append_at (hsz:=by show its.toArray.size<=sizeLine; rw [a0n]; omega) pinD.1 fun h8 sb8 hD8=>?_
    have I8:Inv (ah X (pre++ys) scope cl P2.objs.size s2 H2 fp) pins (a0i pre.length none++σ') H7 { s7 with heap:=h8 }:=(back I7).turned (t':=s7.toks) (it:=s2.heap.objs.size) (fun b o hb e=>(sb8.2 b hb).trans e) pinD.2.1 hDC (.inr (a0m _))
     (fun a c e z=>by
      obtain ⟨v',o',ho',_⟩:=I2.cell a c (hcl.get e)
      exact nd c o' ho' z)
     (fun p hp=>nd p.1 _ (I2.pin p hp).1)
    refine ⟨m',hm',i+1,zs++[y'],its++[yv],H7,I8,T.keep _ _ _ st5 fun b hb o e=>?_,fun b hb=>?_,?_,rv3.append (.cons r7 .nil),pinD.2.1,w7⟩
    ·exact (sb8.2 b (a0D (fpo b hb))).trans (I7.pin (b,o) (a0o _ (a0o _ (bx hb e)))).1
    ·obtain ⟨o,e,_⟩:=T.obj _ _ st5 b hb
     exact (I7.pin (b,o) (a0o _ (a0o _ (bx hb e)))).2.1
    ·show h8.get? s2.heap.objs.size=_
     rw [hD8]
     simp [iL]
 exact codeAny_compStart_list loop (T.self X.A 0 _ _ _ (T.keep _ _ _ st2 (fun b _ o e=>old b o e)) loop)
section
variable {X:Cx}{elt iter tg cnd:Expr}{pre:List Str}{pos spos pz:Pos}{z:Str}{jz:Nat}{scope:Scope}{cl:List (Str×Addr)}{ys:List Str}{is:List Nat}{wi:TI}{g:TG}{te:TE}{tc:TT}
theorem pcF (h:PT X cnd tc)(hx:∀ v s,X.xe v s->False):PC X [cnd] tc:=fun pins s σ H Q I q=>wpAny_mono (h pins s σ H Q I q) (fun _ _ z=>z) fun v s z=>hx v s z
noncomputable def tT:TT:=fun _ H Q=>Q true H
theorem pcN:PC X [] tT:=fun pins s σ H Q I q=>⟨H,I,q⟩
theorem goN {n:Nat}{σ:L2.St}{H:Hp}{Q:VK}(h:ir n wi is g te σ H Q):cN n wi is g tT te σ H Q:=h
theorem jT {cs:List Expr}(hc:X.calm=true)(hi:PI X tg iter wi)(hg:∀ C s H fp,PG (ah X (pre++ys) scope cl C s H fp) tg g)(he:∀ C s H fp,PE (ah X (pre++ys) scope cl C s H fp) elt te)(hcd:∀ C s H fp,PC (ah X (pre++ys) scope cl C s H fp) cs tc)(hcs:cs.length<=1)
  (hclos:closureFor scope X.env=pure cl) (S:av pre ys scope) (hcl:Clo X cl) (hfr:(scope.names.all fun p=>p.2 != .free || (cl.lookup p.1).isSome)=true) (fr:Frees X scope cl ys is) (hs:∀ v,foldedSetIterable iter X.env v=pure v) :
  PE X (.ListComp elt [⟨tg,iter,cs,0⟩] scope pos) (cN pre.length wi is g tc te):=by
 intro pins s σ H Q I h
 rw [eval_ListComp]
 show wpAny _ _ (comprehension _ scope X.env _ (newList []) false (eval iter X.env) none) _ _ s
 refine j6 hc hi hg he hcd hcs hclos S hcl hfr fr hs (fun s4 Hn D L m4 IX hn cL cC hL hz hp q=>?_) I h
 exact ⟨m4,hn,fun h' sb=>⟨.ref D,_,IX.turned (t':=s4.toks) (it:=L) (fun b o hb e=>(sb.2 b hb).trans e) hL cL (.inr hz) cC hp,rfl,q⟩⟩
theorem j3 {cs:List Expr}(hN:X.N.Nodup)(hj:X.N[jz]?=some z)(hzLoc:Loc X.env.scope z)(hsw:swapsWith (.ListComp elt [⟨tg,iter,cs,0⟩] scope pos) (some (.Name z pz)) spos.line X.env=pure true)(hc:X.calm=true)(hi:PI X tg iter wi)(hg:∀ C s H fp,PG (ah X (pre++ys) scope cl C s H fp) tg g)(he:∀ C s H fp,PE (ah X (pre++ys) scope cl C s H fp) elt te)(hcd:∀ C s H fp,PC (ah X (pre++ys) scope cl C s H fp) cs tc)(hcs:cs.length<=1)
  (hclos:closureFor scope X.env=pure cl) (S:av pre ys scope) (hcl:Clo X cl) (hfr:(scope.names.all fun p=>p.2 != .free || (cl.lookup p.1).isSome)=true) (fr:Frees X scope cl ys is) (hs:∀ v,foldedSetIterable iter X.env v=pure v) (hfn:X.fn z=true\/X.env.scope.names.lookup z=some .local) :
  PS X (.Assign [.Name z pz] (.ListComp elt [⟨tg,iter,cs,0⟩] scope pos) spos) (nK (cN pre.length wi is g tc te) (cJ jz)):=by
 intro pins s σ H D I h
 rw [exec_Assign_Name_used _ _ _ _ hsw]
 refine wpAny_bind (wpAny_standAt (wpAny_bind ?_)); show wpAny _ _ (do let _ <- comprehension (.ListComp elt [⟨tg,iter,cs,0⟩] scope pos) scope X.env _ (newList []) false (eval iter X.env) (some (assign (.Name z pz) X.env))) _ _ s
 refine wpAny_bind (thn (j6 (use:=some (assign (.Name z pz) X.env)) (Qp:=fun _ s'=>SP X pins D .next s') hc hi hg he hcd hcs hclos S hcl hfr fr hs (fun s4 Hn d L m4 IX hn cL cC hL hz hp q=>?_) I h) fun _ s' hq=>wpAny_pure (wpAny_pure hq))
 show wpAny _ _ (assign (.Name z pz) X.env (.ref d)) _ _ s4
 refine wpAny_assign_Name (gW IX hN hj hzLoc (v:=.ref d) rfl (fun s5 I5 h5=>?_) hfn)
 obtain ⟨a5,sb5,ha5⟩:=h5
 have na:L≠a5:=ha5.elim (fun e=>by rw [e]; exact cL) fun e=>a18 (cC _ _ e)
 exact ⟨m4,hn.sameBut sb5 na,fun h' sb=>⟨_,_,I5.turned (t':=s5.toks) (it:=L) (fun b o hb e=>(sb.2 b hb).trans e) hL cL (.inr hz) cC hp,q⟩⟩
theorem gY (hc:X.calm=true)(hi:PI X tg iter wi)(hg:∀ C s H fp,PG (ah X (pre++ys) scope cl C s H fp) tg g)(he:∀ C s H fp,PE (ah X (pre++ys) scope cl C s H fp) elt te)
  (hclos:closureFor scope X.env=pure cl) (S:av pre ys scope) (hcl:Clo X cl) (hfr:(scope.names.all fun p=>p.2 != .free || (cl.lookup p.1).isSome)=true) (fr:Frees X scope cl ys is) (hs:∀ v,foldedSetIterable iter X.env v=pure v:=by intro _; rfl) :
  PE X (.ListComp elt [⟨tg,iter,[],0⟩] scope pos) (ir pre.length wi is g te):=fun pins s σ H Q I h=>jT hc hi hg he (fun _ _ _ _=>pcN) (a0M _) hclos S hcl hfr fr hs pins s σ H Q I (goN h)
theorem gy (hc:X.calm=true)(hi:PI X tg iter wi)(hg:∀ C s H fp,PG (ah X (pre++ys) scope cl C s H fp) tg g)(he:∀ C s H fp,PE (ah X (pre++ys) scope cl C s H fp) elt te)(hcd:∀ C s H fp,PT (ah X (pre++ys) scope cl C s H fp) cnd tc)
  (hclos:closureFor scope X.env=pure cl) (S:av pre ys scope) (hcl:Clo X cl) (hfr:(scope.names.all fun p=>p.2 != .free || (cl.lookup p.1).isSome)=true) (fr:Frees X scope cl ys is) (hs:∀ v,foldedSetIterable iter X.env v=pure v:=by intro _; rfl) :
  PE X (.ListComp elt [⟨tg,iter,[cnd],0⟩] scope pos) (cN pre.length wi is g tc te):=jT hc hi hg he (fun _ _ _ _=>pcF (hcd _ _ _ _) fun _ _ z=>z) (a0m _) hclos S hcl hfr fr hs
theorem nJ (hN:X.N.Nodup)(hj:X.N[jz]?=some z)(hzLoc:Loc X.env.scope z)(hsw:swapsWith (.ListComp elt [⟨tg,iter,[],0⟩] scope pos) (some (.Name z pz)) spos.line X.env=pure true)(hc:X.calm=true)(hi:PI X tg iter wi)(hg:∀ C s H fp,PG (ah X (pre++ys) scope cl C s H fp) tg g)(he:∀ C s H fp,PE (ah X (pre++ys) scope cl C s H fp) elt te)
  (hclos:closureFor scope X.env=pure cl) (S:av pre ys scope) (hcl:Clo X cl) (hfr:(scope.names.all fun p=>p.2 != .free || (cl.lookup p.1).isSome)=true) (fr:Frees X scope cl ys is) (hs:∀ v,foldedSetIterable iter X.env v=pure v:=by intro _; rfl) (hfn:X.fn z=true\/X.env.scope.names.lookup z=some .local:=by first | exact .inl rfl | exact .inr rfl | assumption) :
  PS X (.Assign [.Name z pz] (.ListComp elt [⟨tg,iter,[],0⟩] scope pos) spos) (nK (ir pre.length wi is g te) (cJ jz)):=fun pins s σ H D I h=>j3 hN hj hzLoc hsw hc hi hg he (fun _ _ _ _=>pcN) (a0M _) hclos S hcl hfr fr hs hfn pins s σ H D I (goN h)
theorem mR (hN:X.N.Nodup)(hj:X.N[jz]?=some z)(hzLoc:Loc X.env.scope z)(hsw:swapsWith (.ListComp elt [⟨tg,iter,[cnd],0⟩] scope pos) (some (.Name z pz)) spos.line X.env=pure true)(hc:X.calm=true)(hi:PI X tg iter wi)(hg:∀ C s H fp,PG (ah X (pre++ys) scope cl C s H fp) tg g)(he:∀ C s H fp,PE (ah X (pre++ys) scope cl C s H fp) elt te)(hcd:∀ C s H fp,PT (ah X (pre++ys) scope cl C s H fp) cnd tc)
  (hclos:closureFor scope X.env=pure cl) (S:av pre ys scope) (hcl:Clo X cl) (hfr:(scope.names.all fun p=>p.2 != .free || (cl.lookup p.1).isSome)=true) (fr:Frees X scope cl ys is) (hs:∀ v,foldedSetIterable iter X.env v=pure v:=by intro _; rfl) (hfn:X.fn z=true\/X.env.scope.names.lookup z=some .local:=by first | exact .inl rfl | exact .inr rfl | assumption) :
  PS X (.Assign [.Name z pz] (.ListComp elt [⟨tg,iter,[cnd],0⟩] scope pos) spos) (nK (cN pre.length wi is g tc te) (cJ jz)):=j3 hN hj hzLoc hsw hc hi hg he (fun _ _ _ _=>pcF (hcd _ _ _ _) fun _ _ z=>z) (a0m _) hclos S hcl hfr fr hs hfn
end
end L3

namespace L3
open PySem PySem.Spec PyProof.Rows L2
end L3
namespace L3
open PySem PySem.Spec PyProof.Rows L2
noncomputable abbrev qm (xs:List Value)(c:Nat):Obj:={ cls:=.type "list",data:=.seq xs.toArray c }
noncomputable def Kp (S:Addr)(h h':Heap):Prop:=∀ b o,b≠S->h.get? b=some o->h'.get? b=some o
section
variable {prog:Program}{w:World}{A:Around}{E:Value->Shared->Prop}{s:Shared}{S it:Addr}{xs:List Value}{c:Nat}
theorem Al {f:Array Value->Array Value}{Q:Unit->Shared->Prop}(hS:s.heap.get? S=some (qm xs c))(h1:xs.length<=sizeLine)(h2:(f xs.toArray).size<=sizeLine+1)
  (q:∀ h' c',h'.get? S=some (qm (f xs.toArray).toList c')->Kp S s.heap h'->Q () { s with heap:=h' }):wpAny (model prog w) A (updateSeq S f) Q E s :=
 wpAny_updateSeq hS rfl (q _ _ (Heap.get?_update_self (Obj.mapSeq f) hS rfl) fun _ _ hb e=>by rw [Heap.get?_update_other _ _ hb.symm]; exact e) h1 h2
end
end L3
namespace L3
open PySem PySem.Spec PyProof.Rows L2
end L3

namespace L3
open PySem PySem.Spec PyProof.Rows L2
theorem bM:∀ {ns:List Int} {us:List Value},Vals (ns.map V.int) us->IntsAre us ns
 | [],_,.nil=>.nil
 | n::ns,_,.cons ⟨t,e⟩ r=>by cases e; exact .cons n t (bM r)
theorem mI {X:Cx}(hc:X.calm=true):bI X (.builtin "max") (fun xs H Q=>∃ (a:Addr) (ns:List Int),xs=[.ref a]/\SqL X.K H a (ns.map V.int)/\ns≠[]/\∀ M,M∈ns->(∀ n∈ns,n<=M)->Q (.int M) H):=by
 intro pins s σ H xs us Q I r h
 obtain ⟨a,ns,rfl,hS,hne,q⟩:=h
 obtain ⟨u,rfl,ru⟩:=cf r
 cases ru
 obtain ⟨its,rv,p,hz⟩:=I.list hS
 have hi:=bM rv
 obtain ⟨xs,hxs⟩:=hi.allInts.items
 have hnum:numsOf its=ns:=hi.numsOf
 have hl:s.heap.IsList a (intItems xs):=by rw [<- hxs]; exact p.isList
 have hnx:numsOf (intItems xs).toList=ns:=by rw [<- hxs]; exact hnum
 rw [nums_intItems] at hnx
 have hlen:xs.size=ns.length:=by rw [<- hnx,a0b,a0V]
 have hsz:0 < xs.size:=by rw [hlen]; exact a1V.mpr hne
 refine max_intList (show X.A.handled=none from I.ok.hd hc) hl hsz fun v h' tk hv hk=>?_
 obtain ⟨t,rfl⟩:=intItems_at hv
 obtain ⟨h1,h2⟩:=argBest_gt (numAt xs) (xs.size-1)
 refine ⟨.int _,H,I.kept hk,⟨t,rfl⟩,q _ ?_ fun n hn=>?_⟩
 ·rw [<- hnx,numAt_eq]; exact getD_mem (by rw [a0b,a0V]; omega)
 ·rw [<- hnx] at hn
  obtain ⟨j,hj,rfl⟩:=mem_getD hn
  rw [a0b,a0V] at hj
  rw [<- numAt_eq]; exact h2 j (by omega)
end L3
namespace L3
open PySem PySem.Spec PyProof.Rows L2
noncomputable abbrev xN (h:Heap)(T:Addr)(a b c:Value):Prop:=h.get? T=some { cls:=.type "tuple",data:=.seq #[a,b,c] }
end L3
namespace L3
open PySem PySem.Spec PyProof.Rows L2
noncomputable def Z3 (n a1 a2 a3:Nat)(i:Nat)(h:Heap):Prop :=
 IsZip h (n+5) (n+3) (n+4) .none/\xN h (n+3) (.ref n) (.ref (n+1)) (.ref (n+2))/\(∃ a b c,xN h (n+4) a b c)/\ItO h false n a1 i/\ItO h false (n+1) a2 i/\ItO h false (n+2) a3 i
end L3

namespace M
open PySem (Str)
inductive T where
 | non | bl (b:Bool) | int (i:Int) | str (x:Str) | tup (ts:List T) | lst (ts:List T) | dct (ks:List (Int ⊕ Str)) (vs:List T) | ins (c:Str) (fs:List Str) (vs:List T)
 | scr (ns:List Int)
 | gone
 deriving Inhabited
inductive Md where
 | s | d | o (m:Md)
 deriving DecidableEq,Inhabited
noncomputable def Md.kid:Md->Md
 | .s=>.s | .d=>.d | .o m=>m
noncomputable def Md.up:Md->Md
 | .d=>.d | m=>.o m
noncomputable def Md.meet:Md->Md->Md
 | .s,_=>.s | .d,m=>m | .o _,.s=>.s | .o a,.d=>.o a | .o a,.o b=>.o (a.meet b)
noncomputable def Md.le:Md->Md->Bool
 | .s,_=>true
 | .o a,.o b=>a.le b
 | .o _,.d=>true
 | .d,.d=>true
 | _,_=>false
noncomputable abbrev W:=Md×T
noncomputable abbrev Env:=List (Option W)
noncomputable def LIM:Nat:=16777215
noncomputable def T.leaf:T->Bool
 | .non | .bl _ | .int _ | .str _ | .scr _=>true
 | _=>false
noncomputable def T.isG:T->Bool
 | .gone=>true
 | .dct _ _=>true
 | _=>false
noncomputable def T.isN:T->Bool
 | .non=>true
 | _=>false
noncomputable def leaves (ts:List T):Bool:=ts.all T.leaf
inductive Op where
 | add | sub | mul | fdiv | mod | pow | neg | eq | ne | lt | le | gt | ge | is | isnot | isin | notin | ix | sl | sl1 | sl2 | sl3
 | len | isI (cs:List String) | max1 | maxZ | min1 | count | fdivN | modN | intS | apd | mulS | listS | list | tuple | sum | all | any | max | min | int | str | rng | sorted | join | split | abs | dict | get | lzip | isB | isnB | lower | inS | ninS | inX | ninX | leS | catT | dnew | sortedD | sortedS | lenSet | countS | repr | ixD | revL
 deriving DecidableEq,Inhabited
inductive Ik where
 | seq | rng | enm | zip | sq2 | zip3 | chr | enmT
 deriving DecidableEq,Inhabited
inductive E where
 | var (i:Nat) | mv (i:Nat) | io (i:Nat) | cst (t:T) | glb (x:Str) (t:T)
 | tup (es:List E) | lst (h:Bool) (es:List E) | op (o:Op) (h:Bool) (es:List E) | wk (m:Md) (e:E)
 | and (a b:E) | or (a b:E) | not (a:E) | ifx (c a b:E) | chain (o p:Op) (a b c:E)
 | call (f:Nat) (es:List E) | comp (h:Bool) (k:Ik) (src:List E) (tg:List Nat) (cnd:Option E) (elt:E)
 | pop (i:Nat) (es:List E) | lenV (i:Nat) | ixV (i j:Nat) | popN (i:Nat) (e:E) | compV (h:Bool) (i t:Nat) (c e:E)
 | tupA (es:List E) | qx (vs ls:List Nat) (e:E) | mvP (i:Nat) (p:List Nat)
 | callT (tab:List (Str×Nat)) (k:E) (es:List E) | inT (neg:Bool) (ks:List Str) (e:E) | ixT (tab:List (Str×T)) (e:E) | getT (tab:List (Str×T)) (e:E)
 deriving Inhabited
inductive X where
 | q (vs ls:List Nat) | l (vs:List Nat)
 deriving Inhabited
inductive S where
 | asg (x:X) (i:Nat) (e:E) | asgT (x:X) (is:List Nat) (e:E) | setI (x:X) (i:Nat) (k e:E) | setK (x:X) (i:Nat) (k e:E) | setS (x:X) (i:Nat) (k e:E) | insF (x:X) (i:Nat) (e:E) | revS (i:Nat) | apN (i k l:Nat) | insN (i k l:Nat)
 | exp (x:X) (e:E) | app (x:X) (i:Nat) (e:E) | ext (x:X) (i:Nat) (e:E)
 | ret (vs:List Nat) (e:E) | retN | ite (x:X) (c:E) (a b:List S)
 | forS (vs ls:List Nat) (k:Ik) (src:List E) (tg:List Nat) (body:List S) | forU (k:Ik) (src:List E) (tg:List Nat) (body:List S) | whl (x:X) (c:E) (body:List S)
 | brk | pas | stop | tri (body:List S)
 deriving Inhabited
structure Fn where
 ps:Nat
 ns:Nat
 io:List Nat
 body:List S
inductive Res (α:Type) where
 | ok (a:α) | ex (c:Str) (x:List T) | no
noncomputable def Res.bind {α β:Type}:Res α->(α->Res β)->Res β
 | .ok a,f=>f a
 | .ex c x,_=>.ex c x
 | .no,_=>.no
noncomputable def ofO {α:Type}:Option α->Res α
 | some a=>.ok a
 | none=>.no
inductive Fl where
 | nx (η:Env) | rt (w:W) (η:Env) | bk (η:Env) | ex (c:Str) (x:List T) (η:Env) | no
noncomputable def truth:T->Option Bool
 | .non=>some false | .bl b=>some b | .int i=>some (i != 0) | .str x=>some (x.cps.size != 0) | .tup ts=>some (!ts.isEmpty) | .lst ts=>some (!ts.isEmpty) | .dct _ _=>none | .ins ..=>none | .scr ns=>some (!ns.isEmpty) | .gone=>none
noncomputable def b2i:Bool->Int
 | true=>1 | false=>0
mutual
noncomputable def eqT:T->T->Bool
 | .non,.non=>true
 | .bl a,.bl b=>a==b
 | .bl a,.int i=>b2i a==i
 | .int i,.bl a=>i==b2i a
 | .int i,.int j=>i==j
 | .str x,.str y=>x==y
 | .tup ts,.tup us=>eqTs ts us
 | .lst ts,.lst us=>eqTs ts us
 | _,_=>false
noncomputable def eqTs:List T->List T->Bool
 | [],[]=>true
 | t::ts,u::us=>eqT t u&&eqTs ts us
 | _,_=>false
end
mutual
noncomputable def dp:T->Nat
 | .tup ts=>dps ts+1
 | .lst ts=>dps ts+1
 | .scr _=>1000
 | .dct _ _=>1000
 | .ins _ _ _=>1000
 | .gone=>1000
 | _=>0
noncomputable def dps:List T->Nat
 | []=>0
 | t::ts=>max (dp t) (dps ts)
end
noncomputable def sOk (x:Str):Bool:=x.cps.all (· < 0x110000)&&decide (x.cps.size<=LIM)
noncomputable def kOk:Int ⊕ Str->Bool
 | .inl _=>true
 | .inr x=>sOk x
noncomputable def keyT:T->Option (Int ⊕ Str)
 | .int n=>some (.inl n)
 | .str x=>some (.inr x)
 | _=>none
noncomputable def ot:List (Int ⊕ Str)->Option (List Str)
 | []=>some []
 | .inr x::ks=>(ot ks).map (x::·)
 | .inl _::_=>none
noncomputable def lookD (q:Int ⊕ Str):List (Int ⊕ Str)->List T->Option T
 | y::ys,v::vs=>if y=q then some v else lookD q ys vs
 | _,_=>none
noncomputable def ixN (n:Nat)(i:Int):Option Nat:=if 0<=i then (if i < n then some i.toNat else none) else if -(n:Int)<=i then some (i+n).toNat else none
noncomputable def atI {α:Type}(xs:List α)(i:Int):Option α:=(ixN xs.length i).bind fun j=>xs[j]?
noncomputable def sIx (n d:Nat):Option Int->Nat
 | none=>d
 | some i=>if i < 0 then (i+n).toNat else min i.toNat n
noncomputable def cut {α:Type}(xs:List α)(lo hi:Option Int):List α:=(xs.drop (sIx xs.length 0 lo)).take (sIx xs.length xs.length hi-sIx xs.length 0 lo)
noncomputable def T.ty:T->String
 | .non=>"NoneType" | .bl _=>"bool" | .int _=>"int" | .str _=>"str" | .tup _=>"tuple" | .lst _=>"list" | .dct ..=>"dict" | .ins ..=>"object" | .scr _=>"list" | .gone=>"gone"
noncomputable def isOne (c:String)(t:T):Bool:=t.ty==c || (t.ty=="bool"&&c=="int")
noncomputable def intsOf:List T->Option (List Int)
 | []=>some []
 | .int i::ts=>(intsOf ts).map (i::·)
 | _::_=>none
noncomputable def aZ:List T->Option (List Bool)
 | []=>some []
 | .bl b::ts=>(aZ ts).map (b::·)
 | _::_=>none
noncomputable def elems:W->Option (List T)
 | (_,.tup ts)=>some ts
 | (_,.lst ts)=>some ts
 | _=>none
noncomputable def flatT:T->Bool
 | .non | .bl _ | .int _ | .str _=>true
 | _=>false
noncomputable def ml:T->Bool
 | .str _=>true
 | _=>false
noncomputable def lR:T->Bool
 | .non | .bl _ | .int _ | .str _ | .lst _ | .tup _=>true
 | _=>false
noncomputable def C1 (c:Nat):Nat:=if 65<=c/\c<=90 then c+32 else c
noncomputable def maxI:List Int->Int
 | []=>0
 | [n]=>n
 | n::ns=>max n (maxI ns)
noncomputable def Dd:List Int->Int
 | []=>0
 | [n]=>n
 | n::ns=>min n (Dd ns)
noncomputable def insI (x:Int):List Int->List Int
 | []=>[x]
 | y::ys=>if x<=y then x::y::ys else y::insI x ys
noncomputable def sortI:List Int->List Int
 | []=>[]
 | x::xs=>insI x (sortI xs)
noncomputable def cU:List T->Option (List Str)
 | []=>some []
 | .str x::ts=>(cU ts).map (x::·)
 | _::_=>none
noncomputable def FL (ks:List Str)(x:Str):List Str:=if ks.contains x then ks else ks++[x]
noncomputable def xO (l:List Str):List Str:=l.foldl FL []
noncomputable def ltS (x y:Str):Bool:=decide (x.cps.toList < y.cps.toList)
noncomputable def Ep (x:Str):List Str->List Str
 | []=>[x]
 | y::ys=>if ltS y x then y::Ep x ys else x::y::ys
noncomputable def jo:List Str->List Str
 | []=>[]
 | x::xs=>Ep x (jo xs)
noncomputable def spl (c:Nat):List Nat->List Nat->List (List Nat)
 | acc,[]=>[acc]
 | acc,x::xs=>if x=c then acc::spl c [] xs else spl c (acc++[x]) xs
noncomputable def BY (x:Str):List Str:=(spl 32 [] x.cps.toList).map fun l=>⟨l.toArray⟩
noncomputable def De (l:List Nat):Nat:=l.foldl (fun a c=>a * 10+(c-48)) 0
noncomputable def zF (x:Str):Int:=match x.cps.toList with
 | 45::cs=>-((De cs:Nat):Int)
 | cs=>((De cs:Nat):Int)
noncomputable def CB (i:Int):Str:=Str.ofString (toString i)
noncomputable def Cu:List T->List T->List T
 | t::ts,u::us=>.tup [t,u]::Cu ts us
 | _,_=>[]
noncomputable def newL (h:Bool)(m:Md)(ts:List T):Option W:=if h then (if leaves ts then some (.d,.lst ts) else none) else some (m.up,.lst ts)
noncomputable def fits (n:Nat):Bool:=decide (n<=LIM)
mutual
noncomputable def datT:T->a3J
 | .bl b=>.bool b
 | .int i=>.int i
 | .str x=>.str x
 | .tup ts=>.tuple (datTs ts)
 | .lst ts=>.list (datTs ts)
 | _=>.none
noncomputable def datTs:List T->List a3J
 | []=>[]
 | t::ts=>datT t::datTs ts
end
mutual
noncomputable def rOk:T->Bool
 | .non | .bl _=>true
 | .int i=>decide (i.natAbs < 10000000000000000000)
 | .str x=>decide ((a2a x).length<=100)&&sOk (a2a x)
 | .tup ts=>rOks ts
 | .lst ts=>rOks ts
 | _=>false
noncomputable def rOks:List T->Bool
 | []=>true
 | t::ts=>rOk t&&rOks ts
end
mutual
noncomputable def szR:T->Nat
 | .tup ts=>szRs ts+4
 | .lst ts=>szRs ts+4
 | _=>100
noncomputable def szRs:List T->Nat
 | []=>0
 | t::ts=>szR t+2+szRs ts
end
noncomputable def oSem:Op->Bool->List W->Option W
 | .add,h,[(m,a),(n,b)]=>match a,b with
  | .int i,.int j=>some (.d,.int (i+j))
  | .str x,.str y=>if fits (x.cps.size+y.cps.size) then some (.d,.str (x++y)) else none
  | .lst ts,.lst us=>if fits (ts.length+us.length) then newL h (m.kid.meet n.kid) (ts++us) else none
  | .tup ts,.tup us=>if fits (ts.length+us.length)&&!ts.isEmpty then some (.s,.tup (ts++us)) else none
  | _,_=>none
 | .sub,_,[(_,.int i),(_,.int j)]=>some (.d,.int (i-j))
 | .mul,h,[(m,a),(_,b)]=>match a,b with
  | .int i,.int j=>if (decide (i.natAbs < 18446744073709551616)) || (decide (j.natAbs < 18446744073709551616)) then some (.d,.int (i * j)) else none
  | .lst ts,.int k=>if decide (k.natAbs < 4611686018427387904)&&fits (ts.length * k.toNat) then newL h .s (a0i k.toNat ts).flatten else none
  | _,_=>none
 | .fdiv,_,[(_,.int i),(_,.int j)]=>if decide (0 < j)&&decide (j < 1073741824) then some (.d,.int (i / j)) else none
 | .mod,_,[(_,.int i),(_,.int j)]=>if decide (0 < j) then some (.d,.int (i % j)) else none
 | .pow,_,[(_,.int i),(_,.int j)]=>if decide (0<=j)&&decide (j<=1000000)&&decide (i.natAbs < 18446744073709551616) then some (.d,.int (i ^ j.toNat)) else none
 | .fdivN,_,[(_,.int i),(_,.int j)]=>if (j != 0)&&decide (j.natAbs < 18446744073709551616) then some (.d,.int (i.fdiv j)) else none
 | .modN,_,[(_,.int i),(_,.int j)]=>if j != 0 then some (.d,.int (i.fmod j)) else none
 | .neg,_,[(_,.int i)]=>some (.d,.int (-i))
 | .eq,_,[(_,a),(_,b)]=>if decide (dp a<=64)&&decide (dp b<=64) then some (.d,.bl (eqT a b)) else none
 | .ne,_,[(_,a),(_,b)]=>if decide (dp a<=64)&&decide (dp b<=64) then some (.d,.bl (!eqT a b)) else none
 | .lt,_,[(_,.int i),(_,.int j)]=>some (.d,.bl (decide (i < j)))
 | .le,_,[(_,.int i),(_,.int j)]=>some (.d,.bl (decide (i<=j)))
 | .gt,_,[(_,.int i),(_,.int j)]=>some (.d,.bl (decide (j < i)))
 | .ge,_,[(_,.int i),(_,.int j)]=>some (.d,.bl (decide (j<=i)))
 | .is,_,[(_,a),(_,.non)]=>if a.isG then none else some (.d,.bl a.isN)
 | .isnot,_,[(_,a),(_,.non)]=>if a.isG then none else some (.d,.bl (!a.isN))
 | .ix,_,[(m,a),(_,.int i)]=>match a with
  | .lst ts=>(atI ts i).map fun t=>(m.kid,t)
  | .tup ts=>(atI ts i).map fun t=>(m.kid,t)
  | .str x=>(atI x.cps.toList i).map fun c=>(.d,.str ⟨#[c]⟩)
  | .scr ns=>(atI ns i).map fun n=>(.d,.int n)
  | _=>none
 | .sl,h,[(m,.lst ts)]=>newL h m.kid ts
 | .sl1,h,[(m,.lst ts),(_,.int i)]=>newL h m.kid (cut ts (some i) none)
 | .sl2,h,[(m,.lst ts),(_,.int i)]=>newL h m.kid (cut ts none (some i))
 | .sl3,h,[(m,.lst ts),(_,.int i),(_,.int j)]=>newL h m.kid (cut ts (some i) (some j))
 | .sl2,_,[(_,.scr ns),(_,.int i)]=>some (.d,.lst ((cut ns none (some i)).map T.int))
 | .sl1,_,[(_,.scr ns),(_,.int i)]=>some (.d,.lst ((cut ns (some i) none).map T.int))
 | .sl,_,[(_,.scr ns)]=>some (.d,.lst (ns.map T.int))
 | .sl1,_,[(_,.tup ts),(_,.int i)]=>some (.s,.tup (cut ts (some i) none))
 | .sl2,_,[(_,.tup ts),(_,.int i)]=>some (.s,.tup (cut ts none (some i)))
 | .sl3,_,[(_,.tup ts),(_,.int i),(_,.int j)]=>some (.s,.tup (cut ts (some i) (some j)))
 | .len,_,[(_,a)]=>match a with
  | .lst ts=>some (.d,.int ts.length)
  | .tup ts=>some (.d,.int ts.length)
  | .str x=>some (.d,.int x.cps.size)
  | .scr ns=>some (.d,.int ns.length)
  | _=>none
 | .isI cs,_,[(_,a)]=>if a.isG then none else some (.d,.bl (cs.any fun c=>isOne c a))
 | .list,h,[(m,a)]=>match a with
  | .lst ts=>newL h m.kid ts
  | .tup ts=>newL h m.kid ts
  | .scr ns=>some (.d,.lst (ns.map T.int))
  | _=>none
 | .tuple,_,[(m,a)]=>match a with
  | .lst ts=>some (m.kid.up,.tup ts)
  | .tup ts=>some (m,.tup ts)
  | _=>none
 | .sum,_,[(_,.lst ts)]=>(intsOf ts).map fun ns=>(.d,.int ns.sum)
 | .all,_,[(_,.lst ts)]=>(aZ ts).map fun bs=>(.d,.bl (bs.all id))
 | .any,_,[(_,.lst ts)]=>(aZ ts).map fun bs=>(.d,.bl (bs.any id))
 | .max,_,[(_,.int i),(_,.int j)]=>some (.d,.int (if j > i then j else i))
 | .min,_,[(_,.int i),(_,.int j)]=>some (.d,.int (if j < i then j else i))
 | .rng,_,[(_,.int i),(_,.int j)]=>if decide (i.natAbs < 4611686018427387904)&&decide (j.natAbs < 4611686018427387904)&&fits (j-i).toNat then some (.d,.lst ((a0k (j-i).toNat).map fun (k:Nat)=>T.int (i+k))) else none
 | .isin,_,[(_,a),(n,b)]=>(elems (n,b)).bind fun ts=>if flatT a&&ts.all flatT then some (.d,.bl (ts.any fun t=>eqT t a)) else none
 | .notin,_,[(_,a),(n,b)]=>(elems (n,b)).bind fun ts=>if flatT a&&ts.all flatT then some (.d,.bl (!ts.any fun t=>eqT t a)) else none
 | .int,_,[(_,.int i)]=>some (.d,.int i)
 | .int,_,[(_,.bl b)]=>some (.d,.int (b2i b))
 | .abs,_,[(_,.int i)]=>some (.d,.int i.natAbs)
 | .maxZ,_,[(_,.lst ts)]=>(intsOf ts).bind fun ns=>some (.d,.int (if ns.isEmpty then 0 else maxI ns))
 | .max1,_,[(_,.lst ts)]=>(intsOf ts).bind fun ns=>if ns.isEmpty then none else some (.d,.int (maxI ns))
 | .min1,_,[(_,.lst ts)]=>(intsOf ts).bind fun ns=>if ns.isEmpty then none else some (.d,.int (Dd ns))
 | .sorted,_,[(_,.lst ts)]=>(intsOf ts).bind fun ns=>if decide (ns.length < 64) then some (.d,.lst ((sortI ns).map T.int)) else none
 | .str,_,[(_,.int i)]=>if decide (i.natAbs < 10000000000000000000) then some (.d,.str (CB i)) else none
 | .intS,_,[(_,.str x)]=>if decide ((zF x).natAbs < 10000000000000000000)&&(CB (zF x)==x) then some (.d,.int (zF x)) else none
 | .join,_,[(_,.str z),(_,.lst ts)]=>(cU ts).bind fun ss=>if sOk (Str.join z ss)&&decide ((ss.map fun s=>s.cps.size+z.cps.size).sum<=LIM) then some (.d,.str (Str.join z ss)) else none
 | .split,_,[(_,.str z),(_,.str y)]=>if (y==Str.ofString " ")&&decide (z.cps.size+2<=LIM)&&(BY z).all sOk then some (.d,.lst ((BY z).map T.str)) else none
 | .mulS,_,[(_,.str x),(_,.int k)]=>if decide (0<=k)&&decide (k<=100)&&decide (x.cps.size<=1000) then some (.d,.str ⟨(a0i k.toNat x.cps.toList).flatten.toArray⟩) else none
 | .listS,_,[(_,.str x)]=>some (.d,.lst (x.cps.toList.map fun c=>T.str ⟨#[c]⟩))
 | .apd,_,[(m,.lst ts),(_,_)]=>if m==.s then none else if decide (ts.length < LIM) then some (.d,.non) else none
 | .count,_,[(_,.lst ts),(_,.bl b)]=>(aZ ts).map fun bs=>(.d,.int (bs.count b))
 | .lower,_,[(_,.str x)]=>if x.cps.toList.all (fun c=>decide (c < 128)) then some (.d,.str ⟨x.cps.map C1⟩) else none
 | .inS,_,[(_,.str x),(_,.str y)]=>some (.d,.bl (!(a06 y x 0 y.length 1).isEmpty))
 | .ninS,_,[(_,.str x),(_,.str y)]=>some (.d,.bl (!(!(a06 y x 0 y.length 1).isEmpty)))
 | .inX,_,[(_,a),(_,.tup ts)]=>if ts.all ml&&lR a then some (.d,.bl (ts.any fun t=>eqT t a)) else none
 | .ninX,_,[(_,a),(_,.tup ts)]=>if ts.all ml&&lR a then some (.d,.bl (!ts.any fun t=>eqT t a)) else none
 | .catT,_,[(_,.tup ts),(_,.tup us)]=>if fits (ts.length+us.length) then some (.s,.tup (ts++us)) else none
 | .dnew,_,[]=>some (.d,.dct [] [])
 | .lenSet,_,[(_,.tup ts)]=>(cU ts).bind fun ss=>if decide (ss.length < 1000) then some (.d,.int (xO ss).length) else none
 | .countS,_,[(_,.lst ts),(_,.str x)]=>(cU ts).bind fun ss=>some (.d,.int (ss.count x))
 | .sortedS,_,[(_,.lst ts)]=>(cU ts).bind fun ss=>if decide (ss.length < 64) then some (.d,.lst ((jo ss).map T.str)) else none
 | .sortedD,_,[(_,.dct ks _)]=>(ot ks).bind fun ss=>if decide (ss.length < 64) then some (.d,.lst ((jo ss).map T.str)) else none
 | .ixD,_,[(.s,.dct ks vs),(_,k)]=>(keyT k).bind fun q=>(lookD q ks vs).map fun t=>(.s,t)
 | .revL,_,[(.s,.lst ts)]=>some (.o .s,.lst ts.reverse)
 | .repr,_,[(_,t)]=>if decide (dp t<=64)&&rOk t&&fits (szR t) then some (.d,.str (datT t).shown) else none
 | .leS,_,[(_,.str x),(_,.str y)]=>some (.d,.bl (!decide (y.cps.toList < x.cps.toList)))
 | .isB,_,[(_,.bl a),(_,.bl b)]=>some (.d,.bl (a==b))
 | .isnB,_,[(_,.bl a),(_,.bl b)]=>some (.d,.bl (!(a==b)))
 | .lzip,_,[(m,a),(n,b)]=>(elems (m,a)).bind fun ts=>(elems (n,b)).bind fun us=>some ((m.kid.meet n.kid).up.up,.lst (Cu ts us))
 | _,_,_=>none
noncomputable def rd:Env->Nat->Option W
 | [],_=>none
 | o::_,0=>o
 | _::η,i+1=>rd η i
noncomputable def wr:Env->Nat->Option W->Env
 | [],_,_=>[]
 | _::η,0,w=>w::η
 | o::η,i+1,w=>o::wr η i w
noncomputable abbrev put (η:Env)(i:Nat)(w:W):Env:=wr η i (some w)
noncomputable abbrev del (η:Env)(i:Nat):Env:=wr η i none
noncomputable def look:W->Option W
 | (.s,t)=>some (.s,t)
 | (_,t)=>if t.leaf=true then some (.d,t) else none
noncomputable def toS:Option W->Option W
 | some (_,t)=>some (.s,t)
 | none=>none
noncomputable def share:List Nat->Env->Env
 | [],η=>η
 | i::is,η=>share is (wr η i (toS (rd η i)))
noncomputable def lfO:Option W->Option W
 | some (_,t)=>if t.leaf=true then some (.d,t) else none
 | none=>none
noncomputable def eY:Env->Env
 | []=>[]
 | _::η=>none::eY η
noncomputable def kH:List Nat->Env->Env->Env
 | [],_,η=>η
 | i::is,η0,η=>kH is η0 (wr η i (toS (rd η0 i)))
noncomputable def fS:List Nat->Env->Env->Env
 | [],_,η=>η
 | i::is,η0,η=>fS is η0 (wr η i (lfO (rd η0 i)))
noncomputable def dh (vs ls:List Nat)(η:Env):Env:=fS ls η (kH vs η (eY η))
noncomputable def after (m:Md)(vs:List Nat)(η:Env):Env:=match m with
 | .d=>η
 | _=>share vs η
noncomputable def aY:List Nat->List W->Env->Option Env
 | [],[],η=>some η
 | i::is,w::ws,η=>aY is ws (put η i w)
 | _,_,_=>none
noncomputable def cV (m:Md):Nat->List T->List (List W)
 | _,[]=>[]
 | i,t::ts=>[(.d,.int i),(m,t)]::cV m (i+1) ts
noncomputable def eI (m n:Md):List T->List T->List (List W)
 | t::ts,u::us=>[(m,t),(n,u)]::eI m n ts us
 | _,_=>[]
noncomputable def sy:List T->Option (List (List W))
 | []=>some []
 | .tup [x,y]::ts=>(sy ts).map ([(.s,x),(.s,y)]::·)
 | _::_=>none
noncomputable def qw:List T->List T->List T->List (List W)
 | t::ts,u::us,v::vs=>[(.s,t),(.s,u),(.s,v)]::qw ts us vs
 | _,_,_=>[]
noncomputable def br:Ik->List W->Option (List (List W))
 | .seq,[(_,.lst ts)]=>some (ts.map fun t=>[(.s,t)])
 | .seq,[(_,.tup ts)]=>some (ts.map fun t=>[(.s,t)])
 | .seq,[(_,.scr ns)]=>some (ns.map fun n=>[(.d,.int n)])
 | .rng,[(_,.int n)]=>if decide (n.natAbs < 4611686018427387904)&&fits n.toNat then some ((a0k n.toNat).map fun (k:Nat)=>[(.d,.int k)]) else none
 | .rng,[(_,.int i),(_,.int j)]=>if decide (i.natAbs < 4611686018427387904)&&decide (j.natAbs < 4611686018427387904)&&fits (j-i).toNat then some ((a0k (j-i).toNat).map fun (k:Nat)=>[(.d,.int (i+k))]) else none
 | .rng,[(_,.int i),(_,.int j),(_,.int c)]=>if decide (i.natAbs < 4611686018427387904)&&decide (j.natAbs < 4611686018427387904)&&decide (c=-1)&&fits (i-j).toNat then some ((a0k (i-j).toNat).map fun (k:Nat)=>[(.d,.int (i-k))]) else none
 | .enm,[(_,.lst ts)]=>some (cV .s 0 ts)
 | .enmT,[(_,.tup ts)]=>some (cV .s 0 ts)
 | .zip,[(m,a),(n,b)]=>(elems (m,a)).bind fun ts=>(elems (n,b)).bind fun us=>some (eI .s .s ts us)
 | .sq2,[(_,.lst ts)]=>sy ts
 | .zip3,[(_,.lst ts),(_,.lst us),(_,.lst vs)]=>some (qw ts us vs)
 | .chr,[(_,.str x)]=>some (x.cps.toList.map fun c=>[(.d,.str ⟨#[c]⟩)])
 | _,_=>none
noncomputable abbrev Call:=Nat->List W->Res (W×List W)
noncomputable abbrev RE:=Res (W×Env)
noncomputable def lf (m:Md)(t:T):Md:=if t.leaf=true then .d else m
noncomputable def fR:List W->Md
 | []=>.d
 | w::ws=>(lf w.1 w.2).meet (fR ws)
noncomputable def aS:List W->List T
 | []=>[]
 | w::ws=>w.2::aS ws
noncomputable def af:List Nat->Env->Env
 | [],η=>η
 | i::is,η=>af is (del η i)
noncomputable def ios:List E->List Nat
 | []=>[]
 | .io i::es=>i::ios es
 | _::es=>ios es
noncomputable def putAll:List Nat->List W->Env->Env
 | i::is,w::ws,η=>putAll is ws (put η i w)
 | _,_,η=>η
noncomputable def D5:W->List W->Option (W×W)
 | (.s,_),_=>none
 | (m,.lst ts),[]=>(ts.getLast?).map fun t=>((m.kid,t),(m,.lst ts.dropLast))
 | (m,.lst (t::ts)),[(_,.int 0)]=>some ((m.kid,t),(m,.lst ts))
 | _,_=>none
noncomputable def gn:W->W->Option W
 | (.s,_),_=>none
 | (m,.lst ts),(n,t)=>if ts.length < LIM then some ((m.kid.meet (lf n t)).up,.lst (ts++[t])) else none
 | _,_=>none
noncomputable def AO:W->W->Option W
 | (.s,_),_=>none
 | (m,.lst ts),(n,.lst us)=>if ts.length+us.length<=LIM then some ((m.kid.meet n.kid).up,.lst (ts++us)) else none
 | _,_=>none
noncomputable def aI (k:Int ⊕ Str)(t:T):List (Int ⊕ Str)->List T->List (Int ⊕ Str)×List T
 | [],_=>([k],[t])
 | y::ys,v::vs=>if y=k then (y::ys,t::vs) else ((y::(aI k t ys vs).1),(v::(aI k t ys vs).2))
 | y::ys,[]=>(y::ys,[])
noncomputable def CA:W->W->W->Option W
 | (.s,_),_,_=>none
 | (m,.dct ks vs),(_,k),(_,t)=>(keyT k).bind fun q=>if decide (ks.length < LIM)&&flatT t then some (m,.dct (aI q t ks vs).1 (aI q t ks vs).2) else none
 | _,_,_=>none
noncomputable def ed:W->W->W->Option W
 | (.s,_),_,_=>none
 | (m,.dct ks vs),(_,k),(_,t)=>(keyT k).bind fun q=>if decide (ks.length < LIM) then some (.o .s,.dct (aI q t ks vs).1 (aI q t ks vs).2) else none
 | _,_,_=>none
noncomputable def Fw:W->W->Option W
 | (.s,_),_=>none
 | (m,.lst ts),(_,t)=>if decide (ts.length < LIM)&&leaves ts&&t.leaf then some (m,.lst (t::ts)) else none
 | _,_=>none
noncomputable def gk:W->Option W
 | (.s,_)=>none
 | (m,.lst ts)=>if decide (ts.length < LIM)&&leaves ts then some (m,.lst ts.reverse) else none
 | _=>none
noncomputable def apU (ts:List T)(q:Nat)(t:T):Option T->Option W
 | some (.lst us)=>if decide (us.length < LIM)&&t.leaf then some (.d,.lst (ts.set q (.lst (us++[t])))) else none
 | _=>none
noncomputable def iy:Option W->Option W->Option W->Option W
 | some (.d,.lst ts),some (_,.int j),some (_,t)=>(ixN ts.length j).bind fun q=>apU ts q t ts[q]?
 | _,_,_=>none
noncomputable def Ex:Option W->Option W->Option W->Option W
 | some (.s,_),_,_=>none
 | some (m,.lst ts),some (_,.int j),some (_,t)=>if decide (0<=j)&&decide (j.toNat<=ts.length)&&decide (ts.length < 1000)&&leaves ts&&t.leaf then some (m,.lst (ts.take j.toNat++t::ts.drop j.toNat)) else none
 | _,_,_=>none
noncomputable def gB:W->W->Option (W×W)
 | (.s,_),_=>none
 | (m,.lst ts),(_,.int j)=>if decide (0<=j)&&decide (j < 1000)&&leaves ts then (ts[j.toNat]?).map fun t=>((.d,t),(m,.lst (ts.eraseIdx j.toNat))) else none
 | _,_=>none
noncomputable def ck:W->W->W->Option W
 | (.s,_),_,_=>none
 | (m,.lst ts),(_,.int j),(n,t)=>(ixN ts.length j).map fun k=>((m.kid.meet (lf n t)).up,.lst (ts.set k t))
 | _,_,_=>none
noncomputable def dA:Option W->Res Unit
 | some (_,.lst _)=>.ok ()
 | _=>.no
noncomputable def BD:W->Option (List W)
 | (m,.tup ts)=>some (ts.map fun t=>(m.kid,t))
 | _=>none
noncomputable def ret {α:Type}(η:Env)(o:Option α):Res (α×Env):=match o with
 | some a=>.ok (a,η)
 | none=>.no
noncomputable def onB {α:Type}:T->(Env->Res α)->(Env->Res α)->Env->Res α
 | .bl true,f,_,η=>f η
 | .bl false,_,g,η=>g η
 | _,_,_,_=>.no
noncomputable def onT {α:Type}(f g:Env->Res α)(p:W×Env):Res α:=match truth p.1.2 with
 | some true=>f p.2
 | some false=>g p.2
 | none=>.no
noncomputable def okW {α:Type}(a:α)(η:Env):Res (α×Env):=.ok (a,η)
noncomputable def kD (p:List W×Env):RE:=.ok (((fR p.1).up,.tup (aS p.1)),p.2)
noncomputable def rP (h:Bool)(p:List W×Env):RE:=.ok ((if h then (fR p.1).up else .o .s,.lst (aS p.1)),p.2)
noncomputable def kWk (m:Md)(p:W×Env):RE:=ret p.2 (if m.le p.1.1 then some (m,p.1.2) else none)
noncomputable def kOp (o:Op)(h:Bool)(p:List W×Env):RE:=ret p.2 (oSem o h p.1)
noncomputable def mL (f:Env->RE)(p:W×Env):RE:=onT f (okW p.1) p
noncomputable def kOr (f:Env->RE)(p:W×Env):RE:=onT (okW p.1) f p
noncomputable def ng (p:W×Env):RE:=ret p.2 ((truth p.1.2).map fun b=>(.d,.bl (!b)))
noncomputable def kC3 (q:Op)(y:W)(z:W×Env):RE:=ret z.2 (oSem q false [y,z.1])
noncomputable def then' {α β:Type}(f:Env->Res (α×Env))(k:α×Env->Res β)(η:Env):Res β:=(f η).bind k
noncomputable def kC2 (o q:Op)(fc:Env->RE)(x:W)(y:W×Env):RE:=(ret y.2 (oSem o false [x,y.1])).bind fun k=>onB k.1.2 (then' fc (kC3 q y.1)) (okW (.d,.bl false)) k.2
noncomputable def kC1 (o q:Op)(fb fc:Env->RE)(x:W×Env):RE:=(fb x.2).bind (kC2 o q fc x.1)
noncomputable def jd (is:List Nat)(η:Env)(r:W×List W):RE:=.ok (r.1,putAll is r.2 η)
noncomputable def fU (C:Call)(f:Nat)(is:List Nat)(p:List W×Env):RE:=(C f p.1).bind (jd is p.2)
noncomputable def cG (p:W×Env):Res (Option W×Env):=.ok (some p.1,p.2)
noncomputable def bJ (f:Env->RE)(η:Env):Res (Option W×Env):=(f η).bind cG
noncomputable def bZ (c f:Env->RE)(η:Env):Res (Option W×Env):=(c η).bind (onT (bJ f) (okW none))
noncomputable def aA (tg:List Nat)(f:Env->Res (Option W×Env)):List (List W)->Env->List W->Res (List W×Env)
 | [],η,acc=>.ok (acc,η)
 | ws::r,η,acc=>(ofO (aY tg ws η)).bind fun η1=>(f η1).bind fun p=>aA tg f r (af tg p.2) (acc++p.1.toList)
noncomputable def okD (w:W):Bool:=w.1==.d || w.2.leaf
noncomputable def fV (h:Bool)(q:List W×Env):RE:=ret q.2 (if h then (if q.1.all okD then some (.d,.lst (aS q.1)) else none) else some (.o .s,.lst (aS q.1)))
noncomputable def dY (h:Bool)(k:Ik)(tg:List Nat)(f:Env->Res (Option W×Env))(p:List W×Env):RE:=(ret (af tg p.2) (br k p.1)).bind fun t=>(aA tg f t.1 t.2 []).bind (fV h)
noncomputable def vwT:Option W->Option (List T)
 | some (.s,_)=>none
 | some (_,.lst ts)=>if leaves ts then some ts else none
 | _=>none
noncomputable def kV2 (i:Nat)(w:Option W)(p:W×Env):RE:=.ok (p.1,wr p.2 i w)
noncomputable def kV1 (h:Bool)(i t:Nat)(f:Env->Res (Option W×Env))(η:Env)(ts:List T):RE:=((aA [t] f (ts.map fun u=>[(.s,u)]) (af [t] (del η i)) []).bind (fV h)).bind (kV2 i (rd η i))
noncomputable def oF (f:Env->Res (List W×Env))(η:Env)(k:List W×Env->RE)(_:Unit):RE:=(f η).bind k
noncomputable def wZ (i:Nat)(p:List W×Env):RE:=(ofO ((rd p.2 i).bind fun w=>D5 w p.1)).bind fun r=>.ok (r.1,put p.2 i r.2)
noncomputable def CT:Option W->Option W->Option W
 | some (.o .s,.lst ts),some (_,.int j)=>(atI ts j).map fun t=>(.s,t)
 | some (.s,.lst ts),some (_,.int j)=>(atI ts j).map fun t=>(.s,t)
 | _,_=>none
noncomputable def fK (f:Env->RE)(η:Env)(k:W×Env->RE)(_:Unit):RE:=(f η).bind k
noncomputable def fN (i:Nat)(p:W×Env):RE:=(ofO ((rd p.2 i).bind fun w=>gB w p.1)).bind fun r=>.ok (r.1,put p.2 i r.2)
noncomputable def lH (w:W)(q:List W×Env):Res (List W×Env):=.ok (w::q.1,q.2)
noncomputable def aX (f:Env->Res (List W×Env))(p:W×Env):Res (List W×Env):=(f p.2).bind (lH p.1)
noncomputable def rh:List Nat->Md->T->Option (W×T)
 | [],m,t=>some ((m,t),.gone)
 | j::p,m,.lst ts=>(ts[j]?).bind fun t=>(rh p m.kid t).map fun r=>(r.1,.lst (ts.set j r.2))
 | j::p,m,.tup ts=>(ts[j]?).bind fun t=>(rh p m.kid t).map fun r=>(r.1,.tup (ts.set j r.2))
 | _::_,_,_=>none
noncomputable def xy (p:List Nat)(w:W):Option (W×W):=(rh p w.1 w.2).map fun r=>(r.1,(w.1,r.2))
noncomputable def Bo (i:Nat)(η:Env)(r:W×W):RE:=.ok (r.1,put η i r.2)
noncomputable def mO {α:Type}(tab:List (Str×α))(f:α->Env->RE)(p:W×Env):RE:=match p.1.2 with
 | .str x=>match tab.lookup x with
  | some a=>f a p.2
  | none=>.no
 | _=>.no
noncomputable def kCT (C:Call)(fa:Env->Res (List W×Env))(is:List Nat)(j:Nat)(η:Env):RE:=(fa η).bind (fU C j is)
noncomputable def kIn (neg:Bool)(ks:List Str)(p:W×Env):RE:=match p.1.2 with
 | .str x=>.ok ((.d,.bl (ks.contains x != neg)),p.2)
 | _=>.no
noncomputable def okS (t:T)(η:Env):RE:=.ok ((.s,t),η)
noncomputable def uL (tab:List (Str×T))(p:W×Env):RE:=match p.1.2 with
 | .str x=>.ok ((.s,(tab.lookup x).getD .non),p.2)
 | _=>.no
noncomputable def kX (vs:List Nat)(η:Env)(p:W×Env):RE:=.ok ((lf p.1.1 p.1.2,p.1.2),after (lf p.1.1 p.1.2) vs η)
noncomputable def kIo (i:Nat)(p:List W×Env):Res (List W×Env):=(ofO (rd p.2 i)).bind fun w=>.ok (w::p.1,del p.2 i)
section
variable (C:Call)
mutual
noncomputable def evE:E->Env->RE
 | .var i,η=>ret η ((rd η i).bind look)
 | .mv i,η=>ret (del η i) (rd η i)
 | .io i,η=>ret (del η i) (rd η i)
 | .cst t,η=>.ok ((.d,t),η)
 | .glb _ t,η=>.ok ((.s,t),η)
 | .tup es,η=>(evL es η).bind kD
 | .lst h es,η=>(evL es η).bind (rP h)
 | .wk m e,η=>(evE e η).bind (kWk m)
 | .op o h es,η=>(evL es η).bind (kOp o h)
 | .and a b,η=>(evE a η).bind (mL (evE b))
 | .or a b,η=>(evE a η).bind (kOr (evE b))
 | .not a,η=>(evE a η).bind ng
 | .ifx c a b,η=>(evE c η).bind (onT (evE a) (evE b))
 | .chain o q a b c,η=>(evE a η).bind (kC1 o q (evE b) (evE c))
 | .call f es,η=>(evA es η).bind (fU C f (ios es))
 | .comp h k src tg none elt,η=>(evL src η).bind (dY h k tg (bJ (evE elt)))
 | .comp h k src tg (some c) elt,η=>(evL src η).bind (dY h k tg (bZ (evE c) (evE elt)))
 | .pop i es,η=>(dA (rd η i)).bind (oF (evL es) η (wZ i))
 | .lenV i,η=>ret η ((rd η i).bind fun w=>oSem .len false [w])
 | .ixV i j,η=>ret η (CT (rd η i) (rd η j))
 | .compV h i t c e,η=>(ofO (vwT (rd η i))).bind (kV1 h i t (bZ (evE c) (evE e)) η)
 | .popN i e,η=>(dA (rd η i)).bind (fK (evE e) η (fN i))
 | .tupA es,η=>(evA es η).bind kD
 | .qx vs ls e,η=>(evE e (dh vs ls η)).bind (kX vs η)
 | .mvP i p,η=>(ofO ((rd η i).bind (xy p))).bind (Bo i η)
 | .callT tab k es,η=>(evE k η).bind (mO tab (kCT C (evA es) (ios es)))
 | .inT neg ks e,η=>(evE e η).bind (kIn neg ks)
 | .ixT tab e,η=>(evE e η).bind (mO tab okS)
 | .getT tab e,η=>(evE e η).bind (uL tab)
noncomputable def evL:List E->Env->Res (List W×Env)
 | [],η=>.ok ([],η)
 | e::es,η=>(evE e η).bind (aX (evL es))
noncomputable def evA:List E->Env->Res (List W×Env)
 | [],η=>.ok ([],η)
 | .io i::es,η=>(evA es η).bind (kIo i)
 | e::es,η=>(evE e η).bind (aX (evA es))
end
noncomputable def kT (η:Env)(p:W×Env):Res (Bool×Env):=ret η (truth p.1.2)
noncomputable def kT2 (p:W×Env):Res (Bool×Env):=ret p.2 (truth p.1.2)
noncomputable def evX:X->E->Env->RE
 | .q vs ls,e,η=>(evE C e (dh vs ls η)).bind (kX vs η)
 | .l vs,e,η=>evE C e (share vs η)
noncomputable def evT:X->E->Env->Res (Bool×Env)
 | .q vs ls,e,η=>(evE C e (dh vs ls η)).bind (kT η)
 | .l vs,e,η=>(evE C e (share vs η)).bind kT2
noncomputable def Fl.of {α:Type}(η:Env):Res α->(α->Fl)->Fl
 | .ok a,f=>f a
 | .ex c x,_=>.ex c x η
 | .no,_=>.no
noncomputable def Fl.seq:Fl->(Env->Fl)->Fl
 | .nx η,f=>f η
 | z,_=>z
noncomputable def Fl.turn:Fl->(Env->Fl)->Fl
 | .nx η,f=>f η
 | .bk η,_=>.nx η
 | z,_=>z
noncomputable def onF:Bool->(Env->Fl)->(Env->Fl)->Env->Fl
 | true,f,_,η=>f η
 | false,_,g,η=>g η
noncomputable def bR (tg:List Nat)(f:Env->Fl):List (List W)->Env->Fl
 | [],η=>.nx η
 | ws::r,η=>Fl.of η (ofO (aY tg ws η)) fun η1=>Fl.turn (f η1) (bR tg f r)
noncomputable def kIf (f g:Env->Fl)(p:Bool×Env):Fl:=onF p.1 f g p.2
noncomputable def rN (f:Env->Fl)(g:Env->Fl)(η:Env):Fl:=Fl.turn (f η) g
noncomputable def jR (c:Env->Res (Bool×Env))(f:Env->Fl):Nat->Env->Fl
 | 0,_=>.no
 | n+1,η=>Fl.of η (c η) (kIf (rN f (jR c f n)) .nx)
noncomputable def rJ:Nat:=1000000000000
noncomputable def nxO (η:Env):Option Env->Fl
 | some η=>.nx η
 | none=>.no
noncomputable def tX (i:Nat)(p:W×Env):Fl:=.nx (put p.2 i p.1)
noncomputable def xD (is:List Nat)(p:W×Env):Fl:=nxO p.2 ((BD p.1).bind fun ws=>aY is ws p.2)
noncomputable def qP (i:Nat)(p:W×Env):Fl:=nxO p.2 (((rd p.2 i).bind fun w=>gn w p.1).map fun w=>put p.2 i w)
noncomputable def zA (i:Nat)(p:W×Env):Fl:=nxO p.2 (((rd p.2 i).bind fun w=>AO w p.1).map fun w=>put p.2 i w)
noncomputable def oA (i:Nat)(x:W)(q:W×Env):Fl:=nxO q.2 (((rd q.2 i).bind fun w=>ck w q.1 x).map fun w=>put q.2 i w)
noncomputable def rn (i:Nat)(x:W)(q:W×Env):Fl:=nxO q.2 (((rd q.2 i).bind fun w=>CA w q.1 x).map fun w=>put q.2 i w)
noncomputable def sU (i:Nat)(f:Env->RE)(η:Env)(p:W×Env):Fl:=Fl.of η (f p.2) (rn i p.1)
noncomputable def kI (i:Nat)(x:W)(q:W×Env):Fl:=nxO q.2 (((rd q.2 i).bind fun w=>ed w q.1 x).map fun w=>put q.2 i w)
noncomputable def mf (i:Nat)(f:Env->RE)(η:Env)(p:W×Env):Fl:=Fl.of η (f p.2) (kI i p.1)
noncomputable def F8 (i:Nat)(p:W×Env):Fl:=nxO p.2 (((rd p.2 i).bind fun w=>Fw w p.1).map fun w=>put p.2 i w)
noncomputable def wQ (i:Nat)(f:Env->RE)(η:Env)(p:W×Env):Fl:=Fl.of η (f p.2) (oA i p.1)
noncomputable def lq (f:Env->RE)(η:Env)(k:W×Env->Fl)(_:Unit):Fl:=Fl.of η (f η) k
noncomputable def kNx (p:W×Env):Fl:=.nx p.2
noncomputable def kRt (p:W×Env):Fl:=.rt p.1 p.2
noncomputable def lO (tg:List Nat)(f:Env->Fl)(t:List (List W)×Env):Fl:=bR tg f t.1 t.2
noncomputable def uz (vs:List Nat)(k:Ik)(tg:List Nat)(f:Env->Fl)(η:Env)(p:List W×Env):Fl:=Fl.of η (ret (share vs η) (br k p.1)) (lO tg f)
noncomputable def Dt (k:Ik)(tg:List Nat)(f:Env->Fl)(p:List W×Env):Fl:=Fl.of p.2 (ret p.2 (br k p.1)) (lO tg f)
mutual
noncomputable def evS:S->Env->Fl
 | .asg x i e,η=>Fl.of η (evX C x e η) (tX i)
 | .asgT x is e,η=>Fl.of η (evX C x e η) (xD is)
 | .setI x i k e,η=>Fl.of η (evX C x e η) (wQ i (evX C x k) η)
 | .setK x i k e,η=>Fl.of η (evX C x e η) (sU i (evX C x k) η)
 | .setS x i k e,η=>Fl.of η (evX C x e η) (mf i (evX C x k) η)
 | .insF x i e,η=>Fl.of η (dA (rd η i)) (lq (evX C x e) η (F8 i))
 | .revS i,η=>nxO η (((rd η i).bind gk).map fun w=>put η i w)
 | .apN i k l,η=>nxO η ((iy (rd η i) (rd η k) (rd η l)).map fun w=>put η i w)
 | .insN i k l,η=>nxO η ((Ex (rd η i) (rd η k) (rd η l)).map fun w=>put η i w)
 | .exp x e,η=>Fl.of η (evX C x e η) kNx
 | .app x i e,η=>Fl.of η (dA (rd η i)) (lq (evX C x e) η (qP i))
 | .ext x i e,η=>Fl.of η (dA (rd η i)) (lq (evX C x e) η (zA i))
 | .ret vs e,η=>Fl.of η (evE C e (share vs η)) kRt
 | .retN,η=>.rt (.d,.non) η
 | .ite x c a b,η=>Fl.of η (evT C x c η) (kIf (evSs a) (evSs b))
 | .forS vs ls k src tg body,η=>Fl.of η (evL C src (dh vs ls η)) (uz vs k tg (evSs body) η)
 | .forU k src tg body,η=>Fl.of η (evL C src η) (Dt k tg (evSs body))
 | .whl x c body,η=>jR (evT C x c) (evSs body) rJ η
 | .brk,η=>.bk η
 | .pas,η=>.nx η
 | .stop,_=>.no
 | .tri body,η=>evSs body η
noncomputable def evSs:List S->Env->Fl
 | [],η=>.nx η
 | s::r,η=>Fl.seq (evS s η) (evSs r)
end
end
noncomputable def backs:List Nat->Env->Option (List W)
 | [],_=>some []
 | i::is,η=>(rd η i).bind fun w=>(backs is η).bind fun ws=>some (w::ws)
noncomputable def pH (w:W)(b:List W):Res (W×List W):=.ok (w,b)
noncomputable def Fl.out (io:List Nat):Fl->Res (W×List W)
 | .nx η=>(ofO (backs io η)).bind (pH (.d,.non))
 | .rt w η=>(ofO (backs io η)).bind (pH w)
 | .ex c x _=>.ex c x
 | _=>.no
noncomputable def runF (C:Call)(f:Fn)(ws:List W):Res (W×List W) :=
 if ws.length=f.ps then Fl.out f.io (evSs C f.body (ws.map some++a0i f.ns none)) else .no
noncomputable abbrev Fq:=List Fn
noncomputable def Aa (n:Nat):List W->Res (W×List W)
 | [(m,t)]=>if (lf m t==.d&&(decide (dp t<=n)&&decide (dp t<=64)))=true then .ok ((.d,.non),[]) else .no
 | _=>.no
noncomputable def xJ:List Nat->List T->List T
 | [],_=>[]
 | n::ns,ts=>.lst (ts.take n)::xJ ns (ts.drop n)
noncomputable def sA:List T->Option (List Nat)
 | []=>some []
 | .int (.ofNat n)::ts=>(sA ts).map (n::·)
 | _::_=>none
noncomputable def CY:List W->Res (W×List W)
 | [(_,.lst ls),(m,.lst ts)]=>(ofO (sA ls)).bind fun ns=>.ok ((m.kid.up.up,.lst (xJ ns ts)),[])
 | _=>.no
noncomputable def callR (P:Fq)(s r:Nat):Nat->Call
 | 0=>fun _ _=>.no
 | n+1=>fun f ws=>if f=s then Aa n ws else if f=r then CY ws else (ofO P[f]?).bind fun d=>runF (callR P s r n) d ws
noncomputable abbrev zf:Fn:={ ps:=0,ns:=0,io:=[],body:=[.stop] }
theorem zJ (C:Call)(i:Nat)(η:Env):evE C (.var i) η=ret η ((rd η i).bind look):=rfl
theorem zd (C:Call)(i:Nat)(η:Env):evE C (.mv i) η=ret (del η i) (rd η i):=rfl
theorem AE (C:Call)(i:Nat)(η:Env):evE C (.io i) η=ret (del η i) (rd η i):=rfl
theorem yx (C:Call)(t:T)(η:Env):evE C (.cst t) η=.ok ((.d,t),η):=rfl
theorem yd (C:Call)(es:List E)(η:Env):evE C (.tup es) η=(evL C es η).bind kD:=rfl
theorem ya (C:Call)(h:Bool)(es:List E)(η:Env):evE C (.lst h es) η=(evL C es η).bind (rP h):=rfl
theorem yh (C:Call)(o:Op)(h:Bool)(es:List E)(η:Env):evE C (.op o h es) η=(evL C es η).bind (kOp o h):=rfl
theorem vK (C:Call)(a:E)(b:E)(η:Env):evE C (.and a b) η=(evE C a η).bind (mL (evE C b)):=rfl
theorem wc (C:Call)(a:E)(b:E)(η:Env):evE C (.or a b) η=(evE C a η).bind (kOr (evE C b)):=rfl
theorem xf (C:Call)(a:E)(η:Env):evE C (.not a) η=(evE C a η).bind ng:=rfl
theorem uC (C:Call)(c:E)(a:E)(b:E)(η:Env):evE C (.ifx c a b) η=(evE C c η).bind (onT (evE C a) (evE C b)):=rfl
theorem xh (C:Call)(o:Op)(q:Op)(a:E)(b:E)(c:E)(η:Env):evE C (.chain o q a b c) η=(evE C a η).bind (kC1 o q (evE C b) (evE C c)):=rfl
theorem vC (C:Call)(f:Nat)(es:List E)(η:Env):evE C (.call f es) η=(evA C es η).bind (fU C f (ios es)):=rfl
theorem v5 (C:Call)(h:Bool)(k:Ik)(src:List E)(tg:List Nat)(elt:E)(η:Env):evE C (.comp h k src tg none elt) η=(evL C src η).bind (dY h k tg (bJ (evE C elt))):=rfl
theorem tZ (C:Call)(h:Bool)(k:Ik)(src:List E)(tg:List Nat)(c:E)(elt:E)(η:Env):evE C (.comp h k src tg (some c) elt) η=(evL C src η).bind (dY h k tg (bZ (evE C c) (evE C elt))):=rfl
theorem uD (C:Call)(i:Nat)(es:List E)(η:Env):evE C (.pop i es) η=(dA (rd η i)).bind (oF (evL C es) η (wZ i)):=rfl
theorem oo (C:Call)(vs ls:List Nat)(e:E)(η:Env):evE C (.qx vs ls e) η=(evE C e (dh vs ls η)).bind (kX vs η):=rfl
theorem pY (C:Call)(vs ls:List Nat)(e:E)(es:List E)(η:Env):evA C (.qx vs ls e::es) η=(evE C (.qx vs ls e) η).bind (aX (evA C es)):=rfl
theorem yG (h:Bool)(m n:Md)(ts:List T)(i:Int):oSem .sl2 h [(m,.lst ts),(n,.int i)]=newL h m.kid (cut ts none (some i)):=rfl
theorem pD (h:Bool)(m n:Md)(ts:List T)(i:Int):oSem .sl1 h [(m,.lst ts),(n,.int i)]=newL h m.kid (cut ts (some i) none):=rfl
theorem AY (h:Bool)(m n:Md)(ts:List T)(k:Int):oSem .mul h [(m,.lst ts),(n,.int k)]=if decide (k.natAbs < 4611686018427387904)&&fits (ts.length * k.toNat) then newL h .s (a0i k.toNat ts).flatten else none:=rfl
theorem BU (h:Bool)(m n:Md)(i j:Int):oSem .max h [(m,.int i),(n,.int j)]=some (.d,.int (if j > i then j else i)):=rfl
theorem C2 (h:Bool)(m n:Md)(i j:Int):oSem .rng h [(m,.int i),(n,.int j)]=if decide (i.natAbs < 4611686018427387904)&&decide (j.natAbs < 4611686018427387904)&&fits (j-i).toNat then some (.d,.lst ((a0k (j-i).toNat).map fun (k:Nat)=>T.int (i+k))) else none:=rfl
theorem Bt (m:Md)(ts:List T):br .enm [(m,.lst ts)]=some (cV .s 0 ts):=rfl
theorem wg (m n:Md)(ts us:List T):br .zip [(m,.lst ts),(n,.lst us)]=some (eI .s .s ts us):=rfl
theorem tL (m n:Md)(ts us:List T):br .zip [(m,.tup ts),(n,.tup us)]=some (eI .s .s ts us):=rfl
noncomputable def lkM:Md->Md
 | .s=>.s | _=>.d
theorem EI:lkM .s=.s:=rfl
theorem E7:lkM .d=.d:=rfl
theorem Fc (m:Md):lkM (.o m)=.d:=rfl
theorem By (m:Md)(i:Int):look (m,.int i)=some (lkM m,.int i):=by cases m<;>rfl
theorem Dc (m:Md)(b:Bool):look (m,.bl b)=some (lkM m,.bl b):=by cases m<;>rfl
theorem DY (m:Md)(x:Str):look (m,.str x)=some (lkM m,.str x):=by cases m<;>rfl
theorem DM (m:Md):look (m,.non)=some (lkM m,.non):=by cases m<;>rfl
theorem Az (m n k:Md)(ts us vs:List T):br .zip3 [(m,.lst ts),(n,.lst us),(k,.lst vs)]=some (qw ts us vs):=rfl
theorem kO (C:Call)(i:Nat)(η:Env):evE C (.lenV i) η=ret η ((rd η i).bind fun w=>oSem .len false [w]):=rfl
theorem kC (C:Call)(i:Nat)(es:List E)(η:Env):evA C (.lenV i::es) η=(evE C (.lenV i) η).bind (aX (evA C es)):=rfl
theorem As (C:Call)(η:Env):evA C [] η=.ok ([],η):=rfl
theorem x3 (C:Call)(i:Nat)(es:List E)(η:Env):evA C (.io i::es) η=(evA C es η).bind (kIo i):=rfl
theorem nh (C:Call)(i:Nat)(es:List E)(η:Env):evA C (.var i::es) η=(evE C (.var i) η).bind (aX (evA C es)):=rfl
theorem oM (C:Call)(i:Nat)(es:List E)(η:Env):evA C (.mv i::es) η=(evE C (.mv i) η).bind (aX (evA C es)):=rfl
theorem mQ (C:Call)(t:T)(es:List E)(η:Env):evA C (.cst t::es) η=(evE C (.cst t) η).bind (aX (evA C es)):=rfl
theorem nW (C:Call)(l:List E)(es:List E)(η:Env):evA C (.tup l::es) η=(evE C (.tup l) η).bind (aX (evA C es)):=rfl
theorem m7 (C:Call)(h:Bool)(l:List E)(es:List E)(η:Env):evA C (.lst h l::es) η=(evE C (.lst h l) η).bind (aX (evA C es)):=rfl
theorem pF (C:Call)(o:Op)(h:Bool)(l:List E)(es:List E)(η:Env):evA C (.op o h l::es) η=(evE C (.op o h l) η).bind (aX (evA C es)):=rfl
theorem oi (C:Call)(a b:E)(es:List E)(η:Env):evA C (.and a b::es) η=(evE C (.and a b) η).bind (aX (evA C es)):=rfl
theorem qC (C:Call)(a b:E)(es:List E)(η:Env):evA C (.or a b::es) η=(evE C (.or a b) η).bind (aX (evA C es)):=rfl
theorem mW (C:Call)(a:E)(es:List E)(η:Env):evA C (.not a::es) η=(evE C (.not a) η).bind (aX (evA C es)):=rfl
theorem nX (C:Call)(c a b:E)(es:List E)(η:Env):evA C (.ifx c a b::es) η=(evE C (.ifx c a b) η).bind (aX (evA C es)):=rfl
theorem j1 (C:Call)(o p:Op)(a b c:E)(es:List E)(η:Env):evA C (.chain o p a b c::es) η=(evE C (.chain o p a b c) η).bind (aX (evA C es)):=rfl
theorem kP (C:Call)(f:Nat)(l:List E)(es:List E)(η:Env):evA C (.call f l::es) η=(evE C (.call f l) η).bind (aX (evA C es)):=rfl
theorem ke (C:Call)(h:Bool)(k:Ik)(src:List E)(tg:List Nat)(cnd:Option E)(elt:E)(es:List E)(η:Env):evA C (.comp h k src tg cnd elt::es) η=(evE C (.comp h k src tg cnd elt) η).bind (aX (evA C es)):=rfl
theorem Bh {C:Call}{e:E}{es:List E}{η:Env}(he:∀ i,e≠.io i):evA C (e::es) η=(evE C e η).bind (aX (evA C es)):=by
 cases e with
 | io i=>exact absurd rfl (he i)
 | _=>rfl
theorem wy (C:Call)(η:Env):evL C ([]) η=.ok ([],η):=rfl
theorem xi (C:Call)(e:E)(es:List E)(η:Env):evL C (e::es) η=(evE C e η).bind (aX (evL C es)):=rfl
theorem wH (C:Call)(x:X)(i:Nat)(e:E)(η:Env):evS C (.asg x i e) η=Fl.of η (evX C x e η) (tX i):=rfl
theorem uf (C:Call)(x:X)(is:List Nat)(e:E)(η:Env):evS C (.asgT x is e) η=Fl.of η (evX C x e η) (xD is):=rfl
theorem k8 (C:Call)(x:X)(i:Nat)(k:E)(e:E)(η:Env):evS C (.setK x i k e) η=Fl.of η (evX C x e η) (sU i (evX C x k) η):=rfl
theorem wD (C:Call)(x:X)(i:Nat)(k:E)(e:E)(η:Env):evS C (.setI x i k e) η=Fl.of η (evX C x e η) (wQ i (evX C x k) η):=rfl
theorem uZ (C:Call)(x:X)(e:E)(η:Env):evS C (.exp x e) η=Fl.of η (evX C x e η) kNx:=rfl
theorem xg (C:Call)(x:X)(i:Nat)(e:E)(η:Env):evS C (.app x i e) η=Fl.of η (dA (rd η i)) (lq (evX C x e) η (qP i)):=rfl
theorem vE (C:Call)(x:X)(i:Nat)(e:E)(η:Env):evS C (.ext x i e) η=Fl.of η (dA (rd η i)) (lq (evX C x e) η (zA i)):=rfl
theorem uR (C:Call)(vs:List Nat)(e:E)(η:Env):evS C (.ret vs e) η=Fl.of η (evE C e (share vs η)) kRt:=rfl
theorem ud (C:Call)(η:Env):evS C (.retN) η=.rt (.d,.non) η:=rfl
theorem w6 (C:Call)(x:X)(c:E)(a:List S)(b:List S)(η:Env):evS C (.ite x c a b) η=Fl.of η (evT C x c η) (kIf (evSs C a) (evSs C b)):=rfl
theorem uj (C:Call)(vs:List Nat)(ls:List Nat)(k:Ik)(src:List E)(tg:List Nat)(body:List S)(η:Env):evS C (.forS vs ls k src tg body) η=Fl.of η (evL C src (dh vs ls η)) (uz vs k tg (evSs C body) η):=rfl
theorem uo (C:Call)(x:X)(c:E)(body:List S)(η:Env):evS C (.whl x c body) η=jR (evT C x c) (evSs C body) rJ η:=rfl
theorem uU (C:Call)(η:Env):evS C (.brk) η=.bk η:=rfl
theorem ve (C:Call)(η:Env):evS C (.pas) η=.nx η:=rfl
theorem om (C:Call)(η:Env):evSs C ([]) η=.nx η:=rfl
theorem pd (C:Call)(s:S)(r:List S)(η:Env):evSs C (s::r) η=Fl.seq (evS C s η) (evSs C r):=rfl
theorem t9 (C:Call)(vs:List Nat)(ls:List Nat)(e:E)(η:Env):evX C (.q vs ls) e η=(evE C e (dh vs ls η)).bind (kX vs η):=rfl
theorem wz (C:Call)(vs:List Nat)(e:E)(η:Env):evX C (.l vs) e η=evE C e (share vs η):=rfl
theorem vY (C:Call)(vs:List Nat)(ls:List Nat)(e:E)(η:Env):evT C (.q vs ls) e η=(evE C e (dh vs ls η)).bind (kT η):=rfl
theorem wV (C:Call)(vs:List Nat)(e:E)(η:Env):evT C (.l vs) e η=(evE C e (share vs η)).bind kT2:=rfl
theorem Bb {α β:Type}(a:α)(f:α->Res β):(Res.ok a).bind f=f a:=rfl
theorem FQ {α:Type}(η:Env)(a:α)(f:α->Fl):Fl.of η (.ok a) f=f a:=rfl
theorem yS (η:Env)(f:Env->Fl):Fl.seq (.nx η) f=f η:=rfl
theorem Bj (w:W)(η:Env)(f:Env->Fl):Fl.seq (.rt w η) f=.rt w η:=rfl
theorem xW (η:Env)(f:Env->Fl):Fl.seq (.bk η) f=.bk η:=rfl
theorem uy (η:Env)(f:Env->Fl):Fl.turn (.nx η) f=f η:=rfl
theorem uw (w:W)(η:Env)(f:Env->Fl):Fl.turn (.rt w η) f=.rt w η:=rfl
theorem v8 (η:Env)(f:Env->Fl):Fl.turn (.bk η) f=.nx η:=rfl
theorem x5 {α:Type}(f g:Env->Res α)(η:Env):onB (.bl true) f g η=f η:=rfl
theorem zU {α:Type}(f g:Env->Res α)(η:Env):onB (.bl false) f g η=g η:=rfl
theorem AQ {α:Type}(f g:Env->Res α)(m:Md)(b:Bool)(η:Env):onT f g ((m,.bl b),η)=onB (.bl b) f g η:=by cases b<;>rfl
theorem AJ {α:Type}(f g:Env->Res α)(m:Md)(η:Env):onT f g ((m,.bl true),η)=f η:=rfl
theorem zy {α:Type}(f g:Env->Res α)(m:Md)(η:Env):onT f g ((m,.bl false),η)=g η:=rfl
theorem zc (f g:Env->Fl)(η:Env):onF true f g η=f η:=rfl
theorem yZ (f g:Env->Fl)(η:Env):onF false f g η=g η:=rfl
theorem CQ {α:Type}(a:α):ofO (some a)=.ok a:=rfl
theorem DI {α:Type}(η:Env)(a:α):ret η (some a)=.ok (a,η):=rfl
theorem BO (o:Option W)(η:Env):rd (o::η) 0=o:=rfl
theorem Bx (o:Option W)(η:Env)(i:Nat):rd (o::η) (i+1)=rd η i:=rfl
theorem Cq (o w:Option W)(η:Env):wr (o::η) 0 w=w::η:=rfl
theorem DC (o w:Option W)(η:Env)(i:Nat):wr (o::η) (i+1) w=o::wr η i w:=rfl
theorem uc (t:T):look (.s,t)=some (.s,t):=rfl
theorem uJ (m:Md)(i:Int):(look (.d,.int i))=some (.d,.int i):=rfl
theorem uB (m:Md)(b:Bool):(look (.d,.bl b))=some (.d,.bl b):=rfl
theorem vd (x:Str):(look (.d,.str x))=some (.d,.str x):=rfl
theorem uh:(look (.d,.non))=some (.d,.non):=rfl
theorem Ek (m:Md)(t:T):toS (some (m,t))=some (.s,t):=rfl
theorem AI:toS none=none:=rfl
theorem rf (η:Env):share [] η=η:=rfl
theorem qM (i:Nat)(is:List Nat)(η:Env):share (i::is) η=share is (wr η i (toS (rd η i))):=rfl
theorem sE:eY []=[]:=rfl
theorem qD (o:Option W)(η:Env):eY (o::η)=none::eY η:=rfl
theorem Am (vs ls:List Nat)(η:Env):dh vs ls η=fS ls η (kH vs η (eY η)):=rfl
theorem vU (η0 η:Env):kH [] η0 η=η:=rfl
theorem vJ (i:Nat)(is:List Nat)(η0 η:Env):kH (i::is) η0 η=kH is η0 (wr η i (toS (rd η0 i))):=rfl
theorem sF (η0 η:Env):fS [] η0 η=η:=rfl
theorem sd (i:Nat)(is:List Nat)(η0 η:Env):fS (i::is) η0 η=fS is η0 (wr η i (lfO (rd η0 i))):=rfl
theorem CM (m:Md)(i:Int):lfO (some (m,.int i))=some (.d,.int i):=rfl
theorem Ej (m:Md)(b:Bool):lfO (some (m,.bl b))=some (.d,.bl b):=rfl
theorem DH (m:Md)(x:Str):lfO (some (m,.str x))=some (.d,.str x):=rfl
theorem BP (m:Md):lfO (some (m,.non))=some (.d,.non):=rfl
theorem pL (vs:List Nat)(η:Env):after .d vs η=η:=rfl
theorem oU (vs:List Nat)(η:Env):after .s vs η=share vs η:=rfl
theorem sR (m:Md)(vs:List Nat)(η:Env):after (.o m) vs η=share vs η:=rfl
theorem zg (m:Md)(i:Int):lf m (.int i)=.d:=rfl
theorem yk (m:Md)(b:Bool):lf m (.bl b)=.d:=rfl
theorem zI (m:Md)(x:Str):lf m (.str x)=.d:=rfl
theorem zj (m:Md):lf m .non=.d:=rfl
theorem yJ (m:Md)(ts:List T):lf m (.lst ts)=m:=rfl
theorem x9 (m:Md)(ts:List T):lf m (.tup ts)=m:=rfl
theorem Ao (t:T):lf .d t=.d:=by unfold lf; split<;>rfl
theorem Aq (m:Md):Md.s.le m=true:=by cases m<;>rfl
theorem uX:Md.d.le .d=true:=rfl
theorem w8 (m:Md):(Md.o m).le .d=true:=rfl
theorem uk (m n:Md):(Md.o m).le (.o n)=m.le n:=rfl
theorem yT (h:Bool)(m n:Md)(i j:Int):oSem .add h [(m,.int i),(n,.int j)]=some (.d,.int (i+j)):=rfl
theorem qE (h:Bool)(m n:Md)(ts us:List T):oSem .add h [(m,.lst ts),(n,.lst us)]=if fits (ts.length+us.length) then newL h (m.kid.meet n.kid) (ts++us) else none:=rfl
theorem qe (h:Bool)(m n:Md)(x y:Str):oSem .add h [(m,.str x),(n,.str y)]=if fits (x.cps.size+y.cps.size) then some (.d,.str (x++y)) else none:=rfl
theorem sL (h:Bool)(m n:Md)(ts us:List T):oSem .add h [(m,.tup ts),(n,.tup us)]=if fits (ts.length+us.length)&&!ts.isEmpty then some (.s,.tup (ts++us)) else none:=rfl
theorem Ew (h:Bool)(m n:Md)(i j:Int):oSem .sub h [(m,.int i),(n,.int j)]=some (.d,.int (i-j)):=rfl
theorem sC (h:Bool)(m n:Md)(i j:Int):oSem .mul h [(m,.int i),(n,.int j)]=if (decide (i.natAbs < 18446744073709551616)) || (decide (j.natAbs < 18446744073709551616)) then some (.d,.int (i * j)) else none:=rfl
theorem qY (h:Bool)(m n:Md)(i j:Int):oSem .fdiv h [(m,.int i),(n,.int j)]=if decide (0 < j)&&decide (j < 1073741824) then some (.d,.int (i / j)) else none:=rfl
theorem xK (h:Bool)(m n:Md)(i j:Int):oSem .mod h [(m,.int i),(n,.int j)]=if decide (0 < j) then some (.d,.int (i % j)) else none:=rfl
theorem BE (h:Bool)(m n:Md)(i j:Int):oSem .pow h [(m,.int i),(n,.int j)]=if decide (0<=j)&&decide (j<=1000000)&&decide (i.natAbs < 18446744073709551616) then some (.d,.int (i ^ j.toNat)) else none:=rfl
theorem DX (h:Bool)(m:Md)(i:Int):oSem .neg h [(m,.int i)]=some (.d,.int (-i)):=rfl
theorem zT (h:Bool)(m n:Md)(i j:Int):oSem .eq h [(m,.int i),(n,.int j)]=some (.d,.bl (i==j)):=rfl
theorem zH (h:Bool)(m n:Md)(x y:Str):oSem .eq h [(m,.str x),(n,.str y)]=some (.d,.bl (x==y)):=rfl
theorem yu (h:Bool)(m n:Md)(a b:Bool):oSem .eq h [(m,.bl a),(n,.bl b)]=some (.d,.bl (a==b)):=rfl
theorem zl (h:Bool)(m n:Md)(i j:Int):oSem .ne h [(m,.int i),(n,.int j)]=some (.d,.bl (!(i==j))):=rfl
theorem y8 (h:Bool)(m n:Md)(x y:Str):oSem .ne h [(m,.str x),(n,.str y)]=some (.d,.bl (!(x==y))):=rfl
theorem zG (h:Bool)(m n:Md)(a b:Bool):oSem .ne h [(m,.bl a),(n,.bl b)]=some (.d,.bl (!(a==b))):=rfl
theorem EF (h:Bool)(m n:Md)(i j:Int):oSem .lt h [(m,.int i),(n,.int j)]=some (.d,.bl (decide (i < j))):=rfl
theorem E8 (h:Bool)(m n:Md)(i j:Int):oSem .le h [(m,.int i),(n,.int j)]=some (.d,.bl (decide (i<=j))):=rfl
theorem Fh (h:Bool)(m n:Md)(i j:Int):oSem .gt h [(m,.int i),(n,.int j)]=some (.d,.bl (decide (j < i))):=rfl
theorem FP (h:Bool)(m n:Md)(i j:Int):oSem .ge h [(m,.int i),(n,.int j)]=some (.d,.bl (decide (j<=i))):=rfl
theorem Cc (h:Bool)(m n:Md)(ts:List T)(i:Int):oSem .ix h [(m,.lst ts),(n,.int i)]=(atI ts i).map fun t=>(m.kid,t):=rfl
theorem DS (h:Bool)(m n:Md)(ts:List T)(i:Int):oSem .ix h [(m,.tup ts),(n,.int i)]=(atI ts i).map fun t=>(m.kid,t):=rfl
theorem Bg (h:Bool)(m:Md)(ts:List T):oSem .len h [(m,.lst ts)]=some (.d,.int ts.length):=rfl
theorem AW (h:Bool)(m:Md)(ts:List T):oSem .len h [(m,.tup ts)]=some (.d,.int ts.length):=rfl
theorem zR (h:Bool)(m:Md)(ns:List Int):oSem .len h [(m,.scr ns)]=some (.d,.int ns.length):=rfl
theorem BJ (h:Bool)(m n:Md)(ns:List Int)(i:Int):oSem .ix h [(m,.scr ns),(n,.int i)]=(atI ns i).map fun n=>(.d,.int n):=rfl
theorem DQ (h:Bool)(m n:Md)(ns:List Int)(i:Int):oSem .sl2 h [(m,.scr ns),(n,.int i)]=some (.d,.lst ((cut ns none (some i)).map T.int)):=rfl
theorem yM (m:Md)(ns:List Int):lf m (.scr ns)=.d:=rfl
theorem BH (m:Md)(ns:List Int):lfO (some (m,.scr ns))=some (.d,.scr ns):=rfl
theorem tK (ns:List Int):look (.d,.scr ns)=some (.d,.scr ns):=rfl
theorem Ax (h:Bool)(m:Md)(x:Str):oSem .len h [(m,.str x)]=some (.d,.int x.cps.size):=rfl
theorem Cz (cs:List String)(h:Bool)(m:Md)(a:T):oSem (.isI cs) h [(m,a)]=if a.isG then none else some (.d,.bl (cs.any fun c=>isOne c a)):=rfl
theorem D6:T.isG .non=false:=rfl
theorem FG (b:Bool):T.isG (.bl b)=false:=rfl
theorem Bn (i:Int):T.isG (.int i)=false:=rfl
theorem Dm (x:Str):T.isG (.str x)=false:=rfl
theorem D7 (ts:List T):T.isG (.tup ts)=false:=rfl
theorem DB (ts:List T):T.isG (.lst ts)=false:=rfl
theorem D3 (ns:List Int):T.isG (.scr ns)=false:=rfl
theorem Dr:T.isN .non=true:=rfl
theorem Ff (b:Bool):T.isN (.bl b)=false:=rfl
theorem B9 (i:Int):T.isN (.int i)=false:=rfl
theorem Ds (x:Str):T.isN (.str x)=false:=rfl
theorem DR (ts:List T):T.isN (.tup ts)=false:=rfl
theorem CU (ts:List T):T.isN (.lst ts)=false:=rfl
theorem wM (h:Bool)(m:Md)(ts:List T):oSem .list h [(m,.lst ts)]=newL h m.kid ts:=rfl
theorem uY (h:Bool)(m:Md)(ts:List T):oSem .list h [(m,.tup ts)]=newL h m.kid ts:=rfl
theorem y9 (h:Bool)(m n:Md)(a:T)(ts:List T):oSem .isin h [(m,a),(n,.tup ts)]=if flatT a&&ts.all flatT then some (.d,.bl (ts.any fun t=>eqT t a)) else none:=rfl
theorem tq (h:Bool)(m n:Md)(a:T)(ts:List T):oSem .isin h [(m,a),(n,.lst ts)]=if flatT a&&ts.all flatT then some (.d,.bl (ts.any fun t=>eqT t a)) else none:=rfl
theorem wJ (h:Bool)(m n:Md)(a:T)(ts:List T):oSem .notin h [(m,a),(n,.tup ts)]=if flatT a&&ts.all flatT then some (.d,.bl (!ts.any fun t=>eqT t a)) else none:=rfl
theorem sZ (h:Bool)(m:Md)(x:Str):oSem .lower h [(m,.str x)]=if x.cps.toList.all (fun c=>decide (c < 128)) then some (.d,.str ⟨x.cps.map C1⟩) else none:=rfl
theorem Er (h:Bool)(m n:Md)(x y:Str):oSem .inS h [(m,.str x),(n,.str y)]=some (.d,.bl (!(a06 y x 0 y.length 1).isEmpty)):=rfl
theorem zx (h:Bool)(m n:Md)(x y:Str):oSem .ninS h [(m,.str x),(n,.str y)]=some (.d,.bl (!(!(a06 y x 0 y.length 1).isEmpty))):=rfl
theorem D2 (h:Bool)(m n:Md)(a:T)(ts:List T):oSem .inX h [(m,a),(n,.tup ts)]=if ts.all ml&&lR a then some (.d,.bl (ts.any fun t=>eqT t a)) else none:=rfl
theorem Bd (h:Bool)(m n:Md)(a:T)(ts:List T):oSem .ninX h [(m,a),(n,.tup ts)]=if ts.all ml&&lR a then some (.d,.bl (!ts.any fun t=>eqT t a)) else none:=rfl
theorem Eb (h:Bool)(m n:Md)(x y:Str):oSem .leS h [(m,.str x),(n,.str y)]=some (.d,.bl (!decide (y.cps.toList < x.cps.toList))):=rfl
theorem Av (h:Bool)(m n:Md)(ts us:List T):oSem .catT h [(m,.tup ts),(n,.tup us)]=if fits (ts.length+us.length) then some (.s,.tup (ts++us)) else none:=rfl
theorem r8 (h:Bool)(m:Md)(ts:List T):oSem .lenSet h [(m,.tup ts)]=(cU ts).bind fun ss=>if decide (ss.length < 1000) then some (.d,.int (xO ss).length) else none:=rfl
theorem rL (h:Bool)(m n:Md)(ts:List T)(x:Str):oSem .countS h [(m,.lst ts),(n,.str x)]=(cU ts).bind fun ss=>some (.d,.int (ss.count x)):=rfl
theorem Bm (h:Bool)(m:Md)(t:T):oSem .repr h [(m,t)]=if decide (dp t<=64)&&rOk t&&fits (szR t) then some (.d,.str (datT t).shown) else none:=rfl
theorem Cy (h:Bool)(n:Md)(ks:List (Int ⊕ Str))(vs:List T)(k:T):oSem .ixD h [(.s,.dct ks vs),(n,k)]=(keyT k).bind fun q=>(lookD q ks vs).map fun t=>(.s,t):=rfl
theorem jB (C:Call)(h:Bool)(i t:Nat)(c e:E)(η:Env):evE C (.compV h i t c e) η=(ofO (vwT (rd η i))).bind (kV1 h i t (bZ (evE C c) (evE C e)) η):=rfl
theorem ka (C:Call)(h:Bool)(i t:Nat)(c e:E)(es:List E)(η:Env):evA C (.compV h i t c e::es) η=(evE C (.compV h i t c e) η).bind (aX (evA C es)):=rfl
theorem kQ (C:Call)(i:Nat)(e:E)(η:Env):evE C (.popN i e) η=(dA (rd η i)).bind (fK (evE C e) η (fN i)):=rfl
theorem kd (C:Call)(i:Nat)(e:E)(es:List E)(η:Env):evA C (.popN i e::es) η=(evE C (.popN i e) η).bind (aX (evA C es)):=rfl
theorem kN (C:Call)(x:X)(i:Nat)(k e:E)(η:Env):evS C (.setS x i k e) η=Fl.of η (evX C x e η) (mf i (evX C x k) η):=rfl
theorem ni (C:Call)(i k l:Nat)(η:Env):evS C (.apN i k l) η=nxO η ((iy (rd η i) (rd η k) (rd η l)).map fun w=>put η i w):=rfl
theorem qa (m n:Md)(ts:List T)(j:Int)(t:T):iy (some (.d,.lst ts)) (some (m,.int j)) (some (n,t))=(ixN ts.length j).bind fun q=>apU ts q t ts[q]?:=rfl
theorem kj (C:Call)(i:Nat)(η:Env):evS C (.revS i) η=nxO η (((rd η i).bind gk).map fun w=>put η i w):=rfl
theorem yP (h:Bool):oSem .dnew h []=some (.d,.dct [] []):=rfl
theorem mY (h:Bool)(m:Md)(ts:List T):oSem .sortedS h [(m,.lst ts)]=(cU ts).bind fun ss=>if decide (ss.length < 64) then some (.d,.lst ((jo ss).map T.str)) else none:=rfl
theorem nN (h:Bool)(m:Md)(ks:List (Int ⊕ Str))(vs:List T):oSem .sortedD h [(m,.dct ks vs)]=(ot ks).bind fun ss=>if decide (ss.length < 64) then some (.d,.lst ((jo ss).map T.str)) else none:=rfl
theorem Ar (m:Md)(ts:List T):br .enmT [(m,.tup ts)]=some (cV .s 0 ts):=rfl
theorem CO (m:Md)(x:Str):br .chr [(m,.str x)]=some (x.cps.toList.map fun c=>[(.d,.str ⟨#[c]⟩)]):=rfl
theorem q9 (h:Bool)(m n:Md)(a:T)(ts:List T):oSem .notin h [(m,a),(n,.lst ts)]=if flatT a&&ts.all flatT then some (.d,.bl (!ts.any fun t=>eqT t a)) else none:=rfl
theorem zo (h:Bool)(m:Md)(b:Bool):oSem .int h [(m,.bl b)]=some (.d,.int (b2i b)):=rfl
theorem yr (h:Bool)(m:Md)(i:Int):oSem .int h [(m,.int i)]=some (.d,.int i):=rfl
theorem x6 (h:Bool)(m:Md)(ts:List T):oSem .maxZ h [(m,.lst ts)]=(intsOf ts).bind fun ns=>some (.d,.int (if ns.isEmpty then 0 else maxI ns)):=rfl
theorem yc (h:Bool)(m:Md)(ts:List T):oSem .max1 h [(m,.lst ts)]=(intsOf ts).bind fun ns=>if ns.isEmpty then none else some (.d,.int (maxI ns)):=rfl
theorem qb (h:Bool)(m:Md)(ts:List T):oSem .sorted h [(m,.lst ts)]=(intsOf ts).bind fun ns=>if decide (ns.length < 64) then some (.d,.lst ((sortI ns).map T.int)) else none:=rfl
theorem vW (h:Bool)(m n:Md)(i j:Int):oSem .fdivN h [(m,.int i),(n,.int j)]=if (j != 0)&&decide (j.natAbs < 18446744073709551616) then some (.d,.int (i.fdiv j)) else none:=rfl
theorem yw (h:Bool)(m n:Md)(i j:Int):oSem .modN h [(m,.int i),(n,.int j)]=if j != 0 then some (.d,.int (i.fmod j)) else none:=rfl
theorem iQ (h:Bool)(m:Md)(ts:List T):oSem .tuple h [(m,.lst ts)]=some (m.kid.up,.tup ts):=rfl
theorem C7 (h:Bool)(m:Md)(ts:List T):oSem .sum h [(m,.lst ts)]=(intsOf ts).map fun ns=>(.d,.int ns.sum):=rfl
theorem Ez (h:Bool)(m:Md)(ts:List T):oSem .all h [(m,.lst ts)]=(aZ ts).map fun bs=>(.d,.bl (bs.all id)):=rfl
theorem yj (m:Md)(ts:List T):newL true m ts=if leaves ts then some (.d,.lst ts) else none:=rfl
theorem Bc (m:Md)(ts:List T):newL false m ts=some (m.up,.lst ts):=rfl
theorem Be (m:Md)(ts:List T):br .seq [(m,.lst ts)]=some (ts.map fun t=>[(.s,t)]):=rfl
theorem A7 (m:Md)(ts:List T):br .seq [(m,.tup ts)]=some (ts.map fun t=>[(.s,t)]):=rfl
theorem zV (m n o:Md)(i j c:Int):br .rng [(m,.int i),(n,.int j),(o,.int c)]=if decide (i.natAbs < 4611686018427387904)&&decide (j.natAbs < 4611686018427387904)&&decide (c=-1)&&fits (i-j).toNat then some ((a0k (i-j).toNat).map fun (k:Nat)=>[(.d,.int (i-k))]) else none:=rfl
theorem oq (m:Md)(n:Int):br .rng [(m,.int n)]=if decide (n.natAbs < 4611686018427387904)&&fits n.toNat then some ((a0k n.toNat).map fun (k:Nat)=>[(.d,.int k)]) else none:=rfl
theorem pO (η:Env):aY [] [] η=some η:=rfl
theorem qq (i:Nat)(is:List Nat)(w:W)(ws:List W)(η:Env):aY (i::is) (w::ws) η=aY is ws (put η i w):=rfl
theorem D8 {α β:Type}(f:α->β)(a:α):(some a).map f=some (f a):=rfl
theorem pA (b:Bool):truth (.bl b)=some b:=rfl
theorem sv (i:Int):truth (.int i)=some (i != 0):=rfl
theorem tR {α β:Type}(a:α)(f:α->Option β):(some a).bind f=f a:=rfl
theorem u9:Md.s.kid=.s:=rfl
theorem uK:Md.d.kid=.d:=rfl
theorem tY (m:Md):(Md.o m).kid=m:=rfl
theorem zr:Md.s.up=.o .s:=rfl
theorem zh:Md.d.up=.d:=rfl
theorem yQ (m:Md):(Md.o m).up=.o (.o m):=rfl
theorem p7 (m:Md):Md.s.meet m=.s:=by cases m<;>rfl
theorem dR (m:Md):Md.d.meet m=m:=by cases m<;>rfl
theorem mU (m:Md):(Md.o m).meet .s=.s:=rfl
theorem nH (m:Md):(Md.o m).meet .d=.o m:=rfl
theorem mX (m n:Md):(Md.o m).meet (.o n)=.o (m.meet n):=rfl
theorem yB (n:Md)(ts:List T)(t:T):gn (.d,.lst ts) (n,t)=if ts.length < LIM then some ((lf n t).up,.lst (ts++[t])) else none:=by show (if _ then some ((Md.d.meet _).up,_) else none)=_; rw [dR]
theorem yb (m n:Md)(ts:List T)(t:T):gn (.o m,.lst ts) (n,t)=if ts.length < LIM then some ((m.meet (lf n t)).up,.lst (ts++[t])) else none:=rfl
theorem AU (n:Md)(ts us:List T):AO (.d,.lst ts) (n,.lst us)=if ts.length+us.length<=LIM then some (n.kid.up,.lst (ts++us)) else none:=by show (if _ then some ((Md.d.meet _).up,_) else none)=_; rw [dR]
theorem AR (m n:Md)(ts us:List T):AO (.o m,.lst ts) (n,.lst us)=if ts.length+us.length<=LIM then some ((m.meet n.kid).up,.lst (ts++us)) else none:=rfl
theorem Ab (l n:Md)(ts:List T)(t:T)(j:Int):ck (.d,.lst ts) (l,.int j) (n,t)=(ixN ts.length j).map fun k=>((lf n t).up,.lst (ts.set k t)):=by show ((ixN ts.length j).map fun k=>((Md.d.meet _).up,_))=_; rw [dR]
theorem yo (m l n:Md)(ts:List T)(t:T)(j:Int):ck (.o m,.lst ts) (l,.int j) (n,t)=(ixN ts.length j).map fun k=>((m.meet (lf n t)).up,.lst (ts.set k t)):=rfl
theorem yE (m:Md)(ts:List T):dA (some (m,.lst ts))=.ok ():=rfl
theorem zW (m:Md)(ts:List T):BD (m,.tup ts)=some (ts.map fun t=>(m.kid,t)):=rfl
theorem DK (η η':Env):nxO η (some η')=.nx η':=rfl
theorem pG (η:Env):backs [] η=some []:=rfl
theorem rV (i:Nat)(is:List Nat)(η:Env):backs (i::is) η=(rd η i).bind fun w=>(backs is η).bind fun ws=>some (w::ws):=rfl
theorem Aj (io:List Nat)(η:Env):Fl.out io (.nx η)=(ofO (backs io η)).bind (pH (.d,.non)):=rfl
theorem A9 (io:List Nat)(w:W)(η:Env):Fl.out io (.rt w η)=(ofO (backs io η)).bind (pH w):=rfl
theorem x_run (C:Call)(f:Fn)(ws:List W)(h:ws.length=f.ps):runF C f ws=Fl.out f.io (evSs C f.body (ws.map some++a0i f.ns none)):=if_pos h
theorem at0 {α:Type}(a:α)(l:List α):atI (a::l) 0=some a:=by simp [atI,ixN]
theorem atN {α:Type}{xs:List α}{i:Int}{n:Nat}{a:α}(hi:i=n)(h:xs[n]?=some a):atI xs i=some a:=by
 subst hi
 have:=(a0v.mp h).1
 rw [atI,ixN,if_pos (by omega),if_pos (by omega)]
 exact h
theorem at1 {α:Type}(a b:α)(l:List α):atI (a::b::l) 1=some b:=atN (n:=1) rfl rfl
theorem at2 {α:Type}(a b c:α)(l:List α):atI (a::b::c::l) 2=some c:=atN (n:=2) rfl rfl
theorem at3 {α:Type}(a b c d:α)(l:List α):atI (a::b::c::d::l) 3=some d:=atN (n:=3) rfl rfl
theorem at4 {α:Type}(a b c d e:α)(l:List α):atI (a::b::c::d::e::l) 4=some e:=atN (n:=4) rfl rfl
theorem aR {α:Type}{tg:List Nat}{f:Env->Res (Option W×Env)}{η:Env}{g:α->List W}(w:α->W):∀ (ts:List α) (acc:List W),(∀ x∈ts,∃ η1 η2,aY tg (g x) η=some η1/\f η1=.ok (some (w x),η2)/\af tg η2=η) ->
  aA tg f (ts.map g) η acc=.ok (acc++ts.map w,η)
 | [],acc,_=>by rw [a1L,a1L,a0F]; rfl
 | x::ts,acc,h=>by
  obtain ⟨η1,η2,h1,h2,h3⟩:=h x a0e
  rw [a0w,a0w]
  show (ofO (aY tg (g x) η)).bind _=_
  rw [h1]
  show (f η1).bind _=_
  rw [h2]
  show aA tg f (ts.map g) (af tg η2) (acc++[w x])=_
  rw [h3,aR w ts _ fun y hy=>h y (a0d _ hy),a0T]
  rfl
theorem mD {α:Type}(g:α->T)(ts:List α):(ts.map fun x=>((Md.d,g x):W)).all okD=true:=by
 rw [List.all_map,a0x]; intro x _; rfl
end M

namespace MR
open L2 L3 M
open PySem (Addr Str sizeLine)
noncomputable abbrev Fp:=Addr->Prop
noncomputable def ScrR (K:a0a)(H:Hp)(a:Addr)(ns:List Int):Prop:=(∃ o,H a=some (.frz o (.lst (ns.map V.int))))\/SqL K (fun _=>none) a (ns.map V.int)
theorem ScrR.sq {K:a0a}{H:Hp}{a:Addr}{ns:List Int}(h:ScrR K H a ns):SqL K H a (ns.map V.int):=by
 rcases h with ⟨o,h⟩ | ((h | ⟨o,h⟩) | h)
 ·exact .inl (.inr ⟨o,h⟩)
 ·cases h
 ·cases h
 ·exact .inr h
theorem ScrR.keep {K:a0a}{H H':Hp}{a:Addr}{ns:List Int}(s:∀ a o u,H a=some (.frz o u)->H' a=some (.frz o u))(h:ScrR K H a ns):ScrR K H' a ns:=h.imp (fun ⟨o,e⟩=>⟨o,s a o _ e⟩) id
noncomputable def LstR (K:a0a)(Z:Fp)(H:Hp)(G:Fp)(a:Addr)(xs:List V):Md->Prop
 | .s=>Z a/\H a=some (.lst xs)
 | _=>G a/\H a=some (.lst xs)
noncomputable def mkD (ks:List (Int ⊕ Str))(xs:List V):List (Key×V):=ks.zip xs
noncomputable def DctR (Z:Fp)(H:Hp)(G:Fp)(a:Addr)(o:HO):Md->Prop
 | .s=>Z a/\H a=some o
 | _=>G a/\H a=some o
noncomputable def dmd:Md->Md
 | .d=>.d
 | _=>.s
mutual
noncomputable def Rep (K:a0a)(Z:Fp)(H:Hp):Md->T->V->Fp->Prop
 | _,.non,v,_=>v=.non
 | _,.bl b,v,_=>v=.bl b
 | _,.int i,v,_=>v=.int i
 | _,.str x,v,_=>v=.str x/\sOk x=true
 | m,.tup ts,v,G=>∃ a xs,v=.ref a/\SqT K H a xs/\xs.length<=LIM/\RepL K Z H m.kid ts xs G
 | m,.lst ts,v,G=>∃ a xs,v=.ref a/\xs.length<=LIM/\LstR K Z H G a xs m/\RepL K Z H m.kid ts xs (fun b=>G b/\b≠a)
 | m,.dct ks vs,v,G=>∃ a xs,v=.ref a/\ks.length<=LIM/\DctR Z H G a (.dK (mkD ks xs)) m/\(ks.Nodup/\∀ k∈ks,kOk k=true)/\vs.length=ks.length/\RepL K Z H (dmd m) vs xs (fun _=>False)
 | _,.ins _ _ _,_,_=>False
 | _,.gone,_,_=>True
 | _,.scr ns,v,_=>∃ a,v=.ref a/\ns.length<=LIM/\ScrR K H a ns
noncomputable def RepL (K:a0a)(Z:Fp)(H:Hp):Md->List T->List V->Fp->Prop
 | _,[],xs,_=>xs=[]
 | m,t::ts,xs,G=>∃ x r G1 G2,xs=x::r/\(∀ a,G1 a->G a)/\(∀ a,G2 a->G a)/\(∀ a,G1 a->¬ G2 a)/\Rep K Z H m t x G1/\RepL K Z H m ts r G2
end
section
variable {K:a0a}{Z Z':Fp}{H H':Hp}{m:Md}{t:T}{ts:List T}{v:V}{xs:List V}{G G':Fp}
theorem LstR.mono {a:Addr}(w:∀ a,G a->G' a)(h:LstR K Z H G a xs m):LstR K Z H G' a xs m:=by
 cases m with
 | s=>exact h
 | d=>exact ⟨w _ h.1,h.2⟩
 | o m=>exact ⟨w _ h.1,h.2⟩
theorem DctR.mono {a:Addr}{o:HO}(w:∀ a,G a->G' a)(h:DctR Z H G a o m):DctR Z H G' a o m:=by
 cases m with
 | s=>exact h
 | d=>exact ⟨w _ h.1,h.2⟩
 | o m=>exact ⟨w _ h.1,h.2⟩
mutual
theorem Rep.mono:∀ {m:Md} {t:T} {v:V} {G G':Fp},(∀ a,G a->G' a)->Rep K Z H m t v G->Rep K Z H m t v G'
 | _,.non,_,_,_,_,h=>h
 | _,.bl _,_,_,_,_,h=>h
 | _,.int _,_,_,_,_,h=>h
 | _,.str _,_,_,_,_,h=>h
 | m,.tup ts,v,G,G',w,⟨a,xs,e,q,l,r⟩=>⟨a,xs,e,q,l,RepL.mono w r⟩
 | m,.lst ts,v,G,G',w,⟨a,xs,e,l,q,r⟩=>⟨a,xs,e,l,q.mono w,RepL.mono (fun b hb=>⟨w b hb.1,hb.2⟩) r⟩
 | m,.dct ks vs,v,G,G',w,⟨a,xs,e,l,q,n,hl,r⟩=>⟨a,xs,e,l,q.mono w,n,hl,r⟩
 | _,.ins _ _ _,_,_,_,_,h=>h.elim
 | _,.gone,_,_,_,_,h=>h
 | _,.scr _,_,_,_,_,h=>h
theorem RepL.mono:∀ {m:Md} {ts:List T} {xs:List V} {G G':Fp},(∀ a,G a->G' a)->RepL K Z H m ts xs G->RepL K Z H m ts xs G'
 | _,[],_,_,_,_,h=>h
 | m,t::ts,xs,G,G',w,⟨x,r,G1,G2,e,h1,h2,hd,p,q⟩=>⟨x,r,G1,G2,e,fun a ha=>w a (h1 a ha),fun a ha=>w a (h2 a ha),hd,p,q⟩
end
noncomputable def Stay (Z:Fp)(H H':Hp):Prop:=(∀ a o,Z a->H a=some o->H' a=some o)/\(∀ a xs,Rd H a (.tup xs)->Rd H' a (.tup xs))/\∀ a o u,H a=some (.frz o u)->H' a=some (.frz o u)
theorem Stay.sqt (s:Stay Z H H'){a:Addr}(h:SqT K H a xs):SqT K H' a xs:=by
 rcases h with h | h
 ·exact .inl (s.2.1 a xs h)
 ·exact .inr h
theorem LstR.keep {a:Addr}(s:Stay Z H H')(z:∀ a,Z a->Z' a)(g:∀ a o,G a->H a=some o->H' a=some o)(h:LstR K Z H G a xs m):LstR K Z' H' G a xs m:=by
 cases m with
 | s=>exact ⟨z _ h.1,s.1 _ _ h.1 h.2⟩
 | d=>exact ⟨h.1,g _ _ h.1 h.2⟩
 | o m=>exact ⟨h.1,g _ _ h.1 h.2⟩
theorem DctR.keep {a:Addr}{o:HO}(s:Stay Z H H')(z:∀ a,Z a->Z' a)(g:∀ a o,G a->H a=some o->H' a=some o)(h:DctR Z H G a o m):DctR Z' H' G a o m:=by
 cases m with
 | s=>exact ⟨z _ h.1,s.1 _ _ h.1 h.2⟩
 | d=>exact ⟨h.1,g _ _ h.1 h.2⟩
 | o m=>exact ⟨h.1,g _ _ h.1 h.2⟩
mutual
theorem Rep.keep (s:Stay Z H H')(z:∀ a,Z a->Z' a):∀ {m:Md} {t:T} {v:V} {G:Fp},(∀ a o,G a->H a=some o->H' a=some o)->Rep K Z H m t v G->Rep K Z' H' m t v G
 | _,.non,_,_,_,h=>h
 | _,.bl _,_,_,_,h=>h
 | _,.int _,_,_,_,h=>h
 | _,.str _,_,_,_,h=>h
 | m,.tup ts,v,G,g,⟨a,xs,e,q,l,r⟩=>⟨a,xs,e,s.sqt q,l,RepL.keep s z g r⟩
 | m,.lst ts,v,G,g,⟨a,xs,e,l,q,r⟩=>⟨a,xs,e,l,q.keep s z g,RepL.keep s z (fun b o hb=>g b o hb.1) r⟩
 | m,.dct ks vs,v,G,g,⟨a,xs,e,l,q,n,hl,r⟩=>⟨a,xs,e,l,q.keep s z g,n,hl,RepL.keep s z (fun _ _ hb=>hb.elim) r⟩
 | _,.ins _ _ _,_,_,_,h=>h.elim
 | _,.gone,_,_,_,h=>h
 | _,.scr _,_,_,_,⟨a,e,l,q⟩=>⟨a,e,l,q.keep s.2.2⟩
theorem RepL.keep (s:Stay Z H H')(z:∀ a,Z a->Z' a):∀ {m:Md} {ts:List T} {xs:List V} {G:Fp},(∀ a o,G a->H a=some o->H' a=some o)->RepL K Z H m ts xs G->RepL K Z' H' m ts xs G
 | _,[],_,_,_,h=>h
 | m,t::ts,xs,G,g,⟨x,r,G1,G2,e,h1,h2,hd,p,q⟩=>⟨x,r,G1,G2,e,h1,h2,hd,Rep.keep s z (fun a o ha=>g a o (h1 a ha)) p,RepL.keep s z (fun a o ha=>g a o (h2 a ha)) q⟩
end
theorem da (Z:Fp)(H:Hp):Stay Z H H:=⟨fun _ _ _ h=>h,fun _ _ h=>h,fun _ _ _ h=>h⟩
theorem Rep.zmono (z:∀ a,Z a->Z' a)(h:Rep K Z H m t v G):Rep K Z' H m t v G:=h.keep (da Z H) z fun _ _ _ q=>q
theorem RepL.zmono (z:∀ a,Z a->Z' a)(h:RepL K Z H m ts xs G):RepL K Z' H m ts xs G:=h.keep (da Z H) z fun _ _ _ q=>q
theorem RepL.length:∀ {ts:List T} {xs:List V} {G:Fp},RepL K Z H m ts xs G->xs.length=ts.length
 | [],_,_,h=>by rw [show _=[] from h]; rfl
 | _::_,_,_,⟨x,r,G1,G2,e,_,_,_,_,q⟩=>by rw [e,a0g,a0g,RepL.length q]
theorem RepL.get:∀ {ts:List T} {xs:List V} {G:Fp} {i:Nat} {t:T},RepL K Z H m ts xs G->ts[i]?=some t->∃ x,xs[i]?=some x/\Rep K Z H m t x G
 | [],_,_,_,_,_,e=>by simp at e
 | _::_,_,_,0,_,⟨x,r,G1,G2,e,h1,_,_,p,_⟩,e2=>by
  rw [a1i] at e2; cases e2
  exact ⟨x,by rw [e]; rfl,p.mono h1⟩
 | _::_,_,_,i+1,_,⟨x,r,G1,G2,e,_,h2,_,_,q⟩,e2=>by
  rw [a0E] at e2
  obtain ⟨y,hy,p⟩:=RepL.get q e2
  exact ⟨y,by rw [e,a0E]; exact hy,p.mono h2⟩
theorem RepL.append:∀ {ts us:List T} {xs ys:List V} {G1 G2 G:Fp},(∀ a,G1 a->G a)->(∀ a,G2 a->G a)->(∀ a,G1 a->¬ G2 a)->RepL K Z H m ts xs G1->RepL K Z H m us ys G2->RepL K Z H m (ts++us) (xs++ys) G
 | [],us,xs,ys,G1,G2,G,w1,w2,d,h,k=>by rw [show xs=[] from h]; exact k.mono w2
 | t::ts,us,xs,ys,G1,G2,G,w1,w2,d,⟨x,r,A,B,e,h1,h2,hd,p,q⟩,k=>by
  rw [e]
  refine ⟨x,r++ys,A,fun a=>B a\/G2 a,rfl,fun a ha=>w1 a (h1 a ha),fun a ha=>ha.elim (fun z=>w1 a (h2 a z)) (w2 a),fun a ha hb=>hb.elim (hd a ha) (d a (h1 a ha)),p,?_⟩
  exact RepL.append (fun a z=>.inl z) (fun a z=>.inr z) (fun a ha=>d a (h2 a ha)) q k
theorem RepL.one {x:V}(p:Rep K Z H m t x G):RepL K Z H m [t] [x] G:=⟨x,[],G,fun _=>False,rfl,fun _ h=>h,fun _ h=>h.elim,fun _ _ h=>h,p,rfl⟩
theorem RepL.take:∀ {ts:List T} {xs:List V} {G:Fp} (n:Nat),RepL K Z H m ts xs G->RepL K Z H m (ts.take n) (xs.take n) G
 | [],_,_,n,h=>by rw [show _=[] from h,a3y,a3y]; rfl
 | _::_,_,_,0,h=>rfl
 | _::_,_,_,n+1,⟨x,r,A,B,e,h1,h2,hd,p,q⟩=>by rw [e]; exact ⟨x,r.take n,A,B,rfl,h1,h2,hd,p,RepL.take n q⟩
theorem RepL.drop:∀ {ts:List T} {xs:List V} {G:Fp} (n:Nat),RepL K Z H m ts xs G->RepL K Z H m (ts.drop n) (xs.drop n) G
 | [],_,_,n,h=>by rw [show _=[] from h,a3z,a3z]; rfl
 | _::_,_,_,0,h=>h
 | _::_,_,_,n+1,⟨x,r,A,B,e,h1,h2,hd,p,q⟩=>by rw [e]; exact (RepL.drop n q).mono h2
theorem Rep.leaf {m':Md}(hs:∀ a o u,H a=some (.frz o u)->H' a=some (.frz o u))(hl:t.leaf=true)(h:Rep K Z H m t v G):Rep K Z' H' m' t v G':=by
 cases t with
 | non=>exact h
 | bl _=>exact h
 | int _=>exact h
 | str _=>exact h
 | scr _=>obtain ⟨a,e,l,q⟩:=h; exact ⟨a,e,l,q.keep hs⟩
 | _=>cases hl
theorem RepL.leaves {m':Md}(hs:∀ a o u,H a=some (.frz o u)->H' a=some (.frz o u)):∀ {ts:List T} {xs:List V} {G G':Fp},leaves ts=true->RepL K Z H m ts xs G->RepL K Z' H' m' ts xs G'
 | [],_,_,_,_,h=>h
 | t::ts,_,_,G',hl,⟨x,r,A,B,e,h1,h2,hd,p,q⟩=>by
  have h':(t.leaf&&ts.all T.leaf)=true:=hl
  rw [a0j] at h'
  exact ⟨x,r,fun _=>False,fun _=>False,e,fun _ z=>z.elim,fun _ z=>z.elim,fun _ z=>z.elim,p.leaf hs h'.1,RepL.leaves hs h'.2 q⟩
noncomputable def no:Fp:=fun _=>False
mutual
theorem Rep.sh:∀ {m:Md} {t:T} {v:V} {G:Fp},Rep K Z H m t v G->Rep K (fun a=>Z a\/G a) H .s t v no
 | _,.non,_,_,h=>h
 | _,.bl _,_,_,h=>h
 | _,.int _,_,_,h=>h
 | _,.str _,_,_,h=>h
 | m,.tup ts,v,G,⟨a,xs,e,q,l,r⟩=>⟨a,xs,e,q,l,RepL.sh r⟩
 | m,.lst ts,v,G,⟨a,xs,e,l,q,r⟩=>⟨a,xs,e,l,by
   cases m with
   | s=>exact ⟨.inl q.1,q.2⟩
   | d=>exact ⟨.inr q.1,q.2⟩
   | o m=>exact ⟨.inr q.1,q.2⟩,(RepL.zmono (fun b hb=>hb.elim .inl fun z=>.inr z.1) (RepL.sh r)).mono fun _ z=>z.elim⟩
 | m,.dct ks vs,v,G,⟨a,xs,e,l,q,n,hl,r⟩=>⟨a,xs,e,l,by
   cases m with
   | s=>exact ⟨.inl q.1,q.2⟩
   | d=>exact ⟨.inr q.1,q.2⟩
   | o m=>exact ⟨.inr q.1,q.2⟩,n,hl,RepL.zmono (fun b hb=>hb.elim .inl fun z=>z.elim) (RepL.sh r)⟩
 | _,.ins _ _ _,_,_,h=>h.elim
 | _,.gone,_,_,h=>h
 | _,.scr _,_,_,h=>h
theorem RepL.sh:∀ {m:Md} {ts:List T} {xs:List V} {G:Fp},RepL K Z H m ts xs G->RepL K (fun a=>Z a\/G a) H .s ts xs no
 | _,[],_,_,h=>h
 | m,t::ts,xs,G,⟨x,r,G1,G2,e,h1,h2,hd,p,q⟩=>⟨x,r,no,no,e,fun _ z=>z,fun _ z=>z,fun _ z _=>z,Rep.zmono (fun b hb=>hb.imp id (h1 b)) (Rep.sh p),RepL.zmono (fun b hb=>hb.imp id (h2 b)) (RepL.sh q)⟩
end
theorem Fy:∀ a:Md,a.le .d=true
 | .s=>rfl | .d=>rfl | .o _=>rfl
theorem iV:∀ a:Md,a.le a=true
 | .s=>rfl | .d=>rfl | .o a=>iV a
theorem le_trans:∀ {a b c:Md},a.le b=true->b.le c=true->a.le c=true
 | .s,_,.s,_,_=>rfl
 | .s,_,.d,_,_=>rfl
 | .s,_,.o _,_,_=>rfl
 | .o a,.o b,.o c,h,k=>le_trans (a:=a) (b:=b) (c:=c) h k
 | .o a,.o b,.d,h,k=>rfl
 | .o a,.d,.d,h,k=>rfl
 | .d,.d,.d,_,_=>rfl
 | .d,.s,_,h,_=>by cases h
 | .d,.o _,_,h,_=>by cases h
 | .o _,.s,_,h,_=>by cases h
 | .o _,.o _,.s,_,k=>by cases k
 | .o _,.d,.s,_,k=>by cases k
 | .o _,.d,.o _,_,k=>by cases k
 | .d,.d,.s,_,k=>by cases k
 | .d,.d,.o _,_,k=>by cases k
theorem cx:∀ a b:Md,(a.meet b).le a=true/\(a.meet b).le b=true
 | .s,.s=>⟨rfl,rfl⟩
 | .s,.d=>⟨rfl,rfl⟩
 | .s,.o _=>⟨rfl,rfl⟩
 | .d,.s=>⟨rfl,rfl⟩
 | .d,.d=>⟨rfl,rfl⟩
 | .d,.o b=>⟨rfl,iV b⟩
 | .o _,.s=>⟨rfl,rfl⟩
 | .o a,.d=>⟨iV a,rfl⟩
 | .o a,.o b=>cx a b
theorem pV:∀ {a b:Md},a.le b=true->a.kid.le b.kid=true
 | .s,.s,_=>rfl
 | .s,.d,_=>rfl
 | .s,.o _,_=>by first | rfl | exact (by cases ‹Md›<;>rfl)
 | .o a,.o b,h=>h
 | .o a,.d,_=>Fy a
 | .d,.d,_=>rfl
 | .d,.s,h=>by cases h
 | .d,.o _,h=>by cases h
 | .o _,.s,h=>by cases h
theorem eC:∀ a:Md,a.up.kid=a
 | .s=>rfl | .d=>rfl | .o _=>rfl
theorem c9 (a:Md):a.up≠.s:=by cases a<;>intro h<;>cases h
theorem LstR.own {a:Addr}(hm:m≠.s):LstR K Z H G a xs m ↔ G a/\H a=some (.lst xs):=by
 cases m with
 | s=>exact absurd rfl hm
 | d=>exact Iff.rfl
 | o m=>exact Iff.rfl
noncomputable abbrev cg (Z G G':Fp):Fp:=fun a=>Z a\/(G a/\¬ G' a)
mutual
theorem Rep.weak:∀ {m m':Md} {t:T} {v:V} {G:Fp},m'.le m=true->Rep K Z H m t v G->∃ G',(∀ a,G' a->G a)/\Rep K (cg Z G G') H m' t v G'
 | m,m',.non,_,G,_,h=>⟨G,fun _ z=>z,h⟩
 | m,m',.bl _,_,G,_,h=>⟨G,fun _ z=>z,h⟩
 | m,m',.int _,_,G,_,h=>⟨G,fun _ z=>z,h⟩
 | m,m',.str _,_,G,_,h=>⟨G,fun _ z=>z,h⟩
 | m,m',.scr _,_,G,_,h=>⟨G,fun _ z=>z,h⟩
 | m,m',.tup ts,v,G,hm,⟨a,xs,e,q,l,r⟩=>by
  obtain ⟨G',h1,h2⟩:=RepL.weak (pV hm) r
  exact ⟨G',h1,a,xs,e,q,l,h2⟩
 | m,m',.lst ts,v,G,hm,h=>by
  cases m' with
  | s=>exact ⟨no,fun _ z=>z.elim,(Rep.sh h).zmono fun a ha=>ha.imp id fun z=>⟨z,fun q=>q⟩⟩
  | d =>
   cases m with
   | s=>cases hm
   | o _=>cases hm
   | d=>exact ⟨G,fun _ z=>z,h.zmono fun _ z=>.inl z⟩
  | o k =>
   have hne:m≠.s:=by rintro rfl; cases hm
   obtain ⟨a,xs,e,l,q,r⟩:=h
   rw [LstR.own hne] at q
   obtain ⟨G',h1,h2⟩:=RepL.weak (pV hm) r
   refine ⟨fun b=>G' b\/b=a,fun b hb=>hb.elim (fun z=>(h1 b z).1) (fun z=>z ▸ q.1),a,xs,e,l,⟨.inr rfl,q.2⟩,?_⟩
   refine (h2.zmono fun b hb=>?_).mono fun b hb=>⟨.inl hb,(h1 b hb).2⟩
   rcases hb with z | ⟨⟨z1,z2⟩,z3⟩
   ·exact .inl z
   ·exact .inr ⟨z1,fun q=>q.elim z3 z2⟩
 | m,m',.dct ks vs,v,G,hm,h=>by
  cases m' with
  | s=>exact ⟨no,fun _ z=>z.elim,(Rep.sh h).zmono fun a ha=>ha.imp id fun z=>⟨z,fun q=>q⟩⟩
  | d =>
   cases m with
   | s=>cases hm
   | o _=>cases hm
   | d=>exact ⟨G,fun _ z=>z,h.zmono fun _ z=>.inl z⟩
  | o k =>
   obtain ⟨a,xs,e,l,q,n,hl,r⟩:=h
   cases m with
   | s=>cases hm
   | d=>exact ⟨G,fun _ z=>z,a,xs,e,l,q,n,hl,RepL.zmono (fun b hb=>hb.elim .inl fun z=>z.elim) (RepL.sh r)⟩
   | o k'=>exact ⟨G,fun _ z=>z,a,xs,e,l,q,n,hl,RepL.zmono (fun b hb=>.inl hb) r⟩
 | _,_,.ins _ _ _,_,_,_,h=>h.elim
 | m,m',.gone,_,G,_,h=>⟨G,fun _ z=>z,h⟩
theorem RepL.weak:∀ {m m':Md} {ts:List T} {xs:List V} {G:Fp},m'.le m=true->RepL K Z H m ts xs G->∃ G',(∀ a,G' a->G a)/\RepL K (cg Z G G') H m' ts xs G'
 | m,m',[],_,G,_,h=>⟨G,fun _ z=>z,h⟩
 | m,m',t::ts,xs,G,hm,⟨x,r,G1,G2,e,h1,h2,hd,p,q⟩=>by
  obtain ⟨A,a1,a2⟩:=Rep.weak hm p
  obtain ⟨B,b1,b2⟩:=RepL.weak hm q
  refine ⟨fun b=>A b\/B b,fun b hb=>hb.elim (fun z=>h1 b (a1 b z)) (fun z=>h2 b (b1 b z)),x,r,A,B,e,fun _ z=>.inl z,fun _ z=>.inr z,fun b za zb=>hd b (a1 b za) (b1 b zb),?_,?_⟩
  ·refine a2.zmono fun b hb=>hb.imp id fun z=>⟨h1 b z.1,fun q=>q.elim z.2 fun w=>hd b z.1 (b1 b w)⟩
  ·refine b2.zmono fun b hb=>hb.imp id fun z=>⟨h2 b z.1,fun q=>q.elim (fun w=>hd b (a1 b w) z.1) z.2⟩
end
noncomputable def RepW (K:a0a)(Z:Fp)(H:Hp):List W->List V->Fp->Prop
 | [],xs,_=>xs=[]
 | w::ws,xs,G=>∃ x r G1 G2,xs=x::r/\(∀ a,G1 a->G a)/\(∀ a,G2 a->G a)/\(∀ a,G1 a->¬ G2 a)/\Rep K Z H w.1 w.2 x G1/\RepW K Z H ws r G2
theorem RepW.length:∀ {ws:List W} {xs:List V} {G:Fp},RepW K Z H ws xs G->xs.length=ws.length
 | [],_,_,h=>by rw [show _=[] from h]; rfl
 | _::_,_,_,⟨x,r,G1,G2,e,_,_,_,_,q⟩=>by rw [e,a0g,a0g,RepW.length q]
theorem RepW.mono:∀ {ws:List W} {xs:List V} {G G':Fp},(∀ a,G a->G' a)->RepW K Z H ws xs G->RepW K Z H ws xs G'
 | [],_,_,_,_,h=>h
 | _::_,_,_,_,w,⟨x,r,G1,G2,e,h1,h2,hd,p,q⟩=>⟨x,r,G1,G2,e,fun a ha=>w a (h1 a ha),fun a ha=>w a (h2 a ha),hd,p,q⟩
theorem RepW.keep (s:Stay Z H H')(z:∀ a,Z a->Z' a):∀ {ws:List W} {xs:List V} {G:Fp},(∀ a o,G a->H a=some o->H' a=some o)->RepW K Z H ws xs G->RepW K Z' H' ws xs G
 | [],_,_,_,h=>h
 | _::_,_,_,g,⟨x,r,G1,G2,e,h1,h2,hd,p,q⟩=>⟨x,r,G1,G2,e,h1,h2,hd,p.keep s z fun a o ha=>g a o (h1 a ha),RepW.keep s z (fun a o ha=>g a o (h2 a ha)) q⟩
theorem RepW.append:∀ {ws us:List W} {xs ys:List V} {G1 G2 G:Fp},(∀ a,G1 a->G a)->(∀ a,G2 a->G a)->(∀ a,G1 a->¬ G2 a)->RepW K Z H ws xs G1->RepW K Z H us ys G2->RepW K Z H (ws++us) (xs++ys) G
 | [],us,xs,ys,G1,G2,G,w1,w2,d,h,k=>by rw [show xs=[] from h]; exact k.mono w2
 | t::ts,us,xs,ys,G1,G2,G,w1,w2,d,⟨x,r,A,B,e,h1,h2,hd,p,q⟩,k=>by
  rw [e]
  refine ⟨x,r++ys,A,fun a=>B a\/G2 a,rfl,fun a ha=>w1 a (h1 a ha),fun a ha=>ha.elim (fun z=>w1 a (h2 a z)) (w2 a),fun a ha hb=>hb.elim (hd a ha) (d a (h1 a ha)),p,?_⟩
  exact RepW.append (fun a z=>.inl z) (fun a z=>.inr z) (fun a ha=>d a (h2 a ha)) q k
theorem RepW.one {w:W}{x:V}(p:Rep K Z H w.1 w.2 x G):RepW K Z H [w] [x] G:=⟨x,[],G,no,rfl,fun _ h=>h,fun _ h=>h.elim,fun _ _ h=>h,p,rfl⟩
theorem fu:∀ {ws:List W} {w:W},w∈ws->(fR ws).le (lf w.1 w.2)=true
 | u::ws,w,h=>by
  rcases a0r.mp h with z | z
  ·subst z; exact (cx _ _).1
  ·exact le_trans (cx _ _).2 (fu z)
theorem Rep.lf (h:Rep K Z H m t v G):Rep K Z H (M.lf m t) t v G:=by
 unfold M.lf
 split
 ·rename_i hl; exact h.leaf (fun _ _ _ q=>q) hl
 ·exact h
theorem RepW.to {N:Md}:∀ {ws:List W} {xs:List V} {G:Fp},(∀ w∈ws,N.le (M.lf w.1 w.2)=true)->RepW K Z H ws xs G->∃ G',(∀ a,G' a->G a)/\RepL K (cg Z G G') H N (aS ws) xs G'
 | [],_,G,_,h=>⟨G,fun _ z=>z,h⟩
 | w::ws,xs,G,hm,⟨x,r,G1,G2,e,h1,h2,hd,p,q⟩=>by
  obtain ⟨A,a1,a2⟩:=Rep.weak (hm w a0e) p.lf
  obtain ⟨B,b1,b2⟩:=RepW.to (fun u hu=>hm u (a0d _ hu)) q
  refine ⟨fun b=>A b\/B b,fun b hb=>hb.elim (fun z=>h1 b (a1 b z)) (fun z=>h2 b (b1 b z)),x,r,A,B,e,fun _ z=>.inl z,fun _ z=>.inr z,fun b za zb=>hd b (a1 b za) (b1 b zb),?_,?_⟩
  ·refine a2.zmono fun b hb=>hb.imp id fun z=>⟨h1 b z.1,fun q=>q.elim z.2 fun w=>hd b z.1 (b1 b w)⟩
  ·refine b2.zmono fun b hb=>hb.imp id fun z=>⟨h2 b z.1,fun q=>q.elim (fun w=>hd b (a1 b w) z.1) z.2⟩
end
noncomputable def OO:=List V ⊕ List (Key×V)
noncomputable def OO.ho:OO->HO
 | .inl xs=>.lst xs
 | .inr kvs=>.dK kvs
noncomputable def Own (Z:Fp)(H:Hp)(F:Fp):Prop:=∀ a,F a->¬ Z a/\∃ xs:OO,H a=some xs.ho
theorem hZ {xs:List V}{ys:OO}(e:some (HO.tup xs)=some ys.ho):False:=by cases ys<;>cases e
theorem dD {o:PySem.Obj}{u:HO}{ys:OO}(e:some (HO.frz o u)=some ys.ho):False:=by cases ys<;>cases e
structure Step (Z:Fp)(H:Hp)(F:Fp)(Z':Fp)(H':Hp)(F':Fp):Prop where
 keep:∀ a o,H a=some o->¬ F a->H' a=some o
 zm:∀ a,Z a->Z' a
 zn:∀ a,Z' a->Z a\/F a\/H a=none
 fn:∀ a,F' a->F a\/H a=none
 al:∀ a,H a≠none->H' a≠none
 za:(∀ a,Z a->H a≠none)->∀ a,Z' a->H' a≠none
section
variable {K:a0a}{Z Z1 Z2 Z':Fp}{H H1 H2 H':Hp}{F F1 F2 F' R G:Fp}
theorem Step.refl (Z:Fp)(H:Hp)(F:Fp):Step Z H F Z H F:=⟨fun _ _ h _=>h,fun _ h=>h,fun _ h=>.inl h,fun _ h=>.inl h,fun _ h=>h,fun z=>z⟩
theorem Step.trans (s:Step Z H F Z1 H1 F1)(t:Step Z1 H1 F1 Z2 H2 F2):Step Z H F Z2 H2 F2 where
 keep:=fun a o h n=>t.keep a o (s.keep a o h n) fun q=>(s.fn a q).elim n fun z=>by rw [h] at z; cases z
 zm:=fun a h=>t.zm a (s.zm a h)
 zn:=fun a h=>by
  rcases t.zn a h with q | q | q
  ·exact s.zn a q
  ·exact .inr (s.fn a q)
  ·exact .inr (.inr (by
    cases e:H a with
    | none=>rfl
    | some o=>exact absurd q (s.al a (by rw [e]; simp))))
 fn:=fun a h=>by
  rcases t.fn a h with q | q
  ·exact s.fn a q
  ·exact .inr (by
    cases e:H a with
    | none=>rfl
    | some o=>exact absurd q (s.al a (by rw [e]; simp)))
 al:=fun a h=>t.al a (s.al a h)
 za:=fun z=>t.za (s.za z)
theorem Step.frame (R:Fp)(s:Step Z H F Z' H' F'):Step Z H (fun a=>F a\/R a) Z' H' (fun a=>F' a\/R a) where
 keep:=fun a o h n=>s.keep a o h fun q=>n (.inl q)
 zm:=s.zm
 zn:=fun a h=>(s.zn a h).imp id fun q=>q.imp .inl id
 fn:=fun a h=>h.elim (fun q=>(s.fn a q).imp .inl id) fun q=>.inl (.inr q)
 al:=s.al
 za:=s.za
theorem Step.mono (s:Step Z H F Z' H' F')(h1:∀ a,F a->F1 a)(h2:∀ a,F2 a->F' a):Step Z H F1 Z' H' F2 where
 keep:=fun a o h n=>s.keep a o h fun q=>n (h1 a q)
 zm:=s.zm
 zn:=fun a h=>(s.zn a h).imp id fun q=>q.imp (h1 a) id
 fn:=fun a h=>(s.fn a (h2 a h)).imp (h1 a) id
 al:=s.al
 za:=s.za
theorem Own.stay (o:Own Z H F)(s:Step Z H F Z' H' F'):Stay Z H H':=by
 refine ⟨fun a u hz h=>s.keep a u h fun q=>(o a q).1 hz,fun a xs h=>?_,fun a u v h=>s.keep a _ h fun q=>?_⟩
 ·rcases h with h | ⟨u,h⟩
  ·refine .inl (s.keep a _ h fun q=>?_)
   obtain ⟨_,ys,e⟩:=o a q
   rw [h] at e; exact hZ e
  ·refine .inr ⟨u,s.keep a _ h fun q=>?_⟩
   obtain ⟨_,ys,e⟩:=o a q
   rw [h] at e; exact dD e
 ·obtain ⟨_,ys,e⟩:=o a q
  rw [h] at e; exact dD e
theorem Rep.frame {m:Md}{t:T}{v:V}(o:Own Z H F)(s:Step Z H F Z' H' F')(d:∀ a,G a->¬ F a)(h:Rep K Z H m t v G):Rep K Z' H' m t v G:=h.keep (o.stay s) s.zm fun a u ha e=>s.keep a u e (d a ha)
theorem RepW.frame {ws:List W}{xs:List V}(o:Own Z H F)(s:Step Z H F Z' H' F')(d:∀ a,G a->¬ F a)(h:RepW K Z H ws xs G):RepW K Z' H' ws xs G:=h.keep (o.stay s) s.zm fun a u ha e=>s.keep a u e (d a ha)
theorem Own.frame (o:Own Z H G)(s:Step Z H F Z' H' F')(d:∀ a,G a->¬ F a):Own Z' H' G/\∀ a,G a->¬ F' a:=by
 refine ⟨fun a ha=>?_,fun a ha q=>?_⟩
 ·obtain ⟨nz,xs,e⟩:=o a ha
  refine ⟨fun q=>?_,xs,s.keep a _ e (d a ha)⟩
  rcases s.zn a q with z | z | z
  ·exact nz z
  ·exact d a ha z
  ·rw [e] at z; cases z
 ·obtain ⟨nz,xs,e⟩:=o a ha
  rcases s.fn a q with z | z
  ·exact d a ha z
  ·rw [e] at z; cases z
end
noncomputable abbrev Fps:=Nat->Fp
noncomputable def tot (Fs:Fps):Fp:=fun a=>∃ i,Fs i a
structure Gd (Z:Fp)(H:Hp)(Fs:Fps):Prop where
 own:Own Z H (tot Fs)
 dis:∀ i j a,Fs i a->Fs j a->i=j
 zal:∀ a,Z a->H a≠none
structure Cf where
 sl:Nat->Option Nat
 pv:Nat->Option V
noncomputable def FV (K:a0a)(sl:Cf)(Z:Fp)(H:Hp)(η:Env)(σ:L2.St)(Fs:Fps):Prop :=
 ∀ i m t,rd η i=some (m,t)->∃ v,Rep K Z H m t v (Fs i)/\(∀ j,sl.sl i=some j->σ[j]?=some (some v))/\∀ u,sl.pv i=some u->v=u
structure At (K:a0a)(sl:Cf)(σ:L2.St)(Z:Fp)(H:Hp)(Fs:Fps)(η:Env)(G:Fp):Prop where
 gd:Gd Z H Fs
 env:FV K sl Z H η σ Fs
 own:Own Z H G
 dis:∀ a,G a->¬ tot Fs a
 lk:∀ i u j,sl.pv i=some u->sl.sl i=some j->σ[j]?=some (some u)
 ln:∀ i j,sl.sl i=some j->j < σ.length
section
variable {K:a0a}{sl:Cf}{σ:L2.St}{Z Z':Fp}{H H':Hp}{Fs Fs':Fps}{η η':Env}{G G' R:Fp}
theorem At.frame (a:At K sl σ Z H Fs η R)(b:At K sl σ Z' H' Fs' η' G)(s:Step Z H (tot Fs) Z' H' (fun c=>tot Fs' c\/G c)) :
  At K sl σ Z' H' Fs' η' (fun c=>R c\/G c)/\Step Z H (fun c=>tot Fs c\/R c) Z' H' (fun c=>tot Fs' c\/(R c\/G c))/\∀ c,R c->¬ G c:=by
 have o:=a.own.frame s a.dis
 refine ⟨⟨b.gd,b.env,fun c hc=>hc.elim (o.1 c) (b.own c),fun c hc=>hc.elim (fun z q=>o.2 c z (.inl q)) (b.dis c),b.lk,b.ln⟩,(s.frame R).mono (fun _ z=>z) fun c hc=>?_,fun c z q=>o.2 c z (.inr q)⟩
 rcases hc with z | z | z
 ·exact .inl (.inl z)
 ·exact .inr z
 ·exact .inl (.inr z)
end
end MR
namespace MR
open L2 L3 M
open PySem (Addr Str sizeLine)
section
variable {K:a0a}{sl:Cf}{sf:Nat->Option Nat}{C:Call}{σ:L2.St}{Z Z' Z1:Fp}{H H' H1:Hp}{Fs Fs' Fs1:Fps}{η η' η1:Env}{G G' R F:Fp}
theorem At.mono (a:At K sl σ Z H Fs η G)(h:∀ c,G' c->G c):At K sl σ Z H Fs η G':=⟨a.gd,a.env,fun c hc=>a.own c (h c hc),fun c hc=>a.dis c (h c hc),a.lk,a.ln⟩
theorem At.bare (a:At K sl σ Z H Fs η G):At K sl σ Z H Fs η no:=a.mono fun _ z=>z.elim
noncomputable def wE (K:a0a)(sl:Nat->Option Nat)(C:Call)(e:E):TE:=fun σ H Q=>∃ pv Z Fs η w η',At K ⟨sl,pv⟩ σ Z H Fs η no/\evE C e η=.ok (w,η') /\
 ∀ v Z' H' Fs' G,At K ⟨sl,pv⟩ σ Z' H' Fs' η' G->Rep K Z' H' w.1 w.2 v G->Step Z H (tot Fs) Z' H' (fun a=>tot Fs' a\/G a)->Q v H'
noncomputable def wL (K:a0a)(sl:Nat->Option Nat)(C:Call)(es:List E):TA:=fun σ H Q=>∃ pv Z Fs η ws η',At K ⟨sl,pv⟩ σ Z H Fs η no/\evL C es η=.ok (ws,η') /\
 ∀ vs Z' H' Fs' G,At K ⟨sl,pv⟩ σ Z' H' Fs' η' G->RepW K Z' H' ws vs G->Step Z H (tot Fs) Z' H' (fun a=>tot Fs' a\/G a)->Q vs H'
theorem gj {e:E}{w:W}{Q:VK}(A:At K sl σ Z H Fs η R)(ev:evE C e η=.ok (w,η'))
  (k:∀ v Z' H' Fs' G,At K sl σ Z' H' Fs' η' (fun c=>R c\/G c)->Rep K Z' H' w.1 w.2 v G->(∀ c,R c->¬ G c)->Step Z H (tot Fs) Z' H' (fun a=>tot Fs' a\/G a) ->
   Step Z H (fun c=>tot Fs c\/R c) Z' H' (fun c=>tot Fs' c\/(R c\/G c))->Q v H'):wE K sl.sl C e σ H Q :=
 ⟨sl.pv,Z,Fs,η,w,η',A.bare,ev,fun v Z' H' Fs' G B r s=>by
  obtain ⟨h1,h2,h3⟩:=A.frame B s
  exact k v Z' H' Fs' G h1 r h3 s h2⟩
theorem F4 {es:List E}{ws:List W}{Q:List V->Hp->Prop}(A:At K sl σ Z H Fs η R)(ev:evL C es η=.ok (ws,η'))
  (k:∀ vs Z' H' Fs' G,At K sl σ Z' H' Fs' η' (fun c=>R c\/G c)->RepW K Z' H' ws vs G->(∀ c,R c->¬ G c)->Step Z H (tot Fs) Z' H' (fun a=>tot Fs' a\/G a) ->
   Step Z H (fun c=>tot Fs c\/R c) Z' H' (fun c=>tot Fs' c\/(R c\/G c))->Q vs H'):wL K sl.sl C es σ H Q :=
 ⟨sl.pv,Z,Fs,η,ws,η',A.bare,ev,fun v Z' H' Fs' G B r s=>by
  obtain ⟨h1,h2,h3⟩:=A.frame B s
  exact k v Z' H' Fs' G h1 r h3 s h2⟩
theorem aa {α β:Type}{r:Res α}{f:α->Res β}{b:β}(h:r.bind f=.ok b):∃ a,r=.ok a/\f a=.ok b:=by
 cases r with
 | ok a=>exact ⟨a,rfl,h⟩
 | ex c x=>cases h
 | no=>cases h
theorem aq {α:Type}{η:Env}{o:Option α}{b:α×Env}(h:ret η o=.ok b):∃ a,o=some a/\b=(a,η):=by
 cases o with
 | none=>cases h
 | some a=>exact ⟨a,rfl,by cases h; rfl⟩
theorem bK {α:Type}{o:Option α}{b:α}(h:ofO o=.ok b):o=some b:=by
 cases o with
 | none=>cases h
 | some a=>cases h; rfl
theorem ax {e:E}{es:List E}{ws:List W}(h:evL C (e::es) η=.ok (ws,η')):∃ w η1 us,evE C e η=.ok (w,η1)/\evL C es η1=.ok (us,η')/\ws=w::us:=by
 obtain ⟨⟨w,η1⟩,h1,h2⟩:=aa (show (evE C e η).bind (aX (evL C es))=_ from h)
 obtain ⟨⟨us,η2⟩,h3,h4⟩:=aa (show (evL C es η1).bind (lH w)=_ from h2)
 cases h4
 exact ⟨w,η1,us,h1,h3,rfl⟩
theorem fY {e:E}{es:List E}{ws:List W}(he:∀ i,e≠.io i)(h:evA C (e::es) η=.ok (ws,η')):∃ w η1 us,evE C e η=.ok (w,η1)/\evA C es η1=.ok (us,η')/\ws=w::us:=by
 rw [Bh he] at h
 obtain ⟨⟨w,η1⟩,h1,h2⟩:=aa h
 obtain ⟨⟨us,η2⟩,h3,h4⟩:=aa (show (evA C es η1).bind (lH w)=_ from h2)
 cases h4
 exact ⟨w,η1,us,h1,h3,rfl⟩
theorem ib {i:Nat}{es:List E}{ws:List W}(h:evA C (.io i::es) η=.ok (ws,η')):∃ us η1 w,evA C es η=.ok (us,η1)/\rd η1 i=some w/\ws=w::us/\η'=del η1 i:=by
 obtain ⟨⟨us,η1⟩,h1,h2⟩:=aa (show (evA C es η).bind (kIo i)=_ from h)
 obtain ⟨w,h3,h4⟩:=aa (show (ofO (rd η1 i)).bind (fun w=>.ok (w::us,del η1 i))=_ from h2)
 cases h4
 exact ⟨us,η1,w,h1,bK h3,rfl,rfl⟩
theorem BV (e:E):(∃ i,e=.io i)\/∀ i,e≠.io i:=by
 cases e with
 | io i=>exact .inl ⟨i,rfl⟩
 | _=>exact .inr fun _ z=>by cases z
theorem vN {e:E}{es:List E}(σ:L2.St)(H:Hp)(Q:List V->Hp->Prop)(h:wL K sf C (e::es) σ H Q):l7 (wE K sf C e) (wL K sf C es) σ H Q:=by
 obtain ⟨pv,Z,Fs,η,ws,η',A,ev,k⟩:=h
 obtain ⟨w,η1,us,h1,h2,rfl⟩:=ax ev
 refine gj A h1 fun x Z1 H1 Fs1 G1 A1 r1 _ s1 _=>?_
 have A1':=A1.mono (G':=G1) fun _ z=>.inr z
 refine F4 A1' h2 fun xs Z2 H2 Fs2 G2 A2 r2 d2 s2 t2=>?_
 refine k (x::xs) Z2 H2 Fs2 _ A2 ⟨x,xs,G1,G2,rfl,fun _ z=>.inl z,fun _ z=>.inr z,d2,r1.frame A1.gd.own s2 A1'.dis,r2⟩ ?_
 exact s1.trans t2
theorem ze (σ:L2.St)(H:Hp)(Q:List V->Hp->Prop)(h:wL K sf C [] σ H Q):Ay σ H Q:=by
 obtain ⟨pv,Z,Fs,η,ws,η',A,ev,k⟩:=h
 cases ev
 exact k [] Z H Fs no A rfl ((Step.refl _ _ _).mono (fun _ z=>z) fun a ha=>ha.elim id fun z=>z.elim)
noncomputable def Out (K:a0a)(Z:Fp)(H:Hp)(G:Fp)(w:W)(Q:VK):Prop:=∀ v Z' H' G',Rep K Z' H' w.1 w.2 v G'->Own Z' H' G'->Step Z H G Z' H' G'->Q v H'
theorem At.op (A:At K sl σ Z H Fs η G)(o:Own Z' H' G')(s:Step Z H G Z' H' G'):At K sl σ Z' H' Fs η G'/\Step Z H (fun c=>tot Fs c\/G c) Z' H' (fun c=>tot Fs c\/G' c):=by
 have d:∀ a,tot Fs a->¬ G a:=fun a h q=>A.dis a q h
 have f:=A.gd.own.frame s d
 refine ⟨⟨⟨f.1,A.gd.dis,s.za A.gd.zal⟩,fun i m t e=>?_,o,fun a ha q=>f.2 a q ha,A.lk,A.ln⟩,?_⟩
 ·obtain ⟨v,r,hv⟩:=A.env i m t e
  exact ⟨v,r.frame A.own s fun a ha=>d a ⟨i,ha⟩,hv⟩
 ·refine (s.frame (tot Fs)).mono (fun _ z=>z.symm) fun _ z=>z.symm
theorem bP {w:W}{Q:VK}(A:At K sl σ Z1 H1 Fs1 η1 G)(s:Step Z H F Z1 H1 (fun a=>tot Fs1 a\/G a))
  (k:∀ v Z' H' Fs' G,At K sl σ Z' H' Fs' η1 G->Rep K Z' H' w.1 w.2 v G->Step Z H F Z' H' (fun a=>tot Fs' a\/G a)->Q v H'):Out K Z1 H1 G w Q:=fun v Z' H' G' r o t=>by
 obtain ⟨B,u⟩:=A.op o t
 exact k v Z' H' Fs1 G' B r (s.trans u)
noncomputable def Loc (K:a0a)(n:Nat)(o:Op)(h:Bool)(r:List V->Hp->VK->Prop):Prop:=∀ (ws:List W) (w:W) (xs:List V) (Z:Fp) (H:Hp) (G:Fp) (Q:VK),ws.length=n->oSem o h ws=some w->RepW K Z H ws xs G->Own Z H G->(∀ a,Z a->H a≠none)->Out K Z H G w Q->r xs H Q
theorem cD {o:Op}{h:Bool}{es:List E}{w:W}(e:evE C (.op o h es) η=.ok (w,η')):∃ ws,evL C es η=.ok (ws,η')/\oSem o h ws=some w:=by
 obtain ⟨⟨ws,η1⟩,h1,h2⟩:=aa (show (evL C es η).bind (kOp o h)=_ from e)
 obtain ⟨a,h3,h4⟩:=aq (show ret η1 (oSem o h ws)=_ from h2)
 cases h4
 exact ⟨ws,h1,h3⟩
theorem eX:∀ {es:List E} {η η':Env} {ws:List W},evL C es η=.ok (ws,η')->ws.length=es.length
 | [],_,_,_,h=>by cases h; rfl
 | e::es,_,_,_,h=>by
  obtain ⟨w,η1,us,_,h2,rfl⟩:=ax h
  rw [a0g,a0g,eX h2]
theorem cQ {n:Nat}{o:Op}{h:Bool}{es:List E}{r:List V->Hp->VK->Prop}(l:Loc K n o h r)(hn:es.length=n)(σ:L2.St)(H:Hp)(Q:VK)(hw:wE K sf C (.op o h es) σ H Q):tCB r (wL K sf C es) σ H Q:=by
 obtain ⟨pv,Z,Fs,η,w,η',A,ev,k⟩:=hw
 obtain ⟨ws,h1,h2⟩:=cD ev
 exact ⟨pv,Z,Fs,η,ws,η',A,h1,fun vs Z' H' Fs' G B r s=>l ws w vs Z' H' G Q ((eX h1).trans hn) h2 r B.own B.gd.zal (bP B s k)⟩
theorem xZ {o:Op}{h:Bool}{a:E}{r:V->Hp->VK->Prop}(l:Loc K 1 o h fun xs H Q=>∀ x,xs=[x]->r x H Q)(σ:L2.St)(H:Hp)(Q:VK)(hw:wE K sf C (.op o h [a]) σ H Q):tUn r (wE K sf C a) σ H Q:=by
 obtain ⟨pv,Z,Fs,η,w,η',A,ev,k⟩:=hw
 obtain ⟨ws,h1,h2⟩:=cD ev
 obtain ⟨wa,η1,us,e1,e2,rfl⟩:=ax h1
 cases e2
 refine ⟨pv,Z,Fs,η,wa,η',A,e1,fun x Z' H' Fs' G B r s=>l [wa] w [x] Z' H' G Q rfl h2 (RepW.one r) B.own B.gd.zal (bP B s k) x rfl⟩
theorem aK {o:Op}{h:Bool}{a b:E}{r:R2}(l:Loc K 2 o h fun xs H Q=>∀ x y,xs=[x,y]->r x y H Q)(σ:L2.St)(H:Hp)(Q:VK)(hw:wE K sf C (.op o h [a,b]) σ H Q):tOp r (wE K sf C a) (wE K sf C b) σ H Q:=by
 obtain ⟨pv,Z,Fs,η,w,η',A,ev,k⟩:=hw
 obtain ⟨ws,h1,h2⟩:=cD ev
 obtain ⟨wa,η1,us,e1,e2,rfl⟩:=ax h1
 obtain ⟨wb,η2,us,e3,e4,rfl⟩:=ax e2
 cases e4
 refine gj A e1 fun x Z1 H1 Fs1 G1 A1 r1 _ s1 _=>?_
 have A1':=A1.mono (G':=G1) fun _ z=>.inr z
 refine gj A1' e3 fun y Z2 H2 Fs2 G2 A2 r2 d2 s2 t2=>?_
 exact l [wa,wb] w [x,y] Z2 H2 _ Q rfl h2 ⟨x,[y],G1,G2,rfl,fun _ z=>.inl z,fun _ z=>.inr z,d2,r1.frame A1.gd.own s2 A1'.dis,RepW.one r2⟩ A2.own A2.gd.zal (bP A2 (s1.trans t2) k) x y rfl
theorem bS:Own Z H no:=fun _ z=>z.elim
theorem Step.drop:Step Z H G Z H no:=(Step.refl Z H G).mono (fun _ z=>z) fun _ z=>z.elim
section
variable {Q:VK}{m:Md}{ts:List T}{xs:List V}
theorem aB {i:Int}(k:Out K Z H G (m,.int i) Q):Q (.int i) H:=k _ Z H no rfl bS .drop
theorem bY {b:Bool}(k:Out K Z H G (m,.bl b) Q):Q (.bl b) H:=k _ Z H no rfl bS .drop
theorem hW {x:Str}(k:Out K Z H G (m,.str x) Q)(h:sOk x=true):Q (.str x) H:=k _ Z H no ⟨rfl,h⟩ bS .drop
theorem dX {t:T}{v:V}(o:Own Z H G)(k:Out K Z H G (m,t) Q)(r:Rep K Z H m t v G):Q v H:=k v Z H G r o (.refl _ _ _)
theorem jg {p:Addr}{o:HO}(hp:H p=none):Stay Z H (upd H p o):=by
 have ne:∀ {a u},H a=some u->a≠p:=fun {a u} e z=>by subst z; rw [hp] at e; cases e
 refine ⟨fun a u _ e=>?_,fun a xs e=>?_,fun a u v e=>?_⟩
 ·rw [ab (ne e)]; exact e
 ·rcases e with e | ⟨u,e⟩
  ·exact .inl (by rw [ab (ne e)]; exact e)
  ·exact .inr ⟨u,by rw [ab (ne e)]; exact e⟩
 ·rw [ab (ne e)]; exact e
theorem fv {p:Addr}{o:HO}(hp:H p=none)(ow:Own Z H G)(hg:∀ a,G' a->G a\/a=p)(z:Fp)(hz:∀ a,Z a->z a)(hz':∀ a,z a->Z a\/G a):Step Z H G z (upd H p o) G':=by
 have ne:∀ {a u},H a=some u->a≠p:=fun {a u} e q=>by subst q; rw [hp] at e; cases e
 have al:∀ a,H a≠none->upd H p o a≠none:=fun a h=>by
  by_cases e:a=p
  ·rw [e,ai]; simp
  ·rw [ab e]; exact h
 refine ⟨fun a u e _=>by rw [ab (ne e)]; exact e,hz,fun a h=>(hz' a h).imp id .inl,fun a h=>(hg a h).imp id fun e=>by rw [e]; exact hp,al,fun q a h=>al a ?_⟩
 rcases hz' a h with c | c
 ·exact q a c
 ·obtain ⟨_,xs,e⟩:=ow a c
  rw [e]; simp
theorem bB {p:Addr}(ow:Own Z H G)(za:∀ a,Z a->H a≠none)(hg:∀ a,G' a->G a)(hl:xs.length<=LIM)(r:RepL K (cg Z G G') H m.kid ts xs G')(hm:m≠.s)(k:Out K Z H G (m,.lst ts) Q)(hp:H p=none):Q (.ref p) (upd H p (.lst xs)):=by
 have ne:∀ {a u},H a=some u->a≠p:=fun {a u} e q=>by subst q; rw [hp] at e; cases e
 have np:∀ a,G' a->a≠p:=fun a h=>by obtain ⟨_,ys,e⟩:=ow a (hg a h); exact ne e
 refine k _ (cg Z G G') _ (fun a=>G' a\/a=p) ⟨p,xs,rfl,hl,(LstR.own hm).mpr ⟨.inr rfl,ai⟩,?_⟩ ?_ (fv hp ow (fun a h=>h.imp (hg a) id) _ (fun a h=>.inl h) fun a h=>h.imp id a3j)
 ·refine (r.keep (jg hp) (fun _ z=>z) fun a u _ e=>by rw [ab (ne e)]; exact e).mono fun a h=>⟨.inl h,np a h⟩
 ·rintro a (h | h)
  ·obtain ⟨nz,ys,e⟩:=ow a (hg a h)
   exact ⟨fun z=>z.elim nz fun q=>q.2 h,ys,by rw [ab (ne e)]; exact e⟩
  ·subst h
   refine ⟨fun z=>z.elim (fun q=>za a q hp) fun q=>?_,.inl xs,ai⟩
   obtain ⟨_,ys,e⟩:=ow a q.1
   rw [hp] at e; cases e
theorem lT {p:Addr}(ow:Own Z H G)(hg:∀ a,G' a->G a)(hl:xs.length<=LIM)(r:RepL K (cg Z G G') H m.kid ts xs G')(k:Out K Z H G (m,.tup ts) Q)(hp:H p=none):Q (.ref p) (upd H p (.tup xs)):=by
 have ne:∀ {a u},H a=some u->a≠p:=fun {a u} e q=>by subst q; rw [hp] at e; cases e
 refine k _ (cg Z G G') _ G' ⟨p,xs,rfl,.inl (.inl ai),hl,?_⟩ ?_ (fv hp ow (fun a h=>.inl (hg a h)) _ (fun a h=>.inl h) fun a h=>h.imp id a3j)
 ·exact r.keep (jg hp) (fun _ z=>z) fun a u _ e=>by rw [ab (ne e)]; exact e
 ·intro a h
  obtain ⟨nz,ys,e⟩:=ow a (hg a h)
  exact ⟨fun z=>z.elim nz fun q=>q.2 h,ys,by rw [ab (ne e)]; exact e⟩
theorem j9 {v:V}{H':Hp}(ow:Own Z H G)(hg:∀ a,G' a->G a)(hl:xs.length<=LIM)(r:RepL K (cg Z G G') H m.kid ts xs G')(k:Out K Z H G (m,.tup ts) Q)(same:∀ b o,H b=some o->H' b=some o)(hv:∃ c,v=.ref c/\SqT K H' c xs):Q v H':=by
 obtain ⟨c,rfl,hs⟩:=hv
 have al:∀ a,H a≠none->H' a≠none:=fun a h=>by
  cases e:H a with
  | none=>exact absurd e h
  | some o=>rw [same a o e]; simp
 refine k _ (cg Z G G') _ G' ⟨c,xs,rfl,hs,hl,?_⟩ (fun a h=>?_) ⟨fun a o e _=>same a o e,fun a h=>.inl h,fun a h=>h.imp id fun q=>.inl q.1,fun a h=>.inl (hg a h),al,fun q a h=>al a ?_⟩
 ·refine r.keep ⟨fun a o _ e=>same a o e,fun a ys e=>?_,fun a o u e=>same a _ e⟩ (fun _ z=>z) fun a u _ e=>same a u e
  rcases e with e | ⟨u,e⟩
  ·exact .inl (same a _ e)
  ·exact .inr ⟨u,same a _ e⟩
 ·obtain ⟨nz,ys,e⟩:=ow a (hg a h)
  exact ⟨fun z=>z.elim nz fun q=>q.2 h,ys,same a _ e⟩
 ·rcases h with h | h
  ·exact q a h
  ·obtain ⟨_,ys,e⟩:=ow a h.1
   rw [e]; simp
theorem cO {p:Addr}{h:Bool}{w:W}(ow:Own Z H G)(za:∀ a,Z a->H a≠none)(hl:xs.length<=LIM)(r:∃ G',(∀ a,G' a->G a)/\RepL K (cg Z G G') H m ts xs G')(hn:newL h m ts=some w)(k:Out K Z H G w Q)(hp:H p=none):Q (.ref p) (upd H p (.lst xs)):=by
 obtain ⟨G',hg,r⟩:=r
 unfold newL at hn
 split at hn
 ·split at hn
  ·rename_i hlv
   cases hn
   refine bB (m:=.d) (G':=no) ow za (fun _ z=>z.elim) hl ?_ (by simp) k hp
   exact r.leaves (fun _ _ _ e=>e) hlv
  ·cases hn
 ·cases hn
  exact bB (m:=m.up) ow za hg hl (by rw [eC]; exact r) (c9 m) k hp
end
end
end MR
namespace MR
open L2 L3 M
open PySem (Addr Str sizeLine)
section
variable {K:a0a}{h:Bool}
theorem dw {α β:Type}{ws:List α}{x y:β}(e:ws.length=[x,y].length):∃ a b,ws=[a,b]:=by
 match ws,e with
 | [a,b],_=>exact ⟨a,b,rfl⟩
theorem B8 {α β:Type}{ws:List α}{x:β}(e:ws.length=[x].length):∃ a,ws=[a]:=by
 match ws,e with
 | [a],_=>exact ⟨a,rfl⟩
theorem bO {Z:Fp}{H:Hp}{G:Fp}{u w:W}{x y:V}(r:RepW K Z H [u,w] [x,y] G):∃ G1 G2,(∀ a,G1 a->G a)/\(∀ a,G2 a->G a)/\(∀ a,G1 a->¬ G2 a)/\Rep K Z H u.1 u.2 x G1/\Rep K Z H w.1 w.2 y G2:=by
 obtain ⟨x',r',G1,G2,e,h1,h2,d,p,y',r2,G3,G4,e2,h3,h4,d2,q,z⟩:=r
 cases e; cases e2
 exact ⟨G1,G3,h1,fun a ha=>h2 a (h3 a ha),fun a ha hb=>d a ha (h3 a hb),p,q⟩
theorem xE {Z:Fp}{H:Hp}{G:Fp}{w:W}{x:V}(r:RepW K Z H [w] [x] G):Rep K Z H w.1 w.2 x G:=by
 obtain ⟨x',r',G1,G2,e,h1,h2,d,p,z⟩:=r
 cases e
 exact p.mono h1
theorem bh {ws:List W}{xs:List V}{Z:Fp}{H:Hp}{G:Fp}{w:W}(hw:ws=[w])(r:RepW K Z H ws xs G):∃ x,xs=[x]/\Rep K Z H w.1 w.2 x G:=by
 subst hw
 obtain ⟨x,hx⟩:=B8 (x:=()) (show xs.length=[()].length from r.length)
 subst hx
 exact ⟨x,rfl,xE r⟩
theorem eu {n:Nat}(h:n<=LIM):n < sizeLine:=a1C h (by decide)
theorem bo {n:Nat}(h:n<=LIM):n<=sizeLine:=a1Z (eu h)
theorem bL {n:Nat}(h:fits n=true):n<=LIM:=of_decide_eq_true h
theorem oQ {o:Op}{C:Int->Int->Prop}{g:Int->Int->T}(inv:∀ {u v w:W},oSem o h [u,v]=some w->∃ m n i j,u=(m,.int i)/\v=(n,.int j)/\C i j/\w=(.d,g i j))(gv:Int->Int->V)(hg:∀ {Z:Fp} {H:Hp} {G:Fp} {Q:VK} {i j:Int},Out K Z H G (.d,g i j) Q->Q (gv i j) H) :
  Loc K 2 o h fun xs H Q=>∀ x y,xs=[x,y]->rI C gv x y H Q:=by
 intro ws w xs Z H G Q hn e r ow za k x y hx
 subst hx
 obtain ⟨u,v,rfl⟩:=dw r.length.symm
 obtain ⟨m,n,i,j,rfl,rfl,c,rfl⟩:=inv e
 obtain ⟨G1,G2,_,_,_,r1,r2⟩:=bO r
 exact ⟨i,j,r1,r2,c,hg k⟩
theorem iU {o:Op}{g:Int->Int->T}(inv:∀ {u v w:W},oSem o h [u,v]=some w->∃ m n i j,u=(m,.int i)/\v=(n,.int j)/\w=(.d,g i j))(gv:Int->Int->V)(hg:∀ {Z:Fp} {H:Hp} {G:Fp} {Q:VK} {i j:Int},Out K Z H G (.d,g i j) Q->Q (gv i j) H) :
  Loc K 2 o h fun xs H Q=>∀ x y,xs=[x,y]->rI0 gv x y H Q:=by
 intro ws w xs Z H G Q hn e r ow za k x y hx
 subst hx
 obtain ⟨u,v,rfl⟩:=dw r.length.symm
 obtain ⟨m,n,i,j,rfl,rfl,rfl⟩:=inv e
 obtain ⟨G1,G2,_,_,_,r1,r2⟩:=bO r
 exact ⟨i,j,r1,r2,hg k⟩
theorem xc {u v w:W}(e:oSem .sub h [u,v]=some w):∃ m n i j,u=(m,.int i)/\v=(n,.int j)/\w=(.d,.int (i-j)):=by
 obtain ⟨m,a⟩:=u; obtain ⟨n,b⟩:=v
 cases a<;>first | (cases e; done) | (cases b<;>first | (cases e; exact ⟨_,_,_,_,rfl,rfl,rfl⟩) | cases e)
theorem fj {u v w:W}(e:oSem .lt h [u,v]=some w):∃ m n i j,u=(m,.int i)/\v=(n,.int j)/\w=(.d,.bl (decide (i < j))):=by
 obtain ⟨m,a⟩:=u; obtain ⟨n,b⟩:=v
 cases a<;>first | (cases e; done) | (cases b<;>first | (cases e; exact ⟨_,_,_,_,rfl,rfl,rfl⟩) | cases e)
theorem lx {u v w:W}(e:oSem .le h [u,v]=some w):∃ m n i j,u=(m,.int i)/\v=(n,.int j)/\w=(.d,.bl (decide (i<=j))):=by
 obtain ⟨m,a⟩:=u; obtain ⟨n,b⟩:=v
 cases a<;>first | (cases e; done) | (cases b<;>first | (cases e; exact ⟨_,_,_,_,rfl,rfl,rfl⟩) | cases e)
theorem pT {u v w:W}(e:oSem .gt h [u,v]=some w):∃ m n i j,u=(m,.int i)/\v=(n,.int j)/\w=(.d,.bl (decide (j < i))):=by
 obtain ⟨m,a⟩:=u; obtain ⟨n,b⟩:=v
 cases a<;>first | (cases e; done) | (cases b<;>first | (cases e; exact ⟨_,_,_,_,rfl,rfl,rfl⟩) | cases e)
theorem pe {u v w:W}(e:oSem .ge h [u,v]=some w):∃ m n i j,u=(m,.int i)/\v=(n,.int j)/\w=(.d,.bl (decide (j<=i))):=by
 obtain ⟨m,a⟩:=u; obtain ⟨n,b⟩:=v
 cases a<;>first | (cases e; done) | (cases b<;>first | (cases e; exact ⟨_,_,_,_,rfl,rfl,rfl⟩) | cases e)
theorem qL {u v w:W}(e:oSem .fdiv h [u,v]=some w):∃ m n i j,u=(m,.int i)/\v=(n,.int j)/\yN i j/\w=(.d,.int (i / j)):=by
 obtain ⟨m,a⟩:=u; obtain ⟨n,b⟩:=v
 cases a<;>first | (cases e; done) | (cases b<;>try (cases e; done))
 rename_i i j
 rw [qY] at e
 split at e
 ·rename_i hc
  rw [a0j,decide_eq_true_eq,decide_eq_true_eq] at hc
  cases e
  exact ⟨_,_,_,_,rfl,rfl,hc,rfl⟩
 ·cases e
theorem uN {u v w:W}(e:oSem .mod h [u,v]=some w):∃ m n i j,u=(m,.int i)/\v=(n,.int j)/\(0 < j)/\w=(.d,.int (i % j)):=by
 obtain ⟨m,a⟩:=u; obtain ⟨n,b⟩:=v
 cases a<;>first | (cases e; done) | (cases b<;>try (cases e; done))
 rename_i i j
 rw [xK] at e
 split at e
 ·rename_i hc
  rw [decide_eq_true_eq] at hc
  cases e
  exact ⟨_,_,_,_,rfl,rfl,hc,rfl⟩
 ·cases e
theorem t6 {u v w:W}(e:oSem .pow h [u,v]=some w):∃ m n i j,u=(m,.int i)/\v=(n,.int j)/\zi i j/\w=(.d,.int (i ^ j.toNat)):=by
 obtain ⟨m,a⟩:=u; obtain ⟨n,b⟩:=v
 cases a<;>first | (cases e; done) | (cases b<;>try (cases e; done))
 rename_i i j
 rw [BE] at e
 split at e
 ·rename_i hc
  rw [a0j,a0j,decide_eq_true_eq,decide_eq_true_eq,decide_eq_true_eq] at hc
  cases e
  exact ⟨_,_,_,_,rfl,rfl,⟨hc.1.1,hc.1.2,hc.2⟩,rfl⟩
 ·cases e
theorem vD:Loc K 2 .sub h fun xs H Q=>∀ x y,xs=[x,y]->rI0 (fun i j=>.int (i-j)) x y H Q:=iU xc _ fun k=>aB k
theorem yn:Loc K 2 .lt h fun xs H Q=>∀ x y,xs=[x,y]->rI0 (fun i j=>.bl (decide (i < j))) x y H Q:=iU fj _ fun k=>bY k
theorem qX:Loc K 2 .gt h fun xs H Q=>∀ x y,xs=[x,y]->rI0 (fun i j=>.bl (decide (j < i))) x y H Q:=iU pT _ fun k=>bY k
theorem Bl:Loc K 2 .ge h fun xs H Q=>∀ x y,xs=[x,y]->rI0 (fun i j=>.bl (decide (j<=i))) x y H Q:=iU pe _ fun k=>bY k
theorem oX:Loc K 2 .fdiv h fun xs H Q=>∀ x y,xs=[x,y]->rI yN (fun i j=>.int (i / j)) x y H Q:=oQ qL _ fun k=>aB k
theorem vT:Loc K 2 .mod h fun xs H Q=>∀ x y,xs=[x,y]->rI (fun _ j=>0 < j) (fun i j=>.int (i % j)) x y H Q:=oQ uN _ fun k=>aB k
theorem wO:Loc K 2 .pow h fun xs H Q=>∀ x y,xs=[x,y]->rI zi (fun i j=>.int (i ^ j.toNat)) x y H Q:=oQ t6 _ fun k=>aB k
theorem vj:Loc K 1 .neg h fun xs H Q=>∀ x,xs=[x]->rU (fun i=>.int (-i)) x H Q:=by
 intro ws w xs Z H G Q hn e r ow za k x hx
 subst hx
 obtain ⟨⟨m,a⟩,rfl⟩:=B8 r.length.symm
 cases a<;>first | (cases e; exact ⟨_,xE r,aB k⟩) | cases e
theorem a8 {Z:Fp}{H:Hp}{G:Fp}{m:Md}{ts:List T}{v:V}(r:Rep K Z H m (.lst ts) v G):∃ a xs,v=.ref a/\H a=some (.lst xs)/\xs.length<=LIM/\RepL K Z H m.kid ts xs G:=by
 obtain ⟨a,xs,e,l,q,p⟩:=r
 exact ⟨a,xs,e,by cases m<;>exact q.2,l,p.mono fun _ z=>z.1⟩
theorem cy {Z:Fp}{H:Hp}{G:Fp}{m:Md}{ts:List T}{v:V}(r:Rep K Z H m (.tup ts) v G):∃ a xs,v=.ref a/\SqT K H a xs/\xs.length<=LIM/\RepL K Z H m.kid ts xs G:=r
theorem jJ {Z:Fp}{H:Hp}{G G1 G2:Fp}{m n:Md}{ts us:List T}{xs ys:List V}(w1:∀ a,G1 a->G a)(w2:∀ a,G2 a->G a)(d:∀ a,G1 a->¬ G2 a)(r1:RepL K Z H m ts xs G1)(r2:RepL K Z H n us ys G2) :
  ∃ G',(∀ a,G' a->G a)/\RepL K (cg Z G G') H (m.meet n) (ts++us) (xs++ys) G':=by
 obtain ⟨A,a1,a2⟩:=RepL.weak (cx m n).1 r1
 obtain ⟨B,b1,b2⟩:=RepL.weak (cx m n).2 r2
 refine ⟨fun b=>A b\/B b,fun b hb=>hb.elim (fun z=>w1 b (a1 b z)) fun z=>w2 b (b1 b z),RepL.append (fun _ z=>.inl z) (fun _ z=>.inr z) (fun b za zb=>d b (a1 b za) (b1 b zb)) (a2.zmono fun b hb=>?_) (b2.zmono fun b hb=>?_)⟩
 ·exact hb.imp id fun z=>⟨w1 b z.1,fun q=>q.elim z.2 fun w=>d b z.1 (b1 b w)⟩
 ·exact hb.imp id fun z=>⟨w2 b z.1,fun q=>q.elim (fun w=>d b (a1 b w) z.1) z.2⟩
theorem bW {p q:Str}(h1:sOk p=true)(h2:sOk q=true)(hl:p.cps.size+q.cps.size<=LIM):sOk (p++q)=true:=by
 unfold sOk at *
 rw [a0j] at *
 refine ⟨?_,decide_eq_true ?_⟩
 ·show Array.all (p.cps++q.cps) _=true
  rw [Array.all_append,a0j]
  exact ⟨h1.1,h2.1⟩
 ·show (p.cps++q.cps).size<=LIM
  rw [a2Z]
  exact hl
theorem xa (rT:R2)(hT:∀ {Z:Fp} {H:Hp} {G:Fp} {Q:VK} {a b:Addr} {xs ys:List V} {ts:List T},SqT K H a xs->SqT K H b ys->xs≠[]->xs.length+ys.length<=LIM->Own Z H G->(∃ G',(∀ a,G' a->G a)/\RepL K (cg Z G G') H .s ts (xs++ys) G')->Out K Z H G (.s,.tup ts) Q->rT (.ref a) (.ref b) H Q) :
  Loc K 2 .add h fun xs H Q=>∀ x y,xs=[x,y]->rI0 (fun i j=>.int (i+j)) x y H Q\/(∃ i j,x=.str i/\y=.str j/\i.length+j.length<=sizeLine/\Q (.str (i++j)) H)\/BR x y H Q\/rT x y H Q:=by
 intro ws w xs Z H G Q hn e r ow za k x y hx
 subst hx
 obtain ⟨⟨m,a⟩,⟨n,b⟩,rfl⟩:=dw r.length.symm
 obtain ⟨G1,G2,w1,w2,d,r1,r2⟩:=bO r
 cases a<;>first | (cases e; done) | (cases b<;>try (cases e; done))
 ·cases e
  exact .inl ⟨_,_,r1,r2,aB k⟩
 ·rename_i p q
  rw [qe] at e
  split at e
  ·rename_i hf
   cases e
   refine .inr (.inl ⟨p,q,r1.1,r2.1,bo (bL hf),hW k ?_⟩)
   exact bW r1.2 r2.2 (bL hf)
  ·cases e
 ·rename_i ts us
  rw [sL] at e
  split at e
  ·rename_i hf
   cases e
   rw [a0j] at hf
   obtain ⟨a,xs,rfl,hs,hl,p⟩:=cy r1
   obtain ⟨b,ys,rfl,hs2,hl2,p2⟩:=cy r2
   have hlen:=bL hf.1
   have e1:=p.length
   have e2:=p2.length
   refine .inr (.inr (.inr (hT hs hs2 ?_ (by omega) ow ?_ k)))
   ·rintro rfl
    cases ts with
    | nil=>simp at hf
    | cons _ _=>simp at e1
   ·refine ⟨no,fun _ z=>z.elim,RepL.append (G1:=no) (G2:=no) (fun _ z=>z) (fun _ z=>z) (fun _ z _=>z) ((RepL.sh p).zmono fun b hb=>?_) ((RepL.sh p2).zmono fun b hb=>?_)⟩
    ·exact hb.imp id fun z=>⟨w1 b z,fun q=>q⟩
    ·exact hb.imp id fun z=>⟨w2 b z,fun q=>q⟩
  ·cases e
 ·rename_i ts us
  rw [qE] at e
  split at e
  ·rename_i hf
   obtain ⟨a,xs,rfl,hs,hl,p⟩:=a8 r1
   obtain ⟨b,ys,rfl,hs2,hl2,p2⟩:=a8 r2
   have hlen:=bL hf
   have e1:=p.length
   have e2:=p2.length
   have hl3:(xs++ys).length<=LIM:=by rw [a0l]; omega
   refine .inr (.inr (.inl ⟨a,b,xs,ys,rfl,rfl,hs,hs2,bo (by omega),fun q hq=>?_⟩))
   exact cO ow za hl3 (jJ w1 w2 d p p2) e k hq
  ·cases e
theorem vb:Loc K 2 .mul h fun xs H Q=>∀ x y,xs=[x,y]->rI CMul (fun i j=>.int (i * j)) x y H Q\/Ee x y H Q:=by
 intro ws w xs Z H G Q hn e r ow za k x y hx
 subst hx
 obtain ⟨⟨m,a⟩,⟨n,b⟩,rfl⟩:=dw r.length.symm
 obtain ⟨G1,G2,w1,w2,d,r1,r2⟩:=bO r
 cases a<;>first | (cases e; done) | (cases b<;>try (cases e; done))
 ·rename_i i j
  rw [sC] at e
  split at e
  ·rename_i hc
   cases e
   refine .inl ⟨i,j,r1,r2,?_,aB k⟩
   rw [a3n,decide_eq_true_eq,decide_eq_true_eq] at hc
   have h64:(2:Int) ^ 64=18446744073709551616:=by decide
   unfold CMul
   rw [h64]
   omega
  ·cases e
 ·rename_i ts j
  have e':(if decide (j.natAbs < 4611686018427387904)&&fits (ts.length * j.toNat) then newL h .s (a0i j.toNat ts).flatten else none)=some w:=e
  split at e'
  ·rename_i hc
   rw [a0j,decide_eq_true_eq] at hc
   obtain ⟨a,xs,rfl,hs,hl,p⟩:=a8 r1
   have hlen:=bL hc.2
   have e1:=p.length
   have hl3:((a0i j.toNat xs).flatten).length<=LIM:=by
    rw [List.length_flatten,a1D,List.sum_replicate_nat,e1,a3G]; exact hlen
   refine .inr ⟨a,j,xs,rfl,r2,hs,by omega,by omega,bo (by rw [e1]; exact hlen),fun q hq=>?_⟩
   refine cO ow za hl3 ⟨no,fun _ z=>z.elim,?_⟩ e' k hq
   have ps:=(RepL.sh p).zmono (Z':=cg Z G no) fun b hb=>hb.imp id fun z=>⟨w1 b z,fun q=>q⟩
   generalize j.toNat=c
   induction c with
   | zero=>exact rfl
   | succ c ih=>exact RepL.append (fun _ z=>z) (fun _ z=>z) (fun _ z _=>z) ps ih
  ·cases e'
theorem rF {Z:Fp}{H:Hp}{G:Fp}{m:Md}{ts:List T}{xs:List V}{i:Int}{t:T}(p:RepL K Z H m ts xs G)(e:M.atI ts i=some t):∃ x,L2.atI xs i=some x/\Rep K Z H m t x G:=by
 unfold M.atI at e
 have hn:M.ixN ts.length i=L2.ixN xs.length i:=by rw [p.length]; rfl
 cases e1:M.ixN ts.length i with
 | none=>rw [e1] at e; cases e
 | some j =>
  rw [e1] at e
  obtain ⟨x,hx,r⟩:=p.get (show ts[j]?=some t from e)
  refine ⟨x,?_,r⟩
  unfold L2.atI
  rw [<- hn,e1]
  exact hx
theorem tw {x:Str}{c:Nat}(h:sOk x=true)(hc:c∈x.cps.toList):sOk ⟨#[c]⟩=true:=by
 unfold sOk at *
 rw [a0j] at *
 refine ⟨?_,rfl⟩
 have h1:=h.1
 rw [a11] at h1
 have h2:=h1 c (Array.mem_def.mpr hc)
 rw [a11]
 intro y hy
 have:y=c:=by simpa using hy
 rw [this]; exact h2
theorem iq {x:Str}(h:sOk x=true):x.cps.size<=LIM:=by
 unfold sOk at h
 rw [a0j,decide_eq_true_eq] at h
 exact h.2
theorem yz:Loc K 2 .ix h fun xs H Q=>∀ x y,xs=[x,y]->(∃ p xs i v,x=.ref p/\y=.int i/\(SqL K H p xs\/SqT K H p xs)/\L2.atI xs i=some v/\Q v H)\/(∃ z i c,x=.str z/\y=.int i/\z.length<=sizeLine/\L2.atI z.cps.toList i=some c/\Q (.str ⟨#[c]⟩) H):=by
 intro ws w xs Z H G Q hn e r ow za k x y hx
 subst hx
 obtain ⟨⟨m,a⟩,⟨n,b⟩,rfl⟩:=dw r.length.symm
 obtain ⟨G1,G2,w1,w2,d,r1,r2⟩:=bO r
 cases b with
 | int i =>
  cases a with
  | lst ts =>
   obtain ⟨a,xs,rfl,hs,hl,p⟩:=a8 r1
   have e':(M.atI ts i).map (fun t=>(m.kid,t))=some w:=e
   cases e1:M.atI ts i with
   | none=>rw [e1] at e'; cases e'
   | some t =>
    rw [e1] at e'; cases e'
    obtain ⟨v,hv,rv⟩:=rF p e1
    exact .inl ⟨a,xs,i,v,rfl,r2,.inl (.inl (.inl hs)),hv,dX ow k (rv.mono w1)⟩
  | tup ts =>
   obtain ⟨a,xs,rfl,hs,hl,p⟩:=cy r1
   have e':(M.atI ts i).map (fun t=>(m.kid,t))=some w:=e
   cases e1:M.atI ts i with
   | none=>rw [e1] at e'; cases e'
   | some t =>
    rw [e1] at e'; cases e'
    obtain ⟨v,hv,rv⟩:=rF p e1
    exact .inl ⟨a,xs,i,v,rfl,r2,.inr hs,hv,dX ow k (rv.mono w1)⟩
  | str z =>
   have e':(M.atI z.cps.toList i).map (fun c=>((.d,.str ⟨#[c]⟩):W))=some w:=e
   cases e1:M.atI z.cps.toList i with
   | none=>rw [e1] at e'; cases e'
   | some c =>
    rw [e1] at e'; cases e'
    refine .inr ⟨z,i,c,r1.1,r2,bo (iq r1.2),e1,hW k (tw r1.2 ?_)⟩
    unfold M.atI at e1
    cases e2:M.ixN z.cps.toList.length i with
    | none=>rw [e2] at e1; cases e1
    | some j=>rw [e2] at e1; exact a0J e1
  | scr ns =>
   obtain ⟨a,rfl,hL,hs⟩:=r1
   have e':(M.atI ns i).map (fun n=>((.d,.int n):W))=some w:=e
   cases e1:M.atI ns i with
   | none=>rw [e1] at e'; cases e'
   | some n =>
    rw [e1] at e'; cases e'
    refine .inl ⟨a,_,i,.int n,rfl,r2,.inl hs.sq,?_,aB k⟩
    unfold M.atI at e1
    unfold L2.atI
    rw [a0b]
    cases e2:M.ixN ns.length i with
    | none=>rw [e2] at e1; cases e1
    | some j =>
     rw [e2] at e1
     rw [show L2.ixN ns.length i=some j from e2]
     show (ns.map V.int)[j]?=_
     rw [a0s,show ns[j]?=some n from e1]
     rfl
  | _=>cases e
 | _=>cases a<;>cases e
theorem u6:Loc K 1 .len h fun xs H Q=>∃ x n,xs=[x]/\(match x with
  | .str y=>y.length<=sizeLine/\n=y.length
  | .byt y=>y.size<=sizeLine/\n=y.size
  | .ref p=>(∃ xs,SqL K H p xs/\n=xs.length)\/∃ xs,SqT K H p xs/\n=xs.length
  | _=>False)/\Q (.int (n:Nat)) H:=by
 intro ws w xs Z H G Q hn e r ow za k
 match ws,hn with
 | [(m,a)],_ =>
  obtain ⟨x,rfl,r1⟩:=bh rfl r
  cases a with
  | lst ts =>
   obtain ⟨a,xs,hx,hs,hl,p⟩:=a8 r1
   cases e
   refine ⟨x,ts.length,rfl,?_,aB k⟩
   rw [show x=.ref a from hx]
   exact .inl ⟨xs,.inl (.inl hs),p.length.symm⟩
  | tup ts =>
   obtain ⟨a,xs,hx,hs,hl,p⟩:=cy r1
   cases e
   refine ⟨x,ts.length,rfl,?_,aB k⟩
   rw [show x=.ref a from hx]
   exact .inr ⟨xs,hs,p.length.symm⟩
  | str z =>
   cases e
   refine ⟨x,z.length,rfl,?_,aB k⟩
   rw [show x=.str z from r1.1]
   exact ⟨bo (iq r1.2),rfl⟩
  | scr ns =>
   obtain ⟨a,hx,hL,hs⟩:=r1
   cases e
   refine ⟨x,ns.length,rfl,?_,aB k⟩
   rw [show x=.ref a from hx]
   exact .inl ⟨_,hs.sq,by rw [a0b]⟩
  | _=>cases e
theorem fW {Z:Fp}{H:Hp}{G:Fp}{m:Md}:∀ ns:List Int,RepL K Z H m (ns.map T.int) (ns.map V.int) G
 | []=>rfl
 | n::ns=>⟨.int n,ns.map V.int,no,no,rfl,fun _ z=>z.elim,fun _ z=>z.elim,fun _ z=>z.elim,rfl,fW ns⟩
theorem p6:Loc K 1 .list h fun xs H Q=>∃ p ys,xs=[.ref p]/\(SqL K H p ys\/SqT K H p ys)/\∀ l,H l=none->Q (.ref l) (upd H l (.lst ys)):=by
 intro ws w xs Z H G Q hn e r ow za k
 match ws,hn with
 | [(m,a)],_ =>
  obtain ⟨x,rfl,r1⟩:=bh rfl r
  cases a with
  | lst ts =>
   obtain ⟨a,xs,hx,hs,hl,p⟩:=a8 r1
   refine ⟨a,xs,by rw [hx],.inl (.inl (.inl hs)),fun q hq=>cO ow za hl ⟨G,fun _ z=>z,p.zmono fun _ z=>.inl z⟩ e k hq⟩
  | tup ts =>
   obtain ⟨a,xs,hx,hs,hl,p⟩:=cy r1
   refine ⟨a,xs,by rw [hx],.inr hs,fun q hq=>cO ow za hl ⟨G,fun _ z=>z,p.zmono fun _ z=>.inl z⟩ e k hq⟩
  | scr ns =>
   obtain ⟨a,hx,hL,hs⟩:=r1
   cases e
   refine ⟨a,_,by rw [hx],.inl hs.sq,fun q hq=>bB (G':=no) ow za (fun _ z=>z.elim) (by rw [a0b]; exact hL) (fW ns) (by simp) k hq⟩
  | _=>cases e
theorem dI {Z:Fp}{H:Hp}{G:Fp}{m:Md}:∀ {ts:List T} {ns:List Int} {xs:List V},intsOf ts=some ns->RepL K Z H m ts xs G->xs=ns.map V.int:=by
 intro ts
 induction ts generalizing G with
 | nil=>intro ns xs e r; cases e; exact r
 | cons t ts ih =>
  intro ns xs e r
  obtain ⟨x,r',G1,G2,rfl,_,_,_,p,q⟩:=r
  cases t with
  | int i =>
   cases e1:intsOf ts with
   | none=>simp [intsOf,e1] at e
   | some ms =>
    have:ns=i::ms:=by simpa [intsOf,e1] using e.symm
    subst this
    rw [a0w,<- ih e1 q,show x=.int i from p]
  | _=>cases e
theorem og {Z:Fp}{H:Hp}{G:Fp}{m:Md}:∀ {ts:List T} {ns:List Bool} {xs:List V},aZ ts=some ns->RepL K Z H m ts xs G->xs=ns.map V.bl:=by
 intro ts
 induction ts generalizing G with
 | nil=>intro ns xs e r; cases e; exact r
 | cons t ts ih =>
  intro ns xs e r
  obtain ⟨x,r',G1,G2,rfl,_,_,_,p,q⟩:=r
  cases t with
  | bl i =>
   cases e1:aZ ts with
   | none=>simp [aZ,e1] at e
   | some ms =>
    have:ns=i::ms:=by simpa [aZ,e1] using e.symm
    subst this
    rw [a0w,<- ih e1 q,show x=.bl i from p]
  | _=>cases e
theorem tM:Loc K 1 .sum h fun xs H Q=>∃ (a:Addr) (ns:List Int),xs=[.ref a]/\SqL K H a (ns.map V.int)/\Q (.int ns.sum) H:=by
 intro ws w xs Z H G Q hn e r ow za k
 match ws,hn with
 | [(m,a)],_ =>
  obtain ⟨x,rfl,r1⟩:=bh rfl r
  cases a with
  | lst ts =>
   obtain ⟨a,xs,hx,hs,hl,p⟩:=a8 r1
   have e':(intsOf ts).map (fun ns=>((.d,.int ns.sum):W))=some w:=e
   cases e1:intsOf ts with
   | none=>rw [e1] at e'; cases e'
   | some ns =>
    rw [e1] at e'; cases e'
    rw [dI e1 p] at hs
    exact ⟨a,ns,by rw [hx],.inl (.inl hs),aB k⟩
  | _=>cases e
theorem u5:Loc K 1 .all h fun xs H Q=>∃ (a:Addr) (bs:List Bool),xs=[.ref a]/\SqL K H a (bs.map V.bl)/\Q (.bl (bs.all id)) H:=by
 intro ws w xs Z H G Q hn e r ow za k
 match ws,hn with
 | [(m,a)],_ =>
  obtain ⟨x,rfl,r1⟩:=bh rfl r
  cases a with
  | lst ts =>
   obtain ⟨a,xs,hx,hs,hl,p⟩:=a8 r1
   have e':(aZ ts).map (fun ns=>((.d,.bl (ns.all id)):W))=some w:=e
   cases e1:aZ ts with
   | none=>rw [e1] at e'; cases e'
   | some ns =>
    rw [e1] at e'; cases e'
    rw [og e1 p] at hs
    exact ⟨a,ns,by rw [hx],.inl (.inl hs),bY k⟩
  | _=>cases e
theorem wN:Loc K 2 .max h fun xs H Q=>∃ i j,xs=[.int i,.int j]/\Q (.int (if j > i then j else i)) H:=by
 intro ws w xs Z H G Q hn e r ow za k
 match ws,hn with
 | [(m,a),(n,b)],_ =>
  obtain ⟨x,y,hx⟩:∃ x y,xs=[x,y]:=dw (x:=()) (y:=()) (show xs.length=[(),()].length from r.length)
  subst hx
  obtain ⟨G1,G2,_,_,_,r1,r2⟩:=bO r
  cases a<;>first | (cases e; done) | (cases b<;>first | (cases e; exact ⟨_,_,by rw [show x=_ from r1,show y=_ from r2],aB k⟩) | cases e)
end
end MR
namespace MR
open L2 L3 M
open PySem (Addr Str sizeLine)
section
variable {K:a0a}{sl:Cf}{sf:Nat->Option Nat}{C:Call}{σ:L2.St}{Z Z' Z1:Fp}{H H' H1:Hp}{Fs Fs' Fs1:Fps}{η η' η1:Env}{G G' R F:Fp}
mutual
theorem Rep.sany:∀ {t:T} {v:V} {G G':Fp},Rep K Z H .s t v G->Rep K Z H .s t v G'
 | .non,_,_,_,h=>h
 | .bl _,_,_,_,h=>h
 | .int _,_,_,_,h=>h
 | .str _,_,_,_,h=>h
 | .scr _,_,_,_,h=>h
 | .tup ts,_,_,_,⟨a,xs,e,q,l,r⟩=>⟨a,xs,e,q,l,RepL.sany r⟩
 | .lst ts,_,_,_,⟨a,xs,e,l,q,r⟩=>⟨a,xs,e,l,q,RepL.sany r⟩
 | .dct _ _,_,_,_,⟨a,xs,e,l,q,n,hl,r⟩=>⟨a,xs,e,l,q,n,hl,r⟩
 | .ins _ _ _,_,_,_,h=>h.elim
 | .gone,_,_,_,h=>h
theorem RepL.sany:∀ {ts:List T} {xs:List V} {G G':Fp},RepL K Z H .s ts xs G->RepL K Z H .s ts xs G'
 | [],_,_,_,h=>h
 | t::ts,xs,_,_,⟨x,r,G1,G2,e,h1,h2,hd,p,q⟩=>⟨x,r,no,no,e,fun _ z=>z.elim,fun _ z=>z.elim,fun _ z=>z.elim,Rep.sany p,RepL.sany q⟩
end
theorem a7:∀ (η:Env) (i j:Nat) (o:Option W),rd (wr η i o) j=if j=i/\i < η.length then o else rd η j
 | [],i,j,o=>by simp [wr,rd]
 | p::η,0,0,o=>by simp [wr,rd]
 | p::η,0,j+1,o=>by simp [wr,rd]
 | p::η,i+1,0,o=>by simp [wr,rd]
 | p::η,i+1,j+1,o=>by
  show rd (wr η i o) j=_
  rw [a7 η i j o]
  simp [rd]
theorem cH:∀ {η:Env} {i:Nat} {w:W},rd η i=some w->i < η.length
 | [],_,_,h=>by cases h
 | _::_,0,_,_=>by simp
 | _::η,i+1,_,h=>by have:=cH (η:=η) (i:=i) h; simp; exact this
theorem ei (h:∀ a,F a->G a):Step Z H G Z H F:=(Step.refl Z H G).mono (fun _ z=>z) h
theorem yi {i j:Nat}(hs:sf i=some j)(σ:L2.St)(H:Hp)(Q:VK)(h:wE K sf C (.var i) σ H Q):iN j σ H Q:=by
 obtain ⟨pv,Z,Fs,η,w,η',A,ev,k⟩:=h
 obtain ⟨w',e1,e2⟩:=aq (show ret η ((rd η i).bind look)=_ from ev)
 cases e2
 cases e3:rd η i with
 | none=>rw [e3] at e1; cases e1
 | some u =>
  rw [e3] at e1
  obtain ⟨m,t⟩:=u
  obtain ⟨v,r,hv⟩:=A.env i m t e3
  refine ⟨v,hv.1 j hs,k v Z H Fs no A ?_ (ei fun a ha=>ha.elim id fun z=>z.elim)⟩
  cases m with
  | s=>cases e1; exact r.sany
  | d =>
   have e1':(if t.leaf=true then some (Md.d,t) else none)=some w:=e1
   split at e1'
   ·rename_i hl; cases e1'; exact r.leaf (fun _ _ _ q=>q) hl
   ·cases e1'
  | o m =>
   have e1':(if t.leaf=true then some (Md.d,t) else none)=some w:=e1
   split at e1'
   ·rename_i hl; cases e1'; exact r.leaf (fun _ _ _ q=>q) hl
   ·cases e1'
noncomputable def iD (Fs:Fps)(i:Nat):Fps:=fun j a=>j≠i/\Fs j a
theorem AM {e:E}{i j:Nat}(he:∀ η,evE C e η=ret (del η i) (rd η i))(hs:sf i=some j)(σ:L2.St)(H:Hp)(Q:VK)(h:wE K sf C e σ H Q):iN j σ H Q:=by
 obtain ⟨pv,Z,Fs,η,w,η',A,ev,k⟩:=h
 rw [he] at ev
 obtain ⟨w',e1,e2⟩:=aq ev
 cases e2
 obtain ⟨m,t⟩:=w
 obtain ⟨v,r,hv⟩:=A.env i m t e1
 refine ⟨v,hv.1 j hs,k v Z H (iD Fs i) (Fs i) ⟨⟨fun a ⟨l,h1,h2⟩=>A.gd.own a ⟨l,h2⟩,fun l l' a h1 h2=>A.gd.dis l l' a h1.2 h2.2,A.gd.zal⟩,fun l m' t' e=>?_,fun a ha=>A.gd.own a ⟨i,ha⟩,fun a ha ⟨l,h1,h2⟩=>h1 (A.gd.dis l i a h2 ha),A.lk,A.ln⟩ r (ei fun a ha=>ha.elim (fun ⟨l,h1,h2⟩=>⟨l,h2⟩) fun z=>⟨i,z⟩)⟩
 rw [a7] at e
 split at e
 ·cases e
 ·rename_i hne
  obtain ⟨v',r',hv'⟩:=A.env l m' t' e
  have hli:l≠i:=fun z=>hne ⟨z,cH e1⟩
  exact ⟨v',r'.mono fun a ha=>⟨hli,ha⟩,hv'⟩
theorem ij {t:T}{v:V}(hv:∀ {Z:Fp} {H:Hp},Rep K Z H .d t v no)(σ:L2.St)(H:Hp)(Q:VK)(h:wE K sf C (.cst t) σ H Q):tC v σ H Q:=by
 obtain ⟨pv,Z,Fs,η,w,η',A,ev,k⟩:=h
 cases ev
 exact k v Z H Fs no A hv (ei fun a ha=>ha.elim id fun z=>z.elim)
theorem zE {es:List E}(hn:es.length<=LIM)(σ:L2.St)(H:Hp)(Q:VK)(h:wE K sf C (.tup es) σ H Q):Bs (wL K sf C es) σ H Q:=by
 obtain ⟨pv,Z,Fs,η,w,η',A,ev,k⟩:=h
 obtain ⟨⟨ws,η1⟩,h1,h2⟩:=aa (show (evL C es η).bind kD=_ from ev)
 cases h2
 refine ⟨pv,Z,Fs,η,ws,_,A,h1,fun vs Z' H' Fs' G B r s=>?_⟩
 have hl:vs.length<=LIM:=by rw [r.length,eX h1]; exact hn
 obtain ⟨G',g1,g2⟩:=RepW.to (fun u hu=>fu hu) r
 refine ⟨bo hl,fun p hp=>lT (m:=(fR ws).up) B.own g1 hl (by rw [eC]; exact g2) (bP B s k) hp⟩
theorem An {b:Bool}{es:List E}(hn:es.length<=LIM)(σ:L2.St)(H:Hp)(Q:VK)(h:wE K sf C (.lst b es) σ H Q):BF (wL K sf C es) σ H Q:=by
 obtain ⟨pv,Z,Fs,η,w,η',A,ev,k⟩:=h
 obtain ⟨⟨ws,η1⟩,h1,h2⟩:=aa (show (evL C es η).bind (rP b)=_ from ev)
 cases h2
 refine ⟨pv,Z,Fs,η,ws,_,A,h1,fun vs Z' H' Fs' G B r s=>?_⟩
 have hl:vs.length<=LIM:=by rw [r.length,eX h1]; exact hn
 refine ⟨bo hl,fun p hp=>?_⟩
 cases b with
 | true =>
  obtain ⟨G',g1,g2⟩:=RepW.to (fun u hu=>fu hu) r
  exact bB (m:=(fR ws).up) B.own B.gd.zal g1 hl (by rw [eC]; exact g2) (c9 _) (bP B s k) hp
 | false =>
  obtain ⟨G',g1,g2⟩:=RepW.to (N:=.s) (fun u hu=>by cases lf u.1 u.2<;>rfl) r
  exact bB (m:=.o .s) B.own B.gd.zal g1 hl g2 (by simp) (bP B s k) hp
noncomputable def wT (K:a0a)(sl:Nat->Option Nat)(C:Call)(e:E):TT:=fun σ H Q=>∃ pv Z Fs η w η' b,At K ⟨sl,pv⟩ σ Z H Fs η no/\evE C e η=.ok (w,η')/\truth w.2=some b /\
 ∀ Z' H' Fs',At K ⟨sl,pv⟩ σ Z' H' Fs' η' no->Step Z H (tot Fs) Z' H' (tot Fs')->Q b H'
noncomputable def TrV (K:a0a)(x:V)(H:Hp)(k:Bool):Prop :=
 match x with
 | .non=>k=false
 | .bl b=>k=b
 | .int i=>k=(i != 0)
 | .str y=>y.length<=sizeLine/\k=((y.length:Int) != 0)
 | .ref p=>(∃ xs,SqL K H p xs/\k=!xs.isEmpty)\/(∃ xs,SqT K H p xs/\k=!xs.isEmpty)
 | _=>False
theorem cS {α β:Type}{xs:List α}{ys:List β}(h:xs.length=ys.length):xs.isEmpty=ys.isEmpty:=by
 cases xs<;>cases ys<;>first | rfl | simp at h
theorem eF {m:Md}{t:T}{v:V}{b:Bool}(e:truth t=some b)(r:Rep K Z H m t v G):TrV K v H b:=by
 cases t with
 | non=>cases e; rw [show v=_ from r]; rfl
 | bl c=>cases e; rw [show v=_ from r]; rfl
 | int i=>cases e; rw [show v=_ from r]; rfl
 | str x =>
  cases e; rw [show v=_ from r.1]
  refine ⟨bo (iq r.2),?_⟩
  show (x.cps.size != 0)=(((x.cps.size:Nat):Int) != 0)
  cases x.cps.size with
  | zero=>rfl
  | succ n=>simp; omega
 | tup ts =>
  obtain ⟨a,xs,rfl,hs,hl,p⟩:=cy r
  cases e
  exact .inr ⟨xs,hs,by rw [cS p.length]⟩
 | lst ts =>
  obtain ⟨a,xs,rfl,hs,hl,p⟩:=a8 r
  cases e
  exact .inl ⟨xs,.inl (.inl hs),by rw [cS p.length]⟩
 | scr ns =>
  obtain ⟨a,rfl,hL,hs⟩:=r
  cases e
  exact .inl ⟨_,hs.sq,by rw [cS (a0b ..)]⟩
 | dct _ _=>cases e
 | ins _ _ _=>cases e
 | gone=>cases e
theorem jr {e:E}{w:W}{b:Bool}{Q:Bool->Hp->Prop}(A:At K sl σ Z H Fs η no)(ev:evE C e η=.ok (w,η'))(ht:truth w.2=some b)(k:∀ Z' H' Fs',At K sl σ Z' H' Fs' η' no->Step Z H (tot Fs) Z' H' (tot Fs')->Q b H'):wT K sl.sl C e σ H Q:=⟨sl.pv,Z,Fs,η,w,η',b,A,ev,ht,k⟩
theorem a6 {α:Type}{f g:Env->Res α}{p:W×Env}{r:α}(h:onT f g p=.ok r):∃ b,truth p.1.2=some b/\(if b=true then f p.2 else g p.2)=.ok r:=by
 unfold onT at h
 split at h
 ·rename_i e; exact ⟨true,e,h⟩
 ·rename_i e; exact ⟨false,e,h⟩
 ·cases h
theorem zS {e:E}(σ:L2.St)(H:Hp)(Q:Bool->Hp->Prop)(h:wT K sf C (.not e) σ H Q):Bq (wT K sf C e) σ H Q:=by
 obtain ⟨pv,Z,Fs,η,w,η',b,A,ev,ht,k⟩:=h
 obtain ⟨⟨u,η1⟩,h1,h2⟩:=aa (show (evE C e η).bind ng=_ from ev)
 obtain ⟨w',e1,e2⟩:=aq (show ret η1 ((truth u.2).map fun b=>((.d,.bl (!b)):W))=_ from h2)
 cases e2
 cases e3:truth u.2 with
 | none=>rw [e3] at e1; cases e1
 | some c =>
  rw [e3] at e1; cases e1
  have:b=!c:=by cases ht; rfl
  subst this
  exact jr A h1 e3 k
theorem Ac {a b:E}(σ:L2.St)(H:Hp)(Q:Bool->Hp->Prop)(h:wT K sf C (.and a b) σ H Q):BW (wT K sf C a) (wT K sf C b) σ H Q:=by
 obtain ⟨pv,Z,Fs,η,w,η',c,A,ev,ht,k⟩:=h
 obtain ⟨⟨u,η1⟩,h1,h2⟩:=aa (show (evE C a η).bind (mL (evE C b))=_ from ev)
 obtain ⟨d,h3,h4⟩:=a6 (show onT (evE C b) (okW u) (u,η1)=_ from h2)
 refine jr A h1 h3 fun Z1 H1 Fs1 A1 s1=>?_
 cases d with
 | true=>rw [if_pos rfl] at h4 ⊢; exact jr A1 h4 ht fun Z2 H2 Fs2 A2 s2=>k Z2 H2 Fs2 A2 (s1.trans s2)
 | false =>
  rw [if_neg a0f] at h4 ⊢
  cases h4
  cases (h3.symm.trans ht)
  exact k Z1 H1 Fs1 A1 s1
theorem C0 {a b:E}(σ:L2.St)(H:Hp)(Q:Bool->Hp->Prop)(h:wT K sf C (.or a b) σ H Q):tOr (wT K sf C a) (wT K sf C b) σ H Q:=by
 obtain ⟨pv,Z,Fs,η,w,η',c,A,ev,ht,k⟩:=h
 obtain ⟨⟨u,η1⟩,h1,h2⟩:=aa (show (evE C a η).bind (kOr (evE C b))=_ from ev)
 obtain ⟨d,h3,h4⟩:=a6 (show onT (okW u) (evE C b) (u,η1)=_ from h2)
 refine jr A h1 h3 fun Z1 H1 Fs1 A1 s1=>?_
 cases d with
 | false=>rw [if_neg a0f] at h4 ⊢; exact jr A1 h4 ht fun Z2 H2 Fs2 A2 s2=>k Z2 H2 Fs2 A2 (s1.trans s2)
 | true =>
  rw [if_pos rfl] at h4 ⊢
  cases h4
  cases (h3.symm.trans ht)
  exact k Z1 H1 Fs1 A1 s1
theorem zw {c a b:E}(σ:L2.St)(H:Hp)(Q:VK)(h:wE K sf C (.ifx c a b) σ H Q):tIf (wT K sf C c) (wE K sf C a) (wE K sf C b) σ H Q:=by
 obtain ⟨pv,Z,Fs,η,w,η',A,ev,k⟩:=h
 obtain ⟨⟨u,η1⟩,h1,h2⟩:=aa (show (evE C c η).bind (onT (evE C a) (evE C b))=_ from ev)
 obtain ⟨d,h3,h4⟩:=a6 h2
 refine jr A h1 h3 fun Z1 H1 Fs1 A1 s1=>?_
 cases d with
 | true=>rw [if_pos rfl] at h4 ⊢; exact ⟨pv,Z1,Fs1,η1,w,η',A1,h4,fun v Z' H' Fs' G B r s=>k v Z' H' Fs' G B r (s1.trans s)⟩
 | false=>rw [if_neg a0f] at h4 ⊢; exact ⟨pv,Z1,Fs1,η1,w,η',A1,h4,fun v Z' H' Fs' G B r s=>k v Z' H' Fs' G B r (s1.trans s)⟩
theorem yq {e:E}(σ:L2.St)(H:Hp)(Q:VK)(h:wE K sf C (.not e) σ H Q):wE K sf C e σ H fun x H1=>∃ k,TrV K x H1 k/\Q (.bl (!k)) H1:=by
 obtain ⟨pv,Z,Fs,η,w,η',A,ev,k⟩:=h
 obtain ⟨⟨u,η1⟩,h1,h2⟩:=aa (show (evE C e η).bind ng=_ from ev)
 obtain ⟨w',e1,e2⟩:=aq (show ret η1 ((truth u.2).map fun b=>((.d,.bl (!b)):W))=_ from h2)
 cases e2
 cases e3:truth u.2 with
 | none=>rw [e3] at e1; cases e1
 | some c =>
  rw [e3] at e1; cases e1
  exact ⟨pv,Z,Fs,η,u,_,A,h1,fun v Z' H' Fs' G B r s=>⟨c,eF e3 r,k _ Z' H' Fs' no B.bare rfl (s.mono (fun _ z=>z) fun a ha=>ha.elim .inl fun z=>z.elim)⟩⟩
theorem zY {a b:E}(σ:L2.St)(H:Hp)(Q:VK)(h:wE K sf C (.and a b) σ H Q):wE K sf C a σ H fun x H1=>∃ k,TrV K x H1 k/\if k=true then wE K sf C b σ H1 Q else Q x H1:=by
 obtain ⟨pv,Z,Fs,η,w,η',A,ev,k⟩:=h
 obtain ⟨⟨u,η1⟩,h1,h2⟩:=aa (show (evE C a η).bind (mL (evE C b))=_ from ev)
 obtain ⟨d,h3,h4⟩:=a6 (show onT (evE C b) (okW u) (u,η1)=_ from h2)
 refine ⟨pv,Z,Fs,η,u,η1,A,h1,fun v Z1 H1 Fs1 G B r s=>⟨d,eF h3 r,?_⟩⟩
 cases d with
 | true=>rw [if_pos rfl] at h4 ⊢; exact ⟨pv,Z1,Fs1,η1,w,η',B.bare,h4,fun v' Z' H' Fs' G' B' r' s'=>k v' Z' H' Fs' G' B' r' ((s.mono (fun _ z=>z) fun _ z=>.inl z).trans s')⟩
 | false =>
  rw [if_neg a0f] at h4 ⊢
  cases h4
  exact k v Z1 H1 Fs1 G B r s
end
end MR
namespace MR
open L2 L3 M
open PySem (Addr Str sizeLine)
section
variable {K:a0a}{sl:Cf}{sf:Nat->Option Nat}{C:Call}{σ:L2.St}{Z Z' Z1:Fp}{H H' H1:Hp}{Fs Fs' Fs1:Fps}{η η' η1:Env}{G G' R F:Fp}
structure Wk (K:a0a)(J:It)(Z:Fp)(H0:Hp)(ts:List (List W)):Prop where
 go:∀ H i,Stay Z H0 H->i < ts.length->J.go i H
 stop:∀ H i,Stay Z H0 H->ts.length<=i->J.stop i H
 len:ts.length<=LIM
noncomputable def nF (K:a0a)(J:It)(Z:Fp)(H0:Hp)(ts:List (List W)):Prop :=
 ∀ H i x H',Stay Z H0 H->i < ts.length->J.yld i H x H'->H'=H/\∃ w,ts[i]?=some [w]/\Rep K Z H w.1 w.2 x no
noncomputable def Fv (K:a0a)(J:It)(Z:Fp)(H0:Hp)(ts:List (List W)):Prop :=
 ∀ H i x H',Stay Z H0 H->i < ts.length->J.yld i H x H'->∃ p y z u w,x=.ref p/\(∀ b o,H b=some o->H' b=some o)/\SqT K H' p [y,z]/\ts[i]?=some [u,w]/\Rep K Z H u.1 u.2 y no/\Rep K Z H w.1 w.2 z no
theorem jb (same:∀ b o,H b=some o->H' b=some o):Stay Z H H':=by
 refine ⟨fun a o _ e=>same a o e,fun a ys e=>?_,fun a o u e=>same a _ e⟩
 rcases e with e | ⟨u,e⟩
 ·exact .inl (same a _ e)
 ·exact .inr ⟨u,same a _ e⟩
theorem fH (same:∀ a o,H a=some o->H' a=some o):Step Z H G Z H' G:=by
 have al:∀ a,H a≠none->H' a≠none:=fun a h=>by
  cases e:H a with
  | none=>exact absurd e h
  | some o=>rw [same a o e]; simp
 exact ⟨fun a o h _=>same a o h,fun _ h=>h,fun _ h=>.inl h,fun _ h=>.inl h,al,fun z a h=>al a (z a h)⟩
theorem pW {p:Addr}{o:HO}(hp:H p=none):∀ b u,H b=some u->upd H p o b=some u:=fun a u e=>by
 have:a≠p:=fun q=>by subst q; rw [hp] at e; cases e
 rw [ab this]; exact e
noncomputable def Yld (K:a0a)(J:It)(Z:Fp)(H0:Hp)(ts:List (List W)):Nat->Prop
 | 1=>nF K J Z H0 ts
 | 2=>Fv K J Z H0 ts
 | _=>False
noncomputable def wI (K:a0a)(sl:Nat->Option Nat)(C:Call)(n:Nat)(k:Ik)(src:List E):TI:=fun σ H R=>∃ pv Z Fs η ws η' ts,At K ⟨sl,pv⟩ σ Z H Fs η no/\evL C src η=.ok (ws,η')/\br k ws=some ts /\
 ∀ J Z' H' Fs',At K ⟨sl,pv⟩ σ Z' H' Fs' η' no->Step Z H (tot Fs) Z' H' (tot Fs')->Wk K J Z' H' ts->Yld K J Z' H' ts n->R J H'
theorem At.freeze (A:At K sl σ Z H Fs η G):At K sl σ (fun a=>Z a\/G a) H Fs η no:=by
 refine ⟨⟨fun a ha=>⟨fun z=>z.elim (A.gd.own a ha).1 fun q=>A.dis a q ha,(A.gd.own a ha).2⟩,A.gd.dis,fun a h=>h.elim (A.gd.zal a) fun q=>?_⟩,fun i m t e=>?_,bS,fun _ z=>z.elim,A.lk,A.ln⟩
 ·obtain ⟨_,xs,e⟩:=A.own a q
  rw [e]; simp
 ·obtain ⟨v,r,h⟩:=A.env i m t e
  exact ⟨v,r.zmono fun a h=>.inl h,h⟩
theorem aV (o:Own Z' H' G)(s:Step Z H F Z' H' (fun a=>F' a\/G a)):Step Z H F (fun a=>Z' a\/G a) H' F' where
 keep:=s.keep
 zm:=fun a h=>.inl (s.zm a h)
 zn:=fun a h=>h.elim (s.zn a) fun q=>.inr (s.fn a (.inr q))
 fn:=fun a h=>s.fn a (.inl h)
 al:=s.al
 za:=fun z a h=>h.elim (s.za z a) fun q=>by
  obtain ⟨_,xs,e⟩:=o a q
  rw [e]; simp
theorem cF {a:Addr}{xs:List V}{H0:Hp}(s:Stay Z H0 H)(hz:Z a)(h:H0 a=some (.lst xs)):SqL K H a xs:=.inl (.inl (s.1 a _ hz h))
theorem wu {a:Addr}{xs:List V}{ts:List T}(hL:xs.length<=LIM)(hz:Z a)(h:H a=some (.lst xs))(r:RepL K Z H .s ts xs no):Wk K (Itl K a) Z H (ts.map fun t=>[(.s,t)])/\nF K (Itl K a) Z H (ts.map fun t=>[(.s,t)]):=by
 have hl:=r.length
 refine ⟨⟨fun H' i s hi=>?_,fun H' i s hi=>?_,by rw [a0b]; omega⟩,fun H' i x H'' s hi y=>?_⟩
 ·rw [a0b] at hi
  exact ⟨xs,xs[i]'(by omega),cF s hz h,by simp⟩
 ·rw [a0b] at hi
  exact ⟨xs,cF s hz h,by omega⟩
 ·rw [a0b] at hi
  obtain ⟨rfl,y⟩:=y
  have hx:=y xs (cF s hz h)
  obtain ⟨x',hx',rx⟩:=r.get (show ts[i]?=some ts[i] by simp)
  rw [hx] at hx'; cases hx'
  refine ⟨rfl,(.s,ts[i]),by rw [a0s,show ts[i]?=some ts[i] by simp]; rfl,rx.keep s (fun _ z=>z) fun _ _ z=>z.elim⟩
theorem AF {a:Addr}{xs:List V}{ts:List T}(hL:xs.length<=LIM)(h:SqT K H a xs)(r:RepL K Z H .s ts xs no):Wk K (Itt K a) Z H (ts.map fun t=>[(.s,t)])/\nF K (Itt K a) Z H (ts.map fun t=>[(.s,t)]):=by
 have hl:=r.length
 refine ⟨⟨fun H' i s hi=>?_,fun H' i s hi=>?_,by rw [a0b]; omega⟩,fun H' i x H'' s hi y=>?_⟩
 ·rw [a0b] at hi
  exact ⟨xs,xs[i]'(by omega),s.sqt h,by simp⟩
 ·rw [a0b] at hi
  exact ⟨xs,s.sqt h,by omega⟩
 ·rw [a0b] at hi
  obtain ⟨rfl,y⟩:=y
  have hx:=y xs (s.sqt h)
  obtain ⟨x',hx',rx⟩:=r.get (show ts[i]?=some ts[i] by simp)
  rw [hx] at hx'; cases hx'
  refine ⟨rfl,(.s,ts[i]),by rw [a0s,show ts[i]?=some ts[i] by simp]; rfl,rx.keep s (fun _ z=>z) fun _ _ z=>z.elim⟩
theorem yU {lo:Int}{n:Nat}(hL:n<=LIM):Wk K (Itr lo n) Z H ((a0k n).map fun (k:Nat)=>[(.d,.int (lo+k))])/\nF K (Itr lo n) Z H ((a0k n).map fun (k:Nat)=>[(.d,.int (lo+k))]):=by
 refine ⟨⟨fun H' i s hi=>by show i < n; simpa using hi,fun H' i s hi=>by show n<=i; simpa using hi,by simpa using hL⟩,fun H' i x H'' s hi y=>?_⟩
 obtain ⟨rfl,rfl⟩:=y
 refine ⟨rfl,(.d,.int (lo+i)),?_,rfl⟩
 rw [a0b,a0C] at hi
 rw [a0s,a0S hi]
 rfl
theorem kz {a:Addr}{ns:List Int}{H0:Hp}(s:Stay Z H0 H)(h:ScrR K H0 a ns):SqL K H a (ns.map V.int):=(h.keep s.2.2).sq
theorem Af {a:Addr}{ns:List Int}(hL:ns.length<=LIM)(h:ScrR K H a ns):Wk K (Itl K a) Z H (ns.map fun n=>[(.d,.int n)])/\nF K (Itl K a) Z H (ns.map fun n=>[(.d,.int n)]):=by
 refine ⟨⟨fun H' i s hi=>?_,fun H' i s hi=>?_,by rw [a0b]; exact hL⟩,fun H' i x H'' s hi y=>?_⟩
 ·rw [a0b] at hi
  exact ⟨_,(ns.map V.int)[i]'(by rw [a0b]; exact hi),kz s h,by simp⟩
 ·rw [a0b] at hi
  exact ⟨_,kz s h,by rw [a0b]; exact hi⟩
 ·rw [a0b] at hi
  obtain ⟨rfl,y⟩:=y
  have hx:=y _ (kz s h)
  refine ⟨rfl,(.d,.int ns[i]),by rw [a0s,show ns[i]?=some ns[i] by simp]; rfl,?_⟩
  rw [a0s,show ns[i]?=some ns[i] by simp] at hx
  exact (a0t hx).symm
theorem AH {e:E}(σ:L2.St)(H:Hp)(R:It->Hp->Prop)(h:wI K sf C 1 .seq [e] σ H R):mz K (wE K sf C e) σ H R\/Dy K (wE K sf C e) σ H R:=by
 obtain ⟨pv,Z,Fs,η,ws,η',ts,A,ev,ht,k⟩:=h
 obtain ⟨⟨m,a⟩,η1,us,e1,e2,rfl⟩:=ax ev
 cases e2
 cases a with
 | lst ts' =>
  cases ht
  refine .inl ⟨pv,Z,Fs,η,_,_,A,e1,fun v Z' H' Fs' G B r s=>?_⟩
  obtain ⟨a,xs,rfl,l,q,p⟩:=Rep.sh r
  obtain ⟨w1,w2⟩:=wu l q.1 q.2 p.sany
  exact ⟨a,rfl,⟨xs,.inl (.inl q.2)⟩,k _ _ H' Fs' B.freeze (aV B.own s) w1 w2⟩
 | tup ts' =>
  cases ht
  refine .inr ⟨pv,Z,Fs,η,_,_,A,e1,fun v Z' H' Fs' G B r s=>?_⟩
  obtain ⟨a,xs,rfl,q,l,p⟩:=Rep.sh r
  obtain ⟨w1,w2⟩:=AF l q p.sany
  exact ⟨a,rfl,⟨xs,q⟩,k _ _ H' Fs' B.freeze (aV B.own s) w1 w2⟩
 | scr ns =>
  cases ht
  refine .inl ⟨pv,Z,Fs,η,_,_,A,e1,fun v Z' H' Fs' G B r s=>?_⟩
  obtain ⟨a,rfl,hl,q⟩:=r
  obtain ⟨w1,w2⟩:=Af (Z:=fun a=>Z' a\/G a) hl q
  exact ⟨a,rfl,⟨_,q.sq⟩,k _ _ H' Fs' B.freeze (aV B.own s) w1 w2⟩
 | _=>cases ht
theorem p62:(2:Int) ^ 62=4611686018427387904:=by decide
theorem vi {e:E}(σ:L2.St)(H:Hp)(R:It->Hp->Prop)(h:wI K sf C 1 .rng [e] σ H R):xw (wL K sf C [e]) σ H R:=by
 obtain ⟨pv,Z,Fs,η,ws,η',ts,A,ev,ht,k⟩:=h
 refine ⟨pv,Z,Fs,η,ws,η',A,ev,fun vs Z' H' Fs' G B r s=>?_⟩
 obtain ⟨⟨m,a⟩,η1,us,e1,e2,rfl⟩:=ax ev
 cases e2
 obtain ⟨x,rfl,r1⟩:=bh rfl r
 cases a with
 | int n =>
  rw [oq] at ht
  split at ht
  ·rename_i hc
   rw [a0j,decide_eq_true_eq] at hc
   cases ht
   refine ⟨n,by rw [show x=_ from r1],by rw [p62]; omega,by rw [p62]; omega,?_⟩
   obtain ⟨w1,w2⟩:=yU (K:=K) (Z:=fun a=>Z' a\/G a) (H:=H') (lo:=0) (n:=n.toNat) (bL hc.2)
   have hz:∀ k:Nat,(0:Int)+(k:Int)=k:=fun k=>by omega
   simp only [hz] at w1 w2
   exact k _ _ H' Fs' B.freeze (aV B.own s) w1 w2
  ·cases ht
 | _=>cases ht
theorem xn {m:Md}{t:T}{v:V}{ts:List T}(e:elems (m,t)=some ts)(r:Rep K Z H m t v G):∃ k a xs,v=.ref a/\xs.length<=LIM/\RepL K (fun a=>Z a\/G a) H .s ts xs no/\∀ H',Stay (fun a=>Z a\/G a) H H'->Sq K H' k a xs:=by
 cases t with
 | lst us =>
  cases e
  obtain ⟨a,xs,rfl,l,q,p⟩:=Rep.sh r
  exact ⟨false,a,xs,rfl,l,p.sany,fun H' s=>cF s q.1 q.2⟩
 | tup us =>
  cases e
  obtain ⟨a,xs,rfl,q,l,p⟩:=Rep.sh r
  exact ⟨true,a,xs,rfl,l,p.sany,fun H' s=>s.sqt q⟩
 | _=>cases e
theorem jW {m n:Md}:∀ {ts us:List T} {i:Nat} {t u:T},ts[i]?=some t->us[i]?=some u->(eI m n ts us)[i]?=some [(m,t),(n,u)]
 | t::ts,u::us,0,_,_,h,h'=>by cases h; cases h'; rfl
 | t::ts,u::us,i+1,_,_,h,h'=>jW (ts:=ts) (us:=us) (i:=i) h h'
 | [],_,_,_,_,h,_=>by simp at h
 | _::_,[],_,_,_,_,h'=>by simp at h'
theorem cZ {m n:Md}:∀ {ts us:List T},(eI m n ts us).length=min ts.length us.length
 | [],_=>by simp [eI]
 | _::_,[]=>by simp [eI]
 | t::ts,u::us=>by
  show (eI m n ts us).length+1=_
  rw [cZ]; simp
theorem Ba {e e':E}(σ:L2.St)(H:Hp)(R:It->Hp->Prop)(h:wI K sf C 2 .zip [e,e'] σ H R):Dp K (wL K sf C [e,e']) σ H R:=by
 obtain ⟨pv,Z,Fs,η,ws,η',ts,A,ev,ht,k⟩:=h
 refine ⟨pv,Z,Fs,η,ws,η',A,ev,fun vs Z' H' Fs' G B r s=>?_⟩
 obtain ⟨⟨m,a⟩,η1,us,e1,e2,rfl⟩:=ax ev
 obtain ⟨⟨n,b⟩,η2,us,e3,e4,rfl⟩:=ax e2
 cases e4
 obtain ⟨x,y,hx⟩:∃ x y,vs=[x,y]:=dw (x:=()) (y:=()) (show vs.length=[(),()].length from r.length)
 subst hx
 obtain ⟨G1,G2,g1,g2,_,r1,r2⟩:=bO r
 have ht':((elems (m,a)).bind fun ts=>(elems (n,b)).bind fun us=>some (eI .s .s ts us))=some ts:=ht
 cases ea:elems (m,a) with
 | none=>rw [ea] at ht'; cases ht'
 | some t1 =>
  cases eb:elems (n,b) with
  | none=>rw [ea,eb] at ht'; cases ht'
  | some t2 =>
   rw [ea,eb] at ht'; cases ht'
   obtain ⟨k1,a1,xs,rfl,L1,p1,q1⟩:=xn ea r1
   obtain ⟨k2,a2,ys,rfl,L2',p2,q2⟩:=xn eb r2
   have z1:∀ c,(Z' c\/G1 c)->(Z' c\/G c):=fun c h=>h.imp id (g1 c)
   have z2:∀ c,(Z' c\/G2 c)->(Z' c\/G c):=fun c h=>h.imp id (g2 c)
   have st1:∀ H0,Stay (fun c=>Z' c\/G c) H' H0->Sq K H0 k1 a1 xs:=fun H0 s=>q1 H0 ⟨fun c o hc=>s.1 c o (z1 c hc),s.2⟩
   have st2:∀ H0,Stay (fun c=>Z' c\/G c) H' H0->Sq K H0 k2 a2 ys:=fun H0 s=>q2 H0 ⟨fun c o hc=>s.1 c o (z2 c hc),s.2⟩
   have l1:=p1.length
   have l2:=p2.length
   refine ⟨k1,k2,a1,a2,rfl,⟨xs,st1 _ (da _ _)⟩,⟨ys,st2 _ (da _ _)⟩,k _ _ H' Fs' B.freeze (aV B.own s) ⟨fun H0 i s hi=>?_,fun H0 i s hi=>?_,by rw [cZ]; omega⟩ fun H0 i x H1 s hi y=>?_⟩
   ·rw [cZ] at hi
    exact ⟨xs,ys,xs[i]'(by omega),ys[i]'(by omega),st1 _ s,st2 _ s,by simp,by simp⟩
   ·rw [cZ] at hi
    exact ⟨xs,ys,st1 _ s,st2 _ s,by omega⟩
   ·rw [cZ] at hi
    obtain ⟨p,x1,y1,rfl,hp,rfl,hx,hy⟩:=y
    have hi1:i < t1.length:=by omega
    have hi2:i < t2.length:=by omega
    obtain ⟨x',hx',rx⟩:=p1.get (show t1[i]?=some t1[i] by simp)
    obtain ⟨y',hy',ry⟩:=p2.get (show t2[i]?=some t2[i] by simp)
    rw [hx xs (st1 _ s)] at hx'; cases hx'
    rw [hy ys (st2 _ s)] at hy'; cases hy'
    exact ⟨p,x1,y1,(.s,t1[i]),(.s,t2[i]),rfl,pW hp,.inl (.inl ai),jW (by simp) (by simp),(rx.zmono z1).keep s (fun _ z=>z) fun _ _ z=>z.elim,(ry.zmono z2).keep s (fun _ z=>z) fun _ _ z=>z.elim⟩
theorem gV {m:Md}:∀ {ts:List T} {n i:Nat} {t:T},ts[i]?=some t->(cV m n ts)[i]?=some [(.d,.int ((n+i:Nat):Int)),(m,t)]
 | t::ts,n,0,_,h=>by cases h; rfl
 | t::ts,n,i+1,_,h=>by
  have:=gV (m:=m) (ts:=ts) (n:=n+1) (i:=i) h
  rw [show n+1+i=n+(i+1) by omega] at this
  exact this
 | [],_,_,_,h=>by simp at h
theorem b8 {m:Md}:∀ {ts:List T} {n:Nat},(cV m n ts).length=ts.length
 | [],_=>rfl
 | t::ts,n=>by show (cV m (n+1) ts).length+1=ts.length+1; rw [b8]
theorem yL {e:E}(σ:L2.St)(H:Hp)(R:It->Hp->Prop)(h:wI K sf C 2 .enm [e] σ H R):xt K (wL K sf C [e]) σ H R:=by
 obtain ⟨pv,Z,Fs,η,ws,η',ts,A,ev,ht,k⟩:=h
 refine ⟨pv,Z,Fs,η,ws,η',A,ev,fun vs Z' H' Fs' G B r s=>?_⟩
 obtain ⟨⟨m,a⟩,η1,us,e1,e2,rfl⟩:=ax ev
 cases e2
 obtain ⟨x,rfl,r1⟩:=bh rfl r
 obtain ⟨t1,rfl⟩:∃ t1,a=.lst t1:=by cases a<;>first | exact ⟨_,rfl⟩ | cases ht
 cases ht
 obtain ⟨a,xs,rfl,l,q,p⟩:=Rep.sh r1
 have l1:=p.length
 refine ⟨a,rfl,⟨xs,.inl (.inl q.2)⟩,k _ _ H' Fs' B.freeze (aV B.own s) ⟨fun H0 i s hi=>?_,fun H0 i s hi=>?_,by rw [b8]; omega⟩ fun H0 i x H1 s hi y=>?_⟩
 ·rw [b8] at hi
  exact ⟨xs,xs[i]'(by omega),cF s q.1 q.2,by simp⟩
 ·rw [b8] at hi
  exact ⟨xs,cF s q.1 q.2,by omega⟩
 ·rw [b8] at hi
  obtain ⟨p',x1,rfl,hp,rfl,hx⟩:=y
  obtain ⟨x',hx',rx⟩:=p.get (show t1[i]?=some t1[i] by simp)
  rw [hx xs (cF s q.1 q.2)] at hx'; cases hx'
  refine ⟨p',.int i,x1,(.d,.int ((0+i:Nat):Int)),(.s,t1[i]),rfl,pW hp,.inl (.inl ai),gV (by simp),?_,rx.sany.keep s (fun _ z=>z) fun _ _ z=>z.elim⟩
  show V.int (i:Int)=V.int ((0+i:Nat):Int)
  rw [a2A]
end
end MR
namespace MR
open L2 L3 M
open PySem (Addr Str sizeLine)
section
variable {K:a0a}{sl:Cf}{sf sg:Nat->Option Nat}{C:Call}{σ σ2:L2.St}{Z Z' Z1:Fp}{H H' H1:Hp}{Fs Fs' Fs1:Fps}{η η' η1:Env}{G G' R F:Fp}{tg is:List Nat}{pv val:Nat->Option V}
theorem au:∀ (tg:List Nat) (η:Env) (i:Nat),rd (af tg η) i=if i∈tg then none else rd η i
 | [],η,i=>by simp [af]
 | t::tg,η,i=>by
  show rd (af tg (wr η t none)) i=_
  rw [au tg,a7]
  by_cases h1:i∈tg
  ·simp [h1]
  ·by_cases h2:i=t
   ·subst h2
    rw [if_neg h1,if_pos a0e]
    split
    ·rfl
    ·rename_i hn
     cases e:rd η i with
     | none=>rfl
     | some w=>exact absurd ⟨rfl,cH e⟩ hn
   ·rw [if_neg h1,if_neg (show ¬ i∈t::tg by simp [h1,h2]),if_neg (show ¬ (i=t/\t < η.length) from fun h=>h2 h.1)]
noncomputable def Nn (η η':Env):Prop:=∀ i,rd η i=none->rd η' i=none
theorem Nn.refl (η:Env):Nn η η:=fun _ h=>h
theorem Nn.trans {a b c:Env}(h:Nn a b)(k:Nn b c):Nn a c:=fun i e=>k i (h i e)
theorem hU (η:Env)(j:Nat):Nn η (del η j):=fun i e=>by
 rw [a7]; split
 ·rfl
 ·exact e
theorem k9 {η:Env}{j:Nat}{w:W}(h:rd η j≠none):Nn η (put η j w):=fun i e=>by
 rw [a7]; split
 ·rename_i hc; rw [<- hc.1] at h; exact absurd e h
 ·exact e
theorem eD:∀ {is:List Nat} {ws:List W} {η0 η:Env},(∀ i∈is,rd η0 i≠none)->Nn η0 η->Nn η0 (putAll is ws η)
 | [],_,_,_,_,h=>h
 | _::_,[],_,_,_,h=>h
 | i::is,w::ws,η0,η,hi,h=>by
  show Nn η0 (putAll is ws (put η i w))
  refine eD (fun j hj=>hi j (a0d _ hj)) fun j e=>?_
  rw [a7]; split
  ·rename_i hc; rw [hc.1] at e; exact absurd e (hi i a0e)
  ·exact h j e
theorem dE {f:Env->Res (Option W×Env)}(hf:∀ {η o η'},f η=.ok (o,η')->Nn η η'):∀ {ts:List (List W)} {η η':Env} {acc ws:List W},(∀ i∈tg,rd η i=none)->aA tg f ts η acc=.ok (ws,η')->Nn η η'
 | [],η,η',acc,ws,_,h=>by cases h; exact Nn.refl _
 | t::ts,η,η',acc,ws,ht,h=>by
  obtain ⟨η1,h1,h2⟩:=aa (show (ofO (aY tg t η)).bind (fun η1=>(f η1).bind fun p=>aA tg f ts (af tg p.2) (acc++p.1.toList))=_ from h)
  obtain ⟨⟨o,η2⟩,h3,h4⟩:=aa h2
  have hb:∀ {tg:List Nat} {t:List W} {η η1:Env},aY tg t η=some η1->∀ i,i ∉ tg->rd η1 i=rd η i:=fun {tg}=>by
   induction tg with
   | nil=>intro t η η1 h i hi; cases t with
    | nil=>cases h; rfl
    | cons _ _=>cases h
   | cons j tg ih=>intro t η η1 h i hi; cases t with
    | nil=>cases h
    | cons w t =>
     have:=ih (show aY tg t (put η j w)=some η1 from h) i (fun z=>hi (a0d _ z))
     rw [this,a7,if_neg fun z=>hi (by rw [z.1]; exact a0e)]
  have e1:=hb (bK h1)
  have hd:∀ i,rd η i=none->rd (af tg η2) i=none:=fun i e=>by
   rw [au]
   split
   ·rfl
   ·rename_i hi
    exact hf h3 i (by rw [e1 i hi]; exact e)
  exact Nn.trans (b:=af tg η2) hd (dE hf (fun i hi=>by rw [au,if_pos hi]) h4)
noncomputable def dG (sf sg:Nat->Option Nat)(tg:List Nat)(is:List Nat):Prop :=
 ∀ i j,sg i=some j->(∃ k:Nat,tg[k]?=some i/\j=k)\/(i ∉ tg/\∃ (k j0:Nat),j=tg.length+k/\is[k]?=some j0/\sf i=some j0)
theorem At.pin (A:At K ⟨sf,pv⟩ σ Z H Fs η G):∃ val,(∀ i u,pv i=some u->val i=some u)/\At K ⟨sf,val⟩ σ Z H Fs η G/\∀ i m t,rd η i=some (m,t)->val i≠none:=by
 have ch:∀ i,∃ o:Option V,(∀ u,pv i=some u->o=some u)/\(∀ u j,o=some u->sf i=some j->σ[j]?=some (some u))/\∀ m t,rd η i=some (m,t)->∃ v,o=some v/\Rep K Z H m t v (Fs i)/\(∀ j,sf i=some j->σ[j]?=some (some v)):=fun i=>by
  cases e:rd η i with
  | none=>exact ⟨pv i,fun _ h=>h,fun u j h hs=>A.lk i u j h hs,fun _ _ h=>by cases h⟩
  | some w =>
   obtain ⟨m,t⟩:=w
   obtain ⟨v,r,h1,h2⟩:=A.env i m t e
   refine ⟨some v,fun u h=>by rw [h2 u h],fun u j h hs=>?_,fun m' t' h=>by cases h; exact ⟨v,rfl,r,h1⟩⟩
   cases h
   exact h1 j hs
 obtain ⟨val,hval⟩:=Classical.axiomOfChoice ch
 refine ⟨val,fun i u h=>(hval i).1 u h,⟨A.gd,fun i m t e=>?_,A.own,A.dis,fun i u j h hs=>(hval i).2.1 u j h hs,A.ln⟩,fun i m t e=>?_⟩
 ·obtain ⟨v,h1,r,h2⟩:=(hval i).2.2 m t e
  exact ⟨v,r,h2,fun u hu=>by rw [show val i=some u from hu] at h1; cases h1; rfl⟩
 ·obtain ⟨v,h1,r,h2⟩:=(hval i).2.2 m t e
  rw [h1]; simp
theorem At.unpin (h:∀ i u,pv i=some u->val i=some u)(A:At K ⟨sf,val⟩ σ Z H Fs η G):At K ⟨sf,pv⟩ σ Z H Fs η G :=
 ⟨A.gd,fun i m t e=>let ⟨v,r,h1,h2⟩:=A.env i m t e; ⟨v,r,h1,fun u hu=>h2 u (h i u hu)⟩,A.own,A.dis,fun i u j hu hs=>A.lk i u j (h i u hu) hs,A.ln⟩
noncomputable def inV (val:Nat->Option V)(tg:List Nat):Nat->Option V:=fun i=>if i∈tg then none else val i
theorem At.into (I:dG sf sg tg is)(ht:∀ i∈tg,rd η i=none)(hσ:∀ (k j0:Nat) (v:V),is[k]?=some j0->σ[j0]?=some (some v)->σ2[tg.length+k]?=some (some v))(hl:∀ i j,sg i=some j->j < σ2.length)(A:At K ⟨sf,val⟩ σ Z H Fs η G):At K ⟨sg,inV val tg⟩ σ2 Z H Fs η G:=by
 refine ⟨A.gd,fun i m t e=>?_,A.own,A.dis,fun i u j hu hs=>?_,hl⟩
 ·have hi:i ∉ tg:=fun h=>by rw [ht i h] at e; cases e
  obtain ⟨v,r,h1,h2⟩:=A.env i m t e
  refine ⟨v,r,fun j hj=>?_,fun u hu=>h2 u (by have h3:inV val tg i=some u:=hu; unfold inV at h3; rw [if_neg hi] at h3; exact h3)⟩
  rcases I i j hj with ⟨k,hk,_⟩ | ⟨_,k,j0,rfl,hk,hs⟩
  ·exact absurd (a0J hk) hi
  ·exact hσ k j0 v hk (h1 j0 hs)
 ·have hi:i ∉ tg:=fun h=>by
   have hu':inV val tg i=some u:=hu
   unfold inV at hu'; rw [if_pos h] at hu'; cases hu'
  have hu':val i=some u:=by have h3:inV val tg i=some u:=hu; unfold inV at h3; rw [if_neg hi] at h3; exact h3
  rcases I i j hs with ⟨k,hk,_⟩ | ⟨_,k,j0,rfl,hk,hs⟩
  ·exact absurd (a0J hk) hi
  ·exact hσ k j0 u hk (A.lk i u j0 hu' hs)
theorem At.outof (ht:∀ i∈tg,rd η i=none)(hv:∀ i m t,rd η i=some (m,t)->val i≠none)(lk:∀ i u j,val i=some u->sf i=some j->σ[j]?=some (some u))(ln:∀ i j,sf i=some j->j < σ.length)(A:At K ⟨sg,inV val tg⟩ σ2 Z H Fs η G):At K ⟨sf,val⟩ σ Z H Fs η G:=by
 refine ⟨A.gd,fun i m t e=>?_,A.own,A.dis,lk,ln⟩
 have hi:i ∉ tg:=fun h=>by rw [ht i h] at e; cases e
 obtain ⟨v,r,h1,h2⟩:=A.env i m t e
 cases hu:val i with
 | none=>exact absurd hu (hv i m t e)
 | some u =>
  have:v=u:=h2 u (by show inV val tg i=some u; unfold inV; rw [if_neg hi]; exact hu)
  subst this
  exact ⟨v,r,fun j hj=>lk i v j hu hj,fun u' hu'=>by rw [show val i=some u' from hu'] at hu; cases hu; rfl⟩
end
section
variable {C:Call}
theorem fJ:∀ (vs:List Nat) (η:Env),Nn η (M.share vs η)
 | [],η=>fun _ e=>e
 | v::vs,η=>Nn.trans (b:=wr η v (toS (rd η v))) (fun i e=>by
   rw [a7]; split
   ·rename_i hc; rw [<- hc.1,e]; rfl
   ·exact e) (fJ vs _)
theorem oI (m:Md)(vs:List Nat)(η:Env):Nn η (after m vs η):=by
 cases m with
 | d=>exact fun _ e=>e
 | s=>exact fJ vs η
 | o _=>exact fJ vs η
theorem jh {α:Type}{tab:List (Str×α)}{f:α->Env->RE}{p:W×Env}{r:W×Env}(h:mO tab f p=.ok r):∃ x a,p.1.2=.str x/\tab.lookup x=some a/\f a p.2=.ok r:=by
 unfold mO at h
 split at h
 ·rename_i x hx
  split at h
  ·rename_i a ha; exact ⟨x,a,hx,ha,h⟩
  ·cases h
 ·cases h
theorem wB {neg:Bool}{ks:List Str}{p r:W×Env}(h:kIn neg ks p=.ok r):∃ x,p.1.2=.str x/\r.2=p.2/\r.1=(.d,.bl (ks.contains x != neg)):=by
 unfold kIn at h
 split at h
 ·rename_i x hx; cases h; exact ⟨x,hx,rfl,rfl⟩
 ·cases h
theorem rW {tab:List (Str×T)}{p r:W×Env}(h:uL tab p=.ok r):∃ x,p.1.2=.str x/\r.2=p.2/\r.1=(.s,(tab.lookup x).getD .non):=by
 unfold uL at h
 split at h
 ·rename_i x hx; cases h; exact ⟨x,hx,rfl,rfl⟩
 ·cases h
mutual
theorem ak:∀ (e:E) {η η':Env} {w:W},evE C e η=.ok (w,η')->Nn η η'
 | .var i,η,η',w,h=>by obtain ⟨_,_,e⟩:=aq (show ret η ((rd η i).bind look)=_ from h); cases e; exact Nn.refl _
 | .mv i,η,η',w,h=>by obtain ⟨_,_,e⟩:=aq (show ret (del η i) (rd η i)=_ from h); cases e; exact hU _ _
 | .io i,η,η',w,h=>by obtain ⟨_,_,e⟩:=aq (show ret (del η i) (rd η i)=_ from h); cases e; exact hU _ _
 | .cst t,η,η',w,h=>by cases h; exact Nn.refl _
 | .glb _ t,η,η',w,h=>by cases h; exact Nn.refl _
 | .tup es,η,η',w,h=>by
  obtain ⟨⟨ws,η1⟩,h1,h2⟩:=aa (show (evL C es η).bind kD=_ from h)
  cases h2; exact dk es h1
 | .lst b es,η,η',w,h=>by
  obtain ⟨⟨ws,η1⟩,h1,h2⟩:=aa (show (evL C es η).bind (rP b)=_ from h)
  cases h2; exact dk es h1
 | .wk m e,η,η',w,h=>by
  obtain ⟨⟨u,η1⟩,h1,h2⟩:=aa (show (evE C e η).bind (kWk m)=_ from h)
  obtain ⟨_,_,e3⟩:=aq (show ret η1 _=_ from h2)
  cases e3; exact ak e h1
 | .op o b es,η,η',w,h=>by
  obtain ⟨ws,h1,h2⟩:=cD h
  exact dk es h1
 | .and a b,η,η',w,h=>by
  obtain ⟨⟨u,η1⟩,h1,h2⟩:=aa (show (evE C a η).bind (mL (evE C b))=_ from h)
  obtain ⟨d,h3,h4⟩:=a6 (show onT (evE C b) (okW u) (u,η1)=_ from h2)
  cases d with
  | true=>rw [if_pos rfl] at h4; exact (ak a h1).trans (ak b h4)
  | false=>rw [if_neg a0f] at h4; cases h4; exact ak a h1
 | .or a b,η,η',w,h=>by
  obtain ⟨⟨u,η1⟩,h1,h2⟩:=aa (show (evE C a η).bind (kOr (evE C b))=_ from h)
  obtain ⟨d,h3,h4⟩:=a6 (show onT (okW u) (evE C b) (u,η1)=_ from h2)
  cases d with
  | false=>rw [if_neg a0f] at h4; exact (ak a h1).trans (ak b h4)
  | true=>rw [if_pos rfl] at h4; cases h4; exact ak a h1
 | .not a,η,η',w,h=>by
  obtain ⟨⟨u,η1⟩,h1,h2⟩:=aa (show (evE C a η).bind ng=_ from h)
  obtain ⟨_,_,e3⟩:=aq (show ret η1 _=_ from h2)
  cases e3; exact ak a h1
 | .ifx c a b,η,η',w,h=>by
  obtain ⟨⟨u,η1⟩,h1,h2⟩:=aa (show (evE C c η).bind (onT (evE C a) (evE C b))=_ from h)
  obtain ⟨d,h3,h4⟩:=a6 h2
  cases d with
  | true=>rw [if_pos rfl] at h4; exact (ak c h1).trans (ak a h4)
  | false=>rw [if_neg a0f] at h4; exact (ak c h1).trans (ak b h4)
 | .chain o q a b c,η,η',w,h=>by
  obtain ⟨⟨x,η1⟩,h1,h2⟩:=aa (show (evE C a η).bind (kC1 o q (evE C b) (evE C c))=_ from h)
  obtain ⟨⟨y,η2⟩,h3,h4⟩:=aa (show (evE C b η1).bind (kC2 o q (evE C c) x)=_ from h2)
  obtain ⟨⟨k,η3⟩,h5,h6⟩:=aa (show (ret η2 (oSem o false [x,y])).bind (fun k=>onB k.1.2 (then' (evE C c) (kC3 q y)) (okW (.d,.bl false)) k.2)=_ from h4)
  obtain ⟨k',_,e5⟩:=aq h5
  have e6:η3=η2:=congrArg a12 e5
  have n2:=(ak a h1).trans (ak b h3)
  have h6':onB k.2 (then' (evE C c) (kC3 q y)) (okW (.d,.bl false)) η2=.ok (w,η'):=by rw [<- e6]; exact h6
  generalize k.2=kk at h6'
  cases kk with
  | bl b =>
   cases b with
   | true =>
    obtain ⟨⟨z,η4⟩,h7,h8⟩:=aa (show (evE C c η2).bind (kC3 q y)=_ from h6')
    obtain ⟨z',_,e8⟩:=aq (show ret η4 (oSem q false [y,z])=_ from h8)
    have e9:η'=η4:=congrArg a12 e8
    rw [e9]
    exact n2.trans (ak c h7)
   | false=>cases h6'; exact n2
  | _=>cases h6'
 | .call f es,η,η',w,h=>by
  obtain ⟨⟨ws,η1⟩,h1,h2⟩:=aa (show (evA C es η).bind (fU C f (ios es))=_ from h)
  obtain ⟨⟨u,us⟩,h3,h4⟩:=aa (show (C f ws).bind (jd (ios es) η1)=_ from h2)
  cases h4
  exact eD (fA es h1) (dy es h1)
 | .comp b k src tg none elt,η,η',w,h=>by
  obtain ⟨⟨ws,η1⟩,h1,h2⟩:=aa (show (evL C src η).bind (dY b k tg (bJ (evE C elt)))=_ from h)
  obtain ⟨⟨ts,η2⟩,h3,h4⟩:=aa (show (ret (af tg η1) (br k ws)).bind (fun t=>(aA tg (bJ (evE C elt)) t.1 t.2 []).bind (fV b))=_ from h2)
  obtain ⟨_,_,e3⟩:=aq h3
  have e4:η2=af tg η1:=congrArg a12 e3
  subst e4
  obtain ⟨⟨us,η3⟩,h5,h6⟩:=aa (show (aA tg (bJ (evE C elt)) ts (af tg η1) []).bind (fV b)=_ from h4)
  obtain ⟨_,_,e6⟩:=aq (show ret η3 _=_ from h6)
  have e7:η'=η3:=congrArg a12 e6
  subst e7
  refine (dk src h1).trans (Nn.trans (b:=af tg η1) (fun i e=>by rw [au]; split<;>first | rfl | exact e) (dE (fun {η o η'} hf=>?_) (fun i hi=>by rw [au,if_pos hi]) h5))
  obtain ⟨⟨u,η4⟩,h7,h8⟩:=aa (show (evE C elt η).bind cG=_ from hf)
  cases h8
  exact ak elt h7
 | .comp b k src tg (some c) elt,η,η',w,h=>by
  obtain ⟨⟨ws,η1⟩,h1,h2⟩:=aa (show (evL C src η).bind (dY b k tg (bZ (evE C c) (evE C elt)))=_ from h)
  obtain ⟨⟨ts,η2⟩,h3,h4⟩:=aa (show (ret (af tg η1) (br k ws)).bind (fun t=>(aA tg (bZ (evE C c) (evE C elt)) t.1 t.2 []).bind (fV b))=_ from h2)
  obtain ⟨_,_,e3⟩:=aq h3
  have e4:η2=af tg η1:=congrArg a12 e3
  subst e4
  obtain ⟨⟨us,η3⟩,h5,h6⟩:=aa (show (aA tg (bZ (evE C c) (evE C elt)) ts (af tg η1) []).bind (fV b)=_ from h4)
  obtain ⟨_,_,e6⟩:=aq (show ret η3 _=_ from h6)
  have e7:η'=η3:=congrArg a12 e6
  subst e7
  refine (dk src h1).trans (Nn.trans (b:=af tg η1) (fun i e=>by rw [au]; split<;>first | rfl | exact e) (dE (fun {η o η'} hf=>?_) (fun i hi=>by rw [au,if_pos hi]) h5))
  obtain ⟨⟨u,η4⟩,h7,h8⟩:=aa (show (evE C c η).bind (onT (bJ (evE C elt)) (okW none))=_ from hf)
  obtain ⟨d,h9,h10⟩:=a6 h8
  cases d with
  | true =>
   rw [if_pos rfl] at h10
   obtain ⟨⟨u2,η5⟩,h11,h12⟩:=aa (show (evE C elt η4).bind cG=_ from h10)
   cases h12
   exact (ak c h7).trans (ak elt h11)
  | false =>
   rw [if_neg a0f] at h10
   cases h10
   exact ak c h7
 | .pop i es,η,η',w,h=>by
  obtain ⟨_,_,h0⟩:=aa (show (dA (rd η i)).bind (oF (evL C es) η (wZ i))=_ from h)
  obtain ⟨⟨ws,η1⟩,h1,h2⟩:=aa (show (evL C es η).bind (wZ i)=_ from h0)
  obtain ⟨r,h3,h4⟩:=aa (show (ofO ((rd η1 i).bind fun w=>D5 w ws)).bind (fun r=>.ok (r.1,put η1 i r.2))=_ from h2)
  cases h4
  refine (dk es h1).trans (k9 ?_)
  have:=bK h3
  intro e; rw [e] at this; cases this
 | .lenV i,η,η',w,h=>by obtain ⟨_,_,e⟩:=aq (show ret η ((rd η i).bind fun w=>oSem .len false [w])=_ from h); cases e; exact Nn.refl _
 | .ixV i j,η,η',w,h=>by obtain ⟨_,_,e⟩:=aq (show ret η (CT (rd η i) (rd η j))=_ from h); cases e; exact Nn.refl _
 | .compV b i t c e,η,η',w,h=>by
  obtain ⟨ts,h1,h2⟩:=aa (show (ofO (vwT (rd η i))).bind (kV1 b i t (bZ (evE C c) (evE C e)) η)=_ from h)
  obtain ⟨⟨u,η1⟩,h3,h4⟩:=aa (show ((aA [t] (bZ (evE C c) (evE C e)) (ts.map fun u=>[(.s,u)]) (af [t] (del η i)) []).bind (fV b)).bind (kV2 i (rd η i))=_ from h2)
  obtain ⟨⟨us,η2⟩,h5,h6⟩:=aa h3
  obtain ⟨_,_,e6⟩:=aq (show ret η2 _=_ from h6)
  cases e6
  cases h4
  have nc:Nn (af [t] (del η i)) η1:=by
   refine dE (fun {η o η'} hf=>?_) (fun j hj=>by rw [au,if_pos hj]) h5
   obtain ⟨⟨u,η4⟩,h7,h8⟩:=aa (show (evE C c η).bind (onT (bJ (evE C e)) (okW none))=_ from hf)
   obtain ⟨d,h9,h10⟩:=a6 h8
   cases d with
   | true =>
    rw [if_pos rfl] at h10
    obtain ⟨⟨u2,η5⟩,h11,h12⟩:=aa (show (evE C e η4).bind cG=_ from h10)
    cases h12
    exact (ak c h7).trans (ak e h11)
   | false =>
    rw [if_neg a0f] at h10
    cases h10
    exact ak c h7
  intro j e
  rw [a7]
  split
  ·rename_i hc
   rw [<- hc.1]; exact e
  ·refine nc j ?_
   rw [au]
   split
   ·rfl
   ·exact hU η i j e
 | .popN i e,η,η',w,h=>by
  obtain ⟨_,_,h0⟩:=aa (show (dA (rd η i)).bind (fK (evE C e) η (fN i))=_ from h)
  obtain ⟨⟨u,η1⟩,h1,h2⟩:=aa (show (evE C e η).bind (fN i)=_ from h0)
  obtain ⟨r,h3,h4⟩:=aa (show (ofO ((rd η1 i).bind fun w=>gB w u)).bind (fun r=>.ok (r.1,put η1 i r.2))=_ from h2)
  cases h4
  refine (ak e h1).trans (k9 ?_)
  have:=bK h3
  intro e; rw [e] at this; cases this
 | .tupA es,η,η',w,h=>by
  obtain ⟨⟨ws,η1⟩,h1,h2⟩:=aa (show (evA C es η).bind kD=_ from h)
  cases h2; exact dy es h1
 | .qx vs ls e,η,η',w,h=>by
  obtain ⟨⟨u,η1⟩,h1,h2⟩:=aa (show (evE C e (dh vs ls η)).bind (kX vs η)=_ from h)
  cases h2
  exact oI _ vs η
 | .mvP i p,η,η',w,h=>by
  obtain ⟨r,h1,h2⟩:=aa (show (ofO ((rd η i).bind (xy p))).bind (Bo i η)=_ from h)
  cases h2
  refine k9 fun e=>?_
  have:=bK h1
  rw [e] at this; cases this
 | .callT tab k es,η,η',w,h=>by
  obtain ⟨⟨u,η1⟩,h1,h2⟩:=aa (show (evE C k η).bind (mO tab (kCT C (evA C es) (ios es)))=_ from h)
  obtain ⟨x,j,_,_,h3⟩:=jh h2
  obtain ⟨⟨ws,η2⟩,h4,h5⟩:=aa (show (evA C es η1).bind (fU C j (ios es))=_ from h3)
  obtain ⟨⟨r,bs⟩,h6,h7⟩:=aa (show (C j ws).bind (jd (ios es) η2)=_ from h5)
  cases h7
  exact (ak k h1).trans (eD (fA es h4) (dy es h4))
 | .inT neg ks e,η,η',w,h=>by
  obtain ⟨⟨u,η1⟩,h1,h2⟩:=aa (show (evE C e η).bind (kIn neg ks)=_ from h)
  obtain ⟨x,_,e2,_⟩:=wB h2
  cases e2; exact ak e h1
 | .ixT tab e,η,η',w,h=>by
  obtain ⟨⟨u,η1⟩,h1,h2⟩:=aa (show (evE C e η).bind (mO tab okS)=_ from h)
  obtain ⟨x,j,_,_,h3⟩:=jh h2
  cases h3; exact ak e h1
 | .getT tab e,η,η',w,h=>by
  obtain ⟨⟨u,η1⟩,h1,h2⟩:=aa (show (evE C e η).bind (uL tab)=_ from h)
  obtain ⟨x,_,e2,_⟩:=rW h2
  cases e2; exact ak e h1
theorem dk:∀ (es:List E) {η η':Env} {ws:List W},evL C es η=.ok (ws,η')->Nn η η'
 | [],η,η',ws,h=>by cases h; exact Nn.refl _
 | e::es,η,η',ws,h=>by
  obtain ⟨w,η1,us,h1,h2,_⟩:=ax h
  exact (ak e h1).trans (dk es h2)
theorem dy:∀ (es:List E) {η η':Env} {ws:List W},evA C es η=.ok (ws,η')->Nn η η'
 | [],η,η',ws,h=>by cases h; exact Nn.refl _
 | e::es,η,η',ws,h=>by
  rcases BV e with ⟨i,hi⟩ | he
  ·subst hi
   obtain ⟨us,η1,w,h1,_,_,h4⟩:=ib h
   rw [h4]
   exact (dy es h1).trans (hU _ _)
  ·obtain ⟨w,η1,us,h1,h2,_⟩:=fY he h
   exact (ak e h1).trans (dy es h2)
theorem fA:∀ (es:List E) {η η':Env} {ws:List W},evA C es η=.ok (ws,η')->∀ i∈ios es,rd η i≠none
 | [],_,_,_,_,i,hi=>by simp [ios] at hi
 | e::es,η,η',ws,h,i,hi=>by
  rcases BV e with ⟨j,hj⟩ | he
  ·subst hj
   obtain ⟨us,η1,w,h1,h2,_,_⟩:=ib h
   rcases a0r.mp (show i∈j::ios es from hi) with z | z
   ·subst z
    exact fun z=>by rw [dy es h1 i z] at h2; cases h2
   ·exact fA es h1 i z
  ·obtain ⟨w,η1,us,h1,h2,_⟩:=fY he h
   have hi':i∈ios es:=by
    cases e with
    | io j=>exact absurd rfl (he j)
    | _=>exact hi
   exact fun z=>fA es h2 i hi' (ak e h1 i z)
end
end
section
variable {K:a0a}{sl:Cf}{sf sg:Nat->Option Nat}{C:Call}{σ σ2:L2.St}{Z Z' Z1:Fp}{H H' H1:Hp}{Fs Fs' Fs1:Fps}{η η' η1 ηb:Env}{G G' R F:Fp}{tg is:List Nat}{pv val:Nat->Option V}
noncomputable def gT (K:a0a):Nat->TG
 | 1=>cJ 0
 | 2=>yR K 2 (je (cJ 0) (je (cJ 1) Ak))
 | _=>fun _ _ _ _=>False
theorem At.put1 {i:Nat}{w:W}{x:V}(A:At K sl σ Z H Fs η G)(r:Rep K Z H w.1 w.2 x (Fs i))(hl:∀ j,sl.sl i=some j->σ[j]?=some (some x))(hp:sl.pv i=none):At K sl σ Z H Fs (put η i w) G:=by
 refine ⟨A.gd,fun j m t e=>?_,A.own,A.dis,A.lk,A.ln⟩
 rw [a7] at e
 split at e
 ·rename_i hc
  cases e
  obtain ⟨rfl,_⟩:=hc
  exact ⟨x,r,hl,fun u hu=>by rw [hp] at hu; cases hu⟩
 ·exact A.env j m t e
theorem fG {k j0:Nat}{v:V}(h1:is[k]?=some j0)(h2:σ[j0]?=some (some v)):(bj σ is)[k]?=some (some v):=by
 unfold bj
 rw [a0s,h1]
 show some ((σ[j0]?).join)=_
 rw [h2]
 rfl
theorem ek (I:dG sf sg tg is)(h:σ2.length=tg.length+is.length):∀ i j,sg i=some j->j < σ2.length:=fun i j hj=>by
 rcases I i j hj with ⟨k,hk,rfl⟩ | ⟨_,k,j0,rfl,hk,_⟩
 ·have:=(a0v.mp hk).1
  omega
 ·have:=(a0v.mp hk).1
  omega
theorem nt {n i:Nat}{J:It}{ts:List (List W)}{ws:List W}{x:V}{Q:L2.St->Hp->Prop}(hn:tg.length=n)(nd:tg.Nodup)(I:dG sf sg tg is)(hz:∀ a,Z1 a->Z a)(st:Stay Z1 H1 H)(yl:Yld K J Z1 H1 ts n)(A:At K ⟨sf,val⟩ σ Z H Fs η G)
  (ht:∀ i∈tg,rd η i=none) (hw:ts[i]?=some ws) (hb:aY tg ws η=some ηb) (y:J.yld i H x H')
  (k:∀ σ2 H2,At K ⟨sg,inV val tg⟩ σ2 Z H2 Fs ηb G->Step Z H no Z H2 no->(σ2.length=n+(bj σ is).length/\σ2.drop n=bj σ is)->Q σ2 H2):gT K n x (a0i n none++bj σ is) H' Q:=by
 have hi:i < ts.length:=(a0v.mp hw).1
 have own0:∀ {t:Nat},t∈tg->inV val tg t=none:=fun {t} h=>if_pos h
 match n,yl with
 | 1,yl =>
  obtain ⟨e0,w,hw',r⟩:=yl H i x H' st hi y
  rw [e0]
  rw [hw] at hw'; cases hw'
  match tg,hn with
  | [t],_ =>
   cases hb
   have r':Rep K Z H w.1 w.2 x (Fs t):=(r.zmono hz).mono fun _ z=>z.elim
   refine k _ H ?_ (Step.refl _ _ _) ⟨by simp [a1B],rfl⟩
   refine (A.into (σ2:=some x::bj σ is) I ht (fun k j0 v h1 h2=>?_) (ek I (by simp [bj,a1B]))).put1 r' (fun j hj=>?_) (own0 (by simp))
   ·rw [a0u,a1B,a0E]; exact fG h1 h2
   ·rcases I t j hj with ⟨k,hk,rfl⟩ | ⟨h,_⟩
    ·cases j with
     | zero=>rfl
     | succ _=>simp at hk
    ·exact absurd (a0q.mpr rfl) h
 | 2,yl =>
  obtain ⟨p,y1,z1,u,w,rfl,sm,hq,hw',r1,r2⟩:=yl H i x H' st hi y
  rw [hw] at hw'; cases hw'
  match tg,hn with
  | [t,t'],_ =>
   cases hb
   have hne:t≠t':=fun z=>by simp [z] at nd
   have s1:Step Z H G Z H' G:=fH sm
   have o1:Own Z H' G:=fun a ha=>by
    obtain ⟨nz,ys,e⟩:=A.own a ha
    exact ⟨nz,ys,sm _ _ e⟩
   obtain ⟨A1,_⟩:=A.op o1 s1
   have sn:Stay Z H H':=jb sm
   have r1':Rep K Z H' u.1 u.2 y1 (Fs t):=((r1.zmono hz).keep sn (fun _ z=>z) fun _ _ z=>z.elim).mono fun _ z=>z.elim
   have r2':Rep K Z H' w.1 w.2 z1 (Fs t'):=((r2.zmono hz).keep sn (fun _ z=>z) fun _ _ z=>z.elim).mono fun _ z=>z.elim
   have s0:Step Z H no Z H' no:=fH sm
   refine ⟨p,[y1,z1],rfl,hq,rfl,y1,[z1],rfl,z1,[],rfl,rfl,k (some y1::some z1::bj σ is) _ ?_ s0 ⟨by simp; omega,rfl⟩⟩
   refine ((A1.into (σ2:=some y1::some z1::bj σ is) I ht (fun k j0 v h1 h2=>?_) (ek I (by simp [bj]; omega))).put1 r1' (fun j hj=>?_) (own0 (by simp))).put1 r2' (fun j hj=>?_) (own0 (by simp))
   ·rw [show [t,t'].length+k=k+1+1 by simp; omega,a0E,a0E]; exact fG h1 h2
   ·rcases I t j hj with ⟨k,hk,rfl⟩ | ⟨h,_⟩
    ·match j,hk with
     | 0,_=>rfl
     | 1,hk=>exact absurd (a0t hk).symm hne
    ·exact absurd (by simp) h
   ·rcases I t' j hj with ⟨k,hk,rfl⟩ | ⟨h,_⟩
    ·match j,hk with
     | 0,hk=>exact absurd (a0t hk) hne
     | 1,_=>rfl
    ·exact absurd (by simp) h
noncomputable def cM (Fs:Fps)(tg:List Nat):Fps:=fun j a=>j ∉ tg/\Fs j a
theorem bF {a:Addr}(h:tot (cM Fs tg) a):tot Fs a:=let ⟨j,_,h2⟩:=h; ⟨j,h2⟩
theorem At.dels (A:At K sl σ Z H Fs η G):At K sl σ Z H (cM Fs tg) (af tg η) G:=by
 refine ⟨⟨fun a h=>A.gd.own a (bF h),fun i j a h1 h2=>A.gd.dis i j a h1.2 h2.2,A.gd.zal⟩,fun i m t e=>?_,A.own,fun a h q=>A.dis a h (bF q),A.lk,A.ln⟩
 rw [au] at e
 split at e
 ·cases e
 ·rename_i hi
  obtain ⟨v,r,h⟩:=A.env i m t e
  exact ⟨v,r.mono fun a ha=>⟨hi,ha⟩,h⟩
theorem c6:∀ {tg:List Nat} {t:List W} {η η1:Env},aY tg t η=some η1->∀ i,i ∉ tg->rd η1 i=rd η i
 | [],[],η,η1,h,i,_=>by cases h; rfl
 | [],_::_,_,_,h,_,_=>by cases h
 | _::_,[],_,_,h,_,_=>by cases h
 | j::tg,w::t,η,η1,h,i,hi=>by
  rw [c6 (show aY tg t (put η j w)=some η1 from h) i fun z=>hi (a0d _ z),a7,if_neg fun z=>hi (by rw [z.1]; exact a0e)]
structure CSt (K:a0a)(sf:Nat->Option Nat)(val:Nat->Option V)(σ:L2.St)(tg:List Nat)(f:Env->Res (Option W×Env))(ts:List (List W))(η0:Env)(us:List W)(η3:Env)(Z1:Fp)(H1:Hp)(F1:Fp)(i:Nat)(ys:List V)(H:Hp):Prop where
 ex:∃ (Z:Fp) (Fs:Fps) (η:Env) (acc:List W) (G:Fp),At K ⟨sf,val⟩ σ Z H Fs η G/\RepW K Z H acc ys G/\aA tg f (ts.drop i) η acc=.ok (us,η3)/\(∀ j∈tg,rd η j=none)/\(∀ j∈tg,∀ a,¬ Fs j a)/\Nn η0 η/\Step Z1 H1 F1 Z H (fun a=>tot Fs a\/G a)
 len:ys.length<=i
theorem jO {h:Bool}{us:List W}{ys:List V}{w:W}{Q:VK}(o:Own Z H G)(za:∀ a,Z a->H a≠none)(r:RepW K Z H us ys G)(hl:ys.length<=LIM)(hn:(if h then (if us.all okD then some ((.d,.lst (aS us)):W) else none) else some (.o .s,.lst (aS us)))=some w)(k:Out K Z H G w Q):∀ p,H p=none->Q (.ref p) (upd H p (.lst ys)):=by
 intro p hp
 cases h with
 | true =>
  rw [if_pos rfl] at hn
  split at hn
  ·rename_i ha
   cases hn
   rw [a0x] at ha
   obtain ⟨G',g1,g2⟩:=RepW.to (N:=.d) (fun u hu=>by
    have:=ha u hu
    unfold okD at this
    rw [a3n] at this
    unfold M.lf
    split
    ·rfl
    ·rename_i hnl
     rcases this with z | z
     ·rw [eq_of_beq z]; rfl
     ·exact absurd z hnl) r
   exact bB (m:=.d) o za g1 hl g2 (by simp) k hp
  ·cases hn
 | false =>
  rw [if_neg a0f] at hn
  cases hn
  obtain ⟨G',g1,g2⟩:=RepW.to (N:=.s) (fun u hu=>by cases M.lf u.1 u.2<;>rfl) r
  exact bB (m:=.o .s) o za g1 hl g2 (by simp) k hp
end
end MR
namespace MR
open L2 L3 M
open PySem (Addr Str sizeLine)
section
variable {K:a0a}{sf sg:Nat->Option Nat}{C:Call}{tg is:List Nat}
theorem eG {α:Type}{l:List α}{i:Nat}{a:α}(h:l[i]?=some a):l.drop i=a::l.drop (i+1):=by
 obtain ⟨h1,h2⟩:=a0v.mp h
 rw [List.drop_eq_getElem_cons h1,h2]
theorem jZ {h:Bool}{k:Ik}{f:Env->Res (Option W×Env)}{p:List W×Env}{w:W}{η':Env}(e:dY h k tg f p=.ok (w,η')):∃ ts us,br k p.1=some ts/\aA tg f ts (af tg p.2) []=.ok (us,η')/\(if h then (if us.all okD then some ((.d,.lst (aS us)):W) else none) else some (.o .s,.lst (aS us)))=some w:=by
 obtain ⟨⟨ts,η2⟩,h3,h4⟩:=aa (show (ret (af tg p.2) (br k p.1)).bind (fun t=>(aA tg f t.1 t.2 []).bind (fV h))=_ from e)
 obtain ⟨ts',ht,e3⟩:=aq h3
 have e4:ts=ts':=congrArg a3R e3
 have e5:η2=af tg p.2:=congrArg a12 e3
 subst e4 e5
 obtain ⟨⟨us,η3⟩,h5,h6⟩:=aa (show (aA tg f ts (af tg p.2) []).bind (fV h)=_ from h4)
 obtain ⟨w',hw,e6⟩:=aq (show ret η3 (if h then (if us.all okD then some ((.d,.lst (aS us)):W) else none) else some (.o .s,.lst (aS us)))=_ from h6)
 have e7:w=w':=congrArg a3R e6
 have e8:η'=η3:=congrArg a12 e6
 subst e7 e8
 exact ⟨ts,us,ht,h5,hw⟩
theorem ff {f:Env->Res (Option W×Env)}{t:List W}{ts:List (List W)}{η η3:Env}{acc us:List W}(e:aA tg f (t::ts) η acc=.ok (us,η3)):∃ ηb o ηc,aY tg t η=some ηb/\f ηb=.ok (o,ηc)/\aA tg f ts (af tg ηc) (acc++o.toList)=.ok (us,η3):=by
 obtain ⟨η1,h1,h2⟩:=aa (show (ofO (aY tg t η)).bind (fun η1=>(f η1).bind fun p=>aA tg f ts (af tg p.2) (acc++p.1.toList))=_ from e)
 obtain ⟨⟨o,η2⟩,h3,h4⟩:=aa h2
 exact ⟨η1,o,η2,bK h1,h3,h4⟩
theorem gJ {n:Nat}{h:Bool}{k:Ik}{src:List E}{f:Env->Res (Option W×Env)}{te:L2.St->Hp->(Option V->Hp->Prop)->Prop}(hn:tg.length=n)(nd:tg.Nodup)(I:dG sf sg tg is)
  (hf:∀ {η o η'},f η=.ok (o,η')->Nn η η')
  (hte:∀ {val:Nat->Option V} {σ2:L2.St} {Z:Fp} {H:Hp} {Fs:Fps} {η ηc:Env} {R:Fp} {o:Option W} {Q:Option V->Hp->Prop},At K ⟨sg,val⟩ σ2 Z H Fs η R->f η=.ok (o,ηc) ->
   (∀ oy Z' H' Fs' G,At K ⟨sg,val⟩ σ2 Z' H' Fs' ηc (fun c=>R c\/G c)->(match o,oy with | some w,some y=>Rep K Z' H' w.1 w.2 y G | none,none=>True | _,_=>False)->(∀ c,R c->¬ G c)->Step Z H (tot Fs) Z' H' (fun a=>tot Fs' a\/G a)->Q oy H')->te σ2 H Q)
  {e:E} (he:∀ η,evE C e η=(evL C src η).bind (dY h k tg f)) (σ:L2.St) (H:Hp) (Q:VK) (hw:wE K sf C e σ H Q) :
  wI K sf C n k src σ H fun J H1=>∃ W:Nat->Nat->List V->Hp->Prop,(∃ m,W 0 m [] H1)/\∀ i m ys H,W i m ys H ->
   (J.stop i H/\ys.length<=sizeLine/\∀ p,H p=none->Q (.ref p) (upd H p (.lst ys))) \/
   (J.go i H/\ys.length < sizeLine/\∀ x H',J.yld i H x H'->gT K n x (a0i n none++bj σ is) H' fun σ2 H2=>(σ2.length=n+(bj σ is).length/\σ2.drop n=bj σ is)/\te σ2 H2 fun oy H3=>∃ m',m' < m/\W (i+1) m' (ys++oy.toList) H3):=by
 obtain ⟨pv,Z,Fs,η,w,η',A,ev,kk⟩:=hw
 rw [he] at ev
 obtain ⟨⟨ws,η1⟩,h1,h2⟩:=aa ev
 obtain ⟨ts,us,ht,h3,h4⟩:=jZ h2
 refine ⟨pv,Z,Fs,η,ws,η1,ts,A,h1,ht,fun J Z1 H1 Fs1 A1 s1 wk yl=>?_⟩
 obtain ⟨val,v1,A2,v2⟩:=(A1.dels (tg:=tg)).pin
 have s1':Step Z H (tot Fs) Z1 H1 (tot (cM Fs1 tg)):=s1.mono (fun _ z=>z) fun _ z=>bF z
 refine ⟨fun i m ys H=>m=ts.length-i/\i<=ts.length/\CSt K sf val σ tg f ts (af tg η1) us η' Z1 H1 (tot (cM Fs1 tg)) i ys H,⟨ts.length,by simp,a0M _,⟨⟨Z1,cM Fs1 tg,af tg η1,[],no,A2,rfl,h3,fun j hj=>by rw [au,if_pos hj],fun j hj a ha=>ha.1 hj,Nn.refl _,(Step.refl _ _ _).mono (fun _ z=>z) fun a ha=>ha.elim id fun z=>z.elim⟩,a0m _⟩⟩,?_⟩
 rintro i m ys H0 ⟨rfl,hi,⟨⟨Zi,Fsi,ηi,acc,Ga,Ai,ra,hc,htg,hfp,hnn,si⟩,hlen⟩⟩
 have st:Stay Z1 H1 H0:=A2.gd.own.stay si
 have hL:=wk.len
 by_cases hlt:i < ts.length
 ·right
  refine ⟨wk.go H0 i st hlt,a1C (a0y hlen hi) (eu hL),fun x H2 y=>?_⟩
  have hw:ts[i]?=some ts[i]:=by simp [hlt]
  rw [eG hw] at hc
  obtain ⟨ηb,o,ηc,hb,hfe,hc2⟩:=ff hc
  refine nt hn nd I si.zm st yl Ai htg hw hb y fun σ2 H3 A3 s3 hσ=>⟨hσ,?_⟩
  refine hte A3 hfe fun oy Z4 H4 Fs4 G4 A4 r4 d4 s4=>⟨ts.length-(i+1),by omega,rfl,hlt,⟨?_,?_⟩⟩
  ·have ra3:RepW K Zi H3 acc ys Ga:=ra.frame bS s3 fun _ _ z=>z
   have ra4:RepW K Z4 H4 acc ys Ga:=ra3.frame A3.gd.own s4 A3.dis
   have vv:∀ j m t,rd (af tg ηc) j=some (m,t)->val j≠none:=fun j m t e=>by
    rw [au] at e
    split at e
    ·cases e
    ·rename_i hj
     have n1:rd ηb j≠none:=fun z=>by rw [hf hfe j z] at e; cases e
     rw [c6 hb j hj] at n1
     have n2:rd (af tg η1) j≠none:=fun z=>n1 (hnn j z)
     cases e2:rd (af tg η1) j with
     | none=>exact absurd e2 n2
     | some u=>exact v2 j u.1 u.2 e2
   have A5:=(A4.dels (tg:=tg)).outof (sf:=sf) (σ:=σ) (val:=val) (fun j hj=>by rw [au,if_pos hj]) vv Ai.lk Ai.ln
   have s5:Step Z1 H1 (tot (cM Fs1 tg)) Z4 H4 (fun a=>tot (cM Fs4 tg) a\/(Ga a\/G4 a)):=by
    refine (si.trans (((s3.frame (fun a=>tot Fsi a\/Ga a)).mono (fun a ha=>ha.elim (fun z=>z.elim) id) fun a ha=>.inr ha).trans (s4.frame Ga))).mono (fun _ z=>z) fun a ha=>?_
    rcases ha with z | z | z
    ·exact .inl (.inl (bF z))
    ·exact .inr z
    ·exact .inl (.inr z)
   refine ⟨Z4,cM Fs4 tg,af tg ηc,acc++o.toList,fun c=>Ga c\/G4 c,A5,?_,hc2,fun j hj=>by rw [au,if_pos hj],fun j hj a ha=>ha.1 hj,fun j e=>?_,s5⟩
   ·cases o with
    | none =>
     cases oy with
     | none=>rw [a1c,a1c,a0F,a0F]; exact ra4.mono fun _ z=>.inl z
     | some _=>exact r4.elim
    | some w4 =>
     cases oy with
     | none=>exact r4.elim
     | some y4=>exact RepW.append (fun _ z=>.inl z) (fun _ z=>.inr z) d4 ra4 (RepW.one r4)
   ·have e':=hnn j e
    rw [au]
    split
    ·rfl
    ·rename_i hj
     exact hf hfe j (by rw [c6 hb j hj]; exact e')
  ·have:ys.length<=i:=hlen
   cases oy<;>simp<;>omega
 ·left
  have hi':i=ts.length:=by omega
  subst hi'
  rw [a2s] at hc
  cases hc
  refine ⟨wk.stop H0 _ st (a0m _),bo (a0y hlen hL),jO Ai.own Ai.gd.zal ra (a0y hlen hL) h4 (bP (Ai.unpin v1) (s1'.trans si) kk)⟩
theorem fI {n:Nat}{h:Bool}{k:Ik}{src:List E}{elt:E}(hn:tg.length=n)(nd:tg.Nodup)(I:dG sf sg tg is)(σ:L2.St)(H:Hp)(Q:VK)(hw:wE K sf C (.comp h k src tg none elt) σ H Q):ir n (wI K sf C n k src) is (gT K n) (wE K sg C elt) σ H Q:=by
 refine gJ (te:=fun σ2 H Q=>wE K sg C elt σ2 H fun y H'=>Q (some y) H') hn nd I (fun {η o η'} hf=>?_) (fun {val σ2 Z H Fs η ηc R o Q} A hf k=>?_) (fun η=>rfl) σ H Q hw
 ·obtain ⟨⟨u,η4⟩,h7,h8⟩:=aa (show (evE C elt η).bind cG=_ from hf)
  cases h8
  exact ak elt h7
 ·obtain ⟨⟨u,η4⟩,h7,h8⟩:=aa (show (evE C elt η).bind cG=_ from hf)
  cases h8
  exact gj A h7 fun v Z' H' Fs' G B r d s _=>k (some v) Z' H' Fs' G B r d s
theorem kb {n:Nat}{h:Bool}{k:Ik}{src:List E}{elt cnd:E}(hn:tg.length=n)(nd:tg.Nodup)(I:dG sf sg tg is)(σ:L2.St)(H:Hp)(Q:VK)(hw:wE K sf C (.comp h k src tg (some cnd) elt) σ H Q):cN n (wI K sf C n k src) is (gT K n) (wT K sg C cnd) (wE K sg C elt) σ H Q:=by
 have main:=gJ (te:=fun σ2 H Q=>wT K sg C cnd σ2 H fun ok H2=>if ok=true then wE K sg C elt σ2 H2 fun y H'=>Q (some y) H' else Q none H2) hn nd I (f:=bZ (evE C cnd) (evE C elt)) (fun {η o η'} hf=>by
  obtain ⟨⟨u,η4⟩,h7,h8⟩:=aa (show (evE C cnd η).bind (onT (bJ (evE C elt)) (okW none))=_ from hf)
  obtain ⟨d,h9,h10⟩:=a6 h8
  cases d with
  | true =>
   rw [if_pos rfl] at h10
   obtain ⟨⟨u2,η5⟩,h11,h12⟩:=aa (show (evE C elt η4).bind cG=_ from h10)
   cases h12
   exact (ak cnd h7).trans (ak elt h11)
  | false =>
   rw [if_neg a0f] at h10
   cases h10
   exact ak cnd h7) (fun {val σ2 Z H Fs η ηc R o Q} A hf k=>by
  obtain ⟨⟨u,η4⟩,h7,h8⟩:=aa (show (evE C cnd η).bind (onT (bJ (evE C elt)) (okW none))=_ from hf)
  obtain ⟨d,h9,h10⟩:=a6 h8
  refine jr A.bare h7 h9 fun Z1 H1 Fs1 A1 s1=>?_
  have A1':=A.frame (A1.mono (G':=no) fun _ z=>z) (s1.mono (fun _ z=>z) fun a ha=>ha.elim id fun z=>z.elim)
  have A2:=A1'.1.mono (G':=R) fun _ z=>.inl z
  cases d with
  | true =>
   rw [if_pos rfl] at h10 ⊢
   obtain ⟨⟨u2,η5⟩,h11,h12⟩:=aa (show (evE C elt η4).bind cG=_ from h10)
   cases h12
   exact gj A2 h11 fun v Z' H' Fs' G B r d s _=>k (some v) Z' H' Fs' G B r d (s1.trans s)
  | false =>
   rw [if_neg a0f] at h10 ⊢
   cases h10
   exact k none Z1 H1 Fs1 no (A2.mono fun _ z=>z.elim id fun q=>q.elim) trivial (fun _ _ z=>z) (s1.mono (fun _ z=>z) fun a ha=>ha.elim id fun z=>z.elim)) (fun η=>rfl) σ H Q hw
 refine (?_:∀ {a b:It->Hp->Prop},(∀ J H1,a J H1->b J H1)->wI K sf C n k src σ H a->wI K sf C n k src σ H b) ?_ main
 ·rintro a b hab ⟨pv,Z,Fs,η,ws,η',ts,A,ev,ht,kk⟩
  exact ⟨pv,Z,Fs,η,ws,η',ts,A,ev,ht,fun J Z' H' Fs' A' s' w' y'=>hab J H' (kk J Z' H' Fs' A' s' w' y')⟩
 ·rintro J H1 ⟨W,w0,turn⟩
  refine ⟨W,w0,fun i m ys H w=>?_⟩
  rcases turn i m ys H w with c | ⟨go,hz,step⟩
  ·exact .inl c
  ·refine .inr ⟨go,hz,fun x H' y=>?_⟩
   have st:=step x H' y
   simp only [a2P,a1c,a0F] at st
   exact st
end
end MR
namespace MR
open L2 L3 M
open PySem (Addr Str sizeLine)
section
variable {K:a0a}{sl:Cf}{sf sg:Nat->Option Nat}{C:Call}{σ σ2:L2.St}{Z Z' Z1:Fp}{H H' H1:Hp}{Fs Fs' Fs1:Fps}{η η' η1 ηb:Env}{G G' G1 R F:Fp}{tg is:List Nat}{pv val:Nat->Option V}
noncomputable def iZ (Fs:Fps)(i:Nat)(G:Fp):Fps:=fun j a=>(j=i/\G a)\/(j≠i/\Fs j a)
theorem bH {i:Nat}{a:Addr}(h:tot (iZ Fs i G) a):tot Fs a\/G a:=by
 obtain ⟨j,h | h⟩:=h
 ·exact .inr h.2
 ·exact .inl ⟨j,h.2⟩
theorem At.put {i:Nat}{w:W}{x:V}(A:At K sl σ Z H Fs η G)(r:Rep K Z H w.1 w.2 x G1)(h1:∀ a,G1 a->G a)(h2:∀ a,R a->G a)(hd:∀ a,R a->¬ G1 a)(hl:∀ j,sl.sl i=some j->σ[j]?=some (some x))(hp:∀ u,sl.pv i=some u->x=u) :
  At K sl σ Z H (iZ Fs i G1) (M.put η i w) R:=by
 refine ⟨⟨fun a h=>(bH h).elim (A.gd.own a) fun q=>A.own a (h1 a q),fun j k a hj hk=>?_,A.gd.zal⟩,fun j m t e=>?_,fun a h=>A.own a (h2 a h),fun a h q=>(bH q).elim (A.dis a (h2 a h)) (hd a h),A.lk,A.ln⟩
 ·rcases hj with ⟨rfl,hj⟩ | ⟨nj,hj⟩
  ·rcases hk with ⟨rfl,_⟩ | ⟨nk,hk⟩
   ·rfl
   ·exact absurd ⟨k,hk⟩ (A.dis a (h1 a hj))
  ·rcases hk with ⟨rfl,hk⟩ | ⟨nk,hk⟩
   ·exact absurd ⟨j,hj⟩ (A.dis a (h1 a hk))
   ·exact A.gd.dis j k a hj hk
 ·rw [a7] at e
  split at e
  ·rename_i hc
   cases e
   obtain ⟨rfl,_⟩:=hc
   exact ⟨x,r.mono fun a h=>.inl ⟨rfl,h⟩,hl,hp⟩
  ·rename_i hc
   obtain ⟨v,r',h'⟩:=A.env j m t e
   by_cases hj:j=i
   ·subst hj
    exact absurd ⟨rfl,cH e⟩ hc
   ·exact ⟨v,r'.mono fun a h=>.inr ⟨hj,h⟩,h'⟩
noncomputable def wA (K:a0a)(sl:Nat->Option Nat)(C:Call)(es:List E):TA:=fun σ H Q=>∃ pv Z Fs η ws η',At K ⟨sl,pv⟩ σ Z H Fs η no/\evA C es η=.ok (ws,η') /\
 ∀ vs Z' H' Fs' G,At K ⟨sl,pv⟩ σ Z' H' Fs' η' G->RepW K Z' H' ws vs G->Step Z H (tot Fs) Z' H' (fun a=>tot Fs' a\/G a)->(∀ (k i:Nat) (u:V),es[k]?=some (.io i)->pv i=some u->vs[k]?=some u)->Q vs H'
theorem Au (σ:L2.St)(H:Hp)(Q:List V->Hp->Prop)(h:wA K sf C [] σ H Q):Ay σ H Q:=by
 obtain ⟨pv,Z,Fs,η,ws,η',A,ev,k⟩:=h
 cases ev
 exact k [] Z H Fs no A rfl ((Step.refl _ _ _).mono (fun _ z=>z) fun a ha=>ha.elim id fun z=>z.elim) fun k i u h _=>by simp at h
theorem E5 {es:List E}{ws:List W}{Q:List V->Hp->Prop}(A:At K sl σ Z H Fs η R)(ev:evA C es η=.ok (ws,η'))
  (k:∀ vs Z' H' Fs' G,At K sl σ Z' H' Fs' η' (fun c=>R c\/G c)->RepW K Z' H' ws vs G->(∀ c,R c->¬ G c)->Step Z H (tot Fs) Z' H' (fun a=>tot Fs' a\/G a) ->
   Step Z H (fun c=>tot Fs c\/R c) Z' H' (fun c=>tot Fs' c\/(R c\/G c))->(∀ (k i:Nat) (u:V),es[k]?=some (.io i)->sl.pv i=some u->vs[k]?=some u)->Q vs H'):wA K sl.sl C es σ H Q :=
 ⟨sl.pv,Z,Fs,η,ws,η',A.bare,ev,fun v Z' H' Fs' G B r s hio=>by
  obtain ⟨h1,h2,h3⟩:=A.frame B s
  exact k v Z' H' Fs' G h1 r h3 s h2 hio⟩
theorem oK {e:E}{es:List E}(he:∀ i,e≠.io i)(σ:L2.St)(H:Hp)(Q:List V->Hp->Prop)(h:wA K sf C (e::es) σ H Q):l7 (wE K sf C e) (wA K sf C es) σ H Q:=by
 obtain ⟨pv,Z,Fs,η,ws,η',A,ev,k⟩:=h
 obtain ⟨w,η1,us,h1,h2,rfl⟩:=fY he ev
 refine gj A h1 fun x Z1 H1 Fs1 G1 A1 r1 _ s1 _=>?_
 have A1':=A1.mono (G':=G1) fun _ z=>.inr z
 refine E5 A1' h2 fun xs Z2 H2 Fs2 G2 A2 r2 d2 s2 t2 hio=>?_
 refine k (x::xs) Z2 H2 Fs2 _ A2 ⟨x,xs,G1,G2,rfl,fun _ z=>.inl z,fun _ z=>.inr z,d2,r1.frame A1.gd.own s2 A1'.dis,r2⟩ (s1.trans t2) fun k i u h hu=>?_
 cases k with
 | zero=>exact absurd (a0t h) (he i)
 | succ k=>exact hio k i u h hu
theorem m9 {i j:Nat}{es:List E}(hs:sf i=some j)(σ:L2.St)(H:Hp)(Q:List V->Hp->Prop)(h:wA K sf C (.io i::es) σ H Q):l7 (iN j) (wA K sf C es) σ H Q:=by
 obtain ⟨pv,Z,Fs,η,ws,η',A,ev,k⟩:=h
 obtain ⟨us,η1,w,h1,h2,rfl,rfl⟩:=ib ev
 obtain ⟨m,t⟩:=w
 cases e0:rd η i with
 | none=>rw [dy es h1 i e0] at h2; cases h2
 | some w0 =>
  obtain ⟨v,_,hv⟩:=A.env i w0.1 w0.2 e0
  refine ⟨v,hv.1 j hs,pv,Z,Fs,η,us,η1,A,h1,fun xs Z2 H2 Fs2 G2 A2 r2 s2 hio=>?_⟩
  obtain ⟨v',r,hv'⟩:=A2.env i m t h2
  have ev':v'=v:=by
   have e1:=hv.1 j hs
   rw [hv'.1 j hs] at e1
   exact a0t (a0t e1)
  subst ev'
  have A3:At K ⟨sf,pv⟩ σ Z2 H2 (iD Fs2 i) (del η1 i) (fun a=>Fs2 i a\/G2 a):=by
   refine ⟨⟨fun a ⟨l,h1,h2⟩=>A2.gd.own a ⟨l,h2⟩,fun l l' a h1 h2=>A2.gd.dis l l' a h1.2 h2.2,A2.gd.zal⟩,fun l m' t' e=>?_,fun a ha=>ha.elim (fun z=>A2.gd.own a ⟨i,z⟩) (A2.own a),fun a ha ⟨l,h1,h2⟩=>ha.elim (fun z=>h1 (A2.gd.dis l i a h2 z)) fun z=>A2.dis a z ⟨l,h2⟩,A2.lk,A2.ln⟩
   rw [a7] at e
   split at e
   ·cases e
   ·rename_i hne
    obtain ⟨v'',r',hv''⟩:=A2.env l m' t' e
    have hli:l≠i:=fun z=>hne ⟨z,cH h2⟩
    exact ⟨v'',r'.mono fun a ha=>⟨hli,ha⟩,hv''⟩
  refine k (v'::xs) Z2 H2 (iD Fs2 i) _ A3 ⟨v',xs,Fs2 i,G2,rfl,fun _ z=>.inl z,fun _ z=>.inr z,fun a z y=>A2.dis a y ⟨i,z⟩,r,r2⟩ (s2.mono (fun _ z=>z) fun a ha=>?_) fun k i' u h hu=>?_
  ·rcases ha with ⟨l,_,z⟩ | z | z
   ·exact .inl ⟨l,z⟩
   ·exact .inl ⟨i,z⟩
   ·exact .inr z
  ·cases k with
   | zero=>cases h; rw [<- hv'.2 u hu]; rfl
   | succ k=>exact hio k i' u h hu
noncomputable def atV (io:List Nat)(vs:List V):List V:=io.filterMap fun i=>vs[i]?
noncomputable def spC (K:a0a)(C:Call)(f:Nat)(io:List Nat):List V->Hp->VK->Prop:=fun vs H Q=>∃ Z ws G w bs,RepW K Z H ws vs G/\Own Z H G/\(∀ a,Z a->H a≠none)/\C f ws=.ok (w,bs) /\
 ∀ v Z' H' G1 G2,Rep K Z' H' w.1 w.2 v G1->RepW K Z' H' bs (atV io vs) G2->(∀ a,G1 a->¬ G2 a)->Own Z' H' (fun a=>G1 a\/G2 a)->Step Z H G Z' H' (fun a=>G1 a\/G2 a)->Q v H'
noncomputable def f6:List E->Nat->List Nat
 | [],_=>[]
 | .io _::es,n=>n::f6 es (n+1)
 | _::es,n=>f6 es (n+1)
theorem xQ {vs:List V}:∀ {es:List E} {n:Nat},(∀ (k i:Nat) (u:V),es[k]?=some (.io i)->pv i=some u->vs[n+k]?=some u)->(∀ i∈ios es,pv i≠none)->(ios es).filterMap pv=atV (f6 es n) vs
 | [],_,_,_=>rfl
 | e::es,n,h,hv=>by
  have rest:(∀ i∈ios es,pv i≠none)->(ios es).filterMap pv=atV (f6 es (n+1)) vs:=fun q=>xQ (fun k i u hk hu=>by have:=h (k+1) i u hk hu; rw [show n+(k+1)=n+1+k by omega] at this; exact this) q
  cases e with
  | io i =>
   cases hu:pv i with
   | none=>exact absurd hu (hv i (by simp [ios]))
   | some u =>
    have h0:=h 0 i u rfl hu
    rw [Nat.add_zero] at h0
    show (i::ios es).filterMap pv=(n::f6 es (n+1)).filterMap fun i=>vs[i]?
    rw [a0R,a0R,hu,h0]
    exact congrArg (u::·) (rest fun j hj=>hv j (by simp [ios,hj]))
  | _=>exact rest fun j hj=>hv j hj
theorem At.putAll:∀ {is:List Nat} {bs:List W} {Fs:Fps} {η:Env} {G2:Fp},At K ⟨sf,val⟩ σ Z H Fs η (fun a=>R a\/G2 a)->(∀ a,R a->¬ G2 a)->RepW K Z H bs (is.filterMap val) G2->(∀ i∈is,val i≠none)->∃ Fs',At K ⟨sf,val⟩ σ Z H Fs' (M.putAll is bs η) R/\∀ a,tot Fs' a->tot Fs a\/G2 a
 | [],bs,Fs,η,G2,A,_,_,_=>⟨Fs,A.mono fun _ z=>.inl z,fun _ z=>.inl z⟩
 | i::is,[],Fs,η,G2,A,_,_,_=>⟨Fs,A.mono fun _ z=>.inl z,fun _ z=>.inl z⟩
 | i::is,b::bs,Fs,η,G2,A,hd,r,hv=>by
  cases hu:val i with
  | none=>exact absurd hu (hv i a0e)
  | some u =>
   rw [a0R,hu] at r
   obtain ⟨x,r',A1,A2,e,a1,a2,ad,p,q⟩:=r
   cases e
   have B:=At.put (i:=i) (R:=fun a=>R a\/A2 a) (G1:=A1) A p (fun a h=>.inr (a1 a h)) (fun a h=>h.imp id (a2 a)) (fun a h q=>h.elim (fun z=>hd a z (a1 a q)) fun z=>ad a q z) (fun j hj=>A.lk i u j hu hj) (fun u' hu'=>by rw [show val i=some u' from hu'] at hu; cases hu; rfl)
   obtain ⟨Fs',B1,B2⟩:=At.putAll (is:=is) (bs:=bs) B (fun a h q=>hd a h (a2 a q)) q fun j hj=>hv j (a0d _ hj)
   exact ⟨Fs',B1,fun a h=>(B2 a h).elim (fun z=>(bH z).imp id (a1 a)) fun z=>.inr (a2 a z)⟩
theorem wK {f:Nat}{es:List E}{io:List Nat}(hio:f6 es 0=io\/ios es=[])(σ:L2.St)(H:Hp)(Q:VK)(h:wE K sf C (.call f es) σ H Q):wA K sf C es σ H fun vs H1=>spC K C f io vs H1 Q:=by
 obtain ⟨pv,Z,Fs,η,w,η',A,ev,k⟩:=h
 obtain ⟨⟨ws,η1⟩,h1,h2⟩:=aa (show (evA C es η).bind (fU C f (ios es))=_ from ev)
 obtain ⟨⟨u,bs⟩,h3,h4⟩:=aa (show (C f ws).bind (jd (ios es) η1)=_ from h2)
 cases h4
 obtain ⟨val,v1,A2,v2⟩:=A.pin
 have hvn:∀ i∈ios es,val i≠none:=fun i hi=>by
  cases e:rd η i with
  | none=>exact absurd e (fA es h1 i hi)
  | some q=>exact v2 i q.1 q.2 e
 refine ⟨val,Z,Fs,η,ws,η1,A2,h1,fun vs Z1 H1 Fs1 G B r s hv=>?_⟩
 refine ⟨Z1,ws,G,u,bs,r,B.own,B.gd.zal,h3,fun v Z2 H2 G1 G2 r1 r2 d o st=>?_⟩
 obtain ⟨B2,s2⟩:=B.op o st
 have fin:∃ Fs',At K ⟨sf,val⟩ σ Z2 H2 Fs' (M.putAll (ios es) bs η1) G1/\∀ a,tot Fs' a->tot Fs1 a\/G2 a:=by
  rcases hio with e | e
  ·have e2:=xQ (pv:=val) (es:=es) (n:=0) (vs:=vs) (fun k i u' hk hu=>by rw [a2A]; exact hv k i u' hk hu) hvn
   rw [e] at e2
   rw [<- e2] at r2
   exact At.putAll B2 d r2 hvn
  ·rw [e]
   exact ⟨Fs1,B2.mono fun _ z=>.inl z,fun _ z=>.inl z⟩
 obtain ⟨Fs',B3,hF⟩:=fin
 refine k v Z2 H2 Fs' G1 (B3.unpin v1) r1 ((s.trans s2).mono (fun _ z=>z) fun a ha=>?_)
 rcases ha with z | z
 ·exact (hF a z).imp id .inr
 ·exact .inr (.inl z)
end
end MR
namespace MR
open L2 L3 M
open PySem (Addr Str sizeLine)
section
variable {K:a0a}{sl:Cf}{sf sg:Nat->Option Nat}{C:Call}{σ σ2:L2.St}{Z Z' Z1:Fp}{H H' H1:Hp}{Fs Fs' Fs1:Fps}{η η' η1 ηb:Env}{G G' G1 R F F':Fp}{tg is vs ls:List Nat}{pv val:Nat->Option V}
theorem ou (o:Option W):toS (toS o)=toS o:=by
 cases o with
 | none=>rfl
 | some w=>rfl
theorem fw:∀ (vs:List Nat) (η:Env) (i:Nat),rd (share vs η) i=if i∈vs then toS (rd η i) else rd η i
 | [],η,i=>by simp [share]
 | v::vs,η,i=>by
  show rd (share vs (wr η v (toS (rd η v)))) i=_
  rw [fw vs,a7]
  by_cases h2:i=v
  ·subst h2
   rw [if_pos (show i∈i::vs from a0e)]
   by_cases hl:i < η.length
   ·rw [if_pos (show i=i/\i < η.length from ⟨rfl,hl⟩)]
    split
    ·exact ou _
    ·rfl
   ·have e:rd η i=none:=by
     cases e:rd η i with
     | none=>rfl
     | some w=>exact absurd (cH e) hl
    rw [if_neg (show ¬ (i=i/\i < η.length) from fun h=>hl h.2),e]
    split<;>rfl
  ·rw [if_neg (show ¬ (i=v/\v < η.length) from fun h=>h2 h.1)]
   by_cases h1:i∈vs
   ·rw [if_pos h1,if_pos (a0d _ h1)]
   ·rw [if_neg h1,if_neg (by simp [h1,h2])]
theorem jS:∀ (η:Env) (i:Nat),rd (eY η) i=none
 | [],_=>rfl
 | _::_,0=>rfl
 | _::η,i+1=>jS η i
theorem lQ:∀ (vs:List Nat) (η0 η:Env) (i:Nat) (w:W),rd (kH vs η0 η) i=some w->rd η i=some w\/(i∈vs/\toS (rd η0 i)=some w)
 | [],_,_,_,_,h=>.inl h
 | v::vs,η0,η,i,w,h=>by
  rcases lQ vs η0 (wr η v (toS (rd η0 v))) i w h with e | e
  ·rw [a7] at e
   split at e
   ·rename_i hc; obtain ⟨rfl,_⟩:=hc; exact .inr ⟨a0e,e⟩
   ·exact .inl e
  ·exact .inr ⟨a0d _ e.1,e.2⟩
theorem ja:∀ (vs:List Nat) (η0 η:Env) (i:Nat) (w:W),rd (fS vs η0 η) i=some w->rd η i=some w\/lfO (rd η0 i)=some w
 | [],_,_,_,_,h=>.inl h
 | v::vs,η0,η,i,w,h=>by
  rcases ja vs η0 (wr η v (lfO (rd η0 v))) i w h with e | e
  ·rw [a7] at e
   split at e
   ·rename_i hc; obtain ⟨rfl,_⟩:=hc; exact .inr e
   ·exact .inl e
  ·exact .inr e
theorem wx {i:Nat}{w:W}(h:rd (dh vs ls η) i=some w):∃ m t,rd η i=some (m,t)/\((i∈vs/\w=(.s,t))\/(t.leaf=true/\w=(.d,t))):=by
 rcases ja ls η _ i w h with e | e
 ·rcases lQ vs η _ i w e with e | ⟨hi,e⟩
  ·rw [jS] at e; cases e
  ·cases q:rd η i with
   | none=>rw [q] at e; cases e
   | some u=>rw [q] at e; cases e; exact ⟨u.1,u.2,rfl,.inl ⟨hi,rfl⟩⟩
 ·cases q:rd η i with
  | none=>rw [q] at e; cases e
  | some u =>
   rw [q] at e
   obtain ⟨m,t⟩:=u
   have e':(if t.leaf=true then some ((.d,t):W) else none)=some w:=e
   split at e'
   ·rename_i hl; cases e'; exact ⟨m,t,rfl,.inr ⟨hl,rfl⟩⟩
   ·cases e'
noncomputable def cB (Fs:Fps)(vs:List Nat):Fp:=fun a=>∃ i,i∈vs/\Fs i a
noncomputable def pZ:Fps:=fun _ _=>False
theorem b6 {a:Addr}(h:cB Fs vs a):tot Fs a:=let ⟨i,_,h⟩:=h; ⟨i,h⟩
theorem iS {a:Addr}(h:tot pZ a):False:=let ⟨_,h⟩:=h; h
theorem At.quiet (A:At K sl σ Z H Fs η no):At K sl σ (fun a=>Z a\/cB Fs vs a) H pZ (dh vs ls η) no:=by
 refine ⟨⟨fun a h=>(iS h).elim,fun _ _ _ h=>h.elim,fun a h=>h.elim (A.gd.zal a) fun q=>?_⟩,fun i m t e=>?_,bS,fun _ z=>z.elim,A.lk,A.ln⟩
 ·obtain ⟨_,xs,e⟩:=A.gd.own a (b6 q)
  rw [e]; simp
 ·obtain ⟨m',t',e1,e2⟩:=wx e
  obtain ⟨v,r,h⟩:=A.env i m' t' e1
  rcases e2 with ⟨hi,e2⟩ | ⟨hl,e2⟩
  ·cases e2
   exact ⟨v,(r.sh.zmono fun a h=>h.imp id fun q=>⟨i,hi,q⟩).sany,h⟩
  ·cases e2
   exact ⟨v,r.leaf (fun _ _ _ q=>q) hl,h⟩
mutual
theorem Rep.dany:∀ {t:T} {v:V} {G:Fp},Rep K Z H .d t v G->Rep K Z' H .d t v G
 | .non,_,_,h=>h
 | .bl _,_,_,h=>h
 | .int _,_,_,h=>h
 | .str _,_,_,h=>h
 | .scr _,_,_,h=>h
 | .tup ts,_,_,⟨a,xs,e,q,l,r⟩=>⟨a,xs,e,q,l,RepL.dany r⟩
 | .lst ts,_,_,⟨a,xs,e,l,q,r⟩=>⟨a,xs,e,l,q,RepL.dany r⟩
 | .dct _ _,_,_,⟨a,xs,e,l,q,n,hl,r⟩=>⟨a,xs,e,l,q,n,hl,RepL.dany r⟩
 | .ins _ _ _,_,_,h=>h.elim
 | .gone,_,_,h=>h
theorem RepL.dany:∀ {ts:List T} {xs:List V} {G:Fp},RepL K Z H .d ts xs G->RepL K Z' H .d ts xs G
 | [],_,_,h=>h
 | t::ts,xs,_,⟨x,r,G1,G2,e,h1,h2,hd,p,q⟩=>⟨x,r,G1,G2,e,h1,h2,hd,Rep.dany p,RepL.dany q⟩
end
theorem dm (A:At K sl σ Z H Fs η no)(B:Own Z' H' G)(zal:∀ a,Z' a->H' a≠none)(s:Step (fun a=>Z a\/cB Fs vs a) H F Z' H' (fun a=>F' a\/G a))(hF:∀ a,¬ F a) :
  At K sl σ (fun a=>Z' a/\¬ cB Fs vs a) H' Fs η G/\Step Z H (tot Fs) (fun a=>Z' a/\¬ cB Fs vs a) H' (fun a=>tot Fs a\/G a):=by
 have keep:∀ a o,H a=some o->H' a=some o:=fun a o e=>s.keep a o e (hF a)
 have zz:∀ a,Z a->Z' a/\¬ cB Fs vs a:=fun a h=>⟨s.zm a (.inl h),fun q=>(A.gd.own a (b6 q)).1 h⟩
 have nz:∀ a,tot Fs a->¬ (Z' a/\¬ cB Fs vs a):=fun a h q=>by
  obtain ⟨nz,xs,e⟩:=A.gd.own a h
  rcases s.zn a q.1 with z | z | z
  ·exact z.elim nz q.2
  ·exact hF a z
  ·rw [e] at z; cases z
 have gd:∀ a,G a->¬ tot Fs a:=fun a h q=>by
  obtain ⟨_,xs,e⟩:=A.gd.own a q
  rcases s.fn a (.inr h) with z | z
  ·exact hF a z
  ·rw [e] at z; cases z
 refine ⟨⟨⟨fun a h=>?_,A.gd.dis,fun a h=>zal a h.1⟩,fun i m t e=>?_,fun a h=>⟨fun q=>(B a h).1 q.1,(B a h).2⟩,gd,A.lk,A.ln⟩,⟨fun a o e _=>keep a o e,zz,fun a h=>?_,fun a h=>?_,s.al,fun _ a h=>zal a h.1⟩⟩
 ·obtain ⟨_,xs,e⟩:=A.gd.own a h
  exact ⟨nz a h,xs,keep a _ e⟩
 ·obtain ⟨v,r,h⟩:=A.env i m t e
  refine ⟨v,r.keep ⟨fun a o _ e=>keep a o e,fun a xs e=>?_,fun a o u e=>keep a _ e⟩ zz fun a o _ e=>keep a o e,h⟩
  rcases e with e | ⟨u,e⟩
  ·exact .inl (keep a _ e)
  ·exact .inr ⟨u,keep a _ e⟩
 ·rcases s.zn a h.1 with z | z | z
  ·exact z.elim .inl fun q=>absurd q h.2
  ·exact (hF a z).elim
  ·exact .inr (.inr z)
 ·rcases h with h | h
  ·exact .inl h
  ·exact (s.fn a (.inr h)).elim (fun z=>(hF a z).elim) .inr
theorem At.share (A:At K sl σ Z H Fs η G):At K sl σ (fun a=>Z a\/cB Fs vs a) H (cM Fs vs) (M.share vs η) G/\∀ {Z0 H0 F0},Step Z0 H0 F0 Z H (fun a=>tot Fs a\/G a)->Step Z0 H0 F0 (fun a=>Z a\/cB Fs vs a) H (fun a=>tot (cM Fs vs) a\/G a):=by
 refine ⟨⟨⟨fun a h=>?_,fun i j a h1 h2=>A.gd.dis i j a h1.2 h2.2,fun a h=>h.elim (A.gd.zal a) fun q=>?_⟩,fun i m t e=>?_,fun a h=>⟨fun z=>z.elim (A.own a h).1 fun q=>A.dis a h (b6 q),(A.own a h).2⟩,fun a h q=>A.dis a h (bF q),A.lk,A.ln⟩,fun {Z0 H0 F0} s=>⟨s.keep,fun a h=>.inl (s.zm a h),fun a h=>h.elim (s.zn a) fun q=>.inr (s.fn a (.inl (b6 q))),fun a h=>s.fn a (h.imp bF id),s.al,fun z a h=>h.elim (s.za z a) fun q=>?_⟩⟩
 ·obtain ⟨i,hi,h'⟩:=h
  obtain ⟨nz,xs,e⟩:=A.gd.own a ⟨i,h'⟩
  exact ⟨fun z=>z.elim nz fun ⟨j,hj,q⟩=>hi (A.gd.dis i j a h' q ▸ hj),xs,e⟩
 ·obtain ⟨_,xs,e⟩:=A.gd.own a (b6 q)
  rw [e]; simp
 ·rw [fw] at e
  split at e
  ·rename_i hi
   cases q:rd η i with
   | none=>rw [q] at e; cases e
   | some u =>
    rw [q] at e; cases e
    obtain ⟨v,r,h⟩:=A.env i u.1 u.2 q
    exact ⟨v,(r.sh.zmono fun a h=>h.imp id fun q=>⟨i,hi,q⟩).sany,h⟩
  ·rename_i hi
   obtain ⟨v,r,h⟩:=A.env i m t e
   exact ⟨v,(r.zmono fun a h=>.inl h).mono fun a h=>⟨hi,h⟩,h⟩
 ·obtain ⟨_,xs,e⟩:=A.gd.own a (b6 q)
  rw [e]; simp
theorem j5 {x:X}{e:E}{w:W}{Q:VK}(A:At K sl σ Z H Fs η no)(ev:evX C x e η=.ok (w,η'))(k:∀ v Z' H' Fs' G,At K sl σ Z' H' Fs' η' G->Rep K Z' H' w.1 w.2 v G->Step Z H (tot Fs) Z' H' (fun a=>tot Fs' a\/G a)->Q v H'):wE K sl.sl C e σ H Q:=by
 cases x with
 | q vs ls =>
  obtain ⟨⟨u,η2⟩,h1,h2⟩:=aa (show (evE C e (dh vs ls η)).bind (kX vs η)=_ from ev)
  cases h2
  generalize hm0:M.lf u.1 u.2=m0 at k
  refine ⟨sl.pv,_,pZ,_,_,η2,A.quiet (vs:=vs) (ls:=ls),h1,fun v Z' H' Fs' G B r0 s=>?_⟩
  have r:=r0.lf
  rw [hm0] at r
  obtain ⟨B1,s1⟩:=dm A B.own B.gd.zal s fun a h=>iS h
  have other:Q v H'\/m0=.d:=by
   by_cases hd:m0=.d
   ·exact .inr hd
   ·refine .inl ?_
    have e':after m0 vs η=share vs η:=by
     cases hm:m0 with
     | d=>exact absurd hm hd
     | s=>rfl
     | o m=>rfl
    obtain ⟨B2,s2⟩:=B1.share (vs:=vs)
    have zz:∀ a,(Z' a/\¬ cB Fs vs a)\/cB Fs vs a->Z' a:=fun a h=>h.elim a3j fun q=>s.zm a (.inr q)
    have zz':∀ a,Z' a->(Z' a/\¬ cB Fs vs a)\/cB Fs vs a:=fun a h=>(a3K (cB Fs vs a)).elim .inr fun q=>.inl ⟨h,q⟩
    exact k v _ H' _ G (e' ▸ B2) (r.zmono zz') (s2 s1)
  rcases other with q | hd
  ·exact q
  ·have e':after m0 vs η=η:=by rw [hd]; rfl
   refine k v _ H' Fs G (e'.symm ▸ B1) ?_ s1
   subst hd
   exact r.dany
 | l vs =>
  obtain ⟨B,s0⟩:=A.share (vs:=vs)
  have s1:=s0 ((Step.refl Z H (tot Fs)).mono (F2:=fun a=>tot Fs a\/no a) (fun _ z=>z) fun a h=>h.elim id fun z=>z.elim)
  refine ⟨sl.pv,_,_,_,w,η',B,ev,fun v Z' H' Fs' G B' r s=>k v Z' H' Fs' G B' r ((s1.mono (fun _ z=>z) fun a h=>.inl h).trans s)⟩
theorem En {x:X}{e:E}{b:Bool}{Q:Bool->Hp->Prop}(A:At K sl σ Z H Fs η no)(ev:evT C x e η=.ok (b,η'))(k:∀ Z' H' Fs',At K sl σ Z' H' Fs' η' no->Step Z H (tot Fs) Z' H' (tot Fs')->Q b H'):wT K sl.sl C e σ H Q:=by
 cases x with
 | q vs ls =>
  obtain ⟨⟨u,η2⟩,h1,h2⟩:=aa (show (evE C e (dh vs ls η)).bind (kT η)=_ from ev)
  obtain ⟨b',h3,e3⟩:=aq (show ret η (truth u.2)=_ from h2)
  cases e3
  refine ⟨sl.pv,_,pZ,_,u,η2,b,A.quiet (vs:=vs) (ls:=ls),h1,h3,fun Z' H' Fs' B s=>?_⟩
  obtain ⟨B1,s1⟩:=dm (G:=no) A bS B.gd.zal (s.mono (F2:=fun a=>tot Fs' a\/no a) (fun _ z=>z) fun a h=>h.elim id fun z=>z.elim) fun a h=>iS h
  exact k _ H' Fs B1 (s1.mono (fun _ z=>z) fun a h=>.inl h)
 | l vs =>
  obtain ⟨⟨u,η2⟩,h1,h2⟩:=aa (show (evE C e (M.share vs η)).bind kT2=_ from ev)
  obtain ⟨b',h3,e3⟩:=aq (show ret η2 (truth u.2)=_ from h2)
  cases e3
  obtain ⟨B,s0⟩:=A.share (vs:=vs)
  have s1:=s0 ((Step.refl Z H (tot Fs)).mono (F2:=fun a=>tot Fs a\/no a) (fun _ z=>z) fun a h=>h.elim id fun z=>z.elim)
  exact ⟨sl.pv,_,_,_,u,_,b,B,h1,h3,fun Z' H' Fs' B' s=>k Z' H' Fs' B' ((s1.mono (fun _ z=>z) fun a h=>.inl h).trans s)⟩
end
end MR
namespace MR
open L2 L3 M
open PySem (Addr Str sizeLine)
section
variable {K:a0a}{sl:Cf}{sf sg:Nat->Option Nat}{C:Call}{σ σ2:L2.St}{Z Z' Z1:Fp}{H H' H1:Hp}{Fs Fs' Fs1:Fps}{η η' η1 ηb:Env}{G G' G1 R F F':Fp}{tg is vs ls io:List Nat}{pv val:Nat->Option V}{D:bw}
noncomputable def Fin (K:a0a)(sl:Cf)(Z:Fp)(H:Hp)(F:Fp)(D:bw):Fl->Prop
 | .nx η'=>∀ σ' Z' H' Fs',At K sl σ' Z' H' Fs' η' no->Step Z H F Z' H' (tot Fs')->D.nx σ' H'
 | .rt w η'=>∀ v σ' Z' H' Fs' G,At K sl σ' Z' H' Fs' η' G->Rep K Z' H' w.1 w.2 v G->Step Z H F Z' H' (fun a=>tot Fs' a\/G a)->D.rt v H'
 | .bk η'=>∀ σ' Z' H' Fs',At K sl σ' Z' H' Fs' η' no->Step Z H F Z' H' (tot Fs')->D.bk σ' H'
 | _=>False
theorem Fin.step {fl:Fl}(s:Step Z H F Z1 H1 F')(h:Fin K sl Z H F D fl):Fin K sl Z1 H1 F' D fl:=by
 cases fl with
 | nx η=>exact fun σ' Z' H' Fs' A t=>h σ' Z' H' Fs' A (s.trans t)
 | rt w η=>exact fun v σ' Z' H' Fs' G A r t=>h v σ' Z' H' Fs' G A r (s.trans t)
 | bk η=>exact fun σ' Z' H' Fs' A t=>h σ' Z' H' Fs' A (s.trans t)
 | _=>exact h.elim
structure sj (sf:Nat->Option Nat)(io:List Nat)(pv:Nat->Option V):Prop where
 inj:∀ i i' j,sf i=some j->sf i'=some j->i=i'
 io:∀ i,i ∉ io->pv i=none
noncomputable def wS (K:a0a)(sf:Nat->Option Nat)(io:List Nat)(C:Call)(st:S):TS:=fun D σ H=>∃ pv Z Fs η,sj sf io pv/\At K ⟨sf,pv⟩ σ Z H Fs η no/\Fin K ⟨sf,pv⟩ Z H (tot Fs) D (evS C st η)
noncomputable def wSs (K:a0a)(sf:Nat->Option Nat)(io:List Nat)(C:Call)(st:List S):TS:=fun D σ H=>∃ pv Z Fs η,sj sf io pv/\At K ⟨sf,pv⟩ σ Z H Fs η no/\Fin K ⟨sf,pv⟩ Z H (tot Fs) D (evSs C st η)
theorem vc (D:bw)(σ:L2.St)(H:Hp)(h:wSs K sf io C [] D σ H):xl D σ H:=by
 obtain ⟨pv,Z,Fs,η,N,A,f⟩:=h
 exact f σ Z H Fs A (Step.refl _ _ _)
theorem rQ {s:S}{r:List S}(D:bw)(σ:L2.St)(H:Hp)(h:wSs K sf io C (s::r) D σ H):CJ (wS K sf io C s) (wSs K sf io C r) D σ H:=by
 obtain ⟨pv,Z,Fs,η,N,A,f⟩:=h
 refine ⟨pv,Z,Fs,η,N,A,?_⟩
 have f':Fin K ⟨sf,pv⟩ Z H (tot Fs) D (Fl.seq (evS C s η) (evSs C r)):=f
 cases e:evS C s η with
 | nx η1 =>
  rw [e] at f'
  exact fun σ' Z' H' Fs' A' t=>⟨pv,Z',Fs',η1,N,A',f'.step t⟩
 | rt w η1=>rw [e] at f'; exact f'
 | bk η1=>rw [e] at f'; exact f'
 | ex c x η1=>rw [e] at f'; exact f'.elim
 | no=>rw [e] at f'; exact f'.elim
theorem tN {s:S}(D:bw)(σ:L2.St)(H:Hp)(h:wSs K sf io C [s] D σ H):wS K sf io C s D σ H:=by
 obtain ⟨pv,Z,Fs,η,N,A,f⟩:=h
 refine ⟨pv,Z,Fs,η,N,A,?_⟩
 have f':Fin K ⟨sf,pv⟩ Z H (tot Fs) D (Fl.seq (evS C s η) (evSs C [])):=f
 cases e:evS C s η with
 | nx η1=>rw [e] at f'; exact f'
 | rt w η1=>rw [e] at f'; exact f'
 | bk η1=>rw [e] at f'; exact f'
 | ex c x η1=>rw [e] at f'; exact f'.elim
 | no=>rw [e] at f'; exact f'.elim
theorem bA {α:Type}{r:Res α}{g:α->Fl}(f:Fin K sl Z H F D (Fl.of η r g)):∃ a,r=.ok a/\Fin K sl Z H F D (g a):=by
 cases r with
 | ok a=>exact ⟨a,rfl,f⟩
 | ex c x=>exact f.elim
 | no=>exact f.elim
theorem dM {o:Option Env}(f:Fin K sl Z H F D (nxO η o)):∃ η',o=some η'/\Fin K sl Z H F D (.nx η'):=by
 cases o with
 | some a=>exact ⟨a,rfl,f⟩
 | none=>exact f.elim
theorem At.setR {i j:Nat}{w:W}{x:V}(N:sj sf io pv)(hi:i ∉ io)(hs:sf i=some j)(A:At K ⟨sf,pv⟩ σ Z H Fs η G)(r:Rep K Z H w.1 w.2 x G1)(q1:∀ a,G1 a->G a)(q2:∀ a,R a->G a)(q3:∀ a,R a->¬ G1 a):At K ⟨sf,pv⟩ (σ.set j (some x)) Z H (iZ Fs i G1) (M.put η i w) R:=by
 have hj:j < σ.length:=A.ln i j hs
 have B:At K ⟨fun k=>if k=i then none else sf k,pv⟩ (σ.set j (some x)) Z H Fs (M.del η i) G:=by
  refine ⟨A.gd,fun l m t e=>?_,A.own,A.dis,fun l u k hu hk=>?_,fun l k hk=>?_⟩
  ·rw [a7] at e
   split at e
   ·cases e
   ·rename_i hne
    obtain ⟨v,r',h1,h2⟩:=A.env l m t e
    have hl:l≠i:=fun z=>hne ⟨z,by rw [<- z]; exact cH e⟩
    refine ⟨v,r',fun k hk=>?_,h2⟩
    have hk':sf l=some k:=by have:(if l=i then none else sf l)=some k:=hk; rw [if_neg hl] at this; exact this
    have hjk:j≠k:=fun z=>hl (N.inj l i k hk' (by rw [<- z]; exact hs))
    rw [a1s hjk]
    exact h1 k hk'
  ·have hl:l≠i:=fun z=>by
    have hu':pv l=some u:=hu
    rw [z,N.io i hi] at hu'; cases hu'
   have hk':sf l=some k:=by have:(if l=i then none else sf l)=some k:=hk; rw [if_neg hl] at this; exact this
   have hjk:j≠k:=fun z=>hl (N.inj l i k hk' (by rw [<- z]; exact hs))
   rw [a1s hjk]
   exact A.lk l u k hu hk'
  ·have hk':sf l=some k:=by
    have:(if l=i then none else sf l)=some k:=hk
    split at this
    ·cases this
    ·exact this
   rw [a05]
   exact A.ln l k hk'
 have B2:=At.put (i:=i) (w:=w) (G1:=G1) (R:=R) B r q1 q2 q3 (fun k hk=>by have hk':(if i=i then none else sf i)=some k:=hk; rw [if_pos rfl] at hk'; cases hk') (fun u hu=>by have:=N.io i hi; rw [show pv i=some u from hu] at this; cases this)
 have e1:M.put (M.del η i) i w=M.put η i w:=by
  have:∀ (η:Env) (i:Nat) (a b:Option W),wr (wr η i a) i b=wr η i b:=fun η=>by
   induction η with
   | nil=>intro i a b; rfl
   | cons o η ih=>intro i a b; cases i with
    | zero=>rfl
    | succ i=>show o::wr (wr η i a) i b=o::wr η i b; rw [ih]
  exact this η i none (some w)
 rw [e1] at B2
 refine ⟨B2.gd,fun l m t e=>?_,B2.own,B2.dis,fun l u k hu hk=>?_,fun l k hk=>by rw [a05]; exact A.ln l k hk⟩
 ·obtain ⟨v,r',h1,h2⟩:=B2.env l m t e
  by_cases hl:l=i
  ·subst hl
   rw [a7] at e
   split at e
   ·cases e
    refine ⟨x,r.mono fun a h=>.inl ⟨rfl,h⟩,fun k hk=>?_,fun u hu=>by have:=N.io l hi; rw [show pv l=some u from hu] at this; cases this⟩
    have:k=j:=by rw [show sf l=some k from hk] at hs; cases hs; rfl
    subst this
    rw [a1F hj]
   ·rename_i hc
    exact absurd ⟨rfl,cH e⟩ hc
  ·refine ⟨v,r',fun k hk=>h1 k ?_,h2⟩
   show (if l=i then none else sf l)=some k
   rw [if_neg hl]; exact hk
 ·by_cases hl:l=i
  ·subst hl
   have:=N.io l hi
   rw [show pv l=some u from hu] at this; cases this
  ·exact B2.lk l u k hu (show (if l=i then none else sf l)=some k by rw [if_neg hl]; exact hk)
theorem At.set {i j:Nat}{w:W}{x:V}(N:sj sf io pv)(hi:i ∉ io)(hs:sf i=some j)(A:At K ⟨sf,pv⟩ σ Z H Fs η G)(r:Rep K Z H w.1 w.2 x G):At K ⟨sf,pv⟩ (σ.set j (some x)) Z H (iZ Fs i G) (M.put η i w) no:=At.setR N hi hs A r (fun _ h=>h) (fun _ z=>z.elim) (fun _ z=>z.elim)
theorem kZ {x:X}{i j:Nat}{e:E}(hi:i ∉ io)(hs:sf i=some j)(D:bw)(σ:L2.St)(H:Hp)(h:wS K sf io C (.asg x i e) D σ H):nK (wE K sf C e) (cJ j) D σ H:=by
 obtain ⟨pv,Z,Fs,η,N,A,f⟩:=h
 obtain ⟨⟨w,η1⟩,h1,h2⟩:=bA (show Fin K ⟨sf,pv⟩ Z H (tot Fs) D (Fl.of η (evX C x e η) (tX i)) from f)
 refine j5 (sl:=⟨sf,pv⟩) A h1 fun v Z' H' Fs' G B r s=>?_
 exact h2 _ Z' H' _ (At.set N hi hs B r) (s.mono (fun _ z=>z) fun a ha=>bH ha)
theorem yF {e:E}(D:bw)(σ:L2.St)(H:Hp)(h:wS K sf io C (.ret vs e) D σ H):CK (wE K sf C e) D σ H:=by
 obtain ⟨pv,Z,Fs,η,N,A,f⟩:=h
 obtain ⟨⟨w,η1⟩,h1,h2⟩:=bA (show Fin K ⟨sf,pv⟩ Z H (tot Fs) D (Fl.of η (evE C e (M.share vs η)) kRt) from f)
 exact j5 (sl:=⟨sf,pv⟩) (x:=.l vs) A h1 fun v Z' H' Fs' G B r s=>h2 v σ Z' H' Fs' G B r s
theorem AG {x:X}{c:E}{a b:List S}(D:bw)(σ:L2.St)(H:Hp)(h:wS K sf io C (.ite x c a b) D σ H):Dj (wT K sf C c) (wSs K sf io C a) (wSs K sf io C b) D σ H:=by
 obtain ⟨pv,Z,Fs,η,N,A,f⟩:=h
 obtain ⟨⟨k,η1⟩,h1,h2⟩:=bA (show Fin K ⟨sf,pv⟩ Z H (tot Fs) D (Fl.of η (evT C x c η) (kIf (evSs C a) (evSs C b))) from f)
 refine En (sl:=⟨sf,pv⟩) A h1 fun Z' H' Fs' B s=>?_
 cases k with
 | true=>rw [if_pos rfl]; exact ⟨pv,Z',Fs',η1,N,B,Fin.step s h2⟩
 | false=>rw [if_neg a0f]; exact ⟨pv,Z',Fs',η1,N,B,Fin.step s h2⟩
theorem dQ {m:Md}{ts:List T}{v:V}(hm:m≠.s)(r:Rep K Z H m (.lst ts) v G):∃ a xs,v=.ref a/\xs.length<=LIM/\G a/\H a=some (.lst xs)/\RepL K Z H m.kid ts xs (fun b=>G b/\b≠a):=by
 obtain ⟨a,xs,e,l,q,p⟩:=r
 rw [LstR.own hm] at q
 exact ⟨a,xs,e,l,q.1,q.2,p⟩
theorem wG {i:Nat}{a:Addr}{ts':List T}{xs':List V}{m':Md}(hm:m'≠.s)(A:At K ⟨sf,pv⟩ σ Z H Fs η G){w0:W}(hi:rd η i=some w0)(ha:Fs i a)(hx:∀ j,sf i=some j->σ[j]?=some (some (.ref a)))(hl:xs'.length<=LIM)(hpv:∀ u,pv i=some u->V.ref a=u)
  (hg:∀ b,G' b->(Fs i b\/G b)/\b≠a) (hR:∀ b,R b->(Fs i b\/G b)/\b≠a) (hRG:∀ b,R b->¬ G' b) (p:RepL K (fun b=>Z b\/((Fs i b\/G b)/\b≠a/\¬ G' b/\¬ R b)) H m'.kid ts' xs' G') {Q:Hp->Prop}
  (k:∀ Z' Fs',At K ⟨sf,pv⟩ σ Z' (upd H a (.lst xs')) Fs' (M.put η i (m',.lst ts')) R->Step Z H (fun b=>tot Fs b\/G b) Z' (upd H a (.lst xs')) (fun b=>tot Fs' b\/R b)->(∀ {m t v},Rep K (fun b=>Z b\/((Fs i b\/G b)/\b≠a/\¬ G' b/\¬ R b)) H m t v R->Rep K Z' (upd H a (.lst xs')) m t v R)->Q (upd H a (.lst xs'))):Q (upd H a (.lst xs')):=by
 have hta:tot Fs a:=⟨i,ha⟩
 obtain ⟨nza,ys,hya⟩:=A.gd.own a hta
 have nGa:¬ G a:=fun q=>A.dis a q hta
 have zdef:∀ b,(Z b\/((Fs i b\/G b)/\b≠a/\¬ G' b/\¬ R b))->b≠a:=fun b h z=>by
  subst z
  rcases h with h | h
  ·exact nza h
  ·exact h.2.1 rfl
 have keep:∀ b o,H b=some o->b≠a->upd H a (.lst xs') b=some o:=fun b o e hb=>by rw [ab hb]; exact e
 have neT:∀ b xs,H b=some (.tup xs)->b≠a:=fun b xs e z=>by rw [z,hya] at e; exact hZ e.symm
 have neF:∀ b o u,H b=some (.frz o u)->b≠a:=fun b o u e z=>by rw [z,hya] at e; exact dD e.symm
 have stay:∀ {Y:Fp},(∀ b,Y b->b≠a)->Stay Y H (upd H a (.lst xs')):=fun {Y} hY=>⟨fun b o hb e=>keep b o e (hY b hb),fun b xs e=>by
  rcases e with e | ⟨u,e⟩
  ·exact .inl (keep b _ e (neT b xs e))
  ·exact .inr ⟨u,keep b _ e (neF b u _ e)⟩,fun b o u e=>keep b _ e (neF b o u e)⟩
 have al:∀ b,H b≠none->upd H a (.lst xs') b≠none:=fun b h=>by
  by_cases e:b=a
  ·rw [e,ai]; simp
  ·rw [ab e]; exact h
 have zal':∀ b,(Z b\/((Fs i b\/G b)/\b≠a/\¬ G' b/\¬ R b))->H b≠none:=fun b h=>by
  rcases h with h | ⟨h | h,_⟩
  ·exact A.gd.zal b h
  ·obtain ⟨_,zs,e⟩:=A.gd.own b ⟨i,h⟩; rw [e]; simp
  ·obtain ⟨_,zs,e⟩:=A.own b h; rw [e]; simp
 have listAt:∀ b,(tot Fs b\/G b)->∃ zs:OO,upd H a (.lst xs') b=some zs.ho:=fun b h=>by
  by_cases e:b=a
  ·exact ⟨.inl xs',by rw [e,ai]; rfl⟩
  ·rcases h with h | h
   ·obtain ⟨_,zs,q⟩:=A.gd.own b h; exact ⟨zs,by rw [ab e]; exact q⟩
   ·obtain ⟨_,zs,q⟩:=A.own b h; exact ⟨zs,by rw [ab e]; exact q⟩
 have nZ:∀ b,(Fs i b\/G b)->¬ Z b:=fun b h z=>h.elim (fun y=>(A.gd.own b ⟨i,y⟩).1 z) fun y=>(A.own b y).1 z
 have ck:∀ b,tot (iZ Fs i fun b=>G' b\/b=a) b->(∃ j,j≠i/\Fs j b)\/G' b\/b=a:=fun b h=>by
  obtain ⟨j,h | h⟩:=h
  ·exact .inr h.2
  ·exact .inl ⟨j,h⟩
 refine k (fun b=>Z b\/((Fs i b\/G b)/\b≠a/\¬ G' b/\¬ R b)) (iZ Fs i fun b=>G' b\/b=a) ⟨⟨fun b h=>⟨fun z=>?_,?_⟩,fun j l b hj hk=>?_,fun b h=>al b (zal' b h)⟩,fun l m t e=>?_,fun b h=>⟨fun z=>?_,listAt b ((hR b h).1.imp (fun z=>⟨i,z⟩) id)⟩,fun b h q=>?_,A.lk,A.ln⟩ ⟨fun b o e n=>keep b o e fun z=>n (.inl (z ▸ hta)),fun b h=>.inl h,fun b h=>h.imp id fun q=>.inl (q.1.imp (fun z=>⟨i,z⟩) id),fun b h=>?_,al,fun _ b h=>al b (zal' b h)⟩ fun {m t v} r=>r.keep (stay zdef) (fun _ z=>z) fun b o hb e=>keep b o e (hR b hb).2
 ·rcases ck b h with ⟨j,hj,q⟩ | q | q
  ·rcases z with z | ⟨z | z,_⟩
   ·exact (A.gd.own b ⟨j,q⟩).1 z
   ·exact hj (A.gd.dis j i b q z)
   ·exact A.dis b z ⟨j,q⟩
  ·rcases z with z | z
   ·exact nZ b (hg b q).1 z
   ·exact z.2.2.1 q
  ·exact zdef b z q
 ·rcases ck b h with ⟨j,hj,q⟩ | q | q
  ·exact listAt b (.inl ⟨j,q⟩)
  ·exact listAt b ((hg b q).1.imp (fun z=>⟨i,z⟩) id)
  ·exact ⟨.inl xs',by rw [q,ai]; rfl⟩
 ·have key:∀ {j:Nat},(G' b\/b=a)->Fs j b->j=i:=fun {j} h q=>by
   rcases h with h | h
   ·rcases (hg b h).1 with y | y
    ·exact A.gd.dis j i b q y
    ·exact absurd ⟨j,q⟩ (A.dis b y)
   ·rw [h] at q; exact A.gd.dis j i a q ha
  rcases hj with ⟨rfl,hj⟩ | ⟨nj,hj⟩
  ·rcases hk with ⟨rfl,_⟩ | ⟨nk,hk⟩
   ·rfl
   ·exact absurd (key hj hk) nk
  ·rcases hk with ⟨rfl,hk⟩ | ⟨nk,hk⟩
   ·exact absurd (key hk hj) nj
   ·exact A.gd.dis j l b hj hk
 ·rw [a7] at e
  split at e
  ·rename_i hc
   obtain ⟨rfl,_⟩:=hc
   cases e
   refine ⟨.ref a,⟨a,xs',rfl,hl,(LstR.own hm).mpr ⟨.inl ⟨rfl,.inr rfl⟩,ai⟩,?_⟩,hx,hpv⟩
   exact (p.keep (stay zdef) (fun _ z=>z) fun b o hb e=>keep b o e (hg b hb).2).mono fun b hb=>⟨.inl ⟨rfl,.inl hb⟩,(hg b hb).2⟩
  ·rename_i hc
   have hl':l≠i:=fun z=>hc ⟨z,cH hi⟩
   obtain ⟨v,r,h⟩:=A.env l m t e
   have nea:∀ b,Fs l b->b≠a:=fun b q z=>hl' (A.gd.dis l i a (z ▸ q) ha)
   exact ⟨v,((r.keep (stay fun b hb z=>nza (z ▸ hb)) (fun _ z=>z) fun b o hb e=>keep b o e (nea b hb)).zmono fun b h=>.inl h).mono fun b h=>.inr ⟨hl',h⟩,h⟩
 ·rcases z with z | z
  ·exact nZ b (hR b h).1 z
  ·exact z.2.2.2 h
 ·rcases ck b q with ⟨j,hj,y⟩ | y | y
  ·rcases (hR b h).1 with z | z
   ·exact hj (A.gd.dis j i b y z)
   ·exact A.dis b z ⟨j,y⟩
  ·exact hRG b h y
  ·exact (hR b h).2 y
 ·rcases h with h | h
  ·rcases ck b h with ⟨j,_,q⟩ | q | q
   ·exact .inl (.inl ⟨j,q⟩)
   ·exact .inl ((hg b q).1.imp (fun z=>⟨i,z⟩) id)
   ·exact .inl (.inl (q ▸ hta))
  ·exact .inl ((hR b h).1.imp (fun z=>⟨i,z⟩) id)
theorem change {i:Nat}{a:Addr}{ts':List T}{xs':List V}{m':Md}(hm:m'≠.s)(A:At K ⟨sf,pv⟩ σ Z H Fs η G){w0:W}(hi:rd η i=some w0)(ha:Fs i a)(hx:∀ j,sf i=some j->σ[j]?=some (some (.ref a)))(hl:xs'.length<=LIM)(hpv:∀ u,pv i=some u->V.ref a=u)
  (hg:∀ b,G' b->(Fs i b\/G b)/\b≠a) (p:RepL K (fun b=>Z b\/((Fs i b\/G b)/\b≠a/\¬ G' b)) H m'.kid ts' xs' G') {Q:Hp->Prop}
  (k:∀ Z' Fs',At K ⟨sf,pv⟩ σ Z' (upd H a (.lst xs')) Fs' (M.put η i (m',.lst ts')) no->Step Z H (fun b=>tot Fs b\/G b) Z' (upd H a (.lst xs')) (tot Fs')->Q (upd H a (.lst xs'))):Q (upd H a (.lst xs')) :=
 wG (R:=no) hm A hi ha hx hl hpv hg (fun _ z=>z.elim) (fun _ z=>z.elim) (p.zmono fun b h=>h.imp id fun q=>⟨q.1,q.2.1,q.2.2,fun z=>z⟩) fun Z' Fs' B s _=>k Z' Fs' B (s.mono (fun _ z=>z) fun _ z=>.inl z)
end
end MR
namespace MR
open L2 L3 M
open PySem (Addr Str sizeLine)
section
variable {K:a0a}{sl:Cf}{sf sg:Nat->Option Nat}{C:Call}{σ σ2:L2.St}{Z Z' Z1:Fp}{H H' H1:Hp}{Fs Fs' Fs1:Fps}{η η' η1 ηb:Env}{G G' G1 R F F':Fp}{tg is vs ls io:List Nat}{pv val:Nat->Option V}{D:bw}
theorem j2 {o:Option W}{u:Unit}(h:dA o=.ok u):∃ m ts,o=some (m,.lst ts):=by
 cases o with
 | none=>cases h
 | some w =>
  obtain ⟨m,t⟩:=w
  cases t with
  | lst ts=>exact ⟨m,ts,rfl⟩
  | _=>cases h
theorem At.listAt {i j:Nat}{m:Md}{ts:List T}(hs:sf i=some j)(A:At K ⟨sf,pv⟩ σ Z H Fs η G)(h:rd η i=some (m,.lst ts)):∃ a xs,σ[j]?=some (some (.ref a))/\H a=some (.lst xs):=by
 obtain ⟨v,r,hl,_⟩:=A.env i m _ h
 obtain ⟨a,xs,rfl,hx,_⟩:=a8 r
 exact ⟨a,xs,hl j hs,hx⟩
theorem At.ourList {i j:Nat}{a:Addr}{m:Md}{ts:List T}(hs:sf i=some j)(hm:m≠.s)(hj:σ[j]?=some (some (.ref a)))(A:At K ⟨sf,pv⟩ σ Z H Fs η G)(h:rd η i=some (m,.lst ts)) :
  ∃ xs,xs.length<=LIM/\Fs i a/\H a=some (.lst xs)/\RepL K Z H m.kid ts xs (fun b=>Fs i b/\b≠a)/\(∀ u,pv i=some u->V.ref a=u):=by
 obtain ⟨v,r,hl,hp⟩:=A.env i m _ h
 have e:=hl j hs
 rw [hj] at e
 cases e
 obtain ⟨b,xs,e,l,g,hx,p⟩:=dQ hm r
 cases e
 exact ⟨xs,l,g,hx,p,hp⟩
theorem qh {u w r:W}(h:gn u w=some r):∃ m ts,u=(m,.lst ts)/\m≠.s/\ts.length < LIM/\r=((m.kid.meet (lf w.1 w.2)).up,.lst (ts++[w.2])):=by
 obtain ⟨m,t⟩:=u
 obtain ⟨n,t'⟩:=w
 cases m with
 | s=>cases h
 | d =>
  cases t with
  | lst ts =>
   have h':(if ts.length < LIM then some ((((Md.d.kid.meet (lf n t')).up,.lst (ts++[t'])):W)) else none)=some r:=h
   split at h'
   ·rename_i hl; cases h'; exact ⟨.d,ts,rfl,by simp,hl,rfl⟩
   ·cases h'
  | _=>cases h
 | o m =>
  cases t with
  | lst ts =>
   have h':(if ts.length < LIM then some (((((Md.o m).kid.meet (lf n t')).up,.lst (ts++[t'])):W)) else none)=some r:=h
   split at h'
   ·rename_i hl; cases h'; exact ⟨.o m,ts,rfl,by simp,hl,rfl⟩
   ·cases h'
  | _=>cases h
theorem oT {u k w r:W}(h:ck u k w=some r):∃ m ts n j q,u=(m,.lst ts)/\k=(n,.int j)/\m≠.s/\M.ixN ts.length j=some q/\r=((m.kid.meet (lf w.1 w.2)).up,.lst (ts.set q w.2)):=by
 obtain ⟨m,t⟩:=u
 obtain ⟨n,t'⟩:=k
 cases m with
 | s=>cases h
 | d =>
  cases t with
  | lst ts =>
   cases t' with
   | int j =>
    have h':(M.ixN ts.length j).map (fun k=>(((Md.d.kid.meet (lf w.1 w.2)).up,.lst (ts.set k w.2)):W))=some r:=h
    cases e:M.ixN ts.length j with
    | none=>rw [e] at h'; cases h'
    | some q=>rw [e] at h'; cases h'; exact ⟨.d,ts,n,j,q,rfl,rfl,by simp,e,rfl⟩
   | _=>cases h
  | _=>cases h
 | o m =>
  cases t with
  | lst ts =>
   cases t' with
   | int j =>
    have h':(M.ixN ts.length j).map (fun k=>((((Md.o m).kid.meet (lf w.1 w.2)).up,.lst (ts.set k w.2)):W))=some r:=h
    cases e:M.ixN ts.length j with
    | none=>rw [e] at h'; cases h'
    | some q=>rw [e] at h'; cases h'; exact ⟨.o m,ts,n,j,q,rfl,rfl,by simp,e,rfl⟩
   | _=>cases h
  | _=>cases h
theorem rD {a:Addr}{m:Md}{ts:List T}{xs:List V}{w:W}{y:V}{A0:Fp}(hA:∀ b,A0 b->b≠a)(hG:∀ b,G b->b≠a)(d:∀ b,A0 b->¬ G b)(p:RepL K Z H m ts xs A0)(r:Rep K Z H w.1 w.2 y G) :
  ∃ G',(∀ b,G' b->(A0 b\/G b)/\b≠a)/\RepL K (fun b=>Z b\/((A0 b\/G b)/\b≠a/\¬ G' b)) H (m.meet (lf w.1 w.2)) (ts++[w.2]) (xs++[y]) G':=by
 obtain ⟨G',g1,g2⟩:=jJ (G:=fun b=>A0 b\/G b) (fun _ z=>.inl z) (fun _ z=>.inr z) d p (RepL.one r.lf)
 have ne:∀ b,(A0 b\/G b)->b≠a:=fun b h=>h.elim (hA b) (hG b)
 exact ⟨G',fun b h=>⟨g1 b h,ne b (g1 b h)⟩,g2.zmono fun b h=>h.imp id fun q=>⟨q.1,ne b q.1,q.2⟩⟩
theorem A6 {x:X}{i j:Nat}{e:E}(hs:sf i=some j)(D:bw)(σ:L2.St)(H:Hp)(h:wS K sf io C (.app x i e) D σ H) :
  ∃ a xs,σ[j]?=some (some (.ref a))/\H a=some (.lst xs)/\wE K sf C e σ H fun y H1=>∃ xs,H1 a=some (.lst xs)/\xs.length < sizeLine/\D.nx σ (upd H1 a (.lst (xs++[y]))):=by
 obtain ⟨pv,Z,Fs,η,N,A,f⟩:=h
 obtain ⟨u,h0,h1⟩:=bA (show Fin K ⟨sf,pv⟩ Z H (tot Fs) D (Fl.of η (dA (rd η i)) (lq (evX C x e) η (qP i))) from f)
 obtain ⟨m0,t0,h00⟩:=j2 h0
 obtain ⟨a,xs0,hj,ha⟩:=A.listAt hs h00
 obtain ⟨⟨w,η1⟩,h2,h3⟩:=bA (show Fin K ⟨sf,pv⟩ Z H (tot Fs) D (Fl.of η (evX C x e η) (qP i)) from h1)
 obtain ⟨η2,h4,h5⟩:=dM (show Fin K ⟨sf,pv⟩ Z H (tot Fs) D (nxO η1 (((rd η1 i).bind fun u=>gn u w).map fun u=>M.put η1 i u)) from h3)
 refine ⟨a,xs0,hj,ha,j5 (sl:=⟨sf,pv⟩) A h2 fun y Z' H' Fs' G B r s=>?_⟩
 cases e1:rd η1 i with
 | none=>rw [e1] at h4; cases h4
 | some u1 =>
  rw [e1] at h4
  cases e2:gn u1 w with
  | none=>rw [show (some u1).bind (fun u=>gn u w)=gn u1 w from rfl,e2] at h4; cases h4
  | some r1 =>
   rw [show (some u1).bind (fun u=>gn u w)=gn u1 w from rfl,e2] at h4
   cases h4
   obtain ⟨m,ts,rfl,hm,hlen,rfl⟩:=qh e2
   obtain ⟨xs,hl,hf,hx,p,hpv⟩:=B.ourList hs hm hj e1
   have e3:=p.length
   obtain ⟨G',g1,g2⟩:=rD (a:=a) (fun b h=>h.2) (fun b h z=>B.dis b h ⟨i,z ▸ hf⟩) (fun b h q=>B.dis b q ⟨i,h.1⟩) p r
   refine ⟨xs,hx,eu hl,?_⟩
   refine change (K:=K) (m':=(m.kid.meet (lf w.1 w.2)).up) (c9 _) B e1 hf (fun k hk=>by rw [show sf i=some k from hk] at hs; cases hs; exact hj) (by rw [a0l,e3,a0u]; omega) hpv (fun b h=>⟨(g1 b h).1.imp a3j id,(g1 b h).2⟩) (ts':=ts++[w.2]) (by rw [eC]; exact g2.zmono fun b h=>h.imp id fun q=>⟨q.1.imp a3j id,q.2⟩) fun Z2 Fs2 B2 s2=>h5 σ Z2 _ Fs2 B2 (s.trans s2)
theorem RepL.setAt:∀ {ts:List T} {xs:List V} {A0 G0 G:Fp} {q:Nat} {t:T} {y:V} {m:Md},(∀ b,A0 b->G b)->(∀ b,G0 b->G b)->(∀ b,A0 b->¬ G0 b)->RepL K Z H m ts xs A0->Rep K Z H m t y G0->RepL K Z H m (ts.set q t) (xs.set q y) G
 | [],xs,A0,G0,G,q,t,y,m,w1,w2,d,h,r=>by rw [show xs=[] from h]; exact rfl
 | u::ts,xs,A0,G0,G,0,t,y,m,w1,w2,d,⟨x,r',A,B,e,h1,h2,hd,p,q⟩,r=>by
  rw [e]
  exact ⟨y,r',G0,B,rfl,w2,fun a h=>w1 a (h2 a h),fun a h q=>d a (h2 a q) h,r,q⟩
 | u::ts,xs,A0,G0,G,n+1,t,y,m,w1,w2,d,⟨x,r',A,B,e,h1,h2,hd,p,q⟩,r=>by
  rw [e]
  refine ⟨x,r'.set n y,A,fun a=>B a\/G0 a,rfl,fun a h=>w1 a (h1 a h),fun a h=>h.elim (fun z=>w1 a (h2 a z)) (w2 a),fun a h q=>q.elim (hd a h) (d a (h1 a h)),p,?_⟩
  exact RepL.setAt (fun _ z=>.inl z) (fun _ z=>.inr z) (fun b h=>d b (h2 b h)) q r
theorem gg (vs:List Nat)(η:Env):Nn η (M.share vs η):=fun i e=>by
 rw [fw]; split
 ·rw [e]; rfl
 ·exact e
theorem qR {x:X}{e:E}{w:W}(h:evX C x e η=.ok (w,η')):Nn η η':=by
 cases x with
 | q vs ls =>
  obtain ⟨⟨u,η2⟩,h1,h2⟩:=aa (show (evE C e (dh vs ls η)).bind (kX vs η)=_ from h)
  cases h2
  show Nn η (after (M.lf u.1 u.2) vs η)
  cases hm:M.lf u.1 u.2 with
  | d=>intro i e; exact e
  | s=>exact gg vs η
  | o m=>exact gg vs η
 | l vs=>exact (gg vs η).trans (ak e h)
theorem uQ {x:X}{i j:Nat}{k e:E}(hs:sf i=some j)(D:bw)(σ:L2.St)(H:Hp)(h:wS K sf io C (.setI x i k e) D σ H) :
  wE K sf C e σ H fun y H1=>iN j σ H1 fun o H1=>wE K sf C k σ H1 fun z H2=>∃ a xs n q,o=.ref a/\z=.int n/\H2 a=some (.lst xs)/\L2.ixN xs.length n=some q/\D.nx σ (upd H2 a (.lst (xs.set q y))):=by
 obtain ⟨pv,Z,Fs,η,N,A,f⟩:=h
 obtain ⟨⟨w,η1⟩,h2,h3⟩:=bA (show Fin K ⟨sf,pv⟩ Z H (tot Fs) D (Fl.of η (evX C x e η) (wQ i (evX C x k) η)) from f)
 obtain ⟨⟨kw,η2⟩,h6,h7⟩:=bA (show Fin K ⟨sf,pv⟩ Z H (tot Fs) D (Fl.of η (evX C x k η1) (oA i w)) from h3)
 obtain ⟨η3,h4,h5⟩:=dM (show Fin K ⟨sf,pv⟩ Z H (tot Fs) D (nxO η2 (((rd η2 i).bind fun u=>ck u kw w).map fun u=>M.put η2 i u)) from h7)
 refine j5 (sl:=⟨sf,pv⟩) A h2 fun y Z' H' Fs' G B r s=>?_
 cases e1:rd η2 i with
 | none=>rw [e1] at h4; cases h4
 | some u1 =>
  rw [e1] at h4
  cases e2:ck u1 kw w with
  | none=>rw [show (some u1).bind (fun u=>ck u kw w)=ck u1 kw w from rfl,e2] at h4; cases h4
  | some r1 =>
   rw [show (some u1).bind (fun u=>ck u kw w)=ck u1 kw w from rfl,e2] at h4
   cases h4
   obtain ⟨m,ts,n,jj,q,rfl,rfl,hm,hq,rfl⟩:=oT e2
   have n1:rd η1 i≠none:=fun z=>by rw [qR h6 i z] at e1; cases e1
   cases e3:rd η1 i with
   | none=>exact absurd e3 n1
   | some u3 =>
    obtain ⟨v3,r3,l3,p3⟩:=B.env i u3.1 u3.2 e3
    refine ⟨v3,l3 j hs,j5 (sl:=⟨sf,pv⟩) B.bare h6 fun z Z2 H2 Fs2 G2 B2 rz s2=>?_⟩
    obtain ⟨B3,s3,d3⟩:=B.frame B2 s2
    have r':=r.frame B.gd.own s2 B.dis
    have B4:=B3.mono (G':=G) fun _ z=>.inl z
    obtain ⟨v4,r4,l4,p4⟩:=B4.env i m _ e1
    have hv:v3=v4:=by have e5:=l3 j hs; have e6:=l4 j hs; rw [e5] at e6; cases e6; rfl
    subst hv
    obtain ⟨a,xs,rfl,hl,hf,hx,p⟩:=dQ hm r4
    have e7:=p.length
    obtain ⟨A1,a1,a2⟩:=RepL.weak (cx m.kid (lf w.1 w.2)).1 p
    obtain ⟨A2,b1,b2⟩:=Rep.weak (cx m.kid (lf w.1 w.2)).2 r'.lf
    have dis:∀ b,(Fs2 i b/\b≠a)->¬ G b:=fun b h q=>B4.dis b q ⟨i,h.1⟩
    have hG:∀ b,G b->b≠a:=fun b h z=>B4.dis b h ⟨i,z ▸ hf⟩
    refine ⟨a,xs,jj,q,rfl,show z=_ from rz,hx,by rw [e7]; exact hq,?_⟩
    refine change (K:=K) (G':=fun b=>A1 b\/A2 b) (m':=(m.kid.meet (lf w.1 w.2)).up) (c9 _) B4 e1 hf (fun k hk=>by rw [show sf i=some k from hk] at hs; cases hs; exact l3 _ hk) (by rw [a05]; exact hl) p4 (fun b h=>h.elim (fun z=>⟨.inl (a1 b z).1,(a1 b z).2⟩) fun z=>⟨.inr (b1 b z),hG b (b1 b z)⟩) (ts':=ts.set q w.2) ?_ fun Z5 Fs5 B5 s5=>h5 σ Z5 _ Fs5 B5 ((s.trans (s3.mono (fun _ z=>z) fun b h=>h.imp id .inl)).trans s5)
    rw [eC]
    refine RepL.setAt (A0:=A1) (G0:=A2) (fun _ z=>.inl z) (fun _ z=>.inr z) (fun b h q=>dis b (a1 b h) (b1 b q)) (a2.zmono fun b h=>?_) (b2.zmono fun b h=>?_)
    ·exact h.imp id fun q=>⟨.inl q.1.1,q.1.2,fun z=>z.elim q.2 fun z=>dis b q.1 (b1 b z)⟩
    ·exact h.imp id fun q=>⟨.inr q.1,hG b q.1,fun z=>z.elim (fun z=>dis b (a1 b z) q.1) q.2⟩
end
end MR
namespace MR
open L2 L3 M
open PySem (Addr Str sizeLine)
section
variable {K:a0a}{sl:Cf}{sf sg:Nat->Option Nat}{C:Call}{σ σ2:L2.St}{Z Z' Z1:Fp}{H H' H1:Hp}{Fs Fs' Fs1:Fps}{η η' η1 ηb:Env}{G G' G1 R F F':Fp}{tg is vs ls io:List Nat}{pv val:Nat->Option V}{D:bw}
noncomputable def gF (K:a0a):List Nat->TG
 | [j]=>cJ j
 | [j,l]=>yR K 2 (je (cJ j) (je (cJ l) Ak))
 | _=>fun _ _ _ _=>False
theorem oD {fl:Fl}{g:Env->Fl}(f:Fin K sl Z H F D (Fl.turn fl g)):(∃ η',fl=.nx η'/\Fin K sl Z H F D (g η'))\/(∃ η',fl=.bk η'/\Fin K sl Z H F D (.nx η'))\/(∃ w η',fl=.rt w η'/\Fin K sl Z H F D (.rt w η')):=by
 cases fl with
 | nx η=>exact .inl ⟨η,rfl,f⟩
 | bk η=>exact .inr (.inl ⟨η,rfl,f⟩)
 | rt w η=>exact .inr (.inr ⟨w,η,rfl,f⟩)
 | ex c x η=>exact f.elim
 | no=>exact f.elim
theorem j7 {fl:Fl}{g:Env->Fl}{N:L2.St->Hp->Prop}(f:Fin K sl Z H F D (Fl.turn fl g))(hN:∀ η' σ' Z' H' Fs',fl=.nx η'->Fin K sl Z H F D (g η')->At K sl σ' Z' H' Fs' η' no->Step Z H F Z' H' (tot Fs')->N σ' H'):Fin K sl Z H F { D with nx:=N,ct:=N,bk:=D.nx } fl:=by
 rcases oD f with ⟨η',rfl,f⟩ | ⟨η',rfl,f⟩ | ⟨w,η',rfl,f⟩
 ·exact fun σ' Z' H' Fs' A s=>hN η' σ' Z' H' Fs' rfl f A s
 ·exact f
 ·exact f
theorem qz {n i:Nat}{J:It}{ts:List (List W)}{ws:List W}{js:List Nat}{x:V}{Q:L2.St->Hp->Prop}(hn:tg.length=n)(nd:tg.Nodup)(N:sj sf io pv)(hio:∀ t∈tg,t ∉ io)(hjs:tg.map sf=js.map some)(hz:∀ a,Z1 a->Z a)(st:Stay Z1 H1 H)(yl:Yld K J Z1 H1 ts n)(A:At K ⟨sf,pv⟩ σ Z H Fs η no)
  (hw:ts[i]?=some ws) (hb:aY tg ws η=some ηb) (y:J.yld i H x H') (k:∀ σ2 H2 Fs2,At K ⟨sf,pv⟩ σ2 Z H2 Fs2 ηb no->Step Z H (tot Fs) Z H2 (tot Fs2)->Q σ2 H2):gF K js x σ H' Q:=by
 have hi:i < ts.length:=(a0v.mp hw).1
 match n,yl with
 | 1,yl =>
  obtain ⟨e0,w,hw',r⟩:=yl H i x H' st hi y
  rw [e0]
  rw [hw] at hw'; cases hw'
  match tg,hn,js,hjs with
  | [t],_,[j],hjs =>
   cases hb
   have hs:sf t=some j:=by simpa using hjs
   exact k _ H _ (At.set N (hio t (by simp)) hs A (r.zmono hz)) ((Step.refl _ _ _).mono (fun _ z=>z) fun a h=>(bH h).elim id fun z=>z.elim)
  | [t],_,[],hjs=>simp at hjs
  | [t],_,_::_::_,hjs=>simp at hjs
 | 2,yl =>
  obtain ⟨p,y1,z1,u,w,rfl,sm,hq,hw',r1,r2⟩:=yl H i x H' st hi y
  rw [hw] at hw'; cases hw'
  match tg,hn,js,hjs with
  | [t,t'],_,[j,j'],hjs =>
   cases hb
   have hs:sf t=some j:=by simp at hjs; exact hjs.1
   have hs':sf t'=some j':=by simp at hjs; exact hjs.2
   have s0:Step Z H no Z H' no:=fH sm
   obtain ⟨A1,s1⟩:=A.op bS s0
   have sn:Stay Z H H':=jb sm
   have r1':Rep K Z H' u.1 u.2 y1 no:=(r1.zmono hz).keep sn (fun _ z=>z) fun _ _ z=>z.elim
   have r2':Rep K Z H' w.1 w.2 z1 no:=(r2.zmono hz).keep sn (fun _ z=>z) fun _ _ z=>z.elim
   have A2:=At.set N (hio t (by simp)) hs A1 r1'
   have A3:=At.set N (hio t' (by simp)) hs' A2 r2'
   refine ⟨p,[y1,z1],rfl,hq,rfl,y1,[z1],rfl,z1,[],rfl,rfl,k _ _ _ A3 (s1.mono (fun a h=>h.elim id fun z=>z.elim) fun a h=>?_)⟩
   rcases bH h with h | h
   ·exact .inl ((bH h).elim id fun z=>z.elim)
   ·exact h.elim
  | [t,t'],_,[],hjs=>simp at hjs
  | [t,t'],_,[_],hjs=>simp at hjs
  | [t,t'],_,_::_::_::_,hjs=>simp at hjs
theorem sJ {n:Nat}{k:Ik}{src:List E}{js:List Nat}{body:List S}(hn:tg.length=n)(nd:tg.Nodup)(hio:∀ t∈tg,t ∉ io)(hjs:tg.map sf=js.map some)(D:bw)(σ:L2.St)(H:Hp)(h:wS K sf io C (.forS vs ls k src tg body) D σ H) :
  Cr (wI K sf C n k src) (gF K js) (wSs K sf io C body) D σ H:=by
 obtain ⟨pv,Z,Fs,η,N,A,f⟩:=h
 obtain ⟨⟨ws,η2⟩,h1,h2⟩:=bA (show Fin K ⟨sf,pv⟩ Z H (tot Fs) D (Fl.of η (evL C src (dh vs ls η)) (uz vs k tg (evSs C body) η)) from f)
 obtain ⟨⟨ts,η3⟩,h3,h4⟩:=bA (show Fin K ⟨sf,pv⟩ Z H (tot Fs) D (Fl.of η (ret (M.share vs η) (br k ws)) (lO tg (evSs C body))) from h2)
 obtain ⟨ts',ht,e3⟩:=aq h3
 have e4:ts=ts':=congrArg a3R e3
 have e5:η3=M.share vs η:=congrArg a12 e3
 subst e4 e5
 have h4':Fin K ⟨sf,pv⟩ Z H (tot Fs) D (bR tg (evSs C body) ts (M.share vs η)):=h4
 refine ⟨pv,_,pZ,_,ws,η2,ts,A.quiet (vs:=vs) (ls:=ls),h1,ht,fun J Z1 H1 Fs1 B s wk yl=>?_⟩
 obtain ⟨B1,s1⟩:=dm (G:=no) A bS B.gd.zal (s.mono (F2:=fun a=>tot Fs1 a\/no a) (fun _ z=>z) fun a h=>h.elim id fun z=>z.elim) fun a h=>iS h
 obtain ⟨B2,s2⟩:=B1.share (vs:=vs)
 have s3:=(s2 s1).mono (F2:=tot (cM Fs vs)) (fun _ z=>z) fun _ z=>.inl z
 have zz:∀ a,Z1 a->((Z1 a/\¬ cB Fs vs a)\/cB Fs vs a):=fun a h=>(a3K (cB Fs vs a)).elim .inr fun q=>.inl ⟨h,q⟩
 refine ⟨fun i m σ' H'=>m=ts.length-i/\i<=ts.length/\∃ Zi Fsi ηi,At K ⟨sf,pv⟩ σ' Zi H' Fsi ηi no/\Step (fun a=>(Z1 a/\¬ cB Fs vs a)\/cB Fs vs a) H1 (tot (cM Fs vs)) Zi H' (tot Fsi)/\Fin K ⟨sf,pv⟩ Zi H' (tot Fsi) D (bR tg (evSs C body) (ts.drop i) ηi),⟨ts.length,by simp,a0M _,_,_,_,B2,Step.refl _ _ _,h4'.step s3⟩,?_⟩
 rintro i m σi H0 ⟨rfl,hi,Zi,Fsi,ηi,Ai,si,fi⟩
 have st:Stay Z1 H1 H0:=by
  have:=B2.gd.own.stay si
  exact ⟨fun a o h=>this.1 a o (zz a h),this.2⟩
 by_cases hlt:i < ts.length
 ·right
  refine ⟨wk.go H0 i st hlt,_,fun σ' H' hw=>⟨ts.length-(i+1),by omega,hw⟩,fun x H' y=>?_⟩
  have hw:ts[i]?=some ts[i]:=by simp [hlt]
  rw [eG hw] at fi
  obtain ⟨ηb,hb,fb⟩:=bA (show Fin K ⟨sf,pv⟩ Zi H0 (tot Fsi) D (Fl.of ηi (ofO (aY tg ts[i] ηi)) fun η1=>Fl.turn (evSs C body η1) (bR tg (evSs C body) (ts.drop (i+1)))) from fi)
  refine qz hn nd N hio hjs (fun a h=>si.zm a (zz a h)) st yl Ai hw (bK hb) y fun σ2 H2 Fs2 A2 t2=>?_
  refine ⟨pv,Zi,Fs2,ηb,N,A2,j7 (fb.step t2) fun η' σ' Z' H' Fs' _ f' A' s'=>⟨rfl,hlt,Z',Fs',η',A',(si.trans t2).trans s',f'.step s'⟩⟩
 ·left
  have hi':i=ts.length:=by omega
  subst hi'
  rw [a2s] at fi
  exact ⟨wk.stop H0 _ st (a0m _),fi σi Zi H0 Fsi Ai (Step.refl _ _ _)⟩
theorem Bf {x:X}{c:E}{body:List S}(D:bw)(σ:L2.St)(H:Hp)(h:wS K sf io C (.whl x c body) D σ H):sk (wT K sf C c) (wSs K sf io C body) D σ H:=by
 obtain ⟨pv,Z,Fs,η,N,A,f⟩:=h
 have f':Fin K ⟨sf,pv⟩ Z H (tot Fs) D (jR (evT C x c) (evSs C body) rJ η):=f
 refine ⟨fun m σ' H'=>∃ Z' Fs' η',At K ⟨sf,pv⟩ σ' Z' H' Fs' η' no/\Fin K ⟨sf,pv⟩ Z' H' (tot Fs') D (jR (evT C x c) (evSs C body) m η'),⟨rJ,Z,Fs,η,A,f'⟩,?_⟩
 rintro m σ1 H1 ⟨Z1,Fs1,η1,A1,f1⟩
 cases m with
 | zero=>exact f1.elim
 | succ m =>
  obtain ⟨⟨b,η2⟩,h1,h2⟩:=bA (show Fin K ⟨sf,pv⟩ Z1 H1 (tot Fs1) D (Fl.of η1 (evT C x c η1) (kIf (rN (evSs C body) (jR (evT C x c) (evSs C body) m)) .nx)) from f1)
  refine En (sl:=⟨sf,pv⟩) A1 h1 fun Z2 H2 Fs2 B s=>?_
  cases b with
  | true =>
   rw [if_pos rfl]
   refine ⟨_,fun σ' H' hw=>⟨m,a1u m,hw⟩,pv,Z2,Fs2,η2,N,B,j7 (Fin.step s (show Fin K ⟨sf,pv⟩ Z1 H1 (tot Fs1) D (Fl.turn (evSs C body η2) (jR (evT C x c) (evSs C body) m)) from h2)) fun η' σ' Z' H' Fs' _ f' A' s'=>⟨Z',Fs',η',A',f'.step s'⟩⟩
  | false =>
   rw [if_neg a0f]
   exact (show Fin K ⟨sf,pv⟩ Z1 H1 (tot Fs1) D (.nx η2) from h2) σ1 Z2 H2 Fs2 B s
end
end MR

namespace MR
open PySem PySem.Spec PyProof.Rows L2 L3
section
variable {X:Cx}{sf sg:Nat->Option Nat}{C:M.Call}{pos p2:Pos}{ea eb ec:Expr}{a b c:M.E}{h:Bool}{n:Nat}
theorem aj {e:Expr}{t t':TE}(h:PE X e t)(hw:∀ σ H Q,t' σ H Q->t σ H Q):PE X e t':=fun pins s σ H Q I q=>h pins s σ H Q I (hw σ H Q q)
theorem mn {e:Expr}{t t':TT}(h:PT X e t)(hw:∀ σ H Q,t' σ H Q->t σ H Q):PT X e t':=fun pins s σ H Q I q=>h pins s σ H Q I (hw σ H Q q)
theorem xT {e:Expr}{t t':TT}(h:PW X e t)(hw:∀ σ H Q,t' σ H Q->t σ H Q):PW X e t':=fun whole pins s σ H Q I q=>h whole pins s σ H Q I (hw σ H Q q)
theorem jt {es:List Expr}{t t':TA}(h:PA X es t)(hw:∀ σ H Q,t' σ H Q->t σ H Q):PA X es t':=fun pos pins s σ H Q I q=>h pos pins s σ H Q I (hw σ H Q q)
theorem b7 {s:Stmt}{t t':TS}(h:PS X s t)(hw:∀ D σ H,t' D σ H->t D σ H):PS X s t':=fun pins s σ H D I q=>h pins s σ H D I (hw D σ H q)
theorem kf {s:List Stmt}{t t':TS}(h:PSs X s t)(hw:∀ D σ H,t' D σ H->t D σ H):PSs X s t':=fun pins s σ H D I q=>h pins s σ H D I (hw D σ H q)
theorem jN {tg e:Expr}{t t':TI}(h:PI X tg e t)(hw:∀ σ H R,t' σ H R->t σ H R):PI X tg e t':=fun pins s σ H R I q=>h pins s σ H R I (hw σ H R q)
theorem BA {tg e:Expr}{t t':TI}(h:PI X tg e t)(h':PI X tg e t'):PI X tg e (fun σ H R=>t σ H R\/t' σ H R):=fun pins s σ H R I q=>q.elim (h pins s σ H R I) (h' pins s σ H R I)
noncomputable abbrev SE (X:Cx)(sf:Nat->Option Nat)(C:M.Call)(me:Expr)(e:M.E):Prop:=PE X me (wE X.K sf C e)
noncomputable abbrev SB (X:Cx)(sf:Nat->Option Nat)(C:M.Call)(me:Expr)(e:M.E):Prop:=PT X me (wT X.K sf C e)
noncomputable abbrev SL (X:Cx)(sf:Nat->Option Nat)(C:M.Call)(me:List Expr)(es:List M.E):Prop:=PA X me (wL X.K sf C es)
noncomputable abbrev SA (X:Cx)(sf:Nat->Option Nat)(C:M.Call)(me:List Expr)(es:List M.E):Prop:=PA X me (wA X.K sf C es)
noncomputable abbrev SS (X:Cx)(sf:Nat->Option Nat)(io:List Nat)(C:M.Call)(ms:Stmt)(s:M.S):Prop:=PS X ms (wS X.K sf io C s)
noncomputable abbrev SSs (X:Cx)(sf:Nat->Option Nat)(io:List Nat)(C:M.Call)(ms:List Stmt)(s:List M.S):Prop:=PSs X ms (wSs X.K sf io C s)
theorem sV (j:Nat){i:Nat}{x:Str}(hs:sf i=some j:=by rfl)(hN:X.N[j]?=some x:=by rfl)(hv:Vis X.env.scope x:=by first | exact a0G rfl | exact a0A (a0G rfl) | exact a0A (a0A rfl))(hd:(x==("__debug__":Str))=false:=by decide)
  (hcd:(x==("__classdict__":Str))=false:=by decide):SE X sf C (.Name x pos) (.var i):=aj (bq hN hv hd hcd) (yi hs)
theorem sM (j:Nat){i:Nat}{x:Str}(hs:sf i=some j:=by rfl)(hN:X.N[j]?=some x:=by rfl)(hv:Vis X.env.scope x:=by first | exact a0G rfl | exact a0A (a0G rfl) | exact a0A (a0A rfl))(hd:(x==("__debug__":Str))=false:=by decide)
  (hcd:(x==("__classdict__":Str))=false:=by decide):SE X sf C (.Name x pos) (.mv i):=aj (bq hN hv hd hcd) (AM (fun _=>rfl) hs)
theorem sI {i:Int}{k:Nat}:SE X sf C (.Constant (.int i) k pos) (.cst (.int i)):=aj qB (ij fun {_ _}=>rfl)
theorem sO {i:Bool}{k:Nat}:SE X sf C (.Constant (.bool i) k pos) (.cst (.bl i)):=aj Cd (ij fun {_ _}=>rfl)
theorem sN {k:Nat}:SE X sf C (.Constant .none k pos) (.cst .non):=aj AS (ij fun {_ _}=>rfl)
theorem a0 (s:String)(hl:s.length<=1000):M.sOk (Str.ofString s)=true:=by
 unfold M.sOk
 rw [Str.ofString_eq_toList,a0j]
 refine ⟨?_,decide_eq_true ?_⟩
 ·rw [a11]
  intro x hx
  rw [List.mem_toArray,a0z] at hx
  obtain ⟨c,_,rfl⟩:=hx
  refine decide_eq_true ?_
  have:=c.valid
  have h2:c.toNat < 0x110000:=by
   have h3:=c.valid
   unfold UInt32.isValidChar Nat.isValidChar at h3
   show c.val.toNat < _
   omega
  exact h2
 ·rw [a0n,a0b,a2E]
  exact a0y hl (by decide)
theorem sS {s:String}{k:Nat}(hl:s.length<=1000:=by decide):SE X sf C (.Constant (.str (Str.ofString s)) k pos) (.cst (.str (Str.ofString s))):=aj AX (ij fun {_ _}=>⟨rfl,a0 s hl⟩)
theorem sl0:SL X sf C [] []:=jt bQ ze
theorem slc {es:List Expr}{bs:List M.E}(ha:SE X sf C ea a)(hb:SL X sf C es bs)(hs:starEach (ea::es) X.env=(false,eval ea X.env)::starEach es X.env:=by rfl):SL X sf C (ea::es) (a::bs):=jt (aP ha hb hs) vN
theorem sT {es:List Expr}{bs:List M.E}{x1:Nat}(h:SL X sf C es bs)(hn:bs.length<=M.LIM:=by decide):SE X sf C (.Tuple es x1 pos) (.tup bs):=aj (pN h) (zE hn)
theorem sLs {es:List Expr}{bs:List M.E}(hh:SL X sf C es bs)(hn:bs.length<=M.LIM:=by decide):SE X sf C (.List es pos) (.lst h bs):=aj (AN hh) (An hn)
theorem cK (ha:SE X sf C ea a)(hb:SE X sf C eb b):SE X sf C (.BinOp ea .Add eb pos) (.op .add h [a,b]) :=
 aj (eO (op_add.or (op_add_str.or (op_cat.or vh))) ha hb) (aK (xa (xu X.K) fun {Z H G Q a b xs ys ts} h1 h2 h3 h4 ow r k=>by
  obtain ⟨G',g1,g2⟩:=r
  refine ⟨a,b,xs,ys,rfl,rfl,h1,h2,h3,bo h4,fun v H' same hv=>j9 (m:=.s) ow g1 ?_ g2 k same hv⟩
  rw [a0l]; exact h4))
theorem vo (ha:SE X sf C ea a)(hb:SE X sf C eb b):SE X sf C (.BinOp ea .Sub eb pos) (.op .sub h [a,b]):=aj (eO zZ ha hb) (aK vD)
theorem j4 (ha:SE X sf C ea a)(hb:SE X sf C eb b):SE X sf C (.BinOp ea .Mult eb pos) (.op .mul h [a,b]):=aj (eO (op_mul.or zX) ha hb) (aK vb)
theorem vq (ha:SE X sf C ea a)(hb:SE X sf C eb b):SE X sf C (.BinOp ea .FloorDiv eb pos) (.op .fdiv h [a,b]):=aj (eO wo ha hb) (aK oX)
theorem EA (ha:SE X sf C ea a)(hb:SE X sf C eb b):SE X sf C (.BinOp ea .Mod eb pos) (.op .mod h [a,b]):=aj (eO ym ha hb) (aK vT)
theorem EO (ha:SE X sf C ea a)(hb:SE X sf C eb b):SE X sf C (.BinOp ea .Pow eb pos) (.op .pow h [a,b]):=aj (eO zq ha hb) (aK wO)
theorem Ci (ha:SE X sf C ea a):SE X sf C (.UnaryOp .USub ea pos) (.op .neg h [a]):=aj (El Aw ha) (xZ vj)
theorem sGt (ha:SE X sf C ea a)(hb:SE X sf C eb b):SE X sf C (.Compare ea [.Gt] [eb] pos) (.op .gt h [a,b]):=aj (i6 xI ha hb (dz _)) (aK qX)
theorem sIx (ha:SE X sf C ea a)(hb:SE X sf C eb b)(hs:iB eb:=by intro _ _; rfl):SE X sf C (.Subscript ea eb pos) (.op .ix h [a,b]):=aj (xG (ix_any.or z0) ha hb hs) (aK yz)
mutual
noncomputable def th:M.T->Th
 | .non=>.non | .bl b=>.bl b | .int i=>.int i | .str x=>.str x | .tup ts=>.tup (ths ts) | .lst ts=>.lst (ths ts) | .dct _ _=>.non | .ins _ _ _=>.non | .scr _=>.non | .gone=>.non
noncomputable def ths:List M.T->List Th
 | []=>[]
 | t::ts=>th t::ths ts
end
mutual
theorem iI {K:a0a}{Z:Fp}{H:Hp}:∀ {t:M.T} {m:M.Md} {v:V} {G:Fp} {n:Nat},M.dp t<=n->n<=64->Rep K Z H m t v G->Has K H (th t) v/\(toD (th t)).canLay0=true/\(toD (th t)).depth<=n
 | .non,_,_,_,_,_,_,r=>⟨r,rfl,a0M _⟩
 | .bl _,_,_,_,_,_,_,r=>⟨r,rfl,a0M _⟩
 | .int _,_,_,_,_,_,_,r=>⟨r,rfl,a0M _⟩
 | .str x,_,_,_,_,_,_,r=>⟨r.1,by have h:=r.2; unfold M.sOk at h; rw [a0j] at h; exact h.1,a0M _⟩
 | .tup ts,m,v,G,n,hd,hn,⟨a,xs,e,q,l,r⟩=>by
  have hd':M.dps ts+1<=n:=hd
  match n,hd' with
  | n+1,hd' =>
   obtain ⟨h1,h2,h3⟩:=fF (n:=n) (by omega) (by omega) r
   exact ⟨⟨a,xs,e,q,h1⟩,h2,a2p h3⟩
 | .lst ts,m,v,G,n,hd,hn,⟨a,xs,e,l,q,r⟩=>by
  have hd':M.dps ts+1<=n:=hd
  match n,hd' with
  | n+1,hd' =>
   obtain ⟨h1,h2,h3⟩:=fF (n:=n) (by omega) (by omega) r
   exact ⟨⟨a,xs,e,by cases m<;>exact q.2,h1⟩,h2,a2p h3⟩
 | .dct _ _,_,_,_,_,hd,hn,_=>by have:1000<=64:=a0y hd hn; omega
 | .ins _ _ _,_,_,_,_,hd,hn,_=>by have:1000<=64:=a0y hd hn; omega
 | .gone,_,_,_,_,hd,hn,_=>by have:1000<=64:=a0y hd hn; omega
 | .scr _,_,_,_,_,hd,hn,_=>by have:1000<=64:=a0y hd hn; omega
theorem fF {K:a0a}{Z:Fp}{H:Hp}:∀ {ts:List M.T} {m:M.Md} {xs:List V} {G:Fp} {n:Nat},M.dps ts<=n->n<=64->RepL K Z H m ts xs G->HasL K H (ths ts) xs/\PyData.canLayAll0 (d0 (ths ts))=true/\PyData.depthAll (d0 (ths ts))<=n
 | [],_,_,_,_,_,_,r=>⟨r,rfl,a0M _⟩
 | t::ts,m,xs,G,n,hd,hn,⟨x,r,G1,G2,e,_,_,_,p,q⟩=>by
  have hd':max (M.dp t) (M.dps ts)<=n:=hd
  obtain ⟨h1,h2,h3⟩:=iI (n:=n) (by omega) hn p
  obtain ⟨k1,k2,k3⟩:=fF (n:=n) (by omega) hn q
  refine ⟨⟨x,r,e,h1,k1⟩,?_,?_⟩
  ·show ((toD (th t)).canLay0&&PyData.canLayAll0 (d0 (ths ts)))=true
   rw [h2,k2]; rfl
  ·show max (toD (th t)).depth (PyData.depthAll (d0 (ths ts)))<=n
   omega
end
mutual
theorem lj:∀ (t u:M.T),M.dp t<=64->M.dp u<=64->PyData.eqv (toD (th t)) (toD (th u))=M.eqT t u
 | .dct _ _,_,h,_=>by have:1000<=64:=h; omega
 | .ins _ _ _,_,h,_=>by have:1000<=64:=h; omega
 | .gone,_,h,_=>by have:1000<=64:=h; omega
 | .scr _,_,h,_=>by have:1000<=64:=h; omega
 | .non,u,_,h=>by cases u<;>first | rfl | (have:1000<=64:=h; omega)
 | .bl a,u,_,h=>by cases u<;>first | rfl | (cases a<;>rfl) | (have:1000<=64:=h; omega)
 | .int i,u,_,h=>by
  cases u with
  | bl b=>cases b<;>rfl
  | _=>first | rfl | (have:1000<=64:=h; omega)
 | .str x,u,_,h=>by cases u<;>first | rfl | (have:1000<=64:=h; omega)
 | .tup ts,u,h1,h=>by
  cases u with
  | tup us=>exact iX ts us (by have:M.dps ts+1<=64:=h1; omega) (by have:M.dps us+1<=64:=h; omega)
  | _=>first | rfl | (have:1000<=64:=h; omega)
 | .lst ts,u,h1,h=>by
  cases u with
  | lst us=>exact iX ts us (by have:M.dps ts+1<=64:=h1; omega) (by have:M.dps us+1<=64:=h; omega)
  | _=>first | rfl | (have:1000<=64:=h; omega)
theorem iX:∀ (ts us:List M.T),M.dps ts<=64->M.dps us<=64->PyData.eqvAll (d0 (ths ts)) (d0 (ths us))=M.eqTs ts us
 | [],[],_,_=>rfl
 | [],_::_,_,_=>rfl
 | _::_,[],_,_=>rfl
 | t::ts,u::us,h1,h2=>by
  have h1':max (M.dp t) (M.dps ts)<=64:=h1
  have h2':max (M.dp u) (M.dps us)<=64:=h2
  show (PyData.eqv (toD (th t)) (toD (th u))&&PyData.eqvAll (d0 (ths ts)) (d0 (ths us)))=(M.eqT t u&&M.eqTs ts us)
  rw [lj t u (by omega) (by omega),iX ts us (by omega) (by omega)]
end
theorem iT {K:a0a}{Z:Fp}{H:Hp}{t:M.T}{m:M.Md}{v:V}{G:Fp}(hd:M.dp t<=64)(r:Rep K Z H m t v G):Has K H (th t) v/\iR (th t):=by
 obtain ⟨h1,h2,h3⟩:=iI hd (a0m _) r
 refine ⟨h1,?_⟩
 show ((toD (th t)).canLay0&&decide ((toD (th t)).depth<=64))=true
 rw [h2,decide_eq_true h3]; rfl
theorem pK {K:a0a}:Loc K 2 .eq h fun xs H Q=>∀ x y,xs=[x,y]->∃ t t',Has K H t x/\Has K H t' y/\iR t/\iR t'/\Q (.bl (PyData.eqv (toD t) (toD t'))) H:=by
 intro ws w xs Z H G Q hn e r ow za k x y hx
 subst hx
 obtain ⟨⟨m,a⟩,⟨n,b⟩,rfl⟩:=dw r.length.symm
 obtain ⟨G1,G2,w1,w2,d,r1,r2⟩:=bO r
 have e':(if decide (M.dp a<=64)&&decide (M.dp b<=64) then some ((.d,.bl (M.eqT a b)):M.W) else none)=some w:=e
 split at e'
 ·rename_i hc
  rw [a0j,decide_eq_true_eq,decide_eq_true_eq] at hc
  cases e'
  obtain ⟨h1,o1⟩:=iT hc.1 r1
  obtain ⟨h2,o2⟩:=iT hc.2 r2
  refine ⟨th a,th b,h1,h2,o1,o2,?_⟩
  rw [lj a b hc.1 hc.2]
  exact bY k
 ·cases e'
theorem yy {K:a0a}:Loc K 2 .ne h fun xs H Q=>∀ x y,xs=[x,y]->∃ t t',Has K H t x/\Has K H t' y/\iR t/\iR t'/\Q (.bl (!PyData.eqv (toD t) (toD t'))) H:=by
 intro ws w xs Z H G Q hn e r ow za k x y hx
 subst hx
 obtain ⟨⟨m,a⟩,⟨n,b⟩,rfl⟩:=dw r.length.symm
 obtain ⟨G1,G2,w1,w2,d,r1,r2⟩:=bO r
 have e':(if decide (M.dp a<=64)&&decide (M.dp b<=64) then some ((.d,.bl (!M.eqT a b)):M.W) else none)=some w:=e
 split at e'
 ·rename_i hc
  rw [a0j,decide_eq_true_eq,decide_eq_true_eq] at hc
  cases e'
  obtain ⟨h1,o1⟩:=iT hc.1 r1
  obtain ⟨h2,o2⟩:=iT hc.2 r2
  refine ⟨th a,th b,h1,h2,o1,o2,?_⟩
  rw [lj a b hc.1 hc.2]
  exact bY k
 ·cases e'
theorem sEq (hr:Room n X.A)(ha:SE X sf C ea a)(hb:SE X sf C eb b):SE X sf C (.Compare ea [.Eq] [eb] pos) (.op .eq h [a,b]):=aj (i6 (lP hr.units) ha hb (dz _)) (aK pK)
theorem ifN {α:Type}{b:Bool}{x:Option α}{y:α}(h:(if b=true then none else x)=some y):b=false/\x=some y:=by cases b<;>first | exact ⟨rfl,h⟩ | cases h
theorem mh {K:a0a}{Z:Fp}{H:Hp}{G:Fp}{m:M.Md}{ts:List M.T}{xs:List V}(lo hi:Option Int)(r:RepL K Z H m ts xs G):RepL K Z H m (M.cut ts lo hi) (eg xs lo hi) G:=by
 have e:=r.length
 have hs:∀ n d o,HT.sIx n d o=M.sIx n d o:=fun n d o=>by cases o<;>rfl
 have hc:eg xs lo hi=(xs.drop (M.sIx ts.length 0 lo)).take (M.sIx ts.length ts.length hi-M.sIx ts.length 0 lo):=by
  unfold eg
  rw [hs,hs,e]
 rw [hc]
 exact (r.drop _).take _
theorem r6 (ns:List Int)(lo hi:Option Int):eg (ns.map V.int) lo hi=(M.cut ns lo hi).map V.int:=by
 have hs:∀ n d o,HT.sIx n d o=M.sIx n d o:=fun n d o=>by cases o<;>rfl
 unfold eg M.cut
 rw [hs,hs,a0b,List.map_take,List.map_drop]
theorem yA {α:Type}(xs:List α)(lo hi:Option Int):(M.cut xs lo hi).length<=xs.length:=by
 unfold M.cut
 rw [a1t,a1O]; omega
theorem pC {K:a0a}{Z:Fp}{H:Hp}{G G1:Fp}{Q:VK}{m:M.Md}{a:M.T}{x:V}{w:M.W}{lo hi:Option Int}(hg:∀ b,G1 b->G b)(ow:Own Z H G)(za:∀ a,Z a->H a≠none)(r:Rep K Z H m a x G1)
  (e:(match a with | .lst ts=>M.newL h m.kid (M.cut ts lo hi) | .tup ts=>some ((.s,.tup (M.cut ts lo hi)):M.W) | .scr ns=>some (.d,.lst ((M.cut ns lo hi).map M.T.int)) | _=>none)=some w) (k:Out K Z H G w Q):va K x lo hi H Q\/s9 K x lo hi H Q:=by
 cases a with
 | lst ts =>
  obtain ⟨p,xs,rfl,hs,hl,q⟩:=a8 r
  refine .inl ⟨p,xs,rfl,.inl (.inl hs),fun l hl'=>?_⟩
  exact cO ow za (a0y (bX xs lo hi) hl) ⟨G1,hg,(mh lo hi q).zmono fun _ z=>.inl z⟩ e k hl'
 | tup ts =>
  obtain ⟨p,xs,rfl,hs,hl,q⟩:=cy r
  cases e
  refine .inr ⟨p,xs,rfl,hs,fun v H' same hv=>?_⟩
  exact j9 (m:=.s) (G':=no) ow (fun _ z=>z.elim) (a0y (bX xs lo hi) hl) ((RepL.sh (mh lo hi q)).zmono fun b hb=>hb.imp id fun z=>⟨hg b z,fun q=>q⟩) k same hv
 | scr ns =>
  obtain ⟨p,rfl,hL,hs⟩:=r
  cases e
  refine .inl ⟨p,_,rfl,hs.sq,fun l hl'=>?_⟩
  rw [r6]
  exact bB (m:=.d) (G':=no) ow za (fun _ z=>z.elim) (by rw [a0b]; exact a0y (yA ns lo hi) hL) (fW _) (by simp) k hl'
 | _=>cases e
theorem FY {p3:Pos}(ha:SE X sf C ea a)(hb:SE X sf C eb b):SE X sf C (.Subscript ea (.Slice none (some eb) none p3) pos) (.op .sl2 h [a,b]) :=
 aj (jA (sl_list.or mi) ha lX (mq hb)) (fun σ H Q hw=>aK (r:=fun x y H Q=>∃ i,y=.int i/\(va X.K x none (some i) H Q\/s9 X.K x none (some i) H Q)) (by
  intro ws w xs Z H G Q hn e r ow za k x y hx
  subst hx
  obtain ⟨⟨m,a⟩,⟨n,b⟩,rfl⟩:=dw r.length.symm
  obtain ⟨G1,G2,w1,w2,d,r1,r2⟩:=bO r
  cases b with
  | int i=>exact ⟨i,r2,pC (h:=h) (lo:=none) (hi:=some i) w1 ow za r1 (by cases a<;>exact e) k⟩
  | _=>cases a<;>cases e) σ H Q hw)
theorem F6 {p3:Pos}(ha:SE X sf C ea a)(hb:SE X sf C eb b):SE X sf C (.Subscript ea (.Slice (some eb) none none p3) pos) (.op .sl1 h [a,b]) :=
 aj (jA (sl_list.or mi) ha (mq hb) lX) (fun σ H Q hw=>aK (r:=fun x y H Q=>∃ i,y=.int i/\(va X.K x (some i) none H Q\/s9 X.K x (some i) none H Q)) (by
  intro ws w xs Z H G Q hn e r ow za k x y hx
  subst hx
  obtain ⟨⟨m,a⟩,⟨n,b⟩,rfl⟩:=dw r.length.symm
  obtain ⟨G1,G2,w1,w2,d,r1,r2⟩:=bO r
  cases b with
  | int i=>exact ⟨i,r2,pC (h:=h) (lo:=some i) (hi:=none) w1 ow za r1 (by cases a<;>exact e) k⟩
  | _=>cases a<;>cases e) σ H Q hw)
theorem jy {K:a0a}:Loc K 1 .len h fun xs H Q=>∃ x n,xs=[x]/\DL K x H n/\Q (.int n) H:=by
 intro ws w xs Z H G Q hn e r ow za k
 obtain ⟨x,n,hx,hm,q⟩:=u6 (h:=h) ws w xs Z H G Q hn e r ow za k
 exact ⟨x,n,hx,by cases x<;>exact hm,q⟩
section
variable {p:Pos}{x1:Str}
theorem cT (hm:X.mg "len"=none)(hg:Gl X "len":=by rfl)(ha:SE X sf C ea a)(hs:starEach [ea] X.env=(false,eval ea X.env)::starEach [] X.env:=by rfl)(hpl:(backTo pos (starEach [] X.env)).any (·.1)=false:=by rfl):SE X sf C (.Call (.Name "len" p) [ea] [] pos) (.op .len h [a]) :=
 aj (ba jF hg hm a3t (slc ha sl0 hs) (by decide) (by decide) hs hpl) (cQ jy rfl)
theorem CG (hc:X.calm=true:=by rfl)(hm:X.mg "sum"=none)(hg:Gl X "sum":=by rfl)(ha:SE X sf C ea a)(hs:starEach [ea] X.env=(false,eval ea X.env)::starEach [] X.env:=by rfl)(hpl:(backTo pos (starEach [] X.env)).any (·.1)=false:=by rfl):SE X sf C (.Call (.Name "sum" p) [ea] [] pos) (.op .sum h [a]) :=
 aj (ba (nE hc) hg hm (by rfl) (slc ha sl0 hs) (by decide) (by decide) hs hpl) (cQ tM rfl)
theorem vt (hc:X.calm=true:=by rfl)(hm:X.mg "all"=none)(hg:Gl X "all":=by rfl)(ha:SE X sf C ea a)(hs:starEach [ea] X.env=(false,eval ea X.env)::starEach [] X.env:=by rfl)(hpl:(backTo pos (starEach [] X.env)).any (·.1)=false:=by rfl):SE X sf C (.Call (.Name "all" p) [ea] [] pos) (.op .all h [a]) :=
 aj (ba (nA hc) hg hm (by rfl) (slc ha sl0 hs) (by decide) (by decide) hs hpl) (cQ u5 rfl)
theorem CI (hm:X.mg "list"=none)(hg:Gl X "list":=by rfl)(ha:SE X sf C ea a)(hs:starEach [ea] X.env=(false,eval ea X.env)::starEach [] X.env:=by rfl)(hpl:(backTo pos (starEach [] X.env)).any (·.1)=false:=by rfl):SE X sf C (.Call (.Name "list" p) [ea] [] pos) (.op .list h [a]) :=
 aj (cp ig hg hm a02 (slc ha sl0 hs) (by decide) (by decide) hs hpl) (cQ p6 rfl)
theorem Br (hc:X.calm=true:=by rfl)(hm:X.mg "max"=none)(hg:Gl X "max":=by rfl)(ha:SE X sf C ea a)(hb:SE X sf C eb b)(hs:starEach [ea,eb] X.env=(false,eval ea X.env)::starEach [eb] X.env:=by rfl)(hs2:starEach [eb] X.env=(false,eval eb X.env)::starEach [] X.env:=by rfl)(hpl:(backTo pos (starEach [eb] X.env)).any (·.1)=false:=by rfl):SE X sf C (.Call (.Name "max" p) [ea,eb] [] pos) (.op .max h [a,b]) :=
 aj (ba (nR hc) hg hm (by rfl) (slc ha (slc hb sl0 hs2) hs) (by decide) (by decide) hs hpl) (cQ wN rfl)
end
theorem g0 {K:a0a}{x:V}{H:Hp}{k:Bool}(h:TrV K x H k):qc K x H k:=by
 cases x with
 | ref p=>exact h.imp id .inl
 | byt _=>exact h.elim
 | _=>exact h
theorem tB (ha:SE X sf C ea a)(he:∀ whole,isTrue ea X.env whole=(do let v <- whole; standAt ea.pos; holding [v] (truthy v)):=by intro _; rfl):SB X sf C ea a :=
 mn (p9 ha he) fun σ H Q h=>by
  obtain ⟨pv,Z,Fs,η,w,η',b,A,ev,ht,k⟩:=h
  exact ⟨pv,Z,Fs,η,w,η',A,ev,fun v Z' H' Fs' G B r s=>⟨b,g0 (eF ht r),k Z' H' Fs' B.bare (s.mono (fun _ z=>z) fun _ z=>.inl z)⟩⟩
theorem b5 (ha:SB X sf C ea a):SB X sf C (.UnaryOp .Not ea pos) (.not a):=mn (AL ha) zS
theorem xR {σ:L2.St}{H:Hp}{Q:Bool->Hp->Prop}(hb:∀ η w η',M.evE C a η=.ok (w,η')->∃ b,w.2=.bl b)(h:wT X.K sf C a σ H Q):pj (wE X.K sf C a) σ H Q:=by
 obtain ⟨pv,Z,Fs,η,w,η',b,A,ev,ht,k⟩:=h
 refine ⟨pv,Z,Fs,η,w,η',A,ev,fun v Z' H' Fs' G B r s=>⟨b,?_,k Z' H' Fs' B.bare (s.mono (fun _ z=>z) fun _ z=>.inl z)⟩⟩
 obtain ⟨b',hb'⟩:=hb _ _ _ ev
 rw [hb'] at ht r
 cases ht
 exact r
theorem Dn {o:M.Op}(ho:∀ u v w,M.oSem o h [u,v]=some w->∃ b,w.2=.bl b):∀ η w η',M.evE C (.op o h [a,b]) η=.ok (w,η')->∃ b,w.2=.bl b:=fun η w η' e=>by
 obtain ⟨ws,h1,h2⟩:=cD e
 obtain ⟨u,η1,us,_,e2,rfl⟩:=ax h1
 obtain ⟨v,η2,us,_,e4,rfl⟩:=ax e2
 cases e4
 exact ho u v w h2
theorem df {op:CmpOp}{r:R2}{o:M.Op}(ho:OpR X (compareOp op) r)(ha:SE X sf C ea a)(hb:SE X sf C eb b)(hm:behindInMarks op eb=false)(hl:∀ σ H Q,wE X.K sf C (.op o h [a,b]) σ H Q->tOp r (wE X.K sf C a) (wE X.K sf C b) σ H Q)
  (hbl:∀ u v w,M.oSem o h [u,v]=some w->∃ b,w.2=.bl b):SB X sf C (.Compare ea [op] [eb] pos) (.op o h [a,b]) :=
 mn (vS ho ha hb hm) fun σ H Q hw=>hl σ H _ (xR (Dn hbl) hw)
theorem Di {u v w:M.W}(e:M.oSem .eq h [u,v]=some w):∃ b,w.2=.bl b:=by
 obtain ⟨m,a⟩:=u; obtain ⟨n,b⟩:=v
 have e':(if decide (M.dp a<=64)&&decide (M.dp b<=64) then some ((.d,.bl (M.eqT a b)):M.W) else none)=some w:=e
 split at e'
 ·cases e'; exact ⟨_,rfl⟩
 ·cases e'
theorem BQ {u v w:M.W}(e:M.oSem .ne h [u,v]=some w):∃ b,w.2=.bl b:=by
 obtain ⟨m,a⟩:=u; obtain ⟨n,b⟩:=v
 have e':(if decide (M.dp a<=64)&&decide (M.dp b<=64) then some ((.d,.bl (!M.eqT a b)):M.W) else none)=some w:=e
 split at e'
 ·cases e'; exact ⟨_,rfl⟩
 ·cases e'
theorem DV (ha:SE X sf C ea a)(hb:SE X sf C eb b):SB X sf C (.Compare ea [.Lt] [eb] pos) (.op .lt h [a,b]):=df rE ha hb (dz _) (aK yn) fun u v w e=>by obtain ⟨_,_,_,_,_,_,rfl⟩:=fj e; exact ⟨_,rfl⟩
theorem vB (ha:SE X sf C ea a)(hb:SE X sf C eb b):SB X sf C (.Compare ea [.Gt] [eb] pos) (.op .gt h [a,b]):=df xI ha hb (dz _) (aK qX) fun u v w e=>by obtain ⟨_,_,_,_,_,_,rfl⟩:=pT e; exact ⟨_,rfl⟩
theorem Fz (ha:SE X sf C ea a)(hb:SE X sf C eb b):SB X sf C (.Compare ea [.GtE] [eb] pos) (.op .ge h [a,b]):=df D9 ha hb (dz _) (aK Bl) fun u v w e=>by obtain ⟨_,_,_,_,_,_,rfl⟩:=pe e; exact ⟨_,rfl⟩
theorem kS (hr:Room n X.A)(ha:SE X sf C ea a)(hb:SE X sf C eb b):SB X sf C (.Compare ea [.Eq] [eb] pos) (.op .eq h [a,b]):=df (lP hr.units) ha hb (dz _) (aK pK) fun u v w e=>Di e
theorem iz (hr:Room n X.A)(ha:SE X sf C ea a)(hb:SE X sf C eb b):SB X sf C (.Compare ea [.NotEq] [eb] pos) (.op .ne h [a,b]):=df (tI hr.units) ha hb (dz _) (aK yy) fun u v w e=>BQ e
noncomputable abbrev SW (X:Cx)(sf:Nat->Option Nat)(C:M.Call)(me:Expr)(e:M.E):Prop:=PW X me (wT X.K sf C e)
theorem wA1 (ha:SB X sf C ea a):SW X sf C (.BoolOp .And [ea] pos) a:=u7 ha
theorem wO1 (ha:SB X sf C ea a):SW X sf C (.BoolOp .Or [ea] pos) a:=zK ha
theorem pP {rest:List Expr}(ha:SB X sf C ea a)(hb:SW X sf C (.BoolOp .And (eb::rest) pos) b):SW X sf C (.BoolOp .And (ea::eb::rest) pos) (.and a b):=xT (Ag ha hb) Ac
theorem wOr {rest:List Expr}(ha:SB X sf C ea a)(hb:SW X sf C (.BoolOp .Or (eb::rest) pos) b):SW X sf C (.BoolOp .Or (ea::eb::rest) pos) (.or a b):=xT (D4 ha hb) C0
theorem tW (h:SW X sf C ea a):SB X sf C ea a:=h.pt
theorem tP {ta:TE}(ha:PE X ea ta):PE X (.UnaryOp .Not ea pos) (fun σ H Q=>ta σ H fun x H1=>∃ k,qc X.K x H1 k/\Q (.bl (!k)) H1):=by
 intro pins s σ H Q I h
 refine UnaryOp_ (thn (ha pins s σ H _ I h) fun v s1 ⟨x,H1,I1,r1,q1⟩=>?_)
 refine not_of (thn (k6 pins s1 σ H1 x v (fun k H2=>Q (.bl (!k)) H2) I1 r1 q1) fun k s2 ⟨H2,I2,q2⟩=>⟨.bl (!k),H2,I2,rfl,q2⟩)
theorem E9 (ha:SE X sf C ea a):SE X sf C (.UnaryOp .Not ea pos) (.not a):=aj (tP ha) fun σ H Q h=>by
 obtain ⟨pv,Z,Fs,η,w,η',A,ev,k⟩:=yq σ H Q h
 exact ⟨pv,Z,Fs,η,w,η',A,ev,fun v Z' H' Fs' G B r s=>let ⟨c,t,q⟩:=k v Z' H' Fs' G B r s; ⟨c,g0 t,q⟩⟩
theorem sIf (hc:SB X sf C ec c)(ha:SE X sf C ea a)(hb:SE X sf C eb b):SE X sf C (.IfExp ec ea eb pos) (.ifx c a b):=aj (oV hc ha hb) zw
theorem d6 {tg:Expr}(ha:SE X sf C ea a):PI X tg ea (wI X.K sf C 1 .seq [a]):=jN (BA (l5 ha) (Ae ha)) AH
theorem tf {tg:Expr}{p:Pos}(hm:X.mg "range"=none)(hg:Gl X "range":=by rfl)(ha:SE X sf C ea a)(hs:starEach [ea] X.env=[(false,eval ea X.env)]:=by rfl):PI X tg (.Call (.Name "range" p) [ea] [] pos) (wI X.K sf C 1 .rng [a]):=jN (n6 hg hm (slc ha sl0 hs) hs) vi
theorem xr {es:List Expr}{kt:Nat}{pt p:Pos}(hc:X.calm=true:=by rfl)(hm:X.mg "zip"=none)(hg:Gl X "zip":=by rfl)(ha:SE X sf C ea a)(hb:SE X sf C eb b)(hs:starEach [ea,eb] X.env=[(false,eval ea X.env),(false,eval eb X.env)]:=by rfl)(hs2:starEach [eb] X.env=[(false,eval eb X.env)]:=by rfl):PI X (.Tuple es kt pt) (.Call (.Name "zip" p) [ea,eb] [] pos) (wI X.K sf C 2 .zip [a,b]):=jN (Ap hg hm (slc ha (slc hb sl0 hs2) (by rw [hs,hs2])) hs hs2) Ba
noncomputable def lkN:List Nat->Nat->Nat->Option Nat
 | [],_,_=>none
 | t::ts,n,i=>if i=t then some n else lkN ts (n+1) i
theorem mH:∀ {l:List Nat} {n i j:Nat},lkN l n i=some j->∃ k,l[k]?=some i/\j=n+k/\i ∉ l.take k
 | [],_,_,_,h=>by cases h
 | t::ts,n,i,j,h=>by
  have h':(if i=t then some n else lkN ts (n+1) i)=some j:=h
  split at h'
  ·rename_i e; cases h'; exact ⟨0,by rw [e]; rfl,rfl,by simp⟩
  ·rename_i e
   obtain ⟨k,h1,h2,h3⟩:=mH h'
   exact ⟨k+1,h1,by omega,by rw [a1w,a0r]; exact fun z=>z.elim e h3⟩
noncomputable def inF (tg ls:List Nat):Nat->Option Nat:=lkN (tg++ls) 0
theorem cj {tg ls is:List Nat}(h:ls.map sf=is.map some):dG sf (inF tg ls) tg is:=fun i j hj=>by
 obtain ⟨k,h1,h2,h3⟩:=mH (show lkN (tg++ls) 0 i=some j from hj)
 rw [a2A] at h2
 subst h2
 by_cases hk:j < tg.length
 ·rw [a0Q hk] at h1
  exact .inl ⟨j,h1,rfl⟩
 ·have hk':tg.length<=j:=a3b hk
  rw [a0B hk'] at h1
  refine .inr ⟨fun hi=>h3 ?_,?_⟩
  ·rw [List.take_append,a2w hk']
   exact a0I _ hi
  ·have e1:(ls.map sf)[j-tg.length]?=some (sf i):=by rw [a0s,h1]; rfl
   rw [h,a0s] at e1
   cases e2:is[j-tg.length]? with
   | none=>rw [e2] at e1; cases e1
   | some j0 =>
    rw [e2] at e1
    exact ⟨j-tg.length,j0,by omega,e2,(a0t e1).symm⟩
theorem vm {x:Str}{px:Pos}{ys:List Str}{scope:Scope}{cl:List (Str×Addr)}(S:av [x] ys scope)(Ca:Addr)(s:Shared)(H:Hp)(fp:List Addr):PG (ah X ([x]++ys) scope cl Ca s H fp) (.Name x px) (gT X.K 1) :=
 c7 (X:=ah X ([x]++ys) scope cl Ca s H fp) (i:=0) (x:=x) (pos:=px) S.nd rfl (.inl (lookup_relabel_local (S.loc x (by simp)))) (.inr (lookup_relabel_local (S.loc x (by simp))))
theorem Bz {x y:Str}{px py pt:Pos}{kt:Nat}{ys:List Str}{scope:Scope}{cl:List (Str×Addr)}(hc:X.calm=true)(S:av [x,y] ys scope)(Ca:Addr)(s:Shared)(H:Hp)(fp:List Addr):PG (ah X ([x,y]++ys) scope cl Ca s H fp) (.Tuple [.Name x px,.Name y py] kt pt) (gT X.K 2) :=
 ph (X:=ah X ([x,y]++ys) scope cl Ca s H fp) (pos:=pt) (k:=kt) (n:=2) hc (dP (c7 (pos:=px) (i:=0) (x:=x) S.nd rfl (.inl (lookup_relabel_local (S.loc x (by simp)))) (.inr (lookup_relabel_local (S.loc x (by simp))))) (dP (c7 (pos:=py) (i:=1) (x:=y) S.nd rfl (.inl (lookup_relabel_local (S.loc y (by simp)))) (.inr (lookup_relabel_local (S.loc y (by simp))))) mE))
end
end MR

namespace MR
open PySem PySem.Spec PyProof.Rows L2 L3
section
variable {X:Cx}{sf sg:Nat->Option Nat}{C:M.Call}{pos p2:Pos}{ea eb ec:Expr}{a b c:M.E}{h:Bool}{n:Nat}{io:List Nat}
section
variable {elt iter cnd:Expr}{x y:Str}{px py pt:Pos}{kt:Nat}{scope:Scope}{cl:List (Str×Addr)}{ys:List Str}{tg ls is:List Nat}{k:M.Ik}{src:List M.E}{e cd:M.E}
theorem sC1 (ls:List Nat)(is:List Nat)(cl:List (Str×Addr))(ys:List Str){t:Nat}(hi:PI X (.Name x px) iter (wI X.K sf C 1 k src))(he:∀ Ca s H fp,SE (ah X ([x]++ys) scope cl Ca s H fp) (inF [t] ls) C elt e)
  (S:av [x] ys scope) (hcl:Clo X cl) (fr:Frees X scope cl ys is) (hc:X.calm=true:=by rfl) (hl:ls.map sf=is.map some:=by rfl)
  (hclos:closureFor scope X.env=pure cl:=by with_unfolding_all rfl) (hfr:(scope.names.all fun p=>p.2 != .free || (cl.lookup p.1).isSome)=true:=by rfl)
  (hs:∀ v,foldedSetIterable iter X.env v=pure v:=by intro _; rfl):SE X sf C (.ListComp elt [⟨.Name x px,iter,[],0⟩] scope pos) (.comp h k src [t] none e) :=
 aj (gY (pre:=[x]) hc hi (vm S) (fun Ca s H fp=>he Ca s H fp) hclos S hcl hfr fr hs) (fI rfl (by simp) (cj hl))
theorem EE (ls:List Nat)(is:List Nat)(cl:List (Str×Addr))(ys:List Str){t:Nat}(hi:PI X (.Name x px) iter (wI X.K sf C 1 k src))(hcd:∀ Ca s H fp,SB (ah X ([x]++ys) scope cl Ca s H fp) (inF [t] ls) C cnd cd)(he:∀ Ca s H fp,SE (ah X ([x]++ys) scope cl Ca s H fp) (inF [t] ls) C elt e)
  (S:av [x] ys scope) (hcl:Clo X cl) (fr:Frees X scope cl ys is) (hc:X.calm=true:=by rfl) (hl:ls.map sf=is.map some:=by rfl)
  (hclos:closureFor scope X.env=pure cl:=by with_unfolding_all rfl) (hfr:(scope.names.all fun p=>p.2 != .free || (cl.lookup p.1).isSome)=true:=by rfl)
  (hs:∀ v,foldedSetIterable iter X.env v=pure v:=by intro _; rfl):SE X sf C (.ListComp elt [⟨.Name x px,iter,[cnd],0⟩] scope pos) (.comp h k src [t] (some cd) e) :=
 aj (gy (pre:=[x]) hc hi (vm S) (fun Ca s H fp=>he Ca s H fp) (fun Ca s H fp=>hcd Ca s H fp) hclos S hcl hfr fr hs) (kb rfl (by simp) (cj hl))
theorem sC2 (ls:List Nat)(is:List Nat)(cl:List (Str×Addr))(ys:List Str){t t':Nat}(hi:PI X (.Tuple [.Name x px,.Name y py] kt pt) iter (wI X.K sf C 2 k src))(he:∀ Ca s H fp,SE (ah X ([x,y]++ys) scope cl Ca s H fp) (inF [t,t'] ls) C elt e)
  (S:av [x,y] ys scope) (hcl:Clo X cl) (fr:Frees X scope cl ys is) (hc:X.calm=true:=by rfl) (hl:ls.map sf=is.map some:=by rfl) (nd:[t,t'].Nodup:=by decide)
  (hclos:closureFor scope X.env=pure cl:=by with_unfolding_all rfl) (hfr:(scope.names.all fun p=>p.2 != .free || (cl.lookup p.1).isSome)=true:=by rfl)
  (hs:∀ v,foldedSetIterable iter X.env v=pure v:=by intro _; rfl):SE X sf C (.ListComp elt [⟨.Tuple [.Name x px,.Name y py] kt pt,iter,[],0⟩] scope pos) (.comp h k src [t,t'] none e) :=
 aj (gY (pre:=[x,y]) hc hi (Bz hc S) (fun Ca s H fp=>he Ca s H fp) hclos S hcl hfr fr hs) (fI rfl nd (cj hl))
end
noncomputable def spS (K:a0a)(C:M.Call)(f:Nat)(io:List Nat):Sp:=fun vs H Q _=>spC K C f io vs H Q
theorem sa0:SA X sf C [] []:=jt bQ Au
theorem sac {es:List Expr}{bs:List M.E}(ha:SE X sf C ea a)(hb:SA X sf C es bs)(he:∀ i,a≠.io i:=by intro _ z; cases z)(hs:starEach (ea::es) X.env=(false,eval ea X.env)::starEach es X.env:=by rfl):SA X sf C (ea::es) (a::bs):=jt (aP ha hb hs) (oK he)
theorem sai (j:Nat){i:Nat}{x:Str}{es:List Expr}{bs:List M.E}(hb:SA X sf C es bs)(hs:sf i=some j:=by rfl)(hN:X.N[j]?=some x:=by rfl)(hv:Vis X.env.scope x:=by first | exact a0G rfl | exact a0A (a0G rfl) | exact a0A (a0A rfl))(hd:(x==("__debug__":Str))=false:=by decide)
  (hcd:(x==("__classdict__":Str))=false:=by decide) (hst:starEach (.Name x pos::es) X.env=(false,eval (.Name x pos) X.env)::starEach es X.env:=by rfl):SA X sf C (.Name x pos::es) (.io i::bs):=jt (aP (bq hN hv hd hcd) hb hst) (m9 hs)
noncomputable def ae (P:Program)(w:World)(K:a0a)(mg:Str->Option Value)(base:Heap)(n:Nat)(C:M.Call)(x:Str)(f:Nat)(io:List Nat):Prop :=
 ∃ fa fd ps,dJ P w K mg base CX0 n fa fd ps (spS K C f io)/\mg x=some (.ref fa)/\a1J K (.ref fa)=true/\Binds K fd ps []
theorem aC {x:Str}{p:Pos}{f:Nat}{es:List Expr}{bs:List M.E}(c:ae X.prog X.w X.K X.mg X.base n C x f io)(hr:Room n X.A)(ha:SA X sf C (ea::es) bs)(hio:f6 bs 0=io\/M.ios bs=[]:=by first | exact .inl rfl | exact .inr rfl)(hg:Gl X x:=by rfl)(hdb:(x==("__debug__":Str))=false:=by decide)
  (he:starEach (ea::es) X.env=(false,eval ea X.env)::starEach es X.env:=by rfl) (hpl:(backTo pos (starEach es X.env)).any (·.1)=false:=by rfl):SE X sf C (.Call (.Name x p) (ea::es) [] pos) (.call f bs):=by
 obtain ⟨fa,fd,ps,F,hm,hk,hb⟩:=c
 refine aj (vX (E:=E0) F hr hg hm hk hb .nil BX ha hdb he hpl) fun σ H Q hw=>?_
 have h2:=wK hio σ H Q hw
 obtain ⟨pv,Z,Fs,η,ws,η',A,ev,k⟩:=h2
 exact ⟨pv,Z,Fs,η,ws,η',A,ev,fun vs Z' H' Fs' G B r s hv=>by show spS X.K C f io (vs++[]) H' Q E0; rw [a0F]; exact k vs Z' H' Fs' G B r s hv⟩
theorem ss0:SSs X sf io C [] []:=kf tj vc
theorem ss1 {s:Stmt}{t:M.S}(hs:SS X sf io C s t):SSs X sf io C [s] [t]:=kf (uH hs) tN
theorem ssc {s:Stmt}{t:M.S}{r:List Stmt}{u:List M.S}(hs:SS X sf io C s t)(hr:SSs X sf io C r u):SSs X sf io C (s::r) (t::u):=kf (pB hs hr) rQ
theorem a9 (j:Nat){i:Nat}{x:Str}{xx:M.X}{pos':Pos}(hN:X.N.Nodup)(ha:SE X sf C ea a)(hi:i ∉ io:=by decide)(hs:sf i=some j:=by rfl)(hj:X.N[j]?=some x:=by rfl)(hx:L2.Loc X.env.scope x:=by first | exact a0G rfl | exact a0A rfl)
  (hsw:swapsWith ea (some (.Name x pos')) pos.line X.env=pure false:=by rfl) (hf:X.fn x=true\/X.env.scope.names.lookup x=some .local:=by first | exact .inl rfl | exact .inr rfl):SS X sf io C (.Assign [.Name x pos'] ea pos) (.asg xx i a):=b7 (Ad (i:=j) hN hj hx ha hsw hf) (kZ hi hs)
theorem aO {vs:List Nat}(ha:SE X sf C ea a):SS X sf io C (.Return (some ea) pos) (.ret vs a):=b7 (x4 ha) yF
theorem zIf {xx:M.X}{r u:List Stmt}{s t:List M.S}(hc:SB X sf C ec c)(ha:SSs X sf io C r s)(hb:SSs X sf io C u t):SS X sf io C (.If ec r u pos) (.ite xx c s t):=b7 (BI hc ha hb) AG
theorem E1 {xx:M.X}{r:List Stmt}{s:List M.S}(hc:SB X sf C ec c)(ha:SSs X sf io C r s)(hp:PassesOwn (model X.prog X.w) X.A X.env X.xe:=by exact PassesOwn.never):SS X sf io C (.While ec r [] pos) (.whl xx c s):=b7 (qZ hp hc ha) Bf
theorem dS (j:Nat){t:Nat}{x:Str}{px:Pos}{iter:Expr}{r:List Stmt}{s:List M.S}{vs ls:List Nat}{k:M.Ik}{src:List M.E}(hN:X.N.Nodup)(hi:PI X (.Name x px) iter (wI X.K sf C 1 k src))(ha:SSs X sf io C r s)(hio:∀ u∈[t],u ∉ io:=by decide)(hjs:[t].map sf=[j].map some:=by rfl)(hj:X.N[j]?=some x:=by rfl)(hx:L2.Loc X.env.scope x:=by first | exact a0G rfl | exact a0A rfl)
  (hc:X.calm=true:=by rfl) (hp:PassesOwn (model X.prog X.w) X.A X.env X.xe:=by exact PassesOwn.never) (hf:X.fn x=true\/X.env.scope.names.lookup x=some .local:=by first | exact .inl rfl | exact .inr rfl) (hs:∀ x,foldedSetIterable iter X.env x=pure x:=by intro _; rfl):SS X sf io C (.For (.Name x px) iter r [] pos) (.forS vs ls k src [t] s) :=
 b7 (sD hp hc hi (c7 (i:=j) hN hj hx hf) ha hs) (sJ rfl (by simp) hio hjs)
theorem lI (j l:Nat){t u:Nat}{x y:Str}{px py pt:Pos}{kt:Nat}{iter:Expr}{r:List Stmt}{s:List M.S}{vs ls:List Nat}{k:M.Ik}{src:List M.E}(hN:X.N.Nodup)(hi:PI X (.Tuple [.Name x px,.Name y py] kt pt) iter (wI X.K sf C 2 k src))(ha:SSs X sf io C r s)(hio:∀ v∈[t,u],v ∉ io:=by decide)(nd:[t,u].Nodup:=by decide)(hjs:[t,u].map sf=[j,l].map some:=by rfl)(hj:X.N[j]?=some x:=by rfl)(hl:X.N[l]?=some y:=by rfl)
  (hx:L2.Loc X.env.scope x:=by first | exact a0G rfl | exact a0A rfl) (hy:L2.Loc X.env.scope y:=by first | exact a0G rfl | exact a0A rfl)
  (hc:X.calm=true:=by rfl) (hp:PassesOwn (model X.prog X.w) X.A X.env X.xe:=by exact PassesOwn.never) (hf:X.fn x=true\/X.env.scope.names.lookup x=some .local:=by first | exact .inl rfl | exact .inr rfl) (hf':X.fn y=true\/X.env.scope.names.lookup y=some .local:=by first | exact .inl rfl | exact .inr rfl) (hs:∀ x,foldedSetIterable iter X.env x=pure x:=by intro _; rfl):SS X sf io C (.For (.Tuple [.Name x px,.Name y py] kt pt) iter r [] pos) (.forS vs ls k src [t,u] s) :=
 b7 (sD hp hc hi (ph (n:=2) hc (dP (c7 (i:=j) hN hj hx hf) (dP (c7 (i:=l) hN hl hy hf') mE))) ha hs) (sJ rfl nd hio hjs)
theorem uT (j:Nat){i:Nat}{x:Str}{xx:M.X}{apos cpos px:Pos}(ha:SE X sf C ea a)(hs:sf i=some j:=by rfl)(hN:X.N[j]?=some x:=by rfl)(hv:Vis X.env.scope x:=by first | exact a0G rfl | exact a0A (a0G rfl) | exact a0A (a0A rfl))(hd:(x==("__debug__":Str))=false:=by decide)(hcd:(x==("__classdict__":Str))=false:=by decide)
  (hbase:attributeBase (.Name x px) "append" X.env (eval (.Name x px) X.env)=eval (.Name x px) X.env:=by rfl)
  (hfew:((backTo cpos (starEach [ea] X.env)).all (fun x=>!x.1)&&(backToKw cpos (keywordEach [] X.env)).all (fun x=>x.1.isSome)&&decide ([ea].length+([]:List Keyword).length+(if ([]:List Keyword).isEmpty then 0 else 1) < 30))=true:=by rfl)
  (hline:(apos.endLine==cpos.line)=true:=by rfl) (hst:starEach [ea] X.env=(false,eval ea X.env)::starEach [] X.env:=by rfl) (hplain:(backTo cpos (starEach [] X.env)).any (·.1)=false:=by rfl) (hsw:swapsWith (.Call (.Attribute (.Name x px) "append" apos) [ea] [] cpos) none pos.line X.env=pure false:=by rfl) :
  SS X sf io C (.Expr (.Call (.Attribute (.Name x px) "append" apos) [ea] [] cpos) pos) (.app xx i a) :=
 b7 (iY (rC a1j a2e a2f gx (bq hN hv hd hcd) (aP ha bQ hst) hbase hfew hline hst hplain) hsw) fun D σ H hw=>by
  obtain ⟨p,xs,hj,hp,pv,Z,Fs,η,w,η',A,ev,k⟩:=A6 hs D σ H hw
  refine ⟨.ref p,hj,.inl ⟨rfl,xs,.inl (.inl hp)⟩,pv,Z,Fs,η,w,η',A,ev,fun v Z' H' Fs' G B r s=>?_⟩
  obtain ⟨ys,h1,h2,h3⟩:=k v Z' H' Fs' G B r s
  exact ⟨p,ys,v,rfl,rfl,h1,h2,h3⟩
theorem nq (j:Nat){i:Nat}{x:Str}{xx:M.X}{px ps:Pos}(ha:SE X sf C ea a)(hb:SE X sf C eb b)(hs:sf i=some j:=by rfl)(hN:X.N[j]?=some x:=by rfl)(hv:Vis X.env.scope x:=by first | exact a0G rfl | exact a0A (a0G rfl) | exact a0A (a0A rfl))(hd:(x==("__debug__":Str))=false:=by decide)(hcd:(x==("__classdict__":Str))=false:=by decide)
  (has:∀ v,assign (.Subscript (.Name x px) eb ps) X.env v=(do
   let ov <- holding [v] (eval (.Name x px) X.env)
   let iv <- holding [v,ov] (eval eb X.env)
   standAt ps
   holding [v,ov,iv] (setItem ov iv v)
   release [v,ov,iv] []):=by intro _; rfl)
  (h1:swapsWithSole [.Subscript (.Name x px) eb ps] ea pos.line X.env=pure false:=by rfl) (h2:swappedStores [.Subscript (.Name x px) eb ps] ea X.env=pure none:=by rfl) (h3:(assignEach [.Subscript (.Name x px) eb ps] X.env).map (·.2)=[assign (.Subscript (.Name x px) eb ps) X.env]:=by rfl) :
  SS X sf io C (.Assign [.Subscript (.Name x px) eb ps] ea pos) (.setI xx i b a) :=
 b7 (AV ha (yC (bq hN hv hd hcd) hb sX has) h1 h2 h3) fun D σ H hw=>by
  obtain ⟨pv,Z,Fs,η,w,η',A,ev,k⟩:=uQ hs D σ H hw
  refine ⟨pv,Z,Fs,η,w,η',A,ev,fun v Z' H' Fs' G B r s=>?_⟩
  obtain ⟨o,ho,pv2,Z2,Fs2,η2,w2,η3,A2,ev2,k2⟩:=k v Z' H' Fs' G B r s
  refine ⟨o,ho,pv2,Z2,Fs2,η2,w2,η3,A2,ev2,fun z Z3 H3 Fs3 G3 B3 r3 s3=>?_⟩
  obtain ⟨q,xs,n,m,rfl,rfl,g1,g2,g3⟩:=k2 z Z3 H3 Fs3 G3 B3 r3 s3
  exact ⟨q,xs,n,m,rfl,rfl,g1,g2,g3⟩
end
end MR

namespace MR
open PySem PySem.Spec PyProof.Rows L2 L3
section
variable {K:a0a}{Z:Fp}{H:Hp}
theorem ik:∀ {ws:List M.W} {n i:Nat} {w:M.W},M.rd (ws.map some++a0i n none) i=some w->ws[i]?=some w
 | [],0,i,w,h=>by simp [M.rd] at h
 | [],n+1,0,w,h=>by simp [a0N,M.rd] at h
 | [],n+1,i+1,w,h=>by
  have:M.rd (([]:List M.W).map some++a0i n none) i=some w:=by simpa [a0N,M.rd] using h
  have:=ik this
  simp at this
 | u::ws,n,0,w,h=>by simpa [M.rd] using h
 | u::ws,n,i+1,w,h=>by
  have:M.rd (ws.map some++a0i n none) i=some w:=by simpa [M.rd] using h
  simpa using ik this
theorem sY:∀ {ws:List M.W} {vs:List V} {G:Fp},RepW K Z H ws vs G->∃ Fs:Fps,(∀ i a,Fs i a->G a)/\(∀ i j a,Fs i a->Fs j a->i=j)/\∀ i w,ws[i]?=some w->∃ v,vs[i]?=some v/\Rep K Z H w.1 w.2 v (Fs i)
 | [],vs,G,_=>⟨fun _=>no,fun _ _ h=>h.elim,fun _ _ _ h=>h.elim,fun i w h=>by simp at h⟩
 | w::ws,vs,G,⟨x,r,G1,G2,e,h1,h2,hd,p,q⟩=>by
  obtain ⟨Fs,f1,f2,f3⟩:=sY q
  subst e
  refine ⟨fun i=>match i with | 0=>G1 | i+1=>Fs i,fun i a h=>?_,fun i j a hi hj=>?_,fun i u h=>?_⟩
  ·cases i with
   | zero=>exact h1 a h
   | succ i=>exact h2 a (f1 i a h)
  ·cases i with
   | zero =>
    cases j with
    | zero=>rfl
    | succ j=>exact absurd (f1 j a hj) (hd a hi)
   | succ i =>
    cases j with
    | zero=>exact absurd (f1 i a hi) (hd a hj)
    | succ j=>exact congrArg (·+1) (f2 i j a hi hj)
  ·cases i with
   | zero=>simp only [a1i,a2g] at h; subst h; exact ⟨x,rfl,p⟩
   | succ i=>simpa using f3 i u (by simpa using h)
noncomputable def slN (n:Nat):Nat->Option Nat:=fun i=>if i < n then some i else none
theorem eh {sl:Cf}{σ:L2.St}{Fs:Fps}{η:M.Env}{G:Fp}{vs:List V}(A:At K sl σ Z H Fs η G):∀ {io:List Nat} {bs:List M.W},io.Nodup->(∀ i∈io,sl.pv i=vs[i]?/\i < vs.length)->M.backs io η=some bs->RepW K Z H bs (atV io vs) (fun a=>∃ i∈io,Fs i a)
 | [],bs,_,_,h=>by
  simp only [M.backs,a2g] at h; subst h; rfl
 | i::io,bs,nd,hv,h=>by
  simp only [M.backs] at h
  cases e:M.rd η i with
  | none=>rw [e] at h; cases h
  | some w =>
   rw [e] at h
   simp only [a3e] at h
   cases e2:M.backs io η with
   | none=>rw [e2] at h; cases h
   | some ws =>
    rw [e2] at h
    simp only [a3e,a2g] at h
    subst h
    obtain ⟨v,r,_,hp⟩:=A.env i w.1 w.2 e
    have hi:=hv i a0e
    obtain ⟨u,hu⟩:∃ u,vs[i]?=some u:=⟨vs[i]'hi.2,a0h hi.2⟩
    have:=hp u (hi.1.trans hu)
    subst this
    refine ⟨v,atV io vs,Fs i,fun a=>∃ j∈io,Fs j a,?_,fun a h=>⟨i,a0e,h⟩,fun a ⟨j,hj,h⟩=>⟨j,a0d _ hj,h⟩,fun a h ⟨j,hj,h'⟩=>?_,r,eh A (a0Y.mp nd).2 (fun j hj=>hv j (a0d _ hj)) e2⟩
    ·rw [atV,a0R,hu]; rfl
    ·exact (a0Y.mp nd).1 (A.gd.dis i j a h h' ▸ hj)
end
section
variable {P:Program}{w:World}{K:a0a}{mg:Str->Option Value}{base:Heap}
theorem rO {Z:Fp}{H:Hp}{ws:List M.W}{vs:List V}{G:Fp}{N:List Str}{n:Nat}{io:List Nat}(r:RepW K Z H ws vs G)(o:Own Z H G)(z:∀ a,Z a->H a≠none)(hl:vs.length<=N.length) :
  ∃ Fs,(∀ a,tot Fs a->G a)/\At K ⟨slN N.length,fun i=>if i∈io then vs[i]? else none⟩ (L2.start N vs) Z H Fs (ws.map some++a0i n none) no:=by
 obtain ⟨Fs,f1,f2,f3⟩:=sY r
 have st:∀ i v,vs[i]?=some v->(L2.start N vs)[i]?=some (some v):=fun i v h=>by
  have hi:=(a0v.mp h).1
  rw [L2.start,a0Q (by simpa using hi),a0s,h]; rfl
 refine ⟨Fs,fun a ⟨i,h⟩=>f1 i a h,⟨⟨fun a ⟨i,h⟩=>o a (f1 i a h),f2,z⟩,fun i m t e=>?_,fun a h=>h.elim,fun a h=>h.elim,fun i u j hu hj=>?_,fun i j hj=>?_⟩⟩
 ·obtain ⟨v,hv,rp⟩:=f3 i (m,t) (ik e)
  refine ⟨v,rp,fun j hj=>?_,fun u hu=>?_⟩
  ·simp only [slN] at hj
   split at hj
   ·cases hj; exact st i v hv
   ·cases hj
  ·simp only at hu
   split at hu
   ·rw [hv] at hu; cases hu; rfl
   ·cases hu
 ·simp only at hu
  simp only [slN] at hj
  split at hj
  ·cases hj
   split at hu
   ·exact st i u hu
   ·cases hu
  ·cases hj
 ·simp only [slN] at hj
  split at hj
  ·cases hj
   rename_i h
   rw [L2.start,a0l,a0b,a0H]; omega
  ·cases hj
theorem Fun.okM {x qual:Str}{st:Stmt}{f:Addr}{fd:FuncData}{N ps:List Str}{k:Nat}{C:M.Call}{d:M.Fn}(F:L2.Fun K x qual st f fd)(S:ay N ps (defScope st))(hps:d.ps=ps.length)(hle:ps.length<=N.length)(nd:d.io.Nodup)(hio:∀ i∈d.io,i < ps.length)
  (hbody:∀ (cdv:Value) (A:Around) (outer:List Env) (s:Shared) (H:Hp) (E:XK),Room k (A.deeper (envOfC qual (defScope st) s.heap.objs.size f cdv)) ->
   SSs (il CX0 P w K mg base N qual (defScope st) f cdv A outer s H E).nox (slN N.length) d.io C (defBody st) d.body) {g:Nat} {C':M.Call} (hC:∀ ws,C' g ws=M.runF C d ws):dJ P w K mg base CX0 (k+1) f fd ps (spS K C' g d.io):=by
 have len:∀ vs H Q E,spS K C' g d.io vs H Q E->vs.length=ps.length:=fun vs H Q E ⟨Z,ws,G,w,bs,r,_,_,hr,_⟩=>by
  rw [hC] at hr
  unfold M.runF at hr
  split at hr
  ·rename_i h; rw [r.length,h,hps]
  ·cases hr
 refine F.ok S len fun cdv A outer s H vs Q E hr h=>⟨_,hbody cdv A outer s H E hr,?_⟩
 have hlen:=len vs H Q E h
 obtain ⟨Z,ws,G,w,bs,r,o,z,hc,q⟩:=h
 rw [hC] at hc
 have hwl:ws.length=d.ps:=by rw [<- r.length,hlen,hps]
 rw [M.x_run _ _ _ hwl] at hc
 obtain ⟨Fs,ft,A0⟩:=rO (n:=d.ns) (io:=d.io) r o z (N:=N) (by omega)
 refine ⟨_,Z,Fs,_,⟨fun i i' j h h'=>?_,fun i h=>if_neg h⟩,A0,?_⟩
 ·simp only [slN] at h h'
  split at h
  ·split at h'
   ·cases h; cases h'; rfl
   ·cases h'
  ·cases h
 have hv:∀ i∈d.io,(if i∈d.io then vs[i]? else none)=vs[i]?/\i < vs.length:=fun i hi=>⟨if_pos hi,hlen ▸ hio i hi⟩
 cases e:M.evSs C d.body (ws.map some++a0i d.ns none) with
 | nx η =>
  rw [e] at hc
  intro σ' Z' H' Fs' A' t
  simp only [M.Fl.out] at hc
  cases e2:M.backs d.io η with
  | none=>rw [e2] at hc; cases hc
  | some cs =>
   rw [e2] at hc
   cases hc
   refine q .non Z' H' no _ rfl (eh A' nd hv e2) (fun _ h=>h.elim) (fun a h=>h.elim (fun z=>z.elim) fun ⟨i,_,z⟩=>A'.gd.own a ⟨i,z⟩) (t.mono ft fun a h=>h.elim (fun z=>z.elim) fun ⟨i,_,z⟩=>⟨i,z⟩)
 | rt u η =>
  rw [e] at hc
  intro v σ' Z' H' Fs' G' A' rp t
  simp only [M.Fl.out] at hc
  cases e2:M.backs d.io η with
  | none=>rw [e2] at hc; cases hc
  | some cs =>
   rw [e2] at hc
   cases hc
   exact q v Z' H' G' _ rp (eh A' nd hv e2) (fun a h ⟨i,_,z⟩=>A'.dis a h ⟨i,z⟩) (fun a h=>h.elim (A'.own a) fun ⟨i,_,z⟩=>A'.gd.own a ⟨i,z⟩) (t.mono ft fun a h=>h.elim .inr fun ⟨i,_,z⟩=>.inl ⟨i,z⟩)
 | bk η=>rw [e] at hc; cases hc
 | ex c x η=>rw [e] at hc; cases hc
 | no=>rw [e] at hc; cases hc
end
end MR

namespace MR
open PySem PySem.Spec PyProof.Rows L2 L3
noncomputable def TopV (K:a0a)(H:Hp):Th->V->Prop
 | .tup _,x=>∃ a vs,x=.ref a/\SqT K H a vs
 | .lst _,x=>∃ a vs,x=.ref a/\SqL K H a vs
 | .non,x=>x=.non
 | .bl b,x=>x=.bl b
 | .int i,x=>x=.int i
 | .str z,x=>x=.str z
theorem rK {X:Cx}{c:String}(hc:c∈["tuple","str","bool","int","list"]):bI X (.builtin "isinstance") (fun xs H Q=>∃ x t,xs=[x,.ty c]/\TopV X.K H t x/\Q (.bl (isI c t)) H):=by
 intro pins s σ H xs us Q I r h
 obtain ⟨x,t,rfl,ht,q⟩:=h
 obtain ⟨u,w',rfl,ru,rw'⟩:=mr r
 cases rw'
 have e:a08 X.K (.type t.ty) (.type c)=some (isI c t):=kit_type.trans (lb hc t)
 have fin:∀ tk,EP X pins σ Q (.bool (isI c t)) { s with toks:=tk }:=fun tk=>⟨.bl (isI c t),H,I.tok tk,rfl,q⟩
 cases t with
 | non =>
  obtain rfl:x=.non:=ht
  exact de I ru .non e fin
 | bl b =>
  obtain rfl:x=.bl b:=ht
  exact de I ru (.bl b) e fin
 | int i =>
  obtain rfl:x=.int i:=ht
  exact de I ru (.int i) e fin
 | str z =>
  obtain rfl:x=.str z:=ht
  exact de I ru (.str z) e fin
 | tup ts =>
  obtain ⟨a,vs,rfl,hS⟩:=ht
  cases ru
  obtain ⟨its,_,p,_⟩:=I.tuple hS
  obtain ⟨o,h1,h2,_⟩:=p
  exact a0P a10 I.kIn ⟨o,h1,h2⟩ e (fun z=>nomatch z) fin
 | lst ts =>
  obtain ⟨a,vs,rfl,hS⟩:=ht
  cases ru
  obtain ⟨its,_,p,_⟩:=I.list hS
  obtain ⟨o,n,h1,h2,_⟩:=p
  exact a0P a1G I.kIn ⟨o,h1,h2⟩ e (fun z=>nomatch z) fin
theorem ub {X:Cx}{c1 c2:String}(h1:c1∈["tuple","str","bool","int","list"])(h2:c2∈["tuple","str","bool","int","list"]) :
  bI X (.builtin "isinstance") (fun xs H Q=>∃ x t p,xs=[x,.ref p]/\SqT X.K H p [.ty c1,.ty c2]/\TopV X.K H t x/\Q (.bl (isI c1 t || isI c2 t)) H):=by
 intro pins s σ H xs us Q I r h
 obtain ⟨x,t,p,rfl,hp,ht,q⟩:=h
 obtain ⟨u,w',rfl,ru,rw'⟩:=mr r
 cases rw'
 obtain ⟨its,rv,pt,_⟩:=I.tuple hp
 obtain ⟨y1,y2,rfl,r1,r2⟩:=mr rv
 cases r1
 cases r2
 obtain ⟨⟨oc,od,odt,osl⟩,g1,g2,n,g3⟩:=pt
 have g2':oc=.type "tuple":=g2
 have g3':odt=.seq _ n:=g3
 subst g2' g3'
 have e1:a08 X.K (.type t.ty) (.type c1)=some (isI c1 t):=kit_type.trans (lb h1 t)
 have e2:a08 X.K (.type t.ty) (.type c2)=some (isI c2 t):=kit_type.trans (lb h2 t)
 have e:a2G X.K (.type t.ty) [.type c1,.type c2]=some (isI c1 t || isI c2 t):=by
  unfold a2G
  rw [e1]
  cases isI c1 t with
  | true=>rfl
  | false =>
   unfold a2G
   rw [e2]
   cases isI c2 t<;>rfl
 have fin:∀ tk,EP X pins σ Q (.bool (isI c1 t || isI c2 t)) { s with toks:=tk }:=fun tk=>⟨.bl _,H,I.tok tk,rfl,q⟩
 cases t with
 | non =>
  obtain rfl:x=.non:=ht
  cases ru
  exact a1m a2V I.kIn a1a g1 e (fun z=>nomatch z) fin
 | bl b =>
  obtain rfl:x=.bl b:=ht
  cases ru
  exact a1m a2W I.kIn a1a g1 e (fun z=>nomatch z) fin
 | int i =>
  obtain rfl:x=.int i:=ht
  obtain ⟨t,rfl⟩:=ru
  exact a1m a28 I.kIn a1a g1 e (fun z=>nomatch z) fin
 | str z =>
  obtain rfl:x=.str z:=ht
  obtain ⟨t,rfl⟩:=ru
  exact a1m a29 I.kIn a1a g1 e (fun z=>nomatch z) fin
 | tup ts =>
  obtain ⟨a,vs,rfl,hS⟩:=ht
  cases ru
  obtain ⟨its,_,⟨o,q1,q2,_⟩,_⟩:=I.tuple hS
  exact a1m a10 I.kIn ⟨o,q1,q2⟩ g1 e (fun z=>nomatch z) fin
 | lst ts =>
  obtain ⟨a,vs,rfl,hS⟩:=ht
  cases ru
  obtain ⟨its,_,⟨o,n,q1,q2,_⟩,_⟩:=I.list hS
  exact a1m a1G I.kIn ⟨o,q1,q2⟩ g1 e (fun z=>nomatch z) fin
noncomputable def thT:M.T->Th
 | .non=>.non | .bl b=>.bl b | .int i=>.int i | .str x=>.str x | .tup _=>.tup [] | .lst _=>.lst [] | .scr _=>.lst [] | .dct _ _=>.non | .ins _ _ _=>.non | .gone=>.non
theorem l9 {K:a0a}{Z:Fp}{H:Hp}{t:M.T}{m:M.Md}{x:V}{G:Fp}(hg:t.isG=false)(r:Rep K Z H m t x G):TopV K H (thT t) x/\(thT t).ty=t.ty:=by
 cases t with
 | non=>exact ⟨r,rfl⟩
 | bl _=>exact ⟨r,rfl⟩
 | int _=>exact ⟨r,rfl⟩
 | str _=>exact ⟨r.1,rfl⟩
 | tup _=>obtain ⟨p,xs,e,q,_⟩:=r; exact ⟨⟨p,xs,e,q⟩,rfl⟩
 | lst _=>obtain ⟨p,xs,e,_,q,_⟩:=r; exact ⟨⟨p,xs,e,.inl (.inl (by cases m<;>exact q.2))⟩,rfl⟩
 | scr _=>obtain ⟨p,e,_,q⟩:=r; exact ⟨⟨p,_,e,q.sq⟩,rfl⟩
 | dct _ _=>cases hg
 | ins _ _ _=>exact r.elim
 | gone=>cases hg
theorem i5 {t:Th}{u:M.T}{c:String}(h:t.ty=u.ty):isI c t=M.isOne c u:=by unfold isI M.isOne; rw [h]
section
variable {X:Cx}{sf sg:Nat->Option Nat}{C:M.Call}{pos p2 p3:Pos}{ea eb ec:Expr}{a b c:M.E}{h:Bool}{n:Nat}{io:List Nat}
theorem mB {Z:Fp}{H H1:Hp}{G:Fp}(same:∀ a o,H a=some o->H1 a=some o):Step Z H G Z H1 G:=by
 have al:∀ a,H a≠none->H1 a≠none:=fun a h=>by
  cases e:H a with
  | none=>exact absurd e h
  | some o=>rw [same a o e]; simp
 exact ⟨fun a o h _=>same a o h,fun _ h=>h,fun _ h=>.inl h,fun _ h=>.inl h,al,fun z a h=>al a (z a h)⟩
theorem jf {K:a0a}{Z:Fp}{H H1:Hp}{G:Fp}{w:M.W}{Q:VK}(same:∀ a o,H a=some o->H1 a=some o)(k:Out K Z H G w Q):Out K Z H1 G w Q:=fun v Z' H' G' r o t=>k v Z' H' G' r o ((mB same).trans t)
theorem dZ {H:Hp}{p:Addr}{o:HO}(hp:H p=none):∀ a u,H a=some u->upd H p o a=some u:=fun a u e=>by
 have:a≠p:=fun q=>by subst q; rw [hp] at e; cases e
 rw [ab this]; exact e
theorem TopV.same {K:a0a}{H H1:Hp}{t:Th}{x:V}(sm:∀ a o,H a=some o->H1 a=some o)(h:TopV K H t x):TopV K H1 t x:=by
 cases t with
 | tup _ =>
  obtain ⟨a,vs,e,q⟩:=h
  refine ⟨a,vs,e,?_⟩
  rcases q with (z | ⟨o,z⟩) | z
  ·exact .inl (.inl (sm _ _ z))
  ·exact .inl (.inr ⟨o,sm _ _ z⟩)
  ·exact .inr z
 | lst _ =>
  obtain ⟨a,vs,e,q⟩:=h
  refine ⟨a,vs,e,?_⟩
  rcases q with (z | ⟨o,z⟩) | z
  ·exact .inl (.inl (sm _ _ z))
  ·exact .inl (.inr ⟨o,sm _ _ z⟩)
  ·exact .inr z
 | _=>exact h
theorem cI {c:String}{k:Str}(hc:c∈["tuple","str","bool","int","list"])(hv:bootBuiltins k=some (.type c))(hm:X.mg "isinstance"=none)(hm2:X.mg k=none)(ha:SE X sf C ea a)(hg:Gl X "isinstance":=by rfl)(hg2:Gl X k:=by rfl)(hn:k≠"__name__":=by decide)(hd:(k==("__debug__":Str))=false:=by decide)
  (hs:starEach [ea,.Name k p2] X.env=(false,eval ea X.env)::starEach [.Name k p2] X.env:=by rfl) (hs2:starEach [.Name k p2] X.env=(false,eval (.Name k p2) X.env)::starEach [] X.env:=by rfl) (hpl:(backTo pos (starEach [.Name k p2] X.env)).any (·.1)=false:=by rfl) :
  SE X sf C (.Call (.Name "isinstance" p3) [ea,.Name k p2] [] pos) (.op (.isI [c]) h [a]) :=
 aj (ba (rK hc) hg hm a1S (aP ha (aP (qU hg2 hm2 hv hn hd) bQ hs2) hs) (by decide) (by decide) hs hpl) fun σ H Q hw=>by
  obtain ⟨pv,Z,Fs,η,w,η',A,ev,k⟩:=hw
  obtain ⟨ws,h1,h2⟩:=cD ev
  obtain ⟨⟨m,u⟩,η1,us,e1,e2,rfl⟩:=ax h1
  cases e2
  obtain ⟨hug,h2⟩:=ifN (show (if u.isG=true then none else some _)=_ from h2)
  cases h2
  refine ⟨pv,Z,Fs,η,(m,u),η',A,e1,fun x Z' H' Fs' G B r s=>?_⟩
  obtain ⟨t1,t2⟩:=l9 hug r
  refine ⟨x,thT u,rfl,t1,?_⟩
  have:=bY (bP B s k)
  rw [i5 t2]
  rw [show ([c].any fun c=>M.isOne c u)=M.isOne c u by simp] at this
  exact this
theorem Eu {c1 c2:String}{k1 k2:Str}{p4 pt:Pos}{kt:Nat}(hc1:c1∈["tuple","str","bool","int","list"])(hv1:bootBuiltins k1=some (.type c1))(hc2:c2∈["tuple","str","bool","int","list"])(hv2:bootBuiltins k2=some (.type c2))(hm:X.mg "isinstance"=none)(hm1:X.mg k1=none)(hm2:X.mg k2=none)(ha:SE X sf C ea a)
  (hg:Gl X "isinstance":=by rfl) (hg1:Gl X k1:=by rfl) (hg2:Gl X k2:=by rfl) (hn1:k1≠"__name__":=by decide) (hd1:(k1==("__debug__":Str))=false:=by decide) (hn2:k2≠"__name__":=by decide) (hd2:(k2==("__debug__":Str))=false:=by decide)
  (hs:starEach [ea,.Tuple [.Name k1 p2,.Name k2 p4] kt pt] X.env=(false,eval ea X.env)::starEach [.Tuple [.Name k1 p2,.Name k2 p4] kt pt] X.env:=by rfl) (hs2:starEach [.Tuple [.Name k1 p2,.Name k2 p4] kt pt] X.env=(false,eval (.Tuple [.Name k1 p2,.Name k2 p4] kt pt) X.env)::starEach [] X.env:=by rfl)
  (hs3:starEach [.Name k1 p2,.Name k2 p4] X.env=(false,eval (.Name k1 p2) X.env)::starEach [.Name k2 p4] X.env:=by rfl) (hs4:starEach [.Name k2 p4] X.env=(false,eval (.Name k2 p4) X.env)::starEach [] X.env:=by rfl) (hpl:(backTo pos (starEach [.Tuple [.Name k1 p2,.Name k2 p4] kt pt] X.env)).any (·.1)=false:=by rfl) :
  SE X sf C (.Call (.Name "isinstance" p3) [ea,.Tuple [.Name k1 p2,.Name k2 p4] kt pt] [] pos) (.op (.isI [c1,c2]) h [a]) :=
 aj (ba (ub hc1 hc2) hg hm a1S (aP ha (aP (pN (aP (qU hg1 hm1 hv1 hn1 hd1) (aP (qU hg2 hm2 hv2 hn2 hd2) bQ hs4) hs3)) bQ hs2) hs) (by decide) (by decide) hs hpl) fun σ H Q hw=>by
  obtain ⟨pv,Z,Fs,η,w,η',A,ev,k⟩:=hw
  obtain ⟨ws,h1,h2⟩:=cD ev
  obtain ⟨⟨m,u⟩,η1,us,e1,e2,rfl⟩:=ax h1
  cases e2
  obtain ⟨hug,h2⟩:=ifN (show (if u.isG=true then none else some _)=_ from h2)
  cases h2
  refine ⟨pv,Z,Fs,η,(m,u),η',A,e1,fun x Z' H' Fs' G B r s=>?_⟩
  refine ⟨(by show 2<=sizeLine; decide),fun p hp=>?_⟩
  have st:=mB (Z:=Z') (G:=fun a=>tot Fs' a\/G a) (dZ (o:=.tup [.ty c1,.ty c2]) hp)
  obtain ⟨t0,t2⟩:=l9 hug r
  have t1:=t0.same (dZ (o:=.tup [.ty c1,.ty c2]) hp)
  refine ⟨x,thT u,p,rfl,.inl (.inl ai),t1,?_⟩
  have:=bY (jf (dZ (o:=.tup [.ty c1,.ty c2]) hp) (bP B s k))
  rw [i5 t2,i5 t2]
  rw [show ([c1,c2].any fun c=>M.isOne c u)=(M.isOne c1 u || M.isOne c2 u) by simp] at this
  exact this
theorem lK {es:List Expr}{kt:Nat}{pt p:Pos}(hm:X.mg "enumerate"=none)(hg:Gl X "enumerate":=by rfl)(ha:SE X sf C ea a)(hs:starEach [ea] X.env=[(false,eval ea X.env)]:=by rfl):PI X (.Tuple es kt pt) (.Call (.Name "enumerate" p) [ea] [] pos) (wI X.K sf C 2 .enm [a]):=jN (tU hg hm (slc ha sl0 hs) hs) yL
end
end MR

namespace MR
open PySem PySem.Spec PyProof.Rows L2 L3
structure Txt (mg:Str->Option Value):Prop where
 isin:mg "isinstance"=none
 int:mg "int"=none
 tup:mg "tuple"=none
 list:mg "list"=none
 bool:mg "bool"=none
 sum:mg "sum"=none
 len:mg "len"=none
 all:mg "all"=none
 zip:mg "zip"=none
 range:mg "range"=none
 enum:mg "enumerate"=none
 any:mg "any"=none
 max:mg "max"=none
 min:mg "min"=none
 sorted:mg "sorted"=none
 str:mg "str"=none
 repr:mg "repr"=none
 abs:mg "abs"=none
 dict:mg "dict"=none
 set:mg "set"=none
 rev:mg "reversed"=none
theorem frc {X:Cx}{scope:Scope}{cl:List (Str×Addr)}{y:Str}{ys:List Str}{i:Nat}{is:List Nat}{c:Addr}(r:Frees X scope cl ys is)(h1:X.N[i]?=some y:=by rfl)(h2:Vis X.env.scope y:=by first | exact a0G rfl | exact a0A (a0G rfl) | exact a0A (a0A rfl))(h3:X.env.kindOf y=some .cell\/X.env.kindOf y=some .free:=by first | exact a0G rfl | exact a0A rfl)
  (h4:X.env.cells.lookup y=some c:=by rfl) (h5:cl.lookup y=some c:=by rfl) (h6:(relabel scope X.env).names.lookup y=some .cell\/(relabel scope X.env).names.lookup y=some .free:=by first | exact a0G rfl | exact a0A rfl):Frees X scope cl (y::ys) (i::is):=.cons h1 h2 h3 h4 h5 h6 r
theorem ll {X:Cx}{y:Str}{c:Addr}{cl:List (Str×Addr)}(r:Clo X cl)(h:X.env.cells.lookup y=some c:=by rfl):Clo X ((y,c)::cl):=.cons h r
section
variable {X:Cx}{sf sg:Nat->Option Nat}{C:M.Call}{pos p2 p3:Pos}{ea eb ec:Expr}{a b c:M.E}{h:Bool}{n:Nat}{io:List Nat}
section
variable {elt iter cnd:Expr}{x y:Str}{px py pt:Pos}{kt:Nat}{scope:Scope}{tg:List Nat}{k:M.Ik}{src:List M.E}{e cd:M.E}
theorem zC1 (j:Nat)(ls:List Nat)(is:List Nat)(cl:List (Str×Addr))(ys:List Str){z:Str}{pz spos:Pos}{xx:M.X}{i t:Nat}(hi:PI X (.Name x px) iter (wI X.K sf C 1 k src))(he:∀ Ca s H fp,SE (ah X ([x]++ys) scope cl Ca s H fp) (inF [t] ls) C elt e)
  (S:av [x] ys scope) (hcl:Clo X cl) (fr:Frees X scope cl ys is) (hN:X.N.Nodup) (hni:i ∉ io:=by decide) (hsj:sf i=some j:=by rfl) (hj:X.N[j]?=some z:=by rfl) (hz:L2.Loc X.env.scope z:=by first | exact a0G rfl | exact a0A rfl)
  (hsw:swapsWith (.ListComp elt [⟨(.Name x px),iter,[],0⟩] scope pos) (some (.Name z pz)) spos.line X.env=pure true:=by rfl) (hc:X.calm=true:=by rfl) (hl:ls.map sf=is.map some:=by rfl)
  (hclos:closureFor scope X.env=pure cl:=by with_unfolding_all rfl) (hfr:(scope.names.all fun p=>p.2 != .free || (cl.lookup p.1).isSome)=true:=by rfl)
  (hs:∀ v,foldedSetIterable iter X.env v=pure v:=by intro _; rfl) (hfn:X.fn z=true\/X.env.scope.names.lookup z=some .local:=by first | exact .inl rfl | exact .inr rfl):SS X sf io C (.Assign [.Name z pz] (.ListComp elt [⟨(.Name x px),iter,[],0⟩] scope pos) spos) (.asg xx i (.comp h k src [t] none e)) :=
 b7 (nJ (pre:=[x]) hN hj hz hsw hc hi (vm S) (fun Ca s H fp=>he Ca s H fp) hclos S hcl hfr fr hs hfn) fun D σ H hw=>fI rfl (by simp) (cj hl) σ H _ (kZ hni hsj D σ H hw)
theorem F5 (j:Nat)(ls:List Nat)(is:List Nat)(cl:List (Str×Addr))(ys:List Str){z:Str}{pz spos:Pos}{xx:M.X}{i t t':Nat}(hi:PI X (.Tuple [.Name x px,.Name y py] kt pt) iter (wI X.K sf C 2 k src))(hcd:∀ Ca s H fp,SB (ah X ([x,y]++ys) scope cl Ca s H fp) (inF [t,t'] ls) C cnd cd)(he:∀ Ca s H fp,SE (ah X ([x,y]++ys) scope cl Ca s H fp) (inF [t,t'] ls) C elt e)
  (S:av [x,y] ys scope) (hcl:Clo X cl) (fr:Frees X scope cl ys is) (hN:X.N.Nodup) (hni:i ∉ io:=by decide) (hsj:sf i=some j:=by rfl) (hj:X.N[j]?=some z:=by rfl) (hz:L2.Loc X.env.scope z:=by first | exact a0G rfl | exact a0A rfl)
  (hsw:swapsWith (.ListComp elt [⟨(.Tuple [.Name x px,.Name y py] kt pt),iter,[cnd],0⟩] scope pos) (some (.Name z pz)) spos.line X.env=pure true:=by rfl) (hc:X.calm=true:=by rfl) (hl:ls.map sf=is.map some:=by rfl) (nd:[t,t'].Nodup:=by decide)
  (hclos:closureFor scope X.env=pure cl:=by with_unfolding_all rfl) (hfr:(scope.names.all fun p=>p.2 != .free || (cl.lookup p.1).isSome)=true:=by rfl)
  (hs:∀ v,foldedSetIterable iter X.env v=pure v:=by intro _; rfl) (hfn:X.fn z=true\/X.env.scope.names.lookup z=some .local:=by first | exact .inl rfl | exact .inr rfl):SS X sf io C (.Assign [.Name z pz] (.ListComp elt [⟨(.Tuple [.Name x px,.Name y py] kt pt),iter,[cnd],0⟩] scope pos) spos) (.asg xx i (.comp h k src [t,t'] (some cd) e)) :=
 b7 (mR (pre:=[x,y]) hN hj hz hsw hc hi (Bz hc S) (fun Ca s H fp=>he Ca s H fp) (fun Ca s H fp=>hcd Ca s H fp) hclos S hcl hfr fr hs hfn) fun D σ H hw=>kb rfl nd (cj hl) σ H _ (kZ hni hsj D σ H hw)
end
end
end MR

namespace MR
open PySem PySem.Spec PyProof.Rows L2 L3
section
variable {P:Program}{w:World}{K:a0a}{mg:Str->Option Value}{base:Heap}
theorem pX {us:List Value}{d:Value}(h:(us++[d]).length=3):∃ a b,us=[a,b]:=by
 match us,h with
 | [a,b],_=>exact ⟨a,b,rfl⟩
 | [],h=>cases h
 | [_],h=>cases h
 | _::_::_::_,h=>simp at h
theorem jL {C:M.Call}{g:Nat}{io:List Nat}{vs:List V}{H:Hp}{Q:VK}{E:XK}(hC:∀ ws,C g ws=.no)(h:spS K C g io vs H Q E):False:=by
 obtain ⟨Z,ws,G,w,bs,_,_,_,e,_⟩:=h
 rw [hC] at e
 cases e
theorem fn0 {f:Addr}{fd:FuncData}{ps:List Str}{k g:Nat}{io:List Nat}{C:M.Call}(hC:∀ ws,C g ws=.no):dJ P w K mg base CX0 k f fd ps (spS K C g io) :=
 ⟨fun _ _ _ _ h=>(jL hC h).elim,fun _ _ _ _ _ _ _ _ _ _ _ _ _ h=>(jL hC h).elim⟩
theorem kJ {Z:Fp}{H:Hp}{a:Addr}{ns:List Int}(hO:pU H)(hl:ns.length<=63)(h:SqL K H a (ns.map V.int)):Rep K Z H .d (.scr ns) (.ref a) no:=by
 refine ⟨a,rfl,a0y hl (by decide),?_⟩
 rcases h with (z | ⟨o,z⟩) | z
 ·rcases hO a with y | ⟨o,xs,y⟩<;>rw [y] at z<;>cases z
 ·exact .inl ⟨o,z⟩
 ·exact .inr (.inr z)
theorem zk {H:Hp}{a:Addr}{ns:List Int}{C:M.Call}{ix:Nat}(hp:∃ m bs,C ix [(.d,.scr ns)]=.ok ((m,.bl true),bs))(hl:ns.length<=63)(hO:pU H)(h:SqL K H a (ns.map V.int)):spS K C ix [] [.ref a] H (fun v _=>v=.bl true) fun _ _ _=>False:=by
 obtain ⟨m,bs,e⟩:=hp
 exact ⟨no,[(.d,.scr ns)],no,(m,.bl true),bs,RepW.one (kJ hO hl h),bS,fun _ z=>z.elim,e,fun v Z' H' G1 G2 r _ _ _ _=>r⟩
end
end MR

namespace MR
open PySem PySem.Spec PyProof.Rows L2 L3
structure SBs (as:List Addr)(H H':Hp):Prop where
 keep:∀ b u,b ∉ as->H b=some u->H' b=some u
 al:∀ b,H b≠none->H' b≠none
instance {as:List Addr} {H H':Hp}:CoeFun (SBs as H H') (fun _=>∀ b u,b ∉ as->H b=some u->H' b=some u):=⟨fun s=>s.keep⟩
end MR

namespace MR
open PySem PySem.Spec PyProof.Rows L2 L3
section
variable {X:Cx}{sf sg:Nat->Option Nat}{io:List Nat}{C:M.Call}{pos p2:Pos}{ea eb ec:Expr}{a b c:M.E}{h:Bool}{n:Nat}
theorem vL {rest:List Expr}{ta tb:TE}(ha:PE X ea ta)(hb:PE X (.BoolOp .And (eb::rest) pos) tb):PE X (.BoolOp .And (ea::eb::rest) pos) (fun σ H Q=>ta σ H fun x H1=>∃ k,qc X.K x H1 k/\if k=true then tb σ H1 Q else Q x H1):=by
 intro pins s σ H Q I h
 refine BoolOp_and (thn (ha pins s σ H _ I h) fun v s1 ⟨x,H1,I1,r1,q1⟩=>?_)
 refine thn (k6 pins s1 σ H1 x v (fun k H2=>if k=true then tb σ H2 Q else Q x H2) I1 r1 q1) fun k s2 ⟨H2,I2,q2⟩=>?_
 cases k with
 | true=>exact hb pins s2 σ H2 Q I2 (by rw [if_pos rfl] at q2; exact q2)
 | false=>exact ⟨x,H2,I2,r1,by rw [if_neg a0f] at q2; exact q2⟩
theorem vA1 (ha:SE X sf C ea a):SE X sf C (.BoolOp .And [ea] pos) a:=A8 ha
theorem Cs {rest:List Expr}(ha:SE X sf C ea a)(hb:SE X sf C (.BoolOp .And (eb::rest) pos) b):SE X sf C (.BoolOp .And (ea::eb::rest) pos) (.and a b):=aj (vL ha hb) fun σ H Q h=>by
 obtain ⟨pv,Z,Fs,η,w,η',A,ev,k⟩:=zY σ H Q h
 exact ⟨pv,Z,Fs,η,w,η',A,ev,fun v Z' H' Fs' G B r s=>let ⟨c,t,q⟩:=k v Z' H' Fs' G B r s; ⟨c,g0 t,q⟩⟩
theorem sBW (h:SE X sf C ea a):SE X sf C ea a:=h
theorem nL {K:a0a}:Loc K 1 .tuple h fun xs H Q=>∃ p ys,xs=[.ref p]/\((SqL K H p ys/\∀ l,H l=none->Q (.ref l) (upd H l (.tup ys)))\/(SqT K H p ys/\Q (.ref p) H)):=by
 intro ws w xs Z H G Q hn e r ow za k
 obtain ⟨⟨m,a⟩,rfl⟩:∃ a,ws=[a]:=by match ws,hn with | [a],_=>exact ⟨a,rfl⟩
 obtain ⟨x,rfl,r1⟩:=bh rfl r
 cases a with
 | lst ts =>
  obtain ⟨p,ys,rfl,hs,hl,q⟩:=a8 r1
  cases e
  exact ⟨p,ys,rfl,.inl ⟨SqL.of hs,fun l hl'=>lT (m:=m.kid.up) (G':=G) ow (fun _ z=>z) hl (by rw [eC]; exact q.zmono fun _ z=>.inl z) k hl'⟩⟩
 | tup ts =>
  obtain ⟨p,ys,rfl,hs,hl,q⟩:=cy r1
  cases e
  exact ⟨p,ys,rfl,.inr ⟨hs,dX ow k r1⟩⟩
 | _=>cases e
theorem AZ {p:Pos}(hm:X.mg "tuple"=none)(hg:Gl X "tuple":=by rfl)(ha:SE X sf C ea a)(hs:starEach [ea] X.env=(false,eval ea X.env)::starEach [] X.env:=by rfl)(hpl:(backTo pos (starEach [] X.env)).any (·.1)=false:=by rfl):SE X sf C (.Call (.Name "tuple" p) [ea] [] pos) (.op .tuple h [a]) :=
 aj (cp gp hg hm a00 (slc ha sl0 hs) (by decide) (by decide) hs hpl) (cQ nL rfl)
end
end MR

namespace MR
open PySem PySem.Spec PyProof.Rows L2 L3
end MR

namespace MR
open PySem PySem.Spec PyProof.Rows L2 L3
section
variable {X:Cx}{sf sg:Nat->Option Nat}{io:List Nat}{C:M.Call}{pos p2:Pos}{ea eb ec:Expr}{a b c:M.E}{h:Bool}{n:Nat}
theorem gP {K:a0a}{o p:M.Op}{g g':Int->Int->Bool}(inv:∀ {u v w:M.W},M.oSem o false [u,v]=some w->∃ m n i j,u=(m,.int i)/\v=(n,.int j)/\w=(.d,.bl (g i j)))(inv':∀ {u v w:M.W},M.oSem p false [u,v]=some w->∃ m n i j,u=(m,.int i)/\v=(n,.int j)/\w=(.d,.bl (g' i j)))
  (σ:L2.St) (H:Hp) (Q:VK) (hw:wE K sf C (.chain o p a b c) σ H Q):kB (rI0 fun i j=>.bl (g i j)) (rI0 fun i j=>.bl (g' i j)) (wE K sf C a) (wE K sf C b) (wE K sf C c) σ H Q:=by
 obtain ⟨pv,Z,Fs,η,w,η',A,ev,k⟩:=hw
 obtain ⟨⟨x,η1⟩,h1,h2⟩:=aa (show (M.evE C a η).bind (M.kC1 o p (M.evE C b) (M.evE C c))=_ from ev)
 obtain ⟨⟨y,η2⟩,h3,h4⟩:=aa (show (M.evE C b η1).bind (M.kC2 o p (M.evE C c) x)=_ from h2)
 obtain ⟨⟨kk,η3⟩,h5,h6⟩:=aa (show (M.ret η2 (M.oSem o false [x,y])).bind (fun k=>M.onB k.1.2 (M.then' (M.evE C c) (M.kC3 p y)) (M.okW (.d,.bl false)) k.2)=_ from h4)
 obtain ⟨k',e5,e5'⟩:=aq h5
 cases e5'
 obtain ⟨m1,m2,i,j,rfl,rfl,rfl⟩:=inv e5
 have dr:∀ {Z:Fp} {H:Hp} {F Z1:Fp} {H1:Hp} {Fs1:Fps} {G1:Fp},Step Z H F Z1 H1 (fun a=>tot Fs1 a\/G1 a)->Step Z H F Z1 H1 (tot Fs1):=fun s=>s.mono (fun _ z=>z) fun _ z=>.inl z
 refine gj A h1 fun vx Z1 H1 Fs1 G1 A1 r1 _ s1 _=>?_
 have A1':=A1.bare
 refine gj A1' h3 fun vy Z2 H2 Fs2 G2 A2 r2 _ s2 _=>⟨i,j,r1,r2,g i j,rfl,?_⟩
 have A2':=A2.bare
 have s12:=(dr s1).trans (dr s2)
 have h6':M.onB (.bl (g i j)) (M.then' (M.evE C c) (M.kC3 p (m2,.int j))) (M.okW (.d,.bl false)) η2=.ok (w,η'):=h6
 cases hg:g i j with
 | true =>
  rw [hg] at h6'
  rw [if_pos rfl]
  obtain ⟨⟨z,η4⟩,h7,h8⟩:=aa (show (M.evE C c η2).bind (M.kC3 p (m2,.int j))=_ from h6')
  obtain ⟨z',e8,e8'⟩:=aq (show M.ret η4 (M.oSem p false [(m2,.int j),z])=_ from h8)
  cases e8'
  obtain ⟨n1,n2,i',j',e9,rfl,rfl⟩:=inv' e8
  cases e9
  refine gj A2' h7 fun vz Z3 H3 Fs3 G3 A3 r3 _ s3 _=>⟨j,j',r2,r3,?_⟩
  exact k _ Z3 H3 Fs3 no A3.bare rfl ((s12.trans (dr s3)).mono (fun _ z=>z) fun _ z=>z.elim id fun q=>q.elim)
 | false =>
  rw [hg] at h6'
  rw [if_neg a0f]
  cases h6'
  exact k _ Z2 H2 Fs2 no A2' rfl (s12.mono (fun _ z=>z) fun _ z=>z.elim id fun q=>q.elim)
theorem oC {o p:M.Op}{g g':Int->Int->Bool}(inv:∀ {u v w:M.W},M.oSem o false [u,v]=some w->∃ m n i j,u=(m,.int i)/\v=(n,.int j)/\w=(.d,.bl (g i j)))(inv':∀ {u v w:M.W},M.oSem p false [u,v]=some w->∃ m n i j,u=(m,.int i)/\v=(n,.int j)/\w=(.d,.bl (g' i j))) :
  ∀ η w η',M.evE C (.chain o p a b c) η=.ok (w,η')->∃ b,w.2=.bl b:=fun η w η' ev=>by
 obtain ⟨⟨x,η1⟩,h1,h2⟩:=aa (show (M.evE C a η).bind (M.kC1 o p (M.evE C b) (M.evE C c))=_ from ev)
 obtain ⟨⟨y,η2⟩,h3,h4⟩:=aa (show (M.evE C b η1).bind (M.kC2 o p (M.evE C c) x)=_ from h2)
 obtain ⟨⟨kk,η3⟩,h5,h6⟩:=aa (show (M.ret η2 (M.oSem o false [x,y])).bind (fun k=>M.onB k.1.2 (M.then' (M.evE C c) (M.kC3 p y)) (M.okW (.d,.bl false)) k.2)=_ from h4)
 obtain ⟨k',e5,e5'⟩:=aq h5
 cases e5'
 obtain ⟨m1,m2,i,j,rfl,rfl,rfl⟩:=inv e5
 have h6':M.onB (.bl (g i j)) (M.then' (M.evE C c) (M.kC3 p (m2,.int j))) (M.okW (.d,.bl false)) η2=.ok (w,η'):=h6
 cases hg:g i j with
 | true =>
  rw [hg] at h6'
  obtain ⟨⟨z,η4⟩,h7,h8⟩:=aa (show (M.evE C c η2).bind (M.kC3 p (m2,.int j))=_ from h6')
  obtain ⟨z',e8,e8'⟩:=aq (show M.ret η4 (M.oSem p false [(m2,.int j),z])=_ from h8)
  cases e8'
  obtain ⟨n1,n2,i',j',e9,rfl,rfl⟩:=inv' e8
  exact ⟨_,rfl⟩
 | false =>
  rw [hg] at h6'
  cases h6'
  exact ⟨_,rfl⟩
theorem uW (ha:SE X sf C ea a)(hb:SE X sf C eb b)(hc:SE X sf C ec c)(hm:lastMarks [.LtE,.Lt] [eb,ec]=false:=by with_unfolding_all rfl):SE X sf C (.Compare ea [.LtE,.Lt] [eb,ec] pos) (.chain .le .lt a b c) :=
 aj (qr xm rE ha hb hc hm) (gP lx fj)
theorem tD (ha:SE X sf C ea a)(hb:SE X sf C eb b)(hc:SE X sf C ec c)(hm:lastMarks [.LtE,.Lt] [eb,ec]=false:=by with_unfolding_all rfl):SB X sf C (.Compare ea [.LtE,.Lt] [eb,ec] pos) (.chain .le .lt a b c) :=
 mn (qg xm rE ha hb hc hm) fun σ H Q hw=>gP lx fj σ H _ (xR (oC lx fj) hw)
theorem vf {u w:M.W}(e:M.oSem .len false [u]=some w):∃ n:Nat,w=(.d,.int n):=by
 obtain ⟨m,a⟩:=u
 cases a<;>first | (cases e; exact ⟨_,rfl⟩) | (cases e; done)
theorem Cj (j:Nat){i:Nat}{x:Str}{p px:Pos}(hm:X.mg "len"=none)(hg:Gl X "len":=by rfl)(hs:sf i=some j:=by rfl)(hN:X.N[j]?=some x:=by rfl)(hv:Vis X.env.scope x:=by first | exact a0G rfl | exact a0A (a0G rfl) | exact a0A (a0A rfl))(hd:(x==("__debug__":Str))=false:=by decide)
  (hcd:(x==("__classdict__":Str))=false:=by decide) (hst:starEach [.Name x px] X.env=(false,eval (.Name x px) X.env)::starEach [] X.env:=by rfl) (hpl:(backTo pos (starEach [] X.env)).any (·.1)=false:=by rfl):SE X sf C (.Call (.Name "len" p) [.Name x px] [] pos) (.lenV i) :=
 aj (ba jF hg hm a3t (aP (bq hN hv hd hcd) bQ hst) (by decide) (by decide) hst hpl) fun σ H Q hw=>by
  obtain ⟨pv,Z,Fs,η,w,η',A,ev,k⟩:=hw
  obtain ⟨w',e1,e2⟩:=aq (show M.ret η ((M.rd η i).bind fun w=>M.oSem .len false [w])=_ from ev)
  cases e2
  cases e0:M.rd η i with
  | none=>rw [e0] at e1; cases e1
  | some w0 =>
   rw [e0] at e1
   have e1':M.oSem .len false [w0]=some w:=e1
   obtain ⟨n,rfl⟩:=vf e1'
   obtain ⟨v,r,hv'⟩:=A.env i w0.1 w0.2 e0
   obtain ⟨x',n',hx,hl,hq⟩:=jy (K:=X.K) (h:=false) [w0] (.d,.int n) [v] Z H (Fs i) (fun v' _=>v'=.int n) rfl e1' (RepW.one r) (fun a ha=>A.gd.own a ⟨i,ha⟩) A.gd.zal (fun _ _ _ _ r _ _=>r)
   cases hx
   cases hq
   exact ⟨v,hv'.1 j hs,v,n,rfl,hl,k _ Z H Fs no A rfl ((Step.refl _ _ _).mono (fun _ z=>z) fun a ha=>ha.elim id fun z=>z.elim)⟩
end
end MR

namespace MR
open PySem PySem.Spec PyProof.Rows L2 L3
section
variable {X:Cx}{sf sg:Nat->Option Nat}{C:M.Call}{pos p2 p3:Pos}{ea eb ec:Expr}{a b c:M.E}{h:Bool}{n:Nat}{io:List Nat}
theorem DE {K:a0a}{vs ls:List Nat}{e:M.E}(σ:L2.St)(H:Hp)(Q:VK)(h:wE K sf C (.qx vs ls e) σ H Q):wE K sf C e σ H Q:=by
 obtain ⟨pv,Z,Fs,η,w,η',A,ev,k⟩:=h
 exact j5 (x:=.q vs ls) (sl:=⟨sf,pv⟩) A ev k
theorem sQ {vs ls:List Nat}(ha:SE X sf C ea a):SE X sf C ea (.qx vs ls a):=aj ha DE
noncomputable def xq (K:a0a)(H:Hp):List Nat->V->V->Prop
 | [],v,u=>u=v
 | j::p,v,u=>∃ a xs x,v=.ref a/\(SqL K H a xs\/SqT K H a xs)/\xs[j]?=some x/\xq K H p x u
noncomputable def wP (K:a0a)(sf:Nat->Option Nat)(i:Nat)(p:List Nat):TE:=fun σ H Q=>∃ j v u,sf i=some j/\σ[j]?=some (some v)/\xq K H p v u/\Q u H
noncomputable abbrev SP (X:Cx)(sf:Nat->Option Nat)(me:Expr)(i:Nat)(p:List Nat):Prop:=PE X me (wP X.K sf i p)
noncomputable def Eo (Fs:Fps)(i:Nat)(G:Fp):Fps:=fun l a=>(l=i/\G a)\/(l≠i/\Fs l a)
end
end MR

namespace MR
open PySem PySem.Spec PyProof.Rows L2 L3
theorem fsc {N P:List Str}{sc:Scope}(h1:sc.kind=.function:=by rfl)(h2:sc.isCoroutine=false:=by rfl)(h3:sc.isGenerator=false:=by rfl)(h4:N.Nodup:=by decide +kernel)(h5:N.take P.length=P:=by rfl)(h6:∀ x∈P,sc.names.lookup x=some .local\/sc.names.lookup x=some .cell:=by decide +kernel)(h7:∀ y∈sc.names,y.2≠.free:=by decide +kernel):ay N P sc:=⟨h1,h2,h3,h4,h5,h6,h7⟩
theorem csc {pre ys:List Str}{scope:Scope}(h1:scope.kind=.function:=by rfl)(h2:∀ y∈scope.names,y.2≠.cell:=by decide +kernel)(h3:∀ y∈scope.names,y.2=.local->scope.names.lookup y.1=some .local:=by decide +kernel)(h4:∀ x∈pre,scope.names.lookup x=some .local:=by decide +kernel)(h5:(pre++ys).Nodup:=by decide +kernel):av pre ys scope:=⟨h1,h2,h3,h4,h5⟩
section
variable {P:Program}{w:World}{K:a0a}{mg:Str->Option Value}{base:Heap}{x:Str}{st:Stmt}{ps N:List Str}{n g:Nat}{io:List Nat}{C C':M.Call}{d:Value}{t:M.T}
structure Df (K:a0a)(mg:Str->Option Value)(x:Str)(st:Stmt)(ps:List Str):Prop where
 ex:∃ f fd,Fun K x x st f fd/\Binds K fd ps []/\mg x=some (.ref f)
theorem Df.ok (e:Df K mg x st ps)(h:∀ f fd,Fun K x x st f fd->dJ P w K mg base CX0 n f fd ps (spS K C g io)):ae P w K mg base n C x g io:=by
 obtain ⟨f,fd,F,b,m⟩:=e.ex
 exact ⟨f,fd,ps,h f fd F,m,F.kp,b⟩
theorem Df.z (e:Df K mg x st ps)(hC:∀ ws,C g ws=.no:=by intro _; rfl):ae P w K mg base n C x g io:=e.ok fun _ _ _=>fn0 hC
theorem Df.s (fn:M.Fn)(e:Df K mg x st ps)(S:ay N ps (defScope st))
  (hb:∀ {f:Addr} {cdv:Value} {A:Around} {outer:List Env} {s:Shared} {H:Hp} {E:XK},Room n (A.deeper (envOfC x (defScope st) s.heap.objs.size f cdv))->SSs (il CX0 P w K mg base N x (defScope st) f cdv A outer s H E).nox (slN N.length) fn.io C (defBody st) fn.body)
  (hC:∀ ws,C' g ws=M.runF C fn ws:=by intro _; rfl) (hps:fn.ps=ps.length:=by rfl) (hle:ps.length<=N.length:=by decide) (nd:fn.io.Nodup:=by decide) (hio:∀ i∈fn.io,i < ps.length:=by decide):ae P w K mg base (n+1) C' x g fn.io :=
 e.ok fun _ _ F=>Fun.okM F S hps hle nd hio (fun _ _ _ _ _ _ h=>hb h) hC
noncomputable def Raw (K:a0a)(x:Str)(st:Stmt)(dV:Value):Prop:=∃ f oc od sl kV dc pm an cd ct,a25 K mainGlobals x=some (some (.ref f))/\K.lookup f=some ⟨oc,od,.func (a1g x x (defArgs st) (defBody st) (defScope st) dV kV dc pm an cd ct),sl⟩/\a19 K cd x=true/\a1J K (.ref f)=true
theorem bD {h:Heap}(X:K.In h)(G:h.Ns mainGlobals mg)(r:Raw K x st .none)(hb:∀ (kV doc pm:Value) (an:Option Addr) (cdv ct:Value) (us:List Value),us.length=ps.length->bindArgs (a1g x x (defArgs st) (defBody st) (defScope st) .none kV doc pm an cdv ct) ⟨us,[]⟩=pure (ps.zip us)):Df K mg x st ps:=by
 obtain ⟨f,oc,od,sl,kV,dc,pm,an,cd,ct,h1,h2,h3,h4⟩:=r
 have F:=pE (st:=st) h2 h3 h4
 exact ⟨f,_,F,F.binds hb,a3A X G h1⟩
noncomputable def zv (K:a0a):List Str->Prop
 | []=>True
 | x::r=>a25 K mainGlobals x=some none/\zv K r
theorem xU {h:Heap}(X:K.In h)(G:h.Ns mainGlobals mg)(r:zv K ["isinstance","int","tuple","list","bool","sum","len","all","zip","range","enumerate","any","max","min","sorted","str","repr","abs","dict","set","reversed"]):Txt mg:=by
 obtain ⟨z1,z2,z3,z4,z5,z6,z7,z8,z9,z10,z11,z12,z13,z14,z15,z16,z17,z18,z19,z20,z21,_⟩:=r
 have m:=fun {x:Str} (z:a25 K mainGlobals x=some none)=>PySem.W.mg_none_of X G z
 exact ⟨m z1,m z2,m z3,m z4,m z5,m z6,m z7,m z8,m z9,m z10,m z11,m z12,m z13,m z14,m z15,m z16,m z17,m z18,m z19,m z20,m z21⟩
end
end MR

namespace MR
open PySem PySem.Spec PyProof.Rows L2 L3
section
variable {X:Cx}{sf sg:Nat->Option Nat}{C:M.Call}{pos p p2 p3:Pos}{ea eb ec:Expr}{a b c:M.E}{h:Bool}{n:Nat}{io:List Nat}{K:a0a}
theorem t7:Loc K 1 .int h fun xs H Q=>(∃ i,xs=[.int i]/\Q (.int i) H)\/∃ k,xs=[.bl k]/\Q (.int (if k then 1 else 0)) H:=by
 intro ws w xs Z H G Q hn e r ow za k
 match ws,hn with
 | [(m,a)],_ =>
  obtain ⟨x,rfl,r1⟩:=bh rfl r
  cases a with
  | int i=>cases e; exact .inl ⟨i,by rw [show x=_ from r1],aB k⟩
  | bl b=>cases e; exact .inr ⟨b,by rw [show x=_ from r1],by cases b<;>exact aB k⟩
  | _=>cases e
theorem FE (hm:X.mg "int"=none)(hg:Gl X "int":=by rfl)(ha:SE X sf C ea a)(hs:starEach [ea] X.env=(false,eval ea X.env)::starEach [] X.env:=by rfl)(hpl:(backTo pos (starEach [] X.env)).any (·.1)=false:=by rfl):SE X sf C (.Call (.Name "int" p) [ea] [] pos) (.op .int h [a]) :=
 aj (cp nC hg hm a1M (slc ha sl0 hs) (by decide) (by decide) hs hpl) (cQ t7 rfl)
theorem iu:∀ {ns:List Int} {m:Int},m∈ns->(∀ n∈ns,n<=m)->M.maxI ns=m
 | [n],m,h,_=>(a0q.mp h).symm
 | n::n'::ns,m,h,h2=>by
  show max n (M.maxI (n'::ns))=m
  rcases a0r.mp h with e | e
  ·subst e
   have key:∀ l:List Int,l≠[]->(∀ x∈l,x<=m)->M.maxI l<=m:=by
    intro l
    induction l with
    | nil=>intro z; exact absurd rfl z
    | cons y l ih =>
     intro _ z
     cases l with
     | nil=>exact z y a0e
     | cons y' l =>
      have:=ih (by simp) fun x hx=>z x (a0d _ hx)
      have:=z y a0e
      show max y (M.maxI (y'::l))<=m
      omega
   have:=key (n'::ns) (by simp) fun x hx=>h2 x (a0d _ hx)
   omega
  ·have:=iu e fun x hx=>h2 x (a0d _ hx)
   have:=h2 n a0e
   omega
theorem q8:Loc K 1 .max1 h fun xs H Q=>∃ (a:Addr) (ns:List Int),xs=[.ref a]/\SqL K H a (ns.map V.int)/\ns≠[]/\∀ M,M∈ns->(∀ n∈ns,n<=M)->Q (.int M) H:=by
 intro ws w xs Z H G Q hn e r ow za k
 match ws,hn with
 | [(m,a)],_ =>
  obtain ⟨x,rfl,r1⟩:=bh rfl r
  cases a with
  | lst ts =>
   obtain ⟨a,xs,hx,hs,hl,p⟩:=a8 r1
   have e':((M.intsOf ts).bind fun ns=>if ns.isEmpty then none else some ((.d,.int (M.maxI ns)):M.W))=some w:=e
   cases e1:M.intsOf ts with
   | none=>rw [e1] at e'; cases e'
   | some ns =>
    rw [e1] at e'
    have e2:(if ns.isEmpty=true then none else some ((.d,.int (M.maxI ns)):M.W))=some w:=e'
    split at e2
    ·cases e2
    ·rename_i hne
     cases e2
     rw [dI e1 p] at hs
     refine ⟨a,ns,by rw [hx],.inl (.inl hs),fun z=>hne (by rw [z]; rfl),fun m h1 h2=>?_⟩
     rw [<- iu h1 h2]; exact aB k
  | _=>cases e
theorem BK (hc:X.calm=true:=by rfl)(hm:X.mg "max"=none)(hg:Gl X "max":=by rfl)(ha:SE X sf C ea a)(hs:starEach [ea] X.env=(false,eval ea X.env)::starEach [] X.env:=by rfl)(hpl:(backTo pos (starEach [] X.env)).any (·.1)=false:=by rfl):SE X sf C (.Call (.Name "max" p) [ea] [] pos) (.op .max1 h [a]) :=
 aj (ba (mI hc) hg hm (by rfl) (slc ha sl0 hs) (by decide) (by decide) hs hpl) (cQ q8 rfl)
theorem dH {Z:Fp}{H:Hp}{G:Fp}{m:M.Md}{t:M.T}{x:V}(hf:M.flatT t=true)(r:Rep K Z H m t x G):dj x=true/\∀ (u:M.T) (y:V) {m':M.Md} {G':Fp},M.flatT u=true->Rep K Z H m' u y G'->eqV y x=M.eqT u t:=by
 cases t with
 | non=>cases r; refine ⟨rfl,fun u y m' G' hu ru=>?_⟩; cases u<;>first | (cases ru; rfl) | (obtain ⟨e,_⟩:=ru; cases e; rfl) | cases hu
 | bl b=>cases r; refine ⟨rfl,fun u y m' G' hu ru=>?_⟩; cases u<;>first | (cases ru; rfl) | (cases ru; cases b<;>rfl) | (obtain ⟨e,_⟩:=ru; cases e; rfl) | cases hu
 | int i=>cases r; refine ⟨rfl,fun u y m' G' hu ru=>?_⟩; cases u with
  | bl c=>cases ru; cases c<;>rfl
  | _=>first | (cases ru; rfl) | (obtain ⟨e,_⟩:=ru; cases e; rfl) | cases hu
 | str z=>obtain ⟨e,_⟩:=r; cases e; refine ⟨rfl,fun u y m' G' hu ru=>?_⟩; cases u<;>first | (cases ru; rfl) | (obtain ⟨e,_⟩:=ru; cases e; rfl) | cases hu
 | _=>cases hf
theorem kg {Z:Fp}{H:Hp}{G:Fp}{m:M.Md}{t:M.T}{x:V}(hf:M.flatT t=true)(r:Rep K Z H m t x G):∀ {ts:List M.T} {xs:List V} {m':M.Md} {G':Fp},ts.all M.flatT=true->RepL K Z H m' ts xs G'->xs.all dj=true/\L2.inV x xs=ts.any fun u=>M.eqT u t
 | [],_,_,_,_,h=>by cases h; exact ⟨rfl,rfl⟩
 | u::ts,_,m',_,hl,⟨y,ys,G1,G2,e,_,_,_,q,qs⟩=>by
  cases e
  rw [a2k,a0j] at hl
  obtain ⟨h1,h2⟩:=kg hf r hl.2 qs
  refine ⟨by rw [a2k,(dH hl.1 q).1,h1]; rfl,?_⟩
  show (eqV y x || L2.inV x ys)=_
  rw [a1o,h2,(dH hf r).2 u y hl.1 q]
theorem pb {neg:Bool}{u v w:M.W}{o:M.Op}(ho:o=if neg then .notin else .isin)(e:M.oSem o h [u,v]=some w):∃ ts,M.elems v=some ts/\M.flatT u.2=true/\ts.all M.flatT=true/\w=(.d,.bl (if neg then !ts.any (fun t=>M.eqT t u.2) else ts.any fun t=>M.eqT t u.2)):=by
 obtain ⟨m,a⟩:=u; obtain ⟨n,b⟩:=v
 subst ho
 cases neg with
 | true =>
  obtain ⟨ts,h1,h2⟩:=a2m.mp (show (M.elems (n,b)).bind (fun ts=>if (M.flatT a&&ts.all M.flatT)=true then some ((.d,.bl (!ts.any fun t=>M.eqT t a)):M.W) else none)=some w from e)
  split at h2
  ·rename_i hh; rw [a0j] at hh; cases h2; exact ⟨ts,h1,hh.1,hh.2,rfl⟩
  ·cases h2
 | false =>
  obtain ⟨ts,h1,h2⟩:=a2m.mp (show (M.elems (n,b)).bind (fun ts=>if (M.flatT a&&ts.all M.flatT)=true then some ((.d,.bl (ts.any fun t=>M.eqT t a)):M.W) else none)=some w from e)
  split at h2
  ·rename_i hh; rw [a0j] at hh; cases h2; exact ⟨ts,h1,hh.1,hh.2,rfl⟩
  ·cases h2
theorem se (neg:Bool){o:M.Op}(ho:o=if neg then .notin else .isin):Loc K 2 o h fun xs H Q=>∀ x y,xs=[x,y]->rIn K neg x y H Q:=by
 intro ws w xs Z H G Q hn e r ow za k x y hx
 subst hx
 obtain ⟨⟨m,a⟩,⟨n,b⟩,rfl⟩:=dw r.length.symm
 obtain ⟨G1,G2,w1,w2,d,r1,r2⟩:=bO r
 obtain ⟨ts,e1,e2,e3,rfl⟩:=pb ho e
 cases b with
 | lst us =>
  cases e1
  obtain ⟨p,xs,rfl,hs,hl,q⟩:=a8 r2
  obtain ⟨f1,f2⟩:=kg e2 r1 e3 q
  refine ⟨p,xs,rfl,.inl (.inl (.inl hs)),(dH e2 r1).1,f1,?_⟩
  rw [f2]
  exact bY k
 | tup us =>
  cases e1
  obtain ⟨p,xs,rfl,hs,hl,q⟩:=cy r2
  obtain ⟨f1,f2⟩:=kg e2 r1 e3 q
  refine ⟨p,xs,rfl,.inr hs,(dH e2 r1).1,f1,?_⟩
  rw [f2]
  exact bY k
 | _=>cases e1
theorem BS (ha:SE X sf C ea a)(hb:SE X sf C eb b)(hm:behindInMarks .In eb=false:=by rfl):SE X sf C (.Compare ea [.In] [eb] pos) (.op .isin h [a,b]):=aj (i6 mV ha hb hm) (aK (se false rfl))
theorem ur (ha:SE X sf C ea a)(hb:SE X sf C eb b)(hm:behindInMarks .NotIn eb=false:=by rfl):SB X sf C (.Compare ea [.NotIn] [eb] pos) (.op .notin h [a,b]):=df iE ha hb hm (aK (se true rfl)) fun u v w e=>by obtain ⟨_,_,_,_,rfl⟩:=pb (neg:=true) rfl e; exact ⟨_,rfl⟩
end
end MR
namespace MR
open PySem PySem.Spec PyProof.Rows L2 L3
end MR
namespace MR
open PySem PySem.Spec PyProof.Rows L2 L3
theorem nu {X:Cx}:bI X (.type "range") (fun xs H Q=>∃ j,xs=[.int j]/\∀ p,H p=none->Q (.ref p) (upd H p (.rng 0 j))):=by
 intro pins s σ H xs us Q I r h
 obtain ⟨j,rfl,q⟩:=h
 obtain ⟨u,rfl,t,rfl⟩:=cf r
 refine call_range_1 ?_
 exact ⟨.ref s.heap.objs.size,upd H s.heap.objs.size (.rng 0 j),I.laid (t':=s.toks+2) (fun _ _ e=>Heap.get?_push_of_some _ e) (a0m _) ⟨_,_,_,Heap.get?_push_size _ rfl⟩,rfl,q _ I.fresh⟩
section
variable {X:Cx}{sf sg:Nat->Option Nat}{C:M.Call}{pos p p2 p3:Pos}{ea eb ec:Expr}{a b c:M.E}{h:Bool}{io:List Nat}
theorem CV (hm:X.mg "list"=none)(hm2:X.mg "range"=none)(ha:SE X sf C ea a)(hc:X.calm=true:=by rfl)(hg:Gl X "list":=by rfl)(hg2:Gl X "range":=by rfl)
  (hs:starEach [.Call (.Name "range" p3) [ea] [] p2] X.env=(false,eval (.Call (.Name "range" p3) [ea] [] p2) X.env)::starEach [] X.env:=by rfl) (hpl:(backTo pos (starEach [] X.env)).any (·.1)=false:=by rfl)
  (hs3:starEach [ea] X.env=(false,eval ea X.env)::starEach [] X.env:=by rfl) (hpl2:(backTo p2 (starEach [] X.env)).any (·.1)=false:=by rfl) {p4:Pos} :
  SE X sf C (.Call (.Name "list" p4) [.Call (.Name "range" p3) [ea] [] p2] [] pos) (.op .rng h [.cst (.int 0),a]) :=
 aj (cp (k4 hc) hg hm a02 (aP (cp nu hg2 hm2 a3B (aP ha bQ hs3) (by decide) (by decide) hs3 hpl2) bQ hs) (by decide) (by decide) hs hpl) fun σ H Q hw=>by
  obtain ⟨pv,Z,Fs,η,w,η',A,ev,k⟩:=hw
  obtain ⟨ws,h1,h2⟩:=cD ev
  obtain ⟨⟨m,u⟩,η1,us,e1,e2,rfl⟩:=ax h1
  obtain ⟨⟨m',u'⟩,η2,us,e3,e4,rfl⟩:=ax e2
  cases e4
  cases e1
  cases u' with
  | int j =>
   have h3:(if (decide ((0:Int).natAbs < 4611686018427387904)&&decide (j.natAbs < 4611686018427387904)&&M.fits (j-0).toNat)=true then some ((.d,.lst ((a0k (j-0).toNat).map fun (k:Nat)=>M.T.int (0+k))):M.W) else none)=some w:=h2
   split at h3
   ·rename_i hc
    rw [a0j,a0j,decide_eq_true_eq,decide_eq_true_eq] at hc
    cases h3
    refine ⟨pv,Z,Fs,η,(m',.int j),η',A,e3,fun y Z2 H2 Fs2 G2 A2 r2 s2=>?_⟩
    cases r2
    refine ⟨j,rfl,fun p hp=>⟨p,0,j,rfl,ai,⟨by omega,by omega,by omega,by omega⟩,bo (bL hc.2),fun l hl=>?_⟩⟩
    have sm:=dZ (o:=.rng 0 j) hp
    have ow:Own Z2 (upd H2 p (.rng 0 j)) G2:=fun a ha=>by
     obtain ⟨z1,ys,z2⟩:=A2.own a ha
     exact ⟨z1,ys,sm a _ z2⟩
    have za:∀ a,Z2 a->upd H2 p (.rng 0 j) a≠none:=fun a ha q=>by
     cases e:H2 a with
     | none=>exact A2.gd.zal a ha e
     | some o=>rw [sm a o e] at q; cases q
    have kk:=jf sm (bP A2 s2 k)
    refine bB (m:=.d) (G':=no) ow za (fun _ z=>z.elim) ?_ ?_ (by simp) kk hl
    ·rw [a0b,a0C]; exact bL hc.2
    ·have q1:((a0k (j-0).toNat).map fun (k:Nat)=>M.T.int (0+(k:Int)))=((a0k (j-0).toNat).map fun (k:Nat)=>0+(k:Int)).map M.T.int:=by rw [a1h]; rfl
     have q2:((a0k (j-0).toNat).map fun (k:Nat)=>V.int (0+(k:Int)))=((a0k (j-0).toNat).map fun (k:Nat)=>0+(k:Int)).map V.int:=by rw [a1h]; rfl
     rw [q1,q2]
     exact fW _
   ·cases h3
  | _=>cases h2
end
end MR
namespace MR
open PySem PySem.Spec PyProof.Rows L2 L3
section
variable {X:Cx}{sf sg:Nat->Option Nat}{C:M.Call}{pos p p2 p3:Pos}{ea eb ec:Expr}{a b c:M.E}{h:Bool}{io:List Nat}{K:a0a}
theorem zp {x y:Int}(h:y.natAbs < 18446744073709551616):Builtin.divisionGoesByPylong x y=false:=by
 refine PyProof.noPylong_of_log2 ?_
 by_cases h0:y.natAbs=0
 ·rw [h0]; decide +kernel
 ·have h30:y.natAbs.log2 < 64:=(Nat.log2_lt h0).mpr h
  omega
theorem rg:OpR X (binaryOp .FloorDiv) (rI (fun _ j=>j≠0/\j.natAbs < 18446744073709551616) fun i j=>.int (i.fdiv j)):=opI fun _ _ _ _ _ _ _ hc q=>floordiv_int hc.1 q (.inl (zp hc.2))
theorem mT:Loc K 2 .fdivN h fun xs H Q=>∀ x y,xs=[x,y]->rI (fun _ j=>j≠0/\j.natAbs < 18446744073709551616) (fun i j=>.int (i.fdiv j)) x y H Q:=by
 intro ws w xs Z H G Q hn e r ow za k x y hx
 subst hx
 obtain ⟨⟨m,a⟩,⟨n,b⟩,rfl⟩:=dw r.length.symm
 obtain ⟨G1,G2,w1,w2,d,r1,r2⟩:=bO r
 cases a with
 | int i =>
  cases b with
  | int j =>
   have e':(if ((j != 0)&&decide (j.natAbs < 18446744073709551616))=true then some ((.d,.int (i.fdiv j)):M.W) else none)=some w:=e
   split at e'
   ·rename_i hc
    rw [a0j,decide_eq_true_eq,bne_iff_ne] at hc
    cases e'
    exact ⟨i,j,r1,r2,hc,aB k⟩
   ·cases e'
  | _=>cases e
 | _=>cases b<;>cases e
theorem r9:Loc K 2 .modN h fun xs H Q=>∀ x y,xs=[x,y]->rI (fun _ j=>j≠0) (fun i j=>.int (i.fmod j)) x y H Q:=by
 intro ws w xs Z H G Q hn e r ow za k x y hx
 subst hx
 obtain ⟨⟨m,a⟩,⟨n,b⟩,rfl⟩:=dw r.length.symm
 obtain ⟨G1,G2,w1,w2,d,r1,r2⟩:=bO r
 cases a with
 | int i =>
  cases b with
  | int j =>
   have e':(if (j != 0)=true then some ((.d,.int (i.fmod j)):M.W) else none)=some w:=e
   split at e'
   ·rename_i hc
    rw [bne_iff_ne] at hc
    cases e'
    exact ⟨i,j,r1,r2,hc,aB k⟩
   ·cases e'
  | _=>cases e
 | _=>cases b<;>cases e
theorem oG (ha:SE X sf C ea a)(hb:SE X sf C eb b):SE X sf C (.BinOp ea .FloorDiv eb pos) (.op .fdivN h [a,b]):=aj (eO rg ha hb) (aK mT)
theorem eN (ha:SE X sf C ea a)(hb:SE X sf C eb b):SE X sf C (.BinOp ea .Mod eb pos) (.op .modN h [a,b]):=aj (eO tQ ha hb) (aK r9)
end
end MR
namespace MR
open PySem PySem.Spec PyProof.Rows L2 L3
end MR

namespace MR
open PySem PySem.W L2 M
end MR

namespace MR
open PySem PySem.Spec PyProof.Rows L2 L3 M
end MR

namespace L3
open PySem PySem.Spec PyProof.Rows L2
end L3
namespace MR
open PySem PySem.Spec PyProof.Rows L2 L3
end MR

namespace L3
open PySem PySem.Spec PyProof.Rows L2
theorem gI:∀ {ns:List Int} {us:List Value},IntsAre us ns->Vals (ns.map V.int) us
 | _,_,.nil=>.nil
 | _,_,.cons n t h=>.cons ⟨t,rfl⟩ (gI h)
theorem kU {X:Cx}:bI X (.builtin "sorted") (fun xs H Q=>∃ (a:Addr) (ns:List Int),xs=[.ref a]/\SqL X.K H a (ns.map V.int)/\ns.length < 64/\∀ ms:List Int,ms.Perm ns->ms.Pairwise (·<=·)->∀ p,H p=none->Q (.ref p) (upd H p (.lst (ms.map V.int)))):=by
 intro pins s σ H xs us Q I r h
 obtain ⟨a,ns,rfl,hS,h64,q⟩:=h
 obtain ⟨u,rfl,ru⟩:=cf r
 cases ru
 obtain ⟨its,rv,p,hz⟩:=I.list hS
 have hi:=bM rv
 have hlen:its.length=ns.length:=IntsAre.length hi
 refine sorted_ints p.isList hi (by omega) fun out ms h1 h2 h3=>?_
 obtain ⟨e,he⟩:=sortedAll_at s.heap its out
 have hml:ms.length=ns.length:=h2.length_eq
 refine ⟨.ref (s.heap.objs.size+1),upd H (s.heap.objs.size+1) (.lst (ms.map V.int)),I.laid (t':=s.toks) (fun _ _=>sortedAll_old) (a2l _) ⟨by rw [a0b,sizeLine_eq]; omega,out.toList,e,gI h1,by rw [he,a2D]⟩,rfl,q _ h2 h3 _ (I.hok.fresh (a2l _))⟩
end L3
namespace MR
open PySem PySem.Spec PyProof.Rows L2 L3
section
variable {X:Cx}{sf sg:Nat->Option Nat}{C:M.Call}{pos p p2 p3:Pos}{ea eb ec:Expr}{a b c:M.E}{h:Bool}{n:Nat}{io:List Nat}{K:a0a}
theorem lG (x:Int):∀ l:List Int,l.Pairwise (·<=·)->(M.insI x l).Perm (x::l)/\(M.insI x l).Pairwise (·<=·)
 | [],_=>⟨.refl _,List.pairwise_singleton _ _⟩
 | y::ys,hp=>by
  obtain ⟨h1,h2⟩:=a13.mp hp
  obtain ⟨a,b⟩:=lG x ys h2
  unfold M.insI
  split
  ·rename_i hxy
   exact ⟨.refl _,a13.mpr ⟨fun z hz=>(a0r.mp hz).elim (fun e=>e ▸ hxy) fun hz=>Int.le_trans hxy (h1 z hz),hp⟩⟩
  ·rename_i hxy
   refine ⟨(a.cons y).trans (.swap x y ys),a13.mpr ⟨fun z hz=>?_,b⟩⟩
   rcases a0r.mp (a.mem_iff.mp hz) with rfl | hz
   ·omega
   ·exact h1 z hz
theorem d7:∀ l:List Int,(M.sortI l).Perm l/\(M.sortI l).Pairwise (·<=·)
 | []=>⟨.refl _,.nil⟩
 | x::l=>by
  obtain ⟨a,b⟩:=d7 l
  obtain ⟨c,d⟩:=lG x _ b
  exact ⟨c.trans (a.cons x),d⟩
theorem qj {ns ms:List Int}(h1:ms.Perm ns)(h2:ms.Pairwise (·<=·)):ms=M.sortI ns :=
 List.Perm.eq_of_pairwise (le:=fun a b:Int=>a<=b) (fun a b _ _ h h'=>Int.le_antisymm h h') h2 (d7 ns).2 (h1.trans (d7 ns).1.symm)
theorem kM:Loc K 1 .sorted h fun xs H Q=>∃ (a:Addr) (ns:List Int),xs=[.ref a]/\SqL K H a (ns.map V.int)/\ns.length < 64/\∀ ms:List Int,ms.Perm ns->ms.Pairwise (·<=·)->∀ p,H p=none->Q (.ref p) (upd H p (.lst (ms.map V.int))):=by
 intro ws w xs Z H G Q hn e r ow za k
 match ws,hn with
 | [(m,a)],_ =>
  obtain ⟨x,rfl,r1⟩:=bh rfl r
  cases a with
  | lst ts =>
   obtain ⟨a,xs,hx,hs,hl,p⟩:=a8 r1
   have e':((M.intsOf ts).bind fun ns=>if decide (ns.length < 64)=true then some ((.d,.lst ((M.sortI ns).map M.T.int)):M.W) else none)=some w:=e
   cases e1:M.intsOf ts with
   | none=>rw [e1] at e'; cases e'
   | some ns =>
    rw [e1] at e'
    have e2:(if decide (ns.length < 64)=true then some ((.d,.lst ((M.sortI ns).map M.T.int)):M.W) else none)=some w:=e'
    split at e2
    ·rename_i hlt
     cases e2
     have hlt:=of_decide_eq_true hlt
     rw [dI e1 p] at hs
     refine ⟨a,ns,by rw [hx],.inl (.inl hs),hlt,fun ms h1 h2 q hq=>?_⟩
     rw [qj h1 h2]
     have hln:(M.sortI ns).length=ns.length:=(d7 ns).1.length_eq
     exact bB (G':=no) ow za (fun _ z=>z.elim) (by rw [a0b,hln]; show _<=16777215; omega) (fW _) (by simp) k hq
    ·cases e2
  | _=>cases e
theorem vF (hm:X.mg "sorted"=none)(hg:Gl X "sorted":=by rfl)(ha:SE X sf C ea a)(hs:starEach [ea] X.env=(false,eval ea X.env)::starEach [] X.env:=by rfl)(hpl:(backTo pos (starEach [] X.env)).any (·.1)=false:=by rfl):SE X sf C (.Call (.Name "sorted" p) [ea] [] pos) (.op .sorted h [a]) :=
 aj (ba kU hg hm (by rfl) (slc ha sl0 hs) (by decide) (by decide) hs hpl) (cQ kM rfl)
end
end MR

namespace L3
open PySem PySem.Spec PySem.NumText PyProof.Rows L2
theorem zL {i:Int}(h:i.natAbs < 10000000000000000000):i.natAbs.log2 < 1920:=by
 by_cases h0:i.natAbs=0
 ·rw [h0]; decide
 ·exact a0p ((Nat.log2_lt h0).mpr (show i.natAbs < 2 ^ 64 from a0p h (by decide))) (by decide)
theorem qu {n:Int}(h:n.natAbs < 10000000000000000000):(Str.ofString (toString n)).length<=20:=by
 have h2:=int_text_length_le10 (a:=n) (k:=19) (by decide) h
 have:(Str.ofString (toString n)).length=(toString n).length:=by
  show (Str.ofString (toString n)).cps.size=_
  rw [<- a0V,signs_ofString,a0b,a2E]
 omega
end L3
namespace MR
open PySem PySem.Spec PyProof.Rows L2 L3
end MR

namespace L3
open PySem PySem.Spec PyProof.Rows L2
end L3
namespace MR
open PySem PySem.Spec PyProof.Rows L2 L3
theorem slx {X:Cx}{sf:Nat->Option Nat}{C:M.Call}{ea:Expr}{a:M.E}{es:List Expr}{bs:List M.E}(ha:SE X sf C ea a)(hb:SL X sf C es bs)(hs:starEach (ea::es) X.env=(false,eval ea X.env)::starEach es X.env):SL X sf C (ea::es) (a::bs):=slc ha hb hs
theorem sTx {X:Cx}{sf:Nat->Option Nat}{C:M.Call}{pos:Pos}{es:List Expr}{bs:List M.E}{x1:Nat}(hn:bs.length<=M.LIM)(h:SL X sf C es bs):SE X sf C (.Tuple es x1 pos) (.tup bs):=sT h hn
theorem sLx {X:Cx}{sf:Nat->Option Nat}{C:M.Call}{pos:Pos}{h:Bool}{es:List Expr}{bs:List M.E}(hn:bs.length<=M.LIM)(hh:SL X sf C es bs):SE X sf C (.List es pos) (.lst h bs):=sLs hh hn
theorem aF {X:Cx}{sf:Nat->Option Nat}{C:M.Call}{pos:Pos}{h:Bool}{ea eb:Expr}{a b:M.E}(ha:SE X sf C ea a)(hb:SE X sf C eb b)(hs:iB eb):SE X sf C (.Subscript ea eb pos) (.op .ix h [a,b]):=sIx ha hb hs
theorem aM {X:Cx}{sf:Nat->Option Nat}{C:M.Call}{ea:Expr}{a:M.E}{es:List Expr}{bs:List M.E}(ha:SE X sf C ea a)(hb:SA X sf C es bs)(he:∀ i,a≠.io i)(hs:starEach (ea::es) X.env=(false,eval ea X.env)::starEach es X.env):SA X sf C (ea::es) (a::bs):=sac ha hb he hs
end MR

namespace MR
open PySem PySem.Spec PyProof.Rows L2 L3
theorem walkX {sx:Str}{C:M.Call}{ix k:Nat}{l:a2z}{q:Program}{loose:List Str}{XP:(Str->Option Value)->Heap->Prop}{YP:World->Heap->Prop}{d:DefRec}{K:Params->a0a}(hp:∀ ns:List Int,ns.length<=63->∃ m bs,C ix [(.d,.scr ns)]=.ok ((m,.bl true),bs))(hn:l.most=some 63)(hdf:d.params.defaults=[])(hr:Room k callerA)
  (hY:∀ (w:World) (h:Heap),YP w h->(K w.params).In h)
  (F:∀ (w:World) (mg:Str->Option Value) (fa:Addr) (h:Heap),(K w.params).In h->h.Ns mainGlobals mg->mg d.name=some (.ref fa) ->
   ∃ fd:FuncData,(∀ (s:Shared) (u:Value),BindsTo s fd ⟨[u],[]⟩ [(sx,u)])/\∀ base:Heap,(K w.params).In base->base.Ns mainGlobals mg->dJ l.prog w (K w.params) mg base CX0 k fa fd [sx] (spS (K w.params) C ix [])) :
  a3w q loose XP YP l.row.toRowW d [] (fun f vs=>a3v f vs) :=
 L2.walk_of (n:=63) (k:=k) (x:=sx) (CX:=fun _=>CX0) (sp:=fun w=>spS (K w.params) C ix []) hn (by decide) hdf hr hY F (fun _ _ a ns hl hO hS=>zk (hp ns hl) hl hO hS) fun _ _ _ _ _ z=>z
theorem v7 {sx:Str}{w:World}{K:a0a}{mg:Str->Option Value}{st:Stmt}{h:Heap}{fa:Addr}{pr:Program}{k:Nat}{sp:Sp}(X:K.In h)(G:h.Ns mainGlobals mg)(hfa:mg "law"=some (.ref fa))(r:Raw K "law" st .none)(hb:∀ (kV dc pm:Value) (an:Option Addr) (cd ct:Value) (s:Shared) (v:Value),BindsTo s (a1g "law" "law" (defArgs st) (defBody st) (defScope st) .none kV dc pm an cd ct) ⟨[v],[]⟩ [(sx,v)])
  (ok:∀ f fd,Fun K "law" "law" st f fd->∀ base,dJ pr w K mg base CX0 k f fd [sx] sp):∃ fd:FuncData,(∀ (s:Shared) (v:Value),BindsTo s fd ⟨[v],[]⟩ [(sx,v)])/\∀ base:Heap,K.In base->base.Ns mainGlobals mg->dJ pr w K mg base CX0 k fa fd [sx] sp:=by
 obtain ⟨f,oc,od,sl,kV,dc,pm,an,cd,ct,h1,h2,h3,h4⟩:=r
 have e:=hfa.symm.trans (a3A X G h1)
 cases e
 exact ⟨_,hb kV dc pm an cd ct,fun base _ _=>ok _ _ (pE (st:=st) h2 h3 h4) base⟩
end MR

namespace L3
open PySem PySem.Spec PyProof.Rows L2
end L3
namespace MR
open PySem PySem.Spec PyProof.Rows L2 L3
end MR

namespace L3
open PySem PySem.Spec PyProof.Rows L2
end L3
namespace MR
open PySem PySem.Spec PyProof.Rows L2 L3
end MR

namespace L3
open PySem PySem.Spec PyProof.Rows L2
end L3
namespace MR
open PySem PySem.Spec PyProof.Rows L2 L3
section
variable {X:Cx}{sf sg:Nat->Option Nat}{C:M.Call}{pos p p2 p3:Pos}{ea eb ec:Expr}{a b c:M.E}{h:Bool}{n:Nat}{io:List Nat}{K:a0a}
theorem uu {Z:Fp}{H:Hp}{G:Fp}{Q:VK}{p:Addr}(ow:Own Z H G)(za:∀ a,Z a->H a≠none)(k:Out K Z H G (.d,.dct [] []) Q)(hp:H p=none):Q (.ref p) (upd H p (.dK [])):=by
 refine k _ Z _ (fun a=>a=p) ⟨p,[],rfl,a0M _,⟨rfl,ai⟩,⟨List.nodup_nil,fun _ z=>nomatch z⟩,rfl,rfl⟩ ?_ (fv hp ow (fun a h=>.inr h) Z (fun _ z=>z) fun _ z=>.inl z)
 rintro a rfl
 exact ⟨fun z=>za a z hp,.inr [],ai⟩
theorem vn (σ:L2.St)(H:Hp)(Q:VK)(hw:wE K sf C (.op .dnew h []) σ H Q):qi σ H Q:=by
 obtain ⟨pv,Z,Fs,η,w,η',A,ev,k⟩:=hw
 obtain ⟨ws,h1,h2⟩:=cD ev
 cases h1
 cases h2
 intro p hp
 have A':At K ⟨sf,pv⟩ σ Z H Fs η no:=A
 have o:=bP (F:=tot Fs) A' ((Step.refl Z H (tot Fs)).mono (fun _ z=>z) fun _ z=>z.elim id fun q=>q.elim) k
 exact uu bS A.gd.zal o hp
theorem Bv:SE X sf C (.Dict [] [] pos) (.op .dnew h []):=aj pI vn
end
end MR

namespace L3
open PySem PySem.Spec PyProof.Rows L2
end L3
namespace MR
open PySem PySem.Spec PyProof.Rows L2 L3
end MR

namespace MR
open L2 L3 M
open PySem (Addr Str sizeLine)
section
variable {K:a0a}{sl:Cf}{sf sg:Nat->Option Nat}{C:Call}{σ σ2:L2.St}{Z Z' Z1:Fp}{H H' H1:Hp}{Fs Fs' Fs1:Fps}{η η' η1 ηb:Env}{G G' G1 R F F':Fp}{tg is vs ls io:List Nat}{pv val:Nat->Option V}{D:bw}
theorem uG {Z:Fp}{H:Hp}{G:Fp}{a:Addr}{o:HO}{m:Md}(hm:m≠.s)(h:G a/\H a=some o):DctR Z H G a o m:=by
 cases m with
 | s=>exact absurd rfl hm
 | d=>exact h
 | o m=>exact h
theorem uA {i:Nat}{a:Addr}{ks':List (Int ⊕ Str)}{vs':List T}{xs':List V}{m':Md}(hm:m'≠.s)(A:At K ⟨sf,pv⟩ σ Z H Fs η G){w0:W}(hi:rd η i=some w0)(ha:Fs i a)(hx:∀ j,sf i=some j->σ[j]?=some (some (.ref a)))(hl:ks'.length<=LIM)(hnd:ks'.Nodup/\∀ k∈ks',kOk k=true)(hvl:vs'.length=ks'.length)(hpv:∀ u,pv i=some u->V.ref a=u)
  (hg:∀ b,G' b->(Fs i b\/G b)/\b≠a) (hR:∀ b,R b->(Fs i b\/G b)/\b≠a) (hRG:∀ b,R b->¬ G' b) (p:RepL K (fun b=>Z b\/((Fs i b\/G b)/\b≠a/\¬ G' b/\¬ R b)) H (dmd m') vs' xs' (fun _=>False)) {Q:Hp->Prop}
  (k:∀ Z' Fs',At K ⟨sf,pv⟩ σ Z' (upd H a (.dK (mkD ks' xs'))) Fs' (M.put η i (m',.dct ks' vs')) R->Step Z H (fun b=>tot Fs b\/G b) Z' (upd H a (.dK (mkD ks' xs'))) (fun b=>tot Fs' b\/R b)->(∀ {m t v},Rep K (fun b=>Z b\/((Fs i b\/G b)/\b≠a/\¬ G' b/\¬ R b)) H m t v R->Rep K Z' (upd H a (.dK (mkD ks' xs'))) m t v R)->Q (upd H a (.dK (mkD ks' xs')))):Q (upd H a (.dK (mkD ks' xs'))):=by
 have hta:tot Fs a:=⟨i,ha⟩
 obtain ⟨nza,ys,hya⟩:=A.gd.own a hta
 have nGa:¬ G a:=fun q=>A.dis a q hta
 have zdef:∀ b,(Z b\/((Fs i b\/G b)/\b≠a/\¬ G' b/\¬ R b))->b≠a:=fun b h z=>by
  subst z
  rcases h with h | h
  ·exact nza h
  ·exact h.2.1 rfl
 have keep:∀ b o,H b=some o->b≠a->upd H a (.dK (mkD ks' xs')) b=some o:=fun b o e hb=>by rw [ab hb]; exact e
 have neT:∀ b xs,H b=some (.tup xs)->b≠a:=fun b xs e z=>by rw [z,hya] at e; exact hZ e.symm
 have neF:∀ b o u,H b=some (.frz o u)->b≠a:=fun b o u e z=>by rw [z,hya] at e; exact dD e.symm
 have stay:∀ {Y:Fp},(∀ b,Y b->b≠a)->Stay Y H (upd H a (.dK (mkD ks' xs'))):=fun {Y} hY=>⟨fun b o hb e=>keep b o e (hY b hb),fun b xs e=>by
  rcases e with e | ⟨u,e⟩
  ·exact .inl (keep b _ e (neT b xs e))
  ·exact .inr ⟨u,keep b _ e (neF b u _ e)⟩,fun b o u e=>keep b _ e (neF b o u e)⟩
 have al:∀ b,H b≠none->upd H a (.dK (mkD ks' xs')) b≠none:=fun b h=>by
  by_cases e:b=a
  ·rw [e,ai]; simp
  ·rw [ab e]; exact h
 have zal':∀ b,(Z b\/((Fs i b\/G b)/\b≠a/\¬ G' b/\¬ R b))->H b≠none:=fun b h=>by
  rcases h with h | ⟨h | h,_⟩
  ·exact A.gd.zal b h
  ·obtain ⟨_,zs,e⟩:=A.gd.own b ⟨i,h⟩; rw [e]; simp
  ·obtain ⟨_,zs,e⟩:=A.own b h; rw [e]; simp
 have listAt:∀ b,(tot Fs b\/G b)->∃ zs:OO,upd H a (.dK (mkD ks' xs')) b=some zs.ho:=fun b h=>by
  by_cases e:b=a
  ·exact ⟨(.inr (mkD ks' xs')),by rw [e,ai]; rfl⟩
  ·rcases h with h | h
   ·obtain ⟨_,zs,q⟩:=A.gd.own b h; exact ⟨zs,by rw [ab e]; exact q⟩
   ·obtain ⟨_,zs,q⟩:=A.own b h; exact ⟨zs,by rw [ab e]; exact q⟩
 have nZ:∀ b,(Fs i b\/G b)->¬ Z b:=fun b h z=>h.elim (fun y=>(A.gd.own b ⟨i,y⟩).1 z) fun y=>(A.own b y).1 z
 have ck:∀ b,tot (iZ Fs i fun b=>G' b\/b=a) b->(∃ j,j≠i/\Fs j b)\/G' b\/b=a:=fun b h=>by
  obtain ⟨j,h | h⟩:=h
  ·exact .inr h.2
  ·exact .inl ⟨j,h⟩
 refine k (fun b=>Z b\/((Fs i b\/G b)/\b≠a/\¬ G' b/\¬ R b)) (iZ Fs i fun b=>G' b\/b=a) ⟨⟨fun b h=>⟨fun z=>?_,?_⟩,fun j l b hj hk=>?_,fun b h=>al b (zal' b h)⟩,fun l m t e=>?_,fun b h=>⟨fun z=>?_,listAt b ((hR b h).1.imp (fun z=>⟨i,z⟩) id)⟩,fun b h q=>?_,A.lk,A.ln⟩ ⟨fun b o e n=>keep b o e fun z=>n (.inl (z ▸ hta)),fun b h=>.inl h,fun b h=>h.imp id fun q=>.inl (q.1.imp (fun z=>⟨i,z⟩) id),fun b h=>?_,al,fun _ b h=>al b (zal' b h)⟩ fun {m t v} r=>r.keep (stay zdef) (fun _ z=>z) fun b o hb e=>keep b o e (hR b hb).2
 ·rcases ck b h with ⟨j,hj,q⟩ | q | q
  ·rcases z with z | ⟨z | z,_⟩
   ·exact (A.gd.own b ⟨j,q⟩).1 z
   ·exact hj (A.gd.dis j i b q z)
   ·exact A.dis b z ⟨j,q⟩
  ·rcases z with z | z
   ·exact nZ b (hg b q).1 z
   ·exact z.2.2.1 q
  ·exact zdef b z q
 ·rcases ck b h with ⟨j,hj,q⟩ | q | q
  ·exact listAt b (.inl ⟨j,q⟩)
  ·exact listAt b ((hg b q).1.imp (fun z=>⟨i,z⟩) id)
  ·exact ⟨(.inr (mkD ks' xs')),by rw [q,ai]; rfl⟩
 ·have key:∀ {j:Nat},(G' b\/b=a)->Fs j b->j=i:=fun {j} h q=>by
   rcases h with h | h
   ·rcases (hg b h).1 with y | y
    ·exact A.gd.dis j i b q y
    ·exact absurd ⟨j,q⟩ (A.dis b y)
   ·rw [h] at q; exact A.gd.dis j i a q ha
  rcases hj with ⟨rfl,hj⟩ | ⟨nj,hj⟩
  ·rcases hk with ⟨rfl,_⟩ | ⟨nk,hk⟩
   ·rfl
   ·exact absurd (key hj hk) nk
  ·rcases hk with ⟨rfl,hk⟩ | ⟨nk,hk⟩
   ·exact absurd (key hk hj) nj
   ·exact A.gd.dis j l b hj hk
 ·rw [a7] at e
  split at e
  ·rename_i hc
   obtain ⟨rfl,_⟩:=hc
   cases e
   refine ⟨.ref a,⟨a,xs',rfl,hl,uG hm ⟨.inl ⟨rfl,.inr rfl⟩,ai⟩,hnd,hvl,?_⟩,hx,hpv⟩
   exact p.keep (stay zdef) (fun _ z=>z) fun b o hb e=>hb.elim
  ·rename_i hc
   have hl':l≠i:=fun z=>hc ⟨z,cH hi⟩
   obtain ⟨v,r,h⟩:=A.env l m t e
   have nea:∀ b,Fs l b->b≠a:=fun b q z=>hl' (A.gd.dis l i a (z ▸ q) ha)
   exact ⟨v,((r.keep (stay fun b hb z=>nza (z ▸ hb)) (fun _ z=>z) fun b o hb e=>keep b o e (nea b hb)).zmono fun b h=>.inl h).mono fun b h=>.inr ⟨hl',h⟩,h⟩
 ·rcases z with z | z
  ·exact nZ b (hR b h).1 z
  ·exact z.2.2.2 h
 ·rcases ck b q with ⟨j,hj,y⟩ | y | y
  ·rcases (hR b h).1 with z | z
   ·exact hj (A.gd.dis j i b y z)
   ·exact A.dis b z ⟨j,y⟩
  ·exact hRG b h y
  ·exact (hR b h).2 y
 ·rcases h with h | h
  ·rcases ck b h with ⟨j,_,q⟩ | q | q
   ·exact .inl (.inl ⟨j,q⟩)
   ·exact .inl ((hg b q).1.imp (fun z=>⟨i,z⟩) id)
   ·exact .inl (.inl (q ▸ hta))
  ·exact .inl ((hR b h).1.imp (fun z=>⟨i,z⟩) id)
theorem vp {m:Md}{ks:List (Int ⊕ Str)}{vs:List T}{v:V}(hm:m≠.s)(r:Rep K Z H m (.dct ks vs) v G):∃ a xs,v=.ref a/\ks.length<=LIM/\G a/\H a=some (.dK (mkD ks xs))/\(ks.Nodup/\∀ k∈ks,kOk k=true)/\vs.length=ks.length/\RepL K Z H (dmd m) vs xs (fun _=>False):=by
 obtain ⟨a,xs,e,l,q,n,hl,p⟩:=r
 cases m with
 | s=>exact absurd rfl hm
 | d=>exact ⟨a,xs,e,l,q.1,q.2,n,hl,p⟩
 | o m=>exact ⟨a,xs,e,l,q.1,q.2,n,hl,p⟩
noncomputable def kT:Int ⊕ Str->T
 | .inl n=>.int n
 | .inr x=>.str x
theorem jG {k:T}{q:Int ⊕ Str}(h:keyT k=some q):k=kT q:=by
 cases k with
 | int n=>cases h; rfl
 | str x=>cases h; rfl
 | _=>cases h
theorem oH {m:Md}{q:Int ⊕ Str}{v:V}(r:Rep K Z H m (kT q) v G):v=kV q/\kOk q=true:=by
 cases q with
 | inl n=>exact ⟨r,rfl⟩
 | inr x=>exact ⟨r.1,r.2⟩
noncomputable def kq (k:Int ⊕ Str)(y:V):List (Int ⊕ Str)->List V->List V
 | [],_=>[y]
 | z::zs,x::xs=>if z=k then y::xs else x::kq k y zs xs
 | _::_,[]=>[]
theorem jU (k:Int ⊕ Str)(t:T):∀ (ks:List (Int ⊕ Str)) (vs:List T),vs.length=ks.length->(aI k t ks vs).2.length=(aI k t ks vs).1.length/\(aI k t ks vs).1.length<=ks.length+1
 | [],[],_=>⟨rfl,a0m _⟩
 | [],_::_,e=>by cases e
 | _::_,[],e=>by cases e
 | z::zs,v::vs,e=>by
  unfold aI
  split
  ·exact ⟨e,a2l _⟩
  ·obtain ⟨a,b⟩:=jU k t zs vs (a1d e)
   exact ⟨by rw [a0g,a0g,a],by rw [a0g,a0g]; omega⟩
theorem f9 (k:Int ⊕ Str)(t:T):∀ (ks:List (Int ⊕ Str)) (vs:List T),vs.length=ks.length->∀ z,z∈(aI k t ks vs).1 ↔ z=k\/z∈ks
 | [],[],_,z=>by simp [aI]
 | [],_::_,e,_=>by cases e
 | _::_,[],e,_=>by cases e
 | y::ys,v::vs,e,z=>by
  unfold aI
  split
  ·rename_i hy
   subst hy
   simp
  ·have:=f9 k t ys vs (a1d e) z
   rw [a0r,this,a0r]
   constructor
   ·rintro (h | h | h)
    ·exact .inr (.inl h)
    ·exact .inl h
    ·exact .inr (.inr h)
   ·rintro (h | h | h)
    ·exact .inr (.inl h)
    ·exact .inl h
    ·exact .inr (.inr h)
theorem fB (k:Int ⊕ Str)(t:T):∀ (ks:List (Int ⊕ Str)) (vs:List T),vs.length=ks.length->ks.Nodup->(aI k t ks vs).1.Nodup
 | [],[],_,_=>by simp [aI]
 | [],_::_,e,_=>by cases e
 | _::_,[],e,_=>by cases e
 | y::ys,v::vs,e,h=>by
  unfold aI
  split
  ·exact h
  ·rename_i hy
   obtain ⟨h1,h2⟩:=a0Y.mp h
   refine a0Y.mpr ⟨fun q=>?_,fB k t ys vs (a1d e) h2⟩
   rcases (f9 k t ys vs (a1d e) y).mp q with q | q
   ·exact hy q
   ·exact h1 q
theorem my (k:Int ⊕ Str)(t:T)(y:V):∀ (ks:List (Int ⊕ Str)) (vs:List T) (xs:List V),vs.length=ks.length->xs.length=ks.length->ks.Nodup->dg (mkD ks xs) k y=mkD (aI k t ks vs).1 (kq k y ks xs)
 | [],[],[],_,_,_=>rfl
 | [],[],_::_,_,e,_=>by cases e
 | [],_::_,_,e,_,_=>by cases e
 | _::_,[],_,e,_,_=>by cases e
 | _::_,_::_,[],_,e,_=>by cases e
 | z::zs,v::vs,x::xs,e1,e2,nd=>by
  obtain ⟨n1,n2⟩:=a0Y.mp nd
  have ih:=my k t y zs vs xs (a1d e1) (a1d e2) n2
  unfold aI kq
  by_cases hz:z=k
  ·rw [if_pos hz,if_pos hz]
   subst hz
   have hno:∀ p∈mkD zs xs,p.1≠z:=fun p hp q=>by
    obtain ⟨a,b⟩:=p
    have:=(a1k hp).1
    have q':a=z:=q
    rw [q'] at this
    exact n1 this
   show dg ((z,x)::mkD zs xs) z y=(z,y)::mkD zs xs
   unfold dg
   rw [if_pos (by simp)]
   rw [a0w,if_pos rfl]
   congr 1
   conv=>rhs; rw [<- List.map_id (mkD zs xs)]
   refine a0W fun p hp=>?_
   rw [if_neg (hno p hp)]
   rfl
  ·rw [if_neg hz,if_neg hz]
   show dg ((z,x)::mkD zs xs) k y=(z,x)::mkD (aI k t zs vs).1 (kq k y zs xs)
   rw [<- ih]
   have hne:¬ (z=k):=hz
   unfold dg
   rw [a1o,decide_eq_false hne,a3x]
   split
   ·rw [a0w,if_neg hne]
   ·rfl
end
end MR
namespace MR
open PySem PySem.Spec PyProof.Rows L2 L3
end MR

namespace L3
open PySem PySem.Spec PyProof.Rows L2
end L3

namespace L3
open PySem PySem.Spec PyProof.Rows L2
end L3
namespace MR
open PySem PySem.Spec PyProof.Rows L2 L3
end MR

namespace L3
open PySem PySem.Spec PySem.NumText PyProof.Rows L2
theorem jE {X:Cx}(hg:X.A.guards=some [])(hu:X.A.units+200 < cLine):bI X (.builtin "repr") (fun xs H Q=>∃ x t,xs=[x]/\Has X.K H t x/\(toD t).showable=true/\(toD t).hasDict=false/\(toD t).depth<=64/\(toD t).shown.length<=sizeLine/\Q (.str (toD t).shown) H):=by
 intro pins s σ H xs us Q I r h
 obtain ⟨x,t,rfl,ht,hs,hd,hp,hl,q⟩:=h
 obtain ⟨u,rfl,ru⟩:=cf r
 obtain ⟨as,ra⟩:=Has.reads I ht ru
 have key:∀ a,u=.ref a->wpAny (model X.prog X.w) X.A (call (.builtin "repr") [u]) (EP X pins σ Q) X.xe s:=fun a e=>by
  subst e
  exact repr_of_reads' ra hs (PyData.noDict_hsm hd) hg (by omega) (fun _ _ e=>e) (fun h' u tk hk=>⟨.str _,H,I.kept hk,⟨_,rfl⟩,q⟩) hl
 cases t with
 | non =>
  obtain rfl:x=V.non:=ht
  obtain rfl:u=Value.none:=ru
  exact PySem.P.repr_of_none ⟨.str _,H,I.tok _,⟨_,rfl⟩,q⟩
 | bl b =>
  obtain rfl:x=V.bl b:=ht
  obtain rfl:u=Value.bool b:=ru
  exact PySem.P.repr_of_bool ⟨.str _,H,I.tok _,⟨_,by cases b<;>rfl⟩,q⟩
 | int i =>
  obtain rfl:x=V.int i:=ht
  obtain ⟨t,rfl⟩:∃ t,u=Value.int i t:=ru
  exact PySem.P.repr_of_int (of_decide_eq_true hs) ⟨.str _,H,I.tok _,⟨_,rfl⟩,q⟩
 | str z =>
  obtain rfl:x=V.str z:=ht
  obtain ⟨t,rfl⟩:∃ t,u=Value.str z t:=ru
  exact PySem.P.repr_of_str ⟨.str _,H,I.tok _,⟨_,rfl⟩,q⟩ hl
 | tup ts =>
  obtain ⟨a,vs,rfl,_,_⟩:=ht
  exact key a ru
 | lst ts =>
  obtain ⟨a,vs,rfl,_,_⟩:=ht
  exact key a ru
end L3
namespace MR
open PySem PySem.Spec PyProof.Rows L2 L3
mutual
theorem iH:∀ t:M.T,toD (th t)=M.datT t
 | .non=>rfl
 | .bl _=>rfl
 | .int _=>rfl
 | .str _=>rfl
 | .tup ts=>congrArg PyData.tuple (i3 ts)
 | .lst ts=>congrArg PyData.list (i3 ts)
 | .dct _ _=>rfl
 | .ins _ _ _=>rfl
 | .scr _=>rfl
 | .gone=>rfl
theorem i3:∀ ts:List M.T,d0 (ths ts)=M.datTs ts
 | []=>rfl
 | t::ts=>by
  show toD (th t)::d0 (ths ts)=M.datT t::M.datTs ts
  rw [iH t,i3 ts]
end
noncomputable def dF (ss:List Str):Nat:=(ss.map fun s=>s.cps.size+2).sum
theorem dq (p q:Str):(p++q).cps.size=p.cps.size+q.cps.size:=a2Z ..
theorem su:∀ (ss:List Str) (k:Nat) (acc:Str),M.sOk acc=true->(∀ s∈ss,M.sOk s=true)->acc.cps.size+dF ss<=M.LIM->M.sOk (textFrom k acc ss)=true/\(textFrom k acc ss).cps.size<=acc.cps.size+dF ss
 | [],_,acc,h,_,hl=>⟨h,by show acc.cps.size<=_; omega⟩
 | s::ss,k,acc,h,hs,hl=>by
  have hp:dF (s::ss)=s.cps.size+2+dF ss:=by unfold dF; rw [a0w,a2n]
  have h1:=hs s a0e
  have key:∀ z:Str,M.sOk z=true->z.cps.size<=2->M.sOk (textFrom (k+1) (acc++z++s) ss)=true/\(textFrom (k+1) (acc++z++s) ss).cps.size<=acc.cps.size+dF (s::ss):=fun z hz hz2=>by
   have e1:(acc++z).cps.size=acc.cps.size+z.cps.size:=dq _ _
   have e2:(acc++z++s).cps.size=acc.cps.size+z.cps.size+s.cps.size:=by rw [dq,e1]
   obtain ⟨a,b⟩:=su ss (k+1) (acc++z++s) (bW (bW h hz (by omega)) h1 (by omega)) (fun x hx=>hs x (a0d _ hx)) (by omega)
   exact ⟨a,by omega⟩
  show M.sOk (textFrom (k+1) (acc++(if k > 0 then ", " else "":String)++s) ss)=true/\(textFrom (k+1) (acc++(if k > 0 then ", " else "":String)++s) ss).cps.size<=_
  split
  ·exact key (Str.ofString ", ") (a0 _ (by decide)) (by decide)
  ·exact key (Str.ofString "") (a0 _ (by decide)) (by decide)
theorem mG:∀ (ss:List Str),(∀ s∈ss,M.sOk s=true)->dF ss<=M.LIM->M.sOk (Str.join ", " ss)=true/\(Str.join ", " ss).cps.size<=dF ss
 | [],_,_=>⟨a0 "" (by decide),a0M _⟩
 | [s],hs,hl=>⟨hs s a0e,by show s.cps.size<=(s.cps.size+2)+0; omega⟩
 | s::u::ss,hs,hl=>by
  have hp:dF (s::u::ss)=s.cps.size+2+dF (u::ss):=by unfold dF; rw [a0w,a2n]
  obtain ⟨a,b⟩:=mG (u::ss) (fun x hx=>hs x (a0d _ hx)) (by omega)
  have e0:Str.join ", " (s::u::ss)=s++Str.ofString ", "++Str.join ", " (u::ss):=rfl
  have z2:(Str.ofString ", ").cps.size=2:=by decide
  have e1:(s++Str.ofString ", ").cps.size=s.cps.size+2:=by rw [dq,z2]
  rw [e0]
  refine ⟨bW (bW (hs s a0e) (a0 _ (by decide)) (by omega)) a (by omega),?_⟩
  rw [dq,e1]; omega
mutual
theorem cY:∀ t:M.T,M.rOk t=true->M.szR t<=M.LIM->(M.datT t).showable=true/\M.sOk (M.datT t).shown=true/\(M.datT t).shown.cps.size<=M.szR t
 | .non,_,_=>⟨rfl,a0 _ (by decide),by decide⟩
 | .bl b,_,_=>⟨rfl,by cases b<;>exact a0 _ (by decide),by cases b<;>decide⟩
 | .int i,h,_=>by
  have hb:i.natAbs < 10000000000000000000:=of_decide_eq_true h
  have hl:=qu hb
  have h2:=int_text_length_le10 (a:=i) (k:=19) (by decide) hb
  exact ⟨decide_eq_true (zL hb),a0 _ (by omega),a0y hl (show 20<=100 by decide)⟩
 | .str x,h,_=>by
  have h:(decide ((a2a x).length<=100)&&M.sOk (a2a x))=true:=h
  rw [a0j] at h
  exact ⟨rfl,h.2,of_decide_eq_true h.1⟩
 | .tup ts,h,hl=>by
  have hl':M.szRs ts+4<=M.LIM:=hl
  obtain ⟨a,b,c⟩:=er ts h (by omega)
  obtain ⟨d,e⟩:=mG _ b (by omega)
  refine ⟨a,?_⟩
  show M.sOk (("(":Str)++Str.join ", " (PyData.shownAll (M.datTs ts))++(if (PyData.shownAll (M.datTs ts)).length==1 then ",)" else ")":String))=true/\(("(":Str)++Str.join ", " (PyData.shownAll (M.datTs ts))++(if (PyData.shownAll (M.datTs ts)).length==1 then ",)" else ")":String)).cps.size<=M.szRs ts+4
  have z1:(Str.ofString "(").cps.size=1:=by decide
  have e1:(Str.ofString "("++Str.join ", " (PyData.shownAll (M.datTs ts))).cps.size=1+(Str.join ", " (PyData.shownAll (M.datTs ts))).cps.size:=by rw [dq,z1]
  have key:∀ z:Str,M.sOk z=true->z.cps.size<=2->M.sOk (Str.ofString "("++Str.join ", " (PyData.shownAll (M.datTs ts))++z)=true/\(Str.ofString "("++Str.join ", " (PyData.shownAll (M.datTs ts))++z).cps.size<=M.szRs ts+4:=fun z hz hz2 =>
   ⟨bW (bW (a0 _ (by decide)) d (by omega)) hz (by omega),by rw [dq,e1]; omega⟩
  split
  ·exact key (Str.ofString ",)") (a0 _ (by decide)) (by decide)
  ·exact key (Str.ofString ")") (a0 _ (by decide)) (by decide)
 | .lst ts,h,hl=>by
  have hl':M.szRs ts+4<=M.LIM:=hl
  obtain ⟨a,b,c⟩:=er ts h (by omega)
  have z1:(Str.ofString "[").cps.size=1:=by decide
  have z2:(Str.ofString "]").cps.size=1:=by decide
  obtain ⟨d,e⟩:=su _ 0 (Str.ofString "[") (a0 _ (by decide)) b (by omega)
  refine ⟨a,?_⟩
  show M.sOk (textFrom 0 (Str.ofString "[") (PyData.shownAll (M.datTs ts))++Str.ofString "]")=true/\(textFrom 0 (Str.ofString "[") (PyData.shownAll (M.datTs ts))++Str.ofString "]").cps.size<=M.szRs ts+4
  exact ⟨bW d (a0 _ (by decide)) (by omega),by rw [dq]; omega⟩
 | .dct _ _,h,_=>by cases h
 | .ins _ _ _,h,_=>by cases h
 | .scr _,h,_=>by cases h
 | .gone,h,_=>by cases h
theorem er:∀ ts:List M.T,M.rOks ts=true->M.szRs ts<=M.LIM->PyData.showableAll (M.datTs ts)=true/\(∀ s∈PyData.shownAll (M.datTs ts),M.sOk s=true)/\dF (PyData.shownAll (M.datTs ts))<=M.szRs ts
 | [],_,_=>⟨rfl,(fun _ h=>nomatch h),a0m _⟩
 | t::ts,h,hl=>by
  have hl':M.szR t+2+M.szRs ts<=M.LIM:=hl
  have h':(M.rOk t&&M.rOks ts)=true:=h
  rw [a0j] at h'
  obtain ⟨a,b,c⟩:=cY t h'.1 (by omega)
  obtain ⟨d,e,f⟩:=er ts h'.2 (by omega)
  refine ⟨?_,fun s hs=>?_,?_⟩
  ·show ((M.datT t).showable&&PyData.showableAll (M.datTs ts))=true
   rw [a,d]; rfl
  ·have hs:s∈(M.datT t).shown::PyData.shownAll (M.datTs ts):=hs
   rcases a0r.mp hs with rfl | hs
   ·exact b
   ·exact e s hs
  ·show dF ((M.datT t).shown::PyData.shownAll (M.datTs ts))<=M.szR t+2+M.szRs ts
   unfold dF at f ⊢
   rw [a0w,a2n]; omega
end
section
variable {X:Cx}{sf sg:Nat->Option Nat}{C:M.Call}{pos p p2 p3:Pos}{ea eb ec:Expr}{a b c:M.E}{h:Bool}{n:Nat}{io:List Nat}{K:a0a}
theorem qo:Loc K 1 .repr h fun xs H Q=>∃ x t,xs=[x]/\Has K H t x/\(toD t).showable=true/\(toD t).hasDict=false/\(toD t).depth<=64/\(toD t).shown.length<=sizeLine/\Q (.str (toD t).shown) H:=by
 intro ws w xs Z H G Q hn e r ow za k
 match ws,hn with
 | [(m,a)],_ =>
  obtain ⟨x,rfl,r1⟩:=bh rfl r
  have e2:(if (decide (M.dp a<=64)&&M.rOk a&&M.fits (M.szR a))=true then some ((.d,.str (M.datT a).shown):M.W) else none)=some w:=e
  split at e2
  ·rename_i hb
   cases e2
   rw [a0j,a0j,decide_eq_true_eq] at hb
   obtain ⟨⟨h1,h2⟩,h3⟩:=hb
   have h3:M.szR a<=M.LIM:=of_decide_eq_true h3
   obtain ⟨o1,o2,o3⟩:=iI (n:=64) h1 (a0m _) r1
   obtain ⟨s1,s2,s3⟩:=cY a h2 h3
   refine ⟨x,th a,rfl,o1,?_,PyData.hasDict_of_canLay _ o2,o3,?_,?_⟩
   ·rw [iH]; exact s1
   ·rw [iH]; exact bo (a0y s3 h3)
   ·rw [iH]; exact hW k s2
  ·cases e2
theorem xA (hr:Room n X.A)(hm:X.mg "repr"=none)(hg:Gl X "repr":=by rfl)(ha:SE X sf C ea a)(hs:starEach [ea] X.env=(false,eval ea X.env)::starEach [] X.env:=by rfl)(hpl:(backTo pos (starEach [] X.env)).any (·.1)=false:=by rfl):SE X sf C (.Call (.Name "repr" p) [ea] [] pos) (.op .repr h [a]) :=
 aj (ba (jE hr.gu (by have:=hr.un; omega)) hg hm (by rfl) (slc ha sl0 hs) (by decide) (by decide) hs hpl) (cQ qo rfl)
end
end MR

namespace MR
open PySem PySem.Spec PyProof.Rows L2 L3
end MR

namespace L3
open PySem PySem.Spec PyProof.Rows L2
end L3
namespace MR
open L2 L3 M
open PySem (Addr Str sizeLine)
section
variable {K:a0a}{sl:Cf}{sf sg:Nat->Option Nat}{C:Call}{σ σ2:L2.St}{Z Z' Z1:Fp}{H H' H1:Hp}{Fs Fs' Fs1:Fps}{η η' η1 ηb:Env}{G G' G1 R F F':Fp}{tg is vs ls io:List Nat}{pv val:Nat->Option V}{D:bw}
theorem nP {u kw w r:W}(h:ed u kw w=some r):∃ m ks vs n k,u=(m,.dct ks vs)/\kw=(n,kT k)/\m≠.s/\ks.length < LIM/\r=(.o .s,.dct (aI k w.2 ks vs).1 (aI k w.2 ks vs).2):=by
 obtain ⟨m,t⟩:=u
 obtain ⟨n,k⟩:=kw
 obtain ⟨n2,x⟩:=w
 have key:∀ ks vs,((keyT k).bind fun q=>if (decide (ks.length < LIM))=true then some ((.o .s,.dct (aI q x ks vs).1 (aI q x ks vs).2):W) else none)=some r->∃ k',(n,k)=(n,kT k')/\ks.length < LIM/\r=(.o .s,.dct (aI k' x ks vs).1 (aI k' x ks vs).2):=fun ks vs h=>by
  cases e:keyT k with
  | none=>rw [e] at h; cases h
  | some q =>
   rw [e] at h
   have h':(if (decide (ks.length < LIM))=true then some ((.o .s,.dct (aI q x ks vs).1 (aI q x ks vs).2):W) else none)=some r:=h
   split at h'
   ·rename_i hc
    cases h'
    exact ⟨q,by rw [jG e],of_decide_eq_true hc,rfl⟩
   ·cases h'
 cases t with
 | dct ks vs =>
  cases m with
  | s=>cases h
  | d =>
   obtain ⟨k',a,b,d⟩:=key ks vs h
   exact ⟨.d,ks,vs,n,k',rfl,a,by simp,b,d⟩
  | o m =>
   obtain ⟨k',a,b,d⟩:=key ks vs h
   exact ⟨.o m,ks,vs,n,k',rfl,a,by simp,b,d⟩
 | _=>cases m<;>cases h
theorem gG {k:Int ⊕ Str}{t:T}{y:V}(ry:Rep K Z H .s t y no):∀ (ks:List (Int ⊕ Str)) (vs:List T) (xs:List V),vs.length=ks.length->RepL K Z H .s vs xs (fun _=>False)->RepL K Z H .s (aI k t ks vs).2 (kq k y ks xs) (fun _=>False)
 | [],[],xs,_,r=>by
  cases r
  exact ⟨y,[],fun _=>False,fun _=>False,rfl,fun _ z=>z,fun _ z=>z,fun _ z=>z.elim,ry,rfl⟩
 | [],_::_,_,e,_=>by cases e
 | _::_,[],_,e,_=>by cases e
 | z::zs,v::vs,xs,e,⟨x,r',G1,G2,ex,h1,h2,hd,p,q⟩=>by
  subst ex
  unfold aI kq
  by_cases hz:z=k
  ·rw [if_pos hz,if_pos hz]
   exact ⟨y,r',fun _=>False,G2,rfl,fun _ z=>z,h2,fun _ z=>z.elim,ry,q⟩
  ·rw [if_neg hz,if_neg hz]
   exact ⟨x,kq k y zs r',G1,fun _=>False,rfl,h1,fun _ z=>z,fun a _ z=>z,p,gG ry zs vs r' (a1d e) (q.mono h2)⟩
theorem um {x:M.X}{i j:Nat}{k e:E}(hs:sf i=some j)(D:bw)(σ:L2.St)(H:Hp)(h:wS K sf io C (.setS x i k e) D σ H) :
  wE K sf C e σ H fun y H1=>iN j σ H1 fun o H1=>wE K sf C k σ H1 fun z H2=>∃ a kvs q,o=.ref a/\z=kV q/\H2 a=some (.dK kvs)/\kvs.length < sizeLine/\D.nx σ (upd H2 a (.dK (dg kvs q y))):=by
 obtain ⟨pv,Z,Fs,η,N,A,f⟩:=h
 obtain ⟨⟨w,η1⟩,h2,h3⟩:=bA (show Fin K ⟨sf,pv⟩ Z H (tot Fs) D (Fl.of η (evX C x e η) (mf i (evX C x k) η)) from f)
 obtain ⟨⟨kw,η2⟩,h6,h7⟩:=bA (show Fin K ⟨sf,pv⟩ Z H (tot Fs) D (Fl.of η (evX C x k η1) (kI i w)) from h3)
 obtain ⟨η3,h4,h5⟩:=dM (show Fin K ⟨sf,pv⟩ Z H (tot Fs) D (nxO η2 (((rd η2 i).bind fun u=>ed u kw w).map fun u=>M.put η2 i u)) from h7)
 refine j5 (sl:=⟨sf,pv⟩) A h2 fun y Z' H' Fs' G B r s=>?_
 cases e1:rd η2 i with
 | none=>rw [e1] at h4; cases h4
 | some u1 =>
  rw [e1] at h4
  cases e2:ed u1 kw w with
  | none=>rw [show (some u1).bind (fun u=>ed u kw w)=ed u1 kw w from rfl,e2] at h4; cases h4
  | some r1 =>
   rw [show (some u1).bind (fun u=>ed u kw w)=ed u1 kw w from rfl,e2] at h4
   cases h4
   obtain ⟨m,ks,vs,n,kk,rfl,rfl,hm,hlen,rfl⟩:=nP e2
   have n1:rd η1 i≠none:=fun z=>by rw [qR h6 i z] at e1; cases e1
   cases e3:rd η1 i with
   | none=>exact absurd e3 n1
   | some u3 =>
    obtain ⟨v3,r3,l3,p3⟩:=B.env i u3.1 u3.2 e3
    refine ⟨v3,l3 j hs,j5 (sl:=⟨sf,pv⟩) B.bare h6 fun z Z2 H2 Fs2 G2 B2 rz s2=>?_⟩
    obtain ⟨B3,s3,d3⟩:=B.frame B2 s2
    have r':=r.frame B.gd.own s2 B.dis
    have B4:=B3.mono (G':=G) fun _ z=>.inl z
    obtain ⟨v4,r4,l4,p4⟩:=B4.env i m _ e1
    have hv:v3=v4:=by have e5:=l3 j hs; have e6:=l4 j hs; rw [e5] at e6; cases e6; rfl
    subst hv
    obtain ⟨a,xs,rfl,hl,hf,hx,hnk,hvl,p⟩:=vp hm r4
    have hxl:xs.length=ks.length:=by rw [p.length,hvl]
    obtain ⟨q1,q2⟩:=jU kk w.2 ks vs hvl
    have rz':z=kV kk/\kOk kk=true:=oH rz
    have nGa:¬ G a:=fun q=>B4.dis a q ⟨i,hf⟩
    have pS:RepL K (fun b=>Z2 b\/((Fs2 i b\/G b)/\b≠a/\¬ no b/\¬ no b)) H2 .s vs xs (fun _=>False):=by
     have:=RepL.sh p
     exact (this.zmono fun b h=>h.elim .inl fun z=>z.elim).mono fun _ z=>z
    have rS:Rep K (fun b=>Z2 b\/((Fs2 i b\/G b)/\b≠a/\¬ no b/\¬ no b)) H2 .s w.2 y no:=(Rep.sh r').zmono fun b h=>h.imp id fun q=>⟨.inr q,fun e=>nGa (e ▸ q),fun z=>z,fun z=>z⟩
    refine ⟨a,mkD ks xs,kk,rfl,rz'.1,hx,?_,?_⟩
    ·show (ks.zip xs).length < _
     rw [List.length_zip,hxl,Nat.min_self]
     exact a0p hlen (bo (a0m _))
    ·rw [my kk w.2 y ks vs xs hvl hxl hnk.1]
     exact uA (K:=K) (m':=.o .s) (G':=no) (R:=no) (by simp) B4 e1 hf (fun k hk=>by rw [show sf i=some k from hk] at hs; cases hs; exact l3 _ hk) (by omega) ⟨fB kk w.2 ks vs hvl hnk.1,fun z hz=>((f9 kk w.2 ks vs hvl z).mp hz).elim (fun e=>e ▸ rz'.2) (hnk.2 z)⟩ q1 p4 (fun _ z=>z.elim) (fun _ z=>z.elim) (fun _ z=>z.elim) (gG rS ks vs xs hvl pS) fun Z5 Fs5 B5 s5 _=>h5 σ Z5 _ Fs5 B5 ((s.trans (s3.mono (fun _ z=>z) fun b h=>h.imp id .inl)).trans (s5.mono (fun _ z=>z) fun _ z=>.inl z))
theorem fZ {m m':Md}{t:T}{v:V}{G G' Z':Fp}(hl:t.leaf=true)(r:Rep K Z H m t v G):Rep K Z' H m' t v G':=r.leaf (fun _ _ _ e=>e) hl
theorem nU {u w:W}{r:W×W}(h:gB u w=some r):∃ m ts n j t,u=(m,.lst ts)/\m≠.s/\w=(n,.int (j:Nat))/\j < 1000/\leaves ts=true/\ts[j]?=some t/\r=((.d,t),(m,.lst (ts.eraseIdx j))):=by
 obtain ⟨m,t⟩:=u
 obtain ⟨n,x⟩:=w
 have key:∀ ts (i:Int),(if (decide (0<=i)&&decide (i < 1000)&&leaves ts)=true then (ts[i.toNat]?).map (fun t=>(((.d,t),(m,.lst (ts.eraseIdx i.toNat))):W×W)) else none)=some r->∃ (j:Nat) (t:T),i=(j:Int)/\j < 1000/\leaves ts=true/\ts[j]?=some t/\r=((.d,t),(m,.lst (ts.eraseIdx j))):=fun ts i h=>by
  split at h
  ·rename_i hc
   rw [a0j,a0j,decide_eq_true_eq,decide_eq_true_eq] at hc
   cases e:ts[i.toNat]? with
   | none=>rw [e] at h; cases h
   | some t =>
    rw [e] at h
    cases h
    exact ⟨i.toNat,t,by omega,by omega,hc.2,e,rfl⟩
  ·cases h
 cases t with
 | lst ts =>
  cases x with
  | int i =>
   cases m with
   | s=>cases h
   | d =>
    obtain ⟨j,t,rfl,a,b,c,d⟩:=key ts i h
    exact ⟨.d,ts,n,j,t,rfl,by simp,rfl,a,b,c,d⟩
   | o m =>
    obtain ⟨j,t,rfl,a,b,c,d⟩:=key ts i h
    exact ⟨.o m,ts,n,j,t,rfl,by simp,rfl,a,b,c,d⟩
  | _=>cases m<;>cases h
 | _=>cases m<;>cases h
theorem eK {m m':Md}{Z':Fp}:∀ {ts:List T} {xs:List V} {G G':Fp} (j:Nat),leaves ts=true->RepL K Z H m ts xs G->RepL K Z' H m' (ts.eraseIdx j) (xs.eraseIdx j) G'
 | [],_,_,_,j,_,h=>by rw [show _=[] from h]; rfl
 | t::ts,_,G,G',0,hl,⟨x,r,G1,G2,e,_,_,_,p,q⟩=>by
  subst e
  have hl':(t.leaf&&leaves ts)=true:=hl
  rw [a0j] at hl'
  exact RepL.leaves (fun _ _ _ e=>e) hl'.2 q
 | t::ts,_,G,G',j+1,hl,⟨x,r,G1,G2,e,_,_,_,p,q⟩=>by
  subst e
  have hl':(t.leaf&&leaves ts)=true:=hl
  rw [a0j] at hl'
  exact ⟨x,r.eraseIdx j,fun _=>False,G',rfl,fun _ z=>z.elim,fun _ z=>z,fun _ z=>z.elim,fZ hl'.1 p,eK (G':=G') j hl'.2 q⟩
theorem wY {i j:Nat}{e:E}(hs:sf i=some j)(σ:L2.St)(H:Hp)(Q:VK)(h:wE K sf C (.popN i e) σ H Q) :
  ∃ a xs,σ[j]?=some (some (.ref a))/\H a=some (.lst xs)/\wE K sf C e σ H fun z H1=>∃ xs n y,z=.int ((n:Nat):Int)/\n < 1000/\H1 a=some (.lst xs)/\xs[n]?=some y/\Q y (upd H1 a (.lst (xs.eraseIdx n))):=by
 obtain ⟨pv,Z,Fs,η,w,η',A,ev,k⟩:=h
 obtain ⟨_,h0,h1⟩:=aa (show (dA (rd η i)).bind (fK (evE C e) η (fN i))=_ from ev)
 obtain ⟨m0,t0,h00⟩:=j2 h0
 obtain ⟨a,xs0,hj,ha⟩:=A.listAt hs h00
 obtain ⟨⟨u,η1⟩,h2,h3⟩:=aa (show (evE C e η).bind (fN i)=_ from h1)
 obtain ⟨r,h4,h5⟩:=aa (show (ofO ((rd η1 i).bind fun w=>gB w u)).bind (fun r=>.ok (r.1,M.put η1 i r.2))=_ from h3)
 cases h5
 have h6:=bK h4
 refine ⟨a,xs0,hj,ha,pv,Z,Fs,η,u,η1,A,h2,fun z Z' H' Fs' G B rz s=>?_⟩
 cases e1:rd η1 i with
 | none=>rw [e1] at h6; cases h6
 | some u1 =>
  rw [e1] at h6
  obtain ⟨m,ts,n,q,t,rfl,hm,rfl,hq,hlv,ht,rfl⟩:=nU (show gB u1 u=some r from h6)
  obtain ⟨xs,hl,hf,hx,p,hpv⟩:=B.ourList hs hm hj e1
  obtain ⟨y,hy,ry⟩:=RepL.get p ht
  have htl:t.leaf=true:=a0x.mp hlv t (a0J ht)
  refine ⟨xs,q,y,rz,hq,hx,hy,?_⟩
  have pl:RepL K (fun b=>Z' b\/((Fs' i b\/G b)/\b≠a/\¬ no b)) H' m.kid (ts.eraseIdx q) (xs.eraseIdx q) no:=eK q hlv p
  have hle:(xs.eraseIdx q).length<=LIM:=a0y (List.length_eraseIdx_le ..) hl
  refine change (K:=K) (m':=m) (G':=no) (Q:=fun H''=>Q y H'') hm B e1 hf (fun k hk=>by rw [show sf i=some k from hk] at hs; cases hs; exact hj) hle hpv (fun _ z=>z.elim) (ts':=ts.eraseIdx q) pl fun Z2 Fs2 B2 s2=>?_
  exact k y Z2 _ Fs2 no B2 (by have:=fZ (m':=.d) (G':=no) (Z':=Z2) htl ry; exact this.leaf (fun b o u e=>by rw [ab (fun z=>by rw [z,hx] at e; cases e)]; exact e) htl) ((s.trans s2).mono (fun _ z=>z) fun b h=>h.elim id fun z=>z.elim)
end
end MR
namespace MR
open PySem PySem.Spec PyProof.Rows L2 L3
section
variable {X:Cx}{sf sg:Nat->Option Nat}{C:M.Call}{pos p p2 p3:Pos}{ea eb ec:Expr}{a b c:M.E}{h:Bool}{n:Nat}{io:List Nat}{K:a0a}
theorem Dv (j:Nat)(hr:Room n X.A){i:Nat}{x:Str}{xx:M.X}{px ps:Pos}(ha:SE X sf C ea a)(hb:SE X sf C eb b)(hs:sf i=some j:=by rfl)(hN:X.N[j]?=some x:=by rfl)(hv:Vis X.env.scope x:=by first | exact a0G rfl | exact a0A (a0G rfl) | exact a0A (a0A rfl))(hd:(x==("__debug__":Str))=false:=by decide)(hcd:(x==("__classdict__":Str))=false:=by decide)
  (hsw:swapsWith ea (some (.Subscript (.Name x px) eb ps)) pos.line X.env=pure false:=by rfl) :
  SS X sf io C (.Assign [.Subscript (.Name x px) eb ps] ea pos) (.setS xx i b a) :=
 b7 (uM (xk hr) (bq hN hv hd hcd) hb ha hsw) fun D σ H hw=>by
  obtain ⟨pv,Z,Fs,η,w,η',A,ev,k⟩:=um hs D σ H hw
  refine ⟨pv,Z,Fs,η,w,η',A,ev,fun v Z' H' Fs' G B r s=>?_⟩
  obtain ⟨o,ho,pv2,Z2,Fs2,η2,w2,η3,A2,ev2,k2⟩:=k v Z' H' Fs' G B r s
  refine ⟨o,ho,pv2,Z2,Fs2,η2,w2,η3,A2,ev2,fun z Z3 H3 Fs3 G3 B3 r3 s3=>?_⟩
  obtain ⟨q,kvs,kk,rfl,rfl,g1,g2,g3⟩:=k2 z Z3 H3 Fs3 G3 B3 r3 s3
  exact ⟨q,_,rfl,.inl ⟨kvs,kk,g1,rfl,g2,rfl⟩,g3⟩
theorem BG (j:Nat){i:Nat}{x:Str}{apos cpos px:Pos}(ha:SE X sf C ea a)(hs:sf i=some j:=by rfl)(hN:X.N[j]?=some x:=by rfl)(hv:Vis X.env.scope x:=by first | exact a0G rfl | exact a0A (a0G rfl) | exact a0A (a0A rfl))(hd:(x==("__debug__":Str))=false:=by decide)(hcd:(x==("__classdict__":Str))=false:=by decide)
  (hbase:attributeBase (.Name x px) "pop" X.env (eval (.Name x px) X.env)=eval (.Name x px) X.env:=by rfl)
  (hfew:((backTo cpos (starEach [ea] X.env)).all (fun x=>!x.1)&&(backToKw cpos (keywordEach [] X.env)).all (fun x=>x.1.isSome)&&decide ([ea].length+([]:List Keyword).length+(if ([]:List Keyword).isEmpty then 0 else 1) < 30))=true:=by rfl)
  (hline:(apos.endLine==cpos.line)=true:=by rfl) (hst:starEach [ea] X.env=(false,eval (ea) X.env)::starEach [] X.env:=by rfl) (hplain:(backTo cpos (starEach [] X.env)).any (·.1)=false:=by rfl) :
  SE X sf C (.Call (.Attribute (.Name x px) "pop" apos) [ea] [] cpos) (.popN i a) :=
 aj (rC a1j PySem.F.slot_list_pop PySem.F.type_list_pop qW (bq hN hv hd hcd) (aP ha bQ hst) hbase hfew hline hst hplain) fun σ H Q hw=>by
  obtain ⟨p,xs,hj,hp,pv,Z,Fs,η,w,η',A,ev,k⟩:=wY hs σ H Q hw
  refine ⟨.ref p,hj,.inl ⟨rfl,xs,.inl (.inl hp)⟩,pv,Z,Fs,η,w,η',A,ev,fun v Z' H' Fs' G B r s=>?_⟩
  obtain ⟨ys,n,y,rfl,hn,h1,h2,h3⟩:=k v Z' H' Fs' G B r s
  have hlt:n < ys.length:=(a0v.mp h2).1
  exact ⟨p,ys,(n:Int),n,y,rfl,rfl,h1,by omega,by omega,by unfold seqIndex?; rw [if_neg (by omega:¬ ((n:Int) < 0))]; simp [hlt],h2,h3⟩
theorem jH {Z:Fp}{H:Hp}{G:Fp}{q:Int ⊕ Str}{t:M.T}:∀ {ks:List (Int ⊕ Str)} {vs:List M.T} {xs:List V},RepL K Z H .s vs xs G->M.lookD q ks vs=some t->∃ x,eS (mkD ks xs) q=some x/\Rep K Z H .s t x no
 | [],[],_,_,e=>by cases e
 | [],_::_,_,_,e=>by cases e
 | _::_,[],_,_,e=>by cases e
 | k::ks,v::vs,xs,⟨x,r,G1,G2,e0,_,h2,_,p,r2⟩,e=>by
  subst e0
  have e':(if k=q then some v else M.lookD q ks vs)=some t:=e
  by_cases hk:k=q
  ·rw [if_pos hk] at e'
   cases e'
   refine ⟨x,?_,p.sany⟩
   show (((k,x)::mkD ks r).find? fun kv=>decide (kv.1=q)).map (·.2)=some x
   rw [List.find?_cons_of_pos (by simpa using hk)]
   rfl
  ·rw [if_neg hk] at e'
   obtain ⟨y,hy,ry⟩:=jH r2 e'
   refine ⟨y,?_,ry⟩
   show (((k,x)::mkD ks r).find? fun kv=>decide (kv.1=q)).map (·.2)=some y
   rw [List.find?_cons_of_neg (by simpa using hk)]
   exact hy
theorem vZ:Loc K 2 .ixD h fun xs H Q=>∀ x y,xs=[x,y]->∃ a v,x=.ref a/\DGet H a y (some v)/\Q v H:=by
 intro ws w xs Z H G Q hn e r ow za k x y hx
 subst hx
 obtain ⟨⟨m,a⟩,⟨n,b⟩,rfl⟩:=dw r.length.symm
 obtain ⟨G1,G2,w1,w2,d,r1,r2⟩:=bO r
 cases a with
 | dct ks vs =>
  cases m with
  | s =>
   have e':((M.keyT b).bind fun q=>(M.lookD q ks vs).map fun t=>((.s,t):M.W))=some w:=e
   cases e1:M.keyT b with
   | none=>rw [e1] at e'; cases e'
   | some q =>
    rw [e1] at e'
    have e2:((M.lookD q ks vs).map fun t=>((.s,t):M.W))=some w:=e'
    cases e3:M.lookD q ks vs with
    | none=>rw [e3] at e2; cases e2
    | some t =>
     rw [e3] at e2
     cases e2
     obtain ⟨ad,ys,hq,hl,hd,hnk,hvl,pr⟩:=r1
     have hb:=jG e1
     subst hb
     obtain ⟨hy,_⟩:=oH r2
     obtain ⟨v,hv,rv⟩:=jH pr e3
     have hx':x=.ref ad:=hq
     have hy':y=kV q:=hy
     subst hx' hy'
     refine ⟨ad,v,rfl,?_,dX ow k (rv.sany)⟩
     rw [<- hv]
     exact DGet.k hd.2
  | d=>cases e
  | o m=>cases e
 | _=>cases m<;>cases e
theorem yX (hr:Room n X.A)(ha:SE X sf C ea a)(hb:SE X sf C eb b)(hs:yO eb:=by intro _ _; rfl):SE X sf C (.Subscript ea eb pos) (.op .ixD h [a,b]):=aj (we (xk hr) ha hb hs) (aK vZ)
end
end MR

namespace L3
open PySem PySem.Spec PyProof.Rows L2
end L3
namespace MR
open PySem PySem.Spec PyProof.Rows L2 L3
section
variable {X:Cx}{sf sg:Nat->Option Nat}{C:M.Call}{pos p p2 p3:Pos}{ea eb ec:Expr}{a b c:M.E}{h:Bool}{n:Nat}{io:List Nat}{K:a0a}
theorem jx {Z:Fp}{H:Hp}:∀ {ts:List M.T} {xs:List V} {G:Fp},RepL K Z H .s ts xs G->RepL K Z H .s ts.reverse xs.reverse no
 | [],_,_,r=>by rw [show _=[] from r]; rfl
 | t::ts,_,_,⟨x,r,G1,G2,e,_,_,_,p,q⟩=>by
  subst e
  rw [a1q,a1q]
  exact RepL.append (G1:=no) (G2:=no) (fun _ z=>z) (fun _ z=>z) (fun _ z=>z.elim) (jx q) (RepL.one p.sany)
end
end MR

namespace MR
open L2 L3 M
open PySem (Addr Str sizeLine)
section
variable {K:a0a}{sl:Cf}{sf sg:Nat->Option Nat}{C:Call}{σ σ2:L2.St}{Z Z' Z1:Fp}{H H' H1:Hp}{Fs Fs' Fs1:Fps}{η η' η1 ηb:Env}{G G' G1 R F F':Fp}{tg is vs ls io:List Nat}{pv val:Nat->Option V}{D:bw}
theorem ug {o:Option W}{ts:List T}(h:vwT o=some ts):∃ m,o=some (m,.lst ts)/\m≠.s/\leaves ts=true:=by
 unfold vwT at h
 split at h
 ·cases h
 ·rename_i m ts' hm
  split at h
  ·rename_i hl
   cases h
   exact ⟨m,rfl,fun e=>hm (e ▸ rfl) ,hl⟩
  ·cases h
 ·cases h
theorem At.away {i:Nat}{w:W}(A:At K sl σ Z H Fs η no)(e1:rd η i=some w):At K sl σ Z H (iD Fs i) (del η i) (Fs i):=by
 refine ⟨⟨fun a ⟨l,h1,h2⟩=>A.gd.own a ⟨l,h2⟩,fun l l' a h1 h2=>A.gd.dis l l' a h1.2 h2.2,A.gd.zal⟩,fun l m' t' e=>?_,fun a ha=>A.gd.own a ⟨i,ha⟩,fun a ha ⟨l,h1,h2⟩=>h1 (A.gd.dis l i a h2 ha),A.lk,A.ln⟩
 rw [a7] at e
 split at e
 ·cases e
 ·rename_i hne
  obtain ⟨v',r',hv'⟩:=A.env l m' t' e
  have hli:l≠i:=fun z=>hne ⟨z,cH e1⟩
  exact ⟨v',r'.mono fun a ha=>⟨hli,ha⟩,hv'⟩
theorem la {h:Bool}{t i0 j0:Nat}{f:Env->Res (Option W×Env)}{te:L2.St->Hp->(Option V->Hp->Prop)->Prop}(I:dG sf sg [t] is)(hs:sf i0=some j0)
  (hf:∀ {η o η'},f η=.ok (o,η')->Nn η η')
  (hte:∀ {val:Nat->Option V} {σ2:L2.St} {Z:Fp} {H:Hp} {Fs:Fps} {η ηc:Env} {R:Fp} {o:Option W} {Q:Option V->Hp->Prop},At K ⟨sg,val⟩ σ2 Z H Fs η R->f η=.ok (o,ηc) ->
   (∀ oy Z' H' Fs' G,At K ⟨sg,val⟩ σ2 Z' H' Fs' ηc (fun c=>R c\/G c)->(match o,oy with | some w,some y=>Rep K Z' H' w.1 w.2 y G | none,none=>True | _,_=>False)->(∀ c,R c->¬ G c)->Step Z H (tot Fs) Z' H' (fun a=>tot Fs' a\/G a)->Q oy H')->te σ2 H Q)
  {e:E} (he:∀ η,evE C e η=(ofO (vwT (rd η i0))).bind (kV1 h i0 t f η)) (σ:L2.St) (H:Hp) (Q:VK) (hw:wE K sf C e σ H Q) :
  mz K (iN j0) σ H fun J H1=>∃ W:Nat->Nat->List V->Hp->Prop,(∃ m,W 0 m [] H1)/\∀ i m ys H,W i m ys H ->
   (J.stop i H/\ys.length<=sizeLine/\∀ p,H p=none->Q (.ref p) (upd H p (.lst ys))) \/
   (J.go i H/\ys.length < sizeLine/\∀ x H',J.yld i H x H'->gT K 1 x (a0i 1 none++bj σ is) H' fun σ2 H2=>(σ2.length=1+(bj σ is).length/\σ2.drop 1=bj σ is)/\te σ2 H2 fun oy H3=>∃ m',m' < m/\W (i+1) m' (ys++oy.toList) H3):=by
 obtain ⟨pv,Z,Fs,η,w,η',A,ev,kk⟩:=hw
 rw [he] at ev
 obtain ⟨ts0,g1,g2⟩:=aa ev
 obtain ⟨m0,e1,hm0,hlv⟩:=ug (bK g1)
 obtain ⟨⟨w',η2⟩,g3,g4⟩:=aa (show ((aA [t] f (ts0.map fun u=>[(.s,u)]) (af [t] (del η i0)) []).bind (fV h)).bind (kV2 i0 (rd η i0))=_ from g2)
 cases g4
 obtain ⟨⟨us,η3⟩,h3,g5⟩:=aa g3
 obtain ⟨w'',h4,g6⟩:=aq (show ret η3 _=_ from g5)
 cases g6
 obtain ⟨v,r0,l0,p0⟩:=A.env i0 m0 (.lst ts0) e1
 obtain ⟨a,xs,rfl,hl,hfa,hxa,pl⟩:=dQ hm0 r0
 have A0:=A.away e1
 obtain ⟨val,v1,A2,v2⟩:=(A0.dels (tg:=[t])).pin
 generalize hN:ts0.map (fun u=>[((.s,u):W)])=tss at h3
 have hNl:tss.length=xs.length:=by rw [<- hN,a0b,pl.length]
 have sH:∀ {Z':Fp} {H':Hp} {F':Fp},Step Z H (tot (cM (iD Fs i0) [t])) Z' H' F'->H' a=some (.lst xs):=fun s=>s.keep a _ hxa fun ⟨l,_,h1,h2⟩=>h1 (A.gd.dis l i0 a h2 hfa)
 refine ⟨.ref a,l0 j0 hs,a,rfl,⟨xs,.inl (.inl hxa)⟩,fun i m ys H0=>m=tss.length-i/\i<=tss.length/\ys.length<=i/\∃ (Zi:Fp) (Fsi:Fps) (ηi:Env) (acc:List W) (Ga:Fp),At K ⟨sf,val⟩ σ Zi H0 Fsi ηi (fun c=>Fs i0 c\/Ga c)/\(∀ c,Fs i0 c->¬ Ga c)/\RepW K Zi H0 acc ys Ga/\aA [t] f (tss.drop i) ηi acc=.ok (us,η2)/\(∀ j∈[t],rd ηi j=none)/\(∀ j∈[t],∀ b,¬ Fsi j b)/\Nn (af [t] (del η i0)) ηi/\Step Z H (tot (cM (iD Fs i0) [t])) Zi H0 (fun b=>tot Fsi b\/Ga b),
  ⟨tss.length,by simp,a0M _,a0m _,Z,cM (iD Fs i0) [t],af [t] (del η i0),[],no,A2.mono fun c hc=>hc.elim id fun z=>z.elim,fun _ _ z=>z,rfl,h3,fun j hj=>by rw [au,if_pos hj],fun j hj b hb=>hb.1 hj,Nn.refl _,(Step.refl _ _ _).mono (fun _ z=>z) fun b hb=>hb.elim id fun z=>z.elim⟩,?_⟩
 rintro i m ys H0 ⟨rfl,hi,hlen,Zi,Fsi,ηi,acc,Ga,Ai,dGa,ra,hc,htg,hfp,hnn,si⟩
 have hx0:=sH si
 by_cases hlt:i < tss.length
 ·right
  have hix:i < xs.length:=by omega
  have hw:tss[i]?=some tss[i]:=by simp [hlt]
  have hu:∃ u,tss[i]=[((.s,u):W)]/\ts0[i]?=some u:=by
   have hi0:i < ts0.length:=by rw [<- hN,a0b] at hlt; exact hlt
   refine ⟨ts0[i],?_,by simp [hi0]⟩
   have:tss[i]?=some [((.s,ts0[i]):W)]:=by rw [<- hN,a0s]; simp [hi0]
   rw [hw] at this
   exact a0t this
  obtain ⟨u,hu1,hu2⟩:=hu
  refine ⟨⟨xs,xs[i],.inl (.inl hx0),by simp [hix]⟩,a1C (a0y hlen hi) (eu (by omega)),fun x H2 y=>?_⟩
  obtain ⟨e0,hyx⟩:=y
  subst e0
  have hx1:xs[i]?=some x:=hyx xs (.inl (.inl hx0))
  rw [eG hw,hu1] at hc
  obtain ⟨ηb,o,ηc,hb,hfe,hc2⟩:=ff hc
  have hb':M.put ηi t (.s,u)=ηb:=a0t (show some (M.put ηi t (.s,u))=some ηb from hb)
  subst hb'
  have hul:u.leaf=true:=a0x.mp hlv u (a0J hu2)
  obtain ⟨x',hx',rx⟩:=RepL.get pl hu2
  have hxe:x'=x:=by rw [hx'] at hx1; exact a0t hx1
  subst hxe
  have hfrz:∀ b o u,H b=some (.frz o u)->H2 b=some (.frz o u):=fun b o u eb=>si.keep b _ eb fun ⟨l,hl1,hl2⟩=>by
   obtain ⟨_,zs,e⟩:=A0.gd.own b ⟨l,hl2⟩
   rw [e] at eb
   exact (dD eb.symm).elim
  have r':Rep K Zi H2 (Md.s) u x' (Fsi t):=rx.leaf hfrz hul
  have A3:At K ⟨sg,inV val [t]⟩ (some x'::bj σ is) Zi H2 Fsi (M.put ηi t (.s,u)) (fun c=>Fs i0 c\/Ga c):=by
   refine (Ai.into (σ2:=some x'::bj σ is) I htg (fun k j0 v h1 h2=>?_) (ek I (by simp [bj,a1B]))).put1 r' (fun j hj=>?_) (if_pos (by simp))
   ·rw [a0u,a1B,a0E]; exact fG h1 h2
   ·rcases I t j hj with ⟨k,hk,rfl⟩ | ⟨h,_⟩
    ·cases j with
     | zero=>rfl
     | succ _=>simp at hk
    ·exact absurd (a0q.mpr rfl) h
  show (_/\_)/\_
  refine ⟨⟨by simp [a1B],rfl⟩,?_⟩
  refine hte A3 hfe fun oy Z4 H4 Fs4 G4 A4 r4 d4 s4=>⟨tss.length-(i+1),by omega,rfl,hlt,?_,?_⟩
  ·cases oy<;>simp<;>omega
  ·have ra4:RepW K Z4 H4 acc ys Ga:=ra.frame A3.gd.own s4 fun b hb=>A3.dis b (.inr hb)
   have vv:∀ j m t',rd (af [t] ηc) j=some (m,t')->val j≠none:=fun j m t' e=>by
    rw [au] at e
    split at e
    ·cases e
    ·rename_i hj
     have n1:rd (M.put ηi t (.s,u)) j≠none:=fun z=>by rw [hf hfe j z] at e; cases e
     rw [c6 (tg:=[t]) (t:=[(.s,u)]) (η:=ηi) rfl j hj] at n1
     have n2:rd (af [t] (del η i0)) j≠none:=fun z=>n1 (hnn j z)
     cases e2:rd (af [t] (del η i0)) j with
     | none=>exact absurd e2 n2
     | some u'=>exact v2 j u'.1 u'.2 e2
   have A5:=(A4.dels (tg:=[t])).outof (sf:=sf) (σ:=σ) (val:=val) (fun j hj=>by rw [au,if_pos hj]) vv Ai.lk Ai.ln
   have s5:Step Z H (tot (cM (iD Fs i0) [t])) Z4 H4 (fun b=>tot (cM Fs4 [t]) b\/(Ga b\/G4 b)):=by
    refine (si.trans (s4.frame Ga)).mono (fun _ z=>z) fun b hb=>?_
    rcases hb with z | z | z
    ·exact .inl (.inl (bF z))
    ·exact .inr z
    ·exact .inl (.inr z)
   refine ⟨Z4,cM Fs4 [t],af [t] ηc,acc++o.toList,fun c=>Ga c\/G4 c,A5.mono fun c hc=>?_,fun c hc z=>?_,?_,hc2,fun j hj=>by rw [au,if_pos hj],fun j hj b hb=>hb.1 hj,fun j e=>?_,s5⟩
   ·rcases hc with z | z | z
    ·exact .inl (.inl z)
    ·exact .inl (.inr z)
    ·exact .inr z
   ·rcases z with z | z
    ·exact dGa c hc z
    ·exact d4 c (.inl hc) z
   ·cases o with
    | none =>
     cases oy with
     | none=>rw [a1c,a1c,a0F,a0F]; exact ra4.mono fun _ z=>.inl z
     | some _=>exact r4.elim
    | some w4 =>
     cases oy with
     | none=>exact r4.elim
     | some y4=>exact RepW.append (fun _ z=>.inl z) (fun _ z=>.inr z) (fun c hc=>d4 c (.inr hc)) ra4 (RepW.one r4)
   ·have e':=hnn j e
    rw [au]
    split
    ·rfl
    ·rename_i hj
     exact hf hfe j (by rw [c6 (tg:=[t]) (t:=[(.s,u)]) (η:=ηi) rfl j hj]; exact e')
 ·left
  have hi':i=tss.length:=by omega
  subst hi'
  rw [a2s] at hc
  cases hc
  refine ⟨⟨xs,.inl (.inl hx0),by omega⟩,bo (by omega),?_⟩
  have Ai':=Ai.unpin v1
  have rl:Rep K Zi H0 m0 (.lst ts0) (.ref a) (Fs i0):=r0.frame A0.gd.own (show Step Z H (tot (iD Fs i0)) Zi H0 (fun b=>tot Fsi b\/Ga b) from si.mono (fun _ z=>bF z) fun _ z=>z) fun b hb=>A0.dis b hb
  refine jO (G:=Ga) (fun b hb=>Ai'.own b (.inr hb)) Ai'.gd.zal ra (by omega) h4 ?_
  intro v' Z' H' G' rv ow st
  have hR:Own Zi H0 (Fs i0):=fun b hb=>Ai'.own b (.inl hb)
  have oR:=hR.frame st dGa
  have stR:Step Zi H0 (fun c=>Fs i0 c\/Ga c) Z' H' (fun c=>Fs i0 c\/G' c):=(st.frame (Fs i0)).mono (fun _ z=>z.elim .inr .inl) fun _ z=>z.elim .inr .inl
  obtain ⟨B,sB⟩:=Ai'.op (G':=fun c=>Fs i0 c\/G' c) (fun c hc=>hc.elim (oR.1 c) (ow c)) stR
  have rl':Rep K Z' H' m0 (.lst ts0) (.ref a) (Fs i0):=rl.frame (fun b hb=>Ai'.own b (.inr hb)) st dGa
  have B2:=B.put (i:=i0) (w:=(m0,.lst ts0)) (G1:=Fs i0) (R:=G') rl' (fun _ z=>.inl z) (fun _ z=>.inr z) (fun c hc z=>oR.2 c z hc) (fun j hj=>l0 j hj) p0
  rw [e1] at kk
  refine kk v' Z' H' (iZ Fsi i0 (Fs i0)) G' B2 rv ?_
  have s1:Step Z H (tot Fs) Zi H0 (fun c=>tot Fsi c\/(Fs i0 c\/Ga c)):=by
   refine (si.frame (Fs i0)).mono (fun c hc=>?_) fun c hc=>?_
   ·rcases hc with z | z
    ·obtain ⟨l,_,_,z2⟩:=z
     exact ⟨l,z2⟩
    ·exact ⟨i0,z⟩
   ·rcases hc with z | z | z
    ·exact .inl (.inl z)
    ·exact .inr z
    ·exact .inl (.inr z)
  refine (s1.trans sB).mono (fun _ z=>z) fun c hc=>?_
  ·rcases hc with z | z
   ·rcases bH z with q | q
    ·exact .inl q
    ·exact .inr (.inl q)
   ·exact .inr (.inr z)
theorem qA {h:Bool}{t i0 j0:Nat}{elt cnd:E}(I:dG sf sg [t] is)(hs:sf i0=some j0)(σ:L2.St)(H:Hp)(Q:VK)(hw:wE K sf C (.compV h i0 t cnd elt) σ H Q):cN 1 (mz K (iN j0)) is (gT K 1) (wT K sg C cnd) (wE K sg C elt) σ H Q:=by
 have main:=la (te:=fun σ2 H Q=>wT K sg C cnd σ2 H fun ok H2=>if ok=true then wE K sg C elt σ2 H2 fun y H'=>Q (some y) H' else Q none H2) I hs (f:=bZ (evE C cnd) (evE C elt)) (fun {η o η'} hf=>by
  obtain ⟨⟨u,η4⟩,h7,h8⟩:=aa (show (evE C cnd η).bind (onT (bJ (evE C elt)) (okW none))=_ from hf)
  obtain ⟨d,h9,h10⟩:=a6 h8
  cases d with
  | true =>
   rw [if_pos rfl] at h10
   obtain ⟨⟨u2,η5⟩,h11,h12⟩:=aa (show (evE C elt η4).bind cG=_ from h10)
   cases h12
   exact (ak cnd h7).trans (ak elt h11)
  | false =>
   rw [if_neg a0f] at h10
   cases h10
   exact ak cnd h7) (fun {val σ2 Z H Fs η ηc R o Q} A hf k=>by
  obtain ⟨⟨u,η4⟩,h7,h8⟩:=aa (show (evE C cnd η).bind (onT (bJ (evE C elt)) (okW none))=_ from hf)
  obtain ⟨d,h9,h10⟩:=a6 h8
  refine jr A.bare h7 h9 fun Z1 H1 Fs1 A1 s1=>?_
  have A1':=A.frame (A1.mono (G':=no) fun _ z=>z) (s1.mono (fun _ z=>z) fun a ha=>ha.elim id fun z=>z.elim)
  have A2:=A1'.1.mono (G':=R) fun _ z=>.inl z
  cases d with
  | true =>
   rw [if_pos rfl] at h10 ⊢
   obtain ⟨⟨u2,η5⟩,h11,h12⟩:=aa (show (evE C elt η4).bind cG=_ from h10)
   cases h12
   exact gj A2 h11 fun v Z' H' Fs' G B r d s _=>k (some v) Z' H' Fs' G B r d (s1.trans s)
  | false =>
   rw [if_neg a0f] at h10 ⊢
   cases h10
   exact k none Z1 H1 Fs1 no (A2.mono fun _ z=>z.elim id fun q=>q.elim) trivial (fun _ _ z=>z) (s1.mono (fun _ z=>z) fun a ha=>ha.elim id fun z=>z.elim)) (fun η=>rfl) σ H Q hw
 obtain ⟨x,hx,a,e,sq,W,w0,turn⟩:=main
 refine ⟨x,hx,a,e,sq,W,w0,fun i m ys H w=>?_⟩
 rcases turn i m ys H w with c | ⟨go,hz,step⟩
 ·exact .inl c
 ·refine .inr ⟨go,hz,fun x H' y=>?_⟩
  have st:=step x H' y
  simp only [a2P,a1c,a0F] at st
  exact st
end
end MR
namespace MR
open PySem PySem.Spec PyProof.Rows L2 L3
section
variable {X:Cx}{sf sg:Nat->Option Nat}{C:M.Call}{pos p p2 p3:Pos}{ea eb ec:Expr}{a b c:M.E}{h:Bool}{n:Nat}{io:List Nat}{K:a0a}{elt iter cnd:Expr}{x y:Str}{px py pt:Pos}{kt:Nat}{scope:Scope}{cl:List (Str×Addr)}{ys:List Str}{tg ls is:List Nat}{k:M.Ik}{src:List M.E}{e cd:M.E}
theorem E2 (j:Nat)(ls:List Nat)(is:List Nat)(cl:List (Str×Addr))(ys:List Str){t i:Nat}(hcd:∀ Ca s H fp,SB (ah X ([x]++ys) scope cl Ca s H fp) (inF [t] ls) C cnd cd)(he:∀ Ca s H fp,SE (ah X ([x]++ys) scope cl Ca s H fp) (inF [t] ls) C elt e)
  (S:av [x] ys scope) (hcl:Clo X cl) (fr:Frees X scope cl ys is) (hs0:sf i=some j:=by rfl) (hN:X.N[j]?=some y:=by rfl) (hv:Vis X.env.scope y:=by first | exact a0G rfl | exact a0A (a0G rfl) | exact a0A (a0A rfl)) (hd:(y==("__debug__":Str))=false:=by decide) (hcd0:(y==("__classdict__":Str))=false:=by decide) (hc:X.calm=true:=by rfl) (hl:ls.map sf=is.map some:=by rfl)
  (hclos:closureFor scope X.env=pure cl:=by with_unfolding_all rfl) (hfr:(scope.names.all fun p=>p.2 != .free || (cl.lookup p.1).isSome)=true:=by rfl)
  (hs:∀ v,foldedSetIterable (.Name y py) X.env v=pure v:=by intro _; rfl):SE X sf C (.ListComp elt [⟨.Name x px,.Name y py,[cnd],0⟩] scope pos) (.compV h i t cd e) :=
 aj (gy (pre:=[x]) hc (l5 (bq hN hv hd hcd0)) (vm S) (fun Ca s H fp=>he Ca s H fp) (fun Ca s H fp=>hcd Ca s H fp) hclos S hcl hfr fr hs) (qA (cj hl) hs0)
end
end MR

namespace L2
open PySem PySem.Spec PyProof.Rows
section
variable {X:Cx}{tg:Expr}
noncomputable def Itd (lo:Int)(n:Nat):It:=⟨fun i _=>i < n,fun i H x H'=>H'=H/\x=.int (lo-i),fun i _=>n<=i⟩
theorem nY {P:Program}{w:World}{K:a0a}{tg:Expr}(it:Addr)(lo:Int)(n:Nat):kA P w K tg (Itd lo n) [it] it (fun i h=>IsRangeIter h it (lo+(i:Nat) * (-1)) ((n:Int)-(i:Nat)) (-1)) where
 mem:=by simp
 obj:=fun i h st b hb=>by
  have e:b=it:=by simpa using hb
  subst e
  exact ⟨_,st,fun v z=>by
   have z':Data.fields _=Data.cell v:=z
   cases z'⟩
 keep:=fun i h h' st k=>k it (by simp) _ st
 item:=by
  intro X hP hw hK hc i pins s σ H E I hf st hg
  subst hP hw hK
  obtain ⟨f0,f1,f2,f3,f4,f5⟩:=hf it (by simp)
  have W:=Walks.range (prog:=X.prog) (w:=X.w) (I.ok.hd hc) it lo (-1) n
  refine W.item i s _ _ hg st fun v h' tk hv st' kk=>?_
  obtain ⟨t,rfl⟩:=hv
  have I1:Inv X pins σ H { s with heap:=h',toks:=tk }:=I.turned (fun b o hb e=>kk b o (by simpa using hb) e) f0 f1 f3 f4 f5
  refine ⟨_,rfl,lB (s:={ s with heap:=h',toks:=tk }) (n:="range_iterator") st' rfl rfl (by decide) ⟨.int (lo-i),H,I1,⟨t,?_⟩,⟨rfl,rfl⟩,st',fun b hb=>(hf b hb).1⟩⟩
  rw [show lo+(i:Int) * (-1)=lo-(i:Int) by omega]
 done:=by
  intro X hP hw hK hc i pins s σ H E I hf st hg
  subst hP hw hK
  obtain ⟨f0,f1,f2,f3,f4,f5⟩:=hf it (by simp)
  exact wpAny_pyNext_range_end (I.ok.hd hc) st (by have:n<=i:=hg; omega) fun h' eb=>⟨rfl,I.turned (t':=s.toks) (fun b o hb e=>eb b o hb e) f0 f1 f3 f4 f5⟩
 self:=fun _ _ _ _ _ st h=>wpAny_pyIter_rangeiter st h
theorem wX {pins:List (Addr×Obj)}{σ:St}{H:Hp}{s:Shared}{R:It->Hp->Prop}{E:Value->Shared->Prop}{lo hi:Int}{t u v:Tok}{tk:Nat}(I:Inv X pins σ H s)(h1:-(2 ^ 62)<=lo)(h2:lo < 2 ^ 62)(h3:-(2 ^ 62)<=hi)(h4:hi < 2 ^ 62)
  (q:R (Itd lo (lo-hi).toNat) H):wpAny (model X.prog X.w) X.A (pyIter (.ref s.heap.objs.size)) (PIE X pins σ tg R) E { s with heap:=s.heap.push { cls:=.type "range",data:=.fields #[.int lo t,.int hi u,.int (-1) v] },toks:=tk }:=by
 refine wpAny_pyIter_range (IsRange.new ..) (PySem.W.small_down h1 h2 h3 h4) ?_
 have I1:Inv X pins σ H { s with heap:=s.heap.push { cls:=.type "range",data:=.fields #[.int lo t,.int hi u,.int (-1) v] },toks:=tk }:=I.kept fun b o e=>Heap.get?_push_of_some _ e
 refine ⟨(s.heap.push { cls:=.type "range",data:=.fields #[.int lo t,.int hi u,.int (-1) v] }).objs.size,[(s.heap.push { cls:=.type "range",data:=.fields #[.int lo t,.int hi u,.int (-1) v] }).objs.size],_,_,H,rfl,
  I1.kept (t':=tk) fun b o e=>Heap.get?_push_of_some _ e,nY _ lo (lo-hi).toNat,?_,fun b hb=>?_,q⟩
 ·have e1:lo+((0:Nat):Int) * (-1)=lo:=by simp
  have e2:(((lo-hi).toNat:Nat):Int)-((0:Nat):Int)=Builtin.Range.rangeSize lo hi (-1):=by rw [PySem.W.rangeSize_downNat]; omega
  show IsRangeIter _ _ (lo+((0:Nat):Int) * (-1)) ((((lo-hi).toNat:Nat):Int)-((0:Nat):Int)) (-1)
  rw [e1,e2]
  exact Heap.get?_push_size _ rfl
 ·have e:b=(s.heap.push { cls:=.type "range",data:=.fields #[.int lo t,.int hi u,.int (-1) v] }).objs.size:=by simpa using hb
  subst e
  exact I1.fpOk (a0m _) (I1.hok.fresh (a0m _))
noncomputable def xM (ta:TA):TI:=fun σ H R=>ta σ H fun vs H1=>∃ i j:Int,vs=[.int i,.int j,.int (-1)]/\(-(2 ^ 62)<=i/\i < 2 ^ 62/\-(2 ^ 62)<=j/\j < 2 ^ 62)/\R (Itd i (i-j).toNat) H1
theorem n9 {a b c:Expr}{ta:TA}{p pos:Pos}(hg:Gl X "range")(hm:X.mg "range"=none)(ha:PA X [a,b,c] ta)(hs:starEach [a,b,c] X.env=[(false,eval a X.env),(false,eval b X.env),(false,eval c X.env)]:=by rfl)(hs2:starEach [b,c] X.env=[(false,eval b X.env),(false,eval c X.env)]:=by rfl) :
  PI X tg (.Call (.Name "range" p) [a,b,c] [] pos) (xM ta):=by
 intro pins s σ H R I h
 refine Call_ (cX I hg hm boot_range (a0X (thn (ha pos pins s σ H _ I h) fun us s1 ⟨vs,H1,I1,r1,q1⟩=>?_) (by rw [hs,hs2]) (by rw [hs2]; rfl)))
 obtain ⟨i,j,e,⟨q1,q2,q3,q4⟩,q⟩:=q1
 subst e
 cases r1 with
 | cons r rr =>
  cases rr with
  | cons r' rr =>
   cases rr with
   | cons r'' rr =>
    cases rr
    obtain ⟨t,rfl⟩:=r
    obtain ⟨t',rfl⟩:=r'
    obtain ⟨t'',rfl⟩:=r''
    exact call_range_3 (by decide) (wX I1 q1 q2 q3 q4 q) (.inl (a2t (by omega)))
end
end L2
namespace L3
open PySem PySem.Spec PyProof.Rows L2
noncomputable def DZ:V->List V->Hp->VK->Prop:=fun x vs H Q=>∃ l xs,x=.ref l/\vs=[]/\H l=some (.lst xs)/\xs.length < sizeLine/\Q .non (upd H l (.lst xs.reverse))
theorem nD {xs:List V}{us:List Value}(h:Vals xs us):Vals xs.reverse us.reverse:=by
 induction h with
 | nil=>exact .nil
 | cons r _ ih=>rw [a1q,a1q]; exact ih.append (.cons r .nil)
theorem vQ {X:Cx}:MtM X "list.reverse" DZ:=by
 intro pins s σ H x vs v us Q I rx rv h
 obtain ⟨l,xs,rfl,rfl,hH,hz,q⟩:=h
 cases rx
 cases rv
 obtain ⟨z,its,n,r,hl,e⟩:=I.lstM hH
 refine call_meets a2b ⟨_,e,rfl⟩ PySem.F.entry_list_reverse (PySem.F.args_list_reverse_1 _) (a2L l its.toArray n (by rw [a0n]; omega)) ⟨e,?_⟩
 refine ⟨.non,_,I.lset (its':=its.reverse) hH e ?_ (nD r) ?_,rfl,q⟩
 ·simp
 ·rw [a1x]
  omega
end L3
namespace MR
open L2 L3 M
open PySem (Addr Str sizeLine)
section
variable {K:a0a}{sl:Cf}{sf sg:Nat->Option Nat}{C:Call}{σ σ2:L2.St}{Z Z' Z1:Fp}{H H' H1:Hp}{Fs Fs' Fs1:Fps}{η η' η1 ηb:Env}{G G' G1 R F F':Fp}{tg is vs ls io:List Nat}{pv val:Nat->Option V}{D:bw}
theorem ue {lo:Int}{n:Nat}(hL:n<=LIM):Wk K (Itd lo n) Z H ((a0k n).map fun (k:Nat)=>[(.d,.int (lo-k))])/\nF K (Itd lo n) Z H ((a0k n).map fun (k:Nat)=>[(.d,.int (lo-k))]):=by
 refine ⟨⟨fun H' i s hi=>by show i < n; simpa using hi,fun H' i s hi=>by show n<=i; simpa using hi,by simpa using hL⟩,fun H' i x H'' s hi y=>?_⟩
 obtain ⟨rfl,rfl⟩:=y
 refine ⟨rfl,(.d,.int (lo-i)),?_,rfl⟩
 rw [a0b,a0C] at hi
 rw [a0s,a0S hi]
 rfl
theorem uE {e e' e'':E}(σ:L2.St)(H:Hp)(R:It->Hp->Prop)(h:wI K sf C 1 .rng [e,e',e''] σ H R):xM (wL K sf C [e,e',e'']) σ H R:=by
 obtain ⟨pv,Z,Fs,η,ws,η',ts,A,ev,ht,k⟩:=h
 refine ⟨pv,Z,Fs,η,ws,η',A,ev,fun vs Z' H' Fs' G B r s=>?_⟩
 obtain ⟨⟨m,a⟩,η1,us,e1,e2,rfl⟩:=ax ev
 obtain ⟨⟨n,b⟩,η2,us,e3,e4,rfl⟩:=ax e2
 obtain ⟨⟨o,c⟩,η3,us,e5,e6,rfl⟩:=ax e4
 cases e6
 obtain ⟨x,y,z,hx⟩:∃ x y z,vs=[x,y,z]:=by
  have hl:vs.length=3:=r.length
  match vs,hl with
  | [x,y,z],_=>exact ⟨x,y,z,rfl⟩
 subst hx
 obtain ⟨G1,G2,G3,r1,r2,r3⟩:∃ G1 G2 G3,Rep K Z' H' m a x G1/\Rep K Z' H' n b y G2/\Rep K Z' H' o c z G3:=by
  obtain ⟨x',r',G1,G2,e,_,_,_,p,y',r2,G3,G4,e2,_,_,_,q,z',r3,G5,G6,e3,_,_,_,q3,_⟩:=r
  cases e; cases e2; cases e3
  exact ⟨_,_,_,p,q,q3⟩
 cases a with
 | int i =>
  cases b with
  | int j =>
   cases c with
   | int l =>
    have ht':(if decide (i.natAbs < 4611686018427387904)&&decide (j.natAbs < 4611686018427387904)&&decide (l=-1)&&fits (i-j).toNat then some ((a0k (i-j).toNat).map fun (k:Nat)=>[((.d,.int (i-k)):W)]) else none)=some ts:=ht
    split at ht'
    ·rename_i hc
     rw [a0j,a0j,a0j,decide_eq_true_eq,decide_eq_true_eq,decide_eq_true_eq] at hc
     cases ht'
     obtain ⟨⟨⟨c1,c2⟩,c3⟩,c4⟩:=hc
     subst c3
     refine ⟨i,j,by rw [show x=_ from r1,show y=_ from r2,show z=_ from r3],by rw [p62]; omega,?_⟩
     obtain ⟨w1,w2⟩:=ue (K:=K) (Z:=fun a=>Z' a\/G a) (H:=H') (lo:=i) (n:=(i-j).toNat) (bL c4)
     exact k _ _ H' Fs' B.freeze (aV B.own s) w1 w2
    ·cases ht'
   | _=>cases ht
  | _=>cases ht
 | _=>cases ht
theorem rB {u r:W}(h:gk u=some r):∃ m ts,u=(m,.lst ts)/\m≠.s/\ts.length < LIM/\leaves ts=true/\r=(m,.lst ts.reverse):=by
 obtain ⟨m,t⟩:=u
 have key:∀ ts:List T,(if (decide (ts.length < LIM)&&leaves ts)=true then some ((m,.lst ts.reverse):W) else none)=some r->ts.length < LIM/\leaves ts=true/\r=(m,.lst ts.reverse):=fun ts h=>by
  split at h
  ·rename_i hc
   rw [a0j] at hc
   cases h
   exact ⟨of_decide_eq_true hc.1,hc.2,rfl⟩
  ·cases h
 cases t with
 | lst ts =>
  cases m with
  | s=>cases h
  | d=>exact ⟨.d,ts,rfl,by simp,key ts h⟩
  | o m=>exact ⟨.o m,ts,rfl,by simp,key ts h⟩
 | _=>cases m<;>cases h
theorem vV {i j:Nat}(hs:sf i=some j)(D:bw)(σ:L2.St)(H:Hp)(h:wS K sf io C (.revS i) D σ H) :
  ∃ a xs,σ[j]?=some (some (.ref a))/\H a=some (.lst xs)/\xs.length < sizeLine/\D.nx σ (upd H a (.lst xs.reverse)):=by
 obtain ⟨pv,Z,Fs,η,N,B,f⟩:=h
 obtain ⟨η2,h4,h5⟩:=dM (show Fin K ⟨sf,pv⟩ Z H (tot Fs) D (nxO η (((rd η i).bind gk).map fun u=>M.put η i u)) from f)
 cases e1:rd η i with
 | none=>rw [e1] at h4; cases h4
 | some u1 =>
  rw [e1] at h4
  cases e2:gk u1 with
  | none=>rw [show (some u1).bind gk=gk u1 from rfl,e2] at h4; cases h4
  | some r1 =>
   rw [show (some u1).bind gk=gk u1 from rfl,e2] at h4
   cases h4
   obtain ⟨m,ts,rfl,hm,hlen,hlv,rfl⟩:=rB e2
   obtain ⟨a,xs0,hj,ha⟩:=B.listAt hs e1
   obtain ⟨xs,hl,hf,hx,p,hpv⟩:=B.ourList hs hm hj e1
   have e3:=p.length
   refine ⟨a,xs,hj,hx,eu hl,?_⟩
   have lr:leaves ts.reverse=true:=a0x.mpr fun t ht=>a0x.mp hlv t (List.mem_reverse.mp ht)
   have pl:RepL K (fun b=>Z b\/((Fs i b\/no b)/\b≠a/\¬ no b)) H m.kid ts.reverse xs.reverse no:=RepL.leaves (fun _ _ _ e=>e) lr (jx (RepL.leaves (Z':=Z) (m':=.s) (G':=no) (fun _ _ _ e=>e) hlv p))
   exact change (K:=K) (m':=m) (G':=no) hm B e1 hf (fun k hk=>by rw [show sf i=some k from hk] at hs; cases hs; exact hj) (by rw [a1x,e3]; omega) hpv (fun _ z=>z.elim) (ts':=ts.reverse) pl fun Z2 Fs2 B2 s2=>h5 σ Z2 _ Fs2 B2 (s2.mono (fun _ z=>z.elim id fun q=>q.elim) fun _ z=>z)
end
end MR
namespace MR
open PySem PySem.Spec PyProof.Rows L2 L3
section
variable {X:Cx}{sf sg:Nat->Option Nat}{C:M.Call}{pos p p2 p3:Pos}{ea eb ec:Expr}{a b c:M.E}{h:Bool}{n:Nat}{io:List Nat}{K:a0a}
theorem zB {tg:Expr}{p:Pos}(hm:X.mg "range"=none)(hg:Gl X "range":=by rfl)(ha:SE X sf C ea a)(hb:SE X sf C eb b)(hc:SE X sf C ec c)(hs:starEach [ea,eb,ec] X.env=[(false,eval ea X.env),(false,eval eb X.env),(false,eval ec X.env)]:=by rfl)(hs2:starEach [eb,ec] X.env=[(false,eval eb X.env),(false,eval ec X.env)]:=by rfl)(hs3:starEach [ec] X.env=[(false,eval ec X.env)]:=by rfl):PI X tg (.Call (.Name "range" p) [ea,eb,ec] [] pos) (wI X.K sf C 1 .rng [a,b,c]):=jN (n9 hg hm (slc ha (slc hb (slc hc sl0 hs3) (by rw [hs2,hs3])) (by rw [hs,hs2])) hs hs2) uE
theorem EC (j:Nat){i:Nat}{x:Str}{apos cpos px:Pos}(hs:sf i=some j:=by rfl)(hN:X.N[j]?=some x:=by rfl)(hv:Vis X.env.scope x:=by first | exact a0G rfl | exact a0A (a0G rfl) | exact a0A (a0A rfl))(hd:(x==("__debug__":Str))=false:=by decide)(hcd:(x==("__classdict__":Str))=false:=by decide)
  (hbase:attributeBase (.Name x px) "reverse" X.env (eval (.Name x px) X.env)=eval (.Name x px) X.env:=by rfl)
  (hline:(apos.endLine==cpos.line)=true:=by rfl) (hsw:swapsWith (.Call (.Attribute (.Name x px) "reverse" apos) [] [] cpos) none pos.line X.env=pure false:=by rfl) :
  SS X sf io C (.Expr (.Call (.Attribute (.Name x px) "reverse" apos) [] [] cpos) pos) (.revS i) :=
 b7 (iY (yI a1j a2b PySem.F.type_list_reverse vQ (bq hN hv hd hcd) hbase hline) hsw) fun D σ H hw=>by
  obtain ⟨p,xs,hj,hp,hl,q⟩:=vV hs D σ H hw
  exact ⟨.ref p,hj,.inl ⟨rfl,xs,.inl (.inl hp)⟩,p,xs,rfl,rfl,hp,hl,q⟩
end
end MR

namespace L3
open PySem PySem.Spec PyProof.Rows L2
noncomputable def Great (ns:List Int)(j:Nat)(vs:List Value):Prop:=(j=0/\vs=[])\/∃ m t,vs=[.int m t,.int m t]/\m∈ns.take j/\∀ n∈ns.take j,n<=m
theorem Great.more {ns:List Int}{j:Nat}{m n:Int}{t u:Tok}(hn:ns[j]?=some n)(h:m∈ns.take j/\∀ k∈ns.take j,k<=m):Great ns (j+1) (if n > m then [.int n u,.int n u] else [.int m t,.int m t]):=by
 have e:ns.take (j+1)=ns.take j++[n]:=by rw [a2h,hn]; rfl
 refine .inr ?_
 rw [e]
 by_cases c:n > m
 ·rw [if_pos c]
  exact ⟨n,u,rfl,by simp,fun k hk=>(a0O.mp hk).elim (fun z=>by have:=h.2 k z; omega) fun z=>by rw [a0q.mp z]; exact a2M _⟩
 ·rw [if_neg c]
  exact ⟨m,t,rfl,by simp [h.1],fun k hk=>(a0O.mp hk).elim (h.2 k) fun z=>by rw [a0q.mp z]; omega⟩
section
variable {prog:Program}{w:World}{A:Around}{R:Result->Shared->Prop}{E:Value->Shared->Prop}{I l S:Addr}{ns:List Int}{its:List Value}{d:Value}
theorem d8:toString "max"++toString ".loop"="max.loop":=rfl
theorem fD (W:Walks prog w A.in1 I [I,l] [I] its.length (fun i v=>its.toArray[i]?=some v) (fun i h=>h.IsListIter I l i/\h.IsList l its.toArray))(hv:∀ (j:Nat) (v:Value),its[j]?=some v->∃ (n:Int) (t:Tok),ns[j]?=some n/\v=Value.int n t)(hlen:ns.length=its.length)(hS:S ∉ [I,l])
  (j:Nat) (s:Shared) (vs:List Value) (c:Nat) (hj:j<=its.length) (st:s.heap.IsListIter I l j/\s.heap.IsList l its.toArray) (hb:s.heap.get? S=some (qm vs c)) (g:Great ns j vs)
  (out:∀ (h:Heap) (tk:Nat) (v:Value),(∀ b o,b≠I->b≠S->s.heap.get? b=some o->h.get? b=some o)->((ns=[]/\v=d)\/∃ m t,v=.int m t/\m∈ns/\∀ n∈ns,n<=m)->R (.ok (.ret v)) { s with heap:=h,toks:=tk }) :
  codeAny (model prog w) A (.builtin "max.loop" ⟨[.ref I,.none,.ref S],[("default",d)]⟩) R s:=by
 have hSI:S ∉ [I]:=fun m=>hS (by rw [a0q.mp m]; simp)
 apply codeAny_builtin F.entry_max_loop
 rw [Around.under_plainId F.plain_max_loop]
 apply wpAny_bind
 apply wpAny_seqItems hb rfl
 by_cases hlt:j < its.length
 ·apply wpAny_bind
  refine wpAny_tryCatch (W.item j s _ _ hlt st fun v h1 tk hv1 st1 k1=>?_)
  have hb1:=k1 S _ hSI hb
  obtain ⟨n,u,hn,rfl⟩:=hv j v (by simpa using hv1)
  -- one turn more, with what is held now
  have on:∀ (h2:Heap) (vs2:List Value) (c2:Nat),Kp S h1 h2->h2.get? S=some (qm vs2 c2)->Great ns (j+1) vs2->codeAny (model prog w) A (.builtin "max.loop" ⟨[.ref I,.none,.ref S],[("default",d)]⟩) R { s with heap:=h2,toks:=tk }:=fun h2 vs2 c2 k2 hb2 g2=>by
   refine fD W hv hlen hS (j+1) _ vs2 c2 hlt (W.frame _ _ _ st1 fun b hb o e=>k2 b o (fun z=>hS (z ▸ hb)) e) hb2 g2 fun h3 tk3 v3 k3 o3=>out h3 tk3 v3 (fun b o nI nS e=>k3 b o nI nS (k2 b o nS (k1 b o (fun m=>nI (a0q.mp m)) e))) o3
  rcases g with ⟨h0,hvs⟩ | ⟨m,t,hvs,gm⟩
  ·subst hvs
   refine wpAny_bind (wpAny_pure (wpAny_bind (Al (s:={ s with heap:=h1,toks:=tk }) (f:=fun _=>#[.int n u,.int n u]) hb1 (a0M _) (show 2<=sizeLine+1 by decide) fun h2 c2 hb2 k2=>?_)))
   rw [d8]
   refine wpAny_pure ⟨plainId_quiet F.plain_max_loop _,on h2 _ c2 k2 hb2 (.inr ⟨n,u,rfl,?_⟩)⟩
   subst h0
   have e:ns.take 1=[n]:=by rw [show 1=0+1 from rfl,a2h,hn]; rfl
   rw [e]
   exact ⟨a0q.mpr rfl,fun k hk=>by rw [a0q.mp hk]; exact a2M _⟩
  ·subst hvs
   have gr:=Great.more (t:=t) (u:=u) hn gm
   have cmp:∀ (s':Shared) (Q':Value->Shared->Prop) (E':Value->Shared->Prop),Q' (.bool (decide (n > m))) s'->wpAny (model prog w) A.in1 (richCompare .Gt (.int n u) (.int m t)) Q' E' s':=fun s' Q' E' hq =>
    richCompare_gives (op:=.Gt) (typeIs_int s' n u) (typeIs_int s' m t) F.slot_int_gt F.entry_int_gt (F.args_int_gt_2 _ _) (gives_int_gt _ _ u t) (fun x=>nomatch x) hq
   apply wpAny_bind
   apply wpAny_pure
   apply wpAny_bind
   apply wpAny_tryCatch
   apply wpAny_holding
   apply wpAny_bind
   apply cmp
   apply wpAny_bind
   apply wpAny_holding
   apply wpAny_truthy_bool
   apply wpAny_bind
   apply wpAny_letGo
   apply wpAny_pure
   by_cases c0:n > m
   ·rw [if_pos c0] at gr
    rw [if_pos (decide_eq_true c0)]
    refine wpAny_bind (Al (s:={ s with heap:=h1,toks:=tk }) (f:=fun _=>#[.int n u,.int n u]) hb1 (show 2<=sizeLine by decide) (show 2<=sizeLine+1 by decide) fun h2 c2 hb2 k2=>wpAny_bind (wpAny_letGo ?_))
    rw [d8]
    exact wpAny_pure ⟨plainId_quiet F.plain_max_loop _,on h2 _ c2 k2 hb2 gr⟩
   ·rw [if_neg c0] at gr
    rw [if_neg (by simpa using c0)]
    refine wpAny_bind (wpAny_letGo ?_)
    rw [d8]
    exact wpAny_pure ⟨plainId_quiet F.plain_max_loop _,on h1 _ c (fun _ _ _ e=>e) hb1 gr⟩
 ·have hje:j=its.length:=by omega
  subst hje
  apply wpAny_bind
  refine wpAny_tryCatch (W.done s _ _ st fun h1 tk k1=>?_)
  have k1':∀ b o,b≠I->s.heap.get? b=some o->h1.get? b=some o:=fun b o nI e=>k1 b o (fun m=>nI (a0q.mp m)) e
  rcases g with ⟨h0,hvs⟩ | ⟨m,t,hvs,gm⟩
  ·subst hvs
   exact wpAny_bind (wpAny_rule (wpAny_pure (out h1 tk d (fun b o nI _ e=>k1' b o nI e) (.inl ⟨a1P (by omega),rfl⟩))))
  ·subst hvs
   rw [<- hlen,a1v] at gm
   exact wpAny_bind (Al (s:={ s with heap:=h1,toks:=tk }) (f:=fun _=>#[]) (k1 S _ hSI hb) (show 2<=sizeLine by decide) (a0M _) fun h2 c2 _ k2=>wpAny_bind (wpAny_letGo (wpAny_pure (out h2 tk _ (fun b o nI nS e=>k2 b o nS (k1' b o nI e)) (.inr ⟨m,t,rfl,gm⟩)))))
termination_by its.length-j
theorem qy {s:Shared}{Q:Value->Shared->Prop}(hh:A.handled=none)(hl:s.heap.IsList l its.toArray)(hv:∀ (j:Nat) (v:Value),its[j]?=some v->∃ (n:Int) (t:Tok),ns[j]?=some n/\v=Value.int n t)(hlen:ns.length=its.length)
  (q:∀ (h:Heap) (tk:Nat) (v:Value),(∀ b o,s.heap.get? b=some o->h.get? b=some o)->((ns=[]/\v=d)\/∃ m t,v=.int m t/\m∈ns/\∀ n∈ns,n<=m)->Q v { s with heap:=h,toks:=tk }) :
  wpAny (model prog w) A (call (.builtin "max") [.ref l] [("default",d)]) Q E s:=by
 have lt:l < s.heap.objs.size:=by obtain ⟨_,e,_⟩:=hl; exact Heap.lt_size e
 refine a3L F.kind_max F.plain_max F.entry_max (by unfold argsOk; kernel_rfl) ?_
 refine wpAny_bind (wpAny_of_eq (show Builtin.Builtins.bindParams "max" ["key","default"] 0 ⟨[],[("default",d)]⟩=pure [none,some d] from rfl) (wpAny_bind (wpAny_pure (wpAny_bind (wpAny_pyIter_list hl (wpAny_bind (wpAny_newObj_type ?_)))))))
 rw [d8]
 generalize hg:s.heap.push { cls:=.type "list_iterator",data:=.fields #[.ref l,.int 0 0] }=g
 have gs:g.objs.size=s.heap.objs.size+1:=by rw [<- hg,Heap.size_push]
 have old:∀ b o,s.heap.get? b=some o->g.get? b=some o:=fun b o e=>hg ▸ Heap.get?_push_of_some _ e
 have oldp:∀ b o,g.get? b=some o->(g.push (qm [] 0)).get? b=some o:=fun b o e=>Heap.get?_push_of_some _ e
 refine wpAny_pure ⟨plainId_quiet F.plain_max_loop _,fD (I:=s.heap.objs.size) (Walks.list (A:=A.in1) hh _ l (a0D lt) its.toArray) hv hlen (fun m=>?_) 0 _ [] 0 (a0M _) ⟨⟨_,oldp _ _ (hg ▸ Heap.get?_push_size _ rfl),rfl,rfl⟩,hl.at fun o e=>oldp _ o (old _ o e)⟩ (Heap.get?_push_size _ rfl) (.inl ⟨rfl,rfl⟩) fun h tk v k o=>q h tk v (fun b ob e=>?_) o⟩
 ·rw [a0r,a0q] at m
  have big:s.heap.objs.size < g.objs.size:=gs ▸ a1u _
  exact m.elim (fun z=>a1b big z) fun z=>a1b (a24 lt big) z
 ·have hb:=Heap.lt_size e
  exact k b ob (a0D hb) (a0D (a24 hb (gs ▸ a1u _))) (oldp b ob (old b ob e))
end
noncomputable def E6 (K:a0a)(t:TA):TE:=fun σ H Q=>t σ H fun vs H1=>∃ (a:Addr) (ns:List Int),vs=[.ref a]/\SqL K H1 a (ns.map V.int)/\(ns=[]->Q (.int 0) H1)/\∀ M,M∈ns->(∀ n∈ns,n<=M)->Q (.int M) H1
theorem lD:∀ {ns:List Int} {us:List Value},Vals (ns.map V.int) us->∀ (j:Nat) (v:Value),us[j]?=some v->∃ (n:Int) (t:Tok),ns[j]?=some n/\v=Value.int n t
 | [],_,.nil,j,v,h=>by simp at h
 | n::ns,_,.cons ⟨t,e⟩ r,0,v,h=>by cases e; cases h; exact ⟨n,t,rfl,rfl⟩
 | n::ns,_,.cons _ r,j+1,v,h=>lD r j v h
theorem uP {X:Cx}{e:Expr}{t:TA}{p pos kp pk:Pos}{kk:Nat}(hc:X.calm=true)(hg:Gl X "max")(hm:X.mg "max"=none)(ha:PA X [e] t)
  (he:starEach [e] X.env=(false,eval e X.env)::starEach [] X.env:=by rfl) (hpl:(backTo pos (starEach [e] X.env)).any (·.1)=false) (hb:backTo pos (starEach [e] X.env)=(false,eval e X.env)::backTo pos (starEach [] X.env)) :
  PE X (.Call (.Name "max" p) [e] [⟨some "default",.Constant (.int 0) kk pk,kp⟩] pos) (E6 X.K t):=by
 intro pins s σ H Q I h
 refine wpAny_Call_Name_kw (cX I hg hm (by rfl) ?_ (by decide) (by decide))
 refine callWith_kw (thn (ha pos pins s σ H _ I h) fun us s1 ⟨vs,H1,I1,r1,q1⟩=>?_) hb hpl (by rfl) (by rfl)
 refine kws_cons (thn (qB pins s1 σ H1 (fun x H2=>x=.int 0/\H2=H1) I1 ⟨rfl,rfl⟩) fun d s2 ⟨x,H2,I2,r2,e1,e2⟩=>?_)
 subst e1 e2
 obtain ⟨tk,rfl⟩:=r2
 refine kws_nil ?_
 obtain ⟨a,ns,rfl,hS,q0,q⟩:=q1
 obtain ⟨u,rfl,ru⟩:=cf r1
 cases ru
 obtain ⟨its,rv,pl,hz⟩:=I2.list hS
 refine qy (ns:=ns) (show X.A.handled=none from I2.ok.hd hc) pl.isList (lD rv) (by rw [<- rv.length,a0b]) fun h' tk' v k o=>?_
 rcases o with ⟨hn,rfl⟩ | ⟨m,t',rfl,h1,h2⟩
 ·exact ⟨.int 0,_,I2.kept k,⟨_,rfl⟩,q0 hn⟩
 ·exact ⟨.int m,_,I2.kept k,⟨t',rfl⟩,q m h1 h2⟩
end L3
namespace MR
open L2 L3 M
open PySem (Addr Str sizeLine)
section
variable {K:a0a}{sf:Nat->Option Nat}{C:Call}{h:Bool}
theorem oS:Loc K 1 .maxZ h fun xs H Q=>∃ (a:Addr) (ns:List Int),xs=[.ref a]/\SqL K H a (ns.map V.int)/\(ns=[]->Q (.int 0) H)/\∀ M,M∈ns->(∀ n∈ns,n<=M)->Q (.int M) H:=by
 intro ws w xs Z H G Q hn e r ow za k
 match ws,hn with
 | [(m,a)],_ =>
  obtain ⟨x,rfl,r1⟩:=bh rfl r
  cases a with
  | lst ts =>
   obtain ⟨a,xs,hx,hs,hl,p⟩:=a8 r1
   have e':((M.intsOf ts).bind fun ns=>some ((.d,.int (if ns.isEmpty then 0 else M.maxI ns)):M.W))=some w:=e
   cases e1:M.intsOf ts with
   | none=>rw [e1] at e'; cases e'
   | some ns =>
    rw [e1] at e'
    have e2:some ((.d,.int (if ns.isEmpty then 0 else M.maxI ns)):M.W)=some w:=e'
    cases e2
    rw [dI e1 p] at hs
    refine ⟨a,ns,by rw [hx],.inl (.inl hs),fun z=>?_,fun m h1 h2=>?_⟩
    ·subst z; exact aB k
    ·cases ns with
     | nil=>cases h1
     | cons n ns=>rw [<- iu h1 h2]; exact aB k
  | _=>cases e
end
end MR
namespace MR
open PySem PySem.Spec PyProof.Rows L2 L3
section
variable {X:Cx}{sf sg:Nat->Option Nat}{C:M.Call}{pos p p2 p3:Pos}{ea eb ec:Expr}{a b c:M.E}{h:Bool}{n:Nat}{io:List Nat}{K:a0a}
theorem xP {kp pk:Pos}{kk:Nat}(hc:X.calm=true:=by rfl)(hm:X.mg "max"=none)(hg:Gl X "max":=by rfl)(ha:SE X sf C ea a)(hs:starEach [ea] X.env=(false,eval ea X.env)::starEach [] X.env:=by rfl)(hpl:(backTo pos (starEach [ea] X.env)).any (·.1)=false:=by rfl)(hb:backTo pos (starEach [ea] X.env)=(false,eval ea X.env)::backTo pos (starEach [] X.env):=by rfl) :
  SE X sf C (.Call (.Name "max" p) [ea] [⟨some "default",.Constant (.int 0) kk pk,kp⟩] pos) (.op .maxZ h [a]) :=
 aj (uP hc hg hm (slc ha sl0 hs) hs hpl hb) (cQ oS rfl)
end
end MR

namespace MR
open L2 L3 M
open PySem (Addr Str sizeLine)
section
variable {K:a0a}{sl:Cf}{sf sg:Nat->Option Nat}{C:Call}{σ σ2:L2.St}{Z Z' Z1:Fp}{H H' H1:Hp}{Fs Fs' Fs1:Fps}{η η' η1 ηb:Env}{G G' G1 R F F':Fp}{tg is vs ls io:List Nat}{pv val:Nat->Option V}{D:bw}
theorem sW {a b c:Option W}{r:W}(h:iy a b c=some r):∃ ts m j n t q us,a=some (.d,.lst ts)/\b=some (m,.int j)/\c=some (n,t)/\M.ixN ts.length j=some q/\ts[q]?=some (.lst us)/\us.length < LIM/\t.leaf=true/\r=(.d,.lst (ts.set q (.lst (us++[t])))):=by
 unfold iy at h
 split at h
 ·rename_i ts m j n t
  cases e:M.ixN ts.length j with
  | none=>rw [e] at h; cases h
  | some q =>
   rw [e] at h
   have h':apU ts q t ts[q]?=some r:=h
   cases e2:ts[q]? with
   | none=>rw [e2] at h'; cases h'
   | some u =>
    rw [e2] at h'
    cases u with
    | lst us =>
     have h2:(if (decide (us.length < LIM)&&t.leaf)=true then some ((.d,.lst (ts.set q (.lst (us++[t])))):W) else none)=some r:=h'
     split at h2
     ·rename_i hc
      rw [a0j] at hc
      cases h2
      exact ⟨ts,m,j,n,t,q,us,rfl,rfl,rfl,e,e2,of_decide_eq_true hc.1,hc.2,rfl⟩
     ·cases h2
    | _=>cases h'
 ·cases h
theorem RepL.inner {y:V}{t:T}(hl:t.leaf=true)(ry:Rep K Z H .d t y no)(oz:∀ a,Z a->H a≠none):∀ {ts:List T} {xs:List V} {G:Fp} {q:Nat} {us:List T},Own Z H G->RepL K Z H .d ts xs G->ts[q]?=some (.lst us)->us.length < LIM ->
  ∃ b ys,xs[q]?=some (.ref b)/\G b/\H b=some (.lst ys)/\ys.length=us.length/\RepL K Z (upd H b (.lst (ys++[y]))) .d (ts.set q (.lst (us++[t]))) xs G
 | [],_,_,_,_,_,_,e,_=>by simp at e
 | u::ts,xs,G,q,us,ow,⟨x,r,G1,G2,ex,h1,h2,hd,p,pq⟩,e,hn=>by
  have stay:∀ {b:Addr} {ys zs:List V},G b->H b=some (.lst ys)->Stay Z H (upd H b (.lst zs)):=fun {b ys zs} gb hb=>by
   have ne:∀ a o,H a=some o->(∀ ys,o≠.lst ys)->upd H b (.lst zs) a=some o:=fun a o e no=>by
    rw [ab fun z=>by rw [z,hb] at e; cases e; exact no _ rfl]; exact e
   refine ⟨fun a o za e=>?_,fun a xs e=>?_,fun a o u e=>ne a _ e (by intro ys z; cases z)⟩
   ·rw [ab (show a≠b from fun z=>(ow b gb).1 (z ▸ za))]; exact e
   ·rcases e with e | ⟨o,e⟩
    ·exact .inl (ne a _ e (by intro ys z; cases z))
    ·exact .inr ⟨o,ne a _ e (by intro ys z; cases z)⟩
  have keep:∀ {b:Addr} {zs:List V} {G':Fp},¬ G' b->∀ a o,G' a->H a=some o->upd H b (.lst zs) a=some o:=fun {b zs G'} nb a o ga e=>by
   rw [ab (show a≠b from fun z=>nb (z ▸ ga))]; exact e
  subst ex
  cases q with
  | zero =>
   rw [a1i] at e
   cases e
   obtain ⟨b,ys,rfl,hyl,gb,hb,pr⟩:=dQ (by simp) p
   have hyn:ys.length=us.length:=pr.length
   have st:=stay (zs:=ys++[y]) (h1 b gb) hb
   refine ⟨b,ys,rfl,h1 b gb,hb,hyn,.ref b,r,G1,G2,rfl,h1,h2,hd,⟨b,ys++[y],rfl,?_,⟨gb,ai⟩,?_⟩,pq.keep st (fun _ z=>z) (keep (hd b gb))⟩
   ·rw [a0l,a0u,hyn]; exact hn
   ·exact RepL.append (G1:=fun c=>G1 c/\c≠b) (G2:=no) (fun _ z=>z) (fun _ z=>z.elim) (fun _ _ z=>z) (pr.keep st (fun _ z=>z) (keep fun z=>z.2 rfl)) (RepL.one (ry.leaf st.2.2 hl))
  | succ q =>
   rw [a0E] at e
   obtain ⟨b,ys,e1,gb,hb,hyn,pr⟩:=RepL.inner hl ry oz (fun a ga=>ow a (h2 a ga)) pq e hn
   refine ⟨b,ys,e1,h2 b gb,hb,hyn,x,r,G1,G2,rfl,h1,h2,hd,p.keep (stay (h2 b gb) hb) (fun _ z=>z) (keep fun z=>hd b z gb),pr⟩
theorem uq {i:Nat}{b:Addr}{xs':List V}{w':W}{v:V}(A:At K ⟨sf,pv⟩ σ Z H Fs η no){w0:W}(hi:rd η i=some w0)(hb:Fs i b)(hx:∀ j,sf i=some j->σ[j]?=some (some v))(hpv:∀ u,pv i=some u->v=u)(p:Rep K Z (upd H b (.lst xs')) w'.1 w'.2 v (Fs i)) :
  At K ⟨sf,pv⟩ σ Z (upd H b (.lst xs')) Fs (M.put η i w') no/\Step Z H (tot Fs) Z (upd H b (.lst xs')) (tot Fs):=by
 have tb:tot Fs b:=⟨i,hb⟩
 obtain ⟨nz,ys,hy⟩:=A.gd.own b tb
 have al:∀ a,H a≠none->upd H b (.lst xs') a≠none:=fun a h=>by
  by_cases e:a=b
  ·rw [e,ai]; simp
  ·rw [ab e]; exact h
 have kp:∀ a o,H a=some o->a≠b->upd H b (.lst xs') a=some o:=fun a o e ne=>by rw [ab ne]; exact e
 have stay:Stay Z H (upd H b (.lst xs')):=⟨fun a o za e=>kp a o e fun z=>nz (z ▸ za),fun a xs e=>by
  rcases e with e | ⟨o,e⟩
  ·exact .inl (kp a _ e fun z=>by rw [z,hy] at e; exact hZ e.symm)
  ·exact .inr ⟨o,kp a _ e fun z=>by rw [z,hy] at e; exact dD e.symm⟩,fun a o u e=>kp a _ e fun z=>by rw [z,hy] at e; exact dD e.symm⟩
 refine ⟨⟨⟨fun a ta=>?_,A.gd.dis,fun a za=>al a (A.gd.zal a za)⟩,fun l m t e=>?_,fun a z=>z.elim,fun a z=>z.elim,A.lk,A.ln⟩,⟨fun a o e n=>kp a o e fun z=>n (z ▸ tb),fun _ z=>z,fun _ z=>.inl z,fun _ z=>.inl z,al,fun z a h=>al a (z a h)⟩⟩
 ·obtain ⟨nza,zs,hz⟩:=A.gd.own a ta
  refine ⟨nza,?_⟩
  by_cases e:a=b
  ·exact ⟨.inl xs',by rw [e,ai]; rfl⟩
  ·exact ⟨zs,by rw [ab e]; exact hz⟩
 ·rw [a7] at e
  split at e
  ·rename_i hc
   obtain ⟨rfl,_⟩:=hc
   cases e
   exact ⟨v,p,hx,hpv⟩
  ·rename_i hc
   have hl:l≠i:=fun z=>hc ⟨z,cH hi⟩
   obtain ⟨u,r,h⟩:=A.env l m t e
   exact ⟨u,r.keep stay (fun _ z=>z) fun a o fa e=>kp a o e fun z=>hl (A.gd.dis l i b (z ▸ fa) hb),h⟩
theorem Bi {i k l ji jk jl:Nat}(hi:sf i=some ji)(hk:sf k=some jk)(hl:sf l=some jl)(D:bw)(σ:L2.St)(H:Hp)(h:wS K sf io C (.apN i k l) D σ H) :
  ∃ a xs j b ys y,σ[ji]?=some (some (.ref a))/\σ[jk]?=some (some (.int j))/\σ[jl]?=some (some y)/\H a=some (.lst xs)/\L2.atI xs j=some (.ref b)/\H b=some (.lst ys)/\ys.length < sizeLine/\D.nx σ (upd H b (.lst (ys++[y]))):=by
 obtain ⟨pv,Z,Fs,η,N,A,f⟩:=h
 obtain ⟨η2,h4,h5⟩:=dM (show Fin K ⟨sf,pv⟩ Z H (tot Fs) D (nxO η ((iy (rd η i) (rd η k) (rd η l)).map fun w=>M.put η i w)) from f)
 cases e:iy (rd η i) (rd η k) (rd η l) with
 | none=>rw [e] at h4; cases h4
 | some r1 =>
  rw [e] at h4
  cases h4
  obtain ⟨ts,m,j,n,t,q,us,r1,r2,r3,hq,hu,hn,lf,rfl⟩:=sW e
  obtain ⟨v,rv,l1,p1⟩:=A.env i _ _ r1
  obtain ⟨z,rz,l2,_⟩:=A.env k _ _ r2
  obtain ⟨y,ry,l3,_⟩:=A.env l _ _ r3
  obtain ⟨a,xs,rfl,hxl,ga,ha,p⟩:=dQ (by simp) rv
  obtain rfl:z=V.int j:=rz
  have hxn:=p.length
  obtain ⟨b,ys,e1,gb,hb,hyn,pr⟩:=RepL.inner (y:=y) lf (ry.leaf (fun _ _ _ e=>e) lf) A.gd.zal (fun c gc=>A.gd.own c ⟨i,gc.1⟩) p hu hn
  refine ⟨a,xs,j,b,ys,y,l1 ji hi,l2 jk hk,l3 jl hl,ha,?_,hb,eu (by omega),?_⟩
  ·have hq':L2.ixN xs.length j=some q:=by rw [hxn]; exact hq
   unfold L2.atI
   rw [hq']
   exact e1
  ·obtain ⟨B,s⟩:=uq (w':=(.d,.lst (ts.set q (.lst (us++[t]))))) A r1 gb.1 l1 p1 ⟨a,xs,rfl,hxl,⟨ga,by rw [ab (a18 gb.2)]; exact ha⟩,pr⟩
   exact h5 σ Z _ Fs B s
end
end MR
namespace MR
open PySem PySem.Spec PyProof.Rows L2 L3
section
variable {X:Cx}{sf sg:Nat->Option Nat}{C:M.Call}{pos p p2 p3:Pos}{ea eb ec:Expr}{a b c:M.E}{h:Bool}{n:Nat}{io:List Nat}{K:a0a}
theorem EU (ji jk jl:Nat){i k l:Nat}{x y z:Str}{apos cpos px py pz ps:Pos}(hi:sf i=some ji:=by rfl)(hk:sf k=some jk:=by rfl)(hl:sf l=some jl:=by rfl)(hN:X.N[ji]?=some x:=by rfl)(hN2:X.N[jk]?=some y:=by rfl)(hN3:X.N[jl]?=some z:=by rfl)
  (hv:Vis X.env.scope x:=by first | exact a0G rfl | exact a0A (a0G rfl) | exact a0A (a0A rfl)) (hv2:Vis X.env.scope y:=by first | exact a0G rfl | exact a0A (a0G rfl) | exact a0A (a0A rfl)) (hv3:Vis X.env.scope z:=by first | exact a0G rfl | exact a0A (a0G rfl) | exact a0A (a0A rfl))
  (hd:(x==("__debug__":Str))=false:=by decide) (hd2:(y==("__debug__":Str))=false:=by decide) (hd3:(z==("__debug__":Str))=false:=by decide) (hcd:(x==("__classdict__":Str))=false:=by decide) (hcd2:(y==("__classdict__":Str))=false:=by decide) (hcd3:(z==("__classdict__":Str))=false:=by decide)
  (hbase:attributeBase (.Subscript (.Name x px) (.Name y py) ps) "append" X.env (eval (.Subscript (.Name x px) (.Name y py) ps) X.env)=eval (.Subscript (.Name x px) (.Name y py) ps) X.env:=by rfl)
  (hfew:((backTo cpos (starEach [Expr.Name z pz] X.env)).all (fun x=>!x.1)&&(backToKw cpos (keywordEach [] X.env)).all (fun x=>x.1.isSome)&&decide ([Expr.Name z pz].length+([]:List Keyword).length+(if ([]:List Keyword).isEmpty then 0 else 1) < 30))=true:=by rfl)
  (hline:(apos.endLine==cpos.line)=true:=by rfl) (hst:starEach [Expr.Name z pz] X.env=(false,eval (.Name z pz) X.env)::starEach [] X.env:=by rfl) (hplain:(backTo cpos (starEach [] X.env)).any (·.1)=false:=by rfl)
  (hsw:swapsWith (.Call (.Attribute (.Subscript (.Name x px) (.Name y py) ps) "append" apos) [.Name z pz] [] cpos) none pos.line X.env=pure false:=by rfl) :
  SS X sf io C (.Expr (.Call (.Attribute (.Subscript (.Name x px) (.Name y py) ps) "append" apos) [.Name z pz] [] cpos) pos) (.apN i k l) :=
 b7 (iY (rC a1j a2e a2f gx (xG ix_any (bq hN hv hd hcd) (bq hN2 hv2 hd2 hcd2) (by intro _ _; rfl)) (aP (bq hN3 hv3 hd3 hcd3) bQ hst) hbase hfew hline hst hplain) hsw) fun D σ H hw=>by
  obtain ⟨a,xs,j,b,ys,v,e1,e2,e3,ha,hat,hb,hln,hq⟩:=Bi hi hk hl D σ H hw
  exact ⟨.ref a,e1,.int j,e2,a,xs,j,.ref b,rfl,rfl,.inl (.inl (.inl ha)),hat,.inl ⟨rfl,ys,.inl (.inl hb)⟩,v,e3,b,ys,v,rfl,rfl,hb,hln,hq⟩
end
end MR

namespace TP
open PySem PySem.W
noncomputable def en (P:Params)(k:Str)(t:Nat)(v:Value):DictEntry:=⟨PyData.keyHash P k,.str k t,v⟩
noncomputable def tu (xs:List Value):Obj:=⟨.type "tuple",none,.seq xs.toArray 0,#[]⟩
noncomputable def fe (xs:List Value):Obj:=⟨.none,none,.fields xs.toArray,#[]⟩
noncomputable def di (es:List DictEntry)(n:Nat):Obj:=⟨.type "dict",none,.dict es.toArray n,#[]⟩
noncomputable abbrev fl:Str:="/claim/cut.py"
noncomputable def iv (i:Int):Value:=.int i 0
noncomputable def cdo (n q:Str)(t t2:Nat)(ln ac:Nat)(f:Nat)(a:Nat)(b:Bool)(x y z:Value):Obj :=
 ⟨.type "code",none,.fields #[.str n t,.str q (t+1),.str fl (t+2),iv ln,iv ac,iv 0,iv 0,iv f,.ref a,.bool b,iv 181,.ref (a+1),.none,x,y,z,iv t2,iv ln,.str fl (t2+1)],#[]⟩
noncomputable def ofn (c:Value)(st:Stmt)(q:Str)(g:Nat)(d m:Value)(cd:Value):Obj:=match st with
 | .FunctionDef n ar b _ _ _ sc _ _ _=>⟨c,none,.func { name:=n,qualname:=q,params:=ar,body:=.stmts b,scope:=sc,globals:=g,closure:=[],defaults:=d,kwdefaults:=.none,pyModule:=m,code:=cd },#[]⟩
 | _=>default
noncomputable def tks:List Str->Nat->List Value
 | [],_=>[]
 | x::r,t=>.str x t::tks r (t+1)
structure R where
 os:List Obj
 ns:List DictEntry
 tb:List Value
 n:Nat
 tk:Nat
 md:Value
inductive Rc where
 | d | m | c
 | x (k:Str) (kt:Nat) (v:Value) (os:Params->List Obj) (tb:List Value) (n tk:Nat)
noncomputable def cv:Expr->Value
 | .Constant (.bool b) _ _=>.bool b
 | _=>.none
noncomputable def dO (P:Params)(n tk:Nat)(md:Value)(st:Stmt):R:=match st with
 | .FunctionDef nm ar b _ _ _ sc _ _ pos =>
  let pr:List Obj×Value×Nat:=match ar.defaults with
   | []=>([],.none,n)
   | ds=>([tu (ds.map cv)],.ref n,n+1)
  let a:=pr.2.2
  match localNames ar sc (.stmts b) with
  | none=>⟨pr.1++[tu [],fe [],ofn .none st nm 0 .none .none .none,cdo nm nm tk (tk+3) pos.line ar.args.length 3 a true .none .none (.ref (a+2)),ofn (.type "function") st nm 3 pr.2.1 md (.ref (a+3))],
    [en P nm (tk+5) (.ref (a+4))],[iv pos.line,iv pos.col,.ref (a+3)],a+5,tk+6,md⟩
  | some l =>
   let k:=l.1.length
   let j:=l.2.length
   ⟨pr.1++[tu [],fe [],tu (tks l.1 (tk+3)),tu (tks l.2 (tk+3+k)),ofn .none st nm 0 .none .none .none,cdo nm nm tk (tk+3+k+j) pos.line ar.args.length 3 a true (.ref (a+2)) (.ref (a+3)) (.ref (a+4)),ofn (.type "function") st nm 3 pr.2.1 md (.ref (a+5))],
    [en P nm (tk+5+k+j) (.ref (a+6))],[iv pos.line,iv pos.col,.ref (a+5)],a+7,tk+6+k+j,md⟩
 | _=>⟨[],[],[],n,tk,md⟩
noncomputable def one (P:Params)(n tk:Nat)(md:Value)(st:Stmt):Rc->R
 | .d=>dO P n tk md st
 | .m=>match st with
  | .Assign _ (.Constant (.str s) _ _) _=>⟨[],[],[],n,tk+2,.str s tk⟩
  | _=>⟨[],[],[],n,tk,md⟩
 | .c=>match st with
  | .Assign (.Name x _::_) (.Constant (.str s) _ _) _=>⟨[],[en P x (tk+1) (.str s tk)],[],n,tk+2,md⟩
  | .Assign (.Name x _::_) (.Constant (.int i) _ _) _=>⟨[],[en P x (tk+1) (.int i tk)],[],n,tk+2,md⟩
  | _=>⟨[],[],[],n,tk,md⟩
 | .x k kt v os tb n' tk'=>⟨os P,[en P k kt v],tb,n',tk',md⟩
noncomputable def go (P:Params):List (Stmt×Rc)->Nat->Nat->Value->List R
 | [],_,_,_=>[]
 | (st,r)::l,n,tk,md=>let x:=one P n tk md st r
  x::go P l x.n x.tk x.md
noncomputable def Ef (x:R):List R->R
 | []=>x
 | y::l=>Ef y l
noncomputable def ds:Data->List DictEntry
 | .dict es _=>es.toList
 | _=>[]
noncomputable def ep:Data->Nat
 | .dict _ n=>n
 | _=>0
noncomputable def r0:R:=⟨[],[],[],15,187,.str "__main__" 164⟩
noncomputable def rs (P:Params)(l:List (Stmt×Rc)):List R:=go P l 15 187 (.str "__main__" 164)
noncomputable def o3 (P:Params)(l:List R):Obj:=di (en P "__name__" 165 (Ef r0 l).md::((ds (boot_o_3 P).data).tail++l.flatMap R.ns)) (ep (boot_o_3 P).data+(l.flatMap R.ns).length)
noncomputable def os (P:Params)(l:List R):List Obj :=
 boot_o_0 P::boot_o_1 P::boot_o_2 P::o3 P l::boot_o_4 P::boot_o_5 P::boot_o_6 P::boot_o_7 P::boot_o_8 P::boot_o_9 P::boot_o_10 P ::
 tu []::fe (l.flatMap R.tb)::cdo "<module>" "<module>" 182 185 1 0 0 11 false .none .none .none ::
 ⟨.type "frame",none,.plain,#[some (.ref 13),some (.ref 3),some (.ref 3),none,some (.str "__main__" 164),none,some (.ref 0)]⟩::l.flatMap R.os
noncomputable def odd {α:Type}:List α->List α×List α
 | []=>([],[])
 | x::l=>(x::(odd l).2,(odd l).1)
noncomputable def bt:Nat->List Obj->BT
 | 0,_=>.nil
 | _+1,[]=>.nil
 | k+1,x::l=>.node x (bt k (odd l).1) (bt k (odd l).2)
noncomputable abbrev p0:Pos:=⟨0,0,0,0⟩
noncomputable abbrev B0:List Frame:=[topFrame p0]
noncomputable abbrev an:Option Value:=some (.ref 6)
noncomputable def ev (p:Program):Env:={ scope:=p.main.scope,locals:=mainNs,globals:=mainNs,cells:=[],code:=.ref 13,frame:=some 14 }
noncomputable def cE (p:Program):Code:=.body (behindTheImports p) (ev p)
noncomputable def sT (p:Program)(rc:List Rc)(P:Params)(m n tk:Nat)(o:OsState):SharedT:=⟨bt 12 (os P (rs P ((p.main.body.zip rc).take m))),n,{},#[],{},tk,o⟩
noncomputable def hp (p:Program)(rc:List Rc)(m n:Nat)(P:Params):Heap:=absHeap (bt 12 (os P (rs P ((p.main.body.zip rc).take m)))) n {}
noncomputable def Cut (p:Program)(rc:List Rc)(i n t:Nat)(ps:Pos)(k N n' t':Nat)(ps':Pos)(w:World):Prop:=∀ o,segRunT treeTable p w 11 an 1 N (sT p rc w.params i n t o) (piecesOf ((p.main.body.drop i).take k) (ev p) (cE p) ps B0)=some (.next,sT p rc w.params (i+k) n' t' o,cE p,ps')
noncomputable def Ch (p:Program)(rc:List Rc)(m n1 t1:Nat)(i n t:Nat)(ps:Pos)(M:Nat):Prop:=∀ w o,topRun treeTable p w 11 an M (sT p rc w.params i n t o).abs (restOf (p.main.body.drop i) (ev p) (cE p) ps B0)=some (sT p rc w.params m n1 t1 o).abs
theorem uS {p:Program}{rc:List Rc}{m n1 t1 i n t k N n' t' M:Nat}{ps ps':Pos}(c:∀ w,Cut p rc i n t ps k N n' t' ps' w)(h:Ch p rc m n1 t1 (i+k) n' t' ps' M):Ch p rc m n1 t1 i n t ps (N+M):=fun w o=>by
 have x:=piece_app (segRun_of (c w o)) (h w o)
 rw [<- List.drop_drop,List.take_append_drop] at x
 exact x
theorem yp {p:Program}{rc:List Rc}{m n1 t1:Nat}{ps:Pos}(hd:p.main.body.drop m=[]):Ch p rc m n1 t1 m n1 t1 ps 2:=fun w o=>by
 rw [hd]
 exact piece_nil rfl
theorem wU (w:World):((boot_heap w.params).isNs mainGlobals&&(a3C []:Array GenState).size==0,(boot_heap w.params).objs.size,(boot_heap w.params).nsMap mainGlobals "__annotations__")=(true,11,an):=by kernel_rfl
theorem ua {p q:Program}{loose:List Str}{Xt:Shared->Bool}{α:Type}{Yf:Shared->α}{Ya:World->α}{N M m n1 t1:Nat}{rc:List Rc}
  (e:opening p=plainProg p.main.scope.names) (hN:Nat.ble 600 N=true) (f:∀ s,fenceModules? p s=some s) (hb:behindTheImports p=p.main.body)
  (size:∀ w:World,((boot_heap w.params).isNs mainGlobals&&(a3C []:Array GenState).size==0,(boot_heap w.params).objs.size,(boot_heap w.params).nsMap mainGlobals "__annotations__")=(true,11,an))
  (pre:∀ (w:World) (o:OsState),topGo treeTable p w 11 an 12 ⟨boot_heap w.params,a3C [],boot_drawn,boot_toks,o⟩ (topStub p)=some ((sT p rc w.params 0 15 187 o).abs,⟨denote treeTable (cE p),cE p,p0,B0⟩))
  (blk:∀ (w:World) (o:OsState),segRun treeTable p w 11 an 1 1 (sT p rc w.params 0 15 187 o).abs (blockOf (behindTheImports p) (ev p) (cE p) p0 B0)=some (.next,(sT p rc w.params 0 15 187 o).abs,cE p,p0))
  (ch:Ch p rc m n1 t1 0 15 187 p0 M) (le:Nat.ble (12+(1+M)) N=true)
  (looks:∀ w:World,(fun o=>((staticsOk (importedModules p.main.body) (boot_heap w.params) (hp p rc m n1 w.params)&&namesBound p (hp p rc m n1 w.params)&&gensDone ⟨hp p rc m n1 w.params,#[],{},t1,o⟩&&laidKept (boot_heap w.params) (hp p rc m n1 w.params)),
    openSeen q loose (importedModules p.main.body) Xt true ⟨hp p rc m n1 w.params,#[],{},t1,o⟩,Yf ⟨hp p rc m n1 w.params,#[],{},t1,o⟩))=fun _=>(true,openGood q loose,Ya w)):LeftO p q loose Xt Yf Ya N :=
 LeftO.of_pieces (H₀:=boot_heap) (H₁:=hp p rc m n1) (gs₁:=#[]) (d₁:={}) (k₁:=t1) (boot_open e hN f) size
  (fun w o=>go_top (pre w o) (piece_block (blk w o) (by have x:=ch w o; rw [a1K,<- hb] at x; exact x))) le looks
noncomputable def cb (st:Stmt)(j:Nat):Stmt:=match st with
 | .ClassDef _ _ _ b _ _ _ _ _ _ _=>b.getD j st
 | _=>st
noncomputable def drec (st:Stmt):PySem.DefRec:=match st with
 | .FunctionDef n a b _ _ _ sc _ _ pos=>⟨n,a,b,sc,pos⟩
 | _=>⟨default,default,[],default,default⟩
theorem eW {α:Type}:∀ (l:List α) (i:Nat),(odd l).1[i]?=l[2 * i]?/\(odd l).2[i]?=l[2 * i+1]?
 | [],i=>by simp [odd]
 | x::l,i=>by
  refine ⟨?_,?_⟩
  ·cases i with
   | zero=>simp [odd]
   | succ j=>rw [show 2 * (j+1)=2 * j+1+1 by omega]; simp only [odd,a0E]; exact (eW l j).2
  ·simp only [odd,a0E]; exact (eW l i).1
theorem lZ {α:Type}:∀ (l:List α),(odd l).1.length=(l.length+1) / 2/\(odd l).2.length=l.length / 2
 | []=>by simp [odd]
 | x::l=>by
  have h:=lZ l
  simp only [odd,a0g,h.1,h.2]
  exact ⟨by omega,trivial⟩
theorem ko:∀ (k:Nat) (l:List Obj) (a:Nat),l.length < 2 ^ k->(bt k l).get a=l[a]?
 | 0,l,a,h=>by
  have:l=[]:=a2o.mp (by simpa using h)
  subst this; simp [bt,BT.get]
 | k+1,[],a,h=>by simp [bt,BT.get]
 | k+1,x::l,a,h=>by
  have e:2 ^ (k+1)=2 * 2 ^ k:=by rw [Nat.pow_succ]; omega
  have hl:=lZ l
  simp only [a0g] at h
  unfold bt
  rw [BT.get_node]
  by_cases h0:a=0
  ·simp [h0]
  ·rw [if_neg h0]
   by_cases h1:a % 2=1
   ·rw [if_pos h1,ko k _ _ (by omega),(eW l (a / 2)).1]
    obtain ⟨b,rfl⟩:∃ b,a=b+1:=⟨a-1,by omega⟩
    rw [a0E]; congr 1; omega
   ·rw [if_neg h1,ko k _ _ (by omega),(eW l (a / 2-1)).2]
    obtain ⟨b,rfl⟩:∃ b,a=b+1:=⟨a-1,by omega⟩
    rw [a0E]; congr 1; omega
noncomputable def lL (p:Program)(rc:List Rc)(m:Nat)(P:Params):List Obj:=os P (rs P ((p.main.body.zip rc).take m))
noncomputable def kK (p:Program)(rc:List Rc)(m:Nat)(as:List Addr)(P:Params):Frag:=as.map fun a=>(a,(lL p rc m P).getD a default)
noncomputable def okO:Option Obj->Bool
 | some ⟨_,_,.freed,_⟩=>false
 | some _=>true
 | none=>false
theorem lV {p:Program}{rc:List Rc}{m:Nat}{P:Params}{a:Addr}{o:Obj}:∀ {as:List Addr},(kK p rc m as P).lookup a=some o->a∈as/\o=(lL p rc m P).getD a default
 | [],h=>by simp [kK] at h
 | b::as,h=>by
  unfold kK at h
  rw [a0w,a2q] at h
  by_cases e:a=b
  ·subst e
   rw [beq_self_eq_true] at h
   exact ⟨a0e ..,(a0t h).symm⟩
  ·rw [beq_false_of_ne e] at h
   have x:=lV (as:=as) h
   exact ⟨a0d _ x.1,x.2⟩
noncomputable def hkk (p:Program)(rc:List Rc)(m n:Nat):Hook where
 α:=Array Obj
 obs s:=s.heap.objs
 val w:=(hp p rc m n w.params).objs
 says w h:=∀ a o,(hp p rc m n w.params).get? a=some o->h.get? a=some o
 of w s e a o x:=by unfold Heap.get? at *; rw [e]; exact x
 keeps w h h' X k a o x:=k _ _ (X a o x)
theorem F9 {p:Program}{rc:List Rc}{m n:Nat}{as:List Addr}{w:World}{h:Heap}(hl:Nat.blt (lL p rc m w.params).length 4096=true)(hc:(as.all fun a=>Nat.blt a n&&okO (lL p rc m w.params)[a]?)=true)
  (Y:(hkk p rc m n).says w h):(kK p rc m as w.params).In h:=fun a o e=>by
 obtain ⟨e1,e2⟩:=lV e
 obtain ⟨c1,c2⟩:=a1Q.mp (a0x.mp hc a e1)
 refine Y a o ?_
 have c3:a < n:=a2B c1
 have c4:(lL p rc m w.params).length < 2 ^ 12:=a2B hl
 have g:=ko 12 (lL p rc m w.params) a c4
 unfold hp Heap.get?
 rw [absHeap_at,if_pos c3]
 show (match some (((bt 12 (lL p rc m w.params)).get a).getD default) with | some ⟨_,_,.freed,_⟩=>none | o=>o)=some o
 rw [g]
 rw [a0c] at e2
 rw [<- e2]
 cases q:(lL p rc m w.params)[a]? with
 | none=>rw [q] at c2; cases c2
 | some x =>
  rw [q] at c2 e2
  have e3:o=x:=e2
  subst e3
  obtain ⟨_,_,d,_⟩:=o
  cases d<;>first | rfl | cases c2
noncomputable def pmO:Option Obj->Value
 | some ⟨_,_,.func f,_⟩=>f.pyModule
 | _=>.none
noncomputable def rfO:Option (Option Value)->Nat
 | some (some (.ref a))=>a
 | _=>0
theorem raw_mk {K:Frag}{x:Str}{st:Stmt}{dV:Value}(h1:nsIn K mainGlobals x=some (some (.ref (rfO (nsIn K mainGlobals x)))))
  (h2:K.lookup (rfO (nsIn K mainGlobals x))=some ⟨.type "function",none,.func (fnOf x x (L2.defArgs st) (L2.defBody st) (L2.defScope st) dV .none .none (pmO (K.lookup (rfO (nsIn K mainGlobals x)))) none (.ref (rfO (nsIn K mainGlobals x)-1)) .none),#[]⟩)
  (h3:codeIn K (.ref (rfO (nsIn K mainGlobals x)-1)) x=true) (h4:keepIn K (.ref (rfO (nsIn K mainGlobals x)))=true):MR.Raw K x st dV:=⟨_,_,_,_,_,_,_,_,_,_,h1,h2,h3,h4⟩
end TP

namespace A76
open M
open PySem (Str)
noncomputable abbrev q:=Str.ofString
noncomputable def aG:Fn:={ ps:=2,ns:=2,io:=[],body:=[
  .ite (.q [0,1] []) (.op .ne false [.call 264 [.var 0],.call 264 [.var 1]]) [
   .ret [] (.cst (.bl false))] [],
  .ite (.q [0] []) (.not (.op (.isI ["list","tuple"]) false [.var 0])) [
   .ret [] (.op .eq false [.mv 0,.mv 1])] [],
  .ite (.q [0,1] []) (.op .ne false [.op .len false [.var 0],.op .len false [.var 1]]) [
   .ret [] (.cst (.bl false))] [],
  .forS [0,1] [] .zip [.var 0,.var 1] [2,3] [
   .ite (.q [2,3] []) (.not (.call 263 [.var 2,.var 3])) [
    .ret [] (.cst (.bl false))] []],
  .ret [] (.cst (.bl true))] }
noncomputable def aQ:Fn:={ ps:=1,ns:=0,io:=[],body:=[
  .ite (.q [0] []) (.op (.isI ["bool"]) false [.var 0]) [
   .ret [] (.cst (.str (q "truth")))] [],
  .ite (.q [0] []) (.op (.isI ["int"]) false [.var 0]) [
   .ret [] (.cst (.str (q "number")))] [],
  .ite (.q [0] []) (.op (.isI ["str"]) false [.var 0]) [
   .ret [] (.cst (.str (q "text")))] [],
  .ite (.q [0] []) (.op (.isI ["list"]) false [.var 0]) [
   .ret [] (.cst (.str (q "list")))] [],
  .ret [] (.ifx (.op (.isI ["tuple"]) false [.mv 0]) (.cst (.str (q "tuple"))) (.cst (.str (q "none"))))] }
noncomputable def bc:Fn:={ ps:=1,ns:=1,io:=[],body:=[
  .ret [0] (.and (.op (.isI ["tuple"]) false [.var 0]) (.op .all false [.comp false .seq [.var 0] [1] none (.op .eq false [.call 264 [.var 1],.cst (.str (q "number"))])]))] }
noncomputable def aW:Fn:={ ps:=1,ns:=5,io:=[],body:=[
  .asg (.q [0] []) 1 (.comp true .seq [.var 0] [5] none (.lst true [])),
  .forS [0] [] .enm [.var 0] [2,3] [
   .forS [3] [] .seq [.op .ix false [.var 3,.cst (.int 3)]] [4] [
    .apN 1 4 2]],
  .ret [] (.mv 1)] }
noncomputable def c8:Fn:={ ps:=2,ns:=2,io:=[],body:=[
  .asg (.q [0,1] []) 2 (.call 267 [.var 0,.var 1]),
  .asg (.q [0] []) 3 (.call 295 [.var 0]),
  .ret [2,3] (.ifx (.op .gt false [.op .len false [.var 3],.var 2]) (.tup [.cst (.str (q "chain")),.var 3]) (.tup [.cst (.str (q "width")),.var 2]))] }
noncomputable def aU:Fn:={ ps:=3,ns:=1,io:=[],body:=[
  .ite (.q [2] []) (.or (.not (.op (.isI ["tuple"]) false [.var 2])) (.op .ne false [.op .len false [.var 2],.cst (.int 2)])) [
   .ret [] (.cst (.non))] [],
  .asg (.q [0,1] []) 3 (.call 267 [.var 0,.var 1]),
  .ite (.q [2,3] []) (.call 263 [.var 2,.tup [.cst (.str (q "width")),.var 3]]) [
   .ret [] (.mv 3)] [],
  .ret [2] (.ifx (.and (.op .eq false [.op .ix false [.var 2,.cst (.int 0)],.cst (.str (q "chain"))]) (.call 268 [.mv 0,.op .ix false [.var 2,.cst (.int 1)]])) (.op .len false [.op .ix false [.var 2,.cst (.int 1)]]) (.cst (.non)))] }
noncomputable def aN:Fn:={ ps:=2,ns:=1,io:=[],body:=[
  .ret [1] (.op .fdiv false [.op .sub false [.op .add false [.op .sum false [.comp false .seq [.mv 0] [2] none (.op .ix false [.var 2,.cst (.int 2)])],.var 1],.cst (.int 1)],.var 1])] }
noncomputable def ag:Fn:={ ps:=2,ns:=3,io:=[],body:=[
  .ite (.q [1] []) (.or (.not (.op (.isI ["list"]) false [.var 1])) (.not (.call 265 [.op .tuple false [.var 1]]))) [
   .ret [] (.cst (.bl false))] [],
  .ite (.q [0,1] []) (.not (.op .all false [.comp false .seq [.var 1] [2] none (.chain .le .lt (.cst (.int 0)) (.var 2) (.op .len false [.var 0]))])) [
   .ret [] (.cst (.bl false))] [],
  .ret [0,1] (.op .all false [.comp false .zip [.var 1,.op .sl1 false [.var 1,.cst (.int 1)]] [3,4] none (.op .isin false [.var 3,.op .ix false [.op .ix false [.var 0,.var 4],.cst (.int 3)]])])] }
noncomputable def bg:Fn:={ ps:=1,ns:=7,io:=[],body:=[
  .asg (.q [0] []) 1 (.op .mul false [.lst false [.cst (.int 0)],.op .len false [.var 0]]),
  .forS [0] [] .seq [.call 296 [.var 0]] [2] [
   .setI (.q [0,1] [2]) 1 (.var 2) (.op .add false [.cst (.int 1),.op .maxZ false [.comp false .seq [.op .ix false [.op .ix false [.var 0,.var 2],.cst (.int 3)]] [6] none (.op .ix false [.var 1,.var 6])]])],
  .asg (.q [] []) 3 (.lst false []),
  .asg (.q [0] []) 4 (.op .rng false [.cst (.int 0),.op .len false [.var 0]]),
  .forS [1] [] .rng [.op .maxZ false [.var 1],.cst (.int 0),.op .neg false [.cst (.int 1)]] [5] [
   .app (.q [1,4] [5]) 3 (.op .ix false [.comp false .seq [.var 4] [7] (some (.op .eq false [.op .ix false [.var 1,.var 7],.var 5])) (.var 7),.cst (.int 0)]),
   .asg (.l [0]) 4 (.op .ix false [.op .ix false [.var 0,.qx [3] [] (.op .ix false [.var 3,.op .neg false [.cst (.int 1)]])],.cst (.int 3)])],
  .revS 3,
  .ret [] (.mv 3)] }
noncomputable def bN:Fn:={ ps:=1,ns:=9,io:=[],body:=[
  .asg (.q [0] []) 1 (.comp false .seq [.var 0] [7] none (.op .len false [.op .ix false [.var 7,.cst (.int 3)]])),
  .asg (.q [0] []) 2 (.call 290 [.var 0]),
  .asg (.q [1] []) 3 (.comp true .enm [.var 1] [8,9] (some (.op .eq false [.var 9,.cst (.int 0)])) (.var 8)),
  .asg (.q [] []) 4 (.cst (.int 0)),
  .whl (.q [3,4] []) (.op .lt false [.var 4,.op .len false [.var 3]]) [
   .asg (.q [3,4] []) 5 (.op .ix false [.var 3,.var 4]),
   .forS [2] [5] .seq [.op .ix false [.var 2,.var 5]] [6] [
    .setI (.q [1,6] []) 1 (.var 6) (.op .sub false [.op .ix false [.var 1,.var 6],.cst (.int 1)]),
    .ite (.q [1,6] []) (.op .eq false [.op .ix false [.var 1,.var 6],.cst (.int 0)]) [
     .app (.q [6] []) 3 (.var 6)] []],
   .asg (.q [4] []) 4 (.op .add false [.var 4,.cst (.int 1)])],
  .ret [] (.mv 3)] }
noncomputable def bU:Fn:={ ps:=1,ns:=0,io:=[],body:=[
  .ret [] (.lst true [.op .list true [.op .sl2 true [.mv 0,.cst (.int 63)]],.cst (.int 0),.cst (.int 0)])] }
noncomputable def bz:Fn:={ ps:=2,ns:=4,io:=[0],body:=[
  .ite (.q [0] []) (.op .gt false [.op .ix false [.var 0,.cst (.int 2)],.cst (.int 0)]) [
   .asg (.q [0] [1]) 2 (.op .modN false [.op .ix false [.var 0,.cst (.int 2)],.var 1]),
   .setI (.q [0] [1]) 0 (.cst (.int 2)) (.op .fdivN false [.op .ix false [.var 0,.cst (.int 2)],.var 1]),
   .ret [] (.mv 2)] [],
  .asg (.q [0] []) 3 (.op .ix false [.var 0,.cst (.int 1)]),
  .setI (.q [3] []) 0 (.cst (.int 1)) (.op .add false [.var 3,.cst (.int 1)]),
  .asg (.q [] []) 4 (.cst (.int 0)),
  .ite (.q [0] []) (.op .gt false [.op .len false [.op .ix false [.var 0,.cst (.int 0)]],.cst (.int 0)]) [
   .asg (.q [0,3] []) 4 (.op .ix false [.op .ix false [.var 0,.cst (.int 0)],.op .modN false [.var 3,.op .len false [.op .ix false [.var 0,.cst (.int 0)]]]])] [],
  .ite (.q [0,3,4] []) (.and (.op .lt false [.var 3,.op .len false [.op .ix false [.var 0,.cst (.int 0)]]]) (.op .ge false [.var 4,.op .pow false [.cst (.int 10),.cst (.int 18)]])) [
   .setI (.q [4] [1]) 0 (.cst (.int 2)) (.op .fdivN false [.var 4,.var 1]),
   .ret [] (.op .modN false [.mv 4,.mv 1])] [],
  .asg (.q [3,4] []) 5 (.op .modN false [.op .mul false [.op .add false [.op .modN false [.var 4,.cst (.int 1000003)],.cst (.int 1)],.op .add false [.op .add false [.op .mul false [.op .mul false [.cst (.int 7919),.var 3],.var 3],.op .mul false [.cst (.int 104729),.var 3]],.cst (.int 12345)]],.cst (.int 2147483647)]),
  .asg (.q [3,4] [5]) 5 (.op .modN false [.op .add false [.op .add false [.op .mul false [.var 5,.var 5],.op .mul false [.cst (.int 48271),.var 3]],.op .modN false [.var 4,.cst (.int 65537)]],.cst (.int 2147483629)]),
  .ret [] (.op .modN false [.op .fdivN false [.mv 5,.cst (.int 8)],.mv 1])] }
noncomputable def f_law_waits:Fn:={ ps:=1,ns:=10,io:=[0],body:=[
  .asg (.l []) 1 (.op .ix false [.lst false [.cst (.int 0),.cst (.int 1),.cst (.int 2),.cst (.int 3),.cst (.int 4),.cst (.int 5),.cst (.int 6),.cst (.int 7),.cst (.int 8),.cst (.int 9),.cst (.int 10),.cst (.int 12)],.call 201 [.io 0,.cst (.int 12)]]),
  .asg (.q [] [1]) 2 (.op .rng false [.cst (.int 0),.var 1]),
  .asg (.q [] []) 3 (.lst false []),
  .asg (.q [] []) 4 (.op .dnew false []),
  .asg (.l []) 5 (.op .add false [.cst (.int 2),.call 201 [.io 0,.cst (.int 4)]]),
  .forS [] [1] .rng [.var 1] [6] [
   .asg (.l []) 7 (.popN 2 (.call 201 [.io 0,.lenV 2])),
   .setS (.l [7]) 4 (.var 7) (.op .sorted false [.compV true 3 10 (.op .eq false [.call 201 [.io 0,.var 5],.cst (.int 0)]) (.var 10)]),
   .app (.q [7] []) 3 (.var 7)],
  .asg (.q [] []) 8 (.lst false []),
  .forS [] [1] .rng [.var 1] [6] [
   .asg (.l []) 9 (.op .ix false [.lst false [.cst (.int 1),.op .add false [.cst (.int 1),.call 201 [.io 0,.cst (.int 4)]],.op .add false [.cst (.int 1),.call 201 [.io 0,.cst (.int 9)]],.op .add false [.cst (.int 20),.call 201 [.io 0,.cst (.int 40)]]],.op .fdiv false [.op .mul false [.call 201 [.io 0,.cst (.int 8)],.cst (.int 4)],.cst (.int 8)]]),
   .app (.q [4,9] [6]) 8 (.tup [.tup [.op .fdiv false [.var 6,.cst (.int 3)],.op .mod false [.var 6,.cst (.int 3)]],.tup [],.var 9,.op .ixD false [.var 4,.var 6]])],
  .ret [] (.mv 8)] }
noncomputable def bE:Fn:={ ps:=1,ns:=0,io:=[0],body:=[
  .ret [] (.op .ix false [.lst false [.cst (.int 1),.cst (.int 20),.op .add false [.cst (.int 1),.call 201 [.io 0,.cst (.int 4)]],.op .add false [.cst (.int 1),.call 201 [.io 0,.cst (.int 20)]]],.call 201 [.io 0,.cst (.int 4)]])] }
noncomputable def bG:Fn:={ ps:=1,ns:=0,io:=[],body:=[
  .ret [0] (.and (.op (.isI ["int"]) false [.var 0]) (.not (.op (.isI ["bool"]) false [.var 0])))] }
noncomputable def bb:Fn:={ ps:=1,ns:=6,io:=[],body:=[
  .asg (.q [0] []) 1 (.comp false .seq [.var 0] [6] none (.cst (.int 1))),
  .forS [0] [] .rng [.op .len false [.var 0]] [2] [
   .forS [0] [] .enm [.var 0] [3,4] [
    .forS [4] [] .seq [.op .ix false [.var 4,.cst (.int 3)]] [5] [
     .setI (.q [1,5] [3]) 1 (.var 3) (.op .max false [.op .ix false [.var 1,.var 3],.op .add false [.op .ix false [.var 1,.var 5],.cst (.int 1)]])]]],
  .ret [] (.op .max1 false [.op .add false [.lst false [.cst (.int 0)],.mv 1]])] }
noncomputable def bp:Fn:={ ps:=2,ns:=3,io:=[],body:=[
  .ite (.q [1] []) (.or (.not (.op (.isI ["list"]) false [.var 1])) (.not (.op .all false [.comp false .seq [.var 1] [4] none (.call 272 [.var 4])]))) [
   .ret [] (.cst (.bl false))] [],
  .forS [1] [] .enm [.var 1] [2,3] [
   .ite (.q [0,3] []) (.not (.chain .le .lt (.cst (.int 0)) (.var 3) (.op .len false [.var 0]))) [
    .ret [] (.cst (.bl false))] [],
   .ite (.q [0,1,3] [2]) (.and (.op .gt false [.var 2,.cst (.int 0)]) (.op .notin false [.op .ix false [.var 1,.op .sub false [.var 2,.cst (.int 1)]],.op .ix false [.op .ix false [.var 0,.var 3],.cst (.int 3)]])) [
    .ret [] (.cst (.bl false))] []],
  .ret [] (.cst (.bl true))] }
noncomputable def lY:Fn:={ ps:=1,ns:=10,io:=[],body:=[
  .asg (.q [0] []) 1 (.call 179 [.var 0]),
  .forS [] [] .rng [.cst (.int 4)] [2] [
   .asg (.l []) 3 (.call 278 [.io 1]),
   .asg (.l [3]) 4 (.call 279 [.io 1]),
   .asg (.q [3] []) 5 (.op .repr false [.var 3]),
   .asg (.q [3,4] []) 6 (.call 294 [.var 3,.var 4]),
   .asg (.q [3,4] []) 7 (.op .fdiv false [.op .sub false [.op .add false [.op .sum false [.comp false .seq [.var 3] [10] none (.op .ix false [.var 10,.cst (.int 2)])],.var 4],.cst (.int 1)],.var 4]),
   .asg (.q [3] []) 8 (.call 286 [.var 3]),
   .ite (.q [3,5,6] []) (.or (.not (.op (.isI ["tuple"]) false [.var 6])) (.or (.op .ne false [.op .len false [.var 6],.cst (.int 2)]) (.op .ne false [.op .repr false [.var 3],.var 5]))) [
    .ret [] (.cst (.bl false))] [],
   .ite (.q [6,8] [7]) (.op .ne false [.op .ix false [.var 6,.cst (.int 0)],.op .ix false [.lst false [.cst (.str (q "width")),.cst (.str (q "chain"))],.op .int false [.op .gt false [.var 8,.var 7]]]]) [
    .ret [] (.cst (.bl false))] [],
   .ite (.q [6] [7]) (.and (.op .eq false [.op .ix false [.var 6,.cst (.int 0)],.cst (.str (q "width"))]) (.or (.not (.call 272 [.op .ix false [.var 6,.cst (.int 1)]])) (.op .ne false [.op .ix false [.var 6,.cst (.int 1)],.var 7]))) [
    .ret [] (.cst (.bl false))] [],
   .ite (.q [3,6,8] []) (.and (.op .eq false [.op .ix false [.var 6,.cst (.int 0)],.cst (.str (q "chain"))]) (.or (.not (.call 287 [.var 3,.op .ix false [.var 6,.cst (.int 1)]])) (.op .ne false [.op .len false [.op .ix false [.var 6,.cst (.int 1)]],.var 8]))) [
    .ret [] (.cst (.bl false))] [],
   .asg (.q [3,4,6] []) 9 (.call 266 [.var 3,.var 4,.var 6]),
   .ite (.q [8,9] [7]) (.or (.not (.call 272 [.var 9])) (.op .ne false [.var 9,.op .max false [.var 8,.var 7]])) [
    .ret [] (.cst (.bl false))] []],
  .ret [] (.op .eq false [.call 294 [.lst false [],.cst (.int 2)],.tup [.cst (.str (q "width")),.cst (.int 0)]])] }
noncomputable def prog:List Fn:=[lY,zf,zf,zf,zf,zf,zf,zf,zf,zf,zf,zf,zf,zf,zf,zf,zf,zf,zf,zf,zf,zf,zf,zf,zf,zf,zf,zf,zf,zf,zf,zf,zf,zf,zf,zf,zf,zf,zf,zf,zf,zf,zf,zf,zf,zf,zf,zf,zf,zf,zf,zf,zf,zf,zf,zf,zf,zf,zf,zf,zf,zf,zf,zf,zf,zf,zf,zf,zf,zf,zf,zf,zf,zf,zf,zf,zf,zf,zf,zf,zf,zf,zf,zf,zf,zf,zf,zf,zf,zf,zf,zf,zf,zf,zf,zf,zf,zf,zf,zf,zf,zf,zf,zf,zf,zf,zf,zf,zf,zf,zf,zf,zf,zf,zf,zf,zf,zf,zf,zf,zf,zf,zf,zf,zf,zf,zf,zf,zf,zf,zf,zf,zf,zf,zf,zf,zf,zf,zf,zf,zf,zf,zf,zf,zf,zf,zf,zf,zf,zf,zf,zf,zf,zf,zf,zf,zf,zf,zf,zf,zf,zf,zf,zf,zf,zf,zf,zf,zf,zf,zf,zf,zf,zf,zf,zf,zf,zf,zf,bU,zf,zf,zf,zf,zf,zf,zf,zf,zf,zf,zf,zf,zf,zf,zf,zf,zf,zf,zf,zf,zf,bz,zf,zf,zf,zf,zf,zf,zf,zf,zf,zf,zf,zf,zf,zf,zf,zf,zf,zf,zf,zf,zf,zf,zf,zf,zf,zf,zf,zf,zf,zf,zf,zf,zf,zf,zf,zf,zf,zf,zf,zf,zf,zf,zf,zf,zf,zf,zf,zf,zf,zf,zf,zf,zf,zf,zf,zf,zf,zf,zf,zf,zf,aG,aQ,bc,aU,aN,ag,zf,zf,zf,bG,zf,zf,zf,zf,zf,f_law_waits,bE,zf,zf,zf,zf,zf,zf,bb,bp,zf,zf,aW,zf,zf,zf,c8,bg,bN]
end A76

set_option compiler.extract_closed false
namespace P76
noncomputable section
open M A76
open PySem (Str)
local macro_rules
 | `(tactic| simp_all only [$ls,*])=>`(tactic| simp only [zJ,zd,AE,yx,yd,ya,yh,vK,wc,xf,uC,xh,vC,v5,tZ,uD,wy,xi,wH,uf,wD,uZ,xg,vE,uR,ud,w6,uj,uo,uU,ve,om,pd,t9,wz,vY,wV,kD,rP,kOp,mL,kOr,ng,kC3,kC2,kC1,jd,fU,cG,bJ,bZ,fV,dY,lH,aX,kX,kT,kT2,kIf,tX,qP,zA,oA,wQ,lq,kNx,kRt,lO,uz,pH,okW,then',rN,fR,aS,af,ios,putAll,Bb,FQ,yS,Bj,xW,uy,uw,v8,x5,zU,AQ,AJ,zy,zc,yZ,CQ,DI,BO,Bx,Cq,DC,uJ,uB,vd,uh,Ek,AI,rf,qM,sE,qD,Am,vU,vJ,sF,sd,CM,Ej,DH,BP,pL,oU,sR,zg,yk,zI,zj,yJ,x9,Ao,Aq,uX,w8,uk,yT,qE,qe,sL,Ew,sC,qY,xK,DX,zT,zH,yu,zl,y8,zG,EF,E8,Fh,FP,Cc,DS,Bg,AW,zR,BJ,DQ,yM,BH,tK,Ax,Cz,wM,uY,C7,Ez,yj,Bc,Be,A7,oq,pO,qq,D8,pA,sv,tR,u9,uK,tY,zr,zh,yQ,p7,dR,mU,nH,mX,yB,yb,AU,AR,Ab,yo,yE,zW,DK,pG,rV,Aj,A9,at0,at1,at2,at3,at4,List.cons_append,a0K,a0F,a0w,a1L,a0N,List.replicate_zero,reduceIte,if_true,if_false,String.reduceBEq,Bool.not_true,Bool.not_false,Bool.false_eq_true,Bool.and_self,a1E,a2Q,uc,kIo,As,x3,nh,oM,mQ,nW,m7,pF,oi,qC,mW,nX,j1,kP,ke,iQ,kO,kC,oo,pY,yG,pD,AY,BU,Bt,wg,tL,y9,tq,wJ,q9,sZ,Er,zx,D2,Bd,Eb,CO,Av,r8,rL,yP,mY,nN,Ar,k8,sU,rn,zo,yr,yc,qb,D6,FG,Bn,Dm,D7,DB,D3,Dr,Ff,B9,Ds,DR,CU,By,Dc,DY,DM,EI,E7,Fc,Az,vW,yw,Bm,Cy,kQ,kd,fK,fN,kN,mf,kI,jB,ka,kV1,kV2,kj,zV,gk,x6,ni,qa,apU,$ls,*])
noncomputable abbrev C (n:Nat):Call:=callR prog 1000000 1000001 n
theorem jK (n:Nat)(ws:List W):C (n+1) 179 ws=runF (C n) bU ws:=rfl
theorem jP (n:Nat)(ws:List W):C (n+1) 201 ws=runF (C n) bz ws:=rfl
theorem fz (n:Nat)(ws:List W):C (n+1) 263 ws=runF (C n) aG ws:=rfl
theorem kr (n:Nat)(ws:List W):C (n+1) 264 ws=runF (C n) aQ ws:=rfl
theorem f7 (n:Nat)(ws:List W):C (n+1) 265 ws=runF (C n) bc ws:=rfl
theorem so (n:Nat)(ws:List W):C (n+1) 266 ws=runF (C n) aU ws:=rfl
theorem dW (n:Nat)(ws:List W):C (n+1) 267 ws=runF (C n) aN ws:=rfl
theorem aD (n:Nat)(ws:List W):C (n+1) 268 ws=runF (C n) ag ws:=rfl
theorem gZ (n:Nat)(ws:List W):C (n+1) 272 ws=runF (C n) bG ws:=rfl
theorem hX (n:Nat)(ws:List W):C (n+1) 278 ws=runF (C n) f_law_waits ws:=rfl
theorem iM (n:Nat)(ws:List W):C (n+1) 279 ws=runF (C n) bE ws:=rfl
theorem fC (n:Nat)(ws:List W):C (n+1) 286 ws=runF (C n) bb ws:=rfl
theorem gi (n:Nat)(ws:List W):C (n+1) 287 ws=runF (C n) bp ws:=rfl
theorem eV (n:Nat)(ws:List W):C (n+1) 290 ws=runF (C n) aW ws:=rfl
theorem oj (n:Nat)(ws:List W):C (n+1) 294 ws=runF (C n) c8 ws:=rfl
theorem fT (n:Nat)(ws:List W):C (n+1) 295 ws=runF (C n) bg ws:=rfl
theorem jI (n:Nat)(ws:List W):C (n+1) 296 ws=runF (C n) bN ws:=rfl
noncomputable def kx (ns:List Int)(x y:Int):T:=.lst [.lst (ns.map T.int),.int x,.int y]
noncomputable def Tp (N:Nat)(t:T):Prop:=∃ ns x y,t=kx ns ((x:Nat):Int) y/\x<=N
theorem tm {a b:Nat}{t:T}(h:Tp a t)(hab:a<=b):Tp b t:=by obtain ⟨ns,x,y,e,hx⟩:=h; exact ⟨ns,x,y,e,a0y hx hab⟩
theorem zC {α:Type}(a b c:α):ixN [a,b,c].length 1=some 1:=rfl
theorem AK {α:Type}(a b c:α):ixN [a,b,c].length 2=some 2:=rfl
theorem kR:oSem .pow false [(.d,.int 10),(.d,.int 18)]=some (.d,.int 1000000000000000000):=rfl
theorem DN {ns:List Int}{x:Int}(hx:0<=x)(hn:ns≠[]):∃ c,atI (ns.map T.int) (x.fmod ((ns.map T.int).length:Int))=some (.int c):=by
 have hl:0 < ns.length:=a1V.mpr hn
 have e:((ns.map T.int).length:Int)=(ns.length:Int):=by rw [a0b]
 rw [e,a1r x (by omega)]
 have h1:0<=x % (ns.length:Int):=a3o _ (by omega)
 have h2:x % (ns.length:Int) < ns.length:=a2R _ (by omega)
 obtain ⟨j,hj⟩:∃ j:Nat,x % (ns.length:Int)=j:=⟨_,(a1y h1).symm⟩
 have hj':j < ns.length:=by omega
 exact ⟨ns[j],atN hj (by rw [a0s,a0h hj']; rfl)⟩
theorem fm {a k:Int}(hk:0 < k):0<=a.fmod k/\a.fmod k < k:=by
 rw [a1r a (by omega)]
 exact ⟨a3o _ (by omega),a2R _ hk⟩
theorem fQ {n N:Nat}{t:T}(m:Md)(k:Int)(ht:Tp N t)(hN:N < 1000000000000000000)(hk:0 < k)(hk2:k < 1000000000000000000) :
  ∃ r t',0<=r/\r < k/\Tp (N+1) t'/\C (n+1) 201 [(.d,t),(m,.int k)]=.ok ((.d,.int r),[(.d,t')]):=by
 obtain ⟨ns,x,y,rfl,hx⟩:=ht
 have k0:(k != 0)=true:=bne_iff_ne.mpr (by omega)
 have k1:decide (k.natAbs < 18446744073709551616)=true:=decide_eq_true (by omega)
 rw [jP,x_run _ _ _ rfl]
 cases hz:decide (0 < y) with
 | true =>
  refine ⟨y.fmod k,kx ns ((x:Nat):Int) (y.fdiv k),(fm hk).1,(fm hk).2,⟨ns,x,_,rfl,by omega⟩,?_⟩
  simp_all only [bz,kx,hz,k0,k1,zC,AK,a14,a15]
 | false =>
  simp_all only [bz,kx,hz,zC,AK,a14,a15]
  generalize hE:onF _ _ _ _=e
  obtain ⟨c,rfl⟩:∃ c:Int,e=.nx [some (Md.d,T.lst [T.lst (a3D T.int ns),T.int ((x:Nat)+1),T.int y]),some (m,T.int k),none,some (Md.d,T.int x),some (Md.d,T.int c),none]:=by
   rw [<- hE]
   by_cases hn:ns=[]
   ·subst hn
    exact ⟨0,rfl⟩
   ·obtain ⟨c,hc⟩:=DN (x:=(x:Int)) (by omega) hn
    have hp:decide (0 < ((a3D T.int ns).length:Int))=true:=decide_eq_true (by rw [a0b]; have:=a1V.mpr hn; omega)
    have hq:(((a3D T.int ns).length:Int) != 0)=true:=bne_iff_ne.mpr (by have:=of_decide_eq_true hp; omega)
    refine ⟨c,?_⟩
    simp_all only [hp,hq,hc]
  have xb:decide ((x:Int).natAbs < 18446744073709551616)=true:=decide_eq_true (by omega)
  have cb:∀ a:Int,decide ((a.fmod 1000003+1).natAbs < 18446744073709551616)=true:=fun a=>decide_eq_true (by have:=fm (a:=a) (show (0:Int) < 1000003 by decide); omega)
  have nb:∀ a:Int,decide ((a.fmod 2147483647).natAbs < 18446744073709551616)=true:=fun a=>decide_eq_true (by have:=fm (a:=a) (show (0:Int) < 2147483647 by decide); omega)
  have b1:decide ((7919:Int).natAbs < 18446744073709551616)=true:=rfl
  have b2:decide ((104729:Int).natAbs < 18446744073709551616)=true:=rfl
  have b3:decide ((48271:Int).natAbs < 18446744073709551616)=true:=rfl
  have z1:((1000003:Int) != 0)=true:=rfl
  have z2:((2147483647:Int) != 0)=true:=rfl
  have z3:((65537:Int) != 0)=true:=rfl
  have z4:((2147483629:Int) != 0)=true:=rfl
  have z5:((8:Int) != 0)=true:=rfl
  have z6:decide ((8:Int).natAbs < 18446744073709551616)=true:=rfl
  cases h1:decide ((x:Int) < ((a3D T.int ns).length:Int)) with
  | false =>
   simp_all only [h1,k0,k1,kR,xb,cb,nb,b1,b2,b3,z1,z2,z3,z4,z5,z6,a23,a26]
   exact ⟨_,_,(fm hk).1,(fm hk).2,⟨ns,x+1,y,rfl,by omega⟩,rfl⟩
  | true =>
   cases h2:decide (1000000000000000000<=c) with
   | false =>
    simp_all only [h1,h2,k0,k1,kR,xb,cb,nb,b1,b2,b3,z1,z2,z3,z4,z5,z6,a23,a26]
    exact ⟨_,_,(fm hk).1,(fm hk).2,⟨ns,x+1,y,rfl,by omega⟩,rfl⟩
   | true =>
    simp_all only [h1,h2,k0,k1,kR,zC,AK,a14,a15]
    exact ⟨_,_,(fm hk).1,(fm hk).2,⟨ns,x+1,c.fdiv k,rfl,by omega⟩,rfl⟩
theorem aL {α:Type}(f:α->Md)(g:α->T):∀ ts:List α,aS (ts.map fun x=>(f x,g x))=ts.map g
 | []=>rfl
 | x::ts=>by show g x::aS _=g x::ts.map g; rw [aL f g ts]
theorem fh:∀ bs:List Bool,aZ (bs.map T.bl)=some bs
 | []=>rfl
 | b::bs=>by show (aZ (bs.map T.bl)).map (b::·)=_; rw [fh bs]; rfl
theorem bT {α:Type}(g:α->Bool)(ts:List α):aS (ts.map (fun t=>((.d,.bl (g t)):W)))=(ts.map g).map T.bl:=by rw [aL (fun _=>Md.d) (fun u=>T.bl (g u)),a1h]; rfl
theorem Dw (i:Int):(["int"].any fun c=>isOne c (T.int i))=true:=rfl
theorem EK:(["int"].any fun c=>isOne c T.non)=false:=rfl
theorem EX (x:Str):(["int"].any fun c=>isOne c (T.str x))=false:=rfl
theorem Fg (ts:List T):(["int"].any fun c=>isOne c (T.tup ts))=false:=rfl
theorem FK (ts:List T):(["int"].any fun c=>isOne c (T.lst ts))=false:=rfl
theorem Cv (i:Int):(["bool"].any fun c=>isOne c (T.int i))=false:=rfl
theorem FX (b:Bool):(["bool"].any fun c=>isOne c (T.bl b))=true:=rfl
theorem FU:(["bool"].any fun c=>isOne c T.non)=false:=rfl
theorem Fm (x:Str):(["bool"].any fun c=>isOne c (T.str x))=false:=rfl
theorem Fo (ts:List T):(["bool"].any fun c=>isOne c (T.tup ts))=false:=rfl
theorem Fe (ts:List T):(["bool"].any fun c=>isOne c (T.lst ts))=false:=rfl
theorem Fj (i:Int):(["list"].any fun c=>isOne c (T.int i))=false:=rfl
theorem FH (b:Bool):(["list"].any fun c=>isOne c (T.bl b))=false:=rfl
theorem C8:(["list"].any fun c=>isOne c T.non)=false:=rfl
theorem EV (x:Str):(["list"].any fun c=>isOne c (T.str x))=false:=rfl
theorem CF (ts:List T):(["list"].any fun c=>isOne c (T.tup ts))=false:=rfl
theorem sP (ts:List T):(["list"].any fun c=>isOne c (T.lst ts))=true:=rfl
theorem FC (i:Int):(["tuple"].any fun c=>isOne c (T.int i))=false:=rfl
theorem EB (b:Bool):(["tuple"].any fun c=>isOne c (T.bl b))=false:=rfl
theorem CH:(["tuple"].any fun c=>isOne c T.non)=false:=rfl
theorem EN (x:Str):(["tuple"].any fun c=>isOne c (T.str x))=false:=rfl
theorem hV (ts:List T):(["tuple"].any fun c=>isOne c (T.tup ts))=true:=rfl
theorem E4 (ts:List T):(["tuple"].any fun c=>isOne c (T.lst ts))=false:=rfl
theorem Cg (i:Int):(["list","tuple"].any fun c=>isOne c (T.int i))=false:=rfl
theorem Co (x:Str):(["list","tuple"].any fun c=>isOne c (T.str x))=false:=rfl
theorem xo (ts:List T):(["list","tuple"].any fun c=>isOne c (T.tup ts))=true:=rfl
theorem rOks_all:∀ {ts:List T},rOks ts=true ↔ ∀ t∈ts,rOk t=true
 | []=>⟨(fun _ _ h=>nomatch h),fun _=>rfl⟩
 | t::ts=>by
  show (rOk t&&rOks ts)=true ↔ _
  rw [a0j,rOks_all]
  constructor
  ·rintro ⟨h1,h2⟩ u hu
   rcases a0r.mp hu with rfl | hu
   ·exact h1
   ·exact h2 u hu
  ·exact fun h=>⟨h t a0e,fun u hu=>h u (a0d _ hu)⟩
theorem bf {α:Type}{tg:List Nat}{f:Env->Fl}{g:α->List W}(I:List α->Env->Prop):∀ (ts pre:List α) (η:Env),I pre η->(∀ p x r η,pre++ts=p++x::r->I p η->∃ η1 η2,aY tg (g x) η=some η1/\f η1=.nx η2/\I (p++[x]) η2) ->
  ∃ η',bR tg f (ts.map g) η=.nx η'/\I (pre++ts) η'
 | [],pre,η,h,_=>⟨η,rfl,by rw [a0F]; exact h⟩
 | x::ts,pre,η,h,k=>by
  obtain ⟨η1,η2,h1,h2,h3⟩:=k pre x ts η rfl h
  obtain ⟨η',e,hi⟩:=bf I ts (pre++[x]) η2 h3 fun p y r η e=>k p y r η (by rw [<- e,a0T]; rfl)
  refine ⟨η',?_,by rw [a0T] at hi; exact hi⟩
  rw [a0w]
  show Fl.of _ (ofO (aY tg (g x) η)) _=_
  rw [h1]
  show Fl.turn (f η1) _=_
  rw [h2]
  exact e
theorem mm (C:Call):∀ (a b:List S) (η:Env),evSs C (a++b) η=(evSs C a η).seq (evSs C b)
 | [],b,η=>rfl
 | s::a,b,η=>by
  show (evS C s η).seq (evSs C (a++b))=((evS C s η).seq (evSs C a)).seq (evSs C b)
  cases evS C s η<;>first | rfl | exact mm C a b _
theorem go1 {C:Call}{a b:List S}{η η':Env}(h:evSs C a η=.nx η'):evSs C (a++b) η=evSs C b η':=by rw [mm,h]; rfl
noncomputable abbrev Bk (f:Fn)(i j:Nat):List S:=(f.body.drop i).take j
theorem jv {x y:Int}:∀ {l:List Int},y∈insI x l->y=x\/y∈l
 | [],h=>.inl (a0q.mp h)
 | z::l,h=>by
  unfold insI at h
  split at h
  ·rcases a0r.mp h with e | e
   ·exact .inl e
   ·exact .inr e
  ·rcases a0r.mp h with e | e
   ·exact .inr (e ▸ a0e)
   ·exact (jv e).imp id (a0d _)
theorem jD (x:Int):∀ l:List Int,(insI x l).length=l.length+1
 | []=>rfl
 | z::l=>by
  unfold insI
  split
  ·rfl
  ·rw [a0g,jD x l,a0g]
theorem eB {y:Int}:∀ {l:List Int},y∈sortI l->y∈l
 | [],h=>h
 | x::l,h=>by
  rcases jv (show y∈insI x (sortI l) from h) with e | e
  ·exact e ▸ a0e
  ·exact a0d _ (eB e)
theorem gE:∀ l:List Int,(sortI l).length=l.length
 | []=>rfl
 | x::l=>by show (insI x (sortI l)).length=_; rw [jD,gE l,a0g]
theorem jC:∀ l:List Int,intsOf (l.map T.int)=some l
 | []=>rfl
 | i::l=>by show (intsOf (l.map T.int)).map (i::·)=_; rw [jC l]; rfl
theorem lJ (l:List Int):leaves (l.map T.int)=true:=a0x.mpr fun t ht=>by
 obtain ⟨i,_,rfl⟩:=a0z.mp ht
 rfl
theorem gC:∀ (l:List Int) (j:Nat),(l.map T.int).eraseIdx j=(l.eraseIdx j).map T.int
 | [],_=>rfl
 | _::_,0=>rfl
 | x::l,j+1=>by show T.int x::(l.map T.int).eraseIdx j=T.int x::(l.eraseIdx j).map T.int; rw [gC l j]
theorem lW:∀ (l:List Int) (j:Nat) (hj:j < l.length),(l[j]::l.eraseIdx j).Perm l
 | [],_,h=>nomatch h
 | x::l,0,_=>List.Perm.refl _
 | x::l,j+1,h=>(List.Perm.swap x _ (l.eraseIdx j)).trans ((lW l j (Nat.lt_of_succ_lt_succ h)).cons x)
theorem x8 (l:List Int)(j:Nat)(hj:j < l.length)(h9:j < 1000)(n:Md):∃ x∈l,(∀ y∈l,y=x\/y∈l.eraseIdx j)/\(x::l.eraseIdx j).Perm l/\gB (.d,.lst (l.map T.int)) (n,.int (j:Int))=some ((.d,.int x),(.d,.lst ((l.eraseIdx j).map T.int))):=by
 refine ⟨l[j],a2r hj,fun y hy=>?_,lW l j hj,?_⟩
 ·obtain ⟨k,hk,rfl⟩:=a1R.mp hy
  by_cases e:k=j
  ·exact .inl (by subst e; rfl)
  ·exact .inr (List.mem_eraseIdx_iff_getElem.mpr ⟨k,hk,e,rfl⟩)
 ·show (if (decide ((0:Int)<=(j:Int))&&decide ((j:Int) < 1000)&&leaves (l.map T.int))=true then ((l.map T.int)[(j:Int).toNat]?).map (fun t=>(((.d,t),(.d,.lst ((l.map T.int).eraseIdx (j:Int).toNat))):W×W)) else none)=_
  rw [decide_eq_true (by omega),decide_eq_true (by omega),lJ,a09,a0s,a0h hj,gC]
  rfl
theorem qJ {P:T->Prop}(q:Int ⊕ Str)(t:T)(ht:P t):∀ (ks:List (Int ⊕ Str)) (vs:List T),vs.length=ks.length->(∀ v∈vs,P v)->(aI q t ks vs).2.length=(aI q t ks vs).1.length/\(aI q t ks vs).1.length<=ks.length+1/\(∀ v∈(aI q t ks vs).2,P v)/\(∀ z,z=q\/z∈ks->z∈(aI q t ks vs).1)
 | [],[],_,_=>⟨rfl,a0m _,(fun v hv=>by rw [a0q.mp hv]; exact ht),fun z hz=>hz.elim (fun e=>e ▸ a0q.mpr rfl) fun h=>nomatch h⟩
 | [],_::_,e,_=>by cases e
 | _::_,[],e,_=>by cases e
 | y::ys,v::vs,e,h=>by
  unfold aI
  split
  ·rename_i hy
   refine ⟨e,a2l _,fun u hu=>?_,fun z hz=>?_⟩
   ·rcases a0r.mp hu with rfl | hu
    ·exact ht
    ·exact h u (a0d _ hu)
   ·rcases hz with rfl | hz
    ·rw [hy]; exact a0e
    ·exact hz
  ·obtain ⟨a,b,c,d⟩:=qJ q t ht ys vs (a1d e) fun u hu=>h u (a0d _ hu)
   refine ⟨by rw [a0g,a0g,a],by rw [a0g,a0g]; omega,fun u hu=>?_,fun z hz=>?_⟩
   ·rcases a0r.mp hu with rfl | hu
    ·exact h u a0e
    ·exact c u hu
   ·rcases hz with rfl | hz
    ·exact a0d _ (d z (.inl rfl))
    ·rcases a0r.mp hz with rfl | hz
     ·exact a0e
     ·exact a0d _ (d z (.inr hz))
theorem ma {P:T->Prop}(q:Int ⊕ Str):∀ (ks:List (Int ⊕ Str)) (vs:List T),vs.length=ks.length->(∀ v∈vs,P v)->q∈ks->∃ v,lookD q ks vs=some v/\P v
 | [],_,_,_,h=>nomatch h
 | _::_,[],e,_,_=>by cases e
 | y::ys,v::vs,e,h,hq=>by
  by_cases hy:y=q
  ·exact ⟨v,if_pos hy,h v a0e⟩
  ·rcases a0r.mp hq with rfl | hq
   ·exact absurd rfl hy
   ·obtain ⟨u,a,b⟩:=ma q ys vs (a1d e) (fun u hu=>h u (a0d _ hu)) hq
    exact ⟨u,(if_neg hy).trans a,b⟩
theorem jn (q z:Int ⊕ Str)(t:T):∀ (ks:List (Int ⊕ Str)) (vs:List T),vs.length=ks.length->lookD z (aI q t ks vs).1 (aI q t ks vs).2=if z=q then some t else lookD z ks vs
 | [],[],_=>by
  show (if q=z then some t else none)=_
  by_cases h:q=z
  ·rw [if_pos h,if_pos h.symm]
  ·rw [if_neg h,if_neg fun e=>h e.symm]; rfl
 | [],_::_,e=>by cases e
 | _::_,[],e=>by cases e
 | y::ys,v::vs,e=>by
  unfold aI
  split
  ·rename_i hy
   show (if y=z then some t else lookD z ys vs)=if z=q then some t else if y=z then some v else lookD z ys vs
   by_cases h:z=q
   ·rw [if_pos h,if_pos (hy.trans h.symm)]
   ·rw [if_neg h,if_neg fun e=>h (e.symm.trans hy),if_neg fun e=>h (e.symm.trans hy)]
  ·rename_i hy
   show (if y=z then some v else lookD z (aI q t ys vs).1 (aI q t ys vs).2)=if z=q then some t else if y=z then some v else lookD z ys vs
   rw [jn q z t ys vs (a1d e)]
   by_cases h:z=q
   ·rw [if_pos h,if_pos h,if_neg fun e=>hy (e.trans h)]
   ·rw [if_neg h,if_neg h]
noncomputable abbrev CD:E:=.op .eq false [.call 201 [.io 0,.var 5],.cst (.int 0)]
theorem C3 (n:Nat)(o1 o2 o4 o6 o7 o8 o9:Option W)(m5:Md)(k:Int)(hk:0 < k)(hk2:k < 100):∀ (l:List Int) (N:Nat) (t:T),Tp N t->N+l.length < 1000000000000000000->∃ (ws:List W) (rs:List Int) (t':T),ws=rs.map (fun i=>((.s,.int i):W))/\(∀ i∈rs,i∈l)/\rs.length<=l.length/\Tp (N+l.length) t' /\
  ∀ acc,aA [10] (bZ (evE (C (n+1)) CD) (evE (C (n+1)) (.var 10))) (l.map fun i=>[((.s,.int i):W)]) [some (.d,t),o1,o2,none,o4,some (m5,.int k),o6,o7,o8,o9,none] acc=.ok (acc++ws,[some (.d,t'),o1,o2,none,o4,some (m5,.int k),o6,o7,o8,o9,none])
 | [],N,t,ht,_=>⟨[],[],t,rfl,(fun _ h=>nomatch h),a0m _,ht,fun acc=>by rw [a0F]; rfl⟩
 | i::l,N,t,ht,hN=>by
  rw [a0g] at hN
  have hd:=fun m=>fQ (n:=n) (m:=m) k ht (by omega) hk (by omega)
  obtain ⟨r,t1,_,_,ht1,e1⟩:=hd (lkM m5)
  obtain ⟨ws,rs,t2,rfl,h2,h3,ht2,e2⟩:=C3 n o1 o2 o4 o6 o7 o8 o9 m5 k hk hk2 l (N+1) t1 ht1 (by omega)
  have ht2':Tp (N+(i::l).length) t2:=tm ht2 (by rw [a0g]; omega)
  cases hr:r==0 with
  | true =>
   refine ⟨_,i::rs,t2,rfl,fun x hx=>?_,by rw [a0g,a0g]; omega,ht2',fun acc=>?_⟩
   ·rcases a0r.mp hx with rfl | hx
    ·exact a0e
    ·exact a0d _ (h2 x hx)
   ·have st:bZ (evE (C (n+1)) CD) (evE (C (n+1)) (.var 10)) [some (.d,t),o1,o2,none,o4,some (m5,.int k),o6,o7,o8,o9,some (.s,.int i)]=.ok (some (.s,.int i),[some (.d,t1),o1,o2,none,o4,some (m5,.int k),o6,o7,o8,o9,some (.s,.int i)]):=by
     simp_all only [bZ,e1,hr]
    rw [a0w]
    show (bZ _ _ _).bind _=_
    rw [show put [some ((.d,t):W),o1,o2,none,o4,some (m5,.int k),o6,o7,o8,o9,none] 10 (.s,.int i)=[some (.d,t),o1,o2,none,o4,some (m5,.int k),o6,o7,o8,o9,some (.s,.int i)] from rfl,st]
    show aA [10] _ _ _ (acc++[((.s,.int i):W)])=_
    rw [show af [10] [some ((.d,t1):W),o1,o2,none,o4,some (m5,.int k),o6,o7,o8,o9,some (.s,.int i)]=[some (.d,t1),o1,o2,none,o4,some (m5,.int k),o6,o7,o8,o9,none] from rfl,e2,a0T]
    rfl
  | false =>
   refine ⟨_,rs,t2,rfl,fun x hx=>a0d _ (h2 x hx),by rw [a0g]; omega,ht2',fun acc=>?_⟩
   have st:bZ (evE (C (n+1)) CD) (evE (C (n+1)) (.var 10)) [some (.d,t),o1,o2,none,o4,some (m5,.int k),o6,o7,o8,o9,some (.s,.int i)]=.ok (none,[some (.d,t1),o1,o2,none,o4,some (m5,.int k),o6,o7,o8,o9,some (.s,.int i)]):=by
    simp_all only [bZ,e1,hr]
   rw [a0w]
   show (bZ _ _ _).bind _=_
   rw [show put [some ((.d,t):W),o1,o2,none,o4,some (m5,.int k),o6,o7,o8,o9,none] 10 (.s,.int i)=[some (.d,t),o1,o2,none,o4,some (m5,.int k),o6,o7,o8,o9,some (.s,.int i)] from rfl,st]
   show aA [10] _ _ _ (acc++[])=_
   rw [show af [10] [some ((.d,t1):W),o1,o2,none,o4,some (m5,.int k),o6,o7,o8,o9,some (.s,.int i)]=[some (.d,t1),o1,o2,none,o4,some (m5,.int k),o6,o7,o8,o9,none] from rfl,e2,a0F]
noncomputable def iP (n:Nat)(t:T):Prop:=∃ ns:List Int,t=.lst (ns.map T.int)/\(∀ x∈ns,0<=x/\x < (n:Int))/\ns.length<=12
noncomputable abbrev WB1:List S:=[
   .asg (.l []) 7 (.popN 2 (.call 201 [.io 0,.lenV 2])),
   .setS (.l [7]) 4 (.var 7) (.op .sorted false [.compV true 3 10 CD (.var 10)]),
   .app (.q [7] []) 3 (.var 7)]
theorem mD (rs:List Int):(rs.map fun i=>((.s,.int i):W)).all okD=true:=a0x.mpr fun w hw=>by
 obtain ⟨i,_,rfl⟩:=a0z.mp hw
 rfl
theorem tJ (rs:List Int):aS (rs.map fun i=>((.s,.int i):W))=rs.map T.int:=aL (fun _=>Md.s) T.int rs
theorem vA (n L N:Nat)(t:T)(ht:Tp N t)(hN:N+50 < 1000000000000000000)(hn:n<=12)(l tu:List Int)(hl:1<=l.length)(hl2:l.length<=12)(hl3:∀ x∈l,0<=x/\x < (n:Int))(htu:tu.length<=12)(htu3:∀ x∈tu,0<=x/\x < (n:Int))(ks:List (Int ⊕ Str))(vs:List T)(hk:vs.length=ks.length)(hk2:ks.length<=12)(hv:∀ v∈vs,iP n v)(m4:Md)(hm4:m4≠.s)(k:Int)(hk0:0 < k)(hk1:k < 100)(o1 o6 o7:Option W) :
  ∃ t' x j ks' vs',Tp (N+15) t'/\x∈l/\(∀ y∈l,y=x\/y∈l.eraseIdx j)/\(x::l.eraseIdx j).Perm l/\(∃ ns:List Int,(∀ y∈ns,y∈tu)/\∀ z,lookD z ks' vs'=if z=.inl x then some (.lst (ns.map T.int)) else lookD z ks vs)/\j < l.length/\vs'.length=ks'.length/\ks'.length<=ks.length+1/\(∀ v∈vs',iP n v)/\(∀ z:Int ⊕ Str,z=.inl x\/z∈ks->z∈ks') /\
  ∃ o7',evSs (C (L+1)) WB1 [some (.d,t),o1,some (.d,.lst (l.map T.int)),some (.o .s,.lst (tu.map T.int)),some (m4,.dct ks vs),some (.d,.int k),o6,o7,none,none,none]=.nx [some (.d,t'),o1,some (.d,.lst ((l.eraseIdx j).map T.int)),some (.o .s,.lst ((tu++[x]).map T.int)),some (.o .s,.dct ks' vs'),some (.d,.int k),o6,o7',none,none,none]:=by
 obtain ⟨r,t1,r0,r1,ht1,e1⟩:=fQ (n:=L) .d ((l.length:Nat):Int) ht (by omega) (by omega) (by omega)
 obtain ⟨j,rfl⟩:∃ j:Nat,r=(j:Int):=⟨r.toNat,by omega⟩
 obtain ⟨x,hx,hy,hpm,ep⟩:=x8 l j (by omega) (by omega) .d
 have hlen:(((l.map T.int).length:Nat):Int)=((l.length:Nat):Int):=by rw [a0b]
 obtain ⟨ws,rs,t2,rfl,h2,h3,ht2,e2⟩:=C3 L o1 (some (.d,.lst ((l.eraseIdx j).map T.int))) (some (m4,.dct ks vs)) o6 (some (.s,.int x)) none none .d k hk0 hk1 tu (N+1) t1 ht1 (by omega)
 have em:(tu.map T.int).map (fun u=>[((.s,u):W)])=tu.map fun i=>[((.s,.int i):W)]:=by rw [a1h]; rfl
 have hvw:vwT (some (.o .s,.lst (tu.map T.int)))=some (tu.map T.int):=if_pos (lJ tu)
 have ao:=mD rs
 have tr:=tJ rs
 have im:=jC rs
 have rl:decide (rs.length < 64)=true:=decide_eq_true (by omega)
 have hLs:iP n (.lst ((sortI rs).map T.int)):=⟨sortI rs,rfl,fun y hy=>htu3 y (h2 y (eB hy)),by rw [gE]; omega⟩
 obtain ⟨p1,p2,p3,p4⟩:=qJ (P:=iP n) (.inl x) (.lst ((sortI rs).map T.int)) hLs ks vs hk hv
 have lk:decide (ks.length < LIM)=true:=decide_eq_true (by show _ < 16777215; omega)
 have hst:∀ m m',ed (m4,.dct ks vs) (m,.int x) (m',.lst ((sortI rs).map T.int))=some (.o .s,.dct (aI (.inl x) (.lst ((sortI rs).map T.int)) ks vs).1 (aI (.inl x) (.lst ((sortI rs).map T.int)) ks vs).2):=fun m m'=>by
  cases m4 with
  | s=>exact absurd rfl hm4
  | d=>show (if decide (ks.length < LIM)=true then _ else none)=_; rw [if_pos lk]
  | o _=>show (if decide (ks.length < LIM)=true then _ else none)=_; rw [if_pos lk]
 have lt:((tu.map T.int).length < LIM)=True:=eq_true (by rw [a0b]; show _ < 16777215; omega)
 have ap:tu.map T.int++[T.int x]=(tu++[x]).map T.int:=by rw [a3p]; rfl
 refine ⟨t2,x,j,_,_,tm ht2 (by omega),hx,hy,hpm,⟨sortI rs,fun y hy=>h2 y (eB hy),fun z=>jn _ z _ ks vs hk⟩,by omega,p1,p2,p3,p4,?_⟩
 generalize (aI (.inl x) (.lst ((sortI rs).map T.int)) ks vs).1=ks' at hst
 generalize (aI (.inl x) (.lst ((sortI rs).map T.int)) ks vs).2=vs' at hst
 have hA:evSs (C (L+1)) [.asg (.l []) 7 (.popN 2 (.call 201 [.io 0,.lenV 2]))] [some (.d,t),o1,some (.d,.lst (l.map T.int)),some (.o .s,.lst (tu.map T.int)),some (m4,.dct ks vs),some (.d,.int k),o6,o7,none,none,none]=.nx [some (.d,t1),o1,some (.d,.lst ((l.eraseIdx j).map T.int)),some (.o .s,.lst (tu.map T.int)),some (m4,.dct ks vs),some (.d,.int k),o6,some (.d,.int x),none,none,none]:=by
  generalize l.map T.int=lt at hlen ep
  simp_all only [hlen,e1,ep]
 have hB:evSs (C (L+1)) [.setS (.l [7]) 4 (.var 7) (.op .sorted false [.compV true 3 10 CD (.var 10)])] [some (.d,t1),o1,some (.d,.lst ((l.eraseIdx j).map T.int)),some (.o .s,.lst (tu.map T.int)),some (m4,.dct ks vs),some (.d,.int k),o6,some (.d,.int x),none,none,none]=.nx [some (.d,t2),o1,some (.d,.lst ((l.eraseIdx j).map T.int)),some (.o .s,.lst (tu.map T.int)),some (.o .s,.dct ks' vs'),some (.d,.int k),o6,some (.s,.int x),none,none,none]:=by
  simp_all only [hvw,em,e2,ao,tr,im,rl,hst]
 have hC:evSs (C (L+1)) [.app (.q [7] []) 3 (.var 7)] [some (.d,t2),o1,some (.d,.lst ((l.eraseIdx j).map T.int)),some (.o .s,.lst (tu.map T.int)),some (.o .s,.dct ks' vs'),some (.d,.int k),o6,some (.s,.int x),none,none,none]=.nx [some (.d,t2),o1,some (.d,.lst ((l.eraseIdx j).map T.int)),some (.o .s,.lst ((tu++[x]).map T.int)),some (.o .s,.dct ks' vs'),some (.d,.int k),o6,some (.s,.int x),none,none,none]:=by
  rw [<- ap]
  simp_all only [lt]
 refine ⟨some (.s,.int x),?_⟩
 show evSs (C (L+1)) ([.asg (.l []) 7 (.popN 2 (.call 201 [.io 0,.lenV 2]))]++([.setS (.l [7]) 4 (.var 7) (.op .sorted false [.compV true 3 10 CD (.var 10)])]++[.app (.q [7] []) 3 (.var 7)])) _=_
 rw [go1 hA,go1 hB,hC]
noncomputable def Rk (rk:Int->Nat)(ks:List (Int ⊕ Str))(vs:List T):Prop:=∀ (z:Int) (v:T),lookD (.inl z) ks vs=some v->rk z < 13/\∃ ns:List Int,v=.lst (ns.map T.int)/\∀ y∈ns,rk y < rk z
noncomputable def Kd (tu:List Int)(ks:List (Int ⊕ Str))(vs:List T):Prop:=∀ (z:Int) (v:T),lookD (.inl z) ks vs=some v->z∈tu/\∃ ns:List Int,v=.lst (ns.map T.int)/\∀ y∈ns,y∈tu/\tu.idxOf y < tu.idxOf z
theorem uI {tu:List Int}{ks ks':List (Int ⊕ Str)}{vs vs':List T}{x:Int}(h:Kd tu ks vs)(hx:x ∉ tu)(ns:List Int)(hn:∀ y∈ns,y∈tu)(e:∀ z,lookD z ks' vs'=if z=.inl x then some (.lst (ns.map T.int)) else lookD z ks vs):Kd (tu++[x]) ks' vs':=fun z v hz=>by
 rw [e] at hz
 by_cases hh:z=x
 ·subst hh
  rw [if_pos rfl] at hz
  refine ⟨a0o _ a0e,ns,(a0t hz).symm,fun y hy=>⟨a0I _ (hn y hy),?_⟩⟩
  rw [a1H,if_pos (hn y hy),a1H,if_neg hx]
  have:=a1W (hn y hy)
  omega
 ·rw [if_neg fun e=>hh (a3Q e)] at hz
  obtain ⟨a,ns',b,c⟩:=h z v hz
  refine ⟨a0I _ a,ns',b,fun y hy=>⟨a0I _ (c y hy).1,?_⟩⟩
  rw [a1H,if_pos (c y hy).1,a1H,if_pos a]
  exact (c y hy).2
theorem vG (n L N:Nat)(t:T)(ht:Tp N t)(hN:N+1000 < 1000000000000000000)(hn:n<=12)(k:Int)(hk0:0 < k)(hk1:k < 100)(o1:Option W)(l0:List Int)(hl0:l0.length=n)(hl1:∀ x∈l0,0<=x/\x < (n:Int))(hl2:∀ i:Nat,i < n->(i:Int)∈l0)(hnd:l0.Nodup) :
  ∃ t' w2 w3 m4 ks vs o6 o7,Tp (N+15 * n) t'/\(∃ rk,Rk rk ks vs)/\vs.length=ks.length/\ks.length<=12/\(∀ v∈vs,iP n v)/\(∀ i:Nat,i < n->(.inl (i:Int):Int ⊕ Str)∈ks) /\
   bR [6] (evSs (C (L+1)) WB1) ((a0k n).map fun (i:Nat)=>[((.d,.int (i:Int)):W)]) [some (.d,t),o1,some (.d,.lst (l0.map T.int)),some (.o .s,.lst []),some (.d,.dct [] []),some (.d,.int k),none,none,none,none,none]=.nx [some (.d,t'),o1,w2,w3,some (m4,.dct ks vs),some (.d,.int k),o6,o7,none,none,none]:=by
 obtain ⟨η',lp,t',l,tu,m4,ks,vs,o6,o7,ht',hnd1,hkd,hm4,h1,h2,h3,h4,h5,h6,h7,h8,rfl⟩:=bf (tg:=[6]) (f:=evSs (C (L+1)) WB1) (g:=fun (i:Nat)=>[((.d,.int (i:Int)):W)])
  (fun pre η=>∃ (t':T) (l tu:List Int) (m4:Md) (ks:List (Int ⊕ Str)) (vs:List T) (o6 o7:Option W),Tp (N+15 * pre.length) t'/\(l++tu).Nodup/\Kd tu ks vs/\m4≠.s/\l.length+pre.length=n/\tu.length=pre.length/\vs.length=ks.length/\ks.length<=pre.length/\(∀ v∈vs,iP n v)/\(∀ x∈l,0<=x/\x < (n:Int))/\(∀ x∈tu,0<=x/\x < (n:Int))/\(∀ i:Nat,i < n->(i:Int)∈l\/(.inl (i:Int):Int ⊕ Str)∈ks)/\η=[some (.d,t'),o1,some (.d,.lst (l.map T.int)),some (.o .s,.lst (tu.map T.int)),some (m4,.dct ks vs),some (.d,.int k),o6,o7,none,none,none])
  (a0k n) [] [some (.d,t),o1,some (.d,.lst (l0.map T.int)),some (.o .s,.lst []),some (.d,.dct [] []),some (.d,.int k),none,none,none,none,none]
  ⟨t,l0,[],.d,[],[],none,none,ht,by rw [a0F]; exact hnd,(fun _ _ h=>nomatch h),by simp,by simpa using hl0,rfl,rfl,a0m _,(fun _ h=>nomatch h),hl1,(fun _ h=>nomatch h),fun i hi=>.inl (hl2 i hi),rfl⟩
  (fun p i r η hp ⟨t',l,tu,m4,ks,vs,o6,o7,ht',hnd1,hkd,hm4,h1,h2,h3,h4,h5,h6,h7,h8,he⟩=>by
   subst he
   have hpl:=congrArg a1T hp
   simp only [a0K,a0C,a0l,a0g] at hpl
   obtain ⟨t2,x,j,ks',vs',ht2,hx,hy,hpm,⟨ns,hns,hlk⟩,hj,a1,a2,a3,a4,o7',e⟩:=vA n L _ t' ht' (by omega) hn l tu (by omega) (by omega) h6 (by omega) h7 ks vs h3 (by omega) h5 m4 hm4 k hk0 hk1 o1 (some (.d,.int (i:Int))) o7
   have hnd2:(x::(l.eraseIdx j++tu)).Nodup:=(a2N (List.Perm.append_right tu hpm)).mpr hnd1
   have hxt:x ∉ tu:=fun h=>(a0Y.mp hnd2).1 (a0o _ h)
   have hnd3:(l.eraseIdx j++(tu++[x])).Nodup:=by
    rw [<- a0T]
    exact (a2N (List.perm_append_singleton _ _)).mpr hnd2
   refine ⟨_,_,rfl,e,t2,l.eraseIdx j,tu++[x],.o .s,ks',vs',_,o7',?_,hnd3,uI hkd hxt ns hns hlk,by simp,?_,?_,a1,?_,a3,?_,?_,?_,rfl⟩
   ·rw [a0l,a0u]; exact tm ht2 (by omega)
   ·rw [List.length_eraseIdx_of_lt hj,a0l,a0u]; omega
   ·rw [a0l,a0l,h2]; rfl
   ·rw [a0l,a0u]; omega
   ·exact fun y hy=>h6 y (List.mem_of_mem_eraseIdx hy)
   ·intro y hy
    rcases a0O.mp hy with z | z
    ·exact h7 y z
    ·rw [a0q.mp z]; exact h6 x hx
   ·intro i hi
    rcases h8 i hi with z | z
    ·rcases hy _ z with q | q
     ·exact .inr (a4 _ (.inl (by rw [q])))
     ·exact .inl q
    ·exact .inr (a4 _ (.inr z)))
 rw [a0K,a0C] at ht' h1 h2 h4
 have hl:l=[]:=a1P (by omega)
 subst hl
 exact ⟨t',_,_,m4,ks,vs,o6,o7,ht',⟨tu.idxOf,fun z v hz=>by
  obtain ⟨a,ns,b,c⟩:=hkd z v hz
  have:=a1W a
  have:tu.idxOf z < 13:=by omega
  exact ⟨this,ns,b,fun y hy=>(c y hy).2⟩⟩,h3,by omega,h5,fun i hi=>(h8 i hi).elim (fun z=>nomatch z) id,lp⟩
noncomputable def StT (n:Nat)(t:T):Prop:=∃ (i j:Nat) (w:Int) (ns:List Int),t=.tup [.tup [.int (i:Int),.int (j:Int)],.tup [],.int w,.lst (ns.map T.int)]/\i<=100/\j<=100/\1<=w/\w<=60/\(∀ x∈ns,0<=x/\x < (n:Int))/\ns.length<=12
noncomputable abbrev WB2:List S:=[
   .asg (.l []) 9 (.op .ix false [.lst false [.cst (.int 1),.op .add false [.cst (.int 1),.call 201 [.io 0,.cst (.int 4)]],.op .add false [.cst (.int 1),.call 201 [.io 0,.cst (.int 9)]],.op .add false [.cst (.int 20),.call 201 [.io 0,.cst (.int 40)]]],.op .fdiv false [.op .mul false [.call 201 [.io 0,.cst (.int 8)],.cst (.int 4)],.cst (.int 8)]]),
   .app (.q [4,9] [6]) 8 (.tup [.tup [.op .fdiv false [.var 6,.cst (.int 3)],.op .mod false [.var 6,.cst (.int 3)]],.tup [],.var 9,.op .ixD false [.var 4,.var 6]])]
noncomputable def RkT (rk:Int->Nat)(i:Int)(u:T):Prop:=rk i < 13/\∃ (a b c:T) (ns:List Int),u=.tup [a,b,c,.lst (ns.map T.int)]/\∀ y∈ns,rk y < rk i
theorem u0 (n L N:Nat)(t:T)(ht:Tp N t)(hN:N+50 < 1000000000000000000)(hn:n<=12)(i:Nat)(hi:i < n)(ks:List (Int ⊕ Str))(vs:List T)(hk:vs.length=ks.length)(hv:∀ v∈vs,iP n v)(hin:(.inl (i:Int):Int ⊕ Str)∈ks)(m4:Md)(fs:List T)(hf:fs.length<=12)(o1 w2 w3 o5 o7 o9:Option W) :
  ∃ t' u o9',Tp (N+4) t'/\StT n u/\(∀ rk,Rk rk ks vs->RkT rk (i:Int) u)/\evSs (C (L+1)) WB2 [some (.d,t),o1,w2,w3,some (m4,.dct ks vs),o5,some (.d,.int (i:Int)),o7,some (.o .s,.lst fs),o9,none]=.nx [some (.d,t'),o1,w2,w3,some (.s,.dct ks vs),o5,some (.d,.int (i:Int)),o7,some (.o .s,.lst (fs++[u])),o9',none]:=by
 obtain ⟨r1,t1,a1,b1,ht1,e1⟩:=fQ (n:=L) .d 4 ht (by omega) (by decide) (by decide)
 obtain ⟨r2,t2,a2,b2,ht2,e2⟩:=fQ (n:=L) .d 9 ht1 (by omega) (by decide) (by decide)
 obtain ⟨r3,t3,a3,b3,ht3,e3⟩:=fQ (n:=L) .d 40 ht2 (by omega) (by decide) (by decide)
 obtain ⟨r4,t4,a4,b4,ht4,e4⟩:=fQ (n:=L) .d 8 ht3 (by omega) (by decide) (by decide)
 have hw:∃ w:Int,1<=w/\w<=60/\atI [T.int 1,T.int (1+r1),T.int (1+r2),T.int (20+r3)] (r4 * 4 / 8)=some (.int w):=by
  have h:r4 * 4 / 8=0\/r4 * 4 / 8=1\/r4 * 4 / 8=2\/r4 * 4 / 8=3:=by omega
  rcases h with h | h | h | h<;>rw [h]
  ·exact ⟨1,by omega,by omega,rfl⟩
  ·exact ⟨1+r1,by omega,by omega,rfl⟩
  ·exact ⟨1+r2,by omega,by omega,rfl⟩
  ·exact ⟨20+r3,by omega,by omega,rfl⟩
 obtain ⟨w,w1,w60,aw⟩:=hw
 obtain ⟨v,lv,ns,rfl,hns,hnl⟩:=ma (P:=iP n) (.inl (i:Int)) ks vs hk hv hin
 have p1:decide ((0:Int) < 8)=true:=rfl
 have p2:decide ((8:Int) < 1073741824)=true:=rfl
 have p3:decide ((0:Int) < 3)=true:=rfl
 have p4:decide ((3:Int) < 1073741824)=true:=rfl
 have p5:decide ((4:Int).natAbs < 18446744073709551616)=true:=rfl
 have kT:keyT (.int (i:Int))=some (.inl (i:Int)):=rfl
 have q1:(i:Int) / 3=((i / 3:Nat):Int):=by omega
 have q2:(i:Int) % 3=((i % 3:Nat):Int):=by omega
 have fl:(fs.length < LIM)=True:=eq_true (by show _ < 16777215; omega)
 have hA:evSs (C (L+1)) (WB2.take 1) [some (.d,t),o1,w2,w3,some (m4,.dct ks vs),o5,some (.d,.int (i:Int)),o7,some (.o .s,.lst fs),o9,none]=.nx [some (.d,t4),o1,w2,w3,some (m4,.dct ks vs),o5,some (.d,.int (i:Int)),o7,some (.o .s,.lst fs),some (.s,.int w),none]:=by
  simp_all only [a1w,a2H,e1,e2,e3,e4,p1,p2,p5,a26,aw]
 have hB:∃ o9',evSs (C (L+1)) (WB2.drop 1) [some (.d,t4),o1,w2,w3,some (m4,.dct ks vs),o5,some (.d,.int (i:Int)),o7,some (.o .s,.lst fs),some (.s,.int w),none]=.nx [some (.d,t4),o1,w2,w3,some (.s,.dct ks vs),o5,some (.d,.int (i:Int)),o7,some (.o .s,.lst (fs++[.tup [.tup [.int ((i / 3:Nat):Int),.int ((i % 3:Nat):Int)],.tup [],.int w,.lst (ns.map T.int)]])),o9',none]:=by
  exact ⟨_,by simp_all only [a1X,a1K,p3,p4,q1,q2,kT,lv,fl]; rfl⟩
 obtain ⟨o9',hB⟩:=hB
 refine ⟨t4,_,o9',tm ht4 (by omega),⟨i / 3,i % 3,w,ns,rfl,by omega,by omega,w1,w60,hns,hnl⟩,fun rk hr=>?_,?_⟩
 ·obtain ⟨a,ns',b,c⟩:=hr _ _ lv
  have b:T.lst (ns.map T.int)=T.lst (ns'.map T.int):=b
  exact ⟨a,_,_,_,ns',by rw [b],c⟩
 show evSs (C (L+1)) (WB2.take 1++WB2.drop 1) _=_
 rw [go1 hA,hB]
theorem tH (n L N:Nat)(t:T)(ht:Tp N t)(hN:N+1000 < 1000000000000000000)(hn:n<=12)(ks:List (Int ⊕ Str))(vs:List T)(hk:vs.length=ks.length)(hv:∀ v∈vs,iP n v)(hin:∀ i:Nat,i < n->(.inl (i:Int):Int ⊕ Str)∈ks)(m4:Md)(o1 w2 w3 o5 o6 o7:Option W) :
  ∃ t' fs m4' o6' o9,Tp (N+4 * n) t'/\fs.length=n/\(∀ u∈fs,StT n u)/\(∀ rk,Rk rk ks vs->∀ k:Nat,k < fs.length->RkT rk (k:Int) (fs.getD k .non))/\bR [6] (evSs (C (L+1)) WB2) ((a0k n).map fun (i:Nat)=>[((.d,.int (i:Int)):W)]) [some (.d,t),o1,w2,w3,some (m4,.dct ks vs),o5,o6,o7,some (.o .s,.lst []),none,none]=.nx [some (.d,t'),o1,w2,w3,some (m4',.dct ks vs),o5,o6',o7,some (.o .s,.lst fs),o9,none]:=by
 obtain ⟨η',lp,t',fs,m4',o6',o9,ht',h1,h2,hk2,rfl⟩:=bf (tg:=[6]) (f:=evSs (C (L+1)) WB2) (g:=fun (i:Nat)=>[((.d,.int (i:Int)):W)])
  (fun pre η=>∃ (t':T) (fs:List T) (m4':Md) (o6' o9:Option W),Tp (N+4 * pre.length) t'/\fs.length=pre.length/\(∀ u∈fs,StT n u)/\(∀ rk,Rk rk ks vs->∀ k:Nat,k < fs.length->RkT rk (k:Int) (fs.getD k .non))/\η=[some (.d,t'),o1,w2,w3,some (m4',.dct ks vs),o5,o6',o7,some (.o .s,.lst fs),o9,none])
  (a0k n) [] [some (.d,t),o1,w2,w3,some (m4,.dct ks vs),o5,o6,o7,some (.o .s,.lst []),none,none]
  ⟨t,[],m4,o6,none,ht,rfl,(fun _ h=>nomatch h),(fun _ _ _ h=>nomatch h),rfl⟩
  (fun p i r η hp ⟨t',fs,m4',o6',o9,ht',h1,h2,hk2,he⟩=>by
   subst he
   have hpl:=congrArg a1T hp
   simp only [a0K,a0C,a0l,a0g] at hpl
   have hi:i < n:=by
    have:i∈a0k n:=by rw [a0K] at hp; rw [hp]; exact a0o _ a0e
    exact a0U.mp this
   obtain ⟨t2,u,o9',ht2,hu,hur,e⟩:=u0 n L _ t' ht' (by omega) hn i hi ks vs hk hv (hin i hi) m4' fs (by omega) o1 w2 w3 o5 o7 o9
   have hip:i=p.length:=by
    rw [a0K] at hp
    have q1:(a0k n)[p.length]?=some i:=by rw [hp,a0B (a0m _),a16]; rfl
    rw [a0S (by omega)] at q1
    exact (a0t q1).symm
   refine ⟨_,_,rfl,e,t2,fs++[u],.s,_,o9',?_,?_,?_,?_,rfl⟩
   ·rw [a0l,a0u]; exact tm ht2 (by omega)
   ·rw [a0l,a0l,h1]; rfl
   ·intro y hy
    rcases a0O.mp hy with z | z
    ·exact h2 y z
    ·rw [a0q.mp z]; exact hu
   ·intro rk hr k hk
    rw [a0l,a0u] at hk
    by_cases hk3:k < fs.length
    ·have:=hk2 rk hr k hk3
     rw [a0c] at this ⊢
     rw [a0Q hk3]
     exact this
    ·have e3:k=fs.length:=by omega
     rw [e3,a0c,a0B (a0m _),a16,h1,<- hip]
     exact hur rk hr)
 rw [a0K,a0C] at ht' h1
 exact ⟨t',fs,m4',o6',o9,ht',h1,h2,hk2,lp⟩
theorem zD (r:Int)(h0:0<=r)(h1:r < 12):∃ n:Nat,n<=12/\atI [T.int 0,.int 1,.int 2,.int 3,.int 4,.int 5,.int 6,.int 7,.int 8,.int 9,.int 10,.int 12] r=some (.int (n:Int)):=by
 have h:r=0\/r=1\/r=2\/r=3\/r=4\/r=5\/r=6\/r=7\/r=8\/r=9\/r=10\/r=11:=by omega
 rcases h with rfl | rfl | rfl | rfl | rfl | rfl | rfl | rfl | rfl | rfl | rfl | rfl
 ·exact ⟨0,by decide,rfl⟩
 ·exact ⟨1,by decide,rfl⟩
 ·exact ⟨2,by decide,rfl⟩
 ·exact ⟨3,by decide,rfl⟩
 ·exact ⟨4,by decide,rfl⟩
 ·exact ⟨5,by decide,rfl⟩
 ·exact ⟨6,by decide,rfl⟩
 ·exact ⟨7,by decide,rfl⟩
 ·exact ⟨8,by decide,rfl⟩
 ·exact ⟨9,by decide,rfl⟩
 ·exact ⟨10,by decide,rfl⟩
 ·exact ⟨12,by decide,rfl⟩
theorem qT {L N:Nat}{t:T}(ht:Tp N t)(hN:N+3000 < 1000000000000000000):∃ md fs t',Tp (N+300) t'/\fs.length<=12/\(∀ u∈fs,StT fs.length u)/\(∃ rk:Int->Nat,∀ k:Nat,k < fs.length->RkT rk (k:Int) (fs.getD k .non))/\C (L+2) 278 [(.d,t)]=.ok ((md,.lst fs),[(.d,t')]):=by
 obtain ⟨r,t1,r0,r1,ht1,e1⟩:=fQ (n:=L) .d 12 ht (by omega) (by decide) (by decide)
 obtain ⟨n,hn,an⟩:=zD r r0 r1
 obtain ⟨r2,t2,r20,r21,ht2,e2⟩:=fQ (n:=L) .d 4 ht1 (by omega) (by decide) (by decide)
 have z1:(decide ((0:Int).natAbs < 4611686018427387904)&&decide ((n:Int).natAbs < 4611686018427387904)&&fits ((n:Int)-0).toNat)=true:=by
  rw [decide_eq_true (by omega),decide_eq_true (by omega)]
  exact decide_eq_true (by show _<=16777215; omega)
 have z2:((n:Int)-0).toNat=n:=by omega
 have z3:(a0k n).map (fun (k:Nat)=>T.int (0+(k:Int)))=((a0k n).map fun (k:Nat)=>(k:Int)).map T.int:=by
  rw [a1h]
  refine a0W fun k _=>?_
  show T.int (0+(k:Int))=T.int (k:Int)
  rw [a3M]
 obtain ⟨t3,w2,w3,m4,ks,vs,o6,o7,ht3,⟨rk,hrk⟩,h1,h2,h3,h4,lp1⟩:=vG n L _ t2 ht2 (by omega) hn (2+r2) (by omega) (by omega) (some (.s,.int (n:Int))) ((a0k n).map fun (k:Nat)=>(k:Int)) (by rw [a0b,a0C]) (fun x hx=>by
  obtain ⟨k,hk,rfl⟩:=a0z.mp hx
  have:=a0U.mp hk
  omega) (fun i hi=>a0z.mpr ⟨i,a0U.mpr hi,rfl⟩) (List.pairwise_map.mpr (a3T (fun h e=>h (Int.ofNat.inj e)) a3f))
 obtain ⟨t4,fs,m4',o6',o9,ht4,f1,f2,f3,lp2⟩:=tH n L _ t3 ht3 (by omega) hn ks vs h1 h3 h4 m4 (some (.s,.int (n:Int))) w2 w3 (some (.d,.int (2+r2))) o6 o7
 have n1:(decide ((n:Int).natAbs < 4611686018427387904)&&fits n)=true:=by
  rw [decide_eq_true (by omega)]
  exact decide_eq_true (by show _<=16777215; omega)
 have n2:(n:Int).toNat=n:=by omega
 have hrg:oSem .rng false [(.d,.int 0),(.d,.int (n:Int))]=some (.d,.lst (((a0k n).map fun (k:Nat)=>(k:Int)).map T.int)):=by rw [C2,if_pos z1,z2,z3]
 have hA:evSs (C (L+1)) (Bk f_law_waits 0 5) [some (.d,t),none,none,none,none,none,none,none,none,none,none]=.nx [some (.d,t2),some (.s,.int (n:Int)),some (.d,.lst (((a0k n).map fun (k:Nat)=>(k:Int)).map T.int)),some (.o .s,.lst []),some (.d,.dct [] []),some (.d,.int (2+r2)),none,none,none,none,none]:=by
  simp_all only [Bk,f_law_waits,a1K,a1w,a2H,e1,an,hrg,e2]
 have hB:evSs (C (L+1)) (Bk f_law_waits 5 1) [some (.d,t2),some (.s,.int (n:Int)),some (.d,.lst (((a0k n).map fun (k:Nat)=>(k:Int)).map T.int)),some (.o .s,.lst []),some (.d,.dct [] []),some (.d,.int (2+r2)),none,none,none,none,none]=.nx [some (.d,t3),some (.s,.int (n:Int)),w2,w3,some (m4,.dct ks vs),some (.d,.int (2+r2)),o6,o7,none,none,none]:=by
  simp_all only [Bk,f_law_waits,a1X,a1K,a1w,a2H,n1,n2,lp1]
 have hC:∃ md η,evSs (C (L+1)) (f_law_waits.body.drop 6) [some (.d,t3),some (.s,.int (n:Int)),w2,w3,some (m4,.dct ks vs),some (.d,.int (2+r2)),o6,o7,none,none,none]=.rt (md,.lst fs) (some (.d,t4)::η):=⟨_,_,by simp_all only [f_law_waits,a1X,a1K,n1,n2,lp2]; rfl⟩
 obtain ⟨md,η,hC⟩:=hC
 refine ⟨md,fs,t4,tm ht4 (by omega),by omega,by rw [f1]; exact f2,⟨rk,f3 rk hrk⟩,?_⟩
 rw [hX,x_run _ _ _ rfl,show f_law_waits.body=Bk f_law_waits 0 5++(Bk f_law_waits 5 1++f_law_waits.body.drop 6) from rfl]
 show Fl.out [0] (evSs (C (L+1)) (Bk f_law_waits 0 5++(Bk f_law_waits 5 1++f_law_waits.body.drop 6)) [some (.d,t),none,none,none,none,none,none,none,none,none,none])=_
 rw [go1 hA,go1 hB,hC]
 rfl
theorem oJ {L N:Nat}{t:T}(ht:Tp N t)(hN:N+10 < 1000000000000000000):∃ md h t',Tp (N+3) t'/\1<=h/\h<=20/\C (L+2) 279 [(.d,t)]=.ok ((md,.int h),[(.d,t')]):=by
 obtain ⟨r1,t1,a1,b1,ht1,e1⟩:=fQ (n:=L) .d 4 ht (by omega) (by decide) (by decide)
 obtain ⟨r2,t2,a2,b2,ht2,e2⟩:=fQ (n:=L) .d 20 ht1 (by omega) (by decide) (by decide)
 obtain ⟨r3,t3,a3,b3,ht3,e3⟩:=fQ (n:=L) .d 4 ht2 (by omega) (by decide) (by decide)
 have hw:∃ w:Int,1<=w/\w<=20/\atI [T.int 1,T.int 20,T.int (1+r1),T.int (1+r2)] r3=some (.int w):=by
  have h:r3=0\/r3=1\/r3=2\/r3=3:=by omega
  rcases h with rfl | rfl | rfl | rfl
  ·exact ⟨1,by omega,by omega,rfl⟩
  ·exact ⟨20,by omega,by omega,rfl⟩
  ·exact ⟨1+r1,by omega,by omega,rfl⟩
  ·exact ⟨1+r2,by omega,by omega,rfl⟩
 obtain ⟨w,w1,w2,aw⟩:=hw
 exact ⟨_,w,t3,tm ht3 (by omega),w1,w2,by rw [iM,x_run _ _ _ rfl]; simp_all only [bE,e1,e2,e3,aw]; rfl⟩
noncomputable def wOf:T->Int
 | .tup [_,_,.int w,_]=>w
 | _=>0
noncomputable def ahT:T->List T
 | .tup [_,_,_,.lst ts]=>ts
 | _=>[]
noncomputable def dB (L:List T):Int:=(L.map wOf).sum
structure Sts (L:List T):Prop where
 len:L.length<=12
 st:∀ u∈L,StT L.length u
 rk:∃ rk:Int->Nat,∀ k:Nat,k < L.length->RkT rk (k:Int) (L.getD k .non)
theorem lu:∀ {L:List T} {n:Nat},(∀ u∈L,StT n u)->intsOf (L.map fun u=>T.int (wOf u))=some (L.map wOf)
 | [],_,_=>rfl
 | u::L,n,h=>by
  show (intsOf (L.map fun u=>T.int (wOf u))).map (wOf u::·)=_
  rw [lu fun v hv=>h v (a0d _ hv)]; rfl
theorem xC:∀ {L:List T} {n:Nat},(∀ u∈L,StT n u)->0<=dB L/\dB L<=60 * (L.length:Int)
 | [],_,_=>⟨a2M _,a2M _⟩
 | u::L,n,h=>by
  obtain ⟨a,b⟩:=xC fun v hv=>h v (a0d _ hv)
  obtain ⟨i,j,w,ns,rfl,_,_,w1,w2,_,_⟩:=h u a0e
  have e:dB (.tup [.tup [.int (i:Int),.int (j:Int)],.tup [],.int w,.lst (ns.map T.int)]::L)=w+dB L:=by unfold dB; rw [a0w,a2n]; rfl
  rw [e,a0g]
  omega
noncomputable def srt:T->String
 | .bl _=>"truth" | .int _=>"number" | .str _=>"text" | .lst _=>"list" | .tup _=>"tuple" | _=>"none"
theorem FT (x:Str):(["str"].any fun c=>isOne c (T.str x))=true:=rfl
theorem F3 (ts:List T):(["str"].any fun c=>isOne c (T.tup ts))=false:=rfl
theorem ES (ts:List T):(["str"].any fun c=>isOne c (T.lst ts))=false:=rfl
theorem Fd:(["str"].any fun c=>isOne c T.non)=false:=rfl
theorem cq (n:Nat)(t:T)(h:rOk t=true)(m:Md):C (n+1) 264 [(m,t)]=.ok ((.d,.str (q (srt t))),[]):=by
 rw [kr,x_run _ _ _ rfl]
 cases t with
 | int i=>simp_all only [aQ,Cv,Dw,srt]
 | bl b=>simp_all only [aQ,FX,srt]
 | non=>simp_all only [aQ,FU,EK,Fd,C8,CH,srt]
 | str x=>simp_all only [aQ,Fm,EX,FT,srt]
 | tup ts=>simp_all only [aQ,Fo,Fg,F3,CF,hV,srt]
 | lst ts=>simp_all only [aQ,Fe,FK,ES,sP,srt]
 | _=>cases h
theorem qeq (a b:String):(q a==q b)=(a==b):=by
 by_cases h:a=b
 ·subst h; simp
 ·have h2:q a≠q b:=fun z=>h (by
   have:=congrArg (fun s:Str=>s.cps.toList) z
   rw [q,Str.ofString_eq_toList,Str.ofString_eq_toList] at this
   simp only at this
   have h3:a.toList=b.toList:=by
    have inj:∀ l1 l2:List Char,l1.map Char.toNat=l2.map Char.toNat->l1=l2:=by
     intro l1
     induction l1 with
     | nil=>intro l2 h; cases l2 with
      | nil=>rfl
      | cons=>cases h
     | cons c cs ih=>intro l2 h; cases l2 with
      | nil=>cases h
      | cons d ds =>
       rw [a0w,a0w] at h
       injection h with h1 h2
       rw [ih ds h2,Char.toNat_inj.mp h1]
    exact inj _ _ (by simpa using this)
   exact String.toList_inj.mp h3)
  rw [beq_eq_false_iff_ne.mpr h2,beq_eq_false_iff_ne.mpr h]
noncomputable def eqS (s:Str):T->Bool
 | .str z=>z==s
 | _=>false
noncomputable def eqI (l:Int):T->Bool
 | .int i=>i==l
 | _=>false
theorem alS (n:Nat)(s:Str)(hs:rOk (.str s)=true)(a:T)(h:rOk a=true)(m m':Md):C (n+2) 263 [(m,a),(m',.str s)]=.ok ((.d,.bl (eqS s a)),[]):=by
 have e1:=fun m=>cq n a h m
 have e2:=fun m=>cq n (.str s) hs m
 rw [fz,x_run _ _ _ rfl]
 cases a with
 | int i=>simp_all only [aG,e1,e2,srt,qeq,eqS]
 | bl b=>simp_all only [aG,e1,e2,srt,qeq,eqS]
 | non=>simp_all only [aG,e1,e2,srt,qeq,eqS]
 | str x=>simp_all only [aG,e1,e2,srt,qeq,eqS,Co]
 | tup ts=>simp_all only [aG,e1,e2,srt,qeq,eqS]
 | lst ts=>simp_all only [aG,e1,e2,srt,qeq,eqS]
 | _=>cases h
theorem alI (n:Nat)(l:Int)(hs:rOk (.int l)=true)(a:T)(h:rOk a=true)(m m':Md):C (n+2) 263 [(m,a),(m',.int l)]=.ok ((.d,.bl (eqI l a)),[]):=by
 have e1:=fun m=>cq n a h m
 have e2:=fun m=>cq n (.int l) hs m
 rw [fz,x_run _ _ _ rfl]
 cases a with
 | int i=>simp_all only [aG,e1,e2,srt,qeq,eqI,Cg]
 | bl b=>simp_all only [aG,e1,e2,srt,qeq,eqI]
 | non=>simp_all only [aG,e1,e2,srt,qeq,eqI]
 | str x=>simp_all only [aG,e1,e2,srt,qeq,eqI]
 | tup ts=>simp_all only [aG,e1,e2,srt,qeq,eqI]
 | lst ts=>simp_all only [aG,e1,e2,srt,qeq,eqI]
 | _=>cases h
noncomputable abbrev AB:List S:=[
   .ite (.q [2,3] []) (.not (.call 263 [.var 2,.var 3])) [
    .ret [] (.cst (.bl false))] []]
theorem al2 (n:Nat)(s:Str)(l:Int)(hs:rOk (.str s)=true)(hl:rOk (.int l)=true)(a x:T)(ha:rOk a=true)(hx:rOk x=true)(m m':Md):C (n+3) 263 [(m,.tup [a,x]),(m',.tup [.str s,.int l])]=.ok ((.d,.bl (eqS s a&&eqI l x)),[]):=by
 have e1:=fun m=>cq (n+1) (.tup [a,x]) (by show (rOk a&&(rOk x&&true))=true; rw [ha,hx]; rfl) m
 have e2:=fun m=>cq (n+1) (.tup [.str s,.int l]) (by show (rOk (.str s)&&(rOk (.int l)&&true))=true; rw [hs,hl]; rfl) m
 have a1:=fun m m'=>alS n s hs a ha m m'
 have a2:=fun m m'=>alI n l hl x hx m m'
 have l2:((([a,x].length:Nat):Int)==(([T.str s,T.int l].length:Nat):Int))=true:=rfl
 have zt:eI .s .s [a,x] [T.str s,T.int l]=[[(.s,a),(.s,.str s)],[(.s,x),(.s,.int l)]]:=rfl
 have st:∀ (w0 w1:Option W),∃ η',bR [2,3] (evSs (C (n+2)) AB) [[(.s,a),(.s,.str s)],[(.s,x),(.s,.int l)]] [w0,w1,none,none]=if (eqS s a&&eqI l x)=true then .nx η' else .rt (.d,.bl false) η':=fun w0 w1=>by
  have t1:∀ (b:Bool) (u v:T) (hh:∀ m m',C (n+2) 263 [(m,u),(m',v)]=.ok ((.d,.bl b),[])),∃ o2 o3,evSs (C (n+2)) AB [w0,w1,some (.s,u),some (.s,v)]=if b=true then .nx [w0,w1,o2,o3] else .rt (.d,.bl false) [w0,w1,o2,o3]:=fun b u v hh=>by
   cases b with
   | true=>exact ⟨some (.s,u),some (.s,v),by simp_all only [hh]⟩
   | false=>exact ⟨some (.s,u),some (.s,v),by simp_all only [hh]⟩
  obtain ⟨o2,o3,f1⟩:=t1 _ a (.str s) a1
  obtain ⟨o4,o5,f2⟩:=t1 _ x (.int l) a2
  show ∃ η',Fl.turn (evSs (C (n+2)) AB [w0,w1,some (.s,a),some (.s,.str s)]) (bR [2,3] (evSs (C (n+2)) AB) [[(.s,x),(.s,.int l)]])=_
  rw [f1]
  cases h1:eqS s a with
  | false=>exact ⟨[w0,w1,o2,o3],by rw [if_neg a0f]; rfl⟩
  | true =>
   rw [if_pos rfl,a1E]
   show ∃ η',Fl.turn (evSs (C (n+2)) AB [w0,w1,some (.s,x),some (.s,.int l)]) (bR [2,3] (evSs (C (n+2)) AB) [])=_
   rw [f2]
   cases h2:eqI l x with
   | false=>exact ⟨[w0,w1,o4,o5],by rw [if_neg a0f]; rfl⟩
   | true=>exact ⟨[w0,w1,o4,o5],by rw [if_pos rfl]; rfl⟩
 obtain ⟨η',lp⟩:=st (some (.s,.tup [a,x])) (some (.s,.tup [.str s,.int l]))
 rw [fz,x_run _ _ _ rfl]
 cases hb:eqS s a&&eqI l x with
 | true =>
  rw [hb,if_pos rfl] at lp
  simp_all only [aG,e1,e2,srt,qeq,xo,l2,zt,lp]
 | false =>
  rw [hb,if_neg a0f] at lp
  simp_all only [aG,e1,e2,srt,qeq,xo,l2,zt,lp]
theorem Ct {i j:T}{w:Int}{ns:List Int}:atI [i,j,T.int w,.lst (ns.map T.int)] 2=some (T.int w):=at2 _ _ _ _
theorem xp (F:Call)(s:Nat)(L:List T){n:Nat}(h:∀ u∈L,StT n u)(η:Env)(hη:∀ t,rd (put η s (.s,t)) s=some (.s,t))(hd:∀ t,af [s] (put η s (.s,t))=η) :
  aA [s] (bJ (evE F (.op .ix false [.var s,.cst (.int 2)]))) (L.map fun t=>[((.s,t):W)]) η []=.ok ([]++L.map (fun u=>((.s,.int (wOf u)):W)),η):=aR (fun u=>((.s,.int (wOf u)):W)) L [] fun u hu=>⟨_,put η s (.s,u),rfl,by
  obtain ⟨i,j,w,ns,rfl,_⟩:=h u hu
  show (evE F (.op .ix false [.var s,.cst (.int 2)]) (put η s (.s,_))).bind cG=_
  have e:evE F (.op .ix false [.var s,.cst (.int 2)]) (put η s (.s,.tup [.tup [.int (i:Int),.int (j:Int)],.tup [],.int w,.lst (ns.map T.int)]))=.ok ((.s,.int w),put η s (.s,.tup [.tup [.int (i:Int),.int (j:Int)],.tup [],.int w,.lst (ns.map T.int)])):=by
   have hh:=hη (.tup [.tup [.int (i:Int),.int (j:Int)],.tup [],.int w,.lst (ns.map T.int)])
   generalize put η s (.s,.tup [.tup [.int (i:Int),.int (j:Int)],.tup [],.int w,.lst (ns.map T.int)])=η1 at hh
   simp_all only [hh,Ct]
  rw [e]; rfl,hd _⟩
theorem lM (L:List T):aS (L.map fun u=>((.s,.int (wOf u)):W))=L.map fun u=>T.int (wOf u):=aL (fun _=>Md.s) (fun u=>T.int (wOf u)) L
noncomputable def least (L:List T)(h:Int):Int:=(dB L+h-1) / h
theorem jw (n:Nat)(L:List T)(hL:Sts L)(h:Int)(h1:1<=h)(h2:h<=20)(m m':Md):C (n+1) 267 [(m,.lst L),(m',.int h)]=.ok ((.d,.int (least L h)),[]):=by
 have c1:∀ w1,aA [2] (bJ (evE (C n) (.op .ix false [.var 2,.cst (.int 2)]))) (L.map fun t=>[((.s,t):W)]) [none,w1,none] []=.ok ([]++L.map (fun u=>((.s,.int (wOf u)):W)),[none,w1,none]):=fun w1=>xp (C n) 2 L hL.st [none,w1,none] (fun _=>rfl) fun _=>rfl
 have t1:=lM L
 have t2:=lu hL.st
 have p1:decide (0 < h)=true:=decide_eq_true (by omega)
 have p2:decide (h < 1073741824)=true:=decide_eq_true (by omega)
 have es:(L.map wOf).sum=dB L:=rfl
 unfold least
 rw [dW,x_run _ _ _ rfl]
 simp_all only [aN,c1,t1,t2,p1,p2,es]
noncomputable def okN (n:Nat):T->Bool
 | .int i=>decide (0<=i)&&decide (i < (n:Int))
 | _=>false
noncomputable def isN:T->Bool
 | .int _=>true
 | _=>false
noncomputable def inA (L:List T)(a b:T):Bool:=match b with
 | .int j=>(ahT (L.getD j.toNat .non)).any fun t=>eqT t a
 | _=>false
noncomputable def con (L:List T):List T->Bool
 | a::b::r=>inA L a b&&con L (b::r)
 | _=>true
noncomputable def eQ (L:List T):T->Bool
 | .lst ts=>(ts.map (okN L.length)).all id&&con L ts
 | _=>false
theorem all_map {α:Type}{f:α->Bool}{ts:List α}:(ts.map f).all id=true ↔ ∀ t∈ts,f t=true:=by
 rw [a0x]
 constructor
 ·exact fun h t ht=>h _ (a1z ht)
 ·intro h b hb
  obtain ⟨t,ht,rfl⟩:=a0z.mp hb
  exact h t ht
theorem t8 {t:T}(h:isN t=true):∃ i:Int,t=.int i:=by
 cases t with
 | int i=>exact ⟨i,rfl⟩
 | _=>cases h
theorem iF {n:Nat}{t:T}(h:okN n t=true):∃ i:Nat,t=.int (i:Int)/\i < n:=by
 cases t with
 | int i =>
  have h:(decide (0<=i)&&decide (i < (n:Int)))=true:=h
  rw [a0j,decide_eq_true_eq,decide_eq_true_eq] at h
  exact ⟨i.toNat,by rw [a1y h.1],by omega⟩
 | _=>cases h
theorem wm (t:T)(h:rOk t=true):(q (srt t)==q "number")=isN t:=by
 rw [qeq]
 cases t with
 | int _=>rfl
 | bl _=>rfl
 | non=>rfl
 | str _=>rfl
 | tup _=>rfl
 | lst _=>rfl
 | _=>cases h
theorem tV (n:Nat)(ts:List T)(h:∀ t∈ts,rOk t=true)(m:Md):C (n+2) 265 [(m,.tup ts)]=.ok ((.d,.bl ((ts.map isN).all id)),[]):=by
 have c1:∀ w0,aA [1] (bJ (evE (C (n+1)) (.op .eq false [.call 264 [.var 1],.cst (.str (q "number"))]))) (ts.map fun t=>[((.s,t):W)]) [w0,none] []=.ok ([]++ts.map (fun t=>((.d,.bl (isN t)):W)),[w0,none]):=fun w0=>aR (fun t=>((.d,.bl (isN t)):W)) ts [] fun u hu=>⟨_,[w0,some (.s,u)],rfl,by
  have e:=fun m=>cq n u (h u hu) m
  have e2:=wm u (h u hu)
  simp_all only [e,e2],rfl⟩
 have t1:=bT isN ts
 rw [f7,x_run _ _ _ rfl]
 simp_all only [bc,hV,c1,t1,fh]
theorem DO (ts:List T):cut ts (some 1) none=ts.drop 1:=by
 cases ts with
 | nil=>rfl
 | cons a r =>
  have e:sIx (a::r).length 0 (some 1)=1:=by
   show (if (1:Int) < 0 then ((1:Int)+((a::r).length:Int)).toNat else min (1:Int).toNat (a::r).length)=1
   rw [if_neg (by decide),a0g]
   show min 1 (r.length+1)=1
   omega
  have e2:sIx (a::r).length (a::r).length none=(a::r).length:=rfl
  rw [cut,e,e2]
  exact a2w (by rw [a1O]; omega)
theorem rY (ts us:List T):eI .s .s ts us=(ts.zip us).map fun p=>[((.s,p.1):W),(.s,p.2)]:=by
 induction ts generalizing us with
 | nil=>rfl
 | cons t ts ih =>
  cases us with
  | nil=>rfl
  | cons u us =>
   show _::eI .s .s ts us=_::_
   rw [ih us]
   rfl
theorem mC (L:List T):∀ ts:List T,((ts.zip (ts.drop 1)).map fun p=>inA L p.1 p.2).all id=con L ts
 | []=>rfl
 | [a]=>rfl
 | a::b::r=>by
  have ih:=mC L (b::r)
  show (inA L a b&&((((b::r).zip ((b::r).drop 1)).map fun p=>inA L p.1 p.2).all id))=_
  rw [ih]; rfl
theorem iw {L:List T}{i:Nat}(h:i < L.length):atI L (i:Int)=some (L.getD i .non):=atN rfl (by rw [a0c,a0h h]; rfl)
theorem iC {L:List T}{i:Nat}(h:i < L.length):L.getD i .non∈L:=by
 rw [a0c,a0h h]
 exact a2r _
theorem kh {i j k l:T}:atI [i,j,k,l] 3=some l:=at3 _ _ _ _ _
theorem vk (ns:List Int):(ns.map T.int).all M.flatT=true:=a0x.mpr fun t ht=>by
 obtain ⟨i,_,rfl⟩:=a0z.mp ht
 rfl
theorem Dq {L:List T}(hL:Sts L){j:Nat}(hj:j < L.length):∃ (a b c:T) (ns:List Int),L.getD j .non=.tup [a,b,c,.lst (ns.map T.int)]/\ahT (L.getD j .non)=ns.map T.int:=by
 obtain ⟨i,k,w,ns,e,_⟩:=hL.st _ (iC hj)
 exact ⟨_,_,_,ns,e,by rw [e]; rfl⟩
theorem zN (n:Nat)(L:List T)(hL:Sts L)(x:T)(h:rOk x=true)(m m':Md):C (n+3) 268 [(m,.lst L),(m',x)]=.ok ((.d,.bl (eQ L x)),[]):=by
 cases x with
 | lst ts =>
  have hts:=rOks_all.mp h
  have e1:=fun m=>tV n ts hts m
  rw [aD,x_run _ _ _ rfl]
  show _=Res.ok ((Md.d,T.bl ((ts.map (okN L.length)).all id&&con L ts)),[])
  cases h1:(ts.map isN).all id with
  | false =>
   rw [h1] at e1
   have h2:(ts.map (okN L.length)).all id=false:=by
    cases h3:(ts.map (okN L.length)).all id with
    | false=>rfl
    | true =>
     have:(ts.map isN).all id=true:=all_map.mpr fun t ht=>by
      obtain ⟨i,rfl,_⟩:=iF (all_map.mp h3 t ht)
      rfl
     rw [h1] at this; cases this
   rw [h2,a1I]
   simp_all only [ag,sP,iQ,e1]
  | true =>
   rw [h1] at e1
   have hn:=all_map.mp h1
   have c1:aA [2] (bJ (evE (C (n+2)) (.chain .le .lt (.cst (.int 0)) (.var 2) (.op .len false [.var 0])))) (ts.map fun t=>[((.s,t):W)]) [some (.s,.lst L),some (.s,.lst ts),none,none,none] []=.ok ([]++ts.map (fun t=>((.d,.bl (okN L.length t)):W)),[some (.s,.lst L),some (.s,.lst ts),none,none,none]):=aR (fun t=>((.d,.bl (okN L.length t)):W)) ts [] fun u hu=>⟨_,[some (.s,.lst L),some (.s,.lst ts),some (.s,u),none,none],rfl,by
    obtain ⟨i,rfl⟩:=t8 (hn u hu)
    unfold okN
    cases h2:decide (0<=i) with
    | false=>simp_all only [h2,a1I]
    | true=>simp_all only [h2,a1E],rfl⟩
   have t1:=bT (okN L.length) ts
   cases h3:(ts.map (okN L.length)).all id with
   | false=>simp_all only [ag,sP,iQ,e1,c1,t1,fh,h3,a1I]
   | true =>
    have hok:=all_map.mp h3
    have c2:aA [3,4] (bJ (evE (C (n+2)) (.op .isin false [.var 3,.op .ix false [.op .ix false [.var 0,.var 4],.cst (.int 3)]]))) ((ts.zip (ts.drop 1)).map fun p=>[((.s,p.1):W),(.s,p.2)]) [some (.s,.lst L),some (.s,.lst ts),none,none,none] []=.ok ([]++(ts.zip (ts.drop 1)).map (fun p=>((.d,.bl (inA L p.1 p.2)):W)),[some (.s,.lst L),some (.s,.lst ts),none,none,none]):=aR (fun p=>((.d,.bl (inA L p.1 p.2)):W)) (ts.zip (ts.drop 1)) [] fun p hp=>⟨_,[some (.s,.lst L),some (.s,.lst ts),none,some (.s,p.1),some (.s,p.2)],rfl,by
     obtain ⟨a,b⟩:=p
     have hp1:=(a1k hp).1
     have hp2:=List.mem_of_mem_drop (a1k hp).2
     obtain ⟨i,rfl,hi⟩:=iF (hok a hp1)
     obtain ⟨j,rfl,hj⟩:=iF (hok b hp2)
     obtain ⟨c1,c2,c3,ns,g1,g2⟩:=Dq hL hj
     have g3:=iw hj
     rw [g1] at g3
     have g4:inA L (.int (i:Int)) (.int (j:Int))=(ns.map T.int).any fun t=>eqT t (.int (i:Int)):=by
      show (ahT (L.getD (j:Int).toNat .non)).any _=_
      rw [a09,g2]
     have fl:(M.flatT (.int (i:Int))&&(ns.map T.int).all M.flatT)=true:=by rw [vk]; rfl
     rw [g4]
     simp_all only [g3,kh,fl],rfl⟩
    have z1:=rY ts (ts.drop 1)
    have t2:=bT (fun p:T×T=>inA L p.1 p.2) (ts.zip (ts.drop 1))
    have cz:=mC L ts
    have ct:=DO ts
    simp_all only [ag,sP,iQ,e1,c1,t1,fh,h3,ct,z1,c2,t2,cz,a1E,pD]
 | int i=>rw [aD,x_run _ _ _ rfl]; simp_all only [ag,Fj,eQ]
 | bl b=>rw [aD,x_run _ _ _ rfl]; simp_all only [ag,FH,eQ]
 | non=>rw [aD,x_run _ _ _ rfl]; simp_all only [ag,C8,eQ]
 | str z=>rw [aD,x_run _ _ _ rfl]; simp_all only [ag,EV,eQ]
 | tup ts=>rw [aD,x_run _ _ _ rfl]; simp_all only [ag,CF,eQ]
 | _=>cases h
noncomputable def lnT:T->T
 | .lst ts=>.int ((ts.length:Nat):Int)
 | _=>.non
noncomputable def iK (L:List T)(h:Int):T->T
 | .tup [a,x]=>if eqS (q "width") a&&eqI (least L h) x then .int (least L h) else if eqS (q "chain") a&&eQ L x then lnT x else .non
 | _=>.non
theorem mj {L:List T}(hL:Sts L){h:Int}(h1:1<=h):0<=least L h/\least L h<=1000:=by
 obtain ⟨a,b⟩:=xC hL.st
 have:=hL.len
 have hs:dB L<=720:=by omega
 unfold least
 constructor
 ·exact Int.ediv_nonneg (by omega) (by omega)
 ·have:(dB L+h-1) / h<=dB L:=by
   have h2:(dB L+h-1) / h < dB L+1:=Int.ediv_lt_of_lt_mul (by omega) (by
    have:=Int.mul_le_mul_of_nonneg_left h1 (show 0<=dB L by omega)
    rw [Int.add_mul,Int.one_mul]
    omega)
   omega
  omega
theorem CC:rOk (.str (q "width"))=true:=by decide +kernel
theorem yD (s:Str)(a:T)(h:rOk a=true)(hd:dp a<=64)(m m':Md):oSem .eq false [(m,a),(m',.str s)]=some (.d,.bl (eqS s a)):=by
 cases a with
 | int i=>rfl
 | bl b=>rfl
 | non=>rfl
 | str x=>rfl
 | tup ts=>show (if decide (dp (.tup ts)<=64)&&decide (dp (.str s)<=64) then some ((.d,.bl false):W) else none)=_; rw [decide_eq_true hd]; rfl
 | lst ts=>show (if decide (dp (.lst ts)<=64)&&decide (dp (.str s)<=64) then some ((.d,.bl false):W) else none)=_; rw [decide_eq_true hd]; rfl
 | _=>cases h
theorem pX {ts:List T}(h:(((ts.length:Nat):Int)==2)=true):∃ x y,ts=[x,y]:=by
 have h:=beq_iff_eq.mp h
 match ts,h with
 | [x,y],_=>exact ⟨x,y,rfl⟩
 | [],h=>simp at h
 | [_],h=>simp at h
 | _::_::_::r,h=>simp only [a0g] at h; omega
theorem uV {L:List T}{h:Int}{ts:List T}(hl:(((ts.length:Nat):Int)==2)=false):iK L h (.tup ts)=.non:=by
 match ts,hl with
 | [],_=>rfl
 | [_],_=>rfl
 | [_,_],hl=>cases hl
 | _::_::_::r,_=>rfl
theorem dp2 {a x:T}(h:dp (.tup [a,x])<=60):dp a<=64/\dp x<=64:=by
 have h:max (dp a) (max (dp x) 0)+1<=60:=h
 omega
theorem j8 (n:Nat)(L:List T)(hL:Sts L)(h:Int)(h1:1<=h)(h2:h<=20)(t:T)(ht:rOk t=true)(hd:dp t<=60)(m m1 m2:Md):∃ md,C (n+4) 266 [(m,.lst L),(m1,.int h),(m2,t)]=.ok ((md,iK L h t),[]):=by
 rw [so,x_run _ _ _ rfl]
 cases t with
 | tup ts =>
  cases hl:(((ts.length:Nat):Int)==2) with
  | false=>exact ⟨_,by rw [uV hl]; simp_all only [aU,hV,hl]; rfl⟩
  | true =>
   obtain ⟨a,x,rfl⟩:=pX hl
   have hts:=rOks_all.mp ht
   have ha:rOk a=true:=hts a (by simp)
   have hx:rOk x=true:=hts x (by simp)
   obtain ⟨d1,d2⟩:=dp2 hd
   have e1:=fun m m'=>jw (n+2) L hL h h1 h2 m m'
   obtain ⟨l0,l1⟩:=mj hL h1
   have rl:rOk (.int (least L h))=true:=decide_eq_true (by omega)
   have e2:=fun m m'=>al2 n (q "width") (least L h) CC rl a x ha hx m m'
   have e3:=fun m m'=>yD (q "chain") a ha d1 m m'
   have e4:=fun m m'=>zN n L hL x hx m m'
   have az:atI [a,x] 0=some a:=at0 _ _
   have ao:atI [a,x] 1=some x:=at1 _ _ _
   show ∃ md,_=Res.ok ((md,if (eqS (q "width") a&&eqI (least L h) x)=true then T.int (least L h) else if (eqS (q "chain") a&&eQ L x)=true then lnT x else .non),[])
   cases b1:eqS (q "width") a&&eqI (least L h) x with
   | true =>
    rw [b1] at e2
    exact ⟨_,by rw [if_pos rfl]; simp_all only [aU,hV,hl,e1,e2]; rfl⟩
   | false =>
    rw [b1] at e2
    rw [if_neg a0f]
    cases b2:eqS (q "chain") a with
    | false =>
     rw [b2] at e3
     exact ⟨_,by rw [a1I,if_neg a0f]; simp_all only [aU,hV,hl,e1,e2,az,ao,e3]; rfl⟩
    | true =>
     rw [b2] at e3
     cases b3:eQ L x with
     | false =>
      rw [b3] at e4
      exact ⟨_,by rw [a1E,if_neg a0f]; simp_all only [aU,hV,hl,e1,e2,az,ao,e3,e4]; rfl⟩
     | true =>
      rw [b3] at e4
      cases x with
      | lst us=>exact ⟨_,by rw [a1E,if_pos rfl]; simp_all only [aU,hV,hl,e1,e2,az,ao,e3,e4,lnT]; rfl⟩
      | _=>cases b3
 | int i=>exact ⟨_,by simp_all only [aU,FC,iK]; rfl⟩
 | bl b=>exact ⟨_,by simp_all only [aU,EB,iK]; rfl⟩
 | non=>exact ⟨_,by simp_all only [aU,CH,iK]; rfl⟩
 | str z=>exact ⟨_,by simp_all only [aU,EN,iK]; rfl⟩
 | lst ts=>exact ⟨_,by simp_all only [aU,E4,iK]; rfl⟩
 | _=>cases ht
theorem lU {c:Env->Res (Bool×Env)}{f:Env->Fl}(I:Nat->Env->Prop)(P:Env->Prop):∀ (N m:Nat) (η:Env),m < N->I m η->(∀ m η,I m η->(∃ η',c η=.ok (false,η')/\P η')\/∃ η1 η2 m',c η=.ok (true,η1)/\f η1=.nx η2/\m' < m/\I m' η2) ->
  ∃ η',jR c f N η=.nx η'/\P η'
 | 0,_,_,h,_,_=>by omega
 | N+1,m,η,h,hi,k=>by
  rcases k m η hi with ⟨η',h1,h2⟩ | ⟨η1,η2,m',h1,h2,h3,h4⟩
  ·refine ⟨η',?_,h2⟩
   show Fl.of η (c η) _=_
   rw [h1]; rfl
  ·obtain ⟨η',e,p⟩:=lU I P N m' η2 (by omega) h4 k
   refine ⟨η',?_,p⟩
   show Fl.of η (c η) _=_
   rw [h1]
   show Fl.turn (f η1) _=_
   rw [h2]; exact e
theorem iW {n:Nat}:∀ {ts:List T},(∀ u∈ts,dp u<=n)->dps ts<=n
 | [],_=>a0M _
 | t::ts,h=>by
  have h1:=h t a0e
  have h2:=iW fun u hu=>h u (a0d _ hu)
  show max (dp t) (dps ts)<=n
  omega
theorem qO (ns:List Int):dps (ns.map T.int)<=0:=iW fun u hu=>by
 obtain ⟨i,_,rfl⟩:=a0z.mp hu
 exact a0m _
theorem BB {n:Nat}{u:T}(h:StT n u):dp u<=3:=by
 obtain ⟨i,j,w,ns,rfl,_⟩:=h
 show max (max 0 (max 0 0)+1) (max (0+1) (max 0 (max (dps (ns.map T.int)+1) 0)))+1<=3
 have:=qO ns
 omega
theorem FW {L:List T}(h:Sts L):dp (.lst L)<=4:=by
 have:=iW fun u hu=>BB (h.st u hu)
 show dps L+1<=4
 omega
theorem xX {n:Nat}{u:T}(hn:n<=12)(h:StT n u):rOk u=true:=by
 obtain ⟨i,j,w,ns,rfl,hi,hj,w1,w2,hns,_⟩:=h
 have a:rOks (ns.map T.int)=true:=rOks_all.mpr fun t ht=>by
  obtain ⟨x,hx,rfl⟩:=a0z.mp ht
  have:=hns x hx
  exact decide_eq_true (by omega)
 show ((decide ((i:Int).natAbs < 10000000000000000000)&&(decide ((j:Int).natAbs < 10000000000000000000)&&true))&&(true&&(decide (w.natAbs < 10000000000000000000)&&(rOks (ns.map T.int)&&true))))=true
 rw [a,decide_eq_true (by omega),decide_eq_true (by omega),decide_eq_true (by omega)]
 rfl
theorem l8:∀ ns:List Int,szRs (ns.map T.int)=102 * ns.length
 | []=>rfl
 | i::ns=>by
  show 100+2+szRs (ns.map T.int)=_
  rw [l8 ns,a0g]
  omega
theorem Ey {n:Nat}{u:T}(h:StT n u):szR u<=2000:=by
 obtain ⟨i,j,w,ns,rfl,hi,hj,w1,w2,hns,hl⟩:=h
 show ((100+2+(100+2+0)+4)+2+((0+4)+2+(100+2+((szRs (ns.map T.int)+4)+2+0))))+4<=2000
 rw [l8]
 omega
theorem Cp:∀ {L:List T},(∀ u∈L,szR u<=2000)->szRs L<=2002 * L.length
 | [],_=>a0M _
 | u::L,h=>by
  have h1:=h u a0e
  have h2:=Cp fun v hv=>h v (a0d _ hv)
  show szR u+2+szRs L<=_
  rw [a0g]
  omega
theorem iA (n:Nat)(i:Int)(m:Md):C (n+1) 272 [(m,.int i)]=.ok ((.d,.bl true),[]):=by
 rw [gZ,x_run _ _ _ rfl]
 simp_all only [bG,Dw,Cv]
theorem bss (x:Str):(!(x==x))=false:=by rw [beq_self_eq_true]; rfl
theorem bii (x:Int):(!(x==x))=false:=by rw [beq_self_eq_true]; rfl
theorem vH (ns:List Int)(m:Md):C 39 179 [(m,.scr ns)]=.ok ((.d,kx (cut ns none (some 63)) 0 0),[]):=by
 rw [jK,x_run _ _ _ rfl]
 have lv:∀ l:List Int,leaves (l.map T.int)=true:=fun ns=>a0x.mpr fun t ht=>by obtain ⟨i,_,rfl⟩:=a0z.mp ht; rfl
 simp_all only [bU,lv]
 rfl
noncomputable def mxN:List Nat->Nat
 | []=>0
 | x::xs=>max x (mxN xs)
theorem ly:∀ {l:List Nat} {x:Nat},x∈l->x<=mxN l
 | y::l,x,h=>by
  show x<=max y (mxN l)
  rcases a0r.mp h with e | e
  ·omega
  ·have:=ly e; omega
theorem iJ:∀ {l:List Nat} {b:Nat},(∀ x∈l,x<=b)->mxN l<=b
 | [],b,_=>a0M _
 | y::l,b,h=>by
  show max y (mxN l)<=b
  have:=h y a0e
  have:=iJ fun x hx=>h x (a0d _ hx)
  omega
theorem iO:∀ {l:List Nat},l≠[]->mxN l∈l
 | [],h=>absurd rfl h
 | [y],_=>by show max y 0∈_; rw [a3N]; simp
 | y::z::l,_=>by
  have ih:=iO (l:=z::l) (by simp)
  show max y (mxN (z::l))∈_
  rcases Nat.le_total y (mxN (z::l)) with h | h
  ·rw [Nat.max_eq_right h]; exact a0d _ ih
  ·rw [Nat.max_eq_left h]; exact a0e
noncomputable def lgF (P:Nat->List Nat):Nat->Nat->Nat
 | 0,_=>0
 | f+1,k=>1+mxN ((P k).map (lgF P f))
structure eR (P:Nat->List Nat)(n:Nat)(rk:Nat->Nat):Prop where
 lt:∀ k,k < n->∀ p∈P k,p < n
 dn:∀ k,k < n->∀ p∈P k,rk p < rk k
 few:∀ k,k < n->rk k < 13
theorem oO {P:Nat->List Nat}{n:Nat}{rk:Nat->Nat}(o:eR P n rk):∀ (f f' k:Nat),k < n->rk k < f->rk k < f'->lgF P f k=lgF P f' k
 | 0,_,_,_,h,_=>absurd h (a1f _)
 | _+1,0,_,_,_,h=>absurd h (a1f _)
 | f+1,f'+1,k,hk,h1,h2=>by
  show 1+mxN ((P k).map (lgF P f))=1+mxN ((P k).map (lgF P f'))
  rw [a0W fun p hp=>oO o f f' p (o.lt k hk p hp) (by have:=o.dn k hk p hp; omega) (by have:=o.dn k hk p hp; omega)]
noncomputable def lg (P:Nat->List Nat)(k:Nat):Nat:=lgF P 13 k
theorem gf {P:Nat->List Nat}{n:Nat}{rk:Nat->Nat}(o:eR P n rk){k:Nat}(hk:k < n):lg P k=1+mxN ((P k).map (lg P)):=by
 show 1+mxN ((P k).map (lgF P 12))=1+mxN ((P k).map (lgF P 13))
 rw [a0W fun p hp=>oO o 12 13 p (o.lt k hk p hp) (by have:=o.dn k hk p hp; have:=o.few k hk; omega) (by have:=o.dn k hk p hp; have:=o.few k hk; omega)]
theorem pJ {P:Nat->List Nat}(k:Nat):1<=lg P k:=by show 1<=1+_; omega
structure kn (P:Nat->List Nat)(n:Nat)(os:List Nat):Prop where
 nd:os.Nodup
 lt:∀ x∈os,x < n
 all:∀ k,k < n->k∈os
 pre:∀ (i x:Nat),os[i]?=some x->∀ p∈P x,p∈os.take i
theorem qV {P:Nat->List Nat}{n:Nat}{rk:Nat->Nat}{os:List Nat}(o:eR P n rk)(t:kn P n os):∀ (b i x:Nat),i < b->os[i]?=some x->lg P x<=i+1
 | 0,_,_,h,_=>absurd h (a1f _)
 | b+1,i,x,h,e=>by
  rw [gf o (t.lt x (a0J e))]
  have:mxN ((P x).map (lg P))<=i:=iJ fun y hy=>by
   obtain ⟨p,hp,rfl⟩:=a0z.mp hy
   obtain ⟨j,hj,e2⟩:=a1R.mp (t.pre i x e p hp)
   rw [a1t] at hj
   rw [List.getElem_take] at e2
   have:=qV o t b j p (by omega) (by rw [<- e2]; exact a0h _)
   omega
  omega
theorem g9:∀ (n:Nat) (l:List Nat),l.Nodup->(∀ x∈l,x < n)->l.length<=n
 | 0,l,_,h=>by
  cases l with
  | nil=>exact a0m _
  | cons a l=>exact absurd (h a a0e) (a1f _)
 | n+1,l,nd,h=>by
  have:=g9 n (l.erase n) (nd.erase n) fun x hx=>by
   have h1:=h x (List.mem_of_mem_erase hx)
   have h2:x≠n:=fun e=>by subst e; exact (nd.not_mem_erase) hx
   omega
  have h3:l.length<=(l.erase n).length+1:=by rw [List.length_erase]; split<;>omega
  omega
theorem xj {P:Nat->List Nat}{n:Nat}{rk:Nat->Nat}{os:List Nat}(o:eR P n rk)(t:kn P n os){k:Nat}(hk:k < n):lg P k<=n:=by
 obtain ⟨i,hi,e⟩:=a1R.mp (t.all k hk)
 have:=qV o t (i+1) i k (a1u _) (by rw [<- e]; exact a0h _)
 have:=g9 n os t.nd t.lt
 omega
theorem AD {P:Nat->List Nat}{n:Nat}{rk:Nat->Nat}{os:List Nat}(o:eR P n rk)(t:kn P n os):mxN ((a0k n).map (lg P))<=n:=iJ fun y hy=>by
 obtain ⟨k,hk,rfl⟩:=a0z.mp hy
 exact xj o t (a0U.mp hk)
noncomputable abbrev nI (i:Nat):T:=.int (i:Int)
noncomputable def wW:T->Nat
 | .int i=>i.toNat
 | _=>0
noncomputable def PL (L:List T)(k:Nat):List Nat:=(ahT (L.getD k .non)).map wW
theorem gL:∀ ns:List Int,(∀ x∈ns,0<=x)->((ns.map T.int).map wW).map nI=ns.map T.int
 | [],_=>rfl
 | x::ns,h=>by
  show nI x.toNat::((ns.map T.int).map wW).map nI=_
  rw [gL ns fun y hy=>h y (a0d _ hy),nI,a1y (h x a0e)]; rfl
theorem jY {L:List T}(hL:Sts L){k:Nat}(hk:k < L.length):∃ a b w,L.getD k .non=.tup [a,b,.int w,.lst ((PL L k).map nI)]/\(∀ p∈PL L k,p < L.length)/\(PL L k).length<=12:=by
 obtain ⟨i,j,w,ns,e,_,_,_,_,h1,h2⟩:=hL.st _ (iC hk)
 have e2:ahT (L.getD k .non)=ns.map T.int:=by rw [e]; rfl
 refine ⟨_,_,w,by rw [PL,e2,gL ns fun x hx=>(h1 x hx).1]; exact e,fun p hp=>?_,by rw [PL,e2,a0b,a0b]; exact h2⟩
 rw [PL,e2] at hp
 obtain ⟨t,ht,rfl⟩:=a0z.mp hp
 obtain ⟨x,hx,rfl⟩:=a0z.mp ht
 have:=h1 x hx
 show x.toNat < _
 omega
theorem eA {L:List T}(hL:Sts L):∃ rk,eR (PL L) L.length rk:=by
 obtain ⟨rk,h⟩:=hL.rk
 refine ⟨fun k=>rk (k:Int),fun k hk p hp=>(jY hL hk).elim fun a ⟨b,w,_,h2,_⟩=>h2 p hp,fun k hk p hp=>?_,fun k hk=>(h k hk).1⟩
 obtain ⟨_,a,b,c,ns,e,h2⟩:=h k hk
 obtain ⟨i,j,w,ns',e',_,_,_,_,h1,_⟩:=hL.st _ (iC hk)
 rw [PL,e] at hp
 have hp':p∈(ns.map T.int).map wW:=hp
 obtain ⟨t,ht,rfl⟩:=a0z.mp hp'
 obtain ⟨x,hx,rfl⟩:=a0z.mp ht
 have h3:=h2 x hx
 have:0<=x:=by
  rw [e] at e'
  injection e' with e'
  injection e' with _ e'
  injection e' with _ e'
  injection e' with _ e'
  injection e' with e' _
  injection e' with e'
  have:ns=ns':=(List.map_inj_right fun a b h=>by injection h).mp e'
  exact (h1 x (this ▸ hx)).1
 show rk ((x.toNat:Nat):Int) < rk (k:Int)
 rw [a1y this]
 exact h3
theorem gz:∀ (L:List T) (k:Nat),cV .s k L=(a0k L.length).map fun i=>[((.d,nI (k+i)):W),(.s,L.getD i .non)]
 | [],k=>rfl
 | t::L,k=>by
  show [((.d,nI k):W),(.s,t)]::cV .s (k+1) L=_
  rw [gz L (k+1),a0g,List.range_succ_eq_map,a0w,a1h]
  congr 1
  apply a0W
  intro i _
  show [((.d,nI (k+1+i)):W),(.s,L.getD i .non)]=[((.d,nI (k+(i+1))):W),(.s,(t::L).getD (i+1) .non)]
  rw [show k+1+i=k+(i+1) by omega]; rfl
theorem d9 (L:List T):cV .s 0 L=(a0k L.length).map fun i=>[((.d,nI i):W),(.s,L.getD i .non)]:=by
 rw [gz L 0]
 simp
theorem bV (ps:List Nat):(ps.map nI).map (fun t=>[((.s,t):W)])=ps.map fun i=>[((.s,nI i):W)]:=by rw [a1h]; rfl
noncomputable def ef (m:Nat)(S:List (List Nat))(k:Nat):List (List Nat):=S.set k (S.getD k []++[m])
noncomputable def nQ (P:Nat->List Nat)(S:List (List Nat))(m:Nat):List (List Nat):=(P m).foldl (ef m) S
noncomputable def aH (P:Nat->List Nat)(n r:Nat):List (List Nat):=(a0k r).foldl (nQ P) (a0i n [])
theorem b9 (m:Nat)(S:List (List Nat))(k:Nat):(ef m S k).length=S.length:=by rw [ef,a05]
theorem gK (m:Nat):∀ (ps:List Nat) (S:List (List Nat)),(ps.foldl (ef m) S).length=S.length
 | [],S=>rfl
 | k::ps,S=>by rw [a1U,gK m ps,b9]
theorem fq (m:Nat)(S:List (List Nat))(k j:Nat)(hj:j < S.length):(ef m S k).getD j []=if k=j then S.getD j []++[m] else S.getD j []:=by
 rw [ef,a0c,a20]
 by_cases h:k=j
 ·subst h; rw [if_pos rfl,if_pos hj,if_pos rfl]; rfl
 ·rw [if_neg h,if_neg h,a0c]
theorem eP (m:Nat):∀ (ps:List Nat) (S:List (List Nat)) (j x:Nat),j < S.length->((ps.foldl (ef m) S).getD j []).count x=(S.getD j []).count x+(if x=m then ps.count j else 0)
 | [],S,j,x,_=>by simp
 | k::ps,S,j,x,hj=>by
  rw [a1U,eP m ps _ j x (by rw [b9]; exact hj),fq m S k j hj,a1Y]
  by_cases h:k=j
  ·subst h
   rw [if_pos rfl,a2i]
   by_cases hx:x=m
   ·subst hx; simp; omega
   ·have z:[m].count x=0:=List.count_eq_zero_of_not_mem (by simpa using hx)
    rw [if_neg hx,if_neg hx,z]
  ·rw [if_neg h]
   by_cases hx:x=m
   ·rw [if_pos hx,if_pos hx,if_neg (by simpa using h)]; omega
   ·rw [if_neg hx,if_neg hx]
theorem fE (m:Nat):∀ (ps:List Nat) (S:List (List Nat)) (j:Nat),j < S.length->((ps.foldl (ef m) S).getD j []).length<=(S.getD j []).length+ps.length
 | [],S,j,_=>by simp
 | k::ps,S,j,hj=>by
  have:=fE m ps (ef m S k) j (by rw [b9]; exact hj)
  rw [fq m S k j hj] at this
  rw [a1U,a0g]
  split at this
  ·rw [a0l,a0u] at this; omega
  ·omega
theorem cw (P:Nat->List Nat)(n r:Nat):aH P n (r+1)=nQ P (aH P n r) r:=by rw [aH,List.range_succ,List.foldl_append]; rfl
theorem bu (P:Nat->List Nat)(n:Nat):∀ r,(aH P n r).length=n
 | 0=>by rw [aH,a2C,a2I,a0H]
 | r+1=>by rw [cw,nQ,gK,bu]
theorem c5 (P:Nat->List Nat)(n:Nat):∀ (r j x:Nat),j < n->((aH P n r).getD j []).count x=if x < r then (P x).count j else 0
 | 0,j,x,hj=>by rw [aH,a2C,a2I,a0c,a0Z,if_pos hj]; simp
 | r+1,j,x,hj=>by
  rw [cw,nQ,eP _ _ _ _ _ (by rw [bu]; exact hj),c5 P n r j x hj]
  by_cases h:x=r
  ·subst h; simp
  ·rw [if_neg h]
   by_cases h2:x < r
   ·rw [if_pos h2,if_pos (by omega)]; rfl
   ·rw [if_neg h2,if_neg (by omega)]
theorem eZ (P:Nat->List Nat)(n:Nat)(hP:∀ k,k < n->(P k).length<=12):∀ (r j:Nat),r<=n->j < n->((aH P n r).getD j []).length<=12 * r
 | 0,j,_,hj=>by rw [aH,a2C,a2I,a0c,a0Z,if_pos hj]; simp
 | r+1,j,hr,hj=>by
  have h1:=fE r (P r) (aH P n r) j (by rw [bu]; exact hj)
  have h2:=eZ P n hP r j (by omega) hj
  have h3:=hP r (by omega)
  rw [cw,nQ]
  omega
noncomputable def mS (S:List (List Nat)):List T:=S.map fun l=>.lst (l.map nI)
theorem Dk {S:List (List Nat)}{k m:Nat}(hk:k < S.length)(hn:S.length < 1000)(hl:(S.getD k []).length < 1000)(m1 m2:Md):iy (some (.d,.lst (mS S))) (some (m1,nI k)) (some (m2,nI m))=some (.d,.lst (mS (ef m S k))):=by
 have h1:ixN (mS S).length (k:Int)=some k:=by
  have:k < (mS S).length:=by rw [mS,a0b]; exact hk
  unfold ixN
  rw [if_pos (by omega),if_pos (by omega)]
  simp
 rw [qa,h1]
 have h2:(mS S)[k]?=some (.lst ((S.getD k []).map nI)):=by
  rw [mS,a0s,a0c,a0h hk]; rfl
 show apU (mS S) k (nI m) (mS S)[k]?=_
 rw [h2]
 show (if (decide (((S.getD k []).map nI).length < LIM)&&true)=true then some ((.d,.lst ((mS S).set k (.lst ((S.getD k []).map nI++[nI m])))):W) else none)=_
 rw [if_pos (by rw [a0b,a2Q]; exact decide_eq_true (by show _ < 16777215; omega))]
 congr 3
 rw [mS,mS,ef,a3O]
 simp
theorem xS (n:Nat)(w0 w3 o5:Option W)(m2:Md)(m:Nat):∀ (ps:List Nat) (S:List (List Nat)) (o4:Option W),(∀ k∈ps,k < S.length)->S.length < 100->(∀ j,j < S.length->(S.getD j []).length+ps.length < 500) ->
  ∃ o4',bR [4] (evSs (C n) [.apN 1 4 2]) (ps.map fun i=>[((.s,nI i):W)]) [w0,some (.d,.lst (mS S)),some (m2,nI m),w3,o4,o5]=.nx [w0,some (.d,.lst (mS (ps.foldl (ef m) S))),some (m2,nI m),w3,o4',o5]
 | [],S,o4,_,_,_=>⟨o4,rfl⟩
 | k::ps,S,o4,h1,h2,h3=>by
  have hk:=h1 k a0e
  have hb:=h3 k hk
  rw [a0g] at hb
  have e:evSs (C n) [.apN 1 4 2] [w0,some (.d,.lst (mS S)),some (m2,nI m),w3,some (.s,nI k),o5]=.nx [w0,some (.d,.lst (mS (ef m S k))),some (m2,nI m),w3,some (.s,nI k),o5]:=by
   have a:=Dk (S:=S) (k:=k) (m:=m) hk (by omega) (by omega) .s m2
   have e2:evSs (C n) [.apN 1 4 2] [w0,some (.d,.lst (mS S)),some (m2,nI m),w3,some (.s,nI k),o5]=Fl.seq (nxO [w0,some (.d,.lst (mS S)),some (m2,nI m),w3,some (.s,nI k),o5] ((iy (some (.d,.lst (mS S))) (some (.s,nI k)) (some (m2,nI m))).map fun w=>put [w0,some (.d,.lst (mS S)),some (m2,nI m),w3,some (.s,nI k),o5] 1 w)) (evSs (C n) []):=rfl
   rw [e2,a]; rfl
  obtain ⟨o4',ih⟩:=xS n w0 w3 o5 m2 m ps (ef m S k) (some (.s,nI k)) (fun j hj=>by rw [b9]; exact h1 j (a0d _ hj)) (by rw [b9]; exact h2) (fun j hj=>by
   rw [b9] at hj
   have:=h3 j hj
   rw [a0g] at this
   rw [fq m S k j hj]
   split
   ·rw [a0l,a0u]; omega
   ·omega)
  refine ⟨o4',?_⟩
  show Fl.turn (evSs (C n) [.apN 1 4 2] [w0,some (.d,.lst (mS S)),some (m2,nI m),w3,some (.s,nI k),o5]) (bR [4] (evSs (C n) [.apN 1 4 2]) (ps.map fun i=>[((.s,nI i):W)]))=_
  rw [e]
  exact ih
noncomputable abbrev TB:List S:=[.forS [3] [] .seq [.op .ix false [.var 3,.cst (.int 3)]] [4] [.apN 1 4 2]]
theorem vM (n:Nat)(L:List T)(hL:Sts L)(w0:Option W) :
  ∃ o2 o3 o4,bR [2,3] (evSs (C n) TB) ((a0k L.length).map fun i=>[((.d,nI i):W),(.s,L.getD i .non)]) [w0,some (.d,.lst (mS (a0i L.length []))),none,none,none,none]=.nx [w0,some (.d,.lst (mS (aH (PL L) L.length L.length))),o2,o3,o4,none]:=by
 obtain ⟨η',lp,o2,o3,o4,e⟩:=bf (tg:=[2,3]) (f:=evSs (C n) TB) (g:=fun (i:Nat)=>[((.d,nI i):W),(.s,L.getD i .non)])
  (fun pre η=>∃ (o2 o3 o4:Option W),η=[w0,some (.d,.lst (mS (aH (PL L) L.length pre.length))),o2,o3,o4,none])
  (a0k L.length) [] [w0,some (.d,.lst (mS (a0i L.length []))),none,none,none,none] ⟨none,none,none,by rw [a3k,aH]; rfl⟩
  (fun p i r η hp ⟨o2,o3,o4,he⟩=>by
   subst he
   rw [a0K] at hp
   have hpl:=congrArg a1T hp
   simp only [a0C,a0l,a0g] at hpl
   have hi:i=p.length:=by
    have this:(a0k L.length)[p.length]?=(p++i::r)[p.length]?:=by rw [hp]
    rw [a0S (by omega),a0B (a0m _),a16] at this
    simpa using this.symm
   have hlt:i < L.length:=by omega
   obtain ⟨a,b,w,e1,e2,e3⟩:=jY hL hlt
   have hlen:=hL.len
   obtain ⟨o4',lp⟩:=xS n w0 (some (.s,L.getD i .non)) none .d i (PL L i) (aH (PL L) L.length p.length) o4 (fun k hk=>by rw [bu]; exact e2 k hk) (by rw [bu]; omega) (fun j hj=>by
    rw [bu] at hj
    have:=eZ (PL L) L.length (fun k hk=>(jY hL hk).elim fun _ ⟨_,_,_,_,h⟩=>h) p.length j (by omega) hj
    omega)
   have tm:=bV (PL L i)
   rw [e1] at lp
   refine ⟨[w0,some (.d,.lst (mS (aH (PL L) L.length p.length))),some (.d,nI i),some (.s,L.getD i .non),o4,none],[w0,some (.d,.lst (mS (aH (PL L) L.length (p++[i]).length))),some (.d,nI i),some (.s,L.getD i .non),o4',none],rfl,?_,_,_,_,rfl⟩
   rw [a0l,a0u,cw,<- hi,e1]
   rw [<- hi] at lp
   unfold nQ
   simp_all only [kh,tm,lp])
 refine ⟨o2,o3,o4,?_⟩
 rw [lp,e]
 simp
theorem Ec (n:Nat)(L:List T)(hL:Sts L)(m:Md):C (n+1) 290 [(m,.lst L)]=.ok ((.d,.lst (mS (aH (PL L) L.length L.length))),[]):=by
 have c1:∀ w0,aA [5] (bJ (evE (C n) (.lst true []))) (L.map fun t=>[((.s,t):W)]) [w0,none,none,none,none,none] []=.ok ([]++L.map (fun _=>((.d,.lst []):W)),[w0,none,none,none,none,none]):=fun w0=>aR (fun _=>((.d,.lst []):W)) L [] fun u hu=>⟨_,[w0,none,none,none,none,some (.s,u)],rfl,by simp_all only [],rfl⟩
 have t1:aS (L.map fun _=>((.d,.lst []):W))=mS (a0i L.length []):=by
  rw [aL (fun _=>Md.d) (fun _=>T.lst []) L,mS,a1D,a3q]; rfl
 have t2:(L.map fun _=>((.d,.lst []):W)).all okD=true:=a0x.mpr fun w hw=>by obtain ⟨_,_,rfl⟩:=a0z.mp hw; rfl
 have e1:=d9 L
 obtain ⟨o2,o3,o4,lp⟩:=vM n L hL (some (.s,.lst L))
 rw [eV,x_run _ _ _ rfl]
 simp_all only [aW,c1,t1,t2,e1,lp]
theorem et {n:Nat}{p r:List Nat}{i:Nat}(h:a0k n=p++i::r):i=p.length/\i < n:=by
 have hpl:=congrArg a1T h
 simp only [a0C,a0l,a0g] at hpl
 have this:(a0k n)[p.length]?=(p++i::r)[p.length]?:=by rw [h]
 rw [a0S (by omega),a0B (a0m _),a16] at this
 have e:i=p.length:=by simpa using this.symm
 exact ⟨e,by omega⟩
noncomputable def cnt (D l:List Nat):Nat:=l.countP fun p=>decide (p ∉ D)
theorem dU {D:List Nat}{x:Nat}(hx:x ∉ D):∀ l:List Nat,cnt D l=cnt (D++[x]) l+l.count x
 | []=>rfl
 | y::l=>by
  have ih:=dU hx l
  unfold cnt at ih ⊢
  rw [a3g,a3g,a1Y,ih]
  by_cases h:y=x
  ·subst h; simp [hx]; omega
  ·by_cases h2:y∈D
   ·simp [h,h2]
   ·simp [h,h2]; omega
theorem cnt_zero {D l:List Nat}:cnt D l=0 ↔ ∀ p∈l,p∈D:=by simp [cnt,List.countP_eq_zero]
structure Kn (P:Nat->List Nat)(n:Nat)(D td u aw:List Nat):Prop where
 len:aw.length=n
 cn:∀ m,m < n->aw.getD m 0+u.count m=cnt D (P m)
 nd:td.Nodup
 lt:∀ y∈td,y < n
 iff:∀ m,m < n->(m∈td ↔ aw.getD m 0=0)
 ord:∀ (i y:Nat),td[i]?=some y->∀ p∈P y,p∈td.take i
theorem cP (l:List Nat)(m j v:Nat)(hm:m < l.length):(l.set m v).getD j 0=if m=j then v else l.getD j 0:=by
 rw [a0c,a20]
 by_cases h:m=j
 ·subst h; rw [if_pos rfl,if_pos rfl,if_pos hm]; rfl
 ·rw [if_neg h,if_neg h,a0c]
theorem Kn.pos {P:Nat->List Nat}{n:Nat}{D td u aw:List Nat}{x m:Nat}(h:Kn P n D td u aw)(hx:x ∉ D)(hm:m < n)(hc:u.count m+1<=(P m).count x):1<=aw.getD m 0:=by
 have h1:=h.cn m hm
 have h2:=dU hx (P m)
 omega
theorem Kn.step {P:Nat->List Nat}{n:Nat}{D td u aw:List Nat}{x m:Nat}(h:Kn P n D td u aw)(hx:x ∉ D)(hD:∀ y∈D++[x],y∈td)(hm:m < n)(hc:u.count m+1<=(P m).count x) :
  Kn P n D (if aw.getD m 0-1=0 then td++[m] else td) (u++[m]) (aw.set m (aw.getD m 0-1)):=by
 have ha:=h.pos hx hm hc
 have hml:m < aw.length:=by rw [h.len]; exact hm
 have hn:m ∉ td:=fun z=>by have:=(h.iff m hm).mp z; omega
 have h1:=h.cn m hm
 have h2:=dU hx (P m)
 have cm:∀ j,(u++[m]).count j=u.count j+if m=j then 1 else 0:=fun j=>by
  rw [a2i,a1Y,a2J]
  by_cases e:m=j
  ·simp [e]
  ·simp [e]
 constructor
 ·rw [a05]; exact h.len
 ·intro j hj
  rw [cP aw m j _ hml,cm]
  by_cases e:m=j
  ·subst e; rw [if_pos rfl,if_pos rfl]; omega
  ·rw [if_neg e,if_neg e]; exact h.cn j hj
 ·split
  ·rw [a21]
   exact ⟨h.nd,by simp,fun a ha b hb e=>by rw [a0q.mp hb] at e; exact hn (e ▸ ha)⟩
  ·exact h.nd
 ·intro y hy
  split at hy
  ·rcases a0O.mp hy with z | z
   ·exact h.lt y z
   ·rw [a0q.mp z]; exact hm
  ·exact h.lt y hy
 ·intro j hj
  rw [cP aw m j _ hml]
  by_cases e:m=j
  ·subst e
   rw [if_pos rfl]
   split
   ·simp_all
   ·exact ⟨fun z=>absurd z hn,fun z=>by omega⟩
  ·rw [if_neg e,<- h.iff j hj]
   split
   ·rw [a0O,a0q]
    exact ⟨fun z=>z.elim id fun q=>absurd q.symm e,.inl⟩
   ·exact Iff.rfl
 ·intro i y hy p hp
  split at hy
  ·rename_i h0
   rw [if_pos h0]
   rcases a17 i td.length with hi | hi
   ·rw [a0Q hi] at hy
    rw [a07 (a1Z hi)]
    exact h.ord i y hy p hp
   ·rw [a0B hi] at hy
    have hz:i-td.length=0:=by
     by_cases hz:i-td.length=0
     ·exact hz
     ·rw [a1N (by simp; omega)] at hy; cases hy
    rw [hz] at hy
    cases hy
    have hi':i=td.length:=by omega
    rw [hi',a07 (a0m _),a1v]
    exact hD p (cnt_zero.mp (by omega) p hp)
  ·rename_i h0
   rw [if_neg h0]
   exact h.ord i y hy p hp
theorem Kn.next {P:Nat->List Nat}{n:Nat}{D td u aw:List Nat}{x:Nat}(h:Kn P n D td u aw)(hx:x ∉ D)(hu:∀ m,m < n->u.count m=(P m).count x):Kn P n (D++[x]) td [] aw:=by
 refine ⟨h.len,fun m hm=>?_,h.nd,h.lt,h.iff,h.ord⟩
 have h1:=h.cn m hm
 have h2:=dU hx (P m)
 have h3:=hu m hm
 rw [a2J]
 omega
theorem Kn.done {P:Nat->List Nat}{n:Nat}{rk:Nat->Nat}{td aw:List Nat}(o:eR P n rk)(h:Kn P n td td [] aw):kn P n td:=by
 refine ⟨h.nd,h.lt,?_,h.ord⟩
 have key:∀ b k,rk k < b->k < n->k∈td:=by
  intro b
  induction b with
  | zero=>intro k h; exact absurd h (a1f _)
  | succ b ih =>
   intro k hb hk
   have z:cnt td (P k)=0:=cnt_zero.mpr fun p hp=>ih p (by have:=o.dn k hk p hp; omega) (o.lt k hk p hp)
   have:=h.cn k hk
   exact (h.iff k hk).mpr (by omega)
 exact fun k hk=>key 13 k (o.few k hk) hk
theorem Kn.start {P:Nat->List Nat}{n:Nat}:Kn P n [] ((a0k n).filter fun m=>(P m).length==0) [] ((a0k n).map fun m=>(P m).length):=by
 have g:∀ m,m < n->((a0k n).map fun m=>(P m).length).getD m 0=(P m).length:=fun m hm=>by
  rw [a0c,a0s,a0S hm]; rfl
 refine ⟨by rw [a0b,a0C],fun m hm=>?_,(a3f).filter _,fun y hy=>a0U.mp (a1e.mp hy).1,fun m hm=>?_,fun i y hy p hp=>?_⟩
 ·rw [g m hm,a2J]
  simp [cnt]
 ·rw [g m hm,a1e,a0U]
  simp [hm]
 ·have:=(a1e.mp (a0J hy)).2
  rw [beq_iff_eq,a2o] at this
  rw [this] at hp
  cases hp
theorem ia {l:List Nat}{m:Nat}(h:m < l.length):ixN (l.map nI).length (m:Int)=some m:=by
 unfold ixN
 rw [a0b,if_pos (by omega),if_pos (by omega)]
 simp
theorem cA {l:List Nat}{m:Nat}(h:m < l.length):atI (l.map nI) (m:Int)=some (nI (l.getD m 0)):=by
 unfold atI
 rw [ia h]
 show (l.map nI)[m]?=_
 rw [a0s,a0c,a0h h]; rfl
theorem ie (l:List Nat)(m v:Nat):(l.map nI).set m (nI v)=(l.set m v).map nI:=(a3O ..).symm
theorem lN (l:List Nat)(m:Nat):l.map nI++[nI m]=(l++[m]).map nI:=by rw [a3p]; rfl
theorem zO {n:Nat}(h:n < 1000):n < LIM:=by show n < 16777215; omega
noncomputable abbrev KA:List S:=[.setI (.q [1,6] []) 1 (.var 6) (.op .sub false [.op .ix false [.var 1,.var 6],.cst (.int 1)])]
noncomputable abbrev KB:List S:=[.ite (.q [1,6] []) (.op .eq false [.op .ix false [.var 1,.var 6],.cst (.int 0)]) [.app (.q [6] []) 3 (.var 6)] []]
theorem DG (n:Nat)(w0 w2 w3 w4 w5:Option W)(aw:List Nat)(m:Nat)(hm:m < aw.length)(h1:1<=aw.getD m 0) :
  evSs (C n) KA [w0,some (.o .s,.lst (aw.map nI)),w2,w3,w4,w5,some (.s,nI m),none,none,none]=.nx [w0,some (.o .s,.lst ((aw.set m (aw.getD m 0-1)).map nI)),w2,w3,w4,w5,some (.s,nI m),none,none,none]:=by
 have e1:=cA hm
 have e2:=ia hm
 have e3:((aw.getD m 0:Nat):Int)-1=((aw.getD m 0-1:Nat):Int):=by omega
 have e4:=ie aw m (aw.getD m 0-1)
 simp_all only [e1,e2,e3,e4]
theorem CP (n:Nat)(w0 w2 w4 w5:Option W)(aw td:List Nat)(m:Nat)(hm:m < aw.length)(ht:td.length < 500) :
  evSs (C n) KB [w0,some (.o .s,.lst (aw.map nI)),w2,some (.d,.lst (td.map nI)),w4,w5,some (.s,nI m),none,none,none]=.nx [w0,some (.o .s,.lst (aw.map nI)),w2,some (.d,.lst ((if aw.getD m 0=0 then td++[m] else td).map nI)),w4,w5,some (.s,nI m),none,none,none]:=by
 have e1:=cA hm
 by_cases h:aw.getD m 0=0
 ·have e2:(((aw.getD m 0:Nat):Int)==0)=true:=by rw [h]; rfl
  have e3:=lN td m
  have e4:(td.map nI).length < LIM:=by rw [a0b]; exact zO (by omega)
  rw [if_pos h]
  simp_all only [e1,e2,e3,e4]
 ·have e2:(((aw.getD m 0:Nat):Int)==0)=false:=by rw [beq_eq_false_iff_ne]; omega
  rw [if_neg h]
  simp_all only [e1,e2]
noncomputable abbrev KI:List S:=[
    .setI (.q [1,6] []) 1 (.var 6) (.op .sub false [.op .ix false [.var 1,.var 6],.cst (.int 1)]),
    .ite (.q [1,6] []) (.op .eq false [.op .ix false [.var 1,.var 6],.cst (.int 0)]) [.app (.q [6] []) 3 (.var 6)] []]
theorem xB (k n:Nat)(P:Nat->List Nat)(hn:n<=12)(D:List Nat)(x:Nat)(hx:x ∉ D)(sl:List Nat)(hs:∀ m,m < n->sl.count m=(P m).count x)(w0 w2 w4 w5:Option W) :
  ∀ (r u td aw:List Nat) (o6:Option W),u++r=sl->(∀ m∈r,m < n)->Kn P n D td u aw->(∀ y∈D++[x],y∈td) ->
  ∃ td' aw' o6',bR [6] (evSs (C k) KI) (r.map fun i=>[((.s,nI i):W)]) [w0,some (.o .s,.lst (aw.map nI)),w2,some (.d,.lst (td.map nI)),w4,w5,o6,none,none,none]=.nx [w0,some (.o .s,.lst (aw'.map nI)),w2,some (.d,.lst (td'.map nI)),w4,w5,o6',none,none,none]/\Kn P n D td' sl aw'/\∃ e,td'=td++e
 | [],u,td,aw,o6,hu,_,h,_=>⟨td,aw,o6,rfl,by rw [<- hu,a0F]; exact h,[],by simp⟩
 | m::r,u,td,aw,o6,hu,hr,h,hD=>by
  have hm:=hr m a0e
  have hc:u.count m+1<=(P m).count x:=by
   rw [<- hs m hm,<- hu,a2i,a1Y]
   simp
  have hp:=h.pos hx hm hc
  have hml:m < aw.length:=by rw [h.len]; exact hm
  have htl:=g9 n td h.nd h.lt
  have e1:=DG k w0 w2 (some (.d,.lst (td.map nI))) w4 w5 aw m hml hp
  have e2:=CP k w0 w2 w4 w5 (aw.set m (aw.getD m 0-1)) td m (by rw [a05]; exact hml) (by omega)
  rw [cP aw m m _ hml,if_pos rfl] at e2
  have h':=h.step hx hD hm hc
  have hD':∀ y∈D++[x],y∈(if aw.getD m 0-1=0 then td++[m] else td):=fun y hy=>by
   split
   ·exact a0I _ (hD y hy)
   ·exact hD y hy
  obtain ⟨td',aw',o6',lp,h2,e,he⟩:=xB k n P hn D x hx sl hs w0 w2 w4 w5 r (u++[m]) _ _ (some (.s,nI m)) (by rw [a0T]; exact hu) (fun y hy=>hr y (a0d _ hy)) h' hD'
  refine ⟨td',aw',o6',?_,h2,?_⟩
  ·show Fl.turn (evSs (C k) (KA++KB) [w0,some (.o .s,.lst (aw.map nI)),w2,some (.d,.lst (td.map nI)),w4,w5,some (.s,nI m),none,none,none]) (bR [6] (evSs (C k) KI) (r.map fun i=>[((.s,nI i):W)]))=_
   rw [go1 e1,e2]
   exact lp
  ·split at he
   ·exact ⟨[m]++e,by rw [he,a0T]⟩
   ·exact ⟨e,he⟩
noncomputable abbrev KW:List S:=[
   .asg (.q [3,4] []) 5 (.op .ix false [.var 3,.var 4]),
   .forS [2] [5] .seq [.op .ix false [.var 2,.var 5]] [6] KI,
   .asg (.q [4] []) 4 (.op .add false [.var 4,.cst (.int 1)])]
theorem Bu {S:List (List Nat)}{x:Nat}(h:x < S.length):atI (mS S) (x:Int)=some (.lst ((S.getD x []).map nI)):=by
 have:ixN (mS S).length (x:Int)=some x:=by
  unfold ixN
  rw [mS,a0b,if_pos (by omega),if_pos (by omega)]
  simp
 unfold atI
 rw [this]
 show (mS S)[x]?=_
 rw [mS,a0s,a0c,a0h h]; rfl
theorem Ck (k n:Nat)(P:Nat->List Nat)(hn:n<=12)(w0 o5 o6:Option W)(td aw:List Nat)(a:Nat)(ha:a < td.length)(h:Kn P n (td.take a) td [] aw)(m2 m4:Md) :
  ∃ td' aw' m2' m4' o5' o6',evSs (C k) KW [w0,some (.o .s,.lst (aw.map nI)),some (m2,.lst (mS (aH P n n))),some (.d,.lst (td.map nI)),some (m4,nI a),o5,o6,none,none,none]=.nx [w0,some (.o .s,.lst (aw'.map nI)),some (m2',.lst (mS (aH P n n))),some (.d,.lst (td'.map nI)),some (m4',nI (a+1)),o5',o6',none,none,none]/\Kn P n (td'.take (a+1)) td' [] aw'/\a+1<=td'.length:=by
 have hx:td[a]?=some (td.getD a 0):=by rw [a0c,a0h ha]; rfl
 generalize hxe:td.getD a 0=x at hx
 have hxn:x < n:=h.lt x (a0J hx)
 have htk:td.take (a+1)=td.take a++[x]:=by rw [a2h,hx]; rfl
 have hxD:x ∉ td.take a:=fun z=>by
  have nd:(td.take (a+1)).Nodup:=h.nd.sublist (a2Y _ _)
  rw [htk,a21] at nd
  exact nd.2.2 x z x (by simp) rfl
 have sc:∀ m,m < n->((aH P n n).getD x []).count m=(P m).count x:=fun m hm=>by rw [c5 P n n x m hxn,if_pos hm]
 have sl:∀ m∈(aH P n n).getD x [],m < n:=fun m hm=>by
  rcases a17 m n with z | z
  ·exact z
  ·have:=c5 P n n x m hxn
   rw [if_neg (by omega)] at this
   exact absurd hm (List.count_eq_zero.mp this)
 obtain ⟨td',aw',o6',lp,h2,e,he⟩:=xB k n P hn (td.take a) x hxD ((aH P n n).getD x []) sc w0 (some (.s,.lst (mS (aH P n n)))) (some (m4,nI a)) (some (.d,nI x)) ((aH P n n).getD x []) [] td aw o6 rfl sl h (fun y hy=>by rw [<- htk] at hy; exact List.mem_of_mem_take hy)
 have e1:=cA ha
 rw [hxe] at e1
 have e2:=Bu (S:=aH P n n) (x:=x) (by rw [bu]; exact hxn)
 have e3:=bV ((aH P n n).getD x [])
 have e4:((a:Nat):Int)+1=((a+1:Nat):Int):=by omega
 have hl:a+1<=td.length:=ha
 have hk:td'.take (a+1)=td.take a++[x]:=by rw [he,a07 hl,htk]
 refine ⟨td',aw',_,_,_,_,by simp_all only [e1,e2,e3,lp,e4]; rfl,by rw [hk]; exact h2.next hxD sc,by rw [he,a0l]; omega⟩
theorem eE {α:Type}{tg:List Nat}{f:Env->Res (Option W×Env)}{η:Env}{g:α->List W}(w:α->Option W):∀ (ts:List α) (acc:List W),(∀ x∈ts,∃ η1 η2,aY tg (g x) η=some η1/\f η1=.ok (w x,η2)/\af tg η2=η) ->
  aA tg f (ts.map g) η acc=.ok (acc++ts.filterMap w,η)
 | [],acc,_=>by rw [a1L,List.filterMap_nil,a0F]; rfl
 | x::ts,acc,h=>by
  obtain ⟨η1,η2,h1,h2,h3⟩:=h x a0e
  rw [a0w]
  show (ofO (aY tg (g x) η)).bind _=_
  rw [h1]
  show (f η1).bind _=_
  rw [h2]
  show aA tg f (ts.map g) (af tg η2) (acc++(w x).toList)=_
  rw [h3,eE w ts _ fun y hy=>h y (a0d _ hy),a0T,a0R]
  cases w x<;>rfl
theorem mJ {α:Type}(f:T->α)(L:List T):L.map f=(a0k L.length).map fun i=>f (L.getD i .non):=by
 apply List.ext_getElem?
 intro i
 rw [a0s,a0s]
 rcases a17 i L.length with h | h
 ·rw [a0S h,a0h h]
  show some (f L[i])=some (f (L.getD i .non))
  rw [a0c,a0h h]; rfl
 ·rw [a1N h,a1N (by rw [a0C]; exact h)]; rfl
theorem bC {α:Type}(c:Nat->Bool)(g:Nat->α):∀ l:List Nat,l.filterMap (fun i=>if c i then some (g i) else none)=(l.filter c).map g
 | []=>rfl
 | x::l=>by
  rw [a0R,List.filter_cons]
  cases h:c x with
  | true=>rw [if_pos rfl,if_pos rfl,a0w,bC c g l]
  | false=>rw [if_neg a0f,if_neg a0f,bC c g l]
theorem yK {L:List T}(k:Nat):(ahT (L.getD k .non)).length=(PL L k).length:=by rw [PL,a0b]
noncomputable abbrev KC:E:=.op .lt false [.var 4,.op .len false [.var 3]]
theorem jX (k:Nat)(L:List T)(hL:Sts L)(m:Md):∃ os,kn (PL L) L.length os/\C (k+2) 296 [(m,.lst L)]=.ok ((.d,.lst (os.map nI)),[]):=by
 obtain ⟨rk,o⟩:=eA hL
 have hn:=hL.len
 -- for how many each waits
 have c1:aA [7] (bJ (evE (C (k+1)) (.op .len false [.op .ix false [.var 7,.cst (.int 3)]]))) (L.map fun t=>[((.s,t):W)]) [some (.s,.lst L),none,none,none,none,none,none,none,none,none] []=.ok ([]++L.map (fun u=>((.d,nI (ahT u).length):W)),[some (.s,.lst L),none,none,none,none,none,none,none,none,none]):=aR (fun u=>((.d,nI (ahT u).length):W)) L [] fun u hu=>⟨_,[some (.s,.lst L),none,none,none,none,none,none,some (.s,u),none,none],rfl,by
  obtain ⟨i,j,w,ns,rfl,_⟩:=hL.st u hu
  have e:ahT (.tup [.tup [.int (i:Int),.int (j:Int)],.tup [],.int w,.lst (ns.map T.int)])=ns.map T.int:=rfl
  rw [e]
  simp_all only [kh],rfl⟩
 generalize haw:(a0k L.length).map (fun m=>(PL L m).length)=aw
 have t1:aS (L.map fun u=>((.d,nI (ahT u).length):W))=aw.map nI:=by
  rw [aL (fun _=>Md.d) (fun u=>nI (ahT u).length) L,mJ,<- haw,a1h]
  exact a0W fun i _=>by show nI _=nI _; rw [yK]
 have hk0:=Kn.start (P:=PL L) (n:=L.length)
 rw [haw] at hk0
 have hal:=hk0.len
 have e1:=Ec k L hL
 -- those that wait for none
 have e2:=d9 (aw.map nI)
 have gA:∀ i,i < aw.length->(aw.map nI).getD i .non=nI (aw.getD i 0):=fun i hi=>by
  rw [a0c,a0s,a0h hi,a0c,a0h hi]; rfl
 have c2:∀ w0 w1 w2:Option W,aA [8,9] (bZ (evE (C (k+1)) (.op .eq false [.var 9,.cst (.int 0)])) (evE (C (k+1)) (.var 8))) ((a0k (aw.map nI).length).map fun i=>[((.d,nI i):W),(.s,(aw.map nI).getD i .non)]) [w0,w1,w2,none,none,none,none,none,none,none] []=.ok ([]++(a0k (aw.map nI).length).filterMap (fun i=>if aw.getD i 0==0 then some ((.d,nI i):W) else none),[w0,w1,w2,none,none,none,none,none,none,none]):=fun w0 w1 w2=>eE (fun i=>if aw.getD i 0==0 then some ((.d,nI i):W) else none) _ [] fun i hi=>by
  have hi':i < aw.length:=by rw [a0U,a0b] at hi; exact hi
  have g:=gA i hi'
  refine ⟨_,[w0,w1,w2,none,none,none,none,none,some (.d,nI i),some (.s,nI (aw.getD i 0))],by rw [g]; rfl,?_,rfl⟩
  cases h0:aw.getD i 0==0 with
  | true =>
   have e3:(((aw.getD i 0:Nat):Int)==0)=true:=by rw [beq_iff_eq] at h0; rw [h0]; rfl
   rw [if_pos rfl]
   simp_all only [e3]
  | false =>
   have e3:(((aw.getD i 0:Nat):Int)==0)=false:=by rw [beq_eq_false_iff_ne] at h0 ⊢; omega
   rw [if_neg a0f]
   simp_all only [e3]
 have t2:(a0k (aw.map nI).length).filterMap (fun i=>if aw.getD i 0==0 then some ((.d,nI i):W) else none)=((a0k L.length).filter fun m=>(PL L m).length==0).map fun i=>((.d,nI i):W):=by
  rw [bC (fun i=>aw.getD i 0==0) (fun i=>((.d,nI i):W)),a0b,hal]
  congr 1
  exact List.filter_congr fun i hi=>by
   rw [<- haw,a0c,a0s,a0S (a0U.mp hi)]; rfl
 generalize htd:(a0k L.length).filter (fun m=>(PL L m).length==0)=td at hk0 t2
 have t3:aS (td.map fun i=>((.d,nI i):W))=td.map nI:=aL (fun _=>Md.d) nI td
 have t4:(td.map fun i=>((.d,nI i):W)).all okD=true:=a0x.mpr fun w hw=>by obtain ⟨_,_,rfl⟩:=a0z.mp hw; rfl
 obtain ⟨η',lp,os,aw',m2,m4,o5,o6,ht,rfl⟩:=lU (c:=evT (C (k+1)) (.q [3,4] []) KC) (f:=evSs (C (k+1)) KW)
  (fun r η=>∃ (a:Nat) (td aw:List Nat) (m2 m4:Md) (o5 o6:Option W),r=L.length-a/\a<=td.length/\Kn (PL L) L.length (td.take a) td [] aw/\η=[some (.s,.lst L),some (.o .s,.lst (aw.map nI)),some (m2,.lst (mS (aH (PL L) L.length L.length))),some (.d,.lst (td.map nI)),some (m4,nI a),o5,o6,none,none,none])
  (fun η=>∃ (td aw:List Nat) (m2 m4:Md) (o5 o6:Option W),kn (PL L) L.length td/\η=[some (.s,.lst L),some (.o .s,.lst (aw.map nI)),some (m2,.lst (mS (aH (PL L) L.length L.length))),some (.d,.lst (td.map nI)),some (m4,nI td.length),o5,o6,none,none,none])
  rJ L.length [some (.s,.lst L),some (.o .s,.lst (aw.map nI)),some (.d,.lst (mS (aH (PL L) L.length L.length))),some (.d,.lst (td.map nI)),some (.d,.int 0),none,none,none,none,none] (by show L.length < 1000000000000; omega)
  ⟨0,td,aw,.d,.d,none,none,rfl,a0M _,hk0,rfl⟩
  (fun r η ⟨a,td,aw,m2,m4,o5,o6,hr,ha,h,he⟩=>by
   subst he
   have l1:(td.map nI).length=td.length:=a0b _
   have htl:=g9 L.length td h.nd h.lt
   rcases a17 a td.length with hlt | hge
   ·right
    have d:decide (((a:Nat):Int) < ((td.length:Nat):Int))=true:=decide_eq_true (by omega)
    obtain ⟨td',aw',m2',m4',o5',o6',e,h',ha'⟩:=Ck (k+1) L.length (PL L) hn (some (.s,.lst L)) o5 o6 td aw a hlt h m2 m4
    exact ⟨_,_,L.length-(a+1),by simp_all only [l1,d],e,by omega,a+1,td',aw',m2',m4',o5',o6',rfl,ha',h',rfl⟩
   ·left
    have d:decide (((a:Nat):Int) < ((td.length:Nat):Int))=false:=decide_eq_false (by omega)
    have hae:a=td.length:=by omega
    subst hae
    rw [a1v] at h
    exact ⟨_,by simp_all only [l1,d],td,aw,m2,m4,o5,o6,h.done o,rfl⟩)
 refine ⟨os,ht,?_⟩
 rw [jI,x_run _ _ _ rfl]
 simp_all only [bN,c1,t1,e1,e2,c2,t2,t3,t4,lp]
theorem dN:∀ l:List Nat,intsOf (l.map nI)=some (l.map fun (i:Nat)=>(i:Int))
 | []=>rfl
 | x::l=>by show (intsOf (l.map nI)).map ((x:Int)::·)=_; rw [dN l]; rfl
theorem fL:∀ l:List Nat,maxI (l.map fun (i:Nat)=>(i:Int))=((mxN l:Nat):Int)
 | []=>rfl
 | [x]=>by show (x:Int)=((max x 0:Nat):Int); rw [a3N]
 | x::y::l=>by
  have ih:=fL (y::l)
  show max (x:Int) (maxI ((y::l).map fun (i:Nat)=>(i:Int)))=((max x (mxN (y::l)):Nat):Int)
  rw [ih]
  omega
theorem i9 (l:List Nat):(if (l.map fun (i:Nat)=>(i:Int)).isEmpty=true then (0:Int) else maxI (l.map fun (i:Nat)=>(i:Int)))=((mxN l:Nat):Int):=by
 cases l with
 | nil=>rfl
 | cons x l =>
  rw [if_neg (by simp)]
  exact fL _
noncomputable abbrev LA:List S:=[.setI (.q [0,1] [2]) 1 (.var 2) (.op .add false [.cst (.int 1),.op .maxZ false [.comp false .seq [.op .ix false [.op .ix false [.var 0,.var 2],.cst (.int 3)]] [6] none (.op .ix false [.var 1,.var 6])]])]
theorem C5 (k:Nat)(L:List T)(hL:Sts L)(ln:List Nat)(hl:ln.length=L.length)(x:Nat)(hx:x < L.length)(w3 w4 w5:Option W)(m2:Md) :
  evSs (C k) LA [some (.s,.lst L),some (.o .s,.lst (ln.map nI)),some (m2,nI x),w3,w4,w5,none,none]=.nx [some (.s,.lst L),some (.o .s,.lst ((ln.set x (1+mxN ((PL L x).map fun p=>ln.getD p 0))).map nI)),some (m2,nI x),w3,w4,w5,none,none]:=by
 obtain ⟨a,b,w,e1,e2,e3⟩:=jY hL hx
 have c1:∀ w2:Option W,aA [6] (bJ (evE (C k) (.op .ix false [.var 1,.var 6]))) ((PL L x).map fun i=>[((.s,nI i):W)]) [some (.s,.lst L),some (.s,.lst (ln.map nI)),w2,none,none,none,none,none] []=.ok ([]++(PL L x).map (fun p=>((.s,nI (ln.getD p 0)):W)),[some (.s,.lst L),some (.s,.lst (ln.map nI)),w2,none,none,none,none,none]):=fun w2=>aR (fun p=>((.s,nI (ln.getD p 0)):W)) (PL L x) [] fun p hp=>⟨_,[some (.s,.lst L),some (.s,.lst (ln.map nI)),w2,none,none,none,some (.s,nI p),none],rfl,by
  have g:=cA (l:=ln) (m:=p) (by rw [hl]; exact e2 p hp)
  simp_all only [g],rfl⟩
 have t1:aS ((PL L x).map fun p=>((.s,nI (ln.getD p 0)):W))=((PL L x).map fun p=>ln.getD p 0).map nI:=by rw [aL (fun _=>Md.s) (fun p=>nI (ln.getD p 0)),a1h]; rfl
 have t2:=dN ((PL L x).map fun p=>ln.getD p 0)
 have t3:=i9 ((PL L x).map fun p=>ln.getD p 0)
 have g1:=iw hx
 rw [e1] at g1
 have g2:=bV (PL L x)
 have g3:=ia (l:=ln) (m:=x) (by rw [hl]; exact hx)
 have g4:1+((mxN ((PL L x).map fun p=>ln.getD p 0):Nat):Int)=((1+mxN ((PL L x).map fun p=>ln.getD p 0):Nat):Int):=by omega
 have g5:=ie ln x (1+mxN ((PL L x).map fun p=>ln.getD p 0))
 simp_all only [g1,kh,g2,c1,t1,t2,t3,g3,g4,g5]
theorem ui (k:Nat)(L:List T)(hL:Sts L){os:List Nat}(ht:kn (PL L) L.length os)(w3 w4 w5:Option W) :
  ∃ ln o2,bR [2] (evSs (C k) LA) (os.map fun i=>[((.s,nI i):W)]) [some (.s,.lst L),some (.o .s,.lst ((a0i L.length 0).map nI)),none,w3,w4,w5,none,none]=.nx [some (.s,.lst L),some (.o .s,.lst (ln.map nI)),o2,w3,w4,w5,none,none]/\ln=(a0k L.length).map (lg (PL L)):=by
 obtain ⟨rk,o⟩:=eA hL
 obtain ⟨η',lp,ln,o2,h1,h2,e⟩:=bf (tg:=[2]) (f:=evSs (C k) LA) (g:=fun (i:Nat)=>[((.s,nI i):W)])
  (fun pre η=>∃ (ln:List Nat) (o2:Option W),ln.length=L.length/\(∀ x∈pre,ln.getD x 0=lg (PL L) x)/\η=[some (.s,.lst L),some (.o .s,.lst (ln.map nI)),o2,w3,w4,w5,none,none])
  os [] [some (.s,.lst L),some (.o .s,.lst ((a0i L.length 0).map nI)),none,w3,w4,w5,none,none] ⟨_,none,a0H,(fun _ z=>nomatch z),rfl⟩
  (fun p x r η hp ⟨ln,o2,h1,h2,he⟩=>by
   subst he
   rw [a0K] at hp
   have hi:os[p.length]?=some x:=by rw [hp,a0B (a0m _),a16]; rfl
   have hx:=ht.lt x (a0J hi)
   have hpre:∀ q∈PL L x,q∈p:=fun q hq=>by
    have:=ht.pre p.length x hi q hq
    rw [hp,a07 (a0m _),a1v] at this
    exact this
   have e:=C5 k L hL ln h1 x hx w3 w4 w5 .s
   have hv:1+mxN ((PL L x).map fun q=>ln.getD q 0)=lg (PL L) x:=by
    rw [gf o hx,a0W fun q hq=>h2 q (hpre q hq)]
   rw [hv] at e
   refine ⟨_,_,rfl,e,ln.set x (lg (PL L) x),_,by rw [a05]; exact h1,fun y hy=>?_,rfl⟩
   rw [cP ln x y _ (by rw [h1]; exact hx)]
   split
   ·rename_i z; rw [z]
   ·rename_i z
    rcases a0O.mp hy with q | q
    ·exact h2 y q
    ·exact absurd (a0q.mp q).symm z)
 refine ⟨ln,o2,by rw [lp,e],a3h (by rw [a0b,a0C]; exact h1) fun i hi1 hi2=>?_⟩
 have hi:i < L.length:=by rw [<- h1]; exact hi1
 have:=h2 i (by simpa using ht.all i hi)
 rw [a0c,a0h hi1] at this
 rw [a3i,a2S]
 exact this
noncomputable def Cn (P:Nat->List Nat):List Nat->Prop
 | a::b::r=>a∈P b/\Cn P (b::r)
 | _=>True
noncomputable abbrev RA:List S:=[.app (.q [1,4] [5]) 3 (.op .ix false [.comp false .seq [.var 4] [7] (some (.op .eq false [.op .ix false [.var 1,.var 7],.var 5])) (.var 7),.cst (.int 0)])]
noncomputable abbrev RZ:List S:=[.asg (.l [0]) 4 (.op .ix false [.op .ix false [.var 0,.qx [3] [] (.op .ix false [.var 3,.op .neg false [.cst (.int 1)]])],.cst (.int 3)])]
theorem pf (a b:Nat):(((a:Nat):Int)==((b:Nat):Int))=(a==b):=by
 by_cases h:a=b
 ·subst h; simp
 ·rw [beq_eq_false_iff_ne.mpr h,beq_eq_false_iff_ne.mpr (by omega)]
theorem DT (k:Nat)(ln ch rv:List Nat)(v y:Nat)(hc:∀ z∈ch,z < ln.length)(hy:(ch.filter fun z=>ln.getD z 0==v).head?=some y)(hr:rv.length < 500)(w0 w2:Option W)(m1 m3 m4 m5:Md)(hm3:m3=.o .s) :
  evSs (C k) RA [w0,some (m1,.lst (ln.map nI)),w2,some (m3,.lst (rv.reverse.map nI)),some (m4,.lst (ch.map nI)),some (m5,nI v),none,none]=.nx [w0,some (m1,.lst (ln.map nI)),w2,some (m3,.lst ((y::rv).reverse.map nI)),some (m4,.lst (ch.map nI)),some (m5,nI v),none,none]:=by
 subst hm3
 have c1:∀ m5:Md,aA [7] (bZ (evE (C k) (.op .eq false [.op .ix false [.var 1,.var 7],.var 5])) (evE (C k) (.var 7))) (ch.map fun i=>[((.s,nI i):W)]) [none,some (.s,.lst (ln.map nI)),none,none,some (.s,.lst (ch.map nI)),some (m5,nI v),none,none] []=.ok ([]++ch.filterMap (fun z=>if ln.getD z 0==v then some ((.s,nI z):W) else none),[none,some (.s,.lst (ln.map nI)),none,none,some (.s,.lst (ch.map nI)),some (m5,nI v),none,none]):=fun m5=>eE (fun z=>if ln.getD z 0==v then some ((.s,nI z):W) else none) ch [] fun z hz=>by
  refine ⟨_,[none,some (.s,.lst (ln.map nI)),none,none,some (.s,.lst (ch.map nI)),some (m5,nI v),none,some (.s,nI z)],rfl,?_,rfl⟩
  have g:=cA (hc z hz)
  have g2:=pf (ln.getD z 0) v
  cases h0:ln.getD z 0==v with
  | true =>
   rw [h0] at g2
   rw [if_pos rfl]
   simp_all only [g,g2]
  | false =>
   rw [h0] at g2
   rw [if_neg a0f]
   simp_all only [g,g2]
 have t1:=bC (fun z=>ln.getD z 0==v) (fun z=>((.s,nI z):W)) ch
 have t2:aS ((ch.filter fun z=>ln.getD z 0==v).map fun z=>((.s,nI z):W))=(ch.filter fun z=>ln.getD z 0==v).map nI:=aL (fun _=>Md.s) nI _
 have t3:atI ((ch.filter fun z=>ln.getD z 0==v).map nI) 0=some (nI y):=by
  cases hf:ch.filter fun z=>ln.getD z 0==v with
  | nil=>rw [hf] at hy; cases hy
  | cons u l =>
   rw [hf] at hy
   cases hy
   exact cA (l:=y::l) (m:=0) (Nat.zero_lt_succ _)
 have g2:=bV ch
 have g3:rv.reverse.map nI++[nI y]=(y::rv).reverse.map nI:=by rw [lN,a1q]
 have g4:(rv.reverse.map nI).length < LIM:=by rw [a0b,a1x]; exact zO (by omega)
 simp_all only [g2,c1,t1,t2,t3,g3,g4]
theorem wq {l:List T}{t:T}(h:l.getLast?=some t):atI l (-1)=some t:=by
 cases l with
 | nil=>cases h
 | cons a r =>
  have e:ixN (a::r).length (-1)=some r.length:=by
   unfold ixN
   rw [if_neg (by decide),if_pos (by rw [a0g]; omega)]
   congr 1
   rw [a0g]
   omega
  unfold atI
  rw [e]
  show (a::r)[r.length]?=some t
  rw [List.getLast?_eq_getElem?] at h
  simpa using h
theorem BM (k:Nat)(L:List T)(hL:Sts L)(rv:List Nat)(y:Nat)(hy:y < L.length)(w1 w2 w4 w5:Option W)(m3:Md) :
  evSs (C k) RZ [some (.s,.lst L),w1,w2,some (m3,.lst ((y::rv).reverse.map nI)),w4,w5,none,none]=.nx [some (.s,.lst L),w1,w2,some (m3,.lst ((y::rv).reverse.map nI)),some (.s,.lst ((PL L y).map nI)),w5,none,none]:=by
 obtain ⟨a,b,w,e1,e2,e3⟩:=jY hL hy
 have g1:=iw hy
 rw [e1] at g1
 have g2:atI ((y::rv).reverse.map nI) (-1)=some (nI y):=wq (by rw [List.getLast?_map,List.getLast?_reverse]; rfl)
 have n1:-(1:Int)=-1:=rfl
 simp_all only [g1,g2,kh,n1]
structure Bw (P:Nat->List Nat)(n Lm:Nat)(t:Nat)(rv ch:List Nat):Prop where
 len:rv.length=t
 cn:Cn P rv
 lt:∀ x∈rv,x < n
 cl:∀ x∈ch,x < n
 hd:∀ x r,rv=x::r->ch=P x
 ex:t < Lm->∃ y∈ch,lg P y=Lm-t
theorem Bw.step {P:Nat->List Nat}{n Lm t:Nat}{rk:Nat->Nat}{rv ch:List Nat}(o:eR P n rk)(h:Bw P n Lm t rv ch)(ht:t < Lm){y:Nat}(hy:y∈ch)(hl:lg P y=Lm-t):Bw P n Lm (t+1) (y::rv) (P y):=by
 have hyn:=h.cl y hy
 refine ⟨by rw [a0g,h.len],?_,fun x hx=>?_,fun x hx=>o.lt y hyn x hx,fun x r e=>by cases e; rfl,fun ht'=>?_⟩
 ·cases rv with
  | nil=>trivial
  | cons a r=>exact ⟨(h.hd a r rfl) ▸ hy,h.cn⟩
 ·rcases a0r.mp hx with z | z
  ·rw [z]; exact hyn
  ·exact h.lt x z
 ·rw [gf o hyn] at hl
  have ne:(P y).map (lg P)≠[]:=fun z=>by
   rw [z] at hl
   have:mxN []=0:=rfl
   omega
  obtain ⟨p,hp,e⟩:=a0z.mp (iO ne)
  exact ⟨p,hp,by rw [e]; omega⟩
theorem Bw.start {P:Nat->List Nat}{n:Nat}:Bw P n (mxN ((a0k n).map (lg P))) 0 [] (a0k n):=by
 refine ⟨rfl,trivial,fun _ z=>(nomatch z),fun x hx=>a0U.mp hx,fun x r e=>(nomatch e),fun h=>?_⟩
 have ne:(a0k n).map (lg P)≠[]:=fun z=>by
  rw [z] at h
  exact absurd h (a04 0)
 obtain ⟨p,hp,e⟩:=a0z.mp (iO ne)
 exact ⟨p,hp,e⟩
noncomputable abbrev RQ:List S:=[
   .app (.q [1,4] [5]) 3 (.op .ix false [.comp false .seq [.var 4] [7] (some (.op .eq false [.op .ix false [.var 1,.var 7],.var 5])) (.var 7),.cst (.int 0)]),
   .asg (.l [0]) 4 (.op .ix false [.op .ix false [.var 0,.qx [3] [] (.op .ix false [.var 3,.op .neg false [.cst (.int 1)]])],.cst (.int 3)])]
theorem wd (k:Nat)(L:List T)(hL:Sts L)(w2:Option W)(m1 m4:Md)(ln:List Nat)(hln:ln=(a0k L.length).map (lg (PL L)))(hm:mxN ln<=100) :
  ∃ rv m1' w4' w5',rv.length=mxN ln/\Cn (PL L) rv/\(∀ x∈rv,x < L.length)/\bR [5] (evSs (C k) RQ) ((a0k (mxN ln)).map fun (j:Nat)=>[((.d,.int (((mxN ln:Nat):Int)-(j:Int))):W)]) [some (.s,.lst L),some (m1,.lst (ln.map nI)),w2,some (.o .s,.lst []),some (m4,.lst ((a0k L.length).map nI)),none,none,none]=.nx [some (.s,.lst L),some (m1',.lst (ln.map nI)),w2,some (.o .s,.lst (rv.reverse.map nI)),w4',w5',none,none]:=by
 obtain ⟨rk,o⟩:=eA hL
 have b0:=Bw.start (P:=PL L) (n:=L.length)
 rw [<- hln] at b0
 have hll:ln.length=L.length:=by rw [hln,a0b,a0C]
 have hg:∀ z,z < L.length->ln.getD z 0=lg (PL L) z:=fun z hz=>by
  rw [hln,a0c,a0s,a0S hz]; rfl
 obtain ⟨η',lp,rv,ch,m1',m4',w5',b,e⟩:=bf (tg:=[5]) (f:=evSs (C k) RQ) (g:=fun (j:Nat)=>[((.d,.int (((mxN ln:Nat):Int)-(j:Int))):W)])
  (fun pre η=>∃ (rv ch:List Nat) (m1 m4:Md) (w5:Option W),Bw (PL L) L.length (mxN ln) pre.length rv ch/\η=[some (.s,.lst L),some (m1,.lst (ln.map nI)),w2,some (.o .s,.lst (rv.reverse.map nI)),some (m4,.lst (ch.map nI)),w5,none,none])
  (a0k (mxN ln)) [] [some (.s,.lst L),some (m1,.lst (ln.map nI)),w2,some (.o .s,.lst []),some (m4,.lst ((a0k L.length).map nI)),none,none,none] ⟨[],_,m1,m4,none,b0,rfl⟩
  (fun p j r η hp ⟨rv,ch,m1,m4,w5,b,he⟩=>by
   subst he
   rw [a0K] at hp
   obtain ⟨hj,hjl⟩:=et hp
   obtain ⟨y0,hy0,hl0⟩:=b.ex (by rw [<- hj]; exact hjl)
   have hne:(ch.filter fun z=>ln.getD z 0==mxN ln-j)≠[]:=fun z=>by
    have:y0∈ch.filter fun z=>ln.getD z 0==mxN ln-j:=a1e.mpr ⟨hy0,by rw [hg y0 (b.cl y0 hy0),hl0,hj]; simp⟩
    rw [z] at this
    cases this
   obtain ⟨y,hy⟩:∃ y,(ch.filter fun z=>ln.getD z 0==mxN ln-j).head?=some y:=by
    cases hf:ch.filter fun z=>ln.getD z 0==mxN ln-j with
    | nil=>exact absurd hf hne
    | cons u l=>exact ⟨u,rfl⟩
   have hym:=a1e.mp (List.mem_of_mem_head? hy)
   have hyn:=b.cl y hym.1
   have hyl:lg (PL L) y=mxN ln-j:=by
    have:=hym.2
    rw [hg y hyn,beq_iff_eq] at this
    exact this
   have b':=b.step o (by rw [<- hj]; exact hjl) hym.1 (by rw [<- hj]; exact hyl)
   have hrl:=b.len
   have e1:=DT k ln ch rv (mxN ln-j) y (fun z hz=>by rw [hll]; exact b.cl z hz) hy (by omega) (some (.s,.lst L)) w2 m1 (.o .s) m4 .d rfl
   have e2:=BM k L hL rv y hyn (some (m1,.lst (ln.map nI))) w2 (some (m4,.lst (ch.map nI))) (some (.d,nI (mxN ln-j))) (.o .s)
   have ej:((mxN ln:Nat):Int)-(j:Int)=((mxN ln-j:Nat):Int):=by omega
   refine ⟨[some (.s,.lst L),some (m1,.lst (ln.map nI)),w2,some (.o .s,.lst (rv.reverse.map nI)),some (m4,.lst (ch.map nI)),some (.d,nI (mxN ln-j)),none,none],_,by rw [ej]; rfl,by show evSs (C k) (RA++RZ) _=_; rw [go1 e1,e2],y::rv,PL L y,m1,.s,_,by rw [a0l,a0u]; exact b',rfl⟩)
 refine ⟨rv,m1',_,w5',by simpa using b.len,b.cn,b.lt,by rw [lp,e]⟩
theorem vg (k:Nat)(L:List T)(hL:Sts L)(m:Md):∃ rv:List Nat,rv.length=mxN ((a0k L.length).map (lg (PL L)))/\Cn (PL L) rv/\(∀ x∈rv,x < L.length)/\C (k+3) 295 [(m,.lst L)]=.ok ((.o .s,.lst (rv.map nI)),[]):=by
 obtain ⟨rk,o⟩:=eA hL
 obtain ⟨os,ht,e1⟩:=jX k L hL .s
 have hn:=hL.len
 obtain ⟨ln,o2,lp1,hln⟩:=ui (k+2) L hL ht none none none
 have hm:mxN ln<=100:=by rw [hln]; have:=AD o ht; omega
 have z1:(if (decide ((((L.length:Nat):Int)).natAbs < 4611686018427387904)&&fits ([T.int 0].length * (((L.length:Nat):Int)).toNat))=true then some ((.o .s,.lst (a0i (((L.length:Nat):Int)).toNat [T.int 0]).flatten):W) else none)=some (.o .s,.lst ((a0i L.length 0).map nI)):=by
  rw [a09,Int.natAbs_natCast,if_pos (by rw [a0j]; exact ⟨decide_eq_true (by omega),decide_eq_true (by show _<=16777215; simp; omega)⟩)]
  congr 3
  rw [a1D]
  induction L.length with
  | zero=>rfl
  | succ n ih=>rw [a0N,a0N,a1p,ih]; rfl
 have t1:=bV os
 obtain ⟨rv,m1',w4',w5',h1,h2,h3,lp2⟩:=wd (k+2) L hL o2 .s .d ln hln hm
 have t2:=dN ln
 have t3:=i9 ln
 have n1:-(1:Int)=-1:=rfl
 have r1:(decide ((((mxN ln:Nat):Int)).natAbs < 4611686018427387904)&&decide ((0:Int).natAbs < 4611686018427387904)&&decide True&&fits (mxN ln))=true:=by
  rw [decide_eq_true (show (((mxN ln:Nat):Int)).natAbs < 4611686018427387904 by omega),show fits (mxN ln)=true from decide_eq_true (by show _<=16777215; omega)]
  rfl
 have r2:(((mxN ln:Nat):Int)-0).toNat=mxN ln:=by omega
 have s1:oSem .rng false [(.d,.int 0),(.d,.int ((L.length:Nat):Int))]=some (.d,.lst ((a0k L.length).map nI)):=by
  show (if (decide ((0:Int).natAbs < 4611686018427387904)&&decide ((((L.length:Nat):Int)).natAbs < 4611686018427387904)&&fits (((L.length:Nat):Int)-0).toNat)=true then some ((.d,.lst ((a0k (((L.length:Nat):Int)-0).toNat).map fun (k:Nat)=>T.int (0+k))):W) else none)=_
  have:(((L.length:Nat):Int)-0).toNat=L.length:=by omega
  rw [this,decide_eq_true (show (((L.length:Nat):Int)).natAbs < 4611686018427387904 by omega),show fits L.length=true from decide_eq_true (by show _<=16777215; omega)]
  show some ((.d,.lst ((a0k L.length).map fun (k:Nat)=>T.int (0+k))):W)=_
  congr 3
  exact a0W fun i _=>by rw [a3M]
 have lv:leaves (rv.reverse.map nI)=true:=a0x.mpr fun t ht=>by obtain ⟨_,_,rfl⟩:=a0z.mp ht; rfl
 have l4:decide ((rv.reverse.map nI).length < LIM)=true:=by rw [a0b,a1x]; exact decide_eq_true (zO (by omega))
 have rr:(rv.reverse.map nI).reverse=rv.map nI:=by rw [<- List.map_reverse,List.reverse_reverse]
 rw [<- hln]
 refine ⟨rv,h1,h2,h3,?_⟩
 rw [fT,x_run _ _ _ rfl]
 simp_all only [bg,z1,e1,t1,lp1,s1,t2,t3,n1,r1,r2,lp2,lv,l4,rr]
structure Rd (P:Nat->List Nat)(n r:Nat)(es:List Nat):Prop where
 len:es.length=n
 le:∀ k,k < n->es.getD k 0<=lg P k
 one:∀ k,k < n->1<=es.getD k 0
 eq:∀ k,k < n->lg P k<=r+1->es.getD k 0=lg P k
structure Rm (P:Nat->List Nat)(n r m:Nat)(u es:List Nat):Prop extends Rd P n r es where
 dn:∀ k,k < m->k < n->lg P k<=r+2->es.getD k 0=lg P k
 up:∀ p∈u,es.getD p 0+1<=es.getD m 0
theorem BL {P:Nat->List Nat}{n:Nat}{rk:Nat->Nat}(o:eR P n rk){m p:Nat}(hm:m < n)(hp:p∈P m):lg P p+1<=lg P m:=by
 rw [gf o hm]
 have:=ly (a1z (f:=lg P) hp)
 omega
noncomputable def rx (m:Nat)(es:List Nat)(p:Nat):List Nat:=es.set m (max (es.getD m 0) (es.getD p 0+1))
theorem Rm.step {P:Nat->List Nat}{n r m:Nat}{rk:Nat->Nat}{u es:List Nat}{p:Nat}(o:eR P n rk)(h:Rm P n r m u es)(hm:m < n)(hp:p∈P m)(hu:∀ q∈u,q∈P m):Rm P n r m (u++[p]) (rx m es p):=by
 have hml:m < es.length:=by rw [h.len]; exact hm
 have hpn:=o.lt m hm p hp
 have l1:=h.le p hpn
 have l2:=BL o hm hp
 have l3:=h.le m hm
 have g:∀ k,(rx m es p).getD k 0=if m=k then max (es.getD m 0) (es.getD p 0+1) else es.getD k 0:=fun k=>cP es m k _ hml
 have ne:∀ q,q∈P m->m≠q:=fun q hq z=>by have:=o.dn m hm q hq; rw [<- z] at this; exact a04 _ this
 constructor
 ·constructor
  ·rw [rx,a05]; exact h.len
  ·intro k hk
   rw [g k]
   split
   ·rename_i e; rw [<- e]; omega
   ·exact h.le k hk
  ·intro k hk
   rw [g k]
   split
   ·have:=h.one m hm; omega
   ·exact h.one k hk
  ·intro k hk hl
   rw [g k]
   split
   ·rename_i e; subst e; have:=h.eq m hm hl; omega
   ·exact h.eq k hk hl
 ·intro k hkm hk hl
  rw [g k]
  split
  ·rename_i e; omega
  ·exact h.dn k hkm hk hl
 ·intro q hq
  rw [g m,if_pos rfl]
  rcases a0O.mp hq with z | z
  ·rw [g q,if_neg (ne q (hu q z))]
   have:=h.up q z
   omega
  ·rw [a0q.mp z,g p,if_neg (ne p hp)]
   omega
theorem Rm.next {P:Nat->List Nat}{n r m:Nat}{rk:Nat->Nat}{es:List Nat}(o:eR P n rk)(h:Rm P n r m (P m) es)(hm:m < n):Rm P n r (m+1) [] es:=by
 refine ⟨h.toRd,fun k hkm hk hl=>?_,fun _ z=>(nomatch z)⟩
 rcases a17 k m with z | z
 ·exact h.dn k z hk hl
 ·have e:k=m:=by omega
  subst e
  have h1:=h.le k hk
  have h2:lg P k<=es.getD k 0:=by
   have hone:=h.one k hk
   rw [gf o hk] at hl ⊢
   have:mxN ((P k).map (lg P))<=es.getD k 0-1:=iJ fun y hy=>by
    obtain ⟨p,hp,rfl⟩:=a0z.mp hy
    have h3:=ly (a1z (f:=lg P) hp)
    have h4:=h.up p hp
    have h5:=h.eq p (o.lt k hk p hp) (by omega)
    omega
   omega
  omega
theorem Rd.more {P:Nat->List Nat}{n r:Nat}{es:List Nat}(h:Rm P n r n [] es):Rd P n (r+1) es:=⟨h.len,h.le,h.one,fun k hk hl=>h.dn k hk hk hl⟩
theorem Rd.start {P:Nat->List Nat}{n:Nat}:Rd P n 0 (a0i n 1):=by
 have g:∀ k,k < n->(a0i n 1).getD k 0=1:=fun k hk=>by rw [a0c,a0Z,if_pos hk]; rfl
 refine ⟨a0H,fun k hk=>?_,fun k hk=>?_,fun k hk hl=>?_⟩
 ·rw [g k hk]; exact pJ k
 ·rw [g k hk]; exact a0m _
 ·rw [g k hk]; have:=pJ (P:=P) k; omega
noncomputable abbrev XA:List S:=[.setI (.q [1,5] [3]) 1 (.var 3) (.op .max false [.op .ix false [.var 1,.var 3],.op .add false [.op .ix false [.var 1,.var 5],.cst (.int 1)]])]
theorem B7 (k:Nat)(es:List Nat)(m p:Nat)(hm:m < es.length)(hp:p < es.length)(w0 w2 w4:Option W)(m3:Md) :
  evSs (C k) XA [w0,some (.o .s,.lst (es.map nI)),w2,some (m3,nI m),w4,some (.s,nI p),none]=.nx [w0,some (.o .s,.lst ((rx m es p).map nI)),w2,some (m3,nI m),w4,some (.s,nI p),none]:=by
 have e1:=cA hm
 have e2:=cA hp
 have e3:=ia hm
 have e4:(if ((es.getD p 0:Nat):Int)+1 > ((es.getD m 0:Nat):Int) then ((es.getD p 0:Nat):Int)+1 else ((es.getD m 0:Nat):Int))=((max (es.getD m 0) (es.getD p 0+1):Nat):Int):=by split<;>omega
 have e5:=ie es m (max (es.getD m 0) (es.getD p 0+1))
 unfold rx
 simp_all only [e1,e2,e3,e4,e5]
theorem lC (k n r m:Nat)(P:Nat->List Nat){rk:Nat->Nat}(o:eR P n rk)(hm:m < n)(w0 w2 w4:Option W)(m3:Md):∀ (ps u es:List Nat) (o5:Option W),u++ps=P m->Rm P n r m u es ->
  ∃ es' o5',Rm P n r m (P m) es'/\bR [5] (evSs (C k) XA) (ps.map fun i=>[((.s,nI i):W)]) [w0,some (.o .s,.lst (es.map nI)),w2,some (m3,nI m),w4,o5,none]=.nx [w0,some (.o .s,.lst (es'.map nI)),w2,some (m3,nI m),w4,o5',none]
 | [],u,es,o5,hu,h=>⟨es,o5,by rw [<- hu,a0F]; exact h,rfl⟩
 | p::ps,u,es,o5,hu,h=>by
  have hp:p∈P m:=by rw [<- hu]; exact a0o _ a0e
  have e:=B7 k es m p (by rw [h.len]; exact hm) (by rw [h.len]; exact o.lt m hm p hp) w0 w2 w4 m3
  obtain ⟨es',o5',h',lp⟩:=lC k n r m P o hm w0 w2 w4 m3 ps (u++[p]) (rx m es p) (some (.s,nI p)) (by rw [a0T]; exact hu) (h.step o hm hp fun q hq=>by rw [<- hu]; exact a0I _ hq)
  refine ⟨es',o5',h',?_⟩
  show Fl.turn (evSs (C k) XA [w0,some (.o .s,.lst (es.map nI)),w2,some (m3,nI m),w4,some (.s,nI p),none]) (bR [5] (evSs (C k) XA) (ps.map fun i=>[((.s,nI i):W)]))=_
  rw [e]
  exact lp
noncomputable abbrev XB:List S:=[.forS [4] [] .seq [.op .ix false [.var 4,.cst (.int 3)]] [5] XA]
theorem ux (k r:Nat)(L:List T)(hL:Sts L)(w0 w2 o3 o4 o5:Option W)(es:List Nat)(h:Rd (PL L) L.length r es) :
  ∃ es' o3' o4' o5',Rd (PL L) L.length (r+1) es'/\bR [3,4] (evSs (C k) XB) ((a0k L.length).map fun i=>[((.d,nI i):W),(.s,L.getD i .non)]) [w0,some (.o .s,.lst (es.map nI)),w2,o3,o4,o5,none]=.nx [w0,some (.o .s,.lst (es'.map nI)),w2,o3',o4',o5',none]:=by
 obtain ⟨rk,o⟩:=eA hL
 obtain ⟨η',lp,es',o3',o4',o5',h',e⟩:=bf (tg:=[3,4]) (f:=evSs (C k) XB) (g:=fun (i:Nat)=>[((.d,nI i):W),(.s,L.getD i .non)])
  (fun pre η=>∃ (es:List Nat) (o3 o4 o5:Option W),Rm (PL L) L.length r pre.length [] es/\η=[w0,some (.o .s,.lst (es.map nI)),w2,o3,o4,o5,none])
  (a0k L.length) [] [w0,some (.o .s,.lst (es.map nI)),w2,o3,o4,o5,none] ⟨es,o3,o4,o5,⟨h,fun k hk=>absurd hk (a1f _),fun _ z=>(nomatch z)⟩,rfl⟩
  (fun p i rr η hp ⟨es,o3,o4,o5,h,he⟩=>by
   subst he
   rw [a0K] at hp
   obtain ⟨hi,hil⟩:=et hp
   obtain ⟨a,b,w,e1,e2,e3⟩:=jY hL hil
   rw [<- hi] at h
   obtain ⟨es',o5',h',lp⟩:=lC k L.length r i (PL L) o hil w0 w2 (some (.s,L.getD i .non)) .d (PL L i) [] es o5 rfl h
   have t1:=bV (PL L i)
   rw [e1] at lp
   refine ⟨[w0,some (.o .s,.lst (es.map nI)),w2,some (.d,nI i),some (.s,L.getD i .non),o5,none],[w0,some (.o .s,.lst (es'.map nI)),w2,some (.d,nI i),some (.s,L.getD i .non),o5',none],rfl,?_,es',_,_,_,by rw [a0l,a0u,<- hi]; exact h'.next o hil,rfl⟩
   rw [e1]
   simp_all only [kh,t1,lp])
 refine ⟨es',o3',o4',o5',?_,by rw [lp,e]⟩
 rw [a0K,a0C] at h'
 exact Rd.more h'
noncomputable abbrev XC:List S:=[.forS [0] [] .enm [.var 0] [3,4] XB]
theorem wR (k:Nat)(L:List T)(hL:Sts L) :
  ∃ es o2 o3 o4 o5,Rd (PL L) L.length L.length es/\bR [2] (evSs (C k) XC) ((a0k L.length).map fun (i:Nat)=>[((.d,.int (i:Int)):W)]) [some (.s,.lst L),some (.o .s,.lst ((a0i L.length 1).map nI)),none,none,none,none,none]=.nx [some (.s,.lst L),some (.o .s,.lst (es.map nI)),o2,o3,o4,o5,none]:=by
 obtain ⟨η',lp,es,o2,o3,o4,o5,h,e⟩:=bf (tg:=[2]) (f:=evSs (C k) XC) (g:=fun (i:Nat)=>[((.d,.int (i:Int)):W)])
  (fun pre η=>∃ (es:List Nat) (o2 o3 o4 o5:Option W),Rd (PL L) L.length pre.length es/\η=[some (.s,.lst L),some (.o .s,.lst (es.map nI)),o2,o3,o4,o5,none])
  (a0k L.length) [] [some (.s,.lst L),some (.o .s,.lst ((a0i L.length 1).map nI)),none,none,none,none,none] ⟨_,none,none,none,none,Rd.start,rfl⟩
  (fun p i rr η hp ⟨es,o2,o3,o4,o5,h,he⟩=>by
   subst he
   obtain ⟨es',o3',o4',o5',h',lp⟩:=ux k p.length L hL (some (.s,.lst L)) (some (.d,.int (i:Int))) o3 o4 o5 es h
   have e1:=d9 L
   exact ⟨[some (.s,.lst L),some (.o .s,.lst (es.map nI)),some (.d,.int (i:Int)),o3,o4,o5,none],[some (.s,.lst L),some (.o .s,.lst (es'.map nI)),some (.d,.int (i:Int)),o3',o4',o5',none],rfl,by simp_all only [e1,lp],es',_,_,_,_,by rw [a0l,a0u]; exact h',rfl⟩)
 refine ⟨es,o2,o3,o4,o5,by simpa using h,by rw [lp,e]⟩
theorem lA (k:Nat)(L:List T)(hL:Sts L)(m:Md):C (k+1) 286 [(m,.lst L)]=.ok ((.d,nI (mxN ((a0k L.length).map (lg (PL L))))),[]):=by
 obtain ⟨rk,o⟩:=eA hL
 obtain ⟨os,ht,_⟩:=jX 0 L hL .s
 have hn:=hL.len
 obtain ⟨es,o2,o3,o4,o5,h,lp⟩:=wR k L hL
 have hes:es=(a0k L.length).map (lg (PL L)):=a3h (by rw [a0b,a0C]; exact h.len) fun i h1 h2=>by
  have hi:i < L.length:=by rw [<- h.len]; exact h1
  have:=h.eq i hi (by have:=xj o ht hi; omega)
  rw [a0c,a0h h1] at this
  rw [a3i,a2S]
  exact this
 have c1:aA [6] (bJ (evE (C k) (.cst (.int 1)))) (L.map fun t=>[((.s,t):W)]) [some (.s,.lst L),none,none,none,none,none,none] []=.ok ([]++L.map (fun _=>((.d,nI 1):W)),[some (.s,.lst L),none,none,none,none,none,none]):=aR (fun _=>((.d,nI 1):W)) L [] fun u hu=>⟨_,[some (.s,.lst L),none,none,none,none,none,some (.s,u)],rfl,by simp_all only []; rfl,rfl⟩
 have t1:aS (L.map fun _=>((.d,nI 1):W))=(a0i L.length 1).map nI:=by
  rw [aL (fun _=>Md.d) (fun _=>nI 1) L,a1D,a3q]
 have z1:(decide ((((L.length:Nat):Int)).natAbs < 4611686018427387904)&&fits L.length)=true:=by
  rw [decide_eq_true (show (((L.length:Nat):Int)).natAbs < 4611686018427387904 by omega),show fits L.length=true from decide_eq_true (by show _<=16777215; omega)]; rfl
 have z2:(((L.length:Nat):Int)).toNat=L.length:=a09 _
 rw [<- hes]
 have t2:intsOf (T.int 0::es.map nI)=some ((0::es).map fun (i:Nat)=>(i:Int)):=dN (0::es)
 have t3:=fL (0::es)
 have t4:mxN (0::es)=mxN es:=by show max 0 (mxN es)=_; omega
 rw [t4] at t3
 have t5:((0::es).map fun (i:Nat)=>(i:Int)).isEmpty=false:=rfl
 generalize ((0::es).map fun (i:Nat)=>(i:Int))=ns at t2 t3 t5
 rw [fC,x_run _ _ _ rfl]
 have f1:fits ([T.int 0].length+(es.map nI).length)=true:=decide_eq_true (by show _<=16777215; rw [a0b,h.len]; simp; omega)
 simp_all only [bb,c1,t1,z1,z2,lp,t2,t3,t5,f1]
noncomputable def Lm (L:List T):Nat:=mxN ((a0k L.length).map (lg (PL L)))
theorem cY (k:Nat)(L:List T)(hL:Sts L)(h:Int)(h1:1<=h)(h2:h<=20)(m m':Md):∃ rv:List Nat,rv.length=Lm L/\Cn (PL L) rv/\(∀ x∈rv,x < L.length)/\((((Lm L:Nat):Int) > least L h/\C (k+4) 294 [(m,.lst L),(m',.int h)]=.ok ((.o .s,.tup [.str (q "chain"),.lst (rv.map nI)]),[]))\/(¬ ((Lm L:Nat):Int) > least L h/\C (k+4) 294 [(m,.lst L),(m',.int h)]=.ok ((.d,.tup [.str (q "width"),.int (least L h)]),[]))):=by
 obtain ⟨rv,a1,a2,a3,e2⟩:=vg k L hL .s
 have e1:=fun m m'=>jw (k+2) L hL h h1 h2 m m'
 have ln:(((rv.map nI).length:Nat):Int)=((Lm L:Nat):Int):=by rw [a0b,a1]; rfl
 refine ⟨rv,a1,a2,a3,?_⟩
 rw [oj,x_run _ _ _ rfl]
 by_cases hc:((Lm L:Nat):Int) > least L h
 ·have d:decide (((Lm L:Nat):Int) > least L h)=true:=decide_eq_true hc
  exact .inl ⟨hc,by simp_all only [c8,e1,e2,ln,d]⟩
 ·have d:decide (((Lm L:Nat):Int) > least L h)=false:=decide_eq_false hc
  exact .inr ⟨hc,by simp_all only [c8,e1,e2,ln,d]⟩
theorem xF {P:Nat->List Nat}:∀ {rv:List Nat} {i:Nat} {a b:Nat},Cn P rv->rv[i]?=some a->rv[i+1]?=some b->a∈P b
 | [],_,_,_,_,h,_=>by simp at h
 | [_],_,_,_,_,_,h=>by simp at h
 | x::y::r,0,a,b,h,h1,h2=>by cases h1; cases h2; exact h.1
 | x::y::r,i+1,a,b,h,h1,h2=>xF (rv:=y::r) h.2 (by simpa using h1) (by simpa using h2)
theorem lF {a:Nat}{l:List Nat}(h:a∈l):((l.map nI).any fun t=>eqT t (nI a))=true:=List.any_eq_true.mpr ⟨nI a,a1z h,by show ((a:Int)==(a:Int))=true; simp⟩
theorem Eh {L:List T}(hL:Sts L){rv:List Nat}(hc:Cn (PL L) rv)(hl:∀ x∈rv,x < L.length):eQ L (.lst (rv.map nI))=true:=by
 show (((rv.map nI).map (okN L.length)).all id&&con L (rv.map nI))=true
 rw [a0j]
 constructor
 ·exact all_map.mpr fun t ht=>by
   obtain ⟨x,hx,rfl⟩:=a0z.mp ht
   have:=hl x hx
   show (decide ((0:Int)<=(x:Int))&&decide ((x:Int) < (L.length:Int)))=true
   rw [decide_eq_true (by omega),decide_eq_true (by omega)]; rfl
 ·induction rv with
  | nil=>rfl
  | cons a r ih =>
   cases r with
   | nil=>rfl
   | cons b r =>
    have ih':=ih hc.2 fun x hx=>hl x (a0d _ hx)
    obtain ⟨u,v,w,e1,_,_⟩:=jY hL (hl b (by simp))
    show (inA L (nI a) (nI b)&&con L ((b::r).map nI))=true
    rw [ih',a2Q]
    show ((ahT (L.getD (b:Int).toNat .non)).any fun t=>eqT t (nI a))=true
    rw [a09,e1]
    exact lF hc.1
noncomputable abbrev IR:List S:=[
   .ite (.q [0,3] []) (.not (.chain .le .lt (.cst (.int 0)) (.var 3) (.op .len false [.var 0]))) [
    .ret [] (.cst (.bl false))] [],
   .ite (.q [0,1,3] [2]) (.and (.op .gt false [.var 2,.cst (.int 0)]) (.op .notin false [.op .ix false [.var 1,.op .sub false [.var 2,.cst (.int 1)]],.op .ix false [.op .ix false [.var 0,.var 3],.cst (.int 3)]])) [
    .ret [] (.cst (.bl false))] []]
theorem uv (l:List Nat):(l.map nI).all M.flatT=true:=a0x.mpr fun t ht=>by
 obtain ⟨i,_,rfl⟩:=a0z.mp ht
 rfl
theorem DJ (k:Nat)(L:List T)(hL:Sts L)(rv:List Nat)(hc:Cn (PL L) rv)(hl:∀ x∈rv,x < L.length)(i:Nat)(hi:i < rv.length)(m0:Md) :
  evSs (C k) IR [some (m0,.lst L),some (.s,.lst (rv.map nI)),some (.d,nI i),some (.s,nI (rv.getD i 0)),none]=.nx [some (m0,.lst L),some (.s,.lst (rv.map nI)),some (.d,nI i),some (.s,nI (rv.getD i 0)),none]:=by
 have hxi:rv[i]?=some (rv.getD i 0):=by rw [a0c,a0h hi]; rfl
 generalize hxe:rv.getD i 0=x at hxi ⊢
 have hx:=hl x (a0J hxi)
 have d1:decide ((0:Int)<=(x:Int))=true:=decide_eq_true (by omega)
 have d2:decide ((x:Int) < ((L.length:Nat):Int))=true:=decide_eq_true (by omega)
 obtain ⟨u,v,w,e1,_,_⟩:=jY hL hx
 have g1:=iw hx
 rw [e1] at g1
 cases i with
 | zero =>
  have d3:decide ((((0:Nat):Nat):Int) > 0)=false:=rfl
  simp_all only [d1,d2,d3]
 | succ j =>
  have d3:decide ((((j+1:Nat):Nat):Int) > 0)=true:=decide_eq_true (by omega)
  have hj:j < rv.length:=by omega
  have e2:=cA hj
  have e3:(((j+1:Nat):Nat):Int)-1=((j:Nat):Int):=by omega
  have hm:rv.getD j 0∈PL L x:=xF hc (i:=j) (by rw [a0c,a0h hj]; rfl) hxi
  have a1:=lF hm
  have fl:(M.flatT (nI (rv.getD j 0))&&((PL L x).map nI).all M.flatT)=true:=by rw [uv]; rfl
  simp_all only [d1,d2,d3,e3,e2,g1,kh,fl,a1]
theorem rG (k:Nat)(L:List T)(hL:Sts L)(rv:List Nat)(hc:Cn (PL L) rv)(hl:∀ x∈rv,x < L.length)(m m':Md):C (k+2) 287 [(m,.lst L),(m',.lst (rv.map nI))]=.ok ((.d,.bl true),[]):=by
 have wh:=fun i m=>iA k i m
 have c1:∀ w0:Option W,aA [4] (bJ (evE (C (k+1)) (.call 272 [.var 4]))) (rv.map fun i=>[((.s,nI i):W)]) [w0,some (.s,.lst (rv.map nI)),none,none,none] []=.ok ([]++rv.map (fun _=>((.d,.bl true):W)),[w0,some (.s,.lst (rv.map nI)),none,none,none]):=fun w0=>aR (fun _=>((.d,.bl true):W)) rv [] fun u hu=>⟨_,[w0,some (.s,.lst (rv.map nI)),none,none,some (.s,nI u)],rfl,by simp_all only [wh],rfl⟩
 have t1:=bV rv
 have t2:=bT (fun _:Nat=>true) rv
 have t3:(rv.map fun _:Nat=>true).all id=true:=a0x.mpr fun b hb=>by obtain ⟨_,_,rfl⟩:=a0z.mp hb; rfl
 have e1:=d9 (rv.map nI)
 have gA:∀ i,i < rv.length->(rv.map nI).getD i .non=nI (rv.getD i 0):=fun i hi=>by
  rw [a0c,a0s,a0h hi,a0c,a0h hi]; rfl
 obtain ⟨η',lp,o2,o3,e⟩:=bf (tg:=[2,3]) (f:=evSs (C (k+1)) IR) (g:=fun (i:Nat)=>[((.d,nI i):W),(.s,(rv.map nI).getD i .non)])
  (fun pre η=>∃ (o2 o3:Option W),η=[some (m,.lst L),some (.s,.lst (rv.map nI)),o2,o3,none])
  (a0k (rv.map nI).length) [] [some (m,.lst L),some (.s,.lst (rv.map nI)),none,none,none] ⟨none,none,rfl⟩
  (fun p i r η hp ⟨o2,o3,he⟩=>by
   subst he
   rw [a0K] at hp
   obtain ⟨_,hi⟩:=et hp
   rw [a0b] at hi
   have e:=DJ (k+1) L hL rv hc hl i hi m
   exact ⟨_,_,by rw [gA i hi]; rfl,e,_,_,rfl⟩)
 rw [e] at lp
 rw [gi,x_run _ _ _ rfl]
 simp_all only [bp,sP,t1,c1,t2,fh,t3,e1,lp]
theorem rp1 {L:List T}(hL:Sts L):(decide (dp (.lst L)<=64)&&rOk (.lst L)&&fits (szR (.lst L)))=true:=by
 have d1:=FW hL
 have r1:rOk (.lst L)=true:=rOks_all.mpr fun t ht=>xX hL.len (hL.st t ht)
 have s1:=Cp fun t ht=>Ey (hL.st t ht)
 have hl:=hL.len
 have c:szR (.lst L)<=16777215:=by show szRs L+4<=16777215; omega
 rw [decide_eq_true (show dp (.lst L)<=64 by omega),r1]
 exact decide_eq_true c
theorem rX {n:Nat}(hn:n<=12){rv:List Nat}(hl:∀ x∈rv,x < n):rOk (.lst (rv.map nI))=true:=rOks_all.mpr fun t ht=>by
 obtain ⟨x,hx,rfl⟩:=a0z.mp ht
 have:=hl x hx
 exact decide_eq_true (by omega)
theorem vR (rv:List Nat):dp (.lst (rv.map nI))<=1:=by
 have:dps (rv.map nI)<=0:=iW fun u hu=>by obtain ⟨_,_,rfl⟩:=a0z.mp hu; exact a0m _
 show dps (rv.map nI)+1<=1
 omega
theorem cw_ne:(q "chain"==q "width")=false:=by rw [qeq]; rfl
theorem yt:(q "width"==q "chain")=false:=by rw [qeq]; rfl
theorem C6:rOk (.str (q "chain"))=true:=by decide +kernel
noncomputable abbrev YA:List S:=[
   .asg (.q [3] []) 5 (.op .repr false [.var 3]),
   .asg (.q [3,4] []) 6 (.call 294 [.var 3,.var 4]),
   .asg (.q [3,4] []) 7 (.op .fdiv false [.op .sub false [.op .add false [.op .sum false [.comp false .seq [.var 3] [10] none (.op .ix false [.var 10,.cst (.int 2)])],.var 4],.cst (.int 1)],.var 4]),
   .asg (.q [3] []) 8 (.call 286 [.var 3])]
theorem CL (L:List T)(hL:Sts L)(h:Int)(h1:1<=h)(h2:h<=20)(w0 w1 w2 o5 o6 o7 o8 o9:Option W)(m4:Md) :
  ∃ (rv:List Nat) (m4' m6:Md) (tl:T),rv.length=Lm L/\Cn (PL L) rv/\(∀ x∈rv,x < L.length)/\((((Lm L:Nat):Int) > least L h/\tl=.tup [.str (q "chain"),.lst (rv.map nI)])\/(¬ ((Lm L:Nat):Int) > least L h/\tl=.tup [.str (q "width"),.int (least L h)])) /\
   evSs (C 39) YA [w0,w1,w2,some (.s,.lst L),some (m4,.int h),o5,o6,o7,o8,o9,none]=.nx [w0,w1,w2,some (.s,.lst L),some (m4',.int h),some (.d,.str (datT (.lst L)).shown),some (m6,tl),some (.d,.int (least L h)),some (.d,nI (Lm L)),o9,none]:=by
 have rp:=rp1 hL
 have c1:∀ w4,aA [10] (bJ (evE (C 39) (.op .ix false [.var 10,.cst (.int 2)]))) (L.map fun t=>[((.s,t):W)]) [none,none,none,some (.s,.lst L),w4,none,none,none,none,none,none] []=.ok ([]++L.map (fun u=>((.s,.int (wOf u)):W)),[none,none,none,some (.s,.lst L),w4,none,none,none,none,none,none]):=fun w4=>xp (C 39) 10 L hL.st _ (fun _=>rfl) fun _=>rfl
 have t1:=lM L
 have t2:=lu hL.st
 have p1:decide (0 < h)=true:=decide_eq_true (by omega)
 have p2:decide (h < 1073741824)=true:=decide_eq_true (by omega)
 have es:(L.map wOf).sum=dB L:=rfl
 have e2:=fun m=>lA 38 L hL m
 have el:mxN ((a0k L.length).map (lg (PL L)))=Lm L:=rfl
 have le:(dB L+h-1) / h=least L h:=rfl
 obtain ⟨rv,a1,a2,a3,hc⟩:=cY 35 L hL h h1 h2 .s .s
 rcases hc with ⟨hc,e1⟩ | ⟨hc,e1⟩
 ·exact ⟨rv,_,_,_,a1,a2,a3,.inl ⟨hc,rfl⟩,by simp_all only [rp,e1,c1,t1,t2,p1,p2,es,le,e2,el]; rfl⟩
 ·exact ⟨rv,_,_,_,a1,a2,a3,.inr ⟨hc,rfl⟩,by simp_all only [rp,e1,c1,t1,t2,p1,p2,es,le,e2,el]; rfl⟩
noncomputable abbrev YB:List S:=[
   .ite (.q [3,5,6] []) (.or (.not (.op (.isI ["tuple"]) false [.var 6])) (.or (.op .ne false [.op .len false [.var 6],.cst (.int 2)]) (.op .ne false [.op .repr false [.var 3],.var 5]))) [
    .ret [] (.cst (.bl false))] [],
   .ite (.q [6,8] [7]) (.op .ne false [.op .ix false [.var 6,.cst (.int 0)],.op .ix false [.lst false [.cst (.str (q "width")),.cst (.str (q "chain"))],.op .int false [.op .gt false [.var 8,.var 7]]]]) [
    .ret [] (.cst (.bl false))] [],
   .ite (.q [6] [7]) (.and (.op .eq false [.op .ix false [.var 6,.cst (.int 0)],.cst (.str (q "width"))]) (.or (.not (.call 272 [.op .ix false [.var 6,.cst (.int 1)]])) (.op .ne false [.op .ix false [.var 6,.cst (.int 1)],.var 7]))) [
    .ret [] (.cst (.bl false))] [],
   .ite (.q [3,6,8] []) (.and (.op .eq false [.op .ix false [.var 6,.cst (.int 0)],.cst (.str (q "chain"))]) (.or (.not (.call 287 [.var 3,.op .ix false [.var 6,.cst (.int 1)]])) (.op .ne false [.op .len false [.op .ix false [.var 6,.cst (.int 1)]],.var 8]))) [
    .ret [] (.cst (.bl false))] [],
   .asg (.q [3,4,6] []) 9 (.call 266 [.var 3,.var 4,.var 6]),
   .ite (.q [8,9] [7]) (.or (.not (.call 272 [.var 9])) (.op .ne false [.var 9,.op .max false [.var 8,.var 7]])) [
    .ret [] (.cst (.bl false))] []]
theorem Ea {α:Type}(a b:α):atI [a,b] 0=some a:=rfl
theorem Dz {α:Type}(a b:α):atI [a,b] 1=some b:=rfl
theorem b2t:b2i true=1:=rfl
theorem b2f:b2i false=0:=rfl
theorem pQ {α:Type}(a b:α):(!(([a,b].length:Int)==2))=false:=rfl
theorem rm (L:List T)(hL:Sts L)(h:Int)(h1:1<=h)(h2:h<=20)(rv:List Nat)(a1:rv.length=Lm L)(a2:Cn (PL L) rv)(a3:∀ x∈rv,x < L.length)(hc:((Lm L:Nat):Int) > least L h)(w0 w1 w2 o9:Option W)(m4 m6:Md) :
  ∃ o3 o4 o5 o6 o7 o8 o9',evSs (C 39) YB [w0,w1,w2,some (.s,.lst L),some (m4,.int h),some (.d,.str (datT (.lst L)).shown),some (m6,.tup [.str (q "chain"),.lst (rv.map nI)]),some (.d,.int (least L h)),some (.d,nI (Lm L)),o9,none]=.nx [w0,w1,w2,o3,o4,o5,o6,o7,o8,o9',none]:=by
 have rp:=rp1 hL
 have d:decide (((Lm L:Nat):Int) > least L h)=true:=decide_eq_true hc
 have e1:=fun m m'=>rG 37 L hL rv a2 a3 m m'
 have ln:(((rv.map nI).length:Nat):Int)=((Lm L:Nat):Int):=by rw [a0b,a1]
 have rt:rOk (.tup [.str (q "chain"),.lst (rv.map nI)])=true:=by
  show (rOk (.str (q "chain"))&&(rOk (.lst (rv.map nI))&&true))=true
  rw [C6,rX hL.len a3]; rfl
 have dt:dp (.tup [.str (q "chain"),.lst (rv.map nI)])<=60:=by
  have:=vR rv
  show max 0 (max (dp (.lst (rv.map nI))) 0)+1<=60
  omega
 obtain ⟨md,e2⟩:=j8 35 L hL h h1 h2 _ rt dt .s .s .s
 have sp:iK L h (.tup [.str (q "chain"),.lst (rv.map nI)])=.int ((Lm L:Nat):Int):=by
  show (if (eqS (q "width") (.str (q "chain"))&&eqI (least L h) (.lst (rv.map nI)))=true then T.int (least L h) else if (eqS (q "chain") (.str (q "chain"))&&eQ L (.lst (rv.map nI)))=true then lnT (.lst (rv.map nI)) else .non)=_
  rw [if_neg (by show ¬ ((q "chain"==q "width")&&_)=true; rw [cw_ne]; simp),if_pos (by show ((q "chain"==q "chain")&&eQ L (.lst (rv.map nI)))=true; rw [Eh hL a2 a3,beq_self_eq_true]; rfl)]
  show T.int (((rv.map nI).length:Nat):Int)=_
  rw [ln]
 rw [sp] at e2
 have e3:=iA 38
 have mx:(if least L h > ((Lm L:Nat):Int) then least L h else ((Lm L:Nat):Int))=((Lm L:Nat):Int):=if_neg (by omega)
 have cc:(q "chain"==q "chain")=true:=beq_self_eq_true _
 exact ⟨_,_,_,_,_,_,_,by simp_all only [rp,hV,pQ,bss,d,b2t,Ea,Dz,cw_ne,cc,e1,ln,bii,e2,e3,mx]; rfl⟩
theorem qI (L:List T)(hL:Sts L)(h:Int)(h1:1<=h)(h2:h<=20)(hc:¬ ((Lm L:Nat):Int) > least L h)(w0 w1 w2 o9:Option W)(m4 m6:Md) :
  ∃ o3 o4 o5 o6 o7 o8 o9',evSs (C 39) YB [w0,w1,w2,some (.s,.lst L),some (m4,.int h),some (.d,.str (datT (.lst L)).shown),some (m6,.tup [.str (q "width"),.int (least L h)]),some (.d,.int (least L h)),some (.d,nI (Lm L)),o9,none]=.nx [w0,w1,w2,o3,o4,o5,o6,o7,o8,o9',none]:=by
 have rp:=rp1 hL
 have d:decide (((Lm L:Nat):Int) > least L h)=false:=decide_eq_false hc
 obtain ⟨l0,l1⟩:=mj hL h1
 have rt:rOk (.tup [.str (q "width"),.int (least L h)])=true:=by
  show (rOk (.str (q "width"))&&(decide ((least L h).natAbs < 10000000000000000000)&&true))=true
  rw [CC,decide_eq_true (by omega)]; rfl
 have dt:dp (.tup [.str (q "width"),.int (least L h)])<=60:=by show max 0 (max 0 0)+1<=60; decide
 obtain ⟨md,e2⟩:=j8 35 L hL h h1 h2 _ rt dt .s .s .s
 have sp:iK L h (.tup [.str (q "width"),.int (least L h)])=.int (least L h):=by
  show (if (eqS (q "width") (.str (q "width"))&&eqI (least L h) (.int (least L h)))=true then T.int (least L h) else _)=_
  exact if_pos (by show ((q "width"==q "width")&&(least L h==least L h))=true; rw [beq_self_eq_true,beq_self_eq_true]; rfl)
 rw [sp] at e2
 have e3:=iA 38
 have mx:(if least L h > ((Lm L:Nat):Int) then least L h else ((Lm L:Nat):Int))=least L h:=by split<;>omega
 have ww:(q "width"==q "width")=true:=beq_self_eq_true _
 exact ⟨_,_,_,_,_,_,_,by simp_all only [rp,hV,pQ,bss,d,b2f,Ea,Dz,yt,ww,bii,e2,e3,mx]; rfl⟩
noncomputable abbrev OB:List S:=[
   .asg (.l []) 3 (.call 278 [.io 1]),
   .asg (.l [3]) 4 (.call 279 [.io 1])]++(YA++YB)
theorem sr (N:Nat)(t:T)(ht:Tp N t)(hN:N+5000 < 1000000000000000000)(w0 w2 o3 o4 o5 o6 o7 o8 o9:Option W) :
  ∃ t' o3' o4' o5' o6' o7' o8' o9',Tp (N+500) t'/\evSs (C 39) OB [w0,some (.d,t),w2,o3,o4,o5,o6,o7,o8,o9,none]=.nx [w0,some (.d,t'),w2,o3',o4',o5',o6',o7',o8',o9',none]:=by
 obtain ⟨md,L,t1,ht1,l1,l2,l3,e1⟩:=qT (L:=37) ht (by omega)
 have hL:Sts L:=⟨l1,l2,l3⟩
 obtain ⟨md2,h,t2,ht2,h1,h2,e2⟩:=oJ (L:=37) ht1 (by omega)
 have hA:∃ m4,evSs (C 39) [
   .asg (.l []) 3 (.call 278 [.io 1]),
   .asg (.l [3]) 4 (.call 279 [.io 1])] [w0,some (.d,t),w2,o3,o4,o5,o6,o7,o8,o9,none]=.nx [w0,some (.d,t2),w2,some (.s,.lst L),some (m4,.int h),o5,o6,o7,o8,o9,none]:=⟨_,by simp_all only [e1,e2]; rfl⟩
 obtain ⟨m4,hA⟩:=hA
 obtain ⟨rv,m4',m6,tl,a1,a2,a3,hc,hB⟩:=CL L hL h h1 h2 w0 (some (.d,t2)) w2 o5 o6 o7 o8 o9 m4
 rcases hc with ⟨hc,rfl⟩ | ⟨hc,rfl⟩
 ·obtain ⟨a,b,c,d,e,f,g,hC⟩:=rm L hL h h1 h2 rv a1 a2 a3 hc w0 (some (.d,t2)) w2 o9 m4' m6
  exact ⟨t2,a,b,c,d,e,f,g,tm ht2 (by omega),by rw [go1 hA,go1 hB,hC]⟩
 ·obtain ⟨a,b,c,d,e,f,g,hC⟩:=qI L hL h h1 h2 hc w0 (some (.d,t2)) w2 o9 m4' m6
  exact ⟨t2,a,b,c,d,e,f,g,tm ht2 (by omega),by rw [go1 hA,go1 hB,hC]⟩
noncomputable abbrev OC:List S:=[
   .asg (.l []) 3 (.call 278 [.io 1]),
   .asg (.l [3]) 4 (.call 279 [.io 1]),
   .asg (.q [3] []) 5 (.op .repr false [.var 3]),
   .asg (.q [3,4] []) 6 (.call 294 [.var 3,.var 4]),
   .asg (.q [3,4] []) 7 (.op .fdiv false [.op .sub false [.op .add false [.op .sum false [.comp false .seq [.var 3] [10] none (.op .ix false [.var 10,.cst (.int 2)])],.var 4],.cst (.int 1)],.var 4]),
   .asg (.q [3] []) 8 (.call 286 [.var 3]),
   .ite (.q [3,5,6] []) (.or (.not (.op (.isI ["tuple"]) false [.var 6])) (.or (.op .ne false [.op .len false [.var 6],.cst (.int 2)]) (.op .ne false [.op .repr false [.var 3],.var 5]))) [
    .ret [] (.cst (.bl false))] [],
   .ite (.q [6,8] [7]) (.op .ne false [.op .ix false [.var 6,.cst (.int 0)],.op .ix false [.lst false [.cst (.str (q "width")),.cst (.str (q "chain"))],.op .int false [.op .gt false [.var 8,.var 7]]]]) [
    .ret [] (.cst (.bl false))] [],
   .ite (.q [6] [7]) (.and (.op .eq false [.op .ix false [.var 6,.cst (.int 0)],.cst (.str (q "width"))]) (.or (.not (.call 272 [.op .ix false [.var 6,.cst (.int 1)]])) (.op .ne false [.op .ix false [.var 6,.cst (.int 1)],.var 7]))) [
    .ret [] (.cst (.bl false))] [],
   .ite (.q [3,6,8] []) (.and (.op .eq false [.op .ix false [.var 6,.cst (.int 0)],.cst (.str (q "chain"))]) (.or (.not (.call 287 [.var 3,.op .ix false [.var 6,.cst (.int 1)]])) (.op .ne false [.op .len false [.op .ix false [.var 6,.cst (.int 1)]],.var 8]))) [
    .ret [] (.cst (.bl false))] [],
   .asg (.q [3,4,6] []) 9 (.call 266 [.var 3,.var 4,.var 6]),
   .ite (.q [8,9] [7]) (.or (.not (.call 272 [.var 9])) (.op .ne false [.var 9,.op .max false [.var 8,.var 7]])) [
    .ret [] (.cst (.bl false))] []]
theorem oN (t:T)(ht:Tp 0 t)(w0:Option W) :
  ∃ w1 w2 o3 o4 o5 o6 o7 o8 o9,bR [2] (evSs (C 39) OC) ((a0k 4).map fun (i:Nat)=>[((.d,.int (i:Int)):W)]) [w0,some (.d,t),none,none,none,none,none,none,none,none,none]=.nx [w0,w1,w2,o3,o4,o5,o6,o7,o8,o9,none]:=by
 obtain ⟨η',lp,t',w2,o3,o4,o5,o6,o7,o8,o9,_,rfl⟩:=bf (tg:=[2]) (f:=evSs (C 39) OC) (g:=fun (i:Nat)=>[((.d,.int (i:Int)):W)])
  (fun pre η=>∃ (t':T) (w2 o3 o4 o5 o6 o7 o8 o9:Option W),Tp (500 * pre.length) t'/\η=[w0,some (.d,t'),w2,o3,o4,o5,o6,o7,o8,o9,none])
  (a0k 4) [] [w0,some (.d,t),none,none,none,none,none,none,none,none,none] ⟨t,none,none,none,none,none,none,none,none,ht,rfl⟩
  (fun p i r η hp ⟨t',w2,o3,o4,o5,o6,o7,o8,o9,ht',he⟩=>by
   subst he
   have hpl:=congrArg a1T hp
   simp only [a0K,a0C,a0l,a0g] at hpl
   obtain ⟨t2,a,b,c,d,e,f,g,ht2,hh⟩:=sr _ t' ht' (by omega) w0 (some (.d,.int (i:Int))) o3 o4 o5 o6 o7 o8 o9
   exact ⟨_,_,rfl,hh,t2,_,a,b,c,d,e,f,g,tm ht2 (by rw [a0l,a0u]; omega),rfl⟩)
 exact ⟨_,_,_,_,_,_,_,_,_,lp⟩
theorem vO:Sts []:=⟨a0M _,fun _ z=>(nomatch z),fun _=>0,fun k hk=>absurd hk (a1f _)⟩
theorem pure_law (ns:List Int):∃ m bs,C 40 0 [(.d,.scr ns)]=.ok ((m,.bl true),bs):=by
 have ht0:Tp 0 (kx (cut ns none (some 63)) 0 0):=⟨_,0,0,rfl,a0m _⟩
 have e1:=vH ns
 obtain ⟨w1,w2,o3,o4,o5,o6,o7,o8,o9,lp⟩:=oN _ ht0 (some (.d,.scr ns))
 generalize kx (cut ns none (some 63)) 0 0=t0 at e1 lp
 have n1:(decide ((4:Int).natAbs < 4611686018427387904)&&fits 4)=true:=rfl
 have n2:(4:Int).toNat=4:=rfl
 have e2:∀ m m',C 39 294 [(m,.lst []),(m',.int 2)]=.ok ((.d,.tup [.str (q "width"),.int 0]),[]):=fun m m'=>by
  obtain ⟨rv,_,_,_,hc⟩:=cY 35 [] vO 2 (by decide) (by decide) m m'
  have lz:least [] 2=0:=rfl
  have ez:Lm []=0:=rfl
  rcases hc with ⟨hc,_⟩ | ⟨_,e⟩
  ·rw [lz,ez] at hc; exact absurd hc (by decide)
  ·rw [lz] at e; exact e
 rw [show C 40 0 [(.d,.scr ns)]=runF (C 39) lY [(.d,.scr ns)] from rfl,x_run _ _ _ rfl]
 exact ⟨_,_,by simp_all only [lY,e1,n1,n2,lp,e2]; rfl⟩
end
end P76

namespace A76
open PySem PySem.Spec PyProof.Rows L2 L3 MR
noncomputable def top (i:Nat):Stmt:=PySem.Challenge.pw_broadrow_k76_what_shows_the_least.main.body.getD i (.Pass ⟨0,0,0,0⟩)
noncomputable abbrev qv:Stmt:=top 1
noncomputable abbrev rA:Stmt:=top 2
noncomputable abbrev pM:Stmt:=top 3
noncomputable abbrev rq:Stmt:=top 5
noncomputable abbrev oE:Stmt:=top 6
noncomputable abbrev qK:Stmt:=top 7
noncomputable abbrev rR:Stmt:=top 8
noncomputable abbrev qH:Stmt:=top 9
noncomputable abbrev pR:Stmt:=top 10
noncomputable abbrev qd:Stmt:=top 11
noncomputable abbrev rZ:Stmt:=top 13
noncomputable abbrev pw:Stmt:=top 14
noncomputable abbrev qS:Stmt:=top 15
noncomputable abbrev oW:Stmt:=top 16
noncomputable abbrev qt:Stmt:=top 18
noncomputable abbrev qN:Stmt:=top 19
noncomputable abbrev qQ:Stmt:=top 20
noncomputable abbrev s0:Stmt:=top 21
structure Glb (K:a0a)(w:World)(mg:Str->Option Value):Prop where
 mk ::
structure Calls (P:Program)(w:World)(K:a0a)(mg:Str->Option Value)(base:Heap)(n:Nat)(C:M.Call):Prop where
 c263:ae P w K mg base n C "alike" 263 []
 c264:ae P w K mg base n C "sort_of" 264 []
 c265:ae P w K mg base n C "are_numbers" 265 []
 c290:ae P w K mg base n C "those_behind" 290 []
 c294:ae P w K mg base n C "shown" 294 []
 c266:ae P w K mg base n C "shows" 266 []
 c267:ae P w K mg base n C "least_by_width" 267 []
 c268:ae P w K mg base n C "is_waiting_row" 268 []
 c295:ae P w K mg base n C "longest_row" 295 []
 c296:ae P w K mg base n C "in_order" 296 []
 c179:ae P w K mg base n C "_law_tape" 179 []
 c201:ae P w K mg base n C "_law_draw" 201 [0]
 c278:ae P w K mg base n C "_law_waits" 278 [0]
 c279:ae P w K mg base n C "_law_hands" 279 [0]
 c272:ae P w K mg base n C "_law_whole" 272 []
 c286:ae P w K mg base n C "_law_longest" 286 []
 c287:ae P w K mg base n C "_law_is_row" 287 []
noncomputable abbrev DD (x:Str)(st:Stmt)(N:List Str)(fn:M.Fn):Prop:=∀ {P:Program} {w:World} {K:a0a} {mg:Str->Option Value} {base:Heap} {n:Nat} {C:M.Call} {f:Addr} {cdv:Value} {A:Around} {outer:List Env} {s:Shared} {H:Hp} {E:XK},Calls P w K mg base n C->Txt mg->Glb K w mg->Room n (A.deeper (envOfC x (defScope st) s.heap.objs.size f cdv))->SSs (il CX0 P w K mg base N x (defScope st) f cdv A outer s H E).nox (slN N.length) fn.io C (defBody st) fn.body
theorem Bp:ay ["one","other","mine","theirs"] ["one","other"] (defScope qv):=fsc
theorem Fx:DD "alike" qv ["one","other","mine","theirs"] aG:=fun {_ _ _ _ _ _ _ _ _ _ _ s _ _} cs T G hr =>
 have S:=Bp
 (@ssc _ _ _ _ _ _ _ _ (@zIf _ _ _ _ _ _ _ _ _ _ _ _ (iz hr (aC cs.c264 hr (@aM _ _ _ _ _ _ _ (sV 0) sa0 (by intro _ z; cases z) (by rfl))) (aC cs.c264 hr (@aM _ _ _ _ _ _ _ (sV 1) sa0 (by intro _ z; cases z) (by rfl)))) (@ss1 _ _ _ _ _ _ (@aO _ _ _ _ _ _ _ _ sO)) ss0)
    (@ssc _ _ _ _ _ _ _ _ (@zIf _ _ _ _ _ _ _ _ _ _ _ _ (b5 (tB (Eu (by decide) a02 (by decide) a00 T.isin T.list T.tup (sV 0)))) (@ss1 _ _ _ _ _ _ (@aO _ _ _ _ _ _ _ _ (sEq hr (sM 0) (sM 1)))) ss0)
    (@ssc _ _ _ _ _ _ _ _ (@zIf _ _ _ _ _ _ _ _ _ _ _ _ (iz hr (cT (hm:=T.len) (ha:=(sV 0))) (cT (hm:=T.len) (ha:=(sV 1)))) (@ss1 _ _ _ _ _ _ (@aO _ _ _ _ _ _ _ _ sO)) ss0)
    (@ssc _ _ _ _ _ _ _ _ (lI 2 3 S.nd (xr (hm:=T.zip) (ha:=(sV 0)) (hb:=(sV 1))) (@ss1 _ _ _ _ _ _ (@zIf _ _ _ _ _ _ _ _ _ _ _ _ (b5 (tB (aC cs.c263 hr (@aM _ _ _ _ _ _ _ (sV 2) (@aM _ _ _ _ _ _ _ (sV 3) sa0 (by intro _ z; cases z) (by rfl)) (by intro _ z; cases z) (by rfl))))) (@ss1 _ _ _ _ _ _ (@aO _ _ _ _ _ _ _ _ sO)) ss0)))
    (@ss1 _ _ _ _ _ _ (@aO _ _ _ _ _ _ _ _ sO))))))
theorem Em:ay ["thing"] ["thing"] (defScope rA):=fsc
theorem FF:DD "sort_of" rA ["thing"] aQ:=fun {_ _ _ _ _ _ _ _ _ _ _ s _ _} cs T G hr =>
 have S:=Em
 (@ssc _ _ _ _ _ _ _ _ (@zIf _ _ _ _ _ _ _ _ _ _ _ _ (tB (cI (by decide) a2x T.isin T.bool (sV 0))) (@ss1 _ _ _ _ _ _ (@aO _ _ _ _ _ _ _ _ sS)) ss0)
    (@ssc _ _ _ _ _ _ _ _ (@zIf _ _ _ _ _ _ _ _ _ _ _ _ (tB (cI (by decide) a1M T.isin T.int (sV 0))) (@ss1 _ _ _ _ _ _ (@aO _ _ _ _ _ _ _ _ sS)) ss0)
    (@ssc _ _ _ _ _ _ _ _ (@zIf _ _ _ _ _ _ _ _ _ _ _ _ (tB (cI (by decide) a3P T.isin T.str (sV 0))) (@ss1 _ _ _ _ _ _ (@aO _ _ _ _ _ _ _ _ sS)) ss0)
    (@ssc _ _ _ _ _ _ _ _ (@zIf _ _ _ _ _ _ _ _ _ _ _ _ (tB (cI (by decide) a02 T.isin T.list (sV 0))) (@ss1 _ _ _ _ _ _ (@aO _ _ _ _ _ _ _ _ sS)) ss0)
    (@ss1 _ _ _ _ _ _ (@aO _ _ _ _ _ _ _ _ (sIf (tB (cI (by decide) a00 T.isin T.tup (sM 0))) sS sS)))))))
theorem Ce:ay ["thing"] ["thing"] (defScope pM):=fsc
theorem F7:DD "are_numbers" pM ["thing"] bc:=fun {_ _ _ _ _ _ _ _ _ _ _ s _ _} cs T G hr =>
 have S:=Ce
 (@ss1 _ _ _ _ _ _ (@aO _ _ _ _ _ _ _ _ (sBW (Cs (cI (by decide) a00 T.isin T.tup (sV 0)) (vA1 (vt (hm:=T.all) (ha:=(sC1 [] [] [] [] (d6 (sV 0)) (fun _ _ _ _=>(sEq hr (aC cs.c264 hr (@aM _ _ _ _ _ _ _ (sV 0) sa0 (by intro _ z; cases z) (by rfl))) sS)) csc .nil .nil))))))))
theorem DU:ay ["steps","told","number","step","one"] ["steps"] (defScope rq):=fsc
theorem EZ:DD "those_behind" rq ["steps","told","number","step","one"] aW:=fun {_ _ _ _ _ _ _ _ _ _ _ s _ _} cs T G hr =>
 have S:=DU
 (@ssc _ _ _ _ _ _ _ _ (zC1 1 [] [] [] [] (d6 (sV 0)) (fun _ _ _ _=>(@sLx _ _ _ _ _ _ _ (by decide) sl0)) csc .nil .nil S.nd)
    (@ssc _ _ _ _ _ _ _ _ (lI 2 3 S.nd (lK (hm:=T.enum) (ha:=(sV 0))) (@ss1 _ _ _ _ _ _ (dS 4 S.nd (d6 (@aF _ _ _ _ _ _ _ _ _ (sV 3) sI (by intro _ _; rfl))) (@ss1 _ _ _ _ _ _ (EU 1 4 2)))))
    (@ss1 _ _ _ _ _ _ (@aO _ _ _ _ _ _ _ _ (sM 1)))))
theorem Du:ay ["steps","hands","least","row"] ["steps","hands"] (defScope oE):=fsc
theorem EW:DD "shown" oE ["steps","hands","least","row"] c8:=fun {_ _ _ _ _ _ _ _ _ _ _ s _ _} cs T G hr =>
 have S:=Du
 (@ssc _ _ _ _ _ _ _ _ (@a9 _ _ _ _ _ _ _ 2 _ _ _ _ S.nd (aC cs.c267 hr (@aM _ _ _ _ _ _ _ (sV 0) (@aM _ _ _ _ _ _ _ (sV 1) sa0 (by intro _ z; cases z) (by rfl)) (by intro _ z; cases z) (by rfl))) (by decide) (by rfl) (by rfl) (by first | exact a0G rfl | exact a0A rfl) (by rfl) (by first | exact .inl rfl | exact .inr rfl))
    (@ssc _ _ _ _ _ _ _ _ (@a9 _ _ _ _ _ _ _ 3 _ _ _ _ S.nd (aC cs.c295 hr (@aM _ _ _ _ _ _ _ (sV 0) sa0 (by intro _ z; cases z) (by rfl))) (by decide) (by rfl) (by rfl) (by first | exact a0G rfl | exact a0A rfl) (by rfl) (by first | exact .inl rfl | exact .inr rfl))
    (@ss1 _ _ _ _ _ _ (@aO _ _ _ _ _ _ _ _ (sIf (vB (cT (hm:=T.len) (ha:=(sV 3))) (sV 2)) (@sTx _ _ _ _ _ _ _ (by decide) (@slx _ _ _ _ _ _ _ sS (@slx _ _ _ _ _ _ _ (sV 3) sl0 (by rfl)) (by rfl))) (@sTx _ _ _ _ _ _ _ (by decide) (@slx _ _ _ _ _ _ _ sS (@slx _ _ _ _ _ _ _ (sV 2) sl0 (by rfl)) (by rfl))))))))
theorem Dx:ay ["steps","hands","thing","least"] ["steps","hands","thing"] (defScope qK):=fsc
theorem ER:DD "shows" qK ["steps","hands","thing","least"] aU:=fun {_ _ _ _ _ _ _ _ _ _ _ s _ _} cs T G hr =>
 have S:=Dx
 (@ssc _ _ _ _ _ _ _ _ (@zIf _ _ _ _ _ _ _ _ _ _ _ _ (tW (wOr (b5 (tB (cI (by decide) a00 T.isin T.tup (sV 2)))) (wO1 (iz hr (cT (hm:=T.len) (ha:=(sV 2))) sI)))) (@ss1 _ _ _ _ _ _ (@aO _ _ _ _ _ _ _ _ sN)) ss0)
    (@ssc _ _ _ _ _ _ _ _ (@a9 _ _ _ _ _ _ _ 3 _ _ _ _ S.nd (aC cs.c267 hr (@aM _ _ _ _ _ _ _ (sV 0) (@aM _ _ _ _ _ _ _ (sV 1) sa0 (by intro _ z; cases z) (by rfl)) (by intro _ z; cases z) (by rfl))) (by decide) (by rfl) (by rfl) (by first | exact a0G rfl | exact a0A rfl) (by rfl) (by first | exact .inl rfl | exact .inr rfl))
    (@ssc _ _ _ _ _ _ _ _ (@zIf _ _ _ _ _ _ _ _ _ _ _ _ (tB (aC cs.c263 hr (@aM _ _ _ _ _ _ _ (sV 2) (@aM _ _ _ _ _ _ _ (@sTx _ _ _ _ _ _ _ (by decide) (@slx _ _ _ _ _ _ _ sS (@slx _ _ _ _ _ _ _ (sV 3) sl0 (by rfl)) (by rfl))) sa0 (by intro _ z; cases z) (by rfl)) (by intro _ z; cases z) (by rfl)))) (@ss1 _ _ _ _ _ _ (@aO _ _ _ _ _ _ _ _ (sM 3))) ss0)
    (@ss1 _ _ _ _ _ _ (@aO _ _ _ _ _ _ _ _ (sIf (tW (pP (kS hr (@aF _ _ _ _ _ _ _ _ _ (sV 2) sI (by intro _ _; rfl)) sS) (wA1 (tB (aC cs.c268 hr (@aM _ _ _ _ _ _ _ (sM 0) (@aM _ _ _ _ _ _ _ (@aF _ _ _ _ _ _ _ _ _ (sV 2) sI (by intro _ _; rfl)) sa0 (by intro _ z; cases z) (by rfl)) (by intro _ z; cases z) (by rfl))))))) (cT (hm:=T.len) (ha:=(@aF _ _ _ _ _ _ _ _ _ (sV 2) sI (by intro _ _; rfl)))) sN))))))
theorem Es:ay ["steps","hands"] ["steps","hands"] (defScope rR):=fsc
theorem FA:DD "least_by_width" rR ["steps","hands"] aN:=fun {_ _ _ _ _ _ _ _ _ _ _ s _ _} cs T G hr =>
 have S:=Es
 (@ss1 _ _ _ _ _ _ (@aO _ _ _ _ _ _ _ _ (vq (vo (cK (CG (hm:=T.sum) (ha:=(sC1 [] [] [] [] (d6 (sM 0)) (fun _ _ _ _=>(@aF _ _ _ _ _ _ _ _ _ (sV 0) sI (by intro _ _; rfl))) csc .nil .nil))) (sV 1)) sI) (sV 1))))
theorem Eg:ay ["steps","thing"] ["steps","thing"] (defScope qH):=fsc
theorem ED:DD "is_waiting_row" qH ["steps","thing"] ag:=fun {_ _ _ _ _ _ _ _ _ _ _ s _ _} cs T G hr =>
 have S:=Eg
 (@ssc _ _ _ _ _ _ _ _ (@zIf _ _ _ _ _ _ _ _ _ _ _ _ (tW (wOr (b5 (tB (cI (by decide) a02 T.isin T.list (sV 1)))) (wO1 (b5 (tB (aC cs.c265 hr (@aM _ _ _ _ _ _ _ (AZ (hm:=T.tup) (ha:=(sV 1))) sa0 (by intro _ z; cases z) (by rfl)))))))) (@ss1 _ _ _ _ _ _ (@aO _ _ _ _ _ _ _ _ sO)) ss0)
    (@ssc _ _ _ _ _ _ _ _ (@zIf _ _ _ _ _ _ _ _ _ _ _ _ (b5 (tB (vt (hm:=T.all) (ha:=(sC1 [0] [0] [("steps",s.heap.objs.size+1)] ["steps"] (d6 (sV 1)) (fun _ _ _ _=>(uW sI (sV 0) (cT (hm:=T.len) (ha:=(sV 1))))) csc (ll .nil) (frc .nil)))))) (@ss1 _ _ _ _ _ _ (@aO _ _ _ _ _ _ _ _ sO)) ss0)
    (@ss1 _ _ _ _ _ _ (@aO _ _ _ _ _ _ _ _ (vt (hm:=T.all) (ha:=(sC2 [0] [0] [("steps",s.heap.objs.size+1)] ["steps"] (xr (hm:=T.zip) (ha:=(sV 1)) (hb:=(F6 (sV 1) sI))) (fun _ _ _ _=>(BS (sV 0) (@aF _ _ _ _ _ _ _ _ _ (@aF _ _ _ _ _ _ _ _ _ (sV 2) (sV 1) (by intro _ _; rfl)) sI (by intro _ _; rfl)))) csc (ll .nil) (frc .nil))))))))
theorem C9:ay ["steps","lengths","number","told","choice","length"] ["steps"] (defScope pR):=fsc
theorem EJ:DD "longest_row" pR ["steps","lengths","number","told","choice","length"] bg:=fun {_ _ _ _ _ _ _ _ _ _ _ s _ _} cs T G hr =>
 have S:=C9
 (@ssc _ _ _ _ _ _ _ _ (@a9 _ _ _ _ _ _ _ 1 _ _ _ _ S.nd (j4 (@sLx _ _ _ _ _ _ _ (by decide) (@slx _ _ _ _ _ _ _ sI sl0 (by rfl))) (cT (hm:=T.len) (ha:=(sV 0)))) (by decide) (by rfl) (by rfl) (by first | exact a0G rfl | exact a0A rfl) (by rfl) (by first | exact .inl rfl | exact .inr rfl))
    (@ssc _ _ _ _ _ _ _ _ (dS 2 S.nd (d6 (aC cs.c296 hr (@aM _ _ _ _ _ _ _ (sV 0) sa0 (by intro _ z; cases z) (by rfl)))) (@ss1 _ _ _ _ _ _ (nq 1 (cK sI (xP (hm:=T.max) (ha:=(sC1 [1] [1] [("lengths",s.heap.objs.size+1)] ["lengths"] (d6 (@aF _ _ _ _ _ _ _ _ _ (@aF _ _ _ _ _ _ _ _ _ (sV 0) (sV 2) (by intro _ _; rfl)) sI (by intro _ _; rfl))) (fun _ _ _ _=>(@aF _ _ _ _ _ _ _ _ _ (sV 1) (sV 0) (by intro _ _; rfl))) csc (ll .nil) (frc .nil))))) (sV 2))))
    (@ssc _ _ _ _ _ _ _ _ (@a9 _ _ _ _ _ _ _ 3 _ _ _ _ S.nd (@sLx _ _ _ _ _ _ _ (by decide) sl0) (by decide) (by rfl) (by rfl) (by first | exact a0G rfl | exact a0A rfl) (by rfl) (by first | exact .inl rfl | exact .inr rfl))
    (@ssc _ _ _ _ _ _ _ _ (@a9 _ _ _ _ _ _ _ 4 _ _ _ _ S.nd (CV T.list T.range (cT (hm:=T.len) (ha:=(sV 0)))) (by decide) (by rfl) (by rfl) (by first | exact a0G rfl | exact a0A rfl) (by rfl) (by first | exact .inl rfl | exact .inr rfl))
    (@ssc _ _ _ _ _ _ _ _ (dS 5 S.nd (zB (hm:=T.range) (ha:=(xP (hm:=T.max) (ha:=(sV 1)))) (hb:=sI) (hc:=(Ci sI))) (@ssc _ _ _ _ _ _ _ _ (uT 3 (@aF _ _ _ _ _ _ _ _ _ (EE [5,1] [5,1] [("lengths",s.heap.objs.size+1),("length",s.heap.objs.size+2)] ["length","lengths"] (d6 (sV 4)) (fun _ _ _ _=>(kS hr (@aF _ _ _ _ _ _ _ _ _ (sV 2) (sV 0) (by intro _ _; rfl)) (sV 1))) (fun _ _ _ _=>(sV 0)) csc (ll (ll .nil)) (frc (frc .nil))) sI (by intro _ _; rfl)))
     (@ss1 _ _ _ _ _ _ (@a9 _ _ _ _ _ _ _ 4 _ _ _ _ S.nd (@aF _ _ _ _ _ _ _ _ _ (@aF _ _ _ _ _ _ _ _ _ (sV 0) (sQ (@aF _ _ _ _ _ _ _ _ _ (sV 3) (Ci sI) (by intro _ _; rfl))) (by intro _ _; rfl)) sI (by intro _ _; rfl)) (by decide) (by rfl) (by rfl) (by first | exact a0G rfl | exact a0A rfl) (by rfl) (by first | exact .inl rfl | exact .inr rfl)))))
    (@ssc _ _ _ _ _ _ _ _ (EC 3)
    (@ss1 _ _ _ _ _ _ (@aO _ _ _ _ _ _ _ _ (sM 3)))))))))
theorem CS:ay ["steps","awaited","later","told","at","number","other"] ["steps"] (defScope qd):=fsc
theorem Ft:DD "in_order" qd ["steps","awaited","later","told","at","number","other"] bN:=fun {_ _ _ _ _ _ _ _ _ _ _ s _ _} cs T G hr =>
 have S:=CS
 (@ssc _ _ _ _ _ _ _ _ (zC1 1 [] [] [] [] (d6 (sV 0)) (fun _ _ _ _=>(cT (hm:=T.len) (ha:=(@aF _ _ _ _ _ _ _ _ _ (sV 0) sI (by intro _ _; rfl))))) csc .nil .nil S.nd)
    (@ssc _ _ _ _ _ _ _ _ (@a9 _ _ _ _ _ _ _ 2 _ _ _ _ S.nd (aC cs.c290 hr (@aM _ _ _ _ _ _ _ (sV 0) sa0 (by intro _ z; cases z) (by rfl))) (by decide) (by rfl) (by rfl) (by first | exact a0G rfl | exact a0A rfl) (by rfl) (by first | exact .inl rfl | exact .inr rfl))
    (@ssc _ _ _ _ _ _ _ _ (F5 3 [] [] [] [] (lK (hm:=T.enum) (ha:=(sV 1))) (fun _ _ _ _=>(kS hr (sV 1) sI)) (fun _ _ _ _=>(sV 0)) csc .nil .nil S.nd)
    (@ssc _ _ _ _ _ _ _ _ (@a9 _ _ _ _ _ _ _ 4 _ _ _ _ S.nd sI (by decide) (by rfl) (by rfl) (by first | exact a0G rfl | exact a0A rfl) (by rfl) (by first | exact .inl rfl | exact .inr rfl))
    (@ssc _ _ _ _ _ _ _ _ (E1 (DV (sV 4) (cT (hm:=T.len) (ha:=(sV 3)))) (@ssc _ _ _ _ _ _ _ _ (@a9 _ _ _ _ _ _ _ 5 _ _ _ _ S.nd (@aF _ _ _ _ _ _ _ _ _ (sV 3) (sV 4) (by intro _ _; rfl)) (by decide) (by rfl) (by rfl) (by first | exact a0G rfl | exact a0A rfl) (by rfl) (by first | exact .inl rfl | exact .inr rfl))
     (@ssc _ _ _ _ _ _ _ _ (dS 6 S.nd (d6 (@aF _ _ _ _ _ _ _ _ _ (sV 2) (sV 5) (by intro _ _; rfl))) (@ssc _ _ _ _ _ _ _ _ (nq 1 (vo (@aF _ _ _ _ _ _ _ _ _ (sV 1) (sV 6) (by intro _ _; rfl)) sI) (sV 6))
      (@ss1 _ _ _ _ _ _ (@zIf _ _ _ _ _ _ _ _ _ _ _ _ (kS hr (@aF _ _ _ _ _ _ _ _ _ (sV 1) (sV 6) (by intro _ _; rfl)) sI) (@ss1 _ _ _ _ _ _ (uT 3 (sV 6))) ss0))))
     (@ss1 _ _ _ _ _ _ (@a9 _ _ _ _ _ _ _ 4 _ _ _ _ S.nd (cK (sV 4) sI) (by decide) (by rfl) (by rfl) (by first | exact a0G rfl | exact a0A rfl) (by rfl) (by first | exact .inl rfl | exact .inr rfl))))))
    (@ss1 _ _ _ _ _ _ (@aO _ _ _ _ _ _ _ _ (sM 3))))))))
theorem DW:ay ["_law_script"] ["_law_script"] (defScope rZ):=fsc
theorem Fb:DD "_law_tape" rZ ["_law_script"] bU:=fun {_ _ _ _ _ _ _ _ _ _ _ s _ _} cs T G hr =>
 have S:=DW
 (@ss1 _ _ _ _ _ _ (@aO _ _ _ _ _ _ _ _ (@sLx _ _ _ _ _ _ _ (by decide) (@slx _ _ _ _ _ _ _ (CI (hm:=T.list) (ha:=(FY (sM 0) sI))) (@slx _ _ _ _ _ _ _ sI (@slx _ _ _ _ _ _ _ sI sl0 (by rfl)) (by rfl)) (by rfl)))))
theorem Cb:ay ["_law_tape_here","_law_many","_law_digit","_law_at","_law_cell","_law_mixed"] ["_law_tape_here","_law_many"] (defScope pw):=fsc
theorem EH:DD "_law_draw" pw ["_law_tape_here","_law_many","_law_digit","_law_at","_law_cell","_law_mixed"] bz:=fun {_ _ _ _ _ _ _ _ _ _ _ s _ _} cs T G hr =>
 have S:=Cb
 (@ssc _ _ _ _ _ _ _ _ (@zIf _ _ _ _ _ _ _ _ _ _ _ _ (vB (@aF _ _ _ _ _ _ _ _ _ (sV 0) sI (by intro _ _; rfl)) sI) (@ssc _ _ _ _ _ _ _ _ (@a9 _ _ _ _ _ _ _ 2 _ _ _ _ S.nd (eN (@aF _ _ _ _ _ _ _ _ _ (sV 0) sI (by intro _ _; rfl)) (sV 1)) (by decide) (by rfl) (by rfl) (by first | exact a0G rfl | exact a0A rfl) (by rfl) (by first | exact .inl rfl | exact .inr rfl))
      (@ssc _ _ _ _ _ _ _ _ (nq 0 (oG (@aF _ _ _ _ _ _ _ _ _ (sV 0) sI (by intro _ _; rfl)) (sV 1)) sI)
      (@ss1 _ _ _ _ _ _ (@aO _ _ _ _ _ _ _ _ (sM 2))))) ss0)
    (@ssc _ _ _ _ _ _ _ _ (@a9 _ _ _ _ _ _ _ 3 _ _ _ _ S.nd (@aF _ _ _ _ _ _ _ _ _ (sV 0) sI (by intro _ _; rfl)) (by decide) (by rfl) (by rfl) (by first | exact a0G rfl | exact a0A rfl) (by rfl) (by first | exact .inl rfl | exact .inr rfl))
    (@ssc _ _ _ _ _ _ _ _ (nq 0 (cK (sV 3) sI) sI)
    (@ssc _ _ _ _ _ _ _ _ (@a9 _ _ _ _ _ _ _ 4 _ _ _ _ S.nd sI (by decide) (by rfl) (by rfl) (by first | exact a0G rfl | exact a0A rfl) (by rfl) (by first | exact .inl rfl | exact .inr rfl))
    (@ssc _ _ _ _ _ _ _ _ (@zIf _ _ _ _ _ _ _ _ _ _ _ _ (vB (cT (hm:=T.len) (ha:=(@aF _ _ _ _ _ _ _ _ _ (sV 0) sI (by intro _ _; rfl)))) sI) (@ss1 _ _ _ _ _ _ (@a9 _ _ _ _ _ _ _ 4 _ _ _ _ S.nd (@aF _ _ _ _ _ _ _ _ _ (@aF _ _ _ _ _ _ _ _ _ (sV 0) sI (by intro _ _; rfl)) (eN (sV 3) (cT (hm:=T.len) (ha:=(@aF _ _ _ _ _ _ _ _ _ (sV 0) sI (by intro _ _; rfl))))) (by intro _ _; rfl)) (by decide) (by rfl) (by rfl) (by first | exact a0G rfl | exact a0A rfl) (by rfl) (by first | exact .inl rfl | exact .inr rfl))) ss0)
    (@ssc _ _ _ _ _ _ _ _ (@zIf _ _ _ _ _ _ _ _ _ _ _ _ (tW (pP (DV (sV 3) (cT (hm:=T.len) (ha:=(@aF _ _ _ _ _ _ _ _ _ (sV 0) sI (by intro _ _; rfl))))) (wA1 (Fz (sV 4) (EO sI sI))))) (@ssc _ _ _ _ _ _ _ _ (nq 0 (oG (sV 4) (sV 1)) sI)
     (@ss1 _ _ _ _ _ _ (@aO _ _ _ _ _ _ _ _ (eN (sM 4) (sM 1))))) ss0)
    (@ssc _ _ _ _ _ _ _ _ (@a9 _ _ _ _ _ _ _ 5 _ _ _ _ S.nd (eN (j4 (cK (eN (sV 4) sI) sI) (cK (cK (j4 (j4 sI (sV 3)) (sV 3)) (j4 sI (sV 3))) sI)) sI) (by decide) (by rfl) (by rfl) (by first | exact a0G rfl | exact a0A rfl) (by rfl) (by first | exact .inl rfl | exact .inr rfl))
    (@ssc _ _ _ _ _ _ _ _ (@a9 _ _ _ _ _ _ _ 5 _ _ _ _ S.nd (eN (cK (cK (j4 (sV 5) (sV 5)) (j4 sI (sV 3))) (eN (sV 4) sI)) sI) (by decide) (by rfl) (by rfl) (by first | exact a0G rfl | exact a0A rfl) (by rfl) (by first | exact .inl rfl | exact .inr rfl))
    (@ss1 _ _ _ _ _ _ (@aO _ _ _ _ _ _ _ _ (eN (oG (sM 5) sI) (sM 1))))))))))))
theorem Cw:ay ["_law_tape_here","_law_many","_law_left","_law_turn","_law_ahead","_law_often","_law_k","_law_number","_law_found","_law_width"] ["_law_tape_here"] (defScope qS):=fsc
theorem Fu:DD "_law_waits" qS ["_law_tape_here","_law_many","_law_left","_law_turn","_law_ahead","_law_often","_law_k","_law_number","_law_found","_law_width"] f_law_waits:=fun {_ _ _ _ _ _ _ _ _ _ _ s _ _} cs T G hr =>
 have S:=Cw
 (@ssc _ _ _ _ _ _ _ _ (@a9 _ _ _ _ _ _ _ 1 _ _ _ _ S.nd (@aF _ _ _ _ _ _ _ _ _ (@sLx _ _ _ _ _ _ _ (by decide) (@slx _ _ _ _ _ _ _ sI (@slx _ _ _ _ _ _ _ sI (@slx _ _ _ _ _ _ _ sI (@slx _ _ _ _ _ _ _ sI (@slx _ _ _ _ _ _ _ sI (@slx _ _ _ _ _ _ _ sI (@slx _ _ _ _ _ _ _ sI (@slx _ _ _ _ _ _ _ sI (@slx _ _ _ _ _ _ _ sI (@slx _ _ _ _ _ _ _ sI (@slx _ _ _ _ _ _ _ sI (@slx _ _ _ _ _ _ _ sI sl0 (by rfl)) (by rfl)) (by rfl)) (by rfl)) (by rfl)) (by rfl)) (by rfl)) (by rfl)) (by rfl)) (by rfl)) (by rfl)) (by rfl))) (aC cs.c201 hr (sai 0 (@aM _ _ _ _ _ _ _ sI sa0 (by intro _ z; cases z) (by rfl)))) (by intro _ _; rfl)) (by decide) (by rfl) (by rfl) (by first | exact a0G rfl | exact a0A rfl) (by rfl) (by first | exact .inl rfl | exact .inr rfl))
    (@ssc _ _ _ _ _ _ _ _ (@a9 _ _ _ _ _ _ _ 2 _ _ _ _ S.nd (CV T.list T.range (sV 1)) (by decide) (by rfl) (by rfl) (by first | exact a0G rfl | exact a0A rfl) (by rfl) (by first | exact .inl rfl | exact .inr rfl))
    (@ssc _ _ _ _ _ _ _ _ (@a9 _ _ _ _ _ _ _ 3 _ _ _ _ S.nd (@sLx _ _ _ _ _ _ _ (by decide) sl0) (by decide) (by rfl) (by rfl) (by first | exact a0G rfl | exact a0A rfl) (by rfl) (by first | exact .inl rfl | exact .inr rfl))
    (@ssc _ _ _ _ _ _ _ _ (@a9 _ _ _ _ _ _ _ 4 _ _ _ _ S.nd Bv (by decide) (by rfl) (by rfl) (by first | exact a0G rfl | exact a0A rfl) (by rfl) (by first | exact .inl rfl | exact .inr rfl))
    (@ssc _ _ _ _ _ _ _ _ (@a9 _ _ _ _ _ _ _ 5 _ _ _ _ S.nd (cK sI (aC cs.c201 hr (sai 0 (@aM _ _ _ _ _ _ _ sI sa0 (by intro _ z; cases z) (by rfl))))) (by decide) (by rfl) (by rfl) (by first | exact a0G rfl | exact a0A rfl) (by rfl) (by first | exact .inl rfl | exact .inr rfl))
    (@ssc _ _ _ _ _ _ _ _ (dS 6 S.nd (tf (hm:=T.range) (ha:=(sV 1))) (@ssc _ _ _ _ _ _ _ _ (@a9 _ _ _ _ _ _ _ 7 _ _ _ _ S.nd (BG 2 (aC cs.c201 hr (sai 0 (@aM _ _ _ _ _ _ _ (Cj 2 T.len) sa0 (by intro _ z; cases z) (by rfl))))) (by decide) (by rfl) (by rfl) (by first | exact a0G rfl | exact a0A rfl) (by rfl) (by first | exact .inl rfl | exact .inr rfl))
     (@ssc _ _ _ _ _ _ _ _ (Dv 4 hr (vF (hm:=T.sorted) (ha:=(E2 3 [5,0] [5,0] [("_law_tape_here",s.heap.objs.size+1),("_law_often",s.heap.objs.size+2)] ["_law_often","_law_tape_here"] (fun _ _ _ _=>(kS hr (aC cs.c201 hr (sai 2 (@aM _ _ _ _ _ _ _ (sV 1) sa0 (by intro _ z; cases z) (by rfl)))) sI)) (fun _ _ _ _=>(sV 0)) csc (ll (ll .nil)) (frc (frc .nil))))) (sV 7))
     (@ss1 _ _ _ _ _ _ (uT 3 (sV 7))))))
    (@ssc _ _ _ _ _ _ _ _ (@a9 _ _ _ _ _ _ _ 8 _ _ _ _ S.nd (@sLx _ _ _ _ _ _ _ (by decide) sl0) (by decide) (by rfl) (by rfl) (by first | exact a0G rfl | exact a0A rfl) (by rfl) (by first | exact .inl rfl | exact .inr rfl))
    (@ssc _ _ _ _ _ _ _ _ (dS 6 S.nd (tf (hm:=T.range) (ha:=(sV 1))) (@ssc _ _ _ _ _ _ _ _ (@a9 _ _ _ _ _ _ _ 9 _ _ _ _ S.nd (@aF _ _ _ _ _ _ _ _ _ (@sLx _ _ _ _ _ _ _ (by decide) (@slx _ _ _ _ _ _ _ sI (@slx _ _ _ _ _ _ _ (cK sI (aC cs.c201 hr (sai 0 (@aM _ _ _ _ _ _ _ sI sa0 (by intro _ z; cases z) (by rfl))))) (@slx _ _ _ _ _ _ _ (cK sI (aC cs.c201 hr (sai 0 (@aM _ _ _ _ _ _ _ sI sa0 (by intro _ z; cases z) (by rfl))))) (@slx _ _ _ _ _ _ _ (cK sI (aC cs.c201 hr (sai 0 (@aM _ _ _ _ _ _ _ sI sa0 (by intro _ z; cases z) (by rfl))))) sl0 (by rfl)) (by rfl)) (by rfl)) (by rfl))) (vq (j4 (aC cs.c201 hr (sai 0 (@aM _ _ _ _ _ _ _ sI sa0 (by intro _ z; cases z) (by rfl)))) sI) sI) (by intro _ _; rfl)) (by decide) (by rfl) (by rfl) (by first | exact a0G rfl | exact a0A rfl) (by rfl) (by first | exact .inl rfl | exact .inr rfl))
     (@ss1 _ _ _ _ _ _ (uT 8 (@sTx _ _ _ _ _ _ _ (by decide) (@slx _ _ _ _ _ _ _ (@sTx _ _ _ _ _ _ _ (by decide) (@slx _ _ _ _ _ _ _ (vq (sV 6) sI) (@slx _ _ _ _ _ _ _ (EA (sV 6) sI) sl0 (by rfl)) (by rfl))) (@slx _ _ _ _ _ _ _ (@sTx _ _ _ _ _ _ _ (by decide) sl0) (@slx _ _ _ _ _ _ _ (sV 9) (@slx _ _ _ _ _ _ _ (yX hr (sV 4) (sV 6)) sl0 (by rfl)) (by rfl)) (by rfl)) (by rfl)))))))
    (@ss1 _ _ _ _ _ _ (@aO _ _ _ _ _ _ _ _ (sM 8)))))))))))
theorem B6:ay ["_law_tape_here"] ["_law_tape_here"] (defScope oW):=fsc
theorem FO:DD "_law_hands" oW ["_law_tape_here"] bE:=fun {_ _ _ _ _ _ _ _ _ _ _ s _ _} cs T G hr =>
 have S:=B6
 (@ss1 _ _ _ _ _ _ (@aO _ _ _ _ _ _ _ _ (@aF _ _ _ _ _ _ _ _ _ (@sLx _ _ _ _ _ _ _ (by decide) (@slx _ _ _ _ _ _ _ sI (@slx _ _ _ _ _ _ _ sI (@slx _ _ _ _ _ _ _ (cK sI (aC cs.c201 hr (sai 0 (@aM _ _ _ _ _ _ _ sI sa0 (by intro _ z; cases z) (by rfl))))) (@slx _ _ _ _ _ _ _ (cK sI (aC cs.c201 hr (sai 0 (@aM _ _ _ _ _ _ _ sI sa0 (by intro _ z; cases z) (by rfl))))) sl0 (by rfl)) (by rfl)) (by rfl)) (by rfl))) (aC cs.c201 hr (sai 0 (@aM _ _ _ _ _ _ _ sI sa0 (by intro _ z; cases z) (by rfl)))) (by intro _ _; rfl))))
theorem Dl:ay ["_law_thing"] ["_law_thing"] (defScope qt):=fsc
theorem Gb:DD "_law_whole" qt ["_law_thing"] bG:=fun {_ _ _ _ _ _ _ _ _ _ _ s _ _} cs T G hr =>
 have S:=Dl
 (@ss1 _ _ _ _ _ _ (@aO _ _ _ _ _ _ _ _ (sBW (Cs (cI (by decide) a1M T.isin T.int (sV 0)) (vA1 (E9 (cI (by decide) a2x T.isin T.bool (sV 0))))))))
theorem Et:ay ["_law_steps","_law_ends","_law_k","_law_number","_law_step","_law_other"] ["_law_steps"] (defScope qN):=fsc
theorem EL:DD "_law_longest" qN ["_law_steps","_law_ends","_law_k","_law_number","_law_step","_law_other"] bb:=fun {_ _ _ _ _ _ _ _ _ _ _ s _ _} cs T G hr =>
 have S:=Et
 (@ssc _ _ _ _ _ _ _ _ (zC1 1 [] [] [] [] (d6 (sV 0)) (fun _ _ _ _=>sI) csc .nil .nil S.nd)
    (@ssc _ _ _ _ _ _ _ _ (dS 2 S.nd (tf (hm:=T.range) (ha:=(cT (hm:=T.len) (ha:=(sV 0))))) (@ss1 _ _ _ _ _ _ (lI 3 4 S.nd (lK (hm:=T.enum) (ha:=(sV 0))) (@ss1 _ _ _ _ _ _ (dS 5 S.nd (d6 (@aF _ _ _ _ _ _ _ _ _ (sV 4) sI (by intro _ _; rfl))) (@ss1 _ _ _ _ _ _ (nq 1 (Br (hm:=T.max) (ha:=(@aF _ _ _ _ _ _ _ _ _ (sV 1) (sV 3) (by intro _ _; rfl))) (hb:=(cK (@aF _ _ _ _ _ _ _ _ _ (sV 1) (sV 5) (by intro _ _; rfl)) sI))) (sV 3))))))))
    (@ss1 _ _ _ _ _ _ (@aO _ _ _ _ _ _ _ _ (BK (hm:=T.max) (ha:=(cK (@sLx _ _ _ _ _ _ _ (by decide) (@slx _ _ _ _ _ _ _ sI sl0 (by rfl))) (sM 1))))))))
theorem DF:ay ["_law_steps","_law_row","_law_k","_law_number"] ["_law_steps","_law_row"] (defScope qQ):=fsc
theorem EM:DD "_law_is_row" qQ ["_law_steps","_law_row","_law_k","_law_number"] bp:=fun {_ _ _ _ _ _ _ _ _ _ _ s _ _} cs T G hr =>
 have S:=DF
 (@ssc _ _ _ _ _ _ _ _ (@zIf _ _ _ _ _ _ _ _ _ _ _ _ (tW (wOr (b5 (tB (cI (by decide) a02 T.isin T.list (sV 1)))) (wO1 (b5 (tB (vt (hm:=T.all) (ha:=(sC1 [] [] [] [] (d6 (sV 1)) (fun _ _ _ _=>(aC cs.c272 hr (@aM _ _ _ _ _ _ _ (sV 0) sa0 (by intro _ z; cases z) (by rfl)))) csc .nil .nil)))))))) (@ss1 _ _ _ _ _ _ (@aO _ _ _ _ _ _ _ _ sO)) ss0)
    (@ssc _ _ _ _ _ _ _ _ (lI 2 3 S.nd (lK (hm:=T.enum) (ha:=(sV 1))) (@ssc _ _ _ _ _ _ _ _ (@zIf _ _ _ _ _ _ _ _ _ _ _ _ (b5 (tD sI (sV 3) (cT (hm:=T.len) (ha:=(sV 0))))) (@ss1 _ _ _ _ _ _ (@aO _ _ _ _ _ _ _ _ sO)) ss0)
     (@ss1 _ _ _ _ _ _ (@zIf _ _ _ _ _ _ _ _ _ _ _ _ (tW (pP (vB (sV 2) sI) (wA1 (ur (@aF _ _ _ _ _ _ _ _ _ (sV 1) (vo (sV 2) sI) (by intro _ _; rfl)) (@aF _ _ _ _ _ _ _ _ _ (@aF _ _ _ _ _ _ _ _ _ (sV 0) (sV 3) (by intro _ _; rfl)) sI (by intro _ _; rfl)))))) (@ss1 _ _ _ _ _ _ (@aO _ _ _ _ _ _ _ _ sO)) ss0))))
    (@ss1 _ _ _ _ _ _ (@aO _ _ _ _ _ _ _ _ sO))))
theorem S0:ay ["_law_script","_law_tape_here","_law_k","_law_steps","_law_hands_here","_law_kept","_law_told","_law_wide","_law_long","_law_found"] ["_law_script"] (defScope s0):=fsc
theorem D0:DD "law" s0 ["_law_script","_law_tape_here","_law_k","_law_steps","_law_hands_here","_law_kept","_law_told","_law_wide","_law_long","_law_found"] lY:=fun {_ _ _ _ _ _ _ _ _ _ _ s _ _} cs T G hr =>
 have S:=S0
 (@ssc _ _ _ _ _ _ _ _ (@a9 _ _ _ _ _ _ _ 1 _ _ _ _ S.nd (aC cs.c179 hr (@aM _ _ _ _ _ _ _ (sV 0) sa0 (by intro _ z; cases z) (by rfl))) (by decide) (by rfl) (by rfl) (by first | exact a0G rfl | exact a0A rfl) (by rfl) (by first | exact .inl rfl | exact .inr rfl))
    (@ssc _ _ _ _ _ _ _ _ (dS 2 S.nd (tf (hm:=T.range) (ha:=sI)) (@ssc _ _ _ _ _ _ _ _ (@a9 _ _ _ _ _ _ _ 3 _ _ _ _ S.nd (aC cs.c278 hr (sai 1 sa0)) (by decide) (by rfl) (by rfl) (by first | exact a0G rfl | exact a0A rfl) (by rfl) (by first | exact .inl rfl | exact .inr rfl))
     (@ssc _ _ _ _ _ _ _ _ (@a9 _ _ _ _ _ _ _ 4 _ _ _ _ S.nd (aC cs.c279 hr (sai 1 sa0)) (by decide) (by rfl) (by rfl) (by first | exact a0G rfl | exact a0A rfl) (by rfl) (by first | exact .inl rfl | exact .inr rfl))
     (@ssc _ _ _ _ _ _ _ _ (@a9 _ _ _ _ _ _ _ 5 _ _ _ _ S.nd (xA (hr:=hr) (hm:=T.repr) (ha:=(sV 3))) (by decide) (by rfl) (by rfl) (by first | exact a0G rfl | exact a0A rfl) (by rfl) (by first | exact .inl rfl | exact .inr rfl))
     (@ssc _ _ _ _ _ _ _ _ (@a9 _ _ _ _ _ _ _ 6 _ _ _ _ S.nd (aC cs.c294 hr (@aM _ _ _ _ _ _ _ (sV 3) (@aM _ _ _ _ _ _ _ (sV 4) sa0 (by intro _ z; cases z) (by rfl)) (by intro _ z; cases z) (by rfl))) (by decide) (by rfl) (by rfl) (by first | exact a0G rfl | exact a0A rfl) (by rfl) (by first | exact .inl rfl | exact .inr rfl))
     (@ssc _ _ _ _ _ _ _ _ (@a9 _ _ _ _ _ _ _ 7 _ _ _ _ S.nd (vq (vo (cK (CG (hm:=T.sum) (ha:=(sC1 [] [] [] [] (d6 (sV 3)) (fun _ _ _ _=>(@aF _ _ _ _ _ _ _ _ _ (sV 0) sI (by intro _ _; rfl))) csc .nil .nil))) (sV 4)) sI) (sV 4)) (by decide) (by rfl) (by rfl) (by first | exact a0G rfl | exact a0A rfl) (by rfl) (by first | exact .inl rfl | exact .inr rfl))
     (@ssc _ _ _ _ _ _ _ _ (@a9 _ _ _ _ _ _ _ 8 _ _ _ _ S.nd (aC cs.c286 hr (@aM _ _ _ _ _ _ _ (sV 3) sa0 (by intro _ z; cases z) (by rfl))) (by decide) (by rfl) (by rfl) (by first | exact a0G rfl | exact a0A rfl) (by rfl) (by first | exact .inl rfl | exact .inr rfl))
     (@ssc _ _ _ _ _ _ _ _ (@zIf _ _ _ _ _ _ _ _ _ _ _ _ (tW (wOr (b5 (tB (cI (by decide) a00 T.isin T.tup (sV 6)))) (wOr (iz hr (cT (hm:=T.len) (ha:=(sV 6))) sI) (wO1 (iz hr (xA (hr:=hr) (hm:=T.repr) (ha:=(sV 3))) (sV 5)))))) (@ss1 _ _ _ _ _ _ (@aO _ _ _ _ _ _ _ _ sO)) ss0)
     (@ssc _ _ _ _ _ _ _ _ (@zIf _ _ _ _ _ _ _ _ _ _ _ _ (iz hr (@aF _ _ _ _ _ _ _ _ _ (sV 6) sI (by intro _ _; rfl)) (@aF _ _ _ _ _ _ _ _ _ (@sLx _ _ _ _ _ _ _ (by decide) (@slx _ _ _ _ _ _ _ sS (@slx _ _ _ _ _ _ _ sS sl0 (by rfl)) (by rfl))) (FE (hm:=T.int) (ha:=(sGt (sV 8) (sV 7)))) (by intro _ _; rfl))) (@ss1 _ _ _ _ _ _ (@aO _ _ _ _ _ _ _ _ sO)) ss0)
     (@ssc _ _ _ _ _ _ _ _ (@zIf _ _ _ _ _ _ _ _ _ _ _ _ (tW (pP (kS hr (@aF _ _ _ _ _ _ _ _ _ (sV 6) sI (by intro _ _; rfl)) sS) (wA1 (tW (wOr (b5 (tB (aC cs.c272 hr (@aM _ _ _ _ _ _ _ (@aF _ _ _ _ _ _ _ _ _ (sV 6) sI (by intro _ _; rfl)) sa0 (by intro _ z; cases z) (by rfl))))) (wO1 (iz hr (@aF _ _ _ _ _ _ _ _ _ (sV 6) sI (by intro _ _; rfl)) (sV 7)))))))) (@ss1 _ _ _ _ _ _ (@aO _ _ _ _ _ _ _ _ sO)) ss0)
     (@ssc _ _ _ _ _ _ _ _ (@zIf _ _ _ _ _ _ _ _ _ _ _ _ (tW (pP (kS hr (@aF _ _ _ _ _ _ _ _ _ (sV 6) sI (by intro _ _; rfl)) sS) (wA1 (tW (wOr (b5 (tB (aC cs.c287 hr (@aM _ _ _ _ _ _ _ (sV 3) (@aM _ _ _ _ _ _ _ (@aF _ _ _ _ _ _ _ _ _ (sV 6) sI (by intro _ _; rfl)) sa0 (by intro _ z; cases z) (by rfl)) (by intro _ z; cases z) (by rfl))))) (wO1 (iz hr (cT (hm:=T.len) (ha:=(@aF _ _ _ _ _ _ _ _ _ (sV 6) sI (by intro _ _; rfl)))) (sV 8)))))))) (@ss1 _ _ _ _ _ _ (@aO _ _ _ _ _ _ _ _ sO)) ss0)
     (@ssc _ _ _ _ _ _ _ _ (@a9 _ _ _ _ _ _ _ 9 _ _ _ _ S.nd (aC cs.c266 hr (@aM _ _ _ _ _ _ _ (sV 3) (@aM _ _ _ _ _ _ _ (sV 4) (@aM _ _ _ _ _ _ _ (sV 6) sa0 (by intro _ z; cases z) (by rfl)) (by intro _ z; cases z) (by rfl)) (by intro _ z; cases z) (by rfl))) (by decide) (by rfl) (by rfl) (by first | exact a0G rfl | exact a0A rfl) (by rfl) (by first | exact .inl rfl | exact .inr rfl))
     (@ss1 _ _ _ _ _ _ (@zIf _ _ _ _ _ _ _ _ _ _ _ _ (tW (wOr (b5 (tB (aC cs.c272 hr (@aM _ _ _ _ _ _ _ (sV 9) sa0 (by intro _ z; cases z) (by rfl))))) (wO1 (iz hr (sV 9) (Br (hm:=T.max) (ha:=(sV 8)) (hb:=(sV 7))))))) (@ss1 _ _ _ _ _ _ (@aO _ _ _ _ _ _ _ _ sO)) ss0))))))))))))))
    (@ss1 _ _ _ _ _ _ (@aO _ _ _ _ _ _ _ _ (sEq hr (aC cs.c294 hr (@aM _ _ _ _ _ _ _ (@sLx _ _ _ _ _ _ _ (by decide) sl0) (@aM _ _ _ _ _ _ _ sI sa0 (by intro _ z; cases z) (by rfl)) (by intro _ z; cases z) (by rfl))) (@sTx _ _ _ _ _ _ _ (by decide) (@slx _ _ _ _ _ _ _ sS (@slx _ _ _ _ _ _ _ sI sl0 (by rfl)) (by rfl))))))))
end A76

namespace A76
open PySem PySem.Spec PyProof.Rows L2 L3 MR
noncomputable abbrev Cl (n:Nat):M.Call:=M.callR prog 1000000 1000001 n
section
variable {P:Program}{w:World}{K:a0a}{mg:Str->Option Value}{base:Heap}
theorem all (d263:Df K mg "alike" qv ["one","other"])(d264:Df K mg "sort_of" rA ["thing"])(d265:Df K mg "are_numbers" pM ["thing"])(d290:Df K mg "those_behind" rq ["steps"])(d294:Df K mg "shown" oE ["steps","hands"])(d266:Df K mg "shows" qK ["steps","hands","thing"])(d267:Df K mg "least_by_width" rR ["steps","hands"])(d268:Df K mg "is_waiting_row" qH ["steps","thing"])(d295:Df K mg "longest_row" pR ["steps"])(d296:Df K mg "in_order" qd ["steps"])(d179:Df K mg "_law_tape" rZ ["_law_script"])(d201:Df K mg "_law_draw" pw ["_law_tape_here","_law_many"])(d278:Df K mg "_law_waits" qS ["_law_tape_here"])(d279:Df K mg "_law_hands" oW ["_law_tape_here"])(d272:Df K mg "_law_whole" qt ["_law_thing"])(d286:Df K mg "_law_longest" qN ["_law_steps"])(d287:Df K mg "_law_is_row" qQ ["_law_steps","_law_row"])  (T:Txt mg)(G:Glb K w mg):∀ n,Calls P w K mg base n (Cl n)
 | 0 =>
  have c263:ae P w K mg base 0 (Cl 0) "alike" 263 []:=d263.z
  have c264:ae P w K mg base 0 (Cl 0) "sort_of" 264 []:=d264.z
  have c265:ae P w K mg base 0 (Cl 0) "are_numbers" 265 []:=d265.z
  have c290:ae P w K mg base 0 (Cl 0) "those_behind" 290 []:=d290.z
  have c294:ae P w K mg base 0 (Cl 0) "shown" 294 []:=d294.z
  have c266:ae P w K mg base 0 (Cl 0) "shows" 266 []:=d266.z
  have c267:ae P w K mg base 0 (Cl 0) "least_by_width" 267 []:=d267.z
  have c268:ae P w K mg base 0 (Cl 0) "is_waiting_row" 268 []:=d268.z
  have c295:ae P w K mg base 0 (Cl 0) "longest_row" 295 []:=d295.z
  have c296:ae P w K mg base 0 (Cl 0) "in_order" 296 []:=d296.z
  have c179:ae P w K mg base 0 (Cl 0) "_law_tape" 179 []:=d179.z
  have c201:ae P w K mg base 0 (Cl 0) "_law_draw" 201 [0]:=d201.z
  have c278:ae P w K mg base 0 (Cl 0) "_law_waits" 278 [0]:=d278.z
  have c279:ae P w K mg base 0 (Cl 0) "_law_hands" 279 [0]:=d279.z
  have c272:ae P w K mg base 0 (Cl 0) "_law_whole" 272 []:=d272.z
  have c286:ae P w K mg base 0 (Cl 0) "_law_longest" 286 []:=d286.z
  have c287:ae P w K mg base 0 (Cl 0) "_law_is_row" 287 []:=d287.z
  ⟨c263,c264,c265,c290,c294,c266,c267,c268,c295,c296,c179,c201,c278,c279,c272,c286,c287⟩
 | n+1 =>
  have c:=all d263 d264 d265 d290 d294 d266 d267 d268 d295 d296 d179 d201 d278 d279 d272 d286 d287  T G n
  have c263:ae P w K mg base (n+1) (Cl (n+1)) "alike" 263 []:=d263.s aG Bp (C:=Cl n) (by intro f cdv A outer s H E h; exact @Fx P w K mg base n (Cl n) f cdv A outer s H E c T G h)
  have c264:ae P w K mg base (n+1) (Cl (n+1)) "sort_of" 264 []:=d264.s aQ Em (C:=Cl n) (by intro f cdv A outer s H E h; exact @FF P w K mg base n (Cl n) f cdv A outer s H E c T G h)
  have c265:ae P w K mg base (n+1) (Cl (n+1)) "are_numbers" 265 []:=d265.s bc Ce (C:=Cl n) (by intro f cdv A outer s H E h; exact @F7 P w K mg base n (Cl n) f cdv A outer s H E c T G h)
  have c290:ae P w K mg base (n+1) (Cl (n+1)) "those_behind" 290 []:=d290.s aW DU (C:=Cl n) (by intro f cdv A outer s H E h; exact @EZ P w K mg base n (Cl n) f cdv A outer s H E c T G h)
  have c294:ae P w K mg base (n+1) (Cl (n+1)) "shown" 294 []:=d294.s c8 Du (C:=Cl n) (by intro f cdv A outer s H E h; exact @EW P w K mg base n (Cl n) f cdv A outer s H E c T G h)
  have c266:ae P w K mg base (n+1) (Cl (n+1)) "shows" 266 []:=d266.s aU Dx (C:=Cl n) (by intro f cdv A outer s H E h; exact @ER P w K mg base n (Cl n) f cdv A outer s H E c T G h)
  have c267:ae P w K mg base (n+1) (Cl (n+1)) "least_by_width" 267 []:=d267.s aN Es (C:=Cl n) (by intro f cdv A outer s H E h; exact @FA P w K mg base n (Cl n) f cdv A outer s H E c T G h)
  have c268:ae P w K mg base (n+1) (Cl (n+1)) "is_waiting_row" 268 []:=d268.s ag Eg (C:=Cl n) (by intro f cdv A outer s H E h; exact @ED P w K mg base n (Cl n) f cdv A outer s H E c T G h)
  have c295:ae P w K mg base (n+1) (Cl (n+1)) "longest_row" 295 []:=d295.s bg C9 (C:=Cl n) (by intro f cdv A outer s H E h; exact @EJ P w K mg base n (Cl n) f cdv A outer s H E c T G h)
  have c296:ae P w K mg base (n+1) (Cl (n+1)) "in_order" 296 []:=d296.s bN CS (C:=Cl n) (by intro f cdv A outer s H E h; exact @Ft P w K mg base n (Cl n) f cdv A outer s H E c T G h)
  have c179:ae P w K mg base (n+1) (Cl (n+1)) "_law_tape" 179 []:=d179.s bU DW (C:=Cl n) (by intro f cdv A outer s H E h; exact @Fb P w K mg base n (Cl n) f cdv A outer s H E c T G h)
  have c201:ae P w K mg base (n+1) (Cl (n+1)) "_law_draw" 201 [0]:=d201.s bz Cb (C:=Cl n) (by intro f cdv A outer s H E h; exact @EH P w K mg base n (Cl n) f cdv A outer s H E c T G h)
  have c278:ae P w K mg base (n+1) (Cl (n+1)) "_law_waits" 278 [0]:=d278.s f_law_waits Cw (C:=Cl n) (by intro f cdv A outer s H E h; exact @Fu P w K mg base n (Cl n) f cdv A outer s H E c T G h)
  have c279:ae P w K mg base (n+1) (Cl (n+1)) "_law_hands" 279 [0]:=d279.s bE B6 (C:=Cl n) (by intro f cdv A outer s H E h; exact @FO P w K mg base n (Cl n) f cdv A outer s H E c T G h)
  have c272:ae P w K mg base (n+1) (Cl (n+1)) "_law_whole" 272 []:=d272.s bG Dl (C:=Cl n) (by intro f cdv A outer s H E h; exact @Gb P w K mg base n (Cl n) f cdv A outer s H E c T G h)
  have c286:ae P w K mg base (n+1) (Cl (n+1)) "_law_longest" 286 []:=d286.s bb Et (C:=Cl n) (by intro f cdv A outer s H E h; exact @EL P w K mg base n (Cl n) f cdv A outer s H E c T G h)
  have c287:ae P w K mg base (n+1) (Cl (n+1)) "_law_is_row" 287 []:=d287.s bp DF (C:=Cl n) (by intro f cdv A outer s H E h; exact @EM P w K mg base n (Cl n) f cdv A outer s H E c T G h)
  ⟨c263,c264,c265,c290,c294,c266,c267,c268,c295,c296,c179,c201,c278,c279,c272,c286,c287⟩
end
theorem pure_law:∀ ns:List Int,ns.length<=63->∃ m bs,Cl 40 0 [(.d,.scr ns)]=.ok ((m,.bl true),bs):=fun ns _=>P76.pure_law ns
theorem all_mk {l:a2z}{w:World}{K:a0a}{h:Heap}{mg:Str->Option Value}{fa:Addr}(X:K.In h)(G:h.Ns mainGlobals mg)(hfa:mg "law"=some (.ref fa))(r263:Raw K "alike" qv .none)(r264:Raw K "sort_of" rA .none)(r265:Raw K "are_numbers" pM .none)(r290:Raw K "those_behind" rq .none)(r294:Raw K "shown" oE .none)(r266:Raw K "shows" qK .none)(r267:Raw K "least_by_width" rR .none)(r268:Raw K "is_waiting_row" qH .none)(r295:Raw K "longest_row" pR .none)(r296:Raw K "in_order" qd .none)(r179:Raw K "_law_tape" rZ .none)(r201:Raw K "_law_draw" pw .none)(r278:Raw K "_law_waits" qS .none)(r279:Raw K "_law_hands" oW .none)(r272:Raw K "_law_whole" qt .none)(r286:Raw K "_law_longest" qN .none)(r287:Raw K "_law_is_row" qQ .none)(r0:Raw K "law" s0 .none)   (tx:zv K ["isinstance","int","tuple","list","bool","sum","len","all","zip","range","enumerate","any","max","min","sorted","str","repr","abs","dict","set","reversed"]) :
  ∃ fd:FuncData,(∀ (s:Shared) (v:Value),BindsTo s fd ⟨[v],[]⟩ [("_law_script",v)])/\∀ base:Heap,K.In base->base.Ns mainGlobals mg->dJ l.prog w K mg base CX0 40 fa fd ["_law_script"] (spS K (Cl 40) 0 []):=by
 have d263:Df K mg "alike" qv ["one","other"]:=bD X G r263 fun _ _ _ _ _ _ us hl=>match us,hl with | [_,_],_=>rfl
 have d264:Df K mg "sort_of" rA ["thing"]:=bD X G r264 fun _ _ _ _ _ _ us hl=>match us,hl with | [_],_=>rfl
 have d265:Df K mg "are_numbers" pM ["thing"]:=bD X G r265 fun _ _ _ _ _ _ us hl=>match us,hl with | [_],_=>rfl
 have d290:Df K mg "those_behind" rq ["steps"]:=bD X G r290 fun _ _ _ _ _ _ us hl=>match us,hl with | [_],_=>rfl
 have d294:Df K mg "shown" oE ["steps","hands"]:=bD X G r294 fun _ _ _ _ _ _ us hl=>match us,hl with | [_,_],_=>rfl
 have d266:Df K mg "shows" qK ["steps","hands","thing"]:=bD X G r266 fun _ _ _ _ _ _ us hl=>match us,hl with | [_,_,_],_=>rfl
 have d267:Df K mg "least_by_width" rR ["steps","hands"]:=bD X G r267 fun _ _ _ _ _ _ us hl=>match us,hl with | [_,_],_=>rfl
 have d268:Df K mg "is_waiting_row" qH ["steps","thing"]:=bD X G r268 fun _ _ _ _ _ _ us hl=>match us,hl with | [_,_],_=>rfl
 have d295:Df K mg "longest_row" pR ["steps"]:=bD X G r295 fun _ _ _ _ _ _ us hl=>match us,hl with | [_],_=>rfl
 have d296:Df K mg "in_order" qd ["steps"]:=bD X G r296 fun _ _ _ _ _ _ us hl=>match us,hl with | [_],_=>rfl
 have d179:Df K mg "_law_tape" rZ ["_law_script"]:=bD X G r179 fun _ _ _ _ _ _ us hl=>match us,hl with | [_],_=>rfl
 have d201:Df K mg "_law_draw" pw ["_law_tape_here","_law_many"]:=bD X G r201 fun _ _ _ _ _ _ us hl=>match us,hl with | [_,_],_=>rfl
 have d278:Df K mg "_law_waits" qS ["_law_tape_here"]:=bD X G r278 fun _ _ _ _ _ _ us hl=>match us,hl with | [_],_=>rfl
 have d279:Df K mg "_law_hands" oW ["_law_tape_here"]:=bD X G r279 fun _ _ _ _ _ _ us hl=>match us,hl with | [_],_=>rfl
 have d272:Df K mg "_law_whole" qt ["_law_thing"]:=bD X G r272 fun _ _ _ _ _ _ us hl=>match us,hl with | [_],_=>rfl
 have d286:Df K mg "_law_longest" qN ["_law_steps"]:=bD X G r286 fun _ _ _ _ _ _ us hl=>match us,hl with | [_],_=>rfl
 have d287:Df K mg "_law_is_row" qQ ["_law_steps","_law_row"]:=bD X G r287 fun _ _ _ _ _ _ us hl=>match us,hl with | [_,_],_=>rfl
 have T:=xU X G tx
 have Gm:Glb K w mg:=⟨⟩
 exact v7 X G hfa r0 (fun _ _ _ _ _ _ _ _=>.of_eq rfl) fun f fd F base=>Fun.okM F S0 rfl (by decide) (by decide) (by decide) (fun _ _ _ _ _ _ h=>D0 (all d263 d264 d265 d290 d294 d266 d267 d268 d295 d296 d179 d201 d278 d279 d272 d286 d287  T Gm 39) T Gm h) fun _=>rfl
end A76

set_option maxHeartbeats 0
namespace H76
open PySem PySem.W TP
noncomputable abbrev pr:Program:=PySem.Challenge.pw_broadrow_k76_what_shows_the_least
noncomputable def tn (i:Nat):Stmt:=pr.main.body.getD i (.Pass p0)
noncomputable def rc:List Rc:=[.m,
.d,
.d,
.d,
.m,
.d,
.d,
.d,
.d,
.d,
.d,
.d,
.m,
.d,
.d,
.d,
.d,
.d,
.d,
.d,
.d,
.d]
theorem c0 (w:World):Cut pr rc 0 15 187 p0 22 560 126 329 ⟨131,0,151,39⟩ w:=fun o=>by kernel_rfl
theorem ch:Ch pr rc 22 126 329 0 15 187 p0 (560+(2)):=uS c0 (yp (by kernel_rfl))
noncomputable def q:Program:=view pr [21]
noncomputable def lo:List Str:=(["alike","sort_of","are_numbers","those_behind","shown","shows","least_by_width","is_waiting_row","longest_row","in_order","_law_tape","_law_draw","_law_waits","_law_hands","_law_can","_law_whole","_law_longest","_law_is_row"]:List String).map Str.ofString
noncomputable def as:List Addr:=[3,20,21,27,28,32,33,37,38,44,45,51,52,56,57,61,62,66,67,71,72,78,79,85,86,90,91,97,98,102,103,109,110,114,115,119,120,124,125]
noncomputable def K:Params->Frag:=kK pr rc 22 as
noncomputable def hk:Hook:=hkk pr rc 22 126
noncomputable abbrev Xt (s:Shared):Bool:=xlAt q [] s&&recOk (RowW.records (OpenRow.toRowW (OpenLaw.row PySem.Challenge.rw_broadrow_k76_what_shows_the_least))) s
theorem kin (w:World)(h:Heap)(Y:hk.says w h):(K w.params).In h:=F9 (by kernel_rfl) (by kernel_rfl) Y
theorem lk (w:World):(fun o=>((staticsOk (importedModules pr.main.body) (boot_heap w.params) (hp pr rc 22 126 w.params)&&namesBound pr (hp pr rc 22 126 w.params)&&gensDone ⟨hp pr rc 22 126 w.params,#[],{},329,o⟩&&laidKept (boot_heap w.params) (hp pr rc 22 126 w.params)),openSeen q lo (importedModules pr.main.body) Xt true ⟨hp pr rc 22 126 w.params,#[],{},329,o⟩,Hook.obs hk ⟨hp pr rc 22 126 w.params,#[],{},329,o⟩))=fun _=>(true,openGood q lo,Hook.val hk w):=by kernel_rfl
theorem e1:opening pr=plainProg pr.main.scope.names:=by kernel_rfl
theorem e2:behindTheImports pr=pr.main.body:=by kernel_rfl
theorem e3 (s:Shared):fenceModules? pr s=some s:=by kernel_rfl
theorem pre (w:World)(o:OsState):topGo treeTable pr w 11 an 12 ⟨boot_heap w.params,a3C [],boot_drawn,boot_toks,o⟩ (topStub pr)=some ((sT pr rc w.params 0 15 187 o).abs,⟨denote treeTable (cE pr),cE pr,p0,B0⟩):=by kernel_rfl
theorem blk (w:World)(o:OsState):segRun treeTable pr w 11 an 1 1 (sT pr rc w.params 0 15 187 o).abs (blockOf (behindTheImports pr) (ev pr) (cE pr) p0 B0)=some (.next,(sT pr rc w.params 0 15 187 o).abs,cE pr,p0):=by kernel_rfl
theorem left:LeftO pr q lo Xt (Hook.obs hk) (Hook.val hk) 1244:=ua e1 (by kernel_rfl) e3 e2 wU pre blk ch (by kernel_rfl) lk
end H76

set_option maxHeartbeats 4000000
open PySem PySem.W PyProof.Rows
set_option maxRecDepth 100000 in
set_option maxHeartbeats 0 in
theorem PySem.Challenge.cw_broadrow_k76_what_shows_the_least_holds : PySem.Challenge.rw_broadrow_k76_what_shows_the_least.Holds := by
 w_on; o_law
 refine holds_open (q:=H76.q) (loose:=H76.lo) (Xt:=H76.Xt) (XP:=XL H76.q []) (Yf:=Hook.obs H76.hk) (Ya:=Hook.val H76.hk) (YP:=Hook.says H76.hk) (N:=1244) (d:=TP.drec (H76.tn 21)) (kwd:=[]) H76.left (Hook.of H76.hk) (Hook.keeps H76.hk) (fun s e=>xl_of s (a1Q.mp e).1) XL.keeps (by kernel_rfl) (by kernel_rfl) (by kernel_rfl) (fun s e=>recFacts_of (a1Q.mp e).2) (by rfl) (by first | assumption | decide +kernel) (by decide +kernel) ⟨rfl,rfl,rfl,rfl,rfl,by decide +kernel⟩ ?hw ?hc
 case hw=>w_witness2
 refine MR.walkX (sx:="_law_script") (l:=PySem.Challenge.rw_broadrow_k76_what_shows_the_least) (k:=40) (C:=A76.Cl 40) (ix:=0) (K:=H76.K) A76.pure_law rfl (by kernel_rfl) ⟨rfl,by decide,by decide,rfl⟩ H76.kin ?F
 case F =>
  intro w mg fa h KX G hmg
  refine' A76.all_mk KX G hmg ?zr263 ?zr264 ?zr265 ?zr290 ?zr294 ?zr266 ?zr267 ?zr268 ?zr295 ?zr296 ?zr179 ?zr201 ?zr278 ?zr279 ?zr272 ?zr286 ?zr287 ?zr0   ?ztx
  case ztx=>refine' ⟨?_,?_,?_,?_,?_,?_,?_,?_,?_,?_,?_,?_,?_,?_,?_,?_,?_,?_,?_,?_,?_,trivial⟩<;>kernel_rfl
  all_goals exact TP.raw_mk (by kernel_rfl) (by kernel_rfl) (by kernel_rfl) (by kernel_rfl)
