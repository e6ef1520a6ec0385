import PyProof.Rows.All
import Wide.All
import OpenK.AllK
import Wide.FinOn
import Lean
import PyProof.EqAt
import PyProof.EqKinds
import PyProof.TupleCall
import PySem.Challenge.RW_broadrow_k44_rows_joined_flattened_and_c
open PySem.W renaming Frag → a0a, kia_one → a0W, kia_tup → a0Z, fnOf → a05, kitOne → a09, keepIn → a1a, kitx_list → a1P, codeIn → a1W, kitAny → a1X, kitx_tuple → a15, mg_of → a19, nsIn → a2i, methodObj → a2E, kitx_none → a2F, kitx_bool → a2G, kitx_int → a2O, kitx_str → a2P, cellsFrom_some → a2V, instObj → a2Z, OpenLaw → a22, lookIn → a28, callWith_K → a3h, kitx_dict → a3n, plainGet → a3s, KeysLit → a3A, findIn → a3E, WalkO → a3I
open List renaming length_map → a0b, mem_cons_of_mem → a0c, mem_cons_self → a0d, replicate → a0e, length_cons → a0f, length_append → a0g, getD_eq_getElem?_getD → a0i, getElem?_eq_getElem → a0k, mem_cons → a0l, size_toArray → a0m, map_cons → a0n, mem_append_right → a0p, getElem?_eq_some_iff → a0q, mem_map → a0t, nil_append → a0u, map_map → a0v, mem_singleton → a0w, getElem?_map → a0x, append_nil → a0y, length_replicate → a0z, length_singleton → a0A, range → a0B, append_assoc → a0C, getElem?_cons_succ → a0D, mem_append_left → a0E, flatMap_cons → a0F, getElem?_append_right → a0I, not_mem_nil → a0K, all_eq_true → a0L, takeWhile_cons_of_pos → a0M, takeWhile_cons_of_neg → a0N, mem_append → a0O, any_cons → a0P, map_append → a0Q, getElem?_append_left → a0R, all_cons → a0T, replicate_succ → a0V, take_append_drop → a00, length_take → a01, cons_append → a02, flatten_cons → a03, filterMap_cons → a06, flatMap_append → a07, any_nil → a08, getElem?_cons_zero → a1c, length_drop → a1e, take_of_length_le → a1i, length_range → a1l, count_append → a1n, map_nil → a1p, length_nil → a1q, getLast?_singleton → a1v, nodup_cons → a1y, map_congr_left → a1z, lookup_cons → a1A, map_take → a1C, drop_eq_getElem_cons → a1E, getLast?_append → a1F, length → a1H, drop_of_length_le → a1M, set_cons_zero → a1N, sum_cons → a1R, getElem?_set_ne → a1S, mem_of_getElem? → a1T, mem_range → a1V, flatMap_map → a10, of_mem_zip → a16, getElem?_replicate → a17, map_replicate → a18, drop → a2b, getElem?_set_self → a2c, takeWhile_sublist → a2e, nodup_nil → a2f, getElem?_eq_none → a2j, take → a2k, getElem_mem → a2l, zipIdx_cons → a2m, mem_of_mem_take → a2o, length_set → a2q, sum_append → a2r, forIn_cons → a2s, zipIdx_nil → a2t, getElem?_range → a2u, length_pos_iff → a2v, set_cons_succ → a2y, takeWhile_nil → a2A, mem_replicate → a2B, forIn_nil → a2C, count_replicate_self → a2D, nodup_append → a2J, length_eq_zero_iff → a2N, drop_length → a2S, mem_flatMap → a2T, flatMap_nil → a2U, sum_replicate_nat → a2X, count_replicate → a26, mem_of_mem_drop → a27, drop_drop → a29, take_left → a3a, getElem_of_mem → a3c, length_flatten → a3d, take_succ_cons → a3e, mem_filterMap → a3f, take_nil → a3i, any_eq_false → a3m, take_length → a3w, any_eq_true → a3x, mem_filter → a3y, drop_zero → a3F, foldl → a3G, drop_nil → a3J, map → a3M
open Nat renaming le_refl → a0h, le_trans → a0o, lt_of_lt_of_le → a0r, ne_of_lt → a0J, zero_le → a0Y, zero_add → a1f, mul_le_mul → a1o, lt_irrefl → a1s, ne_of_gt → a1w, succ_mul → a1B, add_sub_cancel_left → a1I, mul_le_mul_right → a1U, succ_le_succ → a1Y, min_eq_right → a1Z, min_eq_left → a2a, lt_of_le_of_lt → a2w, min_le_right → a2Q, le_add_right → a2R, le_of_lt → a20, add_comm → a21, le_of_ble_eq_true → a23, mul_comm → a3p, le_of_not_lt → a3u, lt_succ_self → a3v, add_zero → a3R, sub_self → a3S
open Bool renaming false_ne_true → a0j, and_eq_true → a0s, or_false → a0X, and_eq_true_iff → a1d, or_true → a1g, not_false → a1x, false_and → a1D, not_true → a1K, true_and → a1L, bne_false → a2g, true_or → a3r, eq_iff_iff → a3z, or_eq_true → a3B
open Option.some renaming inj → a0G, injEq → a2I
open True renaming intro → a0H
open PyProof.Rows renaming boot_list → a0S, slot_tuple_getitem → a0U, boot_tuple → a04, callWith_type1 → a1b, boot_isinstance → a1t, boot_bool → a2Y, callWith_builtin1 → a3o, boot_range → a3K, eq_dataH → a3P, ne_dataH → a3Q
open Or renaming inr → a1h, inl → a1r
open Array renaming length_toList → a1j, all_eq_true' → a2x, find?_toList → a3g, mk → a3L, toList → a3O
open PySem renaming mem_of_lookup → a1k, call → a3H, Within → a3N
open Function renaming comp_apply → a1m
open Option renaming bind_eq_some_iff → a1u, isSome_iff_exists → a11, map_eq_some_iff → a2d, some_or → a2h, bind_some → a2n, map_some → a25, toList_none → a3j, getD_none → a3t
open Int renaming toNat_natCast → a1G, emod_lt_of_pos → a2z, emod_nonneg → a24, le_refl → a3C, natCast_add → a3D
open PySem.F renaming plainAttrs_list → a1J, slot_list_append → a12, type_list_append → a13, args_tuple_add_2 → a2H, entry_tuple_add → a2L, slot_tuple_add → a2W
open False renaming elim → a1O
open Prod renaming snd → a1Q, fst → a2p
open Nat.succ renaming inj → a14
open Ne renaming symm → a2K
open And renaming left → a2M
open Prod.mk renaming inj → a3b
open Sum renaming inl → a3k, inr → a3l
open Classical renaming em → a3q
open List.Pairwise renaming nil → a3T
set_option genSizeOf false
set_option genInjectivity false
set_option Elab.async false
set_option linter.all false
set_option maxRecDepth 100000
namespace L2
open PySem PySem.Spec PyProof.Rows
noncomputable abbrev Key:=Sum Int Str
noncomputable def xE:Key->Value->Bool
 | .inl k,v=>Value.isInt k v
 | .inr x,v=>Value.isStrOf x v
noncomputable def En (w:World):Key->Int
 | .inl k=>hashInt k
 | .inr x=>hashStr w x
theorem aP:∀ {k:Key} {v:Value},xE k v=true->(∃ i t,k=a3k i/\v=Value.int i t)\/(∃ x t,k=a3l x/\v=Value.str x t)
 | .inl i,v,h=>by
  obtain ⟨t,e⟩:=Value.isInt_shape (k:=i) (v:=v) h
  exact .inl ⟨i,t,rfl,e⟩
 | .inr x,v,h=>by
  obtain ⟨t,e⟩:=Value.isStrOf_shape (x:=x) (v:=v) h
  exact .inr ⟨x,t,rfl,e⟩
theorem y9 (a b:Int):decide ((a3k a:Key)=a3k b)=(a==b):=by
 by_cases e:a=b
 ·subst e; simp
 ·have h:¬ (a3k a:Key)=a3k b:=fun q=>e (Sum.inl.inj q)
  rw [decide_eq_false h]
  exact (beq_eq_false_iff_ne.mpr e).symm
theorem Bc (a b:Str):decide ((a3l a:Key)=a3l b)=decide (a=b):=by
 by_cases e:a=b
 ·subst e; simp
 ·have h:¬ (a3l a:Key)=a3l b:=fun q=>e (Sum.inr.inj q)
  rw [decide_eq_false h,decide_eq_false e]
theorem yZ (a:Int)(b:Str):decide ((a3k a:Key)=a3l b)=false:=decide_eq_false (fun q=>nomatch q)
theorem yj (a:Str)(b:Int):decide ((a3l a:Key)=a3k b)=false:=decide_eq_false (fun q=>nomatch q)
noncomputable def j8 (prog:Program)(w:World):PySem.KeyKind prog w Key where
 is:=xE
 hash:=En w
 inj:=fun v a b ha hb=>by
  rcases aP ha with ⟨i,t,rfl,rfl⟩ | ⟨x,t,rfl,rfl⟩
  ·rcases aP hb with ⟨j,u,rfl,e⟩ | ⟨y,u,rfl,e⟩
   ·injection e with e1 _; rw [e1]
   ·exact nomatch e
  ·rcases aP hb with ⟨j,u,rfl,e⟩ | ⟨y,u,rfl,e⟩
   ·exact nomatch e
   ·injection e with e1 _; rw [e1]
 byValue:=fun k v h=>by
  rcases aP h with ⟨i,t,rfl,rfl⟩ | ⟨x,t,rfl,rfl⟩<;>rfl
 pyHash:=fun hv h=>by
  rcases aP hv with ⟨i,t,rfl,rfl⟩ | ⟨x,t,rfl,rfl⟩
  ·exact wpAny_pyHash_int h
  ·exact wpAny_pyHash_str h
 eqBool:=fun hu hv h=>by
  rcases aP hu with ⟨i,t,rfl,rfl⟩ | ⟨x,t,rfl,rfl⟩
  ·rcases aP hv with ⟨j,u,rfl,rfl⟩ | ⟨y,u,rfl,rfl⟩
   ·rw [y9] at h; exact wpAny_eqBool_int h
   ·rw [yZ] at h; exact SeqAt.EqAt.int_str i t y u _ _ _ _ h
  ·rcases aP hv with ⟨j,u,rfl,rfl⟩ | ⟨y,u,rfl,rfl⟩
   ·rw [yj] at h; exact SeqAt.EqAt.str_int x t j u _ _ _ _ h
   ·rw [Bc] at h; exact wpAny_eqBool_str h
 «strs»:=fun k x t v h=>by
  rcases aP h with ⟨i,u,rfl,e⟩ | ⟨y,u,rfl,e⟩
  ·exact nomatch e
  ·injection e with e1 _
   subst e1
   cases v<;>rfl
end L2
namespace L2
open PySem PySem.Spec PyProof.Rows
set_option genInjectivity true
inductive V where
 | non | bl (b:Bool) | int (i:Int) | str (x:Str) | byt (b:Array UInt8) | flt (b:UInt64) | ref (a:Addr) | ty (n:String)
 deriving DecidableEq
set_option genInjectivity false
noncomputable def RelV:V->Value->Prop
 | .non,u=>u=Value.none
 | .bl b,u=>u=Value.bool b
 | .int i,u=>∃ t,u=Value.int i t
 | .str x,u=>∃ t,u=Value.str x t
 | .byt b,u=>∃ t,u=Value.bytes b t
 | .flt b,u=>∃ t,u=Value.float b t
 | .ref a,u=>u=Value.ref a
 | .ty n,u=>u=Value.type n
noncomputable abbrev Vals:List V->List Value->Prop:=Paired RelV
theorem Vals.length {xs:List V}{us:List Value}(r:Vals xs us):xs.length=us.length:=Paired.length r
theorem Vals.get:∀ {xs:List V} {us:List Value} {i:Nat} {x:V},Vals xs us->xs[i]?=some x->∃ u,us[i]?=some u/\RelV x u
 | _,_,_,_,.nil,e=>by simp at e
 | _,_,0,_,.cons r _,e=>by simp at e; subst e; exact ⟨_,rfl,r⟩
 | _,_,i+1,x,.cons _ t,e=>by
  obtain ⟨u,h1,h2⟩:=Vals.get (i:=i) (x:=x) t (by simpa using e)
  exact ⟨u,by simpa using h1,h2⟩
theorem Vals.set {x:V}{u:Value}(r:RelV x u):∀ {xs:List V} {us:List Value} (i:Nat),Vals xs us->Vals (xs.set i x) (us.set i u)
 | _,_,_,.nil=>.nil
 | _,_,0,.cons _ t=>.cons r t
 | _,_,i+1,.cons q t=>.cons q (Vals.set r i t)
theorem Vals.append:∀ {xs ys:List V} {us ws:List Value},Vals xs us->Vals ys ws->Vals (xs++ys) (us++ws)
 | _,_,_,_,.nil,s=>s
 | _,_,_,_,.cons r t,s=>.cons r (Vals.append t s)
theorem Vals.take:∀ {xs:List V} {us:List Value} (n:Nat),Vals xs us->Vals (xs.take n) (us.take n)
 | _,_,0,_=>.nil
 | _,_,_+1,.nil=>.nil
 | _,_,n+1,.cons r t=>.cons r (Vals.take n t)
theorem Vals.drop:∀ {xs:List V} {us:List Value} (n:Nat),Vals xs us->Vals (xs.drop n) (us.drop n)
 | _,_,0,r=>r
 | _,_,_+1,.nil=>.nil
 | _,_,n+1,.cons _ t=>Vals.drop n t
noncomputable def RelO:Option V->Option Value->Prop
 | some v,some u=>RelV v u
 | none,none=>True
 | _,_=>False
noncomputable def KV {κ:Type}:List (κ×V)->List (κ×Value)->Prop:=Paired fun (p:κ×V) (q:κ×Value)=>p.1=q.1/\RelV p.2 q.2
noncomputable def kV:Key->V
 | .inl i=>.int i
 | .inr x=>.str x
inductive HO where
 | lst (xs:List V)
 | tup (xs:List V)
 | dK (kvs:List (Key×V)) | dT (kvs:List (List Key×V))
 | set (S:Int->Bool) (n:Nat)
 | ins (C dx:Addr) (fs:List (Str×V))
 | own (x:Addr)
 | xd (fs:List (Str×V))
 | met (f x:Addr)
 | rng (lo hi:Int)
 | frz (o:Obj) (u:HO)
 | tbl (ps:Array Value)
 | ext (φ:Heap->Prop)
noncomputable abbrev Hp:=Addr->Option HO
noncomputable def upd (H:Hp)(a:Addr)(o:HO):Hp:=fun b=>if b=a then some o else H b
theorem ak {H:Hp}{a:Addr}{o:HO}:upd H a o a=some o:=by unfold upd; rw [if_pos rfl]
theorem ai {H:Hp}{a b:Addr}{o:HO}(h:b≠a):upd H a o b=H b:=by unfold upd; rw [if_neg h]
theorem aI {H:Hp}{a b:Addr}{o:HO}(h:H a=some o)(h':H b=none):a≠b:=by
 intro e; subst e; rw [h] at h'; cases h'
section
variable (P:Program)(w:World)
noncomputable def ObjOk (H:Hp)(h:Heap)(a:Addr):HO->Prop
 | .lst xs=>xs.length<=sizeLine/\∃ (its:List Value) (n:Nat),Vals xs its/\h.get? a=some { cls:=.type "list",data:=.seq its.toArray n }
 | .tup xs=>xs.length<=sizeLine/\∃ its:List Value,Vals xs its/\IsTup h a its.toArray
 | .dK kvs=>kvs.length<=sizeLine/\(a==sysModules)=false/\∃ vs,KV kvs vs/\h.DictOf (j8 P w) a vs
 | .dT kvs=>kvs.length<=sizeLine/\(a==sysModules)=false/\∃ xs:List (List Key×Addr×Value),
   Paired (fun (p:List Key×V) (q:List Key×Addr×Value)=>p.1=q.1/\H q.2.1=some (.tup (p.1.map kV))/\RelV p.2 q.2.2) kvs xs /\
   ∃ o es ep,h.get? a=some o/\o.ExactDict/\o.data=.dict es ep/\es.toList=xs.map (entryOfKey (tupleKind (j8 P w)))/\(xs.map (·.1)).Nodup
 | .set S n=>h.SetOf (intKind P w) a S n
 | .ins C dx fs=>H dx=some (.own a)/\fs.length<=1000/\dx≠a/\h.get? a=some (a2Z C dx) /\
   ∃ mA,h.Ns1 dx mA/\(∀ f,RelO (fs.lookup f) (mA f))/\a3N mA (fs.map (·.1))
 | .own _=>∃ o,h.get? a=some o
 | .xd fs=>∃ mA,h.Ns1 a mA/\∀ f,RelO (fs.lookup f) (mA f)
 | .rng lo hi=>∃ t u v,h.get? a=some { cls:=.type "range",data:=.fields #[.int lo t,.int hi u,.int 1 v] }
 | .frz o u=>h.get? a=some o/\ObjOk H h a u
 | .tbl ps=>h.get? a=some { cls:=.none,data:=.fields ps }
 | .met f x=>h.get? a=some (a2E (.ref f) (.ref x))
 | .ext φ=>φ h/\(∃ o,h.get? a=some o)/\∀ h1 h2:Heap,φ h1->(∀ o,h1.get? a=some o->h2.get? a=some o)->φ h2
noncomputable def HOk (H:Hp)(h:Heap):Prop:=∀ a o,H a=some o->ObjOk P w H h a o
end
section
variable {P:Program}{w:World}{H H':Hp}{h h':Heap}{a:Addr}{o:HO}
theorem ObjOk.lt (x:ObjOk P w H h a o):a < h.objs.size:=by
 cases o with
 | lst xs=>obtain ⟨_,_,_,_,e⟩:=x; exact Heap.lt_size e
 | tup xs=>obtain ⟨_,_,_,p⟩:=x; exact p.lt
 | dK kvs=>obtain ⟨_,_,_,_,o,_,_,e,_⟩:=x; exact Heap.lt_size e
 | dT kvs=>obtain ⟨_,_,_,_,o,_,_,e,_⟩:=x; exact Heap.lt_size e
 | set S n=>obtain ⟨o,_,_,_,e,_⟩:=x; exact Heap.lt_size e
 | ins C dx fs=>obtain ⟨_,_,_,e,_⟩:=x; exact Heap.lt_size e
 | own y=>obtain ⟨_,e⟩:=x; exact Heap.lt_size e
 | xd fs=>obtain ⟨_,⟨_,_,_,e,_⟩,_⟩:=x; exact Heap.lt_size e
 | rng lo hi=>obtain ⟨_,_,_,e⟩:=x; exact Heap.lt_size e
 | frz ob u=>obtain ⟨e,_⟩:=x; exact Heap.lt_size e
 | tbl ps=>exact Heap.lt_size (show h.get? a=some _ from x)
 | met f y=>exact Heap.lt_size (show h.get? a=some _ from x)
 | ext φ=>obtain ⟨_,⟨_,e⟩,_⟩:=x; exact Heap.lt_size e
theorem Paired.mapP {α β:Type}{F G:α->β->Prop}:∀ {l₁:List α} {l₂:List β},Paired F l₁ l₂->(∀ a b,F a b->G a b)->Paired G l₁ l₂
 | _,_,.nil,_=>.nil
 | _,_,.cons r t,f=>.cons (f _ _ r) (Paired.mapP t f)
theorem ObjOk.stay (x:ObjOk P w H h a o)(k:∀ b u,(b=a\/H b=some (.own a))->h.get? b=some u->h'.get? b=some u)
  (ho:∀ b,H b=some (.own a)->H' b=some (.own a)) (ht:∀ b xs,H b=some (.tup xs)->H' b=some (.tup xs)):ObjOk P w H' h' a o:=by
 induction o with
 | lst xs=>obtain ⟨z,its,n,r,e⟩:=x; exact ⟨z,its,n,r,k _ _ (.inl rfl) e⟩
 | tup xs=>obtain ⟨z,its,r,ob,e,c⟩:=x; exact ⟨z,its,r,ob,k _ _ (.inl rfl) e,c⟩
 | dK kvs=>obtain ⟨z,y,vs,r,ob,es,ep,e,c⟩:=x; exact ⟨z,y,vs,r,ob,es,ep,k _ _ (.inl rfl) e,c⟩
 | dT kvs =>
  obtain ⟨z,y,xs,r,ob,es,ep,e,c⟩:=x
  exact ⟨z,y,xs,Paired.mapP r fun p q z=>⟨z.1,ht _ _ z.2.1,z.2.2⟩,ob,es,ep,k _ _ (.inl rfl) e,c⟩
 | set S n=>obtain ⟨ob,es,ep,t,e,c⟩:=x; exact ⟨ob,es,ep,t,k _ _ (.inl rfl) e,c⟩
 | ins C dx fs =>
  obtain ⟨d,z,ne,e,mA,⟨od,es,ep,e2,c⟩,r⟩:=x
  exact ⟨ho _ d,z,ne,k _ _ (.inl rfl) e,mA,⟨od,es,ep,k _ _ (.inr d) e2,c⟩,r⟩
 | own y=>obtain ⟨ob,e⟩:=x; exact ⟨ob,k _ _ (.inl rfl) e⟩
 | xd fs=>obtain ⟨mA,⟨od,es,ep,e,c⟩,r⟩:=x; exact ⟨mA,⟨od,es,ep,k _ _ (.inl rfl) e,c⟩,r⟩
 | rng lo hi=>obtain ⟨t,u,v,e⟩:=x; exact ⟨t,u,v,k _ _ (.inl rfl) e⟩
 | frz ob u ih=>obtain ⟨e,q⟩:=x; exact ⟨k _ _ (.inl rfl) e,ih q⟩
 | tbl ps =>
  have e:h.get? a=some { cls:=.none,data:=.fields ps }:=x
  show h'.get? a=some { cls:=.none,data:=.fields ps }
  exact k a _ (.inl rfl) e
 | met f y =>
  have e:h.get? a=some (a2E (.ref f) (.ref y)):=x
  show h'.get? a=some (a2E (.ref f) (.ref y))
  exact k a _ (.inl rfl) e
 | ext φ=>obtain ⟨p,⟨o,e⟩,st⟩:=x; exact ⟨st _ _ p fun o q=>k _ _ (.inl rfl) q,⟨o,k _ _ (.inl rfl) e⟩,st⟩
theorem HOk.lt (x:HOk P w H h)(e:H a=some o):a < h.objs.size:=(x a o e).lt
theorem HOk.fresh (x:HOk P w H h)(e:h.objs.size<=a):H a=none:=by
 cases q:H a with
 | none=>rfl
 | some u=>exact absurd (a0r (x.lt q) e) (a1s _)
theorem HOk.kept (x:HOk P w H h)(k:∀ b u,h.get? b=some u->h'.get? b=some u):HOk P w H h':=fun a o e =>
 (x a o e).stay (fun b u _ q=>k b u q) (fun _ q=>q) fun _ _ q=>q
theorem HOk.laid (x:HOk P w H h)(k:∀ b u,h.get? b=some u->h'.get? b=some u)(hp:h.objs.size<=a)(new:ObjOk P w (upd H a o) h' a o):HOk P w (upd H a o) h':=fun b u e=>by
 have hn:=x.fresh hp
 by_cases hb:b=a
 ·subst hb; rw [ak] at e; cases e; exact new
 ·rw [ai hb] at e
  exact (x b u e).stay (fun c v _ q=>k c v q) (fun c q=>by rw [ai (aI q hn)]; exact q) fun c xs q=>by rw [ai (aI q hn)]; exact q
end
noncomputable def Rd (H:Hp)(a:Addr)(u:HO):Prop:=H a=some u\/∃ o,H a=some (.frz o u)
theorem Rd.ok {P:Program}{w:World}{H:Hp}{h:Heap}{a:Addr}{u:HO}(r:Rd H a u)(x:HOk P w H h):ObjOk P w H h a u:=by
 rcases r with r | ⟨o,r⟩
 ·exact x a u r
 ·obtain ⟨_,q⟩:=x a _ r
  exact q
noncomputable def Mut:Option HO->Prop
 | some (.lst _)=>True
 | some (.dK _)=>True
 | some (.dT _)=>True
 | some (.set _ _)=>True
 | some (.ins _ _ _)=>True
 | some (.ext _)=>True
 | _=>False
section
variable {P:Program}{w:World}{H:Hp}{h h':Heap}{x e:Addr}{o':HO}
theorem HOk.write (ok:HOk P w H h)(mu:Mut (H x))(he:e=x\/H e=some (.own x))(k:∀ b u,b≠e->h.get? b=some u->h'.get? b=some u)(heo:∃ u,h'.get? e=some u)
  (new:ObjOk P w (upd H x o') h' x o'):HOk P w (upd H x o') h':=fun b u q=>by
 have nown:∀ c y,H c=some (.own y)->c≠x:=fun c y r z=>by subst z; rw [r] at mu; exact mu
 have ntup:∀ c xs,H c=some (.tup xs)->c≠x:=fun c xs r z=>by subst z; rw [r] at mu; exact mu
 by_cases hb:b=x
 ·subst hb; rw [ak] at q; cases q; exact new
 ·rw [ai hb] at q
  by_cases hbe:b=e
  ·have q':H b=some (.own x):=by
    rcases he with z | z
    ·exact absurd (hbe.trans z) hb
    ·rw [hbe]; exact z
   rw [q] at q'; cases q'
   obtain ⟨v,hv⟩:=heo
   exact ⟨v,by rw [hbe]; exact hv⟩
  ·refine (ok b u q).stay (fun c v hc r=>k c v ?_ r) (fun c r=>by rw [ai (nown c b r)]; exact r) fun c xs r=>by rw [ai (ntup c xs r)]; exact r
   rcases hc with rfl | hc
   ·exact hbe
   ·rintro rfl
    rcases he with z | z
    ·exact nown c b hc z
    ·rw [hc] at z; cases z; exact hb rfl
end
structure Un (fs ex:List Addr)(H H':Hp)(h h':Heap):Prop where
 keep:∀ b o,h.get? b=some o->H b=none->b ∉ fs->b ∉ ex->h'.get? b=some o
 slot:∀ b o,h.get? b=some o->H b=none->b∈fs->b ∉ ex->∃ sl,h'.get? b=some { o with slots:=sl }
 free:∀ b o,h.get? b=some o->H b=none->b ∉ ex->H' b=none
 there:∀ b o,h.get? b=some o->b ∉ ex->∃ o',h'.get? b=some o'
 tups:∀ b xs,H b=some (.tup xs)->H' b=some (.tup xs)
 frzs:∀ b o u,H b=some (.frz o u)->H' b=some (.frz o u)
 tbls:∀ b ps,H b=some (.tbl ps)->∃ more,H' b=some (.tbl (ps++more))
section
variable {fs fs' ex ex':List Addr}{H H1 H2:Hp}{h h1 h2 h':Heap}{a x e:Addr}{o:HO}
theorem Un.any (u:Un fs ex H H1 h h1){b:Addr}{ob:Obj}(q:h.get? b=some ob)(n:H b=none)(hx:b ∉ ex):∃ sl,h1.get? b=some { ob with slots:=sl }:=by
 by_cases hb:b∈fs
 ·exact u.slot b ob q n hb hx
 ·exact ⟨ob.slots,u.keep b ob q n hb hx⟩
theorem Un.kept (k:∀ b u,h.get? b=some u->h'.get? b=some u):Un fs ex H H h h' :=
 ⟨fun b ob q _ _ _=>k b ob q,fun b ob q _ _ _=>⟨ob.slots,k b ob q⟩,fun _ _ _ n _=>n,fun b ob q _=>⟨ob,k b ob q⟩,fun _ _ q=>q,fun _ _ _ q=>q,fun _ ps q=>⟨#[],by rw [q]; simp⟩⟩
theorem Un.refl:Un fs ex H H h h:=Un.kept fun _ _ q=>q
theorem Un.laid (k:∀ b u,h.get? b=some u->h'.get? b=some u)(hp:h.objs.size<=a)(hn:H a=none):Un fs ex H (upd H a o) h h' where
 keep:=fun b u q _ _ _=>k b u q
 slot:=fun b u q _ _ _=>⟨u.slots,k b u q⟩
 free:=fun b u q n _=>by rw [ai (a0J (a0r (Heap.lt_size q) hp))]; exact n
 there:=fun b u q _=>⟨u,k b u q⟩
 tups:=fun b xs q=>by rw [ai (aI q hn)]; exact q
 frzs:=fun b u xs q=>by rw [ai (aI q hn)]; exact q
 tbls:=fun b ps q=>⟨#[],by rw [ai (aI q hn),q]; simp⟩
theorem Un.write (mu:Mut (H x))(he:e=x\/H e=some (.own x))(k:∀ b u,b≠e->h.get? b=some u->h'.get? b=some u)(heo:∃ u,h'.get? e=some u):Un fs ex H (upd H x o) h h':=by
 have hx:∀ b,H b=none->b≠x:=fun b n z=>by subst z; rw [n] at mu; exact mu
 have hb:∀ b,H b=none->b≠e:=fun b n z=>by
  subst z
  rcases he with r | r
  ·exact hx b n r
  ·rw [n] at r; cases r
 have hm:∀ b u,H b=some u->¬ Mut (some u)->b≠x:=fun b u q nm z=>by subst z; rw [q] at mu; exact nm mu
 refine ⟨fun b u q n _ _=>k b u (hb b n) q,fun b u q n _ _=>⟨u.slots,k b u (hb b n) q⟩,fun b u q n _=>by rw [ai (hx b n)]; exact n,fun b u q _=>?_,
  fun b xs q=>by rw [ai (hm b _ q fun z=>z)]; exact q,fun b u xs q=>by rw [ai (hm b _ q fun z=>z)]; exact q,fun b ps q=>⟨#[],by rw [ai (hm b _ q fun z=>z),q]; simp⟩⟩
 by_cases hbe:b=e
 ·subst hbe; exact heo
 ·exact ⟨u,k b u hbe q⟩
end
noncomputable def trk (h:Heap)(H:Hp):List Addr:=(a0B h.objs.size).filter fun a=>(H a).isSome
noncomputable def ke (h:Heap)(H:Hp):Heap:=PySem.W.hideAll h (trk h H)
theorem pd (h:Heap)(H:Hp):(ke h H).objs.size=h.objs.size:=PySem.W.hideAll_size _ _
theorem qd {h:Heap}{H:Hp}{b:Addr}{o:Obj}(e:h.get? b=some o)(n:H b=none):(ke h H).get? b=some o :=
 PySem.W.hideAll_get _ e fun hm=>by
  have q:(H b).isSome=true:=(a3y.mp hm).2
  rw [n] at q; simp at q
theorem wK {h:Heap}{H:Hp}{b:Addr}{o:Obj}(e:(ke h H).get? b=some o):h.get? b=some o/\H b=none:=by
 have e':h.get? b=some o:=PySem.W.of_hideAll (trk h H) e
 refine ⟨e',?_⟩
 cases q:H b with
 | none=>rfl
 | some x =>
  have hm:b∈trk h H:=a3y.mpr ⟨a1V.mpr (Heap.lt_size e'),by simp [q]⟩
  have z:(ke h H).get? b=none:=PySem.W.hideAll_none (trk h H) hm
  rw [z] at e; cases e
noncomputable def vG (g h:Heap)(L:Addr):List (Addr×Obj):=(a0B h.objs.size).filterMap fun a=>if a=L\/(g.get? a).isSome=true then none else (h.get? a).map fun o=>(a,o)
noncomputable def rest (g h:Heap)(L d:Addr):List (Addr×Obj):=(vG g h L).filter fun p=>decide (p.1≠d)
end L2
namespace L2
open PySem PySem.Spec PyProof.Rows
structure Mod (K:a0a)(mg:Str->Option Value)(base:Heap):Prop where
 kin:K.In base
 glob:base.Ns mainGlobals mg
 blt:∃ mb,base.Ns builtinsNs mb/\∀ x:Str,x≠"__name__"->mb x=bootBuiltins x
 nolimit:base.NoLimit
structure Cx where
 prog:Program
 w:World
 K:a0a
 mg:Str->Option Value
 base:Heap
 A:Around
 N:List Str
 s₀:Shared
 H₀:Hp
 env:Env
 outer:List Env
 stack:List Env
 ex:List Addr
 fn:Str->Bool
 calm:Bool
 pn:List (Addr×Obj)
 xe:Value->Shared->Prop
noncomputable def frs (l:List Env):List Addr:=l.filterMap (·.frame)
noncomputable abbrev Cx.fs (X:Cx):List Addr:=frs X.outer
noncomputable def Vis (sc:Scope)(x:Str):Prop:=sc.names.lookup x=some .local\/sc.names.lookup x=some .cell\/sc.names.lookup x=some .free
noncomputable def Loc (sc:Scope)(x:Str):Prop:=sc.names.lookup x=some .local\/sc.names.lookup x=some .cell
noncomputable def EA (env:Env)(h:Heap)(m:Str->Option Value)(x:Str)(u:Value):Prop :=
 (env.kindOf x=some .local/\m x=some u)\/((env.kindOf x=some .cell\/env.kindOf x=some .free)/\∃ c,env.cells.lookup x=some c/\h.IsCell c (some u))
structure Cx.Ok (X:Cx):Prop where
 mod:Mod X.K X.mg X.base
 kind:X.env.scope.kind=.function
 glob:X.env.globals=mainGlobals
 blt:X.env.builtins=builtinsNs
 above:X.s₀.heap.objs.size<=X.env.locals
 inj:∀ x y c,X.env.cells.lookup x=some c->X.env.cells.lookup y=some c->x=y
 has:∀ x,(X.env.kindOf x=some .cell\/X.env.kindOf x=some .free)->∃ c,X.env.cells.lookup x=some c
 cab:∀ x c,X.fn x=true->X.env.cells.lookup x=some c->X.s₀.heap.objs.size<=c
 hd:X.calm=true->X.A.handled=none
 frames:X.A.frames=some X.stack
 stk:X.stack=X.outer\/(X.stack=X.env::X.outer/\X.env.frame=some X.env.locals)
 exf:∀ b∈X.ex,b≠X.env.locals/\∀ x c,X.env.cells.lookup x=some c->c≠b
 bs:∀ b o,X.base.get? b=some o->X.s₀.heap.get? b=some o/\X.H₀ b=none
 bsz:X.base.objs.size<=X.s₀.heap.objs.size
 noex:∀ b o,X.base.get? b=some o->b ∉ X.ex
 exfs:∀ b∈X.ex,b ∉ X.fs
 funs:X.s₀.heap.FunFrames X.base X.outer
 frf:∀ b∈X.fs,X.H₀ b=none
structure Inv (X:Cx)(pins:List (Addr×Obj))(σ:List (Option V))(H:Hp)(s:Shared):Prop where
 ok:X.Ok
 os:s.os=X.s₀.os
 bare:AllBare s.gens
 base:Un X.fs X.ex X.H₀ H X.s₀.heap s.heap
 loc:∃ m,s.heap.Ns X.env.locals m/\∀ (i:Nat) (x:Str) (v:V),X.N[i]?=some x->σ[i]?=some (some v)->Vis X.env.scope x->∃ u,RelV v u/\EA X.env s.heap m x u
 cell:∀ x c,X.env.cells.lookup x=some c->∃ v,s.heap.IsCell c v
 free:H X.env.locals=none
 freeC:∀ x c,X.env.cells.lookup x=some c->H c=none
 pin:∀ p∈X.pn++pins,s.heap.get? p.1=some p.2/\H p.1=none/\p.1≠X.env.locals/\p.1 ∉ X.fs/\∀ v,p.2.data≠.cell v
 hok:HOk X.prog X.w H s.heap
 len:σ.length=X.N.length
section
variable {X:Cx}{pins:List (Addr×Obj)}{σ:List (Option V)}{H H':Hp}{s:Shared}{h':Heap}
theorem Cx.Ok.nofr (ok:X.Ok){b:Addr}{o:Obj}(e:X.base.get? b=some o):b ∉ X.fs:=fun hb=>by
 have:=(ok.funs.mem hb).1
 rw [e] at this; cases this
theorem Inv.bs (I:Inv X pins σ H s):∀ b o,X.base.get? b=some o->s.heap.get? b=some o/\H b=none:=fun b o e =>
 ⟨I.base.keep b o (I.ok.bs b o e).1 (I.ok.bs b o e).2 (I.ok.nofr e) (I.ok.noex b o e),I.base.free b o (I.ok.bs b o e).1 (I.ok.bs b o e).2 (I.ok.noex b o e)⟩
theorem Inv.bk (I:Inv X pins σ H s):∀ b o,X.base.get? b=some o->s.heap.get? b=some o:=fun b o e=>(I.bs b o e).1
theorem Inv.mod (I:Inv X pins σ H s):Mod X.K X.mg X.base:=I.ok.mod
theorem Inv.kIn (I:Inv X pins σ H s):X.K.In s.heap:=I.ok.mod.kin.keeps I.bk
theorem Inv.fr (I:Inv X pins σ H s):∃ m,Fr X.base X.env.locals s.heap m :=
 let ⟨m,hn,_⟩:=I.loc
 ⟨m,hn,I.bk,a0o I.ok.bsz I.ok.above⟩
theorem Inv.lt (I:Inv X pins σ H s):X.env.locals < s.heap.objs.size:=let ⟨_,hn,_⟩:=I.loc; hn.lt
theorem Inv.sz (I:Inv X pins σ H s):X.s₀.heap.objs.size<=s.heap.objs.size:=a0o I.ok.above (a20 I.lt)
theorem Inv.nofs (I:Inv X pins σ H s){a:Addr}(h:s.heap.objs.size<=a):a ∉ X.fs:=fun hb=>by
 obtain ⟨_,o,ho,_⟩:=I.ok.funs.mem hb
 exact absurd (a0r (Heap.lt_size ho) (a0o I.sz h)) (a1s _)
theorem Inv.cne (I:Inv X pins σ H s):∀ x c,X.env.cells.lookup x=some c->c≠X.env.locals:=fun x c e z=>by
 obtain ⟨v,o,ho,hd⟩:=I.cell x c e
 obtain ⟨m,⟨o',es,ep,ho',hd',_⟩,_⟩:=I.loc
 rw [z,ho'] at ho; cases ho; rw [hd'] at hd; cases hd
theorem Inv.funs (I:Inv X pins σ H s):s.heap.FunFrames X.base X.outer:=by
 have all:∀ (l:List Env),(∀ b∈frs l,b∈X.fs)->X.s₀.heap.FunFrames X.base l->s.heap.FunFrames X.base l:=by
  intro l
  induction l with
  | nil=>intro _ _; trivial
  | cons env r ih =>
   intro hs hl
   obtain ⟨hk,⟨L,o,hf,hn,ho,hd⟩,hr⟩:=hl
   have hL:L∈X.fs:=hs L (by unfold frs; rw [a06,hf]; exact a0d)
   obtain ⟨sl,e⟩:=I.base.slot L o ho (I.ok.frf L hL) hL fun z=>I.ok.exfs L z hL
   exact ⟨hk,⟨L,_,hf,hn,e,hd⟩,ih (fun b hb=>hs b (by unfold frs; rw [a06,hf]; exact a0c _ hb)) hr⟩
 exact all X.outer (fun _ hb=>hb) I.ok.funs
theorem Inv.stack (I:Inv X pins σ H s):s.heap.FunFrames X.base X.stack:=by
 rcases I.ok.stk with e | ⟨e,hf⟩
 ·rw [e]; exact I.funs
 ·rw [e]
  obtain ⟨m,hn,_⟩:=I.loc
  refine .cons (by rw [I.ok.kind]; decide) hf hn ?_ I.funs
  exact Heap.get?_none_of_le (a0o I.ok.bsz I.ok.above)
theorem Inv.stkSub (I:Inv X pins σ H s):∀ b∈frs X.stack,b∈X.env.locals::X.fs:=fun b hb=>by
 rcases I.ok.stk with e | ⟨e,hf⟩
 ·rw [e] at hb; exact a0c _ hb
 ·rw [e] at hb
  unfold frs at hb
  rw [a06,hf] at hb
  exact hb
theorem Inv.stkFree (I:Inv X pins σ H s):∀ b∈frs X.stack,H b=none:=fun b hb=>by
 rcases a0l.mp (I.stkSub b hb) with e | hb
 ·rw [e]; exact I.free
 ·obtain ⟨_,o,ho,_⟩:=I.ok.funs.mem hb
  exact I.base.free b o ho (I.ok.frf b hb) fun z=>I.ok.exfs b z hb
theorem Inv.step {g':Array GenState}{t':Nat}{d':Drawn}{ch:List Addr}(I:Inv X pins σ H s)
  (hch:∀ b∈ch,(b∈X.ex\/X.s₀.heap.objs.size<=b)/\b≠X.env.locals/\(∀ x c,X.env.cells.lookup x=some c->c≠b)/\∀ p∈X.pn++pins,p.1≠b)
  (keep:∀ b o,b≠X.env.locals->b ∉ X.fs->b ∉ ch->s.heap.get? b=some o->H b=none->h'.get? b=some o)
  (slot:∀ b o,b≠X.env.locals->b∈X.fs->b ∉ ch->s.heap.get? b=some o->H b=none->∃ sl,h'.get? b=some { o with slots:=sl }) (free:∀ b o,b ∉ ch->s.heap.get? b=some o->H b=none->H' b=none)
  (there:∀ b o,b ∉ ch->s.heap.get? b=some o->∃ o',h'.get? b=some o')
  (tups:∀ b xs,H b=some (.tup xs)->H' b=some (.tup xs)) (frzs:∀ b o u,H b=some (.frz o u)->H' b=some (.frz o u)) (tbls:∀ b ps,H b=some (.tbl ps)->∃ more,H' b=some (.tbl (ps++more)))
  (ns:∀ m,s.heap.Ns X.env.locals m->h'.Ns X.env.locals m) (hok:HOk X.prog X.w H' h') (hg:AllBare g') :
  Inv X pins σ H' { s with heap:=h',gens:=g',drawn:=d',toks:=t' }:=by
 have neL:∀ b o,X.s₀.heap.get? b=some o->b≠X.env.locals:=fun b o e=>a0J (a0r (Heap.lt_size e) I.ok.above)
 have neC:∀ b o,X.s₀.heap.get? b=some o->b ∉ X.ex->b ∉ ch:=fun b o e hx hb=>by
  rcases (hch b hb).1 with z | z
  ·exact hx z
  ·exact absurd (a0r (Heap.lt_size e) z) (a1s _)
 have cellK:∀ x c,X.env.cells.lookup x=some c->∀ v,s.heap.IsCell c v->h'.IsCell c v:=fun x c e v ⟨o,ho,hd⟩=>by
  have nch:c ∉ ch:=fun z=>(hch c z).2.2.1 x c e rfl
  by_cases hc:c∈X.fs
  ·obtain ⟨sl,q⟩:=slot c o (I.cne x c e) hc nch ho (I.freeC x c e)
   exact ⟨_,q,hd⟩
  ·exact ⟨o,keep c o (I.cne x c e) hc nch ho (I.freeC x c e),hd⟩
 refine ⟨I.ok,I.os,hg,⟨fun b o e n hb hx=>?_,fun b o e n hb hx=>?_,fun b o e n hx=>?_,fun b o e hx=>?_,fun b xs e=>tups b xs (I.base.tups b xs e),fun b o xs e=>frzs b o xs (I.base.frzs b o xs e),fun b ps e=>?_⟩,?_,fun x c e=>?_,?_,fun x c e=>?_,fun p hp=>?_,hok,I.len⟩
 ·exact keep b o (neL b o e) hb (neC b o e hx) (I.base.keep b o e n hb hx) (I.base.free b o e n hx)
 ·obtain ⟨sl,e1⟩:=I.base.slot b o e n hb hx
  obtain ⟨sl',e2⟩:=slot b _ (neL b o e) hb (neC b o e hx) e1 (I.base.free b o e n hx)
  exact ⟨sl',e2⟩
 ·obtain ⟨o',e1⟩:=I.base.there b o e hx
  exact free b o' (neC b o e hx) e1 (I.base.free b o e n hx)
 ·obtain ⟨o',e1⟩:=I.base.there b o e hx
  exact there b o' (neC b o e hx) e1
 ·obtain ⟨m1,e1⟩:=I.base.tbls b ps e
  obtain ⟨m2,e2⟩:=tbls b _ e1
  exact ⟨m1++m2,by rw [e2,Array.append_assoc]⟩
 ·obtain ⟨m,hn,hl⟩:=I.loc
  refine ⟨m,ns m hn,fun i x v e1 e2 e3=>?_⟩
  obtain ⟨u,r,l⟩:=hl i x v e1 e2 e3
  refine ⟨u,r,?_⟩
  rcases l with l | ⟨k,c,e,z⟩
  ·exact .inl l
  ·exact .inr ⟨k,c,e,cellK x c e _ z⟩
 ·obtain ⟨v,z⟩:=I.cell x c e
  exact ⟨v,cellK x c e v z⟩
 ·obtain ⟨m,⟨o,_,_,ho,_⟩,_⟩:=I.loc
  exact free _ o (fun z=>(hch _ z).2.1 rfl) ho I.free
 ·obtain ⟨v,o,ho,hd⟩:=I.cell x c e
  exact free c o (fun z=>(hch c z).2.2.1 x c e rfl) ho (I.freeC x c e)
 ·obtain ⟨e,n,ne,nf,d⟩:=I.pin p hp
  have nch:p.1 ∉ ch:=fun z=>(hch p.1 z).2.2.2 p hp rfl
  exact ⟨keep p.1 p.2 ne nf nch e n,free p.1 p.2 nch e n,ne,nf,d⟩
theorem Inv.un {t':Nat}(I:Inv X pins σ H s)(u:Un X.fs [] H H' s.heap h')(hok:HOk X.prog X.w H' h'):Inv X pins σ H' { s with heap:=h',toks:=t' }:=by
 obtain ⟨m,⟨o,es,ep,ho,r⟩,_⟩:=id I.loc
 obtain ⟨sl,hL⟩:=u.any ho I.free (by simp)
 exact I.step (g':=s.gens) (d':=s.drawn) (ch:=[]) (fun _ z=>nomatch z) (fun b o _ hb _ e n=>u.keep b o e n hb (by simp)) (fun b o _ hb _ e n=>u.slot b o e n hb (by simp)) (fun b o _ e n=>u.free b o e n (by simp)) (fun b o _ e=>u.there b o e (by simp)) u.tups u.frzs u.tbls (fun m' hm=>by
  obtain ⟨o',es',ep',ho',r'⟩:=hm
  rw [ho] at ho'; cases ho'
  exact ⟨_,es',ep',hL,r'⟩) hok I.bare
theorem Inv.call {g':Array GenState}{t':Nat}{d':Drawn}{ch:List Addr}(I:Inv X pins σ H s)(u:Un (frs X.stack) ch H H' s.heap h')(hok:HOk X.prog X.w H' h')(hg:AllBare g')
  (hch:∀ b∈ch,(b∈X.ex\/X.s₀.heap.objs.size<=b)/\b≠X.env.locals/\(∀ x c,X.env.cells.lookup x=some c->c≠b)/\∀ p∈X.pn++pins,p.1≠b) :
  Inv X pins σ H' { s with heap:=h',gens:=g',drawn:=d',toks:=t' }:=by
 obtain ⟨m,⟨o,es,ep,ho,r⟩,_⟩:=id I.loc
 obtain ⟨sl,hL⟩:=u.any ho I.free fun z=>(hch _ z).2.1 rfl
 exact I.step (ch:=ch) hch (fun b o hL hb hc e n=>u.keep b o e n (fun z=>(a0l.mp (I.stkSub b z)).elim hL hb) hc) (fun b o _ _ hc e n=>u.any e n hc) (fun b o hc e n=>u.free b o e n hc) (fun b o hc e=>u.there b o e hc) u.tups u.frzs u.tbls (fun m' hm=>by
  obtain ⟨o',es',ep',ho',r'⟩:=hm
  rw [ho] at ho'; cases ho'
  exact ⟨_,es',ep',hL,r'⟩) hok hg
theorem Inv.turned {t':Nat}{it:Addr}(I:Inv X pins σ H s)(k:∀ b o,b≠it->s.heap.get? b=some o->h'.get? b=some o)(hn:H it=none)(hL:it≠X.env.locals)
  (h1:it∈X.ex\/X.s₀.heap.objs.size<=it) (h2:∀ x c,X.env.cells.lookup x=some c->c≠it) (h3:∀ p∈X.pn++pins,p.1≠it):Inv X pins σ H { s with heap:=h',toks:=t' }:=by
 have nit:∀ b u,H b=some u->b≠it:=fun b u e z=>by rw [z,hn] at e; cases e
 refine I.step (g':=s.gens) (d':=s.drawn) (ch:=[it]) (fun b hb=>?_) (fun b o _ _ hc e _=>k b o (fun z=>hc (by simp [z])) e) (fun b o _ _ hc e _=>⟨o.slots,k b o (fun z=>hc (by simp [z])) e⟩) (fun _ _ _ _ n=>n)
  (fun b o hc e=>⟨o,k b o (fun z=>hc (by simp [z])) e⟩) (fun _ _ e=>e) (fun _ _ _ e=>e) (fun b ps e=>⟨#[],by rw [e]; simp⟩) (fun m hm=>?_) (fun b u e=>?_) I.bare
 ·have e:b=it:=by simpa using hb
  subst e
  exact ⟨h1,hL,h2,h3⟩
 ·obtain ⟨o,es,ep,ho,r⟩:=hm
  exact ⟨o,es,ep,k _ o (a2K hL) ho,r⟩
 ·refine (I.hok b u e).stay (fun c v hc q=>k c v ?_ q) (fun _ q=>q) fun _ _ q=>q
  rcases hc with z | z
  ·rw [z]; exact nit b u e
  ·exact nit c _ z
theorem Inv.tok (I:Inv X pins σ H s)(t:Nat):Inv X pins σ H { s with toks:=t }:=I.un (h':=s.heap) (t':=t) Un.refl I.hok
theorem Inv.kept {t':Nat}(I:Inv X pins σ H s)(k:∀ b u,s.heap.get? b=some u->h'.get? b=some u):Inv X pins σ H { s with heap:=h',toks:=t' }:=I.un (Un.kept k) (I.hok.kept k)
theorem Inv.laid {a:Addr}{o:HO}{t':Nat}(I:Inv X pins σ H s)(k:∀ b u,s.heap.get? b=some u->h'.get? b=some u)(hp:s.heap.objs.size<=a)(new:ObjOk X.prog X.w (upd H a o) h' a o) :
  Inv X pins σ (upd H a o) { s with heap:=h',toks:=t' }:=I.un (Un.laid k hp (I.hok.fresh hp)) (I.hok.laid k hp new)
theorem Inv.write {x e:Addr}{o:HO}{t':Nat}(I:Inv X pins σ H s)(mu:Mut (H x))(he:e=x\/H e=some (.own x))(k:∀ b u,b≠e->s.heap.get? b=some u->h'.get? b=some u)(heo:∃ u,h'.get? e=some u)
  (new:ObjOk X.prog X.w (upd H x o) h' x o):Inv X pins σ (upd H x o) { s with heap:=h',toks:=t' }:=I.un (Un.write mu he k heo) (I.hok.write mu he k heo new)
theorem Inv.weak {σ':List (Option V)}(I:Inv X pins σ H s)(hl:σ'.length=σ.length)(w:∀ (i:Nat) v,σ'[i]?=some (some v)->σ[i]?=some (some v)):Inv X pins σ' H s :=
 ⟨I.ok,I.os,I.bare,I.base,let ⟨m,hn,hl'⟩:=I.loc; ⟨m,hn,fun i x v e1 e2 e3=>hl' i x v e1 (w i v e2) e3⟩,I.cell,I.free,I.freeC,I.pin,I.hok,hl.trans I.len⟩
theorem Inv.pins_of {pins':List (Addr×Obj)}(I:Inv X pins σ H s)(h:∀ p∈pins',s.heap.get? p.1=some p.2/\H p.1=none/\p.1≠X.env.locals/\p.1 ∉ X.fs/\∀ v,p.2.data≠.cell v):Inv X pins' σ H s :=
 ⟨I.ok,I.os,I.bare,I.base,I.loc,I.cell,I.free,I.freeC,fun p hp=>(a0O.mp hp).elim (fun z=>I.pin p (a0E _ z)) (h p),I.hok,I.len⟩
theorem kJ {N:List Str}(hN:N.Nodup){i j:Nat}{x:Str}(a:N[i]?=some x)(b:N[j]?=some x):i=j:=by
 obtain ⟨h1,e1⟩:=a0q.mp a
 obtain ⟨h2,e2⟩:=a0q.mp b
 exact (List.getElem_inj hN).mp (e1.trans e2.symm)
theorem ju {M:Model}{A:Around}{E:Value->Shared->Prop}{i:Nat}{x:Str}{v:V}{u:Value}{Q:Unit->Shared->Prop}(I:Inv X pins σ H s)(hN:X.N.Nodup)(hi:X.N[i]?=some x)(hx:Loc X.env.scope x)(r:RelV v u)
  (h:∀ s',Inv X pins (σ.set i (some v)) H s'->(∃ a,Heap.SameBut a s.heap s'.heap/\(a=X.env.locals\/X.env.cells.lookup x=some a))->Q () s') (hf:X.fn x=true\/X.env.scope.names.lookup x=some .local:=by first | exact .inl rfl | exact .inr rfl | assumption):wpAny M A (storeName X.env x u) Q E s:=by
 obtain ⟨m,hn,hl⟩:=id I.loc
 have hcls:(X.env.scope.kind==.class || (X.env.scope.kind==.module&&X.env.locals != X.env.globals))=false:=by rw [I.ok.kind]; rfl
 have hiσ:i < σ.length:=by rw [I.len]; exact (a0q.mp hi).1
 have cne:=I.cne
 have tracked:∀ {a:Addr} {h':Heap},(∃ o,s.heap.get? a=some o/\H a=none)->Heap.SameBut a s.heap h'->HOk X.prog X.w H h':=fun {a h'} ha hs b ob e=>by
  obtain ⟨_,_,hfree⟩:=ha
  refine (I.hok b ob e).stay (fun c w' hc q=>(hs.2 c ?_).trans q) (fun _ q=>q) fun _ _ q=>q
  rintro rfl
  rcases hc with rfl | hc
  ·rw [hfree] at e; cases e
  ·rw [hfree] at hc; cases hc
 rcases hx with hk | hk
 ·refine wpAny_storeName_local hk hn (fun h' hn' hs=>?_) hcls
  obtain ⟨oL,_,_,hoL,_⟩:=id hn
  refine h _ ⟨I.ok,I.os,I.bare,⟨fun b o e n hb hx=>?_,fun b o e n hb hx=>?_,I.base.free,fun b o e hx=>?_,I.base.tups,I.base.frzs,I.base.tbls⟩,⟨_,hn',fun j y v' e1 e2 e3=>?_⟩,fun y c e=>?_,I.free,I.freeC,fun p hp=>?_,tracked ⟨oL,hoL,I.free⟩ hs,by simpa using I.len⟩ ⟨_,hs,.inl rfl⟩
  ·exact (hs.2 b (a0J (a0r (Heap.lt_size e) I.ok.above))).trans (I.base.keep b o e n hb hx)
  ·obtain ⟨sl,e1⟩:=I.base.slot b o e n hb hx
   exact ⟨sl,(hs.2 b (a0J (a0r (Heap.lt_size e) I.ok.above))).trans e1⟩
  ·obtain ⟨o',e1⟩:=I.base.there b o e hx
   exact ⟨o',(hs.2 b (a0J (a0r (Heap.lt_size e) I.ok.above))).trans e1⟩
  ·by_cases hj:j=i
   ·subst hj
    rw [hi] at e1; cases e1
    rw [a2c hiσ] at e2
    cases e2
    exact ⟨u,r,.inl ⟨hk,by simp⟩⟩
   ·rw [a1S (a2K hj)] at e2
    obtain ⟨u',r',q⟩:=hl j y v' e1 e2 e3
    refine ⟨u',r',?_⟩
    rcases q with ⟨k,e⟩ | ⟨k,c,e,z⟩
    ·refine .inl ⟨k,?_⟩
     have:y≠x:=fun e=>hj (kJ hN e1 (e ▸ hi))
     simp [this,e]
    ·exact .inr ⟨k,c,e,z.sameBut hs (cne y c e)⟩
  ·obtain ⟨w',z⟩:=I.cell y c e
   exact ⟨w',z.sameBut hs (cne y c e)⟩
  ·obtain ⟨e,n,ne,nf,d⟩:=I.pin p hp
   exact ⟨(hs.2 p.1 ne).trans e,n,ne,nf,d⟩
 ·have hfn:X.fn x=true:=by
   rcases hf with z | z
   ·exact z
   ·rw [z] at hk; cases hk
  obtain ⟨c,hc⟩:=I.ok.has x (.inl hk)
  obtain ⟨w',z⟩:=I.cell x c hc
  refine wpAny_storeName_cell I.ok.kind hk hc z (fun h' hc' hs=>?_)
  obtain ⟨oc,hoc,hocd⟩:=id z
  refine h { s with heap:=h' } ⟨I.ok,I.os,I.bare,⟨fun b o e n hb hx=>?_,fun b o e n hb hx=>?_,I.base.free,fun b o e hx=>?_,I.base.tups,I.base.frzs,I.base.tbls⟩,⟨m,hn.sameBut hs (a2K (cne x c hc)),fun j y v' e1 e2 e3=>?_⟩,fun y c' e=>?_,I.free,I.freeC,fun p hp=>?_,tracked ⟨oc,hoc,I.freeC x c hc⟩ hs,by simpa using I.len⟩ ⟨c,hs,.inr hc⟩
  ·exact (hs.2 b (a0J (a0r (Heap.lt_size e) (I.ok.cab x c hfn hc)))).trans (I.base.keep b o e n hb hx)
  ·obtain ⟨sl,e1⟩:=I.base.slot b o e n hb hx
   exact ⟨sl,(hs.2 b (a0J (a0r (Heap.lt_size e) (I.ok.cab x c hfn hc)))).trans e1⟩
  ·obtain ⟨o',e1⟩:=I.base.there b o e hx
   exact ⟨o',(hs.2 b (a0J (a0r (Heap.lt_size e) (I.ok.cab x c hfn hc)))).trans e1⟩
  ·by_cases hj:j=i
   ·subst hj
    rw [hi] at e1; cases e1
    rw [a2c hiσ] at e2
    cases e2
    exact ⟨u,r,.inr ⟨.inl hk,c,hc,hc'⟩⟩
   ·rw [a1S (a2K hj)] at e2
    obtain ⟨u',r',q⟩:=hl j y v' e1 e2 e3
    refine ⟨u',r',?_⟩
    rcases q with q | ⟨k,c',e,z'⟩
    ·exact .inl q
    ·refine .inr ⟨k,c',e,z'.sameBut hs ?_⟩
     rintro rfl
     exact hj (kJ hN e1 (I.ok.inj _ _ _ e hc ▸ hi))
  ·by_cases hcc:c'=c
   ·subst hcc; exact ⟨_,hc'⟩
   ·obtain ⟨w2,z2⟩:=I.cell y c' e
    exact ⟨w2,z2.sameBut hs hcc⟩
  ·obtain ⟨e,n,ne,nf,d⟩:=I.pin p hp
   refine ⟨(hs.2 p.1 ?_).trans e,n,ne,nf,d⟩
   intro q
   rw [q,hoc] at e
   have q':oc=p.2:=a0G e
   exact d w' (by rw [<- q']; exact hocd)
theorem kN {M:Model}{A:Around}{E:Value->Shared->Prop}{i:Nat}{x:Str}{v:V}{u:Value}{Q:Unit->Shared->Prop}(I:Inv X pins σ H s)(hN:X.N.Nodup)(hi:X.N[i]?=some x)(hx:Loc X.env.scope x)(r:RelV v u)
  (h:∀ s',Inv X pins (σ.set i (some v)) H s'->Q () s') (hf:X.fn x=true\/X.env.scope.names.lookup x=some .local:=by first | exact .inl rfl | exact .inr rfl | assumption):wpAny M A (storeName X.env x u) Q E s :=
 ju I hN hi hx r (fun s' I' _=>h s' I') hf
theorem Inv.call' {s':Shared}{ch:List Addr}(I:Inv X pins σ H s)(ho:s'.os=s.os)(u:Un (frs X.stack) ch H H' s.heap s'.heap)(hok:HOk X.prog X.w H' s'.heap)(hg:AllBare s'.gens)
  (hch:∀ b∈ch,(b∈X.ex\/X.s₀.heap.objs.size<=b)/\b≠X.env.locals/\(∀ x c,X.env.cells.lookup x=some c->c≠b)/\∀ p∈X.pn++pins,p.1≠b):Inv X pins σ H' s':=by
 obtain ⟨h',g',d',t',o'⟩:=s'
 have e:o'=s.os:=ho
 subst e
 exact I.call (g':=g') (t':=t') (d':=d') u hok hg hch
end
noncomputable abbrev XK:=Value->Option Addr->Hp->Prop
noncomputable abbrev St:=List (Option V)
noncomputable abbrev VK:=V->Hp->Prop
noncomputable abbrev TE:=St->Hp->VK->Prop
noncomputable abbrev TT:=St->Hp->(Bool->Hp->Prop)->Prop
noncomputable abbrev TA:=St->Hp->(List V->Hp->Prop)->Prop
structure cz where
 nx:St->Hp->Prop
 rt:VK
 bk:St->Hp->Prop:=fun _ _=>False
 ct:St->Hp->Prop:=fun _ _=>False
noncomputable abbrev TS:=cz->St->Hp->Prop
noncomputable def EP (X:Cx)(pins:List (Addr×Obj))(σ:St)(Q:VK)(u:Value)(s':Shared):Prop:=∃ v H',Inv X pins σ H' s'/\RelV v u/\Q v H'
noncomputable def TP (X:Cx)(pins:List (Addr×Obj))(σ:St)(Q:Bool->Hp->Prop)(b:Bool)(s':Shared):Prop:=∃ H',Inv X pins σ H' s'/\Q b H'
noncomputable def AP (X:Cx)(pins:List (Addr×Obj))(σ:St)(Q:List V->Hp->Prop)(us:List Value)(s':Shared):Prop:=∃ vs H',Inv X pins σ H' s'/\Vals vs us/\Q vs H'
noncomputable def SP (X:Cx)(pins:List (Addr×Obj))(D:cz)(f:Flow)(s':Shared):Prop :=
 match f with
 | .next=>∃ σ' H',Inv X pins σ' H' s'/\D.nx σ' H'
 | .brk=>∃ σ' H',Inv X pins σ' H' s'/\D.bk σ' H'
 | .cont=>∃ σ' H',Inv X pins σ' H' s'/\D.ct σ' H'
 | .ret u=>∃ v σ' H',Inv X pins σ' H' s'/\RelV v u/\D.rt v H'
noncomputable def PE (X:Cx)(e:Expr)(t:TE):Prop :=
 ∀ (pins:List (Addr×Obj)) (s:Shared) (σ:St) (H:Hp) (Q:VK),Inv X pins σ H s->t σ H Q->wpAny (model X.prog X.w) X.A (eval e X.env) (EP X pins σ Q) X.xe s
noncomputable def PT (X:Cx)(e:Expr)(t:TT):Prop :=
 ∀ (pins:List (Addr×Obj)) (s:Shared) (σ:St) (H:Hp) (Q:Bool->Hp->Prop),Inv X pins σ H s->t σ H Q->wpAny (model X.prog X.w) X.A (isTrue e X.env (eval e X.env)) (TP X pins σ Q) X.xe s
noncomputable def PW (X:Cx)(e:Expr)(t:TT):Prop :=
 ∀ (whole:Sem Value) (pins:List (Addr×Obj)) (s:Shared) (σ:St) (H:Hp) (Q:Bool->Hp->Prop),Inv X pins σ H s->t σ H Q->wpAny (model X.prog X.w) X.A (isTrue e X.env whole) (TP X pins σ Q) X.xe s
theorem PW.pt {X:Cx}{e:Expr}{t:TT}(h:PW X e t):PT X e t:=h _
noncomputable def PA (X:Cx)(es:List Expr)(t:TA):Prop :=
 ∀ (pos:Pos) (pins:List (Addr×Obj)) (s:Shared) (σ:St) (H:Hp) (Q:List V->Hp->Prop),Inv X pins σ H s->t σ H Q->wpAny (model X.prog X.w) X.A (spliced (backTo pos (starEach es X.env))) (AP X pins σ Q) X.xe s
noncomputable def PS (X:Cx)(st:Stmt)(t:TS):Prop :=
 ∀ (pins:List (Addr×Obj)) (s:Shared) (σ:St) (H:Hp) (D:cz),Inv X pins σ H s->t D σ H->wpAny (model X.prog X.w) X.A (exec st X.env) (SP X pins D) X.xe s
noncomputable def PSs (X:Cx)(st:List Stmt)(t:TS):Prop :=
 ∀ (pins:List (Addr×Obj)) (s:Shared) (σ:St) (H:Hp) (D:cz),Inv X pins σ H s->t D σ H->wpAny (model X.prog X.w) X.A (execs st X.env) (SP X pins D) X.xe s
theorem thn {α:Type}{t:Sem α}{Q Q':α->Shared->Prop}{M:Model}{A:Around}{E:Value->Shared->Prop}{s:Shared}(h:wpAny M A t Q E s)(hQ:∀ a s,Q a s->Q' a s):wpAny M A t Q' E s:=wpAny_mono h hQ fun _ _ x=>x
end L2
namespace L2
open PySem PySem.Spec PyProof.Rows
section
variable {X:Cx}
noncomputable def oN (i:Nat):TE:=fun σ H Q=>∃ v,σ[i]?=some (some v)/\Q v H
noncomputable def tC (v:V):TE:=fun _ H Q=>Q v H
theorem dS {i:Nat}{x:Str}{pos:Pos}(hN:X.N[i]?=some x)(hv:Vis X.env.scope x)(hd:(x==("__debug__":Str))=false:=by decide)(hcd:(x==("__classdict__":Str))=false:=by decide):PE X (.Name x pos) (oN i):=by
 intro pins s σ H Q I h
 obtain ⟨v,e,h⟩:=h
 obtain ⟨m,hn,hl⟩:=I.loc
 obtain ⟨u,r,l⟩:=hl i x v hN e hv
 have fin:EP X pins σ Q u s:=⟨v,H,I,r,h⟩
 rcases l with ⟨hk,hm⟩ | ⟨hk,c,hc,hcell⟩
 ·exact wpAny_Name (wpAny_loadName_local I.ok.kind hk hn hm fin) hd
 ·rcases hk with hk | hk
  ·exact wpAny_Name (wpAny_loadName_cell I.ok.kind hk hc hcell fin) hd
  ·exact wpAny_Name (wpAny_loadName_free I.ok.kind hk hc hcell fin hcd) hd
theorem bW {i j pos}:PE X (.Constant (.int i) j pos) (tC (.int i)):=fun _ _ _ H _ I h=>wpAny_Constant_int ⟨.int i,H,I.tok _,⟨_,rfl⟩,h⟩
theorem Cg {b j pos}:PE X (.Constant (.bool b) j pos) (tC (.bl b)):=fun _ _ _ H _ I h=>Constant_bool ⟨.bl b,H,I,rfl,h⟩
theorem yP {j pos}:PE X (.Constant .none j pos) (tC .non):=fun _ _ _ H _ I h=>Constant_none ⟨.non,H,I,rfl,h⟩
theorem zy {x j pos}:PE X (.Constant (.str x) j pos) (tC (.str x)):=fun _ _ _ H _ I h=>Calls.Constant_str ⟨.str x,H,I.tok _,⟨_,rfl⟩,h⟩
noncomputable def Gl (X:Cx)(x:Str):Prop:=X.env.kindOf x=some .globalImplicit
theorem nN {E:Value->Shared->Prop}{pins:List (Addr×Obj)}{s:Shared}{σ:St}{H:Hp}{x:Str}{u:Value}{pos:Pos}{Q:Value->Shared->Prop}(I:Inv X pins σ H s)(hg:Gl X x)(hm:X.mg x=some u)(h:Q u s)
  (hd:(x==("__debug__":Str))=false:=by decide):wpAny (model X.prog X.w) X.A (eval (.Name x pos) X.env) Q E s :=
 Calls.Name_function_global I.ok.kind hg (Calls.loadGlobal_global (by rw [I.ok.glob]; exact I.mod.glob.keeps I.bk) hm h) hd
theorem eE {E:Value->Shared->Prop}{pins:List (Addr×Obj)}{s:Shared}{σ:St}{H:Hp}{x:Str}{u:Value}{pos:Pos}{Q:Value->Shared->Prop}(I:Inv X pins σ H s)(hg:Gl X x)(hm:X.mg x=none)(hv:bootBuiltins x=some u)(h:Q u s)
  (hn:x≠"__name__":=by decide) (hd:(x==("__debug__":Str))=false:=by decide):wpAny (model X.prog X.w) X.A (eval (.Name x pos) X.env) Q E s:=by
 obtain ⟨mb,h1,h2⟩:=I.mod.blt
 exact Calls.Name_function_global I.ok.kind hg (Calls.loadGlobal_builtin (by rw [I.ok.glob]; exact I.mod.glob.keeps I.bk) hm (by rw [I.ok.blt]; exact h1.keeps I.bk) ((h2 x hn).trans hv) h) hd
theorem nV {x:Str}{v:V}{u:Value}{pos:Pos}(hg:Gl X x)(hm:X.mg x=some u)(r:RelV v u)(hd:(x==("__debug__":Str))=false:=by decide):PE X (.Name x pos) (tC v) :=
 fun _ _ _ H _ I h=>nN I hg hm ⟨v,H,I,r,h⟩ hd
theorem vD {x:Str}{v:V}{u:Value}{pos:Pos}(hg:Gl X x)(hm:X.mg x=none)(hv:bootBuiltins x=some u)(r:RelV v u)(hn:x≠"__name__":=by decide)(hd:(x==("__debug__":Str))=false:=by decide):PE X (.Name x pos) (tC v) :=
 fun _ _ _ H _ I h=>eE I hg hm hv ⟨v,H,I,r,h⟩ hn hd
variable {a b:Expr}{ta tb:TE}{pos:Pos}
noncomputable def PC (X:Cx)(op:CmpOp)(a b:Expr)(t:TE):Prop :=
 ∀ (pins:List (Addr×Obj)) (s:Shared) (σ:St) (H:Hp) (Q:VK),Inv X pins σ H s->t σ H Q ->
  wpAny (model X.prog X.w) X.A (eval a X.env) (fun v s₁=>wpAny (model X.prog X.w) X.A (eval b X.env) (fun u s₂=>wpAny (model X.prog X.w) X.A (compareOp op v u) (EP X pins σ Q) X.xe s₂) X.xe s₁) X.xe s
noncomputable def tB (t:TE):TT:=fun σ H Q=>t σ H fun x H1=>∃ c,x=.bl c/\Q c H1
theorem qR {e:Expr}{t:TE}(h:PE X e t)(he:∀ whole,isTrue e X.env whole=(do let v <- whole; standAt e.pos; holding [v] (truthy v)):=by intro _; rfl):PT X e (tB t):=by
 intro pins s σ H Q I hw
 refine isTrue_plain (thn (h pins s σ H _ I hw) fun v s1 ⟨x,H1,I1,r1,q1⟩=>?_) (he _)
 obtain ⟨d,rfl,q⟩:=q1
 cases r1
 exact wpAny_truthy_bool ⟨H1,I1,q⟩
variable {tA tB':TT}{rest:List Expr}
noncomputable def Cz (t u:TT):TT:=fun σ H Q=>t σ H fun c H1=>if c=true then u σ H1 Q else Q false H1
noncomputable def tOr (t u:TT):TT:=fun σ H Q=>t σ H fun c H1=>if c=true then Q true H1 else u σ H1 Q
noncomputable def Ci (t:TT):TT:=fun σ H Q=>t σ H fun c H1=>Q (!c) H1
theorem vV (ha:PT X a tA):PW X (.BoolOp .And [a] pos) tA:=by
 intro wh pins s σ H Q I h
 refine isTrue_and (thn (ha pins s σ H Q I h) fun c s1 e=>?_)
 cases c with
 | true=>exact isTrue_and_nil e
 | false=>exact e
theorem zq (ha:PT X a tA):PW X (.BoolOp .Or [a] pos) tA:=by
 intro wh pins s σ H Q I h
 refine isTrue_or (thn (ha pins s σ H Q I h) fun c s1 e=>?_)
 cases c with
 | false=>exact isTrue_or_nil e
 | true=>exact e
theorem ym (ha:PT X a tA)(hb:PW X (.BoolOp .And (b::rest) pos) tB'):PW X (.BoolOp .And (a::b::rest) pos) (Cz tA tB'):=by
 intro wh pins s σ H Q I h
 refine isTrue_and (thn (ha pins s σ H _ I h) fun c s1 ⟨H1,I1,q1⟩=>?_)
 cases c with
 | true=>exact hb wh pins s1 σ H1 Q I1 q1
 | false=>exact ⟨H1,I1,q1⟩
theorem CA (ha:PT X a tA)(hb:PW X (.BoolOp .Or (b::rest) pos) tB'):PW X (.BoolOp .Or (a::b::rest) pos) (tOr tA tB'):=by
 intro wh pins s σ H Q I h
 refine isTrue_or (thn (ha pins s σ H _ I h) fun c s1 ⟨H1,I1,q1⟩=>?_)
 cases c with
 | true=>exact ⟨H1,I1,q1⟩
 | false=>exact hb wh pins s1 σ H1 Q I1 q1
theorem ze (ha:PT X a tA):PT X (.UnaryOp .Not a pos) (Ci tA):=by
 intro pins s σ H Q I h
 exact isTrue_not (ha pins s σ H (fun c H1=>Q (!c) H1) I h)
noncomputable def tIf (t:TT)(ta tb:TE):TE:=fun σ H Q=>t σ H fun c H1=>if c=true then ta σ H1 Q else tb σ H1 Q
theorem tv {c:Expr}(hc:PT X c tA)(ha:PE X a ta)(hb:PE X b tb):PE X (.IfExp c a b pos) (tIf tA ta tb):=by
 intro pins s σ H Q I h
 refine wpAny_IfExp (thn (hc pins s σ H _ I h) fun d s1 ⟨H1,I1,q1⟩=>?_)
 cases d with
 | true=>exact ha pins s1 σ H1 Q I1 q1
 | false=>exact hb pins s1 σ H1 Q I1 q1
end
end L2
namespace L2
open PySem PySem.Spec PyProof.Rows
noncomputable def SqL (K:a0a)(H:Hp)(a:Addr)(xs:List V):Prop :=
 Rd H a (.lst xs) \/
  ∃ (o:Obj) (its:Array Value) (n:Nat),K.lookup a=some o/\o.cls=.type "list"/\o.dict=none/\o.data=.seq its n/\its.size<=sizeLine/\Vals xs its.toList
noncomputable def SqT (K:a0a)(H:Hp)(a:Addr)(xs:List V):Prop :=
 Rd H a (.tup xs) \/
  ∃ (o:Obj) (its:Array Value) (n:Nat),K.lookup a=some o/\o.cls=.type "tuple"/\o.data=.seq its n/\its.size<=sizeLine/\Vals xs its.toList
noncomputable def EH:Value->Option V
 | .none=>some .non
 | .bool b=>some (.bl b)
 | .int i _=>some (.int i)
 | .str x _=>some (.str x)
 | .bytes b _=>some (.byt b)
 | .float b _=>some (.flt b)
 | .ref a=>some (.ref a)
 | .type n=>some (.ty n)
 | _=>none
theorem RelV.abs {x:V}{u:Value}(r:RelV x u):EH u=some x:=by
 cases x with
 | non=>cases r; rfl
 | bl _=>cases r; rfl
 | int _=>obtain ⟨t,rfl⟩:=r; rfl
 | str _=>obtain ⟨t,rfl⟩:=r; rfl
 | byt _=>obtain ⟨t,rfl⟩:=r; rfl
 | flt _=>obtain ⟨t,rfl⟩:=r; rfl
 | ref _=>cases r; rfl
 | ty _=>cases r; rfl
theorem RelV.inj {x y:V}{u:Value}(r:RelV x u)(q:RelV y u):x=y:=a0G (r.abs.symm.trans q.abs)
theorem Vals.inj:∀ {xs ys:List V} {us:List Value},Vals xs us->Vals ys us->xs=ys
 | _,_,_,.nil,.nil=>rfl
 | _,_,_,.cons r t,.cons r' t'=>by rw [r.inj r',Vals.inj t t']
section
variable {X:Cx}{pins:List (Addr×Obj)}{σ:St}{H:Hp}{s:Shared}{a:Addr}{xs ys:List V}
theorem SqL.of {K:a0a}(h:H a=some (.lst xs)):SqL K H a xs:=.inl (.inl h)
theorem SqT.of {K:a0a}(h:H a=some (.tup xs)):SqT K H a xs:=.inl (.inl h)
theorem Inv.list (I:Inv X pins σ H s)(h:SqL X.K H a xs):∃ its:List Value,Vals xs its/\PlainL s.heap a its.toArray/\xs.length<=sizeLine:=by
 rcases h with h | ⟨o,its,n,hk,hc,hd,hs,hz,r⟩
 ·obtain ⟨z,its,n,r,e⟩:=h.ok I.hok
  exact ⟨its,r,⟨_,n,e,rfl,rfl,rfl⟩,z⟩
 ·refine ⟨its.toList,r,⟨o,n,I.kIn a o hk,hc,hd,by simpa using hs⟩,?_⟩
  have e:=r.length
  simp only [a1j] at e
  omega
theorem Inv.tuple (I:Inv X pins σ H s)(h:SqT X.K H a xs):∃ its:List Value,Vals xs its/\IsTup s.heap a its.toArray/\xs.length<=sizeLine:=by
 rcases h with h | ⟨o,its,n,hk,hc,hs,hz,r⟩
 ·obtain ⟨z,its,r,p⟩:=h.ok I.hok
  exact ⟨its,r,p,z⟩
 ·refine ⟨its.toList,r,⟨o,I.kIn a o hk,hc,n,by simpa using hs⟩,?_⟩
  have e:=r.length
  simp only [a1j] at e
  omega
theorem Inv.list_inj (I:Inv X pins σ H s)(h:SqL X.K H a xs)(h':SqL X.K H a ys):xs=ys:=by
 obtain ⟨its,r,⟨o,n,e,_,_,d⟩,_⟩:=I.list h
 obtain ⟨its',r',⟨o',n',e',_,_,d'⟩,_⟩:=I.list h'
 rw [e] at e'; cases e'
 rw [d] at d'
 injection d' with d1 _
 have:its=its':=by simpa using congrArg a3O d1
 subst this
 exact r.inj r'
theorem Inv.tuple_inj (I:Inv X pins σ H s)(h:SqT X.K H a xs)(h':SqT X.K H a ys):xs=ys:=by
 obtain ⟨its,r,⟨o,e,_,n,d⟩,_⟩:=I.tuple h
 obtain ⟨its',r',⟨o',e',_,n',d'⟩,_⟩:=I.tuple h'
 rw [e] at e'; cases e'
 rw [d] at d'
 injection d' with d1 _
 have:its=its':=by simpa using congrArg a3O d1
 subst this
 exact r.inj r'
end
noncomputable abbrev Cx.wish (X:Cx)(E:Value->Shared->Prop):Cx:={ X with xe:=E }
noncomputable abbrev Cx.nox (X:Cx):Cx:=X.wish fun _ _=>False
theorem Cx.Ok.wish {X:Cx}(ok:X.Ok)(E:Value->Shared->Prop):(X.wish E).Ok :=
 ⟨ok.mod,ok.kind,ok.glob,ok.blt,ok.above,ok.inj,ok.has,ok.cab,ok.hd,ok.frames,ok.stk,ok.exf,ok.bs,ok.bsz,ok.noex,ok.exfs,ok.funs,ok.frf⟩
theorem Cx.Ok.unwish {X:Cx}{E:Value->Shared->Prop}(ok:(X.wish E).Ok):X.Ok :=
 ⟨ok.mod,ok.kind,ok.glob,ok.blt,ok.above,ok.inj,ok.has,ok.cab,ok.hd,ok.frames,ok.stk,ok.exf,ok.bs,ok.bsz,ok.noex,ok.exfs,ok.funs,ok.frf⟩
section
variable {X:Cx}{pins:List (Addr×Obj)}{σ:St}{H:Hp}{s:Shared}{E:Value->Shared->Prop}
theorem Inv.wish (I:Inv X pins σ H s)(E:Value->Shared->Prop):Inv (X.wish E) pins σ H s:=⟨I.ok.wish E,I.os,I.bare,I.base,I.loc,I.cell,I.free,I.freeC,I.pin,I.hok,I.len⟩
theorem Inv.unwish (I:Inv (X.wish E) pins σ H s):Inv X pins σ H s:=⟨I.ok.unwish,I.os,I.bare,I.base,I.loc,I.cell,I.free,I.freeC,I.pin,I.hok,I.len⟩
theorem SP.unwish {D:cz}{f:Flow}{s':Shared}(h:SP (X.wish E) pins D f s'):SP X pins D f s':=by
 cases f with
 | next=>obtain ⟨σ',H',I,q⟩:=h; exact ⟨σ',H',I.unwish,q⟩
 | brk=>obtain ⟨σ',H',I,q⟩:=h; exact ⟨σ',H',I.unwish,q⟩
 | cont=>obtain ⟨σ',H',I,q⟩:=h; exact ⟨σ',H',I.unwish,q⟩
 | ret u=>obtain ⟨v,σ',H',I,r,q⟩:=h; exact ⟨v,σ',H',I.unwish,r,q⟩
theorem PSs.nox {st:List Stmt}{t:TS}(h:PSs X.nox st t):PSs X st t:=fun pins s σ H D I hw =>
 wpAny_mono (h pins s σ H D (I.wish _) hw) (fun _ _ q=>q.unwish) fun _ _ z=>a1O z
end
section
variable {X:Cx}{st:Stmt}{rest:List Stmt}{t u:TS}{e:Expr}{te:TE}{pos:Pos}
noncomputable def xD:TS:=fun D σ H=>D.nx σ H
noncomputable def CP (t u:TS):TS:=fun D σ H=>t { D with nx:=u D } σ H
theorem kj:PSs X [] xD:=fun _ _ σ H _ I h=>wpAny_execs_nil ⟨σ,H,I,h⟩
theorem dr (h1:PS X st t)(h2:PSs X rest u):PSs X (st::rest) (CP t u):=by
 intro pins s σ H D I h
 refine wpAny_execs_cons (thn (h1 pins s σ H { D with nx:=u D } I h) fun f s1 q=>?_)
 cases f with
 | next =>
  obtain ⟨σ',H',I',q⟩:=q
  exact h2 pins s1 σ' H' D I' q
 | ret v=>exact q
 | brk=>exact q
 | cont=>exact q
theorem dA (h1:PS X st t):PSs X [st] t:=by
 intro pins s σ H D I h
 refine wpAny_execs_cons (thn (h1 pins s σ H D I h) fun f s1 q=>?_)
 cases f with
 | next=>exact wpAny_execs_nil q
 | ret v=>exact q
 | brk=>exact q
 | cont=>exact q
theorem Inv.quiet {pins:List (Addr×Obj)}{σ:St}{H:Hp}{s:Shared}(I:Inv X pins σ H s):interactive X.env=false:=by simp [interactive,I.ok.kind]
noncomputable def xC (te:TE):TS:=fun D σ H=>te σ H fun _ H1=>D.nx σ H1
theorem d0 (he:PE X e te)(hs:swapsWith e none pos.line X.env=pure false:=by rfl):PS X (.Expr e pos) (xC te):=by
 intro pins s σ H D I h
 exact wpAny_Expr_any (thn (he pins s σ H _ I h) fun v s1 ⟨x,H1,I1,r1,q1⟩=>⟨σ,H1,I1,q1⟩) I.quiet hs
noncomputable def CT (te:TE):TS:=fun D σ H=>te σ H D.rt
theorem rW (he:PE X e te):PS X (.Return (some e) pos) (CT te):=by
 intro pins s σ H D I h
 exact wpAny_Return_some (thn (he pins s σ H _ I h) fun v s1 ⟨x,H1,I1,r1,q1⟩=>⟨x,σ,H1,I1,r1,q1⟩)
noncomputable def DM (c:TT)(t u:TS):TS:=fun D σ H=>c σ H fun b H1=>if b=true then t D σ H1 else u D σ H1
theorem qg {c:Expr}{a b:List Stmt}{tc:TT}(hc:PT X c tc)(ha:PSs X a t)(hb:PSs X b u):PS X (.If c a b pos) (DM tc t u):=by
 intro pins s σ H D I h
 refine wpAny_If (thn (hc pins s σ H _ I h) fun d s1 ⟨H1,I1,q1⟩=>?_)
 cases d with
 | true=>exact ha pins s1 σ H1 D I1 q1
 | false=>exact hb pins s1 σ H1 D I1 q1
end
noncomputable abbrev TG:=V->St->Hp->(St->Hp->Prop)->Prop
noncomputable abbrev TGs:=List V->St->Hp->(St->Hp->Prop)->Prop
noncomputable def PG (X:Cx)(target:Expr)(t:TG):Prop :=
 ∀ (pins:List (Addr×Obj)) (s:Shared) (σ:St) (H:Hp) (v:V) (u:Value) (Q:St->Hp->Prop),Inv X pins σ H s->RelV v u->t v σ H Q ->
  wpAny (model X.prog X.w) X.A (assign target X.env u) (fun _ s'=>∃ σ' H',Inv X pins σ' H' s'/\Q σ' H') X.xe s
noncomputable def PGs (X:Cx)(ts:List Expr)(t:TGs):Prop :=
 ∀ (pins:List (Addr×Obj)) (s:Shared) (σ:St) (H:Hp) (vs:List V) (us:List Value) (Q:St->Hp->Prop),Inv X pins σ H s->Vals vs us->t vs σ H Q ->
  wpAny (model X.prog X.w) X.A (assignInOrder ((assignEach ts X.env).map (·.2)) us) (fun _ s'=>∃ σ' H',Inv X pins σ' H' s'/\Q σ' H') X.xe s
noncomputable abbrev AW:=V->V->V->Hp->(Hp->Prop)->Prop
noncomputable def CG (X:Cx)(t:AW):Prop :=
 ∀ (pins:List (Addr×Obj)) (s:Shared) (σ:St) (H:Hp) (o i v:V) (ov iv u:Value) (Q:Hp->Prop),Inv X pins σ H s->RelV o ov->RelV i iv->RelV v u->t o i v H Q ->
  wpAny (model X.prog X.w) X.A (setItem ov iv u) (fun _ s'=>∃ H',Inv X pins σ H' s'/\Q H') X.xe s
section
variable {X:Cx}{pos:Pos}
noncomputable def cT (i:Nat):TG:=fun v σ H Q=>Q (σ.set i (some v)) H
theorem bM {i:Nat}{x:Str}(hN:X.N.Nodup)(hi:X.N[i]?=some x)(hx:Loc X.env.scope x)(hf:X.fn x=true\/X.env.scope.names.lookup x=some .local:=by first | exact .inl rfl | exact .inr rfl | assumption):PG X (.Name x pos) (cT i):=by
 intro pins s σ H v u Q I r h
 exact wpAny_assign_Name (kN I hN hi hx r (fun s' I'=>⟨_,H,I',h⟩) hf)
noncomputable def uU:TGs:=fun vs σ H Q=>vs=[]/\Q σ H
noncomputable def fP (t:TG)(u:TGs):TGs:=fun vs σ H Q=>∃ v r,vs=v::r/\t v σ H fun σ' H'=>u r σ' H' Q
theorem j6:PGs X [] uU:=by
 intro pins s σ H vs us Q I r h
 obtain ⟨e,h⟩:=h
 subst e
 cases r
 exact assignInOrder_nil ⟨σ,H,I,h⟩
theorem cG {e:Expr}{es:List Expr}{t:TG}{u:TGs}(h1:PG X e t)(h2:PGs X es u)
  (hs:(assignEach (e::es) X.env).map (·.2)=assign e X.env::(assignEach es X.env).map (·.2):=by rfl):PGs X (e::es) (fP t u):=by
 intro pins s σ H vs us Q I r h
 obtain ⟨v,vr,e1,h⟩:=h
 subst e1
 cases r with
 | cons r rr =>
  rw [hs]
  refine assignInOrder_cons (thn (h1 pins s σ H _ _ _ I r h) fun _ s1 ⟨σ1,H1,I1,q1⟩=>?_)
  exact h2 pins s1 σ1 H1 _ _ Q I1 rr q1
noncomputable def xp (K:a0a)(n:Nat)(t:TGs):TG:=fun v σ H Q=>∃ a xs,v=.ref a/\SqT K H a xs/\xs.length=n/\t xs σ H Q
theorem l0 {es:List Expr}{k:Nat}{t:TGs}{n:Nat}(hc:X.calm=true)(h:PGs X es t)
  (hn:(assignEach es X.env).length=n:=by rfl) (hst:(assignEach es X.env).findIdx? (·.1)=none:=by rfl):PG X (.Tuple es k pos) (xp X.K n t):=by
 intro pins s σ H v u Q I r hw
 obtain ⟨a,xs,e1,hq,hl,hw⟩:=hw
 subst e1
 cases r
 obtain ⟨its,rv,ht,hz⟩:=I.tuple hq
 refine assign_Tuple_tuple (I.ok.hd hc) ht (by simp [hn,<- hl,rv.length]) hst fun h' hx=>?_
 have I1:Inv X pins σ H { s with heap:=h' }:=I.kept (t':=s.toks) fun b o e=>hx b o (a0J (Heap.lt_size e)) e
 exact h pins _ σ H xs _ Q I1 (by simpa using rv) hw
noncomputable def Eh (to ti:TE)(t:AW):TG:=fun v σ H Q=>to σ H fun o H1=>ti σ H1 fun i H2=>t o i v H2 fun H3=>Q σ H3
theorem yU {o i:Expr}{to ti:TE}{t:AW}(ho:PE X o to)(hi:PE X i ti)(hs:CG X t)
  (ha:∀ v,assign (.Subscript o i pos) X.env v=(do
   let ov <- holding [v] (eval o X.env)
   let iv <- holding [v,ov] (eval i X.env)
   standAt pos
   holding [v,ov,iv] (setItem ov iv v)
   release [v,ov,iv] []):=by intro _; rfl):PG X (.Subscript o i pos) (Eh to ti t):=by
 intro pins s σ H v u Q I r h
 rw [ha]
 refine wpAny_bind (wpAny_holding (thn (ho pins s σ H _ I h) fun ov s1 ⟨x,H1,I1,r1,q1⟩=>?_))
 refine wpAny_bind (wpAny_holding (thn (hi pins s1 σ H1 _ I1 q1) fun iv s2 ⟨y,H2,I2,r2,q2⟩=>?_))
 refine wpAny_bind (wpAny_standAt (wpAny_bind (wpAny_holding (thn (hs pins s2 σ H2 x y v ov iv u _ I2 r1 r2 r q2) fun _ s3 ⟨H3,I3,q3⟩=>?_))))
 exact wpAny_release ⟨σ,H3,I3,q3⟩
noncomputable def qO (te:TE)(g:TG):TS:=fun D σ H=>te σ H fun x H1=>g x σ H1 D.nx
theorem Bn {tg e:Expr}{te:TE}{g:TG}(he:PE X e te)(hg:PG X tg g)(hs:swapsWithSole [tg] e pos.line X.env=pure false:=by rfl)(hw:swappedStores [tg] e X.env=pure none:=by rfl)
  (h1:(assignEach [tg] X.env).map (·.2)=[assign tg X.env]:=by rfl):PS X (.Assign [tg] e pos) (qO te g):=by
 intro pins s σ H D I h
 refine wpAny_Assign_stores (thn (he pins s σ H _ I h) fun v s1 ⟨x,H1,I1,r1,q1⟩=>?_) hs hw
 rw [h1]
 exact thn (hg pins s1 σ H1 x v _ I1 r1 q1) fun _ s2 q=>q
theorem jJ {i:Nat}{x:Str}{e:Expr}{te:TE}{pos':Pos}(hN:X.N.Nodup)(hi:X.N[i]?=some x)(hx:Loc X.env.scope x)(he:PE X e te)(hs:swapsWith e (some (.Name x pos')) pos.line X.env=pure false:=by rfl)(hf:X.fn x=true\/X.env.scope.names.lookup x=some .local:=by first | exact .inl rfl | exact .inr rfl | assumption) :
  PS X (.Assign [.Name x pos'] e pos) (qO te (cT i)):=by
 intro pins s σ H D I h
 refine wpAny_Assign_Name (thn (he pins s σ H _ I h) fun v s1 ⟨y,H1,I1,r1,q1⟩=>?_) hs
 exact kN I1 hN hi hx r1 (fun s2 I2=>⟨_,H1,I2,q1⟩) hf
end
section
variable {X:Cx}{pos:Pos}
noncomputable def sP (c:TT)(tb:TS):TS:=fun D σ H=>∃ W:Nat->St->Hp->Prop,(∃ m,W m σ H)/\∀ m σ H,W m σ H ->
 c σ H fun b H1=>if b=true then ∃ N:St->Hp->Prop,(∀ σ' H',N σ' H'->∃ m',m' < m/\W m' σ' H')/\tb { D with nx:=N,ct:=N,bk:=D.nx } σ H1 else D.nx σ H1
theorem tS {c:Expr}{body:List Stmt}{tc:TT}{tb:TS}(hp:PassesOwn (model X.prog X.w) X.A X.env X.xe)(hc:PT X c tc)(hb:PSs X body tb):PS X (.While c body [] pos) (sP tc tb):=by
 intro pins s σ H D I h
 obtain ⟨W,⟨m0,w0⟩,turn⟩:=h
 refine wpAny_While (codeAny_whileLoop (fun n s'=>∃ σ' H',Inv X pins σ' H' s'/\W n σ' H') ?_ m0 ⟨σ,H,I,w0⟩)
 rintro n s1 ⟨σ1,H1,I1,w1⟩
 refine wpAny_passesOwn hp (thn (hc pins s1 σ1 H1 _ I1 (turn n σ1 H1 w1)) fun b s2 ⟨H2,I2,q2⟩=>?_)
 cases b with
 | true =>
  obtain ⟨N,hN,q2⟩:=q2
  rw [if_pos rfl]
  refine wpAny_passesOwn hp (thn (hb pins s2 σ1 H2 _ I2 q2) fun f s3 q3=>?_)
  cases f with
  | next =>
   obtain ⟨σ3,H3,I3,n3⟩:=q3
   obtain ⟨m',hm,w3⟩:=hN σ3 H3 n3
   exact ⟨m',hm,σ3,H3,I3,w3⟩
  | cont =>
   obtain ⟨σ3,H3,I3,n3⟩:=q3
   obtain ⟨m',hm,w3⟩:=hN σ3 H3 n3
   exact ⟨m',hm,σ3,H3,I3,w3⟩
  | brk=>exact q3
  | ret v=>exact q3
 | false =>
  rw [if_neg a0j]
  exact wpAny_execs_nil ⟨σ1,H2,I2,q2⟩
end
structure It where
 go:Nat->Hp->Prop
 yld:Nat->Hp->V->Hp->Prop
 stop:Nat->Hp->Prop
noncomputable def gQ (X:Cx)(pins:List (Addr×Obj))(H:Hp)(b:Addr):Prop :=
 H b=none/\b≠X.env.locals/\b ∉ X.fs/\(b∈X.ex\/X.s₀.heap.objs.size<=b)/\(∀ x c,X.env.cells.lookup x=some c->c≠b)/\∀ p∈X.pn++pins,p.1≠b
theorem Inv.fpOk {X:Cx}{pins:List (Addr×Obj)}{σ:St}{H H':Hp}{s:Shared}{b:Addr}(I:Inv X pins σ H s)(hb:s.heap.objs.size<=b)(hn:H' b=none):gQ X pins H' b:=by
 refine ⟨hn,a1w (a0r I.lt hb),I.nofs hb,.inr (a0o I.sz hb),fun x c e z=>?_,fun p hp z=>?_⟩
 ·obtain ⟨v,q⟩:=I.cell x c e
  exact absurd (a0r q.lt (by rw [z]; exact hb)) (a1s _)
 ·exact absurd (a0r (Heap.lt_size (I.pin p hp).1) (by rw [z]; exact hb)) (a1s _)
structure mr (P:Program)(w:World)(K:a0a)(tg:Expr)(J:It)(fp:List Addr)(it:Addr)(tn:Nat->Heap->Prop):Prop where
 mem:it∈fp
 obj:∀ i h,tn i h->∀ b∈fp,∃ o,h.get? b=some o/\∀ v,o.data≠.cell v
 keep:∀ i h h',tn i h->(∀ b∈fp,∀ o,h.get? b=some o->h'.get? b=some o)->tn i h'
 item:∀ (X:Cx),X.prog=P->X.w=w->X.K=K->X.calm=true->∀ (i:Nat) (pins:List (Addr×Obj)) (s:Shared) (σ:St) (H:Hp) (E:Value->Shared->Prop),Inv X pins σ H s->(∀ b∈fp,gQ X pins H b)->tn i s.heap->J.go i H ->
  wpAny (model P w) X.A (pyNext (.ref it)) (fun r s1=>∃ u,r=some u /\
   wpAny (model P w) X.A (letOwnedTupleGo tg (.ref it) u) (fun _ s2=>∃ x H',Inv X pins σ H' s2/\RelV x u/\J.yld i H x H'/\tn (i+1) s2.heap/\∀ b∈fp,H' b=none) E s1) E s
 done:∀ (X:Cx),X.prog=P->X.w=w->X.K=K->X.calm=true->∀ (i:Nat) (pins:List (Addr×Obj)) (s:Shared) (σ:St) (H:Hp) (E:Value->Shared->Prop),Inv X pins σ H s->(∀ b∈fp,gQ X pins H b)->tn i s.heap->J.stop i H ->
  wpAny (model P w) X.A (pyNext (.ref it)) (fun r s1=>r=none/\Inv X pins σ H s1) E s
 self:∀ (A:Around) (i:Nat) (s:Shared) (Q:Value->Shared->Prop) (E:Value->Shared->Prop),tn i s.heap->Q (.ref it) s->wpAny (model P w) A (pyIter (.ref it)) Q E s
noncomputable abbrev TI:=St->Hp->(It->Hp->Prop)->Prop
noncomputable def PIE (X:Cx)(pins:List (Addr×Obj))(σ:St)(tg:Expr)(R:It->Hp->Prop)(itv:Value)(s2:Shared):Prop :=
 ∃ (it:Addr) (fp:List Addr) (tn:Nat->Heap->Prop) (J:It) (H':Hp),itv=.ref it/\Inv X pins σ H' s2/\mr X.prog X.w X.K tg J fp it tn/\tn 0 s2.heap/\(∀ b∈fp,gQ X pins H' b)/\R J H'
noncomputable def PI (X:Cx)(tg iter:Expr)(wi:TI):Prop :=
 ∀ (pins:List (Addr×Obj)) (s:Shared) (σ:St) (H:Hp) (R:It->Hp->Prop),Inv X pins σ H s->wi σ H R ->
  wpAny (model X.prog X.w) X.A (eval iter X.env) (fun v s1=>wpAny (model X.prog X.w) X.A (pyIter v) (PIE X pins σ tg R) X.xe s1) X.xe s
theorem tU {M:Model}{A:Around}{E:Value->Shared->Prop}{s:Shared}{tg:Expr}{it:Addr}{u:Value}{o:Obj}{n:String}{vs:Array Value}{Q:Unit->Shared->Prop}(ho:s.heap.get? it=some o)(hc:o.cls=.type n)(hd:o.data=.fields vs)
  (hn:["enumerate","zip","dict_itemiterator","dict_reverseitemiterator","odict_iterator","itertools.zip_longest","itertools.pairwise"].contains n=false) (hQ:Q () s):wpAny M A (letOwnedTupleGo tg (.ref it) u) Q E s:=by
 unfold letOwnedTupleGo
 cases tg<;>first
  | exact wpAny_pure hQ
  | (cases u<;>first
    | exact wpAny_pure hQ
    | (refine wpAny_bind (wpAny_load ho ?_)
       rw [hc,hd]
       show wpAny M A (if (["enumerate","zip","dict_itemiterator","dict_reverseitemiterator","odict_iterator","itertools.zip_longest","itertools.pairwise"].contains n&&vs[0]?==some (rawInt _))=true then _ else _) Q E s
       rw [if_neg (by intro h; rw [hn,a1D] at h; cases h)]
       exact wpAny_pure hQ))
noncomputable def Itl (K:a0a)(a:Addr):It :=
 ⟨fun i H=>∃ xs x,SqL K H a xs/\xs[i]?=some x,fun i H x H'=>H'=H/\∀ xs,SqL K H a xs->xs[i]?=some x,fun i H=>∃ xs,SqL K H a xs/\xs.length<=i⟩
noncomputable def Itt (K:a0a)(a:Addr):It :=
 ⟨fun i H=>∃ xs x,SqT K H a xs/\xs[i]?=some x,fun i H x H'=>H'=H/\∀ xs,SqT K H a xs->xs[i]?=some x,fun i H=>∃ xs,SqT K H a xs/\xs.length<=i⟩
noncomputable def Itr (lo:Int)(n:Nat):It:=⟨fun i _=>i < n,fun i H x H'=>H'=H/\x=.int (lo+i),fun i _=>n<=i⟩
theorem pw {P:Program}{w:World}{K:a0a}{tg:Expr}(a it:Addr):mr P w K tg (Itl K a) [it] it (fun i h=>h.IsListIter it a i) where
 mem:=by simp
 obj:=fun i h st b hb=>by
  have e:b=it:=by simpa using hb
  subst e
  obtain ⟨o,e,c,d⟩:=st
  exact ⟨o,e,fun v z=>by rw [d] at z; cases z⟩
 keep:=fun i h h' st k=>st.at fun o e=>k it (by simp) o e
 item:=by
  intro X hP hw hK hc i pins s σ H E I hf st hg
  subst hP hw hK
  obtain ⟨xs,x,hq,hx⟩:=hg
  obtain ⟨its,rv,p,hz⟩:=I.list hq
  obtain ⟨u,hu,ru⟩:=rv.get hx
  obtain ⟨f0,f1,f2,f3,f4,f5⟩:=hf it (by simp)
  refine wpAny_pyNext_list_item st p.isList (x:=u) (by simpa using hu) fun h' st' sb=>?_
  have I1:Inv X pins σ H { s with heap:=h' }:=I.turned (t':=s.toks) (fun b o hb e=>(sb.2 b hb).trans e) f0 f1 f3 f4 f5
  obtain ⟨o,e,c,d⟩:=id st'
  exact ⟨u,rfl,tU (s:={ s with heap:=h' }) e c d (by decide) ⟨x,H,I1,ru,⟨rfl,fun ys hy=>by rw [I.list_inj hy hq]; exact hx⟩,st',fun b hb=>(hf b hb).1⟩⟩
 done:=by
  intro X hP hw hK hc i pins s σ H E I hf st hg
  subst hP hw hK
  obtain ⟨xs,hq,hx⟩:=hg
  obtain ⟨its,rv,p,hz⟩:=I.list hq
  obtain ⟨f0,f1,f2,f3,f4,f5⟩:=hf it (by simp)
  have hl:=rv.length
  exact wpAny_pyNext_list_end (I.ok.hd hc) st p.isList (by simp; omega) fun h' eb=>⟨rfl,I.turned (t':=s.toks) (fun b o hb e=>eb b o hb e) f0 f1 f3 f4 f5⟩
 self:=fun _ _ _ _ _ st h=>wpAny_pyIter_listiter st h
theorem l5 {P:Program}{w:World}{K:a0a}{tg:Expr}(a it:Addr):mr P w K tg (Itt K a) [it] it (fun i h=>h.IsTupleIter it a i) where
 mem:=by simp
 obj:=fun i h st b hb=>by
  have e:b=it:=by simpa using hb
  subst e
  obtain ⟨o,e,c,d⟩:=st
  exact ⟨o,e,fun v z=>by rw [d] at z; cases z⟩
 keep:=fun i h h' st k=>st.at fun o e=>k it (by simp) o e
 item:=by
  intro X hP hw hK hc i pins s σ H E I hf st hg
  subst hP hw hK
  obtain ⟨xs,x,hq,hx⟩:=hg
  obtain ⟨its,rv,p,hz⟩:=I.tuple hq
  obtain ⟨u,hu,ru⟩:=rv.get hx
  obtain ⟨f0,f1,f2,f3,f4,f5⟩:=hf it (by simp)
  refine wpAny_pyNext_tuple_item st (show s.heap.IsTuple a its.toArray from p) (x:=u) (by simpa using hu) fun h' st' sb=>?_
  have I1:Inv X pins σ H { s with heap:=h' }:=I.turned (t':=s.toks) (fun b o hb e=>(sb.2 b hb).trans e) f0 f1 f3 f4 f5
  obtain ⟨o,e,c,d⟩:=id st'
  exact ⟨u,rfl,tU (s:={ s with heap:=h' }) e c d (by decide) ⟨x,H,I1,ru,⟨rfl,fun ys hy=>by rw [I.tuple_inj hy hq]; exact hx⟩,st',fun b hb=>(hf b hb).1⟩⟩
 done:=by
  intro X hP hw hK hc i pins s σ H E I hf st hg
  subst hP hw hK
  obtain ⟨xs,hq,hx⟩:=hg
  obtain ⟨its,rv,p,hz⟩:=I.tuple hq
  obtain ⟨f0,f1,f2,f3,f4,f5⟩:=hf it (by simp)
  have hl:=rv.length
  exact wpAny_pyNext_tuple_end (I.ok.hd hc) st (show s.heap.IsTuple a its.toArray from p) (by simp; omega) fun h' eb=>⟨rfl,I.turned (t':=s.toks) (fun b o hb e=>eb b o hb e) f0 f1 f3 f4 f5⟩
 self:=fun _ _ _ _ _ st h=>wpAny_pyIter_tupleiter st h
theorem mq {P:Program}{w:World}{K:a0a}{tg:Expr}(it:Addr)(lo:Int)(n:Nat):mr P w K tg (Itr lo n) [it] it (fun i h=>IsRangeIter h it (lo+(i:Nat) * 1) ((n:Int)-(i:Nat)) 1) where
 mem:=by simp
 obj:=fun i h st b hb=>by
  have e:b=it:=by simpa using hb
  subst e
  exact ⟨_,st,fun v z=>by
   have z':Data.fields _=Data.cell v:=z
   cases z'⟩
 keep:=fun i h h' st k=>k it (by simp) _ st
 item:=by
  intro X hP hw hK hc i pins s σ H E I hf st hg
  subst hP hw hK
  obtain ⟨f0,f1,f2,f3,f4,f5⟩:=hf it (by simp)
  have W:=Walks.range (prog:=X.prog) (w:=X.w) (I.ok.hd hc) it lo 1 n
  refine W.item i s _ _ hg st fun v h' tk hv st' kk=>?_
  obtain ⟨t,rfl⟩:=hv
  have I1:Inv X pins σ H { s with heap:=h',toks:=tk }:=I.turned (fun b o hb e=>kk b o (by simpa using hb) e) f0 f1 f3 f4 f5
  refine ⟨_,rfl,tU (s:={ s with heap:=h',toks:=tk }) (n:="range_iterator") st' rfl rfl (by decide) ⟨.int (lo+i),H,I1,⟨t,?_⟩,⟨rfl,rfl⟩,st',fun b hb=>(hf b hb).1⟩⟩
  rw [Int.mul_one]
 done:=by
  intro X hP hw hK hc i pins s σ H E I hf st hg
  subst hP hw hK
  obtain ⟨f0,f1,f2,f3,f4,f5⟩:=hf it (by simp)
  exact wpAny_pyNext_range_end (I.ok.hd hc) st (by have:n<=i:=hg; omega) fun h' eb=>⟨rfl,I.turned (t':=s.toks) (fun b o hb e=>eb b o hb e) f0 f1 f3 f4 f5⟩
 self:=fun _ _ _ _ _ st h=>wpAny_pyIter_rangeiter st h
end L2
namespace L2
open PySem PySem.Spec PyProof.Rows
section
variable {X:Cx}{tg:Expr}
noncomputable def qy (K:a0a)(tl:TE):TI:=fun σ H R=>tl σ H fun x H1=>∃ a,x=.ref a/\(∃ xs,SqL K H1 a xs)/\R (Itl K a) H1
noncomputable def DE (K:a0a)(tl:TE):TI:=fun σ H R=>tl σ H fun x H1=>∃ a,x=.ref a/\(∃ xs,SqT K H1 a xs)/\R (Itt K a) H1
theorem gz {l:Expr}{tl:TE}(hl:PE X l tl):PI X tg l (qy X.K tl):=by
 intro pins s σ H R I h
 refine thn (hl pins s σ H _ I h) fun v s1 ⟨x,H1,I1,r1,q1⟩=>?_
 obtain ⟨a,e,⟨xs,hq⟩,q⟩:=q1
 subst e
 cases r1
 obtain ⟨its,rv,p,hz⟩:=I1.list hq
 refine wpAny_pyIter_list p.isList ?_
 refine ⟨s1.heap.objs.size,[s1.heap.objs.size],_,_,H1,rfl,I1.kept (t':=s1.toks) fun b o e=>Heap.get?_push_of_some _ e,pw a _,⟨_,Heap.get?_push_size _ rfl,rfl,rfl⟩,fun b hb=>?_,q⟩
 have e:b=s1.heap.objs.size:=by simpa using hb
 subst e
 exact I1.fpOk (a0h _) (I1.hok.fresh (a0h _))
theorem Ap {l:Expr}{tl:TE}(hl:PE X l tl):PI X tg l (DE X.K tl):=by
 intro pins s σ H R I h
 refine thn (hl pins s σ H _ I h) fun v s1 ⟨x,H1,I1,r1,q1⟩=>?_
 obtain ⟨a,e,⟨xs,hq⟩,q⟩:=q1
 subst e
 cases r1
 obtain ⟨its,rv,p,hz⟩:=I1.tuple hq
 refine wpAny_pyIter_tuple (show s1.heap.IsTuple a its.toArray from p) ?_
 refine ⟨s1.heap.objs.size,[s1.heap.objs.size],_,_,H1,rfl,I1.kept (t':=s1.toks) fun b o e=>Heap.get?_push_of_some _ e,l5 a _,⟨_,Heap.get?_push_size _ rfl,rfl,rfl⟩,fun b hb=>?_,q⟩
 have e:b=s1.heap.objs.size:=by simpa using hb
 subst e
 exact I1.fpOk (a0h _) (I1.hok.fresh (a0h _))
theorem tK {pins:List (Addr×Obj)}{σ:St}{H:Hp}{s:Shared}{R:It->Hp->Prop}{E:Value->Shared->Prop}{lo hi:Int}{t u v:Tok}{tk:Nat}(I:Inv X pins σ H s)(h1:-(2 ^ 62)<=lo)(h2:lo < 2 ^ 62)(h3:-(2 ^ 62)<=hi)(h4:hi < 2 ^ 62)
  (q:R (Itr lo (hi-lo).toNat) H):wpAny (model X.prog X.w) X.A (pyIter (.ref s.heap.objs.size)) (PIE X pins σ tg R) E { s with heap:=s.heap.push { cls:=.type "range",data:=.fields #[.int lo t,.int hi u,.int 1 v] },toks:=tk }:=by
 refine wpAny_pyIter_range (IsRange.new ..) (small_one h1 h2 h3 h4) ?_
 have I1:Inv X pins σ H { s with heap:=s.heap.push { cls:=.type "range",data:=.fields #[.int lo t,.int hi u,.int 1 v] },toks:=tk }:=I.kept fun b o e=>Heap.get?_push_of_some _ e
 refine ⟨(s.heap.push { cls:=.type "range",data:=.fields #[.int lo t,.int hi u,.int 1 v] }).objs.size,[(s.heap.push { cls:=.type "range",data:=.fields #[.int lo t,.int hi u,.int 1 v] }).objs.size],_,_,H,rfl,
  I1.kept (t':=tk) fun b o e=>Heap.get?_push_of_some _ e,mq _ lo (hi-lo).toNat,?_,fun b hb=>?_,q⟩
 ·have e1:lo+((0:Nat):Int) * 1=lo:=by simp
  have e2:(((hi-lo).toNat:Nat):Int)-((0:Nat):Int)=Builtin.Range.rangeSize lo hi 1:=by rw [rangeSize_one]; split<;>omega
  show IsRangeIter _ _ (lo+((0:Nat):Int) * 1) ((((hi-lo).toNat:Nat):Int)-((0:Nat):Int)) 1
  rw [e1,e2]
  exact Heap.get?_push_size _ rfl
 ·have e:b=(s.heap.push { cls:=.type "range",data:=.fields #[.int lo t,.int hi u,.int 1 v] }).objs.size:=by simpa using hb
  subst e
  exact I1.fpOk (a0h _) (I1.hok.fresh (a0h _))
noncomputable def xP (ta:TA):TI:=fun σ H R=>ta σ H fun vs H1=>∃ j:Int,vs=[.int j]/\-(2 ^ 62)<=j/\j < 2 ^ 62/\R (Itr 0 j.toNat) H1
theorem oE {a:Expr}{ta:TA}{p pos:Pos}(hg:Gl X "range")(hm:X.mg "range"=none)(ha:PA X [a] ta)(hs:starEach [a] X.env=[(false,eval a X.env)]:=by rfl):PI X tg (.Call (.Name "range" p) [a] [] pos) (xP ta):=by
 intro pins s σ H R I h
 refine Call_ (eE I hg hm boot_range (a1b (thn (ha pos pins s σ H _ I h) fun us s1 ⟨vs,H1,I1,r1,q1⟩=>?_) hs rfl))
 obtain ⟨j,e,q1,q2,q⟩:=q1
 subst e
 cases r1 with
 | cons r rr =>
  cases rr
  obtain ⟨t,rfl⟩:=r
  exact call_range_1 (tK I1 (by omega) (by omega) q1 q2 (by simpa using q))
noncomputable def zV (wi:TI)(g:TG)(tb:TS):TS:=fun D σ H=>wi σ H fun J H1=>∃ W:Nat->Nat->St->Hp->Prop,(∃ m,W 0 m σ H1)/\∀ i m σ H,W i m σ H ->
 (J.stop i H/\D.nx σ H)\/(J.go i H/\∃ N:St->Hp->Prop,(∀ σ' H',N σ' H'->∃ m',m' < m/\W (i+1) m' σ' H')/\∀ x H',J.yld i H x H'->g x σ H' fun σ2 H2=>tb { D with nx:=N,ct:=N,bk:=D.nx } σ2 H2)
noncomputable def gP (fp:List Addr)(h:Heap):List (Addr×Obj):=fp.filterMap fun b=>(h.get? b).map fun o=>(b,o)
theorem bX {fp:List Addr}{h:Heap}{b:Addr}{o:Obj}(hb:b∈fp)(e:h.get? b=some o):(b,o)∈gP fp h:=a3f.mpr ⟨b,hb,by rw [e]; rfl⟩
theorem pG {fp:List Addr}{h:Heap}{p:Addr×Obj}(hp:p∈gP fp h):p.1∈fp/\h.get? p.1=some p.2:=by
 obtain ⟨b,hb,e⟩:=a3f.mp hp
 cases q:h.get? b with
 | none=>rw [q] at e; cases e
 | some o =>
  rw [q] at e
  have e':(b,o)=p:=a0G e
  subst e'
  exact ⟨hb,q⟩
theorem Inv.pinned {pins:List (Addr×Obj)}{σ:St}{H:Hp}{s:Shared}{fp:List Addr}(I:Inv X pins σ H s)(hf:∀ b∈fp,gQ X pins H b)(ho:∀ b∈fp,∃ o,s.heap.get? b=some o/\∀ v,o.data≠.cell v):Inv X (pins++gP fp s.heap) σ H s :=
 I.pins_of fun p hp=>(a0O.mp hp).elim (fun z=>I.pin p (a0p _ z)) fun z=>by
  obtain ⟨hb,e⟩:=pG z
  obtain ⟨f0,f1,f2,_⟩:=hf p.1 hb
  obtain ⟨o,e',d⟩:=ho p.1 hb
  rw [e] at e'; cases e'
  exact ⟨e,f0,f1,f2,d⟩
theorem Inv.unpinned {pins pl:List (Addr×Obj)}{σ:St}{H:Hp}{s:Shared}(I:Inv X (pins++pl) σ H s):Inv X pins σ H s:=I.pins_of fun p hp=>I.pin p (a0p _ (a0E _ hp))
theorem gU {iter:Expr}{body:List Stmt}{wi:TI}{g:TG}{tb:TS}{pos:Pos}(hp:PassesOwn (model X.prog X.w) X.A X.env X.xe)(hc:X.calm=true)(hi:PI X tg iter wi)(hg:PG X tg g)(hb:PSs X body tb)
  (hs:∀ x,foldedSetIterable iter X.env x=pure x:=by intro _; rfl):PS X (.For tg iter body [] pos) (zV wi g tb):=by
 intro pins s σ H D I h
 refine wpAny_For (thn (hi pins s σ H _ I h) fun v s1 h1=>thn h1 fun itv s2 h2=>?_) hs
 obtain ⟨it,fp,tn,J,H2,e,I2,T,st2,f2,W,⟨m0,w0⟩,turn⟩:=h2
 subst e
 -- what stays true of the iterator's objects through the loop
 have stat:∀ {H':Hp},(∀ b∈fp,H' b=none)->∀ b∈fp,gQ X pins H' b:=fun hn b hb=>⟨hn b hb,(f2 b hb).2⟩
 refine codeAny_forLoop_any (fun n s'=>∃ i σ' H',Inv X pins σ' H' s'/\tn i s'.heap/\(∀ b∈fp,H' b=none)/\W i n σ' H') ?_ m0 ⟨0,σ,H2,I2,st2,fun b hb=>(f2 b hb).1,w0⟩
 rintro n s3 ⟨i,σ3,H3,I3,st3,fr3,w3⟩
 rcases turn i n σ3 H3 w3 with ⟨stop,qn⟩ | ⟨go,N,hN,step⟩
 ·refine wpAny_passesOwn hp (thn (T.done X rfl rfl rfl hc i pins s3 σ3 H3 X.xe I3 (stat fr3) st3 stop) fun r s4 ⟨hr,I4⟩=>?_)
  subst hr
  exact wpAny_execs_nil ⟨σ3,H3,I4,qn⟩
 ·refine wpAny_passesOwn hp (thn (T.item X rfl rfl rfl hc i pins s3 σ3 H3 X.xe I3 (stat fr3) st3 go) fun r s4 ⟨u,hr,h4⟩=>?_)
  subst hr
  refine wpAny_passesOwn hp (thn h4 fun _ s5 ⟨x,H5,I5,r5,y5,st5,fr5⟩=>?_)
  have I5':=I5.pinned (stat fr5) (T.obj _ _ st5)
  refine wpAny_passesOwn hp (thn (hg _ s5 σ3 H5 x u _ I5' r5 (step x H5 y5)) fun _ s6 ⟨σ6,H6,I6,q6⟩=>?_)
  refine wpAny_passesOwn hp (thn (hb _ s6 σ6 H6 _ I6 q6) fun f s7 q7=>?_)
  have again:∀ {σ7:St} {H7:Hp},Inv X (pins++gP fp s5.heap) σ7 H7 s7->N σ7 H7->∃ m,m < n/\∃ i σ' H',Inv X pins σ' H' s7/\tn i s7.heap/\(∀ b∈fp,H' b=none)/\W i m σ' H':=fun {σ7 H7} I7 n7=>by
   obtain ⟨m',hm,w7⟩:=hN σ7 H7 n7
   refine ⟨m',hm,i+1,σ7,H7,I7.unpinned,T.keep _ _ _ st5 fun b hb o e=>(I7.pin (b,o) (a0p _ (a0p _ (bX hb e)))).1,fun b hb=>?_,w7⟩
   obtain ⟨o,e,d⟩:=T.obj _ _ st5 b hb
   exact (I7.pin (b,o) (a0p _ (a0p _ (bX hb e)))).2.1
  cases f with
  | next=>obtain ⟨σ7,H7,I7,n7⟩:=q7; exact again I7 n7
  | cont=>obtain ⟨σ7,H7,I7,n7⟩:=q7; exact again I7 n7
  | brk=>obtain ⟨σ7,H7,I7,q7⟩:=q7; exact ⟨σ7,H7,I7.unpinned,q7⟩
  | ret v=>obtain ⟨x7,σ7,H7,I7,r7,q7⟩:=q7; exact ⟨x7,σ7,H7,I7.unpinned,r7,q7⟩
end
theorem gZ {K:a0a}{a:Addr}{xs:List V}{g:TG}{tb:TS}{D:cz}{σ:St}{H:Hp}(Pv:Nat->St->Hp->Prop)(h0:Pv 0 σ H)(hl:∀ i σ H,i<=xs.length->Pv i σ H->SqL K H a xs)
  (hs:∀ i x σ H,xs[i]?=some x->Pv i σ H->g x σ H fun σ2 H2=>tb { D with nx:=Pv (i+1),ct:=Pv (i+1),bk:=D.nx } σ2 H2) (hd:∀ σ H,Pv xs.length σ H->D.nx σ H) :
  ∃ W:Nat->Nat->St->Hp->Prop,(∃ m,W 0 m σ H)/\∀ i m σ H,W i m σ H ->
   ((Itl K a).stop i H/\D.nx σ H)\/((Itl K a).go i H/\∃ N:St->Hp->Prop,(∀ σ' H',N σ' H'->∃ m',m' < m/\W (i+1) m' σ' H')/\∀ x H',(Itl K a).yld i H x H'->g x σ H' fun σ2 H2=>tb { D with nx:=N,ct:=N,bk:=D.nx } σ2 H2):=by
 refine ⟨fun i m σ H=>m=xs.length-i/\i<=xs.length/\Pv i σ H,⟨xs.length,by simp,a0Y _,h0⟩,?_⟩
 rintro i m σ H ⟨rfl,hi,p⟩
 have q:=hl i σ H hi p
 by_cases hlt:i < xs.length
 ·refine .inr ⟨⟨xs,xs[i],q,by simp [hlt]⟩,Pv (i+1),fun σ' H' p'=>⟨xs.length-(i+1),by omega,rfl,hlt,p'⟩,fun x H' y=>?_⟩
  obtain ⟨e,y⟩:=y
  subst e
  exact hs i x σ _ (y xs q) p
 ·have e:i=xs.length:=by omega
  subst e
  exact .inl ⟨⟨xs,q,a0h _⟩,hd σ H p⟩
end L2
namespace L2
open PySem PySem.Spec PyProof.Rows
noncomputable abbrev R2:=V->V->Hp->VK->Prop
noncomputable def OpR (X:Cx)(f:Value->Value->Sem Value)(r:R2):Prop :=
 ∀ (pins:List (Addr×Obj)) (s:Shared) (σ:St) (H:Hp) (x y:V) (v u:Value) (Q:VK),Inv X pins σ H s->RelV x v->RelV y u->r x y H Q ->
  wpAny (model X.prog X.w) X.A (f v u) (EP X pins σ Q) X.xe s
noncomputable def cO (X:Cx)(f:Value)(r:List V->Hp->VK->Prop):Prop :=
 ∀ (pins:List (Addr×Obj)) (s:Shared) (σ:St) (H:Hp) (xs:List V) (us:List Value) (Q:VK),Inv X pins σ H s->Vals xs us->r xs H Q ->
  wpAny (model X.prog X.w) X.A (call f us) (EP X pins σ Q) X.xe s
noncomputable def EI (X:Cx)(r:V->Hp->(Bool->Hp->Prop)->Prop):Prop :=
 ∀ (pins:List (Addr×Obj)) (s:Shared) (σ:St) (H:Hp) (x:V) (v:Value) (Q:Bool->Hp->Prop),Inv X pins σ H s->RelV x v->r x H Q ->
  wpAny (model X.prog X.w) X.A (truthy v) (TP X pins σ Q) X.xe s
noncomputable def tOp (r:R2)(ta tb:TE):TE:=fun σ H Q=>ta σ H fun x H1=>tb σ H1 fun y H2=>r x y H2 Q
noncomputable def rI (C:Int->Int->Prop)(g:Int->Int->V):R2:=fun x y H Q=>∃ i j,x=.int i/\y=.int j/\C i j/\Q (g i j) H
noncomputable def rI0 (g:Int->Int->V):R2:=fun x y H Q=>∃ i j,x=.int i/\y=.int j/\Q (g i j) H
section
variable {X:Cx}{a b c:Expr}{ta tb tc:TE}{pos:Pos}
theorem AI (ha:PE X a ta)(hb:PE X b tb){pins:List (Addr×Obj)}{s:Shared}{σ:St}{H:Hp}{R:V->V->Hp->Prop}(I:Inv X pins σ H s)
  (h:ta σ H fun x H1=>tb σ H1 fun y H2=>R x y H2) {Q:Value->Shared->Prop} {f:Value->Value->Sem Value}
  (hf:∀ v u s2 x y H2,Inv X pins σ H2 s2->RelV x v->RelV y u->R x y H2->wpAny (model X.prog X.w) X.A (f v u) Q X.xe s2) :
  wpAny (model X.prog X.w) X.A (eval a X.env) (fun v s₁=>wpAny (model X.prog X.w) X.A (eval b X.env) (fun u s₂=>wpAny (model X.prog X.w) X.A (f v u) Q X.xe s₂) X.xe s₁) X.xe s:=by
 refine thn (ha pins s σ H _ I h) fun v s1 ⟨x,H1,I1,r1,q1⟩=>?_
 refine thn (hb pins s1 σ H1 _ I1 q1) fun u s2 ⟨y,H2,I2,r2,q2⟩=>?_
 exact hf v u s2 x y H2 I2 r1 r2 q2
theorem fO {op:Operator}{r:R2}(ho:OpR X (binaryOp op) r)(ha:PE X a ta)(hb:PE X b tb):PE X (.BinOp a op b pos) (tOp r ta tb):=by
 intro pins s σ H Q I h
 exact wpAny_BinOp (AI ha hb I h fun v u s2 x y H2 I2 rx ry q=>ho pins s2 σ H2 x y v u Q I2 rx ry q)
theorem opI {f:Value->Value->Sem Value}{C:Int->Int->Prop}{g:Int->Int->Int}
  (rule:∀ (i j:Int) (t u:Tok) (s:Shared) (Q:Value->Shared->Prop) (E:Value->Shared->Prop),C i j->Q (.int (g i j) s.toks) { s with toks:=s.toks+1 }->wpAny (model X.prog X.w) X.A (f (.int i t) (.int j u)) Q E s) :
  OpR X f (rI C fun i j=>.int (g i j)):=by
 intro pins s σ H x y v u Q I rx ry h
 obtain ⟨i,j,rfl,rfl,hc,q⟩:=h
 obtain ⟨t,rfl⟩:=rx
 obtain ⟨t',rfl⟩:=ry
 exact rule i j t t' s _ _ hc ⟨.int (g i j),H,I.tok _,⟨_,rfl⟩,q⟩
theorem CU {f:Value->Value->Sem Value}{g:Int->Int->Int}
  (rule:∀ (i j:Int) (t u:Tok) (s:Shared) (Q:Value->Shared->Prop) (E:Value->Shared->Prop),Q (.int (g i j) s.toks) { s with toks:=s.toks+1 }->wpAny (model X.prog X.w) X.A (f (.int i t) (.int j u)) Q E s) :
  OpR X f (rI0 fun i j=>.int (g i j)):=by
 intro pins s σ H x y v u Q I rx ry h
 obtain ⟨i,j,rfl,rfl,q⟩:=h
 obtain ⟨t,rfl⟩:=rx
 obtain ⟨t',rfl⟩:=ry
 exact rule i j t t' s _ _ ⟨.int (g i j),H,I.tok _,⟨_,rfl⟩,q⟩
theorem vF {f:Value->Value->Sem Value}{g:Int->Int->Bool}
  (rule:∀ (i j:Int) (t u:Tok) (s:Shared) (Q:Value->Shared->Prop) (E:Value->Shared->Prop),Q (.bool (g i j)) s->wpAny (model X.prog X.w) X.A (f (.int i t) (.int j u)) Q E s) :
  OpR X f (rI0 fun i j=>.bl (g i j)):=by
 intro pins s σ H x y v u Q I rx ry h
 obtain ⟨i,j,rfl,rfl,q⟩:=h
 obtain ⟨t,rfl⟩:=rx
 obtain ⟨t',rfl⟩:=ry
 exact rule i j t t' s _ _ ⟨.bl (g i j),H,I,rfl,q⟩
noncomputable def Aq (i j:Int):Prop:=0 < j/\j < 1073741824
noncomputable def AR (i j:Int):Prop:=0<=j/\j<=1000000/\i.natAbs < 2 ^ 64
noncomputable def CMul (i j:Int):Prop:=(-(2 ^ 64) < i/\i < 2 ^ 64)\/(-(2 ^ 64) < j/\j < 2 ^ 64)
theorem CMul.ok {i j:Int}(h:CMul i j):IntMulOk i j:=by
 rcases h with ⟨h1,h2⟩ | ⟨h1,h2⟩
 ·exact .of_left (intBits_le_64 h1 h2)
 ·exact .of_right (intBits_le_64 h1 h2)
theorem op_add:OpR X (binaryOp .Add) (rI0 fun i j=>.int (i+j)):=CU fun _ _ _ _ _ _ _ q=>add_int q
theorem A8:OpR X (binaryOp .Sub) (rI0 fun i j=>.int (i-j)):=CU fun _ _ _ _ _ _ _ q=>sub_int q
theorem op_mul:OpR X (binaryOp .Mult) (rI CMul fun i j=>.int (i * j)):=opI fun _ _ _ _ _ _ _ hc q=>mul_int q hc.ok
theorem vd:OpR X (binaryOp .FloorDiv) (rI Aq fun i j=>.int (i / j)):=opI fun i j _ _ _ _ _ hc q=>by
 have h1:(0:Int) < j:=hc.1
 have h2:j < 1073741824:=hc.2
 exact floordiv_int (by omega) (by rw [Int.fdiv_eq_ediv_of_nonneg i (by omega)]; exact q) (.inl (PyProof.noPylong_small (by omega)))
theorem zi:OpR X (binaryOp .Mod) (rI (fun _ j=>0 < j) fun i j=>.int (i % j)):=opI fun i j _ _ _ _ _ hc q=>by
 have h1:(0:Int) < j:=hc
 exact mod_int' (by omega) (by rw [Int.fmod_eq_emod_of_nonneg i (by omega)]; exact q)
theorem yW:OpR X (binaryOp .Pow) (rI AR fun i j=>.int (i ^ j.toNat)):=opI fun _ _ _ _ _ _ _ hc q=>pow_int_small hc.1 hc.2.1 hc.2.2 q
end
section
variable {X:Cx}{a b c:Expr}{ta tb tc:TE}{pos:Pos}
theorem qp {pins:List (Addr×Obj)}{σ:St}{H:Hp}{s:Shared}{Q:VK}{k k':Bool}(I:Inv X pins σ H s)(q:Q (.bl k) H)(e:k=k'):EP X pins σ Q (.bool k') s:=by
 subst e
 exact ⟨.bl k,H,I,rfl,q⟩
theorem yb:OpR X (compareOp .Lt) (rI0 fun i j=>.bl (decide (i < j))):=vF fun _ _ _ _ _ _ _ q=>lt_int q
theorem DT:OpR X (compareOp .LtE) (rI0 fun i j=>.bl (decide (i<=j))):=vF fun _ _ _ _ _ _ _ q=>le_int q
theorem Dr:OpR X (compareOp .Gt) (rI0 fun i j=>.bl (decide (j < i))):=vF fun _ _ _ _ _ _ _ q=>gt_int q
theorem CM:OpR X (compareOp .GtE) (rI0 fun i j=>.bl (decide (j<=i))):=vF fun _ _ _ _ _ _ _ q=>ge_int q
theorem As:OpR X (compareOp .Is) (fun x y H Q=>y=.non/\Q (.bl (decide (x=.non))) H):=by
 intro pins s σ H x y v u Q I rx ry h
 obtain ⟨rfl,q⟩:=h
 cases ry
 refine is_none_gen (qp I q ?_)
 cases x<;>first
  | (cases rx; rfl)
  | (obtain ⟨t,rfl⟩:=rx; rfl)
theorem vW:OpR X (compareOp .IsNot) (fun x y H Q=>y=.non/\Q (.bl (!decide (x=.non))) H):=by
 intro pins s σ H x y v u Q I rx ry h
 obtain ⟨rfl,q⟩:=h
 cases ry
 refine isnot_none_gen (qp I q ?_)
 cases x<;>first
  | (cases rx; rfl)
  | (obtain ⟨t,rfl⟩:=rx; rfl)
theorem OpR.or {f:Value->Value->Sem Value}{r r':R2}(h:OpR X f r)(h':OpR X f r'):OpR X f (fun x y H Q=>r x y H Q\/r' x y H Q):=by
 intro pins s σ H x y v u Q I rx ry q
 rcases q with q | q
 ·exact h pins s σ H x y v u Q I rx ry q
 ·exact h' pins s σ H x y v u Q I rx ry q
theorem cX (b:Expr){op:CmpOp}(h:op≠.In:=by decide)(h2:op≠.NotIn:=by decide):behindInMarks op b=false:=by
 have e1:(op==CmpOp.In)=false:=by cases op<;>first | rfl | exact absurd rfl h
 have e2:(op==CmpOp.NotIn)=false:=by cases op<;>first | rfl | exact absurd rfl h2
 cases b<;>simp [behindInMarks,e1,e2]
theorem nr {op:CmpOp}{r:R2}(ho:OpR X (compareOp op) r)(ha:PE X a ta)(hb:PE X b tb)(hm:behindInMarks op b=false):PE X (.Compare a [op] [b] pos) (tOp r ta tb):=by
 intro pins s σ H Q I h
 exact wpAny_Compare1 (AI ha hb I h fun v u s2 x y H2 I2 rx ry q=>ho pins s2 σ H2 x y v u Q I2 rx ry q) hm
noncomputable def xH (t:TE):TT:=fun σ H Q=>t σ H fun x H'=>∃ k,x=.bl k/\Q k H'
theorem n8 {op:CmpOp}{r:R2}(ho:OpR X (compareOp op) r)(ha:PE X a ta)(hb:PE X b tb)(hm:behindInMarks op b=false):PT X (.Compare a [op] [b] pos) (xH (tOp r ta tb)):=by
 intro pins s σ H Q I h
 refine wpAny_isTrue_Compare1 (thn (ha pins s σ H _ I h) fun v s1 ⟨x,H1,I1,r1,q1⟩=>thn (hb pins s1 σ H1 _ I1 q1) fun u s2 ⟨y,H2,I2,r2,q2⟩ =>
  thn (ho pins s2 σ H2 x y v u _ I2 r1 r2 q2) fun c s3 ⟨z,H3,I3,r3,k,e,q3⟩=>?_) hm
 subst e
 cases r3
 exact wpAny_truthy_bool ⟨H3,I3,q3⟩
noncomputable def zB (K:a0a)(x:V)(H:Hp)(k:Bool):Prop :=
 match x with
 | .non=>k=false
 | .bl b=>k=b
 | .int i=>k=(i != 0)
 | .str y=>y.length<=sizeLine/\k=((y.length:Int) != 0)
 | .byt y=>y.size<=sizeLine/\k=((y.size:Int) != 0)
 | .ref p=>(∃ xs,SqL K H p xs/\k=!xs.isEmpty)\/(∃ xs,SqT K H p xs/\k=!xs.isEmpty)\/∃ kvs,H p=some (.dK kvs)/\k=!kvs.isEmpty
 | _=>False
theorem l6 {κ:Type}{kvs:List (κ×V)}{vs:List (κ×Value)}(r:KV kvs vs):(!vs.isEmpty)=!kvs.isEmpty:=by
 cases r<;>rfl
theorem gR {xs:List V}{its:List Value}(r:Vals xs its):(!its.toArray.isEmpty)=!xs.isEmpty:=by
 cases r<;>simp
theorem fB:(sizeLine:Nat) < 2 ^ 63:=by rw [sizeLine_eq]; decide
theorem yu:EI X (fun x H Q=>∃ k,zB X.K x H k/\Q k H):=by
 intro pins s σ H x v Q I rx h
 obtain ⟨k,e,q⟩:=h
 have hl:=fB
 have hs:sizeLine=16777216:=sizeLine_eq
 cases x with
 | non =>
  cases rx
  have e':k=false:=e
  subst e'
  exact truthy_none ⟨H,I,q⟩
 | bl b =>
  cases rx
  have e':k=b:=e
  subst e'
  exact wpAny_truthy_bool ⟨H,I,q⟩
 | int i =>
  obtain ⟨t,rfl⟩:=rx
  have e':k=(i != 0):=e
  subst e'
  exact PySem.P.truthy_int ⟨H,I,q⟩
 | str y =>
  obtain ⟨t,rfl⟩:=rx
  obtain ⟨hy,e'⟩:y.length<=sizeLine/\k=((y.length:Int) != 0):=e
  subst e'
  exact PySem.P.truthy_str (by omega) ⟨H,I.tok _,q⟩
 | byt y =>
  obtain ⟨t,rfl⟩:=rx
  obtain ⟨hy,e'⟩:y.size<=sizeLine/\k=((y.size:Int) != 0):=e
  subst e'
  exact PySem.W.truthy_bytes (by omega) ⟨H,I.tok _,q⟩
 | ref p =>
  cases rx
  have e':(∃ xs,SqL X.K H p xs/\k=!xs.isEmpty)\/(∃ xs,SqT X.K H p xs/\k=!xs.isEmpty)\/∃ kvs,H p=some (.dK kvs)/\k=!kvs.isEmpty:=e
  rcases e' with ⟨xs,hx,e'⟩ | ⟨xs,hx,e'⟩ | ⟨kvs,hx,e'⟩
  ·subst e'
   obtain ⟨its,r,pl,hz⟩:=I.list hx
   have hlen:=r.length
   exact wpAny_truthy_list pl.isList (by simp only [a0m]; omega) ⟨H,I.tok _,by rw [gR r]; exact q⟩
  ·subst e'
   obtain ⟨its,r,pl,hz⟩:=I.tuple hx
   have hlen:=r.length
   exact truthy_tuple pl (by simp only [a0m]; omega) ⟨H,I.tok _,by rw [gR r]; exact q⟩
  ·subst e'
   obtain ⟨hz,hS,vs,r,m⟩:kvs.length<=sizeLine/\(p==sysModules)=false/\∃ vs,KV kvs vs/\s.heap.DictOf (j8 X.prog X.w) p vs:=I.hok p _ hx
   have hlen:kvs.length=vs.length:=Paired.length r
   exact wpAny_truthy_dict hS m (by omega) ⟨H,I.tok _,by rw [l6 r]; exact q⟩
 | _=>exact (show False from e).elim
theorem qq (ha:PE X a ta)(he:∀ whole,isTrue a X.env whole=(do let v <- whole; standAt a.pos; holding [v] (truthy v))) :
  PT X a (fun σ H Q=>ta σ H fun x H'=>∃ k,zB X.K x H' k/\Q k H'):=by
 intro pins s σ H Q I h
 exact isTrue_plain (thn (ha pins s σ H _ I h) fun v s1 ⟨x,H1,I1,r1,q1⟩=>yu pins s1 σ H1 x v Q I1 r1 q1) (he _)
theorem op_add_str:OpR X (binaryOp .Add) (fun x y H Q=>∃ i j,x=.str i/\y=.str j/\i.length+j.length<=sizeLine/\Q (.str (i++j)) H):=by
 intro pins s σ H x y v u Q I rx ry h
 obtain ⟨i,j,rfl,rfl,hz,q⟩:=h
 obtain ⟨t,rfl⟩:=rx
 obtain ⟨t',rfl⟩:=ry
 exact add_str (fun t' tk=>⟨.str (i++j),H,I.tok _,⟨_,rfl⟩,q⟩) hz
theorem fS {x:V}{us:List Value}(r:Vals [x] us):∃ u,us=[u]/\RelV x u:=by
 cases r with
 | cons r1 r2=>cases r2; exact ⟨_,rfl,r1⟩
theorem gI {x y:V}{us:List Value}(r:Vals [x,y] us):∃ u w',us=[u,w']/\RelV x u/\RelV y w':=by
 cases r with
 | cons r1 r2 =>
  cases r2 with
  | cons r3 r4=>cases r4; exact ⟨_,_,rfl,r1,r3⟩
theorem pA (hc:X.calm=true):cO X (.builtin "min") (fun xs H Q=>∃ i j,xs=[.int i,.int j]/\Q (.int (if j < i then j else i)) H):=by
 intro pins s σ H xs us Q I r h
 obtain ⟨i,j,rfl,q⟩:=h
 obtain ⟨u,w',rfl,⟨t,rfl⟩,⟨t',rfl⟩⟩:=gI r
 refine min_two_ints (I.ok.hd hc) fun h' tk k=>⟨_,H,I.kept k,?_,q⟩
 by_cases hj:j < i
 ·rw [if_pos hj,if_pos hj]; exact ⟨_,rfl⟩
 ·rw [if_neg hj,if_neg hj]; exact ⟨_,rfl⟩
noncomputable def CF (K:a0a)(x:V)(H:Hp)(n:Nat):Prop :=
 match x with
 | .str y=>y.length<=sizeLine/\n=y.length
 | .byt y=>y.size<=sizeLine/\n=y.size
 | .ref p=>(∃ xs,SqL K H p xs/\n=xs.length)\/∃ xs,SqT K H p xs/\n=xs.length
 | _=>False
theorem su:cO X (.builtin "len") (fun xs H Q=>∃ x n,xs=[x]/\CF X.K x H n/\Q (.int n) H):=by
 intro pins s σ H xs us Q I r h
 obtain ⟨x,n,rfl,e,q⟩:=h
 obtain ⟨u,rfl,rx⟩:=fS r
 have hl:=fB
 have hs:sizeLine=16777216:=sizeLine_eq
 cases x with
 | str y =>
  obtain ⟨t,rfl⟩:=rx
  obtain ⟨hy,e'⟩:y.length<=sizeLine/\n=y.length:=e
  subst e'
  exact len_str (by omega) ⟨.int _,H,I.tok _,⟨_,rfl⟩,q⟩
 | byt y =>
  obtain ⟨t,rfl⟩:=rx
  obtain ⟨hy,e'⟩:y.size<=sizeLine/\n=y.size:=e
  subst e'
  exact PySem.W.len_bytes (by omega) ⟨.int _,H,I.tok _,⟨_,rfl⟩,q⟩
 | ref p =>
  cases rx
  have e':(∃ xs,SqL X.K H p xs/\n=xs.length)\/∃ xs,SqT X.K H p xs/\n=xs.length:=e
  rcases e' with ⟨xs,hx,e'⟩ | ⟨xs,hx,e'⟩
  ·subst e'
   obtain ⟨its,r',pl,hz⟩:=I.list hx
   have hlen:=r'.length
   exact Calls.call_len_list pl.isList (by simp only [a0m]; omega) ⟨.int xs.length,H,I.tok _,⟨_,by simp only [a0m]; rw [hlen]⟩,q⟩
  ·subst e'
   obtain ⟨its,r',pl,hz⟩:=I.tuple hx
   have hlen:=r'.length
   exact len_tuple pl (by simp only [a0m]; omega) ⟨.int xs.length,H,I.tok _,⟨_,by simp only [a0m]; rw [hlen]⟩,q⟩
 | _=>exact (show False from e).elim
end
end L2
namespace L2
open PySem PySem.Spec PyProof.Rows
structure ObjM (h:Heap)(x dx C:Addr)(mA:Str->Option Value):Prop where
 obj:h.get? x=some (a2Z C dx)
 ns:h.Ns1 dx mA
 ne:dx≠x
theorem pN {h:Heap}{dx:Addr}{mA:Str->Option Value}(n:h.Ns1 dx mA):∃ od,h.get? dx=some od/\∀ name,a28 name od=some (mA name):=by
 obtain ⟨o,es,ep,ho,hd,hk,_,hm⟩:=n
 refine ⟨o,ho,fun name=>?_⟩
 have e:=hm name
 unfold nsFind findBy at e
 rw [<- a3g] at e
 unfold a28
 rw [hd]
 dsimp only
 split
 ·rename_i y q
  rw [q] at e
  exact congrArg some e
 ·rename_i q
  rw [q] at e
  have a:es.toList.any (·.refKey)=false:=by
   rw [a3m]
   intro y hy
   obtain ⟨z,t,hkey⟩:=hk y (Array.mem_toList_iff.mp hy)
   simp [DictEntry.refKey,hkey]
  have a':¬ es.toList.any (·.refKey)=true:=by rw [a]; exact a0j
  rw [if_neg a']
  exact congrArg some e
theorem ObjM.look {h:Heap}{x dx C:Addr}{mA:Str->Option Value}(I:ObjM h x dx C mA):∃ od,PySem.W.InstAt h x (a2Z C dx) C (some od)/\∀ name,a28 name od=some (mA name) :=
 let ⟨od,ho,hl⟩:=pN I.ns
 ⟨od,⟨I.obj,rfl,rfl,ho⟩,hl⟩
noncomputable def uO (f:Str)(v:V):List (Str×V)->List (Str×V)
 | []=>[(f,v)]
 | (g,x)::r=>if g=f then (g,v)::r else (g,x)::uO f v r
section
variable {P:Program}{w:World}{H H':Hp}{h h':Heap}{a C dx:Addr}{fs fs':List (Str×V)}
theorem wq (hok:HOk P w H h)(e:H a=some (.ins C dx fs)):∃ mA,ObjM h a dx C mA/\(∀ f,RelO (fs.lookup f) (mA f))/\a3N mA (fs.map (·.1))/\fs.length<=1000/\H dx=some (.own a):=by
 obtain ⟨d,z,ne,ob,mA,n,r,q⟩:=(show ObjOk P w H h a (.ins C dx fs) from hok a _ e)
 exact ⟨mA,⟨ob,n,ne⟩,r,q,z,d⟩
end
structure Cls (K:a0a)(C:Addr):Prop where
 pg:a3s K C Str.empty=true
 hd:PySem.W.hasDictIn K C=true
 po:PySem.W.plainOver K C=true
 sa:a3E K (.ref C) "__setattr__"=some (some (.builtin "object.__setattr__"))
theorem Cls.get {K:a0a}{C:Addr}(c:Cls K C)(f:Str):a3s K C f=true:=c.pg
section
variable {X:Cx}{pins:List (Addr×Obj)}{σ:St}{H:Hp}{s:Shared}{A:Around}{E:Value->Shared->Prop}{Q:Value->Shared->Prop}{c:Value}{b:Bool}
inductive gh (K:a0a)(H:Hp):V->Value->Prop where
 | non:gh K H .non (.type "NoneType")
 | bl (x:Bool):gh K H (.bl x) (.type "bool")
 | int (i:Int):gh K H (.int i) (.type "int")
 | str (x:Str):gh K H (.str x) (.type "str")
 | flt (x:UInt64):gh K H (.flt x) (.type "float")
 | lst {a:Addr} {xs:List V} (e:H a=some (.lst xs)):gh K H (.ref a) (.type "list")
 | frz {a:Addr} {o:Obj} {xs:List V} (e:H a=some (.frz o (.lst xs))):gh K H (.ref a) (.type "list")
 | tup {a:Addr} {xs:List V} (e:H a=some (.tup xs)):gh K H (.ref a) (.type "tuple")
 | dK {a:Addr} {kvs:List (Key×V)} (e:H a=some (.dK kvs)):gh K H (.ref a) (.type "dict")
 | dT {a:Addr} {kvs:List (List Key×V)} (e:H a=some (.dT kvs)):gh K H (.ref a) (.type "dict")
 | ins {a C dx:Addr} {fs:List (Str×V)} (e:H a=some (.ins C dx fs)) (cl:Cls K C) (ha:a3E K (.ref C) "__class__"=some (some (.builtin "object.__class__")))
   (hn:PySem.W.specialIn K (.builtin "object.__class__") "__get__"=some (some (.builtin "getset_descriptor.__get__"))) (htk:PySem.W.takesIn K (.builtin "object.__class__")=some true)
   (hm:PySem.W.mroIn K C (.type "object")=some true):gh K H (.ref a) (.ref C)
theorem ef {x:V}{u t:Value}(I:Inv X pins σ H s)(rx:RelV x u)(ty:gh X.K H x t)(e:a09 X.K t c=some b)(h:∀ tk,Q (.bool b) { s with toks:=tk }) :
  wpAny (model X.prog X.w) A (call (.builtin "isinstance") [u,c]) Q E s:=by
 cases ty with
 | non=>cases (show u=Value.none from rx); exact a0W a2F I.kIn a0H e (fun z=>nomatch z) h
 | bl y=>cases (show u=Value.bool y from rx); exact a0W a2G I.kIn a0H e (fun z=>nomatch z) h
 | int i=>obtain ⟨t,q⟩:=(show ∃ t,u=Value.int i t from rx); cases q; exact a0W a2O I.kIn a0H e (fun z=>nomatch z) h
 | str y=>obtain ⟨t,q⟩:=(show ∃ t,u=Value.str y t from rx); cases q; exact a0W a2P I.kIn a0H e (fun z=>nomatch z) h
 | flt y=>obtain ⟨t,q⟩:=(show ∃ t,u=Value.float y t from rx); cases q; exact a0W PySem.W.kitx_float I.kIn a0H e (fun z=>nomatch z) h
 | @lst a xs ea =>
  cases (show u=Value.ref a from rx)
  obtain ⟨_,_,n,_,h1⟩:=(show ObjOk X.prog X.w H s.heap a (.lst xs) from I.hok a _ ea)
  exact a0W a1P I.kIn ⟨_,h1,rfl⟩ e (fun z=>nomatch z) h
 | @frz a ob xs ea =>
  cases (show u=Value.ref a from rx)
  obtain ⟨_,_,_,n,_,h1⟩:=(show ObjOk X.prog X.w H s.heap a (.frz ob (.lst xs)) from I.hok a _ ea)
  exact a0W a1P I.kIn ⟨_,h1,rfl⟩ e (fun z=>nomatch z) h
 | @tup a xs ea =>
  cases (show u=Value.ref a from rx)
  obtain ⟨_,_,_,p⟩:=(show ObjOk X.prog X.w H s.heap a (.tup xs) from I.hok a _ ea)
  obtain ⟨o,h1,h2,_⟩:=p
  exact a0W a15 I.kIn ⟨o,h1,h2⟩ e (fun z=>nomatch z) h
 | @dK a kvs ea =>
  cases (show u=Value.ref a from rx)
  obtain ⟨_,_,vs,_,p⟩:=(show ObjOk X.prog X.w H s.heap a (.dK kvs) from I.hok a _ ea)
  obtain ⟨o,es,ep,h1,h2,_⟩:=p
  exact a0W a3n I.kIn ⟨o,h1,h2.1⟩ e (fun z=>nomatch z) h
 | @dT a kvs ea =>
  cases (show u=Value.ref a from rx)
  obtain ⟨_,_,xs,_,o,es,ep,h1,h2,_⟩:=(show ObjOk X.prog X.w H s.heap a (.dT kvs) from I.hok a _ ea)
  exact a0W a3n I.kIn ⟨o,h1,h2.1⟩ e (fun z=>nomatch z) h
 | @ins a C dx fs ea cl ha hn htk hm =>
  cases (show u=Value.ref a from rx)
  obtain ⟨mA,O,_⟩:=wq I.hok ea
  obtain ⟨od,J,_⟩:=O.look
  exact a0W (PySem.W.kitx_own (cl.get _) cl.hd ha hn htk hm) I.kIn J e (fun z=>nomatch z) h
end
end L2
namespace L2
open PySem PySem.Spec PyProof.Rows
structure Room (k:Nat)(A:Around):Prop where
 hd:A.handled=none
 dp:A.depth+3 * k+5 < recursionLimit
 un:A.units+16 * k+200 < cLine
theorem Room.deeper {k:Nat}{A:Around}(r:Room (k+1) A)(env:Env):Room k (A.deeper env) :=
 ⟨r.hd,by have:=r.dp; show A.depth+1+3 * k+5 < _; omega,by have:=r.un; show A.units+3+16 * k+200 < _; omega⟩
theorem Room.depth {k:Nat}{A:Around}(r:Room k A):A.depth < recursionLimit:=by have:=r.dp; omega
theorem Room.units {k:Nat}{A:Around}(r:Room k A):A.units+64 < cLine:=by have:=r.un; omega
noncomputable def By:TA:=fun _ H Q=>Q [] H
noncomputable def nX (ta:TE)(tr:TA):TA:=fun σ H Q=>ta σ H fun x H1=>tr σ H1 fun xs H2=>Q (x::xs) H2
section
variable {X:Cx}{e:Expr}{es:List Expr}{te:TE}{t:TA}{pos:Pos}
theorem bf:PA X [] By:=fun _ _ _ _ H Q I h=>Calls.spliced_nil ⟨[],H,I,.nil,h⟩
theorem aC (ha:PE X e te)(hr:PA X es t)(hs:starEach (e::es) X.env=(false,eval e X.env)::starEach es X.env:=by rfl):PA X (e::es) (nX te t):=by
 intro pos pins s σ H Q I h
 rw [hs]
 show wpAny _ _ (spliced ((false,eval e X.env)::backTo pos (starEach es X.env))) _ _ s
 refine Calls.spliced_cons (thn (ha pins s σ H _ I h) fun u s1 ⟨x,H1,I1,r1,q1⟩=>?_)
 exact thn (hr pos pins s1 σ H1 _ I1 q1) fun us s2 ⟨xs,H2,I2,r2,q2⟩=>⟨x::xs,H2,I2,.cons r1 r2,q2⟩
noncomputable def BB (t:TA):TE:=fun σ H Q=>t σ H fun xs H1=>xs.length<=sizeLine/\∀ p,H1 p=none->Q (.ref p) (upd H1 p (.tup xs))
noncomputable def DJ (t:TA):TE:=fun σ H Q=>t σ H fun xs H1=>xs.length<=sizeLine/\∀ p,H1 p=none->Q (.ref p) (upd H1 p (.lst xs))
theorem jP {x1}(h:PA X es t):PE X (.Tuple es x1 pos) (BB t):=by
 intro pins s σ H Q I hq
 refine wpAny_Tuple_spliced (thn (h pos pins s σ H _ I hq) fun us s1 ⟨xs,H1,I1,r,z,q⟩=>⟨by rw [<- r.length]; exact z,?_⟩)
 have hf:H1 s1.heap.objs.size=none:=I1.hok.fresh (a0h _)
 refine ⟨.ref s1.heap.objs.size,upd H1 s1.heap.objs.size (.tup xs),I1.laid (t':=s1.toks) (fun b u e=>Heap.get?_push_of_some _ e) (a0h _) ?_,rfl,q _ hf⟩
 exact ⟨z,us,r,⟨_,Heap.get?_push_size _ rfl,rfl,_,rfl⟩⟩
theorem sy (h:PA X es t):PE X (.List es pos) (DJ t):=by
 intro pins s σ H Q I hq
 refine wpAny_List_spliced (thn (h pos pins s σ H _ I hq) fun us s1 ⟨xs,H1,I1,r,z,q⟩=>⟨by rw [<- r.length]; exact z,?_⟩)
 have hf:H1 s1.heap.objs.size=none:=I1.hok.fresh (a0h _)
 refine ⟨.ref s1.heap.objs.size,upd H1 s1.heap.objs.size (.lst xs),I1.laid (t':=s1.toks) (fun b u e=>Heap.get?_push_of_some _ e) (a0h _) ?_,rfl,q _ hf⟩
 exact ⟨z,us,0,r,Heap.get?_push_size _ rfl⟩
end
noncomputable abbrev Sp:=List V->Hp->VK->XK->Prop
noncomputable abbrev CXT:=List Env->Hp->Shared->XK->Value->Shared->Prop
structure wJ (P:Program)(w:World)(K:a0a)(mg:Str->Option Value)(base:Heap)(A:Around)(outer:List Env)(s:Shared)(H:Hp):Prop where
 frames:A.frames=some outer
 mod:Mod K mg base
 bs:∀ b o,base.get? b=some o->s.heap.get? b=some o/\H b=none
 bsz:base.objs.size<=s.heap.objs.size
 funs:s.heap.FunFrames base outer
 frf:∀ b∈frs outer,H b=none
 hok:HOk P w H s.heap
 bare:AllBare s.gens
noncomputable def CE (outer:List Env)(P:Program)(w:World)(H:Hp)(s:Shared)(Q:VK)(u:Value)(s':Shared):Prop :=
 ∃ v H',s'.os=s.os/\AllBare s'.gens/\Un (frs outer) [] H H' s.heap s'.heap/\HOk P w H' s'.heap/\RelV v u/\Q v H'
noncomputable def CR (CX:CXT)(outer:List Env)(P:Program)(w:World)(H:Hp)(s:Shared)(Q:VK)(E:XK)(r:Result)(s':Shared):Prop :=
 match r with
 | .ok (.ret u)=>CE outer P w H s Q u s'
 | .ok _=>False
 | .error e=>CX outer H s E e s'
structure FnOk (P:Program)(w:World)(K:a0a)(mg:Str->Option Value)(base:Heap)(CX:CXT)(k:Nat)(f:Addr)(fd:FuncData)(ps:List Str)(sp:Sp):Prop where
 len:∀ vs H Q E,sp vs H Q E->vs.length=ps.length
 run:∀ (A:Around) (outer:List Env) (s:Shared) (H:Hp) (args:Args) (us:List Value) (vs:List V) (Q:VK) (E:XK),Room k A->wJ P w K mg base A outer s H->BindsTo s fd args (ps.zip us)->Vals vs us->sp vs H Q E ->
  codeAny (model P w) A (.call (.ref f) args) (CR CX outer P w H s Q E) s
theorem FnOk.imp {P:Program}{w:World}{K:a0a}{mg:Str->Option Value}{base:Heap}{CX:CXT}{k:Nat}{f:Addr}{fd:FuncData}{ps:List Str}{sp sp':Sp}(F:FnOk P w K mg base CX k f fd ps sp)
  (h:∀ vs H Q E,sp' vs H Q E->sp vs H Q E):FnOk P w K mg base CX k f fd ps sp' :=
 ⟨fun vs H Q E q=>F.len vs H Q E (h _ _ _ _ q),fun A outer s H args us vs Q E hr he hb hv hs=>F.run A outer s H args us vs Q E hr he hb hv (h _ _ _ _ hs)⟩
section
variable {X:Cx}{pins:List (Addr×Obj)}{σ:St}{H:Hp}{s s':Shared}
theorem Inv.env0 (I:Inv X pins σ H s):wJ X.prog X.w X.K X.mg X.base X.A X.stack s H :=
 ⟨I.ok.frames,I.ok.mod,I.bs,a0o I.ok.bsz I.sz,I.stack,I.stkFree,I.hok,I.bare⟩
theorem Inv.after {Q:VK}{u:Value}(I:Inv X pins σ H s)(h:CE X.stack X.prog X.w H s Q u s'):EP X pins σ Q u s':=by
 obtain ⟨v,H',os,bare,un,hok,r,q⟩:=h
 obtain ⟨hh,g,d,t,os'⟩:=s'
 obtain rfl:os'=s.os:=os
 exact ⟨v,H',I.call (h':=hh) (g':=g) (d':=d) (t':=t) (ch:=[]) un hok bare (fun b z=>absurd z (by simp)),r,q⟩
end
noncomputable def DQ (sp:Sp)(dvs:List V)(E:XK)(t:TA):TE:=fun σ H Q=>t σ H fun vs H1=>sp (vs++dvs) H1 Q E
noncomputable def Binds (K:a0a)(fd:FuncData)(ps:List Str)(ds:List Value):Prop :=
 ∀ (s:Shared) (us:List Value),K.In s.heap->(us++ds).length=ps.length->BindsTo s fd ⟨us,[]⟩ (ps.zip (us++ds))
theorem Binds.all {K:a0a}{fd:FuncData}{ps:List Str}(h:∀ us:List Value,us.length=ps.length->bindArgs fd ⟨us,[]⟩=pure (ps.zip us)):Binds K fd ps []:=fun s us _ hl=>by
 rw [a0y] at hl ⊢
 exact .of_eq (h us hl)
noncomputable def mx (CX:CXT)(X:Cx)(E:XK):Prop:=∀ (pins:List (Addr×Obj)) (σ:St) (H:Hp) (s:Shared) (e:Value) (s':Shared),Inv X pins σ H s->CX X.stack H s E e s'->X.xe e s'
section
variable {X:Cx}{CX:CXT}{k:Nat}{f C:Addr}{fd:FuncData}{ps:List Str}{sp:Sp}{dvs:List V}{ds:List Value}{E:XK}{x m:Str}{p pos apos:Pos}{e o:Expr}{es:List Expr}{ta:TE}{t:TA}
theorem qS {pins:List (Addr×Obj)}{σ:St}{H:Hp}{s:Shared}{Q:VK}{us:List Value}{vs:List V}(F:FnOk X.prog X.w X.K X.mg X.base CX k f fd ps sp)(hr:Room k X.A)(hb:Binds X.K fd ps ds)(hd:Vals dvs ds)(hx:mx CX X E)
  (I:Inv X pins σ H s) (r:Vals vs us) (h:sp (vs++dvs) H Q E):wpAny (model X.prog X.w) X.A (call (.ref f) us) (EP X pins σ Q) X.xe s:=by
 have r2:Vals (vs++dvs) (us++ds):=r.append hd
 have hl:(us++ds).length=ps.length:=by rw [<- r2.length]; exact F.len _ _ _ _ h
 refine wpAny_call (codeAny_mono (F.run X.A X.stack s H ⟨us,[]⟩ (us++ds) (vs++dvs) Q E hr I.env0 (hb s us I.kIn hl) r2 h) fun r s' hq=>?_)
 cases r with
 | error e=>exact hx pins σ H s e s' I hq
 | ok fl =>
  cases fl with
  | ret u=>exact I.after hq
  | next=>exact a1O hq
  | brk=>exact a1O hq
  | cont=>exact a1O hq
theorem jV (F:FnOk X.prog X.w X.K X.mg X.base CX k f fd ps sp)(hr:Room k X.A)(hg:Gl X x)(hm:X.mg x=some (.ref f))(hk:a1a X.K (.ref f)=true)(hb:Binds X.K fd ps ds)(hd:Vals dvs ds)(hx:mx CX X E)
  (ha:PA X (e::es) t) (hdb:(x==("__debug__":Str))=false:=by decide) (he:starEach (e::es) X.env=(false,eval e X.env)::starEach es X.env:=by rfl) (hpl:(backTo pos (starEach es X.env)).any (·.1)=false:=by rfl) :
  PE X (.Call (.Name x p) (e::es) [] pos) (DQ sp dvs E t):=by
 intro pins s σ H Q I h
 refine wpAny_Call_Name_kw (nN I hg hm ?_ hdb)
 refine a3h (h₀:=X.base) I.ok.mod.kin hk (thn (ha pos pins s σ H _ I h) fun us s1 ⟨vs,H1,I1,r,q⟩=>⟨I1.kIn,?_⟩) he hpl
 exact qS F hr hb hd hx I1 r q
end
structure ah (N P:List Str)(sc:Scope):Prop where
 kind:sc.kind=.function
 co:sc.isCoroutine=false
 gen:sc.isGenerator=false
 nd:N.Nodup
 pre:N.take P.length=P
 par:∀ x∈P,sc.names.lookup x=some .local\/sc.names.lookup x=some .cell
 nofree:∀ y∈sc.names,y.2≠.free
theorem jk {kindOf:Str->Option NameKind}{x:Str}:∀ {binds:List (Str×Value)} {m:Str->Option Value},(∀ v,(x,v) ∉ binds)->bindL kindOf binds m x=m x
 | [],_,_=>rfl
 | (n,v)::r,m,h=>by
  unfold bindL
  rw [jk fun w hw=>h w (a0c _ hw)]
  split
  ·have:x≠n:=by rintro rfl; exact h v a0d
   simp [this]
  ·rfl
theorem jh {kindOf:Str->Option NameKind}{x:Str}:∀ {binds:List (Str×Value)} {m:Str->Option Value},(∀ v,(x,v) ∉ binds)->bindC kindOf binds m x=m x
 | [],_,_=>rfl
 | (n,v)::r,m,h=>by
  unfold bindC
  rw [jh fun w hw=>h w (a0c _ hw)]
  split
  ·rfl
  ·have:x≠n:=by rintro rfl; exact h v a0d
   simp [this]
theorem ja {kindOf:Str->Option NameKind}{x:Str}{v:Value}:∀ {P:List Str} {vs:List Value} {i:Nat} {m:Str->Option Value},P.Nodup->P[i]?=some x->vs[i]?=some v->kindOf x=some .local ->
  bindL kindOf (P.zip vs) m x=some v
 | [],_,_,_,_,h,_,_=>by simp at h
 | _::_,[],_,_,_,_,h,_=>by simp at h
 | p::P,w::vs,0,m,nd,h1,h2,hk=>by
  simp at h1 h2; subst h1; subst h2
  show bindL kindOf ((p,w)::P.zip vs) m p=_
  unfold bindL
  rw [jk fun v hv=>(a1y.mp nd).1 (a16 hv).1,if_pos hk]
  simp
 | p::P,w::vs,i+1,m,nd,h1,h2,hk=>by
  show bindL kindOf ((p,w)::P.zip vs) m x=_
  unfold bindL
  exact ja (i:=i) (a1y.mp nd).2 (by simpa using h1) (by simpa using h2) hk
theorem iU {kindOf:Str->Option NameKind}{x:Str}{v:Value}:∀ {P:List Str} {vs:List Value} {i:Nat} {m:Str->Option Value},P.Nodup->P[i]?=some x->vs[i]?=some v->kindOf x≠some .local ->
  bindC kindOf (P.zip vs) m x=some v
 | [],_,_,_,_,h,_,_=>by simp at h
 | _::_,[],_,_,_,_,h,_=>by simp at h
 | p::P,w::vs,0,m,nd,h1,h2,hk=>by
  simp at h1 h2; subst h1; subst h2
  show bindC kindOf ((p,w)::P.zip vs) m p=_
  unfold bindC
  rw [jh fun v hv=>(a1y.mp nd).1 (a16 hv).1,if_neg hk]
  simp
 | p::P,w::vs,i+1,m,nd,h1,h2,hk=>by
  show bindC kindOf ((p,w)::P.zip vs) m x=_
  unfold bindC
  exact iU (i:=i) (a1y.mp nd).2 (by simpa using h1) (by simpa using h2) hk
noncomputable def start (N:List Str)(vs:List V):St:=vs.map some++a0e (N.length-vs.length) none
noncomputable def fj (CX:CXT)(P:Program)(w:World)(K:a0a)(mg:Str->Option Value)(base:Heap)(N:List Str)(qual:Str)(scope:Scope)(f:Addr)(cd:Value)(A:Around)(outer:List Env)(s:Shared)(H:Hp)(E:XK):Cx where
 prog:=P
 w:=w
 K:=K
 mg:=mg
 base:=base
 A:=A.deeper (envOfC qual scope s.heap.objs.size f cd)
 N:=N
 s₀:=s
 H₀:=H
 env:=envOfC qual scope s.heap.objs.size f cd
 outer:=outer
 stack:=envOfC qual scope s.heap.objs.size f cd::outer
 ex:=[]
 calm:=true
 fn:=fun _=>true
 pn:=[]
 xe:=fun e s'=>wpAny (model P w) (A.deeper (envOfC qual scope s.heap.objs.size f cd)) (leaving (envOfC qual scope s.heap.objs.size f cd) e) (fun _ s''=>CX outer H s E e s'') (fun e' s''=>CX outer H s E e' s'') s'
theorem kL {sc:Scope}{n:Nat}{x:Str}(h:sc.names.lookup x=some .cell):∃ c,(cellsFrom n sc.names []).lookup x=some c:=by
 have q:=a2V sc.names n [] (.inl h)
 exact a11.mp q
theorem p9 {CX:CXT}{P:Program}{w:World}{K:a0a}{mg:Str->Option Value}{base:Heap}{N ps:List Str}{qual:Str}{scope:Scope}{f:Addr}{cd:Value}{A:Around}{outer:List Env}{s s1:Shared}{H:Hp}{E:XK}{us:List Value}{vs:List V}
  (S:ah N ps scope) (hd:A.handled=none) (e0:wJ P w K mg base A outer s H) (hl:vs.length=ps.length) (r:Vals vs us)
  (x:InCallC s s.heap.objs.size (bindL (envOfC qual scope s.heap.objs.size f cd).kindOf (ps.zip us) fun _=>none) (cellsFrom (s.heap.objs.size+1) scope.names []) (bindC (envOfC qual scope s.heap.objs.size f cd).kindOf (ps.zip us) fun _=>none) s1) :
  Inv (fj CX P w K mg base N qual scope f cd A outer s H E) [] (start N vs) H s1:=by
 have hpl:ps.length<=N.length:=by have:=congrArg a1H S.pre; rw [a01] at this; omega
 obtain ⟨h1,tk,rfl,hk⟩:=x.done
 have noA:∀ b:Addr,b ∉ (fj CX P w K mg base N qual scope f cd A outer s H E).ex:=fun b z=>absurd (show b∈([]:List Addr) from z) (by simp)
 refine ⟨⟨e0.mod,S.kind,rfl,rfl,a0h _,fun y z c h1 h2=>?_,fun y hy=>?_,fun y c _ h=>?_,fun _=>hd,Around.frames_deeper e0.frames,.inr ⟨rfl,rfl⟩,fun b z=>absurd z (noA b),e0.bs,e0.bsz,fun b _ _=>noA b,fun b z=>absurd z (noA b),e0.funs,e0.frf⟩,
  rfl,e0.bare,Un.kept hk,⟨_,x.toInCall.ns,fun i y v h1 h2 h3=>?_⟩,fun y c h=>⟨_,x.cell y c h⟩,e0.hok.fresh (a0h _),fun y c h=>?_,fun p hp=>absurd (show p∈([]:List (Addr×Obj)) from hp) (by simp),e0.hok.kept hk,?_⟩
 ·exact name_of_addr x.apart (a1k h1) (a1k h2)
 ·have hy:scope.names.lookup y=some .cell\/scope.names.lookup y=some .free:=hy
  rcases hy with hy | hy
  ·exact kL hy
  ·exact absurd rfl (S.nofree _ (a1k hy))
 ·exact a20 (x.above y c (a1k h))
 ·have hi:i < vs.length:=by
   unfold start at h2
   by_cases hi:i < vs.length
   ·exact hi
   ·rw [a0I (by simpa using hi)] at h2
    rw [a17] at h2
    split at h2<;>cases h2
  have ha:vs[i]?=some v:=by
   unfold start at h2
   rw [a0R (by simpa using hi),a0x] at h2
   cases e:vs[i]? with
   | none=>rw [e] at h2; cases h2
   | some a=>rw [e] at h2; cases h2; rfl
  obtain ⟨u,hu,rv⟩:=r.get ha
  have hp:ps[i]?=some y:=by
   rw [<- S.pre,List.getElem?_take_of_lt (by omega)]; exact h1
  have ndP:ps.Nodup:=by rw [<- S.pre]; exact S.nd.sublist (List.take_sublist _ _)
  refine ⟨u,rv,?_⟩
  rcases S.par y (a1T hp) with k | k
  ·exact .inl ⟨k,ja ndP hp hu k⟩
  ·obtain ⟨c,e⟩:=kL (n:=s.heap.objs.size+1) k
   refine .inr ⟨.inl k,c,e,?_⟩
   have q:=x.cell y c e
   rw [iU ndP hp hu (by show scope.names.lookup y≠_; rw [k]; decide)] at q
   exact q
 ·exact e0.hok.fresh (a20 (x.above y c (a1k h)))
 ·unfold start
  show _=N.length
  rw [a0g,a0b,a0z]
  omega
theorem yg {CX:CXT}{P:Program}{w:World}{K:a0a}{mg:Str->Option Value}{base:Heap}{k:Nat}{f:Addr}{name qual:Str}{params:Arguments}{body:List Stmt}{scope:Scope}{dV kV doc pm cdv ct oc:Value}{an od:Option Addr}
  {osl:Array (Option Value)} {N ps:List Str} {sp:Sp} (lk:K.lookup f=some ⟨oc,od,.func (a05 name qual params body scope dV kV doc pm an cdv ct),osl⟩) (hcd:a1W K cdv qual=true) (S:ah N ps scope)
  (len:∀ vs H Q E,sp vs H Q E->vs.length=ps.length)
  (hbody:∀ (A:Around) (outer:List Env) (s:Shared) (H:Hp) (vs:List V) (Q:VK) (E:XK),Room k (A.deeper (envOfC qual scope s.heap.objs.size f cdv))->sp vs H Q E ->
   ∃ t,PSs (fj CX P w K mg base N qual scope f cdv A outer s H E) body t/\t { nx:=fun _ H'=>Q .non H',rt:=Q } (start N vs) H) :
  FnOk P w K mg base CX (k+1) f (a05 name qual params body scope dV kV doc pm an cdv ct) ps sp:=by
 refine ⟨len,fun A outer s H args us vs Q E hr e0 hb r hsp=>?_⟩
 have hl:=len _ _ _ _ hsp
 have KX:K.In s.heap:=e0.mod.kin.keeps fun b o e=>(e0.bs b o e).1
 have lim:s.heap.NoLimit:=e0.mod.nolimit.keeps fun b o e=>(e0.bs b o e).1
 have hkind:∀ y∈ps.zip us,scope.names.lookup y.1=some .local\/(scope.names.lookup y.1=some .cell/\((cellsFrom (s.heap.objs.size+1) scope.names []).lookup y.1).isSome=true):=fun ⟨n,v⟩ hy=>by
  rcases S.par n (a16 hy).1 with q | q
  ·exact .inl q
  ·exact .inr ⟨q,a2V _ _ _ (.inl q)⟩
 refine codeAny_call_function hr.depth (KX _ _ lk) rfl S.co S.gen rfl (PySem.W.codeRec_of KX hcd) (hb _ _ _ _ ?_)
 refine wpAny_newFunctionEnv_cells S.kind hkind fun env he s1 x=>?_
 subst he
 refine ⟨lim.keeps x.toInCall.keep,codeAny_func ?_⟩
 obtain ⟨t,ht,hq⟩:=hbody A outer s H vs Q E (hr.deeper _) hsp
 have I:Inv (fj CX P w K mg base N qual scope f cdv A outer s H E) [] (start N vs) H s1:=p9 S hr.hd e0 hl r x
 refine wpAny_mono (ht [] s1 (start N vs) H _ I hq) (fun fl s' hs=>?_) fun e s' hs=>hs
 have fin:∀ {σ':St} {H':Hp} {v:V} {u:Value},Inv (fj CX P w K mg base N qual scope f cdv A outer s H E) [] σ' H' s'->RelV v u->Q v H'->CE outer P w H s Q u s' :=
  fun {σ' H' v u} J rv q=>⟨v,H',J.os,J.bare,J.base,J.hok,rv,q⟩
 cases fl with
 | ret u =>
  obtain ⟨v,σ',H',J,rv,q⟩:=hs
  exact fin J rv q
 | next =>
  obtain ⟨σ',H',J,q⟩:=hs
  exact fin (v:=V.non) (u:=Value.none) J rfl q
 | brk =>
  obtain ⟨_,_,_,q⟩:=hs
  exact a1O q
 | cont =>
  obtain ⟨_,_,_,q⟩:=hs
  exact a1O q
end L2
namespace L2
open PySem PySem.Spec PyProof.Rows
section
variable {X:Cx}{x:Str}{p pos:Pos}{e:Expr}{es:List Expr}{t:TA}{id T:String}{r:List V->Hp->VK->Prop}
noncomputable def tCB (r:List V->Hp->VK->Prop)(t:TA):TE:=fun σ H Q=>t σ H fun vs H1=>r vs H1 Q
theorem br (hc:cO X (.builtin id) r)(hg:Gl X x)(hm:X.mg x=none)(hv:bootBuiltins x=some (.builtin id))(ha:PA X (e::es) t)(hn:x≠"__name__":=by decide)(hdb:(x==("__debug__":Str))=false:=by decide)
  (he:starEach (e::es) X.env=(false,eval e X.env)::starEach es X.env:=by rfl) (hpl:(backTo pos (starEach es X.env)).any (·.1)=false:=by rfl):PE X (.Call (.Name x p) (e::es) [] pos) (tCB r t):=by
 intro pins s σ H Q I h
 refine wpAny_Call_Name_kw (eE I hg hm hv ?_ hn hdb)
 exact a3o (thn (ha pos pins s σ H _ I h) fun us s1 ⟨vs,H1,I1,r1,q1⟩=>hc pins s1 σ H1 vs us Q I1 r1 q1) he hpl
theorem dy (hc:cO X (.type T) r)(hg:Gl X x)(hm:X.mg x=none)(hv:bootBuiltins x=some (.type T))(ha:PA X (e::es) t)(hn:x≠"__name__":=by decide)(hdb:(x==("__debug__":Str))=false:=by decide)
  (he:starEach (e::es) X.env=(false,eval e X.env)::starEach es X.env:=by rfl) (hpl:(backTo pos (starEach es X.env)).any (·.1)=false:=by rfl):PE X (.Call (.Name x p) (e::es) [] pos) (tCB r t):=by
 intro pins s σ H Q I h
 refine wpAny_Call_Name_kw (eE I hg hm hv ?_ hn hdb)
 exact a1b (thn (ha pos pins s σ H _ I h) fun us s1 ⟨vs,H1,I1,r1,q1⟩=>hc pins s1 σ H1 vs us Q I1 r1 q1) he hpl
end
end L2
namespace HT
open PySem PyProof.Rows
section
variable {prog:Program}{w:World}{A:Around}{E:Value->Shared->Prop}{s:Shared}
theorem cat_tup {t b:Addr}{vs ws:List Value}{Q:Value->Shared->Prop}(ht:IsTup s.heap t vs.toArray)(hb:IsTup s.heap b ws.toArray)(hv:vs≠[])
  (h1:ws=[]->Q (.ref t) s) (h2:ws≠[]->Q (.ref s.heap.objs.size) { s with heap:=s.heap.push { cls:=.type "tuple",data:=.seq (vs++ws).toArray } })
  (hsz:vs.length+ws.length<=sizeLine):wpAny (model prog w) A (binaryOp .Add (.ref t) (.ref b)) Q E s:=by
 obtain ⟨⟨cls,dd,data,sl⟩,ho,hc,n,hd⟩:=id ht
 obtain ⟨⟨cls2,dd2,data2,sl2⟩,ho2,hc2,n2,hd2⟩:=id hb
 simp only at hc hd hc2 hd2
 subst hc hd hc2 hd2
 have e:vs.toArray++ws.toArray=(vs++ws).toArray:=by simp
 by_cases hw:ws=[]
 ·exact concat_meets ⟨_,ho,rfl⟩ ⟨_,ho2,rfl⟩ noFill_tuple_add seq_tuple_add a2W a2L (a2H _ _)
   (tuple_addW1 t b vs.toArray ws.toArray n n2 dd dd2 sl sl2 (by simpa using hv) (by simp [hw])) ⟨ho,ho2,h1 hw⟩
 ·refine concat_meets ⟨_,ho,rfl⟩ ⟨_,ho2,rfl⟩ noFill_tuple_add seq_tuple_add a2W a2L (a2H _ _)
   (tuple_addW2 t b vs.toArray ws.toArray n n2 dd dd2 sl sl2 (by simpa using hv) (by simpa using hw) (by rw [a0m,a0m]; exact hsz)) ⟨ho,ho2,?_⟩
  rw [e]
  exact h2 hw
noncomputable def sIx (n d:Nat):Option Int->Nat
 | none=>d
 | some v=>if v < 0 then (v+(n:Int)).toNat else min v.toNat n
theorem sIx_nat (n d k:Nat):sIx n d (some (k:Int))=min k n:=by
 show (if (k:Int) < 0 then ((k:Int)+(n:Int)).toNat else min (k:Int).toNat n)=min k n
 rw [if_neg (by omega),a1G]
theorem A7 (n d:Nat)(hd:d<=n)(o:Option Int):sIx n d o<=n:=by
 cases o with
 | none=>exact hd
 | some v =>
  show (if v < 0 then (v+(n:Int)).toNat else min v.toNat n)<=n
  by_cases hv:v < 0
  ·rw [if_pos hv]; omega
  ·rw [if_neg hv]; exact a2Q _ _
theorem oo (v:Int)(n d:Nat):(if v < 0 then max (v+(n:Int)) 0 else min v (n:Int))=((sIx n d (some v):Nat):Int):=by
 show (if v < 0 then max (v+(n:Int)) 0 else min v (n:Int))=(((if v < 0 then (v+(n:Int)).toNat else min v.toNat n):Nat):Int)
 by_cases hv:v < 0
 ·simp only [if_pos hv]; omega
 ·simp only [if_neg hv]; omega
theorem mS (lo hi:Option Int)(n:Nat):Builtin.Slice.sliceAdjust lo hi 1 (n:Int)=(((sIx n 0 lo:Nat):Int),((sIx n n hi:Nat):Int)):=by
 have h1:¬ ((1:Int) < 0):=by omega
 unfold Builtin.Slice.sliceAdjust
 simp only [h1,if_false]
 refine Prod.ext ?_ ?_
 ·cases lo with
  | none=>rfl
  | some v=>exact oo v n 0
 ·cases hi with
  | none=>rfl
  | some v=>exact oo v n n
theorem l9 (i j:Nat):Builtin.Slice.slicePlaces (i:Int) (j:Int) 1=j-i:=by
 unfold Builtin.Slice.slicePlaces
 have h1:(1:Int) > 0:=by omega
 simp only [h1,if_true,Int.ediv_one]
 split<;>omega
theorem iz {v:Value}{o:Option Int}{Q:Option Int->Shared->Prop}(p:IsPart v o)(h:Q o s):wpAny (model prog w) A (Builtin.Slice.slicePartIndex v) Q E s:=by
 cases p with
 | none=>exact slicePart_none h
 | int i t=>exact slicePart_int h
theorem sliceApplied_gen {sl:Addr}{vl vu:Value}{lo hi:Option Int}{n:Nat}{Q:Int×Int×Nat->Shared->Prop}(hs:s.heap.IsSliceOf sl vl vu .none)(pl:IsPart vl lo)(pu:IsPart vu hi)
  (h:Q (((sIx n 0 lo:Nat):Int),1,sIx n n hi-sIx n 0 lo) s):wpAny (model prog w) A (Builtin.Slice.sliceApplied (.ref sl) (pure (n:Int))) Q E s:=by
 obtain ⟨os,hos,hcs,hds⟩:=id hs
 unfold Builtin.Slice.sliceApplied Builtin.Slice.sliceFields
 refine wpAny_bind (wpAny_bind (wpAny_field hos hds (x:=vl) rfl (wpAny_bind (wpAny_field hos hds (x:=vu) rfl (wpAny_bind (wpAny_field hos hds (x:=.none) rfl (wpAny_pure ?_)))))))
 refine wpAny_bind (slicePart_none ?_)
 show wpAny _ _ (if ((1:Int)==0)=true then _ else _) _ _ s
 rw [if_neg (by decide)]
 refine wpAny_bind (iz pl (wpAny_bind (iz pu (wpAny_bind (wpAny_pure ?_)))))
 show wpAny _ _ (match Builtin.Slice.sliceAdjust lo hi 1 (n:Int) with | (lo,hi)=>pure (lo,(1:Int),Builtin.Slice.slicePlaces lo hi 1)) _ _ s
 rw [mS lo hi n]
 show wpAny _ _ (pure (((sIx n 0 lo:Nat):Int),(1:Int),Builtin.Slice.slicePlaces ((sIx n 0 lo:Nat):Int) ((sIx n n hi:Nat):Int) 1)) _ _ s
 rw [l9]
 exact wpAny_pure h
theorem uk (xs:Array Value)(i k:Nat):((a0B k).filterMap fun (m:Nat)=>xs[((i:Int)+(m:Int) * 1).toNat]?).toArray=((xs.toList.drop i).take k).toArray:=by
 have e:(fun (m:Nat)=>xs[((i:Int)+(m:Int) * 1).toNat]?)=fun m=>xs[i+m]?:=by
  funext m
  have:((i:Int)+(m:Int) * 1).toNat=i+m:=by omega
  rw [this]
 rw [e]
 have:=pick_run xs i k
 rw [List.filterMap_map] at this
 have e2:((fun x=>xs[x]?) ∘ fun x=>i+x)=fun m=>xs[i+m]?:=rfl
 rw [e2] at this
 rw [this]
theorem getItem_tuple_cut {t sl:Addr}{items:Array Value}{vl vu:Value}{lo hi:Option Int}{Q:Value->Shared->Prop}(ht:IsTup s.heap t items)(hs:s.heap.IsSliceOf sl vl vu .none)(pl:IsPart vl lo)(pu:IsPart vu hi)
  (hw:¬ (sIx items.size 0 lo=0/\sIx items.size items.size hi=items.size))
  (h:Q (.ref s.heap.objs.size) { s with heap:=s.heap.push { cls:=.type "tuple",data:=.seq ((items.toList.drop (sIx items.size 0 lo)).take (sIx items.size items.size hi-sIx items.size 0 lo)).toArray } })
  (hsz:items.size<=sizeLine):wpAny (model prog w) A (getItem (.ref t) (.ref sl)) Q E s:=by
 have htake:sizeOk (.seq ((items.toList.drop (sIx items.size 0 lo)).take (sIx items.size items.size hi-sIx items.size 0 lo)).toArray):=by
  show ((items.toList.drop (sIx items.size 0 lo)).take (sIx items.size items.size hi-sIx items.size 0 lo)).toArray.size<=sizeLine
  rw [a0m,a01,a1e,a1j]
  omega
 have hj:sIx items.size items.size hi<=items.size:=A7 _ _ (a0h _) hi
 obtain ⟨os,hos,hcs,hds⟩:=id hs
 have hTs:s.TypeIs (.ref sl) "slice":=⟨os,hos,hcs⟩
 unfold getItem
 try with_reducible refine wpAny_holding ?_
 first | refine wpAny_bind (wpAny_pure ?_) | skip
 refine wpAny_bind (wpAny_sequenceKey ht.typeIs (by decide) ?_)
 refine wpAny_bind (wpAny_callSpecial?_slot (name:=Str.ofString "__getitem__") ht.typeIs a0U
  (wpAny_call_entry a0U ht.typeIs entry_tuple_getitem ?_ (args_tuple_getitem _ _)))
 show wpAny _ _ (Builtin.Tuple.tupleItemsOf (.ref t) >>= _) _ _ s
 refine wpAny_bind (tupleItemsOf_ ht ?_)
 refine wpAny_bind (wpAny_typeOf hTs ?_)
 rw [if_pos (by decide)]
 refine wpAny_bind (sliceApplied_gen hs pl pu ?_)
 have hno:¬ ((((sIx items.size 0 lo:Nat):Int)==0&&(1:Int)==1&&(sIx items.size items.size hi-sIx items.size 0 lo)==items.size)=true):=by
  intro q
  rw [a0s,a0s] at q
  have q1:((sIx items.size 0 lo:Nat):Int)=0:=eq_of_beq q.1.1
  have q2:sIx items.size items.size hi-sIx items.size 0 lo=items.size:=eq_of_beq q.2
  exact hw ⟨by omega,by omega⟩
 show wpAny _ _ (if (((sIx items.size 0 lo:Nat):Int)==0&&(1:Int)==1&&(sIx items.size items.size hi-sIx items.size 0 lo)==items.size)=true then _ else _) _ _ s
 rw [if_neg hno,uk]
 first
  | exact wpAny_bind (m:=Builtin.Tuple.tupleExact _) (wpAny_newObj_type (wpAny_pure ⟨_,rfl,wpAny_pure h⟩) htake)
  | exact wpAny_bind (m:=Builtin.Tuple.tupleExact _) (wpAny_newObj_type (wpAny_bind (wpAny_pure (wpAny_pure ⟨_,rfl,wpAny_pure h⟩))) htake)
  | exact wpAny_bind (wpAny_bind (m:=Builtin.Tuple.tupleExact _) (wpAny_newObj_type (wpAny_pure (wpAny_pure ⟨_,rfl,wpAny_pure h⟩)) htake))
  | exact wpAny_bind (wpAny_bind (m:=Builtin.Tuple.tupleExact _) (wpAny_newObj_type (wpAny_pure ⟨_,rfl,wpAny_pure h⟩) htake))
end
end HT
namespace L2
open PySem PySem.Spec PyProof.Rows
noncomputable abbrev TO:=St->Hp->(Option Int->Hp->Prop)->Prop
noncomputable def PO (X:Cx)(e:Option Expr)(t:TO):Prop :=
 ∀ (pins:List (Addr×Obj)) (s:Shared) (σ:St) (H:Hp) (Q:Option Int->Hp->Prop),Inv X pins σ H s->t σ H Q ->
  wpAny (model X.prog X.w) X.A (evalPart e X.env) (fun u s'=>∃ o H',Inv X pins σ H' s'/\IsPart u o/\Q o H') X.xe s
noncomputable def w5:TO:=fun _ H Q=>Q none H
noncomputable def Cp (t:TE):TO:=fun σ H Q=>t σ H fun x H1=>∃ i,x=.int i/\Q (some i) H1
section
variable {X:Cx}{e:Expr}{te:TE}{lo hi:Option Expr}{tl th:TO}{pos p2:Pos}
theorem oj:PO X none w5:=by
 intro pins s σ H Q I h
 rw [evalPart_none]
 exact wpAny_pure ⟨none,H,I,.none,h⟩
theorem gr (h:PE X e te):PO X (some e) (Cp te):=by
 intro pins s σ H Q I hw
 rw [evalPart_some]
 refine thn (h pins s σ H _ I hw) fun u s1 ⟨x,H1,I1,r1,q1⟩=>?_
 obtain ⟨i,rfl,q⟩:=q1
 obtain ⟨t,rfl⟩:=r1
 exact ⟨some i,H1,I1,.int i t,q⟩
noncomputable def SlR (X:Cx)(r:V->Option Int->Option Int->Hp->VK->Prop):Prop :=
 ∀ (pins:List (Addr×Obj)) (s:Shared) (σ:St) (H:Hp) (x:V) (v vl vu:Value) (lo hi:Option Int) (sl:Addr) (Q:VK),Inv X pins σ H s->RelV x v->s.heap.IsSliceOf sl vl vu .none->IsPart vl lo->IsPart vu hi->r x lo hi H Q ->
  ∃ T id,typeLookup (.type T) "__getitem__"=pure (some (.builtin id))/\s.TypeIs v T/\wpAny (model X.prog X.w) X.A (getItem v (.ref sl)) (EP X pins σ Q) X.xe s
theorem SlR.or {r r':V->Option Int->Option Int->Hp->VK->Prop}(h:SlR X r)(h':SlR X r'):SlR X (fun x lo hi H Q=>r x lo hi H Q\/r' x lo hi H Q):=by
 intro pins s σ H x v vl vu lo hi sl Q I rx hs pl pu q
 rcases q with q | q
 ·exact h pins s σ H x v vl vu lo hi sl Q I rx hs pl pu q
 ·exact h' pins s σ H x v vl vu lo hi sl Q I rx hs pl pu q
noncomputable def tSl (r:V->Option Int->Option Int->Hp->VK->Prop)(te:TE)(tl th:TO):TE:=fun σ H Q=>te σ H fun x H1=>tl σ H1 fun l H2=>th σ H2 fun u H3=>r x l u H3 Q
theorem gG {r:V->Option Int->Option Int->Hp->VK->Prop}(hr:SlR X r)(he:PE X e te)(hl:PO X lo tl)(hu:PO X hi th):PE X (.Subscript e (.Slice lo hi none p2) pos) (tSl r te tl th):=by
 intro pins s σ H Q I h
 refine Subscript_ (thn (he pins s σ H _ I h) fun v s1 ⟨x,H1,I1,r1,q1⟩=>?_)
 refine wpAny_Slice (thn (hl pins s1 σ H1 _ I1 q1) fun vl s2 ⟨l,H2,I2,pl,q2⟩=>thn (hu pins s2 σ H2 _ I2 q2) fun vu s3 ⟨u,H3,I3,pu,q3⟩=>?_)
 rw [evalPart_none]
 refine wpAny_pure ?_
 have I4:Inv X pins σ H3 { s3 with heap:=s3.heap.push { cls:=.type "slice",data:=.fields #[vl,vu,.none] } }:=I3.kept (t':=s3.toks) fun b ob q=>Heap.get?_push_of_some _ q
 obtain ⟨T,id,hT,ht,hg⟩:=hr pins { s3 with heap:=s3.heap.push { cls:=.type "slice",data:=.fields #[vl,vu,.none] } } σ H3 x v vl vu l u s3.heap.objs.size Q I4 r1 (Heap.IsSliceOf.new ..) pl pu q3
 show wpAny (model X.prog X.w) X.A (subscriptTail e (.Slice lo hi none p2) v (.ref s3.heap.objs.size)) (EP X pins σ Q) X.xe { s3 with heap:=s3.heap.push { cls:=.type "slice",data:=.fields #[vl,vu,.none] } }
 exact tail_any (ops:=[.ref s3.heap.objs.size,v]) ht hT hg (by with_unfolding_all rfl)
noncomputable def dZ (xs:List V)(lo hi:Option Int):List V:=(xs.drop (HT.sIx xs.length 0 lo)).take (HT.sIx xs.length xs.length hi-HT.sIx xs.length 0 lo)
theorem cV (xs:List V)(lo hi:Option Int):(dZ xs lo hi).length<=xs.length:=by
 unfold dZ
 rw [a01,a1e]
 omega
noncomputable def Eo (K:a0a):V->Option Int->Option Int->Hp->VK->Prop:=fun x lo hi H Q=>∃ a xs,x=.ref a/\SqT K H a xs /\
 ¬ (HT.sIx xs.length 0 lo=0/\HT.sIx xs.length xs.length hi=xs.length)/\∀ p,H p=none->Q (.ref p) (upd H p (.tup (dZ xs lo hi)))
theorem zG:SlR X (Eo X.K):=by
 intro pins s σ H x v vl vu lo hi sl Q I rx hs pl pu h
 obtain ⟨a,xs,rfl,hx,hw,q⟩:=h
 cases rx
 obtain ⟨its,r,ht,hz⟩:=I.tuple hx
 have hlen:its.toArray.size=xs.length:=by rw [a0m]; exact r.length.symm
 refine ⟨"tuple",_,a0U.lookup,ht.typeIs,?_⟩
 refine HT.getItem_tuple_cut ht hs pl pu (by rw [hlen]; exact hw) ?_ (by rw [hlen]; exact hz)
 rw [hlen]
 refine ⟨.ref s.heap.objs.size,_,I.laid (t':=s.toks) (o:=.tup (dZ xs lo hi)) (fun b ob q=>Heap.get?_push_of_some _ q) (a0h _) ?_,rfl,q _ (I.hok.fresh (a0h _))⟩
 exact ⟨a0o (cV xs lo hi) hz,_,(r.drop (HT.sIx xs.length 0 lo)).take (HT.sIx xs.length xs.length hi-HT.sIx xs.length 0 lo),IsTup.new _ _⟩
noncomputable def Dc (K:a0a):R2:=fun x y H Q=>∃ a b xs ys,x=.ref a/\y=.ref b/\SqT K H a xs/\SqT K H b ys/\xs≠[]/\xs.length+ys.length<=sizeLine /\
 (ys=[]->Q (.ref a) H)/\(ys≠[]->∀ p,H p=none->Q (.ref p) (upd H p (.tup (xs++ys))))
theorem Vals.nil_iff {xs:List V}{us:List Value}(r:Vals xs us):us=[] ↔ xs=[]:=by
 cases r with
 | nil=>simp
 | cons _ _=>simp
theorem vJ:OpR X (binaryOp .Add) (Dc X.K):=by
 intro pins s σ H x y v u Q I rx ry h
 obtain ⟨a,b,xs,ys,rfl,rfl,ha,hb,hx,hz,q1,q2⟩:=h
 cases rx
 cases ry
 obtain ⟨its,r1,p1,_⟩:=I.tuple ha
 obtain ⟨its2,r2,p2,_⟩:=I.tuple hb
 refine HT.cat_tup p1 p2 (fun z=>hx (r1.nil_iff.mp z)) (fun z=>⟨.ref a,H,I,rfl,q1 (r2.nil_iff.mp z)⟩) (fun z=>?_) (by rw [<- r1.length,<- r2.length]; exact hz)
 refine ⟨.ref s.heap.objs.size,_,I.laid (t':=s.toks) (o:=.tup (xs++ys)) (fun b ob q=>Heap.get?_push_of_some _ q) (a0h _) ?_,rfl,q2 (fun w=>z (r2.nil_iff.mpr w)) _ (I.hok.fresh (a0h _))⟩
 exact ⟨by rw [a0g]; exact hz,_,r1.append r2,IsTup.new _ _⟩
end
end L2
namespace L2
open PySem PySem.Spec PyProof.Rows
noncomputable def ixN (n:Nat)(i:Int):Option Nat:=if 0<=i then (if i < n then some i.toNat else none) else if -(n:Int)<=i then some (i+n).toNat else none
noncomputable def atI {α:Type}(xs:List α)(i:Int):Option α:=(ixN xs.length i).bind fun j=>xs[j]?
theorem om {n:Nat}{i:Int}{j:Nat}(h:ixN n i=some j):seqIndex? i n=some j/\j < n/\-(n:Int)<=i/\i < n:=by
 unfold ixN at h
 by_cases h0:0<=i
 ·rw [if_pos h0] at h
  by_cases h1:i < n
  ·rw [if_pos h1] at h
   have e:i.toNat=j:=a0G h
   exact ⟨by rw [seqIndex_of h0 h1,e],by omega,by omega,h1⟩
  ·rw [if_neg h1] at h; cases h
 ·rw [if_neg h0] at h
  by_cases h1:-(n:Int)<=i
  ·rw [if_pos h1] at h
   have e:(i+n).toNat=j:=a0G h
   exact ⟨by rw [seqIndex_neg (by omega) h1,e],by omega,h1,by omega⟩
  ·rw [if_neg h1] at h; cases h
theorem ka {α:Type}{xs:List α}{i:Int}{v:α}(h:atI xs i=some v):∃ j,seqIndex? i xs.length=some j/\xs[j]?=some v/\j < xs.length/\-(xs.length:Int)<=i/\i < xs.length:=by
 unfold atI at h
 cases e:ixN xs.length i with
 | none=>rw [e] at h; cases h
 | some j =>
  rw [e] at h
  obtain ⟨h1,h2,h3,h4⟩:=om e
  exact ⟨j,h1,h,h2,h3,h4⟩
theorem atI_nat {α:Type}{xs:List α}{j:Nat}{v:α}(h:xs[j]?=some v):atI xs (j:Int)=some v:=by
 have hj:j < xs.length:=(a0q.mp h).1
 have e:ixN xs.length (j:Int)=some j:=by
  unfold ixN
  rw [if_pos (by omega),if_pos (by omega)]; simp
 unfold atI; rw [e]; exact h
noncomputable def eO (b:Expr):Prop:=∀ o i,subscripted b false o i=operate [o,i] (getItem o i)
noncomputable def IxR (X:Cx)(r:R2):Prop :=
 ∀ (value slice:Expr) (pins:List (Addr×Obj)) (s:Shared) (σ:St) (H:Hp) (x y:V) (v u:Value) (Q:VK),Inv X pins σ H s->RelV x v->RelV y u->r x y H Q ->
  subscripted slice false v u=operate [v,u] (getItem v u)->wpAny (model X.prog X.w) X.A (subscriptTail value slice v u) (EP X pins σ Q) X.xe s
noncomputable def MtR (X:Cx)(id:String)(r:V->List V->Hp->VK->Prop):Prop :=
 ∀ (pins:List (Addr×Obj)) (s:Shared) (σ:St) (H:Hp) (x:V) (xs:List V) (v:Value) (us:List Value) (Q:VK),Inv X pins σ H s->RelV x v->Vals xs us->r x xs H Q ->
  wpAny (model X.prog X.w) X.A (call (.builtin id) (v::us)) (EP X pins σ Q) X.xe s
section
variable {X:Cx}{a b:Expr}{ta tb:TE}{pos:Pos}
theorem IxR.or {r r':R2}(h:IxR X r)(h':IxR X r'):IxR X (fun x y H Q=>r x y H Q\/r' x y H Q):=by
 intro value slice pins s σ H x y v u Q I rx ry q hs
 rcases q with q | q
 ·exact h value slice pins s σ H x y v u Q I rx ry q hs
 ·exact h' value slice pins s σ H x y v u Q I rx ry q hs
theorem rU {r:R2}(hr:IxR X r)(ha:PE X a ta)(hb:PE X b tb)(hs:eO b):PE X (.Subscript a b pos) (tOp r ta tb):=by
 intro pins s σ H Q I h
 exact Subscript_ (AI ha hb I h fun v u s2 x y H2 I2 rx ry q=>hr a b pins s2 σ H2 x y v u Q I2 rx ry q (hs _ _))
noncomputable def EO (K:a0a):R2:=fun x y H Q=>∃ p xs i v,x=.ref p/\y=.int i/\SqL K H p xs/\atI xs i=some v/\Q v H
noncomputable def Ey (K:a0a):R2:=fun x y H Q=>∃ p xs i v,x=.ref p/\y=.int i/\SqT K H p xs/\atI xs i=some v/\Q v H
noncomputable def Ew:R2:=fun x y H Q=>∃ z i c,x=.str z/\y=.int i/\z.length<=sizeLine/\atI z.cps.toList i=some c/\Q (.str ⟨#[c]⟩) H
theorem vR:IxR X (EO X.K):=by
 intro value slice pins s σ H x y v u Q I rx ry h hs
 obtain ⟨p,xs,i,z,rfl,rfl,hq,he,q⟩:=h
 cases rx
 obtain ⟨t,rfl⟩:=ry
 obtain ⟨its,r,pl,hz⟩:=I.list hq
 obtain ⟨j,h1,h2,h3,h4,h5⟩:=ka he
 obtain ⟨w,ew,rw'⟩:=r.get h2
 have hl:=r.length
 have hn:=fB
 have fin:EP X pins σ Q w s:=⟨z,H,I,rw',q⟩
 by_cases h0:0<=i
 ·have hj:i.toNat=j:=by
   rw [seqIndex_of h0 h5] at h1
   exact a0G h1
  exact item_listR pl.isList h0 (by omega) (by rw [hj]; simpa using ew) fin hs
 ·have hj:(i+(its.toArray.size:Int)).toNat=j:=by
   rw [seqIndex_neg (by omega) h4] at h1
   rw [a0m,<- hl]
   exact a0G h1
  exact subscriptTail_builtinR (x:=w) pl.isList.typeIs slot_list_getitem.lookup
   (wpAny_getItem_list_neg (Q:=fun r s'=>r=w/\EP X pins σ Q r s') pl.isList (by omega) (by rw [a0m]<;>omega) (by omega) (by rw [hj]; simpa using ew) ⟨rfl,fin⟩) hs
theorem AD:IxR X (Ey X.K):=by
 intro value slice pins s σ H x y v u Q I rx ry h hs
 obtain ⟨p,xs,i,z,rfl,rfl,hq,he,q⟩:=h
 cases rx
 obtain ⟨t,rfl⟩:=ry
 obtain ⟨its,r,pl,hz⟩:=I.tuple hq
 obtain ⟨j,h1,h2,h3,h4,h5⟩:=ka he
 obtain ⟨w,ew,rw'⟩:=r.get h2
 have hl:=r.length
 have hn:=fB
 have fin:EP X pins σ Q w s:=⟨z,H,I,rw',q⟩
 exact subscriptTail_builtinR (x:=w) pl.typeIs slot_tuple_getitem.lookup
  (getItem_tuple (j:=j) (Q:=fun r s'=>r=w/\EP X pins σ Q r s') pl (by omega) (by omega) (by rw [a0m,<- hl]; exact h1) (by simpa using ew) ⟨rfl,fin⟩) hs
theorem Bw:IxR X Ew:=by
 intro value slice pins s σ H x y v u Q I rx ry h hs
 obtain ⟨z,i,c,rfl,rfl,hz,he,q⟩:=h
 obtain ⟨t,rfl⟩:=rx
 obtain ⟨t',rfl⟩:=ry
 obtain ⟨j,h1,h2,h3,h4,h5⟩:=ka he
 have hl:z.cps.toList.length=z.length:=by simp [Str.length]
 rw [hl] at h1 h4 h5
 have hn:=fB
 exact tail_any (typeIs_str s z t) slot_str_getitem.lookup (getItem_str (c:=c) (by
  have e1:decide (i < -(2 ^ 63:Int))=false:=decide_eq_false (by omega)
  have e2:decide (i >= 2 ^ 63)=false:=decide_eq_false (by omega)
  rw [e1,e2,a0X]) (by rw [h1]; simpa using h2) ⟨.str ⟨#[c]⟩,H,I.tok _,⟨_,rfl⟩,q⟩) hs
theorem mP (its:List Value)(n j:Nat)(u:Value):Obj.mapSeq (·.setIfInBounds j u) { cls:=.type "list",data:=.seq its.toArray n }={ cls:=.type "list",data:=.seq (its.set j u).toArray n }:=by
 simp [Obj.mapSeq]
theorem Inv.lst {pins:List (Addr×Obj)}{σ:St}{H:Hp}{s:Shared}{p:Addr}{xs:List V}(I:Inv X pins σ H s)(h:H p=some (.lst xs)) :
  ∃ (its:List Value) (n:Nat),Vals xs its/\s.heap.get? p=some { cls:=.type "list",data:=.seq its.toArray n }/\xs.length<=sizeLine:=by
 obtain ⟨z,its,n,r,e⟩:=I.hok p _ h
 exact ⟨its,n,r,e,z⟩
theorem Inv.lstUpd {pins:List (Addr×Obj)}{σ:St}{H:Hp}{s:Shared}{p:Addr}{xs ys:List V}{its its':List Value}{n n':Nat}{f:Obj->Obj}(I:Inv X pins σ H s)(h:H p=some (.lst xs))
  (ho:s.heap.get? p=some { cls:=.type "list",data:=.seq its.toArray n }) (hf:f { cls:=.type "list",data:=.seq its.toArray n }={ cls:=.type "list",data:=.seq its'.toArray n' }) (r:Vals ys its') (hz:ys.length<=sizeLine) (t:Nat) :
  Inv X pins σ (upd H p (.lst ys)) { s with heap:=s.heap.update p f,toks:=t }:=by
 have e:(s.heap.update p f).get? p=some { cls:=.type "list",data:=.seq its'.toArray n' }:=by
  rw [Heap.get?_update_self f ho (by rw [hf]<;>rfl),hf]
 refine I.write (x:=p) (e:=p) (by rw [h]; trivial) (.inl rfl) (fun b u hb q=>(Heap.get?_update_other _ _ (a2K hb)).trans q) ⟨_,e⟩ ?_
 exact ⟨hz,its',n',r,e⟩
noncomputable def BN:V->V->V->Hp->(Hp->Prop)->Prop:=fun o i v H Q=>∃ p xs k j,o=.ref p/\i=.int k/\H p=some (.lst xs)/\ixN xs.length k=some j/\Q (upd H p (.lst (xs.set j v)))
theorem tI:CG X BN:=by
 intro pins s σ H o i v ov iv u Q I ro ri rv h
 obtain ⟨p,xs,k,j,rfl,rfl,hp,hj,q⟩:=h
 cases ro
 obtain ⟨t,rfl⟩:=ri
 obtain ⟨its,n,r,ho,hz⟩:=I.lst hp
 obtain ⟨h1,h2,h3,h4⟩:=om hj
 have hl:=r.length
 have hn:=fB
 have I':Inv X pins σ (upd H p (.lst (xs.set j v))) { s with heap:=s.heap.update p (Obj.mapSeq (·.setIfInBounds j u)) } :=
  I.lstUpd hp ho (mP its n j u) (r.set rv j) (by rw [a2q]; exact hz) s.toks
 by_cases h0:0<=k
 ·have hk:k.toNat=j:=by
   rw [seqIndex_of h0 h4] at h1
   exact a0G h1
  exact PySem.W.ki_setAt ho h0 (by omega) (by rw [a0m,<- hl]; exact h4) (by rw [hk]; exact ⟨_,I',q⟩)
 ·have hk:(k+(its.toArray.size:Int)).toNat=j:=by
   rw [seqIndex_neg (by omega) h3] at h1
   rw [a0m,<- hl]
   exact a0G h1
  exact PySem.W.ki_setBack ho (by omega) (by rw [a0m,<- hl]; exact h3) (by omega) (by rw [hk]; exact ⟨_,I',q⟩)
theorem jY (lo hi:Option Int)(n:Nat):(sliceBounds lo hi none n).1=((HT.sIx n 0 lo:Nat):Int)/\(sliceBounds lo hi none n).2.1=((HT.sIx n n hi:Nat):Int)/\(sliceBounds lo hi none n).2.2=1:=by
 refine ⟨?_,?_,rfl⟩
 ·cases lo with
  | none=>simp [sliceBounds,HT.sIx]
  | some i =>
   simp only [sliceBounds,HT.sIx,a3t,show (1:Int) > 0 by decide,if_true]
   by_cases h:i < 0
   ·simp only [h,if_true]<;>omega
   ·simp only [h,if_false]<;>omega
 ·cases hi with
  | none=>simp [sliceBounds,HT.sIx]
  | some i =>
   simp only [sliceBounds,HT.sIx,a3t,show (1:Int) > 0 by decide,if_true]
   by_cases h:i < 0
   ·simp only [h,if_true]<;>omega
   ·simp only [h,if_false]<;>omega
theorem iQ (its:List Value)(lo hi:Option Int):slicePick its.toArray lo hi none=((its.drop (HT.sIx its.length 0 lo)).take (HT.sIx its.length its.length hi-HT.sIx its.length 0 lo)).toArray:=by
 obtain ⟨h1,h2,h3⟩:=jY lo hi its.toArray.size
 unfold slicePick
 rw [h1,h2,h3]
 simp only [sliceRange_one,pick_run,a0m]<;>rfl
noncomputable def wy (K:a0a):V->Option Int->Option Int->Hp->VK->Prop:=fun x lo hi H Q=>∃ a xs,x=.ref a/\SqL K H a xs/\∀ p,H p=none->Q (.ref p) (upd H p (.lst (dZ xs lo hi)))
theorem sl_list:SlR X (wy X.K):=by
 intro pins s σ H x v vl vu lo hi sl Q I rx hs pl pu h
 obtain ⟨a,xs,rfl,hx,q⟩:=h
 cases rx
 obtain ⟨its,r,ht,hz⟩:=I.list hx
 have hlen:=r.length
 refine ⟨"list",_,slot_list_getitem.lookup,ht.isList.typeIs,?_⟩
 refine wpAny_getItem_list_slice ht.isList hs pl pu .none (by simp) ?_ (by rw [a0m]<;>omega)
 rw [iQ,<- hlen]
 refine ⟨.ref s.heap.objs.size,_,I.laid (t':=s.toks) (o:=.lst (dZ xs lo hi)) (fun b ob q=>Heap.get?_push_of_some _ q) (a0h _) ?_,rfl,q _ (I.hok.fresh (a0h _))⟩
 exact ⟨a0o (cV xs lo hi) hz,_,0,(r.drop (HT.sIx xs.length 0 lo)).take (HT.sIx xs.length xs.length hi-HT.sIx xs.length 0 lo),Heap.get?_push_size _ rfl⟩
noncomputable def ei:V->Bool
 | .non=>true
 | .bl _=>true
 | .int _=>true
 | .str _=>true
 | _=>false
noncomputable def eqV:V->V->Bool
 | .non,.non=>true
 | .bl a,.bl b=>a==b
 | .bl a,.int b=>(if a then 1 else 0)==b
 | .int a,.bl b=>a==(if b then 1 else 0)
 | .int a,.int b=>a==b
 | .str a,.str b=>a==b
 | _,_=>false
theorem Am {A:Around}{s:Shared}{y x:V}{u v:Value}(ry:RelV y u)(rx:RelV x v)(fy:ei y=true)(fx:ei x=true):SeqAt.EqAt A s u v (eqV y x):=by
 cases y with
 | non =>
  cases ry
  cases x with
  | non=>cases rx; exact SeqAt.EqAt.same _
  | bl b=>cases rx; exact SeqAt.EqAt.none_bool b
  | int b=>obtain ⟨t,rfl⟩:=rx; exact SeqAt.EqAt.none_int b t
  | str b=>obtain ⟨t,rfl⟩:=rx; exact SeqAt.EqAt.none_str b t
  | _=>exact absurd (show false=true from fx) a0j
 | bl a =>
  cases ry
  cases x with
  | non=>cases rx; exact SeqAt.EqAt.bool_none a
  | bl b=>cases rx; exact SeqAt.EqAt.bool_bool a b
  | int b=>obtain ⟨t,rfl⟩:=rx; exact SeqAt.EqAt.bool_int a b t
  | str b=>obtain ⟨t,rfl⟩:=rx; exact SeqAt.EqAt.bool_str a b t
  | _=>exact absurd (show false=true from fx) a0j
 | int a =>
  obtain ⟨t',rfl⟩:=ry
  cases x with
  | non=>cases rx; exact SeqAt.EqAt.int_none a t'
  | bl b=>cases rx; exact SeqAt.EqAt.int_bool a t' b
  | int b=>obtain ⟨t,rfl⟩:=rx; exact SeqAt.EqAt.int_int a t' b t
  | str b=>obtain ⟨t,rfl⟩:=rx; exact SeqAt.EqAt.int_str a t' b t
  | _=>exact absurd (show false=true from fx) a0j
 | str a =>
  obtain ⟨t',rfl⟩:=ry
  cases x with
  | non=>cases rx; exact SeqAt.EqAt.str_none a t'
  | bl b=>cases rx; exact SeqAt.EqAt.str_bool a t' b
  | int b=>obtain ⟨t,rfl⟩:=rx; exact SeqAt.EqAt.str_int a t' b t
  | str b=>obtain ⟨t,rfl⟩:=rx; exact SeqAt.EqAt.str_str a t' b t
  | _=>exact absurd (show false=true from fx) a0j
 | _=>exact absurd (show false=true from fy) a0j
noncomputable def eqU (x:V)(u:Value):Bool:=match u with
 | .none=>eqV .non x
 | .bool b=>eqV (.bl b) x
 | .int i _=>eqV (.int i) x
 | .str z _=>eqV (.str z) x
 | _=>false
theorem ua {x y:V}{u:Value}(r:RelV y u)(f:ei y=true):eqU x u=eqV y x:=by
 cases y with
 | non=>cases r; rfl
 | bl b=>cases r; rfl
 | int i=>obtain ⟨t,rfl⟩:=r; rfl
 | str z=>obtain ⟨t,rfl⟩:=r; rfl
 | _=>exact absurd (show false=true from f) a0j
theorem j5 {x:V}:∀ {xs:List V} {us:List Value},Vals xs us->xs.all ei=true->us.any (eqU x)=xs.any fun y=>eqV y x
 | _,_,.nil,_=>rfl
 | y::xs,u::us,.cons r t,f=>by
  rw [a0T,a0s] at f
  rw [a0P,a0P,ua r f.1,j5 t f.2]
theorem gN {A:Around}{s:Shared}{x:V}{v:Value}(rx:RelV x v)(fx:ei x=true):∀ {xs:List V} {us:List Value},Vals xs us->xs.all ei=true->∀ u∈us,SeqAt.EqAt A s u v (eqU x u)
 | _,_,.nil,_=>fun u hu=>by cases hu
 | y::xs,u::us,.cons r t,f=>fun u' hu=>by
  rw [a0T,a0s] at f
  rcases a0l.mp hu with rfl | hu
  ·rw [ua r f.1]; exact Am r rx f.1 fx
  ·exact gN rx fx t f.2 u' hu
noncomputable def inV (x:V)(xs:List V):Bool:=xs.any fun y=>eqV y x
noncomputable def rIn (K:a0a)(neg:Bool):R2:=fun x y H Q=>∃ p xs,y=.ref p/\(SqL K H p xs\/SqT K H p xs)/\ei x=true/\xs.all ei=true/\Q (.bl (if neg then !inV x xs else inV x xs)) H
theorem qc:OpR X (compareOp .In) (rIn X.K false):=by
 intro pins s σ H x y v u Q I rx ry h
 obtain ⟨p,xs,rfl,hq,fx,fs,q⟩:=h
 cases ry
 rcases hq with hq | hq
 ·obtain ⟨its,r,pl,hz⟩:=I.list hq
  refine SeqAt.in_listAt (eqU x) pl.isList (fun w hw=>gN rx fx r fs w (by simpa using hw)) ⟨.bl _,H,I,rfl,?_⟩
  rw [show its.toArray.any (eqU x)=its.any (eqU x) by simp,j5 r fs]
  exact q
 ·obtain ⟨its,r,pl,hz⟩:=I.tuple hq
  refine SeqAt.in_tupleAt (eqU x) pl (fun w hw=>gN rx fx r fs w (by simpa using hw)) ⟨.bl _,H,I,rfl,?_⟩
  rw [show its.toArray.any (eqU x)=its.any (eqU x) by simp,j5 r fs]
  exact q
theorem eN:cO X (.type "list") (fun xs H Q=>∃ p ys,xs=[.ref p]/\(SqL X.K H p ys\/SqT X.K H p ys)/\∀ l,H l=none->Q (.ref l) (upd H l (.lst ys))):=by
 intro pins s σ H xs us Q I r h
 obtain ⟨p,ys,rfl,hq,q⟩:=h
 obtain ⟨u,rfl,rx⟩:=fS r
 cases rx
 have fin:∀ (its:List Value),Vals ys its->ys.length<=sizeLine->∀ (h':Heap) (c':Nat),(∀ b o',s.heap.get? b=some o'->h'.get? b=some o') ->
   h'.get? s.heap.objs.size=some { cls:=.type "list",dict:=none,data:=.seq its.toArray c',slots:=#[] }->EP X pins σ Q (.ref s.heap.objs.size) { s with heap:=h' }:=fun its r' hz h' c' kp e =>
  ⟨.ref s.heap.objs.size,_,I.laid (t':=s.toks) kp (a0h _) (show ObjOk X.prog X.w _ h' _ (.lst ys) from ⟨hz,its,c',r',e⟩),rfl,q _ (I.hok.fresh (a0h _))⟩
 rcases hq with hq | hq
 ·obtain ⟨its,r',pl,hz⟩:=I.list hq
  have hlen:=r'.length
  obtain ⟨o,ho,hc,n,hd⟩:=pl.isList
  exact call_list_seq p (.inl rfl) ho hc hd (fun h' c' kp e=>fin its r' hz h' c' kp e) (by simp only [a0m]<;>omega)
 ·obtain ⟨its,r',pl,hz⟩:=I.tuple hq
  have hlen:=r'.length
  obtain ⟨o,ho,hc,n,hd⟩:=pl
  exact call_list_seq p (.inr rfl) ho hc hd (fun h' c' kp e=>fin its r' hz h' c' kp e) (by simp only [a0m]<;>omega)
theorem iI:cO X (.type "tuple") (fun xs H Q=>∃ p ys,xs=[.ref p]/\((SqL X.K H p ys/\∀ l,H l=none->Q (.ref l) (upd H l (.tup ys)))\/(SqT X.K H p ys/\Q (.ref p) H))):=by
 intro pins s σ H xs us Q I r h
 obtain ⟨p,ys,rfl,h⟩:=h
 obtain ⟨u,rfl,rx⟩:=fS r
 cases rx
 rcases h with ⟨hq,q⟩ | ⟨hq,q⟩
 ·obtain ⟨its,r',pl,hz⟩:=I.list hq
  have hlen:=r'.length
  refine call_tuple_list pl.isList (fun h' kp=>?_) (by simp only [a0m]<;>omega)
  have I1:Inv X pins σ H { s with heap:=h' }:=I.kept (t':=s.toks) kp
  have I2:Inv X pins σ (upd H h'.objs.size (.tup ys)) { s with heap:=h'.push { cls:=.type "tuple",data:=.seq its.toArray } } :=
   I1.laid (t':=s.toks) (fun b o e=>Heap.get?_push_of_some _ e) (a0h _) (show ObjOk X.prog X.w _ _ _ (.tup ys) from ⟨hz,its,r',IsTup.new _ _⟩)
  exact ⟨.ref h'.objs.size,_,I2,rfl,q _ (I1.hok.fresh (a0h _))⟩
 ·obtain ⟨its,r',pl,hz⟩:=I.tuple hq
  exact call_tuple_same pl ⟨.ref p,H,I,rfl,q⟩
noncomputable def tyV (K:a0a)(T:String)(x:V)(H:Hp):Prop:=match x with
 | .str _=>T="str"
 | .int _=>T="int"
 | .ref p=>(T="list"/\∃ xs,SqL K H p xs)\/(T="tuple"/\∃ o,K.lookup p=some o/\o.cls=.type "tuple"/\o.dict=none) \/
   (T="dict"/\((∃ kvs,H p=some (.dK kvs))\/∃ kvs,H p=some (.dT kvs)))\/(T="set"/\∃ S n,H p=some (.set S n))
 | _=>False
theorem yw {pins:List (Addr×Obj)}{σ:St}{H:Hp}{s:Shared}{T:String}{x:V}{v:Value}(I:Inv X pins σ H s)(r:RelV x v)(ty:tyV X.K T x H) :
  s.TypeIs v T/\∀ a,v=.ref a->∃ ob,s.heap.get? a=some ob/\ob.dict=none:=by
 cases x with
 | str z =>
  obtain ⟨t,rfl⟩:=r
  cases (show T="str" from ty)
  exact ⟨typeIs_str s z t,fun _ e=>nomatch e⟩
 | int i =>
  obtain ⟨t,rfl⟩:=r
  cases (show T="int" from ty)
  exact ⟨typeIs_int s i t,fun _ e=>nomatch e⟩
 | ref p =>
  cases r
  rcases ty with ⟨rfl,xs,hq⟩ | ⟨rfl,o,hk,hc,hd⟩ | ⟨rfl,hk⟩ | ⟨rfl,S,n,hk⟩
  ·obtain ⟨its,_,pl,_⟩:=I.list hq
   refine ⟨pl.isList.typeIs,fun a e=>?_⟩
   cases e
   obtain ⟨o,n,e,c,hd,_⟩:=pl
   exact ⟨o,e,hd⟩
  ·refine ⟨⟨o,I.kIn p o hk,hc⟩,fun a e=>?_⟩
   cases e
   exact ⟨o,I.kIn _ o hk,hd⟩
  ·have z:∃ o,s.heap.get? p=some o/\o.ExactDict:=by
    rcases hk with ⟨kvs,hk⟩ | ⟨kvs,hk⟩
    ·obtain ⟨_,_,_,_,o,_,_,e,ex,_⟩:=I.hok p _ hk
     exact ⟨o,e,ex⟩
    ·obtain ⟨_,_,_,_,o,_,_,e,ex,_⟩:=I.hok p _ hk
     exact ⟨o,e,ex⟩
   obtain ⟨o,e,ex⟩:=z
   refine ⟨⟨o,e,ex.1⟩,fun a e2=>?_⟩
   cases e2
   exact ⟨o,e,ex.2.1⟩
  ·obtain ⟨o,_,_,_,e,ex,_⟩:=I.hok p _ hk
   refine ⟨⟨o,e,ex.1⟩,fun a e2=>?_⟩
   cases e2
   exact ⟨o,e,ex.2.1⟩
 | _=>exact a1O ty
noncomputable def tBM (K:a0a)(T:String)(r:V->List V->Hp->VK->Prop)(to:TE)(t:TA):TE:=fun σ H Q=>to σ H fun x H1=>tyV K T x H1/\t σ H1 fun xs H2=>r x xs H2 Q
variable {o e:Expr}{es:List Expr}{to:TE}{t:TA}{name:Str}{apos cpos:Pos}{T id:String}{r:V->List V->Hp->VK->Prop}
theorem nQ (pa:PlainAttrs T)(slot:Slot T name id)(hty:typeOf (.builtin id)=pure (.type "method_descriptor"))(hm:MtR X id r)(ho:PE X o to)(ha:PA X (e::es) t)
  (hbase:attributeBase o name X.env (eval o X.env)=eval o X.env:=by rfl)
  (hfew:((backTo cpos (starEach (e::es) X.env)).all (fun x=>!x.1)&&(backToKw cpos (keywordEach [] X.env)).all (fun x=>x.1.isSome)
  &&decide ((e::es).length+([]:List Keyword).length+(if ([]:List Keyword).isEmpty then 0 else 1) < 30))=true:=by rfl)
  (hline:(apos.endLine==cpos.line)=true:=by rfl) (hs:starEach (e::es) X.env=(false,eval e X.env)::starEach es X.env:=by rfl) (hplain:(backTo cpos (starEach es X.env)).any (·.1)=false:=by rfl) :
  PE X (.Call (.Attribute o name apos) (e::es) [] cpos) (tBM X.K T r to t):=by
 intro pins s σ H Q I h
 refine wpAny_Call_method_late hbase hfew hline rfl (thn (ho pins s σ H _ I h) fun v s1 ⟨x,H1,I1,r1,ty,q1⟩=>?_)
 obtain ⟨h1,h2⟩:=yw I1 r1 ty
 refine ⟨T,id,pa,slot,hty,h1,h2,?_⟩
 have hA:=ha cpos pins s1 σ H1 _ I1 q1
 rw [hs] at hA ⊢
 refine Calls.callWith_builtin (by show (false || (backTo cpos (starEach es X.env)).any (·.1))=false; rw [hplain]<;>rfl) (Calls.evalArgs_plain ?_)
 exact thn hA fun us s2 ⟨vs,H2,I2,r2,q2⟩=>hm pins s2 σ H2 x vs v us Q I2 r1 r2 q2
end
end L2
namespace L2
open PySem PySem.Spec PyProof.Rows
noncomputable def MtM (X:Cx)(id:String)(r:V->List V->Hp->VK->Prop):Prop :=
 ∀ (pins:List (Addr×Obj)) (s:Shared) (σ:St) (H:Hp) (x:V) (xs:List V) (v:Value) (us:List Value) (Q:VK),Inv X pins σ H s->RelV x v->Vals xs us->r x xs H Q ->
  wpAny (model X.prog X.w) X.A (call (.builtin id) (v::us)) (EP X pins σ Q) X.xe s
theorem Vals.one:∀ {x:V} {us:List Value},Vals [x] us->∃ u,us=[u]/\RelV x u
 | _,_,.cons r .nil=>⟨_,rfl,r⟩
theorem Vals.rep {xs:List V}{us:List Value}(h:Vals xs us):∀ k:Nat,Vals (a0e k xs).flatten (a0e k us).flatten
 | 0=>.nil
 | k+1=>by
  rw [a0V,a0V,a03,a03]
  exact Vals.append h (Vals.rep h k)
theorem jq (its:List Value):∀ (k:Nat) (acc:List Value),
  a3G (fun x1 x2=>x1++x2) acc.toArray (a0e k its.toArray)=(acc++(a0e k its).flatten).toArray
 | 0,acc=>by simp
 | k+1,acc=>by
  have e:acc.toArray++its.toArray=(acc++its).toArray:=by simp
  have e2:(acc++its)++(a0e k its).flatten=acc++(a0e (k+1) its).flatten:=by
   rw [a0V,a03,a0C]
  rw [<- e2,<- jq its k (acc++its),<- e,a0V,List.foldl_cons]
section
variable {X:Cx}{pins:List (Addr×Obj)}{σ:St}{H:Hp}{s:Shared}{l b:Addr}{xs ys zs:List V}
theorem Inv.lset {its its':List Value}{n:Nat}{f:Array Value->Array Value}{t':Nat}(I:Inv X pins σ H s)(hH:H l=some (.lst xs))
  (e:s.heap.get? l=some { cls:=.type "list",data:=.seq its.toArray n }) (hf:f its.toArray=its'.toArray) (hv:Vals ys its') (hz:ys.length<=sizeLine) :
  Inv X pins σ (upd H l (.lst ys)) { s with heap:=s.heap.update l (Obj.mapSeq f),toks:=t' }:=by
 have q:=PySem.IsL.update e f
 rw [hf] at q
 refine I.write (x:=l) (e:=l) (by rw [hH]; exact trivial) (.inl rfl) (fun b' u hb hu=>(Heap.get?_update_other s.heap (Obj.mapSeq f) (a2K hb)).trans hu) ⟨_,q⟩ ?_
 exact ⟨hz,its',_,hv,q⟩
theorem Inv.lnew {its:List Value}{t':Nat}(I:Inv X pins σ H s)(hv:Vals ys its)(hz:ys.length<=sizeLine) :
  Inv X pins σ (upd H s.heap.objs.size (.lst ys)) { s with heap:=s.heap.push { cls:=.type "list",data:=.seq its.toArray },toks:=t' } :=
 I.laid (fun _ _ q=>Heap.get?_push_of_some _ q) (a0h _) ⟨hz,its,0,hv,Heap.get?_push_size _ rfl⟩
theorem Inv.fresh (I:Inv X pins σ H s):H s.heap.objs.size=none:=I.hok.fresh (a0h _)
theorem Inv.lstM (I:Inv X pins σ H s)(hH:H l=some (.lst xs)):xs.length<=sizeLine/\∃ (its:List Value) (n:Nat),Vals xs its/\xs.length=its.length/\s.heap.get? l=some { cls:=.type "list",data:=.seq its.toArray n }:=by
 obtain ⟨z,its,n,r,e⟩:=I.hok l _ hH
 exact ⟨z,its,n,r,r.length,e⟩
theorem lU {n:Nat}(h:n<=sizeLine):Builtin.List.listTooLong n=false:=by
 unfold Builtin.List.listTooLong
 exact decide_eq_false (by omega)
end
section
variable {X:Cx}
noncomputable def wF:V->List V->Hp->VK->Prop:=fun x vs H Q=>∃ l xs y,x=.ref l/\vs=[y]/\H l=some (.lst xs)/\xs.length < sizeLine/\Q .non (upd H l (.lst (xs++[y])))
theorem fz:MtM X "list.append" wF:=by
 intro pins s σ H x vs v us Q I rx rv h
 obtain ⟨l,xs,y,rfl,rfl,hH,hz,q⟩:=h
 cases rx
 obtain ⟨u,rfl,ru⟩:=rv.one
 obtain ⟨z,its,n,r,hl,e⟩:=I.lstM hH
 refine call_meets F.slot_list_append ⟨_,e,rfl⟩ F.entry_list_append (F.args_list_append_2 _ _) (PySem.list_append l its.toArray n u (by rw [a0m]; omega)) ⟨e,?_⟩
 refine ⟨.non,_,I.lset (its':=its++[u]) hH e (by simp) (r.append (.cons ru .nil)) ?_,rfl,q⟩
 rw [a0g,a0A]
 omega
noncomputable def w8:V->List V->Hp->VK->Prop:=fun x vs H Q=>∃ l b xs zs,x=.ref l/\vs=[.ref b]/\H l=some (.lst xs)/\H b=some (.lst zs)/\xs.length+zs.length<=sizeLine/\Q .non (upd H l (.lst (xs++zs)))
theorem oz:MtM X "list.extend" w8:=by
 intro pins s σ H x vs v us Q I rx rv h
 obtain ⟨l,b,xs,zs,rfl,rfl,hH,hB,hz,q⟩:=h
 cases rx
 obtain ⟨u,rfl,ru⟩:=rv.one
 cases ru
 obtain ⟨z,its,n,r,hl,e⟩:=I.lstM hH
 obtain ⟨z2,its2,n2,r2,hl2,e2⟩:=I.lstM hB
 have hsz:its.toArray.size+its2.toArray.size<=sizeLine:=by rw [a0m,a0m]; omega
 have hlong:¬ (!its.toArray.isEmpty&&Builtin.List.listTooLong (its.toArray.size+its2.toArray.size))=true:=by
  rw [lU hsz,Bool.and_false]
  exact a0j
 refine call_meets F.slot_list_extend ⟨_,e,rfl⟩ F.entry_list_extend (F.args_list_extend_2 _ _)
  (AutoSeq1.list_extend_list_list_0 l its.toArray n b its2.toArray n2 hlong (by rw [a0m]; omega) (by omega)) ⟨e,e2,?_⟩
 refine ⟨.non,_,I.lset (its':=its++its2) hH e (by simp) (r.append r2) ?_,rfl,q⟩
 rw [a0g]
 omega
noncomputable def CK:R2:=fun x y H Q=>∃ l b xs zs,x=.ref l/\y=.ref b/\H l=some (.lst xs)/\H b=some (.lst zs)/\xs.length+zs.length<=sizeLine/\∀ p,H p=none->Q (.ref p) (upd H p (.lst (xs++zs)))
theorem op_cat:OpR X (binaryOp .Add) CK:=by
 intro pins s σ H x y v u Q I rx ry h
 obtain ⟨l,b,xs,zs,rfl,rfl,hH,hB,hz,q⟩:=h
 cases rx
 cases ry
 obtain ⟨z,its,n,r,hl,e⟩:=I.lstM hH
 obtain ⟨z2,its2,n2,r2,hl2,e2⟩:=I.lstM hB
 refine PySem.P.add_list e e2 ?_ (by rw [a0m,a0m]; omega)
 have ea:its.toArray++its2.toArray=(its++its2).toArray:=by simp
 rw [ea]
 exact ⟨.ref _,_,I.lnew (t':=s.toks) (r.append r2) (by rw [a0g]; omega),rfl,q _ I.fresh⟩
noncomputable def Co:R2:=fun x y H Q=>∃ l k xs,x=.ref l/\y=.int k/\H l=some (.lst xs)/\-(2 ^ 63)<=k/\k < 2 ^ 63/\xs.length * k.toNat<=sizeLine /\
 ∀ p,H p=none->Q (.ref p) (upd H p (.lst (a0e k.toNat xs).flatten))
theorem vq {α:Type}(xs:List α)(k:Nat):(a0e k xs).flatten.length=k * xs.length:=by
 induction k with
 | zero=>simp
 | succ k ih=>rw [a0V,a03,a0g,ih,a1B,a21]
theorem zd:OpR X (binaryOp .Mult) Co:=by
 intro pins s σ H x y v u Q I rx ry h
 obtain ⟨l,k,xs,rfl,rfl,hH,h1,h2,hz,q⟩:=h
 cases rx
 obtain ⟨t,rfl⟩:=ry
 obtain ⟨z,its,n,r,hl,e⟩:=I.lstM hH
 have hlen:its.toArray.size * k.toNat<=sizeLine:=by rw [a0m,<- hl]; exact hz
 have hcap:¬ its.toArray.size * k.toNat > (2 ^ 63-1) / 8:=by
  have:(sizeLine:Nat)<=(2 ^ 63-1) / 8:=by decide
  omega
 have hfit:¬ (!Builtin.List.listFitsIndex k)=true:=by
  rw [fitsIndex_both h1 h2]
  exact a0j
 have hlong:¬ Builtin.List.listTooLong (its.toArray.size * k.toNat)=true:=by
  rw [lU hlen]
  exact a0j
 have hnew:a3G (fun x1 x2=>x1++x2) #[] (a0e (if its.toArray.isEmpty=true then 0 else k.toNat) its.toArray)=(a0e k.toNat its).flatten.toArray:=by
  have f0:∀ m:Nat,a3G (fun x1 x2=>x1++x2) #[] (a0e m its.toArray)=(a0e m its).flatten.toArray:=fun m=>by
   have:=jq its m []
   rw [a0u] at this
   exact this
  rw [f0]
  cases its with
  | nil=>simp
  | cons a r'=>rw [if_neg (by simp)]
 refine wpAny_binaryOp_repeat_ref (T:="list") (U:="int") (by decide) ⟨_,e,rfl⟩ (fun s'=>typeIs_int s' k t) noFill_list_mul F.fills_int_mul F.slot_int_rmul repeat_list F.slot_int_index.lookup
  (call_meets F.slot_int_rmul (typeIs_int s k t) F.entry_int_rmul (F.args_int_rmul_2 _ _) (int___rmul___int_list k t l its.toArray n)
   ⟨e,rfl,⟨_,e,rfl⟩,call_meets F.slot_list_mul ⟨_,e,rfl⟩ F.entry_list_mul (F.args_list_mul_2 _ _) (AutoListH.list___mul___list_int_3 l its.toArray n k t hfit hcap hlong) ⟨e,?_⟩⟩)
 rw [hnew]
 exact ⟨.ref _,_,I.lnew (t':=s.toks) (r.rep k.toNat) (by rw [vq,a3p]; exact hz),rfl,q _ I.fresh⟩
end
end L2
namespace Att
open PySem PySem.W PySem.Calls PyProof.Rows
theorem f7 {P:Params}{h:Heap}:∀ (ns:List Int) (vs:List Value),WellAll P h vs (ns.map WData.int)->IntsAre vs ns:=by
 intro ns
 induction ns with
 | nil =>
  intro vs w
  rw [a1p] at w
  cases w
  exact .nil
 | cons n ns ih =>
  intro vs w
  rw [a0n] at w
  cases w with
  | cons a b =>
   cases a
   exact .cons _ _ (ih _ b)
theorem oM {l:OpenLaw}{n:Nat}(hn:l.most=some n){P:Params}{h:Heap}{args:List WData}{vals:List Value}
  (hpre:l.row.toRowW.claim.pre args=true) (hwl:WellAll P h vals args) :
  ∃ a vs ns,vals=[Value.ref a]/\args=[WData.list (ns.map WData.int)]/\h.get? a=some { cls:=.type "list",data:=.seq vs.toArray }/\IntsAre vs ns/\ns.length<=n:=by
 have hsh:WShape.hasAll [] args [.list .int]=true:=(pre_splitW hpre).1
 have hc:l.pre.holds [] { args:=args }=true:=(pre_splitW hpre).2
 obtain ⟨d,r,rfl,h1,h2⟩:=hasAllW_cons hsh
 obtain rfl:=hasAllW_nil h2
 obtain ⟨xs,rfl,h3⟩:=hasW_list h1
 obtain ⟨ns,rfl⟩:=items_int h3
 have hlen:ns.length<=n:=by
  unfold OpenLaw.pre at hc
  have h4:(WTm.not (.lt (.lit (.int (n:Int))) (.len (.arg 0)))).holds [] { args:=[.list (ns.map .int)] }=true:=by
   have h4:=(holds_andW hc).1
   rw [hn] at h4
   exact h4
  have h5:=condW_of h4 (w_not (w_lt w_lit (w_len_list (w_arg rfl))))
  rw [a0b] at h5
  refine a3u fun q=>?_
  have q':(n:Int) < ((ns.length:Nat):Int):=by omega
  first
   | (rw [decide_eq_true q'] at h5; exact absurd h5 (by decide))
   | (simp at h5; omega)
 cases hwl with
 | cons w1 w2 =>
  cases w2
  cases w1 with
  | list ho hall=>exact ⟨_,_,ns,rfl,rfl,ho,f7 ns _ hall,hlen⟩
theorem pV (l:OpenLaw)(args:List WData):l.row.toRowW.claim.post args (.bool true) args=true :=
 postW_of (r:=l.row.toRowW) (X:=(true==true))
  (show WShape.has [] (.bool true) .bool=true by first | rfl | decide | simp [WShape.has,WShape.arms,WShape.armsAll])
  (show (WTm.eq .res (.lit (.bool true))).value [] { args:=args,res:=some (.bool true),after:=args }=some (.bool (true==true)) from w_eq_bool (w_res rfl) w_lit) rfl
theorem attach_call {l:OpenLaw}{n:Nat}{q:Program}{loose:List Str}{XP:(Str->Option Value)->Heap->Prop}{YP:World->Heap->Prop}{d:DefRec}
  (hn:l.most=some n) (hdf:d.params.defaults=[])
  (call:∀ (w:World) (s₀ s₁:Shared) (mg mb:Str->Option Value) (fa:Addr) (o:Obj) (pm cd doc:Value) (a:Addr) (vs:List Value) (ns:List Int),
   Ground q loose [] XP w s₀ mg mb s₁.heap->YP w s₁.heap ->
   s₁.heap.get? fa=some o->o.data=.func (docDef d.name d.params d.body d.scope pm cd doc)->s₁.heap.CodeRec cd d.name->mg d.name=some (.ref fa) ->
   s₁.heap.get? a=some { cls:=.type "list",data:=.seq vs.toArray }->IntsAre vs ns->ns.length<=n->s₁.gens=#[] ->
   codeAny (model l.prog w) callerA (.call (.ref fa) ⟨[.ref a],[]⟩) (fun r s'=>r=.ok (.ret (.bool true))/\OldK s₁.heap s'.heap/\s'.os=s₁.os/\AllBare s'.gens) s₁) :
  WalkO q loose XP YP l.row.toRowW d [] (fun f vs=>a3H f vs):=by
 intro w s₀ s₁ mg mb G Y fa o pm cd doc dV kV ho hd hcd hD hmg hg args vals as hpre hlay hrd hwl hlo
 obtain rfl:dV=.none:=Dflts.none hD hdf
 obtain rfl:kV=.none:=Dflts.noKw hD
 obtain ⟨a,vs,ns,rfl,rfl,hobj,hints,hlen⟩:=oM hn hpre hwl
 refine enter_call (codeAny_mono (call w s₀ s₁ mg mb fa o pm cd doc a vs ns G Y ho (fd_plain hd) hcd hmg hobj hints hlen hg) fun r s' hq=>?_)
 obtain ⟨rfl,h2,h3,h4⟩:=hq
 exact ⟨.inl ⟨.bool true,.bool true,[],rfl,fun _=>rfl,.bool true,pV l _,fun _=>⟨a3T,fun _ hm=>(nomatch hm)⟩⟩,h2,h3,h4⟩
end Att
namespace L2
open PySem PySem.Spec PyProof.Rows
theorem dq:∀ {vs:List Value} {ns:List Int},IntsAre vs ns->Vals (ns.map V.int) vs
 | _,_,.nil=>.nil
 | _,_,.cons n t h=>.cons ⟨t,rfl⟩ (dq h)
noncomputable def qD (H:Hp):Prop:=∀ b,H b=none\/∃ o xs,H b=some (.frz o (.lst xs))
theorem uf {P:Program}{w:World}{K:a0a}{mg mb:Str->Option Value}{CX:CXT}{k:Nat}{fa a:Addr}{fd:FuncData}{x:Str}{sp:Sp}{s₁:Shared}{vs:List Value}{ns:List Int}
  (KX:K.In s₁.heap) (hns:s₁.heap.Ns mainGlobals mg) (hb:s₁.heap.Ns builtinsNs mb) (hbb:∀ x:Str,x≠"__name__"->mb x=bootBuiltins x) (hlim:s₁.heap.NoLimit) (hg:s₁.gens=#[])
  (ha:s₁.heap.get? a=some { cls:=.type "list",data:=.seq vs.toArray }) (hi:IntsAre vs ns) (hl:ns.length<=sizeLine) (hr:Room k callerA)
  (F:∀ base:Heap,K.In base->base.Ns mainGlobals mg->FnOk P w K mg base CX k fa fd [x] sp) (hbind:∀ (s:Shared) (u:Value),BindsTo s fd ⟨[u],[]⟩ [(x,u)])
  (hsp:∀ H:Hp,qD H->SqL K H a (ns.map V.int)->sp [.ref a] H (fun v _=>v=.bl true) fun _ _ _=>False)
  (hCX:∀ H e s',CX [] H s₁ (fun _ _ _=>False) e s'->False) :
  codeAny (model P w) callerA (.call (.ref fa) ⟨[.ref a],[]⟩) (fun r s'=>r=.ok (.ret (.bool true))/\OldK s₁.heap s'.heap/\s'.os=s₁.os/\AllBare s'.gens) s₁:=by
 have rv:=dq hi
 have lenV:=hi.length
 -- from an abstract heap in which nothing but the script may be tracked
 have core:∀ H:Hp,qD H->SqL K H a (ns.map V.int)->HOk P w H s₁.heap->(∀ b,H b≠none->b=a)->(H a≠none->K.lookup a=none) ->
   codeAny (model P w) callerA (.call (.ref fa) ⟨[.ref a],[]⟩) (fun r s'=>r=.ok (.ret (.bool true))/\OldK s₁.heap s'.heap/\s'.os=s₁.os/\AllBare s'.gens) s₁:=by
  intro H hO hS hok hA hK
  have base_of:∀ {b:Addr} {o:Obj},s₁.heap.get? b=some o->H b=none->(ke s₁.heap H).get? b=some o:=fun e n=>qd e n
  have noA:∀ {b:Addr} {o:Obj} {es:Array DictEntry} {ep:Nat},s₁.heap.get? b=some o->o.data=.dict es ep->H b=none:=fun {b o es ep} e d=>by
   cases q:H b with
   | none=>rfl
   | some u =>
    have e':b=a:=hA b (by rw [q]; simp)
    subst e'
    rw [ha] at e; cases e
    have d':Data.seq vs.toArray _=Data.dict es ep:=d
    cases d'
  have nsK:∀ {b:Addr} {m:Str->Option Value},s₁.heap.Ns b m->(ke s₁.heap H).Ns b m:=fun {b m} ⟨o,es,ep,e,d,r⟩=>⟨o,es,ep,base_of e (noA e d),d,r⟩
  have hKb:K.In (ke s₁.heap H):=fun b o e=>base_of (KX b o e) (by
   cases q:H b with
   | none=>rfl
   | some u =>
    have e':b=a:=hA b (by rw [q]; simp)
    subst e'
    rw [hK (by rw [q]; simp)] at e; cases e)
  have hM:Mod K mg (ke s₁.heap H):=⟨hKb,nsK hns,⟨mb,nsK hb,hbb⟩,let ⟨mc,h1,h2⟩:=hlim; ⟨mc,nsK h1,h2⟩⟩
  have e0:wJ P w K mg (ke s₁.heap H) callerA [] s₁ H:=⟨rfl,hM,fun b o e=>wK e,Nat.le_of_eq (pd _ _),trivial,fun b hb=>absurd (show b∈([]:List Addr) from hb) (by simp),hok,.of_eq hg⟩
  refine codeAny_mono ((F _ hKb (nsK hns)).run callerA [] s₁ H ⟨[.ref a],[]⟩ [.ref a] [.ref a] _ _ hr e0 (hbind s₁ (.ref a)) (.cons rfl .nil) (hsp H hO hS)) fun r s' h=>?_
  cases r with
  | error e=>exact (hCX H e s' h).elim
  | ok fl =>
   cases fl with
   | next=>exact a1O h
   | brk=>exact a1O h
   | cont=>exact a1O h
   | ret u =>
    obtain ⟨v,H',os,bare,un,hok',r',q⟩:=h
    have q':v=.bl true:=q
    subst q'
    obtain rfl:u=Value.bool true:=r'
    refine ⟨rfl,OldK.of_keep fun b o e=>?_,os,bare⟩
    cases q:H b with
    | none=>exact un.keep b o e q (by intro z; exact absurd (show b∈([]:List Addr) from z) (by simp)) (by simp)
    | some u =>
     rcases hO b with z | ⟨ob,xs,z⟩
     ·rw [q] at z; cases z
     ·have z2:=un.frzs b ob _ z
      obtain ⟨e1,_⟩:=hok b _ z
      obtain ⟨e2,_⟩:=hok' b _ z2
      rw [e] at e1; cases e1
      exact e2
 cases hk:K.lookup a with
 | some o =>
  -- the script is one of the module's own objects
  have e:=KX a o hk
  rw [ha] at e
  cases e
  refine core (fun _=>none) (fun _=>.inl rfl) (.inr ⟨_,vs.toArray,_,hk,rfl,rfl,rfl,by rw [a0m,lenV]; exact hl,by simpa using rv⟩) (fun b u z=>by have z':(none:Option HO)=some u:=z; cases z') (fun b z=>absurd rfl z) fun z=>absurd rfl z
 | none =>
  refine core (fun b=>if b=a then some (.frz { cls:=.type "list",data:=.seq vs.toArray } (.lst (ns.map V.int))) else none) (fun b=>?_) (.inl (.inr ⟨{ cls:=.type "list",data:=.seq vs.toArray },if_pos rfl⟩)) (fun b u z=>?_) (fun b z=>?_) fun _=>hk
  ·by_cases hb:b=a
   ·exact .inr ⟨_,_,if_pos hb⟩
   ·exact .inl (if_neg hb)
  ·by_cases hb:b=a
   ·have z':=(if_pos hb).symm.trans z
    cases z'
    subst hb
    exact ⟨ha,by rw [a0b]; exact hl,vs,_,rv,ha⟩
   ·have z':=(if_neg hb).symm.trans z
    cases z'
  ·by_cases hb:b=a
   ·exact hb
   ·exact absurd (if_neg hb) z
end L2
namespace L2
open PySem PySem.Spec PyProof.Rows
theorem walk_of {l:a22}{n k:Nat}{q:Program}{loose:List Str}{XP:(Str->Option Value)->Heap->Prop}{YP:World->Heap->Prop}{d:DefRec}{K:Params->a0a}{CX:World->CXT}{sp:World->Sp}{x:Str}
  (hn:l.most=some n) (hn2:n<=sizeLine) (hdf:d.params.defaults=[]) (hr:Room k callerA)
  (hY:∀ (w:World) (h:Heap),YP w h->(K w.params).In h)
  (F:∀ (w:World) (mg:Str->Option Value) (fa:Addr) (h:Heap),(K w.params).In h->h.Ns mainGlobals mg->mg d.name=some (.ref fa) ->
   ∃ fd:FuncData,(∀ (s:Shared) (u:Value),BindsTo s fd ⟨[u],[]⟩ [(x,u)]) /\
    ∀ base:Heap,(K w.params).In base->base.Ns mainGlobals mg->FnOk l.prog w (K w.params) mg base (CX w) k fa fd [x] (sp w))
  (hsp:∀ (w:World) (H:Hp) (a:Addr) (ns:List Int),ns.length<=n->qD H->SqL (K w.params) H a (ns.map V.int)->sp w [.ref a] H (fun v _=>v=.bl true) fun _ _ _=>False)
  (hCX:∀ (w:World) (H:Hp) (s:Shared) (e:Value) (s':Shared),CX w [] H s (fun _ _ _=>False) e s'->False) :
  a3I q loose XP YP l.row.toRowW d [] (fun f vs=>a3H f vs):=by
 refine Att.attach_call hn hdf fun w s₀ s₁ mg mb fa o pm cd doc a vs ns G Y ho hd hcd hmg hobj hints hlen hg=>?_
 have KX:=hY w _ Y
 obtain ⟨fd,hb,hF⟩:=F w mg fa _ KX G.T.g hmg
 exact uf KX G.T.g G.T.b G.T.builtins G.T.nolimit hg hobj hints (a0o hlen hn2) hr hF hb (fun H hO hS=>hsp w H a ns hlen hO hS) fun H e s'=>hCX w H s₁ e s'
end L2
namespace L2
open PySem PySem.Spec PyProof.Rows
noncomputable def defArgs (s:Stmt):Arguments:=match s with
 | .FunctionDef _ a _ _ _ _ _ _ _ _=>a
 | _=>{ posonlyargs:=[],args:=[],vararg:=none,kwonlyargs:=[],kw_defaults:=[],kwarg:=none,defaults:=[] }
noncomputable def defBody (s:Stmt):List Stmt:=match s with
 | .FunctionDef _ _ b _ _ _ _ _ _ _=>b
 | _=>[]
noncomputable def defScope (s:Stmt):Scope:=match s with
 | .FunctionDef _ _ _ _ _ _ sc _ _ _=>sc
 | _=>{ kind:=.function,names:=[],isGenerator:=false,isCoroutine:=false }
noncomputable abbrev CX0:CXT:=fun _ _ _ _ _ _=>False
noncomputable abbrev E0:XK:=fun _ _ _=>False
theorem ni {X:Cx}:mx CX0 X E0:=fun _ _ _ _ _ _ _ h=>h.elim
structure Fun (K:a0a)(x qual:Str)(st:Stmt)(f:Addr)(fd:FuncData):Prop where
 ex:∃ (oc:Value) (od:Option Addr) (kV doc pm:Value) (an:Option Addr) (cdv ct:Value) (osl:Array (Option Value)),
  fd=a05 x qual (defArgs st) (defBody st) (defScope st) .none kV doc pm an cdv ct/\K.lookup f=some ⟨oc,od,.func fd,osl⟩/\a1W K cdv qual=true
 kp:a1a K (.ref f)=true
section
variable {P:Program}{w:World}{K:a0a}{mg:Str->Option Value}{base:Heap}
theorem Fun.ok {x qual:Str}{st:Stmt}{f:Addr}{fd:FuncData}{N ps:List Str}{k:Nat}{sp:Sp}(F:Fun K x qual st f fd)(S:ah N ps (defScope st))(len:∀ vs H Q E,sp vs H Q E->vs.length=ps.length)
  (hbody:∀ (cdv:Value) (A:Around) (outer:List Env) (s:Shared) (H:Hp) (vs:List V) (Q:VK) (E:XK),Room k (A.deeper (envOfC qual (defScope st) s.heap.objs.size f cdv))->sp vs H Q E ->
   ∃ t,PSs (fj CX0 P w K mg base N qual (defScope st) f cdv A outer s H E).nox (defBody st) t/\t { nx:=fun _ H'=>Q .non H',rt:=Q } (start N vs) H):FnOk P w K mg base CX0 (k+1) f fd ps sp:=by
 obtain ⟨oc,od,kV,doc,pm,an,cdv,ct,osl,rfl,lk,hcd⟩:=F.ex
 refine yg lk hcd S len fun A outer s H vs Q E hr hsp=>?_
 obtain ⟨t,h,q⟩:=hbody cdv A outer s H vs Q E hr hsp
 exact ⟨t,h.nox,q⟩
theorem Fun.binds {x qual:Str}{st:Stmt}{f:Addr}{fd:FuncData}{ps:List Str}(F:Fun K x qual st f fd)
  (h:∀ (kV doc pm:Value) (an:Option Addr) (cdv ct:Value) (us:List Value),us.length=ps.length->bindArgs (a05 x qual (defArgs st) (defBody st) (defScope st) .none kV doc pm an cdv ct) ⟨us,[]⟩=pure (ps.zip us)):Binds K fd ps []:=by
 obtain ⟨oc,od,kV,doc,pm,an,cdv,ct,osl,rfl,lk,hcd⟩:=F.ex
 exact .all (h kV doc pm an cdv ct)
theorem sC {x qual:Str}{st:Stmt}{f:Addr}{oc:Value}{od an:Option Addr}{osl:Array (Option Value)}{kV doc pm cdv ct:Value}(l:K.lookup f=some ⟨oc,od,.func (a05 x qual (defArgs st) (defBody st) (defScope st) .none kV doc pm an cdv ct),osl⟩)
  (c:a1W K cdv qual=true) (k:a1a K (.ref f)=true):Fun K x qual st f (a05 x qual (defArgs st) (defBody st) (defScope st) .none kV doc pm an cdv ct):=⟨⟨oc,od,kV,doc,pm,an,cdv,ct,osl,rfl,l,c⟩,k⟩
end
section
variable {X:Cx}
theorem pv (i:Nat){x:Str}{pos:Pos}(hN:X.N[i]?=some x:=by rfl)(hv:Vis X.env.scope x:=by first | exact a1r rfl | exact a1h (a1r rfl) | exact a1h (a1h rfl))(hd:(x==("__debug__":Str))=false:=by decide)
  (hcd:(x==("__classdict__":Str))=false:=by decide):PE X (.Name x pos) (oN i):=dS hN hv hd hcd
end
theorem jW {A B:Prop}(h:B):if false=true then A else B:=by
 rw [if_neg a0j]
 exact h
theorem yG {A B:Prop}(h:A):if true=true then A else B:=by
 rw [if_pos rfl]
 exact h
noncomputable def Same (H H':Hp):Prop:=∀ b o,H b=some o->H' b=some o
theorem Same.refl (H:Hp):Same H H:=fun _ _ h=>h
theorem Same.trans {H H1 H2:Hp}(a:Same H H1)(b:Same H1 H2):Same H H2:=fun c o h=>b c o (a c o h)
end L2
namespace L2
open PySem PySem.Spec PyProof.Rows
end L2
namespace L2
open PySem PySem.Spec PyProof.Rows
end L2

set_option maxHeartbeats 4000000
namespace L3
open PySem PySem.Spec PyProof.Rows L2
noncomputable abbrev noX:Value->Shared->Prop:=fun _ _=>False
theorem je {P:Program}{w:World}{H:Hp}{h:Heap}{a:Addr}{o:HO}(x:HOk P w H h)(hn:H a=none)(new:ObjOk P w (upd H a o) h a o):HOk P w (upd H a o) h:=by
 intro b u e
 by_cases hb:b=a
 ·subst hb
  rw [ak] at e
  cases e
  exact new
 ·rw [ai hb] at e
  refine (x b u e).stay (fun c v _ q=>q) (fun c q=>?_) (fun c xs q=>?_)
  ·rw [ai (aI q hn)]; exact q
  ·rw [ai (aI q hn)]; exact q
section
variable {prog:Program}{w:World}{A:Around}{R:Result->Shared->Prop}{s:Shared}
theorem mH {elt tg iter:Expr}{scope:Scope}{pos:Pos}{it acc:Value}{env:Env}(J:Nat->Shared->Prop)
  (turn:∀ n s,J n s->wpAny (model prog w) A (pyNext it) (fun r s₁=>match r with
   | none=>R (.ok .next) s₁
   | some v=>wpAny (model prog w) A (letOwnedTupleGo tg it v) (fun _ s₂=>wpAny (model prog w) A (assign tg env v) (fun _ s₃ =>
     wpAny (model prog w) A (eval elt env) (fun y s₄=>wpAny (model prog w) A (call (.builtin "list.append") [acc,y]) (fun _ s₅=>∃ m,m < n/\J m s₅) noX s₄) noX s₃) noX s₂) noX s₁) noX s)
  (n:Nat) (h:J n s):codeAny (model prog w) A (.compLoop (.ListComp elt [⟨tg,iter,[],0⟩] scope pos) 0 it acc env) R s:=by
 refine codeAny_loop rfl J (fun n s hJ=>?_) n h
 show wpAny _ A ((compTurn (.ListComp elt [⟨tg,iter,[],0⟩] scope pos) 0 it acc env).onRaise (fun x=>do noteFrame x env; theTreesLotGoes x)) _ _ s
 refine wpAny_noted ?_
 rw [compTurn_list]
 refine wpAny_bind (wpAny_standAt (wpAny_bind (wpAny_mono (turn n s hJ) (fun r s₁ h₁=>?_) fun _ _ z=>z.elim)))
 cases r with
 | none=>exact wpAny_pure h₁
 | some v =>
  refine wpAny_bind (wpAny_mono h₁ (fun _ s₂ h₂=>?_) fun _ _ z=>z.elim)
  refine wpAny_bind (wpAny_mono h₂ (fun _ s₃ h₃=>?_) fun _ _ z=>z.elim)
  refine wpAny_bind (wpAny_tests_nil ?_)
  exact wpAny_bind (wpAny_bind (wpAny_mono h₃ (fun y s₄ h₄=>wpAny_bind (wpAny_mono h₄ (fun _ s₅ h₅=>wpAny_pure (wpAny_pure ⟨rfl,h₅⟩)) fun _ _ z=>z.elim)) fun _ _ z=>z.elim))
end
noncomputable def av (X:Cx)(N:List Str)(scope:Scope)(cl:List (Str×Addr))(C:Addr)(s:Shared)(H:Hp)(fp:List Addr):Cx where
 prog:=X.prog
 w:=X.w
 K:=X.K
 mg:=X.mg
 base:=X.base
 A:=X.A
 N:=N
 s₀:=s
 H₀:=H
 env:=compEnvC scope cl C X.env
 outer:=X.stack
 stack:=X.stack
 ex:=fp
 fn:=fun _=>false
 calm:=X.calm
 pn:=X.pn
 xe:=noX
structure pq (x:Str)(ys:List Str)(scope:Scope):Prop where
 kind:scope.kind=.function
 cell:∀ y∈scope.names,y.2≠.cell
 nm:∀ y∈scope.names,y.2=.local->scope.names.lookup y.1=some .local
 loc:scope.names.lookup x=some .local
 nd:(x::ys).Nodup
inductive Clo (X:Cx):List (Str×Addr)->Prop
 | nil:Clo X []
 | cons {y:Str} {c:Addr} {cl:List (Str×Addr)}:X.env.cells.lookup y=some c->Clo X cl->Clo X ((y,c)::cl)
theorem Clo.get {X:Cx}{cl:List (Str×Addr)}(h:Clo X cl):∀ {y:Str} {c:Addr},cl.lookup y=some c->X.env.cells.lookup y=some c:=by
 induction h with
 | nil=>intro y c e; cases e
 | @cons z d cl' hz _ ih =>
  intro y c e
  cases q:y==z with
  | true =>
   simp only [a1A,q] at e
   cases e
   rw [eq_of_beq q]; exact hz
  | false =>
   simp only [a1A,q] at e
   exact ih e
inductive Frees (X:Cx)(scope:Scope)(cl:List (Str×Addr)):List Str->List Nat->Prop
 | nil:Frees X scope cl [] []
 | cons {y:Str} {ys:List Str} {i:Nat} {is:List Nat} {c:Addr}:X.N[i]?=some y->Vis X.env.scope y->(X.env.kindOf y=some .cell\/X.env.kindOf y=some .free)->X.env.cells.lookup y=some c->cl.lookup y=some c ->
   ((relabel scope X.env).names.lookup y=some .cell\/(relabel scope X.env).names.lookup y=some .free)->Frees X scope cl ys is->Frees X scope cl (y::ys) (i::is)
theorem Frees.len {X:Cx}{scope:Scope}{cl:List (Str×Addr)}{ys:List Str}{is:List Nat}(F:Frees X scope cl ys is):is.length=ys.length:=by
 induction F with
 | nil=>rfl
 | cons _ _ _ _ _ _ _ ih=>rw [a0f,a0f,ih]
noncomputable def cj (σ:L2.St)(is:List Nat):L2.St:=is.map fun i=>(σ[i]?).join
theorem Frees.get {X:Cx}{scope:Scope}{cl:List (Str×Addr)}{ys:List Str}{is:List Nat}{σ:L2.St}(F:Frees X scope cl ys is):∀ {j:Nat} {y:Str} {v:V},ys[j]?=some y->(cj σ is)[j]?=some (some v) ->
  ∃ (i:Nat) (c:Addr),X.N[i]?=some y/\σ[i]?=some (some v)/\Vis X.env.scope y/\(X.env.kindOf y=some .cell\/X.env.kindOf y=some .free)/\X.env.cells.lookup y=some c/\cl.lookup y=some c /\
   ((relabel scope X.env).names.lookup y=some .cell\/(relabel scope X.env).names.lookup y=some .free):=by
 induction F with
 | nil=>intro j y v e; simp at e
 | @cons z zs i is c h1 h2 h3 h4 h5 h6 _ ih =>
  intro j y v e1 e2
  unfold cj at e2
  rw [a0n] at e2
  cases j with
  | zero =>
   rw [a1c] at e1 e2
   cases e1
   cases q:σ[i]? with
   | none=>rw [q] at e2; cases e2
   | some o =>
    rw [q] at e2
    have e3:o=some v:=a0G e2
    subst e3
    exact ⟨i,c,h1,q,h2,h3,h4,h5,h6⟩
  | succ j =>
   rw [a0D] at e1 e2
   exact ih e1 e2
theorem lS {X:Cx}{pins:List (Addr×Obj)}{σ:L2.St}{H:Hp}{s:Shared}{x:Str}{ys:List Str}{is:List Nat}{scope:Scope}{cl:List (Str×Addr)}{fp:List Addr}{C:Addr}{h1:Heap}{t1:Nat}{m1:Str->Option Value}
  (I:Inv X pins σ H s) (hf:∀ b∈fp,gQ X pins H b) (hfo:∀ b∈fp,b < s.heap.objs.size) (S:pq x ys scope) (hcl:Clo X cl)
  (hfr:(scope.names.all fun p=>p.2 != .free || (cl.lookup p.1).isSome)=true) (fr:Frees X scope cl ys is)
  (hC:s.heap.objs.size<=C) (old:∀ b o,s.heap.get? b=some o->h1.get? b=some o) (hn:h1.Ns C m1) :
  Inv (av X (x::ys) scope cl C s H fp) pins (none::cj σ is) H { s with heap:=h1,toks:=t1 }:=by
 have stk:∀ b,b≠X.env.locals->b ∉ X.fs->b ∉ frs X.stack:=fun b q1 q2 hb=>(a0l.mp (I.stkSub b hb)).elim q1 q2
 have key:∀ a k,(relabel scope X.env).names.lookup a=some k->(k=.cell\/k=.free)->∃ c,cl.lookup a=some c:=fun a k e hk=>by
  have hm:=a1k e
  obtain ⟨⟨n,k0⟩,hp,ep⟩:=a0t.mp hm
  have hk0:k0=.free/\n=a:=by
   dsimp only at ep
   split at ep
   ·rename_i hc
    simp only [a0s] at hc
    exact ⟨eq_of_beq hc.1.1,(a3b ep).1⟩
   ·obtain ⟨e1,e2⟩:=a3b ep
    subst e2
    rcases hk with z | z
    ·exact absurd z (S.cell _ hp)
    ·exact ⟨z,e1⟩
  obtain ⟨z1,z2⟩:=hk0
  subst z1 z2
  have q:=a0L.mp hfr _ hp
  have q2:(cl.lookup n).isSome=true:=by simpa using q
  exact a11.mp q2
 refine ⟨⟨I.ok.mod,S.kind,I.ok.glob,I.ok.blt,hC,fun a b c e1 e2=>I.ok.inj a b c (hcl.get e1) (hcl.get e2),fun a ha=>?_,fun a c e=>absurd e a0j,I.ok.hd,I.ok.frames,.inl rfl,
   fun b hb=>⟨a0J (a0r (hfo b hb) hC),fun a c e=>(hf b hb).2.2.2.2.1 a c (hcl.get e)⟩,I.bs,a0o I.ok.bsz I.sz,fun b o e hb=>?_,fun b hb=>stk b (hf b hb).2.1 (hf b hb).2.2.1,I.stack,I.stkFree⟩,
  rfl,I.bare,Un.kept old,⟨m1,hn,fun j y v e1 e2 e3=>?_⟩,fun a c e=>?_,I.hok.fresh hC,fun a c e=>I.freeC a c (hcl.get e),fun p hp=>?_,I.hok.kept old,?_⟩
 ·rcases ha with e | e
  ·exact key a _ e (.inl rfl)
  ·exact key a _ e (.inr rfl)
 ·rcases (hf b hb).2.2.2.1 with z | z
  ·exact I.ok.noex b o e z
  ·exact absurd (a0r (Heap.lt_size (I.ok.bs b o e).1) z) (a1s _)
 ·cases j with
  | zero =>
   have z:(none:Option V)=some v:=a0G e2
   cases z
  | succ j =>
   obtain ⟨i,c,g1,g2,g3,g4,g5,g6,g7⟩:=fr.get (σ:=σ) (show ys[j]?=some y from e1) (show (cj σ is)[j]?=some (some v) from e2)
   obtain ⟨m0,hn0,hl0⟩:=I.loc
   obtain ⟨u,r,l⟩:=hl0 i y v g1 g2 g3
   rcases l with ⟨k,_⟩ | ⟨_,c',e',z⟩
   ·rcases g4 with q | q
    ·rw [k] at q; cases q
    ·rw [k] at q; cases q
   ·rw [g5] at e'
    cases e'
    obtain ⟨o,ho,hd⟩:=z
    exact ⟨u,r,.inr ⟨g7,c,g6,⟨o,old _ _ ho,hd⟩⟩⟩
 ·obtain ⟨v,o,ho,hd⟩:=I.cell a c (hcl.get e)
  exact ⟨v,o,old _ _ ho,hd⟩
 ·obtain ⟨e,n,ne,nf,d⟩:=I.pin p hp
  exact ⟨old _ _ e,n,a0J (a0r (Heap.lt_size e) hC),stk _ ne nf,d⟩
 ·show (none::cj σ is).length=(x::ys).length
  unfold cj
  rw [a0f,a0f,a0b,fr.len]
noncomputable abbrev kf (its:List Value):Obj:={ cls:=.type "list",data:=.seq its.toArray its.length }
theorem oK {X:Cx}(hc:X.calm=true):cO X (.builtin "all") (fun xs H Q=>∃ (a:Addr) (bs:List Bool),xs=[.ref a]/\SqL X.K H a (bs.map V.bl)/\Q (.bl (bs.all id)) H):=by
 intro pins s σ H xs us Q I r h
 obtain ⟨a,bs,rfl,hS,q⟩:=h
 obtain ⟨u,rfl,ru⟩:=fS r
 cases ru
 obtain ⟨its,rv,p,hz⟩:=I.list hS
 have hlen:its.toArray.size=bs.length:=by rw [a0m,<- rv.length,a0b]
 have hlt:a < s.heap.objs.size:=by obtain ⟨o,e,_⟩:=p.isList; exact Heap.lt_size e
 refine call_all_walk (wpAny_pyIter_list p.isList ?_)
 refine ⟨s.heap.objs.size,_,_,_,_,_,fun i=>bs.getD i true,rfl,Walks.list (A:=X.A.in1) (show X.A.in1.handled=none from I.ok.hd hc) s.heap.objs.size a (a0J hlt) its.toArray,⟨⟨_,Heap.get?_push_size _ rfl,rfl,rfl⟩,p.isList.push _⟩,fun i v s' Q' E' hv hQ=>?_,fun h' tk k=>?_⟩
 ·have hv':its[i]?=some v:=by simpa using hv
  have hi:i < its.length:=(a0q.mp hv').1
  have hib:i < bs.length:=by have:=rv.length; rw [a0b] at this; omega
  obtain ⟨w',e1,e2⟩:=rv.get (i:=i) (x:=.bl bs[i]) (by rw [a0x,a0k hib]; rfl)
  rw [hv'] at e1
  cases e1
  cases e2
  refine wpAny_truthy_bool ?_
  have e3:bs.getD i true=bs[i]:=by rw [a0i,a0k hib]; rfl
  rw [<- e3]; exact hQ
 ·have e:(a0B its.toArray.size).all (fun i=>bs.getD i true)=bs.all id:=by
   rw [hlen,a3z,a0L,a0L]
   constructor
   ·intro z b hb
    obtain ⟨i,hi,e⟩:=a3c hb
    have:=z i (a1V.mpr hi)
    rw [a0i,a0k hi] at this
    simpa [e] using this
   ·intro z i hi
    have hi':=a1V.mp hi
    rw [a0i,a0k hi']
    exact z _ (a2l hi')
  rw [e]
  exact ⟨.bl (bs.all id),H,I.kept (fun b o eo=>k b o (fun hm=>by
   have:b=s.heap.objs.size:=by simpa using hm
   exact absurd (this ▸ Heap.lt_size eo) (a1s _)) (Heap.get?_push_of_some _ eo)),rfl,q⟩
inductive Th where
 | non | bl (b:Bool) | int (i:Int) | str (x:Str) | tup (ts:List Th) | lst (ts:List Th)
mutual
noncomputable def Has (K:a0a)(H:Hp):Th->V->Prop
 | .non,v=>v=.non
 | .bl b,v=>v=.bl b
 | .int i,v=>v=.int i
 | .str x,v=>v=.str x
 | .tup ts,v=>∃ a vs,v=.ref a/\SqT K H a vs/\HasL K H ts vs
 | .lst ts,v=>∃ a vs,v=.ref a/\H a=some (.lst vs)/\HasL K H ts vs
noncomputable def HasL (K:a0a)(H:Hp):List Th->List V->Prop
 | [],vs=>vs=[]
 | t::ts,vs=>∃ v r,vs=v::r/\Has K H t v/\HasL K H ts r
end
theorem Same.sqt {K:a0a}{H H':Hp}{a:Addr}{xs:List V}(e:Same H H')(h:SqT K H a xs):SqT K H' a xs:=by
 rcases h with (h | ⟨o,h⟩) | h
 ·exact .inl (.inl (e _ _ h))
 ·exact .inl (.inr ⟨o,e _ _ h⟩)
 ·exact .inr h
mutual
theorem Has.mono {K:a0a}{H H':Hp}(s:Same H H'):∀ {t:Th} {v:V},Has K H t v->Has K H' t v
 | .non,_,h=>h
 | .bl _,_,h=>h
 | .int _,_,h=>h
 | .str _,_,h=>h
 | .tup _,_,⟨a,vs,e,q,r⟩=>⟨a,vs,e,Same.sqt s q,HasL.mono s r⟩
 | .lst _,_,⟨a,vs,e,q,r⟩=>⟨a,vs,e,s _ _ q,HasL.mono s r⟩
theorem HasL.mono {K:a0a}{H H':Hp}(s:Same H H'):∀ {ts:List Th} {vs:List V},HasL K H ts vs->HasL K H' ts vs
 | [],_,h=>h
 | _::_,_,⟨v,r,e,q,z⟩=>⟨v,r,e,Has.mono s q,HasL.mono s z⟩
end
theorem HasL.length {K:a0a}{H:Hp}:∀ {ts:List Th} {vs:List V},HasL K H ts vs->vs.length=ts.length
 | [],_,h=>by
  have h':_=[]:=h
  rw [h']
  all_goals rfl
 | _::_,_,⟨v,r,e,_,z⟩=>by rw [e,a0f,a0f,HasL.length z]
noncomputable def Th.ty:Th->String
 | .non=>"NoneType" | .bl _=>"bool" | .int _=>"int" | .str _=>"str" | .tup _=>"tuple" | .lst _=>"list"
noncomputable def isI (c:String)(t:Th):Bool:=t.ty==c || (t.ty=="bool"&&c=="int")
theorem kit_type {K:a0a}{A B:String}:a09 K (.type A) (.type B)=a09 [] (.type A) (.type B):=by
 unfold a09 PySem.W.kitCls PySem.W.subIn
 rfl
theorem Ax:∀ c∈["tuple","str","bool","int","list"],∀ n∈["NoneType","bool","int","str","tuple","list"],a09 [] (.type n) (.type c)=some (n==c || (n=="bool"&&c=="int")):=by decide +kernel
theorem BH (t:Th):t.ty∈["NoneType","bool","int","str","tuple","list"]:=by cases t<;>simp [Th.ty]
theorem gV {c:String}(hc:c∈["tuple","str","bool","int","list"])(t:Th):a09 [] (.type t.ty) (.type c)=some (isI c t):=Ax c hc t.ty (BH t)
structure DTab (K:a0a)(w:World)(a:Addr)(T:List (Str×V)):Prop where
 ex:∃ es n,K.lookup a=some ⟨.type "dict",none,.dict es n,#[]⟩/\a3A w.params es.toList/\Paired (fun (p:Str×V) (e:DictEntry)=>(∃ t,e.key=.str p.1 t)/\RelV p.2 e.val) T es.toList
 lo:(a==sysModules)=false
theorem lY {x:Str}:∀ {T:List (Str×V)} {l:List DictEntry},Paired (fun (p:Str×V) (e:DictEntry)=>(∃ t,e.key=.str p.1 t)/\RelV p.2 e.val) T l->RelO (T.lookup x) ((l.find? fun d=>Value.isStrOf x d.key).map (·.val))
 | _,_,.nil=>trivial
 | (k,v)::T,e::l,.cons ⟨⟨t,h1⟩,h2⟩ r=>by
  have ih:=lY (x:=x) r
  have q:Value.isStrOf x e.key=(x==k):=by
   have h1':e.key=.str k t:=h1
   rw [h1']
   show (k==x)=(x==k)
   by_cases z:x=k
   ·subst z; rfl
   ·rw [beq_false_of_ne z,beq_false_of_ne (a2K z)]
  rw [List.find?_cons,q,a1A]
  cases x==k with
  | true=>exact h2
  | false=>exact ih
theorem DTab.map {K:a0a}{w:World}{a:Addr}{T:List (Str×V)}{P:Program}{h:Heap}(D:DTab K w a T)(X:K.In h):∃ f:Str->Option Value,h.MapOf (strKind P w) a f/\∀ x,RelO (T.lookup x) (f x):=by
 obtain ⟨es,n,h1,h2,h3⟩:=D.ex
 refine ⟨_,PySem.W.mapOf_K (prog:=P) X h1 h2,fun x=>?_⟩
 have q:=lY (x:=x) h3
 have e:findBy Value.isStrOf es x=(es.toList.find? fun d=>Value.isStrOf x d.key).map (·.val):=by
  unfold findBy
  rw [<- a3g]
 rw [e]; exact q
theorem RelO.some_is {v:V}{o:Option Value}(r:RelO (some v) o):∃ u,o=some u/\RelV v u:=by
 cases o with
 | none=>exact r.elim
 | some u=>exact ⟨u,rfl,r⟩
theorem RelO.same_some {o:Option V}{u:Option Value}(r:RelO o u):u.isSome=o.isSome:=by
 cases o with
 | none =>
  cases u with
  | none=>rfl
  | some u=>exact r.elim
 | some v =>
  obtain ⟨u,rfl,_⟩:=RelO.some_is r
  rfl
section
variable {X:Cx}
theorem qf:OpR X (compareOp .In) (fun x y H Q=>∃ z a T,x=.str z/\y=.ref a/\DTab X.K X.w a T/\Q (.bl (T.lookup z).isSome) H):=by
 intro pins s σ H x y v u Q I rx ry h
 obtain ⟨z,a,T,rfl,rfl,D,q⟩:=h
 obtain ⟨t,rfl⟩:=rx
 cases ry
 obtain ⟨f,hm,hf⟩:=D.map (P:=X.prog) I.kIn
 refine wpAny_in_of (strKind_is X.prog X.w z t) D.lo hm ?_
 rw [RelO.same_some (hf z)]
 exact ⟨.bl (T.lookup z).isSome,H,I.tok _,rfl,q⟩
theorem AL:IxR X (fun x y H Q=>∃ a z T v,x=.ref a/\y=.str z/\DTab X.K X.w a T/\T.lookup z=some v/\Q v H):=by
 intro value slice pins s σ H x y v u Q I rx ry h hs
 obtain ⟨a,z,T,r,rfl,rfl,D,l,q⟩:=h
 cases rx
 obtain ⟨t,rfl⟩:=ry
 obtain ⟨f,hm,hf⟩:=D.map (P:=X.prog) I.kIn
 have e:=hf z
 rw [l] at e
 obtain ⟨w',e1,e2⟩:=RelO.some_is e
 exact tail_any hm.typeIs PySem.F.slot_dict_getitem.lookup (wpAny_getItem_of (strKind_is X.prog X.w z t) hm e1 ⟨r,H,I.tok _,e2,q⟩) hs
end
theorem cP {H:Hp}{p:Addr}(h:H p=none)(o:HO):Same H (upd H p o):=fun b u q=>by rw [ai (aI q h)]; exact q
noncomputable def yd (K:a0a):R2:=fun x y H Q=>∃ a b xs ys,x=.ref a/\y=.ref b/\SqT K H a xs/\SqT K H b ys/\xs≠[]/\xs.length+ys.length<=sizeLine/\∀ v H',Same H H'->(∃ c,v=.ref c/\SqT K H' c (xs++ys))->Q v H'
theorem uA {X:Cx}:OpR X (binaryOp .Add) (yd X.K):=fun pins s σ H x y v u Q I rx ry h=>by
 obtain ⟨a,b,xs,ys,e1,e2,h1,h2,hx,hz,q⟩:=h
 exact vJ pins s σ H x y v u Q I rx ry ⟨a,b,xs,ys,e1,e2,h1,h2,hx,hz,fun z=>q _ _ (Same.refl _) ⟨a,rfl,by rw [z,a0y]; exact h1⟩,fun _ p hp=>q _ _ (cP hp _) ⟨p,rfl,SqT.of ak⟩⟩
theorem i9 {X:Cx}{x:Str}{T:String}{pos:Pos}(hg:Gl X x)(hm:X.mg x=none)(hv:bootBuiltins x=some (.type T))(hn:x≠"__name__":=by decide)(hd:(x==("__debug__":Str))=false:=by decide):PE X (.Name x pos) (tC (.ty T)):=vD (v:=.ty T) hg hm hv rfl hn hd
theorem rK {X:Cx}{x:Str}{a:Addr}{pos:Pos}(hg:Gl X x)(hm:X.mg x=some (.ref a))(hd:(x==("__debug__":Str))=false:=by decide):PE X (.Name x pos) (tC (.ref a)):=nV (v:=.ref a) hg hm rfl hd
theorem fW (ns:List Int):∀ k,k<=ns.length->preSum (fun i=>ns.getD i 0) k=(ns.take k).sum
 | 0,_=>rfl
 | k+1,h=>by
  have ih:=fW ns k (by omega)
  show preSum (fun i=>ns.getD i 0) k+ns.getD k 0=_
  rw [ih,List.take_succ,a2r,a0i,a0k (show k < ns.length by omega)]
  simp
theorem oX {X:Cx}(hc:X.calm=true):cO X (.builtin "sum") (fun xs H Q=>∃ (a:Addr) (ns:List Int),xs=[.ref a]/\SqL X.K H a (ns.map V.int)/\Q (.int ns.sum) H):=by
 intro pins s σ H xs us Q I r h
 obtain ⟨a,ns,rfl,hS,q⟩:=h
 obtain ⟨u,rfl,ru⟩:=fS r
 cases ru
 obtain ⟨its,rv,p,hz⟩:=I.list hS
 have hlen:its.toArray.size=ns.length:=by rw [a0m,<- rv.length,a0b]
 have hlt:a < s.heap.objs.size:=by obtain ⟨o,e,_⟩:=p.isList; exact Heap.lt_size e
 refine call_sum_walkG (wpAny_pyIter_list p.isList ?_)
 refine ⟨s.heap.objs.size,_,_,_,_,_,fun i=>ns.getD i 0,rfl,Walks.list (A:=X.A.in1) (show X.A.in1.handled=none from I.ok.hd hc) s.heap.objs.size a (a0J hlt) its.toArray,⟨⟨_,Heap.get?_push_size _ rfl,rfl,rfl⟩,p.isList.push _⟩,fun b hb=>?_,fun i v hv=>?_,fun h' tk t' k=>?_⟩
 ·show b < (s.heap.push _).objs.size
  rw [Heap.size_push]
  rcases a0l.mp hb with rfl | hb
  ·exact a3v _
  ·rw [a0w.mp hb]; exact Nat.lt_succ_of_lt hlt
 ·have hv':its[i]?=some v:=by simpa using hv
  have hi:i < its.length:=(a0q.mp hv').1
  have hib:i < ns.length:=by have:=rv.length; rw [a0b] at this; omega
  obtain ⟨w',e1,e2⟩:=rv.get (i:=i) (x:=.int ns[i]) (by rw [a0x,a0k hib]; rfl)
  rw [hv'] at e1
  cases e1
  obtain ⟨t,rfl⟩:=e2
  have e3:ns.getD i 0=ns[i]:=by rw [a0i,a0k hib]; rfl
  exact ⟨t,by show Value.int ns[i] t=Value.int (ns.getD i 0) t; rw [e3]⟩
 ·have e:preSum (fun i=>ns.getD i 0) its.toArray.size=ns.sum:=by
   rw [hlen,fW ns _ (a0h _),a3w]
  rw [e]
  exact ⟨.int ns.sum,H,I.kept (fun b o eo=>k b o (fun hm=>by
   have:b=s.heap.objs.size:=by simpa using hm
   exact absurd (this ▸ Heap.lt_size eo) (a1s _)) (Heap.get?_push_of_some _ eo)),⟨t',rfl⟩,q⟩
mutual
noncomputable def toD:Th->PyData
 | .non=>.none
 | .bl b=>.bool b
 | .int i=>.int i
 | .str x=>.str x
 | .tup ts=>.tuple (gb ts)
 | .lst ts=>.list (gb ts)
noncomputable def gb:List Th->List PyData
 | []=>[]
 | t::ts=>toD t::gb ts
end
section
variable {X:Cx}{pins:List (Addr×Obj)}{σ:L2.St}{H:Hp}{s:Shared}
mutual
theorem Has.reads (I:Inv X pins σ H s):∀ {t:Th} {v:V} {u:Value},Has X.K H t v->RelV v u->∃ as,Reads s.heap u (toD t) as
 | .non,_,u,h,r=>by
  obtain rfl:_=V.non:=h
  obtain rfl:u=Value.none:=r
  exact ⟨_,.none⟩
 | .bl b,_,u,h,r=>by
  obtain rfl:_=V.bl b:=h
  obtain rfl:u=Value.bool b:=r
  exact ⟨_,.bool b⟩
 | .int i,_,u,h,r=>by
  obtain rfl:_=V.int i:=h
  obtain ⟨t,rfl⟩:∃ t,u=Value.int i t:=r
  exact ⟨_,.int i t⟩
 | .str x,_,u,h,r=>by
  obtain rfl:_=V.str x:=h
  obtain ⟨t,rfl⟩:∃ t,u=Value.str x t:=r
  exact ⟨_,.str x t⟩
 | .tup ts,_,u,⟨a,vs,e,hS,hL⟩,r=>by
  subst e
  obtain rfl:u=Value.ref a:=r
  obtain ⟨its,rv,⟨o,h1,h2,n,h3⟩,_⟩:=I.tuple hS
  obtain ⟨as,ra⟩:=HasL.reads I hL rv
  exact ⟨_,.tuple h1 h2 h3 (by simpa using ra)⟩
 | .lst ts,_,u,⟨a,vs,e,hS,hL⟩,r=>by
  subst e
  obtain rfl:u=Value.ref a:=r
  obtain ⟨its,rv,⟨o,n,h1,h2,_,h3⟩,_⟩:=I.list (SqL.of hS)
  obtain ⟨as,ra⟩:=HasL.reads I hL rv
  exact ⟨_,.list h1 h2 h3 (by simpa using ra)⟩
theorem HasL.reads (I:Inv X pins σ H s):∀ {ts:List Th} {vs:List V} {us:List Value},HasL X.K H ts vs->Vals vs us->∃ as,ReadsAll s.heap us (gb ts) as
 | [],vs,us,h,r=>by
  obtain rfl:vs=[]:=h
  cases r
  exact ⟨_,.nil⟩
 | t::ts,vs,us,⟨v,w',e,h1,h2⟩,r=>by
  subst e
  cases r with
  | cons r1 r2 =>
   obtain ⟨as,ra⟩:=Has.reads I h1 r1
   obtain ⟨bs,rb⟩:=HasL.reads I h2 r2
   exact ⟨_,.cons ra rb⟩
end
end
noncomputable abbrev jZ (t:Th):Prop:=SeqAt.shaped (toD t)=true
theorem nI {X:Cx}(hu:X.A.units+64 < cLine):OpR X (compareOp .Eq) (fun x y H Q=>∃ t t',Has X.K H t x/\Has X.K H t' y/\jZ t/\jZ t'/\Q (.bl (PyData.eqv (toD t) (toD t'))) H):=by
 intro pins s σ H x y v u Q I rx ry h
 obtain ⟨t,t',h1,h2,o1,o2,q⟩:=h
 obtain ⟨as,ra⟩:=Has.reads I h1 rx
 obtain ⟨bs,rb⟩:=Has.reads I h2 ry
 exact a3P ra rb o1 o2 hu ⟨.bl _,H,I,rfl,q⟩
theorem xg {X:Cx}(hu:X.A.units+64 < cLine):OpR X (compareOp .NotEq) (fun x y H Q=>∃ t t',Has X.K H t x/\Has X.K H t' y/\jZ t/\jZ t'/\Q (.bl (!PyData.eqv (toD t) (toD t'))) H):=by
 intro pins s σ H x y v u Q I rx ry h
 obtain ⟨t,t',h1,h2,o1,o2,q⟩:=h
 obtain ⟨as,ra⟩:=Has.reads I h1 rx
 obtain ⟨bs,rb⟩:=Has.reads I h2 ry
 exact a3Q ra rb o1 o2 hu ⟨.bl _,H,I,rfl,q⟩
theorem vy {X:Cx}{c1 c2:String}(h1:c1∈["tuple","str","bool","int","list"])(h2:c2∈["tuple","str","bool","int","list"]) :
  cO X (.builtin "isinstance") (fun xs H Q=>∃ x t p,xs=[x,.ref p]/\SqT X.K H p [.ty c1,.ty c2]/\Has X.K H t x/\Q (.bl (isI c1 t || isI c2 t)) H):=by
 intro pins s σ H xs us Q I r h
 obtain ⟨x,t,p,rfl,hp,ht,q⟩:=h
 obtain ⟨u,w',rfl,ru,rw'⟩:=gI r
 cases rw'
 obtain ⟨its,rv,pt,_⟩:=I.tuple hp
 obtain ⟨y1,y2,rfl,r1,r2⟩:=gI rv
 cases r1
 cases r2
 obtain ⟨⟨oc,od,odt,osl⟩,g1,g2,n,g3⟩:=pt
 have g2':oc=.type "tuple":=g2
 have g3':odt=.seq _ n:=g3
 subst g2' g3'
 have e1:a09 X.K (.type t.ty) (.type c1)=some (isI c1 t):=kit_type.trans (gV h1 t)
 have e2:a09 X.K (.type t.ty) (.type c2)=some (isI c2 t):=kit_type.trans (gV h2 t)
 have e:a1X X.K (.type t.ty) [.type c1,.type c2]=some (isI c1 t || isI c2 t):=by
  unfold a1X
  rw [e1]
  cases isI c1 t with
  | true=>rfl
  | false =>
   unfold a1X
   rw [e2]
   cases isI c2 t<;>rfl
 have fin:∀ tk,EP X pins σ Q (.bool (isI c1 t || isI c2 t)) { s with toks:=tk }:=fun tk=>⟨.bl _,H,I.tok tk,rfl,q⟩
 cases t with
 | non =>
  obtain rfl:x=.non:=ht
  cases ru
  exact a0Z a2F I.kIn a0H g1 e (fun z=>nomatch z) fin
 | bl b =>
  obtain rfl:x=.bl b:=ht
  cases ru
  exact a0Z a2G I.kIn a0H g1 e (fun z=>nomatch z) fin
 | int i =>
  obtain rfl:x=.int i:=ht
  obtain ⟨t,rfl⟩:=ru
  exact a0Z a2O I.kIn a0H g1 e (fun z=>nomatch z) fin
 | str z =>
  obtain rfl:x=.str z:=ht
  obtain ⟨t,rfl⟩:=ru
  exact a0Z a2P I.kIn a0H g1 e (fun z=>nomatch z) fin
 | tup ts =>
  obtain ⟨a,vs,rfl,hS,_⟩:=ht
  cases ru
  obtain ⟨its,_,⟨o,q1,q2,_⟩,_⟩:=I.tuple hS
  exact a0Z a15 I.kIn ⟨o,q1,q2⟩ g1 e (fun z=>nomatch z) fin
 | lst ts =>
  obtain ⟨a,vs,rfl,hS,_⟩:=ht
  cases ru
  obtain ⟨its,_,⟨o,n,q1,q2,_⟩,_⟩:=I.list (SqL.of hS)
  exact a0Z a1P I.kIn ⟨o,q1,q2⟩ g1 e (fun z=>nomatch z) fin
theorem Same.own {H0 H:Hp}{p:Addr}(s:Same H0 H)(h:H0 p=none)(o:HO):Same H0 (upd H p o):=fun b u q=>by rw [ai (aI q h)]; exact s b u q
section
variable {prog:Program}{w:World}{A:Around}{E:Value->Shared->Prop}{s:Shared}
theorem eY {t sl:Addr}{items:Array Value}{vl vu:Value}{lo hi:Option Int}{Q:Value->Shared->Prop}(ht:IsTup s.heap t items)(hs:s.heap.IsSliceOf sl vl vu .none)(pl:IsPart vl lo)(pu:IsPart vu hi)
  (hw:HT.sIx items.size 0 lo=0/\HT.sIx items.size items.size hi=items.size) (h:Q (.ref t) s):wpAny (model prog w) A (getItem (.ref t) (.ref sl)) Q E s:=by
 obtain ⟨os,hos,hcs,hds⟩:=id hs
 have hTs:s.TypeIs (.ref sl) "slice":=⟨os,hos,hcs⟩
 unfold getItem
 try with_reducible refine wpAny_holding ?_
 first | refine wpAny_bind (wpAny_pure ?_) | skip
 refine wpAny_bind (wpAny_sequenceKey ht.typeIs (by decide) ?_)
 refine wpAny_bind (wpAny_callSpecial?_slot (name:=Str.ofString "__getitem__") ht.typeIs a0U
  (wpAny_call_entry a0U ht.typeIs entry_tuple_getitem ?_ (args_tuple_getitem _ _)))
 show wpAny _ _ (Builtin.Tuple.tupleItemsOf (.ref t) >>= _) _ _ s
 refine wpAny_bind (tupleItemsOf_ ht ?_)
 refine wpAny_bind (wpAny_typeOf hTs ?_)
 rw [if_pos (by decide)]
 refine wpAny_bind (HT.sliceApplied_gen hs pl pu ?_)
 have hyes:(((HT.sIx items.size 0 lo:Nat):Int)==0&&(1:Int)==1&&(HT.sIx items.size items.size hi-HT.sIx items.size 0 lo)==items.size)=true:=by
  rw [hw.1,hw.2]
  simp
 show wpAny _ _ (if (((HT.sIx items.size 0 lo:Nat):Int)==0&&(1:Int)==1&&(HT.sIx items.size items.size hi-HT.sIx items.size 0 lo)==items.size)=true then _ else _) _ _ s
 rw [if_pos hyes]
 unfold Builtin.Tuple.tupleIsExact
 refine wpAny_bind (wpAny_bind (wpAny_typeOf ht.typeIs (wpAny_pure ?_)))
 rw [if_pos (by decide)]
 first
  | exact wpAny_bind (wpAny_rule (wpAny_pure ⟨_,rfl,wpAny_pure h⟩))
  | exact wpAny_bind (wpAny_rule (wpAny_bind (wpAny_pure (wpAny_pure ⟨_,rfl,wpAny_pure h⟩))))
end
section
variable {X:Cx}
noncomputable def wz (K:a0a):V->Option Int->Option Int->Hp->VK->Prop:=fun x lo hi H Q=>∃ a xs,x=.ref a/\SqT K H a xs/\∀ v H',Same H H'->(∃ c,v=.ref c/\SqT K H' c (dZ xs lo hi))->Q v H'
theorem nB:SlR X (wz X.K):=by
 intro pins s σ H x v vl vu lo hi sl Q I rx hs pl pu h
 obtain ⟨a,xs,rfl,hx,q⟩:=h
 by_cases hw:HT.sIx xs.length 0 lo=0/\HT.sIx xs.length xs.length hi=xs.length
 ·cases rx
  obtain ⟨its,r,ht,hz⟩:=I.tuple hx
  have hlen:its.toArray.size=xs.length:=by rw [a0m]; exact r.length.symm
  refine ⟨"tuple",_,a0U.lookup,ht.typeIs,?_⟩
  refine eY ht hs pl pu (by rw [hlen]; exact hw) ⟨.ref a,H,I,rfl,q _ _ (Same.refl H) ⟨a,rfl,?_⟩⟩
  have e:dZ xs lo hi=xs:=by
   unfold dZ
   rw [hw.1,hw.2]
   simp
  rw [e]
  exact hx
 ·exact zG pins s σ H _ v vl vu lo hi sl Q I rx hs pl pu ⟨a,xs,rfl,hx,hw,fun p hp=>q _ _ (cP hp _) ⟨p,rfl,SqT.of ak⟩⟩
end
noncomputable def EC (K:a0a):R2:=fun x y H Q=>∃ p xs i v,x=.ref p/\y=.int i/\(SqL K H p xs\/SqT K H p xs)/\atI xs i=some v/\Q v H
theorem ix_any {X:Cx}:IxR X (EC X.K):=fun value slice pins s σ H x y v u Q I rx ry h hs=>by
 obtain ⟨p,xs,i,z,e1,e2,hq,ha,q⟩:=h
 rcases hq with hq | hq
 ·exact vR value slice pins s σ H x y v u Q I rx ry ⟨p,xs,i,z,e1,e2,hq,ha,q⟩ hs
 ·exact AD value slice pins s σ H x y v u Q I rx ry ⟨p,xs,i,z,e1,e2,hq,ha,q⟩ hs
end L3

namespace L3
open PySem PySem.Spec PySem.Builtin PySem.Builtin.Str PyProof.Rows L2
end L3

namespace L3
open PySem PySem.Spec PyProof.Rows L2
noncomputable def SqO (h:Heap):Bool->Addr->Array Value->Prop
 | true,a,xs=>h.IsTuple a xs
 | false,a,xs=>h.IsList a xs
noncomputable def ItO (h:Heap):Bool->Addr->Addr->Nat->Prop
 | true,it,a,n=>h.IsTupleIter it a n
 | false,it,a,n=>h.IsListIter it a n
theorem SqO.at {h h':Heap}{k:Bool}{a:Addr}{xs:Array Value}(x:SqO h k a xs)(e:∀ o,h.get? a=some o->h'.get? a=some o):SqO h' k a xs:=by
 cases k<;>(obtain ⟨o,ho,r⟩:=x; exact ⟨o,e o ho,r⟩)
theorem ItO.at {h h':Heap}{k:Bool}{it a:Addr}{n:Nat}(x:ItO h k it a n)(e:∀ o,h.get? it=some o->h'.get? it=some o):ItO h' k it a n:=by
 cases k<;>(obtain ⟨o,ho,r⟩:=x; exact ⟨o,e o ho,r⟩)
theorem ItO.obj {h:Heap}{k:Bool}{it a:Addr}{n:Nat}(x:ItO h k it a n):∃ o,h.get? it=some o/\∀ v,o.data≠.cell v:=by
 cases k<;>(obtain ⟨o,ho,_,d⟩:=x; exact ⟨o,ho,fun v z=>by rw [d] at z; cases z⟩)
theorem SqO.lt {h:Heap}{k:Bool}{a:Addr}{xs:Array Value}(x:SqO h k a xs):a < h.objs.size:=by
 cases k<;>(obtain ⟨o,ho,_⟩:=x; exact Heap.lt_size ho)
section
variable {prog:Program}{w:World}{A:Around}{E:Value->Shared->Prop}{s:Shared}
theorem mn {it t:Addr}{i:Nat}{xs:Array Value}{x:Value}{Q:Value->Shared->Prop}(hit:s.heap.IsTupleIter it t i)(ht:s.heap.IsTuple t xs)(hx:xs[i]?=some x)
  (q:∀ h',h'.IsTupleIter it t (i+1)->Heap.SameBut it s.heap h'->Q x { s with heap:=h' }):wpAny (model prog w) A (Builtin.SmallTypes.nextOf (.ref it)) Q E s:=by
 obtain ⟨u,hu,cu,du⟩:=id hit; obtain ⟨v,hv,_,nv,dv⟩:=ht
 unfold Builtin.SmallTypes.nextOf
 refine wpAny_bind (wpAny_callSpecial?_slot (name:=Str.ofString "__next__") hit.typeIs F.slot_tuple_iterator_next (wpAny_call_entry F.slot_tuple_iterator_next hit.typeIs F.entry_tuple_iterator_next ?_ (F.args_tuple_iterator_next_1 _)))
 show wpAny _ _ (field (.ref it) 0 >>= _) _ _ _; refine wpAny_bind (wpAny_field hu du (x:=.ref t) rfl ?_)
 show wpAny _ _ (if (Value.ref t==Value.none)=true then _ else _) _ _ _; rw [if_neg (by intro z; cases z)]
 show wpAny _ _ (field (.ref it) 1 >>= _) _ _ _; refine wpAny_bind (wpAny_field hu du (x:=.int i 0) rfl ?_)
 show wpAny _ _ (seqItems? (.ref t) >>= _) _ _ _; refine wpAny_bind (wpAny_seqItems hv dv ?_)
 simp only [hx,a1G]
 exact wpAny_bind (wpAny_setField hu du (by simp) (wpAny_pure ⟨x,rfl,wpAny_pure (q _ ⟨_,Heap.get?_update_self _ hu (Obj.isFreed_of_fields (Obj.data_mapFields du _)),(Obj.cls_mapFields ..).trans cu,by rw [Obj.data_mapFields du]; simp [rawInt]⟩ (Heap.SameBut.update ..))⟩))
theorem pL {it t:Addr}{i:Nat}{xs:Array Value}{Q:Value->Shared->Prop}(hh:A.handled=none)(hit:s.heap.IsTupleIter it t i)(ht:s.heap.IsTuple t xs)(hx:xs[i]?=none)
  (q:∀ h' e,Heap.ExtBut it s.heap h'->(∃ o,h'.get? e=some o/\o.cls=.type "StopIteration")->E (.ref e) { s with heap:=h' }):wpAny (model prog w) A (Builtin.SmallTypes.nextOf (.ref it)) Q E s:=by
 obtain ⟨u,hu,cu,du⟩:=id hit; obtain ⟨v,hv,_,nv,dv⟩:=ht
 unfold Builtin.SmallTypes.nextOf
 refine wpAny_bind (wpAny_callSpecial?_slot (name:=Str.ofString "__next__") hit.typeIs F.slot_tuple_iterator_next (wpAny_call_entry F.slot_tuple_iterator_next hit.typeIs F.entry_tuple_iterator_next ?_ (F.args_tuple_iterator_next_1 _)))
 show wpAny _ _ (field (.ref it) 0 >>= _) _ _ _; refine wpAny_bind (wpAny_field hu du (x:=.ref t) rfl ?_)
 show wpAny _ _ (if (Value.ref t==Value.none)=true then _ else _) _ _ _; rw [if_neg (by intro z; cases z)]
 show wpAny _ _ (field (.ref it) 1 >>= _) _ _ _; refine wpAny_bind (wpAny_field hu du (x:=.int i 0) rfl ?_)
 show wpAny _ _ (seqItems? (.ref t) >>= _) _ _ _; refine wpAny_bind (wpAny_seqItems hv dv ?_)
 simp only [hx,a1G]
 refine wpAny_bind (wpAny_rule (wpAny_bind (wpAny_setField hu du (by simp) ?_))); show wpAny _ _ (newExc (.type "StopIteration") [] >>= _) _ _ _
 refine wpAny_bind ?_; simp only [newTuple,newExc]
 refine wpAny_bind (wpAny_newObj_type ?_ (by size_fits)); refine wpAny_bind (m:=firstArgMember _ _) (wpAny_of_eq (a:=Value.none) (by first | rfl | (simp only [firstArgMember]; rfl)) (wpAny_newObj_type ?_ (by size_fits)))
 simp only [raiseNew]
 refine wpAny_bind (wpAny_handled ?_); first | rw [hh] | rw [show A.in1.handled=none from hh]
 exact wpAny_bind (wpAny_pure (wpAny_throw (q _ _ (((Heap.SameBut.update ..).extBut.push _).push _) ⟨_,Heap.get?_push_size _ rfl,rfl⟩)))
theorem bh {k:Bool}{it t:Addr}{i:Nat}{xs:Array Value}{x:Value}{Q:Value->Shared->Prop}(hit:ItO s.heap k it t i)(ht:SqO s.heap k t xs)(hx:xs[i]?=some x)
  (q:∀ h',ItO h' k it t (i+1)->Heap.SameBut it s.heap h'->Q x { s with heap:=h' }):wpAny (model prog w) A (Builtin.SmallTypes.nextOf (.ref it)) Q E s:=by
 cases k with
 | false=>exact wpAny_nextOf_list_item (show s.heap.IsListIter it t i from hit) (show s.heap.IsList t xs from ht) hx q
 | true=>exact mn hit ht hx q
theorem dn {k:Bool}{it t:Addr}{i:Nat}{xs:Array Value}{Q:Value->Shared->Prop}(hh:A.handled=none)(hit:ItO s.heap k it t i)(ht:SqO s.heap k t xs)(hx:xs[i]?=none)
  (q:∀ h' e,Heap.ExtBut it s.heap h'->(∃ o,h'.get? e=some o/\o.cls=.type "StopIteration")->E (.ref e) { s with heap:=h' }):wpAny (model prog w) A (Builtin.SmallTypes.nextOf (.ref it)) Q E s:=by
 cases k with
 | false=>exact wpAny_nextOf_list_end hh (show s.heap.IsListIter it t i from hit) (show s.heap.IsList t xs from ht) hx q
 | true=>exact pL hh hit ht hx q
theorem pO {z TI TO i1 i2 a1 a2:Addr}{k1 k2:Bool}{n m:Nat}{xs ys:Array Value}{x y a b:Value}{Q:Value->Shared->Prop}(D:ZipApart z TI TO i1 i2 a1 a2)
  (hz:IsZip s.heap z TI TO .none) (hI:IsPair s.heap TI (.ref i1) (.ref i2)) (hO:IsPair s.heap TO a b) (h1:ItO s.heap k1 i1 a1 n) (h2:ItO s.heap k2 i2 a2 m) (q1:SqO s.heap k1 a1 xs) (q2:SqO s.heap k2 a2 ys) (hx:xs[n]?=some x) (hy:ys[m]?=some y)
  (q:∀ h',IsZip h' z TI TO (rawInt s.heap.objs.size)->IsPair h' TO x y->ItO h' k1 i1 a1 (n+1)->ItO h' k2 i2 a2 (m+1)->IsPair h' s.heap.objs.size x y->h'.objs.size=s.heap.objs.size+1 ->
   (∀ c o,c≠z->c≠TO->c≠i1->c≠i2->s.heap.get? c=some o->h'.get? c=some o)->Q (.ref s.heap.objs.size) { s with heap:=h' }) :
  wpAny (model prog w) A (Builtin.«zip.__next__» ⟨[.ref z],[]⟩) (fun fin s'=>∃ v,fin=.done (.ret v)/\Q v s') E s:=by
 show wpAny _ _ (field (.ref z) 2 >>= _) _ _ _; refine wpAny_bind (wpAny_field hz rfl (x:=.bool false) rfl ?_)
 show wpAny _ _ (field (.ref z) 3 >>= _) _ _ _; refine wpAny_bind (wpAny_field hz rfl (x:=.ref TI) rfl (wpAny_bind (wpAny_seqItems hI rfl ?_)))
 show wpAny _ _ (Builtin.SmallTypes.ownedTupleIsFree (.ref z) >>= _) _ _ _; refine wpAny_bind ?_
 unfold Builtin.SmallTypes.ownedTupleIsFree
 refine wpAny_bind (wpAny_field hz rfl (x:=.none) rfl (wpAny_pure ?_)); simp only [if_true]
 refine wpAny_bind (wpAny_rule (wpAny_bind (wpAny_field hz rfl (x:=.ref TO) rfl (wpAny_bind (wpAny_setField_rec hz (by simp) fun g1 z1 s1=>?_)))))
 replace z1:IsZip g1 z TI TO .ellipsis:=z1
 refine wpAny_bind ?_; simp only [a2s,a2C,a2m,a2t]
 refine wpAny_bind (wpAny_bind (wpAny_onRaise ?_)); show wpAny _ _ (Builtin.SmallTypes.nextOf (.ref i1) >>= _) _ _ _
 refine wpAny_bind (bh (h1.at fun o e=>s1.extBut _ _ D.i1z e) (q1.at fun o e=>s1.extBut _ _ D.l1z e) hx fun g2 r2 s2=>wpAny_pure ?_)
 have p2:IsPair g2 TO a b:=s2.extBut _ _ D.TOi1 (s1.extBut _ _ D.TOz hO)
 refine wpAny_bind (wpAny_seqItems p2 rfl (wpAny_bind (wpAny_updateSeq_pair p2 fun g3 p3 s3=>wpAny_bind (wpAny_letGo (wpAny_pure ?_)))))
 replace p3:IsPair g3 TO x b:=p3
 refine wpAny_bind (wpAny_bind (wpAny_onRaise ?_)); show wpAny _ _ (Builtin.SmallTypes.nextOf (.ref i2) >>= _) _ _ _
 refine wpAny_bind (bh (h2.at fun o e=>s3.extBut _ _ D.TOi2.symm (s2.extBut _ _ D.i12.symm (s1.extBut _ _ D.i2z e))) (q2.at fun o e=>s3.extBut _ _ D.l2TO (s2.extBut _ _ D.l2i1 (s1.extBut _ _ D.l2z e))) hy fun g4 r4 s4=>wpAny_pure ?_)
 have p4:IsPair g4 TO x b:=s4.extBut _ _ D.TOi2 p3
 refine wpAny_bind (wpAny_seqItems p4 rfl (wpAny_bind (wpAny_updateSeq_pair p4 fun g5 p5 s5=>wpAny_bind (wpAny_letGo (wpAny_pure (wpAny_pure ?_))))))
 replace p5:IsPair g5 TO x y:=p5
 refine wpAny_bind (wpAny_seqItems p5 rfl (wpAny_bind (wpAny_newTuple ?_)))
 have sz:g5.objs.size=s.heap.objs.size:=by rw [s5.1,s4.1,s3.1,s2.1,s1.1]
 have z5:IsZip g5 z TI TO .ellipsis:=s5.extBut _ _ D.TOz.symm (s4.extBut _ _ D.i2z.symm (s3.extBut _ _ D.TOz.symm (s2.extBut _ _ D.i1z.symm z1)))
 have k5:∀ c o,c≠z->c≠TO->c≠i1->c≠i2->s.heap.get? c=some o->g5.get? c=some o:=fun c o n1 n2 n3 n4 e=>s5.extBut _ _ n2 (s4.extBut _ _ n4 (s3.extBut _ _ n2 (s2.extBut _ _ n3 (s1.extBut _ _ n1 e))))
 have r5:ItO g5 k1 i1 a1 (n+1):=r2.at fun o e=>s5.extBut _ _ D.TOi1.symm (s4.extBut _ _ D.i12 (s3.extBut _ _ D.TOi1.symm e))
 have t5:ItO g5 k2 i2 a2 (m+1):=r4.at fun o e=>s5.extBut _ _ D.TOi2.symm e
 have zlt:z < g5.objs.size:=Heap.lt_size z5
 show wpAny _ _ (Builtin.SmallTypes.ownedTupleHandOut (.ref z) (.ref g5.objs.size) >>= _) _ _ _; refine wpAny_bind ?_
 unfold Builtin.SmallTypes.ownedTupleHandOut
 have z6:IsZip (g5.push { cls:=.type "tuple",data:=.seq #[x,y] }) z TI TO .ellipsis:=Heap.get?_push_of_some _ z5
 refine wpAny_bind (wpAny_setField_rec z6 (by simp) fun g7 z7 s7=>?_)
 replace z7:IsZip g7 z TI TO (rawInt g5.objs.size):=z7
 refine wpAny_setField_rec z7 (by simp) fun g8 z8 s8=>?_
 replace z8:IsZip g8 z TI TO (rawInt g5.objs.size):=z8
 have up:∀ c o,c≠z->g5.get? c=some o->g8.get? c=some o:=fun c o n1 e=>s8.extBut _ _ n1 (s7.extBut _ _ n1 (Heap.get?_push_of_some _ e))
 have p8:IsPair g8 g5.objs.size x y:=s8.extBut _ _ (a1w zlt) (s7.extBut _ _ (a1w zlt) (Heap.get?_push_size _ rfl))
 have e8:g8.objs.size=g5.objs.size+1:=by rw [s8.1,s7.1,Heap.size_push]
 rw [sz] at z8 p8 e8
 refine wpAny_pure ⟨_,rfl,?_⟩
 show Q (.ref g5.objs.size) _
 rw [sz]
 exact q g8 z8 (up _ _ D.TOz p5) (r5.at fun o e=>up _ o D.i1z e) (t5.at fun o e=>up _ o D.i2z e) p8 e8 fun c o n1 n2 n3 n4 e=>up c o n1 (k5 c o n1 n2 n3 n4 e)
theorem qP {z TI TO i1 i2 a1 a2:Addr}{k1 k2:Bool}{n m:Nat}{xs ys:Array Value}{a b:Value}{Q:Fin->Shared->Prop}(hh:A.handled=none)(D:ZipApart z TI TO i1 i2 a1 a2)
  (hz:IsZip s.heap z TI TO .none) (hI:IsPair s.heap TI (.ref i1) (.ref i2)) (hO:IsPair s.heap TO a b) (h1:ItO s.heap k1 i1 a1 n) (h2:ItO s.heap k2 i2 a2 m) (q1:SqO s.heap k1 a1 xs) (q2:SqO s.heap k2 a2 ys) (hend:xs[n]?=none\/ys[m]?=none)
  (q:∀ h' e,(∀ c o,c≠z->c≠TO->c≠i1->c≠i2->s.heap.get? c=some o->h'.get? c=some o)->(∃ o,h'.get? e=some o/\o.cls=.type "StopIteration")->E (.ref e) { s with heap:=h' }) :
  wpAny (model prog w) A (Builtin.«zip.__next__» ⟨[.ref z],[]⟩) Q E s:=by
 show wpAny _ _ (field (.ref z) 2 >>= _) _ _ _; refine wpAny_bind (wpAny_field hz rfl (x:=.bool false) rfl ?_)
 show wpAny _ _ (field (.ref z) 3 >>= _) _ _ _; refine wpAny_bind (wpAny_field hz rfl (x:=.ref TI) rfl (wpAny_bind (wpAny_seqItems hI rfl ?_)))
 show wpAny _ _ (Builtin.SmallTypes.ownedTupleIsFree (.ref z) >>= _) _ _ _; refine wpAny_bind ?_
 unfold Builtin.SmallTypes.ownedTupleIsFree
 refine wpAny_bind (wpAny_field hz rfl (x:=.none) rfl (wpAny_pure ?_)); simp only [if_true]
 refine wpAny_bind (wpAny_rule (wpAny_bind (wpAny_field hz rfl (x:=.ref TO) rfl (wpAny_bind (wpAny_setField_rec hz (by simp) fun g1 z1 s1=>?_)))))
 replace z1:IsZip g1 z TI TO .ellipsis:=z1
 refine wpAny_bind ?_; simp only [a2s,a2C,a2m,a2t]
 refine wpAny_bind (wpAny_bind (wpAny_onRaise ?_)); show wpAny _ _ (Builtin.SmallTypes.nextOf (.ref i1) >>= _) _ _ _
 cases hx:xs[n]? with
 | none =>
  refine wpAny_bind (dn hh (h1.at fun o e=>s1.extBut _ _ D.i1z e) (q1.at fun o e=>s1.extBut _ _ D.l1z e) hx fun g2 e s2 he=>?_)
  obtain ⟨oe,ho,ce⟩:=he
  have z2:IsZip g2 z TI TO .ellipsis:=s2 _ _ D.i1z.symm z1
  have ez:e≠z:=fun y=>by subst y; rw [z2] at ho; cases ho; simp at ce
  exact wpAny_setField_rec z2 (by simp) fun g3 _ s3=>q g3 e (fun c o n1 _ n3 _ y=>s3.extBut _ _ n1 (s2 _ _ n3 (s1.extBut _ _ n1 y))) ⟨oe,s3.extBut _ _ ez ho,ce⟩
 | some x =>
  have hy:ys[m]?=none:=hend.elim (fun y=>by rw [hx] at y; cases y) id
  refine wpAny_bind (bh (h1.at fun o e=>s1.extBut _ _ D.i1z e) (q1.at fun o e=>s1.extBut _ _ D.l1z e) hx fun g2 r2 s2=>wpAny_pure ?_)
  have p2:IsPair g2 TO a b:=s2.extBut _ _ D.TOi1 (s1.extBut _ _ D.TOz hO)
  refine wpAny_bind (wpAny_seqItems p2 rfl (wpAny_bind (wpAny_updateSeq_pair p2 fun g3 p3 s3=>wpAny_bind (wpAny_letGo (wpAny_pure ?_)))))
  refine wpAny_bind (wpAny_bind (wpAny_onRaise ?_)); show wpAny _ _ (Builtin.SmallTypes.nextOf (.ref i2) >>= _) _ _ _
  refine wpAny_bind (dn hh (h2.at fun o e=>s3.extBut _ _ D.TOi2.symm (s2.extBut _ _ D.i12.symm (s1.extBut _ _ D.i2z e))) (q2.at fun o e=>s3.extBut _ _ D.l2TO (s2.extBut _ _ D.l2i1 (s1.extBut _ _ D.l2z e))) hy fun g4 e s4 he=>?_)
  obtain ⟨oe,ho,ce⟩:=he
  have z4:IsZip g4 z TI TO .ellipsis:=s4 _ _ D.i2z.symm (s3.extBut _ _ D.TOz.symm (s2.extBut _ _ D.i1z.symm z1))
  have ez:e≠z:=fun y=>by subst y; rw [z4] at ho; cases ho; simp at ce
  exact wpAny_setField_rec z4 (by simp) fun g5 _ s5=>q g5 e (fun c o n1 n2 n3 n4 y=>s5.extBut _ _ n1 (s4 _ _ n4 (s3.extBut _ _ n2 (s2.extBut _ _ n3 (s1.extBut _ _ n1 y))))) ⟨oe,s5.extBut _ _ ez ho,ce⟩
theorem mW {z TI TO i1 i2 a1 a2:Addr}{k1 k2:Bool}{n m:Nat}{xs ys:Array Value}{x y a b:Value}{Q:Option Value->Shared->Prop}(D:ZipApart z TI TO i1 i2 a1 a2)
  (hz:IsZip s.heap z TI TO .none) (hI:IsPair s.heap TI (.ref i1) (.ref i2)) (hO:IsPair s.heap TO a b) (h1:ItO s.heap k1 i1 a1 n) (h2:ItO s.heap k2 i2 a2 m) (q1:SqO s.heap k1 a1 xs) (q2:SqO s.heap k2 a2 ys) (hx:xs[n]?=some x) (hy:ys[m]?=some y)
  (q:∀ h',IsZip h' z TI TO (rawInt s.heap.objs.size)->IsPair h' TO x y->ItO h' k1 i1 a1 (n+1)->ItO h' k2 i2 a2 (m+1)->IsPair h' s.heap.objs.size x y->h'.objs.size=s.heap.objs.size+1 ->
   (∀ c o,c≠z->c≠TO->c≠i1->c≠i2->s.heap.get? c=some o->h'.get? c=some o)->Q (some (.ref s.heap.objs.size)) { s with heap:=h' }):wpAny (model prog w) A (pyNext (.ref z)) Q E s:=by
 have hT:s.TypeIs (.ref z) "zip":=⟨_,hz,rfl⟩
 unfold pyNext
 exact wpAny_bind (wpAny_attempt (wpAny_callSpecial?_slot (name:=Str.ofString "__next__") hT F.slot_zip_next (wpAny_call_entry F.slot_zip_next hT F.entry_zip_next (pO D hz hI hO h1 h2 q1 q2 hx hy fun h' y1 y2 y3 y4 y5 y6 y7=>wpAny_pure (q h' y1 y2 y3 y4 y5 y6 y7)) (F.args_zip_next_1 _))))
theorem pB {z TI TO i1 i2 a1 a2:Addr}{k1 k2:Bool}{n m:Nat}{xs ys:Array Value}{a b:Value}{Q:Option Value->Shared->Prop}(hh:A.handled=none)(D:ZipApart z TI TO i1 i2 a1 a2)
  (hz:IsZip s.heap z TI TO .none) (hI:IsPair s.heap TI (.ref i1) (.ref i2)) (hO:IsPair s.heap TO a b) (h1:ItO s.heap k1 i1 a1 n) (h2:ItO s.heap k2 i2 a2 m) (q1:SqO s.heap k1 a1 xs) (q2:SqO s.heap k2 a2 ys) (hend:xs[n]?=none\/ys[m]?=none)
  (q:∀ h',(∀ c o,c≠z->c≠TO->c≠i1->c≠i2->s.heap.get? c=some o->h'.get? c=some o)->Q none { s with heap:=h' }):wpAny (model prog w) A (pyNext (.ref z)) Q E s:=by
 have hT:s.TypeIs (.ref z) "zip":=⟨_,hz,rfl⟩
 unfold pyNext
 refine wpAny_bind (wpAny_attempt (wpAny_callSpecial?_slot (name:=Str.ofString "__next__") hT F.slot_zip_next (wpAny_call_entry F.slot_zip_next hT F.entry_zip_next (qP hh D hz hI hO h1 h2 q1 q2 hend fun h' e hk he=>?_) (F.args_zip_next_1 _))))
 obtain ⟨o,ho,hc⟩:=he
 exact wpAny_bind (wpAny_isInstance (T:="StopIteration") (b:=true) ⟨o,ho,hc⟩ isSubtype_stop (wpAny_pure (q _ hk)))
end
noncomputable def f9 (k:Bool)(a:Addr):Obj:=match k with
 | true=>{ cls:=.type "tuple_iterator",data:=.fields #[.ref a,.int 0 0] }
 | false=>{ cls:=.type "list_iterator",data:=.fields #[.ref a,.int 0 0] }
noncomputable abbrev zO1 (h:Heap)(k1:Bool)(a1:Addr):Heap:=h.push (f9 k1 a1)
noncomputable abbrev zO2 (h:Heap)(k1 k2:Bool)(a1 a2:Addr):Heap:=(zO1 h k1 a1).push (f9 k2 a2)
noncomputable abbrev zO3 (h:Heap)(k1 k2:Bool)(a1 a2:Addr):Heap:=(zO2 h k1 k2 a1 a2).push { cls:=.type "tuple",data:=.seq #[.ref h.objs.size,.ref (zO1 h k1 a1).objs.size] }
noncomputable abbrev zO4 (h:Heap)(k1 k2:Bool)(a1 a2:Addr):Heap:=(zO3 h k1 k2 a1 a2).push { cls:=.type "tuple",data:=.seq #[.none,.none] }
noncomputable abbrev zO5 (h:Heap)(k1 k2:Bool)(a1 a2:Addr):Heap:=(zO4 h k1 k2 a1 a2).push { cls:=.type "zip",data:=.fields #[.none,.bool false,.bool false,.ref (zO2 h k1 k2 a1 a2).objs.size,.ref (zO3 h k1 k2 a1 a2).objs.size] }
theorem mT (k1 k2:Bool)(a1 a2:Addr)(xs ys:Array Value) :
  Meets (Builtin.«zip.__new__» ⟨[.type "zip",.ref a1,.ref a2],[]⟩) (fun _ R s=>SqO s.heap k1 a1 xs/\SqO s.heap k2 a2 ys/\R (.ok (.ret (.ref (zO4 s.heap k1 k2 a1 a2).objs.size))) { s with heap:=zO5 s.heap k1 k2 a1 a2 }) :=
 .of_wp fun prog w A R s h=>by
  obtain ⟨hp,g,d,tk,os⟩:=s; obtain ⟨q1,q2,h⟩:=h
  have hsub:=sub_zip
  cases k1<;>cases k2
  ·have e1:Heap.IsList (Shared.heap ⟨hp,g,d,tk,os⟩) a1 xs:=q1
   have e2:Heap.IsList (Shared.heap ⟨hp.push { cls:=.type "list_iterator",data:=.fields #[.ref a1,.int 0 0] },g,d,tk,os⟩) a2 ys:=Heap.IsList.push q2 _
   wp_walk using wpAny_pyIter_list e1,wpAny_pyIter_list e2
   exact ⟨_,rfl,h⟩
  ·have e1:Heap.IsList (Shared.heap ⟨hp,g,d,tk,os⟩) a1 xs:=q1
   have e2:Heap.IsTuple (Shared.heap ⟨hp.push { cls:=.type "list_iterator",data:=.fields #[.ref a1,.int 0 0] },g,d,tk,os⟩) a2 ys:=Heap.IsTuple.push q2 _
   wp_walk using wpAny_pyIter_list e1,wpAny_pyIter_tuple e2
   exact ⟨_,rfl,h⟩
  ·have e1:Heap.IsTuple (Shared.heap ⟨hp,g,d,tk,os⟩) a1 xs:=q1
   have e2:Heap.IsList (Shared.heap ⟨hp.push { cls:=.type "tuple_iterator",data:=.fields #[.ref a1,.int 0 0] },g,d,tk,os⟩) a2 ys:=Heap.IsList.push q2 _
   wp_walk using wpAny_pyIter_tuple e1,wpAny_pyIter_list e2
   exact ⟨_,rfl,h⟩
  ·have e1:Heap.IsTuple (Shared.heap ⟨hp,g,d,tk,os⟩) a1 xs:=q1
   have e2:Heap.IsTuple (Shared.heap ⟨hp.push { cls:=.type "tuple_iterator",data:=.fields #[.ref a1,.int 0 0] },g,d,tk,os⟩) a2 ys:=Heap.IsTuple.push q2 _
   wp_walk using wpAny_pyIter_tuple e1,wpAny_pyIter_tuple e2
   exact ⟨_,rfl,h⟩
theorem fq {h:Heap}{k:Bool}{it a:Addr}(e:h.get? it=some (f9 k a)):ItO h k it a 0:=by
 cases k<;>exact ⟨_,e,rfl,rfl⟩
theorem c8 (k:Bool)(a:Addr):(f9 k a).isFreed=false:=by cases k<;>rfl
section
variable {prog:Program}{w:World}{A:Around}{E:Value->Shared->Prop}{s:Shared}
theorem uI {k1 k2:Bool}{a1 a2:Addr}{xs ys:Array Value}{Q:Value->Shared->Prop}(q1:SqO s.heap k1 a1 xs)(q2:SqO s.heap k2 a2 ys)
  (h:∀ h',IsZip h' (s.heap.objs.size+4) (s.heap.objs.size+2) (s.heap.objs.size+3) .none->IsPair h' (s.heap.objs.size+2) (.ref s.heap.objs.size) (.ref (s.heap.objs.size+1)) ->
   IsPair h' (s.heap.objs.size+3) .none .none->ItO h' k1 s.heap.objs.size a1 0->ItO h' k2 (s.heap.objs.size+1) a2 0->(∀ c o,s.heap.get? c=some o->h'.get? c=some o)->Q (.ref (s.heap.objs.size+4)) { s with heap:=h' }) :
  wpAny (model prog w) A (call (.type "zip") [.ref a1,.ref a2]) Q E s:=by
 refine callType_new F.called_zip (by decide) (F.typeCall_zip_2 _ _) (F.newCall_zip_2 _ _) (fun obj=>F.args_object_init_3 obj _ _) F.entry_zip_new (mT k1 k2 a1 a2 xs ys) ⟨q1,q2,?_⟩
 have e1:(zO1 s.heap k1 a1).objs.size=s.heap.objs.size+1:=Heap.size_push ..
 have e2:(zO2 s.heap k1 k2 a1 a2).objs.size=s.heap.objs.size+2:=by rw [Heap.size_push,e1]
 have e3:(zO3 s.heap k1 k2 a1 a2).objs.size=s.heap.objs.size+3:=by rw [Heap.size_push,e2]
 have e4:(zO4 s.heap k1 k2 a1 a2).objs.size=s.heap.objs.size+4:=by rw [Heap.size_push,e3]
 have g5:(zO5 s.heap k1 k2 a1 a2).get? (zO4 s.heap k1 k2 a1 a2).objs.size=some _:=Heap.get?_push_size _ rfl
 have g4:(zO5 s.heap k1 k2 a1 a2).get? (zO3 s.heap k1 k2 a1 a2).objs.size=some _:=Heap.get?_push_of_some _ (Heap.get?_push_size _ rfl)
 have g3:(zO5 s.heap k1 k2 a1 a2).get? (zO2 s.heap k1 k2 a1 a2).objs.size=some _:=Heap.get?_push_of_some _ (Heap.get?_push_of_some _ (Heap.get?_push_size _ rfl))
 have g2:(zO5 s.heap k1 k2 a1 a2).get? (zO1 s.heap k1 a1).objs.size=some (f9 k2 a2):=Heap.get?_push_of_some _ (Heap.get?_push_of_some _ (Heap.get?_push_of_some _ (Heap.get?_push_size _ (c8 k2 a2))))
 have g1:(zO5 s.heap k1 k2 a1 a2).get? s.heap.objs.size=some (f9 k1 a1):=Heap.get?_push_of_some _ (Heap.get?_push_of_some _ (Heap.get?_push_of_some _ (Heap.get?_push_of_some _ (Heap.get?_push_size _ (c8 k1 a1)))))
 show _/\_
 rw [e2,e3,e4] at g5
 rw [e1,e2] at g3
 rw [e3] at g4
 rw [e1] at g2
 rw [e4]
 exact ⟨⟨_,g5,rfl⟩,h _ g5 g3 g4 (fq g1) (fq g2) fun c o x=>Heap.get?_push_of_some _ (Heap.get?_push_of_some _ (Heap.get?_push_of_some _ (Heap.get?_push_of_some _ (Heap.get?_push_of_some _ x))))⟩
end
end L3
namespace L3
open PySem PySem.Spec PyProof.Rows L2
noncomputable def Sq (K:a0a)(H:Hp):Bool->Addr->List V->Prop
 | true,a,xs=>SqT K H a xs
 | false,a,xs=>SqL K H a xs
section
variable {X:Cx}{pins:List (Addr×Obj)}{σ:L2.St}{H:Hp}{s:Shared}
theorem ox (I:Inv X pins σ H s){k:Bool}{a:Addr}{xs:List V}(h:Sq X.K H k a xs):∃ its:List Value,Vals xs its/\SqO s.heap k a its.toArray/\xs.length<=sizeLine:=by
 cases k with
 | true=>obtain ⟨its,r,p,z⟩:=I.tuple h; exact ⟨its,r,p,z⟩
 | false=>obtain ⟨its,r,p,z⟩:=I.list h; exact ⟨its,r,p.isList,z⟩
theorem nU (I:Inv X pins σ H s){k:Bool}{a:Addr}{xs ys:List V}(h:Sq X.K H k a xs)(h':Sq X.K H k a ys):xs=ys:=by
 cases k with
 | true=>exact I.tuple_inj h h'
 | false=>exact I.list_inj h h'
theorem gJ {h':Heap}{ch:List Addr}(I:Inv X pins σ H s)(hf:∀ b∈ch,H b=none)(k:∀ b o,b ∉ ch->s.heap.get? b=some o->h'.get? b=some o):HOk X.prog X.w H h':=fun b u e=>by
 have nit:∀ b u,H b=some u->b ∉ ch:=fun b u e z=>by rw [hf b z] at e; cases e
 refine (I.hok b u e).stay (fun c v hc q=>k c v ?_ q) (fun _ q=>q) fun _ _ q=>q
 rcases hc with z | z
 ·rw [z]; exact nit b u e
 ·exact nit c _ z
theorem eA {h':Heap}{t':Nat}{ch:List Addr}(I:Inv X pins σ H s)(hf:∀ b∈ch,gQ X pins H b)(k:∀ b o,b ∉ ch->s.heap.get? b=some o->h'.get? b=some o):Inv X pins σ H { s with heap:=h',toks:=t' }:=by
 refine I.step (g':=s.gens) (d':=s.drawn) (ch:=ch) (fun b hb=>⟨(hf b hb).2.2.2.1,(hf b hb).2.1,(hf b hb).2.2.2.2.1,(hf b hb).2.2.2.2.2⟩) (fun b o _ _ hc e _=>k b o hc e) (fun b o _ _ hc e _=>⟨o.slots,k b o hc e⟩) (fun _ _ _ _ n=>n)
  (fun b o hc e=>⟨o,k b o hc e⟩) (fun _ _ e=>e) (fun _ _ _ e=>e) (fun b ps e=>⟨#[],by rw [e]; simp⟩) (fun m hm=>?_) (gJ I (fun b hb=>(hf b hb).1) k) I.bare
 obtain ⟨o,es,ep,ho,r⟩:=hm
 exact ⟨o,es,ep,k _ o (fun z=>(hf _ z).2.1 rfl) ho,r⟩
theorem cJ {h':Heap}{t':Nat}{ch:List Addr}{a:Addr}{ys:List V}{its:List Value}(I:Inv X pins σ H s)(hf:∀ b∈ch,gQ X pins H b)(k:∀ b o,b ∉ ch->s.heap.get? b=some o->h'.get? b=some o)
  (ha:s.heap.objs.size<=a) (hz:ys.length<=sizeLine) (hv:Vals ys its) (ht:IsTup h' a its.toArray):Inv X pins σ (upd H a (.tup ys)) { s with heap:=h',toks:=t' }:=by
 have fr:H a=none:=I.hok.fresh ha
 have na:∀ b o,s.heap.get? b=some o->b≠a:=fun b o e=>a0J (a0r (Heap.lt_size e) ha)
 refine I.step (g':=s.gens) (d':=s.drawn) (ch:=ch) (fun b hb=>⟨(hf b hb).2.2.2.1,(hf b hb).2.1,(hf b hb).2.2.2.2.1,(hf b hb).2.2.2.2.2⟩) (fun b o _ _ hc e _=>k b o hc e) (fun b o _ _ hc e _=>⟨o.slots,k b o hc e⟩) (fun b o _ e n=>by rw [ai (na b o e)]; exact n)
  (fun b o hc e=>⟨o,k b o hc e⟩) (fun b u e=>by rw [ai (aI e fr)]; exact e) (fun b o u e=>by rw [ai (aI e fr)]; exact e) (fun b ps e=>⟨#[],by rw [ai (aI e fr),e]; simp⟩) (fun m hm=>?_)
  (je (gJ I (fun b hb=>(hf b hb).1) k) fr ⟨hz,its,hv,ht⟩) I.bare
 obtain ⟨o,es,ep,ho,r⟩:=hm
 exact ⟨o,es,ep,k _ o (fun z=>(hf _ z).2.1 rfl) ho,r⟩
end
noncomputable def Itz (K:a0a)(k1 k2:Bool)(a1 a2:Addr):It :=
 ⟨fun i H=>∃ xs ys x y,Sq K H k1 a1 xs/\Sq K H k2 a2 ys/\xs[i]?=some x/\ys[i]?=some y,
  fun i H v H'=>∃ p x y,v=.ref p/\H p=none/\H'=upd H p (.tup [x,y])/\(∀ xs,Sq K H k1 a1 xs->xs[i]?=some x)/\∀ ys,Sq K H k2 a2 ys->ys[i]?=some y,
  fun i H=>∃ xs ys,Sq K H k1 a1 xs/\Sq K H k2 a2 ys/\(xs.length<=i\/ys.length<=i)⟩
noncomputable def ZSt (z TI TO i1 i2:Addr)(k1 k2:Bool)(a1 a2:Addr)(i:Nat)(h:Heap):Prop :=
 IsZip h z TI TO .none/\IsPair h TI (.ref i1) (.ref i2)/\(∃ a b,IsPair h TO a b)/\ItO h k1 i1 a1 i/\ItO h k2 i2 a2 i
theorem ur {P:Program}{w:World}{K:a0a}{es:List Expr}{kt:Nat}{pt:Pos}{z TI TO i1 i2 a1 a2:Addr}{k1 k2:Bool}(D:ZipApart z TI TO i1 i2 a1 a2) :
  mr P w K (.Tuple es kt pt) (Itz K k1 k2 a1 a2) [z,TI,TO,i1,i2] z (ZSt z TI TO i1 i2 k1 k2 a1 a2) where
 mem:=by simp
 obj:=fun i h st b hb=>by
  obtain ⟨q1,q2,⟨a,c,q3⟩,q4,q5⟩:=st
  simp only [a0l,a0K,or_false] at hb
  rcases hb with rfl | rfl | rfl | rfl | rfl
  ·exact ⟨_,q1,fun v y=>by cases y⟩
  ·exact ⟨_,q2,fun v y=>by cases y⟩
  ·exact ⟨_,q3,fun v y=>by cases y⟩
  ·exact q4.obj
  ·exact q5.obj
 keep:=fun i h h' st k=>by
  obtain ⟨q1,q2,⟨a,c,q3⟩,q4,q5⟩:=st
  exact ⟨k z (by simp) _ q1,k TI (by simp) _ q2,⟨a,c,k TO (by simp) _ q3⟩,q4.at fun o e=>k i1 (by simp) o e,q5.at fun o e=>k i2 (by simp) o e⟩
 item:=by
  intro X hP hw hK hc i pins s σ H E I hf st hg
  subst hP hw hK
  obtain ⟨xs,ys,x,y,s1,s2,hx,hy⟩:=hg
  obtain ⟨q1,q2,⟨a,c,q3⟩,q4,q5⟩:=st
  obtain ⟨its1,v1,o1,z1⟩:=ox I s1
  obtain ⟨its2,v2,o2,z2⟩:=ox I s2
  obtain ⟨u1,e1,r1⟩:=v1.get hx
  obtain ⟨u2,e2,r2⟩:=v2.get hy
  have lt:∀ b∈[z,TI,TO,i1,i2],b < s.heap.objs.size:=fun b hb=>by
   simp only [a0l,a0K,or_false] at hb
   rcases hb with rfl | rfl | rfl | rfl | rfl
   ·exact Heap.lt_size q1
   ·exact Heap.lt_size q2
   ·exact Heap.lt_size q3
   ·obtain ⟨o,e,_⟩:=q4.obj; exact Heap.lt_size e
   ·obtain ⟨o,e,_⟩:=q5.obj; exact Heap.lt_size e
  refine mW D q1 q2 q3 q4 q5 o1 o2 (x:=u1) (y:=u2) (by simpa using e1) (by simpa using e2) fun h' y1 y2 y3 y4 y5 y6 y7=>⟨_,rfl,?_⟩
  refine wpAny_letOwnedTupleGo_zip (s:={ s with heap:=h' }) y1 fun h2 w1 sb=>?_
  have sb':Heap.SameBut z h' h2:=sb
  have nz:s.heap.objs.size≠z:=a1w (lt z (by simp))
  have kk:∀ b o,b ∉ [z,TI,TO,i1,i2]->s.heap.get? b=some o->h2.get? b=some o:=fun b o hb e=>by
   simp only [a0l,a0K,or_false,not_or] at hb
   exact (sb'.2 b hb.1).trans (y7 b o hb.1 hb.2.2.1 hb.2.2.2.1 hb.2.2.2.2 e)
  have tp:IsTup h2 s.heap.objs.size [u1,u2].toArray:=⟨_,(sb'.2 _ nz).trans y5,rfl,_,rfl⟩
  refine ⟨.ref s.heap.objs.size,upd H s.heap.objs.size (.tup [x,y]),cJ (s:=s) (t':=s.toks) I hf kk (a0h _) (by show 2<=sizeLine; decide) (.cons r1 (.cons r2 .nil)) tp,rfl,
   ⟨_,x,y,rfl,I.fresh,rfl,fun zs hz=>by rw [nU I hz s1]; exact hx,fun zs hz=>by rw [nU I hz s2]; exact hy⟩,?_,fun b hb=>?_⟩
  ·exact ⟨w1,(sb'.2 _ D.TIz).trans (y7 _ _ D.TIz D.TITO D.TIi1 D.TIi2 q2),⟨_,_,(sb'.2 _ D.TOz).trans y2⟩,y3.at fun o e=>(sb'.2 _ D.i1z).trans e,y4.at fun o e=>(sb'.2 _ D.i2z).trans e⟩
  ·rw [ai (a0J (lt b hb))]; exact (hf b hb).1
 done:=by
  intro X hP hw hK hc i pins s σ H E I hf st hg
  subst hP hw hK
  obtain ⟨xs,ys,s1,s2,hl⟩:=hg
  obtain ⟨q1,q2,⟨a,c,q3⟩,q4,q5⟩:=st
  obtain ⟨its1,v1,o1,z1⟩:=ox I s1
  obtain ⟨its2,v2,o2,z2⟩:=ox I s2
  have l1:=v1.length
  have l2:=v2.length
  refine pB (I.ok.hd hc) D q1 q2 q3 q4 q5 o1 o2 (hl.imp (fun q=>by simp; omega) fun q=>by simp; omega) fun h' hk=>⟨rfl,eA (t':=s.toks) I hf fun b o hb e=>?_⟩
  simp only [a0l,a0K,or_false,not_or] at hb
  exact hk b o hb.1 hb.2.2.1 hb.2.2.2.1 hb.2.2.2.2 e
 self:=fun _ _ _ _ _ st h=>wpAny_pyIter_zip st.1 h
section
variable {X:Cx}
noncomputable def C7 (K:a0a)(ta:TA):TI:=fun σ H R=>ta σ H fun vs H1=>∃ k1 k2 a1 a2,vs=[.ref a1,.ref a2]/\(∃ xs,Sq K H1 k1 a1 xs)/\(∃ ys,Sq K H1 k2 a2 ys)/\R (Itz K k1 k2 a1 a2) H1
theorem BK {a b:Expr}{ta:TA}{p pos pt:Pos}{es:List Expr}{kt:Nat}(hg:Gl X "zip")(hm:X.mg "zip"=none)(ha:PA X [a,b] ta)(hs:starEach [a,b] X.env=[(false,eval a X.env),(false,eval b X.env)]:=by rfl)(hs2:starEach [b] X.env=[(false,eval b X.env)]:=by rfl) :
  PI X (.Tuple es kt pt) (.Call (.Name "zip" p) [a,b] [] pos) (C7 X.K ta):=by
 intro pins s σ H R I h
 refine Call_ (eE I hg hm boot_zip (a1b (thn (ha pos pins s σ H _ I h) fun us s1 ⟨vs,H1,I1,r1,q1⟩=>?_) (by rw [hs,hs2]) (by rw [hs2]; rfl)))
 obtain ⟨k1,k2,a1,a2,rfl,⟨xs,s1'⟩,⟨ys,s2'⟩,q⟩:=q1
 cases r1 with
 | cons r rr =>
  cases rr with
  | cons r' rr =>
   cases rr
   cases r
   cases r'
   obtain ⟨its1,v1,o1,z1⟩:=ox I1 s1'
   obtain ⟨its2,v2,o2,z2⟩:=ox I1 s2'
   refine uI o1 o2 fun h' q1 q2 q3 q4 q5 kk=>?_
   refine wpAny_pyIter_zip (s:={ s1 with heap:=h' }) q1 ?_
   refine ⟨_,_,_,_,H1,rfl,I1.kept (t':=s1.toks) kk,ur (zipApart_new o1.lt o2.lt),⟨q1,q2,⟨_,_,q3⟩,q4,q5⟩,fun b hb=>?_,q⟩
   have hle:s1.heap.objs.size<=b:=by
    simp only [a0l,a0K,or_false] at hb
    rcases hb with e | e | e | e | e<;>(rw [e]; first | exact a2R _ _ | exact a0h _)
   exact I1.fpOk hle (I1.hok.fresh hle)
end
structure aG (pre ys:List Str)(scope:Scope):Prop where
 kind:scope.kind=.function
 cell:∀ y∈scope.names,y.2≠.cell
 nm:∀ y∈scope.names,y.2=.local->scope.names.lookup y.1=some .local
 loc:∀ x∈pre,scope.names.lookup x=some .local
 nd:(pre++ys).Nodup
theorem sJ {pre:List Str}{τ:L2.St}{j:Nat}{v:V}(e:(a0e pre.length none++τ)[j]?=some (some v)):∃ i,j=pre.length+i/\τ[i]?=some (some v):=by
 by_cases hj:j < pre.length
 ·rw [a0R (by rw [a0z]; exact hj),a17,if_pos hj] at e
  cases a0G e
 ·refine ⟨j-pre.length,by omega,?_⟩
  rw [a0I (by rw [a0z]; omega),a0z] at e
  exact e
theorem oW {X:Cx}{pins:List (Addr×Obj)}{σ:L2.St}{H:Hp}{s:Shared}{pre ys:List Str}{is:List Nat}{scope:Scope}{cl:List (Str×Addr)}{fp:List Addr}{C:Addr}{h1:Heap}{t1:Nat}{m1:Str->Option Value}
  (I:Inv X pins σ H s) (hf:∀ b∈fp,gQ X pins H b) (hfo:∀ b∈fp,b < s.heap.objs.size) (S:aG pre ys scope) (hcl:Clo X cl)
  (hfr:(scope.names.all fun p=>p.2 != .free || (cl.lookup p.1).isSome)=true) (fr:Frees X scope cl ys is)
  (hC:s.heap.objs.size<=C) (old:∀ b o,s.heap.get? b=some o->h1.get? b=some o) (hn:h1.Ns C m1) :
  Inv (av X (pre++ys) scope cl C s H fp) pins (a0e pre.length none++cj σ is) H { s with heap:=h1,toks:=t1 }:=by
 have stk:∀ b,b≠X.env.locals->b ∉ X.fs->b ∉ frs X.stack:=fun b q1 q2 hb=>(a0l.mp (I.stkSub b hb)).elim q1 q2
 have key:∀ a k,(relabel scope X.env).names.lookup a=some k->(k=.cell\/k=.free)->∃ c,cl.lookup a=some c:=fun a k e hk=>by
  have hm:=a1k e
  obtain ⟨⟨n,k0⟩,hp,ep⟩:=a0t.mp hm
  have hk0:k0=.free/\n=a:=by
   dsimp only at ep
   split at ep
   ·rename_i hc
    simp only [a0s] at hc
    exact ⟨eq_of_beq hc.1.1,(a3b ep).1⟩
   ·obtain ⟨e1,e2⟩:=a3b ep
    subst e2
    rcases hk with z | z
    ·exact absurd z (S.cell _ hp)
    ·exact ⟨z,e1⟩
  obtain ⟨z1,z2⟩:=hk0
  subst z1 z2
  have q:=a0L.mp hfr _ hp
  have q2:(cl.lookup n).isSome=true:=by simpa using q
  exact a11.mp q2
 refine ⟨⟨I.ok.mod,S.kind,I.ok.glob,I.ok.blt,hC,fun a b c e1 e2=>I.ok.inj a b c (hcl.get e1) (hcl.get e2),fun a ha=>?_,fun a c e=>absurd e a0j,I.ok.hd,I.ok.frames,.inl rfl,
   fun b hb=>⟨a0J (a0r (hfo b hb) hC),fun a c e=>(hf b hb).2.2.2.2.1 a c (hcl.get e)⟩,I.bs,a0o I.ok.bsz I.sz,fun b o e hb=>?_,fun b hb=>stk b (hf b hb).2.1 (hf b hb).2.2.1,I.stack,I.stkFree⟩,
  rfl,I.bare,Un.kept old,⟨m1,hn,fun j y v e1 e2 e3=>?_⟩,fun a c e=>?_,I.hok.fresh hC,fun a c e=>I.freeC a c (hcl.get e),fun p hp=>?_,I.hok.kept old,?_⟩
 ·rcases ha with e | e
  ·exact key a _ e (.inl rfl)
  ·exact key a _ e (.inr rfl)
 ·rcases (hf b hb).2.2.2.1 with z | z
  ·exact I.ok.noex b o e z
  ·exact absurd (a0r (Heap.lt_size (I.ok.bs b o e).1) z) (a1s _)
 ·obtain ⟨k,rfl,e2'⟩:=sJ e2
  have e1':ys[k]?=some y:=by
   have e1'':(pre++ys)[pre.length+k]?=some y:=e1
   rw [a0I (by omega),a1I] at e1''
   exact e1''
  obtain ⟨i,c,g1,g2,g3,g4,g5,g6,g7⟩:=fr.get (σ:=σ) e1' e2'
  obtain ⟨m0,hn0,hl0⟩:=I.loc
  obtain ⟨u,r,l⟩:=hl0 i y v g1 g2 g3
  rcases l with ⟨k,_⟩ | ⟨_,c',e',z⟩
  ·rcases g4 with q | q
   ·rw [k] at q; cases q
   ·rw [k] at q; cases q
  ·rw [g5] at e'
   cases e'
   obtain ⟨o,ho,hd⟩:=z
   exact ⟨u,r,.inr ⟨g7,c,g6,⟨o,old _ _ ho,hd⟩⟩⟩
 ·obtain ⟨v,o,ho,hd⟩:=I.cell a c (hcl.get e)
  exact ⟨v,o,old _ _ ho,hd⟩
 ·obtain ⟨e,n,ne,nf,d⟩:=I.pin p hp
  exact ⟨old _ _ e,n,a0J (a0r (Heap.lt_size e) hC),stk _ ne nf,d⟩
 ·show (a0e pre.length none++cj σ is).length=(pre++ys).length
  unfold cj
  rw [a0g,a0g,a0z,a0b,fr.len]
end L3
namespace L3
open PySem PySem.Spec PyProof.Rows L2
end L3
namespace L3
open PySem PySem.Spec PyProof.Rows L2
structure FunD (K:a0a)(x qual:Str)(st:Stmt)(f:Addr)(fd:FuncData)(dV:Value):Prop where
 ex:∃ (oc:Value) (od:Option Addr) (kV doc pm:Value) (an:Option Addr) (cdv ct:Value) (osl:Array (Option Value)),
  fd=a05 x qual (defArgs st) (defBody st) (defScope st) dV kV doc pm an cdv ct/\K.lookup f=some ⟨oc,od,.func fd,osl⟩/\a1W K cdv qual=true
 kp:a1a K (.ref f)=true
section
variable {P:Program}{w:World}{K:a0a}{mg:Str->Option Value}{base:Heap}
theorem FunD.ok {x qual:Str}{st:Stmt}{f:Addr}{fd:FuncData}{dV:Value}{N ps:List Str}{k:Nat}{sp:Sp}(F:FunD K x qual st f fd dV)(S:ah N ps (defScope st))(len:∀ vs H Q E,sp vs H Q E->vs.length=ps.length)
  (hb:∀ (cdv:Value) (A:Around) (outer:List Env) (s:Shared) (H:Hp) (vs:List V) (Q:VK) (E:XK),Room k (A.deeper (envOfC qual (defScope st) s.heap.objs.size f cdv))->sp vs H Q E ->
   ∃ t,PSs (fj CX0 P w K mg base N qual (defScope st) f cdv A outer s H E).nox (defBody st) t/\t { nx:=fun _ H'=>Q .non H',rt:=Q } (start N vs) H):FnOk P w K mg base CX0 (k+1) f fd ps sp:=by
 obtain ⟨oc,od,kV,doc,pm,an,cdv,ct,osl,rfl,lk,hcd⟩:=F.ex
 exact yg lk hcd S len fun A outer s H vs Q E hr hsp=>let ⟨t,h,q⟩:=hb cdv A outer s H vs Q E hr hsp; ⟨t,h.nox,q⟩
theorem FunD.binds {x qual:Str}{st:Stmt}{f:Addr}{fd:FuncData}{T:Addr}{o:Obj}{n:Nat}{its:Array Value}{ps:List Str}{ds:List Value}(F:FunD K x qual st f fd (.ref T))(ho:K.lookup T=some o)(hs:o.data=.seq its n)
  (h:∀ (kV doc pm:Value) (an:Option Addr) (cdv ct:Value) (us:List Value),(us++ds).length=ps.length->∃ k:Option (Array Value)->Sem (List (Str×Value)),bindArgs (a05 x qual (defArgs st) (defBody st) (defScope st) (.ref T) kV doc pm an cdv ct) ⟨us,[]⟩=seqItems? (.ref T) >>= k/\k (some its)=pure (ps.zip (us++ds))):Binds K fd ps ds:=by
 obtain ⟨oc,od,kV,doc,pm,an,cdv,ct,osl,rfl,lk,hcd⟩:=F.ex
 intro s us KX hl
 obtain ⟨k,h1,h2⟩:=h kV doc pm an cdv ct us hl
 exact PySem.W.binds_K KX rfl ho hs h1 h2
theorem vk {x qual:Str}{st:Stmt}{f:Addr}{oc dV:Value}{od an:Option Addr}{osl:Array (Option Value)}{kV doc pm cdv ct:Value}(l:K.lookup f=some ⟨oc,od,.func (a05 x qual (defArgs st) (defBody st) (defScope st) dV kV doc pm an cdv ct),osl⟩)
  (c:a1W K cdv qual=true) (k:a1a K (.ref f)=true):FunD K x qual st f (a05 x qual (defArgs st) (defBody st) (defScope st) dV kV doc pm an cdv ct) dV:=⟨⟨oc,od,kV,doc,pm,an,cdv,ct,osl,rfl,l,c⟩,k⟩
end
end L3
namespace L3
open PySem PySem.Spec PyProof.Rows L2
section
variable {X:Cx}
theorem pI:cO X (.type "range") (fun xs H Q=>∃ i j,xs=[.int i,.int j]/\∀ p,H p=none->Q (.ref p) (upd H p (.rng i j))):=by
 intro pins s σ H xs us Q I r h
 obtain ⟨i,j,rfl,q⟩:=h
 obtain ⟨u,w',rfl,⟨t,rfl⟩,⟨t',rfl⟩⟩:=gI r
 refine call_range_2 ?_
 exact ⟨.ref s.heap.objs.size,upd H s.heap.objs.size (.rng i j),I.laid (t':=s.toks+1) (fun _ _ e=>Heap.get?_push_of_some _ e) (a0h _) ⟨_,_,_,Heap.get?_push_size _ rfl⟩,rfl,q _ I.fresh⟩
theorem mI {lo:Int}{acc:Array Value}{n:Nat}(h:ItemsOf (fun (i:Nat) (v:Value)=>∃ t,v=Value.int (lo+(i:Int) * 1) t) acc n):Vals ((a0B n).map fun (k:Nat)=>V.int (lo+(k:Int))) acc.toList:=by
 have key:∀ (l:List Value) (m:Nat),l.length+m=n->(∀ j v,l[j]?=some v->∃ t,v=Value.int (lo+((m+j:Nat):Int)) t)->Vals ((List.range' m l.length).map fun (k:Nat)=>V.int (lo+(k:Int))) l:=by
  intro l
  induction l with
  | nil=>intro m _ _; exact .nil
  | cons v l ih =>
   intro m hm hv
   obtain ⟨t,e⟩:=hv 0 v rfl
   rw [a0f,List.range'_succ,a0n]
   refine .cons ⟨t,by rw [e]; rfl⟩ (ih (m+1) (by rw [a0f] at hm; omega) fun j v' hj=>?_)
   obtain ⟨t',e'⟩:=hv (j+1) v' hj
   exact ⟨t',by rw [e',show m+(j+1)=m+1+j by omega]⟩
 have hl:acc.toList.length=n:=by rw [a1j]; exact h.1
 have:=key acc.toList 0 (by omega) fun j v hj=>by
  obtain ⟨t,e⟩:=h.2 j v (by simpa using hj)
  exact ⟨t,by rw [e,Int.mul_one,a1f]⟩
 rw [hl] at this
 rw [List.range_eq_range']
 exact this
theorem mO (hc:X.calm=true):cO X (.type "list") (fun xs H Q=>∃ p i j,xs=[.ref p]/\H p=some (.rng i j)/\(-(2 ^ 62)<=i/\i < 2 ^ 62/\-(2 ^ 62)<=j/\j < 2 ^ 62)/\(j-i).toNat<=sizeLine/\∀ l,H l=none->Q (.ref l) (upd H l (.lst ((a0B (j-i).toNat).map fun (k:Nat)=>V.int (i+(k:Int)))))):=by
 intro pins s σ H xs us Q I r h
 obtain ⟨p,i,j,rfl,hp,⟨b1,b2,b3,b4⟩,hz,q⟩:=h
 obtain ⟨u,rfl,ru⟩:=fS r
 cases ru
 obtain ⟨t,u,v,e⟩:=I.hok p _ hp
 refine call_list_range (I.ok.hd hc) e (small_one b1 b2 b3 b4) (n:=(j-i).toNat) (by rw [rangeSize_one]; split<;>omega) (a0o hz (by decide)) fun h' tk acc' c' hk hS' hacc=>?_
 have hv:=mI hacc
 refine ⟨.ref s.heap.objs.size,upd H s.heap.objs.size (.lst ((a0B (j-i).toNat).map fun (k:Nat)=>V.int (i+(k:Int)))),I.laid (t':=tk) hk (a0h _) ⟨?_,acc'.toList,c',hv,by rw [hS',Array.toArray_toList]⟩,rfl,q _ I.fresh⟩
 rw [a0b,a1l]
 exact hz
end
end L3
namespace L3
open PySem PySem.Spec PyProof.Rows L2
noncomputable def Ite (K:a0a)(a:Addr):It :=
 ⟨fun i H=>∃ xs x,SqL K H a xs/\xs[i]?=some x,
  fun i H v H'=>∃ p x,v=.ref p/\H p=none/\H'=upd H p (.tup [.int (i:Int),x])/\∀ xs,SqL K H a xs->xs[i]?=some x,
  fun i H=>∃ xs,SqL K H a xs/\xs.length<=i⟩
theorem pD {P:Program}{w:World}{K:a0a}{es:List Expr}{kt:Nat}{pt:Pos}{e it a:Addr}(hne:e≠it):mr P w K (.Tuple es kt pt) (Ite K a) [e,it] e (fun i h=>(∃ old,IsEnum h e it (i:Int) old)/\h.IsListIter it a i) where
 mem:=by simp
 obj:=fun i h st b hb=>by
  obtain ⟨⟨old,q1⟩,q2⟩:=st
  simp only [a0l,a0K,or_false] at hb
  rcases hb with rfl | rfl
  ·exact ⟨_,q1,fun v y=>by cases y⟩
  ·obtain ⟨o,e',_,d⟩:=q2
   exact ⟨o,e',fun v y=>by rw [d] at y; cases y⟩
 keep:=fun i h h' st k=>by
  obtain ⟨⟨old,q1⟩,q2⟩:=st
  exact ⟨⟨old,k e (by simp) _ q1⟩,q2.at fun o z=>k it (by simp) o z⟩
 item:=by
  intro X hP hw hK hc i pins s σ H E I hf st hg
  subst hP hw hK
  obtain ⟨xs,x,s1,hx⟩:=hg
  obtain ⟨⟨old,q1⟩,q2⟩:=st
  obtain ⟨its,v1,o1,z1⟩:=I.list s1
  obtain ⟨u1,e1,r1⟩:=v1.get hx
  have lt:∀ b∈[e,it],b < s.heap.objs.size:=fun b hb=>by
   simp only [a0l,a0K,or_false] at hb
   rcases hb with rfl | rfl
   ·exact Heap.lt_size q1
   ·obtain ⟨o,e',_⟩:=q2; exact Heap.lt_size e'
  refine wpAny_pyNext_enum_item q1 q2 o1.isList (x:=u1) (by simpa using e1) hne fun h' y1 y2 y3 y4 y5=>⟨_,rfl,?_⟩
  refine wpAny_letOwnedTupleGo_enum (s:={ s with heap:=h',toks:=s.toks+1 }) y1 fun h2 w1 sb=>?_
  have sb':Heap.SameBut e h' h2:=sb
  have nz:s.heap.objs.size≠e:=a1w (lt e (by simp))
  have kk:∀ b o,b ∉ [e,it]->s.heap.get? b=some o->h2.get? b=some o:=fun b o hb z=>by
   simp only [a0l,a0K,or_false,not_or] at hb
   exact (sb'.2 b hb.1).trans (y5 b o hb.1 hb.2 z)
  have tp:IsTup h2 s.heap.objs.size [.int (i:Int) s.toks,u1].toArray:=⟨_,(sb'.2 _ nz).trans y3,rfl,_,rfl⟩
  refine ⟨.ref s.heap.objs.size,upd H s.heap.objs.size (.tup [.int (i:Int),x]),cJ (s:=s) (t':=s.toks+1) I hf kk (a0h _) (by show 2<=sizeLine; decide) (.cons ⟨_,rfl⟩ (.cons r1 .nil)) tp,rfl,
   ⟨_,x,rfl,I.fresh,rfl,fun zs hz=>by rw [I.list_inj hz s1]; exact hx⟩,?_,fun b hb=>?_⟩
  ·exact ⟨⟨_,w1⟩,y2.at fun o z=>(sb'.2 _ (a2K hne)).trans z⟩
  ·rw [ai (a0J (lt b hb))]; exact (hf b hb).1
 done:=by
  intro X hP hw hK hc i pins s σ H E I hf st hg
  subst hP hw hK
  obtain ⟨xs,s1,hl⟩:=hg
  obtain ⟨⟨old,q1⟩,q2⟩:=st
  obtain ⟨its,v1,o1,z1⟩:=I.list s1
  have l1:=v1.length
  refine wpAny_pyNext_enum_end (I.ok.hd hc) q1 q2 o1.isList (by simp; omega) fun h' eb=>⟨rfl,eA (t':=s.toks) I hf fun b o hb z=>eb b o (fun y=>hb (by simp [y])) z⟩
 self:=fun _ _ _ _ _ st h=>by
  obtain ⟨⟨old,q1⟩,_⟩:=st
  exact wpAny_pyIter_enum q1 h
section
variable {X:Cx}
noncomputable def xR (K:a0a)(ta:TA):TI:=fun σ H R=>ta σ H fun vs H1=>∃ a,vs=[.ref a]/\(∃ xs,SqL K H1 a xs)/\R (Ite K a) H1
theorem vB {a:Expr}{ta:TA}{p pos pt:Pos}{es:List Expr}{kt:Nat}(hg:Gl X "enumerate")(hm:X.mg "enumerate"=none)(ha:PA X [a] ta)(hs:starEach [a] X.env=[(false,eval a X.env)]:=by rfl) :
  PI X (.Tuple es kt pt) (.Call (.Name "enumerate" p) [a] [] pos) (xR X.K ta):=by
 intro pins s σ H R I h
 refine Call_ (eE I hg hm boot_enumerate (a1b (thn (ha pos pins s σ H _ I h) fun us s1 ⟨vs,H1,I1,r1,q1⟩=>?_) hs rfl))
 obtain ⟨a,rfl,⟨xs,s1'⟩,q⟩:=q1
 cases r1 with
 | cons r rr =>
  cases rr
  cases r
  obtain ⟨its,v1,o1,z1⟩:=I1.list s1'
  refine call_enumerate_list o1.isList fun h' q1 q2 _ kk=>?_
  refine wpAny_pyIter_enum (s:={ s1 with heap:=h' }) q1 ?_
  refine ⟨_,_,_,_,H1,rfl,I1.kept (t':=s1.toks) kk,pD (Nat.succ_ne_self _),⟨⟨_,q1⟩,q2⟩,fun b hb=>?_,q⟩
  have hle:s1.heap.objs.size<=b:=by
   simp only [a0l,a0K,or_false] at hb
   rcases hb with e | e<;>(rw [e]; first | exact a2R _ _ | exact a0h _)
  exact I1.fpOk hle (I1.hok.fresh hle)
end
end L3
namespace L3
open PySem PySem.Spec PyProof.Rows L2
section
variable {prog:Program}{w:World}{A:Around}{R:Result->Shared->Prop}{s:Shared}
theorem lZ {elt tg iter cnd:Expr}{scope:Scope}{pos:Pos}{it acc:Value}{env:Env}(J:Nat->Shared->Prop)
  (turn:∀ n s,J n s->wpAny (model prog w) A (pyNext it) (fun r s₁=>match r with
   | none=>R (.ok .next) s₁
   | some v=>wpAny (model prog w) A (letOwnedTupleGo tg it v) (fun _ s₂=>wpAny (model prog w) A (assign tg env v) (fun _ s₃=>wpAny (model prog w) A (isTrue cnd env (eval cnd env)) (fun ok s₄=>if ok=true then
     wpAny (model prog w) A (eval elt env) (fun y s₅=>wpAny (model prog w) A (call (.builtin "list.append") [acc,y]) (fun _ s₆=>∃ m,m < n/\J m s₆) noX s₅) noX s₄ else ∃ m,m < n/\J m s₄) noX s₃) noX s₂) noX s₁) noX s)
  (n:Nat) (h:J n s):codeAny (model prog w) A (.compLoop (.ListComp elt [⟨tg,iter,[cnd],0⟩] scope pos) 0 it acc env) R s:=by
 refine codeAny_loop rfl J (fun n s hJ=>?_) n h
 show wpAny _ A ((compTurn (.ListComp elt [⟨tg,iter,[cnd],0⟩] scope pos) 0 it acc env).onRaise (fun x=>do noteFrame x env; theTreesLotGoes x)) _ _ s
 refine wpAny_noted ?_
 rw [compTurn_list]
 refine wpAny_bind (wpAny_standAt (wpAny_bind (wpAny_mono (turn n s hJ) (fun r s₁ h₁=>?_) fun _ _ z=>z.elim)))
 cases r with
 | none=>exact wpAny_pure h₁
 | some v =>
  refine wpAny_bind (wpAny_mono h₁ (fun _ s₂ h₂=>?_) fun _ _ z=>z.elim)
  refine wpAny_bind (wpAny_mono h₂ (fun _ s₃ h₃=>?_) fun _ _ z=>z.elim)
  refine wpAny_bind (wpAny_tests_one (wpAny_mono h₃ (fun ok s₄ h₄=>?_) fun _ _ z=>z.elim))
  cases ok with
  | true=>exact wpAny_bind (wpAny_bind (wpAny_mono h₄ (fun y s₅ h₅=>wpAny_bind (wpAny_mono h₅ (fun _ s₆ h₆=>wpAny_pure (wpAny_pure ⟨rfl,h₆⟩)) fun _ _ z=>z.elim)) fun _ _ z=>z.elim))
  | false=>exact wpAny_bind (wpAny_pure (wpAny_pure ⟨rfl,h₄⟩))
end
end L3

namespace L3
open PySem PySem.Spec PyProof.Rows L2
noncomputable def wW (n:Nat)(J:It)(g:TG)(tc:TT)(te:TE)(σ':L2.St)(H1:Hp)(Q:VK):Prop:=∃ W:Nat->Nat->List V->Hp->Prop,(∃ m,W 0 m [] H1)/\∀ i m ys H,W i m ys H ->
 (J.stop i H/\ys.length<=sizeLine/\∀ p,H p=none->Q (.ref p) (upd H p (.lst ys))) \/
 (J.go i H/\ys.length < sizeLine/\∀ x H',J.yld i H x H'->g x (a0e n none++σ') H' fun σ2 H2=>(σ2.length=n+σ'.length/\σ2.drop n=σ')/\tc σ2 H2 fun ok H3=>if ok=true then te σ2 H3 fun y H4=>∃ m',m' < m/\W (i+1) m' (ys++[y]) H4 else ∃ m',m' < m/\W (i+1) m' ys H3)
noncomputable def uY (n:Nat)(J:It)(g:TG)(te:TE)(σ':L2.St)(H1:Hp)(Q:VK):Prop:=∃ W:Nat->Nat->List V->Hp->Prop,(∃ m,W 0 m [] H1)/\∀ i m ys H,W i m ys H ->
 (J.stop i H/\ys.length<=sizeLine/\∀ p,H p=none->Q (.ref p) (upd H p (.lst ys))) \/
 (J.go i H/\ys.length < sizeLine/\∀ x H',J.yld i H x H'->g x (a0e n none++σ') H' fun σ2 H2=>(σ2.length=n+σ'.length/\σ2.drop n=σ')/\te σ2 H2 fun y H4=>∃ m',m' < m/\W (i+1) m' (ys++[y]) H4)
noncomputable def jR (n:Nat)(wi:TI)(is:List Nat)(g:TG)(tc:TT)(te:TE):TE:=fun σ H Q=>wi σ H fun J H1=>wW n J g tc te (cj σ is) H1 Q
noncomputable def j9 (n:Nat)(wi:TI)(is:List Nat)(g:TG)(te:TE):TE:=fun σ H Q=>wi σ H fun J H1=>uY n J g te (cj σ is) H1 Q
theorem uq {n:Nat}{σ2 σ':L2.St}(h:σ2.drop n=σ'){j:Nat}{w:V}(e:(a0e n none++σ')[j]?=some (some w)):σ2[j]?=some (some w):=by
 by_cases hj:j < n
 ·rw [a0R (by simpa using hj),a17,if_pos hj] at e
  cases a0G e
 ·rw [a0I (by simpa using hj),a0z,<- h,List.getElem?_drop,Nat.add_sub_cancel' (by omega)] at e
  exact e
noncomputable def CW (X:Cx)(cs:List Expr)(k:Bool->Shared->Prop)(s:Shared):Prop:=match cs with
 | []=>k true s
 | [c]=>wpAny (model X.prog X.w) X.A (isTrue c X.env (eval c X.env)) k noX s
 | _=>False
noncomputable def PC (X:Cx)(cs:List Expr)(tc:TT):Prop:=∀ (pins:List (Addr×Obj)) (s:Shared) (σ:L2.St) (H:Hp) (Q:Bool->Hp->Prop),Inv X pins σ H s->tc σ H Q->CW X cs (fun ok s'=>∃ H',Inv X pins σ H' s'/\Q ok H') s
theorem CW.mono {X:Cx}{cs:List Expr}{k k':Bool->Shared->Prop}{s:Shared}(h:CW X cs k s)(w:∀ b s,k b s->k' b s):CW X cs k' s:=by
 match cs,h with
 | [],h=>exact w _ _ h
 | [c],h=>exact wpAny_mono h w fun _ _ z=>z
theorem lD {X:Cx}{elt tg iter:Expr}{cs:List Expr}{scope:Scope}{pos:Pos}{it acc:Value}{R:Result->Shared->Prop}{s:Shared}(J:Nat->Shared->Prop)
  (turn:∀ n s,J n s->wpAny (model X.prog X.w) X.A (pyNext it) (fun r s₁=>match r with
   | none=>R (.ok .next) s₁
   | some v=>wpAny (model X.prog X.w) X.A (letOwnedTupleGo tg it v) (fun _ s₂=>wpAny (model X.prog X.w) X.A (assign tg X.env v) (fun _ s₃=>CW X cs (fun ok s₄=>if ok=true then
     wpAny (model X.prog X.w) X.A (eval elt X.env) (fun y s₅=>wpAny (model X.prog X.w) X.A (call (.builtin "list.append") [acc,y]) (fun _ s₆=>∃ m,m < n/\J m s₆) noX s₅) noX s₄ else ∃ m,m < n/\J m s₄) s₃) noX s₂) noX s₁) noX s)
  (n:Nat) (h:J n s) (hcs:cs.length<=1):codeAny (model X.prog X.w) X.A (.compLoop (.ListComp elt [⟨tg,iter,cs,0⟩] scope pos) 0 it acc X.env) R s:=by
 match cs,hcs with
 | [],_=>exact mH J turn n h
 | [c],_=>exact lZ J turn n h
theorem lb {X:Cx}{elt iter tg:Expr}{cs:List Expr}{pre:List Str}{pos:Pos}{scope:Scope}{cl:List (Str×Addr)}{ys:List Str}{is:List Nat}{wi:TI}{g:TG}{te:TE}{tc:TT}{use:Option (Value->Sem Unit)}{Q:VK}{Qp:Value->Shared->Prop}{pins:List (Addr×Obj)}{s:Shared}{σ:L2.St}{H:Hp}{ip:Pos}
  (hc:X.calm=true) (hi:PI X tg iter wi) (hg:∀ C s H fp,PG (av X (pre++ys) scope cl C s H fp) tg g) (he:∀ C s H fp,PE (av X (pre++ys) scope cl C s H fp) elt te) (hcd:∀ C s H fp,PC (av X (pre++ys) scope cl C s H fp) cs tc) (hcs:cs.length<=1)
  (hclos:closureFor scope X.env=pure cl) (S:aG pre ys scope) (hcl:Clo X cl) (hfr:(scope.names.all fun p=>p.2 != .free || (cl.lookup p.1).isSome)=true) (fr:Frees X scope cl ys is) (hs:∀ v,foldedSetIterable iter X.env v=pure v)
  (fin:∀ (s4:Shared) (Hn:Hp) (D L:Addr) (m4:Str->Option Value),Inv X pins σ Hn s4->s4.heap.Ns L m4->L≠X.env.locals->(∀ a c,X.env.cells.lookup a=some c->c≠L)->Hn L=none->X.s₀.heap.objs.size<=L->(∀ p∈X.pn++pins,p.1≠L)->Q (.ref D) Hn->compPost (model X.prog X.w) X.A X.xe use Qp (.ref D) L (.ok .next) s4)
  (I:Inv X pins σ H s) (h:jR pre.length wi is g tc te σ H Q) :
  wpAny (model X.prog X.w) X.A (comprehension (.ListComp elt [⟨tg,iter,cs,0⟩] scope pos) scope X.env ip (newList []) false (eval iter X.env) use) Qp X.xe s:=by
 refine wpAny_comprehension_free (use:=use) rfl hs hclos S.kind S.nm (thn (hi pins s σ H _ I h) fun xv s1 h1=>thn h1 fun itv s2 h2=>?_)
 obtain ⟨it,fp,tn,J,H2,rfl,I2,T,st2,f2,W,⟨m0,w0⟩,turn⟩:=h2
 have fpo:∀ b∈fp,b < s2.heap.objs.size:=fun b hb=>by
  obtain ⟨o,e,_⟩:=T.obj _ _ st2 b hb
  exact Heap.lt_size e
 refine wpAny_newObj_type (wpAny_newFunctionEnv S.cell (fun y hy=>by cases hy) (fun g' hns hsb=>?_) S.kind)
 dsimp only at hns hsb ⊢
 generalize hP2:s2.heap.push { cls:=.type "list",dict:=none,data:=.seq ([]:List Value).toArray }=P2 at hns hsb ⊢
 have hCs:P2.objs.size=s2.heap.objs.size+1:=by rw [<- hP2,Heap.size_push]
 have hDC:s2.heap.objs.size≠P2.objs.size:=by omega
 have hle:s2.heap.objs.size<=P2.objs.size:=by omega
 have nc:∀ b o,s2.heap.get? b=some o->b≠P2.objs.size:=fun b o e=>a0J (a0r (Heap.lt_size e) hle)
 have nd:∀ b o,s2.heap.get? b=some o->b≠s2.heap.objs.size:=fun b o e=>a0J (Heap.lt_size e)
 have ndH:∀ b u,H2 b=some u->b≠s2.heap.objs.size:=fun b u e=>a0J (I2.hok.lt e)
 have old:∀ b o,s2.heap.get? b=some o->g'.get? b=some o:=fun b o e=>hsb.extBut b o (nc b o e) (Heap.get?_push_of_some _ (hP2 ▸ Heap.get?_push_of_some _ e))
 have accD:g'.get? s2.heap.objs.size=some (kf []):=hsb.extBut _ _ hDC (Heap.get?_push_of_some _ (hP2 ▸ Heap.get?_push_size _ rfl))
 have stkD:s2.heap.objs.size ∉ frs X.stack:=fun hb=>(a0l.mp (I2.stkSub _ hb)).elim (fun z=>absurd z (a1w I2.lt)) (I2.nofs (a0h _))
 generalize hσ':cj σ is=σ' at turn
 have I3:Inv (av X (pre++ys) scope cl P2.objs.size s2 H2 fp) pins (a0e pre.length none++σ') H2 { s2 with heap:=g',toks:=s2.toks+([]:List (Str×Value)).length }:=by rw [<- hσ']; exact oW (pre:=pre) I2 f2 fpo S hcl hfr fr hle old hns
 have stat:∀ {H':Hp} {o:Obj},(∀ b∈fp,H' b=none)->∀ b∈fp,gQ (av X (pre++ys) scope cl P2.objs.size s2 H2 fp) (pins++[(s2.heap.objs.size,o)]) H' b:=fun {H' o} hn b hb=>by
  refine ⟨hn b hb,a0J (a0r (fpo b hb) hle),fun z=>(a0l.mp (I2.stkSub _ z)).elim (f2 b hb).2.1 (f2 b hb).2.2.1,.inl hb,fun a c e=>(f2 b hb).2.2.2.2.1 a c (hcl.get e),fun p hp=>?_⟩
  rcases a0O.mp hp with z | z
  ·exact (f2 b hb).2.2.2.2.2 p (a0E _ z)
  ·rcases a0O.mp z with z | z
   ·exact (f2 b hb).2.2.2.2.2 p (a0p _ z)
   ·rw [a0w.mp z]
    exact a1w (fpo b hb)
 have loop:codeAny (model X.prog X.w) X.A (.compLoop (.ListComp elt [⟨tg,iter,cs,0⟩] scope pos) 0 (.ref it) (.ref s2.heap.objs.size) (compEnvC scope cl P2.objs.size X.env))
   (compPost (model X.prog X.w) X.A X.xe use Qp (.ref s2.heap.objs.size) P2.objs.size) { s2 with heap:=g',toks:=s2.toks+([]:List (Str×Value)).length }:=by
  refine lD (X:=av X (pre++ys) scope cl P2.objs.size s2 H2 fp) (fun n s'=>∃ i zs its H',Inv (av X (pre++ys) scope cl P2.objs.size s2 H2 fp) pins (a0e pre.length none++σ') H' s'/\tn i s'.heap/\(∀ b∈fp,H' b=none)/\s'.heap.get? s2.heap.objs.size=some (kf its)/\Vals zs its/\H' s2.heap.objs.size=none/\W i n zs H')
   ?_ m0 ⟨0,[],[],H2,I3,T.keep _ _ _ st2 (fun b _ o e=>old b o e),fun b hb=>(f2 b hb).1,accD,.nil,I2.hok.fresh (a0h _),w0⟩ hcs
  rintro n s3 ⟨i,zs,its,H3,J3,st3,fr3,d3,rv3,nd3,w3⟩
  have hzl:=rv3.length
  have J3':Inv (av X (pre++ys) scope cl P2.objs.size s2 H2 fp) (pins++[(s2.heap.objs.size,kf its)]) (a0e pre.length none++σ') H3 s3:=J3.pins_of fun p hp=>by
   rcases a0O.mp hp with z | z
   ·exact J3.pin p (a0p _ z)
   ·rw [a0w.mp z]
    exact ⟨d3,nd3,hDC,stkD,fun v q=>by cases q⟩
  rcases turn i n zs H3 w3 with ⟨stop,hz,q⟩ | ⟨go,hz,step⟩
  ·refine wpAny_mono (T.done (av X (pre++ys) scope cl P2.objs.size s2 H2 fp) rfl rfl rfl hc i _ s3 _ H3 noX J3' (stat fr3) st3 stop) (fun r s4 h4=>?_) fun _ _ z=>z.elim
   obtain ⟨hr,I4⟩:=h4
   subst hr
   obtain ⟨m4,hn4,_⟩:=id I4.loc
   have f4:H3 P2.objs.size=none:=I4.free
   have d4:s4.heap.get? s2.heap.objs.size=some (kf its):=(I4.pin (s2.heap.objs.size,kf its) (a0p _ (a0p _ (a0w.mpr rfl)))).1
   have u4:Un (frs X.stack) fp H2 H3 s2.heap s4.heap:=I4.base
   have un:Un (frs X.stack) fp H2 (upd H3 s2.heap.objs.size (.lst zs)) s2.heap s4.heap :=
    ⟨u4.keep,u4.slot,fun b o e n hx=>by rw [ai (nd b o e)]; exact u4.free b o e n hx,u4.there,
     fun b xs q=>by rw [ai (ndH b _ q)]; exact u4.tups b xs q,fun b o u q=>by rw [ai (ndH b _ q)]; exact u4.frzs b o u q,fun b ps q=>by rw [ai (ndH b _ q)]; exact u4.tbls b ps q⟩
   have IX:Inv X pins σ (upd H3 s2.heap.objs.size (.lst zs)) s4:=I2.call' (s':=s4) (ch:=fp) I4.os un (je I4.hok nd3 ⟨hz,its,its.length,rv3,d4⟩) I4.bare
    (fun b hb=>⟨(f2 b hb).2.2.2.1,(f2 b hb).2.1,(f2 b hb).2.2.2.2.1,(f2 b hb).2.2.2.2.2⟩)
   have cL:P2.objs.size≠X.env.locals:=a1w (a0r I2.lt hle)
   have cC:∀ a c,X.env.cells.lookup a=some c->c≠P2.objs.size:=fun a c e=>by
    obtain ⟨v',o',ho',_⟩:=I2.cell a c e
    exact nc c o' ho'
   exact fin s4 _ s2.heap.objs.size P2.objs.size m4 IX hn4 cL cC (by rw [ai (a2K hDC)]; exact f4) (a0o I2.sz hle) (fun p hp=>nc p.1 _ (I2.pin p hp).1) (q _ nd3)
  ·refine wpAny_mono (T.item (av X (pre++ys) scope cl P2.objs.size s2 H2 fp) rfl rfl rfl hc i _ s3 _ H3 noX J3' (stat fr3) st3 go) (fun r s4 h4=>?_) fun _ _ z=>z.elim
   obtain ⟨u,hr,h4⟩:=h4
   subst hr
   refine wpAny_mono h4 (fun _ s5 h5=>?_) fun _ _ z=>z.elim
   obtain ⟨v,H5,I5,r5,y5,st5,fr5⟩:=h5
   have I5':=I5.pinned (stat fr5) (T.obj _ _ st5)
   refine wpAny_mono (hg P2.objs.size s2 H2 fp _ s5 _ H5 v u _ I5' r5 (step v H5 y5)) (fun _ s6 h6=>?_) fun _ _ z=>z.elim
   obtain ⟨σ6,H6,I6,⟨hl6,hd6⟩,step'⟩:=h6
   have back:∀ {H7:Hp} {s7:Shared},Inv (av X (pre++ys) scope cl P2.objs.size s2 H2 fp) ((pins++[(s2.heap.objs.size,kf its)])++gP fp s5.heap) σ6 H7 s7->Inv (av X (pre++ys) scope cl P2.objs.size s2 H2 fp) pins (a0e pre.length none++σ') H7 s7:=fun I7=>I7.unpinned.unpinned.weak (by rw [hl6,a0g,a0z]) fun j w' e=>uq hd6 e
   refine CW.mono (hcd P2.objs.size s2 H2 fp _ s6 _ H6 _ I6 step') fun ok s6' h6'=>?_
   obtain ⟨H6',I6',q6⟩:=h6'
   cases ok with
   | false =>
    rw [if_neg a0j] at q6
    obtain ⟨m',hm',w7⟩:=q6
    have pinD:=I6'.pin (s2.heap.objs.size,kf its) (a0p _ (a0E _ (a0p _ (a0w.mpr rfl))))
    rw [if_neg a0j]
    refine ⟨m',hm',i+1,zs,its,H6',back I6',T.keep _ _ _ st5 fun b hb o e=>?_,fun b hb=>?_,pinD.1,rv3,pinD.2.1,w7⟩
    ·exact (I6'.pin (b,o) (a0p _ (a0p _ (bX hb e)))).1
    ·obtain ⟨o,e,_⟩:=T.obj _ _ st5 b hb
     exact (I6'.pin (b,o) (a0p _ (a0p _ (bX hb e)))).2.1
   | true =>
    rw [if_pos rfl] at q6 ⊢
    refine wpAny_mono (he P2.objs.size s2 H2 fp _ s6' _ H6' _ I6' q6) (fun yv s7 h7=>?_) fun _ _ z=>z.elim
    obtain ⟨y',H7,I7,r7,m',hm',w7⟩:=h7
    have pinD:=I7.pin (s2.heap.objs.size,kf its) (a0p _ (a0E _ (a0p _ (a0w.mpr rfl))))
    refine append_at (hsz:=by show its.toArray.size<=sizeLine; rw [a0m]; omega) pinD.1 fun h8 sb8 hD8=>?_
    have I8:Inv (av X (pre++ys) scope cl P2.objs.size s2 H2 fp) pins (a0e pre.length none++σ') H7 { s7 with heap:=h8 }:=(back I7).turned (t':=s7.toks) (it:=s2.heap.objs.size) (fun b o hb e=>(sb8.2 b hb).trans e) pinD.2.1 hDC (.inr (a0h _))
     (fun a c e z=>by
      obtain ⟨v',o',ho',_⟩:=I2.cell a c (hcl.get e)
      exact nd c o' ho' z)
     (fun p hp=>nd p.1 _ (I2.pin p hp).1)
    refine ⟨m',hm',i+1,zs++[y'],its++[yv],H7,I8,T.keep _ _ _ st5 fun b hb o e=>?_,fun b hb=>?_,?_,rv3.append (.cons r7 .nil),pinD.2.1,w7⟩
    ·exact (sb8.2 b (a0J (fpo b hb))).trans (I7.pin (b,o) (a0p _ (a0p _ (bX hb e)))).1
    ·obtain ⟨o,e,_⟩:=T.obj _ _ st5 b hb
     exact (I7.pin (b,o) (a0p _ (a0p _ (bX hb e)))).2.1
    ·show h8.get? s2.heap.objs.size=_
     rw [hD8]
     simp [kf]
 exact codeAny_compStart_list loop (T.self X.A 0 _ _ _ (T.keep _ _ _ st2 (fun b _ o e=>old b o e)) loop)
section
variable {X:Cx}{elt iter tg cnd:Expr}{pre:List Str}{pos spos pz:Pos}{z:Str}{jz:Nat}{scope:Scope}{cl:List (Str×Addr)}{ys:List Str}{is:List Nat}{wi:TI}{g:TG}{te:TE}{tc:TT}
noncomputable def tT:TT:=fun _ H Q=>Q true H
theorem pcN:PC X [] tT:=fun pins s σ H Q I q=>⟨H,I,q⟩
theorem goN {n:Nat}{σ:L2.St}{H:Hp}{Q:VK}(h:j9 n wi is g te σ H Q):jR n wi is g tT te σ H Q:=h
theorem tF {cs:List Expr}(hc:X.calm=true)(hi:PI X tg iter wi)(hg:∀ C s H fp,PG (av X (pre++ys) scope cl C s H fp) tg g)(he:∀ C s H fp,PE (av X (pre++ys) scope cl C s H fp) elt te)(hcd:∀ C s H fp,PC (av X (pre++ys) scope cl C s H fp) cs tc)(hcs:cs.length<=1)
  (hclos:closureFor scope X.env=pure cl) (S:aG pre ys scope) (hcl:Clo X cl) (hfr:(scope.names.all fun p=>p.2 != .free || (cl.lookup p.1).isSome)=true) (fr:Frees X scope cl ys is) (hs:∀ v,foldedSetIterable iter X.env v=pure v) :
  PE X (.ListComp elt [⟨tg,iter,cs,0⟩] scope pos) (jR pre.length wi is g tc te):=by
 intro pins s σ H Q I h
 rw [eval_ListComp]
 show wpAny _ _ (comprehension _ scope X.env _ (newList []) false (eval iter X.env) none) _ _ s
 refine lb hc hi hg he hcd hcs hclos S hcl hfr fr hs (fun s4 Hn D L m4 IX hn cL cC hL hz hp q=>?_) I h
 exact ⟨m4,hn,fun h' sb=>⟨.ref D,_,IX.turned (t':=s4.toks) (it:=L) (fun b o hb e=>(sb.2 b hb).trans e) hL cL (.inr hz) cC hp,rfl,q⟩⟩
theorem tD {cs:List Expr}(hN:X.N.Nodup)(hj:X.N[jz]?=some z)(hzLoc:Loc X.env.scope z)(hsw:swapsWith (.ListComp elt [⟨tg,iter,cs,0⟩] scope pos) (some (.Name z pz)) spos.line X.env=pure true)(hc:X.calm=true)(hi:PI X tg iter wi)(hg:∀ C s H fp,PG (av X (pre++ys) scope cl C s H fp) tg g)(he:∀ C s H fp,PE (av X (pre++ys) scope cl C s H fp) elt te)(hcd:∀ C s H fp,PC (av X (pre++ys) scope cl C s H fp) cs tc)(hcs:cs.length<=1)
  (hclos:closureFor scope X.env=pure cl) (S:aG pre ys scope) (hcl:Clo X cl) (hfr:(scope.names.all fun p=>p.2 != .free || (cl.lookup p.1).isSome)=true) (fr:Frees X scope cl ys is) (hs:∀ v,foldedSetIterable iter X.env v=pure v) (hfn:X.fn z=true\/X.env.scope.names.lookup z=some .local) :
  PS X (.Assign [.Name z pz] (.ListComp elt [⟨tg,iter,cs,0⟩] scope pos) spos) (qO (jR pre.length wi is g tc te) (cT jz)):=by
 intro pins s σ H D I h
 rw [exec_Assign_Name_used _ _ _ _ hsw]
 refine wpAny_bind (wpAny_standAt (wpAny_bind ?_)); show wpAny _ _ (do let _ <- comprehension (.ListComp elt [⟨tg,iter,cs,0⟩] scope pos) scope X.env _ (newList []) false (eval iter X.env) (some (assign (.Name z pz) X.env))) _ _ s
 refine wpAny_bind (thn (lb (use:=some (assign (.Name z pz) X.env)) (Qp:=fun _ s'=>SP X pins D .next s') hc hi hg he hcd hcs hclos S hcl hfr fr hs (fun s4 Hn d L m4 IX hn cL cC hL hz hp q=>?_) I h) fun _ s' hq=>wpAny_pure (wpAny_pure hq))
 show wpAny _ _ (assign (.Name z pz) X.env (.ref d)) _ _ s4
 refine wpAny_assign_Name (ju IX hN hj hzLoc (v:=.ref d) rfl (fun s5 I5 h5=>?_) hfn)
 obtain ⟨a5,sb5,ha5⟩:=h5
 have na:L≠a5:=ha5.elim (fun e=>by rw [e]; exact cL) fun e=>a2K (cC _ _ e)
 exact ⟨m4,hn.sameBut sb5 na,fun h' sb=>⟨_,_,I5.turned (t':=s5.toks) (it:=L) (fun b o hb e=>(sb.2 b hb).trans e) hL cL (.inr hz) cC hp,q⟩⟩
theorem iV (hc:X.calm=true)(hi:PI X tg iter wi)(hg:∀ C s H fp,PG (av X (pre++ys) scope cl C s H fp) tg g)(he:∀ C s H fp,PE (av X (pre++ys) scope cl C s H fp) elt te)
  (hclos:closureFor scope X.env=pure cl) (S:aG pre ys scope) (hcl:Clo X cl) (hfr:(scope.names.all fun p=>p.2 != .free || (cl.lookup p.1).isSome)=true) (fr:Frees X scope cl ys is) (hs:∀ v,foldedSetIterable iter X.env v=pure v:=by intro _; rfl) :
  PE X (.ListComp elt [⟨tg,iter,[],0⟩] scope pos) (j9 pre.length wi is g te):=fun pins s σ H Q I h=>tF hc hi hg he (fun _ _ _ _=>pcN) (a0Y _) hclos S hcl hfr fr hs pins s σ H Q I (goN h)
theorem iY (hN:X.N.Nodup)(hj:X.N[jz]?=some z)(hzLoc:Loc X.env.scope z)(hsw:swapsWith (.ListComp elt [⟨tg,iter,[],0⟩] scope pos) (some (.Name z pz)) spos.line X.env=pure true)(hc:X.calm=true)(hi:PI X tg iter wi)(hg:∀ C s H fp,PG (av X (pre++ys) scope cl C s H fp) tg g)(he:∀ C s H fp,PE (av X (pre++ys) scope cl C s H fp) elt te)
  (hclos:closureFor scope X.env=pure cl) (S:aG pre ys scope) (hcl:Clo X cl) (hfr:(scope.names.all fun p=>p.2 != .free || (cl.lookup p.1).isSome)=true) (fr:Frees X scope cl ys is) (hs:∀ v,foldedSetIterable iter X.env v=pure v:=by intro _; rfl) (hfn:X.fn z=true\/X.env.scope.names.lookup z=some .local:=by first | exact .inl rfl | exact .inr rfl | assumption) :
  PS X (.Assign [.Name z pz] (.ListComp elt [⟨tg,iter,[],0⟩] scope pos) spos) (qO (j9 pre.length wi is g te) (cT jz)):=fun pins s σ H D I h=>tD hN hj hzLoc hsw hc hi hg he (fun _ _ _ _=>pcN) (a0Y _) hclos S hcl hfr fr hs hfn pins s σ H D I (goN h)
end
end L3

namespace L3
open PySem PySem.Spec PyProof.Rows L2
end L3
namespace L3
open PySem PySem.Spec PyProof.Rows L2
end L3
namespace L3
open PySem PySem.Spec PyProof.Rows L2
end L3

namespace L3
open PySem PySem.Spec PyProof.Rows L2
theorem oF {X:Cx}(hc:X.calm=true):cO X (.builtin "any") (fun xs H Q=>∃ (a:Addr) (bs:List Bool),xs=[.ref a]/\SqL X.K H a (bs.map V.bl)/\Q (.bl (bs.any id)) H):=by
 intro pins s σ H xs us Q I r h
 obtain ⟨a,bs,rfl,hS,q⟩:=h
 obtain ⟨u,rfl,ru⟩:=fS r
 cases ru
 obtain ⟨its,rv,p,hz⟩:=I.list hS
 have hlen:its.toArray.size=bs.length:=by rw [a0m,<- rv.length,a0b]
 have hlt:a < s.heap.objs.size:=by obtain ⟨o,e,_⟩:=p.isList; exact Heap.lt_size e
 refine call_any_walk (wpAny_pyIter_list p.isList ?_)
 refine ⟨s.heap.objs.size,_,_,_,_,_,fun i=>bs.getD i false,rfl,Walks.list (A:=X.A.in1) (show X.A.in1.handled=none from I.ok.hd hc) s.heap.objs.size a (a0J hlt) its.toArray,⟨⟨_,Heap.get?_push_size _ rfl,rfl,rfl⟩,p.isList.push _⟩,fun i v s' Q' E' hv hQ=>?_,fun h' tk k=>?_⟩
 ·have hv':its[i]?=some v:=by simpa using hv
  have hi:i < its.length:=(a0q.mp hv').1
  have hib:i < bs.length:=by have:=rv.length; rw [a0b] at this; omega
  obtain ⟨w',e1,e2⟩:=rv.get (i:=i) (x:=.bl bs[i]) (by rw [a0x,a0k hib]; rfl)
  rw [hv'] at e1
  cases e1
  cases e2
  refine wpAny_truthy_bool ?_
  have e3:bs.getD i false=bs[i]:=by rw [a0i,a0k hib]; rfl
  rw [<- e3]; exact hQ
 ·have e:(a0B its.toArray.size).any (fun i=>bs.getD i false)=bs.any id:=by
   rw [hlen,a3z,a3x,a3x]
   constructor
   ·rintro ⟨i,hi,z⟩
    have hi':=a1V.mp hi
    rw [a0i,a0k hi'] at z
    exact ⟨_,a2l hi',z⟩
   ·rintro ⟨b,hb,z⟩
    obtain ⟨i,hi,e⟩:=a3c hb
    refine ⟨i,a1V.mpr hi,?_⟩
    rw [a0i,a0k hi]
    simpa [e] using z
  rw [e]
  exact ⟨.bl (bs.any id),H,I.kept (fun b o eo=>k b o (fun hm=>by
   have:b=s.heap.objs.size:=by simpa using hm
   exact absurd (this ▸ Heap.lt_size eo) (a1s _)) (Heap.get?_push_of_some _ eo)),rfl,q⟩
theorem dq:∀ {ns:List Int} {us:List Value},Vals (ns.map V.int) us->IntsAre us ns
 | [],_,.nil=>.nil
 | n::ns,_,.cons ⟨t,e⟩ r=>by cases e; exact .cons n t (dq r)
theorem gB (a b c:Value):checkTypeCall "zip" ⟨[a,b,c],[]⟩=pure ():=by kernel_rfl
theorem iN (a b c:Value):checkBuiltinCall "zip.__new__" ⟨[.type "zip",a,b,c],[]⟩=pure ():=by kernel_rfl
end L3
namespace L3
open PySem PySem.Spec PyProof.Rows L2
noncomputable abbrev aT (h:Heap)(T:Addr)(a b c:Value):Prop:=h.get? T=some { cls:=.type "tuple",data:=.seq #[a,b,c] }
theorem kW (a b c d:Value):argsOk "object.__init__" ⟨[a,b,c,d],[]⟩:=by
 first | exact PySem.F.args_object_init_any _ | (show checkBuiltinCall "object.__init__" _=pure (); kernel_rfl) | kernel_rfl
section
variable {prog:Program}{w:World}{A:Around}{E:Value->Shared->Prop}{s:Shared}
theorem eU {T:Addr}{a b c x:Value}{k:Nat}{Q:Unit->Shared->Prop}(hT:aT s.heap T a b c)
  (h:∀ h',h'.get? T=some { cls:=.type "tuple",data:=.seq ((#[a,b,c]:Array Value).setIfInBounds k x) }->Heap.SameBut T s.heap h'->Q () { s with heap:=h' }) :
  wpAny (model prog w) A (updateSeq T (·.setIfInBounds k x)) Q E s:=by
 refine wpAny_updateSeq hT rfl (h _ ?_ (Heap.SameBut.update ..))
 rw [Heap.get?_update_self _ hT rfl]
 simp [Obj.mapSeq]
theorem aN {a b:Nat}(h:a≠b):@Ne Addr a b:=h
theorem oR {n a1 a2 a3:Nat}{k1 k2 k3:Bool}{j:Nat}{xs ys zs:Array Value}{x y u a b c:Value}{Q:Value->Shared->Prop}(l1:a1 < n)(l2:a2 < n)(l3:a3 < n)
  (hz:IsZip s.heap (n+5) (n+3) (n+4) .none) (hI:aT s.heap (n+3) (.ref n) (.ref (n+1)) (.ref (n+2))) (hO:aT s.heap (n+4) a b c) (h1:ItO s.heap k1 n a1 j) (h2:ItO s.heap k2 (n+1) a2 j) (h3:ItO s.heap k3 (n+2) a3 j)
  (q1:SqO s.heap k1 a1 xs) (q2:SqO s.heap k2 a2 ys) (q3:SqO s.heap k3 a3 zs) (hx:xs[j]?=some x) (hy:ys[j]?=some y) (hu:zs[j]?=some u)
  (q:∀ h',IsZip h' (n+5) (n+3) (n+4) (rawInt s.heap.objs.size)->aT h' (n+4) x y u->ItO h' k1 n a1 (j+1)->ItO h' k2 (n+1) a2 (j+1)->ItO h' k3 (n+2) a3 (j+1)->aT h' s.heap.objs.size x y u->h'.objs.size=s.heap.objs.size+1 ->
   (∀ (c:Nat) o,c≠n+5->c≠n+4->c≠n->c≠n+1->c≠n+2->s.heap.get? c=some o->h'.get? c=some o)->Q (.ref s.heap.objs.size) { s with heap:=h' }) :
  wpAny (model prog w) A (Builtin.«zip.__next__» ⟨[.ref (n+5)],[]⟩) (fun fin s'=>∃ v,fin=.done (.ret v)/\Q v s') E s:=by
 show wpAny _ _ (field (.ref (n+5)) 2 >>= _) _ _ _; refine wpAny_bind (wpAny_field hz rfl (x:=.bool false) rfl ?_)
 show wpAny _ _ (field (.ref (n+5)) 3 >>= _) _ _ _; refine wpAny_bind (wpAny_field hz rfl (x:=.ref (n+3)) rfl (wpAny_bind (wpAny_seqItems hI rfl ?_)))
 show wpAny _ _ (Builtin.SmallTypes.ownedTupleIsFree (.ref (n+5)) >>= _) _ _ _; refine wpAny_bind ?_
 unfold Builtin.SmallTypes.ownedTupleIsFree
 refine wpAny_bind (wpAny_field hz rfl (x:=.none) rfl (wpAny_pure ?_)); simp only [if_true]
 refine wpAny_bind (wpAny_rule (wpAny_bind (wpAny_field hz rfl (x:=.ref (n+4)) rfl (wpAny_bind (wpAny_setField_rec hz (by simp) fun g1 z1 s1=>?_)))))
 replace z1:IsZip g1 (n+5) (n+3) (n+4) .ellipsis:=z1
 refine wpAny_bind ?_; simp only [a2s,a2C,a2m,a2t]
 refine wpAny_bind (wpAny_bind (wpAny_onRaise ?_)); show wpAny _ _ (Builtin.SmallTypes.nextOf (.ref n) >>= _) _ _ _
 refine wpAny_bind (bh (h1.at fun o e=>s1.extBut _ _ (aN (by omega)) e) (q1.at fun o e=>s1.extBut _ _ (aN (by omega)) e) hx fun g2 r2 s2=>wpAny_pure ?_)
 have p2:aT g2 (n+4) a b c:=s2.extBut _ _ (aN (by omega)) (s1.extBut _ _ (aN (by omega)) hO)
 refine wpAny_bind (wpAny_seqItems p2 rfl (wpAny_bind (eU p2 fun g3 p3 s3=>wpAny_bind (wpAny_letGo (wpAny_pure ?_)))))
 replace p3:aT g3 (n+4) x b c:=p3
 refine wpAny_bind (wpAny_bind (wpAny_onRaise ?_)); show wpAny _ _ (Builtin.SmallTypes.nextOf (.ref (n+1)) >>= _) _ _ _
 refine wpAny_bind (bh (h2.at fun o e=>s3.extBut _ _ (aN (by omega)) (s2.extBut _ _ (aN (by omega)) (s1.extBut _ _ (aN (by omega)) e))) (q2.at fun o e=>s3.extBut _ _ (aN (by omega)) (s2.extBut _ _ (aN (by omega)) (s1.extBut _ _ (aN (by omega)) e))) hy fun g4 r4 s4=>wpAny_pure ?_)
 have p4:aT g4 (n+4) x b c:=s4.extBut _ _ (aN (by omega)) p3
 refine wpAny_bind (wpAny_seqItems p4 rfl (wpAny_bind (eU p4 fun g5 p5 s5=>wpAny_bind (wpAny_letGo (wpAny_pure ?_)))))
 replace p5:aT g5 (n+4) x y c:=p5
 have up5:∀ (d:Nat) o,d≠n+5->d≠n+4->d≠n->d≠n+1->s.heap.get? d=some o->g5.get? d=some o:=fun d o n1 n2 n3 n4 e=>s5.extBut _ _ n2 (s4.extBut _ _ n4 (s3.extBut _ _ n2 (s2.extBut _ _ n3 (s1.extBut _ _ n1 e))))
 refine wpAny_bind (wpAny_bind (wpAny_onRaise ?_)); show wpAny _ _ (Builtin.SmallTypes.nextOf (.ref (n+2)) >>= _) _ _ _
 refine wpAny_bind (bh (h3.at fun o e=>up5 _ o (by omega) (by omega) (by omega) (by omega) e) (q3.at fun o e=>up5 _ o (by omega) (by omega) (by omega) (by omega) e) hu fun g6 r6 s6=>wpAny_pure ?_)
 have p6:aT g6 (n+4) x y c:=s6.extBut _ _ (aN (by omega)) p5
 refine wpAny_bind (wpAny_seqItems p6 rfl (wpAny_bind (eU p6 fun g7 p7 s7=>wpAny_bind (wpAny_letGo (wpAny_pure (wpAny_pure ?_))))))
 replace p7:aT g7 (n+4) x y u:=p7
 refine wpAny_bind (wpAny_seqItems p7 rfl (wpAny_bind (wpAny_newTuple ?_)))
 have sz:g7.objs.size=s.heap.objs.size:=by rw [s7.1,s6.1,s5.1,s4.1,s3.1,s2.1,s1.1]
 have z7:IsZip g7 (n+5) (n+3) (n+4) .ellipsis:=s7.extBut _ _ (aN (by omega)) (s6.extBut _ _ (aN (by omega)) (s5.extBut _ _ (aN (by omega)) (s4.extBut _ _ (aN (by omega)) (s3.extBut _ _ (aN (by omega)) (s2.extBut _ _ (aN (by omega)) z1)))))
 have k7:∀ (d:Nat) o,d≠n+5->d≠n+4->d≠n->d≠n+1->d≠n+2->s.heap.get? d=some o->g7.get? d=some o:=fun d o n1 n2 n3 n4 n5 e=>s7.extBut _ _ n2 (s6.extBut _ _ n5 (up5 d o n1 n2 n3 n4 e))
 have r7:ItO g7 k1 n a1 (j+1):=r2.at fun o e=>s7.extBut _ _ (aN (by omega)) (s6.extBut _ _ (aN (by omega)) (s5.extBut _ _ (aN (by omega)) (s4.extBut _ _ (aN (by omega)) (s3.extBut _ _ (aN (by omega)) e))))
 have t7:ItO g7 k2 (n+1) a2 (j+1):=r4.at fun o e=>s7.extBut _ _ (aN (by omega)) (s6.extBut _ _ (aN (by omega)) (s5.extBut _ _ (aN (by omega)) e))
 have v7:ItO g7 k3 (n+2) a3 (j+1):=r6.at fun o e=>s7.extBut _ _ (aN (by omega)) e
 have zlt:n+5 < g7.objs.size:=Heap.lt_size z7
 show wpAny _ _ (Builtin.SmallTypes.ownedTupleHandOut (.ref (n+5)) (.ref g7.objs.size) >>= _) _ _ _; refine wpAny_bind ?_
 unfold Builtin.SmallTypes.ownedTupleHandOut
 have z8:IsZip (g7.push { cls:=.type "tuple",data:=.seq #[x,y,u] }) (n+5) (n+3) (n+4) .ellipsis:=Heap.get?_push_of_some _ z7
 refine wpAny_bind (wpAny_setField_rec z8 (by simp) fun g9 z9 s9=>?_)
 replace z9:IsZip g9 (n+5) (n+3) (n+4) (rawInt g7.objs.size):=z9
 refine wpAny_setField_rec z9 (by simp) fun g10 z10 s10=>?_
 replace z10:IsZip g10 (n+5) (n+3) (n+4) (rawInt g7.objs.size):=z10
 have up:∀ (d:Nat) o,d≠n+5->g7.get? d=some o->g10.get? d=some o:=fun d o n1 e=>s10.extBut _ _ n1 (s9.extBut _ _ n1 (Heap.get?_push_of_some _ e))
 have p10:aT g10 g7.objs.size x y u:=s10.extBut _ _ (a1w zlt) (s9.extBut _ _ (a1w zlt) (Heap.get?_push_size _ rfl))
 have e10:g10.objs.size=g7.objs.size+1:=by rw [s10.1,s9.1,Heap.size_push]
 rw [sz] at z10 p10 e10
 refine wpAny_pure ⟨_,rfl,?_⟩
 show Q (.ref g7.objs.size) _
 rw [sz]
 exact q g10 z10 (up _ _ (by omega) p7) (r7.at fun o e=>up _ o (by omega) e) (t7.at fun o e=>up _ o (by omega) e) (v7.at fun o e=>up _ o (by omega) e) p10 e10 fun d o n1 n2 n3 n4 n5 e=>up d o n1 (k7 d o n1 n2 n3 n4 n5 e)
theorem rN {n a1 a2 a3:Nat}{k1 k2 k3:Bool}{j:Nat}{xs ys zs:Array Value}{a b c:Value}{Q:Fin->Shared->Prop}(hh:A.handled=none)(l1:a1 < n)(l2:a2 < n)(l3:a3 < n)
  (hz:IsZip s.heap (n+5) (n+3) (n+4) .none) (hI:aT s.heap (n+3) (.ref n) (.ref (n+1)) (.ref (n+2))) (hO:aT s.heap (n+4) a b c) (h1:ItO s.heap k1 n a1 j) (h2:ItO s.heap k2 (n+1) a2 j) (h3:ItO s.heap k3 (n+2) a3 j)
  (q1:SqO s.heap k1 a1 xs) (q2:SqO s.heap k2 a2 ys) (q3:SqO s.heap k3 a3 zs) (hend:xs[j]?=none\/ys[j]?=none\/zs[j]?=none)
  (q:∀ h' e,(∀ (c:Nat) o,c≠n+5->c≠n+4->c≠n->c≠n+1->c≠n+2->s.heap.get? c=some o->h'.get? c=some o)->(∃ o,h'.get? e=some o/\o.cls=.type "StopIteration")->E (.ref e) { s with heap:=h' }) :
  wpAny (model prog w) A (Builtin.«zip.__next__» ⟨[.ref (n+5)],[]⟩) Q E s:=by
 show wpAny _ _ (field (.ref (n+5)) 2 >>= _) _ _ _; refine wpAny_bind (wpAny_field hz rfl (x:=.bool false) rfl ?_)
 show wpAny _ _ (field (.ref (n+5)) 3 >>= _) _ _ _; refine wpAny_bind (wpAny_field hz rfl (x:=.ref (n+3)) rfl (wpAny_bind (wpAny_seqItems hI rfl ?_)))
 show wpAny _ _ (Builtin.SmallTypes.ownedTupleIsFree (.ref (n+5)) >>= _) _ _ _; refine wpAny_bind ?_
 unfold Builtin.SmallTypes.ownedTupleIsFree
 refine wpAny_bind (wpAny_field hz rfl (x:=.none) rfl (wpAny_pure ?_)); simp only [if_true]
 refine wpAny_bind (wpAny_rule (wpAny_bind (wpAny_field hz rfl (x:=.ref (n+4)) rfl (wpAny_bind (wpAny_setField_rec hz (by simp) fun g1 z1 s1=>?_)))))
 replace z1:IsZip g1 (n+5) (n+3) (n+4) .ellipsis:=z1
 refine wpAny_bind ?_; simp only [a2s,a2C,a2m,a2t]
 refine wpAny_bind (wpAny_bind (wpAny_onRaise ?_)); show wpAny _ _ (Builtin.SmallTypes.nextOf (.ref n) >>= _) _ _ _
 cases hx:xs[j]? with
 | none =>
  refine wpAny_bind (dn hh (h1.at fun o e=>s1.extBut _ _ (aN (by omega)) e) (q1.at fun o e=>s1.extBut _ _ (aN (by omega)) e) hx fun g2 e s2 he=>?_)
  obtain ⟨oe,ho,ce⟩:=he
  have z2:IsZip g2 (n+5) (n+3) (n+4) .ellipsis:=s2 _ _ (aN (by omega)) z1
  have ez:e≠n+5:=fun y=>by subst y; rw [z2] at ho; cases ho; simp at ce
  exact wpAny_setField_rec z2 (by simp) fun g3 _ s3=>q g3 e (fun d o n1 _ n3 _ _ y=>s3.extBut _ _ n1 (s2 _ _ n3 (s1.extBut _ _ n1 y))) ⟨oe,s3.extBut _ _ ez ho,ce⟩
 | some x =>
  refine wpAny_bind (bh (h1.at fun o e=>s1.extBut _ _ (aN (by omega)) e) (q1.at fun o e=>s1.extBut _ _ (aN (by omega)) e) hx fun g2 r2 s2=>wpAny_pure ?_)
  have p2:aT g2 (n+4) a b c:=s2.extBut _ _ (aN (by omega)) (s1.extBut _ _ (aN (by omega)) hO)
  refine wpAny_bind (wpAny_seqItems p2 rfl (wpAny_bind (eU p2 fun g3 p3 s3=>wpAny_bind (wpAny_letGo (wpAny_pure ?_)))))
  replace p3:aT g3 (n+4) x b c:=p3
  have z3:IsZip g3 (n+5) (n+3) (n+4) .ellipsis:=s3.extBut _ _ (aN (by omega)) (s2.extBut _ _ (aN (by omega)) z1)
  have up3:∀ (d:Nat) o,d≠n+5->d≠n+4->d≠n->s.heap.get? d=some o->g3.get? d=some o:=fun d o n1 n2 n3 e=>s3.extBut _ _ n2 (s2.extBut _ _ n3 (s1.extBut _ _ n1 e))
  refine wpAny_bind (wpAny_bind (wpAny_onRaise ?_)); show wpAny _ _ (Builtin.SmallTypes.nextOf (.ref (n+1)) >>= _) _ _ _
  cases hy:ys[j]? with
  | none =>
   refine wpAny_bind (dn hh (h2.at fun o e=>up3 _ o (by omega) (by omega) (by omega) e) (q2.at fun o e=>up3 _ o (by omega) (by omega) (by omega) e) hy fun g4 e s4 he=>?_)
   obtain ⟨oe,ho,ce⟩:=he
   have z4:IsZip g4 (n+5) (n+3) (n+4) .ellipsis:=s4 _ _ (aN (by omega)) z3
   have ez:e≠n+5:=fun y=>by subst y; rw [z4] at ho; cases ho; simp at ce
   exact wpAny_setField_rec z4 (by simp) fun g5 _ s5=>q g5 e (fun d o n1 n2 n3 n4 _ y=>s5.extBut _ _ n1 (s4 _ _ n4 (up3 d o n1 n2 n3 y))) ⟨oe,s5.extBut _ _ ez ho,ce⟩
  | some y =>
   have hu:zs[j]?=none:=(hend.resolve_left (by rw [hx]; simp)).resolve_left (by rw [hy]; simp)
   refine wpAny_bind (bh (h2.at fun o e=>up3 _ o (by omega) (by omega) (by omega) e) (q2.at fun o e=>up3 _ o (by omega) (by omega) (by omega) e) hy fun g4 r4 s4=>wpAny_pure ?_)
   have p4:aT g4 (n+4) x b c:=s4.extBut _ _ (aN (by omega)) p3
   refine wpAny_bind (wpAny_seqItems p4 rfl (wpAny_bind (eU p4 fun g5 p5 s5=>wpAny_bind (wpAny_letGo (wpAny_pure ?_)))))
   have up5:∀ (d:Nat) o,d≠n+5->d≠n+4->d≠n->d≠n+1->s.heap.get? d=some o->g5.get? d=some o:=fun d o n1 n2 n3 n4 e=>s5.extBut _ _ n2 (s4.extBut _ _ n4 (up3 d o n1 n2 n3 e))
   have z5:IsZip g5 (n+5) (n+3) (n+4) .ellipsis:=s5.extBut _ _ (aN (by omega)) (s4.extBut _ _ (aN (by omega)) z3)
   refine wpAny_bind (wpAny_bind (wpAny_onRaise ?_)); show wpAny _ _ (Builtin.SmallTypes.nextOf (.ref (n+2)) >>= _) _ _ _
   refine wpAny_bind (dn hh (h3.at fun o e=>up5 _ o (by omega) (by omega) (by omega) (by omega) e) (q3.at fun o e=>up5 _ o (by omega) (by omega) (by omega) (by omega) e) hu fun g6 e s6 he=>?_)
   obtain ⟨oe,ho,ce⟩:=he
   have z6:IsZip g6 (n+5) (n+3) (n+4) .ellipsis:=s6 _ _ (aN (by omega)) z5
   have ez:e≠n+5:=fun y=>by subst y; rw [z6] at ho; cases ho; simp at ce
   exact wpAny_setField_rec z6 (by simp) fun g7 _ s7=>q g7 e (fun d o n1 n2 n3 n4 n5 y=>s7.extBut _ _ n1 (s6 _ _ n5 (up5 d o n1 n2 n3 n4 y))) ⟨oe,s7.extBut _ _ ez ho,ce⟩
end
end L3
namespace L3
open PySem PySem.Spec PyProof.Rows L2
section
variable {prog:Program}{w:World}{A:Around}{E:Value->Shared->Prop}{s:Shared}
theorem lj {n a1 a2 a3:Nat}{k1 k2 k3:Bool}{j:Nat}{xs ys zs:Array Value}{x y u a b c:Value}{Q:Option Value->Shared->Prop}(l1:a1 < n)(l2:a2 < n)(l3:a3 < n)
  (hz:IsZip s.heap (n+5) (n+3) (n+4) .none) (hI:aT s.heap (n+3) (.ref n) (.ref (n+1)) (.ref (n+2))) (hO:aT s.heap (n+4) a b c) (h1:ItO s.heap k1 n a1 j) (h2:ItO s.heap k2 (n+1) a2 j) (h3:ItO s.heap k3 (n+2) a3 j)
  (q1:SqO s.heap k1 a1 xs) (q2:SqO s.heap k2 a2 ys) (q3:SqO s.heap k3 a3 zs) (hx:xs[j]?=some x) (hy:ys[j]?=some y) (hu:zs[j]?=some u)
  (q:∀ h',IsZip h' (n+5) (n+3) (n+4) (rawInt s.heap.objs.size)->aT h' (n+4) x y u->ItO h' k1 n a1 (j+1)->ItO h' k2 (n+1) a2 (j+1)->ItO h' k3 (n+2) a3 (j+1)->aT h' s.heap.objs.size x y u->h'.objs.size=s.heap.objs.size+1 ->
   (∀ (c:Nat) o,c≠n+5->c≠n+4->c≠n->c≠n+1->c≠n+2->s.heap.get? c=some o->h'.get? c=some o)->Q (some (.ref s.heap.objs.size)) { s with heap:=h' }):wpAny (model prog w) A (pyNext (.ref (n+5))) Q E s:=by
 have hT:s.TypeIs (.ref (n+5)) "zip":=⟨_,hz,rfl⟩
 unfold pyNext
 exact wpAny_bind (wpAny_attempt (wpAny_callSpecial?_slot (name:=Str.ofString "__next__") hT F.slot_zip_next (wpAny_call_entry F.slot_zip_next hT F.entry_zip_next (oR l1 l2 l3 hz hI hO h1 h2 h3 q1 q2 q3 hx hy hu fun h' y1 y2 y3 y4 y5 y6 y7 y8=>wpAny_pure (q h' y1 y2 y3 y4 y5 y6 y7 y8)) (F.args_zip_next_1 _))))
theorem mZ {n a1 a2 a3:Nat}{k1 k2 k3:Bool}{j:Nat}{xs ys zs:Array Value}{a b c:Value}{Q:Option Value->Shared->Prop}(hh:A.handled=none)(l1:a1 < n)(l2:a2 < n)(l3:a3 < n)
  (hz:IsZip s.heap (n+5) (n+3) (n+4) .none) (hI:aT s.heap (n+3) (.ref n) (.ref (n+1)) (.ref (n+2))) (hO:aT s.heap (n+4) a b c) (h1:ItO s.heap k1 n a1 j) (h2:ItO s.heap k2 (n+1) a2 j) (h3:ItO s.heap k3 (n+2) a3 j)
  (q1:SqO s.heap k1 a1 xs) (q2:SqO s.heap k2 a2 ys) (q3:SqO s.heap k3 a3 zs) (hend:xs[j]?=none\/ys[j]?=none\/zs[j]?=none)
  (q:∀ h',(∀ (c:Nat) o,c≠n+5->c≠n+4->c≠n->c≠n+1->c≠n+2->s.heap.get? c=some o->h'.get? c=some o)->Q none { s with heap:=h' }):wpAny (model prog w) A (pyNext (.ref (n+5))) Q E s:=by
 have hT:s.TypeIs (.ref (n+5)) "zip":=⟨_,hz,rfl⟩
 unfold pyNext
 refine wpAny_bind (wpAny_attempt (wpAny_callSpecial?_slot (name:=Str.ofString "__next__") hT F.slot_zip_next (wpAny_call_entry F.slot_zip_next hT F.entry_zip_next (rN hh l1 l2 l3 hz hI hO h1 h2 h3 q1 q2 q3 hend fun h' e hk he=>?_) (F.args_zip_next_1 _))))
 obtain ⟨o,ho,hc⟩:=he
 exact wpAny_bind (wpAny_isInstance (T:="StopIteration") (b:=true) ⟨o,ho,hc⟩ isSubtype_stop (wpAny_pure (q _ hk)))
end
noncomputable abbrev zP1 (h:Heap)(a1:Addr):Heap:=h.push (f9 false a1)
noncomputable abbrev zP2 (h:Heap)(a1 a2:Addr):Heap:=(zP1 h a1).push (f9 false a2)
noncomputable abbrev zP3 (h:Heap)(a1 a2 a3:Addr):Heap:=(zP2 h a1 a2).push (f9 false a3)
noncomputable abbrev zP4 (h:Heap)(a1 a2 a3:Addr):Heap:=(zP3 h a1 a2 a3).push { cls:=.type "tuple",data:=.seq #[.ref h.objs.size,.ref (zP1 h a1).objs.size,.ref (zP2 h a1 a2).objs.size] }
noncomputable abbrev zP5 (h:Heap)(a1 a2 a3:Addr):Heap:=(zP4 h a1 a2 a3).push { cls:=.type "tuple",data:=.seq #[.none,.none,.none] }
noncomputable abbrev zP6 (h:Heap)(a1 a2 a3:Addr):Heap:=(zP5 h a1 a2 a3).push { cls:=.type "zip",data:=.fields #[.none,.bool false,.bool false,.ref (zP3 h a1 a2 a3).objs.size,.ref (zP4 h a1 a2 a3).objs.size] }
theorem mE (a1 a2 a3:Addr)(xs ys zs:Array Value) :
  Meets (Builtin.«zip.__new__» ⟨[.type "zip",.ref a1,.ref a2,.ref a3],[]⟩) (fun _ R s=>s.heap.IsList a1 xs/\s.heap.IsList a2 ys/\s.heap.IsList a3 zs/\R (.ok (.ret (.ref (zP5 s.heap a1 a2 a3).objs.size))) { s with heap:=zP6 s.heap a1 a2 a3 }) :=
 .of_wp fun prog w A R s h=>by
  obtain ⟨hp,g,d,tk,os⟩:=s; obtain ⟨q1,q2,q3,h⟩:=h
  have hsub:=sub_zip
  have e1:Heap.IsList (Shared.heap ⟨hp,g,d,tk,os⟩) a1 xs:=q1
  have e2:Heap.IsList (Shared.heap ⟨hp.push { cls:=.type "list_iterator",data:=.fields #[.ref a1,.int 0 0] },g,d,tk,os⟩) a2 ys:=Heap.IsList.push q2 _
  have e3:Heap.IsList (Shared.heap ⟨(hp.push { cls:=.type "list_iterator",data:=.fields #[.ref a1,.int 0 0] }).push { cls:=.type "list_iterator",data:=.fields #[.ref a2,.int 0 0] },g,d,tk,os⟩) a3 zs:=Heap.IsList.push (Heap.IsList.push q3 _) _
  wp_walk using wpAny_pyIter_list e1,wpAny_pyIter_list e2,wpAny_pyIter_list e3
  exact ⟨_,rfl,h⟩
section
variable {prog:Program}{w:World}{A:Around}{E:Value->Shared->Prop}{s:Shared}
theorem wD {a1 a2 a3:Addr}{xs ys zs:Array Value}{Q:Value->Shared->Prop}(q1:s.heap.IsList a1 xs)(q2:s.heap.IsList a2 ys)(q3:s.heap.IsList a3 zs)
  (h:∀ h',IsZip h' (s.heap.objs.size+5) (s.heap.objs.size+3) (s.heap.objs.size+4) .none->aT h' (s.heap.objs.size+3) (.ref s.heap.objs.size) (.ref (s.heap.objs.size+1)) (.ref (s.heap.objs.size+2)) ->
   aT h' (s.heap.objs.size+4) .none .none .none->ItO h' false s.heap.objs.size a1 0->ItO h' false (s.heap.objs.size+1) a2 0->ItO h' false (s.heap.objs.size+2) a3 0->(∀ c o,s.heap.get? c=some o->h'.get? c=some o)->Q (.ref (s.heap.objs.size+5)) { s with heap:=h' }) :
  wpAny (model prog w) A (call (.type "zip") [.ref a1,.ref a2,.ref a3]) Q E s:=by
 refine callType_new F.called_zip (by decide) (gB _ _ _) (iN _ _ _) (fun obj=>kW obj _ _ _) F.entry_zip_new (mE a1 a2 a3 xs ys zs) ⟨q1,q2,q3,?_⟩
 have e1:(zP1 s.heap a1).objs.size=s.heap.objs.size+1:=Heap.size_push ..
 have e2:(zP2 s.heap a1 a2).objs.size=s.heap.objs.size+2:=by rw [Heap.size_push,e1]
 have e3:(zP3 s.heap a1 a2 a3).objs.size=s.heap.objs.size+3:=by rw [Heap.size_push,e2]
 have e4:(zP4 s.heap a1 a2 a3).objs.size=s.heap.objs.size+4:=by rw [Heap.size_push,e3]
 have e5:(zP5 s.heap a1 a2 a3).objs.size=s.heap.objs.size+5:=by rw [Heap.size_push,e4]
 have g6:(zP6 s.heap a1 a2 a3).get? (zP5 s.heap a1 a2 a3).objs.size=some _:=Heap.get?_push_size _ rfl
 have g5:(zP6 s.heap a1 a2 a3).get? (zP4 s.heap a1 a2 a3).objs.size=some _:=Heap.get?_push_of_some _ (Heap.get?_push_size _ rfl)
 have g4:(zP6 s.heap a1 a2 a3).get? (zP3 s.heap a1 a2 a3).objs.size=some _:=Heap.get?_push_of_some _ (Heap.get?_push_of_some _ (Heap.get?_push_size _ rfl))
 have g3:(zP6 s.heap a1 a2 a3).get? (zP2 s.heap a1 a2).objs.size=some (f9 false a3):=Heap.get?_push_of_some _ (Heap.get?_push_of_some _ (Heap.get?_push_of_some _ (Heap.get?_push_size _ (c8 false a3))))
 have g2:(zP6 s.heap a1 a2 a3).get? (zP1 s.heap a1).objs.size=some (f9 false a2):=Heap.get?_push_of_some _ (Heap.get?_push_of_some _ (Heap.get?_push_of_some _ (Heap.get?_push_of_some _ (Heap.get?_push_size _ (c8 false a2)))))
 have g1:(zP6 s.heap a1 a2 a3).get? s.heap.objs.size=some (f9 false a1):=Heap.get?_push_of_some _ (Heap.get?_push_of_some _ (Heap.get?_push_of_some _ (Heap.get?_push_of_some _ (Heap.get?_push_of_some _ (Heap.get?_push_size _ (c8 false a1))))))
 show _/\_
 rw [e3,e4,e5] at g6
 rw [e1,e2,e3] at g4
 rw [e4] at g5
 rw [e2] at g3
 rw [e1] at g2
 rw [e5]
 exact ⟨⟨_,g6,rfl⟩,h _ g6 g4 g5 (fq g1) (fq g2) (fq g3) fun c o x=>Heap.get?_push_of_some _ (Heap.get?_push_of_some _ (Heap.get?_push_of_some _ (Heap.get?_push_of_some _ (Heap.get?_push_of_some _ (Heap.get?_push_of_some _ x)))))⟩
end
noncomputable def DU (K:a0a)(a1 a2 a3:Addr):It :=
 ⟨fun i H=>∃ xs ys zs x y z,SqL K H a1 xs/\SqL K H a2 ys/\SqL K H a3 zs/\xs[i]?=some x/\ys[i]?=some y/\zs[i]?=some z,
  fun i H v H'=>∃ p x y z,v=.ref p/\H p=none/\H'=upd H p (.tup [x,y,z])/\(∀ xs,SqL K H a1 xs->xs[i]?=some x)/\(∀ ys,SqL K H a2 ys->ys[i]?=some y)/\∀ zs,SqL K H a3 zs->zs[i]?=some z,
  fun i H=>∃ xs ys zs,SqL K H a1 xs/\SqL K H a2 ys/\SqL K H a3 zs/\(xs.length<=i\/ys.length<=i\/zs.length<=i)⟩
noncomputable def Z3 (n a1 a2 a3:Nat)(i:Nat)(h:Heap):Prop :=
 IsZip h (n+5) (n+3) (n+4) .none/\aT h (n+3) (.ref n) (.ref (n+1)) (.ref (n+2))/\(∃ a b c,aT h (n+4) a b c)/\ItO h false n a1 i/\ItO h false (n+1) a2 i/\ItO h false (n+2) a3 i
theorem pM {P:Program}{w:World}{K:a0a}{es:List Expr}{kt:Nat}{pt:Pos}{n a1 a2 a3:Nat}(l1:a1 < n)(l2:a2 < n)(l3:a3 < n) :
  mr P w K (.Tuple es kt pt) (DU K a1 a2 a3) [n+5,n+3,n+4,n,n+1,n+2] (n+5) (Z3 n a1 a2 a3) where
 mem:=by simp
 obj:=fun i h st b hb=>by
  obtain ⟨q1,q2,⟨a,c,d,q3⟩,q4,q5,q6⟩:=st
  simp only [a0l,a0K,or_false] at hb
  rcases hb with rfl | rfl | rfl | rfl | rfl | rfl
  ·exact ⟨_,q1,fun v y=>by cases y⟩
  ·exact ⟨_,q2,fun v y=>by cases y⟩
  ·exact ⟨_,q3,fun v y=>by cases y⟩
  ·exact q4.obj
  ·exact q5.obj
  ·exact q6.obj
 keep:=fun i h h' st k=>by
  obtain ⟨q1,q2,⟨a,c,d,q3⟩,q4,q5,q6⟩:=st
  exact ⟨k _ (by simp) _ q1,k _ (by simp) _ q2,⟨a,c,d,k _ (by simp) _ q3⟩,q4.at fun o e=>k _ (by simp) o e,q5.at fun o e=>k _ (by simp) o e,q6.at fun o e=>k _ (by simp) o e⟩
 item:=by
  intro X hP hw hK hc i pins s σ H E I hf st hg
  subst hP hw hK
  obtain ⟨xs,ys,zs,x,y,z,s1,s2,s3,hx,hy,hz⟩:=hg
  obtain ⟨q1,q2,⟨a,c,d,q3⟩,q4,q5,q6⟩:=st
  obtain ⟨its1,v1,o1,_⟩:=I.list s1
  obtain ⟨its2,v2,o2,_⟩:=I.list s2
  obtain ⟨its3,v3,o3,_⟩:=I.list s3
  obtain ⟨u1,e1,r1⟩:=v1.get hx
  obtain ⟨u2,e2,r2⟩:=v2.get hy
  obtain ⟨u3,e3,r3⟩:=v3.get hz
  have zl:n+5 < s.heap.objs.size:=Heap.lt_size q1
  have lt:∀ b∈[n+5,n+3,n+4,n,n+1,n+2],b < s.heap.objs.size:=fun b hb=>by
   simp only [a0l,a0K,or_false] at hb
   rcases hb with e | e | e | e | e | e<;>(rw [e]; omega)
  refine lj l1 l2 l3 q1 q2 q3 q4 q5 q6 (show SqO _ false _ _ from o1.isList) (show SqO _ false _ _ from o2.isList) (show SqO _ false _ _ from o3.isList) (x:=u1) (y:=u2) (u:=u3) (by simpa using e1) (by simpa using e2) (by simpa using e3) fun h' y1 y2 y3 y4 y5 y6 y7 y8=>⟨_,rfl,?_⟩
  refine wpAny_letOwnedTupleGo_zip (s:={ s with heap:=h' }) y1 fun h2 w1 sb=>?_
  have sb':Heap.SameBut (n+5) h' h2:=sb
  have nz:s.heap.objs.size≠n+5:=a1w zl
  have kk:∀ b o,b ∉ [n+5,n+3,n+4,n,n+1,n+2]->s.heap.get? b=some o->h2.get? b=some o:=fun b o hb e=>by
   simp only [a0l,a0K,or_false,not_or] at hb
   exact (sb'.2 b hb.1).trans (y8 b o hb.1 hb.2.2.1 hb.2.2.2.1 hb.2.2.2.2.1 hb.2.2.2.2.2 e)
  have tp:IsTup h2 s.heap.objs.size [u1,u2,u3].toArray:=⟨_,(sb'.2 _ nz).trans y6,rfl,_,rfl⟩
  refine ⟨.ref s.heap.objs.size,upd H s.heap.objs.size (.tup [x,y,z]),cJ (s:=s) (t':=s.toks) I hf kk (a0h _) (by show 3<=sizeLine; decide) (.cons r1 (.cons r2 (.cons r3 .nil))) tp,rfl,
   ⟨_,x,y,z,rfl,I.fresh,rfl,fun zs hz=>by rw [I.list_inj hz s1]; exact hx,fun zs hz=>by rw [I.list_inj hz s2]; exact hy,fun zs hz'=>by rw [I.list_inj hz' s3]; exact hz⟩,?_,fun b hb=>?_⟩
  ·exact ⟨w1,(sb'.2 _ (aN (by omega))).trans (y8 _ _ (by omega) (by omega) (by omega) (by omega) (by omega) q2),⟨_,_,_,(sb'.2 _ (aN (by omega))).trans y2⟩,y3.at fun o e=>(sb'.2 _ (aN (by omega))).trans e,y4.at fun o e=>(sb'.2 _ (aN (by omega))).trans e,y5.at fun o e=>(sb'.2 _ (aN (by omega))).trans e⟩
  ·rw [ai (a0J (lt b hb))]; exact (hf b hb).1
 done:=by
  intro X hP hw hK hc i pins s σ H E I hf st hg
  subst hP hw hK
  obtain ⟨xs,ys,zs,s1,s2,s3,hl⟩:=hg
  obtain ⟨q1,q2,⟨a,c,d,q3⟩,q4,q5,q6⟩:=st
  obtain ⟨its1,v1,o1,_⟩:=I.list s1
  obtain ⟨its2,v2,o2,_⟩:=I.list s2
  obtain ⟨its3,v3,o3,_⟩:=I.list s3
  have g1:=v1.length
  have g2:=v2.length
  have g3:=v3.length
  refine mZ (I.ok.hd hc) l1 l2 l3 q1 q2 q3 q4 q5 q6 (show SqO _ false _ _ from o1.isList) (show SqO _ false _ _ from o2.isList) (show SqO _ false _ _ from o3.isList) (hl.imp (fun q=>by simp; omega) fun q=>q.imp (fun q=>by simp; omega) fun q=>by simp; omega) fun h' hk=>⟨rfl,eA (t':=s.toks) I hf fun b o hb e=>?_⟩
  simp only [a0l,a0K,or_false,not_or] at hb
  exact hk b o hb.1 hb.2.2.1 hb.2.2.2.1 hb.2.2.2.2.1 hb.2.2.2.2.2 e
 self:=fun _ _ _ _ _ st h=>wpAny_pyIter_zip st.1 h
section
variable {X:Cx}
noncomputable def xG (K:a0a)(ta:TA):TI:=fun σ H R=>ta σ H fun vs H1=>∃ a1 a2 a3,vs=[.ref a1,.ref a2,.ref a3]/\(∃ xs,SqL K H1 a1 xs)/\(∃ ys,SqL K H1 a2 ys)/\(∃ zs,SqL K H1 a3 zs)/\R (DU K a1 a2 a3) H1
theorem vj {a b c:Expr}{ta:TA}{p pos pt:Pos}{es:List Expr}{kt:Nat}(hg:Gl X "zip")(hm:X.mg "zip"=none)(ha:PA X [a,b,c] ta)(hs:starEach [a,b,c] X.env=[(false,eval a X.env),(false,eval b X.env),(false,eval c X.env)]:=by rfl)(hs2:starEach [b,c] X.env=[(false,eval b X.env),(false,eval c X.env)]:=by rfl) :
  PI X (.Tuple es kt pt) (.Call (.Name "zip" p) [a,b,c] [] pos) (xG X.K ta):=by
 intro pins s σ H R I h
 refine Call_ (eE I hg hm boot_zip (a1b (thn (ha pos pins s σ H _ I h) fun us s1 ⟨vs,H1,I1,r1,q1⟩=>?_) (by rw [hs,hs2]) (by rw [hs2]; rfl)))
 obtain ⟨a1,a2,a3,rfl,⟨xs,s1'⟩,⟨ys,s2'⟩,⟨zs,s3'⟩,q⟩:=q1
 cases r1 with
 | cons r rr =>
  cases rr with
  | cons r' rr =>
   cases rr with
   | cons r'' rr =>
    cases rr
    cases r
    cases r'
    cases r''
    obtain ⟨its1,v1,o1,z1⟩:=I1.list s1'
    obtain ⟨its2,v2,o2,z2⟩:=I1.list s2'
    obtain ⟨its3,v3,o3,z3⟩:=I1.list s3'
    have lt:∀ {a:Addr} {xs:Array Value},s1.heap.IsList a xs->a < s1.heap.objs.size:=fun ⟨o,e,_⟩=>Heap.lt_size e
    refine wD o1.isList o2.isList o3.isList fun h' q1 q2 q3 q4 q5 q6 kk=>?_
    refine wpAny_pyIter_zip (s:={ s1 with heap:=h' }) q1 ?_
    refine ⟨_,_,_,_,H1,rfl,I1.kept (t':=s1.toks) kk,pM (lt o1.isList) (lt o2.isList) (lt o3.isList),⟨q1,q2,⟨_,_,_,q3⟩,q4,q5,q6⟩,fun b hb=>?_,q⟩
    have hle:s1.heap.objs.size<=b:=by
     simp only [a0l,a0K,or_false] at hb
     rcases hb with e | e | e | e | e | e<;>(rw [e]; first | exact a2R _ _ | exact a0h _)
    exact I1.fpOk hle (I1.hok.fresh hle)
end
end L3

namespace M
open PySem (Str)
inductive T where
 | non | bl (b:Bool) | int (i:Int) | str (x:Str) | tup (ts:List T) | lst (ts:List T) | dct (ks vs:List T) | ins (c:Str) (fs:List Str) (vs:List T)
 | scr (ns:List Int)
 | gone
 deriving Inhabited
inductive Md where
 | s | d | o (m:Md)
 deriving DecidableEq,Inhabited
noncomputable def Md.kid:Md->Md
 | .s=>.s | .d=>.d | .o m=>m
noncomputable def Md.up:Md->Md
 | .d=>.d | m=>.o m
noncomputable def Md.meet:Md->Md->Md
 | .s,_=>.s | .d,m=>m | .o _,.s=>.s | .o a,.d=>.o a | .o a,.o b=>.o (a.meet b)
noncomputable def Md.le:Md->Md->Bool
 | .s,_=>true
 | .o a,.o b=>a.le b
 | .o _,.d=>true
 | .d,.d=>true
 | _,_=>false
noncomputable abbrev W:=Md×T
noncomputable abbrev Env:=List (Option W)
noncomputable def LIM:Nat:=16777215
noncomputable def T.leaf:T->Bool
 | .non | .bl _ | .int _ | .str _ | .scr _=>true
 | _=>false
noncomputable def T.isG:T->Bool
 | .gone=>true
 | _=>false
noncomputable def T.isN:T->Bool
 | .non=>true
 | _=>false
noncomputable def leaves (ts:List T):Bool:=ts.all T.leaf
inductive Op where
 | add | sub | mul | fdiv | mod | pow | neg | eq | ne | lt | le | gt | ge | is | isnot | isin | notin | ix | sl | sl1 | sl2 | sl3
 | len | isI (cs:List String) | max1 | min1 | count | fdivN | modN | list | tuple | sum | all | any | max | min | int | str | rng | sorted | join | split | abs | dict | get | lzip | isB | isnB
 deriving DecidableEq,Inhabited
inductive Ik where
 | seq | rng | enm | zip | sq2 | zip3
 deriving DecidableEq,Inhabited
inductive E where
 | var (i:Nat) | mv (i:Nat) | io (i:Nat) | cst (t:T) | glb (x:Str) (t:T)
 | tup (es:List E) | lst (h:Bool) (es:List E) | op (o:Op) (h:Bool) (es:List E) | wk (m:Md) (e:E)
 | and (a b:E) | or (a b:E) | not (a:E) | ifx (c a b:E) | chain (o p:Op) (a b c:E)
 | call (f:Nat) (es:List E) | comp (h:Bool) (k:Ik) (src:List E) (tg:List Nat) (cnd:Option E) (elt:E)
 | pop (i:Nat) (es:List E) | lenV (i:Nat)
 | tupA (es:List E) | qx (vs ls:List Nat) (e:E) | mvP (i:Nat) (p:List Nat)
 | callT (tab:List (Str×Nat)) (k:E) (es:List E) | inT (neg:Bool) (ks:List Str) (e:E) | ixT (tab:List (Str×T)) (e:E) | getT (tab:List (Str×T)) (e:E)
 deriving Inhabited
inductive X where
 | q (vs ls:List Nat) | l (vs:List Nat)
 deriving Inhabited
inductive S where
 | asg (x:X) (i:Nat) (e:E) | asgT (x:X) (is:List Nat) (e:E) | setI (x:X) (i:Nat) (k e:E)
 | exp (x:X) (e:E) | app (x:X) (i:Nat) (e:E) | ext (x:X) (i:Nat) (e:E)
 | ret (vs:List Nat) (e:E) | retN | ite (x:X) (c:E) (a b:List S)
 | forS (vs ls:List Nat) (k:Ik) (src:List E) (tg:List Nat) (body:List S) | forU (k:Ik) (src:List E) (tg:List Nat) (body:List S) | whl (x:X) (c:E) (body:List S)
 | brk | pas | stop
 deriving Inhabited
structure Fn where
 ps:Nat
 ns:Nat
 io:List Nat
 body:List S
inductive Res (α:Type) where
 | ok (a:α) | ex (c:Str) (x:List T) | no
noncomputable def Res.bind {α β:Type}:Res α->(α->Res β)->Res β
 | .ok a,f=>f a
 | .ex c x,_=>.ex c x
 | .no,_=>.no
noncomputable def ofO {α:Type}:Option α->Res α
 | some a=>.ok a
 | none=>.no
inductive Fl where
 | nx (η:Env) | rt (w:W) (η:Env) | bk (η:Env) | ex (c:Str) (x:List T) (η:Env) | no
noncomputable def truth:T->Option Bool
 | .non=>some false | .bl b=>some b | .int i=>some (i != 0) | .str x=>some (x.cps.size != 0) | .tup ts=>some (!ts.isEmpty) | .lst ts=>some (!ts.isEmpty) | .dct ks _=>some (!ks.isEmpty) | .ins ..=>none | .scr ns=>some (!ns.isEmpty) | .gone=>none
noncomputable def b2i:Bool->Int
 | true=>1 | false=>0
mutual
noncomputable def eqT:T->T->Bool
 | .non,.non=>true
 | .bl a,.bl b=>a==b
 | .bl a,.int i=>b2i a==i
 | .int i,.bl a=>i==b2i a
 | .int i,.int j=>i==j
 | .str x,.str y=>x==y
 | .tup ts,.tup us=>eqTs ts us
 | .lst ts,.lst us=>eqTs ts us
 | _,_=>false
noncomputable def eqTs:List T->List T->Bool
 | [],[]=>true
 | t::ts,u::us=>eqT t u&&eqTs ts us
 | _,_=>false
end
mutual
noncomputable def dp:T->Nat
 | .tup ts=>dps ts+1
 | .lst ts=>dps ts+1
 | .scr _=>1000
 | .dct _ _=>1000
 | .ins _ _ _=>1000
 | .gone=>1000
 | _=>0
noncomputable def dps:List T->Nat
 | []=>0
 | t::ts=>max (dp t) (dps ts)
end
noncomputable def sOk (x:Str):Bool:=x.cps.all (· < 0x110000)&&decide (x.cps.size<=LIM)
noncomputable def ixN (n:Nat)(i:Int):Option Nat:=if 0<=i then (if i < n then some i.toNat else none) else if -(n:Int)<=i then some (i+n).toNat else none
noncomputable def atI {α:Type}(xs:List α)(i:Int):Option α:=(ixN xs.length i).bind fun j=>xs[j]?
noncomputable def sIx (n d:Nat):Option Int->Nat
 | none=>d
 | some i=>if i < 0 then (i+n).toNat else min i.toNat n
noncomputable def cut {α:Type}(xs:List α)(lo hi:Option Int):List α:=(xs.drop (sIx xs.length 0 lo)).take (sIx xs.length xs.length hi-sIx xs.length 0 lo)
noncomputable def T.ty:T->String
 | .non=>"NoneType" | .bl _=>"bool" | .int _=>"int" | .str _=>"str" | .tup _=>"tuple" | .lst _=>"list" | .dct ..=>"dict" | .ins ..=>"object" | .scr _=>"list" | .gone=>"gone"
noncomputable def isOne (c:String)(t:T):Bool:=t.ty==c || (t.ty=="bool"&&c=="int")
noncomputable def intsOf:List T->Option (List Int)
 | []=>some []
 | .int i::ts=>(intsOf ts).map (i::·)
 | _::_=>none
noncomputable def boolsOf:List T->Option (List Bool)
 | []=>some []
 | .bl b::ts=>(boolsOf ts).map (b::·)
 | _::_=>none
noncomputable def elems:W->Option (List T)
 | (_,.tup ts)=>some ts
 | (_,.lst ts)=>some ts
 | _=>none
noncomputable def flatT:T->Bool
 | .non | .bl _ | .int _ | .str _=>true
 | _=>false
noncomputable def Cr:List Int->Int
 | []=>0
 | [n]=>n
 | n::ns=>max n (Cr ns)
noncomputable def minI:List Int->Int
 | []=>0
 | [n]=>n
 | n::ns=>min n (minI ns)
noncomputable def BO:List T->List T->List T
 | t::ts,u::us=>.tup [t,u]::BO ts us
 | _,_=>[]
noncomputable def newL (h:Bool)(m:Md)(ts:List T):Option W:=if h then (if leaves ts then some (.d,.lst ts) else none) else some (m.up,.lst ts)
noncomputable def fits (n:Nat):Bool:=decide (n<=LIM)
noncomputable def oSem:Op->Bool->List W->Option W
 | .add,h,[(m,a),(n,b)]=>match a,b with
  | .int i,.int j=>some (.d,.int (i+j))
  | .str x,.str y=>if fits (x.cps.size+y.cps.size) then some (.d,.str (x++y)) else none
  | .lst ts,.lst us=>if fits (ts.length+us.length) then newL h (m.kid.meet n.kid) (ts++us) else none
  | .tup ts,.tup us=>if fits (ts.length+us.length)&&!ts.isEmpty then some (.s,.tup (ts++us)) else none
  | _,_=>none
 | .sub,_,[(_,.int i),(_,.int j)]=>some (.d,.int (i-j))
 | .mul,h,[(m,a),(_,b)]=>match a,b with
  | .int i,.int j=>if (decide (i.natAbs < 18446744073709551616)) || (decide (j.natAbs < 18446744073709551616)) then some (.d,.int (i * j)) else none
  | .lst ts,.int k=>if decide (k.natAbs < 4611686018427387904)&&fits (ts.length * k.toNat) then newL h .s (a0e k.toNat ts).flatten else none
  | _,_=>none
 | .fdiv,_,[(_,.int i),(_,.int j)]=>if decide (0 < j)&&decide (j < 1073741824) then some (.d,.int (i / j)) else none
 | .mod,_,[(_,.int i),(_,.int j)]=>if decide (0 < j) then some (.d,.int (i % j)) else none
 | .pow,_,[(_,.int i),(_,.int j)]=>if decide (0<=j)&&decide (j<=1000000)&&decide (i.natAbs < 18446744073709551616) then some (.d,.int (i ^ j.toNat)) else none
 | .fdivN,_,[(_,.int i),(_,.int j)]=>if (j != 0)&&decide (j.natAbs < 18446744073709551616) then some (.d,.int (i.fdiv j)) else none
 | .modN,_,[(_,.int i),(_,.int j)]=>if j != 0 then some (.d,.int (i.fmod j)) else none
 | .neg,_,[(_,.int i)]=>some (.d,.int (-i))
 | .eq,_,[(_,a),(_,b)]=>if decide (dp a<=64)&&decide (dp b<=64) then some (.d,.bl (eqT a b)) else none
 | .ne,_,[(_,a),(_,b)]=>if decide (dp a<=64)&&decide (dp b<=64) then some (.d,.bl (!eqT a b)) else none
 | .lt,_,[(_,.int i),(_,.int j)]=>some (.d,.bl (decide (i < j)))
 | .le,_,[(_,.int i),(_,.int j)]=>some (.d,.bl (decide (i<=j)))
 | .gt,_,[(_,.int i),(_,.int j)]=>some (.d,.bl (decide (j < i)))
 | .ge,_,[(_,.int i),(_,.int j)]=>some (.d,.bl (decide (j<=i)))
 | .is,_,[(_,a),(_,.non)]=>if a.isG then none else some (.d,.bl a.isN)
 | .isnot,_,[(_,a),(_,.non)]=>if a.isG then none else some (.d,.bl (!a.isN))
 | .ix,_,[(m,a),(_,.int i)]=>match a with
  | .lst ts=>(atI ts i).map fun t=>(m.kid,t)
  | .tup ts=>(atI ts i).map fun t=>(m.kid,t)
  | .str x=>(atI x.cps.toList i).map fun c=>(.d,.str ⟨#[c]⟩)
  | .scr ns=>(atI ns i).map fun n=>(.d,.int n)
  | _=>none
 | .sl,h,[(m,.lst ts)]=>newL h m.kid ts
 | .sl1,h,[(m,.lst ts),(_,.int i)]=>newL h m.kid (cut ts (some i) none)
 | .sl2,h,[(m,.lst ts),(_,.int i)]=>newL h m.kid (cut ts none (some i))
 | .sl3,h,[(m,.lst ts),(_,.int i),(_,.int j)]=>newL h m.kid (cut ts (some i) (some j))
 | .sl2,_,[(_,.scr ns),(_,.int i)]=>some (.d,.lst ((cut ns none (some i)).map T.int))
 | .sl1,_,[(_,.scr ns),(_,.int i)]=>some (.d,.lst ((cut ns (some i) none).map T.int))
 | .sl,_,[(_,.scr ns)]=>some (.d,.lst (ns.map T.int))
 | .sl1,_,[(_,.tup ts),(_,.int i)]=>some (.s,.tup (cut ts (some i) none))
 | .sl2,_,[(_,.tup ts),(_,.int i)]=>some (.s,.tup (cut ts none (some i)))
 | .sl3,_,[(_,.tup ts),(_,.int i),(_,.int j)]=>some (.s,.tup (cut ts (some i) (some j)))
 | .len,_,[(_,a)]=>match a with
  | .lst ts=>some (.d,.int ts.length)
  | .tup ts=>some (.d,.int ts.length)
  | .str x=>some (.d,.int x.cps.size)
  | .scr ns=>some (.d,.int ns.length)
  | .dct ks _=>some (.d,.int ks.length)
  | _=>none
 | .isI cs,_,[(_,a)]=>if a.isG then none else some (.d,.bl (cs.any fun c=>isOne c a))
 | .list,h,[(m,a)]=>match a with
  | .lst ts=>newL h m.kid ts
  | .tup ts=>newL h m.kid ts
  | .scr ns=>some (.d,.lst (ns.map T.int))
  | _=>none
 | .tuple,_,[(m,a)]=>match a with
  | .lst ts=>some (m.kid.up,.tup ts)
  | .tup ts=>some (m,.tup ts)
  | _=>none
 | .sum,_,[(_,.lst ts)]=>(intsOf ts).map fun ns=>(.d,.int ns.sum)
 | .all,_,[(_,.lst ts)]=>(boolsOf ts).map fun bs=>(.d,.bl (bs.all id))
 | .any,_,[(_,.lst ts)]=>(boolsOf ts).map fun bs=>(.d,.bl (bs.any id))
 | .max,_,[(_,.int i),(_,.int j)]=>some (.d,.int (if j > i then j else i))
 | .min,_,[(_,.int i),(_,.int j)]=>some (.d,.int (if j < i then j else i))
 | .rng,_,[(_,.int i),(_,.int j)]=>if decide (i.natAbs < 4611686018427387904)&&decide (j.natAbs < 4611686018427387904)&&fits (j-i).toNat then some (.d,.lst ((a0B (j-i).toNat).map fun (k:Nat)=>T.int (i+k))) else none
 | .isin,_,[(_,a),(n,b)]=>(elems (n,b)).bind fun ts=>if flatT a&&ts.all flatT then some (.d,.bl (ts.any fun t=>eqT t a)) else none
 | .notin,_,[(_,a),(n,b)]=>(elems (n,b)).bind fun ts=>if flatT a&&ts.all flatT then some (.d,.bl (!ts.any fun t=>eqT t a)) else none
 | .int,_,[(_,.int i)]=>some (.d,.int i)
 | .int,_,[(_,.bl b)]=>some (.d,.int (b2i b))
 | .abs,_,[(_,.int i)]=>some (.d,.int i.natAbs)
 | .max1,_,[(_,.lst ts)]=>(intsOf ts).bind fun ns=>if ns.isEmpty then none else some (.d,.int (Cr ns))
 | .min1,_,[(_,.lst ts)]=>(intsOf ts).bind fun ns=>if ns.isEmpty then none else some (.d,.int (minI ns))
 | .count,_,[(_,.lst ts),(_,.bl b)]=>(boolsOf ts).map fun bs=>(.d,.int (bs.count b))
 | .isB,_,[(_,.bl a),(_,.bl b)]=>some (.d,.bl (a==b))
 | .isnB,_,[(_,.bl a),(_,.bl b)]=>some (.d,.bl (!(a==b)))
 | .lzip,_,[(m,a),(n,b)]=>(elems (m,a)).bind fun ts=>(elems (n,b)).bind fun us=>some ((m.kid.meet n.kid).up.up,.lst (BO ts us))
 | _,_,_=>none
noncomputable def rd:Env->Nat->Option W
 | [],_=>none
 | o::_,0=>o
 | _::η,i+1=>rd η i
noncomputable def wr:Env->Nat->Option W->Env
 | [],_,_=>[]
 | _::η,0,w=>w::η
 | o::η,i+1,w=>o::wr η i w
noncomputable abbrev put (η:Env)(i:Nat)(w:W):Env:=wr η i (some w)
noncomputable abbrev del (η:Env)(i:Nat):Env:=wr η i none
noncomputable def look:W->Option W
 | (.s,t)=>some (.s,t)
 | (_,t)=>if t.leaf=true then some (.d,t) else none
noncomputable def toS:Option W->Option W
 | some (_,t)=>some (.s,t)
 | none=>none
noncomputable def share:List Nat->Env->Env
 | [],η=>η
 | i::is,η=>share is (wr η i (toS (rd η i)))
noncomputable def lfO:Option W->Option W
 | some (_,t)=>if t.leaf=true then some (.d,t) else none
 | none=>none
noncomputable def ia:Env->Env
 | []=>[]
 | _::η=>none::ia η
noncomputable def mY:List Nat->Env->Env->Env
 | [],_,η=>η
 | i::is,η0,η=>mY is η0 (wr η i (toS (rd η0 i)))
noncomputable def iF:List Nat->Env->Env->Env
 | [],_,η=>η
 | i::is,η0,η=>iF is η0 (wr η i (lfO (rd η0 i)))
noncomputable def pick (vs ls:List Nat)(η:Env):Env:=iF ls η (mY vs η (ia η))
noncomputable def after (m:Md)(vs:List Nat)(η:Env):Env:=match m with
 | .d=>η
 | _=>share vs η
noncomputable def bindT:List Nat->List W->Env->Option Env
 | [],[],η=>some η
 | i::is,w::ws,η=>bindT is ws (put η i w)
 | _,_,_=>none
noncomputable def eQ (m:Md):Nat->List T->List (List W)
 | _,[]=>[]
 | i,t::ts=>[(.d,.int i),(m,t)]::eQ m (i+1) ts
noncomputable def cS (m n:Md):List T->List T->List (List W)
 | t::ts,u::us=>[(m,t),(n,u)]::cS m n ts us
 | _,_=>[]
noncomputable def cn:List T->Option (List (List W))
 | []=>some []
 | .tup [x,y]::ts=>(cn ts).map ([(.s,x),(.s,y)]::·)
 | _::_=>none
noncomputable def zipT3:List T->List T->List T->List (List W)
 | t::ts,u::us,v::vs=>[(.s,t),(.s,u),(.s,v)]::zipT3 ts us vs
 | _,_,_=>[]
noncomputable def turns:Ik->List W->Option (List (List W))
 | .seq,[(_,.lst ts)]=>some (ts.map fun t=>[(.s,t)])
 | .seq,[(_,.tup ts)]=>some (ts.map fun t=>[(.s,t)])
 | .seq,[(_,.scr ns)]=>some (ns.map fun n=>[(.d,.int n)])
 | .rng,[(_,.int n)]=>if decide (n.natAbs < 4611686018427387904)&&fits n.toNat then some ((a0B n.toNat).map fun (k:Nat)=>[(.d,.int k)]) else none
 | .rng,[(_,.int i),(_,.int j)]=>if decide (i.natAbs < 4611686018427387904)&&decide (j.natAbs < 4611686018427387904)&&fits (j-i).toNat then some ((a0B (j-i).toNat).map fun (k:Nat)=>[(.d,.int (i+k))]) else none
 | .enm,[(_,.lst ts)]=>some (eQ .s 0 ts)
 | .zip,[(m,a),(n,b)]=>(elems (m,a)).bind fun ts=>(elems (n,b)).bind fun us=>some (cS .s .s ts us)
 | .sq2,[(_,.lst ts)]=>cn ts
 | .zip3,[(_,.lst ts),(_,.lst us),(_,.lst vs)]=>some (zipT3 ts us vs)
 | _,_=>none
noncomputable abbrev Call:=Nat->List W->Res (W×List W)
noncomputable abbrev RE:=Res (W×Env)
noncomputable def lf (m:Md)(t:T):Md:=if t.leaf=true then .d else m
noncomputable def meets:List W->Md
 | []=>.d
 | w::ws=>(lf w.1 w.2).meet (meets ws)
noncomputable def ax:List W->List T
 | []=>[]
 | w::ws=>w.2::ax ws
noncomputable def aj:List Nat->Env->Env
 | [],η=>η
 | i::is,η=>aj is (del η i)
noncomputable def ios:List E->List Nat
 | []=>[]
 | .io i::es=>i::ios es
 | _::es=>ios es
noncomputable def putAll:List Nat->List W->Env->Env
 | i::is,w::ws,η=>putAll is ws (put η i w)
 | _,_,η=>η
noncomputable def Du:W->List W->Option (W×W)
 | (.s,_),_=>none
 | (m,.lst ts),[]=>(ts.getLast?).map fun t=>((m.kid,t),(m,.lst ts.dropLast))
 | (m,.lst (t::ts)),[(_,.int 0)]=>some ((m.kid,t),(m,.lst ts))
 | _,_=>none
noncomputable def iP:W->W->Option W
 | (.s,_),_=>none
 | (m,.lst ts),(n,t)=>if ts.length < LIM then some ((m.kid.meet (lf n t)).up,.lst (ts++[t])) else none
 | _,_=>none
noncomputable def iR:W->W->Option W
 | (.s,_),_=>none
 | (m,.lst ts),(n,.lst us)=>if ts.length+us.length<=LIM then some ((m.kid.meet n.kid).up,.lst (ts++us)) else none
 | _,_=>none
noncomputable def eG:W->W->W->Option W
 | (.s,_),_,_=>none
 | (m,.lst ts),(_,.int j),(n,t)=>(ixN ts.length j).map fun k=>((m.kid.meet (lf n t)).up,.lst (ts.set k t))
 | _,_,_=>none
noncomputable def gS:Option W->Res Unit
 | some (_,.lst _)=>.ok ()
 | _=>.no
noncomputable def B7:W->Option (List W)
 | (m,.tup ts)=>some (ts.map fun t=>(m.kid,t))
 | _=>none
noncomputable def ret {α:Type}(η:Env)(o:Option α):Res (α×Env):=match o with
 | some a=>.ok (a,η)
 | none=>.no
noncomputable def onB {α:Type}:T->(Env->Res α)->(Env->Res α)->Env->Res α
 | .bl true,f,_,η=>f η
 | .bl false,_,g,η=>g η
 | _,_,_,_=>.no
noncomputable def onT {α:Type}(f g:Env->Res α)(p:W×Env):Res α:=match truth p.1.2 with
 | some true=>f p.2
 | some false=>g p.2
 | none=>.no
noncomputable def okW {α:Type}(a:α)(η:Env):Res (α×Env):=.ok (a,η)
noncomputable def kTup (p:List W×Env):RE:=.ok (((meets p.1).up,.tup (ax p.1)),p.2)
noncomputable def uu (h:Bool)(p:List W×Env):RE:=.ok ((if h then (meets p.1).up else .o .s,.lst (ax p.1)),p.2)
noncomputable def kWk (m:Md)(p:W×Env):RE:=ret p.2 (if m.le p.1.1 then some (m,p.1.2) else none)
noncomputable def kOp (o:Op)(h:Bool)(p:List W×Env):RE:=ret p.2 (oSem o h p.1)
noncomputable def rY (f:Env->RE)(p:W×Env):RE:=onT f (okW p.1) p
noncomputable def kOr (f:Env->RE)(p:W×Env):RE:=onT (okW p.1) f p
noncomputable def rZ (p:W×Env):RE:=ret p.2 ((truth p.1.2).map fun b=>(.d,.bl (!b)))
noncomputable def kC3 (q:Op)(y:W)(z:W×Env):RE:=ret z.2 (oSem q false [y,z.1])
noncomputable def nO {α β:Type}(f:Env->Res (α×Env))(k:α×Env->Res β)(η:Env):Res β:=(f η).bind k
noncomputable def kC2 (o q:Op)(fc:Env->RE)(x:W)(y:W×Env):RE:=(ret y.2 (oSem o false [x,y.1])).bind fun k=>onB k.1.2 (nO fc (kC3 q y.1)) (okW (.d,.bl false)) k.2
noncomputable def kC1 (o q:Op)(fb fc:Env->RE)(x:W×Env):RE:=(fb x.2).bind (kC2 o q fc x.1)
noncomputable def kBack (is:List Nat)(η:Env)(r:W×List W):RE:=.ok (r.1,putAll is r.2 η)
noncomputable def kCall (C:Call)(f:Nat)(is:List Nat)(p:List W×Env):RE:=(C f p.1).bind (kBack is p.2)
noncomputable def jc (p:W×Env):Res (Option W×Env):=.ok (some p.1,p.2)
noncomputable def bq (f:Env->RE)(η:Env):Res (Option W×Env):=(f η).bind jc
noncomputable def q0 (c f:Env->RE)(η:Env):Res (Option W×Env):=(c η).bind (onT (bq f) (okW none))
noncomputable def az (tg:List Nat)(f:Env->Res (Option W×Env)):List (List W)->Env->List W->Res (List W×Env)
 | [],η,acc=>.ok (acc,η)
 | ws::r,η,acc=>(ofO (bindT tg ws η)).bind fun η1=>(f η1).bind fun p=>az tg f r (aj tg p.2) (acc++p.1.toList)
noncomputable def okD (w:W):Bool:=w.1==.d || w.2.leaf
noncomputable def kA (h:Bool)(q:List W×Env):RE:=ret q.2 (if h then (if q.1.all okD then some (.d,.lst (ax q.1)) else none) else some (.o .s,.lst (ax q.1)))
noncomputable def fg (h:Bool)(k:Ik)(tg:List Nat)(f:Env->Res (Option W×Env))(p:List W×Env):RE:=(ret (aj tg p.2) (turns k p.1)).bind fun t=>(az tg f t.1 t.2 []).bind (kA h)
noncomputable def tH (f:Env->Res (List W×Env))(η:Env)(k:List W×Env->RE)(_:Unit):RE:=(f η).bind k
noncomputable def wG (i:Nat)(p:List W×Env):RE:=(ofO ((rd p.2 i).bind fun w=>Du w p.1)).bind fun r=>.ok (r.1,put p.2 i r.2)
noncomputable def kCons (w:W)(q:List W×Env):Res (List W×Env):=.ok (w::q.1,q.2)
noncomputable def bg (f:Env->Res (List W×Env))(p:W×Env):Res (List W×Env):=(f p.2).bind (kCons p.1)
noncomputable def takeP:List Nat->Md->T->Option (W×T)
 | [],m,t=>some ((m,t),.gone)
 | j::p,m,.lst ts=>(ts[j]?).bind fun t=>(takeP p m.kid t).map fun r=>(r.1,.lst (ts.set j r.2))
 | j::p,m,.tup ts=>(ts[j]?).bind fun t=>(takeP p m.kid t).map fun r=>(r.1,.tup (ts.set j r.2))
 | _::_,_,_=>none
noncomputable def takeW (p:List Nat)(w:W):Option (W×W):=(takeP p w.1 w.2).map fun r=>(r.1,(w.1,r.2))
noncomputable def kMvP (i:Nat)(η:Env)(r:W×W):RE:=.ok (r.1,put η i r.2)
noncomputable def kTab {α:Type}(tab:List (Str×α))(f:α->Env->RE)(p:W×Env):RE:=match p.1.2 with
 | .str x=>match tab.lookup x with
  | some a=>f a p.2
  | none=>.no
 | _=>.no
noncomputable def kCT (C:Call)(fa:Env->Res (List W×Env))(is:List Nat)(j:Nat)(η:Env):RE:=(fa η).bind (kCall C j is)
noncomputable def kIn (neg:Bool)(ks:List Str)(p:W×Env):RE:=match p.1.2 with
 | .str x=>.ok ((.d,.bl (ks.contains x != neg)),p.2)
 | _=>.no
noncomputable def okS (t:T)(η:Env):RE:=.ok ((.s,t),η)
noncomputable def ve (tab:List (Str×T))(p:W×Env):RE:=match p.1.2 with
 | .str x=>.ok ((.s,(tab.lookup x).getD .non),p.2)
 | _=>.no
noncomputable def kX (vs:List Nat)(η:Env)(p:W×Env):RE:=.ok ((lf p.1.1 p.1.2,p.1.2),after (lf p.1.1 p.1.2) vs η)
noncomputable def kIo (i:Nat)(p:List W×Env):Res (List W×Env):=(ofO (rd p.2 i)).bind fun w=>.ok (w::p.1,del p.2 i)
section
variable (C:Call)
mutual
noncomputable def evE:E->Env->RE
 | .var i,η=>ret η ((rd η i).bind look)
 | .mv i,η=>ret (del η i) (rd η i)
 | .io i,η=>ret (del η i) (rd η i)
 | .cst t,η=>.ok ((.d,t),η)
 | .glb _ t,η=>.ok ((.s,t),η)
 | .tup es,η=>(evL es η).bind kTup
 | .lst h es,η=>(evL es η).bind (uu h)
 | .wk m e,η=>(evE e η).bind (kWk m)
 | .op o h es,η=>(evL es η).bind (kOp o h)
 | .and a b,η=>(evE a η).bind (rY (evE b))
 | .or a b,η=>(evE a η).bind (kOr (evE b))
 | .not a,η=>(evE a η).bind rZ
 | .ifx c a b,η=>(evE c η).bind (onT (evE a) (evE b))
 | .chain o q a b c,η=>(evE a η).bind (kC1 o q (evE b) (evE c))
 | .call f es,η=>(evA es η).bind (kCall C f (ios es))
 | .comp h k src tg none elt,η=>(evL src η).bind (fg h k tg (bq (evE elt)))
 | .comp h k src tg (some c) elt,η=>(evL src η).bind (fg h k tg (q0 (evE c) (evE elt)))
 | .pop i es,η=>(gS (rd η i)).bind (tH (evL es) η (wG i))
 | .lenV i,η=>ret η ((rd η i).bind fun w=>oSem .len false [w])
 | .tupA es,η=>(evA es η).bind kTup
 | .qx vs ls e,η=>(evE e (pick vs ls η)).bind (kX vs η)
 | .mvP i p,η=>(ofO ((rd η i).bind (takeW p))).bind (kMvP i η)
 | .callT tab k es,η=>(evE k η).bind (kTab tab (kCT C (evA es) (ios es)))
 | .inT neg ks e,η=>(evE e η).bind (kIn neg ks)
 | .ixT tab e,η=>(evE e η).bind (kTab tab okS)
 | .getT tab e,η=>(evE e η).bind (ve tab)
noncomputable def evL:List E->Env->Res (List W×Env)
 | [],η=>.ok ([],η)
 | e::es,η=>(evE e η).bind (bg (evL es))
noncomputable def evA:List E->Env->Res (List W×Env)
 | [],η=>.ok ([],η)
 | .io i::es,η=>(evA es η).bind (kIo i)
 | e::es,η=>(evE e η).bind (bg (evA es))
end
noncomputable def kT (η:Env)(p:W×Env):Res (Bool×Env):=ret η (truth p.1.2)
noncomputable def kT2 (p:W×Env):Res (Bool×Env):=ret p.2 (truth p.1.2)
noncomputable def evX:X->E->Env->RE
 | .q vs ls,e,η=>(evE C e (pick vs ls η)).bind (kX vs η)
 | .l vs,e,η=>evE C e (share vs η)
noncomputable def evT:X->E->Env->Res (Bool×Env)
 | .q vs ls,e,η=>(evE C e (pick vs ls η)).bind (kT η)
 | .l vs,e,η=>(evE C e (share vs η)).bind kT2
noncomputable def Fl.of {α:Type}(η:Env):Res α->(α->Fl)->Fl
 | .ok a,f=>f a
 | .ex c x,_=>.ex c x η
 | .no,_=>.no
noncomputable def Fl.seq:Fl->(Env->Fl)->Fl
 | .nx η,f=>f η
 | z,_=>z
noncomputable def Fl.turn:Fl->(Env->Fl)->Fl
 | .nx η,f=>f η
 | .bk η,_=>.nx η
 | z,_=>z
noncomputable def onF:Bool->(Env->Fl)->(Env->Fl)->Env->Fl
 | true,f,_,η=>f η
 | false,_,g,η=>g η
noncomputable def forL (tg:List Nat)(f:Env->Fl):List (List W)->Env->Fl
 | [],η=>.nx η
 | ws::r,η=>Fl.of η (ofO (bindT tg ws η)) fun η1=>Fl.turn (f η1) (forL tg f r)
noncomputable def kIf (f g:Env->Fl)(p:Bool×Env):Fl:=onF p.1 f g p.2
noncomputable def qQ (f:Env->Fl)(g:Env->Fl)(η:Env):Fl:=Fl.turn (f η) g
noncomputable def jG (c:Env->Res (Bool×Env))(f:Env->Fl):Nat->Env->Fl
 | 0,_=>.no
 | n+1,η=>Fl.of η (c η) (kIf (qQ f (jG c f n)) .nx)
noncomputable def pe:Nat:=1000000000000
noncomputable def nxO (η:Env):Option Env->Fl
 | some η=>.nx η
 | none=>.no
noncomputable def vE (i:Nat)(p:W×Env):Fl:=.nx (put p.2 i p.1)
noncomputable def xW (is:List Nat)(p:W×Env):Fl:=nxO p.2 ((B7 p.1).bind fun ws=>bindT is ws p.2)
noncomputable def so (i:Nat)(p:W×Env):Fl:=nxO p.2 (((rd p.2 i).bind fun w=>iP w p.1).map fun w=>put p.2 i w)
noncomputable def qm (i:Nat)(p:W×Env):Fl:=nxO p.2 (((rd p.2 i).bind fun w=>iR w p.1).map fun w=>put p.2 i w)
noncomputable def qZ (i:Nat)(x:W)(q:W×Env):Fl:=nxO q.2 (((rd q.2 i).bind fun w=>eG w q.1 x).map fun w=>put q.2 i w)
noncomputable def va (i:Nat)(f:Env->RE)(η:Env)(p:W×Env):Fl:=Fl.of η (f p.2) (qZ i p.1)
noncomputable def mw (f:Env->RE)(η:Env)(k:W×Env->Fl)(_:Unit):Fl:=Fl.of η (f η) k
noncomputable def kNx (p:W×Env):Fl:=.nx p.2
noncomputable def kRt (p:W×Env):Fl:=.rt p.1 p.2
noncomputable def kFor2 (tg:List Nat)(f:Env->Fl)(t:List (List W)×Env):Fl:=forL tg f t.1 t.2
noncomputable def kFor (vs:List Nat)(k:Ik)(tg:List Nat)(f:Env->Fl)(η:Env)(p:List W×Env):Fl:=Fl.of η (ret (share vs η) (turns k p.1)) (kFor2 tg f)
noncomputable def BZ (k:Ik)(tg:List Nat)(f:Env->Fl)(p:List W×Env):Fl:=Fl.of p.2 (ret p.2 (turns k p.1)) (kFor2 tg f)
mutual
noncomputable def evS:S->Env->Fl
 | .asg x i e,η=>Fl.of η (evX C x e η) (vE i)
 | .asgT x is e,η=>Fl.of η (evX C x e η) (xW is)
 | .setI x i k e,η=>Fl.of η (evX C x e η) (va i (evX C x k) η)
 | .exp x e,η=>Fl.of η (evX C x e η) kNx
 | .app x i e,η=>Fl.of η (gS (rd η i)) (mw (evX C x e) η (so i))
 | .ext x i e,η=>Fl.of η (gS (rd η i)) (mw (evX C x e) η (qm i))
 | .ret vs e,η=>Fl.of η (evE C e (share vs η)) kRt
 | .retN,η=>.rt (.d,.non) η
 | .ite x c a b,η=>Fl.of η (evT C x c η) (kIf (evSs a) (evSs b))
 | .forS vs ls k src tg body,η=>Fl.of η (evL C src (pick vs ls η)) (kFor vs k tg (evSs body) η)
 | .forU k src tg body,η=>Fl.of η (evL C src η) (BZ k tg (evSs body))
 | .whl x c body,η=>jG (evT C x c) (evSs body) pe η
 | .brk,η=>.bk η
 | .pas,η=>.nx η
 | .stop,_=>.no
noncomputable def evSs:List S->Env->Fl
 | [],η=>.nx η
 | s::r,η=>Fl.seq (evS s η) (evSs r)
end
end
noncomputable def backs:List Nat->Env->Option (List W)
 | [],_=>some []
 | i::is,η=>(rd η i).bind fun w=>(backs is η).bind fun ws=>some (w::ws)
noncomputable def qT (w:W)(b:List W):Res (W×List W):=.ok (w,b)
noncomputable def Fl.out (io:List Nat):Fl->Res (W×List W)
 | .nx η=>(ofO (backs io η)).bind (qT (.d,.non))
 | .rt w η=>(ofO (backs io η)).bind (qT w)
 | .ex c x _=>.ex c x
 | _=>.no
noncomputable def runF (C:Call)(f:Fn)(ws:List W):Res (W×List W) :=
 if ws.length=f.ps then Fl.out f.io (evSs C f.body (ws.map some++a0e f.ns none)) else .no
noncomputable abbrev D4:=List Fn
noncomputable def spoilW (n:Nat):List W->Res (W×List W)
 | [(m,t)]=>if (lf m t==.d&&(decide (dp t<=n)&&decide (dp t<=64)))=true then .ok ((.d,.non),[]) else .no
 | _=>.no
noncomputable def rowsT:List Nat->List T->List T
 | [],_=>[]
 | n::ns,ts=>.lst (ts.take n)::rowsT ns (ts.drop n)
noncomputable def natsOf:List T->Option (List Nat)
 | []=>some []
 | .int (.ofNat n)::ts=>(natsOf ts).map (n::·)
 | _::_=>none
noncomputable def rowsW:List W->Res (W×List W)
 | [(_,.lst ls),(m,.lst ts)]=>(ofO (natsOf ls)).bind fun ns=>.ok ((m.kid.up.up,.lst (rowsT ns ts)),[])
 | _=>.no
noncomputable def callR (P:D4)(s r:Nat):Nat->Call
 | 0=>fun _ _=>.no
 | n+1=>fun f ws=>if f=s then spoilW n ws else if f=r then rowsW ws else (ofO P[f]?).bind fun d=>runF (callR P s r n) d ws
noncomputable abbrev zf:Fn:={ ps:=0,ns:=0,io:=[],body:=[.stop] }
theorem zf_no (C:Call)(ws:List W):runF C zf ws=.no:=by cases ws<;>rfl
theorem AQ (C:Call)(i:Nat)(η:Env):evE C (.var i) η=ret η ((rd η i).bind look):=rfl
theorem zh (C:Call)(i:Nat)(η:Env):evE C (.mv i) η=ret (del η i) (rd η i):=rfl
theorem zO (C:Call)(i:Nat)(η:Env):evE C (.io i) η=ret (del η i) (rd η i):=rfl
theorem Au (C:Call)(t:T)(η:Env):evE C (.cst t) η=.ok ((.d,t),η):=rfl
theorem AA (C:Call)(es:List E)(η:Env):evE C (.tup es) η=(evL C es η).bind kTup:=rfl
theorem BF (C:Call)(h:Bool)(es:List E)(η:Env):evE C (.lst h es) η=(evL C es η).bind (uu h):=rfl
theorem AN (C:Call)(o:Op)(h:Bool)(es:List E)(η:Env):evE C (.op o h es) η=(evL C es η).bind (kOp o h):=rfl
theorem vU (C:Call)(a:E)(b:E)(η:Env):evE C (.and a b) η=(evE C a η).bind (rY (evE C b)):=rfl
theorem wR (C:Call)(a:E)(b:E)(η:Env):evE C (.or a b) η=(evE C a η).bind (kOr (evE C b)):=rfl
theorem wc (C:Call)(a:E)(η:Env):evE C (.not a) η=(evE C a η).bind rZ:=rfl
theorem uz (C:Call)(c:E)(a:E)(b:E)(η:Env):evE C (.ifx c a b) η=(evE C c η).bind (onT (evE C a) (evE C b)):=rfl
theorem u7 (C:Call)(o:Op)(q:Op)(a:E)(b:E)(c:E)(η:Env):evE C (.chain o q a b c) η=(evE C a η).bind (kC1 o q (evE C b) (evE C c)):=rfl
theorem uT (C:Call)(f:Nat)(es:List E)(η:Env):evE C (.call f es) η=(evA C es η).bind (kCall C f (ios es)):=rfl
theorem u6 (C:Call)(h:Bool)(k:Ik)(src:List E)(tg:List Nat)(elt:E)(η:Env):evE C (.comp h k src tg none elt) η=(evL C src η).bind (fg h k tg (bq (evE C elt))):=rfl
theorem v5 (C:Call)(h:Bool)(k:Ik)(src:List E)(tg:List Nat)(c:E)(elt:E)(η:Env):evE C (.comp h k src tg (some c) elt) η=(evL C src η).bind (fg h k tg (q0 (evE C c) (evE C elt))):=rfl
theorem uS (C:Call)(i:Nat)(es:List E)(η:Env):evE C (.pop i es) η=(gS (rd η i)).bind (tH (evL C es) η (wG i)):=rfl
theorem mM (C:Call)(es:List E)(η:Env):evE C (.tupA es) η=(evA C es η).bind kTup:=rfl
theorem qF (C:Call)(vs ls:List Nat)(e:E)(η:Env):evE C (.qx vs ls e) η=(evE C e (pick vs ls η)).bind (kX vs η):=rfl
theorem ph (C:Call)(i:Nat)(p:List Nat)(η:Env):evE C (.mvP i p) η=(ofO ((rd η i).bind (takeW p))).bind (kMvP i η):=rfl
theorem lQ (C:Call)(tab:List (Str×Nat))(k:E)(es:List E)(η:Env):evE C (.callT tab k es) η=(evE C k η).bind (kTab tab (kCT C (evA C es) (ios es))):=rfl
theorem qa (C:Call)(neg:Bool)(ks:List Str)(e:E)(η:Env):evE C (.inT neg ks e) η=(evE C e η).bind (kIn neg ks):=rfl
theorem mj (C:Call)(l:List E)(es:List E)(η:Env):evA C (.tupA l::es) η=(evE C (.tupA l) η).bind (bg (evA C es)):=rfl
theorem qC (C:Call)(vs ls:List Nat)(e:E)(es:List E)(η:Env):evA C (.qx vs ls e::es) η=(evE C (.qx vs ls e) η).bind (bg (evA C es)):=rfl
theorem pS (C:Call)(i:Nat)(p:List Nat)(es:List E)(η:Env):evA C (.mvP i p::es) η=(evE C (.mvP i p) η).bind (bg (evA C es)):=rfl
theorem lC (C:Call)(tab:List (Str×Nat))(k:E)(l:List E)(es:List E)(η:Env):evA C (.callT tab k l::es) η=(evE C (.callT tab k l) η).bind (bg (evA C es)):=rfl
theorem oY (C:Call)(neg:Bool)(ks:List Str)(e:E)(es:List E)(η:Env):evA C (.inT neg ks e::es) η=(evE C (.inT neg ks e) η).bind (bg (evA C es)):=rfl
theorem yH {α:Type}(tab:List (Str×α))(f:α->Env->RE)(m:Md)(x:Str)(η:Env):kTab tab f ((m,.str x),η)=(match tab.lookup x with | some a=>f a η | none=>.no):=rfl
theorem vK (p:List Nat)(m:Md)(t:T):takeW p (m,t)=(takeP p m t).map fun r=>(r.1,(m,r.2)):=rfl
theorem r8 (m:Md)(t:T):takeP [] m t=some ((m,t),.gone):=rfl
theorem qB (j:Nat)(p:List Nat)(m:Md)(ts:List T):takeP (j::p) m (.lst ts)=(ts[j]?).bind fun t=>(takeP p m.kid t).map fun r=>(r.1,.lst (ts.set j r.2)):=rfl
theorem sF (j:Nat)(p:List Nat)(m:Md)(ts:List T):takeP (j::p) m (.tup ts)=(ts[j]?).bind fun t=>(takeP p m.kid t).map fun r=>(r.1,.tup (ts.set j r.2)):=rfl
theorem Bh (h:Bool)(m n:Md)(ts:List T)(i:Int):oSem .sl2 h [(m,.lst ts),(n,.int i)]=newL h m.kid (cut ts none (some i)):=rfl
theorem Ad (h:Bool)(m n:Md)(ts:List T)(i:Int):oSem .sl1 h [(m,.lst ts),(n,.int i)]=newL h m.kid (cut ts (some i) none):=rfl
theorem y0 (h:Bool)(m n:Md)(ts:List T)(k:Int):oSem .mul h [(m,.lst ts),(n,.int k)]=if decide (k.natAbs < 4611686018427387904)&&fits (ts.length * k.toNat) then newL h .s (a0e k.toNat ts).flatten else none:=rfl
theorem CD (h:Bool)(m:Md)(ts:List T):oSem .any h [(m,.lst ts)]=(boolsOf ts).map fun bs=>(.d,.bl (bs.any id)):=rfl
theorem De (h:Bool)(m n:Md)(i j:Int):oSem .min h [(m,.int i),(n,.int j)]=some (.d,.int (if j < i then j else i)):=rfl
theorem CY (h:Bool)(m n:Md)(i j:Int):oSem .rng h [(m,.int i),(n,.int j)]=if decide (i.natAbs < 4611686018427387904)&&decide (j.natAbs < 4611686018427387904)&&fits (j-i).toNat then some (.d,.lst ((a0B (j-i).toNat).map fun (k:Nat)=>T.int (i+k))) else none:=rfl
theorem Ds (m:Md)(ts:List T):turns .enm [(m,.lst ts)]=some (eQ .s 0 ts):=rfl
theorem wB (m n:Md)(ts us:List T):turns .zip [(m,.lst ts),(n,.lst us)]=some (cS .s .s ts us):=rfl
theorem xi (m n:Md)(ts us:List T):turns .zip [(m,.tup ts),(n,.tup us)]=some (cS .s .s ts us):=rfl
theorem Bg (m:Md)(ns:List Int):turns .seq [(m,.scr ns)]=some (ns.map fun n=>[(.d,.int n)]):=rfl
noncomputable def lkM:Md->Md
 | .s=>.s | _=>.d
theorem EK:lkM .s=.s:=rfl
theorem Eb:lkM .d=.d:=rfl
theorem D7 (m:Md):lkM (.o m)=.d:=rfl
theorem Cc (m:Md)(i:Int):look (m,.int i)=some (lkM m,.int i):=by cases m<;>rfl
theorem DR (m:Md)(b:Bool):look (m,.bl b)=some (lkM m,.bl b):=by cases m<;>rfl
theorem DV (m:Md)(x:Str):look (m,.str x)=some (lkM m,.str x):=by cases m<;>rfl
theorem Cu (m:Md):look (m,.non)=some (lkM m,.non):=by cases m<;>rfl
theorem yn (m n k:Md)(ts us vs:List T):turns .zip3 [(m,.lst ts),(n,.lst us),(k,.lst vs)]=some (zipT3 ts us vs):=rfl
theorem Es (neg:Bool)(ks:List Str)(m:Md)(x:Str)(η:Env):kIn neg ks ((m,.str x),η)=.ok ((.d,.bl (ks.contains x != neg)),η):=rfl
theorem Bk (C:Call)(η:Env):evA C [] η=.ok ([],η):=rfl
theorem zQ (C:Call)(i:Nat)(es:List E)(η:Env):evA C (.io i::es) η=(evA C es η).bind (kIo i):=rfl
theorem qb (C:Call)(i:Nat)(es:List E)(η:Env):evA C (.var i::es) η=(evE C (.var i) η).bind (bg (evA C es)):=rfl
theorem qu (C:Call)(i:Nat)(es:List E)(η:Env):evA C (.mv i::es) η=(evE C (.mv i) η).bind (bg (evA C es)):=rfl
theorem pY (C:Call)(t:T)(es:List E)(η:Env):evA C (.cst t::es) η=(evE C (.cst t) η).bind (bg (evA C es)):=rfl
theorem pJ (C:Call)(l:List E)(es:List E)(η:Env):evA C (.tup l::es) η=(evE C (.tup l) η).bind (bg (evA C es)):=rfl
theorem pK (C:Call)(h:Bool)(l:List E)(es:List E)(η:Env):evA C (.lst h l::es) η=(evE C (.lst h l) η).bind (bg (evA C es)):=rfl
theorem rQ (C:Call)(o:Op)(h:Bool)(l:List E)(es:List E)(η:Env):evA C (.op o h l::es) η=(evE C (.op o h l) η).bind (bg (evA C es)):=rfl
theorem oJ (C:Call)(a b:E)(es:List E)(η:Env):evA C (.and a b::es) η=(evE C (.and a b) η).bind (bg (evA C es)):=rfl
theorem um (C:Call)(a b:E)(es:List E)(η:Env):evA C (.or a b::es) η=(evE C (.or a b) η).bind (bg (evA C es)):=rfl
theorem oV (C:Call)(a:E)(es:List E)(η:Env):evA C (.not a::es) η=(evE C (.not a) η).bind (bg (evA C es)):=rfl
theorem oT (C:Call)(c a b:E)(es:List E)(η:Env):evA C (.ifx c a b::es) η=(evE C (.ifx c a b) η).bind (bg (evA C es)):=rfl
theorem mf (C:Call)(f:Nat)(l:List E)(es:List E)(η:Env):evA C (.call f l::es) η=(evE C (.call f l) η).bind (bg (evA C es)):=rfl
theorem mQ (C:Call)(h:Bool)(k:Ik)(src:List E)(tg:List Nat)(cnd:Option E)(elt:E)(es:List E)(η:Env):evA C (.comp h k src tg cnd elt::es) η=(evE C (.comp h k src tg cnd elt) η).bind (bg (evA C es)):=rfl
theorem evA_eq {C:Call}{e:E}{es:List E}{η:Env}(he:∀ i,e≠.io i):evA C (e::es) η=(evE C e η).bind (bg (evA C es)):=by
 cases e with
 | io i=>exact absurd rfl (he i)
 | _=>rfl
theorem xj (C:Call)(η:Env):evL C ([]) η=.ok ([],η):=rfl
theorem xw (C:Call)(e:E)(es:List E)(η:Env):evL C (e::es) η=(evE C e η).bind (bg (evL C es)):=rfl
theorem uL (C:Call)(x:X)(i:Nat)(e:E)(η:Env):evS C (.asg x i e) η=Fl.of η (evX C x e η) (vE i):=rfl
theorem vX (C:Call)(x:X)(is:List Nat)(e:E)(η:Env):evS C (.asgT x is e) η=Fl.of η (evX C x e η) (xW is):=rfl
theorem vT (C:Call)(x:X)(i:Nat)(k:E)(e:E)(η:Env):evS C (.setI x i k e) η=Fl.of η (evX C x e η) (va i (evX C x k) η):=rfl
theorem uB (C:Call)(x:X)(e:E)(η:Env):evS C (.exp x e) η=Fl.of η (evX C x e η) kNx:=rfl
theorem uJ (C:Call)(x:X)(i:Nat)(e:E)(η:Env):evS C (.app x i e) η=Fl.of η (gS (rd η i)) (mw (evX C x e) η (so i)):=rfl
theorem u9 (C:Call)(x:X)(i:Nat)(e:E)(η:Env):evS C (.ext x i e) η=Fl.of η (gS (rd η i)) (mw (evX C x e) η (qm i)):=rfl
theorem wY (C:Call)(vs:List Nat)(e:E)(η:Env):evS C (.ret vs e) η=Fl.of η (evE C e (share vs η)) kRt:=rfl
theorem uR (C:Call)(η:Env):evS C (.retN) η=.rt (.d,.non) η:=rfl
theorem vP (C:Call)(x:X)(c:E)(a:List S)(b:List S)(η:Env):evS C (.ite x c a b) η=Fl.of η (evT C x c η) (kIf (evSs C a) (evSs C b)):=rfl
theorem wX (C:Call)(vs:List Nat)(ls:List Nat)(k:Ik)(src:List E)(tg:List Nat)(body:List S)(η:Env):evS C (.forS vs ls k src tg body) η=Fl.of η (evL C src (pick vs ls η)) (kFor vs k tg (evSs C body) η):=rfl
theorem wt (C:Call)(x:X)(c:E)(body:List S)(η:Env):evS C (.whl x c body) η=jG (evT C x c) (evSs C body) pe η:=rfl
theorem vm (C:Call)(η:Env):evS C (.brk) η=.bk η:=rfl
theorem vo (C:Call)(η:Env):evS C (.pas) η=.nx η:=rfl
theorem rC (C:Call)(η:Env):evSs C ([]) η=.nx η:=rfl
theorem sR (C:Call)(s:S)(r:List S)(η:Env):evSs C (s::r) η=Fl.seq (evS C s η) (evSs C r):=rfl
theorem uW (C:Call)(vs:List Nat)(ls:List Nat)(e:E)(η:Env):evX C (.q vs ls) e η=(evE C e (pick vs ls η)).bind (kX vs η):=rfl
theorem uQ (C:Call)(vs:List Nat)(e:E)(η:Env):evX C (.l vs) e η=evE C e (share vs η):=rfl
theorem uE (C:Call)(vs:List Nat)(ls:List Nat)(e:E)(η:Env):evT C (.q vs ls) e η=(evE C e (pick vs ls η)).bind (kT η):=rfl
theorem wo (C:Call)(vs:List Nat)(e:E)(η:Env):evT C (.l vs) e η=(evE C e (share vs η)).bind kT2:=rfl
theorem zF {α β:Type}(a:α)(f:α->Res β):(Res.ok a).bind f=f a:=rfl
theorem EF {α:Type}(η:Env)(a:α)(f:α->Fl):Fl.of η (.ok a) f=f a:=rfl
theorem yp (η:Env)(f:Env->Fl):Fl.seq (.nx η) f=f η:=rfl
theorem yq (w:W)(η:Env)(f:Env->Fl):Fl.seq (.rt w η) f=.rt w η:=rfl
theorem Bs (η:Env)(f:Env->Fl):Fl.seq (.bk η) f=.bk η:=rfl
theorem vw (η:Env)(f:Env->Fl):Fl.turn (.nx η) f=f η:=rfl
theorem uZ (w:W)(η:Env)(f:Env->Fl):Fl.turn (.rt w η) f=.rt w η:=rfl
theorem we (η:Env)(f:Env->Fl):Fl.turn (.bk η) f=.nx η:=rfl
theorem Ba {α:Type}(f g:Env->Res α)(η:Env):onB (.bl true) f g η=f η:=rfl
theorem BE {α:Type}(f g:Env->Res α)(η:Env):onB (.bl false) f g η=g η:=rfl
theorem zK {α:Type}(f g:Env->Res α)(m:Md)(b:Bool)(η:Env):onT f g ((m,.bl b),η)=onB (.bl b) f g η:=by cases b<;>rfl
theorem yR {α:Type}(f g:Env->Res α)(m:Md)(η:Env):onT f g ((m,.bl true),η)=f η:=rfl
theorem AX {α:Type}(f g:Env->Res α)(m:Md)(η:Env):onT f g ((m,.bl false),η)=g η:=rfl
theorem yL (f g:Env->Fl)(η:Env):onF true f g η=f η:=rfl
theorem Al (f g:Env->Fl)(η:Env):onF false f g η=g η:=rfl
theorem DH {α:Type}(a:α):ofO (some a)=.ok a:=rfl
theorem DC {α:Type}(η:Env)(a:α):ret η (some a)=.ok (a,η):=rfl
theorem Cd (o:Option W)(η:Env):rd (o::η) 0=o:=rfl
theorem Dz (o:Option W)(η:Env)(i:Nat):rd (o::η) (i+1)=rd η i:=rfl
theorem Dg (o w:Option W)(η:Env):wr (o::η) 0 w=w::η:=rfl
theorem DZ (o w:Option W)(η:Env)(i:Nat):wr (o::η) (i+1) w=o::wr η i w:=rfl
theorem vg (t:T):look (.s,t)=some (.s,t):=rfl
theorem xa (m:Md)(i:Int):(look (.d,.int i))=some (.d,.int i):=rfl
theorem vA (m:Md)(b:Bool):(look (.d,.bl b))=some (.d,.bl b):=rfl
theorem uG (x:Str):(look (.d,.str x))=some (.d,.str x):=rfl
theorem uH:(look (.d,.non))=some (.d,.non):=rfl
theorem C8 (m:Md)(t:T):toS (some (m,t))=some (.s,t):=rfl
theorem zt:toS none=none:=rfl
theorem rX (η:Env):share [] η=η:=rfl
theorem qX (i:Nat)(is:List Nat)(η:Env):share (i::is) η=share is (wr η i (toS (rd η i))):=rfl
theorem qj:ia []=[]:=rfl
theorem qt (o:Option W)(η:Env):ia (o::η)=none::ia η:=rfl
theorem zN (vs ls:List Nat)(η:Env):pick vs ls η=iF ls η (mY vs η (ia η)):=rfl
theorem xu (η0 η:Env):mY [] η0 η=η:=rfl
theorem xc (i:Nat)(is:List Nat)(η0 η:Env):mY (i::is) η0 η=mY is η0 (wr η i (toS (rd η0 i))):=rfl
theorem rL (η0 η:Env):iF [] η0 η=η:=rfl
theorem sx (i:Nat)(is:List Nat)(η0 η:Env):iF (i::is) η0 η=iF is η0 (wr η i (lfO (rd η0 i))):=rfl
theorem CV (m:Md)(i:Int):lfO (some (m,.int i))=some (.d,.int i):=rfl
theorem DG (m:Md)(b:Bool):lfO (some (m,.bl b))=some (.d,.bl b):=rfl
theorem DY (m:Md)(x:Str):lfO (some (m,.str x))=some (.d,.str x):=rfl
theorem CN (m:Md):lfO (some (m,.non))=some (.d,.non):=rfl
theorem ue (vs:List Nat)(η:Env):after .d vs η=η:=rfl
theorem qv (vs:List Nat)(η:Env):after .s vs η=share vs η:=rfl
theorem sG (m:Md)(vs:List Nat)(η:Env):after (.o m) vs η=share vs η:=rfl
theorem Ay (m:Md)(i:Int):lf m (.int i)=.d:=rfl
theorem BC (m:Md)(b:Bool):lf m (.bl b)=.d:=rfl
theorem zM (m:Md)(x:Str):lf m (.str x)=.d:=rfl
theorem AK (m:Md):lf m .non=.d:=rfl
theorem Bv (m:Md)(ts:List T):lf m (.lst ts)=m:=rfl
theorem Ar (m:Md)(ts:List T):lf m (.tup ts)=m:=rfl
theorem qz (t:T):lf .d t=.d:=by unfold lf; split<;>rfl
theorem BL (m:Md):Md.s.le m=true:=by cases m<;>rfl
theorem vI:Md.d.le .d=true:=rfl
theorem vH (m:Md):(Md.o m).le .d=true:=rfl
theorem uC (m n:Md):(Md.o m).le (.o n)=m.le n:=rfl
theorem zP (h:Bool)(m n:Md)(i j:Int):oSem .add h [(m,.int i),(n,.int j)]=some (.d,.int (i+j)):=rfl
theorem sv (h:Bool)(m n:Md)(ts us:List T):oSem .add h [(m,.lst ts),(n,.lst us)]=if fits (ts.length+us.length) then newL h (m.kid.meet n.kid) (ts++us) else none:=rfl
theorem rD (h:Bool)(m n:Md)(x y:Str):oSem .add h [(m,.str x),(n,.str y)]=if fits (x.cps.size+y.cps.size) then some (.d,.str (x++y)) else none:=rfl
theorem sA (h:Bool)(m n:Md)(ts us:List T):oSem .add h [(m,.tup ts),(n,.tup us)]=if fits (ts.length+us.length)&&!ts.isEmpty then some (.s,.tup (ts++us)) else none:=rfl
theorem Dq (h:Bool)(m n:Md)(i j:Int):oSem .sub h [(m,.int i),(n,.int j)]=some (.d,.int (i-j)):=rfl
theorem rE (h:Bool)(m n:Md)(i j:Int):oSem .mul h [(m,.int i),(n,.int j)]=if (decide (i.natAbs < 18446744073709551616)) || (decide (j.natAbs < 18446744073709551616)) then some (.d,.int (i * j)) else none:=rfl
theorem qe (h:Bool)(m n:Md)(i j:Int):oSem .fdiv h [(m,.int i),(n,.int j)]=if decide (0 < j)&&decide (j < 1073741824) then some (.d,.int (i / j)) else none:=rfl
theorem yf (h:Bool)(m n:Md)(i j:Int):oSem .mod h [(m,.int i),(n,.int j)]=if decide (0 < j) then some (.d,.int (i % j)) else none:=rfl
theorem CO (h:Bool)(m n:Md)(i j:Int):oSem .pow h [(m,.int i),(n,.int j)]=if decide (0<=j)&&decide (j<=1000000)&&decide (i.natAbs < 18446744073709551616) then some (.d,.int (i ^ j.toNat)) else none:=rfl
theorem Em (h:Bool)(m n:Md)(a b:T)(ha:dp a<=64)(hb:dp b<=64):oSem .ne h [(m,a),(n,b)]=some (.d,.bl (!eqT a b)):=by
 show (if _ then _ else _)=_
 rw [decide_eq_true ha,decide_eq_true hb]; rfl
theorem yV (h:Bool)(m n:Md)(i j:Int):oSem .eq h [(m,.int i),(n,.int j)]=some (.d,.bl (i==j)):=rfl
theorem Bx (h:Bool)(m n:Md)(x y:Str):oSem .eq h [(m,.str x),(n,.str y)]=some (.d,.bl (x==y)):=rfl
theorem zX (h:Bool)(m n:Md)(a b:Bool):oSem .eq h [(m,.bl a),(n,.bl b)]=some (.d,.bl (a==b)):=rfl
theorem AH (h:Bool)(m n:Md)(i j:Int):oSem .ne h [(m,.int i),(n,.int j)]=some (.d,.bl (!(i==j))):=rfl
theorem Bt (h:Bool)(m n:Md)(x y:Str):oSem .ne h [(m,.str x),(n,.str y)]=some (.d,.bl (!(x==y))):=rfl
theorem AV (h:Bool)(m n:Md)(a b:Bool):oSem .ne h [(m,.bl a),(n,.bl b)]=some (.d,.bl (!(a==b))):=rfl
theorem Eu (h:Bool)(m n:Md)(i j:Int):oSem .lt h [(m,.int i),(n,.int j)]=some (.d,.bl (decide (i < j))):=rfl
theorem Ez (h:Bool)(m n:Md)(i j:Int):oSem .le h [(m,.int i),(n,.int j)]=some (.d,.bl (decide (i<=j))):=rfl
theorem ES (h:Bool)(m n:Md)(i j:Int):oSem .gt h [(m,.int i),(n,.int j)]=some (.d,.bl (decide (j < i))):=rfl
theorem Ep (h:Bool)(m n:Md)(i j:Int):oSem .ge h [(m,.int i),(n,.int j)]=some (.d,.bl (decide (j<=i))):=rfl
theorem EM (h:Bool)(m n:Md)(a:T):oSem .is h [(m,a),(n,.non)]=if a.isG then none else some (.d,.bl a.isN):=rfl
theorem vt (h:Bool)(m n:Md)(a:T):oSem .isnot h [(m,a),(n,.non)]=if a.isG then none else some (.d,.bl (!a.isN)):=rfl
theorem DK (h:Bool)(m n:Md)(ts:List T)(i:Int):oSem .ix h [(m,.lst ts),(n,.int i)]=(atI ts i).map fun t=>(m.kid,t):=rfl
theorem BS (h:Bool)(m n:Md)(ts:List T)(i:Int):oSem .ix h [(m,.tup ts),(n,.int i)]=(atI ts i).map fun t=>(m.kid,t):=rfl
theorem zC (h:Bool)(m:Md)(ts:List T):oSem .len h [(m,.lst ts)]=some (.d,.int ts.length):=rfl
theorem zj (h:Bool)(m:Md)(ts:List T):oSem .len h [(m,.tup ts)]=some (.d,.int ts.length):=rfl
theorem AZ (h:Bool)(m:Md)(ns:List Int):oSem .len h [(m,.scr ns)]=some (.d,.int ns.length):=rfl
theorem Cs (h:Bool)(m n:Md)(ns:List Int)(i:Int):oSem .ix h [(m,.scr ns),(n,.int i)]=(atI ns i).map fun n=>(.d,.int n):=rfl
theorem C1 (h:Bool)(m n:Md)(ns:List Int)(i:Int):oSem .sl2 h [(m,.scr ns),(n,.int i)]=some (.d,.lst ((cut ns none (some i)).map T.int)):=rfl
theorem yX (m:Md)(ns:List Int):lf m (.scr ns)=.d:=rfl
theorem B6 (m:Md)(ns:List Int):lfO (some (m,.scr ns))=some (.d,.scr ns):=rfl
theorem vM (ns:List Int):look (.d,.scr ns)=some (.d,.scr ns):=rfl
theorem zv (h:Bool)(m:Md)(x:Str):oSem .len h [(m,.str x)]=some (.d,.int x.cps.size):=rfl
theorem BQ (cs:List String)(h:Bool)(m:Md)(a:T):oSem (.isI cs) h [(m,a)]=if a.isG then none else some (.d,.bl (cs.any fun c=>isOne c a)):=rfl
theorem Dh:T.isG .non=false:=rfl
theorem EU (b:Bool):T.isG (.bl b)=false:=rfl
theorem Dy (i:Int):T.isG (.int i)=false:=rfl
theorem Dm (x:Str):T.isG (.str x)=false:=rfl
theorem Dd (ts:List T):T.isG (.tup ts)=false:=rfl
theorem Cw (ts:List T):T.isG (.lst ts)=false:=rfl
theorem Dx (ns:List Int):T.isG (.scr ns)=false:=rfl
theorem Cm:T.isN .non=true:=rfl
theorem EB (b:Bool):T.isN (.bl b)=false:=rfl
theorem CS (i:Int):T.isN (.int i)=false:=rfl
theorem BY (x:Str):T.isN (.str x)=false:=rfl
theorem BV (ts:List T):T.isN (.tup ts)=false:=rfl
theorem CI (ts:List T):T.isN (.lst ts)=false:=rfl
theorem u0 (h:Bool)(m:Md)(ts:List T):oSem .list h [(m,.lst ts)]=newL h m.kid ts:=rfl
theorem vi (h:Bool)(m:Md)(ts:List T):oSem .list h [(m,.tup ts)]=newL h m.kid ts:=rfl
theorem yT (h:Bool)(m n:Md)(a:T)(ts:List T):oSem .isin h [(m,a),(n,.tup ts)]=if flatT a&&ts.all flatT then some (.d,.bl (ts.any fun t=>eqT t a)) else none:=rfl
theorem xl (h:Bool)(m n:Md)(a:T)(ts:List T):oSem .isin h [(m,a),(n,.lst ts)]=if flatT a&&ts.all flatT then some (.d,.bl (ts.any fun t=>eqT t a)) else none:=rfl
theorem Bp (h:Bool)(m:Md)(ts:List T):oSem .min1 h [(m,.lst ts)]=(intsOf ts).bind fun ns=>if ns.isEmpty then none else some (.d,.int (minI ns)):=rfl
theorem vO (h:Bool)(m n:Md)(i j:Int):oSem .fdivN h [(m,.int i),(n,.int j)]=if (j != 0)&&decide (j.natAbs < 18446744073709551616) then some (.d,.int (i.fdiv j)) else none:=rfl
theorem Ao (h:Bool)(m n:Md)(i j:Int):oSem .modN h [(m,.int i),(n,.int j)]=if j != 0 then some (.d,.int (i.fmod j)) else none:=rfl
theorem BR (m:Md)(ts:List T):turns .sq2 [(m,.lst ts)]=cn ts:=rfl
theorem yE (h:Bool)(m:Md)(ts:List T):oSem .tuple h [(m,.lst ts)]=some (m.kid.up,.tup ts):=rfl
theorem DA (h:Bool)(m:Md)(ts:List T):oSem .sum h [(m,.lst ts)]=(intsOf ts).map fun ns=>(.d,.int ns.sum):=rfl
theorem Cn (h:Bool)(m:Md)(ts:List T):oSem .all h [(m,.lst ts)]=(boolsOf ts).map fun bs=>(.d,.bl (bs.all id)):=rfl
theorem Bq (m:Md)(ts:List T):newL true m ts=if leaves ts then some (.d,.lst ts) else none:=rfl
theorem yS (m:Md)(ts:List T):newL false m ts=some (m.up,.lst ts):=rfl
theorem Bd (m:Md)(ts:List T):turns .seq [(m,.lst ts)]=some (ts.map fun t=>[(.s,t)]):=rfl
theorem zE (m:Md)(ts:List T):turns .seq [(m,.tup ts)]=some (ts.map fun t=>[(.s,t)]):=rfl
theorem tP (m:Md)(n:Int):turns .rng [(m,.int n)]=if decide (n.natAbs < 4611686018427387904)&&fits n.toNat then some ((a0B n.toNat).map fun (k:Nat)=>[(.d,.int k)]) else none:=rfl
theorem tJ (η:Env):bindT [] [] η=some η:=rfl
theorem uh (i:Nat)(is:List Nat)(w:W)(ws:List W)(η:Env):bindT (i::is) (w::ws) η=bindT is ws (put η i w):=rfl
theorem DI {α β:Type}(f:α->β)(a:α):(some a).map f=some (f a):=rfl
theorem rm (b:Bool):truth (.bl b)=some b:=rfl
theorem rJ (i:Int):truth (.int i)=some (i != 0):=rfl
theorem w6 {α β:Type}(a:α)(f:α->Option β):(some a).bind f=f a:=rfl
theorem vf:Md.s.kid=.s:=rfl
theorem wV:Md.d.kid=.d:=rfl
theorem wu (m:Md):(Md.o m).kid=m:=rfl
theorem yz:Md.s.up=.o .s:=rfl
theorem zU:Md.d.up=.d:=rfl
theorem yy (m:Md):(Md.o m).up=.o (.o m):=rfl
theorem rR (m:Md):Md.s.meet m=.s:=by cases m<;>rfl
theorem eP (m:Md):Md.d.meet m=m:=by cases m<;>rfl
theorem oS (m:Md):(Md.o m).meet .s=.s:=rfl
theorem pf (m:Md):(Md.o m).meet .d=.o m:=rfl
theorem pF (m n:Md):(Md.o m).meet (.o n)=.o (m.meet n):=rfl
theorem Bl (n:Md)(ts:List T)(t:T):iP (.d,.lst ts) (n,t)=if ts.length < LIM then some ((lf n t).up,.lst (ts++[t])) else none:=by show (if _ then some ((Md.d.meet _).up,_) else none)=_; rw [eP]
theorem yJ (m n:Md)(ts:List T)(t:T):iP (.o m,.lst ts) (n,t)=if ts.length < LIM then some ((m.meet (lf n t)).up,.lst (ts++[t])) else none:=rfl
theorem AJ (n:Md)(ts us:List T):iR (.d,.lst ts) (n,.lst us)=if ts.length+us.length<=LIM then some (n.kid.up,.lst (ts++us)) else none:=by show (if _ then some ((Md.d.meet _).up,_) else none)=_; rw [eP]
theorem yM (m n:Md)(ts us:List T):iR (.o m,.lst ts) (n,.lst us)=if ts.length+us.length<=LIM then some ((m.meet n.kid).up,.lst (ts++us)) else none:=rfl
theorem Aj (l n:Md)(ts:List T)(t:T)(j:Int):eG (.d,.lst ts) (l,.int j) (n,t)=(ixN ts.length j).map fun k=>((lf n t).up,.lst (ts.set k t)):=by show ((ixN ts.length j).map fun k=>((Md.d.meet _).up,_))=_; rw [eP]
theorem zp (m l n:Md)(ts:List T)(t:T)(j:Int):eG (.o m,.lst ts) (l,.int j) (n,t)=(ixN ts.length j).map fun k=>((m.meet (lf n t)).up,.lst (ts.set k t)):=rfl
theorem Bj (m:Md)(ts:List T):gS (some (m,.lst ts))=.ok ():=rfl
theorem zI (m:Md)(ts:List T):B7 (m,.tup ts)=some (ts.map fun t=>(m.kid,t)):=rfl
theorem DP (η η':Env):nxO η (some η')=.nx η':=rfl
theorem ug (η:Env):backs [] η=some []:=rfl
theorem t9 (i:Nat)(is:List Nat)(η:Env):backs (i::is) η=(rd η i).bind fun w=>(backs is η).bind fun ws=>some (w::ws):=rfl
theorem Bi (io:List Nat)(η:Env):Fl.out io (.nx η)=(ofO (backs io η)).bind (qT (.d,.non)):=rfl
theorem Aw (io:List Nat)(w:W)(η:Env):Fl.out io (.rt w η)=(ofO (backs io η)).bind (qT w):=rfl
theorem x_run (C:Call)(f:Fn)(ws:List W)(h:ws.length=f.ps):runF C f ws=Fl.out f.io (evSs C f.body (ws.map some++a0e f.ns none)):=if_pos h
theorem at0 {α:Type}(a:α)(l:List α):atI (a::l) 0=some a:=by simp [atI,ixN]
theorem atN {α:Type}{xs:List α}{i:Int}{n:Nat}{a:α}(hi:i=n)(h:xs[n]?=some a):atI xs i=some a:=by
 subst hi
 have:=(a0q.mp h).1
 rw [atI,ixN,if_pos (by omega),if_pos (by omega)]
 exact h
theorem at1 {α:Type}(a b:α)(l:List α):atI (a::b::l) 1=some b:=atN (n:=1) rfl rfl
theorem at2 {α:Type}(a b c:α)(l:List α):atI (a::b::c::l) 2=some c:=atN (n:=2) rfl rfl
theorem at3 {α:Type}(a b c d:α)(l:List α):atI (a::b::c::d::l) 3=some d:=atN (n:=3) rfl rfl
theorem at4 {α:Type}(a b c d e:α)(l:List α):atI (a::b::c::d::e::l) 4=some e:=atN (n:=4) rfl rfl
theorem au {α:Type}{tg:List Nat}{f:Env->Res (Option W×Env)}{η:Env}{g:α->List W}(w:α->W):∀ (ts:List α) (acc:List W),(∀ x∈ts,∃ η1 η2,bindT tg (g x) η=some η1/\f η1=.ok (some (w x),η2)/\aj tg η2=η) ->
  az tg f (ts.map g) η acc=.ok (acc++ts.map w,η)
 | [],acc,_=>by rw [a1p,a1p,a0y]; rfl
 | x::ts,acc,h=>by
  obtain ⟨η1,η2,h1,h2,h3⟩:=h x a0d
  rw [a0n,a0n]
  show (ofO (bindT tg (g x) η)).bind _=_
  rw [h1]
  show (f η1).bind _=_
  rw [h2]
  show az tg f (ts.map g) (aj tg η2) (acc++[w x])=_
  rw [h3,au w ts _ fun y hy=>h y (a0c _ hy),a0C]
  rfl
theorem i8 {α:Type}{tg:List Nat}{f:Env->Res (Option W×Env)}{g:α->List W}(I:List α->Env->List W->Prop):∀ (ts pre:List α) (η:Env) (acc:List W),I pre η acc ->
  (∀ p x r η acc,pre++ts=p++x::r->I p η acc->∃ η1 o η2,bindT tg (g x) η=some η1/\f η1=.ok (o,η2)/\I (p++[x]) (aj tg η2) (acc++o.toList)) ->
  ∃ ws η',az tg f (ts.map g) η acc=.ok (ws,η')/\I (pre++ts) η' ws
 | [],pre,η,acc,h,_=>⟨acc,η,rfl,by rw [a0y]; exact h⟩
 | x::ts,pre,η,acc,h,k=>by
  obtain ⟨η1,o,η2,h1,h2,h3⟩:=k pre x ts η acc rfl h
  obtain ⟨ws,η',e,hi⟩:=i8 I ts (pre++[x]) (aj tg η2) (acc++o.toList) h3 (fun p y r η acc e=>k p y r η acc (by rw [<- e,a0C]; rfl))
  refine ⟨ws,η',?_,by rw [a0C] at hi; exact hi⟩
  rw [a0n]
  show (ofO (bindT tg (g x) η)).bind _=_
  rw [h1]
  show (f η1).bind _=_
  rw [h2]
  exact e
theorem eT {α:Type}{tg:List Nat}{f:Env->Fl}{g:α->List W}(st:List α->Env):∀ (ts pre:List α),(∀ p x r,pre++ts=p++x::r->∃ η1,bindT tg (g x) (st p)=some η1/\f η1=.nx (st (p++[x]))) ->
  forL tg f (ts.map g) (st pre)=.nx (st (pre++ts))
 | [],pre,_=>by rw [a0y]; rfl
 | x::ts,pre,h=>by
  obtain ⟨η1,h1,h2⟩:=h pre x ts rfl
  rw [a0n]
  show Fl.of _ (ofO (bindT tg (g x) (st pre))) _=_
  rw [h1]
  show Fl.turn (f η1) _=_
  rw [h2]
  show forL tg f (ts.map g) (st (pre++[x]))=_
  rw [eT st ts (pre++[x]) fun p y r e=>h p y r (by rw [<- e,a0C]; rfl),a0C]
  rfl
theorem aR {α:Type}(m:Md)(g:α->T)(ts:List α):ax (ts.map fun x=>(m,g x))=ts.map g:=by
 induction ts with
 | nil=>rfl
 | cons x r ih=>rw [a0n,a0n,<- ih]; rfl
theorem eg {α:Type}(g:α->T)(ts:List α):(ts.map fun x=>((Md.d,g x):W)).all okD=true:=by
 rw [List.all_map,a0L]; intro x _; rfl
end M

namespace MR
open L2 L3 M
open PySem (Addr Str sizeLine)
noncomputable abbrev Fp:=Addr->Prop
noncomputable def ScrR (K:a0a)(H:Hp)(a:Addr)(ns:List Int):Prop:=(∃ o,H a=some (.frz o (.lst (ns.map V.int))))\/SqL K (fun _=>none) a (ns.map V.int)
theorem ScrR.sq {K:a0a}{H:Hp}{a:Addr}{ns:List Int}(h:ScrR K H a ns):SqL K H a (ns.map V.int):=by
 rcases h with ⟨o,h⟩ | ((h | ⟨o,h⟩) | h)
 ·exact .inl (.inr ⟨o,h⟩)
 ·cases h
 ·cases h
 ·exact .inr h
theorem ScrR.keep {K:a0a}{H H':Hp}{a:Addr}{ns:List Int}(s:∀ a o u,H a=some (.frz o u)->H' a=some (.frz o u))(h:ScrR K H a ns):ScrR K H' a ns:=h.imp (fun ⟨o,e⟩=>⟨o,s a o _ e⟩) id
noncomputable def LstR (K:a0a)(Z:Fp)(H:Hp)(G:Fp)(a:Addr)(xs:List V):Md->Prop
 | .s=>Z a/\H a=some (.lst xs)
 | _=>G a/\H a=some (.lst xs)
mutual
noncomputable def Rep (K:a0a)(Z:Fp)(H:Hp):Md->T->V->Fp->Prop
 | _,.non,v,_=>v=.non
 | _,.bl b,v,_=>v=.bl b
 | _,.int i,v,_=>v=.int i
 | _,.str x,v,_=>v=.str x/\sOk x=true
 | m,.tup ts,v,G=>∃ a xs,v=.ref a/\SqT K H a xs/\xs.length<=LIM/\RepL K Z H m.kid ts xs G
 | m,.lst ts,v,G=>∃ a xs,v=.ref a/\xs.length<=LIM/\LstR K Z H G a xs m/\RepL K Z H m.kid ts xs (fun b=>G b/\b≠a)
 | _,.dct _ _,_,_=>False
 | _,.ins _ _ _,_,_=>False
 | _,.gone,_,_=>True
 | _,.scr ns,v,_=>∃ a,v=.ref a/\ns.length<=LIM/\ScrR K H a ns
noncomputable def RepL (K:a0a)(Z:Fp)(H:Hp):Md->List T->List V->Fp->Prop
 | _,[],xs,_=>xs=[]
 | m,t::ts,xs,G=>∃ x r G1 G2,xs=x::r/\(∀ a,G1 a->G a)/\(∀ a,G2 a->G a)/\(∀ a,G1 a->¬ G2 a)/\Rep K Z H m t x G1/\RepL K Z H m ts r G2
end
section
variable {K:a0a}{Z Z':Fp}{H H':Hp}{m:Md}{t:T}{ts:List T}{v:V}{xs:List V}{G G':Fp}
theorem LstR.mono {a:Addr}(w:∀ a,G a->G' a)(h:LstR K Z H G a xs m):LstR K Z H G' a xs m:=by
 cases m with
 | s=>exact h
 | d=>exact ⟨w _ h.1,h.2⟩
 | o m=>exact ⟨w _ h.1,h.2⟩
mutual
theorem Rep.mono:∀ {m:Md} {t:T} {v:V} {G G':Fp},(∀ a,G a->G' a)->Rep K Z H m t v G->Rep K Z H m t v G'
 | _,.non,_,_,_,_,h=>h
 | _,.bl _,_,_,_,_,h=>h
 | _,.int _,_,_,_,_,h=>h
 | _,.str _,_,_,_,_,h=>h
 | m,.tup ts,v,G,G',w,⟨a,xs,e,q,l,r⟩=>⟨a,xs,e,q,l,RepL.mono w r⟩
 | m,.lst ts,v,G,G',w,⟨a,xs,e,l,q,r⟩=>⟨a,xs,e,l,q.mono w,RepL.mono (fun b hb=>⟨w b hb.1,hb.2⟩) r⟩
 | _,.dct _ _,_,_,_,_,h=>h.elim
 | _,.ins _ _ _,_,_,_,_,h=>h.elim
 | _,.gone,_,_,_,_,h=>h
 | _,.scr _,_,_,_,_,h=>h
theorem RepL.mono:∀ {m:Md} {ts:List T} {xs:List V} {G G':Fp},(∀ a,G a->G' a)->RepL K Z H m ts xs G->RepL K Z H m ts xs G'
 | _,[],_,_,_,_,h=>h
 | m,t::ts,xs,G,G',w,⟨x,r,G1,G2,e,h1,h2,hd,p,q⟩=>⟨x,r,G1,G2,e,fun a ha=>w a (h1 a ha),fun a ha=>w a (h2 a ha),hd,p,q⟩
end
noncomputable def Stay (Z:Fp)(H H':Hp):Prop:=(∀ a o,Z a->H a=some o->H' a=some o)/\(∀ a xs,Rd H a (.tup xs)->Rd H' a (.tup xs))/\∀ a o u,H a=some (.frz o u)->H' a=some (.frz o u)
theorem Stay.sqt (s:Stay Z H H'){a:Addr}(h:SqT K H a xs):SqT K H' a xs:=by
 rcases h with h | h
 ·exact .inl (s.2.1 a xs h)
 ·exact .inr h
theorem LstR.keep {a:Addr}(s:Stay Z H H')(z:∀ a,Z a->Z' a)(g:∀ a o,G a->H a=some o->H' a=some o)(h:LstR K Z H G a xs m):LstR K Z' H' G a xs m:=by
 cases m with
 | s=>exact ⟨z _ h.1,s.1 _ _ h.1 h.2⟩
 | d=>exact ⟨h.1,g _ _ h.1 h.2⟩
 | o m=>exact ⟨h.1,g _ _ h.1 h.2⟩
mutual
theorem Rep.keep (s:Stay Z H H')(z:∀ a,Z a->Z' a):∀ {m:Md} {t:T} {v:V} {G:Fp},(∀ a o,G a->H a=some o->H' a=some o)->Rep K Z H m t v G->Rep K Z' H' m t v G
 | _,.non,_,_,_,h=>h
 | _,.bl _,_,_,_,h=>h
 | _,.int _,_,_,_,h=>h
 | _,.str _,_,_,_,h=>h
 | m,.tup ts,v,G,g,⟨a,xs,e,q,l,r⟩=>⟨a,xs,e,s.sqt q,l,RepL.keep s z g r⟩
 | m,.lst ts,v,G,g,⟨a,xs,e,l,q,r⟩=>⟨a,xs,e,l,q.keep s z g,RepL.keep s z (fun b o hb=>g b o hb.1) r⟩
 | _,.dct _ _,_,_,_,h=>h.elim
 | _,.ins _ _ _,_,_,_,h=>h.elim
 | _,.gone,_,_,_,h=>h
 | _,.scr _,_,_,_,⟨a,e,l,q⟩=>⟨a,e,l,q.keep s.2.2⟩
theorem RepL.keep (s:Stay Z H H')(z:∀ a,Z a->Z' a):∀ {m:Md} {ts:List T} {xs:List V} {G:Fp},(∀ a o,G a->H a=some o->H' a=some o)->RepL K Z H m ts xs G->RepL K Z' H' m ts xs G
 | _,[],_,_,_,h=>h
 | m,t::ts,xs,G,g,⟨x,r,G1,G2,e,h1,h2,hd,p,q⟩=>⟨x,r,G1,G2,e,h1,h2,hd,Rep.keep s z (fun a o ha=>g a o (h1 a ha)) p,RepL.keep s z (fun a o ha=>g a o (h2 a ha)) q⟩
end
theorem bU (Z:Fp)(H:Hp):Stay Z H H:=⟨fun _ _ _ h=>h,fun _ _ h=>h,fun _ _ _ h=>h⟩
theorem Rep.zmono (z:∀ a,Z a->Z' a)(h:Rep K Z H m t v G):Rep K Z' H m t v G:=h.keep (bU Z H) z fun _ _ _ q=>q
theorem RepL.zmono (z:∀ a,Z a->Z' a)(h:RepL K Z H m ts xs G):RepL K Z' H m ts xs G:=h.keep (bU Z H) z fun _ _ _ q=>q
theorem RepL.length:∀ {ts:List T} {xs:List V} {G:Fp},RepL K Z H m ts xs G->xs.length=ts.length
 | [],_,_,h=>by rw [show _=[] from h]; rfl
 | _::_,_,_,⟨x,r,G1,G2,e,_,_,_,_,q⟩=>by rw [e,a0f,a0f,RepL.length q]
theorem RepL.get:∀ {ts:List T} {xs:List V} {G:Fp} {i:Nat} {t:T},RepL K Z H m ts xs G->ts[i]?=some t->∃ x,xs[i]?=some x/\Rep K Z H m t x G
 | [],_,_,_,_,_,e=>by simp at e
 | _::_,_,_,0,_,⟨x,r,G1,G2,e,h1,_,_,p,_⟩,e2=>by
  rw [a1c] at e2; cases e2
  exact ⟨x,by rw [e]; rfl,p.mono h1⟩
 | _::_,_,_,i+1,_,⟨x,r,G1,G2,e,_,h2,_,_,q⟩,e2=>by
  rw [a0D] at e2
  obtain ⟨y,hy,p⟩:=RepL.get q e2
  exact ⟨y,by rw [e,a0D]; exact hy,p.mono h2⟩
theorem RepL.append:∀ {ts us:List T} {xs ys:List V} {G1 G2 G:Fp},(∀ a,G1 a->G a)->(∀ a,G2 a->G a)->(∀ a,G1 a->¬ G2 a)->RepL K Z H m ts xs G1->RepL K Z H m us ys G2->RepL K Z H m (ts++us) (xs++ys) G
 | [],us,xs,ys,G1,G2,G,w1,w2,d,h,k=>by rw [show xs=[] from h]; exact k.mono w2
 | t::ts,us,xs,ys,G1,G2,G,w1,w2,d,⟨x,r,A,B,e,h1,h2,hd,p,q⟩,k=>by
  rw [e]
  refine ⟨x,r++ys,A,fun a=>B a\/G2 a,rfl,fun a ha=>w1 a (h1 a ha),fun a ha=>ha.elim (fun z=>w1 a (h2 a z)) (w2 a),fun a ha hb=>hb.elim (hd a ha) (d a (h1 a ha)),p,?_⟩
  exact RepL.append (fun a z=>.inl z) (fun a z=>.inr z) (fun a ha=>d a (h2 a ha)) q k
theorem RepL.one {x:V}(p:Rep K Z H m t x G):RepL K Z H m [t] [x] G:=⟨x,[],G,fun _=>False,rfl,fun _ h=>h,fun _ h=>h.elim,fun _ _ h=>h,p,rfl⟩
theorem RepL.take:∀ {ts:List T} {xs:List V} {G:Fp} (n:Nat),RepL K Z H m ts xs G->RepL K Z H m (ts.take n) (xs.take n) G
 | [],_,_,n,h=>by rw [show _=[] from h,a3i,a3i]; rfl
 | _::_,_,_,0,h=>rfl
 | _::_,_,_,n+1,⟨x,r,A,B,e,h1,h2,hd,p,q⟩=>by rw [e]; exact ⟨x,r.take n,A,B,rfl,h1,h2,hd,p,RepL.take n q⟩
theorem RepL.drop:∀ {ts:List T} {xs:List V} {G:Fp} (n:Nat),RepL K Z H m ts xs G->RepL K Z H m (ts.drop n) (xs.drop n) G
 | [],_,_,n,h=>by rw [show _=[] from h,a3J,a3J]; rfl
 | _::_,_,_,0,h=>h
 | _::_,_,_,n+1,⟨x,r,A,B,e,h1,h2,hd,p,q⟩=>by rw [e]; exact (RepL.drop n q).mono h2
theorem Rep.leaf {m':Md}(hs:∀ a o u,H a=some (.frz o u)->H' a=some (.frz o u))(hl:t.leaf=true)(h:Rep K Z H m t v G):Rep K Z' H' m' t v G':=by
 cases t with
 | non=>exact h
 | bl _=>exact h
 | int _=>exact h
 | str _=>exact h
 | scr _=>obtain ⟨a,e,l,q⟩:=h; exact ⟨a,e,l,q.keep hs⟩
 | _=>cases hl
theorem RepL.leaves {m':Md}(hs:∀ a o u,H a=some (.frz o u)->H' a=some (.frz o u)):∀ {ts:List T} {xs:List V} {G G':Fp},leaves ts=true->RepL K Z H m ts xs G->RepL K Z' H' m' ts xs G'
 | [],_,_,_,_,h=>h
 | t::ts,_,_,G',hl,⟨x,r,A,B,e,h1,h2,hd,p,q⟩=>by
  have h':(t.leaf&&ts.all T.leaf)=true:=hl
  rw [a0s] at h'
  exact ⟨x,r,fun _=>False,fun _=>False,e,fun _ z=>z.elim,fun _ z=>z.elim,fun _ z=>z.elim,p.leaf hs h'.1,RepL.leaves hs h'.2 q⟩
noncomputable def no:Fp:=fun _=>False
mutual
theorem Rep.sh:∀ {m:Md} {t:T} {v:V} {G:Fp},Rep K Z H m t v G->Rep K (fun a=>Z a\/G a) H .s t v no
 | _,.non,_,_,h=>h
 | _,.bl _,_,_,h=>h
 | _,.int _,_,_,h=>h
 | _,.str _,_,_,h=>h
 | m,.tup ts,v,G,⟨a,xs,e,q,l,r⟩=>⟨a,xs,e,q,l,RepL.sh r⟩
 | m,.lst ts,v,G,⟨a,xs,e,l,q,r⟩=>⟨a,xs,e,l,by
   cases m with
   | s=>exact ⟨.inl q.1,q.2⟩
   | d=>exact ⟨.inr q.1,q.2⟩
   | o m=>exact ⟨.inr q.1,q.2⟩,(RepL.zmono (fun b hb=>hb.elim .inl fun z=>.inr z.1) (RepL.sh r)).mono fun _ z=>z.elim⟩
 | _,.dct _ _,_,_,h=>h.elim
 | _,.ins _ _ _,_,_,h=>h.elim
 | _,.gone,_,_,h=>h
 | _,.scr _,_,_,h=>h
theorem RepL.sh:∀ {m:Md} {ts:List T} {xs:List V} {G:Fp},RepL K Z H m ts xs G->RepL K (fun a=>Z a\/G a) H .s ts xs no
 | _,[],_,_,h=>h
 | m,t::ts,xs,G,⟨x,r,G1,G2,e,h1,h2,hd,p,q⟩=>⟨x,r,no,no,e,fun _ z=>z,fun _ z=>z,fun _ z _=>z,Rep.zmono (fun b hb=>hb.imp id (h1 b)) (Rep.sh p),RepL.zmono (fun b hb=>hb.imp id (h2 b)) (RepL.sh q)⟩
end
theorem EJ:∀ a:Md,a.le .d=true
 | .s=>rfl | .d=>rfl | .o _=>rfl
theorem j7:∀ a:Md,a.le a=true
 | .s=>rfl | .d=>rfl | .o a=>j7 a
theorem kH:∀ {a b c:Md},a.le b=true->b.le c=true->a.le c=true
 | .s,_,.s,_,_=>rfl
 | .s,_,.d,_,_=>rfl
 | .s,_,.o _,_,_=>rfl
 | .o a,.o b,.o c,h,k=>kH (a:=a) (b:=b) (c:=c) h k
 | .o a,.o b,.d,h,k=>rfl
 | .o a,.d,.d,h,k=>rfl
 | .d,.d,.d,_,_=>rfl
 | .d,.s,_,h,_=>by cases h
 | .d,.o _,_,h,_=>by cases h
 | .o _,.s,_,h,_=>by cases h
 | .o _,.o _,.s,_,k=>by cases k
 | .o _,.d,.s,_,k=>by cases k
 | .o _,.d,.o _,_,k=>by cases k
 | .d,.d,.s,_,k=>by cases k
 | .d,.d,.o _,_,k=>by cases k
theorem dG:∀ a b:Md,(a.meet b).le a=true/\(a.meet b).le b=true
 | .s,.s=>⟨rfl,rfl⟩
 | .s,.d=>⟨rfl,rfl⟩
 | .s,.o _=>⟨rfl,rfl⟩
 | .d,.s=>⟨rfl,rfl⟩
 | .d,.d=>⟨rfl,rfl⟩
 | .d,.o b=>⟨rfl,j7 b⟩
 | .o _,.s=>⟨rfl,rfl⟩
 | .o a,.d=>⟨j7 a,rfl⟩
 | .o a,.o b=>dG a b
theorem qK:∀ {a b:Md},a.le b=true->a.kid.le b.kid=true
 | .s,.s,_=>rfl
 | .s,.d,_=>rfl
 | .s,.o _,_=>by first | rfl | exact (by cases ‹Md›<;>rfl)
 | .o a,.o b,h=>h
 | .o a,.d,_=>EJ a
 | .d,.d,_=>rfl
 | .d,.s,h=>by cases h
 | .d,.o _,h=>by cases h
 | .o _,.s,h=>by cases h
theorem cZ:∀ a:Md,a.up.kid=a
 | .s=>rfl | .d=>rfl | .o _=>rfl
theorem bS (a:Md):a.up≠.s:=by cases a<;>intro h<;>cases h
theorem LstR.own {a:Addr}(hm:m≠.s):LstR K Z H G a xs m ↔ G a/\H a=some (.lst xs):=by
 cases m with
 | s=>exact absurd rfl hm
 | d=>exact Iff.rfl
 | o m=>exact Iff.rfl
noncomputable abbrev b9 (Z G G':Fp):Fp:=fun a=>Z a\/(G a/\¬ G' a)
mutual
theorem Rep.weak:∀ {m m':Md} {t:T} {v:V} {G:Fp},m'.le m=true->Rep K Z H m t v G->∃ G',(∀ a,G' a->G a)/\Rep K (b9 Z G G') H m' t v G'
 | m,m',.non,_,G,_,h=>⟨G,fun _ z=>z,h⟩
 | m,m',.bl _,_,G,_,h=>⟨G,fun _ z=>z,h⟩
 | m,m',.int _,_,G,_,h=>⟨G,fun _ z=>z,h⟩
 | m,m',.str _,_,G,_,h=>⟨G,fun _ z=>z,h⟩
 | m,m',.scr _,_,G,_,h=>⟨G,fun _ z=>z,h⟩
 | m,m',.tup ts,v,G,hm,⟨a,xs,e,q,l,r⟩=>by
  obtain ⟨G',h1,h2⟩:=RepL.weak (qK hm) r
  exact ⟨G',h1,a,xs,e,q,l,h2⟩
 | m,m',.lst ts,v,G,hm,h=>by
  cases m' with
  | s=>exact ⟨no,fun _ z=>z.elim,(Rep.sh h).zmono fun a ha=>ha.imp id fun z=>⟨z,fun q=>q⟩⟩
  | d =>
   cases m with
   | s=>cases hm
   | o _=>cases hm
   | d=>exact ⟨G,fun _ z=>z,h.zmono fun _ z=>.inl z⟩
  | o k =>
   have hne:m≠.s:=by rintro rfl; cases hm
   obtain ⟨a,xs,e,l,q,r⟩:=h
   rw [LstR.own hne] at q
   obtain ⟨G',h1,h2⟩:=RepL.weak (qK hm) r
   refine ⟨fun b=>G' b\/b=a,fun b hb=>hb.elim (fun z=>(h1 b z).1) (fun z=>z ▸ q.1),a,xs,e,l,⟨.inr rfl,q.2⟩,?_⟩
   refine (h2.zmono fun b hb=>?_).mono fun b hb=>⟨.inl hb,(h1 b hb).2⟩
   rcases hb with z | ⟨⟨z1,z2⟩,z3⟩
   ·exact .inl z
   ·exact .inr ⟨z1,fun q=>q.elim z3 z2⟩
 | _,_,.dct _ _,_,_,_,h=>h.elim
 | _,_,.ins _ _ _,_,_,_,h=>h.elim
 | m,m',.gone,_,G,_,h=>⟨G,fun _ z=>z,h⟩
theorem RepL.weak:∀ {m m':Md} {ts:List T} {xs:List V} {G:Fp},m'.le m=true->RepL K Z H m ts xs G->∃ G',(∀ a,G' a->G a)/\RepL K (b9 Z G G') H m' ts xs G'
 | m,m',[],_,G,_,h=>⟨G,fun _ z=>z,h⟩
 | m,m',t::ts,xs,G,hm,⟨x,r,G1,G2,e,h1,h2,hd,p,q⟩=>by
  obtain ⟨A,a1,a2⟩:=Rep.weak hm p
  obtain ⟨B,b1,b2⟩:=RepL.weak hm q
  refine ⟨fun b=>A b\/B b,fun b hb=>hb.elim (fun z=>h1 b (a1 b z)) (fun z=>h2 b (b1 b z)),x,r,A,B,e,fun _ z=>.inl z,fun _ z=>.inr z,fun b za zb=>hd b (a1 b za) (b1 b zb),?_,?_⟩
  ·refine a2.zmono fun b hb=>hb.imp id fun z=>⟨h1 b z.1,fun q=>q.elim z.2 fun w=>hd b z.1 (b1 b w)⟩
  ·refine b2.zmono fun b hb=>hb.imp id fun z=>⟨h2 b z.1,fun q=>q.elim (fun w=>hd b (a1 b w) z.1) z.2⟩
end
noncomputable def RepW (K:a0a)(Z:Fp)(H:Hp):List W->List V->Fp->Prop
 | [],xs,_=>xs=[]
 | w::ws,xs,G=>∃ x r G1 G2,xs=x::r/\(∀ a,G1 a->G a)/\(∀ a,G2 a->G a)/\(∀ a,G1 a->¬ G2 a)/\Rep K Z H w.1 w.2 x G1/\RepW K Z H ws r G2
theorem RepW.length:∀ {ws:List W} {xs:List V} {G:Fp},RepW K Z H ws xs G->xs.length=ws.length
 | [],_,_,h=>by rw [show _=[] from h]; rfl
 | _::_,_,_,⟨x,r,G1,G2,e,_,_,_,_,q⟩=>by rw [e,a0f,a0f,RepW.length q]
theorem RepW.mono:∀ {ws:List W} {xs:List V} {G G':Fp},(∀ a,G a->G' a)->RepW K Z H ws xs G->RepW K Z H ws xs G'
 | [],_,_,_,_,h=>h
 | _::_,_,_,_,w,⟨x,r,G1,G2,e,h1,h2,hd,p,q⟩=>⟨x,r,G1,G2,e,fun a ha=>w a (h1 a ha),fun a ha=>w a (h2 a ha),hd,p,q⟩
theorem RepW.keep (s:Stay Z H H')(z:∀ a,Z a->Z' a):∀ {ws:List W} {xs:List V} {G:Fp},(∀ a o,G a->H a=some o->H' a=some o)->RepW K Z H ws xs G->RepW K Z' H' ws xs G
 | [],_,_,_,h=>h
 | _::_,_,_,g,⟨x,r,G1,G2,e,h1,h2,hd,p,q⟩=>⟨x,r,G1,G2,e,h1,h2,hd,p.keep s z fun a o ha=>g a o (h1 a ha),RepW.keep s z (fun a o ha=>g a o (h2 a ha)) q⟩
theorem RepW.append:∀ {ws us:List W} {xs ys:List V} {G1 G2 G:Fp},(∀ a,G1 a->G a)->(∀ a,G2 a->G a)->(∀ a,G1 a->¬ G2 a)->RepW K Z H ws xs G1->RepW K Z H us ys G2->RepW K Z H (ws++us) (xs++ys) G
 | [],us,xs,ys,G1,G2,G,w1,w2,d,h,k=>by rw [show xs=[] from h]; exact k.mono w2
 | t::ts,us,xs,ys,G1,G2,G,w1,w2,d,⟨x,r,A,B,e,h1,h2,hd,p,q⟩,k=>by
  rw [e]
  refine ⟨x,r++ys,A,fun a=>B a\/G2 a,rfl,fun a ha=>w1 a (h1 a ha),fun a ha=>ha.elim (fun z=>w1 a (h2 a z)) (w2 a),fun a ha hb=>hb.elim (hd a ha) (d a (h1 a ha)),p,?_⟩
  exact RepW.append (fun a z=>.inl z) (fun a z=>.inr z) (fun a ha=>d a (h2 a ha)) q k
theorem RepW.one {w:W}{x:V}(p:Rep K Z H w.1 w.2 x G):RepW K Z H [w] [x] G:=⟨x,[],G,no,rfl,fun _ h=>h,fun _ h=>h.elim,fun _ _ h=>h,p,rfl⟩
theorem eH:∀ {ws:List W} {w:W},w∈ws->(meets ws).le (lf w.1 w.2)=true
 | u::ws,w,h=>by
  rcases a0l.mp h with z | z
  ·subst z; exact (dG _ _).1
  ·exact kH (dG _ _).2 (eH z)
theorem Rep.lf (h:Rep K Z H m t v G):Rep K Z H (M.lf m t) t v G:=by
 unfold M.lf
 split
 ·rename_i hl; exact h.leaf (fun _ _ _ q=>q) hl
 ·exact h
theorem RepW.to {N:Md}:∀ {ws:List W} {xs:List V} {G:Fp},(∀ w∈ws,N.le (M.lf w.1 w.2)=true)->RepW K Z H ws xs G->∃ G',(∀ a,G' a->G a)/\RepL K (b9 Z G G') H N (ax ws) xs G'
 | [],_,G,_,h=>⟨G,fun _ z=>z,h⟩
 | w::ws,xs,G,hm,⟨x,r,G1,G2,e,h1,h2,hd,p,q⟩=>by
  obtain ⟨A,a1,a2⟩:=Rep.weak (hm w a0d) p.lf
  obtain ⟨B,b1,b2⟩:=RepW.to (fun u hu=>hm u (a0c _ hu)) q
  refine ⟨fun b=>A b\/B b,fun b hb=>hb.elim (fun z=>h1 b (a1 b z)) (fun z=>h2 b (b1 b z)),x,r,A,B,e,fun _ z=>.inl z,fun _ z=>.inr z,fun b za zb=>hd b (a1 b za) (b1 b zb),?_,?_⟩
  ·refine a2.zmono fun b hb=>hb.imp id fun z=>⟨h1 b z.1,fun q=>q.elim z.2 fun w=>hd b z.1 (b1 b w)⟩
  ·refine b2.zmono fun b hb=>hb.imp id fun z=>⟨h2 b z.1,fun q=>q.elim (fun w=>hd b (a1 b w) z.1) z.2⟩
end
noncomputable def Own (Z:Fp)(H:Hp)(F:Fp):Prop:=∀ a,F a->¬ Z a/\∃ xs,H a=some (.lst xs)
structure Step (Z:Fp)(H:Hp)(F:Fp)(Z':Fp)(H':Hp)(F':Fp):Prop where
 keep:∀ a o,H a=some o->¬ F a->H' a=some o
 zm:∀ a,Z a->Z' a
 zn:∀ a,Z' a->Z a\/F a\/H a=none
 fn:∀ a,F' a->F a\/H a=none
 al:∀ a,H a≠none->H' a≠none
 za:(∀ a,Z a->H a≠none)->∀ a,Z' a->H' a≠none
section
variable {K:a0a}{Z Z1 Z2 Z':Fp}{H H1 H2 H':Hp}{F F1 F2 F' R G:Fp}
theorem Step.refl (Z:Fp)(H:Hp)(F:Fp):Step Z H F Z H F:=⟨fun _ _ h _=>h,fun _ h=>h,fun _ h=>.inl h,fun _ h=>.inl h,fun _ h=>h,fun z=>z⟩
theorem Step.trans (s:Step Z H F Z1 H1 F1)(t:Step Z1 H1 F1 Z2 H2 F2):Step Z H F Z2 H2 F2 where
 keep:=fun a o h n=>t.keep a o (s.keep a o h n) fun q=>(s.fn a q).elim n fun z=>by rw [h] at z; cases z
 zm:=fun a h=>t.zm a (s.zm a h)
 zn:=fun a h=>by
  rcases t.zn a h with q | q | q
  ·exact s.zn a q
  ·exact .inr (s.fn a q)
  ·exact .inr (.inr (by
    cases e:H a with
    | none=>rfl
    | some o=>exact absurd q (s.al a (by rw [e]; simp))))
 fn:=fun a h=>by
  rcases t.fn a h with q | q
  ·exact s.fn a q
  ·exact .inr (by
    cases e:H a with
    | none=>rfl
    | some o=>exact absurd q (s.al a (by rw [e]; simp)))
 al:=fun a h=>t.al a (s.al a h)
 za:=fun z=>t.za (s.za z)
theorem Step.frame (R:Fp)(s:Step Z H F Z' H' F'):Step Z H (fun a=>F a\/R a) Z' H' (fun a=>F' a\/R a) where
 keep:=fun a o h n=>s.keep a o h fun q=>n (.inl q)
 zm:=s.zm
 zn:=fun a h=>(s.zn a h).imp id fun q=>q.imp .inl id
 fn:=fun a h=>h.elim (fun q=>(s.fn a q).imp .inl id) fun q=>.inl (.inr q)
 al:=s.al
 za:=s.za
theorem Step.mono (s:Step Z H F Z' H' F')(h1:∀ a,F a->F1 a)(h2:∀ a,F2 a->F' a):Step Z H F1 Z' H' F2 where
 keep:=fun a o h n=>s.keep a o h fun q=>n (h1 a q)
 zm:=s.zm
 zn:=fun a h=>(s.zn a h).imp id fun q=>q.imp (h1 a) id
 fn:=fun a h=>(s.fn a (h2 a h)).imp (h1 a) id
 al:=s.al
 za:=s.za
theorem Own.stay (o:Own Z H F)(s:Step Z H F Z' H' F'):Stay Z H H':=by
 refine ⟨fun a u hz h=>s.keep a u h fun q=>(o a q).1 hz,fun a xs h=>?_,fun a u v h=>s.keep a _ h fun q=>?_⟩
 ·rcases h with h | ⟨u,h⟩
  ·refine .inl (s.keep a _ h fun q=>?_)
   obtain ⟨_,ys,e⟩:=o a q
   rw [h] at e; cases e
  ·refine .inr ⟨u,s.keep a _ h fun q=>?_⟩
   obtain ⟨_,ys,e⟩:=o a q
   rw [h] at e; cases e
 ·obtain ⟨_,ys,e⟩:=o a q
  rw [h] at e; cases e
theorem Rep.frame {m:Md}{t:T}{v:V}(o:Own Z H F)(s:Step Z H F Z' H' F')(d:∀ a,G a->¬ F a)(h:Rep K Z H m t v G):Rep K Z' H' m t v G:=h.keep (o.stay s) s.zm fun a u ha e=>s.keep a u e (d a ha)
theorem RepW.frame {ws:List W}{xs:List V}(o:Own Z H F)(s:Step Z H F Z' H' F')(d:∀ a,G a->¬ F a)(h:RepW K Z H ws xs G):RepW K Z' H' ws xs G:=h.keep (o.stay s) s.zm fun a u ha e=>s.keep a u e (d a ha)
theorem Own.frame (o:Own Z H G)(s:Step Z H F Z' H' F')(d:∀ a,G a->¬ F a):Own Z' H' G/\∀ a,G a->¬ F' a:=by
 refine ⟨fun a ha=>?_,fun a ha q=>?_⟩
 ·obtain ⟨nz,xs,e⟩:=o a ha
  refine ⟨fun q=>?_,xs,s.keep a _ e (d a ha)⟩
  rcases s.zn a q with z | z | z
  ·exact nz z
  ·exact d a ha z
  ·rw [e] at z; cases z
 ·obtain ⟨nz,xs,e⟩:=o a ha
  rcases s.fn a q with z | z
  ·exact d a ha z
  ·rw [e] at z; cases z
end
noncomputable abbrev Fps:=Nat->Fp
noncomputable def tot (Fs:Fps):Fp:=fun a=>∃ i,Fs i a
structure Gd (Z:Fp)(H:Hp)(Fs:Fps):Prop where
 own:Own Z H (tot Fs)
 dis:∀ i j a,Fs i a->Fs j a->i=j
 zal:∀ a,Z a->H a≠none
structure Cf where
 sl:Nat->Option Nat
 pv:Nat->Option V
noncomputable def EL (K:a0a)(sl:Cf)(Z:Fp)(H:Hp)(η:Env)(σ:L2.St)(Fs:Fps):Prop :=
 ∀ i m t,rd η i=some (m,t)->∃ v,Rep K Z H m t v (Fs i)/\(∀ j,sl.sl i=some j->σ[j]?=some (some v))/\∀ u,sl.pv i=some u->v=u
structure At (K:a0a)(sl:Cf)(σ:L2.St)(Z:Fp)(H:Hp)(Fs:Fps)(η:Env)(G:Fp):Prop where
 gd:Gd Z H Fs
 env:EL K sl Z H η σ Fs
 own:Own Z H G
 dis:∀ a,G a->¬ tot Fs a
 lk:∀ i u j,sl.pv i=some u->sl.sl i=some j->σ[j]?=some (some u)
 ln:∀ i j,sl.sl i=some j->j < σ.length
section
variable {K:a0a}{sl:Cf}{σ:L2.St}{Z Z':Fp}{H H':Hp}{Fs Fs':Fps}{η η':Env}{G G' R:Fp}
theorem At.frame (a:At K sl σ Z H Fs η R)(b:At K sl σ Z' H' Fs' η' G)(s:Step Z H (tot Fs) Z' H' (fun c=>tot Fs' c\/G c)) :
  At K sl σ Z' H' Fs' η' (fun c=>R c\/G c)/\Step Z H (fun c=>tot Fs c\/R c) Z' H' (fun c=>tot Fs' c\/(R c\/G c))/\∀ c,R c->¬ G c:=by
 have o:=a.own.frame s a.dis
 refine ⟨⟨b.gd,b.env,fun c hc=>hc.elim (o.1 c) (b.own c),fun c hc=>hc.elim (fun z q=>o.2 c z (.inl q)) (b.dis c),b.lk,b.ln⟩,(s.frame R).mono (fun _ z=>z) fun c hc=>?_,fun c z q=>o.2 c z (.inr q)⟩
 rcases hc with z | z | z
 ·exact .inl (.inl z)
 ·exact .inr z
 ·exact .inl (.inr z)
end
end MR
namespace MR
open L2 L3 M
open PySem (Addr Str sizeLine)
section
variable {K:a0a}{sl:Cf}{sf:Nat->Option Nat}{C:Call}{σ:L2.St}{Z Z' Z1:Fp}{H H' H1:Hp}{Fs Fs' Fs1:Fps}{η η' η1:Env}{G G' R F:Fp}
theorem At.mono (a:At K sl σ Z H Fs η G)(h:∀ c,G' c->G c):At K sl σ Z H Fs η G':=⟨a.gd,a.env,fun c hc=>a.own c (h c hc),fun c hc=>a.dis c (h c hc),a.lk,a.ln⟩
theorem At.bare (a:At K sl σ Z H Fs η G):At K sl σ Z H Fs η no:=a.mono fun _ z=>z.elim
noncomputable def wE (K:a0a)(sl:Nat->Option Nat)(C:Call)(e:E):TE:=fun σ H Q=>∃ pv Z Fs η w η',At K ⟨sl,pv⟩ σ Z H Fs η no/\evE C e η=.ok (w,η') /\
 ∀ v Z' H' Fs' G,At K ⟨sl,pv⟩ σ Z' H' Fs' η' G->Rep K Z' H' w.1 w.2 v G->Step Z H (tot Fs) Z' H' (fun a=>tot Fs' a\/G a)->Q v H'
noncomputable def wL (K:a0a)(sl:Nat->Option Nat)(C:Call)(es:List E):TA:=fun σ H Q=>∃ pv Z Fs η ws η',At K ⟨sl,pv⟩ σ Z H Fs η no/\evL C es η=.ok (ws,η') /\
 ∀ vs Z' H' Fs' G,At K ⟨sl,pv⟩ σ Z' H' Fs' η' G->RepW K Z' H' ws vs G->Step Z H (tot Fs) Z' H' (fun a=>tot Fs' a\/G a)->Q vs H'
theorem pW {e:E}{w:W}{Q:VK}(A:At K sl σ Z H Fs η R)(ev:evE C e η=.ok (w,η'))
  (k:∀ v Z' H' Fs' G,At K sl σ Z' H' Fs' η' (fun c=>R c\/G c)->Rep K Z' H' w.1 w.2 v G->(∀ c,R c->¬ G c)->Step Z H (tot Fs) Z' H' (fun a=>tot Fs' a\/G a) ->
   Step Z H (fun c=>tot Fs c\/R c) Z' H' (fun c=>tot Fs' c\/(R c\/G c))->Q v H'):wE K sl.sl C e σ H Q :=
 ⟨sl.pv,Z,Fs,η,w,η',A.bare,ev,fun v Z' H' Fs' G B r s=>by
  obtain ⟨h1,h2,h3⟩:=A.frame B s
  exact k v Z' H' Fs' G h1 r h3 s h2⟩
theorem Er {es:List E}{ws:List W}{Q:List V->Hp->Prop}(A:At K sl σ Z H Fs η R)(ev:evL C es η=.ok (ws,η'))
  (k:∀ vs Z' H' Fs' G,At K sl σ Z' H' Fs' η' (fun c=>R c\/G c)->RepW K Z' H' ws vs G->(∀ c,R c->¬ G c)->Step Z H (tot Fs) Z' H' (fun a=>tot Fs' a\/G a) ->
   Step Z H (fun c=>tot Fs c\/R c) Z' H' (fun c=>tot Fs' c\/(R c\/G c))->Q vs H'):wL K sl.sl C es σ H Q :=
 ⟨sl.pv,Z,Fs,η,ws,η',A.bare,ev,fun v Z' H' Fs' G B r s=>by
  obtain ⟨h1,h2,h3⟩:=A.frame B s
  exact k v Z' H' Fs' G h1 r h3 s h2⟩
theorem ab {α β:Type}{r:Res α}{f:α->Res β}{b:β}(h:r.bind f=.ok b):∃ a,r=.ok a/\f a=.ok b:=by
 cases r with
 | ok a=>exact ⟨a,rfl,h⟩
 | ex c x=>cases h
 | no=>cases h
theorem aF {α:Type}{η:Env}{o:Option α}{b:α×Env}(h:ret η o=.ok b):∃ a,o=some a/\b=(a,η):=by
 cases o with
 | none=>cases h
 | some a=>exact ⟨a,rfl,by cases h; rfl⟩
theorem cx {α:Type}{o:Option α}{b:α}(h:ofO o=.ok b):o=some b:=by
 cases o with
 | none=>cases h
 | some a=>cases h; rfl
theorem aB {e:E}{es:List E}{ws:List W}(h:evL C (e::es) η=.ok (ws,η')):∃ w η1 us,evE C e η=.ok (w,η1)/\evL C es η1=.ok (us,η')/\ws=w::us:=by
 obtain ⟨⟨w,η1⟩,h1,h2⟩:=ab (show (evE C e η).bind (bg (evL C es))=_ from h)
 obtain ⟨⟨us,η2⟩,h3,h4⟩:=ab (show (evL C es η1).bind (kCons w)=_ from h2)
 cases h4
 exact ⟨w,η1,us,h1,h3,rfl⟩
theorem dt {e:E}{es:List E}{ws:List W}(he:∀ i,e≠.io i)(h:evA C (e::es) η=.ok (ws,η')):∃ w η1 us,evE C e η=.ok (w,η1)/\evA C es η1=.ok (us,η')/\ws=w::us:=by
 rw [evA_eq he] at h
 obtain ⟨⟨w,η1⟩,h1,h2⟩:=ab h
 obtain ⟨⟨us,η2⟩,h3,h4⟩:=ab (show (evA C es η1).bind (kCons w)=_ from h2)
 cases h4
 exact ⟨w,η1,us,h1,h3,rfl⟩
theorem eJ {i:Nat}{es:List E}{ws:List W}(h:evA C (.io i::es) η=.ok (ws,η')):∃ us η1 w,evA C es η=.ok (us,η1)/\rd η1 i=some w/\ws=w::us/\η'=del η1 i:=by
 obtain ⟨⟨us,η1⟩,h1,h2⟩:=ab (show (evA C es η).bind (kIo i)=_ from h)
 obtain ⟨w,h3,h4⟩:=ab (show (ofO (rd η1 i)).bind (fun w=>.ok (w::us,del η1 i))=_ from h2)
 cases h4
 exact ⟨us,η1,w,h1,cx h3,rfl,rfl⟩
theorem xy (e:E):(∃ i,e=.io i)\/∀ i,e≠.io i:=by
 cases e with
 | io i=>exact .inl ⟨i,rfl⟩
 | _=>exact .inr fun _ z=>by cases z
theorem gm:∀ {es:List E} {η η':Env} {ws:List W},evA C es η=.ok (ws,η')->ws.length=es.length
 | [],_,_,_,h=>by cases h; rfl
 | e::es,_,_,_,h=>by
  rcases xy e with ⟨i,rfl⟩ | he
  ·obtain ⟨us,η1,w,h1,_,rfl,_⟩:=eJ h
   rw [a0f,a0f,gm h1]
  ·obtain ⟨w,η1,us,_,h2,rfl⟩:=dt he h
   rw [a0f,a0f,gm h2]
theorem uX {e:E}{es:List E}(σ:L2.St)(H:Hp)(Q:List V->Hp->Prop)(h:wL K sf C (e::es) σ H Q):nX (wE K sf C e) (wL K sf C es) σ H Q:=by
 obtain ⟨pv,Z,Fs,η,ws,η',A,ev,k⟩:=h
 obtain ⟨w,η1,us,h1,h2,rfl⟩:=aB ev
 refine pW A h1 fun x Z1 H1 Fs1 G1 A1 r1 _ s1 _=>?_
 have A1':=A1.mono (G':=G1) fun _ z=>.inr z
 refine Er A1' h2 fun xs Z2 H2 Fs2 G2 A2 r2 d2 s2 t2=>?_
 refine k (x::xs) Z2 H2 Fs2 _ A2 ⟨x,xs,G1,G2,rfl,fun _ z=>.inl z,fun _ z=>.inr z,d2,r1.frame A1.gd.own s2 A1'.dis,r2⟩ ?_
 exact s1.trans t2
theorem zR (σ:L2.St)(H:Hp)(Q:List V->Hp->Prop)(h:wL K sf C [] σ H Q):By σ H Q:=by
 obtain ⟨pv,Z,Fs,η,ws,η',A,ev,k⟩:=h
 cases ev
 exact k [] Z H Fs no A rfl ((Step.refl _ _ _).mono (fun _ z=>z) fun a ha=>ha.elim id fun z=>z.elim)
noncomputable def Out (K:a0a)(Z:Fp)(H:Hp)(G:Fp)(w:W)(Q:VK):Prop:=∀ v Z' H' G',Rep K Z' H' w.1 w.2 v G'->Own Z' H' G'->Step Z H G Z' H' G'->Q v H'
theorem At.op (A:At K sl σ Z H Fs η G)(o:Own Z' H' G')(s:Step Z H G Z' H' G'):At K sl σ Z' H' Fs η G'/\Step Z H (fun c=>tot Fs c\/G c) Z' H' (fun c=>tot Fs c\/G' c):=by
 have d:∀ a,tot Fs a->¬ G a:=fun a h q=>A.dis a q h
 have f:=A.gd.own.frame s d
 refine ⟨⟨⟨f.1,A.gd.dis,s.za A.gd.zal⟩,fun i m t e=>?_,o,fun a ha q=>f.2 a q ha,A.lk,A.ln⟩,?_⟩
 ·obtain ⟨v,r,hv⟩:=A.env i m t e
  exact ⟨v,r.frame A.own s fun a ha=>d a ⟨i,ha⟩,hv⟩
 ·refine (s.frame (tot Fs)).mono (fun _ z=>z.symm) fun _ z=>z.symm
theorem cY {w:W}{Q:VK}(A:At K sl σ Z1 H1 Fs1 η1 G)(s:Step Z H F Z1 H1 (fun a=>tot Fs1 a\/G a))
  (k:∀ v Z' H' Fs' G,At K sl σ Z' H' Fs' η1 G->Rep K Z' H' w.1 w.2 v G->Step Z H F Z' H' (fun a=>tot Fs' a\/G a)->Q v H'):Out K Z1 H1 G w Q:=fun v Z' H' G' r o t=>by
 obtain ⟨B,u⟩:=A.op o t
 exact k v Z' H' Fs1 G' B r (s.trans u)
noncomputable def Loc (K:a0a)(n:Nat)(o:Op)(h:Bool)(r:List V->Hp->VK->Prop):Prop:=∀ (ws:List W) (w:W) (xs:List V) (Z:Fp) (H:Hp) (G:Fp) (Q:VK),ws.length=n->oSem o h ws=some w->RepW K Z H ws xs G->Own Z H G->(∀ a,Z a->H a≠none)->Out K Z H G w Q->r xs H Q
theorem eC {o:Op}{h:Bool}{es:List E}{w:W}(e:evE C (.op o h es) η=.ok (w,η')):∃ ws,evL C es η=.ok (ws,η')/\oSem o h ws=some w:=by
 obtain ⟨⟨ws,η1⟩,h1,h2⟩:=ab (show (evL C es η).bind (kOp o h)=_ from e)
 obtain ⟨a,h3,h4⟩:=aF (show ret η1 (oSem o h ws)=_ from h2)
 cases h4
 exact ⟨ws,h1,h3⟩
theorem gw:∀ {es:List E} {η η':Env} {ws:List W},evL C es η=.ok (ws,η')->ws.length=es.length
 | [],_,_,_,h=>by cases h; rfl
 | e::es,_,_,_,h=>by
  obtain ⟨w,η1,us,_,h2,rfl⟩:=aB h
  rw [a0f,a0f,gw h2]
theorem fV {n:Nat}{o:Op}{h:Bool}{es:List E}{r:List V->Hp->VK->Prop}(l:Loc K n o h r)(hn:es.length=n)(σ:L2.St)(H:Hp)(Q:VK)(hw:wE K sf C (.op o h es) σ H Q):tCB r (wL K sf C es) σ H Q:=by
 obtain ⟨pv,Z,Fs,η,w,η',A,ev,k⟩:=hw
 obtain ⟨ws,h1,h2⟩:=eC ev
 exact ⟨pv,Z,Fs,η,ws,η',A,h1,fun vs Z' H' Fs' G B r s=>l ws w vs Z' H' G Q ((gw h1).trans hn) h2 r B.own B.gd.zal (cY B s k)⟩
theorem aS {o:Op}{h:Bool}{a b:E}{r:R2}(l:Loc K 2 o h fun xs H Q=>∀ x y,xs=[x,y]->r x y H Q)(σ:L2.St)(H:Hp)(Q:VK)(hw:wE K sf C (.op o h [a,b]) σ H Q):tOp r (wE K sf C a) (wE K sf C b) σ H Q:=by
 obtain ⟨pv,Z,Fs,η,w,η',A,ev,k⟩:=hw
 obtain ⟨ws,h1,h2⟩:=eC ev
 obtain ⟨wa,η1,us,e1,e2,rfl⟩:=aB h1
 obtain ⟨wb,η2,us,e3,e4,rfl⟩:=aB e2
 cases e4
 refine pW A e1 fun x Z1 H1 Fs1 G1 A1 r1 _ s1 _=>?_
 have A1':=A1.mono (G':=G1) fun _ z=>.inr z
 refine pW A1' e3 fun y Z2 H2 Fs2 G2 A2 r2 d2 s2 t2=>?_
 exact l [wa,wb] w [x,y] Z2 H2 _ Q rfl h2 ⟨x,[y],G1,G2,rfl,fun _ z=>.inl z,fun _ z=>.inr z,d2,r1.frame A1.gd.own s2 A1'.dis,RepW.one r2⟩ A2.own A2.gd.zal (cY A2 (s1.trans t2) k) x y rfl
theorem ck:Own Z H no:=fun _ z=>z.elim
theorem Step.drop:Step Z H G Z H no:=(Step.refl Z H G).mono (fun _ z=>z) fun _ z=>z.elim
section
variable {Q:VK}{m:Md}{ts:List T}{xs:List V}
theorem a9 {i:Int}(k:Out K Z H G (m,.int i) Q):Q (.int i) H:=k _ Z H no rfl ck .drop
theorem bH {b:Bool}(k:Out K Z H G (m,.bl b) Q):Q (.bl b) H:=k _ Z H no rfl ck .drop
theorem nt {x:Str}(k:Out K Z H G (m,.str x) Q)(h:sOk x=true):Q (.str x) H:=k _ Z H no ⟨rfl,h⟩ ck .drop
theorem ik {t:T}{v:V}(o:Own Z H G)(k:Out K Z H G (m,t) Q)(r:Rep K Z H m t v G):Q v H:=k v Z H G r o (.refl _ _ _)
theorem kP {p:Addr}{o:HO}(hp:H p=none):Stay Z H (upd H p o):=by
 have ne:∀ {a u},H a=some u->a≠p:=fun {a u} e z=>by subst z; rw [hp] at e; cases e
 refine ⟨fun a u _ e=>?_,fun a xs e=>?_,fun a u v e=>?_⟩
 ·rw [ai (ne e)]; exact e
 ·rcases e with e | ⟨u,e⟩
  ·exact .inl (by rw [ai (ne e)]; exact e)
  ·exact .inr ⟨u,by rw [ai (ne e)]; exact e⟩
 ·rw [ai (ne e)]; exact e
theorem kY {p:Addr}{o:HO}(hp:H p=none)(ow:Own Z H G)(hg:∀ a,G' a->G a\/a=p)(z:Fp)(hz:∀ a,Z a->z a)(hz':∀ a,z a->Z a\/G a):Step Z H G z (upd H p o) G':=by
 have ne:∀ {a u},H a=some u->a≠p:=fun {a u} e q=>by subst q; rw [hp] at e; cases e
 have al:∀ a,H a≠none->upd H p o a≠none:=fun a h=>by
  by_cases e:a=p
  ·rw [e,ak]; simp
  ·rw [ai e]; exact h
 refine ⟨fun a u e _=>by rw [ai (ne e)]; exact e,hz,fun a h=>(hz' a h).imp id .inl,fun a h=>(hg a h).imp id fun e=>by rw [e]; exact hp,al,fun q a h=>al a ?_⟩
 rcases hz' a h with c | c
 ·exact q a c
 ·obtain ⟨_,xs,e⟩:=ow a c
  rw [e]; simp
theorem cp {p:Addr}(ow:Own Z H G)(za:∀ a,Z a->H a≠none)(hg:∀ a,G' a->G a)(hl:xs.length<=LIM)(r:RepL K (b9 Z G G') H m.kid ts xs G')(hm:m≠.s)(k:Out K Z H G (m,.lst ts) Q)(hp:H p=none):Q (.ref p) (upd H p (.lst xs)):=by
 have ne:∀ {a u},H a=some u->a≠p:=fun {a u} e q=>by subst q; rw [hp] at e; cases e
 have np:∀ a,G' a->a≠p:=fun a h=>by obtain ⟨_,ys,e⟩:=ow a (hg a h); exact ne e
 refine k _ (b9 Z G G') _ (fun a=>G' a\/a=p) ⟨p,xs,rfl,hl,(LstR.own hm).mpr ⟨.inr rfl,ak⟩,?_⟩ ?_ (kY hp ow (fun a h=>h.imp (hg a) id) _ (fun a h=>.inl h) fun a h=>h.imp id a2M)
 ·refine (r.keep (kP hp) (fun _ z=>z) fun a u _ e=>by rw [ai (ne e)]; exact e).mono fun a h=>⟨.inl h,np a h⟩
 ·rintro a (h | h)
  ·obtain ⟨nz,ys,e⟩:=ow a (hg a h)
   exact ⟨fun z=>z.elim nz fun q=>q.2 h,ys,by rw [ai (ne e)]; exact e⟩
  ·subst h
   refine ⟨fun z=>z.elim (fun q=>za a q hp) fun q=>?_,xs,ak⟩
   obtain ⟨_,ys,e⟩:=ow a q.1
   rw [hp] at e; cases e
theorem jw {p:Addr}(ow:Own Z H G)(hg:∀ a,G' a->G a)(hl:xs.length<=LIM)(r:RepL K (b9 Z G G') H m.kid ts xs G')(k:Out K Z H G (m,.tup ts) Q)(hp:H p=none):Q (.ref p) (upd H p (.tup xs)):=by
 have ne:∀ {a u},H a=some u->a≠p:=fun {a u} e q=>by subst q; rw [hp] at e; cases e
 refine k _ (b9 Z G G') _ G' ⟨p,xs,rfl,.inl (.inl ak),hl,?_⟩ ?_ (kY hp ow (fun a h=>.inl (hg a h)) _ (fun a h=>.inl h) fun a h=>h.imp id a2M)
 ·exact r.keep (kP hp) (fun _ z=>z) fun a u _ e=>by rw [ai (ne e)]; exact e
 ·intro a h
  obtain ⟨nz,ys,e⟩:=ow a (hg a h)
  exact ⟨fun z=>z.elim nz fun q=>q.2 h,ys,by rw [ai (ne e)]; exact e⟩
theorem lE {v:V}{H':Hp}(ow:Own Z H G)(hg:∀ a,G' a->G a)(hl:xs.length<=LIM)(r:RepL K (b9 Z G G') H m.kid ts xs G')(k:Out K Z H G (m,.tup ts) Q)(same:∀ b o,H b=some o->H' b=some o)(hv:∃ c,v=.ref c/\SqT K H' c xs):Q v H':=by
 obtain ⟨c,rfl,hs⟩:=hv
 have al:∀ a,H a≠none->H' a≠none:=fun a h=>by
  cases e:H a with
  | none=>exact absurd e h
  | some o=>rw [same a o e]; simp
 refine k _ (b9 Z G G') _ G' ⟨c,xs,rfl,hs,hl,?_⟩ (fun a h=>?_) ⟨fun a o e _=>same a o e,fun a h=>.inl h,fun a h=>h.imp id fun q=>.inl q.1,fun a h=>.inl (hg a h),al,fun q a h=>al a ?_⟩
 ·refine r.keep ⟨fun a o _ e=>same a o e,fun a ys e=>?_,fun a o u e=>same a _ e⟩ (fun _ z=>z) fun a u _ e=>same a u e
  rcases e with e | ⟨u,e⟩
  ·exact .inl (same a _ e)
  ·exact .inr ⟨u,same a _ e⟩
 ·obtain ⟨nz,ys,e⟩:=ow a (hg a h)
  exact ⟨fun z=>z.elim nz fun q=>q.2 h,ys,same a _ e⟩
 ·rcases h with h | h
  ·exact q a h
  ·obtain ⟨_,ys,e⟩:=ow a h.1
   rw [e]; simp
theorem dU {p:Addr}{h:Bool}{w:W}(ow:Own Z H G)(za:∀ a,Z a->H a≠none)(hl:xs.length<=LIM)(r:∃ G',(∀ a,G' a->G a)/\RepL K (b9 Z G G') H m ts xs G')(hn:newL h m ts=some w)(k:Out K Z H G w Q)(hp:H p=none):Q (.ref p) (upd H p (.lst xs)):=by
 obtain ⟨G',hg,r⟩:=r
 unfold newL at hn
 split at hn
 ·split at hn
  ·rename_i hlv
   cases hn
   refine cp (m:=.d) (G':=no) ow za (fun _ z=>z.elim) hl ?_ (by simp) k hp
   exact r.leaves (fun _ _ _ e=>e) hlv
  ·cases hn
 ·cases hn
  exact cp (m:=m.up) ow za hg hl (by rw [cZ]; exact r) (bS m) k hp
end
end
end MR
namespace MR
open L2 L3 M
open PySem (Addr Str sizeLine)
section
variable {K:a0a}{h:Bool}
theorem fw {α β:Type}{ws:List α}{x y:β}(e:ws.length=[x,y].length):∃ a b,ws=[a,b]:=by
 match ws,e with
 | [a,b],_=>exact ⟨a,b,rfl⟩
theorem ET {α β:Type}{ws:List α}{x:β}(e:ws.length=[x].length):∃ a,ws=[a]:=by
 match ws,e with
 | [a],_=>exact ⟨a,rfl⟩
theorem cR {Z:Fp}{H:Hp}{G:Fp}{u w:W}{x y:V}(r:RepW K Z H [u,w] [x,y] G):∃ G1 G2,(∀ a,G1 a->G a)/\(∀ a,G2 a->G a)/\(∀ a,G1 a->¬ G2 a)/\Rep K Z H u.1 u.2 x G1/\Rep K Z H w.1 w.2 y G2:=by
 obtain ⟨x',r',G1,G2,e,h1,h2,d,p,y',r2,G3,G4,e2,h3,h4,d2,q,z⟩:=r
 cases e; cases e2
 exact ⟨G1,G3,h1,fun a ha=>h2 a (h3 a ha),fun a ha hb=>d a ha (h3 a hb),p,q⟩
theorem CC {Z:Fp}{H:Hp}{G:Fp}{w:W}{x:V}(r:RepW K Z H [w] [x] G):Rep K Z H w.1 w.2 x G:=by
 obtain ⟨x',r',G1,G2,e,h1,h2,d,p,z⟩:=r
 cases e
 exact p.mono h1
theorem cy {ws:List W}{xs:List V}{Z:Fp}{H:Hp}{G:Fp}{w:W}(hw:ws=[w])(r:RepW K Z H ws xs G):∃ x,xs=[x]/\Rep K Z H w.1 w.2 x G:=by
 subst hw
 obtain ⟨x,hx⟩:=ET (x:=()) (show xs.length=[()].length from r.length)
 subst hx
 exact ⟨x,rfl,CC r⟩
theorem mD {n:Nat}(h:n<=LIM):n < sizeLine:=a2w h (by decide)
theorem bR {n:Nat}(h:n<=LIM):n<=sizeLine:=a20 (mD h)
theorem cW {n:Nat}(h:fits n=true):n<=LIM:=of_decide_eq_true h
theorem qi {o:Op}{C:Int->Int->Prop}{g:Int->Int->T}(inv:∀ {u v w:W},oSem o h [u,v]=some w->∃ m n i j,u=(m,.int i)/\v=(n,.int j)/\C i j/\w=(.d,g i j))(gv:Int->Int->V)(hg:∀ {Z:Fp} {H:Hp} {G:Fp} {Q:VK} {i j:Int},Out K Z H G (.d,g i j) Q->Q (gv i j) H) :
  Loc K 2 o h fun xs H Q=>∀ x y,xs=[x,y]->rI C gv x y H Q:=by
 intro ws w xs Z H G Q hn e r ow za k x y hx
 subst hx
 obtain ⟨u,v,rfl⟩:=fw r.length.symm
 obtain ⟨m,n,i,j,rfl,rfl,c,rfl⟩:=inv e
 obtain ⟨G1,G2,_,_,_,r1,r2⟩:=cR r
 exact ⟨i,j,r1,r2,c,hg k⟩
theorem ic {o:Op}{g:Int->Int->T}(inv:∀ {u v w:W},oSem o h [u,v]=some w->∃ m n i j,u=(m,.int i)/\v=(n,.int j)/\w=(.d,g i j))(gv:Int->Int->V)(hg:∀ {Z:Fp} {H:Hp} {G:Fp} {Q:VK} {i j:Int},Out K Z H G (.d,g i j) Q->Q (gv i j) H) :
  Loc K 2 o h fun xs H Q=>∀ x y,xs=[x,y]->rI0 gv x y H Q:=by
 intro ws w xs Z H G Q hn e r ow za k x y hx
 subst hx
 obtain ⟨u,v,rfl⟩:=fw r.length.symm
 obtain ⟨m,n,i,j,rfl,rfl,rfl⟩:=inv e
 obtain ⟨G1,G2,_,_,_,r1,r2⟩:=cR r
 exact ⟨i,j,r1,r2,hg k⟩
theorem vc {u v w:W}(e:oSem .sub h [u,v]=some w):∃ m n i j,u=(m,.int i)/\v=(n,.int j)/\w=(.d,.int (i-j)):=by
 obtain ⟨m,a⟩:=u; obtain ⟨n,b⟩:=v
 cases a<;>first | (cases e; done) | (cases b<;>first | (cases e; exact ⟨_,_,_,_,rfl,rfl,rfl⟩) | cases e)
theorem tQ {u v w:W}(e:oSem .lt h [u,v]=some w):∃ m n i j,u=(m,.int i)/\v=(n,.int j)/\w=(.d,.bl (decide (i < j))):=by
 obtain ⟨m,a⟩:=u; obtain ⟨n,b⟩:=v
 cases a<;>first | (cases e; done) | (cases b<;>first | (cases e; exact ⟨_,_,_,_,rfl,rfl,rfl⟩) | cases e)
theorem rj {u v w:W}(e:oSem .le h [u,v]=some w):∃ m n i j,u=(m,.int i)/\v=(n,.int j)/\w=(.d,.bl (decide (i<=j))):=by
 obtain ⟨m,a⟩:=u; obtain ⟨n,b⟩:=v
 cases a<;>first | (cases e; done) | (cases b<;>first | (cases e; exact ⟨_,_,_,_,rfl,rfl,rfl⟩) | cases e)
theorem qL {u v w:W}(e:oSem .gt h [u,v]=some w):∃ m n i j,u=(m,.int i)/\v=(n,.int j)/\w=(.d,.bl (decide (j < i))):=by
 obtain ⟨m,a⟩:=u; obtain ⟨n,b⟩:=v
 cases a<;>first | (cases e; done) | (cases b<;>first | (cases e; exact ⟨_,_,_,_,rfl,rfl,rfl⟩) | cases e)
theorem qI {u v w:W}(e:oSem .ge h [u,v]=some w):∃ m n i j,u=(m,.int i)/\v=(n,.int j)/\w=(.d,.bl (decide (j<=i))):=by
 obtain ⟨m,a⟩:=u; obtain ⟨n,b⟩:=v
 cases a<;>first | (cases e; done) | (cases b<;>first | (cases e; exact ⟨_,_,_,_,rfl,rfl,rfl⟩) | cases e)
theorem sk {u v w:W}(e:oSem .fdiv h [u,v]=some w):∃ m n i j,u=(m,.int i)/\v=(n,.int j)/\Aq i j/\w=(.d,.int (i / j)):=by
 obtain ⟨m,a⟩:=u; obtain ⟨n,b⟩:=v
 cases a<;>first | (cases e; done) | (cases b<;>try (cases e; done))
 rename_i i j
 rw [qe] at e
 split at e
 ·rename_i hc
  rw [a0s,decide_eq_true_eq,decide_eq_true_eq] at hc
  cases e
  exact ⟨_,_,_,_,rfl,rfl,hc,rfl⟩
 ·cases e
theorem u5 {u v w:W}(e:oSem .mod h [u,v]=some w):∃ m n i j,u=(m,.int i)/\v=(n,.int j)/\(0 < j)/\w=(.d,.int (i % j)):=by
 obtain ⟨m,a⟩:=u; obtain ⟨n,b⟩:=v
 cases a<;>first | (cases e; done) | (cases b<;>try (cases e; done))
 rename_i i j
 rw [yf] at e
 split at e
 ·rename_i hc
  rw [decide_eq_true_eq] at hc
  cases e
  exact ⟨_,_,_,_,rfl,rfl,hc,rfl⟩
 ·cases e
theorem vb {u v w:W}(e:oSem .pow h [u,v]=some w):∃ m n i j,u=(m,.int i)/\v=(n,.int j)/\AR i j/\w=(.d,.int (i ^ j.toNat)):=by
 obtain ⟨m,a⟩:=u; obtain ⟨n,b⟩:=v
 cases a<;>first | (cases e; done) | (cases b<;>try (cases e; done))
 rename_i i j
 rw [CO] at e
 split at e
 ·rename_i hc
  rw [a0s,a0s,decide_eq_true_eq,decide_eq_true_eq,decide_eq_true_eq] at hc
  cases e
  exact ⟨_,_,_,_,rfl,rfl,⟨hc.1.1,hc.1.2,hc.2⟩,rfl⟩
 ·cases e
theorem xk:Loc K 2 .sub h fun xs H Q=>∀ x y,xs=[x,y]->rI0 (fun i j=>.int (i-j)) x y H Q:=ic vc _ fun k=>a9 k
theorem sj:Loc K 2 .lt h fun xs H Q=>∀ x y,xs=[x,y]->rI0 (fun i j=>.bl (decide (i < j))) x y H Q:=ic tQ _ fun k=>bH k
theorem yN:Loc K 2 .le h fun xs H Q=>∀ x y,xs=[x,y]->rI0 (fun i j=>.bl (decide (i<=j))) x y H Q:=ic rj _ fun k=>bH k
theorem yB:Loc K 2 .gt h fun xs H Q=>∀ x y,xs=[x,y]->rI0 (fun i j=>.bl (decide (j < i))) x y H Q:=ic qL _ fun k=>bH k
theorem Bb:Loc K 2 .ge h fun xs H Q=>∀ x y,xs=[x,y]->rI0 (fun i j=>.bl (decide (j<=i))) x y H Q:=ic qI _ fun k=>bH k
theorem tX:Loc K 2 .fdiv h fun xs H Q=>∀ x y,xs=[x,y]->rI Aq (fun i j=>.int (i / j)) x y H Q:=qi sk _ fun k=>a9 k
theorem vS:Loc K 2 .mod h fun xs H Q=>∀ x y,xs=[x,y]->rI (fun _ j=>0 < j) (fun i j=>.int (i % j)) x y H Q:=qi u5 _ fun k=>a9 k
theorem v9:Loc K 2 .pow h fun xs H Q=>∀ x y,xs=[x,y]->rI AR (fun i j=>.int (i ^ j.toNat)) x y H Q:=qi vb _ fun k=>a9 k
theorem a7 {Z:Fp}{H:Hp}{G:Fp}{m:Md}{ts:List T}{v:V}(r:Rep K Z H m (.lst ts) v G):∃ a xs,v=.ref a/\H a=some (.lst xs)/\xs.length<=LIM/\RepL K Z H m.kid ts xs G:=by
 obtain ⟨a,xs,e,l,q,p⟩:=r
 exact ⟨a,xs,e,by cases m<;>exact q.2,l,p.mono fun _ z=>z.1⟩
theorem dD {Z:Fp}{H:Hp}{G:Fp}{m:Md}{ts:List T}{v:V}(r:Rep K Z H m (.tup ts) v G):∃ a xs,v=.ref a/\SqT K H a xs/\xs.length<=LIM/\RepL K Z H m.kid ts xs G:=r
theorem ir {Z:Fp}{H:Hp}{G G1 G2:Fp}{m n:Md}{ts us:List T}{xs ys:List V}(w1:∀ a,G1 a->G a)(w2:∀ a,G2 a->G a)(d:∀ a,G1 a->¬ G2 a)(r1:RepL K Z H m ts xs G1)(r2:RepL K Z H n us ys G2) :
  ∃ G',(∀ a,G' a->G a)/\RepL K (b9 Z G G') H (m.meet n) (ts++us) (xs++ys) G':=by
 obtain ⟨A,a1,a2⟩:=RepL.weak (dG m n).1 r1
 obtain ⟨B,b1,b2⟩:=RepL.weak (dG m n).2 r2
 refine ⟨fun b=>A b\/B b,fun b hb=>hb.elim (fun z=>w1 b (a1 b z)) fun z=>w2 b (b1 b z),RepL.append (fun _ z=>.inl z) (fun _ z=>.inr z) (fun b za zb=>d b (a1 b za) (b1 b zb)) (a2.zmono fun b hb=>?_) (b2.zmono fun b hb=>?_)⟩
 ·exact hb.imp id fun z=>⟨w1 b z.1,fun q=>q.elim z.2 fun w=>d b z.1 (b1 b w)⟩
 ·exact hb.imp id fun z=>⟨w2 b z.1,fun q=>q.elim (fun w=>d b (a1 b w) z.1) z.2⟩
theorem xf {p q:Str}(h1:sOk p=true)(h2:sOk q=true)(hl:p.cps.size+q.cps.size<=LIM):sOk (p++q)=true:=by
 unfold sOk at *
 rw [a0s] at *
 refine ⟨?_,decide_eq_true ?_⟩
 ·show Array.all (p.cps++q.cps) _=true
  rw [Array.all_append,a0s]
  exact ⟨h1.1,h2.1⟩
 ·show (p.cps++q.cps).size<=LIM
  rw [Array.size_append]
  exact hl
theorem wm (rT:R2)(hT:∀ {Z:Fp} {H:Hp} {G:Fp} {Q:VK} {a b:Addr} {xs ys:List V} {ts:List T},SqT K H a xs->SqT K H b ys->xs≠[]->xs.length+ys.length<=LIM->Own Z H G->(∃ G',(∀ a,G' a->G a)/\RepL K (b9 Z G G') H .s ts (xs++ys) G')->Out K Z H G (.s,.tup ts) Q->rT (.ref a) (.ref b) H Q) :
  Loc K 2 .add h fun xs H Q=>∀ x y,xs=[x,y]->rI0 (fun i j=>.int (i+j)) x y H Q\/(∃ i j,x=.str i/\y=.str j/\i.length+j.length<=sizeLine/\Q (.str (i++j)) H)\/CK x y H Q\/rT x y H Q:=by
 intro ws w xs Z H G Q hn e r ow za k x y hx
 subst hx
 obtain ⟨⟨m,a⟩,⟨n,b⟩,rfl⟩:=fw r.length.symm
 obtain ⟨G1,G2,w1,w2,d,r1,r2⟩:=cR r
 cases a<;>first | (cases e; done) | (cases b<;>try (cases e; done))
 ·cases e
  exact .inl ⟨_,_,r1,r2,a9 k⟩
 ·rename_i p q
  rw [rD] at e
  split at e
  ·rename_i hf
   cases e
   refine .inr (.inl ⟨p,q,r1.1,r2.1,bR (cW hf),nt k ?_⟩)
   exact xf r1.2 r2.2 (cW hf)
  ·cases e
 ·rename_i ts us
  rw [sA] at e
  split at e
  ·rename_i hf
   cases e
   rw [a0s] at hf
   obtain ⟨a,xs,rfl,hs,hl,p⟩:=dD r1
   obtain ⟨b,ys,rfl,hs2,hl2,p2⟩:=dD r2
   have hlen:=cW hf.1
   have e1:=p.length
   have e2:=p2.length
   refine .inr (.inr (.inr (hT hs hs2 ?_ (by omega) ow ?_ k)))
   ·rintro rfl
    cases ts with
    | nil=>simp at hf
    | cons _ _=>simp at e1
   ·refine ⟨no,fun _ z=>z.elim,RepL.append (G1:=no) (G2:=no) (fun _ z=>z) (fun _ z=>z) (fun _ z _=>z) ((RepL.sh p).zmono fun b hb=>?_) ((RepL.sh p2).zmono fun b hb=>?_)⟩
    ·exact hb.imp id fun z=>⟨w1 b z,fun q=>q⟩
    ·exact hb.imp id fun z=>⟨w2 b z,fun q=>q⟩
  ·cases e
 ·rename_i ts us
  rw [sv] at e
  split at e
  ·rename_i hf
   obtain ⟨a,xs,rfl,hs,hl,p⟩:=a7 r1
   obtain ⟨b,ys,rfl,hs2,hl2,p2⟩:=a7 r2
   have hlen:=cW hf
   have e1:=p.length
   have e2:=p2.length
   have hl3:(xs++ys).length<=LIM:=by rw [a0g]; omega
   refine .inr (.inr (.inl ⟨a,b,xs,ys,rfl,rfl,hs,hs2,bR (by omega),fun q hq=>?_⟩))
   exact dU ow za hl3 (ir w1 w2 d p p2) e k hq
  ·cases e
theorem xh:Loc K 2 .mul h fun xs H Q=>∀ x y,xs=[x,y]->rI CMul (fun i j=>.int (i * j)) x y H Q\/Co x y H Q:=by
 intro ws w xs Z H G Q hn e r ow za k x y hx
 subst hx
 obtain ⟨⟨m,a⟩,⟨n,b⟩,rfl⟩:=fw r.length.symm
 obtain ⟨G1,G2,w1,w2,d,r1,r2⟩:=cR r
 cases a<;>first | (cases e; done) | (cases b<;>try (cases e; done))
 ·rename_i i j
  rw [rE] at e
  split at e
  ·rename_i hc
   cases e
   refine .inl ⟨i,j,r1,r2,?_,a9 k⟩
   rw [a3B,decide_eq_true_eq,decide_eq_true_eq] at hc
   have h64:(2:Int) ^ 64=18446744073709551616:=by decide
   unfold CMul
   rw [h64]
   omega
  ·cases e
 ·rename_i ts j
  have e':(if decide (j.natAbs < 4611686018427387904)&&fits (ts.length * j.toNat) then newL h .s (a0e j.toNat ts).flatten else none)=some w:=e
  split at e'
  ·rename_i hc
   rw [a0s,decide_eq_true_eq] at hc
   obtain ⟨a,xs,rfl,hs,hl,p⟩:=a7 r1
   have hlen:=cW hc.2
   have e1:=p.length
   have hl3:((a0e j.toNat xs).flatten).length<=LIM:=by
    rw [a3d,a18,a2X,e1,a3p]; exact hlen
   refine .inr ⟨a,j,xs,rfl,r2,hs,by omega,by omega,bR (by rw [e1]; exact hlen),fun q hq=>?_⟩
   refine dU ow za hl3 ⟨no,fun _ z=>z.elim,?_⟩ e' k hq
   have ps:=(RepL.sh p).zmono (Z':=b9 Z G no) fun b hb=>hb.imp id fun z=>⟨w1 b z,fun q=>q⟩
   generalize j.toNat=c
   induction c with
   | zero=>exact rfl
   | succ c ih=>exact RepL.append (fun _ z=>z) (fun _ z=>z) (fun _ z _=>z) ps ih
  ·cases e'
theorem ui {Z:Fp}{H:Hp}{G:Fp}{m:Md}{ts:List T}{xs:List V}{i:Int}{t:T}(p:RepL K Z H m ts xs G)(e:M.atI ts i=some t):∃ x,L2.atI xs i=some x/\Rep K Z H m t x G:=by
 unfold M.atI at e
 have hn:M.ixN ts.length i=L2.ixN xs.length i:=by rw [p.length]; rfl
 cases e1:M.ixN ts.length i with
 | none=>rw [e1] at e; cases e
 | some j =>
  rw [e1] at e
  obtain ⟨x,hx,r⟩:=p.get (show ts[j]?=some t from e)
  refine ⟨x,?_,r⟩
  unfold L2.atI
  rw [<- hn,e1]
  exact hx
theorem wC {x:Str}{c:Nat}(h:sOk x=true)(hc:c∈x.cps.toList):sOk ⟨#[c]⟩=true:=by
 unfold sOk at *
 rw [a0s] at *
 refine ⟨?_,rfl⟩
 have h1:=h.1
 rw [a2x] at h1
 have h2:=h1 c (Array.mem_def.mpr hc)
 rw [a2x]
 intro y hy
 have:y=c:=by simpa using hy
 rw [this]; exact h2
theorem jX {x:Str}(h:sOk x=true):x.cps.size<=LIM:=by
 unfold sOk at h
 rw [a0s,decide_eq_true_eq] at h
 exact h.2
theorem Ah:Loc K 2 .ix h fun xs H Q=>∀ x y,xs=[x,y]->(∃ p xs i v,x=.ref p/\y=.int i/\(SqL K H p xs\/SqT K H p xs)/\L2.atI xs i=some v/\Q v H)\/(∃ z i c,x=.str z/\y=.int i/\z.length<=sizeLine/\L2.atI z.cps.toList i=some c/\Q (.str ⟨#[c]⟩) H):=by
 intro ws w xs Z H G Q hn e r ow za k x y hx
 subst hx
 obtain ⟨⟨m,a⟩,⟨n,b⟩,rfl⟩:=fw r.length.symm
 obtain ⟨G1,G2,w1,w2,d,r1,r2⟩:=cR r
 cases b with
 | int i =>
  cases a with
  | lst ts =>
   obtain ⟨a,xs,rfl,hs,hl,p⟩:=a7 r1
   have e':(M.atI ts i).map (fun t=>(m.kid,t))=some w:=e
   cases e1:M.atI ts i with
   | none=>rw [e1] at e'; cases e'
   | some t =>
    rw [e1] at e'; cases e'
    obtain ⟨v,hv,rv⟩:=ui p e1
    exact .inl ⟨a,xs,i,v,rfl,r2,.inl (.inl (.inl hs)),hv,ik ow k (rv.mono w1)⟩
  | tup ts =>
   obtain ⟨a,xs,rfl,hs,hl,p⟩:=dD r1
   have e':(M.atI ts i).map (fun t=>(m.kid,t))=some w:=e
   cases e1:M.atI ts i with
   | none=>rw [e1] at e'; cases e'
   | some t =>
    rw [e1] at e'; cases e'
    obtain ⟨v,hv,rv⟩:=ui p e1
    exact .inl ⟨a,xs,i,v,rfl,r2,.inr hs,hv,ik ow k (rv.mono w1)⟩
  | str z =>
   have e':(M.atI z.cps.toList i).map (fun c=>((.d,.str ⟨#[c]⟩):W))=some w:=e
   cases e1:M.atI z.cps.toList i with
   | none=>rw [e1] at e'; cases e'
   | some c =>
    rw [e1] at e'; cases e'
    refine .inr ⟨z,i,c,r1.1,r2,bR (jX r1.2),e1,nt k (wC r1.2 ?_)⟩
    unfold M.atI at e1
    cases e2:M.ixN z.cps.toList.length i with
    | none=>rw [e2] at e1; cases e1
    | some j=>rw [e2] at e1; exact a1T e1
  | scr ns =>
   obtain ⟨a,rfl,hL,hs⟩:=r1
   have e':(M.atI ns i).map (fun n=>((.d,.int n):W))=some w:=e
   cases e1:M.atI ns i with
   | none=>rw [e1] at e'; cases e'
   | some n =>
    rw [e1] at e'; cases e'
    refine .inl ⟨a,_,i,.int n,rfl,r2,.inl hs.sq,?_,a9 k⟩
    unfold M.atI at e1
    unfold L2.atI
    rw [a0b]
    cases e2:M.ixN ns.length i with
    | none=>rw [e2] at e1; cases e1
    | some j =>
     rw [e2] at e1
     rw [show L2.ixN ns.length i=some j from e2]
     show (ns.map V.int)[j]?=_
     rw [a0x,show ns[j]?=some n from e1]
     rfl
  | _=>cases e
 | _=>cases a<;>cases e
theorem xm:Loc K 1 .len h fun xs H Q=>∃ x n,xs=[x]/\(match x with
  | .str y=>y.length<=sizeLine/\n=y.length
  | .byt y=>y.size<=sizeLine/\n=y.size
  | .ref p=>(∃ xs,SqL K H p xs/\n=xs.length)\/∃ xs,SqT K H p xs/\n=xs.length
  | _=>False)/\Q (.int (n:Nat)) H:=by
 intro ws w xs Z H G Q hn e r ow za k
 match ws,hn with
 | [(m,a)],_ =>
  obtain ⟨x,rfl,r1⟩:=cy rfl r
  cases a with
  | lst ts =>
   obtain ⟨a,xs,hx,hs,hl,p⟩:=a7 r1
   cases e
   refine ⟨x,ts.length,rfl,?_,a9 k⟩
   rw [show x=.ref a from hx]
   exact .inl ⟨xs,.inl (.inl hs),p.length.symm⟩
  | tup ts =>
   obtain ⟨a,xs,hx,hs,hl,p⟩:=dD r1
   cases e
   refine ⟨x,ts.length,rfl,?_,a9 k⟩
   rw [show x=.ref a from hx]
   exact .inr ⟨xs,hs,p.length.symm⟩
  | str z =>
   cases e
   refine ⟨x,z.length,rfl,?_,a9 k⟩
   rw [show x=.str z from r1.1]
   exact ⟨bR (jX r1.2),rfl⟩
  | scr ns =>
   obtain ⟨a,hx,hL,hs⟩:=r1
   cases e
   refine ⟨x,ns.length,rfl,?_,a9 k⟩
   rw [show x=.ref a from hx]
   exact .inl ⟨_,hs.sq,by rw [a0b]⟩
  | dct ks vs=>exact (show False from r1).elim
  | _=>cases e
theorem kn {Z:Fp}{H:Hp}{G:Fp}{m:Md}:∀ ns:List Int,RepL K Z H m (ns.map T.int) (ns.map V.int) G
 | []=>rfl
 | n::ns=>⟨.int n,ns.map V.int,no,no,rfl,fun _ z=>z.elim,fun _ z=>z.elim,fun _ z=>z.elim,rfl,kn ns⟩
theorem qY:Loc K 1 .list h fun xs H Q=>∃ p ys,xs=[.ref p]/\(SqL K H p ys\/SqT K H p ys)/\∀ l,H l=none->Q (.ref l) (upd H l (.lst ys)):=by
 intro ws w xs Z H G Q hn e r ow za k
 match ws,hn with
 | [(m,a)],_ =>
  obtain ⟨x,rfl,r1⟩:=cy rfl r
  cases a with
  | lst ts =>
   obtain ⟨a,xs,hx,hs,hl,p⟩:=a7 r1
   refine ⟨a,xs,by rw [hx],.inl (.inl (.inl hs)),fun q hq=>dU ow za hl ⟨G,fun _ z=>z,p.zmono fun _ z=>.inl z⟩ e k hq⟩
  | tup ts =>
   obtain ⟨a,xs,hx,hs,hl,p⟩:=dD r1
   refine ⟨a,xs,by rw [hx],.inr hs,fun q hq=>dU ow za hl ⟨G,fun _ z=>z,p.zmono fun _ z=>.inl z⟩ e k hq⟩
  | scr ns =>
   obtain ⟨a,hx,hL,hs⟩:=r1
   cases e
   refine ⟨a,_,by rw [hx],.inl hs.sq,fun q hq=>cp (G':=no) ow za (fun _ z=>z.elim) (by rw [a0b]; exact hL) (kn ns) (by simp) k hq⟩
  | _=>cases e
theorem kI {Z:Fp}{H:Hp}{G:Fp}{m:Md}:∀ {ts:List T} {ns:List Int} {xs:List V},intsOf ts=some ns->RepL K Z H m ts xs G->xs=ns.map V.int:=by
 intro ts
 induction ts generalizing G with
 | nil=>intro ns xs e r; cases e; exact r
 | cons t ts ih =>
  intro ns xs e r
  obtain ⟨x,r',G1,G2,rfl,_,_,_,p,q⟩:=r
  cases t with
  | int i =>
   cases e1:intsOf ts with
   | none=>simp [intsOf,e1] at e
   | some ms =>
    have:ns=i::ms:=by simpa [intsOf,e1] using e.symm
    subst this
    rw [a0n,<- ih e1 q,show x=.int i from p]
  | _=>cases e
theorem jl {Z:Fp}{H:Hp}{G:Fp}{m:Md}:∀ {ts:List T} {ns:List Bool} {xs:List V},boolsOf ts=some ns->RepL K Z H m ts xs G->xs=ns.map V.bl:=by
 intro ts
 induction ts generalizing G with
 | nil=>intro ns xs e r; cases e; exact r
 | cons t ts ih =>
  intro ns xs e r
  obtain ⟨x,r',G1,G2,rfl,_,_,_,p,q⟩:=r
  cases t with
  | bl i =>
   cases e1:boolsOf ts with
   | none=>simp [boolsOf,e1] at e
   | some ms =>
    have:ns=i::ms:=by simpa [boolsOf,e1] using e.symm
    subst this
    rw [a0n,<- ih e1 q,show x=.bl i from p]
  | _=>cases e
theorem wQ:Loc K 1 .sum h fun xs H Q=>∃ (a:Addr) (ns:List Int),xs=[.ref a]/\SqL K H a (ns.map V.int)/\Q (.int ns.sum) H:=by
 intro ws w xs Z H G Q hn e r ow za k
 match ws,hn with
 | [(m,a)],_ =>
  obtain ⟨x,rfl,r1⟩:=cy rfl r
  cases a with
  | lst ts =>
   obtain ⟨a,xs,hx,hs,hl,p⟩:=a7 r1
   have e':(intsOf ts).map (fun ns=>((.d,.int ns.sum):W))=some w:=e
   cases e1:intsOf ts with
   | none=>rw [e1] at e'; cases e'
   | some ns =>
    rw [e1] at e'; cases e'
    rw [kI e1 p] at hs
    exact ⟨a,ns,by rw [hx],.inl (.inl hs),a9 k⟩
  | _=>cases e
theorem xA:Loc K 1 .all h fun xs H Q=>∃ (a:Addr) (bs:List Bool),xs=[.ref a]/\SqL K H a (bs.map V.bl)/\Q (.bl (bs.all id)) H:=by
 intro ws w xs Z H G Q hn e r ow za k
 match ws,hn with
 | [(m,a)],_ =>
  obtain ⟨x,rfl,r1⟩:=cy rfl r
  cases a with
  | lst ts =>
   obtain ⟨a,xs,hx,hs,hl,p⟩:=a7 r1
   have e':(boolsOf ts).map (fun ns=>((.d,.bl (ns.all id)):W))=some w:=e
   cases e1:boolsOf ts with
   | none=>rw [e1] at e'; cases e'
   | some ns =>
    rw [e1] at e'; cases e'
    rw [jl e1 p] at hs
    exact ⟨a,ns,by rw [hx],.inl (.inl hs),bH k⟩
  | _=>cases e
theorem v8:Loc K 2 .min h fun xs H Q=>∃ i j,xs=[.int i,.int j]/\Q (.int (if j < i then j else i)) H:=by
 intro ws w xs Z H G Q hn e r ow za k
 match ws,hn with
 | [(m,a),(n,b)],_ =>
  obtain ⟨x,y,hx⟩:∃ x y,xs=[x,y]:=fw (x:=()) (y:=()) (show xs.length=[(),()].length from r.length)
  subst hx
  obtain ⟨G1,G2,_,_,_,r1,r2⟩:=cR r
  cases a<;>first | (cases e; done) | (cases b<;>first | (cases e; exact ⟨_,_,by rw [show x=_ from r1,show y=_ from r2],a9 k⟩) | cases e)
end
end MR
namespace MR
open L2 L3 M
open PySem (Addr Str sizeLine)
section
variable {K:a0a}{sl:Cf}{sf:Nat->Option Nat}{C:Call}{σ:L2.St}{Z Z' Z1:Fp}{H H' H1:Hp}{Fs Fs' Fs1:Fps}{η η' η1:Env}{G G' R F:Fp}
mutual
theorem Rep.sany:∀ {t:T} {v:V} {G G':Fp},Rep K Z H .s t v G->Rep K Z H .s t v G'
 | .non,_,_,_,h=>h
 | .bl _,_,_,_,h=>h
 | .int _,_,_,_,h=>h
 | .str _,_,_,_,h=>h
 | .scr _,_,_,_,h=>h
 | .tup ts,_,_,_,⟨a,xs,e,q,l,r⟩=>⟨a,xs,e,q,l,RepL.sany r⟩
 | .lst ts,_,_,_,⟨a,xs,e,l,q,r⟩=>⟨a,xs,e,l,q,RepL.sany r⟩
 | .dct _ _,_,_,_,h=>h.elim
 | .ins _ _ _,_,_,_,h=>h.elim
 | .gone,_,_,_,h=>h
theorem RepL.sany:∀ {ts:List T} {xs:List V} {G G':Fp},RepL K Z H .s ts xs G->RepL K Z H .s ts xs G'
 | [],_,_,_,h=>h
 | t::ts,xs,_,_,⟨x,r,G1,G2,e,h1,h2,hd,p,q⟩=>⟨x,r,no,no,e,fun _ z=>z.elim,fun _ z=>z.elim,fun _ z=>z.elim,Rep.sany p,RepL.sany q⟩
end
theorem bD:∀ (η:Env) (i j:Nat) (o:Option W),rd (wr η i o) j=if j=i/\i < η.length then o else rd η j
 | [],i,j,o=>by simp [wr,rd]
 | p::η,0,0,o=>by simp [wr,rd]
 | p::η,0,j+1,o=>by simp [wr,rd]
 | p::η,i+1,0,o=>by simp [wr,rd]
 | p::η,i+1,j+1,o=>by
  show rd (wr η i o) j=_
  rw [bD η i j o]
  simp [rd]
theorem ej:∀ {η:Env} {i:Nat} {w:W},rd η i=some w->i < η.length
 | [],_,_,h=>by cases h
 | _::_,0,_,_=>by simp
 | _::η,i+1,_,h=>by have:=ej (η:=η) (i:=i) h; simp; exact this
theorem ee (h:∀ a,F a->G a):Step Z H G Z H F:=(Step.refl Z H G).mono (fun _ z=>z) h
theorem A6 {i j:Nat}(hs:sf i=some j)(σ:L2.St)(H:Hp)(Q:VK)(h:wE K sf C (.var i) σ H Q):oN j σ H Q:=by
 obtain ⟨pv,Z,Fs,η,w,η',A,ev,k⟩:=h
 obtain ⟨w',e1,e2⟩:=aF (show ret η ((rd η i).bind look)=_ from ev)
 cases e2
 cases e3:rd η i with
 | none=>rw [e3] at e1; cases e1
 | some u =>
  rw [e3] at e1
  obtain ⟨m,t⟩:=u
  obtain ⟨v,r,hv⟩:=A.env i m t e3
  refine ⟨v,hv.1 j hs,k v Z H Fs no A ?_ (ee fun a ha=>ha.elim id fun z=>z.elim)⟩
  cases m with
  | s=>cases e1; exact r.sany
  | d =>
   have e1':(if t.leaf=true then some (Md.d,t) else none)=some w:=e1
   split at e1'
   ·rename_i hl; cases e1'; exact r.leaf (fun _ _ _ q=>q) hl
   ·cases e1'
  | o m =>
   have e1':(if t.leaf=true then some (Md.d,t) else none)=some w:=e1
   split at e1'
   ·rename_i hl; cases e1'; exact r.leaf (fun _ _ _ q=>q) hl
   ·cases e1'
noncomputable def Ae (Fs:Fps)(i:Nat):Fps:=fun j a=>j≠i/\Fs j a
theorem yF {e:E}{i j:Nat}(he:∀ η,evE C e η=ret (del η i) (rd η i))(hs:sf i=some j)(σ:L2.St)(H:Hp)(Q:VK)(h:wE K sf C e σ H Q):oN j σ H Q:=by
 obtain ⟨pv,Z,Fs,η,w,η',A,ev,k⟩:=h
 rw [he] at ev
 obtain ⟨w',e1,e2⟩:=aF ev
 cases e2
 obtain ⟨m,t⟩:=w
 obtain ⟨v,r,hv⟩:=A.env i m t e1
 refine ⟨v,hv.1 j hs,k v Z H (Ae Fs i) (Fs i) ⟨⟨fun a ⟨l,h1,h2⟩=>A.gd.own a ⟨l,h2⟩,fun l l' a h1 h2=>A.gd.dis l l' a h1.2 h2.2,A.gd.zal⟩,fun l m' t' e=>?_,fun a ha=>A.gd.own a ⟨i,ha⟩,fun a ha ⟨l,h1,h2⟩=>h1 (A.gd.dis l i a h2 ha),A.lk,A.ln⟩ r (ee fun a ha=>ha.elim (fun ⟨l,h1,h2⟩=>⟨l,h2⟩) fun z=>⟨i,z⟩)⟩
 rw [bD] at e
 split at e
 ·cases e
 ·rename_i hne
  obtain ⟨v',r',hv'⟩:=A.env l m' t' e
  have hli:l≠i:=fun z=>hne ⟨z,ej e1⟩
  exact ⟨v',r'.mono fun a ha=>⟨hli,ha⟩,hv'⟩
theorem ie {t:T}{v:V}(hv:∀ {Z:Fp} {H:Hp},Rep K Z H .d t v no)(σ:L2.St)(H:Hp)(Q:VK)(h:wE K sf C (.cst t) σ H Q):tC v σ H Q:=by
 obtain ⟨pv,Z,Fs,η,w,η',A,ev,k⟩:=h
 cases ev
 exact k v Z H Fs no A hv (ee fun a ha=>ha.elim id fun z=>z.elim)
theorem BG {es:List E}(hn:es.length<=LIM)(σ:L2.St)(H:Hp)(Q:VK)(h:wE K sf C (.tup es) σ H Q):BB (wL K sf C es) σ H Q:=by
 obtain ⟨pv,Z,Fs,η,w,η',A,ev,k⟩:=h
 obtain ⟨⟨ws,η1⟩,h1,h2⟩:=ab (show (evL C es η).bind kTup=_ from ev)
 cases h2
 refine ⟨pv,Z,Fs,η,ws,_,A,h1,fun vs Z' H' Fs' G B r s=>?_⟩
 have hl:vs.length<=LIM:=by rw [r.length,gw h1]; exact hn
 obtain ⟨G',g1,g2⟩:=RepW.to (fun u hu=>eH hu) r
 refine ⟨bR hl,fun p hp=>jw (m:=(meets ws).up) B.own g1 hl (by rw [cZ]; exact g2) (cY B s k) hp⟩
theorem zS {b:Bool}{es:List E}(hn:es.length<=LIM)(σ:L2.St)(H:Hp)(Q:VK)(h:wE K sf C (.lst b es) σ H Q):DJ (wL K sf C es) σ H Q:=by
 obtain ⟨pv,Z,Fs,η,w,η',A,ev,k⟩:=h
 obtain ⟨⟨ws,η1⟩,h1,h2⟩:=ab (show (evL C es η).bind (uu b)=_ from ev)
 cases h2
 refine ⟨pv,Z,Fs,η,ws,_,A,h1,fun vs Z' H' Fs' G B r s=>?_⟩
 have hl:vs.length<=LIM:=by rw [r.length,gw h1]; exact hn
 refine ⟨bR hl,fun p hp=>?_⟩
 cases b with
 | true =>
  obtain ⟨G',g1,g2⟩:=RepW.to (fun u hu=>eH hu) r
  exact cp (m:=(meets ws).up) B.own B.gd.zal g1 hl (by rw [cZ]; exact g2) (bS _) (cY B s k) hp
 | false =>
  obtain ⟨G',g1,g2⟩:=RepW.to (N:=.s) (fun u hu=>by cases lf u.1 u.2<;>rfl) r
  exact cp (m:=.o .s) B.own B.gd.zal g1 hl g2 (by simp) (cY B s k) hp
noncomputable def wT (K:a0a)(sl:Nat->Option Nat)(C:Call)(e:E):TT:=fun σ H Q=>∃ pv Z Fs η w η' b,At K ⟨sl,pv⟩ σ Z H Fs η no/\evE C e η=.ok (w,η')/\truth w.2=some b /\
 ∀ Z' H' Fs',At K ⟨sl,pv⟩ σ Z' H' Fs' η' no->Step Z H (tot Fs) Z' H' (tot Fs')->Q b H'
noncomputable def TrV (K:a0a)(x:V)(H:Hp)(k:Bool):Prop :=
 match x with
 | .non=>k=false
 | .bl b=>k=b
 | .int i=>k=(i != 0)
 | .str y=>y.length<=sizeLine/\k=((y.length:Int) != 0)
 | .ref p=>(∃ xs,SqL K H p xs/\k=!xs.isEmpty)\/(∃ xs,SqT K H p xs/\k=!xs.isEmpty)
 | _=>False
theorem dX {α β:Type}{xs:List α}{ys:List β}(h:xs.length=ys.length):xs.isEmpty=ys.isEmpty:=by
 cases xs<;>cases ys<;>first | rfl | simp at h
theorem oO {m:Md}{t:T}{v:V}{b:Bool}(e:truth t=some b)(r:Rep K Z H m t v G):TrV K v H b:=by
 cases t with
 | non=>cases e; rw [show v=_ from r]; rfl
 | bl c=>cases e; rw [show v=_ from r]; rfl
 | int i=>cases e; rw [show v=_ from r]; rfl
 | str x =>
  cases e; rw [show v=_ from r.1]
  refine ⟨bR (jX r.2),?_⟩
  show (x.cps.size != 0)=(((x.cps.size:Nat):Int) != 0)
  cases x.cps.size with
  | zero=>rfl
  | succ n=>simp; omega
 | tup ts =>
  obtain ⟨a,xs,rfl,hs,hl,p⟩:=dD r
  cases e
  exact .inr ⟨xs,hs,by rw [dX p.length]⟩
 | lst ts =>
  obtain ⟨a,xs,rfl,hs,hl,p⟩:=a7 r
  cases e
  exact .inl ⟨xs,.inl (.inl hs),by rw [dX p.length]⟩
 | scr ns =>
  obtain ⟨a,rfl,hL,hs⟩:=r
  cases e
  exact .inl ⟨_,hs.sq,by rw [dX (a0b ..)]⟩
 | dct _ _=>exact r.elim
 | ins _ _ _=>cases e
 | gone=>cases e
theorem pT {e:E}{w:W}{b:Bool}{Q:Bool->Hp->Prop}(A:At K sl σ Z H Fs η no)(ev:evE C e η=.ok (w,η'))(ht:truth w.2=some b)(k:∀ Z' H' Fs',At K sl σ Z' H' Fs' η' no->Step Z H (tot Fs) Z' H' (tot Fs')->Q b H'):wT K sl.sl C e σ H Q:=⟨sl.pv,Z,Fs,η,w,η',b,A,ev,ht,k⟩
theorem dF {α:Type}{f g:Env->Res α}{p:W×Env}{r:α}(h:onT f g p=.ok r):∃ b,truth p.1.2=some b/\(if b=true then f p.2 else g p.2)=.ok r:=by
 unfold onT at h
 split at h
 ·rename_i e; exact ⟨true,e,h⟩
 ·rename_i e; exact ⟨false,e,h⟩
 ·cases h
theorem zL {e:E}(σ:L2.St)(H:Hp)(Q:Bool->Hp->Prop)(h:wT K sf C (.not e) σ H Q):Ci (wT K sf C e) σ H Q:=by
 obtain ⟨pv,Z,Fs,η,w,η',b,A,ev,ht,k⟩:=h
 obtain ⟨⟨u,η1⟩,h1,h2⟩:=ab (show (evE C e η).bind rZ=_ from ev)
 obtain ⟨w',e1,e2⟩:=aF (show ret η1 ((truth u.2).map fun b=>((.d,.bl (!b)):W))=_ from h2)
 cases e2
 cases e3:truth u.2 with
 | none=>rw [e3] at e1; cases e1
 | some c =>
  rw [e3] at e1; cases e1
  have:b=!c:=by cases ht; rfl
  subst this
  exact pT A h1 e3 k
theorem zx {a b:E}(σ:L2.St)(H:Hp)(Q:Bool->Hp->Prop)(h:wT K sf C (.and a b) σ H Q):Cz (wT K sf C a) (wT K sf C b) σ H Q:=by
 obtain ⟨pv,Z,Fs,η,w,η',c,A,ev,ht,k⟩:=h
 obtain ⟨⟨u,η1⟩,h1,h2⟩:=ab (show (evE C a η).bind (rY (evE C b))=_ from ev)
 obtain ⟨d,h3,h4⟩:=dF (show onT (evE C b) (okW u) (u,η1)=_ from h2)
 refine pT A h1 h3 fun Z1 H1 Fs1 A1 s1=>?_
 cases d with
 | true=>rw [if_pos rfl] at h4 ⊢; exact pT A1 h4 ht fun Z2 H2 Fs2 A2 s2=>k Z2 H2 Fs2 A2 (s1.trans s2)
 | false =>
  rw [if_neg a0j] at h4 ⊢
  cases h4
  cases (h3.symm.trans ht)
  exact k Z1 H1 Fs1 A1 s1
theorem Cv {a b:E}(σ:L2.St)(H:Hp)(Q:Bool->Hp->Prop)(h:wT K sf C (.or a b) σ H Q):tOr (wT K sf C a) (wT K sf C b) σ H Q:=by
 obtain ⟨pv,Z,Fs,η,w,η',c,A,ev,ht,k⟩:=h
 obtain ⟨⟨u,η1⟩,h1,h2⟩:=ab (show (evE C a η).bind (kOr (evE C b))=_ from ev)
 obtain ⟨d,h3,h4⟩:=dF (show onT (okW u) (evE C b) (u,η1)=_ from h2)
 refine pT A h1 h3 fun Z1 H1 Fs1 A1 s1=>?_
 cases d with
 | false=>rw [if_neg a0j] at h4 ⊢; exact pT A1 h4 ht fun Z2 H2 Fs2 A2 s2=>k Z2 H2 Fs2 A2 (s1.trans s2)
 | true =>
  rw [if_pos rfl] at h4 ⊢
  cases h4
  cases (h3.symm.trans ht)
  exact k Z1 H1 Fs1 A1 s1
theorem AO {c a b:E}(σ:L2.St)(H:Hp)(Q:VK)(h:wE K sf C (.ifx c a b) σ H Q):tIf (wT K sf C c) (wE K sf C a) (wE K sf C b) σ H Q:=by
 obtain ⟨pv,Z,Fs,η,w,η',A,ev,k⟩:=h
 obtain ⟨⟨u,η1⟩,h1,h2⟩:=ab (show (evE C c η).bind (onT (evE C a) (evE C b))=_ from ev)
 obtain ⟨d,h3,h4⟩:=dF h2
 refine pT A h1 h3 fun Z1 H1 Fs1 A1 s1=>?_
 cases d with
 | true=>rw [if_pos rfl] at h4 ⊢; exact ⟨pv,Z1,Fs1,η1,w,η',A1,h4,fun v Z' H' Fs' G B r s=>k v Z' H' Fs' G B r (s1.trans s)⟩
 | false=>rw [if_neg a0j] at h4 ⊢; exact ⟨pv,Z1,Fs1,η1,w,η',A1,h4,fun v Z' H' Fs' G B r s=>k v Z' H' Fs' G B r (s1.trans s)⟩
end
end MR
namespace MR
open L2 L3 M
open PySem (Addr Str sizeLine)
section
variable {K:a0a}{sl:Cf}{sf:Nat->Option Nat}{C:Call}{σ:L2.St}{Z Z' Z1:Fp}{H H' H1:Hp}{Fs Fs' Fs1:Fps}{η η' η1:Env}{G G' R F:Fp}
structure Wk (K:a0a)(J:It)(Z:Fp)(H0:Hp)(ts:List (List W)):Prop where
 go:∀ H i,Stay Z H0 H->i < ts.length->J.go i H
 stop:∀ H i,Stay Z H0 H->ts.length<=i->J.stop i H
 len:ts.length<=LIM
noncomputable def sd (K:a0a)(J:It)(Z:Fp)(H0:Hp)(ts:List (List W)):Prop :=
 ∀ H i x H',Stay Z H0 H->i < ts.length->J.yld i H x H'->H'=H/\∃ w,ts[i]?=some [w]/\Rep K Z H w.1 w.2 x no
noncomputable def Ex (K:a0a)(J:It)(Z:Fp)(H0:Hp)(ts:List (List W)):Prop :=
 ∀ H i x H',Stay Z H0 H->i < ts.length->J.yld i H x H'->∃ p y z u w,x=.ref p/\(∀ b o,H b=some o->H' b=some o)/\SqT K H' p [y,z]/\ts[i]?=some [u,w]/\Rep K Z H u.1 u.2 y no/\Rep K Z H w.1 w.2 z no
theorem iu (same:∀ b o,H b=some o->H' b=some o):Stay Z H H':=by
 refine ⟨fun a o _ e=>same a o e,fun a ys e=>?_,fun a o u e=>same a _ e⟩
 rcases e with e | ⟨u,e⟩
 ·exact .inl (same a _ e)
 ·exact .inr ⟨u,same a _ e⟩
theorem eZ (same:∀ a o,H a=some o->H' a=some o):Step Z H G Z H' G:=by
 have al:∀ a,H a≠none->H' a≠none:=fun a h=>by
  cases e:H a with
  | none=>exact absurd e h
  | some o=>rw [same a o e]; simp
 exact ⟨fun a o h _=>same a o h,fun _ h=>h,fun _ h=>.inl h,fun _ h=>.inl h,al,fun z a h=>al a (z a h)⟩
theorem mC {p:Addr}{o:HO}(hp:H p=none):∀ b u,H b=some u->upd H p o b=some u:=fun a u e=>by
 have:a≠p:=fun q=>by subst q; rw [hp] at e; cases e
 rw [ai this]; exact e
noncomputable def Yld (K:a0a)(J:It)(Z:Fp)(H0:Hp)(ts:List (List W)):Nat->Prop
 | 1=>sd K J Z H0 ts
 | 2=>Ex K J Z H0 ts
 | _=>False
noncomputable def wI (K:a0a)(sl:Nat->Option Nat)(C:Call)(n:Nat)(k:Ik)(src:List E):TI:=fun σ H R=>∃ pv Z Fs η ws η' ts,At K ⟨sl,pv⟩ σ Z H Fs η no/\evL C src η=.ok (ws,η')/\turns k ws=some ts /\
 ∀ J Z' H' Fs',At K ⟨sl,pv⟩ σ Z' H' Fs' η' no->Step Z H (tot Fs) Z' H' (tot Fs')->Wk K J Z' H' ts->Yld K J Z' H' ts n->R J H'
theorem At.freeze (A:At K sl σ Z H Fs η G):At K sl σ (fun a=>Z a\/G a) H Fs η no:=by
 refine ⟨⟨fun a ha=>⟨fun z=>z.elim (A.gd.own a ha).1 fun q=>A.dis a q ha,(A.gd.own a ha).2⟩,A.gd.dis,fun a h=>h.elim (A.gd.zal a) fun q=>?_⟩,fun i m t e=>?_,ck,fun _ z=>z.elim,A.lk,A.ln⟩
 ·obtain ⟨_,xs,e⟩:=A.own a q
  rw [e]; simp
 ·obtain ⟨v,r,h⟩:=A.env i m t e
  exact ⟨v,r.zmono fun a h=>.inl h,h⟩
theorem aY (o:Own Z' H' G)(s:Step Z H F Z' H' (fun a=>F' a\/G a)):Step Z H F (fun a=>Z' a\/G a) H' F' where
 keep:=s.keep
 zm:=fun a h=>.inl (s.zm a h)
 zn:=fun a h=>h.elim (s.zn a) fun q=>.inr (s.fn a (.inr q))
 fn:=fun a h=>s.fn a (.inl h)
 al:=s.al
 za:=fun z a h=>h.elim (s.za z a) fun q=>by
  obtain ⟨_,xs,e⟩:=o a q
  rw [e]; simp
theorem bY {a:Addr}{xs:List V}{H0:Hp}(s:Stay Z H0 H)(hz:Z a)(h:H0 a=some (.lst xs)):SqL K H a xs:=.inl (.inl (s.1 a _ hz h))
theorem vx {a:Addr}{xs:List V}{ts:List T}(hL:xs.length<=LIM)(hz:Z a)(h:H a=some (.lst xs))(r:RepL K Z H .s ts xs no):Wk K (Itl K a) Z H (ts.map fun t=>[(.s,t)])/\sd K (Itl K a) Z H (ts.map fun t=>[(.s,t)]):=by
 have hl:=r.length
 refine ⟨⟨fun H' i s hi=>?_,fun H' i s hi=>?_,by rw [a0b]; omega⟩,fun H' i x H'' s hi y=>?_⟩
 ·rw [a0b] at hi
  exact ⟨xs,xs[i]'(by omega),bY s hz h,by simp⟩
 ·rw [a0b] at hi
  exact ⟨xs,bY s hz h,by omega⟩
 ·rw [a0b] at hi
  obtain ⟨rfl,y⟩:=y
  have hx:=y xs (bY s hz h)
  obtain ⟨x',hx',rx⟩:=r.get (show ts[i]?=some ts[i] by simp)
  rw [hx] at hx'; cases hx'
  refine ⟨rfl,(.s,ts[i]),by rw [a0x,show ts[i]?=some ts[i] by simp]; rfl,rx.keep s (fun _ z=>z) fun _ _ z=>z.elim⟩
theorem BJ {a:Addr}{xs:List V}{ts:List T}(hL:xs.length<=LIM)(h:SqT K H a xs)(r:RepL K Z H .s ts xs no):Wk K (Itt K a) Z H (ts.map fun t=>[(.s,t)])/\sd K (Itt K a) Z H (ts.map fun t=>[(.s,t)]):=by
 have hl:=r.length
 refine ⟨⟨fun H' i s hi=>?_,fun H' i s hi=>?_,by rw [a0b]; omega⟩,fun H' i x H'' s hi y=>?_⟩
 ·rw [a0b] at hi
  exact ⟨xs,xs[i]'(by omega),s.sqt h,by simp⟩
 ·rw [a0b] at hi
  exact ⟨xs,s.sqt h,by omega⟩
 ·rw [a0b] at hi
  obtain ⟨rfl,y⟩:=y
  have hx:=y xs (s.sqt h)
  obtain ⟨x',hx',rx⟩:=r.get (show ts[i]?=some ts[i] by simp)
  rw [hx] at hx'; cases hx'
  refine ⟨rfl,(.s,ts[i]),by rw [a0x,show ts[i]?=some ts[i] by simp]; rfl,rx.keep s (fun _ z=>z) fun _ _ z=>z.elim⟩
theorem A9 {lo:Int}{n:Nat}(hL:n<=LIM):Wk K (Itr lo n) Z H ((a0B n).map fun (k:Nat)=>[(.d,.int (lo+k))])/\sd K (Itr lo n) Z H ((a0B n).map fun (k:Nat)=>[(.d,.int (lo+k))]):=by
 refine ⟨⟨fun H' i s hi=>by show i < n; simpa using hi,fun H' i s hi=>by show n<=i; simpa using hi,by simpa using hL⟩,fun H' i x H'' s hi y=>?_⟩
 obtain ⟨rfl,rfl⟩:=y
 refine ⟨rfl,(.d,.int (lo+i)),?_,rfl⟩
 rw [a0b,a1l] at hi
 rw [a0x,a2u hi]
 rfl
theorem mh {a:Addr}{ns:List Int}{H0:Hp}(s:Stay Z H0 H)(h:ScrR K H0 a ns):SqL K H a (ns.map V.int):=(h.keep s.2.2).sq
theorem Ak {a:Addr}{ns:List Int}(hL:ns.length<=LIM)(h:ScrR K H a ns):Wk K (Itl K a) Z H (ns.map fun n=>[(.d,.int n)])/\sd K (Itl K a) Z H (ns.map fun n=>[(.d,.int n)]):=by
 refine ⟨⟨fun H' i s hi=>?_,fun H' i s hi=>?_,by rw [a0b]; exact hL⟩,fun H' i x H'' s hi y=>?_⟩
 ·rw [a0b] at hi
  exact ⟨_,(ns.map V.int)[i]'(by rw [a0b]; exact hi),mh s h,by simp⟩
 ·rw [a0b] at hi
  exact ⟨_,mh s h,by rw [a0b]; exact hi⟩
 ·rw [a0b] at hi
  obtain ⟨rfl,y⟩:=y
  have hx:=y _ (mh s h)
  refine ⟨rfl,(.d,.int ns[i]),by rw [a0x,show ns[i]?=some ns[i] by simp]; rfl,?_⟩
  rw [a0x,show ns[i]?=some ns[i] by simp] at hx
  exact (a0G hx).symm
theorem AY {e:E}(σ:L2.St)(H:Hp)(R:It->Hp->Prop)(h:wI K sf C 1 .seq [e] σ H R):qy K (wE K sf C e) σ H R\/DE K (wE K sf C e) σ H R:=by
 obtain ⟨pv,Z,Fs,η,ws,η',ts,A,ev,ht,k⟩:=h
 obtain ⟨⟨m,a⟩,η1,us,e1,e2,rfl⟩:=aB ev
 cases e2
 cases a with
 | lst ts' =>
  cases ht
  refine .inl ⟨pv,Z,Fs,η,_,_,A,e1,fun v Z' H' Fs' G B r s=>?_⟩
  obtain ⟨a,xs,rfl,l,q,p⟩:=Rep.sh r
  obtain ⟨w1,w2⟩:=vx l q.1 q.2 p.sany
  exact ⟨a,rfl,⟨xs,.inl (.inl q.2)⟩,k _ _ H' Fs' B.freeze (aY B.own s) w1 w2⟩
 | tup ts' =>
  cases ht
  refine .inr ⟨pv,Z,Fs,η,_,_,A,e1,fun v Z' H' Fs' G B r s=>?_⟩
  obtain ⟨a,xs,rfl,q,l,p⟩:=Rep.sh r
  obtain ⟨w1,w2⟩:=BJ l q p.sany
  exact ⟨a,rfl,⟨xs,q⟩,k _ _ H' Fs' B.freeze (aY B.own s) w1 w2⟩
 | scr ns =>
  cases ht
  refine .inl ⟨pv,Z,Fs,η,_,_,A,e1,fun v Z' H' Fs' G B r s=>?_⟩
  obtain ⟨a,rfl,hl,q⟩:=r
  obtain ⟨w1,w2⟩:=Ak (Z:=fun a=>Z' a\/G a) hl q
  exact ⟨a,rfl,⟨_,q.sq⟩,k _ _ H' Fs' B.freeze (aY B.own s) w1 w2⟩
 | _=>cases ht
theorem p62:(2:Int) ^ 62=4611686018427387904:=by decide
theorem vL {e:E}(σ:L2.St)(H:Hp)(R:It->Hp->Prop)(h:wI K sf C 1 .rng [e] σ H R):xP (wL K sf C [e]) σ H R:=by
 obtain ⟨pv,Z,Fs,η,ws,η',ts,A,ev,ht,k⟩:=h
 refine ⟨pv,Z,Fs,η,ws,η',A,ev,fun vs Z' H' Fs' G B r s=>?_⟩
 obtain ⟨⟨m,a⟩,η1,us,e1,e2,rfl⟩:=aB ev
 cases e2
 obtain ⟨x,rfl,r1⟩:=cy rfl r
 cases a with
 | int n =>
  rw [tP] at ht
  split at ht
  ·rename_i hc
   rw [a0s,decide_eq_true_eq] at hc
   cases ht
   refine ⟨n,by rw [show x=_ from r1],by rw [p62]; omega,by rw [p62]; omega,?_⟩
   obtain ⟨w1,w2⟩:=A9 (K:=K) (Z:=fun a=>Z' a\/G a) (H:=H') (lo:=0) (n:=n.toNat) (cW hc.2)
   have hz:∀ k:Nat,(0:Int)+(k:Int)=k:=fun k=>by omega
   simp only [hz] at w1 w2
   exact k _ _ H' Fs' B.freeze (aY B.own s) w1 w2
  ·cases ht
 | _=>cases ht
theorem xF {m:Md}{t:T}{v:V}{ts:List T}(e:elems (m,t)=some ts)(r:Rep K Z H m t v G):∃ k a xs,v=.ref a/\xs.length<=LIM/\RepL K (fun a=>Z a\/G a) H .s ts xs no/\∀ H',Stay (fun a=>Z a\/G a) H H'->Sq K H' k a xs:=by
 cases t with
 | lst us =>
  cases e
  obtain ⟨a,xs,rfl,l,q,p⟩:=Rep.sh r
  exact ⟨false,a,xs,rfl,l,p.sany,fun H' s=>bY s q.1 q.2⟩
 | tup us =>
  cases e
  obtain ⟨a,xs,rfl,q,l,p⟩:=Rep.sh r
  exact ⟨true,a,xs,rfl,l,p.sany,fun H' s=>s.sqt q⟩
 | _=>cases e
theorem kq {m n:Md}:∀ {ts us:List T} {i:Nat} {t u:T},ts[i]?=some t->us[i]?=some u->(cS m n ts us)[i]?=some [(m,t),(n,u)]
 | t::ts,u::us,0,_,_,h,h'=>by cases h; cases h'; rfl
 | t::ts,u::us,i+1,_,_,h,h'=>kq (ts:=ts) (us:=us) (i:=i) h h'
 | [],_,_,_,_,h,_=>by simp at h
 | _::_,[],_,_,_,_,h'=>by simp at h'
theorem dW {m n:Md}:∀ {ts us:List T},(cS m n ts us).length=min ts.length us.length
 | [],_=>by simp [cS]
 | _::_,[]=>by simp [cS]
 | t::ts,u::us=>by
  show (cS m n ts us).length+1=_
  rw [dW]; simp
theorem yk {e e':E}(σ:L2.St)(H:Hp)(R:It->Hp->Prop)(h:wI K sf C 2 .zip [e,e'] σ H R):C7 K (wL K sf C [e,e']) σ H R:=by
 obtain ⟨pv,Z,Fs,η,ws,η',ts,A,ev,ht,k⟩:=h
 refine ⟨pv,Z,Fs,η,ws,η',A,ev,fun vs Z' H' Fs' G B r s=>?_⟩
 obtain ⟨⟨m,a⟩,η1,us,e1,e2,rfl⟩:=aB ev
 obtain ⟨⟨n,b⟩,η2,us,e3,e4,rfl⟩:=aB e2
 cases e4
 obtain ⟨x,y,hx⟩:∃ x y,vs=[x,y]:=fw (x:=()) (y:=()) (show vs.length=[(),()].length from r.length)
 subst hx
 obtain ⟨G1,G2,g1,g2,_,r1,r2⟩:=cR r
 have ht':((elems (m,a)).bind fun ts=>(elems (n,b)).bind fun us=>some (cS .s .s ts us))=some ts:=ht
 cases ea:elems (m,a) with
 | none=>rw [ea] at ht'; cases ht'
 | some t1 =>
  cases eb:elems (n,b) with
  | none=>rw [ea,eb] at ht'; cases ht'
  | some t2 =>
   rw [ea,eb] at ht'; cases ht'
   obtain ⟨k1,a1,xs,rfl,L1,p1,q1⟩:=xF ea r1
   obtain ⟨k2,a2,ys,rfl,L2',p2,q2⟩:=xF eb r2
   have z1:∀ c,(Z' c\/G1 c)->(Z' c\/G c):=fun c h=>h.imp id (g1 c)
   have z2:∀ c,(Z' c\/G2 c)->(Z' c\/G c):=fun c h=>h.imp id (g2 c)
   have st1:∀ H0,Stay (fun c=>Z' c\/G c) H' H0->Sq K H0 k1 a1 xs:=fun H0 s=>q1 H0 ⟨fun c o hc=>s.1 c o (z1 c hc),s.2⟩
   have st2:∀ H0,Stay (fun c=>Z' c\/G c) H' H0->Sq K H0 k2 a2 ys:=fun H0 s=>q2 H0 ⟨fun c o hc=>s.1 c o (z2 c hc),s.2⟩
   have l1:=p1.length
   have l2:=p2.length
   refine ⟨k1,k2,a1,a2,rfl,⟨xs,st1 _ (bU _ _)⟩,⟨ys,st2 _ (bU _ _)⟩,k _ _ H' Fs' B.freeze (aY B.own s) ⟨fun H0 i s hi=>?_,fun H0 i s hi=>?_,by rw [dW]; omega⟩ fun H0 i x H1 s hi y=>?_⟩
   ·rw [dW] at hi
    exact ⟨xs,ys,xs[i]'(by omega),ys[i]'(by omega),st1 _ s,st2 _ s,by simp,by simp⟩
   ·rw [dW] at hi
    exact ⟨xs,ys,st1 _ s,st2 _ s,by omega⟩
   ·rw [dW] at hi
    obtain ⟨p,x1,y1,rfl,hp,rfl,hx,hy⟩:=y
    have hi1:i < t1.length:=by omega
    have hi2:i < t2.length:=by omega
    obtain ⟨x',hx',rx⟩:=p1.get (show t1[i]?=some t1[i] by simp)
    obtain ⟨y',hy',ry⟩:=p2.get (show t2[i]?=some t2[i] by simp)
    rw [hx xs (st1 _ s)] at hx'; cases hx'
    rw [hy ys (st2 _ s)] at hy'; cases hy'
    exact ⟨p,x1,y1,(.s,t1[i]),(.s,t2[i]),rfl,mC hp,.inl (.inl ak),kq (by simp) (by simp),(rx.zmono z1).keep s (fun _ z=>z) fun _ _ z=>z.elim,(ry.zmono z2).keep s (fun _ z=>z) fun _ _ z=>z.elim⟩
theorem jv {m:Md}:∀ {ts:List T} {n i:Nat} {t:T},ts[i]?=some t->(eQ m n ts)[i]?=some [(.d,.int ((n+i:Nat):Int)),(m,t)]
 | t::ts,n,0,_,h=>by cases h; rfl
 | t::ts,n,i+1,_,h=>by
  have:=jv (m:=m) (ts:=ts) (n:=n+1) (i:=i) h
  rw [show n+1+i=n+(i+1) by omega] at this
  exact this
 | [],_,_,_,h=>by simp at h
theorem df {m:Md}:∀ {ts:List T} {n:Nat},(eQ m n ts).length=ts.length
 | [],_=>rfl
 | t::ts,n=>by show (eQ m (n+1) ts).length+1=ts.length+1; rw [df]
theorem AF {e:E}(σ:L2.St)(H:Hp)(R:It->Hp->Prop)(h:wI K sf C 2 .enm [e] σ H R):xR K (wL K sf C [e]) σ H R:=by
 obtain ⟨pv,Z,Fs,η,ws,η',ts,A,ev,ht,k⟩:=h
 refine ⟨pv,Z,Fs,η,ws,η',A,ev,fun vs Z' H' Fs' G B r s=>?_⟩
 obtain ⟨⟨m,a⟩,η1,us,e1,e2,rfl⟩:=aB ev
 cases e2
 obtain ⟨x,rfl,r1⟩:=cy rfl r
 obtain ⟨t1,rfl⟩:∃ t1,a=.lst t1:=by cases a<;>first | exact ⟨_,rfl⟩ | cases ht
 cases ht
 obtain ⟨a,xs,rfl,l,q,p⟩:=Rep.sh r1
 have l1:=p.length
 refine ⟨a,rfl,⟨xs,.inl (.inl q.2)⟩,k _ _ H' Fs' B.freeze (aY B.own s) ⟨fun H0 i s hi=>?_,fun H0 i s hi=>?_,by rw [df]; omega⟩ fun H0 i x H1 s hi y=>?_⟩
 ·rw [df] at hi
  exact ⟨xs,xs[i]'(by omega),bY s q.1 q.2,by simp⟩
 ·rw [df] at hi
  exact ⟨xs,bY s q.1 q.2,by omega⟩
 ·rw [df] at hi
  obtain ⟨p',x1,rfl,hp,rfl,hx⟩:=y
  obtain ⟨x',hx',rx⟩:=p.get (show t1[i]?=some t1[i] by simp)
  rw [hx xs (bY s q.1 q.2)] at hx'; cases hx'
  refine ⟨p',.int i,x1,(.d,.int ((0+i:Nat):Int)),(.s,t1[i]),rfl,mC hp,.inl (.inl ak),jv (by simp),?_,rx.sany.keep s (fun _ z=>z) fun _ _ z=>z.elim⟩
  show V.int (i:Int)=V.int ((0+i:Nat):Int)
  rw [a1f]
theorem gL:∀ {ts:List T} {ps:List (List W)} {i:Nat} {t:T},cn ts=some ps->ts[i]?=some t->∃ x y,t=.tup [x,y]/\ps[i]?=some [(.s,x),(.s,y)]
 | [],_,_,_,_,h=>by simp at h
 | u::ts,ps,i,t,e,h=>by
  match u,e with
  | .tup [x,y],e =>
   have e':(cn ts).map ([(.s,x),(.s,y)]::·)=some ps:=e
   cases e1:cn ts with
   | none=>rw [e1] at e'; cases e'
   | some qs =>
    rw [e1] at e'
    cases e'
    cases i with
    | zero=>cases h; exact ⟨x,y,rfl,rfl⟩
    | succ i=>exact gL (ts:=ts) (ps:=qs) (i:=i) e1 h
theorem iC:∀ {ts:List T} {ps:List (List W)},cn ts=some ps->ps.length=ts.length
 | [],_,e=>by cases e; rfl
 | u::ts,ps,e=>by
  match u,e with
  | .tup [x,y],e =>
   have e':(cn ts).map ([(.s,x),(.s,y)]::·)=some ps:=e
   cases e1:cn ts with
   | none=>rw [e1] at e'; cases e'
   | some qs =>
    rw [e1] at e'
    cases e'
    rw [a0f,a0f,iC e1]
theorem Az {e:E}(σ:L2.St)(H:Hp)(R:It->Hp->Prop)(h:wI K sf C 2 .sq2 [e] σ H R):qy K (wE K sf C e) σ H R:=by
 obtain ⟨pv,Z,Fs,η,ws,η',ts,A,ev,ht,k⟩:=h
 obtain ⟨⟨m,a⟩,η1,us,e1,e2,rfl⟩:=aB ev
 cases e2
 obtain ⟨t1,rfl⟩:∃ t1,a=.lst t1:=by cases a<;>first | exact ⟨_,rfl⟩ | cases ht
 have ht':cn t1=some ts:=ht
 have hlen:=iC ht'
 refine ⟨pv,Z,Fs,η,_,_,A,e1,fun v Z' H' Fs' G B r s=>?_⟩
 obtain ⟨a,xs,rfl,l,q,p⟩:=Rep.sh r
 have hl:=p.length
 refine ⟨a,rfl,⟨xs,.inl (.inl q.2)⟩,k _ _ H' Fs' B.freeze (aY B.own s) ⟨fun H0 i s hi=>?_,fun H0 i s hi=>?_,by omega⟩ fun H0 i x H1 s hi y=>?_⟩
 ·exact ⟨xs,xs[i]'(by omega),bY s q.1 q.2,by simp⟩
 ·exact ⟨xs,bY s q.1 q.2,by omega⟩
 ·obtain ⟨rfl,y⟩:=y
  have hx:=y xs (bY s q.1 q.2)
  have hi':i < t1.length:=by omega
  obtain ⟨x',hx',rx⟩:=p.get (show t1[i]?=some t1[i] by simp)
  rw [hx] at hx'; cases hx'
  obtain ⟨u,w,et,eu⟩:=gL ht' (show t1[i]?=some t1[i] by simp)
  rw [et] at rx
  obtain ⟨c,ys,rfl,hq,_,y1,r1,G1,G2,rfl,g1,g2,d,p1,y2,r2,G3,G4,e2,g3,g4,d2,p2,q2⟩:=rx
  cases e2
  obtain rfl:r2=[]:=q2
  refine ⟨c,y1,y2,(.s,u),(.s,w),rfl,fun _ _ e=>e,s.sqt hq,eu,(p1.mono (G':=no) fun a h=>(g1 a h).1).sany.keep s (fun _ z=>z) fun _ _ z=>z.elim,(p2.mono (G':=no) fun a h=>(g2 a (g3 a h)).1).sany.keep s (fun _ z=>z) fun _ _ z=>z.elim⟩
end
end MR
namespace MR
open L2 L3 M
open PySem (Addr Str sizeLine)
section
variable {K:a0a}{sl:Cf}{sf sg:Nat->Option Nat}{C:Call}{σ σ2:L2.St}{Z Z' Z1:Fp}{H H' H1:Hp}{Fs Fs' Fs1:Fps}{η η' η1:Env}{G G' R F:Fp}{tg is:List Nat}{pv val:Nat->Option V}
theorem aM:∀ (tg:List Nat) (η:Env) (i:Nat),rd (aj tg η) i=if i∈tg then none else rd η i
 | [],η,i=>by simp [aj]
 | t::tg,η,i=>by
  show rd (aj tg (wr η t none)) i=_
  rw [aM tg,bD]
  by_cases h1:i∈tg
  ·simp [h1]
  ·by_cases h2:i=t
   ·subst h2
    rw [if_neg h1,if_pos a0d]
    split
    ·rfl
    ·rename_i hn
     cases e:rd η i with
     | none=>rfl
     | some w=>exact absurd ⟨rfl,ej e⟩ hn
   ·rw [if_neg h1,if_neg (show ¬ i∈t::tg by simp [h1,h2]),if_neg (show ¬ (i=t/\t < η.length) from fun h=>h2 h.1)]
noncomputable def Nn (η η':Env):Prop:=∀ i,rd η i=none->rd η' i=none
theorem Nn.refl (η:Env):Nn η η:=fun _ h=>h
theorem Nn.trans {a b c:Env}(h:Nn a b)(k:Nn b c):Nn a c:=fun i e=>k i (h i e)
theorem mi (η:Env)(j:Nat):Nn η (del η j):=fun i e=>by
 rw [bD]; split
 ·rfl
 ·exact e
theorem tG {η:Env}{j:Nat}{w:W}(h:rd η j≠none):Nn η (put η j w):=fun i e=>by
 rw [bD]; split
 ·rename_i hc; rw [<- hc.1] at h; exact absurd e h
 ·exact e
theorem fI:∀ {is:List Nat} {ws:List W} {η0 η:Env},(∀ i∈is,rd η0 i≠none)->Nn η0 η->Nn η0 (putAll is ws η)
 | [],_,_,_,_,h=>h
 | _::_,[],_,_,_,h=>h
 | i::is,w::ws,η0,η,hi,h=>by
  show Nn η0 (putAll is ws (put η i w))
  refine fI (fun j hj=>hi j (a0c _ hj)) fun j e=>?_
  rw [bD]; split
  ·rename_i hc; rw [hc.1] at e; exact absurd e (hi i a0d)
  ·exact h j e
theorem iE {f:Env->Res (Option W×Env)}(hf:∀ {η o η'},f η=.ok (o,η')->Nn η η'):∀ {ts:List (List W)} {η η':Env} {acc ws:List W},(∀ i∈tg,rd η i=none)->az tg f ts η acc=.ok (ws,η')->Nn η η'
 | [],η,η',acc,ws,_,h=>by cases h; exact Nn.refl _
 | t::ts,η,η',acc,ws,ht,h=>by
  obtain ⟨η1,h1,h2⟩:=ab (show (ofO (bindT tg t η)).bind (fun η1=>(f η1).bind fun p=>az tg f ts (aj tg p.2) (acc++p.1.toList))=_ from h)
  obtain ⟨⟨o,η2⟩,h3,h4⟩:=ab h2
  have hb:∀ {tg:List Nat} {t:List W} {η η1:Env},bindT tg t η=some η1->∀ i,i ∉ tg->rd η1 i=rd η i:=fun {tg}=>by
   induction tg with
   | nil=>intro t η η1 h i hi; cases t with
    | nil=>cases h; rfl
    | cons _ _=>cases h
   | cons j tg ih=>intro t η η1 h i hi; cases t with
    | nil=>cases h
    | cons w t =>
     have:=ih (show bindT tg t (put η j w)=some η1 from h) i (fun z=>hi (a0c _ z))
     rw [this,bD,if_neg fun z=>hi (by rw [z.1]; exact a0d)]
  have e1:=hb (cx h1)
  have hd:∀ i,rd η i=none->rd (aj tg η2) i=none:=fun i e=>by
   rw [aM]
   split
   ·rfl
   ·rename_i hi
    exact hf h3 i (by rw [e1 i hi]; exact e)
  exact Nn.trans (b:=aj tg η2) hd (iE hf (fun i hi=>by rw [aM,if_pos hi]) h4)
noncomputable def jd (sf sg:Nat->Option Nat)(tg:List Nat)(is:List Nat):Prop :=
 ∀ i j,sg i=some j->(∃ k:Nat,tg[k]?=some i/\j=k)\/(i ∉ tg/\∃ (k j0:Nat),j=tg.length+k/\is[k]?=some j0/\sf i=some j0)
theorem At.pin (A:At K ⟨sf,pv⟩ σ Z H Fs η G):∃ val,(∀ i u,pv i=some u->val i=some u)/\At K ⟨sf,val⟩ σ Z H Fs η G/\∀ i m t,rd η i=some (m,t)->val i≠none:=by
 have ch:∀ i,∃ o:Option V,(∀ u,pv i=some u->o=some u)/\(∀ u j,o=some u->sf i=some j->σ[j]?=some (some u))/\∀ m t,rd η i=some (m,t)->∃ v,o=some v/\Rep K Z H m t v (Fs i)/\(∀ j,sf i=some j->σ[j]?=some (some v)):=fun i=>by
  cases e:rd η i with
  | none=>exact ⟨pv i,fun _ h=>h,fun u j h hs=>A.lk i u j h hs,fun _ _ h=>by cases h⟩
  | some w =>
   obtain ⟨m,t⟩:=w
   obtain ⟨v,r,h1,h2⟩:=A.env i m t e
   refine ⟨some v,fun u h=>by rw [h2 u h],fun u j h hs=>?_,fun m' t' h=>by cases h; exact ⟨v,rfl,r,h1⟩⟩
   cases h
   exact h1 j hs
 obtain ⟨val,hval⟩:=Classical.axiomOfChoice ch
 refine ⟨val,fun i u h=>(hval i).1 u h,⟨A.gd,fun i m t e=>?_,A.own,A.dis,fun i u j h hs=>(hval i).2.1 u j h hs,A.ln⟩,fun i m t e=>?_⟩
 ·obtain ⟨v,h1,r,h2⟩:=(hval i).2.2 m t e
  exact ⟨v,r,h2,fun u hu=>by rw [show val i=some u from hu] at h1; cases h1; rfl⟩
 ·obtain ⟨v,h1,r,h2⟩:=(hval i).2.2 m t e
  rw [h1]; simp
theorem At.unpin (h:∀ i u,pv i=some u->val i=some u)(A:At K ⟨sf,val⟩ σ Z H Fs η G):At K ⟨sf,pv⟩ σ Z H Fs η G :=
 ⟨A.gd,fun i m t e=>let ⟨v,r,h1,h2⟩:=A.env i m t e; ⟨v,r,h1,fun u hu=>h2 u (h i u hu)⟩,A.own,A.dis,fun i u j hu hs=>A.lk i u j (h i u hu) hs,A.ln⟩
noncomputable def inV (val:Nat->Option V)(tg:List Nat):Nat->Option V:=fun i=>if i∈tg then none else val i
theorem At.into (I:jd sf sg tg is)(ht:∀ i∈tg,rd η i=none)(hσ:∀ (k j0:Nat) (v:V),is[k]?=some j0->σ[j0]?=some (some v)->σ2[tg.length+k]?=some (some v))(hl:∀ i j,sg i=some j->j < σ2.length)(A:At K ⟨sf,val⟩ σ Z H Fs η G):At K ⟨sg,inV val tg⟩ σ2 Z H Fs η G:=by
 refine ⟨A.gd,fun i m t e=>?_,A.own,A.dis,fun i u j hu hs=>?_,hl⟩
 ·have hi:i ∉ tg:=fun h=>by rw [ht i h] at e; cases e
  obtain ⟨v,r,h1,h2⟩:=A.env i m t e
  refine ⟨v,r,fun j hj=>?_,fun u hu=>h2 u (by have h3:inV val tg i=some u:=hu; unfold inV at h3; rw [if_neg hi] at h3; exact h3)⟩
  rcases I i j hj with ⟨k,hk,_⟩ | ⟨_,k,j0,rfl,hk,hs⟩
  ·exact absurd (a1T hk) hi
  ·exact hσ k j0 v hk (h1 j0 hs)
 ·have hi:i ∉ tg:=fun h=>by
   have hu':inV val tg i=some u:=hu
   unfold inV at hu'; rw [if_pos h] at hu'; cases hu'
  have hu':val i=some u:=by have h3:inV val tg i=some u:=hu; unfold inV at h3; rw [if_neg hi] at h3; exact h3
  rcases I i j hs with ⟨k,hk,_⟩ | ⟨_,k,j0,rfl,hk,hs⟩
  ·exact absurd (a1T hk) hi
  ·exact hσ k j0 u hk (A.lk i u j0 hu' hs)
theorem At.outof (ht:∀ i∈tg,rd η i=none)(hv:∀ i m t,rd η i=some (m,t)->val i≠none)(lk:∀ i u j,val i=some u->sf i=some j->σ[j]?=some (some u))(ln:∀ i j,sf i=some j->j < σ.length)(A:At K ⟨sg,inV val tg⟩ σ2 Z H Fs η G):At K ⟨sf,val⟩ σ Z H Fs η G:=by
 refine ⟨A.gd,fun i m t e=>?_,A.own,A.dis,lk,ln⟩
 have hi:i ∉ tg:=fun h=>by rw [ht i h] at e; cases e
 obtain ⟨v,r,h1,h2⟩:=A.env i m t e
 cases hu:val i with
 | none=>exact absurd hu (hv i m t e)
 | some u =>
  have:v=u:=h2 u (by show inV val tg i=some u; unfold inV; rw [if_neg hi]; exact hu)
  subst this
  exact ⟨v,r,fun j hj=>lk i v j hu hj,fun u' hu'=>by rw [show val i=some u' from hu'] at hu; cases hu; rfl⟩
end
section
variable {C:Call}
theorem gO:∀ (vs:List Nat) (η:Env),Nn η (M.share vs η)
 | [],η=>fun _ e=>e
 | v::vs,η=>Nn.trans (b:=wr η v (toS (rd η v))) (fun i e=>by
   rw [bD]; split
   ·rename_i hc; rw [<- hc.1,e]; rfl
   ·exact e) (gO vs _)
theorem qk (m:Md)(vs:List Nat)(η:Env):Nn η (after m vs η):=by
 cases m with
 | d=>exact fun _ e=>e
 | s=>exact gO vs η
 | o _=>exact gO vs η
theorem gW {α:Type}{tab:List (Str×α)}{f:α->Env->RE}{p:W×Env}{r:W×Env}(h:kTab tab f p=.ok r):∃ x a,p.1.2=.str x/\tab.lookup x=some a/\f a p.2=.ok r:=by
 unfold kTab at h
 split at h
 ·rename_i x hx
  split at h
  ·rename_i a ha; exact ⟨x,a,hx,ha,h⟩
  ·cases h
 ·cases h
theorem km {neg:Bool}{ks:List Str}{p r:W×Env}(h:kIn neg ks p=.ok r):∃ x,p.1.2=.str x/\r.2=p.2/\r.1=(.d,.bl (ks.contains x != neg)):=by
 unfold kIn at h
 split at h
 ·rename_i x hx; cases h; exact ⟨x,hx,rfl,rfl⟩
 ·cases h
theorem tZ {tab:List (Str×T)}{p r:W×Env}(h:ve tab p=.ok r):∃ x,p.1.2=.str x/\r.2=p.2/\r.1=(.s,(tab.lookup x).getD .non):=by
 unfold ve at h
 split at h
 ·rename_i x hx; cases h; exact ⟨x,hx,rfl,rfl⟩
 ·cases h
mutual
theorem aE:∀ (e:E) {η η':Env} {w:W},evE C e η=.ok (w,η')->Nn η η'
 | .var i,η,η',w,h=>by obtain ⟨_,_,e⟩:=aF (show ret η ((rd η i).bind look)=_ from h); cases e; exact Nn.refl _
 | .mv i,η,η',w,h=>by obtain ⟨_,_,e⟩:=aF (show ret (del η i) (rd η i)=_ from h); cases e; exact mi _ _
 | .io i,η,η',w,h=>by obtain ⟨_,_,e⟩:=aF (show ret (del η i) (rd η i)=_ from h); cases e; exact mi _ _
 | .cst t,η,η',w,h=>by cases h; exact Nn.refl _
 | .glb _ t,η,η',w,h=>by cases h; exact Nn.refl _
 | .tup es,η,η',w,h=>by
  obtain ⟨⟨ws,η1⟩,h1,h2⟩:=ab (show (evL C es η).bind kTup=_ from h)
  cases h2; exact eB es h1
 | .lst b es,η,η',w,h=>by
  obtain ⟨⟨ws,η1⟩,h1,h2⟩:=ab (show (evL C es η).bind (uu b)=_ from h)
  cases h2; exact eB es h1
 | .wk m e,η,η',w,h=>by
  obtain ⟨⟨u,η1⟩,h1,h2⟩:=ab (show (evE C e η).bind (kWk m)=_ from h)
  obtain ⟨_,_,e3⟩:=aF (show ret η1 _=_ from h2)
  cases e3; exact aE e h1
 | .op o b es,η,η',w,h=>by
  obtain ⟨ws,h1,h2⟩:=eC h
  exact eB es h1
 | .and a b,η,η',w,h=>by
  obtain ⟨⟨u,η1⟩,h1,h2⟩:=ab (show (evE C a η).bind (rY (evE C b))=_ from h)
  obtain ⟨d,h3,h4⟩:=dF (show onT (evE C b) (okW u) (u,η1)=_ from h2)
  cases d with
  | true=>rw [if_pos rfl] at h4; exact (aE a h1).trans (aE b h4)
  | false=>rw [if_neg a0j] at h4; cases h4; exact aE a h1
 | .or a b,η,η',w,h=>by
  obtain ⟨⟨u,η1⟩,h1,h2⟩:=ab (show (evE C a η).bind (kOr (evE C b))=_ from h)
  obtain ⟨d,h3,h4⟩:=dF (show onT (okW u) (evE C b) (u,η1)=_ from h2)
  cases d with
  | false=>rw [if_neg a0j] at h4; exact (aE a h1).trans (aE b h4)
  | true=>rw [if_pos rfl] at h4; cases h4; exact aE a h1
 | .not a,η,η',w,h=>by
  obtain ⟨⟨u,η1⟩,h1,h2⟩:=ab (show (evE C a η).bind rZ=_ from h)
  obtain ⟨_,_,e3⟩:=aF (show ret η1 _=_ from h2)
  cases e3; exact aE a h1
 | .ifx c a b,η,η',w,h=>by
  obtain ⟨⟨u,η1⟩,h1,h2⟩:=ab (show (evE C c η).bind (onT (evE C a) (evE C b))=_ from h)
  obtain ⟨d,h3,h4⟩:=dF h2
  cases d with
  | true=>rw [if_pos rfl] at h4; exact (aE c h1).trans (aE a h4)
  | false=>rw [if_neg a0j] at h4; exact (aE c h1).trans (aE b h4)
 | .chain o q a b c,η,η',w,h=>by
  obtain ⟨⟨x,η1⟩,h1,h2⟩:=ab (show (evE C a η).bind (kC1 o q (evE C b) (evE C c))=_ from h)
  obtain ⟨⟨y,η2⟩,h3,h4⟩:=ab (show (evE C b η1).bind (kC2 o q (evE C c) x)=_ from h2)
  obtain ⟨⟨k,η3⟩,h5,h6⟩:=ab (show (ret η2 (oSem o false [x,y])).bind (fun k=>onB k.1.2 (nO (evE C c) (kC3 q y)) (okW (.d,.bl false)) k.2)=_ from h4)
  obtain ⟨k',_,e5⟩:=aF h5
  have e6:η3=η2:=congrArg a1Q e5
  have n2:=(aE a h1).trans (aE b h3)
  have h6':onB k.2 (nO (evE C c) (kC3 q y)) (okW (.d,.bl false)) η2=.ok (w,η'):=by rw [<- e6]; exact h6
  generalize k.2=kk at h6'
  cases kk with
  | bl b =>
   cases b with
   | true =>
    obtain ⟨⟨z,η4⟩,h7,h8⟩:=ab (show (evE C c η2).bind (kC3 q y)=_ from h6')
    obtain ⟨z',_,e8⟩:=aF (show ret η4 (oSem q false [y,z])=_ from h8)
    have e9:η'=η4:=congrArg a1Q e8
    rw [e9]
    exact n2.trans (aE c h7)
   | false=>cases h6'; exact n2
  | _=>cases h6'
 | .call f es,η,η',w,h=>by
  obtain ⟨⟨ws,η1⟩,h1,h2⟩:=ab (show (evA C es η).bind (kCall C f (ios es))=_ from h)
  obtain ⟨⟨u,us⟩,h3,h4⟩:=ab (show (C f ws).bind (kBack (ios es) η1)=_ from h2)
  cases h4
  exact fI (iA es h1) (er es h1)
 | .comp b k src tg none elt,η,η',w,h=>by
  obtain ⟨⟨ws,η1⟩,h1,h2⟩:=ab (show (evL C src η).bind (fg b k tg (bq (evE C elt)))=_ from h)
  obtain ⟨⟨ts,η2⟩,h3,h4⟩:=ab (show (ret (aj tg η1) (turns k ws)).bind (fun t=>(az tg (bq (evE C elt)) t.1 t.2 []).bind (kA b))=_ from h2)
  obtain ⟨_,_,e3⟩:=aF h3
  have e4:η2=aj tg η1:=congrArg a1Q e3
  subst e4
  obtain ⟨⟨us,η3⟩,h5,h6⟩:=ab (show (az tg (bq (evE C elt)) ts (aj tg η1) []).bind (kA b)=_ from h4)
  obtain ⟨_,_,e6⟩:=aF (show ret η3 _=_ from h6)
  have e7:η'=η3:=congrArg a1Q e6
  subst e7
  refine (eB src h1).trans (Nn.trans (b:=aj tg η1) (fun i e=>by rw [aM]; split<;>first | rfl | exact e) (iE (fun {η o η'} hf=>?_) (fun i hi=>by rw [aM,if_pos hi]) h5))
  obtain ⟨⟨u,η4⟩,h7,h8⟩:=ab (show (evE C elt η).bind jc=_ from hf)
  cases h8
  exact aE elt h7
 | .comp b k src tg (some c) elt,η,η',w,h=>by
  obtain ⟨⟨ws,η1⟩,h1,h2⟩:=ab (show (evL C src η).bind (fg b k tg (q0 (evE C c) (evE C elt)))=_ from h)
  obtain ⟨⟨ts,η2⟩,h3,h4⟩:=ab (show (ret (aj tg η1) (turns k ws)).bind (fun t=>(az tg (q0 (evE C c) (evE C elt)) t.1 t.2 []).bind (kA b))=_ from h2)
  obtain ⟨_,_,e3⟩:=aF h3
  have e4:η2=aj tg η1:=congrArg a1Q e3
  subst e4
  obtain ⟨⟨us,η3⟩,h5,h6⟩:=ab (show (az tg (q0 (evE C c) (evE C elt)) ts (aj tg η1) []).bind (kA b)=_ from h4)
  obtain ⟨_,_,e6⟩:=aF (show ret η3 _=_ from h6)
  have e7:η'=η3:=congrArg a1Q e6
  subst e7
  refine (eB src h1).trans (Nn.trans (b:=aj tg η1) (fun i e=>by rw [aM]; split<;>first | rfl | exact e) (iE (fun {η o η'} hf=>?_) (fun i hi=>by rw [aM,if_pos hi]) h5))
  obtain ⟨⟨u,η4⟩,h7,h8⟩:=ab (show (evE C c η).bind (onT (bq (evE C elt)) (okW none))=_ from hf)
  obtain ⟨d,h9,h10⟩:=dF h8
  cases d with
  | true =>
   rw [if_pos rfl] at h10
   obtain ⟨⟨u2,η5⟩,h11,h12⟩:=ab (show (evE C elt η4).bind jc=_ from h10)
   cases h12
   exact (aE c h7).trans (aE elt h11)
  | false =>
   rw [if_neg a0j] at h10
   cases h10
   exact aE c h7
 | .pop i es,η,η',w,h=>by
  obtain ⟨_,_,h0⟩:=ab (show (gS (rd η i)).bind (tH (evL C es) η (wG i))=_ from h)
  obtain ⟨⟨ws,η1⟩,h1,h2⟩:=ab (show (evL C es η).bind (wG i)=_ from h0)
  obtain ⟨r,h3,h4⟩:=ab (show (ofO ((rd η1 i).bind fun w=>Du w ws)).bind (fun r=>.ok (r.1,put η1 i r.2))=_ from h2)
  cases h4
  refine (eB es h1).trans (tG ?_)
  have:=cx h3
  intro e; rw [e] at this; cases this
 | .lenV i,η,η',w,h=>by obtain ⟨_,_,e⟩:=aF (show ret η ((rd η i).bind fun w=>oSem .len false [w])=_ from h); cases e; exact Nn.refl _
 | .tupA es,η,η',w,h=>by
  obtain ⟨⟨ws,η1⟩,h1,h2⟩:=ab (show (evA C es η).bind kTup=_ from h)
  cases h2; exact er es h1
 | .qx vs ls e,η,η',w,h=>by
  obtain ⟨⟨u,η1⟩,h1,h2⟩:=ab (show (evE C e (pick vs ls η)).bind (kX vs η)=_ from h)
  cases h2
  exact qk _ vs η
 | .mvP i p,η,η',w,h=>by
  obtain ⟨r,h1,h2⟩:=ab (show (ofO ((rd η i).bind (takeW p))).bind (kMvP i η)=_ from h)
  cases h2
  refine tG fun e=>?_
  have:=cx h1
  rw [e] at this; cases this
 | .callT tab k es,η,η',w,h=>by
  obtain ⟨⟨u,η1⟩,h1,h2⟩:=ab (show (evE C k η).bind (kTab tab (kCT C (evA C es) (ios es)))=_ from h)
  obtain ⟨x,j,_,_,h3⟩:=gW h2
  obtain ⟨⟨ws,η2⟩,h4,h5⟩:=ab (show (evA C es η1).bind (kCall C j (ios es))=_ from h3)
  obtain ⟨⟨r,bs⟩,h6,h7⟩:=ab (show (C j ws).bind (kBack (ios es) η2)=_ from h5)
  cases h7
  exact (aE k h1).trans (fI (iA es h4) (er es h4))
 | .inT neg ks e,η,η',w,h=>by
  obtain ⟨⟨u,η1⟩,h1,h2⟩:=ab (show (evE C e η).bind (kIn neg ks)=_ from h)
  obtain ⟨x,_,e2,_⟩:=km h2
  cases e2; exact aE e h1
 | .ixT tab e,η,η',w,h=>by
  obtain ⟨⟨u,η1⟩,h1,h2⟩:=ab (show (evE C e η).bind (kTab tab okS)=_ from h)
  obtain ⟨x,j,_,_,h3⟩:=gW h2
  cases h3; exact aE e h1
 | .getT tab e,η,η',w,h=>by
  obtain ⟨⟨u,η1⟩,h1,h2⟩:=ab (show (evE C e η).bind (ve tab)=_ from h)
  obtain ⟨x,_,e2,_⟩:=tZ h2
  cases e2; exact aE e h1
theorem eB:∀ (es:List E) {η η':Env} {ws:List W},evL C es η=.ok (ws,η')->Nn η η'
 | [],η,η',ws,h=>by cases h; exact Nn.refl _
 | e::es,η,η',ws,h=>by
  obtain ⟨w,η1,us,h1,h2,_⟩:=aB h
  exact (aE e h1).trans (eB es h2)
theorem er:∀ (es:List E) {η η':Env} {ws:List W},evA C es η=.ok (ws,η')->Nn η η'
 | [],η,η',ws,h=>by cases h; exact Nn.refl _
 | e::es,η,η',ws,h=>by
  rcases xy e with ⟨i,hi⟩ | he
  ·subst hi
   obtain ⟨us,η1,w,h1,_,_,h4⟩:=eJ h
   rw [h4]
   exact (er es h1).trans (mi _ _)
  ·obtain ⟨w,η1,us,h1,h2,_⟩:=dt he h
   exact (aE e h1).trans (er es h2)
theorem iA:∀ (es:List E) {η η':Env} {ws:List W},evA C es η=.ok (ws,η')->∀ i∈ios es,rd η i≠none
 | [],_,_,_,_,i,hi=>by simp [ios] at hi
 | e::es,η,η',ws,h,i,hi=>by
  rcases xy e with ⟨j,hj⟩ | he
  ·subst hj
   obtain ⟨us,η1,w,h1,h2,_,_⟩:=eJ h
   rcases a0l.mp (show i∈j::ios es from hi) with z | z
   ·subst z
    exact fun z=>by rw [er es h1 i z] at h2; cases h2
   ·exact iA es h1 i z
  ·obtain ⟨w,η1,us,h1,h2,_⟩:=dt he h
   have hi':i∈ios es:=by
    cases e with
    | io j=>exact absurd rfl (he j)
    | _=>exact hi
   exact fun z=>iA es h2 i hi' (aE e h1 i z)
end
end
section
variable {K:a0a}{sl:Cf}{sf sg:Nat->Option Nat}{C:Call}{σ σ2:L2.St}{Z Z' Z1:Fp}{H H' H1:Hp}{Fs Fs' Fs1:Fps}{η η' η1 ηb:Env}{G G' R F:Fp}{tg is:List Nat}{pv val:Nat->Option V}
noncomputable def gT (K:a0a):Nat->TG
 | 1=>cT 0
 | 2=>xp K 2 (fP (cT 0) (fP (cT 1) uU))
 | _=>fun _ _ _ _=>False
theorem At.put1 {i:Nat}{w:W}{x:V}(A:At K sl σ Z H Fs η G)(r:Rep K Z H w.1 w.2 x (Fs i))(hl:∀ j,sl.sl i=some j->σ[j]?=some (some x))(hp:sl.pv i=none):At K sl σ Z H Fs (put η i w) G:=by
 refine ⟨A.gd,fun j m t e=>?_,A.own,A.dis,A.lk,A.ln⟩
 rw [bD] at e
 split at e
 ·rename_i hc
  cases e
  obtain ⟨rfl,_⟩:=hc
  exact ⟨x,r,hl,fun u hu=>by rw [hp] at hu; cases hu⟩
 ·exact A.env j m t e
theorem ky {k j0:Nat}{v:V}(h1:is[k]?=some j0)(h2:σ[j0]?=some (some v)):(cj σ is)[k]?=some (some v):=by
 unfold cj
 rw [a0x,h1]
 show some ((σ[j0]?).join)=_
 rw [h2]
 rfl
theorem jm (I:jd sf sg tg is)(h:σ2.length=tg.length+is.length):∀ i j,sg i=some j->j < σ2.length:=fun i j hj=>by
 rcases I i j hj with ⟨k,hk,rfl⟩ | ⟨_,k,j0,rfl,hk,_⟩
 ·have:=(a0q.mp hk).1
  omega
 ·have:=(a0q.mp hk).1
  omega
theorem pU {n i:Nat}{J:It}{ts:List (List W)}{ws:List W}{x:V}{Q:L2.St->Hp->Prop}(hn:tg.length=n)(nd:tg.Nodup)(I:jd sf sg tg is)(hz:∀ a,Z1 a->Z a)(st:Stay Z1 H1 H)(yl:Yld K J Z1 H1 ts n)(A:At K ⟨sf,val⟩ σ Z H Fs η G)
  (ht:∀ i∈tg,rd η i=none) (hw:ts[i]?=some ws) (hb:bindT tg ws η=some ηb) (y:J.yld i H x H')
  (k:∀ σ2 H2,At K ⟨sg,inV val tg⟩ σ2 Z H2 Fs ηb G->Step Z H no Z H2 no->(σ2.length=n+(cj σ is).length/\σ2.drop n=cj σ is)->Q σ2 H2):gT K n x (a0e n none++cj σ is) H' Q:=by
 have hi:i < ts.length:=(a0q.mp hw).1
 have own0:∀ {t:Nat},t∈tg->inV val tg t=none:=fun {t} h=>if_pos h
 match n,yl with
 | 1,yl =>
  obtain ⟨e0,w,hw',r⟩:=yl H i x H' st hi y
  rw [e0]
  rw [hw] at hw'; cases hw'
  match tg,hn with
  | [t],_ =>
   cases hb
   have r':Rep K Z H w.1 w.2 x (Fs t):=(r.zmono hz).mono fun _ z=>z.elim
   refine k _ H ?_ (Step.refl _ _ _) ⟨by simp [a21],rfl⟩
   refine (A.into (σ2:=some x::cj σ is) I ht (fun k j0 v h1 h2=>?_) (jm I (by simp [cj,a21]))).put1 r' (fun j hj=>?_) (own0 (by simp))
   ·rw [a0A,a21,a0D]; exact ky h1 h2
   ·rcases I t j hj with ⟨k,hk,rfl⟩ | ⟨h,_⟩
    ·cases j with
     | zero=>rfl
     | succ _=>simp at hk
    ·exact absurd (a0w.mpr rfl) h
 | 2,yl =>
  obtain ⟨p,y1,z1,u,w,rfl,sm,hq,hw',r1,r2⟩:=yl H i x H' st hi y
  rw [hw] at hw'; cases hw'
  match tg,hn with
  | [t,t'],_ =>
   cases hb
   have hne:t≠t':=fun z=>by simp [z] at nd
   have s1:Step Z H G Z H' G:=eZ sm
   have o1:Own Z H' G:=fun a ha=>by
    obtain ⟨nz,ys,e⟩:=A.own a ha
    exact ⟨nz,ys,sm _ _ e⟩
   obtain ⟨A1,_⟩:=A.op o1 s1
   have sn:Stay Z H H':=iu sm
   have r1':Rep K Z H' u.1 u.2 y1 (Fs t):=((r1.zmono hz).keep sn (fun _ z=>z) fun _ _ z=>z.elim).mono fun _ z=>z.elim
   have r2':Rep K Z H' w.1 w.2 z1 (Fs t'):=((r2.zmono hz).keep sn (fun _ z=>z) fun _ _ z=>z.elim).mono fun _ z=>z.elim
   have s0:Step Z H no Z H' no:=eZ sm
   refine ⟨p,[y1,z1],rfl,hq,rfl,y1,[z1],rfl,z1,[],rfl,rfl,k (some y1::some z1::cj σ is) _ ?_ s0 ⟨by simp; omega,rfl⟩⟩
   refine ((A1.into (σ2:=some y1::some z1::cj σ is) I ht (fun k j0 v h1 h2=>?_) (jm I (by simp [cj]; omega))).put1 r1' (fun j hj=>?_) (own0 (by simp))).put1 r2' (fun j hj=>?_) (own0 (by simp))
   ·rw [show [t,t'].length+k=k+1+1 by simp; omega,a0D,a0D]; exact ky h1 h2
   ·rcases I t j hj with ⟨k,hk,rfl⟩ | ⟨h,_⟩
    ·match j,hk with
     | 0,_=>rfl
     | 1,hk=>exact absurd (a0G hk).symm hne
    ·exact absurd (by simp) h
   ·rcases I t' j hj with ⟨k,hk,rfl⟩ | ⟨h,_⟩
    ·match j,hk with
     | 0,hk=>exact absurd (a0G hk) hne
     | 1,_=>rfl
    ·exact absurd (by simp) h
noncomputable def eI (Fs:Fps)(tg:List Nat):Fps:=fun j a=>j ∉ tg/\Fs j a
theorem dw {a:Addr}(h:tot (eI Fs tg) a):tot Fs a:=let ⟨j,_,h2⟩:=h; ⟨j,h2⟩
theorem At.dels (A:At K sl σ Z H Fs η G):At K sl σ Z H (eI Fs tg) (aj tg η) G:=by
 refine ⟨⟨fun a h=>A.gd.own a (dw h),fun i j a h1 h2=>A.gd.dis i j a h1.2 h2.2,A.gd.zal⟩,fun i m t e=>?_,A.own,fun a h q=>A.dis a h (dw q),A.lk,A.ln⟩
 rw [aM] at e
 split at e
 ·cases e
 ·rename_i hi
  obtain ⟨v,r,h⟩:=A.env i m t e
  exact ⟨v,r.mono fun a ha=>⟨hi,ha⟩,h⟩
theorem iq:∀ {tg:List Nat} {t:List W} {η η1:Env},bindT tg t η=some η1->∀ i,i ∉ tg->rd η1 i=rd η i
 | [],[],η,η1,h,i,_=>by cases h; rfl
 | [],_::_,_,_,h,_,_=>by cases h
 | _::_,[],_,_,h,_,_=>by cases h
 | j::tg,w::t,η,η1,h,i,hi=>by
  rw [iq (show bindT tg t (put η j w)=some η1 from h) i fun z=>hi (a0c _ z),bD,if_neg fun z=>hi (by rw [z.1]; exact a0d)]
structure CSt (K:a0a)(sf:Nat->Option Nat)(val:Nat->Option V)(σ:L2.St)(tg:List Nat)(f:Env->Res (Option W×Env))(ts:List (List W))(η0:Env)(us:List W)(η3:Env)(Z1:Fp)(H1:Hp)(F1:Fp)(i:Nat)(ys:List V)(H:Hp):Prop where
 ex:∃ (Z:Fp) (Fs:Fps) (η:Env) (acc:List W) (G:Fp),At K ⟨sf,val⟩ σ Z H Fs η G/\RepW K Z H acc ys G/\az tg f (ts.drop i) η acc=.ok (us,η3)/\(∀ j∈tg,rd η j=none)/\(∀ j∈tg,∀ a,¬ Fs j a)/\Nn η0 η/\Step Z1 H1 F1 Z H (fun a=>tot Fs a\/G a)
 len:ys.length<=i
theorem rq {h:Bool}{us:List W}{ys:List V}{w:W}{Q:VK}(o:Own Z H G)(za:∀ a,Z a->H a≠none)(r:RepW K Z H us ys G)(hl:ys.length<=LIM)(hn:(if h then (if us.all okD then some ((.d,.lst (ax us)):W) else none) else some (.o .s,.lst (ax us)))=some w)(k:Out K Z H G w Q):∀ p,H p=none->Q (.ref p) (upd H p (.lst ys)):=by
 intro p hp
 cases h with
 | true =>
  rw [if_pos rfl] at hn
  split at hn
  ·rename_i ha
   cases hn
   rw [a0L] at ha
   obtain ⟨G',g1,g2⟩:=RepW.to (N:=.d) (fun u hu=>by
    have:=ha u hu
    unfold okD at this
    rw [a3B] at this
    unfold M.lf
    split
    ·rfl
    ·rename_i hnl
     rcases this with z | z
     ·rw [eq_of_beq z]; rfl
     ·exact absurd z hnl) r
   exact cp (m:=.d) o za g1 hl g2 (by simp) k hp
  ·cases hn
 | false =>
  rw [if_neg a0j] at hn
  cases hn
  obtain ⟨G',g1,g2⟩:=RepW.to (N:=.s) (fun u hu=>by cases M.lf u.1 u.2<;>rfl) r
  exact cp (m:=.o .s) o za g1 hl g2 (by simp) k hp
end
end MR
namespace MR
open L2 L3 M
open PySem (Addr Str sizeLine)
section
variable {K:a0a}{sf sg:Nat->Option Nat}{C:Call}{tg is:List Nat}
theorem fE {α:Type}{l:List α}{i:Nat}{a:α}(h:l[i]?=some a):l.drop i=a::l.drop (i+1):=by
 obtain ⟨h1,h2⟩:=a0q.mp h
 rw [a1E h1,h2]
theorem lS {h:Bool}{k:Ik}{f:Env->Res (Option W×Env)}{p:List W×Env}{w:W}{η':Env}(e:fg h k tg f p=.ok (w,η')):∃ ts us,turns k p.1=some ts/\az tg f ts (aj tg p.2) []=.ok (us,η')/\(if h then (if us.all okD then some ((.d,.lst (ax us)):W) else none) else some (.o .s,.lst (ax us)))=some w:=by
 obtain ⟨⟨ts,η2⟩,h3,h4⟩:=ab (show (ret (aj tg p.2) (turns k p.1)).bind (fun t=>(az tg f t.1 t.2 []).bind (kA h))=_ from e)
 obtain ⟨ts',ht,e3⟩:=aF h3
 have e4:ts=ts':=congrArg a2p e3
 have e5:η2=aj tg p.2:=congrArg a1Q e3
 subst e4 e5
 obtain ⟨⟨us,η3⟩,h5,h6⟩:=ab (show (az tg f ts (aj tg p.2) []).bind (kA h)=_ from h4)
 obtain ⟨w',hw,e6⟩:=aF (show ret η3 (if h then (if us.all okD then some ((.d,.lst (ax us)):W) else none) else some (.o .s,.lst (ax us)))=_ from h6)
 have e7:w=w':=congrArg a2p e6
 have e8:η'=η3:=congrArg a1Q e6
 subst e7 e8
 exact ⟨ts,us,ht,h5,hw⟩
theorem l7 {f:Env->Res (Option W×Env)}{t:List W}{ts:List (List W)}{η η3:Env}{acc us:List W}(e:az tg f (t::ts) η acc=.ok (us,η3)):∃ ηb o ηc,bindT tg t η=some ηb/\f ηb=.ok (o,ηc)/\az tg f ts (aj tg ηc) (acc++o.toList)=.ok (us,η3):=by
 obtain ⟨η1,h1,h2⟩:=ab (show (ofO (bindT tg t η)).bind (fun η1=>(f η1).bind fun p=>az tg f ts (aj tg p.2) (acc++p.1.toList))=_ from e)
 obtain ⟨⟨o,η2⟩,h3,h4⟩:=ab h2
 exact ⟨η1,o,η2,cx h1,h3,h4⟩
theorem pb {n:Nat}{h:Bool}{k:Ik}{src:List E}{f:Env->Res (Option W×Env)}{te:L2.St->Hp->(Option V->Hp->Prop)->Prop}(hn:tg.length=n)(nd:tg.Nodup)(I:jd sf sg tg is)
  (hf:∀ {η o η'},f η=.ok (o,η')->Nn η η')
  (hte:∀ {val:Nat->Option V} {σ2:L2.St} {Z:Fp} {H:Hp} {Fs:Fps} {η ηc:Env} {R:Fp} {o:Option W} {Q:Option V->Hp->Prop},At K ⟨sg,val⟩ σ2 Z H Fs η R->f η=.ok (o,ηc) ->
   (∀ oy Z' H' Fs' G,At K ⟨sg,val⟩ σ2 Z' H' Fs' ηc (fun c=>R c\/G c)->(match o,oy with | some w,some y=>Rep K Z' H' w.1 w.2 y G | none,none=>True | _,_=>False)->(∀ c,R c->¬ G c)->Step Z H (tot Fs) Z' H' (fun a=>tot Fs' a\/G a)->Q oy H')->te σ2 H Q)
  {e:E} (he:∀ η,evE C e η=(evL C src η).bind (fg h k tg f)) (σ:L2.St) (H:Hp) (Q:VK) (hw:wE K sf C e σ H Q) :
  wI K sf C n k src σ H fun J H1=>∃ W:Nat->Nat->List V->Hp->Prop,(∃ m,W 0 m [] H1)/\∀ i m ys H,W i m ys H ->
   (J.stop i H/\ys.length<=sizeLine/\∀ p,H p=none->Q (.ref p) (upd H p (.lst ys))) \/
   (J.go i H/\ys.length < sizeLine/\∀ x H',J.yld i H x H'->gT K n x (a0e n none++cj σ is) H' fun σ2 H2=>(σ2.length=n+(cj σ is).length/\σ2.drop n=cj σ is)/\te σ2 H2 fun oy H3=>∃ m',m' < m/\W (i+1) m' (ys++oy.toList) H3):=by
 obtain ⟨pv,Z,Fs,η,w,η',A,ev,kk⟩:=hw
 rw [he] at ev
 obtain ⟨⟨ws,η1⟩,h1,h2⟩:=ab ev
 obtain ⟨ts,us,ht,h3,h4⟩:=lS h2
 refine ⟨pv,Z,Fs,η,ws,η1,ts,A,h1,ht,fun J Z1 H1 Fs1 A1 s1 wk yl=>?_⟩
 obtain ⟨val,v1,A2,v2⟩:=(A1.dels (tg:=tg)).pin
 have s1':Step Z H (tot Fs) Z1 H1 (tot (eI Fs1 tg)):=s1.mono (fun _ z=>z) fun _ z=>dw z
 refine ⟨fun i m ys H=>m=ts.length-i/\i<=ts.length/\CSt K sf val σ tg f ts (aj tg η1) us η' Z1 H1 (tot (eI Fs1 tg)) i ys H,⟨ts.length,by simp,a0Y _,⟨⟨Z1,eI Fs1 tg,aj tg η1,[],no,A2,rfl,h3,fun j hj=>by rw [aM,if_pos hj],fun j hj a ha=>ha.1 hj,Nn.refl _,(Step.refl _ _ _).mono (fun _ z=>z) fun a ha=>ha.elim id fun z=>z.elim⟩,a0h _⟩⟩,?_⟩
 rintro i m ys H0 ⟨rfl,hi,⟨⟨Zi,Fsi,ηi,acc,Ga,Ai,ra,hc,htg,hfp,hnn,si⟩,hlen⟩⟩
 have st:Stay Z1 H1 H0:=A2.gd.own.stay si
 have hL:=wk.len
 by_cases hlt:i < ts.length
 ·right
  refine ⟨wk.go H0 i st hlt,a2w (a0o hlen hi) (mD hL),fun x H2 y=>?_⟩
  have hw:ts[i]?=some ts[i]:=by simp [hlt]
  rw [fE hw] at hc
  obtain ⟨ηb,o,ηc,hb,hfe,hc2⟩:=l7 hc
  refine pU hn nd I si.zm st yl Ai htg hw hb y fun σ2 H3 A3 s3 hσ=>⟨hσ,?_⟩
  refine hte A3 hfe fun oy Z4 H4 Fs4 G4 A4 r4 d4 s4=>⟨ts.length-(i+1),by omega,rfl,hlt,⟨?_,?_⟩⟩
  ·have ra3:RepW K Zi H3 acc ys Ga:=ra.frame ck s3 fun _ _ z=>z
   have ra4:RepW K Z4 H4 acc ys Ga:=ra3.frame A3.gd.own s4 A3.dis
   have vv:∀ j m t,rd (aj tg ηc) j=some (m,t)->val j≠none:=fun j m t e=>by
    rw [aM] at e
    split at e
    ·cases e
    ·rename_i hj
     have n1:rd ηb j≠none:=fun z=>by rw [hf hfe j z] at e; cases e
     rw [iq hb j hj] at n1
     have n2:rd (aj tg η1) j≠none:=fun z=>n1 (hnn j z)
     cases e2:rd (aj tg η1) j with
     | none=>exact absurd e2 n2
     | some u=>exact v2 j u.1 u.2 e2
   have A5:=(A4.dels (tg:=tg)).outof (sf:=sf) (σ:=σ) (val:=val) (fun j hj=>by rw [aM,if_pos hj]) vv Ai.lk Ai.ln
   have s5:Step Z1 H1 (tot (eI Fs1 tg)) Z4 H4 (fun a=>tot (eI Fs4 tg) a\/(Ga a\/G4 a)):=by
    refine (si.trans (((s3.frame (fun a=>tot Fsi a\/Ga a)).mono (fun a ha=>ha.elim (fun z=>z.elim) id) fun a ha=>.inr ha).trans (s4.frame Ga))).mono (fun _ z=>z) fun a ha=>?_
    rcases ha with z | z | z
    ·exact .inl (.inl (dw z))
    ·exact .inr z
    ·exact .inl (.inr z)
   refine ⟨Z4,eI Fs4 tg,aj tg ηc,acc++o.toList,fun c=>Ga c\/G4 c,A5,?_,hc2,fun j hj=>by rw [aM,if_pos hj],fun j hj a ha=>ha.1 hj,fun j e=>?_,s5⟩
   ·cases o with
    | none =>
     cases oy with
     | none=>rw [a3j,a3j,a0y,a0y]; exact ra4.mono fun _ z=>.inl z
     | some _=>exact r4.elim
    | some w4 =>
     cases oy with
     | none=>exact r4.elim
     | some y4=>exact RepW.append (fun _ z=>.inl z) (fun _ z=>.inr z) d4 ra4 (RepW.one r4)
   ·have e':=hnn j e
    rw [aM]
    split
    ·rfl
    ·rename_i hj
     exact hf hfe j (by rw [iq hb j hj]; exact e')
  ·have:ys.length<=i:=hlen
   cases oy<;>simp<;>omega
 ·left
  have hi':i=ts.length:=by omega
  subst hi'
  rw [a2S] at hc
  cases hc
  refine ⟨wk.stop H0 _ st (a0h _),bR (a0o hlen hL),rq Ai.own Ai.gd.zal ra (a0o hlen hL) h4 (cY (Ai.unpin v1) (s1'.trans si) kk)⟩
theorem fh {n:Nat}{h:Bool}{k:Ik}{src:List E}{elt:E}(hn:tg.length=n)(nd:tg.Nodup)(I:jd sf sg tg is)(σ:L2.St)(H:Hp)(Q:VK)(hw:wE K sf C (.comp h k src tg none elt) σ H Q):j9 n (wI K sf C n k src) is (gT K n) (wE K sg C elt) σ H Q:=by
 refine pb (te:=fun σ2 H Q=>wE K sg C elt σ2 H fun y H'=>Q (some y) H') hn nd I (fun {η o η'} hf=>?_) (fun {val σ2 Z H Fs η ηc R o Q} A hf k=>?_) (fun η=>rfl) σ H Q hw
 ·obtain ⟨⟨u,η4⟩,h7,h8⟩:=ab (show (evE C elt η).bind jc=_ from hf)
  cases h8
  exact aE elt h7
 ·obtain ⟨⟨u,η4⟩,h7,h8⟩:=ab (show (evE C elt η).bind jc=_ from hf)
  cases h8
  exact pW A h7 fun v Z' H' Fs' G B r d s _=>k (some v) Z' H' Fs' G B r d s
end
end MR
namespace MR
open L2 L3 M
open PySem (Addr Str sizeLine)
section
variable {K:a0a}{sl:Cf}{sf sg:Nat->Option Nat}{C:Call}{σ σ2:L2.St}{Z Z' Z1:Fp}{H H' H1:Hp}{Fs Fs' Fs1:Fps}{η η' η1 ηb:Env}{G G' G1 R F:Fp}{tg is:List Nat}{pv val:Nat->Option V}
noncomputable def oG (Fs:Fps)(i:Nat)(G:Fp):Fps:=fun j a=>(j=i/\G a)\/(j≠i/\Fs j a)
theorem bu {i:Nat}{a:Addr}(h:tot (oG Fs i G) a):tot Fs a\/G a:=by
 obtain ⟨j,h | h⟩:=h
 ·exact .inr h.2
 ·exact .inl ⟨j,h.2⟩
theorem At.put {i:Nat}{w:W}{x:V}(A:At K sl σ Z H Fs η G)(r:Rep K Z H w.1 w.2 x G1)(h1:∀ a,G1 a->G a)(h2:∀ a,R a->G a)(hd:∀ a,R a->¬ G1 a)(hl:∀ j,sl.sl i=some j->σ[j]?=some (some x))(hp:∀ u,sl.pv i=some u->x=u) :
  At K sl σ Z H (oG Fs i G1) (M.put η i w) R:=by
 refine ⟨⟨fun a h=>(bu h).elim (A.gd.own a) fun q=>A.own a (h1 a q),fun j k a hj hk=>?_,A.gd.zal⟩,fun j m t e=>?_,fun a h=>A.own a (h2 a h),fun a h q=>(bu q).elim (A.dis a (h2 a h)) (hd a h),A.lk,A.ln⟩
 ·rcases hj with ⟨rfl,hj⟩ | ⟨nj,hj⟩
  ·rcases hk with ⟨rfl,_⟩ | ⟨nk,hk⟩
   ·rfl
   ·exact absurd ⟨k,hk⟩ (A.dis a (h1 a hj))
  ·rcases hk with ⟨rfl,hk⟩ | ⟨nk,hk⟩
   ·exact absurd ⟨j,hj⟩ (A.dis a (h1 a hk))
   ·exact A.gd.dis j k a hj hk
 ·rw [bD] at e
  split at e
  ·rename_i hc
   cases e
   obtain ⟨rfl,_⟩:=hc
   exact ⟨x,r.mono fun a h=>.inl ⟨rfl,h⟩,hl,hp⟩
  ·rename_i hc
   obtain ⟨v,r',h'⟩:=A.env j m t e
   by_cases hj:j=i
   ·subst hj
    exact absurd ⟨rfl,ej e⟩ hc
   ·exact ⟨v,r'.mono fun a h=>.inr ⟨hj,h⟩,h'⟩
noncomputable def wA (K:a0a)(sl:Nat->Option Nat)(C:Call)(es:List E):TA:=fun σ H Q=>∃ pv Z Fs η ws η',At K ⟨sl,pv⟩ σ Z H Fs η no/\evA C es η=.ok (ws,η') /\
 ∀ vs Z' H' Fs' G,At K ⟨sl,pv⟩ σ Z' H' Fs' η' G->RepW K Z' H' ws vs G->Step Z H (tot Fs) Z' H' (fun a=>tot Fs' a\/G a)->(∀ (k i:Nat) (u:V),es[k]?=some (.io i)->pv i=some u->vs[k]?=some u)->Q vs H'
theorem Aa (σ:L2.St)(H:Hp)(Q:List V->Hp->Prop)(h:wA K sf C [] σ H Q):By σ H Q:=by
 obtain ⟨pv,Z,Fs,η,ws,η',A,ev,k⟩:=h
 cases ev
 exact k [] Z H Fs no A rfl ((Step.refl _ _ _).mono (fun _ z=>z) fun a ha=>ha.elim id fun z=>z.elim) fun k i u h _=>by simp at h
theorem D9 {es:List E}{ws:List W}{Q:List V->Hp->Prop}(A:At K sl σ Z H Fs η R)(ev:evA C es η=.ok (ws,η'))
  (k:∀ vs Z' H' Fs' G,At K sl σ Z' H' Fs' η' (fun c=>R c\/G c)->RepW K Z' H' ws vs G->(∀ c,R c->¬ G c)->Step Z H (tot Fs) Z' H' (fun a=>tot Fs' a\/G a) ->
   Step Z H (fun c=>tot Fs c\/R c) Z' H' (fun c=>tot Fs' c\/(R c\/G c))->(∀ (k i:Nat) (u:V),es[k]?=some (.io i)->sl.pv i=some u->vs[k]?=some u)->Q vs H'):wA K sl.sl C es σ H Q :=
 ⟨sl.pv,Z,Fs,η,ws,η',A.bare,ev,fun v Z' H' Fs' G B r s hio=>by
  obtain ⟨h1,h2,h3⟩:=A.frame B s
  exact k v Z' H' Fs' G h1 r h3 s h2 hio⟩
theorem qr {e:E}{es:List E}(he:∀ i,e≠.io i)(σ:L2.St)(H:Hp)(Q:List V->Hp->Prop)(h:wA K sf C (e::es) σ H Q):nX (wE K sf C e) (wA K sf C es) σ H Q:=by
 obtain ⟨pv,Z,Fs,η,ws,η',A,ev,k⟩:=h
 obtain ⟨w,η1,us,h1,h2,rfl⟩:=dt he ev
 refine pW A h1 fun x Z1 H1 Fs1 G1 A1 r1 _ s1 _=>?_
 have A1':=A1.mono (G':=G1) fun _ z=>.inr z
 refine D9 A1' h2 fun xs Z2 H2 Fs2 G2 A2 r2 d2 s2 t2 hio=>?_
 refine k (x::xs) Z2 H2 Fs2 _ A2 ⟨x,xs,G1,G2,rfl,fun _ z=>.inl z,fun _ z=>.inr z,d2,r1.frame A1.gd.own s2 A1'.dis,r2⟩ (s1.trans t2) fun k i u h hu=>?_
 cases k with
 | zero=>exact absurd (a0G h) (he i)
 | succ k=>exact hio k i u h hu
theorem pP {i j:Nat}{es:List E}(hs:sf i=some j)(σ:L2.St)(H:Hp)(Q:List V->Hp->Prop)(h:wA K sf C (.io i::es) σ H Q):nX (oN j) (wA K sf C es) σ H Q:=by
 obtain ⟨pv,Z,Fs,η,ws,η',A,ev,k⟩:=h
 obtain ⟨us,η1,w,h1,h2,rfl,rfl⟩:=eJ ev
 obtain ⟨m,t⟩:=w
 cases e0:rd η i with
 | none=>rw [er es h1 i e0] at h2; cases h2
 | some w0 =>
  obtain ⟨v,_,hv⟩:=A.env i w0.1 w0.2 e0
  refine ⟨v,hv.1 j hs,pv,Z,Fs,η,us,η1,A,h1,fun xs Z2 H2 Fs2 G2 A2 r2 s2 hio=>?_⟩
  obtain ⟨v',r,hv'⟩:=A2.env i m t h2
  have ev':v'=v:=by
   have e1:=hv.1 j hs
   rw [hv'.1 j hs] at e1
   exact a0G (a0G e1)
  subst ev'
  have A3:At K ⟨sf,pv⟩ σ Z2 H2 (Ae Fs2 i) (del η1 i) (fun a=>Fs2 i a\/G2 a):=by
   refine ⟨⟨fun a ⟨l,h1,h2⟩=>A2.gd.own a ⟨l,h2⟩,fun l l' a h1 h2=>A2.gd.dis l l' a h1.2 h2.2,A2.gd.zal⟩,fun l m' t' e=>?_,fun a ha=>ha.elim (fun z=>A2.gd.own a ⟨i,z⟩) (A2.own a),fun a ha ⟨l,h1,h2⟩=>ha.elim (fun z=>h1 (A2.gd.dis l i a h2 z)) fun z=>A2.dis a z ⟨l,h2⟩,A2.lk,A2.ln⟩
   rw [bD] at e
   split at e
   ·cases e
   ·rename_i hne
    obtain ⟨v'',r',hv''⟩:=A2.env l m' t' e
    have hli:l≠i:=fun z=>hne ⟨z,ej h2⟩
    exact ⟨v'',r'.mono fun a ha=>⟨hli,ha⟩,hv''⟩
  refine k (v'::xs) Z2 H2 (Ae Fs2 i) _ A3 ⟨v',xs,Fs2 i,G2,rfl,fun _ z=>.inl z,fun _ z=>.inr z,fun a z y=>A2.dis a y ⟨i,z⟩,r,r2⟩ (s2.mono (fun _ z=>z) fun a ha=>?_) fun k i' u h hu=>?_
  ·rcases ha with ⟨l,_,z⟩ | z | z
   ·exact .inl ⟨l,z⟩
   ·exact .inl ⟨i,z⟩
   ·exact .inr z
  ·cases k with
   | zero=>cases h; rw [<- hv'.2 u hu]; rfl
   | succ k=>exact hio k i' u h hu
noncomputable def atV (io:List Nat)(vs:List V):List V:=io.filterMap fun i=>vs[i]?
noncomputable def spC (K:a0a)(C:Call)(f:Nat)(io:List Nat):List V->Hp->VK->Prop:=fun vs H Q=>∃ Z ws G w bs,RepW K Z H ws vs G/\Own Z H G/\(∀ a,Z a->H a≠none)/\C f ws=.ok (w,bs) /\
 ∀ v Z' H' G1 G2,Rep K Z' H' w.1 w.2 v G1->RepW K Z' H' bs (atV io vs) G2->(∀ a,G1 a->¬ G2 a)->Own Z' H' (fun a=>G1 a\/G2 a)->Step Z H G Z' H' (fun a=>G1 a\/G2 a)->Q v H'
noncomputable def f6:List E->Nat->List Nat
 | [],_=>[]
 | .io _::es,n=>n::f6 es (n+1)
 | _::es,n=>f6 es (n+1)
theorem xS {vs:List V}:∀ {es:List E} {n:Nat},(∀ (k i:Nat) (u:V),es[k]?=some (.io i)->pv i=some u->vs[n+k]?=some u)->(∀ i∈ios es,pv i≠none)->(ios es).filterMap pv=atV (f6 es n) vs
 | [],_,_,_=>rfl
 | e::es,n,h,hv=>by
  have rest:(∀ i∈ios es,pv i≠none)->(ios es).filterMap pv=atV (f6 es (n+1)) vs:=fun q=>xS (fun k i u hk hu=>by have:=h (k+1) i u hk hu; rw [show n+(k+1)=n+1+k by omega] at this; exact this) q
  cases e with
  | io i =>
   cases hu:pv i with
   | none=>exact absurd hu (hv i (by simp [ios]))
   | some u =>
    have h0:=h 0 i u rfl hu
    rw [a3R] at h0
    show (i::ios es).filterMap pv=(n::f6 es (n+1)).filterMap fun i=>vs[i]?
    rw [a06,a06,hu,h0]
    exact congrArg (u::·) (rest fun j hj=>hv j (by simp [ios,hj]))
  | _=>exact rest fun j hj=>hv j hj
theorem At.putAll:∀ {is:List Nat} {bs:List W} {Fs:Fps} {η:Env} {G2:Fp},At K ⟨sf,val⟩ σ Z H Fs η (fun a=>R a\/G2 a)->(∀ a,R a->¬ G2 a)->RepW K Z H bs (is.filterMap val) G2->(∀ i∈is,val i≠none)->∃ Fs',At K ⟨sf,val⟩ σ Z H Fs' (M.putAll is bs η) R/\∀ a,tot Fs' a->tot Fs a\/G2 a
 | [],bs,Fs,η,G2,A,_,_,_=>⟨Fs,A.mono fun _ z=>.inl z,fun _ z=>.inl z⟩
 | i::is,[],Fs,η,G2,A,_,_,_=>⟨Fs,A.mono fun _ z=>.inl z,fun _ z=>.inl z⟩
 | i::is,b::bs,Fs,η,G2,A,hd,r,hv=>by
  cases hu:val i with
  | none=>exact absurd hu (hv i a0d)
  | some u =>
   rw [a06,hu] at r
   obtain ⟨x,r',A1,A2,e,a1,a2,ad,p,q⟩:=r
   cases e
   have B:=At.put (i:=i) (R:=fun a=>R a\/A2 a) (G1:=A1) A p (fun a h=>.inr (a1 a h)) (fun a h=>h.imp id (a2 a)) (fun a h q=>h.elim (fun z=>hd a z (a1 a q)) fun z=>ad a q z) (fun j hj=>A.lk i u j hu hj) (fun u' hu'=>by rw [show val i=some u' from hu'] at hu; cases hu; rfl)
   obtain ⟨Fs',B1,B2⟩:=At.putAll (is:=is) (bs:=bs) B (fun a h q=>hd a h (a2 a q)) q fun j hj=>hv j (a0c _ hj)
   exact ⟨Fs',B1,fun a h=>(B2 a h).elim (fun z=>(bu z).imp id (a1 a)) fun z=>.inr (a2 a z)⟩
theorem jI {f:Nat}{es:List E}{io:List Nat}(hio:f6 es 0=io\/ios es=[])(σ:L2.St)(H:Hp)(Q:VK)(h:wE K sf C (.call f es) σ H Q):wA K sf C es σ H fun vs H1=>spC K C f io vs H1 Q:=by
 obtain ⟨pv,Z,Fs,η,w,η',A,ev,k⟩:=h
 obtain ⟨⟨ws,η1⟩,h1,h2⟩:=ab (show (evA C es η).bind (kCall C f (ios es))=_ from ev)
 obtain ⟨⟨u,bs⟩,h3,h4⟩:=ab (show (C f ws).bind (kBack (ios es) η1)=_ from h2)
 cases h4
 obtain ⟨val,v1,A2,v2⟩:=A.pin
 have hvn:∀ i∈ios es,val i≠none:=fun i hi=>by
  cases e:rd η i with
  | none=>exact absurd e (iA es h1 i hi)
  | some q=>exact v2 i q.1 q.2 e
 refine ⟨val,Z,Fs,η,ws,η1,A2,h1,fun vs Z1 H1 Fs1 G B r s hv=>?_⟩
 refine ⟨Z1,ws,G,u,bs,r,B.own,B.gd.zal,h3,fun v Z2 H2 G1 G2 r1 r2 d o st=>?_⟩
 obtain ⟨B2,s2⟩:=B.op o st
 have fin:∃ Fs',At K ⟨sf,val⟩ σ Z2 H2 Fs' (M.putAll (ios es) bs η1) G1/\∀ a,tot Fs' a->tot Fs1 a\/G2 a:=by
  rcases hio with e | e
  ·have e2:=xS (pv:=val) (es:=es) (n:=0) (vs:=vs) (fun k i u' hk hu=>by rw [a1f]; exact hv k i u' hk hu) hvn
   rw [e] at e2
   rw [<- e2] at r2
   exact At.putAll B2 d r2 hvn
  ·rw [e]
   exact ⟨Fs1,B2.mono fun _ z=>.inl z,fun _ z=>.inl z⟩
 obtain ⟨Fs',B3,hF⟩:=fin
 refine k v Z2 H2 Fs' G1 (B3.unpin v1) r1 ((s.trans s2).mono (fun _ z=>z) fun a ha=>?_)
 rcases ha with z | z
 ·exact (hF a z).imp id .inr
 ·exact .inr (.inl z)
end
end MR
namespace MR
open L2 L3 M
open PySem (Addr Str sizeLine)
section
variable {K:a0a}{sl:Cf}{sf sg:Nat->Option Nat}{C:Call}{σ σ2:L2.St}{Z Z' Z1:Fp}{H H' H1:Hp}{Fs Fs' Fs1:Fps}{η η' η1 ηb:Env}{G G' G1 R F F':Fp}{tg is vs ls:List Nat}{pv val:Nat->Option V}
theorem tq (o:Option W):toS (toS o)=toS o:=by
 cases o with
 | none=>rfl
 | some w=>rfl
theorem iy:∀ (vs:List Nat) (η:Env) (i:Nat),rd (share vs η) i=if i∈vs then toS (rd η i) else rd η i
 | [],η,i=>by simp [share]
 | v::vs,η,i=>by
  show rd (share vs (wr η v (toS (rd η v)))) i=_
  rw [iy vs,bD]
  by_cases h2:i=v
  ·subst h2
   rw [if_pos (show i∈i::vs from a0d)]
   by_cases hl:i < η.length
   ·rw [if_pos (show i=i/\i < η.length from ⟨rfl,hl⟩)]
    split
    ·exact tq _
    ·rfl
   ·have e:rd η i=none:=by
     cases e:rd η i with
     | none=>rfl
     | some w=>exact absurd (ej e) hl
    rw [if_neg (show ¬ (i=i/\i < η.length) from fun h=>hl h.2),e]
    split<;>rfl
  ·rw [if_neg (show ¬ (i=v/\v < η.length) from fun h=>h2 h.1)]
   by_cases h1:i∈vs
   ·rw [if_pos h1,if_pos (a0c _ h1)]
   ·rw [if_neg h1,if_neg (by simp [h1,h2])]
theorem kD:∀ (η:Env) (i:Nat),rd (ia η) i=none
 | [],_=>rfl
 | _::_,0=>rfl
 | _::η,i+1=>kD η i
theorem oi:∀ (vs:List Nat) (η0 η:Env) (i:Nat) (w:W),rd (mY vs η0 η) i=some w->rd η i=some w\/(i∈vs/\toS (rd η0 i)=some w)
 | [],_,_,_,_,h=>.inl h
 | v::vs,η0,η,i,w,h=>by
  rcases oi vs η0 (wr η v (toS (rd η0 v))) i w h with e | e
  ·rw [bD] at e
   split at e
   ·rename_i hc; obtain ⟨rfl,_⟩:=hc; exact .inr ⟨a0d,e⟩
   ·exact .inl e
  ·exact .inr ⟨a0c _ e.1,e.2⟩
theorem kF:∀ (vs:List Nat) (η0 η:Env) (i:Nat) (w:W),rd (iF vs η0 η) i=some w->rd η i=some w\/lfO (rd η0 i)=some w
 | [],_,_,_,_,h=>.inl h
 | v::vs,η0,η,i,w,h=>by
  rcases kF vs η0 (wr η v (lfO (rd η0 v))) i w h with e | e
  ·rw [bD] at e
   split at e
   ·rename_i hc; obtain ⟨rfl,_⟩:=hc; exact .inr e
   ·exact .inl e
  ·exact .inr e
theorem vC {i:Nat}{w:W}(h:rd (pick vs ls η) i=some w):∃ m t,rd η i=some (m,t)/\((i∈vs/\w=(.s,t))\/(t.leaf=true/\w=(.d,t))):=by
 rcases kF ls η _ i w h with e | e
 ·rcases oi vs η _ i w e with e | ⟨hi,e⟩
  ·rw [kD] at e; cases e
  ·cases q:rd η i with
   | none=>rw [q] at e; cases e
   | some u=>rw [q] at e; cases e; exact ⟨u.1,u.2,rfl,.inl ⟨hi,rfl⟩⟩
 ·cases q:rd η i with
  | none=>rw [q] at e; cases e
  | some u =>
   rw [q] at e
   obtain ⟨m,t⟩:=u
   have e':(if t.leaf=true then some ((.d,t):W) else none)=some w:=e
   split at e'
   ·rename_i hl; cases e'; exact ⟨m,t,rfl,.inr ⟨hl,rfl⟩⟩
   ·cases e'
noncomputable def cq (Fs:Fps)(vs:List Nat):Fp:=fun a=>∃ i,i∈vs/\Fs i a
noncomputable def oB:Fps:=fun _ _=>False
theorem c9 {a:Addr}(h:cq Fs vs a):tot Fs a:=let ⟨i,_,h⟩:=h; ⟨i,h⟩
theorem gE {a:Addr}(h:tot oB a):False:=let ⟨_,h⟩:=h; h
theorem At.quiet (A:At K sl σ Z H Fs η no):At K sl σ (fun a=>Z a\/cq Fs vs a) H oB (pick vs ls η) no:=by
 refine ⟨⟨fun a h=>(gE h).elim,fun _ _ _ h=>h.elim,fun a h=>h.elim (A.gd.zal a) fun q=>?_⟩,fun i m t e=>?_,ck,fun _ z=>z.elim,A.lk,A.ln⟩
 ·obtain ⟨_,xs,e⟩:=A.gd.own a (c9 q)
  rw [e]; simp
 ·obtain ⟨m',t',e1,e2⟩:=vC e
  obtain ⟨v,r,h⟩:=A.env i m' t' e1
  rcases e2 with ⟨hi,e2⟩ | ⟨hl,e2⟩
  ·cases e2
   exact ⟨v,(r.sh.zmono fun a h=>h.imp id fun q=>⟨i,hi,q⟩).sany,h⟩
  ·cases e2
   exact ⟨v,r.leaf (fun _ _ _ q=>q) hl,h⟩
mutual
theorem Rep.dany:∀ {t:T} {v:V} {G:Fp},Rep K Z H .d t v G->Rep K Z' H .d t v G
 | .non,_,_,h=>h
 | .bl _,_,_,h=>h
 | .int _,_,_,h=>h
 | .str _,_,_,h=>h
 | .scr _,_,_,h=>h
 | .tup ts,_,_,⟨a,xs,e,q,l,r⟩=>⟨a,xs,e,q,l,RepL.dany r⟩
 | .lst ts,_,_,⟨a,xs,e,l,q,r⟩=>⟨a,xs,e,l,q,RepL.dany r⟩
 | .dct _ _,_,_,h=>h.elim
 | .ins _ _ _,_,_,h=>h.elim
 | .gone,_,_,h=>h
theorem RepL.dany:∀ {ts:List T} {xs:List V} {G:Fp},RepL K Z H .d ts xs G->RepL K Z' H .d ts xs G
 | [],_,_,h=>h
 | t::ts,xs,_,⟨x,r,G1,G2,e,h1,h2,hd,p,q⟩=>⟨x,r,G1,G2,e,h1,h2,hd,Rep.dany p,RepL.dany q⟩
end
theorem dM (A:At K sl σ Z H Fs η no)(B:Own Z' H' G)(zal:∀ a,Z' a->H' a≠none)(s:Step (fun a=>Z a\/cq Fs vs a) H F Z' H' (fun a=>F' a\/G a))(hF:∀ a,¬ F a) :
  At K sl σ (fun a=>Z' a/\¬ cq Fs vs a) H' Fs η G/\Step Z H (tot Fs) (fun a=>Z' a/\¬ cq Fs vs a) H' (fun a=>tot Fs a\/G a):=by
 have keep:∀ a o,H a=some o->H' a=some o:=fun a o e=>s.keep a o e (hF a)
 have zz:∀ a,Z a->Z' a/\¬ cq Fs vs a:=fun a h=>⟨s.zm a (.inl h),fun q=>(A.gd.own a (c9 q)).1 h⟩
 have nz:∀ a,tot Fs a->¬ (Z' a/\¬ cq Fs vs a):=fun a h q=>by
  obtain ⟨nz,xs,e⟩:=A.gd.own a h
  rcases s.zn a q.1 with z | z | z
  ·exact z.elim nz q.2
  ·exact hF a z
  ·rw [e] at z; cases z
 have gd:∀ a,G a->¬ tot Fs a:=fun a h q=>by
  obtain ⟨_,xs,e⟩:=A.gd.own a q
  rcases s.fn a (.inr h) with z | z
  ·exact hF a z
  ·rw [e] at z; cases z
 refine ⟨⟨⟨fun a h=>?_,A.gd.dis,fun a h=>zal a h.1⟩,fun i m t e=>?_,fun a h=>⟨fun q=>(B a h).1 q.1,(B a h).2⟩,gd,A.lk,A.ln⟩,⟨fun a o e _=>keep a o e,zz,fun a h=>?_,fun a h=>?_,s.al,fun _ a h=>zal a h.1⟩⟩
 ·obtain ⟨_,xs,e⟩:=A.gd.own a h
  exact ⟨nz a h,xs,keep a _ e⟩
 ·obtain ⟨v,r,h⟩:=A.env i m t e
  refine ⟨v,r.keep ⟨fun a o _ e=>keep a o e,fun a xs e=>?_,fun a o u e=>keep a _ e⟩ zz fun a o _ e=>keep a o e,h⟩
  rcases e with e | ⟨u,e⟩
  ·exact .inl (keep a _ e)
  ·exact .inr ⟨u,keep a _ e⟩
 ·rcases s.zn a h.1 with z | z | z
  ·exact z.elim .inl fun q=>absurd q h.2
  ·exact (hF a z).elim
  ·exact .inr (.inr z)
 ·rcases h with h | h
  ·exact .inl h
  ·exact (s.fn a (.inr h)).elim (fun z=>(hF a z).elim) .inr
theorem At.share (A:At K sl σ Z H Fs η G):At K sl σ (fun a=>Z a\/cq Fs vs a) H (eI Fs vs) (M.share vs η) G/\∀ {Z0 H0 F0},Step Z0 H0 F0 Z H (fun a=>tot Fs a\/G a)->Step Z0 H0 F0 (fun a=>Z a\/cq Fs vs a) H (fun a=>tot (eI Fs vs) a\/G a):=by
 refine ⟨⟨⟨fun a h=>?_,fun i j a h1 h2=>A.gd.dis i j a h1.2 h2.2,fun a h=>h.elim (A.gd.zal a) fun q=>?_⟩,fun i m t e=>?_,fun a h=>⟨fun z=>z.elim (A.own a h).1 fun q=>A.dis a h (c9 q),(A.own a h).2⟩,fun a h q=>A.dis a h (dw q),A.lk,A.ln⟩,fun {Z0 H0 F0} s=>⟨s.keep,fun a h=>.inl (s.zm a h),fun a h=>h.elim (s.zn a) fun q=>.inr (s.fn a (.inl (c9 q))),fun a h=>s.fn a (h.imp dw id),s.al,fun z a h=>h.elim (s.za z a) fun q=>?_⟩⟩
 ·obtain ⟨i,hi,h'⟩:=h
  obtain ⟨nz,xs,e⟩:=A.gd.own a ⟨i,h'⟩
  exact ⟨fun z=>z.elim nz fun ⟨j,hj,q⟩=>hi (A.gd.dis i j a h' q ▸ hj),xs,e⟩
 ·obtain ⟨_,xs,e⟩:=A.gd.own a (c9 q)
  rw [e]; simp
 ·rw [iy] at e
  split at e
  ·rename_i hi
   cases q:rd η i with
   | none=>rw [q] at e; cases e
   | some u =>
    rw [q] at e; cases e
    obtain ⟨v,r,h⟩:=A.env i u.1 u.2 q
    exact ⟨v,(r.sh.zmono fun a h=>h.imp id fun q=>⟨i,hi,q⟩).sany,h⟩
  ·rename_i hi
   obtain ⟨v,r,h⟩:=A.env i m t e
   exact ⟨v,(r.zmono fun a h=>.inl h).mono fun a h=>⟨hi,h⟩,h⟩
 ·obtain ⟨_,xs,e⟩:=A.gd.own a (c9 q)
  rw [e]; simp
theorem lN {x:X}{e:E}{w:W}{Q:VK}(A:At K sl σ Z H Fs η no)(ev:evX C x e η=.ok (w,η'))(k:∀ v Z' H' Fs' G,At K sl σ Z' H' Fs' η' G->Rep K Z' H' w.1 w.2 v G->Step Z H (tot Fs) Z' H' (fun a=>tot Fs' a\/G a)->Q v H'):wE K sl.sl C e σ H Q:=by
 cases x with
 | q vs ls =>
  obtain ⟨⟨u,η2⟩,h1,h2⟩:=ab (show (evE C e (pick vs ls η)).bind (kX vs η)=_ from ev)
  cases h2
  generalize hm0:M.lf u.1 u.2=m0 at k
  refine ⟨sl.pv,_,oB,_,_,η2,A.quiet (vs:=vs) (ls:=ls),h1,fun v Z' H' Fs' G B r0 s=>?_⟩
  have r:=r0.lf
  rw [hm0] at r
  obtain ⟨B1,s1⟩:=dM A B.own B.gd.zal s fun a h=>gE h
  have other:Q v H'\/m0=.d:=by
   by_cases hd:m0=.d
   ·exact .inr hd
   ·refine .inl ?_
    have e':after m0 vs η=share vs η:=by
     cases hm:m0 with
     | d=>exact absurd hm hd
     | s=>rfl
     | o m=>rfl
    obtain ⟨B2,s2⟩:=B1.share (vs:=vs)
    have zz:∀ a,(Z' a/\¬ cq Fs vs a)\/cq Fs vs a->Z' a:=fun a h=>h.elim a2M fun q=>s.zm a (.inr q)
    have zz':∀ a,Z' a->(Z' a/\¬ cq Fs vs a)\/cq Fs vs a:=fun a h=>(a3q (cq Fs vs a)).elim .inr fun q=>.inl ⟨h,q⟩
    exact k v _ H' _ G (e' ▸ B2) (r.zmono zz') (s2 s1)
  rcases other with q | hd
  ·exact q
  ·have e':after m0 vs η=η:=by rw [hd]; rfl
   refine k v _ H' Fs G (e'.symm ▸ B1) ?_ s1
   subst hd
   exact r.dany
 | l vs =>
  obtain ⟨B,s0⟩:=A.share (vs:=vs)
  have s1:=s0 ((Step.refl Z H (tot Fs)).mono (F2:=fun a=>tot Fs a\/no a) (fun _ z=>z) fun a h=>h.elim id fun z=>z.elim)
  refine ⟨sl.pv,_,_,_,w,η',B,ev,fun v Z' H' Fs' G B' r s=>k v Z' H' Fs' G B' r ((s1.mono (fun _ z=>z) fun a h=>.inl h).trans s)⟩
theorem CJ {x:X}{e:E}{b:Bool}{Q:Bool->Hp->Prop}(A:At K sl σ Z H Fs η no)(ev:evT C x e η=.ok (b,η'))(k:∀ Z' H' Fs',At K sl σ Z' H' Fs' η' no->Step Z H (tot Fs) Z' H' (tot Fs')->Q b H'):wT K sl.sl C e σ H Q:=by
 cases x with
 | q vs ls =>
  obtain ⟨⟨u,η2⟩,h1,h2⟩:=ab (show (evE C e (pick vs ls η)).bind (kT η)=_ from ev)
  obtain ⟨b',h3,e3⟩:=aF (show ret η (truth u.2)=_ from h2)
  cases e3
  refine ⟨sl.pv,_,oB,_,u,η2,b,A.quiet (vs:=vs) (ls:=ls),h1,h3,fun Z' H' Fs' B s=>?_⟩
  obtain ⟨B1,s1⟩:=dM (G:=no) A ck B.gd.zal (s.mono (F2:=fun a=>tot Fs' a\/no a) (fun _ z=>z) fun a h=>h.elim id fun z=>z.elim) fun a h=>gE h
  exact k _ H' Fs B1 (s1.mono (fun _ z=>z) fun a h=>.inl h)
 | l vs =>
  obtain ⟨⟨u,η2⟩,h1,h2⟩:=ab (show (evE C e (M.share vs η)).bind kT2=_ from ev)
  obtain ⟨b',h3,e3⟩:=aF (show ret η2 (truth u.2)=_ from h2)
  cases e3
  obtain ⟨B,s0⟩:=A.share (vs:=vs)
  have s1:=s0 ((Step.refl Z H (tot Fs)).mono (F2:=fun a=>tot Fs a\/no a) (fun _ z=>z) fun a h=>h.elim id fun z=>z.elim)
  exact ⟨sl.pv,_,_,_,u,_,b,B,h1,h3,fun Z' H' Fs' B' s=>k Z' H' Fs' B' ((s1.mono (fun _ z=>z) fun a h=>.inl h).trans s)⟩
end
end MR
namespace MR
open L2 L3 M
open PySem (Addr Str sizeLine)
section
variable {K:a0a}{sl:Cf}{sf sg:Nat->Option Nat}{C:Call}{σ σ2:L2.St}{Z Z' Z1:Fp}{H H' H1:Hp}{Fs Fs' Fs1:Fps}{η η' η1 ηb:Env}{G G' G1 R F F':Fp}{tg is vs ls io:List Nat}{pv val:Nat->Option V}{D:cz}
noncomputable def Fin (K:a0a)(sl:Cf)(Z:Fp)(H:Hp)(F:Fp)(D:cz):Fl->Prop
 | .nx η'=>∀ σ' Z' H' Fs',At K sl σ' Z' H' Fs' η' no->Step Z H F Z' H' (tot Fs')->D.nx σ' H'
 | .rt w η'=>∀ v σ' Z' H' Fs' G,At K sl σ' Z' H' Fs' η' G->Rep K Z' H' w.1 w.2 v G->Step Z H F Z' H' (fun a=>tot Fs' a\/G a)->D.rt v H'
 | .bk η'=>∀ σ' Z' H' Fs',At K sl σ' Z' H' Fs' η' no->Step Z H F Z' H' (tot Fs')->D.bk σ' H'
 | _=>False
theorem Fin.step {fl:Fl}(s:Step Z H F Z1 H1 F')(h:Fin K sl Z H F D fl):Fin K sl Z1 H1 F' D fl:=by
 cases fl with
 | nx η=>exact fun σ' Z' H' Fs' A t=>h σ' Z' H' Fs' A (s.trans t)
 | rt w η=>exact fun v σ' Z' H' Fs' G A r t=>h v σ' Z' H' Fs' G A r (s.trans t)
 | bk η=>exact fun σ' Z' H' Fs' A t=>h σ' Z' H' Fs' A (s.trans t)
 | _=>exact h.elim
structure oA (sf:Nat->Option Nat)(io:List Nat)(pv:Nat->Option V):Prop where
 inj:∀ i i' j,sf i=some j->sf i'=some j->i=i'
 io:∀ i,i ∉ io->pv i=none
noncomputable def wS (K:a0a)(sf:Nat->Option Nat)(io:List Nat)(C:Call)(st:S):TS:=fun D σ H=>∃ pv Z Fs η,oA sf io pv/\At K ⟨sf,pv⟩ σ Z H Fs η no/\Fin K ⟨sf,pv⟩ Z H (tot Fs) D (evS C st η)
noncomputable def wSs (K:a0a)(sf:Nat->Option Nat)(io:List Nat)(C:Call)(st:List S):TS:=fun D σ H=>∃ pv Z Fs η,oA sf io pv/\At K ⟨sf,pv⟩ σ Z H Fs η no/\Fin K ⟨sf,pv⟩ Z H (tot Fs) D (evSs C st η)
theorem wO (D:cz)(σ:L2.St)(H:Hp)(h:wSs K sf io C [] D σ H):xD D σ H:=by
 obtain ⟨pv,Z,Fs,η,N,A,f⟩:=h
 exact f σ Z H Fs A (Step.refl _ _ _)
theorem sX {s:S}{r:List S}(D:cz)(σ:L2.St)(H:Hp)(h:wSs K sf io C (s::r) D σ H):CP (wS K sf io C s) (wSs K sf io C r) D σ H:=by
 obtain ⟨pv,Z,Fs,η,N,A,f⟩:=h
 refine ⟨pv,Z,Fs,η,N,A,?_⟩
 have f':Fin K ⟨sf,pv⟩ Z H (tot Fs) D (Fl.seq (evS C s η) (evSs C r)):=f
 cases e:evS C s η with
 | nx η1 =>
  rw [e] at f'
  exact fun σ' Z' H' Fs' A' t=>⟨pv,Z',Fs',η1,N,A',f'.step t⟩
 | rt w η1=>rw [e] at f'; exact f'
 | bk η1=>rw [e] at f'; exact f'
 | ex c x η1=>rw [e] at f'; exact f'.elim
 | no=>rw [e] at f'; exact f'.elim
theorem wg {s:S}(D:cz)(σ:L2.St)(H:Hp)(h:wSs K sf io C [s] D σ H):wS K sf io C s D σ H:=by
 obtain ⟨pv,Z,Fs,η,N,A,f⟩:=h
 refine ⟨pv,Z,Fs,η,N,A,?_⟩
 have f':Fin K ⟨sf,pv⟩ Z H (tot Fs) D (Fl.seq (evS C s η) (evSs C [])):=f
 cases e:evS C s η with
 | nx η1=>rw [e] at f'; exact f'
 | rt w η1=>rw [e] at f'; exact f'
 | bk η1=>rw [e] at f'; exact f'
 | ex c x η1=>rw [e] at f'; exact f'.elim
 | no=>rw [e] at f'; exact f'.elim
theorem bj {α:Type}{r:Res α}{g:α->Fl}(f:Fin K sl Z H F D (Fl.of η r g)):∃ a,r=.ok a/\Fin K sl Z H F D (g a):=by
 cases r with
 | ok a=>exact ⟨a,rfl,f⟩
 | ex c x=>exact f.elim
 | no=>exact f.elim
theorem kg {o:Option Env}(f:Fin K sl Z H F D (nxO η o)):∃ η',o=some η'/\Fin K sl Z H F D (.nx η'):=by
 cases o with
 | some a=>exact ⟨a,rfl,f⟩
 | none=>exact f.elim
theorem At.setR {i j:Nat}{w:W}{x:V}(N:oA sf io pv)(hi:i ∉ io)(hs:sf i=some j)(A:At K ⟨sf,pv⟩ σ Z H Fs η G)(r:Rep K Z H w.1 w.2 x G1)(q1:∀ a,G1 a->G a)(q2:∀ a,R a->G a)(q3:∀ a,R a->¬ G1 a):At K ⟨sf,pv⟩ (σ.set j (some x)) Z H (oG Fs i G1) (M.put η i w) R:=by
 have hj:j < σ.length:=A.ln i j hs
 have B:At K ⟨fun k=>if k=i then none else sf k,pv⟩ (σ.set j (some x)) Z H Fs (M.del η i) G:=by
  refine ⟨A.gd,fun l m t e=>?_,A.own,A.dis,fun l u k hu hk=>?_,fun l k hk=>?_⟩
  ·rw [bD] at e
   split at e
   ·cases e
   ·rename_i hne
    obtain ⟨v,r',h1,h2⟩:=A.env l m t e
    have hl:l≠i:=fun z=>hne ⟨z,by rw [<- z]; exact ej e⟩
    refine ⟨v,r',fun k hk=>?_,h2⟩
    have hk':sf l=some k:=by have:(if l=i then none else sf l)=some k:=hk; rw [if_neg hl] at this; exact this
    have hjk:j≠k:=fun z=>hl (N.inj l i k hk' (by rw [<- z]; exact hs))
    rw [a1S hjk]
    exact h1 k hk'
  ·have hl:l≠i:=fun z=>by
    have hu':pv l=some u:=hu
    rw [z,N.io i hi] at hu'; cases hu'
   have hk':sf l=some k:=by have:(if l=i then none else sf l)=some k:=hk; rw [if_neg hl] at this; exact this
   have hjk:j≠k:=fun z=>hl (N.inj l i k hk' (by rw [<- z]; exact hs))
   rw [a1S hjk]
   exact A.lk l u k hu hk'
  ·have hk':sf l=some k:=by
    have:(if l=i then none else sf l)=some k:=hk
    split at this
    ·cases this
    ·exact this
   rw [a2q]
   exact A.ln l k hk'
 have B2:=At.put (i:=i) (w:=w) (G1:=G1) (R:=R) B r q1 q2 q3 (fun k hk=>by have hk':(if i=i then none else sf i)=some k:=hk; rw [if_pos rfl] at hk'; cases hk') (fun u hu=>by have:=N.io i hi; rw [show pv i=some u from hu] at this; cases this)
 have e1:M.put (M.del η i) i w=M.put η i w:=by
  have:∀ (η:Env) (i:Nat) (a b:Option W),wr (wr η i a) i b=wr η i b:=fun η=>by
   induction η with
   | nil=>intro i a b; rfl
   | cons o η ih=>intro i a b; cases i with
    | zero=>rfl
    | succ i=>show o::wr (wr η i a) i b=o::wr η i b; rw [ih]
  exact this η i none (some w)
 rw [e1] at B2
 refine ⟨B2.gd,fun l m t e=>?_,B2.own,B2.dis,fun l u k hu hk=>?_,fun l k hk=>by rw [a2q]; exact A.ln l k hk⟩
 ·obtain ⟨v,r',h1,h2⟩:=B2.env l m t e
  by_cases hl:l=i
  ·subst hl
   rw [bD] at e
   split at e
   ·cases e
    refine ⟨x,r.mono fun a h=>.inl ⟨rfl,h⟩,fun k hk=>?_,fun u hu=>by have:=N.io l hi; rw [show pv l=some u from hu] at this; cases this⟩
    have:k=j:=by rw [show sf l=some k from hk] at hs; cases hs; rfl
    subst this
    rw [a2c hj]
   ·rename_i hc
    exact absurd ⟨rfl,ej e⟩ hc
  ·refine ⟨v,r',fun k hk=>h1 k ?_,h2⟩
   show (if l=i then none else sf l)=some k
   rw [if_neg hl]; exact hk
 ·by_cases hl:l=i
  ·subst hl
   have:=N.io l hi
   rw [show pv l=some u from hu] at this; cases this
  ·exact B2.lk l u k hu (show (if l=i then none else sf l)=some k by rw [if_neg hl]; exact hk)
theorem At.set {i j:Nat}{w:W}{x:V}(N:oA sf io pv)(hi:i ∉ io)(hs:sf i=some j)(A:At K ⟨sf,pv⟩ σ Z H Fs η G)(r:Rep K Z H w.1 w.2 x G):At K ⟨sf,pv⟩ (σ.set j (some x)) Z H (oG Fs i G) (M.put η i w) no:=At.setR N hi hs A r (fun _ h=>h) (fun _ z=>z.elim) (fun _ z=>z.elim)
theorem mG {x:X}{i j:Nat}{e:E}(hi:i ∉ io)(hs:sf i=some j)(D:cz)(σ:L2.St)(H:Hp)(h:wS K sf io C (.asg x i e) D σ H):qO (wE K sf C e) (cT j) D σ H:=by
 obtain ⟨pv,Z,Fs,η,N,A,f⟩:=h
 obtain ⟨⟨w,η1⟩,h1,h2⟩:=bj (show Fin K ⟨sf,pv⟩ Z H (tot Fs) D (Fl.of η (evX C x e η) (vE i)) from f)
 refine lN (sl:=⟨sf,pv⟩) A h1 fun v Z' H' Fs' G B r s=>?_
 exact h2 _ Z' H' _ (At.set N hi hs B r) (s.mono (fun _ z=>z) fun a ha=>bu ha)
theorem yY {x:X}{e:E}(D:cz)(σ:L2.St)(H:Hp)(h:wS K sf io C (.exp x e) D σ H):xC (wE K sf C e) D σ H:=by
 obtain ⟨pv,Z,Fs,η,N,A,f⟩:=h
 obtain ⟨⟨w,η1⟩,h1,h2⟩:=bj (show Fin K ⟨sf,pv⟩ Z H (tot Fs) D (Fl.of η (evX C x e η) kNx) from f)
 exact lN (sl:=⟨sf,pv⟩) A h1 fun v Z' H' Fs' G B r s=>h2 σ Z' H' Fs' B.bare (s.mono (fun _ z=>z) fun a ha=>.inl ha)
theorem AS {e:E}(D:cz)(σ:L2.St)(H:Hp)(h:wS K sf io C (.ret vs e) D σ H):CT (wE K sf C e) D σ H:=by
 obtain ⟨pv,Z,Fs,η,N,A,f⟩:=h
 obtain ⟨⟨w,η1⟩,h1,h2⟩:=bj (show Fin K ⟨sf,pv⟩ Z H (tot Fs) D (Fl.of η (evE C e (M.share vs η)) kRt) from f)
 exact lN (sl:=⟨sf,pv⟩) (x:=.l vs) A h1 fun v Z' H' Fs' G B r s=>h2 v σ Z' H' Fs' G B r s
theorem zZ {x:X}{c:E}{a b:List S}(D:cz)(σ:L2.St)(H:Hp)(h:wS K sf io C (.ite x c a b) D σ H):DM (wT K sf C c) (wSs K sf io C a) (wSs K sf io C b) D σ H:=by
 obtain ⟨pv,Z,Fs,η,N,A,f⟩:=h
 obtain ⟨⟨k,η1⟩,h1,h2⟩:=bj (show Fin K ⟨sf,pv⟩ Z H (tot Fs) D (Fl.of η (evT C x c η) (kIf (evSs C a) (evSs C b))) from f)
 refine CJ (sl:=⟨sf,pv⟩) A h1 fun Z' H' Fs' B s=>?_
 cases k with
 | true=>rw [if_pos rfl]; exact ⟨pv,Z',Fs',η1,N,B,Fin.step s h2⟩
 | false=>rw [if_neg a0j]; exact ⟨pv,Z',Fs',η1,N,B,Fin.step s h2⟩
theorem nq {m:Md}{ts:List T}{v:V}(hm:m≠.s)(r:Rep K Z H m (.lst ts) v G):∃ a xs,v=.ref a/\xs.length<=LIM/\G a/\H a=some (.lst xs)/\RepL K Z H m.kid ts xs (fun b=>G b/\b≠a):=by
 obtain ⟨a,xs,e,l,q,p⟩:=r
 rw [LstR.own hm] at q
 exact ⟨a,xs,e,l,q.1,q.2,p⟩
theorem vh {i:Nat}{a:Addr}{ts':List T}{xs':List V}{m':Md}(hm:m'≠.s)(A:At K ⟨sf,pv⟩ σ Z H Fs η G){w0:W}(hi:rd η i=some w0)(ha:Fs i a)(hx:∀ j,sf i=some j->σ[j]?=some (some (.ref a)))(hl:xs'.length<=LIM)(hpv:∀ u,pv i=some u->V.ref a=u)
  (hg:∀ b,G' b->(Fs i b\/G b)/\b≠a) (hR:∀ b,R b->(Fs i b\/G b)/\b≠a) (hRG:∀ b,R b->¬ G' b) (p:RepL K (fun b=>Z b\/((Fs i b\/G b)/\b≠a/\¬ G' b/\¬ R b)) H m'.kid ts' xs' G') {Q:Hp->Prop}
  (k:∀ Z' Fs',At K ⟨sf,pv⟩ σ Z' (upd H a (.lst xs')) Fs' (M.put η i (m',.lst ts')) R->Step Z H (fun b=>tot Fs b\/G b) Z' (upd H a (.lst xs')) (fun b=>tot Fs' b\/R b)->(∀ {m t v},Rep K (fun b=>Z b\/((Fs i b\/G b)/\b≠a/\¬ G' b/\¬ R b)) H m t v R->Rep K Z' (upd H a (.lst xs')) m t v R)->Q (upd H a (.lst xs'))):Q (upd H a (.lst xs')):=by
 have hta:tot Fs a:=⟨i,ha⟩
 obtain ⟨nza,ys,hya⟩:=A.gd.own a hta
 have nGa:¬ G a:=fun q=>A.dis a q hta
 have zdef:∀ b,(Z b\/((Fs i b\/G b)/\b≠a/\¬ G' b/\¬ R b))->b≠a:=fun b h z=>by
  subst z
  rcases h with h | h
  ·exact nza h
  ·exact h.2.1 rfl
 have keep:∀ b o,H b=some o->b≠a->upd H a (.lst xs') b=some o:=fun b o e hb=>by rw [ai hb]; exact e
 have neT:∀ b xs,H b=some (.tup xs)->b≠a:=fun b xs e z=>by rw [z,hya] at e; cases e
 have neF:∀ b o u,H b=some (.frz o u)->b≠a:=fun b o u e z=>by rw [z,hya] at e; cases e
 have stay:∀ {Y:Fp},(∀ b,Y b->b≠a)->Stay Y H (upd H a (.lst xs')):=fun {Y} hY=>⟨fun b o hb e=>keep b o e (hY b hb),fun b xs e=>by
  rcases e with e | ⟨u,e⟩
  ·exact .inl (keep b _ e (neT b xs e))
  ·exact .inr ⟨u,keep b _ e (neF b u _ e)⟩,fun b o u e=>keep b _ e (neF b o u e)⟩
 have al:∀ b,H b≠none->upd H a (.lst xs') b≠none:=fun b h=>by
  by_cases e:b=a
  ·rw [e,ak]; simp
  ·rw [ai e]; exact h
 have zal':∀ b,(Z b\/((Fs i b\/G b)/\b≠a/\¬ G' b/\¬ R b))->H b≠none:=fun b h=>by
  rcases h with h | ⟨h | h,_⟩
  ·exact A.gd.zal b h
  ·obtain ⟨_,zs,e⟩:=A.gd.own b ⟨i,h⟩; rw [e]; simp
  ·obtain ⟨_,zs,e⟩:=A.own b h; rw [e]; simp
 have listAt:∀ b,(tot Fs b\/G b)->∃ zs,upd H a (.lst xs') b=some (.lst zs):=fun b h=>by
  by_cases e:b=a
  ·exact ⟨xs',by rw [e,ak]⟩
  ·rcases h with h | h
   ·obtain ⟨_,zs,q⟩:=A.gd.own b h; exact ⟨zs,by rw [ai e]; exact q⟩
   ·obtain ⟨_,zs,q⟩:=A.own b h; exact ⟨zs,by rw [ai e]; exact q⟩
 have nZ:∀ b,(Fs i b\/G b)->¬ Z b:=fun b h z=>h.elim (fun y=>(A.gd.own b ⟨i,y⟩).1 z) fun y=>(A.own b y).1 z
 have eG:∀ b,tot (oG Fs i fun b=>G' b\/b=a) b->(∃ j,j≠i/\Fs j b)\/G' b\/b=a:=fun b h=>by
  obtain ⟨j,h | h⟩:=h
  ·exact .inr h.2
  ·exact .inl ⟨j,h⟩
 refine k (fun b=>Z b\/((Fs i b\/G b)/\b≠a/\¬ G' b/\¬ R b)) (oG Fs i fun b=>G' b\/b=a) ⟨⟨fun b h=>⟨fun z=>?_,?_⟩,fun j l b hj hk=>?_,fun b h=>al b (zal' b h)⟩,fun l m t e=>?_,fun b h=>⟨fun z=>?_,listAt b ((hR b h).1.imp (fun z=>⟨i,z⟩) id)⟩,fun b h q=>?_,A.lk,A.ln⟩ ⟨fun b o e n=>keep b o e fun z=>n (.inl (z ▸ hta)),fun b h=>.inl h,fun b h=>h.imp id fun q=>.inl (q.1.imp (fun z=>⟨i,z⟩) id),fun b h=>?_,al,fun _ b h=>al b (zal' b h)⟩ fun {m t v} r=>r.keep (stay zdef) (fun _ z=>z) fun b o hb e=>keep b o e (hR b hb).2
 ·rcases eG b h with ⟨j,hj,q⟩ | q | q
  ·rcases z with z | ⟨z | z,_⟩
   ·exact (A.gd.own b ⟨j,q⟩).1 z
   ·exact hj (A.gd.dis j i b q z)
   ·exact A.dis b z ⟨j,q⟩
  ·rcases z with z | z
   ·exact nZ b (hg b q).1 z
   ·exact z.2.2.1 q
  ·exact zdef b z q
 ·rcases eG b h with ⟨j,hj,q⟩ | q | q
  ·exact listAt b (.inl ⟨j,q⟩)
  ·exact listAt b ((hg b q).1.imp (fun z=>⟨i,z⟩) id)
  ·exact ⟨xs',by rw [q,ak]⟩
 ·have key:∀ {j:Nat},(G' b\/b=a)->Fs j b->j=i:=fun {j} h q=>by
   rcases h with h | h
   ·rcases (hg b h).1 with y | y
    ·exact A.gd.dis j i b q y
    ·exact absurd ⟨j,q⟩ (A.dis b y)
   ·rw [h] at q; exact A.gd.dis j i a q ha
  rcases hj with ⟨rfl,hj⟩ | ⟨nj,hj⟩
  ·rcases hk with ⟨rfl,_⟩ | ⟨nk,hk⟩
   ·rfl
   ·exact absurd (key hj hk) nk
  ·rcases hk with ⟨rfl,hk⟩ | ⟨nk,hk⟩
   ·exact absurd (key hk hj) nj
   ·exact A.gd.dis j l b hj hk
 ·rw [bD] at e
  split at e
  ·rename_i hc
   obtain ⟨rfl,_⟩:=hc
   cases e
   refine ⟨.ref a,⟨a,xs',rfl,hl,(LstR.own hm).mpr ⟨.inl ⟨rfl,.inr rfl⟩,ak⟩,?_⟩,hx,hpv⟩
   exact (p.keep (stay zdef) (fun _ z=>z) fun b o hb e=>keep b o e (hg b hb).2).mono fun b hb=>⟨.inl ⟨rfl,.inl hb⟩,(hg b hb).2⟩
  ·rename_i hc
   have hl':l≠i:=fun z=>hc ⟨z,ej hi⟩
   obtain ⟨v,r,h⟩:=A.env l m t e
   have nea:∀ b,Fs l b->b≠a:=fun b q z=>hl' (A.gd.dis l i a (z ▸ q) ha)
   exact ⟨v,((r.keep (stay fun b hb z=>nza (z ▸ hb)) (fun _ z=>z) fun b o hb e=>keep b o e (nea b hb)).zmono fun b h=>.inl h).mono fun b h=>.inr ⟨hl',h⟩,h⟩
 ·rcases z with z | z
  ·exact nZ b (hR b h).1 z
  ·exact z.2.2.2 h
 ·rcases eG b q with ⟨j,hj,y⟩ | y | y
  ·rcases (hR b h).1 with z | z
   ·exact hj (A.gd.dis j i b y z)
   ·exact A.dis b z ⟨j,y⟩
  ·exact hRG b h y
  ·exact (hR b h).2 y
 ·rcases h with h | h
  ·rcases eG b h with ⟨j,_,q⟩ | q | q
   ·exact .inl (.inl ⟨j,q⟩)
   ·exact .inl ((hg b q).1.imp (fun z=>⟨i,z⟩) id)
   ·exact .inl (.inl (q ▸ hta))
  ·exact .inl ((hR b h).1.imp (fun z=>⟨i,z⟩) id)
theorem change {i:Nat}{a:Addr}{ts':List T}{xs':List V}{m':Md}(hm:m'≠.s)(A:At K ⟨sf,pv⟩ σ Z H Fs η G){w0:W}(hi:rd η i=some w0)(ha:Fs i a)(hx:∀ j,sf i=some j->σ[j]?=some (some (.ref a)))(hl:xs'.length<=LIM)(hpv:∀ u,pv i=some u->V.ref a=u)
  (hg:∀ b,G' b->(Fs i b\/G b)/\b≠a) (p:RepL K (fun b=>Z b\/((Fs i b\/G b)/\b≠a/\¬ G' b)) H m'.kid ts' xs' G') {Q:Hp->Prop}
  (k:∀ Z' Fs',At K ⟨sf,pv⟩ σ Z' (upd H a (.lst xs')) Fs' (M.put η i (m',.lst ts')) no->Step Z H (fun b=>tot Fs b\/G b) Z' (upd H a (.lst xs')) (tot Fs')->Q (upd H a (.lst xs'))):Q (upd H a (.lst xs')) :=
 vh (R:=no) hm A hi ha hx hl hpv hg (fun _ z=>z.elim) (fun _ z=>z.elim) (p.zmono fun b h=>h.imp id fun q=>⟨q.1,q.2.1,q.2.2,fun z=>z⟩) fun Z' Fs' B s _=>k Z' Fs' B (s.mono (fun _ z=>z) fun _ z=>.inl z)
end
end MR
namespace MR
open L2 L3 M
open PySem (Addr Str sizeLine)
section
variable {K:a0a}{sl:Cf}{sf sg:Nat->Option Nat}{C:Call}{σ σ2:L2.St}{Z Z' Z1:Fp}{H H' H1:Hp}{Fs Fs' Fs1:Fps}{η η' η1 ηb:Env}{G G' G1 R F F':Fp}{tg is vs ls io:List Nat}{pv val:Nat->Option V}{D:cz}
theorem kB {o:Option W}{u:Unit}(h:gS o=.ok u):∃ m ts,o=some (m,.lst ts):=by
 cases o with
 | none=>cases h
 | some w =>
  obtain ⟨m,t⟩:=w
  cases t with
  | lst ts=>exact ⟨m,ts,rfl⟩
  | _=>cases h
theorem At.listAt {i j:Nat}{m:Md}{ts:List T}(hs:sf i=some j)(A:At K ⟨sf,pv⟩ σ Z H Fs η G)(h:rd η i=some (m,.lst ts)):∃ a xs,σ[j]?=some (some (.ref a))/\H a=some (.lst xs):=by
 obtain ⟨v,r,hl,_⟩:=A.env i m _ h
 obtain ⟨a,xs,rfl,hx,_⟩:=a7 r
 exact ⟨a,xs,hl j hs,hx⟩
theorem At.ourList {i j:Nat}{a:Addr}{m:Md}{ts:List T}(hs:sf i=some j)(hm:m≠.s)(hj:σ[j]?=some (some (.ref a)))(A:At K ⟨sf,pv⟩ σ Z H Fs η G)(h:rd η i=some (m,.lst ts)) :
  ∃ xs,xs.length<=LIM/\Fs i a/\H a=some (.lst xs)/\RepL K Z H m.kid ts xs (fun b=>Fs i b/\b≠a)/\(∀ u,pv i=some u->V.ref a=u):=by
 obtain ⟨v,r,hl,hp⟩:=A.env i m _ h
 have e:=hl j hs
 rw [hj] at e
 cases e
 obtain ⟨b,xs,e,l,g,hx,p⟩:=nq hm r
 cases e
 exact ⟨xs,l,g,hx,p,hp⟩
theorem tM {u w r:W}(h:iP u w=some r):∃ m ts,u=(m,.lst ts)/\m≠.s/\ts.length < LIM/\r=((m.kid.meet (lf w.1 w.2)).up,.lst (ts++[w.2])):=by
 obtain ⟨m,t⟩:=u
 obtain ⟨n,t'⟩:=w
 cases m with
 | s=>cases h
 | d =>
  cases t with
  | lst ts =>
   have h':(if ts.length < LIM then some ((((Md.d.kid.meet (lf n t')).up,.lst (ts++[t'])):W)) else none)=some r:=h
   split at h'
   ·rename_i hl; cases h'; exact ⟨.d,ts,rfl,by simp,hl,rfl⟩
   ·cases h'
  | _=>cases h
 | o m =>
  cases t with
  | lst ts =>
   have h':(if ts.length < LIM then some (((((Md.o m).kid.meet (lf n t')).up,.lst (ts++[t'])):W)) else none)=some r:=h
   split at h'
   ·rename_i hl; cases h'; exact ⟨.o m,ts,rfl,by simp,hl,rfl⟩
   ·cases h'
  | _=>cases h
theorem sL {u w r:W}(h:iR u w=some r):∃ m ts n us,u=(m,.lst ts)/\w=(n,.lst us)/\m≠.s/\ts.length+us.length<=LIM/\r=((m.kid.meet n.kid).up,.lst (ts++us)):=by
 obtain ⟨m,t⟩:=u
 obtain ⟨n,t'⟩:=w
 cases m with
 | s=>cases h
 | d =>
  cases t with
  | lst ts =>
   cases t' with
   | lst us =>
    have h':(if ts.length+us.length<=LIM then some ((((Md.d.kid.meet n.kid).up,.lst (ts++us)):W)) else none)=some r:=h
    split at h'
    ·rename_i hl; cases h'; exact ⟨.d,ts,n,us,rfl,rfl,by simp,hl,rfl⟩
    ·cases h'
   | _=>cases h
  | _=>cases h
 | o m =>
  cases t with
  | lst ts =>
   cases t' with
   | lst us =>
    have h':(if ts.length+us.length<=LIM then some (((((Md.o m).kid.meet n.kid).up,.lst (ts++us)):W)) else none)=some r:=h
    split at h'
    ·rename_i hl; cases h'; exact ⟨.o m,ts,n,us,rfl,rfl,by simp,hl,rfl⟩
    ·cases h'
   | _=>cases h
  | _=>cases h
theorem ux {u k w r:W}(h:eG u k w=some r):∃ m ts n j q,u=(m,.lst ts)/\k=(n,.int j)/\m≠.s/\M.ixN ts.length j=some q/\r=((m.kid.meet (lf w.1 w.2)).up,.lst (ts.set q w.2)):=by
 obtain ⟨m,t⟩:=u
 obtain ⟨n,t'⟩:=k
 cases m with
 | s=>cases h
 | d =>
  cases t with
  | lst ts =>
   cases t' with
   | int j =>
    have h':(M.ixN ts.length j).map (fun k=>(((Md.d.kid.meet (lf w.1 w.2)).up,.lst (ts.set k w.2)):W))=some r:=h
    cases e:M.ixN ts.length j with
    | none=>rw [e] at h'; cases h'
    | some q=>rw [e] at h'; cases h'; exact ⟨.d,ts,n,j,q,rfl,rfl,by simp,e,rfl⟩
   | _=>cases h
  | _=>cases h
 | o m =>
  cases t with
  | lst ts =>
   cases t' with
   | int j =>
    have h':(M.ixN ts.length j).map (fun k=>((((Md.o m).kid.meet (lf w.1 w.2)).up,.lst (ts.set k w.2)):W))=some r:=h
    cases e:M.ixN ts.length j with
    | none=>rw [e] at h'; cases h'
    | some q=>rw [e] at h'; cases h'; exact ⟨.o m,ts,n,j,q,rfl,rfl,by simp,e,rfl⟩
   | _=>cases h
  | _=>cases h
theorem qo {a:Addr}{m:Md}{ts:List T}{xs:List V}{w:W}{y:V}{A0:Fp}(hA:∀ b,A0 b->b≠a)(hG:∀ b,G b->b≠a)(d:∀ b,A0 b->¬ G b)(p:RepL K Z H m ts xs A0)(r:Rep K Z H w.1 w.2 y G) :
  ∃ G',(∀ b,G' b->(A0 b\/G b)/\b≠a)/\RepL K (fun b=>Z b\/((A0 b\/G b)/\b≠a/\¬ G' b)) H (m.meet (lf w.1 w.2)) (ts++[w.2]) (xs++[y]) G':=by
 obtain ⟨G',g1,g2⟩:=ir (G:=fun b=>A0 b\/G b) (fun _ z=>.inl z) (fun _ z=>.inr z) d p (RepL.one r.lf)
 have ne:∀ b,(A0 b\/G b)->b≠a:=fun b h=>h.elim (hA b) (hG b)
 exact ⟨G',fun b h=>⟨g1 b h,ne b (g1 b h)⟩,g2.zmono fun b h=>h.imp id fun q=>⟨q.1,ne b q.1,q.2⟩⟩
theorem AE {x:X}{i j:Nat}{e:E}(hs:sf i=some j)(D:cz)(σ:L2.St)(H:Hp)(h:wS K sf io C (.app x i e) D σ H) :
  ∃ a xs,σ[j]?=some (some (.ref a))/\H a=some (.lst xs)/\wE K sf C e σ H fun y H1=>∃ xs,H1 a=some (.lst xs)/\xs.length < sizeLine/\D.nx σ (upd H1 a (.lst (xs++[y]))):=by
 obtain ⟨pv,Z,Fs,η,N,A,f⟩:=h
 obtain ⟨u,h0,h1⟩:=bj (show Fin K ⟨sf,pv⟩ Z H (tot Fs) D (Fl.of η (gS (rd η i)) (mw (evX C x e) η (so i))) from f)
 obtain ⟨m0,t0,h00⟩:=kB h0
 obtain ⟨a,xs0,hj,ha⟩:=A.listAt hs h00
 obtain ⟨⟨w,η1⟩,h2,h3⟩:=bj (show Fin K ⟨sf,pv⟩ Z H (tot Fs) D (Fl.of η (evX C x e η) (so i)) from h1)
 obtain ⟨η2,h4,h5⟩:=kg (show Fin K ⟨sf,pv⟩ Z H (tot Fs) D (nxO η1 (((rd η1 i).bind fun u=>iP u w).map fun u=>M.put η1 i u)) from h3)
 refine ⟨a,xs0,hj,ha,lN (sl:=⟨sf,pv⟩) A h2 fun y Z' H' Fs' G B r s=>?_⟩
 cases e1:rd η1 i with
 | none=>rw [e1] at h4; cases h4
 | some u1 =>
  rw [e1] at h4
  cases e2:iP u1 w with
  | none=>rw [show (some u1).bind (fun u=>iP u w)=iP u1 w from rfl,e2] at h4; cases h4
  | some r1 =>
   rw [show (some u1).bind (fun u=>iP u w)=iP u1 w from rfl,e2] at h4
   cases h4
   obtain ⟨m,ts,rfl,hm,hlen,rfl⟩:=tM e2
   obtain ⟨xs,hl,hf,hx,p,hpv⟩:=B.ourList hs hm hj e1
   have e3:=p.length
   obtain ⟨G',g1,g2⟩:=qo (a:=a) (fun b h=>h.2) (fun b h z=>B.dis b h ⟨i,z ▸ hf⟩) (fun b h q=>B.dis b q ⟨i,h.1⟩) p r
   refine ⟨xs,hx,mD hl,?_⟩
   refine change (K:=K) (m':=(m.kid.meet (lf w.1 w.2)).up) (bS _) B e1 hf (fun k hk=>by rw [show sf i=some k from hk] at hs; cases hs; exact hj) (by rw [a0g,e3,a0A]; omega) hpv (fun b h=>⟨(g1 b h).1.imp a2M id,(g1 b h).2⟩) (ts':=ts++[w.2]) (by rw [cZ]; exact g2.zmono fun b h=>h.imp id fun q=>⟨q.1.imp a2M id,q.2⟩) fun Z2 Fs2 B2 s2=>h5 σ Z2 _ Fs2 B2 (s.trans s2)
theorem AU {x:X}{i j:Nat}{e:E}(hs:sf i=some j)(D:cz)(σ:L2.St)(H:Hp)(h:wS K sf io C (.ext x i e) D σ H) :
  ∃ a xs,σ[j]?=some (some (.ref a))/\H a=some (.lst xs)/\wE K sf C e σ H fun y H1=>∃ b xs zs,y=.ref b/\H1 a=some (.lst xs)/\H1 b=some (.lst zs)/\xs.length+zs.length<=sizeLine/\D.nx σ (upd H1 a (.lst (xs++zs))):=by
 obtain ⟨pv,Z,Fs,η,N,A,f⟩:=h
 obtain ⟨u,h0,h1⟩:=bj (show Fin K ⟨sf,pv⟩ Z H (tot Fs) D (Fl.of η (gS (rd η i)) (mw (evX C x e) η (qm i))) from f)
 obtain ⟨m0,t0,h00⟩:=kB h0
 obtain ⟨a,xs0,hj,ha⟩:=A.listAt hs h00
 obtain ⟨⟨w,η1⟩,h2,h3⟩:=bj (show Fin K ⟨sf,pv⟩ Z H (tot Fs) D (Fl.of η (evX C x e η) (qm i)) from h1)
 obtain ⟨η2,h4,h5⟩:=kg (show Fin K ⟨sf,pv⟩ Z H (tot Fs) D (nxO η1 (((rd η1 i).bind fun u=>iR u w).map fun u=>M.put η1 i u)) from h3)
 refine ⟨a,xs0,hj,ha,lN (sl:=⟨sf,pv⟩) A h2 fun y Z' H' Fs' G B r s=>?_⟩
 cases e1:rd η1 i with
 | none=>rw [e1] at h4; cases h4
 | some u1 =>
  rw [e1] at h4
  cases e2:iR u1 w with
  | none=>rw [show (some u1).bind (fun u=>iR u w)=iR u1 w from rfl,e2] at h4; cases h4
  | some r1 =>
   rw [show (some u1).bind (fun u=>iR u w)=iR u1 w from rfl,e2] at h4
   cases h4
   obtain ⟨m,ts,n,us,rfl,rfl,hm,hlen,rfl⟩:=sL e2
   obtain ⟨xs,hl,hf,hx,p,hpv⟩:=B.ourList hs hm hj e1
   obtain ⟨b,zs,rfl,hb,hl2,p2⟩:=a7 r
   have e3:=p.length
   have e4:=p2.length
   have hG:∀ b,G b->b≠a:=fun b h z=>B.dis b h ⟨i,z ▸ hf⟩
   obtain ⟨G',g1,g2⟩:=ir (G:=fun b=>(Fs' i b/\b≠a)\/G b) (fun _ z=>.inl z) (fun _ z=>.inr z) (fun b h q=>B.dis b q ⟨i,h.1⟩) p p2
   have ne:∀ b,((Fs' i b/\b≠a)\/G b)->b≠a:=fun b h=>h.elim And.right (hG b)
   refine ⟨b,xs,zs,rfl,hx,hb,bR (by omega),?_⟩
   refine change (K:=K) (m':=(m.kid.meet n.kid).up) (bS _) B e1 hf (fun k hk=>by rw [show sf i=some k from hk] at hs; cases hs; exact hj) (by rw [a0g]; omega) hpv (fun b h=>⟨(g1 b h).imp a2M id,ne b (g1 b h)⟩) (ts':=ts++us) (by rw [cZ]; exact g2.zmono fun b h=>h.imp id fun q=>⟨q.1.imp a2M id,ne b q.1,q.2⟩) fun Z2 Fs2 B2 s2=>h5 σ Z2 _ Fs2 B2 (s.trans s2)
theorem RepL.setAt:∀ {ts:List T} {xs:List V} {A0 G0 G:Fp} {q:Nat} {t:T} {y:V} {m:Md},(∀ b,A0 b->G b)->(∀ b,G0 b->G b)->(∀ b,A0 b->¬ G0 b)->RepL K Z H m ts xs A0->Rep K Z H m t y G0->RepL K Z H m (ts.set q t) (xs.set q y) G
 | [],xs,A0,G0,G,q,t,y,m,w1,w2,d,h,r=>by rw [show xs=[] from h]; exact rfl
 | u::ts,xs,A0,G0,G,0,t,y,m,w1,w2,d,⟨x,r',A,B,e,h1,h2,hd,p,q⟩,r=>by
  rw [e]
  exact ⟨y,r',G0,B,rfl,w2,fun a h=>w1 a (h2 a h),fun a h q=>d a (h2 a q) h,r,q⟩
 | u::ts,xs,A0,G0,G,n+1,t,y,m,w1,w2,d,⟨x,r',A,B,e,h1,h2,hd,p,q⟩,r=>by
  rw [e]
  refine ⟨x,r'.set n y,A,fun a=>B a\/G0 a,rfl,fun a h=>w1 a (h1 a h),fun a h=>h.elim (fun z=>w1 a (h2 a z)) (w2 a),fun a h q=>q.elim (hd a h) (d a (h1 a h)),p,?_⟩
  exact RepL.setAt (fun _ z=>.inl z) (fun _ z=>.inr z) (fun b h=>d b (h2 b h)) q r
theorem iG (vs:List Nat)(η:Env):Nn η (M.share vs η):=fun i e=>by
 rw [iy]; split
 ·rw [e]; rfl
 ·exact e
theorem zJ {x:X}{e:E}{w:W}(h:evX C x e η=.ok (w,η')):Nn η η':=by
 cases x with
 | q vs ls =>
  obtain ⟨⟨u,η2⟩,h1,h2⟩:=ab (show (evE C e (pick vs ls η)).bind (kX vs η)=_ from h)
  cases h2
  show Nn η (after (M.lf u.1 u.2) vs η)
  cases hm:M.lf u.1 u.2 with
  | d=>intro i e; exact e
  | s=>exact iG vs η
  | o m=>exact iG vs η
 | l vs=>exact (iG vs η).trans (aE e h)
theorem uD {x:X}{i j:Nat}{k e:E}(hs:sf i=some j)(D:cz)(σ:L2.St)(H:Hp)(h:wS K sf io C (.setI x i k e) D σ H) :
  wE K sf C e σ H fun y H1=>oN j σ H1 fun o H1=>wE K sf C k σ H1 fun z H2=>∃ a xs n q,o=.ref a/\z=.int n/\H2 a=some (.lst xs)/\L2.ixN xs.length n=some q/\D.nx σ (upd H2 a (.lst (xs.set q y))):=by
 obtain ⟨pv,Z,Fs,η,N,A,f⟩:=h
 obtain ⟨⟨w,η1⟩,h2,h3⟩:=bj (show Fin K ⟨sf,pv⟩ Z H (tot Fs) D (Fl.of η (evX C x e η) (va i (evX C x k) η)) from f)
 obtain ⟨⟨kw,η2⟩,h6,h7⟩:=bj (show Fin K ⟨sf,pv⟩ Z H (tot Fs) D (Fl.of η (evX C x k η1) (qZ i w)) from h3)
 obtain ⟨η3,h4,h5⟩:=kg (show Fin K ⟨sf,pv⟩ Z H (tot Fs) D (nxO η2 (((rd η2 i).bind fun u=>eG u kw w).map fun u=>M.put η2 i u)) from h7)
 refine lN (sl:=⟨sf,pv⟩) A h2 fun y Z' H' Fs' G B r s=>?_
 cases e1:rd η2 i with
 | none=>rw [e1] at h4; cases h4
 | some u1 =>
  rw [e1] at h4
  cases e2:eG u1 kw w with
  | none=>rw [show (some u1).bind (fun u=>eG u kw w)=eG u1 kw w from rfl,e2] at h4; cases h4
  | some r1 =>
   rw [show (some u1).bind (fun u=>eG u kw w)=eG u1 kw w from rfl,e2] at h4
   cases h4
   obtain ⟨m,ts,n,jj,q,rfl,rfl,hm,hq,rfl⟩:=ux e2
   have n1:rd η1 i≠none:=fun z=>by rw [zJ h6 i z] at e1; cases e1
   cases e3:rd η1 i with
   | none=>exact absurd e3 n1
   | some u3 =>
    obtain ⟨v3,r3,l3,p3⟩:=B.env i u3.1 u3.2 e3
    refine ⟨v3,l3 j hs,lN (sl:=⟨sf,pv⟩) B.bare h6 fun z Z2 H2 Fs2 G2 B2 rz s2=>?_⟩
    obtain ⟨B3,s3,d3⟩:=B.frame B2 s2
    have r':=r.frame B.gd.own s2 B.dis
    have B4:=B3.mono (G':=G) fun _ z=>.inl z
    obtain ⟨v4,r4,l4,p4⟩:=B4.env i m _ e1
    have hv:v3=v4:=by have e5:=l3 j hs; have e6:=l4 j hs; rw [e5] at e6; cases e6; rfl
    subst hv
    obtain ⟨a,xs,rfl,hl,hf,hx,p⟩:=nq hm r4
    have e7:=p.length
    obtain ⟨A1,a1,a2⟩:=RepL.weak (dG m.kid (lf w.1 w.2)).1 p
    obtain ⟨A2,b1,b2⟩:=Rep.weak (dG m.kid (lf w.1 w.2)).2 r'.lf
    have dis:∀ b,(Fs2 i b/\b≠a)->¬ G b:=fun b h q=>B4.dis b q ⟨i,h.1⟩
    have hG:∀ b,G b->b≠a:=fun b h z=>B4.dis b h ⟨i,z ▸ hf⟩
    refine ⟨a,xs,jj,q,rfl,show z=_ from rz,hx,by rw [e7]; exact hq,?_⟩
    refine change (K:=K) (G':=fun b=>A1 b\/A2 b) (m':=(m.kid.meet (lf w.1 w.2)).up) (bS _) B4 e1 hf (fun k hk=>by rw [show sf i=some k from hk] at hs; cases hs; exact l3 _ hk) (by rw [a2q]; exact hl) p4 (fun b h=>h.elim (fun z=>⟨.inl (a1 b z).1,(a1 b z).2⟩) fun z=>⟨.inr (b1 b z),hG b (b1 b z)⟩) (ts':=ts.set q w.2) ?_ fun Z5 Fs5 B5 s5=>h5 σ Z5 _ Fs5 B5 ((s.trans (s3.mono (fun _ z=>z) fun b h=>h.imp id .inl)).trans s5)
    rw [cZ]
    refine RepL.setAt (A0:=A1) (G0:=A2) (fun _ z=>.inl z) (fun _ z=>.inr z) (fun b h q=>dis b (a1 b h) (b1 b q)) (a2.zmono fun b h=>?_) (b2.zmono fun b h=>?_)
    ·exact h.imp id fun q=>⟨.inl q.1.1,q.1.2,fun z=>z.elim q.2 fun z=>dis b q.1 (b1 b z)⟩
    ·exact h.imp id fun q=>⟨.inr q.1,hG b q.1,fun z=>z.elim (fun z=>dis b (a1 b z) q.1) q.2⟩
end
end MR
namespace MR
open L2 L3 M
open PySem (Addr Str sizeLine)
section
variable {K:a0a}{sl:Cf}{sf sg:Nat->Option Nat}{C:Call}{σ σ2:L2.St}{Z Z' Z1:Fp}{H H' H1:Hp}{Fs Fs' Fs1:Fps}{η η' η1 ηb:Env}{G G' G1 R F F':Fp}{tg is vs ls io:List Nat}{pv val:Nat->Option V}{D:cz}
noncomputable def gF (K:a0a):List Nat->TG
 | [j]=>cT j
 | [j,l]=>xp K 2 (fP (cT j) (fP (cT l) uU))
 | _=>fun _ _ _ _=>False
theorem qA {fl:Fl}{g:Env->Fl}(f:Fin K sl Z H F D (Fl.turn fl g)):(∃ η',fl=.nx η'/\Fin K sl Z H F D (g η'))\/(∃ η',fl=.bk η'/\Fin K sl Z H F D (.nx η'))\/(∃ w η',fl=.rt w η'/\Fin K sl Z H F D (.rt w η')):=by
 cases fl with
 | nx η=>exact .inl ⟨η,rfl,f⟩
 | bk η=>exact .inr (.inl ⟨η,rfl,f⟩)
 | rt w η=>exact .inr (.inr ⟨w,η,rfl,f⟩)
 | ex c x η=>exact f.elim
 | no=>exact f.elim
theorem gY {fl:Fl}{g:Env->Fl}{N:L2.St->Hp->Prop}(f:Fin K sl Z H F D (Fl.turn fl g))(hN:∀ η' σ' Z' H' Fs',fl=.nx η'->Fin K sl Z H F D (g η')->At K sl σ' Z' H' Fs' η' no->Step Z H F Z' H' (tot Fs')->N σ' H'):Fin K sl Z H F { D with nx:=N,ct:=N,bk:=D.nx } fl:=by
 rcases qA f with ⟨η',rfl,f⟩ | ⟨η',rfl,f⟩ | ⟨w,η',rfl,f⟩
 ·exact fun σ' Z' H' Fs' A s=>hN η' σ' Z' H' Fs' rfl f A s
 ·exact f
 ·exact f
theorem qW {n i:Nat}{J:It}{ts:List (List W)}{ws:List W}{js:List Nat}{x:V}{Q:L2.St->Hp->Prop}(hn:tg.length=n)(nd:tg.Nodup)(N:oA sf io pv)(hio:∀ t∈tg,t ∉ io)(hjs:tg.map sf=js.map some)(hz:∀ a,Z1 a->Z a)(st:Stay Z1 H1 H)(yl:Yld K J Z1 H1 ts n)(A:At K ⟨sf,pv⟩ σ Z H Fs η no)
  (hw:ts[i]?=some ws) (hb:bindT tg ws η=some ηb) (y:J.yld i H x H') (k:∀ σ2 H2 Fs2,At K ⟨sf,pv⟩ σ2 Z H2 Fs2 ηb no->Step Z H (tot Fs) Z H2 (tot Fs2)->Q σ2 H2):gF K js x σ H' Q:=by
 have hi:i < ts.length:=(a0q.mp hw).1
 match n,yl with
 | 1,yl =>
  obtain ⟨e0,w,hw',r⟩:=yl H i x H' st hi y
  rw [e0]
  rw [hw] at hw'; cases hw'
  match tg,hn,js,hjs with
  | [t],_,[j],hjs =>
   cases hb
   have hs:sf t=some j:=by simpa using hjs
   exact k _ H _ (At.set N (hio t (by simp)) hs A (r.zmono hz)) ((Step.refl _ _ _).mono (fun _ z=>z) fun a h=>(bu h).elim id fun z=>z.elim)
  | [t],_,[],hjs=>simp at hjs
  | [t],_,_::_::_,hjs=>simp at hjs
 | 2,yl =>
  obtain ⟨p,y1,z1,u,w,rfl,sm,hq,hw',r1,r2⟩:=yl H i x H' st hi y
  rw [hw] at hw'; cases hw'
  match tg,hn,js,hjs with
  | [t,t'],_,[j,j'],hjs =>
   cases hb
   have hs:sf t=some j:=by simp at hjs; exact hjs.1
   have hs':sf t'=some j':=by simp at hjs; exact hjs.2
   have s0:Step Z H no Z H' no:=eZ sm
   obtain ⟨A1,s1⟩:=A.op ck s0
   have sn:Stay Z H H':=iu sm
   have r1':Rep K Z H' u.1 u.2 y1 no:=(r1.zmono hz).keep sn (fun _ z=>z) fun _ _ z=>z.elim
   have r2':Rep K Z H' w.1 w.2 z1 no:=(r2.zmono hz).keep sn (fun _ z=>z) fun _ _ z=>z.elim
   have A2:=At.set N (hio t (by simp)) hs A1 r1'
   have A3:=At.set N (hio t' (by simp)) hs' A2 r2'
   refine ⟨p,[y1,z1],rfl,hq,rfl,y1,[z1],rfl,z1,[],rfl,rfl,k _ _ _ A3 (s1.mono (fun a h=>h.elim id fun z=>z.elim) fun a h=>?_)⟩
   rcases bu h with h | h
   ·exact .inl ((bu h).elim id fun z=>z.elim)
   ·exact h.elim
  | [t,t'],_,[],hjs=>simp at hjs
  | [t,t'],_,[_],hjs=>simp at hjs
  | [t,t'],_,_::_::_::_,hjs=>simp at hjs
theorem td {n:Nat}{k:Ik}{src:List E}{js:List Nat}{body:List S}(hn:tg.length=n)(nd:tg.Nodup)(hio:∀ t∈tg,t ∉ io)(hjs:tg.map sf=js.map some)(D:cz)(σ:L2.St)(H:Hp)(h:wS K sf io C (.forS vs ls k src tg body) D σ H) :
  zV (wI K sf C n k src) (gF K js) (wSs K sf io C body) D σ H:=by
 obtain ⟨pv,Z,Fs,η,N,A,f⟩:=h
 obtain ⟨⟨ws,η2⟩,h1,h2⟩:=bj (show Fin K ⟨sf,pv⟩ Z H (tot Fs) D (Fl.of η (evL C src (pick vs ls η)) (kFor vs k tg (evSs C body) η)) from f)
 obtain ⟨⟨ts,η3⟩,h3,h4⟩:=bj (show Fin K ⟨sf,pv⟩ Z H (tot Fs) D (Fl.of η (ret (M.share vs η) (turns k ws)) (kFor2 tg (evSs C body))) from h2)
 obtain ⟨ts',ht,e3⟩:=aF h3
 have e4:ts=ts':=congrArg a2p e3
 have e5:η3=M.share vs η:=congrArg a1Q e3
 subst e4 e5
 have h4':Fin K ⟨sf,pv⟩ Z H (tot Fs) D (forL tg (evSs C body) ts (M.share vs η)):=h4
 refine ⟨pv,_,oB,_,ws,η2,ts,A.quiet (vs:=vs) (ls:=ls),h1,ht,fun J Z1 H1 Fs1 B s wk yl=>?_⟩
 obtain ⟨B1,s1⟩:=dM (G:=no) A ck B.gd.zal (s.mono (F2:=fun a=>tot Fs1 a\/no a) (fun _ z=>z) fun a h=>h.elim id fun z=>z.elim) fun a h=>gE h
 obtain ⟨B2,s2⟩:=B1.share (vs:=vs)
 have s3:=(s2 s1).mono (F2:=tot (eI Fs vs)) (fun _ z=>z) fun _ z=>.inl z
 have zz:∀ a,Z1 a->((Z1 a/\¬ cq Fs vs a)\/cq Fs vs a):=fun a h=>(a3q (cq Fs vs a)).elim .inr fun q=>.inl ⟨h,q⟩
 refine ⟨fun i m σ' H'=>m=ts.length-i/\i<=ts.length/\∃ Zi Fsi ηi,At K ⟨sf,pv⟩ σ' Zi H' Fsi ηi no/\Step (fun a=>(Z1 a/\¬ cq Fs vs a)\/cq Fs vs a) H1 (tot (eI Fs vs)) Zi H' (tot Fsi)/\Fin K ⟨sf,pv⟩ Zi H' (tot Fsi) D (forL tg (evSs C body) (ts.drop i) ηi),⟨ts.length,by simp,a0Y _,_,_,_,B2,Step.refl _ _ _,h4'.step s3⟩,?_⟩
 rintro i m σi H0 ⟨rfl,hi,Zi,Fsi,ηi,Ai,si,fi⟩
 have st:Stay Z1 H1 H0:=by
  have:=B2.gd.own.stay si
  exact ⟨fun a o h=>this.1 a o (zz a h),this.2⟩
 by_cases hlt:i < ts.length
 ·right
  refine ⟨wk.go H0 i st hlt,_,fun σ' H' hw=>⟨ts.length-(i+1),by omega,hw⟩,fun x H' y=>?_⟩
  have hw:ts[i]?=some ts[i]:=by simp [hlt]
  rw [fE hw] at fi
  obtain ⟨ηb,hb,fb⟩:=bj (show Fin K ⟨sf,pv⟩ Zi H0 (tot Fsi) D (Fl.of ηi (ofO (bindT tg ts[i] ηi)) fun η1=>Fl.turn (evSs C body η1) (forL tg (evSs C body) (ts.drop (i+1)))) from fi)
  refine qW hn nd N hio hjs (fun a h=>si.zm a (zz a h)) st yl Ai hw (cx hb) y fun σ2 H2 Fs2 A2 t2=>?_
  refine ⟨pv,Zi,Fs2,ηb,N,A2,gY (fb.step t2) fun η' σ' Z' H' Fs' _ f' A' s'=>⟨rfl,hlt,Z',Fs',η',A',(si.trans t2).trans s',f'.step s'⟩⟩
 ·left
  have hi':i=ts.length:=by omega
  subst hi'
  rw [a2S] at fi
  exact ⟨wk.stop H0 _ st (a0h _),fi σi Zi H0 Fsi Ai (Step.refl _ _ _)⟩
theorem yx {x:X}{c:E}{body:List S}(D:cz)(σ:L2.St)(H:Hp)(h:wS K sf io C (.whl x c body) D σ H):sP (wT K sf C c) (wSs K sf io C body) D σ H:=by
 obtain ⟨pv,Z,Fs,η,N,A,f⟩:=h
 have f':Fin K ⟨sf,pv⟩ Z H (tot Fs) D (jG (evT C x c) (evSs C body) pe η):=f
 refine ⟨fun m σ' H'=>∃ Z' Fs' η',At K ⟨sf,pv⟩ σ' Z' H' Fs' η' no/\Fin K ⟨sf,pv⟩ Z' H' (tot Fs') D (jG (evT C x c) (evSs C body) m η'),⟨pe,Z,Fs,η,A,f'⟩,?_⟩
 rintro m σ1 H1 ⟨Z1,Fs1,η1,A1,f1⟩
 cases m with
 | zero=>exact f1.elim
 | succ m =>
  obtain ⟨⟨b,η2⟩,h1,h2⟩:=bj (show Fin K ⟨sf,pv⟩ Z1 H1 (tot Fs1) D (Fl.of η1 (evT C x c η1) (kIf (qQ (evSs C body) (jG (evT C x c) (evSs C body) m)) .nx)) from f1)
  refine CJ (sl:=⟨sf,pv⟩) A1 h1 fun Z2 H2 Fs2 B s=>?_
  cases b with
  | true =>
   rw [if_pos rfl]
   refine ⟨_,fun σ' H' hw=>⟨m,a3v m,hw⟩,pv,Z2,Fs2,η2,N,B,gY (Fin.step s (show Fin K ⟨sf,pv⟩ Z1 H1 (tot Fs1) D (Fl.turn (evSs C body η2) (jG (evT C x c) (evSs C body) m)) from h2)) fun η' σ' Z' H' Fs' _ f' A' s'=>⟨Z',Fs',η',A',f'.step s'⟩⟩
  | false =>
   rw [if_neg a0j]
   exact (show Fin K ⟨sf,pv⟩ Z1 H1 (tot Fs1) D (.nx η2) from h2) σ1 Z2 H2 Fs2 B s
end
end MR

namespace MR
open PySem PySem.Spec PyProof.Rows L2 L3
section
variable {X:Cx}{sf sg:Nat->Option Nat}{C:M.Call}{pos p2:Pos}{ea eb ec:Expr}{a b c:M.E}{h:Bool}{n:Nat}
theorem aA {e:Expr}{t t':TE}(h:PE X e t)(hw:∀ σ H Q,t' σ H Q->t σ H Q):PE X e t':=fun pins s σ H Q I q=>h pins s σ H Q I (hw σ H Q q)
theorem nY {e:Expr}{t t':TT}(h:PT X e t)(hw:∀ σ H Q,t' σ H Q->t σ H Q):PT X e t':=fun pins s σ H Q I q=>h pins s σ H Q I (hw σ H Q q)
theorem xY {e:Expr}{t t':TT}(h:PW X e t)(hw:∀ σ H Q,t' σ H Q->t σ H Q):PW X e t':=fun whole pins s σ H Q I q=>h whole pins s σ H Q I (hw σ H Q q)
theorem kG {es:List Expr}{t t':TA}(h:PA X es t)(hw:∀ σ H Q,t' σ H Q->t σ H Q):PA X es t':=fun pos pins s σ H Q I q=>h pos pins s σ H Q I (hw σ H Q q)
theorem c7 {s:Stmt}{t t':TS}(h:PS X s t)(hw:∀ D σ H,t' D σ H->t D σ H):PS X s t':=fun pins s σ H D I q=>h pins s σ H D I (hw D σ H q)
theorem mJ {s:List Stmt}{t t':TS}(h:PSs X s t)(hw:∀ D σ H,t' D σ H->t D σ H):PSs X s t':=fun pins s σ H D I q=>h pins s σ H D I (hw D σ H q)
theorem ji {tg e:Expr}{t t':TI}(h:PI X tg e t)(hw:∀ σ H R,t' σ H R->t σ H R):PI X tg e t':=fun pins s σ H R I q=>h pins s σ H R I (hw σ H R q)
theorem Cq {tg e:Expr}{t t':TI}(h:PI X tg e t)(h':PI X tg e t'):PI X tg e (fun σ H R=>t σ H R\/t' σ H R):=fun pins s σ H R I q=>q.elim (h pins s σ H R I) (h' pins s σ H R I)
noncomputable abbrev SE (X:Cx)(sf:Nat->Option Nat)(C:M.Call)(me:Expr)(e:M.E):Prop:=PE X me (wE X.K sf C e)
noncomputable abbrev SB (X:Cx)(sf:Nat->Option Nat)(C:M.Call)(me:Expr)(e:M.E):Prop:=PT X me (wT X.K sf C e)
noncomputable abbrev SL (X:Cx)(sf:Nat->Option Nat)(C:M.Call)(me:List Expr)(es:List M.E):Prop:=PA X me (wL X.K sf C es)
noncomputable abbrev SA (X:Cx)(sf:Nat->Option Nat)(C:M.Call)(me:List Expr)(es:List M.E):Prop:=PA X me (wA X.K sf C es)
noncomputable abbrev SS (X:Cx)(sf:Nat->Option Nat)(io:List Nat)(C:M.Call)(ms:Stmt)(s:M.S):Prop:=PS X ms (wS X.K sf io C s)
noncomputable abbrev SSs (X:Cx)(sf:Nat->Option Nat)(io:List Nat)(C:M.Call)(ms:List Stmt)(s:List M.S):Prop:=PSs X ms (wSs X.K sf io C s)
theorem sV (j:Nat){i:Nat}{x:Str}(hs:sf i=some j:=by rfl)(hN:X.N[j]?=some x:=by rfl)(hv:Vis X.env.scope x:=by first | exact a1r rfl | exact a1h (a1r rfl) | exact a1h (a1h rfl))(hd:(x==("__debug__":Str))=false:=by decide)
  (hcd:(x==("__classdict__":Str))=false:=by decide):SE X sf C (.Name x pos) (.var i):=aA (dS hN hv hd hcd) (A6 hs)
theorem sM (j:Nat){i:Nat}{x:Str}(hs:sf i=some j:=by rfl)(hN:X.N[j]?=some x:=by rfl)(hv:Vis X.env.scope x:=by first | exact a1r rfl | exact a1h (a1r rfl) | exact a1h (a1h rfl))(hd:(x==("__debug__":Str))=false:=by decide)
  (hcd:(x==("__classdict__":Str))=false:=by decide):SE X sf C (.Name x pos) (.mv i):=aA (dS hN hv hd hcd) (yF (fun _=>rfl) hs)
theorem sI {i:Int}{k:Nat}:SE X sf C (.Constant (.int i) k pos) (.cst (.int i)):=aA bW (ie fun {_ _}=>rfl)
theorem sO {i:Bool}{k:Nat}:SE X sf C (.Constant (.bool i) k pos) (.cst (.bl i)):=aA Cg (ie fun {_ _}=>rfl)
theorem sN {k:Nat}:SE X sf C (.Constant .none k pos) (.cst .non):=aA yP (ie fun {_ _}=>rfl)
theorem vn (s:String)(hl:s.length<=1000):M.sOk (Str.ofString s)=true:=by
 unfold M.sOk
 rw [Str.ofString_eq_toList,a0s]
 refine ⟨?_,decide_eq_true ?_⟩
 ·rw [a2x]
  intro x hx
  rw [List.mem_toArray,a0t] at hx
  obtain ⟨c,_,rfl⟩:=hx
  refine decide_eq_true ?_
  have:=c.valid
  have h2:c.toNat < 0x110000:=by
   have h3:=c.valid
   unfold UInt32.isValidChar Nat.isValidChar at h3
   show c.val.toNat < _
   omega
  exact h2
 ·rw [a0m,a0b,String.length_toList]
  exact a0o hl (by decide)
theorem sS {s:String}{k:Nat}(hl:s.length<=1000:=by decide):SE X sf C (.Constant (.str (Str.ofString s)) k pos) (.cst (.str (Str.ofString s))):=aA zy (ie fun {_ _}=>⟨rfl,vn s hl⟩)
theorem sl0:SL X sf C [] []:=kG bf zR
theorem slc {es:List Expr}{bs:List M.E}(ha:SE X sf C ea a)(hb:SL X sf C es bs)(hs:starEach (ea::es) X.env=(false,eval ea X.env)::starEach es X.env:=by rfl):SL X sf C (ea::es) (a::bs):=kG (aC ha hb hs) uX
theorem sT {es:List Expr}{bs:List M.E}{x1:Nat}(h:SL X sf C es bs)(hn:bs.length<=M.LIM:=by decide):SE X sf C (.Tuple es x1 pos) (.tup bs):=aA (jP h) (BG hn)
theorem sLs {es:List Expr}{bs:List M.E}(hh:SL X sf C es bs)(hn:bs.length<=M.LIM:=by decide):SE X sf C (.List es pos) (.lst h bs):=aA (sy hh) (zS hn)
theorem bB (ha:SE X sf C ea a)(hb:SE X sf C eb b):SE X sf C (.BinOp ea .Add eb pos) (.op .add h [a,b]) :=
 aA (fO (op_add.or (op_add_str.or (op_cat.or uA))) ha hb) (aS (wm (yd X.K) fun {Z H G Q a b xs ys ts} h1 h2 h3 h4 ow r k=>by
  obtain ⟨G',g1,g2⟩:=r
  refine ⟨a,b,xs,ys,rfl,rfl,h1,h2,h3,bR h4,fun v H' same hv=>lE (m:=.s) ow g1 ?_ g2 k same hv⟩
  rw [a0g]; exact h4))
theorem fH (ha:SE X sf C ea a)(hb:SE X sf C eb b):SE X sf C (.BinOp ea .Sub eb pos) (.op .sub h [a,b]):=aA (fO A8 ha hb) (aS xk)
theorem dP (ha:SE X sf C ea a)(hb:SE X sf C eb b):SE X sf C (.BinOp ea .Mult eb pos) (.op .mul h [a,b]):=aA (fO (op_mul.or zd) ha hb) (aS xh)
theorem Dw (ha:SE X sf C ea a)(hb:SE X sf C eb b):SE X sf C (.BinOp ea .FloorDiv eb pos) (.op .fdiv h [a,b]):=aA (fO vd ha hb) (aS tX)
theorem iJ (ha:SE X sf C ea a)(hb:SE X sf C eb b):SE X sf C (.BinOp ea .Mod eb pos) (.op .mod h [a,b]):=aA (fO zi ha hb) (aS vS)
theorem kZ (ha:SE X sf C ea a)(hb:SE X sf C eb b):SE X sf C (.BinOp ea .Pow eb pos) (.op .pow h [a,b]):=aA (fO yW ha hb) (aS v9)
theorem sLt (ha:SE X sf C ea a)(hb:SE X sf C eb b):SE X sf C (.Compare ea [.Lt] [eb] pos) (.op .lt h [a,b]):=aA (nr yb ha hb (cX _)) (aS sj)
theorem sIx (ha:SE X sf C ea a)(hb:SE X sf C eb b)(hs:eO eb:=by intro _ _; rfl):SE X sf C (.Subscript ea eb pos) (.op .ix h [a,b]):=aA (rU (ix_any.or Bw) ha hb hs) (aS Ah)
mutual
noncomputable def th:M.T->Th
 | .non=>.non | .bl b=>.bl b | .int i=>.int i | .str x=>.str x | .tup ts=>.tup (ths ts) | .lst ts=>.lst (ths ts) | .dct _ _=>.non | .ins _ _ _=>.non | .scr _=>.non | .gone=>.non
noncomputable def ths:List M.T->List Th
 | []=>[]
 | t::ts=>th t::ths ts
end
mutual
theorem nG {K:a0a}{Z:Fp}{H:Hp}:∀ {t:M.T} {m:M.Md} {v:V} {G:Fp} {n:Nat},M.dp t<=n->n<=64->Rep K Z H m t v G->Has K H (th t) v/\(toD (th t)).canLay0=true/\(toD (th t)).depth<=n
 | .non,_,_,_,_,_,_,r=>⟨r,rfl,a0Y _⟩
 | .bl _,_,_,_,_,_,_,r=>⟨r,rfl,a0Y _⟩
 | .int _,_,_,_,_,_,_,r=>⟨r,rfl,a0Y _⟩
 | .str x,_,_,_,_,_,_,r=>⟨r.1,by have h:=r.2; unfold M.sOk at h; rw [a0s] at h; exact h.1,a0Y _⟩
 | .tup ts,m,v,G,n,hd,hn,⟨a,xs,e,q,l,r⟩=>by
  have hd':M.dps ts+1<=n:=hd
  match n,hd' with
  | n+1,hd' =>
   obtain ⟨h1,h2,h3⟩:=gD (n:=n) (by omega) (by omega) r
   exact ⟨⟨a,xs,e,q,h1⟩,h2,a1Y h3⟩
 | .lst ts,m,v,G,n,hd,hn,⟨a,xs,e,l,q,r⟩=>by
  have hd':M.dps ts+1<=n:=hd
  match n,hd' with
  | n+1,hd' =>
   obtain ⟨h1,h2,h3⟩:=gD (n:=n) (by omega) (by omega) r
   exact ⟨⟨a,xs,e,by cases m<;>exact q.2,h1⟩,h2,a1Y h3⟩
 | .dct _ _,_,_,_,_,hd,hn,_=>by have:1000<=64:=a0o hd hn; omega
 | .ins _ _ _,_,_,_,_,hd,hn,_=>by have:1000<=64:=a0o hd hn; omega
 | .gone,_,_,_,_,hd,hn,_=>by have:1000<=64:=a0o hd hn; omega
 | .scr _,_,_,_,_,hd,hn,_=>by have:1000<=64:=a0o hd hn; omega
theorem gD {K:a0a}{Z:Fp}{H:Hp}:∀ {ts:List M.T} {m:M.Md} {xs:List V} {G:Fp} {n:Nat},M.dps ts<=n->n<=64->RepL K Z H m ts xs G->HasL K H (ths ts) xs/\PyData.canLayAll0 (gb (ths ts))=true/\PyData.depthAll (gb (ths ts))<=n
 | [],_,_,_,_,_,_,r=>⟨r,rfl,a0Y _⟩
 | t::ts,m,xs,G,n,hd,hn,⟨x,r,G1,G2,e,_,_,_,p,q⟩=>by
  have hd':max (M.dp t) (M.dps ts)<=n:=hd
  obtain ⟨h1,h2,h3⟩:=nG (n:=n) (by omega) hn p
  obtain ⟨k1,k2,k3⟩:=gD (n:=n) (by omega) hn q
  refine ⟨⟨x,r,e,h1,k1⟩,?_,?_⟩
  ·show ((toD (th t)).canLay0&&PyData.canLayAll0 (gb (ths ts)))=true
   rw [h2,k2]; rfl
  ·show max (toD (th t)).depth (PyData.depthAll (gb (ths ts)))<=n
   omega
end
mutual
theorem mz:∀ (t u:M.T),M.dp t<=64->M.dp u<=64->PyData.eqv (toD (th t)) (toD (th u))=M.eqT t u
 | .dct _ _,_,h,_=>by have:1000<=64:=h; omega
 | .ins _ _ _,_,h,_=>by have:1000<=64:=h; omega
 | .gone,_,h,_=>by have:1000<=64:=h; omega
 | .scr _,_,h,_=>by have:1000<=64:=h; omega
 | .non,u,_,h=>by cases u<;>first | rfl | (have:1000<=64:=h; omega)
 | .bl a,u,_,h=>by cases u<;>first | rfl | (cases a<;>rfl) | (have:1000<=64:=h; omega)
 | .int i,u,_,h=>by
  cases u with
  | bl b=>cases b<;>rfl
  | _=>first | rfl | (have:1000<=64:=h; omega)
 | .str x,u,_,h=>by cases u<;>first | rfl | (have:1000<=64:=h; omega)
 | .tup ts,u,h1,h=>by
  cases u with
  | tup us=>exact jA ts us (by have:M.dps ts+1<=64:=h1; omega) (by have:M.dps us+1<=64:=h; omega)
  | _=>first | rfl | (have:1000<=64:=h; omega)
 | .lst ts,u,h1,h=>by
  cases u with
  | lst us=>exact jA ts us (by have:M.dps ts+1<=64:=h1; omega) (by have:M.dps us+1<=64:=h; omega)
  | _=>first | rfl | (have:1000<=64:=h; omega)
theorem jA:∀ (ts us:List M.T),M.dps ts<=64->M.dps us<=64->PyData.eqvAll (gb (ths ts)) (gb (ths us))=M.eqTs ts us
 | [],[],_,_=>rfl
 | [],_::_,_,_=>rfl
 | _::_,[],_,_=>rfl
 | t::ts,u::us,h1,h2=>by
  have h1':max (M.dp t) (M.dps ts)<=64:=h1
  have h2':max (M.dp u) (M.dps us)<=64:=h2
  show (PyData.eqv (toD (th t)) (toD (th u))&&PyData.eqvAll (gb (ths ts)) (gb (ths us)))=(M.eqT t u&&M.eqTs ts us)
  rw [mz t u (by omega) (by omega),jA ts us (by omega) (by omega)]
end
theorem jQ {K:a0a}{Z:Fp}{H:Hp}{t:M.T}{m:M.Md}{v:V}{G:Fp}(hd:M.dp t<=64)(r:Rep K Z H m t v G):Has K H (th t) v/\jZ (th t):=by
 obtain ⟨h1,h2,h3⟩:=nG hd (a0h _) r
 refine ⟨h1,?_⟩
 show ((toD (th t)).canLay0&&decide ((toD (th t)).depth<=64))=true
 rw [h2,decide_eq_true h3]; rfl
theorem rh {K:a0a}:Loc K 2 .eq h fun xs H Q=>∀ x y,xs=[x,y]->∃ t t',Has K H t x/\Has K H t' y/\jZ t/\jZ t'/\Q (.bl (PyData.eqv (toD t) (toD t'))) H:=by
 intro ws w xs Z H G Q hn e r ow za k x y hx
 subst hx
 obtain ⟨⟨m,a⟩,⟨n,b⟩,rfl⟩:=fw r.length.symm
 obtain ⟨G1,G2,w1,w2,d,r1,r2⟩:=cR r
 have e':(if decide (M.dp a<=64)&&decide (M.dp b<=64) then some ((.d,.bl (M.eqT a b)):M.W) else none)=some w:=e
 split at e'
 ·rename_i hc
  rw [a0s,decide_eq_true_eq,decide_eq_true_eq] at hc
  cases e'
  obtain ⟨h1,o1⟩:=jQ hc.1 r1
  obtain ⟨h2,o2⟩:=jQ hc.2 r2
  refine ⟨th a,th b,h1,h2,o1,o2,?_⟩
  rw [mz a b hc.1 hc.2]
  exact bH k
 ·cases e'
theorem zA {K:a0a}:Loc K 2 .ne h fun xs H Q=>∀ x y,xs=[x,y]->∃ t t',Has K H t x/\Has K H t' y/\jZ t/\jZ t'/\Q (.bl (!PyData.eqv (toD t) (toD t'))) H:=by
 intro ws w xs Z H G Q hn e r ow za k x y hx
 subst hx
 obtain ⟨⟨m,a⟩,⟨n,b⟩,rfl⟩:=fw r.length.symm
 obtain ⟨G1,G2,w1,w2,d,r1,r2⟩:=cR r
 have e':(if decide (M.dp a<=64)&&decide (M.dp b<=64) then some ((.d,.bl (!M.eqT a b)):M.W) else none)=some w:=e
 split at e'
 ·rename_i hc
  rw [a0s,decide_eq_true_eq,decide_eq_true_eq] at hc
  cases e'
  obtain ⟨h1,o1⟩:=jQ hc.1 r1
  obtain ⟨h2,o2⟩:=jQ hc.2 r2
  refine ⟨th a,th b,h1,h2,o1,o2,?_⟩
  rw [mz a b hc.1 hc.2]
  exact bH k
 ·cases e'
theorem sEq (hr:Room n X.A)(ha:SE X sf C ea a)(hb:SE X sf C eb b):SE X sf C (.Compare ea [.Eq] [eb] pos) (.op .eq h [a,b]):=aA (nr (nI hr.units) ha hb (cX _)) (aS rh)
theorem nu {K:a0a}{Z:Fp}{H:Hp}{t:M.T}{m:M.Md}{x:V}{G:Fp}(hg:t.isG=false)(r:Rep K Z H m t x G):decide (x=V.non)=t.isN:=by
 cases t with
 | non=>rw [show x=_ from r]; rfl
 | bl _=>rw [show x=_ from r]; rfl
 | int _=>rw [show x=_ from r]; rfl
 | str _=>rw [show x=_ from r.1]; rfl
 | tup _=>obtain ⟨p,_,e,_⟩:=r; rw [show x=_ from e]; rfl
 | lst _=>obtain ⟨p,_,e,_⟩:=r; rw [show x=_ from e]; rfl
 | scr _=>obtain ⟨p,e,_⟩:=r; rw [show x=_ from e]; rfl
 | dct _ _=>exact r.elim
 | ins _ _ _=>exact r.elim
 | gone=>cases hg
theorem ifN {α:Type}{b:Bool}{x:Option α}{y:α}(h:(if b=true then none else x)=some y):b=false/\x=some y:=by cases b<;>first | exact ⟨rfl,h⟩ | cases h
theorem yo {K:a0a}:Loc K 2 .is h fun xs H Q=>∀ x y,xs=[x,y]->y=.non/\Q (.bl (decide (x=.non))) H:=by
 intro ws w xs Z H G Q hn e r ow za k x y hx
 subst hx
 obtain ⟨⟨m,a⟩,⟨n,b⟩,rfl⟩:=fw r.length.symm
 obtain ⟨G1,G2,w1,w2,d,r1,r2⟩:=cR r
 cases b with
 | non=>obtain ⟨hg,e⟩:=ifN (show (if a.isG=true then none else some _)=_ from e); cases e; rw [nu hg r1]; exact ⟨r2,bH k⟩
 | _=>cases a<;>cases e
theorem oP {K:a0a}:Loc K 2 .isnot h fun xs H Q=>∀ x y,xs=[x,y]->y=.non/\Q (.bl (!decide (x=.non))) H:=by
 intro ws w xs Z H G Q hn e r ow za k x y hx
 subst hx
 obtain ⟨⟨m,a⟩,⟨n,b⟩,rfl⟩:=fw r.length.symm
 obtain ⟨G1,G2,w1,w2,d,r1,r2⟩:=cR r
 cases b with
 | non=>obtain ⟨hg,e⟩:=ifN (show (if a.isG=true then none else some _)=_ from e); cases e; rw [nu hg r1]; exact ⟨r2,bH k⟩
 | _=>cases a<;>cases e
theorem nP {K:a0a}{Z:Fp}{H:Hp}{G:Fp}{m:M.Md}{ts:List M.T}{xs:List V}(lo hi:Option Int)(r:RepL K Z H m ts xs G):RepL K Z H m (M.cut ts lo hi) (dZ xs lo hi) G:=by
 have e:=r.length
 have hs:∀ n d o,HT.sIx n d o=M.sIx n d o:=fun n d o=>by cases o<;>rfl
 have hc:dZ xs lo hi=(xs.drop (M.sIx ts.length 0 lo)).take (M.sIx ts.length ts.length hi-M.sIx ts.length 0 lo):=by
  unfold dZ
  rw [hs,hs,e]
 rw [hc]
 exact (r.drop _).take _
theorem sW (ns:List Int)(lo hi:Option Int):dZ (ns.map V.int) lo hi=(M.cut ns lo hi).map V.int:=by
 have hs:∀ n d o,HT.sIx n d o=M.sIx n d o:=fun n d o=>by cases o<;>rfl
 unfold dZ M.cut
 rw [hs,hs,a0b,a1C,List.map_drop]
theorem Af {α:Type}(xs:List α)(lo hi:Option Int):(M.cut xs lo hi).length<=xs.length:=by
 unfold M.cut
 rw [a01,a1e]; omega
theorem q9 {K:a0a}{Z:Fp}{H:Hp}{G G1:Fp}{Q:VK}{m:M.Md}{a:M.T}{x:V}{w:M.W}{lo hi:Option Int}(hg:∀ b,G1 b->G b)(ow:Own Z H G)(za:∀ a,Z a->H a≠none)(r:Rep K Z H m a x G1)
  (e:(match a with | .lst ts=>M.newL h m.kid (M.cut ts lo hi) | .tup ts=>some ((.s,.tup (M.cut ts lo hi)):M.W) | .scr ns=>some (.d,.lst ((M.cut ns lo hi).map M.T.int)) | _=>none)=some w) (k:Out K Z H G w Q):wy K x lo hi H Q\/wz K x lo hi H Q:=by
 cases a with
 | lst ts =>
  obtain ⟨p,xs,rfl,hs,hl,q⟩:=a7 r
  refine .inl ⟨p,xs,rfl,.inl (.inl hs),fun l hl'=>?_⟩
  exact dU ow za (a0o (cV xs lo hi) hl) ⟨G1,hg,(nP lo hi q).zmono fun _ z=>.inl z⟩ e k hl'
 | tup ts =>
  obtain ⟨p,xs,rfl,hs,hl,q⟩:=dD r
  cases e
  refine .inr ⟨p,xs,rfl,hs,fun v H' same hv=>?_⟩
  exact lE (m:=.s) (G':=no) ow (fun _ z=>z.elim) (a0o (cV xs lo hi) hl) ((RepL.sh (nP lo hi q)).zmono fun b hb=>hb.imp id fun z=>⟨hg b z,fun q=>q⟩) k same hv
 | scr ns =>
  obtain ⟨p,rfl,hL,hs⟩:=r
  cases e
  refine .inl ⟨p,_,rfl,hs.sq,fun l hl'=>?_⟩
  rw [sW]
  exact cp (m:=.d) (G':=no) ow za (fun _ z=>z.elim) (by rw [a0b]; exact a0o (Af ns lo hi) hL) (kn _) (by simp) k hl'
 | _=>cases e
theorem sE {p3:Pos}(ha:SE X sf C ea a)(hb:SE X sf C eb b):SE X sf C (.Subscript ea (.Slice none (some eb) none p3) pos) (.op .sl2 h [a,b]) :=
 aA (gG (sl_list.or nB) ha oj (gr hb)) (fun σ H Q hw=>aS (r:=fun x y H Q=>∃ i,y=.int i/\(wy X.K x none (some i) H Q\/wz X.K x none (some i) H Q)) (by
  intro ws w xs Z H G Q hn e r ow za k x y hx
  subst hx
  obtain ⟨⟨m,a⟩,⟨n,b⟩,rfl⟩:=fw r.length.symm
  obtain ⟨G1,G2,w1,w2,d,r1,r2⟩:=cR r
  cases b with
  | int i=>exact ⟨i,r2,q9 (h:=h) (lo:=none) (hi:=some i) w1 ow za r1 (by cases a<;>exact e) k⟩
  | _=>cases a<;>cases e) σ H Q hw)
theorem Ee {p3:Pos}(ha:SE X sf C ea a)(hb:SE X sf C eb b):SE X sf C (.Subscript ea (.Slice (some eb) none none p3) pos) (.op .sl1 h [a,b]) :=
 aA (gG (sl_list.or nB) ha (gr hb) oj) (fun σ H Q hw=>aS (r:=fun x y H Q=>∃ i,y=.int i/\(wy X.K x (some i) none H Q\/wz X.K x (some i) none H Q)) (by
  intro ws w xs Z H G Q hn e r ow za k x y hx
  subst hx
  obtain ⟨⟨m,a⟩,⟨n,b⟩,rfl⟩:=fw r.length.symm
  obtain ⟨G1,G2,w1,w2,d,r1,r2⟩:=cR r
  cases b with
  | int i=>exact ⟨i,r2,q9 (h:=h) (lo:=some i) (hi:=none) w1 ow za r1 (by cases a<;>exact e) k⟩
  | _=>cases a<;>cases e) σ H Q hw)
theorem q8 {K:a0a}:Loc K 1 .len h fun xs H Q=>∃ x n,xs=[x]/\CF K x H n/\Q (.int n) H:=by
 intro ws w xs Z H G Q hn e r ow za k
 obtain ⟨x,n,hx,hm,q⟩:=xm (h:=h) ws w xs Z H G Q hn e r ow za k
 exact ⟨x,n,hx,by cases x<;>exact hm,q⟩
section
variable {p:Pos}{x1:Str}
theorem dm (hm:X.mg "len"=none)(hg:Gl X "len":=by rfl)(ha:SE X sf C ea a)(hs:starEach [ea] X.env=(false,eval ea X.env)::starEach [] X.env:=by rfl)(hpl:(backTo pos (starEach [] X.env)).any (·.1)=false:=by rfl):SE X sf C (.Call (.Name "len" p) [ea] [] pos) (.op .len h [a]) :=
 aA (br su hg hm PySem.boot_len (slc ha sl0 hs) (by decide) (by decide) hs hpl) (fV q8 rfl)
theorem uo (hc:X.calm=true:=by rfl)(hm:X.mg "sum"=none)(hg:Gl X "sum":=by rfl)(ha:SE X sf C ea a)(hs:starEach [ea] X.env=(false,eval ea X.env)::starEach [] X.env:=by rfl)(hpl:(backTo pos (starEach [] X.env)).any (·.1)=false:=by rfl):SE X sf C (.Call (.Name "sum" p) [ea] [] pos) (.op .sum h [a]) :=
 aA (br (oX hc) hg hm (by rfl) (slc ha sl0 hs) (by decide) (by decide) hs hpl) (fV wQ rfl)
theorem D1 (hc:X.calm=true:=by rfl)(hm:X.mg "all"=none)(hg:Gl X "all":=by rfl)(ha:SE X sf C ea a)(hs:starEach [ea] X.env=(false,eval ea X.env)::starEach [] X.env:=by rfl)(hpl:(backTo pos (starEach [] X.env)).any (·.1)=false:=by rfl):SE X sf C (.Call (.Name "all" p) [ea] [] pos) (.op .all h [a]) :=
 aA (br (oK hc) hg hm (by rfl) (slc ha sl0 hs) (by decide) (by decide) hs hpl) (fV xA rfl)
theorem nJ (hm:X.mg "list"=none)(hg:Gl X "list":=by rfl)(ha:SE X sf C ea a)(hs:starEach [ea] X.env=(false,eval ea X.env)::starEach [] X.env:=by rfl)(hpl:(backTo pos (starEach [] X.env)).any (·.1)=false:=by rfl):SE X sf C (.Call (.Name "list" p) [ea] [] pos) (.op .list h [a]) :=
 aA (dy eN hg hm a0S (slc ha sl0 hs) (by decide) (by decide) hs hpl) (fV qY rfl)
theorem Ec (hc:X.calm=true:=by rfl)(hm:X.mg "min"=none)(hg:Gl X "min":=by rfl)(ha:SE X sf C ea a)(hb:SE X sf C eb b)(hs:starEach [ea,eb] X.env=(false,eval ea X.env)::starEach [eb] X.env:=by rfl)(hs2:starEach [eb] X.env=(false,eval eb X.env)::starEach [] X.env:=by rfl)(hpl:(backTo pos (starEach [eb] X.env)).any (·.1)=false:=by rfl):SE X sf C (.Call (.Name "min" p) [ea,eb] [] pos) (.op .min h [a,b]) :=
 aA (br (pA hc) hg hm (by rfl) (slc ha (slc hb sl0 hs2) hs) (by decide) (by decide) hs hpl) (fV v8 rfl)
end
theorem uM {K:a0a}{x:V}{H:Hp}{k:Bool}(h:TrV K x H k):zB K x H k:=by
 cases x with
 | ref p=>exact h.imp id .inl
 | byt _=>exact h.elim
 | _=>exact h
theorem tB (ha:SE X sf C ea a)(he:∀ whole,isTrue ea X.env whole=(do let v <- whole; standAt ea.pos; holding [v] (truthy v)):=by intro _; rfl):SB X sf C ea a :=
 nY (qq ha he) fun σ H Q h=>by
  obtain ⟨pv,Z,Fs,η,w,η',b,A,ev,ht,k⟩:=h
  exact ⟨pv,Z,Fs,η,w,η',A,ev,fun v Z' H' Fs' G B r s=>⟨b,uM (oO ht r),k Z' H' Fs' B.bare (s.mono (fun _ z=>z) fun _ z=>.inl z)⟩⟩
theorem i6 (ha:SB X sf C ea a):SB X sf C (.UnaryOp .Not ea pos) (.not a):=nY (ze ha) zL
theorem Dl {σ:L2.St}{H:Hp}{Q:Bool->Hp->Prop}(hb:∀ η w η',M.evE C a η=.ok (w,η')->∃ b,w.2=.bl b)(h:wT X.K sf C a σ H Q):xH (wE X.K sf C a) σ H Q:=by
 obtain ⟨pv,Z,Fs,η,w,η',b,A,ev,ht,k⟩:=h
 refine ⟨pv,Z,Fs,η,w,η',A,ev,fun v Z' H' Fs' G B r s=>⟨b,?_,k Z' H' Fs' B.bare (s.mono (fun _ z=>z) fun _ z=>.inl z)⟩⟩
 obtain ⟨b',hb'⟩:=hb _ _ _ ev
 rw [hb'] at ht r
 cases ht
 exact r
theorem Dj {o:M.Op}(ho:∀ u v w,M.oSem o h [u,v]=some w->∃ b,w.2=.bl b):∀ η w η',M.evE C (.op o h [a,b]) η=.ok (w,η')->∃ b,w.2=.bl b:=fun η w η' e=>by
 obtain ⟨ws,h1,h2⟩:=eC e
 obtain ⟨u,η1,us,_,e2,rfl⟩:=aB h1
 obtain ⟨v,η2,us,_,e4,rfl⟩:=aB e2
 cases e4
 exact ho u v w h2
theorem cA {op:CmpOp}{r:R2}{o:M.Op}(ho:OpR X (compareOp op) r)(ha:SE X sf C ea a)(hb:SE X sf C eb b)(hm:behindInMarks op eb=false)(hl:∀ σ H Q,wE X.K sf C (.op o h [a,b]) σ H Q->tOp r (wE X.K sf C a) (wE X.K sf C b) σ H Q)
  (hbl:∀ u v w,M.oSem o h [u,v]=some w->∃ b,w.2=.bl b):SB X sf C (.Compare ea [op] [eb] pos) (.op o h [a,b]) :=
 nY (n8 ho ha hb hm) fun σ H Q hw=>hl σ H _ (Dl (Dj hbl) hw)
theorem C2 {u v w:M.W}(e:M.oSem .eq h [u,v]=some w):∃ b,w.2=.bl b:=by
 obtain ⟨m,a⟩:=u; obtain ⟨n,b⟩:=v
 have e':(if decide (M.dp a<=64)&&decide (M.dp b<=64) then some ((.d,.bl (M.eqT a b)):M.W) else none)=some w:=e
 split at e'
 ·cases e'; exact ⟨_,rfl⟩
 ·cases e'
theorem Cb {u v w:M.W}(e:M.oSem .ne h [u,v]=some w):∃ b,w.2=.bl b:=by
 obtain ⟨m,a⟩:=u; obtain ⟨n,b⟩:=v
 have e':(if decide (M.dp a<=64)&&decide (M.dp b<=64) then some ((.d,.bl (!M.eqT a b)):M.W) else none)=some w:=e
 split at e'
 ·cases e'; exact ⟨_,rfl⟩
 ·cases e'
theorem CB {u v w:M.W}(e:M.oSem .is h [u,v]=some w):∃ b,w.2=.bl b:=by
 obtain ⟨m,a⟩:=u; obtain ⟨n,b⟩:=v
 cases b with
 | non=>obtain ⟨_,e⟩:=ifN (show (if a.isG=true then none else some _)=_ from e); cases e; exact ⟨_,rfl⟩
 | _=>cases a<;>cases e
theorem uj {u v w:M.W}(e:M.oSem .isnot h [u,v]=some w):∃ b,w.2=.bl b:=by
 obtain ⟨m,a⟩:=u; obtain ⟨n,b⟩:=v
 cases b with
 | non=>obtain ⟨_,e⟩:=ifN (show (if a.isG=true then none else some _)=_ from e); cases e; exact ⟨_,rfl⟩
 | _=>cases a<;>cases e
theorem tO (ha:SE X sf C ea a)(hb:SE X sf C eb b):SB X sf C (.Compare ea [.Lt] [eb] pos) (.op .lt h [a,b]):=cA yb ha hb (cX _) (aS sj) fun u v w e=>by obtain ⟨_,_,_,_,_,_,rfl⟩:=tQ e; exact ⟨_,rfl⟩
theorem D2 (ha:SE X sf C ea a)(hb:SE X sf C eb b):SB X sf C (.Compare ea [.LtE] [eb] pos) (.op .le h [a,b]):=cA DT ha hb (cX _) (aS yN) fun u v w e=>by obtain ⟨_,_,_,_,_,_,rfl⟩:=rj e; exact ⟨_,rfl⟩
theorem oU (ha:SE X sf C ea a)(hb:SE X sf C eb b):SB X sf C (.Compare ea [.Gt] [eb] pos) (.op .gt h [a,b]):=cA Dr ha hb (cX _) (aS yB) fun u v w e=>by obtain ⟨_,_,_,_,_,_,rfl⟩:=qL e; exact ⟨_,rfl⟩
theorem D3 (ha:SE X sf C ea a)(hb:SE X sf C eb b):SB X sf C (.Compare ea [.GtE] [eb] pos) (.op .ge h [a,b]):=cA CM ha hb (cX _) (aS Bb) fun u v w e=>by obtain ⟨_,_,_,_,_,_,rfl⟩:=qI e; exact ⟨_,rfl⟩
theorem cD (hr:Room n X.A)(ha:SE X sf C ea a)(hb:SE X sf C eb b):SB X sf C (.Compare ea [.Eq] [eb] pos) (.op .eq h [a,b]):=cA (nI hr.units) ha hb (cX _) (aS rh) fun u v w e=>C2 e
theorem kc (hr:Room n X.A)(ha:SE X sf C ea a)(hb:SE X sf C eb b):SB X sf C (.Compare ea [.NotEq] [eb] pos) (.op .ne h [a,b]):=cA (xg hr.units) ha hb (cX _) (aS zA) fun u v w e=>Cb e
theorem xo (ha:SE X sf C ea a)(hb:SE X sf C eb b):SB X sf C (.Compare ea [.Is] [eb] pos) (.op .is h [a,b]):=cA As ha hb (cX _) (aS yo) fun u v w e=>CB e
theorem Ck (ha:SE X sf C ea a)(hb:SE X sf C eb b):SB X sf C (.Compare ea [.IsNot] [eb] pos) (.op .isnot h [a,b]):=cA vW ha hb (cX _) (aS oP) fun u v w e=>uj e
noncomputable abbrev SW (X:Cx)(sf:Nat->Option Nat)(C:M.Call)(me:Expr)(e:M.E):Prop:=PW X me (wT X.K sf C e)
theorem wA1 (ha:SB X sf C ea a):SW X sf C (.BoolOp .And [ea] pos) a:=vV ha
theorem wO1 (ha:SB X sf C ea a):SW X sf C (.BoolOp .Or [ea] pos) a:=zq ha
theorem sH {rest:List Expr}(ha:SB X sf C ea a)(hb:SW X sf C (.BoolOp .And (eb::rest) pos) b):SW X sf C (.BoolOp .And (ea::eb::rest) pos) (.and a b):=xY (ym ha hb) zx
theorem wOr {rest:List Expr}(ha:SB X sf C ea a)(hb:SW X sf C (.BoolOp .Or (eb::rest) pos) b):SW X sf C (.BoolOp .Or (ea::eb::rest) pos) (.or a b):=xY (CA ha hb) Cv
theorem tW (h:SW X sf C ea a):SB X sf C ea a:=h.pt
theorem sIf (hc:SB X sf C ec c)(ha:SE X sf C ea a)(hb:SE X sf C eb b):SE X sf C (.IfExp ec ea eb pos) (.ifx c a b):=aA (tv hc ha hb) AO
theorem dJ {tg:Expr}(ha:SE X sf C ea a):PI X tg ea (wI X.K sf C 1 .seq [a]):=ji (Cq (gz ha) (Ap ha)) AY
theorem zc {tg:Expr}{p:Pos}(hm:X.mg "range"=none)(hg:Gl X "range":=by rfl)(ha:SE X sf C ea a)(hs:starEach [ea] X.env=[(false,eval ea X.env)]:=by rfl):PI X tg (.Call (.Name "range" p) [ea] [] pos) (wI X.K sf C 1 .rng [a]):=ji (oE hg hm (slc ha sl0 hs) hs) vL
theorem fR {es:List Expr}{kt:Nat}{pt p:Pos}(hc:X.calm=true:=by rfl)(hm:X.mg "zip"=none)(hg:Gl X "zip":=by rfl)(ha:SE X sf C ea a)(hb:SE X sf C eb b)(hs:starEach [ea,eb] X.env=[(false,eval ea X.env),(false,eval eb X.env)]:=by rfl)(hs2:starEach [eb] X.env=[(false,eval eb X.env)]:=by rfl):PI X (.Tuple es kt pt) (.Call (.Name "zip" p) [ea,eb] [] pos) (wI X.K sf C 2 .zip [a,b]):=ji (BK hg hm (slc ha (slc hb sl0 hs2) (by rw [hs,hs2])) hs hs2) yk
noncomputable def lkN:List Nat->Nat->Nat->Option Nat
 | [],_,_=>none
 | t::ts,n,i=>if i=t then some n else lkN ts (n+1) i
theorem nL:∀ {l:List Nat} {n i j:Nat},lkN l n i=some j->∃ k,l[k]?=some i/\j=n+k/\i ∉ l.take k
 | [],_,_,_,h=>by cases h
 | t::ts,n,i,j,h=>by
  have h':(if i=t then some n else lkN ts (n+1) i)=some j:=h
  split at h'
  ·rename_i e; cases h'; exact ⟨0,by rw [e]; rfl,rfl,by simp⟩
  ·rename_i e
   obtain ⟨k,h1,h2,h3⟩:=nL h'
   exact ⟨k+1,h1,by omega,by rw [a3e,a0l]; exact fun z=>z.elim e h3⟩
noncomputable def inF (tg ls:List Nat):Nat->Option Nat:=lkN (tg++ls) 0
theorem eM {tg ls is:List Nat}(h:ls.map sf=is.map some):jd sf (inF tg ls) tg is:=fun i j hj=>by
 obtain ⟨k,h1,h2,h3⟩:=nL (show lkN (tg++ls) 0 i=some j from hj)
 rw [a1f] at h2
 subst h2
 by_cases hk:j < tg.length
 ·rw [a0R hk] at h1
  exact .inl ⟨j,h1,rfl⟩
 ·have hk':tg.length<=j:=a3u hk
  rw [a0I hk'] at h1
  refine .inr ⟨fun hi=>h3 ?_,?_⟩
  ·rw [List.take_append,a1i hk']
   exact a0E _ hi
  ·have e1:(ls.map sf)[j-tg.length]?=some (sf i):=by rw [a0x,h1]; rfl
   rw [h,a0x] at e1
   cases e2:is[j-tg.length]? with
   | none=>rw [e2] at e1; cases e1
   | some j0 =>
    rw [e2] at e1
    exact ⟨j-tg.length,j0,by omega,e2,(a0G e1).symm⟩
theorem DO {x:Str}{px:Pos}{ys:List Str}{scope:Scope}{cl:List (Str×Addr)}(S:aG [x] ys scope)(Ca:Addr)(s:Shared)(H:Hp)(fp:List Addr):PG (av X ([x]++ys) scope cl Ca s H fp) (.Name x px) (gT X.K 1) :=
 bM (X:=av X ([x]++ys) scope cl Ca s H fp) (i:=0) (x:=x) (pos:=px) S.nd rfl (.inl (lookup_relabel_local (S.loc x (by simp)))) (.inr (lookup_relabel_local (S.loc x (by simp))))
theorem C5 {x y:Str}{px py pt:Pos}{kt:Nat}{ys:List Str}{scope:Scope}{cl:List (Str×Addr)}(hc:X.calm=true)(S:aG [x,y] ys scope)(Ca:Addr)(s:Shared)(H:Hp)(fp:List Addr):PG (av X ([x,y]++ys) scope cl Ca s H fp) (.Tuple [.Name x px,.Name y py] kt pt) (gT X.K 2) :=
 l0 (X:=av X ([x,y]++ys) scope cl Ca s H fp) (pos:=pt) (k:=kt) (n:=2) hc (cG (bM (pos:=px) (i:=0) (x:=x) S.nd rfl (.inl (lookup_relabel_local (S.loc x (by simp)))) (.inr (lookup_relabel_local (S.loc x (by simp))))) (cG (bM (pos:=py) (i:=1) (x:=y) S.nd rfl (.inl (lookup_relabel_local (S.loc y (by simp)))) (.inr (lookup_relabel_local (S.loc y (by simp))))) j6))
end
end MR

namespace MR
open PySem PySem.Spec PyProof.Rows L2 L3
section
variable {X:Cx}{sf sg:Nat->Option Nat}{C:M.Call}{pos p2:Pos}{ea eb ec:Expr}{a b c:M.E}{h:Bool}{n:Nat}{io:List Nat}
section
variable {elt iter cnd:Expr}{x y:Str}{px py pt:Pos}{kt:Nat}{scope:Scope}{cl:List (Str×Addr)}{ys:List Str}{tg ls is:List Nat}{k:M.Ik}{src:List M.E}{e cd:M.E}
theorem sC1 (ls:List Nat)(is:List Nat)(cl:List (Str×Addr))(ys:List Str){t:Nat}(hi:PI X (.Name x px) iter (wI X.K sf C 1 k src))(he:∀ Ca s H fp,SE (av X ([x]++ys) scope cl Ca s H fp) (inF [t] ls) C elt e)
  (S:aG [x] ys scope) (hcl:Clo X cl) (fr:Frees X scope cl ys is) (hc:X.calm=true:=by rfl) (hl:ls.map sf=is.map some:=by rfl)
  (hclos:closureFor scope X.env=pure cl:=by with_unfolding_all rfl) (hfr:(scope.names.all fun p=>p.2 != .free || (cl.lookup p.1).isSome)=true:=by rfl)
  (hs:∀ v,foldedSetIterable iter X.env v=pure v:=by intro _; rfl):SE X sf C (.ListComp elt [⟨.Name x px,iter,[],0⟩] scope pos) (.comp h k src [t] none e) :=
 aA (iV (pre:=[x]) hc hi (DO S) (fun Ca s H fp=>he Ca s H fp) hclos S hcl hfr fr hs) (fh rfl (by simp) (eM hl))
theorem sC2 (ls:List Nat)(is:List Nat)(cl:List (Str×Addr))(ys:List Str){t t':Nat}(hi:PI X (.Tuple [.Name x px,.Name y py] kt pt) iter (wI X.K sf C 2 k src))(he:∀ Ca s H fp,SE (av X ([x,y]++ys) scope cl Ca s H fp) (inF [t,t'] ls) C elt e)
  (S:aG [x,y] ys scope) (hcl:Clo X cl) (fr:Frees X scope cl ys is) (hc:X.calm=true:=by rfl) (hl:ls.map sf=is.map some:=by rfl) (nd:[t,t'].Nodup:=by decide)
  (hclos:closureFor scope X.env=pure cl:=by with_unfolding_all rfl) (hfr:(scope.names.all fun p=>p.2 != .free || (cl.lookup p.1).isSome)=true:=by rfl)
  (hs:∀ v,foldedSetIterable iter X.env v=pure v:=by intro _; rfl):SE X sf C (.ListComp elt [⟨.Tuple [.Name x px,.Name y py] kt pt,iter,[],0⟩] scope pos) (.comp h k src [t,t'] none e) :=
 aA (iV (pre:=[x,y]) hc hi (C5 hc S) (fun Ca s H fp=>he Ca s H fp) hclos S hcl hfr fr hs) (fh rfl nd (eM hl))
end
noncomputable def spS (K:a0a)(C:M.Call)(f:Nat)(io:List Nat):Sp:=fun vs H Q _=>spC K C f io vs H Q
theorem sa0:SA X sf C [] []:=kG bf Aa
theorem sac {es:List Expr}{bs:List M.E}(ha:SE X sf C ea a)(hb:SA X sf C es bs)(he:∀ i,a≠.io i:=by intro _ z; cases z)(hs:starEach (ea::es) X.env=(false,eval ea X.env)::starEach es X.env:=by rfl):SA X sf C (ea::es) (a::bs):=kG (aC ha hb hs) (qr he)
theorem sai (j:Nat){i:Nat}{x:Str}{es:List Expr}{bs:List M.E}(hb:SA X sf C es bs)(hs:sf i=some j:=by rfl)(hN:X.N[j]?=some x:=by rfl)(hv:Vis X.env.scope x:=by first | exact a1r rfl | exact a1h (a1r rfl) | exact a1h (a1h rfl))(hd:(x==("__debug__":Str))=false:=by decide)
  (hcd:(x==("__classdict__":Str))=false:=by decide) (hst:starEach (.Name x pos::es) X.env=(false,eval (.Name x pos) X.env)::starEach es X.env:=by rfl):SA X sf C (.Name x pos::es) (.io i::bs):=kG (aC (dS hN hv hd hcd) hb hst) (pP hs)
noncomputable def aa (P:Program)(w:World)(K:a0a)(mg:Str->Option Value)(base:Heap)(n:Nat)(C:M.Call)(x:Str)(f:Nat)(io:List Nat):Prop :=
 ∃ fa fd ps,FnOk P w K mg base CX0 n fa fd ps (spS K C f io)/\mg x=some (.ref fa)/\a1a K (.ref fa)=true/\Binds K fd ps []
theorem af {x:Str}{p:Pos}{f:Nat}{es:List Expr}{bs:List M.E}(c:aa X.prog X.w X.K X.mg X.base n C x f io)(hr:Room n X.A)(ha:SA X sf C (ea::es) bs)(hio:f6 bs 0=io\/M.ios bs=[]:=by first | exact .inl rfl | exact .inr rfl)(hg:Gl X x:=by rfl)(hdb:(x==("__debug__":Str))=false:=by decide)
  (he:starEach (ea::es) X.env=(false,eval ea X.env)::starEach es X.env:=by rfl) (hpl:(backTo pos (starEach es X.env)).any (·.1)=false:=by rfl):SE X sf C (.Call (.Name x p) (ea::es) [] pos) (.call f bs):=by
 obtain ⟨fa,fd,ps,F,hm,hk,hb⟩:=c
 refine aA (jV (E:=E0) F hr hg hm hk hb .nil ni ha hdb he hpl) fun σ H Q hw=>?_
 have h2:=jI hio σ H Q hw
 obtain ⟨pv,Z,Fs,η,ws,η',A,ev,k⟩:=h2
 exact ⟨pv,Z,Fs,η,ws,η',A,ev,fun vs Z' H' Fs' G B r s hv=>by show spS X.K C f io (vs++[]) H' Q E0; rw [a0y]; exact k vs Z' H' Fs' G B r s hv⟩
theorem ss0:SSs X sf io C [] []:=mJ kj wO
theorem ss1 {s:Stmt}{t:M.S}(hs:SS X sf io C s t):SSs X sf io C [s] [t]:=mJ (dA hs) wg
theorem ssc {s:Stmt}{t:M.S}{r:List Stmt}{u:List M.S}(hs:SS X sf io C s t)(hr:SSs X sf io C r u):SSs X sf io C (s::r) (t::u):=mJ (dr hs hr) sX
theorem ay (j:Nat){i:Nat}{x:Str}{xx:M.X}{pos':Pos}(hN:X.N.Nodup)(ha:SE X sf C ea a)(hi:i ∉ io:=by decide)(hs:sf i=some j:=by rfl)(hj:X.N[j]?=some x:=by rfl)(hx:L2.Loc X.env.scope x:=by first | exact a1r rfl | exact a1h rfl)
  (hsw:swapsWith ea (some (.Name x pos')) pos.line X.env=pure false:=by rfl) (hf:X.fn x=true\/X.env.scope.names.lookup x=some .local:=by first | exact .inl rfl | exact .inr rfl):SS X sf io C (.Assign [.Name x pos'] ea pos) (.asg xx i a):=c7 (jJ (i:=j) hN hj hx ha hsw hf) (mG hi hs)
theorem EG {xx:M.X}(ha:SE X sf C ea a)(hs:swapsWith ea none pos.line X.env=pure false:=by rfl):SS X sf io C (.Expr ea pos) (.exp xx a):=c7 (d0 ha hs) yY
theorem ao {vs:List Nat}(ha:SE X sf C ea a):SS X sf io C (.Return (some ea) pos) (.ret vs a):=c7 (rW ha) AS
theorem zIf {xx:M.X}{r u:List Stmt}{s t:List M.S}(hc:SB X sf C ec c)(ha:SSs X sf io C r s)(hb:SSs X sf io C u t):SS X sf io C (.If ec r u pos) (.ite xx c s t):=c7 (qg hc ha hb) zZ
theorem Ei {xx:M.X}{r:List Stmt}{s:List M.S}(hc:SB X sf C ec c)(ha:SSs X sf io C r s)(hp:PassesOwn (model X.prog X.w) X.A X.env X.xe:=by exact PassesOwn.never):SS X sf io C (.While ec r [] pos) (.whl xx c s):=c7 (tS hp hc ha) yx
theorem ig (j:Nat){t:Nat}{x:Str}{px:Pos}{iter:Expr}{r:List Stmt}{s:List M.S}{vs ls:List Nat}{k:M.Ik}{src:List M.E}(hN:X.N.Nodup)(hi:PI X (.Name x px) iter (wI X.K sf C 1 k src))(ha:SSs X sf io C r s)(hio:∀ u∈[t],u ∉ io:=by decide)(hjs:[t].map sf=[j].map some:=by rfl)(hj:X.N[j]?=some x:=by rfl)(hx:L2.Loc X.env.scope x:=by first | exact a1r rfl | exact a1h rfl)
  (hc:X.calm=true:=by rfl) (hp:PassesOwn (model X.prog X.w) X.A X.env X.xe:=by exact PassesOwn.never) (hf:X.fn x=true\/X.env.scope.names.lookup x=some .local:=by first | exact .inl rfl | exact .inr rfl) (hs:∀ x,foldedSetIterable iter X.env x=pure x:=by intro _; rfl):SS X sf io C (.For (.Name x px) iter r [] pos) (.forS vs ls k src [t] s) :=
 c7 (gU hp hc hi (bM (i:=j) hN hj hx hf) ha hs) (td rfl (by simp) hio hjs)
theorem nE (j l:Nat){t u:Nat}{x y:Str}{px py pt:Pos}{kt:Nat}{iter:Expr}{r:List Stmt}{s:List M.S}{vs ls:List Nat}{k:M.Ik}{src:List M.E}(hN:X.N.Nodup)(hi:PI X (.Tuple [.Name x px,.Name y py] kt pt) iter (wI X.K sf C 2 k src))(ha:SSs X sf io C r s)(hio:∀ v∈[t,u],v ∉ io:=by decide)(nd:[t,u].Nodup:=by decide)(hjs:[t,u].map sf=[j,l].map some:=by rfl)(hj:X.N[j]?=some x:=by rfl)(hl:X.N[l]?=some y:=by rfl)
  (hx:L2.Loc X.env.scope x:=by first | exact a1r rfl | exact a1h rfl) (hy:L2.Loc X.env.scope y:=by first | exact a1r rfl | exact a1h rfl)
  (hc:X.calm=true:=by rfl) (hp:PassesOwn (model X.prog X.w) X.A X.env X.xe:=by exact PassesOwn.never) (hf:X.fn x=true\/X.env.scope.names.lookup x=some .local:=by first | exact .inl rfl | exact .inr rfl) (hf':X.fn y=true\/X.env.scope.names.lookup y=some .local:=by first | exact .inl rfl | exact .inr rfl) (hs:∀ x,foldedSetIterable iter X.env x=pure x:=by intro _; rfl):SS X sf io C (.For (.Tuple [.Name x px,.Name y py] kt pt) iter r [] pos) (.forS vs ls k src [t,u] s) :=
 c7 (gU hp hc hi (l0 (n:=2) hc (cG (bM (i:=j) hN hj hx hf) (cG (bM (i:=l) hN hl hy hf') j6))) ha hs) (td rfl nd hio hjs)
theorem kU (j:Nat){i:Nat}{x:Str}{xx:M.X}{apos cpos px:Pos}(ha:SE X sf C ea a)(hs:sf i=some j:=by rfl)(hN:X.N[j]?=some x:=by rfl)(hv:Vis X.env.scope x:=by first | exact a1r rfl | exact a1h (a1r rfl) | exact a1h (a1h rfl))(hd:(x==("__debug__":Str))=false:=by decide)(hcd:(x==("__classdict__":Str))=false:=by decide)
  (hbase:attributeBase (.Name x px) "append" X.env (eval (.Name x px) X.env)=eval (.Name x px) X.env:=by rfl)
  (hfew:((backTo cpos (starEach [ea] X.env)).all (fun x=>!x.1)&&(backToKw cpos (keywordEach [] X.env)).all (fun x=>x.1.isSome)&&decide ([ea].length+([]:List Keyword).length+(if ([]:List Keyword).isEmpty then 0 else 1) < 30))=true:=by rfl)
  (hline:(apos.endLine==cpos.line)=true:=by rfl) (hst:starEach [ea] X.env=(false,eval ea X.env)::starEach [] X.env:=by rfl) (hplain:(backTo cpos (starEach [] X.env)).any (·.1)=false:=by rfl) (hsw:swapsWith (.Call (.Attribute (.Name x px) "append" apos) [ea] [] cpos) none pos.line X.env=pure false:=by rfl) :
  SS X sf io C (.Expr (.Call (.Attribute (.Name x px) "append" apos) [ea] [] cpos) pos) (.app xx i a) :=
 c7 (d0 (nQ a1J a12 a13 fz (dS hN hv hd hcd) (aC ha bf hst) hbase hfew hline hst hplain) hsw) fun D σ H hw=>by
  obtain ⟨p,xs,hj,hp,pv,Z,Fs,η,w,η',A,ev,k⟩:=AE hs D σ H hw
  refine ⟨.ref p,hj,.inl ⟨rfl,xs,.inl (.inl hp)⟩,pv,Z,Fs,η,w,η',A,ev,fun v Z' H' Fs' G B r s=>?_⟩
  obtain ⟨ys,h1,h2,h3⟩:=k v Z' H' Fs' G B r s
  exact ⟨p,ys,v,rfl,rfl,h1,h2,h3⟩
theorem Bm (j:Nat){i:Nat}{x:Str}{xx:M.X}{apos cpos px:Pos}(ha:SE X sf C ea a)(hs:sf i=some j:=by rfl)(hN:X.N[j]?=some x:=by rfl)(hv:Vis X.env.scope x:=by first | exact a1r rfl | exact a1h (a1r rfl) | exact a1h (a1h rfl))(hd:(x==("__debug__":Str))=false:=by decide)(hcd:(x==("__classdict__":Str))=false:=by decide)
  (hbase:attributeBase (.Name x px) "extend" X.env (eval (.Name x px) X.env)=eval (.Name x px) X.env:=by rfl)
  (hfew:((backTo cpos (starEach [ea] X.env)).all (fun x=>!x.1)&&(backToKw cpos (keywordEach [] X.env)).all (fun x=>x.1.isSome)&&decide ([ea].length+([]:List Keyword).length+(if ([]:List Keyword).isEmpty then 0 else 1) < 30))=true:=by rfl)
  (hline:(apos.endLine==cpos.line)=true:=by rfl) (hst:starEach [ea] X.env=(false,eval ea X.env)::starEach [] X.env:=by rfl) (hplain:(backTo cpos (starEach [] X.env)).any (·.1)=false:=by rfl) (hsw:swapsWith (.Call (.Attribute (.Name x px) "extend" apos) [ea] [] cpos) none pos.line X.env=pure false:=by rfl) :
  SS X sf io C (.Expr (.Call (.Attribute (.Name x px) "extend" apos) [ea] [] cpos) pos) (.ext xx i a) :=
 c7 (d0 (nQ a1J PySem.F.slot_list_extend PySem.F.type_list_extend oz (dS hN hv hd hcd) (aC ha bf hst) hbase hfew hline hst hplain) hsw) fun D σ H hw=>by
  obtain ⟨p,xs,hj,hp,pv,Z,Fs,η,w,η',A,ev,k⟩:=AU hs D σ H hw
  refine ⟨.ref p,hj,.inl ⟨rfl,xs,.inl (.inl hp)⟩,pv,Z,Fs,η,w,η',A,ev,fun v Z' H' Fs' G B r s=>?_⟩
  obtain ⟨b,ys,zs,rfl,h1,h2,h3,h4⟩:=k v Z' H' Fs' G B r s
  exact ⟨p,b,ys,zs,rfl,rfl,h1,h2,h3,h4⟩
theorem rG (j:Nat){i:Nat}{x:Str}{xx:M.X}{px ps:Pos}(ha:SE X sf C ea a)(hb:SE X sf C eb b)(hs:sf i=some j:=by rfl)(hN:X.N[j]?=some x:=by rfl)(hv:Vis X.env.scope x:=by first | exact a1r rfl | exact a1h (a1r rfl) | exact a1h (a1h rfl))(hd:(x==("__debug__":Str))=false:=by decide)(hcd:(x==("__classdict__":Str))=false:=by decide)
  (has:∀ v,assign (.Subscript (.Name x px) eb ps) X.env v=(do
   let ov <- holding [v] (eval (.Name x px) X.env)
   let iv <- holding [v,ov] (eval eb X.env)
   standAt ps
   holding [v,ov,iv] (setItem ov iv v)
   release [v,ov,iv] []):=by intro _; rfl)
  (h1:swapsWithSole [.Subscript (.Name x px) eb ps] ea pos.line X.env=pure false:=by rfl) (h2:swappedStores [.Subscript (.Name x px) eb ps] ea X.env=pure none:=by rfl) (h3:(assignEach [.Subscript (.Name x px) eb ps] X.env).map (·.2)=[assign (.Subscript (.Name x px) eb ps) X.env]:=by rfl) :
  SS X sf io C (.Assign [.Subscript (.Name x px) eb ps] ea pos) (.setI xx i b a) :=
 c7 (Bn ha (yU (dS hN hv hd hcd) hb tI has) h1 h2 h3) fun D σ H hw=>by
  obtain ⟨pv,Z,Fs,η,w,η',A,ev,k⟩:=uD hs D σ H hw
  refine ⟨pv,Z,Fs,η,w,η',A,ev,fun v Z' H' Fs' G B r s=>?_⟩
  obtain ⟨o,ho,pv2,Z2,Fs2,η2,w2,η3,A2,ev2,k2⟩:=k v Z' H' Fs' G B r s
  refine ⟨o,ho,pv2,Z2,Fs2,η2,w2,η3,A2,ev2,fun z Z3 H3 Fs3 G3 B3 r3 s3=>?_⟩
  obtain ⟨q,xs,n,m,rfl,rfl,g1,g2,g3⟩:=k2 z Z3 H3 Fs3 G3 B3 r3 s3
  exact ⟨q,xs,n,m,rfl,rfl,g1,g2,g3⟩
end
end MR

namespace MR
open PySem PySem.Spec PyProof.Rows L2 L3
section
variable {K:a0a}{Z:Fp}{H:Hp}
theorem jx:∀ {ws:List M.W} {n i:Nat} {w:M.W},M.rd (ws.map some++a0e n none) i=some w->ws[i]?=some w
 | [],0,i,w,h=>by simp [M.rd] at h
 | [],n+1,0,w,h=>by simp [a0V,M.rd] at h
 | [],n+1,i+1,w,h=>by
  have:M.rd (([]:List M.W).map some++a0e n none) i=some w:=by simpa [a0V,M.rd] using h
  have:=jx this
  simp at this
 | u::ws,n,0,w,h=>by simpa [M.rd] using h
 | u::ws,n,i+1,w,h=>by
  have:M.rd (ws.map some++a0e n none) i=some w:=by simpa [M.rd] using h
  simpa using jx this
theorem rk:∀ {ws:List M.W} {vs:List V} {G:Fp},RepW K Z H ws vs G->∃ Fs:Fps,(∀ i a,Fs i a->G a)/\(∀ i j a,Fs i a->Fs j a->i=j)/\∀ i w,ws[i]?=some w->∃ v,vs[i]?=some v/\Rep K Z H w.1 w.2 v (Fs i)
 | [],vs,G,_=>⟨fun _=>no,fun _ _ h=>h.elim,fun _ _ _ h=>h.elim,fun i w h=>by simp at h⟩
 | w::ws,vs,G,⟨x,r,G1,G2,e,h1,h2,hd,p,q⟩=>by
  obtain ⟨Fs,f1,f2,f3⟩:=rk q
  subst e
  refine ⟨fun i=>match i with | 0=>G1 | i+1=>Fs i,fun i a h=>?_,fun i j a hi hj=>?_,fun i u h=>?_⟩
  ·cases i with
   | zero=>exact h1 a h
   | succ i=>exact h2 a (f1 i a h)
  ·cases i with
   | zero =>
    cases j with
    | zero=>rfl
    | succ j=>exact absurd (f1 j a hj) (hd a hi)
   | succ i =>
    cases j with
    | zero=>exact absurd (f1 i a hi) (hd a hj)
    | succ j=>exact congrArg (·+1) (f2 i j a hi hj)
  ·cases i with
   | zero=>simp only [a1c,a2I] at h; subst h; exact ⟨x,rfl,p⟩
   | succ i=>simpa using f3 i u (by simpa using h)
noncomputable def slN (n:Nat):Nat->Option Nat:=fun i=>if i < n then some i else none
theorem dg {sl:Cf}{σ:L2.St}{Fs:Fps}{η:M.Env}{G:Fp}{vs:List V}(A:At K sl σ Z H Fs η G):∀ {io:List Nat} {bs:List M.W},io.Nodup->(∀ i∈io,sl.pv i=vs[i]?/\i < vs.length)->M.backs io η=some bs->RepW K Z H bs (atV io vs) (fun a=>∃ i∈io,Fs i a)
 | [],bs,_,_,h=>by
  simp only [M.backs,a2I] at h; subst h; rfl
 | i::io,bs,nd,hv,h=>by
  simp only [M.backs] at h
  cases e:M.rd η i with
  | none=>rw [e] at h; cases h
  | some w =>
   rw [e] at h
   simp only [a2n] at h
   cases e2:M.backs io η with
   | none=>rw [e2] at h; cases h
   | some ws =>
    rw [e2] at h
    simp only [a2n,a2I] at h
    subst h
    obtain ⟨v,r,_,hp⟩:=A.env i w.1 w.2 e
    have hi:=hv i a0d
    obtain ⟨u,hu⟩:∃ u,vs[i]?=some u:=⟨vs[i]'hi.2,a0k hi.2⟩
    have:=hp u (hi.1.trans hu)
    subst this
    refine ⟨v,atV io vs,Fs i,fun a=>∃ j∈io,Fs j a,?_,fun a h=>⟨i,a0d,h⟩,fun a ⟨j,hj,h⟩=>⟨j,a0c _ hj,h⟩,fun a h ⟨j,hj,h'⟩=>?_,r,dg A (a1y.mp nd).2 (fun j hj=>hv j (a0c _ hj)) e2⟩
    ·rw [atV,a06,hu]; rfl
    ·exact (a1y.mp nd).1 (A.gd.dis i j a h h' ▸ hj)
end
section
variable {P:Program}{w:World}{K:a0a}{mg:Str->Option Value}{base:Heap}
theorem kC {Z:Fp}{H:Hp}{ws:List M.W}{vs:List V}{G:Fp}{N:List Str}{n:Nat}{io:List Nat}(r:RepW K Z H ws vs G)(o:Own Z H G)(z:∀ a,Z a->H a≠none)(hl:vs.length<=N.length) :
  ∃ Fs,(∀ a,tot Fs a->G a)/\At K ⟨slN N.length,fun i=>if i∈io then vs[i]? else none⟩ (L2.start N vs) Z H Fs (ws.map some++a0e n none) no:=by
 obtain ⟨Fs,f1,f2,f3⟩:=rk r
 have st:∀ i v,vs[i]?=some v->(L2.start N vs)[i]?=some (some v):=fun i v h=>by
  have hi:=(a0q.mp h).1
  rw [L2.start,a0R (by simpa using hi),a0x,h]; rfl
 refine ⟨Fs,fun a ⟨i,h⟩=>f1 i a h,⟨⟨fun a ⟨i,h⟩=>o a (f1 i a h),f2,z⟩,fun i m t e=>?_,fun a h=>h.elim,fun a h=>h.elim,fun i u j hu hj=>?_,fun i j hj=>?_⟩⟩
 ·obtain ⟨v,hv,rp⟩:=f3 i (m,t) (jx e)
  refine ⟨v,rp,fun j hj=>?_,fun u hu=>?_⟩
  ·simp only [slN] at hj
   split at hj
   ·cases hj; exact st i v hv
   ·cases hj
  ·simp only at hu
   split at hu
   ·rw [hv] at hu; cases hu; rfl
   ·cases hu
 ·simp only at hu
  simp only [slN] at hj
  split at hj
  ·cases hj
   split at hu
   ·exact st i u hu
   ·cases hu
  ·cases hj
 ·simp only [slN] at hj
  split at hj
  ·cases hj
   rename_i h
   rw [L2.start,a0g,a0b,a0z]; omega
  ·cases hj
theorem Fun.okM {x qual:Str}{st:Stmt}{f:Addr}{fd:FuncData}{N ps:List Str}{k:Nat}{C:M.Call}{d:M.Fn}(F:L2.Fun K x qual st f fd)(S:ah N ps (defScope st))(hps:d.ps=ps.length)(hle:ps.length<=N.length)(nd:d.io.Nodup)(hio:∀ i∈d.io,i < ps.length)
  (hbody:∀ (cdv:Value) (A:Around) (outer:List Env) (s:Shared) (H:Hp) (E:XK),Room k (A.deeper (envOfC qual (defScope st) s.heap.objs.size f cdv)) ->
   SSs (fj CX0 P w K mg base N qual (defScope st) f cdv A outer s H E).nox (slN N.length) d.io C (defBody st) d.body) {g:Nat} {C':M.Call} (hC:∀ ws,C' g ws=M.runF C d ws):FnOk P w K mg base CX0 (k+1) f fd ps (spS K C' g d.io):=by
 have len:∀ vs H Q E,spS K C' g d.io vs H Q E->vs.length=ps.length:=fun vs H Q E ⟨Z,ws,G,w,bs,r,_,_,hr,_⟩=>by
  rw [hC] at hr
  unfold M.runF at hr
  split at hr
  ·rename_i h; rw [r.length,h,hps]
  ·cases hr
 refine F.ok S len fun cdv A outer s H vs Q E hr h=>⟨_,hbody cdv A outer s H E hr,?_⟩
 have hlen:=len vs H Q E h
 obtain ⟨Z,ws,G,w,bs,r,o,z,hc,q⟩:=h
 rw [hC] at hc
 have hwl:ws.length=d.ps:=by rw [<- r.length,hlen,hps]
 rw [M.x_run _ _ _ hwl] at hc
 obtain ⟨Fs,ft,A0⟩:=kC (n:=d.ns) (io:=d.io) r o z (N:=N) (by omega)
 refine ⟨_,Z,Fs,_,⟨fun i i' j h h'=>?_,fun i h=>if_neg h⟩,A0,?_⟩
 ·simp only [slN] at h h'
  split at h
  ·split at h'
   ·cases h; cases h'; rfl
   ·cases h'
  ·cases h
 have hv:∀ i∈d.io,(if i∈d.io then vs[i]? else none)=vs[i]?/\i < vs.length:=fun i hi=>⟨if_pos hi,hlen ▸ hio i hi⟩
 cases e:M.evSs C d.body (ws.map some++a0e d.ns none) with
 | nx η =>
  rw [e] at hc
  intro σ' Z' H' Fs' A' t
  simp only [M.Fl.out] at hc
  cases e2:M.backs d.io η with
  | none=>rw [e2] at hc; cases hc
  | some cs =>
   rw [e2] at hc
   cases hc
   refine q .non Z' H' no _ rfl (dg A' nd hv e2) (fun _ h=>h.elim) (fun a h=>h.elim (fun z=>z.elim) fun ⟨i,_,z⟩=>A'.gd.own a ⟨i,z⟩) (t.mono ft fun a h=>h.elim (fun z=>z.elim) fun ⟨i,_,z⟩=>⟨i,z⟩)
 | rt u η =>
  rw [e] at hc
  intro v σ' Z' H' Fs' G' A' rp t
  simp only [M.Fl.out] at hc
  cases e2:M.backs d.io η with
  | none=>rw [e2] at hc; cases hc
  | some cs =>
   rw [e2] at hc
   cases hc
   exact q v Z' H' G' _ rp (dg A' nd hv e2) (fun a h ⟨i,_,z⟩=>A'.dis a h ⟨i,z⟩) (fun a h=>h.elim (A'.own a) fun ⟨i,_,z⟩=>A'.gd.own a ⟨i,z⟩) (t.mono ft fun a h=>h.elim .inr fun ⟨i,_,z⟩=>.inl ⟨i,z⟩)
 | bk η=>rw [e] at hc; cases hc
 | ex c x η=>rw [e] at hc; cases hc
 | no=>rw [e] at hc; cases hc
end
end MR

namespace MR
open PySem PySem.Spec PyProof.Rows L2 L3
noncomputable def TopV (K:a0a)(H:Hp):Th->V->Prop
 | .tup _,x=>∃ a vs,x=.ref a/\SqT K H a vs
 | .lst _,x=>∃ a vs,x=.ref a/\SqL K H a vs
 | .non,x=>x=.non
 | .bl b,x=>x=.bl b
 | .int i,x=>x=.int i
 | .str z,x=>x=.str z
theorem kM {X:Cx}{c:String}(hc:c∈["tuple","str","bool","int","list"]):cO X (.builtin "isinstance") (fun xs H Q=>∃ x t,xs=[x,.ty c]/\TopV X.K H t x/\Q (.bl (isI c t)) H):=by
 intro pins s σ H xs us Q I r h
 obtain ⟨x,t,rfl,ht,q⟩:=h
 obtain ⟨u,w',rfl,ru,rw'⟩:=gI r
 cases rw'
 have e:a09 X.K (.type t.ty) (.type c)=some (isI c t):=kit_type.trans (gV hc t)
 have fin:∀ tk,EP X pins σ Q (.bool (isI c t)) { s with toks:=tk }:=fun tk=>⟨.bl (isI c t),H,I.tok tk,rfl,q⟩
 cases t with
 | non =>
  obtain rfl:x=.non:=ht
  exact ef I ru .non e fin
 | bl b =>
  obtain rfl:x=.bl b:=ht
  exact ef I ru (.bl b) e fin
 | int i =>
  obtain rfl:x=.int i:=ht
  exact ef I ru (.int i) e fin
 | str z =>
  obtain rfl:x=.str z:=ht
  exact ef I ru (.str z) e fin
 | tup ts =>
  obtain ⟨a,vs,rfl,hS⟩:=ht
  cases ru
  obtain ⟨its,_,p,_⟩:=I.tuple hS
  obtain ⟨o,h1,h2,_⟩:=p
  exact a0W a15 I.kIn ⟨o,h1,h2⟩ e (fun z=>nomatch z) fin
 | lst ts =>
  obtain ⟨a,vs,rfl,hS⟩:=ht
  cases ru
  obtain ⟨its,_,p,_⟩:=I.list hS
  obtain ⟨o,n,h1,h2,_⟩:=p
  exact a0W a1P I.kIn ⟨o,h1,h2⟩ e (fun z=>nomatch z) fin
theorem xn {X:Cx}{c1 c2:String}(h1:c1∈["tuple","str","bool","int","list"])(h2:c2∈["tuple","str","bool","int","list"]) :
  cO X (.builtin "isinstance") (fun xs H Q=>∃ x t p,xs=[x,.ref p]/\SqT X.K H p [.ty c1,.ty c2]/\TopV X.K H t x/\Q (.bl (isI c1 t || isI c2 t)) H):=by
 intro pins s σ H xs us Q I r h
 obtain ⟨x,t,p,rfl,hp,ht,q⟩:=h
 obtain ⟨u,w',rfl,ru,rw'⟩:=gI r
 cases rw'
 obtain ⟨its,rv,pt,_⟩:=I.tuple hp
 obtain ⟨y1,y2,rfl,r1,r2⟩:=gI rv
 cases r1
 cases r2
 obtain ⟨⟨oc,od,odt,osl⟩,g1,g2,n,g3⟩:=pt
 have g2':oc=.type "tuple":=g2
 have g3':odt=.seq _ n:=g3
 subst g2' g3'
 have e1:a09 X.K (.type t.ty) (.type c1)=some (isI c1 t):=kit_type.trans (gV h1 t)
 have e2:a09 X.K (.type t.ty) (.type c2)=some (isI c2 t):=kit_type.trans (gV h2 t)
 have e:a1X X.K (.type t.ty) [.type c1,.type c2]=some (isI c1 t || isI c2 t):=by
  unfold a1X
  rw [e1]
  cases isI c1 t with
  | true=>rfl
  | false =>
   unfold a1X
   rw [e2]
   cases isI c2 t<;>rfl
 have fin:∀ tk,EP X pins σ Q (.bool (isI c1 t || isI c2 t)) { s with toks:=tk }:=fun tk=>⟨.bl _,H,I.tok tk,rfl,q⟩
 cases t with
 | non =>
  obtain rfl:x=.non:=ht
  cases ru
  exact a0Z a2F I.kIn a0H g1 e (fun z=>nomatch z) fin
 | bl b =>
  obtain rfl:x=.bl b:=ht
  cases ru
  exact a0Z a2G I.kIn a0H g1 e (fun z=>nomatch z) fin
 | int i =>
  obtain rfl:x=.int i:=ht
  obtain ⟨t,rfl⟩:=ru
  exact a0Z a2O I.kIn a0H g1 e (fun z=>nomatch z) fin
 | str z =>
  obtain rfl:x=.str z:=ht
  obtain ⟨t,rfl⟩:=ru
  exact a0Z a2P I.kIn a0H g1 e (fun z=>nomatch z) fin
 | tup ts =>
  obtain ⟨a,vs,rfl,hS⟩:=ht
  cases ru
  obtain ⟨its,_,⟨o,q1,q2,_⟩,_⟩:=I.tuple hS
  exact a0Z a15 I.kIn ⟨o,q1,q2⟩ g1 e (fun z=>nomatch z) fin
 | lst ts =>
  obtain ⟨a,vs,rfl,hS⟩:=ht
  cases ru
  obtain ⟨its,_,⟨o,n,q1,q2,_⟩,_⟩:=I.list hS
  exact a0Z a1P I.kIn ⟨o,q1,q2⟩ g1 e (fun z=>nomatch z) fin
noncomputable def thT:M.T->Th
 | .non=>.non | .bl b=>.bl b | .int i=>.int i | .str x=>.str x | .tup _=>.tup [] | .lst _=>.lst [] | .scr _=>.lst [] | .dct _ _=>.non | .ins _ _ _=>.non | .gone=>.non
theorem nh {K:a0a}{Z:Fp}{H:Hp}{t:M.T}{m:M.Md}{x:V}{G:Fp}(hg:t.isG=false)(r:Rep K Z H m t x G):TopV K H (thT t) x/\(thT t).ty=t.ty:=by
 cases t with
 | non=>exact ⟨r,rfl⟩
 | bl _=>exact ⟨r,rfl⟩
 | int _=>exact ⟨r,rfl⟩
 | str _=>exact ⟨r.1,rfl⟩
 | tup _=>obtain ⟨p,xs,e,q,_⟩:=r; exact ⟨⟨p,xs,e,q⟩,rfl⟩
 | lst _=>obtain ⟨p,xs,e,_,q,_⟩:=r; exact ⟨⟨p,xs,e,.inl (.inl (by cases m<;>exact q.2))⟩,rfl⟩
 | scr _=>obtain ⟨p,e,_,q⟩:=r; exact ⟨⟨p,_,e,q.sq⟩,rfl⟩
 | dct _ _=>exact r.elim
 | ins _ _ _=>exact r.elim
 | gone=>cases hg
theorem jN {t:Th}{u:M.T}{c:String}(h:t.ty=u.ty):isI c t=M.isOne c u:=by unfold isI M.isOne; rw [h]
section
variable {X:Cx}{sf sg:Nat->Option Nat}{C:M.Call}{pos p2 p3:Pos}{ea eb ec:Expr}{a b c:M.E}{h:Bool}{n:Nat}{io:List Nat}
theorem m6 {Z:Fp}{H H1:Hp}{G:Fp}(same:∀ a o,H a=some o->H1 a=some o):Step Z H G Z H1 G:=by
 have al:∀ a,H a≠none->H1 a≠none:=fun a h=>by
  cases e:H a with
  | none=>exact absurd e h
  | some o=>rw [same a o e]; simp
 exact ⟨fun a o h _=>same a o h,fun _ h=>h,fun _ h=>.inl h,fun _ h=>.inl h,al,fun z a h=>al a (z a h)⟩
theorem lG {K:a0a}{Z:Fp}{H H1:Hp}{G:Fp}{w:M.W}{Q:VK}(same:∀ a o,H a=some o->H1 a=some o)(k:Out K Z H G w Q):Out K Z H1 G w Q:=fun v Z' H' G' r o t=>k v Z' H' G' r o ((m6 same).trans t)
theorem eS {H:Hp}{p:Addr}{o:HO}(hp:H p=none):∀ a u,H a=some u->upd H p o a=some u:=fun a u e=>by
 have:a≠p:=fun q=>by subst q; rw [hp] at e; cases e
 rw [ai this]; exact e
theorem TopV.same {K:a0a}{H H1:Hp}{t:Th}{x:V}(sm:∀ a o,H a=some o->H1 a=some o)(h:TopV K H t x):TopV K H1 t x:=by
 cases t with
 | tup _ =>
  obtain ⟨a,vs,e,q⟩:=h
  refine ⟨a,vs,e,?_⟩
  rcases q with (z | ⟨o,z⟩) | z
  ·exact .inl (.inl (sm _ _ z))
  ·exact .inl (.inr ⟨o,sm _ _ z⟩)
  ·exact .inr z
 | lst _ =>
  obtain ⟨a,vs,e,q⟩:=h
  refine ⟨a,vs,e,?_⟩
  rcases q with (z | ⟨o,z⟩) | z
  ·exact .inl (.inl (sm _ _ z))
  ·exact .inl (.inr ⟨o,sm _ _ z⟩)
  ·exact .inr z
 | _=>exact h
theorem eX {c:String}{k:Str}(hc:c∈["tuple","str","bool","int","list"])(hv:bootBuiltins k=some (.type c))(hm:X.mg "isinstance"=none)(hm2:X.mg k=none)(ha:SE X sf C ea a)(hg:Gl X "isinstance":=by rfl)(hg2:Gl X k:=by rfl)(hn:k≠"__name__":=by decide)(hd:(k==("__debug__":Str))=false:=by decide)
  (hs:starEach [ea,.Name k p2] X.env=(false,eval ea X.env)::starEach [.Name k p2] X.env:=by rfl) (hs2:starEach [.Name k p2] X.env=(false,eval (.Name k p2) X.env)::starEach [] X.env:=by rfl) (hpl:(backTo pos (starEach [.Name k p2] X.env)).any (·.1)=false:=by rfl) :
  SE X sf C (.Call (.Name "isinstance" p3) [ea,.Name k p2] [] pos) (.op (.isI [c]) h [a]) :=
 aA (br (kM hc) hg hm a1t (aC ha (aC (i9 hg2 hm2 hv hn hd) bf hs2) hs) (by decide) (by decide) hs hpl) fun σ H Q hw=>by
  obtain ⟨pv,Z,Fs,η,w,η',A,ev,k⟩:=hw
  obtain ⟨ws,h1,h2⟩:=eC ev
  obtain ⟨⟨m,u⟩,η1,us,e1,e2,rfl⟩:=aB h1
  cases e2
  obtain ⟨hug,h2⟩:=ifN (show (if u.isG=true then none else some _)=_ from h2)
  cases h2
  refine ⟨pv,Z,Fs,η,(m,u),η',A,e1,fun x Z' H' Fs' G B r s=>?_⟩
  obtain ⟨t1,t2⟩:=nh hug r
  refine ⟨x,thT u,rfl,t1,?_⟩
  have:=bH (cY B s k)
  rw [jN t2]
  rw [show ([c].any fun c=>M.isOne c u)=M.isOne c u by simp] at this
  exact this
theorem B9 {c1 c2:String}{k1 k2:Str}{p4 pt:Pos}{kt:Nat}(hc1:c1∈["tuple","str","bool","int","list"])(hv1:bootBuiltins k1=some (.type c1))(hc2:c2∈["tuple","str","bool","int","list"])(hv2:bootBuiltins k2=some (.type c2))(hm:X.mg "isinstance"=none)(hm1:X.mg k1=none)(hm2:X.mg k2=none)(ha:SE X sf C ea a)
  (hg:Gl X "isinstance":=by rfl) (hg1:Gl X k1:=by rfl) (hg2:Gl X k2:=by rfl) (hn1:k1≠"__name__":=by decide) (hd1:(k1==("__debug__":Str))=false:=by decide) (hn2:k2≠"__name__":=by decide) (hd2:(k2==("__debug__":Str))=false:=by decide)
  (hs:starEach [ea,.Tuple [.Name k1 p2,.Name k2 p4] kt pt] X.env=(false,eval ea X.env)::starEach [.Tuple [.Name k1 p2,.Name k2 p4] kt pt] X.env:=by rfl) (hs2:starEach [.Tuple [.Name k1 p2,.Name k2 p4] kt pt] X.env=(false,eval (.Tuple [.Name k1 p2,.Name k2 p4] kt pt) X.env)::starEach [] X.env:=by rfl)
  (hs3:starEach [.Name k1 p2,.Name k2 p4] X.env=(false,eval (.Name k1 p2) X.env)::starEach [.Name k2 p4] X.env:=by rfl) (hs4:starEach [.Name k2 p4] X.env=(false,eval (.Name k2 p4) X.env)::starEach [] X.env:=by rfl) (hpl:(backTo pos (starEach [.Tuple [.Name k1 p2,.Name k2 p4] kt pt] X.env)).any (·.1)=false:=by rfl) :
  SE X sf C (.Call (.Name "isinstance" p3) [ea,.Tuple [.Name k1 p2,.Name k2 p4] kt pt] [] pos) (.op (.isI [c1,c2]) h [a]) :=
 aA (br (xn hc1 hc2) hg hm a1t (aC ha (aC (jP (aC (i9 hg1 hm1 hv1 hn1 hd1) (aC (i9 hg2 hm2 hv2 hn2 hd2) bf hs4) hs3)) bf hs2) hs) (by decide) (by decide) hs hpl) fun σ H Q hw=>by
  obtain ⟨pv,Z,Fs,η,w,η',A,ev,k⟩:=hw
  obtain ⟨ws,h1,h2⟩:=eC ev
  obtain ⟨⟨m,u⟩,η1,us,e1,e2,rfl⟩:=aB h1
  cases e2
  obtain ⟨hug,h2⟩:=ifN (show (if u.isG=true then none else some _)=_ from h2)
  cases h2
  refine ⟨pv,Z,Fs,η,(m,u),η',A,e1,fun x Z' H' Fs' G B r s=>?_⟩
  refine ⟨(by show 2<=sizeLine; decide),fun p hp=>?_⟩
  have st:=m6 (Z:=Z') (G:=fun a=>tot Fs' a\/G a) (eS (o:=.tup [.ty c1,.ty c2]) hp)
  obtain ⟨t0,t2⟩:=nh hug r
  have t1:=t0.same (eS (o:=.tup [.ty c1,.ty c2]) hp)
  refine ⟨x,thT u,p,rfl,.inl (.inl ak),t1,?_⟩
  have:=bH (lG (eS (o:=.tup [.ty c1,.ty c2]) hp) (cY B s k))
  rw [jN t2,jN t2]
  rw [show ([c1,c2].any fun c=>M.isOne c u)=(M.isOne c1 u || M.isOne c2 u) by simp] at this
  exact this
theorem Ej (hm:X.mg "list"=none)(hm2:X.mg "range"=none)(ha:SE X sf C ea a)(hb:SE X sf C eb b)(hc:X.calm=true:=by rfl)(hg:Gl X "list":=by rfl)(hg2:Gl X "range":=by rfl)
  (hs:starEach [.Call (.Name "range" p3) [ea,eb] [] p2] X.env=(false,eval (.Call (.Name "range" p3) [ea,eb] [] p2) X.env)::starEach [] X.env:=by rfl) (hpl:(backTo pos (starEach [] X.env)).any (·.1)=false:=by rfl)
  (hs3:starEach [ea,eb] X.env=(false,eval ea X.env)::starEach [eb] X.env:=by rfl) (hs4:starEach [eb] X.env=(false,eval eb X.env)::starEach [] X.env:=by rfl) (hpl2:(backTo p2 (starEach [eb] X.env)).any (·.1)=false:=by rfl) {p4:Pos} :
  SE X sf C (.Call (.Name "list" p4) [.Call (.Name "range" p3) [ea,eb] [] p2] [] pos) (.op .rng h [a,b]) :=
 aA (dy (mO hc) hg hm a0S (aC (dy pI hg2 hm2 a3K (aC ha (aC hb bf hs4) hs3) (by decide) (by decide) hs3 hpl2) bf hs) (by decide) (by decide) hs hpl) fun σ H Q hw=>by
  obtain ⟨pv,Z,Fs,η,w,η',A,ev,k⟩:=hw
  obtain ⟨ws,h1,h2⟩:=eC ev
  obtain ⟨⟨m,u⟩,η1,us,e1,e2,rfl⟩:=aB h1
  obtain ⟨⟨m',u'⟩,η2,us,e3,e4,rfl⟩:=aB e2
  cases e4
  cases u with
  | int i =>
   cases u' with
   | int j =>
    have h3:(if (decide (i.natAbs < 4611686018427387904)&&decide (j.natAbs < 4611686018427387904)&&M.fits (j-i).toNat)=true then some ((.d,.lst ((a0B (j-i).toNat).map fun (k:Nat)=>M.T.int (i+k))):M.W) else none)=some w:=h2
    split at h3
    ·rename_i hc
     rw [a0s,a0s,decide_eq_true_eq,decide_eq_true_eq] at hc
     cases h3
     refine ⟨pv,Z,Fs,η,(m,.int i),η1,A,e1,fun x Z1 H1 Fs1 G1 A1 r1 s1=>pW A1 e3 fun y Z2 H2 Fs2 G2 A2 r2 d2 s2 t2=>?_⟩
     cases r1
     cases r2
     refine ⟨i,j,rfl,fun p hp=>⟨p,i,j,rfl,ak,⟨by omega,by omega,by omega,by omega⟩,bR (cW hc.2),fun l hl=>?_⟩⟩
     have sm:=eS (o:=.rng i j) hp
     have ow:Own Z2 (upd H2 p (.rng i j)) (fun c=>G1 c\/G2 c):=fun a ha=>by
      obtain ⟨z1,ys,z2⟩:=A2.own a ha
      exact ⟨z1,ys,sm a _ z2⟩
     have za:∀ a,Z2 a->upd H2 p (.rng i j) a≠none:=fun a ha q=>by
      cases e:H2 a with
      | none=>exact A2.gd.zal a ha e
      | some o=>rw [sm a o e] at q; cases q
     have kk:=lG sm (cY A2 (s1.trans t2) k)
     refine cp (m:=.d) (G':=no) ow za (fun _ z=>z.elim) ?_ ?_ (by simp) kk hl
     ·rw [a0b,a1l]; exact cW hc.2
     ·have q1:((a0B (j-i).toNat).map fun (k:Nat)=>M.T.int (i+(k:Int)))=((a0B (j-i).toNat).map fun (k:Nat)=>i+(k:Int)).map M.T.int:=by rw [a0v]; rfl
      have q2:((a0B (j-i).toNat).map fun (k:Nat)=>V.int (i+(k:Int)))=((a0B (j-i).toNat).map fun (k:Nat)=>i+(k:Int)).map V.int:=by rw [a0v]; rfl
      rw [q1,q2]
      exact kn _
    ·cases h3
   | _=>cases h2
  | _=>cases u'<;>cases h2
theorem B8 {es:List Expr}{kt:Nat}{pt p:Pos}(hm:X.mg "enumerate"=none)(hg:Gl X "enumerate":=by rfl)(ha:SE X sf C ea a)(hs:starEach [ea] X.env=[(false,eval ea X.env)]:=by rfl):PI X (.Tuple es kt pt) (.Call (.Name "enumerate" p) [ea] [] pos) (wI X.K sf C 2 .enm [a]):=ji (vB hg hm (slc ha sl0 hs) hs) AF
end
end MR

namespace MR
open PySem PySem.Spec PyProof.Rows L2 L3
structure Txt (mg:Str->Option Value):Prop where
 isin:mg "isinstance"=none
 int:mg "int"=none
 tup:mg "tuple"=none
 list:mg "list"=none
 bool:mg "bool"=none
 sum:mg "sum"=none
 len:mg "len"=none
 all:mg "all"=none
 zip:mg "zip"=none
 range:mg "range"=none
 enum:mg "enumerate"=none
 any:mg "any"=none
 max:mg "max"=none
 min:mg "min"=none
 sorted:mg "sorted"=none
 str:mg "str"=none
 repr:mg "repr"=none
 abs:mg "abs"=none
 dict:mg "dict"=none
 set:mg "set"=none
 rev:mg "reversed"=none
theorem frc {X:Cx}{scope:Scope}{cl:List (Str×Addr)}{y:Str}{ys:List Str}{i:Nat}{is:List Nat}{c:Addr}(r:Frees X scope cl ys is)(h1:X.N[i]?=some y:=by rfl)(h2:Vis X.env.scope y:=by first | exact a1r rfl | exact a1h (a1r rfl) | exact a1h (a1h rfl))(h3:X.env.kindOf y=some .cell\/X.env.kindOf y=some .free:=by first | exact a1r rfl | exact a1h rfl)
  (h4:X.env.cells.lookup y=some c:=by rfl) (h5:cl.lookup y=some c:=by rfl) (h6:(relabel scope X.env).names.lookup y=some .cell\/(relabel scope X.env).names.lookup y=some .free:=by first | exact a1r rfl | exact a1h rfl):Frees X scope cl (y::ys) (i::is):=.cons h1 h2 h3 h4 h5 h6 r
theorem gg {X:Cx}{y:Str}{c:Addr}{cl:List (Str×Addr)}(r:Clo X cl)(h:X.env.cells.lookup y=some c:=by rfl):Clo X ((y,c)::cl):=.cons h r
section
variable {X:Cx}{sf sg:Nat->Option Nat}{C:M.Call}{pos p2 p3:Pos}{ea eb ec:Expr}{a b c:M.E}{h:Bool}{n:Nat}{io:List Nat}
section
variable {elt iter cnd:Expr}{x y:Str}{px py pt:Pos}{kt:Nat}{scope:Scope}{tg:List Nat}{k:M.Ik}{src:List M.E}{e cd:M.E}
theorem zC1 (j:Nat)(ls:List Nat)(is:List Nat)(cl:List (Str×Addr))(ys:List Str){z:Str}{pz spos:Pos}{xx:M.X}{i t:Nat}(hi:PI X (.Name x px) iter (wI X.K sf C 1 k src))(he:∀ Ca s H fp,SE (av X ([x]++ys) scope cl Ca s H fp) (inF [t] ls) C elt e)
  (S:aG [x] ys scope) (hcl:Clo X cl) (fr:Frees X scope cl ys is) (hN:X.N.Nodup) (hni:i ∉ io:=by decide) (hsj:sf i=some j:=by rfl) (hj:X.N[j]?=some z:=by rfl) (hz:L2.Loc X.env.scope z:=by first | exact a1r rfl | exact a1h rfl)
  (hsw:swapsWith (.ListComp elt [⟨(.Name x px),iter,[],0⟩] scope pos) (some (.Name z pz)) spos.line X.env=pure true:=by rfl) (hc:X.calm=true:=by rfl) (hl:ls.map sf=is.map some:=by rfl)
  (hclos:closureFor scope X.env=pure cl:=by with_unfolding_all rfl) (hfr:(scope.names.all fun p=>p.2 != .free || (cl.lookup p.1).isSome)=true:=by rfl)
  (hs:∀ v,foldedSetIterable iter X.env v=pure v:=by intro _; rfl) (hfn:X.fn z=true\/X.env.scope.names.lookup z=some .local:=by first | exact .inl rfl | exact .inr rfl):SS X sf io C (.Assign [.Name z pz] (.ListComp elt [⟨(.Name x px),iter,[],0⟩] scope pos) spos) (.asg xx i (.comp h k src [t] none e)) :=
 c7 (iY (pre:=[x]) hN hj hz hsw hc hi (DO S) (fun Ca s H fp=>he Ca s H fp) hclos S hcl hfr fr hs hfn) fun D σ H hw=>fh rfl (by simp) (eM hl) σ H _ (mG hni hsj D σ H hw)
theorem zC2 (j:Nat)(ls:List Nat)(is:List Nat)(cl:List (Str×Addr))(ys:List Str){z:Str}{pz spos:Pos}{xx:M.X}{i t t':Nat}(hi:PI X (.Tuple [.Name x px,.Name y py] kt pt) iter (wI X.K sf C 2 k src))(he:∀ Ca s H fp,SE (av X ([x,y]++ys) scope cl Ca s H fp) (inF [t,t'] ls) C elt e)
  (S:aG [x,y] ys scope) (hcl:Clo X cl) (fr:Frees X scope cl ys is) (hN:X.N.Nodup) (hni:i ∉ io:=by decide) (hsj:sf i=some j:=by rfl) (hj:X.N[j]?=some z:=by rfl) (hz:L2.Loc X.env.scope z:=by first | exact a1r rfl | exact a1h rfl)
  (hsw:swapsWith (.ListComp elt [⟨(.Tuple [.Name x px,.Name y py] kt pt),iter,[],0⟩] scope pos) (some (.Name z pz)) spos.line X.env=pure true:=by rfl) (hc:X.calm=true:=by rfl) (hl:ls.map sf=is.map some:=by rfl) (nd:[t,t'].Nodup:=by decide)
  (hclos:closureFor scope X.env=pure cl:=by with_unfolding_all rfl) (hfr:(scope.names.all fun p=>p.2 != .free || (cl.lookup p.1).isSome)=true:=by rfl)
  (hs:∀ v,foldedSetIterable iter X.env v=pure v:=by intro _; rfl) (hfn:X.fn z=true\/X.env.scope.names.lookup z=some .local:=by first | exact .inl rfl | exact .inr rfl):SS X sf io C (.Assign [.Name z pz] (.ListComp elt [⟨(.Tuple [.Name x px,.Name y py] kt pt),iter,[],0⟩] scope pos) spos) (.asg xx i (.comp h k src [t,t'] none e)) :=
 c7 (iY (pre:=[x,y]) hN hj hz hsw hc hi (C5 hc S) (fun Ca s H fp=>he Ca s H fp) hclos S hcl hfr fr hs hfn) fun D σ H hw=>fh rfl nd (eM hl) σ H _ (mG hni hsj D σ H hw)
end
noncomputable def dH (P:Program)(w:World)(K:a0a)(mg:Str->Option Value)(base:Heap)(n:Nat)(C:M.Call)(x:Str)(f:Nat)(io:List Nat)(t:M.T):Prop :=
 ∃ fa fd ps d dv,FnOk P w K mg base CX0 n fa fd ps (spS K C f io)/\mg x=some (.ref fa)/\a1a K (.ref fa)=true/\Binds K fd ps [d]/\RelV dv d/\∀ Z H m G,Rep K Z H m t dv G
theorem hZ {t:M.T}:∀ {bs:List M.E} {η η':M.Env} {ws:List M.W},M.evA C (bs++[.cst t]) η=.ok (ws,η')->∃ us,M.evA C bs η=.ok (us,η')/\ws=us++[(.d,t)]
 | [],η,η',ws,e=>by
  obtain ⟨u,η1,us,e1,e2,rfl⟩:=dt (fun _ z=>by cases z) (show M.evA C [.cst t] η=_ from e)
  cases e1
  cases e2
  exact ⟨[],rfl,rfl⟩
 | b::bs,η,η',ws,e=>by
  rcases xy b with ⟨i,rfl⟩ | hb
  ·obtain ⟨us,η1,w,h1,h2,rfl,rfl⟩:=eJ (show M.evA C (.io i::(bs++[.cst t])) η=_ from e)
   obtain ⟨vs,h3,rfl⟩:=hZ h1
   refine ⟨w::vs,?_,rfl⟩
   show (M.evA C bs η).bind (M.kIo i)=_
   rw [h3]
   show (M.ofO (M.rd η1 i)).bind _=_
   rw [h2]
   rfl
  ·obtain ⟨u,η1,us,e1,e2,rfl⟩:=dt hb (show M.evA C (b::(bs++[.cst t])) η=_ from e)
   obtain ⟨vs,h1,rfl⟩:=hZ e2
   refine ⟨u::vs,?_,rfl⟩
   rw [M.evA_eq hb,e1]
   show (M.evA C bs η1).bind (M.kCons u)=_
   rw [h1]
   rfl
theorem n0 {x:Str}{p:Pos}{f:Nat}{es:List Expr}{bs bs':List M.E}{t:M.T}(c:dH X.prog X.w X.K X.mg X.base n C x f io t)(hr:Room n X.A)(ha:SA X sf C (ea::es) bs)(hbs:bs'=bs++[.cst t]:=by rfl)(hio:f6 bs' 0=io\/M.ios bs'=[]:=by first | exact .inl rfl | exact .inr rfl)(hg:Gl X x:=by rfl)(hdb:(x==("__debug__":Str))=false:=by decide)
  (he:starEach (ea::es) X.env=(false,eval ea X.env)::starEach es X.env:=by rfl) (hpl:(backTo pos (starEach es X.env)).any (·.1)=false:=by rfl):SE X sf C (.Call (.Name x p) (ea::es) [] pos) (.call f bs'):=by
 obtain ⟨fa,fd,ps,d,dv,F,hm,hk,hb,hd,hR⟩:=c
 refine aA (jV (E:=E0) F hr hg hm hk hb (.cons hd .nil) ni ha hdb he hpl) fun σ H Q hw=>?_
 subst hbs
 obtain ⟨pv,Z,Fs,η,ws,η',A,ev,k⟩:=jI hio σ H Q hw
 obtain ⟨us,h1,rfl⟩:=hZ ev
 refine ⟨pv,Z,Fs,η,us,η',A,h1,fun vs Z' H' Fs' G B r s hv=>?_⟩
 have hl:us.length=bs.length:=gm h1
 refine k (vs++[dv]) Z' H' Fs' G B (RepW.append (G1:=G) (G2:=no) (fun _ z=>z) (fun _ z=>z.elim) (fun _ _ z=>z) r (RepW.one (hR _ _ _ _))) s fun j i u hj hu=>?_
 by_cases q:j < bs.length
 ·rw [a0R q] at hj
  have:=hv j i u hj hu
  rw [a0R (by rw [r.length]; omega)]
  exact this
 ·rw [a0I (by omega)] at hj
  cases e:j-bs.length with
  | zero=>rw [e] at hj; simp at hj
  | succ m=>rw [e] at hj; simp at hj
end
end MR

namespace MR
open PySem PySem.Spec PyProof.Rows L2 L3
section
variable {P:Program}{w:World}{K:a0a}{mg:Str->Option Value}{base:Heap}
theorem FunD.okM {dV:Value}{x qual:Str}{st:Stmt}{f:Addr}{fd:FuncData}{N ps:List Str}{k:Nat}{C:M.Call}{d:M.Fn}(F:L3.FunD K x qual st f fd dV)(S:ah N ps (defScope st))(hps:d.ps=ps.length)(hle:ps.length<=N.length)(nd:d.io.Nodup)(hio:∀ i∈d.io,i < ps.length)
  (hbody:∀ (cdv:Value) (A:Around) (outer:List Env) (s:Shared) (H:Hp) (E:XK),Room k (A.deeper (envOfC qual (defScope st) s.heap.objs.size f cdv)) ->
   SSs (fj CX0 P w K mg base N qual (defScope st) f cdv A outer s H E).nox (slN N.length) d.io C (defBody st) d.body) {g:Nat} {C':M.Call} (hC:∀ ws,C' g ws=M.runF C d ws):FnOk P w K mg base CX0 (k+1) f fd ps (spS K C' g d.io):=by
 have len:∀ vs H Q E,spS K C' g d.io vs H Q E->vs.length=ps.length:=fun vs H Q E ⟨Z,ws,G,w,bs,r,_,_,hr,_⟩=>by
  rw [hC] at hr
  unfold M.runF at hr
  split at hr
  ·rename_i h; rw [r.length,h,hps]
  ·cases hr
 refine F.ok S len fun cdv A outer s H vs Q E hr h=>⟨_,hbody cdv A outer s H E hr,?_⟩
 have hlen:=len vs H Q E h
 obtain ⟨Z,ws,G,w,bs,r,o,z,hc,q⟩:=h
 rw [hC] at hc
 have hwl:ws.length=d.ps:=by rw [<- r.length,hlen,hps]
 rw [M.x_run _ _ _ hwl] at hc
 obtain ⟨Fs,ft,A0⟩:=kC (n:=d.ns) (io:=d.io) r o z (N:=N) (by omega)
 refine ⟨_,Z,Fs,_,⟨fun i i' j h h'=>?_,fun i h=>if_neg h⟩,A0,?_⟩
 ·simp only [slN] at h h'
  split at h
  ·split at h'
   ·cases h; cases h'; rfl
   ·cases h'
  ·cases h
 have hv:∀ i∈d.io,(if i∈d.io then vs[i]? else none)=vs[i]?/\i < vs.length:=fun i hi=>⟨if_pos hi,hlen ▸ hio i hi⟩
 cases e:M.evSs C d.body (ws.map some++a0e d.ns none) with
 | nx η =>
  rw [e] at hc
  intro σ' Z' H' Fs' A' t
  simp only [M.Fl.out] at hc
  cases e2:M.backs d.io η with
  | none=>rw [e2] at hc; cases hc
  | some cs =>
   rw [e2] at hc
   cases hc
   refine q .non Z' H' no _ rfl (dg A' nd hv e2) (fun _ h=>h.elim) (fun a h=>h.elim (fun z=>z.elim) fun ⟨i,_,z⟩=>A'.gd.own a ⟨i,z⟩) (t.mono ft fun a h=>h.elim (fun z=>z.elim) fun ⟨i,_,z⟩=>⟨i,z⟩)
 | rt u η =>
  rw [e] at hc
  intro v σ' Z' H' Fs' G' A' rp t
  simp only [M.Fl.out] at hc
  cases e2:M.backs d.io η with
  | none=>rw [e2] at hc; cases hc
  | some cs =>
   rw [e2] at hc
   cases hc
   exact q v Z' H' G' _ rp (dg A' nd hv e2) (fun a h ⟨i,_,z⟩=>A'.dis a h ⟨i,z⟩) (fun a h=>h.elim (A'.own a) fun ⟨i,_,z⟩=>A'.gd.own a ⟨i,z⟩) (t.mono ft fun a h=>h.elim .inr fun ⟨i,_,z⟩=>.inl ⟨i,z⟩)
 | bk η=>rw [e] at hc; cases hc
 | ex c x η=>rw [e] at hc; cases hc
 | no=>rw [e] at hc; cases hc
theorem yQ {us:List Value}{d:Value}(h:(us++[d]).length=3):∃ a b,us=[a,b]:=by
 match us,h with
 | [a,b],_=>exact ⟨a,b,rfl⟩
 | [],h=>cases h
 | [_],h=>cases h
 | _::_::_::_,h=>simp at h
theorem ly {C:M.Call}{g:Nat}{io:List Nat}{vs:List V}{H:Hp}{Q:VK}{E:XK}(hC:∀ ws,C g ws=.no)(h:spS K C g io vs H Q E):False:=by
 obtain ⟨Z,ws,G,w,bs,_,_,_,e,_⟩:=h
 rw [hC] at e
 cases e
theorem fn0 {f:Addr}{fd:FuncData}{ps:List Str}{k g:Nat}{io:List Nat}{C:M.Call}(hC:∀ ws,C g ws=.no):FnOk P w K mg base CX0 k f fd ps (spS K C g io) :=
 ⟨fun _ _ _ _ h=>(ly hC h).elim,fun _ _ _ _ _ _ _ _ _ _ _ _ _ h=>(ly hC h).elim⟩
theorem mR {Z:Fp}{H:Hp}{a:Addr}{ns:List Int}(hO:qD H)(hl:ns.length<=63)(h:SqL K H a (ns.map V.int)):Rep K Z H .d (.scr ns) (.ref a) no:=by
 refine ⟨a,rfl,a0o hl (by decide),?_⟩
 rcases h with (z | ⟨o,z⟩) | z
 ·rcases hO a with y | ⟨o,xs,y⟩<;>rw [y] at z<;>cases z
 ·exact .inl ⟨o,z⟩
 ·exact .inr (.inr z)
theorem yO {H:Hp}{a:Addr}{ns:List Int}{C:M.Call}{ix:Nat}(hp:∃ m bs,C ix [(.d,.scr ns)]=.ok ((m,.bl true),bs))(hl:ns.length<=63)(hO:qD H)(h:SqL K H a (ns.map V.int)):spS K C ix [] [.ref a] H (fun v _=>v=.bl true) fun _ _ _=>False:=by
 obtain ⟨m,bs,e⟩:=hp
 exact ⟨no,[(.d,.scr ns)],no,(m,.bl true),bs,RepW.one (mR hO hl h),ck,fun _ z=>z.elim,e,fun v Z' H' G1 G2 r _ _ _ _=>r⟩
end
theorem walkM {C:M.Call}{ix k:Nat}{l:a22}{q:Program}{loose:List Str}{XP:(Str->Option Value)->Heap->Prop}{YP:World->Heap->Prop}{d:DefRec}{K:Params->a0a}(hp:∀ ns:List Int,ns.length<=63->∃ m bs,C ix [(.d,.scr ns)]=.ok ((m,.bl true),bs))(hn:l.most=some 63)(hdf:d.params.defaults=[])(hr:Room k callerA)
  (hY:∀ (w:World) (h:Heap),YP w h->(K w.params).In h)
  (F:∀ (w:World) (mg:Str->Option Value) (fa:Addr) (h:Heap),(K w.params).In h->h.Ns mainGlobals mg->mg d.name=some (.ref fa) ->
   ∃ fd:FuncData,(∀ (s:Shared) (u:Value),BindsTo s fd ⟨[u],[]⟩ [("script",u)])/\∀ base:Heap,(K w.params).In base->base.Ns mainGlobals mg->FnOk l.prog w (K w.params) mg base CX0 k fa fd ["script"] (spS (K w.params) C ix [])) :
  a3I q loose XP YP l.row.toRowW d [] (fun f vs=>a3H f vs) :=
 L2.walk_of (n:=63) (k:=k) (x:="script") (CX:=fun _=>CX0) (sp:=fun w=>spS (K w.params) C ix []) hn (by decide) hdf hr hY F (fun _ _ a ns hl hO hS=>yO (hp ns hl) hl hO hS) fun _ _ _ _ _ z=>z
end MR

namespace MR
open PySem PySem.Spec PyProof.Rows L2 L3
mutual
noncomputable def HasA (K:a0a)(H:Hp):Th->V->List Addr->Prop
 | .non,v,as=>v=.non/\as=[]
 | .bl b,v,as=>v=.bl b/\as=[]
 | .int i,v,as=>v=.int i/\as=[]
 | .str x,v,as=>v=.str x/\as=[]
 | .tup ts,v,as=>∃ a vs,v=.ref a/\SqT K H a vs/\HasAL K H ts vs as
 | .lst ts,v,as=>∃ a vs bs,v=.ref a/\H a=some (.lst vs)/\HasAL K H ts vs bs/\as=a::bs
noncomputable def HasAL (K:a0a)(H:Hp):List Th->List V->List Addr->Prop
 | [],vs,as=>vs=[]/\as=[]
 | t::ts,vs,as=>∃ v r b c,vs=v::r/\HasA K H t v b/\HasAL K H ts r c/\as=b++c
end
mutual
theorem HasA.has {K:a0a}{H:Hp}:∀ {t:Th} {v:V} {as:List Addr},HasA K H t v as->Has K H t v
 | .non,_,_,h=>h.1
 | .bl _,_,_,h=>h.1
 | .int _,_,_,h=>h.1
 | .str _,_,_,h=>h.1
 | .tup _,_,_,⟨a,vs,e,q,r⟩=>⟨a,vs,e,q,HasAL.has r⟩
 | .lst _,_,_,⟨a,vs,_,e,q,r,_⟩=>⟨a,vs,e,q,HasAL.has r⟩
theorem HasAL.has {K:a0a}{H:Hp}:∀ {ts:List Th} {vs:List V} {as:List Addr},HasAL K H ts vs as->HasL K H ts vs
 | [],_,_,h=>h.1
 | _::_,_,_,⟨v,r,_,_,e,q,z,_⟩=>⟨v,r,e,HasA.has q,HasAL.has z⟩
end
mutual
theorem HasA.lists {K:a0a}{H:Hp}:∀ {t:Th} {v:V} {as:List Addr},HasA K H t v as->∀ b∈as,∃ zs,H b=some (.lst zs)
 | .non,_,_,h,b,hb=>by rw [h.2] at hb; cases hb
 | .bl _,_,_,h,b,hb=>by rw [h.2] at hb; cases hb
 | .int _,_,_,h,b,hb=>by rw [h.2] at hb; cases hb
 | .str _,_,_,h,b,hb=>by rw [h.2] at hb; cases hb
 | .tup _,_,_,⟨a,vs,e,q,r⟩,b,hb=>HasAL.lists r b hb
 | .lst _,_,_,⟨a,vs,bs,e,q,r,e2⟩,b,hb=>by
  rw [e2] at hb
  rcases a0l.mp hb with z | z
  ·rw [z]; exact ⟨vs,q⟩
  ·exact HasAL.lists r b z
theorem HasAL.lists {K:a0a}{H:Hp}:∀ {ts:List Th} {vs:List V} {as:List Addr},HasAL K H ts vs as->∀ b∈as,∃ zs,H b=some (.lst zs)
 | [],_,_,h,b,hb=>by rw [h.2] at hb; cases hb
 | _::_,_,_,⟨v,r,b1,c,e,q,z,e2⟩,b,hb=>by
  rw [e2] at hb
  rcases a0O.mp hb with y | y
  ·exact HasA.lists q b y
  ·exact HasAL.lists z b y
end
structure SBs (as:List Addr)(H H':Hp):Prop where
 keep:∀ b u,b ∉ as->H b=some u->H' b=some u
 al:∀ b,H b≠none->H' b≠none
instance {as:List Addr} {H H':Hp}:CoeFun (SBs as H H') (fun _=>∀ b u,b ∉ as->H b=some u->H' b=some u):=⟨fun s=>s.keep⟩
theorem SBs.refl {as:List Addr}{H:Hp}:SBs as H H:=⟨fun _ _ _ z=>z,fun _ z=>z⟩
theorem SBs.trans {as bs:List Addr}{H H' H'':Hp}(x:SBs as H H')(y:SBs bs H' H''):SBs (as++bs) H H'':=⟨fun b u n q=>y b u (fun z=>n (a0p _ z)) (x b u (fun z=>n (a0E _ z)) q),fun b h=>y.al b (x.al b h)⟩
theorem j3 {H H':Hp}(s:Same H H'):∀ b,H b≠none->H' b≠none:=fun b h=>by
 cases e:H b with
 | none=>exact absurd e h
 | some o=>rw [s b o e]; simp
theorem SBs.same {as:List Addr}{H H':Hp}(s:Same H H'):SBs as H H':=⟨fun b u _ q=>s b u q,j3 s⟩
theorem kR {K:a0a}{H H':Hp}{cs:List Addr}{a:Addr}{vs:List V}(s:SBs cs H H')(hc:∀ b∈cs,∃ zs,H b=some (.lst zs))(h:SqT K H a vs):SqT K H' a vs:=by
 rcases h with (z | ⟨o,z⟩) | z
 ·exact .inl (.inl (s _ _ (fun y=>by obtain ⟨zs,e⟩:=hc _ y; rw [z] at e; cases e) z))
 ·exact .inl (.inr ⟨o,s _ _ (fun y=>by obtain ⟨zs,e⟩:=hc _ y; rw [z] at e; cases e) z⟩)
 ·exact .inr z
mutual
theorem HasA.kept {K:a0a}{H H':Hp}{cs:List Addr}(s:SBs cs H H')(hc:∀ b∈cs,∃ zs,H b=some (.lst zs)):∀ {t:Th} {v:V} {as:List Addr},HasA K H t v as->(∀ b∈as,b ∉ cs)->HasA K H' t v as
 | .non,_,_,h,_=>h
 | .bl _,_,_,h,_=>h
 | .int _,_,_,h,_=>h
 | .str _,_,_,h,_=>h
 | .tup _,_,_,⟨a,vs,e,q,r⟩,d=>⟨a,vs,e,kR s hc q,HasAL.kept s hc r d⟩
 | .lst _,_,_,⟨a,vs,bs,e,q,r,e2⟩,d=>⟨a,vs,bs,e,s _ _ (d a (by rw [e2]; exact a0d)) q,HasAL.kept s hc r fun b hb=>d b (by rw [e2]; exact a0c _ hb),e2⟩
theorem HasAL.kept {K:a0a}{H H':Hp}{cs:List Addr}(s:SBs cs H H')(hc:∀ b∈cs,∃ zs,H b=some (.lst zs)):∀ {ts:List Th} {vs:List V} {as:List Addr},HasAL K H ts vs as->(∀ b∈as,b ∉ cs)->HasAL K H' ts vs as
 | [],_,_,h,_=>h
 | _::_,_,_,⟨v,r,b1,c,e,q,z,e2⟩,d=>⟨v,r,b1,c,e,HasA.kept s hc q fun b hb=>d b (by rw [e2]; exact a0E _ hb),HasAL.kept s hc z fun b hb=>d b (by rw [e2]; exact a0p _ hb),e2⟩
end
theorem HasA.mono {K:a0a}{H H':Hp}(s:Same H H'){t:Th}{v:V}{as:List Addr}(h:HasA K H t v as):HasA K H' t v as:=HasA.kept (cs:=[]) (SBs.same s) (fun _ z=>nomatch z) h fun _ _ z=>nomatch z
theorem HasAL.mono {K:a0a}{H H':Hp}(s:Same H H'){ts:List Th}{vs:List V}{as:List Addr}(h:HasAL K H ts vs as):HasAL K H' ts vs as:=HasAL.kept (cs:=[]) (SBs.same s) (fun _ z=>nomatch z) h fun _ _ z=>nomatch z
theorem HasAL.at {K:a0a}{H:Hp}:∀ {ts:List Th} {vs:List V} {as:List Addr} {x:V} {r:List V},HasAL K H ts vs as->vs=x::r->∃ t us b c,ts=t::us/\HasA K H t x b/\HasAL K H us r c/\as=b++c
 | [],_,_,_,_,h,e=>by rw [h.1] at e; cases e
 | t::us,_,_,_,_,⟨v,r',b,c,e1,q,z,e2⟩,e=>by
  rw [e1] at e
  cases e
  exact ⟨t,us,b,c,rfl,q,z,e2⟩
noncomputable def WSx:Nat->Th->Prop
 | 0,_=>False
 | _+1,.non=>True
 | _+1,.bl _=>True
 | _+1,.int _=>True
 | _+1,.str _=>True
 | n+1,.tup ts=>ts.length<=M.LIM/\∀ u∈ts,WSx n u
 | n+1,.lst ts=>ts.length<=M.LIM/\∀ u∈ts,WSx n u
noncomputable def gk (K:a0a)(n:Nat):Sp:=fun vs H Q _=>∃ (v:V) (t:Th) (as:List Addr),vs=[v]/\HasA K H t v as/\as.Nodup/\WSx n t/\∀ H',SBs as H H'->Q .non H'
mutual
theorem lx {K:a0a}{Z:Fp}{H:Hp}:∀ {t:M.T} {v:V} {G:Fp} {n:Nat},M.dp t<=n->n<=64->Rep K Z H .d t v G->∃ as,HasA K H (th t) v as/\as.Nodup/\(∀ b∈as,G b)/\WSx (n+1) (th t)
 | .non,_,_,_,_,_,r=>⟨[],⟨r,rfl⟩,a2f,fun _ h=>(nomatch h),a0H⟩
 | .bl _,_,_,_,_,_,r=>⟨[],⟨r,rfl⟩,a2f,fun _ h=>(nomatch h),a0H⟩
 | .int _,_,_,_,_,_,r=>⟨[],⟨r,rfl⟩,a2f,fun _ h=>(nomatch h),a0H⟩
 | .str x,_,_,_,_,_,r=>⟨[],⟨r.1,rfl⟩,a2f,fun _ h=>(nomatch h),a0H⟩
 | .tup ts,v,G,n,hd,hn,⟨a,xs,e,q,l,r⟩=>by
  have hd':M.dps ts+1<=n:=hd
  match n,hd' with
  | n+1,hd' =>
   obtain ⟨as,h1,h2,h3,h4⟩:=fA (n:=n) (by omega) (by omega) r
   exact ⟨as,⟨a,xs,e,q,h1⟩,h2,h3,by rw [<- h1.has.length]; exact l,h4⟩
 | .lst ts,v,G,n,hd,hn,⟨a,xs,e,l,q,r⟩=>by
  have hd':M.dps ts+1<=n:=hd
  match n,hd' with
  | n+1,hd' =>
   obtain ⟨as,h1,h2,h3,h4⟩:=fA (n:=n) (by omega) (by omega) r
   refine ⟨a::as,⟨a,xs,as,e,q.2,h1,rfl⟩,a1y.mpr ⟨fun z=>(h3 a z).2 rfl,h2⟩,fun b hb=>?_,by rw [<- h1.has.length]; exact l,h4⟩
   rcases a0l.mp hb with z | z
   ·rw [z]; exact q.1
   ·exact (h3 b z).1
 | .dct _ _,_,_,_,hd,hn,_=>by have:1000<=64:=a0o hd hn; omega
 | .ins _ _ _,_,_,_,hd,hn,_=>by have:1000<=64:=a0o hd hn; omega
 | .gone,_,_,_,hd,hn,_=>by have:1000<=64:=a0o hd hn; omega
 | .scr _,_,_,_,hd,hn,_=>by have:1000<=64:=a0o hd hn; omega
theorem fA {K:a0a}{Z:Fp}{H:Hp}:∀ {ts:List M.T} {xs:List V} {G:Fp} {n:Nat},M.dps ts<=n->n<=64->RepL K Z H .d ts xs G->∃ as,HasAL K H (ths ts) xs as/\as.Nodup/\(∀ b∈as,G b)/\∀ u∈ths ts,WSx (n+1) u
 | [],_,_,_,_,_,r=>⟨[],⟨r,rfl⟩,a2f,fun _ h=>(nomatch h),fun _ h=>(nomatch h)⟩
 | t::ts,xs,G,n,hd,hn,⟨x,r,G1,G2,e,w1,w2,d,p,q⟩=>by
  have hd':max (M.dp t) (M.dps ts)<=n:=hd
  obtain ⟨as,h1,h2,h3,h4⟩:=lx (n:=n) (by omega) hn p
  obtain ⟨bs,k1,k2,k3,k4⟩:=fA (n:=n) (by omega) hn q
  refine ⟨as++bs,⟨x,r,as,bs,e,h1,k1,rfl⟩,a2J.mpr ⟨h2,k2,fun a ha b hb z=>d a (h3 a ha) (k3 a (z ▸ hb))⟩,fun b hb=>(a0O.mp hb).elim (fun z=>w1 b (h3 b z)) fun z=>w2 b (k3 b z),fun u hu=>?_⟩
  rcases a0l.mp (show u∈th t::ths ts from hu) with z | z
  ·rw [z]; exact h4
  ·exact k4 u z
end
theorem WSx.mono:∀ {n m:Nat} {t:Th},n<=m->WSx n t->WSx m t
 | 0,_,_,_,h=>h.elim
 | n+1,m+1,.non,_,_=>a0H
 | n+1,m+1,.bl _,_,_=>a0H
 | n+1,m+1,.int _,_,_=>a0H
 | n+1,m+1,.str _,_,_=>a0H
 | n+1,m+1,.tup ts,e,⟨h1,h2⟩=>⟨h1,fun u hu=>WSx.mono (by omega) (h2 u hu)⟩
 | n+1,m+1,.lst ts,e,⟨h1,h2⟩=>⟨h1,fun u hu=>WSx.mono (by omega) (h2 u hu)⟩
theorem pZ {K:a0a}{C:M.Call}{g n:Nat}{vs:List V}{H:Hp}{Q:VK}{E:XK}(hC:∀ ws,C g ws=M.spoilW n ws)(h:spS K C g [] vs H Q E):gk K (n+1) vs H Q E:=by
 obtain ⟨Z,ws,G,w,bs,r,ow,za,e,q⟩:=h
 rw [hC] at e
 match ws,e,r with
 | [(m,t)],e,r =>
  have e':(if (M.lf m t==.d&&(decide (M.dp t<=n)&&decide (M.dp t<=64)))=true then M.Res.ok (((.d,.non):M.W),([]:List M.W)) else .no)=.ok (w,bs):=e
  split at e'
  ·rename_i hc
   rw [a0s,a0s,beq_iff_eq,decide_eq_true_eq,decide_eq_true_eq] at hc
   cases e'
   obtain ⟨x,r',G1,G2,e1,w1,w2,d,r1,r2⟩:=r
   cases (show r'=[] from r2)
   have r3:=r1.lf
   rw [hc.1] at r3
   obtain ⟨as,h1,h2,h3,h4⟩:=lx (n:=M.dp t) (a0h _) hc.2.2 r3
   refine ⟨x,th t,as,e1,h1,h2,WSx.mono (by omega) h4,fun H' s=>?_⟩
   refine q .non Z H' no no rfl rfl (fun _ z=>z.elim) (fun _ z=>z.elim (fun y=>y.elim) fun y=>y.elim) ⟨fun a o ha hg=>s a o (fun z=>hg (w1 a (h3 a z))) ha,fun _ z=>z,fun _ z=>.inl z,fun _ z=>z.elim (fun y=>y.elim) fun y=>y.elim,s.al,fun z a ha=>s.al a (z a ha)⟩
  ·cases e'
 | [],e,_=>cases e
 | _::_::_,e,_=>cases e
theorem le2:2<=sizeLine:=by decide
end MR

namespace MR
open PySem PySem.Spec PyProof.Rows L2 L3
section
variable {X:Cx}{sf sg:Nat->Option Nat}{io:List Nat}{C:M.Call}{pos p2:Pos}{ea eb ec:Expr}{a b c:M.E}{h:Bool}{n:Nat}
theorem oZ {K:a0a}:Loc K 1 .tuple h fun xs H Q=>∃ p ys,xs=[.ref p]/\((SqL K H p ys/\∀ l,H l=none->Q (.ref l) (upd H l (.tup ys)))\/(SqT K H p ys/\Q (.ref p) H)):=by
 intro ws w xs Z H G Q hn e r ow za k
 obtain ⟨⟨m,a⟩,rfl⟩:∃ a,ws=[a]:=by match ws,hn with | [a],_=>exact ⟨a,rfl⟩
 obtain ⟨x,rfl,r1⟩:=cy rfl r
 cases a with
 | lst ts =>
  obtain ⟨p,ys,rfl,hs,hl,q⟩:=a7 r1
  cases e
  exact ⟨p,ys,rfl,.inl ⟨SqL.of hs,fun l hl'=>jw (m:=m.kid.up) (G':=G) ow (fun _ z=>z) hl (by rw [cZ]; exact q.zmono fun _ z=>.inl z) k hl'⟩⟩
 | tup ts =>
  obtain ⟨p,ys,rfl,hs,hl,q⟩:=dD r1
  cases e
  exact ⟨p,ys,rfl,.inr ⟨hs,ik ow k r1⟩⟩
 | _=>cases e
theorem BI {p:Pos}(hm:X.mg "tuple"=none)(hg:Gl X "tuple":=by rfl)(ha:SE X sf C ea a)(hs:starEach [ea] X.env=(false,eval ea X.env)::starEach [] X.env:=by rfl)(hpl:(backTo pos (starEach [] X.env)).any (·.1)=false:=by rfl):SE X sf C (.Call (.Name "tuple" p) [ea] [] pos) (.op .tuple h [a]) :=
 aA (dy iI hg hm a04 (slc ha sl0 hs) (by decide) (by decide) hs hpl) (fV oZ rfl)
end
end MR

namespace MR
open PySem PySem.Spec PyProof.Rows L2 L3
section
variable {K:a0a}{Z:Fp}{H H':Hp}{G G' Gn:Fp}{Q:VK}
theorem pQ (same:∀ b o,H b=some o->H' b=some o):Stay Z H H':=by
 refine ⟨fun a o _ e=>same a o e,fun a ys e=>?_,fun a o u e=>same a _ e⟩
 rcases e with e | ⟨u,e⟩
 ·exact .inl (same a _ e)
 ·exact .inr ⟨u,same a _ e⟩
theorem ql {w:M.W}{v:V}(ow:Own Z H G)(za:∀ a,Z a->H a≠none)(hg:∀ a,G' a->G a)(same:∀ b o,H b=some o->H' b=some o)(hn:∀ a,Gn a->H a=none/\∃ xs,H' a=some (.lst xs))
  (r:Rep K (b9 Z G G') H' w.1 w.2 v (fun a=>G' a\/Gn a)) (k:Out K Z H G w Q):Q v H':=by
 have al:∀ a,H a≠none->H' a≠none:=fun a h=>by
  cases e:H a with
  | none=>exact absurd e h
  | some o=>rw [same a o e]; simp
 refine k v (b9 Z G G') H' _ r (fun a h=>?_) ⟨fun a o e _=>same a o e,fun a h=>.inl h,fun a h=>h.imp id fun q=>.inl q.1,fun a h=>h.elim (fun z=>.inl (hg a z)) fun z=>.inr (hn a z).1,al,fun q a h=>al a ?_⟩
 ·rcases h with h | h
  ·obtain ⟨nz,ys,e⟩:=ow a (hg a h)
   exact ⟨fun z=>z.elim nz fun q=>q.2 h,ys,same a _ e⟩
  ·obtain ⟨e,ys,e'⟩:=hn a h
   refine ⟨fun z=>z.elim (fun q=>za a q e) fun q=>?_,ys,e'⟩
   obtain ⟨_,zs,e2⟩:=ow a q.1
   rw [e] at e2; cases e2
 ·rcases h with h | h
  ·exact q a h
  ·obtain ⟨_,ys,e⟩:=ow a h.1
   rw [e]; simp
theorem RepL.split {m:M.Md}:∀ {ts us:List M.T} {xs ys:List V} {G:Fp},xs.length=ts.length->RepL K Z H m (ts++us) (xs++ys) G->∃ G1 G2,(∀ a,G1 a->G a)/\(∀ a,G2 a->G a)/\(∀ a,G1 a->¬ G2 a)/\RepL K Z H m ts xs G1/\RepL K Z H m us ys G2
 | [],us,[],ys,G,_,r=>⟨no,G,fun _ z=>z.elim,fun _ z=>z,fun _ z=>z.elim,rfl,r⟩
 | t::ts,us,x::xs,ys,G,hl,⟨x',r',A,B,e,a1,a2,ad,p,q⟩=>by
  cases e
  obtain ⟨G1,G2,g1,g2,gd,q1,q2⟩:=RepL.split (a14 hl) q
  exact ⟨fun a=>A a\/G1 a,G2,fun a h=>h.elim (a1 a) fun z=>a2 a (g1 a z),fun a h=>a2 a (g2 a h),fun a h z=>h.elim (fun y=>ad a y (g2 a z)) fun y=>gd a y z,⟨x,xs,A,G1,rfl,fun _ z=>.inl z,fun _ z=>.inr z,fun a h z=>ad a h (g1 a z),p,q1⟩,q2⟩
 | [],_,_::_,_,_,hl,_=>by cases hl
 | _::_,_,[],_,_,hl,_=>by cases hl
theorem RepL.cut {m:M.Md}:∀ (n:Nat) {ts:List M.T} {xs:List V} {G:Fp},RepL K Z H m ts xs G->∃ G1 G2,(∀ a,G1 a->G a)/\(∀ a,G2 a->G a)/\(∀ a,G1 a->¬ G2 a)/\RepL K Z H m (ts.take n) (xs.take n) G1/\RepL K Z H m (ts.drop n) (xs.drop n) G2:=fun n ts xs G r=>by
 refine RepL.split (by rw [a01,a01,r.length]) ?_
 rw [a00,a00]
 exact r
end
theorem pX {H H2:Hp}{p:Addr}(s:Same H H2)(h:H2 p=none):H p=none:=by
 cases e:H p with
 | none=>rfl
 | some o=>rw [s p o e] at h; cases h
theorem hX {K:a0a}{H H':Hp}{a:Addr}{xs:List V}(e:Same H H')(h:SqL K H a xs):SqL K H' a xs:=by
 rcases h with (z | ⟨o,z⟩) | z
 ·exact .inl (.inl (e _ _ z))
 ·exact .inl (.inr ⟨o,e _ _ z⟩)
 ·exact .inr z
noncomputable def ij (ls:List Nat):List V:=ls.map fun (n:Nat)=>V.int (n:Int)
noncomputable def RowsAt (H H':Hp)(ra:Addr):List Nat->List V->List Addr->Prop
 | [],_,ps=>ps=[]
 | n::ns,ws,ps=>∃ p r,ps=p::r/\H p=none/\p≠ra/\p ∉ r/\H' p=some (.lst (ws.take n))/\RowsAt H H' ra ns (ws.drop n) r
theorem RowsAt.length {H H':Hp}{ra:Addr}:∀ {ns:List Nat} {ws:List V} {ps:List Addr},RowsAt H H' ra ns ws ps->ps.length=ns.length
 | [],_,_,h=>by rw [show _=[] from h,a1q]
 | _::_,_,_,⟨_,_,e,_,_,_,_,q⟩=>by rw [e,a0f,a0f,q.length]
theorem RowsAt.new {H H':Hp}{ra:Addr}:∀ {ns:List Nat} {ws:List V} {ps:List Addr},RowsAt H H' ra ns ws ps->∀ p∈ps,H p=none/\p≠ra/\∃ xs,H' p=some (.lst xs)
 | [],_,_,h,p,hp=>by rw [show _=[] from h] at hp; cases hp
 | _::_,_,_,⟨_,_,e,h1,h2,_,h3,q⟩,p,hp=>by
  rw [e] at hp
  rcases a0l.mp hp with z | z
  ·rw [z]; exact ⟨h1,h2,_,h3⟩
  ·exact q.new p z
theorem RowsAt.keep {H H1 H2:Hp}{ra:Addr}(k:∀ b o,b≠ra->H1 b=some o->H2 b=some o):∀ {ns:List Nat} {ws:List V} {ps:List Addr},RowsAt H H1 ra ns ws ps->RowsAt H H2 ra ns ws ps
 | [],_,_,h=>h
 | _::_,_,_,⟨p,r,e,h1,h2,h4,h3,q⟩=>⟨p,r,e,h1,h2,h4,k _ _ h2 h3,q.keep k⟩
theorem RowsAt.snoc {H H':Hp}{ra p:Addr}{n:Nat}(h1:H p=none)(h2:p≠ra):∀ {ns:List Nat} {ws:List V} {ps:List Addr},RowsAt H H' ra ns ws ps->p ∉ ps->H' p=some (.lst ((ws.drop ns.sum).take n))->RowsAt H H' ra (ns++[n]) ws (ps++[p])
 | [],ws,_,h,_,h3=>by rw [show _=[] from h]; exact ⟨p,[],rfl,h1,h2,a0K,h3,rfl⟩
 | m::ns,ws,_,⟨c,r,e,k1,k2,k4,k3,q⟩,hn,h3=>by
  rw [e] at hn ⊢
  rw [a0l,not_or] at hn
  rw [a1R,<- a29] at h3
  refine ⟨c,r++[p],rfl,k1,k2,fun z=>?_,k3,RowsAt.snoc h1 h2 q hn.2 h3⟩
  rcases a0O.mp z with z | z
  ·exact k4 z
  ·exact hn.1 (a0w.mp z).symm
noncomputable def n6 (K:a0a):Sp:=fun vs H Q _=>∃ (la ta:Addr) (ns:List Nat) (ws:List V),vs=[.ref la,.ref ta]/\SqL K H la (ij ns)/\SqL K H ta ws/\ns.length<=M.LIM /\
 ∀ ra ps H',Same H H'->H ra=none->H' ra=some (.lst (ps.map V.ref))->RowsAt H H' ra ns ws ps->Q (.ref ra) H'
theorem k9 {K:a0a}{Z:Fp}{H:Hp}{G:Fp}{m:M.Md}:∀ {ts:List M.T} {ns:List Nat} {xs:List V} {G:Fp},M.natsOf ts=some ns->RepL K Z H m ts xs G->xs=ij ns
 | [],ns,xs,_,e,r=>by cases e; exact r
 | t::ts,ns,xs,G,e,⟨x,r,A,B,ex,_,_,_,p,q⟩=>by
  cases t with
  | int i =>
   cases i with
   | ofNat n =>
    have e':(M.natsOf ts).map (n::·)=some ns:=e
    cases h:M.natsOf ts with
    | none=>rw [h] at e'; cases e'
    | some ms =>
     rw [h] at e'
     cases e'
     rw [ex,k9 (G:=B) h q,show x=_ from p]
     rfl
   | negSucc n=>cases e
  | _=>cases e
theorem lh {K:a0a}{Z:Fp}{H H':Hp}{N:M.Md}{ra:Addr}:∀ {ns:List Nat} {ts:List M.T} {ws:List V} {ps:List Addr} {A:Fp},RowsAt H H' ra ns ws ps->RepL K Z H' N ts ws A->ws.length<=M.LIM->(∀ a,A a->H a≠none)->RepL K Z H' N.up (M.rowsT ns ts) (ps.map V.ref) (fun a=>A a\/a∈ps)
 | [],_,_,_,_,h,_,_,_=>by rw [show _=[] from h]; rfl
 | n::ns,ts,ws,_,A,⟨p,r,e,h1,h2,h4,h3,q⟩,rr,hl,ha=>by
  rw [e]
  obtain ⟨G1,G2,g1,g2,gd,q1,q2⟩:=RepL.cut n rr
  have np:∀ a,A a->a≠p:=fun a h z=>ha a h (by rw [z]; exact h1)
  refine ⟨.ref p,r.map V.ref,fun a=>G1 a\/a=p,fun a=>G2 a\/a∈r,rfl,fun a h=>h.elim (fun z=>.inl (g1 a z)) fun z=>.inr (by rw [z]; exact a0d),fun a h=>h.elim (fun z=>.inl (g2 a z)) fun z=>.inr (a0c _ z),fun a h z=>?_,
   ⟨p,ws.take n,rfl,by rw [a01]; omega,(LstR.own (bS N)).mpr ⟨.inr rfl,h3⟩,by rw [cZ]; exact q1.mono fun a h=>⟨.inl h,np a (g1 a h)⟩⟩,lh q q2 (by rw [a1e]; omega) fun a h=>ha a (g2 a h)⟩
  rcases h with h | h<;>rcases z with z | z
  ·exact gd a h z
  ·exact ha a (g1 a h) (q.new a z).1
  ·rw [h] at z; exact np p (g2 p z) rfl
  ·rw [h] at z; exact h4 z
theorem ub {K:a0a}{C:M.Call}{g:Nat}{vs:List V}{H:Hp}{Q:VK}{E:XK}(hC:∀ ws,C g ws=M.rowsW ws)(h:spS K C g [] vs H Q E):n6 K vs H Q E:=by
 obtain ⟨Z,ws,G,w,bs,r,ow,za,e,q⟩:=h
 rw [hC] at e
 match ws,e,r with
 | [(m1,.lst ls),(m,.lst ts)],e,r =>
  obtain ⟨ns,e1,e2⟩:=ab (show (M.ofO (M.natsOf ls)).bind (fun ns=>M.Res.ok (((m.kid.up.up,.lst (M.rowsT ns ts)):M.W),([]:List M.W)))=.ok (w,bs) from e)
  have e1':=cx e1
  cases e2
  obtain ⟨x,y,rfl⟩:∃ x y,vs=[x,y]:=by
   have:=r.length
   match vs,this with
   | [x,y],_=>exact ⟨x,y,rfl⟩
  obtain ⟨G1,G2,w1,w2,d,r1,r2⟩:=cR r
  obtain ⟨la,xs,rfl,hs,hl,q1⟩:=a7 r1
  obtain ⟨ta,ys,rfl,hs2,hl2,q2⟩:=a7 r2
  have ex:=k9 (G:=G1) e1' q1
  subst ex
  have hln:ns.length<=M.LIM:=by unfold ij at hl; rw [a0b] at hl; exact hl
  refine ⟨la,ta,ns,ys,rfl,SqL.of hs,SqL.of hs2,hln,fun ra ps H' same hra hrs hR=>?_⟩
  have same':∀ b o,H b=some o->H' b=some o:=same
  have key:Out K Z H G (m.kid.up.up,.lst (M.rowsT ns ts)) Q:=fun v Z' H2 G' rv o t=>q v Z' H2 G' no rv rfl (fun _ _ z=>z) (fun a h=>h.elim (o a) fun z=>z.elim) (t.mono (fun _ z=>z) fun a h=>h.elim id fun z=>z.elim)
  have hG:∀ a,G2 a->H a≠none:=fun a h=>by obtain ⟨_,zs,e⟩:=ow a (w2 a h); rw [e]; simp
  have q2':=(q2.zmono (Z':=b9 Z G G2) fun _ z=>.inl z).keep (H':=H') (Z':=b9 Z G G2) (pQ same') (fun _ z=>z) fun a o _ e=>same' a o e
  refine ql (w:=(m.kid.up.up,.lst (M.rowsT ns ts))) (K:=K) (G':=G2) (Gn:=fun a=>a=ra\/a∈ps) ow za w2 same' (fun a h=>?_) ⟨ra,ps.map V.ref,rfl,by rw [a0b,hR.length]; exact hln,(LstR.own (bS _)).mpr ⟨.inr (.inl rfl),hrs⟩,?_⟩ key
  ·rcases h with h | h
   ·rw [h]; exact ⟨hra,_,hrs⟩
   ·exact ⟨(hR.new a h).1,(hR.new a h).2.2⟩
  ·rw [cZ]
   refine (lh hR q2' hl2 hG).mono fun b hb=>?_
   rcases hb with z | z
   ·exact ⟨.inl z,fun y=>hG b z (by rw [y]; exact hra)⟩
   ·exact ⟨.inr (.inr z),(hR.new b z).2.1⟩
 | [],e,_=>cases e
 | [(_,t)],e,_=>cases t<;>cases e
 | (_,t)::(_,u)::_::_,e,_=>cases t<;>first | (cases e; done) | (cases u<;>cases e)
 | [(_,.non),_],e,_=>cases e
 | [(_,.bl _),_],e,_=>cases e
 | [(_,.int _),_],e,_=>cases e
 | [(_,.str _),_],e,_=>cases e
 | [(_,.tup _),_],e,_=>cases e
 | [(_,.dct _ _),_],e,_=>cases e
 | [(_,.ins _ _ _),_],e,_=>cases e
 | [(_,.gone),_],e,_=>cases e
 | [(_,.scr _),_],e,_=>cases e
 | [(_,.lst _),(_,.non)],e,_=>cases e
 | [(_,.lst _),(_,.bl _)],e,_=>cases e
 | [(_,.lst _),(_,.int _)],e,_=>cases e
 | [(_,.lst _),(_,.str _)],e,_=>cases e
 | [(_,.lst _),(_,.tup _)],e,_=>cases e
 | [(_,.lst _),(_,.dct _ _)],e,_=>cases e
 | [(_,.lst _),(_,.ins _ _ _)],e,_=>cases e
 | [(_,.lst _),(_,.gone)],e,_=>cases e
 | [(_,.lst _),(_,.scr _)],e,_=>cases e
end MR

namespace MR
open PySem PySem.Spec PyProof.Rows L2 L3
section
variable {X:Cx}{sf sg:Nat->Option Nat}{io:List Nat}{C:M.Call}{pos p2:Pos}{ea eb ec:Expr}{a b c:M.E}{h:Bool}{n:Nat}
theorem ko {tg:Expr}(ha:SE X sf C ea a):PI X tg ea (wI X.K sf C 2 .sq2 [a]):=ji (gz ha) Az
end
end MR

namespace MR
open PySem PySem.Spec PyProof.Rows L2 L3
section
variable {X:Cx}{sf sg:Nat->Option Nat}{C:M.Call}{pos p2 p3:Pos}{ea eb ec:Expr}{a b c:M.E}{h:Bool}{n:Nat}{io:List Nat}
theorem sGc {x:Str}{i:Int}(hm:∃ t,X.mg x=some (.int i t))(hg:Gl X x:=by rfl)(hd:(x==("__debug__":Str))=false:=by decide):SE X sf C (.Name x pos) (.cst (.int i)):=by
 obtain ⟨t,hm⟩:=hm
 exact aA (nV (v:=.int i) hg hm ⟨t,rfl⟩ hd) (ie rfl)
theorem uK {K:a0a}{es:List M.E}(hn:es.length<=M.LIM)(σ:L2.St)(H:Hp)(Q:VK)(h:wE K sf C (.tupA es) σ H Q):BB (wA K sf C es) σ H Q:=by
 obtain ⟨pv,Z,Fs,η,w,η',A,ev,k⟩:=h
 obtain ⟨⟨ws,η1⟩,h1,h2⟩:=ab (show (M.evA C es η).bind M.kTup=_ from ev)
 cases h2
 refine ⟨pv,Z,Fs,η,ws,_,A,h1,fun vs Z' H' Fs' G B r s _=>?_⟩
 have hl:vs.length<=M.LIM:=by rw [r.length,gm h1]; exact hn
 obtain ⟨G',g1,g2⟩:=RepW.to (fun u hu=>eH hu) r
 refine ⟨bR hl,fun p hp=>jw (m:=(M.meets ws).up) B.own g1 hl (by rw [cZ]; exact g2) (cY B s k) hp⟩
theorem sTA {es:List Expr}{bs:List M.E}{x1:Nat}(h:SA X sf C es bs)(hn:bs.length<=M.LIM:=by decide):SE X sf C (.Tuple es x1 pos) (.tupA bs):=aA (jP h) (uK hn)
theorem CH {K:a0a}{vs ls:List Nat}{e:M.E}(σ:L2.St)(H:Hp)(Q:VK)(h:wE K sf C (.qx vs ls e) σ H Q):wE K sf C e σ H Q:=by
 obtain ⟨pv,Z,Fs,η,w,η',A,ev,k⟩:=h
 exact lN (x:=.q vs ls) (sl:=⟨sf,pv⟩) A ev k
theorem sQ {vs ls:List Nat}(ha:SE X sf C ea a):SE X sf C ea (.qx vs ls a):=aA ha CH
noncomputable def PathV (K:a0a)(H:Hp):List Nat->V->V->Prop
 | [],v,u=>u=v
 | j::p,v,u=>∃ a xs x,v=.ref a/\(SqL K H a xs\/SqT K H a xs)/\xs[j]?=some x/\PathV K H p x u
theorem PathV.snoc {K:a0a}{H:Hp}{j:Nat}:∀ {p:List Nat} {v u:V},PathV K H (p++[j]) v u->∃ x,PathV K H p v x/\PathV K H [j] x u
 | [],v,u,h=>⟨v,rfl,h⟩
 | i::p,v,u,⟨a,xs,x,e,q,l,r⟩=>by
  obtain ⟨y,h1,h2⟩:=PathV.snoc (p:=p) r
  exact ⟨y,⟨a,xs,x,e,q,l,h1⟩,h2⟩
noncomputable def wP (K:a0a)(sf:Nat->Option Nat)(i:Nat)(p:List Nat):TE:=fun σ H Q=>∃ j v u,sf i=some j/\σ[j]?=some (some v)/\PathV K H p v u/\Q u H
noncomputable abbrev SP (X:Cx)(sf:Nat->Option Nat)(me:Expr)(i:Nat)(p:List Nat):Prop:=PE X me (wP X.K sf i p)
theorem sPn (j:Nat){i:Nat}{x:Str}(hs:sf i=some j:=by rfl)(hN:X.N[j]?=some x:=by rfl)(hv:Vis X.env.scope x:=by first | exact a1r rfl | exact a1h (a1r rfl) | exact a1h (a1h rfl))(hd:(x==("__debug__":Str))=false:=by decide)
  (hcd:(x==("__classdict__":Str))=false:=by decide):SP X sf (.Name x pos) i []:=aA (dS hN hv hd hcd) fun σ H Q ⟨j',v,u,h1,h2,h3,q⟩=>by
 cases h3
 rw [hs] at h1; cases h1
 exact ⟨v,h2,q⟩
theorem sPi (p:List Nat)(k:Nat){q:List Nat}{i:Nat}{c:Expr}(ha:SP X sf ea i p)(hk:PE X c (tC (.int k)))(hq:q=p++[k]:=by rfl)(hs:eO c:=by intro _ _; rfl):SP X sf (.Subscript ea c pos) i q :=
 aA (rU ix_any ha hk hs) fun σ H Q ⟨j,v,u,h1,h2,h3,r⟩=>by
  subst hq
  obtain ⟨x,g1,a,xs,y,e,g2,g3,g4⟩:=h3.snoc
  cases g4
  refine ⟨j,v,x,h1,h2,g1,a,xs,k,u,e,rfl,g2,?_,r⟩
  have:=(a0q.mp g3).1
  exact L2.atI_nat g3
theorem RepL.at {K:a0a}{Z:Fp}{H:Hp}{m:M.Md}:∀ {ts:List M.T} {xs:List V} {G:Fp} {j:Nat} {t:M.T},RepL K Z H m ts xs G->ts[j]?=some t->∃ (x:V) (A B:Fp),xs[j]?=some x/\(∀ a,A a->G a)/\(∀ a,B a->G a)/\(∀ a,A a->¬ B a)/\Rep K Z H m t x A /\
  ∀ (t':M.T) (A':Fp),(∀ a,A' a->A a)->Rep K Z H m t' x A'->RepL K Z H m (ts.set j t') xs (fun a=>A' a\/B a)
 | [],_,_,_,_,_,e=>by simp at e
 | t0::ts,_,G,0,t,⟨x,r,A,B,e,h1,h2,hd,p,q⟩,e2=>by
  rw [a1c] at e2; cases e2
  refine ⟨x,A,B,by rw [e]; rfl,h1,h2,hd,p,fun t' A' w p'=>?_⟩
  exact ⟨x,r,A',B,e,fun _ z=>.inl z,fun _ z=>.inr z,fun a z=>hd a (w a z),p',q⟩
 | t0::ts,_,G,j+1,t,⟨x,r,A,B,e,h1,h2,hd,p,q⟩,e2=>by
  rw [a0D] at e2
  obtain ⟨y,A2,B2,g0,g1,g2,gd,gp,gq⟩:=RepL.at q e2
  refine ⟨y,A2,fun a=>A a\/B2 a,by rw [e,a0D]; exact g0,fun a z=>h2 a (g1 a z),fun a z=>z.elim (h1 a) fun z=>h2 a (g2 a z),fun a z w=>w.elim (fun w=>hd a w (g1 a z)) (gd a z),gp,fun t' A' w p'=>?_⟩
  refine ⟨x,r,A,fun a=>A' a\/B2 a,e,fun _ z=>.inr (.inl z),fun _ z=>z.imp id .inr,fun a z w'=>w'.elim (fun w'=>hd a z (g1 a (w a w'))) fun w'=>hd a z (g2 a w'),p,gq t' A' w p'⟩
theorem gM {K:a0a}{Z:Fp}{H:Hp}:∀ (p:List Nat) {m:M.Md} {t:M.T} {v:V} {G:Fp} {r:M.W×M.T},M.takeP p m t=some r->Rep K Z H m t v G ->
  ∃ u G1 G2,PathV K H p v u/\(∀ a,G1 a->G a)/\(∀ a,G2 a->G a)/\(∀ a,G1 a->¬ G2 a)/\Rep K Z H r.1.1 r.1.2 u G1/\Rep K Z H m r.2 v G2
 | [],m,t,v,G,r,e,h=>by
  cases e
  exact ⟨v,G,no,rfl,fun _ z=>z,fun _ z=>z.elim,fun _ _ z=>z,h,trivial⟩
 | j::p,m,.lst ts,v,G,r,e,⟨a,xs,ev,l,q,rl⟩=>by
  obtain ⟨t,e1,e2⟩:=a1u.mp (show (ts[j]?).bind _=some r from e)
  obtain ⟨r',e3,rfl⟩:=a2d.mp e2
  obtain ⟨x,A,B,g0,g1,g2,gd,gp,gq⟩:=rl.at e1
  obtain ⟨u,G1,G2,k1,k2,k3,kd,k4,k5⟩:=gM p e3 gp
  have hH:H a=some (.lst xs):=by cases m<;>exact q.2
  refine ⟨u,G1,fun b=>(G2 b\/B b)\/(G b/\b=a),⟨a,xs,x,ev,.inl (.inl (.inl hH)),g0,k1⟩,fun b z=>(g1 b (k2 b z)).1,fun b z=>z.elim (fun z=>z.elim (fun z=>(g1 b (k3 b z)).1) fun z=>(g2 b z).1) a2M,fun b z w=>?_,k4,a,xs,ev,l,?_,?_⟩
  ·rcases w with (w | w) | w
   ·exact kd b z w
   ·exact gd b (k2 b z) w
   ·exact (g1 b (k2 b z)).2 w.2
  ·cases m with
   | s=>exact q
   | d=>exact ⟨.inr ⟨q.1,rfl⟩,q.2⟩
   | o _=>exact ⟨.inr ⟨q.1,rfl⟩,q.2⟩
  ·exact (gq _ G2 k3 k5).mono fun b z=>⟨.inl z,z.elim (fun z=>(g1 b (k3 b z)).2) fun z=>(g2 b z).2⟩
 | j::p,m,.tup ts,v,G,r,e,⟨a,xs,ev,q,l,rl⟩=>by
  obtain ⟨t,e1,e2⟩:=a1u.mp (show (ts[j]?).bind _=some r from e)
  obtain ⟨r',e3,rfl⟩:=a2d.mp e2
  obtain ⟨x,A,B,g0,g1,g2,gd,gp,gq⟩:=rl.at e1
  obtain ⟨u,G1,G2,k1,k2,k3,kd,k4,k5⟩:=gM p e3 gp
  refine ⟨u,G1,fun b=>G2 b\/B b,⟨a,xs,x,ev,.inr q,g0,k1⟩,fun b z=>g1 b (k2 b z),fun b z=>z.elim (fun z=>g1 b (k3 b z)) fun z=>g2 b z,fun b z w=>?_,k4,a,xs,ev,q,l,gq _ G2 k3 k5⟩
  exact w.elim (kd b z) (gd b (k2 b z))
 | _::_,_,.non,_,_,_,e,_=>by cases e
 | _::_,_,.bl _,_,_,_,e,_=>by cases e
 | _::_,_,.int _,_,_,_,e,_=>by cases e
 | _::_,_,.str _,_,_,_,e,_=>by cases e
 | _::_,_,.scr _,_,_,_,e,_=>by cases e
 | _::_,_,.dct _ _,_,_,_,e,_=>by cases e
 | _::_,_,.ins _ _ _,_,_,_,e,_=>by cases e
 | _::_,_,.gone,_,_,_,e,_=>by cases e
noncomputable def uO (Fs:Fps)(i:Nat)(G:Fp):Fps:=fun l a=>(l=i/\G a)\/(l≠i/\Fs l a)
theorem Ac {K:a0a}{i j:Nat}{p:List Nat}(hs:sf i=some j)(σ:L2.St)(H:Hp)(Q:VK)(h:wE K sf C (.mvP i p) σ H Q):wP K sf i p σ H Q:=by
 obtain ⟨pv,Z,Fs,η,w,η',A,ev,k⟩:=h
 obtain ⟨r,h1,h2⟩:=ab (show (M.ofO ((M.rd η i).bind (M.takeW p))).bind (M.kMvP i η)=_ from ev)
 obtain ⟨⟨m,t⟩,e1,e2⟩:=a1u.mp (cx h1)
 obtain ⟨r',e3,rfl⟩:=a2d.mp (show (M.takeP p m t).map _=some r from e2)
 cases h2
 obtain ⟨v,rp,hv⟩:=A.env i m t e1
 obtain ⟨u,G1,G2,k1,k2,k3,kd,k4,k5⟩:=gM p e3 rp
 refine ⟨j,v,u,hs,hv.1 j hs,k1,k u Z H (uO Fs i G2) G1 ⟨⟨fun a ⟨l,hl⟩=>?_,fun l l' a hl hl'=>?_,A.gd.zal⟩,fun l m' t' e=>?_,fun a ha=>A.gd.own a ⟨i,k2 a ha⟩,fun a ha ⟨l,hl⟩=>?_,A.lk,A.ln⟩ k4 (ee fun a ha=>?_)⟩
 ·rcases hl with ⟨_,hl⟩ | ⟨_,hl⟩
  ·exact A.gd.own a ⟨i,k3 a hl⟩
  ·exact A.gd.own a ⟨l,hl⟩
 ·have f:∀ l,uO Fs i G2 l a->Fs l a:=fun l hl=>by
   rcases hl with ⟨q,hl⟩ | ⟨_,hl⟩
   ·rw [q]; exact k3 a hl
   ·exact hl
  exact A.gd.dis l l' a (f l hl) (f l' hl')
 ·rw [bD] at e
  split at e
  ·rename_i hc
   obtain ⟨rfl,_⟩:=hc
   cases e
   exact ⟨v,k5.mono fun a z=>.inl ⟨rfl,z⟩,hv⟩
  ·rename_i hc
   have hli:l≠i:=fun z=>hc ⟨z,ej e1⟩
   obtain ⟨v',r',hv'⟩:=A.env l m' t' e
   exact ⟨v',r'.mono fun a z=>.inr ⟨hli,z⟩,hv'⟩
 ·rcases hl with ⟨_,hl⟩ | ⟨hi,hl⟩
  ·exact kd a ha hl
  ·exact hi (A.gd.dis l i a hl (k2 a ha))
 ·rcases ha with ⟨l,⟨_,hl⟩ | ⟨_,hl⟩⟩ | ha
  ·exact ⟨i,k3 a hl⟩
  ·exact ⟨l,hl⟩
  ·exact ⟨i,k2 a ha⟩
theorem oI (j:Nat){i:Nat}{p:List Nat}(ha:SP X sf ea i p)(hs:sf i=some j:=by rfl):SE X sf C ea (.mvP i p):=aA ha (Ac hs)
noncomputable def vY (K:a0a)(w:World)(mg:Str->Option Value)(x:Str)(ks:List Str):Prop:=∃ a T,mg x=some (.ref a)/\DTab K w a T/\∀ z,(T.lookup z).isSome=ks.contains z
theorem BM {K:a0a}{w:World}{ad:Addr}{T:List (Str×V)}{ks:List Str}{e:M.E}{neg:Bool}(D:DTab K w ad T)(ht:∀ z,(T.lookup z).isSome=ks.contains z)(σ:L2.St)(H:Hp)(Q:VK)(h:wE K sf C (.inT neg ks e) σ H Q) :
  wE K sf C e σ H fun x H1=>∃ z a T',x=.str z/\V.ref ad=.ref a/\DTab K w a T'/\Q (.bl ((T'.lookup z).isSome != neg)) H1:=by
 obtain ⟨pv,Z,Fs,η,w',η',A,ev,k⟩:=h
 obtain ⟨⟨u,η1⟩,h1,h2⟩:=ab (show (M.evE C e η).bind (M.kIn neg ks)=_ from ev)
 obtain ⟨z,e1,e2,e3⟩:=km h2
 cases e2
 refine ⟨pv,Z,Fs,η,u,_,A,h1,fun y Z' H' Fs' G B r s=>?_⟩
 obtain ⟨m,t0⟩:=u
 cases (show t0=_ from e1)
 refine ⟨z,ad,T,r.1,rfl,D,?_⟩
 rw [ht z]
 refine k _ Z' H' Fs' no B.bare ?_ (s.mono (fun _ z=>z) fun a ha=>ha.elim .inl fun z=>z.elim)
 rw [show w'=_ from e3]; rfl
noncomputable def w9 (P:Program)(w:World)(K:a0a)(mg:Str->Option Value)(base:Heap)(n:Nat)(C:M.Call)(x:Str)(tab:List (Str×Nat)):Prop :=
 ∃ a T,mg x=some (.ref a)/\DTab K w a T/\∀ z f,tab.lookup z=some f->∃ fa fd ps,T.lookup z=some (.ref fa)/\FnOk P w K mg base CX0 n fa fd ps (spS K C f [])/\a1a K (.ref fa)=true/\Binds K fd ps []
theorem r9 {x:Str}{p p4:Pos}{es:List Expr}{t:TA}{tk:TE}{ad:Addr}(hk:PE X eb tk)(hg:Gl X x)(hm:X.mg x=some (.ref ad))(ha:PA X (ea::es) t)(hr:Room n X.A)(hdb:(x==("__debug__":Str))=false)(hs:eO eb)
  (he:starEach (ea::es) X.env=(false,eval ea X.env)::starEach es X.env) (hpl:(backTo pos (starEach es X.env)).any (·.1)=false) :
  PE X (.Call (.Subscript (.Name x p) eb p4) (ea::es) [] pos) fun σ H Q=>tk σ H fun y H1=>∃ a z T v,V.ref ad=.ref a/\y=.str z/\DTab X.K X.w a T/\T.lookup z=some v/\∃ fa fd ps sp,v=.ref fa/\FnOk X.prog X.w X.K X.mg X.base CX0 n fa fd ps sp/\a1a X.K (.ref fa)=true/\Binds X.K fd ps []/\t σ H1 fun vs H2=>sp vs H2 Q E0:=by
 intro pins s σ H Q I h
 rw [show eval (.Call (.Subscript (.Name x p) eb p4) (ea::es) [] pos) X.env=(do
  callWith pos (<- eval (.Subscript (.Name x p) eb p4) X.env) [] (backTo pos (starEach (ea::es) X.env)) (backToKw pos (keywordEach [] X.env))) from rfl]
 refine wpAny_bind (thn (rU AL (rK hg hm hdb) hk hs pins s σ H (fun v H1=>∃ fa fd ps sp,v=.ref fa/\FnOk X.prog X.w X.K X.mg X.base CX0 n fa fd ps sp/\a1a X.K (.ref fa)=true/\Binds X.K fd ps []/\t σ H1 fun vs H2=>sp vs H2 Q E0) I h) fun u s1 ⟨v,H1,I1,rv,fa,fd,ps,sp,ev,F,hkp,hb,q⟩=>?_)
 subst ev
 obtain rfl:u=Value.ref fa:=rv
 refine a3h (h₀:=X.base) I1.ok.mod.kin hkp (thn (ha pos pins s1 σ H1 _ I1 q) fun us s2 ⟨vs,H2,I2,r,q2⟩=>⟨I2.kIn,?_⟩) he hpl
 exact qS F hr hb .nil ni I2 r (by rw [a0y]; exact q2)
theorem tV {x:Str}{p p4:Pos}{tab:List (Str×Nat)}{es:List Expr}{bs:List M.E}{k:M.E}(T:w9 X.prog X.w X.K X.mg X.base n C x tab)(hr:Room n X.A)(hk:SE X sf C eb k)(ha:SA X sf C (ea::es) bs)(hio:M.ios bs=[]:=by rfl)(hg:Gl X x:=by rfl)(hdb:(x==("__debug__":Str))=false:=by decide)(hs:eO eb:=by intro _ _; rfl)
  (he:starEach (ea::es) X.env=(false,eval ea X.env)::starEach es X.env:=by rfl) (hpl:(backTo pos (starEach es X.env)).any (·.1)=false:=by rfl):SE X sf C (.Call (.Subscript (.Name x p) eb p4) (ea::es) [] pos) (.callT tab k bs):=by
 obtain ⟨ad,T',hm,D,ht⟩:=T
 refine aA (r9 hk hg hm ha hr hdb hs he hpl) fun σ H Q hw=>?_
 obtain ⟨pv,Z,Fs,η,w,η',A,ev,kk⟩:=hw
 obtain ⟨⟨u,η1⟩,h1,h2⟩:=ab (show (M.evE C k η).bind (M.kTab tab (M.kCT C (M.evA C bs) (M.ios bs)))=_ from ev)
 obtain ⟨z,f,e1,e2,h3⟩:=gW h2
 refine ⟨pv,Z,Fs,η,u,η1,A,h1,fun y Z' H' Fs' G B r s=>?_⟩
 obtain ⟨m,t0⟩:=u
 cases (show t0=_ from e1)
 obtain ⟨fa,fd,ps,q1,q2,q3,q4⟩:=ht z f e2
 refine ⟨ad,z,T',.ref fa,rfl,r.1,D,q1,fa,fd,ps,_,rfl,q2,q3,q4,?_⟩
 have h4:wE X.K sf C (.call f bs) σ H' Q:=⟨pv,Z',Fs',η1,w,η',B.bare,h3,fun v Z2 H2 Fs2 G2 B2 r2 s2=>kk v Z2 H2 Fs2 G2 B2 r2 ((s.mono (fun _ z=>z) fun a ha=>.inl ha).trans s2)⟩
 exact jI (io:=[]) (.inr hio) σ H' Q h4
end
end MR

namespace MR
open PySem PySem.Spec PyProof.Rows L2 L3
section
variable {X:Cx}{sf:Nat->Option Nat}{C:M.Call}{me:Expr}{f:Nat}{bs:List M.E}
theorem Ea (h:∀ ws,C f ws=.no):SE X sf C me (.call f bs):=fun pins s σ H Q I ⟨pv,Z,Fs,η,w,η',A,ev,k⟩=>by
 obtain ⟨⟨ws,η1⟩,h1,h2⟩:=ab (show (M.evA C bs η).bind (M.kCall C f (M.ios bs))=_ from ev)
 rw [show M.kCall C f (M.ios bs) (ws,η1)=(C f ws).bind (M.kBack (M.ios bs) η1) from rfl,h] at h2
 cases h2
end
theorem fsc {N P:List Str}{sc:Scope}(h1:sc.kind=.function:=by rfl)(h2:sc.isCoroutine=false:=by rfl)(h3:sc.isGenerator=false:=by rfl)(h4:N.Nodup:=by decide +kernel)(h5:N.take P.length=P:=by rfl)(h6:∀ x∈P,sc.names.lookup x=some .local\/sc.names.lookup x=some .cell:=by decide +kernel)(h7:∀ y∈sc.names,y.2≠.free:=by decide +kernel):ah N P sc:=⟨h1,h2,h3,h4,h5,h6,h7⟩
theorem csc {pre ys:List Str}{scope:Scope}(h1:scope.kind=.function:=by rfl)(h2:∀ y∈scope.names,y.2≠.cell:=by decide +kernel)(h3:∀ y∈scope.names,y.2=.local->scope.names.lookup y.1=some .local:=by decide +kernel)(h4:∀ x∈pre,scope.names.lookup x=some .local:=by decide +kernel)(h5:(pre++ys).Nodup:=by decide +kernel):aG pre ys scope:=⟨h1,h2,h3,h4,h5⟩
section
variable {P:Program}{w:World}{K:a0a}{mg:Str->Option Value}{base:Heap}{x:Str}{st:Stmt}{ps N:List Str}{n g:Nat}{io:List Nat}{C C':M.Call}{d:Value}{t:M.T}
structure Df (K:a0a)(mg:Str->Option Value)(x:Str)(st:Stmt)(ps:List Str):Prop where
 ex:∃ f fd,Fun K x x st f fd/\Binds K fd ps []/\mg x=some (.ref f)
structure DfD (K:a0a)(mg:Str->Option Value)(x:Str)(st:Stmt)(ps:List Str)(d:Value):Prop where
 ex:∃ f fd dV,FunD K x x st f fd dV/\Binds K fd ps []/\Binds K fd ps [d]/\mg x=some (.ref f)
theorem Df.ok (e:Df K mg x st ps)(h:∀ f fd,Fun K x x st f fd->FnOk P w K mg base CX0 n f fd ps (spS K C g io)):aa P w K mg base n C x g io:=by
 obtain ⟨f,fd,F,b,m⟩:=e.ex
 exact ⟨f,fd,ps,h f fd F,m,F.kp,b⟩
theorem Df.z (e:Df K mg x st ps)(hC:∀ ws,C g ws=.no:=by intro _; rfl):aa P w K mg base n C x g io:=e.ok fun _ _ _=>fn0 hC
theorem Df.s (fn:M.Fn)(e:Df K mg x st ps)(S:ah N ps (defScope st))
  (hb:∀ {f:Addr} {cdv:Value} {A:Around} {outer:List Env} {s:Shared} {H:Hp} {E:XK},Room n (A.deeper (envOfC x (defScope st) s.heap.objs.size f cdv))->SSs (fj CX0 P w K mg base N x (defScope st) f cdv A outer s H E).nox (slN N.length) fn.io C (defBody st) fn.body)
  (hC:∀ ws,C' g ws=M.runF C fn ws:=by intro _; rfl) (hps:fn.ps=ps.length:=by rfl) (hle:ps.length<=N.length:=by decide) (nd:fn.io.Nodup:=by decide) (hio:∀ i∈fn.io,i < ps.length:=by decide):aa P w K mg base (n+1) C' x g fn.io :=
 e.ok fun _ _ F=>Fun.okM F S hps hle nd hio (fun _ _ _ _ _ _ h=>hb h) hC
theorem DfD.ok (e:DfD K mg x st ps d)(h:∀ f fd dV,FunD K x x st f fd dV->FnOk P w K mg base CX0 n f fd ps (spS K C g io)):aa P w K mg base n C x g io:=by
 obtain ⟨f,fd,dV,F,b,_,m⟩:=e.ex
 exact ⟨f,fd,ps,h f fd dV F,m,F.kp,b⟩
theorem DfD.okD {dv:V}(e:DfD K mg x st ps d)(h:∀ f fd dV,FunD K x x st f fd dV->FnOk P w K mg base CX0 n f fd ps (spS K C g io))(hr:RelV dv d)(ht:∀ Z H m G,Rep K Z H m t dv G):dH P w K mg base n C x g io t:=by
 obtain ⟨f,fd,dV,F,_,b,m⟩:=e.ex
 exact ⟨f,fd,ps,d,dv,h f fd dV F,m,F.kp,b,hr,ht⟩
theorem DfD.z (e:DfD K mg x st ps d)(hC:∀ ws,C g ws=.no:=by intro _; rfl):aa P w K mg base n C x g io:=e.ok fun _ _ _ _=>fn0 hC
theorem DfD.zD {b:Bool}(e:DfD K mg x st ps (.bool b))(hC:∀ ws,C g ws=.no:=by intro _; rfl):dH P w K mg base n C x g io (.bl b):=e.okD (dv:=.bl b) (fun _ _ _ _=>fn0 hC) rfl fun _ _ _ _=>rfl
theorem DfD.fn (fn:M.Fn){f:Addr}{fd:FuncData}{dV:Value}(F:FunD K x x st f fd dV)(S:ah N ps (defScope st))
  (hb:∀ {f:Addr} {cdv:Value} {A:Around} {outer:List Env} {s:Shared} {H:Hp} {E:XK},Room n (A.deeper (envOfC x (defScope st) s.heap.objs.size f cdv))->SSs (fj CX0 P w K mg base N x (defScope st) f cdv A outer s H E).nox (slN N.length) fn.io C (defBody st) fn.body)
  (hC:∀ ws,C' g ws=M.runF C fn ws) (hps:fn.ps=ps.length) (hle:ps.length<=N.length) (nd:fn.io.Nodup) (hio:∀ i∈fn.io,i < ps.length):FnOk P w K mg base CX0 (n+1) f fd ps (spS K C' g fn.io):=FunD.okM F S hps hle nd hio (fun _ _ _ _ _ _ h=>hb h) hC
theorem DfD.s (fn:M.Fn)(e:DfD K mg x st ps d)(S:ah N ps (defScope st))
  (hb:∀ {f:Addr} {cdv:Value} {A:Around} {outer:List Env} {s:Shared} {H:Hp} {E:XK},Room n (A.deeper (envOfC x (defScope st) s.heap.objs.size f cdv))->SSs (fj CX0 P w K mg base N x (defScope st) f cdv A outer s H E).nox (slN N.length) fn.io C (defBody st) fn.body)
  (hC:∀ ws,C' g ws=M.runF C fn ws:=by intro _; rfl) (hps:fn.ps=ps.length:=by rfl) (hle:ps.length<=N.length:=by decide) (nd:fn.io.Nodup:=by decide) (hio:∀ i∈fn.io,i < ps.length:=by decide):aa P w K mg base (n+1) C' x g fn.io :=
 e.ok fun _ _ _ F=>DfD.fn fn F S hb hC hps hle nd hio
theorem DfD.sD {b:Bool}(fn:M.Fn)(e:DfD K mg x st ps (.bool b))(S:ah N ps (defScope st))
  (hb:∀ {f:Addr} {cdv:Value} {A:Around} {outer:List Env} {s:Shared} {H:Hp} {E:XK},Room n (A.deeper (envOfC x (defScope st) s.heap.objs.size f cdv))->SSs (fj CX0 P w K mg base N x (defScope st) f cdv A outer s H E).nox (slN N.length) fn.io C (defBody st) fn.body)
  (hC:∀ ws,C' g ws=M.runF C fn ws:=by intro _; rfl) (hps:fn.ps=ps.length:=by rfl) (hle:ps.length<=N.length:=by decide) (nd:fn.io.Nodup:=by decide) (hio:∀ i∈fn.io,i < ps.length:=by decide):dH P w K mg base (n+1) C' x g fn.io (.bl b) :=
 e.okD (dv:=.bl b) (fun _ _ _ F=>DfD.fn fn F S hb hC hps hle nd hio) rfl fun _ _ _ _=>rfl
noncomputable def Raw (K:a0a)(x:Str)(st:Stmt)(dV:Value):Prop:=∃ f oc od sl kV dc pm an cd ct,a2i K mainGlobals x=some (some (.ref f))/\K.lookup f=some ⟨oc,od,.func (a05 x x (defArgs st) (defBody st) (defScope st) dV kV dc pm an cd ct),sl⟩/\a1W K cd x=true/\a1a K (.ref f)=true
theorem aH {h:Heap}(X:K.In h)(G:h.Ns mainGlobals mg)(r:Raw K x st .none)(hb:∀ (kV doc pm:Value) (an:Option Addr) (cdv ct:Value) (us:List Value),us.length=ps.length->bindArgs (a05 x x (defArgs st) (defBody st) (defScope st) .none kV doc pm an cdv ct) ⟨us,[]⟩=pure (ps.zip us)):Df K mg x st ps:=by
 obtain ⟨f,oc,od,sl,kV,dc,pm,an,cd,ct,h1,h2,h3,h4⟩:=r
 have F:=sC (st:=st) h2 h3 h4
 exact ⟨f,_,F,F.binds hb,a19 X G h1⟩
noncomputable def RawD (K:a0a)(x:Str)(st:Stmt)(v:Value):Prop:=∃ T o m,Raw K x st (.ref T)/\K.lookup T=some o/\o.data=.seq #[v] m
theorem Av {h:Heap}{v:Value}(X:K.In h)(G:h.Ns mainGlobals mg)(r:RawD K x st v)
  (hb:∀ (T:Addr) (kV doc pm:Value) (an:Option Addr) (cdv ct:Value) (us:List Value),(us++[]).length=ps.length->∃ k:Option (Array Value)->Sem (List (Str×Value)),bindArgs (a05 x x (defArgs st) (defBody st) (defScope st) (.ref T) kV doc pm an cdv ct) ⟨us,[]⟩=seqItems? (.ref T) >>= k/\k (some #[v])=pure (ps.zip (us++[])))
  (hd:∀ (T:Addr) (kV doc pm:Value) (an:Option Addr) (cdv ct:Value) (us:List Value),(us++[v]).length=ps.length->∃ k:Option (Array Value)->Sem (List (Str×Value)),bindArgs (a05 x x (defArgs st) (defBody st) (defScope st) (.ref T) kV doc pm an cdv ct) ⟨us,[]⟩=seqItems? (.ref T) >>= k/\k (some #[v])=pure (ps.zip (us++[v]))):DfD K mg x st ps v:=by
 obtain ⟨T,o,m,⟨f,oc,od,sl,kV,dc,pm,an,cd,ct,h1,h2,h3,h4⟩,h5,h6⟩:=r
 have F:=vk (st:=st) h2 h3 h4
 exact ⟨f,_,_,F,F.binds h5 h6 (hb T),F.binds h5 h6 (hd T),a19 X G h1⟩
theorem An {h:Heap}{fa:Addr}{pr:Program}{k:Nat}{sp:Sp}(X:K.In h)(G:h.Ns mainGlobals mg)(hfa:mg "law"=some (.ref fa))(r:Raw K "law" st .none)(hb:∀ (kV dc pm:Value) (an:Option Addr) (cd ct:Value) (s:Shared) (v:Value),BindsTo s (a05 "law" "law" (defArgs st) (defBody st) (defScope st) .none kV dc pm an cd ct) ⟨[v],[]⟩ [("script",v)])
  (ok:∀ f fd,Fun K "law" "law" st f fd->∀ base,FnOk pr w K mg base CX0 k f fd ["script"] sp):∃ fd:FuncData,(∀ (s:Shared) (v:Value),BindsTo s fd ⟨[v],[]⟩ [("script",v)])/\∀ base:Heap,K.In base->base.Ns mainGlobals mg->FnOk pr w K mg base CX0 k fa fd ["script"] sp:=by
 obtain ⟨f,oc,od,sl,kV,dc,pm,an,cd,ct,h1,h2,h3,h4⟩:=r
 have e:=hfa.symm.trans (a19 X G h1)
 cases e
 exact ⟨_,hb kV dc pm an cd ct,fun base _ _=>ok _ _ (sC (st:=st) h2 h3 h4) base⟩
noncomputable def zH (K:a0a):List Str->Prop
 | []=>True
 | x::r=>a2i K mainGlobals x=some none/\zH K r
theorem zg {h:Heap}(X:K.In h)(G:h.Ns mainGlobals mg)(r:zH K ["isinstance","int","tuple","list","bool","sum","len","all","zip","range","enumerate","any","max","min","sorted","str","repr","abs","dict","set","reversed"]):Txt mg:=by
 obtain ⟨z1,z2,z3,z4,z5,z6,z7,z8,z9,z10,z11,z12,z13,z14,z15,z16,z17,z18,z19,z20,z21,_⟩:=r
 have m:=fun {x:Str} (z:a2i K mainGlobals x=some none)=>PySem.W.mg_none_of X G z
 exact ⟨m z1,m z2,m z3,m z4,m z5,m z6,m z7,m z8,m z9,m z10,m z11,m z12,m z13,m z14,m z15,m z16,m z17,m z18,m z19,m z20,m z21⟩
noncomputable def TabRaw (K:a0a)(w:World)(x:Str)(T:List (Str×V)):Prop:=∃ a es n,a2i K mainGlobals x=some (some (.ref a))/\K.lookup a=some ⟨.type "dict",none,.dict es n,#[]⟩/\a3A w.params es.toList/\Paired (fun (p:Str×V) (e:DictEntry)=>(∃ t,e.key=.str p.1 t)/\RelV p.2 e.val) T es.toList/\(a==sysModules)=false
theorem TabRaw.tab {h:Heap}{T:List (Str×V)}(X:K.In h)(G:h.Ns mainGlobals mg)(r:TabRaw K w x T):∃ a,mg x=some (.ref a)/\DTab K w a T:=by
 obtain ⟨a,es,n,h1,h2,h3,h4,h5⟩:=r
 exact ⟨a,a19 X G h1,⟨es,n,h2,h3,h4⟩,h5⟩
theorem jo (z:Str):∀ T:List (Str×V),(T.lookup z).isSome=(T.map a2p).contains z
 | []=>rfl
 | (k,v)::T=>by
  rw [a1A,a0n,List.contains_cons]
  cases z==k with
  | true=>rfl
  | false=>rw [jo z T]; rfl
theorem oq {h:Heap}{T:List (Str×V)}{ks:List Str}(X:K.In h)(G:h.Ns mainGlobals mg)(r:TabRaw K w x T)(hk:T.map a2p=ks):vY K w mg x ks:=by
 obtain ⟨a,h1,h2⟩:=r.tab X G
 exact ⟨a,T,h1,h2,fun z=>by rw [jo,hk]⟩
noncomputable def NamL (K:a0a)(T:List (Str×V)):List (Str×Str)->Prop
 | []=>True
 | (k,y)::r=>(∃ fa,T.lookup k=some (.ref fa)/\a2i K mainGlobals y=some (some (.ref fa)))/\NamL K T r
noncomputable def vN (K:a0a)(w:World)(mg:Str->Option Value)(x:Str)(l:List (Str×Str)):Prop:=∃ a T,mg x=some (.ref a)/\DTab K w a T/\∀ z y,l.lookup z=some y->∃ fa,T.lookup z=some (.ref fa)/\mg y=some (.ref fa)
theorem oa {h:Heap}{T:List (Str×V)}{l:List (Str×Str)}(X:K.In h)(G:h.Ns mainGlobals mg)(r:TabRaw K w x T)(hn:NamL K T l):vN K w mg x l:=by
 obtain ⟨a,h1,h2⟩:=r.tab X G
 refine ⟨a,T,h1,h2,fun z y=>?_⟩
 induction l with
 | nil=>intro e; cases e
 | cons p l ih =>
  obtain ⟨k,y'⟩:=p
  intro e
  rw [a1A] at e
  cases hz:z==k with
  | true =>
   rw [hz] at e
   cases e
   obtain ⟨fa,q1,q2⟩:=hn.1
   rw [beq_iff_eq.mp hz]
   exact ⟨fa,q1,a19 X G q2⟩
  | false =>
   rw [hz] at e
   exact ih hn.2 e
noncomputable def CL (P:Program)(w:World)(K:a0a)(mg:Str->Option Value)(base:Heap)(n:Nat)(C:M.Call):List (Str×Nat)->List (Str×Str)->Prop
 | [],_=>True
 | (k,f)::r,l=>(∃ y,l.lookup k=some y/\aa P w K mg base n C y f [])/\CL P w K mg base n C r l
theorem gx {l:List (Str×Str)}{tab:List (Str×Nat)}(t:vN K w mg x l)(h:CL P w K mg base n C tab l):w9 P w K mg base n C x tab:=by
 obtain ⟨a,T,h1,h2,h3⟩:=t
 refine ⟨a,T,h1,h2,fun z f=>?_⟩
 induction tab with
 | nil=>intro e; cases e
 | cons p tab ih =>
  obtain ⟨k,g⟩:=p
  intro e
  rw [a1A] at e
  cases hz:z==k with
  | true =>
   rw [hz] at e
   cases e
   obtain ⟨y,q1,fa,fd,ps,q2,q3,q4,q5⟩:=h.1
   rw [beq_iff_eq.mp hz]
   obtain ⟨fa',q6,q7⟩:=h3 k y q1
   rw [q3] at q7
   cases q7
   exact ⟨fa,fd,ps,q6,q2,q4,q5⟩
  | false =>
   rw [hz] at e
   exact ih h.2 e
end
end MR

namespace MR
open PySem PySem.Spec PyProof.Rows L2 L3
section
variable {X:Cx}{sf sg:Nat->Option Nat}{C:M.Call}{pos p p2 p3:Pos}{ea eb ec:Expr}{a b c:M.E}{h:Bool}{n:Nat}{io:List Nat}{K:a0a}
theorem vZ:Loc K 1 .any h fun xs H Q=>∃ (a:Addr) (bs:List Bool),xs=[.ref a]/\SqL K H a (bs.map V.bl)/\Q (.bl (bs.any id)) H:=by
 intro ws w xs Z H G Q hn e r ow za k
 match ws,hn with
 | [(m,a)],_ =>
  obtain ⟨x,rfl,r1⟩:=cy rfl r
  cases a with
  | lst ts =>
   obtain ⟨a,xs,hx,hs,hl,p⟩:=a7 r1
   have e':(M.boolsOf ts).map (fun ns=>((.d,.bl (ns.any id)):M.W))=some w:=e
   cases e1:M.boolsOf ts with
   | none=>rw [e1] at e'; cases e'
   | some ns =>
    rw [e1] at e'; cases e'
    rw [jl e1 p] at hs
    exact ⟨a,ns,by rw [hx],.inl (.inl hs),bH k⟩
  | _=>cases e
theorem Ed (hc:X.calm=true:=by rfl)(hm:X.mg "any"=none)(hg:Gl X "any":=by rfl)(ha:SE X sf C ea a)(hs:starEach [ea] X.env=(false,eval ea X.env)::starEach [] X.env:=by rfl)(hpl:(backTo pos (starEach [] X.env)).any (·.1)=false:=by rfl):SE X sf C (.Call (.Name "any" p) [ea] [] pos) (.op .any h [a]) :=
 aA (br (oF hc) hg hm (by rfl) (slc ha sl0 hs) (by decide) (by decide) hs hpl) (fV vZ rfl)
theorem cK {Z:Fp}{H:Hp}{G:Fp}{m:M.Md}{t:M.T}{x:V}(hf:M.flatT t=true)(r:Rep K Z H m t x G):ei x=true/\∀ (u:M.T) (y:V) {m':M.Md} {G':Fp},M.flatT u=true->Rep K Z H m' u y G'->eqV y x=M.eqT u t:=by
 cases t with
 | non=>cases r; refine ⟨rfl,fun u y m' G' hu ru=>?_⟩; cases u<;>first | (cases ru; rfl) | (obtain ⟨e,_⟩:=ru; cases e; rfl) | cases hu
 | bl b=>cases r; refine ⟨rfl,fun u y m' G' hu ru=>?_⟩; cases u<;>first | (cases ru; rfl) | (cases ru; cases b<;>rfl) | (obtain ⟨e,_⟩:=ru; cases e; rfl) | cases hu
 | int i=>cases r; refine ⟨rfl,fun u y m' G' hu ru=>?_⟩; cases u with
  | bl c=>cases ru; cases c<;>rfl
  | _=>first | (cases ru; rfl) | (obtain ⟨e,_⟩:=ru; cases e; rfl) | cases hu
 | str z=>obtain ⟨e,_⟩:=r; cases e; refine ⟨rfl,fun u y m' G' hu ru=>?_⟩; cases u<;>first | (cases ru; rfl) | (obtain ⟨e,_⟩:=ru; cases e; rfl) | cases hu
 | _=>cases hf
theorem mV {Z:Fp}{H:Hp}{G:Fp}{m:M.Md}{t:M.T}{x:V}(hf:M.flatT t=true)(r:Rep K Z H m t x G):∀ {ts:List M.T} {xs:List V} {m':M.Md} {G':Fp},ts.all M.flatT=true->RepL K Z H m' ts xs G'->xs.all ei=true/\L2.inV x xs=ts.any fun u=>M.eqT u t
 | [],_,_,_,_,h=>by cases h; exact ⟨rfl,rfl⟩
 | u::ts,_,m',_,hl,⟨y,ys,G1,G2,e,_,_,_,q,qs⟩=>by
  cases e
  rw [a0T,a0s] at hl
  obtain ⟨h1,h2⟩:=mV hf r hl.2 qs
  refine ⟨by rw [a0T,(cK hl.1 q).1,h1]; rfl,?_⟩
  show (eqV y x || L2.inV x ys)=_
  rw [a0P,h2,(cK hf r).2 u y hl.1 q]
theorem qw {neg:Bool}{u v w:M.W}{o:M.Op}(ho:o=if neg then .notin else .isin)(e:M.oSem o h [u,v]=some w):∃ ts,M.elems v=some ts/\M.flatT u.2=true/\ts.all M.flatT=true/\w=(.d,.bl (if neg then !ts.any (fun t=>M.eqT t u.2) else ts.any fun t=>M.eqT t u.2)):=by
 obtain ⟨m,a⟩:=u; obtain ⟨n,b⟩:=v
 subst ho
 cases neg with
 | true =>
  obtain ⟨ts,h1,h2⟩:=a1u.mp (show (M.elems (n,b)).bind (fun ts=>if (M.flatT a&&ts.all M.flatT)=true then some ((.d,.bl (!ts.any fun t=>M.eqT t a)):M.W) else none)=some w from e)
  split at h2
  ·rename_i hh; rw [a0s] at hh; cases h2; exact ⟨ts,h1,hh.1,hh.2,rfl⟩
  ·cases h2
 | false =>
  obtain ⟨ts,h1,h2⟩:=a1u.mp (show (M.elems (n,b)).bind (fun ts=>if (M.flatT a&&ts.all M.flatT)=true then some ((.d,.bl (ts.any fun t=>M.eqT t a)):M.W) else none)=some w from e)
  split at h2
  ·rename_i hh; rw [a0s] at hh; cases h2; exact ⟨ts,h1,hh.1,hh.2,rfl⟩
  ·cases h2
theorem AM (neg:Bool){o:M.Op}(ho:o=if neg then .notin else .isin):Loc K 2 o h fun xs H Q=>∀ x y,xs=[x,y]->rIn K neg x y H Q:=by
 intro ws w xs Z H G Q hn e r ow za k x y hx
 subst hx
 obtain ⟨⟨m,a⟩,⟨n,b⟩,rfl⟩:=fw r.length.symm
 obtain ⟨G1,G2,w1,w2,d,r1,r2⟩:=cR r
 obtain ⟨ts,e1,e2,e3,rfl⟩:=qw ho e
 cases b with
 | lst us =>
  cases e1
  obtain ⟨p,xs,rfl,hs,hl,q⟩:=a7 r2
  obtain ⟨f1,f2⟩:=mV e2 r1 e3 q
  refine ⟨p,xs,rfl,.inl (.inl (.inl hs)),(cK e2 r1).1,f1,?_⟩
  rw [f2]
  exact bH k
 | tup us =>
  cases e1
  obtain ⟨p,xs,rfl,hs,hl,q⟩:=dD r2
  obtain ⟨f1,f2⟩:=mV e2 r1 e3 q
  refine ⟨p,xs,rfl,.inr hs,(cK e2 r1).1,f1,?_⟩
  rw [f2]
  exact bH k
 | _=>cases e1
theorem zu (ha:SE X sf C ea a)(hb:SE X sf C eb b)(hm:behindInMarks .In eb=false:=by rfl):SB X sf C (.Compare ea [.In] [eb] pos) (.op .isin h [a,b]):=cA qc ha hb hm (aS (AM false rfl)) fun u v w e=>by obtain ⟨_,_,_,_,rfl⟩:=qw (neg:=false) rfl e; exact ⟨_,rfl⟩
end
end MR
namespace MR
open PySem PySem.Spec PyProof.Rows L2 L3
section
variable {K:a0a}{sl:Cf}{sf:Nat->Option Nat}{C:M.Call}{σ:L2.St}{Z Z' Z1:Fp}{H H' H1:Hp}{Fs:Fps}{η ηb:M.Env}{vs ls io:List Nat}{pv:Nat->Option V}{D:cz}
noncomputable def Dp (K:a0a)(J:It)(Z:Fp)(H0:Hp)(ts:List (List M.W)):Prop :=
 ∀ H i x H',Stay Z H0 H->i < ts.length->J.yld i H x H'->∃ p y z q u w g,x=.ref p/\(∀ b o,H b=some o->H' b=some o)/\SqT K H' p [y,z,q]/\ts[i]?=some [u,w,g]/\Rep K Z H u.1 u.2 y no/\Rep K Z H w.1 w.2 z no/\Rep K Z H g.1 g.2 q no
noncomputable def wI3 (K:a0a)(sl:Nat->Option Nat)(C:M.Call)(src:List M.E):TI:=fun σ H R=>∃ pv Z Fs η ws η' ts,At K ⟨sl,pv⟩ σ Z H Fs η no/\M.evL C src η=.ok (ws,η')/\M.turns .zip3 ws=some ts /\
 ∀ J Z' H' Fs',At K ⟨sl,pv⟩ σ Z' H' Fs' η' no->Step Z H (tot Fs) Z' H' (tot Fs')->Wk K J Z' H' ts->Dp K J Z' H' ts->R J H'
theorem dj:∀ ts us vs:List M.T,(M.zipT3 ts us vs).length=min ts.length (min us.length vs.length)
 | [],_,_=>by simp [M.zipT3]
 | _::_,[],_=>by simp [M.zipT3]
 | _::_,_::_,[]=>by simp [M.zipT3]
 | t::ts,u::us,v::vs=>by
  show (M.zipT3 ts us vs).length+1=_
  rw [dj]; simp only [a0f]; omega
theorem i0:∀ {ts us vs:List M.T} {i:Nat} {t u v:M.T},ts[i]?=some t->us[i]?=some u->vs[i]?=some v->(M.zipT3 ts us vs)[i]?=some [(.s,t),(.s,u),(.s,v)]
 | t::ts,u::us,v::vs,0,_,_,_,h1,h2,h3=>by cases h1; cases h2; cases h3; rfl
 | t::ts,u::us,v::vs,i+1,_,_,_,h1,h2,h3=>i0 (ts:=ts) (us:=us) (vs:=vs) (i:=i) h1 h2 h3
 | [],_,_,_,_,_,_,h,_,_=>by simp at h
 | _::_,[],_,_,_,_,_,_,h,_=>by simp at h
 | _::_,_::_,[],_,_,_,_,_,_,h=>by simp at h
theorem xt {e e' e'':M.E}(σ:L2.St)(H:Hp)(R:It->Hp->Prop)(h:wI3 K sf C [e,e',e''] σ H R):xG K (wL K sf C [e,e',e'']) σ H R:=by
 obtain ⟨pv,Z,Fs,η,ws,η',ts,A,ev,ht,k⟩:=h
 refine ⟨pv,Z,Fs,η,ws,η',A,ev,fun vs Z' H' Fs' G B r s=>?_⟩
 obtain ⟨⟨m,a⟩,η1,us,e1,e2,rfl⟩:=aB ev
 obtain ⟨⟨n,b⟩,η2,us,e3,e4,rfl⟩:=aB e2
 obtain ⟨⟨o,c⟩,η3,us,e5,e6,rfl⟩:=aB e4
 cases e6
 obtain ⟨x,xr,G1,G1',rfl,g1,g1',_,r1,rr⟩:=r
 obtain ⟨y,yr,G2,G2',rfl,g2,g2',_,r2,rr⟩:=rr
 obtain ⟨z,zr,G3,G3',rfl,g3,g3',_,r3,rr⟩:=rr
 cases rr
 obtain ⟨t1,rfl⟩:∃ t,a=.lst t:=by cases a<;>first | exact ⟨_,rfl⟩ | (cases ht; done) | (cases b<;>first | (cases ht; done) | (cases c<;>cases ht))
 obtain ⟨t2,rfl⟩:∃ t,b=.lst t:=by cases b<;>first | exact ⟨_,rfl⟩ | (cases ht; done) | (cases c<;>cases ht)
 obtain ⟨t3,rfl⟩:∃ t,c=.lst t:=by cases c<;>first | exact ⟨_,rfl⟩ | cases ht
 cases ht
 obtain ⟨a1,xs,rfl,L1,w1,p1⟩:=Rep.sh r1
 obtain ⟨a2,ys,rfl,L2',w2,p2⟩:=Rep.sh r2
 obtain ⟨a3,zs,rfl,L3',w3,p3⟩:=Rep.sh r3
 have z1:∀ c,(Z' c\/G1 c)->(Z' c\/G c):=fun c h=>h.imp id (g1 c)
 have z2:∀ c,(Z' c\/G2 c)->(Z' c\/G c):=fun c h=>h.imp id fun q=>g1' c (g2 c q)
 have z3:∀ c,(Z' c\/G3 c)->(Z' c\/G c):=fun c h=>h.imp id fun q=>g1' c (g2' c (g3 c q))
 have st1:∀ H0,Stay (fun c=>Z' c\/G c) H' H0->SqL K H0 a1 xs:=fun H0 s=>.inl (.inl (s.1 a1 _ (z1 _ w1.1) w1.2))
 have st2:∀ H0,Stay (fun c=>Z' c\/G c) H' H0->SqL K H0 a2 ys:=fun H0 s=>.inl (.inl (s.1 a2 _ (z2 _ w2.1) w2.2))
 have st3:∀ H0,Stay (fun c=>Z' c\/G c) H' H0->SqL K H0 a3 zs:=fun H0 s=>.inl (.inl (s.1 a3 _ (z3 _ w3.1) w3.2))
 have l1:=p1.length
 have l2:=p2.length
 have l3:=p3.length
 refine ⟨a1,a2,a3,rfl,⟨xs,st1 _ (bU _ _)⟩,⟨ys,st2 _ (bU _ _)⟩,⟨zs,st3 _ (bU _ _)⟩,k _ _ H' Fs' B.freeze (aY B.own s) ⟨fun H0 i s hi=>?_,fun H0 i s hi=>?_,by rw [dj]; omega⟩ fun H0 i x H1 s hi y=>?_⟩
 ·rw [dj] at hi
  exact ⟨xs,ys,zs,xs[i]'(by omega),ys[i]'(by omega),zs[i]'(by omega),st1 _ s,st2 _ s,st3 _ s,by simp,by simp,by simp⟩
 ·rw [dj] at hi
  exact ⟨xs,ys,zs,st1 _ s,st2 _ s,st3 _ s,by omega⟩
 ·rw [dj] at hi
  obtain ⟨p,x1,y1,u1,rfl,hp,rfl,hx,hy,hu⟩:=y
  have hi1:i < t1.length:=by omega
  have hi2:i < t2.length:=by omega
  have hi3:i < t3.length:=by omega
  obtain ⟨x',hx',rx⟩:=p1.get (show t1[i]?=some t1[i] by simp)
  obtain ⟨y',hy',ry⟩:=p2.get (show t2[i]?=some t2[i] by simp)
  obtain ⟨u',hu',ru⟩:=p3.get (show t3[i]?=some t3[i] by simp)
  rw [hx xs (st1 _ s)] at hx'; cases hx'
  rw [hy ys (st2 _ s)] at hy'; cases hy'
  rw [hu zs (st3 _ s)] at hu'; cases hu'
  exact ⟨p,x1,y1,u1,(.s,t1[i]),(.s,t2[i]),(.s,t3[i]),rfl,mC hp,.inl (.inl ak),i0 (by simp) (by simp) (by simp),((rx.sany (G':=no)).zmono z1).keep s (fun _ z=>z) fun _ _ z=>z.elim,((ry.sany (G':=no)).zmono z2).keep s (fun _ z=>z) fun _ _ z=>z.elim,((ru.sany (G':=no)).zmono z3).keep s (fun _ z=>z) fun _ _ z=>z.elim⟩
noncomputable def gF3 (K:a0a)(j l o:Nat):TG:=xp K 3 (fP (cT j) (fP (cT l) (fP (cT o) uU)))
theorem pC {i:Nat}{J:It}{ts:List (List M.W)}{ws:List M.W}{t t' t'' j j' j'':Nat}{x:V}{Q:L2.St->Hp->Prop}(N:oA sf io pv)(hio:∀ v∈[t,t',t''],v ∉ io)(hs:sf t=some j)(hs':sf t'=some j')(hs'':sf t''=some j'')(hz:∀ a,Z1 a->Z a)(st:Stay Z1 H1 H)(yl:Dp K J Z1 H1 ts)(A:At K ⟨sf,pv⟩ σ Z H Fs η no)
  (hw:ts[i]?=some ws) (hb:M.bindT [t,t',t''] ws η=some ηb) (y:J.yld i H x H') (k:∀ σ2 H2 Fs2,At K ⟨sf,pv⟩ σ2 Z H2 Fs2 ηb no->Step Z H (tot Fs) Z H2 (tot Fs2)->Q σ2 H2):gF3 K j j' j'' x σ H' Q:=by
 have hi:i < ts.length:=(a0q.mp hw).1
 obtain ⟨p,y1,z1,q1,u,w,g,rfl,sm,hq,hw',r1,r2,r3⟩:=yl H i x H' st hi y
 rw [hw] at hw'; cases hw'
 cases hb
 have s0:Step Z H no Z H' no:=eZ sm
 obtain ⟨A1,s1⟩:=A.op ck s0
 have sn:Stay Z H H':=iu sm
 have r1':Rep K Z H' u.1 u.2 y1 no:=(r1.zmono hz).keep sn (fun _ z=>z) fun _ _ z=>z.elim
 have r2':Rep K Z H' w.1 w.2 z1 no:=(r2.zmono hz).keep sn (fun _ z=>z) fun _ _ z=>z.elim
 have r3':Rep K Z H' g.1 g.2 q1 no:=(r3.zmono hz).keep sn (fun _ z=>z) fun _ _ z=>z.elim
 have A2:=At.set N (hio t (by simp)) hs A1 r1'
 have A3:=At.set N (hio t' (by simp)) hs' A2 r2'
 have A4:=At.set N (hio t'' (by simp)) hs'' A3 r3'
 refine ⟨p,[y1,z1,q1],rfl,hq,rfl,y1,[z1,q1],rfl,z1,[q1],rfl,q1,[],rfl,rfl,k _ _ _ A4 (s1.mono (fun a h=>h.elim id fun z=>z.elim) fun a h=>?_)⟩
 rcases bu h with h | h
 ·rcases bu h with h | h
  ·exact .inl ((bu h).elim id fun z=>z.elim)
  ·exact h.elim
 ·exact h.elim
theorem wj {src:List M.E}{t t' t'' j j' j'':Nat}{body:List M.S}(hio:∀ v∈[t,t',t''],v ∉ io)(hs:sf t=some j)(hs':sf t'=some j')(hs'':sf t''=some j'')(D:cz)(σ:L2.St)(H:Hp)(h:wS K sf io C (.forS vs ls .zip3 src [t,t',t''] body) D σ H) :
  zV (wI3 K sf C src) (gF3 K j j' j'') (wSs K sf io C body) D σ H:=by
 obtain ⟨pv,Z,Fs,η,N,A,f⟩:=h
 obtain ⟨⟨ws,η2⟩,h1,h2⟩:=bj (show Fin K ⟨sf,pv⟩ Z H (tot Fs) D (M.Fl.of η (M.evL C src (M.pick vs ls η)) (M.kFor vs .zip3 [t,t',t''] (M.evSs C body) η)) from f)
 obtain ⟨⟨ts,η3⟩,h3,h4⟩:=bj (show Fin K ⟨sf,pv⟩ Z H (tot Fs) D (M.Fl.of η (M.ret (M.share vs η) (M.turns .zip3 ws)) (M.kFor2 [t,t',t''] (M.evSs C body))) from h2)
 obtain ⟨ts',ht,e3⟩:=aF h3
 have e4:ts=ts':=congrArg a2p e3
 have e5:η3=M.share vs η:=congrArg a1Q e3
 subst e4 e5
 have h4':Fin K ⟨sf,pv⟩ Z H (tot Fs) D (M.forL [t,t',t''] (M.evSs C body) ts (M.share vs η)):=h4
 refine ⟨pv,_,oB,_,ws,η2,ts,A.quiet (vs:=vs) (ls:=ls),h1,ht,fun J Z1 H1 Fs1 B s wk yl=>?_⟩
 obtain ⟨B1,s1⟩:=dM (G:=no) A ck B.gd.zal (s.mono (F2:=fun a=>tot Fs1 a\/no a) (fun _ z=>z) fun a h=>h.elim id fun z=>z.elim) fun a h=>gE h
 obtain ⟨B2,s2⟩:=B1.share (vs:=vs)
 have s3:=(s2 s1).mono (F2:=tot (eI Fs vs)) (fun _ z=>z) fun _ z=>.inl z
 have zz:∀ a,Z1 a->((Z1 a/\¬ cq Fs vs a)\/cq Fs vs a):=fun a h=>(a3q (cq Fs vs a)).elim .inr fun q=>.inl ⟨h,q⟩
 refine ⟨fun i m σ' H'=>m=ts.length-i/\i<=ts.length/\∃ Zi Fsi ηi,At K ⟨sf,pv⟩ σ' Zi H' Fsi ηi no/\Step (fun a=>(Z1 a/\¬ cq Fs vs a)\/cq Fs vs a) H1 (tot (eI Fs vs)) Zi H' (tot Fsi)/\Fin K ⟨sf,pv⟩ Zi H' (tot Fsi) D (M.forL [t,t',t''] (M.evSs C body) (ts.drop i) ηi),⟨ts.length,by simp,a0Y _,_,_,_,B2,Step.refl _ _ _,h4'.step s3⟩,?_⟩
 rintro i m σi H0 ⟨rfl,hi,Zi,Fsi,ηi,Ai,si,fi⟩
 have st:Stay Z1 H1 H0:=by
  have:=B2.gd.own.stay si
  exact ⟨fun a o h=>this.1 a o (zz a h),this.2⟩
 by_cases hlt:i < ts.length
 ·right
  refine ⟨wk.go H0 i st hlt,_,fun σ' H' hw=>⟨ts.length-(i+1),by omega,hw⟩,fun x H' y=>?_⟩
  have hw:ts[i]?=some ts[i]:=by simp [hlt]
  rw [fE hw] at fi
  obtain ⟨ηb,hb,fb⟩:=bj (show Fin K ⟨sf,pv⟩ Zi H0 (tot Fsi) D (M.Fl.of ηi (M.ofO (M.bindT [t,t',t''] ts[i] ηi)) fun η1=>M.Fl.turn (M.evSs C body η1) (M.forL [t,t',t''] (M.evSs C body) (ts.drop (i+1)))) from fi)
  refine pC N hio hs hs' hs'' (fun a h=>si.zm a (zz a h)) st yl Ai hw (cx hb) y fun σ2 H2 Fs2 A2 t2=>?_
  refine ⟨pv,Zi,Fs2,ηb,N,A2,gY (fb.step t2) fun η' σ' Z' H' Fs' _ f' A' s'=>⟨rfl,hlt,Z',Fs',η',A',(si.trans t2).trans s',f'.step s'⟩⟩
 ·left
  have hi':i=ts.length:=by omega
  subst hi'
  rw [a2S] at fi
  exact ⟨wk.stop H0 _ st (a0h _),fi σi Zi H0 Fsi Ai (Step.refl _ _ _)⟩
end
section
variable {X:Cx}{sf sg:Nat->Option Nat}{C:M.Call}{pos p p2 p3:Pos}{ea eb ec:Expr}{a b c:M.E}{io:List Nat}
theorem zo {es:List Expr}{kt:Nat}{pt p:Pos}(hm:X.mg "zip"=none)(hg:Gl X "zip":=by rfl)(ha:SE X sf C ea a)(hb:SE X sf C eb b)(hc':SE X sf C ec c)(hs:starEach [ea,eb,ec] X.env=[(false,eval ea X.env),(false,eval eb X.env),(false,eval ec X.env)]:=by rfl)(hs2:starEach [eb,ec] X.env=[(false,eval eb X.env),(false,eval ec X.env)]:=by rfl)(hs3:starEach [ec] X.env=[(false,eval ec X.env)]:=by rfl) :
  PI X (.Tuple es kt pt) (.Call (.Name "zip" p) [ea,eb,ec] [] pos) (wI3 X.K sf C [a,b,c]) :=
 ji (vj hg hm (slc ha (slc hb (slc hc' sl0 (by rw [hs3]; rfl)) (by rw [hs2,hs3])) (by rw [hs,hs2])) hs hs2) xt
theorem Ct (j l o:Nat){t u v:Nat}{x y z:Str}{px py pz pt:Pos}{kt:Nat}{iter:Expr}{r:List Stmt}{s:List M.S}{vs ls:List Nat}{src:List M.E}(hN:X.N.Nodup)(hi:PI X (.Tuple [.Name x px,.Name y py,.Name z pz] kt pt) iter (wI3 X.K sf C src))(ha:SSs X sf io C r s)(hio:∀ k∈[t,u,v],k ∉ io:=by decide)(h1:sf t=some j:=by rfl)(h2:sf u=some l:=by rfl)(h3:sf v=some o:=by rfl)(hj:X.N[j]?=some x:=by rfl)(hl:X.N[l]?=some y:=by rfl)(ho:X.N[o]?=some z:=by rfl)
  (hx:L2.Loc X.env.scope x:=by first | exact a1r rfl | exact a1h rfl) (hy:L2.Loc X.env.scope y:=by first | exact a1r rfl | exact a1h rfl) (hz:L2.Loc X.env.scope z:=by first | exact a1r rfl | exact a1h rfl)
  (hc:X.calm=true:=by rfl) (hp:PassesOwn (model X.prog X.w) X.A X.env X.xe:=by exact PassesOwn.never) (hf:X.fn x=true\/X.env.scope.names.lookup x=some .local:=by first | exact .inl rfl | exact .inr rfl) (hf':X.fn y=true\/X.env.scope.names.lookup y=some .local:=by first | exact .inl rfl | exact .inr rfl) (hf'':X.fn z=true\/X.env.scope.names.lookup z=some .local:=by first | exact .inl rfl | exact .inr rfl) (hs:∀ x,foldedSetIterable iter X.env x=pure x:=by intro _; rfl) :
  SS X sf io C (.For (.Tuple [.Name x px,.Name y py,.Name z pz] kt pt) iter r [] pos) (.forS vs ls .zip3 src [t,u,v] s) :=
 c7 (gU hp hc hi (l0 (n:=3) hc (cG (bM (i:=j) hN hj hx hf) (cG (bM (i:=l) hN hl hy hf') (cG (bM (i:=o) hN ho hz hf'') j6)))) ha hs) (wj hio h1 h2 h3)
end
end MR
namespace MR
open PySem PySem.Spec PyProof.Rows L2 L3
end MR
namespace MR
open PySem PySem.Spec PyProof.Rows L2 L3
end MR
namespace MR
open PySem PySem.Spec PyProof.Rows L2 L3
section
variable {X:Cx}{sf sg:Nat->Option Nat}{C:M.Call}{pos p p2 p3:Pos}{ea eb ec:Expr}{a b c:M.E}{h:Bool}{io:List Nat}{K:a0a}
theorem Be {neg:Bool}{ks:List Str}{σ:L2.St}{H:Hp}{Q:Bool->Hp->Prop}(hw:wT K sf C (.inT neg ks a) σ H Q):wE K sf C (.inT neg ks a) σ H fun x H'=>∃ k,x=.bl k/\Q k H':=by
 obtain ⟨pv,Z,Fs,η,w,η',b,A,ev,ht,k⟩:=hw
 refine ⟨pv,Z,Fs,η,w,η',A,ev,fun v Z' H' Fs' G B r s=>?_⟩
 obtain ⟨⟨u,η1⟩,h1,h2⟩:=ab (show (M.evE C a η).bind (M.kIn neg ks)=_ from ev)
 obtain ⟨z,e1,e2,e3⟩:=km h2
 rw [show w=_ from e3] at ht r
 cases ht
 exact ⟨_,r,k Z' H' Fs' B.bare (s.mono (fun _ z=>z) fun _ z=>.inl z)⟩
theorem Dt {x:Str}{ks:List Str}(T:vY X.K X.w X.mg x ks)(ha:SE X sf C ea a)(hg:Gl X x:=by rfl)(hd:(x==("__debug__":Str))=false:=by decide)(hb:behindInMarks .In (.Name x p2)=false:=by rfl):SB X sf C (.Compare ea [.In] [.Name x p2] pos) (.inT false ks a):=by
 obtain ⟨ad,T',hm,D,ht⟩:=T
 refine nY (n8 qf ha (rK hg hm hd) hb) fun σ H Q hw=>?_
 obtain ⟨pv,Z,Fs,η,w',η',A,ev,k⟩:=BM D ht σ H _ (Be hw)
 refine ⟨pv,Z,Fs,η,w',η',A,ev,fun v Z' H' Fs' G B r s=>?_⟩
 obtain ⟨z,a,T2,e1,e2,e3,q⟩:=k v Z' H' Fs' G B r s
 rw [a2g] at q
 exact ⟨z,a,T2,e1,e2,e3,q⟩
end
end MR

namespace MR
open PySem PySem.W L2 M
end MR

namespace MR
open PySem PySem.Spec PyProof.Rows L2 L3 M
end MR

namespace L3
open PySem PySem.Spec PyProof.Rows L2
theorem oD {X:Cx}(hc:X.calm=true):cO X (.builtin "min") (fun xs H Q=>∃ (a:Addr) (ns:List Int),xs=[.ref a]/\SqL X.K H a (ns.map V.int)/\ns≠[]/\∀ M,M∈ns->(∀ n∈ns,M<=n)->Q (.int M) H):=by
 intro pins s σ H xs us Q I r h
 obtain ⟨a,ns,rfl,hS,hne,q⟩:=h
 obtain ⟨u,rfl,ru⟩:=fS r
 cases ru
 obtain ⟨its,rv,p,hz⟩:=I.list hS
 have hi:=dq rv
 obtain ⟨xs,hxs⟩:=hi.allInts.items
 have hnum:numsOf its=ns:=hi.numsOf
 have hl:s.heap.IsList a (intItems xs):=by rw [<- hxs]; exact p.isList
 have hnx:numsOf (intItems xs).toList=ns:=by rw [<- hxs]; exact hnum
 rw [nums_intItems] at hnx
 have hlen:xs.size=ns.length:=by rw [<- hnx,a0b,a1j]
 have hsz:0 < xs.size:=by rw [hlen]; exact a2v.mpr hne
 refine min_intList (show X.A.handled=none from I.ok.hd hc) hl hsz fun v h' tk hv hk=>?_
 obtain ⟨t,rfl⟩:=intItems_at hv
 obtain ⟨h1,h2⟩:=argBest_lt (numAt xs) (xs.size-1)
 refine ⟨.int _,H,I.kept hk,⟨t,rfl⟩,q _ ?_ fun n hn=>?_⟩
 ·rw [<- hnx,numAt_eq]; exact getD_mem (by rw [a0b,a1j]; omega)
 ·rw [<- hnx] at hn
  obtain ⟨j,hj,rfl⟩:=mem_getD hn
  rw [a0b,a1j] at hj
  rw [<- numAt_eq]; exact h2 j (by omega)
end L3
namespace MR
open PySem PySem.Spec PyProof.Rows L2 L3
section
variable {X:Cx}{sf sg:Nat->Option Nat}{C:M.Call}{pos p p2 p3:Pos}{ea eb ec:Expr}{a b c:M.E}{h:Bool}{n:Nat}{io:List Nat}{K:a0a}
theorem wZ:∀ {ns:List Int} {m:Int},m∈ns->(∀ n∈ns,m<=n)->M.minI ns=m:=by
 have key:∀ (l:List Int),l≠[]->M.minI l∈l/\∀ x∈l,M.minI l<=x:=by
  intro l
  induction l with
  | nil=>intro z; exact absurd rfl z
  | cons y l ih =>
   intro _
   cases l with
   | nil=>exact ⟨a0w.mpr rfl,fun x hx=>by rw [a0w.mp hx]; exact a3C _⟩
   | cons z l =>
    obtain ⟨a,b⟩:=ih (by simp)
    have e:M.minI (y::z::l)=min y (M.minI (z::l)):=rfl
    rw [e]
    refine ⟨?_,fun x hx=>?_⟩
    ·rcases Int.le_total y (M.minI (z::l)) with h | h
     ·rw [Int.min_eq_left h]; exact a0d
     ·rw [Int.min_eq_right h]; exact a0c _ a
    ·rcases a0l.mp hx with rfl | hx
     ·omega
     ·have:=b x hx; omega
 intro ns m h1 h2
 have hne:ns≠[]:=fun z=>by rw [z] at h1; cases h1
 obtain ⟨a,b⟩:=key ns hne
 have c:=b m h1
 have d:=h2 _ a
 omega
theorem rF:Loc K 1 .min1 h fun xs H Q=>∃ (a:Addr) (ns:List Int),xs=[.ref a]/\SqL K H a (ns.map V.int)/\ns≠[]/\∀ M,M∈ns->(∀ n∈ns,M<=n)->Q (.int M) H:=by
 intro ws w xs Z H G Q hn e r ow za k
 match ws,hn with
 | [(m,a)],_ =>
  obtain ⟨x,rfl,r1⟩:=cy rfl r
  cases a with
  | lst ts =>
   obtain ⟨a,xs,hx,hs,hl,p⟩:=a7 r1
   have e':((M.intsOf ts).bind fun ns=>if ns.isEmpty then none else some ((.d,.int (M.minI ns)):M.W))=some w:=e
   cases e1:M.intsOf ts with
   | none=>rw [e1] at e'; cases e'
   | some ns =>
    rw [e1] at e'
    have e2:(if ns.isEmpty=true then none else some ((.d,.int (M.minI ns)):M.W))=some w:=e'
    split at e2
    ·cases e2
    ·rename_i hne
     cases e2
     rw [kI e1 p] at hs
     refine ⟨a,ns,by rw [hx],.inl (.inl hs),fun z=>hne (by rw [z]; rfl),fun m h1 h2=>?_⟩
     rw [<- wZ h1 h2]; exact a9 k
  | _=>cases e
theorem DB (hc:X.calm=true:=by rfl)(hm:X.mg "min"=none)(hg:Gl X "min":=by rfl)(ha:SE X sf C ea a)(hs:starEach [ea] X.env=(false,eval ea X.env)::starEach [] X.env:=by rfl)(hpl:(backTo pos (starEach [] X.env)).any (·.1)=false:=by rfl):SE X sf C (.Call (.Name "min" p) [ea] [] pos) (.op .min1 h [a]) :=
 aA (br (oD hc) hg hm (by rfl) (slc ha sl0 hs) (by decide) (by decide) hs hpl) (fV rF rfl)
end
end MR

namespace TP
open PySem PySem.W
noncomputable def en (P:Params)(k:Str)(t:Nat)(v:Value):DictEntry:=⟨PyData.keyHash P k,.str k t,v⟩
noncomputable def tu (xs:List Value):Obj:=⟨.type "tuple",none,.seq xs.toArray 0,#[]⟩
noncomputable def fe (xs:List Value):Obj:=⟨.none,none,.fields xs.toArray,#[]⟩
noncomputable def di (es:List DictEntry)(n:Nat):Obj:=⟨.type "dict",none,.dict es.toArray n,#[]⟩
noncomputable abbrev fl:Str:="/claim/cut.py"
noncomputable def iv (i:Int):Value:=.int i 0
noncomputable def cdo (n q:Str)(t t2:Nat)(ln ac:Nat)(f:Nat)(a:Nat)(b:Bool)(x y z:Value):Obj :=
 ⟨.type "code",none,.fields #[.str n t,.str q (t+1),.str fl (t+2),iv ln,iv ac,iv 0,iv 0,iv f,.ref a,.bool b,iv 181,.ref (a+1),.none,x,y,z,iv t2,iv ln,.str fl (t2+1)],#[]⟩
noncomputable def ofn (c:Value)(st:Stmt)(q:Str)(g:Nat)(d m:Value)(cd:Value):Obj:=match st with
 | .FunctionDef n ar b _ _ _ sc _ _ _=>⟨c,none,.func { name:=n,qualname:=q,params:=ar,body:=.stmts b,scope:=sc,globals:=g,closure:=[],defaults:=d,kwdefaults:=.none,pyModule:=m,code:=cd },#[]⟩
 | _=>default
noncomputable def tks:List Str->Nat->List Value
 | [],_=>[]
 | x::r,t=>.str x t::tks r (t+1)
structure R where
 os:List Obj
 ns:List DictEntry
 tb:List Value
 n:Nat
 tk:Nat
 md:Value
inductive Rc where
 | d | m | c
 | x (k:Str) (kt:Nat) (v:Value) (os:Params->List Obj) (tb:List Value) (n tk:Nat)
noncomputable def cv:Expr->Value
 | .Constant (.bool b) _ _=>.bool b
 | _=>.none
noncomputable def dO (P:Params)(n tk:Nat)(md:Value)(st:Stmt):R:=match st with
 | .FunctionDef nm ar b _ _ _ sc _ _ pos =>
  let pr:List Obj×Value×Nat:=match ar.defaults with
   | []=>([],.none,n)
   | ds=>([tu (ds.map cv)],.ref n,n+1)
  let a:=pr.2.2
  match localNames ar sc (.stmts b) with
  | none=>⟨pr.1++[tu [],fe [],ofn .none st nm 0 .none .none .none,cdo nm nm tk (tk+3) pos.line ar.args.length 3 a true .none .none (.ref (a+2)),ofn (.type "function") st nm 3 pr.2.1 md (.ref (a+3))],
    [en P nm (tk+5) (.ref (a+4))],[iv pos.line,iv pos.col,.ref (a+3)],a+5,tk+6,md⟩
  | some l =>
   let k:=l.1.length
   let j:=l.2.length
   ⟨pr.1++[tu [],fe [],tu (tks l.1 (tk+3)),tu (tks l.2 (tk+3+k)),ofn .none st nm 0 .none .none .none,cdo nm nm tk (tk+3+k+j) pos.line ar.args.length 3 a true (.ref (a+2)) (.ref (a+3)) (.ref (a+4)),ofn (.type "function") st nm 3 pr.2.1 md (.ref (a+5))],
    [en P nm (tk+5+k+j) (.ref (a+6))],[iv pos.line,iv pos.col,.ref (a+5)],a+7,tk+6+k+j,md⟩
 | _=>⟨[],[],[],n,tk,md⟩
noncomputable def one (P:Params)(n tk:Nat)(md:Value)(st:Stmt):Rc->R
 | .d=>dO P n tk md st
 | .m=>match st with
  | .Assign _ (.Constant (.str s) _ _) _=>⟨[],[],[],n,tk+2,.str s tk⟩
  | _=>⟨[],[],[],n,tk,md⟩
 | .c=>match st with
  | .Assign (.Name x _::_) (.Constant (.str s) _ _) _=>⟨[],[en P x (tk+1) (.str s tk)],[],n,tk+2,md⟩
  | .Assign (.Name x _::_) (.Constant (.int i) _ _) _=>⟨[],[en P x (tk+1) (.int i tk)],[],n,tk+2,md⟩
  | _=>⟨[],[],[],n,tk,md⟩
 | .x k kt v os tb n' tk'=>⟨os P,[en P k kt v],tb,n',tk',md⟩
noncomputable def go (P:Params):List (Stmt×Rc)->Nat->Nat->Value->List R
 | [],_,_,_=>[]
 | (st,r)::l,n,tk,md=>let x:=one P n tk md st r
  x::go P l x.n x.tk x.md
noncomputable def DF (x:R):List R->R
 | []=>x
 | y::l=>DF y l
noncomputable def ds:Data->List DictEntry
 | .dict es _=>es.toList
 | _=>[]
noncomputable def ep:Data->Nat
 | .dict _ n=>n
 | _=>0
noncomputable def r0:R:=⟨[],[],[],15,187,.str "__main__" 164⟩
noncomputable def rs (P:Params)(l:List (Stmt×Rc)):List R:=go P l 15 187 (.str "__main__" 164)
noncomputable def o3 (P:Params)(l:List R):Obj:=di (en P "__name__" 165 (DF r0 l).md::((ds (boot_o_3 P).data).tail++l.flatMap R.ns)) (ep (boot_o_3 P).data+(l.flatMap R.ns).length)
noncomputable def os (P:Params)(l:List R):List Obj :=
 boot_o_0 P::boot_o_1 P::boot_o_2 P::o3 P l::boot_o_4 P::boot_o_5 P::boot_o_6 P::boot_o_7 P::boot_o_8 P::boot_o_9 P::boot_o_10 P ::
 tu []::fe (l.flatMap R.tb)::cdo "<module>" "<module>" 182 185 1 0 0 11 false .none .none .none ::
 ⟨.type "frame",none,.plain,#[some (.ref 13),some (.ref 3),some (.ref 3),none,some (.str "__main__" 164),none,some (.ref 0)]⟩::l.flatMap R.os
noncomputable def odd {α:Type}:List α->List α×List α
 | []=>([],[])
 | x::l=>(x::(odd l).2,(odd l).1)
noncomputable def bt:Nat->List Obj->BT
 | 0,_=>.nil
 | _+1,[]=>.nil
 | k+1,x::l=>.node x (bt k (odd l).1) (bt k (odd l).2)
noncomputable abbrev p0:Pos:=⟨0,0,0,0⟩
noncomputable abbrev B0:List Frame:=[topFrame p0]
noncomputable abbrev an:Option Value:=some (.ref 6)
noncomputable def ev (p:Program):Env:={ scope:=p.main.scope,locals:=mainNs,globals:=mainNs,cells:=[],code:=.ref 13,frame:=some 14 }
noncomputable def cE (p:Program):Code:=.body (behindTheImports p) (ev p)
noncomputable def sT (p:Program)(rc:List Rc)(P:Params)(m n tk:Nat)(o:OsState):SharedT:=⟨bt 12 (os P (rs P ((p.main.body.zip rc).take m))),n,{},#[],{},tk,o⟩
noncomputable def hp (p:Program)(rc:List Rc)(m n:Nat)(P:Params):Heap:=absHeap (bt 12 (os P (rs P ((p.main.body.zip rc).take m)))) n {}
noncomputable def Cut (p:Program)(rc:List Rc)(i n t:Nat)(ps:Pos)(k N n' t':Nat)(ps':Pos)(w:World):Prop:=∀ o,segRunT treeTable p w 11 an 1 N (sT p rc w.params i n t o) (piecesOf ((p.main.body.drop i).take k) (ev p) (cE p) ps B0)=some (.next,sT p rc w.params (i+k) n' t' o,cE p,ps')
noncomputable def Ch (p:Program)(rc:List Rc)(m n1 t1:Nat)(i n t:Nat)(ps:Pos)(M:Nat):Prop:=∀ w o,topRun treeTable p w 11 an M (sT p rc w.params i n t o).abs (restOf (p.main.body.drop i) (ev p) (cE p) ps B0)=some (sT p rc w.params m n1 t1 o).abs
theorem a8 {p:Program}{rc:List Rc}{m n1 t1 i n t k N n' t' M:Nat}{ps ps':Pos}(c:∀ w,Cut p rc i n t ps k N n' t' ps' w)(h:Ch p rc m n1 t1 (i+k) n' t' ps' M):Ch p rc m n1 t1 i n t ps (N+M):=fun w o=>by
 have x:=piece_app (segRun_of (c w o)) (h w o)
 rw [<- a29,a00] at x
 exact x
theorem Ag {p:Program}{rc:List Rc}{m n1 t1:Nat}{ps:Pos}(hd:p.main.body.drop m=[]):Ch p rc m n1 t1 m n1 t1 ps 2:=fun w o=>by
 rw [hd]
 exact piece_nil rfl
theorem wx (w:World):((boot_heap w.params).isNs mainGlobals&&(a3L []:Array GenState).size==0,(boot_heap w.params).objs.size,(boot_heap w.params).nsMap mainGlobals "__annotations__")=(true,11,an):=by kernel_rfl
theorem vp {p q:Program}{loose:List Str}{Xt:Shared->Bool}{α:Type}{Yf:Shared->α}{Ya:World->α}{N M m n1 t1:Nat}{rc:List Rc}
  (e:opening p=plainProg p.main.scope.names) (hN:Nat.ble 600 N=true) (f:∀ s,fenceModules? p s=some s) (hb:behindTheImports p=p.main.body)
  (size:∀ w:World,((boot_heap w.params).isNs mainGlobals&&(a3L []:Array GenState).size==0,(boot_heap w.params).objs.size,(boot_heap w.params).nsMap mainGlobals "__annotations__")=(true,11,an))
  (pre:∀ (w:World) (o:OsState),topGo treeTable p w 11 an 12 ⟨boot_heap w.params,a3L [],boot_drawn,boot_toks,o⟩ (topStub p)=some ((sT p rc w.params 0 15 187 o).abs,⟨denote treeTable (cE p),cE p,p0,B0⟩))
  (blk:∀ (w:World) (o:OsState),segRun treeTable p w 11 an 1 1 (sT p rc w.params 0 15 187 o).abs (blockOf (behindTheImports p) (ev p) (cE p) p0 B0)=some (.next,(sT p rc w.params 0 15 187 o).abs,cE p,p0))
  (ch:Ch p rc m n1 t1 0 15 187 p0 M) (le:Nat.ble (12+(1+M)) N=true)
  (looks:∀ w:World,(fun o=>((staticsOk (importedModules p.main.body) (boot_heap w.params) (hp p rc m n1 w.params)&&namesBound p (hp p rc m n1 w.params)&&gensDone ⟨hp p rc m n1 w.params,#[],{},t1,o⟩&&laidKept (boot_heap w.params) (hp p rc m n1 w.params)),
    openSeen q loose (importedModules p.main.body) Xt true ⟨hp p rc m n1 w.params,#[],{},t1,o⟩,Yf ⟨hp p rc m n1 w.params,#[],{},t1,o⟩))=fun _=>(true,openGood q loose,Ya w)):LeftO p q loose Xt Yf Ya N :=
 LeftO.of_pieces (H₀:=boot_heap) (H₁:=hp p rc m n1) (gs₁:=#[]) (d₁:={}) (k₁:=t1) (boot_open e hN f) size
  (fun w o=>go_top (pre w o) (piece_block (blk w o) (by have x:=ch w o; rw [a3F,<- hb] at x; exact x))) le looks
noncomputable def cb (st:Stmt)(j:Nat):Stmt:=match st with
 | .ClassDef _ _ _ b _ _ _ _ _ _ _=>b.getD j st
 | _=>st
noncomputable def drec (st:Stmt):PySem.DefRec:=match st with
 | .FunctionDef n a b _ _ _ sc _ _ pos=>⟨n,a,b,sc,pos⟩
 | _=>⟨default,default,[],default,default⟩
theorem gn {α:Type}:∀ (l:List α) (i:Nat),(odd l).1[i]?=l[2 * i]?/\(odd l).2[i]?=l[2 * i+1]?
 | [],i=>by simp [odd]
 | x::l,i=>by
  refine ⟨?_,?_⟩
  ·cases i with
   | zero=>simp [odd]
   | succ j=>rw [show 2 * (j+1)=2 * j+1+1 by omega]; simp only [odd,a0D]; exact (gn l j).2
  ·simp only [odd,a0D]; exact (gn l i).1
theorem nR {α:Type}:∀ (l:List α),(odd l).1.length=(l.length+1) / 2/\(odd l).2.length=l.length / 2
 | []=>by simp [odd]
 | x::l=>by
  have h:=nR l
  simp only [odd,a0f,h.1,h.2]
  exact ⟨by omega,trivial⟩
theorem mX:∀ (k:Nat) (l:List Obj) (a:Nat),l.length < 2 ^ k->(bt k l).get a=l[a]?
 | 0,l,a,h=>by
  have:l=[]:=a2N.mp (by simpa using h)
  subst this; simp [bt,BT.get]
 | k+1,[],a,h=>by simp [bt,BT.get]
 | k+1,x::l,a,h=>by
  have e:2 ^ (k+1)=2 * 2 ^ k:=by rw [Nat.pow_succ]; omega
  have hl:=nR l
  simp only [a0f] at h
  unfold bt
  rw [BT.get_node]
  by_cases h0:a=0
  ·simp [h0]
  ·rw [if_neg h0]
   by_cases h1:a % 2=1
   ·rw [if_pos h1,mX k _ _ (by omega),(gn l (a / 2)).1]
    obtain ⟨b,rfl⟩:∃ b,a=b+1:=⟨a-1,by omega⟩
    rw [a0D]; congr 1; omega
   ·rw [if_neg h1,mX k _ _ (by omega),(gn l (a / 2-1)).2]
    obtain ⟨b,rfl⟩:∃ b,a=b+1:=⟨a-1,by omega⟩
    rw [a0D]; congr 1; omega
noncomputable def lL (p:Program)(rc:List Rc)(m:Nat)(P:Params):List Obj:=os P (rs P ((p.main.body.zip rc).take m))
noncomputable def kK (p:Program)(rc:List Rc)(m:Nat)(as:List Addr)(P:Params):Frag:=as.map fun a=>(a,(lL p rc m P).getD a default)
noncomputable def okO:Option Obj->Bool
 | some ⟨_,_,.freed,_⟩=>false
 | some _=>true
 | none=>false
theorem ot {p:Program}{rc:List Rc}{m:Nat}{P:Params}{a:Addr}{o:Obj}:∀ {as:List Addr},(kK p rc m as P).lookup a=some o->a∈as/\o=(lL p rc m P).getD a default
 | [],h=>by simp [kK] at h
 | b::as,h=>by
  unfold kK at h
  rw [a0n,a1A] at h
  by_cases e:a=b
  ·subst e
   rw [beq_self_eq_true] at h
   exact ⟨a0d ..,(a0G h).symm⟩
  ·rw [beq_false_of_ne e] at h
   have x:=ot (as:=as) h
   exact ⟨a0c _ x.1,x.2⟩
noncomputable def hkk (p:Program)(rc:List Rc)(m n:Nat):Hook where
 α:=Array Obj
 obs s:=s.heap.objs
 val w:=(hp p rc m n w.params).objs
 says w h:=∀ a o,(hp p rc m n w.params).get? a=some o->h.get? a=some o
 of w s e a o x:=by unfold Heap.get? at *; rw [e]; exact x
 keeps w h h' X k a o x:=k _ _ (X a o x)
theorem Et {p:Program}{rc:List Rc}{m n:Nat}{as:List Addr}{w:World}{h:Heap}(hl:Nat.blt (lL p rc m w.params).length 4096=true)(hc:(as.all fun a=>Nat.blt a n&&okO (lL p rc m w.params)[a]?)=true)
  (Y:(hkk p rc m n).says w h):(kK p rc m as w.params).In h:=fun a o e=>by
 obtain ⟨e1,e2⟩:=ot e
 obtain ⟨c1,c2⟩:=a1d.mp (a0L.mp hc a e1)
 refine Y a o ?_
 have c3:a < n:=a23 c1
 have c4:(lL p rc m w.params).length < 2 ^ 12:=a23 hl
 have g:=mX 12 (lL p rc m w.params) a c4
 unfold hp Heap.get?
 rw [absHeap_at,if_pos c3]
 show (match some (((bt 12 (lL p rc m w.params)).get a).getD default) with | some ⟨_,_,.freed,_⟩=>none | o=>o)=some o
 rw [g]
 rw [a0i] at e2
 rw [<- e2]
 cases q:(lL p rc m w.params)[a]? with
 | none=>rw [q] at c2; cases c2
 | some x =>
  rw [q] at c2 e2
  have e3:o=x:=e2
  subst e3
  obtain ⟨_,_,d,_⟩:=o
  cases d<;>first | rfl | cases c2
noncomputable def pmO:Option Obj->Value
 | some ⟨_,_,.func f,_⟩=>f.pyModule
 | _=>.none
noncomputable def dvO:Option Obj->Nat
 | some ⟨_,_,.func f,_⟩=>match f.defaults with | .ref a=>a | _=>0
 | _=>0
noncomputable def rfO:Option (Option Value)->Nat
 | some (some (.ref a))=>a
 | _=>0
noncomputable def tkO:Option (Option Value)->Nat
 | some (some (.int _ t))=>t
 | some (some (.str _ t))=>t
 | _=>0
theorem raw_mk {K:Frag}{x:Str}{st:Stmt}{dV:Value}(h1:nsIn K mainGlobals x=some (some (.ref (rfO (nsIn K mainGlobals x)))))
  (h2:K.lookup (rfO (nsIn K mainGlobals x))=some ⟨.type "function",none,.func (fnOf x x (L2.defArgs st) (L2.defBody st) (L2.defScope st) dV .none .none (pmO (K.lookup (rfO (nsIn K mainGlobals x)))) none (.ref (rfO (nsIn K mainGlobals x)-1)) .none),#[]⟩)
  (h3:codeIn K (.ref (rfO (nsIn K mainGlobals x)-1)) x=true) (h4:keepIn K (.ref (rfO (nsIn K mainGlobals x)))=true):MR.Raw K x st dV:=⟨_,_,_,_,_,_,_,_,_,_,h1,h2,h3,h4⟩
theorem rawd_mk {K:Frag}{x:Str}{st:Stmt}{v:Value}(h1:nsIn K mainGlobals x=some (some (.ref (rfO (nsIn K mainGlobals x)))))
  (h2:K.lookup (rfO (nsIn K mainGlobals x))=some ⟨.type "function",none,.func (fnOf x x (L2.defArgs st) (L2.defBody st) (L2.defScope st) (.ref (dvO (K.lookup (rfO (nsIn K mainGlobals x))))) .none .none (pmO (K.lookup (rfO (nsIn K mainGlobals x)))) none (.ref (rfO (nsIn K mainGlobals x)-1)) .none),#[]⟩)
  (h3:codeIn K (.ref (rfO (nsIn K mainGlobals x)-1)) x=true) (h4:keepIn K (.ref (rfO (nsIn K mainGlobals x)))=true) (h5:K.lookup (dvO (K.lookup (rfO (nsIn K mainGlobals x))))=some (tu [v])):MR.RawD K x st v:=⟨_,_,_,raw_mk h1 h2 h3 h4,h5,rfl⟩
noncomputable def toV:Value->L2.V
 | .bool b=>.bl b
 | .int i _=>.int i
 | .str s _=>.str s
 | .ref a=>.ref a
 | _=>.non
noncomputable def okV:Value->Bool
 | .none=>true
 | .bool _=>true
 | .int _ _=>true
 | .str _ _=>true
 | .ref _=>true
 | _=>false
theorem vz:∀ {v:Value},okV v=true->L2.RelV (toV v) v
 | .none,_=>rfl
 | .bool _,_=>rfl
 | .int _ _,_=>⟨_,rfl⟩
 | .str _ _,_=>⟨_,rfl⟩
 | .ref _,_=>rfl
 | .ellipsis,h=>by cases h
 | .notImplemented,h=>by cases h
 | .float _ _,h=>by cases h
 | .bytes _ _,h=>by cases h
 | .type _,h=>by cases h
 | .builtin _,h=>by cases h
noncomputable def eK (e:DictEntry):Str×Nat×Value:=match e.key with
 | .str k t=>(k,t,e.val)
 | _=>("",0,e.val)
noncomputable def tE:Option Obj->List (Str×Nat×Value)
 | some o=>(ds o.data).map eK
 | none=>[]
noncomputable def tN:Option Obj->Nat
 | some o=>ep o.data
 | none=>0
noncomputable def enL (P:Params)(l:List (Str×Nat×Value)):List DictEntry:=l.map fun e=>en P e.1 e.2.1 e.2.2
noncomputable def tL (l:List (Str×Nat×Value)):List (Str×L2.V):=l.map fun e=>(e.1,toV e.2.2)
theorem kQ {P:Params}:∀ l:List (Str×Nat×Value),KeysLit P (enL P l)
 | []=>trivial
 | e::l=>⟨⟨_,_,rfl,rfl⟩,kQ l⟩
theorem lA {P:Params}:∀ {l:List (Str×Nat×Value)},(l.all fun e=>okV e.2.2)=true->PySem.Paired (fun (p:Str×L2.V) (e:DictEntry)=>(∃ t,e.key=.str p.1 t)/\L2.RelV p.2 e.val) (tL l) (enL P l)
 | [],_=>.nil
 | e::l,h=>by
  rw [a0T,a1d] at h
  exact .cons ⟨⟨_,rfl⟩,vz h.1⟩ (lA h.2)
theorem tab_mk {K:Frag}{w:World}{x:Str}(h1:nsIn K mainGlobals x=some (some (.ref (rfO (nsIn K mainGlobals x)))))
  (h2:K.lookup (rfO (nsIn K mainGlobals x))=some (di (enL w.params (tE (K.lookup (rfO (nsIn K mainGlobals x))))) (tN (K.lookup (rfO (nsIn K mainGlobals x))))))
  (h3:((tE (K.lookup (rfO (nsIn K mainGlobals x)))).all fun e=>okV e.2.2)=true) (h4:(rfO (nsIn K mainGlobals x)==sysModules)=false):MR.TabRaw K w x (tL (tE (K.lookup (rfO (nsIn K mainGlobals x))))) :=
 ⟨_,_,_,h1,h2,kQ _,lA h3,h4⟩
noncomputable def yA (K:Frag)(T:List (Str×L2.V)):List (Str×Str)->Bool
 | []=>true
 | e::r=>(match T.lookup e.1,nsIn K mainGlobals e.2 with
  | some (.ref a),some (some (.ref b))=>Nat.beq a b
  | _,_=>false)&&yA K T r
theorem nam_of {K:Frag}{T:List (Str×L2.V)}:∀ {l:List (Str×Str)},yA K T l=true->MR.NamL K T l
 | [],_=>trivial
 | e::r,h=>by
  unfold yA at h
  rw [a1d] at h
  refine ⟨?_,nam_of h.2⟩
  have h1:=h.1
  split at h1
  ·rename_i a b q1 q2
   have e:=Nat.eq_of_beq_eq_true h1
   subst e
   exact ⟨_,q1,q2⟩
  ·cases h1
noncomputable def iM {α β:Type}(f:α->β->Bool):List α->List β->Bool
 | [],[]=>true
 | a::l,b::r=>f a b&&iM f l r
 | _,_=>false
end TP

namespace A44
open M
open PySem (Str)
noncomputable abbrev q:=Str.ofString
noncomputable def tab_DOINGS_wide:List (Str×Nat):=[(q "flat",89),(q "join",92),(q "cut",94)]
noncomputable def keys_RECKONED:List Str:=[q "not",q "upto",q "sum",q "sums",q "most",q "add",q "sub",q "mul",q "div",q "rest",q "less",q "same",q "both"]
noncomputable def keys_WORDS_wide:List Str:=[q "flat",q "pick",q "join",q "keep",q "cut"]
noncomputable def tab_WORDS_wide:List (Str×Nat):=[(q "flat",80),(q "join",82),(q "cut",84)]
noncomputable def aX:Fn:={ ps:=1,ns:=0,io:=[],body:=[
  .ret [] (.ifx (.op .le false [.mv 0,.cst (.int 200)]) (.cst (.non)) (.cst (.str (q "far"))))] }
noncomputable def bw:Fn:={ ps:=2,ns:=1,io:=[],body:=[
  .ite (.q [1] [0]) (.or (.op .any false [.comp false .seq [.var 1] [2] none (.op .lt false [.var 2,.cst (.int 0)])]) (.op .ne false [.op .sum false [.var 1],.var 0])) [
   .ret [] (.cst (.str (q "unlike")))] [],
  .ret [] (.cst (.non))] }
noncomputable def bQ:Fn:={ ps:=1,ns:=2,io:=[],body:=[
  .ite (.q [0] []) (.op (.isI ["list"]) false [.var 0]) [
   .ret [] (.comp false .seq [.mv 0] [1] none (.call 38 [.var 1]))] [],
  .ite (.q [0] []) (.op (.isI ["tuple"]) false [.var 0]) [
   .ret [] (.op .tuple false [.comp false .seq [.mv 0] [2] none (.call 38 [.var 2])])] [],
  .ret [] (.mv 0)] }
noncomputable def ou:Fn:={ ps:=2,ns:=3,io:=[],body:=[.pas] }
noncomputable def bx:Fn:={ ps:=2,ns:=5,io:=[],body:=[
  .ite (.q [0] []) (.op .eq false [.op .ix false [.var 0,.cst (.int 0)],.cst (.str (q "pair"))]) [
   .ret [0,1] (.tup [.call 6 [.op .ix false [.var 0,.cst (.int 1)],.comp false .seq [.var 1] [4] none (.op .ix false [.var 4,.cst (.int 0)])],.call 6 [.op .ix false [.var 0,.cst (.int 2)],.comp false .seq [.var 1] [5] none (.op .ix false [.var 5,.cst (.int 1)])]])] [],
  .ite (.q [0] []) (.op .eq false [.op .ix false [.var 0,.cst (.int 0)],.cst (.str (q "row"))]) [
   .asg (.q [] []) 2 (.lst false []),
   .forS [1] [] .seq [.var 1] [3] [
    .ext (.q [3] []) 2 (.var 3)],
   .ret [] (.tup [.comp true .seq [.mv 1] [6] none (.op .len false [.var 6]),.call 6 [.op .ix false [.mv 0,.cst (.int 1)],.mv 2]])] [],
  .ret [] (.op .list true [.mv 1])] }
noncomputable def bA:Fn:={ ps:=2,ns:=0,io:=[],body:=[
  .ite (.q [0] []) (.op .eq false [.op .ix false [.var 0,.cst (.int 0)],.cst (.str (q "pair"))]) [
   .ret [] (.call 11 [.op .ix false [.mv 0,.cst (.int 1)],.op .ix false [.mv 1,.cst (.int 0)]])] [],
  .ret [1] (.ifx (.op .eq false [.op .ix false [.mv 0,.cst (.int 0)],.cst (.str (q "row"))]) (.op .len false [.op .ix false [.var 1,.cst (.int 0)]]) (.op .len false [.var 1]))] }
noncomputable def dQ:Fn:={ ps:=2,ns:=0,io:=[],body:=[
  .ret [] (.call 1 [.mv 0,.call 38 [.mv 1]])] }
noncomputable def aL:Fn:={ ps:=3,ns:=3,io:=[],body:=[
  .ite (.q [0] []) (.op .eq false [.op .ix false [.var 0,.cst (.int 0)],.cst (.str (q "pair"))]) [
   .ret [0,1,2] (.tup [.call 13 [.op .ix false [.var 0,.cst (.int 1)],.op .ix false [.var 1,.cst (.int 0)],.var 2],.call 13 [.op .ix false [.var 0,.cst (.int 2)],.op .ix false [.var 1,.cst (.int 1)],.var 2]])] [],
  .ite (.q [0] []) (.op .eq false [.op .ix false [.var 0,.cst (.int 0)],.cst (.str (q "row"))]) [
   .asg (.q [1,2] []) 3 (.comp true .seq [.var 2] [4] none (.op .ix false [.op .ix false [.var 1,.cst (.int 0)],.var 4])),
   .ret [1] (.tup [.mv 3,.call 13 [.op .ix false [.mv 0,.cst (.int 1)],.op .ix false [.var 1,.cst (.int 1)],.call 14 [.op .ix false [.var 1,.cst (.int 0)],.mv 2]]])] [],
  .ret [1] (.comp true .seq [.mv 2] [5] none (.op .ix false [.var 1,.var 5]))] }
noncomputable def cc:Fn:={ ps:=2,ns:=5,io:=[],body:=[
  .asg (.q [] []) 2 (.lst true []),
  .asg (.q [] []) 3 (.cst (.int 0)),
  .forS [0] [] .seq [.var 0] [4] [
   .app (.q [] [3]) 2 (.var 3),
   .asg (.q [] [3,4]) 3 (.op .add false [.var 3,.var 4])],
  .asg (.q [] []) 5 (.lst true []),
  .forS [1] [] .seq [.var 1] [6] [
   .ext (.q [0,2] [6]) 5 (.op .rng false [.op .ix false [.var 2,.var 6],.op .add false [.op .ix false [.var 2,.var 6],.op .ix false [.var 0,.var 6]]])],
  .ret [] (.mv 5)] }
noncomputable def b8:Fn:={ ps:=3,ns:=0,io:=[],body:=[
  .ite (.q [0] []) (.op .eq false [.op .ix false [.var 0,.cst (.int 0)],.cst (.str (q "pair"))]) [
   .ret [0,1,2] (.tup [.call 15 [.op .ix false [.var 0,.cst (.int 1)],.op .ix false [.var 1,.cst (.int 0)],.op .ix false [.var 2,.cst (.int 0)]],.call 15 [.op .ix false [.var 0,.cst (.int 2)],.op .ix false [.var 1,.cst (.int 1)],.op .ix false [.var 2,.cst (.int 1)]]])] [],
  .ite (.q [0] []) (.op .eq false [.op .ix false [.var 0,.cst (.int 0)],.cst (.str (q "row"))]) [
   .ret [1,2] (.tup [.op .add true [.op .ix false [.var 1,.cst (.int 0)],.op .ix false [.var 2,.cst (.int 0)]],.call 15 [.op .ix false [.mv 0,.cst (.int 1)],.op .ix false [.var 1,.cst (.int 1)],.op .ix false [.var 2,.cst (.int 1)]]])] [],
  .ret [] (.op .add true [.mv 1,.mv 2])] }
noncomputable def dY:Fn:={ ps:=4,ns:=4,io:=[],body:=[
  .asg (.q [] []) 4 (.lst true []),
  .asg (.q [] []) 5 (.cst (.int 0)),
  .asg (.q [0,2] []) 6 (.call 11 [.var 0,.var 2]),
  .forS [1] [] .seq [.var 1] [7] [
   .ite (.q [] [7]) (.var 7) [
    .app (.q [] [5]) 4 (.var 5),
    .asg (.q [] [5]) 5 (.op .add false [.var 5,.cst (.int 1)])] [
    .app (.q [] [6]) 4 (.var 6),
    .asg (.q [] [6]) 6 (.op .add false [.var 6,.cst (.int 1)])]],
  .ret [0] (.call 13 [.var 0,.call 15 [.var 0,.mv 2,.mv 3],.mv 4])] }
noncomputable def aQ:Fn:={ ps:=3,ns:=1,io:=[],body:=[
  .ite (.q [0] []) (.op .eq false [.op .ix false [.var 0,.cst (.int 0)],.cst (.str (q "pair"))]) [
   .ret [0,1] (.tup [.call 19 [.op .ix false [.var 0,.cst (.int 1)],.op .ix false [.var 1,.cst (.int 0)],.var 2],.call 19 [.op .ix false [.var 0,.cst (.int 2)],.op .ix false [.var 1,.cst (.int 1)],.var 2]])] [],
  .ite (.q [0] []) (.op .eq false [.op .ix false [.var 0,.cst (.int 0)],.cst (.str (q "row"))]) [
   .asg (.q [1] [2]) 3 (.op .sl2 true [.op .ix false [.var 1,.cst (.int 0)],.var 2]),
   .ret [] (.tupA [.io 3,.qx [0,1,3] [] (.call 19 [.op .ix false [.var 0,.cst (.int 1)],.op .ix false [.var 1,.cst (.int 1)],.op .sum false [.var 3]])])] [],
  .ret [] (.op .sl2 true [.mv 1,.mv 2])] }
noncomputable def bz:Fn:={ ps:=4,ns:=4,io:=[],body:=[
  .ite (.q [0] []) (.inT false keys_RECKONED (.op .ix false [.var 0,.cst (.int 0)])) [
   .ret [] (.call 134 [.mv 0,.mv 1,.mv 2,.mv 3])] [],
  .asg (.q [0,2] [3]) 4 (.call 79 [.op .ix false [.var 0,.cst (.int 0)],.var 2,.var 3]),
  .asg (.q [1,2,4] []) 5 (.comp true .zip [.var 1,.var 2] [6,7] none (.call 19 [.var 6,.var 7,.op .ix false [.var 4,.cst (.int 0)]])),
  .ret [4] (.tup [.call 85 [.mv 0,.mv 1,.mv 5,.op .ix false [.var 4,.cst (.int 0)]],.op .ix false [.var 4,.cst (.int 0)],.op .ix false [.var 4,.cst (.int 1)]])] }
noncomputable def bo:Fn:={ ps:=3,ns:=2,io:=[],body:=[
  .ite (.q [0] []) (.inT false keys_WORDS_wide (.var 0)) [
   .forS [0,1] [] .enm [.callT tab_WORDS_wide (.var 0) [.var 1]] [3,4] [
    .ite (.q [4] []) (.op .isnot false [.var 4,.cst (.non)]) [
     .ret [] (.tup [.mv 3,.mv 4])] []]] [],
  .ret [] (.tup [.mv 2,.cst (.non)])] }
noncomputable def bC:Fn:={ ps:=1,ns:=1,io:=[],body:=[
  .ret [0] (.comp false .seq [.call 76 [.op .ix false [.op .ix false [.var 0,.cst (.int 0)],.cst (.int 0)],.op .ix false [.op .ix false [.op .ix false [.var 0,.cst (.int 0)],.cst (.int 1)],.cst (.int 0)]]] [1] none (.call 34 [.op .sum false [.var 1]]))] }
noncomputable def bO:Fn:={ ps:=1,ns:=2,io:=[],body:=[
  .ret [0] (.comp false .zip [.op .ix false [.op .ix false [.var 0,.cst (.int 0)],.cst (.int 0)],.op .ix false [.op .ix false [.var 0,.cst (.int 1)],.cst (.int 0)]] [1,2] none (.call 34 [.op .add false [.var 1,.var 2]]))] }
noncomputable def cf:Fn:={ ps:=1,ns:=2,io:=[],body:=[
  .ret [0] (.comp false .zip [.op .ix false [.op .ix false [.var 0,.cst (.int 0)],.cst (.int 0)],.call 76 [.op .ix false [.op .ix false [.var 0,.cst (.int 1)],.cst (.int 0)],.op .ix false [.op .ix false [.var 0,.cst (.int 1)],.cst (.int 1)]]] [1,2] none (.call 36 [.var 1,.var 2]))] }
noncomputable def b7:Fn:={ ps:=4,ns:=0,io:=[],body:=[
  .ite (.q [0] []) (.op .eq false [.op .ix false [.var 0,.cst (.int 0)],.cst (.str (q "num"))]) [
   .ret [] (.op .mul true [.lst false [.op .ix false [.mv 0,.cst (.int 1)]],.mv 3])] [],
  .ite (.q [0] []) (.op .isin false [.op .ix false [.var 0,.cst (.int 0)],.tup [.cst (.str (q "yes")),.cst (.str (q "no"))]]) [
   .ret [] (.op .mul true [.lst false [.op .eq false [.op .ix false [.mv 0,.cst (.int 0)],.cst (.str (q "yes"))]],.mv 3])] [],
  .ite (.q [0] []) (.op .eq false [.op .ix false [.var 0,.cst (.int 0)],.cst (.str (q "none"))]) [
   .ret [] (.tup [.op .mul true [.lst false [.cst (.int 0)],.mv 3],.call 6 [.op .ix false [.mv 0,.cst (.int 1)],.lst false []]])] [],
  .ret [] (.callT tab_DOINGS_wide (.op .ix false [.mv 0,.cst (.int 0)]) [.mv 1,.mv 2])] }
noncomputable def cg:Fn:={ ps:=2,ns:=2,io:=[],body:=[
  .asg (.l []) 2 (.mvP 1 [0,1]),
  .ret [] (.tup [.qx [1,2] [] (.comp true .seq [.call 76 [.op .ix false [.op .ix false [.var 1,.cst (.int 0)],.cst (.int 0)],.op .ix false [.var 2,.cst (.int 0)]]] [3] none (.op .sum false [.var 3])),.mvP 2 [1]])] }
noncomputable def b5:Fn:={ ps:=2,ns:=6,io:=[],body:=[
  .asg (.q [] []) 2 (.lst false []),
  .forS [1] [] .zip [.op .ix false [.op .ix false [.var 1,.cst (.int 0)],.cst (.int 0)],.op .ix false [.op .ix false [.var 1,.cst (.int 1)],.cst (.int 0)]] [3,4] [
   .ext (.q [3,4] []) 2 (.op .add false [.op .mul false [.lst false [.cst (.bl true)],.var 3],.op .mul false [.lst false [.cst (.bl false)],.var 4]])],
  .asg (.q [1] []) 5 (.comp true .zip [.op .ix false [.op .ix false [.var 1,.cst (.int 0)],.cst (.int 0)],.op .ix false [.op .ix false [.var 1,.cst (.int 1)],.cst (.int 0)]] [6,7] none (.op .add false [.var 6,.var 7])),
  .ret [1] (.tup [.mv 5,.call 17 [.op .ix false [.op .ix false [.mv 0,.cst (.int 0)],.cst (.int 1)],.mv 2,.op .ix false [.op .ix false [.var 1,.cst (.int 0)],.cst (.int 1)],.op .ix false [.op .ix false [.var 1,.cst (.int 1)],.cst (.int 1)]]])] }
noncomputable def cQ:Fn:={ ps:=2,ns:=0,io:=[],body:=[
  .ret [] (.tup [.mvP 1 [1,0],.tup [.mvP 1 [1,1],.mvP 1 [0,1]]])] }
noncomputable def bc:Fn:={ ps:=2,ns:=4,io:=[0],body:=[
  .ite (.q [0] []) (.op .gt false [.op .ix false [.var 0,.cst (.int 3)],.cst (.int 0)]) [
   .setI (.q [0] []) 0 (.cst (.int 3)) (.op .sub false [.op .ix false [.var 0,.cst (.int 3)],.cst (.int 1)]),
   .asg (.q [0] []) 2 (.op .ix false [.var 0,.cst (.int 2)]),
   .setI (.q [] [1,2]) 0 (.cst (.int 2)) (.op .fdiv false [.var 2,.var 1]),
   .ret [] (.op .mod false [.mv 2,.mv 1])] [],
  .asg (.q [0] []) 3 (.op .ix false [.var 0,.cst (.int 1)]),
  .setI (.q [] [3]) 0 (.cst (.int 1)) (.op .add false [.var 3,.cst (.int 1)]),
  .asg (.q [] []) 4 (.cst (.int 0)),
  .ite (.q [0] []) (.op .gt false [.op .len false [.op .ix false [.var 0,.cst (.int 0)]],.cst (.int 0)]) [
   .asg (.q [0] [3]) 4 (.op .ix false [.op .ix false [.var 0,.cst (.int 0)],.op .mod false [.var 3,.op .len false [.op .ix false [.var 0,.cst (.int 0)]]]])] [],
  .ite (.q [0] [3,4]) (.and (.op .lt false [.var 3,.op .len false [.op .ix false [.var 0,.cst (.int 0)]]]) (.op .ge false [.var 4,.op .pow false [.cst (.int 10),.cst (.int 18)]])) [
   .setI (.q [] [4]) 0 (.cst (.int 2)) (.op .sub false [.var 4,.op .pow false [.cst (.int 10),.cst (.int 18)]]),
   .setI (.q [] []) 0 (.cst (.int 3)) (.cst (.int 40)),
   .ret [] (.call 20 [.io 0,.mv 1])] [],
  .asg (.q [] [3,4]) 5 (.op .mul false [.op .add false [.op .mod false [.var 4,.cst (.int 999983)],.cst (.int 3)],.op .add false [.op .add false [.op .mod false [.op .mul false [.var 3,.var 3],.cst (.int 10007)],.op .mul false [.cst (.int 61),.var 3]],.cst (.int 7)]]),
  .asg (.q [] [5]) 5 (.op .mod false [.op .mul false [.op .mod false [.var 5,.cst (.int 1000003)],.op .mod false [.var 5,.cst (.int 1000003)]],.cst (.int 999979)]),
  .ret [] (.op .mod false [.op .mod false [.op .add false [.op .fdiv false [.mv 5,.cst (.int 3)],.op .mul false [.cst (.int 131),.mv 3]],.cst (.int 99991)],.mv 1])] }
noncomputable def bJ:Fn:={ ps:=1,ns:=3,io:=[0],body:=[
  .asg (.l []) 1 (.call 20 [.io 0,.cst (.int 6)]),
  .ite (.q [] [1]) (.op .lt false [.var 1,.cst (.int 4)]) [
   .ret [] (.op .sub false [.call 20 [.io 0,.cst (.int 19)],.cst (.int 9)])] [],
  .ite (.q [] [1]) (.op .eq false [.var 1,.cst (.int 4)]) [
   .asg (.q [] []) 2 (.op .pow false [.cst (.int 10),.cst (.int 18)]),
   .ret [] (.op .ix false [.lst false [.var 2,.op .sub false [.cst (.int 0),.var 2],.op .sub false [.var 2,.cst (.int 1)],.op .sub false [.cst (.int 1),.var 2],.cst (.int 0)],.call 20 [.io 0,.cst (.int 5)]])] [],
  .asg (.l []) 3 (.op .mul false [.call 20 [.io 0,.op .pow false [.cst (.int 10),.cst (.int 6)]],.op .pow false [.cst (.int 10),.cst (.int 12)]]),
  .asg (.l []) 3 (.op .add false [.var 3,.op .mul false [.call 20 [.io 0,.op .pow false [.cst (.int 10),.cst (.int 6)]],.op .pow false [.cst (.int 10),.cst (.int 6)]]]),
  .asg (.l []) 3 (.op .add false [.var 3,.call 20 [.io 0,.op .pow false [.cst (.int 10),.cst (.int 6)]]]),
  .ret [] (.op .mul false [.mv 3,.op .sub false [.cst (.int 1),.op .mul false [.cst (.int 2),.call 20 [.io 0,.cst (.int 2)]]]])] }
noncomputable def cI:Fn:={ ps:=2,ns:=2,io:=[0],body:=[
  .asg (.l []) 2 (.call 20 [.io 0,.cst (.int 6)]),
  .ite (.q [] [1,2]) (.or (.op .eq false [.var 1,.cst (.int 1)]) (.op .lt false [.var 2,.cst (.int 2)])) [
   .ret [] (.op .ix false [.lst false [.tup [.cst (.str (q "num"))],.tup [.cst (.str (q "truth"))]],.op .mod false [.mv 2,.cst (.int 2)]])] [],
  .ite (.q [] [2]) (.op .lt false [.var 2,.cst (.int 4)]) [
   .asg (.l []) 3 (.call 22 [.io 0,.op .sub false [.var 1,.cst (.int 1)]]),
   .ret [] (.tup [.cst (.str (q "pair")),.mv 3,.call 22 [.io 0,.op .sub false [.mv 1,.cst (.int 1)]]])] [],
  .ret [] (.tup [.cst (.str (q "row")),.call 22 [.io 0,.op .sub false [.mv 1,.cst (.int 1)]]])] }
noncomputable def aD:Fn:={ ps:=3,ns:=3,io:=[0],body:=[
  .ite (.q [1] []) (.op .eq false [.op .ix false [.var 1,.cst (.int 0)],.cst (.str (q "num"))]) [
   .ret [] (.call 21 [.io 0])] [],
  .ite (.q [1] []) (.op .eq false [.op .ix false [.var 1,.cst (.int 0)],.cst (.str (q "truth"))]) [
   .ret [] (.op .eq false [.call 20 [.io 0,.cst (.int 2)],.cst (.int 1)])] [],
  .ite (.q [1] []) (.op .eq false [.op .ix false [.var 1,.cst (.int 0)],.cst (.str (q "pair"))]) [
   .asg (.l [1]) 3 (.call 23 [.io 0,.op .ix false [.var 1,.cst (.int 1)],.var 2]),
   .ret [] (.tup [.mv 3,.call 23 [.io 0,.op .ix false [.mv 1,.cst (.int 2)],.mv 2]])] [],
  .asg (.l []) 4 (.call 20 [.io 0,.cst (.int 4)]),
  .ite (.l [1]) (.and (.var 2) (.and (.op .eq false [.op .len false [.op .ix false [.var 1,.cst (.int 1)]],.cst (.int 1)]) (.op .eq false [.call 20 [.io 0,.cst (.int 32)],.cst (.int 31)]))) [
   .asg (.l []) 4 (.op .add false [.cst (.int 196),.call 20 [.io 0,.cst (.int 5)]])] [],
  .ret [1] (.comp true .rng [.mv 4] [5] none (.call 23 [.io 0,.op .ix false [.var 1,.cst (.int 1)],.cst (.bl false)]))] }
noncomputable def aw:Fn:={ ps:=2,ns:=2,io:=[],body:=[
  .ite (.q [0] []) (.op (.isI ["list","tuple"]) false [.var 0]) [
   .ite (.q [0,1] []) (.op .ne false [.op (.isI ["list"]) false [.var 0],.op (.isI ["list"]) false [.var 1]]) [
    .ret [] (.cst (.bl false))] [],
   .ite (.q [0,1] []) (.op .ne false [.op (.isI ["tuple"]) false [.var 0],.op (.isI ["tuple"]) false [.var 1]]) [
    .ret [] (.cst (.bl false))] [],
   .ite (.q [0,1] []) (.op .ne false [.op .len false [.var 0],.op .len false [.var 1]]) [
    .ret [] (.cst (.bl false))] [],
   .ret [] (.op .all false [.comp false .zip [.mv 0,.mv 1] [2,3] none (.call 24 [.var 2,.var 3])])] [],
  .ite (.q [0,1] []) (.op .ne false [.op (.isI ["bool"]) false [.var 0],.op (.isI ["bool"]) false [.var 1]]) [
   .ret [] (.cst (.bl false))] [],
  .ret [] (.op .eq false [.mv 0,.mv 1])] }
noncomputable def lu:Fn:={ ps:=1,ns:=1,io:=[],body:=[.pas] }
noncomputable def bT:Fn:={ ps:=6,ns:=10,io:=[],body:=[
  .asg (.q [2] []) 6 (.op .len false [.op .ix false [.var 2,.cst (.int 0)]]),
  .asg (.q [1,2] []) 7 (.comp false .zip [.var 1,.var 2] [14,15] none (.call 6 [.var 14,.var 15])),
  .asg (.q [1] []) 8 (.op .list false [.var 1]),
  .asg (.q [0,7,8] [6]) 9 (.call 133 [.var 0,.var 8,.var 7,.var 6]),
  .ite (.q [9] []) (.or (.not (.op (.isI ["tuple"]) false [.var 9])) (.op .ne false [.op .len false [.var 9],.cst (.int 3)])) [
   .ret [] (.cst (.bl false))] [],
  .ite (.q [3,4,9] []) (.not (.call 24 [.call 6 [.var 3,.var 4],.op .ix false [.var 9,.cst (.int 0)]])) [
   .ret [] (.cst (.bl false))] [],
  .ite (.q [1,4,8,9] []) (.or (.not (.call 24 [.op .len false [.var 4],.op .ix false [.var 9,.cst (.int 1)]])) (.op .ne false [.var 8,.var 1])) [
   .ret [] (.cst (.bl false))] [],
  .ite (.q [5,9] []) (.or (.and (.op .is false [.var 5,.cst (.non)]) (.op .isnot false [.op .ix false [.var 9,.cst (.int 2)],.cst (.non)])) (.op .ne false [.op .ix false [.var 9,.cst (.int 2)],.var 5])) [
   .ret [] (.cst (.bl false))] [],
  .exp (.l []) (.call 95 [.mvP 9 [0]]),
  .forS [1,2,7] [] .zip3 [.var 1,.var 2,.var 7] [10,11,12] [
   .ite (.q [10,11,12] []) (.not (.call 24 [.call 6 [.var 10,.var 11],.var 12])) [
    .ret [] (.cst (.bl false))] []],
  .asg (.q [0,7,8] [6]) 13 (.call 133 [.var 0,.var 8,.var 7,.var 6]),
  .ret [4] (.call 24 [.tup [.call 6 [.mv 3,.var 4],.op .len false [.var 4],.mv 5],.mv 13])] }
noncomputable def cM:Fn:={ ps:=2,ns:=1,io:=[0],body:=[
  .ret [1] (.comp false .rng [.call 20 [.io 0,.cst (.int 5)]] [2] none (.call 23 [.io 0,.var 1,.cst (.bl true)]))] }
noncomputable def bV:Fn:={ ps:=2,ns:=3,io:=[0],body:=[
  .ite (.l [1]) (.and (.op .eq false [.op .len false [.var 1],.cst (.int 1)]) (.op .eq false [.call 20 [.io 0,.cst (.int 12)],.cst (.int 11)])) [
   .asg (.l []) 2 (.op .add false [.cst (.int 100),.call 20 [.io 0,.cst (.int 99)]]),
   .asg (.l [1]) 3 (.call 23 [.io 0,.var 1,.cst (.bl true)]),
   .ret [3] (.tup [.op .mul false [.lst false [.var 3],.var 2],.op .mul false [.lst false [.var 3],.op .sub false [.op .add false [.cst (.int 199),.call 20 [.io 0,.cst (.int 4)]],.var 2]]])] [],
  .asg (.l [1]) 4 (.call 146 [.io 0,.var 1]),
  .ret [] (.tup [.mv 4,.call 146 [.io 0,.mv 1]])] }
noncomputable def bN:Fn:={ ps:=2,ns:=11,io:=[],body:=[
  .asg (.q [] []) 2 (.lst false []),
  .asg (.q [] []) 3 (.cst (.non)),
  .forS [1] [] .sq2 [.var 1] [4,5] [
   .ite (.q [4,5] []) (.op .gt false [.op .add false [.op .len false [.var 4],.op .len false [.var 5]],.cst (.int 200)]) [
    .asg (.q [] []) 3 (.cst (.str (q "far")))] [],
   .ite (.q [] [3]) (.op .is false [.var 3,.cst (.non)]) [
    .app (.q [4,5] []) 2 (.op .add false [.var 4,.var 5])] []],
  .asg (.q [0] []) 6 (.tup [.cst (.str (q "row")),.var 0]),
  .asg (.q [1] []) 7 (.comp false .sq2 [.var 1] [9,10] none (.var 9)),
  .asg (.q [1] []) 8 (.comp false .sq2 [.var 1] [11,12] none (.var 12)),
  .ret [6] (.call 135 [.tup [.cst (.str (q "join")),.cst (.non),.cst (.non)],.lst false [.var 6,.var 6],.lst false [.mv 7,.mv 8],.var 6,.mv 2,.mv 3])] }
noncomputable def a0:Fn:={ ps:=2,ns:=5,io:=[],body:=[
  .asg (.q [] []) 2 (.lst false []),
  .asg (.q [] []) 3 (.cst (.non)),
  .forS [1] [] .seq [.var 1] [4] [
   .asg (.q [] []) 5 (.lst false []),
   .forS [4] [] .seq [.var 4] [6] [
    .asg (.q [5,6] []) 5 (.op .add false [.var 5,.var 6])],
   .ite (.q [5] []) (.op .gt false [.op .len false [.var 5],.cst (.int 200)]) [
    .asg (.q [] []) 3 (.cst (.str (q "far")))] [],
   .ite (.q [] [3]) (.op .is false [.var 3,.cst (.non)]) [
    .app (.q [5] []) 2 (.var 5)] []],
  .asg (.q [0] []) 6 (.tup [.cst (.str (q "row")),.var 0]),
  .ret [6] (.call 135 [.tup [.cst (.str (q "flat")),.cst (.non)],.lst false [.tup [.cst (.str (q "row")),.var 6]],.lst false [.mv 1],.var 6,.mv 2,.mv 3])] }
noncomputable def aK:Fn:={ ps:=2,ns:=4,io:=[0],body:=[
  .asg (.q [] []) 2 (.lst false []),
  .asg (.q [] [1]) 3 (.var 1),
  .whl (.q [] [3]) (.op .gt false [.var 3,.cst (.int 0)]) [
   .asg (.l []) 4 (.call 20 [.io 0,.op .add false [.op .min false [.var 3,.cst (.int 5)],.cst (.int 1)]]),
   .ite (.q [2] []) (.op .gt false [.op .len false [.var 2],.cst (.int 8)]) [
    .asg (.q [] [3]) 4 (.var 3)] [],
   .app (.q [] [4]) 2 (.var 4),
   .asg (.q [] [3,4]) 3 (.op .sub false [.var 3,.var 4])],
  .asg (.l []) 5 (.call 20 [.io 0,.cst (.int 12)]),
  .ite (.q [] [5]) (.op .eq false [.var 5,.cst (.int 11)]) [
   .ret [] (.op .add false [.mv 2,.lst false [.op .add false [.cst (.int 1),.call 20 [.io 0,.cst (.int 3)]]]])] [],
  .ite (.q [] [5]) (.op .eq false [.var 5,.cst (.int 10)]) [
   .ret [] (.op .add false [.mv 2,.lst false [.cst (.int 2),.op .sub false [.cst (.int 0),.cst (.int 2)]]])] [],
  .ite (.q [] [5]) (.op .eq false [.var 5,.cst (.int 9)]) [
   .ret [] (.op .add false [.mv 2,.lst false [.cst (.int 0)]])] [],
  .ret [] (.mv 2)] }
noncomputable def bK:Fn:={ ps:=2,ns:=3,io:=[],body:=[
  .asg (.q [] []) 2 (.lst false []),
  .asg (.q [0] []) 3 (.op .list false [.var 0]),
  .forS [1] [] .seq [.var 1] [4] [
   .app (.q [3] [4]) 2 (.op .sl2 false [.var 3,.var 4]),
   .asg (.q [3] [4]) 3 (.op .sl1 false [.var 3,.var 4])],
  .ret [] (.mv 2)] }
noncomputable def de:Fn:={ ps:=3,ns:=6,io:=[],body:=[
  .asg (.q [] []) 3 (.lst false []),
  .asg (.q [] []) 4 (.cst (.non)),
  .forS [1,2] [] .zip [.var 1,.var 2] [5,6] [
   .asg (.q [6] []) 7 (.op .min1 false [.op .add false [.var 6,.lst false [.cst (.int 0)]]]),
   .ite (.q [5,6] [7]) (.or (.op .lt false [.var 7,.cst (.int 0)]) (.op .ne false [.op .sum false [.var 6],.op .len false [.var 5]])) [
    .asg (.q [] []) 4 (.cst (.str (q "unlike")))] [],
   .ite (.q [] [4]) (.op .is false [.var 4,.cst (.non)]) [
    .app (.q [5,6] []) 3 (.call 158 [.var 5,.var 6])] []],
  .asg (.q [0] []) 8 (.tup [.cst (.str (q "row")),.var 0]),
  .ret [8] (.call 135 [.tup [.cst (.str (q "cut")),.cst (.non),.cst (.non)],.lst false [.var 8,.tup [.cst (.str (q "row")),.tup [.cst (.str (q "num"))]]],.lst false [.mv 1,.mv 2],.tup [.cst (.str (q "row")),.var 8],.mv 3,.mv 4])] }
noncomputable def f_law:Fn:={ ps:=1,ns:=14,io:=[],body:=[
  .asg (.q [0] []) 1 (.lst true [.op .list true [.op .sl2 true [.var 0,.cst (.int 63)]],.cst (.int 0),.cst (.int 0),.cst (.int 0)]),
  .asg (.l []) 2 (.call 22 [.io 1,.op .add false [.cst (.int 1),.call 20 [.io 1,.cst (.int 3)]]]),
  .asg (.l []) 3 (.call 20 [.io 1,.cst (.int 6)]),
  .asg (.l [2]) 4 (.comp false .rng [.var 3] [8] none (.call 147 [.io 1,.var 2])),
  .ite (.q [2,4] []) (.not (.call 148 [.var 2,.var 4])) [
   .ret [] (.cst (.bl false))] [],
  .asg (.l [4]) 5 (.comp false .sq2 [.var 4] [9,10] none (.op .sl2 false [.lst false [.var 9,.var 10],.op .add false [.cst (.int 1),.call 20 [.io 1,.cst (.int 2)]]])),
  .asg (.l [5]) 5 (.comp false .seq [.var 5] [11] none (.op .mul false [.var 11,.call 20 [.io 1,.cst (.int 3)]])),
  .ite (.q [2,5] []) (.not (.call 149 [.var 2,.var 5])) [
   .ret [] (.cst (.bl false))] [],
  .asg (.q [4] []) 6 (.comp false .sq2 [.var 4] [12,13] none (.var 12)),
  .asg (.l [6]) 7 (.comp false .seq [.var 6] [14] none (.call 150 [.io 1,.op .len false [.var 14]])),
  .ret [] (.call 159 [.mv 2,.mv 6,.mv 7])] }
noncomputable def prog:List Fn:=[f_law,ou,zf,zf,zf,zf,bx,zf,zf,zf,zf,bA,zf,aL,cc,b8,zf,dY,zf,aQ,bc,bJ,cI,aD,aw,zf,zf,zf,zf,zf,zf,zf,zf,zf,aX,zf,bw,zf,bQ,zf,zf,zf,zf,zf,zf,zf,zf,zf,zf,zf,zf,zf,zf,zf,zf,zf,zf,zf,zf,zf,zf,zf,zf,zf,zf,zf,zf,zf,zf,zf,zf,zf,zf,zf,zf,zf,dQ,zf,zf,bo,bC,zf,bO,zf,cf,b7,zf,zf,zf,cg,zf,zf,b5,zf,cQ,lu,zf,zf,zf,zf,zf,zf,zf,zf,zf,zf,zf,zf,zf,zf,zf,zf,zf,zf,zf,zf,zf,zf,zf,zf,zf,zf,zf,zf,zf,zf,zf,zf,zf,zf,zf,zf,zf,bz,zf,bT,zf,zf,zf,zf,zf,zf,zf,zf,zf,zf,cM,bV,bN,a0,aK,zf,zf,zf,zf,zf,zf,zf,bK,de]
end A44

set_option compiler.extract_closed false
namespace P44
noncomputable section
open M A44
open PySem (Str)
local macro_rules
 | `(tactic| simp_all only [$ls,*])=>`(tactic| simp only [AQ,zh,zO,Au,AA,BF,AN,vU,wR,wc,uz,u7,uT,u6,v5,uS,xj,xw,uL,vX,vT,uB,uJ,u9,wY,uR,vP,wX,wt,vm,vo,rC,sR,uW,uQ,uE,wo,kTup,uu,kOp,rY,kOr,rZ,kC3,kC2,kC1,kBack,kCall,jc,bq,kA,fg,kCons,bg,kX,kT,kT2,kIf,vE,so,qm,qZ,va,mw,kNx,kRt,kFor2,kFor,qT,okW,nO,qQ,meets,ax,aj,ios,putAll,zF,EF,yp,yq,Bs,vw,uZ,we,Ba,BE,zK,yR,AX,yL,Al,DH,DC,Cd,Dz,Dg,DZ,xa,vA,uG,uH,C8,zt,rX,qX,qj,qt,zN,xu,xc,rL,sx,CV,DG,DY,CN,ue,qv,sG,Ay,BC,zM,AK,Bv,Ar,qz,BL,vI,vH,uC,zP,sv,rD,sA,Dq,rE,qe,yf,yV,Bx,zX,AH,Bt,AV,Eu,Ez,ES,Ep,DK,BS,zC,zj,AZ,Cs,C1,yX,B6,vM,zv,BQ,u0,vi,DA,Cn,Bq,yS,Bd,zE,tP,tJ,uh,DI,rm,rJ,w6,vf,wV,wu,yz,zU,yy,rR,eP,oS,pf,pF,Bl,yJ,AJ,yM,Aj,zp,Bj,zI,DP,ug,t9,Bi,Aw,at0,at1,at2,at3,at4,a02,a0u,a0y,a0n,a1p,a0V,List.replicate_zero,reduceIte,if_true,if_false,String.reduceBEq,a1K,a1x,Bool.false_eq_true,Bool.and_self,a1L,Bool.and_true,vg,kIo,Bk,zQ,qb,qu,pY,pJ,pK,rQ,oJ,um,oV,oT,mf,mQ,yE,mM,qF,ph,lQ,qa,mj,qC,pS,lC,oY,kMvP,kCT,yH,Es,vK,r8,qB,sF,Bh,Ad,y0,CD,De,Ds,wB,xi,Bg,yT,xl,Bp,EM,vt,BR,Dh,EU,Dy,Dm,Dd,Cw,Dx,Cm,EB,CS,BY,BV,CI,Cc,DR,DV,Cu,EK,Eb,D7,yn,vO,Ao,$ls,*])
noncomputable abbrev C (n:Nat):Call:=callR prog 95 1 n
theorem mL (n:Nat)(ws:List W):C (n+1) 1 ws=rowsW ws:=rfl
theorem dB (n:Nat)(ws:List W):C (n+1) 6 ws=runF (C n) bx ws:=rfl
theorem dz (n:Nat)(ws:List W):C (n+1) 11 ws=runF (C n) bA ws:=rfl
theorem bL (n:Nat)(ws:List W):C (n+1) 13 ws=runF (C n) aL ws:=rfl
theorem kh (n:Nat)(ws:List W):C (n+1) 14 ws=runF (C n) cc ws:=rfl
theorem d8 (n:Nat)(ws:List W):C (n+1) 15 ws=runF (C n) b8 ws:=rfl
theorem oH (n:Nat)(ws:List W):C (n+1) 17 ws=runF (C n) dY ws:=rfl
theorem bZ (n:Nat)(ws:List W):C (n+1) 19 ws=runF (C n) aQ ws:=rfl
theorem fY (n:Nat)(ws:List W):C (n+1) 20 ws=runF (C n) bc ws:=rfl
theorem iS (n:Nat)(ws:List W):C (n+1) 21 ws=runF (C n) bJ ws:=rfl
theorem lR (n:Nat)(ws:List W):C (n+1) 22 ws=runF (C n) cI ws:=rfl
theorem cF (n:Nat)(ws:List W):C (n+1) 23 ws=runF (C n) aD ws:=rfl
theorem fu (n:Nat)(ws:List W):C (n+1) 24 ws=runF (C n) aw ws:=rfl
theorem eL (n:Nat)(ws:List W):C (n+1) 34 ws=runF (C n) aX ws:=rfl
theorem k8 (n:Nat)(ws:List W):C (n+1) 36 ws=runF (C n) bw ws:=rfl
theorem fT (n:Nat)(ws:List W):C (n+1) 38 ws=runF (C n) bQ ws:=rfl
theorem pk (n:Nat)(ws:List W):C (n+1) 76 ws=runF (C n) dQ ws:=rfl
theorem iH (n:Nat)(ws:List W):C (n+1) 79 ws=runF (C n) bo ws:=rfl
theorem iL (n:Nat)(ws:List W):C (n+1) 80 ws=runF (C n) bC ws:=rfl
theorem iO (n:Nat)(ws:List W):C (n+1) 82 ws=runF (C n) bO ws:=rfl
theorem jU (n:Nat)(ws:List W):C (n+1) 84 ws=runF (C n) cf ws:=rfl
theorem jT (n:Nat)(ws:List W):C (n+1) 85 ws=runF (C n) b7 ws:=rfl
theorem jL (n:Nat)(ws:List W):C (n+1) 89 ws=runF (C n) cg ws:=rfl
theorem j4 (n:Nat)(ws:List W):C (n+1) 92 ws=runF (C n) b5 ws:=rfl
theorem kE (n:Nat)(ws:List W):C (n+1) 94 ws=runF (C n) cQ ws:=rfl
theorem jB (n:Nat)(ws:List W):C (n+1) 133 ws=runF (C n) bz ws:=rfl
theorem lP (n:Nat)(ws:List W):C (n+1) 135 ws=runF (C n) bT ws:=rfl
theorem lT (n:Nat)(ws:List W):C (n+1) 146 ws=runF (C n) cM ws:=rfl
theorem iT (n:Nat)(ws:List W):C (n+1) 148 ws=runF (C n) bN ws:=rfl
theorem fN (n:Nat)(ws:List W):C (n+1) 149 ws=runF (C n) a0 ws:=rfl
theorem iK (n:Nat)(ws:List W):C (n+1) 158 ws=runF (C n) bK ws:=rfl
theorem mK (n:Nat)(ws:List W):C (n+1) 159 ws=runF (C n) de ws:=rfl
noncomputable def tape (ns:List Int)(x y z:Int):T:=.lst [.lst (ns.map T.int),.int x,.int y,.int z]
theorem qeq (a b:String):(q a==q b)=(a==b):=by
 by_cases h:a=b
 ·subst h; simp
 ·have h2:q a≠q b:=fun z=>h (by
   have:=congrArg (fun s:Str=>s.cps.toList) z
   rw [q,Str.ofString_eq_toList,Str.ofString_eq_toList] at this
   simp only at this
   have h3:a.toList=b.toList:=by
    have inj:∀ l1 l2:List Char,l1.map Char.toNat=l2.map Char.toNat->l1=l2:=by
     intro l1
     induction l1 with
     | nil=>intro l2 h; cases l2 with
      | nil=>rfl
      | cons=>cases h
     | cons c cs ih=>intro l2 h; cases l2 with
      | nil=>cases h
      | cons d ds =>
       rw [a0n,a0n] at h
       injection h with h1 h2
       rw [ih ds h2,Char.toNat_inj.mp h1]
    exact inj _ _ (by simpa using this)
   exact String.toList_inj.mp h3)
  rw [beq_eq_false_iff_ne.mpr h2,beq_eq_false_iff_ne.mpr h]
theorem Bo {α:Type}(a b c d:α):ixN [a,b,c,d].length 1=some 1:=rfl
theorem Ab {α:Type}(a b c d:α):ixN [a,b,c,d].length 2=some 2:=rfl
theorem Bz {α:Type}(a b c d:α):ixN [a,b,c,d].length 3=some 3:=rfl
theorem rP (D:Call)(ns:List Int)(x y z:Int)(m:Md)(k:Int)(hz:0 < z)(hk:0 < k)(hk2:k < 1073741824) :
  runF D bc [(.d,tape ns x y z),(m,.int k)]=.ok ((.d,.int (y % k)),[(.d,tape ns x (y / k) (z-1))]):=by
 rw [x_run _ _ _ rfl]
 simp_all only [bc,tape,decide_eq_true hz,decide_eq_true hk,decide_eq_true hk2,Bo,Ab,Bz,a1N,a2y]
theorem BX {ns:List Int}{x:Int}(hx:0<=x)(hn:ns≠[]):∃ c,atI (ns.map T.int) (x % (ns.length:Int))=some (.int c):=by
 have hl:0 < ns.length:=a2v.mpr hn
 have h1:0<=x % (ns.length:Int):=a24 _ (by omega)
 have h2:x % (ns.length:Int) < ns.length:=a2z _ (by omega)
 obtain ⟨j,hj⟩:∃ j:Nat,x % (ns.length:Int)=j:=⟨_,(Int.toNat_of_nonneg h1).symm⟩
 have hj':j < ns.length:=by omega
 exact ⟨ns[j],atN hj (by rw [a0x,a0k hj']; rfl)⟩
theorem gC:oSem .pow false [(.d,.int 10),(.d,.int 18)]=some (.d,.int 1000000000000000000):=rfl
theorem Bu (D:Call)(ns:List Int)(x:Nat)(y z:Int)(m:Md)(k:Int)(hz:z<=0)(hk:0 < k)(hk2:k < 1073741824)(hx:x < 1000000000000000000)
  (hD:∀ y',D 20 [(.d,tape ns (x+1) y' 40),(m,.int k)]=.ok ((.d,.int (y' % k)),[(.d,tape ns (x+1) (y' / k) 39)])) :
  ∃ r x' y' z',0<=r/\r < k/\x'<=x+1/\runF D bc [(.d,tape ns x y z),(m,.int k)]=.ok ((.d,.int r),[(.d,tape ns ((x':Nat):Int) y' z')]):=by
 have hz':decide (0 < z)=false:=decide_eq_false (by omega)
 have hm:∀ a:Int,0<=a % k/\a % k < k:=fun a=>⟨a24 _ (by omega),a2z _ hk⟩
 rw [x_run _ _ _ rfl]
 simp_all only [bc,tape,hz',decide_eq_true hk,decide_eq_true hk2,Bo,Ab,Bz,a1N,a2y,gC]
 generalize hE:onF _ _ _ _=e
 obtain ⟨c,rfl⟩:∃ c:Int,e=.nx [some (Md.d,T.lst [T.lst (a3M T.int ns),T.int (x+1),T.int y,T.int z]),some (m,T.int k),none,some (Md.d,T.int x),some (Md.d,T.int c),none]:=by
  rw [<- hE]
  by_cases hn:ns=[]
  ·subst hn
   exact ⟨0,rfl⟩
  ·obtain ⟨c,hc⟩:=BX (x:=(x:Int)) (by omega) hn
   have hp:decide (0 < ((a3M T.int ns).length:Int))=true:=decide_eq_true (by rw [a0b]; have:=a2v.mpr hn; omega)
   refine ⟨c,?_⟩
   rw [<- a0b (f:=T.int)] at hc
   simp_all only [hp,hc]
 have xb:decide ((x:Int).natAbs < 18446744073709551616)=true:=decide_eq_true (by omega)
 have cb:decide ((c % 999983+3).natAbs < 18446744073709551616)=true:=decide_eq_true (by omega)
 have nb:∀ a:Int,decide ((a % 1000003).natAbs < 18446744073709551616)=true:=fun a=>decide_eq_true (by omega)
 have b61:decide ((61:Int).natAbs < 18446744073709551616)=true:=rfl
 have b131:decide ((131:Int).natAbs < 18446744073709551616)=true:=rfl
 have d1:decide ((0:Int) < 999983)=true:=rfl
 have d2:decide ((0:Int) < 10007)=true:=rfl
 have d3:decide ((0:Int) < 1000003)=true:=rfl
 have d4:decide ((0:Int) < 999979)=true:=rfl
 have d5:decide ((0:Int) < 3)=true:=rfl
 have d6:decide ((3:Int) < 1073741824)=true:=rfl
 have d7:decide ((0:Int) < 99991)=true:=rfl
 cases h1:decide ((x:Int) < ((a3M T.int ns).length:Int)) with
 | false =>
  simp_all only [h1,decide_eq_true hk,decide_eq_true hk2,gC,xb,cb,nb,b61,b131,d1,d2,d3,d4,d5,d6,d7,a3r]
  exact ⟨_,x+1,y,z,(hm _).1,(hm _).2,a0h _,rfl⟩
 | true =>
  cases h2:decide (1000000000000000000<=c) with
  | false =>
   simp_all only [h1,h2,decide_eq_true hk,decide_eq_true hk2,gC,xb,cb,nb,b61,b131,d1,d2,d3,d4,d5,d6,d7,a3r]
   exact ⟨_,x+1,y,z,(hm _).1,(hm _).2,a0h _,rfl⟩
  | true =>
   have hD':=hD (c-1000000000000000000)
   unfold tape at hD'
   simp_all only [h1,h2,gC,Bo,Ab,Bz,a1N,a2y]
   simp_all only [hD']
   exact ⟨_,x+1,_,_,(hm _).1,(hm _).2,a0h _,rfl⟩
noncomputable def Tp (N:Nat)(t:T):Prop:=∃ ns x y z,t=tape ns ((x:Nat):Int) y z/\x<=N
theorem cN {n N:Nat}{t:T}(m:Md)(k:Int)(ht:Tp N t)(hN:N < 1000000000000000000)(hk:0 < k)(hk2:k < 1073741824) :
  ∃ r t',0<=r/\r < k/\Tp (N+1) t'/\C (n+2) 20 [(.d,t),(m,.int k)]=.ok ((.d,.int r),[(.d,t')]):=by
 obtain ⟨ns,x,y,z,rfl,hx⟩:=ht
 rw [fY]
 by_cases hz:0 < z
 ·exact ⟨_,_,a24 _ (by omega),a2z _ hk,⟨ns,x,_,_,rfl,by omega⟩,rP (C (n+1)) ns x y z m k hz hk hk2⟩
 ·obtain ⟨r,x',y',z',h1,h2,h3,h4⟩:=Bu (C (n+1)) ns x y z m k (by omega) hk hk2 (by omega) fun y'=>by rw [fY,rP (C n) ns (x+1) y' 40 m k (by decide) hk hk2]; rfl
  exact ⟨r,_,h1,h2,⟨ns,x',y',z',rfl,by omega⟩,h4⟩
theorem p6:oSem .pow false [(.d,.int 10),(.d,.int 6)]=some (.d,.int 1000000):=rfl
theorem p12:oSem .pow false [(.d,.int 10),(.d,.int 12)]=some (.d,.int 1000000000000):=rfl
theorem at5 {α:Type}(a b c d e:α)(r:Int)(h0:0<=r)(h1:r < 5):∃ x,atI [a,b,c,d,e] r=some x/\x∈[a,b,c,d,e]:=by
 have:r=0\/r=1\/r=2\/r=3\/r=4:=by omega
 rcases this with rfl | rfl | rfl | rfl | rfl
 ·exact ⟨a,rfl,by simp⟩
 ·exact ⟨b,rfl,by simp⟩
 ·exact ⟨c,rfl,by simp⟩
 ·exact ⟨d,rfl,by simp⟩
 ·exact ⟨e,rfl,by simp⟩
theorem tm {a b:Nat}{t:T}(h:Tp a t)(h2:a<=b):Tp b t:=by obtain ⟨ns,x,y,z,e,h⟩:=h; exact ⟨ns,x,y,z,e,by omega⟩
theorem number {n N:Nat}{t:T}(ht:Tp N t)(hN:N+5 < 1000000000000000000) :
  ∃ md i t',i.natAbs<=1000000000000000000/\Tp (N+5) t'/\C (n+3) 21 [(.d,t)]=.ok ((md,.int i),[(.d,t')]):=by
 rw [iS]
 obtain ⟨r,t1,r0,r1,ht1,e1⟩:=cN (n:=n) .d 6 ht (by omega) (by decide) (by decide)
 rw [x_run _ _ _ rfl]
 simp_all only [bJ,e1]
 cases h1:decide (r < 4) with
 | true =>
  obtain ⟨r2,t2,_,_,ht2,e2⟩:=cN (n:=n) .d 19 ht1 (by omega) (by decide) (by decide)
  simp_all only [h1,e2]
  exact ⟨_,_,_,by omega,tm ht2 (by omega),rfl⟩
 | false =>
  cases h2:r==4 with
  | true =>
   obtain ⟨r2,t2,r20,r21,ht2,e2⟩:=cN (n:=n) .d 5 ht1 (by omega) (by decide) (by decide)
   obtain ⟨x,hx,hm⟩:=at5 (T.int 1000000000000000000) (.int (0-1000000000000000000)) (.int (1000000000000000000-1)) (.int (1-1000000000000000000)) (.int 0) r2 r20 r21
   obtain ⟨i,hi,rfl⟩:∃ i:Int,i.natAbs<=1000000000000000000/\x=T.int i:=by
    simp only [a0l,a0K,or_false] at hm
    rcases hm with e | e | e | e | e<;>exact ⟨_,by decide,e⟩
   simp_all only [h1,h2,e2,gC,hx]
   exact ⟨_,_,_,hi,tm ht2 (by omega),rfl⟩
  | false =>
   obtain ⟨r2,t2,_,_,ht2,e2⟩:=cN (n:=n) .d 1000000 ht1 (by omega) (by decide) (by decide)
   obtain ⟨r3,t3,_,_,ht3,e3⟩:=cN (n:=n) .d 1000000 ht2 (by omega) (by decide) (by decide)
   obtain ⟨r4,t4,_,_,ht4,e4⟩:=cN (n:=n) .d 1000000 ht3 (by omega) (by decide) (by decide)
   obtain ⟨r5,t5,_,_,ht5,e5⟩:=cN (n:=n) .d 2 ht4 (by omega) (by decide) (by decide)
   have b12:decide ((1000000000000:Int).natAbs < 18446744073709551616)=true:=rfl
   have b6:decide ((1000000:Int).natAbs < 18446744073709551616)=true:=rfl
   have b2:decide ((2:Int).natAbs < 18446744073709551616)=true:=rfl
   have b1:decide ((1-2 * r5).natAbs < 18446744073709551616)=true:=decide_eq_true (by omega)
   simp_all only [h1,h2,e2,e3,e4,e5,p6,p12,b12,b6,b2,b1,a3r,a1g]
   exact ⟨_,_,_,by rcases (show r5=0\/r5=1 by omega) with rfl | rfl<;>omega,tm ht5 (by omega),rfl⟩
inductive Kd where | num | truth | pair (a b:Kd) | row (a:Kd)
noncomputable def Kd.th:Kd->T
 | .num=>.tup [.str (q "num")]
 | .truth=>.tup [.str (q "truth")]
 | .pair a b=>.tup [.str (q "pair"),a.th,b.th]
 | .row a=>.tup [.str (q "row"),a.th]
noncomputable def Kd.deep:Kd->Nat
 | .num=>0 | .truth=>0 | .pair a b=>max a.deep b.deep+1 | .row a=>a.deep+1
noncomputable def kb:Nat->Nat
 | 0=>1
 | l+1=>2 * kb l+1
theorem wN {α:Type}(a b:α)(r:Int)(h0:0<=r)(h1:r < 2):atI [a,b] r=some a\/atI [a,b] r=some b:=by
 have:r=0\/r=1:=by omega
 rcases this with rfl | rfl
 ·exact .inl rfl
 ·exact .inr rfl
theorem d02:decide ((0:Int) < 2)=true:=rfl
theorem kind (n:Nat):∀ (l:Nat) {N:Nat} {t:T},Tp N t->N+kb l < 1000000000000000000->1<=l ->
  ∃ (md:Md) (k:Kd) (t':T),k.deep < l/\Tp (N+kb l) t'/\C (n+l+2) 22 [(.d,t),(.d,.int l)]=.ok ((md,k.th),[(.d,t')])
 | 0,_,_,_,_,h=>by omega
 | l+1,N,t,ht,hN,_=>by
  have hb:kb (l+1)=2 * kb l+1:=rfl
  rw [show n+(l+1)+2=(n+l+2)+1 by omega,lR]
  obtain ⟨r,t1,r0,r1,ht1,e1⟩:=cN (n:=n+l) .d 6 ht (by omega) (by decide) (by decide)
  rw [x_run _ _ _ rfl]
  simp_all only [cI,e1]
  have leafy:∃ k:Kd,k.deep=0/\(atI [T.tup [T.str (q "num")],T.tup [T.str (q "truth")]] (r % 2))=some k.th:=by
   rcases wN (T.tup [T.str (q "num")]) (T.tup [T.str (q "truth")]) (r % 2) (by omega) (by omega) with h | h
   ·exact ⟨.num,rfl,h⟩
   ·exact ⟨.truth,rfl,h⟩
  obtain ⟨k0,hk0,ek0⟩:=leafy
  cases h1:(((l+1:Nat):Int)==1) with
  | true =>
   simp_all only [h1,d02,ek0]
   exact ⟨_,k0,_,by omega,tm ht1 (by omega),rfl⟩
  | false =>
   have hl:1<=l:=by
    have:=beq_eq_false_iff_ne.mp h1
    omega
   cases h2:decide (r < 2) with
   | true =>
    simp_all only [h1,h2,d02,ek0]
    exact ⟨_,k0,_,by omega,tm ht1 (by omega),rfl⟩
   | false =>
    have el:((l+1:Nat):Int)-1=(l:Int):=by omega
    cases h3:decide (r < 4) with
    | true =>
     obtain ⟨m1,k1,t2,d1,ht2,e2⟩:=kind n l ht1 (by omega) hl
     obtain ⟨m2,k2,t3,d2,ht3,e3⟩:=kind n l ht2 (by omega) hl
     simp_all only [h1,h2,h3,el,e2,e3]
     exact ⟨_,.pair k1 k2,_,by show max k1.deep k2.deep+1 < l+1; omega,tm ht3 (by omega),rfl⟩
    | false =>
     obtain ⟨m1,k1,t2,d1,ht2,e2⟩:=kind n l ht1 (by omega) hl
     simp_all only [h1,h2,h3,el,e2]
     exact ⟨_,.row k1,_,by show k1.deep+1 < l+1; omega,tm ht2 (by omega),rfl⟩
noncomputable def OfK:Kd->T->Prop
 | .num,t=>∃ i:Int,t=.int i/\i.natAbs<=1000000000000000000
 | .truth,t=>∃ b,t=.bl b
 | .pair a b,t=>∃ x y,t=.tup [x,y]/\OfK a x/\OfK b y
 | .row a,t=>∃ ts,t=.lst ts/\ts.length<=200/\∀ u∈ts,OfK a u
mutual
noncomputable def sz:T->Nat
 | .tup ts=>szs ts+1
 | .lst ts=>szs ts+1
 | _=>1
noncomputable def szs:List T->Nat
 | []=>0
 | t::ts=>sz t+szs ts
end
noncomputable def B:Nat->Nat
 | 0=>1
 | d+1=>3 * B d+201
noncomputable def D:Nat->Nat
 | 0=>5
 | d+1=>3 * D d+1003
theorem j2:∀ {a b:Nat},a<=b->B a<=B b
 | _,0,h=>by cases Nat.le_zero.mp h; exact a0h _
 | a,b+1,h=>by
  by_cases e:a=b+1
  ·rw [e]; exact a0h _
  ·have:=j2 (a:=a) (b:=b) (by omega)
   have e2:B (b+1)=3 * B b+201:=rfl
   omega
theorem jy:∀ {a b:Nat},a<=b->D a<=D b
 | _,0,h=>by cases Nat.le_zero.mp h; exact a0h _
 | a,b+1,h=>by
  by_cases e:a=b+1
  ·rw [e]; exact a0h _
  ·have:=jy (a:=a) (b:=b) (by omega)
   have e2:D (b+1)=3 * D b+1003:=rfl
   omega
theorem qM {b:Nat}:∀ {ws:List W},(∀ w∈ws,sz w.2<=b)->szs (ax ws)<=ws.length * b
 | [],_=>a0Y _
 | w::ws,h=>by
  have h1:=h w a0d
  have h2:=qM fun v hv=>h v (a0c _ hv)
  show sz w.2+szs (ax ws)<=_
  rw [a0f,a1B]; omega
theorem yt {w:W}(h:lf w.1 w.2=.d):okD w=true:=by
 unfold lf at h
 unfold okD
 split at h
 ·rename_i hl; rw [hl,a1g]
 ·rw [h]; rfl
theorem fL:∀ {ws:List W} {t:T},t∈ax ws->∃ w∈ws,w.2=t
 | w::ws,t,h=>by
  rcases a0l.mp (show t∈w.2::ax ws from h) with e | e
  ·exact ⟨w,a0d,e.symm⟩
  ·obtain ⟨v,hv,e2⟩:=fL e
   exact ⟨v,a0c _ hv,e2⟩
theorem fM:∀ ws:List W,(ax ws).length=ws.length
 | []=>rfl
 | w::ws=>by show (ax ws).length+1=ws.length+1; rw [fM ws]
theorem iB:∀ a:Kd,∃ l,a.th=.tup l/\(l.length=1->a.deep=0)
 | .num=>⟨_,rfl,fun _=>rfl⟩
 | .truth=>⟨_,rfl,fun _=>rfl⟩
 | .pair a b=>⟨_,rfl,fun h=>by cases h⟩
 | .row a=>⟨_,rfl,fun h=>by cases h⟩
theorem sr {F:Call}{a:Kd}{o2 o3 o4:Option W}{N:Nat}{t:T}{x:T}(ht:Tp N t)(mm:Nat)(hN:N+mm * D a.deep < 1000000000000000000)
  (ih:∀ N t,Tp N t->N+D a.deep < 1000000000000000000->∃ md w t',OfK a w/\sz w<=B a.deep/\lf md w=.d/\Tp (N+D a.deep) t'/\F 23 [(.d,t),(.s,a.th),(.d,.bl false)]=.ok ((md,w),[(.d,t')])) :
  ∃ ws t',ws.length=mm/\(∀ w∈ws,OfK a w.2/\sz w.2<=B a.deep/\lf w.1 w.2=.d)/\Tp (N+mm * D a.deep) t' /\
   az [5] (bq (evE F (.call 23 [.io 0,.op .ix false [.var 1,.cst (.int 1)],.cst (.bl false)]))) ((a0B mm).map fun (k:Nat)=>[((.d,.int k):W)]) [some (.d,t),some (.s,.tup [x,a.th]),o2,o3,o4,none] []=.ok (ws,[some (.d,t'),some (.s,.tup [x,a.th]),o2,o3,o4,none]):=by
 obtain ⟨ws,η',e,t',rfl,ht',hl,hw⟩:=i8 (tg:=[5]) (f:=bq (evE F (.call 23 [.io 0,.op .ix false [.var 1,.cst (.int 1)],.cst (.bl false)]))) (g:=fun (k:Nat)=>[((.d,.int k):W)])
  (fun pre η acc=>∃ t',η=[some (.d,t'),some (.s,.tup [x,a.th]),o2,o3,o4,none]/\Tp (N+pre.length * D a.deep) t'/\acc.length=pre.length/\∀ w∈acc,OfK a w.2/\sz w.2<=B a.deep/\lf w.1 w.2=.d)
  (a0B mm) [] [some (.d,t),some (.s,.tup [x,a.th]),o2,o3,o4,none] [] ⟨t,rfl,by simpa using ht,rfl,fun _ h=>nomatch h⟩ (fun p k r η acc hp ⟨t',he,ht',hl,hw⟩=>by
   subst he
   have hpl:p.length+1<=mm:=by
    have:=congrArg a1H hp
    simp at this; omega
   have hmul:p.length * D a.deep+D a.deep<=mm * D a.deep:=by
    rw [<- a1B]; exact a1U _ hpl
   obtain ⟨md,w,t2,h1,h2,h3,h4,h5⟩:=ih _ _ ht' (by omega)
   refine ⟨_,some (md,w),[some (.d,t2),some (.s,.tup [x,a.th]),o2,o3,o4,some (.d,.int k)],rfl,?_,t2,rfl,?_,?_,?_⟩
   ·simp_all only [h5]
   ·rw [a0g,a0A,a1B]; exact tm h4 (by omega)
   ·rw [a0g,a0g,hl]; rfl
   ·intro v hv
    rcases a0O.mp hv with e | e
    ·exact hw v e
    ·rw [a0w.mp e]; exact ⟨h1,h2,h3⟩)
 refine ⟨ws,t',?_,hw,?_,e⟩
 ·rw [hl]; simp
 ·simpa using ht'
theorem worth:∀ (k:Kd) (n:Nat) (lg:Bool) (m:Md) {N:Nat} {t:T},Tp N t->N+D k.deep < 1000000000000000000 ->
  ∃ (md:Md) (w:T) (t':T),OfK k w/\sz w<=B k.deep/\lf md w=.d/\Tp (N+D k.deep) t'/\C (n+k.deep+4) 23 [(.d,t),(m,k.th),(.d,.bl lg)]=.ok ((md,w),[(.d,t')])
 | .num,n,lg,m,N,t,ht,hN=>by
  obtain ⟨md,i,t1,hi,ht1,e1⟩:=number (n:=n) ht hN
  rw [show n+Kd.num.deep+4=(n+3)+1 from rfl,cF,x_run _ _ _ rfl]
  simp_all only [aD,Kd.th,qeq,e1]
  exact ⟨_,_,_,⟨i,rfl,hi⟩,a0h _,rfl,ht1,rfl⟩
 | .truth,n,lg,m,N,t,ht,hN=>by
  obtain ⟨r,t1,_,_,ht1,e1⟩:=cN (n:=n+1) .d 2 ht (by have:D Kd.truth.deep=5:=rfl; omega) (by decide) (by decide)
  rw [show n+Kd.truth.deep+4=(n+3)+1 from rfl,cF,x_run _ _ _ rfl]
  simp_all only [aD,Kd.th,qeq,e1]
  exact ⟨_,_,_,⟨_,rfl⟩,a0h _,rfl,tm ht1 (by have:D Kd.truth.deep=5:=rfl; omega),rfl⟩
 | .pair a b,n,lg,m,N,t,ht,hN=>by
  have hd:(Kd.pair a b).deep=max a.deep b.deep+1:=rfl
  have hD:D (Kd.pair a b).deep=3 * D (max a.deep b.deep)+1003:=rfl
  have hB:B (Kd.pair a b).deep=3 * B (max a.deep b.deep)+201:=rfl
  have da:=jy (a:=a.deep) (b:=max a.deep b.deep) (by omega)
  have db:=jy (a:=b.deep) (b:=max a.deep b.deep) (by omega)
  have ba:=j2 (a:=a.deep) (b:=max a.deep b.deep) (by omega)
  have bb:=j2 (a:=b.deep) (b:=max a.deep b.deep) (by omega)
  obtain ⟨m1,w1,t1,o1,s1,l1,ht1,e1⟩:=worth a (n+(max a.deep b.deep-a.deep)) lg .s ht (by omega)
  obtain ⟨m2,w2,t2,o2,s2,l2,ht2,e2⟩:=worth b (n+(max a.deep b.deep-b.deep)) lg (.s) ht1 (by omega)
  rw [show n+(max a.deep b.deep-a.deep)+a.deep+4=n+max a.deep b.deep+4 by omega] at e1
  rw [show n+(max a.deep b.deep-b.deep)+b.deep+4=n+max a.deep b.deep+4 by omega] at e2
  rw [show n+(Kd.pair a b).deep+4=(n+max a.deep b.deep+4)+1 by omega,cF,x_run _ _ _ rfl]
  simp_all only [aD,Kd.th,qeq,e1,e2,l1,l2]
  refine ⟨_,_,_,⟨w1,w2,rfl,o1,o2⟩,?_,rfl,tm ht2 (by omega),rfl⟩
  show sz w1+(sz w2+0)+1<=_
  omega
 | .row a,n,lg,m,N,t,ht,hN=>by
  have hd:(Kd.row a).deep=a.deep+1:=rfl
  have hD:D (Kd.row a).deep=3 * D a.deep+1003:=rfl
  have hB:B (Kd.row a).deep=3 * B a.deep+201:=rfl
  obtain ⟨l,hl,hl1⟩:=iB a
  obtain ⟨r,t1,r0,r1,ht1,e1⟩:=cN (n:=n+a.deep+2) .d 4 ht (by omega) (by decide) (by decide)
  have ih:∀ N t,Tp N t->N+D a.deep < 1000000000000000000->∃ md w t',OfK a w/\sz w<=B a.deep/\lf md w=.d/\Tp (N+D a.deep) t'/\C (n+a.deep+4) 23 [(.d,t),(.s,a.th),(.d,.bl false)]=.ok ((md,w),[(.d,t')]):=fun N t h1 h2=>worth a n false .s h1 h2
  have key:∀ (mm:Int) (N2:Nat) (t2:T),Tp N2 t2->N2<=N+3->0<=mm->(mm<=3\/(a.deep=0/\mm<=200))->∃ ws t3,decide (mm.natAbs < 4611686018427387904)=true/\fits mm.toNat=true/\ws.all okD=true /\
    OfK (.row a) (.lst (ax ws))/\sz (.lst (ax ws))<=B (Kd.row a).deep/\Tp (N+D (Kd.row a).deep) t3 /\
    az [5] (bq (evE (C (n+a.deep+4)) (.call 23 [.io 0,.op .ix false [.var 1,.cst (.int 1)],.cst (.bl false)]))) ((a0B mm.toNat).map fun (k:Nat)=>[((.d,.int k):W)]) [some (.d,t2),some (.s,.tup [.str (q "row"),.tup l]),some (.d,.bl lg),none,none,none] []=.ok (ws,[some (.d,t3),some (.s,.tup [.str (q "row"),.tup l]),some (.d,.bl lg),none,none,none]):=by
   intro mm N2 t2 ht2 hN2 h0 hm
   have hmn:mm.toNat<=3\/(a.deep=0/\mm.toNat<=200):=hm.imp (by omega) fun h=>⟨h.1,by omega⟩
   have hD2:mm.toNat * D a.deep<=3 * D a.deep+1000:=by
    rcases hmn with h | ⟨h,h'⟩
    ·have:=a1U (D a.deep) h; omega
    ·rw [h]; have:D 0=5:=rfl; rw [this]; omega
   have hB2:mm.toNat * B a.deep<=3 * B a.deep+200:=by
    rcases hmn with h | ⟨h,h'⟩
    ·have:=a1U (B a.deep) h; omega
    ·rw [h]; have:B 0=1:=rfl; rw [this]; omega
   obtain ⟨ws,t3,h1,h2,h3,h4⟩:=sr (F:=C (n+a.deep+4)) (a:=a) (o2:=some (.d,.bl lg)) (o3:=none) (o4:=none) (x:=.str (q "row")) ht2 mm.toNat (by omega) ih
   rw [hl] at h4
   refine ⟨ws,t3,decide_eq_true (by omega),decide_eq_true (by show mm.toNat<=LIM; unfold LIM; omega),a0L.mpr fun w hw=>yt (h2 w hw).2.2,⟨_,rfl,by rw [fM,h1]; rcases hmn with h | ⟨_,h⟩<;>omega,fun u hu=>?_⟩,?_,tm h3 (by omega),h4⟩
   ·obtain ⟨w,hw,rfl⟩:=fL hu
    exact (h2 w hw).1
   ·have:=qM (b:=B a.deep) fun w hw=>(h2 w hw).2.1
    rw [h1] at this
    show szs (ax ws)+1<=_
    omega
  rw [show n+(Kd.row a).deep+4=(n+a.deep+4)+1 by omega,cF,x_run _ _ _ rfl]
  cases lg with
  | false =>
   obtain ⟨ws,t3,k1,k2,k3,k4,k5,k6,k7⟩:=key r (N+1) t1 ht1 (by omega) r0 (.inl (by omega))
   simp_all only [aD,Kd.th,qeq,hl,e1,k1,k2,k3,k7]
   exact ⟨_,_,_,k4,k5,rfl,k6,rfl⟩
  | true =>
   cases h1:((l.length:Int)==1) with
   | false =>
    obtain ⟨ws,t3,k1,k2,k3,k4,k5,k6,k7⟩:=key r (N+1) t1 ht1 (by omega) r0 (.inl (by omega))
    simp_all only [aD,Kd.th,qeq,hl,e1,h1,k1,k2,k3,k7]
    exact ⟨_,_,_,k4,k5,rfl,k6,rfl⟩
   | true =>
    have hd0:a.deep=0:=hl1 (by have:=beq_iff_eq.mp h1; omega)
    obtain ⟨r2,t2,r20,r21,ht2,e2⟩:=cN (n:=n+a.deep+2) .d 32 ht1 (by omega) (by decide) (by decide)
    cases h2:(r2==31) with
    | false =>
     obtain ⟨ws,t3,k1,k2,k3,k4,k5,k6,k7⟩:=key r (N+1+1) t2 ht2 (by omega) r0 (.inl (by omega))
     simp_all only [aD,Kd.th,qeq,hl,e1,h1,e2,h2,k1,k2,k3,k7]
     exact ⟨_,_,_,k4,k5,rfl,k6,rfl⟩
    | true =>
     obtain ⟨r3,t4,r30,r31,ht4,e4⟩:=cN (n:=n+a.deep+2) .d 5 ht2 (by omega) (by decide) (by decide)
     obtain ⟨ws,t3,k1,k2,k3,k4,k5,k6,k7⟩:=key (196+r3) (N+1+1+1) t4 ht4 (by omega) (by omega) (.inr ⟨hd0,by omega⟩)
     simp_all only [aD,Kd.th,qeq,hl,e1,h1,e2,h2,e4,k1,k2,k3,k7]
     exact ⟨_,_,_,k4,k5,rfl,k6,rfl⟩
noncomputable def PT:Nat->T->Prop
 | _,.bl _=>True
 | _,.int _=>True
 | _,.str _=>True
 | _,.non=>True
 | d+1,.tup ts=>∀ u∈ts,PT d u
 | d+1,.lst ts=>∀ u∈ts,PT d u
 | _,_=>False
theorem fK (m n:Md):∀ ts:List T,cS m n ts ts=ts.map fun t=>[(m,t),(n,t)]
 | []=>rfl
 | t::ts=>by show _::cS m n ts ts=_::_; rw [fK m n ts]
theorem zw (m n:Md)(ts us:List T):turns .zip [(m,.lst ts),(n,.lst us)]=some (cS .s .s ts us):=rfl
theorem Bf (m n:Md)(ts us:List T):turns .zip [(m,.tup ts),(n,.tup us)]=some (cS .s .s ts us):=rfl
theorem eD:∀ ts:List T,boolsOf (ts.map fun _=>T.bl true)=some (ts.map fun _=>true)
 | []=>rfl
 | _::ts=>by show (boolsOf (ts.map fun _=>T.bl true)).map _=_; rw [eD ts]; rfl
theorem ib:∀ ts:List T,(ts.map fun _=>true).all id=true
 | []=>rfl
 | _::ts=>by show (true&&(ts.map fun _=>true).all id)=true; rw [ib ts]; rfl
theorem aZ {α:Type}(f:α->Md)(g:α->T):∀ ts:List α,ax (ts.map fun x=>(f x,g x))=ts.map g
 | []=>rfl
 | x::ts=>by show g x::ax _=g x::ts.map g; rw [aZ f g ts]
theorem xV (ts:List T):isOne "list" (.lst ts)=true:=rfl
theorem C4 (ts:List T):isOne "tuple" (.lst ts)=false:=rfl
theorem Cj (ts:List T):isOne "list" (.tup ts)=false:=rfl
theorem tY (ts:List T):isOne "tuple" (.tup ts)=true:=rfl
theorem tf (i:Int):isOne "list" (.int i)=false:=rfl
theorem rB (i:Int):isOne "tuple" (.int i)=false:=rfl
theorem xK (b:Bool):isOne "list" (.bl b)=false:=rfl
theorem xX (b:Bool):isOne "tuple" (.bl b)=false:=rfl
theorem xB (b:Bool):isOne "bool" (.bl b)=true:=rfl
theorem x6 (i:Int):isOne "bool" (.int i)=false:=rfl
theorem yc (x:Str):isOne "list" (.str x)=false:=rfl
theorem xT (x:Str):isOne "tuple" (.str x)=false:=rfl
theorem xZ (x:Str):isOne "bool" (.str x)=false:=rfl
theorem xO:isOne "list" .non=false:=rfl
theorem yi:isOne "tuple" .non=false:=rfl
theorem x9:isOne "bool" .non=false:=rfl
theorem Di (h:Bool)(m n:Md):oSem .eq h [(m,.non),(n,.non)]=some (.d,.bl true):=rfl
theorem CQ (n:Nat):∀ (d:Nat) (t:T) (m m':Md),PT d t->C (n+d+1) 24 [(m,t),(m',t)]=.ok ((.d,.bl true),[]):=by
 intro d
 induction d with
 | zero =>
  intro t m m' h
  rw [fu,x_run _ _ _ rfl]
  cases t with
  | bl b=>simp_all only [aw,a0P,a08,xK,xX,xB,a0X,a1g,beq_self_eq_true]
  | int i=>simp_all only [aw,a0P,a08,tf,rB,x6,a0X,a1g,beq_self_eq_true]
  | str x=>simp_all only [aw,a0P,a08,yc,xT,xZ,a0X,a1g,beq_self_eq_true]
  | non=>simp_all only [aw,a0P,a08,xO,yi,x9,a0X,a1g,beq_self_eq_true,Di]
  | _=>exact h.elim
 | succ d ih =>
  intro t m m' h
  rw [show n+(d+1)+1=(n+d+1)+1 by omega,fu,x_run _ _ _ rfl]
  have cm:∀ ts:List T,(∀ u∈ts,PT d u)->∀ o0 o1:Option W,az [2,3] (bq (evE (C (n+d+1)) (.call 24 [.var 2,.var 3]))) (ts.map fun t=>[((.s,t):W),(.s,t)]) [o0,o1,none,none] []=.ok ([]++ts.map fun _=>(.d,.bl true),[o0,o1,none,none]):=by
   intro ts hts o0 o1
   refine au (fun _=>((.d,.bl true):W)) ts [] fun u hu=>⟨_,[o0,o1,some (.s,u),some (.s,u)],rfl,?_,rfl⟩
   simp_all only [ih u .s .s (hts u hu)]
  cases t with
  | bl b=>simp_all only [aw,a0P,a08,xK,xX,xB,a0X,a1g,beq_self_eq_true]
  | int i=>simp_all only [aw,a0P,a08,tf,rB,x6,a0X,a1g,beq_self_eq_true]
  | str x=>simp_all only [aw,a0P,a08,yc,xT,xZ,a0X,a1g,beq_self_eq_true]
  | non=>simp_all only [aw,a0P,a08,xO,yi,x9,a0X,a1g,beq_self_eq_true,Di]
  | lst ts=>simp_all only [aw,a0P,a08,xV,C4,a0X,a1g,beq_self_eq_true,zw,fK,cm ts h,aZ (fun _=>Md.d),eD,ib]
  | tup ts=>simp_all only [aw,a0P,a08,Cj,tY,a0X,a1g,beq_self_eq_true,Bf,fK,cm ts h,aZ (fun _=>Md.d),eD,ib]
  | _=>exact h.elim
noncomputable def fst:T->T | .tup [x,_]=>x | _=>.non
noncomputable def snd:T->T | .tup [_,x]=>x | _=>.non
noncomputable def ae:T->List T | .lst ts=>ts | _=>[]
noncomputable def aV (t:T):T:=.int (((ae t).length:Nat):Int)
noncomputable def flatT:Kd->List T->T
 | .num,ts=>.lst ts
 | .truth,ts=>.lst ts
 | .pair a b,ts=>.tup [flatT a (ts.map fst),flatT b (ts.map snd)]
 | .row a,ts=>.tup [.lst (ts.map aV),flatT a (ts.flatMap ae)]
theorem fv:∀ ts us:List T,szs (ts++us)=szs ts+szs us
 | [],us=>by show szs us=0+szs us; omega
 | t::ts,us=>by show sz t+szs (ts++us)=sz t+szs ts+szs us; rw [fv ts us]; omega
theorem AG (t:T):1<=sz t:=by
 cases t<;>first | exact a0h _ | exact Nat.le_add_left _ _
theorem bp:∀ ts:List T,ts.length<=szs ts
 | []=>a0h _
 | t::ts=>by
  have:=bp ts
  have:=AG t
  show ts.length+1<=sz t+szs ts
  omega
theorem dC {a b:Kd}:∀ {ts:List T},(∀ t∈ts,OfK (.pair a b) t)->szs (ts.map fst)<=szs ts/\szs (ts.map snd)<=szs ts
 | [],_=>⟨a0h _,a0h _⟩
 | t::ts,h=>by
  obtain ⟨x,y,rfl,_,_⟩:=h t a0d
  obtain ⟨h1,h2⟩:=dC fun u hu=>h u (a0c _ hu)
  refine ⟨?_,?_⟩
  ·show sz x+szs (ts.map fst)<=(sz x+(sz y+0)+1)+szs ts; omega
  ·show sz y+szs (ts.map snd)<=(sz x+(sz y+0)+1)+szs ts; omega
theorem bE {a:Kd}:∀ {ts:List T},(∀ t∈ts,OfK (.row a) t)->szs (ts.flatMap ae)<=szs ts
 | [],_=>a0h _
 | t::ts,h=>by
  obtain ⟨us,rfl,_,_⟩:=h t a0d
  have:=bE fun u hu=>h u (a0c _ hu)
  rw [a0F,fv]
  show szs us+_<=(szs us+1)+szs ts
  omega
theorem bI {a b:Kd}{ts:List T}(h:∀ t∈ts,OfK (.pair a b) t):(∀ t∈ts.map fst,OfK a t)/\∀ t∈ts.map snd,OfK b t:=by
 refine ⟨fun u hu=>?_,fun u hu=>?_⟩
 ·obtain ⟨t,ht,rfl⟩:=a0t.mp hu
  obtain ⟨x,y,rfl,h1,_⟩:=h t ht
  exact h1
 ·obtain ⟨t,ht,rfl⟩:=a0t.mp hu
  obtain ⟨x,y,rfl,_,h1⟩:=h t ht
  exact h1
theorem cU {a:Kd}{ts:List T}(h:∀ t∈ts,OfK (.row a) t):∀ t∈ts.flatMap ae,OfK a t:=by
 intro u hu
 obtain ⟨t,ht,hu⟩:=a2T.mp hu
 obtain ⟨us,rfl,_,h1⟩:=h t ht
 exact h1 u hu
theorem dE {ts:List T}(h:∀ t∈ts,OfK .num t):leaves ts=true:=a0L.mpr fun t ht=>by obtain ⟨i,rfl,_⟩:=h t ht; rfl
theorem cB {ts:List T}(h:∀ t∈ts,OfK .truth t):leaves ts=true:=a0L.mpr fun t ht=>by obtain ⟨i,rfl⟩:=h t ht; rfl
theorem eg {α:Type}(g:α->T)(ts:List α):(ts.map fun x=>((.d,g x):W)).all okD=true:=a0L.mpr fun w hw=>by
 obtain ⟨u,_,rfl⟩:=a0t.mp hw
 rfl
theorem kO {F:Call}{a b:Kd}{ts:List T}(h:∀ t∈ts,OfK (.pair a b) t)(η:Env)(s:Nat)(hη:∀ t,rd (put η s (.s,t)) s=some (.s,t))(hd:∀ t,aj [s] (put η s (.s,t))=η) :
  az [s] (bq (evE F (.op .ix false [.var s,.cst (.int 0)]))) (ts.map fun t=>[((.s,t):W)]) η []=.ok ([]++ts.map fun t=>(.s,fst t),η) /\
  az [s] (bq (evE F (.op .ix false [.var s,.cst (.int 1)]))) (ts.map fun t=>[((.s,t):W)]) η []=.ok ([]++ts.map fun t=>(.s,snd t),η):=by
 constructor
 ·refine au (fun t=>((.s,fst t):W)) ts [] fun u hu=>⟨_,put η s (.s,u),rfl,?_,hd u⟩
  obtain ⟨x,y,rfl,_,_⟩:=h u hu
  simp_all only [hη,fst]
 ·refine au (fun t=>((.s,snd t):W)) ts [] fun u hu=>⟨_,put η s (.s,u),rfl,?_,hd u⟩
  obtain ⟨x,y,rfl,_,_⟩:=h u hu
  simp_all only [hη,snd]
theorem qU {F:Call}{a:Kd}{ts:List T}(h:∀ t∈ts,OfK (.row a) t)(η:Env)(s:Nat)(hη:∀ t,rd (put η s (.s,t)) s=some (.s,t))(hd:∀ t,aj [s] (put η s (.s,t))=η) :
  az [s] (bq (evE F (.op .len false [.var s]))) (ts.map fun t=>[((.s,t):W)]) η []=.ok ([]++ts.map fun t=>(.d,aV t),η):=by
 refine au (fun t=>((.d,aV t):W)) ts [] fun u hu=>⟨_,put η s (.s,u),rfl,?_,hd u⟩
 obtain ⟨us,rfl,_,_⟩:=h u hu
 simp_all only [hη,aV,ae]
theorem flat:∀ (k:Kd) (n:Nat) (ts:List T) (m1 m:Md),(∀ t∈ts,OfK k t)->szs ts<=LIM->C (n+k.deep+1) 6 [(m1,k.th),(m,.lst ts)]=.ok ((.d,flatT k ts),[])
 | .num,n,ts,m1,m,h,_=>by
  rw [dB,x_run _ _ _ rfl]
  simp_all only [bx,Kd.th,qeq,dE h,flatT]
 | .truth,n,ts,m1,m,h,_=>by
  rw [dB,x_run _ _ _ rfl]
  simp_all only [bx,Kd.th,qeq,cB h,flatT]
 | .pair a b,n,ts,m1,m,h,hs=>by
  have e1:=flat a (n+(max a.deep b.deep-a.deep)) (ts.map fst) .s (.o .s) (bI h).1 (a0o (dC h).1 hs)
  have e2:=flat b (n+(max a.deep b.deep-b.deep)) (ts.map snd) .s (.o .s) (bI h).2 (a0o (dC h).2 hs)
  rw [show n+(max a.deep b.deep-a.deep)+a.deep+1=n+max a.deep b.deep+1 by omega] at e1
  rw [show n+(max a.deep b.deep-b.deep)+b.deep+1=n+max a.deep b.deep+1 by omega] at e2
  rw [show n+(Kd.pair a b).deep+1=(n+max a.deep b.deep+1)+1 from rfl,dB,x_run _ _ _ rfl]
  have c1:=(kO (F:=C (n+max a.deep b.deep+1)) h [some (.s,.tup [.str (q "pair"),a.th,b.th]),some (.s,.lst ts),none,none,none,none,none] 4 (fun _=>rfl) (fun _=>rfl)).1
  have c2:=(kO (F:=C (n+max a.deep b.deep+1)) h [some (.s,.tup [.str (q "pair"),a.th,b.th]),some (.s,.lst ts),none,none,none,none,none] 5 (fun _=>rfl) (fun _=>rfl)).2
  simp_all only [bx,Kd.th,qeq,c1,c2,aZ (fun _=>Md.s),e1,e2,flatT]
 | .row a,n,ts,m1,m,h,hs=>by
  have hk:=a0o (bE h) hs
  have hl:=a0o (bp (ts.flatMap ae)) hk
  have e1:=fun m2=>flat a n (ts.flatMap ae) m2 (.o .s) (cU h) hk
  rw [show n+(Kd.row a).deep+1=(n+a.deep+1)+1 from rfl,dB,x_run _ _ _ rfl]
  have lp:forL [3] (evSs (C (n+a.deep+1)) [S.ext (X.q [3] []) 2 (E.var 3)]) (ts.map fun t=>[((Md.s,t):W)]) [some (m1,T.tup [T.str (q "row"),a.th]),some (Md.s,T.lst ts),some (Md.s.o,T.lst []),none,none,none,none] =
    .nx [some (m1,T.tup [T.str (q "row"),a.th]),some (Md.s,T.lst ts),some (Md.s.o,T.lst (ts.flatMap ae)),ts.getLast?.map fun t=>(Md.s,t),none,none,none]:=by
   refine eT (fun p=>[some (m1,T.tup [T.str (q "row"),a.th]),some (Md.s,T.lst ts),some (Md.s.o,T.lst (p.flatMap ae)),p.getLast?.map fun t=>(Md.s,t),none,none,none]) ts [] fun p t r e=>?_
   obtain ⟨us,rfl,_,_⟩:=h t (by simp at e; rw [e]; simp)
   refine ⟨_,rfl,?_⟩
   have hle:((p.flatMap ae).length+us.length<=LIM):=by
    have e':ts=p++.lst us::r:=e
    rw [e',a07,a0F,a0g,a0g] at hl
    have:(ae (.lst us)).length=us.length:=rfl
    omega
   simp_all only [if_pos hle,a07,a0F,a2U,ae,a1F,a1v,a2h]
  have c1:=fun o0 o2 o3 o4 o5=>qU (F:=C (n+a.deep+1)) h [o0,none,o2,o3,o4,o5,none] 6 (fun _=>rfl) (fun _=>rfl)
  simp_all only [bx,Kd.th,qeq,lp,c1,aZ (fun _=>Md.d),e1,eg,flatT]
theorem of_PT:∀ (k:Kd) (t:T),OfK k t->PT (k.deep+1) t
 | .num,t,h=>by obtain ⟨i,rfl,_⟩:=h; exact a0H
 | .truth,t,h=>by obtain ⟨i,rfl⟩:=h; exact a0H
 | .pair a b,t,h=>by
  obtain ⟨x,y,rfl,h1,h2⟩:=h
  have mono:∀ (d e:Nat) (t:T),d<=e->PT d t->PT e t:=PTm
  intro u hu
  rcases a0l.mp hu with z | z
  ·rw [z]; exact mono _ _ _ (by show a.deep+1<=max a.deep b.deep+1; omega) (of_PT a x h1)
  ·rw [a0w.mp z]; exact mono _ _ _ (by show b.deep+1<=max a.deep b.deep+1; omega) (of_PT b y h2)
 | .row a,t,h=>by
  obtain ⟨ts,rfl,_,h1⟩:=h
  exact fun u hu=>of_PT a u (h1 u hu)
where
 PTm:∀ (d e:Nat) (t:T),d<=e->PT d t->PT e t
  | _,0,.bl _,_,_=>a0H
  | _,_+1,.bl _,_,_=>a0H
  | _,0,.int _,_,_=>a0H
  | _,_+1,.int _,_,_=>a0H
  | d+1,e+1,.tup ts,h,p=>fun u hu=>PTm d e u (by omega) (p u hu)
  | d+1,e+1,.lst ts,h,p=>fun u hu=>PTm d e u (by omega) (p u hu)
  | 0,_,.tup _,_,p=>p.elim
  | 0,_,.lst _,_,p=>p.elim
  | _,0,.non,_,_=>a0H
  | _,_+1,.non,_,_=>a0H
  | _,0,.str _,_,_=>a0H
  | _,_+1,.str _,_,_=>a0H
  | 0,_,.dct _ _,_,p=>p.elim
  | _+1,_,.dct _ _,_,p=>p.elim
  | 0,_,.ins _ _ _,_,p=>p.elim
  | _+1,_,.ins _ _ _,_,p=>p.elim
  | 0,_,.scr _,_,p=>p.elim
  | _+1,_,.scr _,_,p=>p.elim
  | 0,_,.gone,_,p=>p.elim
  | _+1,_,.gone,_,p=>p.elim
theorem iw {n:Nat}:∀ {ts:List T},(∀ u∈ts,dp u<=n)->dps ts<=n
 | [],_=>a0Y _
 | t::ts,h=>by
  have h1:=h t a0d
  have h2:=iw fun u hu=>h u (a0c _ hu)
  show max (dp t) (dps ts)<=n
  omega
theorem gi:∀ (k:Kd) (ts:List T),(∀ t∈ts,OfK k t)->dp (flatT k ts)<=k.deep+1
 | .num,ts,h=>a1Y (iw (n:=0) fun u hu=>by obtain ⟨i,rfl,_⟩:=h u hu; exact a0h _)
 | .truth,ts,h=>a1Y (iw (n:=0) fun u hu=>by obtain ⟨i,rfl⟩:=h u hu; exact a0h _)
 | .pair a b,ts,h=>by
  have h1:=gi a _ (bI h).1
  have h2:=gi b _ (bI h).2
  show max (dp _) (max (dp _) 0)+1<=max a.deep b.deep+1+1
  omega
 | .row a,ts,h=>by
  have h1:=gi a _ (cU h)
  have h2:dp (.lst (ts.map aV))<=1:=a1Y (iw (n:=0) fun u hu=>by obtain ⟨i,_,rfl⟩:=a0t.mp hu; exact a0h _)
  show max (dp _) (max (dp _) 0)+1<=a.deep+1+1
  omega
theorem lB (ns:List Int):leaves (ns.map T.int)=true:=a0L.mpr fun t ht=>by obtain ⟨i,_,rfl⟩:=a0t.mp ht; rfl
theorem uv {d e:Nat}{t:T}(h:d<=e)(p:PT d t):PT e t:=of_PT.PTm d e t h p
theorem d9:∀ (k:Kd) (ts:List T),(∀ t∈ts,OfK k t)->PT (k.deep+2) (flatT k ts)
 | .num,ts,h=>fun u hu=>by obtain ⟨i,rfl,_⟩:=h u hu; exact a0H
 | .truth,ts,h=>fun u hu=>by obtain ⟨i,rfl⟩:=h u hu; exact a0H
 | .pair a b,ts,h=>by
  have h1:=d9 a _ (bI h).1
  have h2:=d9 b _ (bI h).2
  intro u hu
  rcases a0l.mp hu with z | z
  ·rw [z]; exact uv (by show a.deep+2<=max a.deep b.deep+1+1; omega) h1
  ·rw [a0w.mp z]; exact uv (by show b.deep+2<=max a.deep b.deep+1+1; omega) h2
 | .row a,ts,h=>by
  have h1:=d9 a _ (cU h)
  intro u hu
  rcases a0l.mp hu with z | z
  ·rw [z]; exact fun v hv=>by obtain ⟨x,_,rfl⟩:=a0t.mp hv; exact a0H
  ·rw [a0w.mp z]; exact uv (by show a.deep+2<=a.deep+1+1; omega) h1
theorem yC {n:Nat}{t:T}(h:dp t<=n)(h2:dp t<=64):C (n+1) 95 [(.d,t)]=.ok ((.d,.non),[]):=by
 have h1:(lf .d t==Md.d&&(decide (dp t<=n)&&decide (dp t<=64)))=true:=by
  rw [qz,decide_eq_true h,decide_eq_true h2]; rfl
 exact if_pos h1
noncomputable def nT (i:Nat):T:=.int (i:Int)
noncomputable def ag (is:List Nat):List T:=is.map nT
theorem dh (is:List Nat):(ag is).length=is.length:=a0b ..
theorem fZ (is:List Nat):leaves (ag is)=true:=a0L.mpr fun t ht=>by obtain ⟨i,_,rfl⟩:=a0t.mp ht; rfl
theorem jH {is:List Nat}{j i:Nat}(h:is[j]?=some i):atI (ag is) (j:Int)=some (nT i):=atN rfl (by rw [ag,a0x,h]; rfl)
theorem AB {ts:List T}{j:Nat}(h:j < ts.length):atI ts (j:Int)=some (ts.getD j .non):=atN rfl (by rw [a0i,a0k h]; rfl)
theorem lO {α:Type}{tg:List Nat}{f:Env->Fl}{g:α->List W}(I:List α->Env->Prop):∀ (ts pre:List α) (η:Env),I pre η->(∀ p x r η,pre++ts=p++x::r->I p η->∃ η1 η2,bindT tg (g x) η=some η1/\f η1=.nx η2/\I (p++[x]) η2) ->
  ∃ η',forL tg f (ts.map g) η=.nx η'/\I (pre++ts) η'
 | [],pre,η,h,_=>⟨η,rfl,by rw [a0y]; exact h⟩
 | x::ts,pre,η,h,k=>by
  obtain ⟨η1,η2,h1,h2,h3⟩:=k pre x ts η rfl h
  obtain ⟨η',e,hi⟩:=lO I ts (pre++[x]) η2 h3 fun p y r η e=>k p y r η (by rw [<- e,a0C]; rfl)
  refine ⟨η',?_,by rw [a0C] at hi; exact hi⟩
  rw [a0n]
  show Fl.of _ (ofO (bindT tg (g x) η)) _=_
  rw [h1]
  show Fl.turn (f η1) _=_
  rw [h2]
  exact e
theorem nF {c:Env->Res (Bool×Env)}{f:Env->Fl}(I:Nat->Env->Prop)(P:Env->Prop):∀ (N m:Nat) (η:Env),m < N->I m η->(∀ m η,I m η->(∃ η',c η=.ok (false,η')/\P η')\/∃ η1 η2 m',c η=.ok (true,η1)/\f η1=.nx η2/\m' < m/\I m' η2) ->
  ∃ η',jG c f N η=.nx η'/\P η'
 | 0,_,_,h,_,_=>by omega
 | N+1,m,η,h,hi,k=>by
  rcases k m η hi with ⟨η',h1,h2⟩ | ⟨η1,η2,m',h1,h2,h3,h4⟩
  ·refine ⟨η',?_,h2⟩
   show Fl.of η (c η) _=_
   rw [h1]; rfl
  ·obtain ⟨η',e,p⟩:=nF I P N m' η2 (by omega) h4 k
   refine ⟨η',?_,p⟩
   show Fl.of η (c η) _=_
   rw [h1]
   show Fl.turn (f η1) _=_
   rw [h2]; exact e
theorem iZ (m:Md):∀ (ts:List T) (i:Nat),eQ m i ts=(ts.zipIdx i).map fun p=>[(.d,.int (p.2:Int)),(m,p.1)]
 | [],_=>rfl
 | t::ts,i=>by show _::eQ m (i+1) ts=_; rw [iZ m ts]; rfl
theorem il (m n:Md):∀ (ts us:List T),cS m n ts us=(ts.zip us).map fun p=>[(m,p.1),(n,p.2)]
 | [],us=>rfl
 | t::ts,[]=>rfl
 | t::ts,u::us=>by show _::cS m n ts us=_; rw [il m n ts us]; rfl
theorem dk {α:Type}(ts:List α)(j:Nat):cut ts none (some (j:Int))=ts.take j:=by
 show (ts.drop 0).take ((if (j:Int) < 0 then ((j:Int)+ts.length).toNat else min (j:Int).toNat ts.length)-0)=_
 rw [if_neg (by omega),a1G,Nat.sub_zero,a3F]
 by_cases h:j<=ts.length
 ·rw [a2a h]
 ·rw [a1Z (by omega),a1i (a0h _),a1i (by omega)]
theorem uN (l:List Nat):(l.map fun (i:Nat)=>(i:Int)).sum=((l.sum:Nat):Int):=by
 induction l with
 | nil=>rfl
 | cons x l ih=>rw [a0n,a1R,a1R,ih]; omega
theorem fX:∀ l:List Nat,intsOf (ag l)=some (l.map fun (i:Nat)=>(i:Int))
 | []=>rfl
 | i::l=>by show (intsOf (ag l)).map _=_; rw [fX l]; rfl
noncomputable def aO (ts:List T):List Nat:=ts.map fun t=>(ae t).length
theorem fJ (ts:List T):ts.map aV=ag (aO ts):=by rw [ag,aO,a0v]; rfl
theorem fm (ts:List T):(aO ts).sum=(ts.flatMap ae).length:=by rw [List.length_flatMap]; rfl
theorem eW (ts:List T):(aO ts).length=ts.length:=a0b ..
theorem lM {α:Type}{p:α->Prop}{ts:List α}{j:Nat}(h:∀ t∈ts,p t):∀ t∈ts.take j,p t:=fun t ht=>h t (a2o ht)
theorem pR (ts:List T)(j:Nat):(ts.flatMap ae).take ((ts.take j).flatMap ae).length=(ts.take j).flatMap ae:=by
 conv=>lhs; arg 2; rw [<- a00 j ts]
 rw [a07,a3a]
noncomputable def aU (ts:List T)(is:List Nat):List T:=is.map fun i=>ts.getD i .non
theorem i7 {p:T->Prop}{ts:List T}{is:List Nat}(h:∀ t∈ts,p t)(hi:∀ i∈is,i < ts.length):∀ t∈aU ts is,p t:=fun t ht=>by
 obtain ⟨i,hi',rfl⟩:=a0t.mp ht
 have:=hi i hi'
 rw [a0i,a0k this]
 exact h _ (a2l this)
theorem eh {g:T->T}(ts:List T){is:List Nat}(hi:∀ i∈is,i < ts.length):aU (ts.map g) is=(aU ts is).map g:=by
 rw [aU,aU,a0v]
 refine a1z fun i h=>?_
 have:=hi i h
 simp only [a1m]
 rw [a0i,a0i,a0x,a0k this]
 rfl
noncomputable def off (l:List Nat)(i:Nat):Nat:=(l.take i).sum
noncomputable def tng (l:List Nat)(is:List Nat):List Nat:=is.flatMap fun i=>(a0B (l.getD i 0)).map fun k=>off l i+k
theorem rS (l:List Nat)(i:Nat):off l i+l.getD i 0<=l.sum:=by
 unfold off
 conv=>rhs; rw [<- a00 i l]
 rw [a2r]
 by_cases h:i < l.length
 ·rw [a1E h,a1R,a0i,a0k h]
  show (l.take i).sum+l[i]<=_
  omega
 ·rw [a0i,a2j (by omega)]
  show (l.take i).sum+0<=_
  omega
theorem yK {l is:List Nat}:∀ j∈tng l is,j < l.sum:=fun j hj=>by
 obtain ⟨i,_,h2⟩:=a2T.mp hj
 obtain ⟨k,h3,rfl⟩:=a0t.mp h2
 have:=rS l i
 have:=a1V.mp h3
 omega
theorem eV (ts:List T):∀ (is:List Nat),(∀ i∈is,i < ts.length)->aU (ts.flatMap ae) (tng (aO ts) is)=(aU ts is).flatMap ae
 | [],_=>rfl
 | i::is,h=>by
  have hi:=h i a0d
  have e:aU (ts.flatMap ae) (tng (aO ts) (i::is))=aU (ts.flatMap ae) ((a0B ((aO ts).getD i 0)).map fun k=>off (aO ts) i+k)++aU (ts.flatMap ae) (tng (aO ts) is):=by
   rw [aU,aU,aU,<- a0Q]; rfl
  rw [e,eV ts is fun j hj=>h j (a0c _ hj)]
  show _=ae (ts.getD i .non)++_
  congr 1
  have e1:ts.getD i .non=ts[i]:=by rw [a0i,a0k hi]; rfl
  have e2:(aO ts).getD i 0=(ae ts[i]).length:=by rw [a0i,aO,a0x,a0k hi]; rfl
  have e3:off (aO ts) i=((ts.take i).flatMap ae).length:=by rw [off,aO,<- a1C,<- fm]; rfl
  have e4:ts.flatMap ae=(ts.take i).flatMap ae++(ae ts[i]++(ts.drop (i+1)).flatMap ae):=by
   conv=>lhs; rw [<- a00 i ts,a1E hi]
   rw [a07,a0F]
  rw [e1,e2,e3,aU,a0v]
  refine List.ext_getElem? fun k=>?_
  rw [a0x]
  by_cases hk:k < (ae ts[i]).length
  ·rw [a2u hk,a0k hk]
   simp only [a25,a1m]
   rw [a0i,e4,a0I (by omega),a1I,a0R hk,a0k hk]
   rfl
  ·rw [a2j (by simpa using hk),a2j (by omega)]
   rfl
theorem uF (ts:List T){is:List Nat}(h:∀ i∈is,i < ts.length):(tng (aO ts) is).length=((aU ts is).flatMap ae).length:=by
 rw [<- eV ts is h,aU,a0b]
theorem many:∀ (k:Kd) (n:Nat) (ts:List T) (m1 m:Md),C (n+k.deep+1) 11 [(m1,k.th),(m,flatT k ts)]=.ok ((.d,.int (ts.length:Nat)),[])
 | .num,n,ts,m1,m=>by
  rw [dz,x_run _ _ _ rfl]
  simp_all only [bA,Kd.th,qeq,flatT]
 | .truth,n,ts,m1,m=>by
  rw [dz,x_run _ _ _ rfl]
  simp_all only [bA,Kd.th,qeq,flatT]
 | .pair a b,n,ts,m1,m=>by
  have e1:=fun m1 m=>many a (n+(max a.deep b.deep-a.deep)) (ts.map fst) m1 m
  rw [show n+(max a.deep b.deep-a.deep)+a.deep+1=n+max a.deep b.deep+1 by omega] at e1
  rw [show n+(Kd.pair a b).deep+1=(n+max a.deep b.deep+1)+1 from rfl,dz,x_run _ _ _ rfl]
  simp_all only [bA,Kd.th,qeq,flatT,e1,a0b]
 | .row a,n,ts,m1,m=>by
  rw [show n+(Kd.row a).deep+1=(n+a.deep+1)+1 from rfl,dz,x_run _ _ _ rfl]
  simp_all only [bA,Kd.th,qeq,flatT,a0b]
theorem kl:∀ (k:Kd) (n:Nat) (ts:List T) (j:Nat) (m1 m m2:Md),(∀ t∈ts,OfK k t)->C (n+k.deep+1) 19 [(m1,k.th),(m,flatT k ts),(m2,.int (j:Nat))]=.ok ((.d,flatT k (ts.take j)),[])
 | .num,n,ts,j,m1,m,m2,h=>by
  rw [bZ,x_run _ _ _ rfl]
  simp_all only [aQ,Kd.th,qeq,flatT,dk,dE (lM (j:=j) h)]
 | .truth,n,ts,j,m1,m,m2,h=>by
  rw [bZ,x_run _ _ _ rfl]
  simp_all only [aQ,Kd.th,qeq,flatT,dk,cB (lM (j:=j) h)]
 | .pair a b,n,ts,j,m1,m,m2,h=>by
  have e1:=fun m1 m m2=>kl a (n+(max a.deep b.deep-a.deep)) (ts.map fst) j m1 m m2 (bI h).1
  have e2:=fun m1 m m2=>kl b (n+(max a.deep b.deep-b.deep)) (ts.map snd) j m1 m m2 (bI h).2
  rw [show n+(max a.deep b.deep-a.deep)+a.deep+1=n+max a.deep b.deep+1 by omega] at e1
  rw [show n+(max a.deep b.deep-b.deep)+b.deep+1=n+max a.deep b.deep+1 by omega] at e2
  rw [show n+(Kd.pair a b).deep+1=(n+max a.deep b.deep+1)+1 from rfl,bZ,x_run _ _ _ rfl]
  simp_all only [aQ,Kd.th,qeq,flatT,e1,e2,a1C]
 | .row a,n,ts,j,m1,m,m2,h=>by
  have e1:=fun m1 m m2=>kl a n (ts.flatMap ae) ((ts.take j).flatMap ae).length m1 m m2 (cU h)
  rw [show n+(Kd.row a).deep+1=(n+a.deep+1)+1 from rfl,bZ,x_run _ _ _ rfl]
  have lv:=fZ (aO (ts.take j))
  have e2:(ag (aO ts)).take j=ag (aO (ts.take j)):=by rw [ag,ag,aO,aO,a1C,a1C]
  simp_all only [aQ,Kd.th,qeq,flatT,dk,e2,lv,fX,uN,fm,e1,pR,fJ]
theorem gA:∀ (k:Kd) (n:Nat) (ts us:List T) (m1 m m2:Md),(∀ t∈ts,OfK k t)->(∀ t∈us,OfK k t)->szs ts+szs us<=LIM->C (n+k.deep+1) 15 [(m1,k.th),(m,flatT k ts),(m2,flatT k us)]=.ok ((.d,flatT k (ts++us)),[])
 | .num,n,ts,us,m1,m,m2,h,h',hs=>by
  have hf:fits (ts.length+us.length)=true:=decide_eq_true (by have:=bp ts; have:=bp us; omega)
  rw [d8,x_run _ _ _ rfl]
  simp_all only [b8,Kd.th,qeq,flatT,hf,dE (fun t ht=>(a0O.mp ht).elim (h t) (h' t))]
 | .truth,n,ts,us,m1,m,m2,h,h',hs=>by
  have hf:fits (ts.length+us.length)=true:=decide_eq_true (by have:=bp ts; have:=bp us; omega)
  rw [d8,x_run _ _ _ rfl]
  simp_all only [b8,Kd.th,qeq,flatT,hf,cB (fun t ht=>(a0O.mp ht).elim (h t) (h' t))]
 | .pair a b,n,ts,us,m1,m,m2,h,h',hs=>by
  have q1:=dC h
  have q2:=dC h'
  have e1:=fun m1 m m2=>gA a (n+(max a.deep b.deep-a.deep)) (ts.map fst) (us.map fst) m1 m m2 (bI h).1 (bI h').1 (by omega)
  have e2:=fun m1 m m2=>gA b (n+(max a.deep b.deep-b.deep)) (ts.map snd) (us.map snd) m1 m m2 (bI h).2 (bI h').2 (by omega)
  rw [show n+(max a.deep b.deep-a.deep)+a.deep+1=n+max a.deep b.deep+1 by omega] at e1
  rw [show n+(max a.deep b.deep-b.deep)+b.deep+1=n+max a.deep b.deep+1 by omega] at e2
  rw [show n+(Kd.pair a b).deep+1=(n+max a.deep b.deep+1)+1 from rfl,d8,x_run _ _ _ rfl]
  simp_all only [b8,Kd.th,qeq,flatT,e1,e2,a0Q]
 | .row a,n,ts,us,m1,m,m2,h,h',hs=>by
  have q1:=bE h
  have q2:=bE h'
  have hf:fits ((ag (aO ts)).length+(ag (aO us)).length)=true:=decide_eq_true (by rw [dh,dh,eW,eW]; have:=bp ts; have:=bp us; omega)
  have lv:leaves (ag (aO ts)++ag (aO us))=true:=by rw [ag,ag,<- a0Q]; exact fZ _
  have e1:=fun m1 m m2=>gA a n (ts.flatMap ae) (us.flatMap ae) m1 m m2 (cU h) (cU h') (by omega)
  have e2:ag (aO (ts++us))=ag (aO ts)++ag (aO us):=by rw [ag,ag,ag,aO,a0Q,a0Q]; rfl
  rw [show n+(Kd.row a).deep+1=(n+a.deep+1)+1 from rfl,d8,x_run _ _ _ rfl]
  simp_all only [b8,Kd.th,qeq,flatT,fJ,hf,lv,e1,e2,a07]
theorem rO (h:Bool)(m m':Md)(a l:Nat)(hb:a+l<=LIM):oSem .rng h [(m,.int (a:Int)),(m',.int ((a:Int)+(l:Int)))]=some (.d,.lst (ag ((a0B l).map fun k=>a+k))):=by
 have hL:LIM=16777215:=rfl
 rw [CY,decide_eq_true (by omega:(a:Int).natAbs < 4611686018427387904),decide_eq_true (by omega:((a:Int)+(l:Int)).natAbs < 4611686018427387904),show ((a:Int)+(l:Int)-(a:Int)).toNat=l by omega,show fits l=true from decide_eq_true (by omega)]
 rw [ag,a0v]
 rfl
theorem things (n:Nat)(l is:List Nat)(m1 m:Md)(hi:∀ i∈is,i < l.length)(hb:l.sum+l.length<=LIM)(ht:(tng l is).length<=LIM):C (n+1) 14 [(m1,.lst (ag l)),(m,.lst (ag is))]=.ok ((.d,.lst (ag (tng l is))),[]):=by
 rw [kh,x_run _ _ _ rfl]
 have lp:forL [4] (evSs (C n) [.app (.q [] [3]) 2 (.var 3),.asg (.q [] [3,4]) 3 (.op .add false [.var 3,.var 4])]) ((ag l).map fun t=>[((Md.s,t):W)]) [some (Md.s,T.lst (ag l)),some (m,T.lst (ag is)),some (Md.d,T.lst []),some (Md.d,T.int 0),none,none,none] =
   .nx [some (Md.s,T.lst (ag l)),some (m,T.lst (ag is)),some (Md.d,T.lst (ag ((a0B l.length).map (off l)))),some (Md.d,T.int ((l.sum:Nat):Int)),l.getLast?.map fun i=>(Md.s,nT i),none,none]:=by
  rw [ag,a0v]
  refine eT (fun p=>[some (Md.s,T.lst (ag l)),some (m,T.lst (ag is)),some (Md.d,T.lst (ag ((a0B p.length).map (off l)))),some (Md.d,T.int ((p.sum:Nat):Int)),p.getLast?.map fun i=>(Md.s,nT i),none,none]) l [] fun p x r e=>⟨_,rfl,?_⟩
  have e':l=p++x::r:=e
  have hl:(ag ((a0B p.length).map (off l))).length < LIM:=by
   rw [dh,a0b,a1l]
   have:=congrArg a1H e'
   rw [a0g,a0f] at this
   omega
  have h1:ag ((a0B (p++[x]).length).map (off l))=ag ((a0B p.length).map (off l))++[T.int ((p.sum:Nat):Int)]:=by
   rw [a0g,a0A,List.range_succ,a0Q,ag,a0Q]
   show _++[nT (off l p.length)]=_
   rw [show off l p.length=p.sum by rw [off,e',a3a]]
   rfl
  have h2:(((p++[x]).sum:Nat):Int)=(p.sum:Int)+(x:Int):=by rw [a2r,List.sum_singleton]; omega
  simp_all only [a1m,nT,if_pos hl,h1,h2,a1F,a1v,a2h]
 have lq:forL [6] (evSs (C n) [.ext (.q [0,2] [6]) 5 (.op .rng false [.op .ix false [.var 2,.var 6],.op .add false [.op .ix false [.var 2,.var 6],.op .ix false [.var 0,.var 6]]])]) ((ag is).map fun t=>[((Md.s,t):W)]) [some (Md.s,T.lst (ag l)),some (Md.s,T.lst (ag is)),some (Md.d,T.lst (ag ((a0B l.length).map (off l)))),some (Md.d,T.int ((l.sum:Nat):Int)),l.getLast?.map fun i=>(Md.s,nT i),some (Md.d,T.lst []),none] =
   .nx [some (Md.s,T.lst (ag l)),some (Md.s,T.lst (ag is)),some (Md.d,T.lst (ag ((a0B l.length).map (off l)))),some (Md.d,T.int ((l.sum:Nat):Int)),l.getLast?.map fun i=>(Md.s,nT i),some (Md.d,T.lst (ag (tng l is))),is.getLast?.map fun i=>(Md.s,nT i)]:=by
  rw [ag,a0v]
  refine eT (fun p=>[some (Md.s,T.lst (ag l)),some (Md.s,T.lst (ag is)),some (Md.d,T.lst (ag ((a0B l.length).map (off l)))),some (Md.d,T.int ((l.sum:Nat):Int)),l.getLast?.map fun i=>(Md.s,nT i),some (Md.d,T.lst (ag (tng l p))),p.getLast?.map fun i=>(Md.s,nT i)]) is [] fun p x r e=>⟨_,rfl,?_⟩
  have e':is=p++x::r:=e
  have hx:x < l.length:=hi x (by rw [e']; simp)
  have a1:atI (ag ((a0B l.length).map (off l))) (x:Int)=some (.int (off l x:Nat)):=jH (by rw [a0x,a2u hx]; rfl)
  have a2:atI (ag l) (x:Int)=some (.int (l.getD x 0:Nat)):=jH (by rw [a0i,a0k hx]; rfl)
  have a3:=rS l x
  have h1:tng l (p++[x])=tng l p++(a0B (l.getD x 0)).map fun k=>off l x+k:=by rw [tng,a07]; show _++(_++[])=_; rw [a0y]; rfl
  have h2:ag (tng l (p++[x]))=ag (tng l p)++ag ((a0B (l.getD x 0)).map fun k=>off l x+k):=by rw [h1,ag,a0Q]; rfl
  have hle:(ag (tng l p)).length+(ag ((a0B (l.getD x 0)).map fun k=>off l x+k)).length<=LIM:=by
   rw [<- a0g,<- h2,dh]
   have h3:tng l is=tng l (p++[x])++tng l r:=by
    rw [e',show p++x::r=(p++[x])++r by simp]
    exact a07
   rw [h3,a0g] at ht
   omega
  have rg:=fun h m m'=>rO h m m' (off l x) (l.getD x 0) (by omega)
  simp_all only [a1m,nT,a1,a2,rg,if_pos hle,h2,a1F,a1v,a2h]
 simp_all only [cc,lp,lq]
theorem ek {a:Kd}:∀ {ts:List T},(∀ t∈ts,OfK (.row a) t)->(ts.flatMap ae).length+ts.length<=szs ts
 | [],_=>a0h _
 | t::ts,h=>by
  obtain ⟨us,rfl,_,_⟩:=h t a0d
  have:=ek fun u hu=>h u (a0c _ hu)
  have:=bp us
  rw [a0F,a0g]
  show us.length+_+(ts.length+1)<=(szs us+1)+szs ts
  omega
theorem i5 {F:Call}{ts:List T}{is:List Nat}(hi:∀ i∈is,i < ts.length)(η:Env)(s v:Nat)(hs:∀ i,rd (put η s (.s,.int (i:Int))) s=some (.s,.int (i:Int)))(hv:∀ i,rd (put η s (.s,.int (i:Int))) v=some (.s,.lst ts))(hd:∀ i,aj [s] (put η s (.s,.int (i:Int)))=η) :
  az [s] (bq (evE F (.op .ix false [.var v,.var s]))) ((ag is).map fun t=>[((.s,t):W)]) η []=.ok ([]++is.map fun i=>(.s,ts.getD i .non),η):=by
 rw [ag,a0v]
 refine au (fun i=>((.s,ts.getD i .non):W)) is [] fun i h=>⟨_,put η s (.s,.int (i:Int)),rfl,?_,hd i⟩
 have a1:=AB (hi i h)
 simp_all only [nT,hs,hv,a1]
theorem ey {α:Type}{m:Md}{g:α->T}{l:List α}(h:∀ x∈l,(g x).leaf=true):(l.map fun x=>((m,g x):W)).all okD=true:=a0L.mpr fun w hw=>by
 obtain ⟨x,hx,rfl⟩:=a0t.mp hw
 show (_ || (g x).leaf)=true
 rw [h x hx,a1g]
theorem ng {ts:List T}(h:leaves ts=true){is:List Nat}(hi:∀ i∈is,i < ts.length):∀ i∈is,(ts.getD i .non).leaf=true:=fun i h'=>by
 have:=hi i h'
 rw [a0i,a0k this]
 exact a0L.mp h _ (a2l this)
theorem oQ (ts:List T){is:List Nat}(hi:∀ i∈is,i < ts.length):(is.map fun i=>(aO ts).getD i 0)=aO (aU ts is):=by
 rw [aU,aO,aO,a0v]
 refine a1z fun i h=>?_
 have:=hi i h
 simp only [a1m]
 rw [a0i,a0i,a0x,a0k this]
 rfl
theorem fk:∀ (k:Kd) (n:Nat) (ts:List T) (is:List Nat) (m1 m m2:Md),(∀ t∈ts,OfK k t)->(∀ i∈is,i < ts.length)->szs ts<=LIM->szs (aU ts is)<=LIM->C (n+k.deep+1) 13 [(m1,k.th),(m,flatT k ts),(m2,.lst (ag is))]=.ok ((.d,flatT k (aU ts is)),[])
 | .num,n,ts,is,m1,m,m2,h,hi,_,_=>by
  rw [bL,x_run _ _ _ rfl]
  have c1:=fun o0 o2 o3 o4=>i5 (F:=C (n+Kd.num.deep)) hi [o0,some (.s,.lst ts),o2,o3,o4,none] 5 1 (fun _=>rfl) (fun _=>rfl) (fun _=>rfl)
  simp_all only [aL,Kd.th,qeq,flatT,c1,ey (ng (dE h) hi),aZ (fun _=>Md.s),aU]
 | .truth,n,ts,is,m1,m,m2,h,hi,_,_=>by
  rw [bL,x_run _ _ _ rfl]
  have c1:=fun o0 o2 o3 o4=>i5 (F:=C (n+Kd.truth.deep)) hi [o0,some (.s,.lst ts),o2,o3,o4,none] 5 1 (fun _=>rfl) (fun _=>rfl) (fun _=>rfl)
  simp_all only [aL,Kd.th,qeq,flatT,c1,ey (ng (cB h) hi),aZ (fun _=>Md.s),aU]
 | .pair a b,n,ts,is,m1,m,m2,h,hi,hs,hs2=>by
  have q1:=dC h
  have q2:=dC (ts:=aU ts is) (i7 h hi)
  have hi1:∀ i∈is,i < (ts.map fst).length:=fun i z=>by rw [a0b]; exact hi i z
  have hi2:∀ i∈is,i < (ts.map snd).length:=fun i z=>by rw [a0b]; exact hi i z
  have e1:=fun m1 m m2=>fk a (n+(max a.deep b.deep-a.deep)) (ts.map fst) is m1 m m2 (bI h).1 hi1 (by omega) (by rw [eh ts hi]; omega)
  have e2:=fun m1 m m2=>fk b (n+(max a.deep b.deep-b.deep)) (ts.map snd) is m1 m m2 (bI h).2 hi2 (by omega) (by rw [eh ts hi]; omega)
  rw [show n+(max a.deep b.deep-a.deep)+a.deep+1=n+max a.deep b.deep+1 by omega,eh ts hi] at e1
  rw [show n+(max a.deep b.deep-b.deep)+b.deep+1=n+max a.deep b.deep+1 by omega,eh ts hi] at e2
  rw [show n+(Kd.pair a b).deep+1=(n+max a.deep b.deep+1)+1 from rfl,bL,x_run _ _ _ rfl]
  simp_all only [aL,Kd.th,qeq,flatT,e1,e2]
 | .row a,n,ts,is,m1,m,m2,h,hi,hs,hs2=>by
  have h':=i7 h hi
  have q1:=bE h
  have q2:=bE h'
  have q3:=ek h
  have q4:=ek h'
  have hl:∀ i∈is,i < (aO ts).length:=fun i z=>by rw [eW]; exact hi i z
  have e0:=fun m1 m=>things (n+a.deep) (aO ts) is m1 m hl (by rw [fm,eW]; omega) (by rw [uF ts hi]; omega)
  have e1:=fun m1 m m2=>fk a n (ts.flatMap ae) (tng (aO ts) is) m1 m m2 (cU h) (fun i z=>by rw [<- fm]; exact yK i z) (by omega) (by rw [eV ts is hi]; omega)
  rw [eV ts is hi] at e1
  have hl2:∀ i∈is,i < (ag (aO ts)).length:=fun i z=>by rw [dh]; exact hl i z
  have c1:az [4] (bq (evE (C (n+a.deep+1)) (.op .ix false [.op .ix false [.var 1,.cst (.int 0)],.var 4]))) ((ag is).map fun t=>[((.s,t):W)]) [none,some (.s,.tup [.lst (ag (aO ts)),flatT a (ts.flatMap ae)]),some (.s,.lst (ag is)),none,none,none] []=.ok ([]++is.map fun i=>(.s,nT ((aO ts).getD i 0)),[none,some (.s,.tup [.lst (ag (aO ts)),flatT a (ts.flatMap ae)]),some (.s,.lst (ag is)),none,none,none]):=by
   rw [ag,a0v]
   refine au (fun i=>((.s,nT ((aO ts).getD i 0)):W)) is [] fun i h=>⟨_,[none,some (.s,.tup [.lst (ag (aO ts)),flatT a (ts.flatMap ae)]),some (.s,.lst (ag is)),none,some (.s,nT i),none],rfl,?_,rfl⟩
   have a1:atI (ag (aO ts)) (i:Int)=some (.int ((aO ts).getD i 0:Nat)):=jH (by rw [a0i,a0k (hl i h)]; rfl)
   simp_all only [nT,a1]
   rfl
  have e3:(is.map fun i=>nT ((aO ts).getD i 0))=ag (aO (aU ts is)):=by rw [<- oQ ts hi,ag,a0v]; rfl
  rw [show n+(Kd.row a).deep+1=(n+a.deep+1)+1 from rfl,bL,x_run _ _ _ rfl]
  simp_all only [aL,Kd.th,qeq,flatT,fJ,c1,ey (m:=.s) (g:=fun i=>nT ((aO ts).getD i 0)) (l:=is) (fun _ _=>rfl),aZ (fun _=>Md.s),e3,e0,e1]
noncomputable def aJ (bs:List Bool):List T:=bs.map T.bl
noncomputable def mgN:Nat->Nat->List Bool->List Nat
 | _,_,[]=>[]
 | a,b,true::bs=>a::mgN (a+1) b bs
 | a,b,false::bs=>b::mgN a (b+1) bs
noncomputable def mrg:List Bool->List T->List T->List T
 | true::bs,t::ts,us=>t::mrg bs ts us
 | false::bs,ts,u::us=>u::mrg bs ts us
 | _,_,_=>[]
theorem jS:∀ (p:List Bool) (x:Bool) (a b:Nat),mgN a b (p++[x])=mgN a b p++[if x then a+p.count true else b+p.count false]
 | [],x,a,b=>by cases x<;>rfl
 | true::p,x,a,b=>by
  show a::mgN (a+1) b (p++[x])=a::(mgN (a+1) b p++_)
  rw [jS p x,show (true::p).count true=p.count true+1 by simp,show (true::p).count false=p.count false by simp,show a+1+p.count true=a+(p.count true+1) by omega]
 | false::p,x,a,b=>by
  show b::mgN a (b+1) (p++[x])=b::(mgN a (b+1) p++_)
  rw [jS p x,show (false::p).count true=p.count true by simp,show (false::p).count false=p.count false+1 by simp,show b+1+p.count false=b+(p.count false+1) by omega]
theorem jM:∀ (p:List Bool) (a b:Nat),(mgN a b p).length=p.length
 | [],_,_=>rfl
 | true::p,a,b=>by show (mgN (a+1) b p).length+1=_; rw [jM p]; rfl
 | false::p,a,b=>by show (mgN a (b+1) p).length+1=_; rw [jM p]; rfl
theorem l8:∀ (bs:List Bool) (a b A B:Nat),a+bs.count true<=A->b+bs.count false<=B->A<=B->∀ i∈mgN a b bs,i < B\/(i < A/\A<=B)
 | [],_,_,_,_,_,_,_,_,h=>by cases h
 | true::bs,a,b,A,B,h1,h2,h3,i,h=>by
  rw [show (true::bs).count true=bs.count true+1 by simp] at h1
  rw [show (true::bs).count false=bs.count false by simp] at h2
  rcases a0l.mp (show i∈a::mgN (a+1) b bs from h) with e | e
  ·right; omega
  ·exact l8 bs (a+1) b A B (by omega) h2 h3 i e
 | false::bs,a,b,A,B,h1,h2,h3,i,h=>by
  rw [show (false::bs).count true=bs.count true by simp] at h1
  rw [show (false::bs).count false=bs.count false+1 by simp] at h2
  rcases a0l.mp (show i∈b::mgN a (b+1) bs from h) with e | e
  ·left; omega
  ·exact l8 bs a (b+1) A B h1 (by omega) h3 i e
theorem iD:∀ (bs:List Bool) (p q ts us:List T),bs.count true=ts.length->bs.count false=us.length->aU ((p++ts)++(q++us)) (mgN p.length ((p++ts).length+q.length) bs)=mrg bs ts us
 | [],p,q,[],[],_,_=>rfl
 | true::bs,p,q,t::ts,us,h1,h2=>by
  rw [show (true::bs).count true=bs.count true+1 by simp] at h1
  rw [show (true::bs).count false=bs.count false by simp] at h2
  have ih:=iD bs (p++[t]) q ts us (a14 h1) h2
  rw [show p++[t]++ts=p++t::ts by simp,show (p++[t]).length=p.length+1 by simp] at ih
  show ((p++t::ts)++(q++us)).getD p.length .non::aU ((p++t::ts)++(q++us)) (mgN (p.length+1) _ bs)=t::mrg bs ts us
  rw [ih,a0i,a0C,a0I (a0h _),a3S]; rfl
 | false::bs,p,q,ts,u::us,h1,h2=>by
  rw [show (false::bs).count true=bs.count true by simp] at h1
  rw [show (false::bs).count false=bs.count false+1 by simp] at h2
  have ih:=iD bs p (q++[u]) ts us h1 (a14 h2)
  rw [show q++[u]++us=q++u::us by simp,show (q++[u]).length=q.length+1 by simp,<- Nat.add_assoc] at ih
  show ((p++ts)++(q++u::us)).getD ((p++ts).length+q.length) .non::aU ((p++ts)++(q++u::us)) (mgN p.length ((p++ts).length+q.length+1) bs)=u::mrg bs ts us
  rw [ih,a0i,a0I (by omega),a1I,a0I (a0h _),a3S]; rfl
 | [],_,_,_::_,_,h,_=>by cases h
 | [],_,_,[],_::_,_,h=>by cases h
 | true::bs,_,_,[],_,h,_=>by simp at h
 | false::bs,_,_,_,[],_,h=>by simp at h
theorem sZ (bs:List Bool):bs.count true+bs.count false=bs.length:=by
 induction bs with
 | nil=>rfl
 | cons b bs ih=>cases b<;>simp<;>omega
theorem pE (k:Kd)(n:Nat)(bs:List Bool)(ts us:List T)(m1 m0 m m2:Md)(h:∀ t∈ts,OfK k t)(h':∀ t∈us,OfK k t)(h1:bs.count true=ts.length)(h2:bs.count false=us.length)(hs:szs ts+szs us<=LIM)(hs2:szs (mrg bs ts us)<=LIM) :
  C (n+k.deep+2) 17 [(m1,k.th),(m0,.lst (aJ bs)),(m,flatT k ts),(m2,flatT k us)]=.ok ((.d,flatT k (mrg bs ts us)),[]):=by
 have hb:=sZ bs
 have l1:=bp ts
 have l2:=bp us
 have et:=iD bs [] [] ts us h1 h2
 rw [a0u,a0u,a1q,a3R] at et
 have e0:=fun m1 m=>many k n ts m1 m
 have e1:=fun m1 m m2=>gA k n ts us m1 m m2 h h' hs
 have e2:=fun m1 m m2=>fk k n (ts++us) (mgN 0 ts.length bs) m1 m m2 (fun t z=>(a0O.mp z).elim (h t) (h' t)) (fun i z=>by
  rw [a0g]
  rcases l8 bs 0 ts.length ts.length (ts.length+us.length) (by omega) (by omega) (by omega) i z with q | q<;>omega) (by rw [fv]; exact hs) (by rw [et]; exact hs2)
 rw [et] at e2
 rw [show n+k.deep+2=(n+k.deep+1)+1 from rfl,oH,x_run _ _ _ rfl]
 have lp:forL [7] (evSs (C (n+k.deep+1)) [.ite (.q [] [7]) (.var 7) [.app (.q [] [5]) 4 (.var 5),.asg (.q [] [5]) 5 (.op .add false [.var 5,.cst (.int 1)])] [.app (.q [] [6]) 4 (.var 6),.asg (.q [] [6]) 6 (.op .add false [.var 6,.cst (.int 1)])]]) ((aJ bs).map fun t=>[((Md.s,t):W)])
   [some (m1,k.th),some (.s,.lst (aJ bs)),some (m,flatT k ts),some (m2,flatT k us),some (.d,.lst []),some (.d,.int 0),some (.d,.int (ts.length:Nat)),none] =
   .nx [some (m1,k.th),some (.s,.lst (aJ bs)),some (m,flatT k ts),some (m2,flatT k us),some (.d,.lst (ag (mgN 0 ts.length bs))),some (.d,.int ((bs.count true:Nat):Int)),some (.d,.int (((ts.length+bs.count false:Nat)):Int)),bs.getLast?.map fun b=>(Md.s,T.bl b)]:=by
  rw [aJ,a0v]
  refine eT (fun p=>[some (m1,k.th),some (.s,.lst (bs.map T.bl)),some (m,flatT k ts),some (m2,flatT k us),some (.d,.lst (ag (mgN 0 ts.length p))),some (.d,.int ((p.count true:Nat):Int)),some (.d,.int (((ts.length+p.count false:Nat)):Int)),p.getLast?.map fun b=>(Md.s,T.bl b)]) bs [] fun p x r e=>⟨_,rfl,?_⟩
  have e':bs=p++x::r:=e
  have hl:(ag (mgN 0 ts.length p)).length < LIM:=by
   rw [dh,jM]
   have:=congrArg a1H e'
   rw [a0g,a0f] at this
   omega
  have g1:ag (mgN 0 ts.length (p++[x]))=ag (mgN 0 ts.length p)++[nT (if x then p.count true else ts.length+p.count false)]:=by rw [jS,ag,a0Q,a1f]; rfl
  cases x with
  | true =>
   rw [if_pos rfl] at g1
   have g2:(((p++[true]).count true:Nat):Int)=(p.count true:Int)+1:=by rw [a1n]; simp
   have g3:(p++[true]).count false=p.count false:=by rw [a1n]; simp
   simp_all only [a1m,nT,if_pos hl,g1,g2,g3,a1F,a1v,a2h]
  | false =>
   rw [if_neg a0j] at g1
   have g2:(((ts.length+(p++[false]).count false:Nat)):Int)=((ts.length+p.count false:Nat):Int)+1:=by rw [a1n]; simp; omega
   have g3:(p++[false]).count true=p.count true:=by rw [a1n]; simp
   simp_all only [a1m,nT,if_pos hl,g1,g2,g3,a1F,a1v,a2h]
 simp_all only [dY,e0,lp,e1,e2]
theorem fF {α:Type}{f:Env->Res (Option W×Env)}{s:Nat}{g:α->W}(E:T->Env)(E':T->W->Env){P:Option W->Prop}{c:Nat}(hb:∀ t w,bindT [s] [w] (E t)=some (E' t w))(hd:∀ t w,aj [s] (E' t w)=E t)
  (hf:∀ N t w,Tp N t->N+c < 1000000000000000000->∃ o t',P o/\Tp (N+c) t'/\f (E' t w)=.ok (o,E' t' w)):∀ (l:List α) (N:Nat) (t:T),Tp N t->N+l.length * c < 1000000000000000000 ->
  ∃ (os:List (Option W)) (t':T),os.length=l.length/\(∀ o∈os,P o)/\Tp (N+l.length * c) t'/\∀ acc,az [s] f (l.map fun x=>[g x]) (E t) acc=.ok (acc++os.filterMap id,E t')
 | [],N,t,ht,_=>⟨[],t,rfl,(fun _ h=>nomatch h),by simpa using ht,fun acc=>by rw [List.filterMap_nil,a0y]; rfl⟩
 | x::l,N,t,ht,hN=>by
  rw [a0f,a1B] at hN
  obtain ⟨o,t1,h1,h2,h3⟩:=hf N t (g x) ht (by omega)
  obtain ⟨os,t2,k1,k2,k3,k4⟩:=fF E E' hb hd hf l (N+c) t1 h2 (by omega)
  refine ⟨o::os,t2,by rw [a0f,a0f,k1],fun q hq=>(a0l.mp hq).elim (fun e=>e ▸ h1) (k2 q),by rw [a0f,a1B]; exact tm k3 (by omega),fun acc=>?_⟩
  rw [a0n]
  show (ofO (bindT [s] [g x] (E t))).bind _=_
  rw [hb]
  show (f (E' t (g x))).bind _=_
  rw [h3]
  show az [s] f (l.map fun x=>[g x]) (aj [s] (E' t1 (g x))) (acc++o.toList)=_
  rw [hd,k4,a0C,a06]
  cases o<;>rfl
theorem rf {mm:Int}(h0:0<=mm)(h1:mm<=1000000):decide (mm.natAbs < 4611686018427387904)=true/\fits mm.toNat=true:=⟨decide_eq_true (by omega),decide_eq_true (by show mm.toNat<=16777215; omega)⟩
theorem ud {P:W->Prop}:∀ {os:List (Option W)},(∀ o∈os,∃ w,o=some w/\P w)->∃ ws:List W,os.filterMap id=ws/\ws.length=os.length/\∀ w∈ws,P w
 | [],_=>⟨[],rfl,rfl,(fun _ h=>nomatch h)⟩
 | o::os,h=>by
  obtain ⟨w,rfl,hw⟩:=h o a0d
  obtain ⟨ws,e,l,k⟩:=ud fun q hq=>h q (a0c _ hq)
  exact ⟨w::ws,by show w::os.filterMap id=_; rw [e],by rw [a0f,a0f,l],fun v hv=>(a0l.mp hv).elim (fun e=>e ▸ hw) (k v)⟩
noncomputable def Ok (k:Kd)(N:Nat)(us:List T):Prop:=(∀ t∈us,OfK k t/\sz t<=B k.deep)/\us.length<=N
theorem b0 {b:Nat}:∀ {ts:List T},(∀ t∈ts,sz t<=b)->szs ts<=ts.length * b
 | [],_=>a0Y _
 | t::ts,h=>by
  have h1:=h t a0d
  have h2:=b0 fun v hv=>h v (a0c _ hv)
  show sz t+szs ts<=_
  rw [a0f,a1B]; omega
theorem Ok.szs {k:Kd}{N:Nat}{us:List T}(h:Ok k N us):szs us<=N * B k.deep:=a0o (b0 fun t ht=>(h.1 t ht).2) (a1U _ h.2)
theorem Ok.of {k:Kd}{N:Nat}{us:List T}(h:Ok k N us):∀ t∈us,OfK k t:=fun t ht=>(h.1 t ht).1
theorem yI {k:Kd}:∀ {ws:List W},(∀ w∈ws,OfK k w.2/\sz w.2<=B k.deep)->∀ {N:Nat},ws.length<=N->Ok k N (ax ws):=fun {ws} h {N} hl=>⟨fun t ht=>by
 obtain ⟨w,hw,rfl⟩:=fL ht
 exact h w hw,by rw [fM]; exact hl⟩
theorem m8 {α β:Type}:∀ {xs:List α} {ys:List β},ys.length=xs.length->(xs.zip ys).map (fun p=>p.2)=ys
 | [],[],_=>rfl
 | _::_,_::_,h=>congrArg (_::·) (m8 (a14 h))
 | [],_::_,h=>by cases h
 | _::_,[],h=>by cases h
theorem jE:∀ k:Kd,eqT k.th k.th=true
 | .num=>by show (q "num"==q "num"&&true)=true; rw [beq_self_eq_true]; rfl
 | .truth=>by show (q "truth"==q "truth"&&true)=true; rw [beq_self_eq_true]; rfl
 | .pair a b=>by show (q "pair"==q "pair"&&(eqT a.th a.th&&(eqT b.th b.th&&true)))=true; rw [beq_self_eq_true,jE a,jE b]; rfl
 | .row a=>by show (q "row"==q "row"&&(eqT a.th a.th&&true))=true; rw [beq_self_eq_true,jE a]; rfl
theorem n9:∀ ks:List Kd,eqTs (ks.map Kd.th) (ks.map Kd.th)=true
 | []=>rfl
 | k::ks=>by show (eqT k.th k.th&&eqTs (ks.map Kd.th) (ks.map Kd.th))=true; rw [jE k,n9 ks]; rfl
theorem m9:∀ k:Kd,dp k.th<=k.deep+1
 | .num=>a0h _
 | .truth=>a0h _
 | .pair a b=>by
  have:=m9 a
  have:=m9 b
  show max 0 (max (dp a.th) (max (dp b.th) 0))+1<=max a.deep b.deep+1+1
  omega
 | .row a=>by
  have:=m9 a
  show max 0 (max (dp a.th) 0)+1<=a.deep+1+1
  omega
theorem lz (h:Bool)(m n:Md)(ks:List Kd)(hk:∀ k∈ks,k.deep<=10):oSem .ne h [(m,.lst (ks.map Kd.th)),(n,.lst (ks.map Kd.th))]=some (.d,.bl false):=by
 have hd:dp (.lst (ks.map Kd.th))<=64:=by
  show dps (ks.map Kd.th)+1<=64
  have:dps (ks.map Kd.th)<=11:=iw fun u hu=>by
   obtain ⟨k,h1,rfl⟩:=a0t.mp hu
   have:=m9 k
   have:=hk k h1
   omega
  omega
 rw [Em _ _ _ _ _ hd hd]
 show some (Md.d,T.bl (!eqTs (ks.map Kd.th) (ks.map Kd.th)))=_
 rw [n9]; rfl
theorem nA {α β γ δ:Type}{f:α->γ}{g:β->δ}:∀ {xs:List α} {ys:List β},ys.length=xs.length->(xs.map f).zip (ys.map g)=(xs.zip ys).map fun p=>(f p.1,g p.2)
 | [],[],_=>rfl
 | _::_,_::_,h=>congrArg (_::·) (nA (a14 h))
 | [],_::_,h=>by cases h
 | _::_,[],h=>by cases h
theorem jb {α:Type}(f g h:α->T):∀ l:List α,zipT3 (l.map f) (l.map g) (l.map h)=l.map fun p=>[(.s,f p),(.s,g p),(.s,h p)]
 | []=>rfl
 | _::l=>congrArg (_::·) (jb f g h l)
theorem nK {α β:Type}:∀ {xs:List α} {ys:List β},ys.length=xs.length->(xs.zip ys).map (fun p=>p.1)=xs
 | [],[],_=>rfl
 | _::_,_::_,h=>congrArg (_::·) (nK (a14 h))
 | [],_::_,h=>by cases h
 | _::_,[],h=>by cases h
theorem Dn (h:Bool)(m n:Md):oSem .ne h [(m,.non),(n,.non)]=some (.d,.bl false):=rfl
theorem j1 {n:Nat}{P:T}{ks:List Kd}{many:Nat}{css:List (List T)}{kr:Kd}{ds:List T}{wd:T}(hn:kr.deep+4<=n)(hks:∀ k∈ks,k.deep+4<=n)(hk10:∀ k∈ks,k.deep<=10)(hkr:kr.deep<=10)(hl:css.length=ks.length)(h0:∃ c,atI (css.map T.lst) 0=some (.lst c)/\c.length=many)(hc:∀ p∈ks.zip css,(∀ t∈p.2,OfK p.1 t)/\szs p.2<=LIM)(hds:∀ t∈ds,OfK kr t)(hsz:szs ds<=LIM)(hw:wd=.non\/∃ x,wd=.str x)
  (hW:∀ m0 m1 m2 m3,C n 133 [(m0,P),(m1,.lst (ks.map Kd.th)),(m2,.lst ((ks.zip css).map fun p=>flatT p.1 p.2)),(m3,.int (many:Nat))]=.ok ((.d,.tup [flatT kr ds,.int (ds.length:Nat),wd]),[])) (m0 m1 m2 m3 m4 m5:Md) :
  C (n+1) 135 [(m0,P),(m1,.lst (ks.map Kd.th)),(m2,.lst (css.map T.lst)),(m3,kr.th),(m4,.lst ds),(m5,wd)]=.ok ((.d,.bl true),[]):=by
 rw [lP,x_run _ _ _ rfl]
 have fl:∀ p∈ks.zip css,∀ m1 m,C n 6 [(m1,p.1.th),(m,.lst p.2)]=.ok ((.d,flatT p.1 p.2),[]):=fun p hp m1 m=>by
  have:=flat p.1 (n-p.1.deep-1) p.2 m1 m (hc p hp).1 (hc p hp).2
  have h2:=hks p.1 (a16 hp).1
  rw [show n-p.1.deep-1+p.1.deep+1=n by omega] at this
  exact this
 have flr:∀ m1 m,C n 6 [(m1,kr.th),(m,.lst ds)]=.ok ((.d,flatT kr ds),[]):=fun m1 m=>by
  have:=flat kr (n-kr.deep-1) ds m1 m hds hsz
  rw [show n-kr.deep-1+kr.deep+1=n by omega] at this
  exact this
 have al:∀ (d:Nat) (t:T) m m',d+1<=n->PT d t->C n 24 [(m,t),(m',t)]=.ok ((.d,.bl true),[]):=fun d t m m' hd h=>by
  have:=CQ (n-d-1) d t m m' h
  rw [show n-d-1+d+1=n by omega] at this
  exact this
 have al1:=fun m m'=>al (kr.deep+2) _ m m' (by omega) (d9 kr ds hds)
 have al2:=fun m m'=>al 0 (.int (ds.length:Nat)) m m' (by omega) a0H
 have al3:=fun m m'=>al (kr.deep+3) (.tup [flatT kr ds,.int (ds.length:Nat),wd]) m m' (by omega) (fun u hu=>by
  rcases a0l.mp hu with e | hu
  ·rw [e]; exact d9 kr ds hds
  ·rcases a0l.mp hu with e | hu
   ·rw [e]; exact a0H
   ·rw [a0w.mp hu]
    rcases hw with e | ⟨x,e⟩<;>(rw [e]; exact a0H))
 have dpf:dp (flatT kr ds)<=kr.deep+1:=gi kr ds hds
 obtain ⟨n1,rfl⟩:∃ n1,n=n1+1:=⟨n-1,by omega⟩
 have sp:C (n1+1) 95 [(.d,flatT kr ds)]=.ok ((.d,.non),[]):=yC (by omega) (by omega)
 have ez:cS .s .s (ks.map Kd.th) (css.map T.lst)=(ks.zip css).map fun p=>[((.s,p.1.th):W),(.s,.lst p.2)]:=by
  rw [il,nA hl,a0v]; rfl
 have c1:∀ o0 x1 x2 o3 o4 o5 o6 o7 o8 o9 o10 o11 o12 o13,az [14,15] (bq (evE (C (n1+1)) (.call 6 [.var 14,.var 15]))) (cS .s .s (ks.map Kd.th) (css.map T.lst)) [o0,some x1,some x2,o3,o4,o5,o6,o7,o8,o9,o10,o11,o12,o13,none,none] []=.ok ([]++(ks.zip css).map fun p=>(.d,flatT p.1 p.2),[o0,some x1,some x2,o3,o4,o5,o6,o7,o8,o9,o10,o11,o12,o13,none,none]):=by
  intro o0 x1 x2 o3 o4 o5 o6 o7 o8 o9 o10 o11 o12 o13
  rw [ez]
  refine au (tg:=[14,15]) (η:=[o0,some x1,some x2,o3,o4,o5,o6,o7,o8,o9,o10,o11,o12,o13,none,none]) (g:=fun (p:Kd×List T)=>[((.s,p.1.th):W),(.s,.lst p.2)]) (fun p=>((.d,flatT p.1 p.2):W)) (ks.zip css) [] fun p hp=>⟨_,[o0,some x1,some x2,o3,o4,o5,o6,o7,o8,o9,o10,o11,o12,o13,some (.s,p.1.th),some (.s,.lst p.2)],rfl,?_,rfl⟩
  have:=fl p hp
  simp_all only [this]
 have lp:∀ (o0 o3 o4 o5 o6 o8 o9 o13 o14 o15:Option W) (x1 x2 x7:W),∃ o10 o11 o12,forL [10,11,12] (evSs (C (n1+1)) [.ite (.q [10,11,12] []) (.not (.call 24 [.call 6 [.var 10,.var 11],.var 12])) [.ret [] (.cst (.bl false))] []]) (zipT3 (ks.map Kd.th) (css.map T.lst) ((ks.zip css).map fun p=>flatT p.1 p.2)) [o0,some x1,some x2,o3,o4,o5,o6,some x7,o8,o9,none,none,none,o13,o14,o15]=.nx [o0,some x1,some x2,o3,o4,o5,o6,some x7,o8,o9,o10,o11,o12,o13,o14,o15]:=by
  intro o0 o3 o4 o5 o6 o8 o9 o13 o14 o15 x1 x2 x7
  have e3:zipT3 (ks.map Kd.th) (css.map T.lst) ((ks.zip css).map fun p=>flatT p.1 p.2)=(ks.zip css).map fun p=>[((.s,p.1.th):W),(.s,.lst p.2),(.s,flatT p.1 p.2)]:=by
   have h1:ks.map Kd.th=(ks.zip css).map fun p=>p.1.th:=by
    conv=>lhs; rw [<- nK hl]
    rw [a0v]; rfl
   have h2:css.map T.lst=(ks.zip css).map fun p=>T.lst p.2:=by
    conv=>lhs; rw [<- m8 hl]
    rw [a0v]; rfl
   rw [h1,h2,jb]
  rw [e3]
  obtain ⟨η',e,o10,o11,o12,rfl⟩:=lO (tg:=[10,11,12]) (f:=evSs (C (n1+1)) [.ite (.q [10,11,12] []) (.not (.call 24 [.call 6 [.var 10,.var 11],.var 12])) [.ret [] (.cst (.bl false))] []]) (g:=fun (p:Kd×List T)=>[((.s,p.1.th):W),(.s,.lst p.2),(.s,flatT p.1 p.2)])
   (fun _ η=>∃ o10 o11 o12,η=[o0,some x1,some x2,o3,o4,o5,o6,some x7,o8,o9,o10,o11,o12,o13,o14,o15]) (ks.zip css) [] _ ⟨none,none,none,rfl⟩ (fun p x r η e ⟨o10,o11,o12,he⟩=>by
    subst he
    have hp:x∈ks.zip css:=by rw [show ks.zip css=p++x::r from e]; simp
    have e1:=fl x hp
    have h2:=hks x.1 (a16 hp).1
    have e2:=fun m m'=>al (x.1.deep+2) _ m m' (by omega) (d9 x.1 x.2 (hc x hp).1)
    refine ⟨_,_,rfl,?_,some (.s,x.1.th),some (.s,.lst x.2),some (.s,flatT x.1 x.2),rfl⟩
    simp_all only [e1,e2])
  exact ⟨o10,o11,o12,e⟩
 have l3:((([flatT kr ds,T.int (ds.length:Nat),wd]:List T).length:Int)==3)=true:=rfl
 have wN:∀ (a b d:T),([a,b,d]:List T)[0]?=some a:=fun _ _ _=>rfl
 obtain ⟨c,at0',rfl⟩:=h0
 obtain ⟨o10,o11,o12,lp1⟩:=lp (some (m0,P)) (some (m3,kr.th)) (some (m4,.lst ds)) (some (m5,wd)) (some (.d,.int (c.length:Nat))) (some (.o .s,.lst (ks.map Kd.th))) (some (.d,.tup [.gone,.int (ds.length:Nat),wd])) none none none (.s,.lst (ks.map Kd.th)) (.s,.lst (css.map T.lst)) (.s,.lst ((ks.zip css).map fun p=>flatT p.1 p.2))
 have tr:=aZ (fun _=>Md.d) (fun (p:Kd×List T)=>flatT p.1 p.2) (ks.zip css)
 rcases hw with rfl | ⟨x,rfl⟩
 ·simp_all only [bT,at0',c1,tr,hW,a0P,a08,tY,a0X,l3,flr,al1,al2,lz _ _ _ ks hk10,Dn,wN,a1N,sp,lp1,al3]
 ·simp_all only [bT,at0',c1,tr,hW,a0P,a08,tY,a0X,l3,flr,al1,al2,lz _ _ _ ks hk10,beq_self_eq_true,wN,a1N,sp,lp1,al3]
noncomputable def fD:List T->Nat->Nat->Nat×T
 | [],_,many=>(many,.non)
 | .non::ws,i,many=>fD ws (i+1) many
 | w::_,i,_=>(i,w)
noncomputable def isW (t:T):Prop:=t=.non\/∃ x,t=.str x
theorem xU:∀ (ws:List T) (i:Nat),eQ .s i ws=(ws.zipIdx i).map fun p=>[(.d,.int (p.2:Int)),(.s,p.1)]:=fun ws i=>iZ _ _ _
noncomputable abbrev lV:List S:=[.ite (.q [4] []) (.op .isnot false [.var 4,.cst (.non)]) [.ret [] (.tup [.mv 3,.mv 4])] []]
theorem jt {n:Nat}{o0 o1 o2:Option W}{many:Nat}:∀ (ws:List T) (i:Nat) (o3 o4:Option W),(∀ t∈ws,isW t) ->
  (∃ o3' o4',forL [3,4] (evSs (C n) lV) ((ws.zipIdx i).map fun p=>[((.d,.int (p.2:Int)):W),(.s,p.1)]) [o0,o1,o2,o3,o4]=.nx [o0,o1,o2,o3',o4']/\fD ws i many=(many,.non)) \/
  (∃ η',forL [3,4] (evSs (C n) lV) ((ws.zipIdx i).map fun p=>[((.d,.int (p.2:Int)):W),(.s,p.1)]) [o0,o1,o2,o3,o4]=.rt (.d,.tup [.int ((fD ws i many).1:Nat),(fD ws i many).2]) η'/\isW (fD ws i many).2)
 | [],i,o3,o4,_=>.inl ⟨o3,o4,rfl,rfl⟩
 | w::ws,i,o3,o4,h=>by
  rcases h w a0d with rfl | ⟨x,rfl⟩
  ·have step:evSs (C n) lV [o0,o1,o2,some (.d,.int (i:Int)),some (.s,.non)]=.nx [o0,o1,o2,some (.d,.int (i:Int)),some (.s,.non)]:=by
    simp_all only []
   rcases jt (n:=n) (o0:=o0) (o1:=o1) (o2:=o2) (many:=many) ws (i+1) (some (.d,.int (i:Int))) (some (.s,.non)) (fun t ht=>h t (a0c _ ht)) with ⟨a,b,e1,e2⟩ | ⟨η',e1,e2⟩
   ·exact .inl ⟨a,b,(congrArg (Fl.turn · _) step).trans e1,e2⟩
   ·exact .inr ⟨η',(congrArg (Fl.turn · _) step).trans e1,e2⟩
  ·obtain ⟨η',step⟩:∃ η',evSs (C n) lV [o0,o1,o2,some (.d,.int (i:Int)),some (.s,.str x)]=.rt (.d,.tup [.int (i:Int),.str x]) η':=⟨_,by
    simp_all only []
    rfl⟩
   refine .inr ⟨η',?_,.inr ⟨x,rfl⟩⟩
   exact congrArg (fun z=>Fl.turn z (forL [3,4] (evSs (C n) lV) ((ws.zipIdx (i+1)).map fun p=>[((.d,.int (p.2:Int)):W),(.s,p.1)]))) step
theorem jO {n:Nat}{sg:String}{di:Nat}{words:List T}{F:T}{md:Md}(hw:keys_WORDS_wide.contains (q sg)=true)(hd:tab_WORDS_wide.lookup (q sg)=some di)(hws:∀ t∈words,isW t)(hD:∀ m,C n di [(m,F)]=.ok ((md,.lst words),[]))(hl:words.length<=LIM)(m0 m1 m2:Md)(many:Nat) :
  C (n+1) 79 [(m0,.str (q sg)),(m1,F),(m2,.int (many:Nat))]=.ok ((.d,.tup [.int ((fD words 0 many).1:Nat),(fD words 0 many).2]),[]):=by
 rw [iH,x_run _ _ _ rfl]
 rcases jt (n:=n) (o0:=some (.s,.str (q sg))) (o1:=some (.s,F)) (o2:=some (m2,.int (many:Nat))) (many:=many) words 0 none none hws with ⟨a,b,e1,e2⟩ | ⟨η',e1,e2⟩
 ·rw [e2]
  simp_all only [bo,hw,a2g,hd,hD,xU,e1]
 ·simp_all only [bo,hw,a2g,hd,hD,xU,e1]
theorem vQ {n:Nat}{ks:List Kd}{css:List (List T)}{many:Nat}{wd:T}(hl:css.length=ks.length)(hf:∀ p∈ks.zip css,∀ m1 m m2,C n 19 [(m1,p.1.th),(m,flatT p.1 p.2),(m2,.int (many:Nat))]=.ok ((.d,flatT p.1 (p.2.take many)),[]))(o0 o3 o5:Option W)(x1 x2:W) :
  az [6,7] (bq (evE (C n) (.call 19 [.var 6,.var 7,.op .ix false [.var 4,.cst (.int 0)]]))) (cS .s .s (ks.map Kd.th) ((ks.zip css).map fun p=>flatT p.1 p.2)) [o0,some x1,some x2,o3,some (.s,.tup [.int (many:Nat),wd]),o5,none,none] [] =
   .ok ([]++(ks.zip css).map fun p=>(.d,flatT p.1 (p.2.take many)),[o0,some x1,some x2,o3,some (.s,.tup [.int (many:Nat),wd]),o5,none,none]):=by
 have ez:cS .s .s (ks.map Kd.th) ((ks.zip css).map fun p=>flatT p.1 p.2)=(ks.zip css).map fun p=>[((.s,p.1.th):W),(.s,flatT p.1 p.2)]:=by
  clear hf
  induction ks generalizing css with
  | nil=>rfl
  | cons k ks ih =>
   cases css with
   | nil=>cases hl
   | cons c css=>show _::cS .s .s (ks.map Kd.th) ((ks.zip css).map fun p=>flatT p.1 p.2)=_; rw [ih (a14 hl)]; rfl
 rw [ez]
 refine au (tg:=[6,7]) (η:=[o0,some x1,some x2,o3,some (.s,.tup [.int (many:Nat),wd]),o5,none,none]) (g:=fun (p:Kd×List T)=>[((.s,p.1.th):W),(.s,flatT p.1 p.2)]) (fun p=>((.d,flatT p.1 (p.2.take many)):W)) (ks.zip css) [] fun p hp=>⟨_,[o0,some x1,some x2,o3,some (.s,.tup [.int (many:Nat),wd]),o5,some (.s,p.1.th),some (.s,flatT p.1 p.2)],rfl,?_,rfl⟩
 have:=hf p hp
 simp_all only [this]
theorem mN {n:Nat}{sg:String}{pr:List T}{ks:List Kd}{css:List (List T)}{R wd:T}{many j:Nat}(hk:keys_RECKONED.contains (q sg)=false)(hwd:wd=.non\/∃ x,wd=.str x)(hl:css.length=ks.length)(hs:∀ m0 m1 m2,C (n+1) 79 [(m0,.str (q sg)),(m1,.lst ((ks.zip css).map fun p=>flatT p.1 p.2)),(m2,.int (many:Nat))]=.ok ((.d,.tup [.int (j:Nat),wd]),[]))(hf:∀ p∈ks.zip css,∀ m1 m m2,C (n+1) 19 [(m1,p.1.th),(m,flatT p.1 p.2),(m2,.int (j:Nat))]=.ok ((.d,flatT p.1 (p.2.take j)),[]))
  (hL:∀ m0 m1 m3,C (n+1) 85 [(m0,.tup (.str (q sg)::pr)),(m1,.lst (ks.map Kd.th)),(.d,.lst ((ks.zip css).map fun p=>flatT p.1 (p.2.take j))),(m3,.int (j:Nat))]=.ok ((.d,R),[])) (m0 m1 m2 m3:Md) :
  C (n+2) 133 [(m0,.tup (.str (q sg)::pr)),(m1,.lst (ks.map Kd.th)),(m2,.lst ((ks.zip css).map fun p=>flatT p.1 p.2)),(m3,.int (many:Nat))]=.ok ((.d,.tup [R,.int (j:Nat),wd]),[]):=by
 rw [jB,x_run _ _ _ rfl]
 have e2:=fun o0 o3 o5 x1 x2=>vQ (n:=n+1) (many:=j) (wd:=wd) hl hf o0 o3 o5 x1 x2
 have e3:ax ((ks.zip css).map fun p=>((Md.d,flatT p.1 (p.2.take j)):W))=(ks.zip css).map fun p=>flatT p.1 (p.2.take j):=aR _ _ _
 rcases hwd with rfl | ⟨x,rfl⟩
 ·simp_all only [bz,hk,a2g,hs,e2,e3,a0u,eg,hL]
 ·simp_all only [bz,hk,a2g,hs,e2,e3,a0u,eg,hL]
theorem wH {α:Type}(f g:α->T)(l:List α):cS .s .s (l.map f) (l.map g)=l.map fun p=>[((.s,f p):W),(.s,g p)]:=by
 rw [il]
 induction l with
 | nil=>rfl
 | cons i is ih=>exact congrArg (_::·) ih
noncomputable abbrev PJ:=T×T
noncomputable def okj (p:PJ):Bool:=decide ((((ae p.1).length:Nat):Int)+(((ae p.2).length:Nat):Int)<=200)
noncomputable def r1j (p:PJ):T:=p.1
noncomputable def r2j (p:PJ):T:=p.2
noncomputable def ln1 (p:PJ):T:=aV p.1
noncomputable def ln2 (p:PJ):T:=aV p.2
noncomputable def bwj (p:PJ):T:=if okj p then .non else .str (q "far")
noncomputable def wdj (l:List PJ):T:=if l.all okj then .non else .str (q "far")
noncomputable def gj (p:PJ):T:=.lst (ae p.1++ae p.2)
theorem nC:∀ (l:List PJ) (i:Nat),fD (l.map bwj) i (i+l.length)=(i+(l.takeWhile okj).length,wdj l)
 | [],i=>rfl
 | p::l,i=>by
  cases h:okj p with
  | true =>
   have e1:bwj p=.non:=by rw [bwj,h]; rfl
   have e2:wdj (p::l)=wdj l:=by rw [wdj,a0T,h,a1L]; rfl
   rw [a0n,e1,a0M h,e2,a0f,a0f]
   show fD (l.map bwj) (i+1) _=_
   have:=nC l (i+1)
   rw [show i+1+l.length=i+(l.length+1) by omega] at this
   rw [this]
   congr 1
   omega
  | false =>
   have e1:bwj p=.str (q "far"):=by rw [bwj,h]; rfl
   have e2:wdj (p::l)=.str (q "far"):=by rw [wdj,a0T,h,a1D]; rfl
   rw [a0n,e1,a0N (by rw [h]; exact a0j),e2]
   rfl
theorem far (n:Nat)(p:PJ)(m:Md):C (n+1) 34 [(m,.int ((((ae p.1).length:Nat):Int)+(((ae p.2).length:Nat):Int)))]=.ok ((.d,bwj p),[]):=by
 rw [eL,x_run _ _ _ rfl]
 unfold bwj okj
 cases h1:decide ((((ae p.1).length:Nat):Int)+(((ae p.2).length:Nat):Int)<=200) with
 | true=>simp_all only [aX,h1]
 | false=>simp_all only [aX,h1]
theorem join_words (n:Nat)(l:List PJ)(m:Md)(x y:T):C (n+2) 82 [(m,.lst [.tup [.lst (l.map ln1),x],.tup [.lst (l.map ln2),y]])]=.ok ((.o .s,.lst (l.map bwj)),[]):=by
 rw [iO,x_run _ _ _ rfl]
 have e:=fun p m=>far n p m
 have du:∀ w,az [1,2] (bq (evE (C (n+1)) (.call 34 [.op .add false [.var 1,.var 2]]))) (l.map fun p=>[((.s,ln1 p):W),(.s,ln2 p)]) [some w,none,none] []=.ok ([]++l.map (fun p=>((.d,bwj p):W)),[some w,none,none]):=fun w=>au _ _ [] fun p hp=>⟨_,[some w,some (.s,ln1 p),some (.s,ln2 p)],rfl,by
  unfold ln1 ln2 aV
  simp_all only [e],rfl⟩
 have tr:ax (l.map fun p=>((.d,bwj p):W))=l.map bwj:=aR _ _ _
 simp_all only [bO,wH,du,a0u,tr]
theorem lI (k:Kd)(l:List PJ):flatT (.row k) (l.map r1j)=.tup [.lst (l.map ln1),flatT k (l.flatMap fun p=>ae p.1)]:=by
 show T.tup [.lst ((l.map r1j).map aV),flatT k ((l.map r1j).flatMap ae)]=_
 rw [a0v,a10]
 rfl
theorem lX (k:Kd)(l:List PJ):flatT (.row k) (l.map r2j)=.tup [.lst (l.map ln2),flatT k (l.flatMap fun p=>ae p.2)]:=by
 show T.tup [.lst ((l.map r2j).map aV),flatT k ((l.map r2j).flatMap ae)]=_
 rw [a0v,a10]
 rfl
noncomputable def tj (p:PJ):List Bool:=a0e (ae p.1).length true++a0e (ae p.2).length false
theorem cK {α:Type}(a:α):∀ k:Nat,(a0e k [a]).flatten=a0e k a
 | 0=>rfl
 | k+1=>by rw [a0V,a03,cK a k]; rfl
theorem qE {t:T}{n:Nat}(h:n<=LIM):(decide (((n:Nat):Int).natAbs < 4611686018427387904)&&fits ([t].length * n))=true:=by
 have hLM:LIM=16777215:=rfl
 rw [a1d]
 refine ⟨decide_eq_true (by omega),decide_eq_true (by rw [a0A]; omega)⟩
theorem ye:∀ (a:List T) (X:List Bool) (ts us:List T),mrg (a0e a.length true++X) (a++ts) us=a++mrg X ts us
 | [],_,_,_=>rfl
 | t::a,X,ts,us=>congrArg (t::·) (ye a X ts us)
theorem xJ:∀ (b:List T) (X:List Bool) (ts us:List T),mrg (a0e b.length false++X) ts (b++us)=b++mrg X ts us
 | [],_,_,_=>rfl
 | t::b,X,ts,us=>by
  have e:mrg (false::(a0e b.length false++X)) ts (t::(b++us))=t::mrg (a0e b.length false++X) ts (b++us):=by cases ts<;>rfl
  exact e.trans (congrArg (t::·) (xJ b X ts us))
theorem oh:∀ l:List PJ,mrg (l.flatMap tj) (l.flatMap fun p=>ae p.1) (l.flatMap fun p=>ae p.2)=(l.map gj).flatMap ae/\(l.flatMap tj).count true=(l.flatMap fun p=>ae p.1).length/\(l.flatMap tj).count false=(l.flatMap fun p=>ae p.2).length
 | []=>⟨rfl,rfl,rfl⟩
 | p::l=>by
  obtain ⟨i1,i2,i3⟩:=oh l
  have c1:(tj p).count true=(ae p.1).length:=by rw [tj,a1n,a2D,a26]; simp
  have c2:(tj p).count false=(ae p.2).length:=by rw [tj,a1n,a2D,a26]; simp
  rw [a0F,a0F,a0F,a0n,a0F,a1n,a1n,a0g,a0g,i2,i3,c1,c2]
  refine ⟨?_,rfl,rfl⟩
  rw [tj,a0C,ye,xJ,i1,<- a0C]
  rfl
noncomputable abbrev xN:List S:=[
   .ext (.q [3,4] []) 2 (.op .add false [.op .mul false [.lst false [.cst (.bl true)],.var 3],.op .mul false [.lst false [.cst (.bl false)],.var 4]])]
theorem jf {n:Nat}{o0 o1 o5:Option W}:∀ (l:List PJ) (acc:List Bool) (o3 o4:Option W),acc.length+(l.flatMap tj).length<=LIM->∃ o3' o4',forL [3,4] (evSs (C n) xN) (l.map fun p=>[((.s,ln1 p):W),(.s,ln2 p)]) [o0,o1,some (.o .s,.lst (aJ acc)),o3,o4,o5,none,none]=.nx [o0,o1,some (.o .s,.lst (aJ (acc++l.flatMap tj))),o3',o4',o5,none,none]
 | [],acc,o3,o4,_=>⟨o3,o4,by rw [a2U,a0y]; rfl⟩
 | p::l,acc,o3,o4,hl=>by
  have hLM:LIM=16777215:=rfl
  rw [a0F,a0g] at hl
  have hj:(tj p).length=(ae p.1).length+(ae p.2).length:=by rw [tj,a0g,a0z,a0z]
  obtain ⟨o3',o4',ih⟩:=jf (n:=n) (o0:=o0) (o1:=o1) (o5:=o5) l (acc++tj p) (some (.s,ln1 p)) (some (.s,ln2 p)) (by rw [a0g]; omega)
  refine ⟨o3',o4',?_⟩
  have r1:=qE (t:=.bl true) (n:=(ae p.1).length) (by omega)
  have r2:=qE (t:=.bl false) (n:=(ae p.2).length) (by omega)
  have r3:fits ((a0e (ae p.1).length (T.bl true)).length+(a0e (ae p.2).length (T.bl false)).length)=true:=decide_eq_true (by rw [a0z,a0z]; omega)
  have r4:aJ (acc++tj p)=aJ acc++(a0e (ae p.1).length (T.bl true)++a0e (ae p.2).length (T.bl false)):=by rw [aJ,a0Q,tj,a0Q,a18,a18]; rfl
  have r5:(aJ acc).length+(a0e (ae p.1).length (T.bl true)++a0e (ae p.2).length (T.bl false)).length<=LIM:=(by rw [a0g,a0z,a0z,aJ,a0b]; omega)
  have step:evSs (C n) xN [o0,o1,some (.o .s,.lst (aJ acc)),some (.s,ln1 p),some (.s,ln2 p),o5,none,none]=.nx [o0,o1,some (.o .s,.lst (aJ (acc++tj p))),some (.s,ln1 p),some (.s,ln2 p),o5,none,none]:=by
   unfold ln1 ln2 aV
   rw [r4]
   simp_all only [a1G,r1,r2,cK,r3,if_pos r5,if_true]
  rw [a0F,<- a0C]
  exact (congrArg (Fl.turn · _) step).trans ih
theorem z0 (n:Nat)(k:Kd)(l:List PJ)(h1:∀ p∈l,OfK (.row k) p.1)(h2:∀ p∈l,OfK (.row k) p.2)(hs:szs (l.flatMap fun p=>ae p.1)+szs (l.flatMap fun p=>ae p.2)<=LIM)(hs2:szs ((l.map gj).flatMap ae)<=LIM)(m1:Md) :
  C (n+k.deep+3) 92 [(m1,.lst [.tup [.str (q "row"),k.th],.tup [.str (q "row"),k.th]]),(.d,.lst [.tup [.lst (l.map ln1),flatT k (l.flatMap fun p=>ae p.1)],.tup [.lst (l.map ln2),flatT k (l.flatMap fun p=>ae p.2)]])]=.ok ((.d,flatT (.row k) (l.map gj)),[]):=by
 rw [j4,x_run _ _ _ rfl]
 have hLM:LIM=16777215:=rfl
 obtain ⟨k1,k2,k3⟩:=oh l
 have lt:(l.flatMap tj).length<=LIM:=by
  have a:=sZ (l.flatMap tj)
  have b:=bp (l.flatMap fun p=>ae p.1)
  have c:=bp (l.flatMap fun p=>ae p.2)
  omega
 obtain ⟨o3,o4,lp⟩:=jf (n:=n+k.deep+2) (o0:=some (m1,.lst [.tup [.str (q "row"),k.th],.tup [.str (q "row"),k.th]])) (o1:=some (.s,.lst [.tup [.lst (l.map ln1),flatT k (l.flatMap fun p=>ae p.1)],.tup [.lst (l.map ln2),flatT k (l.flatMap fun p=>ae p.2)]])) (o5:=none) l [] none none (by rw [a1q]; omega)
 rw [a0u,show aJ []=[] from rfl] at lp
 have okr:∀ (f:PJ->T),(∀ p∈l,OfK (.row k) (f p))->∀ t∈l.flatMap (fun p=>ae (f p)),OfK k t:=fun f hf t ht=>by
  obtain ⟨p,hp,h2⟩:=a2T.mp ht
  obtain ⟨ts,e,_,h3⟩:=hf p hp
  rw [e] at h2
  exact h3 t h2
 have e2:=fun m1 m0 m m2=>pE k n (l.flatMap tj) (l.flatMap fun p=>ae p.1) (l.flatMap fun p=>ae p.2) m1 m0 m m2 (okr (fun p=>p.1) h1) (okr (fun p=>p.2) h2) k2 k3 hs (by rw [k1]; exact hs2)
 rw [k1] at e2
 have du:∀ w1,az [6,7] (bq (evE (C (n+k.deep+2)) (.op .add false [.var 6,.var 7]))) (l.map fun p=>[((.s,ln1 p):W),(.s,ln2 p)]) [none,w1,none,none,none,none,none,none] []=.ok ([]++l.map (fun p=>((.d,aV (gj p)):W)),[none,w1,none,none,none,none,none,none]):=fun w1=>au _ _ [] fun p hp=>⟨_,[none,w1,none,none,none,none,some (.s,ln1 p),some (.s,ln2 p)],rfl,by
  have hg:aV (gj p)=.int ((((ae p.1).length:Nat):Int)+(((ae p.2).length:Nat):Int)):=by
   show T.int (((ae p.1++ae p.2).length:Nat):Int)=_
   rw [a0g,a3D]
  rw [hg]
  unfold ln1 ln2 aV
  simp_all only [],rfl⟩
 have tr:ax (l.map fun p=>((.d,aV (gj p)):W))=l.map fun p=>aV (gj p):=aR _ _ _
 have fl:flatT (.row k) (l.map gj)=.tup [.lst (l.map fun p=>aV (gj p)),flatT k ((l.map gj).flatMap ae)]:=by
  show T.tup [.lst ((l.map gj).map aV),flatT k ((l.map gj).flatMap ae)]=_
  rw [a0v]; rfl
 rw [fl]
 simp_all only [b5,wH,lp,du,a0u,tr,eg,e2]
noncomputable abbrev ku:List S:=[
   .ite (.q [4,5] []) (.op .gt false [.op .add false [.op .len false [.var 4],.op .len false [.var 5]],.cst (.int 200)]) [
    .asg (.q [] []) 3 (.cst (.str (q "far")))] [],
   .ite (.q [] [3]) (.op .is false [.var 3,.cst (.non)]) [
    .app (.q [4,5] []) 2 (.op .add false [.var 4,.var 5])] []]
theorem a6 {k:Kd}{t:T}(h:OfK (.row k) t):t=.lst (ae t):=by obtain ⟨ts,rfl,_⟩:=h; rfl
noncomputable abbrev N7:List (Option W):=[none,none,none,none,none,none,none]
theorem hV (a b:Int):decide (b < a)=!decide (a<=b):=by
 cases h:decide (a<=b) with
 | true=>exact decide_eq_false (by have:=of_decide_eq_true h; omega)
 | false=>exact decide_eq_true (by have:=of_decide_eq_false h; omega)
theorem fU {n:Nat}{k:Kd}{o0 o1 o2:Option W}:∀ (l:List PJ) (o4 o5:Option W),(∀ p∈l,OfK (.row k) p.1/\OfK (.row k) p.2)->∃ o4' o5',forL [4,5] (evSs (C n) ku) (l.map fun p=>[((.s,r1j p):W),(.s,r2j p)]) ([o0,o1,o2,some (.d,.str (q "far")),o4,o5]++N7)=.nx ([o0,o1,o2,some (.d,.str (q "far")),o4',o5']++N7)
 | [],o4,o5,_=>⟨o4,o5,rfl⟩
 | p::l,o4,o5,h=>by
  obtain ⟨o4',o5',ih⟩:=fU (n:=n) (k:=k) (o0:=o0) (o1:=o1) (o2:=o2) l (some (.s,r1j p)) (some (.s,r2j p)) (fun z hz=>h z (a0c _ hz))
  refine ⟨o4',o5',?_⟩
  have hr:p.1=.lst (ae p.1):=a6 (h p a0d).1
  have hs:p.2=.lst (ae p.2):=a6 (h p a0d).2
  generalize ae p.1=ts at hr
  generalize ae p.2=us at hs
  have step:evSs (C n) ku ([o0,o1,o2,some (.d,.str (q "far")),some (.s,r1j p),some (.s,r2j p)]++N7)=.nx ([o0,o1,o2,some (.d,.str (q "far")),some (.s,r1j p),some (.s,r2j p)]++N7):=by
   unfold r1j r2j
   rw [hr,hs]
   cases h1:decide (((ts.length:Nat):Int)+((us.length:Nat):Int)<=200) with
   | true=>simp_all only [hV,h1,a1K,a02,a0u]
   | false=>simp_all only [hV,h1,a1x,a02,a0u]
  exact (congrArg (Fl.turn · _) step).trans ih
theorem fQ {n:Nat}{k:Kd}{o0 o1:Option W}:∀ (l:List PJ) (acc:List T) (o4 o5:Option W),(∀ p∈l,OfK (.row k) p.1/\OfK (.row k) p.2)->acc.length+l.length < LIM->∃ o4' o5',forL [4,5] (evSs (C n) ku) (l.map fun p=>[((.s,r1j p):W),(.s,r2j p)]) ([o0,o1,some (.o .s,.lst acc),some (.d,.non),o4,o5]++N7)=.nx ([o0,o1,some (.o .s,.lst (acc++(l.takeWhile okj).map gj)),some (.d,wdj l),o4',o5']++N7)
 | [],acc,o4,o5,_,_=>⟨o4,o5,by simp only [a2A,a1p,a0y]; rfl⟩
 | p::l,acc,o4,o5,h,hl=>by
  have hLM:LIM=16777215:=rfl
  rw [a0f] at hl
  have hr:p.1=.lst (ae p.1):=a6 (h p a0d).1
  have hs:p.2=.lst (ae p.2):=a6 (h p a0d).2
  cases hp:okj p with
  | true =>
   have e2:wdj (p::l)=wdj l:=by rw [wdj,a0T,hp,a1L]; rfl
   have hlt:acc.length < LIM:=by omega
   obtain ⟨o4',o5',ih⟩:=fQ (n:=n) (k:=k) (o0:=o0) (o1:=o1) l (acc++[gj p]) (some (.s,r1j p)) (some (.s,r2j p)) (fun z hz=>h z (a0c _ hz)) (by rw [a0g,a0A]; omega)
   refine ⟨o4',o5',?_⟩
   have step:evSs (C n) ku ([o0,o1,some (.o .s,.lst acc),some (.d,.non),some (.s,r1j p),some (.s,r2j p)]++N7)=.nx ([o0,o1,some (.o .s,.lst (acc++[gj p])),some (.d,.non),some (.s,r1j p),some (.s,r2j p)]++N7):=by
    unfold r1j r2j gj
    unfold okj at hp
    generalize ae p.1=ts at hr hp
    generalize ae p.2=us at hs hp
    rw [hr,hs]
    have hf:fits (ts.length+us.length)=true:=decide_eq_true (by have:=of_decide_eq_true hp; omega)
    simp_all only [hV,hp,a1K,a02,a0u,hf,if_pos hlt,if_true]
   rw [e2,a0M hp,show acc++(p::l.takeWhile okj).map gj=acc++[gj p]++(l.takeWhile okj).map gj by rw [a0C]; rfl]
   exact (congrArg (Fl.turn · _) step).trans ih
  | false =>
   have e2:wdj (p::l)=.str (q "far"):=by rw [wdj,a0T,hp,a1D]; rfl
   obtain ⟨o4',o5',ih⟩:=fU (n:=n) (k:=k) (o0:=o0) (o1:=o1) (o2:=some (.o .s,.lst acc)) l (some (.s,r1j p)) (some (.s,r2j p)) (fun z hz=>h z (a0c _ hz))
   refine ⟨o4',o5',?_⟩
   have step:evSs (C n) ku ([o0,o1,some (.o .s,.lst acc),some (.d,.non),some (.s,r1j p),some (.s,r2j p)]++N7)=.nx ([o0,o1,some (.o .s,.lst acc),some (.d,.str (q "far")),some (.s,r1j p),some (.s,r2j p)]++N7):=by
    unfold r1j r2j
    unfold okj at hp
    generalize ae p.1=ts at hr hp
    generalize ae p.2=us at hs hp
    rw [hr,hs]
    simp_all only [hV,hp,a1x,a02,a0u]
   rw [e2,a0N (by rw [hp]; exact a0j),a1p,a0y]
   exact (congrArg (Fl.turn · _) step).trans ih
theorem wM {α:Type}{p:α->Prop}{a:α}(h:p a):∀ x∈[a],p x:=fun x hx=>by rw [a0w.mp hx]; exact h
theorem iM {α:Type}{p:α->Prop}{a b:α}(h:p a)(h':p b):∀ x∈[a,b],p x:=fun x hx=>by
 rcases a0l.mp hx with rfl | hx
 ·exact h
 ·rw [a0w.mp hx]; exact h'
theorem fo {k:Kd}{n:Nat}{ts:List T}{j:Nat}(hn:k.deep+1<=n)(h:∀ t∈ts,OfK k t)(m1 m m2:Md):C n 19 [(m1,k.th),(m,flatT k ts),(m2,.int (j:Nat))]=.ok ((.d,flatT k (ts.take j)),[]):=by
 have:=kl k (n-k.deep-1) ts j m1 m m2 h
 rw [show n-k.deep-1+k.deep+1=n by omega] at this
 exact this
theorem rH {us:List T}(u:∀ t∈us,sz t<=20000)(hl:us.length<=6):szs us<=120000:=by
 have:=b0 u
 have:=a1o hl (a0h 20000)
 omega
theorem C0 (sg:String)(h1:(q "yes"==q sg)=false)(h2:(q "no"==q sg)=false):([T.str (q "yes"),.str (q "no")].any fun t=>eqT t (.str (q sg)))=false:=by
 show (q "yes"==q sg || (q "no"==q sg || false))=false
 rw [h1,h2]; rfl
theorem ic3 (a b c:Str):(M.flatT (.str a)&&[T.str b,.str c].all M.flatT)=true:=rfl
theorem gX {n:Nat}{sg:String}{pr:List T}{di:Nat}{K F R:T}(h0:(q sg==q "num")=false)(h1:(q "yes"==q sg)=false)(h2:(q "no"==q sg)=false)(h3:(q sg==q "none")=false)(hd:tab_DOINGS_wide.lookup (q sg)=some di)(hD:∀ m1,C n di [(m1,K),(.d,F)]=.ok ((.d,R),[]))(m0 m1 m3:Md)(many:Nat) :
  C (n+1) 85 [(m0,.tup (.str (q sg)::pr)),(m1,K),(.d,F),(m3,.int (many:Nat))]=.ok ((.d,R),[]):=by
 rw [jT,x_run _ _ _ rfl]
 simp_all only [b7,h0,h3,ic3,if_true,C0 sg h1 h2,hd,hD]
theorem gy {α:Type}(p:α->Bool):∀ l:List α,l.take (l.takeWhile p).length=l.takeWhile p
 | []=>rfl
 | x::l=>by
  cases h:p x with
  | true=>rw [a0M h,a0f,a3e,gy p l]
  | false=>rw [a0N (by rw [h]; exact a0j)]; rfl
theorem gK {α:Type}(p:α->Bool):∀ l:List α,∀ x∈l.takeWhile p,x∈l/\p x=true
 | [],_,h=>nomatch h
 | y::l,x,h=>by
  cases hy:p y with
  | true =>
   rw [a0M hy] at h
   rcases a0l.mp h with rfl | h
   ·exact ⟨a0d,hy⟩
   ·exact ⟨a0c _ (gK p l x h).1,(gK p l x h).2⟩
  | false=>rw [a0N (by rw [hy]; exact a0j)] at h; exact nomatch h
theorem jD {k:Kd}{t:T}(h:OfK (.row k) t):szs (ae t)+1=sz t:=by obtain ⟨ts,rfl,_⟩:=h; rfl
noncomputable def pj (p:PJ):T:=.tup [p.1,p.2]
theorem eR:∀ l:List PJ,cn (l.map pj)=some (l.map fun p=>[((.s,r1j p):W),(.s,r2j p)])
 | []=>rfl
 | p::l=>by
  rw [a0n,a0n]
  show (cn (l.map pj)).map ([(.s,p.1),(.s,p.2)]::·)=_
  rw [eR l]
  rfl
theorem yh (l:List PJ):wdj l=.non\/∃ x,wdj l=.str x:=by
 unfold wdj
 cases l.all okj with
 | true=>exact .inl rfl
 | false=>exact .inr ⟨_,rfl⟩
theorem yD {k:Kd}(hk:k.deep<=3)(l:List PJ)(hl:l.length<=6)(h:∀ p∈l,(OfK (.row k) p.1/\sz p.1<=20000)/\(OfK (.row k) p.2/\sz p.2<=20000))(m0 m1:Md):C 39 148 [(m0,k.th),(m1,.lst (l.map pj))]=.ok ((.d,.bl true),[]):=by
 have hLM:LIM=16777215:=rfl
 obtain ⟨tw,htw⟩:∃ tw,l.takeWhile okj=tw:=⟨_,rfl⟩
 have ha:∀ p∈tw,p∈l/\okj p=true:=by rw [<- htw]; exact gK okj l
 have hk1:∀ p∈tw,okj p=true:=fun p hp=>(ha p hp).2
 have htl:tw.length<=l.length:=by rw [<- htw]; exact (a2e okj).length_le
 have htk:l.take tw.length=tw:=by rw [<- htw]; exact gy okj l
 have o1:∀ t∈l.map r1j,OfK (.row k) t:=fun t ht=>by obtain ⟨p,hp,rfl⟩:=a0t.mp ht; exact (h p hp).1.1
 have o2:∀ t∈l.map r2j,OfK (.row k) t:=fun t ht=>by obtain ⟨p,hp,rfl⟩:=a0t.mp ht; exact (h p hp).2.1
 have og:∀ t∈tw.map gj,OfK (.row k) t/\sz t<=40000:=fun t ht=>by
  obtain ⟨p,hp,rfl⟩:=a0t.mp ht
  have z1:=jD (h p (ha p hp).1).1.1
  have z2:=jD (h p (ha p hp).1).2.1
  have z3:=(h p (ha p hp).1).1.2
  have z4:=(h p (ha p hp).1).2.2
  have z5:=of_decide_eq_true (hk1 p hp)
  obtain ⟨ts,e,_,e2⟩:=(h p (ha p hp).1).1.1
  obtain ⟨us,f,_,f2⟩:=(h p (ha p hp).1).2.1
  refine ⟨⟨_,rfl,?_,fun u hu=>?_⟩,?_⟩
  ·rw [a0g]; omega
  ·rw [e,f] at hu
   rcases a0O.mp hu with hu | hu
   ·exact e2 u hu
   ·exact f2 u hu
  ·show szs (ae p.1++ae p.2)+1<=40000
   rw [fv]; omega
 have z1:szs (l.map r1j)<=120000:=rH (fun t ht=>by obtain ⟨p,hp,rfl⟩:=a0t.mp ht; exact (h p hp).1.2) (by rw [a0b]; exact hl)
 have z2:szs (l.map r2j)<=120000:=rH (fun t ht=>by obtain ⟨p,hp,rfl⟩:=a0t.mp ht; exact (h p hp).2.2) (by rw [a0b]; exact hl)
 have zk:∀ (f:PJ->T),(∀ p∈tw,OfK (.row k) (f p)/\sz (f p)<=20000)->szs (tw.flatMap fun p=>ae (f p))<=120000:=fun f hf=>by
  have:szs ((tw.map f).flatMap ae)<=szs (tw.map f):=bE fun t ht=>by obtain ⟨p,hp,rfl⟩:=a0t.mp ht; exact (hf p hp).1
  rw [a10] at this
  have h2:szs (tw.map f)<=120000:=rH (fun t ht=>by obtain ⟨p,hp,rfl⟩:=a0t.mp ht; exact (hf p hp).2) (by rw [a0b]; omega)
  exact a0o (show szs (tw.flatMap fun p=>ae (f p))<=szs (tw.map f) from this) h2
 have z3:=zk (fun p=>p.1) fun p hp=>(h p (ha p hp).1).1
 have z4:=zk (fun p=>p.2) fun p hp=>(h p (ha p hp).1).2
 have z5:szs (tw.map gj)<=240000:=by
  have:=b0 (b:=40000) (ts:=tw.map gj) fun t ht=>(og t ht).2
  rw [a0b] at this
  have:=a1o (show tw.length<=6 by omega) (a0h 40000)
  omega
 have z6:szs ((tw.map gj).flatMap ae)<=LIM:=a0o (bE fun t ht=>(og t ht).1) (by omega)
 have hW:∀ m0 m1 m2 m3,C 37 133 [(m0,.tup [.str (q "join"),.non,.non]),(m1,.lst ([Kd.row k,.row k].map Kd.th)),(m2,.lst (([Kd.row k,.row k].zip [l.map r1j,l.map r2j]).map fun p=>flatT p.1 p.2)),(m3,.int (l.length:Nat))]=.ok ((.d,.tup [flatT (.row k) (tw.map gj),.int ((tw.map gj).length:Nat),wdj l]),[]):=by
  rw [a0b]
  refine mN (n:=35) (sg:="join") (pr:=[.non,.non]) (ks:=[.row k,.row k]) (css:=[l.map r1j,l.map r2j]) (R:=flatT (.row k) (tw.map gj)) (wd:=wdj l) (many:=l.length) (j:=tw.length) rfl (yh l) rfl (fun m0 m1 m2=>?_) (iM (fo (by show k.deep+1+1<=36; omega) o1) (fo (by show k.deep+1+1<=36; omega) o2)) (fun m0 m1 m3=>?_)
  ·have:=jO (n:=35) (sg:="join") (di:=82) (words:=l.map bwj) (md:=.o .s) rfl rfl (fun t ht=>by
    obtain ⟨p,_,rfl⟩:=a0t.mp ht
    unfold bwj
    cases okj p with
    | true=>exact .inl rfl
    | false=>exact .inr ⟨_,rfl⟩) (fun m=>join_words 33 l m (flatT k (l.flatMap fun p=>ae p.1)) (flatT k (l.flatMap fun p=>ae p.2))) (by rw [a0b]; omega) m0 m1 m2 l.length
   have ft:=nC l 0
   rw [a1f,a1f,htw] at ft
   rw [ft] at this
   show C 36 79 [_,(_,.lst [flatT (.row k) (l.map r1j),flatT (.row k) (l.map r2j)]),_]=_
   rw [lI,lX]
   exact this
  ·show C 36 85 [_,_,(_,.lst [flatT (.row k) ((l.map r1j).take tw.length),flatT (.row k) ((l.map r2j).take tw.length)]),_]=_
   rw [<- a1C,<- a1C,htk,lI,lX]
   exact gX (n:=35) (sg:="join") rfl rfl rfl rfl rfl (fun m1=>by
    have:=z0 (32-k.deep) k tw (fun p hp=>(h p (ha p hp).1).1.1) (fun p hp=>(h p (ha p hp).1).2.1) (by omega) z6 m1
    rw [show 32-k.deep+k.deep+3=35 by omega] at this
    exact this) m0 m1 m3 _
 have st:∀ m0 m1 m2 m3 m4 m5,C 38 135 [(m0,.tup [.str (q "join"),.non,.non]),(m1,.lst [.tup [.str (q "row"),k.th],.tup [.str (q "row"),k.th]]),(m2,.lst [.lst (l.map r1j),.lst (l.map r2j)]),(m3,.tup [.str (q "row"),k.th]),(m4,.lst (tw.map gj)),(m5,wdj l)]=.ok ((.d,.bl true),[]) :=
  j1 (n:=37) (P:=.tup [.str (q "join"),.non,.non]) (ks:=[.row k,.row k]) (many:=l.length) (css:=[l.map r1j,l.map r2j]) (kr:=.row k) (ds:=tw.map gj) (wd:=wdj l) (by show k.deep+1+4<=37; omega) (iM (by show k.deep+1+4<=37; omega) (by show k.deep+1+4<=37; omega)) (iM (by show k.deep+1<=10; omega) (by show k.deep+1<=10; omega)) (by show k.deep+1<=10; omega) rfl ⟨l.map r1j,at0 _ _,a0b ..⟩ (iM ⟨o1,a0o z1 (by omega)⟩ ⟨o2,a0o z2 (by omega)⟩) (fun t ht=>(og t ht).1) (a0o z5 (by omega)) (yh l) hW
 rw [iT,x_run _ _ _ rfl]
 obtain ⟨o4,o5,lp⟩:=fQ (n:=38) (k:=k) (o0:=some (m0,k.th)) (o1:=some (.s,.lst (l.map pj))) l [] none none (fun p hp=>⟨(h p hp).1.1,(h p hp).2.1⟩) (by rw [a1q]; omega)
 rw [a0u,htw,a02,a02,a02,a02,a02,a02,a0u] at lp
 have lk:lf .s k.th=.s:=by obtain ⟨l,h,_⟩:=iB k; rw [h]; rfl
 have du1:∀ w1,az [9,10] (bq (evE (C 38) (.var 9))) (l.map fun p=>[((.s,r1j p):W),(.s,r2j p)]) [none,w1,none,none,none,none,none,none,none,none,none,none,none] []=.ok ([]++l.map (fun p=>((.s,r1j p):W)),[none,w1,none,none,none,none,none,none,none,none,none,none,none]):=fun w1=>au _ _ [] fun p hp=>⟨_,[none,w1,none,none,none,none,none,none,none,some (.s,r1j p),some (.s,r2j p),none,none],rfl,by
  have hr:r1j p=.lst (ae p.1):=a6 (h p hp).1.1
  rw [hr]
  simp_all only [],rfl⟩
 have du2:∀ w1,az [11,12] (bq (evE (C 38) (.var 12))) (l.map fun p=>[((.s,r1j p):W),(.s,r2j p)]) [none,w1,none,none,none,none,none,none,none,none,none,none,none] []=.ok ([]++l.map (fun p=>((.s,r2j p):W)),[none,w1,none,none,none,none,none,none,none,none,none,none,none]):=fun w1=>au _ _ [] fun p hp=>⟨_,[none,w1,none,none,none,none,none,none,none,none,none,some (.s,r1j p),some (.s,r2j p)],rfl,by
  have hr:r2j p=.lst (ae p.2):=a6 (h p hp).2.1
  rw [hr]
  simp_all only [],rfl⟩
 have tr1:ax (l.map fun p=>((.s,r1j p):W))=l.map r1j:=aR _ _ _
 have tr2:ax (l.map fun p=>((.s,r2j p):W))=l.map r2j:=aR _ _ _
 simp_all only [bN,eR,lp,lk,du1,du2,a0u,tr1,tr2,st]
noncomputable def aq (is:List Int):List T:=is.map T.int
noncomputable def lnI (is:List Int):T:=.int ((is.length:Nat):Int)
noncomputable def rwI (is:List Int):T:=.lst (aq is)
theorem cH (a b:List Int):aq (a++b)=aq a++aq b:=a0Q ..
theorem zY (n:Nat)(is:List Int)(m:Md):C (n+2) 38 [(m,.lst (aq is))]=.ok ((.o .s,.lst (aq is)),[]):=by
 rw [fT,x_run _ _ _ rfl]
 have e:∀ b m,C (n+1) 38 [(m,.int b)]=.ok ((m,.int b),[]):=fun b m=>by
  rw [fT,x_run _ _ _ rfl]
  simp_all only [bQ,a0P,a08,a0X,tf,rB]
 have mB:(aq is).map (fun t=>[((.s,t):W)])=is.map fun b=>[((.s,.int b):W)]:=by rw [aq,a0v]; rfl
 have du:∀ w o,az [1] (bq (evE (C (n+1)) (.call 38 [.var 1]))) (is.map fun b=>[((.s,.int b):W)]) [w,none,o] []=.ok ([]++is.map (fun b=>((.s,.int b):W)),[w,none,o]):=fun w o=>au _ _ [] fun b hb=>⟨_,[w,some (.s,.int b),o],rfl,by
  simp_all only [e],rfl⟩
 have tr:ax (is.map fun b=>((.s,.int b):W))=aq is:=aR _ _ _
 simp_all only [bQ,a0P,a08,a0X,xV,mB,du,a0u,tr]
theorem qH:∀ (L:List (List Int)),rowsT (L.map a1H) (aq L.flatten)=L.map rwI
 | []=>rfl
 | a::L=>by
  have hl:(aq a).length=a.length:=a0b ..
  rw [a03,cH,a0n,a0n]
  show T.lst ((aq a++aq L.flatten).take a.length)::rowsT (L.map a1H) ((aq a++aq L.flatten).drop a.length)=_
  rw [<- hl,a3a,List.drop_left,qH L]
  rfl
theorem rn:∀ L:List (List Int),natsOf (L.map lnI)=some (L.map a1H)
 | []=>rfl
 | a::L=>by
  rw [a0n,a0n]
  show (natsOf (L.map lnI)).map (a.length::·)=_
  rw [rn L]
  rfl
theorem gH (n:Nat)(L:List (List Int))(m m':Md):C (n+3) 76 [(m,.lst (L.map lnI)),(m',.lst (aq L.flatten))]=.ok ((.o (.o .s),.lst (L.map rwI)),[]):=by
 rw [pk,x_run _ _ _ rfl]
 have e:=fun m=>zY n L.flatten m
 simp_all only [dQ,e,mL,rowsW,rn,qH]
noncomputable def bF (t:T):List Int:=(ae t).map fun r=>(((ae r).length:Nat):Int)
noncomputable def gf (t:T):T:=.lst ((ae t).flatMap ae)
noncomputable def okf (t:T):Bool:=decide ((bF t).sum<=200)
noncomputable def bwf (t:T):T:=if okf t then .non else .str (q "far")
noncomputable def wdf (l:List T):T:=if l.all okf then .non else .str (q "far")
theorem hU (t:T):(bF t).sum=((((ae t).flatMap ae).length:Nat):Int):=by
 unfold bF
 induction ae t with
 | nil=>rfl
 | cons r rs ih=>rw [a0n,a1R,ih,a0F,a0g,a3D]
theorem m7 (k:Kd)(ts:List T):flatT (.row (.row k)) ts=.tup [.lst ((ts.map bF).map lnI),.tup [.lst (aq (ts.map bF).flatten),flatT k ((ts.flatMap ae).flatMap ae)]]:=by
 show T.tup [.lst (ts.map aV),.tup [.lst ((ts.flatMap ae).map aV),flatT k ((ts.flatMap ae).flatMap ae)]]=_
 have e1:ts.map aV=(ts.map bF).map lnI:=by
  rw [a0v]
  exact a1z fun t _=>by show T.int (((ae t).length:Nat):Int)=T.int (((bF t).length:Nat):Int); rw [bF,a0b]
 have e2:(ts.flatMap ae).map aV=aq (ts.map bF).flatten:=by
  induction ts with
  | nil=>rfl
  | cons t ts ih =>
   rw [a0F,a0Q,a0n,a03,cH]
   congr 1
   ·rw [aq,bF,a0v]; rfl
   ·exact ih (by rw [a0v]; exact a1z fun t _=>by show T.int (((ae t).length:Nat):Int)=T.int (((bF t).length:Nat):Int); rw [bF,a0b])
 rw [e1,e2]
theorem aW:∀ is:List Int,intsOf (aq is)=some is
 | []=>rfl
 | i::is=>by show (intsOf (aq is)).map (i::·)=_; rw [aW is]; rfl
theorem Eg (n:Nat)(t:T)(m:Md):C (n+1) 34 [(m,.int (bF t).sum)]=.ok ((.d,bwf t),[]):=by
 rw [eL,x_run _ _ _ rfl]
 unfold bwf okf
 cases h1:decide ((bF t).sum<=200) with
 | true=>simp_all only [aX,h1]
 | false=>simp_all only [aX,h1]
theorem flat_words (n:Nat)(ts:List T)(m:Md)(x:T):C (n+4) 80 [(m,.lst [.tup [.lst ((ts.map bF).map lnI),.tup [.lst (aq (ts.map bF).flatten),x]]])]=.ok ((.o .s,.lst (ts.map bwf)),[]):=by
 rw [iL,x_run _ _ _ rfl]
 have e:=fun t m=>Eg (n+2) t m
 have e1:=fun m m'=>gH n (ts.map bF) m m'
 have mk:((ts.map bF).map rwI).map (fun t=>[((.s,t):W)])=ts.map fun t=>[((.s,rwI (bF t)):W)]:=by rw [a0v,a0v]; rfl
 have du:∀ w,az [1] (bq (evE (C (n+3)) (.call 34 [.op .sum false [.var 1]]))) (ts.map fun t=>[((.s,rwI (bF t)):W)]) [some w,none] []=.ok ([]++ts.map (fun t=>((.d,bwf t):W)),[some w,none]):=fun w=>au _ _ [] fun t ht=>⟨_,[some w,some (.s,rwI (bF t))],rfl,by
  unfold rwI
  simp_all only [aW,e],rfl⟩
 have tr:ax (ts.map fun t=>((.d,bwf t):W))=ts.map bwf:=aR _ _ _
 simp_all only [bC,e1,mk,du,a0u,tr]
theorem zT (n:Nat)(k:Kd)(ts:List T)(K:T)(m1:Md):C (n+4) 89 [(m1,K),(.d,.lst [.tup [.lst ((ts.map bF).map lnI),.tup [.lst (aq (ts.map bF).flatten),flatT k ((ts.flatMap ae).flatMap ae)]]])]=.ok ((.d,flatT (.row k) (ts.map gf)),[]):=by
 rw [jL,x_run _ _ _ rfl]
 have e1:=fun m m'=>gH n (ts.map bF) m m'
 have mk:((ts.map bF).map rwI).map (fun t=>[((.s,t):W)])=ts.map fun t=>[((.s,rwI (bF t)):W)]:=by rw [a0v,a0v]; rfl
 have du:∀ w1 w2,az [3] (bq (evE (C (n+3)) (.op .sum false [.var 3]))) (ts.map fun t=>[((.s,rwI (bF t)):W)]) [none,w1,w2,none] []=.ok ([]++ts.map (fun t=>((.d,aV (gf t)):W)),[none,w1,w2,none]):=fun w1 w2=>au _ _ [] fun t ht=>⟨_,[none,w1,w2,some (.s,rwI (bF t))],rfl,by
  have hg:aV (gf t)=.int (bF t).sum:=by rw [hU]; rfl
  rw [hg]
  unfold rwI
  simp_all only [aW],rfl⟩
 have tr:ax (ts.map fun t=>((.d,aV (gf t)):W))=ts.map fun t=>aV (gf t):=aR _ _ _
 have fl:flatT (.row k) (ts.map gf)=.tup [.lst (ts.map fun t=>aV (gf t)),flatT k ((ts.flatMap ae).flatMap ae)]:=by
  show T.tup [.lst ((ts.map gf).map aV),flatT k ((ts.map gf).flatMap ae)]=_
  rw [a0v,a10,List.flatMap_assoc]; rfl
 rw [fl]
 simp_all only [cg,e1,mk,du,a0u,tr,eg,a1c,a0D,List.set,a2n,a25]
theorem nD:∀ (l:List T) (i:Nat),fD (l.map bwf) i (i+l.length)=(i+(l.takeWhile okf).length,wdf l)
 | [],i=>rfl
 | p::l,i=>by
  cases h:okf p with
  | true =>
   have e1:bwf p=.non:=by rw [bwf,h]; rfl
   have e2:wdf (p::l)=wdf l:=by rw [wdf,a0T,h,a1L]; rfl
   rw [a0n,e1,a0M h,e2,a0f,a0f]
   show fD (l.map bwf) (i+1) _=_
   have:=nD l (i+1)
   rw [show i+1+l.length=i+(l.length+1) by omega] at this
   rw [this]
   congr 1
   omega
  | false =>
   have e1:bwf p=.str (q "far"):=by rw [bwf,h]; rfl
   have e2:wdf (p::l)=.str (q "far"):=by rw [wdf,a0T,h,a1D]; rfl
   rw [a0n,e1,a0N (by rw [h]; exact a0j),e2]
   rfl
theorem xI (l:List T):wdf l=.non\/∃ x,wdf l=.str x:=by
 unfold wdf
 cases l.all okf with
 | true=>exact .inl rfl
 | false=>exact .inr ⟨_,rfl⟩
theorem eF {n:Nat}{k:Kd}{o0 o1 o2 o3:Option W}{x4:W}:∀ (rs:List T) (acc:List T) (m5:Md) (o6:Option W),(m5=.s\/m5=.o .s)->(∀ r∈rs,OfK (.row k) r)->acc.length+(rs.flatMap ae).length<=LIM->∃ m5' o6',(m5'=.s\/m5'=.o .s)/\forL [6] (evSs (C n) [.asg (.q [5,6] []) 5 (.op .add false [.var 5,.var 6])]) (rs.map fun r=>[((.s,r):W)]) [o0,o1,o2,o3,some x4,some (m5,.lst acc),o6]=.nx [o0,o1,o2,o3,some x4,some (m5',.lst (acc++rs.flatMap ae)),o6']
 | [],acc,m5,o6,h5,_,_=>⟨m5,o6,h5,by rw [a2U,a0y]; rfl⟩
 | r::rs,acc,m5,o6,h5,h,hl=>by
  rw [a0F,a0g] at hl
  have hr:r=.lst (ae r):=a6 (h r a0d)
  obtain ⟨m',o',h',ih⟩:=eF (n:=n) (k:=k) (o0:=o0) (o1:=o1) (o2:=o2) (o3:=o3) (x4:=x4) rs (acc++ae r) (.o .s) (some (.s,r)) (.inr rfl) (fun z hz=>h z (a0c _ hz)) (by rw [a0g]; omega)
  refine ⟨m',o',h',?_⟩
  have step:evSs (C n) [.asg (.q [5,6] []) 5 (.op .add false [.var 5,.var 6])] [o0,o1,o2,o3,some x4,some (m5,.lst acc),some (.s,r)]=.nx [o0,o1,o2,o3,some x4,some (.o .s,.lst (acc++ae r)),some (.s,r)]:=by
   generalize ae r=ts at hr hl
   subst hr
   have hf:fits (acc.length+ts.length)=true:=decide_eq_true (by omega)
   rcases h5 with rfl | rfl
   ·simp_all only [hf,if_true]
   ·simp_all only [hf,if_true]
  rw [a0F,<- a0C]
  exact (congrArg (Fl.turn · _) step).trans ih
noncomputable abbrev lW:List S:=[
   .asg (.q [] []) 5 (.lst false []),
   .forS [4] [] .seq [.var 4] [6] [
    .asg (.q [5,6] []) 5 (.op .add false [.var 5,.var 6])],
   .ite (.q [5] []) (.op .gt false [.op .len false [.var 5],.cst (.int 200)]) [
    .asg (.q [] []) 3 (.cst (.str (q "far")))] [],
   .ite (.q [] [3]) (.op .is false [.var 3,.cst (.non)]) [
    .app (.q [5] []) 2 (.var 5)] []]
noncomputable def RR (k:Kd)(t:T):Prop:=OfK (.row (.row k)) t/\((ae t).flatMap ae).length<=LIM
theorem gu {k:Kd}{t:T}(h:RR k t):∀ r∈ae t,OfK (.row k) r:=by obtain ⟨⟨ts,rfl,_,h⟩,_⟩:=h; exact h
theorem DS (t:T):decide (200 < ((((ae t).flatMap ae).length:Nat):Int))=!okf t:=by rw [hV,okf,hU]
theorem jg {n:Nat}{k:Kd}{o0 o1 o2:Option W}:∀ (l:List T) (o4 o5 o6:Option W),(∀ t∈l,RR k t)->∃ o4' o5' o6',forL [4] (evSs (C n) lW) (l.map fun t=>[((.s,t):W)]) [o0,o1,o2,some (.d,.str (q "far")),o4,o5,o6]=.nx [o0,o1,o2,some (.d,.str (q "far")),o4',o5',o6']
 | [],o4,o5,o6,_=>⟨o4,o5,o6,rfl⟩
 | t::l,o4,o5,o6,h=>by
  have ht:=h t a0d
  have hr:t=.lst (ae t):=a6 ht.1
  obtain ⟨m5,o6a,h5,lp⟩:=eF (n:=n) (k:=k) (o0:=o0) (o1:=o1) (o2:=o2) (o3:=some (.d,.str (q "far"))) (x4:=(.s,t)) (ae t) [] (.o .s) o6 (.inr rfl) (gu ht) (by rw [a1q,a1f]; exact ht.2)
  rw [a0u] at lp
  have hg:=DS t
  obtain ⟨o5b,step⟩:∃ o5b,evSs (C n) lW [o0,o1,o2,some (.d,.str (q "far")),some (.s,t),o5,o6]=.nx [o0,o1,o2,some (.d,.str (q "far")),some (.s,t),o5b,o6a]:=by
   refine ⟨some (m5,.lst ((ae t).flatMap ae)),?_⟩
   generalize hq:(ae t).flatMap ae=fs at lp hg
   generalize ae t=rs at hr lp
   subst hr
   rcases h5 with rfl | rfl
   ·cases hz:okf (.lst rs) with
    | true=>simp_all only [lp,hg,hz,a1K]
    | false=>simp_all only [lp,hg,hz,a1x]
   ·cases hz:okf (.lst rs) with
    | true=>simp_all only [lp,hg,hz,a1K]
    | false=>simp_all only [lp,hg,hz,a1x]
  obtain ⟨o4',o5',o6',ih⟩:=jg (n:=n) (k:=k) (o0:=o0) (o1:=o1) (o2:=o2) l (some (.s,t)) o5b o6a (fun z hz=>h z (a0c _ hz))
  exact ⟨o4',o5',o6',(congrArg (Fl.turn · _) step).trans ih⟩
theorem iW {n:Nat}{k:Kd}{o0 o1:Option W}:∀ (l:List T) (acc:List T) (o4 o5 o6:Option W),(∀ t∈l,RR k t)->acc.length+l.length < LIM->∃ o4' o5' o6',forL [4] (evSs (C n) lW) (l.map fun t=>[((.s,t):W)]) [o0,o1,some (.o .s,.lst acc),some (.d,.non),o4,o5,o6]=.nx [o0,o1,some (.o .s,.lst (acc++(l.takeWhile okf).map gf)),some (.d,wdf l),o4',o5',o6']
 | [],acc,o4,o5,o6,_,_=>⟨o4,o5,o6,by simp only [a2A,a1p,a0y]; rfl⟩
 | t::l,acc,o4,o5,o6,h,hl=>by
  rw [a0f] at hl
  have ht:=h t a0d
  have hr:t=.lst (ae t):=a6 ht.1
  have hlt:acc.length < LIM:=by omega
  obtain ⟨m5,o6a,h5,lp⟩:=eF (n:=n) (k:=k) (o0:=o0) (o1:=o1) (o2:=some (.o .s,.lst acc)) (o3:=some (.d,.non)) (x4:=(.s,t)) (ae t) [] (.o .s) o6 (.inr rfl) (gu ht) (by rw [a1q,a1f]; exact ht.2)
  rw [a0u] at lp
  have hg:=DS t
  cases hp:okf t with
  | true =>
   rw [hp,a1K] at hg
   have e2:wdf (t::l)=wdf l:=by rw [wdf,a0T,hp,a1L]; rfl
   have step:evSs (C n) lW [o0,o1,some (.o .s,.lst acc),some (.d,.non),some (.s,t),o5,o6]=.nx [o0,o1,some (.o .s,.lst (acc++[gf t])),some (.d,.non),some (.s,t),some (.s,.lst ((ae t).flatMap ae)),o6a]:=by
    unfold gf
    generalize hq:(ae t).flatMap ae=fs at lp hg
    generalize ae t=rs at hr lp
    subst hr
    rcases h5 with rfl | rfl
    ·simp_all only [lp,hg,if_pos hlt]
    ·simp_all only [lp,hg,if_pos hlt]
   obtain ⟨o4',o5',o6',ih⟩:=iW (n:=n) (k:=k) (o0:=o0) (o1:=o1) l (acc++[gf t]) (some (.s,t)) (some (.s,.lst ((ae t).flatMap ae))) o6a (fun z hz=>h z (a0c _ hz)) (by rw [a0g,a0A]; omega)
   refine ⟨o4',o5',o6',?_⟩
   rw [e2,a0M hp,show acc++(t::l.takeWhile okf).map gf=acc++[gf t]++(l.takeWhile okf).map gf by rw [a0C]; rfl]
   exact (congrArg (Fl.turn · _) step).trans ih
  | false =>
   rw [hp,a1x] at hg
   have e2:wdf (t::l)=.str (q "far"):=by rw [wdf,a0T,hp,a1D]; rfl
   have step:evSs (C n) lW [o0,o1,some (.o .s,.lst acc),some (.d,.non),some (.s,t),o5,o6]=.nx [o0,o1,some (.o .s,.lst acc),some (.d,.str (q "far")),some (.s,t),some (m5,.lst ((ae t).flatMap ae)),o6a]:=by
    generalize hq:(ae t).flatMap ae=fs at lp hg
    generalize ae t=rs at hr lp
    subst hr
    rcases h5 with rfl | rfl
    ·simp_all only [lp,hg]
    ·simp_all only [lp,hg]
   obtain ⟨o4',o5',o6',ih⟩:=jg (n:=n) (k:=k) (o0:=o0) (o1:=o1) (o2:=some (.o .s,.lst acc)) l (some (.s,t)) (some (m5,.lst ((ae t).flatMap ae))) o6a (fun z hz=>h z (a0c _ hz))
   refine ⟨o4',o5',o6',?_⟩
   rw [e2,a0N (by rw [hp]; exact a0j),a1p,a0y]
   exact (congrArg (Fl.turn · _) step).trans ih
theorem CZ {k:Kd}{t:T}(h:RR k t):sz (gf t)<=sz t/\∀ u∈(ae t).flatMap ae,OfK k u:=by
 have hr:=jD h.1
 have z:=bE (a:=k) (ts:=ae t) (gu h)
 refine ⟨?_,fun u hu=>cU (a:=k) (ts:=ae t) (gu h) u hu⟩
 show szs ((ae t).flatMap ae)+1<=sz t
 omega
theorem pH {k:Kd}(hk:k.deep<=3)(ts:List T)(hl:ts.length<=6)(h:∀ t∈ts,RR k t/\sz t<=200000)(m0 m1:Md):C 39 149 [(m0,k.th),(m1,.lst ts)]=.ok ((.d,.bl true),[]):=by
 have hLM:LIM=16777215:=rfl
 obtain ⟨tw,htw⟩:∃ tw,ts.takeWhile okf=tw:=⟨_,rfl⟩
 have ha:∀ p∈tw,p∈ts/\okf p=true:=by rw [<- htw]; exact gK okf ts
 have htl:tw.length<=ts.length:=by rw [<- htw]; exact (a2e okf).length_le
 have htk:ts.take tw.length=tw:=by rw [<- htw]; exact gy okf ts
 have o1:∀ t∈ts,OfK (.row (.row k)) t:=fun t ht=>(h t ht).1.1
 have og:∀ t∈tw.map gf,OfK (.row k) t/\sz t<=200000:=fun t ht=>by
  obtain ⟨p,hp,rfl⟩:=a0t.mp ht
  obtain ⟨a,b⟩:=CZ (h p (ha p hp).1).1
  have c:=of_decide_eq_true (ha p hp).2
  rw [hU] at c
  exact ⟨⟨_,rfl,by omega,b⟩,a0o a (h p (ha p hp).1).2⟩
 have zz:∀ {us:List T},(∀ t∈us,sz t<=200000)->us.length<=6->szs us<=LIM:=fun {us} hu hl=>by
  have:=b0 hu
  have:=a1o hl (a0h 200000)
  omega
 have z1:szs ts<=LIM:=zz (fun t ht=>(h t ht).2) hl
 have z5:szs (tw.map gf)<=LIM:=zz (fun t ht=>(og t ht).2) (by rw [a0b]; omega)
 have hW:∀ m0 m1 m2 m3,C 37 133 [(m0,.tup [.str (q "flat"),.non]),(m1,.lst ([Kd.row (.row k)].map Kd.th)),(m2,.lst (([Kd.row (.row k)].zip [ts]).map fun p=>flatT p.1 p.2)),(m3,.int (ts.length:Nat))]=.ok ((.d,.tup [flatT (.row k) (tw.map gf),.int ((tw.map gf).length:Nat),wdf ts]),[]):=by
  rw [a0b]
  refine mN (n:=35) (sg:="flat") (pr:=[.non]) (ks:=[.row (.row k)]) (css:=[ts]) (R:=flatT (.row k) (tw.map gf)) (wd:=wdf ts) (many:=ts.length) (j:=tw.length) rfl (xI ts) rfl (fun m0 m1 m2=>?_) (wM (fo (by show k.deep+1+1+1<=36; omega) o1)) (fun m0 m1 m3=>?_)
  ·have:=jO (n:=35) (sg:="flat") (di:=80) (words:=ts.map bwf) (md:=.o .s) rfl rfl (fun t ht=>by
    obtain ⟨p,_,rfl⟩:=a0t.mp ht
    unfold bwf
    cases okf p with
    | true=>exact .inl rfl
    | false=>exact .inr ⟨_,rfl⟩) (fun m=>flat_words 31 ts m (flatT k ((ts.flatMap ae).flatMap ae))) (by rw [a0b]; omega) m0 m1 m2 ts.length
   have ft:=nD ts 0
   rw [a1f,a1f,htw] at ft
   rw [ft] at this
   show C 36 79 [_,(_,.lst [flatT (.row (.row k)) ts]),_]=_
   rw [m7]
   exact this
  ·show C 36 85 [_,_,(_,.lst [flatT (.row (.row k)) (ts.take tw.length)]),_]=_
   rw [htk,m7]
   exact gX (n:=35) (sg:="flat") rfl rfl rfl rfl rfl (fun m1=>zT 31 k tw _ m1) m0 m1 m3 _
 have st:∀ m0 m1 m2 m3 m4 m5,C 38 135 [(m0,.tup [.str (q "flat"),.non]),(m1,.lst [.tup [.str (q "row"),.tup [.str (q "row"),k.th]]]),(m2,.lst [.lst ts]),(m3,.tup [.str (q "row"),k.th]),(m4,.lst (tw.map gf)),(m5,wdf ts)]=.ok ((.d,.bl true),[]) :=
  j1 (n:=37) (P:=.tup [.str (q "flat"),.non]) (ks:=[.row (.row k)]) (many:=ts.length) (css:=[ts]) (kr:=.row k) (ds:=tw.map gf) (wd:=wdf ts) (by show k.deep+1+4<=37; omega) (wM (by show k.deep+1+1+4<=37; omega)) (wM (by show k.deep+1+1<=10; omega)) (by show k.deep+1<=10; omega) rfl ⟨ts,at0 _ _,rfl⟩ (wM ⟨o1,z1⟩) (fun t ht=>(og t ht).1) z5 (xI ts) hW
 rw [fN,x_run _ _ _ rfl]
 obtain ⟨o4,o5,o6,lp⟩:=iW (n:=38) (k:=k) (o0:=some (m0,k.th)) (o1:=some (.s,.lst ts)) ts [] none none none (fun t ht=>(h t ht).1) (by rw [a1q]; omega)
 rw [a0u,htw] at lp
 have lk:lf .s k.th=.s:=by obtain ⟨l,h,_⟩:=iB k; rw [h]; rfl
 simp_all only [a0,lp,lk,st]
noncomputable abbrev PC:=T×List Int
noncomputable def okc (p:PC):Bool:=!(p.2.any fun i=>decide (i < 0))&&(p.2.sum==(((ae p.1).length:Nat):Int))
noncomputable def r1c (p:PC):T:=p.1
noncomputable def r2c (p:PC):T:=rwI p.2
noncomputable def my (p:PC):T:=aV p.1
noncomputable def bwc (p:PC):T:=if okc p then .non else .str (q "unlike")
noncomputable def wdc (l:List PC):T:=if l.all okc then .non else .str (q "unlike")
noncomputable def bP:List T->List Int->List T
 | _,[]=>[]
 | ts,i::is=>.lst (ts.take i.toNat)::bP (ts.drop i.toNat) is
noncomputable def gc (p:PC):T:=.lst (bP (ae p.1) p.2)
theorem fC:∀ (ts:List T) (is:List Int),(bP ts is).length=is.length
 | _,[]=>rfl
 | ts,i::is=>congrArg (·+1) (fC (ts.drop i.toNat) is)
theorem kz:∀ (ts:List T) (is:List Int),(∀ i∈is,0<=i)->is.sum=((ts.length:Nat):Int)->(bP ts is).map aV=aq is/\(bP ts is).flatMap ae=ts
 | ts,[],_,h=>by
  have:ts=[]:=a2N.mp (by have:(0:Int)=((ts.length:Nat):Int):=h; omega)
  subst this; exact ⟨rfl,rfl⟩
 | ts,i::is,h0,h=>by
  have hi:=h0 i a0d
  have hs:i+is.sum=((ts.length:Nat):Int):=by rw [<- h,a1R]
  have hp:0<=is.sum:=by
   have:∀ l:List Int,(∀ i∈l,0<=i)->0<=l.sum:=fun l=>by
    induction l with
    | nil=>intro _; exact a3C _
    | cons a l ih=>intro hl; rw [a1R]; have:=ih fun z hz=>hl z (a0c _ hz); have:=hl a a0d; omega
   exact this is fun z hz=>h0 z (a0c _ hz)
  obtain ⟨a,b⟩:=kz (ts.drop i.toNat) is (fun z hz=>h0 z (a0c _ hz)) (by rw [a1e]; omega)
  refine ⟨?_,?_⟩
  ·show aV (.lst (ts.take i.toNat))::(bP (ts.drop i.toNat) is).map aV=.int i::aq is
   rw [a]
   congr 1
   show T.int (((ts.take i.toNat).length:Nat):Int)=_
   rw [a01,a2a (by omega)]
   congr 1
   omega
  ·show ts.take i.toNat++(bP (ts.drop i.toNat) is).flatMap ae=ts
   rw [b,a00]
theorem sU {p:PC}(h:okc p=true):(∀ i∈p.2,0<=i)/\p.2.sum=(((ae p.1).length:Nat):Int):=by
 obtain ⟨a,b⟩:=a1d.mp h
 refine ⟨fun i hi=>?_,beq_iff_eq.mp b⟩
 have c:(p.2.any fun i=>decide (i < 0))=false:=by cases z:(p.2.any fun i=>decide (i < 0)) with
  | true=>rw [z] at a; cases a
  | false=>rfl
 have:=a3m.mp c i hi
 have:¬ i < 0:=fun z=>this (decide_eq_true z)
 omega
theorem BA (k:Kd):∀ (l:List PC),(∀ p∈l,okc p=true)->flatT (.row (.row k)) (l.map gc)=.tup [.lst ((l.map fun p=>p.2).map lnI),.tup [.lst (aq (l.map fun p=>p.2).flatten),flatT k (l.flatMap fun p=>ae p.1)]]:=fun l h=>by
 show T.tup [.lst ((l.map gc).map aV),.tup [.lst (((l.map gc).flatMap ae).map aV),flatT k (((l.map gc).flatMap ae).flatMap ae)]]=_
 have e1:(l.map gc).map aV=(l.map fun p=>p.2).map lnI:=by
  rw [a0v,a0v]
  exact a1z fun p _=>by show T.int (((bP (ae p.1) p.2).length:Nat):Int)=T.int ((p.2.length:Nat):Int); rw [fC]
 have e2:((l.map gc).flatMap ae).map aV=aq (l.map fun p=>p.2).flatten/\((l.map gc).flatMap ae).flatMap ae=l.flatMap fun p=>ae p.1:=by
  clear e1
  induction l with
  | nil=>exact ⟨rfl,rfl⟩
  | cons p l ih =>
   obtain ⟨i1,i2⟩:=ih fun z hz=>h z (a0c _ hz)
   obtain ⟨a,b⟩:=sU (h p a0d)
   obtain ⟨c,d⟩:=kz (ae p.1) p.2 a b
   rw [a0n,a0F,a0Q,a07,a0n,a03,cH,a0F,i1,i2]
   exact ⟨congrArg (·++_) c,congrArg (·++_) d⟩
 rw [e1,e2.1,e2.2]
theorem BW (n:Nat)(K a b c d:T)(m1:Md):C (n+1) 94 [(m1,K),(.d,.lst [.tup [a,b],.tup [c,d]])]=.ok ((.d,.tup [c,.tup [d,b]]),[]):=by
 rw [kE,x_run _ _ _ rfl]
 simp_all only [cQ,a1c,a0D,List.set,a2n,a25]
theorem kS (ts:List T)(j:Nat):cut ts (some (j:Int)) none=ts.drop j:=by
 have e:sIx ts.length 0 (some (j:Int))=min j ts.length:=by
  show (if (j:Int) < 0 then ((j:Int)+ts.length).toNat else min (j:Int).toNat ts.length)=_
  rw [if_neg (by omega),a1G]
 have e2:sIx ts.length ts.length none=ts.length:=rfl
 rw [cut,e,e2]
 rcases Nat.le_total j ts.length with h | h
 ·rw [a2a h]
  exact a1i (by rw [a1e]; omega)
 ·rw [a1Z h,a1M (a0h _),a1M h,a3i]
noncomputable abbrev xQ:List S:=[
   .app (.q [3] [4]) 2 (.op .sl2 false [.var 3,.var 4]),
   .asg (.q [3] [4]) 3 (.op .sl1 false [.var 3,.var 4])]
theorem iX {n:Nat}{o0 o1:Option W}:∀ (is:List Int) (ts acc:List T) (m3:Md) (o4:Option W),(m3=.s\/m3=.o .s)->(∀ i∈is,0<=i)->acc.length+is.length < LIM->∃ o3' o4',forL [4] (evSs (C n) xQ) (is.map fun i=>[((.s,.int i):W)]) [o0,o1,some (.o .s,.lst acc),some (m3,.lst ts),o4]=.nx [o0,o1,some (.o .s,.lst (acc++bP ts is)),o3',o4']
 | [],ts,acc,m3,o4,_,_,_=>⟨_,_,by rw [bP,a0y]; rfl⟩
 | i::is,ts,acc,m3,o4,hm,h,hl=>by
  rw [a0f] at hl
  have hi:=h i a0d
  obtain ⟨j,rfl⟩:∃ j:Nat,i=(j:Int):=⟨i.toNat,by omega⟩
  obtain ⟨o3',o4',ih⟩:=iX (n:=n) (o0:=o0) (o1:=o1) is (ts.drop j) (acc++[.lst (ts.take j)]) (.o .s) (some (.s,.int (j:Int))) (.inr rfl) (fun z hz=>h z (a0c _ hz)) (by rw [a0g,a0A]; omega)
  refine ⟨o3',o4',?_⟩
  have hlt:acc.length < LIM:=by omega
  have step:evSs (C n) xQ [o0,o1,some (.o .s,.lst acc),some (m3,.lst ts),some (.s,.int (j:Int))]=.nx [o0,o1,some (.o .s,.lst (acc++[.lst (ts.take j)])),some (.o .s,.lst (ts.drop j)),some (.s,.int (j:Int))]:=by
   rcases hm with rfl | rfl
   ·simp_all only [dk,kS,if_pos hlt]
   ·simp_all only [dk,kS,if_pos hlt]
  rw [show acc++bP ts ((j:Int)::is)=acc++[.lst (ts.take j)]++bP (ts.drop j) is by rw [a0C]; rfl]
  exact (congrArg (Fl.turn · _) step).trans ih
theorem uP (n:Nat)(ts:List T)(is:List Int)(h:∀ i∈is,0<=i)(hl:is.length<=1000)(ht:ts.length<=LIM)(m m':Md):C (n+1) 158 [(m,.lst ts),(m',.lst (aq is))]=.ok ((.o .s,.lst (bP ts is)),[]):=by
 rw [iK,x_run _ _ _ rfl]
 have hLM:LIM=16777215:=rfl
 obtain ⟨o3,o4,lp⟩:=iX (n:=n) (o0:=some (.s,.lst ts)) (o1:=some (.s,.lst (aq is))) is ts [] (.o .s) none (.inr rfl) h (by rw [a1q]; omega)
 rw [a0u] at lp
 have mB:(aq is).map (fun t=>[((.s,t):W)])=is.map fun b=>[((.s,.int b):W)]:=by rw [aq,a0v]; rfl
 simp_all only [bK,mB,lp]
theorem unlike (n:Nat)(p:PC)(m m':Md):C (n+1) 36 [(m,my p),(m',r2c p)]=.ok ((.d,bwc p),[]):=by
 rw [k8,x_run _ _ _ rfl]
 have mB:(aq p.2).map (fun t=>[((.s,t):W)])=p.2.map fun b=>[((.s,.int b):W)]:=by rw [aq,a0v]; rfl
 have du:∀ w0 w1,az [2] (bq (evE (C n) (.op .lt false [.var 2,.cst (.int 0)]))) (p.2.map fun b=>[((.s,.int b):W)]) [w0,w1,none] []=.ok ([]++p.2.map (fun b=>((.d,.bl (decide (b < 0))):W)),[w0,w1,none]):=fun w0 w1=>au _ _ [] fun b hb=>⟨_,[w0,w1,some (.s,.int b)],rfl,by
  simp_all only [],rfl⟩
 have tr:ax (p.2.map fun b=>((.d,.bl (decide (b < 0))):W))=aJ (p.2.map fun b=>decide (b < 0)):=by rw [aR,aJ,a0v]; rfl
 have bt:∀ bs:List Bool,boolsOf (aJ bs)=some bs:=fun bs=>by
  induction bs with
  | nil=>rfl
  | cons b bs ih=>show (boolsOf (aJ bs)).map (b::·)=_; rw [ih]; rfl
 have ha:(p.2.map fun b=>decide (b < 0)).any id=p.2.any fun i=>decide (i < 0):=by rw [List.any_map]; rfl
 unfold bwc okc my r2c rwI aV
 cases h1:p.2.any fun i=>decide (i < 0) with
 | true=>simp_all only [bw,mB,du,a0u,tr,bt,ha,h1,a1D]
 | false =>
  cases h2:p.2.sum==(((ae p.1).length:Nat):Int) with
  | true=>simp_all only [bw,mB,du,a0u,tr,bt,ha,h1,aW,h2]
  | false=>simp_all only [bw,mB,du,a0u,tr,bt,ha,h1,aW,h2]
theorem cut_words (n:Nat)(l:List PC)(m:Md)(x:T):C (n+4) 84 [(m,.lst [.tup [.lst (l.map my),x],.tup [.lst ((l.map fun p=>p.2).map lnI),.lst (aq (l.map fun p=>p.2).flatten)]])]=.ok ((.o .s,.lst (l.map bwc)),[]):=by
 rw [jU,x_run _ _ _ rfl]
 have e:=fun p m m'=>unlike (n+2) p m m'
 have e1:=fun m m'=>gH n (l.map fun p=>p.2) m m'
 have mk:(l.map fun p=>p.2).map rwI=l.map r2c:=by rw [a0v]; rfl
 have du:∀ w,az [1,2] (bq (evE (C (n+3)) (.call 36 [.var 1,.var 2]))) (l.map fun p=>[((.s,my p):W),(.s,r2c p)]) [some w,none,none] []=.ok ([]++l.map (fun p=>((.d,bwc p):W)),[some w,none,none]):=fun w=>au _ _ [] fun p hp=>⟨_,[some w,some (.s,my p),some (.s,r2c p)],rfl,by
  simp_all only [e],rfl⟩
 have tr:ax (l.map fun p=>((.d,bwc p):W))=l.map bwc:=aR _ _ _
 simp_all only [cf,e1,mk,wH,du,a0u,tr]
theorem nS:∀ (l:List PC) (i:Nat),fD (l.map bwc) i (i+l.length)=(i+(l.takeWhile okc).length,wdc l)
 | [],i=>rfl
 | p::l,i=>by
  cases h:okc p with
  | true =>
   have e1:bwc p=.non:=by rw [bwc,h]; rfl
   have e2:wdc (p::l)=wdc l:=by rw [wdc,a0T,h,a1L]; rfl
   rw [a0n,e1,a0M h,e2,a0f,a0f]
   show fD (l.map bwc) (i+1) _=_
   have:=nS l (i+1)
   rw [show i+1+l.length=i+(l.length+1) by omega] at this
   rw [this]
   congr 1
   omega
  | false =>
   have e1:bwc p=.str (q "unlike"):=by rw [bwc,h]; rfl
   have e2:wdc (p::l)=.str (q "unlike"):=by rw [wdc,a0T,h,a1D]; rfl
   rw [a0n,e1,a0N (by rw [h]; exact a0j),e2]
   rfl
theorem x8 (l:List PC):wdc l=.non\/∃ x,wdc l=.str x:=by
 unfold wdc
 cases l.all okc with
 | true=>exact .inl rfl
 | false=>exact .inr ⟨_,rfl⟩
theorem jK:∀ is:List Int,decide (minI (is++[0]) < 0)=is.any fun i=>decide (i < 0)
 | []=>rfl
 | i::is=>by
  have e:minI (i::is++[0])=min i (minI (is++[0])):=by cases is<;>rfl
  have ih:=jK is
  rw [e,a0P,<- ih]
  cases h1:decide (i < 0) with
  | true=>exact (decide_eq_true (by have:=of_decide_eq_true h1; omega)).trans rfl
  | false =>
   have:=of_decide_eq_false h1
   cases h2:decide (minI (is++[0]) < 0) with
   | true=>exact decide_eq_true (by have:=of_decide_eq_true h2; omega)
   | false=>exact decide_eq_false (by have:=of_decide_eq_false h2; omega)
theorem fG (is:List Int):aq is++[.int 0]=aq (is++[0]):=(cH is [0]).symm
theorem ne0 (is:List Int):(is++[0]).isEmpty=false:=by cases is<;>rfl
noncomputable abbrev kv:List S:=[
   .asg (.q [6] []) 7 (.op .min1 false [.op .add false [.var 6,.lst false [.cst (.int 0)]]]),
   .ite (.q [5,6] [7]) (.or (.op .lt false [.var 7,.cst (.int 0)]) (.op .ne false [.op .sum false [.var 6],.op .len false [.var 5]])) [
    .asg (.q [] []) 4 (.cst (.str (q "unlike")))] [],
   .ite (.q [] [4]) (.op .is false [.var 4,.cst (.non)]) [
    .app (.q [5,6] []) 3 (.call 158 [.var 5,.var 6])] []]
theorem lK {n:Nat}{k:Kd}{o0 o1 o2 o3 o8:Option W}:∀ (l:List PC) (o5 o6 o7:Option W),(∀ p∈l,OfK (.row k) p.1/\p.2.length<=1000)->∃ o5' o6' o7',forL [5,6] (evSs (C n) kv) (l.map fun p=>[((.s,r1c p):W),(.s,r2c p)]) [o0,o1,o2,o3,some (.d,.str (q "unlike")),o5,o6,o7,o8]=.nx [o0,o1,o2,o3,some (.d,.str (q "unlike")),o5',o6',o7',o8]
 | [],o5,o6,o7,_=>⟨o5,o6,o7,rfl⟩
 | p::l,o5,o6,o7,h=>by
  have hLM:LIM=16777215:=rfl
  obtain ⟨o5',o6',o7',ih⟩:=lK (n:=n) (k:=k) (o0:=o0) (o1:=o1) (o2:=o2) (o3:=o3) (o8:=o8) l (some (.s,r1c p)) (some (.s,r2c p)) (some (.d,.int (minI (p.2++[0])))) (fun z hz=>h z (a0c _ hz))
  refine ⟨o5',o6',o7',?_⟩
  have hr:p.1=.lst (ae p.1):=a6 (h p a0d).1
  have h2:=(h p a0d).2
  have hf:fits ((aq p.2).length+[T.int 0].length)=true:=decide_eq_true (by rw [aq,a0b,a0A]; omega)
  have hm:=jK p.2
  generalize ae p.1=ts at hr
  have step:evSs (C n) kv [o0,o1,o2,o3,some (.d,.str (q "unlike")),some (.s,r1c p),some (.s,r2c p),o7,o8]=.nx [o0,o1,o2,o3,some (.d,.str (q "unlike")),some (.s,r1c p),some (.s,r2c p),some (.d,.int (minI (p.2++[0]))),o8]:=by
   unfold r1c r2c rwI
   rw [hr]
   cases h1:p.2.any fun i=>decide (i < 0) with
   | true =>
    rw [h1] at hm
    simp_all only [hf,fG,aW,ne0,if_true,hm]
   | false =>
    rw [h1] at hm
    cases h3:p.2.sum==((ts.length:Nat):Int) with
    | true=>simp_all only [hf,fG,aW,ne0,if_true,hm,h3,a1K]
    | false=>simp_all only [hf,fG,aW,ne0,if_true,hm,h3,a1x]
  exact (congrArg (Fl.turn · _) step).trans ih
theorem lF {n:Nat}{k:Kd}{o0 o1 o2 o8:Option W}:∀ (l:List PC) (acc:List T) (o5 o6 o7:Option W),(∀ p∈l,OfK (.row k) p.1/\p.2.length<=1000)->acc.length+l.length < LIM->∃ o5' o6' o7',forL [5,6] (evSs (C (n+1)) kv) (l.map fun p=>[((.s,r1c p):W),(.s,r2c p)]) [o0,o1,o2,some (.o .s,.lst acc),some (.d,.non),o5,o6,o7,o8]=.nx [o0,o1,o2,some (.o .s,.lst (acc++(l.takeWhile okc).map gc)),some (.d,wdc l),o5',o6',o7',o8]
 | [],acc,o5,o6,o7,_,_=>⟨o5,o6,o7,by simp only [a2A,a1p,a0y]; rfl⟩
 | p::l,acc,o5,o6,o7,h,hl=>by
  have hLM:LIM=16777215:=rfl
  rw [a0f] at hl
  have hr:p.1=.lst (ae p.1):=a6 (h p a0d).1
  have h200:(ae p.1).length<=200:=by obtain ⟨ts,e,a,_⟩:=(h p a0d).1; rw [e]; exact a
  have h2:=(h p a0d).2
  have hlt:acc.length < LIM:=by omega
  have hf:fits ((aq p.2).length+[T.int 0].length)=true:=decide_eq_true (by rw [aq,a0b,a0A]; omega)
  have hm:=jK p.2
  cases hp:okc p with
  | true =>
   obtain ⟨a,b⟩:=sU hp
   have lpd:=fun m m'=>uP n (ae p.1) p.2 a h2 (by omega) m m'
   have h1:(p.2.any fun i=>decide (i < 0))=false:=by
    cases z:p.2.any fun i=>decide (i < 0) with
    | true=>rw [okc,z] at hp; cases hp
    | false=>rfl
   have h3:(p.2.sum==(((ae p.1).length:Nat):Int))=true:=beq_iff_eq.mpr b
   rw [h1] at hm
   have e2:wdc (p::l)=wdc l:=by rw [wdc,a0T,hp,a1L]; rfl
   obtain ⟨o5',o6',o7',ih⟩:=lF (n:=n) (k:=k) (o0:=o0) (o1:=o1) (o2:=o2) (o8:=o8) l (acc++[gc p]) (some (.s,r1c p)) (some (.s,r2c p)) (some (.d,.int (minI (p.2++[0])))) (fun z hz=>h z (a0c _ hz)) (by rw [a0g,a0A]; omega)
   refine ⟨o5',o6',o7',?_⟩
   have step:evSs (C (n+1)) kv [o0,o1,o2,some (.o .s,.lst acc),some (.d,.non),some (.s,r1c p),some (.s,r2c p),o7,o8]=.nx [o0,o1,o2,some (.o .s,.lst (acc++[gc p])),some (.d,.non),some (.s,r1c p),some (.s,r2c p),some (.d,.int (minI (p.2++[0]))),o8]:=by
    unfold r1c r2c rwI gc
    generalize ae p.1=ts at hr lpd h3
    rw [hr]
    simp_all only [hf,fG,aW,ne0,if_true,hm,h3,a1K,lpd,if_pos hlt]
   rw [e2,a0M hp,show acc++(p::l.takeWhile okc).map gc=acc++[gc p]++(l.takeWhile okc).map gc by rw [a0C]; rfl]
   exact (congrArg (Fl.turn · _) step).trans ih
  | false =>
   have e2:wdc (p::l)=.str (q "unlike"):=by rw [wdc,a0T,hp,a1D]; rfl
   obtain ⟨o5',o6',o7',ih⟩:=lK (n:=n+1) (k:=k) (o0:=o0) (o1:=o1) (o2:=o2) (o3:=some (.o .s,.lst acc)) (o8:=o8) l (some (.s,r1c p)) (some (.s,r2c p)) (some (.d,.int (minI (p.2++[0])))) (fun z hz=>h z (a0c _ hz))
   refine ⟨o5',o6',o7',?_⟩
   have step:evSs (C (n+1)) kv [o0,o1,o2,some (.o .s,.lst acc),some (.d,.non),some (.s,r1c p),some (.s,r2c p),o7,o8]=.nx [o0,o1,o2,some (.o .s,.lst acc),some (.d,.str (q "unlike")),some (.s,r1c p),some (.s,r2c p),some (.d,.int (minI (p.2++[0]))),o8]:=by
    unfold r1c r2c rwI
    unfold okc at hp
    generalize ae p.1=ts at hr hp
    rw [hr]
    cases h1:p.2.any fun i=>decide (i < 0) with
    | true =>
     rw [h1] at hm
     simp_all only [hf,fG,aW,ne0,if_true,hm]
    | false =>
     rw [h1] at hm hp
     rw [a1x,a1L] at hp
     simp_all only [hf,fG,aW,ne0,if_true,hm,hp,a1x]
   rw [e2,a0N (by rw [hp]; exact a0j),a1p,a0y]
   exact (congrArg (Fl.turn · _) step).trans ih
theorem i4:∀ (ts:List T) (is:List Int),(∀ u∈bP ts is,∃ sub,u=.lst sub/\sub.length<=ts.length/\∀ x∈sub,x∈ts)/\szs (bP ts is)<=szs ts+is.length
 | ts,[]=>⟨(fun _ h=>nomatch h),a0Y _⟩
 | ts,i::is=>by
  obtain ⟨a,b⟩:=i4 (ts.drop i.toNat) is
  have e:szs ts=szs (ts.take i.toNat)+szs (ts.drop i.toNat):=by rw [<- fv,a00]
  refine ⟨fun u hu=>?_,?_⟩
  ·rcases a0l.mp (show u∈T.lst (ts.take i.toNat)::bP (ts.drop i.toNat) is from hu) with rfl | hu
   ·exact ⟨_,rfl,by rw [a01]; exact a2Q _ _,fun x hx=>a2o hx⟩
   ·obtain ⟨sub,e1,e2,e3⟩:=a u hu
    exact ⟨sub,e1,a0o e2 (by rw [a1e]; omega),fun x hx=>a27 (e3 x hx)⟩
  ·show (szs (ts.take i.toNat)+1)+szs (bP (ts.drop i.toNat) is)<=_
   rw [a0f]
   omega
theorem lJ (k:Kd)(l:List PC):flatT (.row k) (l.map r1c)=.tup [.lst (l.map my),flatT k (l.flatMap fun p=>ae p.1)]:=by
 show T.tup [.lst ((l.map r1c).map aV),flatT k ((l.map r1c).flatMap ae)]=_
 rw [a0v,a10]
 rfl
theorem lH (l:List PC):flatT (.row .num) (l.map r2c)=.tup [.lst ((l.map fun p=>p.2).map lnI),.lst (aq (l.map fun p=>p.2).flatten)]:=by
 show T.tup [.lst ((l.map r2c).map aV),.lst ((l.map r2c).flatMap ae)]=_
 have e1:(l.map r2c).map aV=(l.map fun p=>p.2).map lnI:=by
  rw [a0v,a0v]
  exact a1z fun p _=>by show T.int (((aq p.2).length:Nat):Int)=T.int ((p.2.length:Nat):Int); rw [aq,a0b]
 have e2:(l.map r2c).flatMap ae=aq (l.map fun p=>p.2).flatten:=by
  clear e1
  induction l with
  | nil=>rfl
  | cons p l ih=>rw [a0n,a0F,ih,a0n,a03,cH]; rfl
 rw [e1,e2]
theorem zW {k:Kd}(hk:k.deep<=3)(l:List PC)(hl:l.length<=6)(h:∀ p∈l,OfK (.row k) p.1/\sz p.1<=20000/\p.2.length<=100/\∀ i∈p.2,i.natAbs<=1000000000000000000)(m0 m1 m2:Md):C 39 159 [(m0,k.th),(m1,.lst (l.map r1c)),(m2,.lst (l.map r2c))]=.ok ((.d,.bl true),[]):=by
 have hLM:LIM=16777215:=rfl
 obtain ⟨tw,htw⟩:∃ tw,l.takeWhile okc=tw:=⟨_,rfl⟩
 have ha:∀ p∈tw,p∈l/\okc p=true:=by rw [<- htw]; exact gK okc l
 have hk1:∀ p∈tw,okc p=true:=fun p hp=>(ha p hp).2
 have htl:tw.length<=l.length:=by rw [<- htw]; exact (a2e okc).length_le
 have htk:l.take tw.length=tw:=by rw [<- htw]; exact gy okc l
 have o1:∀ t∈l.map r1c,OfK (.row k) t:=fun t ht=>by obtain ⟨p,hp,rfl⟩:=a0t.mp ht; exact (h p hp).1
 have o2:∀ t∈l.map r2c,OfK (.row .num) t:=fun t ht=>by
  obtain ⟨p,hp,rfl⟩:=a0t.mp ht
  exact ⟨_,rfl,by rw [aq,a0b]; have:=(h p hp).2.2.1; omega,fun u hu=>by obtain ⟨i,hi,rfl⟩:=a0t.mp hu; exact ⟨i,rfl,(h p hp).2.2.2 i hi⟩⟩
 have og:∀ t∈tw.map gc,OfK (.row (.row k)) t/\sz t<=20000+200:=fun t ht=>by
  obtain ⟨p,hp,rfl⟩:=a0t.mp ht
  obtain ⟨s1,s2⟩:=i4 (ae p.1) p.2
  obtain ⟨h1,h2,h3,_⟩:=h p (ha p hp).1
  have z:=jD h1
  obtain ⟨ts,e,e1,e2⟩:=h1
  refine ⟨⟨_,rfl,by rw [fC]; omega,fun u hu=>?_⟩,?_⟩
  ·obtain ⟨sub,f1,f2,f3⟩:=s1 u hu
   rw [e] at f2 f3
   exact ⟨sub,f1,a0o f2 e1,fun x hx=>e2 x (f3 x hx)⟩
  ·show szs (bP (ae p.1) p.2)+1<=_
   omega
 have z1:szs (l.map r1c)<=120000:=rH (fun t ht=>by obtain ⟨p,hp,rfl⟩:=a0t.mp ht; exact (h p hp).2.1) (by rw [a0b]; exact hl)
 have z2:szs (l.map r2c)<=120000:=rH (fun t ht=>by
  obtain ⟨p,hp,rfl⟩:=a0t.mp ht
  have a:=b0 (b:=1) (ts:=aq p.2) fun t ht=>by obtain ⟨b,_,rfl⟩:=a0t.mp ht; exact a0h _
  rw [aq,a0b] at a
  have:=(h p hp).2.2.1
  show szs (aq p.2)+1<=20000
  rw [aq]; omega) (by rw [a0b]; exact hl)
 have z5:szs (tw.map gc)<=LIM:=by
  have:=b0 (b:=20200) (ts:=tw.map gc) fun t ht=>(og t ht).2
  rw [a0b] at this
  have:=a1o (show tw.length<=6 by omega) (a0h 20200)
  omega
 have cw:∀ m,C 35 84 [(m,.lst [.tup [.lst (l.map my),flatT k (l.flatMap fun p=>ae p.1)],.tup [.lst ((l.map fun p=>p.2).map lnI),.lst (aq (l.map fun p=>p.2).flatten)]])]=.ok ((.o .s,.lst (l.map bwc)),[]):=fun m=>cut_words 31 l m _
 have hW:∀ m0 m1 m2 m3,C 37 133 [(m0,.tup [.str (q "cut"),.non,.non]),(m1,.lst ([Kd.row k,.row .num].map Kd.th)),(m2,.lst (([Kd.row k,.row .num].zip [l.map r1c,l.map r2c]).map fun p=>flatT p.1 p.2)),(m3,.int (l.length:Nat))]=.ok ((.d,.tup [flatT (.row (.row k)) (tw.map gc),.int ((tw.map gc).length:Nat),wdc l]),[]):=by
  rw [a0b]
  refine mN (n:=35) (sg:="cut") (pr:=[.non,.non]) (ks:=[.row k,.row .num]) (css:=[l.map r1c,l.map r2c]) (R:=flatT (.row (.row k)) (tw.map gc)) (wd:=wdc l) (many:=l.length) (j:=tw.length) rfl (x8 l) rfl (fun m0 m1 m2=>?_) (iM (fo (by show k.deep+1+1<=36; omega) o1) (fo (k:=.row .num) (by decide) o2)) (fun m0 m1 m3=>?_)
  ·have:=jO (n:=35) (sg:="cut") (di:=84) (words:=l.map bwc) (md:=.o .s) rfl rfl (fun t ht=>by
    obtain ⟨p,_,rfl⟩:=a0t.mp ht
    unfold bwc
    cases okc p with
    | true=>exact .inl rfl
    | false=>exact .inr ⟨_,rfl⟩) cw (by rw [a0b]; omega) m0 m1 m2 l.length
   have ft:=nS l 0
   rw [a1f,a1f,htw] at ft
   rw [ft] at this
   show C 36 79 [_,(_,.lst [flatT (.row k) (l.map r1c),flatT (.row .num) (l.map r2c)]),_]=_
   rw [lJ,lH]
   exact this
  ·show C 36 85 [_,_,(_,.lst [flatT (.row k) ((l.map r1c).take tw.length),flatT (.row .num) ((l.map r2c).take tw.length)]),_]=_
   rw [<- a1C,<- a1C,htk,lJ,lH,BA k tw hk1]
   exact gX (n:=35) (sg:="cut") rfl rfl rfl rfl rfl (fun m1=>BW 34 _ _ _ _ _ m1) m0 m1 m3 _
 have y1:szs (l.map r1c)<=LIM:=a0o z1 (by omega)
 have y2:szs (l.map r2c)<=LIM:=a0o z2 (by omega)
 have q1:(Kd.row (.row k)).deep+4<=37:=by show k.deep+1+1+4<=37; omega
 have q2:∀ k'∈[Kd.row k,.row .num],k'.deep+4<=37:=iM (by show k.deep+1+4<=37; omega) (by decide)
 have q3:∀ k'∈[Kd.row k,.row .num],k'.deep<=10:=iM (by show k.deep+1<=10; omega) (by decide)
 have q4:(Kd.row (.row k)).deep<=10:=by show k.deep+1+1<=10; omega
 have q5:∃ c,atI ([l.map r1c,l.map r2c].map T.lst) 0=some (.lst c)/\c.length=l.length:=⟨l.map r1c,at0 _ _,a0b ..⟩
 have q6:∀ p∈[Kd.row k,.row .num].zip [l.map r1c,l.map r2c],(∀ t∈p.2,OfK p.1 t)/\szs p.2<=LIM:=iM (p:=fun p:Kd×List T=>(∀ t∈p.2,OfK p.1 t)/\szs p.2<=LIM) ⟨o1,y1⟩ ⟨o2,y2⟩
 have st:∀ m0 m1 m2 m3 m4 m5,C 38 135 [(m0,.tup [.str (q "cut"),.non,.non]),(m1,.lst [.tup [.str (q "row"),k.th],.tup [.str (q "row"),.tup [.str (q "num")]]]),(m2,.lst [.lst (l.map r1c),.lst (l.map r2c)]),(m3,.tup [.str (q "row"),.tup [.str (q "row"),k.th]]),(m4,.lst (tw.map gc)),(m5,wdc l)]=.ok ((.d,.bl true),[]) :=
  j1 (n:=37) (P:=.tup [.str (q "cut"),.non,.non]) (ks:=[.row k,.row .num]) (many:=l.length) (css:=[l.map r1c,l.map r2c]) (kr:=.row (.row k)) (ds:=tw.map gc) (wd:=wdc l) q1 q2 q3 q4 rfl q5 q6 (fun t ht=>(og t ht).1) z5 (x8 l) hW
 rw [mK,x_run _ _ _ rfl]
 obtain ⟨o5,o6,o7,lp⟩:=lF (n:=37) (k:=k) (o0:=some (m0,k.th)) (o1:=some (.s,.lst (l.map r1c))) (o2:=some (.s,.lst (l.map r2c))) (o8:=none) l [] none none none (fun p hp=>⟨(h p hp).1,by have:=(h p hp).2.2.1; omega⟩) (by rw [a1q]; omega)
 rw [a0u,htw] at lp
 have lk:lf .s k.th=.s:=by obtain ⟨l,h,_⟩:=iB k; rw [h]; rfl
 simp_all only [de,wH,lp,lk,st]
noncomputable abbrev Dv:List S:=[
   .asg (.l []) 4 (.call 20 [.io 0,.op .add false [.op .min false [.var 3,.cst (.int 5)],.cst (.int 1)]]),
   .ite (.q [2] []) (.op .gt false [.op .len false [.var 2],.cst (.int 8)]) [
    .asg (.q [] [3]) 4 (.var 3)] [],
   .app (.q [] [4]) 2 (.var 4),
   .asg (.q [] [3,4]) 3 (.op .sub false [.var 3,.var 4])]
noncomputable def xq (N:Nat)(o1:Option W)(m:Nat)(η:Env):Prop:=∃ (t:T) (is:List Int) (lft:Int) (o4:Option W),η=[some (.d,t),o1,some (.o .s,.lst (aq is)),some (.d,.int lft),o4,none]/\Tp (N+is.length) t/\0<=lft/\lft<=200/\(∀ i∈is,i.natAbs<=200)/\is.length+m=11/\(0 < lft->1 < m)
theorem jF (is:List Int)(i:Int):aq is++[.int i]=aq (is++[i]):=(cH is [i]).symm
theorem oC {n N:Nat}{t:T}(ht:Tp N t)(hN:N+20 < 1000000000000000000)(lft:Int)(h0:0<=lft)(h1:lft<=200)(o1:Option W):∃ η',jG (evT (C (n+2)) (.q [] [3]) (.op .gt false [.var 3,.cst (.int 0)])) (evSs (C (n+2)) Dv) pe [some (.d,t),o1,some (.o .s,.lst []),some (.d,.int lft),none,none]=.nx η'/\∃ m,xq N o1 m η':=by
 have hLM:LIM=16777215:=rfl
 refine nF (fun m η=>xq N o1 m η) (fun η=>∃ m,xq N o1 m η) pe 11 _ (by decide) ⟨t,[],lft,none,rfl,ht,h0,h1,(fun _ h=>nomatch h),by decide,(fun _=>by decide)⟩ (fun m η hI=>?_)
 obtain ⟨t,is,lft,o4,rfl,ht,h0,h1,hi,hm,hp⟩:=hI
 cases hz:decide (0 < lft) with
 | false =>
  refine .inl ⟨_,?_,m,t,is,lft,o4,rfl,ht,h0,h1,hi,hm,hp⟩
  simp_all only [hz]
 | true =>
  have hz':=of_decide_eq_true hz
  have hm1:=hp hz'
  obtain ⟨m',rfl⟩:∃ m',m=m'+1:=⟨m-1,by omega⟩
  have hb:0 < (if (5:Int) < lft then 5 else lft)+1/\(if (5:Int) < lft then 5 else lft)+1 < 1073741824/\(if (5:Int) < lft then 5 else lft)<=lft:=by split<;>omega
  obtain ⟨r,t',r0,r1,ht',e1⟩:=cN (n:=n) .d ((if (5:Int) < lft then 5 else lft)+1) ht (by omega) hb.1 hb.2.1
  have hlt:(aq is).length < LIM:=by rw [aq,a0b]; omega
  have step:∀ v:Int,0<=v->v<=lft->(8 < is.length->v=lft)->xq N o1 m' [some (.d,t'),o1,some (.o .s,.lst (aq (is++[v]))),some (.d,.int (lft-v)),some (.d,.int v),none]:=fun v v0 v1 v2=>by
   refine ⟨t',is++[v],lft-v,some (.d,.int v),rfl,by rw [a0g,a0A]; exact ht',by omega,by omega,fun i hi'=>?_,by rw [a0g,a0A]; omega,fun h=>?_⟩
   ·rcases a0O.mp hi' with h | h
    ·exact hi i h
    ·rw [a0w.mp h]; omega
   ·by_cases h8:8 < is.length
    ·have:=v2 h8; omega
    ·omega
  cases h8:decide ((8:Int) < (((aq is).length:Nat):Int)) with
  | true =>
   refine .inr ⟨[some (.d,t),o1,some (.o .s,.lst (aq is)),some (.d,.int lft),o4,none],_,m',?_,?_,by omega,step lft h0 (a3C _) fun _=>rfl⟩
   ·simp_all only [hz]
   ·simp_all only [e1,h8,if_pos hlt,jF]
  | false =>
   have h9:=of_decide_eq_false h8
   rw [aq,a0b] at h9
   refine .inr ⟨[some (.d,t),o1,some (.o .s,.lst (aq is)),some (.d,.int lft),o4,none],_,m',?_,?_,by omega,step r r0 (by omega) fun h=>by omega⟩
   ·simp_all only [hz]
   ·simp_all only [e1,h8,if_pos hlt,jF]
theorem Cy {N:Nat}{t:T}(ht:Tp N t)(hN:N+20 < 1000000000000000000)(L:Nat)(hL:L<=200)(m:Md):∃ (md:Md) (is:List Int) (t':T),is.length<=100/\(∀ i∈is,i.natAbs<=1000000000000000000)/\Tp (N+20) t'/\C 39 150 [(.d,t),(m,.int (L:Nat))]=.ok ((md,.lst (aq is)),[(.d,t')]):=by
 have hLM:LIM=16777215:=rfl
 obtain ⟨η',lp,m',t2,is,lft,o4,rfl,ht2,h0,h1,hi,hm,hp⟩:=oC (n:=36) (N:=N) ht hN ((L:Nat):Int) (by omega) (by omega) (some (m,.int (L:Nat)))
 obtain ⟨r,t3,r0,r1,ht3,e3⟩:=cN (n:=36) .d 12 ht2 (by omega) (by decide) (by decide)
 obtain ⟨r',t4,r0',r1',ht4,e4⟩:=cN (n:=36) .d 3 ht3 (by omega) (by decide) (by decide)
 have ff:∀ us:List T,us.length<=2->fits ((aq is).length+us.length)=true:=fun us hu=>decide_eq_true (by rw [aq,a0b]; omega)
 have f1:=ff [.int (1+r')] (by show 1<=2; decide)
 have f2:=ff [.int 2,.int (0-2)] (by decide)
 have f3:=ff [.int 0] (by decide)
 have n2:aq is++[.int 2,.int (0-2)]=aq (is++[2,0-2]):=(cH is [2,0-2]).symm
 have bd:∀ js:List Int,js.length<=2->(∀ j∈js,j.natAbs<=200)->(is++js).length<=100/\∀ i∈is++js,i.natAbs<=1000000000000000000:=fun js hj h=>⟨by rw [a0g]; omega,fun i hi'=>by
  rcases a0O.mp hi' with a | a
  ·have:=hi i a; omega
  ·have:=h i a; omega⟩
 rw [show C 39 150 [(.d,t),(m,.int (L:Nat))]=runF (C 38) aK [(.d,t),(m,.int (L:Nat))] from rfl,x_run _ _ _ rfl]
 cases c1:r==11 with
 | true =>
  obtain ⟨a,b⟩:=bd [1+r'] (by show 1<=2; decide) (fun j hj=>by rw [a0w.mp hj]; omega)
  refine ⟨.o .s,is++[1+r'],t4,a,b,tm ht4 (by omega),?_⟩
  simp_all only [aK,lp,e3,c1,e4,f1,jF]
 | false =>
  cases c2:r==10 with
  | true =>
   obtain ⟨a,b⟩:=bd [2,0-2] (by decide) (fun j hj=>by
    rcases a0l.mp hj with rfl | hj
    ·decide
    ·rw [a0w.mp hj]; decide)
   refine ⟨.o .s,is++[2,0-2],t3,a,b,tm ht3 (by omega),?_⟩
   simp_all only [aK,lp,e3,c1,c2,f2,n2]
  | false =>
   cases c3:r==9 with
   | true =>
    obtain ⟨a,b⟩:=bd [0] (by decide) (fun j hj=>by rw [a0w.mp hj]; decide)
    refine ⟨.o .s,is++[0],t3,a,b,tm ht3 (by omega),?_⟩
    simp_all only [aK,lp,e3,c1,c2,c3,f3,jF]
   | false =>
    obtain ⟨a,b⟩:=bd [] (by decide) (fun j hj=>nomatch hj)
    rw [a0y] at a b
    refine ⟨.o .s,is,t3,a,b,tm ht3 (by omega),?_⟩
    simp_all only [aK,lp,e3,c1,c2,c3]
noncomputable def Rw (k:Kd)(t:T):Prop:=OfK (.row k) t/\sz t<=20000
theorem BD {k:Kd}(hk:k.deep<=3):B k.deep<=2640/\D k.deep<=13174:=⟨a0o (j2 hk) (by decide),a0o (jy hk) (by decide)⟩
theorem xM {k:Kd}(hk:k.deep<=3){N:Nat}{t:T}(ht:Tp N t)(hN:N+60000 < 1000000000000000000)(m:Md):∃ (us:List T) (t':T),Rw k (.lst us)/\Tp (N+60000) t'/\C 38 146 [(.d,t),(m,k.th)]=.ok ((.o .s,.lst us),[(.d,t')]):=by
 obtain ⟨hB,hD⟩:=BD hk
 obtain ⟨v,t1,v0,v1,ht1,e1⟩:=cN (n:=35) .d 5 ht (by omega) (by decide) (by decide)
 obtain ⟨c1,c2⟩:=rf (mm:=v) (by omega) (by omega)
 have hv:=a1o (show v.toNat<=4 by omega) hD
 obtain ⟨os,t6,x1,x2,x3,x4⟩:=fF (s:=2) (g:=fun (k:Nat)=>((.d,.int k):W)) (f:=bq (evE (C 37) (.call 23 [.io 0,.var 1,.cst (.bl true)]))) (fun t=>[some (.d,t),some (.s,k.th),none]) (fun t w=>[some (.d,t),some (.s,k.th),some w]) (P:=fun o=>∃ w,o=some w/\OfK k w.2/\sz w.2<=B k.deep) (c:=D k.deep) (fun _ _=>rfl) (fun _ _=>rfl) (fun N t w ht hN=>by
   obtain ⟨md,v,t',q1,q2,q3,q4,q5⟩:=worth k (33-k.deep) true .s ht hN
   rw [show 33-k.deep+k.deep+4=37 by omega] at q5
   refine ⟨some (md,v),t',⟨_,rfl,q1,q2⟩,q4,?_⟩
   simp_all only [q5]) (a0B v.toNat) _ t1 ht1 (by rw [a1l]; omega)
 obtain ⟨ws,y1,y2,y3⟩:=ud x2
 rw [a1l] at x1 x3
 have x5:=x4 []
 rw [y1] at x5
 have uw:Ok k 4 (ax ws):=yI y3 (by omega)
 refine ⟨ax ws,t6,⟨⟨_,rfl,a0o uw.2 (by decide),fun z hz=>(uw.1 z hz).1⟩,?_⟩,tm x3 (by omega),?_⟩
 ·show szs (ax ws)+1<=20000
  have:=b0 (b:=2640) (ts:=ax ws) fun z hz=>a0o (uw.1 z hz).2 hB
  have:=a1o uw.2 (a0h 2640)
  omega
 ·rw [lT,x_run _ _ _ rfl]
  simp_all only [cM,e1,c1,c2,x5]
theorem lr (u:T):∀ n:Nat,(a0e n [u]).flatten=a0e n u
 | 0=>rfl
 | n+1=>by rw [a0V,a03,lr u n]; rfl
theorem qJ {k:Kd}{u:T}(hd:k.deep=0)(h:OfK k u)(hs:sz u<=B k.deep){n:Nat}(hn:n<=200):Rw k (.lst (a0e n u)):=by
 refine ⟨⟨_,rfl,by rw [a0z]; exact hn,fun z hz=>(a2B.mp hz).2 ▸ h⟩,?_⟩
 show szs (a0e n u)+1<=20000
 have:=b0 (b:=1) (ts:=a0e n u) fun z hz=>by rw [(a2B.mp hz).2]; rw [hd] at hs; exact hs
 rw [a0z] at this
 omega
theorem two {k:Kd}(hk:k.deep<=3){N:Nat}{t:T}(ht:Tp N t)(hN:N+130000 < 1000000000000000000)(m:Md):∃ (md:Md) (us vs:List T) (t':T),Rw k (.lst us)/\Rw k (.lst vs)/\Tp (N+130000) t'/\C 39 147 [(.d,t),(m,k.th)]=.ok ((md,.tup [.lst us,.lst vs]),[(.d,t')]):=by
 obtain ⟨hB,hD⟩:=BD hk
 obtain ⟨l,hl,hl1⟩:=iB k
 have oth:∀ N2 t2,Tp N2 t2->N2<=N+1->∃ (us vs:List T) (t3 t':T),Rw k (.lst us)/\Rw k (.lst vs)/\Tp (N+130000) t'/\C 38 146 [(.d,t2),(.s,.tup l)]=.ok ((.o .s,.lst us),[(.d,t3)])/\C 38 146 [(.d,t3),(.s,.tup l)]=.ok ((.o .s,.lst vs),[(.d,t')]):=fun N2 t2 ht2 hN2=>by
  obtain ⟨us,t3,a1,a2,a3⟩:=xM hk ht2 (by omega) .s
  obtain ⟨vs,t4,b1,b2,b3⟩:=xM hk a2 (by omega) .s
  rw [hl] at a3 b3
  exact ⟨us,vs,t3,t4,a1,b1,tm b2 (by omega),a3,b3⟩
 rw [hl,show C 39 147 [(.d,t),(m,.tup l)]=runF (C 38) bV [(.d,t),(m,.tup l)] from rfl,x_run _ _ _ rfl]
 cases h1:((l.length:Int)==1) with
 | false =>
  obtain ⟨us,vs,t3,t4,a1,a2,a3,a4,a5⟩:=oth N t ht (by omega)
  simp_all only [bV,h1,a4,a5]
  exact ⟨_,us,vs,t4,a1,a2,a3,rfl⟩
 | true =>
  obtain ⟨r,t1,r0,r1,ht1,e1⟩:=cN (n:=36) .d 12 ht (by omega) (by decide) (by decide)
  cases h2:r==11 with
  | false =>
   obtain ⟨us,vs,t3,t4,a1,a2,a3,a4,a5⟩:=oth _ t1 ht1 (by omega)
   simp_all only [bV,h1,e1,h2,a4,a5]
   exact ⟨_,us,vs,t4,a1,a2,a3,rfl⟩
  | true =>
   have hd0:k.deep=0:=hl1 (by have:=beq_iff_eq.mp h1; omega)
   obtain ⟨g,t2,g0,g1,ht2,e2⟩:=cN (n:=36) .d 99 ht1 (by omega) (by decide) (by decide)
   obtain ⟨md,w,t3,q1,q2,q3,q4,q5⟩:=worth k (34-k.deep) true .s ht2 (by omega)
   rw [show 34-k.deep+k.deep+4=38 by omega,hl] at q5
   obtain ⟨f,t4,f0,f1,ht4,e4⟩:=cN (n:=36) .d 4 q4 (by omega) (by decide) (by decide)
   have b1:decide ((100+g).natAbs < 4611686018427387904)=true:=decide_eq_true (by omega)
   have b2:decide ((199+f-(100+g)).natAbs < 4611686018427387904)=true:=decide_eq_true (by omega)
   have b3:fits ([w].length * (100+g).toNat)=true:=decide_eq_true (by rw [a0A]; show _<=16777215; omega)
   have b4:fits ([w].length * (199+f-(100+g)).toNat)=true:=decide_eq_true (by rw [a0A]; show _<=16777215; omega)
   simp_all only [bV,h1,e1,h2,e2,q5,e4,b1,b2,b3,b4,lr]
   exact ⟨_,_,_,t4,qJ hd0 q1 q2 (by omega),qJ hd0 q1 q2 (by omega),tm ht4 (by omega),rfl⟩
theorem nM (C:Call):∀ (a b:List S) (η:Env),evSs C (a++b) η=(evSs C a η).seq (evSs C b)
 | [],b,η=>rfl
 | s::a,b,η=>by
  show (evS C s η).seq (evSs C (a++b))=((evS C s η).seq (evSs C a)).seq (evSs C b)
  cases evS C s η<;>first | rfl | exact nM C a b _
theorem go1 {C:Call}{a b:List S}{η η':Env}(h:evSs C a η=.nx η'):evSs C (a++b) η=evSs C b η':=by rw [nM,h]; rfl
noncomputable abbrev Wk (i j:Nat):List S:=(f_law.body.drop i).take j
theorem dI {α:Type}{f:Env->Res (Option W×Env)}{tg:List Nat}{g:α->List W}(E:T->Env)(E':T->α->Env){Pm:α->W->Prop}{c:Nat}(hb:∀ t x,bindT tg (g x) (E t)=some (E' t x))(hd:∀ t x,aj tg (E' t x)=E t):∀ (l:List α) (N:Nat) (t:T),(∀ x∈l,∀ N t,Tp N t->N+c < 1000000000000000000->∃ w t',Pm x w/\Tp (N+c) t'/\f (E' t x)=.ok (some w,E' t' x))->Tp N t->N+l.length * c < 1000000000000000000 ->
  ∃ (ps:List (α×W)) (t':T),ps.map a2p=l/\(∀ p∈ps,Pm p.1 p.2)/\Tp (N+l.length * c) t'/\∀ acc,az tg f (l.map g) (E t) acc=.ok (acc++ps.map a1Q,E t')
 | [],N,t,_,ht,_=>⟨[],t,rfl,(fun _ h=>nomatch h),by simpa using ht,fun acc=>by rw [a1p,a1p,a0y]; rfl⟩
 | x::l,N,t,hf,ht,hN=>by
  rw [a0f,a1B] at hN
  obtain ⟨w,t1,h1,h2,h3⟩:=hf x a0d N t ht (by omega)
  obtain ⟨ps,t2,k1,k2,k3,k4⟩:=dI E E' hb hd l (N+c) t1 (fun y hy=>hf y (a0c _ hy)) h2 (by omega)
  refine ⟨(x,w)::ps,t2,by rw [a0n,k1],fun p hp=>?_,?_,fun acc=>?_⟩
  ·rcases a0l.mp hp with rfl | hp
   ·exact h1
   ·exact k2 p hp
  ·rw [a0f,a1B]
   rw [show N+(l.length * c+c)=N+c+l.length * c by omega]
   exact k3
  ·rw [a0n,a0n]
   show (ofO (bindT tg (g x) (E t))).bind _=_
   rw [hb]
   show (f (E' t x)).bind _=_
   rw [h3]
   show az tg f _ (aj tg (E' t1 x)) (acc++[w])=_
   rw [hd,k4,a0C]
   rfl
theorem ki {N:Nat}{t:T}(ht:Tp N t)(hN:N < 100000):∃ (md:Md) (k:Kd) (t':T) (l:Int) (t1:T),k.deep<=3/\Tp (N+40) t'/\C 39 20 [(.d,t),(.d,.int 3)]=.ok ((.d,.int l),[(.d,t1)])/\C 39 22 [(.d,t1),(.d,.int (1+l))]=.ok ((md,k.th),[(.d,t')]):=by
 obtain ⟨r,t1,r0,r1,ht1,e1⟩:=cN (n:=37) .d 3 ht (by omega) (by decide) (by decide)
 obtain ⟨l,hl⟩:∃ l:Nat,1+r=(l:Int):=⟨(1+r).toNat,by omega⟩
 have hl5:l<=3:=by omega
 have kbl:kb l<=31:=by
  have:l=0\/l=1\/l=2\/l=3:=by omega
  rcases this with rfl | rfl | rfl | rfl<;>decide
 obtain ⟨md,k,t2,hkd,ht2,e2⟩:=kind (37-l) l ht1 (by omega) (by omega)
 rw [show 37-l+l+2=39 by omega,<- hl] at e2
 exact ⟨md,k,t2,r,t1,by omega,tm ht2 (by omega),e1,e2⟩
theorem nW {α:Type}{f:α->T}{Q:α->Prop}:∀ {ws:List W},(∀ w∈ws,∃ a,w.2=f a/\Q a)->∃ l:List α,ax ws=l.map f/\l.length=ws.length/\∀ a∈l,Q a
 | [],_=>⟨[],rfl,rfl,(fun _ h=>nomatch h)⟩
 | w::ws,h=>by
  obtain ⟨a,e,q⟩:=h w a0d
  obtain ⟨l,h1,h2,h3⟩:=nW fun v hv=>h v (a0c _ hv)
  refine ⟨a::l,?_,by rw [a0f,a0f,h2],fun b hb=>(a0l.mp hb).elim (fun z=>z ▸ q) (h3 b)⟩
  show w.2::ax ws=f a::l.map f
  rw [e,h1]
theorem tR:∀ (ps:List (T×W)),(∀ p∈ps,∃ is:List Int,p.2.2=.lst (aq is)/\is.length<=100/\∀ i∈is,i.natAbs<=1000000000000000000)->∃ l:List PC,l.map r1c=ps.map a2p/\l.map r2c=ax (ps.map a1Q)/\∀ p∈l,p.2.length<=100/\∀ i∈p.2,i.natAbs<=1000000000000000000
 | [],_=>⟨[],rfl,rfl,(fun _ h=>nomatch h)⟩
 | (u,w)::ps,h=>by
  obtain ⟨i,e,hi⟩:=h (u,w) a0d
  obtain ⟨l,a,b,c⟩:=tR ps fun p hp=>h p (a0c _ hp)
  refine ⟨(u,i)::l,by rw [a0n,a0n,a]; rfl,?_,fun p hp=>(a0l.mp hp).elim (fun z=>z ▸ hi) (c p)⟩
  rw [a0n,a0n,b]
  show T.lst (aq i)::_=w.2::_
  rw [<- e]
theorem Ce {k:Kd}{vs:List T}(hl:vs.length<=4)(h:∀ u∈vs,Rw k u):RR k (.lst vs)/\sz (.lst vs)<=200000:=by
 have hLM:LIM=16777215:=rfl
 refine ⟨⟨⟨vs,rfl,by omega,fun u hu=>(h u hu).1⟩,?_⟩,?_⟩
 ·show (vs.flatMap ae).length<=LIM
  have:∀ us:List T,(∀ u∈us,Rw k u)->(us.flatMap ae).length<=us.length * 200:=fun us=>by
   induction us with
   | nil=>intro _; exact a0Y _
   | cons u us ih =>
    intro h
    have a:=ih fun v hv=>h v (a0c _ hv)
    obtain ⟨ts,e,e1,_⟩:=(h u a0d).1
    rw [a0F,a0g,a0f,a1B,e]
    show ts.length+_<=_
    omega
  have:=this vs h
  omega
 ·show szs vs+1<=200000
  have:=b0 (b:=20000) (ts:=vs) fun u hu=>(h u hu).2
  have:=a1o hl (a0h 20000)
  omega
theorem pure_law (ns:List Int):∃ m bs,C 40 0 [(.d,.scr ns)]=.ok ((m,.bl true),bs):=by
 rw [show C 40 0 [(.d,.scr ns)]=runF (C 39) f_law [(.d,.scr ns)] from rfl,x_run _ _ _ rfl]
 have hLM:LIM=16777215:=rfl
 have ht0:Tp 0 (tape (cut ns none (some 63)) 0 0 0):=⟨_,0,0,0,rfl,a0h _⟩
 obtain ⟨ma,k,t2,la,ta,hk,ht2,d1,e1⟩:=ki ht0 (by decide)
 obtain ⟨r,t3,r0,r1',ht3,e3⟩:=cN (n:=37) .d 6 ht2 (by decide) (by decide) (by decide)
 obtain ⟨b1,b2⟩:=rf (mm:=r) (by omega) (by omega)
 unfold tape at d1
 have H1:evSs (C 39) (Wk 0 2) ([some (.d,.scr ns)]++a0e 14 none)=.nx [some (.d,.scr ns),some (.d,t2),some (ma,k.th),none,none,none,none,none,none,none,none,none,none,none,none]:=by
  simp_all only [Wk,f_law,a2k,a2b,lB,d1,e1]
 have H2:evSs (C 39) (Wk 2 1) [some (.d,.scr ns),some (.d,t2),some (ma,k.th),none,none,none,none,none,none,none,none,none,none,none,none]=.nx [some (.d,.scr ns),some (.d,t3),some (ma,k.th),some (.d,.int r),none,none,none,none,none,none,none,none,none,none,none]:=by
  simp_all only [Wk,f_law,a2k,a2b,e3]
 obtain ⟨os,t4,x1,x2,x3,x4⟩:=fF (s:=8) (g:=fun (k:Nat)=>((.d,.int k):W)) (f:=bq (evE (C 39) (.call 147 [.io 1,.var 2]))) (fun t=>[some (.d,.scr ns),some (.d,t),some (.s,k.th),some (.d,.int r),none,none,none,none,none,none,none,none,none,none,none]) (fun t w=>[some (.d,.scr ns),some (.d,t),some (.s,k.th),some (.d,.int r),none,none,none,none,some w,none,none,none,none,none,none]) (P:=fun o=>∃ w,o=some w/\∃ p:PJ,w.2=pj p/\Rw k p.1/\Rw k p.2) (c:=130000) (fun _ _=>rfl) (fun _ _=>rfl) (fun N t w ht hN=>by
   obtain ⟨md,us,vs,t',q1,q2,q3,q4⟩:=two hk ht hN .s
   refine ⟨some (md,.tup [.lst us,.lst vs]),t',⟨_,rfl,(.lst us,.lst vs),rfl,q1,q2⟩,q3,?_⟩
   simp_all only [q4]) (a0B r.toNat) _ t3 ht3 (by rw [a1l]; have:=a1o (show r.toNat<=5 by omega) (a0h 130000); omega)
 obtain ⟨ws,y1,y2,y3⟩:=ud x2
 rw [a1l] at x1 x3
 have x5:=x4 []
 rw [y1] at x5
 obtain ⟨l,l1,l2,l3⟩:=nW y3
 have ll:l.length<=6:=by omega
 have ht4:Tp 1000000 t4:=tm x3 (by have:=a1o (show r.toNat<=5 by omega) (a0h 130000); omega)
 have H3:evSs (C 39) (Wk 3 1) [some (.d,.scr ns),some (.d,t3),some (ma,k.th),some (.d,.int r),none,none,none,none,none,none,none,none,none,none,none]=.nx [some (.d,.scr ns),some (.d,t4),some (.s,k.th),some (.d,.int r),some (.o .s,.lst (l.map pj)),none,none,none,none,none,none,none,none,none,none]:=by
  simp_all only [Wk,f_law,a2k,a2b,b1,b2,x5,l1]
 have jn:=fun m0 m1=>yD hk l ll l3 m0 m1
 have H4:evSs (C 39) (Wk 4 1) [some (.d,.scr ns),some (.d,t4),some (.s,k.th),some (.d,.int r),some (.o .s,.lst (l.map pj)),none,none,none,none,none,none,none,none,none,none]=.nx [some (.d,.scr ns),some (.d,t4),some (.s,k.th),some (.d,.int r),some (.o .s,.lst (l.map pj)),none,none,none,none,none,none,none,none,none,none]:=by
  simp_all only [Wk,f_law,a2k,a2b,jn]
 obtain ⟨ps,t5,p1,p2,p3,p4⟩:=dI (tg:=[9,10]) (g:=fun (p:PJ)=>[((.s,r1j p):W),(.s,r2j p)]) (f:=bq (evE (C 39) (.op .sl2 false [.lst false [.var 9,.var 10],.op .add false [.cst (.int 1),.call 20 [.io 1,.cst (.int 2)]]]))) (fun t=>[some (.d,.scr ns),some (.d,t),some (.s,k.th),some (.d,.int r),some (.s,.lst (l.map pj)),none,none,none,none,none,none,none,none,none,none]) (fun t p=>[some (.d,.scr ns),some (.d,t),some (.s,k.th),some (.d,.int r),some (.s,.lst (l.map pj)),none,none,none,none,some (.s,r1j p),some (.s,r2j p),none,none,none,none]) (Pm:=fun _ w=>∃ us:List T,w.2=.lst us/\us.length<=2/\∀ u∈us,Rw k u) (c:=1) (fun _ _=>rfl) (fun _ _=>rfl) l _ t4 (fun p hp N t ht hN=>by
   obtain ⟨v,t',v0,v1,hv,e⟩:=cN (n:=37) .d 2 ht (by omega) (by decide) (by decide)
   obtain ⟨j,hj⟩:∃ j:Nat,1+v=(j:Int):=⟨(1+v).toNat,by omega⟩
   refine ⟨(.o .s,.lst ([r1j p,r2j p].take j)),t',⟨_,rfl,by rw [a01]; exact a2Q _ _,fun u hu=>?_⟩,hv,?_⟩
   ·rcases a0l.mp (a2o hu) with rfl | hu
    ·exact (l3 p hp).1
    ·rw [a0w.mp hu]; exact (l3 p hp).2
   ·simp_all only [e,hj,dk]) ht4 (by omega)
 have p5:=p4 []
 have ht5:Tp 1100000 t5:=tm p3 (by omega)
 obtain ⟨ls,s1,s2,s3⟩:=nW (f:=T.lst) (Q:=fun us:List T=>us.length<=2/\∀ u∈us,Rw k u) (ws:=ps.map a1Q) (fun w hw=>by obtain ⟨p,hp,rfl⟩:=a0t.mp hw; exact p2 p hp)
 have sl:ls.length<=6:=by
  have:=congrArg a1H p1
  rw [a0b] at this s2
  omega
 have H5:evSs (C 39) (Wk 5 1) [some (.d,.scr ns),some (.d,t4),some (.s,k.th),some (.d,.int r),some (.o .s,.lst (l.map pj)),none,none,none,none,none,none,none,none,none,none]=.nx [some (.d,.scr ns),some (.d,t5),some (.s,k.th),some (.d,.int r),some (.s,.lst (l.map pj)),some (.o .s,.lst (ls.map T.lst)),none,none,none,none,none,none,none,none,none]:=by
  simp_all only [Wk,f_law,a2k,a2b,eR,p5,s1]
 obtain ⟨qs,t6,q1,q2,q3,q4⟩:=dI (tg:=[11]) (g:=fun (u:T)=>[((.s,u):W)]) (f:=bq (evE (C 39) (.op .mul false [.var 11,.call 20 [.io 1,.cst (.int 3)]]))) (fun t=>[some (.d,.scr ns),some (.d,t),some (.s,k.th),some (.d,.int r),some (.s,.lst (l.map pj)),some (.s,.lst (ls.map T.lst)),none,none,none,none,none,none,none,none,none]) (fun t u=>[some (.d,.scr ns),some (.d,t),some (.s,k.th),some (.d,.int r),some (.s,.lst (l.map pj)),some (.s,.lst (ls.map T.lst)),none,none,none,none,none,some (.s,u),none,none,none]) (Pm:=fun _ w=>∃ vs:List T,w.2=.lst vs/\vs.length<=4/\∀ u∈vs,Rw k u) (c:=1) (fun _ _=>rfl) (fun _ _=>rfl) (ls.map T.lst) _ t5 (fun u hu N t ht hN=>by
   obtain ⟨us,hus,rfl⟩:=a0t.mp hu
   obtain ⟨u1,u2⟩:=s3 us hus
   obtain ⟨v,t',v0,v1,hv,e⟩:=cN (n:=37) .d 3 ht (by omega) (by decide) (by decide)
   have hm:=a1o u1 (show v.toNat<=2 by omega)
   have c1:decide (v.natAbs < 4611686018427387904)=true:=decide_eq_true (by omega)
   have c2:fits (us.length * v.toNat)=true:=decide_eq_true (by omega)
   have fl:∀ n:Nat,(a0e n us).flatten.length=us.length * n:=fun n=>by rw [a3d,a18,a2X,a3p]
   refine ⟨(.o .s,.lst (a0e v.toNat us).flatten),t',⟨_,rfl,by rw [fl]; omega,fun z hz=>?_⟩,hv,?_⟩
   ·obtain ⟨y,hy,hz⟩:=List.mem_flatten.mp hz
    rw [(a2B.mp hy).2] at hz
    exact u2 z hz
   ·simp_all only [e,c1,c2]) ht5 (by rw [a0b]; omega)
 have q5:=q4 []
 have ht6:Tp 1200000 t6:=tm q3 (by rw [a0b]; omega)
 obtain ⟨ms,m1,m2,m3⟩:=nW (f:=T.lst) (Q:=fun us:List T=>us.length<=4/\∀ u∈us,Rw k u) (ws:=qs.map a1Q) (fun w hw=>by obtain ⟨p,hp,rfl⟩:=a0t.mp hw; exact q2 p hp)
 have ml:(ms.map T.lst).length<=6:=by
  have:=congrArg a1H q1
  rw [a0b,a0b] at this
  rw [a0b] at m2 ⊢
  omega
 have mU:∀ us:List T,us.map (fun t=>[((.s,t):W)])=us.map fun u=>[((.s,u):W)]:=fun _=>rfl
 have H6:evSs (C 39) (Wk 6 1) [some (.d,.scr ns),some (.d,t5),some (.s,k.th),some (.d,.int r),some (.s,.lst (l.map pj)),some (.o .s,.lst (ls.map T.lst)),none,none,none,none,none,none,none,none,none]=.nx [some (.d,.scr ns),some (.d,t6),some (.s,k.th),some (.d,.int r),some (.s,.lst (l.map pj)),some (.o .s,.lst (ms.map T.lst)),none,none,none,none,none,none,none,none,none]:=by
  simp_all only [Wk,f_law,a2k,a2b,mU,q5,m1]
 have fla:=fun a b=>pH hk (ms.map T.lst) ml (fun t ht=>by obtain ⟨vs,hv,rfl⟩:=a0t.mp ht; exact Ce (m3 vs hv).1 (m3 vs hv).2) a b
 have H7:evSs (C 39) (Wk 7 1) [some (.d,.scr ns),some (.d,t6),some (.s,k.th),some (.d,.int r),some (.s,.lst (l.map pj)),some (.o .s,.lst (ms.map T.lst)),none,none,none,none,none,none,none,none,none]=.nx [some (.d,.scr ns),some (.d,t6),some (.s,k.th),some (.d,.int r),some (.s,.lst (l.map pj)),some (.o .s,.lst (ms.map T.lst)),none,none,none,none,none,none,none,none,none]:=by
  simp_all only [Wk,f_law,a2k,a2b,fla]
 have du1:∀ w1,az [12,13] (bq (evE (C 39) (.var 12))) (l.map fun p=>[((.s,r1j p):W),(.s,r2j p)]) [none,none,none,none,w1,none,none,none,none,none,none,none,none,none,none] []=.ok ([]++l.map (fun p=>((.s,r1j p):W)),[none,none,none,none,w1,none,none,none,none,none,none,none,none,none,none]):=fun w1=>au _ _ [] fun p hp=>⟨_,[none,none,none,none,w1,none,none,none,none,none,none,none,some (.s,r1j p),some (.s,r2j p),none],rfl,by
  have hr:r1j p=.lst (ae p.1):=a6 (l3 p hp).1.1
  rw [hr]
  simp_all only [],rfl⟩
 have tr1:ax (l.map fun p=>((.s,r1j p):W))=l.map r1j:=aR _ _ _
 have H8:evSs (C 39) (Wk 8 1) [some (.d,.scr ns),some (.d,t6),some (.s,k.th),some (.d,.int r),some (.s,.lst (l.map pj)),some (.o .s,.lst (ms.map T.lst)),none,none,none,none,none,none,none,none,none]=.nx [some (.d,.scr ns),some (.d,t6),some (.s,k.th),some (.d,.int r),some (.s,.lst (l.map pj)),some (.o .s,.lst (ms.map T.lst)),some (.o .s,.lst (l.map r1j)),none,none,none,none,none,none,none,none]:=by
  simp_all only [Wk,f_law,a2k,a2b,eR,du1,tr1]
 obtain ⟨cs,t7,c1,c2,c3,c4⟩:=dI (tg:=[14]) (g:=fun (u:T)=>[((.s,u):W)]) (f:=bq (evE (C 39) (.call 150 [.io 1,.op .len false [.var 14]]))) (fun t=>[some (.d,.scr ns),some (.d,t),some (.s,k.th),some (.d,.int r),some (.s,.lst (l.map pj)),some (.o .s,.lst (ms.map T.lst)),some (.s,.lst (l.map r1j)),none,none,none,none,none,none,none,none]) (fun t u=>[some (.d,.scr ns),some (.d,t),some (.s,k.th),some (.d,.int r),some (.s,.lst (l.map pj)),some (.o .s,.lst (ms.map T.lst)),some (.s,.lst (l.map r1j)),none,none,none,none,none,none,none,some (.s,u)]) (Pm:=fun _ w=>∃ is:List Int,w.2=.lst (aq is)/\is.length<=100/\∀ i∈is,i.natAbs<=1000000000000000000) (c:=20) (fun _ _=>rfl) (fun _ _=>rfl) (l.map r1j) _ t6 (fun u hu N t ht hN=>by
   obtain ⟨p,hp,rfl⟩:=a0t.mp hu
   obtain ⟨ts,e,e1,_⟩:=(l3 p hp).1.1
   have hr:r1j p=.lst ts:=e
   obtain ⟨md,is,t',z1,z2,z3,z4⟩:=Cy ht hN ts.length e1 .d
   refine ⟨(md,.lst (aq is)),t',⟨_,rfl,z1,z2⟩,z3,?_⟩
   rw [hr]
   simp_all only [z4]) ht6 (by rw [a0b]; omega)
 have c5:=c4 []
 obtain ⟨lc,f1,f2,f3⟩:=tR cs c2
 rw [c1] at f1
 have H9:evSs (C 39) (Wk 9 1) [some (.d,.scr ns),some (.d,t6),some (.s,k.th),some (.d,.int r),some (.s,.lst (l.map pj)),some (.o .s,.lst (ms.map T.lst)),some (.o .s,.lst (l.map r1j)),none,none,none,none,none,none,none,none]=.nx [some (.d,.scr ns),some (.d,t7),some (.s,k.th),some (.d,.int r),some (.s,.lst (l.map pj)),some (.o .s,.lst (ms.map T.lst)),some (.s,.lst (l.map r1j)),some (.o .s,.lst (lc.map r2c)),none,none,none,none,none,none,none]:=by
  simp_all only [Wk,f_law,a2k,a2b,mU,c5,<- f2]
 have cu:=fun m0 m1 m2=>zW hk lc (by have:=congrArg a1H f1; rw [a0b,a0b] at this; omega) (fun p hp=>by
  have hm:p.1∈l.map r1j:=by rw [<- f1]; exact List.mem_map_of_mem (f:=r1c) hp
  obtain ⟨y,hy,e⟩:=a0t.mp hm
  rw [<- e]
  exact ⟨(l3 y hy).1.1,(l3 y hy).1.2,(f3 p hp).1,(f3 p hp).2⟩) m0 m1 m2
 rw [f1] at cu
 rw [show f_law.body=Wk 0 2++(Wk 2 1++(Wk 3 1++(Wk 4 1++(Wk 5 1++(Wk 6 1++(Wk 7 1++(Wk 8 1++(Wk 9 1++f_law.body.drop 10)))))))) from rfl]
 rw [show (a3M some [((.d,.scr ns):W)]++a0e f_law.ns none)=[some (.d,.scr ns)]++a0e 14 none from rfl]
 rw [go1 H1,go1 H2,go1 H3,go1 H4,go1 H5,go1 H6,go1 H7,go1 H8,go1 H9]
 refine ⟨.d,[],?_⟩
 simp_all only [f_law,a2b,cu]
end
end P44

namespace A44
open PySem PySem.Spec PyProof.Rows L2 L3 MR
noncomputable def top (i:Nat):Stmt:=PySem.Challenge.pw_broadrow_k44_rows_joined_flattened_and_c.main.body.getD i (.Pass ⟨0,0,0,0⟩)
noncomputable abbrev s34:Stmt:=top 9
noncomputable abbrev s36:Stmt:=top 11
noncomputable abbrev s38:Stmt:=top 14
noncomputable abbrev s1:Stmt:=top 15
noncomputable abbrev s6:Stmt:=top 60
noncomputable abbrev s11:Stmt:=top 62
noncomputable abbrev s76:Stmt:=top 63
noncomputable abbrev s13:Stmt:=top 66
noncomputable abbrev s14:Stmt:=top 67
noncomputable abbrev s15:Stmt:=top 68
noncomputable abbrev s17:Stmt:=top 70
noncomputable abbrev s19:Stmt:=top 71
noncomputable abbrev qh:Stmt:=top 74
noncomputable abbrev s79:Stmt:=top 76
noncomputable abbrev s80:Stmt:=top 77
noncomputable abbrev s82:Stmt:=top 79
noncomputable abbrev s84:Stmt:=top 81
noncomputable abbrev s85:Stmt:=top 83
noncomputable abbrev s89:Stmt:=top 88
noncomputable abbrev s92:Stmt:=top 91
noncomputable abbrev s94:Stmt:=top 93
noncomputable abbrev s20:Stmt:=top 96
noncomputable abbrev s21:Stmt:=top 97
noncomputable abbrev s22:Stmt:=top 98
noncomputable abbrev s23:Stmt:=top 99
noncomputable abbrev s24:Stmt:=top 100
noncomputable abbrev s95:Stmt:=top 101
noncomputable abbrev rM:Stmt:=top 102
noncomputable abbrev rV:Stmt:=top 103
noncomputable abbrev sY:Stmt:=top 104
noncomputable abbrev rA:Stmt:=top 105
noncomputable abbrev se:Stmt:=top 106
noncomputable abbrev t8:Stmt:=top 107
noncomputable abbrev qG:Stmt:=top 108
noncomputable abbrev qV:Stmt:=top 109
noncomputable abbrev s0:Stmt:=top 110
structure Glb (K:a0a)(w:World)(mg:Str->Option Value):Prop where
 LONGEST:∃ t,mg "LONGEST"=some (.int 200 t)
 k_RECKONED:vY K w mg "RECKONED" keys_RECKONED
 k_WORDS_wide:vY K w mg "WORDS_wide" keys_WORDS_wide
structure Calls (P:Program)(w:World)(K:a0a)(mg:Str->Option Value)(base:Heap)(n:Nat)(C:M.Call):Prop where
 c34:aa P w K mg base n C "long_word" 34 []
 c36:aa P w K mg base n C "cut_word" 36 []
 c38:aa P w K mg base n C "own_copy" 38 []
 c1:aa P w K mg base n C "in_rows" 1 []
 c6:aa P w K mg base n C "flat_of" 6 []
 c11:aa P w K mg base n C "many_in" 11 []
 c76:aa P w K mg base n C "parted" 76 []
 c13:aa P w K mg base n C "taken_there" 13 []
 c14:aa P w K mg base n C "things_of" 14 []
 c15:aa P w K mg base n C "behind" 15 []
 c17:aa P w K mg base n C "merged" 17 []
 c19:aa P w K mg base n C "first_ones" 19 []
 c133:aa P w K mg base n C "wide_step" 133 []
 c79:aa P w K mg base n C "first_stop" 79 []
 c80:aa P w K mg base n C "flat_words" 80 []
 c82:aa P w K mg base n C "join_words" 82 []
 c84:aa P w K mg base n C "cut_words" 84 []
 c85:aa P w K mg base n C "laid_anew" 85 []
 c89:aa P w K mg base n C "wide_flat" 89 []
 c92:aa P w K mg base n C "wide_join" 92 []
 c94:aa P w K mg base n C "wide_cut" 94 []
 c20:aa P w K mg base n C "_law_draw" 20 [0]
 c21:aa P w K mg base n C "_law_number" 21 [0]
 c22:aa P w K mg base n C "_law_kind" 22 [0]
 c23:aa P w K mg base n C "_law_worth" 23 [0]
 d23:dH P w K mg base n C "_law_worth" 23 [0] (.bl true)
 c24:aa P w K mg base n C "_law_alike" 24 []
 c95:aa P w K mg base n C "_law_spoil" 95 []
 c135:aa P w K mg base n C "_law_step" 135 []
 c146:aa P w K mg base n C "_law_some" 146 [0]
 c147:aa P w K mg base n C "_law_two" 147 [0]
 c148:aa P w K mg base n C "_law_joined" 148 []
 c149:aa P w K mg base n C "_law_flattened" 149 []
 c150:aa P w K mg base n C "_law_lengths" 150 [0]
 c158:aa P w K mg base n C "_law_parted" 158 []
 c159:aa P w K mg base n C "_law_cut" 159 []
 c134:∀ ws,C 134 ws=.no
 t_DOINGS_wide:w9 P w K mg base n C "DOINGS_wide" tab_DOINGS_wide
 t_WORDS_wide:w9 P w K mg base n C "WORDS_wide" tab_WORDS_wide
noncomputable abbrev DD (x:Str)(st:Stmt)(N:List Str)(fn:M.Fn):Prop:=∀ {P:Program} {w:World} {K:a0a} {mg:Str->Option Value} {base:Heap} {n:Nat} {C:M.Call} {f:Addr} {cdv:Value} {A:Around} {outer:List Env} {s:Shared} {H:Hp} {E:XK},Calls P w K mg base n C->Txt mg->Glb K w mg->Room n (A.deeper (envOfC x (defScope st) s.heap.objs.size f cdv))->SSs (fj CX0 P w K mg base N x (defScope st) f cdv A outer s H E).nox (slN N.length) fn.io C (defBody st) fn.body
theorem S34:ah ["length"] ["length"] (defScope s34):=fsc
theorem D34:DD "long_word" s34 ["length"] aX:=fun {_ _ _ _ _ _ _ _ _ _ _ s _ _} cs T G hr =>
 have S:=S34
 (ss1 (ao (sIf (D2 (sM 0) (sGc G.LONGEST)) sN sS)))
theorem S36:ah ["length","lengths"] ["length","lengths"] (defScope s36):=fsc
theorem D36:DD "cut_word" s36 ["length","lengths"] bw:=fun {_ _ _ _ _ _ _ _ _ _ _ s _ _} cs T G hr =>
 have S:=S36
 (ssc (zIf (tW (wOr (tB (Ed (hm:=T.any) (ha:=(sC1 [] [] [] [] (dJ (sV 1)) (fun _ _ _ _=>(sLt (sV 0) sI)) csc .nil .nil)))) (wO1 (kc hr (uo (hm:=T.sum) (ha:=(sV 1))) (sV 0))))) (ss1 (ao sS)) ss0)
    (ss1 (ao sN)))
theorem S38:ah ["worth"] ["worth"] (defScope s38):=fsc
theorem D38:DD "own_copy" s38 ["worth"] bQ:=fun {_ _ _ _ _ _ _ _ _ _ _ s _ _} cs T G hr =>
 have S:=S38
 (ssc (zIf (tB (eX (by decide) a0S T.isin T.list (sV 0))) (ss1 (ao (sC1 [] [] [] [] (dJ (sM 0)) (fun _ _ _ _=>(af cs.c38 hr (sac (sV 0) sa0))) csc .nil .nil))) ss0)
    (ssc (zIf (tB (eX (by decide) a04 T.isin T.tup (sV 0))) (ss1 (ao (BI (hm:=T.tup) (ha:=(sC1 [] [] [] [] (dJ (sM 0)) (fun _ _ _ _=>(af cs.c38 hr (sac (sV 0) sa0))) csc .nil .nil))))) ss0)
    (ss1 (ao (sM 0)))))
theorem S6:ah ["kind","worths","things","worth"] ["kind","worths"] (defScope s6):=fsc
theorem D6:DD "flat_of" s6 ["kind","worths","things","worth"] bx:=fun {_ _ _ _ _ _ _ _ _ _ _ s _ _} cs T G hr =>
 have S:=S6
 (ssc (zIf (cD hr (sIx (sV 0) sI) sS) (ss1 (ao (sT (slc (af cs.c6 hr (sac (sIx (sV 0) sI) (sac (sC1 [] [] [] [] (dJ (sV 1)) (fun _ _ _ _=>(sIx (sV 0) sI)) csc .nil .nil) sa0))) (slc (af cs.c6 hr (sac (sIx (sV 0) sI) (sac (sC1 [] [] [] [] (dJ (sV 1)) (fun _ _ _ _=>(sIx (sV 0) sI)) csc .nil .nil) sa0))) sl0))))) ss0)
    (ssc (zIf (cD hr (sIx (sV 0) sI) sS) (ssc (ay 2 S.nd (sLs sl0))
     (ssc (ig 3 S.nd (dJ (sV 1)) (ss1 (Bm 2 (sV 3))))
     (ss1 (ao (sT (slc (sC1 [] [] [] [] (dJ (sM 1)) (fun _ _ _ _=>(dm (hm:=T.len) (ha:=(sV 0)))) csc .nil .nil) (slc (af cs.c6 hr (sac (sIx (sM 0) sI) (sac (sM 2) sa0))) sl0))))))) ss0)
    (ss1 (ao (nJ (hm:=T.list) (ha:=(sM 1)))))))
theorem S11:ah ["kind","flat"] ["kind","flat"] (defScope s11):=fsc
theorem D11:DD "many_in" s11 ["kind","flat"] bA:=fun {_ _ _ _ _ _ _ _ _ _ _ s _ _} cs T G hr =>
 have S:=S11
 (ssc (zIf (cD hr (sIx (sV 0) sI) sS) (ss1 (ao (af cs.c11 hr (sac (sIx (sM 0) sI) (sac (sIx (sM 1) sI) sa0))))) ss0)
    (ss1 (ao (sIf (cD hr (sIx (sM 0) sI) sS) (dm (hm:=T.len) (ha:=(sIx (sV 1) sI))) (dm (hm:=T.len) (ha:=(sV 1)))))))
theorem S76:ah ["lengths","things"] ["lengths","things"] (defScope s76):=fsc
theorem D76:DD "parted" s76 ["lengths","things"] dQ:=fun {_ _ _ _ _ _ _ _ _ _ _ s _ _} cs T G hr =>
 have S:=S76
 (ss1 (ao (af cs.c1 hr (sac (sM 0) (sac (af cs.c38 hr (sac (sM 1) sa0)) sa0)))))
theorem S13:ah ["kind","flat","numbers","lengths"] ["kind","flat","numbers"] (defScope s13):=fsc
theorem D13:DD "taken_there" s13 ["kind","flat","numbers","lengths"] aL:=fun {_ _ _ _ _ _ _ _ _ _ _ s _ _} cs T G hr =>
 have S:=S13
 (ssc (zIf (cD hr (sIx (sV 0) sI) sS) (ss1 (ao (sT (slc (af cs.c13 hr (sac (sIx (sV 0) sI) (sac (sIx (sV 1) sI) (sac (sV 2) sa0)))) (slc (af cs.c13 hr (sac (sIx (sV 0) sI) (sac (sIx (sV 1) sI) (sac (sV 2) sa0)))) sl0))))) ss0)
    (ssc (zIf (cD hr (sIx (sV 0) sI) sS) (ssc (zC1 3 [1] [1] [("flat",s.heap.objs.size+1)] ["flat"] (dJ (sV 2)) (fun _ _ _ _=>(sIx (sIx (sV 1) sI) (sV 0))) csc (gg .nil) (frc .nil) S.nd)
     (ss1 (ao (sT (slc (sM 3) (slc (af cs.c13 hr (sac (sIx (sM 0) sI) (sac (sIx (sV 1) sI) (sac (af cs.c14 hr (sac (sIx (sV 1) sI) (sac (sM 2) sa0))) sa0)))) sl0)))))) ss0)
    (ss1 (ao (sC1 [1] [1] [("flat",s.heap.objs.size+1)] ["flat"] (dJ (sM 2)) (fun _ _ _ _=>(sIx (sV 1) (sV 0))) csc (gg .nil) (frc .nil))))))
theorem S14:ah ["lengths","numbers","starts","start","length","things","number"] ["lengths","numbers"] (defScope s14):=fsc
theorem D14:DD "things_of" s14 ["lengths","numbers","starts","start","length","things","number"] cc:=fun {_ _ _ _ _ _ _ _ _ _ _ s _ _} cs T G hr =>
 have S:=S14
 (ssc (ay 2 S.nd (sLs sl0))
    (ssc (ay 3 S.nd sI)
    (ssc (ig 4 S.nd (dJ (sV 0)) (ssc (kU 2 (sV 3))
     (ss1 (ay 3 S.nd (bB (sV 3) (sV 4))))))
    (ssc (ay 5 S.nd (sLs sl0))
    (ssc (ig 6 S.nd (dJ (sV 1)) (ss1 (Bm 5 (Ej T.list T.range (sIx (sV 2) (sV 6)) (bB (sIx (sV 2) (sV 6)) (sIx (sV 0) (sV 6)))))))
    (ss1 (ao (sM 5))))))))
theorem S15:ah ["kind","one","other"] ["kind","one","other"] (defScope s15):=fsc
theorem D15:DD "behind" s15 ["kind","one","other"] b8:=fun {_ _ _ _ _ _ _ _ _ _ _ s _ _} cs T G hr =>
 have S:=S15
 (ssc (zIf (cD hr (sIx (sV 0) sI) sS) (ss1 (ao (sT (slc (af cs.c15 hr (sac (sIx (sV 0) sI) (sac (sIx (sV 1) sI) (sac (sIx (sV 2) sI) sa0)))) (slc (af cs.c15 hr (sac (sIx (sV 0) sI) (sac (sIx (sV 1) sI) (sac (sIx (sV 2) sI) sa0)))) sl0))))) ss0)
    (ssc (zIf (cD hr (sIx (sV 0) sI) sS) (ss1 (ao (sT (slc (bB (sIx (sV 1) sI) (sIx (sV 2) sI)) (slc (af cs.c15 hr (sac (sIx (sM 0) sI) (sac (sIx (sV 1) sI) (sac (sIx (sV 2) sI) sa0)))) sl0))))) ss0)
    (ss1 (ao (bB (sM 1) (sM 2))))))
theorem S17:ah ["kind","truths","one","other","numbers","ahead","after","truth"] ["kind","truths","one","other"] (defScope s17):=fsc
theorem D17:DD "merged" s17 ["kind","truths","one","other","numbers","ahead","after","truth"] dY:=fun {_ _ _ _ _ _ _ _ _ _ _ s _ _} cs T G hr =>
 have S:=S17
 (ssc (ay 4 S.nd (sLs sl0))
    (ssc (ay 5 S.nd sI)
    (ssc (ay 6 S.nd (af cs.c11 hr (sac (sV 0) (sac (sV 2) sa0))))
    (ssc (ig 7 S.nd (dJ (sV 1)) (ss1 (zIf (tB (sV 7)) (ssc (kU 4 (sV 5))
      (ss1 (ay 5 S.nd (bB (sV 5) sI)))) (ssc (kU 4 (sV 6))
      (ss1 (ay 6 S.nd (bB (sV 6) sI)))))))
    (ss1 (ao (af cs.c13 hr (sac (sV 0) (sac (af cs.c15 hr (sac (sV 0) (sac (sM 2) (sac (sM 3) sa0)))) (sac (sM 4) sa0))))))))))
theorem S19:ah ["kind","flat","many","lengths"] ["kind","flat","many"] (defScope s19):=fsc
theorem D19:DD "first_ones" s19 ["kind","flat","many","lengths"] aQ:=fun {_ _ _ _ _ _ _ _ _ _ _ s _ _} cs T G hr =>
 have S:=S19
 (ssc (zIf (cD hr (sIx (sV 0) sI) sS) (ss1 (ao (sT (slc (af cs.c19 hr (sac (sIx (sV 0) sI) (sac (sIx (sV 1) sI) (sac (sV 2) sa0)))) (slc (af cs.c19 hr (sac (sIx (sV 0) sI) (sac (sIx (sV 1) sI) (sac (sV 2) sa0)))) sl0))))) ss0)
    (ssc (zIf (cD hr (sIx (sV 0) sI) sS) (ssc (ay 3 S.nd (sE (sIx (sV 1) sI) (sV 2)))
     (ss1 (ao (sTA (sai 3 (sac (sQ (af cs.c19 hr (sac (sIx (sV 0) sI) (sac (sIx (sV 1) sI) (sac (uo (hm:=T.sum) (ha:=(sV 3))) sa0))))) sa0)))))) ss0)
    (ss1 (ao (sE (sM 1) (sM 2))))))
theorem DW:ah ["piece","kinds","flats","many","stop","ahead"] ["piece","kinds","flats","many"] (defScope qh):=fsc
theorem D8:DD "wide_step" qh ["piece","kinds","flats","many","stop","ahead"] bz:=fun {_ _ _ _ _ _ _ _ _ _ _ s _ _} cs T G hr =>
 have S:=DW
 (ssc (zIf (Dt G.k_RECKONED (sIx (sV 0) sI)) (ss1 (ao (Ea cs.c134))) ss0)
    (ssc (ay 4 S.nd (af cs.c79 hr (sac (sIx (sV 0) sI) (sac (sV 2) (sac (sV 3) sa0)))))
    (ssc (zC2 5 [4] [4] [("stop",s.heap.objs.size+1)] ["stop"] (fR (hm:=T.zip) (ha:=(sV 1)) (hb:=(sV 2))) (fun _ _ _ _=>(af cs.c19 hr (sac (sV 0) (sac (sV 1) (sac (sIx (sV 2) sI) sa0))))) csc (gg .nil) (frc .nil) S.nd)
    (ss1 (ao (sT (slc (af cs.c85 hr (sac (sM 0) (sac (sM 1) (sac (sM 5) (sac (sIx (sV 4) sI) sa0))))) (slc (sIx (sV 4) sI) (slc (sIx (sV 4) sI) sl0)))))))))
theorem S79:ah ["sign","flats","many","number","word"] ["sign","flats","many"] (defScope s79):=fsc
theorem D79:DD "first_stop" s79 ["sign","flats","many","number","word"] bo:=fun {_ _ _ _ _ _ _ _ _ _ _ s _ _} cs T G hr =>
 have S:=S79
 (ssc (zIf (Dt G.k_WORDS_wide (sV 0)) (ss1 (nE 3 4 S.nd (B8 (hm:=T.enum) (ha:=(tV cs.t_WORDS_wide hr (sV 0) (sac (sV 1) sa0)))) (ss1 (zIf (Ck (sV 4) sN) (ss1 (ao (sT (slc (sM 3) (slc (sM 4) sl0))))) ss0)))) ss0)
    (ss1 (ao (sT (slc (sM 2) (slc sN sl0))))))
theorem S80:ah ["flats"] ["flats"] (defScope s80):=fsc
theorem D80:DD "flat_words" s80 ["flats"] bC:=fun {_ _ _ _ _ _ _ _ _ _ _ s _ _} cs T G hr =>
 have S:=S80
 (ss1 (ao (sC1 [] [] [] [] (dJ (af cs.c76 hr (sac (sIx (sIx (sV 0) sI) sI) (sac (sIx (sIx (sIx (sV 0) sI) sI) sI) sa0)))) (fun _ _ _ _=>(af cs.c34 hr (sac (uo (hm:=T.sum) (ha:=(sV 0))) sa0))) csc .nil .nil)))
theorem S82:ah ["flats"] ["flats"] (defScope s82):=fsc
theorem D82:DD "join_words" s82 ["flats"] bO:=fun {_ _ _ _ _ _ _ _ _ _ _ s _ _} cs T G hr =>
 have S:=S82
 (ss1 (ao (sC2 [] [] [] [] (fR (hm:=T.zip) (ha:=(sIx (sIx (sV 0) sI) sI)) (hb:=(sIx (sIx (sV 0) sI) sI))) (fun _ _ _ _=>(af cs.c34 hr (sac (bB (sV 0) (sV 1)) sa0))) csc .nil .nil)))
theorem S84:ah ["flats"] ["flats"] (defScope s84):=fsc
theorem D84:DD "cut_words" s84 ["flats"] cf:=fun {_ _ _ _ _ _ _ _ _ _ _ s _ _} cs T G hr =>
 have S:=S84
 (ss1 (ao (sC2 [] [] [] [] (fR (hm:=T.zip) (ha:=(sIx (sIx (sV 0) sI) sI)) (hb:=(af cs.c76 hr (sac (sIx (sIx (sV 0) sI) sI) (sac (sIx (sIx (sV 0) sI) sI) sa0))))) (fun _ _ _ _=>(af cs.c36 hr (sac (sV 0) (sac (sV 1) sa0)))) csc .nil .nil)))
theorem S85:ah ["piece","kinds","flats","many"] ["piece","kinds","flats","many"] (defScope s85):=fsc
theorem D85:DD "laid_anew" s85 ["piece","kinds","flats","many"] b7:=fun {_ _ _ _ _ _ _ _ _ _ _ s _ _} cs T G hr =>
 have S:=S85
 (ssc (zIf (cD hr (sIx (sV 0) sI) sS) (ss1 (ao (dP (sLs (slc (sIx (sM 0) sI) sl0)) (sM 3)))) ss0)
    (ssc (zIf (zu (sIx (sV 0) sI) (sT (slc sS (slc sS sl0)))) (ss1 (ao (dP (sLs (slc (sEq hr (sIx (sM 0) sI) sS) sl0)) (sM 3)))) ss0)
    (ssc (zIf (cD hr (sIx (sV 0) sI) sS) (ss1 (ao (sT (slc (dP (sLs (slc sI sl0)) (sM 3)) (slc (af cs.c6 hr (sac (sIx (sM 0) sI) (sac (sLs sl0) sa0))) sl0))))) ss0)
    (ss1 (ao (tV cs.t_DOINGS_wide hr (sIx (sM 0) sI) (sac (sM 1) (sac (sM 2) sa0))))))))
theorem S89:ah ["kinds","flats","inner"] ["kinds","flats"] (defScope s89):=fsc
theorem D89:DD "wide_flat" s89 ["kinds","flats","inner"] cg:=fun {_ _ _ _ _ _ _ _ _ _ _ s _ _} cs T G hr =>
 have S:=S89
 (ssc (ay 2 S.nd (oI 1 (sPi [0] 1 (sPi [] 0 (sPn 1) bW) bW)))
    (ss1 (ao (sT (slc (sQ (sC1 [] [] [] [] (dJ (af cs.c76 hr (sac (sIx (sIx (sV 1) sI) sI) (sac (sIx (sV 2) sI) sa0)))) (fun _ _ _ _=>(uo (hm:=T.sum) (ha:=(sV 0)))) csc .nil .nil)) (slc (oI 2 (sPi [] 1 (sPn 2) bW)) sl0))))))
theorem S92:ah ["kinds","flats","truths","one","other","lengths"] ["kinds","flats"] (defScope s92):=fsc
theorem D92:DD "wide_join" s92 ["kinds","flats","truths","one","other","lengths"] b5:=fun {_ _ _ _ _ _ _ _ _ _ _ s _ _} cs T G hr =>
 have S:=S92
 (ssc (ay 2 S.nd (sLs sl0))
    (ssc (nE 3 4 S.nd (fR (hm:=T.zip) (ha:=(sIx (sIx (sV 1) sI) sI)) (hb:=(sIx (sIx (sV 1) sI) sI))) (ss1 (Bm 2 (bB (dP (sLs (slc sO sl0)) (sV 3)) (dP (sLs (slc sO sl0)) (sV 4))))))
    (ssc (zC2 5 [] [] [] [] (fR (hm:=T.zip) (ha:=(sIx (sIx (sV 1) sI) sI)) (hb:=(sIx (sIx (sV 1) sI) sI))) (fun _ _ _ _=>(bB (sV 0) (sV 1))) csc .nil .nil S.nd)
    (ss1 (ao (sT (slc (sM 5) (slc (af cs.c17 hr (sac (sIx (sIx (sM 0) sI) sI) (sac (sM 2) (sac (sIx (sIx (sV 1) sI) sI) (sac (sIx (sIx (sV 1) sI) sI) sa0))))) sl0))))))))
theorem S94:ah ["kinds","flats"] ["kinds","flats"] (defScope s94):=fsc
theorem D94:DD "wide_cut" s94 ["kinds","flats"] cQ:=fun {_ _ _ _ _ _ _ _ _ _ _ s _ _} cs T G hr =>
 have S:=S94
 (ss1 (ao (sT (slc (oI 1 (sPi [1] 0 (sPi [] 1 (sPn 1) bW) bW)) (slc (sT (slc (oI 1 (sPi [1] 1 (sPi [] 1 (sPn 1) bW) bW)) (slc (oI 1 (sPi [0] 1 (sPi [] 0 (sPn 1) bW) bW)) sl0))) sl0)))))
theorem S20:ah ["tape","many","rest","spot","cell","number"] ["tape","many"] (defScope s20):=fsc
theorem D20:DD "_law_draw" s20 ["tape","many","rest","spot","cell","number"] bc:=fun {_ _ _ _ _ _ _ _ _ _ _ s _ _} cs T G hr =>
 have S:=S20
 (ssc (zIf (oU (sIx (sV 0) sI) sI) (ssc (rG 0 (fH (sIx (sV 0) sI) sI) sI)
      (ssc (ay 2 S.nd (sIx (sV 0) sI))
      (ssc (rG 0 (Dw (sV 2) (sV 1)) sI)
      (ss1 (ao (iJ (sM 2) (sM 1))))))) ss0)
    (ssc (ay 3 S.nd (sIx (sV 0) sI))
    (ssc (rG 0 (bB (sV 3) sI) sI)
    (ssc (ay 4 S.nd sI)
    (ssc (zIf (oU (dm (hm:=T.len) (ha:=(sIx (sV 0) sI))) sI) (ss1 (ay 4 S.nd (sIx (sIx (sV 0) sI) (iJ (sV 3) (dm (hm:=T.len) (ha:=(sIx (sV 0) sI))))))) ss0)
    (ssc (zIf (tW (sH (tO (sV 3) (dm (hm:=T.len) (ha:=(sIx (sV 0) sI)))) (wA1 (D3 (sV 4) (kZ sI sI))))) (ssc (rG 0 (fH (sV 4) (kZ sI sI)) sI)
     (ssc (rG 0 sI sI)
     (ss1 (ao (af cs.c20 hr (sai 0 (sac (sM 1) sa0))))))) ss0)
    (ssc (ay 5 S.nd (dP (bB (iJ (sV 4) sI) sI) (bB (bB (iJ (dP (sV 3) (sV 3)) sI) (dP sI (sV 3))) sI)))
    (ssc (ay 5 S.nd (iJ (dP (iJ (sV 5) sI) (iJ (sV 5) sI)) sI))
    (ss1 (ao (iJ (iJ (bB (Dw (sM 5) sI) (dP sI (sM 3))) sI) (sM 1))))))))))))
theorem S21:ah ["tape","way","top","great"] ["tape"] (defScope s21):=fsc
theorem D21:DD "_law_number" s21 ["tape","way","top","great"] bJ:=fun {_ _ _ _ _ _ _ _ _ _ _ s _ _} cs T G hr =>
 have S:=S21
 (ssc (ay 1 S.nd (af cs.c20 hr (sai 0 (sac sI sa0))))
    (ssc (zIf (tO (sV 1) sI) (ss1 (ao (fH (af cs.c20 hr (sai 0 (sac sI sa0))) sI))) ss0)
    (ssc (zIf (cD hr (sV 1) sI) (ssc (ay 2 S.nd (kZ sI sI))
     (ss1 (ao (sIx (sLs (slc (sV 2) (slc (fH sI (sV 2)) (slc (fH (sV 2) sI) (slc (fH sI (sV 2)) (slc sI sl0)))))) (af cs.c20 hr (sai 0 (sac sI sa0))))))) ss0)
    (ssc (ay 3 S.nd (dP (af cs.c20 hr (sai 0 (sac (kZ sI sI) sa0))) (kZ sI sI)))
    (ssc (ay 3 S.nd (bB (sV 3) (dP (af cs.c20 hr (sai 0 (sac (kZ sI sI) sa0))) (kZ sI sI))))
    (ssc (ay 3 S.nd (bB (sV 3) (af cs.c20 hr (sai 0 (sac (kZ sI sI) sa0)))))
    (ss1 (ao (dP (sM 3) (fH sI (dP sI (af cs.c20 hr (sai 0 (sac sI sa0))))))))))))))
theorem S22:ah ["tape","left","way","one"] ["tape","left"] (defScope s22):=fsc
theorem D22:DD "_law_kind" s22 ["tape","left","way","one"] cI:=fun {_ _ _ _ _ _ _ _ _ _ _ s _ _} cs T G hr =>
 have S:=S22
 (ssc (ay 2 S.nd (af cs.c20 hr (sai 0 (sac sI sa0))))
    (ssc (zIf (tW (wOr (cD hr (sV 1) sI) (wO1 (tO (sV 2) sI)))) (ss1 (ao (sIx (sLs (slc (sT (slc sS sl0)) (slc (sT (slc sS sl0)) sl0))) (iJ (sM 2) sI)))) ss0)
    (ssc (zIf (tO (sV 2) sI) (ssc (ay 3 S.nd (af cs.c22 hr (sai 0 (sac (fH (sV 1) sI) sa0))))
     (ss1 (ao (sT (slc sS (slc (sM 3) (slc (af cs.c22 hr (sai 0 (sac (fH (sM 1) sI) sa0))) sl0))))))) ss0)
    (ss1 (ao (sT (slc sS (slc (af cs.c22 hr (sai 0 (sac (fH (sM 1) sI) sa0))) sl0))))))))
theorem S23:ah ["tape","kind","long","one","many"] ["tape","kind","long"] (defScope s23):=fsc
theorem D23:DD "_law_worth" s23 ["tape","kind","long","one","many"] aD:=fun {_ _ _ _ _ _ _ _ _ _ _ s _ _} cs T G hr =>
 have S:=S23
 (ssc (zIf (cD hr (sIx (sV 1) sI) sS) (ss1 (ao (af cs.c21 hr (sai 0 sa0)))) ss0)
    (ssc (zIf (cD hr (sIx (sV 1) sI) sS) (ss1 (ao (sEq hr (af cs.c20 hr (sai 0 (sac sI sa0))) sI))) ss0)
    (ssc (zIf (cD hr (sIx (sV 1) sI) sS) (ssc (ay 3 S.nd (af cs.c23 hr (sai 0 (sac (sIx (sV 1) sI) (sac (sV 2) sa0)))))
     (ss1 (ao (sT (slc (sM 3) (slc (af cs.c23 hr (sai 0 (sac (sIx (sM 1) sI) (sac (sM 2) sa0)))) sl0)))))) ss0)
    (ssc (ay 4 S.nd (af cs.c20 hr (sai 0 (sac sI sa0))))
    (ssc (zIf (tW (sH (tB (sV 2)) (sH (cD hr (dm (hm:=T.len) (ha:=(sIx (sV 1) sI))) sI) (wA1 (cD hr (af cs.c20 hr (sai 0 (sac sI sa0))) sI))))) (ss1 (ay 4 S.nd (bB sI (af cs.c20 hr (sai 0 (sac sI sa0)))))) ss0)
    (ss1 (ao (sC1 [1,0] [1,0] [("tape",s.heap.objs.size+1),("kind",s.heap.objs.size+2)] ["kind","tape"] (zc (hm:=T.range) (ha:=(sM 4))) (fun _ _ _ _=>(af cs.c23 hr (sai 2 (sac (sIx (sV 1) sI) (sac sO sa0))))) csc (gg (gg .nil)) (frc (frc .nil))))))))))
theorem S24:ah ["due","found"] ["due","found"] (defScope s24):=fsc
theorem D24:DD "_law_alike" s24 ["due","found"] aw:=fun {_ _ _ _ _ _ _ _ _ _ _ s _ _} cs T G hr =>
 have S:=S24
 (ssc (zIf (tB (B9 (by decide) a0S (by decide) a04 T.isin T.list T.tup (sV 0))) (ssc (zIf (kc hr (eX (by decide) a0S T.isin T.list (sV 0)) (eX (by decide) a0S T.isin T.list (sV 1))) (ss1 (ao sO)) ss0)
      (ssc (zIf (kc hr (eX (by decide) a04 T.isin T.tup (sV 0)) (eX (by decide) a04 T.isin T.tup (sV 1))) (ss1 (ao sO)) ss0)
      (ssc (zIf (kc hr (dm (hm:=T.len) (ha:=(sV 0))) (dm (hm:=T.len) (ha:=(sV 1)))) (ss1 (ao sO)) ss0)
      (ss1 (ao (D1 (hm:=T.all) (ha:=(sC2 [] [] [] [] (fR (hm:=T.zip) (ha:=(sM 0)) (hb:=(sM 1))) (fun _ _ _ _=>(af cs.c24 hr (sac (sV 0) (sac (sV 1) sa0)))) csc .nil .nil)))))))) ss0)
    (ssc (zIf (kc hr (eX (by decide) a2Y T.isin T.bool (sV 0)) (eX (by decide) a2Y T.isin T.bool (sV 1))) (ss1 (ao sO)) ss0)
    (ss1 (ao (sEq hr (sM 0) (sM 1))))))
theorem C3:ah ["piece","kinds","lists","kind","due","word","many","flats","handed","told","one","some","flat","again"] ["piece","kinds","lists","kind","due","word"] (defScope rM):=fsc
theorem Ef:DD "_law_step" rM ["piece","kinds","lists","kind","due","word","many","flats","handed","told","one","some","flat","again"] bT:=fun {_ _ _ _ _ _ _ _ _ _ _ s _ _} cs T G hr =>
 have S:=C3
 (ssc (ay 6 S.nd (dm (hm:=T.len) (ha:=(sIx (sV 2) sI))))
    (ssc (zC2 7 [] [] [] [] (fR (hm:=T.zip) (ha:=(sV 1)) (hb:=(sV 2))) (fun _ _ _ _=>(af cs.c6 hr (sac (sV 0) (sac (sV 1) sa0)))) csc .nil .nil S.nd)
    (ssc (ay 8 S.nd (nJ (hm:=T.list) (ha:=(sV 1))))
    (ssc (ay 9 S.nd (af cs.c133 hr (sac (sV 0) (sac (sV 8) (sac (sV 7) (sac (sV 6) sa0))))))
    (ssc (zIf (tW (wOr (i6 (tB (eX (by decide) a04 T.isin T.tup (sV 9)))) (wO1 (kc hr (dm (hm:=T.len) (ha:=(sV 9))) sI)))) (ss1 (ao sO)) ss0)
    (ssc (zIf (i6 (tB (af cs.c24 hr (sac (af cs.c6 hr (sac (sV 3) (sac (sV 4) sa0))) (sac (sIx (sV 9) sI) sa0))))) (ss1 (ao sO)) ss0)
    (ssc (zIf (tW (wOr (i6 (tB (af cs.c24 hr (sac (dm (hm:=T.len) (ha:=(sV 4))) (sac (sIx (sV 9) sI) sa0))))) (wO1 (kc hr (sV 8) (sV 1))))) (ss1 (ao sO)) ss0)
    (ssc (zIf (tW (wOr (tW (sH (xo (sV 5) sN) (wA1 (Ck (sIx (sV 9) sI) sN)))) (wO1 (kc hr (sIx (sV 9) sI) (sV 5))))) (ss1 (ao sO)) ss0)
    (ssc (EG (af cs.c95 hr (sac (oI 9 (sPi [] 0 (sPn 9) bW)) sa0)))
    (ssc (Ct 10 11 12 S.nd (zo (hm:=T.zip) (ha:=(sV 1)) (hb:=(sV 2)) (hc':=(sV 7))) (ss1 (zIf (i6 (tB (af cs.c24 hr (sac (af cs.c6 hr (sac (sV 10) (sac (sV 11) sa0))) (sac (sV 12) sa0))))) (ss1 (ao sO)) ss0)))
    (ssc (ay 13 S.nd (af cs.c133 hr (sac (sV 0) (sac (sV 8) (sac (sV 7) (sac (sV 6) sa0))))))
    (ss1 (ao (af cs.c24 hr (sac (sT (slc (af cs.c6 hr (sac (sM 3) (sac (sV 4) sa0))) (slc (dm (hm:=T.len) (ha:=(sV 4))) (slc (sM 5) sl0)))) (sac (sM 13) sa0))))))))))))))))
theorem Dk:ah ["tape","kind"] ["tape","kind"] (defScope rV):=fsc
theorem EN:DD "_law_some" rV ["tape","kind"] cM:=fun {_ _ _ _ _ _ _ _ _ _ _ s _ _} cs T G hr =>
 have S:=Dk
 (ss1 (ao (sC1 [1,0] [1,0] [("tape",s.heap.objs.size+1),("kind",s.heap.objs.size+2)] ["kind","tape"] (zc (hm:=T.range) (ha:=(af cs.c20 hr (sai 0 (sac sI sa0))))) (fun _ _ _ _=>(n0 (bs:=[.io 0,.var 1]) cs.d23 hr (sai 2 (sac (sV 1) sa0)))) csc (gg (gg .nil)) (frc (frc .nil)))))
theorem C6:ah ["tape","kind","long","worth","one"] ["tape","kind"] (defScope sY):=fsc
theorem EE:DD "_law_two" sY ["tape","kind","long","worth","one"] bV:=fun {_ _ _ _ _ _ _ _ _ _ _ s _ _} cs T G hr =>
 have S:=C6
 (ssc (zIf (tW (sH (cD hr (dm (hm:=T.len) (ha:=(sV 1))) sI) (wA1 (cD hr (af cs.c20 hr (sai 0 (sac sI sa0))) sI)))) (ssc (ay 2 S.nd (bB sI (af cs.c20 hr (sai 0 (sac sI sa0)))))
      (ssc (ay 3 S.nd (n0 (bs:=[.io 0,.var 1]) cs.d23 hr (sai 0 (sac (sV 1) sa0))))
      (ss1 (ao (sT (slc (dP (sLs (slc (sV 3) sl0)) (sV 2)) (slc (dP (sLs (slc (sV 3) sl0)) (fH (bB sI (af cs.c20 hr (sai 0 (sac sI sa0)))) (sV 2))) sl0))))))) ss0)
    (ssc (ay 4 S.nd (af cs.c146 hr (sai 0 (sac (sV 1) sa0))))
    (ss1 (ao (sT (slc (sM 4) (slc (af cs.c146 hr (sai 0 (sac (sM 1) sa0))) sl0)))))))
theorem BP:ah ["kind","things","due","word","one","other","row","mine","yours"] ["kind","things"] (defScope rA):=fsc
theorem ER:DD "_law_joined" rA ["kind","things","due","word","one","other","row","mine","yours"] bN:=fun {_ _ _ _ _ _ _ _ _ _ _ s _ _} cs T G hr =>
 have S:=BP
 (ssc (ay 2 S.nd (sLs sl0))
    (ssc (ay 3 S.nd sN)
    (ssc (nE 4 5 S.nd (ko (sV 1)) (ssc (zIf (oU (bB (dm (hm:=T.len) (ha:=(sV 4))) (dm (hm:=T.len) (ha:=(sV 5)))) sI) (ss1 (ay 3 S.nd sS)) ss0)
     (ss1 (zIf (xo (sV 3) sN) (ss1 (kU 2 (bB (sV 4) (sV 5)))) ss0))))
    (ssc (ay 6 S.nd (sT (slc sS (slc (sV 0) sl0))))
    (ssc (zC2 7 [] [] [] [] (ko (sV 1)) (fun _ _ _ _=>(sV 0)) csc .nil .nil S.nd)
    (ssc (zC2 8 [] [] [] [] (ko (sV 1)) (fun _ _ _ _=>(sV 1)) csc .nil .nil S.nd)
    (ss1 (ao (af cs.c135 hr (sac (sT (slc sS (slc sN (slc sN sl0)))) (sac (sLs (slc (sV 6) (slc (sV 6) sl0))) (sac (sLs (slc (sM 7) (slc (sM 8) sl0))) (sac (sV 6) (sac (sM 2) (sac (sM 3) sa0)))))))))))))))
theorem DL:ah ["kind","things","due","word","rows","found","row"] ["kind","things"] (defScope se):=fsc
theorem D5:DD "_law_flattened" se ["kind","things","due","word","rows","found","row"] a0:=fun {_ _ _ _ _ _ _ _ _ _ _ s _ _} cs T G hr =>
 have S:=DL
 (ssc (ay 2 S.nd (sLs sl0))
    (ssc (ay 3 S.nd sN)
    (ssc (ig 4 S.nd (dJ (sV 1)) (ssc (ay 5 S.nd (sLs sl0))
     (ssc (ig 6 S.nd (dJ (sV 4)) (ss1 (ay 5 S.nd (bB (sV 5) (sV 6)))))
     (ssc (zIf (oU (dm (hm:=T.len) (ha:=(sV 5))) sI) (ss1 (ay 3 S.nd sS)) ss0)
     (ss1 (zIf (xo (sV 3) sN) (ss1 (kU 2 (sV 5))) ss0))))))
    (ssc (ay 6 S.nd (sT (slc sS (slc (sV 0) sl0))))
    (ss1 (ao (af cs.c135 hr (sac (sT (slc sS (slc sN sl0))) (sac (sLs (slc (sT (slc sS (slc (sV 6) sl0))) sl0)) (sac (sLs (slc (sM 1) sl0)) (sac (sV 6) (sac (sM 2) (sac (sM 3) sa0)))))))))))))
theorem BU:ah ["tape","long","lengths","left","some","way"] ["tape","long"] (defScope t8):=fsc
theorem ED:DD "_law_lengths" t8 ["tape","long","lengths","left","some","way"] aK:=fun {_ _ _ _ _ _ _ _ _ _ _ s _ _} cs T G hr =>
 have S:=BU
 (ssc (ay 2 S.nd (sLs sl0))
    (ssc (ay 3 S.nd (sV 1))
    (ssc (Ei (oU (sV 3) sI) (ssc (ay 4 S.nd (af cs.c20 hr (sai 0 (sac (bB (Ec (hm:=T.min) (ha:=(sV 3)) (hb:=sI)) sI) sa0))))
     (ssc (zIf (oU (dm (hm:=T.len) (ha:=(sV 2))) sI) (ss1 (ay 4 S.nd (sV 3))) ss0)
     (ssc (kU 2 (sV 4))
     (ss1 (ay 3 S.nd (fH (sV 3) (sV 4))))))))
    (ssc (ay 5 S.nd (af cs.c20 hr (sai 0 (sac sI sa0))))
    (ssc (zIf (cD hr (sV 5) sI) (ss1 (ao (bB (sM 2) (sLs (slc (bB sI (af cs.c20 hr (sai 0 (sac sI sa0)))) sl0))))) ss0)
    (ssc (zIf (cD hr (sV 5) sI) (ss1 (ao (bB (sM 2) (sLs (slc sI (slc (fH sI sI) sl0)))))) ss0)
    (ssc (zIf (cD hr (sV 5) sI) (ss1 (ao (bB (sM 2) (sLs (slc sI sl0))))) ss0)
    (ss1 (ao (sM 2))))))))))
theorem DN:ah ["row","lengths","found","left","long"] ["row","lengths"] (defScope qG):=fsc
theorem El:DD "_law_parted" qG ["row","lengths","found","left","long"] bK:=fun {_ _ _ _ _ _ _ _ _ _ _ s _ _} cs T G hr =>
 have S:=DN
 (ssc (ay 2 S.nd (sLs sl0))
    (ssc (ay 3 S.nd (nJ (hm:=T.list) (ha:=(sV 0))))
    (ssc (ig 4 S.nd (dJ (sV 1)) (ssc (kU 2 (sE (sV 3) (sV 4)))
     (ss1 (ay 3 S.nd (Ee (sV 3) (sV 4))))))
    (ss1 (ao (sM 2))))))
theorem C9:ah ["kind","rows","cuts","due","word","row","lengths","low","rowed"] ["kind","rows","cuts"] (defScope qV):=fsc
theorem Ek:DD "_law_cut" qV ["kind","rows","cuts","due","word","row","lengths","low","rowed"] de:=fun {_ _ _ _ _ _ _ _ _ _ _ s _ _} cs T G hr =>
 have S:=C9
 (ssc (ay 3 S.nd (sLs sl0))
    (ssc (ay 4 S.nd sN)
    (ssc (nE 5 6 S.nd (fR (hm:=T.zip) (ha:=(sV 1)) (hb:=(sV 2))) (ssc (ay 7 S.nd (DB (hm:=T.min) (ha:=(bB (sV 6) (sLs (slc sI sl0))))))
     (ssc (zIf (tW (wOr (tO (sV 7) sI) (wO1 (kc hr (uo (hm:=T.sum) (ha:=(sV 6))) (dm (hm:=T.len) (ha:=(sV 5))))))) (ss1 (ay 4 S.nd sS)) ss0)
     (ss1 (zIf (xo (sV 4) sN) (ss1 (kU 3 (af cs.c158 hr (sac (sV 5) (sac (sV 6) sa0))))) ss0)))))
    (ssc (ay 8 S.nd (sT (slc sS (slc (sV 0) sl0))))
    (ss1 (ao (af cs.c135 hr (sac (sT (slc sS (slc sN (slc sN sl0)))) (sac (sLs (slc (sV 8) (slc (sT (slc sS (slc (sT (slc sS sl0)) sl0))) sl0))) (sac (sLs (slc (sM 1) (slc (sM 2) sl0))) (sac (sT (slc sS (slc (sV 8) sl0))) (sac (sM 3) (sac (sM 4) sa0)))))))))))))
theorem S0:ah ["script","tape","kind","many","things","rows","mine","cuts"] ["script"] (defScope s0):=fsc
theorem D0:DD "law" s0 ["script","tape","kind","many","things","rows","mine","cuts"] f_law:=fun {_ _ _ _ _ _ _ _ _ _ _ s _ _} cs T G hr =>
 have S:=S0
 (ssc (ay 1 S.nd (sLs (slc (nJ (hm:=T.list) (ha:=(sE (sV 0) sI))) (slc sI (slc sI (slc sI sl0))))))
    (ssc (ay 2 S.nd (af cs.c22 hr (sai 1 (sac (bB sI (af cs.c20 hr (sai 1 (sac sI sa0)))) sa0))))
    (ssc (ay 3 S.nd (af cs.c20 hr (sai 1 (sac sI sa0))))
    (ssc (zC1 4 [2,1] [2,1] [("tape",s.heap.objs.size+1),("kind",s.heap.objs.size+2)] ["kind","tape"] (zc (hm:=T.range) (ha:=(sV 3))) (fun _ _ _ _=>(af cs.c147 hr (sai 2 (sac (sV 1) sa0)))) csc (gg (gg .nil)) (frc (frc .nil)) S.nd)
    (ssc (zIf (i6 (tB (af cs.c148 hr (sac (sV 2) (sac (sV 4) sa0))))) (ss1 (ao sO)) ss0)
    (ssc (zC2 5 [1] [1] [("tape",s.heap.objs.size+1)] ["tape"] (ko (sV 4)) (fun _ _ _ _=>(sE (sLs (slc (sV 0) (slc (sV 1) sl0))) (bB sI (af cs.c20 hr (sai 2 (sac sI sa0)))))) csc (gg .nil) (frc .nil) S.nd)
    (ssc (zC1 5 [1] [1] [("tape",s.heap.objs.size+1)] ["tape"] (dJ (sV 5)) (fun _ _ _ _=>(dP (sV 0) (af cs.c20 hr (sai 1 (sac sI sa0))))) csc (gg .nil) (frc .nil) S.nd)
    (ssc (zIf (i6 (tB (af cs.c149 hr (sac (sV 2) (sac (sV 5) sa0))))) (ss1 (ao sO)) ss0)
    (ssc (zC2 6 [] [] [] [] (ko (sV 4)) (fun _ _ _ _=>(sV 0)) csc .nil .nil S.nd)
    (ssc (zC1 7 [1] [1] [("tape",s.heap.objs.size+1)] ["tape"] (dJ (sV 6)) (fun _ _ _ _=>(af cs.c150 hr (sai 1 (sac (dm (hm:=T.len) (ha:=(sV 0))) sa0)))) csc (gg .nil) (frc .nil) S.nd)
    (ss1 (ao (af cs.c159 hr (sac (sM 2) (sac (sM 6) (sac (sM 7) sa0))))))))))))))))
end A44

namespace A44
open PySem PySem.Spec PyProof.Rows L2 L3 MR
noncomputable abbrev Cl (n:Nat):M.Call:=M.callR prog 95 1 n
noncomputable abbrev jC:Stmt:=s95
noncomputable abbrev Br:Nat:=95
section
variable {P:Program}{w:World}{K:a0a}{mg:Str->Option Value}{base:Heap}{f:Addr}{fd:FuncData}
theorem scSp:ah ["thing","one"] ["thing"] (defScope jC):=⟨rfl,rfl,rfl,by decide +kernel,rfl,by decide +kernel,by decide +kernel⟩
theorem uc {n:Nat}(F:Fun K "_law_spoil" "_law_spoil" jC f fd)(G:FnOk P w K mg base CX0 n f fd ["thing"] (gk K n))(bG:Binds K fd ["thing"] [])(T:Txt mg)(mF:mg "_law_spoil"=some (.ref f)):FnOk P w K mg base CX0 (n+1) f fd ["thing"] (gk K (n+1)):=by
 refine F.ok scSp (fun vs H Q E h=>?_) (fun cdv A outer s H vs Q E hr h=>?_)
 ·obtain ⟨v,t,as,rfl,_⟩:=h
  rfl
 obtain ⟨v,t,as,rfl,ht,hnd,hw,q⟩:=h
 refine ⟨_,dr (qg (qR (br (vy (c1:="list") (c2:="tuple") (by decide) (by decide)) rfl T.isin a1t (aC (pv 0) (aC (jP (aC (i9 rfl T.list a0S) (aC (i9 rfl T.tup a04) bf))) bf))))
   (dA (gU PassesOwn.never rfl (gz (dy eN rfl T.list a0S (aC (pv 0) bf))) (bM (i:=1) scSp.nd rfl (a1r rfl)) (dA (d0 (jV G hr rfl mF F.kp bG .nil ni (aC (pv 1) bf)))))) kj)
  (dA (qg (qR (br (kM (c:="list") (by decide)) rfl T.isin a1t (aC (pv 0) (aC (i9 rfl T.list a0S) bf))))
   (dA (d0 (nQ a1J a12 a13 fz (pv 0) (aC bW bf)))) kj)),?_⟩
 refine ⟨_,rfl,le2,fun p0 g0=>?_⟩
 have s0:Same H (upd H p0 (.tup [V.ty "list",V.ty "tuple"])):=cP g0 _
 generalize hH1:upd H p0 (.tup [V.ty "list",V.ty "tuple"])=H1 at s0 ⊢
 have hp0:H1 p0=some (.tup [V.ty "list",V.ty "tuple"]):=by rw [<- hH1]; exact ak
 have turn:∀ {ts:List Th} {ws:List V} {bs:List Addr} {p:Addr} {H2:Hp},HasAL K H2 ts ws bs->bs.Nodup->(∀ u∈ts,WSx n u)->p ∉ bs->H2 p=some (.lst ws) ->
   ∀ (x:V) (i:Nat) (H3:Hp),ws[i]?=some x->(∃ b c,bs=b++c/\SBs b H2 H3/\HasAL K H2 (ts.drop i) (ws.drop i) c) ->
    ∃ t' b,HasA K H3 t' x b/\b.Nodup/\WSx n t'/\∀ H4,SBs b H3 H4->∃ b' c,bs=b'++c/\SBs b' H2 H4/\HasAL K H2 (ts.drop (i+1)) (ws.drop (i+1)) c:=by
  intro ts ws bs p H2 hA hN hWS hp hpp x i H3 hx ⟨b,c,e,s3,hD⟩
  have hlt:=(a0q.mp hx).1
  have hxe:=(a0q.mp hx).2
  have ed:ws.drop i=x::ws.drop (i+1):=by rw [a1E hlt,hxe]
  obtain ⟨t',us,b1,c1,et,h1,h2,e2⟩:=hD.at ed
  have eu:ts.drop (i+1)=us:=by rw [<- a29 (i:=1),et]; rfl
  have hmem:t'∈ts:=a27 (i:=i) (by rw [et]; exact a0d)
  rw [e,e2] at hN
  have hN2:=a2J.mp hN
  have hN3:=a2J.mp hN2.2.1
  refine ⟨t',b1,HasA.kept s3 (fun y hy=>hA.lists y (by rw [e]; exact a0E _ hy)) h1 (fun y hy hy'=>hN2.2.2 y hy' y (a0E _ hy) rfl),hN3.1,hWS t' hmem,fun H4 s4=>⟨b++b1,c1,by rw [e,e2,a0C],s3.trans s4,?_⟩⟩
  rw [eu]
  exact h2
 cases t with
 | non =>
  refine ⟨_,_,p0,rfl,SqT.of hp0,ht.has.mono s0,_,rfl,jW ?_⟩
  refine ⟨_,rfl,_,.non,rfl,(ht.has.mono s0 :),_,rfl,jW ?_⟩
  exact q _ (SBs.same s0)
 | str z =>
  refine ⟨_,_,p0,rfl,SqT.of hp0,ht.has.mono s0,_,rfl,jW ?_⟩
  refine ⟨_,rfl,_,.str z,rfl,(ht.has.mono s0 :),_,rfl,jW ?_⟩
  exact q _ (SBs.same s0)
 | int i =>
  refine ⟨_,_,p0,rfl,SqT.of hp0,ht.has.mono s0,_,rfl,jW ?_⟩
  refine ⟨_,rfl,_,.int i,rfl,ht.has.mono s0,_,rfl,jW ?_⟩
  exact q _ (SBs.same s0)
 | bl i =>
  refine ⟨_,_,p0,rfl,SqT.of hp0,ht.has.mono s0,_,rfl,jW ?_⟩
  refine ⟨_,rfl,_,.bl i,rfl,ht.has.mono s0,_,rfl,jW ?_⟩
  exact q _ (SBs.same s0)
 | tup ts =>
  have ht0:=ht.has
  obtain ⟨hlen,hall⟩:=hw
  obtain ⟨a,ws,rfl,hS,hL⟩:=ht
  refine ⟨_,_,p0,rfl,SqT.of hp0,ht0.mono s0,_,rfl,yG ?_⟩
  refine ⟨_,rfl,a,ws,rfl,.inr (Same.sqt s0 hS),fun p hp=>⟨p,rfl,⟨_,SqL.of ak⟩,?_⟩⟩
  have u:=cP hp (.lst ws)
  have S1:=s0.trans u
  have hpn:p ∉ as:=fun z=>by obtain ⟨zs,e⟩:=hL.lists p z; rw [s0 _ _ e] at hp; cases hp
  have hp1:upd H1 p (.lst ws) p=some (.lst ws):=ak
  generalize upd H1 p (.lst ws)=H2 at S1 hp1 u ⊢
  have hA:=hL.mono S1
  refine gZ (K:=K) (a:=p) (xs:=ws) (fun i σ H3=>(∃ o,σ=[some (.ref a),o])/\∃ b c,as=b++c/\SBs b H2 H3/\HasAL K H2 (ts.drop i) (ws.drop i) c) ⟨⟨_,rfl⟩,[],as,rfl,SBs.refl,hA⟩ (fun i σ H3 _ h3=>?_) ?_ ?_
  ·obtain ⟨_,b,c,e,s3,_⟩:=h3
   exact SqL.of (s3 _ _ (fun z=>hpn (by rw [e]; exact a0E _ z)) hp1)
  ·rintro i x σ H3 hx ⟨⟨o,rfl⟩,h3⟩
   obtain ⟨t',b,g1,g2,g3,g4⟩:=turn hA hnd hall hpn hp1 x i H3 hx h3
   exact ⟨_,rfl,x,t',b,rfl,g1,g2,g3,fun H4 s4=>⟨⟨_,rfl⟩,g4 H4 s4⟩⟩
  rintro σ H3 ⟨⟨o,rfl⟩,b,c,e,s3,hD⟩
  have hb:∀ y∈b,∃ zs,H2 y=some (.lst zs):=fun y hy=>hA.lists y (by rw [e]; exact a0E _ hy)
  refine ⟨_,rfl,_,.tup ts,rfl,⟨a,ws,rfl,kR s3 hb (Same.sqt S1 hS)⟩,_,rfl,jW ?_⟩
  exact q _ ⟨fun y uy ny hy=>s3 y uy (fun z=>ny (by rw [e]; exact a0E _ z)) (S1 _ _ hy),fun y hy=>s3.al y (j3 S1 y hy)⟩
 | lst ts =>
  have ht0:=ht.has
  obtain ⟨hlen,hall⟩:=hw
  obtain ⟨a,ws,bs,rfl,hS,hL,rfl⟩:=ht
  have hnd':=a1y.mp hnd
  refine ⟨_,_,p0,rfl,SqT.of hp0,ht0.mono s0,_,rfl,yG ?_⟩
  refine ⟨_,rfl,a,ws,rfl,.inl (SqL.of (s0 _ _ hS)),fun p hp=>⟨p,rfl,⟨_,SqL.of ak⟩,?_⟩⟩
  have u:=cP hp (.lst ws)
  have S1:=s0.trans u
  have hpn:p ∉ bs:=fun z=>by obtain ⟨zs,e⟩:=hL.lists p z; rw [s0 _ _ e] at hp; cases hp
  have hp1:upd H1 p (.lst ws) p=some (.lst ws):=ak
  generalize upd H1 p (.lst ws)=H2 at S1 hp1 u ⊢
  have hA:=hL.mono S1
  refine gZ (K:=K) (a:=p) (xs:=ws) (fun i σ H3=>(∃ o,σ=[some (.ref a),o])/\∃ b c,bs=b++c/\SBs b H2 H3/\HasAL K H2 (ts.drop i) (ws.drop i) c) ⟨⟨_,rfl⟩,[],bs,rfl,SBs.refl,hA⟩ (fun i σ H3 _ h3=>?_) ?_ ?_
  ·obtain ⟨_,b,c,e,s3,_⟩:=h3
   exact SqL.of (s3 _ _ (fun z=>hpn (by rw [e]; exact a0E _ z)) hp1)
  ·rintro i x σ H3 hx ⟨⟨o,rfl⟩,h3⟩
   obtain ⟨t',b,g1,g2,g3,g4⟩:=turn hA hnd'.2 hall hpn hp1 x i H3 hx h3
   exact ⟨_,rfl,x,t',b,rfl,g1,g2,g3,fun H4 s4=>⟨⟨_,rfl⟩,g4 H4 s4⟩⟩
  rintro σ H3 ⟨⟨o,rfl⟩,b,c,e,s3,hD⟩
  have ha3:H3 a=some (.lst ws):=s3 _ _ (fun z=>hnd'.1 (by rw [e]; exact a0E _ z)) (S1 _ _ hS)
  refine ⟨_,rfl,_,.lst ts,rfl,⟨a,ws,rfl,SqL.of ha3⟩,_,rfl,yG ?_⟩
  refine ⟨_,rfl,.inl ⟨rfl,_,SqL.of ha3⟩,a,ws,_,rfl,rfl,ha3,(by rw [hL.has.length]; exact a2w hlen (by decide)),?_⟩
  refine q _ ⟨fun y uy ny hy=>?_,fun y hy z=>?_⟩
  rotate_left
  ·by_cases ya:y=a
   ·rw [ya,ak] at z; cases z
   ·rw [ai ya] at z; exact s3.al y (j3 S1 y hy) z
  have ny':=fun z=>ny (a0l.mpr z)
  rw [ai (fun z=>ny' (.inl z))]
  exact s3 y uy (fun z=>ny' (.inr (by rw [e]; exact a0E _ z))) (S1 _ _ hy)
theorem jr (F:Fun K "_law_spoil" "_law_spoil" jC f fd)(bG:Binds K fd ["thing"] [])(T:Txt mg)(mF:mg "_law_spoil"=some (.ref f)):∀ n,FnOk P w K mg base CX0 n f fd ["thing"] (gk K n)
 | 0=>⟨fun vs H Q E h=>by obtain ⟨_,_,_,_,_,_,hd,_⟩:=h; exact hd.elim,fun A outer s H args us vs Q E _ _ _ _ h=>by obtain ⟨_,_,_,_,_,_,hd,_⟩:=h; exact hd.elim⟩
 | n+1=>uc F (jr F bG T mF n) bG T mF
theorem kx (F:Fun K "_law_spoil" "_law_spoil" jC f fd)(b:Binds K fd ["thing"] [])(T:Txt mg)(m:mg "_law_spoil"=some (.ref f)):∀ n,FnOk P w K mg base CX0 n f fd ["thing"] (spS K (Cl n) Br [])
 | 0=>fn0 fun _=>rfl
 | n+1=>(jr F b T m (n+1)).imp fun _ _ _ _ h=>pZ (fun _=>rfl) h
end
noncomputable abbrev qN:Stmt:=s1
noncomputable abbrev DX:Nat:=1
section
variable {P:Program}{w:World}{K:a0a}{mg:Str->Option Value}{base:Heap}{f:Addr}{fd:FuncData}
theorem scRo:ah ["lengths","things","rows","start","length"] ["lengths","things"] (defScope qN):=⟨rfl,rfl,rfl,by decide +kernel,rfl,by decide +kernel,by decide +kernel⟩
theorem wU (xs:List V)(i n:Nat):dZ xs (some (i:Int)) (some ((i:Int)+(n:Int)))=(xs.drop i).take n:=by
 have e:(i:Int)+(n:Int)=((i+n:Nat):Int):=by omega
 unfold dZ
 rw [e,HT.sIx_nat,HT.sIx_nat]
 by_cases h:i<=xs.length
 ·rw [a2a h]
  by_cases h2:i+n<=xs.length
  ·rw [a2a h2,a1I]
  ·rw [a1Z (by omega),a1i (by rw [a1e]; omega),a1i (by rw [a1e]; omega)]
 ·rw [a1Z (by omega:xs.length<=i),a1Z (by omega:xs.length<=i+n),a1M (a0h _),a1M (by omega)]
  simp
theorem uV {k:Nat}(F:Fun K "in_rows" "in_rows" qN f fd)(T:Txt mg):FnOk P w K mg base CX0 (k+1) f fd ["lengths","things"] (n6 K):=by
 refine F.ok scRo (fun vs H Q E h=>?_) (fun cdv A outer s H vs Q E hr h=>?_)
 ·obtain ⟨la,ta,ls,ws,rfl,_⟩:=h
  rfl
 obtain ⟨la,ta,ls,ws,rfl,hla,hta,hll,q⟩:=h
 refine ⟨_,dr (jJ (i:=2) scRo.nd rfl (a1r rfl) (sy bf))
  (dr (jJ (i:=3) scRo.nd rfl (a1r rfl) bW)
  (dr (gU PassesOwn.never rfl (gz (pv 0)) (bM (i:=4) scRo.nd rfl (a1r rfl))
   (dr (d0 (nQ a1J a12 a13 fz (pv 2) (aC (gG sl_list (pv 1) (gr (pv 3)) (gr (fO op_add (pv 3) (pv 4)))) bf)))
   (dA (jJ (i:=3) scRo.nd rfl (a1r rfl) (fO op_add (pv 3) (pv 4))))))
  (dA (rW (pv 2))))),?_⟩
 refine ⟨a0Y _,fun ra hra=>?_⟩
 have s0:Same H (upd H ra (.lst [])):=cP hra _
 refine ⟨_,rfl,la,rfl,⟨_,hX s0 hla⟩,?_⟩
 refine gZ (K:=K) (a:=la) (xs:=ij ls) (fun i σ H2=>i<=ls.length/\(∃ o,σ=[some (.ref la),some (.ref ta),some (.ref ra),some (.int (((ls.take i).sum:Nat):Int)),o])/\Same H H2/\∃ ps:List Addr,H2 ra=some (.lst (ps.map V.ref))/\RowsAt H H2 ra (ls.take i) ws ps)
  ⟨a0Y _,⟨_,rfl⟩,s0,[],ak,rfl⟩ (fun i σ H2 _ h2=>hX h2.2.2.1 hla) ?_ ?_
 ·rintro i x σ H2 hx ⟨hi,⟨o,rfl⟩,s2,ps,hrs,hR⟩
  obtain ⟨n,en,ex⟩:∃ n,ls[i]?=some n/\x=.int (n:Int):=by
   unfold ij at hx
   rw [a0x] at hx
   cases e:ls[i]? with
   | none=>rw [e] at hx; cases hx
   | some n=>rw [e] at hx; exact ⟨n,rfl,(a0G hx).symm⟩
  subst ex
  have hi':i < ls.length:=(a0q.mp en).1
  have hlr:=hR.length
  rw [a01] at hlr
  refine ⟨_,rfl,.inl ⟨rfl,_,SqL.of hrs⟩,_,rfl,_,rfl,_,rfl,_,rfl,_,rfl,_,_,rfl,rfl,_,rfl,ta,ws,rfl,hX s2 hta,fun p hp=>?_⟩
  have u:=cP hp (.lst (dZ ws (some (((ls.take i).sum:Nat):Int)) (some ((((ls.take i).sum:Nat):Int)+(n:Int)))))
  have npr:p≠ra:=fun e=>by rw [e,hrs] at hp; cases hp
  refine ⟨ra,ps.map V.ref,_,rfl,rfl,u _ _ hrs,(by rw [a0b]; exact a0r (show ps.length < ls.length by omega) (a0o hll (by decide))),?_⟩
  refine ⟨_,rfl,_,rfl,_,_,rfl,rfl,?_⟩
  have etk:ls.take (i+1)=ls.take i++[n]:=by rw [List.take_add_one,en]; rfl
  refine ⟨hi',⟨some (.int (n:Int)),?_⟩,Same.own (s2.trans u) hra _,ps++[p],by rw [ak,a0Q]; rfl,?_⟩
  ·rw [etk,a2r]
   show [some (V.ref la),some (V.ref ta),some (V.ref ra),some (V.int ((((ls.take i).sum:Nat):Int)+(n:Int))),some (V.int (n:Int))]=[some (V.ref la),some (V.ref ta),some (V.ref ra),some (V.int (((ls.take i).sum+[n].sum:Nat):Int)),some (V.int (n:Int))]
   have:[n].sum=n:=by simp
   rw [this]
   have e2:(((ls.take i).sum:Nat):Int)+(n:Int)=(((ls.take i).sum+n:Nat):Int):=by omega
   rw [e2]
  ·rw [etk]
   have hpH:H p=none:=pX s2 hp
   have hpp:p ∉ ps:=fun z=>by obtain ⟨zs,e⟩:=(hR.new p z).2.2; rw [hp] at e; cases e
   refine RowsAt.snoc hpH npr (hR.keep fun b o hb e=>?_) hpp ?_
   ·rw [ai hb]; exact u b o e
   ·rw [ai npr,ak,wU]
 rintro σ H2 ⟨_,⟨o,rfl⟩,s2,ps,hrs,hR⟩
 have el:(ij ls).length=ls.length:=by unfold ij; rw [a0b]
 rw [el,a3w] at hR
 exact ⟨_,rfl,q _ _ _ s2 hra hrs hR⟩
theorem nH (F:Fun K "in_rows" "in_rows" qN f fd)(T:Txt mg):∀ n,FnOk P w K mg base CX0 n f fd ["lengths","things"] (spS K (Cl n) DX [])
 | 0=>fn0 fun _=>rfl
 | n+1=>(uV (k:=n) F T).imp fun _ _ _ _ h=>ub (fun _=>rfl) h
end
section
variable {P:Program}{w:World}{K:a0a}{mg:Str->Option Value}{base:Heap}
noncomputable abbrev dN:List (Str×Str):=[("flat","wide_flat"),("join","wide_join"),("cut","wide_cut")]
noncomputable abbrev dR:List (Str×Str):=[("flat","flat_words"),("join","join_words"),("cut","cut_words")]
theorem all (d34:Df K mg "long_word" s34 ["length"])(d36:Df K mg "cut_word" s36 ["length","lengths"])(d38:Df K mg "own_copy" s38 ["worth"])(d1:Df K mg "in_rows" s1 ["lengths","things"])(d6:Df K mg "flat_of" s6 ["kind","worths"])(d11:Df K mg "many_in" s11 ["kind","flat"])(d76:Df K mg "parted" s76 ["lengths","things"])(d13:Df K mg "taken_there" s13 ["kind","flat","numbers"])(d14:Df K mg "things_of" s14 ["lengths","numbers"])(d15:Df K mg "behind" s15 ["kind","one","other"])(d17:Df K mg "merged" s17 ["kind","truths","one","other"])(d19:Df K mg "first_ones" s19 ["kind","flat","many"])(d133:Df K mg "wide_step" qh ["piece","kinds","flats","many"])(d79:Df K mg "first_stop" s79 ["sign","flats","many"])(d80:Df K mg "flat_words" s80 ["flats"])(d82:Df K mg "join_words" s82 ["flats"])(d84:Df K mg "cut_words" s84 ["flats"])(d85:Df K mg "laid_anew" s85 ["piece","kinds","flats","many"])(d89:Df K mg "wide_flat" s89 ["kinds","flats"])(d92:Df K mg "wide_join" s92 ["kinds","flats"])(d94:Df K mg "wide_cut" s94 ["kinds","flats"])(d20:Df K mg "_law_draw" s20 ["tape","many"])(d21:Df K mg "_law_number" s21 ["tape"])(d22:Df K mg "_law_kind" s22 ["tape","left"])(d23:DfD K mg "_law_worth" s23 ["tape","kind","long"] (.bool true))(d24:Df K mg "_law_alike" s24 ["due","found"])(d95:Df K mg "_law_spoil" s95 ["thing"])(d135:Df K mg "_law_step" rM ["piece","kinds","lists","kind","due","word"])(d146:Df K mg "_law_some" rV ["tape","kind"])(d147:Df K mg "_law_two" sY ["tape","kind"])(d148:Df K mg "_law_joined" rA ["kind","things"])(d149:Df K mg "_law_flattened" se ["kind","things"])(d150:Df K mg "_law_lengths" t8 ["tape","long"])(d158:Df K mg "_law_parted" qG ["row","lengths"])(d159:Df K mg "_law_cut" qV ["kind","rows","cuts"])(t_DOINGS_wide:vN K w mg "DOINGS_wide" dN)(t_WORDS_wide:vN K w mg "WORDS_wide" dR)(T:Txt mg)(G:Glb K w mg):∀ n,Calls P w K mg base n (Cl n)
 | 0 =>
  have c34:aa P w K mg base 0 (Cl 0) "long_word" 34 []:=d34.z
  have c36:aa P w K mg base 0 (Cl 0) "cut_word" 36 []:=d36.z
  have c38:aa P w K mg base 0 (Cl 0) "own_copy" 38 []:=d38.z
  have c1:aa P w K mg base 0 (Cl 0) "in_rows" 1 []:=d1.ok fun _ _ F=>nH F T 0
  have c6:aa P w K mg base 0 (Cl 0) "flat_of" 6 []:=d6.z
  have c11:aa P w K mg base 0 (Cl 0) "many_in" 11 []:=d11.z
  have c76:aa P w K mg base 0 (Cl 0) "parted" 76 []:=d76.z
  have c13:aa P w K mg base 0 (Cl 0) "taken_there" 13 []:=d13.z
  have c14:aa P w K mg base 0 (Cl 0) "things_of" 14 []:=d14.z
  have c15:aa P w K mg base 0 (Cl 0) "behind" 15 []:=d15.z
  have c17:aa P w K mg base 0 (Cl 0) "merged" 17 []:=d17.z
  have c19:aa P w K mg base 0 (Cl 0) "first_ones" 19 []:=d19.z
  have c133:aa P w K mg base 0 (Cl 0) "wide_step" 133 []:=d133.z
  have c79:aa P w K mg base 0 (Cl 0) "first_stop" 79 []:=d79.z
  have c80:aa P w K mg base 0 (Cl 0) "flat_words" 80 []:=d80.z
  have c82:aa P w K mg base 0 (Cl 0) "join_words" 82 []:=d82.z
  have c84:aa P w K mg base 0 (Cl 0) "cut_words" 84 []:=d84.z
  have c85:aa P w K mg base 0 (Cl 0) "laid_anew" 85 []:=d85.z
  have c89:aa P w K mg base 0 (Cl 0) "wide_flat" 89 []:=d89.z
  have c92:aa P w K mg base 0 (Cl 0) "wide_join" 92 []:=d92.z
  have c94:aa P w K mg base 0 (Cl 0) "wide_cut" 94 []:=d94.z
  have c20:aa P w K mg base 0 (Cl 0) "_law_draw" 20 [0]:=d20.z
  have c21:aa P w K mg base 0 (Cl 0) "_law_number" 21 [0]:=d21.z
  have c22:aa P w K mg base 0 (Cl 0) "_law_kind" 22 [0]:=d22.z
  have c23:aa P w K mg base 0 (Cl 0) "_law_worth" 23 [0]:=d23.z
  have e23:dH P w K mg base 0 (Cl 0) "_law_worth" 23 [0] (.bl true):=d23.zD
  have c24:aa P w K mg base 0 (Cl 0) "_law_alike" 24 []:=d24.z
  have c95:aa P w K mg base 0 (Cl 0) "_law_spoil" 95 []:=let ⟨_,_,F,b,m⟩:=d95.ex; ⟨_,_,_,kx F b T m 0,m,F.kp,b⟩
  have c135:aa P w K mg base 0 (Cl 0) "_law_step" 135 []:=d135.z
  have c146:aa P w K mg base 0 (Cl 0) "_law_some" 146 [0]:=d146.z
  have c147:aa P w K mg base 0 (Cl 0) "_law_two" 147 [0]:=d147.z
  have c148:aa P w K mg base 0 (Cl 0) "_law_joined" 148 []:=d148.z
  have c149:aa P w K mg base 0 (Cl 0) "_law_flattened" 149 []:=d149.z
  have c150:aa P w K mg base 0 (Cl 0) "_law_lengths" 150 [0]:=d150.z
  have c158:aa P w K mg base 0 (Cl 0) "_law_parted" 158 []:=d158.z
  have c159:aa P w K mg base 0 (Cl 0) "_law_cut" 159 []:=d159.z
  ⟨c34,c36,c38,c1,c6,c11,c76,c13,c14,c15,c17,c19,c133,c79,c80,c82,c84,c85,c89,c92,c94,c20,c21,c22,c23,e23,c24,c95,c135,c146,c147,c148,c149,c150,c158,c159,fun _=>rfl,gx t_DOINGS_wide ⟨⟨_,rfl,c89⟩,⟨_,rfl,c92⟩,⟨_,rfl,c94⟩,trivial⟩,gx t_WORDS_wide ⟨⟨_,rfl,c80⟩,⟨_,rfl,c82⟩,⟨_,rfl,c84⟩,trivial⟩⟩
 | n+1 =>
  have c:=all d34 d36 d38 d1 d6 d11 d76 d13 d14 d15 d17 d19 d133 d79 d80 d82 d84 d85 d89 d92 d94 d20 d21 d22 d23 d24 d95 d135 d146 d147 d148 d149 d150 d158 d159 t_DOINGS_wide t_WORDS_wide T G n
  have c34:aa P w K mg base (n+1) (Cl (n+1)) "long_word" 34 []:=d34.s aX S34 (D34 c T G)
  have c36:aa P w K mg base (n+1) (Cl (n+1)) "cut_word" 36 []:=d36.s bw S36 (D36 c T G)
  have c38:aa P w K mg base (n+1) (Cl (n+1)) "own_copy" 38 []:=d38.s bQ S38 (D38 c T G)
  have c1:aa P w K mg base (n+1) (Cl (n+1)) "in_rows" 1 []:=d1.ok fun _ _ F=>nH F T (n+1)
  have c6:aa P w K mg base (n+1) (Cl (n+1)) "flat_of" 6 []:=d6.s bx S6 (D6 c T G)
  have c11:aa P w K mg base (n+1) (Cl (n+1)) "many_in" 11 []:=d11.s bA S11 (D11 c T G)
  have c76:aa P w K mg base (n+1) (Cl (n+1)) "parted" 76 []:=d76.s dQ S76 (D76 c T G)
  have c13:aa P w K mg base (n+1) (Cl (n+1)) "taken_there" 13 []:=d13.s aL S13 (D13 c T G)
  have c14:aa P w K mg base (n+1) (Cl (n+1)) "things_of" 14 []:=d14.s cc S14 (D14 c T G)
  have c15:aa P w K mg base (n+1) (Cl (n+1)) "behind" 15 []:=d15.s b8 S15 (D15 c T G)
  have c17:aa P w K mg base (n+1) (Cl (n+1)) "merged" 17 []:=d17.s dY S17 (D17 c T G)
  have c19:aa P w K mg base (n+1) (Cl (n+1)) "first_ones" 19 []:=d19.s aQ S19 (D19 c T G)
  have c133:aa P w K mg base (n+1) (Cl (n+1)) "wide_step" 133 []:=d133.s bz DW (D8 c T G)
  have c79:aa P w K mg base (n+1) (Cl (n+1)) "first_stop" 79 []:=d79.s bo S79 (D79 c T G)
  have c80:aa P w K mg base (n+1) (Cl (n+1)) "flat_words" 80 []:=d80.s bC S80 (D80 c T G)
  have c82:aa P w K mg base (n+1) (Cl (n+1)) "join_words" 82 []:=d82.s bO S82 (D82 c T G)
  have c84:aa P w K mg base (n+1) (Cl (n+1)) "cut_words" 84 []:=d84.s cf S84 (D84 c T G)
  have c85:aa P w K mg base (n+1) (Cl (n+1)) "laid_anew" 85 []:=d85.s b7 S85 (D85 c T G)
  have c89:aa P w K mg base (n+1) (Cl (n+1)) "wide_flat" 89 []:=d89.s cg S89 (D89 c T G)
  have c92:aa P w K mg base (n+1) (Cl (n+1)) "wide_join" 92 []:=d92.s b5 S92 (D92 c T G)
  have c94:aa P w K mg base (n+1) (Cl (n+1)) "wide_cut" 94 []:=d94.s cQ S94 (D94 c T G)
  have c20:aa P w K mg base (n+1) (Cl (n+1)) "_law_draw" 20 [0]:=d20.s bc S20 (D20 c T G)
  have c21:aa P w K mg base (n+1) (Cl (n+1)) "_law_number" 21 [0]:=d21.s bJ S21 (D21 c T G)
  have c22:aa P w K mg base (n+1) (Cl (n+1)) "_law_kind" 22 [0]:=d22.s cI S22 (D22 c T G)
  have c23:aa P w K mg base (n+1) (Cl (n+1)) "_law_worth" 23 [0]:=d23.s aD S23 (D23 c T G)
  have e23:dH P w K mg base (n+1) (Cl (n+1)) "_law_worth" 23 [0] (.bl true):=d23.sD aD S23 (D23 c T G)
  have c24:aa P w K mg base (n+1) (Cl (n+1)) "_law_alike" 24 []:=d24.s aw S24 (D24 c T G)
  have c95:aa P w K mg base (n+1) (Cl (n+1)) "_law_spoil" 95 []:=let ⟨_,_,F,b,m⟩:=d95.ex; ⟨_,_,_,kx F b T m (n+1),m,F.kp,b⟩
  have c135:aa P w K mg base (n+1) (Cl (n+1)) "_law_step" 135 []:=d135.s bT C3 (Ef c T G)
  have c146:aa P w K mg base (n+1) (Cl (n+1)) "_law_some" 146 [0]:=d146.s cM Dk (EN c T G)
  have c147:aa P w K mg base (n+1) (Cl (n+1)) "_law_two" 147 [0]:=d147.s bV C6 (EE c T G)
  have c148:aa P w K mg base (n+1) (Cl (n+1)) "_law_joined" 148 []:=d148.s bN BP (ER c T G)
  have c149:aa P w K mg base (n+1) (Cl (n+1)) "_law_flattened" 149 []:=d149.s a0 DL (D5 c T G)
  have c150:aa P w K mg base (n+1) (Cl (n+1)) "_law_lengths" 150 [0]:=d150.s aK BU (ED c T G)
  have c158:aa P w K mg base (n+1) (Cl (n+1)) "_law_parted" 158 []:=d158.s bK DN (El c T G)
  have c159:aa P w K mg base (n+1) (Cl (n+1)) "_law_cut" 159 []:=d159.s de C9 (Ek c T G)
  ⟨c34,c36,c38,c1,c6,c11,c76,c13,c14,c15,c17,c19,c133,c79,c80,c82,c84,c85,c89,c92,c94,c20,c21,c22,c23,e23,c24,c95,c135,c146,c147,c148,c149,c150,c158,c159,fun ws=>M.zf_no _ ws,gx t_DOINGS_wide ⟨⟨_,rfl,c89⟩,⟨_,rfl,c92⟩,⟨_,rfl,c94⟩,trivial⟩,gx t_WORDS_wide ⟨⟨_,rfl,c80⟩,⟨_,rfl,c82⟩,⟨_,rfl,c84⟩,trivial⟩⟩
end
theorem pure_law:∀ ns:List Int,ns.length<=63->∃ m bs,Cl 40 0 [(.d,.scr ns)]=.ok ((m,.bl true),bs):=fun ns _=>P44.pure_law ns
theorem all_mk {l:a22}{w:World}{K:a0a}{h:Heap}{mg:Str->Option Value}{fa:Addr}(X:K.In h)(G:h.Ns mainGlobals mg)(hfa:mg "law"=some (.ref fa))(r34:Raw K "long_word" s34 .none)(r36:Raw K "cut_word" s36 .none)(r38:Raw K "own_copy" s38 .none)(r1:Raw K "in_rows" s1 .none)(r6:Raw K "flat_of" s6 .none)(r11:Raw K "many_in" s11 .none)(r76:Raw K "parted" s76 .none)(r13:Raw K "taken_there" s13 .none)(r14:Raw K "things_of" s14 .none)(r15:Raw K "behind" s15 .none)(r17:Raw K "merged" s17 .none)(r19:Raw K "first_ones" s19 .none)(r133:Raw K "wide_step" qh .none)(r79:Raw K "first_stop" s79 .none)(r80:Raw K "flat_words" s80 .none)(r82:Raw K "join_words" s82 .none)(r84:Raw K "cut_words" s84 .none)(r85:Raw K "laid_anew" s85 .none)(r89:Raw K "wide_flat" s89 .none)(r92:Raw K "wide_join" s92 .none)(r94:Raw K "wide_cut" s94 .none)(r20:Raw K "_law_draw" s20 .none)(r21:Raw K "_law_number" s21 .none)(r22:Raw K "_law_kind" s22 .none)(r23:RawD K "_law_worth" s23 (.bool true))(r24:Raw K "_law_alike" s24 .none)(r95:Raw K "_law_spoil" s95 .none)(r135:Raw K "_law_step" rM .none)(r146:Raw K "_law_some" rV .none)(r147:Raw K "_law_two" sY .none)(r148:Raw K "_law_joined" rA .none)(r149:Raw K "_law_flattened" se .none)(r150:Raw K "_law_lengths" t8 .none)(r158:Raw K "_law_parted" qG .none)(r159:Raw K "_law_cut" qV .none)(r0:Raw K "law" s0 .none)(g0:∃ t,a2i K mainGlobals "LONGEST"=some (some (.int 200 t)))(q_DOINGS_wide:∃ T,TabRaw K w "DOINGS_wide" T/\NamL K T dN)(q_RECKONED:∃ T,TabRaw K w "RECKONED" T/\T.map a2p=keys_RECKONED)(q_WORDS_wide:∃ T,TabRaw K w "WORDS_wide" T/\T.map a2p=keys_WORDS_wide/\NamL K T dR)(tx:zH K ["isinstance","int","tuple","list","bool","sum","len","all","zip","range","enumerate","any","max","min","sorted","str","repr","abs","dict","set","reversed"]) :
  ∃ fd:FuncData,(∀ (s:Shared) (v:Value),BindsTo s fd ⟨[v],[]⟩ [("script",v)])/\∀ base:Heap,K.In base->base.Ns mainGlobals mg->FnOk l.prog w K mg base CX0 40 fa fd ["script"] (spS K (Cl 40) 0 []):=by
 have d34:Df K mg "long_word" s34 ["length"]:=aH X G r34 fun _ _ _ _ _ _ us hl=>match us,hl with | [_],_=>rfl
 have d36:Df K mg "cut_word" s36 ["length","lengths"]:=aH X G r36 fun _ _ _ _ _ _ us hl=>match us,hl with | [_,_],_=>rfl
 have d38:Df K mg "own_copy" s38 ["worth"]:=aH X G r38 fun _ _ _ _ _ _ us hl=>match us,hl with | [_],_=>rfl
 have d1:Df K mg "in_rows" s1 ["lengths","things"]:=aH X G r1 fun _ _ _ _ _ _ us hl=>match us,hl with | [_,_],_=>rfl
 have d6:Df K mg "flat_of" s6 ["kind","worths"]:=aH X G r6 fun _ _ _ _ _ _ us hl=>match us,hl with | [_,_],_=>rfl
 have d11:Df K mg "many_in" s11 ["kind","flat"]:=aH X G r11 fun _ _ _ _ _ _ us hl=>match us,hl with | [_,_],_=>rfl
 have d76:Df K mg "parted" s76 ["lengths","things"]:=aH X G r76 fun _ _ _ _ _ _ us hl=>match us,hl with | [_,_],_=>rfl
 have d13:Df K mg "taken_there" s13 ["kind","flat","numbers"]:=aH X G r13 fun _ _ _ _ _ _ us hl=>match us,hl with | [_,_,_],_=>rfl
 have d14:Df K mg "things_of" s14 ["lengths","numbers"]:=aH X G r14 fun _ _ _ _ _ _ us hl=>match us,hl with | [_,_],_=>rfl
 have d15:Df K mg "behind" s15 ["kind","one","other"]:=aH X G r15 fun _ _ _ _ _ _ us hl=>match us,hl with | [_,_,_],_=>rfl
 have d17:Df K mg "merged" s17 ["kind","truths","one","other"]:=aH X G r17 fun _ _ _ _ _ _ us hl=>match us,hl with | [_,_,_,_],_=>rfl
 have d19:Df K mg "first_ones" s19 ["kind","flat","many"]:=aH X G r19 fun _ _ _ _ _ _ us hl=>match us,hl with | [_,_,_],_=>rfl
 have d133:Df K mg "wide_step" qh ["piece","kinds","flats","many"]:=aH X G r133 fun _ _ _ _ _ _ us hl=>match us,hl with | [_,_,_,_],_=>rfl
 have d79:Df K mg "first_stop" s79 ["sign","flats","many"]:=aH X G r79 fun _ _ _ _ _ _ us hl=>match us,hl with | [_,_,_],_=>rfl
 have d80:Df K mg "flat_words" s80 ["flats"]:=aH X G r80 fun _ _ _ _ _ _ us hl=>match us,hl with | [_],_=>rfl
 have d82:Df K mg "join_words" s82 ["flats"]:=aH X G r82 fun _ _ _ _ _ _ us hl=>match us,hl with | [_],_=>rfl
 have d84:Df K mg "cut_words" s84 ["flats"]:=aH X G r84 fun _ _ _ _ _ _ us hl=>match us,hl with | [_],_=>rfl
 have d85:Df K mg "laid_anew" s85 ["piece","kinds","flats","many"]:=aH X G r85 fun _ _ _ _ _ _ us hl=>match us,hl with | [_,_,_,_],_=>rfl
 have d89:Df K mg "wide_flat" s89 ["kinds","flats"]:=aH X G r89 fun _ _ _ _ _ _ us hl=>match us,hl with | [_,_],_=>rfl
 have d92:Df K mg "wide_join" s92 ["kinds","flats"]:=aH X G r92 fun _ _ _ _ _ _ us hl=>match us,hl with | [_,_],_=>rfl
 have d94:Df K mg "wide_cut" s94 ["kinds","flats"]:=aH X G r94 fun _ _ _ _ _ _ us hl=>match us,hl with | [_,_],_=>rfl
 have d20:Df K mg "_law_draw" s20 ["tape","many"]:=aH X G r20 fun _ _ _ _ _ _ us hl=>match us,hl with | [_,_],_=>rfl
 have d21:Df K mg "_law_number" s21 ["tape"]:=aH X G r21 fun _ _ _ _ _ _ us hl=>match us,hl with | [_],_=>rfl
 have d22:Df K mg "_law_kind" s22 ["tape","left"]:=aH X G r22 fun _ _ _ _ _ _ us hl=>match us,hl with | [_,_],_=>rfl
 have d23:DfD K mg "_law_worth" s23 ["tape","kind","long"] (.bool true):=Av X G r23 (fun _ _ _ _ _ _ _ us hl=>match us,hl with | [_,_,_],_=>⟨_,rfl,rfl⟩) (fun _ _ _ _ _ _ _ us hl=>by obtain ⟨_,_,rfl⟩:=yQ hl; exact ⟨_,rfl,rfl⟩)
 have d24:Df K mg "_law_alike" s24 ["due","found"]:=aH X G r24 fun _ _ _ _ _ _ us hl=>match us,hl with | [_,_],_=>rfl
 have d95:Df K mg "_law_spoil" s95 ["thing"]:=aH X G r95 fun _ _ _ _ _ _ us hl=>match us,hl with | [_],_=>rfl
 have d135:Df K mg "_law_step" rM ["piece","kinds","lists","kind","due","word"]:=aH X G r135 fun _ _ _ _ _ _ us hl=>match us,hl with | [_,_,_,_,_,_],_=>rfl
 have d146:Df K mg "_law_some" rV ["tape","kind"]:=aH X G r146 fun _ _ _ _ _ _ us hl=>match us,hl with | [_,_],_=>rfl
 have d147:Df K mg "_law_two" sY ["tape","kind"]:=aH X G r147 fun _ _ _ _ _ _ us hl=>match us,hl with | [_,_],_=>rfl
 have d148:Df K mg "_law_joined" rA ["kind","things"]:=aH X G r148 fun _ _ _ _ _ _ us hl=>match us,hl with | [_,_],_=>rfl
 have d149:Df K mg "_law_flattened" se ["kind","things"]:=aH X G r149 fun _ _ _ _ _ _ us hl=>match us,hl with | [_,_],_=>rfl
 have d150:Df K mg "_law_lengths" t8 ["tape","long"]:=aH X G r150 fun _ _ _ _ _ _ us hl=>match us,hl with | [_,_],_=>rfl
 have d158:Df K mg "_law_parted" qG ["row","lengths"]:=aH X G r158 fun _ _ _ _ _ _ us hl=>match us,hl with | [_,_],_=>rfl
 have d159:Df K mg "_law_cut" qV ["kind","rows","cuts"]:=aH X G r159 fun _ _ _ _ _ _ us hl=>match us,hl with | [_,_,_],_=>rfl
 have T:=zg X G tx
 obtain ⟨_,q_DOINGS_wide,qn_DOINGS_wide⟩:=q_DOINGS_wide
 obtain ⟨_,q_RECKONED,qk_RECKONED⟩:=q_RECKONED
 obtain ⟨_,q_WORDS_wide,qk_WORDS_wide,qn_WORDS_wide⟩:=q_WORDS_wide
 have Gm:Glb K w mg:=⟨(let ⟨t,z⟩:=g0; ⟨t,a19 X G z⟩),(oq X G q_RECKONED qk_RECKONED),(oq X G q_WORDS_wide qk_WORDS_wide)⟩
 have t_DOINGS_wide:=oa X G q_DOINGS_wide qn_DOINGS_wide
 have t_WORDS_wide:=oa X G q_WORDS_wide qn_WORDS_wide
 exact An X G hfa r0 (fun _ _ _ _ _ _ _ _=>.of_eq rfl) fun f fd F base=>Fun.okM F S0 rfl (by decide) (by decide) (by decide) (fun _ _ _ _ _ _ h=>D0 (all d34 d36 d38 d1 d6 d11 d76 d13 d14 d15 d17 d19 d133 d79 d80 d82 d84 d85 d89 d92 d94 d20 d21 d22 d23 d24 d95 d135 d146 d147 d148 d149 d150 d158 d159 t_DOINGS_wide t_WORDS_wide T Gm 39) T Gm h) fun _=>rfl
end A44

set_option maxHeartbeats 0
namespace H44
open PySem PySem.W TP
noncomputable abbrev pr:Program:=PySem.Challenge.pw_broadrow_k44_rows_joined_flattened_and_c
noncomputable def tn (i:Nat):Stmt:=pr.main.body.getD i (.Pass p0)
noncomputable def rc:List Rc:=[.m,
.c,
.c,
.d,
.d,
.d,
.d,
.d,
.d,
.d,
.d,
.d,
.m,
.d,
.d,
.d,
.d,
.d,
.d,
.d,
.d,
.d,
.d,
.d,
.d,
.d,
.d,
.d,
.d,
.d,
.d,
.d,
.d,
.d,
.d,
.d,
.d,
.d,
.d,
.d,
.d,
.d,
.x "DOINGS_single" 525 (.ref 275) (fun P=>[di [en P "yes" 473 (.ref 101),en P "no" 475 (.ref 108),en P "none" 477 (.ref 115),en P "not" 479 (.ref 122),en P "first" 481 (.ref 129),en P "second" 483 (.ref 136),en P "one" 485 (.ref 143),en P "upto" 487 (.ref 150),en P "long" 489 (.ref 157),en P "sum" 491 (.ref 164),en P "sums" 493 (.ref 171),en P "most" 495 (.ref 178),en P "flat" 497 (.ref 185),en P "add" 499 (.ref 192),en P "sub" 501 (.ref 199),en P "mul" 503 (.ref 206),en P "div" 505 (.ref 213),en P "rest" 507 (.ref 220),en P "less" 508 (.ref 227),en P "same" 509 (.ref 234),en P "both" 510 (.ref 241),en P "pair" 511 (.ref 248),en P "pick" 512 (.ref 255),en P "join" 513 (.ref 262),en P "keep" 514 (.ref 267),en P "cut" 515 (.ref 274)] 26,di [en P "rest" 507 (.ref 220),en P "less" 508 (.ref 227),en P "same" 509 (.ref 234),en P "both" 510 (.ref 241),en P "pair" 511 (.ref 248),en P "pick" 512 (.ref 255),en P "join" 513 (.ref 262),en P "keep" 514 (.ref 267),en P "cut" 515 (.ref 274)] 9]) [] 277 526,
.d,
.d,
.d,
.d,
.d,
.d,
.d,
.d,
.d,
.d,
.d,
.d,
.x "WORDS_single" 637 (.ref 359) (fun P=>[di [en P "upto" 609 (.ref 283),en P "sum" 610 (.ref 290),en P "sums" 611 (.ref 290),en P "most" 612 (.ref 297),en P "flat" 613 (.ref 302),en P "add" 614 (.ref 309),en P "sub" 615 (.ref 316),en P "mul" 616 (.ref 323),en P "div" 617 (.ref 330),en P "rest" 618 (.ref 330),en P "pick" 619 (.ref 337),en P "join" 620 (.ref 344),en P "keep" 621 (.ref 351),en P "cut" 622 (.ref 358)] 14]) [] 360 638,
.m,
.x "BroadError" 657 (.ref 369) (fun P=>[tu [.type "ValueError"],⟨.type "builtin_function_or_method",none,.fields #[.builtin "type.__prepare__",.type "type"],#[]⟩,di [en P "__module__" 647 (.str "broadrow.errors" 638),en P "__qualname__" 649 (.str "BroadError" 648),en P "__firstlineno__" 651 (.int (137) 650),en P "__static_attributes__" 652 (.ref 367)] 4,tu [],fe [],cdo "BroadError" "BroadError" 642 645 137 0 0 363 false .none .none .none,⟨.type "frame",none,.plain,#[some (.ref 365),some (.ref 3),some (.ref 362),none,some (.str "broadrow.errors" 638),none,some (.ref 0)]⟩,tu [],di [en P "__module__" 647 (.str "broadrow.errors" 638),en P "__firstlineno__" 651 (.int (137) 650),en P "__static_attributes__" 652 (.ref 367),en P "__weakref__" 654 (.ref 370),en P "__doc__" 655 .none] 3,⟨.type "type",none,.cls {name:="BroadError",bases:=[.type "ValueError"],mro:=[.ref 369,.type "ValueError",.type "Exception",.type "BaseException",.type "object"],ns:=368,qualname:="BroadError",subclasses:=[.ref 389]},#[some (.ref 360),none,some (.str "BroadError" 640),some (.str "BroadError" 648),some (.builtin "ValueError.__new__"),some (.bool true)]⟩,⟨.type "getset_descriptor",none,.fields #[.str "__weakref__" 653,.ref 369,.builtin "ExceptionGroup.__weakref__",.none],#[]⟩,⟨.type "super",none,.fields #[.ref 369,.ref 369,.ref 369],#[]⟩,⟨.type "builtin_function_or_method",none,.fields #[.builtin "object.__init_subclass__",.ref 369],#[]⟩]) [iv 137,iv 0,.ref 365] 373 658,
.x "NoThing" 682 (.ref 389) (fun P=>[tu [.ref 369],⟨.type "builtin_function_or_method",none,.fields #[.builtin "type.__prepare__",.type "type"],#[]⟩,di [en P "__module__" 665 (.str "broadrow.errors" 638),en P "__qualname__" 667 (.str "NoThing" 666),en P "__firstlineno__" 669 (.int (139) 668),en P "__init__" 677 (.ref 386),en P "__static_attributes__" 679 (.ref 387)] 5,tu [],fe [iv 141,iv 4,.ref 385],cdo "NoThing" "NoThing" 660 663 139 0 0 376 false .none .none .none,⟨.type "frame",none,.plain,#[some (.ref 378),some (.ref 3),some (.ref 375),none,some (.str "broadrow.errors" 638),none,some (.ref 0)]⟩,tu [],fe [],tu [.str "self" 673,.str "number" 674],tu [],ofn .none (cb (tn 58) 0) "NoThing.__init__" 0 .none .none .none,cdo "__init__" "NoThing.__init__" 670 675 141 2 3 380 true (.ref 382) (.ref 383) (.ref 384),ofn (.type "function") (cb (tn 58) 0) "NoThing.__init__" 3 .none (.str "broadrow.errors" 638) (.ref 385),tu [.str "number" 678],di [en P "__module__" 665 (.str "broadrow.errors" 638),en P "__firstlineno__" 669 (.int (139) 668),en P "__init__" 677 (.ref 386),en P "__static_attributes__" 679 (.ref 387),en P "__doc__" 680 .none] 2,⟨.type "type",none,.cls {name:="NoThing",bases:=[.ref 369],mro:=[.ref 389,.ref 369,.type "ValueError",.type "Exception",.type "BaseException",.type "object"],ns:=388,qualname:="NoThing"},#[some (.ref 373),none,some (.str "NoThing" 658),some (.str "NoThing" 666),some (.builtin "ValueError.__new__"),some (.bool true)]⟩,⟨.type "super",none,.fields #[.ref 389,.ref 389,.ref 389],#[]⟩,⟨.type "builtin_function_or_method",none,.fields #[.builtin "object.__init_subclass__",.ref 389],#[]⟩]) [iv 139,iv 0,.ref 378] 392 683,
.m,
.d,
.d,
.d,
.d,
.m,
.d,
.d,
.d,
.d,
.d,
.d,
.d,
.m,
.x "RECKONED" 830 (.ref 463) (fun P=>[di [en P "not" 789 (.ref 464),en P "upto" 791 (.ref 466),en P "sum" 794 (.ref 467),en P "sums" 796 (.ref 469),en P "most" 799 (.ref 470),en P "add" 801 (.ref 471),en P "sub" 803 (.ref 472),en P "mul" 805 (.ref 473),en P "div" 807 (.ref 474),en P "rest" 809 (.ref 475),en P "less" 811 (.ref 476),en P "same" 813 (.ref 477),en P "both" 815 (.ref 478)] 13,tu [.str "truth" 790],tu [.str "num" 793],tu [.str "row" 792,.ref 465],tu [.str "num" 795],tu [.str "num" 798],tu [.str "row" 797,.ref 468],tu [.str "num" 800],tu [.str "num" 802],tu [.str "num" 804],tu [.str "num" 806],tu [.str "num" 808],tu [.str "num" 810],tu [.str "truth" 812],tu [.str "truth" 814],tu [.str "truth" 816]]) [] 479 831,
.d,
.d,
.d,
.d,
.d,
.d,
.d,
.d,
.x "WORDS_wide" 894 (.ref 521) (fun P=>[di [en P "flat" 884 (.ref 500),en P "pick" 885 (.ref 505),en P "join" 886 (.ref 510),en P "keep" 887 (.ref 515),en P "cut" 888 (.ref 520)] 5]) [] 522 895,
.d,
.d,
.d,
.d,
.d,
.d,
.d,
.d,
.d,
.d,
.d,
.x "DOINGS_wide" 1003 (.ref 593) (fun P=>[di [en P "first" 983 (.ref 535),en P "second" 984 (.ref 542),en P "one" 985 (.ref 549),en P "long" 986 (.ref 556),en P "flat" 987 (.ref 561),en P "pair" 988 (.ref 568),en P "pick" 989 (.ref 575),en P "join" 990 (.ref 580),en P "keep" 991 (.ref 585),en P "cut" 992 (.ref 592)] 10]) [] 594 1004,
.m,
.d,
.d,
.d,
.d,
.d,
.d,
.d,
.d,
.d,
.d,
.d,
.d,
.d,
.d,
.d]
theorem c0 (w:World):Cut pr rc 0 15 187 p0 26 679 165 357 ⟨68,0,69,22⟩ w:=fun o=>by kernel_rfl
theorem c26 (w:World):Cut pr rc 26 165 357 ⟨68,0,69,22⟩ 16 467 275 473 ⟨108,0,109,34⟩ w:=fun o=>by kernel_rfl
theorem c42 (w:World):Cut pr rc 42 275 473 ⟨108,0,109,34⟩ 1 488 277 526 ⟨110,0,110,13⟩ w:=byRow2 (P:=Cut pr rc 42 275 473 ⟨108,0,109,34⟩ 1 488 277 526 ⟨110,0,110,13⟩) "special-get-raises" (fun w o=>by kernel_rfl) (fun w o=>by kernel_rfl) w
theorem c43 (w:World):Cut pr rc 43 277 526 ⟨110,0,110,13⟩ 12 346 359 609 ⟨133,0,134,40⟩ w:=fun o=>by kernel_rfl
theorem c55 (w:World):Cut pr rc 55 359 609 ⟨133,0,134,40⟩ 1 235 360 638 ⟨135,0,135,12⟩ w:=byRow2 (P:=Cut pr rc 55 359 609 ⟨133,0,134,40⟩ 1 235 360 638 ⟨135,0,135,12⟩) "special-get-raises" (fun w o=>by kernel_rfl) (fun w o=>by kernel_rfl) w
theorem c56 (w:World):Cut pr rc 56 360 638 ⟨135,0,135,12⟩ 1 10 360 640 ⟨136,0,136,8⟩ w:=fun o=>by kernel_rfl
theorem c57 (w:World):Cut pr rc 57 360 640 ⟨136,0,136,8⟩ 2 432 392 683 ⟨139,0,143,28⟩ w:=fun o=>by kernel_rfl
theorem c59 (w:World):Cut pr rc 59 392 683 ⟨139,0,143,28⟩ 14 364 463 789 ⟨217,0,217,8⟩ w:=fun o=>by kernel_rfl
theorem c73 (w:World):Cut pr rc 73 463 789 ⟨217,0,217,8⟩ 1 238 479 831 ⟨218,0,218,8⟩ w:=byRow2 (P:=Cut pr rc 73 463 789 ⟨217,0,217,8⟩ 1 238 479 831 ⟨218,0,218,8⟩) "special-get-raises" (fun w o=>by kernel_rfl) (fun w o=>by kernel_rfl) w
theorem c74 (w:World):Cut pr rc 74 479 831 ⟨218,0,218,8⟩ 8 216 521 884 ⟨250,0,251,112⟩ w:=fun o=>by kernel_rfl
theorem c82 (w:World):Cut pr rc 82 521 884 ⟨250,0,251,112⟩ 1 91 522 895 ⟨252,0,252,10⟩ w:=byRow2 (P:=Cut pr rc 82 521 884 ⟨250,0,251,112⟩ 1 91 522 895 ⟨252,0,252,10⟩) "special-get-raises" (fun w o=>by kernel_rfl) (fun w o=>by kernel_rfl) w
theorem c83 (w:World):Cut pr rc 83 522 895 ⟨252,0,252,10⟩ 11 325 593 983 ⟨290,0,291,52⟩ w:=fun o=>by kernel_rfl
theorem c94 (w:World):Cut pr rc 94 593 983 ⟨290,0,291,52⟩ 1 171 594 1004 ⟨292,0,292,11⟩ w:=byRow2 (P:=Cut pr rc 94 593 983 ⟨290,0,291,52⟩ 1 171 594 1004 ⟨292,0,292,11⟩) "special-get-raises" (fun w o=>by kernel_rfl) (fun w o=>by kernel_rfl) w
theorem c95 (w:World):Cut pr rc 95 594 1004 ⟨292,0,292,11⟩ 16 467 688 1144 ⟨449,0,462,37⟩ w:=fun o=>by kernel_rfl
theorem ch:Ch pr rc 111 688 1144 0 15 187 p0 (679+(467+(488+(346+(235+(10+(432+(364+(238+(216+(91+(325+(171+(467+(2))))))))))))))):=a8 c0 ( a8 c26 ( a8 c42 ( a8 c43 ( a8 c55 ( a8 c56 ( a8 c57 ( a8 c59 ( a8 c73 ( a8 c74 ( a8 c82 ( a8 c83 ( a8 c94 ( a8 c95 (Ag (by kernel_rfl)))))))))))))))
noncomputable def q:Program:=view pr [110]
noncomputable def lo:List Str:=(["GREATEST","LONGEST","great_word","sums_word","nought_word","beyond_word","empty_word","upto_word","long_word","keep_word","cut_word","done","own_copy","in_rows","do_yes","do_no","do_none","do_not","do_first","do_second","do_one","do_upto","do_long","do_sum","do_sums","do_most","do_flat","do_add","do_sub","do_mul","do_div","do_rest","do_less","do_same","do_both","do_pair","do_pick","do_join","do_keep","do_cut","DOINGS_single","word_of_upto","word_of_sum","word_of_most","word_of_flat","word_of_add","word_of_sub","word_of_mul","word_of_div","word_of_pick","word_of_join","word_of_keep","word_of_cut","WORDS_single","BroadError","NoThing","flat_of","worths_of","many_in","parted","taken","taken_there","things_of","behind","kept","merged","first_ones","RECKONED","wide_step","reckoned","first_stop","flat_words","pick_words","join_words","keep_words","cut_words","WORDS_wide","laid_anew","wide_first","wide_second","wide_one","wide_long","wide_flat","wide_pair","wide_pick","wide_join","wide_keep","wide_cut","DOINGS_wide","_law_draw","_law_number","_law_kind","_law_worth","_law_alike","_law_spoil","_law_step","_law_some","_law_two","_law_joined","_law_flattened","_law_lengths","_law_parted","_law_cut"]:List String).map Str.ofString
noncomputable def as:List Addr:=[3,20,21,27,28,34,35,41,42,48,49,55,56,62,63,69,70,74,75,81,82,86,87,93,94,100,101,107,108,114,115,121,122,128,129,135,136,142,143,149,150,156,157,163,164,170,171,177,178,184,185,191,192,198,199,205,206,212,213,219,220,226,227,233,234,240,241,247,248,254,255,261,262,266,267,273,274,275,282,283,289,290,296,297,301,302,308,309,315,316,322,323,329,330,336,337,343,344,350,351,357,358,359,369,389,395,396,402,403,409,410,416,417,423,424,428,429,435,436,442,443,447,448,454,455,461,462,463,464,465,466,467,468,469,470,471,472,473,474,475,476,477,478,482,483,487,488,494,495,499,500,504,505,509,510,514,515,519,520,521,527,528,534,535,541,542,548,549,555,556,560,561,567,568,574,575,579,580,584,585,591,592,593,599,600,606,607,613,614,615,619,620,624,625,631,632,636,637,641,642,648,649,653,654,660,661,667,668,674,675,681,682,686,687]
noncomputable def K:Params->Frag:=kK pr rc 111 as
noncomputable def hk:Hook:=hkk pr rc 111 688
noncomputable abbrev Xt (s:Shared):Bool:=xlAt q [] s&&recOk (RowW.records (OpenRow.toRowW (OpenLaw.row PySem.Challenge.rw_broadrow_k44_rows_joined_flattened_and_c))) s
theorem kin (w:World)(h:Heap)(Y:hk.says w h):(K w.params).In h:=Et (by kernel_rfl) (by kernel_rfl) Y
theorem lk (w:World):(fun o=>((staticsOk (importedModules pr.main.body) (boot_heap w.params) (hp pr rc 111 688 w.params)&&namesBound pr (hp pr rc 111 688 w.params)&&gensDone ⟨hp pr rc 111 688 w.params,#[],{},1144,o⟩&&laidKept (boot_heap w.params) (hp pr rc 111 688 w.params)),openSeen q lo (importedModules pr.main.body) Xt true ⟨hp pr rc 111 688 w.params,#[],{},1144,o⟩,Hook.obs hk ⟨hp pr rc 111 688 w.params,#[],{},1144,o⟩))=fun _=>(true,openGood q lo,Hook.val hk w):=by kernel_rfl
theorem e1:opening pr=plainProg pr.main.scope.names:=by kernel_rfl
theorem e2:behindTheImports pr=pr.main.body:=by kernel_rfl
theorem e3 (s:Shared):fenceModules? pr s=some s:=by kernel_rfl
theorem pre (w:World)(o:OsState):topGo treeTable pr w 11 an 12 ⟨boot_heap w.params,a3L [],boot_drawn,boot_toks,o⟩ (topStub pr)=some ((sT pr rc w.params 0 15 187 o).abs,⟨denote treeTable (cE pr),cE pr,p0,B0⟩):=by kernel_rfl
theorem blk (w:World)(o:OsState):segRun treeTable pr w 11 an 1 1 (sT pr rc w.params 0 15 187 o).abs (blockOf (behindTheImports pr) (ev pr) (cE pr) p0 B0)=some (.next,(sT pr rc w.params 0 15 187 o).abs,cE pr,p0):=by kernel_rfl
theorem left:LeftO pr q lo Xt (Hook.obs hk) (Hook.val hk) 9156:=vp e1 (by kernel_rfl) e3 e2 wx pre blk ch (by kernel_rfl) lk
end H44

set_option maxHeartbeats 4000000
open PySem PySem.W PyProof.Rows
set_option maxRecDepth 100000 in
set_option maxHeartbeats 0 in
theorem PySem.Challenge.cw_broadrow_k44_rows_joined_flattened_and_c_holds : PySem.Challenge.rw_broadrow_k44_rows_joined_flattened_and_c.Holds := by
 w_on; o_law
 refine holds_open (q:=H44.q) (loose:=H44.lo) (Xt:=H44.Xt) (XP:=XL H44.q []) (Yf:=Hook.obs H44.hk) (Ya:=Hook.val H44.hk) (YP:=Hook.says H44.hk) (N:=9156) (d:=TP.drec (H44.tn 110)) (kwd:=[]) H44.left (Hook.of H44.hk) (Hook.keeps H44.hk) (fun s e=>xl_of s (a1d.mp e).1) XL.keeps (by kernel_rfl) (by kernel_rfl) (by kernel_rfl) (fun s e=>recFacts_of (a1d.mp e).2) (by rfl) (by first | assumption | decide +kernel) (by decide +kernel) ⟨rfl,rfl,rfl,rfl,rfl,by decide +kernel⟩ ?hw ?hc
 case hw=>w_witness2
 refine MR.walkM (l:=PySem.Challenge.rw_broadrow_k44_rows_joined_flattened_and_c) (k:=40) (C:=A44.Cl 40) (ix:=0) (K:=H44.K) A44.pure_law rfl (by kernel_rfl) ⟨rfl,by decide,by decide⟩ H44.kin ?F
 case F =>
  intro w mg fa h KX G hmg
  refine' A44.all_mk KX G hmg ?zr34 ?zr36 ?zr38 ?zr1 ?zr6 ?zr11 ?zr76 ?zr13 ?zr14 ?zr15 ?zr17 ?zr19 ?zr133 ?zr79 ?zr80 ?zr82 ?zr84 ?zr85 ?zr89 ?zr92 ?zr94 ?zr20 ?zr21 ?zr22 ?zr23 ?zr24 ?zr95 ?zr135 ?zr146 ?zr147 ?zr148 ?zr149 ?zr150 ?zr158 ?zr159 ?zr0 ?zg0 ?zq_DOINGS_wide ?zq_RECKONED ?zq_WORDS_wide ?ztx
  case zr23=>exact TP.rawd_mk (by kernel_rfl) (by kernel_rfl) (by kernel_rfl) (by kernel_rfl) (by kernel_rfl)
  case zg0=>exact ⟨TP.tkO (nsIn (H44.K w.params) mainGlobals "LONGEST"),by kernel_rfl⟩
  case zq_DOINGS_wide=>exact ⟨_,TP.tab_mk (by kernel_rfl) (by kernel_rfl) (by kernel_rfl) (by kernel_rfl),TP.nam_of (by kernel_rfl)⟩
  case zq_RECKONED=>exact ⟨_,TP.tab_mk (by kernel_rfl) (by kernel_rfl) (by kernel_rfl) (by kernel_rfl),by kernel_rfl⟩
  case zq_WORDS_wide=>exact ⟨_,TP.tab_mk (by kernel_rfl) (by kernel_rfl) (by kernel_rfl) (by kernel_rfl),by kernel_rfl,TP.nam_of (by kernel_rfl)⟩
  case ztx=>refine' ⟨?_,?_,?_,?_,?_,?_,?_,?_,?_,?_,?_,?_,?_,?_,?_,?_,?_,?_,?_,?_,?_,trivial⟩<;>kernel_rfl
  all_goals exact TP.raw_mk (by kernel_rfl) (by kernel_rfl) (by kernel_rfl) (by kernel_rfl)
