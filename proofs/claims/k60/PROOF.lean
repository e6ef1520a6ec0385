import PyProof.Rows.All
import Wide.All
import OpenK.AllK
import Wide.FinOn
import Lean
import PyProof.EqAt
import PyProof.EqKinds
import PyProof.TupleCall
import PySem.Challenge.RW_broadrow_k60_sure_trees
open PySem.W renaming Frag → a0a, kia_one → a0J, fnOf → a03, kitOne → a06, keepIn → a1r, nsIn → a1E, codeIn → a1I, methodObj → a1J, kitx_list → a1K, mg_of → a1R, cellsFrom_some → a1W, instObj → a1Z, OpenLaw → a13, lookIn → a2c, kitx_tuple → a2j, kitx_dict → a2n, plainGet → a2t, KeysLit → a2F, findIn → a2H, WalkO → a2L
open Nat renaming le_refl → a0b, lt_of_lt_of_le → a0l, le_trans → a0m, ne_of_lt → a0B, zero_le → a0U, lt_irrefl → a00, le_of_ble_eq_true → a1s, pow_le_pow_right → a1w, ne_of_gt → a1B, le_of_lt → a10, add_comm → a12, zero_add → a15, mul_le_mul_right → a2b, lt_of_le_of_lt → a2k, succ_mul → a2p, mul_comm → a2q, pow_succ → a2r, le_of_not_lt → a2v, succ_le_succ → a2x, mul_le_mul → a2I
open List renaming length_append → a0c, length_map → a0d, replicate → a0e, size_toArray → a0f, mem_append_right → a0g, mem_cons_self → a0o, mem_cons_of_mem → a0p, getElem?_eq_getElem → a0q, length_cons → a0t, length_singleton → a0u, getElem?_eq_some_iff → a0v, getElem?_map → a0x, getD_eq_getElem?_getD → a0y, getElem?_cons_succ → a0A, map_cons → a0C, length_replicate → a0F, filterMap_cons → a0G, mem_cons → a0H, replicate_succ → a0I, nil_append → a0K, mem_singleton → a0M, append_nil → a0N, mem_append → a0O, drop → a0P, getElem?_append_right → a0Q, getElem?_append_left → a0S, range → a0T, mem_append_left → a0V, mem_of_getElem? → a0W, append_assoc → a0X, all_eq_true → a0Y, cons_append → a0Z, take → a01, length_range → a02, map_map → a04, mem_range → a05, nodup_cons → a08, map_append → a09, all_cons → a1b, flatten_cons → a1c, getElem?_set_ne → a1e, length_drop → a1f, lookup_cons → a1g, map_nil → a1i, mem_map → a1j, getElem?_replicate → a1k, getElem?_cons_zero → a1l, length_eq_zero_iff → a1n, getElem?_set_self → a1o, sum_replicate_nat → a1p, take_of_length_le → a1q, length_take → a1u, not_mem_nil → a1v, map → a1y, length_set → a1z, length_flatten → a1A, map_replicate → a1C, set_cons_zero → a1G, set_cons_succ → a1H, length → a1O, any_cons → a1Q, getElem_mem → a1U, drop_length → a1V, of_mem_zip → a11, getElem_of_mem → a2f, length_pos_iff → a2g, mem_filterMap → a2h, any_eq_true → a2w, mem_filter → a2C, foldl_cons → a2D, length_nil → a2G, foldl → a2J, take_nil → a2M, drop_nil → a2N
open Bool renaming false_ne_true → a0h, and_eq_true → a0i, and_self → a0j, and_eq_true_iff → a0L, true_or → a1t, or_eq_true → a14, or_eq_false_iff → a2a, bne_false → a2d, or_true → a2s, eq_iff_iff → a2E, and_true → a2Q, false_or → a2R
open Int renaming reduceBEq → a0k, reduceLT → a0s, fmod_eq_emod_of_nonneg → a1d, emod_lt_of_pos → a1F, emod_nonneg → a16
open Or renaming inr → a0n, inl → a0r
open Option.some renaming inj → a0w, injEq → a1M
open True renaming intro → a0z
open Array renaming length_toList → a0D, all_eq_true' → a1m, toArray_toList → a19, find?_toList → a2i, mk → a2P, toList → a2U
open PyProof.Rows renaming slot_tuple_getitem → a0E, callWith_type1 → a07, boot_list → a1Y, callWith_builtin1 → a2o, boot_isinstance → a2B, boot_tuple → a2O, boot_bool → a2S, eq_dataH → a2V, ne_dataH → a2W, boot_int → a2Y
open PySem renaming mem_of_lookup → a0R, call → a2K, Within → a2T
open False renaming elim → a1a
open Option renaming isSome_iff_exists → a1h, toList_none → a1D, bind_eq_some_iff → a1S, getD_none → a2u, bind_some → a2y
open Prod renaming snd → a1x, fst → a18
open PySem.F renaming args_tuple_add_2 → a1L, entry_tuple_add → a1P, slot_tuple_add → a1X
open Ne renaming symm → a1N
open BEq renaming rfl → a1T
open Classical renaming choose_spec → a17, choose → a2z, em → a2X
open Prod.mk renaming inj → a2e
open Sum renaming inl → a2l, inr → a2m
open And renaming left → a2A
open List.Pairwise renaming nil → a2Z
set_option genSizeOf false
set_option genInjectivity false
set_option Elab.async false
set_option linter.all false
set_option maxRecDepth 100000
namespace L2
open PySem PySem.Spec PyProof.Rows
noncomputable abbrev Key:=Sum Int Str
noncomputable def rj:Key->Value->Bool
 | .inl k,v=>Value.isInt k v
 | .inr x,v=>Value.isStrOf x v
noncomputable def zM (w:World):Key->Int
 | .inl k=>hashInt k
 | .inr x=>hashStr w x
theorem aK:∀ {k:Key} {v:Value},rj k v=true->(∃ i t,k=a2l i/\v=Value.int i t)\/(∃ x t,k=a2m x/\v=Value.str x t)
 | .inl i,v,h=>by
  obtain ⟨t,e⟩:=Value.isInt_shape (k:=i) (v:=v) h
  exact .inl ⟨i,t,rfl,e⟩
 | .inr x,v,h=>by
  obtain ⟨t,e⟩:=Value.isStrOf_shape (x:=x) (v:=v) h
  exact .inr ⟨x,t,rfl,e⟩
theorem tY (a b:Int):decide ((a2l a:Key)=a2l b)=(a==b):=by
 by_cases e:a=b
 ·subst e; simp
 ·have h:¬ (a2l a:Key)=a2l b:=fun q=>e (Sum.inl.inj q)
  rw [decide_eq_false h]
  exact (beq_eq_false_iff_ne.mpr e).symm
theorem uX (a b:Str):decide ((a2m a:Key)=a2m b)=decide (a=b):=by
 by_cases e:a=b
 ·subst e; simp
 ·have h:¬ (a2m a:Key)=a2m b:=fun q=>e (Sum.inr.inj q)
  rw [decide_eq_false h,decide_eq_false e]
theorem wx (a:Int)(b:Str):decide ((a2l a:Key)=a2m b)=false:=decide_eq_false (fun q=>nomatch q)
theorem vA (a:Str)(b:Int):decide ((a2m a:Key)=a2l b)=false:=decide_eq_false (fun q=>nomatch q)
noncomputable def gu (prog:Program)(w:World):PySem.KeyKind prog w Key where
 is:=rj
 hash:=zM w
 inj:=fun v a b ha hb=>by
  rcases aK ha with ⟨i,t,rfl,rfl⟩ | ⟨x,t,rfl,rfl⟩
  ·rcases aK hb with ⟨j,u,rfl,e⟩ | ⟨y,u,rfl,e⟩
   ·injection e with e1 _; rw [e1]
   ·exact nomatch e
  ·rcases aK hb with ⟨j,u,rfl,e⟩ | ⟨y,u,rfl,e⟩
   ·exact nomatch e
   ·injection e with e1 _; rw [e1]
 byValue:=fun k v h=>by
  rcases aK h with ⟨i,t,rfl,rfl⟩ | ⟨x,t,rfl,rfl⟩<;>rfl
 pyHash:=fun hv h=>by
  rcases aK hv with ⟨i,t,rfl,rfl⟩ | ⟨x,t,rfl,rfl⟩
  ·exact wpAny_pyHash_int h
  ·exact wpAny_pyHash_str h
 eqBool:=fun hu hv h=>by
  rcases aK hu with ⟨i,t,rfl,rfl⟩ | ⟨x,t,rfl,rfl⟩
  ·rcases aK hv with ⟨j,u,rfl,rfl⟩ | ⟨y,u,rfl,rfl⟩
   ·rw [tY] at h; exact wpAny_eqBool_int h
   ·rw [wx] at h; exact SeqAt.EqAt.int_str i t y u _ _ _ _ h
  ·rcases aK hv with ⟨j,u,rfl,rfl⟩ | ⟨y,u,rfl,rfl⟩
   ·rw [vA] at h; exact SeqAt.EqAt.str_int x t j u _ _ _ _ h
   ·rw [uX] at h; exact wpAny_eqBool_str h
 «strs»:=fun k x t v h=>by
  rcases aK h with ⟨i,u,rfl,e⟩ | ⟨y,u,rfl,e⟩
  ·exact nomatch e
  ·injection e with e1 _
   subst e1
   cases v<;>rfl
end L2
namespace L2
open PySem PySem.Spec PyProof.Rows
set_option genInjectivity true
inductive V where
 | non | bl (b:Bool) | int (i:Int) | str (x:Str) | byt (b:Array UInt8) | flt (b:UInt64) | ref (a:Addr) | ty (n:String)
 deriving DecidableEq
set_option genInjectivity false
noncomputable def RelV:V->Value->Prop
 | .non,u=>u=Value.none
 | .bl b,u=>u=Value.bool b
 | .int i,u=>∃ t,u=Value.int i t
 | .str x,u=>∃ t,u=Value.str x t
 | .byt b,u=>∃ t,u=Value.bytes b t
 | .flt b,u=>∃ t,u=Value.float b t
 | .ref a,u=>u=Value.ref a
 | .ty n,u=>u=Value.type n
noncomputable abbrev Vals:List V->List Value->Prop:=Paired RelV
theorem Vals.length {xs:List V}{us:List Value}(r:Vals xs us):xs.length=us.length:=Paired.length r
theorem Vals.get:∀ {xs:List V} {us:List Value} {i:Nat} {x:V},Vals xs us->xs[i]?=some x->∃ u,us[i]?=some u/\RelV x u
 | _,_,_,_,.nil,e=>by simp at e
 | _,_,0,_,.cons r _,e=>by simp at e; subst e; exact ⟨_,rfl,r⟩
 | _,_,i+1,x,.cons _ t,e=>by
  obtain ⟨u,h1,h2⟩:=Vals.get (i:=i) (x:=x) t (by simpa using e)
  exact ⟨u,by simpa using h1,h2⟩
theorem Vals.set {x:V}{u:Value}(r:RelV x u):∀ {xs:List V} {us:List Value} (i:Nat),Vals xs us->Vals (xs.set i x) (us.set i u)
 | _,_,_,.nil=>.nil
 | _,_,0,.cons _ t=>.cons r t
 | _,_,i+1,.cons q t=>.cons q (Vals.set r i t)
theorem Vals.append:∀ {xs ys:List V} {us ws:List Value},Vals xs us->Vals ys ws->Vals (xs++ys) (us++ws)
 | _,_,_,_,.nil,s=>s
 | _,_,_,_,.cons r t,s=>.cons r (Vals.append t s)
theorem Vals.take:∀ {xs:List V} {us:List Value} (n:Nat),Vals xs us->Vals (xs.take n) (us.take n)
 | _,_,0,_=>.nil
 | _,_,_+1,.nil=>.nil
 | _,_,n+1,.cons r t=>.cons r (Vals.take n t)
theorem Vals.drop:∀ {xs:List V} {us:List Value} (n:Nat),Vals xs us->Vals (xs.drop n) (us.drop n)
 | _,_,0,r=>r
 | _,_,_+1,.nil=>.nil
 | _,_,n+1,.cons _ t=>Vals.drop n t
noncomputable def RelO:Option V->Option Value->Prop
 | some v,some u=>RelV v u
 | none,none=>True
 | _,_=>False
noncomputable def KV {κ:Type}:List (κ×V)->List (κ×Value)->Prop:=Paired fun (p:κ×V) (q:κ×Value)=>p.1=q.1/\RelV p.2 q.2
noncomputable def kV:Key->V
 | .inl i=>.int i
 | .inr x=>.str x
inductive HO where
 | lst (xs:List V)
 | tup (xs:List V)
 | dK (kvs:List (Key×V)) | dT (kvs:List (List Key×V))
 | set (S:Int->Bool) (n:Nat)
 | ins (C dx:Addr) (fs:List (Str×V))
 | own (x:Addr)
 | xd (fs:List (Str×V))
 | met (f x:Addr)
 | rng (lo hi:Int)
 | frz (o:Obj) (u:HO)
 | tbl (ps:Array Value)
 | ext (φ:Heap->Prop)
noncomputable abbrev Hp:=Addr->Option HO
noncomputable def upd (H:Hp)(a:Addr)(o:HO):Hp:=fun b=>if b=a then some o else H b
theorem aM {H:Hp}{a:Addr}{o:HO}:upd H a o a=some o:=by unfold upd; rw [if_pos rfl]
theorem ao {H:Hp}{a b:Addr}{o:HO}(h:b≠a):upd H a o b=H b:=by unfold upd; rw [if_neg h]
theorem aJ {H:Hp}{a b:Addr}{o:HO}(h:H a=some o)(h':H b=none):a≠b:=by
 intro e; subst e; rw [h] at h'; cases h'
section
variable (P:Program)(w:World)
noncomputable def ObjOk (H:Hp)(h:Heap)(a:Addr):HO->Prop
 | .lst xs=>xs.length<=sizeLine/\∃ (its:List Value) (n:Nat),Vals xs its/\h.get? a=some { cls:=.type "list",data:=.seq its.toArray n }
 | .tup xs=>xs.length<=sizeLine/\∃ its:List Value,Vals xs its/\IsTup h a its.toArray
 | .dK kvs=>kvs.length<=sizeLine/\(a==sysModules)=false/\∃ vs,KV kvs vs/\h.DictOf (gu P w) a vs
 | .dT kvs=>kvs.length<=sizeLine/\(a==sysModules)=false/\∃ xs:List (List Key×Addr×Value),
   Paired (fun (p:List Key×V) (q:List Key×Addr×Value)=>p.1=q.1/\H q.2.1=some (.tup (p.1.map kV))/\RelV p.2 q.2.2) kvs xs /\
   ∃ o es ep,h.get? a=some o/\o.ExactDict/\o.data=.dict es ep/\es.toList=xs.map (entryOfKey (tupleKind (gu P w)))/\(xs.map (·.1)).Nodup
 | .set S n=>h.SetOf (intKind P w) a S n
 | .ins C dx fs=>H dx=some (.own a)/\fs.length<=1000/\dx≠a/\h.get? a=some (a1Z C dx) /\
   ∃ mA,h.Ns1 dx mA/\(∀ f,RelO (fs.lookup f) (mA f))/\a2T mA (fs.map (·.1))
 | .own _=>∃ o,h.get? a=some o
 | .xd fs=>∃ mA,h.Ns1 a mA/\∀ f,RelO (fs.lookup f) (mA f)
 | .rng lo hi=>∃ t u v,h.get? a=some { cls:=.type "range",data:=.fields #[.int lo t,.int hi u,.int 1 v] }
 | .frz o u=>h.get? a=some o/\ObjOk H h a u
 | .tbl ps=>h.get? a=some { cls:=.none,data:=.fields ps }
 | .met f x=>h.get? a=some (a1J (.ref f) (.ref x))
 | .ext φ=>φ h/\(∃ o,h.get? a=some o)/\∀ h1 h2:Heap,φ h1->(∀ o,h1.get? a=some o->h2.get? a=some o)->φ h2
noncomputable def HOk (H:Hp)(h:Heap):Prop:=∀ a o,H a=some o->ObjOk P w H h a o
end
section
variable {P:Program}{w:World}{H H':Hp}{h h':Heap}{a:Addr}{o:HO}
theorem ObjOk.lt (x:ObjOk P w H h a o):a < h.objs.size:=by
 cases o with
 | lst xs=>obtain ⟨_,_,_,_,e⟩:=x; exact Heap.lt_size e
 | tup xs=>obtain ⟨_,_,_,p⟩:=x; exact p.lt
 | dK kvs=>obtain ⟨_,_,_,_,o,_,_,e,_⟩:=x; exact Heap.lt_size e
 | dT kvs=>obtain ⟨_,_,_,_,o,_,_,e,_⟩:=x; exact Heap.lt_size e
 | set S n=>obtain ⟨o,_,_,_,e,_⟩:=x; exact Heap.lt_size e
 | ins C dx fs=>obtain ⟨_,_,_,e,_⟩:=x; exact Heap.lt_size e
 | own y=>obtain ⟨_,e⟩:=x; exact Heap.lt_size e
 | xd fs=>obtain ⟨_,⟨_,_,_,e,_⟩,_⟩:=x; exact Heap.lt_size e
 | rng lo hi=>obtain ⟨_,_,_,e⟩:=x; exact Heap.lt_size e
 | frz ob u=>obtain ⟨e,_⟩:=x; exact Heap.lt_size e
 | tbl ps=>exact Heap.lt_size (show h.get? a=some _ from x)
 | met f y=>exact Heap.lt_size (show h.get? a=some _ from x)
 | ext φ=>obtain ⟨_,⟨_,e⟩,_⟩:=x; exact Heap.lt_size e
theorem Paired.mapP {α β:Type}{F G:α->β->Prop}:∀ {l₁:List α} {l₂:List β},Paired F l₁ l₂->(∀ a b,F a b->G a b)->Paired G l₁ l₂
 | _,_,.nil,_=>.nil
 | _,_,.cons r t,f=>.cons (f _ _ r) (Paired.mapP t f)
theorem ObjOk.stay (x:ObjOk P w H h a o)(k:∀ b u,(b=a\/H b=some (.own a))->h.get? b=some u->h'.get? b=some u)
  (ho:∀ b,H b=some (.own a)->H' b=some (.own a)) (ht:∀ b xs,H b=some (.tup xs)->H' b=some (.tup xs)):ObjOk P w H' h' a o:=by
 induction o with
 | lst xs=>obtain ⟨z,its,n,r,e⟩:=x; exact ⟨z,its,n,r,k _ _ (.inl rfl) e⟩
 | tup xs=>obtain ⟨z,its,r,ob,e,c⟩:=x; exact ⟨z,its,r,ob,k _ _ (.inl rfl) e,c⟩
 | dK kvs=>obtain ⟨z,y,vs,r,ob,es,ep,e,c⟩:=x; exact ⟨z,y,vs,r,ob,es,ep,k _ _ (.inl rfl) e,c⟩
 | dT kvs =>
  obtain ⟨z,y,xs,r,ob,es,ep,e,c⟩:=x
  exact ⟨z,y,xs,Paired.mapP r fun p q z=>⟨z.1,ht _ _ z.2.1,z.2.2⟩,ob,es,ep,k _ _ (.inl rfl) e,c⟩
 | set S n=>obtain ⟨ob,es,ep,t,e,c⟩:=x; exact ⟨ob,es,ep,t,k _ _ (.inl rfl) e,c⟩
 | ins C dx fs =>
  obtain ⟨d,z,ne,e,mA,⟨od,es,ep,e2,c⟩,r⟩:=x
  exact ⟨ho _ d,z,ne,k _ _ (.inl rfl) e,mA,⟨od,es,ep,k _ _ (.inr d) e2,c⟩,r⟩
 | own y=>obtain ⟨ob,e⟩:=x; exact ⟨ob,k _ _ (.inl rfl) e⟩
 | xd fs=>obtain ⟨mA,⟨od,es,ep,e,c⟩,r⟩:=x; exact ⟨mA,⟨od,es,ep,k _ _ (.inl rfl) e,c⟩,r⟩
 | rng lo hi=>obtain ⟨t,u,v,e⟩:=x; exact ⟨t,u,v,k _ _ (.inl rfl) e⟩
 | frz ob u ih=>obtain ⟨e,q⟩:=x; exact ⟨k _ _ (.inl rfl) e,ih q⟩
 | tbl ps =>
  have e:h.get? a=some { cls:=.none,data:=.fields ps }:=x
  show h'.get? a=some { cls:=.none,data:=.fields ps }
  exact k a _ (.inl rfl) e
 | met f y =>
  have e:h.get? a=some (a1J (.ref f) (.ref y)):=x
  show h'.get? a=some (a1J (.ref f) (.ref y))
  exact k a _ (.inl rfl) e
 | ext φ=>obtain ⟨p,⟨o,e⟩,st⟩:=x; exact ⟨st _ _ p fun o q=>k _ _ (.inl rfl) q,⟨o,k _ _ (.inl rfl) e⟩,st⟩
theorem HOk.lt (x:HOk P w H h)(e:H a=some o):a < h.objs.size:=(x a o e).lt
theorem HOk.fresh (x:HOk P w H h)(e:h.objs.size<=a):H a=none:=by
 cases q:H a with
 | none=>rfl
 | some u=>exact absurd (a0l (x.lt q) e) (a00 _)
theorem HOk.kept (x:HOk P w H h)(k:∀ b u,h.get? b=some u->h'.get? b=some u):HOk P w H h':=fun a o e =>
 (x a o e).stay (fun b u _ q=>k b u q) (fun _ q=>q) fun _ _ q=>q
theorem HOk.laid (x:HOk P w H h)(k:∀ b u,h.get? b=some u->h'.get? b=some u)(hp:h.objs.size<=a)(new:ObjOk P w (upd H a o) h' a o):HOk P w (upd H a o) h':=fun b u e=>by
 have hn:=x.fresh hp
 by_cases hb:b=a
 ·subst hb; rw [aM] at e; cases e; exact new
 ·rw [ao hb] at e
  exact (x b u e).stay (fun c v _ q=>k c v q) (fun c q=>by rw [ao (aJ q hn)]; exact q) fun c xs q=>by rw [ao (aJ q hn)]; exact q
end
noncomputable def Rd (H:Hp)(a:Addr)(u:HO):Prop:=H a=some u\/∃ o,H a=some (.frz o u)
theorem Rd.ok {P:Program}{w:World}{H:Hp}{h:Heap}{a:Addr}{u:HO}(r:Rd H a u)(x:HOk P w H h):ObjOk P w H h a u:=by
 rcases r with r | ⟨o,r⟩
 ·exact x a u r
 ·obtain ⟨_,q⟩:=x a _ r
  exact q
noncomputable def Mut:Option HO->Prop
 | some (.lst _)=>True
 | some (.dK _)=>True
 | some (.dT _)=>True
 | some (.set _ _)=>True
 | some (.ins _ _ _)=>True
 | some (.ext _)=>True
 | _=>False
section
variable {P:Program}{w:World}{H:Hp}{h h':Heap}{x e:Addr}{o':HO}
theorem HOk.write (ok:HOk P w H h)(mu:Mut (H x))(he:e=x\/H e=some (.own x))(k:∀ b u,b≠e->h.get? b=some u->h'.get? b=some u)(heo:∃ u,h'.get? e=some u)
  (new:ObjOk P w (upd H x o') h' x o'):HOk P w (upd H x o') h':=fun b u q=>by
 have nown:∀ c y,H c=some (.own y)->c≠x:=fun c y r z=>by subst z; rw [r] at mu; exact mu
 have ntup:∀ c xs,H c=some (.tup xs)->c≠x:=fun c xs r z=>by subst z; rw [r] at mu; exact mu
 by_cases hb:b=x
 ·subst hb; rw [aM] at q; cases q; exact new
 ·rw [ao hb] at q
  by_cases hbe:b=e
  ·have q':H b=some (.own x):=by
    rcases he with z | z
    ·exact absurd (hbe.trans z) hb
    ·rw [hbe]; exact z
   rw [q] at q'; cases q'
   obtain ⟨v,hv⟩:=heo
   exact ⟨v,by rw [hbe]; exact hv⟩
  ·refine (ok b u q).stay (fun c v hc r=>k c v ?_ r) (fun c r=>by rw [ao (nown c b r)]; exact r) fun c xs r=>by rw [ao (ntup c xs r)]; exact r
   rcases hc with rfl | hc
   ·exact hbe
   ·rintro rfl
    rcases he with z | z
    ·exact nown c b hc z
    ·rw [hc] at z; cases z; exact hb rfl
end
structure Un (fs ex:List Addr)(H H':Hp)(h h':Heap):Prop where
 keep:∀ b o,h.get? b=some o->H b=none->b ∉ fs->b ∉ ex->h'.get? b=some o
 slot:∀ b o,h.get? b=some o->H b=none->b∈fs->b ∉ ex->∃ sl,h'.get? b=some { o with slots:=sl }
 free:∀ b o,h.get? b=some o->H b=none->b ∉ ex->H' b=none
 there:∀ b o,h.get? b=some o->b ∉ ex->∃ o',h'.get? b=some o'
 tups:∀ b xs,H b=some (.tup xs)->H' b=some (.tup xs)
 frzs:∀ b o u,H b=some (.frz o u)->H' b=some (.frz o u)
 tbls:∀ b ps,H b=some (.tbl ps)->∃ more,H' b=some (.tbl (ps++more))
section
variable {fs fs' ex ex':List Addr}{H H1 H2:Hp}{h h1 h2 h':Heap}{a x e:Addr}{o:HO}
theorem Un.any (u:Un fs ex H H1 h h1){b:Addr}{ob:Obj}(q:h.get? b=some ob)(n:H b=none)(hx:b ∉ ex):∃ sl,h1.get? b=some { ob with slots:=sl }:=by
 by_cases hb:b∈fs
 ·exact u.slot b ob q n hb hx
 ·exact ⟨ob.slots,u.keep b ob q n hb hx⟩
theorem Un.kept (k:∀ b u,h.get? b=some u->h'.get? b=some u):Un fs ex H H h h' :=
 ⟨fun b ob q _ _ _=>k b ob q,fun b ob q _ _ _=>⟨ob.slots,k b ob q⟩,fun _ _ _ n _=>n,fun b ob q _=>⟨ob,k b ob q⟩,fun _ _ q=>q,fun _ _ _ q=>q,fun _ ps q=>⟨#[],by rw [q]; simp⟩⟩
theorem Un.refl:Un fs ex H H h h:=Un.kept fun _ _ q=>q
theorem Un.laid (k:∀ b u,h.get? b=some u->h'.get? b=some u)(hp:h.objs.size<=a)(hn:H a=none):Un fs ex H (upd H a o) h h' where
 keep:=fun b u q _ _ _=>k b u q
 slot:=fun b u q _ _ _=>⟨u.slots,k b u q⟩
 free:=fun b u q n _=>by rw [ao (a0B (a0l (Heap.lt_size q) hp))]; exact n
 there:=fun b u q _=>⟨u,k b u q⟩
 tups:=fun b xs q=>by rw [ao (aJ q hn)]; exact q
 frzs:=fun b u xs q=>by rw [ao (aJ q hn)]; exact q
 tbls:=fun b ps q=>⟨#[],by rw [ao (aJ q hn),q]; simp⟩
theorem Un.write (mu:Mut (H x))(he:e=x\/H e=some (.own x))(k:∀ b u,b≠e->h.get? b=some u->h'.get? b=some u)(heo:∃ u,h'.get? e=some u):Un fs ex H (upd H x o) h h':=by
 have hx:∀ b,H b=none->b≠x:=fun b n z=>by subst z; rw [n] at mu; exact mu
 have hb:∀ b,H b=none->b≠e:=fun b n z=>by
  subst z
  rcases he with r | r
  ·exact hx b n r
  ·rw [n] at r; cases r
 have hm:∀ b u,H b=some u->¬ Mut (some u)->b≠x:=fun b u q nm z=>by subst z; rw [q] at mu; exact nm mu
 refine ⟨fun b u q n _ _=>k b u (hb b n) q,fun b u q n _ _=>⟨u.slots,k b u (hb b n) q⟩,fun b u q n _=>by rw [ao (hx b n)]; exact n,fun b u q _=>?_,
  fun b xs q=>by rw [ao (hm b _ q fun z=>z)]; exact q,fun b u xs q=>by rw [ao (hm b _ q fun z=>z)]; exact q,fun b ps q=>⟨#[],by rw [ao (hm b _ q fun z=>z),q]; simp⟩⟩
 by_cases hbe:b=e
 ·subst hbe; exact heo
 ·exact ⟨u,k b u hbe q⟩
end
noncomputable def trk (h:Heap)(H:Hp):List Addr:=(a0T h.objs.size).filter fun a=>(H a).isSome
noncomputable def gb (h:Heap)(H:Hp):Heap:=PySem.W.hideAll h (trk h H)
theorem kc (h:Heap)(H:Hp):(gb h H).objs.size=h.objs.size:=PySem.W.hideAll_size _ _
theorem mz {h:Heap}{H:Hp}{b:Addr}{o:Obj}(e:h.get? b=some o)(n:H b=none):(gb h H).get? b=some o :=
 PySem.W.hideAll_get _ e fun hm=>by
  have q:(H b).isSome=true:=(a2C.mp hm).2
  rw [n] at q; simp at q
theorem oK {h:Heap}{H:Hp}{b:Addr}{o:Obj}(e:(gb h H).get? b=some o):h.get? b=some o/\H b=none:=by
 have e':h.get? b=some o:=PySem.W.of_hideAll (trk h H) e
 refine ⟨e',?_⟩
 cases q:H b with
 | none=>rfl
 | some x =>
  have hm:b∈trk h H:=a2C.mpr ⟨a05.mpr (Heap.lt_size e'),by simp [q]⟩
  have z:(gb h H).get? b=none:=PySem.W.hideAll_none (trk h H) hm
  rw [z] at e; cases e
noncomputable def pX (g h:Heap)(L:Addr):List (Addr×Obj):=(a0T h.objs.size).filterMap fun a=>if a=L\/(g.get? a).isSome=true then none else (h.get? a).map fun o=>(a,o)
noncomputable def rest (g h:Heap)(L d:Addr):List (Addr×Obj):=(pX g h L).filter fun p=>decide (p.1≠d)
end L2
namespace L2
open PySem PySem.Spec PyProof.Rows
structure Mod (K:a0a)(mg:Str->Option Value)(base:Heap):Prop where
 kin:K.In base
 glob:base.Ns mainGlobals mg
 blt:∃ mb,base.Ns builtinsNs mb/\∀ x:Str,x≠"__name__"->mb x=bootBuiltins x
 nolimit:base.NoLimit
structure Cx where
 prog:Program
 w:World
 K:a0a
 mg:Str->Option Value
 base:Heap
 A:Around
 N:List Str
 s₀:Shared
 H₀:Hp
 env:Env
 outer:List Env
 stack:List Env
 ex:List Addr
 fn:Str->Bool
 calm:Bool
 pn:List (Addr×Obj)
 xe:Value->Shared->Prop
noncomputable def frs (l:List Env):List Addr:=l.filterMap (·.frame)
noncomputable abbrev Cx.fs (X:Cx):List Addr:=frs X.outer
noncomputable def Vis (sc:Scope)(x:Str):Prop:=sc.names.lookup x=some .local\/sc.names.lookup x=some .cell\/sc.names.lookup x=some .free
noncomputable def Loc (sc:Scope)(x:Str):Prop:=sc.names.lookup x=some .local\/sc.names.lookup x=some .cell
noncomputable def Al (env:Env)(h:Heap)(m:Str->Option Value)(x:Str)(u:Value):Prop :=
 (env.kindOf x=some .local/\m x=some u)\/((env.kindOf x=some .cell\/env.kindOf x=some .free)/\∃ c,env.cells.lookup x=some c/\h.IsCell c (some u))
structure Cx.Ok (X:Cx):Prop where
 mod:Mod X.K X.mg X.base
 kind:X.env.scope.kind=.function
 glob:X.env.globals=mainGlobals
 blt:X.env.builtins=builtinsNs
 above:X.s₀.heap.objs.size<=X.env.locals
 inj:∀ x y c,X.env.cells.lookup x=some c->X.env.cells.lookup y=some c->x=y
 has:∀ x,(X.env.kindOf x=some .cell\/X.env.kindOf x=some .free)->∃ c,X.env.cells.lookup x=some c
 cab:∀ x c,X.fn x=true->X.env.cells.lookup x=some c->X.s₀.heap.objs.size<=c
 hd:X.calm=true->X.A.handled=none
 frames:X.A.frames=some X.stack
 stk:X.stack=X.outer\/(X.stack=X.env::X.outer/\X.env.frame=some X.env.locals)
 exf:∀ b∈X.ex,b≠X.env.locals/\∀ x c,X.env.cells.lookup x=some c->c≠b
 bs:∀ b o,X.base.get? b=some o->X.s₀.heap.get? b=some o/\X.H₀ b=none
 bsz:X.base.objs.size<=X.s₀.heap.objs.size
 noex:∀ b o,X.base.get? b=some o->b ∉ X.ex
 exfs:∀ b∈X.ex,b ∉ X.fs
 funs:X.s₀.heap.FunFrames X.base X.outer
 frf:∀ b∈X.fs,X.H₀ b=none
structure Inv (X:Cx)(pins:List (Addr×Obj))(σ:List (Option V))(H:Hp)(s:Shared):Prop where
 ok:X.Ok
 os:s.os=X.s₀.os
 bare:AllBare s.gens
 base:Un X.fs X.ex X.H₀ H X.s₀.heap s.heap
 loc:∃ m,s.heap.Ns X.env.locals m/\∀ (i:Nat) (x:Str) (v:V),X.N[i]?=some x->σ[i]?=some (some v)->Vis X.env.scope x->∃ u,RelV v u/\Al X.env s.heap m x u
 cell:∀ x c,X.env.cells.lookup x=some c->∃ v,s.heap.IsCell c v
 free:H X.env.locals=none
 freeC:∀ x c,X.env.cells.lookup x=some c->H c=none
 pin:∀ p∈X.pn++pins,s.heap.get? p.1=some p.2/\H p.1=none/\p.1≠X.env.locals/\p.1 ∉ X.fs/\∀ v,p.2.data≠.cell v
 hok:HOk X.prog X.w H s.heap
 len:σ.length=X.N.length
section
variable {X:Cx}{pins:List (Addr×Obj)}{σ:List (Option V)}{H H':Hp}{s:Shared}{h':Heap}
theorem Cx.Ok.nofr (ok:X.Ok){b:Addr}{o:Obj}(e:X.base.get? b=some o):b ∉ X.fs:=fun hb=>by
 have:=(ok.funs.mem hb).1
 rw [e] at this; cases this
theorem Inv.bs (I:Inv X pins σ H s):∀ b o,X.base.get? b=some o->s.heap.get? b=some o/\H b=none:=fun b o e =>
 ⟨I.base.keep b o (I.ok.bs b o e).1 (I.ok.bs b o e).2 (I.ok.nofr e) (I.ok.noex b o e),I.base.free b o (I.ok.bs b o e).1 (I.ok.bs b o e).2 (I.ok.noex b o e)⟩
theorem Inv.bk (I:Inv X pins σ H s):∀ b o,X.base.get? b=some o->s.heap.get? b=some o:=fun b o e=>(I.bs b o e).1
theorem Inv.mod (I:Inv X pins σ H s):Mod X.K X.mg X.base:=I.ok.mod
theorem Inv.kIn (I:Inv X pins σ H s):X.K.In s.heap:=I.ok.mod.kin.keeps I.bk
theorem Inv.fr (I:Inv X pins σ H s):∃ m,Fr X.base X.env.locals s.heap m :=
 let ⟨m,hn,_⟩:=I.loc
 ⟨m,hn,I.bk,a0m I.ok.bsz I.ok.above⟩
theorem Inv.lt (I:Inv X pins σ H s):X.env.locals < s.heap.objs.size:=let ⟨_,hn,_⟩:=I.loc; hn.lt
theorem Inv.sz (I:Inv X pins σ H s):X.s₀.heap.objs.size<=s.heap.objs.size:=a0m I.ok.above (a10 I.lt)
theorem Inv.nofs (I:Inv X pins σ H s){a:Addr}(h:s.heap.objs.size<=a):a ∉ X.fs:=fun hb=>by
 obtain ⟨_,o,ho,_⟩:=I.ok.funs.mem hb
 exact absurd (a0l (Heap.lt_size ho) (a0m I.sz h)) (a00 _)
theorem Inv.cne (I:Inv X pins σ H s):∀ x c,X.env.cells.lookup x=some c->c≠X.env.locals:=fun x c e z=>by
 obtain ⟨v,o,ho,hd⟩:=I.cell x c e
 obtain ⟨m,⟨o',es,ep,ho',hd',_⟩,_⟩:=I.loc
 rw [z,ho'] at ho; cases ho; rw [hd'] at hd; cases hd
theorem Inv.funs (I:Inv X pins σ H s):s.heap.FunFrames X.base X.outer:=by
 have all:∀ (l:List Env),(∀ b∈frs l,b∈X.fs)->X.s₀.heap.FunFrames X.base l->s.heap.FunFrames X.base l:=by
  intro l
  induction l with
  | nil=>intro _ _; trivial
  | cons env r ih =>
   intro hs hl
   obtain ⟨hk,⟨L,o,hf,hn,ho,hd⟩,hr⟩:=hl
   have hL:L∈X.fs:=hs L (by unfold frs; rw [a0G,hf]; exact a0o)
   obtain ⟨sl,e⟩:=I.base.slot L o ho (I.ok.frf L hL) hL fun z=>I.ok.exfs L z hL
   exact ⟨hk,⟨L,_,hf,hn,e,hd⟩,ih (fun b hb=>hs b (by unfold frs; rw [a0G,hf]; exact a0p _ hb)) hr⟩
 exact all X.outer (fun _ hb=>hb) I.ok.funs
theorem Inv.stack (I:Inv X pins σ H s):s.heap.FunFrames X.base X.stack:=by
 rcases I.ok.stk with e | ⟨e,hf⟩
 ·rw [e]; exact I.funs
 ·rw [e]
  obtain ⟨m,hn,_⟩:=I.loc
  refine .cons (by rw [I.ok.kind]; decide) hf hn ?_ I.funs
  exact Heap.get?_none_of_le (a0m I.ok.bsz I.ok.above)
theorem Inv.stkSub (I:Inv X pins σ H s):∀ b∈frs X.stack,b∈X.env.locals::X.fs:=fun b hb=>by
 rcases I.ok.stk with e | ⟨e,hf⟩
 ·rw [e] at hb; exact a0p _ hb
 ·rw [e] at hb
  unfold frs at hb
  rw [a0G,hf] at hb
  exact hb
theorem Inv.stkFree (I:Inv X pins σ H s):∀ b∈frs X.stack,H b=none:=fun b hb=>by
 rcases a0H.mp (I.stkSub b hb) with e | hb
 ·rw [e]; exact I.free
 ·obtain ⟨_,o,ho,_⟩:=I.ok.funs.mem hb
  exact I.base.free b o ho (I.ok.frf b hb) fun z=>I.ok.exfs b z hb
theorem Inv.step {g':Array GenState}{t':Nat}{d':Drawn}{ch:List Addr}(I:Inv X pins σ H s)
  (hch:∀ b∈ch,(b∈X.ex\/X.s₀.heap.objs.size<=b)/\b≠X.env.locals/\(∀ x c,X.env.cells.lookup x=some c->c≠b)/\∀ p∈X.pn++pins,p.1≠b)
  (keep:∀ b o,b≠X.env.locals->b ∉ X.fs->b ∉ ch->s.heap.get? b=some o->H b=none->h'.get? b=some o)
  (slot:∀ b o,b≠X.env.locals->b∈X.fs->b ∉ ch->s.heap.get? b=some o->H b=none->∃ sl,h'.get? b=some { o with slots:=sl }) (free:∀ b o,b ∉ ch->s.heap.get? b=some o->H b=none->H' b=none)
  (there:∀ b o,b ∉ ch->s.heap.get? b=some o->∃ o',h'.get? b=some o')
  (tups:∀ b xs,H b=some (.tup xs)->H' b=some (.tup xs)) (frzs:∀ b o u,H b=some (.frz o u)->H' b=some (.frz o u)) (tbls:∀ b ps,H b=some (.tbl ps)->∃ more,H' b=some (.tbl (ps++more)))
  (ns:∀ m,s.heap.Ns X.env.locals m->h'.Ns X.env.locals m) (hok:HOk X.prog X.w H' h') (hg:AllBare g') :
  Inv X pins σ H' { s with heap:=h',gens:=g',drawn:=d',toks:=t' }:=by
 have neL:∀ b o,X.s₀.heap.get? b=some o->b≠X.env.locals:=fun b o e=>a0B (a0l (Heap.lt_size e) I.ok.above)
 have neC:∀ b o,X.s₀.heap.get? b=some o->b ∉ X.ex->b ∉ ch:=fun b o e hx hb=>by
  rcases (hch b hb).1 with z | z
  ·exact hx z
  ·exact absurd (a0l (Heap.lt_size e) z) (a00 _)
 have cellK:∀ x c,X.env.cells.lookup x=some c->∀ v,s.heap.IsCell c v->h'.IsCell c v:=fun x c e v ⟨o,ho,hd⟩=>by
  have nch:c ∉ ch:=fun z=>(hch c z).2.2.1 x c e rfl
  by_cases hc:c∈X.fs
  ·obtain ⟨sl,q⟩:=slot c o (I.cne x c e) hc nch ho (I.freeC x c e)
   exact ⟨_,q,hd⟩
  ·exact ⟨o,keep c o (I.cne x c e) hc nch ho (I.freeC x c e),hd⟩
 refine ⟨I.ok,I.os,hg,⟨fun b o e n hb hx=>?_,fun b o e n hb hx=>?_,fun b o e n hx=>?_,fun b o e hx=>?_,fun b xs e=>tups b xs (I.base.tups b xs e),fun b o xs e=>frzs b o xs (I.base.frzs b o xs e),fun b ps e=>?_⟩,?_,fun x c e=>?_,?_,fun x c e=>?_,fun p hp=>?_,hok,I.len⟩
 ·exact keep b o (neL b o e) hb (neC b o e hx) (I.base.keep b o e n hb hx) (I.base.free b o e n hx)
 ·obtain ⟨sl,e1⟩:=I.base.slot b o e n hb hx
  obtain ⟨sl',e2⟩:=slot b _ (neL b o e) hb (neC b o e hx) e1 (I.base.free b o e n hx)
  exact ⟨sl',e2⟩
 ·obtain ⟨o',e1⟩:=I.base.there b o e hx
  exact free b o' (neC b o e hx) e1 (I.base.free b o e n hx)
 ·obtain ⟨o',e1⟩:=I.base.there b o e hx
  exact there b o' (neC b o e hx) e1
 ·obtain ⟨m1,e1⟩:=I.base.tbls b ps e
  obtain ⟨m2,e2⟩:=tbls b _ e1
  exact ⟨m1++m2,by rw [e2,Array.append_assoc]⟩
 ·obtain ⟨m,hn,hl⟩:=I.loc
  refine ⟨m,ns m hn,fun i x v e1 e2 e3=>?_⟩
  obtain ⟨u,r,l⟩:=hl i x v e1 e2 e3
  refine ⟨u,r,?_⟩
  rcases l with l | ⟨k,c,e,z⟩
  ·exact .inl l
  ·exact .inr ⟨k,c,e,cellK x c e _ z⟩
 ·obtain ⟨v,z⟩:=I.cell x c e
  exact ⟨v,cellK x c e v z⟩
 ·obtain ⟨m,⟨o,_,_,ho,_⟩,_⟩:=I.loc
  exact free _ o (fun z=>(hch _ z).2.1 rfl) ho I.free
 ·obtain ⟨v,o,ho,hd⟩:=I.cell x c e
  exact free c o (fun z=>(hch c z).2.2.1 x c e rfl) ho (I.freeC x c e)
 ·obtain ⟨e,n,ne,nf,d⟩:=I.pin p hp
  have nch:p.1 ∉ ch:=fun z=>(hch p.1 z).2.2.2 p hp rfl
  exact ⟨keep p.1 p.2 ne nf nch e n,free p.1 p.2 nch e n,ne,nf,d⟩
theorem Inv.un {t':Nat}(I:Inv X pins σ H s)(u:Un X.fs [] H H' s.heap h')(hok:HOk X.prog X.w H' h'):Inv X pins σ H' { s with heap:=h',toks:=t' }:=by
 obtain ⟨m,⟨o,es,ep,ho,r⟩,_⟩:=id I.loc
 obtain ⟨sl,hL⟩:=u.any ho I.free (by simp)
 exact I.step (g':=s.gens) (d':=s.drawn) (ch:=[]) (fun _ z=>nomatch z) (fun b o _ hb _ e n=>u.keep b o e n hb (by simp)) (fun b o _ hb _ e n=>u.slot b o e n hb (by simp)) (fun b o _ e n=>u.free b o e n (by simp)) (fun b o _ e=>u.there b o e (by simp)) u.tups u.frzs u.tbls (fun m' hm=>by
  obtain ⟨o',es',ep',ho',r'⟩:=hm
  rw [ho] at ho'; cases ho'
  exact ⟨_,es',ep',hL,r'⟩) hok I.bare
theorem Inv.call {g':Array GenState}{t':Nat}{d':Drawn}{ch:List Addr}(I:Inv X pins σ H s)(u:Un (frs X.stack) ch H H' s.heap h')(hok:HOk X.prog X.w H' h')(hg:AllBare g')
  (hch:∀ b∈ch,(b∈X.ex\/X.s₀.heap.objs.size<=b)/\b≠X.env.locals/\(∀ x c,X.env.cells.lookup x=some c->c≠b)/\∀ p∈X.pn++pins,p.1≠b) :
  Inv X pins σ H' { s with heap:=h',gens:=g',drawn:=d',toks:=t' }:=by
 obtain ⟨m,⟨o,es,ep,ho,r⟩,_⟩:=id I.loc
 obtain ⟨sl,hL⟩:=u.any ho I.free fun z=>(hch _ z).2.1 rfl
 exact I.step (ch:=ch) hch (fun b o hL hb hc e n=>u.keep b o e n (fun z=>(a0H.mp (I.stkSub b z)).elim hL hb) hc) (fun b o _ _ hc e n=>u.any e n hc) (fun b o hc e n=>u.free b o e n hc) (fun b o hc e=>u.there b o e hc) u.tups u.frzs u.tbls (fun m' hm=>by
  obtain ⟨o',es',ep',ho',r'⟩:=hm
  rw [ho] at ho'; cases ho'
  exact ⟨_,es',ep',hL,r'⟩) hok hg
theorem Inv.turned {t':Nat}{it:Addr}(I:Inv X pins σ H s)(k:∀ b o,b≠it->s.heap.get? b=some o->h'.get? b=some o)(hn:H it=none)(hL:it≠X.env.locals)
  (h1:it∈X.ex\/X.s₀.heap.objs.size<=it) (h2:∀ x c,X.env.cells.lookup x=some c->c≠it) (h3:∀ p∈X.pn++pins,p.1≠it):Inv X pins σ H { s with heap:=h',toks:=t' }:=by
 have nit:∀ b u,H b=some u->b≠it:=fun b u e z=>by rw [z,hn] at e; cases e
 refine I.step (g':=s.gens) (d':=s.drawn) (ch:=[it]) (fun b hb=>?_) (fun b o _ _ hc e _=>k b o (fun z=>hc (by simp [z])) e) (fun b o _ _ hc e _=>⟨o.slots,k b o (fun z=>hc (by simp [z])) e⟩) (fun _ _ _ _ n=>n)
  (fun b o hc e=>⟨o,k b o (fun z=>hc (by simp [z])) e⟩) (fun _ _ e=>e) (fun _ _ _ e=>e) (fun b ps e=>⟨#[],by rw [e]; simp⟩) (fun m hm=>?_) (fun b u e=>?_) I.bare
 ·have e:b=it:=by simpa using hb
  subst e
  exact ⟨h1,hL,h2,h3⟩
 ·obtain ⟨o,es,ep,ho,r⟩:=hm
  exact ⟨o,es,ep,k _ o (a1N hL) ho,r⟩
 ·refine (I.hok b u e).stay (fun c v hc q=>k c v ?_ q) (fun _ q=>q) fun _ _ q=>q
  rcases hc with z | z
  ·rw [z]; exact nit b u e
  ·exact nit c _ z
theorem Inv.tok (I:Inv X pins σ H s)(t:Nat):Inv X pins σ H { s with toks:=t }:=I.un (h':=s.heap) (t':=t) Un.refl I.hok
theorem Inv.kept {t':Nat}(I:Inv X pins σ H s)(k:∀ b u,s.heap.get? b=some u->h'.get? b=some u):Inv X pins σ H { s with heap:=h',toks:=t' }:=I.un (Un.kept k) (I.hok.kept k)
theorem Inv.laid {a:Addr}{o:HO}{t':Nat}(I:Inv X pins σ H s)(k:∀ b u,s.heap.get? b=some u->h'.get? b=some u)(hp:s.heap.objs.size<=a)(new:ObjOk X.prog X.w (upd H a o) h' a o) :
  Inv X pins σ (upd H a o) { s with heap:=h',toks:=t' }:=I.un (Un.laid k hp (I.hok.fresh hp)) (I.hok.laid k hp new)
theorem Inv.write {x e:Addr}{o:HO}{t':Nat}(I:Inv X pins σ H s)(mu:Mut (H x))(he:e=x\/H e=some (.own x))(k:∀ b u,b≠e->s.heap.get? b=some u->h'.get? b=some u)(heo:∃ u,h'.get? e=some u)
  (new:ObjOk X.prog X.w (upd H x o) h' x o):Inv X pins σ (upd H x o) { s with heap:=h',toks:=t' }:=I.un (Un.write mu he k heo) (I.hok.write mu he k heo new)
theorem Inv.weak {σ':List (Option V)}(I:Inv X pins σ H s)(hl:σ'.length=σ.length)(w:∀ (i:Nat) v,σ'[i]?=some (some v)->σ[i]?=some (some v)):Inv X pins σ' H s :=
 ⟨I.ok,I.os,I.bare,I.base,let ⟨m,hn,hl'⟩:=I.loc; ⟨m,hn,fun i x v e1 e2 e3=>hl' i x v e1 (w i v e2) e3⟩,I.cell,I.free,I.freeC,I.pin,I.hok,hl.trans I.len⟩
theorem Inv.pins_of {pins':List (Addr×Obj)}(I:Inv X pins σ H s)(h:∀ p∈pins',s.heap.get? p.1=some p.2/\H p.1=none/\p.1≠X.env.locals/\p.1 ∉ X.fs/\∀ v,p.2.data≠.cell v):Inv X pins' σ H s :=
 ⟨I.ok,I.os,I.bare,I.base,I.loc,I.cell,I.free,I.freeC,fun p hp=>(a0O.mp hp).elim (fun z=>I.pin p (a0V _ z)) (h p),I.hok,I.len⟩
theorem gQ {N:List Str}(hN:N.Nodup){i j:Nat}{x:Str}(a:N[i]?=some x)(b:N[j]?=some x):i=j:=by
 obtain ⟨h1,e1⟩:=a0v.mp a
 obtain ⟨h2,e2⟩:=a0v.mp b
 exact (List.getElem_inj hN).mp (e1.trans e2.symm)
theorem fo {M:Model}{A:Around}{E:Value->Shared->Prop}{i:Nat}{x:Str}{v:V}{u:Value}{Q:Unit->Shared->Prop}(I:Inv X pins σ H s)(hN:X.N.Nodup)(hi:X.N[i]?=some x)(hx:Loc X.env.scope x)(r:RelV v u)
  (h:∀ s',Inv X pins (σ.set i (some v)) H s'->(∃ a,Heap.SameBut a s.heap s'.heap/\(a=X.env.locals\/X.env.cells.lookup x=some a))->Q () s') (hf:X.fn x=true\/X.env.scope.names.lookup x=some .local:=by first | exact .inl rfl | exact .inr rfl | assumption):wpAny M A (storeName X.env x u) Q E s:=by
 obtain ⟨m,hn,hl⟩:=id I.loc
 have hcls:(X.env.scope.kind==.class || (X.env.scope.kind==.module&&X.env.locals != X.env.globals))=false:=by rw [I.ok.kind]; rfl
 have hiσ:i < σ.length:=by rw [I.len]; exact (a0v.mp hi).1
 have cne:=I.cne
 have tracked:∀ {a:Addr} {h':Heap},(∃ o,s.heap.get? a=some o/\H a=none)->Heap.SameBut a s.heap h'->HOk X.prog X.w H h':=fun {a h'} ha hs b ob e=>by
  obtain ⟨_,_,hfree⟩:=ha
  refine (I.hok b ob e).stay (fun c w' hc q=>(hs.2 c ?_).trans q) (fun _ q=>q) fun _ _ q=>q
  rintro rfl
  rcases hc with rfl | hc
  ·rw [hfree] at e; cases e
  ·rw [hfree] at hc; cases hc
 rcases hx with hk | hk
 ·refine wpAny_storeName_local hk hn (fun h' hn' hs=>?_) hcls
  obtain ⟨oL,_,_,hoL,_⟩:=id hn
  refine h _ ⟨I.ok,I.os,I.bare,⟨fun b o e n hb hx=>?_,fun b o e n hb hx=>?_,I.base.free,fun b o e hx=>?_,I.base.tups,I.base.frzs,I.base.tbls⟩,⟨_,hn',fun j y v' e1 e2 e3=>?_⟩,fun y c e=>?_,I.free,I.freeC,fun p hp=>?_,tracked ⟨oL,hoL,I.free⟩ hs,by simpa using I.len⟩ ⟨_,hs,.inl rfl⟩
  ·exact (hs.2 b (a0B (a0l (Heap.lt_size e) I.ok.above))).trans (I.base.keep b o e n hb hx)
  ·obtain ⟨sl,e1⟩:=I.base.slot b o e n hb hx
   exact ⟨sl,(hs.2 b (a0B (a0l (Heap.lt_size e) I.ok.above))).trans e1⟩
  ·obtain ⟨o',e1⟩:=I.base.there b o e hx
   exact ⟨o',(hs.2 b (a0B (a0l (Heap.lt_size e) I.ok.above))).trans e1⟩
  ·by_cases hj:j=i
   ·subst hj
    rw [hi] at e1; cases e1
    rw [a1o hiσ] at e2
    cases e2
    exact ⟨u,r,.inl ⟨hk,by simp⟩⟩
   ·rw [a1e (a1N hj)] at e2
    obtain ⟨u',r',q⟩:=hl j y v' e1 e2 e3
    refine ⟨u',r',?_⟩
    rcases q with ⟨k,e⟩ | ⟨k,c,e,z⟩
    ·refine .inl ⟨k,?_⟩
     have:y≠x:=fun e=>hj (gQ hN e1 (e ▸ hi))
     simp [this,e]
    ·exact .inr ⟨k,c,e,z.sameBut hs (cne y c e)⟩
  ·obtain ⟨w',z⟩:=I.cell y c e
   exact ⟨w',z.sameBut hs (cne y c e)⟩
  ·obtain ⟨e,n,ne,nf,d⟩:=I.pin p hp
   exact ⟨(hs.2 p.1 ne).trans e,n,ne,nf,d⟩
 ·have hfn:X.fn x=true:=by
   rcases hf with z | z
   ·exact z
   ·rw [z] at hk; cases hk
  obtain ⟨c,hc⟩:=I.ok.has x (.inl hk)
  obtain ⟨w',z⟩:=I.cell x c hc
  refine wpAny_storeName_cell I.ok.kind hk hc z (fun h' hc' hs=>?_)
  obtain ⟨oc,hoc,hocd⟩:=id z
  refine h { s with heap:=h' } ⟨I.ok,I.os,I.bare,⟨fun b o e n hb hx=>?_,fun b o e n hb hx=>?_,I.base.free,fun b o e hx=>?_,I.base.tups,I.base.frzs,I.base.tbls⟩,⟨m,hn.sameBut hs (a1N (cne x c hc)),fun j y v' e1 e2 e3=>?_⟩,fun y c' e=>?_,I.free,I.freeC,fun p hp=>?_,tracked ⟨oc,hoc,I.freeC x c hc⟩ hs,by simpa using I.len⟩ ⟨c,hs,.inr hc⟩
  ·exact (hs.2 b (a0B (a0l (Heap.lt_size e) (I.ok.cab x c hfn hc)))).trans (I.base.keep b o e n hb hx)
  ·obtain ⟨sl,e1⟩:=I.base.slot b o e n hb hx
   exact ⟨sl,(hs.2 b (a0B (a0l (Heap.lt_size e) (I.ok.cab x c hfn hc)))).trans e1⟩
  ·obtain ⟨o',e1⟩:=I.base.there b o e hx
   exact ⟨o',(hs.2 b (a0B (a0l (Heap.lt_size e) (I.ok.cab x c hfn hc)))).trans e1⟩
  ·by_cases hj:j=i
   ·subst hj
    rw [hi] at e1; cases e1
    rw [a1o hiσ] at e2
    cases e2
    exact ⟨u,r,.inr ⟨.inl hk,c,hc,hc'⟩⟩
   ·rw [a1e (a1N hj)] at e2
    obtain ⟨u',r',q⟩:=hl j y v' e1 e2 e3
    refine ⟨u',r',?_⟩
    rcases q with q | ⟨k,c',e,z'⟩
    ·exact .inl q
    ·refine .inr ⟨k,c',e,z'.sameBut hs ?_⟩
     rintro rfl
     exact hj (gQ hN e1 (I.ok.inj _ _ _ e hc ▸ hi))
  ·by_cases hcc:c'=c
   ·subst hcc; exact ⟨_,hc'⟩
   ·obtain ⟨w2,z2⟩:=I.cell y c' e
    exact ⟨w2,z2.sameBut hs hcc⟩
  ·obtain ⟨e,n,ne,nf,d⟩:=I.pin p hp
   refine ⟨(hs.2 p.1 ?_).trans e,n,ne,nf,d⟩
   intro q
   rw [q,hoc] at e
   have q':oc=p.2:=a0w e
   exact d w' (by rw [<- q']; exact hocd)
theorem gz {M:Model}{A:Around}{E:Value->Shared->Prop}{i:Nat}{x:Str}{v:V}{u:Value}{Q:Unit->Shared->Prop}(I:Inv X pins σ H s)(hN:X.N.Nodup)(hi:X.N[i]?=some x)(hx:Loc X.env.scope x)(r:RelV v u)
  (h:∀ s',Inv X pins (σ.set i (some v)) H s'->Q () s') (hf:X.fn x=true\/X.env.scope.names.lookup x=some .local:=by first | exact .inl rfl | exact .inr rfl | assumption):wpAny M A (storeName X.env x u) Q E s :=
 fo I hN hi hx r (fun s' I' _=>h s' I') hf
theorem Inv.call' {s':Shared}{ch:List Addr}(I:Inv X pins σ H s)(ho:s'.os=s.os)(u:Un (frs X.stack) ch H H' s.heap s'.heap)(hok:HOk X.prog X.w H' s'.heap)(hg:AllBare s'.gens)
  (hch:∀ b∈ch,(b∈X.ex\/X.s₀.heap.objs.size<=b)/\b≠X.env.locals/\(∀ x c,X.env.cells.lookup x=some c->c≠b)/\∀ p∈X.pn++pins,p.1≠b):Inv X pins σ H' s':=by
 obtain ⟨h',g',d',t',o'⟩:=s'
 have e:o'=s.os:=ho
 subst e
 exact I.call (g':=g') (t':=t') (d':=d') u hok hg hch
end
noncomputable abbrev XK:=Value->Option Addr->Hp->Prop
noncomputable abbrev St:=List (Option V)
noncomputable abbrev VK:=V->Hp->Prop
noncomputable abbrev TE:=St->Hp->VK->Prop
noncomputable abbrev TT:=St->Hp->(Bool->Hp->Prop)->Prop
noncomputable abbrev TA:=St->Hp->(List V->Hp->Prop)->Prop
structure b6 where
 nx:St->Hp->Prop
 rt:VK
 bk:St->Hp->Prop:=fun _ _=>False
 ct:St->Hp->Prop:=fun _ _=>False
noncomputable abbrev TS:=b6->St->Hp->Prop
noncomputable def EP (X:Cx)(pins:List (Addr×Obj))(σ:St)(Q:VK)(u:Value)(s':Shared):Prop:=∃ v H',Inv X pins σ H' s'/\RelV v u/\Q v H'
noncomputable def TP (X:Cx)(pins:List (Addr×Obj))(σ:St)(Q:Bool->Hp->Prop)(b:Bool)(s':Shared):Prop:=∃ H',Inv X pins σ H' s'/\Q b H'
noncomputable def AP (X:Cx)(pins:List (Addr×Obj))(σ:St)(Q:List V->Hp->Prop)(us:List Value)(s':Shared):Prop:=∃ vs H',Inv X pins σ H' s'/\Vals vs us/\Q vs H'
noncomputable def SP (X:Cx)(pins:List (Addr×Obj))(D:b6)(f:Flow)(s':Shared):Prop :=
 match f with
 | .next=>∃ σ' H',Inv X pins σ' H' s'/\D.nx σ' H'
 | .brk=>∃ σ' H',Inv X pins σ' H' s'/\D.bk σ' H'
 | .cont=>∃ σ' H',Inv X pins σ' H' s'/\D.ct σ' H'
 | .ret u=>∃ v σ' H',Inv X pins σ' H' s'/\RelV v u/\D.rt v H'
noncomputable def PE (X:Cx)(e:Expr)(t:TE):Prop :=
 ∀ (pins:List (Addr×Obj)) (s:Shared) (σ:St) (H:Hp) (Q:VK),Inv X pins σ H s->t σ H Q->wpAny (model X.prog X.w) X.A (eval e X.env) (EP X pins σ Q) X.xe s
noncomputable def PT (X:Cx)(e:Expr)(t:TT):Prop :=
 ∀ (pins:List (Addr×Obj)) (s:Shared) (σ:St) (H:Hp) (Q:Bool->Hp->Prop),Inv X pins σ H s->t σ H Q->wpAny (model X.prog X.w) X.A (isTrue e X.env (eval e X.env)) (TP X pins σ Q) X.xe s
noncomputable def PW (X:Cx)(e:Expr)(t:TT):Prop :=
 ∀ (whole:Sem Value) (pins:List (Addr×Obj)) (s:Shared) (σ:St) (H:Hp) (Q:Bool->Hp->Prop),Inv X pins σ H s->t σ H Q->wpAny (model X.prog X.w) X.A (isTrue e X.env whole) (TP X pins σ Q) X.xe s
theorem PW.pt {X:Cx}{e:Expr}{t:TT}(h:PW X e t):PT X e t:=h _
noncomputable def PA (X:Cx)(es:List Expr)(t:TA):Prop :=
 ∀ (pos:Pos) (pins:List (Addr×Obj)) (s:Shared) (σ:St) (H:Hp) (Q:List V->Hp->Prop),Inv X pins σ H s->t σ H Q->wpAny (model X.prog X.w) X.A (spliced (backTo pos (starEach es X.env))) (AP X pins σ Q) X.xe s
noncomputable def PS (X:Cx)(st:Stmt)(t:TS):Prop :=
 ∀ (pins:List (Addr×Obj)) (s:Shared) (σ:St) (H:Hp) (D:b6),Inv X pins σ H s->t D σ H->wpAny (model X.prog X.w) X.A (exec st X.env) (SP X pins D) X.xe s
noncomputable def PSs (X:Cx)(st:List Stmt)(t:TS):Prop :=
 ∀ (pins:List (Addr×Obj)) (s:Shared) (σ:St) (H:Hp) (D:b6),Inv X pins σ H s->t D σ H->wpAny (model X.prog X.w) X.A (execs st X.env) (SP X pins D) X.xe s
theorem thn {α:Type}{t:Sem α}{Q Q':α->Shared->Prop}{M:Model}{A:Around}{E:Value->Shared->Prop}{s:Shared}(h:wpAny M A t Q E s)(hQ:∀ a s,Q a s->Q' a s):wpAny M A t Q' E s:=wpAny_mono h hQ fun _ _ x=>x
end L2
namespace L2
open PySem PySem.Spec PyProof.Rows
section
variable {X:Cx}
noncomputable def j7 (i:Nat):TE:=fun σ H Q=>∃ v,σ[i]?=some (some v)/\Q v H
noncomputable def tC (v:V):TE:=fun _ H Q=>Q v H
theorem dq {i:Nat}{x:Str}{pos:Pos}(hN:X.N[i]?=some x)(hv:Vis X.env.scope x)(hd:(x==("__debug__":Str))=false:=by decide)(hcd:(x==("__classdict__":Str))=false:=by decide):PE X (.Name x pos) (j7 i):=by
 intro pins s σ H Q I h
 obtain ⟨v,e,h⟩:=h
 obtain ⟨m,hn,hl⟩:=I.loc
 obtain ⟨u,r,l⟩:=hl i x v hN e hv
 have fin:EP X pins σ Q u s:=⟨v,H,I,r,h⟩
 rcases l with ⟨hk,hm⟩ | ⟨hk,c,hc,hcell⟩
 ·exact wpAny_Name (wpAny_loadName_local I.ok.kind hk hn hm fin) hd
 ·rcases hk with hk | hk
  ·exact wpAny_Name (wpAny_loadName_cell I.ok.kind hk hc hcell fin) hd
  ·exact wpAny_Name (wpAny_loadName_free I.ok.kind hk hc hcell fin hcd) hd
theorem wy {i j pos}:PE X (.Constant (.int i) j pos) (tC (.int i)):=fun _ _ _ H _ I h=>wpAny_Constant_int ⟨.int i,H,I.tok _,⟨_,rfl⟩,h⟩
theorem xw {b j pos}:PE X (.Constant (.bool b) j pos) (tC (.bl b)):=fun _ _ _ H _ I h=>Constant_bool ⟨.bl b,H,I,rfl,h⟩
theorem tZ {j pos}:PE X (.Constant .none j pos) (tC .non):=fun _ _ _ H _ I h=>Constant_none ⟨.non,H,I,rfl,h⟩
theorem uW {x j pos}:PE X (.Constant (.str x) j pos) (tC (.str x)):=fun _ _ _ H _ I h=>Calls.Constant_str ⟨.str x,H,I.tok _,⟨_,rfl⟩,h⟩
noncomputable def Gl (X:Cx)(x:Str):Prop:=X.env.kindOf x=some .globalImplicit
theorem jv {E:Value->Shared->Prop}{pins:List (Addr×Obj)}{s:Shared}{σ:St}{H:Hp}{x:Str}{u:Value}{pos:Pos}{Q:Value->Shared->Prop}(I:Inv X pins σ H s)(hg:Gl X x)(hm:X.mg x=some u)(h:Q u s)
  (hd:(x==("__debug__":Str))=false:=by decide):wpAny (model X.prog X.w) X.A (eval (.Name x pos) X.env) Q E s :=
 Calls.Name_function_global I.ok.kind hg (Calls.loadGlobal_global (by rw [I.ok.glob]; exact I.mod.glob.keeps I.bk) hm h) hd
theorem eJ {E:Value->Shared->Prop}{pins:List (Addr×Obj)}{s:Shared}{σ:St}{H:Hp}{x:Str}{u:Value}{pos:Pos}{Q:Value->Shared->Prop}(I:Inv X pins σ H s)(hg:Gl X x)(hm:X.mg x=none)(hv:bootBuiltins x=some u)(h:Q u s)
  (hn:x≠"__name__":=by decide) (hd:(x==("__debug__":Str))=false:=by decide):wpAny (model X.prog X.w) X.A (eval (.Name x pos) X.env) Q E s:=by
 obtain ⟨mb,h1,h2⟩:=I.mod.blt
 exact Calls.Name_function_global I.ok.kind hg (Calls.loadGlobal_builtin (by rw [I.ok.glob]; exact I.mod.glob.keeps I.bk) hm (by rw [I.ok.blt]; exact h1.keeps I.bk) ((h2 x hn).trans hv) h) hd
theorem jt {x:Str}{v:V}{u:Value}{pos:Pos}(hg:Gl X x)(hm:X.mg x=some u)(r:RelV v u)(hd:(x==("__debug__":Str))=false:=by decide):PE X (.Name x pos) (tC v) :=
 fun _ _ _ H _ I h=>jv I hg hm ⟨v,H,I,r,h⟩ hd
theorem pZ {x:Str}{v:V}{u:Value}{pos:Pos}(hg:Gl X x)(hm:X.mg x=none)(hv:bootBuiltins x=some u)(r:RelV v u)(hn:x≠"__name__":=by decide)(hd:(x==("__debug__":Str))=false:=by decide):PE X (.Name x pos) (tC v) :=
 fun _ _ _ H _ I h=>eJ I hg hm hv ⟨v,H,I,r,h⟩ hn hd
variable {a b:Expr}{ta tb:TE}{pos:Pos}
noncomputable def PC (X:Cx)(op:CmpOp)(a b:Expr)(t:TE):Prop :=
 ∀ (pins:List (Addr×Obj)) (s:Shared) (σ:St) (H:Hp) (Q:VK),Inv X pins σ H s->t σ H Q ->
  wpAny (model X.prog X.w) X.A (eval a X.env) (fun v s₁=>wpAny (model X.prog X.w) X.A (eval b X.env) (fun u s₂=>wpAny (model X.prog X.w) X.A (compareOp op v u) (EP X pins σ Q) X.xe s₂) X.xe s₁) X.xe s
noncomputable def tB (t:TE):TT:=fun σ H Q=>t σ H fun x H1=>∃ c,x=.bl c/\Q c H1
variable {tA tB':TT}{rest:List Expr}
noncomputable def zC (t u:TT):TT:=fun σ H Q=>t σ H fun c H1=>if c=true then u σ H1 Q else Q false H1
noncomputable def tOr (t u:TT):TT:=fun σ H Q=>t σ H fun c H1=>if c=true then Q true H1 else u σ H1 Q
noncomputable def xy (t:TT):TT:=fun σ H Q=>t σ H fun c H1=>Q (!c) H1
theorem ql (ha:PT X a tA):PW X (.BoolOp .And [a] pos) tA:=by
 intro wh pins s σ H Q I h
 refine isTrue_and (thn (ha pins s σ H Q I h) fun c s1 e=>?_)
 cases c with
 | true=>exact isTrue_and_nil e
 | false=>exact e
theorem tX (ha:PT X a tA):PW X (.BoolOp .Or [a] pos) tA:=by
 intro wh pins s σ H Q I h
 refine isTrue_or (thn (ha pins s σ H Q I h) fun c s1 e=>?_)
 cases c with
 | false=>exact isTrue_or_nil e
 | true=>exact e
theorem v9 (ha:PT X a tA)(hb:PW X (.BoolOp .And (b::rest) pos) tB'):PW X (.BoolOp .And (a::b::rest) pos) (zC tA tB'):=by
 intro wh pins s σ H Q I h
 refine isTrue_and (thn (ha pins s σ H _ I h) fun c s1 ⟨H1,I1,q1⟩=>?_)
 cases c with
 | true=>exact hb wh pins s1 σ H1 Q I1 q1
 | false=>exact ⟨H1,I1,q1⟩
theorem wO (ha:PT X a tA)(hb:PW X (.BoolOp .Or (b::rest) pos) tB'):PW X (.BoolOp .Or (a::b::rest) pos) (tOr tA tB'):=by
 intro wh pins s σ H Q I h
 refine isTrue_or (thn (ha pins s σ H _ I h) fun c s1 ⟨H1,I1,q1⟩=>?_)
 cases c with
 | true=>exact ⟨H1,I1,q1⟩
 | false=>exact hb wh pins s1 σ H1 Q I1 q1
theorem ua (ha:PT X a tA):PT X (.UnaryOp .Not a pos) (xy tA):=by
 intro pins s σ H Q I h
 exact isTrue_not (ha pins s σ H (fun c H1=>Q (!c) H1) I h)
theorem uD {op}{t:TE}(h:PE X a t):PE X (.BoolOp op [a] pos) t:=fun pins s σ H Q I hw=>BoolOp_one (h pins s σ H Q I hw)
noncomputable def tIf (t:TT)(ta tb:TE):TE:=fun σ H Q=>t σ H fun c H1=>if c=true then ta σ H1 Q else tb σ H1 Q
theorem nC {c:Expr}(hc:PT X c tA)(ha:PE X a ta)(hb:PE X b tb):PE X (.IfExp c a b pos) (tIf tA ta tb):=by
 intro pins s σ H Q I h
 refine wpAny_IfExp (thn (hc pins s σ H _ I h) fun d s1 ⟨H1,I1,q1⟩=>?_)
 cases d with
 | true=>exact ha pins s1 σ H1 Q I1 q1
 | false=>exact hb pins s1 σ H1 Q I1 q1
end
end L2
namespace L2
open PySem PySem.Spec PyProof.Rows
noncomputable def SqL (K:a0a)(H:Hp)(a:Addr)(xs:List V):Prop :=
 Rd H a (.lst xs) \/
  ∃ (o:Obj) (its:Array Value) (n:Nat),K.lookup a=some o/\o.cls=.type "list"/\o.dict=none/\o.data=.seq its n/\its.size<=sizeLine/\Vals xs its.toList
noncomputable def SqT (K:a0a)(H:Hp)(a:Addr)(xs:List V):Prop :=
 Rd H a (.tup xs) \/
  ∃ (o:Obj) (its:Array Value) (n:Nat),K.lookup a=some o/\o.cls=.type "tuple"/\o.data=.seq its n/\its.size<=sizeLine/\Vals xs its.toList
noncomputable def zH:Value->Option V
 | .none=>some .non
 | .bool b=>some (.bl b)
 | .int i _=>some (.int i)
 | .str x _=>some (.str x)
 | .bytes b _=>some (.byt b)
 | .float b _=>some (.flt b)
 | .ref a=>some (.ref a)
 | .type n=>some (.ty n)
 | _=>none
theorem RelV.abs {x:V}{u:Value}(r:RelV x u):zH u=some x:=by
 cases x with
 | non=>cases r; rfl
 | bl _=>cases r; rfl
 | int _=>obtain ⟨t,rfl⟩:=r; rfl
 | str _=>obtain ⟨t,rfl⟩:=r; rfl
 | byt _=>obtain ⟨t,rfl⟩:=r; rfl
 | flt _=>obtain ⟨t,rfl⟩:=r; rfl
 | ref _=>cases r; rfl
 | ty _=>cases r; rfl
theorem RelV.inj {x y:V}{u:Value}(r:RelV x u)(q:RelV y u):x=y:=a0w (r.abs.symm.trans q.abs)
theorem Vals.inj:∀ {xs ys:List V} {us:List Value},Vals xs us->Vals ys us->xs=ys
 | _,_,_,.nil,.nil=>rfl
 | _,_,_,.cons r t,.cons r' t'=>by rw [r.inj r',Vals.inj t t']
section
variable {X:Cx}{pins:List (Addr×Obj)}{σ:St}{H:Hp}{s:Shared}{a:Addr}{xs ys:List V}
theorem SqL.of {K:a0a}(h:H a=some (.lst xs)):SqL K H a xs:=.inl (.inl h)
theorem SqT.of {K:a0a}(h:H a=some (.tup xs)):SqT K H a xs:=.inl (.inl h)
theorem Inv.list (I:Inv X pins σ H s)(h:SqL X.K H a xs):∃ its:List Value,Vals xs its/\PlainL s.heap a its.toArray/\xs.length<=sizeLine:=by
 rcases h with h | ⟨o,its,n,hk,hc,hd,hs,hz,r⟩
 ·obtain ⟨z,its,n,r,e⟩:=h.ok I.hok
  exact ⟨its,r,⟨_,n,e,rfl,rfl,rfl⟩,z⟩
 ·refine ⟨its.toList,r,⟨o,n,I.kIn a o hk,hc,hd,by simpa using hs⟩,?_⟩
  have e:=r.length
  simp only [a0D] at e
  omega
theorem Inv.tuple (I:Inv X pins σ H s)(h:SqT X.K H a xs):∃ its:List Value,Vals xs its/\IsTup s.heap a its.toArray/\xs.length<=sizeLine:=by
 rcases h with h | ⟨o,its,n,hk,hc,hs,hz,r⟩
 ·obtain ⟨z,its,r,p⟩:=h.ok I.hok
  exact ⟨its,r,p,z⟩
 ·refine ⟨its.toList,r,⟨o,I.kIn a o hk,hc,n,by simpa using hs⟩,?_⟩
  have e:=r.length
  simp only [a0D] at e
  omega
theorem Inv.list_inj (I:Inv X pins σ H s)(h:SqL X.K H a xs)(h':SqL X.K H a ys):xs=ys:=by
 obtain ⟨its,r,⟨o,n,e,_,_,d⟩,_⟩:=I.list h
 obtain ⟨its',r',⟨o',n',e',_,_,d'⟩,_⟩:=I.list h'
 rw [e] at e'; cases e'
 rw [d] at d'
 injection d' with d1 _
 have:its=its':=by simpa using congrArg a2U d1
 subst this
 exact r.inj r'
theorem Inv.tuple_inj (I:Inv X pins σ H s)(h:SqT X.K H a xs)(h':SqT X.K H a ys):xs=ys:=by
 obtain ⟨its,r,⟨o,e,_,n,d⟩,_⟩:=I.tuple h
 obtain ⟨its',r',⟨o',e',_,n',d'⟩,_⟩:=I.tuple h'
 rw [e] at e'; cases e'
 rw [d] at d'
 injection d' with d1 _
 have:its=its':=by simpa using congrArg a2U d1
 subst this
 exact r.inj r'
end
noncomputable abbrev Cx.wish (X:Cx)(E:Value->Shared->Prop):Cx:={ X with xe:=E }
noncomputable abbrev Cx.nox (X:Cx):Cx:=X.wish fun _ _=>False
theorem Cx.Ok.wish {X:Cx}(ok:X.Ok)(E:Value->Shared->Prop):(X.wish E).Ok :=
 ⟨ok.mod,ok.kind,ok.glob,ok.blt,ok.above,ok.inj,ok.has,ok.cab,ok.hd,ok.frames,ok.stk,ok.exf,ok.bs,ok.bsz,ok.noex,ok.exfs,ok.funs,ok.frf⟩
theorem Cx.Ok.unwish {X:Cx}{E:Value->Shared->Prop}(ok:(X.wish E).Ok):X.Ok :=
 ⟨ok.mod,ok.kind,ok.glob,ok.blt,ok.above,ok.inj,ok.has,ok.cab,ok.hd,ok.frames,ok.stk,ok.exf,ok.bs,ok.bsz,ok.noex,ok.exfs,ok.funs,ok.frf⟩
section
variable {X:Cx}{pins:List (Addr×Obj)}{σ:St}{H:Hp}{s:Shared}{E:Value->Shared->Prop}
theorem Inv.wish (I:Inv X pins σ H s)(E:Value->Shared->Prop):Inv (X.wish E) pins σ H s:=⟨I.ok.wish E,I.os,I.bare,I.base,I.loc,I.cell,I.free,I.freeC,I.pin,I.hok,I.len⟩
theorem Inv.unwish (I:Inv (X.wish E) pins σ H s):Inv X pins σ H s:=⟨I.ok.unwish,I.os,I.bare,I.base,I.loc,I.cell,I.free,I.freeC,I.pin,I.hok,I.len⟩
theorem SP.unwish {D:b6}{f:Flow}{s':Shared}(h:SP (X.wish E) pins D f s'):SP X pins D f s':=by
 cases f with
 | next=>obtain ⟨σ',H',I,q⟩:=h; exact ⟨σ',H',I.unwish,q⟩
 | brk=>obtain ⟨σ',H',I,q⟩:=h; exact ⟨σ',H',I.unwish,q⟩
 | cont=>obtain ⟨σ',H',I,q⟩:=h; exact ⟨σ',H',I.unwish,q⟩
 | ret u=>obtain ⟨v,σ',H',I,r,q⟩:=h; exact ⟨v,σ',H',I.unwish,r,q⟩
theorem PSs.nox {st:List Stmt}{t:TS}(h:PSs X.nox st t):PSs X st t:=fun pins s σ H D I hw =>
 wpAny_mono (h pins s σ H D (I.wish _) hw) (fun _ _ q=>q.unwish) fun _ _ z=>a1a z
end
section
variable {X:Cx}{st:Stmt}{rest:List Stmt}{t u:TS}{e:Expr}{te:TE}{pos:Pos}
noncomputable def rh:TS:=fun D σ H=>D.nx σ H
noncomputable def yY (t u:TS):TS:=fun D σ H=>t { D with nx:=u D } σ H
theorem qC:PSs X [] rh:=fun _ _ σ H _ I h=>wpAny_execs_nil ⟨σ,H,I,h⟩
theorem l9 (h1:PS X st t)(h2:PSs X rest u):PSs X (st::rest) (yY t u):=by
 intro pins s σ H D I h
 refine wpAny_execs_cons (thn (h1 pins s σ H { D with nx:=u D } I h) fun f s1 q=>?_)
 cases f with
 | next =>
  obtain ⟨σ',H',I',q⟩:=q
  exact h2 pins s1 σ' H' D I' q
 | ret v=>exact q
 | brk=>exact q
 | cont=>exact q
theorem pI (h1:PS X st t):PSs X [st] t:=by
 intro pins s σ H D I h
 refine wpAny_execs_cons (thn (h1 pins s σ H D I h) fun f s1 q=>?_)
 cases f with
 | next=>exact wpAny_execs_nil q
 | ret v=>exact q
 | brk=>exact q
 | cont=>exact q
theorem Inv.quiet {pins:List (Addr×Obj)}{σ:St}{H:Hp}{s:Shared}(I:Inv X pins σ H s):interactive X.env=false:=by simp [interactive,I.ok.kind]
noncomputable def yj (te:TE):TS:=fun D σ H=>te σ H fun _ H1=>D.nx σ H1
theorem oi (he:PE X e te)(hs:swapsWith e none pos.line X.env=pure false:=by rfl):PS X (.Expr e pos) (yj te):=by
 intro pins s σ H D I h
 exact wpAny_Expr_any (thn (he pins s σ H _ I h) fun v s1 ⟨x,H1,I1,r1,q1⟩=>⟨σ,H1,I1,q1⟩) I.quiet hs
noncomputable def xg (te:TE):TS:=fun D σ H=>te σ H D.rt
theorem uy (he:PE X e te):PS X (.Return (some e) pos) (xg te):=by
 intro pins s σ H D I h
 exact wpAny_Return_some (thn (he pins s σ H _ I h) fun v s1 ⟨x,H1,I1,r1,q1⟩=>⟨x,σ,H1,I1,r1,q1⟩)
noncomputable def xD (c:TT)(t u:TS):TS:=fun D σ H=>c σ H fun b H1=>if b=true then t D σ H1 else u D σ H1
theorem xB {c:Expr}{a b:List Stmt}{tc:TT}(hc:PT X c tc)(ha:PSs X a t)(hb:PSs X b u):PS X (.If c a b pos) (xD tc t u):=by
 intro pins s σ H D I h
 refine wpAny_If (thn (hc pins s σ H _ I h) fun d s1 ⟨H1,I1,q1⟩=>?_)
 cases d with
 | true=>exact ha pins s1 σ H1 D I1 q1
 | false=>exact hb pins s1 σ H1 D I1 q1
end
noncomputable abbrev TG:=V->St->Hp->(St->Hp->Prop)->Prop
noncomputable abbrev TGs:=List V->St->Hp->(St->Hp->Prop)->Prop
noncomputable def PG (X:Cx)(target:Expr)(t:TG):Prop :=
 ∀ (pins:List (Addr×Obj)) (s:Shared) (σ:St) (H:Hp) (v:V) (u:Value) (Q:St->Hp->Prop),Inv X pins σ H s->RelV v u->t v σ H Q ->
  wpAny (model X.prog X.w) X.A (assign target X.env u) (fun _ s'=>∃ σ' H',Inv X pins σ' H' s'/\Q σ' H') X.xe s
noncomputable def PGs (X:Cx)(ts:List Expr)(t:TGs):Prop :=
 ∀ (pins:List (Addr×Obj)) (s:Shared) (σ:St) (H:Hp) (vs:List V) (us:List Value) (Q:St->Hp->Prop),Inv X pins σ H s->Vals vs us->t vs σ H Q ->
  wpAny (model X.prog X.w) X.A (assignInOrder ((assignEach ts X.env).map (·.2)) us) (fun _ s'=>∃ σ' H',Inv X pins σ' H' s'/\Q σ' H') X.xe s
noncomputable abbrev vi:=V->V->V->Hp->(Hp->Prop)->Prop
noncomputable def yO (X:Cx)(t:vi):Prop :=
 ∀ (pins:List (Addr×Obj)) (s:Shared) (σ:St) (H:Hp) (o i v:V) (ov iv u:Value) (Q:Hp->Prop),Inv X pins σ H s->RelV o ov->RelV i iv->RelV v u->t o i v H Q ->
  wpAny (model X.prog X.w) X.A (setItem ov iv u) (fun _ s'=>∃ H',Inv X pins σ H' s'/\Q H') X.xe s
section
variable {X:Cx}{pos:Pos}
noncomputable def cj (i:Nat):TG:=fun v σ H Q=>Q (σ.set i (some v)) H
theorem bY {i:Nat}{x:Str}(hN:X.N.Nodup)(hi:X.N[i]?=some x)(hx:Loc X.env.scope x)(hf:X.fn x=true\/X.env.scope.names.lookup x=some .local:=by first | exact .inl rfl | exact .inr rfl | assumption):PG X (.Name x pos) (cj i):=by
 intro pins s σ H v u Q I r h
 exact wpAny_assign_Name (gz I hN hi hx r (fun s' I'=>⟨_,H,I',h⟩) hf)
noncomputable def sJ:TGs:=fun vs σ H Q=>vs=[]/\Q σ H
noncomputable def gO (t:TG)(u:TGs):TGs:=fun vs σ H Q=>∃ v r,vs=v::r/\t v σ H fun σ' H'=>u r σ' H' Q
theorem jC:PGs X [] sJ:=by
 intro pins s σ H vs us Q I r h
 obtain ⟨e,h⟩:=h
 subst e
 cases r
 exact assignInOrder_nil ⟨σ,H,I,h⟩
theorem cX {e:Expr}{es:List Expr}{t:TG}{u:TGs}(h1:PG X e t)(h2:PGs X es u)
  (hs:(assignEach (e::es) X.env).map (·.2)=assign e X.env::(assignEach es X.env).map (·.2):=by rfl):PGs X (e::es) (gO t u):=by
 intro pins s σ H vs us Q I r h
 obtain ⟨v,vr,e1,h⟩:=h
 subst e1
 cases r with
 | cons r rr =>
  rw [hs]
  refine assignInOrder_cons (thn (h1 pins s σ H _ _ _ I r h) fun _ s1 ⟨σ1,H1,I1,q1⟩=>?_)
  exact h2 pins s1 σ1 H1 _ _ Q I1 rr q1
noncomputable def tR (K:a0a)(n:Nat)(t:TGs):TG:=fun v σ H Q=>∃ a xs,v=.ref a/\SqT K H a xs/\xs.length=n/\t xs σ H Q
theorem nP {es:List Expr}{k:Nat}{t:TGs}{n:Nat}(hc:X.calm=true)(h:PGs X es t)
  (hn:(assignEach es X.env).length=n:=by rfl) (hst:(assignEach es X.env).findIdx? (·.1)=none:=by rfl):PG X (.Tuple es k pos) (tR X.K n t):=by
 intro pins s σ H v u Q I r hw
 obtain ⟨a,xs,e1,hq,hl,hw⟩:=hw
 subst e1
 cases r
 obtain ⟨its,rv,ht,hz⟩:=I.tuple hq
 refine assign_Tuple_tuple (I.ok.hd hc) ht (by simp [hn,<- hl,rv.length]) hst fun h' hx=>?_
 have I1:Inv X pins σ H { s with heap:=h' }:=I.kept (t':=s.toks) fun b o e=>hx b o (a0B (Heap.lt_size e)) e
 exact h pins _ σ H xs _ Q I1 (by simpa using rv) hw
noncomputable def Ae (to ti:TE)(t:vi):TG:=fun v σ H Q=>to σ H fun o H1=>ti σ H1 fun i H2=>t o i v H2 fun H3=>Q σ H3
theorem tG {o i:Expr}{to ti:TE}{t:vi}(ho:PE X o to)(hi:PE X i ti)(hs:yO X t)
  (ha:∀ v,assign (.Subscript o i pos) X.env v=(do
   let ov <- holding [v] (eval o X.env)
   let iv <- holding [v,ov] (eval i X.env)
   standAt pos
   holding [v,ov,iv] (setItem ov iv v)
   release [v,ov,iv] []):=by intro _; rfl):PG X (.Subscript o i pos) (Ae to ti t):=by
 intro pins s σ H v u Q I r h
 rw [ha]
 refine wpAny_bind (wpAny_holding (thn (ho pins s σ H _ I h) fun ov s1 ⟨x,H1,I1,r1,q1⟩=>?_))
 refine wpAny_bind (wpAny_holding (thn (hi pins s1 σ H1 _ I1 q1) fun iv s2 ⟨y,H2,I2,r2,q2⟩=>?_))
 refine wpAny_bind (wpAny_standAt (wpAny_bind (wpAny_holding (thn (hs pins s2 σ H2 x y v ov iv u _ I2 r1 r2 r q2) fun _ s3 ⟨H3,I3,q3⟩=>?_))))
 exact wpAny_release ⟨σ,H3,I3,q3⟩
noncomputable def jX (te:TE)(g:TG):TS:=fun D σ H=>te σ H fun x H1=>g x σ H1 D.nx
theorem uf {tg e:Expr}{te:TE}{g:TG}(he:PE X e te)(hg:PG X tg g)(hs:swapsWithSole [tg] e pos.line X.env=pure false:=by rfl)(hw:swappedStores [tg] e X.env=pure none:=by rfl)
  (h1:(assignEach [tg] X.env).map (·.2)=[assign tg X.env]:=by rfl):PS X (.Assign [tg] e pos) (jX te g):=by
 intro pins s σ H D I h
 refine wpAny_Assign_stores (thn (he pins s σ H _ I h) fun v s1 ⟨x,H1,I1,r1,q1⟩=>?_) hs hw
 rw [h1]
 exact thn (hg pins s1 σ H1 x v _ I1 r1 q1) fun _ s2 q=>q
theorem vT {i:Nat}{x:Str}{e:Expr}{te:TE}{pos':Pos}(hN:X.N.Nodup)(hi:X.N[i]?=some x)(hx:Loc X.env.scope x)(he:PE X e te)(hs:swapsWith e (some (.Name x pos')) pos.line X.env=pure false:=by rfl)(hf:X.fn x=true\/X.env.scope.names.lookup x=some .local:=by first | exact .inl rfl | exact .inr rfl | assumption) :
  PS X (.Assign [.Name x pos'] e pos) (jX te (cj i)):=by
 intro pins s σ H D I h
 refine wpAny_Assign_Name (thn (he pins s σ H _ I h) fun v s1 ⟨y,H1,I1,r1,q1⟩=>?_) hs
 exact gz I1 hN hi hx r1 (fun s2 I2=>⟨_,H1,I2,q1⟩) hf
end
structure It where
 go:Nat->Hp->Prop
 yld:Nat->Hp->V->Hp->Prop
 stop:Nat->Hp->Prop
noncomputable def dX (X:Cx)(pins:List (Addr×Obj))(H:Hp)(b:Addr):Prop :=
 H b=none/\b≠X.env.locals/\b ∉ X.fs/\(b∈X.ex\/X.s₀.heap.objs.size<=b)/\(∀ x c,X.env.cells.lookup x=some c->c≠b)/\∀ p∈X.pn++pins,p.1≠b
theorem Inv.fpOk {X:Cx}{pins:List (Addr×Obj)}{σ:St}{H H':Hp}{s:Shared}{b:Addr}(I:Inv X pins σ H s)(hb:s.heap.objs.size<=b)(hn:H' b=none):dX X pins H' b:=by
 refine ⟨hn,a1B (a0l I.lt hb),I.nofs hb,.inr (a0m I.sz hb),fun x c e z=>?_,fun p hp z=>?_⟩
 ·obtain ⟨v,q⟩:=I.cell x c e
  exact absurd (a0l q.lt (by rw [z]; exact hb)) (a00 _)
 ·exact absurd (a0l (Heap.lt_size (I.pin p hp).1) (by rw [z]; exact hb)) (a00 _)
structure lT (P:Program)(w:World)(K:a0a)(tg:Expr)(J:It)(fp:List Addr)(it:Addr)(tn:Nat->Heap->Prop):Prop where
 mem:it∈fp
 obj:∀ i h,tn i h->∀ b∈fp,∃ o,h.get? b=some o/\∀ v,o.data≠.cell v
 keep:∀ i h h',tn i h->(∀ b∈fp,∀ o,h.get? b=some o->h'.get? b=some o)->tn i h'
 item:∀ (X:Cx),X.prog=P->X.w=w->X.K=K->X.calm=true->∀ (i:Nat) (pins:List (Addr×Obj)) (s:Shared) (σ:St) (H:Hp) (E:Value->Shared->Prop),Inv X pins σ H s->(∀ b∈fp,dX X pins H b)->tn i s.heap->J.go i H ->
  wpAny (model P w) X.A (pyNext (.ref it)) (fun r s1=>∃ u,r=some u /\
   wpAny (model P w) X.A (letOwnedTupleGo tg (.ref it) u) (fun _ s2=>∃ x H',Inv X pins σ H' s2/\RelV x u/\J.yld i H x H'/\tn (i+1) s2.heap/\∀ b∈fp,H' b=none) E s1) E s
 done:∀ (X:Cx),X.prog=P->X.w=w->X.K=K->X.calm=true->∀ (i:Nat) (pins:List (Addr×Obj)) (s:Shared) (σ:St) (H:Hp) (E:Value->Shared->Prop),Inv X pins σ H s->(∀ b∈fp,dX X pins H b)->tn i s.heap->J.stop i H ->
  wpAny (model P w) X.A (pyNext (.ref it)) (fun r s1=>r=none/\Inv X pins σ H s1) E s
 self:∀ (A:Around) (i:Nat) (s:Shared) (Q:Value->Shared->Prop) (E:Value->Shared->Prop),tn i s.heap->Q (.ref it) s->wpAny (model P w) A (pyIter (.ref it)) Q E s
noncomputable abbrev TI:=St->Hp->(It->Hp->Prop)->Prop
noncomputable def PIE (X:Cx)(pins:List (Addr×Obj))(σ:St)(tg:Expr)(R:It->Hp->Prop)(itv:Value)(s2:Shared):Prop :=
 ∃ (it:Addr) (fp:List Addr) (tn:Nat->Heap->Prop) (J:It) (H':Hp),itv=.ref it/\Inv X pins σ H' s2/\lT X.prog X.w X.K tg J fp it tn/\tn 0 s2.heap/\(∀ b∈fp,dX X pins H' b)/\R J H'
noncomputable def PI (X:Cx)(tg iter:Expr)(wi:TI):Prop :=
 ∀ (pins:List (Addr×Obj)) (s:Shared) (σ:St) (H:Hp) (R:It->Hp->Prop),Inv X pins σ H s->wi σ H R ->
  wpAny (model X.prog X.w) X.A (eval iter X.env) (fun v s1=>wpAny (model X.prog X.w) X.A (pyIter v) (PIE X pins σ tg R) X.xe s1) X.xe s
theorem l5 {M:Model}{A:Around}{E:Value->Shared->Prop}{s:Shared}{tg:Expr}{it:Addr}{u:Value}{o:Obj}{n:String}{vs:Array Value}{Q:Unit->Shared->Prop}(ho:s.heap.get? it=some o)(hc:o.cls=.type n)(hd:o.data=.fields vs)
  (hn:["enumerate","zip","dict_itemiterator","dict_reverseitemiterator","odict_iterator","itertools.zip_longest","itertools.pairwise"].contains n=false) (hQ:Q () s):wpAny M A (letOwnedTupleGo tg (.ref it) u) Q E s:=by
 unfold letOwnedTupleGo
 cases tg<;>first
  | exact wpAny_pure hQ
  | (cases u<;>first
    | exact wpAny_pure hQ
    | (refine wpAny_bind (wpAny_load ho ?_)
       rw [hc,hd]
       show wpAny M A (if (["enumerate","zip","dict_itemiterator","dict_reverseitemiterator","odict_iterator","itertools.zip_longest","itertools.pairwise"].contains n&&vs[0]?==some (rawInt _))=true then _ else _) Q E s
       rw [if_neg (by intro h; rw [hn,Bool.false_and] at h; cases h)]
       exact wpAny_pure hQ))
noncomputable def Itl (K:a0a)(a:Addr):It :=
 ⟨fun i H=>∃ xs x,SqL K H a xs/\xs[i]?=some x,fun i H x H'=>H'=H/\∀ xs,SqL K H a xs->xs[i]?=some x,fun i H=>∃ xs,SqL K H a xs/\xs.length<=i⟩
noncomputable def Itt (K:a0a)(a:Addr):It :=
 ⟨fun i H=>∃ xs x,SqT K H a xs/\xs[i]?=some x,fun i H x H'=>H'=H/\∀ xs,SqT K H a xs->xs[i]?=some x,fun i H=>∃ xs,SqT K H a xs/\xs.length<=i⟩
noncomputable def Itr (lo:Int)(n:Nat):It:=⟨fun i _=>i < n,fun i H x H'=>H'=H/\x=.int (lo+i),fun i _=>n<=i⟩
theorem j5 {P:Program}{w:World}{K:a0a}{tg:Expr}(a it:Addr):lT P w K tg (Itl K a) [it] it (fun i h=>h.IsListIter it a i) where
 mem:=by simp
 obj:=fun i h st b hb=>by
  have e:b=it:=by simpa using hb
  subst e
  obtain ⟨o,e,c,d⟩:=st
  exact ⟨o,e,fun v z=>by rw [d] at z; cases z⟩
 keep:=fun i h h' st k=>st.at fun o e=>k it (by simp) o e
 item:=by
  intro X hP hw hK hc i pins s σ H E I hf st hg
  subst hP hw hK
  obtain ⟨xs,x,hq,hx⟩:=hg
  obtain ⟨its,rv,p,hz⟩:=I.list hq
  obtain ⟨u,hu,ru⟩:=rv.get hx
  obtain ⟨f0,f1,f2,f3,f4,f5⟩:=hf it (by simp)
  refine wpAny_pyNext_list_item st p.isList (x:=u) (by simpa using hu) fun h' st' sb=>?_
  have I1:Inv X pins σ H { s with heap:=h' }:=I.turned (t':=s.toks) (fun b o hb e=>(sb.2 b hb).trans e) f0 f1 f3 f4 f5
  obtain ⟨o,e,c,d⟩:=id st'
  exact ⟨u,rfl,l5 (s:={ s with heap:=h' }) e c d (by decide) ⟨x,H,I1,ru,⟨rfl,fun ys hy=>by rw [I.list_inj hy hq]; exact hx⟩,st',fun b hb=>(hf b hb).1⟩⟩
 done:=by
  intro X hP hw hK hc i pins s σ H E I hf st hg
  subst hP hw hK
  obtain ⟨xs,hq,hx⟩:=hg
  obtain ⟨its,rv,p,hz⟩:=I.list hq
  obtain ⟨f0,f1,f2,f3,f4,f5⟩:=hf it (by simp)
  have hl:=rv.length
  exact wpAny_pyNext_list_end (I.ok.hd hc) st p.isList (by simp; omega) fun h' eb=>⟨rfl,I.turned (t':=s.toks) (fun b o hb e=>eb b o hb e) f0 f1 f3 f4 f5⟩
 self:=fun _ _ _ _ _ st h=>wpAny_pyIter_listiter st h
theorem iY {P:Program}{w:World}{K:a0a}{tg:Expr}(a it:Addr):lT P w K tg (Itt K a) [it] it (fun i h=>h.IsTupleIter it a i) where
 mem:=by simp
 obj:=fun i h st b hb=>by
  have e:b=it:=by simpa using hb
  subst e
  obtain ⟨o,e,c,d⟩:=st
  exact ⟨o,e,fun v z=>by rw [d] at z; cases z⟩
 keep:=fun i h h' st k=>st.at fun o e=>k it (by simp) o e
 item:=by
  intro X hP hw hK hc i pins s σ H E I hf st hg
  subst hP hw hK
  obtain ⟨xs,x,hq,hx⟩:=hg
  obtain ⟨its,rv,p,hz⟩:=I.tuple hq
  obtain ⟨u,hu,ru⟩:=rv.get hx
  obtain ⟨f0,f1,f2,f3,f4,f5⟩:=hf it (by simp)
  refine wpAny_pyNext_tuple_item st (show s.heap.IsTuple a its.toArray from p) (x:=u) (by simpa using hu) fun h' st' sb=>?_
  have I1:Inv X pins σ H { s with heap:=h' }:=I.turned (t':=s.toks) (fun b o hb e=>(sb.2 b hb).trans e) f0 f1 f3 f4 f5
  obtain ⟨o,e,c,d⟩:=id st'
  exact ⟨u,rfl,l5 (s:={ s with heap:=h' }) e c d (by decide) ⟨x,H,I1,ru,⟨rfl,fun ys hy=>by rw [I.tuple_inj hy hq]; exact hx⟩,st',fun b hb=>(hf b hb).1⟩⟩
 done:=by
  intro X hP hw hK hc i pins s σ H E I hf st hg
  subst hP hw hK
  obtain ⟨xs,hq,hx⟩:=hg
  obtain ⟨its,rv,p,hz⟩:=I.tuple hq
  obtain ⟨f0,f1,f2,f3,f4,f5⟩:=hf it (by simp)
  have hl:=rv.length
  exact wpAny_pyNext_tuple_end (I.ok.hd hc) st (show s.heap.IsTuple a its.toArray from p) (by simp; omega) fun h' eb=>⟨rfl,I.turned (t':=s.toks) (fun b o hb e=>eb b o hb e) f0 f1 f3 f4 f5⟩
 self:=fun _ _ _ _ _ st h=>wpAny_pyIter_tupleiter st h
theorem iQ {P:Program}{w:World}{K:a0a}{tg:Expr}(it:Addr)(lo:Int)(n:Nat):lT P w K tg (Itr lo n) [it] it (fun i h=>IsRangeIter h it (lo+(i:Nat) * 1) ((n:Int)-(i:Nat)) 1) where
 mem:=by simp
 obj:=fun i h st b hb=>by
  have e:b=it:=by simpa using hb
  subst e
  exact ⟨_,st,fun v z=>by
   have z':Data.fields _=Data.cell v:=z
   cases z'⟩
 keep:=fun i h h' st k=>k it (by simp) _ st
 item:=by
  intro X hP hw hK hc i pins s σ H E I hf st hg
  subst hP hw hK
  obtain ⟨f0,f1,f2,f3,f4,f5⟩:=hf it (by simp)
  have W:=Walks.range (prog:=X.prog) (w:=X.w) (I.ok.hd hc) it lo 1 n
  refine W.item i s _ _ hg st fun v h' tk hv st' kk=>?_
  obtain ⟨t,rfl⟩:=hv
  have I1:Inv X pins σ H { s with heap:=h',toks:=tk }:=I.turned (fun b o hb e=>kk b o (by simpa using hb) e) f0 f1 f3 f4 f5
  refine ⟨_,rfl,l5 (s:={ s with heap:=h',toks:=tk }) (n:="range_iterator") st' rfl rfl (by decide) ⟨.int (lo+i),H,I1,⟨t,?_⟩,⟨rfl,rfl⟩,st',fun b hb=>(hf b hb).1⟩⟩
  rw [Int.mul_one]
 done:=by
  intro X hP hw hK hc i pins s σ H E I hf st hg
  subst hP hw hK
  obtain ⟨f0,f1,f2,f3,f4,f5⟩:=hf it (by simp)
  exact wpAny_pyNext_range_end (I.ok.hd hc) st (by have:n<=i:=hg; omega) fun h' eb=>⟨rfl,I.turned (t':=s.toks) (fun b o hb e=>eb b o hb e) f0 f1 f3 f4 f5⟩
 self:=fun _ _ _ _ _ st h=>wpAny_pyIter_rangeiter st h
end L2
namespace L2
open PySem PySem.Spec PyProof.Rows
section
variable {X:Cx}{tg:Expr}
noncomputable def mU (K:a0a)(tl:TE):TI:=fun σ H R=>tl σ H fun x H1=>∃ a,x=.ref a/\(∃ xs,SqL K H1 a xs)/\R (Itl K a) H1
noncomputable def yE (K:a0a)(tl:TE):TI:=fun σ H R=>tl σ H fun x H1=>∃ a,x=.ref a/\(∃ xs,SqT K H1 a xs)/\R (Itt K a) H1
theorem jl {l:Expr}{tl:TE}(hl:PE X l tl):PI X tg l (mU X.K tl):=by
 intro pins s σ H R I h
 refine thn (hl pins s σ H _ I h) fun v s1 ⟨x,H1,I1,r1,q1⟩=>?_
 obtain ⟨a,e,⟨xs,hq⟩,q⟩:=q1
 subst e
 cases r1
 obtain ⟨its,rv,p,hz⟩:=I1.list hq
 refine wpAny_pyIter_list p.isList ?_
 refine ⟨s1.heap.objs.size,[s1.heap.objs.size],_,_,H1,rfl,I1.kept (t':=s1.toks) fun b o e=>Heap.get?_push_of_some _ e,j5 a _,⟨_,Heap.get?_push_size _ rfl,rfl,rfl⟩,fun b hb=>?_,q⟩
 have e:b=s1.heap.objs.size:=by simpa using hb
 subst e
 exact I1.fpOk (a0b _) (I1.hok.fresh (a0b _))
theorem u5 {l:Expr}{tl:TE}(hl:PE X l tl):PI X tg l (yE X.K tl):=by
 intro pins s σ H R I h
 refine thn (hl pins s σ H _ I h) fun v s1 ⟨x,H1,I1,r1,q1⟩=>?_
 obtain ⟨a,e,⟨xs,hq⟩,q⟩:=q1
 subst e
 cases r1
 obtain ⟨its,rv,p,hz⟩:=I1.tuple hq
 refine wpAny_pyIter_tuple (show s1.heap.IsTuple a its.toArray from p) ?_
 refine ⟨s1.heap.objs.size,[s1.heap.objs.size],_,_,H1,rfl,I1.kept (t':=s1.toks) fun b o e=>Heap.get?_push_of_some _ e,iY a _,⟨_,Heap.get?_push_size _ rfl,rfl,rfl⟩,fun b hb=>?_,q⟩
 have e:b=s1.heap.objs.size:=by simpa using hb
 subst e
 exact I1.fpOk (a0b _) (I1.hok.fresh (a0b _))
theorem nD {pins:List (Addr×Obj)}{σ:St}{H:Hp}{s:Shared}{R:It->Hp->Prop}{E:Value->Shared->Prop}{lo hi:Int}{t u v:Tok}{tk:Nat}(I:Inv X pins σ H s)(h1:-(2 ^ 62)<=lo)(h2:lo < 2 ^ 62)(h3:-(2 ^ 62)<=hi)(h4:hi < 2 ^ 62)
  (q:R (Itr lo (hi-lo).toNat) H):wpAny (model X.prog X.w) X.A (pyIter (.ref s.heap.objs.size)) (PIE X pins σ tg R) E { s with heap:=s.heap.push { cls:=.type "range",data:=.fields #[.int lo t,.int hi u,.int 1 v] },toks:=tk }:=by
 refine wpAny_pyIter_range (IsRange.new ..) (small_one h1 h2 h3 h4) ?_
 have I1:Inv X pins σ H { s with heap:=s.heap.push { cls:=.type "range",data:=.fields #[.int lo t,.int hi u,.int 1 v] },toks:=tk }:=I.kept fun b o e=>Heap.get?_push_of_some _ e
 refine ⟨(s.heap.push { cls:=.type "range",data:=.fields #[.int lo t,.int hi u,.int 1 v] }).objs.size,[(s.heap.push { cls:=.type "range",data:=.fields #[.int lo t,.int hi u,.int 1 v] }).objs.size],_,_,H,rfl,
  I1.kept (t':=tk) fun b o e=>Heap.get?_push_of_some _ e,iQ _ lo (hi-lo).toNat,?_,fun b hb=>?_,q⟩
 ·have e1:lo+((0:Nat):Int) * 1=lo:=by simp
  have e2:(((hi-lo).toNat:Nat):Int)-((0:Nat):Int)=Builtin.Range.rangeSize lo hi 1:=by rw [rangeSize_one]; split<;>omega
  show IsRangeIter _ _ (lo+((0:Nat):Int) * 1) ((((hi-lo).toNat:Nat):Int)-((0:Nat):Int)) 1
  rw [e1,e2]
  exact Heap.get?_push_size _ rfl
 ·have e:b=(s.heap.push { cls:=.type "range",data:=.fields #[.int lo t,.int hi u,.int 1 v] }).objs.size:=by simpa using hb
  subst e
  exact I1.fpOk (a0b _) (I1.hok.fresh (a0b _))
noncomputable def rB (ta:TA):TI:=fun σ H R=>ta σ H fun vs H1=>∃ j:Int,vs=[.int j]/\-(2 ^ 62)<=j/\j < 2 ^ 62/\R (Itr 0 j.toNat) H1
theorem jG {a:Expr}{ta:TA}{p pos:Pos}(hg:Gl X "range")(hm:X.mg "range"=none)(ha:PA X [a] ta)(hs:starEach [a] X.env=[(false,eval a X.env)]:=by rfl):PI X tg (.Call (.Name "range" p) [a] [] pos) (rB ta):=by
 intro pins s σ H R I h
 refine Call_ (eJ I hg hm boot_range (a07 (thn (ha pos pins s σ H _ I h) fun us s1 ⟨vs,H1,I1,r1,q1⟩=>?_) hs rfl))
 obtain ⟨j,e,q1,q2,q⟩:=q1
 subst e
 cases r1 with
 | cons r rr =>
  cases rr
  obtain ⟨t,rfl⟩:=r
  exact call_range_1 (nD I1 (by omega) (by omega) q1 q2 (by simpa using q))
noncomputable def tI (wi:TI)(g:TG)(tb:TS):TS:=fun D σ H=>wi σ H fun J H1=>∃ W:Nat->Nat->St->Hp->Prop,(∃ m,W 0 m σ H1)/\∀ i m σ H,W i m σ H ->
 (J.stop i H/\D.nx σ H)\/(J.go i H/\∃ N:St->Hp->Prop,(∀ σ' H',N σ' H'->∃ m',m' < m/\W (i+1) m' σ' H')/\∀ x H',J.yld i H x H'->g x σ H' fun σ2 H2=>tb { D with nx:=N,ct:=N,bk:=D.nx } σ2 H2)
noncomputable def ey (fp:List Addr)(h:Heap):List (Addr×Obj):=fp.filterMap fun b=>(h.get? b).map fun o=>(b,o)
theorem bp {fp:List Addr}{h:Heap}{b:Addr}{o:Obj}(hb:b∈fp)(e:h.get? b=some o):(b,o)∈ey fp h:=a2h.mpr ⟨b,hb,by rw [e]; rfl⟩
theorem kl {fp:List Addr}{h:Heap}{p:Addr×Obj}(hp:p∈ey fp h):p.1∈fp/\h.get? p.1=some p.2:=by
 obtain ⟨b,hb,e⟩:=a2h.mp hp
 cases q:h.get? b with
 | none=>rw [q] at e; cases e
 | some o =>
  rw [q] at e
  have e':(b,o)=p:=a0w e
  subst e'
  exact ⟨hb,q⟩
theorem Inv.pinned {pins:List (Addr×Obj)}{σ:St}{H:Hp}{s:Shared}{fp:List Addr}(I:Inv X pins σ H s)(hf:∀ b∈fp,dX X pins H b)(ho:∀ b∈fp,∃ o,s.heap.get? b=some o/\∀ v,o.data≠.cell v):Inv X (pins++ey fp s.heap) σ H s :=
 I.pins_of fun p hp=>(a0O.mp hp).elim (fun z=>I.pin p (a0g _ z)) fun z=>by
  obtain ⟨hb,e⟩:=kl z
  obtain ⟨f0,f1,f2,_⟩:=hf p.1 hb
  obtain ⟨o,e',d⟩:=ho p.1 hb
  rw [e] at e'; cases e'
  exact ⟨e,f0,f1,f2,d⟩
theorem Inv.unpinned {pins pl:List (Addr×Obj)}{σ:St}{H:Hp}{s:Shared}(I:Inv X (pins++pl) σ H s):Inv X pins σ H s:=I.pins_of fun p hp=>I.pin p (a0g _ (a0V _ hp))
theorem iR {iter:Expr}{body:List Stmt}{wi:TI}{g:TG}{tb:TS}{pos:Pos}(hp:PassesOwn (model X.prog X.w) X.A X.env X.xe)(hc:X.calm=true)(hi:PI X tg iter wi)(hg:PG X tg g)(hb:PSs X body tb)
  (hs:∀ x,foldedSetIterable iter X.env x=pure x:=by intro _; rfl):PS X (.For tg iter body [] pos) (tI wi g tb):=by
 intro pins s σ H D I h
 refine wpAny_For (thn (hi pins s σ H _ I h) fun v s1 h1=>thn h1 fun itv s2 h2=>?_) hs
 obtain ⟨it,fp,tn,J,H2,e,I2,T,st2,f2,W,⟨m0,w0⟩,turn⟩:=h2
 subst e
 -- what stays true of the iterator's objects through the loop
 have stat:∀ {H':Hp},(∀ b∈fp,H' b=none)->∀ b∈fp,dX X pins H' b:=fun hn b hb=>⟨hn b hb,(f2 b hb).2⟩
 refine codeAny_forLoop_any (fun n s'=>∃ i σ' H',Inv X pins σ' H' s'/\tn i s'.heap/\(∀ b∈fp,H' b=none)/\W i n σ' H') ?_ m0 ⟨0,σ,H2,I2,st2,fun b hb=>(f2 b hb).1,w0⟩
 rintro n s3 ⟨i,σ3,H3,I3,st3,fr3,w3⟩
 rcases turn i n σ3 H3 w3 with ⟨stop,qn⟩ | ⟨go,N,hN,step⟩
 ·refine wpAny_passesOwn hp (thn (T.done X rfl rfl rfl hc i pins s3 σ3 H3 X.xe I3 (stat fr3) st3 stop) fun r s4 ⟨hr,I4⟩=>?_)
  subst hr
  exact wpAny_execs_nil ⟨σ3,H3,I4,qn⟩
 ·refine wpAny_passesOwn hp (thn (T.item X rfl rfl rfl hc i pins s3 σ3 H3 X.xe I3 (stat fr3) st3 go) fun r s4 ⟨u,hr,h4⟩=>?_)
  subst hr
  refine wpAny_passesOwn hp (thn h4 fun _ s5 ⟨x,H5,I5,r5,y5,st5,fr5⟩=>?_)
  have I5':=I5.pinned (stat fr5) (T.obj _ _ st5)
  refine wpAny_passesOwn hp (thn (hg _ s5 σ3 H5 x u _ I5' r5 (step x H5 y5)) fun _ s6 ⟨σ6,H6,I6,q6⟩=>?_)
  refine wpAny_passesOwn hp (thn (hb _ s6 σ6 H6 _ I6 q6) fun f s7 q7=>?_)
  have again:∀ {σ7:St} {H7:Hp},Inv X (pins++ey fp s5.heap) σ7 H7 s7->N σ7 H7->∃ m,m < n/\∃ i σ' H',Inv X pins σ' H' s7/\tn i s7.heap/\(∀ b∈fp,H' b=none)/\W i m σ' H':=fun {σ7 H7} I7 n7=>by
   obtain ⟨m',hm,w7⟩:=hN σ7 H7 n7
   refine ⟨m',hm,i+1,σ7,H7,I7.unpinned,T.keep _ _ _ st5 fun b hb o e=>(I7.pin (b,o) (a0g _ (a0g _ (bp hb e)))).1,fun b hb=>?_,w7⟩
   obtain ⟨o,e,d⟩:=T.obj _ _ st5 b hb
   exact (I7.pin (b,o) (a0g _ (a0g _ (bp hb e)))).2.1
  cases f with
  | next=>obtain ⟨σ7,H7,I7,n7⟩:=q7; exact again I7 n7
  | cont=>obtain ⟨σ7,H7,I7,n7⟩:=q7; exact again I7 n7
  | brk=>obtain ⟨σ7,H7,I7,q7⟩:=q7; exact ⟨σ7,H7,I7.unpinned,q7⟩
  | ret v=>obtain ⟨x7,σ7,H7,I7,r7,q7⟩:=q7; exact ⟨x7,σ7,H7,I7.unpinned,r7,q7⟩
end
end L2
namespace L2
open PySem PySem.Spec PyProof.Rows
noncomputable abbrev R2:=V->V->Hp->VK->Prop
noncomputable def OpR (X:Cx)(f:Value->Value->Sem Value)(r:R2):Prop :=
 ∀ (pins:List (Addr×Obj)) (s:Shared) (σ:St) (H:Hp) (x y:V) (v u:Value) (Q:VK),Inv X pins σ H s->RelV x v->RelV y u->r x y H Q ->
  wpAny (model X.prog X.w) X.A (f v u) (EP X pins σ Q) X.xe s
noncomputable def cn (X:Cx)(f:Value)(r:List V->Hp->VK->Prop):Prop :=
 ∀ (pins:List (Addr×Obj)) (s:Shared) (σ:St) (H:Hp) (xs:List V) (us:List Value) (Q:VK),Inv X pins σ H s->Vals xs us->r xs H Q ->
  wpAny (model X.prog X.w) X.A (call f us) (EP X pins σ Q) X.xe s
noncomputable def zE (X:Cx)(r:V->Hp->(Bool->Hp->Prop)->Prop):Prop :=
 ∀ (pins:List (Addr×Obj)) (s:Shared) (σ:St) (H:Hp) (x:V) (v:Value) (Q:Bool->Hp->Prop),Inv X pins σ H s->RelV x v->r x H Q ->
  wpAny (model X.prog X.w) X.A (truthy v) (TP X pins σ Q) X.xe s
noncomputable def tOp (r:R2)(ta tb:TE):TE:=fun σ H Q=>ta σ H fun x H1=>tb σ H1 fun y H2=>r x y H2 Q
noncomputable def rI (C:Int->Int->Prop)(g:Int->Int->V):R2:=fun x y H Q=>∃ i j,x=.int i/\y=.int j/\C i j/\Q (g i j) H
noncomputable def rI0 (g:Int->Int->V):R2:=fun x y H Q=>∃ i j,x=.int i/\y=.int j/\Q (g i j) H
section
variable {X:Cx}{a b c:Expr}{ta tb tc:TE}{pos:Pos}
theorem vx (ha:PE X a ta)(hb:PE X b tb){pins:List (Addr×Obj)}{s:Shared}{σ:St}{H:Hp}{R:V->V->Hp->Prop}(I:Inv X pins σ H s)
  (h:ta σ H fun x H1=>tb σ H1 fun y H2=>R x y H2) {Q:Value->Shared->Prop} {f:Value->Value->Sem Value}
  (hf:∀ v u s2 x y H2,Inv X pins σ H2 s2->RelV x v->RelV y u->R x y H2->wpAny (model X.prog X.w) X.A (f v u) Q X.xe s2) :
  wpAny (model X.prog X.w) X.A (eval a X.env) (fun v s₁=>wpAny (model X.prog X.w) X.A (eval b X.env) (fun u s₂=>wpAny (model X.prog X.w) X.A (f v u) Q X.xe s₂) X.xe s₁) X.xe s:=by
 refine thn (ha pins s σ H _ I h) fun v s1 ⟨x,H1,I1,r1,q1⟩=>?_
 refine thn (hb pins s1 σ H1 _ I1 q1) fun u s2 ⟨y,H2,I2,r2,q2⟩=>?_
 exact hf v u s2 x y H2 I2 r1 r2 q2
theorem c5 {op:Operator}{r:R2}(ho:OpR X (binaryOp op) r)(ha:PE X a ta)(hb:PE X b tb):PE X (.BinOp a op b pos) (tOp r ta tb):=by
 intro pins s σ H Q I h
 exact wpAny_BinOp (vx ha hb I h fun v u s2 x y H2 I2 rx ry q=>ho pins s2 σ H2 x y v u Q I2 rx ry q)
theorem opI {f:Value->Value->Sem Value}{C:Int->Int->Prop}{g:Int->Int->Int}
  (rule:∀ (i j:Int) (t u:Tok) (s:Shared) (Q:Value->Shared->Prop) (E:Value->Shared->Prop),C i j->Q (.int (g i j) s.toks) { s with toks:=s.toks+1 }->wpAny (model X.prog X.w) X.A (f (.int i t) (.int j u)) Q E s) :
  OpR X f (rI C fun i j=>.int (g i j)):=by
 intro pins s σ H x y v u Q I rx ry h
 obtain ⟨i,j,rfl,rfl,hc,q⟩:=h
 obtain ⟨t,rfl⟩:=rx
 obtain ⟨t',rfl⟩:=ry
 exact rule i j t t' s _ _ hc ⟨.int (g i j),H,I.tok _,⟨_,rfl⟩,q⟩
theorem yk {f:Value->Value->Sem Value}{g:Int->Int->Int}
  (rule:∀ (i j:Int) (t u:Tok) (s:Shared) (Q:Value->Shared->Prop) (E:Value->Shared->Prop),Q (.int (g i j) s.toks) { s with toks:=s.toks+1 }->wpAny (model X.prog X.w) X.A (f (.int i t) (.int j u)) Q E s) :
  OpR X f (rI0 fun i j=>.int (g i j)):=by
 intro pins s σ H x y v u Q I rx ry h
 obtain ⟨i,j,rfl,rfl,q⟩:=h
 obtain ⟨t,rfl⟩:=rx
 obtain ⟨t',rfl⟩:=ry
 exact rule i j t t' s _ _ ⟨.int (g i j),H,I.tok _,⟨_,rfl⟩,q⟩
theorem uM {f:Value->Value->Sem Value}{g:Int->Int->Bool}
  (rule:∀ (i j:Int) (t u:Tok) (s:Shared) (Q:Value->Shared->Prop) (E:Value->Shared->Prop),Q (.bool (g i j)) s->wpAny (model X.prog X.w) X.A (f (.int i t) (.int j u)) Q E s) :
  OpR X f (rI0 fun i j=>.bl (g i j)):=by
 intro pins s σ H x y v u Q I rx ry h
 obtain ⟨i,j,rfl,rfl,q⟩:=h
 obtain ⟨t,rfl⟩:=rx
 obtain ⟨t',rfl⟩:=ry
 exact rule i j t t' s _ _ ⟨.bl (g i j),H,I,rfl,q⟩
noncomputable def ur (i j:Int):Prop:=0 < j/\j < 1073741824
noncomputable def um (i j:Int):Prop:=0<=j/\j<=1000000/\i.natAbs < 2 ^ 64
noncomputable def CMul (i j:Int):Prop:=(-(2 ^ 64) < i/\i < 2 ^ 64)\/(-(2 ^ 64) < j/\j < 2 ^ 64)
theorem CMul.ok {i j:Int}(h:CMul i j):IntMulOk i j:=by
 rcases h with ⟨h1,h2⟩ | ⟨h1,h2⟩
 ·exact .of_left (intBits_le_64 h1 h2)
 ·exact .of_right (intBits_le_64 h1 h2)
theorem op_add:OpR X (binaryOp .Add) (rI0 fun i j=>.int (i+j)):=yk fun _ _ _ _ _ _ _ q=>add_int q
theorem vd:OpR X (binaryOp .Sub) (rI0 fun i j=>.int (i-j)):=yk fun _ _ _ _ _ _ _ q=>sub_int q
theorem op_mul:OpR X (binaryOp .Mult) (rI CMul fun i j=>.int (i * j)):=opI fun _ _ _ _ _ _ _ hc q=>mul_int q hc.ok
theorem pN:OpR X (binaryOp .FloorDiv) (rI ur fun i j=>.int (i / j)):=opI fun i j _ _ _ _ _ hc q=>by
 have h1:(0:Int) < j:=hc.1
 have h2:j < 1073741824:=hc.2
 exact floordiv_int (by omega) (by rw [Int.fdiv_eq_ediv_of_nonneg i (by omega)]; exact q) (.inl (PyProof.noPylong_small (by omega)))
theorem ue:OpR X (binaryOp .Mod) (rI (fun _ j=>0 < j) fun i j=>.int (i % j)):=opI fun i j _ _ _ _ _ hc q=>by
 have h1:(0:Int) < j:=hc
 exact mod_int' (by omega) (by rw [a1d i (by omega)]; exact q)
theorem qL:OpR X (binaryOp .Mod) (rI (fun _ j=>j≠0) fun i j=>.int (i.fmod j)):=opI fun _ _ _ _ _ _ _ hc q=>mod_int' hc q
theorem uU:OpR X (binaryOp .Pow) (rI um fun i j=>.int (i ^ j.toNat)):=opI fun _ _ _ _ _ _ _ hc q=>pow_int_small hc.1 hc.2.1 hc.2.2 q
end
section
variable {X:Cx}{a b c:Expr}{ta tb tc:TE}{pos:Pos}
theorem vh {pins:List (Addr×Obj)}{σ:St}{H:Hp}{s:Shared}{Q:VK}{k k':Bool}(I:Inv X pins σ H s)(q:Q (.bl k) H)(e:k=k'):EP X pins σ Q (.bool k') s:=by
 subst e
 exact ⟨.bl k,H,I,rfl,q⟩
theorem xG:OpR X (compareOp .Lt) (rI0 fun i j=>.bl (decide (i < j))):=uM fun _ _ _ _ _ _ _ q=>lt_int q
theorem xr:OpR X (compareOp .Gt) (rI0 fun i j=>.bl (decide (j < i))):=uM fun _ _ _ _ _ _ _ q=>gt_int q
theorem zh:OpR X (compareOp .GtE) (rI0 fun i j=>.bl (decide (j<=i))):=uM fun _ _ _ _ _ _ _ q=>ge_int q
theorem qP:OpR X (compareOp .IsNot) (fun x y H Q=>y=.non/\Q (.bl (!decide (x=.non))) H):=by
 intro pins s σ H x y v u Q I rx ry h
 obtain ⟨rfl,q⟩:=h
 cases ry
 refine isnot_none_gen (vh I q ?_)
 cases x<;>first
  | (cases rx; rfl)
  | (obtain ⟨t,rfl⟩:=rx; rfl)
theorem OpR.or {f:Value->Value->Sem Value}{r r':R2}(h:OpR X f r)(h':OpR X f r'):OpR X f (fun x y H Q=>r x y H Q\/r' x y H Q):=by
 intro pins s σ H x y v u Q I rx ry q
 rcases q with q | q
 ·exact h pins s σ H x y v u Q I rx ry q
 ·exact h' pins s σ H x y v u Q I rx ry q
theorem cR (b:Expr){op:CmpOp}(h:op≠.In:=by decide)(h2:op≠.NotIn:=by decide):behindInMarks op b=false:=by
 have e1:(op==CmpOp.In)=false:=by cases op<;>first | rfl | exact absurd rfl h
 have e2:(op==CmpOp.NotIn)=false:=by cases op<;>first | rfl | exact absurd rfl h2
 cases b<;>simp [behindInMarks,e1,e2]
theorem jF {op:CmpOp}{r:R2}(ho:OpR X (compareOp op) r)(ha:PE X a ta)(hb:PE X b tb)(hm:behindInMarks op b=false):PE X (.Compare a [op] [b] pos) (tOp r ta tb):=by
 intro pins s σ H Q I h
 exact wpAny_Compare1 (vx ha hb I h fun v u s2 x y H2 I2 rx ry q=>ho pins s2 σ H2 x y v u Q I2 rx ry q) hm
noncomputable def rK (t:TE):TT:=fun σ H Q=>t σ H fun x H'=>∃ k,x=.bl k/\Q k H'
theorem jA {op:CmpOp}{r:R2}(ho:OpR X (compareOp op) r)(ha:PE X a ta)(hb:PE X b tb)(hm:behindInMarks op b=false):PT X (.Compare a [op] [b] pos) (rK (tOp r ta tb)):=by
 intro pins s σ H Q I h
 refine wpAny_isTrue_Compare1 (thn (ha pins s σ H _ I h) fun v s1 ⟨x,H1,I1,r1,q1⟩=>thn (hb pins s1 σ H1 _ I1 q1) fun u s2 ⟨y,H2,I2,r2,q2⟩ =>
  thn (ho pins s2 σ H2 x y v u _ I2 r1 r2 q2) fun c s3 ⟨z,H3,I3,r3,k,e,q3⟩=>?_) hm
 subst e
 cases r3
 exact wpAny_truthy_bool ⟨H3,I3,q3⟩
noncomputable def n4 (K:a0a)(x:V)(H:Hp)(k:Bool):Prop :=
 match x with
 | .non=>k=false
 | .bl b=>k=b
 | .int i=>k=(i != 0)
 | .str y=>y.length<=sizeLine/\k=((y.length:Int) != 0)
 | .byt y=>y.size<=sizeLine/\k=((y.size:Int) != 0)
 | .ref p=>(∃ xs,SqL K H p xs/\k=!xs.isEmpty)\/(∃ xs,SqT K H p xs/\k=!xs.isEmpty)\/∃ kvs,H p=some (.dK kvs)/\k=!kvs.isEmpty
 | _=>False
theorem i3 {κ:Type}{kvs:List (κ×V)}{vs:List (κ×Value)}(r:KV kvs vs):(!vs.isEmpty)=!kvs.isEmpty:=by
 cases r<;>rfl
theorem dU {xs:List V}{its:List Value}(r:Vals xs its):(!its.toArray.isEmpty)=!xs.isEmpty:=by
 cases r<;>simp
theorem dr:(sizeLine:Nat) < 2 ^ 63:=by rw [sizeLine_eq]; decide
theorem iH:zE X (fun x H Q=>∃ k,n4 X.K x H k/\Q k H):=by
 intro pins s σ H x v Q I rx h
 obtain ⟨k,e,q⟩:=h
 have hl:=dr
 have hs:sizeLine=16777216:=sizeLine_eq
 cases x with
 | non =>
  cases rx
  have e':k=false:=e
  subst e'
  exact truthy_none ⟨H,I,q⟩
 | bl b =>
  cases rx
  have e':k=b:=e
  subst e'
  exact wpAny_truthy_bool ⟨H,I,q⟩
 | int i =>
  obtain ⟨t,rfl⟩:=rx
  have e':k=(i != 0):=e
  subst e'
  exact PySem.P.truthy_int ⟨H,I,q⟩
 | str y =>
  obtain ⟨t,rfl⟩:=rx
  obtain ⟨hy,e'⟩:y.length<=sizeLine/\k=((y.length:Int) != 0):=e
  subst e'
  exact PySem.P.truthy_str (by omega) ⟨H,I.tok _,q⟩
 | byt y =>
  obtain ⟨t,rfl⟩:=rx
  obtain ⟨hy,e'⟩:y.size<=sizeLine/\k=((y.size:Int) != 0):=e
  subst e'
  exact PySem.W.truthy_bytes (by omega) ⟨H,I.tok _,q⟩
 | ref p =>
  cases rx
  have e':(∃ xs,SqL X.K H p xs/\k=!xs.isEmpty)\/(∃ xs,SqT X.K H p xs/\k=!xs.isEmpty)\/∃ kvs,H p=some (.dK kvs)/\k=!kvs.isEmpty:=e
  rcases e' with ⟨xs,hx,e'⟩ | ⟨xs,hx,e'⟩ | ⟨kvs,hx,e'⟩
  ·subst e'
   obtain ⟨its,r,pl,hz⟩:=I.list hx
   have hlen:=r.length
   exact wpAny_truthy_list pl.isList (by simp only [a0f]; omega) ⟨H,I.tok _,by rw [dU r]; exact q⟩
  ·subst e'
   obtain ⟨its,r,pl,hz⟩:=I.tuple hx
   have hlen:=r.length
   exact truthy_tuple pl (by simp only [a0f]; omega) ⟨H,I.tok _,by rw [dU r]; exact q⟩
  ·subst e'
   obtain ⟨hz,hS,vs,r,m⟩:kvs.length<=sizeLine/\(p==sysModules)=false/\∃ vs,KV kvs vs/\s.heap.DictOf (gu X.prog X.w) p vs:=I.hok p _ hx
   have hlen:kvs.length=vs.length:=Paired.length r
   exact wpAny_truthy_dict hS m (by omega) ⟨H,I.tok _,by rw [i3 r]; exact q⟩
 | _=>exact (show False from e).elim
theorem ma (ha:PE X a ta)(he:∀ whole,isTrue a X.env whole=(do let v <- whole; standAt a.pos; holding [v] (truthy v))) :
  PT X a (fun σ H Q=>ta σ H fun x H'=>∃ k,n4 X.K x H' k/\Q k H'):=by
 intro pins s σ H Q I h
 exact isTrue_plain (thn (ha pins s σ H _ I h) fun v s1 ⟨x,H1,I1,r1,q1⟩=>iH pins s1 σ H1 x v Q I1 r1 q1) (he _)
theorem op_add_str:OpR X (binaryOp .Add) (fun x y H Q=>∃ i j,x=.str i/\y=.str j/\i.length+j.length<=sizeLine/\Q (.str (i++j)) H):=by
 intro pins s σ H x y v u Q I rx ry h
 obtain ⟨i,j,rfl,rfl,hz,q⟩:=h
 obtain ⟨t,rfl⟩:=rx
 obtain ⟨t',rfl⟩:=ry
 exact add_str (fun t' tk=>⟨.str (i++j),H,I.tok _,⟨_,rfl⟩,q⟩) hz
theorem dB {x:V}{us:List Value}(r:Vals [x] us):∃ u,us=[u]/\RelV x u:=by
 cases r with
 | cons r1 r2=>cases r2; exact ⟨_,rfl,r1⟩
theorem rC {x y:V}{us:List Value}(r:Vals [x,y] us):∃ u w',us=[u,w']/\RelV x u/\RelV y w':=by
 cases r with
 | cons r1 r2 =>
  cases r2 with
  | cons r3 r4=>cases r4; exact ⟨_,_,rfl,r1,r3⟩
theorem kz (hc:X.calm=true):cn X (.builtin "max") (fun xs H Q=>∃ i j,xs=[.int i,.int j]/\Q (.int (if j > i then j else i)) H):=by
 intro pins s σ H xs us Q I r h
 obtain ⟨i,j,rfl,q⟩:=h
 obtain ⟨u,w',rfl,⟨t,rfl⟩,⟨t',rfl⟩⟩:=rC r
 refine max_two_ints (I.ok.hd hc) fun h' tk k=>⟨_,H,I.kept k,?_,q⟩
 by_cases hj:j > i
 ·rw [if_pos hj,if_pos hj]; exact ⟨_,rfl⟩
 ·rw [if_neg hj,if_neg hj]; exact ⟨_,rfl⟩
theorem ka:cn X (.type "int") (fun xs H Q=>(∃ i,xs=[.int i]/\Q (.int i) H)\/∃ k,xs=[.bl k]/\Q (.int (if k then 1 else 0)) H):=by
 intro pins s σ H xs us Q I r h
 rcases h with ⟨i,rfl,q⟩ | ⟨k,rfl,q⟩
 ·obtain ⟨u,rfl,t,rfl⟩:=dB r
  exact call_int_int ⟨.int i,H,I,⟨_,rfl⟩,q⟩
 ·obtain ⟨u,rfl,r1⟩:=dB r
  cases r1
  exact call_int_bool ⟨.int (if k then 1 else 0),H,I.tok _,⟨_,rfl⟩,q⟩
noncomputable def yS (K:a0a)(x:V)(H:Hp)(n:Nat):Prop :=
 match x with
 | .str y=>y.length<=sizeLine/\n=y.length
 | .byt y=>y.size<=sizeLine/\n=y.size
 | .ref p=>(∃ xs,SqL K H p xs/\n=xs.length)\/∃ xs,SqT K H p xs/\n=xs.length
 | _=>False
theorem nT:cn X (.builtin "len") (fun xs H Q=>∃ x n,xs=[x]/\yS X.K x H n/\Q (.int n) H):=by
 intro pins s σ H xs us Q I r h
 obtain ⟨x,n,rfl,e,q⟩:=h
 obtain ⟨u,rfl,rx⟩:=dB r
 have hl:=dr
 have hs:sizeLine=16777216:=sizeLine_eq
 cases x with
 | str y =>
  obtain ⟨t,rfl⟩:=rx
  obtain ⟨hy,e'⟩:y.length<=sizeLine/\n=y.length:=e
  subst e'
  exact len_str (by omega) ⟨.int _,H,I.tok _,⟨_,rfl⟩,q⟩
 | byt y =>
  obtain ⟨t,rfl⟩:=rx
  obtain ⟨hy,e'⟩:y.size<=sizeLine/\n=y.size:=e
  subst e'
  exact PySem.W.len_bytes (by omega) ⟨.int _,H,I.tok _,⟨_,rfl⟩,q⟩
 | ref p =>
  cases rx
  have e':(∃ xs,SqL X.K H p xs/\n=xs.length)\/∃ xs,SqT X.K H p xs/\n=xs.length:=e
  rcases e' with ⟨xs,hx,e'⟩ | ⟨xs,hx,e'⟩
  ·subst e'
   obtain ⟨its,r',pl,hz⟩:=I.list hx
   have hlen:=r'.length
   exact Calls.call_len_list pl.isList (by simp only [a0f]; omega) ⟨.int xs.length,H,I.tok _,⟨_,by simp only [a0f]; rw [hlen]⟩,q⟩
  ·subst e'
   obtain ⟨its,r',pl,hz⟩:=I.tuple hx
   have hlen:=r'.length
   exact len_tuple pl (by simp only [a0f]; omega) ⟨.int xs.length,H,I.tok _,⟨_,by simp only [a0f]; rw [hlen]⟩,q⟩
 | _=>exact (show False from e).elim
end
end L2
namespace L2
open PySem PySem.Spec PyProof.Rows
structure ObjM (h:Heap)(x dx C:Addr)(mA:Str->Option Value):Prop where
 obj:h.get? x=some (a1Z C dx)
 ns:h.Ns1 dx mA
 ne:dx≠x
theorem jN {h:Heap}{dx:Addr}{mA:Str->Option Value}(n:h.Ns1 dx mA):∃ od,h.get? dx=some od/\∀ name,a2c name od=some (mA name):=by
 obtain ⟨o,es,ep,ho,hd,hk,_,hm⟩:=n
 refine ⟨o,ho,fun name=>?_⟩
 have e:=hm name
 unfold nsFind findBy at e
 rw [<- a2i] at e
 unfold a2c
 rw [hd]
 dsimp only
 split
 ·rename_i y q
  rw [q] at e
  exact congrArg some e
 ·rename_i q
  rw [q] at e
  have a:es.toList.any (·.refKey)=false:=by
   rw [List.any_eq_false]
   intro y hy
   obtain ⟨z,t,hkey⟩:=hk y (Array.mem_toList_iff.mp hy)
   simp [DictEntry.refKey,hkey]
  have a':¬ es.toList.any (·.refKey)=true:=by rw [a]; exact a0h
  rw [if_neg a']
  exact congrArg some e
theorem ObjM.look {h:Heap}{x dx C:Addr}{mA:Str->Option Value}(I:ObjM h x dx C mA):∃ od,PySem.W.InstAt h x (a1Z C dx) C (some od)/\∀ name,a2c name od=some (mA name) :=
 let ⟨od,ho,hl⟩:=jN I.ns
 ⟨od,⟨I.obj,rfl,rfl,ho⟩,hl⟩
noncomputable def wR (f:Str)(v:V):List (Str×V)->List (Str×V)
 | []=>[(f,v)]
 | (g,x)::r=>if g=f then (g,v)::r else (g,x)::wR f v r
section
variable {P:Program}{w:World}{H H':Hp}{h h':Heap}{a C dx:Addr}{fs fs':List (Str×V)}
theorem qq (hok:HOk P w H h)(e:H a=some (.ins C dx fs)):∃ mA,ObjM h a dx C mA/\(∀ f,RelO (fs.lookup f) (mA f))/\a2T mA (fs.map (·.1))/\fs.length<=1000/\H dx=some (.own a):=by
 obtain ⟨d,z,ne,ob,mA,n,r,q⟩:=(show ObjOk P w H h a (.ins C dx fs) from hok a _ e)
 exact ⟨mA,⟨ob,n,ne⟩,r,q,z,d⟩
end
structure Cls (K:a0a)(C:Addr):Prop where
 pg:a2t K C Str.empty=true
 hd:PySem.W.hasDictIn K C=true
 po:PySem.W.plainOver K C=true
 sa:a2H K (.ref C) "__setattr__"=some (some (.builtin "object.__setattr__"))
theorem Cls.get {K:a0a}{C:Addr}(c:Cls K C)(f:Str):a2t K C f=true:=c.pg
section
variable {X:Cx}{pins:List (Addr×Obj)}{σ:St}{H:Hp}{s:Shared}{A:Around}{E:Value->Shared->Prop}{Q:Value->Shared->Prop}{c:Value}{b:Bool}
inductive dJ (K:a0a)(H:Hp):V->Value->Prop where
 | non:dJ K H .non (.type "NoneType")
 | bl (x:Bool):dJ K H (.bl x) (.type "bool")
 | int (i:Int):dJ K H (.int i) (.type "int")
 | str (x:Str):dJ K H (.str x) (.type "str")
 | flt (x:UInt64):dJ K H (.flt x) (.type "float")
 | lst {a:Addr} {xs:List V} (e:H a=some (.lst xs)):dJ K H (.ref a) (.type "list")
 | frz {a:Addr} {o:Obj} {xs:List V} (e:H a=some (.frz o (.lst xs))):dJ K H (.ref a) (.type "list")
 | tup {a:Addr} {xs:List V} (e:H a=some (.tup xs)):dJ K H (.ref a) (.type "tuple")
 | dK {a:Addr} {kvs:List (Key×V)} (e:H a=some (.dK kvs)):dJ K H (.ref a) (.type "dict")
 | dT {a:Addr} {kvs:List (List Key×V)} (e:H a=some (.dT kvs)):dJ K H (.ref a) (.type "dict")
 | ins {a C dx:Addr} {fs:List (Str×V)} (e:H a=some (.ins C dx fs)) (cl:Cls K C) (ha:a2H K (.ref C) "__class__"=some (some (.builtin "object.__class__")))
   (hn:PySem.W.specialIn K (.builtin "object.__class__") "__get__"=some (some (.builtin "getset_descriptor.__get__"))) (htk:PySem.W.takesIn K (.builtin "object.__class__")=some true)
   (hm:PySem.W.mroIn K C (.type "object")=some true):dJ K H (.ref a) (.ref C)
theorem cH {x:V}{u t:Value}(I:Inv X pins σ H s)(rx:RelV x u)(ty:dJ X.K H x t)(e:a06 X.K t c=some b)(h:∀ tk,Q (.bool b) { s with toks:=tk }) :
  wpAny (model X.prog X.w) A (call (.builtin "isinstance") [u,c]) Q E s:=by
 cases ty with
 | non=>cases (show u=Value.none from rx); exact a0J PySem.W.kitx_none I.kIn a0z e (fun z=>nomatch z) h
 | bl y=>cases (show u=Value.bool y from rx); exact a0J PySem.W.kitx_bool I.kIn a0z e (fun z=>nomatch z) h
 | int i=>obtain ⟨t,q⟩:=(show ∃ t,u=Value.int i t from rx); cases q; exact a0J PySem.W.kitx_int I.kIn a0z e (fun z=>nomatch z) h
 | str y=>obtain ⟨t,q⟩:=(show ∃ t,u=Value.str y t from rx); cases q; exact a0J PySem.W.kitx_str I.kIn a0z e (fun z=>nomatch z) h
 | flt y=>obtain ⟨t,q⟩:=(show ∃ t,u=Value.float y t from rx); cases q; exact a0J PySem.W.kitx_float I.kIn a0z e (fun z=>nomatch z) h
 | @lst a xs ea =>
  cases (show u=Value.ref a from rx)
  obtain ⟨_,_,n,_,h1⟩:=(show ObjOk X.prog X.w H s.heap a (.lst xs) from I.hok a _ ea)
  exact a0J a1K I.kIn ⟨_,h1,rfl⟩ e (fun z=>nomatch z) h
 | @frz a ob xs ea =>
  cases (show u=Value.ref a from rx)
  obtain ⟨_,_,_,n,_,h1⟩:=(show ObjOk X.prog X.w H s.heap a (.frz ob (.lst xs)) from I.hok a _ ea)
  exact a0J a1K I.kIn ⟨_,h1,rfl⟩ e (fun z=>nomatch z) h
 | @tup a xs ea =>
  cases (show u=Value.ref a from rx)
  obtain ⟨_,_,_,p⟩:=(show ObjOk X.prog X.w H s.heap a (.tup xs) from I.hok a _ ea)
  obtain ⟨o,h1,h2,_⟩:=p
  exact a0J a2j I.kIn ⟨o,h1,h2⟩ e (fun z=>nomatch z) h
 | @dK a kvs ea =>
  cases (show u=Value.ref a from rx)
  obtain ⟨_,_,vs,_,p⟩:=(show ObjOk X.prog X.w H s.heap a (.dK kvs) from I.hok a _ ea)
  obtain ⟨o,es,ep,h1,h2,_⟩:=p
  exact a0J a2n I.kIn ⟨o,h1,h2.1⟩ e (fun z=>nomatch z) h
 | @dT a kvs ea =>
  cases (show u=Value.ref a from rx)
  obtain ⟨_,_,xs,_,o,es,ep,h1,h2,_⟩:=(show ObjOk X.prog X.w H s.heap a (.dT kvs) from I.hok a _ ea)
  exact a0J a2n I.kIn ⟨o,h1,h2.1⟩ e (fun z=>nomatch z) h
 | @ins a C dx fs ea cl ha hn htk hm =>
  cases (show u=Value.ref a from rx)
  obtain ⟨mA,O,_⟩:=qq I.hok ea
  obtain ⟨od,J,_⟩:=O.look
  exact a0J (PySem.W.kitx_own (cl.get _) cl.hd ha hn htk hm) I.kIn J e (fun z=>nomatch z) h
end
end L2
namespace L2
open PySem PySem.Spec PyProof.Rows
structure Room (k:Nat)(A:Around):Prop where
 hd:A.handled=none
 dp:A.depth+3 * k+5 < recursionLimit
 un:A.units+16 * k+200 < cLine
theorem Room.deeper {k:Nat}{A:Around}(r:Room (k+1) A)(env:Env):Room k (A.deeper env) :=
 ⟨r.hd,by have:=r.dp; show A.depth+1+3 * k+5 < _; omega,by have:=r.un; show A.units+3+16 * k+200 < _; omega⟩
theorem Room.depth {k:Nat}{A:Around}(r:Room k A):A.depth < recursionLimit:=by have:=r.dp; omega
theorem Room.units {k:Nat}{A:Around}(r:Room k A):A.units+64 < cLine:=by have:=r.un; omega
noncomputable def ve:TA:=fun _ H Q=>Q [] H
noncomputable def i4 (ta:TE)(tr:TA):TA:=fun σ H Q=>ta σ H fun x H1=>tr σ H1 fun xs H2=>Q (x::xs) H2
section
variable {X:Cx}{e:Expr}{es:List Expr}{te:TE}{t:TA}{pos:Pos}
theorem fL:PA X [] ve:=fun _ _ _ _ H Q I h=>Calls.spliced_nil ⟨[],H,I,.nil,h⟩
theorem cA (ha:PE X e te)(hr:PA X es t)(hs:starEach (e::es) X.env=(false,eval e X.env)::starEach es X.env:=by rfl):PA X (e::es) (i4 te t):=by
 intro pos pins s σ H Q I h
 rw [hs]
 show wpAny _ _ (spliced ((false,eval e X.env)::backTo pos (starEach es X.env))) _ _ s
 refine Calls.spliced_cons (thn (ha pins s σ H _ I h) fun u s1 ⟨x,H1,I1,r1,q1⟩=>?_)
 exact thn (hr pos pins s1 σ H1 _ I1 q1) fun us s2 ⟨xs,H2,I2,r2,q2⟩=>⟨x::xs,H2,I2,.cons r1 r2,q2⟩
noncomputable def zx (t:TA):TE:=fun σ H Q=>t σ H fun xs H1=>xs.length<=sizeLine/\∀ p,H1 p=none->Q (.ref p) (upd H1 p (.tup xs))
noncomputable def wY (t:TA):TE:=fun σ H Q=>t σ H fun xs H1=>xs.length<=sizeLine/\∀ p,H1 p=none->Q (.ref p) (upd H1 p (.lst xs))
theorem tf {x1}(h:PA X es t):PE X (.Tuple es x1 pos) (zx t):=by
 intro pins s σ H Q I hq
 refine wpAny_Tuple_spliced (thn (h pos pins s σ H _ I hq) fun us s1 ⟨xs,H1,I1,r,z,q⟩=>⟨by rw [<- r.length]; exact z,?_⟩)
 have hf:H1 s1.heap.objs.size=none:=I1.hok.fresh (a0b _)
 refine ⟨.ref s1.heap.objs.size,upd H1 s1.heap.objs.size (.tup xs),I1.laid (t':=s1.toks) (fun b u e=>Heap.get?_push_of_some _ e) (a0b _) ?_,rfl,q _ hf⟩
 exact ⟨z,us,r,⟨_,Heap.get?_push_size _ rfl,rfl,_,rfl⟩⟩
theorem we (h:PA X es t):PE X (.List es pos) (wY t):=by
 intro pins s σ H Q I hq
 refine wpAny_List_spliced (thn (h pos pins s σ H _ I hq) fun us s1 ⟨xs,H1,I1,r,z,q⟩=>⟨by rw [<- r.length]; exact z,?_⟩)
 have hf:H1 s1.heap.objs.size=none:=I1.hok.fresh (a0b _)
 refine ⟨.ref s1.heap.objs.size,upd H1 s1.heap.objs.size (.lst xs),I1.laid (t':=s1.toks) (fun b u e=>Heap.get?_push_of_some _ e) (a0b _) ?_,rfl,q _ hf⟩
 exact ⟨z,us,0,r,Heap.get?_push_size _ rfl⟩
end
noncomputable abbrev Sp:=List V->Hp->VK->XK->Prop
noncomputable abbrev CXT:=List Env->Hp->Shared->XK->Value->Shared->Prop
structure oG (P:Program)(w:World)(K:a0a)(mg:Str->Option Value)(base:Heap)(A:Around)(outer:List Env)(s:Shared)(H:Hp):Prop where
 frames:A.frames=some outer
 mod:Mod K mg base
 bs:∀ b o,base.get? b=some o->s.heap.get? b=some o/\H b=none
 bsz:base.objs.size<=s.heap.objs.size
 funs:s.heap.FunFrames base outer
 frf:∀ b∈frs outer,H b=none
 hok:HOk P w H s.heap
 bare:AllBare s.gens
noncomputable def CE (outer:List Env)(P:Program)(w:World)(H:Hp)(s:Shared)(Q:VK)(u:Value)(s':Shared):Prop :=
 ∃ v H',s'.os=s.os/\AllBare s'.gens/\Un (frs outer) [] H H' s.heap s'.heap/\HOk P w H' s'.heap/\RelV v u/\Q v H'
noncomputable def CR (CX:CXT)(outer:List Env)(P:Program)(w:World)(H:Hp)(s:Shared)(Q:VK)(E:XK)(r:Result)(s':Shared):Prop :=
 match r with
 | .ok (.ret u)=>CE outer P w H s Q u s'
 | .ok _=>False
 | .error e=>CX outer H s E e s'
structure c8 (P:Program)(w:World)(K:a0a)(mg:Str->Option Value)(base:Heap)(CX:CXT)(k:Nat)(f:Addr)(fd:FuncData)(ps:List Str)(sp:Sp):Prop where
 len:∀ vs H Q E,sp vs H Q E->vs.length=ps.length
 run:∀ (A:Around) (outer:List Env) (s:Shared) (H:Hp) (args:Args) (us:List Value) (vs:List V) (Q:VK) (E:XK),Room k A->oG P w K mg base A outer s H->BindsTo s fd args (ps.zip us)->Vals vs us->sp vs H Q E ->
  codeAny (model P w) A (.call (.ref f) args) (CR CX outer P w H s Q E) s
section
variable {X:Cx}{pins:List (Addr×Obj)}{σ:St}{H:Hp}{s s':Shared}
theorem Inv.env0 (I:Inv X pins σ H s):oG X.prog X.w X.K X.mg X.base X.A X.stack s H :=
 ⟨I.ok.frames,I.ok.mod,I.bs,a0m I.ok.bsz I.sz,I.stack,I.stkFree,I.hok,I.bare⟩
theorem Inv.after {Q:VK}{u:Value}(I:Inv X pins σ H s)(h:CE X.stack X.prog X.w H s Q u s'):EP X pins σ Q u s':=by
 obtain ⟨v,H',os,bare,un,hok,r,q⟩:=h
 obtain ⟨hh,g,d,t,os'⟩:=s'
 obtain rfl:os'=s.os:=os
 exact ⟨v,H',I.call (h':=hh) (g':=g) (d':=d) (t':=t) (ch:=[]) un hok bare (fun b z=>absurd z (by simp)),r,q⟩
end
noncomputable def yo (sp:Sp)(dvs:List V)(E:XK)(t:TA):TE:=fun σ H Q=>t σ H fun vs H1=>sp (vs++dvs) H1 Q E
noncomputable def Binds (K:a0a)(fd:FuncData)(ps:List Str)(ds:List Value):Prop :=
 ∀ (s:Shared) (us:List Value),K.In s.heap->(us++ds).length=ps.length->BindsTo s fd ⟨us,[]⟩ (ps.zip (us++ds))
theorem Binds.all {K:a0a}{fd:FuncData}{ps:List Str}(h:∀ us:List Value,us.length=ps.length->bindArgs fd ⟨us,[]⟩=pure (ps.zip us)):Binds K fd ps []:=fun s us _ hl=>by
 rw [a0N] at hl ⊢
 exact .of_eq (h us hl)
noncomputable def iF (CX:CXT)(X:Cx)(E:XK):Prop:=∀ (pins:List (Addr×Obj)) (σ:St) (H:Hp) (s:Shared) (e:Value) (s':Shared),Inv X pins σ H s->CX X.stack H s E e s'->X.xe e s'
section
variable {X:Cx}{CX:CXT}{k:Nat}{f C:Addr}{fd:FuncData}{ps:List Str}{sp:Sp}{dvs:List V}{ds:List Value}{E:XK}{x m:Str}{p pos apos:Pos}{e o:Expr}{es:List Expr}{ta:TE}{t:TA}
theorem vm {pins:List (Addr×Obj)}{σ:St}{H:Hp}{s:Shared}{Q:VK}{us:List Value}{vs:List V}(F:c8 X.prog X.w X.K X.mg X.base CX k f fd ps sp)(hr:Room k X.A)(hb:Binds X.K fd ps ds)(hd:Vals dvs ds)(hx:iF CX X E)
  (I:Inv X pins σ H s) (r:Vals vs us) (h:sp (vs++dvs) H Q E):wpAny (model X.prog X.w) X.A (call (.ref f) us) (EP X pins σ Q) X.xe s:=by
 have r2:Vals (vs++dvs) (us++ds):=r.append hd
 have hl:(us++ds).length=ps.length:=by rw [<- r2.length]; exact F.len _ _ _ _ h
 refine wpAny_call (codeAny_mono (F.run X.A X.stack s H ⟨us,[]⟩ (us++ds) (vs++dvs) Q E hr I.env0 (hb s us I.kIn hl) r2 h) fun r s' hq=>?_)
 cases r with
 | error e=>exact hx pins σ H s e s' I hq
 | ok fl =>
  cases fl with
  | ret u=>exact I.after hq
  | next=>exact a1a hq
  | brk=>exact a1a hq
  | cont=>exact a1a hq
theorem qE (F:c8 X.prog X.w X.K X.mg X.base CX k f fd ps sp)(hr:Room k X.A)(hg:Gl X x)(hm:X.mg x=some (.ref f))(hk:a1r X.K (.ref f)=true)(hb:Binds X.K fd ps ds)(hd:Vals dvs ds)(hx:iF CX X E)
  (ha:PA X (e::es) t) (hdb:(x==("__debug__":Str))=false:=by decide) (he:starEach (e::es) X.env=(false,eval e X.env)::starEach es X.env:=by rfl) (hpl:(backTo pos (starEach es X.env)).any (·.1)=false:=by rfl) :
  PE X (.Call (.Name x p) (e::es) [] pos) (yo sp dvs E t):=by
 intro pins s σ H Q I h
 refine wpAny_Call_Name_kw (jv I hg hm ?_ hdb)
 refine PySem.W.callWith_K (h₀:=X.base) I.ok.mod.kin hk (thn (ha pos pins s σ H _ I h) fun us s1 ⟨vs,H1,I1,r,q⟩=>⟨I1.kIn,?_⟩) he hpl
 exact vm F hr hb hd hx I1 r q
end
structure au (N P:List Str)(sc:Scope):Prop where
 kind:sc.kind=.function
 co:sc.isCoroutine=false
 gen:sc.isGenerator=false
 nd:N.Nodup
 pre:N.take P.length=P
 par:∀ x∈P,sc.names.lookup x=some .local\/sc.names.lookup x=some .cell
 nofree:∀ y∈sc.names,y.2≠.free
theorem fE {kindOf:Str->Option NameKind}{x:Str}:∀ {binds:List (Str×Value)} {m:Str->Option Value},(∀ v,(x,v) ∉ binds)->bindL kindOf binds m x=m x
 | [],_,_=>rfl
 | (n,v)::r,m,h=>by
  unfold bindL
  rw [fE fun w hw=>h w (a0p _ hw)]
  split
  ·have:x≠n:=by rintro rfl; exact h v a0o
   simp [this]
  ·rfl
theorem fB {kindOf:Str->Option NameKind}{x:Str}:∀ {binds:List (Str×Value)} {m:Str->Option Value},(∀ v,(x,v) ∉ binds)->bindC kindOf binds m x=m x
 | [],_,_=>rfl
 | (n,v)::r,m,h=>by
  unfold bindC
  rw [fB fun w hw=>h w (a0p _ hw)]
  split
  ·rfl
  ·have:x≠n:=by rintro rfl; exact h v a0o
   simp [this]
theorem fG {kindOf:Str->Option NameKind}{x:Str}{v:Value}:∀ {P:List Str} {vs:List Value} {i:Nat} {m:Str->Option Value},P.Nodup->P[i]?=some x->vs[i]?=some v->kindOf x=some .local ->
  bindL kindOf (P.zip vs) m x=some v
 | [],_,_,_,_,h,_,_=>by simp at h
 | _::_,[],_,_,_,_,h,_=>by simp at h
 | p::P,w::vs,0,m,nd,h1,h2,hk=>by
  simp at h1 h2; subst h1; subst h2
  show bindL kindOf ((p,w)::P.zip vs) m p=_
  unfold bindL
  rw [fE fun v hv=>(a08.mp nd).1 (a11 hv).1,if_pos hk]
  simp
 | p::P,w::vs,i+1,m,nd,h1,h2,hk=>by
  show bindL kindOf ((p,w)::P.zip vs) m x=_
  unfold bindL
  exact fG (i:=i) (a08.mp nd).2 (by simpa using h1) (by simpa using h2) hk
theorem fz {kindOf:Str->Option NameKind}{x:Str}{v:Value}:∀ {P:List Str} {vs:List Value} {i:Nat} {m:Str->Option Value},P.Nodup->P[i]?=some x->vs[i]?=some v->kindOf x≠some .local ->
  bindC kindOf (P.zip vs) m x=some v
 | [],_,_,_,_,h,_,_=>by simp at h
 | _::_,[],_,_,_,_,h,_=>by simp at h
 | p::P,w::vs,0,m,nd,h1,h2,hk=>by
  simp at h1 h2; subst h1; subst h2
  show bindC kindOf ((p,w)::P.zip vs) m p=_
  unfold bindC
  rw [fB fun v hv=>(a08.mp nd).1 (a11 hv).1,if_neg hk]
  simp
 | p::P,w::vs,i+1,m,nd,h1,h2,hk=>by
  show bindC kindOf ((p,w)::P.zip vs) m x=_
  unfold bindC
  exact fz (i:=i) (a08.mp nd).2 (by simpa using h1) (by simpa using h2) hk
noncomputable def start (N:List Str)(vs:List V):St:=vs.map some++a0e (N.length-vs.length) none
noncomputable def fM (CX:CXT)(P:Program)(w:World)(K:a0a)(mg:Str->Option Value)(base:Heap)(N:List Str)(qual:Str)(scope:Scope)(f:Addr)(cd:Value)(A:Around)(outer:List Env)(s:Shared)(H:Hp)(E:XK):Cx where
 prog:=P
 w:=w
 K:=K
 mg:=mg
 base:=base
 A:=A.deeper (envOfC qual scope s.heap.objs.size f cd)
 N:=N
 s₀:=s
 H₀:=H
 env:=envOfC qual scope s.heap.objs.size f cd
 outer:=outer
 stack:=envOfC qual scope s.heap.objs.size f cd::outer
 ex:=[]
 calm:=true
 fn:=fun _=>true
 pn:=[]
 xe:=fun e s'=>wpAny (model P w) (A.deeper (envOfC qual scope s.heap.objs.size f cd)) (leaving (envOfC qual scope s.heap.objs.size f cd) e) (fun _ s''=>CX outer H s E e s'') (fun e' s''=>CX outer H s E e' s'') s'
theorem hW {sc:Scope}{n:Nat}{x:Str}(h:sc.names.lookup x=some .cell):∃ c,(cellsFrom n sc.names []).lookup x=some c:=by
 have q:=a1W sc.names n [] (.inl h)
 exact a1h.mp q
theorem j3 {CX:CXT}{P:Program}{w:World}{K:a0a}{mg:Str->Option Value}{base:Heap}{N ps:List Str}{qual:Str}{scope:Scope}{f:Addr}{cd:Value}{A:Around}{outer:List Env}{s s1:Shared}{H:Hp}{E:XK}{us:List Value}{vs:List V}
  (S:au N ps scope) (hd:A.handled=none) (e0:oG P w K mg base A outer s H) (hl:vs.length=ps.length) (r:Vals vs us)
  (x:InCallC s s.heap.objs.size (bindL (envOfC qual scope s.heap.objs.size f cd).kindOf (ps.zip us) fun _=>none) (cellsFrom (s.heap.objs.size+1) scope.names []) (bindC (envOfC qual scope s.heap.objs.size f cd).kindOf (ps.zip us) fun _=>none) s1) :
  Inv (fM CX P w K mg base N qual scope f cd A outer s H E) [] (start N vs) H s1:=by
 have hpl:ps.length<=N.length:=by have:=congrArg a1O S.pre; rw [a1u] at this; omega
 obtain ⟨h1,tk,rfl,hk⟩:=x.done
 have noA:∀ b:Addr,b ∉ (fM CX P w K mg base N qual scope f cd A outer s H E).ex:=fun b z=>absurd (show b∈([]:List Addr) from z) (by simp)
 refine ⟨⟨e0.mod,S.kind,rfl,rfl,a0b _,fun y z c h1 h2=>?_,fun y hy=>?_,fun y c _ h=>?_,fun _=>hd,Around.frames_deeper e0.frames,.inr ⟨rfl,rfl⟩,fun b z=>absurd z (noA b),e0.bs,e0.bsz,fun b _ _=>noA b,fun b z=>absurd z (noA b),e0.funs,e0.frf⟩,
  rfl,e0.bare,Un.kept hk,⟨_,x.toInCall.ns,fun i y v h1 h2 h3=>?_⟩,fun y c h=>⟨_,x.cell y c h⟩,e0.hok.fresh (a0b _),fun y c h=>?_,fun p hp=>absurd (show p∈([]:List (Addr×Obj)) from hp) (by simp),e0.hok.kept hk,?_⟩
 ·exact name_of_addr x.apart (a0R h1) (a0R h2)
 ·have hy:scope.names.lookup y=some .cell\/scope.names.lookup y=some .free:=hy
  rcases hy with hy | hy
  ·exact hW hy
  ·exact absurd rfl (S.nofree _ (a0R hy))
 ·exact a10 (x.above y c (a0R h))
 ·have hi:i < vs.length:=by
   unfold start at h2
   by_cases hi:i < vs.length
   ·exact hi
   ·rw [a0Q (by simpa using hi)] at h2
    rw [a1k] at h2
    split at h2<;>cases h2
  have ha:vs[i]?=some v:=by
   unfold start at h2
   rw [a0S (by simpa using hi),a0x] at h2
   cases e:vs[i]? with
   | none=>rw [e] at h2; cases h2
   | some a=>rw [e] at h2; cases h2; rfl
  obtain ⟨u,hu,rv⟩:=r.get ha
  have hp:ps[i]?=some y:=by
   rw [<- S.pre,List.getElem?_take_of_lt (by omega)]; exact h1
  have ndP:ps.Nodup:=by rw [<- S.pre]; exact S.nd.sublist (List.take_sublist _ _)
  refine ⟨u,rv,?_⟩
  rcases S.par y (a0W hp) with k | k
  ·exact .inl ⟨k,fG ndP hp hu k⟩
  ·obtain ⟨c,e⟩:=hW (n:=s.heap.objs.size+1) k
   refine .inr ⟨.inl k,c,e,?_⟩
   have q:=x.cell y c e
   rw [fz ndP hp hu (by show scope.names.lookup y≠_; rw [k]; decide)] at q
   exact q
 ·exact e0.hok.fresh (a10 (x.above y c (a0R h)))
 ·unfold start
  show _=N.length
  rw [a0c,a0d,a0F]
  omega
theorem yK {CX:CXT}{P:Program}{w:World}{K:a0a}{mg:Str->Option Value}{base:Heap}{k:Nat}{f:Addr}{name qual:Str}{params:Arguments}{body:List Stmt}{scope:Scope}{dV kV doc pm cdv ct oc:Value}{an od:Option Addr}
  {osl:Array (Option Value)} {N ps:List Str} {sp:Sp} (lk:K.lookup f=some ⟨oc,od,.func (a03 name qual params body scope dV kV doc pm an cdv ct),osl⟩) (hcd:a1I K cdv qual=true) (S:au N ps scope)
  (len:∀ vs H Q E,sp vs H Q E->vs.length=ps.length)
  (hbody:∀ (A:Around) (outer:List Env) (s:Shared) (H:Hp) (vs:List V) (Q:VK) (E:XK),Room k (A.deeper (envOfC qual scope s.heap.objs.size f cdv))->sp vs H Q E ->
   ∃ t,PSs (fM CX P w K mg base N qual scope f cdv A outer s H E) body t/\t { nx:=fun _ H'=>Q .non H',rt:=Q } (start N vs) H) :
  c8 P w K mg base CX (k+1) f (a03 name qual params body scope dV kV doc pm an cdv ct) ps sp:=by
 refine ⟨len,fun A outer s H args us vs Q E hr e0 hb r hsp=>?_⟩
 have hl:=len _ _ _ _ hsp
 have KX:K.In s.heap:=e0.mod.kin.keeps fun b o e=>(e0.bs b o e).1
 have lim:s.heap.NoLimit:=e0.mod.nolimit.keeps fun b o e=>(e0.bs b o e).1
 have hkind:∀ y∈ps.zip us,scope.names.lookup y.1=some .local\/(scope.names.lookup y.1=some .cell/\((cellsFrom (s.heap.objs.size+1) scope.names []).lookup y.1).isSome=true):=fun ⟨n,v⟩ hy=>by
  rcases S.par n (a11 hy).1 with q | q
  ·exact .inl q
  ·exact .inr ⟨q,a1W _ _ _ (.inl q)⟩
 refine codeAny_call_function hr.depth (KX _ _ lk) rfl S.co S.gen rfl (PySem.W.codeRec_of KX hcd) (hb _ _ _ _ ?_)
 refine wpAny_newFunctionEnv_cells S.kind hkind fun env he s1 x=>?_
 subst he
 refine ⟨lim.keeps x.toInCall.keep,codeAny_func ?_⟩
 obtain ⟨t,ht,hq⟩:=hbody A outer s H vs Q E (hr.deeper _) hsp
 have I:Inv (fM CX P w K mg base N qual scope f cdv A outer s H E) [] (start N vs) H s1:=j3 S hr.hd e0 hl r x
 refine wpAny_mono (ht [] s1 (start N vs) H _ I hq) (fun fl s' hs=>?_) fun e s' hs=>hs
 have fin:∀ {σ':St} {H':Hp} {v:V} {u:Value},Inv (fM CX P w K mg base N qual scope f cdv A outer s H E) [] σ' H' s'->RelV v u->Q v H'->CE outer P w H s Q u s' :=
  fun {σ' H' v u} J rv q=>⟨v,H',J.os,J.bare,J.base,J.hok,rv,q⟩
 cases fl with
 | ret u =>
  obtain ⟨v,σ',H',J,rv,q⟩:=hs
  exact fin J rv q
 | next =>
  obtain ⟨σ',H',J,q⟩:=hs
  exact fin (v:=V.non) (u:=Value.none) J rfl q
 | brk =>
  obtain ⟨_,_,_,q⟩:=hs
  exact a1a q
 | cont =>
  obtain ⟨_,_,_,q⟩:=hs
  exact a1a q
end L2
namespace L2
open PySem PySem.Spec PyProof.Rows
section
variable {X:Cx}{x:Str}{p pos:Pos}{e:Expr}{es:List Expr}{t:TA}{id T:String}{r:List V->Hp->VK->Prop}
noncomputable def tCB (r:List V->Hp->VK->Prop)(t:TA):TE:=fun σ H Q=>t σ H fun vs H1=>r vs H1 Q
theorem cx (hc:cn X (.builtin id) r)(hg:Gl X x)(hm:X.mg x=none)(hv:bootBuiltins x=some (.builtin id))(ha:PA X (e::es) t)(hn:x≠"__name__":=by decide)(hdb:(x==("__debug__":Str))=false:=by decide)
  (he:starEach (e::es) X.env=(false,eval e X.env)::starEach es X.env:=by rfl) (hpl:(backTo pos (starEach es X.env)).any (·.1)=false:=by rfl):PE X (.Call (.Name x p) (e::es) [] pos) (tCB r t):=by
 intro pins s σ H Q I h
 refine wpAny_Call_Name_kw (eJ I hg hm hv ?_ hn hdb)
 exact a2o (thn (ha pos pins s σ H _ I h) fun us s1 ⟨vs,H1,I1,r1,q1⟩=>hc pins s1 σ H1 vs us Q I1 r1 q1) he hpl
theorem cI (hc:cn X (.type T) r)(hg:Gl X x)(hm:X.mg x=none)(hv:bootBuiltins x=some (.type T))(ha:PA X (e::es) t)(hn:x≠"__name__":=by decide)(hdb:(x==("__debug__":Str))=false:=by decide)
  (he:starEach (e::es) X.env=(false,eval e X.env)::starEach es X.env:=by rfl) (hpl:(backTo pos (starEach es X.env)).any (·.1)=false:=by rfl):PE X (.Call (.Name x p) (e::es) [] pos) (tCB r t):=by
 intro pins s σ H Q I h
 refine wpAny_Call_Name_kw (eJ I hg hm hv ?_ hn hdb)
 exact a07 (thn (ha pos pins s σ H _ I h) fun us s1 ⟨vs,H1,I1,r1,q1⟩=>hc pins s1 σ H1 vs us Q I1 r1 q1) he hpl
end
end L2
namespace HT
open PySem PyProof.Rows
section
variable {prog:Program}{w:World}{A:Around}{E:Value->Shared->Prop}{s:Shared}
theorem cat_tup {t b:Addr}{vs ws:List Value}{Q:Value->Shared->Prop}(ht:IsTup s.heap t vs.toArray)(hb:IsTup s.heap b ws.toArray)(hv:vs≠[])
  (h1:ws=[]->Q (.ref t) s) (h2:ws≠[]->Q (.ref s.heap.objs.size) { s with heap:=s.heap.push { cls:=.type "tuple",data:=.seq (vs++ws).toArray } })
  (hsz:vs.length+ws.length<=sizeLine):wpAny (model prog w) A (binaryOp .Add (.ref t) (.ref b)) Q E s:=by
 obtain ⟨⟨cls,dd,data,sl⟩,ho,hc,n,hd⟩:=id ht
 obtain ⟨⟨cls2,dd2,data2,sl2⟩,ho2,hc2,n2,hd2⟩:=id hb
 simp only at hc hd hc2 hd2
 subst hc hd hc2 hd2
 have e:vs.toArray++ws.toArray=(vs++ws).toArray:=by simp
 by_cases hw:ws=[]
 ·exact concat_meets ⟨_,ho,rfl⟩ ⟨_,ho2,rfl⟩ noFill_tuple_add seq_tuple_add a1X a1P (a1L _ _)
   (tuple_addW1 t b vs.toArray ws.toArray n n2 dd dd2 sl sl2 (by simpa using hv) (by simp [hw])) ⟨ho,ho2,h1 hw⟩
 ·refine concat_meets ⟨_,ho,rfl⟩ ⟨_,ho2,rfl⟩ noFill_tuple_add seq_tuple_add a1X a1P (a1L _ _)
   (tuple_addW2 t b vs.toArray ws.toArray n n2 dd dd2 sl sl2 (by simpa using hv) (by simpa using hw) (by rw [a0f,a0f]; exact hsz)) ⟨ho,ho2,?_⟩
  rw [e]
  exact h2 hw
noncomputable def sIx (n d:Nat):Option Int->Nat
 | none=>d
 | some v=>if v < 0 then (v+(n:Int)).toNat else min v.toNat n
theorem wg (n d:Nat)(hd:d<=n)(o:Option Int):sIx n d o<=n:=by
 cases o with
 | none=>exact hd
 | some v =>
  show (if v < 0 then (v+(n:Int)).toNat else min v.toNat n)<=n
  by_cases hv:v < 0
  ·rw [if_pos hv]; omega
  ·rw [if_neg hv]; exact Nat.min_le_right _ _
theorem jf (v:Int)(n d:Nat):(if v < 0 then max (v+(n:Int)) 0 else min v (n:Int))=((sIx n d (some v):Nat):Int):=by
 show (if v < 0 then max (v+(n:Int)) 0 else min v (n:Int))=(((if v < 0 then (v+(n:Int)).toNat else min v.toNat n):Nat):Int)
 by_cases hv:v < 0
 ·simp only [if_pos hv]; omega
 ·simp only [if_neg hv]; omega
theorem iB (lo hi:Option Int)(n:Nat):Builtin.Slice.sliceAdjust lo hi 1 (n:Int)=(((sIx n 0 lo:Nat):Int),((sIx n n hi:Nat):Int)):=by
 have h1:¬ ((1:Int) < 0):=by omega
 unfold Builtin.Slice.sliceAdjust
 simp only [h1,if_false]
 refine Prod.ext ?_ ?_
 ·cases lo with
  | none=>rfl
  | some v=>exact jf v n 0
 ·cases hi with
  | none=>rfl
  | some v=>exact jf v n n
theorem iq (i j:Nat):Builtin.Slice.slicePlaces (i:Int) (j:Int) 1=j-i:=by
 unfold Builtin.Slice.slicePlaces
 have h1:(1:Int) > 0:=by omega
 simp only [h1,if_true,Int.ediv_one]
 split<;>omega
theorem dZ {v:Value}{o:Option Int}{Q:Option Int->Shared->Prop}(p:IsPart v o)(h:Q o s):wpAny (model prog w) A (Builtin.Slice.slicePartIndex v) Q E s:=by
 cases p with
 | none=>exact slicePart_none h
 | int i t=>exact slicePart_int h
theorem sliceApplied_gen {sl:Addr}{vl vu:Value}{lo hi:Option Int}{n:Nat}{Q:Int×Int×Nat->Shared->Prop}(hs:s.heap.IsSliceOf sl vl vu .none)(pl:IsPart vl lo)(pu:IsPart vu hi)
  (h:Q (((sIx n 0 lo:Nat):Int),1,sIx n n hi-sIx n 0 lo) s):wpAny (model prog w) A (Builtin.Slice.sliceApplied (.ref sl) (pure (n:Int))) Q E s:=by
 obtain ⟨os,hos,hcs,hds⟩:=id hs
 unfold Builtin.Slice.sliceApplied Builtin.Slice.sliceFields
 refine wpAny_bind (wpAny_bind (wpAny_field hos hds (x:=vl) rfl (wpAny_bind (wpAny_field hos hds (x:=vu) rfl (wpAny_bind (wpAny_field hos hds (x:=.none) rfl (wpAny_pure ?_)))))))
 refine wpAny_bind (slicePart_none ?_)
 show wpAny _ _ (if ((1:Int)==0)=true then _ else _) _ _ s
 rw [if_neg (by decide)]
 refine wpAny_bind (dZ pl (wpAny_bind (dZ pu (wpAny_bind (wpAny_pure ?_)))))
 show wpAny _ _ (match Builtin.Slice.sliceAdjust lo hi 1 (n:Int) with | (lo,hi)=>pure (lo,(1:Int),Builtin.Slice.slicePlaces lo hi 1)) _ _ s
 rw [iB lo hi n]
 show wpAny _ _ (pure (((sIx n 0 lo:Nat):Int),(1:Int),Builtin.Slice.slicePlaces ((sIx n 0 lo:Nat):Int) ((sIx n n hi:Nat):Int) 1)) _ _ s
 rw [iq]
 exact wpAny_pure h
theorem nM (xs:Array Value)(i k:Nat):((a0T k).filterMap fun (m:Nat)=>xs[((i:Int)+(m:Int) * 1).toNat]?).toArray=((xs.toList.drop i).take k).toArray:=by
 have e:(fun (m:Nat)=>xs[((i:Int)+(m:Int) * 1).toNat]?)=fun m=>xs[i+m]?:=by
  funext m
  have:((i:Int)+(m:Int) * 1).toNat=i+m:=by omega
  rw [this]
 rw [e]
 have:=pick_run xs i k
 rw [List.filterMap_map] at this
 have e2:((fun x=>xs[x]?) ∘ fun x=>i+x)=fun m=>xs[i+m]?:=rfl
 rw [e2] at this
 rw [this]
theorem getItem_tuple_cut {t sl:Addr}{items:Array Value}{vl vu:Value}{lo hi:Option Int}{Q:Value->Shared->Prop}(ht:IsTup s.heap t items)(hs:s.heap.IsSliceOf sl vl vu .none)(pl:IsPart vl lo)(pu:IsPart vu hi)
  (hw:¬ (sIx items.size 0 lo=0/\sIx items.size items.size hi=items.size))
  (h:Q (.ref s.heap.objs.size) { s with heap:=s.heap.push { cls:=.type "tuple",data:=.seq ((items.toList.drop (sIx items.size 0 lo)).take (sIx items.size items.size hi-sIx items.size 0 lo)).toArray } })
  (hsz:items.size<=sizeLine):wpAny (model prog w) A (getItem (.ref t) (.ref sl)) Q E s:=by
 have htake:sizeOk (.seq ((items.toList.drop (sIx items.size 0 lo)).take (sIx items.size items.size hi-sIx items.size 0 lo)).toArray):=by
  show ((items.toList.drop (sIx items.size 0 lo)).take (sIx items.size items.size hi-sIx items.size 0 lo)).toArray.size<=sizeLine
  rw [a0f,a1u,a1f,a0D]
  omega
 have hj:sIx items.size items.size hi<=items.size:=wg _ _ (a0b _) hi
 obtain ⟨os,hos,hcs,hds⟩:=id hs
 have hTs:s.TypeIs (.ref sl) "slice":=⟨os,hos,hcs⟩
 unfold getItem
 try with_reducible refine wpAny_holding ?_
 first | refine wpAny_bind (wpAny_pure ?_) | skip
 refine wpAny_bind (wpAny_sequenceKey ht.typeIs (by decide) ?_)
 refine wpAny_bind (wpAny_callSpecial?_slot (name:=Str.ofString "__getitem__") ht.typeIs a0E
  (wpAny_call_entry a0E ht.typeIs entry_tuple_getitem ?_ (args_tuple_getitem _ _)))
 show wpAny _ _ (Builtin.Tuple.tupleItemsOf (.ref t) >>= _) _ _ s
 refine wpAny_bind (tupleItemsOf_ ht ?_)
 refine wpAny_bind (wpAny_typeOf hTs ?_)
 rw [if_pos (by decide)]
 refine wpAny_bind (sliceApplied_gen hs pl pu ?_)
 have hno:¬ ((((sIx items.size 0 lo:Nat):Int)==0&&(1:Int)==1&&(sIx items.size items.size hi-sIx items.size 0 lo)==items.size)=true):=by
  intro q
  rw [a0i,a0i] at q
  have q1:((sIx items.size 0 lo:Nat):Int)=0:=eq_of_beq q.1.1
  have q2:sIx items.size items.size hi-sIx items.size 0 lo=items.size:=eq_of_beq q.2
  exact hw ⟨by omega,by omega⟩
 show wpAny _ _ (if (((sIx items.size 0 lo:Nat):Int)==0&&(1:Int)==1&&(sIx items.size items.size hi-sIx items.size 0 lo)==items.size)=true then _ else _) _ _ s
 rw [if_neg hno,nM]
 first
  | exact wpAny_bind (m:=Builtin.Tuple.tupleExact _) (wpAny_newObj_type (wpAny_pure ⟨_,rfl,wpAny_pure h⟩) htake)
  | exact wpAny_bind (m:=Builtin.Tuple.tupleExact _) (wpAny_newObj_type (wpAny_bind (wpAny_pure (wpAny_pure ⟨_,rfl,wpAny_pure h⟩))) htake)
  | exact wpAny_bind (wpAny_bind (m:=Builtin.Tuple.tupleExact _) (wpAny_newObj_type (wpAny_pure (wpAny_pure ⟨_,rfl,wpAny_pure h⟩)) htake))
  | exact wpAny_bind (wpAny_bind (m:=Builtin.Tuple.tupleExact _) (wpAny_newObj_type (wpAny_pure ⟨_,rfl,wpAny_pure h⟩) htake))
end
end HT
namespace L2
open PySem PySem.Spec PyProof.Rows
noncomputable abbrev TO:=St->Hp->(Option Int->Hp->Prop)->Prop
noncomputable def PO (X:Cx)(e:Option Expr)(t:TO):Prop :=
 ∀ (pins:List (Addr×Obj)) (s:Shared) (σ:St) (H:Hp) (Q:Option Int->Hp->Prop),Inv X pins σ H s->t σ H Q ->
  wpAny (model X.prog X.w) X.A (evalPart e X.env) (fun u s'=>∃ o H',Inv X pins σ H' s'/\IsPart u o/\Q o H') X.xe s
noncomputable def qD:TO:=fun _ H Q=>Q none H
noncomputable def yC (t:TE):TO:=fun σ H Q=>t σ H fun x H1=>∃ i,x=.int i/\Q (some i) H1
section
variable {X:Cx}{e:Expr}{te:TE}{lo hi:Option Expr}{tl th:TO}{pos p2:Pos}
theorem ji:PO X none qD:=by
 intro pins s σ H Q I h
 rw [evalPart_none]
 exact wpAny_pure ⟨none,H,I,.none,h⟩
theorem jg (h:PE X e te):PO X (some e) (yC te):=by
 intro pins s σ H Q I hw
 rw [evalPart_some]
 refine thn (h pins s σ H _ I hw) fun u s1 ⟨x,H1,I1,r1,q1⟩=>?_
 obtain ⟨i,rfl,q⟩:=q1
 obtain ⟨t,rfl⟩:=r1
 exact ⟨some i,H1,I1,.int i t,q⟩
noncomputable def SlR (X:Cx)(r:V->Option Int->Option Int->Hp->VK->Prop):Prop :=
 ∀ (pins:List (Addr×Obj)) (s:Shared) (σ:St) (H:Hp) (x:V) (v vl vu:Value) (lo hi:Option Int) (sl:Addr) (Q:VK),Inv X pins σ H s->RelV x v->s.heap.IsSliceOf sl vl vu .none->IsPart vl lo->IsPart vu hi->r x lo hi H Q ->
  ∃ T id,typeLookup (.type T) "__getitem__"=pure (some (.builtin id))/\s.TypeIs v T/\wpAny (model X.prog X.w) X.A (getItem v (.ref sl)) (EP X pins σ Q) X.xe s
theorem SlR.or {r r':V->Option Int->Option Int->Hp->VK->Prop}(h:SlR X r)(h':SlR X r'):SlR X (fun x lo hi H Q=>r x lo hi H Q\/r' x lo hi H Q):=by
 intro pins s σ H x v vl vu lo hi sl Q I rx hs pl pu q
 rcases q with q | q
 ·exact h pins s σ H x v vl vu lo hi sl Q I rx hs pl pu q
 ·exact h' pins s σ H x v vl vu lo hi sl Q I rx hs pl pu q
noncomputable def tSl (r:V->Option Int->Option Int->Hp->VK->Prop)(te:TE)(tl th:TO):TE:=fun σ H Q=>te σ H fun x H1=>tl σ H1 fun l H2=>th σ H2 fun u H3=>r x l u H3 Q
theorem g9 {r:V->Option Int->Option Int->Hp->VK->Prop}(hr:SlR X r)(he:PE X e te)(hl:PO X lo tl)(hu:PO X hi th):PE X (.Subscript e (.Slice lo hi none p2) pos) (tSl r te tl th):=by
 intro pins s σ H Q I h
 refine Subscript_ (thn (he pins s σ H _ I h) fun v s1 ⟨x,H1,I1,r1,q1⟩=>?_)
 refine wpAny_Slice (thn (hl pins s1 σ H1 _ I1 q1) fun vl s2 ⟨l,H2,I2,pl,q2⟩=>thn (hu pins s2 σ H2 _ I2 q2) fun vu s3 ⟨u,H3,I3,pu,q3⟩=>?_)
 rw [evalPart_none]
 refine wpAny_pure ?_
 have I4:Inv X pins σ H3 { s3 with heap:=s3.heap.push { cls:=.type "slice",data:=.fields #[vl,vu,.none] } }:=I3.kept (t':=s3.toks) fun b ob q=>Heap.get?_push_of_some _ q
 obtain ⟨T,id,hT,ht,hg⟩:=hr pins { s3 with heap:=s3.heap.push { cls:=.type "slice",data:=.fields #[vl,vu,.none] } } σ H3 x v vl vu l u s3.heap.objs.size Q I4 r1 (Heap.IsSliceOf.new ..) pl pu q3
 show wpAny (model X.prog X.w) X.A (subscriptTail e (.Slice lo hi none p2) v (.ref s3.heap.objs.size)) (EP X pins σ Q) X.xe { s3 with heap:=s3.heap.push { cls:=.type "slice",data:=.fields #[vl,vu,.none] } }
 exact tail_any (ops:=[.ref s3.heap.objs.size,v]) ht hT hg (by with_unfolding_all rfl)
noncomputable def cZ (xs:List V)(lo hi:Option Int):List V:=(xs.drop (HT.sIx xs.length 0 lo)).take (HT.sIx xs.length xs.length hi-HT.sIx xs.length 0 lo)
theorem bN (xs:List V)(lo hi:Option Int):(cZ xs lo hi).length<=xs.length:=by
 unfold cZ
 rw [a1u,a1f]
 omega
noncomputable def Aa (K:a0a):V->Option Int->Option Int->Hp->VK->Prop:=fun x lo hi H Q=>∃ a xs,x=.ref a/\SqT K H a xs /\
 ¬ (HT.sIx xs.length 0 lo=0/\HT.sIx xs.length xs.length hi=xs.length)/\∀ p,H p=none->Q (.ref p) (upd H p (.tup (cZ xs lo hi)))
theorem tj:SlR X (Aa X.K):=by
 intro pins s σ H x v vl vu lo hi sl Q I rx hs pl pu h
 obtain ⟨a,xs,rfl,hx,hw,q⟩:=h
 cases rx
 obtain ⟨its,r,ht,hz⟩:=I.tuple hx
 have hlen:its.toArray.size=xs.length:=by rw [a0f]; exact r.length.symm
 refine ⟨"tuple",_,a0E.lookup,ht.typeIs,?_⟩
 refine HT.getItem_tuple_cut ht hs pl pu (by rw [hlen]; exact hw) ?_ (by rw [hlen]; exact hz)
 rw [hlen]
 refine ⟨.ref s.heap.objs.size,_,I.laid (t':=s.toks) (o:=.tup (cZ xs lo hi)) (fun b ob q=>Heap.get?_push_of_some _ q) (a0b _) ?_,rfl,q _ (I.hok.fresh (a0b _))⟩
 exact ⟨a0m (bN xs lo hi) hz,_,(r.drop (HT.sIx xs.length 0 lo)).take (HT.sIx xs.length xs.length hi-HT.sIx xs.length 0 lo),IsTup.new _ _⟩
noncomputable def wK (K:a0a):R2:=fun x y H Q=>∃ a b xs ys,x=.ref a/\y=.ref b/\SqT K H a xs/\SqT K H b ys/\xs≠[]/\xs.length+ys.length<=sizeLine /\
 (ys=[]->Q (.ref a) H)/\(ys≠[]->∀ p,H p=none->Q (.ref p) (upd H p (.tup (xs++ys))))
theorem Vals.nil_iff {xs:List V}{us:List Value}(r:Vals xs us):us=[] ↔ xs=[]:=by
 cases r with
 | nil=>simp
 | cons _ _=>simp
theorem qy:OpR X (binaryOp .Add) (wK X.K):=by
 intro pins s σ H x y v u Q I rx ry h
 obtain ⟨a,b,xs,ys,rfl,rfl,ha,hb,hx,hz,q1,q2⟩:=h
 cases rx
 cases ry
 obtain ⟨its,r1,p1,_⟩:=I.tuple ha
 obtain ⟨its2,r2,p2,_⟩:=I.tuple hb
 refine HT.cat_tup p1 p2 (fun z=>hx (r1.nil_iff.mp z)) (fun z=>⟨.ref a,H,I,rfl,q1 (r2.nil_iff.mp z)⟩) (fun z=>?_) (by rw [<- r1.length,<- r2.length]; exact hz)
 refine ⟨.ref s.heap.objs.size,_,I.laid (t':=s.toks) (o:=.tup (xs++ys)) (fun b ob q=>Heap.get?_push_of_some _ q) (a0b _) ?_,rfl,q2 (fun w=>z (r2.nil_iff.mpr w)) _ (I.hok.fresh (a0b _))⟩
 exact ⟨by rw [a0c]; exact hz,_,r1.append r2,IsTup.new _ _⟩
end
end L2
namespace L2
open PySem PySem.Spec PyProof.Rows
noncomputable def ixN (n:Nat)(i:Int):Option Nat:=if 0<=i then (if i < n then some i.toNat else none) else if -(n:Int)<=i then some (i+n).toNat else none
noncomputable def atI {α:Type}(xs:List α)(i:Int):Option α:=(ixN xs.length i).bind fun j=>xs[j]?
theorem jd {n:Nat}{i:Int}{j:Nat}(h:ixN n i=some j):seqIndex? i n=some j/\j < n/\-(n:Int)<=i/\i < n:=by
 unfold ixN at h
 by_cases h0:0<=i
 ·rw [if_pos h0] at h
  by_cases h1:i < n
  ·rw [if_pos h1] at h
   have e:i.toNat=j:=a0w h
   exact ⟨by rw [seqIndex_of h0 h1,e],by omega,by omega,h1⟩
  ·rw [if_neg h1] at h; cases h
 ·rw [if_neg h0] at h
  by_cases h1:-(n:Int)<=i
  ·rw [if_pos h1] at h
   have e:(i+n).toNat=j:=a0w h
   exact ⟨by rw [seqIndex_neg (by omega) h1,e],by omega,h1,by omega⟩
  ·rw [if_neg h1] at h; cases h
theorem gn {α:Type}{xs:List α}{i:Int}{v:α}(h:atI xs i=some v):∃ j,seqIndex? i xs.length=some j/\xs[j]?=some v/\j < xs.length/\-(xs.length:Int)<=i/\i < xs.length:=by
 unfold atI at h
 cases e:ixN xs.length i with
 | none=>rw [e] at h; cases h
 | some j =>
  rw [e] at h
  obtain ⟨h1,h2,h3,h4⟩:=jd e
  exact ⟨j,h1,h,h2,h3,h4⟩
noncomputable def gj (b:Expr):Prop:=∀ o i,subscripted b false o i=operate [o,i] (getItem o i)
noncomputable def IxR (X:Cx)(r:R2):Prop :=
 ∀ (value slice:Expr) (pins:List (Addr×Obj)) (s:Shared) (σ:St) (H:Hp) (x y:V) (v u:Value) (Q:VK),Inv X pins σ H s->RelV x v->RelV y u->r x y H Q ->
  subscripted slice false v u=operate [v,u] (getItem v u)->wpAny (model X.prog X.w) X.A (subscriptTail value slice v u) (EP X pins σ Q) X.xe s
noncomputable def MtR (X:Cx)(id:String)(r:V->List V->Hp->VK->Prop):Prop :=
 ∀ (pins:List (Addr×Obj)) (s:Shared) (σ:St) (H:Hp) (x:V) (xs:List V) (v:Value) (us:List Value) (Q:VK),Inv X pins σ H s->RelV x v->Vals xs us->r x xs H Q ->
  wpAny (model X.prog X.w) X.A (call (.builtin id) (v::us)) (EP X pins σ Q) X.xe s
section
variable {X:Cx}{a b:Expr}{ta tb:TE}{pos:Pos}
theorem IxR.or {r r':R2}(h:IxR X r)(h':IxR X r'):IxR X (fun x y H Q=>r x y H Q\/r' x y H Q):=by
 intro value slice pins s σ H x y v u Q I rx ry q hs
 rcases q with q | q
 ·exact h value slice pins s σ H x y v u Q I rx ry q hs
 ·exact h' value slice pins s σ H x y v u Q I rx ry q hs
theorem x8 {r:R2}(hr:IxR X r)(ha:PE X a ta)(hb:PE X b tb)(hs:gj b):PE X (.Subscript a b pos) (tOp r ta tb):=by
 intro pins s σ H Q I h
 exact Subscript_ (vx ha hb I h fun v u s2 x y H2 I2 rx ry q=>hr a b pins s2 σ H2 x y v u Q I2 rx ry q (hs _ _))
noncomputable def A7 (K:a0a):R2:=fun x y H Q=>∃ p xs i v,x=.ref p/\y=.int i/\SqL K H p xs/\atI xs i=some v/\Q v H
noncomputable def Av (K:a0a):R2:=fun x y H Q=>∃ p xs i v,x=.ref p/\y=.int i/\SqT K H p xs/\atI xs i=some v/\Q v H
noncomputable def Ac:R2:=fun x y H Q=>∃ z i c,x=.str z/\y=.int i/\z.length<=sizeLine/\atI z.cps.toList i=some c/\Q (.str ⟨#[c]⟩) H
theorem qm:IxR X (A7 X.K):=by
 intro value slice pins s σ H x y v u Q I rx ry h hs
 obtain ⟨p,xs,i,z,rfl,rfl,hq,he,q⟩:=h
 cases rx
 obtain ⟨t,rfl⟩:=ry
 obtain ⟨its,r,pl,hz⟩:=I.list hq
 obtain ⟨j,h1,h2,h3,h4,h5⟩:=gn he
 obtain ⟨w,ew,rw'⟩:=r.get h2
 have hl:=r.length
 have hn:=dr
 have fin:EP X pins σ Q w s:=⟨z,H,I,rw',q⟩
 by_cases h0:0<=i
 ·have hj:i.toNat=j:=by
   rw [seqIndex_of h0 h5] at h1
   exact a0w h1
  exact item_listR pl.isList h0 (by omega) (by rw [hj]; simpa using ew) fin hs
 ·have hj:(i+(its.toArray.size:Int)).toNat=j:=by
   rw [seqIndex_neg (by omega) h4] at h1
   rw [a0f,<- hl]
   exact a0w h1
  exact subscriptTail_builtinR (x:=w) pl.isList.typeIs slot_list_getitem.lookup
   (wpAny_getItem_list_neg (Q:=fun r s'=>r=w/\EP X pins σ Q r s') pl.isList (by omega) (by rw [a0f]<;>omega) (by omega) (by rw [hj]; simpa using ew) ⟨rfl,fin⟩) hs
theorem sW:IxR X (Av X.K):=by
 intro value slice pins s σ H x y v u Q I rx ry h hs
 obtain ⟨p,xs,i,z,rfl,rfl,hq,he,q⟩:=h
 cases rx
 obtain ⟨t,rfl⟩:=ry
 obtain ⟨its,r,pl,hz⟩:=I.tuple hq
 obtain ⟨j,h1,h2,h3,h4,h5⟩:=gn he
 obtain ⟨w,ew,rw'⟩:=r.get h2
 have hl:=r.length
 have hn:=dr
 have fin:EP X pins σ Q w s:=⟨z,H,I,rw',q⟩
 exact subscriptTail_builtinR (x:=w) pl.typeIs slot_tuple_getitem.lookup
  (getItem_tuple (j:=j) (Q:=fun r s'=>r=w/\EP X pins σ Q r s') pl (by omega) (by omega) (by rw [a0f,<- hl]; exact h1) (by simpa using ew) ⟨rfl,fin⟩) hs
theorem sL:IxR X Ac:=by
 intro value slice pins s σ H x y v u Q I rx ry h hs
 obtain ⟨z,i,c,rfl,rfl,hz,he,q⟩:=h
 obtain ⟨t,rfl⟩:=rx
 obtain ⟨t',rfl⟩:=ry
 obtain ⟨j,h1,h2,h3,h4,h5⟩:=gn he
 have hl:z.cps.toList.length=z.length:=by simp [Str.length]
 rw [hl] at h1 h4 h5
 have hn:=dr
 exact tail_any (typeIs_str s z t) slot_str_getitem.lookup (getItem_str (c:=c) (by
  have e1:decide (i < -(2 ^ 63:Int))=false:=decide_eq_false (by omega)
  have e2:decide (i >= 2 ^ 63)=false:=decide_eq_false (by omega)
  rw [e1,e2,Bool.or_false]) (by rw [h1]; simpa using h2) ⟨.str ⟨#[c]⟩,H,I.tok _,⟨_,rfl⟩,q⟩) hs
theorem ir (its:List Value)(n j:Nat)(u:Value):Obj.mapSeq (·.setIfInBounds j u) { cls:=.type "list",data:=.seq its.toArray n }={ cls:=.type "list",data:=.seq (its.set j u).toArray n }:=by
 simp [Obj.mapSeq]
theorem Inv.lst {pins:List (Addr×Obj)}{σ:St}{H:Hp}{s:Shared}{p:Addr}{xs:List V}(I:Inv X pins σ H s)(h:H p=some (.lst xs)) :
  ∃ (its:List Value) (n:Nat),Vals xs its/\s.heap.get? p=some { cls:=.type "list",data:=.seq its.toArray n }/\xs.length<=sizeLine:=by
 obtain ⟨z,its,n,r,e⟩:=I.hok p _ h
 exact ⟨its,n,r,e,z⟩
theorem Inv.lstUpd {pins:List (Addr×Obj)}{σ:St}{H:Hp}{s:Shared}{p:Addr}{xs ys:List V}{its its':List Value}{n n':Nat}{f:Obj->Obj}(I:Inv X pins σ H s)(h:H p=some (.lst xs))
  (ho:s.heap.get? p=some { cls:=.type "list",data:=.seq its.toArray n }) (hf:f { cls:=.type "list",data:=.seq its.toArray n }={ cls:=.type "list",data:=.seq its'.toArray n' }) (r:Vals ys its') (hz:ys.length<=sizeLine) (t:Nat) :
  Inv X pins σ (upd H p (.lst ys)) { s with heap:=s.heap.update p f,toks:=t }:=by
 have e:(s.heap.update p f).get? p=some { cls:=.type "list",data:=.seq its'.toArray n' }:=by
  rw [Heap.get?_update_self f ho (by rw [hf]<;>rfl),hf]
 refine I.write (x:=p) (e:=p) (by rw [h]; trivial) (.inl rfl) (fun b u hb q=>(Heap.get?_update_other _ _ (a1N hb)).trans q) ⟨_,e⟩ ?_
 exact ⟨hz,its',n',r,e⟩
noncomputable def yG:V->V->V->Hp->(Hp->Prop)->Prop:=fun o i v H Q=>∃ p xs k j,o=.ref p/\i=.int k/\H p=some (.lst xs)/\ixN xs.length k=some j/\Q (upd H p (.lst (xs.set j v)))
theorem lG:yO X yG:=by
 intro pins s σ H o i v ov iv u Q I ro ri rv h
 obtain ⟨p,xs,k,j,rfl,rfl,hp,hj,q⟩:=h
 cases ro
 obtain ⟨t,rfl⟩:=ri
 obtain ⟨its,n,r,ho,hz⟩:=I.lst hp
 obtain ⟨h1,h2,h3,h4⟩:=jd hj
 have hl:=r.length
 have hn:=dr
 have I':Inv X pins σ (upd H p (.lst (xs.set j v))) { s with heap:=s.heap.update p (Obj.mapSeq (·.setIfInBounds j u)) } :=
  I.lstUpd hp ho (ir its n j u) (r.set rv j) (by rw [a1z]; exact hz) s.toks
 by_cases h0:0<=k
 ·have hk:k.toNat=j:=by
   rw [seqIndex_of h0 h4] at h1
   exact a0w h1
  exact PySem.W.ki_setAt ho h0 (by omega) (by rw [a0f,<- hl]; exact h4) (by rw [hk]; exact ⟨_,I',q⟩)
 ·have hk:(k+(its.toArray.size:Int)).toNat=j:=by
   rw [seqIndex_neg (by omega) h3] at h1
   rw [a0f,<- hl]
   exact a0w h1
  exact PySem.W.ki_setBack ho (by omega) (by rw [a0f,<- hl]; exact h3) (by omega) (by rw [hk]; exact ⟨_,I',q⟩)
theorem fQ (lo hi:Option Int)(n:Nat):(sliceBounds lo hi none n).1=((HT.sIx n 0 lo:Nat):Int)/\(sliceBounds lo hi none n).2.1=((HT.sIx n n hi:Nat):Int)/\(sliceBounds lo hi none n).2.2=1:=by
 refine ⟨?_,?_,rfl⟩
 ·cases lo with
  | none=>simp [sliceBounds,HT.sIx]
  | some i =>
   simp only [sliceBounds,HT.sIx,a2u,show (1:Int) > 0 by decide,if_true]
   by_cases h:i < 0
   ·simp only [h,if_true]<;>omega
   ·simp only [h,if_false]<;>omega
 ·cases hi with
  | none=>simp [sliceBounds,HT.sIx]
  | some i =>
   simp only [sliceBounds,HT.sIx,a2u,show (1:Int) > 0 by decide,if_true]
   by_cases h:i < 0
   ·simp only [h,if_true]<;>omega
   ·simp only [h,if_false]<;>omega
theorem eY (its:List Value)(lo hi:Option Int):slicePick its.toArray lo hi none=((its.drop (HT.sIx its.length 0 lo)).take (HT.sIx its.length its.length hi-HT.sIx its.length 0 lo)).toArray:=by
 obtain ⟨h1,h2,h3⟩:=fQ lo hi its.toArray.size
 unfold slicePick
 rw [h1,h2,h3]
 simp only [sliceRange_one,pick_run,a0f]<;>rfl
noncomputable def qu (K:a0a):V->Option Int->Option Int->Hp->VK->Prop:=fun x lo hi H Q=>∃ a xs,x=.ref a/\SqL K H a xs/\∀ p,H p=none->Q (.ref p) (upd H p (.lst (cZ xs lo hi)))
theorem sl_list:SlR X (qu X.K):=by
 intro pins s σ H x v vl vu lo hi sl Q I rx hs pl pu h
 obtain ⟨a,xs,rfl,hx,q⟩:=h
 cases rx
 obtain ⟨its,r,ht,hz⟩:=I.list hx
 have hlen:=r.length
 refine ⟨"list",_,slot_list_getitem.lookup,ht.isList.typeIs,?_⟩
 refine wpAny_getItem_list_slice ht.isList hs pl pu .none (by simp) ?_ (by rw [a0f]<;>omega)
 rw [eY,<- hlen]
 refine ⟨.ref s.heap.objs.size,_,I.laid (t':=s.toks) (o:=.lst (cZ xs lo hi)) (fun b ob q=>Heap.get?_push_of_some _ q) (a0b _) ?_,rfl,q _ (I.hok.fresh (a0b _))⟩
 exact ⟨a0m (bN xs lo hi) hz,_,0,(r.drop (HT.sIx xs.length 0 lo)).take (HT.sIx xs.length xs.length hi-HT.sIx xs.length 0 lo),Heap.get?_push_size _ rfl⟩
noncomputable def cM:V->Bool
 | .non=>true
 | .bl _=>true
 | .int _=>true
 | .str _=>true
 | _=>false
noncomputable def eqV:V->V->Bool
 | .non,.non=>true
 | .bl a,.bl b=>a==b
 | .bl a,.int b=>(if a then 1 else 0)==b
 | .int a,.bl b=>a==(if b then 1 else 0)
 | .int a,.int b=>a==b
 | .str a,.str b=>a==b
 | _,_=>false
theorem rY {A:Around}{s:Shared}{y x:V}{u v:Value}(ry:RelV y u)(rx:RelV x v)(fy:cM y=true)(fx:cM x=true):SeqAt.EqAt A s u v (eqV y x):=by
 cases y with
 | non =>
  cases ry
  cases x with
  | non=>cases rx; exact SeqAt.EqAt.same _
  | bl b=>cases rx; exact SeqAt.EqAt.none_bool b
  | int b=>obtain ⟨t,rfl⟩:=rx; exact SeqAt.EqAt.none_int b t
  | str b=>obtain ⟨t,rfl⟩:=rx; exact SeqAt.EqAt.none_str b t
  | _=>exact absurd (show false=true from fx) a0h
 | bl a =>
  cases ry
  cases x with
  | non=>cases rx; exact SeqAt.EqAt.bool_none a
  | bl b=>cases rx; exact SeqAt.EqAt.bool_bool a b
  | int b=>obtain ⟨t,rfl⟩:=rx; exact SeqAt.EqAt.bool_int a b t
  | str b=>obtain ⟨t,rfl⟩:=rx; exact SeqAt.EqAt.bool_str a b t
  | _=>exact absurd (show false=true from fx) a0h
 | int a =>
  obtain ⟨t',rfl⟩:=ry
  cases x with
  | non=>cases rx; exact SeqAt.EqAt.int_none a t'
  | bl b=>cases rx; exact SeqAt.EqAt.int_bool a t' b
  | int b=>obtain ⟨t,rfl⟩:=rx; exact SeqAt.EqAt.int_int a t' b t
  | str b=>obtain ⟨t,rfl⟩:=rx; exact SeqAt.EqAt.int_str a t' b t
  | _=>exact absurd (show false=true from fx) a0h
 | str a =>
  obtain ⟨t',rfl⟩:=ry
  cases x with
  | non=>cases rx; exact SeqAt.EqAt.str_none a t'
  | bl b=>cases rx; exact SeqAt.EqAt.str_bool a t' b
  | int b=>obtain ⟨t,rfl⟩:=rx; exact SeqAt.EqAt.str_int a t' b t
  | str b=>obtain ⟨t,rfl⟩:=rx; exact SeqAt.EqAt.str_str a t' b t
  | _=>exact absurd (show false=true from fx) a0h
 | _=>exact absurd (show false=true from fy) a0h
noncomputable def eqU (x:V)(u:Value):Bool:=match u with
 | .none=>eqV .non x
 | .bool b=>eqV (.bl b) x
 | .int i _=>eqV (.int i) x
 | .str z _=>eqV (.str z) x
 | _=>false
theorem kU {x y:V}{u:Value}(r:RelV y u)(f:cM y=true):eqU x u=eqV y x:=by
 cases y with
 | non=>cases r; rfl
 | bl b=>cases r; rfl
 | int i=>obtain ⟨t,rfl⟩:=r; rfl
 | str z=>obtain ⟨t,rfl⟩:=r; rfl
 | _=>exact absurd (show false=true from f) a0h
theorem fT {x:V}:∀ {xs:List V} {us:List Value},Vals xs us->xs.all cM=true->us.any (eqU x)=xs.any fun y=>eqV y x
 | _,_,.nil,_=>rfl
 | y::xs,u::us,.cons r t,f=>by
  rw [a1b,a0i] at f
  rw [a1Q,a1Q,kU r f.1,fT t f.2]
theorem eC {A:Around}{s:Shared}{x:V}{v:Value}(rx:RelV x v)(fx:cM x=true):∀ {xs:List V} {us:List Value},Vals xs us->xs.all cM=true->∀ u∈us,SeqAt.EqAt A s u v (eqU x u)
 | _,_,.nil,_=>fun u hu=>by cases hu
 | y::xs,u::us,.cons r t,f=>fun u' hu=>by
  rw [a1b,a0i] at f
  rcases a0H.mp hu with rfl | hu
  ·rw [kU r f.1]; exact rY r rx f.1 fx
  ·exact eC rx fx t f.2 u' hu
noncomputable def inV (x:V)(xs:List V):Bool:=xs.any fun y=>eqV y x
noncomputable def rIn (K:a0a)(neg:Bool):R2:=fun x y H Q=>∃ p xs,y=.ref p/\(SqL K H p xs\/SqT K H p xs)/\cM x=true/\xs.all cM=true/\Q (.bl (if neg then !inV x xs else inV x xs)) H
theorem fg:OpR X (compareOp .In) (rIn X.K false):=by
 intro pins s σ H x y v u Q I rx ry h
 obtain ⟨p,xs,rfl,hq,fx,fs,q⟩:=h
 cases ry
 rcases hq with hq | hq
 ·obtain ⟨its,r,pl,hz⟩:=I.list hq
  refine SeqAt.in_listAt (eqU x) pl.isList (fun w hw=>eC rx fx r fs w (by simpa using hw)) ⟨.bl _,H,I,rfl,?_⟩
  rw [show its.toArray.any (eqU x)=its.any (eqU x) by simp,fT r fs]
  exact q
 ·obtain ⟨its,r,pl,hz⟩:=I.tuple hq
  refine SeqAt.in_tupleAt (eqU x) pl (fun w hw=>eC rx fx r fs w (by simpa using hw)) ⟨.bl _,H,I,rfl,?_⟩
  rw [show its.toArray.any (eqU x)=its.any (eqU x) by simp,fT r fs]
  exact q
theorem gc:cn X (.type "list") (fun xs H Q=>∃ p ys,xs=[.ref p]/\(SqL X.K H p ys\/SqT X.K H p ys)/\∀ l,H l=none->Q (.ref l) (upd H l (.lst ys))):=by
 intro pins s σ H xs us Q I r h
 obtain ⟨p,ys,rfl,hq,q⟩:=h
 obtain ⟨u,rfl,rx⟩:=dB r
 cases rx
 have fin:∀ (its:List Value),Vals ys its->ys.length<=sizeLine->∀ (h':Heap) (c':Nat),(∀ b o',s.heap.get? b=some o'->h'.get? b=some o') ->
   h'.get? s.heap.objs.size=some { cls:=.type "list",dict:=none,data:=.seq its.toArray c',slots:=#[] }->EP X pins σ Q (.ref s.heap.objs.size) { s with heap:=h' }:=fun its r' hz h' c' kp e =>
  ⟨.ref s.heap.objs.size,_,I.laid (t':=s.toks) kp (a0b _) (show ObjOk X.prog X.w _ h' _ (.lst ys) from ⟨hz,its,c',r',e⟩),rfl,q _ (I.hok.fresh (a0b _))⟩
 rcases hq with hq | hq
 ·obtain ⟨its,r',pl,hz⟩:=I.list hq
  have hlen:=r'.length
  obtain ⟨o,ho,hc,n,hd⟩:=pl.isList
  exact call_list_seq p (.inl rfl) ho hc hd (fun h' c' kp e=>fin its r' hz h' c' kp e) (by simp only [a0f]<;>omega)
 ·obtain ⟨its,r',pl,hz⟩:=I.tuple hq
  have hlen:=r'.length
  obtain ⟨o,ho,hc,n,hd⟩:=pl
  exact call_list_seq p (.inr rfl) ho hc hd (fun h' c' kp e=>fin its r' hz h' c' kp e) (by simp only [a0f]<;>omega)
theorem eW:cn X (.type "tuple") (fun xs H Q=>∃ p ys,xs=[.ref p]/\((SqL X.K H p ys/\∀ l,H l=none->Q (.ref l) (upd H l (.tup ys)))\/(SqT X.K H p ys/\Q (.ref p) H))):=by
 intro pins s σ H xs us Q I r h
 obtain ⟨p,ys,rfl,h⟩:=h
 obtain ⟨u,rfl,rx⟩:=dB r
 cases rx
 rcases h with ⟨hq,q⟩ | ⟨hq,q⟩
 ·obtain ⟨its,r',pl,hz⟩:=I.list hq
  have hlen:=r'.length
  refine call_tuple_list pl.isList (fun h' kp=>?_) (by simp only [a0f]<;>omega)
  have I1:Inv X pins σ H { s with heap:=h' }:=I.kept (t':=s.toks) kp
  have I2:Inv X pins σ (upd H h'.objs.size (.tup ys)) { s with heap:=h'.push { cls:=.type "tuple",data:=.seq its.toArray } } :=
   I1.laid (t':=s.toks) (fun b o e=>Heap.get?_push_of_some _ e) (a0b _) (show ObjOk X.prog X.w _ _ _ (.tup ys) from ⟨hz,its,r',IsTup.new _ _⟩)
  exact ⟨.ref h'.objs.size,_,I2,rfl,q _ (I1.hok.fresh (a0b _))⟩
 ·obtain ⟨its,r',pl,hz⟩:=I.tuple hq
  exact call_tuple_same pl ⟨.ref p,H,I,rfl,q⟩
noncomputable def tyV (K:a0a)(T:String)(x:V)(H:Hp):Prop:=match x with
 | .str _=>T="str"
 | .int _=>T="int"
 | .ref p=>(T="list"/\∃ xs,SqL K H p xs)\/(T="tuple"/\∃ o,K.lookup p=some o/\o.cls=.type "tuple"/\o.dict=none) \/
   (T="dict"/\((∃ kvs,H p=some (.dK kvs))\/∃ kvs,H p=some (.dT kvs)))\/(T="set"/\∃ S n,H p=some (.set S n))
 | _=>False
theorem tO {pins:List (Addr×Obj)}{σ:St}{H:Hp}{s:Shared}{T:String}{x:V}{v:Value}(I:Inv X pins σ H s)(r:RelV x v)(ty:tyV X.K T x H) :
  s.TypeIs v T/\∀ a,v=.ref a->∃ ob,s.heap.get? a=some ob/\ob.dict=none:=by
 cases x with
 | str z =>
  obtain ⟨t,rfl⟩:=r
  cases (show T="str" from ty)
  exact ⟨typeIs_str s z t,fun _ e=>nomatch e⟩
 | int i =>
  obtain ⟨t,rfl⟩:=r
  cases (show T="int" from ty)
  exact ⟨typeIs_int s i t,fun _ e=>nomatch e⟩
 | ref p =>
  cases r
  rcases ty with ⟨rfl,xs,hq⟩ | ⟨rfl,o,hk,hc,hd⟩ | ⟨rfl,hk⟩ | ⟨rfl,S,n,hk⟩
  ·obtain ⟨its,_,pl,_⟩:=I.list hq
   refine ⟨pl.isList.typeIs,fun a e=>?_⟩
   cases e
   obtain ⟨o,n,e,c,hd,_⟩:=pl
   exact ⟨o,e,hd⟩
  ·refine ⟨⟨o,I.kIn p o hk,hc⟩,fun a e=>?_⟩
   cases e
   exact ⟨o,I.kIn _ o hk,hd⟩
  ·have z:∃ o,s.heap.get? p=some o/\o.ExactDict:=by
    rcases hk with ⟨kvs,hk⟩ | ⟨kvs,hk⟩
    ·obtain ⟨_,_,_,_,o,_,_,e,ex,_⟩:=I.hok p _ hk
     exact ⟨o,e,ex⟩
    ·obtain ⟨_,_,_,_,o,_,_,e,ex,_⟩:=I.hok p _ hk
     exact ⟨o,e,ex⟩
   obtain ⟨o,e,ex⟩:=z
   refine ⟨⟨o,e,ex.1⟩,fun a e2=>?_⟩
   cases e2
   exact ⟨o,e,ex.2.1⟩
  ·obtain ⟨o,_,_,_,e,ex,_⟩:=I.hok p _ hk
   refine ⟨⟨o,e,ex.1⟩,fun a e2=>?_⟩
   cases e2
   exact ⟨o,e,ex.2.1⟩
 | _=>exact a1a ty
noncomputable def tBM (K:a0a)(T:String)(r:V->List V->Hp->VK->Prop)(to:TE)(t:TA):TE:=fun σ H Q=>to σ H fun x H1=>tyV K T x H1/\t σ H1 fun xs H2=>r x xs H2 Q
variable {o e:Expr}{es:List Expr}{to:TE}{t:TA}{name:Str}{apos cpos:Pos}{T id:String}{r:V->List V->Hp->VK->Prop}
theorem zu (pa:PlainAttrs T)(slot:Slot T name id)(hty:typeOf (.builtin id)=pure (.type "method_descriptor"))(hm:MtR X id r)(ho:PE X o to)(ha:PA X (e::es) t)
  (hbase:attributeBase o name X.env (eval o X.env)=eval o X.env:=by rfl)
  (hfew:((backTo cpos (starEach (e::es) X.env)).all (fun x=>!x.1)&&(backToKw cpos (keywordEach [] X.env)).all (fun x=>x.1.isSome)
  &&decide ((e::es).length+([]:List Keyword).length+(if ([]:List Keyword).isEmpty then 0 else 1) < 30))=true:=by rfl)
  (hline:(apos.endLine==cpos.line)=true:=by rfl) (hs:starEach (e::es) X.env=(false,eval e X.env)::starEach es X.env:=by rfl) (hplain:(backTo cpos (starEach es X.env)).any (·.1)=false:=by rfl) :
  PE X (.Call (.Attribute o name apos) (e::es) [] cpos) (tBM X.K T r to t):=by
 intro pins s σ H Q I h
 refine wpAny_Call_method_late hbase hfew hline rfl (thn (ho pins s σ H _ I h) fun v s1 ⟨x,H1,I1,r1,ty,q1⟩=>?_)
 obtain ⟨h1,h2⟩:=tO I1 r1 ty
 refine ⟨T,id,pa,slot,hty,h1,h2,?_⟩
 have hA:=ha cpos pins s1 σ H1 _ I1 q1
 rw [hs] at hA ⊢
 refine Calls.callWith_builtin (by show (false || (backTo cpos (starEach es X.env)).any (·.1))=false; rw [hplain]<;>rfl) (Calls.evalArgs_plain ?_)
 exact thn hA fun us s2 ⟨vs,H2,I2,r2,q2⟩=>hm pins s2 σ H2 x vs v us Q I2 r1 r2 q2
end
end L2
namespace L2
open PySem PySem.Spec PyProof.Rows
noncomputable def MtM (X:Cx)(id:String)(r:V->List V->Hp->VK->Prop):Prop :=
 ∀ (pins:List (Addr×Obj)) (s:Shared) (σ:St) (H:Hp) (x:V) (xs:List V) (v:Value) (us:List Value) (Q:VK),Inv X pins σ H s->RelV x v->Vals xs us->r x xs H Q ->
  wpAny (model X.prog X.w) X.A (call (.builtin id) (v::us)) (EP X pins σ Q) X.xe s
theorem Vals.one:∀ {x:V} {us:List Value},Vals [x] us->∃ u,us=[u]/\RelV x u
 | _,_,.cons r .nil=>⟨_,rfl,r⟩
theorem Vals.rep {xs:List V}{us:List Value}(h:Vals xs us):∀ k:Nat,Vals (a0e k xs).flatten (a0e k us).flatten
 | 0=>.nil
 | k+1=>by
  rw [a0I,a0I,a1c,a1c]
  exact Vals.append h (Vals.rep h k)
theorem fv (its:List Value):∀ (k:Nat) (acc:List Value),
  a2J (fun x1 x2=>x1++x2) acc.toArray (a0e k its.toArray)=(acc++(a0e k its).flatten).toArray
 | 0,acc=>by simp
 | k+1,acc=>by
  have e:acc.toArray++its.toArray=(acc++its).toArray:=by simp
  have e2:(acc++its)++(a0e k its).flatten=acc++(a0e (k+1) its).flatten:=by
   rw [a0I,a1c,a0X]
  rw [<- e2,<- fv its k (acc++its),<- e,a0I,a2D]
section
variable {X:Cx}{pins:List (Addr×Obj)}{σ:St}{H:Hp}{s:Shared}{l b:Addr}{xs ys zs:List V}
theorem Inv.lset {its its':List Value}{n:Nat}{f:Array Value->Array Value}{t':Nat}(I:Inv X pins σ H s)(hH:H l=some (.lst xs))
  (e:s.heap.get? l=some { cls:=.type "list",data:=.seq its.toArray n }) (hf:f its.toArray=its'.toArray) (hv:Vals ys its') (hz:ys.length<=sizeLine) :
  Inv X pins σ (upd H l (.lst ys)) { s with heap:=s.heap.update l (Obj.mapSeq f),toks:=t' }:=by
 have q:=PySem.IsL.update e f
 rw [hf] at q
 refine I.write (x:=l) (e:=l) (by rw [hH]; exact trivial) (.inl rfl) (fun b' u hb hu=>(Heap.get?_update_other s.heap (Obj.mapSeq f) (a1N hb)).trans hu) ⟨_,q⟩ ?_
 exact ⟨hz,its',_,hv,q⟩
theorem Inv.lnew {its:List Value}{t':Nat}(I:Inv X pins σ H s)(hv:Vals ys its)(hz:ys.length<=sizeLine) :
  Inv X pins σ (upd H s.heap.objs.size (.lst ys)) { s with heap:=s.heap.push { cls:=.type "list",data:=.seq its.toArray },toks:=t' } :=
 I.laid (fun _ _ q=>Heap.get?_push_of_some _ q) (a0b _) ⟨hz,its,0,hv,Heap.get?_push_size _ rfl⟩
theorem Inv.fresh (I:Inv X pins σ H s):H s.heap.objs.size=none:=I.hok.fresh (a0b _)
theorem Inv.lstM (I:Inv X pins σ H s)(hH:H l=some (.lst xs)):xs.length<=sizeLine/\∃ (its:List Value) (n:Nat),Vals xs its/\xs.length=its.length/\s.heap.get? l=some { cls:=.type "list",data:=.seq its.toArray n }:=by
 obtain ⟨z,its,n,r,e⟩:=I.hok l _ hH
 exact ⟨z,its,n,r,r.length,e⟩
theorem mO {n:Nat}(h:n<=sizeLine):Builtin.List.listTooLong n=false:=by
 unfold Builtin.List.listTooLong
 exact decide_eq_false (by omega)
end
section
variable {X:Cx}
noncomputable def qw:V->List V->Hp->VK->Prop:=fun x vs H Q=>∃ l xs y,x=.ref l/\vs=[y]/\H l=some (.lst xs)/\xs.length < sizeLine/\Q .non (upd H l (.lst (xs++[y])))
theorem j1:MtM X "list.append" qw:=by
 intro pins s σ H x vs v us Q I rx rv h
 obtain ⟨l,xs,y,rfl,rfl,hH,hz,q⟩:=h
 cases rx
 obtain ⟨u,rfl,ru⟩:=rv.one
 obtain ⟨z,its,n,r,hl,e⟩:=I.lstM hH
 refine call_meets F.slot_list_append ⟨_,e,rfl⟩ F.entry_list_append (F.args_list_append_2 _ _) (PySem.list_append l its.toArray n u (by rw [a0f]; omega)) ⟨e,?_⟩
 refine ⟨.non,_,I.lset (its':=its++[u]) hH e (by simp) (r.append (.cons ru .nil)) ?_,rfl,q⟩
 rw [a0c,a0u]
 omega
noncomputable def xT:R2:=fun x y H Q=>∃ l b xs zs,x=.ref l/\y=.ref b/\H l=some (.lst xs)/\H b=some (.lst zs)/\xs.length+zs.length<=sizeLine/\∀ p,H p=none->Q (.ref p) (upd H p (.lst (xs++zs)))
theorem op_cat:OpR X (binaryOp .Add) xT:=by
 intro pins s σ H x y v u Q I rx ry h
 obtain ⟨l,b,xs,zs,rfl,rfl,hH,hB,hz,q⟩:=h
 cases rx
 cases ry
 obtain ⟨z,its,n,r,hl,e⟩:=I.lstM hH
 obtain ⟨z2,its2,n2,r2,hl2,e2⟩:=I.lstM hB
 refine PySem.P.add_list e e2 ?_ (by rw [a0f,a0f]; omega)
 have ea:its.toArray++its2.toArray=(its++its2).toArray:=by simp
 rw [ea]
 exact ⟨.ref _,_,I.lnew (t':=s.toks) (r.append r2) (by rw [a0c]; omega),rfl,q _ I.fresh⟩
noncomputable def wH:R2:=fun x y H Q=>∃ l k xs,x=.ref l/\y=.int k/\H l=some (.lst xs)/\-(2 ^ 63)<=k/\k < 2 ^ 63/\xs.length * k.toNat<=sizeLine /\
 ∀ p,H p=none->Q (.ref p) (upd H p (.lst (a0e k.toNat xs).flatten))
theorem oX {α:Type}(xs:List α)(k:Nat):(a0e k xs).flatten.length=k * xs.length:=by
 induction k with
 | zero=>simp
 | succ k ih=>rw [a0I,a1c,a0c,ih,a2p,a12]
theorem vI:OpR X (binaryOp .Mult) wH:=by
 intro pins s σ H x y v u Q I rx ry h
 obtain ⟨l,k,xs,rfl,rfl,hH,h1,h2,hz,q⟩:=h
 cases rx
 obtain ⟨t,rfl⟩:=ry
 obtain ⟨z,its,n,r,hl,e⟩:=I.lstM hH
 have hlen:its.toArray.size * k.toNat<=sizeLine:=by rw [a0f,<- hl]; exact hz
 have hcap:¬ its.toArray.size * k.toNat > (2 ^ 63-1) / 8:=by
  have:(sizeLine:Nat)<=(2 ^ 63-1) / 8:=by decide
  omega
 have hfit:¬ (!Builtin.List.listFitsIndex k)=true:=by
  rw [fitsIndex_both h1 h2]
  exact a0h
 have hlong:¬ Builtin.List.listTooLong (its.toArray.size * k.toNat)=true:=by
  rw [mO hlen]
  exact a0h
 have hnew:a2J (fun x1 x2=>x1++x2) #[] (a0e (if its.toArray.isEmpty=true then 0 else k.toNat) its.toArray)=(a0e k.toNat its).flatten.toArray:=by
  have f0:∀ m:Nat,a2J (fun x1 x2=>x1++x2) #[] (a0e m its.toArray)=(a0e m its).flatten.toArray:=fun m=>by
   have:=fv its m []
   rw [a0K] at this
   exact this
  rw [f0]
  cases its with
  | nil=>simp
  | cons a r'=>rw [if_neg (by simp)]
 refine wpAny_binaryOp_repeat_ref (T:="list") (U:="int") (by decide) ⟨_,e,rfl⟩ (fun s'=>typeIs_int s' k t) noFill_list_mul F.fills_int_mul F.slot_int_rmul repeat_list F.slot_int_index.lookup
  (call_meets F.slot_int_rmul (typeIs_int s k t) F.entry_int_rmul (F.args_int_rmul_2 _ _) (int___rmul___int_list k t l its.toArray n)
   ⟨e,rfl,⟨_,e,rfl⟩,call_meets F.slot_list_mul ⟨_,e,rfl⟩ F.entry_list_mul (F.args_list_mul_2 _ _) (AutoListH.list___mul___list_int_3 l its.toArray n k t hfit hcap hlong) ⟨e,?_⟩⟩)
 rw [hnew]
 exact ⟨.ref _,_,I.lnew (t':=s.toks) (r.rep k.toNat) (by rw [oX,a2q]; exact hz),rfl,q _ I.fresh⟩
end
end L2
namespace Att
open PySem PySem.W PySem.Calls PyProof.Rows
theorem dF {P:Params}{h:Heap}:∀ (ns:List Int) (vs:List Value),WellAll P h vs (ns.map WData.int)->IntsAre vs ns:=by
 intro ns
 induction ns with
 | nil =>
  intro vs w
  rw [a1i] at w
  cases w
  exact .nil
 | cons n ns ih =>
  intro vs w
  rw [a0C] at w
  cases w with
  | cons a b =>
   cases a
   exact .cons _ _ (ih _ b)
theorem ky {l:OpenLaw}{n:Nat}(hn:l.most=some n){P:Params}{h:Heap}{args:List WData}{vals:List Value}
  (hpre:l.row.toRowW.claim.pre args=true) (hwl:WellAll P h vals args) :
  ∃ a vs ns,vals=[Value.ref a]/\args=[WData.list (ns.map WData.int)]/\h.get? a=some { cls:=.type "list",data:=.seq vs.toArray }/\IntsAre vs ns/\ns.length<=n:=by
 have hsh:WShape.hasAll [] args [.list .int]=true:=(pre_splitW hpre).1
 have hc:l.pre.holds [] { args:=args }=true:=(pre_splitW hpre).2
 obtain ⟨d,r,rfl,h1,h2⟩:=hasAllW_cons hsh
 obtain rfl:=hasAllW_nil h2
 obtain ⟨xs,rfl,h3⟩:=hasW_list h1
 obtain ⟨ns,rfl⟩:=items_int h3
 have hlen:ns.length<=n:=by
  unfold OpenLaw.pre at hc
  have h4:(WTm.not (.lt (.lit (.int (n:Int))) (.len (.arg 0)))).holds [] { args:=[.list (ns.map .int)] }=true:=by
   have h4:=(holds_andW hc).1
   rw [hn] at h4
   exact h4
  have h5:=condW_of h4 (w_not (w_lt w_lit (w_len_list (w_arg rfl))))
  rw [a0d] at h5
  refine a2v fun q=>?_
  have q':(n:Int) < ((ns.length:Nat):Int):=by omega
  first
   | (rw [decide_eq_true q'] at h5; exact absurd h5 (by decide))
   | (simp at h5; omega)
 cases hwl with
 | cons w1 w2 =>
  cases w2
  cases w1 with
  | list ho hall=>exact ⟨_,_,ns,rfl,rfl,ho,dF ns _ hall,hlen⟩
theorem kh (l:OpenLaw)(args:List WData):l.row.toRowW.claim.post args (.bool true) args=true :=
 postW_of (r:=l.row.toRowW) (X:=(true==true))
  (show WShape.has [] (.bool true) .bool=true by first | rfl | decide | simp [WShape.has,WShape.arms,WShape.armsAll])
  (show (WTm.eq .res (.lit (.bool true))).value [] { args:=args,res:=some (.bool true),after:=args }=some (.bool (true==true)) from w_eq_bool (w_res rfl) w_lit) rfl
theorem attach_call {l:OpenLaw}{n:Nat}{q:Program}{loose:List Str}{XP:(Str->Option Value)->Heap->Prop}{YP:World->Heap->Prop}{d:DefRec}
  (hn:l.most=some n) (hdf:d.params.defaults=[])
  (call:∀ (w:World) (s₀ s₁:Shared) (mg mb:Str->Option Value) (fa:Addr) (o:Obj) (pm cd doc:Value) (a:Addr) (vs:List Value) (ns:List Int),
   Ground q loose [] XP w s₀ mg mb s₁.heap->YP w s₁.heap ->
   s₁.heap.get? fa=some o->o.data=.func (docDef d.name d.params d.body d.scope pm cd doc)->s₁.heap.CodeRec cd d.name->mg d.name=some (.ref fa) ->
   s₁.heap.get? a=some { cls:=.type "list",data:=.seq vs.toArray }->IntsAre vs ns->ns.length<=n->s₁.gens=#[] ->
   codeAny (model l.prog w) callerA (.call (.ref fa) ⟨[.ref a],[]⟩) (fun r s'=>r=.ok (.ret (.bool true))/\OldK s₁.heap s'.heap/\s'.os=s₁.os/\AllBare s'.gens) s₁) :
  WalkO q loose XP YP l.row.toRowW d [] (fun f vs=>a2K f vs):=by
 intro w s₀ s₁ mg mb G Y fa o pm cd doc dV kV ho hd hcd hD hmg hg args vals as hpre hlay hrd hwl hlo
 obtain rfl:dV=.none:=Dflts.none hD hdf
 obtain rfl:kV=.none:=Dflts.noKw hD
 obtain ⟨a,vs,ns,rfl,rfl,hobj,hints,hlen⟩:=ky hn hpre hwl
 refine enter_call (codeAny_mono (call w s₀ s₁ mg mb fa o pm cd doc a vs ns G Y ho (fd_plain hd) hcd hmg hobj hints hlen hg) fun r s' hq=>?_)
 obtain ⟨rfl,h2,h3,h4⟩:=hq
 exact ⟨.inl ⟨.bool true,.bool true,[],rfl,fun _=>rfl,.bool true,kh l _,fun _=>⟨a2Z,fun _ hm=>(nomatch hm)⟩⟩,h2,h3,h4⟩
end Att
namespace L2
open PySem PySem.Spec PyProof.Rows
theorem cJ:∀ {vs:List Value} {ns:List Int},IntsAre vs ns->Vals (ns.map V.int) vs
 | _,_,.nil=>.nil
 | _,_,.cons n t h=>.cons ⟨t,rfl⟩ (cJ h)
noncomputable def ll (H:Hp):Prop:=∀ b,H b=none\/∃ o xs,H b=some (.frz o (.lst xs))
theorem lj {P:Program}{w:World}{K:a0a}{mg mb:Str->Option Value}{CX:CXT}{k:Nat}{fa a:Addr}{fd:FuncData}{x:Str}{sp:Sp}{s₁:Shared}{vs:List Value}{ns:List Int}
  (KX:K.In s₁.heap) (hns:s₁.heap.Ns mainGlobals mg) (hb:s₁.heap.Ns builtinsNs mb) (hbb:∀ x:Str,x≠"__name__"->mb x=bootBuiltins x) (hlim:s₁.heap.NoLimit) (hg:s₁.gens=#[])
  (ha:s₁.heap.get? a=some { cls:=.type "list",data:=.seq vs.toArray }) (hi:IntsAre vs ns) (hl:ns.length<=sizeLine) (hr:Room k callerA)
  (F:∀ base:Heap,K.In base->base.Ns mainGlobals mg->c8 P w K mg base CX k fa fd [x] sp) (hbind:∀ (s:Shared) (u:Value),BindsTo s fd ⟨[u],[]⟩ [(x,u)])
  (hsp:∀ H:Hp,ll H->SqL K H a (ns.map V.int)->sp [.ref a] H (fun v _=>v=.bl true) fun _ _ _=>False)
  (hCX:∀ H e s',CX [] H s₁ (fun _ _ _=>False) e s'->False) :
  codeAny (model P w) callerA (.call (.ref fa) ⟨[.ref a],[]⟩) (fun r s'=>r=.ok (.ret (.bool true))/\OldK s₁.heap s'.heap/\s'.os=s₁.os/\AllBare s'.gens) s₁:=by
 have rv:=cJ hi
 have lenV:=hi.length
 -- from an abstract heap in which nothing but the script may be tracked
 have core:∀ H:Hp,ll H->SqL K H a (ns.map V.int)->HOk P w H s₁.heap->(∀ b,H b≠none->b=a)->(H a≠none->K.lookup a=none) ->
   codeAny (model P w) callerA (.call (.ref fa) ⟨[.ref a],[]⟩) (fun r s'=>r=.ok (.ret (.bool true))/\OldK s₁.heap s'.heap/\s'.os=s₁.os/\AllBare s'.gens) s₁:=by
  intro H hO hS hok hA hK
  have base_of:∀ {b:Addr} {o:Obj},s₁.heap.get? b=some o->H b=none->(gb s₁.heap H).get? b=some o:=fun e n=>mz e n
  have noA:∀ {b:Addr} {o:Obj} {es:Array DictEntry} {ep:Nat},s₁.heap.get? b=some o->o.data=.dict es ep->H b=none:=fun {b o es ep} e d=>by
   cases q:H b with
   | none=>rfl
   | some u =>
    have e':b=a:=hA b (by rw [q]; simp)
    subst e'
    rw [ha] at e; cases e
    have d':Data.seq vs.toArray _=Data.dict es ep:=d
    cases d'
  have nsK:∀ {b:Addr} {m:Str->Option Value},s₁.heap.Ns b m->(gb s₁.heap H).Ns b m:=fun {b m} ⟨o,es,ep,e,d,r⟩=>⟨o,es,ep,base_of e (noA e d),d,r⟩
  have hKb:K.In (gb s₁.heap H):=fun b o e=>base_of (KX b o e) (by
   cases q:H b with
   | none=>rfl
   | some u =>
    have e':b=a:=hA b (by rw [q]; simp)
    subst e'
    rw [hK (by rw [q]; simp)] at e; cases e)
  have hM:Mod K mg (gb s₁.heap H):=⟨hKb,nsK hns,⟨mb,nsK hb,hbb⟩,let ⟨mc,h1,h2⟩:=hlim; ⟨mc,nsK h1,h2⟩⟩
  have e0:oG P w K mg (gb s₁.heap H) callerA [] s₁ H:=⟨rfl,hM,fun b o e=>oK e,Nat.le_of_eq (kc _ _),trivial,fun b hb=>absurd (show b∈([]:List Addr) from hb) (by simp),hok,.of_eq hg⟩
  refine codeAny_mono ((F _ hKb (nsK hns)).run callerA [] s₁ H ⟨[.ref a],[]⟩ [.ref a] [.ref a] _ _ hr e0 (hbind s₁ (.ref a)) (.cons rfl .nil) (hsp H hO hS)) fun r s' h=>?_
  cases r with
  | error e=>exact (hCX H e s' h).elim
  | ok fl =>
   cases fl with
   | next=>exact a1a h
   | brk=>exact a1a h
   | cont=>exact a1a h
   | ret u =>
    obtain ⟨v,H',os,bare,un,hok',r',q⟩:=h
    have q':v=.bl true:=q
    subst q'
    obtain rfl:u=Value.bool true:=r'
    refine ⟨rfl,OldK.of_keep fun b o e=>?_,os,bare⟩
    cases q:H b with
    | none=>exact un.keep b o e q (by intro z; exact absurd (show b∈([]:List Addr) from z) (by simp)) (by simp)
    | some u =>
     rcases hO b with z | ⟨ob,xs,z⟩
     ·rw [q] at z; cases z
     ·have z2:=un.frzs b ob _ z
      obtain ⟨e1,_⟩:=hok b _ z
      obtain ⟨e2,_⟩:=hok' b _ z2
      rw [e] at e1; cases e1
      exact e2
 cases hk:K.lookup a with
 | some o =>
  -- the script is one of the module's own objects
  have e:=KX a o hk
  rw [ha] at e
  cases e
  refine core (fun _=>none) (fun _=>.inl rfl) (.inr ⟨_,vs.toArray,_,hk,rfl,rfl,rfl,by rw [a0f,lenV]; exact hl,by simpa using rv⟩) (fun b u z=>by have z':(none:Option HO)=some u:=z; cases z') (fun b z=>absurd rfl z) fun z=>absurd rfl z
 | none =>
  refine core (fun b=>if b=a then some (.frz { cls:=.type "list",data:=.seq vs.toArray } (.lst (ns.map V.int))) else none) (fun b=>?_) (.inl (.inr ⟨{ cls:=.type "list",data:=.seq vs.toArray },if_pos rfl⟩)) (fun b u z=>?_) (fun b z=>?_) fun _=>hk
  ·by_cases hb:b=a
   ·exact .inr ⟨_,_,if_pos hb⟩
   ·exact .inl (if_neg hb)
  ·by_cases hb:b=a
   ·have z':=(if_pos hb).symm.trans z
    cases z'
    subst hb
    exact ⟨ha,by rw [a0d]; exact hl,vs,_,rv,ha⟩
   ·have z':=(if_neg hb).symm.trans z
    cases z'
  ·by_cases hb:b=a
   ·exact hb
   ·exact absurd (if_neg hb) z
end L2
namespace L2
open PySem PySem.Spec PyProof.Rows
theorem walk_of {l:a13}{n k:Nat}{q:Program}{loose:List Str}{XP:(Str->Option Value)->Heap->Prop}{YP:World->Heap->Prop}{d:DefRec}{K:Params->a0a}{CX:World->CXT}{sp:World->Sp}{x:Str}
  (hn:l.most=some n) (hn2:n<=sizeLine) (hdf:d.params.defaults=[]) (hr:Room k callerA)
  (hY:∀ (w:World) (h:Heap),YP w h->(K w.params).In h)
  (F:∀ (w:World) (mg:Str->Option Value) (fa:Addr) (h:Heap),(K w.params).In h->h.Ns mainGlobals mg->mg d.name=some (.ref fa) ->
   ∃ fd:FuncData,(∀ (s:Shared) (u:Value),BindsTo s fd ⟨[u],[]⟩ [(x,u)]) /\
    ∀ base:Heap,(K w.params).In base->base.Ns mainGlobals mg->c8 l.prog w (K w.params) mg base (CX w) k fa fd [x] (sp w))
  (hsp:∀ (w:World) (H:Hp) (a:Addr) (ns:List Int),ns.length<=n->ll H->SqL (K w.params) H a (ns.map V.int)->sp w [.ref a] H (fun v _=>v=.bl true) fun _ _ _=>False)
  (hCX:∀ (w:World) (H:Hp) (s:Shared) (e:Value) (s':Shared),CX w [] H s (fun _ _ _=>False) e s'->False) :
  a2L q loose XP YP l.row.toRowW d [] (fun f vs=>a2K f vs):=by
 refine Att.attach_call hn hdf fun w s₀ s₁ mg mb fa o pm cd doc a vs ns G Y ho hd hcd hmg hobj hints hlen hg=>?_
 have KX:=hY w _ Y
 obtain ⟨fd,hb,hF⟩:=F w mg fa _ KX G.T.g hmg
 exact lj KX G.T.g G.T.b G.T.builtins G.T.nolimit hg hobj hints (a0m hlen hn2) hr hF hb (fun H hO hS=>hsp w H a ns hlen hO hS) fun H e s'=>hCX w H s₁ e s'
end L2
namespace L2
open PySem PySem.Spec PyProof.Rows
noncomputable def defArgs (s:Stmt):Arguments:=match s with
 | .FunctionDef _ a _ _ _ _ _ _ _ _=>a
 | _=>{ posonlyargs:=[],args:=[],vararg:=none,kwonlyargs:=[],kw_defaults:=[],kwarg:=none,defaults:=[] }
noncomputable def defBody (s:Stmt):List Stmt:=match s with
 | .FunctionDef _ _ b _ _ _ _ _ _ _=>b
 | _=>[]
noncomputable def defScope (s:Stmt):Scope:=match s with
 | .FunctionDef _ _ _ _ _ _ sc _ _ _=>sc
 | _=>{ kind:=.function,names:=[],isGenerator:=false,isCoroutine:=false }
noncomputable abbrev CX0:CXT:=fun _ _ _ _ _ _=>False
noncomputable abbrev E0:XK:=fun _ _ _=>False
theorem yV {X:Cx}:iF CX0 X E0:=fun _ _ _ _ _ _ _ h=>h.elim
structure Fun (K:a0a)(x qual:Str)(st:Stmt)(f:Addr)(fd:FuncData):Prop where
 ex:∃ (oc:Value) (od:Option Addr) (kV doc pm:Value) (an:Option Addr) (cdv ct:Value) (osl:Array (Option Value)),
  fd=a03 x qual (defArgs st) (defBody st) (defScope st) .none kV doc pm an cdv ct/\K.lookup f=some ⟨oc,od,.func fd,osl⟩/\a1I K cdv qual=true
 kp:a1r K (.ref f)=true
section
variable {P:Program}{w:World}{K:a0a}{mg:Str->Option Value}{base:Heap}
theorem Fun.ok {x qual:Str}{st:Stmt}{f:Addr}{fd:FuncData}{N ps:List Str}{k:Nat}{sp:Sp}(F:Fun K x qual st f fd)(S:au N ps (defScope st))(len:∀ vs H Q E,sp vs H Q E->vs.length=ps.length)
  (hbody:∀ (cdv:Value) (A:Around) (outer:List Env) (s:Shared) (H:Hp) (vs:List V) (Q:VK) (E:XK),Room k (A.deeper (envOfC qual (defScope st) s.heap.objs.size f cdv))->sp vs H Q E ->
   ∃ t,PSs (fM CX0 P w K mg base N qual (defScope st) f cdv A outer s H E).nox (defBody st) t/\t { nx:=fun _ H'=>Q .non H',rt:=Q } (start N vs) H):c8 P w K mg base CX0 (k+1) f fd ps sp:=by
 obtain ⟨oc,od,kV,doc,pm,an,cdv,ct,osl,rfl,lk,hcd⟩:=F.ex
 refine yK lk hcd S len fun A outer s H vs Q E hr hsp=>?_
 obtain ⟨t,h,q⟩:=hbody cdv A outer s H vs Q E hr hsp
 exact ⟨t,h.nox,q⟩
theorem Fun.binds {x qual:Str}{st:Stmt}{f:Addr}{fd:FuncData}{ps:List Str}(F:Fun K x qual st f fd)
  (h:∀ (kV doc pm:Value) (an:Option Addr) (cdv ct:Value) (us:List Value),us.length=ps.length->bindArgs (a03 x qual (defArgs st) (defBody st) (defScope st) .none kV doc pm an cdv ct) ⟨us,[]⟩=pure (ps.zip us)):Binds K fd ps []:=by
 obtain ⟨oc,od,kV,doc,pm,an,cdv,ct,osl,rfl,lk,hcd⟩:=F.ex
 exact .all (h kV doc pm an cdv ct)
theorem lM {x qual:Str}{st:Stmt}{f:Addr}{oc:Value}{od an:Option Addr}{osl:Array (Option Value)}{kV doc pm cdv ct:Value}(l:K.lookup f=some ⟨oc,od,.func (a03 x qual (defArgs st) (defBody st) (defScope st) .none kV doc pm an cdv ct),osl⟩)
  (c:a1I K cdv qual=true) (k:a1r K (.ref f)=true):Fun K x qual st f (a03 x qual (defArgs st) (defBody st) (defScope st) .none kV doc pm an cdv ct):=⟨⟨oc,od,kV,doc,pm,an,cdv,ct,osl,rfl,l,c⟩,k⟩
end
section
variable {X:Cx}
theorem pv (i:Nat){x:Str}{pos:Pos}(hN:X.N[i]?=some x:=by rfl)(hv:Vis X.env.scope x:=by first | exact a0r rfl | exact a0n (a0r rfl) | exact a0n (a0n rfl))(hd:(x==("__debug__":Str))=false:=by decide)
  (hcd:(x==("__classdict__":Str))=false:=by decide):PE X (.Name x pos) (j7 i):=dq hN hv hd hcd
end
noncomputable def Same (H H':Hp):Prop:=∀ b o,H b=some o->H' b=some o
theorem Same.refl (H:Hp):Same H H:=fun _ _ h=>h
end L2
namespace L2
open PySem PySem.Spec PyProof.Rows
end L2
namespace L2
open PySem PySem.Spec PyProof.Rows
end L2

set_option maxHeartbeats 4000000
namespace L3
open PySem PySem.Spec PyProof.Rows L2
noncomputable abbrev noX:Value->Shared->Prop:=fun _ _=>False
theorem fC {P:Program}{w:World}{H:Hp}{h:Heap}{a:Addr}{o:HO}(x:HOk P w H h)(hn:H a=none)(new:ObjOk P w (upd H a o) h a o):HOk P w (upd H a o) h:=by
 intro b u e
 by_cases hb:b=a
 ·subst hb
  rw [aM] at e
  cases e
  exact new
 ·rw [ao hb] at e
  refine (x b u e).stay (fun c v _ q=>q) (fun c q=>?_) (fun c xs q=>?_)
  ·rw [ao (aJ q hn)]; exact q
  ·rw [ao (aJ q hn)]; exact q
section
variable {prog:Program}{w:World}{A:Around}{R:Result->Shared->Prop}{s:Shared}
theorem iU {elt tg iter:Expr}{scope:Scope}{pos:Pos}{it acc:Value}{env:Env}(J:Nat->Shared->Prop)
  (turn:∀ n s,J n s->wpAny (model prog w) A (pyNext it) (fun r s₁=>match r with
   | none=>R (.ok .next) s₁
   | some v=>wpAny (model prog w) A (letOwnedTupleGo tg it v) (fun _ s₂=>wpAny (model prog w) A (assign tg env v) (fun _ s₃ =>
     wpAny (model prog w) A (eval elt env) (fun y s₄=>wpAny (model prog w) A (call (.builtin "list.append") [acc,y]) (fun _ s₅=>∃ m,m < n/\J m s₅) noX s₄) noX s₃) noX s₂) noX s₁) noX s)
  (n:Nat) (h:J n s):codeAny (model prog w) A (.compLoop (.ListComp elt [⟨tg,iter,[],0⟩] scope pos) 0 it acc env) R s:=by
 refine codeAny_loop rfl J (fun n s hJ=>?_) n h
 show wpAny _ A ((compTurn (.ListComp elt [⟨tg,iter,[],0⟩] scope pos) 0 it acc env).onRaise (fun x=>do noteFrame x env; theTreesLotGoes x)) _ _ s
 refine wpAny_noted ?_
 rw [compTurn_list]
 refine wpAny_bind (wpAny_standAt (wpAny_bind (wpAny_mono (turn n s hJ) (fun r s₁ h₁=>?_) fun _ _ z=>z.elim)))
 cases r with
 | none=>exact wpAny_pure h₁
 | some v =>
  refine wpAny_bind (wpAny_mono h₁ (fun _ s₂ h₂=>?_) fun _ _ z=>z.elim)
  refine wpAny_bind (wpAny_mono h₂ (fun _ s₃ h₃=>?_) fun _ _ z=>z.elim)
  refine wpAny_bind (wpAny_tests_nil ?_)
  exact wpAny_bind (wpAny_bind (wpAny_mono h₃ (fun y s₄ h₄=>wpAny_bind (wpAny_mono h₄ (fun _ s₅ h₅=>wpAny_pure (wpAny_pure ⟨rfl,h₅⟩)) fun _ _ z=>z.elim)) fun _ _ z=>z.elim))
end
noncomputable def av (X:Cx)(N:List Str)(scope:Scope)(cl:List (Str×Addr))(C:Addr)(s:Shared)(H:Hp)(fp:List Addr):Cx where
 prog:=X.prog
 w:=X.w
 K:=X.K
 mg:=X.mg
 base:=X.base
 A:=X.A
 N:=N
 s₀:=s
 H₀:=H
 env:=compEnvC scope cl C X.env
 outer:=X.stack
 stack:=X.stack
 ex:=fp
 fn:=fun _=>false
 calm:=X.calm
 pn:=X.pn
 xe:=noX
structure jS (x:Str)(ys:List Str)(scope:Scope):Prop where
 kind:scope.kind=.function
 cell:∀ y∈scope.names,y.2≠.cell
 nm:∀ y∈scope.names,y.2=.local->scope.names.lookup y.1=some .local
 loc:scope.names.lookup x=some .local
 nd:(x::ys).Nodup
inductive Clo (X:Cx):List (Str×Addr)->Prop
 | nil:Clo X []
 | cons {y:Str} {c:Addr} {cl:List (Str×Addr)}:X.env.cells.lookup y=some c->Clo X cl->Clo X ((y,c)::cl)
theorem Clo.get {X:Cx}{cl:List (Str×Addr)}(h:Clo X cl):∀ {y:Str} {c:Addr},cl.lookup y=some c->X.env.cells.lookup y=some c:=by
 induction h with
 | nil=>intro y c e; cases e
 | @cons z d cl' hz _ ih =>
  intro y c e
  cases q:y==z with
  | true =>
   simp only [a1g,q] at e
   cases e
   rw [eq_of_beq q]; exact hz
  | false =>
   simp only [a1g,q] at e
   exact ih e
inductive Frees (X:Cx)(scope:Scope)(cl:List (Str×Addr)):List Str->List Nat->Prop
 | nil:Frees X scope cl [] []
 | cons {y:Str} {ys:List Str} {i:Nat} {is:List Nat} {c:Addr}:X.N[i]?=some y->Vis X.env.scope y->(X.env.kindOf y=some .cell\/X.env.kindOf y=some .free)->X.env.cells.lookup y=some c->cl.lookup y=some c ->
   ((relabel scope X.env).names.lookup y=some .cell\/(relabel scope X.env).names.lookup y=some .free)->Frees X scope cl ys is->Frees X scope cl (y::ys) (i::is)
theorem Frees.len {X:Cx}{scope:Scope}{cl:List (Str×Addr)}{ys:List Str}{is:List Nat}(F:Frees X scope cl ys is):is.length=ys.length:=by
 induction F with
 | nil=>rfl
 | cons _ _ _ _ _ _ _ ih=>rw [a0t,a0t,ih]
noncomputable def bA (σ:L2.St)(is:List Nat):L2.St:=is.map fun i=>(σ[i]?).join
theorem Frees.get {X:Cx}{scope:Scope}{cl:List (Str×Addr)}{ys:List Str}{is:List Nat}{σ:L2.St}(F:Frees X scope cl ys is):∀ {j:Nat} {y:Str} {v:V},ys[j]?=some y->(bA σ is)[j]?=some (some v) ->
  ∃ (i:Nat) (c:Addr),X.N[i]?=some y/\σ[i]?=some (some v)/\Vis X.env.scope y/\(X.env.kindOf y=some .cell\/X.env.kindOf y=some .free)/\X.env.cells.lookup y=some c/\cl.lookup y=some c /\
   ((relabel scope X.env).names.lookup y=some .cell\/(relabel scope X.env).names.lookup y=some .free):=by
 induction F with
 | nil=>intro j y v e; simp at e
 | @cons z zs i is c h1 h2 h3 h4 h5 h6 _ ih =>
  intro j y v e1 e2
  unfold bA at e2
  rw [a0C] at e2
  cases j with
  | zero =>
   rw [a1l] at e1 e2
   cases e1
   cases q:σ[i]? with
   | none=>rw [q] at e2; cases e2
   | some o =>
    rw [q] at e2
    have e3:o=some v:=a0w e2
    subst e3
    exact ⟨i,c,h1,q,h2,h3,h4,h5,h6⟩
  | succ j =>
   rw [a0A] at e1 e2
   exact ih e1 e2
theorem gB {X:Cx}{pins:List (Addr×Obj)}{σ:L2.St}{H:Hp}{s:Shared}{x:Str}{ys:List Str}{is:List Nat}{scope:Scope}{cl:List (Str×Addr)}{fp:List Addr}{C:Addr}{h1:Heap}{t1:Nat}{m1:Str->Option Value}
  (I:Inv X pins σ H s) (hf:∀ b∈fp,dX X pins H b) (hfo:∀ b∈fp,b < s.heap.objs.size) (S:jS x ys scope) (hcl:Clo X cl)
  (hfr:(scope.names.all fun p=>p.2 != .free || (cl.lookup p.1).isSome)=true) (fr:Frees X scope cl ys is)
  (hC:s.heap.objs.size<=C) (old:∀ b o,s.heap.get? b=some o->h1.get? b=some o) (hn:h1.Ns C m1) :
  Inv (av X (x::ys) scope cl C s H fp) pins (none::bA σ is) H { s with heap:=h1,toks:=t1 }:=by
 have stk:∀ b,b≠X.env.locals->b ∉ X.fs->b ∉ frs X.stack:=fun b q1 q2 hb=>(a0H.mp (I.stkSub b hb)).elim q1 q2
 have key:∀ a k,(relabel scope X.env).names.lookup a=some k->(k=.cell\/k=.free)->∃ c,cl.lookup a=some c:=fun a k e hk=>by
  have hm:=a0R e
  obtain ⟨⟨n,k0⟩,hp,ep⟩:=a1j.mp hm
  have hk0:k0=.free/\n=a:=by
   dsimp only at ep
   split at ep
   ·rename_i hc
    simp only [a0i] at hc
    exact ⟨eq_of_beq hc.1.1,(a2e ep).1⟩
   ·obtain ⟨e1,e2⟩:=a2e ep
    subst e2
    rcases hk with z | z
    ·exact absurd z (S.cell _ hp)
    ·exact ⟨z,e1⟩
  obtain ⟨z1,z2⟩:=hk0
  subst z1 z2
  have q:=a0Y.mp hfr _ hp
  have q2:(cl.lookup n).isSome=true:=by simpa using q
  exact a1h.mp q2
 refine ⟨⟨I.ok.mod,S.kind,I.ok.glob,I.ok.blt,hC,fun a b c e1 e2=>I.ok.inj a b c (hcl.get e1) (hcl.get e2),fun a ha=>?_,fun a c e=>absurd e a0h,I.ok.hd,I.ok.frames,.inl rfl,
   fun b hb=>⟨a0B (a0l (hfo b hb) hC),fun a c e=>(hf b hb).2.2.2.2.1 a c (hcl.get e)⟩,I.bs,a0m I.ok.bsz I.sz,fun b o e hb=>?_,fun b hb=>stk b (hf b hb).2.1 (hf b hb).2.2.1,I.stack,I.stkFree⟩,
  rfl,I.bare,Un.kept old,⟨m1,hn,fun j y v e1 e2 e3=>?_⟩,fun a c e=>?_,I.hok.fresh hC,fun a c e=>I.freeC a c (hcl.get e),fun p hp=>?_,I.hok.kept old,?_⟩
 ·rcases ha with e | e
  ·exact key a _ e (.inl rfl)
  ·exact key a _ e (.inr rfl)
 ·rcases (hf b hb).2.2.2.1 with z | z
  ·exact I.ok.noex b o e z
  ·exact absurd (a0l (Heap.lt_size (I.ok.bs b o e).1) z) (a00 _)
 ·cases j with
  | zero =>
   have z:(none:Option V)=some v:=a0w e2
   cases z
  | succ j =>
   obtain ⟨i,c,g1,g2,g3,g4,g5,g6,g7⟩:=fr.get (σ:=σ) (show ys[j]?=some y from e1) (show (bA σ is)[j]?=some (some v) from e2)
   obtain ⟨m0,hn0,hl0⟩:=I.loc
   obtain ⟨u,r,l⟩:=hl0 i y v g1 g2 g3
   rcases l with ⟨k,_⟩ | ⟨_,c',e',z⟩
   ·rcases g4 with q | q
    ·rw [k] at q; cases q
    ·rw [k] at q; cases q
   ·rw [g5] at e'
    cases e'
    obtain ⟨o,ho,hd⟩:=z
    exact ⟨u,r,.inr ⟨g7,c,g6,⟨o,old _ _ ho,hd⟩⟩⟩
 ·obtain ⟨v,o,ho,hd⟩:=I.cell a c (hcl.get e)
  exact ⟨v,o,old _ _ ho,hd⟩
 ·obtain ⟨e,n,ne,nf,d⟩:=I.pin p hp
  exact ⟨old _ _ e,n,a0B (a0l (Heap.lt_size e) hC),stk _ ne nf,d⟩
 ·show (none::bA σ is).length=(x::ys).length
  unfold bA
  rw [a0t,a0t,a0d,fr.len]
noncomputable abbrev gf (its:List Value):Obj:={ cls:=.type "list",data:=.seq its.toArray its.length }
theorem jW {X:Cx}(hc:X.calm=true):cn X (.builtin "all") (fun xs H Q=>∃ (a:Addr) (bs:List Bool),xs=[.ref a]/\SqL X.K H a (bs.map V.bl)/\Q (.bl (bs.all id)) H):=by
 intro pins s σ H xs us Q I r h
 obtain ⟨a,bs,rfl,hS,q⟩:=h
 obtain ⟨u,rfl,ru⟩:=dB r
 cases ru
 obtain ⟨its,rv,p,hz⟩:=I.list hS
 have hlen:its.toArray.size=bs.length:=by rw [a0f,<- rv.length,a0d]
 have hlt:a < s.heap.objs.size:=by obtain ⟨o,e,_⟩:=p.isList; exact Heap.lt_size e
 refine call_all_walk (wpAny_pyIter_list p.isList ?_)
 refine ⟨s.heap.objs.size,_,_,_,_,_,fun i=>bs.getD i true,rfl,Walks.list (A:=X.A.in1) (show X.A.in1.handled=none from I.ok.hd hc) s.heap.objs.size a (a0B hlt) its.toArray,⟨⟨_,Heap.get?_push_size _ rfl,rfl,rfl⟩,p.isList.push _⟩,fun i v s' Q' E' hv hQ=>?_,fun h' tk k=>?_⟩
 ·have hv':its[i]?=some v:=by simpa using hv
  have hi:i < its.length:=(a0v.mp hv').1
  have hib:i < bs.length:=by have:=rv.length; rw [a0d] at this; omega
  obtain ⟨w',e1,e2⟩:=rv.get (i:=i) (x:=.bl bs[i]) (by rw [a0x,a0q hib]; rfl)
  rw [hv'] at e1
  cases e1
  cases e2
  refine wpAny_truthy_bool ?_
  have e3:bs.getD i true=bs[i]:=by rw [a0y,a0q hib]; rfl
  rw [<- e3]; exact hQ
 ·have e:(a0T its.toArray.size).all (fun i=>bs.getD i true)=bs.all id:=by
   rw [hlen,a2E,a0Y,a0Y]
   constructor
   ·intro z b hb
    obtain ⟨i,hi,e⟩:=a2f hb
    have:=z i (a05.mpr hi)
    rw [a0y,a0q hi] at this
    simpa [e] using this
   ·intro z i hi
    have hi':=a05.mp hi
    rw [a0y,a0q hi']
    exact z _ (a1U hi')
  rw [e]
  exact ⟨.bl (bs.all id),H,I.kept (fun b o eo=>k b o (fun hm=>by
   have:b=s.heap.objs.size:=by simpa using hm
   exact absurd (this ▸ Heap.lt_size eo) (a00 _)) (Heap.get?_push_of_some _ eo)),rfl,q⟩
inductive Th where
 | non | bl (b:Bool) | int (i:Int) | str (x:Str) | tup (ts:List Th) | lst (ts:List Th)
mutual
noncomputable def Has (K:a0a)(H:Hp):Th->V->Prop
 | .non,v=>v=.non
 | .bl b,v=>v=.bl b
 | .int i,v=>v=.int i
 | .str x,v=>v=.str x
 | .tup ts,v=>∃ a vs,v=.ref a/\SqT K H a vs/\HasL K H ts vs
 | .lst ts,v=>∃ a vs,v=.ref a/\H a=some (.lst vs)/\HasL K H ts vs
noncomputable def HasL (K:a0a)(H:Hp):List Th->List V->Prop
 | [],vs=>vs=[]
 | t::ts,vs=>∃ v r,vs=v::r/\Has K H t v/\HasL K H ts r
end
noncomputable def Th.ty:Th->String
 | .non=>"NoneType" | .bl _=>"bool" | .int _=>"int" | .str _=>"str" | .tup _=>"tuple" | .lst _=>"list"
noncomputable def isI (c:String)(t:Th):Bool:=t.ty==c || (t.ty=="bool"&&c=="int")
theorem kit_type {K:a0a}{A B:String}:a06 K (.type A) (.type B)=a06 [] (.type A) (.type B):=by
 unfold a06 PySem.W.kitCls PySem.W.subIn
 rfl
theorem vy:∀ c∈["tuple","str","bool","int","list"],∀ n∈["NoneType","bool","int","str","tuple","list"],a06 [] (.type n) (.type c)=some (n==c || (n=="bool"&&c=="int")):=by decide +kernel
theorem tS (t:Th):t.ty∈["NoneType","bool","int","str","tuple","list"]:=by cases t<;>simp [Th.ty]
theorem wC {c:String}(hc:c∈["tuple","str","bool","int","list"])(t:Th):a06 [] (.type t.ty) (.type c)=some (isI c t):=vy c hc t.ty (tS t)
structure DTab (K:a0a)(w:World)(a:Addr)(T:List (Str×V)):Prop where
 ex:∃ es n,K.lookup a=some ⟨.type "dict",none,.dict es n,#[]⟩/\a2F w.params es.toList/\Paired (fun (p:Str×V) (e:DictEntry)=>(∃ t,e.key=.str p.1 t)/\RelV p.2 e.val) T es.toList
 lo:(a==sysModules)=false
theorem g8 {x:Str}:∀ {T:List (Str×V)} {l:List DictEntry},Paired (fun (p:Str×V) (e:DictEntry)=>(∃ t,e.key=.str p.1 t)/\RelV p.2 e.val) T l->RelO (T.lookup x) ((l.find? fun d=>Value.isStrOf x d.key).map (·.val))
 | _,_,.nil=>trivial
 | (k,v)::T,e::l,.cons ⟨⟨t,h1⟩,h2⟩ r=>by
  have ih:=g8 (x:=x) r
  have q:Value.isStrOf x e.key=(x==k):=by
   have h1':e.key=.str k t:=h1
   rw [h1']
   show (k==x)=(x==k)
   by_cases z:x=k
   ·subst z; rfl
   ·rw [beq_false_of_ne z,beq_false_of_ne (a1N z)]
  rw [List.find?_cons,q,a1g]
  cases x==k with
  | true=>exact h2
  | false=>exact ih
theorem DTab.map {K:a0a}{w:World}{a:Addr}{T:List (Str×V)}{P:Program}{h:Heap}(D:DTab K w a T)(X:K.In h):∃ f:Str->Option Value,h.MapOf (strKind P w) a f/\∀ x,RelO (T.lookup x) (f x):=by
 obtain ⟨es,n,h1,h2,h3⟩:=D.ex
 refine ⟨_,PySem.W.mapOf_K (prog:=P) X h1 h2,fun x=>?_⟩
 have q:=g8 (x:=x) h3
 have e:findBy Value.isStrOf es x=(es.toList.find? fun d=>Value.isStrOf x d.key).map (·.val):=by
  unfold findBy
  rw [<- a2i]
 rw [e]; exact q
theorem RelO.some_is {v:V}{o:Option Value}(r:RelO (some v) o):∃ u,o=some u/\RelV v u:=by
 cases o with
 | none=>exact r.elim
 | some u=>exact ⟨u,rfl,r⟩
theorem RelO.same_some {o:Option V}{u:Option Value}(r:RelO o u):u.isSome=o.isSome:=by
 cases o with
 | none =>
  cases u with
  | none=>rfl
  | some u=>exact r.elim
 | some v =>
  obtain ⟨u,rfl,_⟩:=RelO.some_is r
  rfl
section
variable {X:Cx}
theorem lh:OpR X (compareOp .In) (fun x y H Q=>∃ z a T,x=.str z/\y=.ref a/\DTab X.K X.w a T/\Q (.bl (T.lookup z).isSome) H):=by
 intro pins s σ H x y v u Q I rx ry h
 obtain ⟨z,a,T,rfl,rfl,D,q⟩:=h
 obtain ⟨t,rfl⟩:=rx
 cases ry
 obtain ⟨f,hm,hf⟩:=D.map (P:=X.prog) I.kIn
 refine wpAny_in_of (strKind_is X.prog X.w z t) D.lo hm ?_
 rw [RelO.same_some (hf z)]
 exact ⟨.bl (T.lookup z).isSome,H,I.tok _,rfl,q⟩
end
theorem gI {H:Hp}{p:Addr}(h:H p=none)(o:HO):Same H (upd H p o):=fun b u q=>by rw [ao (aJ q h)]; exact q
noncomputable def rE (K:a0a):R2:=fun x y H Q=>∃ a b xs ys,x=.ref a/\y=.ref b/\SqT K H a xs/\SqT K H b ys/\xs≠[]/\xs.length+ys.length<=sizeLine/\∀ v H',Same H H'->(∃ c,v=.ref c/\SqT K H' c (xs++ys))->Q v H'
theorem pj {X:Cx}:OpR X (binaryOp .Add) (rE X.K):=fun pins s σ H x y v u Q I rx ry h=>by
 obtain ⟨a,b,xs,ys,e1,e2,h1,h2,hx,hz,q⟩:=h
 exact qy pins s σ H x y v u Q I rx ry ⟨a,b,xs,ys,e1,e2,h1,h2,hx,hz,fun z=>q _ _ (Same.refl _) ⟨a,rfl,by rw [z,a0N]; exact h1⟩,fun _ p hp=>q _ _ (gI hp _) ⟨p,rfl,SqT.of aM⟩⟩
theorem xh {X:Cx}{x:Str}{T:String}{pos:Pos}(hg:Gl X x)(hm:X.mg x=none)(hv:bootBuiltins x=some (.type T))(hn:x≠"__name__":=by decide)(hd:(x==("__debug__":Str))=false:=by decide):PE X (.Name x pos) (tC (.ty T)):=pZ (v:=.ty T) hg hm hv rfl hn hd
theorem tU {X:Cx}{x:Str}{a:Addr}{pos:Pos}(hg:Gl X x)(hm:X.mg x=some (.ref a))(hd:(x==("__debug__":Str))=false:=by decide):PE X (.Name x pos) (tC (.ref a)):=jt (v:=.ref a) hg hm rfl hd
mutual
noncomputable def toD:Th->PyData
 | .non=>.none
 | .bl b=>.bool b
 | .int i=>.int i
 | .str x=>.str x
 | .tup ts=>.tuple (dG ts)
 | .lst ts=>.list (dG ts)
noncomputable def dG:List Th->List PyData
 | []=>[]
 | t::ts=>toD t::dG ts
end
section
variable {X:Cx}{pins:List (Addr×Obj)}{σ:L2.St}{H:Hp}{s:Shared}
mutual
theorem Has.reads (I:Inv X pins σ H s):∀ {t:Th} {v:V} {u:Value},Has X.K H t v->RelV v u->∃ as,Reads s.heap u (toD t) as
 | .non,_,u,h,r=>by
  obtain rfl:_=V.non:=h
  obtain rfl:u=Value.none:=r
  exact ⟨_,.none⟩
 | .bl b,_,u,h,r=>by
  obtain rfl:_=V.bl b:=h
  obtain rfl:u=Value.bool b:=r
  exact ⟨_,.bool b⟩
 | .int i,_,u,h,r=>by
  obtain rfl:_=V.int i:=h
  obtain ⟨t,rfl⟩:∃ t,u=Value.int i t:=r
  exact ⟨_,.int i t⟩
 | .str x,_,u,h,r=>by
  obtain rfl:_=V.str x:=h
  obtain ⟨t,rfl⟩:∃ t,u=Value.str x t:=r
  exact ⟨_,.str x t⟩
 | .tup ts,_,u,⟨a,vs,e,hS,hL⟩,r=>by
  subst e
  obtain rfl:u=Value.ref a:=r
  obtain ⟨its,rv,⟨o,h1,h2,n,h3⟩,_⟩:=I.tuple hS
  obtain ⟨as,ra⟩:=HasL.reads I hL rv
  exact ⟨_,.tuple h1 h2 h3 (by simpa using ra)⟩
 | .lst ts,_,u,⟨a,vs,e,hS,hL⟩,r=>by
  subst e
  obtain rfl:u=Value.ref a:=r
  obtain ⟨its,rv,⟨o,n,h1,h2,_,h3⟩,_⟩:=I.list (SqL.of hS)
  obtain ⟨as,ra⟩:=HasL.reads I hL rv
  exact ⟨_,.list h1 h2 h3 (by simpa using ra)⟩
theorem HasL.reads (I:Inv X pins σ H s):∀ {ts:List Th} {vs:List V} {us:List Value},HasL X.K H ts vs->Vals vs us->∃ as,ReadsAll s.heap us (dG ts) as
 | [],vs,us,h,r=>by
  obtain rfl:vs=[]:=h
  cases r
  exact ⟨_,.nil⟩
 | t::ts,vs,us,⟨v,w',e,h1,h2⟩,r=>by
  subst e
  cases r with
  | cons r1 r2 =>
   obtain ⟨as,ra⟩:=Has.reads I h1 r1
   obtain ⟨bs,rb⟩:=HasL.reads I h2 r2
   exact ⟨_,.cons ra rb⟩
end
end
noncomputable abbrev fU (t:Th):Prop:=SeqAt.shaped (toD t)=true
theorem jB {X:Cx}(hu:X.A.units+64 < cLine):OpR X (compareOp .Eq) (fun x y H Q=>∃ t t',Has X.K H t x/\Has X.K H t' y/\fU t/\fU t'/\Q (.bl (PyData.eqv (toD t) (toD t'))) H):=by
 intro pins s σ H x y v u Q I rx ry h
 obtain ⟨t,t',h1,h2,o1,o2,q⟩:=h
 obtain ⟨as,ra⟩:=Has.reads I h1 rx
 obtain ⟨bs,rb⟩:=Has.reads I h2 ry
 exact a2V ra rb o1 o2 hu ⟨.bl _,H,I,rfl,q⟩
theorem oB {X:Cx}(hu:X.A.units+64 < cLine):OpR X (compareOp .NotEq) (fun x y H Q=>∃ t t',Has X.K H t x/\Has X.K H t' y/\fU t/\fU t'/\Q (.bl (!PyData.eqv (toD t) (toD t'))) H):=by
 intro pins s σ H x y v u Q I rx ry h
 obtain ⟨t,t',h1,h2,o1,o2,q⟩:=h
 obtain ⟨as,ra⟩:=Has.reads I h1 rx
 obtain ⟨bs,rb⟩:=Has.reads I h2 ry
 exact a2W ra rb o1 o2 hu ⟨.bl _,H,I,rfl,q⟩
section
variable {prog:Program}{w:World}{A:Around}{E:Value->Shared->Prop}{s:Shared}
theorem cW {t sl:Addr}{items:Array Value}{vl vu:Value}{lo hi:Option Int}{Q:Value->Shared->Prop}(ht:IsTup s.heap t items)(hs:s.heap.IsSliceOf sl vl vu .none)(pl:IsPart vl lo)(pu:IsPart vu hi)
  (hw:HT.sIx items.size 0 lo=0/\HT.sIx items.size items.size hi=items.size) (h:Q (.ref t) s):wpAny (model prog w) A (getItem (.ref t) (.ref sl)) Q E s:=by
 obtain ⟨os,hos,hcs,hds⟩:=id hs
 have hTs:s.TypeIs (.ref sl) "slice":=⟨os,hos,hcs⟩
 unfold getItem
 try with_reducible refine wpAny_holding ?_
 first | refine wpAny_bind (wpAny_pure ?_) | skip
 refine wpAny_bind (wpAny_sequenceKey ht.typeIs (by decide) ?_)
 refine wpAny_bind (wpAny_callSpecial?_slot (name:=Str.ofString "__getitem__") ht.typeIs a0E
  (wpAny_call_entry a0E ht.typeIs entry_tuple_getitem ?_ (args_tuple_getitem _ _)))
 show wpAny _ _ (Builtin.Tuple.tupleItemsOf (.ref t) >>= _) _ _ s
 refine wpAny_bind (tupleItemsOf_ ht ?_)
 refine wpAny_bind (wpAny_typeOf hTs ?_)
 rw [if_pos (by decide)]
 refine wpAny_bind (HT.sliceApplied_gen hs pl pu ?_)
 have hyes:(((HT.sIx items.size 0 lo:Nat):Int)==0&&(1:Int)==1&&(HT.sIx items.size items.size hi-HT.sIx items.size 0 lo)==items.size)=true:=by
  rw [hw.1,hw.2]
  simp
 show wpAny _ _ (if (((HT.sIx items.size 0 lo:Nat):Int)==0&&(1:Int)==1&&(HT.sIx items.size items.size hi-HT.sIx items.size 0 lo)==items.size)=true then _ else _) _ _ s
 rw [if_pos hyes]
 unfold Builtin.Tuple.tupleIsExact
 refine wpAny_bind (wpAny_bind (wpAny_typeOf ht.typeIs (wpAny_pure ?_)))
 rw [if_pos (by decide)]
 first
  | exact wpAny_bind (wpAny_rule (wpAny_pure ⟨_,rfl,wpAny_pure h⟩))
  | exact wpAny_bind (wpAny_rule (wpAny_bind (wpAny_pure (wpAny_pure ⟨_,rfl,wpAny_pure h⟩))))
end
section
variable {X:Cx}
noncomputable def pW (K:a0a):V->Option Int->Option Int->Hp->VK->Prop:=fun x lo hi H Q=>∃ a xs,x=.ref a/\SqT K H a xs/\∀ v H',Same H H'->(∃ c,v=.ref c/\SqT K H' c (cZ xs lo hi))->Q v H'
theorem i8:SlR X (pW X.K):=by
 intro pins s σ H x v vl vu lo hi sl Q I rx hs pl pu h
 obtain ⟨a,xs,rfl,hx,q⟩:=h
 by_cases hw:HT.sIx xs.length 0 lo=0/\HT.sIx xs.length xs.length hi=xs.length
 ·cases rx
  obtain ⟨its,r,ht,hz⟩:=I.tuple hx
  have hlen:its.toArray.size=xs.length:=by rw [a0f]; exact r.length.symm
  refine ⟨"tuple",_,a0E.lookup,ht.typeIs,?_⟩
  refine cW ht hs pl pu (by rw [hlen]; exact hw) ⟨.ref a,H,I,rfl,q _ _ (Same.refl H) ⟨a,rfl,?_⟩⟩
  have e:cZ xs lo hi=xs:=by
   unfold cZ
   rw [hw.1,hw.2]
   simp
  rw [e]
  exact hx
 ·exact tj pins s σ H _ v vl vu lo hi sl Q I rx hs pl pu ⟨a,xs,rfl,hx,hw,fun p hp=>q _ _ (gI hp _) ⟨p,rfl,SqT.of aM⟩⟩
end
noncomputable def Af (K:a0a):R2:=fun x y H Q=>∃ p xs i v,x=.ref p/\y=.int i/\(SqL K H p xs\/SqT K H p xs)/\atI xs i=some v/\Q v H
theorem ix_any {X:Cx}:IxR X (Af X.K):=fun value slice pins s σ H x y v u Q I rx ry h hs=>by
 obtain ⟨p,xs,i,z,e1,e2,hq,ha,q⟩:=h
 rcases hq with hq | hq
 ·exact qm value slice pins s σ H x y v u Q I rx ry ⟨p,xs,i,z,e1,e2,hq,ha,q⟩ hs
 ·exact sW value slice pins s σ H x y v u Q I rx ry ⟨p,xs,i,z,e1,e2,hq,ha,q⟩ hs
end L3

namespace L3
open PySem PySem.Spec PySem.Builtin PySem.Builtin.Str PyProof.Rows L2
end L3

namespace L3
open PySem PySem.Spec PyProof.Rows L2
noncomputable def ItO (h:Heap):Bool->Addr->Addr->Nat->Prop
 | true,it,a,n=>h.IsTupleIter it a n
 | false,it,a,n=>h.IsListIter it a n
end L3
namespace L3
open PySem PySem.Spec PyProof.Rows L2
section
variable {X:Cx}{pins:List (Addr×Obj)}{σ:L2.St}{H:Hp}{s:Shared}
theorem dS {h':Heap}{ch:List Addr}(I:Inv X pins σ H s)(hf:∀ b∈ch,H b=none)(k:∀ b o,b ∉ ch->s.heap.get? b=some o->h'.get? b=some o):HOk X.prog X.w H h':=fun b u e=>by
 have nit:∀ b u,H b=some u->b ∉ ch:=fun b u e z=>by rw [hf b z] at e; cases e
 refine (I.hok b u e).stay (fun c v hc q=>k c v ?_ q) (fun _ q=>q) fun _ _ q=>q
 rcases hc with z | z
 ·rw [z]; exact nit b u e
 ·exact nit c _ z
theorem iV {h':Heap}{t':Nat}{ch:List Addr}(I:Inv X pins σ H s)(hf:∀ b∈ch,dX X pins H b)(k:∀ b o,b ∉ ch->s.heap.get? b=some o->h'.get? b=some o):Inv X pins σ H { s with heap:=h',toks:=t' }:=by
 refine I.step (g':=s.gens) (d':=s.drawn) (ch:=ch) (fun b hb=>⟨(hf b hb).2.2.2.1,(hf b hb).2.1,(hf b hb).2.2.2.2.1,(hf b hb).2.2.2.2.2⟩) (fun b o _ _ hc e _=>k b o hc e) (fun b o _ _ hc e _=>⟨o.slots,k b o hc e⟩) (fun _ _ _ _ n=>n)
  (fun b o hc e=>⟨o,k b o hc e⟩) (fun _ _ e=>e) (fun _ _ _ e=>e) (fun b ps e=>⟨#[],by rw [e]; simp⟩) (fun m hm=>?_) (dS I (fun b hb=>(hf b hb).1) k) I.bare
 obtain ⟨o,es,ep,ho,r⟩:=hm
 exact ⟨o,es,ep,k _ o (fun z=>(hf _ z).2.1 rfl) ho,r⟩
theorem d7 {h':Heap}{t':Nat}{ch:List Addr}{a:Addr}{ys:List V}{its:List Value}(I:Inv X pins σ H s)(hf:∀ b∈ch,dX X pins H b)(k:∀ b o,b ∉ ch->s.heap.get? b=some o->h'.get? b=some o)
  (ha:s.heap.objs.size<=a) (hz:ys.length<=sizeLine) (hv:Vals ys its) (ht:IsTup h' a its.toArray):Inv X pins σ (upd H a (.tup ys)) { s with heap:=h',toks:=t' }:=by
 have fr:H a=none:=I.hok.fresh ha
 have na:∀ b o,s.heap.get? b=some o->b≠a:=fun b o e=>a0B (a0l (Heap.lt_size e) ha)
 refine I.step (g':=s.gens) (d':=s.drawn) (ch:=ch) (fun b hb=>⟨(hf b hb).2.2.2.1,(hf b hb).2.1,(hf b hb).2.2.2.2.1,(hf b hb).2.2.2.2.2⟩) (fun b o _ _ hc e _=>k b o hc e) (fun b o _ _ hc e _=>⟨o.slots,k b o hc e⟩) (fun b o _ e n=>by rw [ao (na b o e)]; exact n)
  (fun b o hc e=>⟨o,k b o hc e⟩) (fun b u e=>by rw [ao (aJ e fr)]; exact e) (fun b o u e=>by rw [ao (aJ e fr)]; exact e) (fun b ps e=>⟨#[],by rw [ao (aJ e fr),e]; simp⟩) (fun m hm=>?_)
  (fC (dS I (fun b hb=>(hf b hb).1) k) fr ⟨hz,its,hv,ht⟩) I.bare
 obtain ⟨o,es,ep,ho,r⟩:=hm
 exact ⟨o,es,ep,k _ o (fun z=>(hf _ z).2.1 rfl) ho,r⟩
end
structure aH (pre ys:List Str)(scope:Scope):Prop where
 kind:scope.kind=.function
 cell:∀ y∈scope.names,y.2≠.cell
 nm:∀ y∈scope.names,y.2=.local->scope.names.lookup y.1=some .local
 loc:∀ x∈pre,scope.names.lookup x=some .local
 nd:(pre++ys).Nodup
theorem mM {pre:List Str}{τ:L2.St}{j:Nat}{v:V}(e:(a0e pre.length none++τ)[j]?=some (some v)):∃ i,j=pre.length+i/\τ[i]?=some (some v):=by
 by_cases hj:j < pre.length
 ·rw [a0S (by rw [a0F]; exact hj),a1k,if_pos hj] at e
  cases a0w e
 ·refine ⟨j-pre.length,by omega,?_⟩
  rw [a0Q (by rw [a0F]; omega),a0F] at e
  exact e
theorem kq {X:Cx}{pins:List (Addr×Obj)}{σ:L2.St}{H:Hp}{s:Shared}{pre ys:List Str}{is:List Nat}{scope:Scope}{cl:List (Str×Addr)}{fp:List Addr}{C:Addr}{h1:Heap}{t1:Nat}{m1:Str->Option Value}
  (I:Inv X pins σ H s) (hf:∀ b∈fp,dX X pins H b) (hfo:∀ b∈fp,b < s.heap.objs.size) (S:aH pre ys scope) (hcl:Clo X cl)
  (hfr:(scope.names.all fun p=>p.2 != .free || (cl.lookup p.1).isSome)=true) (fr:Frees X scope cl ys is)
  (hC:s.heap.objs.size<=C) (old:∀ b o,s.heap.get? b=some o->h1.get? b=some o) (hn:h1.Ns C m1) :
  Inv (av X (pre++ys) scope cl C s H fp) pins (a0e pre.length none++bA σ is) H { s with heap:=h1,toks:=t1 }:=by
 have stk:∀ b,b≠X.env.locals->b ∉ X.fs->b ∉ frs X.stack:=fun b q1 q2 hb=>(a0H.mp (I.stkSub b hb)).elim q1 q2
 have key:∀ a k,(relabel scope X.env).names.lookup a=some k->(k=.cell\/k=.free)->∃ c,cl.lookup a=some c:=fun a k e hk=>by
  have hm:=a0R e
  obtain ⟨⟨n,k0⟩,hp,ep⟩:=a1j.mp hm
  have hk0:k0=.free/\n=a:=by
   dsimp only at ep
   split at ep
   ·rename_i hc
    simp only [a0i] at hc
    exact ⟨eq_of_beq hc.1.1,(a2e ep).1⟩
   ·obtain ⟨e1,e2⟩:=a2e ep
    subst e2
    rcases hk with z | z
    ·exact absurd z (S.cell _ hp)
    ·exact ⟨z,e1⟩
  obtain ⟨z1,z2⟩:=hk0
  subst z1 z2
  have q:=a0Y.mp hfr _ hp
  have q2:(cl.lookup n).isSome=true:=by simpa using q
  exact a1h.mp q2
 refine ⟨⟨I.ok.mod,S.kind,I.ok.glob,I.ok.blt,hC,fun a b c e1 e2=>I.ok.inj a b c (hcl.get e1) (hcl.get e2),fun a ha=>?_,fun a c e=>absurd e a0h,I.ok.hd,I.ok.frames,.inl rfl,
   fun b hb=>⟨a0B (a0l (hfo b hb) hC),fun a c e=>(hf b hb).2.2.2.2.1 a c (hcl.get e)⟩,I.bs,a0m I.ok.bsz I.sz,fun b o e hb=>?_,fun b hb=>stk b (hf b hb).2.1 (hf b hb).2.2.1,I.stack,I.stkFree⟩,
  rfl,I.bare,Un.kept old,⟨m1,hn,fun j y v e1 e2 e3=>?_⟩,fun a c e=>?_,I.hok.fresh hC,fun a c e=>I.freeC a c (hcl.get e),fun p hp=>?_,I.hok.kept old,?_⟩
 ·rcases ha with e | e
  ·exact key a _ e (.inl rfl)
  ·exact key a _ e (.inr rfl)
 ·rcases (hf b hb).2.2.2.1 with z | z
  ·exact I.ok.noex b o e z
  ·exact absurd (a0l (Heap.lt_size (I.ok.bs b o e).1) z) (a00 _)
 ·obtain ⟨k,rfl,e2'⟩:=mM e2
  have e1':ys[k]?=some y:=by
   have e1'':(pre++ys)[pre.length+k]?=some y:=e1
   rw [a0Q (by omega),Nat.add_sub_cancel_left] at e1''
   exact e1''
  obtain ⟨i,c,g1,g2,g3,g4,g5,g6,g7⟩:=fr.get (σ:=σ) e1' e2'
  obtain ⟨m0,hn0,hl0⟩:=I.loc
  obtain ⟨u,r,l⟩:=hl0 i y v g1 g2 g3
  rcases l with ⟨k,_⟩ | ⟨_,c',e',z⟩
  ·rcases g4 with q | q
   ·rw [k] at q; cases q
   ·rw [k] at q; cases q
  ·rw [g5] at e'
   cases e'
   obtain ⟨o,ho,hd⟩:=z
   exact ⟨u,r,.inr ⟨g7,c,g6,⟨o,old _ _ ho,hd⟩⟩⟩
 ·obtain ⟨v,o,ho,hd⟩:=I.cell a c (hcl.get e)
  exact ⟨v,o,old _ _ ho,hd⟩
 ·obtain ⟨e,n,ne,nf,d⟩:=I.pin p hp
  exact ⟨old _ _ e,n,a0B (a0l (Heap.lt_size e) hC),stk _ ne nf,d⟩
 ·show (a0e pre.length none++bA σ is).length=(pre++ys).length
  unfold bA
  rw [a0c,a0c,a0F,a0d,fr.len]
end L3
namespace L3
open PySem PySem.Spec PyProof.Rows L2
end L3
namespace L3
open PySem PySem.Spec PyProof.Rows L2
end L3
namespace L3
open PySem PySem.Spec PyProof.Rows L2
end L3
namespace L3
open PySem PySem.Spec PyProof.Rows L2
noncomputable def Ite (K:a0a)(a:Addr):It :=
 ⟨fun i H=>∃ xs x,SqL K H a xs/\xs[i]?=some x,
  fun i H v H'=>∃ p x,v=.ref p/\H p=none/\H'=upd H p (.tup [.int (i:Int),x])/\∀ xs,SqL K H a xs->xs[i]?=some x,
  fun i H=>∃ xs,SqL K H a xs/\xs.length<=i⟩
theorem kr {P:Program}{w:World}{K:a0a}{es:List Expr}{kt:Nat}{pt:Pos}{e it a:Addr}(hne:e≠it):lT P w K (.Tuple es kt pt) (Ite K a) [e,it] e (fun i h=>(∃ old,IsEnum h e it (i:Int) old)/\h.IsListIter it a i) where
 mem:=by simp
 obj:=fun i h st b hb=>by
  obtain ⟨⟨old,q1⟩,q2⟩:=st
  simp only [a0H,a1v,or_false] at hb
  rcases hb with rfl | rfl
  ·exact ⟨_,q1,fun v y=>by cases y⟩
  ·obtain ⟨o,e',_,d⟩:=q2
   exact ⟨o,e',fun v y=>by rw [d] at y; cases y⟩
 keep:=fun i h h' st k=>by
  obtain ⟨⟨old,q1⟩,q2⟩:=st
  exact ⟨⟨old,k e (by simp) _ q1⟩,q2.at fun o z=>k it (by simp) o z⟩
 item:=by
  intro X hP hw hK hc i pins s σ H E I hf st hg
  subst hP hw hK
  obtain ⟨xs,x,s1,hx⟩:=hg
  obtain ⟨⟨old,q1⟩,q2⟩:=st
  obtain ⟨its,v1,o1,z1⟩:=I.list s1
  obtain ⟨u1,e1,r1⟩:=v1.get hx
  have lt:∀ b∈[e,it],b < s.heap.objs.size:=fun b hb=>by
   simp only [a0H,a1v,or_false] at hb
   rcases hb with rfl | rfl
   ·exact Heap.lt_size q1
   ·obtain ⟨o,e',_⟩:=q2; exact Heap.lt_size e'
  refine wpAny_pyNext_enum_item q1 q2 o1.isList (x:=u1) (by simpa using e1) hne fun h' y1 y2 y3 y4 y5=>⟨_,rfl,?_⟩
  refine wpAny_letOwnedTupleGo_enum (s:={ s with heap:=h',toks:=s.toks+1 }) y1 fun h2 w1 sb=>?_
  have sb':Heap.SameBut e h' h2:=sb
  have nz:s.heap.objs.size≠e:=a1B (lt e (by simp))
  have kk:∀ b o,b ∉ [e,it]->s.heap.get? b=some o->h2.get? b=some o:=fun b o hb z=>by
   simp only [a0H,a1v,or_false,not_or] at hb
   exact (sb'.2 b hb.1).trans (y5 b o hb.1 hb.2 z)
  have tp:IsTup h2 s.heap.objs.size [.int (i:Int) s.toks,u1].toArray:=⟨_,(sb'.2 _ nz).trans y3,rfl,_,rfl⟩
  refine ⟨.ref s.heap.objs.size,upd H s.heap.objs.size (.tup [.int (i:Int),x]),d7 (s:=s) (t':=s.toks+1) I hf kk (a0b _) (by show 2<=sizeLine; decide) (.cons ⟨_,rfl⟩ (.cons r1 .nil)) tp,rfl,
   ⟨_,x,rfl,I.fresh,rfl,fun zs hz=>by rw [I.list_inj hz s1]; exact hx⟩,?_,fun b hb=>?_⟩
  ·exact ⟨⟨_,w1⟩,y2.at fun o z=>(sb'.2 _ (a1N hne)).trans z⟩
  ·rw [ao (a0B (lt b hb))]; exact (hf b hb).1
 done:=by
  intro X hP hw hK hc i pins s σ H E I hf st hg
  subst hP hw hK
  obtain ⟨xs,s1,hl⟩:=hg
  obtain ⟨⟨old,q1⟩,q2⟩:=st
  obtain ⟨its,v1,o1,z1⟩:=I.list s1
  have l1:=v1.length
  refine wpAny_pyNext_enum_end (I.ok.hd hc) q1 q2 o1.isList (by simp; omega) fun h' eb=>⟨rfl,iV (t':=s.toks) I hf fun b o hb z=>eb b o (fun y=>hb (by simp [y])) z⟩
 self:=fun _ _ _ _ _ st h=>by
  obtain ⟨⟨old,q1⟩,_⟩:=st
  exact wpAny_pyIter_enum q1 h
section
variable {X:Cx}
noncomputable def rf (K:a0a)(ta:TA):TI:=fun σ H R=>ta σ H fun vs H1=>∃ a,vs=[.ref a]/\(∃ xs,SqL K H1 a xs)/\R (Ite K a) H1
theorem p5 {a:Expr}{ta:TA}{p pos pt:Pos}{es:List Expr}{kt:Nat}(hg:Gl X "enumerate")(hm:X.mg "enumerate"=none)(ha:PA X [a] ta)(hs:starEach [a] X.env=[(false,eval a X.env)]:=by rfl) :
  PI X (.Tuple es kt pt) (.Call (.Name "enumerate" p) [a] [] pos) (rf X.K ta):=by
 intro pins s σ H R I h
 refine Call_ (eJ I hg hm boot_enumerate (a07 (thn (ha pos pins s σ H _ I h) fun us s1 ⟨vs,H1,I1,r1,q1⟩=>?_) hs rfl))
 obtain ⟨a,rfl,⟨xs,s1'⟩,q⟩:=q1
 cases r1 with
 | cons r rr =>
  cases rr
  cases r
  obtain ⟨its,v1,o1,z1⟩:=I1.list s1'
  refine call_enumerate_list o1.isList fun h' q1 q2 _ kk=>?_
  refine wpAny_pyIter_enum (s:={ s1 with heap:=h' }) q1 ?_
  refine ⟨_,_,_,_,H1,rfl,I1.kept (t':=s1.toks) kk,kr (Nat.succ_ne_self _),⟨⟨_,q1⟩,q2⟩,fun b hb=>?_,q⟩
  have hle:s1.heap.objs.size<=b:=by
   simp only [a0H,a1v,or_false] at hb
   rcases hb with e | e<;>(rw [e]; first | exact Nat.le_add_right _ _ | exact a0b _)
  exact I1.fpOk hle (I1.hok.fresh hle)
end
end L3
namespace L3
open PySem PySem.Spec PyProof.Rows L2
section
variable {prog:Program}{w:World}{A:Around}{R:Result->Shared->Prop}{s:Shared}
theorem gG {elt tg iter cnd:Expr}{scope:Scope}{pos:Pos}{it acc:Value}{env:Env}(J:Nat->Shared->Prop)
  (turn:∀ n s,J n s->wpAny (model prog w) A (pyNext it) (fun r s₁=>match r with
   | none=>R (.ok .next) s₁
   | some v=>wpAny (model prog w) A (letOwnedTupleGo tg it v) (fun _ s₂=>wpAny (model prog w) A (assign tg env v) (fun _ s₃=>wpAny (model prog w) A (isTrue cnd env (eval cnd env)) (fun ok s₄=>if ok=true then
     wpAny (model prog w) A (eval elt env) (fun y s₅=>wpAny (model prog w) A (call (.builtin "list.append") [acc,y]) (fun _ s₆=>∃ m,m < n/\J m s₆) noX s₅) noX s₄ else ∃ m,m < n/\J m s₄) noX s₃) noX s₂) noX s₁) noX s)
  (n:Nat) (h:J n s):codeAny (model prog w) A (.compLoop (.ListComp elt [⟨tg,iter,[cnd],0⟩] scope pos) 0 it acc env) R s:=by
 refine codeAny_loop rfl J (fun n s hJ=>?_) n h
 show wpAny _ A ((compTurn (.ListComp elt [⟨tg,iter,[cnd],0⟩] scope pos) 0 it acc env).onRaise (fun x=>do noteFrame x env; theTreesLotGoes x)) _ _ s
 refine wpAny_noted ?_
 rw [compTurn_list]
 refine wpAny_bind (wpAny_standAt (wpAny_bind (wpAny_mono (turn n s hJ) (fun r s₁ h₁=>?_) fun _ _ z=>z.elim)))
 cases r with
 | none=>exact wpAny_pure h₁
 | some v =>
  refine wpAny_bind (wpAny_mono h₁ (fun _ s₂ h₂=>?_) fun _ _ z=>z.elim)
  refine wpAny_bind (wpAny_mono h₂ (fun _ s₃ h₃=>?_) fun _ _ z=>z.elim)
  refine wpAny_bind (wpAny_tests_one (wpAny_mono h₃ (fun ok s₄ h₄=>?_) fun _ _ z=>z.elim))
  cases ok with
  | true=>exact wpAny_bind (wpAny_bind (wpAny_mono h₄ (fun y s₅ h₅=>wpAny_bind (wpAny_mono h₅ (fun _ s₆ h₆=>wpAny_pure (wpAny_pure ⟨rfl,h₆⟩)) fun _ _ z=>z.elim)) fun _ _ z=>z.elim))
  | false=>exact wpAny_bind (wpAny_pure (wpAny_pure ⟨rfl,h₄⟩))
end
end L3

namespace L3
open PySem PySem.Spec PyProof.Rows L2
noncomputable def oa (n:Nat)(J:It)(g:TG)(tc:TT)(te:TE)(σ':L2.St)(H1:Hp)(Q:VK):Prop:=∃ W:Nat->Nat->List V->Hp->Prop,(∃ m,W 0 m [] H1)/\∀ i m ys H,W i m ys H ->
 (J.stop i H/\ys.length<=sizeLine/\∀ p,H p=none->Q (.ref p) (upd H p (.lst ys))) \/
 (J.go i H/\ys.length < sizeLine/\∀ x H',J.yld i H x H'->g x (a0e n none++σ') H' fun σ2 H2=>(σ2.length=n+σ'.length/\σ2.drop n=σ')/\tc σ2 H2 fun ok H3=>if ok=true then te σ2 H3 fun y H4=>∃ m',m' < m/\W (i+1) m' (ys++[y]) H4 else ∃ m',m' < m/\W (i+1) m' ys H3)
noncomputable def oN (n:Nat)(J:It)(g:TG)(te:TE)(σ':L2.St)(H1:Hp)(Q:VK):Prop:=∃ W:Nat->Nat->List V->Hp->Prop,(∃ m,W 0 m [] H1)/\∀ i m ys H,W i m ys H ->
 (J.stop i H/\ys.length<=sizeLine/\∀ p,H p=none->Q (.ref p) (upd H p (.lst ys))) \/
 (J.go i H/\ys.length < sizeLine/\∀ x H',J.yld i H x H'->g x (a0e n none++σ') H' fun σ2 H2=>(σ2.length=n+σ'.length/\σ2.drop n=σ')/\te σ2 H2 fun y H4=>∃ m',m' < m/\W (i+1) m' (ys++[y]) H4)
noncomputable def df (n:Nat)(wi:TI)(is:List Nat)(g:TG)(tc:TT)(te:TE):TE:=fun σ H Q=>wi σ H fun J H1=>oa n J g tc te (bA σ is) H1 Q
noncomputable def gk (n:Nat)(wi:TI)(is:List Nat)(g:TG)(te:TE):TE:=fun σ H Q=>wi σ H fun J H1=>oN n J g te (bA σ is) H1 Q
theorem nL {n:Nat}{σ2 σ':L2.St}(h:σ2.drop n=σ'){j:Nat}{w:V}(e:(a0e n none++σ')[j]?=some (some w)):σ2[j]?=some (some w):=by
 by_cases hj:j < n
 ·rw [a0S (by simpa using hj),a1k,if_pos hj] at e
  cases a0w e
 ·rw [a0Q (by simpa using hj),a0F,<- h,List.getElem?_drop,Nat.add_sub_cancel' (by omega)] at e
  exact e
noncomputable def CW (X:Cx)(cs:List Expr)(k:Bool->Shared->Prop)(s:Shared):Prop:=match cs with
 | []=>k true s
 | [c]=>wpAny (model X.prog X.w) X.A (isTrue c X.env (eval c X.env)) k noX s
 | _=>False
noncomputable def PC (X:Cx)(cs:List Expr)(tc:TT):Prop:=∀ (pins:List (Addr×Obj)) (s:Shared) (σ:L2.St) (H:Hp) (Q:Bool->Hp->Prop),Inv X pins σ H s->tc σ H Q->CW X cs (fun ok s'=>∃ H',Inv X pins σ H' s'/\Q ok H') s
theorem CW.mono {X:Cx}{cs:List Expr}{k k':Bool->Shared->Prop}{s:Shared}(h:CW X cs k s)(w:∀ b s,k b s->k' b s):CW X cs k' s:=by
 match cs,h with
 | [],h=>exact w _ _ h
 | [c],h=>exact wpAny_mono h w fun _ _ z=>z
theorem ij {X:Cx}{elt tg iter:Expr}{cs:List Expr}{scope:Scope}{pos:Pos}{it acc:Value}{R:Result->Shared->Prop}{s:Shared}(J:Nat->Shared->Prop)
  (turn:∀ n s,J n s->wpAny (model X.prog X.w) X.A (pyNext it) (fun r s₁=>match r with
   | none=>R (.ok .next) s₁
   | some v=>wpAny (model X.prog X.w) X.A (letOwnedTupleGo tg it v) (fun _ s₂=>wpAny (model X.prog X.w) X.A (assign tg X.env v) (fun _ s₃=>CW X cs (fun ok s₄=>if ok=true then
     wpAny (model X.prog X.w) X.A (eval elt X.env) (fun y s₅=>wpAny (model X.prog X.w) X.A (call (.builtin "list.append") [acc,y]) (fun _ s₆=>∃ m,m < n/\J m s₆) noX s₅) noX s₄ else ∃ m,m < n/\J m s₄) s₃) noX s₂) noX s₁) noX s)
  (n:Nat) (h:J n s) (hcs:cs.length<=1):codeAny (model X.prog X.w) X.A (.compLoop (.ListComp elt [⟨tg,iter,cs,0⟩] scope pos) 0 it acc X.env) R s:=by
 match cs,hcs with
 | [],_=>exact iU J turn n h
 | [c],_=>exact gG J turn n h
theorem gL {X:Cx}{elt iter tg:Expr}{cs:List Expr}{pre:List Str}{pos:Pos}{scope:Scope}{cl:List (Str×Addr)}{ys:List Str}{is:List Nat}{wi:TI}{g:TG}{te:TE}{tc:TT}{use:Option (Value->Sem Unit)}{Q:VK}{Qp:Value->Shared->Prop}{pins:List (Addr×Obj)}{s:Shared}{σ:L2.St}{H:Hp}{ip:Pos}
  (hc:X.calm=true) (hi:PI X tg iter wi) (hg:∀ C s H fp,PG (av X (pre++ys) scope cl C s H fp) tg g) (he:∀ C s H fp,PE (av X (pre++ys) scope cl C s H fp) elt te) (hcd:∀ C s H fp,PC (av X (pre++ys) scope cl C s H fp) cs tc) (hcs:cs.length<=1)
  (hclos:closureFor scope X.env=pure cl) (S:aH pre ys scope) (hcl:Clo X cl) (hfr:(scope.names.all fun p=>p.2 != .free || (cl.lookup p.1).isSome)=true) (fr:Frees X scope cl ys is) (hs:∀ v,foldedSetIterable iter X.env v=pure v)
  (fin:∀ (s4:Shared) (Hn:Hp) (D L:Addr) (m4:Str->Option Value),Inv X pins σ Hn s4->s4.heap.Ns L m4->L≠X.env.locals->(∀ a c,X.env.cells.lookup a=some c->c≠L)->Hn L=none->X.s₀.heap.objs.size<=L->(∀ p∈X.pn++pins,p.1≠L)->Q (.ref D) Hn->compPost (model X.prog X.w) X.A X.xe use Qp (.ref D) L (.ok .next) s4)
  (I:Inv X pins σ H s) (h:df pre.length wi is g tc te σ H Q) :
  wpAny (model X.prog X.w) X.A (comprehension (.ListComp elt [⟨tg,iter,cs,0⟩] scope pos) scope X.env ip (newList []) false (eval iter X.env) use) Qp X.xe s:=by
 refine wpAny_comprehension_free (use:=use) rfl hs hclos S.kind S.nm (thn (hi pins s σ H _ I h) fun xv s1 h1=>thn h1 fun itv s2 h2=>?_)
 obtain ⟨it,fp,tn,J,H2,rfl,I2,T,st2,f2,W,⟨m0,w0⟩,turn⟩:=h2
 have fpo:∀ b∈fp,b < s2.heap.objs.size:=fun b hb=>by
  obtain ⟨o,e,_⟩:=T.obj _ _ st2 b hb
  exact Heap.lt_size e
 refine wpAny_newObj_type (wpAny_newFunctionEnv S.cell (fun y hy=>by cases hy) (fun g' hns hsb=>?_) S.kind)
 dsimp only at hns hsb ⊢
 generalize hP2:s2.heap.push { cls:=.type "list",dict:=none,data:=.seq ([]:List Value).toArray }=P2 at hns hsb ⊢
 have hCs:P2.objs.size=s2.heap.objs.size+1:=by rw [<- hP2,Heap.size_push]
 have hDC:s2.heap.objs.size≠P2.objs.size:=by omega
 have hle:s2.heap.objs.size<=P2.objs.size:=by omega
 have nc:∀ b o,s2.heap.get? b=some o->b≠P2.objs.size:=fun b o e=>a0B (a0l (Heap.lt_size e) hle)
 have nd:∀ b o,s2.heap.get? b=some o->b≠s2.heap.objs.size:=fun b o e=>a0B (Heap.lt_size e)
 have ndH:∀ b u,H2 b=some u->b≠s2.heap.objs.size:=fun b u e=>a0B (I2.hok.lt e)
 have old:∀ b o,s2.heap.get? b=some o->g'.get? b=some o:=fun b o e=>hsb.extBut b o (nc b o e) (Heap.get?_push_of_some _ (hP2 ▸ Heap.get?_push_of_some _ e))
 have accD:g'.get? s2.heap.objs.size=some (gf []):=hsb.extBut _ _ hDC (Heap.get?_push_of_some _ (hP2 ▸ Heap.get?_push_size _ rfl))
 have stkD:s2.heap.objs.size ∉ frs X.stack:=fun hb=>(a0H.mp (I2.stkSub _ hb)).elim (fun z=>absurd z (a1B I2.lt)) (I2.nofs (a0b _))
 generalize hσ':bA σ is=σ' at turn
 have I3:Inv (av X (pre++ys) scope cl P2.objs.size s2 H2 fp) pins (a0e pre.length none++σ') H2 { s2 with heap:=g',toks:=s2.toks+([]:List (Str×Value)).length }:=by rw [<- hσ']; exact kq (pre:=pre) I2 f2 fpo S hcl hfr fr hle old hns
 have stat:∀ {H':Hp} {o:Obj},(∀ b∈fp,H' b=none)->∀ b∈fp,dX (av X (pre++ys) scope cl P2.objs.size s2 H2 fp) (pins++[(s2.heap.objs.size,o)]) H' b:=fun {H' o} hn b hb=>by
  refine ⟨hn b hb,a0B (a0l (fpo b hb) hle),fun z=>(a0H.mp (I2.stkSub _ z)).elim (f2 b hb).2.1 (f2 b hb).2.2.1,.inl hb,fun a c e=>(f2 b hb).2.2.2.2.1 a c (hcl.get e),fun p hp=>?_⟩
  rcases a0O.mp hp with z | z
  ·exact (f2 b hb).2.2.2.2.2 p (a0V _ z)
  ·rcases a0O.mp z with z | z
   ·exact (f2 b hb).2.2.2.2.2 p (a0g _ z)
   ·rw [a0M.mp z]
    exact a1B (fpo b hb)
 have loop:codeAny (model X.prog X.w) X.A (.compLoop (.ListComp elt [⟨tg,iter,cs,0⟩] scope pos) 0 (.ref it) (.ref s2.heap.objs.size) (compEnvC scope cl P2.objs.size X.env))
   (compPost (model X.prog X.w) X.A X.xe use Qp (.ref s2.heap.objs.size) P2.objs.size) { s2 with heap:=g',toks:=s2.toks+([]:List (Str×Value)).length }:=by
  refine ij (X:=av X (pre++ys) scope cl P2.objs.size s2 H2 fp) (fun n s'=>∃ i zs its H',Inv (av X (pre++ys) scope cl P2.objs.size s2 H2 fp) pins (a0e pre.length none++σ') H' s'/\tn i s'.heap/\(∀ b∈fp,H' b=none)/\s'.heap.get? s2.heap.objs.size=some (gf its)/\Vals zs its/\H' s2.heap.objs.size=none/\W i n zs H')
   ?_ m0 ⟨0,[],[],H2,I3,T.keep _ _ _ st2 (fun b _ o e=>old b o e),fun b hb=>(f2 b hb).1,accD,.nil,I2.hok.fresh (a0b _),w0⟩ hcs
  rintro n s3 ⟨i,zs,its,H3,J3,st3,fr3,d3,rv3,nd3,w3⟩
  have hzl:=rv3.length
  have J3':Inv (av X (pre++ys) scope cl P2.objs.size s2 H2 fp) (pins++[(s2.heap.objs.size,gf its)]) (a0e pre.length none++σ') H3 s3:=J3.pins_of fun p hp=>by
   rcases a0O.mp hp with z | z
   ·exact J3.pin p (a0g _ z)
   ·rw [a0M.mp z]
    exact ⟨d3,nd3,hDC,stkD,fun v q=>by cases q⟩
  rcases turn i n zs H3 w3 with ⟨stop,hz,q⟩ | ⟨go,hz,step⟩
  ·refine wpAny_mono (T.done (av X (pre++ys) scope cl P2.objs.size s2 H2 fp) rfl rfl rfl hc i _ s3 _ H3 noX J3' (stat fr3) st3 stop) (fun r s4 h4=>?_) fun _ _ z=>z.elim
   obtain ⟨hr,I4⟩:=h4
   subst hr
   obtain ⟨m4,hn4,_⟩:=id I4.loc
   have f4:H3 P2.objs.size=none:=I4.free
   have d4:s4.heap.get? s2.heap.objs.size=some (gf its):=(I4.pin (s2.heap.objs.size,gf its) (a0g _ (a0g _ (a0M.mpr rfl)))).1
   have u4:Un (frs X.stack) fp H2 H3 s2.heap s4.heap:=I4.base
   have un:Un (frs X.stack) fp H2 (upd H3 s2.heap.objs.size (.lst zs)) s2.heap s4.heap :=
    ⟨u4.keep,u4.slot,fun b o e n hx=>by rw [ao (nd b o e)]; exact u4.free b o e n hx,u4.there,
     fun b xs q=>by rw [ao (ndH b _ q)]; exact u4.tups b xs q,fun b o u q=>by rw [ao (ndH b _ q)]; exact u4.frzs b o u q,fun b ps q=>by rw [ao (ndH b _ q)]; exact u4.tbls b ps q⟩
   have IX:Inv X pins σ (upd H3 s2.heap.objs.size (.lst zs)) s4:=I2.call' (s':=s4) (ch:=fp) I4.os un (fC I4.hok nd3 ⟨hz,its,its.length,rv3,d4⟩) I4.bare
    (fun b hb=>⟨(f2 b hb).2.2.2.1,(f2 b hb).2.1,(f2 b hb).2.2.2.2.1,(f2 b hb).2.2.2.2.2⟩)
   have cL:P2.objs.size≠X.env.locals:=a1B (a0l I2.lt hle)
   have cC:∀ a c,X.env.cells.lookup a=some c->c≠P2.objs.size:=fun a c e=>by
    obtain ⟨v',o',ho',_⟩:=I2.cell a c e
    exact nc c o' ho'
   exact fin s4 _ s2.heap.objs.size P2.objs.size m4 IX hn4 cL cC (by rw [ao (a1N hDC)]; exact f4) (a0m I2.sz hle) (fun p hp=>nc p.1 _ (I2.pin p hp).1) (q _ nd3)
  ·refine wpAny_mono (T.item (av X (pre++ys) scope cl P2.objs.size s2 H2 fp) rfl rfl rfl hc i _ s3 _ H3 noX J3' (stat fr3) st3 go) (fun r s4 h4=>?_) fun _ _ z=>z.elim
   obtain ⟨u,hr,h4⟩:=h4
   subst hr
   refine wpAny_mono h4 (fun _ s5 h5=>?_) fun _ _ z=>z.elim
   obtain ⟨v,H5,I5,r5,y5,st5,fr5⟩:=h5
   have I5':=I5.pinned (stat fr5) (T.obj _ _ st5)
   refine wpAny_mono (hg P2.objs.size s2 H2 fp _ s5 _ H5 v u _ I5' r5 (step v H5 y5)) (fun _ s6 h6=>?_) fun _ _ z=>z.elim
   obtain ⟨σ6,H6,I6,⟨hl6,hd6⟩,step'⟩:=h6
   have back:∀ {H7:Hp} {s7:Shared},Inv (av X (pre++ys) scope cl P2.objs.size s2 H2 fp) ((pins++[(s2.heap.objs.size,gf its)])++ey fp s5.heap) σ6 H7 s7->Inv (av X (pre++ys) scope cl P2.objs.size s2 H2 fp) pins (a0e pre.length none++σ') H7 s7:=fun I7=>I7.unpinned.unpinned.weak (by rw [hl6,a0c,a0F]) fun j w' e=>nL hd6 e
   refine CW.mono (hcd P2.objs.size s2 H2 fp _ s6 _ H6 _ I6 step') fun ok s6' h6'=>?_
   obtain ⟨H6',I6',q6⟩:=h6'
   cases ok with
   | false =>
    rw [if_neg a0h] at q6
    obtain ⟨m',hm',w7⟩:=q6
    have pinD:=I6'.pin (s2.heap.objs.size,gf its) (a0g _ (a0V _ (a0g _ (a0M.mpr rfl))))
    rw [if_neg a0h]
    refine ⟨m',hm',i+1,zs,its,H6',back I6',T.keep _ _ _ st5 fun b hb o e=>?_,fun b hb=>?_,pinD.1,rv3,pinD.2.1,w7⟩
    ·exact (I6'.pin (b,o) (a0g _ (a0g _ (bp hb e)))).1
    ·obtain ⟨o,e,_⟩:=T.obj _ _ st5 b hb
     exact (I6'.pin (b,o) (a0g _ (a0g _ (bp hb e)))).2.1
   | true =>
    rw [if_pos rfl] at q6 ⊢
    refine wpAny_mono (he P2.objs.size s2 H2 fp _ s6' _ H6' _ I6' q6) (fun yv s7 h7=>?_) fun _ _ z=>z.elim
    obtain ⟨y',H7,I7,r7,m',hm',w7⟩:=h7
    have pinD:=I7.pin (s2.heap.objs.size,gf its) (a0g _ (a0V _ (a0g _ (a0M.mpr rfl))))
    refine append_at (hsz:=by show its.toArray.size<=sizeLine; rw [a0f]; omega) pinD.1 fun h8 sb8 hD8=>?_
    have I8:Inv (av X (pre++ys) scope cl P2.objs.size s2 H2 fp) pins (a0e pre.length none++σ') H7 { s7 with heap:=h8 }:=(back I7).turned (t':=s7.toks) (it:=s2.heap.objs.size) (fun b o hb e=>(sb8.2 b hb).trans e) pinD.2.1 hDC (.inr (a0b _))
     (fun a c e z=>by
      obtain ⟨v',o',ho',_⟩:=I2.cell a c (hcl.get e)
      exact nd c o' ho' z)
     (fun p hp=>nd p.1 _ (I2.pin p hp).1)
    refine ⟨m',hm',i+1,zs++[y'],its++[yv],H7,I8,T.keep _ _ _ st5 fun b hb o e=>?_,fun b hb=>?_,?_,rv3.append (.cons r7 .nil),pinD.2.1,w7⟩
    ·exact (sb8.2 b (a0B (fpo b hb))).trans (I7.pin (b,o) (a0g _ (a0g _ (bp hb e)))).1
    ·obtain ⟨o,e,_⟩:=T.obj _ _ st5 b hb
     exact (I7.pin (b,o) (a0g _ (a0g _ (bp hb e)))).2.1
    ·show h8.get? s2.heap.objs.size=_
     rw [hD8]
     simp [gf]
 exact codeAny_compStart_list loop (T.self X.A 0 _ _ _ (T.keep _ _ _ st2 (fun b _ o e=>old b o e)) loop)
section
variable {X:Cx}{elt iter tg cnd:Expr}{pre:List Str}{pos spos pz:Pos}{z:Str}{jz:Nat}{scope:Scope}{cl:List (Str×Addr)}{ys:List Str}{is:List Nat}{wi:TI}{g:TG}{te:TE}{tc:TT}
theorem pcF (h:PT X cnd tc)(hx:∀ v s,X.xe v s->False):PC X [cnd] tc:=fun pins s σ H Q I q=>wpAny_mono (h pins s σ H Q I q) (fun _ _ z=>z) fun v s z=>hx v s z
noncomputable def tT:TT:=fun _ H Q=>Q true H
theorem pcN:PC X [] tT:=fun pins s σ H Q I q=>⟨H,I,q⟩
theorem goN {n:Nat}{σ:L2.St}{H:Hp}{Q:VK}(h:gk n wi is g te σ H Q):df n wi is g tT te σ H Q:=h
theorem nE {cs:List Expr}(hc:X.calm=true)(hi:PI X tg iter wi)(hg:∀ C s H fp,PG (av X (pre++ys) scope cl C s H fp) tg g)(he:∀ C s H fp,PE (av X (pre++ys) scope cl C s H fp) elt te)(hcd:∀ C s H fp,PC (av X (pre++ys) scope cl C s H fp) cs tc)(hcs:cs.length<=1)
  (hclos:closureFor scope X.env=pure cl) (S:aH pre ys scope) (hcl:Clo X cl) (hfr:(scope.names.all fun p=>p.2 != .free || (cl.lookup p.1).isSome)=true) (fr:Frees X scope cl ys is) (hs:∀ v,foldedSetIterable iter X.env v=pure v) :
  PE X (.ListComp elt [⟨tg,iter,cs,0⟩] scope pos) (df pre.length wi is g tc te):=by
 intro pins s σ H Q I h
 rw [eval_ListComp]
 show wpAny _ _ (comprehension _ scope X.env _ (newList []) false (eval iter X.env) none) _ _ s
 refine gL hc hi hg he hcd hcs hclos S hcl hfr fr hs (fun s4 Hn D L m4 IX hn cL cC hL hz hp q=>?_) I h
 exact ⟨m4,hn,fun h' sb=>⟨.ref D,_,IX.turned (t':=s4.toks) (it:=L) (fun b o hb e=>(sb.2 b hb).trans e) hL cL (.inr hz) cC hp,rfl,q⟩⟩
theorem gS {cs:List Expr}(hN:X.N.Nodup)(hj:X.N[jz]?=some z)(hzLoc:Loc X.env.scope z)(hsw:swapsWith (.ListComp elt [⟨tg,iter,cs,0⟩] scope pos) (some (.Name z pz)) spos.line X.env=pure true)(hc:X.calm=true)(hi:PI X tg iter wi)(hg:∀ C s H fp,PG (av X (pre++ys) scope cl C s H fp) tg g)(he:∀ C s H fp,PE (av X (pre++ys) scope cl C s H fp) elt te)(hcd:∀ C s H fp,PC (av X (pre++ys) scope cl C s H fp) cs tc)(hcs:cs.length<=1)
  (hclos:closureFor scope X.env=pure cl) (S:aH pre ys scope) (hcl:Clo X cl) (hfr:(scope.names.all fun p=>p.2 != .free || (cl.lookup p.1).isSome)=true) (fr:Frees X scope cl ys is) (hs:∀ v,foldedSetIterable iter X.env v=pure v) (hfn:X.fn z=true\/X.env.scope.names.lookup z=some .local) :
  PS X (.Assign [.Name z pz] (.ListComp elt [⟨tg,iter,cs,0⟩] scope pos) spos) (jX (df pre.length wi is g tc te) (cj jz)):=by
 intro pins s σ H D I h
 rw [exec_Assign_Name_used _ _ _ _ hsw]
 refine wpAny_bind (wpAny_standAt (wpAny_bind ?_)); show wpAny _ _ (do let _ <- comprehension (.ListComp elt [⟨tg,iter,cs,0⟩] scope pos) scope X.env _ (newList []) false (eval iter X.env) (some (assign (.Name z pz) X.env))) _ _ s
 refine wpAny_bind (thn (gL (use:=some (assign (.Name z pz) X.env)) (Qp:=fun _ s'=>SP X pins D .next s') hc hi hg he hcd hcs hclos S hcl hfr fr hs (fun s4 Hn d L m4 IX hn cL cC hL hz hp q=>?_) I h) fun _ s' hq=>wpAny_pure (wpAny_pure hq))
 show wpAny _ _ (assign (.Name z pz) X.env (.ref d)) _ _ s4
 refine wpAny_assign_Name (fo IX hN hj hzLoc (v:=.ref d) rfl (fun s5 I5 h5=>?_) hfn)
 obtain ⟨a5,sb5,ha5⟩:=h5
 have na:L≠a5:=ha5.elim (fun e=>by rw [e]; exact cL) fun e=>a1N (cC _ _ e)
 exact ⟨m4,hn.sameBut sb5 na,fun h' sb=>⟨_,_,I5.turned (t':=s5.toks) (it:=L) (fun b o hb e=>(sb.2 b hb).trans e) hL cL (.inr hz) cC hp,q⟩⟩
theorem jP (hc:X.calm=true)(hi:PI X tg iter wi)(hg:∀ C s H fp,PG (av X (pre++ys) scope cl C s H fp) tg g)(he:∀ C s H fp,PE (av X (pre++ys) scope cl C s H fp) elt te)
  (hclos:closureFor scope X.env=pure cl) (S:aH pre ys scope) (hcl:Clo X cl) (hfr:(scope.names.all fun p=>p.2 != .free || (cl.lookup p.1).isSome)=true) (fr:Frees X scope cl ys is) (hs:∀ v,foldedSetIterable iter X.env v=pure v:=by intro _; rfl) :
  PE X (.ListComp elt [⟨tg,iter,[],0⟩] scope pos) (gk pre.length wi is g te):=fun pins s σ H Q I h=>nE hc hi hg he (fun _ _ _ _=>pcN) (a0U _) hclos S hcl hfr fr hs pins s σ H Q I (goN h)
theorem kf (hN:X.N.Nodup)(hj:X.N[jz]?=some z)(hzLoc:Loc X.env.scope z)(hsw:swapsWith (.ListComp elt [⟨tg,iter,[],0⟩] scope pos) (some (.Name z pz)) spos.line X.env=pure true)(hc:X.calm=true)(hi:PI X tg iter wi)(hg:∀ C s H fp,PG (av X (pre++ys) scope cl C s H fp) tg g)(he:∀ C s H fp,PE (av X (pre++ys) scope cl C s H fp) elt te)
  (hclos:closureFor scope X.env=pure cl) (S:aH pre ys scope) (hcl:Clo X cl) (hfr:(scope.names.all fun p=>p.2 != .free || (cl.lookup p.1).isSome)=true) (fr:Frees X scope cl ys is) (hs:∀ v,foldedSetIterable iter X.env v=pure v:=by intro _; rfl) (hfn:X.fn z=true\/X.env.scope.names.lookup z=some .local:=by first | exact .inl rfl | exact .inr rfl | assumption) :
  PS X (.Assign [.Name z pz] (.ListComp elt [⟨tg,iter,[],0⟩] scope pos) spos) (jX (gk pre.length wi is g te) (cj jz)):=fun pins s σ H D I h=>gS hN hj hzLoc hsw hc hi hg he (fun _ _ _ _=>pcN) (a0U _) hclos S hcl hfr fr hs hfn pins s σ H D I (goN h)
theorem j4 (hN:X.N.Nodup)(hj:X.N[jz]?=some z)(hzLoc:Loc X.env.scope z)(hsw:swapsWith (.ListComp elt [⟨tg,iter,[cnd],0⟩] scope pos) (some (.Name z pz)) spos.line X.env=pure true)(hc:X.calm=true)(hi:PI X tg iter wi)(hg:∀ C s H fp,PG (av X (pre++ys) scope cl C s H fp) tg g)(he:∀ C s H fp,PE (av X (pre++ys) scope cl C s H fp) elt te)(hcd:∀ C s H fp,PT (av X (pre++ys) scope cl C s H fp) cnd tc)
  (hclos:closureFor scope X.env=pure cl) (S:aH pre ys scope) (hcl:Clo X cl) (hfr:(scope.names.all fun p=>p.2 != .free || (cl.lookup p.1).isSome)=true) (fr:Frees X scope cl ys is) (hs:∀ v,foldedSetIterable iter X.env v=pure v:=by intro _; rfl) (hfn:X.fn z=true\/X.env.scope.names.lookup z=some .local:=by first | exact .inl rfl | exact .inr rfl | assumption) :
  PS X (.Assign [.Name z pz] (.ListComp elt [⟨tg,iter,[cnd],0⟩] scope pos) spos) (jX (df pre.length wi is g tc te) (cj jz)):=gS hN hj hzLoc hsw hc hi hg he (fun _ _ _ _=>pcF (hcd _ _ _ _) fun _ _ z=>z) (a0b _) hclos S hcl hfr fr hs hfn
end
end L3

namespace L3
open PySem PySem.Spec PyProof.Rows L2
end L3
namespace L3
open PySem PySem.Spec PyProof.Rows L2
end L3
namespace L3
open PySem PySem.Spec PyProof.Rows L2
end L3

namespace L3
open PySem PySem.Spec PyProof.Rows L2
theorem kv {X:Cx}(hc:X.calm=true):cn X (.builtin "any") (fun xs H Q=>∃ (a:Addr) (bs:List Bool),xs=[.ref a]/\SqL X.K H a (bs.map V.bl)/\Q (.bl (bs.any id)) H):=by
 intro pins s σ H xs us Q I r h
 obtain ⟨a,bs,rfl,hS,q⟩:=h
 obtain ⟨u,rfl,ru⟩:=dB r
 cases ru
 obtain ⟨its,rv,p,hz⟩:=I.list hS
 have hlen:its.toArray.size=bs.length:=by rw [a0f,<- rv.length,a0d]
 have hlt:a < s.heap.objs.size:=by obtain ⟨o,e,_⟩:=p.isList; exact Heap.lt_size e
 refine call_any_walk (wpAny_pyIter_list p.isList ?_)
 refine ⟨s.heap.objs.size,_,_,_,_,_,fun i=>bs.getD i false,rfl,Walks.list (A:=X.A.in1) (show X.A.in1.handled=none from I.ok.hd hc) s.heap.objs.size a (a0B hlt) its.toArray,⟨⟨_,Heap.get?_push_size _ rfl,rfl,rfl⟩,p.isList.push _⟩,fun i v s' Q' E' hv hQ=>?_,fun h' tk k=>?_⟩
 ·have hv':its[i]?=some v:=by simpa using hv
  have hi:i < its.length:=(a0v.mp hv').1
  have hib:i < bs.length:=by have:=rv.length; rw [a0d] at this; omega
  obtain ⟨w',e1,e2⟩:=rv.get (i:=i) (x:=.bl bs[i]) (by rw [a0x,a0q hib]; rfl)
  rw [hv'] at e1
  cases e1
  cases e2
  refine wpAny_truthy_bool ?_
  have e3:bs.getD i false=bs[i]:=by rw [a0y,a0q hib]; rfl
  rw [<- e3]; exact hQ
 ·have e:(a0T its.toArray.size).any (fun i=>bs.getD i false)=bs.any id:=by
   rw [hlen,a2E,a2w,a2w]
   constructor
   ·rintro ⟨i,hi,z⟩
    have hi':=a05.mp hi
    rw [a0y,a0q hi'] at z
    exact ⟨_,a1U hi',z⟩
   ·rintro ⟨b,hb,z⟩
    obtain ⟨i,hi,e⟩:=a2f hb
    refine ⟨i,a05.mpr hi,?_⟩
    rw [a0y,a0q hi]
    simpa [e] using z
  rw [e]
  exact ⟨.bl (bs.any id),H,I.kept (fun b o eo=>k b o (fun hm=>by
   have:b=s.heap.objs.size:=by simpa using hm
   exact absurd (this ▸ Heap.lt_size eo) (a00 _)) (Heap.get?_push_of_some _ eo)),rfl,q⟩
theorem cJ:∀ {ns:List Int} {us:List Value},Vals (ns.map V.int) us->IntsAre us ns
 | [],_,.nil=>.nil
 | n::ns,_,.cons ⟨t,e⟩ r=>by cases e; exact .cons n t (cJ r)
end L3
namespace L3
open PySem PySem.Spec PyProof.Rows L2
noncomputable abbrev rm (h:Heap)(T:Addr)(a b c:Value):Prop:=h.get? T=some { cls:=.type "tuple",data:=.seq #[a,b,c] }
end L3
namespace L3
open PySem PySem.Spec PyProof.Rows L2
noncomputable def Z3 (n a1 a2 a3:Nat)(i:Nat)(h:Heap):Prop :=
 IsZip h (n+5) (n+3) (n+4) .none/\rm h (n+3) (.ref n) (.ref (n+1)) (.ref (n+2))/\(∃ a b c,rm h (n+4) a b c)/\ItO h false n a1 i/\ItO h false (n+1) a2 i/\ItO h false (n+2) a3 i
end L3

namespace M
open PySem (Str)
inductive T where
 | non | bl (b:Bool) | int (i:Int) | str (x:Str) | tup (ts:List T) | lst (ts:List T) | dct (ks vs:List T) | ins (c:Str) (fs:List Str) (vs:List T)
 | scr (ns:List Int)
 | gone
 deriving Inhabited
inductive Md where
 | s | d | o (m:Md)
 deriving DecidableEq,Inhabited
noncomputable def Md.kid:Md->Md
 | .s=>.s | .d=>.d | .o m=>m
noncomputable def Md.up:Md->Md
 | .d=>.d | m=>.o m
noncomputable def Md.meet:Md->Md->Md
 | .s,_=>.s | .d,m=>m | .o _,.s=>.s | .o a,.d=>.o a | .o a,.o b=>.o (a.meet b)
noncomputable def Md.le:Md->Md->Bool
 | .s,_=>true
 | .o a,.o b=>a.le b
 | .o _,.d=>true
 | .d,.d=>true
 | _,_=>false
noncomputable abbrev W:=Md×T
noncomputable abbrev Env:=List (Option W)
noncomputable def LIM:Nat:=16777215
noncomputable def T.leaf:T->Bool
 | .non | .bl _ | .int _ | .str _ | .scr _=>true
 | _=>false
noncomputable def T.isG:T->Bool
 | .gone=>true
 | _=>false
noncomputable def T.isN:T->Bool
 | .non=>true
 | _=>false
noncomputable def leaves (ts:List T):Bool:=ts.all T.leaf
inductive Op where
 | add | sub | mul | fdiv | mod | pow | neg | eq | ne | lt | le | gt | ge | is | isnot | isin | notin | ix | sl | sl1 | sl2 | sl3
 | len | isI (cs:List String) | max1 | min1 | count | fdivN | modN | intS | apd | mulS | listS | list | tuple | sum | all | any | max | min | int | str | rng | sorted | join | split | abs | dict | get | lzip | isB | isnB
 deriving DecidableEq,Inhabited
inductive Ik where
 | seq | rng | enm | zip | sq2 | zip3
 deriving DecidableEq,Inhabited
inductive E where
 | var (i:Nat) | mv (i:Nat) | io (i:Nat) | cst (t:T) | glb (x:Str) (t:T)
 | tup (es:List E) | lst (h:Bool) (es:List E) | op (o:Op) (h:Bool) (es:List E) | wk (m:Md) (e:E)
 | and (a b:E) | or (a b:E) | not (a:E) | ifx (c a b:E) | chain (o p:Op) (a b c:E)
 | call (f:Nat) (es:List E) | comp (h:Bool) (k:Ik) (src:List E) (tg:List Nat) (cnd:Option E) (elt:E)
 | pop (i:Nat) (es:List E) | lenV (i:Nat)
 | tupA (es:List E) | qx (vs ls:List Nat) (e:E) | mvP (i:Nat) (p:List Nat)
 | callT (tab:List (Str×Nat)) (k:E) (es:List E) | inT (neg:Bool) (ks:List Str) (e:E) | ixT (tab:List (Str×T)) (e:E) | getT (tab:List (Str×T)) (e:E)
 deriving Inhabited
inductive X where
 | q (vs ls:List Nat) | l (vs:List Nat)
 deriving Inhabited
inductive S where
 | asg (x:X) (i:Nat) (e:E) | asgT (x:X) (is:List Nat) (e:E) | setI (x:X) (i:Nat) (k e:E)
 | exp (x:X) (e:E) | app (x:X) (i:Nat) (e:E) | ext (x:X) (i:Nat) (e:E)
 | ret (vs:List Nat) (e:E) | retN | ite (x:X) (c:E) (a b:List S)
 | forS (vs ls:List Nat) (k:Ik) (src:List E) (tg:List Nat) (body:List S) | forU (k:Ik) (src:List E) (tg:List Nat) (body:List S) | whl (x:X) (c:E) (body:List S)
 | brk | pas | stop | tri (body:List S)
 deriving Inhabited
structure Fn where
 ps:Nat
 ns:Nat
 io:List Nat
 body:List S
inductive Res (α:Type) where
 | ok (a:α) | ex (c:Str) (x:List T) | no
noncomputable def Res.bind {α β:Type}:Res α->(α->Res β)->Res β
 | .ok a,f=>f a
 | .ex c x,_=>.ex c x
 | .no,_=>.no
noncomputable def ofO {α:Type}:Option α->Res α
 | some a=>.ok a
 | none=>.no
inductive Fl where
 | nx (η:Env) | rt (w:W) (η:Env) | bk (η:Env) | ex (c:Str) (x:List T) (η:Env) | no
noncomputable def truth:T->Option Bool
 | .non=>some false | .bl b=>some b | .int i=>some (i != 0) | .str x=>some (x.cps.size != 0) | .tup ts=>some (!ts.isEmpty) | .lst ts=>some (!ts.isEmpty) | .dct ks _=>some (!ks.isEmpty) | .ins ..=>none | .scr ns=>some (!ns.isEmpty) | .gone=>none
noncomputable def b2i:Bool->Int
 | true=>1 | false=>0
mutual
noncomputable def eqT:T->T->Bool
 | .non,.non=>true
 | .bl a,.bl b=>a==b
 | .bl a,.int i=>b2i a==i
 | .int i,.bl a=>i==b2i a
 | .int i,.int j=>i==j
 | .str x,.str y=>x==y
 | .tup ts,.tup us=>eqTs ts us
 | .lst ts,.lst us=>eqTs ts us
 | _,_=>false
noncomputable def eqTs:List T->List T->Bool
 | [],[]=>true
 | t::ts,u::us=>eqT t u&&eqTs ts us
 | _,_=>false
end
mutual
noncomputable def dp:T->Nat
 | .tup ts=>dps ts+1
 | .lst ts=>dps ts+1
 | .scr _=>1000
 | .dct _ _=>1000
 | .ins _ _ _=>1000
 | .gone=>1000
 | _=>0
noncomputable def dps:List T->Nat
 | []=>0
 | t::ts=>max (dp t) (dps ts)
end
noncomputable def sOk (x:Str):Bool:=x.cps.all (· < 0x110000)&&decide (x.cps.size<=LIM)
noncomputable def ixN (n:Nat)(i:Int):Option Nat:=if 0<=i then (if i < n then some i.toNat else none) else if -(n:Int)<=i then some (i+n).toNat else none
noncomputable def atI {α:Type}(xs:List α)(i:Int):Option α:=(ixN xs.length i).bind fun j=>xs[j]?
noncomputable def sIx (n d:Nat):Option Int->Nat
 | none=>d
 | some i=>if i < 0 then (i+n).toNat else min i.toNat n
noncomputable def cut {α:Type}(xs:List α)(lo hi:Option Int):List α:=(xs.drop (sIx xs.length 0 lo)).take (sIx xs.length xs.length hi-sIx xs.length 0 lo)
noncomputable def T.ty:T->String
 | .non=>"NoneType" | .bl _=>"bool" | .int _=>"int" | .str _=>"str" | .tup _=>"tuple" | .lst _=>"list" | .dct ..=>"dict" | .ins ..=>"object" | .scr _=>"list" | .gone=>"gone"
noncomputable def isOne (c:String)(t:T):Bool:=t.ty==c || (t.ty=="bool"&&c=="int")
noncomputable def ee:List T->Option (List Int)
 | []=>some []
 | .int i::ts=>(ee ts).map (i::·)
 | _::_=>none
noncomputable def boolsOf:List T->Option (List Bool)
 | []=>some []
 | .bl b::ts=>(boolsOf ts).map (b::·)
 | _::_=>none
noncomputable def elems:W->Option (List T)
 | (_,.tup ts)=>some ts
 | (_,.lst ts)=>some ts
 | _=>none
noncomputable def flatT:T->Bool
 | .non | .bl _ | .int _ | .str _=>true
 | _=>false
noncomputable def xa:List Int->Int
 | []=>0
 | [n]=>n
 | n::ns=>max n (xa ns)
noncomputable def xH:List Int->Int
 | []=>0
 | [n]=>n
 | n::ns=>min n (xH ns)
noncomputable def yf (x:Int):List Int->List Int
 | []=>[x]
 | y::ys=>if x<=y then x::y::ys else y::yf x ys
noncomputable def rQ:List Int->List Int
 | []=>[]
 | x::xs=>yf x (rQ xs)
noncomputable def mh:List T->Option (List Str)
 | []=>some []
 | .str x::ts=>(mh ts).map (x::·)
 | _::_=>none
noncomputable def spl (c:Nat):List Nat->List Nat->List (List Nat)
 | acc,[]=>[acc]
 | acc,x::xs=>if x=c then acc::spl c [] xs else spl c (acc++[x]) xs
noncomputable def xQ (x:Str):List Str:=(spl 32 [] x.cps.toList).map fun l=>⟨l.toArray⟩
noncomputable def xO (l:List Nat):Nat:=l.foldl (fun a c=>a * 10+(c-48)) 0
noncomputable def uB (x:Str):Int:=match x.cps.toList with
 | 45::cs=>-((xO cs:Nat):Int)
 | cs=>((xO cs:Nat):Int)
noncomputable def zi (i:Int):Str:=Str.ofString (toString i)
noncomputable def yF:List T->List T->List T
 | t::ts,u::us=>.tup [t,u]::yF ts us
 | _,_=>[]
noncomputable def newL (h:Bool)(m:Md)(ts:List T):Option W:=if h then (if leaves ts then some (.d,.lst ts) else none) else some (m.up,.lst ts)
noncomputable def a4 (n:Nat):Bool:=decide (n<=LIM)
noncomputable def oSem:Op->Bool->List W->Option W
 | .add,h,[(m,a),(n,b)]=>match a,b with
  | .int i,.int j=>some (.d,.int (i+j))
  | .str x,.str y=>if a4 (x.cps.size+y.cps.size) then some (.d,.str (x++y)) else none
  | .lst ts,.lst us=>if a4 (ts.length+us.length) then newL h (m.kid.meet n.kid) (ts++us) else none
  | .tup ts,.tup us=>if a4 (ts.length+us.length)&&!ts.isEmpty then some (.s,.tup (ts++us)) else none
  | _,_=>none
 | .sub,_,[(_,.int i),(_,.int j)]=>some (.d,.int (i-j))
 | .mul,h,[(m,a),(_,b)]=>match a,b with
  | .int i,.int j=>if (decide (i.natAbs < 18446744073709551616)) || (decide (j.natAbs < 18446744073709551616)) then some (.d,.int (i * j)) else none
  | .lst ts,.int k=>if decide (k.natAbs < 4611686018427387904)&&a4 (ts.length * k.toNat) then newL h .s (a0e k.toNat ts).flatten else none
  | _,_=>none
 | .fdiv,_,[(_,.int i),(_,.int j)]=>if decide (0 < j)&&decide (j < 1073741824) then some (.d,.int (i / j)) else none
 | .mod,_,[(_,.int i),(_,.int j)]=>if decide (0 < j) then some (.d,.int (i % j)) else none
 | .pow,_,[(_,.int i),(_,.int j)]=>if decide (0<=j)&&decide (j<=1000000)&&decide (i.natAbs < 18446744073709551616) then some (.d,.int (i ^ j.toNat)) else none
 | .fdivN,_,[(_,.int i),(_,.int j)]=>if (j != 0)&&decide (j.natAbs < 18446744073709551616) then some (.d,.int (i.fdiv j)) else none
 | .modN,_,[(_,.int i),(_,.int j)]=>if j != 0 then some (.d,.int (i.fmod j)) else none
 | .neg,_,[(_,.int i)]=>some (.d,.int (-i))
 | .eq,_,[(_,a),(_,b)]=>if decide (dp a<=64)&&decide (dp b<=64) then some (.d,.bl (eqT a b)) else none
 | .ne,_,[(_,a),(_,b)]=>if decide (dp a<=64)&&decide (dp b<=64) then some (.d,.bl (!eqT a b)) else none
 | .lt,_,[(_,.int i),(_,.int j)]=>some (.d,.bl (decide (i < j)))
 | .le,_,[(_,.int i),(_,.int j)]=>some (.d,.bl (decide (i<=j)))
 | .gt,_,[(_,.int i),(_,.int j)]=>some (.d,.bl (decide (j < i)))
 | .ge,_,[(_,.int i),(_,.int j)]=>some (.d,.bl (decide (j<=i)))
 | .is,_,[(_,a),(_,.non)]=>if a.isG then none else some (.d,.bl a.isN)
 | .isnot,_,[(_,a),(_,.non)]=>if a.isG then none else some (.d,.bl (!a.isN))
 | .ix,_,[(m,a),(_,.int i)]=>match a with
  | .lst ts=>(atI ts i).map fun t=>(m.kid,t)
  | .tup ts=>(atI ts i).map fun t=>(m.kid,t)
  | .str x=>(atI x.cps.toList i).map fun c=>(.d,.str ⟨#[c]⟩)
  | .scr ns=>(atI ns i).map fun n=>(.d,.int n)
  | _=>none
 | .sl,h,[(m,.lst ts)]=>newL h m.kid ts
 | .sl1,h,[(m,.lst ts),(_,.int i)]=>newL h m.kid (cut ts (some i) none)
 | .sl2,h,[(m,.lst ts),(_,.int i)]=>newL h m.kid (cut ts none (some i))
 | .sl3,h,[(m,.lst ts),(_,.int i),(_,.int j)]=>newL h m.kid (cut ts (some i) (some j))
 | .sl2,_,[(_,.scr ns),(_,.int i)]=>some (.d,.lst ((cut ns none (some i)).map T.int))
 | .sl1,_,[(_,.scr ns),(_,.int i)]=>some (.d,.lst ((cut ns (some i) none).map T.int))
 | .sl,_,[(_,.scr ns)]=>some (.d,.lst (ns.map T.int))
 | .sl1,_,[(_,.tup ts),(_,.int i)]=>some (.s,.tup (cut ts (some i) none))
 | .sl2,_,[(_,.tup ts),(_,.int i)]=>some (.s,.tup (cut ts none (some i)))
 | .sl3,_,[(_,.tup ts),(_,.int i),(_,.int j)]=>some (.s,.tup (cut ts (some i) (some j)))
 | .len,_,[(_,a)]=>match a with
  | .lst ts=>some (.d,.int ts.length)
  | .tup ts=>some (.d,.int ts.length)
  | .str x=>some (.d,.int x.cps.size)
  | .scr ns=>some (.d,.int ns.length)
  | .dct ks _=>some (.d,.int ks.length)
  | _=>none
 | .isI cs,_,[(_,a)]=>if a.isG then none else some (.d,.bl (cs.any fun c=>isOne c a))
 | .list,h,[(m,a)]=>match a with
  | .lst ts=>newL h m.kid ts
  | .tup ts=>newL h m.kid ts
  | .scr ns=>some (.d,.lst (ns.map T.int))
  | _=>none
 | .tuple,_,[(m,a)]=>match a with
  | .lst ts=>some (m.kid.up,.tup ts)
  | .tup ts=>some (m,.tup ts)
  | _=>none
 | .sum,_,[(_,.lst ts)]=>(ee ts).map fun ns=>(.d,.int ns.sum)
 | .all,_,[(_,.lst ts)]=>(boolsOf ts).map fun bs=>(.d,.bl (bs.all id))
 | .any,_,[(_,.lst ts)]=>(boolsOf ts).map fun bs=>(.d,.bl (bs.any id))
 | .max,_,[(_,.int i),(_,.int j)]=>some (.d,.int (if j > i then j else i))
 | .min,_,[(_,.int i),(_,.int j)]=>some (.d,.int (if j < i then j else i))
 | .rng,_,[(_,.int i),(_,.int j)]=>if decide (i.natAbs < 4611686018427387904)&&decide (j.natAbs < 4611686018427387904)&&a4 (j-i).toNat then some (.d,.lst ((a0T (j-i).toNat).map fun (k:Nat)=>T.int (i+k))) else none
 | .isin,_,[(_,a),(n,b)]=>(elems (n,b)).bind fun ts=>if flatT a&&ts.all flatT then some (.d,.bl (ts.any fun t=>eqT t a)) else none
 | .notin,_,[(_,a),(n,b)]=>(elems (n,b)).bind fun ts=>if flatT a&&ts.all flatT then some (.d,.bl (!ts.any fun t=>eqT t a)) else none
 | .int,_,[(_,.int i)]=>some (.d,.int i)
 | .int,_,[(_,.bl b)]=>some (.d,.int (b2i b))
 | .abs,_,[(_,.int i)]=>some (.d,.int i.natAbs)
 | .max1,_,[(_,.lst ts)]=>(ee ts).bind fun ns=>if ns.isEmpty then none else some (.d,.int (xa ns))
 | .min1,_,[(_,.lst ts)]=>(ee ts).bind fun ns=>if ns.isEmpty then none else some (.d,.int (xH ns))
 | .sorted,_,[(_,.lst ts)]=>(ee ts).bind fun ns=>if decide (ns.length < 64) then some (.d,.lst ((rQ ns).map T.int)) else none
 | .str,_,[(_,.int i)]=>if decide (i.natAbs < 10000000000000000000) then some (.d,.str (zi i)) else none
 | .intS,_,[(_,.str x)]=>if decide ((uB x).natAbs < 10000000000000000000)&&(zi (uB x)==x) then some (.d,.int (uB x)) else none
 | .join,_,[(_,.str z),(_,.lst ts)]=>(mh ts).bind fun ss=>if sOk (Str.join z ss)&&decide ((ss.map fun s=>s.cps.size+z.cps.size).sum<=LIM) then some (.d,.str (Str.join z ss)) else none
 | .split,_,[(_,.str z),(_,.str y)]=>if (y==Str.ofString " ")&&decide (z.cps.size+2<=LIM)&&(xQ z).all sOk then some (.d,.lst ((xQ z).map T.str)) else none
 | .mulS,_,[(_,.str x),(_,.int k)]=>if decide (0<=k)&&decide (k<=100)&&decide (x.cps.size<=1000) then some (.d,.str ⟨(a0e k.toNat x.cps.toList).flatten.toArray⟩) else none
 | .listS,_,[(_,.str x)]=>some (.d,.lst (x.cps.toList.map fun c=>T.str ⟨#[c]⟩))
 | .apd,_,[(m,.lst ts),(_,_)]=>if m==.s then none else if decide (ts.length < LIM) then some (.d,.non) else none
 | .count,_,[(_,.lst ts),(_,.bl b)]=>(boolsOf ts).map fun bs=>(.d,.int (bs.count b))
 | .isB,_,[(_,.bl a),(_,.bl b)]=>some (.d,.bl (a==b))
 | .isnB,_,[(_,.bl a),(_,.bl b)]=>some (.d,.bl (!(a==b)))
 | .lzip,_,[(m,a),(n,b)]=>(elems (m,a)).bind fun ts=>(elems (n,b)).bind fun us=>some ((m.kid.meet n.kid).up.up,.lst (yF ts us))
 | _,_,_=>none
noncomputable def rd:Env->Nat->Option W
 | [],_=>none
 | o::_,0=>o
 | _::η,i+1=>rd η i
noncomputable def wr:Env->Nat->Option W->Env
 | [],_,_=>[]
 | _::η,0,w=>w::η
 | o::η,i+1,w=>o::wr η i w
noncomputable abbrev put (η:Env)(i:Nat)(w:W):Env:=wr η i (some w)
noncomputable abbrev del (η:Env)(i:Nat):Env:=wr η i none
noncomputable def look:W->Option W
 | (.s,t)=>some (.s,t)
 | (_,t)=>if t.leaf=true then some (.d,t) else none
noncomputable def toS:Option W->Option W
 | some (_,t)=>some (.s,t)
 | none=>none
noncomputable def share:List Nat->Env->Env
 | [],η=>η
 | i::is,η=>share is (wr η i (toS (rd η i)))
noncomputable def lfO:Option W->Option W
 | some (_,t)=>if t.leaf=true then some (.d,t) else none
 | none=>none
noncomputable def d9:Env->Env
 | []=>[]
 | _::η=>none::d9 η
noncomputable def iN:List Nat->Env->Env->Env
 | [],_,η=>η
 | i::is,η0,η=>iN is η0 (wr η i (toS (rd η0 i)))
noncomputable def ek:List Nat->Env->Env->Env
 | [],_,η=>η
 | i::is,η0,η=>ek is η0 (wr η i (lfO (rd η0 i)))
noncomputable def pick (vs ls:List Nat)(η:Env):Env:=ek ls η (iN vs η (d9 η))
noncomputable def after (m:Md)(vs:List Nat)(η:Env):Env:=match m with
 | .d=>η
 | _=>share vs η
noncomputable def aW:List Nat->List W->Env->Option Env
 | [],[],η=>some η
 | i::is,w::ws,η=>aW is ws (put η i w)
 | _,_,_=>none
noncomputable def dW (m:Md):Nat->List T->List (List W)
 | _,[]=>[]
 | i,t::ts=>[(.d,.int i),(m,t)]::dW m (i+1) ts
noncomputable def yi (m n:Md):List T->List T->List (List W)
 | t::ts,u::us=>[(m,t),(n,u)]::yi m n ts us
 | _,_=>[]
noncomputable def bB:List T->Option (List (List W))
 | []=>some []
 | .tup [x,y]::ts=>(bB ts).map ([(.s,x),(.s,y)]::·)
 | _::_=>none
noncomputable def kH:List T->List T->List T->List (List W)
 | t::ts,u::us,v::vs=>[(.s,t),(.s,u),(.s,v)]::kH ts us vs
 | _,_,_=>[]
noncomputable def bC:Ik->List W->Option (List (List W))
 | .seq,[(_,.lst ts)]=>some (ts.map fun t=>[(.s,t)])
 | .seq,[(_,.tup ts)]=>some (ts.map fun t=>[(.s,t)])
 | .seq,[(_,.scr ns)]=>some (ns.map fun n=>[(.d,.int n)])
 | .rng,[(_,.int n)]=>if decide (n.natAbs < 4611686018427387904)&&a4 n.toNat then some ((a0T n.toNat).map fun (k:Nat)=>[(.d,.int k)]) else none
 | .rng,[(_,.int i),(_,.int j)]=>if decide (i.natAbs < 4611686018427387904)&&decide (j.natAbs < 4611686018427387904)&&a4 (j-i).toNat then some ((a0T (j-i).toNat).map fun (k:Nat)=>[(.d,.int (i+k))]) else none
 | .enm,[(_,.lst ts)]=>some (dW .s 0 ts)
 | .zip,[(m,a),(n,b)]=>(elems (m,a)).bind fun ts=>(elems (n,b)).bind fun us=>some (yi .s .s ts us)
 | .sq2,[(_,.lst ts)]=>bB ts
 | .zip3,[(_,.lst ts),(_,.lst us),(_,.lst vs)]=>some (kH ts us vs)
 | _,_=>none
noncomputable abbrev Call:=Nat->List W->Res (W×List W)
noncomputable abbrev RE:=Res (W×Env)
noncomputable def lf (m:Md)(t:T):Md:=if t.leaf=true then .d else m
noncomputable def eR:List W->Md
 | []=>.d
 | w::ws=>(lf w.1 w.2).meet (eR ws)
noncomputable def bb:List W->List T
 | []=>[]
 | w::ws=>w.2::bb ws
noncomputable def aw:List Nat->Env->Env
 | [],η=>η
 | i::is,η=>aw is (del η i)
noncomputable def ios:List E->List Nat
 | []=>[]
 | .io i::es=>i::ios es
 | _::es=>ios es
noncomputable def putAll:List Nat->List W->Env->Env
 | i::is,w::ws,η=>putAll is ws (put η i w)
 | _,_,η=>η
noncomputable def xR:W->List W->Option (W×W)
 | (.s,_),_=>none
 | (m,.lst ts),[]=>(ts.getLast?).map fun t=>((m.kid,t),(m,.lst ts.dropLast))
 | (m,.lst (t::ts)),[(_,.int 0)]=>some ((m.kid,t),(m,.lst ts))
 | _,_=>none
noncomputable def eU:W->W->Option W
 | (.s,_),_=>none
 | (m,.lst ts),(n,t)=>if ts.length < LIM then some ((m.kid.meet (lf n t)).up,.lst (ts++[t])) else none
 | _,_=>none
noncomputable def vL:W->W->Option W
 | (.s,_),_=>none
 | (m,.lst ts),(n,.lst us)=>if ts.length+us.length<=LIM then some ((m.kid.meet n.kid).up,.lst (ts++us)) else none
 | _,_=>none
noncomputable def cS:W->W->W->Option W
 | (.s,_),_,_=>none
 | (m,.lst ts),(_,.int j),(n,t)=>(ixN ts.length j).map fun k=>((m.kid.meet (lf n t)).up,.lst (ts.set k t))
 | _,_,_=>none
noncomputable def eV:Option W->Res Unit
 | some (_,.lst _)=>.ok ()
 | _=>.no
noncomputable def x9:W->Option (List W)
 | (m,.tup ts)=>some (ts.map fun t=>(m.kid,t))
 | _=>none
noncomputable def ret {α:Type}(η:Env)(o:Option α):Res (α×Env):=match o with
 | some a=>.ok (a,η)
 | none=>.no
noncomputable def onB {α:Type}:T->(Env->Res α)->(Env->Res α)->Env->Res α
 | .bl true,f,_,η=>f η
 | .bl false,_,g,η=>g η
 | _,_,_,_=>.no
noncomputable def onT {α:Type}(f g:Env->Res α)(p:W×Env):Res α:=match truth p.1.2 with
 | some true=>f p.2
 | some false=>g p.2
 | none=>.no
noncomputable def okW {α:Type}(a:α)(η:Env):Res (α×Env):=.ok (a,η)
noncomputable def iX (p:List W×Env):RE:=.ok (((eR p.1).up,.tup (bb p.1)),p.2)
noncomputable def lC (h:Bool)(p:List W×Env):RE:=.ok ((if h then (eR p.1).up else .o .s,.lst (bb p.1)),p.2)
noncomputable def kWk (m:Md)(p:W×Env):RE:=ret p.2 (if m.le p.1.1 then some (m,p.1.2) else none)
noncomputable def kOp (o:Op)(h:Bool)(p:List W×Env):RE:=ret p.2 (oSem o h p.1)
noncomputable def mY (f:Env->RE)(p:W×Env):RE:=onT f (okW p.1) p
noncomputable def kOr (f:Env->RE)(p:W×Env):RE:=onT (okW p.1) f p
noncomputable def jQ (p:W×Env):RE:=ret p.2 ((truth p.1.2).map fun b=>(.d,.bl (!b)))
noncomputable def kC3 (q:Op)(y:W)(z:W×Env):RE:=ret z.2 (oSem q false [y,z.1])
noncomputable def jk {α β:Type}(f:Env->Res (α×Env))(k:α×Env->Res β)(η:Env):Res β:=(f η).bind k
noncomputable def kC2 (o q:Op)(fc:Env->RE)(x:W)(y:W×Env):RE:=(ret y.2 (oSem o false [x,y.1])).bind fun k=>onB k.1.2 (jk fc (kC3 q y.1)) (okW (.d,.bl false)) k.2
noncomputable def kC1 (o q:Op)(fb fc:Env->RE)(x:W×Env):RE:=(fb x.2).bind (kC2 o q fc x.1)
noncomputable def ie (is:List Nat)(η:Env)(r:W×List W):RE:=.ok (r.1,putAll is r.2 η)
noncomputable def eh (C:Call)(f:Nat)(is:List Nat)(p:List W×Env):RE:=(C f p.1).bind (ie is p.2)
noncomputable def dD (p:W×Env):Res (Option W×Env):=.ok (some p.1,p.2)
noncomputable def cy (f:Env->RE)(η:Env):Res (Option W×Env):=(f η).bind dD
noncomputable def gX (c f:Env->RE)(η:Env):Res (Option W×Env):=(c η).bind (onT (cy f) (okW none))
noncomputable def aQ (tg:List Nat)(f:Env->Res (Option W×Env)):List (List W)->Env->List W->Res (List W×Env)
 | [],η,acc=>.ok (acc,η)
 | ws::r,η,acc=>(ofO (aW tg ws η)).bind fun η1=>(f η1).bind fun p=>aQ tg f r (aw tg p.2) (acc++p.1.toList)
noncomputable def okD (w:W):Bool:=w.1==.d || w.2.leaf
noncomputable def hZ (h:Bool)(q:List W×Env):RE:=ret q.2 (if h then (if q.1.all okD then some (.d,.lst (bb q.1)) else none) else some (.o .s,.lst (bb q.1)))
noncomputable def c7 (h:Bool)(k:Ik)(tg:List Nat)(f:Env->Res (Option W×Env))(p:List W×Env):RE:=(ret (aw tg p.2) (bC k p.1)).bind fun t=>(aQ tg f t.1 t.2 []).bind (hZ h)
noncomputable def nK (f:Env->Res (List W×Env))(η:Env)(k:List W×Env->RE)(_:Unit):RE:=(f η).bind k
noncomputable def qN (i:Nat)(p:List W×Env):RE:=(ofO ((rd p.2 i).bind fun w=>xR w p.1)).bind fun r=>.ok (r.1,put p.2 i r.2)
noncomputable def i9 (w:W)(q:List W×Env):Res (List W×Env):=.ok (w::q.1,q.2)
noncomputable def bc (f:Env->Res (List W×Env))(p:W×Env):Res (List W×Env):=(f p.2).bind (i9 p.1)
noncomputable def kI:List Nat->Md->T->Option (W×T)
 | [],m,t=>some ((m,t),.gone)
 | j::p,m,.lst ts=>(ts[j]?).bind fun t=>(kI p m.kid t).map fun r=>(r.1,.lst (ts.set j r.2))
 | j::p,m,.tup ts=>(ts[j]?).bind fun t=>(kI p m.kid t).map fun r=>(r.1,.tup (ts.set j r.2))
 | _::_,_,_=>none
noncomputable def rk (p:List Nat)(w:W):Option (W×W):=(kI p w.1 w.2).map fun r=>(r.1,(w.1,r.2))
noncomputable def yd (i:Nat)(η:Env)(r:W×W):RE:=.ok (r.1,put η i r.2)
noncomputable def j6 {α:Type}(tab:List (Str×α))(f:α->Env->RE)(p:W×Env):RE:=match p.1.2 with
 | .str x=>match tab.lookup x with
  | some a=>f a p.2
  | none=>.no
 | _=>.no
noncomputable def kCT (C:Call)(fa:Env->Res (List W×Env))(is:List Nat)(j:Nat)(η:Env):RE:=(fa η).bind (eh C j is)
noncomputable def kIn (neg:Bool)(ks:List Str)(p:W×Env):RE:=match p.1.2 with
 | .str x=>.ok ((.d,.bl (ks.contains x != neg)),p.2)
 | _=>.no
noncomputable def okS (t:T)(η:Env):RE:=.ok ((.s,t),η)
noncomputable def og (tab:List (Str×T))(p:W×Env):RE:=match p.1.2 with
 | .str x=>.ok ((.s,(tab.lookup x).getD .non),p.2)
 | _=>.no
noncomputable def kX (vs:List Nat)(η:Env)(p:W×Env):RE:=.ok ((lf p.1.1 p.1.2,p.1.2),after (lf p.1.1 p.1.2) vs η)
noncomputable def kIo (i:Nat)(p:List W×Env):Res (List W×Env):=(ofO (rd p.2 i)).bind fun w=>.ok (w::p.1,del p.2 i)
section
variable (C:Call)
mutual
noncomputable def evE:E->Env->RE
 | .var i,η=>ret η ((rd η i).bind look)
 | .mv i,η=>ret (del η i) (rd η i)
 | .io i,η=>ret (del η i) (rd η i)
 | .cst t,η=>.ok ((.d,t),η)
 | .glb _ t,η=>.ok ((.s,t),η)
 | .tup es,η=>(evL es η).bind iX
 | .lst h es,η=>(evL es η).bind (lC h)
 | .wk m e,η=>(evE e η).bind (kWk m)
 | .op o h es,η=>(evL es η).bind (kOp o h)
 | .and a b,η=>(evE a η).bind (mY (evE b))
 | .or a b,η=>(evE a η).bind (kOr (evE b))
 | .not a,η=>(evE a η).bind jQ
 | .ifx c a b,η=>(evE c η).bind (onT (evE a) (evE b))
 | .chain o q a b c,η=>(evE a η).bind (kC1 o q (evE b) (evE c))
 | .call f es,η=>(evA es η).bind (eh C f (ios es))
 | .comp h k src tg none elt,η=>(evL src η).bind (c7 h k tg (cy (evE elt)))
 | .comp h k src tg (some c) elt,η=>(evL src η).bind (c7 h k tg (gX (evE c) (evE elt)))
 | .pop i es,η=>(eV (rd η i)).bind (nK (evL es) η (qN i))
 | .lenV i,η=>ret η ((rd η i).bind fun w=>oSem .len false [w])
 | .tupA es,η=>(evA es η).bind iX
 | .qx vs ls e,η=>(evE e (pick vs ls η)).bind (kX vs η)
 | .mvP i p,η=>(ofO ((rd η i).bind (rk p))).bind (yd i η)
 | .callT tab k es,η=>(evE k η).bind (j6 tab (kCT C (evA es) (ios es)))
 | .inT neg ks e,η=>(evE e η).bind (kIn neg ks)
 | .ixT tab e,η=>(evE e η).bind (j6 tab okS)
 | .getT tab e,η=>(evE e η).bind (og tab)
noncomputable def evL:List E->Env->Res (List W×Env)
 | [],η=>.ok ([],η)
 | e::es,η=>(evE e η).bind (bc (evL es))
noncomputable def evA:List E->Env->Res (List W×Env)
 | [],η=>.ok ([],η)
 | .io i::es,η=>(evA es η).bind (kIo i)
 | e::es,η=>(evE e η).bind (bc (evA es))
end
noncomputable def kT (η:Env)(p:W×Env):Res (Bool×Env):=ret η (truth p.1.2)
noncomputable def kT2 (p:W×Env):Res (Bool×Env):=ret p.2 (truth p.1.2)
noncomputable def evX:X->E->Env->RE
 | .q vs ls,e,η=>(evE C e (pick vs ls η)).bind (kX vs η)
 | .l vs,e,η=>evE C e (share vs η)
noncomputable def evT:X->E->Env->Res (Bool×Env)
 | .q vs ls,e,η=>(evE C e (pick vs ls η)).bind (kT η)
 | .l vs,e,η=>(evE C e (share vs η)).bind kT2
noncomputable def Fl.of {α:Type}(η:Env):Res α->(α->Fl)->Fl
 | .ok a,f=>f a
 | .ex c x,_=>.ex c x η
 | .no,_=>.no
noncomputable def Fl.seq:Fl->(Env->Fl)->Fl
 | .nx η,f=>f η
 | z,_=>z
noncomputable def Fl.turn:Fl->(Env->Fl)->Fl
 | .nx η,f=>f η
 | .bk η,_=>.nx η
 | z,_=>z
noncomputable def onF:Bool->(Env->Fl)->(Env->Fl)->Env->Fl
 | true,f,_,η=>f η
 | false,_,g,η=>g η
noncomputable def dH (tg:List Nat)(f:Env->Fl):List (List W)->Env->Fl
 | [],η=>.nx η
 | ws::r,η=>Fl.of η (ofO (aW tg ws η)) fun η1=>Fl.turn (f η1) (dH tg f r)
noncomputable def kIf (f g:Env->Fl)(p:Bool×Env):Fl:=onF p.1 f g p.2
noncomputable def rN (f:Env->Fl)(g:Env->Fl)(η:Env):Fl:=Fl.turn (f η) g
noncomputable def v8 (c:Env->Res (Bool×Env))(f:Env->Fl):Nat->Env->Fl
 | 0,_=>.no
 | n+1,η=>Fl.of η (c η) (kIf (rN f (v8 c f n)) .nx)
noncomputable def wQ:Nat:=1000000000000
noncomputable def nxO (η:Env):Option Env->Fl
 | some η=>.nx η
 | none=>.no
noncomputable def pf (i:Nat)(p:W×Env):Fl:=.nx (put p.2 i p.1)
noncomputable def rO (is:List Nat)(p:W×Env):Fl:=nxO p.2 ((x9 p.1).bind fun ws=>aW is ws p.2)
noncomputable def nW (i:Nat)(p:W×Env):Fl:=nxO p.2 (((rd p.2 i).bind fun w=>eU w p.1).map fun w=>put p.2 i w)
noncomputable def vM (i:Nat)(p:W×Env):Fl:=nxO p.2 (((rd p.2 i).bind fun w=>vL w p.1).map fun w=>put p.2 i w)
noncomputable def kW (i:Nat)(x:W)(q:W×Env):Fl:=nxO q.2 (((rd q.2 i).bind fun w=>cS w q.1 x).map fun w=>put q.2 i w)
noncomputable def pq (i:Nat)(f:Env->RE)(η:Env)(p:W×Env):Fl:=Fl.of η (f p.2) (kW i p.1)
noncomputable def jR (f:Env->RE)(η:Env)(k:W×Env->Fl)(_:Unit):Fl:=Fl.of η (f η) k
noncomputable def kNx (p:W×Env):Fl:=.nx p.2
noncomputable def kRt (p:W×Env):Fl:=.rt p.1 p.2
noncomputable def il (tg:List Nat)(f:Env->Fl)(t:List (List W)×Env):Fl:=dH tg f t.1 t.2
noncomputable def oe (vs:List Nat)(k:Ik)(tg:List Nat)(f:Env->Fl)(η:Env)(p:List W×Env):Fl:=Fl.of η (ret (share vs η) (bC k p.1)) (il tg f)
noncomputable def jq (k:Ik)(tg:List Nat)(f:Env->Fl)(p:List W×Env):Fl:=Fl.of p.2 (ret p.2 (bC k p.1)) (il tg f)
mutual
noncomputable def evS:S->Env->Fl
 | .asg x i e,η=>Fl.of η (evX C x e η) (pf i)
 | .asgT x is e,η=>Fl.of η (evX C x e η) (rO is)
 | .setI x i k e,η=>Fl.of η (evX C x e η) (pq i (evX C x k) η)
 | .exp x e,η=>Fl.of η (evX C x e η) kNx
 | .app x i e,η=>Fl.of η (eV (rd η i)) (jR (evX C x e) η (nW i))
 | .ext x i e,η=>Fl.of η (eV (rd η i)) (jR (evX C x e) η (vM i))
 | .ret vs e,η=>Fl.of η (evE C e (share vs η)) kRt
 | .retN,η=>.rt (.d,.non) η
 | .ite x c a b,η=>Fl.of η (evT C x c η) (kIf (evSs a) (evSs b))
 | .forS vs ls k src tg body,η=>Fl.of η (evL C src (pick vs ls η)) (oe vs k tg (evSs body) η)
 | .forU k src tg body,η=>Fl.of η (evL C src η) (jq k tg (evSs body))
 | .whl x c body,η=>v8 (evT C x c) (evSs body) wQ η
 | .brk,η=>.bk η
 | .pas,η=>.nx η
 | .stop,_=>.no
 | .tri body,η=>evSs body η
noncomputable def evSs:List S->Env->Fl
 | [],η=>.nx η
 | s::r,η=>Fl.seq (evS s η) (evSs r)
end
end
noncomputable def backs:List Nat->Env->Option (List W)
 | [],_=>some []
 | i::is,η=>(rd η i).bind fun w=>(backs is η).bind fun ws=>some (w::ws)
noncomputable def n6 (w:W)(b:List W):Res (W×List W):=.ok (w,b)
noncomputable def Fl.out (io:List Nat):Fl->Res (W×List W)
 | .nx η=>(ofO (backs io η)).bind (n6 (.d,.non))
 | .rt w η=>(ofO (backs io η)).bind (n6 w)
 | .ex c x _=>.ex c x
 | _=>.no
noncomputable def runF (C:Call)(f:Fn)(ws:List W):Res (W×List W) :=
 if ws.length=f.ps then Fl.out f.io (evSs C f.body (ws.map some++a0e f.ns none)) else .no
noncomputable abbrev zN:=List Fn
noncomputable def uH (n:Nat):List W->Res (W×List W)
 | [(m,t)]=>if (lf m t==.d&&(decide (dp t<=n)&&decide (dp t<=64)))=true then .ok ((.d,.non),[]) else .no
 | _=>.no
noncomputable def rH:List Nat->List T->List T
 | [],_=>[]
 | n::ns,ts=>.lst (ts.take n)::rH ns (ts.drop n)
noncomputable def mq:List T->Option (List Nat)
 | []=>some []
 | .int (.ofNat n)::ts=>(mq ts).map (n::·)
 | _::_=>none
noncomputable def yU:List W->Res (W×List W)
 | [(_,.lst ls),(m,.lst ts)]=>(ofO (mq ls)).bind fun ns=>.ok ((m.kid.up.up,.lst (rH ns ts)),[])
 | _=>.no
noncomputable def callR (P:zN)(s r:Nat):Nat->Call
 | 0=>fun _ _=>.no
 | n+1=>fun f ws=>if f=s then uH n ws else if f=r then yU ws else (ofO P[f]?).bind fun d=>runF (callR P s r n) d ws
noncomputable abbrev zf:Fn:={ ps:=0,ns:=0,io:=[],body:=[.stop] }
theorem sA (C:Call)(i:Nat)(η:Env):evE C (.var i) η=ret η ((rd η i).bind look):=rfl
theorem u6 (C:Call)(i:Nat)(η:Env):evE C (.mv i) η=ret (del η i) (rd η i):=rfl
theorem vN (C:Call)(i:Nat)(η:Env):evE C (.io i) η=ret (del η i) (rd η i):=rfl
theorem uT (C:Call)(t:T)(η:Env):evE C (.cst t) η=.ok ((.d,t),η):=rfl
theorem wc (C:Call)(t:T)(x0:Str)(η:Env):evE C (.glb x0 t) η=.ok ((.s,t),η):=rfl
theorem sX (C:Call)(es:List E)(η:Env):evE C (.tup es) η=(evL C es η).bind iX:=rfl
theorem uQ (C:Call)(h:Bool)(es:List E)(η:Env):evE C (.lst h es) η=(evL C es η).bind (lC h):=rfl
theorem se (C:Call)(o:Op)(h:Bool)(es:List E)(η:Env):evE C (.op o h es) η=(evL C es η).bind (kOp o h):=rfl
theorem qH (C:Call)(a:E)(b:E)(η:Env):evE C (.and a b) η=(evE C a η).bind (mY (evE C b)):=rfl
theorem qY (C:Call)(a:E)(b:E)(η:Env):evE C (.or a b) η=(evE C a η).bind (kOr (evE C b)):=rfl
theorem oM (C:Call)(a:E)(η:Env):evE C (.not a) η=(evE C a η).bind jQ:=rfl
theorem oY (C:Call)(c:E)(a:E)(b:E)(η:Env):evE C (.ifx c a b) η=(evE C c η).bind (onT (evE C a) (evE C b)):=rfl
theorem pd (C:Call)(o:Op)(q:Op)(a:E)(b:E)(c:E)(η:Env):evE C (.chain o q a b c) η=(evE C a η).bind (kC1 o q (evE C b) (evE C c)):=rfl
theorem qf (C:Call)(f:Nat)(es:List E)(η:Env):evE C (.call f es) η=(evA C es η).bind (eh C f (ios es)):=rfl
theorem oQ (C:Call)(h:Bool)(k:Ik)(src:List E)(tg:List Nat)(elt:E)(η:Env):evE C (.comp h k src tg none elt) η=(evL C src η).bind (c7 h k tg (cy (evE C elt))):=rfl
theorem oz (C:Call)(h:Bool)(k:Ik)(src:List E)(tg:List Nat)(c:E)(elt:E)(η:Env):evE C (.comp h k src tg (some c) elt) η=(evL C src η).bind (c7 h k tg (gX (evE C c) (evE C elt))):=rfl
theorem pY (C:Call)(i:Nat)(es:List E)(η:Env):evE C (.pop i es) η=(eV (rd η i)).bind (nK (evL C es) η (qN i)):=rfl
theorem kg (C:Call)(neg:Bool)(ks:List Str)(e:E)(η:Env):evE C (.inT neg ks e) η=(evE C e η).bind (kIn neg ks):=rfl
theorem jI (C:Call)(neg:Bool)(ks:List Str)(e:E)(es:List E)(η:Env):evA C (.inT neg ks e::es) η=(evE C (.inT neg ks e) η).bind (bc (evA C es)):=rfl
theorem u9 (h:Bool)(m n:Md)(ts:List T)(i:Int):oSem .sl2 h [(m,.lst ts),(n,.int i)]=newL h m.kid (cut ts none (some i)):=rfl
theorem uq (h:Bool)(m n:Md)(ts:List T)(i:Int):oSem .sl1 h [(m,.lst ts),(n,.int i)]=newL h m.kid (cut ts (some i) none):=rfl
theorem vz (h:Bool)(m n:Md)(ts:List T)(k:Int):oSem .mul h [(m,.lst ts),(n,.int k)]=if decide (k.natAbs < 4611686018427387904)&&a4 (ts.length * k.toNat) then newL h .s (a0e k.toNat ts).flatten else none:=rfl
theorem xK (h:Bool)(m:Md)(ts:List T):oSem .any h [(m,.lst ts)]=(boolsOf ts).map fun bs=>(.d,.bl (bs.any id)):=rfl
theorem zd (h:Bool)(m n:Md)(i j:Int):oSem .max h [(m,.int i),(n,.int j)]=some (.d,.int (if j > i then j else i)):=rfl
theorem yt (m:Md)(ts:List T):bC .enm [(m,.lst ts)]=some (dW .s 0 ts):=rfl
noncomputable def lkM:Md->Md
 | .s=>.s | _=>.d
theorem Ap:lkM .s=.s:=rfl
theorem AH:lkM .d=.d:=rfl
theorem AM (m:Md):lkM (.o m)=.d:=rfl
theorem yx (m:Md)(i:Int):look (m,.int i)=some (lkM m,.int i):=by cases m<;>rfl
theorem zq (m:Md)(b:Bool):look (m,.bl b)=some (lkM m,.bl b):=by cases m<;>rfl
theorem zc (m:Md)(x:Str):look (m,.str x)=some (lkM m,.str x):=by cases m<;>rfl
theorem ya (m:Md):look (m,.non)=some (lkM m,.non):=by cases m<;>rfl
theorem uV (m n k:Md)(ts us vs:List T):bC .zip3 [(m,.lst ts),(n,.lst us),(k,.lst vs)]=some (kH ts us vs):=rfl
theorem zX (neg:Bool)(ks:List Str)(m:Md)(x:Str)(η:Env):kIn neg ks ((m,.str x),η)=.ok ((.d,.bl (ks.contains x != neg)),η):=rfl
theorem sj (C:Call)(η:Env):evA C [] η=.ok ([],η):=rfl
theorem tK (C:Call)(i:Nat)(es:List E)(η:Env):evA C (.io i::es) η=(evA C es η).bind (kIo i):=rfl
theorem j2 (C:Call)(i:Nat)(es:List E)(η:Env):evA C (.var i::es) η=(evE C (.var i) η).bind (bc (evA C es)):=rfl
theorem lU (C:Call)(i:Nat)(es:List E)(η:Env):evA C (.mv i::es) η=(evE C (.mv i) η).bind (bc (evA C es)):=rfl
theorem jM (C:Call)(t:T)(es:List E)(η:Env):evA C (.cst t::es) η=(evE C (.cst t) η).bind (bc (evA C es)):=rfl
theorem j9 (C:Call)(x:Str)(t:T)(es:List E)(η:Env):evA C (.glb x t::es) η=(evE C (.glb x t) η).bind (bc (evA C es)):=rfl
theorem jY (C:Call)(l:List E)(es:List E)(η:Env):evA C (.tup l::es) η=(evE C (.tup l) η).bind (bc (evA C es)):=rfl
theorem kb (C:Call)(h:Bool)(l:List E)(es:List E)(η:Env):evA C (.lst h l::es) η=(evE C (.lst h l) η).bind (bc (evA C es)):=rfl
theorem lK (C:Call)(o:Op)(h:Bool)(l:List E)(es:List E)(η:Env):evA C (.op o h l::es) η=(evE C (.op o h l) η).bind (bc (evA C es)):=rfl
theorem jJ (C:Call)(a b:E)(es:List E)(η:Env):evA C (.and a b::es) η=(evE C (.and a b) η).bind (bc (evA C es)):=rfl
theorem mH (C:Call)(a b:E)(es:List E)(η:Env):evA C (.or a b::es) η=(evE C (.or a b) η).bind (bc (evA C es)):=rfl
theorem jL (C:Call)(a:E)(es:List E)(η:Env):evA C (.not a::es) η=(evE C (.not a) η).bind (bc (evA C es)):=rfl
theorem jU (C:Call)(c a b:E)(es:List E)(η:Env):evA C (.ifx c a b::es) η=(evE C (.ifx c a b) η).bind (bc (evA C es)):=rfl
theorem iG (C:Call)(f:Nat)(l:List E)(es:List E)(η:Env):evA C (.call f l::es) η=(evE C (.call f l) η).bind (bc (evA C es)):=rfl
theorem iM (C:Call)(h:Bool)(k:Ik)(src:List E)(tg:List Nat)(cnd:Option E)(elt:E)(es:List E)(η:Env):evA C (.comp h k src tg cnd elt::es) η=(evE C (.comp h k src tg cnd elt) η).bind (bc (evA C es)):=rfl
theorem vD {C:Call}{e:E}{es:List E}{η:Env}(he:∀ i,e≠.io i):evA C (e::es) η=(evE C e η).bind (bc (evA C es)):=by
 cases e with
 | io i=>exact absurd rfl (he i)
 | _=>rfl
theorem pR (C:Call)(η:Env):evL C ([]) η=.ok ([],η):=rfl
theorem pS (C:Call)(e:E)(es:List E)(η:Env):evL C (e::es) η=(evE C e η).bind (bc (evL C es)):=rfl
theorem ox (C:Call)(x:X)(i:Nat)(e:E)(η:Env):evS C (.asg x i e) η=Fl.of η (evX C x e η) (pf i):=rfl
theorem qQ (C:Call)(x:X)(is:List Nat)(e:E)(η:Env):evS C (.asgT x is e) η=Fl.of η (evX C x e η) (rO is):=rfl
theorem pO (C:Call)(x:X)(i:Nat)(k:E)(e:E)(η:Env):evS C (.setI x i k e) η=Fl.of η (evX C x e η) (pq i (evX C x k) η):=rfl
theorem pQ (C:Call)(x:X)(e:E)(η:Env):evS C (.exp x e) η=Fl.of η (evX C x e η) kNx:=rfl
theorem oZ (C:Call)(x:X)(i:Nat)(e:E)(η:Env):evS C (.app x i e) η=Fl.of η (eV (rd η i)) (jR (evX C x e) η (nW i)):=rfl
theorem pK (C:Call)(x:X)(i:Nat)(e:E)(η:Env):evS C (.ext x i e) η=Fl.of η (eV (rd η i)) (jR (evX C x e) η (vM i)):=rfl
theorem oP (C:Call)(vs:List Nat)(e:E)(η:Env):evS C (.ret vs e) η=Fl.of η (evE C e (share vs η)) kRt:=rfl
theorem q4 (C:Call)(η:Env):evS C (.retN) η=.rt (.d,.non) η:=rfl
theorem pw (C:Call)(x:X)(c:E)(a:List S)(b:List S)(η:Env):evS C (.ite x c a b) η=Fl.of η (evT C x c η) (kIf (evSs C a) (evSs C b)):=rfl
theorem lJ (C:Call)(k:Ik)(src:List E)(tg:List Nat)(body:List S)(η:Env):evS C (.forU k src tg body) η=Fl.of η (evL C src η) (jq k tg (evSs C body)):=rfl
theorem pC (C:Call)(vs:List Nat)(ls:List Nat)(k:Ik)(src:List E)(tg:List Nat)(body:List S)(η:Env):evS C (.forS vs ls k src tg body) η=Fl.of η (evL C src (pick vs ls η)) (oe vs k tg (evSs C body) η):=rfl
theorem pG (C:Call)(x:X)(c:E)(body:List S)(η:Env):evS C (.whl x c body) η=v8 (evT C x c) (evSs C body) wQ η:=rfl
theorem qb (C:Call)(η:Env):evS C (.brk) η=.bk η:=rfl
theorem qS (C:Call)(η:Env):evS C (.pas) η=.nx η:=rfl
theorem my (C:Call)(η:Env):evSs C ([]) η=.nx η:=rfl
theorem lS (C:Call)(s:S)(r:List S)(η:Env):evSs C (s::r) η=Fl.seq (evS C s η) (evSs C r):=rfl
theorem pP (C:Call)(vs:List Nat)(ls:List Nat)(e:E)(η:Env):evX C (.q vs ls) e η=(evE C e (pick vs ls η)).bind (kX vs η):=rfl
theorem p8 (C:Call)(vs:List Nat)(e:E)(η:Env):evX C (.l vs) e η=evE C e (share vs η):=rfl
theorem q8 (C:Call)(vs:List Nat)(ls:List Nat)(e:E)(η:Env):evT C (.q vs ls) e η=(evE C e (pick vs ls η)).bind (kT η):=rfl
theorem n9 (C:Call)(vs:List Nat)(e:E)(η:Env):evT C (.l vs) e η=(evE C e (share vs η)).bind kT2:=rfl
theorem ug {α β:Type}(a:α)(f:α->Res β):(Res.ok a).bind f=f a:=rfl
theorem zY {α:Type}(η:Env)(a:α)(f:α->Fl):Fl.of η (.ok a) f=f a:=rfl
theorem vg (η:Env)(f:Env->Fl):Fl.seq (.nx η) f=f η:=rfl
theorem wG (w:W)(η:Env)(f:Env->Fl):Fl.seq (.rt w η) f=.rt w η:=rfl
theorem td (η:Env)(f:Env->Fl):Fl.seq (.bk η) f=.bk η:=rfl
theorem qI (η:Env)(f:Env->Fl):Fl.turn (.nx η) f=f η:=rfl
theorem qg (w:W)(η:Env)(f:Env->Fl):Fl.turn (.rt w η) f=.rt w η:=rfl
theorem oE (η:Env)(f:Env->Fl):Fl.turn (.bk η) f=.nx η:=rfl
theorem tv {α:Type}(f g:Env->Res α)(η:Env):onB (.bl true) f g η=f η:=rfl
theorem rZ {α:Type}(f g:Env->Res α)(η:Env):onB (.bl false) f g η=g η:=rfl
theorem vn {α:Type}(f g:Env->Res α)(m:Md)(b:Bool)(η:Env):onT f g ((m,.bl b),η)=onB (.bl b) f g η:=by cases b<;>rfl
theorem uO {α:Type}(f g:Env->Res α)(m:Md)(η:Env):onT f g ((m,.bl true),η)=f η:=rfl
theorem wz {α:Type}(f g:Env->Res α)(m:Md)(η:Env):onT f g ((m,.bl false),η)=g η:=rfl
theorem vP (f g:Env->Fl)(η:Env):onF true f g η=f η:=rfl
theorem sR (f g:Env->Fl)(η:Env):onF false f g η=g η:=rfl
theorem xX {α:Type}(a:α):ofO (some a)=.ok a:=rfl
theorem xY {α:Type}(η:Env)(a:α):ret η (some a)=.ok (a,η):=rfl
theorem yP (o:Option W)(η:Env):rd (o::η) 0=o:=rfl
theorem yu (o:Option W)(η:Env)(i:Nat):rd (o::η) (i+1)=rd η i:=rfl
theorem zw (o w:Option W)(η:Env):wr (o::η) 0 w=w::η:=rfl
theorem yn (o w:Option W)(η:Env)(i:Nat):wr (o::η) (i+1) w=o::wr η i w:=rfl
theorem p6 (t:T):look (.s,t)=some (.s,t):=rfl
theorem qo (m:Md)(i:Int):(look (.d,.int i))=some (.d,.int i):=rfl
theorem qj (m:Md)(b:Bool):(look (.d,.bl b))=some (.d,.bl b):=rfl
theorem ph (x:Str):(look (.d,.str x))=some (.d,.str x):=rfl
theorem qM:(look (.d,.non))=some (.d,.non):=rfl
theorem xI (m:Md)(t:T):toS (some (m,t))=some (.s,t):=rfl
theorem uh:toS none=none:=rfl
theorem lW (η:Env):share [] η=η:=rfl
theorem mE (i:Nat)(is:List Nat)(η:Env):share (i::is) η=share is (wr η i (toS (rd η i))):=rfl
theorem mj:d9 []=[]:=rfl
theorem nh (o:Option W)(η:Env):d9 (o::η)=none::d9 η:=rfl
theorem vj (vs ls:List Nat)(η:Env):pick vs ls η=ek ls η (iN vs η (d9 η)):=rfl
theorem qz (η0 η:Env):iN [] η0 η=η:=rfl
theorem qA (i:Nat)(is:List Nat)(η0 η:Env):iN (i::is) η0 η=iN is η0 (wr η i (toS (rd η0 i))):=rfl
theorem mS (η0 η:Env):ek [] η0 η=η:=rfl
theorem k5 (i:Nat)(is:List Nat)(η0 η:Env):ek (i::is) η0 η=ek is η0 (wr η i (lfO (rd η0 i))):=rfl
theorem xj (m:Md)(i:Int):lfO (some (m,.int i))=some (.d,.int i):=rfl
theorem yB (m:Md)(b:Bool):lfO (some (m,.bl b))=some (.d,.bl b):=rfl
theorem zr (m:Md)(x:Str):lfO (some (m,.str x))=some (.d,.str x):=rfl
theorem wZ (m:Md):lfO (some (m,.non))=some (.d,.non):=rfl
theorem kQ (vs:List Nat)(η:Env):after .d vs η=η:=rfl
theorem lY (vs:List Nat)(η:Env):after .s vs η=share vs η:=rfl
theorem kG (m:Md)(vs:List Nat)(η:Env):after (.o m) vs η=share vs η:=rfl
theorem uu (m:Md)(i:Int):lf m (.int i)=.d:=rfl
theorem uc (m:Md)(b:Bool):lf m (.bl b)=.d:=rfl
theorem wD (m:Md)(x:Str):lf m (.str x)=.d:=rfl
theorem sk (m:Md):lf m .non=.d:=rfl
theorem tD (m:Md)(ts:List T):lf m (.lst ts)=m:=rfl
theorem uz (m:Md)(ts:List T):lf m (.tup ts)=m:=rfl
theorem vZ (t:T):lf .d t=.d:=by unfold lf; split<;>rfl
theorem sE (m:Md):Md.s.le m=true:=by cases m<;>rfl
theorem qV:Md.d.le .d=true:=rfl
theorem pU (m:Md):(Md.o m).le .d=true:=rfl
theorem oA (m n:Md):(Md.o m).le (.o n)=m.le n:=rfl
theorem vf (h:Bool)(m n:Md)(i j:Int):oSem .add h [(m,.int i),(n,.int j)]=some (.d,.int (i+j)):=rfl
theorem lD (h:Bool)(m n:Md)(ts us:List T):oSem .add h [(m,.lst ts),(n,.lst us)]=if a4 (ts.length+us.length) then newL h (m.kid.meet n.kid) (ts++us) else none:=rfl
theorem lO (h:Bool)(m n:Md)(x y:Str):oSem .add h [(m,.str x),(n,.str y)]=if a4 (x.cps.size+y.cps.size) then some (.d,.str (x++y)) else none:=rfl
theorem nX (h:Bool)(m n:Md)(ts us:List T):oSem .add h [(m,.tup ts),(n,.tup us)]=if a4 (ts.length+us.length)&&!ts.isEmpty then some (.s,.tup (ts++us)) else none:=rfl
theorem xF (h:Bool)(m n:Md)(i j:Int):oSem .sub h [(m,.int i),(n,.int j)]=some (.d,.int (i-j)):=rfl
theorem nA (h:Bool)(m n:Md)(i j:Int):oSem .mul h [(m,.int i),(n,.int j)]=if (decide (i.natAbs < 18446744073709551616)) || (decide (j.natAbs < 18446744073709551616)) then some (.d,.int (i * j)) else none:=rfl
theorem nH (h:Bool)(m n:Md)(i j:Int):oSem .fdiv h [(m,.int i),(n,.int j)]=if decide (0 < j)&&decide (j < 1073741824) then some (.d,.int (i / j)) else none:=rfl
theorem rS (h:Bool)(m n:Md)(i j:Int):oSem .mod h [(m,.int i),(n,.int j)]=if decide (0 < j) then some (.d,.int (i % j)) else none:=rfl
theorem xC (h:Bool)(m n:Md)(i j:Int):oSem .pow h [(m,.int i),(n,.int j)]=if decide (0<=j)&&decide (j<=1000000)&&decide (i.natAbs < 18446744073709551616) then some (.d,.int (i ^ j.toNat)) else none:=rfl
theorem lg (h:Bool)(m n:Md)(a b:T)(ha:dp a<=64)(hb:dp b<=64):oSem .eq h [(m,a),(n,b)]=some (.d,.bl (eqT a b)):=by
 show (if _ then _ else _)=_
 rw [decide_eq_true ha,decide_eq_true hb]; rfl
theorem AN (h:Bool)(m n:Md)(a b:T)(ha:dp a<=64)(hb:dp b<=64):oSem .ne h [(m,a),(n,b)]=some (.d,.bl (!eqT a b)):=by
 show (if _ then _ else _)=_
 rw [decide_eq_true ha,decide_eq_true hb]; rfl
theorem vE (h:Bool)(m n:Md)(i j:Int):oSem .eq h [(m,.int i),(n,.int j)]=some (.d,.bl (i==j)):=rfl
theorem vH (h:Bool)(m n:Md)(x y:Str):oSem .eq h [(m,.str x),(n,.str y)]=some (.d,.bl (x==y)):=rfl
theorem uE (h:Bool)(m n:Md)(a b:Bool):oSem .eq h [(m,.bl a),(n,.bl b)]=some (.d,.bl (a==b)):=rfl
theorem tJ (h:Bool)(m n:Md)(i j:Int):oSem .ne h [(m,.int i),(n,.int j)]=some (.d,.bl (!(i==j))):=rfl
theorem tQ (h:Bool)(m n:Md)(x y:Str):oSem .ne h [(m,.str x),(n,.str y)]=some (.d,.bl (!(x==y))):=rfl
theorem sP (h:Bool)(m n:Md)(a b:Bool):oSem .ne h [(m,.bl a),(n,.bl b)]=some (.d,.bl (!(a==b))):=rfl
theorem AX (h:Bool)(m n:Md)(i j:Int):oSem .lt h [(m,.int i),(n,.int j)]=some (.d,.bl (decide (i < j))):=rfl
theorem As (h:Bool)(m n:Md)(i j:Int):oSem .le h [(m,.int i),(n,.int j)]=some (.d,.bl (decide (i<=j))):=rfl
theorem zU (h:Bool)(m n:Md)(i j:Int):oSem .gt h [(m,.int i),(n,.int j)]=some (.d,.bl (decide (j < i))):=rfl
theorem zZ (h:Bool)(m n:Md)(i j:Int):oSem .ge h [(m,.int i),(n,.int j)]=some (.d,.bl (decide (j<=i))):=rfl
theorem pL (h:Bool)(m n:Md)(a:T):oSem .isnot h [(m,a),(n,.non)]=if a.isG then none else some (.d,.bl (!a.isN)):=rfl
theorem yH (h:Bool)(m n:Md)(ts:List T)(i:Int):oSem .ix h [(m,.lst ts),(n,.int i)]=(atI ts i).map fun t=>(m.kid,t):=rfl
theorem wN (h:Bool)(m n:Md)(ts:List T)(i:Int):oSem .ix h [(m,.tup ts),(n,.int i)]=(atI ts i).map fun t=>(m.kid,t):=rfl
theorem sD (h:Bool)(m:Md)(ts:List T):oSem .len h [(m,.lst ts)]=some (.d,.int ts.length):=rfl
theorem tw (h:Bool)(m:Md)(ts:List T):oSem .len h [(m,.tup ts)]=some (.d,.int ts.length):=rfl
theorem vX (h:Bool)(m:Md)(ns:List Int):oSem .len h [(m,.scr ns)]=some (.d,.int ns.length):=rfl
theorem xo (h:Bool)(m n:Md)(ns:List Int)(i:Int):oSem .ix h [(m,.scr ns),(n,.int i)]=(atI ns i).map fun n=>(.d,.int n):=rfl
theorem wJ (h:Bool)(m n:Md)(ns:List Int)(i:Int):oSem .sl2 h [(m,.scr ns),(n,.int i)]=some (.d,.lst ((cut ns none (some i)).map T.int)):=rfl
theorem rW (m:Md)(ns:List Int):lf m (.scr ns)=.d:=rfl
theorem wM (m:Md)(ns:List Int):lfO (some (m,.scr ns))=some (.d,.scr ns):=rfl
theorem qa (ns:List Int):look (.d,.scr ns)=some (.d,.scr ns):=rfl
theorem vV (h:Bool)(m:Md)(x:Str):oSem .len h [(m,.str x)]=some (.d,.int x.cps.size):=rfl
theorem y0 (cs:List String)(h:Bool)(m:Md)(a:T):oSem (.isI cs) h [(m,a)]=if a.isG then none else some (.d,.bl (cs.any fun c=>isOne c a)):=rfl
theorem yg:T.isG .non=false:=rfl
theorem Ao (b:Bool):T.isG (.bl b)=false:=rfl
theorem xn (i:Int):T.isG (.int i)=false:=rfl
theorem zy (x:Str):T.isG (.str x)=false:=rfl
theorem yb (ts:List T):T.isG (.tup ts)=false:=rfl
theorem xi (ts:List T):T.isG (.lst ts)=false:=rfl
theorem xU (ns:List Int):T.isG (.scr ns)=false:=rfl
theorem y6:T.isN .non=true:=rfl
theorem Aj (b:Bool):T.isN (.bl b)=false:=rfl
theorem wU (i:Int):T.isN (.int i)=false:=rfl
theorem yT (x:Str):T.isN (.str x)=false:=rfl
theorem zk (ts:List T):T.isN (.tup ts)=false:=rfl
theorem zt (ts:List T):T.isN (.lst ts)=false:=rfl
theorem qJ (h:Bool)(m:Md)(ts:List T):oSem .list h [(m,.lst ts)]=newL h m.kid ts:=rfl
theorem oC (h:Bool)(m:Md)(ts:List T):oSem .list h [(m,.tup ts)]=newL h m.kid ts:=rfl
theorem sv (h:Bool)(m n:Md)(a:T)(ts:List T):oSem .isin h [(m,a),(n,.tup ts)]=if flatT a&&ts.all flatT then some (.d,.bl (ts.any fun t=>eqT t a)) else none:=rfl
theorem pk (h:Bool)(m n:Md)(a:T)(ts:List T):oSem .isin h [(m,a),(n,.lst ts)]=if flatT a&&ts.all flatT then some (.d,.bl (ts.any fun t=>eqT t a)) else none:=rfl
theorem s8 (h:Bool)(m:Md)(b:Bool):oSem .int h [(m,.bl b)]=some (.d,.int (b2i b)):=rfl
theorem vW (h:Bool)(m:Md)(i:Int):oSem .int h [(m,.int i)]=some (.d,.int i):=rfl
theorem sF (h:Bool)(m n:Md)(x:Str)(k:Int):oSem .mulS h [(m,.str x),(n,.int k)]=if decide (0<=k)&&decide (k<=100)&&decide (x.cps.size<=1000) then some (.d,.str ⟨(a0e k.toNat x.cps.toList).flatten.toArray⟩) else none:=rfl
theorem pA (h:Bool)(m:Md)(x:Str):oSem .listS h [(m,.str x)]=some (.d,.lst (x.cps.toList.map fun c=>T.str ⟨#[c]⟩)):=rfl
theorem qk (h:Bool)(m n:Md)(i j:Int):oSem .fdivN h [(m,.int i),(n,.int j)]=if (j != 0)&&decide (j.natAbs < 18446744073709551616) then some (.d,.int (i.fdiv j)) else none:=rfl
theorem uk (h:Bool)(m n:Md)(i j:Int):oSem .modN h [(m,.int i),(n,.int j)]=if j != 0 then some (.d,.int (i.fmod j)) else none:=rfl
theorem xV (m:Md)(ts:List T):bC .sq2 [(m,.lst ts)]=bB ts:=rfl
theorem uP (h:Bool)(m:Md)(ts:List T):oSem .tuple h [(m,.lst ts)]=some (m.kid.up,.tup ts):=rfl
theorem zp (h:Bool)(m:Md)(ts:List T):oSem .all h [(m,.lst ts)]=(boolsOf ts).map fun bs=>(.d,.bl (bs.all id)):=rfl
theorem sZ (m:Md)(ts:List T):newL true m ts=if leaves ts then some (.d,.lst ts) else none:=rfl
theorem wd (m:Md)(ts:List T):newL false m ts=some (m.up,.lst ts):=rfl
theorem uJ (m:Md)(ts:List T):bC .seq [(m,.lst ts)]=some (ts.map fun t=>[(.s,t)]):=rfl
theorem v7 (m:Md)(ts:List T):bC .seq [(m,.tup ts)]=some (ts.map fun t=>[(.s,t)]):=rfl
theorem mV (m:Md)(n:Int):bC .rng [(m,.int n)]=if decide (n.natAbs < 4611686018427387904)&&a4 n.toNat then some ((a0T n.toNat).map fun (k:Nat)=>[(.d,.int k)]) else none:=rfl
theorem kN (η:Env):aW [] [] η=some η:=rfl
theorem mG (i:Nat)(is:List Nat)(w:W)(ws:List W)(η:Env):aW (i::is) (w::ws) η=aW is ws (put η i w):=rfl
theorem yZ {α β:Type}(f:α->β)(a:α):(some a).map f=some (f a):=rfl
theorem lz (b:Bool):truth (.bl b)=some b:=rfl
theorem lq (i:Int):truth (.int i)=some (i != 0):=rfl
theorem qr {α β:Type}(a:α)(f:α->Option β):(some a).bind f=f a:=rfl
theorem oU:Md.s.kid=.s:=rfl
theorem q5:Md.d.kid=.d:=rfl
theorem p7 (m:Md):(Md.o m).kid=m:=rfl
theorem vR:Md.s.up=.o .s:=rfl
theorem vJ:Md.d.up=.d:=rfl
theorem wm (m:Md):(Md.o m).up=.o (.o m):=rfl
theorem nO (m:Md):Md.s.meet m=.s:=by cases m<;>rfl
theorem cV (m:Md):Md.d.meet m=m:=by cases m<;>rfl
theorem kn (m:Md):(Md.o m).meet .s=.s:=rfl
theorem jV (m:Md):(Md.o m).meet .d=.o m:=rfl
theorem ki (m n:Md):(Md.o m).meet (.o n)=.o (m.meet n):=rfl
theorem rX (n:Md)(ts:List T)(t:T):eU (.d,.lst ts) (n,t)=if ts.length < LIM then some ((lf n t).up,.lst (ts++[t])) else none:=by show (if _ then some ((Md.d.meet _).up,_) else none)=_; rw [cV]
theorem uI (m n:Md)(ts:List T)(t:T):eU (.o m,.lst ts) (n,t)=if ts.length < LIM then some ((m.meet (lf n t)).up,.lst (ts++[t])) else none:=rfl
theorem tH (n:Md)(ts us:List T):vL (.d,.lst ts) (n,.lst us)=if ts.length+us.length<=LIM then some (n.kid.up,.lst (ts++us)) else none:=by show (if _ then some ((Md.d.meet _).up,_) else none)=_; rw [cV]
theorem vB (m n:Md)(ts us:List T):vL (.o m,.lst ts) (n,.lst us)=if ts.length+us.length<=LIM then some ((m.meet n.kid).up,.lst (ts++us)) else none:=rfl
theorem u7 (l n:Md)(ts:List T)(t:T)(j:Int):cS (.d,.lst ts) (l,.int j) (n,t)=(ixN ts.length j).map fun k=>((lf n t).up,.lst (ts.set k t)):=by show ((ixN ts.length j).map fun k=>((Md.d.meet _).up,_))=_; rw [cV]
theorem u0 (m l n:Md)(ts:List T)(t:T)(j:Int):cS (.o m,.lst ts) (l,.int j) (n,t)=(ixN ts.length j).map fun k=>((m.meet (lf n t)).up,.lst (ts.set k t)):=rfl
theorem vO (m:Md)(ts:List T):eV (some (m,.lst ts))=.ok ():=rfl
theorem uK (m:Md)(ts:List T):x9 (m,.tup ts)=some (ts.map fun t=>(m.kid,t)):=rfl
theorem yQ (η η':Env):nxO η (some η')=.nx η':=rfl
theorem nV (η:Env):backs [] η=some []:=rfl
theorem kJ (i:Nat)(is:List Nat)(η:Env):backs (i::is) η=(rd η i).bind fun w=>(backs is η).bind fun ws=>some (w::ws):=rfl
theorem vb (io:List Nat)(η:Env):Fl.out io (.nx η)=(ofO (backs io η)).bind (n6 (.d,.non)):=rfl
theorem vc (io:List Nat)(w:W)(η:Env):Fl.out io (.rt w η)=(ofO (backs io η)).bind (n6 w):=rfl
theorem x_run (C:Call)(f:Fn)(ws:List W)(h:ws.length=f.ps):runF C f ws=Fl.out f.io (evSs C f.body (ws.map some++a0e f.ns none)):=if_pos h
theorem at0 {α:Type}(a:α)(l:List α):atI (a::l) 0=some a:=by simp [atI,ixN]
theorem atN {α:Type}{xs:List α}{i:Int}{n:Nat}{a:α}(hi:i=n)(h:xs[n]?=some a):atI xs i=some a:=by
 subst hi
 have:=(a0v.mp h).1
 rw [atI,ixN,if_pos (by omega),if_pos (by omega)]
 exact h
theorem at1 {α:Type}(a b:α)(l:List α):atI (a::b::l) 1=some b:=atN (n:=1) rfl rfl
theorem at2 {α:Type}(a b c:α)(l:List α):atI (a::b::c::l) 2=some c:=atN (n:=2) rfl rfl
theorem at3 {α:Type}(a b c d:α)(l:List α):atI (a::b::c::d::l) 3=some d:=atN (n:=3) rfl rfl
theorem at4 {α:Type}(a b c d e:α)(l:List α):atI (a::b::c::d::e::l) 4=some e:=atN (n:=4) rfl rfl
theorem cB {α:Type}{tg:List Nat}{f:Env->Res (Option W×Env)}{η:Env}{g:α->List W}(w:α->W):∀ (ts:List α) (acc:List W),(∀ x∈ts,∃ η1 η2,aW tg (g x) η=some η1/\f η1=.ok (some (w x),η2)/\aw tg η2=η) ->
  aQ tg f (ts.map g) η acc=.ok (acc++ts.map w,η)
 | [],acc,_=>by rw [a1i,a1i,a0N]; rfl
 | x::ts,acc,h=>by
  obtain ⟨η1,η2,h1,h2,h3⟩:=h x a0o
  rw [a0C,a0C]
  show (ofO (aW tg (g x) η)).bind _=_
  rw [h1]
  show (f η1).bind _=_
  rw [h2]
  show aQ tg f (ts.map g) (aw tg η2) (acc++[w x])=_
  rw [h3,cB w ts _ fun y hy=>h y (a0p _ hy),a0X]
  rfl
theorem km {α:Type}(m:Md)(g:α->T)(ts:List α):bb (ts.map fun x=>(m,g x))=ts.map g:=by
 induction ts with
 | nil=>rfl
 | cons x r ih=>rw [a0C,a0C,<- ih]; rfl
end M

namespace MR
open L2 L3 M
open PySem (Addr Str sizeLine)
noncomputable abbrev Fp:=Addr->Prop
noncomputable def ScrR (K:a0a)(H:Hp)(a:Addr)(ns:List Int):Prop:=(∃ o,H a=some (.frz o (.lst (ns.map V.int))))\/SqL K (fun _=>none) a (ns.map V.int)
theorem ScrR.sq {K:a0a}{H:Hp}{a:Addr}{ns:List Int}(h:ScrR K H a ns):SqL K H a (ns.map V.int):=by
 rcases h with ⟨o,h⟩ | ((h | ⟨o,h⟩) | h)
 ·exact .inl (.inr ⟨o,h⟩)
 ·cases h
 ·cases h
 ·exact .inr h
theorem ScrR.keep {K:a0a}{H H':Hp}{a:Addr}{ns:List Int}(s:∀ a o u,H a=some (.frz o u)->H' a=some (.frz o u))(h:ScrR K H a ns):ScrR K H' a ns:=h.imp (fun ⟨o,e⟩=>⟨o,s a o _ e⟩) id
noncomputable def LstR (K:a0a)(Z:Fp)(H:Hp)(G:Fp)(a:Addr)(xs:List V):Md->Prop
 | .s=>Z a/\H a=some (.lst xs)
 | _=>G a/\H a=some (.lst xs)
mutual
noncomputable def Rep (K:a0a)(Z:Fp)(H:Hp):Md->T->V->Fp->Prop
 | _,.non,v,_=>v=.non
 | _,.bl b,v,_=>v=.bl b
 | _,.int i,v,_=>v=.int i
 | _,.str x,v,_=>v=.str x/\sOk x=true
 | m,.tup ts,v,G=>∃ a xs,v=.ref a/\SqT K H a xs/\xs.length<=LIM/\RepL K Z H m.kid ts xs G
 | m,.lst ts,v,G=>∃ a xs,v=.ref a/\xs.length<=LIM/\LstR K Z H G a xs m/\RepL K Z H m.kid ts xs (fun b=>G b/\b≠a)
 | _,.dct _ _,_,_=>False
 | _,.ins _ _ _,_,_=>False
 | _,.gone,_,_=>True
 | _,.scr ns,v,_=>∃ a,v=.ref a/\ns.length<=LIM/\ScrR K H a ns
noncomputable def RepL (K:a0a)(Z:Fp)(H:Hp):Md->List T->List V->Fp->Prop
 | _,[],xs,_=>xs=[]
 | m,t::ts,xs,G=>∃ x r G1 G2,xs=x::r/\(∀ a,G1 a->G a)/\(∀ a,G2 a->G a)/\(∀ a,G1 a->¬ G2 a)/\Rep K Z H m t x G1/\RepL K Z H m ts r G2
end
section
variable {K:a0a}{Z Z':Fp}{H H':Hp}{m:Md}{t:T}{ts:List T}{v:V}{xs:List V}{G G':Fp}
theorem LstR.mono {a:Addr}(w:∀ a,G a->G' a)(h:LstR K Z H G a xs m):LstR K Z H G' a xs m:=by
 cases m with
 | s=>exact h
 | d=>exact ⟨w _ h.1,h.2⟩
 | o m=>exact ⟨w _ h.1,h.2⟩
mutual
theorem Rep.mono:∀ {m:Md} {t:T} {v:V} {G G':Fp},(∀ a,G a->G' a)->Rep K Z H m t v G->Rep K Z H m t v G'
 | _,.non,_,_,_,_,h=>h
 | _,.bl _,_,_,_,_,h=>h
 | _,.int _,_,_,_,_,h=>h
 | _,.str _,_,_,_,_,h=>h
 | m,.tup ts,v,G,G',w,⟨a,xs,e,q,l,r⟩=>⟨a,xs,e,q,l,RepL.mono w r⟩
 | m,.lst ts,v,G,G',w,⟨a,xs,e,l,q,r⟩=>⟨a,xs,e,l,q.mono w,RepL.mono (fun b hb=>⟨w b hb.1,hb.2⟩) r⟩
 | _,.dct _ _,_,_,_,_,h=>h.elim
 | _,.ins _ _ _,_,_,_,_,h=>h.elim
 | _,.gone,_,_,_,_,h=>h
 | _,.scr _,_,_,_,_,h=>h
theorem RepL.mono:∀ {m:Md} {ts:List T} {xs:List V} {G G':Fp},(∀ a,G a->G' a)->RepL K Z H m ts xs G->RepL K Z H m ts xs G'
 | _,[],_,_,_,_,h=>h
 | m,t::ts,xs,G,G',w,⟨x,r,G1,G2,e,h1,h2,hd,p,q⟩=>⟨x,r,G1,G2,e,fun a ha=>w a (h1 a ha),fun a ha=>w a (h2 a ha),hd,p,q⟩
end
noncomputable def Stay (Z:Fp)(H H':Hp):Prop:=(∀ a o,Z a->H a=some o->H' a=some o)/\(∀ a xs,Rd H a (.tup xs)->Rd H' a (.tup xs))/\∀ a o u,H a=some (.frz o u)->H' a=some (.frz o u)
theorem Stay.sqt (s:Stay Z H H'){a:Addr}(h:SqT K H a xs):SqT K H' a xs:=by
 rcases h with h | h
 ·exact .inl (s.2.1 a xs h)
 ·exact .inr h
theorem LstR.keep {a:Addr}(s:Stay Z H H')(z:∀ a,Z a->Z' a)(g:∀ a o,G a->H a=some o->H' a=some o)(h:LstR K Z H G a xs m):LstR K Z' H' G a xs m:=by
 cases m with
 | s=>exact ⟨z _ h.1,s.1 _ _ h.1 h.2⟩
 | d=>exact ⟨h.1,g _ _ h.1 h.2⟩
 | o m=>exact ⟨h.1,g _ _ h.1 h.2⟩
mutual
theorem Rep.keep (s:Stay Z H H')(z:∀ a,Z a->Z' a):∀ {m:Md} {t:T} {v:V} {G:Fp},(∀ a o,G a->H a=some o->H' a=some o)->Rep K Z H m t v G->Rep K Z' H' m t v G
 | _,.non,_,_,_,h=>h
 | _,.bl _,_,_,_,h=>h
 | _,.int _,_,_,_,h=>h
 | _,.str _,_,_,_,h=>h
 | m,.tup ts,v,G,g,⟨a,xs,e,q,l,r⟩=>⟨a,xs,e,s.sqt q,l,RepL.keep s z g r⟩
 | m,.lst ts,v,G,g,⟨a,xs,e,l,q,r⟩=>⟨a,xs,e,l,q.keep s z g,RepL.keep s z (fun b o hb=>g b o hb.1) r⟩
 | _,.dct _ _,_,_,_,h=>h.elim
 | _,.ins _ _ _,_,_,_,h=>h.elim
 | _,.gone,_,_,_,h=>h
 | _,.scr _,_,_,_,⟨a,e,l,q⟩=>⟨a,e,l,q.keep s.2.2⟩
theorem RepL.keep (s:Stay Z H H')(z:∀ a,Z a->Z' a):∀ {m:Md} {ts:List T} {xs:List V} {G:Fp},(∀ a o,G a->H a=some o->H' a=some o)->RepL K Z H m ts xs G->RepL K Z' H' m ts xs G
 | _,[],_,_,_,h=>h
 | m,t::ts,xs,G,g,⟨x,r,G1,G2,e,h1,h2,hd,p,q⟩=>⟨x,r,G1,G2,e,h1,h2,hd,Rep.keep s z (fun a o ha=>g a o (h1 a ha)) p,RepL.keep s z (fun a o ha=>g a o (h2 a ha)) q⟩
end
theorem fF (Z:Fp)(H:Hp):Stay Z H H:=⟨fun _ _ _ h=>h,fun _ _ h=>h,fun _ _ _ h=>h⟩
theorem Rep.zmono (z:∀ a,Z a->Z' a)(h:Rep K Z H m t v G):Rep K Z' H m t v G:=h.keep (fF Z H) z fun _ _ _ q=>q
theorem RepL.zmono (z:∀ a,Z a->Z' a)(h:RepL K Z H m ts xs G):RepL K Z' H m ts xs G:=h.keep (fF Z H) z fun _ _ _ q=>q
theorem RepL.length:∀ {ts:List T} {xs:List V} {G:Fp},RepL K Z H m ts xs G->xs.length=ts.length
 | [],_,_,h=>by rw [show _=[] from h]; rfl
 | _::_,_,_,⟨x,r,G1,G2,e,_,_,_,_,q⟩=>by rw [e,a0t,a0t,RepL.length q]
theorem RepL.get:∀ {ts:List T} {xs:List V} {G:Fp} {i:Nat} {t:T},RepL K Z H m ts xs G->ts[i]?=some t->∃ x,xs[i]?=some x/\Rep K Z H m t x G
 | [],_,_,_,_,_,e=>by simp at e
 | _::_,_,_,0,_,⟨x,r,G1,G2,e,h1,_,_,p,_⟩,e2=>by
  rw [a1l] at e2; cases e2
  exact ⟨x,by rw [e]; rfl,p.mono h1⟩
 | _::_,_,_,i+1,_,⟨x,r,G1,G2,e,_,h2,_,_,q⟩,e2=>by
  rw [a0A] at e2
  obtain ⟨y,hy,p⟩:=RepL.get q e2
  exact ⟨y,by rw [e,a0A]; exact hy,p.mono h2⟩
theorem RepL.append:∀ {ts us:List T} {xs ys:List V} {G1 G2 G:Fp},(∀ a,G1 a->G a)->(∀ a,G2 a->G a)->(∀ a,G1 a->¬ G2 a)->RepL K Z H m ts xs G1->RepL K Z H m us ys G2->RepL K Z H m (ts++us) (xs++ys) G
 | [],us,xs,ys,G1,G2,G,w1,w2,d,h,k=>by rw [show xs=[] from h]; exact k.mono w2
 | t::ts,us,xs,ys,G1,G2,G,w1,w2,d,⟨x,r,A,B,e,h1,h2,hd,p,q⟩,k=>by
  rw [e]
  refine ⟨x,r++ys,A,fun a=>B a\/G2 a,rfl,fun a ha=>w1 a (h1 a ha),fun a ha=>ha.elim (fun z=>w1 a (h2 a z)) (w2 a),fun a ha hb=>hb.elim (hd a ha) (d a (h1 a ha)),p,?_⟩
  exact RepL.append (fun a z=>.inl z) (fun a z=>.inr z) (fun a ha=>d a (h2 a ha)) q k
theorem RepL.one {x:V}(p:Rep K Z H m t x G):RepL K Z H m [t] [x] G:=⟨x,[],G,fun _=>False,rfl,fun _ h=>h,fun _ h=>h.elim,fun _ _ h=>h,p,rfl⟩
theorem RepL.take:∀ {ts:List T} {xs:List V} {G:Fp} (n:Nat),RepL K Z H m ts xs G->RepL K Z H m (ts.take n) (xs.take n) G
 | [],_,_,n,h=>by rw [show _=[] from h,a2M,a2M]; rfl
 | _::_,_,_,0,h=>rfl
 | _::_,_,_,n+1,⟨x,r,A,B,e,h1,h2,hd,p,q⟩=>by rw [e]; exact ⟨x,r.take n,A,B,rfl,h1,h2,hd,p,RepL.take n q⟩
theorem RepL.drop:∀ {ts:List T} {xs:List V} {G:Fp} (n:Nat),RepL K Z H m ts xs G->RepL K Z H m (ts.drop n) (xs.drop n) G
 | [],_,_,n,h=>by rw [show _=[] from h,a2N,a2N]; rfl
 | _::_,_,_,0,h=>h
 | _::_,_,_,n+1,⟨x,r,A,B,e,h1,h2,hd,p,q⟩=>by rw [e]; exact (RepL.drop n q).mono h2
theorem Rep.leaf {m':Md}(hs:∀ a o u,H a=some (.frz o u)->H' a=some (.frz o u))(hl:t.leaf=true)(h:Rep K Z H m t v G):Rep K Z' H' m' t v G':=by
 cases t with
 | non=>exact h
 | bl _=>exact h
 | int _=>exact h
 | str _=>exact h
 | scr _=>obtain ⟨a,e,l,q⟩:=h; exact ⟨a,e,l,q.keep hs⟩
 | _=>cases hl
theorem RepL.leaves {m':Md}(hs:∀ a o u,H a=some (.frz o u)->H' a=some (.frz o u)):∀ {ts:List T} {xs:List V} {G G':Fp},leaves ts=true->RepL K Z H m ts xs G->RepL K Z' H' m' ts xs G'
 | [],_,_,_,_,h=>h
 | t::ts,_,_,G',hl,⟨x,r,A,B,e,h1,h2,hd,p,q⟩=>by
  have h':(t.leaf&&ts.all T.leaf)=true:=hl
  rw [a0i] at h'
  exact ⟨x,r,fun _=>False,fun _=>False,e,fun _ z=>z.elim,fun _ z=>z.elim,fun _ z=>z.elim,p.leaf hs h'.1,RepL.leaves hs h'.2 q⟩
noncomputable def no:Fp:=fun _=>False
mutual
theorem Rep.sh:∀ {m:Md} {t:T} {v:V} {G:Fp},Rep K Z H m t v G->Rep K (fun a=>Z a\/G a) H .s t v no
 | _,.non,_,_,h=>h
 | _,.bl _,_,_,h=>h
 | _,.int _,_,_,h=>h
 | _,.str _,_,_,h=>h
 | m,.tup ts,v,G,⟨a,xs,e,q,l,r⟩=>⟨a,xs,e,q,l,RepL.sh r⟩
 | m,.lst ts,v,G,⟨a,xs,e,l,q,r⟩=>⟨a,xs,e,l,by
   cases m with
   | s=>exact ⟨.inl q.1,q.2⟩
   | d=>exact ⟨.inr q.1,q.2⟩
   | o m=>exact ⟨.inr q.1,q.2⟩,(RepL.zmono (fun b hb=>hb.elim .inl fun z=>.inr z.1) (RepL.sh r)).mono fun _ z=>z.elim⟩
 | _,.dct _ _,_,_,h=>h.elim
 | _,.ins _ _ _,_,_,h=>h.elim
 | _,.gone,_,_,h=>h
 | _,.scr _,_,_,h=>h
theorem RepL.sh:∀ {m:Md} {ts:List T} {xs:List V} {G:Fp},RepL K Z H m ts xs G->RepL K (fun a=>Z a\/G a) H .s ts xs no
 | _,[],_,_,h=>h
 | m,t::ts,xs,G,⟨x,r,G1,G2,e,h1,h2,hd,p,q⟩=>⟨x,r,no,no,e,fun _ z=>z,fun _ z=>z,fun _ z _=>z,Rep.zmono (fun b hb=>hb.imp id (h1 b)) (Rep.sh p),RepL.zmono (fun b hb=>hb.imp id (h2 b)) (RepL.sh q)⟩
end
theorem AG:∀ a:Md,a.le .d=true
 | .s=>rfl | .d=>rfl | .o _=>rfl
theorem gh:∀ a:Md,a.le a=true
 | .s=>rfl | .d=>rfl | .o a=>gh a
theorem le_trans:∀ {a b c:Md},a.le b=true->b.le c=true->a.le c=true
 | .s,_,.s,_,_=>rfl
 | .s,_,.d,_,_=>rfl
 | .s,_,.o _,_,_=>rfl
 | .o a,.o b,.o c,h,k=>le_trans (a:=a) (b:=b) (c:=c) h k
 | .o a,.o b,.d,h,k=>rfl
 | .o a,.d,.d,h,k=>rfl
 | .d,.d,.d,_,_=>rfl
 | .d,.s,_,h,_=>by cases h
 | .d,.o _,_,h,_=>by cases h
 | .o _,.s,_,h,_=>by cases h
 | .o _,.o _,.s,_,k=>by cases k
 | .o _,.d,.s,_,k=>by cases k
 | .o _,.d,.o _,_,k=>by cases k
 | .d,.d,.s,_,k=>by cases k
 | .d,.d,.o _,_,k=>by cases k
theorem cg:∀ a b:Md,(a.meet b).le a=true/\(a.meet b).le b=true
 | .s,.s=>⟨rfl,rfl⟩
 | .s,.d=>⟨rfl,rfl⟩
 | .s,.o _=>⟨rfl,rfl⟩
 | .d,.s=>⟨rfl,rfl⟩
 | .d,.d=>⟨rfl,rfl⟩
 | .d,.o b=>⟨rfl,gh b⟩
 | .o _,.s=>⟨rfl,rfl⟩
 | .o a,.d=>⟨gh a,rfl⟩
 | .o a,.o b=>cg a b
theorem lr:∀ {a b:Md},a.le b=true->a.kid.le b.kid=true
 | .s,.s,_=>rfl
 | .s,.d,_=>rfl
 | .s,.o _,_=>by first | rfl | exact (by cases ‹Md›<;>rfl)
 | .o a,.o b,h=>h
 | .o a,.d,_=>AG a
 | .d,.d,_=>rfl
 | .d,.s,h=>by cases h
 | .d,.o _,h=>by cases h
 | .o _,.s,h=>by cases h
theorem dk:∀ a:Md,a.up.kid=a
 | .s=>rfl | .d=>rfl | .o _=>rfl
theorem cF (a:Md):a.up≠.s:=by cases a<;>intro h<;>cases h
theorem LstR.own {a:Addr}(hm:m≠.s):LstR K Z H G a xs m ↔ G a/\H a=some (.lst xs):=by
 cases m with
 | s=>exact absurd rfl hm
 | d=>exact Iff.rfl
 | o m=>exact Iff.rfl
noncomputable abbrev bS (Z G G':Fp):Fp:=fun a=>Z a\/(G a/\¬ G' a)
mutual
theorem Rep.weak:∀ {m m':Md} {t:T} {v:V} {G:Fp},m'.le m=true->Rep K Z H m t v G->∃ G',(∀ a,G' a->G a)/\Rep K (bS Z G G') H m' t v G'
 | m,m',.non,_,G,_,h=>⟨G,fun _ z=>z,h⟩
 | m,m',.bl _,_,G,_,h=>⟨G,fun _ z=>z,h⟩
 | m,m',.int _,_,G,_,h=>⟨G,fun _ z=>z,h⟩
 | m,m',.str _,_,G,_,h=>⟨G,fun _ z=>z,h⟩
 | m,m',.scr _,_,G,_,h=>⟨G,fun _ z=>z,h⟩
 | m,m',.tup ts,v,G,hm,⟨a,xs,e,q,l,r⟩=>by
  obtain ⟨G',h1,h2⟩:=RepL.weak (lr hm) r
  exact ⟨G',h1,a,xs,e,q,l,h2⟩
 | m,m',.lst ts,v,G,hm,h=>by
  cases m' with
  | s=>exact ⟨no,fun _ z=>z.elim,(Rep.sh h).zmono fun a ha=>ha.imp id fun z=>⟨z,fun q=>q⟩⟩
  | d =>
   cases m with
   | s=>cases hm
   | o _=>cases hm
   | d=>exact ⟨G,fun _ z=>z,h.zmono fun _ z=>.inl z⟩
  | o k =>
   have hne:m≠.s:=by rintro rfl; cases hm
   obtain ⟨a,xs,e,l,q,r⟩:=h
   rw [LstR.own hne] at q
   obtain ⟨G',h1,h2⟩:=RepL.weak (lr hm) r
   refine ⟨fun b=>G' b\/b=a,fun b hb=>hb.elim (fun z=>(h1 b z).1) (fun z=>z ▸ q.1),a,xs,e,l,⟨.inr rfl,q.2⟩,?_⟩
   refine (h2.zmono fun b hb=>?_).mono fun b hb=>⟨.inl hb,(h1 b hb).2⟩
   rcases hb with z | ⟨⟨z1,z2⟩,z3⟩
   ·exact .inl z
   ·exact .inr ⟨z1,fun q=>q.elim z3 z2⟩
 | _,_,.dct _ _,_,_,_,h=>h.elim
 | _,_,.ins _ _ _,_,_,_,h=>h.elim
 | m,m',.gone,_,G,_,h=>⟨G,fun _ z=>z,h⟩
theorem RepL.weak:∀ {m m':Md} {ts:List T} {xs:List V} {G:Fp},m'.le m=true->RepL K Z H m ts xs G->∃ G',(∀ a,G' a->G a)/\RepL K (bS Z G G') H m' ts xs G'
 | m,m',[],_,G,_,h=>⟨G,fun _ z=>z,h⟩
 | m,m',t::ts,xs,G,hm,⟨x,r,G1,G2,e,h1,h2,hd,p,q⟩=>by
  obtain ⟨A,a1,a2⟩:=Rep.weak hm p
  obtain ⟨B,b1,b2⟩:=RepL.weak hm q
  refine ⟨fun b=>A b\/B b,fun b hb=>hb.elim (fun z=>h1 b (a1 b z)) (fun z=>h2 b (b1 b z)),x,r,A,B,e,fun _ z=>.inl z,fun _ z=>.inr z,fun b za zb=>hd b (a1 b za) (b1 b zb),?_,?_⟩
  ·refine a2.zmono fun b hb=>hb.imp id fun z=>⟨h1 b z.1,fun q=>q.elim z.2 fun w=>hd b z.1 (b1 b w)⟩
  ·refine b2.zmono fun b hb=>hb.imp id fun z=>⟨h2 b z.1,fun q=>q.elim (fun w=>hd b (a1 b w) z.1) z.2⟩
end
noncomputable def RepW (K:a0a)(Z:Fp)(H:Hp):List W->List V->Fp->Prop
 | [],xs,_=>xs=[]
 | w::ws,xs,G=>∃ x r G1 G2,xs=x::r/\(∀ a,G1 a->G a)/\(∀ a,G2 a->G a)/\(∀ a,G1 a->¬ G2 a)/\Rep K Z H w.1 w.2 x G1/\RepW K Z H ws r G2
theorem RepW.length:∀ {ws:List W} {xs:List V} {G:Fp},RepW K Z H ws xs G->xs.length=ws.length
 | [],_,_,h=>by rw [show _=[] from h]; rfl
 | _::_,_,_,⟨x,r,G1,G2,e,_,_,_,_,q⟩=>by rw [e,a0t,a0t,RepW.length q]
theorem RepW.mono:∀ {ws:List W} {xs:List V} {G G':Fp},(∀ a,G a->G' a)->RepW K Z H ws xs G->RepW K Z H ws xs G'
 | [],_,_,_,_,h=>h
 | _::_,_,_,_,w,⟨x,r,G1,G2,e,h1,h2,hd,p,q⟩=>⟨x,r,G1,G2,e,fun a ha=>w a (h1 a ha),fun a ha=>w a (h2 a ha),hd,p,q⟩
theorem RepW.keep (s:Stay Z H H')(z:∀ a,Z a->Z' a):∀ {ws:List W} {xs:List V} {G:Fp},(∀ a o,G a->H a=some o->H' a=some o)->RepW K Z H ws xs G->RepW K Z' H' ws xs G
 | [],_,_,_,h=>h
 | _::_,_,_,g,⟨x,r,G1,G2,e,h1,h2,hd,p,q⟩=>⟨x,r,G1,G2,e,h1,h2,hd,p.keep s z fun a o ha=>g a o (h1 a ha),RepW.keep s z (fun a o ha=>g a o (h2 a ha)) q⟩
theorem RepW.append:∀ {ws us:List W} {xs ys:List V} {G1 G2 G:Fp},(∀ a,G1 a->G a)->(∀ a,G2 a->G a)->(∀ a,G1 a->¬ G2 a)->RepW K Z H ws xs G1->RepW K Z H us ys G2->RepW K Z H (ws++us) (xs++ys) G
 | [],us,xs,ys,G1,G2,G,w1,w2,d,h,k=>by rw [show xs=[] from h]; exact k.mono w2
 | t::ts,us,xs,ys,G1,G2,G,w1,w2,d,⟨x,r,A,B,e,h1,h2,hd,p,q⟩,k=>by
  rw [e]
  refine ⟨x,r++ys,A,fun a=>B a\/G2 a,rfl,fun a ha=>w1 a (h1 a ha),fun a ha=>ha.elim (fun z=>w1 a (h2 a z)) (w2 a),fun a ha hb=>hb.elim (hd a ha) (d a (h1 a ha)),p,?_⟩
  exact RepW.append (fun a z=>.inl z) (fun a z=>.inr z) (fun a ha=>d a (h2 a ha)) q k
theorem RepW.one {w:W}{x:V}(p:Rep K Z H w.1 w.2 x G):RepW K Z H [w] [x] G:=⟨x,[],G,no,rfl,fun _ h=>h,fun _ h=>h.elim,fun _ _ h=>h,p,rfl⟩
theorem er:∀ {ws:List W} {w:W},w∈ws->(eR ws).le (lf w.1 w.2)=true
 | u::ws,w,h=>by
  rcases a0H.mp h with z | z
  ·subst z; exact (cg _ _).1
  ·exact le_trans (cg _ _).2 (er z)
theorem Rep.lf (h:Rep K Z H m t v G):Rep K Z H (M.lf m t) t v G:=by
 unfold M.lf
 split
 ·rename_i hl; exact h.leaf (fun _ _ _ q=>q) hl
 ·exact h
theorem RepW.to {N:Md}:∀ {ws:List W} {xs:List V} {G:Fp},(∀ w∈ws,N.le (M.lf w.1 w.2)=true)->RepW K Z H ws xs G->∃ G',(∀ a,G' a->G a)/\RepL K (bS Z G G') H N (bb ws) xs G'
 | [],_,G,_,h=>⟨G,fun _ z=>z,h⟩
 | w::ws,xs,G,hm,⟨x,r,G1,G2,e,h1,h2,hd,p,q⟩=>by
  obtain ⟨A,a1,a2⟩:=Rep.weak (hm w a0o) p.lf
  obtain ⟨B,b1,b2⟩:=RepW.to (fun u hu=>hm u (a0p _ hu)) q
  refine ⟨fun b=>A b\/B b,fun b hb=>hb.elim (fun z=>h1 b (a1 b z)) (fun z=>h2 b (b1 b z)),x,r,A,B,e,fun _ z=>.inl z,fun _ z=>.inr z,fun b za zb=>hd b (a1 b za) (b1 b zb),?_,?_⟩
  ·refine a2.zmono fun b hb=>hb.imp id fun z=>⟨h1 b z.1,fun q=>q.elim z.2 fun w=>hd b z.1 (b1 b w)⟩
  ·refine b2.zmono fun b hb=>hb.imp id fun z=>⟨h2 b z.1,fun q=>q.elim (fun w=>hd b (a1 b w) z.1) z.2⟩
end
noncomputable def Own (Z:Fp)(H:Hp)(F:Fp):Prop:=∀ a,F a->¬ Z a/\∃ xs,H a=some (.lst xs)
structure Step (Z:Fp)(H:Hp)(F:Fp)(Z':Fp)(H':Hp)(F':Fp):Prop where
 keep:∀ a o,H a=some o->¬ F a->H' a=some o
 zm:∀ a,Z a->Z' a
 zn:∀ a,Z' a->Z a\/F a\/H a=none
 fn:∀ a,F' a->F a\/H a=none
 al:∀ a,H a≠none->H' a≠none
 za:(∀ a,Z a->H a≠none)->∀ a,Z' a->H' a≠none
section
variable {K:a0a}{Z Z1 Z2 Z':Fp}{H H1 H2 H':Hp}{F F1 F2 F' R G:Fp}
theorem Step.refl (Z:Fp)(H:Hp)(F:Fp):Step Z H F Z H F:=⟨fun _ _ h _=>h,fun _ h=>h,fun _ h=>.inl h,fun _ h=>.inl h,fun _ h=>h,fun z=>z⟩
theorem Step.trans (s:Step Z H F Z1 H1 F1)(t:Step Z1 H1 F1 Z2 H2 F2):Step Z H F Z2 H2 F2 where
 keep:=fun a o h n=>t.keep a o (s.keep a o h n) fun q=>(s.fn a q).elim n fun z=>by rw [h] at z; cases z
 zm:=fun a h=>t.zm a (s.zm a h)
 zn:=fun a h=>by
  rcases t.zn a h with q | q | q
  ·exact s.zn a q
  ·exact .inr (s.fn a q)
  ·exact .inr (.inr (by
    cases e:H a with
    | none=>rfl
    | some o=>exact absurd q (s.al a (by rw [e]; simp))))
 fn:=fun a h=>by
  rcases t.fn a h with q | q
  ·exact s.fn a q
  ·exact .inr (by
    cases e:H a with
    | none=>rfl
    | some o=>exact absurd q (s.al a (by rw [e]; simp)))
 al:=fun a h=>t.al a (s.al a h)
 za:=fun z=>t.za (s.za z)
theorem Step.frame (R:Fp)(s:Step Z H F Z' H' F'):Step Z H (fun a=>F a\/R a) Z' H' (fun a=>F' a\/R a) where
 keep:=fun a o h n=>s.keep a o h fun q=>n (.inl q)
 zm:=s.zm
 zn:=fun a h=>(s.zn a h).imp id fun q=>q.imp .inl id
 fn:=fun a h=>h.elim (fun q=>(s.fn a q).imp .inl id) fun q=>.inl (.inr q)
 al:=s.al
 za:=s.za
theorem Step.mono (s:Step Z H F Z' H' F')(h1:∀ a,F a->F1 a)(h2:∀ a,F2 a->F' a):Step Z H F1 Z' H' F2 where
 keep:=fun a o h n=>s.keep a o h fun q=>n (h1 a q)
 zm:=s.zm
 zn:=fun a h=>(s.zn a h).imp id fun q=>q.imp (h1 a) id
 fn:=fun a h=>(s.fn a (h2 a h)).imp (h1 a) id
 al:=s.al
 za:=s.za
theorem Own.stay (o:Own Z H F)(s:Step Z H F Z' H' F'):Stay Z H H':=by
 refine ⟨fun a u hz h=>s.keep a u h fun q=>(o a q).1 hz,fun a xs h=>?_,fun a u v h=>s.keep a _ h fun q=>?_⟩
 ·rcases h with h | ⟨u,h⟩
  ·refine .inl (s.keep a _ h fun q=>?_)
   obtain ⟨_,ys,e⟩:=o a q
   rw [h] at e; cases e
  ·refine .inr ⟨u,s.keep a _ h fun q=>?_⟩
   obtain ⟨_,ys,e⟩:=o a q
   rw [h] at e; cases e
 ·obtain ⟨_,ys,e⟩:=o a q
  rw [h] at e; cases e
theorem Rep.frame {m:Md}{t:T}{v:V}(o:Own Z H F)(s:Step Z H F Z' H' F')(d:∀ a,G a->¬ F a)(h:Rep K Z H m t v G):Rep K Z' H' m t v G:=h.keep (o.stay s) s.zm fun a u ha e=>s.keep a u e (d a ha)
theorem RepW.frame {ws:List W}{xs:List V}(o:Own Z H F)(s:Step Z H F Z' H' F')(d:∀ a,G a->¬ F a)(h:RepW K Z H ws xs G):RepW K Z' H' ws xs G:=h.keep (o.stay s) s.zm fun a u ha e=>s.keep a u e (d a ha)
theorem Own.frame (o:Own Z H G)(s:Step Z H F Z' H' F')(d:∀ a,G a->¬ F a):Own Z' H' G/\∀ a,G a->¬ F' a:=by
 refine ⟨fun a ha=>?_,fun a ha q=>?_⟩
 ·obtain ⟨nz,xs,e⟩:=o a ha
  refine ⟨fun q=>?_,xs,s.keep a _ e (d a ha)⟩
  rcases s.zn a q with z | z | z
  ·exact nz z
  ·exact d a ha z
  ·rw [e] at z; cases z
 ·obtain ⟨nz,xs,e⟩:=o a ha
  rcases s.fn a q with z | z
  ·exact d a ha z
  ·rw [e] at z; cases z
end
noncomputable abbrev Fps:=Nat->Fp
noncomputable def tot (Fs:Fps):Fp:=fun a=>∃ i,Fs i a
structure Gd (Z:Fp)(H:Hp)(Fs:Fps):Prop where
 own:Own Z H (tot Fs)
 dis:∀ i j a,Fs i a->Fs j a->i=j
 zal:∀ a,Z a->H a≠none
structure Cf where
 sl:Nat->Option Nat
 pv:Nat->Option V
noncomputable def AD (K:a0a)(sl:Cf)(Z:Fp)(H:Hp)(η:Env)(σ:L2.St)(Fs:Fps):Prop :=
 ∀ i m t,rd η i=some (m,t)->∃ v,Rep K Z H m t v (Fs i)/\(∀ j,sl.sl i=some j->σ[j]?=some (some v))/\∀ u,sl.pv i=some u->v=u
structure At (K:a0a)(sl:Cf)(σ:L2.St)(Z:Fp)(H:Hp)(Fs:Fps)(η:Env)(G:Fp):Prop where
 gd:Gd Z H Fs
 env:AD K sl Z H η σ Fs
 own:Own Z H G
 dis:∀ a,G a->¬ tot Fs a
 lk:∀ i u j,sl.pv i=some u->sl.sl i=some j->σ[j]?=some (some u)
 ln:∀ i j,sl.sl i=some j->j < σ.length
section
variable {K:a0a}{sl:Cf}{σ:L2.St}{Z Z':Fp}{H H':Hp}{Fs Fs':Fps}{η η':Env}{G G' R:Fp}
theorem At.frame (a:At K sl σ Z H Fs η R)(b:At K sl σ Z' H' Fs' η' G)(s:Step Z H (tot Fs) Z' H' (fun c=>tot Fs' c\/G c)) :
  At K sl σ Z' H' Fs' η' (fun c=>R c\/G c)/\Step Z H (fun c=>tot Fs c\/R c) Z' H' (fun c=>tot Fs' c\/(R c\/G c))/\∀ c,R c->¬ G c:=by
 have o:=a.own.frame s a.dis
 refine ⟨⟨b.gd,b.env,fun c hc=>hc.elim (o.1 c) (b.own c),fun c hc=>hc.elim (fun z q=>o.2 c z (.inl q)) (b.dis c),b.lk,b.ln⟩,(s.frame R).mono (fun _ z=>z) fun c hc=>?_,fun c z q=>o.2 c z (.inr q)⟩
 rcases hc with z | z | z
 ·exact .inl (.inl z)
 ·exact .inr z
 ·exact .inl (.inr z)
end
end MR
namespace MR
open L2 L3 M
open PySem (Addr Str sizeLine)
section
variable {K:a0a}{sl:Cf}{sf:Nat->Option Nat}{C:Call}{σ:L2.St}{Z Z' Z1:Fp}{H H' H1:Hp}{Fs Fs' Fs1:Fps}{η η' η1:Env}{G G' R F:Fp}
theorem At.mono (a:At K sl σ Z H Fs η G)(h:∀ c,G' c->G c):At K sl σ Z H Fs η G':=⟨a.gd,a.env,fun c hc=>a.own c (h c hc),fun c hc=>a.dis c (h c hc),a.lk,a.ln⟩
theorem At.bare (a:At K sl σ Z H Fs η G):At K sl σ Z H Fs η no:=a.mono fun _ z=>z.elim
noncomputable def wE (K:a0a)(sl:Nat->Option Nat)(C:Call)(e:E):TE:=fun σ H Q=>∃ pv Z Fs η w η',At K ⟨sl,pv⟩ σ Z H Fs η no/\evE C e η=.ok (w,η') /\
 ∀ v Z' H' Fs' G,At K ⟨sl,pv⟩ σ Z' H' Fs' η' G->Rep K Z' H' w.1 w.2 v G->Step Z H (tot Fs) Z' H' (fun a=>tot Fs' a\/G a)->Q v H'
noncomputable def wL (K:a0a)(sl:Nat->Option Nat)(C:Call)(es:List E):TA:=fun σ H Q=>∃ pv Z Fs η ws η',At K ⟨sl,pv⟩ σ Z H Fs η no/\evL C es η=.ok (ws,η') /\
 ∀ vs Z' H' Fs' G,At K ⟨sl,pv⟩ σ Z' H' Fs' η' G->RepW K Z' H' ws vs G->Step Z H (tot Fs) Z' H' (fun a=>tot Fs' a\/G a)->Q vs H'
theorem jZ {e:E}{w:W}{Q:VK}(A:At K sl σ Z H Fs η R)(ev:evE C e η=.ok (w,η'))
  (k:∀ v Z' H' Fs' G,At K sl σ Z' H' Fs' η' (fun c=>R c\/G c)->Rep K Z' H' w.1 w.2 v G->(∀ c,R c->¬ G c)->Step Z H (tot Fs) Z' H' (fun a=>tot Fs' a\/G a) ->
   Step Z H (fun c=>tot Fs c\/R c) Z' H' (fun c=>tot Fs' c\/(R c\/G c))->Q v H'):wE K sl.sl C e σ H Q :=
 ⟨sl.pv,Z,Fs,η,w,η',A.bare,ev,fun v Z' H' Fs' G B r s=>by
  obtain ⟨h1,h2,h3⟩:=A.frame B s
  exact k v Z' H' Fs' G h1 r h3 s h2⟩
theorem zV {es:List E}{ws:List W}{Q:List V->Hp->Prop}(A:At K sl σ Z H Fs η R)(ev:evL C es η=.ok (ws,η'))
  (k:∀ vs Z' H' Fs' G,At K sl σ Z' H' Fs' η' (fun c=>R c\/G c)->RepW K Z' H' ws vs G->(∀ c,R c->¬ G c)->Step Z H (tot Fs) Z' H' (fun a=>tot Fs' a\/G a) ->
   Step Z H (fun c=>tot Fs c\/R c) Z' H' (fun c=>tot Fs' c\/(R c\/G c))->Q vs H'):wL K sl.sl C es σ H Q :=
 ⟨sl.pv,Z,Fs,η,ws,η',A.bare,ev,fun v Z' H' Fs' G B r s=>by
  obtain ⟨h1,h2,h3⟩:=A.frame B s
  exact k v Z' H' Fs' G h1 r h3 s h2⟩
theorem ae {α β:Type}{r:Res α}{f:α->Res β}{b:β}(h:r.bind f=.ok b):∃ a,r=.ok a/\f a=.ok b:=by
 cases r with
 | ok a=>exact ⟨a,rfl,h⟩
 | ex c x=>cases h
 | no=>cases h
theorem aF {α:Type}{η:Env}{o:Option α}{b:α×Env}(h:ret η o=.ok b):∃ a,o=some a/\b=(a,η):=by
 cases o with
 | none=>cases h
 | some a=>exact ⟨a,rfl,by cases h; rfl⟩
theorem b8 {α:Type}{o:Option α}{b:α}(h:ofO o=.ok b):o=some b:=by
 cases o with
 | none=>cases h
 | some a=>cases h; rfl
theorem aR {e:E}{es:List E}{ws:List W}(h:evL C (e::es) η=.ok (ws,η')):∃ w η1 us,evE C e η=.ok (w,η1)/\evL C es η1=.ok (us,η')/\ws=w::us:=by
 obtain ⟨⟨w,η1⟩,h1,h2⟩:=ae (show (evE C e η).bind (bc (evL C es))=_ from h)
 obtain ⟨⟨us,η2⟩,h3,h4⟩:=ae (show (evL C es η1).bind (i9 w)=_ from h2)
 cases h4
 exact ⟨w,η1,us,h1,h3,rfl⟩
theorem dY {e:E}{es:List E}{ws:List W}(he:∀ i,e≠.io i)(h:evA C (e::es) η=.ok (ws,η')):∃ w η1 us,evE C e η=.ok (w,η1)/\evA C es η1=.ok (us,η')/\ws=w::us:=by
 rw [vD he] at h
 obtain ⟨⟨w,η1⟩,h1,h2⟩:=ae h
 obtain ⟨⟨us,η2⟩,h3,h4⟩:=ae (show (evA C es η1).bind (i9 w)=_ from h2)
 cases h4
 exact ⟨w,η1,us,h1,h3,rfl⟩
theorem fK {i:Nat}{es:List E}{ws:List W}(h:evA C (.io i::es) η=.ok (ws,η')):∃ us η1 w,evA C es η=.ok (us,η1)/\rd η1 i=some w/\ws=w::us/\η'=del η1 i:=by
 obtain ⟨⟨us,η1⟩,h1,h2⟩:=ae (show (evA C es η).bind (kIo i)=_ from h)
 obtain ⟨w,h3,h4⟩:=ae (show (ofO (rd η1 i)).bind (fun w=>.ok (w::us,del η1 i))=_ from h2)
 cases h4
 exact ⟨us,η1,w,h1,b8 h3,rfl,rfl⟩
theorem yy (e:E):(∃ i,e=.io i)\/∀ i,e≠.io i:=by
 cases e with
 | io i=>exact .inl ⟨i,rfl⟩
 | _=>exact .inr fun _ z=>by cases z
theorem qt {e:E}{es:List E}(σ:L2.St)(H:Hp)(Q:List V->Hp->Prop)(h:wL K sf C (e::es) σ H Q):i4 (wE K sf C e) (wL K sf C es) σ H Q:=by
 obtain ⟨pv,Z,Fs,η,ws,η',A,ev,k⟩:=h
 obtain ⟨w,η1,us,h1,h2,rfl⟩:=aR ev
 refine jZ A h1 fun x Z1 H1 Fs1 G1 A1 r1 _ s1 _=>?_
 have A1':=A1.mono (G':=G1) fun _ z=>.inr z
 refine zV A1' h2 fun xs Z2 H2 Fs2 G2 A2 r2 d2 s2 t2=>?_
 refine k (x::xs) Z2 H2 Fs2 _ A2 ⟨x,xs,G1,G2,rfl,fun _ z=>.inl z,fun _ z=>.inr z,d2,r1.frame A1.gd.own s2 A1'.dis,r2⟩ ?_
 exact s1.trans t2
theorem sy (σ:L2.St)(H:Hp)(Q:List V->Hp->Prop)(h:wL K sf C [] σ H Q):ve σ H Q:=by
 obtain ⟨pv,Z,Fs,η,ws,η',A,ev,k⟩:=h
 cases ev
 exact k [] Z H Fs no A rfl ((Step.refl _ _ _).mono (fun _ z=>z) fun a ha=>ha.elim id fun z=>z.elim)
noncomputable def Out (K:a0a)(Z:Fp)(H:Hp)(G:Fp)(w:W)(Q:VK):Prop:=∀ v Z' H' G',Rep K Z' H' w.1 w.2 v G'->Own Z' H' G'->Step Z H G Z' H' G'->Q v H'
theorem At.op (A:At K sl σ Z H Fs η G)(o:Own Z' H' G')(s:Step Z H G Z' H' G'):At K sl σ Z' H' Fs η G'/\Step Z H (fun c=>tot Fs c\/G c) Z' H' (fun c=>tot Fs c\/G' c):=by
 have d:∀ a,tot Fs a->¬ G a:=fun a h q=>A.dis a q h
 have f:=A.gd.own.frame s d
 refine ⟨⟨⟨f.1,A.gd.dis,s.za A.gd.zal⟩,fun i m t e=>?_,o,fun a ha q=>f.2 a q ha,A.lk,A.ln⟩,?_⟩
 ·obtain ⟨v,r,hv⟩:=A.env i m t e
  exact ⟨v,r.frame A.own s fun a ha=>d a ⟨i,ha⟩,hv⟩
 ·refine (s.frame (tot Fs)).mono (fun _ z=>z.symm) fun _ z=>z.symm
theorem cQ {w:W}{Q:VK}(A:At K sl σ Z1 H1 Fs1 η1 G)(s:Step Z H F Z1 H1 (fun a=>tot Fs1 a\/G a))
  (k:∀ v Z' H' Fs' G,At K sl σ Z' H' Fs' η1 G->Rep K Z' H' w.1 w.2 v G->Step Z H F Z' H' (fun a=>tot Fs' a\/G a)->Q v H'):Out K Z1 H1 G w Q:=fun v Z' H' G' r o t=>by
 obtain ⟨B,u⟩:=A.op o t
 exact k v Z' H' Fs1 G' B r (s.trans u)
noncomputable def Loc (K:a0a)(n:Nat)(o:Op)(h:Bool)(r:List V->Hp->VK->Prop):Prop:=∀ (ws:List W) (w:W) (xs:List V) (Z:Fp) (H:Hp) (G:Fp) (Q:VK),ws.length=n->oSem o h ws=some w->RepW K Z H ws xs G->Own Z H G->(∀ a,Z a->H a≠none)->Out K Z H G w Q->r xs H Q
theorem el {o:Op}{h:Bool}{es:List E}{w:W}(e:evE C (.op o h es) η=.ok (w,η')):∃ ws,evL C es η=.ok (ws,η')/\oSem o h ws=some w:=by
 obtain ⟨⟨ws,η1⟩,h1,h2⟩:=ae (show (evL C es η).bind (kOp o h)=_ from e)
 obtain ⟨a,h3,h4⟩:=aF (show ret η1 (oSem o h ws)=_ from h2)
 cases h4
 exact ⟨ws,h1,h3⟩
theorem dQ:∀ {es:List E} {η η':Env} {ws:List W},evL C es η=.ok (ws,η')->ws.length=es.length
 | [],_,_,_,h=>by cases h; rfl
 | e::es,_,_,_,h=>by
  obtain ⟨w,η1,us,_,h2,rfl⟩:=aR h
  rw [a0t,a0t,dQ h2]
theorem dz {n:Nat}{o:Op}{h:Bool}{es:List E}{r:List V->Hp->VK->Prop}(l:Loc K n o h r)(hn:es.length=n)(σ:L2.St)(H:Hp)(Q:VK)(hw:wE K sf C (.op o h es) σ H Q):tCB r (wL K sf C es) σ H Q:=by
 obtain ⟨pv,Z,Fs,η,w,η',A,ev,k⟩:=hw
 obtain ⟨ws,h1,h2⟩:=el ev
 exact ⟨pv,Z,Fs,η,ws,η',A,h1,fun vs Z' H' Fs' G B r s=>l ws w vs Z' H' G Q ((dQ h1).trans hn) h2 r B.own B.gd.zal (cQ B s k)⟩
theorem aN {o:Op}{h:Bool}{a b:E}{r:R2}(l:Loc K 2 o h fun xs H Q=>∀ x y,xs=[x,y]->r x y H Q)(σ:L2.St)(H:Hp)(Q:VK)(hw:wE K sf C (.op o h [a,b]) σ H Q):tOp r (wE K sf C a) (wE K sf C b) σ H Q:=by
 obtain ⟨pv,Z,Fs,η,w,η',A,ev,k⟩:=hw
 obtain ⟨ws,h1,h2⟩:=el ev
 obtain ⟨wa,η1,us,e1,e2,rfl⟩:=aR h1
 obtain ⟨wb,η2,us,e3,e4,rfl⟩:=aR e2
 cases e4
 refine jZ A e1 fun x Z1 H1 Fs1 G1 A1 r1 _ s1 _=>?_
 have A1':=A1.mono (G':=G1) fun _ z=>.inr z
 refine jZ A1' e3 fun y Z2 H2 Fs2 G2 A2 r2 d2 s2 t2=>?_
 exact l [wa,wb] w [x,y] Z2 H2 _ Q rfl h2 ⟨x,[y],G1,G2,rfl,fun _ z=>.inl z,fun _ z=>.inr z,d2,r1.frame A1.gd.own s2 A1'.dis,RepW.one r2⟩ A2.own A2.gd.zal (cQ A2 (s1.trans t2) k) x y rfl
theorem bP:Own Z H no:=fun _ z=>z.elim
theorem Step.drop:Step Z H G Z H no:=(Step.refl Z H G).mono (fun _ z=>z) fun _ z=>z.elim
section
variable {Q:VK}{m:Md}{ts:List T}{xs:List V}
theorem aO {i:Int}(k:Out K Z H G (m,.int i) Q):Q (.int i) H:=k _ Z H no rfl bP .drop
theorem bL {b:Bool}(k:Out K Z H G (m,.bl b) Q):Q (.bl b) H:=k _ Z H no rfl bP .drop
theorem fI {x:Str}(k:Out K Z H G (m,.str x) Q)(h:sOk x=true):Q (.str x) H:=k _ Z H no ⟨rfl,h⟩ bP .drop
theorem eD {t:T}{v:V}(o:Own Z H G)(k:Out K Z H G (m,t) Q)(r:Rep K Z H m t v G):Q v H:=k v Z H G r o (.refl _ _ _)
theorem gK {p:Addr}{o:HO}(hp:H p=none):Stay Z H (upd H p o):=by
 have ne:∀ {a u},H a=some u->a≠p:=fun {a u} e z=>by subst z; rw [hp] at e; cases e
 refine ⟨fun a u _ e=>?_,fun a xs e=>?_,fun a u v e=>?_⟩
 ·rw [ao (ne e)]; exact e
 ·rcases e with e | ⟨u,e⟩
  ·exact .inl (by rw [ao (ne e)]; exact e)
  ·exact .inr ⟨u,by rw [ao (ne e)]; exact e⟩
 ·rw [ao (ne e)]; exact e
theorem gV {p:Addr}{o:HO}(hp:H p=none)(ow:Own Z H G)(hg:∀ a,G' a->G a\/a=p)(z:Fp)(hz:∀ a,Z a->z a)(hz':∀ a,z a->Z a\/G a):Step Z H G z (upd H p o) G':=by
 have ne:∀ {a u},H a=some u->a≠p:=fun {a u} e q=>by subst q; rw [hp] at e; cases e
 have al:∀ a,H a≠none->upd H p o a≠none:=fun a h=>by
  by_cases e:a=p
  ·rw [e,aM]; simp
  ·rw [ao e]; exact h
 refine ⟨fun a u e _=>by rw [ao (ne e)]; exact e,hz,fun a h=>(hz' a h).imp id .inl,fun a h=>(hg a h).imp id fun e=>by rw [e]; exact hp,al,fun q a h=>al a ?_⟩
 rcases hz' a h with c | c
 ·exact q a c
 ·obtain ⟨_,xs,e⟩:=ow a c
  rw [e]; simp
theorem bD {p:Addr}(ow:Own Z H G)(za:∀ a,Z a->H a≠none)(hg:∀ a,G' a->G a)(hl:xs.length<=LIM)(r:RepL K (bS Z G G') H m.kid ts xs G')(hm:m≠.s)(k:Out K Z H G (m,.lst ts) Q)(hp:H p=none):Q (.ref p) (upd H p (.lst xs)):=by
 have ne:∀ {a u},H a=some u->a≠p:=fun {a u} e q=>by subst q; rw [hp] at e; cases e
 have np:∀ a,G' a->a≠p:=fun a h=>by obtain ⟨_,ys,e⟩:=ow a (hg a h); exact ne e
 refine k _ (bS Z G G') _ (fun a=>G' a\/a=p) ⟨p,xs,rfl,hl,(LstR.own hm).mpr ⟨.inr rfl,aM⟩,?_⟩ ?_ (gV hp ow (fun a h=>h.imp (hg a) id) _ (fun a h=>.inl h) fun a h=>h.imp id a2A)
 ·refine (r.keep (gK hp) (fun _ z=>z) fun a u _ e=>by rw [ao (ne e)]; exact e).mono fun a h=>⟨.inl h,np a h⟩
 ·rintro a (h | h)
  ·obtain ⟨nz,ys,e⟩:=ow a (hg a h)
   exact ⟨fun z=>z.elim nz fun q=>q.2 h,ys,by rw [ao (ne e)]; exact e⟩
  ·subst h
   refine ⟨fun z=>z.elim (fun q=>za a q hp) fun q=>?_,xs,aM⟩
   obtain ⟨_,ys,e⟩:=ow a q.1
   rw [hp] at e; cases e
theorem jh {p:Addr}(ow:Own Z H G)(hg:∀ a,G' a->G a)(hl:xs.length<=LIM)(r:RepL K (bS Z G G') H m.kid ts xs G')(k:Out K Z H G (m,.tup ts) Q)(hp:H p=none):Q (.ref p) (upd H p (.tup xs)):=by
 have ne:∀ {a u},H a=some u->a≠p:=fun {a u} e q=>by subst q; rw [hp] at e; cases e
 refine k _ (bS Z G G') _ G' ⟨p,xs,rfl,.inl (.inl aM),hl,?_⟩ ?_ (gV hp ow (fun a h=>.inl (hg a h)) _ (fun a h=>.inl h) fun a h=>h.imp id a2A)
 ·exact r.keep (gK hp) (fun _ z=>z) fun a u _ e=>by rw [ao (ne e)]; exact e
 ·intro a h
  obtain ⟨nz,ys,e⟩:=ow a (hg a h)
  exact ⟨fun z=>z.elim nz fun q=>q.2 h,ys,by rw [ao (ne e)]; exact e⟩
theorem gY {v:V}{H':Hp}(ow:Own Z H G)(hg:∀ a,G' a->G a)(hl:xs.length<=LIM)(r:RepL K (bS Z G G') H m.kid ts xs G')(k:Out K Z H G (m,.tup ts) Q)(same:∀ b o,H b=some o->H' b=some o)(hv:∃ c,v=.ref c/\SqT K H' c xs):Q v H':=by
 obtain ⟨c,rfl,hs⟩:=hv
 have al:∀ a,H a≠none->H' a≠none:=fun a h=>by
  cases e:H a with
  | none=>exact absurd e h
  | some o=>rw [same a o e]; simp
 refine k _ (bS Z G G') _ G' ⟨c,xs,rfl,hs,hl,?_⟩ (fun a h=>?_) ⟨fun a o e _=>same a o e,fun a h=>.inl h,fun a h=>h.imp id fun q=>.inl q.1,fun a h=>.inl (hg a h),al,fun q a h=>al a ?_⟩
 ·refine r.keep ⟨fun a o _ e=>same a o e,fun a ys e=>?_,fun a o u e=>same a _ e⟩ (fun _ z=>z) fun a u _ e=>same a u e
  rcases e with e | ⟨u,e⟩
  ·exact .inl (same a _ e)
  ·exact .inr ⟨u,same a _ e⟩
 ·obtain ⟨nz,ys,e⟩:=ow a (hg a h)
  exact ⟨fun z=>z.elim nz fun q=>q.2 h,ys,same a _ e⟩
 ·rcases h with h | h
  ·exact q a h
  ·obtain ⟨_,ys,e⟩:=ow a h.1
   rw [e]; simp
theorem cq {p:Addr}{h:Bool}{w:W}(ow:Own Z H G)(za:∀ a,Z a->H a≠none)(hl:xs.length<=LIM)(r:∃ G',(∀ a,G' a->G a)/\RepL K (bS Z G G') H m ts xs G')(hn:newL h m ts=some w)(k:Out K Z H G w Q)(hp:H p=none):Q (.ref p) (upd H p (.lst xs)):=by
 obtain ⟨G',hg,r⟩:=r
 unfold newL at hn
 split at hn
 ·split at hn
  ·rename_i hlv
   cases hn
   refine bD (m:=.d) (G':=no) ow za (fun _ z=>z.elim) hl ?_ (by simp) k hp
   exact r.leaves (fun _ _ _ e=>e) hlv
  ·cases hn
 ·cases hn
  exact bD (m:=m.up) ow za hg hl (by rw [dk]; exact r) (cF m) k hp
end
end
end MR
namespace MR
open L2 L3 M
open PySem (Addr Str sizeLine)
section
variable {K:a0a}{h:Bool}
theorem cY {α β:Type}{ws:List α}{x y:β}(e:ws.length=[x,y].length):∃ a b,ws=[a,b]:=by
 match ws,e with
 | [a,b],_=>exact ⟨a,b,rfl⟩
theorem Ay {α β:Type}{ws:List α}{x:β}(e:ws.length=[x].length):∃ a,ws=[a]:=by
 match ws,e with
 | [a],_=>exact ⟨a,rfl⟩
theorem bO {Z:Fp}{H:Hp}{G:Fp}{u w:W}{x y:V}(r:RepW K Z H [u,w] [x,y] G):∃ G1 G2,(∀ a,G1 a->G a)/\(∀ a,G2 a->G a)/\(∀ a,G1 a->¬ G2 a)/\Rep K Z H u.1 u.2 x G1/\Rep K Z H w.1 w.2 y G2:=by
 obtain ⟨x',r',G1,G2,e,h1,h2,d,p,y',r2,G3,G4,e2,h3,h4,d2,q,z⟩:=r
 cases e; cases e2
 exact ⟨G1,G3,h1,fun a ha=>h2 a (h3 a ha),fun a ha hb=>d a ha (h3 a hb),p,q⟩
theorem yR {Z:Fp}{H:Hp}{G:Fp}{w:W}{x:V}(r:RepW K Z H [w] [x] G):Rep K Z H w.1 w.2 x G:=by
 obtain ⟨x',r',G1,G2,e,h1,h2,d,p,z⟩:=r
 cases e
 exact p.mono h1
theorem bw {ws:List W}{xs:List V}{Z:Fp}{H:Hp}{G:Fp}{w:W}(hw:ws=[w])(r:RepW K Z H ws xs G):∃ x,xs=[x]/\Rep K Z H w.1 w.2 x G:=by
 subst hw
 obtain ⟨x,hx⟩:=Ay (x:=()) (show xs.length=[()].length from r.length)
 subst hx
 exact ⟨x,rfl,yR r⟩
theorem iA {n:Nat}(h:n<=LIM):n < sizeLine:=a2k h (by decide)
theorem bI {n:Nat}(h:n<=LIM):n<=sizeLine:=a10 (iA h)
theorem cz {n:Nat}(h:a4 n=true):n<=LIM:=of_decide_eq_true h
theorem kS {o:Op}{C:Int->Int->Prop}{g:Int->Int->T}(inv:∀ {u v w:W},oSem o h [u,v]=some w->∃ m n i j,u=(m,.int i)/\v=(n,.int j)/\C i j/\w=(.d,g i j))(gv:Int->Int->V)(hg:∀ {Z:Fp} {H:Hp} {G:Fp} {Q:VK} {i j:Int},Out K Z H G (.d,g i j) Q->Q (gv i j) H) :
  Loc K 2 o h fun xs H Q=>∀ x y,xs=[x,y]->rI C gv x y H Q:=by
 intro ws w xs Z H G Q hn e r ow za k x y hx
 subst hx
 obtain ⟨u,v,rfl⟩:=cY r.length.symm
 obtain ⟨m,n,i,j,rfl,rfl,c,rfl⟩:=inv e
 obtain ⟨G1,G2,_,_,_,r1,r2⟩:=bO r
 exact ⟨i,j,r1,r2,c,hg k⟩
theorem fV {o:Op}{g:Int->Int->T}(inv:∀ {u v w:W},oSem o h [u,v]=some w->∃ m n i j,u=(m,.int i)/\v=(n,.int j)/\w=(.d,g i j))(gv:Int->Int->V)(hg:∀ {Z:Fp} {H:Hp} {G:Fp} {Q:VK} {i j:Int},Out K Z H G (.d,g i j) Q->Q (gv i j) H) :
  Loc K 2 o h fun xs H Q=>∀ x y,xs=[x,y]->rI0 gv x y H Q:=by
 intro ws w xs Z H G Q hn e r ow za k x y hx
 subst hx
 obtain ⟨u,v,rfl⟩:=cY r.length.symm
 obtain ⟨m,n,i,j,rfl,rfl,rfl⟩:=inv e
 obtain ⟨G1,G2,_,_,_,r1,r2⟩:=bO r
 exact ⟨i,j,r1,r2,hg k⟩
theorem oI {u v w:W}(e:oSem .sub h [u,v]=some w):∃ m n i j,u=(m,.int i)/\v=(n,.int j)/\w=(.d,.int (i-j)):=by
 obtain ⟨m,a⟩:=u; obtain ⟨n,b⟩:=v
 cases a<;>first | (cases e; done) | (cases b<;>first | (cases e; exact ⟨_,_,_,_,rfl,rfl,rfl⟩) | cases e)
theorem kE {u v w:W}(e:oSem .lt h [u,v]=some w):∃ m n i j,u=(m,.int i)/\v=(n,.int j)/\w=(.d,.bl (decide (i < j))):=by
 obtain ⟨m,a⟩:=u; obtain ⟨n,b⟩:=v
 cases a<;>first | (cases e; done) | (cases b<;>first | (cases e; exact ⟨_,_,_,_,rfl,rfl,rfl⟩) | cases e)
theorem kY {u v w:W}(e:oSem .gt h [u,v]=some w):∃ m n i j,u=(m,.int i)/\v=(n,.int j)/\w=(.d,.bl (decide (j < i))):=by
 obtain ⟨m,a⟩:=u; obtain ⟨n,b⟩:=v
 cases a<;>first | (cases e; done) | (cases b<;>first | (cases e; exact ⟨_,_,_,_,rfl,rfl,rfl⟩) | cases e)
theorem kZ {u v w:W}(e:oSem .ge h [u,v]=some w):∃ m n i j,u=(m,.int i)/\v=(n,.int j)/\w=(.d,.bl (decide (j<=i))):=by
 obtain ⟨m,a⟩:=u; obtain ⟨n,b⟩:=v
 cases a<;>first | (cases e; done) | (cases b<;>first | (cases e; exact ⟨_,_,_,_,rfl,rfl,rfl⟩) | cases e)
theorem mZ {u v w:W}(e:oSem .fdiv h [u,v]=some w):∃ m n i j,u=(m,.int i)/\v=(n,.int j)/\ur i j/\w=(.d,.int (i / j)):=by
 obtain ⟨m,a⟩:=u; obtain ⟨n,b⟩:=v
 cases a<;>first | (cases e; done) | (cases b<;>try (cases e; done))
 rename_i i j
 rw [nH] at e
 split at e
 ·rename_i hc
  rw [a0i,decide_eq_true_eq,decide_eq_true_eq] at hc
  cases e
  exact ⟨_,_,_,_,rfl,rfl,hc,rfl⟩
 ·cases e
theorem pT {u v w:W}(e:oSem .mod h [u,v]=some w):∃ m n i j,u=(m,.int i)/\v=(n,.int j)/\(0 < j)/\w=(.d,.int (i % j)):=by
 obtain ⟨m,a⟩:=u; obtain ⟨n,b⟩:=v
 cases a<;>first | (cases e; done) | (cases b<;>try (cases e; done))
 rename_i i j
 rw [rS] at e
 split at e
 ·rename_i hc
  rw [decide_eq_true_eq] at hc
  cases e
  exact ⟨_,_,_,_,rfl,rfl,hc,rfl⟩
 ·cases e
theorem pF {u v w:W}(e:oSem .pow h [u,v]=some w):∃ m n i j,u=(m,.int i)/\v=(n,.int j)/\um i j/\w=(.d,.int (i ^ j.toNat)):=by
 obtain ⟨m,a⟩:=u; obtain ⟨n,b⟩:=v
 cases a<;>first | (cases e; done) | (cases b<;>try (cases e; done))
 rename_i i j
 rw [xC] at e
 split at e
 ·rename_i hc
  rw [a0i,a0i,decide_eq_true_eq,decide_eq_true_eq,decide_eq_true_eq] at hc
  cases e
  exact ⟨_,_,_,_,rfl,rfl,⟨hc.1.1,hc.1.2,hc.2⟩,rfl⟩
 ·cases e
theorem qW:Loc K 2 .sub h fun xs H Q=>∀ x y,xs=[x,y]->rI0 (fun i j=>.int (i-j)) x y H Q:=fV oI _ fun k=>aO k
theorem uF:Loc K 2 .lt h fun xs H Q=>∀ x y,xs=[x,y]->rI0 (fun i j=>.bl (decide (i < j))) x y H Q:=fV kE _ fun k=>bL k
theorem sr:Loc K 2 .gt h fun xs H Q=>∀ x y,xs=[x,y]->rI0 (fun i j=>.bl (decide (j < i))) x y H Q:=fV kY _ fun k=>bL k
theorem ud:Loc K 2 .ge h fun xs H Q=>∀ x y,xs=[x,y]->rI0 (fun i j=>.bl (decide (j<=i))) x y H Q:=fV kZ _ fun k=>bL k
theorem n8:Loc K 2 .fdiv h fun xs H Q=>∀ x y,xs=[x,y]->rI ur (fun i j=>.int (i / j)) x y H Q:=kS mZ _ fun k=>aO k
theorem qB:Loc K 2 .mod h fun xs H Q=>∀ x y,xs=[x,y]->rI (fun _ j=>0 < j) (fun i j=>.int (i % j)) x y H Q:=kS pT _ fun k=>aO k
theorem om:Loc K 2 .pow h fun xs H Q=>∀ x y,xs=[x,y]->rI um (fun i j=>.int (i ^ j.toNat)) x y H Q:=kS pF _ fun k=>aO k
theorem br {Z:Fp}{H:Hp}{G:Fp}{m:Md}{ts:List T}{v:V}(r:Rep K Z H m (.lst ts) v G):∃ a xs,v=.ref a/\H a=some (.lst xs)/\xs.length<=LIM/\RepL K Z H m.kid ts xs G:=by
 obtain ⟨a,xs,e,l,q,p⟩:=r
 exact ⟨a,xs,e,by cases m<;>exact q.2,l,p.mono fun _ z=>z.1⟩
theorem b9 {Z:Fp}{H:Hp}{G:Fp}{m:Md}{ts:List T}{v:V}(r:Rep K Z H m (.tup ts) v G):∃ a xs,v=.ref a/\SqT K H a xs/\xs.length<=LIM/\RepL K Z H m.kid ts xs G:=r
theorem ia {Z:Fp}{H:Hp}{G G1 G2:Fp}{m n:Md}{ts us:List T}{xs ys:List V}(w1:∀ a,G1 a->G a)(w2:∀ a,G2 a->G a)(d:∀ a,G1 a->¬ G2 a)(r1:RepL K Z H m ts xs G1)(r2:RepL K Z H n us ys G2) :
  ∃ G',(∀ a,G' a->G a)/\RepL K (bS Z G G') H (m.meet n) (ts++us) (xs++ys) G':=by
 obtain ⟨A,a1,a2⟩:=RepL.weak (cg m n).1 r1
 obtain ⟨B,b1,b2⟩:=RepL.weak (cg m n).2 r2
 refine ⟨fun b=>A b\/B b,fun b hb=>hb.elim (fun z=>w1 b (a1 b z)) fun z=>w2 b (b1 b z),RepL.append (fun _ z=>.inl z) (fun _ z=>.inr z) (fun b za zb=>d b (a1 b za) (b1 b zb)) (a2.zmono fun b hb=>?_) (b2.zmono fun b hb=>?_)⟩
 ·exact hb.imp id fun z=>⟨w1 b z.1,fun q=>q.elim z.2 fun w=>d b z.1 (b1 b w)⟩
 ·exact hb.imp id fun z=>⟨w2 b z.1,fun q=>q.elim (fun w=>d b (a1 b w) z.1) z.2⟩
theorem qi {p q:Str}(h1:sOk p=true)(h2:sOk q=true)(hl:p.cps.size+q.cps.size<=LIM):sOk (p++q)=true:=by
 unfold sOk at *
 rw [a0i] at *
 refine ⟨?_,decide_eq_true ?_⟩
 ·show Array.all (p.cps++q.cps) _=true
  rw [Array.all_append,a0i]
  exact ⟨h1.1,h2.1⟩
 ·show (p.cps++q.cps).size<=LIM
  rw [Array.size_append]
  exact hl
theorem qv (rT:R2)(hT:∀ {Z:Fp} {H:Hp} {G:Fp} {Q:VK} {a b:Addr} {xs ys:List V} {ts:List T},SqT K H a xs->SqT K H b ys->xs≠[]->xs.length+ys.length<=LIM->Own Z H G->(∃ G',(∀ a,G' a->G a)/\RepL K (bS Z G G') H .s ts (xs++ys) G')->Out K Z H G (.s,.tup ts) Q->rT (.ref a) (.ref b) H Q) :
  Loc K 2 .add h fun xs H Q=>∀ x y,xs=[x,y]->rI0 (fun i j=>.int (i+j)) x y H Q\/(∃ i j,x=.str i/\y=.str j/\i.length+j.length<=sizeLine/\Q (.str (i++j)) H)\/xT x y H Q\/rT x y H Q:=by
 intro ws w xs Z H G Q hn e r ow za k x y hx
 subst hx
 obtain ⟨⟨m,a⟩,⟨n,b⟩,rfl⟩:=cY r.length.symm
 obtain ⟨G1,G2,w1,w2,d,r1,r2⟩:=bO r
 cases a<;>first | (cases e; done) | (cases b<;>try (cases e; done))
 ·cases e
  exact .inl ⟨_,_,r1,r2,aO k⟩
 ·rename_i p q
  rw [lO] at e
  split at e
  ·rename_i hf
   cases e
   refine .inr (.inl ⟨p,q,r1.1,r2.1,bI (cz hf),fI k ?_⟩)
   exact qi r1.2 r2.2 (cz hf)
  ·cases e
 ·rename_i ts us
  rw [nX] at e
  split at e
  ·rename_i hf
   cases e
   rw [a0i] at hf
   obtain ⟨a,xs,rfl,hs,hl,p⟩:=b9 r1
   obtain ⟨b,ys,rfl,hs2,hl2,p2⟩:=b9 r2
   have hlen:=cz hf.1
   have e1:=p.length
   have e2:=p2.length
   refine .inr (.inr (.inr (hT hs hs2 ?_ (by omega) ow ?_ k)))
   ·rintro rfl
    cases ts with
    | nil=>simp at hf
    | cons _ _=>simp at e1
   ·refine ⟨no,fun _ z=>z.elim,RepL.append (G1:=no) (G2:=no) (fun _ z=>z) (fun _ z=>z) (fun _ z _=>z) ((RepL.sh p).zmono fun b hb=>?_) ((RepL.sh p2).zmono fun b hb=>?_)⟩
    ·exact hb.imp id fun z=>⟨w1 b z,fun q=>q⟩
    ·exact hb.imp id fun z=>⟨w2 b z,fun q=>q⟩
  ·cases e
 ·rename_i ts us
  rw [lD] at e
  split at e
  ·rename_i hf
   obtain ⟨a,xs,rfl,hs,hl,p⟩:=br r1
   obtain ⟨b,ys,rfl,hs2,hl2,p2⟩:=br r2
   have hlen:=cz hf
   have e1:=p.length
   have e2:=p2.length
   have hl3:(xs++ys).length<=LIM:=by rw [a0c]; omega
   refine .inr (.inr (.inl ⟨a,b,xs,ys,rfl,rfl,hs,hs2,bI (by omega),fun q hq=>?_⟩))
   exact cq ow za hl3 (ia w1 w2 d p p2) e k hq
  ·cases e
theorem oH:Loc K 2 .mul h fun xs H Q=>∀ x y,xs=[x,y]->rI CMul (fun i j=>.int (i * j)) x y H Q\/wH x y H Q:=by
 intro ws w xs Z H G Q hn e r ow za k x y hx
 subst hx
 obtain ⟨⟨m,a⟩,⟨n,b⟩,rfl⟩:=cY r.length.symm
 obtain ⟨G1,G2,w1,w2,d,r1,r2⟩:=bO r
 cases a<;>first | (cases e; done) | (cases b<;>try (cases e; done))
 ·rename_i i j
  rw [nA] at e
  split at e
  ·rename_i hc
   cases e
   refine .inl ⟨i,j,r1,r2,?_,aO k⟩
   rw [a14,decide_eq_true_eq,decide_eq_true_eq] at hc
   have h64:(2:Int) ^ 64=18446744073709551616:=by decide
   unfold CMul
   rw [h64]
   omega
  ·cases e
 ·rename_i ts j
  have e':(if decide (j.natAbs < 4611686018427387904)&&a4 (ts.length * j.toNat) then newL h .s (a0e j.toNat ts).flatten else none)=some w:=e
  split at e'
  ·rename_i hc
   rw [a0i,decide_eq_true_eq] at hc
   obtain ⟨a,xs,rfl,hs,hl,p⟩:=br r1
   have hlen:=cz hc.2
   have e1:=p.length
   have hl3:((a0e j.toNat xs).flatten).length<=LIM:=by
    rw [a1A,a1C,a1p,e1,a2q]; exact hlen
   refine .inr ⟨a,j,xs,rfl,r2,hs,by omega,by omega,bI (by rw [e1]; exact hlen),fun q hq=>?_⟩
   refine cq ow za hl3 ⟨no,fun _ z=>z.elim,?_⟩ e' k hq
   have ps:=(RepL.sh p).zmono (Z':=bS Z G no) fun b hb=>hb.imp id fun z=>⟨w1 b z,fun q=>q⟩
   generalize j.toNat=c
   induction c with
   | zero=>exact rfl
   | succ c ih=>exact RepL.append (fun _ z=>z) (fun _ z=>z) (fun _ z _=>z) ps ih
  ·cases e'
theorem nS {Z:Fp}{H:Hp}{G:Fp}{m:Md}{ts:List T}{xs:List V}{i:Int}{t:T}(p:RepL K Z H m ts xs G)(e:M.atI ts i=some t):∃ x,L2.atI xs i=some x/\Rep K Z H m t x G:=by
 unfold M.atI at e
 have hn:M.ixN ts.length i=L2.ixN xs.length i:=by rw [p.length]; rfl
 cases e1:M.ixN ts.length i with
 | none=>rw [e1] at e; cases e
 | some j =>
  rw [e1] at e
  obtain ⟨x,hx,r⟩:=p.get (show ts[j]?=some t from e)
  refine ⟨x,?_,r⟩
  unfold L2.atI
  rw [<- hn,e1]
  exact hx
theorem oF {x:Str}{c:Nat}(h:sOk x=true)(hc:c∈x.cps.toList):sOk ⟨#[c]⟩=true:=by
 unfold sOk at *
 rw [a0i] at *
 refine ⟨?_,rfl⟩
 have h1:=h.1
 rw [a1m] at h1
 have h2:=h1 c (Array.mem_def.mpr hc)
 rw [a1m]
 intro y hy
 have:y=c:=by simpa using hy
 rw [this]; exact h2
theorem fS {x:Str}(h:sOk x=true):x.cps.size<=LIM:=by
 unfold sOk at h
 rw [a0i,decide_eq_true_eq] at h
 exact h.2
theorem tq:Loc K 2 .ix h fun xs H Q=>∀ x y,xs=[x,y]->(∃ p xs i v,x=.ref p/\y=.int i/\(SqL K H p xs\/SqT K H p xs)/\L2.atI xs i=some v/\Q v H)\/(∃ z i c,x=.str z/\y=.int i/\z.length<=sizeLine/\L2.atI z.cps.toList i=some c/\Q (.str ⟨#[c]⟩) H):=by
 intro ws w xs Z H G Q hn e r ow za k x y hx
 subst hx
 obtain ⟨⟨m,a⟩,⟨n,b⟩,rfl⟩:=cY r.length.symm
 obtain ⟨G1,G2,w1,w2,d,r1,r2⟩:=bO r
 cases b with
 | int i =>
  cases a with
  | lst ts =>
   obtain ⟨a,xs,rfl,hs,hl,p⟩:=br r1
   have e':(M.atI ts i).map (fun t=>(m.kid,t))=some w:=e
   cases e1:M.atI ts i with
   | none=>rw [e1] at e'; cases e'
   | some t =>
    rw [e1] at e'; cases e'
    obtain ⟨v,hv,rv⟩:=nS p e1
    exact .inl ⟨a,xs,i,v,rfl,r2,.inl (.inl (.inl hs)),hv,eD ow k (rv.mono w1)⟩
  | tup ts =>
   obtain ⟨a,xs,rfl,hs,hl,p⟩:=b9 r1
   have e':(M.atI ts i).map (fun t=>(m.kid,t))=some w:=e
   cases e1:M.atI ts i with
   | none=>rw [e1] at e'; cases e'
   | some t =>
    rw [e1] at e'; cases e'
    obtain ⟨v,hv,rv⟩:=nS p e1
    exact .inl ⟨a,xs,i,v,rfl,r2,.inr hs,hv,eD ow k (rv.mono w1)⟩
  | str z =>
   have e':(M.atI z.cps.toList i).map (fun c=>((.d,.str ⟨#[c]⟩):W))=some w:=e
   cases e1:M.atI z.cps.toList i with
   | none=>rw [e1] at e'; cases e'
   | some c =>
    rw [e1] at e'; cases e'
    refine .inr ⟨z,i,c,r1.1,r2,bI (fS r1.2),e1,fI k (oF r1.2 ?_)⟩
    unfold M.atI at e1
    cases e2:M.ixN z.cps.toList.length i with
    | none=>rw [e2] at e1; cases e1
    | some j=>rw [e2] at e1; exact a0W e1
  | scr ns =>
   obtain ⟨a,rfl,hL,hs⟩:=r1
   have e':(M.atI ns i).map (fun n=>((.d,.int n):W))=some w:=e
   cases e1:M.atI ns i with
   | none=>rw [e1] at e'; cases e'
   | some n =>
    rw [e1] at e'; cases e'
    refine .inl ⟨a,_,i,.int n,rfl,r2,.inl hs.sq,?_,aO k⟩
    unfold M.atI at e1
    unfold L2.atI
    rw [a0d]
    cases e2:M.ixN ns.length i with
    | none=>rw [e2] at e1; cases e1
    | some j =>
     rw [e2] at e1
     rw [show L2.ixN ns.length i=some j from e2]
     show (ns.map V.int)[j]?=_
     rw [a0x,show ns[j]?=some n from e1]
     rfl
  | _=>cases e
 | _=>cases a<;>cases e
theorem qh:Loc K 1 .len h fun xs H Q=>∃ x n,xs=[x]/\(match x with
  | .str y=>y.length<=sizeLine/\n=y.length
  | .byt y=>y.size<=sizeLine/\n=y.size
  | .ref p=>(∃ xs,SqL K H p xs/\n=xs.length)\/∃ xs,SqT K H p xs/\n=xs.length
  | _=>False)/\Q (.int (n:Nat)) H:=by
 intro ws w xs Z H G Q hn e r ow za k
 match ws,hn with
 | [(m,a)],_ =>
  obtain ⟨x,rfl,r1⟩:=bw rfl r
  cases a with
  | lst ts =>
   obtain ⟨a,xs,hx,hs,hl,p⟩:=br r1
   cases e
   refine ⟨x,ts.length,rfl,?_,aO k⟩
   rw [show x=.ref a from hx]
   exact .inl ⟨xs,.inl (.inl hs),p.length.symm⟩
  | tup ts =>
   obtain ⟨a,xs,hx,hs,hl,p⟩:=b9 r1
   cases e
   refine ⟨x,ts.length,rfl,?_,aO k⟩
   rw [show x=.ref a from hx]
   exact .inr ⟨xs,hs,p.length.symm⟩
  | str z =>
   cases e
   refine ⟨x,z.length,rfl,?_,aO k⟩
   rw [show x=.str z from r1.1]
   exact ⟨bI (fS r1.2),rfl⟩
  | scr ns =>
   obtain ⟨a,hx,hL,hs⟩:=r1
   cases e
   refine ⟨x,ns.length,rfl,?_,aO k⟩
   rw [show x=.ref a from hx]
   exact .inl ⟨_,hs.sq,by rw [a0d]⟩
  | dct ks vs=>exact (show False from r1).elim
  | _=>cases e
theorem iO {Z:Fp}{H:Hp}{G:Fp}{m:Md}:∀ ns:List Int,RepL K Z H m (ns.map T.int) (ns.map V.int) G
 | []=>rfl
 | n::ns=>⟨.int n,ns.map V.int,no,no,rfl,fun _ z=>z.elim,fun _ z=>z.elim,fun _ z=>z.elim,rfl,iO ns⟩
theorem nN:Loc K 1 .list h fun xs H Q=>∃ p ys,xs=[.ref p]/\(SqL K H p ys\/SqT K H p ys)/\∀ l,H l=none->Q (.ref l) (upd H l (.lst ys)):=by
 intro ws w xs Z H G Q hn e r ow za k
 match ws,hn with
 | [(m,a)],_ =>
  obtain ⟨x,rfl,r1⟩:=bw rfl r
  cases a with
  | lst ts =>
   obtain ⟨a,xs,hx,hs,hl,p⟩:=br r1
   refine ⟨a,xs,by rw [hx],.inl (.inl (.inl hs)),fun q hq=>cq ow za hl ⟨G,fun _ z=>z,p.zmono fun _ z=>.inl z⟩ e k hq⟩
  | tup ts =>
   obtain ⟨a,xs,hx,hs,hl,p⟩:=b9 r1
   refine ⟨a,xs,by rw [hx],.inr hs,fun q hq=>cq ow za hl ⟨G,fun _ z=>z,p.zmono fun _ z=>.inl z⟩ e k hq⟩
  | scr ns =>
   obtain ⟨a,hx,hL,hs⟩:=r1
   cases e
   refine ⟨a,_,by rw [hx],.inl hs.sq,fun q hq=>bD (G':=no) ow za (fun _ z=>z.elim) (by rw [a0d]; exact hL) (iO ns) (by simp) k hq⟩
  | _=>cases e
theorem fH {Z:Fp}{H:Hp}{G:Fp}{m:Md}:∀ {ts:List T} {ns:List Bool} {xs:List V},boolsOf ts=some ns->RepL K Z H m ts xs G->xs=ns.map V.bl:=by
 intro ts
 induction ts generalizing G with
 | nil=>intro ns xs e r; cases e; exact r
 | cons t ts ih =>
  intro ns xs e r
  obtain ⟨x,r',G1,G2,rfl,_,_,_,p,q⟩:=r
  cases t with
  | bl i =>
   cases e1:boolsOf ts with
   | none=>simp [boolsOf,e1] at e
   | some ms =>
    have:ns=i::ms:=by simpa [boolsOf,e1] using e.symm
    subst this
    rw [a0C,<- ih e1 q,show x=.bl i from p]
  | _=>cases e
theorem oO:Loc K 1 .all h fun xs H Q=>∃ (a:Addr) (bs:List Bool),xs=[.ref a]/\SqL K H a (bs.map V.bl)/\Q (.bl (bs.all id)) H:=by
 intro ws w xs Z H G Q hn e r ow za k
 match ws,hn with
 | [(m,a)],_ =>
  obtain ⟨x,rfl,r1⟩:=bw rfl r
  cases a with
  | lst ts =>
   obtain ⟨a,xs,hx,hs,hl,p⟩:=br r1
   have e':(boolsOf ts).map (fun ns=>((.d,.bl (ns.all id)):W))=some w:=e
   cases e1:boolsOf ts with
   | none=>rw [e1] at e'; cases e'
   | some ns =>
    rw [e1] at e'; cases e'
    rw [fH e1 p] at hs
    exact ⟨a,ns,by rw [hx],.inl (.inl hs),bL k⟩
  | _=>cases e
theorem qc:Loc K 2 .max h fun xs H Q=>∃ i j,xs=[.int i,.int j]/\Q (.int (if j > i then j else i)) H:=by
 intro ws w xs Z H G Q hn e r ow za k
 match ws,hn with
 | [(m,a),(n,b)],_ =>
  obtain ⟨x,y,hx⟩:∃ x y,xs=[x,y]:=cY (x:=()) (y:=()) (show xs.length=[(),()].length from r.length)
  subst hx
  obtain ⟨G1,G2,_,_,_,r1,r2⟩:=bO r
  cases a<;>first | (cases e; done) | (cases b<;>first | (cases e; exact ⟨_,_,by rw [show x=_ from r1,show y=_ from r2],aO k⟩) | cases e)
end
end MR
namespace MR
open L2 L3 M
open PySem (Addr Str sizeLine)
section
variable {K:a0a}{sl:Cf}{sf:Nat->Option Nat}{C:Call}{σ:L2.St}{Z Z' Z1:Fp}{H H' H1:Hp}{Fs Fs' Fs1:Fps}{η η' η1:Env}{G G' R F:Fp}
mutual
theorem Rep.sany:∀ {t:T} {v:V} {G G':Fp},Rep K Z H .s t v G->Rep K Z H .s t v G'
 | .non,_,_,_,h=>h
 | .bl _,_,_,_,h=>h
 | .int _,_,_,_,h=>h
 | .str _,_,_,_,h=>h
 | .scr _,_,_,_,h=>h
 | .tup ts,_,_,_,⟨a,xs,e,q,l,r⟩=>⟨a,xs,e,q,l,RepL.sany r⟩
 | .lst ts,_,_,_,⟨a,xs,e,l,q,r⟩=>⟨a,xs,e,l,q,RepL.sany r⟩
 | .dct _ _,_,_,_,h=>h.elim
 | .ins _ _ _,_,_,_,h=>h.elim
 | .gone,_,_,_,h=>h
theorem RepL.sany:∀ {ts:List T} {xs:List V} {G G':Fp},RepL K Z H .s ts xs G->RepL K Z H .s ts xs G'
 | [],_,_,_,h=>h
 | t::ts,xs,_,_,⟨x,r,G1,G2,e,h1,h2,hd,p,q⟩=>⟨x,r,no,no,e,fun _ z=>z.elim,fun _ z=>z.elim,fun _ z=>z.elim,Rep.sany p,RepL.sany q⟩
end
theorem bh:∀ (η:Env) (i j:Nat) (o:Option W),rd (wr η i o) j=if j=i/\i < η.length then o else rd η j
 | [],i,j,o=>by simp [wr,rd]
 | p::η,0,0,o=>by simp [wr,rd]
 | p::η,0,j+1,o=>by simp [wr,rd]
 | p::η,i+1,0,o=>by simp [wr,rd]
 | p::η,i+1,j+1,o=>by
  show rd (wr η i o) j=_
  rw [bh η i j o]
  simp [rd]
theorem c9:∀ {η:Env} {i:Nat} {w:W},rd η i=some w->i < η.length
 | [],_,_,h=>by cases h
 | _::_,0,_,_=>by simp
 | _::η,i+1,_,h=>by have:=c9 (η:=η) (i:=i) h; simp; exact this
theorem dg (h:∀ a,F a->G a):Step Z H G Z H F:=(Step.refl Z H G).mono (fun _ z=>z) h
theorem vo {i j:Nat}(hs:sf i=some j)(σ:L2.St)(H:Hp)(Q:VK)(h:wE K sf C (.var i) σ H Q):j7 j σ H Q:=by
 obtain ⟨pv,Z,Fs,η,w,η',A,ev,k⟩:=h
 obtain ⟨w',e1,e2⟩:=aF (show ret η ((rd η i).bind look)=_ from ev)
 cases e2
 cases e3:rd η i with
 | none=>rw [e3] at e1; cases e1
 | some u =>
  rw [e3] at e1
  obtain ⟨m,t⟩:=u
  obtain ⟨v,r,hv⟩:=A.env i m t e3
  refine ⟨v,hv.1 j hs,k v Z H Fs no A ?_ (dg fun a ha=>ha.elim id fun z=>z.elim)⟩
  cases m with
  | s=>cases e1; exact r.sany
  | d =>
   have e1':(if t.leaf=true then some (Md.d,t) else none)=some w:=e1
   split at e1'
   ·rename_i hl; cases e1'; exact r.leaf (fun _ _ _ q=>q) hl
   ·cases e1'
  | o m =>
   have e1':(if t.leaf=true then some (Md.d,t) else none)=some w:=e1
   split at e1'
   ·rename_i hl; cases e1'; exact r.leaf (fun _ _ _ q=>q) hl
   ·cases e1'
noncomputable def t9 (Fs:Fps)(i:Nat):Fps:=fun j a=>j≠i/\Fs j a
theorem sQ {e:E}{i j:Nat}(he:∀ η,evE C e η=ret (del η i) (rd η i))(hs:sf i=some j)(σ:L2.St)(H:Hp)(Q:VK)(h:wE K sf C e σ H Q):j7 j σ H Q:=by
 obtain ⟨pv,Z,Fs,η,w,η',A,ev,k⟩:=h
 rw [he] at ev
 obtain ⟨w',e1,e2⟩:=aF ev
 cases e2
 obtain ⟨m,t⟩:=w
 obtain ⟨v,r,hv⟩:=A.env i m t e1
 refine ⟨v,hv.1 j hs,k v Z H (t9 Fs i) (Fs i) ⟨⟨fun a ⟨l,h1,h2⟩=>A.gd.own a ⟨l,h2⟩,fun l l' a h1 h2=>A.gd.dis l l' a h1.2 h2.2,A.gd.zal⟩,fun l m' t' e=>?_,fun a ha=>A.gd.own a ⟨i,ha⟩,fun a ha ⟨l,h1,h2⟩=>h1 (A.gd.dis l i a h2 ha),A.lk,A.ln⟩ r (dg fun a ha=>ha.elim (fun ⟨l,h1,h2⟩=>⟨l,h2⟩) fun z=>⟨i,z⟩)⟩
 rw [bh] at e
 split at e
 ·cases e
 ·rename_i hne
  obtain ⟨v',r',hv'⟩:=A.env l m' t' e
  have hli:l≠i:=fun z=>hne ⟨z,c9 e1⟩
  exact ⟨v',r'.mono fun a ha=>⟨hli,ha⟩,hv'⟩
theorem fP {t:T}{v:V}(hv:∀ {Z:Fp} {H:Hp},Rep K Z H .d t v no)(σ:L2.St)(H:Hp)(Q:VK)(h:wE K sf C (.cst t) σ H Q):tC v σ H Q:=by
 obtain ⟨pv,Z,Fs,η,w,η',A,ev,k⟩:=h
 cases ev
 exact k v Z H Fs no A hv (dg fun a ha=>ha.elim id fun z=>z.elim)
theorem uZ {es:List E}(hn:es.length<=LIM)(σ:L2.St)(H:Hp)(Q:VK)(h:wE K sf C (.tup es) σ H Q):zx (wL K sf C es) σ H Q:=by
 obtain ⟨pv,Z,Fs,η,w,η',A,ev,k⟩:=h
 obtain ⟨⟨ws,η1⟩,h1,h2⟩:=ae (show (evL C es η).bind iX=_ from ev)
 cases h2
 refine ⟨pv,Z,Fs,η,ws,_,A,h1,fun vs Z' H' Fs' G B r s=>?_⟩
 have hl:vs.length<=LIM:=by rw [r.length,dQ h1]; exact hn
 obtain ⟨G',g1,g2⟩:=RepW.to (fun u hu=>er hu) r
 refine ⟨bI hl,fun p hp=>jh (m:=(eR ws).up) B.own g1 hl (by rw [dk]; exact g2) (cQ B s k) hp⟩
theorem uA {b:Bool}{es:List E}(hn:es.length<=LIM)(σ:L2.St)(H:Hp)(Q:VK)(h:wE K sf C (.lst b es) σ H Q):wY (wL K sf C es) σ H Q:=by
 obtain ⟨pv,Z,Fs,η,w,η',A,ev,k⟩:=h
 obtain ⟨⟨ws,η1⟩,h1,h2⟩:=ae (show (evL C es η).bind (lC b)=_ from ev)
 cases h2
 refine ⟨pv,Z,Fs,η,ws,_,A,h1,fun vs Z' H' Fs' G B r s=>?_⟩
 have hl:vs.length<=LIM:=by rw [r.length,dQ h1]; exact hn
 refine ⟨bI hl,fun p hp=>?_⟩
 cases b with
 | true =>
  obtain ⟨G',g1,g2⟩:=RepW.to (fun u hu=>er hu) r
  exact bD (m:=(eR ws).up) B.own B.gd.zal g1 hl (by rw [dk]; exact g2) (cF _) (cQ B s k) hp
 | false =>
  obtain ⟨G',g1,g2⟩:=RepW.to (N:=.s) (fun u hu=>by cases lf u.1 u.2<;>rfl) r
  exact bD (m:=.o .s) B.own B.gd.zal g1 hl g2 (by simp) (cQ B s k) hp
noncomputable def wT (K:a0a)(sl:Nat->Option Nat)(C:Call)(e:E):TT:=fun σ H Q=>∃ pv Z Fs η w η' b,At K ⟨sl,pv⟩ σ Z H Fs η no/\evE C e η=.ok (w,η')/\truth w.2=some b /\
 ∀ Z' H' Fs',At K ⟨sl,pv⟩ σ Z' H' Fs' η' no->Step Z H (tot Fs) Z' H' (tot Fs')->Q b H'
noncomputable def TrV (K:a0a)(x:V)(H:Hp)(k:Bool):Prop :=
 match x with
 | .non=>k=false
 | .bl b=>k=b
 | .int i=>k=(i != 0)
 | .str y=>y.length<=sizeLine/\k=((y.length:Int) != 0)
 | .ref p=>(∃ xs,SqL K H p xs/\k=!xs.isEmpty)\/(∃ xs,SqT K H p xs/\k=!xs.isEmpty)
 | _=>False
theorem cw {α β:Type}{xs:List α}{ys:List β}(h:xs.length=ys.length):xs.isEmpty=ys.isEmpty:=by
 cases xs<;>cases ys<;>first | rfl | simp at h
theorem dj {m:Md}{t:T}{v:V}{b:Bool}(e:truth t=some b)(r:Rep K Z H m t v G):TrV K v H b:=by
 cases t with
 | non=>cases e; rw [show v=_ from r]; rfl
 | bl c=>cases e; rw [show v=_ from r]; rfl
 | int i=>cases e; rw [show v=_ from r]; rfl
 | str x =>
  cases e; rw [show v=_ from r.1]
  refine ⟨bI (fS r.2),?_⟩
  show (x.cps.size != 0)=(((x.cps.size:Nat):Int) != 0)
  cases x.cps.size with
  | zero=>rfl
  | succ n=>simp; omega
 | tup ts =>
  obtain ⟨a,xs,rfl,hs,hl,p⟩:=b9 r
  cases e
  exact .inr ⟨xs,hs,by rw [cw p.length]⟩
 | lst ts =>
  obtain ⟨a,xs,rfl,hs,hl,p⟩:=br r
  cases e
  exact .inl ⟨xs,.inl (.inl hs),by rw [cw p.length]⟩
 | scr ns =>
  obtain ⟨a,rfl,hL,hs⟩:=r
  cases e
  exact .inl ⟨_,hs.sq,by rw [cw (a0d ..)]⟩
 | dct _ _=>exact r.elim
 | ins _ _ _=>cases e
 | gone=>cases e
theorem iE {e:E}{w:W}{b:Bool}{Q:Bool->Hp->Prop}(A:At K sl σ Z H Fs η no)(ev:evE C e η=.ok (w,η'))(ht:truth w.2=some b)(k:∀ Z' H' Fs',At K sl σ Z' H' Fs' η' no->Step Z H (tot Fs) Z' H' (tot Fs')->Q b H'):wT K sl.sl C e σ H Q:=⟨sl.pv,Z,Fs,η,w,η',b,A,ev,ht,k⟩
theorem bu {α:Type}{f g:Env->Res α}{p:W×Env}{r:α}(h:onT f g p=.ok r):∃ b,truth p.1.2=some b/\(if b=true then f p.2 else g p.2)=.ok r:=by
 unfold onT at h
 split at h
 ·rename_i e; exact ⟨true,e,h⟩
 ·rename_i e; exact ⟨false,e,h⟩
 ·cases h
theorem vC {e:E}(σ:L2.St)(H:Hp)(Q:Bool->Hp->Prop)(h:wT K sf C (.not e) σ H Q):xy (wT K sf C e) σ H Q:=by
 obtain ⟨pv,Z,Fs,η,w,η',b,A,ev,ht,k⟩:=h
 obtain ⟨⟨u,η1⟩,h1,h2⟩:=ae (show (evE C e η).bind jQ=_ from ev)
 obtain ⟨w',e1,e2⟩:=aF (show ret η1 ((truth u.2).map fun b=>((.d,.bl (!b)):W))=_ from h2)
 cases e2
 cases e3:truth u.2 with
 | none=>rw [e3] at e1; cases e1
 | some c =>
  rw [e3] at e1; cases e1
  have:b=!c:=by cases ht; rfl
  subst this
  exact iE A h1 e3 k
theorem sd {a b:E}(σ:L2.St)(H:Hp)(Q:Bool->Hp->Prop)(h:wT K sf C (.and a b) σ H Q):zC (wT K sf C a) (wT K sf C b) σ H Q:=by
 obtain ⟨pv,Z,Fs,η,w,η',c,A,ev,ht,k⟩:=h
 obtain ⟨⟨u,η1⟩,h1,h2⟩:=ae (show (evE C a η).bind (mY (evE C b))=_ from ev)
 obtain ⟨d,h3,h4⟩:=bu (show onT (evE C b) (okW u) (u,η1)=_ from h2)
 refine iE A h1 h3 fun Z1 H1 Fs1 A1 s1=>?_
 cases d with
 | true=>rw [if_pos rfl] at h4 ⊢; exact iE A1 h4 ht fun Z2 H2 Fs2 A2 s2=>k Z2 H2 Fs2 A2 (s1.trans s2)
 | false =>
  rw [if_neg a0h] at h4 ⊢
  cases h4
  cases (h3.symm.trans ht)
  exact k Z1 H1 Fs1 A1 s1
theorem y9 {a b:E}(σ:L2.St)(H:Hp)(Q:Bool->Hp->Prop)(h:wT K sf C (.or a b) σ H Q):tOr (wT K sf C a) (wT K sf C b) σ H Q:=by
 obtain ⟨pv,Z,Fs,η,w,η',c,A,ev,ht,k⟩:=h
 obtain ⟨⟨u,η1⟩,h1,h2⟩:=ae (show (evE C a η).bind (kOr (evE C b))=_ from ev)
 obtain ⟨d,h3,h4⟩:=bu (show onT (okW u) (evE C b) (u,η1)=_ from h2)
 refine iE A h1 h3 fun Z1 H1 Fs1 A1 s1=>?_
 cases d with
 | false=>rw [if_neg a0h] at h4 ⊢; exact iE A1 h4 ht fun Z2 H2 Fs2 A2 s2=>k Z2 H2 Fs2 A2 (s1.trans s2)
 | true =>
  rw [if_pos rfl] at h4 ⊢
  cases h4
  cases (h3.symm.trans ht)
  exact k Z1 H1 Fs1 A1 s1
theorem wj {c a b:E}(σ:L2.St)(H:Hp)(Q:VK)(h:wE K sf C (.ifx c a b) σ H Q):tIf (wT K sf C c) (wE K sf C a) (wE K sf C b) σ H Q:=by
 obtain ⟨pv,Z,Fs,η,w,η',A,ev,k⟩:=h
 obtain ⟨⟨u,η1⟩,h1,h2⟩:=ae (show (evE C c η).bind (onT (evE C a) (evE C b))=_ from ev)
 obtain ⟨d,h3,h4⟩:=bu h2
 refine iE A h1 h3 fun Z1 H1 Fs1 A1 s1=>?_
 cases d with
 | true=>rw [if_pos rfl] at h4 ⊢; exact ⟨pv,Z1,Fs1,η1,w,η',A1,h4,fun v Z' H' Fs' G B r s=>k v Z' H' Fs' G B r (s1.trans s)⟩
 | false=>rw [if_neg a0h] at h4 ⊢; exact ⟨pv,Z1,Fs1,η1,w,η',A1,h4,fun v Z' H' Fs' G B r s=>k v Z' H' Fs' G B r (s1.trans s)⟩
theorem wo {e:E}(σ:L2.St)(H:Hp)(Q:VK)(h:wE K sf C (.not e) σ H Q):wE K sf C e σ H fun x H1=>∃ k,TrV K x H1 k/\Q (.bl (!k)) H1:=by
 obtain ⟨pv,Z,Fs,η,w,η',A,ev,k⟩:=h
 obtain ⟨⟨u,η1⟩,h1,h2⟩:=ae (show (evE C e η).bind jQ=_ from ev)
 obtain ⟨w',e1,e2⟩:=aF (show ret η1 ((truth u.2).map fun b=>((.d,.bl (!b)):W))=_ from h2)
 cases e2
 cases e3:truth u.2 with
 | none=>rw [e3] at e1; cases e1
 | some c =>
  rw [e3] at e1; cases e1
  exact ⟨pv,Z,Fs,η,u,_,A,h1,fun v Z' H' Fs' G B r s=>⟨c,dj e3 r,k _ Z' H' Fs' no B.bare rfl (s.mono (fun _ z=>z) fun a ha=>ha.elim .inl fun z=>z.elim)⟩⟩
theorem ym {a b:E}(σ:L2.St)(H:Hp)(Q:VK)(h:wE K sf C (.or a b) σ H Q):wE K sf C a σ H fun x H1=>∃ k,TrV K x H1 k/\if k=true then Q x H1 else wE K sf C b σ H1 Q:=by
 obtain ⟨pv,Z,Fs,η,w,η',A,ev,k⟩:=h
 obtain ⟨⟨u,η1⟩,h1,h2⟩:=ae (show (evE C a η).bind (kOr (evE C b))=_ from ev)
 obtain ⟨d,h3,h4⟩:=bu (show onT (okW u) (evE C b) (u,η1)=_ from h2)
 refine ⟨pv,Z,Fs,η,u,η1,A,h1,fun v Z1 H1 Fs1 G B r s=>⟨d,dj h3 r,?_⟩⟩
 cases d with
 | false=>rw [if_neg a0h] at h4 ⊢; exact ⟨pv,Z1,Fs1,η1,w,η',B.bare,h4,fun v' Z' H' Fs' G' B' r' s'=>k v' Z' H' Fs' G' B' r' ((s.mono (fun _ z=>z) fun _ z=>.inl z).trans s')⟩
 | true =>
  rw [if_pos rfl] at h4 ⊢
  cases h4
  exact k v Z1 H1 Fs1 G B r s
end
end MR
namespace MR
open L2 L3 M
open PySem (Addr Str sizeLine)
section
variable {K:a0a}{sl:Cf}{sf:Nat->Option Nat}{C:Call}{σ:L2.St}{Z Z' Z1:Fp}{H H' H1:Hp}{Fs Fs' Fs1:Fps}{η η' η1:Env}{G G' R F:Fp}
structure Wk (K:a0a)(J:It)(Z:Fp)(H0:Hp)(ts:List (List W)):Prop where
 go:∀ H i,Stay Z H0 H->i < ts.length->J.go i H
 stop:∀ H i,Stay Z H0 H->ts.length<=i->J.stop i H
 len:ts.length<=LIM
noncomputable def nF (K:a0a)(J:It)(Z:Fp)(H0:Hp)(ts:List (List W)):Prop :=
 ∀ H i x H',Stay Z H0 H->i < ts.length->J.yld i H x H'->H'=H/\∃ w,ts[i]?=some [w]/\Rep K Z H w.1 w.2 x no
noncomputable def A6 (K:a0a)(J:It)(Z:Fp)(H0:Hp)(ts:List (List W)):Prop :=
 ∀ H i x H',Stay Z H0 H->i < ts.length->J.yld i H x H'->∃ p y z u w,x=.ref p/\(∀ b o,H b=some o->H' b=some o)/\SqT K H' p [y,z]/\ts[i]?=some [u,w]/\Rep K Z H u.1 u.2 y no/\Rep K Z H w.1 w.2 z no
theorem gR (same:∀ b o,H b=some o->H' b=some o):Stay Z H H':=by
 refine ⟨fun a o _ e=>same a o e,fun a ys e=>?_,fun a o u e=>same a _ e⟩
 rcases e with e | ⟨u,e⟩
 ·exact .inl (same a _ e)
 ·exact .inr ⟨u,same a _ e⟩
theorem eN (same:∀ a o,H a=some o->H' a=some o):Step Z H G Z H' G:=by
 have al:∀ a,H a≠none->H' a≠none:=fun a h=>by
  cases e:H a with
  | none=>exact absurd e h
  | some o=>rw [same a o e]; simp
 exact ⟨fun a o h _=>same a o h,fun _ h=>h,fun _ h=>.inl h,fun _ h=>.inl h,al,fun z a h=>al a (z a h)⟩
theorem wB {p:Addr}{o:HO}(hp:H p=none):∀ b u,H b=some u->upd H p o b=some u:=fun a u e=>by
 have:a≠p:=fun q=>by subst q; rw [hp] at e; cases e
 rw [ao this]; exact e
noncomputable def Yld (K:a0a)(J:It)(Z:Fp)(H0:Hp)(ts:List (List W)):Nat->Prop
 | 1=>nF K J Z H0 ts
 | 2=>A6 K J Z H0 ts
 | _=>False
noncomputable def wI (K:a0a)(sl:Nat->Option Nat)(C:Call)(n:Nat)(k:Ik)(src:List E):TI:=fun σ H R=>∃ pv Z Fs η ws η' ts,At K ⟨sl,pv⟩ σ Z H Fs η no/\evL C src η=.ok (ws,η')/\bC k ws=some ts /\
 ∀ J Z' H' Fs',At K ⟨sl,pv⟩ σ Z' H' Fs' η' no->Step Z H (tot Fs) Z' H' (tot Fs')->Wk K J Z' H' ts->Yld K J Z' H' ts n->R J H'
theorem At.freeze (A:At K sl σ Z H Fs η G):At K sl σ (fun a=>Z a\/G a) H Fs η no:=by
 refine ⟨⟨fun a ha=>⟨fun z=>z.elim (A.gd.own a ha).1 fun q=>A.dis a q ha,(A.gd.own a ha).2⟩,A.gd.dis,fun a h=>h.elim (A.gd.zal a) fun q=>?_⟩,fun i m t e=>?_,bP,fun _ z=>z.elim,A.lk,A.ln⟩
 ·obtain ⟨_,xs,e⟩:=A.own a q
  rw [e]; simp
 ·obtain ⟨v,r,h⟩:=A.env i m t e
  exact ⟨v,r.zmono fun a h=>.inl h,h⟩
theorem a9 (o:Own Z' H' G)(s:Step Z H F Z' H' (fun a=>F' a\/G a)):Step Z H F (fun a=>Z' a\/G a) H' F' where
 keep:=s.keep
 zm:=fun a h=>.inl (s.zm a h)
 zn:=fun a h=>h.elim (s.zn a) fun q=>.inr (s.fn a (.inr q))
 fn:=fun a h=>s.fn a (.inl h)
 al:=s.al
 za:=fun z a h=>h.elim (s.za z a) fun q=>by
  obtain ⟨_,xs,e⟩:=o a q
  rw [e]; simp
theorem bE {a:Addr}{xs:List V}{H0:Hp}(s:Stay Z H0 H)(hz:Z a)(h:H0 a=some (.lst xs)):SqL K H a xs:=.inl (.inl (s.1 a _ hz h))
theorem oh {a:Addr}{xs:List V}{ts:List T}(hL:xs.length<=LIM)(hz:Z a)(h:H a=some (.lst xs))(r:RepL K Z H .s ts xs no):Wk K (Itl K a) Z H (ts.map fun t=>[(.s,t)])/\nF K (Itl K a) Z H (ts.map fun t=>[(.s,t)]):=by
 have hl:=r.length
 refine ⟨⟨fun H' i s hi=>?_,fun H' i s hi=>?_,by rw [a0d]; omega⟩,fun H' i x H'' s hi y=>?_⟩
 ·rw [a0d] at hi
  exact ⟨xs,xs[i]'(by omega),bE s hz h,by simp⟩
 ·rw [a0d] at hi
  exact ⟨xs,bE s hz h,by omega⟩
 ·rw [a0d] at hi
  obtain ⟨rfl,y⟩:=y
  have hx:=y xs (bE s hz h)
  obtain ⟨x',hx',rx⟩:=r.get (show ts[i]?=some ts[i] by simp)
  rw [hx] at hx'; cases hx'
  refine ⟨rfl,(.s,ts[i]),by rw [a0x,show ts[i]?=some ts[i] by simp]; rfl,rx.keep s (fun _ z=>z) fun _ _ z=>z.elim⟩
theorem uC {a:Addr}{xs:List V}{ts:List T}(hL:xs.length<=LIM)(h:SqT K H a xs)(r:RepL K Z H .s ts xs no):Wk K (Itt K a) Z H (ts.map fun t=>[(.s,t)])/\nF K (Itt K a) Z H (ts.map fun t=>[(.s,t)]):=by
 have hl:=r.length
 refine ⟨⟨fun H' i s hi=>?_,fun H' i s hi=>?_,by rw [a0d]; omega⟩,fun H' i x H'' s hi y=>?_⟩
 ·rw [a0d] at hi
  exact ⟨xs,xs[i]'(by omega),s.sqt h,by simp⟩
 ·rw [a0d] at hi
  exact ⟨xs,s.sqt h,by omega⟩
 ·rw [a0d] at hi
  obtain ⟨rfl,y⟩:=y
  have hx:=y xs (s.sqt h)
  obtain ⟨x',hx',rx⟩:=r.get (show ts[i]?=some ts[i] by simp)
  rw [hx] at hx'; cases hx'
  refine ⟨rfl,(.s,ts[i]),by rw [a0x,show ts[i]?=some ts[i] by simp]; rfl,rx.keep s (fun _ z=>z) fun _ _ z=>z.elim⟩
theorem uv {lo:Int}{n:Nat}(hL:n<=LIM):Wk K (Itr lo n) Z H ((a0T n).map fun (k:Nat)=>[(.d,.int (lo+k))])/\nF K (Itr lo n) Z H ((a0T n).map fun (k:Nat)=>[(.d,.int (lo+k))]):=by
 refine ⟨⟨fun H' i s hi=>by show i < n; simpa using hi,fun H' i s hi=>by show n<=i; simpa using hi,by simpa using hL⟩,fun H' i x H'' s hi y=>?_⟩
 obtain ⟨rfl,rfl⟩:=y
 refine ⟨rfl,(.d,.int (lo+i)),?_,rfl⟩
 rw [a0d,a02] at hi
 rw [a0x,List.getElem?_range hi]
 rfl
theorem iu {a:Addr}{ns:List Int}{H0:Hp}(s:Stay Z H0 H)(h:ScrR K H0 a ns):SqL K H a (ns.map V.int):=(h.keep s.2.2).sq
theorem vp {a:Addr}{ns:List Int}(hL:ns.length<=LIM)(h:ScrR K H a ns):Wk K (Itl K a) Z H (ns.map fun n=>[(.d,.int n)])/\nF K (Itl K a) Z H (ns.map fun n=>[(.d,.int n)]):=by
 refine ⟨⟨fun H' i s hi=>?_,fun H' i s hi=>?_,by rw [a0d]; exact hL⟩,fun H' i x H'' s hi y=>?_⟩
 ·rw [a0d] at hi
  exact ⟨_,(ns.map V.int)[i]'(by rw [a0d]; exact hi),iu s h,by simp⟩
 ·rw [a0d] at hi
  exact ⟨_,iu s h,by rw [a0d]; exact hi⟩
 ·rw [a0d] at hi
  obtain ⟨rfl,y⟩:=y
  have hx:=y _ (iu s h)
  refine ⟨rfl,(.d,.int ns[i]),by rw [a0x,show ns[i]?=some ns[i] by simp]; rfl,?_⟩
  rw [a0x,show ns[i]?=some ns[i] by simp] at hx
  exact (a0w hx).symm
theorem uR {e:E}(σ:L2.St)(H:Hp)(R:It->Hp->Prop)(h:wI K sf C 1 .seq [e] σ H R):mU K (wE K sf C e) σ H R\/yE K (wE K sf C e) σ H R:=by
 obtain ⟨pv,Z,Fs,η,ws,η',ts,A,ev,ht,k⟩:=h
 obtain ⟨⟨m,a⟩,η1,us,e1,e2,rfl⟩:=aR ev
 cases e2
 cases a with
 | lst ts' =>
  cases ht
  refine .inl ⟨pv,Z,Fs,η,_,_,A,e1,fun v Z' H' Fs' G B r s=>?_⟩
  obtain ⟨a,xs,rfl,l,q,p⟩:=Rep.sh r
  obtain ⟨w1,w2⟩:=oh l q.1 q.2 p.sany
  exact ⟨a,rfl,⟨xs,.inl (.inl q.2)⟩,k _ _ H' Fs' B.freeze (a9 B.own s) w1 w2⟩
 | tup ts' =>
  cases ht
  refine .inr ⟨pv,Z,Fs,η,_,_,A,e1,fun v Z' H' Fs' G B r s=>?_⟩
  obtain ⟨a,xs,rfl,q,l,p⟩:=Rep.sh r
  obtain ⟨w1,w2⟩:=uC l q p.sany
  exact ⟨a,rfl,⟨xs,q⟩,k _ _ H' Fs' B.freeze (a9 B.own s) w1 w2⟩
 | scr ns =>
  cases ht
  refine .inl ⟨pv,Z,Fs,η,_,_,A,e1,fun v Z' H' Fs' G B r s=>?_⟩
  obtain ⟨a,rfl,hl,q⟩:=r
  obtain ⟨w1,w2⟩:=vp (Z:=fun a=>Z' a\/G a) hl q
  exact ⟨a,rfl,⟨_,q.sq⟩,k _ _ H' Fs' B.freeze (a9 B.own s) w1 w2⟩
 | _=>cases ht
theorem p62:(2:Int) ^ 62=4611686018427387904:=by decide
theorem qX {e:E}(σ:L2.St)(H:Hp)(R:It->Hp->Prop)(h:wI K sf C 1 .rng [e] σ H R):rB (wL K sf C [e]) σ H R:=by
 obtain ⟨pv,Z,Fs,η,ws,η',ts,A,ev,ht,k⟩:=h
 refine ⟨pv,Z,Fs,η,ws,η',A,ev,fun vs Z' H' Fs' G B r s=>?_⟩
 obtain ⟨⟨m,a⟩,η1,us,e1,e2,rfl⟩:=aR ev
 cases e2
 obtain ⟨x,rfl,r1⟩:=bw rfl r
 cases a with
 | int n =>
  rw [mV] at ht
  split at ht
  ·rename_i hc
   rw [a0i,decide_eq_true_eq] at hc
   cases ht
   refine ⟨n,by rw [show x=_ from r1],by rw [p62]; omega,by rw [p62]; omega,?_⟩
   obtain ⟨w1,w2⟩:=uv (K:=K) (Z:=fun a=>Z' a\/G a) (H:=H') (lo:=0) (n:=n.toNat) (cz hc.2)
   have hz:∀ k:Nat,(0:Int)+(k:Int)=k:=fun k=>by omega
   simp only [hz] at w1 w2
   exact k _ _ H' Fs' B.freeze (a9 B.own s) w1 w2
  ·cases ht
 | _=>cases ht
theorem fA {m:Md}:∀ {ts:List T} {n i:Nat} {t:T},ts[i]?=some t->(dW m n ts)[i]?=some [(.d,.int ((n+i:Nat):Int)),(m,t)]
 | t::ts,n,0,_,h=>by cases h; rfl
 | t::ts,n,i+1,_,h=>by
  have:=fA (m:=m) (ts:=ts) (n:=n+1) (i:=i) h
  rw [show n+1+i=n+(i+1) by omega] at this
  exact this
 | [],_,_,_,h=>by simp at h
theorem bQ {m:Md}:∀ {ts:List T} {n:Nat},(dW m n ts).length=ts.length
 | [],_=>rfl
 | t::ts,n=>by show (dW m (n+1) ts).length+1=ts.length+1; rw [bQ]
theorem tV {e:E}(σ:L2.St)(H:Hp)(R:It->Hp->Prop)(h:wI K sf C 2 .enm [e] σ H R):rf K (wL K sf C [e]) σ H R:=by
 obtain ⟨pv,Z,Fs,η,ws,η',ts,A,ev,ht,k⟩:=h
 refine ⟨pv,Z,Fs,η,ws,η',A,ev,fun vs Z' H' Fs' G B r s=>?_⟩
 obtain ⟨⟨m,a⟩,η1,us,e1,e2,rfl⟩:=aR ev
 cases e2
 obtain ⟨x,rfl,r1⟩:=bw rfl r
 obtain ⟨t1,rfl⟩:∃ t1,a=.lst t1:=by cases a<;>first | exact ⟨_,rfl⟩ | cases ht
 cases ht
 obtain ⟨a,xs,rfl,l,q,p⟩:=Rep.sh r1
 have l1:=p.length
 refine ⟨a,rfl,⟨xs,.inl (.inl q.2)⟩,k _ _ H' Fs' B.freeze (a9 B.own s) ⟨fun H0 i s hi=>?_,fun H0 i s hi=>?_,by rw [bQ]; omega⟩ fun H0 i x H1 s hi y=>?_⟩
 ·rw [bQ] at hi
  exact ⟨xs,xs[i]'(by omega),bE s q.1 q.2,by simp⟩
 ·rw [bQ] at hi
  exact ⟨xs,bE s q.1 q.2,by omega⟩
 ·rw [bQ] at hi
  obtain ⟨p',x1,rfl,hp,rfl,hx⟩:=y
  obtain ⟨x',hx',rx⟩:=p.get (show t1[i]?=some t1[i] by simp)
  rw [hx xs (bE s q.1 q.2)] at hx'; cases hx'
  refine ⟨p',.int i,x1,(.d,.int ((0+i:Nat):Int)),(.s,t1[i]),rfl,wB hp,.inl (.inl aM),fA (by simp),?_,rx.sany.keep s (fun _ z=>z) fun _ _ z=>z.elim⟩
  show V.int (i:Int)=V.int ((0+i:Nat):Int)
  rw [a15]
theorem eO:∀ {ts:List T} {ps:List (List W)} {i:Nat} {t:T},bB ts=some ps->ts[i]?=some t->∃ x y,t=.tup [x,y]/\ps[i]?=some [(.s,x),(.s,y)]
 | [],_,_,_,_,h=>by simp at h
 | u::ts,ps,i,t,e,h=>by
  match u,e with
  | .tup [x,y],e =>
   have e':(bB ts).map ([(.s,x),(.s,y)]::·)=some ps:=e
   cases e1:bB ts with
   | none=>rw [e1] at e'; cases e'
   | some qs =>
    rw [e1] at e'
    cases e'
    cases i with
    | zero=>cases h; exact ⟨x,y,rfl,rfl⟩
    | succ i=>exact eO (ts:=ts) (ps:=qs) (i:=i) e1 h
theorem d5:∀ {ts:List T} {ps:List (List W)},bB ts=some ps->ps.length=ts.length
 | [],_,e=>by cases e; rfl
 | u::ts,ps,e=>by
  match u,e with
  | .tup [x,y],e =>
   have e':(bB ts).map ([(.s,x),(.s,y)]::·)=some ps:=e
   cases e1:bB ts with
   | none=>rw [e1] at e'; cases e'
   | some qs =>
    rw [e1] at e'
    cases e'
    rw [a0t,a0t,d5 e1]
theorem sY {e:E}(σ:L2.St)(H:Hp)(R:It->Hp->Prop)(h:wI K sf C 2 .sq2 [e] σ H R):mU K (wE K sf C e) σ H R:=by
 obtain ⟨pv,Z,Fs,η,ws,η',ts,A,ev,ht,k⟩:=h
 obtain ⟨⟨m,a⟩,η1,us,e1,e2,rfl⟩:=aR ev
 cases e2
 obtain ⟨t1,rfl⟩:∃ t1,a=.lst t1:=by cases a<;>first | exact ⟨_,rfl⟩ | cases ht
 have ht':bB t1=some ts:=ht
 have hlen:=d5 ht'
 refine ⟨pv,Z,Fs,η,_,_,A,e1,fun v Z' H' Fs' G B r s=>?_⟩
 obtain ⟨a,xs,rfl,l,q,p⟩:=Rep.sh r
 have hl:=p.length
 refine ⟨a,rfl,⟨xs,.inl (.inl q.2)⟩,k _ _ H' Fs' B.freeze (a9 B.own s) ⟨fun H0 i s hi=>?_,fun H0 i s hi=>?_,by omega⟩ fun H0 i x H1 s hi y=>?_⟩
 ·exact ⟨xs,xs[i]'(by omega),bE s q.1 q.2,by simp⟩
 ·exact ⟨xs,bE s q.1 q.2,by omega⟩
 ·obtain ⟨rfl,y⟩:=y
  have hx:=y xs (bE s q.1 q.2)
  have hi':i < t1.length:=by omega
  obtain ⟨x',hx',rx⟩:=p.get (show t1[i]?=some t1[i] by simp)
  rw [hx] at hx'; cases hx'
  obtain ⟨u,w,et,eu⟩:=eO ht' (show t1[i]?=some t1[i] by simp)
  rw [et] at rx
  obtain ⟨c,ys,rfl,hq,_,y1,r1,G1,G2,rfl,g1,g2,d,p1,y2,r2,G3,G4,e2,g3,g4,d2,p2,q2⟩:=rx
  cases e2
  obtain rfl:r2=[]:=q2
  refine ⟨c,y1,y2,(.s,u),(.s,w),rfl,fun _ _ e=>e,s.sqt hq,eu,(p1.mono (G':=no) fun a h=>(g1 a h).1).sany.keep s (fun _ z=>z) fun _ _ z=>z.elim,(p2.mono (G':=no) fun a h=>(g2 a (g3 a h)).1).sany.keep s (fun _ z=>z) fun _ _ z=>z.elim⟩
end
end MR
namespace MR
open L2 L3 M
open PySem (Addr Str sizeLine)
section
variable {K:a0a}{sl:Cf}{sf sg:Nat->Option Nat}{C:Call}{σ σ2:L2.St}{Z Z' Z1:Fp}{H H' H1:Hp}{Fs Fs' Fs1:Fps}{η η' η1:Env}{G G' R F:Fp}{tg is:List Nat}{pv val:Nat->Option V}
theorem aI:∀ (tg:List Nat) (η:Env) (i:Nat),rd (aw tg η) i=if i∈tg then none else rd η i
 | [],η,i=>by simp [aw]
 | t::tg,η,i=>by
  show rd (aw tg (wr η t none)) i=_
  rw [aI tg,bh]
  by_cases h1:i∈tg
  ·simp [h1]
  ·by_cases h2:i=t
   ·subst h2
    rw [if_neg h1,if_pos a0o]
    split
    ·rfl
    ·rename_i hn
     cases e:rd η i with
     | none=>rfl
     | some w=>exact absurd ⟨rfl,c9 e⟩ hn
   ·rw [if_neg h1,if_neg (show ¬ i∈t::tg by simp [h1,h2]),if_neg (show ¬ (i=t/\t < η.length) from fun h=>h2 h.1)]
noncomputable def Nn (η η':Env):Prop:=∀ i,rd η i=none->rd η' i=none
theorem Nn.refl (η:Env):Nn η η:=fun _ h=>h
theorem Nn.trans {a b c:Env}(h:Nn a b)(k:Nn b c):Nn a c:=fun i e=>k i (h i e)
theorem iK (η:Env)(j:Nat):Nn η (del η j):=fun i e=>by
 rw [bh]; split
 ·rfl
 ·exact e
theorem mr {η:Env}{j:Nat}{w:W}(h:rd η j≠none):Nn η (put η j w):=fun i e=>by
 rw [bh]; split
 ·rename_i hc; rw [<- hc.1] at h; exact absurd e h
 ·exact e
theorem de:∀ {is:List Nat} {ws:List W} {η0 η:Env},(∀ i∈is,rd η0 i≠none)->Nn η0 η->Nn η0 (putAll is ws η)
 | [],_,_,_,_,h=>h
 | _::_,[],_,_,_,h=>h
 | i::is,w::ws,η0,η,hi,h=>by
  show Nn η0 (putAll is ws (put η i w))
  refine de (fun j hj=>hi j (a0p _ hj)) fun j e=>?_
  rw [bh]; split
  ·rename_i hc; rw [hc.1] at e; exact absurd e (hi i a0o)
  ·exact h j e
theorem eG {f:Env->Res (Option W×Env)}(hf:∀ {η o η'},f η=.ok (o,η')->Nn η η'):∀ {ts:List (List W)} {η η':Env} {acc ws:List W},(∀ i∈tg,rd η i=none)->aQ tg f ts η acc=.ok (ws,η')->Nn η η'
 | [],η,η',acc,ws,_,h=>by cases h; exact Nn.refl _
 | t::ts,η,η',acc,ws,ht,h=>by
  obtain ⟨η1,h1,h2⟩:=ae (show (ofO (aW tg t η)).bind (fun η1=>(f η1).bind fun p=>aQ tg f ts (aw tg p.2) (acc++p.1.toList))=_ from h)
  obtain ⟨⟨o,η2⟩,h3,h4⟩:=ae h2
  have hb:∀ {tg:List Nat} {t:List W} {η η1:Env},aW tg t η=some η1->∀ i,i ∉ tg->rd η1 i=rd η i:=fun {tg}=>by
   induction tg with
   | nil=>intro t η η1 h i hi; cases t with
    | nil=>cases h; rfl
    | cons _ _=>cases h
   | cons j tg ih=>intro t η η1 h i hi; cases t with
    | nil=>cases h
    | cons w t =>
     have:=ih (show aW tg t (put η j w)=some η1 from h) i (fun z=>hi (a0p _ z))
     rw [this,bh,if_neg fun z=>hi (by rw [z.1]; exact a0o)]
  have e1:=hb (b8 h1)
  have hd:∀ i,rd η i=none->rd (aw tg η2) i=none:=fun i e=>by
   rw [aI]
   split
   ·rfl
   ·rename_i hi
    exact hf h3 i (by rw [e1 i hi]; exact e)
  exact Nn.trans (b:=aw tg η2) hd (eG hf (fun i hi=>by rw [aI,if_pos hi]) h4)
noncomputable def eg (sf sg:Nat->Option Nat)(tg:List Nat)(is:List Nat):Prop :=
 ∀ i j,sg i=some j->(∃ k:Nat,tg[k]?=some i/\j=k)\/(i ∉ tg/\∃ (k j0:Nat),j=tg.length+k/\is[k]?=some j0/\sf i=some j0)
theorem At.pin (A:At K ⟨sf,pv⟩ σ Z H Fs η G):∃ val,(∀ i u,pv i=some u->val i=some u)/\At K ⟨sf,val⟩ σ Z H Fs η G/\∀ i m t,rd η i=some (m,t)->val i≠none:=by
 have ch:∀ i,∃ o:Option V,(∀ u,pv i=some u->o=some u)/\(∀ u j,o=some u->sf i=some j->σ[j]?=some (some u))/\∀ m t,rd η i=some (m,t)->∃ v,o=some v/\Rep K Z H m t v (Fs i)/\(∀ j,sf i=some j->σ[j]?=some (some v)):=fun i=>by
  cases e:rd η i with
  | none=>exact ⟨pv i,fun _ h=>h,fun u j h hs=>A.lk i u j h hs,fun _ _ h=>by cases h⟩
  | some w =>
   obtain ⟨m,t⟩:=w
   obtain ⟨v,r,h1,h2⟩:=A.env i m t e
   refine ⟨some v,fun u h=>by rw [h2 u h],fun u j h hs=>?_,fun m' t' h=>by cases h; exact ⟨v,rfl,r,h1⟩⟩
   cases h
   exact h1 j hs
 obtain ⟨val,hval⟩:=Classical.axiomOfChoice ch
 refine ⟨val,fun i u h=>(hval i).1 u h,⟨A.gd,fun i m t e=>?_,A.own,A.dis,fun i u j h hs=>(hval i).2.1 u j h hs,A.ln⟩,fun i m t e=>?_⟩
 ·obtain ⟨v,h1,r,h2⟩:=(hval i).2.2 m t e
  exact ⟨v,r,h2,fun u hu=>by rw [show val i=some u from hu] at h1; cases h1; rfl⟩
 ·obtain ⟨v,h1,r,h2⟩:=(hval i).2.2 m t e
  rw [h1]; simp
theorem At.unpin (h:∀ i u,pv i=some u->val i=some u)(A:At K ⟨sf,val⟩ σ Z H Fs η G):At K ⟨sf,pv⟩ σ Z H Fs η G :=
 ⟨A.gd,fun i m t e=>let ⟨v,r,h1,h2⟩:=A.env i m t e; ⟨v,r,h1,fun u hu=>h2 u (h i u hu)⟩,A.own,A.dis,fun i u j hu hs=>A.lk i u j (h i u hu) hs,A.ln⟩
noncomputable def inV (val:Nat->Option V)(tg:List Nat):Nat->Option V:=fun i=>if i∈tg then none else val i
theorem At.into (I:eg sf sg tg is)(ht:∀ i∈tg,rd η i=none)(hσ:∀ (k j0:Nat) (v:V),is[k]?=some j0->σ[j0]?=some (some v)->σ2[tg.length+k]?=some (some v))(hl:∀ i j,sg i=some j->j < σ2.length)(A:At K ⟨sf,val⟩ σ Z H Fs η G):At K ⟨sg,inV val tg⟩ σ2 Z H Fs η G:=by
 refine ⟨A.gd,fun i m t e=>?_,A.own,A.dis,fun i u j hu hs=>?_,hl⟩
 ·have hi:i ∉ tg:=fun h=>by rw [ht i h] at e; cases e
  obtain ⟨v,r,h1,h2⟩:=A.env i m t e
  refine ⟨v,r,fun j hj=>?_,fun u hu=>h2 u (by have h3:inV val tg i=some u:=hu; unfold inV at h3; rw [if_neg hi] at h3; exact h3)⟩
  rcases I i j hj with ⟨k,hk,_⟩ | ⟨_,k,j0,rfl,hk,hs⟩
  ·exact absurd (a0W hk) hi
  ·exact hσ k j0 v hk (h1 j0 hs)
 ·have hi:i ∉ tg:=fun h=>by
   have hu':inV val tg i=some u:=hu
   unfold inV at hu'; rw [if_pos h] at hu'; cases hu'
  have hu':val i=some u:=by have h3:inV val tg i=some u:=hu; unfold inV at h3; rw [if_neg hi] at h3; exact h3
  rcases I i j hs with ⟨k,hk,_⟩ | ⟨_,k,j0,rfl,hk,hs⟩
  ·exact absurd (a0W hk) hi
  ·exact hσ k j0 u hk (A.lk i u j0 hu' hs)
theorem At.outof (ht:∀ i∈tg,rd η i=none)(hv:∀ i m t,rd η i=some (m,t)->val i≠none)(lk:∀ i u j,val i=some u->sf i=some j->σ[j]?=some (some u))(ln:∀ i j,sf i=some j->j < σ.length)(A:At K ⟨sg,inV val tg⟩ σ2 Z H Fs η G):At K ⟨sf,val⟩ σ Z H Fs η G:=by
 refine ⟨A.gd,fun i m t e=>?_,A.own,A.dis,lk,ln⟩
 have hi:i ∉ tg:=fun h=>by rw [ht i h] at e; cases e
 obtain ⟨v,r,h1,h2⟩:=A.env i m t e
 cases hu:val i with
 | none=>exact absurd hu (hv i m t e)
 | some u =>
  have:v=u:=h2 u (by show inV val tg i=some u; unfold inV; rw [if_neg hi]; exact hu)
  subst this
  exact ⟨v,r,fun j hj=>lk i v j hu hj,fun u' hu'=>by rw [show val i=some u' from hu'] at hu; cases hu; rfl⟩
end
section
variable {C:Call}
theorem eM:∀ (vs:List Nat) (η:Env),Nn η (M.share vs η)
 | [],η=>fun _ e=>e
 | v::vs,η=>Nn.trans (b:=wr η v (toS (rd η v))) (fun i e=>by
   rw [bh]; split
   ·rename_i hc; rw [<- hc.1,e]; rfl
   ·exact e) (eM vs _)
theorem nB (m:Md)(vs:List Nat)(η:Env):Nn η (after m vs η):=by
 cases m with
 | d=>exact fun _ e=>e
 | s=>exact eM vs η
 | o _=>exact eM vs η
theorem gZ {α:Type}{tab:List (Str×α)}{f:α->Env->RE}{p:W×Env}{r:W×Env}(h:j6 tab f p=.ok r):∃ x a,p.1.2=.str x/\tab.lookup x=some a/\f a p.2=.ok r:=by
 unfold j6 at h
 split at h
 ·rename_i x hx
  split at h
  ·rename_i a ha; exact ⟨x,a,hx,ha,h⟩
  ·cases h
 ·cases h
theorem fZ {neg:Bool}{ks:List Str}{p r:W×Env}(h:kIn neg ks p=.ok r):∃ x,p.1.2=.str x/\r.2=p.2/\r.1=(.d,.bl (ks.contains x != neg)):=by
 unfold kIn at h
 split at h
 ·rename_i x hx; cases h; exact ⟨x,hx,rfl,rfl⟩
 ·cases h
theorem la {tab:List (Str×T)}{p r:W×Env}(h:og tab p=.ok r):∃ x,p.1.2=.str x/\r.2=p.2/\r.1=(.s,(tab.lookup x).getD .non):=by
 unfold og at h
 split at h
 ·rename_i x hx; cases h; exact ⟨x,hx,rfl,rfl⟩
 ·cases h
mutual
theorem aA:∀ (e:E) {η η':Env} {w:W},evE C e η=.ok (w,η')->Nn η η'
 | .var i,η,η',w,h=>by obtain ⟨_,_,e⟩:=aF (show ret η ((rd η i).bind look)=_ from h); cases e; exact Nn.refl _
 | .mv i,η,η',w,h=>by obtain ⟨_,_,e⟩:=aF (show ret (del η i) (rd η i)=_ from h); cases e; exact iK _ _
 | .io i,η,η',w,h=>by obtain ⟨_,_,e⟩:=aF (show ret (del η i) (rd η i)=_ from h); cases e; exact iK _ _
 | .cst t,η,η',w,h=>by cases h; exact Nn.refl _
 | .glb _ t,η,η',w,h=>by cases h; exact Nn.refl _
 | .tup es,η,η',w,h=>by
  obtain ⟨⟨ws,η1⟩,h1,h2⟩:=ae (show (evL C es η).bind iX=_ from h)
  cases h2; exact cO es h1
 | .lst b es,η,η',w,h=>by
  obtain ⟨⟨ws,η1⟩,h1,h2⟩:=ae (show (evL C es η).bind (lC b)=_ from h)
  cases h2; exact cO es h1
 | .wk m e,η,η',w,h=>by
  obtain ⟨⟨u,η1⟩,h1,h2⟩:=ae (show (evE C e η).bind (kWk m)=_ from h)
  obtain ⟨_,_,e3⟩:=aF (show ret η1 _=_ from h2)
  cases e3; exact aA e h1
 | .op o b es,η,η',w,h=>by
  obtain ⟨ws,h1,h2⟩:=el h
  exact cO es h1
 | .and a b,η,η',w,h=>by
  obtain ⟨⟨u,η1⟩,h1,h2⟩:=ae (show (evE C a η).bind (mY (evE C b))=_ from h)
  obtain ⟨d,h3,h4⟩:=bu (show onT (evE C b) (okW u) (u,η1)=_ from h2)
  cases d with
  | true=>rw [if_pos rfl] at h4; exact (aA a h1).trans (aA b h4)
  | false=>rw [if_neg a0h] at h4; cases h4; exact aA a h1
 | .or a b,η,η',w,h=>by
  obtain ⟨⟨u,η1⟩,h1,h2⟩:=ae (show (evE C a η).bind (kOr (evE C b))=_ from h)
  obtain ⟨d,h3,h4⟩:=bu (show onT (okW u) (evE C b) (u,η1)=_ from h2)
  cases d with
  | false=>rw [if_neg a0h] at h4; exact (aA a h1).trans (aA b h4)
  | true=>rw [if_pos rfl] at h4; cases h4; exact aA a h1
 | .not a,η,η',w,h=>by
  obtain ⟨⟨u,η1⟩,h1,h2⟩:=ae (show (evE C a η).bind jQ=_ from h)
  obtain ⟨_,_,e3⟩:=aF (show ret η1 _=_ from h2)
  cases e3; exact aA a h1
 | .ifx c a b,η,η',w,h=>by
  obtain ⟨⟨u,η1⟩,h1,h2⟩:=ae (show (evE C c η).bind (onT (evE C a) (evE C b))=_ from h)
  obtain ⟨d,h3,h4⟩:=bu h2
  cases d with
  | true=>rw [if_pos rfl] at h4; exact (aA c h1).trans (aA a h4)
  | false=>rw [if_neg a0h] at h4; exact (aA c h1).trans (aA b h4)
 | .chain o q a b c,η,η',w,h=>by
  obtain ⟨⟨x,η1⟩,h1,h2⟩:=ae (show (evE C a η).bind (kC1 o q (evE C b) (evE C c))=_ from h)
  obtain ⟨⟨y,η2⟩,h3,h4⟩:=ae (show (evE C b η1).bind (kC2 o q (evE C c) x)=_ from h2)
  obtain ⟨⟨k,η3⟩,h5,h6⟩:=ae (show (ret η2 (oSem o false [x,y])).bind (fun k=>onB k.1.2 (jk (evE C c) (kC3 q y)) (okW (.d,.bl false)) k.2)=_ from h4)
  obtain ⟨k',_,e5⟩:=aF h5
  have e6:η3=η2:=congrArg a1x e5
  have n2:=(aA a h1).trans (aA b h3)
  have h6':onB k.2 (jk (evE C c) (kC3 q y)) (okW (.d,.bl false)) η2=.ok (w,η'):=by rw [<- e6]; exact h6
  generalize k.2=kk at h6'
  cases kk with
  | bl b =>
   cases b with
   | true =>
    obtain ⟨⟨z,η4⟩,h7,h8⟩:=ae (show (evE C c η2).bind (kC3 q y)=_ from h6')
    obtain ⟨z',_,e8⟩:=aF (show ret η4 (oSem q false [y,z])=_ from h8)
    have e9:η'=η4:=congrArg a1x e8
    rw [e9]
    exact n2.trans (aA c h7)
   | false=>cases h6'; exact n2
  | _=>cases h6'
 | .call f es,η,η',w,h=>by
  obtain ⟨⟨ws,η1⟩,h1,h2⟩:=ae (show (evA C es η).bind (eh C f (ios es))=_ from h)
  obtain ⟨⟨u,us⟩,h3,h4⟩:=ae (show (C f ws).bind (ie (ios es) η1)=_ from h2)
  cases h4
  exact de (eS es h1) (cU es h1)
 | .comp b k src tg none elt,η,η',w,h=>by
  obtain ⟨⟨ws,η1⟩,h1,h2⟩:=ae (show (evL C src η).bind (c7 b k tg (cy (evE C elt)))=_ from h)
  obtain ⟨⟨ts,η2⟩,h3,h4⟩:=ae (show (ret (aw tg η1) (bC k ws)).bind (fun t=>(aQ tg (cy (evE C elt)) t.1 t.2 []).bind (hZ b))=_ from h2)
  obtain ⟨_,_,e3⟩:=aF h3
  have e4:η2=aw tg η1:=congrArg a1x e3
  subst e4
  obtain ⟨⟨us,η3⟩,h5,h6⟩:=ae (show (aQ tg (cy (evE C elt)) ts (aw tg η1) []).bind (hZ b)=_ from h4)
  obtain ⟨_,_,e6⟩:=aF (show ret η3 _=_ from h6)
  have e7:η'=η3:=congrArg a1x e6
  subst e7
  refine (cO src h1).trans (Nn.trans (b:=aw tg η1) (fun i e=>by rw [aI]; split<;>first | rfl | exact e) (eG (fun {η o η'} hf=>?_) (fun i hi=>by rw [aI,if_pos hi]) h5))
  obtain ⟨⟨u,η4⟩,h7,h8⟩:=ae (show (evE C elt η).bind dD=_ from hf)
  cases h8
  exact aA elt h7
 | .comp b k src tg (some c) elt,η,η',w,h=>by
  obtain ⟨⟨ws,η1⟩,h1,h2⟩:=ae (show (evL C src η).bind (c7 b k tg (gX (evE C c) (evE C elt)))=_ from h)
  obtain ⟨⟨ts,η2⟩,h3,h4⟩:=ae (show (ret (aw tg η1) (bC k ws)).bind (fun t=>(aQ tg (gX (evE C c) (evE C elt)) t.1 t.2 []).bind (hZ b))=_ from h2)
  obtain ⟨_,_,e3⟩:=aF h3
  have e4:η2=aw tg η1:=congrArg a1x e3
  subst e4
  obtain ⟨⟨us,η3⟩,h5,h6⟩:=ae (show (aQ tg (gX (evE C c) (evE C elt)) ts (aw tg η1) []).bind (hZ b)=_ from h4)
  obtain ⟨_,_,e6⟩:=aF (show ret η3 _=_ from h6)
  have e7:η'=η3:=congrArg a1x e6
  subst e7
  refine (cO src h1).trans (Nn.trans (b:=aw tg η1) (fun i e=>by rw [aI]; split<;>first | rfl | exact e) (eG (fun {η o η'} hf=>?_) (fun i hi=>by rw [aI,if_pos hi]) h5))
  obtain ⟨⟨u,η4⟩,h7,h8⟩:=ae (show (evE C c η).bind (onT (cy (evE C elt)) (okW none))=_ from hf)
  obtain ⟨d,h9,h10⟩:=bu h8
  cases d with
  | true =>
   rw [if_pos rfl] at h10
   obtain ⟨⟨u2,η5⟩,h11,h12⟩:=ae (show (evE C elt η4).bind dD=_ from h10)
   cases h12
   exact (aA c h7).trans (aA elt h11)
  | false =>
   rw [if_neg a0h] at h10
   cases h10
   exact aA c h7
 | .pop i es,η,η',w,h=>by
  obtain ⟨_,_,h0⟩:=ae (show (eV (rd η i)).bind (nK (evL C es) η (qN i))=_ from h)
  obtain ⟨⟨ws,η1⟩,h1,h2⟩:=ae (show (evL C es η).bind (qN i)=_ from h0)
  obtain ⟨r,h3,h4⟩:=ae (show (ofO ((rd η1 i).bind fun w=>xR w ws)).bind (fun r=>.ok (r.1,put η1 i r.2))=_ from h2)
  cases h4
  refine (cO es h1).trans (mr ?_)
  have:=b8 h3
  intro e; rw [e] at this; cases this
 | .lenV i,η,η',w,h=>by obtain ⟨_,_,e⟩:=aF (show ret η ((rd η i).bind fun w=>oSem .len false [w])=_ from h); cases e; exact Nn.refl _
 | .tupA es,η,η',w,h=>by
  obtain ⟨⟨ws,η1⟩,h1,h2⟩:=ae (show (evA C es η).bind iX=_ from h)
  cases h2; exact cU es h1
 | .qx vs ls e,η,η',w,h=>by
  obtain ⟨⟨u,η1⟩,h1,h2⟩:=ae (show (evE C e (pick vs ls η)).bind (kX vs η)=_ from h)
  cases h2
  exact nB _ vs η
 | .mvP i p,η,η',w,h=>by
  obtain ⟨r,h1,h2⟩:=ae (show (ofO ((rd η i).bind (rk p))).bind (yd i η)=_ from h)
  cases h2
  refine mr fun e=>?_
  have:=b8 h1
  rw [e] at this; cases this
 | .callT tab k es,η,η',w,h=>by
  obtain ⟨⟨u,η1⟩,h1,h2⟩:=ae (show (evE C k η).bind (j6 tab (kCT C (evA C es) (ios es)))=_ from h)
  obtain ⟨x,j,_,_,h3⟩:=gZ h2
  obtain ⟨⟨ws,η2⟩,h4,h5⟩:=ae (show (evA C es η1).bind (eh C j (ios es))=_ from h3)
  obtain ⟨⟨r,bs⟩,h6,h7⟩:=ae (show (C j ws).bind (ie (ios es) η2)=_ from h5)
  cases h7
  exact (aA k h1).trans (de (eS es h4) (cU es h4))
 | .inT neg ks e,η,η',w,h=>by
  obtain ⟨⟨u,η1⟩,h1,h2⟩:=ae (show (evE C e η).bind (kIn neg ks)=_ from h)
  obtain ⟨x,_,e2,_⟩:=fZ h2
  cases e2; exact aA e h1
 | .ixT tab e,η,η',w,h=>by
  obtain ⟨⟨u,η1⟩,h1,h2⟩:=ae (show (evE C e η).bind (j6 tab okS)=_ from h)
  obtain ⟨x,j,_,_,h3⟩:=gZ h2
  cases h3; exact aA e h1
 | .getT tab e,η,η',w,h=>by
  obtain ⟨⟨u,η1⟩,h1,h2⟩:=ae (show (evE C e η).bind (og tab)=_ from h)
  obtain ⟨x,_,e2,_⟩:=la h2
  cases e2; exact aA e h1
theorem cO:∀ (es:List E) {η η':Env} {ws:List W},evL C es η=.ok (ws,η')->Nn η η'
 | [],η,η',ws,h=>by cases h; exact Nn.refl _
 | e::es,η,η',ws,h=>by
  obtain ⟨w,η1,us,h1,h2,_⟩:=aR h
  exact (aA e h1).trans (cO es h2)
theorem cU:∀ (es:List E) {η η':Env} {ws:List W},evA C es η=.ok (ws,η')->Nn η η'
 | [],η,η',ws,h=>by cases h; exact Nn.refl _
 | e::es,η,η',ws,h=>by
  rcases yy e with ⟨i,hi⟩ | he
  ·subst hi
   obtain ⟨us,η1,w,h1,_,_,h4⟩:=fK h
   rw [h4]
   exact (cU es h1).trans (iK _ _)
  ·obtain ⟨w,η1,us,h1,h2,_⟩:=dY he h
   exact (aA e h1).trans (cU es h2)
theorem eS:∀ (es:List E) {η η':Env} {ws:List W},evA C es η=.ok (ws,η')->∀ i∈ios es,rd η i≠none
 | [],_,_,_,_,i,hi=>by simp [ios] at hi
 | e::es,η,η',ws,h,i,hi=>by
  rcases yy e with ⟨j,hj⟩ | he
  ·subst hj
   obtain ⟨us,η1,w,h1,h2,_,_⟩:=fK h
   rcases a0H.mp (show i∈j::ios es from hi) with z | z
   ·subst z
    exact fun z=>by rw [cU es h1 i z] at h2; cases h2
   ·exact eS es h1 i z
  ·obtain ⟨w,η1,us,h1,h2,_⟩:=dY he h
   have hi':i∈ios es:=by
    cases e with
    | io j=>exact absurd rfl (he j)
    | _=>exact hi
   exact fun z=>eS es h2 i hi' (aA e h1 i z)
end
end
section
variable {K:a0a}{sl:Cf}{sf sg:Nat->Option Nat}{C:Call}{σ σ2:L2.St}{Z Z' Z1:Fp}{H H' H1:Hp}{Fs Fs' Fs1:Fps}{η η' η1 ηb:Env}{G G' R F:Fp}{tg is:List Nat}{pv val:Nat->Option V}
noncomputable def gT (K:a0a):Nat->TG
 | 1=>cj 0
 | 2=>tR K 2 (gO (cj 0) (gO (cj 1) sJ))
 | _=>fun _ _ _ _=>False
theorem At.put1 {i:Nat}{w:W}{x:V}(A:At K sl σ Z H Fs η G)(r:Rep K Z H w.1 w.2 x (Fs i))(hl:∀ j,sl.sl i=some j->σ[j]?=some (some x))(hp:sl.pv i=none):At K sl σ Z H Fs (put η i w) G:=by
 refine ⟨A.gd,fun j m t e=>?_,A.own,A.dis,A.lk,A.ln⟩
 rw [bh] at e
 split at e
 ·rename_i hc
  cases e
  obtain ⟨rfl,_⟩:=hc
  exact ⟨x,r,hl,fun u hu=>by rw [hp] at hu; cases hu⟩
 ·exact A.env j m t e
theorem gH {k j0:Nat}{v:V}(h1:is[k]?=some j0)(h2:σ[j0]?=some (some v)):(bA σ is)[k]?=some (some v):=by
 unfold bA
 rw [a0x,h1]
 show some ((σ[j0]?).join)=_
 rw [h2]
 rfl
theorem fh (I:eg sf sg tg is)(h:σ2.length=tg.length+is.length):∀ i j,sg i=some j->j < σ2.length:=fun i j hj=>by
 rcases I i j hj with ⟨k,hk,rfl⟩ | ⟨_,k,j0,rfl,hk,_⟩
 ·have:=(a0v.mp hk).1
  omega
 ·have:=(a0v.mp hk).1
  omega
theorem kx {n i:Nat}{J:It}{ts:List (List W)}{ws:List W}{x:V}{Q:L2.St->Hp->Prop}(hn:tg.length=n)(nd:tg.Nodup)(I:eg sf sg tg is)(hz:∀ a,Z1 a->Z a)(st:Stay Z1 H1 H)(yl:Yld K J Z1 H1 ts n)(A:At K ⟨sf,val⟩ σ Z H Fs η G)
  (ht:∀ i∈tg,rd η i=none) (hw:ts[i]?=some ws) (hb:aW tg ws η=some ηb) (y:J.yld i H x H')
  (k:∀ σ2 H2,At K ⟨sg,inV val tg⟩ σ2 Z H2 Fs ηb G->Step Z H no Z H2 no->(σ2.length=n+(bA σ is).length/\σ2.drop n=bA σ is)->Q σ2 H2):gT K n x (a0e n none++bA σ is) H' Q:=by
 have hi:i < ts.length:=(a0v.mp hw).1
 have own0:∀ {t:Nat},t∈tg->inV val tg t=none:=fun {t} h=>if_pos h
 match n,yl with
 | 1,yl =>
  obtain ⟨e0,w,hw',r⟩:=yl H i x H' st hi y
  rw [e0]
  rw [hw] at hw'; cases hw'
  match tg,hn with
  | [t],_ =>
   cases hb
   have r':Rep K Z H w.1 w.2 x (Fs t):=(r.zmono hz).mono fun _ z=>z.elim
   refine k _ H ?_ (Step.refl _ _ _) ⟨by simp [a12],rfl⟩
   refine (A.into (σ2:=some x::bA σ is) I ht (fun k j0 v h1 h2=>?_) (fh I (by simp [bA,a12]))).put1 r' (fun j hj=>?_) (own0 (by simp))
   ·rw [a0u,a12,a0A]; exact gH h1 h2
   ·rcases I t j hj with ⟨k,hk,rfl⟩ | ⟨h,_⟩
    ·cases j with
     | zero=>rfl
     | succ _=>simp at hk
    ·exact absurd (a0M.mpr rfl) h
 | 2,yl =>
  obtain ⟨p,y1,z1,u,w,rfl,sm,hq,hw',r1,r2⟩:=yl H i x H' st hi y
  rw [hw] at hw'; cases hw'
  match tg,hn with
  | [t,t'],_ =>
   cases hb
   have hne:t≠t':=fun z=>by simp [z] at nd
   have s1:Step Z H G Z H' G:=eN sm
   have o1:Own Z H' G:=fun a ha=>by
    obtain ⟨nz,ys,e⟩:=A.own a ha
    exact ⟨nz,ys,sm _ _ e⟩
   obtain ⟨A1,_⟩:=A.op o1 s1
   have sn:Stay Z H H':=gR sm
   have r1':Rep K Z H' u.1 u.2 y1 (Fs t):=((r1.zmono hz).keep sn (fun _ z=>z) fun _ _ z=>z.elim).mono fun _ z=>z.elim
   have r2':Rep K Z H' w.1 w.2 z1 (Fs t'):=((r2.zmono hz).keep sn (fun _ z=>z) fun _ _ z=>z.elim).mono fun _ z=>z.elim
   have s0:Step Z H no Z H' no:=eN sm
   refine ⟨p,[y1,z1],rfl,hq,rfl,y1,[z1],rfl,z1,[],rfl,rfl,k (some y1::some z1::bA σ is) _ ?_ s0 ⟨by simp; omega,rfl⟩⟩
   refine ((A1.into (σ2:=some y1::some z1::bA σ is) I ht (fun k j0 v h1 h2=>?_) (fh I (by simp [bA]; omega))).put1 r1' (fun j hj=>?_) (own0 (by simp))).put1 r2' (fun j hj=>?_) (own0 (by simp))
   ·rw [show [t,t'].length+k=k+1+1 by simp; omega,a0A,a0A]; exact gH h1 h2
   ·rcases I t j hj with ⟨k,hk,rfl⟩ | ⟨h,_⟩
    ·match j,hk with
     | 0,_=>rfl
     | 1,hk=>exact absurd (a0w hk).symm hne
    ·exact absurd (by simp) h
   ·rcases I t' j hj with ⟨k,hk,rfl⟩ | ⟨h,_⟩
    ·match j,hk with
     | 0,hk=>exact absurd (a0w hk) hne
     | 1,_=>rfl
    ·exact absurd (by simp) h
noncomputable def dI (Fs:Fps)(tg:List Nat):Fps:=fun j a=>j ∉ tg/\Fs j a
theorem bR {a:Addr}(h:tot (dI Fs tg) a):tot Fs a:=let ⟨j,_,h2⟩:=h; ⟨j,h2⟩
theorem At.dels (A:At K sl σ Z H Fs η G):At K sl σ Z H (dI Fs tg) (aw tg η) G:=by
 refine ⟨⟨fun a h=>A.gd.own a (bR h),fun i j a h1 h2=>A.gd.dis i j a h1.2 h2.2,A.gd.zal⟩,fun i m t e=>?_,A.own,fun a h q=>A.dis a h (bR q),A.lk,A.ln⟩
 rw [aI] at e
 split at e
 ·cases e
 ·rename_i hi
  obtain ⟨v,r,h⟩:=A.env i m t e
  exact ⟨v,r.mono fun a ha=>⟨hi,ha⟩,h⟩
theorem ed:∀ {tg:List Nat} {t:List W} {η η1:Env},aW tg t η=some η1->∀ i,i ∉ tg->rd η1 i=rd η i
 | [],[],η,η1,h,i,_=>by cases h; rfl
 | [],_::_,_,_,h,_,_=>by cases h
 | _::_,[],_,_,h,_,_=>by cases h
 | j::tg,w::t,η,η1,h,i,hi=>by
  rw [ed (show aW tg t (put η j w)=some η1 from h) i fun z=>hi (a0p _ z),bh,if_neg fun z=>hi (by rw [z.1]; exact a0o)]
structure CSt (K:a0a)(sf:Nat->Option Nat)(val:Nat->Option V)(σ:L2.St)(tg:List Nat)(f:Env->Res (Option W×Env))(ts:List (List W))(η0:Env)(us:List W)(η3:Env)(Z1:Fp)(H1:Hp)(F1:Fp)(i:Nat)(ys:List V)(H:Hp):Prop where
 ex:∃ (Z:Fp) (Fs:Fps) (η:Env) (acc:List W) (G:Fp),At K ⟨sf,val⟩ σ Z H Fs η G/\RepW K Z H acc ys G/\aQ tg f (ts.drop i) η acc=.ok (us,η3)/\(∀ j∈tg,rd η j=none)/\(∀ j∈tg,∀ a,¬ Fs j a)/\Nn η0 η/\Step Z1 H1 F1 Z H (fun a=>tot Fs a\/G a)
 len:ys.length<=i
theorem nv {h:Bool}{us:List W}{ys:List V}{w:W}{Q:VK}(o:Own Z H G)(za:∀ a,Z a->H a≠none)(r:RepW K Z H us ys G)(hl:ys.length<=LIM)(hn:(if h then (if us.all okD then some ((.d,.lst (bb us)):W) else none) else some (.o .s,.lst (bb us)))=some w)(k:Out K Z H G w Q):∀ p,H p=none->Q (.ref p) (upd H p (.lst ys)):=by
 intro p hp
 cases h with
 | true =>
  rw [if_pos rfl] at hn
  split at hn
  ·rename_i ha
   cases hn
   rw [a0Y] at ha
   obtain ⟨G',g1,g2⟩:=RepW.to (N:=.d) (fun u hu=>by
    have:=ha u hu
    unfold okD at this
    rw [a14] at this
    unfold M.lf
    split
    ·rfl
    ·rename_i hnl
     rcases this with z | z
     ·rw [eq_of_beq z]; rfl
     ·exact absurd z hnl) r
   exact bD (m:=.d) o za g1 hl g2 (by simp) k hp
  ·cases hn
 | false =>
  rw [if_neg a0h] at hn
  cases hn
  obtain ⟨G',g1,g2⟩:=RepW.to (N:=.s) (fun u hu=>by cases M.lf u.1 u.2<;>rfl) r
  exact bD (m:=.o .s) o za g1 hl g2 (by simp) k hp
end
end MR
namespace MR
open L2 L3 M
open PySem (Addr Str sizeLine)
section
variable {K:a0a}{sf sg:Nat->Option Nat}{C:Call}{tg is:List Nat}
theorem dn {α:Type}{l:List α}{i:Nat}{a:α}(h:l[i]?=some a):l.drop i=a::l.drop (i+1):=by
 obtain ⟨h1,h2⟩:=a0v.mp h
 rw [List.drop_eq_getElem_cons h1,h2]
theorem gB {h:Bool}{k:Ik}{f:Env->Res (Option W×Env)}{p:List W×Env}{w:W}{η':Env}(e:c7 h k tg f p=.ok (w,η')):∃ ts us,bC k p.1=some ts/\aQ tg f ts (aw tg p.2) []=.ok (us,η')/\(if h then (if us.all okD then some ((.d,.lst (bb us)):W) else none) else some (.o .s,.lst (bb us)))=some w:=by
 obtain ⟨⟨ts,η2⟩,h3,h4⟩:=ae (show (ret (aw tg p.2) (bC k p.1)).bind (fun t=>(aQ tg f t.1 t.2 []).bind (hZ h))=_ from e)
 obtain ⟨ts',ht,e3⟩:=aF h3
 have e4:ts=ts':=congrArg a18 e3
 have e5:η2=aw tg p.2:=congrArg a1x e3
 subst e4 e5
 obtain ⟨⟨us,η3⟩,h5,h6⟩:=ae (show (aQ tg f ts (aw tg p.2) []).bind (hZ h)=_ from h4)
 obtain ⟨w',hw,e6⟩:=aF (show ret η3 (if h then (if us.all okD then some ((.d,.lst (bb us)):W) else none) else some (.o .s,.lst (bb us)))=_ from h6)
 have e7:w=w':=congrArg a18 e6
 have e8:η'=η3:=congrArg a1x e6
 subst e7 e8
 exact ⟨ts,us,ht,h5,hw⟩
theorem iP {f:Env->Res (Option W×Env)}{t:List W}{ts:List (List W)}{η η3:Env}{acc us:List W}(e:aQ tg f (t::ts) η acc=.ok (us,η3)):∃ ηb o ηc,aW tg t η=some ηb/\f ηb=.ok (o,ηc)/\aQ tg f ts (aw tg ηc) (acc++o.toList)=.ok (us,η3):=by
 obtain ⟨η1,h1,h2⟩:=ae (show (ofO (aW tg t η)).bind (fun η1=>(f η1).bind fun p=>aQ tg f ts (aw tg p.2) (acc++p.1.toList))=_ from e)
 obtain ⟨⟨o,η2⟩,h3,h4⟩:=ae h2
 exact ⟨η1,o,η2,b8 h1,h3,h4⟩
theorem fu {n:Nat}{h:Bool}{k:Ik}{src:List E}{f:Env->Res (Option W×Env)}{te:L2.St->Hp->(Option V->Hp->Prop)->Prop}(hn:tg.length=n)(nd:tg.Nodup)(I:eg sf sg tg is)
  (hf:∀ {η o η'},f η=.ok (o,η')->Nn η η')
  (hte:∀ {val:Nat->Option V} {σ2:L2.St} {Z:Fp} {H:Hp} {Fs:Fps} {η ηc:Env} {R:Fp} {o:Option W} {Q:Option V->Hp->Prop},At K ⟨sg,val⟩ σ2 Z H Fs η R->f η=.ok (o,ηc) ->
   (∀ oy Z' H' Fs' G,At K ⟨sg,val⟩ σ2 Z' H' Fs' ηc (fun c=>R c\/G c)->(match o,oy with | some w,some y=>Rep K Z' H' w.1 w.2 y G | none,none=>True | _,_=>False)->(∀ c,R c->¬ G c)->Step Z H (tot Fs) Z' H' (fun a=>tot Fs' a\/G a)->Q oy H')->te σ2 H Q)
  {e:E} (he:∀ η,evE C e η=(evL C src η).bind (c7 h k tg f)) (σ:L2.St) (H:Hp) (Q:VK) (hw:wE K sf C e σ H Q) :
  wI K sf C n k src σ H fun J H1=>∃ W:Nat->Nat->List V->Hp->Prop,(∃ m,W 0 m [] H1)/\∀ i m ys H,W i m ys H ->
   (J.stop i H/\ys.length<=sizeLine/\∀ p,H p=none->Q (.ref p) (upd H p (.lst ys))) \/
   (J.go i H/\ys.length < sizeLine/\∀ x H',J.yld i H x H'->gT K n x (a0e n none++bA σ is) H' fun σ2 H2=>(σ2.length=n+(bA σ is).length/\σ2.drop n=bA σ is)/\te σ2 H2 fun oy H3=>∃ m',m' < m/\W (i+1) m' (ys++oy.toList) H3):=by
 obtain ⟨pv,Z,Fs,η,w,η',A,ev,kk⟩:=hw
 rw [he] at ev
 obtain ⟨⟨ws,η1⟩,h1,h2⟩:=ae ev
 obtain ⟨ts,us,ht,h3,h4⟩:=gB h2
 refine ⟨pv,Z,Fs,η,ws,η1,ts,A,h1,ht,fun J Z1 H1 Fs1 A1 s1 wk yl=>?_⟩
 obtain ⟨val,v1,A2,v2⟩:=(A1.dels (tg:=tg)).pin
 have s1':Step Z H (tot Fs) Z1 H1 (tot (dI Fs1 tg)):=s1.mono (fun _ z=>z) fun _ z=>bR z
 refine ⟨fun i m ys H=>m=ts.length-i/\i<=ts.length/\CSt K sf val σ tg f ts (aw tg η1) us η' Z1 H1 (tot (dI Fs1 tg)) i ys H,⟨ts.length,by simp,a0U _,⟨⟨Z1,dI Fs1 tg,aw tg η1,[],no,A2,rfl,h3,fun j hj=>by rw [aI,if_pos hj],fun j hj a ha=>ha.1 hj,Nn.refl _,(Step.refl _ _ _).mono (fun _ z=>z) fun a ha=>ha.elim id fun z=>z.elim⟩,a0b _⟩⟩,?_⟩
 rintro i m ys H0 ⟨rfl,hi,⟨⟨Zi,Fsi,ηi,acc,Ga,Ai,ra,hc,htg,hfp,hnn,si⟩,hlen⟩⟩
 have st:Stay Z1 H1 H0:=A2.gd.own.stay si
 have hL:=wk.len
 by_cases hlt:i < ts.length
 ·right
  refine ⟨wk.go H0 i st hlt,a2k (a0m hlen hi) (iA hL),fun x H2 y=>?_⟩
  have hw:ts[i]?=some ts[i]:=by simp [hlt]
  rw [dn hw] at hc
  obtain ⟨ηb,o,ηc,hb,hfe,hc2⟩:=iP hc
  refine kx hn nd I si.zm st yl Ai htg hw hb y fun σ2 H3 A3 s3 hσ=>⟨hσ,?_⟩
  refine hte A3 hfe fun oy Z4 H4 Fs4 G4 A4 r4 d4 s4=>⟨ts.length-(i+1),by omega,rfl,hlt,⟨?_,?_⟩⟩
  ·have ra3:RepW K Zi H3 acc ys Ga:=ra.frame bP s3 fun _ _ z=>z
   have ra4:RepW K Z4 H4 acc ys Ga:=ra3.frame A3.gd.own s4 A3.dis
   have vv:∀ j m t,rd (aw tg ηc) j=some (m,t)->val j≠none:=fun j m t e=>by
    rw [aI] at e
    split at e
    ·cases e
    ·rename_i hj
     have n1:rd ηb j≠none:=fun z=>by rw [hf hfe j z] at e; cases e
     rw [ed hb j hj] at n1
     have n2:rd (aw tg η1) j≠none:=fun z=>n1 (hnn j z)
     cases e2:rd (aw tg η1) j with
     | none=>exact absurd e2 n2
     | some u=>exact v2 j u.1 u.2 e2
   have A5:=(A4.dels (tg:=tg)).outof (sf:=sf) (σ:=σ) (val:=val) (fun j hj=>by rw [aI,if_pos hj]) vv Ai.lk Ai.ln
   have s5:Step Z1 H1 (tot (dI Fs1 tg)) Z4 H4 (fun a=>tot (dI Fs4 tg) a\/(Ga a\/G4 a)):=by
    refine (si.trans (((s3.frame (fun a=>tot Fsi a\/Ga a)).mono (fun a ha=>ha.elim (fun z=>z.elim) id) fun a ha=>.inr ha).trans (s4.frame Ga))).mono (fun _ z=>z) fun a ha=>?_
    rcases ha with z | z | z
    ·exact .inl (.inl (bR z))
    ·exact .inr z
    ·exact .inl (.inr z)
   refine ⟨Z4,dI Fs4 tg,aw tg ηc,acc++o.toList,fun c=>Ga c\/G4 c,A5,?_,hc2,fun j hj=>by rw [aI,if_pos hj],fun j hj a ha=>ha.1 hj,fun j e=>?_,s5⟩
   ·cases o with
    | none =>
     cases oy with
     | none=>rw [a1D,a1D,a0N,a0N]; exact ra4.mono fun _ z=>.inl z
     | some _=>exact r4.elim
    | some w4 =>
     cases oy with
     | none=>exact r4.elim
     | some y4=>exact RepW.append (fun _ z=>.inl z) (fun _ z=>.inr z) d4 ra4 (RepW.one r4)
   ·have e':=hnn j e
    rw [aI]
    split
    ·rfl
    ·rename_i hj
     exact hf hfe j (by rw [ed hb j hj]; exact e')
  ·have:ys.length<=i:=hlen
   cases oy<;>simp<;>omega
 ·left
  have hi':i=ts.length:=by omega
  subst hi'
  rw [a1V] at hc
  cases hc
  refine ⟨wk.stop H0 _ st (a0b _),bI (a0m hlen hL),nv Ai.own Ai.gd.zal ra (a0m hlen hL) h4 (cQ (Ai.unpin v1) (s1'.trans si) kk)⟩
theorem ig {n:Nat}{h:Bool}{k:Ik}{src:List E}{elt:E}(hn:tg.length=n)(nd:tg.Nodup)(I:eg sf sg tg is)(σ:L2.St)(H:Hp)(Q:VK)(hw:wE K sf C (.comp h k src tg none elt) σ H Q):gk n (wI K sf C n k src) is (gT K n) (wE K sg C elt) σ H Q:=by
 refine fu (te:=fun σ2 H Q=>wE K sg C elt σ2 H fun y H'=>Q (some y) H') hn nd I (fun {η o η'} hf=>?_) (fun {val σ2 Z H Fs η ηc R o Q} A hf k=>?_) (fun η=>rfl) σ H Q hw
 ·obtain ⟨⟨u,η4⟩,h7,h8⟩:=ae (show (evE C elt η).bind dD=_ from hf)
  cases h8
  exact aA elt h7
 ·obtain ⟨⟨u,η4⟩,h7,h8⟩:=ae (show (evE C elt η).bind dD=_ from hf)
  cases h8
  exact jZ A h7 fun v Z' H' Fs' G B r d s _=>k (some v) Z' H' Fs' G B r d s
theorem lV {n:Nat}{h:Bool}{k:Ik}{src:List E}{elt cnd:E}(hn:tg.length=n)(nd:tg.Nodup)(I:eg sf sg tg is)(σ:L2.St)(H:Hp)(Q:VK)(hw:wE K sf C (.comp h k src tg (some cnd) elt) σ H Q):df n (wI K sf C n k src) is (gT K n) (wT K sg C cnd) (wE K sg C elt) σ H Q:=by
 have main:=fu (te:=fun σ2 H Q=>wT K sg C cnd σ2 H fun ok H2=>if ok=true then wE K sg C elt σ2 H2 fun y H'=>Q (some y) H' else Q none H2) hn nd I (f:=gX (evE C cnd) (evE C elt)) (fun {η o η'} hf=>by
  obtain ⟨⟨u,η4⟩,h7,h8⟩:=ae (show (evE C cnd η).bind (onT (cy (evE C elt)) (okW none))=_ from hf)
  obtain ⟨d,h9,h10⟩:=bu h8
  cases d with
  | true =>
   rw [if_pos rfl] at h10
   obtain ⟨⟨u2,η5⟩,h11,h12⟩:=ae (show (evE C elt η4).bind dD=_ from h10)
   cases h12
   exact (aA cnd h7).trans (aA elt h11)
  | false =>
   rw [if_neg a0h] at h10
   cases h10
   exact aA cnd h7) (fun {val σ2 Z H Fs η ηc R o Q} A hf k=>by
  obtain ⟨⟨u,η4⟩,h7,h8⟩:=ae (show (evE C cnd η).bind (onT (cy (evE C elt)) (okW none))=_ from hf)
  obtain ⟨d,h9,h10⟩:=bu h8
  refine iE A.bare h7 h9 fun Z1 H1 Fs1 A1 s1=>?_
  have A1':=A.frame (A1.mono (G':=no) fun _ z=>z) (s1.mono (fun _ z=>z) fun a ha=>ha.elim id fun z=>z.elim)
  have A2:=A1'.1.mono (G':=R) fun _ z=>.inl z
  cases d with
  | true =>
   rw [if_pos rfl] at h10 ⊢
   obtain ⟨⟨u2,η5⟩,h11,h12⟩:=ae (show (evE C elt η4).bind dD=_ from h10)
   cases h12
   exact jZ A2 h11 fun v Z' H' Fs' G B r d s _=>k (some v) Z' H' Fs' G B r d (s1.trans s)
  | false =>
   rw [if_neg a0h] at h10 ⊢
   cases h10
   exact k none Z1 H1 Fs1 no (A2.mono fun _ z=>z.elim id fun q=>q.elim) trivial (fun _ _ z=>z) (s1.mono (fun _ z=>z) fun a ha=>ha.elim id fun z=>z.elim)) (fun η=>rfl) σ H Q hw
 refine (?_:∀ {a b:It->Hp->Prop},(∀ J H1,a J H1->b J H1)->wI K sf C n k src σ H a->wI K sf C n k src σ H b) ?_ main
 ·rintro a b hab ⟨pv,Z,Fs,η,ws,η',ts,A,ev,ht,kk⟩
  exact ⟨pv,Z,Fs,η,ws,η',ts,A,ev,ht,fun J Z' H' Fs' A' s' w' y'=>hab J H' (kk J Z' H' Fs' A' s' w' y')⟩
 ·rintro J H1 ⟨W,w0,turn⟩
  refine ⟨W,w0,fun i m ys H w=>?_⟩
  rcases turn i m ys H w with c | ⟨go,hz,step⟩
  ·exact .inl c
  ·refine .inr ⟨go,hz,fun x H' y=>?_⟩
   have st:=step x H' y
   simp only [Option.toList_some,a1D,a0N] at st
   exact st
end
end MR
namespace MR
open L2 L3 M
open PySem (Addr Str sizeLine)
section
variable {K:a0a}{sl:Cf}{sf sg:Nat->Option Nat}{C:Call}{σ σ2:L2.St}{Z Z' Z1:Fp}{H H' H1:Hp}{Fs Fs' Fs1:Fps}{η η' η1 ηb:Env}{G G' G1 R F:Fp}{tg is:List Nat}{pv val:Nat->Option V}
noncomputable def kd (Fs:Fps)(i:Nat)(G:Fp):Fps:=fun j a=>(j=i/\G a)\/(j≠i/\Fs j a)
theorem bJ {i:Nat}{a:Addr}(h:tot (kd Fs i G) a):tot Fs a\/G a:=by
 obtain ⟨j,h | h⟩:=h
 ·exact .inr h.2
 ·exact .inl ⟨j,h.2⟩
theorem At.put {i:Nat}{w:W}{x:V}(A:At K sl σ Z H Fs η G)(r:Rep K Z H w.1 w.2 x G1)(h1:∀ a,G1 a->G a)(h2:∀ a,R a->G a)(hd:∀ a,R a->¬ G1 a)(hl:∀ j,sl.sl i=some j->σ[j]?=some (some x))(hp:∀ u,sl.pv i=some u->x=u) :
  At K sl σ Z H (kd Fs i G1) (M.put η i w) R:=by
 refine ⟨⟨fun a h=>(bJ h).elim (A.gd.own a) fun q=>A.own a (h1 a q),fun j k a hj hk=>?_,A.gd.zal⟩,fun j m t e=>?_,fun a h=>A.own a (h2 a h),fun a h q=>(bJ q).elim (A.dis a (h2 a h)) (hd a h),A.lk,A.ln⟩
 ·rcases hj with ⟨rfl,hj⟩ | ⟨nj,hj⟩
  ·rcases hk with ⟨rfl,_⟩ | ⟨nk,hk⟩
   ·rfl
   ·exact absurd ⟨k,hk⟩ (A.dis a (h1 a hj))
  ·rcases hk with ⟨rfl,hk⟩ | ⟨nk,hk⟩
   ·exact absurd ⟨j,hj⟩ (A.dis a (h1 a hk))
   ·exact A.gd.dis j k a hj hk
 ·rw [bh] at e
  split at e
  ·rename_i hc
   cases e
   obtain ⟨rfl,_⟩:=hc
   exact ⟨x,r.mono fun a h=>.inl ⟨rfl,h⟩,hl,hp⟩
  ·rename_i hc
   obtain ⟨v,r',h'⟩:=A.env j m t e
   by_cases hj:j=i
   ·subst hj
    exact absurd ⟨rfl,c9 e⟩ hc
   ·exact ⟨v,r'.mono fun a h=>.inr ⟨hj,h⟩,h'⟩
noncomputable def wA (K:a0a)(sl:Nat->Option Nat)(C:Call)(es:List E):TA:=fun σ H Q=>∃ pv Z Fs η ws η',At K ⟨sl,pv⟩ σ Z H Fs η no/\evA C es η=.ok (ws,η') /\
 ∀ vs Z' H' Fs' G,At K ⟨sl,pv⟩ σ Z' H' Fs' η' G->RepW K Z' H' ws vs G->Step Z H (tot Fs) Z' H' (fun a=>tot Fs' a\/G a)->(∀ (k i:Nat) (u:V),es[k]?=some (.io i)->pv i=some u->vs[k]?=some u)->Q vs H'
theorem uG (σ:L2.St)(H:Hp)(Q:List V->Hp->Prop)(h:wA K sf C [] σ H Q):ve σ H Q:=by
 obtain ⟨pv,Z,Fs,η,ws,η',A,ev,k⟩:=h
 cases ev
 exact k [] Z H Fs no A rfl ((Step.refl _ _ _).mono (fun _ z=>z) fun a ha=>ha.elim id fun z=>z.elim) fun k i u h _=>by simp at h
theorem AO {es:List E}{ws:List W}{Q:List V->Hp->Prop}(A:At K sl σ Z H Fs η R)(ev:evA C es η=.ok (ws,η'))
  (k:∀ vs Z' H' Fs' G,At K sl σ Z' H' Fs' η' (fun c=>R c\/G c)->RepW K Z' H' ws vs G->(∀ c,R c->¬ G c)->Step Z H (tot Fs) Z' H' (fun a=>tot Fs' a\/G a) ->
   Step Z H (fun c=>tot Fs c\/R c) Z' H' (fun c=>tot Fs' c\/(R c\/G c))->(∀ (k i:Nat) (u:V),es[k]?=some (.io i)->sl.pv i=some u->vs[k]?=some u)->Q vs H'):wA K sl.sl C es σ H Q :=
 ⟨sl.pv,Z,Fs,η,ws,η',A.bare,ev,fun v Z' H' Fs' G B r s hio=>by
  obtain ⟨h1,h2,h3⟩:=A.frame B s
  exact k v Z' H' Fs' G h1 r h3 s h2 hio⟩
theorem lA {e:E}{es:List E}(he:∀ i,e≠.io i)(σ:L2.St)(H:Hp)(Q:List V->Hp->Prop)(h:wA K sf C (e::es) σ H Q):i4 (wE K sf C e) (wA K sf C es) σ H Q:=by
 obtain ⟨pv,Z,Fs,η,ws,η',A,ev,k⟩:=h
 obtain ⟨w,η1,us,h1,h2,rfl⟩:=dY he ev
 refine jZ A h1 fun x Z1 H1 Fs1 G1 A1 r1 _ s1 _=>?_
 have A1':=A1.mono (G':=G1) fun _ z=>.inr z
 refine AO A1' h2 fun xs Z2 H2 Fs2 G2 A2 r2 d2 s2 t2 hio=>?_
 refine k (x::xs) Z2 H2 Fs2 _ A2 ⟨x,xs,G1,G2,rfl,fun _ z=>.inl z,fun _ z=>.inr z,d2,r1.frame A1.gd.own s2 A1'.dis,r2⟩ (s1.trans t2) fun k i u h hu=>?_
 cases k with
 | zero=>exact absurd (a0w h) (he i)
 | succ k=>exact hio k i u h hu
theorem j8 {i j:Nat}{es:List E}(hs:sf i=some j)(σ:L2.St)(H:Hp)(Q:List V->Hp->Prop)(h:wA K sf C (.io i::es) σ H Q):i4 (j7 j) (wA K sf C es) σ H Q:=by
 obtain ⟨pv,Z,Fs,η,ws,η',A,ev,k⟩:=h
 obtain ⟨us,η1,w,h1,h2,rfl,rfl⟩:=fK ev
 obtain ⟨m,t⟩:=w
 cases e0:rd η i with
 | none=>rw [cU es h1 i e0] at h2; cases h2
 | some w0 =>
  obtain ⟨v,_,hv⟩:=A.env i w0.1 w0.2 e0
  refine ⟨v,hv.1 j hs,pv,Z,Fs,η,us,η1,A,h1,fun xs Z2 H2 Fs2 G2 A2 r2 s2 hio=>?_⟩
  obtain ⟨v',r,hv'⟩:=A2.env i m t h2
  have ev':v'=v:=by
   have e1:=hv.1 j hs
   rw [hv'.1 j hs] at e1
   exact a0w (a0w e1)
  subst ev'
  have A3:At K ⟨sf,pv⟩ σ Z2 H2 (t9 Fs2 i) (del η1 i) (fun a=>Fs2 i a\/G2 a):=by
   refine ⟨⟨fun a ⟨l,h1,h2⟩=>A2.gd.own a ⟨l,h2⟩,fun l l' a h1 h2=>A2.gd.dis l l' a h1.2 h2.2,A2.gd.zal⟩,fun l m' t' e=>?_,fun a ha=>ha.elim (fun z=>A2.gd.own a ⟨i,z⟩) (A2.own a),fun a ha ⟨l,h1,h2⟩=>ha.elim (fun z=>h1 (A2.gd.dis l i a h2 z)) fun z=>A2.dis a z ⟨l,h2⟩,A2.lk,A2.ln⟩
   rw [bh] at e
   split at e
   ·cases e
   ·rename_i hne
    obtain ⟨v'',r',hv''⟩:=A2.env l m' t' e
    have hli:l≠i:=fun z=>hne ⟨z,c9 h2⟩
    exact ⟨v'',r'.mono fun a ha=>⟨hli,ha⟩,hv''⟩
  refine k (v'::xs) Z2 H2 (t9 Fs2 i) _ A3 ⟨v',xs,Fs2 i,G2,rfl,fun _ z=>.inl z,fun _ z=>.inr z,fun a z y=>A2.dis a y ⟨i,z⟩,r,r2⟩ (s2.mono (fun _ z=>z) fun a ha=>?_) fun k i' u h hu=>?_
  ·rcases ha with ⟨l,_,z⟩ | z | z
   ·exact .inl ⟨l,z⟩
   ·exact .inl ⟨i,z⟩
   ·exact .inr z
  ·cases k with
   | zero=>cases h; rw [<- hv'.2 u hu]; rfl
   | succ k=>exact hio k i' u h hu
noncomputable def atV (io:List Nat)(vs:List V):List V:=io.filterMap fun i=>vs[i]?
noncomputable def spC (K:a0a)(C:Call)(f:Nat)(io:List Nat):List V->Hp->VK->Prop:=fun vs H Q=>∃ Z ws G w bs,RepW K Z H ws vs G/\Own Z H G/\(∀ a,Z a->H a≠none)/\C f ws=.ok (w,bs) /\
 ∀ v Z' H' G1 G2,Rep K Z' H' w.1 w.2 v G1->RepW K Z' H' bs (atV io vs) G2->(∀ a,G1 a->¬ G2 a)->Own Z' H' (fun a=>G1 a\/G2 a)->Step Z H G Z' H' (fun a=>G1 a\/G2 a)->Q v H'
noncomputable def ei:List E->Nat->List Nat
 | [],_=>[]
 | .io _::es,n=>n::ei es (n+1)
 | _::es,n=>ei es (n+1)
theorem rM {vs:List V}:∀ {es:List E} {n:Nat},(∀ (k i:Nat) (u:V),es[k]?=some (.io i)->pv i=some u->vs[n+k]?=some u)->(∀ i∈ios es,pv i≠none)->(ios es).filterMap pv=atV (ei es n) vs
 | [],_,_,_=>rfl
 | e::es,n,h,hv=>by
  have rest:(∀ i∈ios es,pv i≠none)->(ios es).filterMap pv=atV (ei es (n+1)) vs:=fun q=>rM (fun k i u hk hu=>by have:=h (k+1) i u hk hu; rw [show n+(k+1)=n+1+k by omega] at this; exact this) q
  cases e with
  | io i =>
   cases hu:pv i with
   | none=>exact absurd hu (hv i (by simp [ios]))
   | some u =>
    have h0:=h 0 i u rfl hu
    rw [Nat.add_zero] at h0
    show (i::ios es).filterMap pv=(n::ei es (n+1)).filterMap fun i=>vs[i]?
    rw [a0G,a0G,hu,h0]
    exact congrArg (u::·) (rest fun j hj=>hv j (by simp [ios,hj]))
  | _=>exact rest fun j hj=>hv j hj
theorem At.putAll:∀ {is:List Nat} {bs:List W} {Fs:Fps} {η:Env} {G2:Fp},At K ⟨sf,val⟩ σ Z H Fs η (fun a=>R a\/G2 a)->(∀ a,R a->¬ G2 a)->RepW K Z H bs (is.filterMap val) G2->(∀ i∈is,val i≠none)->∃ Fs',At K ⟨sf,val⟩ σ Z H Fs' (M.putAll is bs η) R/\∀ a,tot Fs' a->tot Fs a\/G2 a
 | [],bs,Fs,η,G2,A,_,_,_=>⟨Fs,A.mono fun _ z=>.inl z,fun _ z=>.inl z⟩
 | i::is,[],Fs,η,G2,A,_,_,_=>⟨Fs,A.mono fun _ z=>.inl z,fun _ z=>.inl z⟩
 | i::is,b::bs,Fs,η,G2,A,hd,r,hv=>by
  cases hu:val i with
  | none=>exact absurd hu (hv i a0o)
  | some u =>
   rw [a0G,hu] at r
   obtain ⟨x,r',A1,A2,e,a1,a2,ad,p,q⟩:=r
   cases e
   have B:=At.put (i:=i) (R:=fun a=>R a\/A2 a) (G1:=A1) A p (fun a h=>.inr (a1 a h)) (fun a h=>h.imp id (a2 a)) (fun a h q=>h.elim (fun z=>hd a z (a1 a q)) fun z=>ad a q z) (fun j hj=>A.lk i u j hu hj) (fun u' hu'=>by rw [show val i=some u' from hu'] at hu; cases hu; rfl)
   obtain ⟨Fs',B1,B2⟩:=At.putAll (is:=is) (bs:=bs) B (fun a h q=>hd a h (a2 a q)) q fun j hj=>hv j (a0p _ hj)
   exact ⟨Fs',B1,fun a h=>(B2 a h).elim (fun z=>(bJ z).imp id (a1 a)) fun z=>.inr (a2 a z)⟩
theorem qG {f:Nat}{es:List E}{io:List Nat}(hio:ei es 0=io\/ios es=[])(σ:L2.St)(H:Hp)(Q:VK)(h:wE K sf C (.call f es) σ H Q):wA K sf C es σ H fun vs H1=>spC K C f io vs H1 Q:=by
 obtain ⟨pv,Z,Fs,η,w,η',A,ev,k⟩:=h
 obtain ⟨⟨ws,η1⟩,h1,h2⟩:=ae (show (evA C es η).bind (eh C f (ios es))=_ from ev)
 obtain ⟨⟨u,bs⟩,h3,h4⟩:=ae (show (C f ws).bind (ie (ios es) η1)=_ from h2)
 cases h4
 obtain ⟨val,v1,A2,v2⟩:=A.pin
 have hvn:∀ i∈ios es,val i≠none:=fun i hi=>by
  cases e:rd η i with
  | none=>exact absurd e (eS es h1 i hi)
  | some q=>exact v2 i q.1 q.2 e
 refine ⟨val,Z,Fs,η,ws,η1,A2,h1,fun vs Z1 H1 Fs1 G B r s hv=>?_⟩
 refine ⟨Z1,ws,G,u,bs,r,B.own,B.gd.zal,h3,fun v Z2 H2 G1 G2 r1 r2 d o st=>?_⟩
 obtain ⟨B2,s2⟩:=B.op o st
 have fin:∃ Fs',At K ⟨sf,val⟩ σ Z2 H2 Fs' (M.putAll (ios es) bs η1) G1/\∀ a,tot Fs' a->tot Fs1 a\/G2 a:=by
  rcases hio with e | e
  ·have e2:=rM (pv:=val) (es:=es) (n:=0) (vs:=vs) (fun k i u' hk hu=>by rw [a15]; exact hv k i u' hk hu) hvn
   rw [e] at e2
   rw [<- e2] at r2
   exact At.putAll B2 d r2 hvn
  ·rw [e]
   exact ⟨Fs1,B2.mono fun _ z=>.inl z,fun _ z=>.inl z⟩
 obtain ⟨Fs',B3,hF⟩:=fin
 refine k v Z2 H2 Fs' G1 (B3.unpin v1) r1 ((s.trans s2).mono (fun _ z=>z) fun a ha=>?_)
 rcases ha with z | z
 ·exact (hF a z).imp id .inr
 ·exact .inr (.inl z)
end
end MR
namespace MR
open L2 L3 M
open PySem (Addr Str sizeLine)
section
variable {K:a0a}{sl:Cf}{sf sg:Nat->Option Nat}{C:Call}{σ σ2:L2.St}{Z Z' Z1:Fp}{H H' H1:Hp}{Fs Fs' Fs1:Fps}{η η' η1 ηb:Env}{G G' G1 R F F':Fp}{tg is vs ls:List Nat}{pv val:Nat->Option V}
theorem k6 (o:Option W):toS (toS o)=toS o:=by
 cases o with
 | none=>rfl
 | some w=>rfl
theorem ej:∀ (vs:List Nat) (η:Env) (i:Nat),rd (share vs η) i=if i∈vs then toS (rd η i) else rd η i
 | [],η,i=>by simp [share]
 | v::vs,η,i=>by
  show rd (share vs (wr η v (toS (rd η v)))) i=_
  rw [ej vs,bh]
  by_cases h2:i=v
  ·subst h2
   rw [if_pos (show i∈i::vs from a0o)]
   by_cases hl:i < η.length
   ·rw [if_pos (show i=i/\i < η.length from ⟨rfl,hl⟩)]
    split
    ·exact k6 _
    ·rfl
   ·have e:rd η i=none:=by
     cases e:rd η i with
     | none=>rfl
     | some w=>exact absurd (c9 e) hl
    rw [if_neg (show ¬ (i=i/\i < η.length) from fun h=>hl h.2),e]
    split<;>rfl
  ·rw [if_neg (show ¬ (i=v/\v < η.length) from fun h=>h2 h.1)]
   by_cases h1:i∈vs
   ·rw [if_pos h1,if_pos (a0p _ h1)]
   ·rw [if_neg h1,if_neg (by simp [h1,h2])]
theorem hX:∀ (η:Env) (i:Nat),rd (d9 η) i=none
 | [],_=>rfl
 | _::_,0=>rfl
 | _::η,i+1=>hX η i
theorem ju:∀ (vs:List Nat) (η0 η:Env) (i:Nat) (w:W),rd (iN vs η0 η) i=some w->rd η i=some w\/(i∈vs/\toS (rd η0 i)=some w)
 | [],_,_,_,_,h=>.inl h
 | v::vs,η0,η,i,w,h=>by
  rcases ju vs η0 (wr η v (toS (rd η0 v))) i w h with e | e
  ·rw [bh] at e
   split at e
   ·rename_i hc; obtain ⟨rfl,_⟩:=hc; exact .inr ⟨a0o,e⟩
   ·exact .inl e
  ·exact .inr ⟨a0p _ e.1,e.2⟩
theorem hU:∀ (vs:List Nat) (η0 η:Env) (i:Nat) (w:W),rd (ek vs η0 η) i=some w->rd η i=some w\/lfO (rd η0 i)=some w
 | [],_,_,_,_,h=>.inl h
 | v::vs,η0,η,i,w,h=>by
  rcases hU vs η0 (wr η v (lfO (rd η0 v))) i w h with e | e
  ·rw [bh] at e
   split at e
   ·rename_i hc; obtain ⟨rfl,_⟩:=hc; exact .inr e
   ·exact .inl e
  ·exact .inr e
theorem pE {i:Nat}{w:W}(h:rd (pick vs ls η) i=some w):∃ m t,rd η i=some (m,t)/\((i∈vs/\w=(.s,t))\/(t.leaf=true/\w=(.d,t))):=by
 rcases hU ls η _ i w h with e | e
 ·rcases ju vs η _ i w e with e | ⟨hi,e⟩
  ·rw [hX] at e; cases e
  ·cases q:rd η i with
   | none=>rw [q] at e; cases e
   | some u=>rw [q] at e; cases e; exact ⟨u.1,u.2,rfl,.inl ⟨hi,rfl⟩⟩
 ·cases q:rd η i with
  | none=>rw [q] at e; cases e
  | some u =>
   rw [q] at e
   obtain ⟨m,t⟩:=u
   have e':(if t.leaf=true then some ((.d,t):W) else none)=some w:=e
   split at e'
   ·rename_i hl; cases e'; exact ⟨m,t,rfl,.inr ⟨hl,rfl⟩⟩
   ·cases e'
noncomputable def bZ (Fs:Fps)(vs:List Nat):Fp:=fun a=>∃ i,i∈vs/\Fs i a
noncomputable def k7:Fps:=fun _ _=>False
theorem bX {a:Addr}(h:bZ Fs vs a):tot Fs a:=let ⟨i,_,h⟩:=h; ⟨i,h⟩
theorem fN {a:Addr}(h:tot k7 a):False:=let ⟨_,h⟩:=h; h
theorem At.quiet (A:At K sl σ Z H Fs η no):At K sl σ (fun a=>Z a\/bZ Fs vs a) H k7 (pick vs ls η) no:=by
 refine ⟨⟨fun a h=>(fN h).elim,fun _ _ _ h=>h.elim,fun a h=>h.elim (A.gd.zal a) fun q=>?_⟩,fun i m t e=>?_,bP,fun _ z=>z.elim,A.lk,A.ln⟩
 ·obtain ⟨_,xs,e⟩:=A.gd.own a (bX q)
  rw [e]; simp
 ·obtain ⟨m',t',e1,e2⟩:=pE e
  obtain ⟨v,r,h⟩:=A.env i m' t' e1
  rcases e2 with ⟨hi,e2⟩ | ⟨hl,e2⟩
  ·cases e2
   exact ⟨v,(r.sh.zmono fun a h=>h.imp id fun q=>⟨i,hi,q⟩).sany,h⟩
  ·cases e2
   exact ⟨v,r.leaf (fun _ _ _ q=>q) hl,h⟩
mutual
theorem Rep.dany:∀ {t:T} {v:V} {G:Fp},Rep K Z H .d t v G->Rep K Z' H .d t v G
 | .non,_,_,h=>h
 | .bl _,_,_,h=>h
 | .int _,_,_,h=>h
 | .str _,_,_,h=>h
 | .scr _,_,_,h=>h
 | .tup ts,_,_,⟨a,xs,e,q,l,r⟩=>⟨a,xs,e,q,l,RepL.dany r⟩
 | .lst ts,_,_,⟨a,xs,e,l,q,r⟩=>⟨a,xs,e,l,q,RepL.dany r⟩
 | .dct _ _,_,_,h=>h.elim
 | .ins _ _ _,_,_,h=>h.elim
 | .gone,_,_,h=>h
theorem RepL.dany:∀ {ts:List T} {xs:List V} {G:Fp},RepL K Z H .d ts xs G->RepL K Z' H .d ts xs G
 | [],_,_,h=>h
 | t::ts,xs,_,⟨x,r,G1,G2,e,h1,h2,hd,p,q⟩=>⟨x,r,G1,G2,e,h1,h2,hd,Rep.dany p,RepL.dany q⟩
end
theorem cT (A:At K sl σ Z H Fs η no)(B:Own Z' H' G)(zal:∀ a,Z' a->H' a≠none)(s:Step (fun a=>Z a\/bZ Fs vs a) H F Z' H' (fun a=>F' a\/G a))(hF:∀ a,¬ F a) :
  At K sl σ (fun a=>Z' a/\¬ bZ Fs vs a) H' Fs η G/\Step Z H (tot Fs) (fun a=>Z' a/\¬ bZ Fs vs a) H' (fun a=>tot Fs a\/G a):=by
 have keep:∀ a o,H a=some o->H' a=some o:=fun a o e=>s.keep a o e (hF a)
 have zz:∀ a,Z a->Z' a/\¬ bZ Fs vs a:=fun a h=>⟨s.zm a (.inl h),fun q=>(A.gd.own a (bX q)).1 h⟩
 have nz:∀ a,tot Fs a->¬ (Z' a/\¬ bZ Fs vs a):=fun a h q=>by
  obtain ⟨nz,xs,e⟩:=A.gd.own a h
  rcases s.zn a q.1 with z | z | z
  ·exact z.elim nz q.2
  ·exact hF a z
  ·rw [e] at z; cases z
 have gd:∀ a,G a->¬ tot Fs a:=fun a h q=>by
  obtain ⟨_,xs,e⟩:=A.gd.own a q
  rcases s.fn a (.inr h) with z | z
  ·exact hF a z
  ·rw [e] at z; cases z
 refine ⟨⟨⟨fun a h=>?_,A.gd.dis,fun a h=>zal a h.1⟩,fun i m t e=>?_,fun a h=>⟨fun q=>(B a h).1 q.1,(B a h).2⟩,gd,A.lk,A.ln⟩,⟨fun a o e _=>keep a o e,zz,fun a h=>?_,fun a h=>?_,s.al,fun _ a h=>zal a h.1⟩⟩
 ·obtain ⟨_,xs,e⟩:=A.gd.own a h
  exact ⟨nz a h,xs,keep a _ e⟩
 ·obtain ⟨v,r,h⟩:=A.env i m t e
  refine ⟨v,r.keep ⟨fun a o _ e=>keep a o e,fun a xs e=>?_,fun a o u e=>keep a _ e⟩ zz fun a o _ e=>keep a o e,h⟩
  rcases e with e | ⟨u,e⟩
  ·exact .inl (keep a _ e)
  ·exact .inr ⟨u,keep a _ e⟩
 ·rcases s.zn a h.1 with z | z | z
  ·exact z.elim .inl fun q=>absurd q h.2
  ·exact (hF a z).elim
  ·exact .inr (.inr z)
 ·rcases h with h | h
  ·exact .inl h
  ·exact (s.fn a (.inr h)).elim (fun z=>(hF a z).elim) .inr
theorem At.share (A:At K sl σ Z H Fs η G):At K sl σ (fun a=>Z a\/bZ Fs vs a) H (dI Fs vs) (M.share vs η) G/\∀ {Z0 H0 F0},Step Z0 H0 F0 Z H (fun a=>tot Fs a\/G a)->Step Z0 H0 F0 (fun a=>Z a\/bZ Fs vs a) H (fun a=>tot (dI Fs vs) a\/G a):=by
 refine ⟨⟨⟨fun a h=>?_,fun i j a h1 h2=>A.gd.dis i j a h1.2 h2.2,fun a h=>h.elim (A.gd.zal a) fun q=>?_⟩,fun i m t e=>?_,fun a h=>⟨fun z=>z.elim (A.own a h).1 fun q=>A.dis a h (bX q),(A.own a h).2⟩,fun a h q=>A.dis a h (bR q),A.lk,A.ln⟩,fun {Z0 H0 F0} s=>⟨s.keep,fun a h=>.inl (s.zm a h),fun a h=>h.elim (s.zn a) fun q=>.inr (s.fn a (.inl (bX q))),fun a h=>s.fn a (h.imp bR id),s.al,fun z a h=>h.elim (s.za z a) fun q=>?_⟩⟩
 ·obtain ⟨i,hi,h'⟩:=h
  obtain ⟨nz,xs,e⟩:=A.gd.own a ⟨i,h'⟩
  exact ⟨fun z=>z.elim nz fun ⟨j,hj,q⟩=>hi (A.gd.dis i j a h' q ▸ hj),xs,e⟩
 ·obtain ⟨_,xs,e⟩:=A.gd.own a (bX q)
  rw [e]; simp
 ·rw [ej] at e
  split at e
  ·rename_i hi
   cases q:rd η i with
   | none=>rw [q] at e; cases e
   | some u =>
    rw [q] at e; cases e
    obtain ⟨v,r,h⟩:=A.env i u.1 u.2 q
    exact ⟨v,(r.sh.zmono fun a h=>h.imp id fun q=>⟨i,hi,q⟩).sany,h⟩
  ·rename_i hi
   obtain ⟨v,r,h⟩:=A.env i m t e
   exact ⟨v,(r.zmono fun a h=>.inl h).mono fun a h=>⟨hi,h⟩,h⟩
 ·obtain ⟨_,xs,e⟩:=A.gd.own a (bX q)
  rw [e]; simp
theorem kL {x:X}{e:E}{w:W}{Q:VK}(A:At K sl σ Z H Fs η no)(ev:evX C x e η=.ok (w,η'))(k:∀ v Z' H' Fs' G,At K sl σ Z' H' Fs' η' G->Rep K Z' H' w.1 w.2 v G->Step Z H (tot Fs) Z' H' (fun a=>tot Fs' a\/G a)->Q v H'):wE K sl.sl C e σ H Q:=by
 cases x with
 | q vs ls =>
  obtain ⟨⟨u,η2⟩,h1,h2⟩:=ae (show (evE C e (pick vs ls η)).bind (kX vs η)=_ from ev)
  cases h2
  generalize hm0:M.lf u.1 u.2=m0 at k
  refine ⟨sl.pv,_,k7,_,_,η2,A.quiet (vs:=vs) (ls:=ls),h1,fun v Z' H' Fs' G B r0 s=>?_⟩
  have r:=r0.lf
  rw [hm0] at r
  obtain ⟨B1,s1⟩:=cT A B.own B.gd.zal s fun a h=>fN h
  have other:Q v H'\/m0=.d:=by
   by_cases hd:m0=.d
   ·exact .inr hd
   ·refine .inl ?_
    have e':after m0 vs η=share vs η:=by
     cases hm:m0 with
     | d=>exact absurd hm hd
     | s=>rfl
     | o m=>rfl
    obtain ⟨B2,s2⟩:=B1.share (vs:=vs)
    have zz:∀ a,(Z' a/\¬ bZ Fs vs a)\/bZ Fs vs a->Z' a:=fun a h=>h.elim a2A fun q=>s.zm a (.inr q)
    have zz':∀ a,Z' a->(Z' a/\¬ bZ Fs vs a)\/bZ Fs vs a:=fun a h=>(a2X (bZ Fs vs a)).elim .inr fun q=>.inl ⟨h,q⟩
    exact k v _ H' _ G (e' ▸ B2) (r.zmono zz') (s2 s1)
  rcases other with q | hd
  ·exact q
  ·have e':after m0 vs η=η:=by rw [hd]; rfl
   refine k v _ H' Fs G (e'.symm ▸ B1) ?_ s1
   subst hd
   exact r.dany
 | l vs =>
  obtain ⟨B,s0⟩:=A.share (vs:=vs)
  have s1:=s0 ((Step.refl Z H (tot Fs)).mono (F2:=fun a=>tot Fs a\/no a) (fun _ z=>z) fun a h=>h.elim id fun z=>z.elim)
  refine ⟨sl.pv,_,_,_,w,η',B,ev,fun v Z' H' Fs' G B' r s=>k v Z' H' Fs' G B' r ((s1.mono (fun _ z=>z) fun a h=>.inl h).trans s)⟩
theorem AI {x:X}{e:E}{b:Bool}{Q:Bool->Hp->Prop}(A:At K sl σ Z H Fs η no)(ev:evT C x e η=.ok (b,η'))(k:∀ Z' H' Fs',At K sl σ Z' H' Fs' η' no->Step Z H (tot Fs) Z' H' (tot Fs')->Q b H'):wT K sl.sl C e σ H Q:=by
 cases x with
 | q vs ls =>
  obtain ⟨⟨u,η2⟩,h1,h2⟩:=ae (show (evE C e (pick vs ls η)).bind (kT η)=_ from ev)
  obtain ⟨b',h3,e3⟩:=aF (show ret η (truth u.2)=_ from h2)
  cases e3
  refine ⟨sl.pv,_,k7,_,u,η2,b,A.quiet (vs:=vs) (ls:=ls),h1,h3,fun Z' H' Fs' B s=>?_⟩
  obtain ⟨B1,s1⟩:=cT (G:=no) A bP B.gd.zal (s.mono (F2:=fun a=>tot Fs' a\/no a) (fun _ z=>z) fun a h=>h.elim id fun z=>z.elim) fun a h=>fN h
  exact k _ H' Fs B1 (s1.mono (fun _ z=>z) fun a h=>.inl h)
 | l vs =>
  obtain ⟨⟨u,η2⟩,h1,h2⟩:=ae (show (evE C e (M.share vs η)).bind kT2=_ from ev)
  obtain ⟨b',h3,e3⟩:=aF (show ret η2 (truth u.2)=_ from h2)
  cases e3
  obtain ⟨B,s0⟩:=A.share (vs:=vs)
  have s1:=s0 ((Step.refl Z H (tot Fs)).mono (F2:=fun a=>tot Fs a\/no a) (fun _ z=>z) fun a h=>h.elim id fun z=>z.elim)
  exact ⟨sl.pv,_,_,_,u,_,b,B,h1,h3,fun Z' H' Fs' B' s=>k Z' H' Fs' B' ((s1.mono (fun _ z=>z) fun a h=>.inl h).trans s)⟩
end
end MR
namespace MR
open L2 L3 M
open PySem (Addr Str sizeLine)
section
variable {K:a0a}{sl:Cf}{sf sg:Nat->Option Nat}{C:Call}{σ σ2:L2.St}{Z Z' Z1:Fp}{H H' H1:Hp}{Fs Fs' Fs1:Fps}{η η' η1 ηb:Env}{G G' G1 R F F':Fp}{tg is vs ls io:List Nat}{pv val:Nat->Option V}{D:b6}
noncomputable def Fin (K:a0a)(sl:Cf)(Z:Fp)(H:Hp)(F:Fp)(D:b6):Fl->Prop
 | .nx η'=>∀ σ' Z' H' Fs',At K sl σ' Z' H' Fs' η' no->Step Z H F Z' H' (tot Fs')->D.nx σ' H'
 | .rt w η'=>∀ v σ' Z' H' Fs' G,At K sl σ' Z' H' Fs' η' G->Rep K Z' H' w.1 w.2 v G->Step Z H F Z' H' (fun a=>tot Fs' a\/G a)->D.rt v H'
 | .bk η'=>∀ σ' Z' H' Fs',At K sl σ' Z' H' Fs' η' no->Step Z H F Z' H' (tot Fs')->D.bk σ' H'
 | _=>False
theorem Fin.step {fl:Fl}(s:Step Z H F Z1 H1 F')(h:Fin K sl Z H F D fl):Fin K sl Z1 H1 F' D fl:=by
 cases fl with
 | nx η=>exact fun σ' Z' H' Fs' A t=>h σ' Z' H' Fs' A (s.trans t)
 | rt w η=>exact fun v σ' Z' H' Fs' G A r t=>h v σ' Z' H' Fs' G A r (s.trans t)
 | bk η=>exact fun σ' Z' H' Fs' A t=>h σ' Z' H' Fs' A (s.trans t)
 | _=>exact h.elim
structure mX (sf:Nat->Option Nat)(io:List Nat)(pv:Nat->Option V):Prop where
 inj:∀ i i' j,sf i=some j->sf i'=some j->i=i'
 io:∀ i,i ∉ io->pv i=none
noncomputable def wS (K:a0a)(sf:Nat->Option Nat)(io:List Nat)(C:Call)(st:S):TS:=fun D σ H=>∃ pv Z Fs η,mX sf io pv/\At K ⟨sf,pv⟩ σ Z H Fs η no/\Fin K ⟨sf,pv⟩ Z H (tot Fs) D (evS C st η)
noncomputable def wSs (K:a0a)(sf:Nat->Option Nat)(io:List Nat)(C:Call)(st:List S):TS:=fun D σ H=>∃ pv Z Fs η,mX sf io pv/\At K ⟨sf,pv⟩ σ Z H Fs η no/\Fin K ⟨sf,pv⟩ Z H (tot Fs) D (evSs C st η)
theorem qR (D:b6)(σ:L2.St)(H:Hp)(h:wSs K sf io C [] D σ H):rh D σ H:=by
 obtain ⟨pv,Z,Fs,η,N,A,f⟩:=h
 exact f σ Z H Fs A (Step.refl _ _ _)
theorem n5 {s:S}{r:List S}(D:b6)(σ:L2.St)(H:Hp)(h:wSs K sf io C (s::r) D σ H):yY (wS K sf io C s) (wSs K sf io C r) D σ H:=by
 obtain ⟨pv,Z,Fs,η,N,A,f⟩:=h
 refine ⟨pv,Z,Fs,η,N,A,?_⟩
 have f':Fin K ⟨sf,pv⟩ Z H (tot Fs) D (Fl.seq (evS C s η) (evSs C r)):=f
 cases e:evS C s η with
 | nx η1 =>
  rw [e] at f'
  exact fun σ' Z' H' Fs' A' t=>⟨pv,Z',Fs',η1,N,A',f'.step t⟩
 | rt w η1=>rw [e] at f'; exact f'
 | bk η1=>rw [e] at f'; exact f'
 | ex c x η1=>rw [e] at f'; exact f'.elim
 | no=>rw [e] at f'; exact f'.elim
theorem qd {s:S}(D:b6)(σ:L2.St)(H:Hp)(h:wSs K sf io C [s] D σ H):wS K sf io C s D σ H:=by
 obtain ⟨pv,Z,Fs,η,N,A,f⟩:=h
 refine ⟨pv,Z,Fs,η,N,A,?_⟩
 have f':Fin K ⟨sf,pv⟩ Z H (tot Fs) D (Fl.seq (evS C s η) (evSs C [])):=f
 cases e:evS C s η with
 | nx η1=>rw [e] at f'; exact f'
 | rt w η1=>rw [e] at f'; exact f'
 | bk η1=>rw [e] at f'; exact f'
 | ex c x η1=>rw [e] at f'; exact f'.elim
 | no=>rw [e] at f'; exact f'.elim
theorem bq {α:Type}{r:Res α}{g:α->Fl}(f:Fin K sl Z H F D (Fl.of η r g)):∃ a,r=.ok a/\Fin K sl Z H F D (g a):=by
 cases r with
 | ok a=>exact ⟨a,rfl,f⟩
 | ex c x=>exact f.elim
 | no=>exact f.elim
theorem ja {o:Option Env}(f:Fin K sl Z H F D (nxO η o)):∃ η',o=some η'/\Fin K sl Z H F D (.nx η'):=by
 cases o with
 | some a=>exact ⟨a,rfl,f⟩
 | none=>exact f.elim
theorem At.setR {i j:Nat}{w:W}{x:V}(N:mX sf io pv)(hi:i ∉ io)(hs:sf i=some j)(A:At K ⟨sf,pv⟩ σ Z H Fs η G)(r:Rep K Z H w.1 w.2 x G1)(q1:∀ a,G1 a->G a)(q2:∀ a,R a->G a)(q3:∀ a,R a->¬ G1 a):At K ⟨sf,pv⟩ (σ.set j (some x)) Z H (kd Fs i G1) (M.put η i w) R:=by
 have hj:j < σ.length:=A.ln i j hs
 have B:At K ⟨fun k=>if k=i then none else sf k,pv⟩ (σ.set j (some x)) Z H Fs (M.del η i) G:=by
  refine ⟨A.gd,fun l m t e=>?_,A.own,A.dis,fun l u k hu hk=>?_,fun l k hk=>?_⟩
  ·rw [bh] at e
   split at e
   ·cases e
   ·rename_i hne
    obtain ⟨v,r',h1,h2⟩:=A.env l m t e
    have hl:l≠i:=fun z=>hne ⟨z,by rw [<- z]; exact c9 e⟩
    refine ⟨v,r',fun k hk=>?_,h2⟩
    have hk':sf l=some k:=by have:(if l=i then none else sf l)=some k:=hk; rw [if_neg hl] at this; exact this
    have hjk:j≠k:=fun z=>hl (N.inj l i k hk' (by rw [<- z]; exact hs))
    rw [a1e hjk]
    exact h1 k hk'
  ·have hl:l≠i:=fun z=>by
    have hu':pv l=some u:=hu
    rw [z,N.io i hi] at hu'; cases hu'
   have hk':sf l=some k:=by have:(if l=i then none else sf l)=some k:=hk; rw [if_neg hl] at this; exact this
   have hjk:j≠k:=fun z=>hl (N.inj l i k hk' (by rw [<- z]; exact hs))
   rw [a1e hjk]
   exact A.lk l u k hu hk'
  ·have hk':sf l=some k:=by
    have:(if l=i then none else sf l)=some k:=hk
    split at this
    ·cases this
    ·exact this
   rw [a1z]
   exact A.ln l k hk'
 have B2:=At.put (i:=i) (w:=w) (G1:=G1) (R:=R) B r q1 q2 q3 (fun k hk=>by have hk':(if i=i then none else sf i)=some k:=hk; rw [if_pos rfl] at hk'; cases hk') (fun u hu=>by have:=N.io i hi; rw [show pv i=some u from hu] at this; cases this)
 have e1:M.put (M.del η i) i w=M.put η i w:=by
  have:∀ (η:Env) (i:Nat) (a b:Option W),wr (wr η i a) i b=wr η i b:=fun η=>by
   induction η with
   | nil=>intro i a b; rfl
   | cons o η ih=>intro i a b; cases i with
    | zero=>rfl
    | succ i=>show o::wr (wr η i a) i b=o::wr η i b; rw [ih]
  exact this η i none (some w)
 rw [e1] at B2
 refine ⟨B2.gd,fun l m t e=>?_,B2.own,B2.dis,fun l u k hu hk=>?_,fun l k hk=>by rw [a1z]; exact A.ln l k hk⟩
 ·obtain ⟨v,r',h1,h2⟩:=B2.env l m t e
  by_cases hl:l=i
  ·subst hl
   rw [bh] at e
   split at e
   ·cases e
    refine ⟨x,r.mono fun a h=>.inl ⟨rfl,h⟩,fun k hk=>?_,fun u hu=>by have:=N.io l hi; rw [show pv l=some u from hu] at this; cases this⟩
    have:k=j:=by rw [show sf l=some k from hk] at hs; cases hs; rfl
    subst this
    rw [a1o hj]
   ·rename_i hc
    exact absurd ⟨rfl,c9 e⟩ hc
  ·refine ⟨v,r',fun k hk=>h1 k ?_,h2⟩
   show (if l=i then none else sf l)=some k
   rw [if_neg hl]; exact hk
 ·by_cases hl:l=i
  ·subst hl
   have:=N.io l hi
   rw [show pv l=some u from hu] at this; cases this
  ·exact B2.lk l u k hu (show (if l=i then none else sf l)=some k by rw [if_neg hl]; exact hk)
theorem At.set {i j:Nat}{w:W}{x:V}(N:mX sf io pv)(hi:i ∉ io)(hs:sf i=some j)(A:At K ⟨sf,pv⟩ σ Z H Fs η G)(r:Rep K Z H w.1 w.2 x G):At K ⟨sf,pv⟩ (σ.set j (some x)) Z H (kd Fs i G) (M.put η i w) no:=At.setR N hi hs A r (fun _ h=>h) (fun _ z=>z.elim) (fun _ z=>z.elim)
theorem i0 {x:X}{i j:Nat}{e:E}(hi:i ∉ io)(hs:sf i=some j)(D:b6)(σ:L2.St)(H:Hp)(h:wS K sf io C (.asg x i e) D σ H):jX (wE K sf C e) (cj j) D σ H:=by
 obtain ⟨pv,Z,Fs,η,N,A,f⟩:=h
 obtain ⟨⟨w,η1⟩,h1,h2⟩:=bq (show Fin K ⟨sf,pv⟩ Z H (tot Fs) D (Fl.of η (evX C x e η) (pf i)) from f)
 refine kL (sl:=⟨sf,pv⟩) A h1 fun v Z' H' Fs' G B r s=>?_
 exact h2 _ Z' H' _ (At.set N hi hs B r) (s.mono (fun _ z=>z) fun a ha=>bJ ha)
theorem uw {e:E}(D:b6)(σ:L2.St)(H:Hp)(h:wS K sf io C (.ret vs e) D σ H):xg (wE K sf C e) D σ H:=by
 obtain ⟨pv,Z,Fs,η,N,A,f⟩:=h
 obtain ⟨⟨w,η1⟩,h1,h2⟩:=bq (show Fin K ⟨sf,pv⟩ Z H (tot Fs) D (Fl.of η (evE C e (M.share vs η)) kRt) from f)
 exact kL (sl:=⟨sf,pv⟩) (x:=.l vs) A h1 fun v Z' H' Fs' G B r s=>h2 v σ Z' H' Fs' G B r s
theorem uS {x:X}{c:E}{a b:List S}(D:b6)(σ:L2.St)(H:Hp)(h:wS K sf io C (.ite x c a b) D σ H):xD (wT K sf C c) (wSs K sf io C a) (wSs K sf io C b) D σ H:=by
 obtain ⟨pv,Z,Fs,η,N,A,f⟩:=h
 obtain ⟨⟨k,η1⟩,h1,h2⟩:=bq (show Fin K ⟨sf,pv⟩ Z H (tot Fs) D (Fl.of η (evT C x c η) (kIf (evSs C a) (evSs C b))) from f)
 refine AI (sl:=⟨sf,pv⟩) A h1 fun Z' H' Fs' B s=>?_
 cases k with
 | true=>rw [if_pos rfl]; exact ⟨pv,Z',Fs',η1,N,B,Fin.step s h2⟩
 | false=>rw [if_neg a0h]; exact ⟨pv,Z',Fs',η1,N,B,Fin.step s h2⟩
theorem je {m:Md}{ts:List T}{v:V}(hm:m≠.s)(r:Rep K Z H m (.lst ts) v G):∃ a xs,v=.ref a/\xs.length<=LIM/\G a/\H a=some (.lst xs)/\RepL K Z H m.kid ts xs (fun b=>G b/\b≠a):=by
 obtain ⟨a,xs,e,l,q,p⟩:=r
 rw [LstR.own hm] at q
 exact ⟨a,xs,e,l,q.1,q.2,p⟩
theorem qp {i:Nat}{a:Addr}{ts':List T}{xs':List V}{m':Md}(hm:m'≠.s)(A:At K ⟨sf,pv⟩ σ Z H Fs η G){w0:W}(hi:rd η i=some w0)(ha:Fs i a)(hx:∀ j,sf i=some j->σ[j]?=some (some (.ref a)))(hl:xs'.length<=LIM)(hpv:∀ u,pv i=some u->V.ref a=u)
  (hg:∀ b,G' b->(Fs i b\/G b)/\b≠a) (hR:∀ b,R b->(Fs i b\/G b)/\b≠a) (hRG:∀ b,R b->¬ G' b) (p:RepL K (fun b=>Z b\/((Fs i b\/G b)/\b≠a/\¬ G' b/\¬ R b)) H m'.kid ts' xs' G') {Q:Hp->Prop}
  (k:∀ Z' Fs',At K ⟨sf,pv⟩ σ Z' (upd H a (.lst xs')) Fs' (M.put η i (m',.lst ts')) R->Step Z H (fun b=>tot Fs b\/G b) Z' (upd H a (.lst xs')) (fun b=>tot Fs' b\/R b)->(∀ {m t v},Rep K (fun b=>Z b\/((Fs i b\/G b)/\b≠a/\¬ G' b/\¬ R b)) H m t v R->Rep K Z' (upd H a (.lst xs')) m t v R)->Q (upd H a (.lst xs'))):Q (upd H a (.lst xs')):=by
 have hta:tot Fs a:=⟨i,ha⟩
 obtain ⟨nza,ys,hya⟩:=A.gd.own a hta
 have nGa:¬ G a:=fun q=>A.dis a q hta
 have zdef:∀ b,(Z b\/((Fs i b\/G b)/\b≠a/\¬ G' b/\¬ R b))->b≠a:=fun b h z=>by
  subst z
  rcases h with h | h
  ·exact nza h
  ·exact h.2.1 rfl
 have keep:∀ b o,H b=some o->b≠a->upd H a (.lst xs') b=some o:=fun b o e hb=>by rw [ao hb]; exact e
 have neT:∀ b xs,H b=some (.tup xs)->b≠a:=fun b xs e z=>by rw [z,hya] at e; cases e
 have neF:∀ b o u,H b=some (.frz o u)->b≠a:=fun b o u e z=>by rw [z,hya] at e; cases e
 have stay:∀ {Y:Fp},(∀ b,Y b->b≠a)->Stay Y H (upd H a (.lst xs')):=fun {Y} hY=>⟨fun b o hb e=>keep b o e (hY b hb),fun b xs e=>by
  rcases e with e | ⟨u,e⟩
  ·exact .inl (keep b _ e (neT b xs e))
  ·exact .inr ⟨u,keep b _ e (neF b u _ e)⟩,fun b o u e=>keep b _ e (neF b o u e)⟩
 have al:∀ b,H b≠none->upd H a (.lst xs') b≠none:=fun b h=>by
  by_cases e:b=a
  ·rw [e,aM]; simp
  ·rw [ao e]; exact h
 have zal':∀ b,(Z b\/((Fs i b\/G b)/\b≠a/\¬ G' b/\¬ R b))->H b≠none:=fun b h=>by
  rcases h with h | ⟨h | h,_⟩
  ·exact A.gd.zal b h
  ·obtain ⟨_,zs,e⟩:=A.gd.own b ⟨i,h⟩; rw [e]; simp
  ·obtain ⟨_,zs,e⟩:=A.own b h; rw [e]; simp
 have listAt:∀ b,(tot Fs b\/G b)->∃ zs,upd H a (.lst xs') b=some (.lst zs):=fun b h=>by
  by_cases e:b=a
  ·exact ⟨xs',by rw [e,aM]⟩
  ·rcases h with h | h
   ·obtain ⟨_,zs,q⟩:=A.gd.own b h; exact ⟨zs,by rw [ao e]; exact q⟩
   ·obtain ⟨_,zs,q⟩:=A.own b h; exact ⟨zs,by rw [ao e]; exact q⟩
 have nZ:∀ b,(Fs i b\/G b)->¬ Z b:=fun b h z=>h.elim (fun y=>(A.gd.own b ⟨i,y⟩).1 z) fun y=>(A.own b y).1 z
 have cS:∀ b,tot (kd Fs i fun b=>G' b\/b=a) b->(∃ j,j≠i/\Fs j b)\/G' b\/b=a:=fun b h=>by
  obtain ⟨j,h | h⟩:=h
  ·exact .inr h.2
  ·exact .inl ⟨j,h⟩
 refine k (fun b=>Z b\/((Fs i b\/G b)/\b≠a/\¬ G' b/\¬ R b)) (kd Fs i fun b=>G' b\/b=a) ⟨⟨fun b h=>⟨fun z=>?_,?_⟩,fun j l b hj hk=>?_,fun b h=>al b (zal' b h)⟩,fun l m t e=>?_,fun b h=>⟨fun z=>?_,listAt b ((hR b h).1.imp (fun z=>⟨i,z⟩) id)⟩,fun b h q=>?_,A.lk,A.ln⟩ ⟨fun b o e n=>keep b o e fun z=>n (.inl (z ▸ hta)),fun b h=>.inl h,fun b h=>h.imp id fun q=>.inl (q.1.imp (fun z=>⟨i,z⟩) id),fun b h=>?_,al,fun _ b h=>al b (zal' b h)⟩ fun {m t v} r=>r.keep (stay zdef) (fun _ z=>z) fun b o hb e=>keep b o e (hR b hb).2
 ·rcases cS b h with ⟨j,hj,q⟩ | q | q
  ·rcases z with z | ⟨z | z,_⟩
   ·exact (A.gd.own b ⟨j,q⟩).1 z
   ·exact hj (A.gd.dis j i b q z)
   ·exact A.dis b z ⟨j,q⟩
  ·rcases z with z | z
   ·exact nZ b (hg b q).1 z
   ·exact z.2.2.1 q
  ·exact zdef b z q
 ·rcases cS b h with ⟨j,hj,q⟩ | q | q
  ·exact listAt b (.inl ⟨j,q⟩)
  ·exact listAt b ((hg b q).1.imp (fun z=>⟨i,z⟩) id)
  ·exact ⟨xs',by rw [q,aM]⟩
 ·have key:∀ {j:Nat},(G' b\/b=a)->Fs j b->j=i:=fun {j} h q=>by
   rcases h with h | h
   ·rcases (hg b h).1 with y | y
    ·exact A.gd.dis j i b q y
    ·exact absurd ⟨j,q⟩ (A.dis b y)
   ·rw [h] at q; exact A.gd.dis j i a q ha
  rcases hj with ⟨rfl,hj⟩ | ⟨nj,hj⟩
  ·rcases hk with ⟨rfl,_⟩ | ⟨nk,hk⟩
   ·rfl
   ·exact absurd (key hj hk) nk
  ·rcases hk with ⟨rfl,hk⟩ | ⟨nk,hk⟩
   ·exact absurd (key hk hj) nj
   ·exact A.gd.dis j l b hj hk
 ·rw [bh] at e
  split at e
  ·rename_i hc
   obtain ⟨rfl,_⟩:=hc
   cases e
   refine ⟨.ref a,⟨a,xs',rfl,hl,(LstR.own hm).mpr ⟨.inl ⟨rfl,.inr rfl⟩,aM⟩,?_⟩,hx,hpv⟩
   exact (p.keep (stay zdef) (fun _ z=>z) fun b o hb e=>keep b o e (hg b hb).2).mono fun b hb=>⟨.inl ⟨rfl,.inl hb⟩,(hg b hb).2⟩
  ·rename_i hc
   have hl':l≠i:=fun z=>hc ⟨z,c9 hi⟩
   obtain ⟨v,r,h⟩:=A.env l m t e
   have nea:∀ b,Fs l b->b≠a:=fun b q z=>hl' (A.gd.dis l i a (z ▸ q) ha)
   exact ⟨v,((r.keep (stay fun b hb z=>nza (z ▸ hb)) (fun _ z=>z) fun b o hb e=>keep b o e (nea b hb)).zmono fun b h=>.inl h).mono fun b h=>.inr ⟨hl',h⟩,h⟩
 ·rcases z with z | z
  ·exact nZ b (hR b h).1 z
  ·exact z.2.2.2 h
 ·rcases cS b q with ⟨j,hj,y⟩ | y | y
  ·rcases (hR b h).1 with z | z
   ·exact hj (A.gd.dis j i b y z)
   ·exact A.dis b z ⟨j,y⟩
  ·exact hRG b h y
  ·exact (hR b h).2 y
 ·rcases h with h | h
  ·rcases cS b h with ⟨j,_,q⟩ | q | q
   ·exact .inl (.inl ⟨j,q⟩)
   ·exact .inl ((hg b q).1.imp (fun z=>⟨i,z⟩) id)
   ·exact .inl (.inl (q ▸ hta))
  ·exact .inl ((hR b h).1.imp (fun z=>⟨i,z⟩) id)
theorem change {i:Nat}{a:Addr}{ts':List T}{xs':List V}{m':Md}(hm:m'≠.s)(A:At K ⟨sf,pv⟩ σ Z H Fs η G){w0:W}(hi:rd η i=some w0)(ha:Fs i a)(hx:∀ j,sf i=some j->σ[j]?=some (some (.ref a)))(hl:xs'.length<=LIM)(hpv:∀ u,pv i=some u->V.ref a=u)
  (hg:∀ b,G' b->(Fs i b\/G b)/\b≠a) (p:RepL K (fun b=>Z b\/((Fs i b\/G b)/\b≠a/\¬ G' b)) H m'.kid ts' xs' G') {Q:Hp->Prop}
  (k:∀ Z' Fs',At K ⟨sf,pv⟩ σ Z' (upd H a (.lst xs')) Fs' (M.put η i (m',.lst ts')) no->Step Z H (fun b=>tot Fs b\/G b) Z' (upd H a (.lst xs')) (tot Fs')->Q (upd H a (.lst xs'))):Q (upd H a (.lst xs')) :=
 qp (R:=no) hm A hi ha hx hl hpv hg (fun _ z=>z.elim) (fun _ z=>z.elim) (p.zmono fun b h=>h.imp id fun q=>⟨q.1,q.2.1,q.2.2,fun z=>z⟩) fun Z' Fs' B s _=>k Z' Fs' B (s.mono (fun _ z=>z) fun _ z=>.inl z)
end
end MR
namespace MR
open L2 L3 M
open PySem (Addr Str sizeLine)
section
variable {K:a0a}{sl:Cf}{sf sg:Nat->Option Nat}{C:Call}{σ σ2:L2.St}{Z Z' Z1:Fp}{H H' H1:Hp}{Fs Fs' Fs1:Fps}{η η' η1 ηb:Env}{G G' G1 R F F':Fp}{tg is vs ls io:List Nat}{pv val:Nat->Option V}{D:b6}
theorem lX {o:Option W}{u:Unit}(h:eV o=.ok u):∃ m ts,o=some (m,.lst ts):=by
 cases o with
 | none=>cases h
 | some w =>
  obtain ⟨m,t⟩:=w
  cases t with
  | lst ts=>exact ⟨m,ts,rfl⟩
  | _=>cases h
theorem At.listAt {i j:Nat}{m:Md}{ts:List T}(hs:sf i=some j)(A:At K ⟨sf,pv⟩ σ Z H Fs η G)(h:rd η i=some (m,.lst ts)):∃ a xs,σ[j]?=some (some (.ref a))/\H a=some (.lst xs):=by
 obtain ⟨v,r,hl,_⟩:=A.env i m _ h
 obtain ⟨a,xs,rfl,hx,_⟩:=br r
 exact ⟨a,xs,hl j hs,hx⟩
theorem At.ourList {i j:Nat}{a:Addr}{m:Md}{ts:List T}(hs:sf i=some j)(hm:m≠.s)(hj:σ[j]?=some (some (.ref a)))(A:At K ⟨sf,pv⟩ σ Z H Fs η G)(h:rd η i=some (m,.lst ts)) :
  ∃ xs,xs.length<=LIM/\Fs i a/\H a=some (.lst xs)/\RepL K Z H m.kid ts xs (fun b=>Fs i b/\b≠a)/\(∀ u,pv i=some u->V.ref a=u):=by
 obtain ⟨v,r,hl,hp⟩:=A.env i m _ h
 have e:=hl j hs
 rw [hj] at e
 cases e
 obtain ⟨b,xs,e,l,g,hx,p⟩:=je hm r
 cases e
 exact ⟨xs,l,g,hx,p,hp⟩
theorem lB {u w r:W}(h:eU u w=some r):∃ m ts,u=(m,.lst ts)/\m≠.s/\ts.length < LIM/\r=((m.kid.meet (lf w.1 w.2)).up,.lst (ts++[w.2])):=by
 obtain ⟨m,t⟩:=u
 obtain ⟨n,t'⟩:=w
 cases m with
 | s=>cases h
 | d =>
  cases t with
  | lst ts =>
   have h':(if ts.length < LIM then some ((((Md.d.kid.meet (lf n t')).up,.lst (ts++[t'])):W)) else none)=some r:=h
   split at h'
   ·rename_i hl; cases h'; exact ⟨.d,ts,rfl,by simp,hl,rfl⟩
   ·cases h'
  | _=>cases h
 | o m =>
  cases t with
  | lst ts =>
   have h':(if ts.length < LIM then some (((((Md.o m).kid.meet (lf n t')).up,.lst (ts++[t'])):W)) else none)=some r:=h
   split at h'
   ·rename_i hl; cases h'; exact ⟨.o m,ts,rfl,by simp,hl,rfl⟩
   ·cases h'
  | _=>cases h
theorem mI {u k w r:W}(h:cS u k w=some r):∃ m ts n j q,u=(m,.lst ts)/\k=(n,.int j)/\m≠.s/\M.ixN ts.length j=some q/\r=((m.kid.meet (lf w.1 w.2)).up,.lst (ts.set q w.2)):=by
 obtain ⟨m,t⟩:=u
 obtain ⟨n,t'⟩:=k
 cases m with
 | s=>cases h
 | d =>
  cases t with
  | lst ts =>
   cases t' with
   | int j =>
    have h':(M.ixN ts.length j).map (fun k=>(((Md.d.kid.meet (lf w.1 w.2)).up,.lst (ts.set k w.2)):W))=some r:=h
    cases e:M.ixN ts.length j with
    | none=>rw [e] at h'; cases h'
    | some q=>rw [e] at h'; cases h'; exact ⟨.d,ts,n,j,q,rfl,rfl,by simp,e,rfl⟩
   | _=>cases h
  | _=>cases h
 | o m =>
  cases t with
  | lst ts =>
   cases t' with
   | int j =>
    have h':(M.ixN ts.length j).map (fun k=>((((Md.o m).kid.meet (lf w.1 w.2)).up,.lst (ts.set k w.2)):W))=some r:=h
    cases e:M.ixN ts.length j with
    | none=>rw [e] at h'; cases h'
    | some q=>rw [e] at h'; cases h'; exact ⟨.o m,ts,n,j,q,rfl,rfl,by simp,e,rfl⟩
   | _=>cases h
  | _=>cases h
theorem lR {a:Addr}{m:Md}{ts:List T}{xs:List V}{w:W}{y:V}{A0:Fp}(hA:∀ b,A0 b->b≠a)(hG:∀ b,G b->b≠a)(d:∀ b,A0 b->¬ G b)(p:RepL K Z H m ts xs A0)(r:Rep K Z H w.1 w.2 y G) :
  ∃ G',(∀ b,G' b->(A0 b\/G b)/\b≠a)/\RepL K (fun b=>Z b\/((A0 b\/G b)/\b≠a/\¬ G' b)) H (m.meet (lf w.1 w.2)) (ts++[w.2]) (xs++[y]) G':=by
 obtain ⟨G',g1,g2⟩:=ia (G:=fun b=>A0 b\/G b) (fun _ z=>.inl z) (fun _ z=>.inr z) d p (RepL.one r.lf)
 have ne:∀ b,(A0 b\/G b)->b≠a:=fun b h=>h.elim (hA b) (hG b)
 exact ⟨G',fun b h=>⟨g1 b h,ne b (g1 b h)⟩,g2.zmono fun b h=>h.imp id fun q=>⟨q.1,ne b q.1,q.2⟩⟩
theorem sH {x:X}{i j:Nat}{e:E}(hs:sf i=some j)(D:b6)(σ:L2.St)(H:Hp)(h:wS K sf io C (.app x i e) D σ H) :
  ∃ a xs,σ[j]?=some (some (.ref a))/\H a=some (.lst xs)/\wE K sf C e σ H fun y H1=>∃ xs,H1 a=some (.lst xs)/\xs.length < sizeLine/\D.nx σ (upd H1 a (.lst (xs++[y]))):=by
 obtain ⟨pv,Z,Fs,η,N,A,f⟩:=h
 obtain ⟨u,h0,h1⟩:=bq (show Fin K ⟨sf,pv⟩ Z H (tot Fs) D (Fl.of η (eV (rd η i)) (jR (evX C x e) η (nW i))) from f)
 obtain ⟨m0,t0,h00⟩:=lX h0
 obtain ⟨a,xs0,hj,ha⟩:=A.listAt hs h00
 obtain ⟨⟨w,η1⟩,h2,h3⟩:=bq (show Fin K ⟨sf,pv⟩ Z H (tot Fs) D (Fl.of η (evX C x e η) (nW i)) from h1)
 obtain ⟨η2,h4,h5⟩:=ja (show Fin K ⟨sf,pv⟩ Z H (tot Fs) D (nxO η1 (((rd η1 i).bind fun u=>eU u w).map fun u=>M.put η1 i u)) from h3)
 refine ⟨a,xs0,hj,ha,kL (sl:=⟨sf,pv⟩) A h2 fun y Z' H' Fs' G B r s=>?_⟩
 cases e1:rd η1 i with
 | none=>rw [e1] at h4; cases h4
 | some u1 =>
  rw [e1] at h4
  cases e2:eU u1 w with
  | none=>rw [show (some u1).bind (fun u=>eU u w)=eU u1 w from rfl,e2] at h4; cases h4
  | some r1 =>
   rw [show (some u1).bind (fun u=>eU u w)=eU u1 w from rfl,e2] at h4
   cases h4
   obtain ⟨m,ts,rfl,hm,hlen,rfl⟩:=lB e2
   obtain ⟨xs,hl,hf,hx,p,hpv⟩:=B.ourList hs hm hj e1
   have e3:=p.length
   obtain ⟨G',g1,g2⟩:=lR (a:=a) (fun b h=>h.2) (fun b h z=>B.dis b h ⟨i,z ▸ hf⟩) (fun b h q=>B.dis b q ⟨i,h.1⟩) p r
   refine ⟨xs,hx,iA hl,?_⟩
   refine change (K:=K) (m':=(m.kid.meet (lf w.1 w.2)).up) (cF _) B e1 hf (fun k hk=>by rw [show sf i=some k from hk] at hs; cases hs; exact hj) (by rw [a0c,e3,a0u]; omega) hpv (fun b h=>⟨(g1 b h).1.imp a2A id,(g1 b h).2⟩) (ts':=ts++[w.2]) (by rw [dk]; exact g2.zmono fun b h=>h.imp id fun q=>⟨q.1.imp a2A id,q.2⟩) fun Z2 Fs2 B2 s2=>h5 σ Z2 _ Fs2 B2 (s.trans s2)
theorem RepL.setAt:∀ {ts:List T} {xs:List V} {A0 G0 G:Fp} {q:Nat} {t:T} {y:V} {m:Md},(∀ b,A0 b->G b)->(∀ b,G0 b->G b)->(∀ b,A0 b->¬ G0 b)->RepL K Z H m ts xs A0->Rep K Z H m t y G0->RepL K Z H m (ts.set q t) (xs.set q y) G
 | [],xs,A0,G0,G,q,t,y,m,w1,w2,d,h,r=>by rw [show xs=[] from h]; exact rfl
 | u::ts,xs,A0,G0,G,0,t,y,m,w1,w2,d,⟨x,r',A,B,e,h1,h2,hd,p,q⟩,r=>by
  rw [e]
  exact ⟨y,r',G0,B,rfl,w2,fun a h=>w1 a (h2 a h),fun a h q=>d a (h2 a q) h,r,q⟩
 | u::ts,xs,A0,G0,G,n+1,t,y,m,w1,w2,d,⟨x,r',A,B,e,h1,h2,hd,p,q⟩,r=>by
  rw [e]
  refine ⟨x,r'.set n y,A,fun a=>B a\/G0 a,rfl,fun a h=>w1 a (h1 a h),fun a h=>h.elim (fun z=>w1 a (h2 a z)) (w2 a),fun a h q=>q.elim (hd a h) (d a (h1 a h)),p,?_⟩
  exact RepL.setAt (fun _ z=>.inl z) (fun _ z=>.inr z) (fun b h=>d b (h2 b h)) q r
theorem eB (vs:List Nat)(η:Env):Nn η (M.share vs η):=fun i e=>by
 rw [ej]; split
 ·rw [e]; rfl
 ·exact e
theorem vK {x:X}{e:E}{w:W}(h:evX C x e η=.ok (w,η')):Nn η η':=by
 cases x with
 | q vs ls =>
  obtain ⟨⟨u,η2⟩,h1,h2⟩:=ae (show (evE C e (pick vs ls η)).bind (kX vs η)=_ from h)
  cases h2
  show Nn η (after (M.lf u.1 u.2) vs η)
  cases hm:M.lf u.1 u.2 with
  | d=>intro i e; exact e
  | s=>exact eB vs η
  | o m=>exact eB vs η
 | l vs=>exact (eB vs η).trans (aA e h)
theorem pV {x:X}{i j:Nat}{k e:E}(hs:sf i=some j)(D:b6)(σ:L2.St)(H:Hp)(h:wS K sf io C (.setI x i k e) D σ H) :
  wE K sf C e σ H fun y H1=>j7 j σ H1 fun o H1=>wE K sf C k σ H1 fun z H2=>∃ a xs n q,o=.ref a/\z=.int n/\H2 a=some (.lst xs)/\L2.ixN xs.length n=some q/\D.nx σ (upd H2 a (.lst (xs.set q y))):=by
 obtain ⟨pv,Z,Fs,η,N,A,f⟩:=h
 obtain ⟨⟨w,η1⟩,h2,h3⟩:=bq (show Fin K ⟨sf,pv⟩ Z H (tot Fs) D (Fl.of η (evX C x e η) (pq i (evX C x k) η)) from f)
 obtain ⟨⟨kw,η2⟩,h6,h7⟩:=bq (show Fin K ⟨sf,pv⟩ Z H (tot Fs) D (Fl.of η (evX C x k η1) (kW i w)) from h3)
 obtain ⟨η3,h4,h5⟩:=ja (show Fin K ⟨sf,pv⟩ Z H (tot Fs) D (nxO η2 (((rd η2 i).bind fun u=>cS u kw w).map fun u=>M.put η2 i u)) from h7)
 refine kL (sl:=⟨sf,pv⟩) A h2 fun y Z' H' Fs' G B r s=>?_
 cases e1:rd η2 i with
 | none=>rw [e1] at h4; cases h4
 | some u1 =>
  rw [e1] at h4
  cases e2:cS u1 kw w with
  | none=>rw [show (some u1).bind (fun u=>cS u kw w)=cS u1 kw w from rfl,e2] at h4; cases h4
  | some r1 =>
   rw [show (some u1).bind (fun u=>cS u kw w)=cS u1 kw w from rfl,e2] at h4
   cases h4
   obtain ⟨m,ts,n,jj,q,rfl,rfl,hm,hq,rfl⟩:=mI e2
   have n1:rd η1 i≠none:=fun z=>by rw [vK h6 i z] at e1; cases e1
   cases e3:rd η1 i with
   | none=>exact absurd e3 n1
   | some u3 =>
    obtain ⟨v3,r3,l3,p3⟩:=B.env i u3.1 u3.2 e3
    refine ⟨v3,l3 j hs,kL (sl:=⟨sf,pv⟩) B.bare h6 fun z Z2 H2 Fs2 G2 B2 rz s2=>?_⟩
    obtain ⟨B3,s3,d3⟩:=B.frame B2 s2
    have r':=r.frame B.gd.own s2 B.dis
    have B4:=B3.mono (G':=G) fun _ z=>.inl z
    obtain ⟨v4,r4,l4,p4⟩:=B4.env i m _ e1
    have hv:v3=v4:=by have e5:=l3 j hs; have e6:=l4 j hs; rw [e5] at e6; cases e6; rfl
    subst hv
    obtain ⟨a,xs,rfl,hl,hf,hx,p⟩:=je hm r4
    have e7:=p.length
    obtain ⟨A1,a1,a2⟩:=RepL.weak (cg m.kid (lf w.1 w.2)).1 p
    obtain ⟨A2,b1,b2⟩:=Rep.weak (cg m.kid (lf w.1 w.2)).2 r'.lf
    have dis:∀ b,(Fs2 i b/\b≠a)->¬ G b:=fun b h q=>B4.dis b q ⟨i,h.1⟩
    have hG:∀ b,G b->b≠a:=fun b h z=>B4.dis b h ⟨i,z ▸ hf⟩
    refine ⟨a,xs,jj,q,rfl,show z=_ from rz,hx,by rw [e7]; exact hq,?_⟩
    refine change (K:=K) (G':=fun b=>A1 b\/A2 b) (m':=(m.kid.meet (lf w.1 w.2)).up) (cF _) B4 e1 hf (fun k hk=>by rw [show sf i=some k from hk] at hs; cases hs; exact l3 _ hk) (by rw [a1z]; exact hl) p4 (fun b h=>h.elim (fun z=>⟨.inl (a1 b z).1,(a1 b z).2⟩) fun z=>⟨.inr (b1 b z),hG b (b1 b z)⟩) (ts':=ts.set q w.2) ?_ fun Z5 Fs5 B5 s5=>h5 σ Z5 _ Fs5 B5 ((s.trans (s3.mono (fun _ z=>z) fun b h=>h.imp id .inl)).trans s5)
    rw [dk]
    refine RepL.setAt (A0:=A1) (G0:=A2) (fun _ z=>.inl z) (fun _ z=>.inr z) (fun b h q=>dis b (a1 b h) (b1 b q)) (a2.zmono fun b h=>?_) (b2.zmono fun b h=>?_)
    ·exact h.imp id fun q=>⟨.inl q.1.1,q.1.2,fun z=>z.elim q.2 fun z=>dis b q.1 (b1 b z)⟩
    ·exact h.imp id fun q=>⟨.inr q.1,hG b q.1,fun z=>z.elim (fun z=>dis b (a1 b z) q.1) q.2⟩
end
end MR
namespace MR
open L2 L3 M
open PySem (Addr Str sizeLine)
section
variable {K:a0a}{sl:Cf}{sf sg:Nat->Option Nat}{C:Call}{σ σ2:L2.St}{Z Z' Z1:Fp}{H H' H1:Hp}{Fs Fs' Fs1:Fps}{η η' η1 ηb:Env}{G G' G1 R F F':Fp}{tg is vs ls io:List Nat}{pv val:Nat->Option V}{D:b6}
noncomputable def gF (K:a0a):List Nat->TG
 | [j]=>cj j
 | [j,l]=>tR K 2 (gO (cj j) (gO (cj l) sJ))
 | _=>fun _ _ _ _=>False
theorem ni {fl:Fl}{g:Env->Fl}(f:Fin K sl Z H F D (Fl.turn fl g)):(∃ η',fl=.nx η'/\Fin K sl Z H F D (g η'))\/(∃ η',fl=.bk η'/\Fin K sl Z H F D (.nx η'))\/(∃ w η',fl=.rt w η'/\Fin K sl Z H F D (.rt w η')):=by
 cases fl with
 | nx η=>exact .inl ⟨η,rfl,f⟩
 | bk η=>exact .inr (.inl ⟨η,rfl,f⟩)
 | rt w η=>exact .inr (.inr ⟨w,η,rfl,f⟩)
 | ex c x η=>exact f.elim
 | no=>exact f.elim
theorem gC {fl:Fl}{g:Env->Fl}{N:L2.St->Hp->Prop}(f:Fin K sl Z H F D (Fl.turn fl g))(hN:∀ η' σ' Z' H' Fs',fl=.nx η'->Fin K sl Z H F D (g η')->At K sl σ' Z' H' Fs' η' no->Step Z H F Z' H' (tot Fs')->N σ' H'):Fin K sl Z H F { D with nx:=N,ct:=N,bk:=D.nx } fl:=by
 rcases ni f with ⟨η',rfl,f⟩ | ⟨η',rfl,f⟩ | ⟨w,η',rfl,f⟩
 ·exact fun σ' Z' H' Fs' A s=>hN η' σ' Z' H' Fs' rfl f A s
 ·exact f
 ·exact f
theorem gN {n i:Nat}{J:It}{ts:List (List W)}{ws:List W}{js:List Nat}{x:V}{Q:L2.St->Hp->Prop}(hn:tg.length=n)(nd:tg.Nodup)(N:mX sf io pv)(hio:∀ t∈tg,t ∉ io)(hjs:tg.map sf=js.map some)(hz:∀ a,Z1 a->Z a)(st:Stay Z1 H1 H)(yl:Yld K J Z1 H1 ts n)(A:At K ⟨sf,pv⟩ σ Z H Fs η no)
  (hw:ts[i]?=some ws) (hb:aW tg ws η=some ηb) (y:J.yld i H x H') (k:∀ σ2 H2 Fs2,At K ⟨sf,pv⟩ σ2 Z H2 Fs2 ηb no->Step Z H (tot Fs) Z H2 (tot Fs2)->Q σ2 H2):gF K js x σ H' Q:=by
 have hi:i < ts.length:=(a0v.mp hw).1
 match n,yl with
 | 1,yl =>
  obtain ⟨e0,w,hw',r⟩:=yl H i x H' st hi y
  rw [e0]
  rw [hw] at hw'; cases hw'
  match tg,hn,js,hjs with
  | [t],_,[j],hjs =>
   cases hb
   have hs:sf t=some j:=by simpa using hjs
   exact k _ H _ (At.set N (hio t (by simp)) hs A (r.zmono hz)) ((Step.refl _ _ _).mono (fun _ z=>z) fun a h=>(bJ h).elim id fun z=>z.elim)
  | [t],_,[],hjs=>simp at hjs
  | [t],_,_::_::_,hjs=>simp at hjs
 | 2,yl =>
  obtain ⟨p,y1,z1,u,w,rfl,sm,hq,hw',r1,r2⟩:=yl H i x H' st hi y
  rw [hw] at hw'; cases hw'
  match tg,hn,js,hjs with
  | [t,t'],_,[j,j'],hjs =>
   cases hb
   have hs:sf t=some j:=by simp at hjs; exact hjs.1
   have hs':sf t'=some j':=by simp at hjs; exact hjs.2
   have s0:Step Z H no Z H' no:=eN sm
   obtain ⟨A1,s1⟩:=A.op bP s0
   have sn:Stay Z H H':=gR sm
   have r1':Rep K Z H' u.1 u.2 y1 no:=(r1.zmono hz).keep sn (fun _ z=>z) fun _ _ z=>z.elim
   have r2':Rep K Z H' w.1 w.2 z1 no:=(r2.zmono hz).keep sn (fun _ z=>z) fun _ _ z=>z.elim
   have A2:=At.set N (hio t (by simp)) hs A1 r1'
   have A3:=At.set N (hio t' (by simp)) hs' A2 r2'
   refine ⟨p,[y1,z1],rfl,hq,rfl,y1,[z1],rfl,z1,[],rfl,rfl,k _ _ _ A3 (s1.mono (fun a h=>h.elim id fun z=>z.elim) fun a h=>?_)⟩
   rcases bJ h with h | h
   ·exact .inl ((bJ h).elim id fun z=>z.elim)
   ·exact h.elim
  | [t,t'],_,[],hjs=>simp at hjs
  | [t,t'],_,[_],hjs=>simp at hjs
  | [t,t'],_,_::_::_::_,hjs=>simp at hjs
theorem ny {n:Nat}{k:Ik}{src:List E}{js:List Nat}{body:List S}(hn:tg.length=n)(nd:tg.Nodup)(hio:∀ t∈tg,t ∉ io)(hjs:tg.map sf=js.map some)(D:b6)(σ:L2.St)(H:Hp)(h:wS K sf io C (.forS vs ls k src tg body) D σ H) :
  tI (wI K sf C n k src) (gF K js) (wSs K sf io C body) D σ H:=by
 obtain ⟨pv,Z,Fs,η,N,A,f⟩:=h
 obtain ⟨⟨ws,η2⟩,h1,h2⟩:=bq (show Fin K ⟨sf,pv⟩ Z H (tot Fs) D (Fl.of η (evL C src (pick vs ls η)) (oe vs k tg (evSs C body) η)) from f)
 obtain ⟨⟨ts,η3⟩,h3,h4⟩:=bq (show Fin K ⟨sf,pv⟩ Z H (tot Fs) D (Fl.of η (ret (M.share vs η) (bC k ws)) (il tg (evSs C body))) from h2)
 obtain ⟨ts',ht,e3⟩:=aF h3
 have e4:ts=ts':=congrArg a18 e3
 have e5:η3=M.share vs η:=congrArg a1x e3
 subst e4 e5
 have h4':Fin K ⟨sf,pv⟩ Z H (tot Fs) D (dH tg (evSs C body) ts (M.share vs η)):=h4
 refine ⟨pv,_,k7,_,ws,η2,ts,A.quiet (vs:=vs) (ls:=ls),h1,ht,fun J Z1 H1 Fs1 B s wk yl=>?_⟩
 obtain ⟨B1,s1⟩:=cT (G:=no) A bP B.gd.zal (s.mono (F2:=fun a=>tot Fs1 a\/no a) (fun _ z=>z) fun a h=>h.elim id fun z=>z.elim) fun a h=>fN h
 obtain ⟨B2,s2⟩:=B1.share (vs:=vs)
 have s3:=(s2 s1).mono (F2:=tot (dI Fs vs)) (fun _ z=>z) fun _ z=>.inl z
 have zz:∀ a,Z1 a->((Z1 a/\¬ bZ Fs vs a)\/bZ Fs vs a):=fun a h=>(a2X (bZ Fs vs a)).elim .inr fun q=>.inl ⟨h,q⟩
 refine ⟨fun i m σ' H'=>m=ts.length-i/\i<=ts.length/\∃ Zi Fsi ηi,At K ⟨sf,pv⟩ σ' Zi H' Fsi ηi no/\Step (fun a=>(Z1 a/\¬ bZ Fs vs a)\/bZ Fs vs a) H1 (tot (dI Fs vs)) Zi H' (tot Fsi)/\Fin K ⟨sf,pv⟩ Zi H' (tot Fsi) D (dH tg (evSs C body) (ts.drop i) ηi),⟨ts.length,by simp,a0U _,_,_,_,B2,Step.refl _ _ _,h4'.step s3⟩,?_⟩
 rintro i m σi H0 ⟨rfl,hi,Zi,Fsi,ηi,Ai,si,fi⟩
 have st:Stay Z1 H1 H0:=by
  have:=B2.gd.own.stay si
  exact ⟨fun a o h=>this.1 a o (zz a h),this.2⟩
 by_cases hlt:i < ts.length
 ·right
  refine ⟨wk.go H0 i st hlt,_,fun σ' H' hw=>⟨ts.length-(i+1),by omega,hw⟩,fun x H' y=>?_⟩
  have hw:ts[i]?=some ts[i]:=by simp [hlt]
  rw [dn hw] at fi
  obtain ⟨ηb,hb,fb⟩:=bq (show Fin K ⟨sf,pv⟩ Zi H0 (tot Fsi) D (Fl.of ηi (ofO (aW tg ts[i] ηi)) fun η1=>Fl.turn (evSs C body η1) (dH tg (evSs C body) (ts.drop (i+1)))) from fi)
  refine gN hn nd N hio hjs (fun a h=>si.zm a (zz a h)) st yl Ai hw (b8 hb) y fun σ2 H2 Fs2 A2 t2=>?_
  refine ⟨pv,Zi,Fs2,ηb,N,A2,gC (fb.step t2) fun η' σ' Z' H' Fs' _ f' A' s'=>⟨rfl,hlt,Z',Fs',η',A',(si.trans t2).trans s',f'.step s'⟩⟩
 ·left
  have hi':i=ts.length:=by omega
  subst hi'
  rw [a1V] at fi
  exact ⟨wk.stop H0 _ st (a0b _),fi σi Zi H0 Fsi Ai (Step.refl _ _ _)⟩
end
end MR

namespace MR
open PySem PySem.Spec PyProof.Rows L2 L3
section
variable {X:Cx}{sf sg:Nat->Option Nat}{C:M.Call}{pos p2:Pos}{ea eb ec:Expr}{a b c:M.E}{h:Bool}{n:Nat}
theorem aG {e:Expr}{t t':TE}(h:PE X e t)(hw:∀ σ H Q,t' σ H Q->t σ H Q):PE X e t':=fun pins s σ H Q I q=>h pins s σ H Q I (hw σ H Q q)
theorem jw {e:Expr}{t t':TT}(h:PT X e t)(hw:∀ σ H Q,t' σ H Q->t σ H Q):PT X e t':=fun pins s σ H Q I q=>h pins s σ H Q I (hw σ H Q q)
theorem rD {e:Expr}{t t':TT}(h:PW X e t)(hw:∀ σ H Q,t' σ H Q->t σ H Q):PW X e t':=fun whole pins s σ H Q I q=>h whole pins s σ H Q I (hw σ H Q q)
theorem gU {es:List Expr}{t t':TA}(h:PA X es t)(hw:∀ σ H Q,t' σ H Q->t σ H Q):PA X es t':=fun pos pins s σ H Q I q=>h pos pins s σ H Q I (hw σ H Q q)
theorem cN {s:Stmt}{t t':TS}(h:PS X s t)(hw:∀ D σ H,t' D σ H->t D σ H):PS X s t':=fun pins s σ H D I q=>h pins s σ H D I (hw D σ H q)
theorem i1 {s:List Stmt}{t t':TS}(h:PSs X s t)(hw:∀ D σ H,t' D σ H->t D σ H):PSs X s t':=fun pins s σ H D I q=>h pins s σ H D I (hw D σ H q)
theorem jb {tg e:Expr}{t t':TI}(h:PI X tg e t)(hw:∀ σ H R,t' σ H R->t σ H R):PI X tg e t':=fun pins s σ H R I q=>h pins s σ H R I (hw σ H R q)
theorem ze {tg e:Expr}{t t':TI}(h:PI X tg e t)(h':PI X tg e t'):PI X tg e (fun σ H R=>t σ H R\/t' σ H R):=fun pins s σ H R I q=>q.elim (h pins s σ H R I) (h' pins s σ H R I)
noncomputable abbrev SE (X:Cx)(sf:Nat->Option Nat)(C:M.Call)(me:Expr)(e:M.E):Prop:=PE X me (wE X.K sf C e)
noncomputable abbrev SB (X:Cx)(sf:Nat->Option Nat)(C:M.Call)(me:Expr)(e:M.E):Prop:=PT X me (wT X.K sf C e)
noncomputable abbrev SL (X:Cx)(sf:Nat->Option Nat)(C:M.Call)(me:List Expr)(es:List M.E):Prop:=PA X me (wL X.K sf C es)
noncomputable abbrev SA (X:Cx)(sf:Nat->Option Nat)(C:M.Call)(me:List Expr)(es:List M.E):Prop:=PA X me (wA X.K sf C es)
noncomputable abbrev SS (X:Cx)(sf:Nat->Option Nat)(io:List Nat)(C:M.Call)(ms:Stmt)(s:M.S):Prop:=PS X ms (wS X.K sf io C s)
noncomputable abbrev SSs (X:Cx)(sf:Nat->Option Nat)(io:List Nat)(C:M.Call)(ms:List Stmt)(s:List M.S):Prop:=PSs X ms (wSs X.K sf io C s)
theorem sV (j:Nat){i:Nat}{x:Str}(hs:sf i=some j:=by rfl)(hN:X.N[j]?=some x:=by rfl)(hv:Vis X.env.scope x:=by first | exact a0r rfl | exact a0n (a0r rfl) | exact a0n (a0n rfl))(hd:(x==("__debug__":Str))=false:=by decide)
  (hcd:(x==("__classdict__":Str))=false:=by decide):SE X sf C (.Name x pos) (.var i):=aG (dq hN hv hd hcd) (vo hs)
theorem sM (j:Nat){i:Nat}{x:Str}(hs:sf i=some j:=by rfl)(hN:X.N[j]?=some x:=by rfl)(hv:Vis X.env.scope x:=by first | exact a0r rfl | exact a0n (a0r rfl) | exact a0n (a0n rfl))(hd:(x==("__debug__":Str))=false:=by decide)
  (hcd:(x==("__classdict__":Str))=false:=by decide):SE X sf C (.Name x pos) (.mv i):=aG (dq hN hv hd hcd) (sQ (fun _=>rfl) hs)
theorem sI {i:Int}{k:Nat}:SE X sf C (.Constant (.int i) k pos) (.cst (.int i)):=aG wy (fP fun {_ _}=>rfl)
theorem sO {i:Bool}{k:Nat}:SE X sf C (.Constant (.bool i) k pos) (.cst (.bl i)):=aG xw (fP fun {_ _}=>rfl)
theorem sN {k:Nat}:SE X sf C (.Constant .none k pos) (.cst .non):=aG tZ (fP fun {_ _}=>rfl)
theorem ou (s:String)(hl:s.length<=1000):M.sOk (Str.ofString s)=true:=by
 unfold M.sOk
 rw [Str.ofString_eq_toList,a0i]
 refine ⟨?_,decide_eq_true ?_⟩
 ·rw [a1m]
  intro x hx
  rw [List.mem_toArray,a1j] at hx
  obtain ⟨c,_,rfl⟩:=hx
  refine decide_eq_true ?_
  have:=c.valid
  have h2:c.toNat < 0x110000:=by
   have h3:=c.valid
   unfold UInt32.isValidChar Nat.isValidChar at h3
   show c.val.toNat < _
   omega
  exact h2
 ·rw [a0f,a0d,String.length_toList]
  exact a0m hl (by decide)
theorem sS {s:String}{k:Nat}(hl:s.length<=1000:=by decide):SE X sf C (.Constant (.str (Str.ofString s)) k pos) (.cst (.str (Str.ofString s))):=aG uW (fP fun {_ _}=>⟨rfl,ou s hl⟩)
theorem sl0:SL X sf C [] []:=gU fL sy
theorem slc {es:List Expr}{bs:List M.E}(ha:SE X sf C ea a)(hb:SL X sf C es bs)(hs:starEach (ea::es) X.env=(false,eval ea X.env)::starEach es X.env:=by rfl):SL X sf C (ea::es) (a::bs):=gU (cA ha hb hs) qt
theorem sT {es:List Expr}{bs:List M.E}{x1:Nat}(h:SL X sf C es bs)(hn:bs.length<=M.LIM:=by decide):SE X sf C (.Tuple es x1 pos) (.tup bs):=aG (tf h) (uZ hn)
theorem sLs {es:List Expr}{bs:List M.E}(hh:SL X sf C es bs)(hn:bs.length<=M.LIM:=by decide):SE X sf C (.List es pos) (.lst h bs):=aG (we hh) (uA hn)
theorem aZ (ha:SE X sf C ea a)(hb:SE X sf C eb b):SE X sf C (.BinOp ea .Add eb pos) (.op .add h [a,b]) :=
 aG (c5 (op_add.or (op_add_str.or (op_cat.or pj))) ha hb) (aN (qv (rE X.K) fun {Z H G Q a b xs ys ts} h1 h2 h3 h4 ow r k=>by
  obtain ⟨G',g1,g2⟩:=r
  refine ⟨a,b,xs,ys,rfl,rfl,h1,h2,h3,bI h4,fun v H' same hv=>gY (m:=.s) ow g1 ?_ g2 k same hv⟩
  rw [a0c]; exact h4))
theorem gg (ha:SE X sf C ea a)(hb:SE X sf C eb b):SE X sf C (.BinOp ea .Sub eb pos) (.op .sub h [a,b]):=aG (c5 vd ha hb) (aN qW)
theorem ic (ha:SE X sf C ea a)(hb:SE X sf C eb b):SE X sf C (.BinOp ea .Mult eb pos) (.op .mul h [a,b]):=aG (c5 (op_mul.or vI) ha hb) (aN oH)
theorem cm (ha:SE X sf C ea a)(hb:SE X sf C eb b):SE X sf C (.BinOp ea .FloorDiv eb pos) (.op .fdiv h [a,b]):=aG (c5 pN ha hb) (aN n8)
theorem ml (ha:SE X sf C ea a)(hb:SE X sf C eb b):SE X sf C (.BinOp ea .Mod eb pos) (.op .mod h [a,b]):=aG (c5 ue ha hb) (aN qB)
theorem jT (ha:SE X sf C ea a)(hb:SE X sf C eb b):SE X sf C (.BinOp ea .Pow eb pos) (.op .pow h [a,b]):=aG (c5 uU ha hb) (aN om)
theorem sIx (ha:SE X sf C ea a)(hb:SE X sf C eb b)(hs:gj eb:=by intro _ _; rfl):SE X sf C (.Subscript ea eb pos) (.op .ix h [a,b]):=aG (x8 (ix_any.or sL) ha hb hs) (aN tq)
mutual
noncomputable def th:M.T->Th
 | .non=>.non | .bl b=>.bl b | .int i=>.int i | .str x=>.str x | .tup ts=>.tup (ths ts) | .lst ts=>.lst (ths ts) | .dct _ _=>.non | .ins _ _ _=>.non | .scr _=>.non | .gone=>.non
noncomputable def ths:List M.T->List Th
 | []=>[]
 | t::ts=>th t::ths ts
end
mutual
theorem jr {K:a0a}{Z:Fp}{H:Hp}:∀ {t:M.T} {m:M.Md} {v:V} {G:Fp} {n:Nat},M.dp t<=n->n<=64->Rep K Z H m t v G->Has K H (th t) v/\(toD (th t)).canLay0=true/\(toD (th t)).depth<=n
 | .non,_,_,_,_,_,_,r=>⟨r,rfl,a0U _⟩
 | .bl _,_,_,_,_,_,_,r=>⟨r,rfl,a0U _⟩
 | .int _,_,_,_,_,_,_,r=>⟨r,rfl,a0U _⟩
 | .str x,_,_,_,_,_,_,r=>⟨r.1,by have h:=r.2; unfold M.sOk at h; rw [a0i] at h; exact h.1,a0U _⟩
 | .tup ts,m,v,G,n,hd,hn,⟨a,xs,e,q,l,r⟩=>by
  have hd':M.dps ts+1<=n:=hd
  match n,hd' with
  | n+1,hd' =>
   obtain ⟨h1,h2,h3⟩:=eE (n:=n) (by omega) (by omega) r
   exact ⟨⟨a,xs,e,q,h1⟩,h2,a2x h3⟩
 | .lst ts,m,v,G,n,hd,hn,⟨a,xs,e,l,q,r⟩=>by
  have hd':M.dps ts+1<=n:=hd
  match n,hd' with
  | n+1,hd' =>
   obtain ⟨h1,h2,h3⟩:=eE (n:=n) (by omega) (by omega) r
   exact ⟨⟨a,xs,e,by cases m<;>exact q.2,h1⟩,h2,a2x h3⟩
 | .dct _ _,_,_,_,_,hd,hn,_=>by have:1000<=64:=a0m hd hn; omega
 | .ins _ _ _,_,_,_,_,hd,hn,_=>by have:1000<=64:=a0m hd hn; omega
 | .gone,_,_,_,_,hd,hn,_=>by have:1000<=64:=a0m hd hn; omega
 | .scr _,_,_,_,_,hd,hn,_=>by have:1000<=64:=a0m hd hn; omega
theorem eE {K:a0a}{Z:Fp}{H:Hp}:∀ {ts:List M.T} {m:M.Md} {xs:List V} {G:Fp} {n:Nat},M.dps ts<=n->n<=64->RepL K Z H m ts xs G->HasL K H (ths ts) xs/\PyData.canLayAll0 (dG (ths ts))=true/\PyData.depthAll (dG (ths ts))<=n
 | [],_,_,_,_,_,_,r=>⟨r,rfl,a0U _⟩
 | t::ts,m,xs,G,n,hd,hn,⟨x,r,G1,G2,e,_,_,_,p,q⟩=>by
  have hd':max (M.dp t) (M.dps ts)<=n:=hd
  obtain ⟨h1,h2,h3⟩:=jr (n:=n) (by omega) hn p
  obtain ⟨k1,k2,k3⟩:=eE (n:=n) (by omega) hn q
  refine ⟨⟨x,r,e,h1,k1⟩,?_,?_⟩
  ·show ((toD (th t)).canLay0&&PyData.canLayAll0 (dG (ths ts)))=true
   rw [h2,k2]; rfl
  ·show max (toD (th t)).depth (PyData.depthAll (dG (ths ts)))<=n
   omega
end
mutual
theorem iS:∀ (t u:M.T),M.dp t<=64->M.dp u<=64->PyData.eqv (toD (th t)) (toD (th u))=M.eqT t u
 | .dct _ _,_,h,_=>by have:1000<=64:=h; omega
 | .ins _ _ _,_,h,_=>by have:1000<=64:=h; omega
 | .gone,_,h,_=>by have:1000<=64:=h; omega
 | .scr _,_,h,_=>by have:1000<=64:=h; omega
 | .non,u,_,h=>by cases u<;>first | rfl | (have:1000<=64:=h; omega)
 | .bl a,u,_,h=>by cases u<;>first | rfl | (cases a<;>rfl) | (have:1000<=64:=h; omega)
 | .int i,u,_,h=>by
  cases u with
  | bl b=>cases b<;>rfl
  | _=>first | rfl | (have:1000<=64:=h; omega)
 | .str x,u,_,h=>by cases u<;>first | rfl | (have:1000<=64:=h; omega)
 | .tup ts,u,h1,h=>by
  cases u with
  | tup us=>exact fJ ts us (by have:M.dps ts+1<=64:=h1; omega) (by have:M.dps us+1<=64:=h; omega)
  | _=>first | rfl | (have:1000<=64:=h; omega)
 | .lst ts,u,h1,h=>by
  cases u with
  | lst us=>exact fJ ts us (by have:M.dps ts+1<=64:=h1; omega) (by have:M.dps us+1<=64:=h; omega)
  | _=>first | rfl | (have:1000<=64:=h; omega)
theorem fJ:∀ (ts us:List M.T),M.dps ts<=64->M.dps us<=64->PyData.eqvAll (dG (ths ts)) (dG (ths us))=M.eqTs ts us
 | [],[],_,_=>rfl
 | [],_::_,_,_=>rfl
 | _::_,[],_,_=>rfl
 | t::ts,u::us,h1,h2=>by
  have h1':max (M.dp t) (M.dps ts)<=64:=h1
  have h2':max (M.dp u) (M.dps us)<=64:=h2
  show (PyData.eqv (toD (th t)) (toD (th u))&&PyData.eqvAll (dG (ths ts)) (dG (ths us)))=(M.eqT t u&&M.eqTs ts us)
  rw [iS t u (by omega) (by omega),fJ ts us (by omega) (by omega)]
end
theorem gy {K:a0a}{Z:Fp}{H:Hp}{t:M.T}{m:M.Md}{v:V}{G:Fp}(hd:M.dp t<=64)(r:Rep K Z H m t v G):Has K H (th t) v/\fU (th t):=by
 obtain ⟨h1,h2,h3⟩:=jr hd (a0b _) r
 refine ⟨h1,?_⟩
 show ((toD (th t)).canLay0&&decide ((toD (th t)).depth<=64))=true
 rw [h2,decide_eq_true h3]; rfl
theorem mJ {K:a0a}:Loc K 2 .eq h fun xs H Q=>∀ x y,xs=[x,y]->∃ t t',Has K H t x/\Has K H t' y/\fU t/\fU t'/\Q (.bl (PyData.eqv (toD t) (toD t'))) H:=by
 intro ws w xs Z H G Q hn e r ow za k x y hx
 subst hx
 obtain ⟨⟨m,a⟩,⟨n,b⟩,rfl⟩:=cY r.length.symm
 obtain ⟨G1,G2,w1,w2,d,r1,r2⟩:=bO r
 have e':(if decide (M.dp a<=64)&&decide (M.dp b<=64) then some ((.d,.bl (M.eqT a b)):M.W) else none)=some w:=e
 split at e'
 ·rename_i hc
  rw [a0i,decide_eq_true_eq,decide_eq_true_eq] at hc
  cases e'
  obtain ⟨h1,o1⟩:=gy hc.1 r1
  obtain ⟨h2,o2⟩:=gy hc.2 r2
  refine ⟨th a,th b,h1,h2,o1,o2,?_⟩
  rw [iS a b hc.1 hc.2]
  exact bL k
 ·cases e'
theorem ux {K:a0a}:Loc K 2 .ne h fun xs H Q=>∀ x y,xs=[x,y]->∃ t t',Has K H t x/\Has K H t' y/\fU t/\fU t'/\Q (.bl (!PyData.eqv (toD t) (toD t'))) H:=by
 intro ws w xs Z H G Q hn e r ow za k x y hx
 subst hx
 obtain ⟨⟨m,a⟩,⟨n,b⟩,rfl⟩:=cY r.length.symm
 obtain ⟨G1,G2,w1,w2,d,r1,r2⟩:=bO r
 have e':(if decide (M.dp a<=64)&&decide (M.dp b<=64) then some ((.d,.bl (!M.eqT a b)):M.W) else none)=some w:=e
 split at e'
 ·rename_i hc
  rw [a0i,decide_eq_true_eq,decide_eq_true_eq] at hc
  cases e'
  obtain ⟨h1,o1⟩:=gy hc.1 r1
  obtain ⟨h2,o2⟩:=gy hc.2 r2
  refine ⟨th a,th b,h1,h2,o1,o2,?_⟩
  rw [iS a b hc.1 hc.2]
  exact bL k
 ·cases e'
theorem sEq (hr:Room n X.A)(ha:SE X sf C ea a)(hb:SE X sf C eb b):SE X sf C (.Compare ea [.Eq] [eb] pos) (.op .eq h [a,b]):=aG (jF (jB hr.units) ha hb (cR _)) (aN mJ)
theorem qZ {K:a0a}{Z:Fp}{H:Hp}{t:M.T}{m:M.Md}{x:V}{G:Fp}(hg:t.isG=false)(r:Rep K Z H m t x G):decide (x=V.non)=t.isN:=by
 cases t with
 | non=>rw [show x=_ from r]; rfl
 | bl _=>rw [show x=_ from r]; rfl
 | int _=>rw [show x=_ from r]; rfl
 | str _=>rw [show x=_ from r.1]; rfl
 | tup _=>obtain ⟨p,_,e,_⟩:=r; rw [show x=_ from e]; rfl
 | lst _=>obtain ⟨p,_,e,_⟩:=r; rw [show x=_ from e]; rfl
 | scr _=>obtain ⟨p,e,_⟩:=r; rw [show x=_ from e]; rfl
 | dct _ _=>exact r.elim
 | ins _ _ _=>exact r.elim
 | gone=>cases hg
theorem ifN {α:Type}{b:Bool}{x:Option α}{y:α}(h:(if b=true then none else x)=some y):b=false/\x=some y:=by cases b<;>first | exact ⟨rfl,h⟩ | cases h
theorem jO {K:a0a}:Loc K 2 .isnot h fun xs H Q=>∀ x y,xs=[x,y]->y=.non/\Q (.bl (!decide (x=.non))) H:=by
 intro ws w xs Z H G Q hn e r ow za k x y hx
 subst hx
 obtain ⟨⟨m,a⟩,⟨n,b⟩,rfl⟩:=cY r.length.symm
 obtain ⟨G1,G2,w1,w2,d,r1,r2⟩:=bO r
 cases b with
 | non=>obtain ⟨hg,e⟩:=ifN (show (if a.isG=true then none else some _)=_ from e); cases e; rw [qZ hg r1]; exact ⟨r2,bL k⟩
 | _=>cases a<;>cases e
theorem i5 {K:a0a}{Z:Fp}{H:Hp}{G:Fp}{m:M.Md}{ts:List M.T}{xs:List V}(lo hi:Option Int)(r:RepL K Z H m ts xs G):RepL K Z H m (M.cut ts lo hi) (cZ xs lo hi) G:=by
 have e:=r.length
 have hs:∀ n d o,HT.sIx n d o=M.sIx n d o:=fun n d o=>by cases o<;>rfl
 have hc:cZ xs lo hi=(xs.drop (M.sIx ts.length 0 lo)).take (M.sIx ts.length ts.length hi-M.sIx ts.length 0 lo):=by
  unfold cZ
  rw [hs,hs,e]
 rw [hc]
 exact (r.drop _).take _
theorem nR (ns:List Int)(lo hi:Option Int):cZ (ns.map V.int) lo hi=(M.cut ns lo hi).map V.int:=by
 have hs:∀ n d o,HT.sIx n d o=M.sIx n d o:=fun n d o=>by cases o<;>rfl
 unfold cZ M.cut
 rw [hs,hs,a0d,List.map_take,List.map_drop]
theorem vU {α:Type}(xs:List α)(lo hi:Option Int):(M.cut xs lo hi).length<=xs.length:=by
 unfold M.cut
 rw [a1u,a1f]; omega
theorem mC {K:a0a}{Z:Fp}{H:Hp}{G G1:Fp}{Q:VK}{m:M.Md}{a:M.T}{x:V}{w:M.W}{lo hi:Option Int}(hg:∀ b,G1 b->G b)(ow:Own Z H G)(za:∀ a,Z a->H a≠none)(r:Rep K Z H m a x G1)
  (e:(match a with | .lst ts=>M.newL h m.kid (M.cut ts lo hi) | .tup ts=>some ((.s,.tup (M.cut ts lo hi)):M.W) | .scr ns=>some (.d,.lst ((M.cut ns lo hi).map M.T.int)) | _=>none)=some w) (k:Out K Z H G w Q):qu K x lo hi H Q\/pW K x lo hi H Q:=by
 cases a with
 | lst ts =>
  obtain ⟨p,xs,rfl,hs,hl,q⟩:=br r
  refine .inl ⟨p,xs,rfl,.inl (.inl hs),fun l hl'=>?_⟩
  exact cq ow za (a0m (bN xs lo hi) hl) ⟨G1,hg,(i5 lo hi q).zmono fun _ z=>.inl z⟩ e k hl'
 | tup ts =>
  obtain ⟨p,xs,rfl,hs,hl,q⟩:=b9 r
  cases e
  refine .inr ⟨p,xs,rfl,hs,fun v H' same hv=>?_⟩
  exact gY (m:=.s) (G':=no) ow (fun _ z=>z.elim) (a0m (bN xs lo hi) hl) ((RepL.sh (i5 lo hi q)).zmono fun b hb=>hb.imp id fun z=>⟨hg b z,fun q=>q⟩) k same hv
 | scr ns =>
  obtain ⟨p,rfl,hL,hs⟩:=r
  cases e
  refine .inl ⟨p,_,rfl,hs.sq,fun l hl'=>?_⟩
  rw [nR]
  exact bD (m:=.d) (G':=no) ow za (fun _ z=>z.elim) (by rw [a0d]; exact a0m (vU ns lo hi) hL) (iO _) (by simp) k hl'
 | _=>cases e
theorem AZ {p3:Pos}(ha:SE X sf C ea a)(hb:SE X sf C eb b):SE X sf C (.Subscript ea (.Slice none (some eb) none p3) pos) (.op .sl2 h [a,b]) :=
 aG (g9 (sl_list.or i8) ha ji (jg hb)) (fun σ H Q hw=>aN (r:=fun x y H Q=>∃ i,y=.int i/\(qu X.K x none (some i) H Q\/pW X.K x none (some i) H Q)) (by
  intro ws w xs Z H G Q hn e r ow za k x y hx
  subst hx
  obtain ⟨⟨m,a⟩,⟨n,b⟩,rfl⟩:=cY r.length.symm
  obtain ⟨G1,G2,w1,w2,d,r1,r2⟩:=bO r
  cases b with
  | int i=>exact ⟨i,r2,mC (h:=h) (lo:=none) (hi:=some i) w1 ow za r1 (by cases a<;>exact e) k⟩
  | _=>cases a<;>cases e) σ H Q hw)
theorem yA {p3:Pos}(ha:SE X sf C ea a)(hb:SE X sf C eb b):SE X sf C (.Subscript ea (.Slice (some eb) none none p3) pos) (.op .sl1 h [a,b]) :=
 aG (g9 (sl_list.or i8) ha (jg hb) ji) (fun σ H Q hw=>aN (r:=fun x y H Q=>∃ i,y=.int i/\(qu X.K x (some i) none H Q\/pW X.K x (some i) none H Q)) (by
  intro ws w xs Z H G Q hn e r ow za k x y hx
  subst hx
  obtain ⟨⟨m,a⟩,⟨n,b⟩,rfl⟩:=cY r.length.symm
  obtain ⟨G1,G2,w1,w2,d,r1,r2⟩:=bO r
  cases b with
  | int i=>exact ⟨i,r2,mC (h:=h) (lo:=some i) (hi:=none) w1 ow za r1 (by cases a<;>exact e) k⟩
  | _=>cases a<;>cases e) σ H Q hw)
theorem lZ {K:a0a}:Loc K 1 .len h fun xs H Q=>∃ x n,xs=[x]/\yS K x H n/\Q (.int n) H:=by
 intro ws w xs Z H G Q hn e r ow za k
 obtain ⟨x,n,hx,hm,q⟩:=qh (h:=h) ws w xs Z H G Q hn e r ow za k
 exact ⟨x,n,hx,by cases x<;>exact hm,q⟩
section
variable {p:Pos}{x1:Str}
theorem dv (hm:X.mg "len"=none)(hg:Gl X "len":=by rfl)(ha:SE X sf C ea a)(hs:starEach [ea] X.env=(false,eval ea X.env)::starEach [] X.env:=by rfl)(hpl:(backTo pos (starEach [] X.env)).any (·.1)=false:=by rfl):SE X sf C (.Call (.Name "len" p) [ea] [] pos) (.op .len h [a]) :=
 aG (cx nT hg hm PySem.boot_len (slc ha sl0 hs) (by decide) (by decide) hs hpl) (dz lZ rfl)
theorem AR (hc:X.calm=true:=by rfl)(hm:X.mg "all"=none)(hg:Gl X "all":=by rfl)(ha:SE X sf C ea a)(hs:starEach [ea] X.env=(false,eval ea X.env)::starEach [] X.env:=by rfl)(hpl:(backTo pos (starEach [] X.env)).any (·.1)=false:=by rfl):SE X sf C (.Call (.Name "all" p) [ea] [] pos) (.op .all h [a]) :=
 aG (cx (jW hc) hg hm (by rfl) (slc ha sl0 hs) (by decide) (by decide) hs hpl) (dz oO rfl)
theorem rJ (hm:X.mg "list"=none)(hg:Gl X "list":=by rfl)(ha:SE X sf C ea a)(hs:starEach [ea] X.env=(false,eval ea X.env)::starEach [] X.env:=by rfl)(hpl:(backTo pos (starEach [] X.env)).any (·.1)=false:=by rfl):SE X sf C (.Call (.Name "list" p) [ea] [] pos) (.op .list h [a]) :=
 aG (cI gc hg hm a1Y (slc ha sl0 hs) (by decide) (by decide) hs hpl) (dz nN rfl)
theorem zD (hc:X.calm=true:=by rfl)(hm:X.mg "max"=none)(hg:Gl X "max":=by rfl)(ha:SE X sf C ea a)(hb:SE X sf C eb b)(hs:starEach [ea,eb] X.env=(false,eval ea X.env)::starEach [eb] X.env:=by rfl)(hs2:starEach [eb] X.env=(false,eval eb X.env)::starEach [] X.env:=by rfl)(hpl:(backTo pos (starEach [eb] X.env)).any (·.1)=false:=by rfl):SE X sf C (.Call (.Name "max" p) [ea,eb] [] pos) (.op .max h [a,b]) :=
 aG (cx (kz hc) hg hm (by rfl) (slc ha (slc hb sl0 hs2) hs) (by decide) (by decide) hs hpl) (dz qc rfl)
end
theorem fO {K:a0a}{x:V}{H:Hp}{k:Bool}(h:TrV K x H k):n4 K x H k:=by
 cases x with
 | ref p=>exact h.imp id .inl
 | byt _=>exact h.elim
 | _=>exact h
theorem tB (ha:SE X sf C ea a)(he:∀ whole,isTrue ea X.env whole=(do let v <- whole; standAt ea.pos; holding [v] (truthy v)):=by intro _; rfl):SB X sf C ea a :=
 jw (ma ha he) fun σ H Q h=>by
  obtain ⟨pv,Z,Fs,η,w,η',b,A,ev,ht,k⟩:=h
  exact ⟨pv,Z,Fs,η,w,η',A,ev,fun v Z' H' Fs' G B r s=>⟨b,fO (dj ht r),k Z' H' Fs' B.bare (s.mono (fun _ z=>z) fun _ z=>.inl z)⟩⟩
theorem yM (ha:SB X sf C ea a):SB X sf C (.UnaryOp .Not ea pos) (.not a):=jw (ua ha) vC
theorem yh {σ:L2.St}{H:Hp}{Q:Bool->Hp->Prop}(hb:∀ η w η',M.evE C a η=.ok (w,η')->∃ b,w.2=.bl b)(h:wT X.K sf C a σ H Q):rK (wE X.K sf C a) σ H Q:=by
 obtain ⟨pv,Z,Fs,η,w,η',b,A,ev,ht,k⟩:=h
 refine ⟨pv,Z,Fs,η,w,η',A,ev,fun v Z' H' Fs' G B r s=>⟨b,?_,k Z' H' Fs' B.bare (s.mono (fun _ z=>z) fun _ z=>.inl z)⟩⟩
 obtain ⟨b',hb'⟩:=hb _ _ _ ev
 rw [hb'] at ht r
 cases ht
 exact r
theorem yq {o:M.Op}(ho:∀ u v w,M.oSem o h [u,v]=some w->∃ b,w.2=.bl b):∀ η w η',M.evE C (.op o h [a,b]) η=.ok (w,η')->∃ b,w.2=.bl b:=fun η w η' e=>by
 obtain ⟨ws,h1,h2⟩:=el e
 obtain ⟨u,η1,us,_,e2,rfl⟩:=aR h1
 obtain ⟨v,η2,us,_,e4,rfl⟩:=aR e2
 cases e4
 exact ho u v w h2
theorem b5 {op:CmpOp}{r:R2}{o:M.Op}(ho:OpR X (compareOp op) r)(ha:SE X sf C ea a)(hb:SE X sf C eb b)(hm:behindInMarks op eb=false)(hl:∀ σ H Q,wE X.K sf C (.op o h [a,b]) σ H Q->tOp r (wE X.K sf C a) (wE X.K sf C b) σ H Q)
  (hbl:∀ u v w,M.oSem o h [u,v]=some w->∃ b,w.2=.bl b):SB X sf C (.Compare ea [op] [eb] pos) (.op o h [a,b]) :=
 jw (jA ho ha hb hm) fun σ H Q hw=>hl σ H _ (yh (yq hbl) hw)
theorem xu {u v w:M.W}(e:M.oSem .eq h [u,v]=some w):∃ b,w.2=.bl b:=by
 obtain ⟨m,a⟩:=u; obtain ⟨n,b⟩:=v
 have e':(if decide (M.dp a<=64)&&decide (M.dp b<=64) then some ((.d,.bl (M.eqT a b)):M.W) else none)=some w:=e
 split at e'
 ·cases e'; exact ⟨_,rfl⟩
 ·cases e'
theorem wX {u v w:M.W}(e:M.oSem .ne h [u,v]=some w):∃ b,w.2=.bl b:=by
 obtain ⟨m,a⟩:=u; obtain ⟨n,b⟩:=v
 have e':(if decide (M.dp a<=64)&&decide (M.dp b<=64) then some ((.d,.bl (!M.eqT a b)):M.W) else none)=some w:=e
 split at e'
 ·cases e'; exact ⟨_,rfl⟩
 ·cases e'
theorem kF {u v w:M.W}(e:M.oSem .isnot h [u,v]=some w):∃ b,w.2=.bl b:=by
 obtain ⟨m,a⟩:=u; obtain ⟨n,b⟩:=v
 cases b with
 | non=>obtain ⟨_,e⟩:=ifN (show (if a.isG=true then none else some _)=_ from e); cases e; exact ⟨_,rfl⟩
 | _=>cases a<;>cases e
theorem ko (ha:SE X sf C ea a)(hb:SE X sf C eb b):SB X sf C (.Compare ea [.Lt] [eb] pos) (.op .lt h [a,b]):=b5 xG ha hb (cR _) (aN uF) fun u v w e=>by obtain ⟨_,_,_,_,_,_,rfl⟩:=kE e; exact ⟨_,rfl⟩
theorem jK (ha:SE X sf C ea a)(hb:SE X sf C eb b):SB X sf C (.Compare ea [.Gt] [eb] pos) (.op .gt h [a,b]):=b5 xr ha hb (cR _) (aN sr) fun u v w e=>by obtain ⟨_,_,_,_,_,_,rfl⟩:=kY e; exact ⟨_,rfl⟩
theorem AB (ha:SE X sf C ea a)(hb:SE X sf C eb b):SB X sf C (.Compare ea [.GtE] [eb] pos) (.op .ge h [a,b]):=b5 zh ha hb (cR _) (aN ud) fun u v w e=>by obtain ⟨_,_,_,_,_,_,rfl⟩:=kZ e; exact ⟨_,rfl⟩
theorem aS (hr:Room n X.A)(ha:SE X sf C ea a)(hb:SE X sf C eb b):SB X sf C (.Compare ea [.Eq] [eb] pos) (.op .eq h [a,b]):=b5 (jB hr.units) ha hb (cR _) (aN mJ) fun u v w e=>xu e
theorem mx (hr:Room n X.A)(ha:SE X sf C ea a)(hb:SE X sf C eb b):SB X sf C (.Compare ea [.NotEq] [eb] pos) (.op .ne h [a,b]):=b5 (oB hr.units) ha hb (cR _) (aN ux) fun u v w e=>wX e
theorem ub (ha:SE X sf C ea a)(hb:SE X sf C eb b):SB X sf C (.Compare ea [.IsNot] [eb] pos) (.op .isnot h [a,b]):=b5 qP ha hb (cR _) (aN jO) fun u v w e=>kF e
noncomputable abbrev SW (X:Cx)(sf:Nat->Option Nat)(C:M.Call)(me:Expr)(e:M.E):Prop:=PW X me (wT X.K sf C e)
theorem wA1 (ha:SB X sf C ea a):SW X sf C (.BoolOp .And [ea] pos) a:=ql ha
theorem wO1 (ha:SB X sf C ea a):SW X sf C (.BoolOp .Or [ea] pos) a:=tX ha
theorem dh {rest:List Expr}(ha:SB X sf C ea a)(hb:SW X sf C (.BoolOp .And (eb::rest) pos) b):SW X sf C (.BoolOp .And (ea::eb::rest) pos) (.and a b):=rD (v9 ha hb) sd
theorem wOr {rest:List Expr}(ha:SB X sf C ea a)(hb:SW X sf C (.BoolOp .Or (eb::rest) pos) b):SW X sf C (.BoolOp .Or (ea::eb::rest) pos) (.or a b):=rD (wO ha hb) y9
theorem tW (h:SW X sf C ea a):SB X sf C ea a:=h.pt
theorem pD {ta:TE}(ha:PE X ea ta):PE X (.UnaryOp .Not ea pos) (fun σ H Q=>ta σ H fun x H1=>∃ k,n4 X.K x H1 k/\Q (.bl (!k)) H1):=by
 intro pins s σ H Q I h
 refine UnaryOp_ (thn (ha pins s σ H _ I h) fun v s1 ⟨x,H1,I1,r1,q1⟩=>?_)
 refine not_of (thn (iH pins s1 σ H1 x v (fun k H2=>Q (.bl (!k)) H2) I1 r1 q1) fun k s2 ⟨H2,I2,q2⟩=>⟨.bl (!k),H2,I2,rfl,q2⟩)
theorem zQ (ha:SE X sf C ea a):SE X sf C (.UnaryOp .Not ea pos) (.not a):=aG (pD ha) fun σ H Q h=>by
 obtain ⟨pv,Z,Fs,η,w,η',A,ev,k⟩:=wo σ H Q h
 exact ⟨pv,Z,Fs,η,w,η',A,ev,fun v Z' H' Fs' G B r s=>let ⟨c,t,q⟩:=k v Z' H' Fs' G B r s; ⟨c,fO t,q⟩⟩
theorem sIf (hc:SB X sf C ec c)(ha:SE X sf C ea a)(hb:SE X sf C eb b):SE X sf C (.IfExp ec ea eb pos) (.ifx c a b):=aG (nC hc ha hb) wj
theorem mi {tg:Expr}(ha:SE X sf C ea a):PI X tg ea (wI X.K sf C 1 .seq [a]):=jb (ze (jl ha) (u5 ha)) uR
theorem va {tg:Expr}{p:Pos}(hm:X.mg "range"=none)(hg:Gl X "range":=by rfl)(ha:SE X sf C ea a)(hs:starEach [ea] X.env=[(false,eval ea X.env)]:=by rfl):PI X tg (.Call (.Name "range" p) [ea] [] pos) (wI X.K sf C 1 .rng [a]):=jb (jG hg hm (slc ha sl0 hs) hs) qX
noncomputable def lkN:List Nat->Nat->Nat->Option Nat
 | [],_,_=>none
 | t::ts,n,i=>if i=t then some n else lkN ts (n+1) i
theorem jc:∀ {l:List Nat} {n i j:Nat},lkN l n i=some j->∃ k,l[k]?=some i/\j=n+k/\i ∉ l.take k
 | [],_,_,_,h=>by cases h
 | t::ts,n,i,j,h=>by
  have h':(if i=t then some n else lkN ts (n+1) i)=some j:=h
  split at h'
  ·rename_i e; cases h'; exact ⟨0,by rw [e]; rfl,rfl,by simp⟩
  ·rename_i e
   obtain ⟨k,h1,h2,h3⟩:=jc h'
   exact ⟨k+1,h1,by omega,by rw [List.take_succ_cons,a0H]; exact fun z=>z.elim e h3⟩
noncomputable def inF (tg ls:List Nat):Nat->Option Nat:=lkN (tg++ls) 0
theorem d6 {tg ls is:List Nat}(h:ls.map sf=is.map some):eg sf (inF tg ls) tg is:=fun i j hj=>by
 obtain ⟨k,h1,h2,h3⟩:=jc (show lkN (tg++ls) 0 i=some j from hj)
 rw [a15] at h2
 subst h2
 by_cases hk:j < tg.length
 ·rw [a0S hk] at h1
  exact .inl ⟨j,h1,rfl⟩
 ·have hk':tg.length<=j:=a2v hk
  rw [a0Q hk'] at h1
  refine .inr ⟨fun hi=>h3 ?_,?_⟩
  ·rw [List.take_append,a1q hk']
   exact a0V _ hi
  ·have e1:(ls.map sf)[j-tg.length]?=some (sf i):=by rw [a0x,h1]; rfl
   rw [h,a0x] at e1
   cases e2:is[j-tg.length]? with
   | none=>rw [e2] at e1; cases e1
   | some j0 =>
    rw [e2] at e1
    exact ⟨j-tg.length,j0,by omega,e2,(a0w e1).symm⟩
theorem Ah {x:Str}{px:Pos}{ys:List Str}{scope:Scope}{cl:List (Str×Addr)}(S:aH [x] ys scope)(Ca:Addr)(s:Shared)(H:Hp)(fp:List Addr):PG (av X ([x]++ys) scope cl Ca s H fp) (.Name x px) (gT X.K 1) :=
 bY (X:=av X ([x]++ys) scope cl Ca s H fp) (i:=0) (x:=x) (pos:=px) S.nd rfl (.inl (lookup_relabel_local (S.loc x (by simp)))) (.inr (lookup_relabel_local (S.loc x (by simp))))
theorem yI {x y:Str}{px py pt:Pos}{kt:Nat}{ys:List Str}{scope:Scope}{cl:List (Str×Addr)}(hc:X.calm=true)(S:aH [x,y] ys scope)(Ca:Addr)(s:Shared)(H:Hp)(fp:List Addr):PG (av X ([x,y]++ys) scope cl Ca s H fp) (.Tuple [.Name x px,.Name y py] kt pt) (gT X.K 2) :=
 nP (X:=av X ([x,y]++ys) scope cl Ca s H fp) (pos:=pt) (k:=kt) (n:=2) hc (cX (bY (pos:=px) (i:=0) (x:=x) S.nd rfl (.inl (lookup_relabel_local (S.loc x (by simp)))) (.inr (lookup_relabel_local (S.loc x (by simp))))) (cX (bY (pos:=py) (i:=1) (x:=y) S.nd rfl (.inl (lookup_relabel_local (S.loc y (by simp)))) (.inr (lookup_relabel_local (S.loc y (by simp))))) jC))
end
end MR

namespace MR
open PySem PySem.Spec PyProof.Rows L2 L3
section
variable {X:Cx}{sf sg:Nat->Option Nat}{C:M.Call}{pos p2:Pos}{ea eb ec:Expr}{a b c:M.E}{h:Bool}{n:Nat}{io:List Nat}
section
variable {elt iter cnd:Expr}{x y:Str}{px py pt:Pos}{kt:Nat}{scope:Scope}{cl:List (Str×Addr)}{ys:List Str}{tg ls is:List Nat}{k:M.Ik}{src:List M.E}{e cd:M.E}
theorem sC1 (ls:List Nat)(is:List Nat)(cl:List (Str×Addr))(ys:List Str){t:Nat}(hi:PI X (.Name x px) iter (wI X.K sf C 1 k src))(he:∀ Ca s H fp,SE (av X ([x]++ys) scope cl Ca s H fp) (inF [t] ls) C elt e)
  (S:aH [x] ys scope) (hcl:Clo X cl) (fr:Frees X scope cl ys is) (hc:X.calm=true:=by rfl) (hl:ls.map sf=is.map some:=by rfl)
  (hclos:closureFor scope X.env=pure cl:=by with_unfolding_all rfl) (hfr:(scope.names.all fun p=>p.2 != .free || (cl.lookup p.1).isSome)=true:=by rfl)
  (hs:∀ v,foldedSetIterable iter X.env v=pure v:=by intro _; rfl):SE X sf C (.ListComp elt [⟨.Name x px,iter,[],0⟩] scope pos) (.comp h k src [t] none e) :=
 aG (jP (pre:=[x]) hc hi (Ah S) (fun Ca s H fp=>he Ca s H fp) hclos S hcl hfr fr hs) (ig rfl (by simp) (d6 hl))
end
noncomputable def spS (K:a0a)(C:M.Call)(f:Nat)(io:List Nat):Sp:=fun vs H Q _=>spC K C f io vs H Q
theorem sa0:SA X sf C [] []:=gU fL uG
theorem sac {es:List Expr}{bs:List M.E}(ha:SE X sf C ea a)(hb:SA X sf C es bs)(he:∀ i,a≠.io i:=by intro _ z; cases z)(hs:starEach (ea::es) X.env=(false,eval ea X.env)::starEach es X.env:=by rfl):SA X sf C (ea::es) (a::bs):=gU (cA ha hb hs) (lA he)
theorem sai (j:Nat){i:Nat}{x:Str}{es:List Expr}{bs:List M.E}(hb:SA X sf C es bs)(hs:sf i=some j:=by rfl)(hN:X.N[j]?=some x:=by rfl)(hv:Vis X.env.scope x:=by first | exact a0r rfl | exact a0n (a0r rfl) | exact a0n (a0n rfl))(hd:(x==("__debug__":Str))=false:=by decide)
  (hcd:(x==("__classdict__":Str))=false:=by decide) (hst:starEach (.Name x pos::es) X.env=(false,eval (.Name x pos) X.env)::starEach es X.env:=by rfl):SA X sf C (.Name x pos::es) (.io i::bs):=gU (cA (dq hN hv hd hcd) hb hst) (j8 hs)
noncomputable def ai (P:Program)(w:World)(K:a0a)(mg:Str->Option Value)(base:Heap)(n:Nat)(C:M.Call)(x:Str)(f:Nat)(io:List Nat):Prop :=
 ∃ fa fd ps,c8 P w K mg base CX0 n fa fd ps (spS K C f io)/\mg x=some (.ref fa)/\a1r K (.ref fa)=true/\Binds K fd ps []
theorem ag {x:Str}{p:Pos}{f:Nat}{es:List Expr}{bs:List M.E}(c:ai X.prog X.w X.K X.mg X.base n C x f io)(hr:Room n X.A)(ha:SA X sf C (ea::es) bs)(hio:ei bs 0=io\/M.ios bs=[]:=by first | exact .inl rfl | exact .inr rfl)(hg:Gl X x:=by rfl)(hdb:(x==("__debug__":Str))=false:=by decide)
  (he:starEach (ea::es) X.env=(false,eval ea X.env)::starEach es X.env:=by rfl) (hpl:(backTo pos (starEach es X.env)).any (·.1)=false:=by rfl):SE X sf C (.Call (.Name x p) (ea::es) [] pos) (.call f bs):=by
 obtain ⟨fa,fd,ps,F,hm,hk,hb⟩:=c
 refine aG (qE (E:=E0) F hr hg hm hk hb .nil yV ha hdb he hpl) fun σ H Q hw=>?_
 have h2:=qG hio σ H Q hw
 obtain ⟨pv,Z,Fs,η,ws,η',A,ev,k⟩:=h2
 exact ⟨pv,Z,Fs,η,ws,η',A,ev,fun vs Z' H' Fs' G B r s hv=>by show spS X.K C f io (vs++[]) H' Q E0; rw [a0N]; exact k vs Z' H' Fs' G B r s hv⟩
theorem ss0:SSs X sf io C [] []:=i1 qC qR
theorem ss1 {s:Stmt}{t:M.S}(hs:SS X sf io C s t):SSs X sf io C [s] [t]:=i1 (pI hs) qd
theorem ssc {s:Stmt}{t:M.S}{r:List Stmt}{u:List M.S}(hs:SS X sf io C s t)(hr:SSs X sf io C r u):SSs X sf io C (s::r) (t::u):=i1 (l9 hs hr) n5
theorem ak (j:Nat){i:Nat}{x:Str}{xx:M.X}{pos':Pos}(hN:X.N.Nodup)(ha:SE X sf C ea a)(hi:i ∉ io:=by decide)(hs:sf i=some j:=by rfl)(hj:X.N[j]?=some x:=by rfl)(hx:L2.Loc X.env.scope x:=by first | exact a0r rfl | exact a0n rfl)
  (hsw:swapsWith ea (some (.Name x pos')) pos.line X.env=pure false:=by rfl) (hf:X.fn x=true\/X.env.scope.names.lookup x=some .local:=by first | exact .inl rfl | exact .inr rfl):SS X sf io C (.Assign [.Name x pos'] ea pos) (.asg xx i a):=cN (vT (i:=j) hN hj hx ha hsw hf) (i0 hi hs)
theorem aE {vs:List Nat}(ha:SE X sf C ea a):SS X sf io C (.Return (some ea) pos) (.ret vs a):=cN (uy ha) uw
theorem zIf {xx:M.X}{r u:List Stmt}{s t:List M.S}(hc:SB X sf C ec c)(ha:SSs X sf io C r s)(hb:SSs X sf io C u t):SS X sf io C (.If ec r u pos) (.ite xx c s t):=cN (xB hc ha hb) uS
theorem mL (j:Nat){t:Nat}{x:Str}{px:Pos}{iter:Expr}{r:List Stmt}{s:List M.S}{vs ls:List Nat}{k:M.Ik}{src:List M.E}(hN:X.N.Nodup)(hi:PI X (.Name x px) iter (wI X.K sf C 1 k src))(ha:SSs X sf io C r s)(hio:∀ u∈[t],u ∉ io:=by decide)(hjs:[t].map sf=[j].map some:=by rfl)(hj:X.N[j]?=some x:=by rfl)(hx:L2.Loc X.env.scope x:=by first | exact a0r rfl | exact a0n rfl)
  (hc:X.calm=true:=by rfl) (hp:PassesOwn (model X.prog X.w) X.A X.env X.xe:=by exact PassesOwn.never) (hf:X.fn x=true\/X.env.scope.names.lookup x=some .local:=by first | exact .inl rfl | exact .inr rfl) (hs:∀ x,foldedSetIterable iter X.env x=pure x:=by intro _; rfl):SS X sf io C (.For (.Name x px) iter r [] pos) (.forS vs ls k src [t] s) :=
 cN (iR hp hc hi (bY (i:=j) hN hj hx hf) ha hs) (ny rfl (by simp) hio hjs)
theorem zg (j l:Nat){t u:Nat}{x y:Str}{px py pt:Pos}{kt:Nat}{iter:Expr}{r:List Stmt}{s:List M.S}{vs ls:List Nat}{k:M.Ik}{src:List M.E}(hN:X.N.Nodup)(hi:PI X (.Tuple [.Name x px,.Name y py] kt pt) iter (wI X.K sf C 2 k src))(ha:SSs X sf io C r s)(hio:∀ v∈[t,u],v ∉ io:=by decide)(nd:[t,u].Nodup:=by decide)(hjs:[t,u].map sf=[j,l].map some:=by rfl)(hj:X.N[j]?=some x:=by rfl)(hl:X.N[l]?=some y:=by rfl)
  (hx:L2.Loc X.env.scope x:=by first | exact a0r rfl | exact a0n rfl) (hy:L2.Loc X.env.scope y:=by first | exact a0r rfl | exact a0n rfl)
  (hc:X.calm=true:=by rfl) (hp:PassesOwn (model X.prog X.w) X.A X.env X.xe:=by exact PassesOwn.never) (hf:X.fn x=true\/X.env.scope.names.lookup x=some .local:=by first | exact .inl rfl | exact .inr rfl) (hf':X.fn y=true\/X.env.scope.names.lookup y=some .local:=by first | exact .inl rfl | exact .inr rfl) (hs:∀ x,foldedSetIterable iter X.env x=pure x:=by intro _; rfl):SS X sf io C (.For (.Tuple [.Name x px,.Name y py] kt pt) iter r [] pos) (.forS vs ls k src [t,u] s) :=
 cN (iR hp hc hi (nP (n:=2) hc (cX (bY (i:=j) hN hj hx hf) (cX (bY (i:=l) hN hl hy hf') jC))) ha hs) (ny rfl nd hio hjs)
theorem ng (j:Nat){i:Nat}{x:Str}{xx:M.X}{apos cpos px:Pos}(ha:SE X sf C ea a)(hs:sf i=some j:=by rfl)(hN:X.N[j]?=some x:=by rfl)(hv:Vis X.env.scope x:=by first | exact a0r rfl | exact a0n (a0r rfl) | exact a0n (a0n rfl))(hd:(x==("__debug__":Str))=false:=by decide)(hcd:(x==("__classdict__":Str))=false:=by decide)
  (hbase:attributeBase (.Name x px) "append" X.env (eval (.Name x px) X.env)=eval (.Name x px) X.env:=by rfl)
  (hfew:((backTo cpos (starEach [ea] X.env)).all (fun x=>!x.1)&&(backToKw cpos (keywordEach [] X.env)).all (fun x=>x.1.isSome)&&decide ([ea].length+([]:List Keyword).length+(if ([]:List Keyword).isEmpty then 0 else 1) < 30))=true:=by rfl)
  (hline:(apos.endLine==cpos.line)=true:=by rfl) (hst:starEach [ea] X.env=(false,eval ea X.env)::starEach [] X.env:=by rfl) (hplain:(backTo cpos (starEach [] X.env)).any (·.1)=false:=by rfl) (hsw:swapsWith (.Call (.Attribute (.Name x px) "append" apos) [ea] [] cpos) none pos.line X.env=pure false:=by rfl) :
  SS X sf io C (.Expr (.Call (.Attribute (.Name x px) "append" apos) [ea] [] cpos) pos) (.app xx i a) :=
 cN (oi (zu PySem.F.plainAttrs_list PySem.F.slot_list_append PySem.F.type_list_append j1 (dq hN hv hd hcd) (cA ha fL hst) hbase hfew hline hst hplain) hsw) fun D σ H hw=>by
  obtain ⟨p,xs,hj,hp,pv,Z,Fs,η,w,η',A,ev,k⟩:=sH hs D σ H hw
  refine ⟨.ref p,hj,.inl ⟨rfl,xs,.inl (.inl hp)⟩,pv,Z,Fs,η,w,η',A,ev,fun v Z' H' Fs' G B r s=>?_⟩
  obtain ⟨ys,h1,h2,h3⟩:=k v Z' H' Fs' G B r s
  exact ⟨p,ys,v,rfl,rfl,h1,h2,h3⟩
theorem vF (j:Nat){i:Nat}{x:Str}{xx:M.X}{px ps:Pos}(ha:SE X sf C ea a)(hb:SE X sf C eb b)(hs:sf i=some j:=by rfl)(hN:X.N[j]?=some x:=by rfl)(hv:Vis X.env.scope x:=by first | exact a0r rfl | exact a0n (a0r rfl) | exact a0n (a0n rfl))(hd:(x==("__debug__":Str))=false:=by decide)(hcd:(x==("__classdict__":Str))=false:=by decide)
  (has:∀ v,assign (.Subscript (.Name x px) eb ps) X.env v=(do
   let ov <- holding [v] (eval (.Name x px) X.env)
   let iv <- holding [v,ov] (eval eb X.env)
   standAt ps
   holding [v,ov,iv] (setItem ov iv v)
   release [v,ov,iv] []):=by intro _; rfl)
  (h1:swapsWithSole [.Subscript (.Name x px) eb ps] ea pos.line X.env=pure false:=by rfl) (h2:swappedStores [.Subscript (.Name x px) eb ps] ea X.env=pure none:=by rfl) (h3:(assignEach [.Subscript (.Name x px) eb ps] X.env).map (·.2)=[assign (.Subscript (.Name x px) eb ps) X.env]:=by rfl) :
  SS X sf io C (.Assign [.Subscript (.Name x px) eb ps] ea pos) (.setI xx i b a) :=
 cN (uf ha (tG (dq hN hv hd hcd) hb lG has) h1 h2 h3) fun D σ H hw=>by
  obtain ⟨pv,Z,Fs,η,w,η',A,ev,k⟩:=pV hs D σ H hw
  refine ⟨pv,Z,Fs,η,w,η',A,ev,fun v Z' H' Fs' G B r s=>?_⟩
  obtain ⟨o,ho,pv2,Z2,Fs2,η2,w2,η3,A2,ev2,k2⟩:=k v Z' H' Fs' G B r s
  refine ⟨o,ho,pv2,Z2,Fs2,η2,w2,η3,A2,ev2,fun z Z3 H3 Fs3 G3 B3 r3 s3=>?_⟩
  obtain ⟨q,xs,n,m,rfl,rfl,g1,g2,g3⟩:=k2 z Z3 H3 Fs3 G3 B3 r3 s3
  exact ⟨q,xs,n,m,rfl,rfl,g1,g2,g3⟩
end
end MR

namespace MR
open PySem PySem.Spec PyProof.Rows L2 L3
section
variable {K:a0a}{Z:Fp}{H:Hp}
theorem fY:∀ {ws:List M.W} {n i:Nat} {w:M.W},M.rd (ws.map some++a0e n none) i=some w->ws[i]?=some w
 | [],0,i,w,h=>by simp [M.rd] at h
 | [],n+1,0,w,h=>by simp [a0I,M.rd] at h
 | [],n+1,i+1,w,h=>by
  have:M.rd (([]:List M.W).map some++a0e n none) i=some w:=by simpa [a0I,M.rd] using h
  have:=fY this
  simp at this
 | u::ws,n,0,w,h=>by simpa [M.rd] using h
 | u::ws,n,i+1,w,h=>by
  have:M.rd (ws.map some++a0e n none) i=some w:=by simpa [M.rd] using h
  simpa using fY this
theorem lE:∀ {ws:List M.W} {vs:List V} {G:Fp},RepW K Z H ws vs G->∃ Fs:Fps,(∀ i a,Fs i a->G a)/\(∀ i j a,Fs i a->Fs j a->i=j)/\∀ i w,ws[i]?=some w->∃ v,vs[i]?=some v/\Rep K Z H w.1 w.2 v (Fs i)
 | [],vs,G,_=>⟨fun _=>no,fun _ _ h=>h.elim,fun _ _ _ h=>h.elim,fun i w h=>by simp at h⟩
 | w::ws,vs,G,⟨x,r,G1,G2,e,h1,h2,hd,p,q⟩=>by
  obtain ⟨Fs,f1,f2,f3⟩:=lE q
  subst e
  refine ⟨fun i=>match i with | 0=>G1 | i+1=>Fs i,fun i a h=>?_,fun i j a hi hj=>?_,fun i u h=>?_⟩
  ·cases i with
   | zero=>exact h1 a h
   | succ i=>exact h2 a (f1 i a h)
  ·cases i with
   | zero =>
    cases j with
    | zero=>rfl
    | succ j=>exact absurd (f1 j a hj) (hd a hi)
   | succ i =>
    cases j with
    | zero=>exact absurd (f1 i a hi) (hd a hj)
    | succ j=>exact congrArg (·+1) (f2 i j a hi hj)
  ·cases i with
   | zero=>simp only [a1l,a1M] at h; subst h; exact ⟨x,rfl,p⟩
   | succ i=>simpa using f3 i u (by simpa using h)
noncomputable def slN (n:Nat):Nat->Option Nat:=fun i=>if i < n then some i else none
theorem dm {sl:Cf}{σ:L2.St}{Fs:Fps}{η:M.Env}{G:Fp}{vs:List V}(A:At K sl σ Z H Fs η G):∀ {io:List Nat} {bs:List M.W},io.Nodup->(∀ i∈io,sl.pv i=vs[i]?/\i < vs.length)->M.backs io η=some bs->RepW K Z H bs (atV io vs) (fun a=>∃ i∈io,Fs i a)
 | [],bs,_,_,h=>by
  simp only [M.backs,a1M] at h; subst h; rfl
 | i::io,bs,nd,hv,h=>by
  simp only [M.backs] at h
  cases e:M.rd η i with
  | none=>rw [e] at h; cases h
  | some w =>
   rw [e] at h
   simp only [a2y] at h
   cases e2:M.backs io η with
   | none=>rw [e2] at h; cases h
   | some ws =>
    rw [e2] at h
    simp only [a2y,a1M] at h
    subst h
    obtain ⟨v,r,_,hp⟩:=A.env i w.1 w.2 e
    have hi:=hv i a0o
    obtain ⟨u,hu⟩:∃ u,vs[i]?=some u:=⟨vs[i]'hi.2,a0q hi.2⟩
    have:=hp u (hi.1.trans hu)
    subst this
    refine ⟨v,atV io vs,Fs i,fun a=>∃ j∈io,Fs j a,?_,fun a h=>⟨i,a0o,h⟩,fun a ⟨j,hj,h⟩=>⟨j,a0p _ hj,h⟩,fun a h ⟨j,hj,h'⟩=>?_,r,dm A (a08.mp nd).2 (fun j hj=>hv j (a0p _ hj)) e2⟩
    ·rw [atV,a0G,hu]; rfl
    ·exact (a08.mp nd).1 (A.gd.dis i j a h h' ▸ hj)
end
section
variable {P:Program}{w:World}{K:a0a}{mg:Str->Option Value}{base:Heap}
theorem nI {Z:Fp}{H:Hp}{ws:List M.W}{vs:List V}{G:Fp}{N:List Str}{n:Nat}{io:List Nat}(r:RepW K Z H ws vs G)(o:Own Z H G)(z:∀ a,Z a->H a≠none)(hl:vs.length<=N.length) :
  ∃ Fs,(∀ a,tot Fs a->G a)/\At K ⟨slN N.length,fun i=>if i∈io then vs[i]? else none⟩ (L2.start N vs) Z H Fs (ws.map some++a0e n none) no:=by
 obtain ⟨Fs,f1,f2,f3⟩:=lE r
 have st:∀ i v,vs[i]?=some v->(L2.start N vs)[i]?=some (some v):=fun i v h=>by
  have hi:=(a0v.mp h).1
  rw [L2.start,a0S (by simpa using hi),a0x,h]; rfl
 refine ⟨Fs,fun a ⟨i,h⟩=>f1 i a h,⟨⟨fun a ⟨i,h⟩=>o a (f1 i a h),f2,z⟩,fun i m t e=>?_,fun a h=>h.elim,fun a h=>h.elim,fun i u j hu hj=>?_,fun i j hj=>?_⟩⟩
 ·obtain ⟨v,hv,rp⟩:=f3 i (m,t) (fY e)
  refine ⟨v,rp,fun j hj=>?_,fun u hu=>?_⟩
  ·simp only [slN] at hj
   split at hj
   ·cases hj; exact st i v hv
   ·cases hj
  ·simp only at hu
   split at hu
   ·rw [hv] at hu; cases hu; rfl
   ·cases hu
 ·simp only at hu
  simp only [slN] at hj
  split at hj
  ·cases hj
   split at hu
   ·exact st i u hu
   ·cases hu
  ·cases hj
 ·simp only [slN] at hj
  split at hj
  ·cases hj
   rename_i h
   rw [L2.start,a0c,a0d,a0F]; omega
  ·cases hj
theorem Fun.okM {x qual:Str}{st:Stmt}{f:Addr}{fd:FuncData}{N ps:List Str}{k:Nat}{C:M.Call}{d:M.Fn}(F:L2.Fun K x qual st f fd)(S:au N ps (defScope st))(hps:d.ps=ps.length)(hle:ps.length<=N.length)(nd:d.io.Nodup)(hio:∀ i∈d.io,i < ps.length)
  (hbody:∀ (cdv:Value) (A:Around) (outer:List Env) (s:Shared) (H:Hp) (E:XK),Room k (A.deeper (envOfC qual (defScope st) s.heap.objs.size f cdv)) ->
   SSs (fM CX0 P w K mg base N qual (defScope st) f cdv A outer s H E).nox (slN N.length) d.io C (defBody st) d.body) {g:Nat} {C':M.Call} (hC:∀ ws,C' g ws=M.runF C d ws):c8 P w K mg base CX0 (k+1) f fd ps (spS K C' g d.io):=by
 have len:∀ vs H Q E,spS K C' g d.io vs H Q E->vs.length=ps.length:=fun vs H Q E ⟨Z,ws,G,w,bs,r,_,_,hr,_⟩=>by
  rw [hC] at hr
  unfold M.runF at hr
  split at hr
  ·rename_i h; rw [r.length,h,hps]
  ·cases hr
 refine F.ok S len fun cdv A outer s H vs Q E hr h=>⟨_,hbody cdv A outer s H E hr,?_⟩
 have hlen:=len vs H Q E h
 obtain ⟨Z,ws,G,w,bs,r,o,z,hc,q⟩:=h
 rw [hC] at hc
 have hwl:ws.length=d.ps:=by rw [<- r.length,hlen,hps]
 rw [M.x_run _ _ _ hwl] at hc
 obtain ⟨Fs,ft,A0⟩:=nI (n:=d.ns) (io:=d.io) r o z (N:=N) (by omega)
 refine ⟨_,Z,Fs,_,⟨fun i i' j h h'=>?_,fun i h=>if_neg h⟩,A0,?_⟩
 ·simp only [slN] at h h'
  split at h
  ·split at h'
   ·cases h; cases h'; rfl
   ·cases h'
  ·cases h
 have hv:∀ i∈d.io,(if i∈d.io then vs[i]? else none)=vs[i]?/\i < vs.length:=fun i hi=>⟨if_pos hi,hlen ▸ hio i hi⟩
 cases e:M.evSs C d.body (ws.map some++a0e d.ns none) with
 | nx η =>
  rw [e] at hc
  intro σ' Z' H' Fs' A' t
  simp only [M.Fl.out] at hc
  cases e2:M.backs d.io η with
  | none=>rw [e2] at hc; cases hc
  | some cs =>
   rw [e2] at hc
   cases hc
   refine q .non Z' H' no _ rfl (dm A' nd hv e2) (fun _ h=>h.elim) (fun a h=>h.elim (fun z=>z.elim) fun ⟨i,_,z⟩=>A'.gd.own a ⟨i,z⟩) (t.mono ft fun a h=>h.elim (fun z=>z.elim) fun ⟨i,_,z⟩=>⟨i,z⟩)
 | rt u η =>
  rw [e] at hc
  intro v σ' Z' H' Fs' G' A' rp t
  simp only [M.Fl.out] at hc
  cases e2:M.backs d.io η with
  | none=>rw [e2] at hc; cases hc
  | some cs =>
   rw [e2] at hc
   cases hc
   exact q v Z' H' G' _ rp (dm A' nd hv e2) (fun a h ⟨i,_,z⟩=>A'.dis a h ⟨i,z⟩) (fun a h=>h.elim (A'.own a) fun ⟨i,_,z⟩=>A'.gd.own a ⟨i,z⟩) (t.mono ft fun a h=>h.elim .inr fun ⟨i,_,z⟩=>.inl ⟨i,z⟩)
 | bk η=>rw [e] at hc; cases hc
 | ex c x η=>rw [e] at hc; cases hc
 | no=>rw [e] at hc; cases hc
end
end MR

namespace MR
open PySem PySem.Spec PyProof.Rows L2 L3
noncomputable def zv (K:a0a)(H:Hp):Th->V->Prop
 | .tup _,x=>∃ a vs,x=.ref a/\SqT K H a vs
 | .lst _,x=>∃ a vs,x=.ref a/\SqL K H a vs
 | .non,x=>x=.non
 | .bl b,x=>x=.bl b
 | .int i,x=>x=.int i
 | .str z,x=>x=.str z
theorem nQ {X:Cx}{c:String}(hc:c∈["tuple","str","bool","int","list"]):cn X (.builtin "isinstance") (fun xs H Q=>∃ x t,xs=[x,.ty c]/\zv X.K H t x/\Q (.bl (isI c t)) H):=by
 intro pins s σ H xs us Q I r h
 obtain ⟨x,t,rfl,ht,q⟩:=h
 obtain ⟨u,w',rfl,ru,rw'⟩:=rC r
 cases rw'
 have e:a06 X.K (.type t.ty) (.type c)=some (isI c t):=kit_type.trans (wC hc t)
 have fin:∀ tk,EP X pins σ Q (.bool (isI c t)) { s with toks:=tk }:=fun tk=>⟨.bl (isI c t),H,I.tok tk,rfl,q⟩
 cases t with
 | non =>
  obtain rfl:x=.non:=ht
  exact cH I ru .non e fin
 | bl b =>
  obtain rfl:x=.bl b:=ht
  exact cH I ru (.bl b) e fin
 | int i =>
  obtain rfl:x=.int i:=ht
  exact cH I ru (.int i) e fin
 | str z =>
  obtain rfl:x=.str z:=ht
  exact cH I ru (.str z) e fin
 | tup ts =>
  obtain ⟨a,vs,rfl,hS⟩:=ht
  cases ru
  obtain ⟨its,_,p,_⟩:=I.tuple hS
  obtain ⟨o,h1,h2,_⟩:=p
  exact a0J a2j I.kIn ⟨o,h1,h2⟩ e (fun z=>nomatch z) fin
 | lst ts =>
  obtain ⟨a,vs,rfl,hS⟩:=ht
  cases ru
  obtain ⟨its,_,p,_⟩:=I.list hS
  obtain ⟨o,n,h1,h2,_⟩:=p
  exact a0J a1K I.kIn ⟨o,h1,h2⟩ e (fun z=>nomatch z) fin
noncomputable def thT:M.T->Th
 | .non=>.non | .bl b=>.bl b | .int i=>.int i | .str x=>.str x | .tup _=>.tup [] | .lst _=>.lst [] | .scr _=>.lst [] | .dct _ _=>.non | .ins _ _ _=>.non | .gone=>.non
theorem oS {K:a0a}{Z:Fp}{H:Hp}{t:M.T}{m:M.Md}{x:V}{G:Fp}(hg:t.isG=false)(r:Rep K Z H m t x G):zv K H (thT t) x/\(thT t).ty=t.ty:=by
 cases t with
 | non=>exact ⟨r,rfl⟩
 | bl _=>exact ⟨r,rfl⟩
 | int _=>exact ⟨r,rfl⟩
 | str _=>exact ⟨r.1,rfl⟩
 | tup _=>obtain ⟨p,xs,e,q,_⟩:=r; exact ⟨⟨p,xs,e,q⟩,rfl⟩
 | lst _=>obtain ⟨p,xs,e,_,q,_⟩:=r; exact ⟨⟨p,xs,e,.inl (.inl (by cases m<;>exact q.2))⟩,rfl⟩
 | scr _=>obtain ⟨p,e,_,q⟩:=r; exact ⟨⟨p,_,e,q.sq⟩,rfl⟩
 | dct _ _=>exact r.elim
 | ins _ _ _=>exact r.elim
 | gone=>cases hg
theorem oR {t:Th}{u:M.T}{c:String}(h:t.ty=u.ty):isI c t=M.isOne c u:=by unfold isI M.isOne; rw [h]
section
variable {X:Cx}{sf sg:Nat->Option Nat}{C:M.Call}{pos p2 p3:Pos}{ea eb ec:Expr}{a b c:M.E}{h:Bool}{n:Nat}{io:List Nat}
theorem y8 {c:String}{k:Str}(hc:c∈["tuple","str","bool","int","list"])(hv:bootBuiltins k=some (.type c))(hm:X.mg "isinstance"=none)(hm2:X.mg k=none)(ha:SE X sf C ea a)(hg:Gl X "isinstance":=by rfl)(hg2:Gl X k:=by rfl)(hn:k≠"__name__":=by decide)(hd:(k==("__debug__":Str))=false:=by decide)
  (hs:starEach [ea,.Name k p2] X.env=(false,eval ea X.env)::starEach [.Name k p2] X.env:=by rfl) (hs2:starEach [.Name k p2] X.env=(false,eval (.Name k p2) X.env)::starEach [] X.env:=by rfl) (hpl:(backTo pos (starEach [.Name k p2] X.env)).any (·.1)=false:=by rfl) :
  SE X sf C (.Call (.Name "isinstance" p3) [ea,.Name k p2] [] pos) (.op (.isI [c]) h [a]) :=
 aG (cx (nQ hc) hg hm a2B (cA ha (cA (xh hg2 hm2 hv hn hd) fL hs2) hs) (by decide) (by decide) hs hpl) fun σ H Q hw=>by
  obtain ⟨pv,Z,Fs,η,w,η',A,ev,k⟩:=hw
  obtain ⟨ws,h1,h2⟩:=el ev
  obtain ⟨⟨m,u⟩,η1,us,e1,e2,rfl⟩:=aR h1
  cases e2
  obtain ⟨hug,h2⟩:=ifN (show (if u.isG=true then none else some _)=_ from h2)
  cases h2
  refine ⟨pv,Z,Fs,η,(m,u),η',A,e1,fun x Z' H' Fs' G B r s=>?_⟩
  obtain ⟨t1,t2⟩:=oS hug r
  refine ⟨x,thT u,rfl,t1,?_⟩
  have:=bL (cQ B s k)
  rw [oR t2]
  rw [show ([c].any fun c=>M.isOne c u)=M.isOne c u by simp] at this
  exact this
theorem wW {es:List Expr}{kt:Nat}{pt p:Pos}(hm:X.mg "enumerate"=none)(hg:Gl X "enumerate":=by rfl)(ha:SE X sf C ea a)(hs:starEach [ea] X.env=[(false,eval ea X.env)]:=by rfl):PI X (.Tuple es kt pt) (.Call (.Name "enumerate" p) [ea] [] pos) (wI X.K sf C 2 .enm [a]):=jb (p5 hg hm (slc ha sl0 hs) hs) tV
end
end MR

namespace MR
open PySem PySem.Spec PyProof.Rows L2 L3
structure Txt (mg:Str->Option Value):Prop where
 isin:mg "isinstance"=none
 int:mg "int"=none
 tup:mg "tuple"=none
 list:mg "list"=none
 bool:mg "bool"=none
 sum:mg "sum"=none
 len:mg "len"=none
 all:mg "all"=none
 zip:mg "zip"=none
 range:mg "range"=none
 enum:mg "enumerate"=none
 any:mg "any"=none
 max:mg "max"=none
 min:mg "min"=none
 sorted:mg "sorted"=none
 str:mg "str"=none
 repr:mg "repr"=none
 abs:mg "abs"=none
 dict:mg "dict"=none
 set:mg "set"=none
 rev:mg "reversed"=none
theorem frc {X:Cx}{scope:Scope}{cl:List (Str×Addr)}{y:Str}{ys:List Str}{i:Nat}{is:List Nat}{c:Addr}(r:Frees X scope cl ys is)(h1:X.N[i]?=some y:=by rfl)(h2:Vis X.env.scope y:=by first | exact a0r rfl | exact a0n (a0r rfl) | exact a0n (a0n rfl))(h3:X.env.kindOf y=some .cell\/X.env.kindOf y=some .free:=by first | exact a0r rfl | exact a0n rfl)
  (h4:X.env.cells.lookup y=some c:=by rfl) (h5:cl.lookup y=some c:=by rfl) (h6:(relabel scope X.env).names.lookup y=some .cell\/(relabel scope X.env).names.lookup y=some .free:=by first | exact a0r rfl | exact a0n rfl):Frees X scope cl (y::ys) (i::is):=.cons h1 h2 h3 h4 h5 h6 r
theorem vw {X:Cx}{y:Str}{c:Addr}{cl:List (Str×Addr)}(r:Clo X cl)(h:X.env.cells.lookup y=some c:=by rfl):Clo X ((y,c)::cl):=.cons h r
section
variable {X:Cx}{sf sg:Nat->Option Nat}{C:M.Call}{pos p2 p3:Pos}{ea eb ec:Expr}{a b c:M.E}{h:Bool}{n:Nat}{io:List Nat}
section
variable {elt iter cnd:Expr}{x y:Str}{px py pt:Pos}{kt:Nat}{scope:Scope}{tg:List Nat}{k:M.Ik}{src:List M.E}{e cd:M.E}
theorem zC2 (j:Nat)(ls:List Nat)(is:List Nat)(cl:List (Str×Addr))(ys:List Str){z:Str}{pz spos:Pos}{xx:M.X}{i t t':Nat}(hi:PI X (.Tuple [.Name x px,.Name y py] kt pt) iter (wI X.K sf C 2 k src))(he:∀ Ca s H fp,SE (av X ([x,y]++ys) scope cl Ca s H fp) (inF [t,t'] ls) C elt e)
  (S:aH [x,y] ys scope) (hcl:Clo X cl) (fr:Frees X scope cl ys is) (hN:X.N.Nodup) (hni:i ∉ io:=by decide) (hsj:sf i=some j:=by rfl) (hj:X.N[j]?=some z:=by rfl) (hz:L2.Loc X.env.scope z:=by first | exact a0r rfl | exact a0n rfl)
  (hsw:swapsWith (.ListComp elt [⟨(.Tuple [.Name x px,.Name y py] kt pt),iter,[],0⟩] scope pos) (some (.Name z pz)) spos.line X.env=pure true:=by rfl) (hc:X.calm=true:=by rfl) (hl:ls.map sf=is.map some:=by rfl) (nd:[t,t'].Nodup:=by decide)
  (hclos:closureFor scope X.env=pure cl:=by with_unfolding_all rfl) (hfr:(scope.names.all fun p=>p.2 != .free || (cl.lookup p.1).isSome)=true:=by rfl)
  (hs:∀ v,foldedSetIterable iter X.env v=pure v:=by intro _; rfl) (hfn:X.fn z=true\/X.env.scope.names.lookup z=some .local:=by first | exact .inl rfl | exact .inr rfl):SS X sf io C (.Assign [.Name z pz] (.ListComp elt [⟨(.Tuple [.Name x px,.Name y py] kt pt),iter,[],0⟩] scope pos) spos) (.asg xx i (.comp h k src [t,t'] none e)) :=
 cN (kf (pre:=[x,y]) hN hj hz hsw hc hi (yI hc S) (fun Ca s H fp=>he Ca s H fp) hclos S hcl hfr fr hs hfn) fun D σ H hw=>ig rfl nd (d6 hl) σ H _ (i0 hni hsj D σ H hw)
theorem An (j:Nat)(ls:List Nat)(is:List Nat)(cl:List (Str×Addr))(ys:List Str){z:Str}{pz spos:Pos}{xx:M.X}{i t t':Nat}(hi:PI X (.Tuple [.Name x px,.Name y py] kt pt) iter (wI X.K sf C 2 k src))(hcd:∀ Ca s H fp,SB (av X ([x,y]++ys) scope cl Ca s H fp) (inF [t,t'] ls) C cnd cd)(he:∀ Ca s H fp,SE (av X ([x,y]++ys) scope cl Ca s H fp) (inF [t,t'] ls) C elt e)
  (S:aH [x,y] ys scope) (hcl:Clo X cl) (fr:Frees X scope cl ys is) (hN:X.N.Nodup) (hni:i ∉ io:=by decide) (hsj:sf i=some j:=by rfl) (hj:X.N[j]?=some z:=by rfl) (hz:L2.Loc X.env.scope z:=by first | exact a0r rfl | exact a0n rfl)
  (hsw:swapsWith (.ListComp elt [⟨(.Tuple [.Name x px,.Name y py] kt pt),iter,[cnd],0⟩] scope pos) (some (.Name z pz)) spos.line X.env=pure true:=by rfl) (hc:X.calm=true:=by rfl) (hl:ls.map sf=is.map some:=by rfl) (nd:[t,t'].Nodup:=by decide)
  (hclos:closureFor scope X.env=pure cl:=by with_unfolding_all rfl) (hfr:(scope.names.all fun p=>p.2 != .free || (cl.lookup p.1).isSome)=true:=by rfl)
  (hs:∀ v,foldedSetIterable iter X.env v=pure v:=by intro _; rfl) (hfn:X.fn z=true\/X.env.scope.names.lookup z=some .local:=by first | exact .inl rfl | exact .inr rfl):SS X sf io C (.Assign [.Name z pz] (.ListComp elt [⟨(.Tuple [.Name x px,.Name y py] kt pt),iter,[cnd],0⟩] scope pos) spos) (.asg xx i (.comp h k src [t,t'] (some cd) e)) :=
 cN (j4 (pre:=[x,y]) hN hj hz hsw hc hi (yI hc S) (fun Ca s H fp=>he Ca s H fp) (fun Ca s H fp=>hcd Ca s H fp) hclos S hcl hfr fr hs hfn) fun D σ H hw=>lV rfl nd (d6 hl) σ H _ (i0 hni hsj D σ H hw)
end
end
end MR

namespace MR
open PySem PySem.Spec PyProof.Rows L2 L3
section
variable {P:Program}{w:World}{K:a0a}{mg:Str->Option Value}{base:Heap}
theorem hI {C:M.Call}{g:Nat}{io:List Nat}{vs:List V}{H:Hp}{Q:VK}{E:XK}(hC:∀ ws,C g ws=.no)(h:spS K C g io vs H Q E):False:=by
 obtain ⟨Z,ws,G,w,bs,_,_,_,e,_⟩:=h
 rw [hC] at e
 cases e
theorem fn0 {f:Addr}{fd:FuncData}{ps:List Str}{k g:Nat}{io:List Nat}{C:M.Call}(hC:∀ ws,C g ws=.no):c8 P w K mg base CX0 k f fd ps (spS K C g io) :=
 ⟨fun _ _ _ _ h=>(hI hC h).elim,fun _ _ _ _ _ _ _ _ _ _ _ _ _ h=>(hI hC h).elim⟩
theorem iI {Z:Fp}{H:Hp}{a:Addr}{ns:List Int}(hO:ll H)(hl:ns.length<=63)(h:SqL K H a (ns.map V.int)):Rep K Z H .d (.scr ns) (.ref a) no:=by
 refine ⟨a,rfl,a0m hl (by decide),?_⟩
 rcases h with (z | ⟨o,z⟩) | z
 ·rcases hO a with y | ⟨o,xs,y⟩<;>rw [y] at z<;>cases z
 ·exact .inl ⟨o,z⟩
 ·exact .inr (.inr z)
theorem uo {H:Hp}{a:Addr}{ns:List Int}{C:M.Call}{ix:Nat}(hp:∃ m bs,C ix [(.d,.scr ns)]=.ok ((m,.bl true),bs))(hl:ns.length<=63)(hO:ll H)(h:SqL K H a (ns.map V.int)):spS K C ix [] [.ref a] H (fun v _=>v=.bl true) fun _ _ _=>False:=by
 obtain ⟨m,bs,e⟩:=hp
 exact ⟨no,[(.d,.scr ns)],no,(m,.bl true),bs,RepW.one (iI hO hl h),bP,fun _ z=>z.elim,e,fun v Z' H' G1 G2 r _ _ _ _=>r⟩
end
end MR

namespace MR
open PySem PySem.Spec PyProof.Rows L2 L3
structure SBs (as:List Addr)(H H':Hp):Prop where
 keep:∀ b u,b ∉ as->H b=some u->H' b=some u
 al:∀ b,H b≠none->H' b≠none
instance {as:List Addr} {H H':Hp}:CoeFun (SBs as H H') (fun _=>∀ b u,b ∉ as->H b=some u->H' b=some u):=⟨fun s=>s.keep⟩
end MR

namespace MR
open PySem PySem.Spec PyProof.Rows L2 L3
section
variable {X:Cx}{sf sg:Nat->Option Nat}{io:List Nat}{C:M.Call}{pos p2:Pos}{ea eb ec:Expr}{a b c:M.E}{h:Bool}{n:Nat}
theorem ui {rest:List Expr}{ta tb:TE}(ha:PE X ea ta)(hb:PE X (.BoolOp .Or (eb::rest) pos) tb):PE X (.BoolOp .Or (ea::eb::rest) pos) (fun σ H Q=>ta σ H fun x H1=>∃ k,n4 X.K x H1 k/\if k=true then Q x H1 else tb σ H1 Q):=by
 intro pins s σ H Q I h
 refine BoolOp_or (thn (ha pins s σ H _ I h) fun v s1 ⟨x,H1,I1,r1,q1⟩=>?_)
 refine thn (iH pins s1 σ H1 x v (fun k H2=>if k=true then Q x H2 else tb σ H2 Q) I1 r1 q1) fun k s2 ⟨H2,I2,q2⟩=>?_
 cases k with
 | false=>exact hb pins s2 σ H2 Q I2 (by rw [if_neg a0h] at q2; exact q2)
 | true=>exact ⟨x,H2,I2,r1,by rw [if_pos rfl] at q2; exact q2⟩
theorem vO1 (ha:SE X sf C ea a):SE X sf C (.BoolOp .Or [ea] pos) a:=uD ha
theorem vOr {rest:List Expr}(ha:SE X sf C ea a)(hb:SE X sf C (.BoolOp .Or (eb::rest) pos) b):SE X sf C (.BoolOp .Or (ea::eb::rest) pos) (.or a b):=aG (ui ha hb) fun σ H Q h=>by
 obtain ⟨pv,Z,Fs,η,w,η',A,ev,k⟩:=ym σ H Q h
 exact ⟨pv,Z,Fs,η,w,η',A,ev,fun v Z' H' Fs' G B r s=>let ⟨c,t,q⟩:=k v Z' H' Fs' G B r s; ⟨c,fO t,q⟩⟩
theorem sBW (h:SE X sf C ea a):SE X sf C ea a:=h
theorem kj {K:a0a}:Loc K 1 .tuple h fun xs H Q=>∃ p ys,xs=[.ref p]/\((SqL K H p ys/\∀ l,H l=none->Q (.ref l) (upd H l (.tup ys)))\/(SqT K H p ys/\Q (.ref p) H)):=by
 intro ws w xs Z H G Q hn e r ow za k
 obtain ⟨⟨m,a⟩,rfl⟩:∃ a,ws=[a]:=by match ws,hn with | [a],_=>exact ⟨a,rfl⟩
 obtain ⟨x,rfl,r1⟩:=bw rfl r
 cases a with
 | lst ts =>
  obtain ⟨p,ys,rfl,hs,hl,q⟩:=br r1
  cases e
  exact ⟨p,ys,rfl,.inl ⟨SqL.of hs,fun l hl'=>jh (m:=m.kid.up) (G':=G) ow (fun _ z=>z) hl (by rw [dk]; exact q.zmono fun _ z=>.inl z) k hl'⟩⟩
 | tup ts =>
  obtain ⟨p,ys,rfl,hs,hl,q⟩:=b9 r1
  cases e
  exact ⟨p,ys,rfl,.inr ⟨hs,eD ow k r1⟩⟩
 | _=>cases e
theorem tM {p:Pos}(hm:X.mg "tuple"=none)(hg:Gl X "tuple":=by rfl)(ha:SE X sf C ea a)(hs:starEach [ea] X.env=(false,eval ea X.env)::starEach [] X.env:=by rfl)(hpl:(backTo pos (starEach [] X.env)).any (·.1)=false:=by rfl):SE X sf C (.Call (.Name "tuple" p) [ea] [] pos) (.op .tuple h [a]) :=
 aG (cI eW hg hm a2O (slc ha sl0 hs) (by decide) (by decide) hs hpl) (dz kj rfl)
end
end MR

namespace MR
open PySem PySem.Spec PyProof.Rows L2 L3
end MR

namespace MR
open PySem PySem.Spec PyProof.Rows L2 L3
section
variable {X:Cx}{sf sg:Nat->Option Nat}{io:List Nat}{C:M.Call}{pos p2:Pos}{ea eb ec:Expr}{a b c:M.E}{h:Bool}{n:Nat}
theorem rl {tg:Expr}(ha:SE X sf C ea a):PI X tg ea (wI X.K sf C 2 .sq2 [a]):=jb (jl ha) sY
end
end MR

namespace MR
open PySem PySem.Spec PyProof.Rows L2 L3
section
variable {X:Cx}{sf sg:Nat->Option Nat}{C:M.Call}{pos p2 p3:Pos}{ea eb ec:Expr}{a b c:M.E}{h:Bool}{n:Nat}{io:List Nat}
noncomputable def rG (K:a0a)(H:Hp):List Nat->V->V->Prop
 | [],v,u=>u=v
 | j::p,v,u=>∃ a xs x,v=.ref a/\(SqL K H a xs\/SqT K H a xs)/\xs[j]?=some x/\rG K H p x u
noncomputable def wP (K:a0a)(sf:Nat->Option Nat)(i:Nat)(p:List Nat):TE:=fun σ H Q=>∃ j v u,sf i=some j/\σ[j]?=some (some v)/\rG K H p v u/\Q u H
noncomputable abbrev SP (X:Cx)(sf:Nat->Option Nat)(me:Expr)(i:Nat)(p:List Nat):Prop:=PE X me (wP X.K sf i p)
noncomputable def wR (Fs:Fps)(i:Nat)(G:Fp):Fps:=fun l a=>(l=i/\G a)\/(l≠i/\Fs l a)
noncomputable def CstR (K:a0a)(t:M.T)(v:V):Prop:=∀ (Z:Fp) (H:Hp),Rep K Z H .s t v no
theorem cst_int {K:a0a}(i:Int):CstR K (.int i) (.int i):=fun _ _=>rfl
theorem cst_non {K:a0a}:CstR K .non .non:=fun _ _=>rfl
theorem cst_bl {K:a0a}(b:Bool):CstR K (.bl b) (.bl b):=fun _ _=>rfl
theorem cst_str {K:a0a}{x:Str}(h:M.sOk x=true):CstR K (.str x) (.str x):=fun _ _=>⟨rfl,h⟩
noncomputable def uY (K:a0a)(w:World)(mg:Str->Option Value)(x:Str)(ks:List Str):Prop:=∃ a T,mg x=some (.ref a)/\DTab K w a T/\∀ z,(T.lookup z).isSome=ks.contains z
theorem vS {K:a0a}{w:World}{ad:Addr}{T:List (Str×V)}{ks:List Str}{e:M.E}{neg:Bool}(D:DTab K w ad T)(ht:∀ z,(T.lookup z).isSome=ks.contains z)(σ:L2.St)(H:Hp)(Q:VK)(h:wE K sf C (.inT neg ks e) σ H Q) :
  wE K sf C e σ H fun x H1=>∃ z a T',x=.str z/\V.ref ad=.ref a/\DTab K w a T'/\Q (.bl ((T'.lookup z).isSome != neg)) H1:=by
 obtain ⟨pv,Z,Fs,η,w',η',A,ev,k⟩:=h
 obtain ⟨⟨u,η1⟩,h1,h2⟩:=ae (show (M.evE C e η).bind (M.kIn neg ks)=_ from ev)
 obtain ⟨z,e1,e2,e3⟩:=fZ h2
 cases e2
 refine ⟨pv,Z,Fs,η,u,_,A,h1,fun y Z' H' Fs' G B r s=>?_⟩
 obtain ⟨m,t0⟩:=u
 cases (show t0=_ from e1)
 refine ⟨z,ad,T,r.1,rfl,D,?_⟩
 rw [ht z]
 refine k _ Z' H' Fs' no B.bare ?_ (s.mono (fun _ z=>z) fun a ha=>ha.elim .inl fun z=>z.elim)
 rw [show w'=_ from e3]; rfl
end
end MR

namespace MR
open PySem PySem.Spec PyProof.Rows L2 L3
theorem fsc {N P:List Str}{sc:Scope}(h1:sc.kind=.function:=by rfl)(h2:sc.isCoroutine=false:=by rfl)(h3:sc.isGenerator=false:=by rfl)(h4:N.Nodup:=by decide +kernel)(h5:N.take P.length=P:=by rfl)(h6:∀ x∈P,sc.names.lookup x=some .local\/sc.names.lookup x=some .cell:=by decide +kernel)(h7:∀ y∈sc.names,y.2≠.free:=by decide +kernel):au N P sc:=⟨h1,h2,h3,h4,h5,h6,h7⟩
theorem csc {pre ys:List Str}{scope:Scope}(h1:scope.kind=.function:=by rfl)(h2:∀ y∈scope.names,y.2≠.cell:=by decide +kernel)(h3:∀ y∈scope.names,y.2=.local->scope.names.lookup y.1=some .local:=by decide +kernel)(h4:∀ x∈pre,scope.names.lookup x=some .local:=by decide +kernel)(h5:(pre++ys).Nodup:=by decide +kernel):aH pre ys scope:=⟨h1,h2,h3,h4,h5⟩
section
variable {P:Program}{w:World}{K:a0a}{mg:Str->Option Value}{base:Heap}{x:Str}{st:Stmt}{ps N:List Str}{n g:Nat}{io:List Nat}{C C':M.Call}{d:Value}{t:M.T}
structure Df (K:a0a)(mg:Str->Option Value)(x:Str)(st:Stmt)(ps:List Str):Prop where
 ex:∃ f fd,Fun K x x st f fd/\Binds K fd ps []/\mg x=some (.ref f)
theorem Df.ok (e:Df K mg x st ps)(h:∀ f fd,Fun K x x st f fd->c8 P w K mg base CX0 n f fd ps (spS K C g io)):ai P w K mg base n C x g io:=by
 obtain ⟨f,fd,F,b,m⟩:=e.ex
 exact ⟨f,fd,ps,h f fd F,m,F.kp,b⟩
theorem Df.z (e:Df K mg x st ps)(hC:∀ ws,C g ws=.no:=by intro _; rfl):ai P w K mg base n C x g io:=e.ok fun _ _ _=>fn0 hC
theorem Df.s (fn:M.Fn)(e:Df K mg x st ps)(S:au N ps (defScope st))
  (hb:∀ {f:Addr} {cdv:Value} {A:Around} {outer:List Env} {s:Shared} {H:Hp} {E:XK},Room n (A.deeper (envOfC x (defScope st) s.heap.objs.size f cdv))->SSs (fM CX0 P w K mg base N x (defScope st) f cdv A outer s H E).nox (slN N.length) fn.io C (defBody st) fn.body)
  (hC:∀ ws,C' g ws=M.runF C fn ws:=by intro _; rfl) (hps:fn.ps=ps.length:=by rfl) (hle:ps.length<=N.length:=by decide) (nd:fn.io.Nodup:=by decide) (hio:∀ i∈fn.io,i < ps.length:=by decide):ai P w K mg base (n+1) C' x g fn.io :=
 e.ok fun _ _ F=>Fun.okM F S hps hle nd hio (fun _ _ _ _ _ _ h=>hb h) hC
noncomputable def Raw (K:a0a)(x:Str)(st:Stmt)(dV:Value):Prop:=∃ f oc od sl kV dc pm an cd ct,a1E K mainGlobals x=some (some (.ref f))/\K.lookup f=some ⟨oc,od,.func (a03 x x (defArgs st) (defBody st) (defScope st) dV kV dc pm an cd ct),sl⟩/\a1I K cd x=true/\a1r K (.ref f)=true
theorem aY {h:Heap}(X:K.In h)(G:h.Ns mainGlobals mg)(r:Raw K x st .none)(hb:∀ (kV doc pm:Value) (an:Option Addr) (cdv ct:Value) (us:List Value),us.length=ps.length->bindArgs (a03 x x (defArgs st) (defBody st) (defScope st) .none kV doc pm an cdv ct) ⟨us,[]⟩=pure (ps.zip us)):Df K mg x st ps:=by
 obtain ⟨f,oc,od,sl,kV,dc,pm,an,cd,ct,h1,h2,h3,h4⟩:=r
 have F:=lM (st:=st) h2 h3 h4
 exact ⟨f,_,F,F.binds hb,a1R X G h1⟩
noncomputable def sU (K:a0a):List Str->Prop
 | []=>True
 | x::r=>a1E K mainGlobals x=some none/\sU K r
theorem sG {h:Heap}(X:K.In h)(G:h.Ns mainGlobals mg)(r:sU K ["isinstance","int","tuple","list","bool","sum","len","all","zip","range","enumerate","any","max","min","sorted","str","repr","abs","dict","set","reversed"]):Txt mg:=by
 obtain ⟨z1,z2,z3,z4,z5,z6,z7,z8,z9,z10,z11,z12,z13,z14,z15,z16,z17,z18,z19,z20,z21,_⟩:=r
 have m:=fun {x:Str} (z:a1E K mainGlobals x=some none)=>PySem.W.mg_none_of X G z
 exact ⟨m z1,m z2,m z3,m z4,m z5,m z6,m z7,m z8,m z9,m z10,m z11,m z12,m z13,m z14,m z15,m z16,m z17,m z18,m z19,m z20,m z21⟩
noncomputable def TabRaw (K:a0a)(w:World)(x:Str)(T:List (Str×V)):Prop:=∃ a es n,a1E K mainGlobals x=some (some (.ref a))/\K.lookup a=some ⟨.type "dict",none,.dict es n,#[]⟩/\a2F w.params es.toList/\Paired (fun (p:Str×V) (e:DictEntry)=>(∃ t,e.key=.str p.1 t)/\RelV p.2 e.val) T es.toList/\(a==sysModules)=false
theorem TabRaw.tab {h:Heap}{T:List (Str×V)}(X:K.In h)(G:h.Ns mainGlobals mg)(r:TabRaw K w x T):∃ a,mg x=some (.ref a)/\DTab K w a T:=by
 obtain ⟨a,es,n,h1,h2,h3,h4,h5⟩:=r
 exact ⟨a,a1R X G h1,⟨es,n,h2,h3,h4⟩,h5⟩
theorem fw (z:Str):∀ T:List (Str×V),(T.lookup z).isSome=(T.map a18).contains z
 | []=>rfl
 | (k,v)::T=>by
  rw [a1g,a0C,List.contains_cons]
  cases z==k with
  | true=>rfl
  | false=>rw [fw z T]; rfl
theorem oJ {h:Heap}{T:List (Str×V)}{ks:List Str}(X:K.In h)(G:h.Ns mainGlobals mg)(r:TabRaw K w x T)(hk:T.map a18=ks):uY K w mg x ks:=by
 obtain ⟨a,h1,h2⟩:=r.tab X G
 exact ⟨a,T,h1,h2,fun z=>by rw [fw,hk]⟩
end
end MR

namespace MR
open PySem PySem.Spec PyProof.Rows L2 L3
section
variable {X:Cx}{sf sg:Nat->Option Nat}{C:M.Call}{pos p p2 p3:Pos}{ea eb ec:Expr}{a b c:M.E}{h:Bool}{n:Nat}{io:List Nat}{K:a0a}
theorem qK:Loc K 1 .any h fun xs H Q=>∃ (a:Addr) (bs:List Bool),xs=[.ref a]/\SqL K H a (bs.map V.bl)/\Q (.bl (bs.any id)) H:=by
 intro ws w xs Z H G Q hn e r ow za k
 match ws,hn with
 | [(m,a)],_ =>
  obtain ⟨x,rfl,r1⟩:=bw rfl r
  cases a with
  | lst ts =>
   obtain ⟨a,xs,hx,hs,hl,p⟩:=br r1
   have e':(M.boolsOf ts).map (fun ns=>((.d,.bl (ns.any id)):M.W))=some w:=e
   cases e1:M.boolsOf ts with
   | none=>rw [e1] at e'; cases e'
   | some ns =>
    rw [e1] at e'; cases e'
    rw [fH e1 p] at hs
    exact ⟨a,ns,by rw [hx],.inl (.inl hs),bL k⟩
  | _=>cases e
theorem Bc (hc:X.calm=true:=by rfl)(hm:X.mg "any"=none)(hg:Gl X "any":=by rfl)(ha:SE X sf C ea a)(hs:starEach [ea] X.env=(false,eval ea X.env)::starEach [] X.env:=by rfl)(hpl:(backTo pos (starEach [] X.env)).any (·.1)=false:=by rfl):SE X sf C (.Call (.Name "any" p) [ea] [] pos) (.op .any h [a]) :=
 aG (cx (kv hc) hg hm (by rfl) (slc ha sl0 hs) (by decide) (by decide) hs hpl) (dz qK rfl)
theorem pe:Loc K 1 .int h fun xs H Q=>(∃ i,xs=[.int i]/\Q (.int i) H)\/∃ k,xs=[.bl k]/\Q (.int (if k then 1 else 0)) H:=by
 intro ws w xs Z H G Q hn e r ow za k
 match ws,hn with
 | [(m,a)],_ =>
  obtain ⟨x,rfl,r1⟩:=bw rfl r
  cases a with
  | int i=>cases e; exact .inl ⟨i,by rw [show x=_ from r1],aO k⟩
  | bl b=>cases e; exact .inr ⟨b,by rw [show x=_ from r1],by cases b<;>exact aO k⟩
  | _=>cases e
theorem xN (hm:X.mg "int"=none)(hg:Gl X "int":=by rfl)(ha:SE X sf C ea a)(hs:starEach [ea] X.env=(false,eval ea X.env)::starEach [] X.env:=by rfl)(hpl:(backTo pos (starEach [] X.env)).any (·.1)=false:=by rfl):SE X sf C (.Call (.Name "int" p) [ea] [] pos) (.op .int h [a]) :=
 aG (cI ka hg hm a2Y (slc ha sl0 hs) (by decide) (by decide) hs hpl) (dz pe rfl)
theorem c6 {Z:Fp}{H:Hp}{G:Fp}{m:M.Md}{t:M.T}{x:V}(hf:M.flatT t=true)(r:Rep K Z H m t x G):cM x=true/\∀ (u:M.T) (y:V) {m':M.Md} {G':Fp},M.flatT u=true->Rep K Z H m' u y G'->eqV y x=M.eqT u t:=by
 cases t with
 | non=>cases r; refine ⟨rfl,fun u y m' G' hu ru=>?_⟩; cases u<;>first | (cases ru; rfl) | (obtain ⟨e,_⟩:=ru; cases e; rfl) | cases hu
 | bl b=>cases r; refine ⟨rfl,fun u y m' G' hu ru=>?_⟩; cases u<;>first | (cases ru; rfl) | (cases ru; cases b<;>rfl) | (obtain ⟨e,_⟩:=ru; cases e; rfl) | cases hu
 | int i=>cases r; refine ⟨rfl,fun u y m' G' hu ru=>?_⟩; cases u with
  | bl c=>cases ru; cases c<;>rfl
  | _=>first | (cases ru; rfl) | (obtain ⟨e,_⟩:=ru; cases e; rfl) | cases hu
 | str z=>obtain ⟨e,_⟩:=r; cases e; refine ⟨rfl,fun u y m' G' hu ru=>?_⟩; cases u<;>first | (cases ru; rfl) | (obtain ⟨e,_⟩:=ru; cases e; rfl) | cases hu
 | _=>cases hf
theorem iz {Z:Fp}{H:Hp}{G:Fp}{m:M.Md}{t:M.T}{x:V}(hf:M.flatT t=true)(r:Rep K Z H m t x G):∀ {ts:List M.T} {xs:List V} {m':M.Md} {G':Fp},ts.all M.flatT=true->RepL K Z H m' ts xs G'->xs.all cM=true/\L2.inV x xs=ts.any fun u=>M.eqT u t
 | [],_,_,_,_,h=>by cases h; exact ⟨rfl,rfl⟩
 | u::ts,_,m',_,hl,⟨y,ys,G1,G2,e,_,_,_,q,qs⟩=>by
  cases e
  rw [a1b,a0i] at hl
  obtain ⟨h1,h2⟩:=iz hf r hl.2 qs
  refine ⟨by rw [a1b,(c6 hl.1 q).1,h1]; rfl,?_⟩
  show (eqV y x || L2.inV x ys)=_
  rw [a1Q,h2,(c6 hf r).2 u y hl.1 q]
theorem lQ {neg:Bool}{u v w:M.W}{o:M.Op}(ho:o=if neg then .notin else .isin)(e:M.oSem o h [u,v]=some w):∃ ts,M.elems v=some ts/\M.flatT u.2=true/\ts.all M.flatT=true/\w=(.d,.bl (if neg then !ts.any (fun t=>M.eqT t u.2) else ts.any fun t=>M.eqT t u.2)):=by
 obtain ⟨m,a⟩:=u; obtain ⟨n,b⟩:=v
 subst ho
 cases neg with
 | true =>
  obtain ⟨ts,h1,h2⟩:=a1S.mp (show (M.elems (n,b)).bind (fun ts=>if (M.flatT a&&ts.all M.flatT)=true then some ((.d,.bl (!ts.any fun t=>M.eqT t a)):M.W) else none)=some w from e)
  split at h2
  ·rename_i hh; rw [a0i] at hh; cases h2; exact ⟨ts,h1,hh.1,hh.2,rfl⟩
  ·cases h2
 | false =>
  obtain ⟨ts,h1,h2⟩:=a1S.mp (show (M.elems (n,b)).bind (fun ts=>if (M.flatT a&&ts.all M.flatT)=true then some ((.d,.bl (ts.any fun t=>M.eqT t a)):M.W) else none)=some w from e)
  split at h2
  ·rename_i hh; rw [a0i] at hh; cases h2; exact ⟨ts,h1,hh.1,hh.2,rfl⟩
  ·cases h2
theorem mB (neg:Bool){o:M.Op}(ho:o=if neg then .notin else .isin):Loc K 2 o h fun xs H Q=>∀ x y,xs=[x,y]->rIn K neg x y H Q:=by
 intro ws w xs Z H G Q hn e r ow za k x y hx
 subst hx
 obtain ⟨⟨m,a⟩,⟨n,b⟩,rfl⟩:=cY r.length.symm
 obtain ⟨G1,G2,w1,w2,d,r1,r2⟩:=bO r
 obtain ⟨ts,e1,e2,e3,rfl⟩:=lQ ho e
 cases b with
 | lst us =>
  cases e1
  obtain ⟨p,xs,rfl,hs,hl,q⟩:=br r2
  obtain ⟨f1,f2⟩:=iz e2 r1 e3 q
  refine ⟨p,xs,rfl,.inl (.inl (.inl hs)),(c6 e2 r1).1,f1,?_⟩
  rw [f2]
  exact bL k
 | tup us =>
  cases e1
  obtain ⟨p,xs,rfl,hs,hl,q⟩:=b9 r2
  obtain ⟨f1,f2⟩:=iz e2 r1 e3 q
  refine ⟨p,xs,rfl,.inr hs,(c6 e2 r1).1,f1,?_⟩
  rw [f2]
  exact bL k
 | _=>cases e1
theorem q9 (ha:SE X sf C ea a)(hb:SE X sf C eb b)(hm:behindInMarks .In eb=false:=by rfl):SE X sf C (.Compare ea [.In] [eb] pos) (.op .isin h [a,b]):=aG (jF fg ha hb hm) (aN (mB false rfl))
theorem l6 (ha:SE X sf C ea a)(hb:SE X sf C eb b)(hm:behindInMarks .In eb=false:=by rfl):SB X sf C (.Compare ea [.In] [eb] pos) (.op .isin h [a,b]):=b5 fg ha hb hm (aN (mB false rfl)) fun u v w e=>by obtain ⟨_,_,_,_,rfl⟩:=lQ (neg:=false) rfl e; exact ⟨_,rfl⟩
end
end MR
namespace MR
open PySem PySem.Spec PyProof.Rows L2 L3
end MR
namespace MR
open PySem PySem.Spec PyProof.Rows L2 L3
end MR
namespace MR
open PySem PySem.Spec PyProof.Rows L2 L3
section
variable {X:Cx}{sf sg:Nat->Option Nat}{C:M.Call}{pos p p2 p3:Pos}{ea eb ec:Expr}{a b c:M.E}{h:Bool}{io:List Nat}{K:a0a}
theorem uj {x y:Int}(h:y.natAbs < 18446744073709551616):Builtin.divisionGoesByPylong x y=false:=by
 refine PyProof.noPylong_of_log2 ?_
 by_cases h0:y.natAbs=0
 ·rw [h0]; decide +kernel
 ·have h30:y.natAbs.log2 < 64:=(Nat.log2_lt h0).mpr h
  omega
theorem mW:OpR X (binaryOp .FloorDiv) (rI (fun _ j=>j≠0/\j.natAbs < 18446744073709551616) fun i j=>.int (i.fdiv j)):=opI fun _ _ _ _ _ _ _ hc q=>floordiv_int hc.1 q (.inl (uj hc.2))
theorem jH:Loc K 2 .fdivN h fun xs H Q=>∀ x y,xs=[x,y]->rI (fun _ j=>j≠0/\j.natAbs < 18446744073709551616) (fun i j=>.int (i.fdiv j)) x y H Q:=by
 intro ws w xs Z H G Q hn e r ow za k x y hx
 subst hx
 obtain ⟨⟨m,a⟩,⟨n,b⟩,rfl⟩:=cY r.length.symm
 obtain ⟨G1,G2,w1,w2,d,r1,r2⟩:=bO r
 cases a with
 | int i =>
  cases b with
  | int j =>
   have e':(if ((j != 0)&&decide (j.natAbs < 18446744073709551616))=true then some ((.d,.int (i.fdiv j)):M.W) else none)=some w:=e
   split at e'
   ·rename_i hc
    rw [a0i,decide_eq_true_eq,bne_iff_ne] at hc
    cases e'
    exact ⟨i,j,r1,r2,hc,aO k⟩
   ·cases e'
  | _=>cases e
 | _=>cases b<;>cases e
theorem lN:Loc K 2 .modN h fun xs H Q=>∀ x y,xs=[x,y]->rI (fun _ j=>j≠0) (fun i j=>.int (i.fmod j)) x y H Q:=by
 intro ws w xs Z H G Q hn e r ow za k x y hx
 subst hx
 obtain ⟨⟨m,a⟩,⟨n,b⟩,rfl⟩:=cY r.length.symm
 obtain ⟨G1,G2,w1,w2,d,r1,r2⟩:=bO r
 cases a with
 | int i =>
  cases b with
  | int j =>
   have e':(if (j != 0)=true then some ((.d,.int (i.fmod j)):M.W) else none)=some w:=e
   split at e'
   ·rename_i hc
    rw [bne_iff_ne] at hc
    cases e'
    exact ⟨i,j,r1,r2,hc,aO k⟩
   ·cases e'
  | _=>cases e
 | _=>cases b<;>cases e
theorem l7 (ha:SE X sf C ea a)(hb:SE X sf C eb b):SE X sf C (.BinOp ea .FloorDiv eb pos) (.op .fdivN h [a,b]):=aG (c5 mW ha hb) (aN jH)
theorem dw (ha:SE X sf C ea a)(hb:SE X sf C eb b):SE X sf C (.BinOp ea .Mod eb pos) (.op .modN h [a,b]):=aG (c5 qL ha hb) (aN lN)
end
end MR
namespace MR
open PySem PySem.Spec PyProof.Rows L2 L3
section
variable {X:Cx}{sf sg:Nat->Option Nat}{C:M.Call}{pos p p2 p3:Pos}{ea eb ec:Expr}{a b c:M.E}{h:Bool}{io:List Nat}{K:a0a}
theorem rU {neg:Bool}{ks:List Str}{σ:L2.St}{H:Hp}{Q:Bool->Hp->Prop}(hw:wT K sf C (.inT neg ks a) σ H Q):wE K sf C (.inT neg ks a) σ H fun x H'=>∃ k,x=.bl k/\Q k H':=by
 obtain ⟨pv,Z,Fs,η,w,η',b,A,ev,ht,k⟩:=hw
 refine ⟨pv,Z,Fs,η,w,η',A,ev,fun v Z' H' Fs' G B r s=>?_⟩
 obtain ⟨⟨u,η1⟩,h1,h2⟩:=ae (show (M.evE C a η).bind (M.kIn neg ks)=_ from ev)
 obtain ⟨z,e1,e2,e3⟩:=fZ h2
 rw [show w=_ from e3] at ht r
 cases ht
 exact ⟨_,r,k Z' H' Fs' B.bare (s.mono (fun _ z=>z) fun _ z=>.inl z)⟩
theorem zF {x:Str}{ks:List Str}(T:uY X.K X.w X.mg x ks)(ha:SE X sf C ea a)(hg:Gl X x:=by rfl)(hd:(x==("__debug__":Str))=false:=by decide)(hb:behindInMarks .In (.Name x p2)=false:=by rfl):SB X sf C (.Compare ea [.In] [.Name x p2] pos) (.inT false ks a):=by
 obtain ⟨ad,T',hm,D,ht⟩:=T
 refine jw (jA lh ha (tU hg hm hd) hb) fun σ H Q hw=>?_
 obtain ⟨pv,Z,Fs,η,w',η',A,ev,k⟩:=vS D ht σ H _ (rU hw)
 refine ⟨pv,Z,Fs,η,w',η',A,ev,fun v Z' H' Fs' G B r s=>?_⟩
 obtain ⟨z,a,T2,e1,e2,e3,q⟩:=k v Z' H' Fs' G B r s
 rw [a2d] at q
 exact ⟨z,a,T2,e1,e2,e3,q⟩
end
end MR

namespace MR
open PySem PySem.W L2 M
noncomputable def CstRs (K:a0a)(ts:List M.T)(xs:List V):Prop:=∀ (Z:Fp) (H:Hp),RepL K Z H .s ts xs no
theorem cst_nil {K:a0a}:CstRs K [] []:=fun _ _=>rfl
theorem cst_cons {K:a0a}{t:M.T}{ts:List M.T}{x:V}{xs:List V}(h:CstR K t x)(r:CstRs K ts xs):CstRs K (t::ts) (x::xs):=fun Z H=>⟨x,xs,no,no,rfl,fun _ h=>h,fun _ h=>h,fun _ h=>h.elim,h Z H,r Z H⟩
theorem cst_tup {K:a0a}{ts:List M.T}{xs:List V}{a:Addr}{o:Obj}{its:Array Value}{n:Nat}(h:K.lookup a=some o)(hc:o.cls=.type "tuple")(hd:o.data=.seq its n)(hs:its.size<=sizeLine)(hv:Vals xs its.toList)(hl:xs.length<=LIM)(r:CstRs K ts xs):CstR K (.tup ts) (.ref a):=fun Z H=>⟨a,xs,rfl,.inr ⟨o,its,n,h,hc,hd,hs,hv⟩,hl,r Z H⟩
end MR

namespace MR
open PySem PySem.Spec PyProof.Rows L2 L3 M
section
variable {X:Cx}{sf sg:Nat->Option Nat}{C:M.Call}{pos p p2 p3:Pos}{io:List Nat}{K:a0a}{tg:List Nat}
theorem qF {n:Nat}{k:Ik}{src:List M.E}{js:List Nat}{body:List M.S}(hn:tg.length=n)(nd:tg.Nodup)(hio:∀ t∈tg,t ∉ io)(hjs:tg.map sf=js.map some)(D:b6)(σ:L2.St)(H:Hp)(h:wS K sf io C (.forU k src tg body) D σ H) :
  tI (wI K sf C n k src) (gF K js) (wSs K sf io C body) D σ H:=by
 obtain ⟨pv,Z,Fs,η,N,A,f⟩:=h
 obtain ⟨⟨ws,η2⟩,h1,h2⟩:=bq (show Fin K ⟨sf,pv⟩ Z H (tot Fs) D (Fl.of η (evL C src η) (jq k tg (evSs C body))) from f)
 obtain ⟨⟨ts,η3⟩,h3,h4⟩:=bq (show Fin K ⟨sf,pv⟩ Z H (tot Fs) D (Fl.of η2 (M.ret η2 (bC k ws)) (il tg (evSs C body))) from h2)
 obtain ⟨ts',ht,e3⟩:=aF h3
 have e4:ts=ts':=congrArg a18 e3
 have e5:η3=η2:=congrArg a1x e3
 subst e4 e5
 have h4':Fin K ⟨sf,pv⟩ Z H (tot Fs) D (dH tg (evSs C body) ts η3):=h4
 refine ⟨pv,Z,Fs,η,ws,η3,ts,A,h1,ht,fun J Z1 H1 Fs1 B s wk yl=>?_⟩
 refine ⟨fun i m σ' H'=>m=ts.length-i/\i<=ts.length/\∃ Zi Fsi ηi,At K ⟨sf,pv⟩ σ' Zi H' Fsi ηi no/\Step Z1 H1 (tot Fs1) Zi H' (tot Fsi)/\Fin K ⟨sf,pv⟩ Zi H' (tot Fsi) D (dH tg (evSs C body) (ts.drop i) ηi),⟨ts.length,by simp,a0U _,_,_,_,B,Step.refl _ _ _,h4'.step s⟩,?_⟩
 rintro i m σi H0 ⟨rfl,hi,Zi,Fsi,ηi,Ai,si,fi⟩
 have st:Stay Z1 H1 H0:=B.gd.own.stay si
 by_cases hlt:i < ts.length
 ·right
  refine ⟨wk.go H0 i st hlt,_,fun σ' H' hw=>⟨ts.length-(i+1),by omega,hw⟩,fun x H' y=>?_⟩
  have hw:ts[i]?=some ts[i]:=by simp [hlt]
  rw [dn hw] at fi
  obtain ⟨ηb,hb,fb⟩:=bq (show Fin K ⟨sf,pv⟩ Zi H0 (tot Fsi) D (Fl.of ηi (ofO (aW tg ts[i] ηi)) fun η1=>Fl.turn (evSs C body η1) (dH tg (evSs C body) (ts.drop (i+1)))) from fi)
  refine gN hn nd N hio hjs (fun a h=>si.zm a h) st yl Ai hw (b8 hb) y fun σ2 H2 Fs2 A2 t2=>?_
  refine ⟨pv,Zi,Fs2,ηb,N,A2,gC (fb.step t2) fun η' σ' Z' H' Fs' _ f' A' s'=>⟨rfl,hlt,Z',Fs',η',A',(si.trans t2).trans s',f'.step s'⟩⟩
 ·left
  have hi':i=ts.length:=by omega
  subst hi'
  rw [a1V] at fi
  exact ⟨wk.stop H0 _ st (a0b _),fi σi Zi H0 Fsi Ai (Step.refl _ _ _)⟩
theorem rn (j:Nat){t:Nat}{x:Str}{px:Pos}{iter:Expr}{r:List Stmt}{s:List M.S}{k:M.Ik}{src:List M.E}(hN:X.N.Nodup)(hi:PI X (.Name x px) iter (wI X.K sf C 1 k src))(ha:SSs X sf io C r s)(hio:∀ u∈[t],u ∉ io:=by decide)(hjs:[t].map sf=[j].map some:=by rfl)(hj:X.N[j]?=some x:=by rfl)(hx:L2.Loc X.env.scope x:=by first | exact a0r rfl | exact a0n rfl)
  (hc:X.calm=true:=by rfl) (hp:PassesOwn (model X.prog X.w) X.A X.env X.xe:=by exact PassesOwn.never) (hf:X.fn x=true\/X.env.scope.names.lookup x=some .local:=by first | exact .inl rfl | exact .inr rfl) (hs:∀ x,foldedSetIterable iter X.env x=pure x:=by intro _; rfl):SS X sf io C (.For (.Name x px) iter r [] pos) (.forU k src [t] s) :=
 cN (iR hp hc hi (bY (i:=j) hN hj hx hf) ha hs) (qF rfl (by simp) hio hjs)
end
end MR

namespace L3
open PySem PySem.Spec PyProof.Rows L2
end L3
namespace MR
open PySem PySem.Spec PyProof.Rows L2 L3
end MR

namespace L3
open PySem PySem.Spec PyProof.Rows L2
end L3
namespace MR
open PySem PySem.Spec PyProof.Rows L2 L3
end MR

namespace L3
open PySem PySem.Spec PySem.NumText PyProof.Rows L2
end L3
namespace MR
open PySem PySem.Spec PyProof.Rows L2 L3
section
variable {X:Cx}{sf sg:Nat->Option Nat}{C:M.Call}{pos p p2 p3:Pos}{ea eb ec:Expr}{a b c:M.E}{h:Bool}{n:Nat}{io:List Nat}{K:a0a}
theorem nt {Z:Fp}{H:Hp}{m:M.Md}:∀ {ss:List Str},(∀ x∈ss,M.sOk x=true)->RepL K Z H m (ss.map M.T.str) (ss.map V.str) no
 | [],_=>rfl
 | x::ss,h=>⟨.str x,ss.map V.str,no,no,rfl,fun _ z=>z.elim,fun _ z=>z.elim,fun _ z=>z.elim,⟨rfl,h x a0o⟩,nt fun y hy=>h y (a0p _ hy)⟩
end
end MR

namespace L3
open PySem PySem.Spec PyProof.Rows L2
theorem iL {X:Cx}(hc:X.calm=true):cn X (.type "list") (fun xs H Q=>∃ x:Str,xs=[.str x]/\x.cps.size<=sizeLine/\∀ p,H p=none->Q (.ref p) (upd H p (.lst (x.cps.toList.map fun c=>V.str ⟨#[c]⟩)))):=by
 intro pins s σ H xs us Q I r h
 obtain ⟨x,rfl,hz,q⟩:=h
 obtain ⟨u,rfl,ru⟩:=dB r
 obtain ⟨t,rfl⟩:=ru
 refine call_list_str (I.ok.hd hc) x t (hn:=hz) fun h' tk acc' c' hk hS' hacc=>?_
 have hv:Vals (x.cps.toList.map fun c=>V.str ⟨#[c]⟩) acc'.toList:=by
  have key:∀ (l:List Nat) (us:List Value),us.length=l.length->(∀ (j:Nat) v,us[j]?=some v->∃ c u,l[j]?=some c/\v=Value.str ⟨#[c]⟩ u)->Vals (l.map fun c=>V.str ⟨#[c]⟩) us:=by
   intro l
   induction l with
   | nil=>intro us e _; rw [a1n.mp e]; exact .nil
   | cons c l ih =>
    intro us e k
    cases us with
    | nil=>cases e
    | cons v us =>
     obtain ⟨c',u,h1,h2⟩:=k 0 v rfl
     cases h1
     exact .cons ⟨u,h2⟩ (ih us (Nat.succ.inj e) fun j w hj=>k (j+1) w hj)
  refine key _ _ (by rw [a0D,a0D]; exact hacc.1) fun j v hv=>?_
  obtain ⟨c,u,hc,rfl⟩:=hacc.2 j v (by simpa using hv)
  exact ⟨c,u,by simpa using hc,rfl⟩
 exact ⟨.ref s.heap.objs.size,upd H s.heap.objs.size (.lst (x.cps.toList.map fun c=>V.str ⟨#[c]⟩)),I.laid (t':=tk) hk (a0b _) ⟨by rw [a0d,a0D]; exact hz,acc'.toList,c',hv,by rw [hS',a19]⟩,rfl,q _ I.fresh⟩
theorem ik:∀ (n:Nat) (a acc:Array Nat),((a0e n a).foldl (·++·) acc).toList=acc.toList++(a0e n a.toList).flatten
 | 0,a,acc=>by simp
 | n+1,a,acc=>by
  rw [a0I,a2D,ik n a (acc++a),a0I,a1c,Array.toList_append,a0X]
noncomputable def gi (x:Str)(k:Int):Str:=⟨(a0e k.toNat x.cps.toList).flatten.toArray⟩
theorem ot {X:Cx}:OpR X (binaryOp .Mult) (fun x y H Q=>∃ z k,x=.str z/\y=.int k/\(0<=k/\k<=100/\z.cps.size<=1000)/\Q (.str (gi z k)) H):=by
 intro pins s σ H x y v u Q I rx ry h
 obtain ⟨z,k,rfl,rfl,⟨h0,h1,h2⟩,q⟩:=h
 obtain ⟨t,rfl⟩:=rx
 obtain ⟨t',rfl⟩:=ry
 have hl:z.length<=1000:=h2
 have hm:z.length * k.toNat<=1000 * 100:=a2I hl (by omega)
 refine PySem.P.mul_str (by rw [decide_eq_false (by omega),decide_eq_false (by omega)]; rfl) (fun a b c=>?_) (fun a b=>?_) ?_
 ·have:(1:Int)<=k:=by omega
  have h3:((z.length:Nat):Int) * k<=1000 * 100:=Int.mul_le_mul (by omega) (by omega) (by omega) (by decide)
  have h4:((z.length:Nat):Int)<=(2 ^ 63-1) / k:=Int.le_ediv_of_mul_le (by omega) (Int.le_trans h3 (by decide))
  omega
 ·unfold Builtin.Str.tooLong
  exact decide_eq_false (by rw [sizeLine_eq]; omega)
 ·split
  ·have hk:k=0:=by omega
   subst hk
   exact ⟨by decide,.str _,H,I.tok _,⟨_,rfl⟩,q⟩
  ·split
   ·rename_i hb
    have e:gi z k=z:=by
     have hx:(a0e k.toNat z.cps.toList).flatten=z.cps.toList:=by
      rcases (a14 _ _).mp hb with hb | hb
      ·rw [eq_of_beq hb]
       simp
      ·have hz:z.cps.toList=[]:=by
        have:z.cps.size=0:=eq_of_beq hb
        rw [<- a1n,a0D]; exact this
       rw [hz]; simp
     unfold gi
     rw [hx]
    rw [e] at q
    exact ⟨.str _,H,I,⟨_,rfl⟩,q⟩
   ·have e:(⟨(a0e k.toNat z.cps).foldl (·++·) #[]⟩:Str)=gi z k:=by
     unfold gi
     have:=ik k.toNat z.cps #[]
     rw [show (#[]:Array Nat).toList=[] from rfl,a0K] at this
     rw [<- this,a19]
    rw [e]
    refine ⟨?_,.str _,H,I.tok _,⟨_,rfl⟩,q⟩
    have e2:(gi z k).length=z.length * k.toNat:=by
     show (gi z k).cps.size=z.cps.size * k.toNat
     unfold gi
     rw [a0f,a1A,a1C,a1p,a0D,a2q]
    rw [e2,sizeLine_eq]; omega
end L3
namespace MR
open PySem PySem.Spec PyProof.Rows L2 L3
section
variable {X:Cx}{sf sg:Nat->Option Nat}{C:M.Call}{pos p p2 p3:Pos}{ea eb ec:Expr}{a b c:M.E}{h:Bool}{n:Nat}{io:List Nat}{K:a0a}
theorem i6 {x:Str}(hx:M.sOk x=true){l:List Nat}(hl:∀ c∈l,c∈x.cps.toList)(hs:l.length<=M.LIM):M.sOk ⟨l.toArray⟩=true:=by
 unfold M.sOk at hx ⊢
 rw [a0i] at hx ⊢
 refine ⟨?_,decide_eq_true (by rw [a0f]; exact hs)⟩
 rw [a1m] at hx ⊢
 intro c hc
 exact hx.1 c (by have:=hl c (by simpa using hc); simpa using this)
theorem ku:Loc K 1 .listS h fun xs H Q=>∃ x:Str,xs=[.str x]/\x.cps.size<=sizeLine/\∀ p,H p=none->Q (.ref p) (upd H p (.lst (x.cps.toList.map fun c=>V.str ⟨#[c]⟩))):=by
 intro ws w xs Z H G Q hn e r ow za k
 match ws,hn with
 | [(m,a)],_ =>
  obtain ⟨x,rfl,r1⟩:=bw rfl r
  cases a with
  | str y =>
   cases e
   have hy:M.sOk y=true:=r1.2
   have hsz:y.cps.size<=M.LIM:=by
    have:=hy
    unfold M.sOk at this
    rw [a0i] at this
    exact of_decide_eq_true this.2
   refine ⟨y,by rw [show x=_ from r1.1],bI hsz,fun p hp=>?_⟩
   have e1:y.cps.toList.map (fun c=>M.T.str ⟨#[c]⟩)=(y.cps.toList.map fun c=>(⟨#[c]⟩:Str)).map M.T.str:=by rw [a04]; rfl
   have e2:y.cps.toList.map (fun c=>V.str ⟨#[c]⟩)=(y.cps.toList.map fun c=>(⟨#[c]⟩:Str)).map V.str:=by rw [a04]; rfl
   rw [e1] at k
   rw [e2]
   exact bD (G':=no) ow za (fun _ z=>z.elim) (by rw [a0d,a0d,a0D]; exact hsz) (nt fun z hz=>by
    obtain ⟨c,hc,rfl⟩:=a1j.mp hz
    exact i6 (l:=[c]) hy (fun d hd=>by rw [a0M.mp hd]; exact hc) (by show 1<=16777215; decide)) (by simp) k hp
  | _=>cases e
theorem so (hm:X.mg "list"=none)(hg:Gl X "list":=by rfl)(ha:SE X sf C ea a)(hc:X.calm=true:=by rfl)(hs:starEach [ea] X.env=(false,eval ea X.env)::starEach [] X.env:=by rfl)(hpl:(backTo pos (starEach [] X.env)).any (·.1)=false:=by rfl):SE X sf C (.Call (.Name "list" p) [ea] [] pos) (.op .listS h [a]) :=
 aG (cI (iL hc) hg hm a1Y (slc ha sl0 hs) (by decide) (by decide) hs hpl) (dz ku rfl)
theorem kM:Loc K 2 .mulS h fun xs H Q=>∀ x y,xs=[x,y]->∃ z k,x=.str z/\y=.int k/\(0<=k/\k<=100/\z.cps.size<=1000)/\Q (.str (gi z k)) H:=by
 intro ws w xs Z H G Q hn e r ow za k x y hx
 match ws,hn with
 | [(m,a),(m2,b)],_ =>
  subst hx
  obtain ⟨x',r',G1,G2,e0,g1,g2,gd,p1,p2⟩:=r
  cases e0
  obtain ⟨y',e1,p3⟩:=bw rfl p2
  cases e1
  cases a with
  | str z =>
   cases b with
   | int i =>
    have e4:(if (decide (0<=i)&&decide (i<=100)&&decide (z.cps.size<=1000))=true then some ((.d,.str ⟨(a0e i.toNat z.cps.toList).flatten.toArray⟩):M.W) else none)=some w:=e
    split at e4
    ·rename_i hb
     cases e4
     rw [a0i,a0i] at hb
     have h1:=of_decide_eq_true hb.1.1
     have h2:=of_decide_eq_true hb.1.2
     have h3:=of_decide_eq_true hb.2
     refine ⟨z,i,p1.1,p3,⟨h1,h2,h3⟩,fI k (i6 (x:=z) p1.2 (fun c hc=>?_) ?_)⟩
     ·obtain ⟨l,hl,hc⟩:=List.mem_flatten.mp hc
      rw [(List.mem_replicate.mp hl).2] at hc
      exact hc
     ·rw [a1A,a1C,a1p,a0D]
      have:=a2I (show i.toNat<=100 by omega) h3
      exact a0m this (by decide)
    ·cases e4
   | _=>cases e
  | _=>cases e
theorem yW (ha:SE X sf C ea a)(hb:SE X sf C eb b):SE X sf C (.BinOp ea .Mult eb pos) (.op .mulS h [a,b]):=aG (c5 ot ha hb) (aN kM)
noncomputable def vq (K:a0a)(mg:Str->Option Value)(x:Str)(t:M.T):Prop:=∃ v u,mg x=some u/\RelV v u/\CstR K t v
noncomputable def GlbR (K:a0a)(x:Str)(t:M.T):Prop:=∃ v u,a1E K mainGlobals x=some (some u)/\RelV v u/\CstR K t v
theorem pM {h:Heap}{mg:Str->Option Value}{x:Str}{t:M.T}(X:K.In h)(G:h.Ns mainGlobals mg)(r:GlbR K x t):vq K mg x t:=by
 obtain ⟨v,u,h1,h2,h3⟩:=r
 exact ⟨v,u,a1R X G h1,h2,h3⟩
theorem AY {x x':Str}{t:M.T}(hm:vq X.K X.mg x t)(hg:Gl X x:=by rfl)(hd:(x==("__debug__":Str))=false:=by decide):SE X sf C (.Name x pos) (.glb x' t):=by
 obtain ⟨v,u,hm,r,hc⟩:=hm
 refine aG (jt (v:=v) hg hm r hd) fun σ H Q hw=>?_
 obtain ⟨pv,Z,Fs,η,w,η',A,ev,k⟩:=hw
 cases ev
 exact k v Z H Fs no A (hc Z H) ((Step.refl _ _ _).mono (fun _ z=>z) fun a ha=>ha.elim id fun z=>z.elim)
end
theorem slx {X:Cx}{sf:Nat->Option Nat}{C:M.Call}{ea:Expr}{a:M.E}{es:List Expr}{bs:List M.E}(ha:SE X sf C ea a)(hb:SL X sf C es bs)(hs:starEach (ea::es) X.env=(false,eval ea X.env)::starEach es X.env):SL X sf C (ea::es) (a::bs):=slc ha hb hs
theorem sTx {X:Cx}{sf:Nat->Option Nat}{C:M.Call}{pos:Pos}{es:List Expr}{bs:List M.E}{x1:Nat}(hn:bs.length<=M.LIM)(h:SL X sf C es bs):SE X sf C (.Tuple es x1 pos) (.tup bs):=sT h hn
theorem sLx {X:Cx}{sf:Nat->Option Nat}{C:M.Call}{pos:Pos}{h:Bool}{es:List Expr}{bs:List M.E}(hn:bs.length<=M.LIM)(hh:SL X sf C es bs):SE X sf C (.List es pos) (.lst h bs):=sLs hh hn
theorem aq {X:Cx}{sf:Nat->Option Nat}{C:M.Call}{pos:Pos}{h:Bool}{ea eb:Expr}{a b:M.E}(ha:SE X sf C ea a)(hb:SE X sf C eb b)(hs:gj eb):SE X sf C (.Subscript ea eb pos) (.op .ix h [a,b]):=sIx ha hb hs
theorem af {X:Cx}{sf:Nat->Option Nat}{C:M.Call}{ea:Expr}{a:M.E}{es:List Expr}{bs:List M.E}(ha:SE X sf C ea a)(hb:SA X sf C es bs)(he:∀ i,a≠.io i)(hs:starEach (ea::es) X.env=(false,eval ea X.env)::starEach es X.env):SA X sf C (ea::es) (a::bs):=sac ha hb he hs
end MR

namespace MR
open PySem PySem.Spec PyProof.Rows L2 L3
theorem walkX {sx:Str}{C:M.Call}{ix k:Nat}{l:a13}{q:Program}{loose:List Str}{XP:(Str->Option Value)->Heap->Prop}{YP:World->Heap->Prop}{d:DefRec}{K:Params->a0a}(hp:∀ ns:List Int,ns.length<=63->∃ m bs,C ix [(.d,.scr ns)]=.ok ((m,.bl true),bs))(hn:l.most=some 63)(hdf:d.params.defaults=[])(hr:Room k callerA)
  (hY:∀ (w:World) (h:Heap),YP w h->(K w.params).In h)
  (F:∀ (w:World) (mg:Str->Option Value) (fa:Addr) (h:Heap),(K w.params).In h->h.Ns mainGlobals mg->mg d.name=some (.ref fa) ->
   ∃ fd:FuncData,(∀ (s:Shared) (u:Value),BindsTo s fd ⟨[u],[]⟩ [(sx,u)])/\∀ base:Heap,(K w.params).In base->base.Ns mainGlobals mg->c8 l.prog w (K w.params) mg base CX0 k fa fd [sx] (spS (K w.params) C ix [])) :
  a2L q loose XP YP l.row.toRowW d [] (fun f vs=>a2K f vs) :=
 L2.walk_of (n:=63) (k:=k) (x:=sx) (CX:=fun _=>CX0) (sp:=fun w=>spS (K w.params) C ix []) hn (by decide) hdf hr hY F (fun _ _ a ns hl hO hS=>uo (hp ns hl) hl hO hS) fun _ _ _ _ _ z=>z
theorem qU {sx:Str}{w:World}{K:a0a}{mg:Str->Option Value}{st:Stmt}{h:Heap}{fa:Addr}{pr:Program}{k:Nat}{sp:Sp}(X:K.In h)(G:h.Ns mainGlobals mg)(hfa:mg "law"=some (.ref fa))(r:Raw K "law" st .none)(hb:∀ (kV dc pm:Value) (an:Option Addr) (cd ct:Value) (s:Shared) (v:Value),BindsTo s (a03 "law" "law" (defArgs st) (defBody st) (defScope st) .none kV dc pm an cd ct) ⟨[v],[]⟩ [(sx,v)])
  (ok:∀ f fd,Fun K "law" "law" st f fd->∀ base,c8 pr w K mg base CX0 k f fd [sx] sp):∃ fd:FuncData,(∀ (s:Shared) (v:Value),BindsTo s fd ⟨[v],[]⟩ [(sx,v)])/\∀ base:Heap,K.In base->base.Ns mainGlobals mg->c8 pr w K mg base CX0 k fa fd [sx] sp:=by
 obtain ⟨f,oc,od,sl,kV,dc,pm,an,cd,ct,h1,h2,h3,h4⟩:=r
 have e:=hfa.symm.trans (a1R X G h1)
 cases e
 exact ⟨_,hb kV dc pm an cd ct,fun base _ _=>ok _ _ (lM (st:=st) h2 h3 h4) base⟩
end MR

namespace TP
open PySem PySem.W
noncomputable def en (P:Params)(k:Str)(t:Nat)(v:Value):DictEntry:=⟨PyData.keyHash P k,.str k t,v⟩
noncomputable def tu (xs:List Value):Obj:=⟨.type "tuple",none,.seq xs.toArray 0,#[]⟩
noncomputable def fe (xs:List Value):Obj:=⟨.none,none,.fields xs.toArray,#[]⟩
noncomputable def di (es:List DictEntry)(n:Nat):Obj:=⟨.type "dict",none,.dict es.toArray n,#[]⟩
noncomputable abbrev fl:Str:="/claim/cut.py"
noncomputable def iv (i:Int):Value:=.int i 0
noncomputable def cdo (n q:Str)(t t2:Nat)(ln ac:Nat)(f:Nat)(a:Nat)(b:Bool)(x y z:Value):Obj :=
 ⟨.type "code",none,.fields #[.str n t,.str q (t+1),.str fl (t+2),iv ln,iv ac,iv 0,iv 0,iv f,.ref a,.bool b,iv 181,.ref (a+1),.none,x,y,z,iv t2,iv ln,.str fl (t2+1)],#[]⟩
noncomputable def ofn (c:Value)(st:Stmt)(q:Str)(g:Nat)(d m:Value)(cd:Value):Obj:=match st with
 | .FunctionDef n ar b _ _ _ sc _ _ _=>⟨c,none,.func { name:=n,qualname:=q,params:=ar,body:=.stmts b,scope:=sc,globals:=g,closure:=[],defaults:=d,kwdefaults:=.none,pyModule:=m,code:=cd },#[]⟩
 | _=>default
noncomputable def tks:List Str->Nat->List Value
 | [],_=>[]
 | x::r,t=>.str x t::tks r (t+1)
structure R where
 os:List Obj
 ns:List DictEntry
 tb:List Value
 n:Nat
 tk:Nat
 md:Value
inductive Rc where
 | d | m | c
 | x (k:Str) (kt:Nat) (v:Value) (os:Params->List Obj) (tb:List Value) (n tk:Nat)
noncomputable def cv:Expr->Value
 | .Constant (.bool b) _ _=>.bool b
 | _=>.none
noncomputable def dO (P:Params)(n tk:Nat)(md:Value)(st:Stmt):R:=match st with
 | .FunctionDef nm ar b _ _ _ sc _ _ pos =>
  let pr:List Obj×Value×Nat:=match ar.defaults with
   | []=>([],.none,n)
   | ds=>([tu (ds.map cv)],.ref n,n+1)
  let a:=pr.2.2
  match localNames ar sc (.stmts b) with
  | none=>⟨pr.1++[tu [],fe [],ofn .none st nm 0 .none .none .none,cdo nm nm tk (tk+3) pos.line ar.args.length 3 a true .none .none (.ref (a+2)),ofn (.type "function") st nm 3 pr.2.1 md (.ref (a+3))],
    [en P nm (tk+5) (.ref (a+4))],[iv pos.line,iv pos.col,.ref (a+3)],a+5,tk+6,md⟩
  | some l =>
   let k:=l.1.length
   let j:=l.2.length
   ⟨pr.1++[tu [],fe [],tu (tks l.1 (tk+3)),tu (tks l.2 (tk+3+k)),ofn .none st nm 0 .none .none .none,cdo nm nm tk (tk+3+k+j) pos.line ar.args.length 3 a true (.ref (a+2)) (.ref (a+3)) (.ref (a+4)),ofn (.type "function") st nm 3 pr.2.1 md (.ref (a+5))],
    [en P nm (tk+5+k+j) (.ref (a+6))],[iv pos.line,iv pos.col,.ref (a+5)],a+7,tk+6+k+j,md⟩
 | _=>⟨[],[],[],n,tk,md⟩
noncomputable def one (P:Params)(n tk:Nat)(md:Value)(st:Stmt):Rc->R
 | .d=>dO P n tk md st
 | .m=>match st with
  | .Assign _ (.Constant (.str s) _ _) _=>⟨[],[],[],n,tk+2,.str s tk⟩
  | _=>⟨[],[],[],n,tk,md⟩
 | .c=>match st with
  | .Assign (.Name x _::_) (.Constant (.str s) _ _) _=>⟨[],[en P x (tk+1) (.str s tk)],[],n,tk+2,md⟩
  | .Assign (.Name x _::_) (.Constant (.int i) _ _) _=>⟨[],[en P x (tk+1) (.int i tk)],[],n,tk+2,md⟩
  | _=>⟨[],[],[],n,tk,md⟩
 | .x k kt v os tb n' tk'=>⟨os P,[en P k kt v],tb,n',tk',md⟩
noncomputable def go (P:Params):List (Stmt×Rc)->Nat->Nat->Value->List R
 | [],_,_,_=>[]
 | (st,r)::l,n,tk,md=>let x:=one P n tk md st r
  x::go P l x.n x.tk x.md
noncomputable def xA (x:R):List R->R
 | []=>x
 | y::l=>xA y l
noncomputable def ds:Data->List DictEntry
 | .dict es _=>es.toList
 | _=>[]
noncomputable def ep:Data->Nat
 | .dict _ n=>n
 | _=>0
noncomputable def r0:R:=⟨[],[],[],15,187,.str "__main__" 164⟩
noncomputable def rs (P:Params)(l:List (Stmt×Rc)):List R:=go P l 15 187 (.str "__main__" 164)
noncomputable def o3 (P:Params)(l:List R):Obj:=di (en P "__name__" 165 (xA r0 l).md::((ds (boot_o_3 P).data).tail++l.flatMap R.ns)) (ep (boot_o_3 P).data+(l.flatMap R.ns).length)
noncomputable def os (P:Params)(l:List R):List Obj :=
 boot_o_0 P::boot_o_1 P::boot_o_2 P::o3 P l::boot_o_4 P::boot_o_5 P::boot_o_6 P::boot_o_7 P::boot_o_8 P::boot_o_9 P::boot_o_10 P ::
 tu []::fe (l.flatMap R.tb)::cdo "<module>" "<module>" 182 185 1 0 0 11 false .none .none .none ::
 ⟨.type "frame",none,.plain,#[some (.ref 13),some (.ref 3),some (.ref 3),none,some (.str "__main__" 164),none,some (.ref 0)]⟩::l.flatMap R.os
noncomputable def odd {α:Type}:List α->List α×List α
 | []=>([],[])
 | x::l=>(x::(odd l).2,(odd l).1)
noncomputable def bt:Nat->List Obj->BT
 | 0,_=>.nil
 | _+1,[]=>.nil
 | k+1,x::l=>.node x (bt k (odd l).1) (bt k (odd l).2)
noncomputable abbrev p0:Pos:=⟨0,0,0,0⟩
noncomputable abbrev B0:List Frame:=[topFrame p0]
noncomputable abbrev an:Option Value:=some (.ref 6)
noncomputable def ev (p:Program):Env:={ scope:=p.main.scope,locals:=mainNs,globals:=mainNs,cells:=[],code:=.ref 13,frame:=some 14 }
noncomputable def cE (p:Program):Code:=.body (behindTheImports p) (ev p)
noncomputable def sT (p:Program)(rc:List Rc)(P:Params)(m n tk:Nat)(o:OsState):SharedT:=⟨bt 12 (os P (rs P ((p.main.body.zip rc).take m))),n,{},#[],{},tk,o⟩
noncomputable def hp (p:Program)(rc:List Rc)(m n:Nat)(P:Params):Heap:=absHeap (bt 12 (os P (rs P ((p.main.body.zip rc).take m)))) n {}
noncomputable def Cut (p:Program)(rc:List Rc)(i n t:Nat)(ps:Pos)(k N n' t':Nat)(ps':Pos)(w:World):Prop:=∀ o,segRunT treeTable p w 11 an 1 N (sT p rc w.params i n t o) (piecesOf ((p.main.body.drop i).take k) (ev p) (cE p) ps B0)=some (.next,sT p rc w.params (i+k) n' t' o,cE p,ps')
noncomputable def Ch (p:Program)(rc:List Rc)(m n1 t1:Nat)(i n t:Nat)(ps:Pos)(M:Nat):Prop:=∀ w o,topRun treeTable p w 11 an M (sT p rc w.params i n t o).abs (restOf (p.main.body.drop i) (ev p) (cE p) ps B0)=some (sT p rc w.params m n1 t1 o).abs
theorem dR {p:Program}{rc:List Rc}{m n1 t1 i n t k N n' t' M:Nat}{ps ps':Pos}(c:∀ w,Cut p rc i n t ps k N n' t' ps' w)(h:Ch p rc m n1 t1 (i+k) n' t' ps' M):Ch p rc m n1 t1 i n t ps (N+M):=fun w o=>by
 have x:=piece_app (segRun_of (c w o)) (h w o)
 rw [<- List.drop_drop,List.take_append_drop] at x
 exact x
theorem vk {p:Program}{rc:List Rc}{m n1 t1:Nat}{ps:Pos}(hd:p.main.body.drop m=[]):Ch p rc m n1 t1 m n1 t1 ps 2:=fun w o=>by
 rw [hd]
 exact piece_nil rfl
theorem oD (w:World):((boot_heap w.params).isNs mainGlobals&&(a2P []:Array GenState).size==0,(boot_heap w.params).objs.size,(boot_heap w.params).nsMap mainGlobals "__annotations__")=(true,11,an):=by kernel_rfl
theorem oj {p q:Program}{loose:List Str}{Xt:Shared->Bool}{α:Type}{Yf:Shared->α}{Ya:World->α}{N M m n1 t1:Nat}{rc:List Rc}
  (e:opening p=plainProg p.main.scope.names) (hN:Nat.ble 600 N=true) (f:∀ s,fenceModules? p s=some s) (hb:behindTheImports p=p.main.body)
  (size:∀ w:World,((boot_heap w.params).isNs mainGlobals&&(a2P []:Array GenState).size==0,(boot_heap w.params).objs.size,(boot_heap w.params).nsMap mainGlobals "__annotations__")=(true,11,an))
  (pre:∀ (w:World) (o:OsState),topGo treeTable p w 11 an 12 ⟨boot_heap w.params,a2P [],boot_drawn,boot_toks,o⟩ (topStub p)=some ((sT p rc w.params 0 15 187 o).abs,⟨denote treeTable (cE p),cE p,p0,B0⟩))
  (blk:∀ (w:World) (o:OsState),segRun treeTable p w 11 an 1 1 (sT p rc w.params 0 15 187 o).abs (blockOf (behindTheImports p) (ev p) (cE p) p0 B0)=some (.next,(sT p rc w.params 0 15 187 o).abs,cE p,p0))
  (ch:Ch p rc m n1 t1 0 15 187 p0 M) (le:Nat.ble (12+(1+M)) N=true)
  (looks:∀ w:World,(fun o=>((staticsOk (importedModules p.main.body) (boot_heap w.params) (hp p rc m n1 w.params)&&namesBound p (hp p rc m n1 w.params)&&gensDone ⟨hp p rc m n1 w.params,#[],{},t1,o⟩&&laidKept (boot_heap w.params) (hp p rc m n1 w.params)),
    openSeen q loose (importedModules p.main.body) Xt true ⟨hp p rc m n1 w.params,#[],{},t1,o⟩,Yf ⟨hp p rc m n1 w.params,#[],{},t1,o⟩))=fun _=>(true,openGood q loose,Ya w)):LeftO p q loose Xt Yf Ya N :=
 LeftO.of_pieces (H₀:=boot_heap) (H₁:=hp p rc m n1) (gs₁:=#[]) (d₁:={}) (k₁:=t1) (boot_open e hN f) size
  (fun w o=>go_top (pre w o) (piece_block (blk w o) (by have x:=ch w o; rw [List.drop_zero,<- hb] at x; exact x))) le looks
noncomputable def cb (st:Stmt)(j:Nat):Stmt:=match st with
 | .ClassDef _ _ _ b _ _ _ _ _ _ _=>b.getD j st
 | _=>st
noncomputable def drec (st:Stmt):PySem.DefRec:=match st with
 | .FunctionDef n a b _ _ _ sc _ _ pos=>⟨n,a,b,sc,pos⟩
 | _=>⟨default,default,[],default,default⟩
theorem dM {α:Type}:∀ (l:List α) (i:Nat),(odd l).1[i]?=l[2 * i]?/\(odd l).2[i]?=l[2 * i+1]?
 | [],i=>by simp [odd]
 | x::l,i=>by
  refine ⟨?_,?_⟩
  ·cases i with
   | zero=>simp [odd]
   | succ j=>rw [show 2 * (j+1)=2 * j+1+1 by omega]; simp only [odd,a0A]; exact (dM l j).2
  ·simp only [odd,a0A]; exact (dM l i).1
theorem jE {α:Type}:∀ (l:List α),(odd l).1.length=(l.length+1) / 2/\(odd l).2.length=l.length / 2
 | []=>by simp [odd]
 | x::l=>by
  have h:=jE l
  simp only [odd,a0t,h.1,h.2]
  exact ⟨by omega,trivial⟩
theorem iT:∀ (k:Nat) (l:List Obj) (a:Nat),l.length < 2 ^ k->(bt k l).get a=l[a]?
 | 0,l,a,h=>by
  have:l=[]:=a1n.mp (by simpa using h)
  subst this; simp [bt,BT.get]
 | k+1,[],a,h=>by simp [bt,BT.get]
 | k+1,x::l,a,h=>by
  have e:2 ^ (k+1)=2 * 2 ^ k:=by rw [a2r]; omega
  have hl:=jE l
  simp only [a0t] at h
  unfold bt
  rw [BT.get_node]
  by_cases h0:a=0
  ·simp [h0]
  ·rw [if_neg h0]
   by_cases h1:a % 2=1
   ·rw [if_pos h1,iT k _ _ (by omega),(dM l (a / 2)).1]
    obtain ⟨b,rfl⟩:∃ b,a=b+1:=⟨a-1,by omega⟩
    rw [a0A]; congr 1; omega
   ·rw [if_neg h1,iT k _ _ (by omega),(dM l (a / 2-1)).2]
    obtain ⟨b,rfl⟩:∃ b,a=b+1:=⟨a-1,by omega⟩
    rw [a0A]; congr 1; omega
noncomputable def lL (p:Program)(rc:List Rc)(m:Nat)(P:Params):List Obj:=os P (rs P ((p.main.body.zip rc).take m))
noncomputable def kK (p:Program)(rc:List Rc)(m:Nat)(as:List Addr)(P:Params):Frag:=as.map fun a=>(a,(lL p rc m P).getD a default)
noncomputable def okO:Option Obj->Bool
 | some ⟨_,_,.freed,_⟩=>false
 | some _=>true
 | none=>false
theorem jy {p:Program}{rc:List Rc}{m:Nat}{P:Params}{a:Addr}{o:Obj}:∀ {as:List Addr},(kK p rc m as P).lookup a=some o->a∈as/\o=(lL p rc m P).getD a default
 | [],h=>by simp [kK] at h
 | b::as,h=>by
  unfold kK at h
  rw [a0C,a1g] at h
  by_cases e:a=b
  ·subst e
   rw [beq_self_eq_true] at h
   exact ⟨a0o ..,(a0w h).symm⟩
  ·rw [beq_false_of_ne e] at h
   have x:=jy (as:=as) h
   exact ⟨a0p _ x.1,x.2⟩
noncomputable def hkk (p:Program)(rc:List Rc)(m n:Nat):Hook where
 α:=Array Obj
 obs s:=s.heap.objs
 val w:=(hp p rc m n w.params).objs
 says w h:=∀ a o,(hp p rc m n w.params).get? a=some o->h.get? a=some o
 of w s e a o x:=by unfold Heap.get? at *; rw [e]; exact x
 keeps w h h' X k a o x:=k _ _ (X a o x)
theorem A8 {p:Program}{rc:List Rc}{m n:Nat}{as:List Addr}{w:World}{h:Heap}(hl:Nat.blt (lL p rc m w.params).length 4096=true)(hc:(as.all fun a=>Nat.blt a n&&okO (lL p rc m w.params)[a]?)=true)
  (Y:(hkk p rc m n).says w h):(kK p rc m as w.params).In h:=fun a o e=>by
 obtain ⟨e1,e2⟩:=jy e
 obtain ⟨c1,c2⟩:=a0L.mp (a0Y.mp hc a e1)
 refine Y a o ?_
 have c3:a < n:=a1s c1
 have c4:(lL p rc m w.params).length < 2 ^ 12:=a1s hl
 have g:=iT 12 (lL p rc m w.params) a c4
 unfold hp Heap.get?
 rw [absHeap_at,if_pos c3]
 show (match some (((bt 12 (lL p rc m w.params)).get a).getD default) with | some ⟨_,_,.freed,_⟩=>none | o=>o)=some o
 rw [g]
 rw [a0y] at e2
 rw [<- e2]
 cases q:(lL p rc m w.params)[a]? with
 | none=>rw [q] at c2; cases c2
 | some x =>
  rw [q] at c2 e2
  have e3:o=x:=e2
  subst e3
  obtain ⟨_,_,d,_⟩:=o
  cases d<;>first | rfl | cases c2
noncomputable def pmO:Option Obj->Value
 | some ⟨_,_,.func f,_⟩=>f.pyModule
 | _=>.none
noncomputable def rfO:Option (Option Value)->Nat
 | some (some (.ref a))=>a
 | _=>0
theorem raw_mk {K:Frag}{x:Str}{st:Stmt}{dV:Value}(h1:nsIn K mainGlobals x=some (some (.ref (rfO (nsIn K mainGlobals x)))))
  (h2:K.lookup (rfO (nsIn K mainGlobals x))=some ⟨.type "function",none,.func (fnOf x x (L2.defArgs st) (L2.defBody st) (L2.defScope st) dV .none .none (pmO (K.lookup (rfO (nsIn K mainGlobals x)))) none (.ref (rfO (nsIn K mainGlobals x)-1)) .none),#[]⟩)
  (h3:codeIn K (.ref (rfO (nsIn K mainGlobals x)-1)) x=true) (h4:keepIn K (.ref (rfO (nsIn K mainGlobals x)))=true):MR.Raw K x st dV:=⟨_,_,_,_,_,_,_,_,_,_,h1,h2,h3,h4⟩
noncomputable def toV:Value->L2.V
 | .bool b=>.bl b
 | .int i _=>.int i
 | .str s _=>.str s
 | .ref a=>.ref a
 | _=>.non
noncomputable def okV:Value->Bool
 | .none=>true
 | .bool _=>true
 | .int _ _=>true
 | .str _ _=>true
 | .ref _=>true
 | _=>false
theorem i7:∀ {v:Value},okV v=true->L2.RelV (toV v) v
 | .none,_=>rfl
 | .bool _,_=>rfl
 | .int _ _,_=>⟨_,rfl⟩
 | .str _ _,_=>⟨_,rfl⟩
 | .ref _,_=>rfl
 | .ellipsis,h=>by cases h
 | .notImplemented,h=>by cases h
 | .float _ _,h=>by cases h
 | .bytes _ _,h=>by cases h
 | .type _,h=>by cases h
 | .builtin _,h=>by cases h
theorem gM:∀ {l:List Value},l.all okV=true->L2.Vals (l.map toV) l
 | [],_=>.nil
 | v::l,h=>by
  rw [a1b,a0L] at h
  exact .cons (i7 h.1) (gM h.2)
noncomputable def eK (e:DictEntry):Str×Nat×Value:=match e.key with
 | .str k t=>(k,t,e.val)
 | _=>("",0,e.val)
noncomputable def tE:Option Obj->List (Str×Nat×Value)
 | some o=>(ds o.data).map eK
 | none=>[]
noncomputable def tN:Option Obj->Nat
 | some o=>ep o.data
 | none=>0
noncomputable def enL (P:Params)(l:List (Str×Nat×Value)):List DictEntry:=l.map fun e=>en P e.1 e.2.1 e.2.2
noncomputable def tL (l:List (Str×Nat×Value)):List (Str×L2.V):=l.map fun e=>(e.1,toV e.2.2)
theorem gD {P:Params}:∀ l:List (Str×Nat×Value),KeysLit P (enL P l)
 | []=>trivial
 | e::l=>⟨⟨_,_,rfl,rfl⟩,gD l⟩
theorem gA {P:Params}:∀ {l:List (Str×Nat×Value)},(l.all fun e=>okV e.2.2)=true->PySem.Paired (fun (p:Str×L2.V) (e:DictEntry)=>(∃ t,e.key=.str p.1 t)/\L2.RelV p.2 e.val) (tL l) (enL P l)
 | [],_=>.nil
 | e::l,h=>by
  rw [a1b,a0L] at h
  exact .cons ⟨⟨_,rfl⟩,i7 h.1⟩ (gA h.2)
theorem tab_mk {K:Frag}{w:World}{x:Str}(h1:nsIn K mainGlobals x=some (some (.ref (rfO (nsIn K mainGlobals x)))))
  (h2:K.lookup (rfO (nsIn K mainGlobals x))=some (di (enL w.params (tE (K.lookup (rfO (nsIn K mainGlobals x))))) (tN (K.lookup (rfO (nsIn K mainGlobals x))))))
  (h3:((tE (K.lookup (rfO (nsIn K mainGlobals x)))).all fun e=>okV e.2.2)=true) (h4:(rfO (nsIn K mainGlobals x)==sysModules)=false):MR.TabRaw K w x (tL (tE (K.lookup (rfO (nsIn K mainGlobals x))))) :=
 ⟨_,_,_,h1,h2,gD _,gA h3,h4⟩
noncomputable def qe {α β:Type}(f:α->β->Bool):List α->List β->Bool
 | [],[]=>true
 | a::l,b::r=>f a b&&qe f l r
 | _,_=>false
noncomputable def iy (K:Frag):Nat->M.T->L2.V->Bool
 | _+1,.int i,.int j=>decide (i=j)
 | _+1,.non,.non=>true
 | _+1,.bl a,.bl b=>decide (a=b)
 | _+1,.str x,.str y=>decide (x=y)&&M.sOk x
 | n+1,.tup ts,.ref a=>match K.lookup a with
  | some ⟨.type "tuple",_,.seq its _,_⟩=>Nat.ble its.size 1000&&(its.toList.all okV&&qe (iy K n) ts (its.toList.map toV))
  | _=>false
 | _,_,_=>false
theorem jx {K:Frag}{n:Nat}(ih:∀ t v,iy K n t v=true->MR.CstR K t v):∀ {ts:List M.T} {xs:List L2.V},qe (iy K n) ts xs=true->MR.CstRs K ts xs
 | [],[],_=>MR.cst_nil
 | t::ts,x::xs,h=>by
  unfold qe at h
  rw [a0L] at h
  exact MR.cst_cons (ih _ _ h.1) (jx ih h.2)
 | [],_::_,h=>by cases h
 | _::_,[],h=>by cases h
theorem p9 {K:Frag}:∀ n t v,iy K n t v=true->MR.CstR K t v:=by
 intro n
 induction n with
 | zero=>intro t v h; simp [iy] at h
 | succ n ih =>
  intro t v h
  unfold iy at h
  split at h
  ·rename_i q; cases q; have e:=of_decide_eq_true h; subst e; exact MR.cst_int _
  ·exact MR.cst_non
  ·have e:=of_decide_eq_true h; subst e; exact MR.cst_bl _
  ·rw [a0L] at h; have e:=of_decide_eq_true h.1; subst e; exact MR.cst_str h.2
  ·rename_i q
   cases q
   split at h
   ·rename_i its k sl q
    rw [a0L,a0L] at h
    have hs:=a1s h.1
    exact MR.cst_tup q rfl rfl (a0m hs (by decide)) (gM h.2.1) (by rw [a0d,a0D]; exact a0m hs (by decide)) (jx ih h.2.2)
   ·cases h
  ·cases h
theorem glbR_mk {K:Frag}{n:Nat}{x:Str}{t:M.T}(h1:nsIn K mainGlobals x=some (some (.ref (rfO (nsIn K mainGlobals x)))))(h2:iy K n t (.ref (rfO (nsIn K mainGlobals x)))=true):MR.GlbR K x t:=⟨.ref _,_,h1,rfl,p9 n _ _ h2⟩
end TP

namespace A60
open M
open PySem (Str)
noncomputable abbrev q:=Str.ofString
noncomputable def keys_AHEAD:List Str:=[q "num",q "name",q "none",q "let",q "each",q "times"]
noncomputable def aT:Fn:={ ps:=1,ns:=0,io:=[],body:=[
  .ret [] (.ifx (.inT false keys_AHEAD (.mv 0)) (.cst (.int 2)) (.cst (.int 1)))] }
noncomputable def cf:Fn:={ ps:=1,ns:=0,io:=[],body:=[
  .ret [0] (.op .sl1 false [.var 0,.call 175 [.op .ix false [.var 0,.cst (.int 0)]]])] }
noncomputable def bj:Fn:={ ps:=1,ns:=1,io:=[],body:=[
  .ret [0] (.or (.op .isin false [.op .ix false [.var 0,.cst (.int 0)],.glb (q "STOPPING") (.tup [.str (q "sum"),.str (q "sums"),.str (q "most"),.str (q "upto"),.str (q "flat"),.str (q "add"),.str (q "sub"),.str (q "mul"),.str (q "div"),.str (q "rest"),.str (q "pick"),.str (q "join"),.str (q "keep"),.str (q "cut"),.str (q "times")])]) (.op .any false [.comp false .seq [.call 176 [.var 0]] [1] none (.call 177 [.var 1])]))] }
noncomputable def bV:Fn:={ ps:=1,ns:=0,io:=[],body:=[
  .ret [] (.not (.call 177 [.mv 0]))] }
noncomputable def bG:Fn:={ ps:=1,ns:=0,io:=[],body:=[
  .ret [] (.lst true [.op .list true [.op .sl2 true [.mv 0,.cst (.int 63)]],.cst (.int 0),.cst (.int 0)])] }
noncomputable def bo:Fn:={ ps:=2,ns:=4,io:=[0],body:=[
  .ite (.q [0] []) (.op .gt false [.op .ix false [.var 0,.cst (.int 2)],.cst (.int 0)]) [
   .asg (.q [0] [1]) 2 (.op .modN false [.op .ix false [.var 0,.cst (.int 2)],.var 1]),
   .setI (.q [0] [1]) 0 (.cst (.int 2)) (.op .fdivN false [.op .ix false [.var 0,.cst (.int 2)],.var 1]),
   .ret [] (.mv 2)] [],
  .asg (.q [0] []) 3 (.op .ix false [.var 0,.cst (.int 1)]),
  .setI (.q [3] []) 0 (.cst (.int 1)) (.op .add false [.var 3,.cst (.int 1)]),
  .asg (.q [] []) 4 (.cst (.int 0)),
  .ite (.q [0] []) (.op .gt false [.op .len false [.op .ix false [.var 0,.cst (.int 0)]],.cst (.int 0)]) [
   .asg (.q [0,3] []) 4 (.op .ix false [.op .ix false [.var 0,.cst (.int 0)],.op .modN false [.var 3,.op .len false [.op .ix false [.var 0,.cst (.int 0)]]]])] [],
  .ite (.q [0,3,4] []) (.and (.op .lt false [.var 3,.op .len false [.op .ix false [.var 0,.cst (.int 0)]]]) (.op .ge false [.var 4,.op .pow false [.cst (.int 10),.cst (.int 18)]])) [
   .setI (.q [4] [1]) 0 (.cst (.int 2)) (.op .fdivN false [.var 4,.var 1]),
   .ret [] (.op .modN false [.mv 4,.mv 1])] [],
  .asg (.q [3,4] []) 5 (.op .modN false [.op .mul false [.op .add false [.op .modN false [.var 4,.cst (.int 1000003)],.cst (.int 1)],.op .add false [.op .add false [.op .mul false [.op .mul false [.cst (.int 7919),.var 3],.var 3],.op .mul false [.cst (.int 104729),.var 3]],.cst (.int 12345)]],.cst (.int 2147483647)]),
  .asg (.q [3,4] [5]) 5 (.op .modN false [.op .add false [.op .add false [.op .mul false [.var 5,.var 5],.op .mul false [.cst (.int 48271),.var 3]],.op .modN false [.var 4,.cst (.int 65537)]],.cst (.int 2147483629)]),
  .ret [] (.op .modN false [.op .fdivN false [.mv 5,.cst (.int 8)],.mv 1])] }
noncomputable def a8:Fn:={ ps:=1,ns:=7,io:=[0],body:=[
  .ite (.l []) (.op .eq false [.call 201 [.io 0,.cst (.int 4)],.cst (.int 0)]) [
   .ret [] (.op .listS false [.cst (.str (q "abcdefghijklmnopqrst"))])] [],
  .asg (.q [] []) 1 (.lst false [.cst (.str (q "")),.cst (.str (q "add")),.cst (.str (q "row")),.cst (.str (q "num")),.cst (.str (q "if")),.cst (.str (q "let")),.cst (.str (q "no")),.cst (.str (q "e")),.cst (.str (q "su")),.cst (.str (q "mos"))]),
  .asg (.l []) 2 (.call 201 [.io 0,.cst (.int 10)]),
  .asg (.l []) 3 (.op .eq false [.call 201 [.io 0,.cst (.int 2)],.cst (.int 0)]),
  .asg (.q [] []) 4 (.lst false []),
  .forS [] [] .rng [.cst (.int 20)] [5] [
   .asg (.q [1] [2,5]) 6 (.op .ix false [.var 1,.op .mod false [.op .add false [.var 2,.op .mul false [.cst (.int 3),.var 5]],.cst (.int 10)]]),
   .asg (.q [] [5]) 7 (.op .mulS false [.op .ix false [.cst (.str (q "qvwxyz")),.op .mod false [.var 5,.cst (.int 6)]],.op .add false [.cst (.int 1),.op .fdiv false [.var 5,.cst (.int 6)]]]),
   .app (.q [6,7] [3]) 4 (.op .ix false [.lst false [.op .add false [.var 6,.var 7],.op .add false [.var 7,.var 6]],.op .int false [.var 3]])],
  .ret [] (.mv 4)] }
noncomputable def bK:Fn:={ ps:=1,ns:=2,io:=[0],body:=[
  .asg (.q [] []) 1 (.tup [.cst (.str (q "num"))]),
  .asg (.q [1] []) 2 (.lst false [.var 1,.var 1,.tup [.cst (.str (q "truth"))],.tup [.cst (.str (q "row")),.var 1],.tup [.cst (.str (q "row")),.var 1],.tup [.cst (.str (q "row")),.tup [.cst (.str (q "truth"))]]]),
  .asg (.q [1,2] []) 2 (.op .add false [.var 2,.lst false [.tup [.cst (.str (q "pair")),.var 1,.tup [.cst (.str (q "truth"))]],.tup [.cst (.str (q "row")),.tup [.cst (.str (q "row")),.var 1]],.tup [.cst (.str (q "row")),.tup [.cst (.str (q "pair")),.var 1,.var 1]]]]),
  .ret [] (.op .ix false [.mv 2,.call 201 [.io 0,.cst (.int 9)]])] }
noncomputable def aP:Fn:={ ps:=2,ns:=4,io:=[0],body:=[
  .ite (.q [1] []) (.op .eq false [.op .ix false [.var 1,.cst (.int 0)],.cst (.str (q "truth"))]) [
   .ret [] (.op .eq false [.call 201 [.io 0,.cst (.int 2)],.cst (.int 0)])] [],
  .ite (.q [1] []) (.op .eq false [.op .ix false [.var 1,.cst (.int 0)],.cst (.str (q "pair"))]) [
   .asg (.l [1]) 2 (.call 204 [.io 0,.op .ix false [.var 1,.cst (.int 1)]]),
   .ret [] (.tup [.mv 2,.call 204 [.io 0,.op .ix false [.mv 1,.cst (.int 2)]]])] [],
  .ite (.q [1] []) (.op .eq false [.op .ix false [.var 1,.cst (.int 0)],.cst (.str (q "row"))]) [
   .asg (.q [] []) 3 (.lst false []),
   .forU .rng [.op .ix false [.lst false [.cst (.int 0),.cst (.int 1),.cst (.int 2),.cst (.int 3)],.call 201 [.io 0,.cst (.int 4)]]] [4] [
    .app (.l [1]) 3 (.call 204 [.io 0,.op .ix false [.var 1,.cst (.int 1)]])],
   .ret [] (.mv 3)] [],
  .asg (.l []) 5 (.lst false [.call 201 [.io 0,.cst (.int 5)],.call 201 [.io 0,.cst (.int 5)],.op .sub false [.op .sub false [.cst (.int 0),.cst (.int 1)],.call 201 [.io 0,.cst (.int 4)]],.op .sub false [.op .pow false [.cst (.int 10),.cst (.int 18)],.call 201 [.io 0,.cst (.int 3)]],.op .add false [.call 201 [.io 0,.op .pow false [.cst (.int 10),.cst (.int 9)]],.cst (.int 201)],.op .sub false [.cst (.int 0),.op .pow false [.cst (.int 10),.cst (.int 18)]]]),
  .ret [] (.op .ix false [.mv 5,.op .fdiv false [.op .mul false [.call 201 [.io 0,.cst (.int 8)],.cst (.int 6)],.cst (.int 8)]])] }
noncomputable def a7:Fn:={ ps:=3,ns:=3,io:=[0],body:=[
  .asg (.q [1,2] []) 3 (.comp false .sq2 [.var 1] [4,5] (some (.op .eq false [.var 5,.var 2])) (.var 4)),
  .ite (.q [3] []) (.op .eq false [.op .len false [.var 3],.cst (.int 0)]) [
   .ret [] (.cst (.non))] [],
  .ret [3] (.tup [.cst (.str (q "name")),.op .ix false [.var 3,.call 201 [.io 0,.op .len false [.var 3]]]])] }
noncomputable def f_law_leaf:Fn:={ ps:=3,ns:=2,io:=[0],body:=[
  .asg (.l [1,2]) 3 (.call 205 [.io 0,.var 1,.var 2]),
  .ite (.l [3]) (.and (.op .isnot false [.var 3,.cst (.non)]) (.op .gt false [.call 201 [.io 0,.cst (.int 3)],.cst (.int 0)])) [
   .ret [] (.mv 3)] [],
  .ite (.q [2] []) (.op .eq false [.op .ix false [.var 2,.cst (.int 0)],.cst (.str (q "num"))]) [
   .ret [] (.tup [.cst (.str (q "num")),.op .ix false [.lst false [.call 201 [.io 0,.cst (.int 5)],.op .sub false [.op .pow false [.cst (.int 10),.cst (.int 18)],.call 201 [.io 0,.cst (.int 2)]]],.op .fdiv false [.call 201 [.io 0,.cst (.int 9)],.cst (.int 8)]]])] [],
  .ite (.q [2] []) (.op .eq false [.op .ix false [.var 2,.cst (.int 0)],.cst (.str (q "truth"))]) [
   .ret [] (.op .ix false [.lst false [.tup [.cst (.str (q "yes"))],.tup [.cst (.str (q "no"))]],.call 201 [.io 0,.cst (.int 2)]])] [],
  .ite (.q [2] []) (.op .eq false [.op .ix false [.var 2,.cst (.int 0)],.cst (.str (q "pair"))]) [
   .asg (.l [1,2]) 4 (.call 206 [.io 0,.var 1,.op .ix false [.var 2,.cst (.int 1)]]),
   .ret [] (.tup [.cst (.str (q "pair")),.mv 4,.call 206 [.io 0,.mv 1,.op .ix false [.mv 2,.cst (.int 2)]]])] [],
  .ite (.l []) (.op .eq false [.call 201 [.io 0,.cst (.int 3)],.cst (.int 0)]) [
   .ret [] (.tup [.cst (.str (q "none")),.op .ix false [.mv 2,.cst (.int 1)]])] [],
  .ret [] (.tup [.cst (.str (q "one")),.call 206 [.io 0,.mv 1,.op .ix false [.mv 2,.cst (.int 1)]]])] }
noncomputable def ba:Fn:={ ps:=3,ns:=2,io:=[0],body:=[
  .asg (.l []) 3 (.call 201 [.io 0,.cst (.int 5)]),
  .ite (.q [2] [3]) (.and (.op .eq false [.var 3,.cst (.int 0)]) (.op .eq false [.var 2,.tup [.cst (.str (q "row")),.tup [.cst (.str (q "num"))]]])) [
   .ret [] (.tup [.cst (.str (q "upto")),.call 208 [.io 0,.mv 1]])] [],
  .asg (.l [1,2]) 4 (.call 206 [.io 0,.var 1,.var 2]),
  .ite (.q [] [3]) (.op .eq false [.var 3,.cst (.int 1)]) [
   .ret [] (.tup [.cst (.str (q "join")),.mv 4,.call 206 [.io 0,.lst false [],.mv 2]])] [],
  .ret [] (.mv 4)] }
noncomputable def aL:Fn:={ ps:=2,ns:=2,io:=[0],body:=[
  .asg (.l []) 2 (.call 201 [.io 0,.cst (.int 6)]),
  .asg (.l [1]) 3 (.call 205 [.io 0,.var 1,.tup [.cst (.str (q "num"))]]),
  .ite (.q [3] [2]) (.and (.op .eq false [.var 2,.cst (.int 5)]) (.op .isnot false [.var 3,.cst (.non)])) [
   .ret [] (.tup [.cst (.str (q "rest")),.mv 3,.tup [.cst (.str (q "num")),.cst (.int 5)]])] [],
  .ite (.q [] [2]) (.op .eq false [.var 2,.cst (.int 4)]) [
   .ret [] (.tup [.cst (.str (q "sub")),.tup [.cst (.str (q "num")),.call 201 [.io 0,.cst (.int 3)]],.tup [.cst (.str (q "num")),.cst (.int 1)]])] [],
  .ite (.q [] [2]) (.op .eq false [.var 2,.cst (.int 3)]) [
   .ret [] (.tup [.cst (.str (q "num")),.op .add false [.cst (.int 201),.call 201 [.io 0,.op .pow false [.cst (.int 10),.cst (.int 17)]]]])] [],
  .ret [] (.tup [.cst (.str (q "num")),.call 201 [.io 0,.cst (.int 4)]])] }
noncomputable def aB:Fn:={ ps:=6,ns:=5,io:=[0],body:=[
  .asg (.l []) 6 (.call 201 [.io 0,.cst (.int 12)]),
  .ite (.q [] [4,6]) (.or (.op .lt false [.var 4,.cst (.int 3)]) (.op .lt false [.var 6,.cst (.int 2)])) [
   .ret [] (.call 206 [.io 0,.mv 1,.mv 3])] [],
  .ite (.q [] [6]) (.op .eq false [.var 6,.cst (.int 2)]) [
   .asg (.l [1,2]) 7 (.call 209 [.io 0,.var 1,.var 2,.tup [.cst (.str (q "truth"))],.op .fdiv false [.var 4,.cst (.int 3)],.var 5]),
   .asg (.l [1,2,3]) 8 (.call 209 [.io 0,.var 1,.var 2,.var 3,.op .fdiv false [.var 4,.cst (.int 3)],.var 5]),
   .ret [] (.tup [.cst (.str (q "if")),.mv 7,.mv 8,.call 209 [.io 0,.mv 1,.mv 2,.mv 3,.op .fdiv false [.mv 4,.cst (.int 3)],.mv 5]])] [],
  .ite (.q [] [5,6]) (.and (.op .eq false [.var 6,.cst (.int 3)]) (.op .gt false [.var 5,.cst (.int 0)])) [
   .asg (.l []) 9 (.call 203 [.io 0]),
   .asg (.q [1,2] []) 10 (.op .ix false [.var 2,.op .len false [.var 1]]),
   .asg (.l [1,2,9]) 7 (.call 209 [.io 0,.var 1,.var 2,.var 9,.op .fdiv false [.var 4,.cst (.int 2)],.var 5]),
   .ret [10] (.tup [.cst (.str (q "let")),.var 10,.mv 7,.call 209 [.io 0,.op .add false [.mv 1,.lst false [.tup [.var 10,.mv 9]]],.mv 2,.mv 3,.op .fdiv false [.mv 4,.cst (.int 2)],.op .sub false [.mv 5,.cst (.int 1)]]])] [],
  .ite (.q [3] [5,6]) (.and (.op .eq false [.var 6,.cst (.int 4)]) (.and (.op .gt false [.var 5,.cst (.int 0)]) (.op .ne false [.op .ix false [.var 3,.cst (.int 0)],.cst (.str (q "row"))]))) [
   .asg (.q [1,2] []) 10 (.op .ix false [.var 2,.op .len false [.var 1]]),
   .asg (.l [1]) 7 (.call 208 [.io 0,.var 1]),
   .asg (.l [1,2,3]) 8 (.call 209 [.io 0,.var 1,.var 2,.var 3,.op .fdiv false [.var 4,.cst (.int 3)],.var 5]),
   .ret [3,10] (.tup [.cst (.str (q "times")),.var 10,.mv 7,.mv 8,.call 209 [.io 0,.op .add false [.mv 1,.lst false [.tup [.var 10,.var 3]]],.mv 2,.var 3,.op .fdiv false [.mv 4,.cst (.int 2)],.op .sub false [.mv 5,.cst (.int 1)]]])] [],
  .ite (.q [] [6]) (.op .lt false [.var 6,.cst (.int 8)]) [
   .ret [] (.call 212 [.io 0,.mv 1,.mv 2,.mv 3,.mv 4,.mv 5])] [],
  .ret [] (.call 210 [.io 0,.mv 1,.mv 2,.mv 3,.mv 4,.mv 5])] }
noncomputable def aC:Fn:={ ps:=6,ns:=6,io:=[0],body:=[
  .asg (.q [] []) 6 (.tup [.cst (.str (q "num"))]),
  .ite (.q [3] []) (.op .eq false [.op .ix false [.var 3,.cst (.int 0)],.cst (.str (q "row"))]) [
   .ret [] (.call 211 [.io 0,.mv 1,.mv 2,.mv 3,.mv 4,.mv 5])] [],
  .asg (.l []) 7 (.call 201 [.io 0,.cst (.int 9)]),
  .ite (.q [3,6] [7]) (.and (.op .eq false [.var 3,.var 6]) (.op .lt false [.var 7,.cst (.int 4)])) [
   .asg (.q [] [7]) 8 (.op .ix false [.lst false [.cst (.str (q "long")),.cst (.str (q "sum")),.cst (.str (q "most")),.cst (.str (q "pick"))],.var 7]),
   .asg (.l [1,2,6]) 9 (.call 209 [.io 0,.var 1,.var 2,.tup [.cst (.str (q "row")),.var 6],.op .fdiv false [.var 4,.cst (.int 2)],.var 5]),
   .ite (.q [8] []) (.op .ne false [.var 8,.cst (.str (q "pick"))]) [
    .ret [] (.tup [.mv 8,.mv 9])] [],
   .ret [] (.tup [.cst (.str (q "pick")),.mv 9,.call 209 [.io 0,.mv 1,.mv 2,.mv 6,.op .fdiv false [.mv 4,.cst (.int 3)],.mv 5]])] [],
  .ite (.q [3] [7]) (.and (.op .eq false [.var 3,.tup [.cst (.str (q "truth"))]]) (.op .eq false [.var 7,.cst (.int 0)])) [
   .ret [] (.tup [.cst (.str (q "not")),.call 209 [.io 0,.mv 1,.mv 2,.mv 3,.op .fdiv false [.mv 4,.cst (.int 2)],.mv 5]])] [],
  .asg (.q [6] []) 10 (.lst false [.var 6,.var 6]),
  .asg (.q [] [7]) 8 (.op .ix false [.lst false [.cst (.str (q "add")),.cst (.str (q "sub")),.cst (.str (q "mul")),.cst (.str (q "div")),.cst (.str (q "rest"))],.op .mod false [.var 7,.cst (.int 5)]]),
  .ite (.q [3] []) (.op .eq false [.var 3,.tup [.cst (.str (q "truth"))]]) [
   .asg (.q [] [7]) 8 (.op .ix false [.lst false [.cst (.str (q "both")),.cst (.str (q "less")),.cst (.str (q "same"))],.op .mod false [.var 7,.cst (.int 3)]]),
   .ite (.q [] [7]) (.or (.op .eq false [.op .mod false [.var 7,.cst (.int 3)],.cst (.int 0)]) (.op .eq false [.var 7,.cst (.int 5)])) [
    .asg (.q [3] []) 10 (.lst false [.var 3,.var 3])] []] [],
  .ite (.q [3] []) (.op .eq false [.op .ix false [.var 3,.cst (.int 0)],.cst (.str (q "pair"))]) [
   .asg (.q [] []) 8 (.cst (.str (q "pair"))),
   .asg (.q [3] []) 10 (.lst false [.op .ix false [.var 3,.cst (.int 1)],.op .ix false [.var 3,.cst (.int 2)]])] [],
  .asg (.l [1,2,10]) 11 (.call 209 [.io 0,.var 1,.var 2,.op .ix false [.var 10,.cst (.int 0)],.op .fdiv false [.var 4,.cst (.int 2)],.var 5]),
  .ret [] (.tup [.mv 8,.mv 11,.call 209 [.io 0,.mv 1,.mv 2,.op .ix false [.mv 10,.cst (.int 1)],.op .fdiv false [.mv 4,.cst (.int 2)],.mv 5]])] }
noncomputable def f_law_rows:Fn:={ ps:=6,ns:=4,io:=[0],body:=[
  .asg (.l []) 6 (.call 201 [.io 0,.cst (.int 8)]),
  .ite (.q [] [5,6]) (.and (.op .lt false [.var 6,.cst (.int 3)]) (.op .gt false [.var 5,.cst (.int 0)])) [
   .asg (.l []) 7 (.op .ix false [.lst false [.tup [.cst (.str (q "num"))],.tup [.cst (.str (q "truth"))],.tup [.cst (.str (q "row")),.tup [.cst (.str (q "num"))]],.tup [.cst (.str (q "pair")),.tup [.cst (.str (q "num"))],.tup [.cst (.str (q "num"))]]],.call 201 [.io 0,.cst (.int 4)]]),
   .asg (.q [1,2] []) 8 (.op .ix false [.var 2,.op .len false [.var 1]]),
   .asg (.l [1,7]) 9 (.call 207 [.io 0,.var 1,.tup [.cst (.str (q "row")),.var 7]]),
   .ret [8] (.tup [.cst (.str (q "each")),.var 8,.mv 9,.call 209 [.io 0,.op .add false [.mv 1,.lst false [.tup [.var 8,.mv 7]]],.mv 2,.op .ix false [.mv 3,.cst (.int 1)],.op .fdiv false [.mv 4,.cst (.int 2)],.op .sub false [.mv 5,.cst (.int 1)]]])] [],
  .ite (.q [3] [6]) (.and (.op .eq false [.var 6,.cst (.int 3)]) (.op .eq false [.var 3,.tup [.cst (.str (q "row")),.tup [.cst (.str (q "num"))]]])) [
   .ret [] (.tup [.cst (.str (q "sums")),.call 207 [.io 0,.mv 1,.mv 3]])] [],
  .ite (.q [3] [6]) (.and (.op .eq false [.var 6,.cst (.int 4)]) (.op .eq false [.op .ix false [.op .ix false [.var 3,.cst (.int 1)],.cst (.int 0)],.cst (.str (q "row"))])) [
   .asg (.l [1,3]) 9 (.call 207 [.io 0,.var 1,.op .ix false [.var 3,.cst (.int 1)]]),
   .ret [] (.tup [.cst (.str (q "cut")),.mv 9,.call 207 [.io 0,.mv 1,.tup [.cst (.str (q "row")),.tup [.cst (.str (q "num"))]]]])] [],
  .ite (.q [] [6]) (.op .eq false [.var 6,.cst (.int 5)]) [
   .ret [1] (.tup [.cst (.str (q "keep")),.call 207 [.io 0,.var 1,.mv 3],.call 207 [.io 0,.var 1,.tup [.cst (.str (q "row")),.tup [.cst (.str (q "truth"))]]]])] [],
  .ite (.q [3] [6]) (.and (.op .eq false [.var 6,.cst (.int 6)]) (.op .ne false [.op .ix false [.op .ix false [.var 3,.cst (.int 1)],.cst (.int 0)],.cst (.str (q "row"))])) [
   .ret [] (.tup [.cst (.str (q "flat")),.call 207 [.io 0,.mv 1,.tup [.cst (.str (q "row")),.mv 3]]])] [],
  .ite (.q [] [6]) (.op .eq false [.var 6,.cst (.int 7)]) [
   .ret [] (.tup [.cst (.str (q "one")),.call 209 [.io 0,.mv 1,.mv 2,.op .ix false [.mv 3,.cst (.int 1)],.op .fdiv false [.mv 4,.cst (.int 2)],.mv 5]])] [],
  .ret [] (.call 207 [.io 0,.mv 1,.mv 3])] }
noncomputable def f_law_turnable:Fn:={ ps:=6,ns:=11,io:=[0],body:=[
  .asg (.q [1,2] []) 6 (.op .ix false [.var 2,.op .len false [.var 1]]),
  .asg (.q [1,6] []) 7 (.op .add false [.var 1,.lst false [.tup [.var 6,.cst (.non)]]]),
  .asg (.l [2,3,7]) 8 (.call 209 [.io 0,.var 7,.var 2,.var 3,.op .fdiv false [.var 4,.cst (.int 2)],.op .max false [.cst (.int 0),.op .sub false [.var 5,.cst (.int 1)]]]),
  .asg (.l []) 9 (.call 203 [.io 0]),
  .asg (.l [1,9]) 10 (.call 206 [.io 0,.var 1,.var 9]),
  .asg (.l [1]) 11 (.call 206 [.io 0,.var 1,.tup [.cst (.str (q "truth"))]]),
  .asg (.l [1,3]) 12 (.call 206 [.io 0,.var 1,.var 3]),
  .asg (.l [6,8,10,11,12]) 13 (.lst false [.tup [.cst (.str (q "let")),.var 6,.var 10,.var 8],.tup [.cst (.str (q "if")),.op .ix false [.lst false [.tup [.cst (.str (q "yes"))],.tup [.cst (.str (q "no"))]],.call 201 [.io 0,.cst (.int 2)]],.var 8,.var 12],.tup [.cst (.str (q "if")),.var 11,.var 8,.var 8]]),
  .asg (.q [8,10,11,12,13] []) 13 (.op .add false [.var 13,.lst false [.tup [.cst (.str (q "if")),.tup [.cst (.str (q "not")),.var 11],.var 8,.var 12],.tup [.cst (.str (q "first")),.tup [.cst (.str (q "pair")),.var 8,.var 10]],.tup [.cst (.str (q "second")),.tup [.cst (.str (q "pair")),.var 10,.var 8]]]]),
  .asg (.q [6,8,12,13] []) 13 (.op .add false [.var 13,.lst false [.tup [.cst (.str (q "pick")),.tup [.cst (.str (q "one")),.var 8],.tup [.cst (.str (q "num")),.cst (.int 0)]],.tup [.cst (.str (q "times")),.var 6,.tup [.cst (.str (q "num")),.cst (.int 0)],.var 12,.var 8]]]),
  .asg (.l [1,3]) 14 (.call 205 [.io 0,.var 1,.var 3]),
  .ite (.q [14] []) (.op .isnot false [.var 14,.cst (.non)]) [
   .app (.q [6,8,11,14] []) 13 (.tup [.cst (.str (q "let")),.var 6,.var 14,.tup [.cst (.str (q "if")),.var 11,.tup [.cst (.str (q "name")),.var 6],.var 8]])] [],
  .ite (.q [3] []) (.op .eq false [.op .ix false [.var 3,.cst (.int 0)],.cst (.str (q "row"))]) [
   .ret [] (.call 213 [.io 0,.mv 1,.mv 2,.mv 3,.mv 8,.mv 13])] [],
  .ite (.q [3] []) (.op .eq false [.var 3,.tup [.cst (.str (q "num"))]]) [
   .asg (.l []) 15 (.tup [.cst (.str (q "num")),.call 201 [.io 0,.cst (.int 9)]]),
   .asg (.l [1]) 16 (.call 207 [.io 0,.var 1,.tup [.cst (.str (q "row")),.tup [.cst (.str (q "num"))]]]),
   .asg (.q [8,13,15] []) 13 (.op .add false [.var 13,.lst false [.tup [.cst (.str (q "add")),.var 8,.tup [.cst (.str (q "num")),.cst (.int 0)]],.tup [.cst (.str (q "mul")),.tup [.cst (.str (q "num")),.cst (.int 1)],.var 8],.tup [.cst (.str (q "sub")),.tup [.cst (.str (q "num")),.cst (.int 5)],.var 15],.tup [.cst (.str (q "add")),.var 8,.var 8]]]),
   .asg (.q [6,8,10,13,15,16] []) 13 (.op .add false [.var 13,.lst false [.tup [.cst (.str (q "long")),.tup [.cst (.str (q "each")),.var 6,.var 16,.var 10]],.tup [.cst (.str (q "pick")),.tup [.cst (.str (q "each")),.var 6,.var 16,.tup [.cst (.str (q "name")),.var 6]],.var 15],.tup [.cst (.str (q "div")),.var 8,.tup [.cst (.str (q "num")),.cst (.int 1)]]]])] [],
  .ite (.q [3] []) (.op .eq false [.var 3,.tup [.cst (.str (q "truth"))]]) [
   .asg (.q [8,13] []) 13 (.op .add false [.var 13,.lst false [.tup [.cst (.str (q "both")),.tup [.cst (.str (q "yes"))],.var 8],.tup [.cst (.str (q "both")),.var 8,.tup [.cst (.str (q "yes"))]],.tup [.cst (.str (q "not")),.tup [.cst (.str (q "not")),.var 8]],.tup [.cst (.str (q "same")),.var 8,.var 8]]])] [],
  .ret [13] (.op .ix false [.var 13,.call 201 [.io 0,.op .len false [.var 13]]])] }
noncomputable def f_law_turnable_row:Fn:={ ps:=6,ns:=9,io:=[0],body:=[
  .asg (.q [1,2] []) 6 (.op .ix false [.var 2,.op .len false [.var 1]]),
  .asg (.q [1,2] []) 7 (.op .ix false [.var 2,.op .add false [.op .len false [.var 1],.cst (.int 1)]]),
  .asg (.l []) 8 (.op .ix false [.lst false [.tup [.cst (.str (q "num"))],.tup [.cst (.str (q "truth"))],.tup [.cst (.str (q "row")),.tup [.cst (.str (q "num"))]]],.call 201 [.io 0,.cst (.int 3)]]),
  .asg (.l [1,8]) 9 (.call 207 [.io 0,.var 1,.tup [.cst (.str (q "row")),.var 8]]),
  .asg (.l [1,3,6,8]) 10 (.call 206 [.io 0,.op .add false [.var 1,.lst false [.tup [.var 6,.var 8]]],.op .ix false [.var 3,.cst (.int 1)]]),
  .asg (.l [1,3]) 11 (.tup [.cst (.str (q "one")),.call 206 [.io 0,.var 1,.op .ix false [.var 3,.cst (.int 1)]]]),
  .asg (.l [1,7,8]) 12 (.call 206 [.io 0,.op .add false [.var 1,.lst false [.tup [.var 7,.var 8]]],.tup [.cst (.str (q "num"))]]),
  .ite (.l []) (.op .eq false [.call 201 [.io 0,.cst (.int 3)],.cst (.int 0)]) [
   .asg (.l [1,7,8,12]) 12 (.tup [.cst (.str (q "div")),.var 12,.call 206 [.io 0,.op .add false [.var 1,.lst false [.tup [.var 7,.var 8]]],.tup [.cst (.str (q "num"))]]])] [],
  .asg (.l [1,3,6]) 13 (.call 206 [.io 0,.op .add false [.var 1,.lst false [.tup [.var 6,.tup [.cst (.str (q "num"))]]]],.op .ix false [.var 3,.cst (.int 1)]]),
  .asg (.q [3,4,6,11] []) 14 (.lst false [.tup [.cst (.str (q "join")),.tup [.cst (.str (q "none")),.op .ix false [.var 3,.cst (.int 1)]],.var 4],.tup [.cst (.str (q "join")),.var 4,.tup [.cst (.str (q "none")),.op .ix false [.var 3,.cst (.int 1)]]],.tup [.cst (.str (q "each")),.var 6,.var 4,.tup [.cst (.str (q "name")),.var 6]],.tup [.cst (.str (q "join")),.var 11,.var 11]]),
  .asg (.q [6,7,9,10,12,13,14] []) 14 (.op .add false [.var 14,.lst false [.tup [.cst (.str (q "flat")),.tup [.cst (.str (q "each")),.var 6,.var 9,.tup [.cst (.str (q "one")),.var 10]]],.tup [.cst (.str (q "each")),.var 6,.tup [.cst (.str (q "each")),.var 7,.var 9,.var 12],.var 13]]]),
  .ite (.q [3] []) (.op .ne false [.op .ix false [.op .ix false [.var 3,.cst (.int 1)],.cst (.int 0)],.cst (.str (q "row"))]) [
   .app (.q [4] []) 14 (.tup [.cst (.str (q "flat")),.tup [.cst (.str (q "one")),.var 4]])] [],
  .asg (.q [5,14] []) 14 (.op .add false [.var 14,.var 5]),
  .ret [14] (.op .ix false [.var 14,.call 201 [.io 0,.op .len false [.var 14]]])] }
noncomputable def a6:Fn:={ ps:=2,ns:=8,io:=[0],body:=[
  .asg (.l []) 2 (.call 202 [.io 0]),
  .asg (.q [] []) 3 (.lst false []),
  .forU .rng [.call 201 [.io 0,.cst (.int 4)]] [4] [
   .app (.l [2]) 3 (.tup [.op .ix false [.var 2,.var 4],.call 203 [.io 0]])],
  .asg (.l []) 5 (.call 203 [.io 0]),
  .asg (.l [2,3,5]) 6 (.call 209 [.io 0,.var 3,.var 2,.var 5,.op .add false [.cst (.int 3),.call 201 [.io 0,.var 1]],.cst (.int 2)]),
  .asg (.l [3]) 7 (.comp false .sq2 [.var 3] [8,9] none (.call 204 [.io 0,.var 9])),
  .ret [] (.tup [.tup [.op .tuple false [.mv 3],.mv 6],.mv 7])] }
noncomputable def aX:Fn:={ ps:=1,ns:=0,io:=[],body:=[
  .ite (.q [0] []) (.op .isin false [.op .ix false [.var 0,.cst (.int 0)],.lst false [.cst (.str (q "num")),.cst (.str (q "name")),.cst (.str (q "none"))]]) [
   .ret [] (.lst false [])] [],
  .ret [0] (.op .list false [.op .sl1 false [.var 0,.op .ix false [.lst false [.cst (.int 1),.cst (.int 2)],.op .int false [.op .isin false [.op .ix false [.var 0,.cst (.int 0)],.lst false [.cst (.str (q "let")),.cst (.str (q "each")),.cst (.str (q "times"))]]]]]])] }
noncomputable def bg:Fn:={ ps:=1,ns:=4,io:=[],body:=[
  .asg (.q [] []) 1 (.lst false []),
  .forS [0] [] .enm [.call 194 [.var 0]] [2,3] [
   .asg (.q [1,3] [2]) 1 (.op .add false [.var 1,.comp false .seq [.call 195 [.var 3]] [4] none (.op .add false [.tup [.var 2],.var 4])])],
  .ret [] (.op .add false [.mv 1,.lst false [.tup []]])] }
noncomputable def bx:Fn:={ ps:=2,ns:=1,io:=[],body:=[
  .forS [1] [] .seq [.var 1] [2] [
   .asg (.q [0] [2]) 0 (.op .ix false [.call 194 [.var 0],.var 2])],
  .ret [] (.mv 0)] }
noncomputable def aU:Fn:={ ps:=1,ns:=1,io:=[],body:=[
  .ite (.q [0] []) (.op .isin false [.op .ix false [.var 0,.cst (.int 0)],.lst false [.cst (.str (q "sum")),.cst (.str (q "sums")),.cst (.str (q "most")),.cst (.str (q "upto")),.cst (.str (q "flat")),.cst (.str (q "add")),.cst (.str (q "sub")),.cst (.str (q "mul")),.cst (.str (q "div")),.cst (.str (q "rest")),.cst (.str (q "pick")),.cst (.str (q "join")),.cst (.str (q "keep")),.cst (.str (q "cut")),.cst (.str (q "times"))]]) [
   .ret [] (.cst (.bl false))] [],
  .ret [] (.op .all false [.comp false .seq [.call 194 [.mv 0]] [1] none (.call 198 [.var 1])])] }
noncomputable def jD:Fn:={ ps:=1,ns:=5,io:=[],body:=[
  .asg (.q [0] []) 1 (.call 179 [.var 0]),
  .asg (.l []) 2 (.op .ix false [.op .ix false [.call 214 [.io 1,.cst (.int 16)],.cst (.int 0)],.cst (.int 1)]),
  .forS [2] [] .seq [.call 195 [.var 2]] [3] [
   .asg (.q [2,3] []) 4 (.call 196 [.var 2,.var 3]),
   .asg (.q [4] []) 5 (.call 178 [.var 4]),
   .ite (.q [4,5] []) (.or (.not (.op (.isI ["bool"]) false [.var 5])) (.op .ne false [.var 5,.call 198 [.var 4]])) [
    .ret [] (.cst (.bl false))] []],
  .ret [] (.cst (.bl true))] }
noncomputable def prog:List Fn:=[jD,zf,zf,zf,zf,zf,zf,zf,zf,zf,zf,zf,zf,zf,zf,zf,zf,zf,zf,zf,zf,zf,zf,zf,zf,zf,zf,zf,zf,zf,zf,zf,zf,zf,zf,zf,zf,zf,zf,zf,zf,zf,zf,zf,zf,zf,zf,zf,zf,zf,zf,zf,zf,zf,zf,zf,zf,zf,zf,zf,zf,zf,zf,zf,zf,zf,zf,zf,zf,zf,zf,zf,zf,zf,zf,zf,zf,zf,zf,zf,zf,zf,zf,zf,zf,zf,zf,zf,zf,zf,zf,zf,zf,zf,zf,zf,zf,zf,zf,zf,zf,zf,zf,zf,zf,zf,zf,zf,zf,zf,zf,zf,zf,zf,zf,zf,zf,zf,zf,zf,zf,zf,zf,zf,zf,zf,zf,zf,zf,zf,zf,zf,zf,zf,zf,zf,zf,zf,zf,zf,zf,zf,zf,zf,zf,zf,zf,zf,zf,zf,zf,zf,zf,zf,zf,zf,zf,zf,zf,zf,zf,zf,zf,zf,zf,zf,zf,zf,zf,zf,zf,zf,zf,zf,zf,aT,cf,bj,bV,bG,zf,zf,zf,zf,zf,zf,zf,zf,zf,zf,zf,zf,zf,zf,aX,bg,bx,zf,aU,zf,zf,bo,a8,bK,aP,a7,f_law_leaf,ba,aL,aB,aC,f_law_rows,f_law_turnable,f_law_turnable_row,a6]
end A60

set_option compiler.extract_closed false
namespace P60
noncomputable section
open M A60
open PySem (Str)
local macro_rules
 | `(tactic| simp_all only [$ls,*])=>`(tactic| simp only [sA,u6,vN,uT,wc,sX,uQ,se,qH,qY,oM,oY,pd,qf,oQ,oz,pY,pR,pS,ox,qQ,pO,pQ,oZ,pK,oP,q4,pw,pC,lJ,jq,pG,qb,qS,my,lS,pP,p8,q8,n9,iX,lC,kOp,mY,kOr,jQ,kC3,kC2,kC1,ie,eh,dD,cy,gX,hZ,c7,i9,bc,kX,kT,kT2,kIf,pf,nW,vM,kW,pq,jR,kNx,kRt,il,oe,n6,okW,jk,rN,eR,bb,aw,ios,putAll,ug,zY,vg,wG,td,qI,qg,oE,tv,rZ,vn,uO,wz,vP,sR,xX,xY,yP,yu,zw,yn,qo,qj,ph,qM,xI,uh,lW,mE,mj,nh,vj,qz,qA,mS,k5,xj,yB,zr,wZ,kQ,lY,kG,uu,uc,wD,sk,tD,uz,vZ,sE,qV,pU,oA,vf,lD,lO,nX,xF,nA,nH,rS,vE,vH,uE,tJ,tQ,sP,AX,As,zU,zZ,yH,wN,sD,tw,vX,xo,wJ,rW,wM,qa,vV,y0,qJ,oC,zp,sZ,wd,uJ,v7,mV,kN,mG,yZ,lz,lq,qr,oU,q5,p7,vR,vJ,wm,nO,cV,kn,jV,ki,rX,uI,tH,vB,u7,u0,vO,uK,yQ,nV,kJ,vb,vc,at0,at1,at2,at3,at4,a0Z,a0K,a0N,a0C,a1i,a0I,List.replicate_zero,reduceIte,if_true,if_false,String.reduceBEq,Bool.not_true,Bool.not_false,Bool.false_eq_true,a0j,Bool.true_and,a2Q,p6,kIo,sj,tK,j2,lU,jM,j9,jY,kb,lK,jJ,mH,jL,jU,iG,iM,uP,kg,jI,zX,u9,uq,vz,xK,zd,yt,sv,pk,s8,vW,sF,pA,pL,xV,yg,Ao,xn,zy,yb,xi,xU,y6,Aj,wU,yT,zk,zt,yx,zq,zc,ya,Ap,AH,AM,uV,qk,uk,$ls,*])
noncomputable abbrev C (n:Nat):Call:=callR prog 1000000 1000001 n
theorem eQ (n:Nat)(ws:List W):C (n+1) 175 ws=runF (C n) aT ws:=rfl
theorem eH (n:Nat)(ws:List W):C (n+1) 176 ws=runF (C n) cf ws:=rfl
theorem dA (n:Nat)(ws:List W):C (n+1) 177 ws=runF (C n) bj ws:=rfl
theorem iC (n:Nat)(ws:List W):C (n+1) 178 ws=runF (C n) bV ws:=rfl
theorem hV (n:Nat)(ws:List W):C (n+1) 179 ws=runF (C n) bG ws:=rfl
theorem b7 (n:Nat)(ws:List W):C (n+1) 194 ws=runF (C n) aX ws:=rfl
theorem eX (n:Nat)(ws:List W):C (n+1) 195 ws=runF (C n) bg ws:=rfl
theorem gx (n:Nat)(ws:List W):C (n+1) 196 ws=runF (C n) bx ws:=rfl
theorem cu (n:Nat)(ws:List W):C (n+1) 198 ws=runF (C n) aU ws:=rfl
theorem gP (n:Nat)(ws:List W):C (n+1) 201 ws=runF (C n) bo ws:=rfl
theorem gq (n:Nat)(ws:List W):C (n+1) 202 ws=runF (C n) a8 ws:=rfl
theorem gJ (n:Nat)(ws:List W):C (n+1) 203 ws=runF (C n) bK ws:=rfl
theorem bF (n:Nat)(ws:List W):C (n+1) 204 ws=runF (C n) aP ws:=rfl
theorem gw (n:Nat)(ws:List W):C (n+1) 205 ws=runF (C n) a7 ws:=rfl
theorem gE (n:Nat)(ws:List W):C (n+1) 206 ws=runF (C n) f_law_leaf ws:=rfl
theorem iJ (n:Nat)(ws:List W):C (n+1) 207 ws=runF (C n) ba ws:=rfl
theorem gr (n:Nat)(ws:List W):C (n+1) 208 ws=runF (C n) aL ws:=rfl
theorem dC (n:Nat)(ws:List W):C (n+1) 209 ws=runF (C n) aB ws:=rfl
theorem fX (n:Nat)(ws:List W):C (n+1) 210 ws=runF (C n) aC ws:=rfl
theorem gW (n:Nat)(ws:List W):C (n+1) 211 ws=runF (C n) f_law_rows ws:=rfl
theorem dE (n:Nat)(ws:List W):C (n+1) 212 ws=runF (C n) f_law_turnable ws:=rfl
theorem cK (n:Nat)(ws:List W):C (n+1) 213 ws=runF (C n) f_law_turnable_row ws:=rfl
theorem d8 (n:Nat)(ws:List W):C (n+1) 214 ws=runF (C n) a6 ws:=rfl
theorem qeq (a b:String):(q a==q b)=(a==b):=by
 by_cases h:a=b
 ·subst h; simp
 ·have h2:q a≠q b:=fun z=>h (by
   have:=congrArg (fun s:Str=>s.cps.toList) z
   rw [q,Str.ofString_eq_toList,Str.ofString_eq_toList] at this
   simp only at this
   have h3:a.toList=b.toList:=by
    have inj:∀ l1 l2:List Char,l1.map Char.toNat=l2.map Char.toNat->l1=l2:=by
     intro l1
     induction l1 with
     | nil=>intro l2 h; cases l2 with
      | nil=>rfl
      | cons=>cases h
     | cons c cs ih=>intro l2 h; cases l2 with
      | nil=>cases h
      | cons d ds =>
       rw [a0C,a0C] at h
       injection h with h1 h2
       rw [ih ds h2,Char.toNat_inj.mp h1]
    exact inj _ _ (by simpa using this)
   exact String.toList_inj.mp h3)
  rw [beq_eq_false_iff_ne.mpr h2,beq_eq_false_iff_ne.mpr h]
noncomputable def kA (ns:List Int)(x y:Int):T:=.lst [.lst (ns.map T.int),.int x,.int y]
noncomputable def Tp (N:Nat)(t:T):Prop:=∃ ns x y,t=kA ns ((x:Nat):Int) y/\x<=N
theorem tm {a b:Nat}{t:T}(h:Tp a t)(hab:a<=b):Tp b t:=by obtain ⟨ns,x,y,e,hx⟩:=h; exact ⟨ns,x,y,e,a0m hx hab⟩
theorem uN {α:Type}(a b c:α):ixN [a,b,c].length 1=some 1:=rfl
theorem rV {α:Type}(a b c:α):ixN [a,b,c].length 2=some 2:=rfl
theorem ez:oSem .pow false [(.d,.int 10),(.d,.int 18)]=some (.d,.int 1000000000000000000):=rfl
theorem xM {ns:List Int}{x:Int}(hx:0<=x)(hn:ns≠[]):∃ c,atI (ns.map T.int) (x.fmod ((ns.map T.int).length:Int))=some (.int c):=by
 have hl:0 < ns.length:=a2g.mpr hn
 have e:((ns.map T.int).length:Int)=(ns.length:Int):=by rw [a0d]
 rw [e,a1d x (by omega)]
 have h1:0<=x % (ns.length:Int):=a16 _ (by omega)
 have h2:x % (ns.length:Int) < ns.length:=a1F _ (by omega)
 obtain ⟨j,hj⟩:∃ j:Nat,x % (ns.length:Int)=j:=⟨_,(Int.toNat_of_nonneg h1).symm⟩
 have hj':j < ns.length:=by omega
 exact ⟨ns[j],atN hj (by rw [a0x,a0q hj']; rfl)⟩
theorem fm {a k:Int}(hk:0 < k):0<=a.fmod k/\a.fmod k < k:=by
 rw [a1d a (by omega)]
 exact ⟨a16 _ (by omega),a1F _ hk⟩
theorem yr {n N:Nat}{t:T}(m:Md)(k:Int)(ht:Tp N t)(hN:N < 1000000000000000000)(hk:0 < k)(hk2:k < 1000000000000000000) :
  ∃ r t',0<=r/\r < k/\Tp (N+1) t'/\C (n+1) 201 [(.d,t),(m,.int k)]=.ok ((.d,.int r),[(.d,t')]):=by
 obtain ⟨ns,x,y,rfl,hx⟩:=ht
 have k0:(k != 0)=true:=bne_iff_ne.mpr (by omega)
 have k1:decide (k.natAbs < 18446744073709551616)=true:=decide_eq_true (by omega)
 rw [gP,x_run _ _ _ rfl]
 cases hz:decide (0 < y) with
 | true =>
  refine ⟨y.fmod k,kA ns ((x:Nat):Int) (y.fdiv k),(fm hk).1,(fm hk).2,⟨ns,x,_,rfl,by omega⟩,?_⟩
  simp_all only [bo,kA,hz,k0,k1,uN,rV,a1G,a1H]
 | false =>
  simp_all only [bo,kA,hz,uN,rV,a1G,a1H]
  generalize hE:onF _ _ _ _=e
  obtain ⟨c,rfl⟩:∃ c:Int,e=.nx [some (Md.d,T.lst [T.lst (a1y T.int ns),T.int ((x:Nat)+1),T.int y]),some (m,T.int k),none,some (Md.d,T.int x),some (Md.d,T.int c),none]:=by
   rw [<- hE]
   by_cases hn:ns=[]
   ·subst hn
    exact ⟨0,rfl⟩
   ·obtain ⟨c,hc⟩:=xM (x:=(x:Int)) (by omega) hn
    have hp:decide (0 < ((a1y T.int ns).length:Int))=true:=decide_eq_true (by rw [a0d]; have:=a2g.mpr hn; omega)
    have hq:(((a1y T.int ns).length:Int) != 0)=true:=bne_iff_ne.mpr (by have:=of_decide_eq_true hp; omega)
    refine ⟨c,?_⟩
    simp_all only [hp,hq,hc]
  have xb:decide ((x:Int).natAbs < 18446744073709551616)=true:=decide_eq_true (by omega)
  have cb:∀ a:Int,decide ((a.fmod 1000003+1).natAbs < 18446744073709551616)=true:=fun a=>decide_eq_true (by have:=fm (a:=a) (show (0:Int) < 1000003 by decide); omega)
  have nb:∀ a:Int,decide ((a.fmod 2147483647).natAbs < 18446744073709551616)=true:=fun a=>decide_eq_true (by have:=fm (a:=a) (show (0:Int) < 2147483647 by decide); omega)
  have b1:decide ((7919:Int).natAbs < 18446744073709551616)=true:=rfl
  have b2:decide ((104729:Int).natAbs < 18446744073709551616)=true:=rfl
  have b3:decide ((48271:Int).natAbs < 18446744073709551616)=true:=rfl
  have z1:((1000003:Int) != 0)=true:=rfl
  have z2:((2147483647:Int) != 0)=true:=rfl
  have z3:((65537:Int) != 0)=true:=rfl
  have z4:((2147483629:Int) != 0)=true:=rfl
  have z5:((8:Int) != 0)=true:=rfl
  have z6:decide ((8:Int).natAbs < 18446744073709551616)=true:=rfl
  cases h1:decide ((x:Int) < ((a1y T.int ns).length:Int)) with
  | false =>
   simp_all only [h1,k0,k1,ez,xb,cb,nb,b1,b2,b3,z1,z2,z3,z4,z5,z6,a1t,a2s]
   exact ⟨_,_,(fm hk).1,(fm hk).2,⟨ns,x+1,y,rfl,by omega⟩,rfl⟩
  | true =>
   cases h2:decide (1000000000000000000<=c) with
   | false =>
    simp_all only [h1,h2,k0,k1,ez,xb,cb,nb,b1,b2,b3,z1,z2,z3,z4,z5,z6,a1t,a2s]
    exact ⟨_,_,(fm hk).1,(fm hk).2,⟨ns,x+1,y,rfl,by omega⟩,rfl⟩
   | true =>
    simp_all only [h1,h2,k0,k1,ez,uN,rV,a1G,a1H]
    exact ⟨_,_,(fm hk).1,(fm hk).2,⟨ns,x+1,c.fdiv k,rfl,by omega⟩,rfl⟩
noncomputable abbrev LF:List String:=["num","name","none"]
noncomputable abbrev BF:List String:=["let","each","times"]
noncomputable abbrev NF:List String:=["yes","no","not","first","second","one","upto","long","sum","sums","most","flat","add","sub","mul","div","rest","less","same","both","pair","pick","join","keep","cut","if"]
mutual
inductive WT:Nat->Nat->T->Prop
 | leaf {d n:Nat} {s:String} {x:T}:s∈LF->WT (d+1) (n+1) (.tup [.str (q s),x])
 | bind {d n:Nat} {s:String} {x:T} {ps:List T}:s∈BF->WL d n ps->WT (d+1) (n+1) (.tup (.str (q s)::x::ps))
 | node {d n:Nat} {s:String} {ps:List T}:s∈NF->WL d n ps->WT (d+1) (n+1) (.tup (.str (q s)::ps))
inductive WL:Nat->Nat->List T->Prop
 | nil {d n:Nat}:WL d n []
 | cons {d n a b:Nat} {t:T} {ts:List T}:WT d a t->WL d b ts->a+b<=n->WL d n (t::ts)
end
noncomputable def aV:T->List T
 | .tup (.str s::r)=>if keys_AHEAD.contains s then r.drop 1 else r
 | _=>[]
noncomputable def sgT:T->Str
 | .tup (.str s::_)=>s
 | _=>q ""
theorem AK:∀ s∈NF,keys_AHEAD.contains (q s)=false:=by decide +kernel
theorem AL:∀ s∈BF,keys_AHEAD.contains (q s)=true:=by decide +kernel
theorem zW:∀ s∈LF,keys_AHEAD.contains (q s)=true:=by decide +kernel
noncomputable abbrev l3:List T:=[.str (q "num"),.str (q "name"),.str (q "none")]
noncomputable abbrev b3:List T:=[.str (q "let"),.str (q "each"),.str (q "times")]
theorem AV:∀ s∈NF,(l3.any fun t=>eqT t (.str (q s)))=false:=by decide +kernel
theorem Ba:∀ s∈BF,(l3.any fun t=>eqT t (.str (q s)))=false:=by decide +kernel
theorem AA:∀ s∈LF,(l3.any fun t=>eqT t (.str (q s)))=true:=by decide +kernel
theorem zP:∀ s∈NF,(b3.any fun t=>eqT t (.str (q s)))=false:=by decide +kernel
theorem Ak:∀ s∈BF,(b3.any fun t=>eqT t (.str (q s)))=true:=by decide +kernel
theorem fl3 (x a b c:Str):(M.flatT (.str x)&&[T.str a,.str b,.str c].all M.flatT)=true:=rfl
theorem Az {α:Type}(a:α)(r:List α):cut (a::r) (some 1) none=r:=by
 have e:sIx (a::r).length 0 (some 1)=1:=by
  show (if (1:Int) < 0 then ((1:Int)+((a::r).length:Int)).toNat else min (1:Int).toNat (a::r).length)=1
  rw [if_neg (by decide),a0t]
  show min 1 (r.length+1)=1
  omega
 have e2:sIx (a::r).length (a::r).length none=(a::r).length:=rfl
 rw [cut,e,e2]
 exact a1q (by rw [a1f]; omega)
theorem x4 {α:Type}(a b:α)(r:List α):cut (a::b::r) (some 2) none=r:=by
 have e:sIx (a::b::r).length 0 (some 2)=2:=by
  show (if (2:Int) < 0 then ((2:Int)+((a::b::r).length:Int)).toNat else min (2:Int).toNat (a::b::r).length)=2
  rw [if_neg (by decide),a0t,a0t]
  show min 2 (r.length+1+1)=2
  omega
 have e2:sIx (a::b::r).length (a::b::r).length none=(a::b::r).length:=rfl
 rw [cut,e,e2]
 exact a1q (by rw [a1f]; omega)
theorem eL (h:Bool)(m n:Md)(ts:List T)(i:Int):oSem .sl1 h [(m,.tup ts),(n,.int i)]=some (.s,.tup (cut ts (some i) none)):=rfl
theorem iD (n:Nat)(s:Str)(m:Md):C (n+1) 175 [(m,.str s)]=.ok ((.d,.int (if keys_AHEAD.contains s then 2 else 1)),[]):=by
 rw [eQ,x_run _ _ _ rfl]
 cases h:keys_AHEAD.contains s with
 | true=>simp_all only [aT,h,a2d]
 | false=>simp_all only [aT,h,a2d]
theorem bf {d k:Nat}{t:T}(h:WT d k t)(n:Nat):(∀ m,C (n+2) 176 [(m,t)]=.ok ((.s,.tup (aV t)),[]))/\(∀ m,C (n+1) 194 [(m,t)]=.ok ((.o .s,.lst (aV t)),[]))/\(∃ d' k',d=d'+1/\k=k'+1/\WL d' k' (aV t))/\∃ r,t=.tup (.str (sgT t)::r):=by
 cases h with
 | leaf hs =>
  rename_i d k s x
  have e1:=zW s hs
  have p:=fun m=>iD n (q s) m
  rw [e1,if_pos rfl] at p
  have e2:=AA s hs
  have ep:aV (.tup [.str (q s),x])=[]:=by show (if keys_AHEAD.contains (q s) then ([x]:List T).drop 1 else [x])=[]; rw [e1]; rfl
  refine ⟨fun m=>?_,fun m=>?_,⟨d,k,rfl,rfl,by rw [ep]; exact .nil⟩,_,rfl⟩
  ·rw [eH,x_run _ _ _ rfl,ep]
   have c2:=x4 (T.str (q s)) x []
   simp_all only [cf,p,eL,c2]
  ·rw [b7,x_run _ _ _ rfl,ep]
   simp_all only [aX,fl3,if_true,e2]
 | bind hs hw =>
  rename_i d k s x ps
  have e1:=AL s hs
  have p:=fun m=>iD n (q s) m
  rw [e1,if_pos rfl] at p
  have e2:=Ba s hs
  have e3:=Ak s hs
  have ep:aV (.tup (.str (q s)::x::ps))=ps:=by show (if keys_AHEAD.contains (q s) then (x::ps:List T).drop 1 else x::ps)=ps; rw [e1]; rfl
  have c2:=x4 (T.str (q s)) x ps
  have at12:atI [T.int 1,T.int 2] (b2i true)=some (.int 2):=rfl
  refine ⟨fun m=>?_,fun m=>?_,⟨d,k,rfl,rfl,by rw [ep]; exact hw⟩,_,rfl⟩
  ·rw [eH,x_run _ _ _ rfl,ep]
   simp_all only [cf,p,eL,c2]
  ·rw [b7,x_run _ _ _ rfl,ep]
   simp_all only [aX,fl3,if_true,e2,e3,at12,eL,c2]
 | node hs hw =>
  rename_i d k s ps
  have e1:=AK s hs
  have p:=fun m=>iD n (q s) m
  rw [e1,if_neg (by decide)] at p
  have e2:=AV s hs
  have e3:=zP s hs
  have ep:aV (.tup (.str (q s)::ps))=ps:=by show (if keys_AHEAD.contains (q s) then ps.drop 1 else ps)=ps; rw [e1]; rfl
  have c1:=Az (T.str (q s)) ps
  have at12:atI [T.int 1,T.int 2] (b2i false)=some (.int 1):=rfl
  refine ⟨fun m=>?_,fun m=>?_,⟨d,k,rfl,rfl,by rw [ep]; exact hw⟩,_,rfl⟩
  ·rw [eH,x_run _ _ _ rfl,ep]
   simp_all only [cf,p,eL,c1]
  ·rw [b7,x_run _ _ _ rfl,ep]
   simp_all only [aX,fl3,if_true,e2,e3,at12,eL,c1]
theorem WL.mem:∀ {d n:Nat} {ts:List T},WL d n ts->∀ t∈ts,∃ a,a<=n/\WT d a t
 | _,_,_,.nil,_,h=>nomatch h
 | d,n,_,.cons (a:=a) (b:=b) h1 h2 h3,t,h=>by
  rcases a0H.mp h with rfl | h
  ·exact ⟨a,by omega,h1⟩
  ·obtain ⟨c,hc,w⟩:=WL.mem h2 t h
   exact ⟨c,by omega,w⟩
noncomputable abbrev stp:List T:=[.str (q "sum"),.str (q "sums"),.str (q "most"),.str (q "upto"),.str (q "flat"),.str (q "add"),.str (q "sub"),.str (q "mul"),.str (q "div"),.str (q "rest"),.str (q "pick"),.str (q "join"),.str (q "keep"),.str (q "cut"),.str (q "times")]
theorem oo (x:Str):(M.flatT (.str x)&&stp.all M.flatT)=true:=rfl
theorem iw:∀ bs:List Bool,boolsOf (bs.map T.bl)=some bs
 | []=>rfl
 | b::bs=>by show (boolsOf (bs.map T.bl)).map (b::·)=_; rw [iw bs]; rfl
theorem b4 {α:Type}(f:α->Md)(g:α->T):∀ ts:List α,bb (ts.map fun x=>(f x,g x))=ts.map g
 | []=>rfl
 | x::ts=>by show g x::bb _=g x::ts.map g; rw [b4 f g ts]
theorem pJ (bs:List Bool):(bs.map not).all id=!(bs.any id):=by
 induction bs with
 | nil=>rfl
 | cons b bs ih=>rw [a0C,a1b,a1Q,ih]; cases b<;>rfl
theorem jm:∀ (d k:Nat) (t:T),WT d k t->∃ b:Bool,∀ n,(∀ m,C (n+d+2) 177 [(m,t)]=.ok ((.d,.bl b),[]))/\(∀ m,C (n+d+2) 198 [(m,t)]=.ok ((.d,.bl (!b)),[]))
 | 0,_,_,h=>nomatch h
 | d+1,k,t,h=>by
  have wl:∃ k',WL d k' (aV t):=by
   obtain ⟨_,_,⟨d',k',e1,e2,wl⟩,_⟩:=bf h 0
   cases e1
   exact ⟨k',wl⟩
  obtain ⟨k',wl⟩:=wl
  have H:∀ u∈aV t,∃ b:Bool,∀ n,(∀ m,C (n+d+2) 177 [(m,u)]=.ok ((.d,.bl b),[]))/\(∀ m,C (n+d+2) 198 [(m,u)]=.ok ((.d,.bl (!b)),[])):=fun u hu=>by
   obtain ⟨a,_,w⟩:=wl.mem u hu
   exact jm d a u w
  obtain ⟨β,hβ⟩:∃ β:T->Bool,∀ u∈aV t,∀ n,(∀ m,C (n+d+2) 177 [(m,u)]=.ok ((.d,.bl (β u)),[]))/\(∀ m,C (n+d+2) 198 [(m,u)]=.ok ((.d,.bl (!(β u))),[])):=by
   classical
   refine ⟨fun u=>if hu:u∈aV t then a2z (H u hu) else false,fun u hu=>?_⟩
   have:=a17 (H u hu)
   simp only [dif_pos hu]
   exact this
  refine ⟨(stp.any fun u=>eqT u (.str (sgT t))) || ((aV t).map β).any id,fun n=>?_⟩
  obtain ⟨p1,_,_,r,et⟩:=bf h (n+d)
  have p2:=(bf h (n+d+1)).2.1
  have c1:∀ w0,aQ [1] (cy (evE (C (n+d+2)) (.call 177 [.var 1]))) ((aV t).map fun t=>[((.s,t):W)]) [w0,none] []=.ok ([]++(aV t).map (fun u=>((.d,.bl (β u)):W)),[w0,none]):=fun w0=>cB _ _ [] fun u hu=>⟨_,[w0,some (.s,u)],rfl,by
   have e:=(hβ u hu n).1
   simp_all only [e],rfl⟩
  have c2:∀ w0,aQ [1] (cy (evE (C (n+d+2)) (.call 198 [.var 1]))) ((aV t).map fun t=>[((.s,t):W)]) [w0,none] []=.ok ([]++(aV t).map (fun u=>((.d,.bl (!(β u))):W)),[w0,none]):=fun w0=>cB _ _ [] fun u hu=>⟨_,[w0,some (.s,u)],rfl,by
   have e:=(hβ u hu n).2
   simp_all only [e],rfl⟩
  have t1:bb ((aV t).map fun u=>((.d,.bl (β u)):W))=((aV t).map β).map T.bl:=by rw [b4 (fun _=>Md.d) (fun u=>T.bl (β u)),a04]; rfl
  have t2:bb ((aV t).map fun u=>((.d,.bl (!(β u))):W))=(((aV t).map β).map not).map T.bl:=by rw [b4 (fun _=>Md.d) (fun u=>T.bl (!(β u))),a04,a04]; rfl
  have aa:=pJ ((aV t).map β)
  generalize (aV t).map β=bs at t1 t2 aa
  rw [show n+(d+1)+2=(n+d+2)+1 by omega]
  generalize hp:aV t=ps at p1 p2 c1 c2 t1 t2
  generalize hsg:sgT t=sg at et
  subst et
  cases hs:stp.any fun u=>eqT u (.str sg) with
  | true =>
   refine ⟨fun m=>?_,fun m=>?_⟩
   ·rw [dA,x_run _ _ _ rfl]
    simp_all only [bj,oo,if_true,hs,a1t]
   ·rw [cu,x_run _ _ _ rfl]
    simp_all only [aU,oo,if_true,hs,a1t]
  | false =>
   refine ⟨fun m=>?_,fun m=>?_⟩
   ·rw [dA,x_run _ _ _ rfl]
    simp_all only [bj,oo,if_true,hs,p1,c1,t1,iw,a2R]
   ·rw [cu,x_run _ _ _ rfl]
    simp_all only [aU,oo,if_true,hs,p2,c2,t2,iw,aa,a2R]
theorem s9 (d k:Nat)(t:T)(h:WT d k t):∃ b:Bool,∀ n,(∀ m,C (n+d+3) 178 [(m,t)]=.ok ((.d,.bl b),[]))/\(∀ m,C (n+d+3) 198 [(m,t)]=.ok ((.d,.bl b),[])):=by
 obtain ⟨b,hb⟩:=jm d k t h
 refine ⟨!b,fun n=>⟨fun m=>?_,fun m=>?_⟩⟩
 ·have e:=(hb n).1
  rw [show n+d+3=(n+d+2)+1 by omega,iC,x_run _ _ _ rfl]
  simp_all only [bV,e]
 ·have e:=(hb (n+1)).2 m
  rw [show n+1+d+2=n+d+3 by omega] at e
  exact e
noncomputable def plT (p:List Nat):T:=.tup (p.map fun (i:Nat)=>T.int (i:Int))
noncomputable def AtP:List Nat->T->T->Prop
 | [],t,u=>u=t
 | k::r,t,u=>∃ p,(aV t)[k]?=some p/\AtP r p u
noncomputable def bH (π:T->List (List Nat)):Nat->List T->List (List Nat)
 | _,[]=>[]
 | i,u::us=>(π u).map (i::·)++bH π (i+1) us
noncomputable abbrev rq:List S:=[
   .asg (.q [1,3] [2]) 1 (.op .add false [.var 1,.comp false .seq [.call 195 [.var 3]] [4] none (.op .add false [.tup [.var 2],.var 4])])]
theorem vY (i:Nat)(p:List Nat)(m n:Md)(hp:p.length<=1000):oSem .add false [(m,.tup [.int (i:Int)]),(n,plT p)]=some (.s,plT (i::p)):=by
 show (if (a4 ([T.int (i:Int)].length+(p.map fun (i:Nat)=>T.int (i:Int)).length)&&!([T.int (i:Int)].isEmpty))=true then some ((.s,.tup ([T.int (i:Int)]++p.map fun (i:Nat)=>T.int (i:Int))):W) else none)=_
 rw [show a4 ([T.int (i:Int)].length+(p.map fun (i:Nat)=>T.int (i:Int)).length)=true from decide_eq_true (by rw [a0d,a0u]; show _<=16777215; omega)]
 rfl
theorem rR {n:Nat}{o0:Option W}{π:T->List (List Nat)}:∀ (ps:List T) (i:Nat) (acc:List (List Nat)) (o2 o3:Option W),(∀ u∈ps,(∀ m,C n 195 [(m,u)]=.ok ((.o .s,.lst ((π u).map plT)),[]))/\∀ p∈π u,p.length<=1000)->acc.length+(bH π i ps).length<=1000000 ->
  ∃ o2' o3',dH [2,3] (evSs (C n) rq) (dW .s i ps) [o0,some (.o .s,.lst (acc.map plT)),o2,o3,none]=.nx [o0,some (.o .s,.lst ((acc++bH π i ps).map plT)),o2',o3',none]
 | [],i,acc,o2,o3,_,_=>⟨o2,o3,by rw [bH,a0N]; rfl⟩
 | u::ps,i,acc,o2,o3,h,hl=>by
  rw [bH,a0c,a0d] at hl
  obtain ⟨e,hp⟩:=h u a0o
  have du:∀ w1 w3,aQ [4] (cy (evE (C n) (.op .add false [.tup [.var 2],.var 4]))) (((π u).map plT).map fun t=>[((.s,t):W)]) [none,w1,some (.d,.int (i:Int)),w3,none] []=.ok ([]++(π u).map (fun p=>((.s,plT (i::p)):W)),[none,w1,some (.d,.int (i:Int)),w3,none]):=fun w1 w3=>by
   rw [a04]
   refine cB (g:=(fun t=>[((.s,t):W)]) ∘ plT) (fun p=>((.s,plT (i::p)):W)) (π u) [] fun p hp'=>⟨_,[none,w1,some (.d,.int (i:Int)),w3,some (.s,plT p)],rfl,?_,rfl⟩
   have a:=fun m n=>vY i p m n (hp p hp')
   simp_all only [a]
  have tr:bb ((π u).map fun p=>((.s,plT (i::p)):W))=((π u).map (i::·)).map plT:=by rw [b4 (fun _=>Md.s) (fun p=>plT (i::p)),a04]; rfl
  have ff:a4 ((acc.map plT).length+(((π u).map (i::·)).map plT).length)=true:=decide_eq_true (by rw [a0d,a0d,a0d]; show _<=16777215; omega)
  have ap:acc.map plT++((π u).map (i::·)).map plT=(acc++(π u).map (i::·)).map plT:=a09.symm
  have step:evSs (C n) rq [o0,some (.o .s,.lst (acc.map plT)),some (.d,.int (i:Int)),some (.s,u),none]=.nx [o0,some (.o .s,.lst ((acc++(π u).map (i::·)).map plT)),some (.d,.int (i:Int)),some (.s,u),none]:=by
   simp_all only [e,du,tr,ff,ap]
  obtain ⟨o2',o3',ih⟩:=rR (n:=n) (o0:=o0) (π:=π) ps (i+1) (acc++(π u).map (i::·)) (some (.d,.int (i:Int))) (some (.s,u)) (fun v hv=>h v (a0p _ hv)) (by rw [a0c,a0d]; omega)
  refine ⟨o2',o3',?_⟩
  rw [bH,<- a0X]
  exact (congrArg (Fl.turn · _) step).trans ih
theorem fD {π:T->List (List Nat)}:∀ (ps:List T) (i:Nat) (p:List Nat),p∈bH π i ps->∃ j u r,ps[j]?=some u/\p=(i+j)::r/\r∈π u
 | [],_,_,h=>nomatch h
 | u::ps,i,p,h=>by
  rw [bH] at h
  rcases a0O.mp h with h | h
  ·obtain ⟨r,hr,rfl⟩:=a1j.mp h
   exact ⟨0,u,r,rfl,rfl,hr⟩
  ·obtain ⟨j,v,r,h1,h2,h3⟩:=fD ps (i+1) p h
   exact ⟨j+1,v,r,h1,by rw [h2]; congr 1; omega,h3⟩
theorem fq {π:T->List (List Nat)}{d:Nat}:∀ {ps:List T} {n:Nat} (i:Nat),WL d n ps->(∀ u∈ps,∀ k,WT d k u->(π u).length<=k)->(bH π i ps).length<=n
 | [],n,i,_,_=>a0U _
 | u::ps,n,i,.cons (a:=a) (b:=b) h1 h2 h3,h=>by
  have e1:=h u a0o a h1
  have e2:=fq (i+1) h2 fun v hv=>h v (a0p _ hv)
  rw [bH,a0c,a0d]
  omega
theorem fj:∀ (d:Nat) (t:T),d<=100->(∃ k,k<=100000/\WT d k t)->∃ pls:List (List Nat),(∀ k,WT d k t->pls.length<=k)/\(∀ p∈pls,p.length<=d/\∃ u d' k',d'<=d/\WT d' k' u/\AtP p t u)/\∀ n m,C (n+d+1) 195 [(m,t)]=.ok ((.o .s,.lst (pls.map plT)),[])
 | 0,t,_,⟨k,_,h⟩=>nomatch h
 | d+1,t,hd,⟨k,hk,h⟩=>by
  have inv:∀ k,WT (d+1) k t->∃ k',k=k'+1/\WL d k' (aV t):=fun k h=>by
   obtain ⟨_,_,⟨d',k',e1,e2,wl⟩,_⟩:=bf h 0
   cases e1
   exact ⟨k',e2,wl⟩
  obtain ⟨k0,e0,wl⟩:=inv k h
  have H:∀ u∈aV t,∃ pls:List (List Nat),(∀ k,WT d k u->pls.length<=k)/\(∀ p∈pls,p.length<=d/\∃ v d' k',d'<=d/\WT d' k' v/\AtP p u v)/\∀ n m,C (n+d+1) 195 [(m,u)]=.ok ((.o .s,.lst (pls.map plT)),[]):=fun u hu=>by
   obtain ⟨a,ha,w⟩:=wl.mem u hu
   exact fj d u (by omega) ⟨a,by omega,w⟩
  obtain ⟨π,hπ⟩:∃ π:T->List (List Nat),∀ u∈aV t,(∀ k,WT d k u->(π u).length<=k)/\(∀ p∈π u,p.length<=d/\∃ v d' k',d'<=d/\WT d' k' v/\AtP p u v)/\∀ n m,C (n+d+1) 195 [(m,u)]=.ok ((.o .s,.lst ((π u).map plT)),[]):=by
   classical
   refine ⟨fun u=>if hu:u∈aV t then a2z (H u hu) else [],fun u hu=>?_⟩
   have:=a17 (H u hu)
   simp only [dif_pos hu]
   exact this
  have len:∀ k',WL d k' (aV t)->(bH π 0 (aV t)).length<=k':=fun k' w=>fq 0 w fun u hu=>(hπ u hu).1
  refine ⟨bH π 0 (aV t)++[[]],fun k' h'=>?_,fun p hp=>?_,fun n m=>?_⟩
  ·obtain ⟨k1,e1,w1⟩:=inv k' h'
   have:=len k1 w1
   rw [a0c,a0u]; omega
  ·rcases a0O.mp hp with hp | hp
   ·obtain ⟨j,u,r,h1,h2,h3⟩:=fD _ _ _ hp
    have hu:u∈aV t:=a0W h1
    obtain ⟨l1,v,d',k',q1,q2,q3⟩:=(hπ u hu).2.1 r h3
    rw [h2,a0t]
    exact ⟨by omega,v,d',k',by omega,q2,u,by rw [a15]; exact h1,q3⟩
   ·rw [a0M.mp hp]
    exact ⟨a0U _,t,d+1,k,a0b _,h,rfl⟩
  ·have p2:=fun m=>(bf h (n+d)).2.1 m
   have l0:=len k0 wl
   obtain ⟨o2,o3,lp⟩:=rR (n:=n+d+1) (o0:=some (.s,t)) (π:=π) (aV t) 0 [] none none (fun u hu=>⟨(hπ u hu).2.2 n,fun p hp=>by have:=((hπ u hu).2.1 p hp).1; omega⟩) (by rw [a2G]; omega)
   rw [a0K,a1i] at lp
   have ff:a4 (((bH π 0 (aV t)).map plT).length+[T.tup []].length)=true:=decide_eq_true (by rw [a0d,a0u]; show _<=16777215; omega)
   have ap:(bH π 0 (aV t)).map plT++[T.tup []]=(bH π 0 (aV t)++[[]]).map plT:=by rw [a09]; rfl
   rw [show n+(d+1)+1=(n+d+1)+1 by omega,eX,x_run _ _ _ rfl]
   obtain ⟨_,_,_,r,et⟩:=bf h 0
   generalize aV t=ps at p2 lp ff ap
   generalize hsg:sgT t=sg at et
   subst et
   simp_all only [bg,p2,lp,ff,ap]
noncomputable abbrev rL:List S:=[
   .asg (.q [0] [2]) 0 (.op .ix false [.call 194 [.var 0],.var 2])]
theorem eI {n:Nat}{o1:Option W}:∀ (p:List Nat) (t u:T) (m:Md) (o2:Option W),(∃ d k,WT d k t)->AtP p t u->∃ m' o2',(m=.s->m'=.s)/\dH [2] (evSs (C (n+1)) rL) ((p.map fun (i:Nat)=>T.int (i:Int)).map fun t=>[((.s,t):W)]) [some (m,t),o1,o2]=.nx [some (m',u),o1,o2']
 | [],t,u,m,o2,_,h=>⟨m,o2,id,by rw [show u=t from h]; rfl⟩
 | k::p,t,u,m,o2,⟨d,kk,w⟩,⟨v,h1,h2⟩=>by
  obtain ⟨_,p2,⟨d',k',e1,e2,wl⟩,_⟩:=bf w n
  obtain ⟨a,_,wv⟩:=wl.mem v (a0W h1)
  obtain ⟨_,_,_,r,ev⟩:=bf wv 0
  have a1:atI (aV t) ((k:Nat):Int)=some v:=atN rfl h1
  have lv:lf .s v=.s:=by rw [ev]; rfl
  obtain ⟨_,_,_,r',et⟩:=bf w 0
  obtain ⟨m',o2',hm,ih⟩:=eI (n:=n) (o1:=o1) p v u .s (some (.s,.int (k:Int))) ⟨d',a,wv⟩ h2
  have step:evSs (C (n+1)) rL [some (m,t),o1,some (.s,.int (k:Int))]=.nx [some (.s,v),o1,some (.s,.int (k:Int))]:=by
   simp_all only [p2,a1,lv]
  refine ⟨m',o2',fun _=>hm rfl,?_⟩
  exact (congrArg (Fl.turn · _) step).trans ih
theorem zl (n:Nat)(p:List Nat)(t u:T)(m m1:Md)(w:∃ d k,WT d k t)(h:AtP p t u):∃ md,(m=.s->md=.s)/\C (n+2) 196 [(m,t),(m1,plT p)]=.ok ((md,u),[]):=by
 obtain ⟨m',o2',hm,lp⟩:=eI (n:=n) (o1:=some (.s,plT p)) p t u m none w h
 refine ⟨m',hm,?_⟩
 rw [gx,x_run _ _ _ rfl]
 unfold plT at lp ⊢
 simp_all only [bx,lp]
inductive Kd where | num | truth | pair (a b:Kd) | row (a:Kd)
noncomputable def Kd.th:Kd->T
 | .num=>.tup [.str (q "num")]
 | .truth=>.tup [.str (q "truth")]
 | .pair a b=>.tup [.str (q "pair"),a.th,b.th]
 | .row a=>.tup [.str (q "row"),a.th]
noncomputable def Kd.deep:Kd->Nat
 | .num=>0 | .truth=>0 | .pair a b=>max a.deep b.deep+1 | .row a=>a.deep+1
theorem fk {α:Type}{tg:List Nat}{f:Env->Res (Option W×Env)}{η:Env}{g:α->List W}(w:α->Option W):∀ (ts:List α) (acc:List W),(∀ x∈ts,∃ η1 η2,aW tg (g x) η=some η1/\f η1=.ok (w x,η2)/\aw tg η2=η) ->
  aQ tg f (ts.map g) η acc=.ok (acc++ts.filterMap w,η)
 | [],acc,_=>by rw [a1i,List.filterMap_nil,a0N]; rfl
 | x::ts,acc,h=>by
  obtain ⟨η1,η2,h1,h2,h3⟩:=h x a0o
  rw [a0C]
  show (ofO (aW tg (g x) η)).bind _=_
  rw [h1]
  show (f η1).bind _=_
  rw [h2]
  show aQ tg f (ts.map g) (aw tg η2) (acc++(w x).toList)=_
  rw [h3,fk w ts _ fun y hy=>h y (a0p _ hy),a0X,a0G]
  cases w x<;>rfl
theorem sC {ts:List T}{j:Nat}(h:j < ts.length):atI ts (j:Int)=some (ts.getD j .non):=atN rfl (by rw [a0y,a0q h]; rfl)
theorem cp {α:Type}{tg:List Nat}{f:Env->Fl}{g:α->List W}(I:List α->Env->Prop):∀ (ts pre:List α) (η:Env),I pre η->(∀ p x r η,pre++ts=p++x::r->I p η->∃ η1 η2,aW tg (g x) η=some η1/\f η1=.nx η2/\I (p++[x]) η2) ->
  ∃ η',dH tg f (ts.map g) η=.nx η'/\I (pre++ts) η'
 | [],pre,η,h,_=>⟨η,rfl,by rw [a0N]; exact h⟩
 | x::ts,pre,η,h,k=>by
  obtain ⟨η1,η2,h1,h2,h3⟩:=k pre x ts η rfl h
  obtain ⟨η',e,hi⟩:=cp I ts (pre++[x]) η2 h3 fun p y r η e=>k p y r η (by rw [<- e,a0X]; rfl)
  refine ⟨η',?_,by rw [a0X] at hi; exact hi⟩
  rw [a0C]
  show Fl.of _ (ofO (aW tg (g x) η)) _=_
  rw [h1]
  show Fl.turn (f η1) _=_
  rw [h2]
  exact e
theorem bT:∀ k:Kd,dp k.th<=k.deep+1
 | .num=>a0b _
 | .truth=>a0b _
 | .pair a b=>by
  have:=bT a
  have:=bT b
  show max 0 (max (dp a.th) (max (dp b.th) 0))+1<=max a.deep b.deep+1+1
  omega
 | .row a=>by
  have:=bT a
  show max 0 (max (dp a.th) 0)+1<=a.deep+1+1
  omega
theorem i2 {mm:Int}(h0:0<=mm)(h1:mm<=1000000):decide (mm.natAbs < 4611686018427387904)=true/\a4 mm.toNat=true:=⟨decide_eq_true (by omega),decide_eq_true (by show mm.toNat<=16777215; omega)⟩
theorem WL.len:∀ {d n:Nat} {ts:List T},WL d n ts->True:=fun _=>a0z
mutual
theorem WT.mono:∀ {d n d' n':Nat} {t:T},WT d n t->d<=d'->n<=n'->WT d' n' t
 | _,_,d',n',_,.leaf (d:=d) (n:=n) hs,h1,h2=>by
  obtain ⟨e,rfl⟩:∃ e,d'=e+1:=⟨d'-1,by omega⟩
  obtain ⟨g,rfl⟩:∃ g,n'=g+1:=⟨n'-1,by omega⟩
  exact .leaf hs
 | _,_,d',n',_,.bind (d:=d) (n:=n) hs w,h1,h2=>by
  obtain ⟨e,rfl⟩:∃ e,d'=e+1:=⟨d'-1,by omega⟩
  obtain ⟨g,rfl⟩:∃ g,n'=g+1:=⟨n'-1,by omega⟩
  exact .bind hs (WL.mono w (by omega) (by omega))
 | _,_,d',n',_,.node (d:=d) (n:=n) hs w,h1,h2=>by
  obtain ⟨e,rfl⟩:∃ e,d'=e+1:=⟨d'-1,by omega⟩
  obtain ⟨g,rfl⟩:∃ g,n'=g+1:=⟨n'-1,by omega⟩
  exact .node hs (WL.mono w (by omega) (by omega))
theorem WL.mono:∀ {d n d' n':Nat} {ts:List T},WL d n ts->d<=d'->n<=n'->WL d' n' ts
 | _,_,_,_,_,.nil,_,_=>.nil
 | _,_,d',n',_,.cons h1 h2 h3,h,h'=>.cons (WT.mono h1 h (a0b _)) (WL.mono h2 h (a0b _)) (by omega)
end
theorem n0 {d n:Nat}{s:String}(hs:s∈NF):WT (d+1) (n+1) (.tup [.str (q s)]):=.node hs .nil
theorem n1 {d a n:Nat}{s:String}{t:T}(hs:s∈NF)(h:WT d a t)(hn:a<=n):WT (d+1) (n+1) (.tup [.str (q s),t]):=.node hs (.cons h .nil (b:=0) (by omega))
theorem n2 {d a b n:Nat}{s:String}{t u:T}(hs:s∈NF)(h:WT d a t)(h':WT d b u)(hn:a+b<=n):WT (d+1) (n+1) (.tup [.str (q s),t,u]):=.node hs (.cons h (.cons h' (.nil (n:=0)) (a0b _)) (by omega))
theorem n3 {d a b c n:Nat}{s:String}{t u v:T}(hs:s∈NF)(h:WT d a t)(h':WT d b u)(h'':WT d c v)(hn:a+b+c<=n):WT (d+1) (n+1) (.tup [.str (q s),t,u,v]):=.node hs (.cons h (.cons h' (.cons h'' (.nil (n:=0)) (a0b _)) (a0b _)) (by omega))
theorem bd2 {d a b n:Nat}{s:String}{x t u:T}(hs:s∈BF)(h:WT d a t)(h':WT d b u)(hn:a+b<=n):WT (d+1) (n+1) (.tup [.str (q s),x,t,u]):=.bind hs (.cons h (.cons h' (.nil (n:=0)) (a0b _)) (by omega))
theorem bd3 {d a b c n:Nat}{s:String}{x t u v:T}(hs:s∈BF)(h:WT d a t)(h':WT d b u)(h'':WT d c v)(hn:a+b+c<=n):WT (d+1) (n+1) (.tup [.str (q s),x,t,u,v]):=.bind hs (.cons h (.cons h' (.cons h'' (.nil (n:=0)) (a0b _)) (a0b _)) (by omega))
theorem lfW {d n:Nat}{s:String}{x:T}(hs:s∈LF):WT (d+1) (n+1) (.tup [.str (q s),x]):=.leaf hs
noncomputable def eT (e:T×T):T:=.tup [e.1,e.2]
noncomputable def cP (env:List (T×T)):Prop:=∀ e∈env,dp e.2<=64
theorem dN:∀ l:List (T×T),bB (l.map eT)=some (l.map fun e=>[((.s,e.1):W),(.s,e.2)])
 | []=>rfl
 | e::l=>by
  rw [a0C,a0C]
  show (bB (l.map eT)).map ([(.s,e.1),(.s,e.2)]::·)=_
  rw [dN l]
  rfl
theorem oT {α:Type}(g:α->T)(ts:List α):bb (ts.map fun x=>((Md.s,g x):W))=ts.map g:=km _ _ _
theorem y7 {n N:Nat}{t:T}{env:List (T×T)}{k:T}(ht:Tp N t)(hN:N+1 < 1000000000000000000)(he:cP env)(hl:env.length<=20)(hk:dp k<=64)(m1 m2:Md):∃ md r t',(r=.non\/∃ x,r=.tup [.str (q "name"),x])/\Tp (N+1) t'/\C (n+2) 205 [(.d,t),(m1,.lst (env.map eT)),(m2,k)]=.ok ((md,r),[(.d,t')]):=by
 have du:∀ w0,aQ [4,5] (gX (evE (C (n+1)) (.op .eq false [.var 5,.var 2])) (evE (C (n+1)) (.var 4))) (env.map fun e=>[((.s,e.1):W),(.s,e.2)]) [none,w0,some (.s,k),none,none,none] []=.ok ([]++env.filterMap (fun e=>if eqT e.2 k then some ((.s,e.1):W) else none),[none,w0,some (.s,k),none,none,none]):=fun w0=>fk _ _ [] fun e he'=>⟨_,[none,w0,some (.s,k),none,some (.s,e.1),some (.s,e.2)],rfl,by
  have q:=fun m n=>lg false m n e.2 k (he e he') hk
  cases h:eqT e.2 k with
  | true=>rw [h] at q; simp_all only [q]
  | false=>rw [h] at q; simp_all only [q],rfl⟩
 obtain ⟨xs,hx⟩:∃ xs:List T,env.filterMap (fun e=>if eqT e.2 k then some ((.s,e.1):W) else none)=xs.map fun x=>(.s,x):=by
  clear du he hl
  induction env with
  | nil=>exact ⟨[],rfl⟩
  | cons e env ih =>
   obtain ⟨xs,h⟩:=ih
   cases hh:eqT e.2 k with
   | true=>exact ⟨e.1::xs,by rw [a0G,hh]; show ((Md.s,e.1):W)::_=_; rw [h]; rfl⟩
   | false=>exact ⟨xs,by rw [a0G,hh]; exact h⟩
 have hxl:xs.length<=20:=by
  have:=congrArg a1O hx
  rw [a0d] at this
  have h2:=List.length_filterMap_le (fun e=>if eqT e.2 k then some ((.s,e.1):W) else none) env
  omega
 rw [hx] at du
 have tr:=oT (fun x:T=>x) xs
 rw [List.map_id'] at tr
 rw [gw,x_run _ _ _ rfl]
 cases xs with
 | nil =>
  exact ⟨.d,.non,t,.inl rfl,tm ht (by omega),by simp_all only [a7,dN,du,tr,a2G]; rfl⟩
 | cons x xs =>
  obtain ⟨r,t1,r0,r1,ht1,e1⟩:=yr (n:=n) .d (((x::xs).length:Nat):Int) ht (by omega) (by rw [a0t]; omega) (by omega)
  have h0:((((x::xs).length:Nat):Int)==0)=false:=beq_eq_false_iff_ne.mpr (by rw [a0t]; omega)
  obtain ⟨j,hj⟩:∃ j:Nat,r=(j:Int):=⟨r.toNat,by omega⟩
  have a1:=sC (ts:=x::xs) (j:=j) (by omega)
  rw [<- hj] at a1
  generalize hxx:x::xs=ys at *
  generalize ys.getD j .non=y at a1
  exact ⟨_,.tup [.str (q "name"),y],t1,.inr ⟨y,rfl⟩,ht1,by
   simp_all only [a7,dN,du,tr,h0,e1,a1]
   rfl⟩
theorem aD {N:Nat}{t:T}(L:Nat)(hL:1<=L)(m:Md)(k:Int)(ht:Tp N t)(hN:N < 1000000000000000000)(hk:0 < k)(hk2:k < 1000000000000000000) :
  ∃ r t',0<=r/\r < k/\Tp (N+1) t'/\C L 201 [(.d,t),(m,.int k)]=.ok ((.d,.int r),[(.d,t')]):=by
 obtain ⟨l,rfl⟩:∃ l,L=l+1:=⟨L-1,by omega⟩
 exact yr m k ht hN hk hk2
theorem iZ {N:Nat}{t:T}{env:List (T×T)}{k:T}(L:Nat)(hL:2<=L)(ht:Tp N t)(hN:N+1 < 1000000000000000000)(he:cP env)(hl:env.length<=20)(hk:dp k<=64)(m1 m2:Md):∃ md r t',(r=.non\/∃ x,r=.tup [.str (q "name"),x])/\Tp (N+1) t'/\C L 205 [(.d,t),(m1,.lst (env.map eT)),(m2,k)]=.ok ((md,r),[(.d,t')]):=by
 obtain ⟨l,rfl⟩:∃ l,L=l+2:=⟨L-2,by omega⟩
 exact y7 ht hN he hl hk m1 m2
noncomputable def Kd.cl:Kd->Nat
 | .num=>6 | .truth=>6 | .pair a b=>a.cl+b.cl+6 | .row a=>a.cl+6
noncomputable def Kd.nl:Kd->Nat
 | .num=>1 | .truth=>1 | .pair a b=>a.nl+b.nl+1 | .row a=>a.nl+1
theorem gm (C:Call):∀ (a b:List S) (η:Env),evSs C (a++b) η=(evSs C a η).seq (evSs C b)
 | [],b,η=>rfl
 | s::a,b,η=>by
  show (evS C s η).seq (evSs C (a++b))=((evS C s η).seq (evSs C a)).seq (evSs C b)
  cases evS C s η<;>first | rfl | exact gm C a b _
theorem go1 {C:Call}{a b:List S}{η η':Env}(h:evSs C a η=.nx η'):evSs C (a++b) η=evSs C b η':=by rw [gm,h]; rfl
theorem go2 {C:Call}{a b:List S}{η η':Env}{w:W}(h:evSs C a η=.rt w η'):evSs C (a++b) η=.rt w η':=by rw [gm,h]; rfl
noncomputable abbrev Bk (f:Fn)(i j:Nat):List S:=(f.body.drop i).take j
noncomputable abbrev lfA:List S:=Bk f_law_leaf 0 2
noncomputable abbrev lfB:List S:=f_law_leaf.body.drop 2
noncomputable def LfK (k:Kd):Prop:=∀ (L:Nat),k.deep+3<=L->∀ {N:Nat} {t:T} {env:List (T×T)},Tp N t->N+k.cl < 1000000000000000000->cP env->env.length<=20->∀ m1 m2:Md,
  ∃ md r t',WT (k.deep+1) k.nl r/\Tp (N+k.cl) t'/\C L 206 [(.d,t),(m1,.lst (env.map eT)),(m2,k.th)]=.ok ((md,r),[(.d,t')])
theorem dP (k:Kd)(hd:k.deep<=50)(hc:6<=k.cl)(hn:1<=k.nl)(H:∀ (l:Nat),k.deep+2<=l->∀ {N:Nat} {t:T} {env:List (T×T)},Tp N t->N+k.cl < 1000000000000000000+2->cP env->env.length<=20->∀ (o3:Option W),∃ md r t' η',WT (k.deep+1) k.nl r/\Tp (N+k.cl-2) t'/\evSs (C l) lfB [some (.d,t),some (.s,.lst (env.map eT)),some (.s,k.th),o3,none]=.rt (md,r) (some (.d,t')::η')):LfK k:=by
 intro L hL N t env ht hN he hl m1 m2
 obtain ⟨l,rfl⟩:∃ l,L=l+1:=⟨L-1,by omega⟩
 have hk:dp k.th<=64:=a0m (bT k) (by omega)
 obtain ⟨md,r,t1,hr,ht1,e1⟩:=iZ l (by omega) ht (by omega) he hl hk .s .s
 rw [gE,x_run _ _ _ rfl,show f_law_leaf.body=lfA++lfB from rfl]
 rcases hr with rfl | ⟨x,rfl⟩
 ·have A:evSs (C l) lfA [some (.d,t),some (m1,.lst (env.map eT)),some (m2,k.th),none,none]=.nx [some (.d,t1),some (.s,.lst (env.map eT)),some (.s,k.th),some (.s,.non),none]:=by
   simp_all only [lfA,Bk,a01,a0P,f_law_leaf,e1]
  obtain ⟨md',r',t',η',w,ht',e⟩:=H l (by omega) ht1 (by omega) he hl (some (.s,.non))
  refine ⟨md',r',t',w,tm ht' (by omega),?_⟩
  exact (congrArg (Fl.out _) ((go1 A).trans e)).trans rfl
 ·obtain ⟨v,t2,v0,v1,ht2,e2⟩:=aD l (by omega) .d 3 ht1 (by omega) (by decide) (by decide)
  cases hv:decide (0 < v) with
  | true =>
   obtain ⟨md',A⟩:∃ md',evSs (C l) lfA [some (.d,t),some (m1,.lst (env.map eT)),some (m2,k.th),none,none]=.rt (md',.tup [.str (q "name"),x]) [some (.d,t2),some (.s,.lst (env.map eT)),some (.s,k.th),none,none]:=⟨_,by
    simp_all only [lfA,Bk,a01,a0P,f_law_leaf,e1,e2,hv]
    rfl⟩
   refine ⟨md',.tup [.str (q "name"),x],t2,(lfW (s:="name") (by decide):WT (k.deep+1) (0+1) _).mono (a0b _) hn,tm ht2 (by omega),?_⟩
   exact (congrArg (Fl.out _) (go2 A)).trans rfl
  | false =>
   obtain ⟨md3,A⟩:∃ md3,evSs (C l) lfA [some (.d,t),some (m1,.lst (env.map eT)),some (m2,k.th),none,none]=.nx [some (.d,t2),some (.s,.lst (env.map eT)),some (.s,k.th),some (md3,.tup [.str (q "name"),x]),none]:=⟨_,by
    simp_all only [lfA,Bk,a01,a0P,f_law_leaf,e1,e2,hv]
    rfl⟩
   obtain ⟨md',r',t',η',w,ht',e⟩:=H l (by omega) ht2 (by omega) he hl (some (md3,.tup [.str (q "name"),x]))
   refine ⟨md',r',t',w,tm ht' (by omega),?_⟩
   exact (congrArg (Fl.out _) ((go1 A).trans e)).trans rfl
theorem Kd.cl6:∀ k:Kd,6<=k.cl
 | .num=>by decide
 | .truth=>by decide
 | .pair a b=>by show 6<=a.cl+b.cl+6; omega
 | .row a=>by show 6<=a.cl+6; omega
theorem Kd.nl1:∀ k:Kd,1<=k.nl
 | .num=>by decide
 | .truth=>by decide
 | .pair a b=>by show 1<=a.nl+b.nl+1; omega
 | .row a=>by show 1<=a.nl+1; omega
theorem leaf:∀ k:Kd,k.deep<=50->LfK k
 | .num,hd=>dP .num hd (by decide) (by decide) fun l hl N t env ht hN he hln o3=>by
  have hN':N+6 < 1000000000000000002:=hN
  obtain ⟨a,t1,a0,a1,ht1,e1⟩:=aD l (by have:Kd.num.deep=0:=rfl; omega) .d 5 ht (by omega) (by decide) (by decide)
  obtain ⟨b,t2,b0,b1,ht2,e2⟩:=aD l (by have:Kd.num.deep=0:=rfl; omega) .d 2 ht1 (by omega) (by decide) (by decide)
  obtain ⟨c,t3,c0,c1,ht3,e3⟩:=aD l (by have:Kd.num.deep=0:=rfl; omega) .d 9 ht2 (by omega) (by decide) (by decide)
  obtain ⟨y,hy⟩:∃ y,atI [T.int a,T.int (1000000000000000000-b)] (c / 8)=some y:=by
   have:c / 8=0\/c / 8=1:=by omega
   rcases this with h | h<;>rw [h]
   ·exact ⟨_,rfl⟩
   ·exact ⟨_,rfl⟩
  have z5:(decide ((0:Int) < 8)&&decide ((8:Int) < 1073741824))=true:=rfl
  obtain ⟨md,A⟩:∃ md,evSs (C l) lfB [some (.d,t),some (.s,.lst (env.map eT)),some (.s,Kd.num.th),o3,none]=.rt (md,.tup [.str (q "num"),y]) [some (.d,t3),some (.s,.lst (env.map eT)),some (.s,Kd.num.th),o3,none]:=⟨_,by
   simp_all only [lfB,a0P,f_law_leaf,Kd.th,qeq,e1,e2,e3,ez,hy,z5]
   rfl⟩
  exact ⟨md,_,t3,_,lfW (s:="num") (by decide),tm ht3 (by show _<=N+6-2; omega),A⟩
 | .truth,hd=>dP .truth hd (by decide) (by decide) fun l hl N t env ht hN he hln o3=>by
  have hN':N+6 < 1000000000000000002:=hN
  obtain ⟨a,t1,a0,a1,ht1,e1⟩:=aD l (by have:Kd.truth.deep=0:=rfl; omega) .d 2 ht (by omega) (by decide) (by decide)
  obtain ⟨s,hs,hy⟩:∃ s∈NF,atI [T.tup [.str (q "yes")],.tup [.str (q "no")]] a=some (.tup [.str (q s)]):=by
   have:a=0\/a=1:=by omega
   rcases this with h | h<;>rw [h]
   ·exact ⟨"yes",by decide,rfl⟩
   ·exact ⟨"no",by decide,rfl⟩
  obtain ⟨md,A⟩:∃ md,evSs (C l) lfB [some (.d,t),some (.s,.lst (env.map eT)),some (.s,Kd.truth.th),o3,none]=.rt (md,.tup [.str (q s)]) [some (.d,t1),some (.s,.lst (env.map eT)),some (.s,Kd.truth.th),o3,none]:=⟨_,by
   simp_all only [lfB,a0P,f_law_leaf,Kd.th,qeq,e1,hy]
   rfl⟩
  exact ⟨md,_,t1,_,n0 hs,tm ht1 (by show _<=N+6-2; omega),A⟩
 | .pair x y,hd=>dP (.pair x y) hd (Kd.cl6 _) (Kd.nl1 _) fun l hl N t env ht hN he hln o3=>by
  have dd:(Kd.pair x y).deep=max x.deep y.deep+1:=rfl
  have cc:(Kd.pair x y).cl=x.cl+y.cl+6:=rfl
  have nn:(Kd.pair x y).nl=x.nl+y.nl+1:=rfl
  obtain ⟨m1,r1,t1,w1,ht1,e1⟩:=leaf x (by omega) l (by omega) ht (by omega) he hln .s .s
  obtain ⟨m2,r2,t2,w2,ht2,e2⟩:=leaf y (by omega) l (by omega) ht1 (by omega) he hln .s .s
  obtain ⟨md,η',A⟩:∃ md η',evSs (C l) lfB [some (.d,t),some (.s,.lst (env.map eT)),some (.s,(Kd.pair x y).th),o3,none]=.rt (md,.tup [.str (q "pair"),r1,r2]) (some (.d,t2)::η'):=⟨_,_,by
   simp_all only [lfB,a0P,f_law_leaf,Kd.th,qeq,e1,e2]
   rfl⟩
  rw [dd,cc,nn]
  exact ⟨md,_,t2,η',n2 (by decide) (w1.mono (by omega) (a0b _)) (w2.mono (by omega) (a0b _)) (a0b _),tm ht2 (by omega),A⟩
 | .row x,hd=>dP (.row x) hd (Kd.cl6 _) (Kd.nl1 _) fun l hl N t env ht hN he hln o3=>by
  have dd:(Kd.row x).deep=x.deep+1:=rfl
  have cc:(Kd.row x).cl=x.cl+6:=rfl
  have nn:(Kd.row x).nl=x.nl+1:=rfl
  rw [dd,cc,nn]
  obtain ⟨a,t1,a0,a1,ht1,e1⟩:=aD l (by omega) .d 3 ht (by omega) (by decide) (by decide)
  obtain ⟨m2,r2,t2,w2,ht2,e2⟩:=leaf x (by omega) l (by omega) ht1 (by omega) he hln .s .s
  cases h0:(a==0) with
  | true =>
   obtain ⟨md,η',A⟩:∃ md η',evSs (C l) lfB [some (.d,t),some (.s,.lst (env.map eT)),some (.s,(Kd.row x).th),o3,none]=.rt (md,.tup [.str (q "none"),x.th]) (some (.d,t1)::η'):=⟨_,_,by
    simp_all only [lfB,a0P,f_law_leaf,Kd.th,qeq,e1,h0]
    rfl⟩
   exact ⟨md,_,t1,η',lfW (by decide),tm ht1 (by omega),A⟩
  | false =>
   obtain ⟨md,η',A⟩:∃ md η',evSs (C l) lfB [some (.d,t),some (.s,.lst (env.map eT)),some (.s,(Kd.row x).th),o3,none]=.rt (md,.tup [.str (q "one"),r2]) (some (.d,t2)::η'):=⟨_,_,by
    simp_all only [lfB,a0P,f_law_leaf,Kd.th,qeq,e1,e2,h0]
    rfl⟩
   exact ⟨md,_,t2,η',n1 (by decide) w2 (a0b _),tm ht2 (by omega),A⟩
theorem Kd.bnd:∀ k:Kd,k.cl+6<=12 * 2 ^ k.deep/\k.nl+1<=2 * 2 ^ k.deep
 | .num=>by decide
 | .truth=>by decide
 | .pair a b=>by
  obtain ⟨h1,h2⟩:=Kd.bnd a
  obtain ⟨h3,h4⟩:=Kd.bnd b
  have pa:2 ^ a.deep<=2 ^ (max a.deep b.deep):=a1w (by decide) (by omega)
  have pb:2 ^ b.deep<=2 ^ (max a.deep b.deep):=a1w (by decide) (by omega)
  have e:2 ^ (Kd.pair a b).deep=2 * 2 ^ (max a.deep b.deep):=by show 2 ^ (max a.deep b.deep+1)=_; rw [a2r]; omega
  have cc:(Kd.pair a b).cl=a.cl+b.cl+6:=rfl
  have nn:(Kd.pair a b).nl=a.nl+b.nl+1:=rfl
  omega
 | .row a=>by
  obtain ⟨h1,h2⟩:=Kd.bnd a
  have pa:1<=2 ^ a.deep:=Nat.one_le_two_pow
  have e:2 ^ (Kd.row a).deep=2 * 2 ^ a.deep:=by show 2 ^ (a.deep+1)=_; rw [a2r]; omega
  have cc:(Kd.row a).cl=a.cl+6:=rfl
  have nn:(Kd.row a).nl=a.nl+1:=rfl
  omega
theorem bU {N:Nat}{t:T}{env:List (T×T)}(k:Kd)(hk:k.deep<=3)(L:Nat)(hL:6<=L)(ht:Tp N t)(hN:N+90 < 1000000000000000000)(he:cP env)(hl:env.length<=20)(m1 m2:Md) :
  ∃ md r t',WT 4 15 r/\Tp (N+90) t'/\C L 206 [(.d,t),(m1,.lst (env.map eT)),(m2,k.th)]=.ok ((md,r),[(.d,t')]):=by
 obtain ⟨h1,h2⟩:=k.bnd
 have p:2 ^ k.deep<=2 ^ 3:=a1w (by decide) hk
 obtain ⟨md,r,t',w,ht',e⟩:=leaf k (by omega) L (by omega) ht (by omega) he hl m1 m2
 exact ⟨md,r,t',w.mono (by omega) (by omega),tm ht' (by omega),e⟩
theorem wq:oSem .pow false [(.d,.int 10),(.d,.int 17)]=some (.d,.int 100000000000000000):=rfl
theorem times {N:Nat}{t:T}{env:List (T×T)}(L:Nat)(hL:3<=L)(ht:Tp N t)(hN:N+3 < 1000000000000000000)(he:cP env)(hl:env.length<=20)(m1:Md) :
  ∃ md r t',WT 3 4 r/\Tp (N+3) t'/\C L 208 [(.d,t),(m1,.lst (env.map eT))]=.ok ((md,r),[(.d,t')]):=by
 obtain ⟨l,rfl⟩:∃ l,L=l+1:=⟨L-1,by omega⟩
 obtain ⟨a,t1,a0,a1,ht1,e1⟩:=aD l (by omega) .d 6 ht (by omega) (by decide) (by decide)
 obtain ⟨m2,r2,t2,hr2,ht2,e2⟩:=iZ (k:=.tup [.str (q "num")]) l (by omega) ht1 (by omega) he hl (by decide) .s .d
 obtain ⟨b,t3,b0,b1,ht3,e3⟩:=aD l (by omega) .d 3 ht2 (by omega) (by decide) (by decide)
 obtain ⟨c,t4,c0,c1,ht4,e4⟩:=aD l (by omega) .d 100000000000000000 ht2 (by omega) (by decide) (by decide)
 obtain ⟨d,t5,d0,d1,ht5,e5⟩:=aD l (by omega) .d 4 ht2 (by omega) (by decide) (by decide)
 rw [gr,x_run _ _ _ rfl]
 have nm:∀ x,WT 2 1 (.tup [.str (q "num"),x]):=fun x=>lfW (by decide)
 cases h5:(a==5) with
 | true =>
  have h4:(a==4)=false:=by rw [beq_iff_eq.mp h5]; rfl
  have h3:(a==3)=false:=by rw [beq_iff_eq.mp h5]; rfl
  rcases hr2 with rfl | ⟨x,rfl⟩
  ·exact ⟨_,.tup [.str (q "num"),.int d],t5,(nm _).mono (by omega) (by omega),tm ht5 (by omega),by
    simp_all only [aL,e1,e2,e5,h5,h4,h3]; rfl⟩
  ·exact ⟨_,.tup [.str (q "rest"),.tup [.str (q "name"),x],.tup [.str (q "num"),.int 5]],t2,n2 (a:=1) (b:=1) (by decide) (lfW (by decide)) (nm _) (by omega),tm ht2 (by omega),by
    simp_all only [aL,e1,e2,h5,h4,h3]; rfl⟩
 | false =>
  cases h4:(a==4) with
  | true=>exact ⟨_,.tup [.str (q "sub"),.tup [.str (q "num"),.int b],.tup [.str (q "num"),.int 1]],t3,n2 (a:=1) (b:=1) (by decide) (nm _) (nm _) (by omega),tm ht3 (by omega),by
    simp_all only [aL,e1,e2,e3,h5,h4]; rfl⟩
  | false =>
   cases h3:(a==3) with
   | true=>exact ⟨_,.tup [.str (q "num"),.int (201+c)],t4,(nm _).mono (by omega) (by omega),tm ht4 (by omega),by
     simp_all only [aL,e1,e2,e4,h5,h4,h3,wq]; rfl⟩
   | false=>exact ⟨_,.tup [.str (q "num"),.int d],t5,(nm _).mono (by omega) (by omega),tm ht5 (by omega),by
     simp_all only [aL,e1,e2,e5,h5,h4,h3]; rfl⟩
theorem few {N:Nat}{t:T}{env:List (T×T)}(k:Kd)(hk:k.deep<=3)(L:Nat)(hL:7<=L)(ht:Tp N t)(hN:N+200 < 1000000000000000000)(he:cP env)(hl:env.length<=20)(m1 m2:Md) :
  ∃ md r t',WT 5 40 r/\Tp (N+200) t'/\C L 207 [(.d,t),(m1,.lst (env.map eT)),(m2,k.th)]=.ok ((md,r),[(.d,t')]):=by
 obtain ⟨l,rfl⟩:∃ l,L=l+1:=⟨L-1,by omega⟩
 obtain ⟨a,t1,a0,a1,ht1,e1⟩:=aD l (by omega) .d 5 ht (by omega) (by decide) (by decide)
 obtain ⟨m3,r2,t2,w2,ht2,e2⟩:=bU k hk l (by omega) ht1 (by omega) he hl .s .s
 obtain ⟨m4,r3,t3,w3,ht3,e3⟩:=bU (env:=[]) k hk l (by omega) ht2 (by omega) (fun _ h=>nomatch h) (a0U _) (.o .s) .s
 obtain ⟨m5,r4,t4,w4,ht4,e4⟩:=times l (by omega) ht1 (by omega) he hl m1
 rw [a1i] at e3
 have ye:=fun m n=>lg false m n k.th (.tup [.str (q "row"),.tup [.str (q "num")]]) (a0m (bT k) (by omega)) (by decide)
 rw [iJ,x_run _ _ _ rfl]
 cases h0:(a==0) with
 | true =>
  have h1:(a==1)=false:=by rw [beq_iff_eq.mp h0]; rfl
  cases hb:eqT k.th (.tup [.str (q "row"),.tup [.str (q "num")]]) with
  | true =>
   rw [hb] at ye
   exact ⟨_,.tup [.str (q "upto"),r4],t4,n1 (a:=4) (by decide) (w4.mono (by omega) (by omega)) (by omega),tm ht4 (by omega),by
    simp_all only [ba,e1,e4,h0,h1,ye]; rfl⟩
  | false =>
   rw [hb] at ye
   exact ⟨_,r2,t2,w2.mono (by omega) (by omega),tm ht2 (by omega),by
    simp_all only [ba,e1,e2,h0,h1,ye]; rfl⟩
 | false =>
  cases h1:(a==1) with
  | true=>exact ⟨_,.tup [.str (q "join"),r2,r3],t3,n2 (by decide) w2 w3 (by omega),tm ht3 (by omega),by
    simp_all only [ba,e1,e2,e3,h0,h1]; rfl⟩
  | false=>exact ⟨_,r2,t2,w2.mono (by omega) (by omega),tm ht2 (by omega),by
    simp_all only [ba,e1,e2,h0,h1]; rfl⟩
theorem zO {a:Int}(h:0<=a)(h':a < 9):∃ k:Kd,k.deep<=2/\atI ([T.tup [.str (q "num")],.tup [.str (q "num")],.tup [.str (q "truth")],.tup [.str (q "row"),.tup [.str (q "num")]],.tup [.str (q "row"),.tup [.str (q "num")]],.tup [.str (q "row"),.tup [.str (q "truth")]]]++[.tup [.str (q "pair"),.tup [.str (q "num")],.tup [.str (q "truth")]],.tup [.str (q "row"),.tup [.str (q "row"),.tup [.str (q "num")]]],.tup [.str (q "row"),.tup [.str (q "pair"),.tup [.str (q "num")],.tup [.str (q "num")]]]]) a=some k.th:=by
 have:a=0\/a=1\/a=2\/a=3\/a=4\/a=5\/a=6\/a=7\/a=8:=by omega
 rcases this with h | h | h | h | h | h | h | h | h<;>rw [h]
 ·exact ⟨.num,by decide,rfl⟩
 ·exact ⟨.num,by decide,rfl⟩
 ·exact ⟨.truth,by decide,rfl⟩
 ·exact ⟨.row .num,by decide,rfl⟩
 ·exact ⟨.row .num,by decide,rfl⟩
 ·exact ⟨.row .truth,by decide,rfl⟩
 ·exact ⟨.pair .num .truth,by decide,rfl⟩
 ·exact ⟨.row (.row .num),by decide,rfl⟩
 ·exact ⟨.row (.pair .num .num),by decide,rfl⟩
theorem kind {N:Nat}{t:T}(L:Nat)(hL:2<=L)(ht:Tp N t)(hN:N+1 < 1000000000000000000):∃ md,∃ k:Kd,∃ t',k.deep<=2/\Tp (N+1) t'/\C L 203 [(.d,t)]=.ok ((md,k.th),[(.d,t')]):=by
 obtain ⟨l,rfl⟩:∃ l,L=l+1:=⟨L-1,by omega⟩
 obtain ⟨a,t1,a0,a1,ht1,e1⟩:=aD l (by omega) .d 9 ht (by omega) (by decide) (by decide)
 obtain ⟨k,hk,h9⟩:=zO a0 a1
 rw [gJ,x_run _ _ _ rfl]
 have f9:∀ a b c d e f g h i:T,a4 ([a,b,c,d,e,f].length+[g,h,i].length)=true:=fun _ _ _ _ _ _ _ _ _=>rfl
 rw [a0Z,a0Z,a0Z,a0Z,a0Z,a0Z,a0K] at h9
 exact ⟨_,k,t1,hk,ht1,by
  simp_all only [bK,e1,h9,f9]
  rfl⟩
noncomputable def nn:Nat->Nat
 | 0=>40
 | f+1=>3 * nn f+200
noncomputable def cc:Nat->Nat
 | 0=>100
 | f+1=>3 * cc f+2000
theorem iW:∀ f,40<=nn f
 | 0=>a0b _
 | f+1=>by have:=iW f; show 40<=3 * nn f+200; omega
noncomputable def G6 (fn lv f c:Nat)(P:Kd->Prop):Prop:=∀ (L:Nat),lv<=L->∀ {N:Nat} {t:T} {env:List (T×T)} {nms:List Str} (k:Kd) (room deep:Int),P k->k.deep<=2->0<=room->room < 3 * 2 ^ f->0<=deep->deep<=2->Tp N t->N+c < 1000000000000000000->cP env->env.length+f<=12->nms.length=20->∀ m1 m2 m3 m4 m5:Md,
  ∃ md r t',WT (6+3 * f) (nn f) r/\Tp (N+c) t'/\C L fn [(.d,t),(m1,.lst (env.map eT)),(m2,.lst (nms.map T.str)),(m3,k.th),(m4,.int room),(m5,.int deep)]=.ok ((md,r),[(.d,t')])
theorem cD (env:List (T×T))(x k:T):env.map eT++[.tup [x,k]]=(env++[(x,k)]).map eT:=by rw [a09]; rfl
theorem bW {env:List (T×T)}(h:env.length<=20)(x:T):a4 ((env.map eT).length+[x].length)=true:=decide_eq_true (by rw [a0d,a0u]; show _<=16777215; omega)
theorem fR {env:List (T×T)}(h:cP env)(x k:T)(hk:dp k<=64):cP (env++[(x,k)]):=fun e he=>by
 rcases a0O.mp he with he | he
 ·exact h e he
 ·rw [a0M.mp he]; exact hk
theorem fW {env:List (T×T)}{nms:List Str}(h:env.length < nms.length):atI (nms.map T.str) (((env.map eT).length:Nat):Int)=some (.str (nms.getD env.length (q ""))):=by
 rw [a0d]
 exact atN (n:=env.length) rfl (by rw [a0x,a0y,a0q h]; rfl)
theorem oV {room:Int}{f:Nat}(h0:0<=room)(h:room < 3 * 2 ^ (f+1)):0<=room / 2/\room / 2 < 3 * 2 ^ f/\0<=room / 3/\room / 3 < 3 * 2 ^ f:=by
 have e:(2:Int) ^ (f+1)=2 * 2 ^ f:=by rw [Int.pow_succ]; omega
 have p:(0:Int) < 2 ^ f:=Int.pow_pos (by decide)
 omega
theorem zT {a:Int}(h:0<=a)(h':a < 4):∃ k:Kd,k.deep<=1/\atI [T.tup [.str (q "num")],.tup [.str (q "truth")],.tup [.str (q "row"),.tup [.str (q "num")]],.tup [.str (q "pair"),.tup [.str (q "num")],.tup [.str (q "num")]]] a=some k.th:=by
 have:a=0\/a=1\/a=2\/a=3:=by omega
 rcases this with h | h | h | h<;>rw [h]
 ·exact ⟨.num,by decide,rfl⟩
 ·exact ⟨.truth,by decide,rfl⟩
 ·exact ⟨.row .num,by decide,rfl⟩
 ·exact ⟨.pair .num .num,by decide,rfl⟩
theorem ck (m:Md):∀ k:Kd,lf m k.th=m
 | .num=>rfl
 | .truth=>rfl
 | .pair _ _=>rfl
 | .row _=>rfl
theorem pH (f:Nat)(TM:G6 209 (7+3 * f) f (cc f) fun _=>True):G6 211 (8+3 * f) (f+1) (3 * cc f+1900) fun k=>∃ a,k=.row a:=by
 intro L hL N t env nms k room deep ⟨a,hka⟩ hk r0 r1 d0 d1 ht hN he hen hnm m1 m2 m3 m4 m5
 subst hka
 obtain ⟨l,rfl⟩:∃ l,L=l+1:=⟨L-1,by omega⟩
 have hka:a.deep+1<=2:=hk
 have n40:=iW f
 have hnn:nn (f+1)=3 * nn f+200:=rfl
 obtain ⟨q0,q1,q2,q3⟩:=oV r0 r1
 have D8:(Kd.row (.row a)).deep<=3:=by show a.deep+1+1<=3; omega
 obtain ⟨w,t1,w0,w1,ht1,e1⟩:=aD l (by omega) .d 8 ht (by omega) (by decide) (by decide)
 obtain ⟨mF,rF,tF,wF,htF,eF⟩:=few (.row a) (by omega) l (by omega) ht1 (by omega) he (by omega) m1 m3
 have tl:∀ {r:T},WT 5 40 r->WT (6+3 * (f+1)) (nn (f+1)) r:=fun h=>h.mono (by omega) (by omega)
 rw [gW,x_run _ _ _ rfl]
 have a1:=at1 (T.str (q "row")) a.th []
 have w8:w=0\/w=1\/w=2\/w=3\/w=4\/w=5\/w=6\/w=7:=by omega
 have each:w < 3->0 < deep->∃ md r t',WT (6+3 * (f+1)) (nn (f+1)) r/\Tp (N+(3 * cc f+1900)) t'/\Fl.out f_law_rows.io (evSs (C l) f_law_rows.body (a1y some [(Md.d,t),(m1,T.lst (a1y eT env)),(m2,T.lst (nms.map T.str)),(m3,(Kd.row a).th),(m4,T.int room),(m5,T.int deep)]++a0e f_law_rows.ns none))=.ok ((md,r),[(.d,t')]):=fun hw hd=>by
  obtain ⟨b,t2,b0,b1,ht2,e2⟩:=aD l (by omega) .d 4 ht1 (by omega) (by decide) (by decide)
  obtain ⟨κ,hκ,h4⟩:=zT b0 b1
  obtain ⟨m6,r6,t6,w6,ht6,e6⟩:=few (.row κ) (by show κ.deep+1<=3; omega) l (by omega) ht2 (by omega) he (by omega) .s (.o .s)
  have hx:=fW (env:=env) (nms:=nms) (by omega)
  generalize nms.getD env.length (q "")=x at hx
  obtain ⟨m7,r7,t7,w7,ht7,e7⟩:=TM l (by omega) (env:=env++[(.str x,κ.th)]) a (room / 2) (deep-1) a0z (by omega) q0 q1 (by omega) (by omega) ht6 (by omega) (fR he _ _ (a0m (bT κ) (by omega))) (by rw [a0c,a0u]; omega) hnm (.o .s) m2 m3.kid .d .d
  have ef:=bW (env:=env) (by omega) (.tup [.str x,κ.th])
  have ea:=cD env (.str x) κ.th
  simp only [Kd.th] at e6
  have hw':decide (w < 3)=true:=decide_eq_true hw
  have hd':decide (0 < deep)=true:=decide_eq_true hd
  exact ⟨_,.tup [.str (q "each"),.str x,r6,r7],t7,(bd2 (by decide) (w6.mono (d':=6+3 * f) (by omega) (a0b _)) w7 (a0b _):WT _ _ _).mono (by omega) (by omega),tm ht7 (by omega),by
   simp_all only [f_law_rows,Kd.th,e1,e2,e6,e7,h4,ck,hx,ef,ea,hw',hd',a1,a0s,a0k,decide_false,decide_true,a0j]; rfl⟩
 simp only [Kd.th] at eF
 have yw:∀ m n,oSem .eq false [(m,(Kd.row a).th),(n,.tup [.str (q "row"),.tup [.str (q "num")]])]=_:=fun m n=>lg false m n (Kd.row a).th (.tup [.str (q "row"),.tup [.str (q "num")]]) (a0m (bT _) (by omega)) (by decide)
 simp only [Kd.th] at yw
 have lo:w < 3->∃ md r t',WT (6+3 * (f+1)) (nn (f+1)) r/\Tp (N+(3 * cc f+1900)) t'/\Fl.out f_law_rows.io (evSs (C l) f_law_rows.body (a1y some [(Md.d,t),(m1,T.lst (a1y eT env)),(m2,T.lst (nms.map T.str)),(m3,(Kd.row a).th),(m4,T.int room),(m5,T.int deep)]++a0e f_law_rows.ns none))=.ok ((md,r),[(.d,t')]):=fun hw=>by
  by_cases hd:0 < deep
  ·exact each hw hd
  ·have hw':decide (w < 3)=true:=decide_eq_true hw
   have hd':decide (0 < deep)=false:=decide_eq_false hd
   have w3:(w==3)=false:=beq_eq_false_iff_ne.mpr (by omega)
   have w4:(w==4)=false:=beq_eq_false_iff_ne.mpr (by omega)
   have w5:(w==5)=false:=beq_eq_false_iff_ne.mpr (by omega)
   have w6:(w==6)=false:=beq_eq_false_iff_ne.mpr (by omega)
   have w7:(w==7)=false:=beq_eq_false_iff_ne.mpr (by omega)
   exact ⟨_,rF,tF,tl wF,tm htF (by omega),by
    simp_all only [f_law_rows,Kd.th,e1,eF,hw',hd',w3,w4,w5,w6,w7]; rfl⟩
 rcases w8 with h | h | h | h | h | h | h | h
 ·exact lo (by omega)
 ·exact lo (by omega)
 ·exact lo (by omega)
 ·subst h
  cases hb:eqT (.tup [.str (q "row"),a.th]) (.tup [.str (q "row"),.tup [.str (q "num")]]) with
  | true =>
   rw [hb] at yw
   exact ⟨_,.tup [.str (q "sums"),rF],tF,(n1 (by decide) wF (a0b _):WT _ _ _).mono (by omega) (by omega),tm htF (by omega),by
    simp_all only [f_law_rows,Kd.th,e1,eF,yw,a0s,a0k,decide_false,decide_true,a0j]; rfl⟩
  | false =>
   rw [hb] at yw
   exact ⟨_,rF,tF,tl wF,tm htF (by omega),by
    simp_all only [f_law_rows,Kd.th,e1,eF,yw,a0s,a0k,decide_false,decide_true,a0j]; rfl⟩
 ·subst h
  cases a with
  | row b =>
   obtain ⟨m6,r6,t6,w6,ht6,e6⟩:=few (.row b) (by omega) l (by omega) ht1 (by omega) he (by omega) .s .s
   obtain ⟨m7,r7,t7,w7,ht7,e7⟩:=few (.row .num) (by decide) l (by omega) ht6 (by omega) he (by omega) .s .d
   simp only [Kd.th] at e6 e7 a1
   exact ⟨_,.tup [.str (q "cut"),r6,r7],t7,(n2 (by decide) w6 w7 (a0b _):WT _ _ _).mono (by omega) (by omega),tm ht7 (by omega),by
    simp_all only [f_law_rows,Kd.th,qeq,e1,e6,e7,a1,at0,a0s,a0k,decide_false,decide_true,a0j]; rfl⟩
  | _ =>
   simp only [Kd.th] at eF a1
   exact ⟨_,rF,tF,tl wF,tm htF (by omega),by
    simp_all only [f_law_rows,Kd.th,qeq,e1,eF,a1,at0,a0s,a0k,decide_false,decide_true,a0j]; rfl⟩
 ·subst h
  obtain ⟨m6,r6,t6,w6,ht6,e6⟩:=few (.row a) (by omega) l (by omega) ht1 (by omega) he (by omega) .s m3
  obtain ⟨m7,r7,t7,w7,ht7,e7⟩:=few (.row .truth) (by decide) l (by omega) ht6 (by omega) he (by omega) .s .d
  simp only [Kd.th] at e6 e7
  exact ⟨_,.tup [.str (q "keep"),r6,r7],t7,(n2 (by decide) w6 w7 (a0b _):WT _ _ _).mono (by omega) (by omega),tm ht7 (by omega),by
   simp_all only [f_law_rows,Kd.th,e1,e6,e7,a0s,a0k,decide_false,decide_true]; rfl⟩
 ·subst h
  obtain ⟨m6,r6,t6,w6,ht6,e6⟩:=few (.row (.row a)) D8 l (by omega) ht1 (by omega) he (by omega) m1 (m3.meet .d).up
  cases a with
  | row b =>
   simp only [Kd.th] at eF a1
   exact ⟨_,rF,tF,tl wF,tm htF (by omega),by
    simp_all only [f_law_rows,Kd.th,qeq,e1,eF,a1,at0,a0s,a0k,decide_false,decide_true,a0j]; rfl⟩
  | _ =>
   simp only [Kd.th] at e6 a1
   exact ⟨_,.tup [.str (q "flat"),r6],t6,(n1 (by decide) w6 (a0b _):WT _ _ _).mono (by omega) (by omega),tm ht6 (by omega),by
    simp_all only [f_law_rows,Kd.th,qeq,e1,e6,a1,at0,a0s,a0k,decide_false,decide_true,a0j]; rfl⟩
 ·subst h
  obtain ⟨m7,r7,t7,w7,ht7,e7⟩:=TM l (by omega) a (room / 2) deep a0z (by omega) q0 q1 (by omega) (by omega) ht1 (by omega) he (by omega) hnm m1 m2 m3.kid .d m5
  exact ⟨_,.tup [.str (q "one"),r7],t7,(n1 (by decide) w7 (a0b _):WT _ _ _).mono (by omega) (by omega),tm ht7 (by omega),by
   simp_all only [f_law_rows,Kd.th,e1,e7,a1,a0s,a0k,decide_false,decide_true,a0j]; rfl⟩
theorem vG {w:Int}(h:0<=w):∃ s∈NF,atI [T.str (q "add"),.str (q "sub"),.str (q "mul"),.str (q "div"),.str (q "rest")] (w % 5)=some (.str (q s)):=by
 have:w % 5=0\/w % 5=1\/w % 5=2\/w % 5=3\/w % 5=4:=by omega
 rcases this with h | h | h | h | h<;>rw [h]
 ·exact ⟨"add",by decide,rfl⟩
 ·exact ⟨"sub",by decide,rfl⟩
 ·exact ⟨"mul",by decide,rfl⟩
 ·exact ⟨"div",by decide,rfl⟩
 ·exact ⟨"rest",by decide,rfl⟩
theorem yz {w:Int}(h:0<=w):∃ s∈NF,atI [T.str (q "both"),.str (q "less"),.str (q "same")] (w % 3)=some (.str (q s)):=by
 have:w % 3=0\/w % 3=1\/w % 3=2:=by omega
 rcases this with h | h | h<;>rw [h]
 ·exact ⟨"both",by decide,rfl⟩
 ·exact ⟨"less",by decide,rfl⟩
 ·exact ⟨"same",by decide,rfl⟩
theorem Aq {w:Int}(h:0<=w)(h':w < 3):∃ s∈NF,atI [T.str (q "long"),.str (q "sum"),.str (q "most"),.str (q "pick")] w=some (.str (q s))/\(q s==q "pick")=false:=by
 have:w=0\/w=1\/w=2:=by omega
 rcases this with h | h | h<;>rw [h]
 ·exact ⟨"long",by decide,rfl,by decide +kernel⟩
 ·exact ⟨"sum",by decide,rfl,by decide +kernel⟩
 ·exact ⟨"most",by decide,rfl,by decide +kernel⟩
theorem dp1 (a:String):dp (.tup [.str (q a)])<=64:=show 0+1<=64 by decide
theorem eZ (a b:String)(m n:Md):oSem .eq false [(m,.tup [.str (q a)]),(n,.tup [.str (q b)])]=some (.d,.bl (a==b)):=by
 rw [lg _ _ _ _ _ (dp1 a) (dp1 b)]
 show some (Md.d,T.bl ((q a==q b)&&true))=_
 rw [qeq,a2Q]
theorem oW (x y:Kd)(hx:x.deep<=9)(hy:y.deep<=9)(b:String)(hb:("pair"==b)=false)(m n:Md):oSem .eq false [(m,.tup [.str (q "pair"),x.th,y.th]),(n,.tup [.str (q b)])]=some (.d,.bl false):=by
 show oSem .eq false [(m,(Kd.pair x y).th),_]=_
 rw [lg _ _ _ (Kd.pair x y).th _ (a0m (bT _) (by show max x.deep y.deep+1+1<=64; omega)) (dp1 b)]
 show some (Md.d,T.bl ((q "pair"==q b)&&_))=_
 rw [qeq,hb]
 rfl
theorem nt1:("num"=="truth")=false:=by decide
theorem tn1:("truth"=="num")=false:=by decide
theorem mR (f:Nat)(TM:G6 209 (7+3 * f) f (cc f) fun _=>True):G6 210 (9+3 * f) (f+1) (3 * cc f+1900) fun _=>True:=by
 have RO:=pH f TM
 intro L hL N t env nms k room deep _ hk r0 r1 d0 d1 ht hN he hen hnm m1 m2 m3 m4 m5
 obtain ⟨l,rfl⟩:∃ l,L=l+1:=⟨L-1,by omega⟩
 have n40:=iW f
 have hnn:nn (f+1)=3 * nn f+200:=rfl
 obtain ⟨q0,q1,q2,q3⟩:=oV r0 r1
 rw [fX,x_run _ _ _ rfl]
 cases k with
 | row a =>
  obtain ⟨m7,r7,t7,w7,ht7,e7⟩:=RO l (by omega) (.row a) room deep ⟨a,rfl⟩ hk r0 r1 d0 d1 ht hN he hen hnm m1 m2 m3 m4 m5
  simp only [Kd.th] at e7
  exact ⟨_,r7,t7,w7,ht7,by
   simp_all only [aC,Kd.th,qeq,eZ,nt1,tn1,a1T,e7]; rfl⟩
 | num =>
  obtain ⟨w,t1,w0,w1,ht1,e1⟩:=aD l (by omega) .d 9 ht (by omega) (by decide) (by decide)
  by_cases h4:w < 4
  ·have h4':decide (w < 4)=true:=decide_eq_true h4
   obtain ⟨m6,r6,t6,w6,ht6,e6⟩:=TM l (by omega) (.row .num) (room / 2) deep a0z (by decide) q0 q1 d0 d1 ht1 (by omega) he (by omega) hnm .s .s (.o .s) .d (lkM m5)
   simp only [Kd.th] at e6
   by_cases h3:w < 3
   ·obtain ⟨s,hs,ha,hp⟩:=Aq w0 h3
    exact ⟨_,.tup [.str (q s),r6],t6,(n1 hs w6 (a0b _):WT _ _ _).mono (by omega) (by omega),tm ht6 (by omega),by
     simp_all only [aC,Kd.th,qeq,eZ,nt1,tn1,a1T,e1,e6,h4',ha,hp,a0s,a0k,decide_false,decide_true,a0j]; rfl⟩
   ·have:w=3:=by omega
    subst this
    obtain ⟨m7,r7,t7,w7,ht7,e7⟩:=TM l (by omega) .num (room / 3) deep a0z (by decide) q2 q3 d0 d1 ht6 (by omega) he (by omega) hnm .s .s .s .d m5
    simp only [Kd.th] at e7
    have ha:atI [T.str (q "long"),.str (q "sum"),.str (q "most"),.str (q "pick")] 3=some (.str (q "pick")):=rfl
    exact ⟨_,.tup [.str (q "pick"),r6,r7],t7,(n2 (by decide) w6 w7 (a0b _):WT _ _ _).mono (by omega) (by omega),tm ht7 (by omega),by
     simp_all only [aC,Kd.th,qeq,eZ,nt1,tn1,a1T,e1,e6,e7,ha,a0s,a0k,decide_false,decide_true,a0j]; rfl⟩
  ·have h4':decide (w < 4)=false:=decide_eq_false h4
   obtain ⟨s,hs,h5⟩:=vG w0
   obtain ⟨m6,r6,t6,w6,ht6,e6⟩:=TM l (by omega) .num (room / 2) deep a0z (by decide) q0 q1 d0 d1 ht1 (by omega) he (by omega) hnm .s .s .s .d (lkM m5)
   obtain ⟨m7,r7,t7,w7,ht7,e7⟩:=TM l (by omega) .num (room / 2) deep a0z (by decide) q0 q1 d0 d1 ht6 (by omega) he (by omega) hnm .s .s .s .d m5
   simp only [Kd.th] at e6 e7
   exact ⟨_,.tup [.str (q s),r6,r7],t7,(n2 hs w6 w7 (a0b _):WT _ _ _).mono (by omega) (by omega),tm ht7 (by omega),by
    simp_all only [aC,Kd.th,qeq,eZ,nt1,tn1,a1T,e1,e6,e7,h4',h5,a0s,a0k,decide_false,decide_true,a0j]; rfl⟩
 | truth =>
  obtain ⟨w,t1,w0,w1,ht1,e1⟩:=aD l (by omega) .d 9 ht (by omega) (by decide) (by decide)
  cases h0:(w==0) with
  | true =>
   obtain ⟨m6,r6,t6,w6,ht6,e6⟩:=TM l (by omega) .truth (room / 2) deep a0z (by decide) q0 q1 d0 d1 ht1 (by omega) he (by omega) hnm m1 m2 m3 .d m5
   simp only [Kd.th] at e6
   exact ⟨_,.tup [.str (q "not"),r6],t6,(n1 (by decide) w6 (a0b _):WT _ _ _).mono (by omega) (by omega),tm ht6 (by omega),by
    simp_all only [aC,Kd.th,qeq,eZ,nt1,tn1,a1T,e1,e6,h0,a0s,a0k,decide_false,decide_true,a0j]; rfl⟩
  | false =>
   obtain ⟨s5,_,h5⟩:=vG w0
   obtain ⟨s,hs,h3⟩:=yz w0
   cases hc:((w % 3==0) || (w==5)) with
   | true =>
    obtain ⟨m6,r6,t6,w6,ht6,e6⟩:=TM l (by omega) .truth (room / 2) deep a0z (by decide) q0 q1 d0 d1 ht1 (by omega) he (by omega) hnm .s .s .s .d (lkM m5)
    obtain ⟨m7,r7,t7,w7,ht7,e7⟩:=TM l (by omega) .truth (room / 2) deep a0z (by decide) q0 q1 d0 d1 ht6 (by omega) he (by omega) hnm .s .s .s .d m5
    simp only [Kd.th] at e6 e7
    exact ⟨_,.tup [.str (q s),r6,r7],t7,(n2 hs w6 w7 (a0b _):WT _ _ _).mono (by omega) (by omega),tm ht7 (by omega),by
     cases h30:(w % 3==0) with
     | true =>
      simp_all only [aC,Kd.th,qeq,eZ,nt1,tn1,a1T,e1,e6,e7,h0,h5,h3,h30,a0s,a0k,decide_false,decide_true,a0j]; rfl
     | false =>
      have h55:(w==5)=true:=by rw [h30] at hc; exact hc
      simp_all only [aC,Kd.th,qeq,eZ,nt1,tn1,a1T,e1,e6,e7,h0,h5,h3,h30,h55,a0s,a0k,decide_false,decide_true,a0j]⟩
   | false =>
    obtain ⟨m6,r6,t6,w6,ht6,e6⟩:=TM l (by omega) .num (room / 2) deep a0z (by decide) q0 q1 d0 d1 ht1 (by omega) he (by omega) hnm .s .s .s .d (lkM m5)
    obtain ⟨m7,r7,t7,w7,ht7,e7⟩:=TM l (by omega) .num (room / 2) deep a0z (by decide) q0 q1 d0 d1 ht6 (by omega) he (by omega) hnm .s .s .s .d m5
    simp only [Kd.th] at e6 e7
    have h30:(w % 3==0)=false:=(a2a.mp hc).1
    have h55:(w==5)=false:=(a2a.mp hc).2
    exact ⟨_,.tup [.str (q s),r6,r7],t7,(n2 hs w6 w7 (a0b _):WT _ _ _).mono (by omega) (by omega),tm ht7 (by omega),by
     simp_all only [aC,Kd.th,qeq,eZ,nt1,tn1,a1T,e1,e6,e7,h0,h5,h3,h30,h55,a0s,a0k,decide_false,decide_true,a0j]; rfl⟩
 | pair a b =>
  have hab:max a.deep b.deep+1<=2:=hk
  obtain ⟨w,t1,w0,w1,ht1,e1⟩:=aD l (by omega) .d 9 ht (by omega) (by decide) (by decide)
  obtain ⟨s5,_,h5⟩:=vG w0
  obtain ⟨m6,r6,t6,w6,ht6,e6⟩:=TM l (by omega) a (room / 2) deep a0z (by omega) q0 q1 d0 d1 ht1 (by omega) he (by omega) hnm .s .s .s .d (lkM m5)
  obtain ⟨m7,r7,t7,w7,ht7,e7⟩:=TM l (by omega) b (room / 2) deep a0z (by omega) q0 q1 d0 d1 ht6 (by omega) he (by omega) hnm .s .s .s .d m5
  have y1:=oW a b (by omega) (by omega) "num" (by decide)
  have y2:=oW a b (by omega) (by omega) "truth" (by decide)
  exact ⟨_,.tup [.str (q "pair"),r6,r7],t7,(n2 (by decide) w6 w7 (a0b _):WT _ _ _).mono (by omega) (by omega),tm ht7 (by omega),by
   simp_all only [aC,Kd.th,qeq,y1,y2,e1,e6,e7,h5,ck,a0s,a0k,decide_false,decide_true,a0j]; rfl⟩
theorem AE {a:Int}(h:0<=a)(h':a < 3):∃ k:Kd,k.deep<=1/\atI [T.tup [.str (q "num")],.tup [.str (q "truth")],.tup [.str (q "row"),.tup [.str (q "num")]]] a=some k.th:=by
 have:a=0\/a=1\/a=2:=by omega
 rcases this with h | h | h<;>rw [h]
 ·exact ⟨.num,by decide,rfl⟩
 ·exact ⟨.truth,by decide,rfl⟩
 ·exact ⟨.row .num,by decide,rfl⟩
theorem dt {l:List T}{r:Int}(h:0<=r)(h':r < (l.length:Int)):∃ y∈l,atI l r=some y:=by
 obtain ⟨j,rfl⟩:∃ j:Nat,r=(j:Int):=⟨r.toNat,by omega⟩
 have hj:j < l.length:=by omega
 exact ⟨l[j],a1U hj,atN rfl (a0q hj)⟩
theorem vt {env:List (T×T)}{nms:List Str}(h:env.length+1 < nms.length):atI (nms.map T.str) (((env.map eT).length:Int)+1)=some (.str (nms.getD (env.length+1) (q ""))):=by
 rw [a0d]
 exact atN (n:=env.length+1) (by omega) (by rw [a0x,a0y,a0q h]; rfl)
theorem bz (m:Md)(s:Str):lf m (.str s)=.d:=rfl
noncomputable abbrev R1:List S:=Bk f_law_turnable_row 0 9
noncomputable abbrev R2:List S:=Bk f_law_turnable_row 9 3
noncomputable abbrev R3:List S:=Bk f_law_turnable_row 12 2
theorem xZ {N l:Nat}{t:T}{env:List (T×T)}{nms:List Str}(a:Kd)(ha:a.deep<=1)(hl:7<=l)(ht:Tp N t)(hN:N+660 < 1000000000000000000)(he:cP env)(hen:env.length<=12)(hnm:nms.length=20)(m1 m2 m3:Md)(o4 o5:Option W) :
  ∃ x y m8 k8 m9 r9 m10 r10 m11 r11 m12 r12 m13 r13 t',WT 5 40 r9/\WT 4 15 r10/\WT 5 16 r11/\WT 5 31 r12/\WT 4 15 r13/\Tp (N+660) t' /\
   evSs (C l) R1 [some (.d,t),some (m1,.lst (env.map eT)),some (m2,.lst (nms.map T.str)),some (m3,(Kd.row a).th),o4,o5,none,none,none,none,none,none,none,none,none] =
    .nx [some (.d,t'),some (.s,.lst (env.map eT)),some (m2,.lst (nms.map T.str)),some (.s,(Kd.row a).th),o4,o5,some (.s,.str x),some (.s,.str y),some (m8,k8),some (m9,r9),some (m10,r10),some (m11,r11),some (m12,r12),some (m13,r13),none]:=by
 have hx:=fW (env:=env) (nms:=nms) (by omega)
 have hy:=vt (env:=env) (nms:=nms) (by omega)
 generalize nms.getD env.length (q "")=x at hx
 generalize nms.getD (env.length+1) (q "")=y at hy
 obtain ⟨b,t1,b0,b1,ht1,e1⟩:=aD l (by omega) .d 3 ht (by omega) (by decide) (by decide)
 obtain ⟨κ,hκ,h3⟩:=AE b0 b1
 have hκ64:dp κ.th<=64:=a0m (bT κ) (by omega)
 obtain ⟨m9,r9,t2,w9,ht2,e2⟩:=few (.row κ) (by show κ.deep+1<=3; omega) l hl ht1 (by omega) he (by omega) .s (.o .s)
 obtain ⟨m10,r10,t3,w10,ht3,e3⟩:=bU (env:=env++[(.str x,κ.th)]) a (by omega) l (by omega) ht2 (by omega) (fR he _ _ hκ64) (by rw [a0c,a0u]; omega) (.o .s) .s
 obtain ⟨m11,r11,t4,w11,ht4,e4⟩:=bU a (by omega) l (by omega) ht3 (by omega) he (by omega) .s .s
 obtain ⟨m12,r12,t5,w12,ht5,e5⟩:=bU (env:=env++[(.str y,κ.th)]) .num (by decide) l (by omega) ht4 (by omega) (fR he _ _ hκ64) (by rw [a0c,a0u]; omega) (.o .s) .d
 obtain ⟨c,t6,c0,c1,ht6,e6⟩:=aD l (by omega) .d 3 ht5 (by omega) (by decide) (by decide)
 have a1:=at1 (T.str (q "row")) a.th []
 have ef:=fun x=>bW (env:=env) (by omega) (.tup [.str x,κ.th])
 have ea:=fun x=>cD env (.str x) κ.th
 have ef':=fun x=>bW (env:=env) (by omega) (.tup [.str x,Kd.num.th])
 have ea':=fun x=>cD env (.str x) Kd.num.th
 simp only [Kd.th] at e2 e5 ef' ea'
 cases h0:(c==0) with
 | false =>
  obtain ⟨m13,r13,t7,w13,ht7,e7⟩:=bU (env:=env++[(.str x,Kd.num.th)]) a (by omega) l (by omega) ht6 (by omega) (fR he _ _ (dp1 "num")) (by rw [a0c,a0u]; omega) (.o .s) .s
  simp only [Kd.th] at e7
  exact ⟨x,y,_,_,_,r9,_,r10,_,.tup [.str (q "one"),r11],_,r12,_,r13,t7,w9,w10,n1 (by decide) w11 (a0b _),w12.mono (by omega) (by omega),w13,tm ht7 (by omega),by
   simp_all only [R1,Bk,a01,a0P,f_law_turnable_row,Kd.th,hx,hy,h3,ck,bz,a1,ef,ea,ef',ea',e1,e2,e3,e4,e5,e6,e7,h0,a0s,a0k,decide_false,decide_true,a0j]; rfl⟩
 | true =>
  obtain ⟨mA,rA,tA,wA,htA,eA⟩:=bU (env:=env++[(.str y,κ.th)]) .num (by decide) l (by omega) ht6 (by omega) (fR he _ _ hκ64) (by rw [a0c,a0u]; omega) (.o .s) .d
  obtain ⟨m13,r13,t7,w13,ht7,e7⟩:=bU (env:=env++[(.str x,Kd.num.th)]) a (by omega) l (by omega) htA (by omega) (fR he _ _ (dp1 "num")) (by rw [a0c,a0u]; omega) (.o .s) .s
  simp only [Kd.th] at e7 eA
  exact ⟨x,y,_,_,_,r9,_,r10,_,.tup [.str (q "one"),r11],_,.tup [.str (q "div"),r12,rA],_,r13,t7,w9,w10,n1 (by decide) w11 (a0b _),n2 (by decide) w12 wA (a0b _),w13,tm ht7 (by omega),by
   simp_all only [R1,Bk,a01,a0P,f_law_turnable_row,Kd.th,hx,hy,h3,ck,bz,a1,ef,ea,ef',ea',e1,e2,e3,e4,e5,e6,e7,eA,h0,a0s,a0k,decide_false,decide_true,a0j]; rfl⟩
theorem aj {P:T->Prop}{a:T}{l:List T}(h:P a)(h':∀ y∈l,P y):∀ y∈a::l,P y:=fun y hy=>by
 rcases a0H.mp hy with rfl | hy
 ·exact h
 ·exact h' y hy
theorem bM {P:T->Prop}:∀ y∈([]:List T),P y:=fun _ h=>nomatch h
theorem cG {P:T->Prop}{a b:List T}(h:∀ y∈a,P y)(h':∀ y∈b,P y):∀ y∈a++b,P y:=fun y hy=>(a0O.mp hy).elim (h y) (h' y)
theorem dy {d n:Nat}{r:T}(h:WT d n r)(m:Md):lf m r=m:=by cases h<;>rfl
theorem xt {l f:Nat}(a:Kd){x y:Str}{r4 r9 r10 r11 r12 r13:T}{m4 m9 m10 m11 m12 m13:Md}{o0 o1 o2 o5 o8:Option W}(w4:WT (6+3 * f) (nn f) r4)(w9:WT 5 40 r9)(w10:WT 4 15 r10)(w11:WT 5 16 r11)(w12:WT 5 31 r12)(w13:WT 4 15 r13) :
  ∃ L η3 η4 η9 η10 η11 η12 η13 ηx ηy,(∀ z∈L,WT (6+3 * (f+1)) (nn (f+1)) z)/\L.length<=8 /\
   evSs (C l) R2 [o0,o1,o2,some (.s,(Kd.row a).th),some (m4,r4),o5,some (.s,.str x),some (.s,.str y),o8,some (m9,r9),some (m10,r10),some (m11,r11),some (m12,r12),some (m13,r13),none] =
    .nx [o0,o1,o2,η3,η4,o5,ηx,ηy,o8,η9,η10,η11,η12,η13,some (.o .s,.lst L)]:=by
 have n40:=iW f
 have hnn:nn (f+1)=3 * nn f+200:=rfl
 have a1:=at1 (T.str (q "row")) a.th []
 have l4:=dy w4
 have f6:∀ a b c d e f:T,a4 ([a,b,c,d].length+[e,f].length)=true:=fun _ _ _ _ _ _=>rfl
 have f7:∀ a b c d e f:T,a4 ([a,b,c,d,e,f].length+1)=true:=fun _ _ _ _ _ _=>rfl
 have no:∀ x:T,WT (6+3 * f) 1 (.tup [.str (q "none"),x]):=fun x=>(lfW (s:="none") (by decide):WT (0+1) (0+1) _).mono (by omega) (by omega)
 have na:∀ x:T,WT (6+3 * f) 1 (.tup [.str (q "name"),x]):=fun x=>(lfW (s:="name") (by decide):WT (0+1) (0+1) _).mono (by omega) (by omega)
 have w9':WT (6+3 * f) 40 r9:=w9.mono (by omega) (by omega)
 have w10':WT (5+3 * f) 15 r10:=w10.mono (by omega) (by omega)
 have w11':WT (6+3 * f) 16 r11:=w11.mono (by omega) (by omega)
 have w12':WT (6+3 * f) 31 r12:=w12.mono (by omega) (by omega)
 have w13':WT (7+3 * f) 15 r13:=w13.mono (by omega) (by omega)
 have H:∀ {d n:Nat} {z:T},WT d n z->d<=6+3 * (f+1)->n<=nn (f+1)->WT (6+3 * (f+1)) (nn (f+1)) z:=fun h=>h.mono
 have A:∀ z∈[T.tup [.str (q "join"),.tup [.str (q "none"),a.th],r4],.tup [.str (q "join"),r4,.tup [.str (q "none"),a.th]],.tup [.str (q "each"),.str x,r4,.tup [.str (q "name"),.str x]],.tup [.str (q "join"),r11,r11],.tup [.str (q "flat"),.tup [.str (q "each"),.str x,r9,.tup [.str (q "one"),r10]]],.tup [.str (q "each"),.str x,.tup [.str (q "each"),.str y,r9,r12],r13]],WT (6+3 * (f+1)) (nn (f+1)) z:=by
  refine aj (H (n2 (by decide) (no _) w4 (a0b _)) (by omega) (by omega)) (aj (H (n2 (by decide) w4 (no _) (a0b _)) (by omega) (by omega)) (aj (H (bd2 (by decide) w4 (na _) (a0b _)) (by omega) (by omega)) (aj (H (n2 (by decide) w11' w11' (a0b _)) (by omega) (by omega)) (aj (H (n1 (by decide) (bd2 (by decide) w9' ((n1 (by decide) w10' (a0b _):WT (5+3 * f+1) 16 _).mono (by omega) (a0b _)) (a0b _)) (a0b _)) (by omega) (by omega)) (aj (H (bd2 (by decide) (bd2 (by decide) w9' w12' (a0b _)) (w13'.mono (by omega) (a0b _)) (a0b _)) (by omega) (by omega)) bM)))))
 cases a with
 | row b =>
  exact ⟨_,_,_,_,_,_,_,_,_,_,A,(show 6<=8 by decide),by
   simp_all only [R2,Bk,a01,a0P,f_law_turnable_row,l4,Kd.th,qeq,a1,f6,f7,at0,ck,bz,a0s,a0k,decide_false,decide_true,a0j]; rfl⟩
 | _ =>
  exact ⟨_,_,_,_,_,_,_,_,_,_,cG A (aj (H (n1 (s:="flat") (by decide) (n1 (s:="one") (by decide) w4 (a0b _)) (a0b _)) (by omega) (by omega)) bM),(show 7<=8 by decide),by
   simp_all only [R2,Bk,a01,a0P,f_law_turnable_row,l4,Kd.th,qeq,a1,f6,f7,at0,ck,bz,a0s,a0k,decide_false,decide_true,a0j]; rfl⟩
theorem zK {N L f:Nat}{t:T}{env:List (T×T)}{nms:List Str}(a:Kd)(ha:a.deep<=1)(hL:8<=L)(ht:Tp N t)(hN:N+700 < 1000000000000000000)(he:cP env)(hen:env.length<=12)(hnm:nms.length=20)(m1 m2 m3 m4 m5:Md){tr:T}{ys:List T}(w4:WT (6+3 * f) (nn f) tr)(hys:∀ z∈ys,WT (6+3 * (f+1)) (nn (f+1)) z)(hyl:0 < ys.length)(hyl':ys.length<=100) :
  ∃ md r t',WT (6+3 * (f+1)) (nn (f+1)) r/\Tp (N+700) t'/\C L 213 [(.d,t),(m1,.lst (env.map eT)),(m2,.lst (nms.map T.str)),(m3,(Kd.row a).th),(m4,tr),(m5,.lst ys)]=.ok ((md,r),[(.d,t')]):=by
 obtain ⟨l,rfl⟩:∃ l,L=l+1:=⟨L-1,by omega⟩
 obtain ⟨x,y,m8,k8,m9,r9,m10,r10,m11,r11,m12,r12,m13,r13,t1,w9,w10,w11,w12,w13,ht1,E1⟩:=xZ (env:=env) (nms:=nms) a ha (l:=l) (by omega) ht (by omega) he hen hnm m1 m2 m3 (some (m4,tr)) (some (m5,.lst ys))
 obtain ⟨ls,η3,η4,η9,η10,η11,η12,η13,ηx,ηy,hA,hal,E2⟩:=xt (l:=l) (f:=f) a (x:=x) (y:=y) (m4:=m4) (m9:=m9) (m10:=m10) (m11:=m11) (m12:=m12) (m13:=m13) (o0:=some (.d,t1)) (o1:=some (.s,.lst (env.map eT))) (o2:=some (m2,.lst (nms.map T.str))) (o5:=some (m5,.lst ys)) (o8:=some (m8,k8)) w4 w9 w10 w11 w12 w13
 obtain ⟨r,t2,r0,r1,ht2,e3⟩:=aD l (by omega) .d (((ls++ys).length:Nat):Int) ht1 (by omega) (by rw [a0c]; omega) (by rw [a0c]; omega)
 obtain ⟨z,hz,az⟩:=dt r0 r1
 have ff:a4 (ls.length+ys.length)=true:=decide_eq_true (by show _<=16777215; omega)
 rw [cK,x_run _ _ _ rfl,show f_law_turnable_row.body=R1++(R2++R3) from rfl]
 obtain ⟨md,η',E3⟩:∃ md η',evSs (C l) R3 [some (.d,t1),some (.s,.lst (env.map eT)),some (m2,.lst (nms.map T.str)),η3,η4,some (m5,.lst ys),ηx,ηy,some (m8,k8),η9,η10,η11,η12,η13,some (.o .s,.lst ls)]=.rt (md,z) (some (.d,t2)::η'):=⟨_,_,by
  simp_all only [R3,Bk,a01,a0P,f_law_turnable_row,ff,e3,az]; rfl⟩
 refine ⟨md,z,t2,cG hA hys z hz,tm ht2 (by omega),?_⟩
 exact (congrArg (Fl.out _) ((go1 E1).trans ((go1 E2).trans E3))).trans rfl
noncomputable abbrev Q1:List S:=Bk f_law_turnable 0 7
noncomputable abbrev Q2:List S:=Bk f_law_turnable 7 5
noncomputable abbrev Q3:List S:=Bk f_law_turnable 12 4
theorem xq {N l f:Nat}{t:T}{env:List (T×T)}{nms:List Str}(TM:G6 209 (7+3 * f) f (cc f) fun _=>True)(k:Kd)(room deep:Int)(hk:k.deep<=2)(hl:7+3 * f<=l)(r0:0<=room)(r1:room < 3 * 2 ^ (f+1))(d0:0<=deep)(d1:deep<=2)(ht:Tp N t)(hN:N+(cc f+300) < 1000000000000000000)(he:cP env)(hen:env.length+(f+1)<=12)(hnm:nms.length=20)(m1 m2 m3 m4 m5:Md) :
  ∃ x o7 m8 r8 o9 m10 r10 m11 r11 m12 r12 t',WT (6+3 * f) (nn f) r8/\WT 4 15 r10/\WT 4 15 r11/\WT 4 15 r12/\Tp (N+(cc f+300)) t' /\
   evSs (C l) Q1 [some (.d,t),some (m1,.lst (env.map eT)),some (m2,.lst (nms.map T.str)),some (m3,k.th),some (m4,.int room),some (m5,.int deep),none,none,none,none,none,none,none,none,none,none,none] =
    .nx [some (.d,t'),some (.s,.lst (env.map eT)),some (.s,.lst (nms.map T.str)),some (.s,k.th),some (m4,.int room),some (m5,.int deep),some (.s,.str x),o7,some (m8,r8),o9,some (m10,r10),some (m11,r11),some (m12,r12),none,none,none,none]:=by
 obtain ⟨q0,q1,q2,q3⟩:=oV r0 r1
 have hx:=fW (env:=env) (nms:=nms) (by omega)
 generalize nms.getD env.length (q "")=x at hx
 obtain ⟨m8,r8,t1,w8,ht1,e1⟩:=TM l (by omega) (env:=env++[(.str x,.non)]) k (room / 2) (if deep-1 > 0 then deep-1 else 0) a0z hk q0 q1 (by split<;>omega) (by split<;>omega) ht (by omega) (fR he _ _ (by decide)) (by rw [a0c,a0u]; omega) hnm .s .s .s .d .d
 obtain ⟨m9,κ,t2,hκ,ht2,e2⟩:=kind l (by omega) ht1 (by omega)
 obtain ⟨m10,r10,t3,w10,ht3,e3⟩:=bU κ (by omega) l (by omega) ht2 (by omega) he (by omega) .s .s
 obtain ⟨m11,r11,t4,w11,ht4,e4⟩:=bU .truth (by decide) l (by omega) ht3 (by omega) he (by omega) .s .d
 obtain ⟨m12,r12,t5,w12,ht5,e5⟩:=bU k (by omega) l (by omega) ht4 (by omega) he (by omega) .s .s
 have ef:=bW (env:=env) (by omega) (.tup [.str x,.non])
 have ea:=cD env (.str x) .non
 simp only [Kd.th] at e4
 exact ⟨x,_,_,r8,_,_,r10,_,r11,_,r12,t5,w8,w10,w11,w12,tm ht5 (by omega),by
  simp_all only [Q1,Bk,a01,a0P,f_law_turnable,hx,ef,ea,ck,bz,e1,e2,e3,e4,e5,a0s,a0k,decide_false,decide_true,a0j]; rfl⟩
theorem xm {N l f:Nat}{t:T}{env:List (T×T)}(k:Kd)(hk:k.deep<=2)(hl:7<=l)(ht:Tp N t)(hN:N+2 < 1000000000000000000)(he:cP env)(hen:env.length<=12){x:Str}{r8 r10 r11 r12:T}{m8 m10 m11 m12:Md}{o2 o4 o5 o7 o9:Option W}(w8:WT (6+3 * f) (nn f) r8)(w10:WT 4 15 r10)(w11:WT 4 15 r11)(w12:WT 4 15 r12) :
  ∃ ls m8' m10' η11 η12 η14 t',(∀ z∈ls,WT (6+3 * (f+1)) (nn (f+1)) z)/\0 < ls.length/\ls.length<=9/\Tp (N+2) t' /\
   evSs (C l) Q2 [some (.d,t),some (.s,.lst (env.map eT)),o2,some (.s,k.th),o4,o5,some (.s,.str x),o7,some (m8,r8),o9,some (m10,r10),some (m11,r11),some (m12,r12),none,none,none,none] =
    .nx [some (.d,t'),some (.s,.lst (env.map eT)),o2,some (.s,k.th),o4,o5,some (.s,.str x),o7,some (m8',r8),o9,some (m10',r10),η11,η12,some (.o .s,.lst ls),η14,none,none]:=by
 have n40:=iW f
 have hnn:nn (f+1)=3 * nn f+200:=rfl
 obtain ⟨b,t1,b0,b1,ht1,e1⟩:=aD l (by omega) .d 2 ht (by omega) (by decide) (by decide)
 obtain ⟨m14,r14,t2,hr14,ht2,e2⟩:=iZ (k:=k.th) l (by omega) ht1 (by omega) he (by omega) (a0m (bT k) (by omega)) .s .s
 obtain ⟨s,hs,hy⟩:∃ s∈NF,atI [T.tup [.str (q "yes")],.tup [.str (q "no")]] b=some (.tup [.str (q s)]):=by
  have:b=0\/b=1:=by omega
  rcases this with h | h<;>rw [h]
  ·exact ⟨"yes",by decide,rfl⟩
  ·exact ⟨"no",by decide,rfl⟩
 have l8:=dy w8
 have l10:=dy w10
 have l11:=dy w11
 have l12:=dy w12
 have f6:∀ a b c d e f:T,a4 ([a,b,c].length+[d,e,f].length)=true:=fun _ _ _ _ _ _=>rfl
 have f8:∀ a b c d e f g h:T,a4 ([a,b,c,d,e,f].length+[g,h].length)=true:=fun _ _ _ _ _ _ _ _=>rfl
 have f9:∀ a b c d e f g h:T,a4 ([a,b,c,d,e,f,g,h].length+1)=true:=fun _ _ _ _ _ _ _ _=>rfl
 have H:∀ {d n:Nat} {z:T},WT d n z->d<=6+3 * (f+1)->n<=nn (f+1)->WT (6+3 * (f+1)) (nn (f+1)) z:=fun h=>h.mono
 have nu:∀ {d n:Nat} (x:T),WT (d+1) (n+1) (.tup [.str (q "num"),x]):=fun x=>lfW (by decide)
 have na:∀ {d n:Nat} (x:T),WT (d+1) (n+1) (.tup [.str (q "name"),x]):=fun x=>lfW (by decide)
 have w8':WT (7+3 * f) (nn f) r8:=w8.mono (by omega) (a0b _)
 have v10:WT (6+3 * f) 15 r10:=w10.mono (by omega) (a0b _)
 have v11:WT (6+3 * f) 15 r11:=w11.mono (by omega) (a0b _)
 have v12:WT (7+3 * f) 15 r12:=w12.mono (by omega) (a0b _)
 have v11':WT (7+3 * f) 15 r11:=w11.mono (by omega) (a0b _)
 have e7:7+3 * f=6+3 * f+1:=by omega
 have A:∀ z∈[T.tup [.str (q "let"),.str x,r10,r8],.tup [.str (q "if"),.tup [.str (q s)],r8,r12],.tup [.str (q "if"),r11,r8,r8],.tup [.str (q "if"),.tup [.str (q "not"),r11],r8,r12],.tup [.str (q "first"),.tup [.str (q "pair"),r8,r10]],.tup [.str (q "second"),.tup [.str (q "pair"),r10,r8]],.tup [.str (q "pick"),.tup [.str (q "one"),r8],.tup [.str (q "num"),.int 0]],.tup [.str (q "times"),.str x,.tup [.str (q "num"),.int 0],r12,r8]],WT (6+3 * (f+1)) (nn (f+1)) z:=by
  rw [e7] at w8' v12 v11'
  refine aj (H (bd2 (by decide) v10 w8 (a0b _)) (by omega) (by omega)) (aj (H (n3 (by decide) (n0 (n:=0) hs) w8' v12 (a0b _)) (by omega) (by omega)) (aj (H (n3 (by decide) v11' w8' w8' (a0b _)) (by omega) (by omega)) (aj (H (n3 (by decide) (n1 (by decide) v11 (a0b _)) w8' v12 (a0b _)) (by omega) (by omega)) (aj (H (n1 (by decide) (n2 (by decide) w8 v10 (a0b _)) (a0b _)) (by omega) (by omega)) (aj (H (n1 (by decide) (n2 (by decide) v10 w8 (a0b _)) (a0b _)) (by omega) (by omega)) (aj (H (n2 (by decide) (n1 (by decide) w8 (a0b _)) (nu (n:=0) _) (a0b _)) (by omega) (by omega)) (aj (H (bd3 (by decide) (nu (n:=0) _) v12 w8' (a0b _)) (by omega) (by omega)) bM)))))))
 rcases hr14 with rfl | ⟨y,rfl⟩
 ·exact ⟨_,_,_,_,_,_,t2,A,(show 0 < 8 by decide),(show 8<=9 by decide),tm ht2 (by omega),by
   simp_all only [Q2,Bk,a01,a0P,f_law_turnable,l8,l10,l11,l12,f6,f8,f9,hy,e1,e2,ck,bz,a0s,a0k,decide_false,decide_true,a0j]; rfl⟩
 ·have A9:WT (6+3 * (f+1)) (nn (f+1)) (.tup [.str (q "let"),.str x,.tup [.str (q "name"),y],.tup [.str (q "if"),r11,.tup [.str (q "name"),.str x],r8]]):=by
   refine H (bd2 (d:=7+3 * f) (a:=1) (b:=15+1+nn f+1) (s:="let") (by decide) ?_ ?_ (a0b _)) (by omega) (by omega)
   ·exact (na (d:=0) (n:=0) y).mono (by omega) (by omega)
   ·rw [e7]
    exact n3 (by decide) v11 ((na (d:=0) (n:=0) _).mono (by omega) (by omega)) w8 (a0b _)
  exact ⟨_,_,_,_,_,_,t2,cG A (aj A9 bM),(show 0 < 9 by decide),(show 9<=9 by decide),tm ht2 (by omega),by
   simp_all only [Q2,Bk,a01,a0P,f_law_turnable,l8,l10,l11,l12,f6,f8,f9,hy,e1,e2,ck,bz,a0s,a0k,decide_false,decide_true,a0j]; rfl⟩
theorem pB (f:Nat)(TM:G6 209 (7+3 * f) f (cc f) fun _=>True):G6 212 (9+3 * f) (f+1) (3 * cc f+1900) fun _=>True:=by
 intro L hL N t env nms k room deep _ hk r0 r1 d0 d1 ht hN he hen hnm m1 m2 m3 m4 m5
 obtain ⟨l,rfl⟩:∃ l,L=l+1:=⟨L-1,by omega⟩
 have n40:=iW f
 have hnn:nn (f+1)=3 * nn f+200:=rfl
 obtain ⟨x,o7,m8,r8,o9,m10,r10,m11,r11,m12,r12,t1,w8,w10,w11,w12,ht1,E1⟩:=xq (l:=l) TM k room deep hk (by omega) r0 r1 d0 d1 ht (by omega) he hen hnm m1 m2 m3 m4 m5
 obtain ⟨ls,m8',m10',η11,η12,η14,t2,hA,hl0,hl9,ht2,E2⟩:=xm (l:=l) (f:=f) (x:=x) (m8:=m8) (m10:=m10) (m11:=m11) (m12:=m12) (o2:=some (.s,.lst (nms.map T.str))) (o4:=some (m4,.int room)) (o5:=some (m5,.int deep)) (o7:=o7) (o9:=o9) k hk (by omega) ht1 (by omega) he (by omega) w8 w10 w11 w12
 rw [dE,x_run _ _ _ rfl,show f_law_turnable.body=Q1++(Q2++Q3) from rfl]
 have fin:(∃ md z t' η',WT (6+3 * (f+1)) (nn (f+1)) z/\Tp (N+(3 * cc f+1900)) t'/\evSs (C l) Q3 [some (.d,t2),some (.s,.lst (env.map eT)),some (.s,.lst (nms.map T.str)),some (.s,k.th),some (m4,.int room),some (m5,.int deep),some (.s,.str x),o7,some (m8',r8),o9,some (m10',r10),η11,η12,some (.o .s,.lst ls),η14,none,none]=.rt (md,z) (some (.d,t')::η'))->∃ md r t',WT (6+3 * (f+1)) (nn (f+1)) r/\Tp (N+(3 * cc f+1900)) t'/\Fl.out f_law_turnable.io (evSs (C l) (Q1++(Q2++Q3)) (a1y some [(Md.d,t),(m1,T.lst (a1y eT env)),(m2,T.lst (nms.map T.str)),(m3,k.th),(m4,T.int room),(m5,T.int deep)]++a0e f_law_turnable.ns none))=.ok ((md,r),[(.d,t')]):=fun ⟨md,z,t',η',hz,ht',E3⟩=>⟨md,z,t',hz,ht',(congrArg (Fl.out _) ((go1 E1).trans ((go1 E2).trans E3))).trans rfl⟩
 refine fin ?_
 clear fin E1 E2
 have l8:=dy w8
 have H:∀ {d n:Nat} {z:T},WT d n z->d<=6+3 * (f+1)->n<=nn (f+1)->WT (6+3 * (f+1)) (nn (f+1)) z:=fun h=>h.mono
 have nu:∀ {d n:Nat} (x:T),WT (d+1) (n+1) (.tup [.str (q "num"),x]):=fun x=>lfW (by decide)
 have ff4:∀ a b c d:T,a4 (ls.length+[a,b,c,d].length)=true:=fun a b c d=>decide_eq_true (by show ls.length+4<=16777215; omega)
 cases k with
 | row a =>
  have ha:a.deep+1<=2:=hk
  obtain ⟨m,r,t3,w,ht3,e3⟩:=zK a (by omega) (L:=l) (by omega) ht2 (by omega) he (by omega) hnm .s .s .s m8' (.o .s) w8 hA hl0 (by omega)
  simp only [Kd.th] at e3
  exact ⟨_,r,t3,_,w,tm ht3 (by omega),by
   simp_all only [Q3,Bk,a01,a0P,f_law_turnable,Kd.th,qeq,at0,e3,a0s,a0k,decide_false,decide_true,a0j]; rfl⟩
 | pair a b =>
  have hab:max a.deep b.deep+1<=2:=hk
  have y1:=oW a b (by omega) (by omega) "num" (by decide)
  have y2:=oW a b (by omega) (by omega) "truth" (by decide)
  obtain ⟨r,t3,r0,r1,ht3,e3⟩:=aD l (by omega) .d ((ls.length:Nat):Int) ht2 (by omega) (by omega) (by omega)
  obtain ⟨z,hz,az⟩:=dt r0 r1
  exact ⟨_,z,t3,_,hA z hz,tm ht3 (by omega),by
   simp_all only [Q3,Bk,a01,a0P,f_law_turnable,Kd.th,qeq,at0,y1,y2,e3,az,a0s,a0k,decide_false,decide_true,a0j]; rfl⟩
 | truth =>
  have B:∀ z∈ls++[T.tup [.str (q "both"),.tup [.str (q "yes")],r8],.tup [.str (q "both"),r8,.tup [.str (q "yes")]],.tup [.str (q "not"),.tup [.str (q "not"),r8]],.tup [.str (q "same"),r8,r8]],WT (6+3 * (f+1)) (nn (f+1)) z:=by
   have ye:∀ {n:Nat},WT (6+3 * f) (n+1) (.tup [.str (q "yes")]):=fun {n}=>(n0 (d:=5+3 * f) (n:=n) (s:="yes") (by decide)).mono (by omega) (a0b _)
   refine cG hA (aj (H (n2 (by decide) (ye (n:=0)) w8 (a0b _)) (by omega) (by omega)) (aj (H (n2 (by decide) w8 (ye (n:=0)) (a0b _)) (by omega) (by omega)) (aj (H (n1 (by decide) (n1 (by decide) w8 (a0b _)) (a0b _)) (by omega) (by omega)) (aj (H (n2 (by decide) w8 w8 (a0b _)) (by omega) (by omega)) bM))))
  obtain ⟨r,t3,r0,r1,ht3,e3⟩:=aD l (by omega) .d (((ls++[T.tup [.str (q "both"),.tup [.str (q "yes")],r8],.tup [.str (q "both"),r8,.tup [.str (q "yes")]],.tup [.str (q "not"),.tup [.str (q "not"),r8]],.tup [.str (q "same"),r8,r8]]).length:Nat):Int) ht2 (by omega) (by rw [a0c]; omega) (by rw [a0c]; show (((ls.length+4:Nat)):Int) < _; omega)
  obtain ⟨z,hz,az⟩:=dt r0 r1
  exact ⟨_,z,t3,_,B z hz,tm ht3 (by omega),by
   simp_all only [Q3,Bk,a01,a0P,f_law_turnable,Kd.th,qeq,at0,eZ,nt1,tn1,a1T,ff4,e3,az,a0s,a0k,decide_false,decide_true,a0j]; rfl⟩
 | num =>
  obtain ⟨b,t3,b0,b1,ht3,e3⟩:=aD l (by omega) .d 9 ht2 (by omega) (by decide) (by decide)
  obtain ⟨m6,r6,t6,w6,ht6,e6⟩:=few (.row .num) (by decide) l (by omega) ht3 (by omega) he (by omega) .s .d
  simp only [Kd.th] at e6
  obtain ⟨l4,h4⟩:∃ l4,l4=[T.tup [.str (q "add"),r8,.tup [.str (q "num"),.int 0]],.tup [.str (q "mul"),.tup [.str (q "num"),.int 1],r8],.tup [.str (q "sub"),.tup [.str (q "num"),.int 5],.tup [.str (q "num"),.int b]],.tup [.str (q "add"),r8,r8]]:=⟨_,rfl⟩
  obtain ⟨l3,h3⟩:∃ l3,l3=[T.tup [.str (q "long"),.tup [.str (q "each"),.str x,r6,r10]],.tup [.str (q "pick"),.tup [.str (q "each"),.str x,r6,.tup [.str (q "name"),.str x]],.tup [.str (q "num"),.int b]],.tup [.str (q "div"),r8,.tup [.str (q "num"),.int 1]]]:=⟨_,rfl⟩
  have v6:WT (6+3 * f) 40 r6:=w6.mono (by omega) (a0b _)
  have v10:WT (6+3 * f) 15 r10:=w10.mono (by omega) (a0b _)
  have nu6:∀ (x:T),WT (6+3 * f) 1 (.tup [.str (q "num"),x]):=fun x=>(nu (d:=0) (n:=0) x).mono (by omega) (by omega)
  have nu7:∀ (x:T),WT (6+3 * f+1) 1 (.tup [.str (q "num"),x]):=fun x=>(nu (d:=0) (n:=0) x).mono (by omega) (by omega)
  have na6:∀ (x:T),WT (6+3 * f) 1 (.tup [.str (q "name"),x]):=fun x=>(lfW (s:="name") (by decide):WT (0+1) (0+1) _).mono (by omega) (by omega)
  have A4:∀ z∈l4,WT (6+3 * (f+1)) (nn (f+1)) z:=by
   rw [h4]
   refine aj (H (n2 (by decide) w8 (nu6 _) (a0b _)) (by omega) (by omega)) (aj (H (n2 (by decide) (nu6 _) w8 (a0b _)) (by omega) (by omega)) (aj (H (n2 (by decide) (nu6 _) (nu6 _) (a0b _)) (by omega) (by omega)) (aj (H (n2 (by decide) w8 w8 (a0b _)) (by omega) (by omega)) bM)))
  have A3:∀ z∈l3,WT (6+3 * (f+1)) (nn (f+1)) z:=by
   rw [h3]
   refine aj (H (n1 (by decide) (bd2 (by decide) v6 v10 (a0b _)) (a0b _)) (by omega) (by omega)) (aj (H (n2 (by decide) (bd2 (by decide) v6 (na6 _) (a0b _)) (nu7 _) (a0b _)) (by omega) (by omega)) (aj (H (n2 (by decide) w8 (nu6 _) (a0b _)) (by omega) (by omega)) bM))
  have c4:l4.length=4:=by rw [h4]; rfl
  have c3:l3.length=3:=by rw [h3]; rfl
  have k4:a4 (ls.length+l4.length)=true:=decide_eq_true (by show _<=16777215; omega)
  have k3:a4 ((ls++l4).length+l3.length)=true:=decide_eq_true (by rw [a0c]; show _<=16777215; omega)
  obtain ⟨r,t7,r0,r1,ht7,e7⟩:=aD l (by omega) .d (((ls++l4++l3).length:Nat):Int) ht6 (by omega) (by rw [a0c,a0c]; omega) (by rw [a0c,a0c]; omega)
  obtain ⟨z,hz,az⟩:=dt r0 r1
  exact ⟨_,z,t7,_,cG (cG hA A4) A3 z hz,tm ht7 (by omega),by
   simp_all only [Q3,Bk,a01,a0P,f_law_turnable,Kd.th,qeq,at0,eZ,nt1,tn1,a1T,<- h4,<- h3,k4,k3,e3,e6,e7,az,a0s,a0k,decide_false,decide_true,a0j]; rfl⟩
theorem uL (m:Md)(l:List T):lf m (.tup l)=m:=rfl
theorem jo:∀ f,G6 209 (7+3 * f) f (cc f) fun _=>True
 | 0=>by
  intro L hL N t env nms k room deep _ hk r0 r1 d0 d1 ht hN he hen hnm m1 m2 m3 m4 m5
  obtain ⟨l,rfl⟩:∃ l,L=l+1:=⟨L-1,by omega⟩
  have hc:cc 0=100:=rfl
  have hn:nn 0=40:=rfl
  have r3:decide (room < 3)=true:=decide_eq_true (by have:(2:Int) ^ 0=1:=rfl; omega)
  obtain ⟨w,t1,w0,w1,ht1,e1⟩:=aD l (by omega) .d 12 ht (by omega) (by decide) (by decide)
  obtain ⟨m6,r6,t6,w6,ht6,e6⟩:=bU k (by omega) l (by omega) ht1 (by omega) he (by omega) m1 m3
  rw [dC,x_run _ _ _ rfl]
  exact ⟨_,r6,t6,w6.mono (by omega) (by omega),tm ht6 (by omega),by
   simp_all only [aB,e1,e6,r3]; rfl⟩
 | f+1=>by
  have TM:=jo f
  have PL:=mR f TM
  have TU:=pB f TM
  intro L hL N t env nms k room deep _ hk r0 r1 d0 d1 ht hN he hen hnm m1 m2 m3 m4 m5
  obtain ⟨l,rfl⟩:∃ l,L=l+1:=⟨L-1,by omega⟩
  have n40:=iW f
  have hc:cc (f+1)=3 * cc f+2000:=rfl
  have hnn:nn (f+1)=3 * nn f+200:=rfl
  obtain ⟨q0,q1,q2,q3⟩:=oV r0 r1
  obtain ⟨w,t1,w0,w1,ht1,e1⟩:=aD l (by omega) .d 12 ht (by omega) (by decide) (by decide)
  rw [dC,x_run _ _ _ rfl]
  obtain ⟨mP,rP,tP,wP,htP,eP⟩:=PL l (by omega) k room deep a0z hk r0 r1 d0 d1 ht1 (by omega) he hen hnm m1 m2 m3 m4 m5
  obtain ⟨mT,rT,tT,wT,htT,eT⟩:=TU l (by omega) k room deep a0z hk r0 r1 d0 d1 ht1 (by omega) he hen hnm m1 m2 m3 m4 m5
  by_cases hlo:room < 3\/w < 2
  ·obtain ⟨m6,r6,t6,w6,ht6,e6⟩:=bU k (by omega) l (by omega) ht1 (by omega) he (by omega) m1 m3
   by_cases h3:room < 3
   ·have r3:decide (room < 3)=true:=decide_eq_true h3
    exact ⟨_,r6,t6,w6.mono (by omega) (by omega),tm ht6 (by omega),by
     simp_all only [aB,e1,e6,r3]; rfl⟩
   ·have r3:decide (room < 3)=false:=decide_eq_false h3
    have w2:decide (w < 2)=true:=decide_eq_true (by omega)
    exact ⟨_,r6,t6,w6.mono (by omega) (by omega),tm ht6 (by omega),by
     simp_all only [aB,e1,e6,r3,w2]; rfl⟩
  have r3:decide (room < 3)=false:=decide_eq_false (by omega)
  have w2:decide (w < 2)=false:=decide_eq_false (by omega)
  have hx:=fW (env:=env) (nms:=nms) (by omega)
  generalize nms.getD env.length (q "")=x at hx
  by_cases h8:5<=w
  ·have v2:(w==2)=false:=beq_eq_false_iff_ne.mpr (by omega)
   have v3:(w==3)=false:=beq_eq_false_iff_ne.mpr (by omega)
   have v4:(w==4)=false:=beq_eq_false_iff_ne.mpr (by omega)
   cases h8:decide (w < 8) with
   | true=>exact ⟨_,rT,tT,wT,tm htT (by omega),by
     simp_all only [aB,e1,eT,r3,w2,v2,v3,v4,h8]; rfl⟩
   | false=>exact ⟨_,rP,tP,wP,tm htP (by omega),by
     simp_all only [aB,e1,eP,r3,w2,v2,v3,v4,h8]; rfl⟩
  have h234:w=2\/w=3\/w=4:=by omega
  rcases h234 with h | h | h
  ·subst h
   obtain ⟨m5',r5,t5,w5,ht5,e5⟩:=TM l (by omega) .truth (room / 3) deep a0z (by decide) q2 q3 d0 d1 ht1 (by omega) he (by omega) hnm .s .s .d .d (lkM m5)
   obtain ⟨m6,r6,t6,w6,ht6,e6⟩:=TM l (by omega) k (room / 3) deep a0z hk q2 q3 d0 d1 ht5 (by omega) he (by omega) hnm .s .s .s .d (lkM m5)
   obtain ⟨m7,r7,t7,w7,ht7,e7⟩:=TM l (by omega) k (room / 3) deep a0z hk q2 q3 d0 d1 ht6 (by omega) he (by omega) hnm .s .s .s .d m5
   have ke:Kd.truth.th=.tup [.str (q "truth")]:=rfl
   rw [ke] at e5
   exact ⟨_,.tup [.str (q "if"),r5,r6,r7],t7,(n3 (by decide) w5 w6 w7 (a0b _):WT _ _ _).mono (by omega) (by omega),tm ht7 (by omega),by
    simp_all only [aB,e1,e5,e6,e7,r3,w2,a0s,a0k,decide_false,decide_true,a0j]; rfl⟩
  ·subst h
   by_cases hd:0 < deep
   ·have hd':decide (0 < deep)=true:=decide_eq_true hd
    obtain ⟨m9,κ,t2,hκ,ht2,e2⟩:=kind l (by omega) ht1 (by omega)
    obtain ⟨m6,r6,t6,w6,ht6,e6⟩:=TM l (by omega) κ (room / 2) deep a0z hκ q0 q1 d0 d1 ht2 (by omega) he (by omega) hnm .s .s .s .d (lkM m5)
    obtain ⟨m7,r7,t7,w7,ht7,e7⟩:=TM l (by omega) (env:=env++[(.str x,κ.th)]) k (room / 2) (deep-1) a0z hk q0 q1 (by omega) (by omega) ht6 (by omega) (fR he _ _ (a0m (bT κ) (by omega))) (by rw [a0c,a0u]; omega) hnm (.o .s) .s m3 .d .d
    have ef:=bW (env:=env) (by omega) (.tup [.str x,κ.th])
    have ea:=cD env (.str x) κ.th
    exact ⟨_,.tup [.str (q "let"),.str x,r6,r7],t7,(bd2 (by decide) w6 w7 (a0b _):WT _ _ _).mono (by omega) (by omega),tm ht7 (by omega),by
     simp_all only [aB,e1,e2,e6,e7,hx,ef,ea,hd',ck,bz,r3,w2,a0s,a0k,decide_false,decide_true,a0j]; rfl⟩
   ·have hd':decide (0 < deep)=false:=decide_eq_false hd
    exact ⟨_,rT,tT,wT,tm htT (by omega),by
     simp_all only [aB,e1,eT,hd',r3,w2,a0s,a0k,decide_false,decide_true,a0j]; rfl⟩
  ·subst h
   by_cases hd:0 < deep
   ·have hd':decide (0 < deep)=true:=decide_eq_true hd
    obtain ⟨m5',r5,t5,w5,ht5,e5⟩:=times l (by omega) ht1 (by omega) he (by omega) .s
    obtain ⟨m6,r6,t6,w6,ht6,e6⟩:=TM l (by omega) k (room / 3) deep a0z hk q2 q3 d0 d1 ht5 (by omega) he (by omega) hnm .s .s .s .d (lkM m5)
    obtain ⟨m7,r7,t7,w7,ht7,e7⟩:=TM l (by omega) (env:=env++[(.str x,k.th)]) k (room / 2) (deep-1) a0z hk q0 q1 (by omega) (by omega) ht6 (by omega) (fR he _ _ (a0m (bT k) (by omega))) (by rw [a0c,a0u]; omega) hnm (.o .s) .s .s .d .d
    have ef:=bW (env:=env) (by omega) (.tup [.str x,k.th])
    have ea:=cD env (.str x) k.th
    have v5:WT (6+3 * f) 4 r5:=w5.mono (by omega) (a0b _)
    cases k with
    | row b =>
     simp only [Kd.th] at eT
     exact ⟨_,rT,tT,wT,tm htT (by omega),by
      simp_all only [aB,Kd.th,qeq,at0,e1,eT,hd',r3,w2,a0s,a0k,decide_false,decide_true,a0j]; rfl⟩
    | _ =>
     simp only [Kd.th] at e6 e7 ef ea
     exact ⟨_,.tup [.str (q "times"),.str x,r5,r6,r7],t7,(bd3 (by decide) v5 w6 w7 (a0b _):WT _ _ _).mono (by omega) (by omega),tm ht7 (by omega),by
      simp_all only [aB,Kd.th,qeq,at0,e1,e5,e6,e7,hx,ef,ea,hd',ck,bz,uL,r3,w2,a0s,a0k,decide_false,decide_true,a0j]; rfl⟩
   ·have hd':decide (0 < deep)=false:=decide_eq_false hd
    exact ⟨_,rT,tT,wT,tm htT (by omega),by
     simp_all only [aB,e1,eT,hd',r3,w2,a0s,a0k,decide_false,decide_true,a0j]; rfl⟩
noncomputable abbrev wds:List T:=[.str (q ""),.str (q "add"),.str (q "row"),.str (q "num"),.str (q "if"),.str (q "let"),.str (q "no"),.str (q "e"),.str (q "su"),.str (q "mos")]
theorem t8:∀ y∈wds,∃ w:Str,y=.str w/\w.cps.size<=100:=by
 refine aj ⟨_,rfl,by decide +kernel⟩ (aj ⟨_,rfl,by decide +kernel⟩ (aj ⟨_,rfl,by decide +kernel⟩ (aj ⟨_,rfl,by decide +kernel⟩ (aj ⟨_,rfl,by decide +kernel⟩ (aj ⟨_,rfl,by decide +kernel⟩ (aj ⟨_,rfl,by decide +kernel⟩ (aj ⟨_,rfl,by decide +kernel⟩ (aj ⟨_,rfl,by decide +kernel⟩ (aj ⟨_,rfl,by decide +kernel⟩ bM)))))))))
noncomputable abbrev NB:List S:=[
   .asg (.q [1] [2,5]) 6 (.op .ix false [.var 1,.op .mod false [.op .add false [.var 2,.op .mul false [.cst (.int 3),.var 5]],.cst (.int 10)]]),
   .asg (.q [] [5]) 7 (.op .mulS false [.op .ix false [.cst (.str (q "qvwxyz")),.op .mod false [.var 5,.cst (.int 6)]],.op .add false [.cst (.int 1),.op .fdiv false [.var 5,.cst (.int 6)]]]),
   .app (.q [6,7] [3]) 4 (.op .ix false [.lst false [.op .add false [.var 6,.var 7],.op .add false [.var 7,.var 6]],.op .int false [.var 3]])]
theorem nr (h:Bool)(m n:Md)(x:Str)(i:Int):oSem .ix h [(m,.str x),(n,.int i)]=(atI x.cps.toList i).map fun c=>(.d,.str ⟨#[c]⟩):=rfl
theorem qT {l:Nat}{t:T}{st:Int}{ah:Bool}(k:Nat)(hk:k < 20)(h0:0<=st)(nms:List Str)(hl:nms.length<=20)(o6 o7:Option W):∃ s o6' o7',evSs (C l) NB [some (.d,t),some (.o .s,.lst wds),some (.d,.int st),some (.d,.bl ah),some (.o .s,.lst (nms.map T.str)),some (.d,.int (k:Int)),o6,o7]=.nx [some (.d,t),some (.o .s,.lst wds),some (.d,.int st),some (.d,.bl ah),some (.o .s,.lst ((nms++[s]).map T.str)),some (.d,.int (k:Int)),o6',o7']:=by
 obtain ⟨y,hy,ay⟩:=dt (l:=wds) (r:=(st+3 * (k:Int)) % 10) (a16 _ (by decide)) (by show _ < (10:Int); exact a1F _ (by decide))
 obtain ⟨w,rfl,hw⟩:=t8 y hy
 obtain ⟨c,hc⟩:∃ c,atI (q "qvwxyz").cps.toList ((k:Int) % 6)=some c:=by
  have e:(q "qvwxyz").cps.toList.length=6:=by decide +kernel
  have hj:k % 6 < (q "qvwxyz").cps.toList.length:=by omega
  exact ⟨_,atN (n:=k % 6) (by omega) (a0q hj)⟩
 have m3:decide ((3:Int).natAbs < 18446744073709551616)=true:=rfl
 have g1:decide (0<=(1:Int)+(k:Int) / 6)=true:=decide_eq_true (by omega)
 have g2:decide ((1:Int)+(k:Int) / 6<=100)=true:=decide_eq_true (by omega)
 have g3:decide ((⟨#[c]⟩:Str).cps.size<=1000)=true:=rfl
 obtain ⟨z,hz⟩:∃ z:Str,z=⟨(a0e ((1:Int)+(k:Int) / 6).toNat (⟨#[c]⟩:Str).cps.toList).flatten.toArray⟩:=⟨_,rfl⟩
 have hzs:z.cps.size<=100:=by
  rw [hz]
  show (a0e ((1:Int)+(k:Int) / 6).toNat [c]).flatten.toArray.size<=100
  rw [a0f,List.flatten_replicate_singleton,a0F]
  omega
 have f1:a4 (w.cps.size+z.cps.size)=true:=decide_eq_true (by show _<=16777215; omega)
 have f2:a4 (z.cps.size+w.cps.size)=true:=decide_eq_true (by show _<=16777215; omega)
 have f3:(nms.map T.str).length < LIM:=by rw [a0d]; show _ < 16777215; omega
 have ap:∀ s,nms.map T.str++[.str s]=(nms++[s]).map T.str:=fun s=>by rw [a09]; rfl
 have aa:∀ a b:T,atI [a,b] (b2i true)=some b:=fun _ _=>rfl
 have ab:∀ a b:T,atI [a,b] (b2i false)=some a:=fun _ _=>rfl
 cases ah with
 | true=>exact ⟨z++w,_,_,by
   simp_all only [nr,ay,hc,m3,g1,g2,g3,<- hz,f1,f2,if_pos f3,ap,aa,bz,a1t,a0s,a0k,decide_false,decide_true,a0j]; rfl⟩
 | false=>exact ⟨w++z,_,_,by
   simp_all only [nr,ay,hc,m3,g1,g2,g3,<- hz,f1,f2,if_pos f3,ap,ab,bz,a1t,a0s,a0k,decide_false,decide_true,a0j]; rfl⟩
theorem ly {N:Nat}{t:T}(L:Nat)(hL:2<=L)(ht:Tp N t)(hN:N+3 < 1000000000000000000):∃ md,∃ nms:List Str,∃ t',nms.length=20/\Tp (N+3) t'/\C L 202 [(.d,t)]=.ok ((md,.lst (nms.map T.str)),[(.d,t')]):=by
 obtain ⟨l,rfl⟩:∃ l,L=l+1:=⟨L-1,by omega⟩
 obtain ⟨a,t1,a0,a1,ht1,e1⟩:=aD l (by omega) .d 4 ht (by omega) (by decide) (by decide)
 obtain ⟨b,t2,b0,b1,ht2,e2⟩:=aD l (by omega) .d 10 ht1 (by omega) (by decide) (by decide)
 obtain ⟨c,t3,c0,c1,ht3,e3⟩:=aD l (by omega) .d 2 ht2 (by omega) (by decide) (by decide)
 rw [gq,x_run _ _ _ rfl]
 cases h0:(a==0) with
 | true =>
  obtain ⟨nms,hn⟩:∃ nms:List Str,nms=(q "abcdefghijklmnopqrst").cps.toList.map fun c=>(⟨#[c]⟩:Str):=⟨_,rfl⟩
  have e:(q "abcdefghijklmnopqrst").cps.toList.map (fun c=>T.str ⟨#[c]⟩)=nms.map T.str:=by rw [hn,a04]; rfl
  have hl:nms.length=20:=by rw [hn,a0d]; decide +kernel
  exact ⟨_,nms,t1,hl,tm ht1 (by omega),by
   simp_all only [a8,e1,h0,e]; rfl⟩
 | false =>
  obtain ⟨η',lp,nms,o5,o6,o7,hl,rfl⟩:=cp (tg:=[5]) (f:=evSs (C l) NB) (g:=fun (k:Nat)=>[((.d,.int k):W)])
   (fun pre η=>∃ (nms:List Str) (o5 o6 o7:Option W),nms.length=pre.length/\η=[some (.d,t3),some (.o .s,.lst wds),some (.d,.int b),some (.d,.bl (c==0)),some (.o .s,.lst (nms.map T.str)),o5,o6,o7])
   (a0T 20) [] [some (.d,t3),some (.o .s,.lst wds),some (.d,.int b),some (.d,.bl (c==0)),some (.o .s,.lst []),none,none,none] ⟨[],none,none,none,rfl,rfl⟩ (fun p k r η hp ⟨nms,o5,o6,o7,hl,he⟩=>by
    subst he
    have hpl:=congrArg a1O hp
    simp only [a0K,a02,a0c,a0t] at hpl
    have hk:k < 20:=a05.mp (by rw [a0K] at hp; rw [hp]; exact a0g _ a0o)
    obtain ⟨s,o6',o7',e⟩:=qT (l:=l) (t:=t3) (st:=b) (ah:=c==0) k hk b0 nms (by omega) o6 o7
    exact ⟨_,_,rfl,e,nms++[s],_,o6',o7',by rw [a0c,a0c,hl]; rfl,rfl⟩)
  have rg:=i2 (mm:=20) (by decide) (by decide)
  have tn:(20:Int).toNat=20:=rfl
  have f20:a4 20=true:=rfl
  exact ⟨_,nms,t3,by rw [hl]; rfl,tm ht3 (by omega),by
   simp_all only [a8,e1,e2,e3,h0,rg.1,tn,f20,lp]; rfl⟩
noncomputable def Dw:Nat->Nat
 | 0=>6
 | d+1=>3 * Dw d+10
theorem gp {a b:Nat}(h:a<=b):Dw a<=Dw b:=by
 induction h with
 | refl=>exact a0b _
 | step _ ih=>exact a0m ih (by show _<=3 * Dw _+10; omega)
theorem xP:oSem .pow false [(.d,.int 10),(.d,.int 9)]=some (.d,.int 1000000000):=rfl
noncomputable abbrev WB:List S:=[.app (.l [1]) 3 (.call 204 [.io 0,.op .ix false [.var 1,.cst (.int 1)]])]
theorem jn:∀ (k:Kd) (L:Nat),k.deep+2<=L->∀ (m:Md) {N:Nat} {t:T},Tp N t->N+Dw k.deep < 1000000000000000000->∃ md r t',Tp (N+Dw k.deep) t'/\C L 204 [(.d,t),(m,k.th)]=.ok ((md,r),[(.d,t')])
 | .truth,L,hL,m,N,t,ht,hN=>by
  obtain ⟨l,rfl⟩:∃ l,L=l+1:=⟨L-1,by omega⟩
  have hD:Dw Kd.truth.deep=6:=rfl
  obtain ⟨a,t1,a0,a1,ht1,e1⟩:=aD l (by omega) .d 2 ht (by omega) (by decide) (by decide)
  rw [bF,x_run _ _ _ rfl]
  exact ⟨_,_,t1,tm ht1 (by omega),by
   simp_all only [aP,Kd.th,qeq,at0,e1]; rfl⟩
 | .num,L,hL,m,N,t,ht,hN=>by
  obtain ⟨l,rfl⟩:∃ l,L=l+1:=⟨L-1,by omega⟩
  have hD:Dw Kd.num.deep=6:=rfl
  obtain ⟨a,t1,a0,a1,ht1,e1⟩:=aD l (by omega) .d 5 ht (by omega) (by decide) (by decide)
  obtain ⟨b,t2,b0,b1,ht2,e2⟩:=aD l (by omega) .d 5 ht1 (by omega) (by decide) (by decide)
  obtain ⟨c,t3,c0,c1,ht3,e3⟩:=aD l (by omega) .d 4 ht2 (by omega) (by decide) (by decide)
  obtain ⟨d,t4,d0,d1,ht4,e4⟩:=aD l (by omega) .d 3 ht3 (by omega) (by decide) (by decide)
  obtain ⟨e,t5,e0,e1',ht5,e5⟩:=aD l (by omega) .d 1000000000 ht4 (by omega) (by decide) (by decide)
  obtain ⟨g,t6,g0,g1,ht6,e6⟩:=aD l (by omega) .d 8 ht5 (by omega) (by decide) (by decide)
  have m6:decide ((6:Int).natAbs < 18446744073709551616)=true:=rfl
  obtain ⟨y,hy,ay⟩:=dt (l:=[T.int a,.int b,.int (0-1-c),.int (1000000000000000000-d),.int (e+201),.int (0-1000000000000000000)]) (r:=g * 6 / 8) (by omega) (by show _ < (6:Int); omega)
  have ay':=ay
  simp only [Int.reduceSub] at ay'
  rw [bF,x_run _ _ _ rfl]
  exact ⟨_,y,t6,tm ht6 (by omega),by
   simp_all only [aP,Kd.th,qeq,at0,e1,e2,e3,e4,e5,e6,ez,xP,m6,ay,a2s,a0s,a0k,decide_false,decide_true,a0j]; rfl⟩
 | .pair x y,L,hL,m,N,t,ht,hN=>by
  obtain ⟨l,rfl⟩:∃ l,L=l+1:=⟨L-1,by omega⟩
  have hd:(Kd.pair x y).deep=max x.deep y.deep+1:=rfl
  have hD:Dw (Kd.pair x y).deep=3 * Dw (max x.deep y.deep)+10:=rfl
  have da:=gp (a:=x.deep) (b:=max x.deep y.deep) (by omega)
  have db:=gp (a:=y.deep) (b:=max x.deep y.deep) (by omega)
  obtain ⟨m1,r1,t1,ht1,e1⟩:=jn x l (by omega) .s ht (by omega)
  obtain ⟨m2,r2,t2,ht2,e2⟩:=jn y l (by omega) .s ht1 (by omega)
  rw [bF,x_run _ _ _ rfl]
  exact ⟨_,.tup [r1,r2],t2,tm ht2 (by omega),by
   simp_all only [aP,Kd.th,qeq,at0,e1,e2]; rfl⟩
 | .row x,L,hL,m,N,t,ht,hN=>by
  obtain ⟨l,rfl⟩:∃ l,L=l+1:=⟨L-1,by omega⟩
  have hd:(Kd.row x).deep=x.deep+1:=rfl
  have hD:Dw (Kd.row x).deep=3 * Dw x.deep+10:=rfl
  obtain ⟨a,t1,a0,a1,ht1,e1⟩:=aD l (by omega) .d 4 ht (by omega) (by decide) (by decide)
  have aa:atI [T.int 0,.int 1,.int 2,.int 3] a=some (.int a):=by
   have:a=0\/a=1\/a=2\/a=3:=by omega
   rcases this with h | h | h | h<;>rw [h]<;>rfl
  have a1:=at1 (T.str (q "row")) x.th []
  obtain ⟨η',lp,t',m1,rs,o2,o4,ht',hl,rfl⟩:=cp (tg:=[4]) (f:=evSs (C l) WB) (g:=fun (k:Nat)=>[((.d,.int k):W)])
   (fun pre η=>∃ t' m1 rs o2 o4,Tp (N+1+pre.length * Dw x.deep) t'/\rs.length=pre.length/\η=[some (.d,t'),some (m1,.tup [.str (q "row"),x.th]),o2,some (.o .s,.lst rs),o4,none])
   (a0T a.toNat) [] [some (.d,t1),some (m,.tup [.str (q "row"),x.th]),none,some (.o .s,.lst []),none,none] ⟨t1,m,[],none,none,tm ht1 (by omega),rfl,rfl⟩ (fun p k r η hp ⟨t',m1,rs,o2,o4,ht',hl,he⟩=>by
    subst he
    have hpl:=congrArg a1O hp
    simp only [a0K,a02,a0c,a0t] at hpl
    have hm:p.length * Dw x.deep<=2 * Dw x.deep:=a2b _ (by omega)
    obtain ⟨m2,r2,t2,ht2,e2⟩:=jn x l (by omega) .s ht' (by omega)
    have f3:rs.length < LIM:=by show _ < 16777215; omega
    refine ⟨_,_,rfl,?_,t2,.s,rs++[r2],o2,some (.d,.int (k:Int)),tm ht2 (by rw [a0c,a0u,a2p]; omega),by rw [a0c,a0c,hl]; rfl,rfl⟩
    simp_all only [a1,e2,if_pos f3])
  rw [a0K,a02] at ht'
  have hm:a.toNat * Dw x.deep<=3 * Dw x.deep:=a2b _ (by omega)
  have rg:=i2 (mm:=a) (by omega) (by omega)
  rw [bF,x_run _ _ _ rfl]
  exact ⟨_,.lst rs,t',tm ht' (by omega),by
   simp_all only [aP,Kd.th,qeq,at0,e1,aa,rg.1,rg.2,lp]; rfl⟩
noncomputable def hE (p:Str×Kd):T×T:=(.str p.1,p.2.th)
noncomputable abbrev HB:List S:=[.app (.l [2]) 3 (.tup [.op .ix false [.var 2,.var 4],.call 203 [.io 0]])]
theorem yJ {N l:Nat}{t:T}{nms:List Str}(hl:2<=l)(hnm:nms.length=20)(a:Nat)(ha:a<=3)(ht:Tp N t)(hN:N+3 < 1000000000000000000)(m2:Md)(o1:Option W) :
  ∃ (hs:List (Str×Kd)) (m2':Md) (t':T) (o4:Option W),hs.length=a/\(∀ p∈hs,p.2.deep<=2)/\Tp (N+a) t' /\
   dH [4] (evSs (C l) HB) ((a0T a).map fun (k:Nat)=>[((.d,.int k):W)]) [some (.d,t),o1,some (m2,.lst (nms.map T.str)),some (.o .s,.lst []),none,none,none,none,none,none]=.nx [some (.d,t'),o1,some (m2',.lst (nms.map T.str)),some (.o .s,.lst ((hs.map hE).map eT)),o4,none,none,none,none,none]:=by
 obtain ⟨η',lp,hs,m2',t',o4,h1,h2,h3,rfl⟩:=cp (tg:=[4]) (f:=evSs (C l) HB) (g:=fun (k:Nat)=>[((.d,.int k):W)])
  (fun pre η=>∃ (hs:List (Str×Kd)) (m2':Md) (t':T) (o4:Option W),hs.length=pre.length/\(∀ p∈hs,p.2.deep<=2)/\Tp (N+pre.length) t'/\η=[some (.d,t'),o1,some (m2',.lst (nms.map T.str)),some (.o .s,.lst ((hs.map hE).map eT)),o4,none,none,none,none,none])
  (a0T a) [] [some (.d,t),o1,some (m2,.lst (nms.map T.str)),some (.o .s,.lst []),none,none,none,none,none,none] ⟨[],m2,t,none,rfl,(fun _ h=>nomatch h),ht,rfl⟩ (fun p k r η hp ⟨hs,m2',t',o4,h1,h2,h3,he⟩=>by
   subst he
   have hpl:=congrArg a1O hp
   simp only [a0K,a02,a0c,a0t] at hpl
   have hk:k < a:=a05.mp (by rw [a0K] at hp; rw [hp]; exact a0g _ a0o)
   obtain ⟨m9,κ,t2,hκ,ht2,e2⟩:=kind l hl h3 (by omega)
   have hk20:k < nms.length:=by omega
   have ax:atI (nms.map T.str) (k:Int)=some (.str nms[k]):=atN rfl (by rw [a0x,a0q hk20]; rfl)
   have f3:((hs.map hE).map eT).length < LIM:=by rw [a0d,a0d]; show _ < 16777215; omega
   have ap:(hs.map hE).map eT++[.tup [.str nms[k],κ.th]]=((hs++[(nms[k],κ)]).map hE).map eT:=by rw [a09,a09]; rfl
   refine ⟨_,_,rfl,?_,hs++[(nms[k],κ)],.s,t2,some (.d,.int (k:Int)),by rw [a0c,a0c,h1]; rfl,?_,tm ht2 (by rw [a0c]; exact a0b _),rfl⟩
   ·simp_all only [ax,e2,bz,ck,if_pos f3,ap]
   ·intro z hz
    rcases a0O.mp hz with hz | hz
    ·exact h2 z hz
    ·rw [a0M.mp hz]; exact hκ)
 rw [a0K,a02] at h1 h3
 exact ⟨hs,m2',t',o4,h1,h2,h3,lp⟩
theorem vQ {N l:Nat}{t:T}(hl:4<=l)(hs:List (Str×Kd))(hh:∀ p∈hs,p.2.deep<=2)(hln:hs.length<=3)(ht:Tp N t)(hN:N+1000 < 1000000000000000000)(o1 o2 o4 o5 o6:Option W) :
  ∃ ws t',Tp (N+1000) t'/\∀ w3,aQ [8,9] (cy (evE (C l) (.call 204 [.io 0,.var 9]))) ((hs.map hE).map fun e=>[((.s,e.1):W),(.s,e.2)]) [some (.d,t),o1,o2,w3,o4,o5,o6,none,none,none] []=.ok (ws,[some (.d,t'),o1,o2,w3,o4,o5,o6,none,none,none]):=by
 have key:∀ (hs:List (Str×Kd)) (N:Nat) (t:T) (acc:List W),(∀ p∈hs,p.2.deep<=2)->Tp N t->N+hs.length * 124 < 1000000000000000000->∃ ws t',Tp (N+hs.length * 124) t'/\∀ w3,aQ [8,9] (cy (evE (C l) (.call 204 [.io 0,.var 9]))) ((hs.map hE).map fun e=>[((.s,e.1):W),(.s,e.2)]) [some (.d,t),o1,o2,w3,o4,o5,o6,none,none,none] acc=.ok (ws,[some (.d,t'),o1,o2,w3,o4,o5,o6,none,none,none]):=by
  intro hs
  induction hs with
  | nil=>intro N t acc _ ht _; exact ⟨acc,t,ht,fun _=>rfl⟩
  | cons p hs ih =>
   intro N t acc hh ht hN
   rw [a0t,a2p] at hN ⊢
   have h2:=hh p a0o
   have hD:Dw p.2.deep<=124:=a0m (gp h2) (by decide)
   obtain ⟨md,r,t1,ht1,e1⟩:=jn p.2 l (by omega) (.s) ht (by omega)
   obtain ⟨ws,t2,ht2,e2⟩:=ih (N+124) t1 (acc++[(md,r)]) (fun z hz=>hh z (a0p _ hz)) (tm ht1 (by omega)) (by omega)
   refine ⟨ws,t2,tm ht2 (by omega),fun w3=>?_⟩
   have st:cy (evE (C l) (.call 204 [.io 0,.var 9])) [some (.d,t),o1,o2,w3,o4,o5,o6,none,some (.s,.str p.1),some (.s,p.2.th)]=.ok (some (md,r),[some (.d,t1),o1,o2,w3,o4,o5,o6,none,some (.s,.str p.1),some (.s,p.2.th)]):=by
    simp_all only [e1]
   rw [a0C,a0C]
   show (cy (evE (C l) (.call 204 [.io 0,.var 9])) [some (.d,t),o1,o2,w3,o4,o5,o6,none,some (.s,.str p.1),some (.s,p.2.th)]).bind _=_
   rw [st]
   exact e2 w3
 obtain ⟨ws,t',ht',e⟩:=key hs N t [] hh ht (by omega)
 exact ⟨ws,t',tm ht' (by omega),e⟩
theorem oq {N:Nat}{t:T}(ht:Tp N t)(hN:N+1000000 < 1000000000000000000)(m:Md):∃ md hd tr ws t',WT 15 10000 tr/\Tp (N+1000000) t'/\C 39 214 [(.d,t),(m,.int 16)]=.ok ((md,.tup [.tup [hd,tr],ws]),[(.d,t')]):=by
 obtain ⟨mn,nms,t1,hnm,ht1,e1⟩:=ly 38 (by decide) ht (by omega)
 obtain ⟨a,t2,a0,a1,ht2,e2⟩:=aD 38 (by decide) .d 4 ht1 (by omega) (by decide) (by decide)
 obtain ⟨hs,m2',t3,o4,h1,h2,ht3,lp⟩:=yJ (l:=38) (by decide) hnm a.toNat (by omega) ht2 (by omega) mn (some (m,.int 16))
 obtain ⟨m5,g,t4,hg,ht4,e4⟩:=kind 38 (by decide) ht3 (by omega)
 obtain ⟨b,t5,b0,b1,ht5,e5⟩:=aD 38 (by decide) (lkM m) 16 ht4 (by omega) (by decide) (by decide)
 have c3:cc 3=28700:=rfl
 have n3':nn 3=3680:=rfl
 have he:cP (hs.map hE):=fun e he=>by
  obtain ⟨p,hp,rfl⟩:=a1j.mp he
  exact a0m (bT p.2) (by have:=h2 p hp; omega)
 obtain ⟨m6,tr,t6,w6,ht6,e6⟩:=jo 3 38 (by decide) (env:=hs.map hE) (nms:=nms) g (3+b) 2 a0z hg (by omega) (by show 3+b < 3 * 8; omega) (by decide) (by decide) ht5 (by omega) he (by rw [a0d]; omega) hnm .s .s .s .d .d
 have rg:=i2 (mm:=a) (by omega) (by omega)
 obtain ⟨ws,t7,ht7,e7⟩:=vQ (l:=38) (by decide) hs h2 (by omega) ht6 (by omega) (some (m,.int 16)) (some (.s,.lst (nms.map T.str))) o4 (some (.s,g.th)) (some (m6,tr))
 rw [d8,x_run _ _ _ rfl]
 exact ⟨_,_,tr,_,t7,w6.mono (by omega) (by omega),tm ht7 (by omega),by
  simp_all only [a6,e1,e2,rg.1,rg.2,lp,e4,e5,e6,dN,e7]; rfl⟩
theorem qO (ns:List Int)(m:Md):C 39 179 [(m,.scr ns)]=.ok ((.d,kA (cut ns none (some 63)) 0 0),[]):=by
 rw [hV,x_run _ _ _ rfl]
 have lv:∀ l:List Int,leaves (l.map T.int)=true:=fun ns=>a0Y.mpr fun t ht=>by obtain ⟨i,_,rfl⟩:=a1j.mp ht; rfl
 simp_all only [bG,lv]
 rfl
noncomputable abbrev LB:List S:=[
   .asg (.q [2,3] []) 4 (.call 196 [.var 2,.var 3]),
   .asg (.q [4] []) 5 (.call 178 [.var 4]),
   .ite (.q [4,5] []) (.or (.not (.op (.isI ["bool"]) false [.var 5])) (.op .ne false [.var 5,.call 198 [.var 4]])) [
    .ret [] (.cst (.bl false))] []]
theorem mK {t:T}{o0 o1:Option W}{m2:Md}{p:List Nat}{u:T}{d k:Nat}(w:∃ d k,WT d k t)(ha:AtP p t u)(hd:d<=15)(wu:WT d k u)(o4 o5:Option W):∃ m2' m3' o4' o5',evSs (C 39) LB [o0,o1,some (m2,t),some (.s,plT p),o4,o5]=.nx [o0,o1,some (m2',t),some (m3',plT p),o4',o5']:=by
 obtain ⟨md,hm,e1⟩:=zl 37 p t u .s .s w ha
 rw [hm rfl] at e1
 obtain ⟨b,hb⟩:=s9 d k u wu
 have e2:=(hb (36-d)).1
 have e3:=(hb (36-d)).2
 rw [show 36-d+d+3=39 by omega] at e2 e3
 have lu:=dy wu
 have ne:∀ m n,oSem .ne false [(m,.bl b),(n,.bl b)]=some (.d,.bl false):=fun m n=>by
  rw [AN _ _ _ _ _ (by show 0<=64; decide) (by show 0<=64; decide)]
  cases b<;>rfl
 have ib:∀ m,oSem (.isI ["bool"]) false [(m,.bl b)]=some (.d,.bl true):=fun m=>by cases b<;>rfl
 exact ⟨_,_,_,_,by
  simp_all only [e1,lu,e2,e3,ne,ib]; rfl⟩
theorem pure_law (ns:List Int):∃ m bs,C 40 0 [(.d,.scr ns)]=.ok ((m,.bl true),bs):=by
 have ht:Tp 0 (kA (cut ns none (some 63)) 0 0):=⟨_,0,0,rfl,a0b _⟩
 obtain ⟨md,hd,tr,ws,t',wt,_,e1⟩:=oq ht (by omega) .d
 obtain ⟨pls,_,hp,e2⟩:=fj 15 tr (by decide) ⟨10000,by decide,wt⟩
 have e2:=e2 23
 rw [show 23+15+1=39 from rfl] at e2
 have e0:=qO ns
 have lt:=dy wt
 obtain ⟨η',lp,_⟩:=cp (tg:=[3]) (f:=evSs (C 39) LB) (g:=fun (p:List Nat)=>[((.s,plT p):W)])
  (fun _ η=>∃ m2 o3 o4 o5,η=[some (.d,.scr ns),some (.d,t'),some (m2,tr),o3,o4,o5]) pls [] [some (.d,.scr ns),some (.d,t'),some (.s,tr),none,none,none] ⟨.s,none,none,none,rfl⟩ (fun p x r η hpp ⟨m2,o3,o4,o5,he⟩=>by
   subst he
   have hx:x∈pls:=by rw [a0K] at hpp; rw [hpp]; exact a0g _ a0o
   obtain ⟨_,u,d',k',h1,h2,h3⟩:=hp x hx
   obtain ⟨m2',m3',o4',o5',e⟩:=mK (o0:=some (.d,.scr ns)) (o1:=some (.d,t')) (m2:=m2) ⟨15,10000,wt⟩ h3 h1 h2 o4 o5
   exact ⟨_,_,rfl,e,m2',_,o4',o5',rfl⟩)
 have e:(pls.map plT).map (fun t=>[((.s,t):W)])=pls.map fun p=>[((.s,plT p):W)]:=by rw [a04]; rfl
 rw [<- e] at lp
 rw [show C 40 0 [(.d,.scr ns)]=runF (C 39) jD [(.d,.scr ns)] from rfl,x_run _ _ _ rfl]
 have a1:=at1 hd tr []
 exact ⟨_,_,by
  simp_all only [jD,e0,e1,lt,at0,a1,e2,lp]
  rfl⟩
end
end P60

namespace A60
open PySem PySem.Spec PyProof.Rows L2 L3 MR
noncomputable def top (i:Nat):Stmt:=PySem.Challenge.pw_broadrow_k60_sure_trees.main.body.getD i (.Pass ⟨0,0,0,0⟩)
noncomputable abbrev nU:Stmt:=top 2
noncomputable abbrev lI:Stmt:=top 3
noncomputable abbrev mw:Stmt:=top 6
noncomputable abbrev mf:Stmt:=top 8
noncomputable abbrev lb:Stmt:=top 10
noncomputable abbrev mQ:Stmt:=top 11
noncomputable abbrev lP:Stmt:=top 12
noncomputable abbrev kC:Stmt:=top 13
noncomputable abbrev mD:Stmt:=top 14
noncomputable abbrev kD:Stmt:=top 15
noncomputable abbrev kR:Stmt:=top 16
noncomputable abbrev kB:Stmt:=top 17
noncomputable abbrev lH:Stmt:=top 18
noncomputable abbrev kP:Stmt:=top 19
noncomputable abbrev k9:Stmt:=top 20
noncomputable abbrev lx:Stmt:=top 21
noncomputable abbrev nJ:Stmt:=top 22
noncomputable abbrev nq:Stmt:=top 23
noncomputable abbrev mN:Stmt:=top 24
noncomputable abbrev nY:Stmt:=top 25
noncomputable abbrev lF:Stmt:=top 26
noncomputable abbrev nG:Stmt:=top 27
noncomputable abbrev kO:Stmt:=top 29
noncomputable abbrev s0:Stmt:=top 30
structure Glb (K:a0a)(w:World)(mg:Str->Option Value):Prop where
 STOPPING:vq K mg "STOPPING" (.tup [.str (q "sum"),.str (q "sums"),.str (q "most"),.str (q "upto"),.str (q "flat"),.str (q "add"),.str (q "sub"),.str (q "mul"),.str (q "div"),.str (q "rest"),.str (q "pick"),.str (q "join"),.str (q "keep"),.str (q "cut"),.str (q "times")])
 k_AHEAD:uY K w mg "AHEAD" keys_AHEAD
structure Calls (P:Program)(w:World)(K:a0a)(mg:Str->Option Value)(base:Heap)(n:Nat)(C:M.Call):Prop where
 c175:ai P w K mg base n C "parts_start" 175 []
 c176:ai P w K mg base n C "parts" 176 []
 c177:ai P w K mg base n C "may_stop" 177 []
 c178:ai P w K mg base n C "is_sure" 178 []
 c179:ai P w K mg base n C "_law_tape" 179 []
 c201:ai P w K mg base n C "_law_draw" 201 [0]
 c202:ai P w K mg base n C "_law_names" 202 [0]
 c203:ai P w K mg base n C "_law_kind" 203 [0]
 c204:ai P w K mg base n C "_law_worth" 204 [0]
 c205:ai P w K mg base n C "_law_named" 205 [0]
 c206:ai P w K mg base n C "_law_leaf" 206 [0]
 c207:ai P w K mg base n C "_law_few" 207 [0]
 c208:ai P w K mg base n C "_law_times" 208 [0]
 c209:ai P w K mg base n C "_law_term" 209 [0]
 c210:ai P w K mg base n C "_law_plain" 210 [0]
 c211:ai P w K mg base n C "_law_rows" 211 [0]
 c212:ai P w K mg base n C "_law_turnable" 212 [0]
 c213:ai P w K mg base n C "_law_turnable_row" 213 [0]
 c214:ai P w K mg base n C "_law_program" 214 [0]
 c194:ai P w K mg base n C "_law_parts" 194 []
 c195:ai P w K mg base n C "_law_places" 195 []
 c196:ai P w K mg base n C "_law_piece" 196 []
 c198:ai P w K mg base n C "_law_is_sure" 198 []
noncomputable abbrev DD (x:Str)(st:Stmt)(N:List Str)(fn:M.Fn):Prop:=∀ {P:Program} {w:World} {K:a0a} {mg:Str->Option Value} {base:Heap} {n:Nat} {C:M.Call} {f:Addr} {cdv:Value} {A:Around} {outer:List Env} {s:Shared} {H:Hp} {E:XK},Calls P w K mg base n C->Txt mg->Glb K w mg->Room n (A.deeper (envOfC x (defScope st) s.heap.objs.size f cdv))->SSs (fM CX0 P w K mg base N x (defScope st) f cdv A outer s H E).nox (slN N.length) fn.io C (defBody st) fn.body
theorem xp:au ["sign"] ["sign"] (defScope nU):=fsc
theorem AQ:DD "parts_start" nU ["sign"] aT:=fun {_ _ _ _ _ _ _ _ _ _ _ s _ _} cs T G hr =>
 have S:=xp
 (ss1 (aE (sIf (zF G.k_AHEAD (sM 0)) sI sI)))
theorem wV:au ["tree"] ["tree"] (defScope lI):=fsc
theorem Ag:DD "parts" lI ["tree"] cf:=fun {_ _ _ _ _ _ _ _ _ _ _ s _ _} cs T G hr =>
 have S:=wV
 (ss1 (aE (yA (sV 0) (ag cs.c175 hr (@af _ _ _ _ _ _ _ (@aq _ _ _ _ _ _ _ _ _ (sV 0) sI (by intro _ _; rfl)) sa0 (by intro _ z; cases z) (by rfl))))))
theorem yp:au ["tree"] ["tree"] (defScope mw):=fsc
theorem z0:DD "may_stop" mw ["tree"] bj:=fun {_ _ _ _ _ _ _ _ _ _ _ s _ _} cs T G hr =>
 have S:=yp
 (ss1 (aE (sBW (vOr (q9 (@aq _ _ _ _ _ _ _ _ _ (sV 0) sI (by intro _ _; rfl)) (AY G.STOPPING)) (vO1 (Bc (hm:=T.any) (ha:=(sC1 [] [] [] [] (mi (ag cs.c176 hr (@af _ _ _ _ _ _ _ (sV 0) sa0 (by intro _ z; cases z) (by rfl)))) (fun _ _ _ _=>(ag cs.c177 hr (@af _ _ _ _ _ _ _ (sV 0) sa0 (by intro _ z; cases z) (by rfl)))) csc .nil .nil))))))))
theorem zA:au ["tree"] ["tree"] (defScope mf):=fsc
theorem AU:DD "is_sure" mf ["tree"] bV:=fun {_ _ _ _ _ _ _ _ _ _ _ s _ _} cs T G hr =>
 have S:=zA
 (ss1 (aE (zQ (ag cs.c177 hr (@af _ _ _ _ _ _ _ (sM 0) sa0 (by intro _ z; cases z) (by rfl))))))
theorem xS:au ["_law_script"] ["_law_script"] (defScope lb):=fsc
theorem Am:DD "_law_tape" lb ["_law_script"] bG:=fun {_ _ _ _ _ _ _ _ _ _ _ s _ _} cs T G hr =>
 have S:=xS
 (ss1 (aE (@sLx _ _ _ _ _ _ _ (by decide) (@slx _ _ _ _ _ _ _ (rJ (hm:=T.list) (ha:=(AZ (sM 0) sI))) (@slx _ _ _ _ _ _ _ sI (@slx _ _ _ _ _ _ _ sI sl0 (by rfl)) (by rfl)) (by rfl)))))
theorem zo:au ["_law_tape_here","_law_many","_law_digit","_law_at","_law_cell","_law_mixed"] ["_law_tape_here","_law_many"] (defScope mQ):=fsc
theorem Ad:DD "_law_draw" mQ ["_law_tape_here","_law_many","_law_digit","_law_at","_law_cell","_law_mixed"] bo:=fun {_ _ _ _ _ _ _ _ _ _ _ s _ _} cs T G hr =>
 have S:=zo
 (@ssc _ _ _ _ _ _ _ _ (zIf (jK (@aq _ _ _ _ _ _ _ _ _ (sV 0) sI (by intro _ _; rfl)) sI) (@ssc _ _ _ _ _ _ _ _ (@ak _ _ _ _ _ _ _ 2 _ _ _ _ S.nd (dw (@aq _ _ _ _ _ _ _ _ _ (sV 0) sI (by intro _ _; rfl)) (sV 1)) (by decide) (by rfl) (by rfl) (by first | exact a0r rfl | exact a0n rfl) (by rfl) (by first | exact .inl rfl | exact .inr rfl))
      (@ssc _ _ _ _ _ _ _ _ (vF 0 (l7 (@aq _ _ _ _ _ _ _ _ _ (sV 0) sI (by intro _ _; rfl)) (sV 1)) sI)
      (ss1 (aE (sM 2))))) ss0)
    (@ssc _ _ _ _ _ _ _ _ (@ak _ _ _ _ _ _ _ 3 _ _ _ _ S.nd (@aq _ _ _ _ _ _ _ _ _ (sV 0) sI (by intro _ _; rfl)) (by decide) (by rfl) (by rfl) (by first | exact a0r rfl | exact a0n rfl) (by rfl) (by first | exact .inl rfl | exact .inr rfl))
    (@ssc _ _ _ _ _ _ _ _ (vF 0 (aZ (sV 3) sI) sI)
    (@ssc _ _ _ _ _ _ _ _ (@ak _ _ _ _ _ _ _ 4 _ _ _ _ S.nd sI (by decide) (by rfl) (by rfl) (by first | exact a0r rfl | exact a0n rfl) (by rfl) (by first | exact .inl rfl | exact .inr rfl))
    (@ssc _ _ _ _ _ _ _ _ (zIf (jK (dv (hm:=T.len) (ha:=(@aq _ _ _ _ _ _ _ _ _ (sV 0) sI (by intro _ _; rfl)))) sI) (ss1 (@ak _ _ _ _ _ _ _ 4 _ _ _ _ S.nd (@aq _ _ _ _ _ _ _ _ _ (@aq _ _ _ _ _ _ _ _ _ (sV 0) sI (by intro _ _; rfl)) (dw (sV 3) (dv (hm:=T.len) (ha:=(@aq _ _ _ _ _ _ _ _ _ (sV 0) sI (by intro _ _; rfl))))) (by intro _ _; rfl)) (by decide) (by rfl) (by rfl) (by first | exact a0r rfl | exact a0n rfl) (by rfl) (by first | exact .inl rfl | exact .inr rfl))) ss0)
    (@ssc _ _ _ _ _ _ _ _ (zIf (tW (dh (ko (sV 3) (dv (hm:=T.len) (ha:=(@aq _ _ _ _ _ _ _ _ _ (sV 0) sI (by intro _ _; rfl))))) (wA1 (AB (sV 4) (jT sI sI))))) (@ssc _ _ _ _ _ _ _ _ (vF 0 (l7 (sV 4) (sV 1)) sI)
     (ss1 (aE (dw (sM 4) (sM 1))))) ss0)
    (@ssc _ _ _ _ _ _ _ _ (@ak _ _ _ _ _ _ _ 5 _ _ _ _ S.nd (dw (ic (aZ (dw (sV 4) sI) sI) (aZ (aZ (ic (ic sI (sV 3)) (sV 3)) (ic sI (sV 3))) sI)) sI) (by decide) (by rfl) (by rfl) (by first | exact a0r rfl | exact a0n rfl) (by rfl) (by first | exact .inl rfl | exact .inr rfl))
    (@ssc _ _ _ _ _ _ _ _ (@ak _ _ _ _ _ _ _ 5 _ _ _ _ S.nd (dw (aZ (aZ (ic (sV 5) (sV 5)) (ic sI (sV 3))) (dw (sV 4) sI)) sI) (by decide) (by rfl) (by rfl) (by first | exact a0r rfl | exact a0n rfl) (by rfl) (by first | exact .inl rfl | exact .inr rfl))
    (ss1 (aE (dw (l7 (sM 5) sI) (sM 1))))))))))))
theorem xf:au ["_law_tape_here","_law_words","_law_start","_law_ahead","_law_found","_law_k","_law_word","_law_tail"] ["_law_tape_here"] (defScope lP):=fsc
theorem Bb:DD "_law_names" lP ["_law_tape_here","_law_words","_law_start","_law_ahead","_law_found","_law_k","_law_word","_law_tail"] a8:=fun {_ _ _ _ _ _ _ _ _ _ _ s _ _} cs T G hr =>
 have S:=xf
 (@ssc _ _ _ _ _ _ _ _ (zIf (aS hr (ag cs.c201 hr (sai 0 (@af _ _ _ _ _ _ _ sI sa0 (by intro _ z; cases z) (by rfl)))) sI) (ss1 (aE (so (hm:=T.list) (ha:=sS)))) ss0)
    (@ssc _ _ _ _ _ _ _ _ (@ak _ _ _ _ _ _ _ 1 _ _ _ _ S.nd (@sLx _ _ _ _ _ _ _ (by decide) (@slx _ _ _ _ _ _ _ sS (@slx _ _ _ _ _ _ _ sS (@slx _ _ _ _ _ _ _ sS (@slx _ _ _ _ _ _ _ sS (@slx _ _ _ _ _ _ _ sS (@slx _ _ _ _ _ _ _ sS (@slx _ _ _ _ _ _ _ sS (@slx _ _ _ _ _ _ _ sS (@slx _ _ _ _ _ _ _ sS (@slx _ _ _ _ _ _ _ sS sl0 (by rfl)) (by rfl)) (by rfl)) (by rfl)) (by rfl)) (by rfl)) (by rfl)) (by rfl)) (by rfl)) (by rfl))) (by decide) (by rfl) (by rfl) (by first | exact a0r rfl | exact a0n rfl) (by rfl) (by first | exact .inl rfl | exact .inr rfl))
    (@ssc _ _ _ _ _ _ _ _ (@ak _ _ _ _ _ _ _ 2 _ _ _ _ S.nd (ag cs.c201 hr (sai 0 (@af _ _ _ _ _ _ _ sI sa0 (by intro _ z; cases z) (by rfl)))) (by decide) (by rfl) (by rfl) (by first | exact a0r rfl | exact a0n rfl) (by rfl) (by first | exact .inl rfl | exact .inr rfl))
    (@ssc _ _ _ _ _ _ _ _ (@ak _ _ _ _ _ _ _ 3 _ _ _ _ S.nd (sEq hr (ag cs.c201 hr (sai 0 (@af _ _ _ _ _ _ _ sI sa0 (by intro _ z; cases z) (by rfl)))) sI) (by decide) (by rfl) (by rfl) (by first | exact a0r rfl | exact a0n rfl) (by rfl) (by first | exact .inl rfl | exact .inr rfl))
    (@ssc _ _ _ _ _ _ _ _ (@ak _ _ _ _ _ _ _ 4 _ _ _ _ S.nd (@sLx _ _ _ _ _ _ _ (by decide) sl0) (by decide) (by rfl) (by rfl) (by first | exact a0r rfl | exact a0n rfl) (by rfl) (by first | exact .inl rfl | exact .inr rfl))
    (@ssc _ _ _ _ _ _ _ _ (mL 5 S.nd (va (hm:=T.range) (ha:=sI)) (@ssc _ _ _ _ _ _ _ _ (@ak _ _ _ _ _ _ _ 6 _ _ _ _ S.nd (@aq _ _ _ _ _ _ _ _ _ (sV 1) (ml (aZ (sV 2) (ic sI (sV 5))) sI) (by intro _ _; rfl)) (by decide) (by rfl) (by rfl) (by first | exact a0r rfl | exact a0n rfl) (by rfl) (by first | exact .inl rfl | exact .inr rfl))
     (@ssc _ _ _ _ _ _ _ _ (@ak _ _ _ _ _ _ _ 7 _ _ _ _ S.nd (yW (@aq _ _ _ _ _ _ _ _ _ sS (ml (sV 5) sI) (by intro _ _; rfl)) (aZ sI (cm (sV 5) sI))) (by decide) (by rfl) (by rfl) (by first | exact a0r rfl | exact a0n rfl) (by rfl) (by first | exact .inl rfl | exact .inr rfl))
     (ss1 (ng 4 (@aq _ _ _ _ _ _ _ _ _ (@sLx _ _ _ _ _ _ _ (by decide) (@slx _ _ _ _ _ _ _ (aZ (sV 6) (sV 7)) (@slx _ _ _ _ _ _ _ (aZ (sV 7) (sV 6)) sl0 (by rfl)) (by rfl))) (xN (hm:=T.int) (ha:=(sV 3))) (by intro _ _; rfl)))))))
    (ss1 (aE (sM 4)))))))))
theorem xl:au ["_law_tape_here","_law_num","_law_some"] ["_law_tape_here"] (defScope kC):=fsc
theorem Ab:DD "_law_kind" kC ["_law_tape_here","_law_num","_law_some"] bK:=fun {_ _ _ _ _ _ _ _ _ _ _ s _ _} cs T G hr =>
 have S:=xl
 (@ssc _ _ _ _ _ _ _ _ (@ak _ _ _ _ _ _ _ 1 _ _ _ _ S.nd (@sTx _ _ _ _ _ _ _ (by decide) (@slx _ _ _ _ _ _ _ sS sl0 (by rfl))) (by decide) (by rfl) (by rfl) (by first | exact a0r rfl | exact a0n rfl) (by rfl) (by first | exact .inl rfl | exact .inr rfl))
    (@ssc _ _ _ _ _ _ _ _ (@ak _ _ _ _ _ _ _ 2 _ _ _ _ S.nd (@sLx _ _ _ _ _ _ _ (by decide) (@slx _ _ _ _ _ _ _ (sV 1) (@slx _ _ _ _ _ _ _ (sV 1) (@slx _ _ _ _ _ _ _ (@sTx _ _ _ _ _ _ _ (by decide) (@slx _ _ _ _ _ _ _ sS sl0 (by rfl))) (@slx _ _ _ _ _ _ _ (@sTx _ _ _ _ _ _ _ (by decide) (@slx _ _ _ _ _ _ _ sS (@slx _ _ _ _ _ _ _ (sV 1) sl0 (by rfl)) (by rfl))) (@slx _ _ _ _ _ _ _ (@sTx _ _ _ _ _ _ _ (by decide) (@slx _ _ _ _ _ _ _ sS (@slx _ _ _ _ _ _ _ (sV 1) sl0 (by rfl)) (by rfl))) (@slx _ _ _ _ _ _ _ (@sTx _ _ _ _ _ _ _ (by decide) (@slx _ _ _ _ _ _ _ sS (@slx _ _ _ _ _ _ _ (@sTx _ _ _ _ _ _ _ (by decide) (@slx _ _ _ _ _ _ _ sS sl0 (by rfl))) sl0 (by rfl)) (by rfl))) sl0 (by rfl)) (by rfl)) (by rfl)) (by rfl)) (by rfl)) (by rfl))) (by decide) (by rfl) (by rfl) (by first | exact a0r rfl | exact a0n rfl) (by rfl) (by first | exact .inl rfl | exact .inr rfl))
    (@ssc _ _ _ _ _ _ _ _ (@ak _ _ _ _ _ _ _ 2 _ _ _ _ S.nd (aZ (sV 2) (@sLx _ _ _ _ _ _ _ (by decide) (@slx _ _ _ _ _ _ _ (@sTx _ _ _ _ _ _ _ (by decide) (@slx _ _ _ _ _ _ _ sS (@slx _ _ _ _ _ _ _ (sV 1) (@slx _ _ _ _ _ _ _ (@sTx _ _ _ _ _ _ _ (by decide) (@slx _ _ _ _ _ _ _ sS sl0 (by rfl))) sl0 (by rfl)) (by rfl)) (by rfl))) (@slx _ _ _ _ _ _ _ (@sTx _ _ _ _ _ _ _ (by decide) (@slx _ _ _ _ _ _ _ sS (@slx _ _ _ _ _ _ _ (@sTx _ _ _ _ _ _ _ (by decide) (@slx _ _ _ _ _ _ _ sS (@slx _ _ _ _ _ _ _ (sV 1) sl0 (by rfl)) (by rfl))) sl0 (by rfl)) (by rfl))) (@slx _ _ _ _ _ _ _ (@sTx _ _ _ _ _ _ _ (by decide) (@slx _ _ _ _ _ _ _ sS (@slx _ _ _ _ _ _ _ (@sTx _ _ _ _ _ _ _ (by decide) (@slx _ _ _ _ _ _ _ sS (@slx _ _ _ _ _ _ _ (sV 1) (@slx _ _ _ _ _ _ _ (sV 1) sl0 (by rfl)) (by rfl)) (by rfl))) sl0 (by rfl)) (by rfl))) sl0 (by rfl)) (by rfl)) (by rfl)))) (by decide) (by rfl) (by rfl) (by first | exact a0r rfl | exact a0n rfl) (by rfl) (by first | exact .inl rfl | exact .inr rfl))
    (ss1 (aE (@aq _ _ _ _ _ _ _ _ _ (sM 2) (ag cs.c201 hr (sai 0 (@af _ _ _ _ _ _ _ sI sa0 (by intro _ z; cases z) (by rfl)))) (by intro _ _; rfl)))))))
theorem xE:au ["_law_tape_here","_law_kind_here","_law_one","_law_found","_law_k","_law_some"] ["_law_tape_here","_law_kind_here"] (defScope mD):=fsc
theorem AJ:DD "_law_worth" mD ["_law_tape_here","_law_kind_here","_law_one","_law_found","_law_k","_law_some"] aP:=fun {_ _ _ _ _ _ _ _ _ _ _ s _ _} cs T G hr =>
 have S:=xE
 (@ssc _ _ _ _ _ _ _ _ (zIf (aS hr (@aq _ _ _ _ _ _ _ _ _ (sV 1) sI (by intro _ _; rfl)) sS) (ss1 (aE (sEq hr (ag cs.c201 hr (sai 0 (@af _ _ _ _ _ _ _ sI sa0 (by intro _ z; cases z) (by rfl)))) sI))) ss0)
    (@ssc _ _ _ _ _ _ _ _ (zIf (aS hr (@aq _ _ _ _ _ _ _ _ _ (sV 1) sI (by intro _ _; rfl)) sS) (@ssc _ _ _ _ _ _ _ _ (@ak _ _ _ _ _ _ _ 2 _ _ _ _ S.nd (ag cs.c204 hr (sai 0 (@af _ _ _ _ _ _ _ (@aq _ _ _ _ _ _ _ _ _ (sV 1) sI (by intro _ _; rfl)) sa0 (by intro _ z; cases z) (by rfl)))) (by decide) (by rfl) (by rfl) (by first | exact a0r rfl | exact a0n rfl) (by rfl) (by first | exact .inl rfl | exact .inr rfl))
     (ss1 (aE (@sTx _ _ _ _ _ _ _ (by decide) (@slx _ _ _ _ _ _ _ (sM 2) (@slx _ _ _ _ _ _ _ (ag cs.c204 hr (sai 0 (@af _ _ _ _ _ _ _ (@aq _ _ _ _ _ _ _ _ _ (sM 1) sI (by intro _ _; rfl)) sa0 (by intro _ z; cases z) (by rfl)))) sl0 (by rfl)) (by rfl)))))) ss0)
    (@ssc _ _ _ _ _ _ _ _ (zIf (aS hr (@aq _ _ _ _ _ _ _ _ _ (sV 1) sI (by intro _ _; rfl)) sS) (@ssc _ _ _ _ _ _ _ _ (@ak _ _ _ _ _ _ _ 3 _ _ _ _ S.nd (@sLx _ _ _ _ _ _ _ (by decide) sl0) (by decide) (by rfl) (by rfl) (by first | exact a0r rfl | exact a0n rfl) (by rfl) (by first | exact .inl rfl | exact .inr rfl))
     (@ssc _ _ _ _ _ _ _ _ (rn 4 S.nd (va (hm:=T.range) (ha:=(@aq _ _ _ _ _ _ _ _ _ (@sLx _ _ _ _ _ _ _ (by decide) (@slx _ _ _ _ _ _ _ sI (@slx _ _ _ _ _ _ _ sI (@slx _ _ _ _ _ _ _ sI (@slx _ _ _ _ _ _ _ sI sl0 (by rfl)) (by rfl)) (by rfl)) (by rfl))) (ag cs.c201 hr (sai 0 (@af _ _ _ _ _ _ _ sI sa0 (by intro _ z; cases z) (by rfl)))) (by intro _ _; rfl)))) (ss1 (ng 3 (ag cs.c204 hr (sai 0 (@af _ _ _ _ _ _ _ (@aq _ _ _ _ _ _ _ _ _ (sV 1) sI (by intro _ _; rfl)) sa0 (by intro _ z; cases z) (by rfl)))))))
     (ss1 (aE (sM 3))))) ss0)
    (@ssc _ _ _ _ _ _ _ _ (@ak _ _ _ _ _ _ _ 5 _ _ _ _ S.nd (@sLx _ _ _ _ _ _ _ (by decide) (@slx _ _ _ _ _ _ _ (ag cs.c201 hr (sai 0 (@af _ _ _ _ _ _ _ sI sa0 (by intro _ z; cases z) (by rfl)))) (@slx _ _ _ _ _ _ _ (ag cs.c201 hr (sai 0 (@af _ _ _ _ _ _ _ sI sa0 (by intro _ z; cases z) (by rfl)))) (@slx _ _ _ _ _ _ _ (gg (gg sI sI) (ag cs.c201 hr (sai 0 (@af _ _ _ _ _ _ _ sI sa0 (by intro _ z; cases z) (by rfl))))) (@slx _ _ _ _ _ _ _ (gg (jT sI sI) (ag cs.c201 hr (sai 0 (@af _ _ _ _ _ _ _ sI sa0 (by intro _ z; cases z) (by rfl))))) (@slx _ _ _ _ _ _ _ (aZ (ag cs.c201 hr (sai 0 (@af _ _ _ _ _ _ _ (jT sI sI) sa0 (by intro _ z; cases z) (by rfl)))) sI) (@slx _ _ _ _ _ _ _ (gg sI (jT sI sI)) sl0 (by rfl)) (by rfl)) (by rfl)) (by rfl)) (by rfl)) (by rfl))) (by decide) (by rfl) (by rfl) (by first | exact a0r rfl | exact a0n rfl) (by rfl) (by first | exact .inl rfl | exact .inr rfl))
    (ss1 (aE (@aq _ _ _ _ _ _ _ _ _ (sM 5) (cm (ic (ag cs.c201 hr (sai 0 (@af _ _ _ _ _ _ _ sI sa0 (by intro _ z; cases z) (by rfl)))) sI) sI) (by intro _ _; rfl))))))))
theorem zj:au ["_law_tape_here","_law_env","_law_kind_here","_law_some"] ["_law_tape_here","_law_env","_law_kind_here"] (defScope kD):=fsc
theorem Aw:DD "_law_named" kD ["_law_tape_here","_law_env","_law_kind_here","_law_some"] a7:=fun {_ _ _ _ _ _ _ _ _ _ _ s _ _} cs T G hr =>
 have S:=zj
 (@ssc _ _ _ _ _ _ _ _ (An 3 [2] [2] [("_law_kind_here",s.heap.objs.size+1)] ["_law_kind_here"] (rl (sV 1)) (fun _ _ _ _=>(aS hr (sV 1) (sV 2))) (fun _ _ _ _=>(sV 0)) csc (vw .nil) (frc .nil) S.nd)
    (@ssc _ _ _ _ _ _ _ _ (zIf (aS hr (dv (hm:=T.len) (ha:=(sV 3))) sI) (ss1 (aE sN)) ss0)
    (ss1 (aE (@sTx _ _ _ _ _ _ _ (by decide) (@slx _ _ _ _ _ _ _ sS (@slx _ _ _ _ _ _ _ (@aq _ _ _ _ _ _ _ _ _ (sV 3) (ag cs.c201 hr (sai 0 (@af _ _ _ _ _ _ _ (dv (hm:=T.len) (ha:=(sV 3))) sa0 (by intro _ z; cases z) (by rfl)))) (by intro _ _; rfl)) sl0 (by rfl)) (by rfl)))))))
theorem yN:au ["_law_tape_here","_law_env","_law_kind_here","_law_found","_law_one"] ["_law_tape_here","_law_env","_law_kind_here"] (defScope kR):=fsc
theorem Ax:DD "_law_leaf" kR ["_law_tape_here","_law_env","_law_kind_here","_law_found","_law_one"] f_law_leaf:=fun {_ _ _ _ _ _ _ _ _ _ _ s _ _} cs T G hr =>
 have S:=yN
 (@ssc _ _ _ _ _ _ _ _ (@ak _ _ _ _ _ _ _ 3 _ _ _ _ S.nd (ag cs.c205 hr (sai 0 (@af _ _ _ _ _ _ _ (sV 1) (@af _ _ _ _ _ _ _ (sV 2) sa0 (by intro _ z; cases z) (by rfl)) (by intro _ z; cases z) (by rfl)))) (by decide) (by rfl) (by rfl) (by first | exact a0r rfl | exact a0n rfl) (by rfl) (by first | exact .inl rfl | exact .inr rfl))
    (@ssc _ _ _ _ _ _ _ _ (zIf (tW (dh (ub (sV 3) sN) (wA1 (jK (ag cs.c201 hr (sai 0 (@af _ _ _ _ _ _ _ sI sa0 (by intro _ z; cases z) (by rfl)))) sI)))) (ss1 (aE (sM 3))) ss0)
    (@ssc _ _ _ _ _ _ _ _ (zIf (aS hr (@aq _ _ _ _ _ _ _ _ _ (sV 2) sI (by intro _ _; rfl)) sS) (ss1 (aE (@sTx _ _ _ _ _ _ _ (by decide) (@slx _ _ _ _ _ _ _ sS (@slx _ _ _ _ _ _ _ (@aq _ _ _ _ _ _ _ _ _ (@sLx _ _ _ _ _ _ _ (by decide) (@slx _ _ _ _ _ _ _ (ag cs.c201 hr (sai 0 (@af _ _ _ _ _ _ _ sI sa0 (by intro _ z; cases z) (by rfl)))) (@slx _ _ _ _ _ _ _ (gg (jT sI sI) (ag cs.c201 hr (sai 0 (@af _ _ _ _ _ _ _ sI sa0 (by intro _ z; cases z) (by rfl))))) sl0 (by rfl)) (by rfl))) (cm (ag cs.c201 hr (sai 0 (@af _ _ _ _ _ _ _ sI sa0 (by intro _ z; cases z) (by rfl)))) sI) (by intro _ _; rfl)) sl0 (by rfl)) (by rfl))))) ss0)
    (@ssc _ _ _ _ _ _ _ _ (zIf (aS hr (@aq _ _ _ _ _ _ _ _ _ (sV 2) sI (by intro _ _; rfl)) sS) (ss1 (aE (@aq _ _ _ _ _ _ _ _ _ (@sLx _ _ _ _ _ _ _ (by decide) (@slx _ _ _ _ _ _ _ (@sTx _ _ _ _ _ _ _ (by decide) (@slx _ _ _ _ _ _ _ sS sl0 (by rfl))) (@slx _ _ _ _ _ _ _ (@sTx _ _ _ _ _ _ _ (by decide) (@slx _ _ _ _ _ _ _ sS sl0 (by rfl))) sl0 (by rfl)) (by rfl))) (ag cs.c201 hr (sai 0 (@af _ _ _ _ _ _ _ sI sa0 (by intro _ z; cases z) (by rfl)))) (by intro _ _; rfl)))) ss0)
    (@ssc _ _ _ _ _ _ _ _ (zIf (aS hr (@aq _ _ _ _ _ _ _ _ _ (sV 2) sI (by intro _ _; rfl)) sS) (@ssc _ _ _ _ _ _ _ _ (@ak _ _ _ _ _ _ _ 4 _ _ _ _ S.nd (ag cs.c206 hr (sai 0 (@af _ _ _ _ _ _ _ (sV 1) (@af _ _ _ _ _ _ _ (@aq _ _ _ _ _ _ _ _ _ (sV 2) sI (by intro _ _; rfl)) sa0 (by intro _ z; cases z) (by rfl)) (by intro _ z; cases z) (by rfl)))) (by decide) (by rfl) (by rfl) (by first | exact a0r rfl | exact a0n rfl) (by rfl) (by first | exact .inl rfl | exact .inr rfl))
     (ss1 (aE (@sTx _ _ _ _ _ _ _ (by decide) (@slx _ _ _ _ _ _ _ sS (@slx _ _ _ _ _ _ _ (sM 4) (@slx _ _ _ _ _ _ _ (ag cs.c206 hr (sai 0 (@af _ _ _ _ _ _ _ (sM 1) (@af _ _ _ _ _ _ _ (@aq _ _ _ _ _ _ _ _ _ (sM 2) sI (by intro _ _; rfl)) sa0 (by intro _ z; cases z) (by rfl)) (by intro _ z; cases z) (by rfl)))) sl0 (by rfl)) (by rfl)) (by rfl)))))) ss0)
    (@ssc _ _ _ _ _ _ _ _ (zIf (aS hr (ag cs.c201 hr (sai 0 (@af _ _ _ _ _ _ _ sI sa0 (by intro _ z; cases z) (by rfl)))) sI) (ss1 (aE (@sTx _ _ _ _ _ _ _ (by decide) (@slx _ _ _ _ _ _ _ sS (@slx _ _ _ _ _ _ _ (@aq _ _ _ _ _ _ _ _ _ (sM 2) sI (by intro _ _; rfl)) sl0 (by rfl)) (by rfl))))) ss0)
    (ss1 (aE (@sTx _ _ _ _ _ _ _ (by decide) (@slx _ _ _ _ _ _ _ sS (@slx _ _ _ _ _ _ _ (ag cs.c206 hr (sai 0 (@af _ _ _ _ _ _ _ (sM 1) (@af _ _ _ _ _ _ _ (@aq _ _ _ _ _ _ _ _ _ (sM 2) sI (by intro _ _; rfl)) sa0 (by intro _ z; cases z) (by rfl)) (by intro _ z; cases z) (by rfl)))) sl0 (by rfl)) (by rfl)))))))))))
theorem yX:au ["_law_tape_here","_law_env","_law_kind_here","_law_way","_law_one"] ["_law_tape_here","_law_env","_law_kind_here"] (defScope kB):=fsc
theorem Bd:DD "_law_few" kB ["_law_tape_here","_law_env","_law_kind_here","_law_way","_law_one"] ba:=fun {_ _ _ _ _ _ _ _ _ _ _ s _ _} cs T G hr =>
 have S:=yX
 (@ssc _ _ _ _ _ _ _ _ (@ak _ _ _ _ _ _ _ 3 _ _ _ _ S.nd (ag cs.c201 hr (sai 0 (@af _ _ _ _ _ _ _ sI sa0 (by intro _ z; cases z) (by rfl)))) (by decide) (by rfl) (by rfl) (by first | exact a0r rfl | exact a0n rfl) (by rfl) (by first | exact .inl rfl | exact .inr rfl))
    (@ssc _ _ _ _ _ _ _ _ (zIf (tW (dh (aS hr (sV 3) sI) (wA1 (aS hr (sV 2) (@sTx _ _ _ _ _ _ _ (by decide) (@slx _ _ _ _ _ _ _ sS (@slx _ _ _ _ _ _ _ (@sTx _ _ _ _ _ _ _ (by decide) (@slx _ _ _ _ _ _ _ sS sl0 (by rfl))) sl0 (by rfl)) (by rfl))))))) (ss1 (aE (@sTx _ _ _ _ _ _ _ (by decide) (@slx _ _ _ _ _ _ _ sS (@slx _ _ _ _ _ _ _ (ag cs.c208 hr (sai 0 (@af _ _ _ _ _ _ _ (sM 1) sa0 (by intro _ z; cases z) (by rfl)))) sl0 (by rfl)) (by rfl))))) ss0)
    (@ssc _ _ _ _ _ _ _ _ (@ak _ _ _ _ _ _ _ 4 _ _ _ _ S.nd (ag cs.c206 hr (sai 0 (@af _ _ _ _ _ _ _ (sV 1) (@af _ _ _ _ _ _ _ (sV 2) sa0 (by intro _ z; cases z) (by rfl)) (by intro _ z; cases z) (by rfl)))) (by decide) (by rfl) (by rfl) (by first | exact a0r rfl | exact a0n rfl) (by rfl) (by first | exact .inl rfl | exact .inr rfl))
    (@ssc _ _ _ _ _ _ _ _ (zIf (aS hr (sV 3) sI) (ss1 (aE (@sTx _ _ _ _ _ _ _ (by decide) (@slx _ _ _ _ _ _ _ sS (@slx _ _ _ _ _ _ _ (sM 4) (@slx _ _ _ _ _ _ _ (ag cs.c206 hr (sai 0 (@af _ _ _ _ _ _ _ (@sLx _ _ _ _ _ _ _ (by decide) sl0) (@af _ _ _ _ _ _ _ (sM 2) sa0 (by intro _ z; cases z) (by rfl)) (by intro _ z; cases z) (by rfl)))) sl0 (by rfl)) (by rfl)) (by rfl))))) ss0)
    (ss1 (aE (sM 4)))))))
theorem xc:au ["_law_tape_here","_law_env","_law_way","_law_found"] ["_law_tape_here","_law_env"] (defScope lH):=fsc
theorem zG:DD "_law_times" lH ["_law_tape_here","_law_env","_law_way","_law_found"] aL:=fun {_ _ _ _ _ _ _ _ _ _ _ s _ _} cs T G hr =>
 have S:=xc
 (@ssc _ _ _ _ _ _ _ _ (@ak _ _ _ _ _ _ _ 2 _ _ _ _ S.nd (ag cs.c201 hr (sai 0 (@af _ _ _ _ _ _ _ sI sa0 (by intro _ z; cases z) (by rfl)))) (by decide) (by rfl) (by rfl) (by first | exact a0r rfl | exact a0n rfl) (by rfl) (by first | exact .inl rfl | exact .inr rfl))
    (@ssc _ _ _ _ _ _ _ _ (@ak _ _ _ _ _ _ _ 3 _ _ _ _ S.nd (ag cs.c205 hr (sai 0 (@af _ _ _ _ _ _ _ (sV 1) (@af _ _ _ _ _ _ _ (@sTx _ _ _ _ _ _ _ (by decide) (@slx _ _ _ _ _ _ _ sS sl0 (by rfl))) sa0 (by intro _ z; cases z) (by rfl)) (by intro _ z; cases z) (by rfl)))) (by decide) (by rfl) (by rfl) (by first | exact a0r rfl | exact a0n rfl) (by rfl) (by first | exact .inl rfl | exact .inr rfl))
    (@ssc _ _ _ _ _ _ _ _ (zIf (tW (dh (aS hr (sV 2) sI) (wA1 (ub (sV 3) sN)))) (ss1 (aE (@sTx _ _ _ _ _ _ _ (by decide) (@slx _ _ _ _ _ _ _ sS (@slx _ _ _ _ _ _ _ (sM 3) (@slx _ _ _ _ _ _ _ (@sTx _ _ _ _ _ _ _ (by decide) (@slx _ _ _ _ _ _ _ sS (@slx _ _ _ _ _ _ _ sI sl0 (by rfl)) (by rfl))) sl0 (by rfl)) (by rfl)) (by rfl))))) ss0)
    (@ssc _ _ _ _ _ _ _ _ (zIf (aS hr (sV 2) sI) (ss1 (aE (@sTx _ _ _ _ _ _ _ (by decide) (@slx _ _ _ _ _ _ _ sS (@slx _ _ _ _ _ _ _ (@sTx _ _ _ _ _ _ _ (by decide) (@slx _ _ _ _ _ _ _ sS (@slx _ _ _ _ _ _ _ (ag cs.c201 hr (sai 0 (@af _ _ _ _ _ _ _ sI sa0 (by intro _ z; cases z) (by rfl)))) sl0 (by rfl)) (by rfl))) (@slx _ _ _ _ _ _ _ (@sTx _ _ _ _ _ _ _ (by decide) (@slx _ _ _ _ _ _ _ sS (@slx _ _ _ _ _ _ _ sI sl0 (by rfl)) (by rfl))) sl0 (by rfl)) (by rfl)) (by rfl))))) ss0)
    (@ssc _ _ _ _ _ _ _ _ (zIf (aS hr (sV 2) sI) (ss1 (aE (@sTx _ _ _ _ _ _ _ (by decide) (@slx _ _ _ _ _ _ _ sS (@slx _ _ _ _ _ _ _ (aZ sI (ag cs.c201 hr (sai 0 (@af _ _ _ _ _ _ _ (jT sI sI) sa0 (by intro _ z; cases z) (by rfl))))) sl0 (by rfl)) (by rfl))))) ss0)
    (ss1 (aE (@sTx _ _ _ _ _ _ _ (by decide) (@slx _ _ _ _ _ _ _ sS (@slx _ _ _ _ _ _ _ (ag cs.c201 hr (sai 0 (@af _ _ _ _ _ _ _ sI sa0 (by intro _ z; cases z) (by rfl)))) sl0 (by rfl)) (by rfl))))))))))
theorem yD:au ["_law_tape_here","_law_env","_law_names_here","_law_kind_here","_law_room","_law_deep","_law_way","_law_one","_law_two","_law_told","_law_x"] ["_law_tape_here","_law_env","_law_names_here","_law_kind_here","_law_room","_law_deep"] (defScope kP):=fsc
theorem AF:DD "_law_term" kP ["_law_tape_here","_law_env","_law_names_here","_law_kind_here","_law_room","_law_deep","_law_way","_law_one","_law_two","_law_told","_law_x"] aB:=fun {_ _ _ _ _ _ _ _ _ _ _ s _ _} cs T G hr =>
 have S:=yD
 (@ssc _ _ _ _ _ _ _ _ (@ak _ _ _ _ _ _ _ 6 _ _ _ _ S.nd (ag cs.c201 hr (sai 0 (@af _ _ _ _ _ _ _ sI sa0 (by intro _ z; cases z) (by rfl)))) (by decide) (by rfl) (by rfl) (by first | exact a0r rfl | exact a0n rfl) (by rfl) (by first | exact .inl rfl | exact .inr rfl))
    (@ssc _ _ _ _ _ _ _ _ (zIf (tW (wOr (ko (sV 4) sI) (wO1 (ko (sV 6) sI)))) (ss1 (aE (ag cs.c206 hr (sai 0 (@af _ _ _ _ _ _ _ (sM 1) (@af _ _ _ _ _ _ _ (sM 3) sa0 (by intro _ z; cases z) (by rfl)) (by intro _ z; cases z) (by rfl)))))) ss0)
    (@ssc _ _ _ _ _ _ _ _ (zIf (aS hr (sV 6) sI) (@ssc _ _ _ _ _ _ _ _ (@ak _ _ _ _ _ _ _ 7 _ _ _ _ S.nd (ag cs.c209 hr (sai 0 (@af _ _ _ _ _ _ _ (sV 1) (@af _ _ _ _ _ _ _ (sV 2) (@af _ _ _ _ _ _ _ (@sTx _ _ _ _ _ _ _ (by decide) (@slx _ _ _ _ _ _ _ sS sl0 (by rfl))) (@af _ _ _ _ _ _ _ (cm (sV 4) sI) (@af _ _ _ _ _ _ _ (sV 5) sa0 (by intro _ z; cases z) (by rfl)) (by intro _ z; cases z) (by rfl)) (by intro _ z; cases z) (by rfl)) (by intro _ z; cases z) (by rfl)) (by intro _ z; cases z) (by rfl)))) (by decide) (by rfl) (by rfl) (by first | exact a0r rfl | exact a0n rfl) (by rfl) (by first | exact .inl rfl | exact .inr rfl))
     (@ssc _ _ _ _ _ _ _ _ (@ak _ _ _ _ _ _ _ 8 _ _ _ _ S.nd (ag cs.c209 hr (sai 0 (@af _ _ _ _ _ _ _ (sV 1) (@af _ _ _ _ _ _ _ (sV 2) (@af _ _ _ _ _ _ _ (sV 3) (@af _ _ _ _ _ _ _ (cm (sV 4) sI) (@af _ _ _ _ _ _ _ (sV 5) sa0 (by intro _ z; cases z) (by rfl)) (by intro _ z; cases z) (by rfl)) (by intro _ z; cases z) (by rfl)) (by intro _ z; cases z) (by rfl)) (by intro _ z; cases z) (by rfl)))) (by decide) (by rfl) (by rfl) (by first | exact a0r rfl | exact a0n rfl) (by rfl) (by first | exact .inl rfl | exact .inr rfl))
     (ss1 (aE (@sTx _ _ _ _ _ _ _ (by decide) (@slx _ _ _ _ _ _ _ sS (@slx _ _ _ _ _ _ _ (sM 7) (@slx _ _ _ _ _ _ _ (sM 8) (@slx _ _ _ _ _ _ _ (ag cs.c209 hr (sai 0 (@af _ _ _ _ _ _ _ (sM 1) (@af _ _ _ _ _ _ _ (sM 2) (@af _ _ _ _ _ _ _ (sM 3) (@af _ _ _ _ _ _ _ (cm (sM 4) sI) (@af _ _ _ _ _ _ _ (sM 5) sa0 (by intro _ z; cases z) (by rfl)) (by intro _ z; cases z) (by rfl)) (by intro _ z; cases z) (by rfl)) (by intro _ z; cases z) (by rfl)) (by intro _ z; cases z) (by rfl)))) sl0 (by rfl)) (by rfl)) (by rfl)) (by rfl))))))) ss0)
    (@ssc _ _ _ _ _ _ _ _ (zIf (tW (dh (aS hr (sV 6) sI) (wA1 (jK (sV 5) sI)))) (@ssc _ _ _ _ _ _ _ _ (@ak _ _ _ _ _ _ _ 9 _ _ _ _ S.nd (ag cs.c203 hr (sai 0 sa0)) (by decide) (by rfl) (by rfl) (by first | exact a0r rfl | exact a0n rfl) (by rfl) (by first | exact .inl rfl | exact .inr rfl))
     (@ssc _ _ _ _ _ _ _ _ (@ak _ _ _ _ _ _ _ 10 _ _ _ _ S.nd (@aq _ _ _ _ _ _ _ _ _ (sV 2) (dv (hm:=T.len) (ha:=(sV 1))) (by intro _ _; rfl)) (by decide) (by rfl) (by rfl) (by first | exact a0r rfl | exact a0n rfl) (by rfl) (by first | exact .inl rfl | exact .inr rfl))
     (@ssc _ _ _ _ _ _ _ _ (@ak _ _ _ _ _ _ _ 7 _ _ _ _ S.nd (ag cs.c209 hr (sai 0 (@af _ _ _ _ _ _ _ (sV 1) (@af _ _ _ _ _ _ _ (sV 2) (@af _ _ _ _ _ _ _ (sV 9) (@af _ _ _ _ _ _ _ (cm (sV 4) sI) (@af _ _ _ _ _ _ _ (sV 5) sa0 (by intro _ z; cases z) (by rfl)) (by intro _ z; cases z) (by rfl)) (by intro _ z; cases z) (by rfl)) (by intro _ z; cases z) (by rfl)) (by intro _ z; cases z) (by rfl)))) (by decide) (by rfl) (by rfl) (by first | exact a0r rfl | exact a0n rfl) (by rfl) (by first | exact .inl rfl | exact .inr rfl))
     (ss1 (aE (@sTx _ _ _ _ _ _ _ (by decide) (@slx _ _ _ _ _ _ _ sS (@slx _ _ _ _ _ _ _ (sV 10) (@slx _ _ _ _ _ _ _ (sM 7) (@slx _ _ _ _ _ _ _ (ag cs.c209 hr (sai 0 (@af _ _ _ _ _ _ _ (aZ (sM 1) (@sLx _ _ _ _ _ _ _ (by decide) (@slx _ _ _ _ _ _ _ (@sTx _ _ _ _ _ _ _ (by decide) (@slx _ _ _ _ _ _ _ (sV 10) (@slx _ _ _ _ _ _ _ (sM 9) sl0 (by rfl)) (by rfl))) sl0 (by rfl)))) (@af _ _ _ _ _ _ _ (sM 2) (@af _ _ _ _ _ _ _ (sM 3) (@af _ _ _ _ _ _ _ (cm (sM 4) sI) (@af _ _ _ _ _ _ _ (gg (sM 5) sI) sa0 (by intro _ z; cases z) (by rfl)) (by intro _ z; cases z) (by rfl)) (by intro _ z; cases z) (by rfl)) (by intro _ z; cases z) (by rfl)) (by intro _ z; cases z) (by rfl)))) sl0 (by rfl)) (by rfl)) (by rfl)) (by rfl)))))))) ss0)
    (@ssc _ _ _ _ _ _ _ _ (zIf (tW (dh (aS hr (sV 6) sI) (dh (jK (sV 5) sI) (wA1 (mx hr (@aq _ _ _ _ _ _ _ _ _ (sV 3) sI (by intro _ _; rfl)) sS))))) (@ssc _ _ _ _ _ _ _ _ (@ak _ _ _ _ _ _ _ 10 _ _ _ _ S.nd (@aq _ _ _ _ _ _ _ _ _ (sV 2) (dv (hm:=T.len) (ha:=(sV 1))) (by intro _ _; rfl)) (by decide) (by rfl) (by rfl) (by first | exact a0r rfl | exact a0n rfl) (by rfl) (by first | exact .inl rfl | exact .inr rfl))
     (@ssc _ _ _ _ _ _ _ _ (@ak _ _ _ _ _ _ _ 7 _ _ _ _ S.nd (ag cs.c208 hr (sai 0 (@af _ _ _ _ _ _ _ (sV 1) sa0 (by intro _ z; cases z) (by rfl)))) (by decide) (by rfl) (by rfl) (by first | exact a0r rfl | exact a0n rfl) (by rfl) (by first | exact .inl rfl | exact .inr rfl))
     (@ssc _ _ _ _ _ _ _ _ (@ak _ _ _ _ _ _ _ 8 _ _ _ _ S.nd (ag cs.c209 hr (sai 0 (@af _ _ _ _ _ _ _ (sV 1) (@af _ _ _ _ _ _ _ (sV 2) (@af _ _ _ _ _ _ _ (sV 3) (@af _ _ _ _ _ _ _ (cm (sV 4) sI) (@af _ _ _ _ _ _ _ (sV 5) sa0 (by intro _ z; cases z) (by rfl)) (by intro _ z; cases z) (by rfl)) (by intro _ z; cases z) (by rfl)) (by intro _ z; cases z) (by rfl)) (by intro _ z; cases z) (by rfl)))) (by decide) (by rfl) (by rfl) (by first | exact a0r rfl | exact a0n rfl) (by rfl) (by first | exact .inl rfl | exact .inr rfl))
     (ss1 (aE (@sTx _ _ _ _ _ _ _ (by decide) (@slx _ _ _ _ _ _ _ sS (@slx _ _ _ _ _ _ _ (sV 10) (@slx _ _ _ _ _ _ _ (sM 7) (@slx _ _ _ _ _ _ _ (sM 8) (@slx _ _ _ _ _ _ _ (ag cs.c209 hr (sai 0 (@af _ _ _ _ _ _ _ (aZ (sM 1) (@sLx _ _ _ _ _ _ _ (by decide) (@slx _ _ _ _ _ _ _ (@sTx _ _ _ _ _ _ _ (by decide) (@slx _ _ _ _ _ _ _ (sV 10) (@slx _ _ _ _ _ _ _ (sV 3) sl0 (by rfl)) (by rfl))) sl0 (by rfl)))) (@af _ _ _ _ _ _ _ (sM 2) (@af _ _ _ _ _ _ _ (sV 3) (@af _ _ _ _ _ _ _ (cm (sM 4) sI) (@af _ _ _ _ _ _ _ (gg (sM 5) sI) sa0 (by intro _ z; cases z) (by rfl)) (by intro _ z; cases z) (by rfl)) (by intro _ z; cases z) (by rfl)) (by intro _ z; cases z) (by rfl)) (by intro _ z; cases z) (by rfl)))) sl0 (by rfl)) (by rfl)) (by rfl)) (by rfl)) (by rfl)))))))) ss0)
    (@ssc _ _ _ _ _ _ _ _ (zIf (ko (sV 6) sI) (ss1 (aE (ag cs.c212 hr (sai 0 (@af _ _ _ _ _ _ _ (sM 1) (@af _ _ _ _ _ _ _ (sM 2) (@af _ _ _ _ _ _ _ (sM 3) (@af _ _ _ _ _ _ _ (sM 4) (@af _ _ _ _ _ _ _ (sM 5) sa0 (by intro _ z; cases z) (by rfl)) (by intro _ z; cases z) (by rfl)) (by intro _ z; cases z) (by rfl)) (by intro _ z; cases z) (by rfl)) (by intro _ z; cases z) (by rfl)))))) ss0)
    (ss1 (aE (ag cs.c210 hr (sai 0 (@af _ _ _ _ _ _ _ (sM 1) (@af _ _ _ _ _ _ _ (sM 2) (@af _ _ _ _ _ _ _ (sM 3) (@af _ _ _ _ _ _ _ (sM 4) (@af _ _ _ _ _ _ _ (sM 5) sa0 (by intro _ z; cases z) (by rfl)) (by intro _ z; cases z) (by rfl)) (by intro _ z; cases z) (by rfl)) (by intro _ z; cases z) (by rfl)) (by intro _ z; cases z) (by rfl))))))))))))
theorem x3:au ["_law_tape_here","_law_env","_law_names_here","_law_kind_here","_law_room","_law_deep","_law_num","_law_way","_law_sign","_law_row","_law_kinds","_law_one"] ["_law_tape_here","_law_env","_law_names_here","_law_kind_here","_law_room","_law_deep"] (defScope k9):=fsc
theorem zI:DD "_law_plain" k9 ["_law_tape_here","_law_env","_law_names_here","_law_kind_here","_law_room","_law_deep","_law_num","_law_way","_law_sign","_law_row","_law_kinds","_law_one"] aC:=fun {_ _ _ _ _ _ _ _ _ _ _ s _ _} cs T G hr =>
 have S:=x3
 (@ssc _ _ _ _ _ _ _ _ (@ak _ _ _ _ _ _ _ 6 _ _ _ _ S.nd (@sTx _ _ _ _ _ _ _ (by decide) (@slx _ _ _ _ _ _ _ sS sl0 (by rfl))) (by decide) (by rfl) (by rfl) (by first | exact a0r rfl | exact a0n rfl) (by rfl) (by first | exact .inl rfl | exact .inr rfl))
    (@ssc _ _ _ _ _ _ _ _ (zIf (aS hr (@aq _ _ _ _ _ _ _ _ _ (sV 3) sI (by intro _ _; rfl)) sS) (ss1 (aE (ag cs.c211 hr (sai 0 (@af _ _ _ _ _ _ _ (sM 1) (@af _ _ _ _ _ _ _ (sM 2) (@af _ _ _ _ _ _ _ (sM 3) (@af _ _ _ _ _ _ _ (sM 4) (@af _ _ _ _ _ _ _ (sM 5) sa0 (by intro _ z; cases z) (by rfl)) (by intro _ z; cases z) (by rfl)) (by intro _ z; cases z) (by rfl)) (by intro _ z; cases z) (by rfl)) (by intro _ z; cases z) (by rfl)))))) ss0)
    (@ssc _ _ _ _ _ _ _ _ (@ak _ _ _ _ _ _ _ 7 _ _ _ _ S.nd (ag cs.c201 hr (sai 0 (@af _ _ _ _ _ _ _ sI sa0 (by intro _ z; cases z) (by rfl)))) (by decide) (by rfl) (by rfl) (by first | exact a0r rfl | exact a0n rfl) (by rfl) (by first | exact .inl rfl | exact .inr rfl))
    (@ssc _ _ _ _ _ _ _ _ (zIf (tW (dh (aS hr (sV 3) (sV 6)) (wA1 (ko (sV 7) sI)))) (@ssc _ _ _ _ _ _ _ _ (@ak _ _ _ _ _ _ _ 8 _ _ _ _ S.nd (@aq _ _ _ _ _ _ _ _ _ (@sLx _ _ _ _ _ _ _ (by decide) (@slx _ _ _ _ _ _ _ sS (@slx _ _ _ _ _ _ _ sS (@slx _ _ _ _ _ _ _ sS (@slx _ _ _ _ _ _ _ sS sl0 (by rfl)) (by rfl)) (by rfl)) (by rfl))) (sV 7) (by intro _ _; rfl)) (by decide) (by rfl) (by rfl) (by first | exact a0r rfl | exact a0n rfl) (by rfl) (by first | exact .inl rfl | exact .inr rfl))
     (@ssc _ _ _ _ _ _ _ _ (@ak _ _ _ _ _ _ _ 9 _ _ _ _ S.nd (ag cs.c209 hr (sai 0 (@af _ _ _ _ _ _ _ (sV 1) (@af _ _ _ _ _ _ _ (sV 2) (@af _ _ _ _ _ _ _ (@sTx _ _ _ _ _ _ _ (by decide) (@slx _ _ _ _ _ _ _ sS (@slx _ _ _ _ _ _ _ (sV 6) sl0 (by rfl)) (by rfl))) (@af _ _ _ _ _ _ _ (cm (sV 4) sI) (@af _ _ _ _ _ _ _ (sV 5) sa0 (by intro _ z; cases z) (by rfl)) (by intro _ z; cases z) (by rfl)) (by intro _ z; cases z) (by rfl)) (by intro _ z; cases z) (by rfl)) (by intro _ z; cases z) (by rfl)))) (by decide) (by rfl) (by rfl) (by first | exact a0r rfl | exact a0n rfl) (by rfl) (by first | exact .inl rfl | exact .inr rfl))
     (@ssc _ _ _ _ _ _ _ _ (zIf (mx hr (sV 8) sS) (ss1 (aE (@sTx _ _ _ _ _ _ _ (by decide) (@slx _ _ _ _ _ _ _ (sM 8) (@slx _ _ _ _ _ _ _ (sM 9) sl0 (by rfl)) (by rfl))))) ss0)
     (ss1 (aE (@sTx _ _ _ _ _ _ _ (by decide) (@slx _ _ _ _ _ _ _ sS (@slx _ _ _ _ _ _ _ (sM 9) (@slx _ _ _ _ _ _ _ (ag cs.c209 hr (sai 0 (@af _ _ _ _ _ _ _ (sM 1) (@af _ _ _ _ _ _ _ (sM 2) (@af _ _ _ _ _ _ _ (sM 6) (@af _ _ _ _ _ _ _ (cm (sM 4) sI) (@af _ _ _ _ _ _ _ (sM 5) sa0 (by intro _ z; cases z) (by rfl)) (by intro _ z; cases z) (by rfl)) (by intro _ z; cases z) (by rfl)) (by intro _ z; cases z) (by rfl)) (by intro _ z; cases z) (by rfl)))) sl0 (by rfl)) (by rfl)) (by rfl)))))))) ss0)
    (@ssc _ _ _ _ _ _ _ _ (zIf (tW (dh (aS hr (sV 3) (@sTx _ _ _ _ _ _ _ (by decide) (@slx _ _ _ _ _ _ _ sS sl0 (by rfl)))) (wA1 (aS hr (sV 7) sI)))) (ss1 (aE (@sTx _ _ _ _ _ _ _ (by decide) (@slx _ _ _ _ _ _ _ sS (@slx _ _ _ _ _ _ _ (ag cs.c209 hr (sai 0 (@af _ _ _ _ _ _ _ (sM 1) (@af _ _ _ _ _ _ _ (sM 2) (@af _ _ _ _ _ _ _ (sM 3) (@af _ _ _ _ _ _ _ (cm (sM 4) sI) (@af _ _ _ _ _ _ _ (sM 5) sa0 (by intro _ z; cases z) (by rfl)) (by intro _ z; cases z) (by rfl)) (by intro _ z; cases z) (by rfl)) (by intro _ z; cases z) (by rfl)) (by intro _ z; cases z) (by rfl)))) sl0 (by rfl)) (by rfl))))) ss0)
    (@ssc _ _ _ _ _ _ _ _ (@ak _ _ _ _ _ _ _ 10 _ _ _ _ S.nd (@sLx _ _ _ _ _ _ _ (by decide) (@slx _ _ _ _ _ _ _ (sV 6) (@slx _ _ _ _ _ _ _ (sV 6) sl0 (by rfl)) (by rfl))) (by decide) (by rfl) (by rfl) (by first | exact a0r rfl | exact a0n rfl) (by rfl) (by first | exact .inl rfl | exact .inr rfl))
    (@ssc _ _ _ _ _ _ _ _ (@ak _ _ _ _ _ _ _ 8 _ _ _ _ S.nd (@aq _ _ _ _ _ _ _ _ _ (@sLx _ _ _ _ _ _ _ (by decide) (@slx _ _ _ _ _ _ _ sS (@slx _ _ _ _ _ _ _ sS (@slx _ _ _ _ _ _ _ sS (@slx _ _ _ _ _ _ _ sS (@slx _ _ _ _ _ _ _ sS sl0 (by rfl)) (by rfl)) (by rfl)) (by rfl)) (by rfl))) (ml (sV 7) sI) (by intro _ _; rfl)) (by decide) (by rfl) (by rfl) (by first | exact a0r rfl | exact a0n rfl) (by rfl) (by first | exact .inl rfl | exact .inr rfl))
    (@ssc _ _ _ _ _ _ _ _ (zIf (aS hr (sV 3) (@sTx _ _ _ _ _ _ _ (by decide) (@slx _ _ _ _ _ _ _ sS sl0 (by rfl)))) (@ssc _ _ _ _ _ _ _ _ (@ak _ _ _ _ _ _ _ 8 _ _ _ _ S.nd (@aq _ _ _ _ _ _ _ _ _ (@sLx _ _ _ _ _ _ _ (by decide) (@slx _ _ _ _ _ _ _ sS (@slx _ _ _ _ _ _ _ sS (@slx _ _ _ _ _ _ _ sS sl0 (by rfl)) (by rfl)) (by rfl))) (ml (sV 7) sI) (by intro _ _; rfl)) (by decide) (by rfl) (by rfl) (by first | exact a0r rfl | exact a0n rfl) (by rfl) (by first | exact .inl rfl | exact .inr rfl))
     (ss1 (zIf (tW (wOr (aS hr (ml (sV 7) sI) sI) (wO1 (aS hr (sV 7) sI)))) (ss1 (@ak _ _ _ _ _ _ _ 10 _ _ _ _ S.nd (@sLx _ _ _ _ _ _ _ (by decide) (@slx _ _ _ _ _ _ _ (sV 3) (@slx _ _ _ _ _ _ _ (sV 3) sl0 (by rfl)) (by rfl))) (by decide) (by rfl) (by rfl) (by first | exact a0r rfl | exact a0n rfl) (by rfl) (by first | exact .inl rfl | exact .inr rfl))) ss0))) ss0)
    (@ssc _ _ _ _ _ _ _ _ (zIf (aS hr (@aq _ _ _ _ _ _ _ _ _ (sV 3) sI (by intro _ _; rfl)) sS) (@ssc _ _ _ _ _ _ _ _ (@ak _ _ _ _ _ _ _ 8 _ _ _ _ S.nd sS (by decide) (by rfl) (by rfl) (by first | exact a0r rfl | exact a0n rfl) (by rfl) (by first | exact .inl rfl | exact .inr rfl))
     (ss1 (@ak _ _ _ _ _ _ _ 10 _ _ _ _ S.nd (@sLx _ _ _ _ _ _ _ (by decide) (@slx _ _ _ _ _ _ _ (@aq _ _ _ _ _ _ _ _ _ (sV 3) sI (by intro _ _; rfl)) (@slx _ _ _ _ _ _ _ (@aq _ _ _ _ _ _ _ _ _ (sV 3) sI (by intro _ _; rfl)) sl0 (by rfl)) (by rfl))) (by decide) (by rfl) (by rfl) (by first | exact a0r rfl | exact a0n rfl) (by rfl) (by first | exact .inl rfl | exact .inr rfl)))) ss0)
    (@ssc _ _ _ _ _ _ _ _ (@ak _ _ _ _ _ _ _ 11 _ _ _ _ S.nd (ag cs.c209 hr (sai 0 (@af _ _ _ _ _ _ _ (sV 1) (@af _ _ _ _ _ _ _ (sV 2) (@af _ _ _ _ _ _ _ (@aq _ _ _ _ _ _ _ _ _ (sV 10) sI (by intro _ _; rfl)) (@af _ _ _ _ _ _ _ (cm (sV 4) sI) (@af _ _ _ _ _ _ _ (sV 5) sa0 (by intro _ z; cases z) (by rfl)) (by intro _ z; cases z) (by rfl)) (by intro _ z; cases z) (by rfl)) (by intro _ z; cases z) (by rfl)) (by intro _ z; cases z) (by rfl)))) (by decide) (by rfl) (by rfl) (by first | exact a0r rfl | exact a0n rfl) (by rfl) (by first | exact .inl rfl | exact .inr rfl))
    (ss1 (aE (@sTx _ _ _ _ _ _ _ (by decide) (@slx _ _ _ _ _ _ _ (sM 8) (@slx _ _ _ _ _ _ _ (sM 11) (@slx _ _ _ _ _ _ _ (ag cs.c209 hr (sai 0 (@af _ _ _ _ _ _ _ (sM 1) (@af _ _ _ _ _ _ _ (sM 2) (@af _ _ _ _ _ _ _ (@aq _ _ _ _ _ _ _ _ _ (sM 10) sI (by intro _ _; rfl)) (@af _ _ _ _ _ _ _ (cm (sM 4) sI) (@af _ _ _ _ _ _ _ (sM 5) sa0 (by intro _ z; cases z) (by rfl)) (by intro _ z; cases z) (by rfl)) (by intro _ z; cases z) (by rfl)) (by intro _ z; cases z) (by rfl)) (by intro _ z; cases z) (by rfl)))) sl0 (by rfl)) (by rfl)) (by rfl)))))))))))))))
theorem yL:au ["_law_tape_here","_law_env","_law_names_here","_law_kind_here","_law_room","_law_deep","_law_way","_law_told","_law_x","_law_one"] ["_law_tape_here","_law_env","_law_names_here","_law_kind_here","_law_room","_law_deep"] (defScope lx):=fsc
theorem zR:DD "_law_rows" lx ["_law_tape_here","_law_env","_law_names_here","_law_kind_here","_law_room","_law_deep","_law_way","_law_told","_law_x","_law_one"] f_law_rows:=fun {_ _ _ _ _ _ _ _ _ _ _ s _ _} cs T G hr =>
 have S:=yL
 (@ssc _ _ _ _ _ _ _ _ (@ak _ _ _ _ _ _ _ 6 _ _ _ _ S.nd (ag cs.c201 hr (sai 0 (@af _ _ _ _ _ _ _ sI sa0 (by intro _ z; cases z) (by rfl)))) (by decide) (by rfl) (by rfl) (by first | exact a0r rfl | exact a0n rfl) (by rfl) (by first | exact .inl rfl | exact .inr rfl))
    (@ssc _ _ _ _ _ _ _ _ (zIf (tW (dh (ko (sV 6) sI) (wA1 (jK (sV 5) sI)))) (@ssc _ _ _ _ _ _ _ _ (@ak _ _ _ _ _ _ _ 7 _ _ _ _ S.nd (@aq _ _ _ _ _ _ _ _ _ (@sLx _ _ _ _ _ _ _ (by decide) (@slx _ _ _ _ _ _ _ (@sTx _ _ _ _ _ _ _ (by decide) (@slx _ _ _ _ _ _ _ sS sl0 (by rfl))) (@slx _ _ _ _ _ _ _ (@sTx _ _ _ _ _ _ _ (by decide) (@slx _ _ _ _ _ _ _ sS sl0 (by rfl))) (@slx _ _ _ _ _ _ _ (@sTx _ _ _ _ _ _ _ (by decide) (@slx _ _ _ _ _ _ _ sS (@slx _ _ _ _ _ _ _ (@sTx _ _ _ _ _ _ _ (by decide) (@slx _ _ _ _ _ _ _ sS sl0 (by rfl))) sl0 (by rfl)) (by rfl))) (@slx _ _ _ _ _ _ _ (@sTx _ _ _ _ _ _ _ (by decide) (@slx _ _ _ _ _ _ _ sS (@slx _ _ _ _ _ _ _ (@sTx _ _ _ _ _ _ _ (by decide) (@slx _ _ _ _ _ _ _ sS sl0 (by rfl))) (@slx _ _ _ _ _ _ _ (@sTx _ _ _ _ _ _ _ (by decide) (@slx _ _ _ _ _ _ _ sS sl0 (by rfl))) sl0 (by rfl)) (by rfl)) (by rfl))) sl0 (by rfl)) (by rfl)) (by rfl)) (by rfl))) (ag cs.c201 hr (sai 0 (@af _ _ _ _ _ _ _ sI sa0 (by intro _ z; cases z) (by rfl)))) (by intro _ _; rfl)) (by decide) (by rfl) (by rfl) (by first | exact a0r rfl | exact a0n rfl) (by rfl) (by first | exact .inl rfl | exact .inr rfl))
     (@ssc _ _ _ _ _ _ _ _ (@ak _ _ _ _ _ _ _ 8 _ _ _ _ S.nd (@aq _ _ _ _ _ _ _ _ _ (sV 2) (dv (hm:=T.len) (ha:=(sV 1))) (by intro _ _; rfl)) (by decide) (by rfl) (by rfl) (by first | exact a0r rfl | exact a0n rfl) (by rfl) (by first | exact .inl rfl | exact .inr rfl))
     (@ssc _ _ _ _ _ _ _ _ (@ak _ _ _ _ _ _ _ 9 _ _ _ _ S.nd (ag cs.c207 hr (sai 0 (@af _ _ _ _ _ _ _ (sV 1) (@af _ _ _ _ _ _ _ (@sTx _ _ _ _ _ _ _ (by decide) (@slx _ _ _ _ _ _ _ sS (@slx _ _ _ _ _ _ _ (sV 7) sl0 (by rfl)) (by rfl))) sa0 (by intro _ z; cases z) (by rfl)) (by intro _ z; cases z) (by rfl)))) (by decide) (by rfl) (by rfl) (by first | exact a0r rfl | exact a0n rfl) (by rfl) (by first | exact .inl rfl | exact .inr rfl))
     (ss1 (aE (@sTx _ _ _ _ _ _ _ (by decide) (@slx _ _ _ _ _ _ _ sS (@slx _ _ _ _ _ _ _ (sV 8) (@slx _ _ _ _ _ _ _ (sM 9) (@slx _ _ _ _ _ _ _ (ag cs.c209 hr (sai 0 (@af _ _ _ _ _ _ _ (aZ (sM 1) (@sLx _ _ _ _ _ _ _ (by decide) (@slx _ _ _ _ _ _ _ (@sTx _ _ _ _ _ _ _ (by decide) (@slx _ _ _ _ _ _ _ (sV 8) (@slx _ _ _ _ _ _ _ (sM 7) sl0 (by rfl)) (by rfl))) sl0 (by rfl)))) (@af _ _ _ _ _ _ _ (sM 2) (@af _ _ _ _ _ _ _ (@aq _ _ _ _ _ _ _ _ _ (sM 3) sI (by intro _ _; rfl)) (@af _ _ _ _ _ _ _ (cm (sM 4) sI) (@af _ _ _ _ _ _ _ (gg (sM 5) sI) sa0 (by intro _ z; cases z) (by rfl)) (by intro _ z; cases z) (by rfl)) (by intro _ z; cases z) (by rfl)) (by intro _ z; cases z) (by rfl)) (by intro _ z; cases z) (by rfl)))) sl0 (by rfl)) (by rfl)) (by rfl)) (by rfl)))))))) ss0)
    (@ssc _ _ _ _ _ _ _ _ (zIf (tW (dh (aS hr (sV 6) sI) (wA1 (aS hr (sV 3) (@sTx _ _ _ _ _ _ _ (by decide) (@slx _ _ _ _ _ _ _ sS (@slx _ _ _ _ _ _ _ (@sTx _ _ _ _ _ _ _ (by decide) (@slx _ _ _ _ _ _ _ sS sl0 (by rfl))) sl0 (by rfl)) (by rfl))))))) (ss1 (aE (@sTx _ _ _ _ _ _ _ (by decide) (@slx _ _ _ _ _ _ _ sS (@slx _ _ _ _ _ _ _ (ag cs.c207 hr (sai 0 (@af _ _ _ _ _ _ _ (sM 1) (@af _ _ _ _ _ _ _ (sM 3) sa0 (by intro _ z; cases z) (by rfl)) (by intro _ z; cases z) (by rfl)))) sl0 (by rfl)) (by rfl))))) ss0)
    (@ssc _ _ _ _ _ _ _ _ (zIf (tW (dh (aS hr (sV 6) sI) (wA1 (aS hr (@aq _ _ _ _ _ _ _ _ _ (@aq _ _ _ _ _ _ _ _ _ (sV 3) sI (by intro _ _; rfl)) sI (by intro _ _; rfl)) sS)))) (@ssc _ _ _ _ _ _ _ _ (@ak _ _ _ _ _ _ _ 9 _ _ _ _ S.nd (ag cs.c207 hr (sai 0 (@af _ _ _ _ _ _ _ (sV 1) (@af _ _ _ _ _ _ _ (@aq _ _ _ _ _ _ _ _ _ (sV 3) sI (by intro _ _; rfl)) sa0 (by intro _ z; cases z) (by rfl)) (by intro _ z; cases z) (by rfl)))) (by decide) (by rfl) (by rfl) (by first | exact a0r rfl | exact a0n rfl) (by rfl) (by first | exact .inl rfl | exact .inr rfl))
     (ss1 (aE (@sTx _ _ _ _ _ _ _ (by decide) (@slx _ _ _ _ _ _ _ sS (@slx _ _ _ _ _ _ _ (sM 9) (@slx _ _ _ _ _ _ _ (ag cs.c207 hr (sai 0 (@af _ _ _ _ _ _ _ (sM 1) (@af _ _ _ _ _ _ _ (@sTx _ _ _ _ _ _ _ (by decide) (@slx _ _ _ _ _ _ _ sS (@slx _ _ _ _ _ _ _ (@sTx _ _ _ _ _ _ _ (by decide) (@slx _ _ _ _ _ _ _ sS sl0 (by rfl))) sl0 (by rfl)) (by rfl))) sa0 (by intro _ z; cases z) (by rfl)) (by intro _ z; cases z) (by rfl)))) sl0 (by rfl)) (by rfl)) (by rfl)))))) ss0)
    (@ssc _ _ _ _ _ _ _ _ (zIf (aS hr (sV 6) sI) (ss1 (aE (@sTx _ _ _ _ _ _ _ (by decide) (@slx _ _ _ _ _ _ _ sS (@slx _ _ _ _ _ _ _ (ag cs.c207 hr (sai 0 (@af _ _ _ _ _ _ _ (sV 1) (@af _ _ _ _ _ _ _ (sM 3) sa0 (by intro _ z; cases z) (by rfl)) (by intro _ z; cases z) (by rfl)))) (@slx _ _ _ _ _ _ _ (ag cs.c207 hr (sai 0 (@af _ _ _ _ _ _ _ (sV 1) (@af _ _ _ _ _ _ _ (@sTx _ _ _ _ _ _ _ (by decide) (@slx _ _ _ _ _ _ _ sS (@slx _ _ _ _ _ _ _ (@sTx _ _ _ _ _ _ _ (by decide) (@slx _ _ _ _ _ _ _ sS sl0 (by rfl))) sl0 (by rfl)) (by rfl))) sa0 (by intro _ z; cases z) (by rfl)) (by intro _ z; cases z) (by rfl)))) sl0 (by rfl)) (by rfl)) (by rfl))))) ss0)
    (@ssc _ _ _ _ _ _ _ _ (zIf (tW (dh (aS hr (sV 6) sI) (wA1 (mx hr (@aq _ _ _ _ _ _ _ _ _ (@aq _ _ _ _ _ _ _ _ _ (sV 3) sI (by intro _ _; rfl)) sI (by intro _ _; rfl)) sS)))) (ss1 (aE (@sTx _ _ _ _ _ _ _ (by decide) (@slx _ _ _ _ _ _ _ sS (@slx _ _ _ _ _ _ _ (ag cs.c207 hr (sai 0 (@af _ _ _ _ _ _ _ (sM 1) (@af _ _ _ _ _ _ _ (@sTx _ _ _ _ _ _ _ (by decide) (@slx _ _ _ _ _ _ _ sS (@slx _ _ _ _ _ _ _ (sM 3) sl0 (by rfl)) (by rfl))) sa0 (by intro _ z; cases z) (by rfl)) (by intro _ z; cases z) (by rfl)))) sl0 (by rfl)) (by rfl))))) ss0)
    (@ssc _ _ _ _ _ _ _ _ (zIf (aS hr (sV 6) sI) (ss1 (aE (@sTx _ _ _ _ _ _ _ (by decide) (@slx _ _ _ _ _ _ _ sS (@slx _ _ _ _ _ _ _ (ag cs.c209 hr (sai 0 (@af _ _ _ _ _ _ _ (sM 1) (@af _ _ _ _ _ _ _ (sM 2) (@af _ _ _ _ _ _ _ (@aq _ _ _ _ _ _ _ _ _ (sM 3) sI (by intro _ _; rfl)) (@af _ _ _ _ _ _ _ (cm (sM 4) sI) (@af _ _ _ _ _ _ _ (sM 5) sa0 (by intro _ z; cases z) (by rfl)) (by intro _ z; cases z) (by rfl)) (by intro _ z; cases z) (by rfl)) (by intro _ z; cases z) (by rfl)) (by intro _ z; cases z) (by rfl)))) sl0 (by rfl)) (by rfl))))) ss0)
    (ss1 (aE (ag cs.c207 hr (sai 0 (@af _ _ _ _ _ _ _ (sM 1) (@af _ _ _ _ _ _ _ (sM 3) sa0 (by intro _ z; cases z) (by rfl)) (by intro _ z; cases z) (by rfl)))))))))))))
theorem xW:au ["_law_tape_here","_law_env","_law_names_here","_law_kind_here","_law_room","_law_deep","_law_x","_law_hidden","_law_tree","_law_told","_law_sure","_law_truth","_law_other","_law_some","_law_y","_law_two","_law_row"] ["_law_tape_here","_law_env","_law_names_here","_law_kind_here","_law_room","_law_deep"] (defScope nJ):=fsc
theorem zL:DD "_law_turnable" nJ ["_law_tape_here","_law_env","_law_names_here","_law_kind_here","_law_room","_law_deep","_law_x","_law_hidden","_law_tree","_law_told","_law_sure","_law_truth","_law_other","_law_some","_law_y","_law_two","_law_row"] f_law_turnable:=fun {_ _ _ _ _ _ _ _ _ _ _ s _ _} cs T G hr =>
 have S:=xW
 (@ssc _ _ _ _ _ _ _ _ (@ak _ _ _ _ _ _ _ 6 _ _ _ _ S.nd (@aq _ _ _ _ _ _ _ _ _ (sV 2) (dv (hm:=T.len) (ha:=(sV 1))) (by intro _ _; rfl)) (by decide) (by rfl) (by rfl) (by first | exact a0r rfl | exact a0n rfl) (by rfl) (by first | exact .inl rfl | exact .inr rfl))
    (@ssc _ _ _ _ _ _ _ _ (@ak _ _ _ _ _ _ _ 7 _ _ _ _ S.nd (aZ (sV 1) (@sLx _ _ _ _ _ _ _ (by decide) (@slx _ _ _ _ _ _ _ (@sTx _ _ _ _ _ _ _ (by decide) (@slx _ _ _ _ _ _ _ (sV 6) (@slx _ _ _ _ _ _ _ sN sl0 (by rfl)) (by rfl))) sl0 (by rfl)))) (by decide) (by rfl) (by rfl) (by first | exact a0r rfl | exact a0n rfl) (by rfl) (by first | exact .inl rfl | exact .inr rfl))
    (@ssc _ _ _ _ _ _ _ _ (@ak _ _ _ _ _ _ _ 8 _ _ _ _ S.nd (ag cs.c209 hr (sai 0 (@af _ _ _ _ _ _ _ (sV 7) (@af _ _ _ _ _ _ _ (sV 2) (@af _ _ _ _ _ _ _ (sV 3) (@af _ _ _ _ _ _ _ (cm (sV 4) sI) (@af _ _ _ _ _ _ _ (zD (hm:=T.max) (ha:=sI) (hb:=(gg (sV 5) sI))) sa0 (by intro _ z; cases z) (by rfl)) (by intro _ z; cases z) (by rfl)) (by intro _ z; cases z) (by rfl)) (by intro _ z; cases z) (by rfl)) (by intro _ z; cases z) (by rfl)))) (by decide) (by rfl) (by rfl) (by first | exact a0r rfl | exact a0n rfl) (by rfl) (by first | exact .inl rfl | exact .inr rfl))
    (@ssc _ _ _ _ _ _ _ _ (@ak _ _ _ _ _ _ _ 9 _ _ _ _ S.nd (ag cs.c203 hr (sai 0 sa0)) (by decide) (by rfl) (by rfl) (by first | exact a0r rfl | exact a0n rfl) (by rfl) (by first | exact .inl rfl | exact .inr rfl))
    (@ssc _ _ _ _ _ _ _ _ (@ak _ _ _ _ _ _ _ 10 _ _ _ _ S.nd (ag cs.c206 hr (sai 0 (@af _ _ _ _ _ _ _ (sV 1) (@af _ _ _ _ _ _ _ (sV 9) sa0 (by intro _ z; cases z) (by rfl)) (by intro _ z; cases z) (by rfl)))) (by decide) (by rfl) (by rfl) (by first | exact a0r rfl | exact a0n rfl) (by rfl) (by first | exact .inl rfl | exact .inr rfl))
    (@ssc _ _ _ _ _ _ _ _ (@ak _ _ _ _ _ _ _ 11 _ _ _ _ S.nd (ag cs.c206 hr (sai 0 (@af _ _ _ _ _ _ _ (sV 1) (@af _ _ _ _ _ _ _ (@sTx _ _ _ _ _ _ _ (by decide) (@slx _ _ _ _ _ _ _ sS sl0 (by rfl))) sa0 (by intro _ z; cases z) (by rfl)) (by intro _ z; cases z) (by rfl)))) (by decide) (by rfl) (by rfl) (by first | exact a0r rfl | exact a0n rfl) (by rfl) (by first | exact .inl rfl | exact .inr rfl))
    (@ssc _ _ _ _ _ _ _ _ (@ak _ _ _ _ _ _ _ 12 _ _ _ _ S.nd (ag cs.c206 hr (sai 0 (@af _ _ _ _ _ _ _ (sV 1) (@af _ _ _ _ _ _ _ (sV 3) sa0 (by intro _ z; cases z) (by rfl)) (by intro _ z; cases z) (by rfl)))) (by decide) (by rfl) (by rfl) (by first | exact a0r rfl | exact a0n rfl) (by rfl) (by first | exact .inl rfl | exact .inr rfl))
    (@ssc _ _ _ _ _ _ _ _ (@ak _ _ _ _ _ _ _ 13 _ _ _ _ S.nd (@sLx _ _ _ _ _ _ _ (by decide) (@slx _ _ _ _ _ _ _ (@sTx _ _ _ _ _ _ _ (by decide) (@slx _ _ _ _ _ _ _ sS (@slx _ _ _ _ _ _ _ (sV 6) (@slx _ _ _ _ _ _ _ (sV 10) (@slx _ _ _ _ _ _ _ (sV 8) sl0 (by rfl)) (by rfl)) (by rfl)) (by rfl))) (@slx _ _ _ _ _ _ _ (@sTx _ _ _ _ _ _ _ (by decide) (@slx _ _ _ _ _ _ _ sS (@slx _ _ _ _ _ _ _ (@aq _ _ _ _ _ _ _ _ _ (@sLx _ _ _ _ _ _ _ (by decide) (@slx _ _ _ _ _ _ _ (@sTx _ _ _ _ _ _ _ (by decide) (@slx _ _ _ _ _ _ _ sS sl0 (by rfl))) (@slx _ _ _ _ _ _ _ (@sTx _ _ _ _ _ _ _ (by decide) (@slx _ _ _ _ _ _ _ sS sl0 (by rfl))) sl0 (by rfl)) (by rfl))) (ag cs.c201 hr (sai 0 (@af _ _ _ _ _ _ _ sI sa0 (by intro _ z; cases z) (by rfl)))) (by intro _ _; rfl)) (@slx _ _ _ _ _ _ _ (sV 8) (@slx _ _ _ _ _ _ _ (sV 12) sl0 (by rfl)) (by rfl)) (by rfl)) (by rfl))) (@slx _ _ _ _ _ _ _ (@sTx _ _ _ _ _ _ _ (by decide) (@slx _ _ _ _ _ _ _ sS (@slx _ _ _ _ _ _ _ (sV 11) (@slx _ _ _ _ _ _ _ (sV 8) (@slx _ _ _ _ _ _ _ (sV 8) sl0 (by rfl)) (by rfl)) (by rfl)) (by rfl))) sl0 (by rfl)) (by rfl)) (by rfl))) (by decide) (by rfl) (by rfl) (by first | exact a0r rfl | exact a0n rfl) (by rfl) (by first | exact .inl rfl | exact .inr rfl))
    (@ssc _ _ _ _ _ _ _ _ (@ak _ _ _ _ _ _ _ 13 _ _ _ _ S.nd (aZ (sV 13) (@sLx _ _ _ _ _ _ _ (by decide) (@slx _ _ _ _ _ _ _ (@sTx _ _ _ _ _ _ _ (by decide) (@slx _ _ _ _ _ _ _ sS (@slx _ _ _ _ _ _ _ (@sTx _ _ _ _ _ _ _ (by decide) (@slx _ _ _ _ _ _ _ sS (@slx _ _ _ _ _ _ _ (sV 11) sl0 (by rfl)) (by rfl))) (@slx _ _ _ _ _ _ _ (sV 8) (@slx _ _ _ _ _ _ _ (sV 12) sl0 (by rfl)) (by rfl)) (by rfl)) (by rfl))) (@slx _ _ _ _ _ _ _ (@sTx _ _ _ _ _ _ _ (by decide) (@slx _ _ _ _ _ _ _ sS (@slx _ _ _ _ _ _ _ (@sTx _ _ _ _ _ _ _ (by decide) (@slx _ _ _ _ _ _ _ sS (@slx _ _ _ _ _ _ _ (sV 8) (@slx _ _ _ _ _ _ _ (sV 10) sl0 (by rfl)) (by rfl)) (by rfl))) sl0 (by rfl)) (by rfl))) (@slx _ _ _ _ _ _ _ (@sTx _ _ _ _ _ _ _ (by decide) (@slx _ _ _ _ _ _ _ sS (@slx _ _ _ _ _ _ _ (@sTx _ _ _ _ _ _ _ (by decide) (@slx _ _ _ _ _ _ _ sS (@slx _ _ _ _ _ _ _ (sV 10) (@slx _ _ _ _ _ _ _ (sV 8) sl0 (by rfl)) (by rfl)) (by rfl))) sl0 (by rfl)) (by rfl))) sl0 (by rfl)) (by rfl)) (by rfl)))) (by decide) (by rfl) (by rfl) (by first | exact a0r rfl | exact a0n rfl) (by rfl) (by first | exact .inl rfl | exact .inr rfl))
    (@ssc _ _ _ _ _ _ _ _ (@ak _ _ _ _ _ _ _ 13 _ _ _ _ S.nd (aZ (sV 13) (@sLx _ _ _ _ _ _ _ (by decide) (@slx _ _ _ _ _ _ _ (@sTx _ _ _ _ _ _ _ (by decide) (@slx _ _ _ _ _ _ _ sS (@slx _ _ _ _ _ _ _ (@sTx _ _ _ _ _ _ _ (by decide) (@slx _ _ _ _ _ _ _ sS (@slx _ _ _ _ _ _ _ (sV 8) sl0 (by rfl)) (by rfl))) (@slx _ _ _ _ _ _ _ (@sTx _ _ _ _ _ _ _ (by decide) (@slx _ _ _ _ _ _ _ sS (@slx _ _ _ _ _ _ _ sI sl0 (by rfl)) (by rfl))) sl0 (by rfl)) (by rfl)) (by rfl))) (@slx _ _ _ _ _ _ _ (@sTx _ _ _ _ _ _ _ (by decide) (@slx _ _ _ _ _ _ _ sS (@slx _ _ _ _ _ _ _ (sV 6) (@slx _ _ _ _ _ _ _ (@sTx _ _ _ _ _ _ _ (by decide) (@slx _ _ _ _ _ _ _ sS (@slx _ _ _ _ _ _ _ sI sl0 (by rfl)) (by rfl))) (@slx _ _ _ _ _ _ _ (sV 12) (@slx _ _ _ _ _ _ _ (sV 8) sl0 (by rfl)) (by rfl)) (by rfl)) (by rfl)) (by rfl))) sl0 (by rfl)) (by rfl)))) (by decide) (by rfl) (by rfl) (by first | exact a0r rfl | exact a0n rfl) (by rfl) (by first | exact .inl rfl | exact .inr rfl))
    (@ssc _ _ _ _ _ _ _ _ (@ak _ _ _ _ _ _ _ 14 _ _ _ _ S.nd (ag cs.c205 hr (sai 0 (@af _ _ _ _ _ _ _ (sV 1) (@af _ _ _ _ _ _ _ (sV 3) sa0 (by intro _ z; cases z) (by rfl)) (by intro _ z; cases z) (by rfl)))) (by decide) (by rfl) (by rfl) (by first | exact a0r rfl | exact a0n rfl) (by rfl) (by first | exact .inl rfl | exact .inr rfl))
    (@ssc _ _ _ _ _ _ _ _ (zIf (ub (sV 14) sN) (ss1 (ng 13 (@sTx _ _ _ _ _ _ _ (by decide) (@slx _ _ _ _ _ _ _ sS (@slx _ _ _ _ _ _ _ (sV 6) (@slx _ _ _ _ _ _ _ (sV 14) (@slx _ _ _ _ _ _ _ (@sTx _ _ _ _ _ _ _ (by decide) (@slx _ _ _ _ _ _ _ sS (@slx _ _ _ _ _ _ _ (sV 11) (@slx _ _ _ _ _ _ _ (@sTx _ _ _ _ _ _ _ (by decide) (@slx _ _ _ _ _ _ _ sS (@slx _ _ _ _ _ _ _ (sV 6) sl0 (by rfl)) (by rfl))) (@slx _ _ _ _ _ _ _ (sV 8) sl0 (by rfl)) (by rfl)) (by rfl)) (by rfl))) sl0 (by rfl)) (by rfl)) (by rfl)) (by rfl))))) ss0)
    (@ssc _ _ _ _ _ _ _ _ (zIf (aS hr (@aq _ _ _ _ _ _ _ _ _ (sV 3) sI (by intro _ _; rfl)) sS) (ss1 (aE (ag cs.c213 hr (sai 0 (@af _ _ _ _ _ _ _ (sM 1) (@af _ _ _ _ _ _ _ (sM 2) (@af _ _ _ _ _ _ _ (sM 3) (@af _ _ _ _ _ _ _ (sM 8) (@af _ _ _ _ _ _ _ (sM 13) sa0 (by intro _ z; cases z) (by rfl)) (by intro _ z; cases z) (by rfl)) (by intro _ z; cases z) (by rfl)) (by intro _ z; cases z) (by rfl)) (by intro _ z; cases z) (by rfl)))))) ss0)
    (@ssc _ _ _ _ _ _ _ _ (zIf (aS hr (sV 3) (@sTx _ _ _ _ _ _ _ (by decide) (@slx _ _ _ _ _ _ _ sS sl0 (by rfl)))) (@ssc _ _ _ _ _ _ _ _ (@ak _ _ _ _ _ _ _ 15 _ _ _ _ S.nd (@sTx _ _ _ _ _ _ _ (by decide) (@slx _ _ _ _ _ _ _ sS (@slx _ _ _ _ _ _ _ (ag cs.c201 hr (sai 0 (@af _ _ _ _ _ _ _ sI sa0 (by intro _ z; cases z) (by rfl)))) sl0 (by rfl)) (by rfl))) (by decide) (by rfl) (by rfl) (by first | exact a0r rfl | exact a0n rfl) (by rfl) (by first | exact .inl rfl | exact .inr rfl))
     (@ssc _ _ _ _ _ _ _ _ (@ak _ _ _ _ _ _ _ 16 _ _ _ _ S.nd (ag cs.c207 hr (sai 0 (@af _ _ _ _ _ _ _ (sV 1) (@af _ _ _ _ _ _ _ (@sTx _ _ _ _ _ _ _ (by decide) (@slx _ _ _ _ _ _ _ sS (@slx _ _ _ _ _ _ _ (@sTx _ _ _ _ _ _ _ (by decide) (@slx _ _ _ _ _ _ _ sS sl0 (by rfl))) sl0 (by rfl)) (by rfl))) sa0 (by intro _ z; cases z) (by rfl)) (by intro _ z; cases z) (by rfl)))) (by decide) (by rfl) (by rfl) (by first | exact a0r rfl | exact a0n rfl) (by rfl) (by first | exact .inl rfl | exact .inr rfl))
     (@ssc _ _ _ _ _ _ _ _ (@ak _ _ _ _ _ _ _ 13 _ _ _ _ S.nd (aZ (sV 13) (@sLx _ _ _ _ _ _ _ (by decide) (@slx _ _ _ _ _ _ _ (@sTx _ _ _ _ _ _ _ (by decide) (@slx _ _ _ _ _ _ _ sS (@slx _ _ _ _ _ _ _ (sV 8) (@slx _ _ _ _ _ _ _ (@sTx _ _ _ _ _ _ _ (by decide) (@slx _ _ _ _ _ _ _ sS (@slx _ _ _ _ _ _ _ sI sl0 (by rfl)) (by rfl))) sl0 (by rfl)) (by rfl)) (by rfl))) (@slx _ _ _ _ _ _ _ (@sTx _ _ _ _ _ _ _ (by decide) (@slx _ _ _ _ _ _ _ sS (@slx _ _ _ _ _ _ _ (@sTx _ _ _ _ _ _ _ (by decide) (@slx _ _ _ _ _ _ _ sS (@slx _ _ _ _ _ _ _ sI sl0 (by rfl)) (by rfl))) (@slx _ _ _ _ _ _ _ (sV 8) sl0 (by rfl)) (by rfl)) (by rfl))) (@slx _ _ _ _ _ _ _ (@sTx _ _ _ _ _ _ _ (by decide) (@slx _ _ _ _ _ _ _ sS (@slx _ _ _ _ _ _ _ (@sTx _ _ _ _ _ _ _ (by decide) (@slx _ _ _ _ _ _ _ sS (@slx _ _ _ _ _ _ _ sI sl0 (by rfl)) (by rfl))) (@slx _ _ _ _ _ _ _ (sV 15) sl0 (by rfl)) (by rfl)) (by rfl))) (@slx _ _ _ _ _ _ _ (@sTx _ _ _ _ _ _ _ (by decide) (@slx _ _ _ _ _ _ _ sS (@slx _ _ _ _ _ _ _ (sV 8) (@slx _ _ _ _ _ _ _ (sV 8) sl0 (by rfl)) (by rfl)) (by rfl))) sl0 (by rfl)) (by rfl)) (by rfl)) (by rfl)))) (by decide) (by rfl) (by rfl) (by first | exact a0r rfl | exact a0n rfl) (by rfl) (by first | exact .inl rfl | exact .inr rfl))
     (ss1 (@ak _ _ _ _ _ _ _ 13 _ _ _ _ S.nd (aZ (sV 13) (@sLx _ _ _ _ _ _ _ (by decide) (@slx _ _ _ _ _ _ _ (@sTx _ _ _ _ _ _ _ (by decide) (@slx _ _ _ _ _ _ _ sS (@slx _ _ _ _ _ _ _ (@sTx _ _ _ _ _ _ _ (by decide) (@slx _ _ _ _ _ _ _ sS (@slx _ _ _ _ _ _ _ (sV 6) (@slx _ _ _ _ _ _ _ (sV 16) (@slx _ _ _ _ _ _ _ (sV 10) sl0 (by rfl)) (by rfl)) (by rfl)) (by rfl))) sl0 (by rfl)) (by rfl))) (@slx _ _ _ _ _ _ _ (@sTx _ _ _ _ _ _ _ (by decide) (@slx _ _ _ _ _ _ _ sS (@slx _ _ _ _ _ _ _ (@sTx _ _ _ _ _ _ _ (by decide) (@slx _ _ _ _ _ _ _ sS (@slx _ _ _ _ _ _ _ (sV 6) (@slx _ _ _ _ _ _ _ (sV 16) (@slx _ _ _ _ _ _ _ (@sTx _ _ _ _ _ _ _ (by decide) (@slx _ _ _ _ _ _ _ sS (@slx _ _ _ _ _ _ _ (sV 6) sl0 (by rfl)) (by rfl))) sl0 (by rfl)) (by rfl)) (by rfl)) (by rfl))) (@slx _ _ _ _ _ _ _ (sV 15) sl0 (by rfl)) (by rfl)) (by rfl))) (@slx _ _ _ _ _ _ _ (@sTx _ _ _ _ _ _ _ (by decide) (@slx _ _ _ _ _ _ _ sS (@slx _ _ _ _ _ _ _ (sV 8) (@slx _ _ _ _ _ _ _ (@sTx _ _ _ _ _ _ _ (by decide) (@slx _ _ _ _ _ _ _ sS (@slx _ _ _ _ _ _ _ sI sl0 (by rfl)) (by rfl))) sl0 (by rfl)) (by rfl)) (by rfl))) sl0 (by rfl)) (by rfl)) (by rfl)))) (by decide) (by rfl) (by rfl) (by first | exact a0r rfl | exact a0n rfl) (by rfl) (by first | exact .inl rfl | exact .inr rfl)))))) ss0)
    (@ssc _ _ _ _ _ _ _ _ (zIf (aS hr (sV 3) (@sTx _ _ _ _ _ _ _ (by decide) (@slx _ _ _ _ _ _ _ sS sl0 (by rfl)))) (ss1 (@ak _ _ _ _ _ _ _ 13 _ _ _ _ S.nd (aZ (sV 13) (@sLx _ _ _ _ _ _ _ (by decide) (@slx _ _ _ _ _ _ _ (@sTx _ _ _ _ _ _ _ (by decide) (@slx _ _ _ _ _ _ _ sS (@slx _ _ _ _ _ _ _ (@sTx _ _ _ _ _ _ _ (by decide) (@slx _ _ _ _ _ _ _ sS sl0 (by rfl))) (@slx _ _ _ _ _ _ _ (sV 8) sl0 (by rfl)) (by rfl)) (by rfl))) (@slx _ _ _ _ _ _ _ (@sTx _ _ _ _ _ _ _ (by decide) (@slx _ _ _ _ _ _ _ sS (@slx _ _ _ _ _ _ _ (sV 8) (@slx _ _ _ _ _ _ _ (@sTx _ _ _ _ _ _ _ (by decide) (@slx _ _ _ _ _ _ _ sS sl0 (by rfl))) sl0 (by rfl)) (by rfl)) (by rfl))) (@slx _ _ _ _ _ _ _ (@sTx _ _ _ _ _ _ _ (by decide) (@slx _ _ _ _ _ _ _ sS (@slx _ _ _ _ _ _ _ (@sTx _ _ _ _ _ _ _ (by decide) (@slx _ _ _ _ _ _ _ sS (@slx _ _ _ _ _ _ _ (sV 8) sl0 (by rfl)) (by rfl))) sl0 (by rfl)) (by rfl))) (@slx _ _ _ _ _ _ _ (@sTx _ _ _ _ _ _ _ (by decide) (@slx _ _ _ _ _ _ _ sS (@slx _ _ _ _ _ _ _ (sV 8) (@slx _ _ _ _ _ _ _ (sV 8) sl0 (by rfl)) (by rfl)) (by rfl))) sl0 (by rfl)) (by rfl)) (by rfl)) (by rfl)))) (by decide) (by rfl) (by rfl) (by first | exact a0r rfl | exact a0n rfl) (by rfl) (by first | exact .inl rfl | exact .inr rfl))) ss0)
    (ss1 (aE (@aq _ _ _ _ _ _ _ _ _ (sV 13) (ag cs.c201 hr (sai 0 (@af _ _ _ _ _ _ _ (dv (hm:=T.len) (ha:=(sV 13))) sa0 (by intro _ z; cases z) (by rfl)))) (by intro _ _; rfl)))))))))))))))))))
theorem xJ:au ["_law_tape_here","_law_env","_law_names_here","_law_kind_here","_law_tree","_law_some","_law_x","_law_y","_law_told","_law_row","_law_thing","_law_again","_law_made","_law_last","_law_more"] ["_law_tape_here","_law_env","_law_names_here","_law_kind_here","_law_tree","_law_some"] (defScope nq):=fsc
theorem AW:DD "_law_turnable_row" nq ["_law_tape_here","_law_env","_law_names_here","_law_kind_here","_law_tree","_law_some","_law_x","_law_y","_law_told","_law_row","_law_thing","_law_again","_law_made","_law_last","_law_more"] f_law_turnable_row:=fun {_ _ _ _ _ _ _ _ _ _ _ s _ _} cs T G hr =>
 have S:=xJ
 (@ssc _ _ _ _ _ _ _ _ (@ak _ _ _ _ _ _ _ 6 _ _ _ _ S.nd (@aq _ _ _ _ _ _ _ _ _ (sV 2) (dv (hm:=T.len) (ha:=(sV 1))) (by intro _ _; rfl)) (by decide) (by rfl) (by rfl) (by first | exact a0r rfl | exact a0n rfl) (by rfl) (by first | exact .inl rfl | exact .inr rfl))
    (@ssc _ _ _ _ _ _ _ _ (@ak _ _ _ _ _ _ _ 7 _ _ _ _ S.nd (@aq _ _ _ _ _ _ _ _ _ (sV 2) (aZ (dv (hm:=T.len) (ha:=(sV 1))) sI) (by intro _ _; rfl)) (by decide) (by rfl) (by rfl) (by first | exact a0r rfl | exact a0n rfl) (by rfl) (by first | exact .inl rfl | exact .inr rfl))
    (@ssc _ _ _ _ _ _ _ _ (@ak _ _ _ _ _ _ _ 8 _ _ _ _ S.nd (@aq _ _ _ _ _ _ _ _ _ (@sLx _ _ _ _ _ _ _ (by decide) (@slx _ _ _ _ _ _ _ (@sTx _ _ _ _ _ _ _ (by decide) (@slx _ _ _ _ _ _ _ sS sl0 (by rfl))) (@slx _ _ _ _ _ _ _ (@sTx _ _ _ _ _ _ _ (by decide) (@slx _ _ _ _ _ _ _ sS sl0 (by rfl))) (@slx _ _ _ _ _ _ _ (@sTx _ _ _ _ _ _ _ (by decide) (@slx _ _ _ _ _ _ _ sS (@slx _ _ _ _ _ _ _ (@sTx _ _ _ _ _ _ _ (by decide) (@slx _ _ _ _ _ _ _ sS sl0 (by rfl))) sl0 (by rfl)) (by rfl))) sl0 (by rfl)) (by rfl)) (by rfl))) (ag cs.c201 hr (sai 0 (@af _ _ _ _ _ _ _ sI sa0 (by intro _ z; cases z) (by rfl)))) (by intro _ _; rfl)) (by decide) (by rfl) (by rfl) (by first | exact a0r rfl | exact a0n rfl) (by rfl) (by first | exact .inl rfl | exact .inr rfl))
    (@ssc _ _ _ _ _ _ _ _ (@ak _ _ _ _ _ _ _ 9 _ _ _ _ S.nd (ag cs.c207 hr (sai 0 (@af _ _ _ _ _ _ _ (sV 1) (@af _ _ _ _ _ _ _ (@sTx _ _ _ _ _ _ _ (by decide) (@slx _ _ _ _ _ _ _ sS (@slx _ _ _ _ _ _ _ (sV 8) sl0 (by rfl)) (by rfl))) sa0 (by intro _ z; cases z) (by rfl)) (by intro _ z; cases z) (by rfl)))) (by decide) (by rfl) (by rfl) (by first | exact a0r rfl | exact a0n rfl) (by rfl) (by first | exact .inl rfl | exact .inr rfl))
    (@ssc _ _ _ _ _ _ _ _ (@ak _ _ _ _ _ _ _ 10 _ _ _ _ S.nd (ag cs.c206 hr (sai 0 (@af _ _ _ _ _ _ _ (aZ (sV 1) (@sLx _ _ _ _ _ _ _ (by decide) (@slx _ _ _ _ _ _ _ (@sTx _ _ _ _ _ _ _ (by decide) (@slx _ _ _ _ _ _ _ (sV 6) (@slx _ _ _ _ _ _ _ (sV 8) sl0 (by rfl)) (by rfl))) sl0 (by rfl)))) (@af _ _ _ _ _ _ _ (@aq _ _ _ _ _ _ _ _ _ (sV 3) sI (by intro _ _; rfl)) sa0 (by intro _ z; cases z) (by rfl)) (by intro _ z; cases z) (by rfl)))) (by decide) (by rfl) (by rfl) (by first | exact a0r rfl | exact a0n rfl) (by rfl) (by first | exact .inl rfl | exact .inr rfl))
    (@ssc _ _ _ _ _ _ _ _ (@ak _ _ _ _ _ _ _ 11 _ _ _ _ S.nd (@sTx _ _ _ _ _ _ _ (by decide) (@slx _ _ _ _ _ _ _ sS (@slx _ _ _ _ _ _ _ (ag cs.c206 hr (sai 0 (@af _ _ _ _ _ _ _ (sV 1) (@af _ _ _ _ _ _ _ (@aq _ _ _ _ _ _ _ _ _ (sV 3) sI (by intro _ _; rfl)) sa0 (by intro _ z; cases z) (by rfl)) (by intro _ z; cases z) (by rfl)))) sl0 (by rfl)) (by rfl))) (by decide) (by rfl) (by rfl) (by first | exact a0r rfl | exact a0n rfl) (by rfl) (by first | exact .inl rfl | exact .inr rfl))
    (@ssc _ _ _ _ _ _ _ _ (@ak _ _ _ _ _ _ _ 12 _ _ _ _ S.nd (ag cs.c206 hr (sai 0 (@af _ _ _ _ _ _ _ (aZ (sV 1) (@sLx _ _ _ _ _ _ _ (by decide) (@slx _ _ _ _ _ _ _ (@sTx _ _ _ _ _ _ _ (by decide) (@slx _ _ _ _ _ _ _ (sV 7) (@slx _ _ _ _ _ _ _ (sV 8) sl0 (by rfl)) (by rfl))) sl0 (by rfl)))) (@af _ _ _ _ _ _ _ (@sTx _ _ _ _ _ _ _ (by decide) (@slx _ _ _ _ _ _ _ sS sl0 (by rfl))) sa0 (by intro _ z; cases z) (by rfl)) (by intro _ z; cases z) (by rfl)))) (by decide) (by rfl) (by rfl) (by first | exact a0r rfl | exact a0n rfl) (by rfl) (by first | exact .inl rfl | exact .inr rfl))
    (@ssc _ _ _ _ _ _ _ _ (zIf (aS hr (ag cs.c201 hr (sai 0 (@af _ _ _ _ _ _ _ sI sa0 (by intro _ z; cases z) (by rfl)))) sI) (ss1 (@ak _ _ _ _ _ _ _ 12 _ _ _ _ S.nd (@sTx _ _ _ _ _ _ _ (by decide) (@slx _ _ _ _ _ _ _ sS (@slx _ _ _ _ _ _ _ (sV 12) (@slx _ _ _ _ _ _ _ (ag cs.c206 hr (sai 0 (@af _ _ _ _ _ _ _ (aZ (sV 1) (@sLx _ _ _ _ _ _ _ (by decide) (@slx _ _ _ _ _ _ _ (@sTx _ _ _ _ _ _ _ (by decide) (@slx _ _ _ _ _ _ _ (sV 7) (@slx _ _ _ _ _ _ _ (sV 8) sl0 (by rfl)) (by rfl))) sl0 (by rfl)))) (@af _ _ _ _ _ _ _ (@sTx _ _ _ _ _ _ _ (by decide) (@slx _ _ _ _ _ _ _ sS sl0 (by rfl))) sa0 (by intro _ z; cases z) (by rfl)) (by intro _ z; cases z) (by rfl)))) sl0 (by rfl)) (by rfl)) (by rfl))) (by decide) (by rfl) (by rfl) (by first | exact a0r rfl | exact a0n rfl) (by rfl) (by first | exact .inl rfl | exact .inr rfl))) ss0)
    (@ssc _ _ _ _ _ _ _ _ (@ak _ _ _ _ _ _ _ 13 _ _ _ _ S.nd (ag cs.c206 hr (sai 0 (@af _ _ _ _ _ _ _ (aZ (sV 1) (@sLx _ _ _ _ _ _ _ (by decide) (@slx _ _ _ _ _ _ _ (@sTx _ _ _ _ _ _ _ (by decide) (@slx _ _ _ _ _ _ _ (sV 6) (@slx _ _ _ _ _ _ _ (@sTx _ _ _ _ _ _ _ (by decide) (@slx _ _ _ _ _ _ _ sS sl0 (by rfl))) sl0 (by rfl)) (by rfl))) sl0 (by rfl)))) (@af _ _ _ _ _ _ _ (@aq _ _ _ _ _ _ _ _ _ (sV 3) sI (by intro _ _; rfl)) sa0 (by intro _ z; cases z) (by rfl)) (by intro _ z; cases z) (by rfl)))) (by decide) (by rfl) (by rfl) (by first | exact a0r rfl | exact a0n rfl) (by rfl) (by first | exact .inl rfl | exact .inr rfl))
    (@ssc _ _ _ _ _ _ _ _ (@ak _ _ _ _ _ _ _ 14 _ _ _ _ S.nd (@sLx _ _ _ _ _ _ _ (by decide) (@slx _ _ _ _ _ _ _ (@sTx _ _ _ _ _ _ _ (by decide) (@slx _ _ _ _ _ _ _ sS (@slx _ _ _ _ _ _ _ (@sTx _ _ _ _ _ _ _ (by decide) (@slx _ _ _ _ _ _ _ sS (@slx _ _ _ _ _ _ _ (@aq _ _ _ _ _ _ _ _ _ (sV 3) sI (by intro _ _; rfl)) sl0 (by rfl)) (by rfl))) (@slx _ _ _ _ _ _ _ (sV 4) sl0 (by rfl)) (by rfl)) (by rfl))) (@slx _ _ _ _ _ _ _ (@sTx _ _ _ _ _ _ _ (by decide) (@slx _ _ _ _ _ _ _ sS (@slx _ _ _ _ _ _ _ (sV 4) (@slx _ _ _ _ _ _ _ (@sTx _ _ _ _ _ _ _ (by decide) (@slx _ _ _ _ _ _ _ sS (@slx _ _ _ _ _ _ _ (@aq _ _ _ _ _ _ _ _ _ (sV 3) sI (by intro _ _; rfl)) sl0 (by rfl)) (by rfl))) sl0 (by rfl)) (by rfl)) (by rfl))) (@slx _ _ _ _ _ _ _ (@sTx _ _ _ _ _ _ _ (by decide) (@slx _ _ _ _ _ _ _ sS (@slx _ _ _ _ _ _ _ (sV 6) (@slx _ _ _ _ _ _ _ (sV 4) (@slx _ _ _ _ _ _ _ (@sTx _ _ _ _ _ _ _ (by decide) (@slx _ _ _ _ _ _ _ sS (@slx _ _ _ _ _ _ _ (sV 6) sl0 (by rfl)) (by rfl))) sl0 (by rfl)) (by rfl)) (by rfl)) (by rfl))) (@slx _ _ _ _ _ _ _ (@sTx _ _ _ _ _ _ _ (by decide) (@slx _ _ _ _ _ _ _ sS (@slx _ _ _ _ _ _ _ (sV 11) (@slx _ _ _ _ _ _ _ (sV 11) sl0 (by rfl)) (by rfl)) (by rfl))) sl0 (by rfl)) (by rfl)) (by rfl)) (by rfl))) (by decide) (by rfl) (by rfl) (by first | exact a0r rfl | exact a0n rfl) (by rfl) (by first | exact .inl rfl | exact .inr rfl))
    (@ssc _ _ _ _ _ _ _ _ (@ak _ _ _ _ _ _ _ 14 _ _ _ _ S.nd (aZ (sV 14) (@sLx _ _ _ _ _ _ _ (by decide) (@slx _ _ _ _ _ _ _ (@sTx _ _ _ _ _ _ _ (by decide) (@slx _ _ _ _ _ _ _ sS (@slx _ _ _ _ _ _ _ (@sTx _ _ _ _ _ _ _ (by decide) (@slx _ _ _ _ _ _ _ sS (@slx _ _ _ _ _ _ _ (sV 6) (@slx _ _ _ _ _ _ _ (sV 9) (@slx _ _ _ _ _ _ _ (@sTx _ _ _ _ _ _ _ (by decide) (@slx _ _ _ _ _ _ _ sS (@slx _ _ _ _ _ _ _ (sV 10) sl0 (by rfl)) (by rfl))) sl0 (by rfl)) (by rfl)) (by rfl)) (by rfl))) sl0 (by rfl)) (by rfl))) (@slx _ _ _ _ _ _ _ (@sTx _ _ _ _ _ _ _ (by decide) (@slx _ _ _ _ _ _ _ sS (@slx _ _ _ _ _ _ _ (sV 6) (@slx _ _ _ _ _ _ _ (@sTx _ _ _ _ _ _ _ (by decide) (@slx _ _ _ _ _ _ _ sS (@slx _ _ _ _ _ _ _ (sV 7) (@slx _ _ _ _ _ _ _ (sV 9) (@slx _ _ _ _ _ _ _ (sV 12) sl0 (by rfl)) (by rfl)) (by rfl)) (by rfl))) (@slx _ _ _ _ _ _ _ (sV 13) sl0 (by rfl)) (by rfl)) (by rfl)) (by rfl))) sl0 (by rfl)) (by rfl)))) (by decide) (by rfl) (by rfl) (by first | exact a0r rfl | exact a0n rfl) (by rfl) (by first | exact .inl rfl | exact .inr rfl))
    (@ssc _ _ _ _ _ _ _ _ (zIf (mx hr (@aq _ _ _ _ _ _ _ _ _ (@aq _ _ _ _ _ _ _ _ _ (sV 3) sI (by intro _ _; rfl)) sI (by intro _ _; rfl)) sS) (ss1 (ng 14 (@sTx _ _ _ _ _ _ _ (by decide) (@slx _ _ _ _ _ _ _ sS (@slx _ _ _ _ _ _ _ (@sTx _ _ _ _ _ _ _ (by decide) (@slx _ _ _ _ _ _ _ sS (@slx _ _ _ _ _ _ _ (sV 4) sl0 (by rfl)) (by rfl))) sl0 (by rfl)) (by rfl))))) ss0)
    (@ssc _ _ _ _ _ _ _ _ (@ak _ _ _ _ _ _ _ 14 _ _ _ _ S.nd (aZ (sV 14) (sV 5)) (by decide) (by rfl) (by rfl) (by first | exact a0r rfl | exact a0n rfl) (by rfl) (by first | exact .inl rfl | exact .inr rfl))
    (ss1 (aE (@aq _ _ _ _ _ _ _ _ _ (sV 14) (ag cs.c201 hr (sai 0 (@af _ _ _ _ _ _ _ (dv (hm:=T.len) (ha:=(sV 14))) sa0 (by intro _ z; cases z) (by rfl)))) (by intro _ _; rfl)))))))))))))))))
theorem zB:au ["_law_tape_here","_law_room","_law_names_here","_law_heads","_law_k","_law_goal","_law_tree","_law_worths"] ["_law_tape_here","_law_room"] (defScope mN):=fsc
theorem zS:DD "_law_program" mN ["_law_tape_here","_law_room","_law_names_here","_law_heads","_law_k","_law_goal","_law_tree","_law_worths"] a6:=fun {_ _ _ _ _ _ _ _ _ _ _ s _ _} cs T G hr =>
 have S:=zB
 (@ssc _ _ _ _ _ _ _ _ (@ak _ _ _ _ _ _ _ 2 _ _ _ _ S.nd (ag cs.c202 hr (sai 0 sa0)) (by decide) (by rfl) (by rfl) (by first | exact a0r rfl | exact a0n rfl) (by rfl) (by first | exact .inl rfl | exact .inr rfl))
    (@ssc _ _ _ _ _ _ _ _ (@ak _ _ _ _ _ _ _ 3 _ _ _ _ S.nd (@sLx _ _ _ _ _ _ _ (by decide) sl0) (by decide) (by rfl) (by rfl) (by first | exact a0r rfl | exact a0n rfl) (by rfl) (by first | exact .inl rfl | exact .inr rfl))
    (@ssc _ _ _ _ _ _ _ _ (rn 4 S.nd (va (hm:=T.range) (ha:=(ag cs.c201 hr (sai 0 (@af _ _ _ _ _ _ _ sI sa0 (by intro _ z; cases z) (by rfl)))))) (ss1 (ng 3 (@sTx _ _ _ _ _ _ _ (by decide) (@slx _ _ _ _ _ _ _ (@aq _ _ _ _ _ _ _ _ _ (sV 2) (sV 4) (by intro _ _; rfl)) (@slx _ _ _ _ _ _ _ (ag cs.c203 hr (sai 0 sa0)) sl0 (by rfl)) (by rfl))))))
    (@ssc _ _ _ _ _ _ _ _ (@ak _ _ _ _ _ _ _ 5 _ _ _ _ S.nd (ag cs.c203 hr (sai 0 sa0)) (by decide) (by rfl) (by rfl) (by first | exact a0r rfl | exact a0n rfl) (by rfl) (by first | exact .inl rfl | exact .inr rfl))
    (@ssc _ _ _ _ _ _ _ _ (@ak _ _ _ _ _ _ _ 6 _ _ _ _ S.nd (ag cs.c209 hr (sai 0 (@af _ _ _ _ _ _ _ (sV 3) (@af _ _ _ _ _ _ _ (sV 2) (@af _ _ _ _ _ _ _ (sV 5) (@af _ _ _ _ _ _ _ (aZ sI (ag cs.c201 hr (sai 0 (@af _ _ _ _ _ _ _ (sV 1) sa0 (by intro _ z; cases z) (by rfl))))) (@af _ _ _ _ _ _ _ sI sa0 (by intro _ z; cases z) (by rfl)) (by intro _ z; cases z) (by rfl)) (by intro _ z; cases z) (by rfl)) (by intro _ z; cases z) (by rfl)) (by intro _ z; cases z) (by rfl)))) (by decide) (by rfl) (by rfl) (by first | exact a0r rfl | exact a0n rfl) (by rfl) (by first | exact .inl rfl | exact .inr rfl))
    (@ssc _ _ _ _ _ _ _ _ (zC2 7 [0] [0] [("_law_tape_here",s.heap.objs.size+1)] ["_law_tape_here"] (rl (sV 3)) (fun _ _ _ _=>(ag cs.c204 hr (sai 2 (@af _ _ _ _ _ _ _ (sV 1) sa0 (by intro _ z; cases z) (by rfl))))) csc (vw .nil) (frc .nil) S.nd)
    (ss1 (aE (@sTx _ _ _ _ _ _ _ (by decide) (@slx _ _ _ _ _ _ _ (@sTx _ _ _ _ _ _ _ (by decide) (@slx _ _ _ _ _ _ _ (tM (hm:=T.tup) (ha:=(sM 3))) (@slx _ _ _ _ _ _ _ (sM 6) sl0 (by rfl)) (by rfl))) (@slx _ _ _ _ _ _ _ (sM 7) sl0 (by rfl)) (by rfl)))))))))))
theorem x6:au ["_law_tree"] ["_law_tree"] (defScope nY):=fsc
theorem Ar:DD "_law_parts" nY ["_law_tree"] aX:=fun {_ _ _ _ _ _ _ _ _ _ _ s _ _} cs T G hr =>
 have S:=x6
 (@ssc _ _ _ _ _ _ _ _ (zIf (l6 (@aq _ _ _ _ _ _ _ _ _ (sV 0) sI (by intro _ _; rfl)) (@sLx _ _ _ _ _ _ _ (by decide) (@slx _ _ _ _ _ _ _ sS (@slx _ _ _ _ _ _ _ sS (@slx _ _ _ _ _ _ _ sS sl0 (by rfl)) (by rfl)) (by rfl)))) (ss1 (aE (@sLx _ _ _ _ _ _ _ (by decide) sl0))) ss0)
    (ss1 (aE (rJ (hm:=T.list) (ha:=(yA (sV 0) (@aq _ _ _ _ _ _ _ _ _ (@sLx _ _ _ _ _ _ _ (by decide) (@slx _ _ _ _ _ _ _ sI (@slx _ _ _ _ _ _ _ sI sl0 (by rfl)) (by rfl))) (xN (hm:=T.int) (ha:=(q9 (@aq _ _ _ _ _ _ _ _ _ (sV 0) sI (by intro _ _; rfl)) (@sLx _ _ _ _ _ _ _ (by decide) (@slx _ _ _ _ _ _ _ sS (@slx _ _ _ _ _ _ _ sS (@slx _ _ _ _ _ _ _ sS sl0 (by rfl)) (by rfl)) (by rfl)))))) (by intro _ _; rfl))))))))
theorem x5:au ["_law_tree","_law_found","_law_k","_law_part"] ["_law_tree"] (defScope lF):=fsc
theorem Au:DD "_law_places" lF ["_law_tree","_law_found","_law_k","_law_part"] bg:=fun {_ _ _ _ _ _ _ _ _ _ _ s _ _} cs T G hr =>
 have S:=x5
 (@ssc _ _ _ _ _ _ _ _ (@ak _ _ _ _ _ _ _ 1 _ _ _ _ S.nd (@sLx _ _ _ _ _ _ _ (by decide) sl0) (by decide) (by rfl) (by rfl) (by first | exact a0r rfl | exact a0n rfl) (by rfl) (by first | exact .inl rfl | exact .inr rfl))
    (@ssc _ _ _ _ _ _ _ _ (zg 2 3 S.nd (wW (hm:=T.enum) (ha:=(ag cs.c194 hr (@af _ _ _ _ _ _ _ (sV 0) sa0 (by intro _ z; cases z) (by rfl))))) (ss1 (@ak _ _ _ _ _ _ _ 1 _ _ _ _ S.nd (aZ (sV 1) (sC1 [2] [2] [("_law_k",s.heap.objs.size+1)] ["_law_k"] (mi (ag cs.c195 hr (@af _ _ _ _ _ _ _ (sV 3) sa0 (by intro _ z; cases z) (by rfl)))) (fun _ _ _ _=>(aZ (@sTx _ _ _ _ _ _ _ (by decide) (@slx _ _ _ _ _ _ _ (sV 1) sl0 (by rfl))) (sV 0))) csc (vw .nil) (frc .nil))) (by decide) (by rfl) (by rfl) (by first | exact a0r rfl | exact a0n rfl) (by rfl) (by first | exact .inl rfl | exact .inr rfl))))
    (ss1 (aE (aZ (sM 1) (@sLx _ _ _ _ _ _ _ (by decide) (@slx _ _ _ _ _ _ _ (@sTx _ _ _ _ _ _ _ (by decide) sl0) sl0 (by rfl))))))))
theorem xk:au ["_law_tree","_law_place","_law_k"] ["_law_tree","_law_place"] (defScope nG):=fsc
theorem zJ:DD "_law_piece" nG ["_law_tree","_law_place","_law_k"] bx:=fun {_ _ _ _ _ _ _ _ _ _ _ s _ _} cs T G hr =>
 have S:=xk
 (@ssc _ _ _ _ _ _ _ _ (mL 2 S.nd (mi (sV 1)) (ss1 (@ak _ _ _ _ _ _ _ 0 _ _ _ _ S.nd (@aq _ _ _ _ _ _ _ _ _ (ag cs.c194 hr (@af _ _ _ _ _ _ _ (sV 0) sa0 (by intro _ z; cases z) (by rfl))) (sV 2) (by intro _ _; rfl)) (by decide) (by rfl) (by rfl) (by first | exact a0r rfl | exact a0n rfl) (by rfl) (by first | exact .inl rfl | exact .inr rfl))))
    (ss1 (aE (sM 0))))
theorem yc:au ["_law_tree"] ["_law_tree"] (defScope kO):=fsc
theorem AS:DD "_law_is_sure" kO ["_law_tree"] aU:=fun {_ _ _ _ _ _ _ _ _ _ _ s _ _} cs T G hr =>
 have S:=yc
 (@ssc _ _ _ _ _ _ _ _ (zIf (l6 (@aq _ _ _ _ _ _ _ _ _ (sV 0) sI (by intro _ _; rfl)) (@sLx _ _ _ _ _ _ _ (by decide) (@slx _ _ _ _ _ _ _ sS (@slx _ _ _ _ _ _ _ sS (@slx _ _ _ _ _ _ _ sS (@slx _ _ _ _ _ _ _ sS (@slx _ _ _ _ _ _ _ sS (@slx _ _ _ _ _ _ _ sS (@slx _ _ _ _ _ _ _ sS (@slx _ _ _ _ _ _ _ sS (@slx _ _ _ _ _ _ _ sS (@slx _ _ _ _ _ _ _ sS (@slx _ _ _ _ _ _ _ sS (@slx _ _ _ _ _ _ _ sS (@slx _ _ _ _ _ _ _ sS (@slx _ _ _ _ _ _ _ sS (@slx _ _ _ _ _ _ _ sS sl0 (by rfl)) (by rfl)) (by rfl)) (by rfl)) (by rfl)) (by rfl)) (by rfl)) (by rfl)) (by rfl)) (by rfl)) (by rfl)) (by rfl)) (by rfl)) (by rfl)) (by rfl)))) (ss1 (aE sO)) ss0)
    (ss1 (aE (AR (hm:=T.all) (ha:=(sC1 [] [] [] [] (mi (ag cs.c194 hr (@af _ _ _ _ _ _ _ (sM 0) sa0 (by intro _ z; cases z) (by rfl)))) (fun _ _ _ _=>(ag cs.c198 hr (@af _ _ _ _ _ _ _ (sV 0) sa0 (by intro _ z; cases z) (by rfl)))) csc .nil .nil))))))
theorem S0:au ["_law_script","_law_tape_here","_law_tree","_law_place","_law_own","_law_found"] ["_law_script"] (defScope s0):=fsc
theorem D0:DD "law" s0 ["_law_script","_law_tape_here","_law_tree","_law_place","_law_own","_law_found"] jD:=fun {_ _ _ _ _ _ _ _ _ _ _ s _ _} cs T G hr =>
 have S:=S0
 (@ssc _ _ _ _ _ _ _ _ (@ak _ _ _ _ _ _ _ 1 _ _ _ _ S.nd (ag cs.c179 hr (@af _ _ _ _ _ _ _ (sV 0) sa0 (by intro _ z; cases z) (by rfl))) (by decide) (by rfl) (by rfl) (by first | exact a0r rfl | exact a0n rfl) (by rfl) (by first | exact .inl rfl | exact .inr rfl))
    (@ssc _ _ _ _ _ _ _ _ (@ak _ _ _ _ _ _ _ 2 _ _ _ _ S.nd (@aq _ _ _ _ _ _ _ _ _ (@aq _ _ _ _ _ _ _ _ _ (ag cs.c214 hr (sai 1 (@af _ _ _ _ _ _ _ sI sa0 (by intro _ z; cases z) (by rfl)))) sI (by intro _ _; rfl)) sI (by intro _ _; rfl)) (by decide) (by rfl) (by rfl) (by first | exact a0r rfl | exact a0n rfl) (by rfl) (by first | exact .inl rfl | exact .inr rfl))
    (@ssc _ _ _ _ _ _ _ _ (mL 3 S.nd (mi (ag cs.c195 hr (@af _ _ _ _ _ _ _ (sV 2) sa0 (by intro _ z; cases z) (by rfl)))) (@ssc _ _ _ _ _ _ _ _ (@ak _ _ _ _ _ _ _ 4 _ _ _ _ S.nd (ag cs.c196 hr (@af _ _ _ _ _ _ _ (sV 2) (@af _ _ _ _ _ _ _ (sV 3) sa0 (by intro _ z; cases z) (by rfl)) (by intro _ z; cases z) (by rfl))) (by decide) (by rfl) (by rfl) (by first | exact a0r rfl | exact a0n rfl) (by rfl) (by first | exact .inl rfl | exact .inr rfl))
     (@ssc _ _ _ _ _ _ _ _ (@ak _ _ _ _ _ _ _ 5 _ _ _ _ S.nd (ag cs.c178 hr (@af _ _ _ _ _ _ _ (sV 4) sa0 (by intro _ z; cases z) (by rfl))) (by decide) (by rfl) (by rfl) (by first | exact a0r rfl | exact a0n rfl) (by rfl) (by first | exact .inl rfl | exact .inr rfl))
     (ss1 (zIf (tW (wOr (yM (tB (y8 (by decide) a2S T.isin T.bool (sV 5)))) (wO1 (mx hr (sV 5) (ag cs.c198 hr (@af _ _ _ _ _ _ _ (sV 4) sa0 (by intro _ z; cases z) (by rfl))))))) (ss1 (aE sO)) ss0)))))
    (ss1 (aE sO)))))
end A60

namespace A60
open PySem PySem.Spec PyProof.Rows L2 L3 MR
noncomputable abbrev Cl (n:Nat):M.Call:=M.callR prog 1000000 1000001 n
section
variable {P:Program}{w:World}{K:a0a}{mg:Str->Option Value}{base:Heap}
theorem all (d175:Df K mg "parts_start" nU ["sign"])(d176:Df K mg "parts" lI ["tree"])(d177:Df K mg "may_stop" mw ["tree"])(d178:Df K mg "is_sure" mf ["tree"])(d179:Df K mg "_law_tape" lb ["_law_script"])(d201:Df K mg "_law_draw" mQ ["_law_tape_here","_law_many"])(d202:Df K mg "_law_names" lP ["_law_tape_here"])(d203:Df K mg "_law_kind" kC ["_law_tape_here"])(d204:Df K mg "_law_worth" mD ["_law_tape_here","_law_kind_here"])(d205:Df K mg "_law_named" kD ["_law_tape_here","_law_env","_law_kind_here"])(d206:Df K mg "_law_leaf" kR ["_law_tape_here","_law_env","_law_kind_here"])(d207:Df K mg "_law_few" kB ["_law_tape_here","_law_env","_law_kind_here"])(d208:Df K mg "_law_times" lH ["_law_tape_here","_law_env"])(d209:Df K mg "_law_term" kP ["_law_tape_here","_law_env","_law_names_here","_law_kind_here","_law_room","_law_deep"])(d210:Df K mg "_law_plain" k9 ["_law_tape_here","_law_env","_law_names_here","_law_kind_here","_law_room","_law_deep"])(d211:Df K mg "_law_rows" lx ["_law_tape_here","_law_env","_law_names_here","_law_kind_here","_law_room","_law_deep"])(d212:Df K mg "_law_turnable" nJ ["_law_tape_here","_law_env","_law_names_here","_law_kind_here","_law_room","_law_deep"])(d213:Df K mg "_law_turnable_row" nq ["_law_tape_here","_law_env","_law_names_here","_law_kind_here","_law_tree","_law_some"])(d214:Df K mg "_law_program" mN ["_law_tape_here","_law_room"])(d194:Df K mg "_law_parts" nY ["_law_tree"])(d195:Df K mg "_law_places" lF ["_law_tree"])(d196:Df K mg "_law_piece" nG ["_law_tree","_law_place"])(d198:Df K mg "_law_is_sure" kO ["_law_tree"])  (T:Txt mg)(G:Glb K w mg):∀ n,Calls P w K mg base n (Cl n)
 | 0 =>
  have c175:ai P w K mg base 0 (Cl 0) "parts_start" 175 []:=d175.z
  have c176:ai P w K mg base 0 (Cl 0) "parts" 176 []:=d176.z
  have c177:ai P w K mg base 0 (Cl 0) "may_stop" 177 []:=d177.z
  have c178:ai P w K mg base 0 (Cl 0) "is_sure" 178 []:=d178.z
  have c179:ai P w K mg base 0 (Cl 0) "_law_tape" 179 []:=d179.z
  have c201:ai P w K mg base 0 (Cl 0) "_law_draw" 201 [0]:=d201.z
  have c202:ai P w K mg base 0 (Cl 0) "_law_names" 202 [0]:=d202.z
  have c203:ai P w K mg base 0 (Cl 0) "_law_kind" 203 [0]:=d203.z
  have c204:ai P w K mg base 0 (Cl 0) "_law_worth" 204 [0]:=d204.z
  have c205:ai P w K mg base 0 (Cl 0) "_law_named" 205 [0]:=d205.z
  have c206:ai P w K mg base 0 (Cl 0) "_law_leaf" 206 [0]:=d206.z
  have c207:ai P w K mg base 0 (Cl 0) "_law_few" 207 [0]:=d207.z
  have c208:ai P w K mg base 0 (Cl 0) "_law_times" 208 [0]:=d208.z
  have c209:ai P w K mg base 0 (Cl 0) "_law_term" 209 [0]:=d209.z
  have c210:ai P w K mg base 0 (Cl 0) "_law_plain" 210 [0]:=d210.z
  have c211:ai P w K mg base 0 (Cl 0) "_law_rows" 211 [0]:=d211.z
  have c212:ai P w K mg base 0 (Cl 0) "_law_turnable" 212 [0]:=d212.z
  have c213:ai P w K mg base 0 (Cl 0) "_law_turnable_row" 213 [0]:=d213.z
  have c214:ai P w K mg base 0 (Cl 0) "_law_program" 214 [0]:=d214.z
  have c194:ai P w K mg base 0 (Cl 0) "_law_parts" 194 []:=d194.z
  have c195:ai P w K mg base 0 (Cl 0) "_law_places" 195 []:=d195.z
  have c196:ai P w K mg base 0 (Cl 0) "_law_piece" 196 []:=d196.z
  have c198:ai P w K mg base 0 (Cl 0) "_law_is_sure" 198 []:=d198.z
  ⟨c175,c176,c177,c178,c179,c201,c202,c203,c204,c205,c206,c207,c208,c209,c210,c211,c212,c213,c214,c194,c195,c196,c198⟩
 | n+1 =>
  have c:=all d175 d176 d177 d178 d179 d201 d202 d203 d204 d205 d206 d207 d208 d209 d210 d211 d212 d213 d214 d194 d195 d196 d198  T G n
  have c175:ai P w K mg base (n+1) (Cl (n+1)) "parts_start" 175 []:=d175.s aT xp (AQ c T G)
  have c176:ai P w K mg base (n+1) (Cl (n+1)) "parts" 176 []:=d176.s cf wV (Ag c T G)
  have c177:ai P w K mg base (n+1) (Cl (n+1)) "may_stop" 177 []:=d177.s bj yp (z0 c T G)
  have c178:ai P w K mg base (n+1) (Cl (n+1)) "is_sure" 178 []:=d178.s bV zA (AU c T G)
  have c179:ai P w K mg base (n+1) (Cl (n+1)) "_law_tape" 179 []:=d179.s bG xS (Am c T G)
  have c201:ai P w K mg base (n+1) (Cl (n+1)) "_law_draw" 201 [0]:=d201.s bo zo (Ad c T G)
  have c202:ai P w K mg base (n+1) (Cl (n+1)) "_law_names" 202 [0]:=d202.s a8 xf (Bb c T G)
  have c203:ai P w K mg base (n+1) (Cl (n+1)) "_law_kind" 203 [0]:=d203.s bK xl (Ab c T G)
  have c204:ai P w K mg base (n+1) (Cl (n+1)) "_law_worth" 204 [0]:=d204.s aP xE (AJ c T G)
  have c205:ai P w K mg base (n+1) (Cl (n+1)) "_law_named" 205 [0]:=d205.s a7 zj (Aw c T G)
  have c206:ai P w K mg base (n+1) (Cl (n+1)) "_law_leaf" 206 [0]:=d206.s f_law_leaf yN (Ax c T G)
  have c207:ai P w K mg base (n+1) (Cl (n+1)) "_law_few" 207 [0]:=d207.s ba yX (Bd c T G)
  have c208:ai P w K mg base (n+1) (Cl (n+1)) "_law_times" 208 [0]:=d208.s aL xc (zG c T G)
  have c209:ai P w K mg base (n+1) (Cl (n+1)) "_law_term" 209 [0]:=d209.s aB yD (AF c T G)
  have c210:ai P w K mg base (n+1) (Cl (n+1)) "_law_plain" 210 [0]:=d210.s aC x3 (zI c T G)
  have c211:ai P w K mg base (n+1) (Cl (n+1)) "_law_rows" 211 [0]:=d211.s f_law_rows yL (zR c T G)
  have c212:ai P w K mg base (n+1) (Cl (n+1)) "_law_turnable" 212 [0]:=d212.s f_law_turnable xW (zL c T G)
  have c213:ai P w K mg base (n+1) (Cl (n+1)) "_law_turnable_row" 213 [0]:=d213.s f_law_turnable_row xJ (AW c T G)
  have c214:ai P w K mg base (n+1) (Cl (n+1)) "_law_program" 214 [0]:=d214.s a6 zB (zS c T G)
  have c194:ai P w K mg base (n+1) (Cl (n+1)) "_law_parts" 194 []:=d194.s aX x6 (Ar c T G)
  have c195:ai P w K mg base (n+1) (Cl (n+1)) "_law_places" 195 []:=d195.s bg x5 (Au c T G)
  have c196:ai P w K mg base (n+1) (Cl (n+1)) "_law_piece" 196 []:=d196.s bx xk (zJ c T G)
  have c198:ai P w K mg base (n+1) (Cl (n+1)) "_law_is_sure" 198 []:=d198.s aU yc (AS c T G)
  ⟨c175,c176,c177,c178,c179,c201,c202,c203,c204,c205,c206,c207,c208,c209,c210,c211,c212,c213,c214,c194,c195,c196,c198⟩
end
theorem pure_law:∀ ns:List Int,ns.length<=63->∃ m bs,Cl 40 0 [(.d,.scr ns)]=.ok ((m,.bl true),bs):=fun ns _=>P60.pure_law ns
theorem all_mk {l:a13}{w:World}{K:a0a}{h:Heap}{mg:Str->Option Value}{fa:Addr}(X:K.In h)(G:h.Ns mainGlobals mg)(hfa:mg "law"=some (.ref fa))(r175:Raw K "parts_start" nU .none)(r176:Raw K "parts" lI .none)(r177:Raw K "may_stop" mw .none)(r178:Raw K "is_sure" mf .none)(r179:Raw K "_law_tape" lb .none)(r201:Raw K "_law_draw" mQ .none)(r202:Raw K "_law_names" lP .none)(r203:Raw K "_law_kind" kC .none)(r204:Raw K "_law_worth" mD .none)(r205:Raw K "_law_named" kD .none)(r206:Raw K "_law_leaf" kR .none)(r207:Raw K "_law_few" kB .none)(r208:Raw K "_law_times" lH .none)(r209:Raw K "_law_term" kP .none)(r210:Raw K "_law_plain" k9 .none)(r211:Raw K "_law_rows" lx .none)(r212:Raw K "_law_turnable" nJ .none)(r213:Raw K "_law_turnable_row" nq .none)(r214:Raw K "_law_program" mN .none)(r194:Raw K "_law_parts" nY .none)(r195:Raw K "_law_places" lF .none)(r196:Raw K "_law_piece" nG .none)(r198:Raw K "_law_is_sure" kO .none)(r0:Raw K "law" s0 .none)(h0:GlbR K "STOPPING" (.tup [.str (q "sum"),.str (q "sums"),.str (q "most"),.str (q "upto"),.str (q "flat"),.str (q "add"),.str (q "sub"),.str (q "mul"),.str (q "div"),.str (q "rest"),.str (q "pick"),.str (q "join"),.str (q "keep"),.str (q "cut"),.str (q "times")]))(q_AHEAD:∃ T,TabRaw K w "AHEAD" T/\T.map a18=keys_AHEAD)(tx:sU K ["isinstance","int","tuple","list","bool","sum","len","all","zip","range","enumerate","any","max","min","sorted","str","repr","abs","dict","set","reversed"]) :
  ∃ fd:FuncData,(∀ (s:Shared) (v:Value),BindsTo s fd ⟨[v],[]⟩ [("_law_script",v)])/\∀ base:Heap,K.In base->base.Ns mainGlobals mg->c8 l.prog w K mg base CX0 40 fa fd ["_law_script"] (spS K (Cl 40) 0 []):=by
 have d175:Df K mg "parts_start" nU ["sign"]:=aY X G r175 fun _ _ _ _ _ _ us hl=>match us,hl with | [_],_=>rfl
 have d176:Df K mg "parts" lI ["tree"]:=aY X G r176 fun _ _ _ _ _ _ us hl=>match us,hl with | [_],_=>rfl
 have d177:Df K mg "may_stop" mw ["tree"]:=aY X G r177 fun _ _ _ _ _ _ us hl=>match us,hl with | [_],_=>rfl
 have d178:Df K mg "is_sure" mf ["tree"]:=aY X G r178 fun _ _ _ _ _ _ us hl=>match us,hl with | [_],_=>rfl
 have d179:Df K mg "_law_tape" lb ["_law_script"]:=aY X G r179 fun _ _ _ _ _ _ us hl=>match us,hl with | [_],_=>rfl
 have d201:Df K mg "_law_draw" mQ ["_law_tape_here","_law_many"]:=aY X G r201 fun _ _ _ _ _ _ us hl=>match us,hl with | [_,_],_=>rfl
 have d202:Df K mg "_law_names" lP ["_law_tape_here"]:=aY X G r202 fun _ _ _ _ _ _ us hl=>match us,hl with | [_],_=>rfl
 have d203:Df K mg "_law_kind" kC ["_law_tape_here"]:=aY X G r203 fun _ _ _ _ _ _ us hl=>match us,hl with | [_],_=>rfl
 have d204:Df K mg "_law_worth" mD ["_law_tape_here","_law_kind_here"]:=aY X G r204 fun _ _ _ _ _ _ us hl=>match us,hl with | [_,_],_=>rfl
 have d205:Df K mg "_law_named" kD ["_law_tape_here","_law_env","_law_kind_here"]:=aY X G r205 fun _ _ _ _ _ _ us hl=>match us,hl with | [_,_,_],_=>rfl
 have d206:Df K mg "_law_leaf" kR ["_law_tape_here","_law_env","_law_kind_here"]:=aY X G r206 fun _ _ _ _ _ _ us hl=>match us,hl with | [_,_,_],_=>rfl
 have d207:Df K mg "_law_few" kB ["_law_tape_here","_law_env","_law_kind_here"]:=aY X G r207 fun _ _ _ _ _ _ us hl=>match us,hl with | [_,_,_],_=>rfl
 have d208:Df K mg "_law_times" lH ["_law_tape_here","_law_env"]:=aY X G r208 fun _ _ _ _ _ _ us hl=>match us,hl with | [_,_],_=>rfl
 have d209:Df K mg "_law_term" kP ["_law_tape_here","_law_env","_law_names_here","_law_kind_here","_law_room","_law_deep"]:=aY X G r209 fun _ _ _ _ _ _ us hl=>match us,hl with | [_,_,_,_,_,_],_=>rfl
 have d210:Df K mg "_law_plain" k9 ["_law_tape_here","_law_env","_law_names_here","_law_kind_here","_law_room","_law_deep"]:=aY X G r210 fun _ _ _ _ _ _ us hl=>match us,hl with | [_,_,_,_,_,_],_=>rfl
 have d211:Df K mg "_law_rows" lx ["_law_tape_here","_law_env","_law_names_here","_law_kind_here","_law_room","_law_deep"]:=aY X G r211 fun _ _ _ _ _ _ us hl=>match us,hl with | [_,_,_,_,_,_],_=>rfl
 have d212:Df K mg "_law_turnable" nJ ["_law_tape_here","_law_env","_law_names_here","_law_kind_here","_law_room","_law_deep"]:=aY X G r212 fun _ _ _ _ _ _ us hl=>match us,hl with | [_,_,_,_,_,_],_=>rfl
 have d213:Df K mg "_law_turnable_row" nq ["_law_tape_here","_law_env","_law_names_here","_law_kind_here","_law_tree","_law_some"]:=aY X G r213 fun _ _ _ _ _ _ us hl=>match us,hl with | [_,_,_,_,_,_],_=>rfl
 have d214:Df K mg "_law_program" mN ["_law_tape_here","_law_room"]:=aY X G r214 fun _ _ _ _ _ _ us hl=>match us,hl with | [_,_],_=>rfl
 have d194:Df K mg "_law_parts" nY ["_law_tree"]:=aY X G r194 fun _ _ _ _ _ _ us hl=>match us,hl with | [_],_=>rfl
 have d195:Df K mg "_law_places" lF ["_law_tree"]:=aY X G r195 fun _ _ _ _ _ _ us hl=>match us,hl with | [_],_=>rfl
 have d196:Df K mg "_law_piece" nG ["_law_tree","_law_place"]:=aY X G r196 fun _ _ _ _ _ _ us hl=>match us,hl with | [_,_],_=>rfl
 have d198:Df K mg "_law_is_sure" kO ["_law_tree"]:=aY X G r198 fun _ _ _ _ _ _ us hl=>match us,hl with | [_],_=>rfl
 have T:=sG X G tx
 obtain ⟨_,q_AHEAD,qk_AHEAD⟩:=q_AHEAD
 have Gm:Glb K w mg:=⟨(pM X G h0),(oJ X G q_AHEAD qk_AHEAD)⟩
 exact qU X G hfa r0 (fun _ _ _ _ _ _ _ _=>.of_eq rfl) fun f fd F base=>Fun.okM F S0 rfl (by decide) (by decide) (by decide) (fun _ _ _ _ _ _ h=>D0 (all d175 d176 d177 d178 d179 d201 d202 d203 d204 d205 d206 d207 d208 d209 d210 d211 d212 d213 d214 d194 d195 d196 d198  T Gm 39) T Gm h) fun _=>rfl
end A60

set_option maxHeartbeats 0
namespace H60
open PySem PySem.W TP
noncomputable abbrev pr:Program:=PySem.Challenge.pw_broadrow_k60_sure_trees
noncomputable def tn (i:Nat):Stmt:=pr.main.body.getD i (.Pass p0)
noncomputable def rc:List Rc:=[.m,
.x "AHEAD" 207 (.ref 15) (fun P=>[di [en P "num" 189 (.str "number" 190),en P "name" 191 (.str "name" 192),en P "none" 193 (.str "kind" 194),en P "let" 195 (.str "name" 196),en P "each" 197 (.str "name" 198),en P "times" 199 (.str "name" 200)] 6]) [] 16 208,
.d,
.d,
.m,
.x "STOPPING" 239 (.ref 30) (fun P=>[tu [.str "sum" 224,.str "sums" 225,.str "most" 226,.str "upto" 227,.str "flat" 228,.str "add" 229,.str "sub" 230,.str "mul" 231,.str "div" 232,.str "rest" 233,.str "pick" 234,.str "join" 235,.str "keep" 236,.str "cut" 237,.str "times" 238]]) [] 31 240,
.d,
.m,
.d,
.m,
.d,
.d,
.d,
.d,
.d,
.d,
.d,
.d,
.d,
.d,
.d,
.d,
.d,
.d,
.d,
.d,
.d,
.d,
.d,
.d,
.d]
theorem c0 (w:World):Cut pr rc 0 15 187 p0 1 10 15 189 ⟨1,0,1,8⟩ w:=fun o=>by kernel_rfl
theorem c1 (w:World):Cut pr rc 1 15 189 ⟨1,0,1,8⟩ 1 101 16 208 ⟨2,0,2,5⟩ w:=byRow2 (P:=Cut pr rc 1 15 189 ⟨1,0,1,8⟩ 1 101 16 208 ⟨2,0,2,5⟩) "special-get-raises" (fun w o=>by kernel_rfl) (fun w o=>by kernel_rfl) w
theorem c2 (w:World):Cut pr rc 2 16 208 ⟨2,0,2,5⟩ 23 685 144 450 ⟨205,0,213,56⟩ w:=fun o=>by kernel_rfl
theorem c25 (w:World):Cut pr rc 25 144 450 ⟨205,0,213,56⟩ 6 179 182 500 ⟨237,0,245,15⟩ w:=fun o=>by kernel_rfl
theorem ch:Ch pr rc 31 182 500 0 15 187 p0 (10+(101+(685+(179+(2))))):=dR c0 ( dR c1 ( dR c2 ( dR c25 (vk (by kernel_rfl)))))
noncomputable def q:Program:=view pr [30]
noncomputable def lo:List Str:=(["AHEAD","parts_start","parts","STOPPING","may_stop","is_sure","_law_tape","_law_draw","_law_names","_law_kind","_law_worth","_law_named","_law_leaf","_law_few","_law_times","_law_term","_law_plain","_law_rows","_law_turnable","_law_turnable_row","_law_program","_law_parts","_law_places","_law_piece","_law_put","_law_is_sure"]:List String).map Str.ofString
noncomputable def as:List Addr:=[3,15,21,22,28,29,30,34,35,41,42,48,49,55,56,62,63,69,70,76,77,81,82,88,89,95,96,102,103,109,110,116,117,123,124,130,131,137,138,142,143,149,150,154,155,161,162,168,169,173,174,180,181]
noncomputable def K:Params->Frag:=kK pr rc 31 as
noncomputable def hk:Hook:=hkk pr rc 31 182
noncomputable abbrev Xt (s:Shared):Bool:=xlAt q [] s&&recOk (RowW.records (OpenRow.toRowW (OpenLaw.row PySem.Challenge.rw_broadrow_k60_sure_trees))) s
theorem kin (w:World)(h:Heap)(Y:hk.says w h):(K w.params).In h:=A8 (by kernel_rfl) (by kernel_rfl) Y
theorem lk (w:World):(fun o=>((staticsOk (importedModules pr.main.body) (boot_heap w.params) (hp pr rc 31 182 w.params)&&namesBound pr (hp pr rc 31 182 w.params)&&gensDone ⟨hp pr rc 31 182 w.params,#[],{},500,o⟩&&laidKept (boot_heap w.params) (hp pr rc 31 182 w.params)),openSeen q lo (importedModules pr.main.body) Xt true ⟨hp pr rc 31 182 w.params,#[],{},500,o⟩,Hook.obs hk ⟨hp pr rc 31 182 w.params,#[],{},500,o⟩))=fun _=>(true,openGood q lo,Hook.val hk w):=by kernel_rfl
theorem e1:opening pr=plainProg pr.main.scope.names:=by kernel_rfl
theorem e2:behindTheImports pr=pr.main.body:=by kernel_rfl
theorem e3 (s:Shared):fenceModules? pr s=some s:=by kernel_rfl
theorem pre (w:World)(o:OsState):topGo treeTable pr w 11 an 12 ⟨boot_heap w.params,a2P [],boot_drawn,boot_toks,o⟩ (topStub pr)=some ((sT pr rc w.params 0 15 187 o).abs,⟨denote treeTable (cE pr),cE pr,p0,B0⟩):=by kernel_rfl
theorem blk (w:World)(o:OsState):segRun treeTable pr w 11 an 1 1 (sT pr rc w.params 0 15 187 o).abs (blockOf (behindTheImports pr) (ev pr) (cE pr) p0 B0)=some (.next,(sT pr rc w.params 0 15 187 o).abs,cE pr,p0):=by kernel_rfl
theorem left:LeftO pr q lo Xt (Hook.obs hk) (Hook.val hk) 2068:=oj e1 (by kernel_rfl) e3 e2 oD pre blk ch (by kernel_rfl) lk
end H60

set_option maxHeartbeats 4000000
open PySem PySem.W PyProof.Rows
set_option maxRecDepth 100000 in
set_option maxHeartbeats 0 in
theorem PySem.Challenge.cw_broadrow_k60_sure_trees_holds : PySem.Challenge.rw_broadrow_k60_sure_trees.Holds := by
 w_on; o_law
 refine holds_open (q:=H60.q) (loose:=H60.lo) (Xt:=H60.Xt) (XP:=XL H60.q []) (Yf:=Hook.obs H60.hk) (Ya:=Hook.val H60.hk) (YP:=Hook.says H60.hk) (N:=2068) (d:=TP.drec (H60.tn 30)) (kwd:=[]) H60.left (Hook.of H60.hk) (Hook.keeps H60.hk) (fun s e=>xl_of s (a0L.mp e).1) XL.keeps (by kernel_rfl) (by kernel_rfl) (by kernel_rfl) (fun s e=>recFacts_of (a0L.mp e).2) (by rfl) (by first | assumption | decide +kernel) (by decide +kernel) ⟨rfl,rfl,rfl,rfl,rfl,by decide +kernel⟩ ?hw ?hc
 case hw=>w_witness2
 refine MR.walkX (sx:="_law_script") (l:=PySem.Challenge.rw_broadrow_k60_sure_trees) (k:=40) (C:=A60.Cl 40) (ix:=0) (K:=H60.K) A60.pure_law rfl (by kernel_rfl) ⟨rfl,by decide,by decide⟩ H60.kin ?F
 case F =>
  intro w mg fa h KX G hmg
  refine' A60.all_mk KX G hmg ?zr175 ?zr176 ?zr177 ?zr178 ?zr179 ?zr201 ?zr202 ?zr203 ?zr204 ?zr205 ?zr206 ?zr207 ?zr208 ?zr209 ?zr210 ?zr211 ?zr212 ?zr213 ?zr214 ?zr194 ?zr195 ?zr196 ?zr198 ?zr0 ?zh0 ?zq_AHEAD ?ztx
  case zh0=>exact TP.glbR_mk (n:=9) (by kernel_rfl) (by kernel_rfl)
  case zq_AHEAD=>exact ⟨_,TP.tab_mk (by kernel_rfl) (by kernel_rfl) (by kernel_rfl) (by kernel_rfl),by kernel_rfl⟩
  case ztx=>refine' ⟨?_,?_,?_,?_,?_,?_,?_,?_,?_,?_,?_,?_,?_,?_,?_,?_,?_,?_,?_,?_,?_,trivial⟩<;>kernel_rfl
  all_goals exact TP.raw_mk (by kernel_rfl) (by kernel_rfl) (by kernel_rfl) (by kernel_rfl)
