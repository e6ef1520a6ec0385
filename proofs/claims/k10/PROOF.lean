import PyProof.Rows.All
import Wide.All
import OpenK.AllK
import Wide.FinOn
import Lean
import PyProof.EqAt
import PyProof.EqKinds
import PyProof.TupleCall
import PySem.Challenge.RW_broadrow_k10_free_names
open PySem.W renaming Frag → a0a, kia_one → a0u, fnOf → a0R, kitOne → a0U, keepIn → a1h, codeIn → a1t, methodObj → a1v, kitx_list → a1w, cellsFrom_some → a1C, instObj → a1G, OpenLaw → a1K, nsIn → a1L, lookIn → a1T, kitx_tuple → a1Z, mg_of → a12, kitx_dict → a16, plainGet → a2d, KeysLit → a2l, findIn → a2p, WalkO → a2s
open List renaming length_map → a0b, length_append → a0c, mem_cons_self → a0d, size_toArray → a0e, mem_cons_of_mem → a0f, length_cons → a0h, mem_cons → a0k, getElem?_eq_getElem → a0m, getElem?_eq_some_iff → a0o, mem_append_right → a0r, length_singleton → a0s, getElem?_map → a0v, mem_singleton → a0x, getElem?_cons_succ → a0z, getD_eq_getElem?_getD → a0A, map_cons → a0B, nodup_cons → a0D, filterMap_cons → a0E, take_succ_cons → a0F, replicate → a0G, drop_zero → a0H, append_nil → a0I, not_mem_nil → a0K, drop_succ_cons → a0O, range → a0P, length_nil → a0Q, take_zero → a0V, pairwise_cons → a0W, mem_append → a0X, nil_append → a0Z, any_cons → a01, append_assoc → a02, getElem?_set_ne → a03, length_drop → a04, lookup_cons → a06, all_cons → a09, find?_cons → a1a, getElem?_cons_zero → a1b, map_append → a1d, getElem?_set_self → a1e, length_take → a1j, mem_append_left → a1k, of_mem_zip → a1n, replicate_succ → a1o, contains_cons → a1q, getElem?_append_left → a1s, length_range → a1x, pairwise_singleton → a1B, take_of_length_le → a1F, length_replicate → a1I, map_nil → a1J, concat_eq_append → a1O, mem_of_getElem? → a1R, foldl_nil → a1V, mem_map_of_mem → a1W, mem_filterMap → a1X, mem_map → a2c, all_eq_true → a2g, getElem_mem → a2h, mem_filter → a2j, length → a2k, length_set → a2m, length_zip → a2o, nodup_nil → a2q, take_nil → a2t, drop_nil → a2u
open Bool renaming and_eq_true → a0g, false_ne_true → a0j, and_eq_true_iff → a0n, bne_false → a1U, false_or → a11
open Nat renaming le_refl → a0i, lt_of_lt_of_le → a0l, le_trans → a0p, ne_of_lt → a0y, zero_le → a0N, le_of_ble_eq_true → a1i, mul_le_mul_right → a1l, lt_irrefl → a1m, le_of_lt → a1H, lt_of_le_of_lt → a10, lt_succ_of_lt → a18, zero_add → a2b, succ_le_succ → a2e, le_succ → a2n, ne_of_gt → a2z, min_self → a2E, pow_succ → a2F, succ_mul → a2G
open PyProof.Rows renaming slot_tuple_getitem → a0q, callWith_type1 → a0Y, boot_sorted → a1z, boot_list → a1D, callWith_builtin1 → a2a, boot_isinstance → a2i, eq_dataH → a2A, ne_dataH → a2B, boot_int → a2D
open Option.some renaming inj → a0t, injEq → a1y
open Or renaming inr → a0w, inl → a0C
open PySem.Builtin.Str renaming occurrences → a0J
open Sum renaming inr → a0L, inl → a15
open Array renaming length_toList → a0M, all_eq_true' → a1p, getElem?_eq_getElem → a1u, getElem?_eq_none → a1E, toArray_toList → a1S, find?_toList → a1Y, mk → a2w, toList → a2y
open Nat.succ renaming inj → a0S
open PySem renaming mem_of_lookup → a0T, call → a2r, Within → a2x
open False renaming elim → a00
open Option renaming getD_none → a05, bind_eq_some_iff → a1A, bind_some → a2f
open PySem.F renaming args_tuple_add_2 → a07, entry_tuple_add → a08, plainAttrs_list → a1c, slot_tuple_add → a1f, slot_dict_get → a1M
open True renaming intro → a1g
open Ne renaming symm → a1r
open Int renaming emod_nonneg → a1N, emod_lt_of_pos → a14, toNat_natCast → a17
open And renaming left → a1P
open Prod renaming snd → a1Q, fst → a2v
open Std renaming lt_of_le_of_lt → a13, not_lt → a19
open Classical renaming em → a2C
open Sum.inr renaming inj → a2H
open List.Pairwise renaming nil → a2I
set_option genSizeOf false
set_option genInjectivity false
set_option Elab.async false
set_option linter.all false
set_option maxRecDepth 100000
namespace L2
open PySem PySem.Spec PyProof.Rows
noncomputable abbrev Key:=Sum Int Str
noncomputable def cO:Key->Value->Bool
 | .inl k,v=>Value.isInt k v
 | .inr x,v=>Value.isStrOf x v
noncomputable def yk (w:World):Key->Int
 | .inl k=>hashInt k
 | .inr x=>hashStr w x
theorem au:∀ {k:Key} {v:Value},cO k v=true->(∃ i t,k=a15 i/\v=Value.int i t)\/(∃ x t,k=a0L x/\v=Value.str x t)
 | .inl i,v,h=>by
  obtain ⟨t,e⟩:=Value.isInt_shape (k:=i) (v:=v) h
  exact .inl ⟨i,t,rfl,e⟩
 | .inr x,v,h=>by
  obtain ⟨t,e⟩:=Value.isStrOf_shape (x:=x) (v:=v) h
  exact .inr ⟨x,t,rfl,e⟩
theorem ji (i:Int)(t:Tok):cO (.inl i) (.int i t)=true:=by simp [cO,Value.isInt]
theorem iR (x:Str)(t:Tok):cO (.inr x) (.str x t)=true:=by simp [cO,Value.isStrOf]
theorem qu (a b:Int):decide ((a15 a:Key)=a15 b)=(a==b):=by
 by_cases e:a=b
 ·subst e; simp
 ·have h:¬ (a15 a:Key)=a15 b:=fun q=>e (Sum.inl.inj q)
  rw [decide_eq_false h]
  exact (beq_eq_false_iff_ne.mpr e).symm
theorem sE (a b:Str):decide ((a0L a:Key)=a0L b)=decide (a=b):=by
 by_cases e:a=b
 ·subst e; simp
 ·have h:¬ (a0L a:Key)=a0L b:=fun q=>e (a2H q)
  rw [decide_eq_false h,decide_eq_false e]
theorem tq (a:Int)(b:Str):decide ((a15 a:Key)=a0L b)=false:=decide_eq_false (fun q=>nomatch q)
theorem qP (a:Str)(b:Int):decide ((a0L a:Key)=a15 b)=false:=decide_eq_false (fun q=>nomatch q)
noncomputable def aA (prog:Program)(w:World):PySem.KeyKind prog w Key where
 is:=cO
 hash:=yk w
 inj:=fun v a b ha hb=>by
  rcases au ha with ⟨i,t,rfl,rfl⟩ | ⟨x,t,rfl,rfl⟩
  ·rcases au hb with ⟨j,u,rfl,e⟩ | ⟨y,u,rfl,e⟩
   ·injection e with e1 _; rw [e1]
   ·exact nomatch e
  ·rcases au hb with ⟨j,u,rfl,e⟩ | ⟨y,u,rfl,e⟩
   ·exact nomatch e
   ·injection e with e1 _; rw [e1]
 byValue:=fun k v h=>by
  rcases au h with ⟨i,t,rfl,rfl⟩ | ⟨x,t,rfl,rfl⟩<;>rfl
 pyHash:=fun hv h=>by
  rcases au hv with ⟨i,t,rfl,rfl⟩ | ⟨x,t,rfl,rfl⟩
  ·exact wpAny_pyHash_int h
  ·exact wpAny_pyHash_str h
 eqBool:=fun hu hv h=>by
  rcases au hu with ⟨i,t,rfl,rfl⟩ | ⟨x,t,rfl,rfl⟩
  ·rcases au hv with ⟨j,u,rfl,rfl⟩ | ⟨y,u,rfl,rfl⟩
   ·rw [qu] at h; exact wpAny_eqBool_int h
   ·rw [tq] at h; exact SeqAt.EqAt.int_str i t y u _ _ _ _ h
  ·rcases au hv with ⟨j,u,rfl,rfl⟩ | ⟨y,u,rfl,rfl⟩
   ·rw [qP] at h; exact SeqAt.EqAt.str_int x t j u _ _ _ _ h
   ·rw [sE] at h; exact wpAny_eqBool_str h
 «strs»:=fun k x t v h=>by
  rcases au h with ⟨i,u,rfl,e⟩ | ⟨y,u,rfl,e⟩
  ·exact nomatch e
  ·injection e with e1 _
   subst e1
   cases v<;>rfl
theorem fv (prog:Program)(w:World)(i:Int)(t:Tok):(aA prog w).is (.inl i) (.int i t)=true:=ji i t
theorem fh (prog:Program)(w:World)(x:Str)(t:Tok):(aA prog w).is (.inr x) (.str x t)=true:=iR x t
end L2
namespace L2
open PySem PySem.Spec PyProof.Rows
set_option genInjectivity true
inductive V where
 | non | bl (b:Bool) | int (i:Int) | str (x:Str) | byt (b:Array UInt8) | flt (b:UInt64) | ref (a:Addr) | ty (n:String)
 deriving DecidableEq
set_option genInjectivity false
noncomputable def RelV:V->Value->Prop
 | .non,u=>u=Value.none
 | .bl b,u=>u=Value.bool b
 | .int i,u=>∃ t,u=Value.int i t
 | .str x,u=>∃ t,u=Value.str x t
 | .byt b,u=>∃ t,u=Value.bytes b t
 | .flt b,u=>∃ t,u=Value.float b t
 | .ref a,u=>u=Value.ref a
 | .ty n,u=>u=Value.type n
noncomputable abbrev Vals:List V->List Value->Prop:=Paired RelV
theorem Vals.length {xs:List V}{us:List Value}(r:Vals xs us):xs.length=us.length:=Paired.length r
theorem Vals.get:∀ {xs:List V} {us:List Value} {i:Nat} {x:V},Vals xs us->xs[i]?=some x->∃ u,us[i]?=some u/\RelV x u
 | _,_,_,_,.nil,e=>by simp at e
 | _,_,0,_,.cons r _,e=>by simp at e; subst e; exact ⟨_,rfl,r⟩
 | _,_,i+1,x,.cons _ t,e=>by
  obtain ⟨u,h1,h2⟩:=Vals.get (i:=i) (x:=x) t (by simpa using e)
  exact ⟨u,by simpa using h1,h2⟩
theorem Vals.append:∀ {xs ys:List V} {us ws:List Value},Vals xs us->Vals ys ws->Vals (xs++ys) (us++ws)
 | _,_,_,_,.nil,s=>s
 | _,_,_,_,.cons r t,s=>.cons r (Vals.append t s)
theorem Vals.take:∀ {xs:List V} {us:List Value} (n:Nat),Vals xs us->Vals (xs.take n) (us.take n)
 | _,_,0,_=>.nil
 | _,_,_+1,.nil=>.nil
 | _,_,n+1,.cons r t=>.cons r (Vals.take n t)
theorem Vals.drop:∀ {xs:List V} {us:List Value} (n:Nat),Vals xs us->Vals (xs.drop n) (us.drop n)
 | _,_,0,r=>r
 | _,_,_+1,.nil=>.nil
 | _,_,n+1,.cons _ t=>Vals.drop n t
noncomputable def RelO:Option V->Option Value->Prop
 | some v,some u=>RelV v u
 | none,none=>True
 | _,_=>False
noncomputable def KV {κ:Type}:List (κ×V)->List (κ×Value)->Prop:=Paired fun (p:κ×V) (q:κ×Value)=>p.1=q.1/\RelV p.2 q.2
noncomputable def kV:Key->V
 | .inl i=>.int i
 | .inr x=>.str x
inductive HO where
 | lst (xs:List V)
 | tup (xs:List V)
 | dK (kvs:List (Key×V)) | dT (kvs:List (List Key×V))
 | set (S:Int->Bool) (n:Nat)
 | ins (C dx:Addr) (fs:List (Str×V))
 | own (x:Addr)
 | xd (fs:List (Str×V))
 | met (f x:Addr)
 | rng (lo hi:Int)
 | frz (o:Obj) (u:HO)
 | tbl (ps:Array Value)
 | ext (φ:Heap->Prop)
noncomputable abbrev Hp:=Addr->Option HO
noncomputable def upd (H:Hp)(a:Addr)(o:HO):Hp:=fun b=>if b=a then some o else H b
theorem ai {H:Hp}{a:Addr}{o:HO}:upd H a o a=some o:=by unfold upd; rw [if_pos rfl]
theorem af {H:Hp}{a b:Addr}{o:HO}(h:b≠a):upd H a o b=H b:=by unfold upd; rw [if_neg h]
theorem wu {H:Hp}{a b:Addr}{o u:HO}(h:H a=some o)(h':H b=some u)(d:o≠u):a≠b:=by
 intro e; subst e; rw [h] at h'; exact d (a0t h')
theorem av {H:Hp}{a b:Addr}{o:HO}(h:H a=some o)(h':H b=none):a≠b:=by
 intro e; subst e; rw [h] at h'; cases h'
section
variable (P:Program)(w:World)
noncomputable def ObjOk (H:Hp)(h:Heap)(a:Addr):HO->Prop
 | .lst xs=>xs.length<=sizeLine/\∃ (its:List Value) (n:Nat),Vals xs its/\h.get? a=some { cls:=.type "list",data:=.seq its.toArray n }
 | .tup xs=>xs.length<=sizeLine/\∃ its:List Value,Vals xs its/\IsTup h a its.toArray
 | .dK kvs=>kvs.length<=sizeLine/\(a==sysModules)=false/\∃ vs,KV kvs vs/\h.DictOf (aA P w) a vs
 | .dT kvs=>kvs.length<=sizeLine/\(a==sysModules)=false/\∃ xs:List (List Key×Addr×Value),
   Paired (fun (p:List Key×V) (q:List Key×Addr×Value)=>p.1=q.1/\H q.2.1=some (.tup (p.1.map kV))/\RelV p.2 q.2.2) kvs xs /\
   ∃ o es ep,h.get? a=some o/\o.ExactDict/\o.data=.dict es ep/\es.toList=xs.map (entryOfKey (tupleKind (aA P w)))/\(xs.map (·.1)).Nodup
 | .set S n=>h.SetOf (intKind P w) a S n
 | .ins C dx fs=>H dx=some (.own a)/\fs.length<=1000/\dx≠a/\h.get? a=some (a1G C dx) /\
   ∃ mA,h.Ns1 dx mA/\(∀ f,RelO (fs.lookup f) (mA f))/\a2x mA (fs.map (·.1))
 | .own _=>∃ o,h.get? a=some o
 | .xd fs=>∃ mA,h.Ns1 a mA/\∀ f,RelO (fs.lookup f) (mA f)
 | .rng lo hi=>∃ t u v,h.get? a=some { cls:=.type "range",data:=.fields #[.int lo t,.int hi u,.int 1 v] }
 | .frz o u=>h.get? a=some o/\ObjOk H h a u
 | .tbl ps=>h.get? a=some { cls:=.none,data:=.fields ps }
 | .met f x=>h.get? a=some (a1v (.ref f) (.ref x))
 | .ext φ=>φ h/\(∃ o,h.get? a=some o)/\∀ h1 h2:Heap,φ h1->(∀ o,h1.get? a=some o->h2.get? a=some o)->φ h2
noncomputable def HOk (H:Hp)(h:Heap):Prop:=∀ a o,H a=some o->ObjOk P w H h a o
end
section
variable {P:Program}{w:World}{H H':Hp}{h h':Heap}{a:Addr}{o:HO}
theorem ObjOk.lt (x:ObjOk P w H h a o):a < h.objs.size:=by
 cases o with
 | lst xs=>obtain ⟨_,_,_,_,e⟩:=x; exact Heap.lt_size e
 | tup xs=>obtain ⟨_,_,_,p⟩:=x; exact p.lt
 | dK kvs=>obtain ⟨_,_,_,_,o,_,_,e,_⟩:=x; exact Heap.lt_size e
 | dT kvs=>obtain ⟨_,_,_,_,o,_,_,e,_⟩:=x; exact Heap.lt_size e
 | set S n=>obtain ⟨o,_,_,_,e,_⟩:=x; exact Heap.lt_size e
 | ins C dx fs=>obtain ⟨_,_,_,e,_⟩:=x; exact Heap.lt_size e
 | own y=>obtain ⟨_,e⟩:=x; exact Heap.lt_size e
 | xd fs=>obtain ⟨_,⟨_,_,_,e,_⟩,_⟩:=x; exact Heap.lt_size e
 | rng lo hi=>obtain ⟨_,_,_,e⟩:=x; exact Heap.lt_size e
 | frz ob u=>obtain ⟨e,_⟩:=x; exact Heap.lt_size e
 | tbl ps=>exact Heap.lt_size (show h.get? a=some _ from x)
 | met f y=>exact Heap.lt_size (show h.get? a=some _ from x)
 | ext φ=>obtain ⟨_,⟨_,e⟩,_⟩:=x; exact Heap.lt_size e
theorem Paired.mapP {α β:Type}{F G:α->β->Prop}:∀ {l₁:List α} {l₂:List β},Paired F l₁ l₂->(∀ a b,F a b->G a b)->Paired G l₁ l₂
 | _,_,.nil,_=>.nil
 | _,_,.cons r t,f=>.cons (f _ _ r) (Paired.mapP t f)
theorem ObjOk.stay (x:ObjOk P w H h a o)(k:∀ b u,(b=a\/H b=some (.own a))->h.get? b=some u->h'.get? b=some u)
  (ho:∀ b,H b=some (.own a)->H' b=some (.own a)) (ht:∀ b xs,H b=some (.tup xs)->H' b=some (.tup xs)):ObjOk P w H' h' a o:=by
 induction o with
 | lst xs=>obtain ⟨z,its,n,r,e⟩:=x; exact ⟨z,its,n,r,k _ _ (.inl rfl) e⟩
 | tup xs=>obtain ⟨z,its,r,ob,e,c⟩:=x; exact ⟨z,its,r,ob,k _ _ (.inl rfl) e,c⟩
 | dK kvs=>obtain ⟨z,y,vs,r,ob,es,ep,e,c⟩:=x; exact ⟨z,y,vs,r,ob,es,ep,k _ _ (.inl rfl) e,c⟩
 | dT kvs =>
  obtain ⟨z,y,xs,r,ob,es,ep,e,c⟩:=x
  exact ⟨z,y,xs,Paired.mapP r fun p q z=>⟨z.1,ht _ _ z.2.1,z.2.2⟩,ob,es,ep,k _ _ (.inl rfl) e,c⟩
 | set S n=>obtain ⟨ob,es,ep,t,e,c⟩:=x; exact ⟨ob,es,ep,t,k _ _ (.inl rfl) e,c⟩
 | ins C dx fs =>
  obtain ⟨d,z,ne,e,mA,⟨od,es,ep,e2,c⟩,r⟩:=x
  exact ⟨ho _ d,z,ne,k _ _ (.inl rfl) e,mA,⟨od,es,ep,k _ _ (.inr d) e2,c⟩,r⟩
 | own y=>obtain ⟨ob,e⟩:=x; exact ⟨ob,k _ _ (.inl rfl) e⟩
 | xd fs=>obtain ⟨mA,⟨od,es,ep,e,c⟩,r⟩:=x; exact ⟨mA,⟨od,es,ep,k _ _ (.inl rfl) e,c⟩,r⟩
 | rng lo hi=>obtain ⟨t,u,v,e⟩:=x; exact ⟨t,u,v,k _ _ (.inl rfl) e⟩
 | frz ob u ih=>obtain ⟨e,q⟩:=x; exact ⟨k _ _ (.inl rfl) e,ih q⟩
 | tbl ps =>
  have e:h.get? a=some { cls:=.none,data:=.fields ps }:=x
  show h'.get? a=some { cls:=.none,data:=.fields ps }
  exact k a _ (.inl rfl) e
 | met f y =>
  have e:h.get? a=some (a1v (.ref f) (.ref y)):=x
  show h'.get? a=some (a1v (.ref f) (.ref y))
  exact k a _ (.inl rfl) e
 | ext φ=>obtain ⟨p,⟨o,e⟩,st⟩:=x; exact ⟨st _ _ p fun o q=>k _ _ (.inl rfl) q,⟨o,k _ _ (.inl rfl) e⟩,st⟩
theorem HOk.lt (x:HOk P w H h)(e:H a=some o):a < h.objs.size:=(x a o e).lt
theorem HOk.fresh (x:HOk P w H h)(e:h.objs.size<=a):H a=none:=by
 cases q:H a with
 | none=>rfl
 | some u=>exact absurd (a0l (x.lt q) e) (a1m _)
theorem HOk.kept (x:HOk P w H h)(k:∀ b u,h.get? b=some u->h'.get? b=some u):HOk P w H h':=fun a o e =>
 (x a o e).stay (fun b u _ q=>k b u q) (fun _ q=>q) fun _ _ q=>q
theorem HOk.laid (x:HOk P w H h)(k:∀ b u,h.get? b=some u->h'.get? b=some u)(hp:h.objs.size<=a)(new:ObjOk P w (upd H a o) h' a o):HOk P w (upd H a o) h':=fun b u e=>by
 have hn:=x.fresh hp
 by_cases hb:b=a
 ·subst hb; rw [ai] at e; cases e; exact new
 ·rw [af hb] at e
  exact (x b u e).stay (fun c v _ q=>k c v q) (fun c q=>by rw [af (av q hn)]; exact q) fun c xs q=>by rw [af (av q hn)]; exact q
end
noncomputable def Rd (H:Hp)(a:Addr)(u:HO):Prop:=H a=some u\/∃ o,H a=some (.frz o u)
theorem Rd.ok {P:Program}{w:World}{H:Hp}{h:Heap}{a:Addr}{u:HO}(r:Rd H a u)(x:HOk P w H h):ObjOk P w H h a u:=by
 rcases r with r | ⟨o,r⟩
 ·exact x a u r
 ·obtain ⟨_,q⟩:=x a _ r
  exact q
noncomputable def Mut:Option HO->Prop
 | some (.lst _)=>True
 | some (.dK _)=>True
 | some (.dT _)=>True
 | some (.set _ _)=>True
 | some (.ins _ _ _)=>True
 | some (.ext _)=>True
 | _=>False
section
variable {P:Program}{w:World}{H:Hp}{h h':Heap}{x e:Addr}{o':HO}
theorem HOk.write (ok:HOk P w H h)(mu:Mut (H x))(he:e=x\/H e=some (.own x))(k:∀ b u,b≠e->h.get? b=some u->h'.get? b=some u)(heo:∃ u,h'.get? e=some u)
  (new:ObjOk P w (upd H x o') h' x o'):HOk P w (upd H x o') h':=fun b u q=>by
 have nown:∀ c y,H c=some (.own y)->c≠x:=fun c y r z=>by subst z; rw [r] at mu; exact mu
 have ntup:∀ c xs,H c=some (.tup xs)->c≠x:=fun c xs r z=>by subst z; rw [r] at mu; exact mu
 by_cases hb:b=x
 ·subst hb; rw [ai] at q; cases q; exact new
 ·rw [af hb] at q
  by_cases hbe:b=e
  ·have q':H b=some (.own x):=by
    rcases he with z | z
    ·exact absurd (hbe.trans z) hb
    ·rw [hbe]; exact z
   rw [q] at q'; cases q'
   obtain ⟨v,hv⟩:=heo
   exact ⟨v,by rw [hbe]; exact hv⟩
  ·refine (ok b u q).stay (fun c v hc r=>k c v ?_ r) (fun c r=>by rw [af (nown c b r)]; exact r) fun c xs r=>by rw [af (ntup c xs r)]; exact r
   rcases hc with rfl | hc
   ·exact hbe
   ·rintro rfl
    rcases he with z | z
    ·exact nown c b hc z
    ·rw [hc] at z; cases z; exact hb rfl
end
structure Un (fs ex:List Addr)(H H':Hp)(h h':Heap):Prop where
 keep:∀ b o,h.get? b=some o->H b=none->b ∉ fs->b ∉ ex->h'.get? b=some o
 slot:∀ b o,h.get? b=some o->H b=none->b∈fs->b ∉ ex->∃ sl,h'.get? b=some { o with slots:=sl }
 free:∀ b o,h.get? b=some o->H b=none->b ∉ ex->H' b=none
 there:∀ b o,h.get? b=some o->b ∉ ex->∃ o',h'.get? b=some o'
 tups:∀ b xs,H b=some (.tup xs)->H' b=some (.tup xs)
 frzs:∀ b o u,H b=some (.frz o u)->H' b=some (.frz o u)
 tbls:∀ b ps,H b=some (.tbl ps)->∃ more,H' b=some (.tbl (ps++more))
section
variable {fs fs' ex ex':List Addr}{H H1 H2:Hp}{h h1 h2 h':Heap}{a x e:Addr}{o:HO}
theorem Un.any (u:Un fs ex H H1 h h1){b:Addr}{ob:Obj}(q:h.get? b=some ob)(n:H b=none)(hx:b ∉ ex):∃ sl,h1.get? b=some { ob with slots:=sl }:=by
 by_cases hb:b∈fs
 ·exact u.slot b ob q n hb hx
 ·exact ⟨ob.slots,u.keep b ob q n hb hx⟩
theorem Un.kept (k:∀ b u,h.get? b=some u->h'.get? b=some u):Un fs ex H H h h' :=
 ⟨fun b ob q _ _ _=>k b ob q,fun b ob q _ _ _=>⟨ob.slots,k b ob q⟩,fun _ _ _ n _=>n,fun b ob q _=>⟨ob,k b ob q⟩,fun _ _ q=>q,fun _ _ _ q=>q,fun _ ps q=>⟨#[],by rw [q]; simp⟩⟩
theorem Un.refl:Un fs ex H H h h:=Un.kept fun _ _ q=>q
theorem Un.laid (k:∀ b u,h.get? b=some u->h'.get? b=some u)(hp:h.objs.size<=a)(hn:H a=none):Un fs ex H (upd H a o) h h' where
 keep:=fun b u q _ _ _=>k b u q
 slot:=fun b u q _ _ _=>⟨u.slots,k b u q⟩
 free:=fun b u q n _=>by rw [af (a0y (a0l (Heap.lt_size q) hp))]; exact n
 there:=fun b u q _=>⟨u,k b u q⟩
 tups:=fun b xs q=>by rw [af (av q hn)]; exact q
 frzs:=fun b u xs q=>by rw [af (av q hn)]; exact q
 tbls:=fun b ps q=>⟨#[],by rw [af (av q hn),q]; simp⟩
theorem Un.write (mu:Mut (H x))(he:e=x\/H e=some (.own x))(k:∀ b u,b≠e->h.get? b=some u->h'.get? b=some u)(heo:∃ u,h'.get? e=some u):Un fs ex H (upd H x o) h h':=by
 have hx:∀ b,H b=none->b≠x:=fun b n z=>by subst z; rw [n] at mu; exact mu
 have hb:∀ b,H b=none->b≠e:=fun b n z=>by
  subst z
  rcases he with r | r
  ·exact hx b n r
  ·rw [n] at r; cases r
 have hm:∀ b u,H b=some u->¬ Mut (some u)->b≠x:=fun b u q nm z=>by subst z; rw [q] at mu; exact nm mu
 refine ⟨fun b u q n _ _=>k b u (hb b n) q,fun b u q n _ _=>⟨u.slots,k b u (hb b n) q⟩,fun b u q n _=>by rw [af (hx b n)]; exact n,fun b u q _=>?_,
  fun b xs q=>by rw [af (hm b _ q fun z=>z)]; exact q,fun b u xs q=>by rw [af (hm b _ q fun z=>z)]; exact q,fun b ps q=>⟨#[],by rw [af (hm b _ q fun z=>z),q]; simp⟩⟩
 by_cases hbe:b=e
 ·subst hbe; exact heo
 ·exact ⟨u,k b u hbe q⟩
end
noncomputable def trk (h:Heap)(H:Hp):List Addr:=(a0P h.objs.size).filter fun a=>(H a).isSome
noncomputable def eJ (h:Heap)(H:Hp):Heap:=PySem.W.hideAll h (trk h H)
theorem iY (h:Heap)(H:Hp):(eJ h H).objs.size=h.objs.size:=PySem.W.hideAll_size _ _
theorem jE {h:Heap}{H:Hp}{b:Addr}{o:Obj}(e:h.get? b=some o)(n:H b=none):(eJ h H).get? b=some o :=
 PySem.W.hideAll_get _ e fun hm=>by
  have q:(H b).isSome=true:=(a2j.mp hm).2
  rw [n] at q; simp at q
theorem oW {h:Heap}{H:Hp}{b:Addr}{o:Obj}(e:(eJ h H).get? b=some o):h.get? b=some o/\H b=none:=by
 have e':h.get? b=some o:=PySem.W.of_hideAll (trk h H) e
 refine ⟨e',?_⟩
 cases q:H b with
 | none=>rfl
 | some x =>
  have hm:b∈trk h H:=a2j.mpr ⟨List.mem_range.mpr (Heap.lt_size e'),by simp [q]⟩
  have z:(eJ h H).get? b=none:=PySem.W.hideAll_none (trk h H) hm
  rw [z] at e; cases e
noncomputable def n9 (g h:Heap)(L:Addr):List (Addr×Obj):=(a0P h.objs.size).filterMap fun a=>if a=L\/(g.get? a).isSome=true then none else (h.get? a).map fun o=>(a,o)
noncomputable def rest (g h:Heap)(L d:Addr):List (Addr×Obj):=(n9 g h L).filter fun p=>decide (p.1≠d)
end L2
namespace L2
open PySem PySem.Spec PyProof.Rows
structure Mod (K:a0a)(mg:Str->Option Value)(base:Heap):Prop where
 kin:K.In base
 glob:base.Ns mainGlobals mg
 blt:∃ mb,base.Ns builtinsNs mb/\∀ x:Str,x≠"__name__"->mb x=bootBuiltins x
 nolimit:base.NoLimit
structure Cx where
 prog:Program
 w:World
 K:a0a
 mg:Str->Option Value
 base:Heap
 A:Around
 N:List Str
 s₀:Shared
 H₀:Hp
 env:Env
 outer:List Env
 stack:List Env
 ex:List Addr
 fn:Str->Bool
 calm:Bool
 pn:List (Addr×Obj)
 xe:Value->Shared->Prop
noncomputable def frs (l:List Env):List Addr:=l.filterMap (·.frame)
noncomputable abbrev Cx.fs (X:Cx):List Addr:=frs X.outer
noncomputable def Vis (sc:Scope)(x:Str):Prop:=sc.names.lookup x=some .local\/sc.names.lookup x=some .cell\/sc.names.lookup x=some .free
noncomputable def Loc (sc:Scope)(x:Str):Prop:=sc.names.lookup x=some .local\/sc.names.lookup x=some .cell
noncomputable def yc (env:Env)(h:Heap)(m:Str->Option Value)(x:Str)(u:Value):Prop :=
 (env.kindOf x=some .local/\m x=some u)\/((env.kindOf x=some .cell\/env.kindOf x=some .free)/\∃ c,env.cells.lookup x=some c/\h.IsCell c (some u))
structure Cx.Ok (X:Cx):Prop where
 mod:Mod X.K X.mg X.base
 kind:X.env.scope.kind=.function
 glob:X.env.globals=mainGlobals
 blt:X.env.builtins=builtinsNs
 above:X.s₀.heap.objs.size<=X.env.locals
 inj:∀ x y c,X.env.cells.lookup x=some c->X.env.cells.lookup y=some c->x=y
 has:∀ x,(X.env.kindOf x=some .cell\/X.env.kindOf x=some .free)->∃ c,X.env.cells.lookup x=some c
 cab:∀ x c,X.fn x=true->X.env.cells.lookup x=some c->X.s₀.heap.objs.size<=c
 hd:X.calm=true->X.A.handled=none
 frames:X.A.frames=some X.stack
 stk:X.stack=X.outer\/(X.stack=X.env::X.outer/\X.env.frame=some X.env.locals)
 exf:∀ b∈X.ex,b≠X.env.locals/\∀ x c,X.env.cells.lookup x=some c->c≠b
 bs:∀ b o,X.base.get? b=some o->X.s₀.heap.get? b=some o/\X.H₀ b=none
 bsz:X.base.objs.size<=X.s₀.heap.objs.size
 noex:∀ b o,X.base.get? b=some o->b ∉ X.ex
 exfs:∀ b∈X.ex,b ∉ X.fs
 funs:X.s₀.heap.FunFrames X.base X.outer
 frf:∀ b∈X.fs,X.H₀ b=none
structure Inv (X:Cx)(pins:List (Addr×Obj))(σ:List (Option V))(H:Hp)(s:Shared):Prop where
 ok:X.Ok
 os:s.os=X.s₀.os
 bare:AllBare s.gens
 base:Un X.fs X.ex X.H₀ H X.s₀.heap s.heap
 loc:∃ m,s.heap.Ns X.env.locals m/\∀ (i:Nat) (x:Str) (v:V),X.N[i]?=some x->σ[i]?=some (some v)->Vis X.env.scope x->∃ u,RelV v u/\yc X.env s.heap m x u
 cell:∀ x c,X.env.cells.lookup x=some c->∃ v,s.heap.IsCell c v
 free:H X.env.locals=none
 freeC:∀ x c,X.env.cells.lookup x=some c->H c=none
 pin:∀ p∈X.pn++pins,s.heap.get? p.1=some p.2/\H p.1=none/\p.1≠X.env.locals/\p.1 ∉ X.fs/\∀ v,p.2.data≠.cell v
 hok:HOk X.prog X.w H s.heap
 len:σ.length=X.N.length
section
variable {X:Cx}{pins:List (Addr×Obj)}{σ:List (Option V)}{H H':Hp}{s:Shared}{h':Heap}
theorem Cx.Ok.nofr (ok:X.Ok){b:Addr}{o:Obj}(e:X.base.get? b=some o):b ∉ X.fs:=fun hb=>by
 have:=(ok.funs.mem hb).1
 rw [e] at this; cases this
theorem Inv.bs (I:Inv X pins σ H s):∀ b o,X.base.get? b=some o->s.heap.get? b=some o/\H b=none:=fun b o e =>
 ⟨I.base.keep b o (I.ok.bs b o e).1 (I.ok.bs b o e).2 (I.ok.nofr e) (I.ok.noex b o e),I.base.free b o (I.ok.bs b o e).1 (I.ok.bs b o e).2 (I.ok.noex b o e)⟩
theorem Inv.bk (I:Inv X pins σ H s):∀ b o,X.base.get? b=some o->s.heap.get? b=some o:=fun b o e=>(I.bs b o e).1
theorem Inv.mod (I:Inv X pins σ H s):Mod X.K X.mg X.base:=I.ok.mod
theorem Inv.kIn (I:Inv X pins σ H s):X.K.In s.heap:=I.ok.mod.kin.keeps I.bk
theorem Inv.lt (I:Inv X pins σ H s):X.env.locals < s.heap.objs.size:=let ⟨_,hn,_⟩:=I.loc; hn.lt
theorem Inv.sz (I:Inv X pins σ H s):X.s₀.heap.objs.size<=s.heap.objs.size:=a0p I.ok.above (a1H I.lt)
theorem Inv.nofs (I:Inv X pins σ H s){a:Addr}(h:s.heap.objs.size<=a):a ∉ X.fs:=fun hb=>by
 obtain ⟨_,o,ho,_⟩:=I.ok.funs.mem hb
 exact absurd (a0l (Heap.lt_size ho) (a0p I.sz h)) (a1m _)
theorem Inv.cne (I:Inv X pins σ H s):∀ x c,X.env.cells.lookup x=some c->c≠X.env.locals:=fun x c e z=>by
 obtain ⟨v,o,ho,hd⟩:=I.cell x c e
 obtain ⟨m,⟨o',es,ep,ho',hd',_⟩,_⟩:=I.loc
 rw [z,ho'] at ho; cases ho; rw [hd'] at hd; cases hd
theorem Inv.funs (I:Inv X pins σ H s):s.heap.FunFrames X.base X.outer:=by
 have all:∀ (l:List Env),(∀ b∈frs l,b∈X.fs)->X.s₀.heap.FunFrames X.base l->s.heap.FunFrames X.base l:=by
  intro l
  induction l with
  | nil=>intro _ _; trivial
  | cons env r ih =>
   intro hs hl
   obtain ⟨hk,⟨L,o,hf,hn,ho,hd⟩,hr⟩:=hl
   have hL:L∈X.fs:=hs L (by unfold frs; rw [a0E,hf]; exact a0d)
   obtain ⟨sl,e⟩:=I.base.slot L o ho (I.ok.frf L hL) hL fun z=>I.ok.exfs L z hL
   exact ⟨hk,⟨L,_,hf,hn,e,hd⟩,ih (fun b hb=>hs b (by unfold frs; rw [a0E,hf]; exact a0f _ hb)) hr⟩
 exact all X.outer (fun _ hb=>hb) I.ok.funs
theorem Inv.stack (I:Inv X pins σ H s):s.heap.FunFrames X.base X.stack:=by
 rcases I.ok.stk with e | ⟨e,hf⟩
 ·rw [e]; exact I.funs
 ·rw [e]
  obtain ⟨m,hn,_⟩:=I.loc
  refine .cons (by rw [I.ok.kind]; decide) hf hn ?_ I.funs
  exact Heap.get?_none_of_le (a0p I.ok.bsz I.ok.above)
theorem Inv.stkSub (I:Inv X pins σ H s):∀ b∈frs X.stack,b∈X.env.locals::X.fs:=fun b hb=>by
 rcases I.ok.stk with e | ⟨e,hf⟩
 ·rw [e] at hb; exact a0f _ hb
 ·rw [e] at hb
  unfold frs at hb
  rw [a0E,hf] at hb
  exact hb
theorem Inv.stkFree (I:Inv X pins σ H s):∀ b∈frs X.stack,H b=none:=fun b hb=>by
 rcases a0k.mp (I.stkSub b hb) with e | hb
 ·rw [e]; exact I.free
 ·obtain ⟨_,o,ho,_⟩:=I.ok.funs.mem hb
  exact I.base.free b o ho (I.ok.frf b hb) fun z=>I.ok.exfs b z hb
theorem Inv.step {g':Array GenState}{t':Nat}{d':Drawn}{ch:List Addr}(I:Inv X pins σ H s)
  (hch:∀ b∈ch,(b∈X.ex\/X.s₀.heap.objs.size<=b)/\b≠X.env.locals/\(∀ x c,X.env.cells.lookup x=some c->c≠b)/\∀ p∈X.pn++pins,p.1≠b)
  (keep:∀ b o,b≠X.env.locals->b ∉ X.fs->b ∉ ch->s.heap.get? b=some o->H b=none->h'.get? b=some o)
  (slot:∀ b o,b≠X.env.locals->b∈X.fs->b ∉ ch->s.heap.get? b=some o->H b=none->∃ sl,h'.get? b=some { o with slots:=sl }) (free:∀ b o,b ∉ ch->s.heap.get? b=some o->H b=none->H' b=none)
  (there:∀ b o,b ∉ ch->s.heap.get? b=some o->∃ o',h'.get? b=some o')
  (tups:∀ b xs,H b=some (.tup xs)->H' b=some (.tup xs)) (frzs:∀ b o u,H b=some (.frz o u)->H' b=some (.frz o u)) (tbls:∀ b ps,H b=some (.tbl ps)->∃ more,H' b=some (.tbl (ps++more)))
  (ns:∀ m,s.heap.Ns X.env.locals m->h'.Ns X.env.locals m) (hok:HOk X.prog X.w H' h') (hg:AllBare g') :
  Inv X pins σ H' { s with heap:=h',gens:=g',drawn:=d',toks:=t' }:=by
 have neL:∀ b o,X.s₀.heap.get? b=some o->b≠X.env.locals:=fun b o e=>a0y (a0l (Heap.lt_size e) I.ok.above)
 have neC:∀ b o,X.s₀.heap.get? b=some o->b ∉ X.ex->b ∉ ch:=fun b o e hx hb=>by
  rcases (hch b hb).1 with z | z
  ·exact hx z
  ·exact absurd (a0l (Heap.lt_size e) z) (a1m _)
 have cellK:∀ x c,X.env.cells.lookup x=some c->∀ v,s.heap.IsCell c v->h'.IsCell c v:=fun x c e v ⟨o,ho,hd⟩=>by
  have nch:c ∉ ch:=fun z=>(hch c z).2.2.1 x c e rfl
  by_cases hc:c∈X.fs
  ·obtain ⟨sl,q⟩:=slot c o (I.cne x c e) hc nch ho (I.freeC x c e)
   exact ⟨_,q,hd⟩
  ·exact ⟨o,keep c o (I.cne x c e) hc nch ho (I.freeC x c e),hd⟩
 refine ⟨I.ok,I.os,hg,⟨fun b o e n hb hx=>?_,fun b o e n hb hx=>?_,fun b o e n hx=>?_,fun b o e hx=>?_,fun b xs e=>tups b xs (I.base.tups b xs e),fun b o xs e=>frzs b o xs (I.base.frzs b o xs e),fun b ps e=>?_⟩,?_,fun x c e=>?_,?_,fun x c e=>?_,fun p hp=>?_,hok,I.len⟩
 ·exact keep b o (neL b o e) hb (neC b o e hx) (I.base.keep b o e n hb hx) (I.base.free b o e n hx)
 ·obtain ⟨sl,e1⟩:=I.base.slot b o e n hb hx
  obtain ⟨sl',e2⟩:=slot b _ (neL b o e) hb (neC b o e hx) e1 (I.base.free b o e n hx)
  exact ⟨sl',e2⟩
 ·obtain ⟨o',e1⟩:=I.base.there b o e hx
  exact free b o' (neC b o e hx) e1 (I.base.free b o e n hx)
 ·obtain ⟨o',e1⟩:=I.base.there b o e hx
  exact there b o' (neC b o e hx) e1
 ·obtain ⟨m1,e1⟩:=I.base.tbls b ps e
  obtain ⟨m2,e2⟩:=tbls b _ e1
  exact ⟨m1++m2,by rw [e2,Array.append_assoc]⟩
 ·obtain ⟨m,hn,hl⟩:=I.loc
  refine ⟨m,ns m hn,fun i x v e1 e2 e3=>?_⟩
  obtain ⟨u,r,l⟩:=hl i x v e1 e2 e3
  refine ⟨u,r,?_⟩
  rcases l with l | ⟨k,c,e,z⟩
  ·exact .inl l
  ·exact .inr ⟨k,c,e,cellK x c e _ z⟩
 ·obtain ⟨v,z⟩:=I.cell x c e
  exact ⟨v,cellK x c e v z⟩
 ·obtain ⟨m,⟨o,_,_,ho,_⟩,_⟩:=I.loc
  exact free _ o (fun z=>(hch _ z).2.1 rfl) ho I.free
 ·obtain ⟨v,o,ho,hd⟩:=I.cell x c e
  exact free c o (fun z=>(hch c z).2.2.1 x c e rfl) ho (I.freeC x c e)
 ·obtain ⟨e,n,ne,nf,d⟩:=I.pin p hp
  have nch:p.1 ∉ ch:=fun z=>(hch p.1 z).2.2.2 p hp rfl
  exact ⟨keep p.1 p.2 ne nf nch e n,free p.1 p.2 nch e n,ne,nf,d⟩
theorem Inv.un {t':Nat}(I:Inv X pins σ H s)(u:Un X.fs [] H H' s.heap h')(hok:HOk X.prog X.w H' h'):Inv X pins σ H' { s with heap:=h',toks:=t' }:=by
 obtain ⟨m,⟨o,es,ep,ho,r⟩,_⟩:=id I.loc
 obtain ⟨sl,hL⟩:=u.any ho I.free (by simp)
 exact I.step (g':=s.gens) (d':=s.drawn) (ch:=[]) (fun _ z=>nomatch z) (fun b o _ hb _ e n=>u.keep b o e n hb (by simp)) (fun b o _ hb _ e n=>u.slot b o e n hb (by simp)) (fun b o _ e n=>u.free b o e n (by simp)) (fun b o _ e=>u.there b o e (by simp)) u.tups u.frzs u.tbls (fun m' hm=>by
  obtain ⟨o',es',ep',ho',r'⟩:=hm
  rw [ho] at ho'; cases ho'
  exact ⟨_,es',ep',hL,r'⟩) hok I.bare
theorem Inv.call {g':Array GenState}{t':Nat}{d':Drawn}{ch:List Addr}(I:Inv X pins σ H s)(u:Un (frs X.stack) ch H H' s.heap h')(hok:HOk X.prog X.w H' h')(hg:AllBare g')
  (hch:∀ b∈ch,(b∈X.ex\/X.s₀.heap.objs.size<=b)/\b≠X.env.locals/\(∀ x c,X.env.cells.lookup x=some c->c≠b)/\∀ p∈X.pn++pins,p.1≠b) :
  Inv X pins σ H' { s with heap:=h',gens:=g',drawn:=d',toks:=t' }:=by
 obtain ⟨m,⟨o,es,ep,ho,r⟩,_⟩:=id I.loc
 obtain ⟨sl,hL⟩:=u.any ho I.free fun z=>(hch _ z).2.1 rfl
 exact I.step (ch:=ch) hch (fun b o hL hb hc e n=>u.keep b o e n (fun z=>(a0k.mp (I.stkSub b z)).elim hL hb) hc) (fun b o _ _ hc e n=>u.any e n hc) (fun b o hc e n=>u.free b o e n hc) (fun b o hc e=>u.there b o e hc) u.tups u.frzs u.tbls (fun m' hm=>by
  obtain ⟨o',es',ep',ho',r'⟩:=hm
  rw [ho] at ho'; cases ho'
  exact ⟨_,es',ep',hL,r'⟩) hok hg
theorem Inv.turned {t':Nat}{it:Addr}(I:Inv X pins σ H s)(k:∀ b o,b≠it->s.heap.get? b=some o->h'.get? b=some o)(hn:H it=none)(hL:it≠X.env.locals)
  (h1:it∈X.ex\/X.s₀.heap.objs.size<=it) (h2:∀ x c,X.env.cells.lookup x=some c->c≠it) (h3:∀ p∈X.pn++pins,p.1≠it):Inv X pins σ H { s with heap:=h',toks:=t' }:=by
 have nit:∀ b u,H b=some u->b≠it:=fun b u e z=>by rw [z,hn] at e; cases e
 refine I.step (g':=s.gens) (d':=s.drawn) (ch:=[it]) (fun b hb=>?_) (fun b o _ _ hc e _=>k b o (fun z=>hc (by simp [z])) e) (fun b o _ _ hc e _=>⟨o.slots,k b o (fun z=>hc (by simp [z])) e⟩) (fun _ _ _ _ n=>n)
  (fun b o hc e=>⟨o,k b o (fun z=>hc (by simp [z])) e⟩) (fun _ _ e=>e) (fun _ _ _ e=>e) (fun b ps e=>⟨#[],by rw [e]; simp⟩) (fun m hm=>?_) (fun b u e=>?_) I.bare
 ·have e:b=it:=by simpa using hb
  subst e
  exact ⟨h1,hL,h2,h3⟩
 ·obtain ⟨o,es,ep,ho,r⟩:=hm
  exact ⟨o,es,ep,k _ o (a1r hL) ho,r⟩
 ·refine (I.hok b u e).stay (fun c v hc q=>k c v ?_ q) (fun _ q=>q) fun _ _ q=>q
  rcases hc with z | z
  ·rw [z]; exact nit b u e
  ·exact nit c _ z
theorem Inv.tok (I:Inv X pins σ H s)(t:Nat):Inv X pins σ H { s with toks:=t }:=I.un (h':=s.heap) (t':=t) Un.refl I.hok
theorem Inv.kept {t':Nat}(I:Inv X pins σ H s)(k:∀ b u,s.heap.get? b=some u->h'.get? b=some u):Inv X pins σ H { s with heap:=h',toks:=t' }:=I.un (Un.kept k) (I.hok.kept k)
theorem Inv.laid {a:Addr}{o:HO}{t':Nat}(I:Inv X pins σ H s)(k:∀ b u,s.heap.get? b=some u->h'.get? b=some u)(hp:s.heap.objs.size<=a)(new:ObjOk X.prog X.w (upd H a o) h' a o) :
  Inv X pins σ (upd H a o) { s with heap:=h',toks:=t' }:=I.un (Un.laid k hp (I.hok.fresh hp)) (I.hok.laid k hp new)
theorem Inv.write {x e:Addr}{o:HO}{t':Nat}(I:Inv X pins σ H s)(mu:Mut (H x))(he:e=x\/H e=some (.own x))(k:∀ b u,b≠e->s.heap.get? b=some u->h'.get? b=some u)(heo:∃ u,h'.get? e=some u)
  (new:ObjOk X.prog X.w (upd H x o) h' x o):Inv X pins σ (upd H x o) { s with heap:=h',toks:=t' }:=I.un (Un.write mu he k heo) (I.hok.write mu he k heo new)
theorem Inv.pins_of {pins':List (Addr×Obj)}(I:Inv X pins σ H s)(h:∀ p∈pins',s.heap.get? p.1=some p.2/\H p.1=none/\p.1≠X.env.locals/\p.1 ∉ X.fs/\∀ v,p.2.data≠.cell v):Inv X pins' σ H s :=
 ⟨I.ok,I.os,I.bare,I.base,I.loc,I.cell,I.free,I.freeC,fun p hp=>(a0X.mp hp).elim (fun z=>I.pin p (a1k _ z)) (h p),I.hok,I.len⟩
theorem fT {N:List Str}(hN:N.Nodup){i j:Nat}{x:Str}(a:N[i]?=some x)(b:N[j]?=some x):i=j:=by
 obtain ⟨h1,e1⟩:=a0o.mp a
 obtain ⟨h2,e2⟩:=a0o.mp b
 exact (List.getElem_inj hN).mp (e1.trans e2.symm)
theorem iX {M:Model}{A:Around}{E:Value->Shared->Prop}{i:Nat}{x:Str}{v:V}{u:Value}{Q:Unit->Shared->Prop}(I:Inv X pins σ H s)(hN:X.N.Nodup)(hi:X.N[i]?=some x)(hx:Loc X.env.scope x)(r:RelV v u)
  (h:∀ s',Inv X pins (σ.set i (some v)) H s'->(∃ a,Heap.SameBut a s.heap s'.heap/\(a=X.env.locals\/X.env.cells.lookup x=some a))->Q () s') (hf:X.fn x=true\/X.env.scope.names.lookup x=some .local:=by first | exact .inl rfl | exact .inr rfl | assumption):wpAny M A (storeName X.env x u) Q E s:=by
 obtain ⟨m,hn,hl⟩:=id I.loc
 have hcls:(X.env.scope.kind==.class || (X.env.scope.kind==.module&&X.env.locals != X.env.globals))=false:=by rw [I.ok.kind]; rfl
 have hiσ:i < σ.length:=by rw [I.len]; exact (a0o.mp hi).1
 have cne:=I.cne
 have tracked:∀ {a:Addr} {h':Heap},(∃ o,s.heap.get? a=some o/\H a=none)->Heap.SameBut a s.heap h'->HOk X.prog X.w H h':=fun {a h'} ha hs b ob e=>by
  obtain ⟨_,_,hfree⟩:=ha
  refine (I.hok b ob e).stay (fun c w' hc q=>(hs.2 c ?_).trans q) (fun _ q=>q) fun _ _ q=>q
  rintro rfl
  rcases hc with rfl | hc
  ·rw [hfree] at e; cases e
  ·rw [hfree] at hc; cases hc
 rcases hx with hk | hk
 ·refine wpAny_storeName_local hk hn (fun h' hn' hs=>?_) hcls
  obtain ⟨oL,_,_,hoL,_⟩:=id hn
  refine h _ ⟨I.ok,I.os,I.bare,⟨fun b o e n hb hx=>?_,fun b o e n hb hx=>?_,I.base.free,fun b o e hx=>?_,I.base.tups,I.base.frzs,I.base.tbls⟩,⟨_,hn',fun j y v' e1 e2 e3=>?_⟩,fun y c e=>?_,I.free,I.freeC,fun p hp=>?_,tracked ⟨oL,hoL,I.free⟩ hs,by simpa using I.len⟩ ⟨_,hs,.inl rfl⟩
  ·exact (hs.2 b (a0y (a0l (Heap.lt_size e) I.ok.above))).trans (I.base.keep b o e n hb hx)
  ·obtain ⟨sl,e1⟩:=I.base.slot b o e n hb hx
   exact ⟨sl,(hs.2 b (a0y (a0l (Heap.lt_size e) I.ok.above))).trans e1⟩
  ·obtain ⟨o',e1⟩:=I.base.there b o e hx
   exact ⟨o',(hs.2 b (a0y (a0l (Heap.lt_size e) I.ok.above))).trans e1⟩
  ·by_cases hj:j=i
   ·subst hj
    rw [hi] at e1; cases e1
    rw [a1e hiσ] at e2
    cases e2
    exact ⟨u,r,.inl ⟨hk,by simp⟩⟩
   ·rw [a03 (a1r hj)] at e2
    obtain ⟨u',r',q⟩:=hl j y v' e1 e2 e3
    refine ⟨u',r',?_⟩
    rcases q with ⟨k,e⟩ | ⟨k,c,e,z⟩
    ·refine .inl ⟨k,?_⟩
     have:y≠x:=fun e=>hj (fT hN e1 (e ▸ hi))
     simp [this,e]
    ·exact .inr ⟨k,c,e,z.sameBut hs (cne y c e)⟩
  ·obtain ⟨w',z⟩:=I.cell y c e
   exact ⟨w',z.sameBut hs (cne y c e)⟩
  ·obtain ⟨e,n,ne,nf,d⟩:=I.pin p hp
   exact ⟨(hs.2 p.1 ne).trans e,n,ne,nf,d⟩
 ·have hfn:X.fn x=true:=by
   rcases hf with z | z
   ·exact z
   ·rw [z] at hk; cases hk
  obtain ⟨c,hc⟩:=I.ok.has x (.inl hk)
  obtain ⟨w',z⟩:=I.cell x c hc
  refine wpAny_storeName_cell I.ok.kind hk hc z (fun h' hc' hs=>?_)
  obtain ⟨oc,hoc,hocd⟩:=id z
  refine h { s with heap:=h' } ⟨I.ok,I.os,I.bare,⟨fun b o e n hb hx=>?_,fun b o e n hb hx=>?_,I.base.free,fun b o e hx=>?_,I.base.tups,I.base.frzs,I.base.tbls⟩,⟨m,hn.sameBut hs (a1r (cne x c hc)),fun j y v' e1 e2 e3=>?_⟩,fun y c' e=>?_,I.free,I.freeC,fun p hp=>?_,tracked ⟨oc,hoc,I.freeC x c hc⟩ hs,by simpa using I.len⟩ ⟨c,hs,.inr hc⟩
  ·exact (hs.2 b (a0y (a0l (Heap.lt_size e) (I.ok.cab x c hfn hc)))).trans (I.base.keep b o e n hb hx)
  ·obtain ⟨sl,e1⟩:=I.base.slot b o e n hb hx
   exact ⟨sl,(hs.2 b (a0y (a0l (Heap.lt_size e) (I.ok.cab x c hfn hc)))).trans e1⟩
  ·obtain ⟨o',e1⟩:=I.base.there b o e hx
   exact ⟨o',(hs.2 b (a0y (a0l (Heap.lt_size e) (I.ok.cab x c hfn hc)))).trans e1⟩
  ·by_cases hj:j=i
   ·subst hj
    rw [hi] at e1; cases e1
    rw [a1e hiσ] at e2
    cases e2
    exact ⟨u,r,.inr ⟨.inl hk,c,hc,hc'⟩⟩
   ·rw [a03 (a1r hj)] at e2
    obtain ⟨u',r',q⟩:=hl j y v' e1 e2 e3
    refine ⟨u',r',?_⟩
    rcases q with q | ⟨k,c',e,z'⟩
    ·exact .inl q
    ·refine .inr ⟨k,c',e,z'.sameBut hs ?_⟩
     rintro rfl
     exact hj (fT hN e1 (I.ok.inj _ _ _ e hc ▸ hi))
  ·by_cases hcc:c'=c
   ·subst hcc; exact ⟨_,hc'⟩
   ·obtain ⟨w2,z2⟩:=I.cell y c' e
    exact ⟨w2,z2.sameBut hs hcc⟩
  ·obtain ⟨e,n,ne,nf,d⟩:=I.pin p hp
   refine ⟨(hs.2 p.1 ?_).trans e,n,ne,nf,d⟩
   intro q
   rw [q,hoc] at e
   have q':oc=p.2:=a0t e
   exact d w' (by rw [<- q']; exact hocd)
theorem fw {M:Model}{A:Around}{E:Value->Shared->Prop}{i:Nat}{x:Str}{v:V}{u:Value}{Q:Unit->Shared->Prop}(I:Inv X pins σ H s)(hN:X.N.Nodup)(hi:X.N[i]?=some x)(hx:Loc X.env.scope x)(r:RelV v u)
  (h:∀ s',Inv X pins (σ.set i (some v)) H s'->Q () s') (hf:X.fn x=true\/X.env.scope.names.lookup x=some .local:=by first | exact .inl rfl | exact .inr rfl | assumption):wpAny M A (storeName X.env x u) Q E s :=
 iX I hN hi hx r (fun s' I' _=>h s' I') hf
end
noncomputable abbrev XK:=Value->Option Addr->Hp->Prop
noncomputable abbrev St:=List (Option V)
noncomputable abbrev VK:=V->Hp->Prop
noncomputable abbrev TE:=St->Hp->VK->Prop
noncomputable abbrev TT:=St->Hp->(Bool->Hp->Prop)->Prop
noncomputable abbrev TA:=St->Hp->(List V->Hp->Prop)->Prop
structure a9 where
 nx:St->Hp->Prop
 rt:VK
 bk:St->Hp->Prop:=fun _ _=>False
 ct:St->Hp->Prop:=fun _ _=>False
noncomputable abbrev TS:=a9->St->Hp->Prop
noncomputable def EP (X:Cx)(pins:List (Addr×Obj))(σ:St)(Q:VK)(u:Value)(s':Shared):Prop:=∃ v H',Inv X pins σ H' s'/\RelV v u/\Q v H'
noncomputable def TP (X:Cx)(pins:List (Addr×Obj))(σ:St)(Q:Bool->Hp->Prop)(b:Bool)(s':Shared):Prop:=∃ H',Inv X pins σ H' s'/\Q b H'
noncomputable def AP (X:Cx)(pins:List (Addr×Obj))(σ:St)(Q:List V->Hp->Prop)(us:List Value)(s':Shared):Prop:=∃ vs H',Inv X pins σ H' s'/\Vals vs us/\Q vs H'
noncomputable def SP (X:Cx)(pins:List (Addr×Obj))(D:a9)(f:Flow)(s':Shared):Prop :=
 match f with
 | .next=>∃ σ' H',Inv X pins σ' H' s'/\D.nx σ' H'
 | .brk=>∃ σ' H',Inv X pins σ' H' s'/\D.bk σ' H'
 | .cont=>∃ σ' H',Inv X pins σ' H' s'/\D.ct σ' H'
 | .ret u=>∃ v σ' H',Inv X pins σ' H' s'/\RelV v u/\D.rt v H'
noncomputable def PE (X:Cx)(e:Expr)(t:TE):Prop :=
 ∀ (pins:List (Addr×Obj)) (s:Shared) (σ:St) (H:Hp) (Q:VK),Inv X pins σ H s->t σ H Q->wpAny (model X.prog X.w) X.A (eval e X.env) (EP X pins σ Q) X.xe s
noncomputable def PT (X:Cx)(e:Expr)(t:TT):Prop :=
 ∀ (pins:List (Addr×Obj)) (s:Shared) (σ:St) (H:Hp) (Q:Bool->Hp->Prop),Inv X pins σ H s->t σ H Q->wpAny (model X.prog X.w) X.A (isTrue e X.env (eval e X.env)) (TP X pins σ Q) X.xe s
noncomputable def PW (X:Cx)(e:Expr)(t:TT):Prop :=
 ∀ (whole:Sem Value) (pins:List (Addr×Obj)) (s:Shared) (σ:St) (H:Hp) (Q:Bool->Hp->Prop),Inv X pins σ H s->t σ H Q->wpAny (model X.prog X.w) X.A (isTrue e X.env whole) (TP X pins σ Q) X.xe s
theorem PW.pt {X:Cx}{e:Expr}{t:TT}(h:PW X e t):PT X e t:=h _
noncomputable def PA (X:Cx)(es:List Expr)(t:TA):Prop :=
 ∀ (pos:Pos) (pins:List (Addr×Obj)) (s:Shared) (σ:St) (H:Hp) (Q:List V->Hp->Prop),Inv X pins σ H s->t σ H Q->wpAny (model X.prog X.w) X.A (spliced (backTo pos (starEach es X.env))) (AP X pins σ Q) X.xe s
noncomputable def PS (X:Cx)(st:Stmt)(t:TS):Prop :=
 ∀ (pins:List (Addr×Obj)) (s:Shared) (σ:St) (H:Hp) (D:a9),Inv X pins σ H s->t D σ H->wpAny (model X.prog X.w) X.A (exec st X.env) (SP X pins D) X.xe s
noncomputable def PSs (X:Cx)(st:List Stmt)(t:TS):Prop :=
 ∀ (pins:List (Addr×Obj)) (s:Shared) (σ:St) (H:Hp) (D:a9),Inv X pins σ H s->t D σ H->wpAny (model X.prog X.w) X.A (execs st X.env) (SP X pins D) X.xe s
theorem thn {α:Type}{t:Sem α}{Q Q':α->Shared->Prop}{M:Model}{A:Around}{E:Value->Shared->Prop}{s:Shared}(h:wpAny M A t Q E s)(hQ:∀ a s,Q a s->Q' a s):wpAny M A t Q' E s:=wpAny_mono h hQ fun _ _ x=>x
end L2
namespace L2
open PySem PySem.Spec PyProof.Rows
section
variable {X:Cx}
noncomputable def iW (i:Nat):TE:=fun σ H Q=>∃ v,σ[i]?=some (some v)/\Q v H
noncomputable def tC (v:V):TE:=fun _ H Q=>Q v H
theorem bq {i:Nat}{x:Str}{pos:Pos}(hN:X.N[i]?=some x)(hv:Vis X.env.scope x)(hd:(x==("__debug__":Str))=false:=by decide)(hcd:(x==("__classdict__":Str))=false:=by decide):PE X (.Name x pos) (iW i):=by
 intro pins s σ H Q I h
 obtain ⟨v,e,h⟩:=h
 obtain ⟨m,hn,hl⟩:=I.loc
 obtain ⟨u,r,l⟩:=hl i x v hN e hv
 have fin:EP X pins σ Q u s:=⟨v,H,I,r,h⟩
 rcases l with ⟨hk,hm⟩ | ⟨hk,c,hc,hcell⟩
 ·exact wpAny_Name (wpAny_loadName_local I.ok.kind hk hn hm fin) hd
 ·rcases hk with hk | hk
  ·exact wpAny_Name (wpAny_loadName_cell I.ok.kind hk hc hcell fin) hd
  ·exact wpAny_Name (wpAny_loadName_free I.ok.kind hk hc hcell fin hcd) hd
theorem qT {i j pos}:PE X (.Constant (.int i) j pos) (tC (.int i)):=fun _ _ _ H _ I h=>wpAny_Constant_int ⟨.int i,H,I.tok _,⟨_,rfl⟩,h⟩
theorem wY {b j pos}:PE X (.Constant (.bool b) j pos) (tC (.bl b)):=fun _ _ _ H _ I h=>Constant_bool ⟨.bl b,H,I,rfl,h⟩
theorem tH {x j pos}:PE X (.Constant (.str x) j pos) (tC (.str x)):=fun _ _ _ H _ I h=>Calls.Constant_str ⟨.str x,H,I.tok _,⟨_,rfl⟩,h⟩
noncomputable def Gl (X:Cx)(x:Str):Prop:=X.env.kindOf x=some .globalImplicit
theorem iN {E:Value->Shared->Prop}{pins:List (Addr×Obj)}{s:Shared}{σ:St}{H:Hp}{x:Str}{u:Value}{pos:Pos}{Q:Value->Shared->Prop}(I:Inv X pins σ H s)(hg:Gl X x)(hm:X.mg x=some u)(h:Q u s)
  (hd:(x==("__debug__":Str))=false:=by decide):wpAny (model X.prog X.w) X.A (eval (.Name x pos) X.env) Q E s :=
 Calls.Name_function_global I.ok.kind hg (Calls.loadGlobal_global (by rw [I.ok.glob]; exact I.mod.glob.keeps I.bk) hm h) hd
theorem cN {E:Value->Shared->Prop}{pins:List (Addr×Obj)}{s:Shared}{σ:St}{H:Hp}{x:Str}{u:Value}{pos:Pos}{Q:Value->Shared->Prop}(I:Inv X pins σ H s)(hg:Gl X x)(hm:X.mg x=none)(hv:bootBuiltins x=some u)(h:Q u s)
  (hn:x≠"__name__":=by decide) (hd:(x==("__debug__":Str))=false:=by decide):wpAny (model X.prog X.w) X.A (eval (.Name x pos) X.env) Q E s:=by
 obtain ⟨mb,h1,h2⟩:=I.mod.blt
 exact Calls.Name_function_global I.ok.kind hg (Calls.loadGlobal_builtin (by rw [I.ok.glob]; exact I.mod.glob.keeps I.bk) hm (by rw [I.ok.blt]; exact h1.keeps I.bk) ((h2 x hn).trans hv) h) hd
theorem mj {x:Str}{v:V}{u:Value}{pos:Pos}(hg:Gl X x)(hm:X.mg x=some u)(r:RelV v u)(hd:(x==("__debug__":Str))=false:=by decide):PE X (.Name x pos) (tC v) :=
 fun _ _ _ H _ I h=>iN I hg hm ⟨v,H,I,r,h⟩ hd
theorem n5 {x:Str}{v:V}{u:Value}{pos:Pos}(hg:Gl X x)(hm:X.mg x=none)(hv:bootBuiltins x=some u)(r:RelV v u)(hn:x≠"__name__":=by decide)(hd:(x==("__debug__":Str))=false:=by decide):PE X (.Name x pos) (tC v) :=
 fun _ _ _ H _ I h=>cN I hg hm hv ⟨v,H,I,r,h⟩ hn hd
variable {a b:Expr}{ta tb:TE}{pos:Pos}
noncomputable def PC (X:Cx)(op:CmpOp)(a b:Expr)(t:TE):Prop :=
 ∀ (pins:List (Addr×Obj)) (s:Shared) (σ:St) (H:Hp) (Q:VK),Inv X pins σ H s->t σ H Q ->
  wpAny (model X.prog X.w) X.A (eval a X.env) (fun v s₁=>wpAny (model X.prog X.w) X.A (eval b X.env) (fun u s₂=>wpAny (model X.prog X.w) X.A (compareOp op v u) (EP X pins σ Q) X.xe s₂) X.xe s₁) X.xe s
noncomputable def tB (t:TE):TT:=fun σ H Q=>t σ H fun x H1=>∃ c,x=.bl c/\Q c H1
variable {tA tB':TT}{rest:List Expr}
noncomputable def w9 (t u:TT):TT:=fun σ H Q=>t σ H fun c H1=>if c=true then u σ H1 Q else Q false H1
noncomputable def tOr (t u:TT):TT:=fun σ H Q=>t σ H fun c H1=>if c=true then Q true H1 else u σ H1 Q
noncomputable def uz (t:TT):TT:=fun σ H Q=>t σ H fun c H1=>Q (!c) H1
theorem oo (ha:PT X a tA):PW X (.BoolOp .And [a] pos) tA:=by
 intro wh pins s σ H Q I h
 refine isTrue_and (thn (ha pins s σ H Q I h) fun c s1 e=>?_)
 cases c with
 | true=>exact isTrue_and_nil e
 | false=>exact e
theorem qU (ha:PT X a tA):PW X (.BoolOp .Or [a] pos) tA:=by
 intro wh pins s σ H Q I h
 refine isTrue_or (thn (ha pins s σ H Q I h) fun c s1 e=>?_)
 cases c with
 | false=>exact isTrue_or_nil e
 | true=>exact e
theorem qJ (ha:PT X a tA)(hb:PW X (.BoolOp .And (b::rest) pos) tB'):PW X (.BoolOp .And (a::b::rest) pos) (w9 tA tB'):=by
 intro wh pins s σ H Q I h
 refine isTrue_and (thn (ha pins s σ H _ I h) fun c s1 ⟨H1,I1,q1⟩=>?_)
 cases c with
 | true=>exact hb wh pins s1 σ H1 Q I1 q1
 | false=>exact ⟨H1,I1,q1⟩
theorem wO (ha:PT X a tA)(hb:PW X (.BoolOp .Or (b::rest) pos) tB'):PW X (.BoolOp .Or (a::b::rest) pos) (tOr tA tB'):=by
 intro wh pins s σ H Q I h
 refine isTrue_or (thn (ha pins s σ H _ I h) fun c s1 ⟨H1,I1,q1⟩=>?_)
 cases c with
 | true=>exact ⟨H1,I1,q1⟩
 | false=>exact hb wh pins s1 σ H1 Q I1 q1
theorem rD (ha:PT X a tA):PT X (.UnaryOp .Not a pos) (uz tA):=by
 intro pins s σ H Q I h
 exact isTrue_not (ha pins s σ H (fun c H1=>Q (!c) H1) I h)
noncomputable def tIf (t:TT)(ta tb:TE):TE:=fun σ H Q=>t σ H fun c H1=>if c=true then ta σ H1 Q else tb σ H1 Q
theorem kZ {c:Expr}(hc:PT X c tA)(ha:PE X a ta)(hb:PE X b tb):PE X (.IfExp c a b pos) (tIf tA ta tb):=by
 intro pins s σ H Q I h
 refine wpAny_IfExp (thn (hc pins s σ H _ I h) fun d s1 ⟨H1,I1,q1⟩=>?_)
 cases d with
 | true=>exact ha pins s1 σ H1 Q I1 q1
 | false=>exact hb pins s1 σ H1 Q I1 q1
end
end L2
namespace L2
open PySem PySem.Spec PyProof.Rows
noncomputable def SqL (K:a0a)(H:Hp)(a:Addr)(xs:List V):Prop :=
 Rd H a (.lst xs) \/
  ∃ (o:Obj) (its:Array Value) (n:Nat),K.lookup a=some o/\o.cls=.type "list"/\o.dict=none/\o.data=.seq its n/\its.size<=sizeLine/\Vals xs its.toList
noncomputable def SqT (K:a0a)(H:Hp)(a:Addr)(xs:List V):Prop :=
 Rd H a (.tup xs) \/
  ∃ (o:Obj) (its:Array Value) (n:Nat),K.lookup a=some o/\o.cls=.type "tuple"/\o.data=.seq its n/\its.size<=sizeLine/\Vals xs its.toList
noncomputable def x4:Value->Option V
 | .none=>some .non
 | .bool b=>some (.bl b)
 | .int i _=>some (.int i)
 | .str x _=>some (.str x)
 | .bytes b _=>some (.byt b)
 | .float b _=>some (.flt b)
 | .ref a=>some (.ref a)
 | .type n=>some (.ty n)
 | _=>none
theorem RelV.abs {x:V}{u:Value}(r:RelV x u):x4 u=some x:=by
 cases x with
 | non=>cases r; rfl
 | bl _=>cases r; rfl
 | int _=>obtain ⟨t,rfl⟩:=r; rfl
 | str _=>obtain ⟨t,rfl⟩:=r; rfl
 | byt _=>obtain ⟨t,rfl⟩:=r; rfl
 | flt _=>obtain ⟨t,rfl⟩:=r; rfl
 | ref _=>cases r; rfl
 | ty _=>cases r; rfl
theorem RelV.inj {x y:V}{u:Value}(r:RelV x u)(q:RelV y u):x=y:=a0t (r.abs.symm.trans q.abs)
theorem Vals.inj:∀ {xs ys:List V} {us:List Value},Vals xs us->Vals ys us->xs=ys
 | _,_,_,.nil,.nil=>rfl
 | _,_,_,.cons r t,.cons r' t'=>by rw [r.inj r',Vals.inj t t']
section
variable {X:Cx}{pins:List (Addr×Obj)}{σ:St}{H:Hp}{s:Shared}{a:Addr}{xs ys:List V}
theorem SqL.of {K:a0a}(h:H a=some (.lst xs)):SqL K H a xs:=.inl (.inl h)
theorem SqT.of {K:a0a}(h:H a=some (.tup xs)):SqT K H a xs:=.inl (.inl h)
theorem Inv.list (I:Inv X pins σ H s)(h:SqL X.K H a xs):∃ its:List Value,Vals xs its/\PlainL s.heap a its.toArray/\xs.length<=sizeLine:=by
 rcases h with h | ⟨o,its,n,hk,hc,hd,hs,hz,r⟩
 ·obtain ⟨z,its,n,r,e⟩:=h.ok I.hok
  exact ⟨its,r,⟨_,n,e,rfl,rfl,rfl⟩,z⟩
 ·refine ⟨its.toList,r,⟨o,n,I.kIn a o hk,hc,hd,by simpa using hs⟩,?_⟩
  have e:=r.length
  simp only [a0M] at e
  omega
theorem Inv.tuple (I:Inv X pins σ H s)(h:SqT X.K H a xs):∃ its:List Value,Vals xs its/\IsTup s.heap a its.toArray/\xs.length<=sizeLine:=by
 rcases h with h | ⟨o,its,n,hk,hc,hs,hz,r⟩
 ·obtain ⟨z,its,r,p⟩:=h.ok I.hok
  exact ⟨its,r,p,z⟩
 ·refine ⟨its.toList,r,⟨o,I.kIn a o hk,hc,n,by simpa using hs⟩,?_⟩
  have e:=r.length
  simp only [a0M] at e
  omega
theorem Inv.list_inj (I:Inv X pins σ H s)(h:SqL X.K H a xs)(h':SqL X.K H a ys):xs=ys:=by
 obtain ⟨its,r,⟨o,n,e,_,_,d⟩,_⟩:=I.list h
 obtain ⟨its',r',⟨o',n',e',_,_,d'⟩,_⟩:=I.list h'
 rw [e] at e'; cases e'
 rw [d] at d'
 injection d' with d1 _
 have:its=its':=by simpa using congrArg a2y d1
 subst this
 exact r.inj r'
theorem Inv.tuple_inj (I:Inv X pins σ H s)(h:SqT X.K H a xs)(h':SqT X.K H a ys):xs=ys:=by
 obtain ⟨its,r,⟨o,e,_,n,d⟩,_⟩:=I.tuple h
 obtain ⟨its',r',⟨o',e',_,n',d'⟩,_⟩:=I.tuple h'
 rw [e] at e'; cases e'
 rw [d] at d'
 injection d' with d1 _
 have:its=its':=by simpa using congrArg a2y d1
 subst this
 exact r.inj r'
end
noncomputable abbrev Cx.wish (X:Cx)(E:Value->Shared->Prop):Cx:={ X with xe:=E }
noncomputable abbrev Cx.nox (X:Cx):Cx:=X.wish fun _ _=>False
theorem Cx.Ok.wish {X:Cx}(ok:X.Ok)(E:Value->Shared->Prop):(X.wish E).Ok :=
 ⟨ok.mod,ok.kind,ok.glob,ok.blt,ok.above,ok.inj,ok.has,ok.cab,ok.hd,ok.frames,ok.stk,ok.exf,ok.bs,ok.bsz,ok.noex,ok.exfs,ok.funs,ok.frf⟩
theorem Cx.Ok.unwish {X:Cx}{E:Value->Shared->Prop}(ok:(X.wish E).Ok):X.Ok :=
 ⟨ok.mod,ok.kind,ok.glob,ok.blt,ok.above,ok.inj,ok.has,ok.cab,ok.hd,ok.frames,ok.stk,ok.exf,ok.bs,ok.bsz,ok.noex,ok.exfs,ok.funs,ok.frf⟩
section
variable {X:Cx}{pins:List (Addr×Obj)}{σ:St}{H:Hp}{s:Shared}{E:Value->Shared->Prop}
theorem Inv.wish (I:Inv X pins σ H s)(E:Value->Shared->Prop):Inv (X.wish E) pins σ H s:=⟨I.ok.wish E,I.os,I.bare,I.base,I.loc,I.cell,I.free,I.freeC,I.pin,I.hok,I.len⟩
theorem Inv.unwish (I:Inv (X.wish E) pins σ H s):Inv X pins σ H s:=⟨I.ok.unwish,I.os,I.bare,I.base,I.loc,I.cell,I.free,I.freeC,I.pin,I.hok,I.len⟩
theorem SP.unwish {D:a9}{f:Flow}{s':Shared}(h:SP (X.wish E) pins D f s'):SP X pins D f s':=by
 cases f with
 | next=>obtain ⟨σ',H',I,q⟩:=h; exact ⟨σ',H',I.unwish,q⟩
 | brk=>obtain ⟨σ',H',I,q⟩:=h; exact ⟨σ',H',I.unwish,q⟩
 | cont=>obtain ⟨σ',H',I,q⟩:=h; exact ⟨σ',H',I.unwish,q⟩
 | ret u=>obtain ⟨v,σ',H',I,r,q⟩:=h; exact ⟨v,σ',H',I.unwish,r,q⟩
theorem PSs.nox {st:List Stmt}{t:TS}(h:PSs X.nox st t):PSs X st t:=fun pins s σ H D I hw =>
 wpAny_mono (h pins s σ H D (I.wish _) hw) (fun _ _ q=>q.unwish) fun _ _ z=>a00 z
end
section
variable {X:Cx}{st:Stmt}{rest:List Stmt}{t u:TS}{e:Expr}{te:TE}{pos:Pos}
noncomputable def pO:TS:=fun D σ H=>D.nx σ H
noncomputable def vw (t u:TS):TS:=fun D σ H=>t { D with nx:=u D } σ H
theorem pz:PSs X [] pO:=fun _ _ σ H _ I h=>wpAny_execs_nil ⟨σ,H,I,h⟩
theorem jW (h1:PS X st t)(h2:PSs X rest u):PSs X (st::rest) (vw t u):=by
 intro pins s σ H D I h
 refine wpAny_execs_cons (thn (h1 pins s σ H { D with nx:=u D } I h) fun f s1 q=>?_)
 cases f with
 | next =>
  obtain ⟨σ',H',I',q⟩:=q
  exact h2 pins s1 σ' H' D I' q
 | ret v=>exact q
 | brk=>exact q
 | cont=>exact q
theorem oB (h1:PS X st t):PSs X [st] t:=by
 intro pins s σ H D I h
 refine wpAny_execs_cons (thn (h1 pins s σ H D I h) fun f s1 q=>?_)
 cases f with
 | next=>exact wpAny_execs_nil q
 | ret v=>exact q
 | brk=>exact q
 | cont=>exact q
theorem Inv.quiet {pins:List (Addr×Obj)}{σ:St}{H:Hp}{s:Shared}(I:Inv X pins σ H s):interactive X.env=false:=by simp [interactive,I.ok.kind]
noncomputable def pG (te:TE):TS:=fun D σ H=>te σ H fun _ H1=>D.nx σ H1
theorem eQ (he:PE X e te)(hs:swapsWith e none pos.line X.env=pure false:=by rfl):PS X (.Expr e pos) (pG te):=by
 intro pins s σ H D I h
 exact wpAny_Expr_any (thn (he pins s σ H _ I h) fun v s1 ⟨x,H1,I1,r1,q1⟩=>⟨σ,H1,I1,q1⟩) I.quiet hs
noncomputable def xg (te:TE):TS:=fun D σ H=>te σ H D.rt
theorem tR (he:PE X e te):PS X (.Return (some e) pos) (xg te):=by
 intro pins s σ H D I h
 exact wpAny_Return_some (thn (he pins s σ H _ I h) fun v s1 ⟨x,H1,I1,r1,q1⟩=>⟨x,σ,H1,I1,r1,q1⟩)
noncomputable def xm (c:TT)(t u:TS):TS:=fun D σ H=>c σ H fun b H1=>if b=true then t D σ H1 else u D σ H1
theorem xc {c:Expr}{a b:List Stmt}{tc:TT}(hc:PT X c tc)(ha:PSs X a t)(hb:PSs X b u):PS X (.If c a b pos) (xm tc t u):=by
 intro pins s σ H D I h
 refine wpAny_If (thn (hc pins s σ H _ I h) fun d s1 ⟨H1,I1,q1⟩=>?_)
 cases d with
 | true=>exact ha pins s1 σ H1 D I1 q1
 | false=>exact hb pins s1 σ H1 D I1 q1
end
noncomputable abbrev TG:=V->St->Hp->(St->Hp->Prop)->Prop
noncomputable abbrev TGs:=List V->St->Hp->(St->Hp->Prop)->Prop
noncomputable def PG (X:Cx)(target:Expr)(t:TG):Prop :=
 ∀ (pins:List (Addr×Obj)) (s:Shared) (σ:St) (H:Hp) (v:V) (u:Value) (Q:St->Hp->Prop),Inv X pins σ H s->RelV v u->t v σ H Q ->
  wpAny (model X.prog X.w) X.A (assign target X.env u) (fun _ s'=>∃ σ' H',Inv X pins σ' H' s'/\Q σ' H') X.xe s
noncomputable def PGs (X:Cx)(ts:List Expr)(t:TGs):Prop :=
 ∀ (pins:List (Addr×Obj)) (s:Shared) (σ:St) (H:Hp) (vs:List V) (us:List Value) (Q:St->Hp->Prop),Inv X pins σ H s->Vals vs us->t vs σ H Q ->
  wpAny (model X.prog X.w) X.A (assignInOrder ((assignEach ts X.env).map (·.2)) us) (fun _ s'=>∃ σ' H',Inv X pins σ' H' s'/\Q σ' H') X.xe s
section
variable {X:Cx}{pos:Pos}
noncomputable def dW (i:Nat):TG:=fun v σ H Q=>Q (σ.set i (some v)) H
theorem ed {i:Nat}{x:Str}(hN:X.N.Nodup)(hi:X.N[i]?=some x)(hx:Loc X.env.scope x)(hf:X.fn x=true\/X.env.scope.names.lookup x=some .local:=by first | exact .inl rfl | exact .inr rfl | assumption):PG X (.Name x pos) (dW i):=by
 intro pins s σ H v u Q I r h
 exact wpAny_assign_Name (fw I hN hi hx r (fun s' I'=>⟨_,H,I',h⟩) hf)
noncomputable def vA:TGs:=fun vs σ H Q=>vs=[]/\Q σ H
noncomputable def kN (t:TG)(u:TGs):TGs:=fun vs σ H Q=>∃ v r,vs=v::r/\t v σ H fun σ' H'=>u r σ' H' Q
theorem o8:PGs X [] vA:=by
 intro pins s σ H vs us Q I r h
 obtain ⟨e,h⟩:=h
 subst e
 cases r
 exact assignInOrder_nil ⟨σ,H,I,h⟩
theorem fJ {e:Expr}{es:List Expr}{t:TG}{u:TGs}(h1:PG X e t)(h2:PGs X es u)
  (hs:(assignEach (e::es) X.env).map (·.2)=assign e X.env::(assignEach es X.env).map (·.2):=by rfl):PGs X (e::es) (kN t u):=by
 intro pins s σ H vs us Q I r h
 obtain ⟨v,vr,e1,h⟩:=h
 subst e1
 cases r with
 | cons r rr =>
  rw [hs]
  refine assignInOrder_cons (thn (h1 pins s σ H _ _ _ I r h) fun _ s1 ⟨σ1,H1,I1,q1⟩=>?_)
  exact h2 pins s1 σ1 H1 _ _ Q I1 rr q1
noncomputable def vH (K:a0a)(n:Nat)(t:TGs):TG:=fun v σ H Q=>∃ a xs,v=.ref a/\SqT K H a xs/\xs.length=n/\t xs σ H Q
theorem qZ {es:List Expr}{k:Nat}{t:TGs}{n:Nat}(hc:X.calm=true)(h:PGs X es t)
  (hn:(assignEach es X.env).length=n:=by rfl) (hst:(assignEach es X.env).findIdx? (·.1)=none:=by rfl):PG X (.Tuple es k pos) (vH X.K n t):=by
 intro pins s σ H v u Q I r hw
 obtain ⟨a,xs,e1,hq,hl,hw⟩:=hw
 subst e1
 cases r
 obtain ⟨its,rv,ht,hz⟩:=I.tuple hq
 refine assign_Tuple_tuple (I.ok.hd hc) ht (by simp [hn,<- hl,rv.length]) hst fun h' hx=>?_
 have I1:Inv X pins σ H { s with heap:=h' }:=I.kept (t':=s.toks) fun b o e=>hx b o (a0y (Heap.lt_size e)) e
 exact h pins _ σ H xs _ Q I1 (by simpa using rv) hw
noncomputable def wc (te:TE)(g:TG):TS:=fun D σ H=>te σ H fun x H1=>g x σ H1 D.nx
theorem sy {i:Nat}{x:Str}{e:Expr}{te:TE}{pos':Pos}(hN:X.N.Nodup)(hi:X.N[i]?=some x)(hx:Loc X.env.scope x)(he:PE X e te)(hs:swapsWith e (some (.Name x pos')) pos.line X.env=pure false:=by rfl)(hf:X.fn x=true\/X.env.scope.names.lookup x=some .local:=by first | exact .inl rfl | exact .inr rfl | assumption) :
  PS X (.Assign [.Name x pos'] e pos) (wc te (dW i)):=by
 intro pins s σ H D I h
 refine wpAny_Assign_Name (thn (he pins s σ H _ I h) fun v s1 ⟨y,H1,I1,r1,q1⟩=>?_) hs
 exact fw I1 hN hi hx r1 (fun s2 I2=>⟨_,H1,I2,q1⟩) hf
end
structure It where
 go:Nat->Hp->Prop
 yld:Nat->Hp->V->Hp->Prop
 stop:Nat->Hp->Prop
noncomputable def fV (X:Cx)(pins:List (Addr×Obj))(H:Hp)(b:Addr):Prop :=
 H b=none/\b≠X.env.locals/\b ∉ X.fs/\(b∈X.ex\/X.s₀.heap.objs.size<=b)/\(∀ x c,X.env.cells.lookup x=some c->c≠b)/\∀ p∈X.pn++pins,p.1≠b
theorem Inv.fpOk {X:Cx}{pins:List (Addr×Obj)}{σ:St}{H H':Hp}{s:Shared}{b:Addr}(I:Inv X pins σ H s)(hb:s.heap.objs.size<=b)(hn:H' b=none):fV X pins H' b:=by
 refine ⟨hn,a2z (a0l I.lt hb),I.nofs hb,.inr (a0p I.sz hb),fun x c e z=>?_,fun p hp z=>?_⟩
 ·obtain ⟨v,q⟩:=I.cell x c e
  exact absurd (a0l q.lt (by rw [z]; exact hb)) (a1m _)
 ·exact absurd (a0l (Heap.lt_size (I.pin p hp).1) (by rw [z]; exact hb)) (a1m _)
structure kJ (P:Program)(w:World)(K:a0a)(tg:Expr)(J:It)(fp:List Addr)(it:Addr)(tn:Nat->Heap->Prop):Prop where
 mem:it∈fp
 obj:∀ i h,tn i h->∀ b∈fp,∃ o,h.get? b=some o/\∀ v,o.data≠.cell v
 keep:∀ i h h',tn i h->(∀ b∈fp,∀ o,h.get? b=some o->h'.get? b=some o)->tn i h'
 item:∀ (X:Cx),X.prog=P->X.w=w->X.K=K->X.calm=true->∀ (i:Nat) (pins:List (Addr×Obj)) (s:Shared) (σ:St) (H:Hp) (E:Value->Shared->Prop),Inv X pins σ H s->(∀ b∈fp,fV X pins H b)->tn i s.heap->J.go i H ->
  wpAny (model P w) X.A (pyNext (.ref it)) (fun r s1=>∃ u,r=some u /\
   wpAny (model P w) X.A (letOwnedTupleGo tg (.ref it) u) (fun _ s2=>∃ x H',Inv X pins σ H' s2/\RelV x u/\J.yld i H x H'/\tn (i+1) s2.heap/\∀ b∈fp,H' b=none) E s1) E s
 done:∀ (X:Cx),X.prog=P->X.w=w->X.K=K->X.calm=true->∀ (i:Nat) (pins:List (Addr×Obj)) (s:Shared) (σ:St) (H:Hp) (E:Value->Shared->Prop),Inv X pins σ H s->(∀ b∈fp,fV X pins H b)->tn i s.heap->J.stop i H ->
  wpAny (model P w) X.A (pyNext (.ref it)) (fun r s1=>r=none/\Inv X pins σ H s1) E s
 self:∀ (A:Around) (i:Nat) (s:Shared) (Q:Value->Shared->Prop) (E:Value->Shared->Prop),tn i s.heap->Q (.ref it) s->wpAny (model P w) A (pyIter (.ref it)) Q E s
noncomputable abbrev TI:=St->Hp->(It->Hp->Prop)->Prop
noncomputable def PIE (X:Cx)(pins:List (Addr×Obj))(σ:St)(tg:Expr)(R:It->Hp->Prop)(itv:Value)(s2:Shared):Prop :=
 ∃ (it:Addr) (fp:List Addr) (tn:Nat->Heap->Prop) (J:It) (H':Hp),itv=.ref it/\Inv X pins σ H' s2/\kJ X.prog X.w X.K tg J fp it tn/\tn 0 s2.heap/\(∀ b∈fp,fV X pins H' b)/\R J H'
noncomputable def PI (X:Cx)(tg iter:Expr)(wi:TI):Prop :=
 ∀ (pins:List (Addr×Obj)) (s:Shared) (σ:St) (H:Hp) (R:It->Hp->Prop),Inv X pins σ H s->wi σ H R ->
  wpAny (model X.prog X.w) X.A (eval iter X.env) (fun v s1=>wpAny (model X.prog X.w) X.A (pyIter v) (PIE X pins σ tg R) X.xe s1) X.xe s
theorem kH {M:Model}{A:Around}{E:Value->Shared->Prop}{s:Shared}{tg:Expr}{it:Addr}{u:Value}{o:Obj}{n:String}{vs:Array Value}{Q:Unit->Shared->Prop}(ho:s.heap.get? it=some o)(hc:o.cls=.type n)(hd:o.data=.fields vs)
  (hn:["enumerate","zip","dict_itemiterator","dict_reverseitemiterator","odict_iterator","itertools.zip_longest","itertools.pairwise"].contains n=false) (hQ:Q () s):wpAny M A (letOwnedTupleGo tg (.ref it) u) Q E s:=by
 unfold letOwnedTupleGo
 cases tg<;>first
  | exact wpAny_pure hQ
  | (cases u<;>first
    | exact wpAny_pure hQ
    | (refine wpAny_bind (wpAny_load ho ?_)
       rw [hc,hd]
       show wpAny M A (if (["enumerate","zip","dict_itemiterator","dict_reverseitemiterator","odict_iterator","itertools.zip_longest","itertools.pairwise"].contains n&&vs[0]?==some (rawInt _))=true then _ else _) Q E s
       rw [if_neg (by intro h; rw [hn,Bool.false_and] at h; cases h)]
       exact wpAny_pure hQ))
noncomputable def Itl (K:a0a)(a:Addr):It :=
 ⟨fun i H=>∃ xs x,SqL K H a xs/\xs[i]?=some x,fun i H x H'=>H'=H/\∀ xs,SqL K H a xs->xs[i]?=some x,fun i H=>∃ xs,SqL K H a xs/\xs.length<=i⟩
noncomputable def Itt (K:a0a)(a:Addr):It :=
 ⟨fun i H=>∃ xs x,SqT K H a xs/\xs[i]?=some x,fun i H x H'=>H'=H/\∀ xs,SqT K H a xs->xs[i]?=some x,fun i H=>∃ xs,SqT K H a xs/\xs.length<=i⟩
noncomputable def Itr (lo:Int)(n:Nat):It:=⟨fun i _=>i < n,fun i H x H'=>H'=H/\x=.int (lo+i),fun i _=>n<=i⟩
theorem i4 {P:Program}{w:World}{K:a0a}{tg:Expr}(a it:Addr):kJ P w K tg (Itl K a) [it] it (fun i h=>h.IsListIter it a i) where
 mem:=by simp
 obj:=fun i h st b hb=>by
  have e:b=it:=by simpa using hb
  subst e
  obtain ⟨o,e,c,d⟩:=st
  exact ⟨o,e,fun v z=>by rw [d] at z; cases z⟩
 keep:=fun i h h' st k=>st.at fun o e=>k it (by simp) o e
 item:=by
  intro X hP hw hK hc i pins s σ H E I hf st hg
  subst hP hw hK
  obtain ⟨xs,x,hq,hx⟩:=hg
  obtain ⟨its,rv,p,hz⟩:=I.list hq
  obtain ⟨u,hu,ru⟩:=rv.get hx
  obtain ⟨f0,f1,f2,f3,f4,f5⟩:=hf it (by simp)
  refine wpAny_pyNext_list_item st p.isList (x:=u) (by simpa using hu) fun h' st' sb=>?_
  have I1:Inv X pins σ H { s with heap:=h' }:=I.turned (t':=s.toks) (fun b o hb e=>(sb.2 b hb).trans e) f0 f1 f3 f4 f5
  obtain ⟨o,e,c,d⟩:=id st'
  exact ⟨u,rfl,kH (s:={ s with heap:=h' }) e c d (by decide) ⟨x,H,I1,ru,⟨rfl,fun ys hy=>by rw [I.list_inj hy hq]; exact hx⟩,st',fun b hb=>(hf b hb).1⟩⟩
 done:=by
  intro X hP hw hK hc i pins s σ H E I hf st hg
  subst hP hw hK
  obtain ⟨xs,hq,hx⟩:=hg
  obtain ⟨its,rv,p,hz⟩:=I.list hq
  obtain ⟨f0,f1,f2,f3,f4,f5⟩:=hf it (by simp)
  have hl:=rv.length
  exact wpAny_pyNext_list_end (I.ok.hd hc) st p.isList (by simp; omega) fun h' eb=>⟨rfl,I.turned (t':=s.toks) (fun b o hb e=>eb b o hb e) f0 f1 f3 f4 f5⟩
 self:=fun _ _ _ _ _ st h=>wpAny_pyIter_listiter st h
theorem gw {P:Program}{w:World}{K:a0a}{tg:Expr}(a it:Addr):kJ P w K tg (Itt K a) [it] it (fun i h=>h.IsTupleIter it a i) where
 mem:=by simp
 obj:=fun i h st b hb=>by
  have e:b=it:=by simpa using hb
  subst e
  obtain ⟨o,e,c,d⟩:=st
  exact ⟨o,e,fun v z=>by rw [d] at z; cases z⟩
 keep:=fun i h h' st k=>st.at fun o e=>k it (by simp) o e
 item:=by
  intro X hP hw hK hc i pins s σ H E I hf st hg
  subst hP hw hK
  obtain ⟨xs,x,hq,hx⟩:=hg
  obtain ⟨its,rv,p,hz⟩:=I.tuple hq
  obtain ⟨u,hu,ru⟩:=rv.get hx
  obtain ⟨f0,f1,f2,f3,f4,f5⟩:=hf it (by simp)
  refine wpAny_pyNext_tuple_item st (show s.heap.IsTuple a its.toArray from p) (x:=u) (by simpa using hu) fun h' st' sb=>?_
  have I1:Inv X pins σ H { s with heap:=h' }:=I.turned (t':=s.toks) (fun b o hb e=>(sb.2 b hb).trans e) f0 f1 f3 f4 f5
  obtain ⟨o,e,c,d⟩:=id st'
  exact ⟨u,rfl,kH (s:={ s with heap:=h' }) e c d (by decide) ⟨x,H,I1,ru,⟨rfl,fun ys hy=>by rw [I.tuple_inj hy hq]; exact hx⟩,st',fun b hb=>(hf b hb).1⟩⟩
 done:=by
  intro X hP hw hK hc i pins s σ H E I hf st hg
  subst hP hw hK
  obtain ⟨xs,hq,hx⟩:=hg
  obtain ⟨its,rv,p,hz⟩:=I.tuple hq
  obtain ⟨f0,f1,f2,f3,f4,f5⟩:=hf it (by simp)
  have hl:=rv.length
  exact wpAny_pyNext_tuple_end (I.ok.hd hc) st (show s.heap.IsTuple a its.toArray from p) (by simp; omega) fun h' eb=>⟨rfl,I.turned (t':=s.toks) (fun b o hb e=>eb b o hb e) f0 f1 f3 f4 f5⟩
 self:=fun _ _ _ _ _ st h=>wpAny_pyIter_tupleiter st h
theorem gj {P:Program}{w:World}{K:a0a}{tg:Expr}(it:Addr)(lo:Int)(n:Nat):kJ P w K tg (Itr lo n) [it] it (fun i h=>IsRangeIter h it (lo+(i:Nat) * 1) ((n:Int)-(i:Nat)) 1) where
 mem:=by simp
 obj:=fun i h st b hb=>by
  have e:b=it:=by simpa using hb
  subst e
  exact ⟨_,st,fun v z=>by
   have z':Data.fields _=Data.cell v:=z
   cases z'⟩
 keep:=fun i h h' st k=>k it (by simp) _ st
 item:=by
  intro X hP hw hK hc i pins s σ H E I hf st hg
  subst hP hw hK
  obtain ⟨f0,f1,f2,f3,f4,f5⟩:=hf it (by simp)
  have W:=Walks.range (prog:=X.prog) (w:=X.w) (I.ok.hd hc) it lo 1 n
  refine W.item i s _ _ hg st fun v h' tk hv st' kk=>?_
  obtain ⟨t,rfl⟩:=hv
  have I1:Inv X pins σ H { s with heap:=h',toks:=tk }:=I.turned (fun b o hb e=>kk b o (by simpa using hb) e) f0 f1 f3 f4 f5
  refine ⟨_,rfl,kH (s:={ s with heap:=h',toks:=tk }) (n:="range_iterator") st' rfl rfl (by decide) ⟨.int (lo+i),H,I1,⟨t,?_⟩,⟨rfl,rfl⟩,st',fun b hb=>(hf b hb).1⟩⟩
  rw [Int.mul_one]
 done:=by
  intro X hP hw hK hc i pins s σ H E I hf st hg
  subst hP hw hK
  obtain ⟨f0,f1,f2,f3,f4,f5⟩:=hf it (by simp)
  exact wpAny_pyNext_range_end (I.ok.hd hc) st (by have:n<=i:=hg; omega) fun h' eb=>⟨rfl,I.turned (t':=s.toks) (fun b o hb e=>eb b o hb e) f0 f1 f3 f4 f5⟩
 self:=fun _ _ _ _ _ st h=>wpAny_pyIter_rangeiter st h
end L2
namespace L2
open PySem PySem.Spec PyProof.Rows
section
variable {X:Cx}{tg:Expr}
noncomputable def qe (K:a0a)(tl:TE):TI:=fun σ H R=>tl σ H fun x H1=>∃ a,x=.ref a/\(∃ xs,SqL K H1 a xs)/\R (Itl K a) H1
noncomputable def uP (K:a0a)(tl:TE):TI:=fun σ H R=>tl σ H fun x H1=>∃ a,x=.ref a/\(∃ xs,SqT K H1 a xs)/\R (Itt K a) H1
theorem mL {l:Expr}{tl:TE}(hl:PE X l tl):PI X tg l (qe X.K tl):=by
 intro pins s σ H R I h
 refine thn (hl pins s σ H _ I h) fun v s1 ⟨x,H1,I1,r1,q1⟩=>?_
 obtain ⟨a,e,⟨xs,hq⟩,q⟩:=q1
 subst e
 cases r1
 obtain ⟨its,rv,p,hz⟩:=I1.list hq
 refine wpAny_pyIter_list p.isList ?_
 refine ⟨s1.heap.objs.size,[s1.heap.objs.size],_,_,H1,rfl,I1.kept (t':=s1.toks) fun b o e=>Heap.get?_push_of_some _ e,i4 a _,⟨_,Heap.get?_push_size _ rfl,rfl,rfl⟩,fun b hb=>?_,q⟩
 have e:b=s1.heap.objs.size:=by simpa using hb
 subst e
 exact I1.fpOk (a0i _) (I1.hok.fresh (a0i _))
theorem qS {l:Expr}{tl:TE}(hl:PE X l tl):PI X tg l (uP X.K tl):=by
 intro pins s σ H R I h
 refine thn (hl pins s σ H _ I h) fun v s1 ⟨x,H1,I1,r1,q1⟩=>?_
 obtain ⟨a,e,⟨xs,hq⟩,q⟩:=q1
 subst e
 cases r1
 obtain ⟨its,rv,p,hz⟩:=I1.tuple hq
 refine wpAny_pyIter_tuple (show s1.heap.IsTuple a its.toArray from p) ?_
 refine ⟨s1.heap.objs.size,[s1.heap.objs.size],_,_,H1,rfl,I1.kept (t':=s1.toks) fun b o e=>Heap.get?_push_of_some _ e,gw a _,⟨_,Heap.get?_push_size _ rfl,rfl,rfl⟩,fun b hb=>?_,q⟩
 have e:b=s1.heap.objs.size:=by simpa using hb
 subst e
 exact I1.fpOk (a0i _) (I1.hok.fresh (a0i _))
theorem lS {pins:List (Addr×Obj)}{σ:St}{H:Hp}{s:Shared}{R:It->Hp->Prop}{E:Value->Shared->Prop}{lo hi:Int}{t u v:Tok}{tk:Nat}(I:Inv X pins σ H s)(h1:-(2 ^ 62)<=lo)(h2:lo < 2 ^ 62)(h3:-(2 ^ 62)<=hi)(h4:hi < 2 ^ 62)
  (q:R (Itr lo (hi-lo).toNat) H):wpAny (model X.prog X.w) X.A (pyIter (.ref s.heap.objs.size)) (PIE X pins σ tg R) E { s with heap:=s.heap.push { cls:=.type "range",data:=.fields #[.int lo t,.int hi u,.int 1 v] },toks:=tk }:=by
 refine wpAny_pyIter_range (IsRange.new ..) (small_one h1 h2 h3 h4) ?_
 have I1:Inv X pins σ H { s with heap:=s.heap.push { cls:=.type "range",data:=.fields #[.int lo t,.int hi u,.int 1 v] },toks:=tk }:=I.kept fun b o e=>Heap.get?_push_of_some _ e
 refine ⟨(s.heap.push { cls:=.type "range",data:=.fields #[.int lo t,.int hi u,.int 1 v] }).objs.size,[(s.heap.push { cls:=.type "range",data:=.fields #[.int lo t,.int hi u,.int 1 v] }).objs.size],_,_,H,rfl,
  I1.kept (t':=tk) fun b o e=>Heap.get?_push_of_some _ e,gj _ lo (hi-lo).toNat,?_,fun b hb=>?_,q⟩
 ·have e1:lo+((0:Nat):Int) * 1=lo:=by simp
  have e2:(((hi-lo).toNat:Nat):Int)-((0:Nat):Int)=Builtin.Range.rangeSize lo hi 1:=by rw [rangeSize_one]; split<;>omega
  show IsRangeIter _ _ (lo+((0:Nat):Int) * 1) ((((hi-lo).toNat:Nat):Int)-((0:Nat):Int)) 1
  rw [e1,e2]
  exact Heap.get?_push_size _ rfl
 ·have e:b=(s.heap.push { cls:=.type "range",data:=.fields #[.int lo t,.int hi u,.int 1 v] }).objs.size:=by simpa using hb
  subst e
  exact I1.fpOk (a0i _) (I1.hok.fresh (a0i _))
noncomputable def pM (ta:TA):TI:=fun σ H R=>ta σ H fun vs H1=>∃ j:Int,vs=[.int j]/\-(2 ^ 62)<=j/\j < 2 ^ 62/\R (Itr 0 j.toNat) H1
theorem i1 {a:Expr}{ta:TA}{p pos:Pos}(hg:Gl X "range")(hm:X.mg "range"=none)(ha:PA X [a] ta)(hs:starEach [a] X.env=[(false,eval a X.env)]:=by rfl):PI X tg (.Call (.Name "range" p) [a] [] pos) (pM ta):=by
 intro pins s σ H R I h
 refine Call_ (cN I hg hm boot_range (a0Y (thn (ha pos pins s σ H _ I h) fun us s1 ⟨vs,H1,I1,r1,q1⟩=>?_) hs rfl))
 obtain ⟨j,e,q1,q2,q⟩:=q1
 subst e
 cases r1 with
 | cons r rr =>
  cases rr
  obtain ⟨t,rfl⟩:=r
  exact call_range_1 (lS I1 (by omega) (by omega) q1 q2 (by simpa using q))
noncomputable def uG (wi:TI)(g:TG)(tb:TS):TS:=fun D σ H=>wi σ H fun J H1=>∃ W:Nat->Nat->St->Hp->Prop,(∃ m,W 0 m σ H1)/\∀ i m σ H,W i m σ H ->
 (J.stop i H/\D.nx σ H)\/(J.go i H/\∃ N:St->Hp->Prop,(∀ σ' H',N σ' H'->∃ m',m' < m/\W (i+1) m' σ' H')/\∀ x H',J.yld i H x H'->g x σ H' fun σ2 H2=>tb { D with nx:=N,ct:=N,bk:=D.nx } σ2 H2)
noncomputable def eI (fp:List Addr)(h:Heap):List (Addr×Obj):=fp.filterMap fun b=>(h.get? b).map fun o=>(b,o)
theorem cS {fp:List Addr}{h:Heap}{b:Addr}{o:Obj}(hb:b∈fp)(e:h.get? b=some o):(b,o)∈eI fp h:=a1X.mpr ⟨b,hb,by rw [e]; rfl⟩
theorem jj {fp:List Addr}{h:Heap}{p:Addr×Obj}(hp:p∈eI fp h):p.1∈fp/\h.get? p.1=some p.2:=by
 obtain ⟨b,hb,e⟩:=a1X.mp hp
 cases q:h.get? b with
 | none=>rw [q] at e; cases e
 | some o =>
  rw [q] at e
  have e':(b,o)=p:=a0t e
  subst e'
  exact ⟨hb,q⟩
theorem Inv.pinned {pins:List (Addr×Obj)}{σ:St}{H:Hp}{s:Shared}{fp:List Addr}(I:Inv X pins σ H s)(hf:∀ b∈fp,fV X pins H b)(ho:∀ b∈fp,∃ o,s.heap.get? b=some o/\∀ v,o.data≠.cell v):Inv X (pins++eI fp s.heap) σ H s :=
 I.pins_of fun p hp=>(a0X.mp hp).elim (fun z=>I.pin p (a0r _ z)) fun z=>by
  obtain ⟨hb,e⟩:=jj z
  obtain ⟨f0,f1,f2,_⟩:=hf p.1 hb
  obtain ⟨o,e',d⟩:=ho p.1 hb
  rw [e] at e'; cases e'
  exact ⟨e,f0,f1,f2,d⟩
theorem Inv.unpinned {pins pl:List (Addr×Obj)}{σ:St}{H:Hp}{s:Shared}(I:Inv X (pins++pl) σ H s):Inv X pins σ H s:=I.pins_of fun p hp=>I.pin p (a0r _ (a1k _ hp))
theorem j5 {iter:Expr}{body:List Stmt}{wi:TI}{g:TG}{tb:TS}{pos:Pos}(hp:PassesOwn (model X.prog X.w) X.A X.env X.xe)(hc:X.calm=true)(hi:PI X tg iter wi)(hg:PG X tg g)(hb:PSs X body tb)
  (hs:∀ x,foldedSetIterable iter X.env x=pure x:=by intro _; rfl):PS X (.For tg iter body [] pos) (uG wi g tb):=by
 intro pins s σ H D I h
 refine wpAny_For (thn (hi pins s σ H _ I h) fun v s1 h1=>thn h1 fun itv s2 h2=>?_) hs
 obtain ⟨it,fp,tn,J,H2,e,I2,T,st2,f2,W,⟨m0,w0⟩,turn⟩:=h2
 subst e
 -- what stays true of the iterator's objects through the loop
 have stat:∀ {H':Hp},(∀ b∈fp,H' b=none)->∀ b∈fp,fV X pins H' b:=fun hn b hb=>⟨hn b hb,(f2 b hb).2⟩
 refine codeAny_forLoop_any (fun n s'=>∃ i σ' H',Inv X pins σ' H' s'/\tn i s'.heap/\(∀ b∈fp,H' b=none)/\W i n σ' H') ?_ m0 ⟨0,σ,H2,I2,st2,fun b hb=>(f2 b hb).1,w0⟩
 rintro n s3 ⟨i,σ3,H3,I3,st3,fr3,w3⟩
 rcases turn i n σ3 H3 w3 with ⟨stop,qn⟩ | ⟨go,N,hN,step⟩
 ·refine wpAny_passesOwn hp (thn (T.done X rfl rfl rfl hc i pins s3 σ3 H3 X.xe I3 (stat fr3) st3 stop) fun r s4 ⟨hr,I4⟩=>?_)
  subst hr
  exact wpAny_execs_nil ⟨σ3,H3,I4,qn⟩
 ·refine wpAny_passesOwn hp (thn (T.item X rfl rfl rfl hc i pins s3 σ3 H3 X.xe I3 (stat fr3) st3 go) fun r s4 ⟨u,hr,h4⟩=>?_)
  subst hr
  refine wpAny_passesOwn hp (thn h4 fun _ s5 ⟨x,H5,I5,r5,y5,st5,fr5⟩=>?_)
  have I5':=I5.pinned (stat fr5) (T.obj _ _ st5)
  refine wpAny_passesOwn hp (thn (hg _ s5 σ3 H5 x u _ I5' r5 (step x H5 y5)) fun _ s6 ⟨σ6,H6,I6,q6⟩=>?_)
  refine wpAny_passesOwn hp (thn (hb _ s6 σ6 H6 _ I6 q6) fun f s7 q7=>?_)
  have again:∀ {σ7:St} {H7:Hp},Inv X (pins++eI fp s5.heap) σ7 H7 s7->N σ7 H7->∃ m,m < n/\∃ i σ' H',Inv X pins σ' H' s7/\tn i s7.heap/\(∀ b∈fp,H' b=none)/\W i m σ' H':=fun {σ7 H7} I7 n7=>by
   obtain ⟨m',hm,w7⟩:=hN σ7 H7 n7
   refine ⟨m',hm,i+1,σ7,H7,I7.unpinned,T.keep _ _ _ st5 fun b hb o e=>(I7.pin (b,o) (a0r _ (a0r _ (cS hb e)))).1,fun b hb=>?_,w7⟩
   obtain ⟨o,e,d⟩:=T.obj _ _ st5 b hb
   exact (I7.pin (b,o) (a0r _ (a0r _ (cS hb e)))).2.1
  cases f with
  | next=>obtain ⟨σ7,H7,I7,n7⟩:=q7; exact again I7 n7
  | cont=>obtain ⟨σ7,H7,I7,n7⟩:=q7; exact again I7 n7
  | brk=>obtain ⟨σ7,H7,I7,q7⟩:=q7; exact ⟨σ7,H7,I7.unpinned,q7⟩
  | ret v=>obtain ⟨x7,σ7,H7,I7,r7,q7⟩:=q7; exact ⟨x7,σ7,H7,I7.unpinned,r7,q7⟩
end
end L2
namespace L2
open PySem PySem.Spec PyProof.Rows
noncomputable abbrev R2:=V->V->Hp->VK->Prop
noncomputable def OpR (X:Cx)(f:Value->Value->Sem Value)(r:R2):Prop :=
 ∀ (pins:List (Addr×Obj)) (s:Shared) (σ:St) (H:Hp) (x y:V) (v u:Value) (Q:VK),Inv X pins σ H s->RelV x v->RelV y u->r x y H Q ->
  wpAny (model X.prog X.w) X.A (f v u) (EP X pins σ Q) X.xe s
noncomputable def cA (X:Cx)(f:Value)(r:List V->Hp->VK->Prop):Prop :=
 ∀ (pins:List (Addr×Obj)) (s:Shared) (σ:St) (H:Hp) (xs:List V) (us:List Value) (Q:VK),Inv X pins σ H s->Vals xs us->r xs H Q ->
  wpAny (model X.prog X.w) X.A (call f us) (EP X pins σ Q) X.xe s
noncomputable def ye (X:Cx)(r:V->Hp->(Bool->Hp->Prop)->Prop):Prop :=
 ∀ (pins:List (Addr×Obj)) (s:Shared) (σ:St) (H:Hp) (x:V) (v:Value) (Q:Bool->Hp->Prop),Inv X pins σ H s->RelV x v->r x H Q ->
  wpAny (model X.prog X.w) X.A (truthy v) (TP X pins σ Q) X.xe s
noncomputable def tOp (r:R2)(ta tb:TE):TE:=fun σ H Q=>ta σ H fun x H1=>tb σ H1 fun y H2=>r x y H2 Q
noncomputable def rI (C:Int->Int->Prop)(g:Int->Int->V):R2:=fun x y H Q=>∃ i j,x=.int i/\y=.int j/\C i j/\Q (g i j) H
noncomputable def rI0 (g:Int->Int->V):R2:=fun x y H Q=>∃ i j,x=.int i/\y=.int j/\Q (g i j) H
section
variable {X:Cx}{a b c:Expr}{ta tb tc:TE}{pos:Pos}
theorem qO (ha:PE X a ta)(hb:PE X b tb){pins:List (Addr×Obj)}{s:Shared}{σ:St}{H:Hp}{R:V->V->Hp->Prop}(I:Inv X pins σ H s)
  (h:ta σ H fun x H1=>tb σ H1 fun y H2=>R x y H2) {Q:Value->Shared->Prop} {f:Value->Value->Sem Value}
  (hf:∀ v u s2 x y H2,Inv X pins σ H2 s2->RelV x v->RelV y u->R x y H2->wpAny (model X.prog X.w) X.A (f v u) Q X.xe s2) :
  wpAny (model X.prog X.w) X.A (eval a X.env) (fun v s₁=>wpAny (model X.prog X.w) X.A (eval b X.env) (fun u s₂=>wpAny (model X.prog X.w) X.A (f v u) Q X.xe s₂) X.xe s₁) X.xe s:=by
 refine thn (ha pins s σ H _ I h) fun v s1 ⟨x,H1,I1,r1,q1⟩=>?_
 refine thn (hb pins s1 σ H1 _ I1 q1) fun u s2 ⟨y,H2,I2,r2,q2⟩=>?_
 exact hf v u s2 x y H2 I2 r1 r2 q2
theorem d5 {op:Operator}{r:R2}(ho:OpR X (binaryOp op) r)(ha:PE X a ta)(hb:PE X b tb):PE X (.BinOp a op b pos) (tOp r ta tb):=by
 intro pins s σ H Q I h
 exact wpAny_BinOp (qO ha hb I h fun v u s2 x y H2 I2 rx ry q=>ho pins s2 σ H2 x y v u Q I2 rx ry q)
theorem opI {f:Value->Value->Sem Value}{C:Int->Int->Prop}{g:Int->Int->Int}
  (rule:∀ (i j:Int) (t u:Tok) (s:Shared) (Q:Value->Shared->Prop) (E:Value->Shared->Prop),C i j->Q (.int (g i j) s.toks) { s with toks:=s.toks+1 }->wpAny (model X.prog X.w) X.A (f (.int i t) (.int j u)) Q E s) :
  OpR X f (rI C fun i j=>.int (g i j)):=by
 intro pins s σ H x y v u Q I rx ry h
 obtain ⟨i,j,rfl,rfl,hc,q⟩:=h
 obtain ⟨t,rfl⟩:=rx
 obtain ⟨t',rfl⟩:=ry
 exact rule i j t t' s _ _ hc ⟨.int (g i j),H,I.tok _,⟨_,rfl⟩,q⟩
theorem vF {f:Value->Value->Sem Value}{g:Int->Int->Int}
  (rule:∀ (i j:Int) (t u:Tok) (s:Shared) (Q:Value->Shared->Prop) (E:Value->Shared->Prop),Q (.int (g i j) s.toks) { s with toks:=s.toks+1 }->wpAny (model X.prog X.w) X.A (f (.int i t) (.int j u)) Q E s) :
  OpR X f (rI0 fun i j=>.int (g i j)):=by
 intro pins s σ H x y v u Q I rx ry h
 obtain ⟨i,j,rfl,rfl,q⟩:=h
 obtain ⟨t,rfl⟩:=rx
 obtain ⟨t',rfl⟩:=ry
 exact rule i j t t' s _ _ ⟨.int (g i j),H,I.tok _,⟨_,rfl⟩,q⟩
theorem xj {f:Value->Value->Sem Value}{g:Int->Int->Bool}
  (rule:∀ (i j:Int) (t u:Tok) (s:Shared) (Q:Value->Shared->Prop) (E:Value->Shared->Prop),Q (.bool (g i j)) s->wpAny (model X.prog X.w) X.A (f (.int i t) (.int j u)) Q E s) :
  OpR X f (rI0 fun i j=>.bl (g i j)):=by
 intro pins s σ H x y v u Q I rx ry h
 obtain ⟨i,j,rfl,rfl,q⟩:=h
 obtain ⟨t,rfl⟩:=rx
 obtain ⟨t',rfl⟩:=ry
 exact rule i j t t' s _ _ ⟨.bl (g i j),H,I,rfl,q⟩
noncomputable def rV (i j:Int):Prop:=0 < j/\j < 1073741824
noncomputable def rE (i j:Int):Prop:=0<=j/\j<=1000000/\i.natAbs < 2 ^ 64
theorem op_add:OpR X (binaryOp .Add) (rI0 fun i j=>.int (i+j)):=vF fun _ _ _ _ _ _ _ q=>add_int q
theorem rW:OpR X (binaryOp .Sub) (rI0 fun i j=>.int (i-j)):=vF fun _ _ _ _ _ _ _ q=>sub_int q
theorem nc:OpR X (binaryOp .FloorDiv) (rI rV fun i j=>.int (i / j)):=opI fun i j _ _ _ _ _ hc q=>by
 have h1:(0:Int) < j:=hc.1
 have h2:j < 1073741824:=hc.2
 exact floordiv_int (by omega) (by rw [Int.fdiv_eq_ediv_of_nonneg i (by omega)]; exact q) (.inl (PyProof.noPylong_small (by omega)))
theorem se:OpR X (binaryOp .Mod) (rI (fun _ j=>0 < j) fun i j=>.int (i % j)):=opI fun i j _ _ _ _ _ hc q=>by
 have h1:(0:Int) < j:=hc
 exact mod_int' (by omega) (by rw [Int.fmod_eq_emod_of_nonneg i (by omega)]; exact q)
theorem qw:OpR X (binaryOp .Pow) (rI rE fun i j=>.int (i ^ j.toNat)):=opI fun _ _ _ _ _ _ _ hc q=>pow_int_small hc.1 hc.2.1 hc.2.2 q
end
section
variable {X:Cx}{a b c:Expr}{ta tb tc:TE}{pos:Pos}
theorem uu:OpR X (compareOp .Lt) (rI0 fun i j=>.bl (decide (i < j))):=xj fun _ _ _ _ _ _ _ q=>lt_int q
theorem pI:OpR X (compareOp .Gt) (rI0 fun i j=>.bl (decide (j < i))):=xj fun _ _ _ _ _ _ _ q=>gt_int q
theorem OpR.or {f:Value->Value->Sem Value}{r r':R2}(h:OpR X f r)(h':OpR X f r'):OpR X f (fun x y H Q=>r x y H Q\/r' x y H Q):=by
 intro pins s σ H x y v u Q I rx ry q
 rcases q with q | q
 ·exact h pins s σ H x y v u Q I rx ry q
 ·exact h' pins s σ H x y v u Q I rx ry q
theorem cU (b:Expr){op:CmpOp}(h:op≠.In:=by decide)(h2:op≠.NotIn:=by decide):behindInMarks op b=false:=by
 have e1:(op==CmpOp.In)=false:=by cases op<;>first | rfl | exact absurd rfl h
 have e2:(op==CmpOp.NotIn)=false:=by cases op<;>first | rfl | exact absurd rfl h2
 cases b<;>simp [behindInMarks,e1,e2]
theorem g8 {op:CmpOp}{r:R2}(ho:OpR X (compareOp op) r)(ha:PE X a ta)(hb:PE X b tb)(hm:behindInMarks op b=false):PE X (.Compare a [op] [b] pos) (tOp r ta tb):=by
 intro pins s σ H Q I h
 exact wpAny_Compare1 (qO ha hb I h fun v u s2 x y H2 I2 rx ry q=>ho pins s2 σ H2 x y v u Q I2 rx ry q) hm
noncomputable def pS (t:TE):TT:=fun σ H Q=>t σ H fun x H'=>∃ k,x=.bl k/\Q k H'
theorem iM {op:CmpOp}{r:R2}(ho:OpR X (compareOp op) r)(ha:PE X a ta)(hb:PE X b tb)(hm:behindInMarks op b=false):PT X (.Compare a [op] [b] pos) (pS (tOp r ta tb)):=by
 intro pins s σ H Q I h
 refine wpAny_isTrue_Compare1 (thn (ha pins s σ H _ I h) fun v s1 ⟨x,H1,I1,r1,q1⟩=>thn (hb pins s1 σ H1 _ I1 q1) fun u s2 ⟨y,H2,I2,r2,q2⟩ =>
  thn (ho pins s2 σ H2 x y v u _ I2 r1 r2 q2) fun c s3 ⟨z,H3,I3,r3,k,e,q3⟩=>?_) hm
 subst e
 cases r3
 exact wpAny_truthy_bool ⟨H3,I3,q3⟩
noncomputable def tO (K:a0a)(x:V)(H:Hp)(k:Bool):Prop :=
 match x with
 | .non=>k=false
 | .bl b=>k=b
 | .int i=>k=(i != 0)
 | .str y=>y.length<=sizeLine/\k=((y.length:Int) != 0)
 | .byt y=>y.size<=sizeLine/\k=((y.size:Int) != 0)
 | .ref p=>(∃ xs,SqL K H p xs/\k=!xs.isEmpty)\/(∃ xs,SqT K H p xs/\k=!xs.isEmpty)\/∃ kvs,H p=some (.dK kvs)/\k=!kvs.isEmpty
 | _=>False
theorem gE {κ:Type}{kvs:List (κ×V)}{vs:List (κ×Value)}(r:KV kvs vs):(!vs.isEmpty)=!kvs.isEmpty:=by
 cases r<;>rfl
theorem dB {xs:List V}{its:List Value}(r:Vals xs its):(!its.toArray.isEmpty)=!xs.isEmpty:=by
 cases r<;>simp
theorem dj:(sizeLine:Nat) < 2 ^ 63:=by rw [sizeLine_eq]; decide
theorem qh:ye X (fun x H Q=>∃ k,tO X.K x H k/\Q k H):=by
 intro pins s σ H x v Q I rx h
 obtain ⟨k,e,q⟩:=h
 have hl:=dj
 have hs:sizeLine=16777216:=sizeLine_eq
 cases x with
 | non =>
  cases rx
  have e':k=false:=e
  subst e'
  exact truthy_none ⟨H,I,q⟩
 | bl b =>
  cases rx
  have e':k=b:=e
  subst e'
  exact wpAny_truthy_bool ⟨H,I,q⟩
 | int i =>
  obtain ⟨t,rfl⟩:=rx
  have e':k=(i != 0):=e
  subst e'
  exact PySem.P.truthy_int ⟨H,I,q⟩
 | str y =>
  obtain ⟨t,rfl⟩:=rx
  obtain ⟨hy,e'⟩:y.length<=sizeLine/\k=((y.length:Int) != 0):=e
  subst e'
  exact PySem.P.truthy_str (by omega) ⟨H,I.tok _,q⟩
 | byt y =>
  obtain ⟨t,rfl⟩:=rx
  obtain ⟨hy,e'⟩:y.size<=sizeLine/\k=((y.size:Int) != 0):=e
  subst e'
  exact PySem.W.truthy_bytes (by omega) ⟨H,I.tok _,q⟩
 | ref p =>
  cases rx
  have e':(∃ xs,SqL X.K H p xs/\k=!xs.isEmpty)\/(∃ xs,SqT X.K H p xs/\k=!xs.isEmpty)\/∃ kvs,H p=some (.dK kvs)/\k=!kvs.isEmpty:=e
  rcases e' with ⟨xs,hx,e'⟩ | ⟨xs,hx,e'⟩ | ⟨kvs,hx,e'⟩
  ·subst e'
   obtain ⟨its,r,pl,hz⟩:=I.list hx
   have hlen:=r.length
   exact wpAny_truthy_list pl.isList (by simp only [a0e]; omega) ⟨H,I.tok _,by rw [dB r]; exact q⟩
  ·subst e'
   obtain ⟨its,r,pl,hz⟩:=I.tuple hx
   have hlen:=r.length
   exact truthy_tuple pl (by simp only [a0e]; omega) ⟨H,I.tok _,by rw [dB r]; exact q⟩
  ·subst e'
   obtain ⟨hz,hS,vs,r,m⟩:kvs.length<=sizeLine/\(p==sysModules)=false/\∃ vs,KV kvs vs/\s.heap.DictOf (aA X.prog X.w) p vs:=I.hok p _ hx
   have hlen:kvs.length=vs.length:=Paired.length r
   exact wpAny_truthy_dict hS m (by omega) ⟨H,I.tok _,by rw [gE r]; exact q⟩
 | _=>exact (show False from e).elim
theorem lP (ha:PE X a ta)(he:∀ whole,isTrue a X.env whole=(do let v <- whole; standAt a.pos; holding [v] (truthy v))) :
  PT X a (fun σ H Q=>ta σ H fun x H'=>∃ k,tO X.K x H' k/\Q k H'):=by
 intro pins s σ H Q I h
 exact isTrue_plain (thn (ha pins s σ H _ I h) fun v s1 ⟨x,H1,I1,r1,q1⟩=>qh pins s1 σ H1 x v Q I1 r1 q1) (he _)
theorem op_add_str:OpR X (binaryOp .Add) (fun x y H Q=>∃ i j,x=.str i/\y=.str j/\i.length+j.length<=sizeLine/\Q (.str (i++j)) H):=by
 intro pins s σ H x y v u Q I rx ry h
 obtain ⟨i,j,rfl,rfl,hz,q⟩:=h
 obtain ⟨t,rfl⟩:=rx
 obtain ⟨t',rfl⟩:=ry
 exact add_str (fun t' tk=>⟨.str (i++j),H,I.tok _,⟨_,rfl⟩,q⟩) hz
theorem dP {x:V}{us:List Value}(r:Vals [x] us):∃ u,us=[u]/\RelV x u:=by
 cases r with
 | cons r1 r2=>cases r2; exact ⟨_,rfl,r1⟩
theorem v9 {x y:V}{us:List Value}(r:Vals [x,y] us):∃ u w',us=[u,w']/\RelV x u/\RelV y w':=by
 cases r with
 | cons r1 r2 =>
  cases r2 with
  | cons r3 r4=>cases r4; exact ⟨_,_,rfl,r1,r3⟩
theorem jb:cA X (.type "int") (fun xs H Q=>(∃ i,xs=[.int i]/\Q (.int i) H)\/∃ k,xs=[.bl k]/\Q (.int (if k then 1 else 0)) H):=by
 intro pins s σ H xs us Q I r h
 rcases h with ⟨i,rfl,q⟩ | ⟨k,rfl,q⟩
 ·obtain ⟨u,rfl,t,rfl⟩:=dP r
  exact call_int_int ⟨.int i,H,I,⟨_,rfl⟩,q⟩
 ·obtain ⟨u,rfl,r1⟩:=dP r
  cases r1
  exact call_int_bool ⟨.int (if k then 1 else 0),H,I.tok _,⟨_,rfl⟩,q⟩
noncomputable def wD (K:a0a)(x:V)(H:Hp)(n:Nat):Prop :=
 match x with
 | .str y=>y.length<=sizeLine/\n=y.length
 | .byt y=>y.size<=sizeLine/\n=y.size
 | .ref p=>(∃ xs,SqL K H p xs/\n=xs.length)\/∃ xs,SqT K H p xs/\n=xs.length
 | _=>False
theorem km:cA X (.builtin "len") (fun xs H Q=>∃ x n,xs=[x]/\wD X.K x H n/\Q (.int n) H):=by
 intro pins s σ H xs us Q I r h
 obtain ⟨x,n,rfl,e,q⟩:=h
 obtain ⟨u,rfl,rx⟩:=dP r
 have hl:=dj
 have hs:sizeLine=16777216:=sizeLine_eq
 cases x with
 | str y =>
  obtain ⟨t,rfl⟩:=rx
  obtain ⟨hy,e'⟩:y.length<=sizeLine/\n=y.length:=e
  subst e'
  exact len_str (by omega) ⟨.int _,H,I.tok _,⟨_,rfl⟩,q⟩
 | byt y =>
  obtain ⟨t,rfl⟩:=rx
  obtain ⟨hy,e'⟩:y.size<=sizeLine/\n=y.size:=e
  subst e'
  exact PySem.W.len_bytes (by omega) ⟨.int _,H,I.tok _,⟨_,rfl⟩,q⟩
 | ref p =>
  cases rx
  have e':(∃ xs,SqL X.K H p xs/\n=xs.length)\/∃ xs,SqT X.K H p xs/\n=xs.length:=e
  rcases e' with ⟨xs,hx,e'⟩ | ⟨xs,hx,e'⟩
  ·subst e'
   obtain ⟨its,r',pl,hz⟩:=I.list hx
   have hlen:=r'.length
   exact Calls.call_len_list pl.isList (by simp only [a0e]; omega) ⟨.int xs.length,H,I.tok _,⟨_,by simp only [a0e]; rw [hlen]⟩,q⟩
  ·subst e'
   obtain ⟨its,r',pl,hz⟩:=I.tuple hx
   have hlen:=r'.length
   exact len_tuple pl (by simp only [a0e]; omega) ⟨.int xs.length,H,I.tok _,⟨_,by simp only [a0e]; rw [hlen]⟩,q⟩
 | _=>exact (show False from e).elim
end
end L2
namespace L2
open PySem PySem.Spec PyProof.Rows
structure ObjM (h:Heap)(x dx C:Addr)(mA:Str->Option Value):Prop where
 obj:h.get? x=some (a1G C dx)
 ns:h.Ns1 dx mA
 ne:dx≠x
theorem i8 {h:Heap}{dx:Addr}{mA:Str->Option Value}(n:h.Ns1 dx mA):∃ od,h.get? dx=some od/\∀ name,a1T name od=some (mA name):=by
 obtain ⟨o,es,ep,ho,hd,hk,_,hm⟩:=n
 refine ⟨o,ho,fun name=>?_⟩
 have e:=hm name
 unfold nsFind findBy at e
 rw [<- a1Y] at e
 unfold a1T
 rw [hd]
 dsimp only
 split
 ·rename_i y q
  rw [q] at e
  exact congrArg some e
 ·rename_i q
  rw [q] at e
  have a:es.toList.any (·.refKey)=false:=by
   rw [List.any_eq_false]
   intro y hy
   obtain ⟨z,t,hkey⟩:=hk y (Array.mem_toList_iff.mp hy)
   simp [DictEntry.refKey,hkey]
  have a':¬ es.toList.any (·.refKey)=true:=by rw [a]; exact a0j
  rw [if_neg a']
  exact congrArg some e
theorem ObjM.look {h:Heap}{x dx C:Addr}{mA:Str->Option Value}(I:ObjM h x dx C mA):∃ od,PySem.W.InstAt h x (a1G C dx) C (some od)/\∀ name,a1T name od=some (mA name) :=
 let ⟨od,ho,hl⟩:=i8 I.ns
 ⟨od,⟨I.obj,rfl,rfl,ho⟩,hl⟩
noncomputable def vM (f:Str)(v:V):List (Str×V)->List (Str×V)
 | []=>[(f,v)]
 | (g,x)::r=>if g=f then (g,v)::r else (g,x)::vM f v r
section
variable {P:Program}{w:World}{H H':Hp}{h h':Heap}{a C dx:Addr}{fs fs':List (Str×V)}
theorem nK (hok:HOk P w H h)(e:H a=some (.ins C dx fs)):∃ mA,ObjM h a dx C mA/\(∀ f,RelO (fs.lookup f) (mA f))/\a2x mA (fs.map (·.1))/\fs.length<=1000/\H dx=some (.own a):=by
 obtain ⟨d,z,ne,ob,mA,n,r,q⟩:=(show ObjOk P w H h a (.ins C dx fs) from hok a _ e)
 exact ⟨mA,⟨ob,n,ne⟩,r,q,z,d⟩
end
structure Cls (K:a0a)(C:Addr):Prop where
 pg:a2d K C Str.empty=true
 hd:PySem.W.hasDictIn K C=true
 po:PySem.W.plainOver K C=true
 sa:a2p K (.ref C) "__setattr__"=some (some (.builtin "object.__setattr__"))
theorem Cls.get {K:a0a}{C:Addr}(c:Cls K C)(f:Str):a2d K C f=true:=c.pg
section
variable {X:Cx}{pins:List (Addr×Obj)}{σ:St}{H:Hp}{s:Shared}{A:Around}{E:Value->Shared->Prop}{Q:Value->Shared->Prop}{c:Value}{b:Bool}
inductive cB (K:a0a)(H:Hp):V->Value->Prop where
 | non:cB K H .non (.type "NoneType")
 | bl (x:Bool):cB K H (.bl x) (.type "bool")
 | int (i:Int):cB K H (.int i) (.type "int")
 | str (x:Str):cB K H (.str x) (.type "str")
 | flt (x:UInt64):cB K H (.flt x) (.type "float")
 | lst {a:Addr} {xs:List V} (e:H a=some (.lst xs)):cB K H (.ref a) (.type "list")
 | frz {a:Addr} {o:Obj} {xs:List V} (e:H a=some (.frz o (.lst xs))):cB K H (.ref a) (.type "list")
 | tup {a:Addr} {xs:List V} (e:H a=some (.tup xs)):cB K H (.ref a) (.type "tuple")
 | dK {a:Addr} {kvs:List (Key×V)} (e:H a=some (.dK kvs)):cB K H (.ref a) (.type "dict")
 | dT {a:Addr} {kvs:List (List Key×V)} (e:H a=some (.dT kvs)):cB K H (.ref a) (.type "dict")
 | ins {a C dx:Addr} {fs:List (Str×V)} (e:H a=some (.ins C dx fs)) (cl:Cls K C) (ha:a2p K (.ref C) "__class__"=some (some (.builtin "object.__class__")))
   (hn:PySem.W.specialIn K (.builtin "object.__class__") "__get__"=some (some (.builtin "getset_descriptor.__get__"))) (htk:PySem.W.takesIn K (.builtin "object.__class__")=some true)
   (hm:PySem.W.mroIn K C (.type "object")=some true):cB K H (.ref a) (.ref C)
theorem bL {x:V}{u t:Value}(I:Inv X pins σ H s)(rx:RelV x u)(ty:cB X.K H x t)(e:a0U X.K t c=some b)(h:∀ tk,Q (.bool b) { s with toks:=tk }) :
  wpAny (model X.prog X.w) A (call (.builtin "isinstance") [u,c]) Q E s:=by
 cases ty with
 | non=>cases (show u=Value.none from rx); exact a0u PySem.W.kitx_none I.kIn a1g e (fun z=>nomatch z) h
 | bl y=>cases (show u=Value.bool y from rx); exact a0u PySem.W.kitx_bool I.kIn a1g e (fun z=>nomatch z) h
 | int i=>obtain ⟨t,q⟩:=(show ∃ t,u=Value.int i t from rx); cases q; exact a0u PySem.W.kitx_int I.kIn a1g e (fun z=>nomatch z) h
 | str y=>obtain ⟨t,q⟩:=(show ∃ t,u=Value.str y t from rx); cases q; exact a0u PySem.W.kitx_str I.kIn a1g e (fun z=>nomatch z) h
 | flt y=>obtain ⟨t,q⟩:=(show ∃ t,u=Value.float y t from rx); cases q; exact a0u PySem.W.kitx_float I.kIn a1g e (fun z=>nomatch z) h
 | @lst a xs ea =>
  cases (show u=Value.ref a from rx)
  obtain ⟨_,_,n,_,h1⟩:=(show ObjOk X.prog X.w H s.heap a (.lst xs) from I.hok a _ ea)
  exact a0u a1w I.kIn ⟨_,h1,rfl⟩ e (fun z=>nomatch z) h
 | @frz a ob xs ea =>
  cases (show u=Value.ref a from rx)
  obtain ⟨_,_,_,n,_,h1⟩:=(show ObjOk X.prog X.w H s.heap a (.frz ob (.lst xs)) from I.hok a _ ea)
  exact a0u a1w I.kIn ⟨_,h1,rfl⟩ e (fun z=>nomatch z) h
 | @tup a xs ea =>
  cases (show u=Value.ref a from rx)
  obtain ⟨_,_,_,p⟩:=(show ObjOk X.prog X.w H s.heap a (.tup xs) from I.hok a _ ea)
  obtain ⟨o,h1,h2,_⟩:=p
  exact a0u a1Z I.kIn ⟨o,h1,h2⟩ e (fun z=>nomatch z) h
 | @dK a kvs ea =>
  cases (show u=Value.ref a from rx)
  obtain ⟨_,_,vs,_,p⟩:=(show ObjOk X.prog X.w H s.heap a (.dK kvs) from I.hok a _ ea)
  obtain ⟨o,es,ep,h1,h2,_⟩:=p
  exact a0u a16 I.kIn ⟨o,h1,h2.1⟩ e (fun z=>nomatch z) h
 | @dT a kvs ea =>
  cases (show u=Value.ref a from rx)
  obtain ⟨_,_,xs,_,o,es,ep,h1,h2,_⟩:=(show ObjOk X.prog X.w H s.heap a (.dT kvs) from I.hok a _ ea)
  exact a0u a16 I.kIn ⟨o,h1,h2.1⟩ e (fun z=>nomatch z) h
 | @ins a C dx fs ea cl ha hn htk hm =>
  cases (show u=Value.ref a from rx)
  obtain ⟨mA,O,_⟩:=nK I.hok ea
  obtain ⟨od,J,_⟩:=O.look
  exact a0u (PySem.W.kitx_own (cl.get _) cl.hd ha hn htk hm) I.kIn J e (fun z=>nomatch z) h
end
end L2
namespace L2
open PySem PySem.Spec PyProof.Rows
structure Room (k:Nat)(A:Around):Prop where
 hd:A.handled=none
 dp:A.depth+3 * k+5 < recursionLimit
 un:A.units+16 * k+200 < cLine
theorem Room.deeper {k:Nat}{A:Around}(r:Room (k+1) A)(env:Env):Room k (A.deeper env) :=
 ⟨r.hd,by have:=r.dp; show A.depth+1+3 * k+5 < _; omega,by have:=r.un; show A.units+3+16 * k+200 < _; omega⟩
theorem Room.depth {k:Nat}{A:Around}(r:Room k A):A.depth < recursionLimit:=by have:=r.dp; omega
theorem Room.units {k:Nat}{A:Around}(r:Room k A):A.units+64 < cLine:=by have:=r.un; omega
noncomputable def rG:TA:=fun _ H Q=>Q [] H
noncomputable def hJ (ta:TE)(tr:TA):TA:=fun σ H Q=>ta σ H fun x H1=>tr σ H1 fun xs H2=>Q (x::xs) H2
section
variable {X:Cx}{e:Expr}{es:List Expr}{te:TE}{t:TA}{pos:Pos}
theorem cw:PA X [] rG:=fun _ _ _ _ H Q I h=>Calls.spliced_nil ⟨[],H,I,.nil,h⟩
theorem a6 (ha:PE X e te)(hr:PA X es t)(hs:starEach (e::es) X.env=(false,eval e X.env)::starEach es X.env:=by rfl):PA X (e::es) (hJ te t):=by
 intro pos pins s σ H Q I h
 rw [hs]
 show wpAny _ _ (spliced ((false,eval e X.env)::backTo pos (starEach es X.env))) _ _ s
 refine Calls.spliced_cons (thn (ha pins s σ H _ I h) fun u s1 ⟨x,H1,I1,r1,q1⟩=>?_)
 exact thn (hr pos pins s1 σ H1 _ I1 q1) fun us s2 ⟨xs,H2,I2,r2,q2⟩=>⟨x::xs,H2,I2,.cons r1 r2,q2⟩
noncomputable def uw (t:TA):TE:=fun σ H Q=>t σ H fun xs H1=>xs.length<=sizeLine/\∀ p,H1 p=none->Q (.ref p) (upd H1 p (.tup xs))
noncomputable def vO (t:TA):TE:=fun σ H Q=>t σ H fun xs H1=>xs.length<=sizeLine/\∀ p,H1 p=none->Q (.ref p) (upd H1 p (.lst xs))
theorem qz {x1}(h:PA X es t):PE X (.Tuple es x1 pos) (uw t):=by
 intro pins s σ H Q I hq
 refine wpAny_Tuple_spliced (thn (h pos pins s σ H _ I hq) fun us s1 ⟨xs,H1,I1,r,z,q⟩=>⟨by rw [<- r.length]; exact z,?_⟩)
 have hf:H1 s1.heap.objs.size=none:=I1.hok.fresh (a0i _)
 refine ⟨.ref s1.heap.objs.size,upd H1 s1.heap.objs.size (.tup xs),I1.laid (t':=s1.toks) (fun b u e=>Heap.get?_push_of_some _ e) (a0i _) ?_,rfl,q _ hf⟩
 exact ⟨z,us,r,⟨_,Heap.get?_push_size _ rfl,rfl,_,rfl⟩⟩
theorem tZ (h:PA X es t):PE X (.List es pos) (vO t):=by
 intro pins s σ H Q I hq
 refine wpAny_List_spliced (thn (h pos pins s σ H _ I hq) fun us s1 ⟨xs,H1,I1,r,z,q⟩=>⟨by rw [<- r.length]; exact z,?_⟩)
 have hf:H1 s1.heap.objs.size=none:=I1.hok.fresh (a0i _)
 refine ⟨.ref s1.heap.objs.size,upd H1 s1.heap.objs.size (.lst xs),I1.laid (t':=s1.toks) (fun b u e=>Heap.get?_push_of_some _ e) (a0i _) ?_,rfl,q _ hf⟩
 exact ⟨z,us,0,r,Heap.get?_push_size _ rfl⟩
end
noncomputable abbrev Sp:=List V->Hp->VK->XK->Prop
noncomputable abbrev CXT:=List Env->Hp->Shared->XK->Value->Shared->Prop
structure oq (P:Program)(w:World)(K:a0a)(mg:Str->Option Value)(base:Heap)(A:Around)(outer:List Env)(s:Shared)(H:Hp):Prop where
 frames:A.frames=some outer
 mod:Mod K mg base
 bs:∀ b o,base.get? b=some o->s.heap.get? b=some o/\H b=none
 bsz:base.objs.size<=s.heap.objs.size
 funs:s.heap.FunFrames base outer
 frf:∀ b∈frs outer,H b=none
 hok:HOk P w H s.heap
 bare:AllBare s.gens
noncomputable def CE (outer:List Env)(P:Program)(w:World)(H:Hp)(s:Shared)(Q:VK)(u:Value)(s':Shared):Prop :=
 ∃ v H',s'.os=s.os/\AllBare s'.gens/\Un (frs outer) [] H H' s.heap s'.heap/\HOk P w H' s'.heap/\RelV v u/\Q v H'
noncomputable def CR (CX:CXT)(outer:List Env)(P:Program)(w:World)(H:Hp)(s:Shared)(Q:VK)(E:XK)(r:Result)(s':Shared):Prop :=
 match r with
 | .ok (.ret u)=>CE outer P w H s Q u s'
 | .ok _=>False
 | .error e=>CX outer H s E e s'
structure b6 (P:Program)(w:World)(K:a0a)(mg:Str->Option Value)(base:Heap)(CX:CXT)(k:Nat)(f:Addr)(fd:FuncData)(ps:List Str)(sp:Sp):Prop where
 len:∀ vs H Q E,sp vs H Q E->vs.length=ps.length
 run:∀ (A:Around) (outer:List Env) (s:Shared) (H:Hp) (args:Args) (us:List Value) (vs:List V) (Q:VK) (E:XK),Room k A->oq P w K mg base A outer s H->BindsTo s fd args (ps.zip us)->Vals vs us->sp vs H Q E ->
  codeAny (model P w) A (.call (.ref f) args) (CR CX outer P w H s Q E) s
section
variable {X:Cx}{pins:List (Addr×Obj)}{σ:St}{H:Hp}{s s':Shared}
theorem Inv.env0 (I:Inv X pins σ H s):oq X.prog X.w X.K X.mg X.base X.A X.stack s H :=
 ⟨I.ok.frames,I.ok.mod,I.bs,a0p I.ok.bsz I.sz,I.stack,I.stkFree,I.hok,I.bare⟩
theorem Inv.after {Q:VK}{u:Value}(I:Inv X pins σ H s)(h:CE X.stack X.prog X.w H s Q u s'):EP X pins σ Q u s':=by
 obtain ⟨v,H',os,bare,un,hok,r,q⟩:=h
 obtain ⟨hh,g,d,t,os'⟩:=s'
 obtain rfl:os'=s.os:=os
 exact ⟨v,H',I.call (h':=hh) (g':=g) (d':=d) (t':=t) (ch:=[]) un hok bare (fun b z=>absurd z (by simp)),r,q⟩
end
noncomputable def vT (sp:Sp)(dvs:List V)(E:XK)(t:TA):TE:=fun σ H Q=>t σ H fun vs H1=>sp (vs++dvs) H1 Q E
noncomputable def Binds (K:a0a)(fd:FuncData)(ps:List Str)(ds:List Value):Prop :=
 ∀ (s:Shared) (us:List Value),K.In s.heap->(us++ds).length=ps.length->BindsTo s fd ⟨us,[]⟩ (ps.zip (us++ds))
theorem Binds.all {K:a0a}{fd:FuncData}{ps:List Str}(h:∀ us:List Value,us.length=ps.length->bindArgs fd ⟨us,[]⟩=pure (ps.zip us)):Binds K fd ps []:=fun s us _ hl=>by
 rw [a0I] at hl ⊢
 exact .of_eq (h us hl)
noncomputable def gx (CX:CXT)(X:Cx)(E:XK):Prop:=∀ (pins:List (Addr×Obj)) (σ:St) (H:Hp) (s:Shared) (e:Value) (s':Shared),Inv X pins σ H s->CX X.stack H s E e s'->X.xe e s'
section
variable {X:Cx}{CX:CXT}{k:Nat}{f C:Addr}{fd:FuncData}{ps:List Str}{sp:Sp}{dvs:List V}{ds:List Value}{E:XK}{x m:Str}{p pos apos:Pos}{e o:Expr}{es:List Expr}{ta:TE}{t:TA}
theorem rq {pins:List (Addr×Obj)}{σ:St}{H:Hp}{s:Shared}{Q:VK}{us:List Value}{vs:List V}(F:b6 X.prog X.w X.K X.mg X.base CX k f fd ps sp)(hr:Room k X.A)(hb:Binds X.K fd ps ds)(hd:Vals dvs ds)(hx:gx CX X E)
  (I:Inv X pins σ H s) (r:Vals vs us) (h:sp (vs++dvs) H Q E):wpAny (model X.prog X.w) X.A (call (.ref f) us) (EP X pins σ Q) X.xe s:=by
 have r2:Vals (vs++dvs) (us++ds):=r.append hd
 have hl:(us++ds).length=ps.length:=by rw [<- r2.length]; exact F.len _ _ _ _ h
 refine wpAny_call (codeAny_mono (F.run X.A X.stack s H ⟨us,[]⟩ (us++ds) (vs++dvs) Q E hr I.env0 (hb s us I.kIn hl) r2 h) fun r s' hq=>?_)
 cases r with
 | error e=>exact hx pins σ H s e s' I hq
 | ok fl =>
  cases fl with
  | ret u=>exact I.after hq
  | next=>exact a00 hq
  | brk=>exact a00 hq
  | cont=>exact a00 hq
theorem pj (F:b6 X.prog X.w X.K X.mg X.base CX k f fd ps sp)(hr:Room k X.A)(hg:Gl X x)(hm:X.mg x=some (.ref f))(hk:a1h X.K (.ref f)=true)(hb:Binds X.K fd ps ds)(hd:Vals dvs ds)(hx:gx CX X E)
  (ha:PA X (e::es) t) (hdb:(x==("__debug__":Str))=false:=by decide) (he:starEach (e::es) X.env=(false,eval e X.env)::starEach es X.env:=by rfl) (hpl:(backTo pos (starEach es X.env)).any (·.1)=false:=by rfl) :
  PE X (.Call (.Name x p) (e::es) [] pos) (vT sp dvs E t):=by
 intro pins s σ H Q I h
 refine wpAny_Call_Name_kw (iN I hg hm ?_ hdb)
 refine PySem.W.callWith_K (h₀:=X.base) I.ok.mod.kin hk (thn (ha pos pins s σ H _ I h) fun us s1 ⟨vs,H1,I1,r,q⟩=>⟨I1.kIn,?_⟩) he hpl
 exact rq F hr hb hd hx I1 r q
end
structure ay (N P:List Str)(sc:Scope):Prop where
 kind:sc.kind=.function
 co:sc.isCoroutine=false
 gen:sc.isGenerator=false
 nd:N.Nodup
 pre:N.take P.length=P
 par:∀ x∈P,sc.names.lookup x=some .local\/sc.names.lookup x=some .cell
 nofree:∀ y∈sc.names,y.2≠.free
theorem d0 {kindOf:Str->Option NameKind}{x:Str}:∀ {binds:List (Str×Value)} {m:Str->Option Value},(∀ v,(x,v) ∉ binds)->bindL kindOf binds m x=m x
 | [],_,_=>rfl
 | (n,v)::r,m,h=>by
  unfold bindL
  rw [d0 fun w hw=>h w (a0f _ hw)]
  split
  ·have:x≠n:=by rintro rfl; exact h v a0d
   simp [this]
  ·rfl
theorem dR {kindOf:Str->Option NameKind}{x:Str}:∀ {binds:List (Str×Value)} {m:Str->Option Value},(∀ v,(x,v) ∉ binds)->bindC kindOf binds m x=m x
 | [],_,_=>rfl
 | (n,v)::r,m,h=>by
  unfold bindC
  rw [dR fun w hw=>h w (a0f _ hw)]
  split
  ·rfl
  ·have:x≠n:=by rintro rfl; exact h v a0d
   simp [this]
theorem dN {kindOf:Str->Option NameKind}{x:Str}{v:Value}:∀ {P:List Str} {vs:List Value} {i:Nat} {m:Str->Option Value},P.Nodup->P[i]?=some x->vs[i]?=some v->kindOf x=some .local ->
  bindL kindOf (P.zip vs) m x=some v
 | [],_,_,_,_,h,_,_=>by simp at h
 | _::_,[],_,_,_,_,h,_=>by simp at h
 | p::P,w::vs,0,m,nd,h1,h2,hk=>by
  simp at h1 h2; subst h1; subst h2
  show bindL kindOf ((p,w)::P.zip vs) m p=_
  unfold bindL
  rw [d0 fun v hv=>(a0D.mp nd).1 (a1n hv).1,if_pos hk]
  simp
 | p::P,w::vs,i+1,m,nd,h1,h2,hk=>by
  show bindL kindOf ((p,w)::P.zip vs) m x=_
  unfold bindL
  exact dN (i:=i) (a0D.mp nd).2 (by simpa using h1) (by simpa using h2) hk
theorem dS {kindOf:Str->Option NameKind}{x:Str}{v:Value}:∀ {P:List Str} {vs:List Value} {i:Nat} {m:Str->Option Value},P.Nodup->P[i]?=some x->vs[i]?=some v->kindOf x≠some .local ->
  bindC kindOf (P.zip vs) m x=some v
 | [],_,_,_,_,h,_,_=>by simp at h
 | _::_,[],_,_,_,_,h,_=>by simp at h
 | p::P,w::vs,0,m,nd,h1,h2,hk=>by
  simp at h1 h2; subst h1; subst h2
  show bindC kindOf ((p,w)::P.zip vs) m p=_
  unfold bindC
  rw [dR fun v hv=>(a0D.mp nd).1 (a1n hv).1,if_neg hk]
  simp
 | p::P,w::vs,i+1,m,nd,h1,h2,hk=>by
  show bindC kindOf ((p,w)::P.zip vs) m x=_
  unfold bindC
  exact dS (i:=i) (a0D.mp nd).2 (by simpa using h1) (by simpa using h2) hk
noncomputable def start (N:List Str)(vs:List V):St:=vs.map some++a0G (N.length-vs.length) none
noncomputable def eE (CX:CXT)(P:Program)(w:World)(K:a0a)(mg:Str->Option Value)(base:Heap)(N:List Str)(qual:Str)(scope:Scope)(f:Addr)(cd:Value)(A:Around)(outer:List Env)(s:Shared)(H:Hp)(E:XK):Cx where
 prog:=P
 w:=w
 K:=K
 mg:=mg
 base:=base
 A:=A.deeper (envOfC qual scope s.heap.objs.size f cd)
 N:=N
 s₀:=s
 H₀:=H
 env:=envOfC qual scope s.heap.objs.size f cd
 outer:=outer
 stack:=envOfC qual scope s.heap.objs.size f cd::outer
 ex:=[]
 calm:=true
 fn:=fun _=>true
 pn:=[]
 xe:=fun e s'=>wpAny (model P w) (A.deeper (envOfC qual scope s.heap.objs.size f cd)) (leaving (envOfC qual scope s.heap.objs.size f cd) e) (fun _ s''=>CX outer H s E e s'') (fun e' s''=>CX outer H s E e' s'') s'
theorem fz {sc:Scope}{n:Nat}{x:Str}(h:sc.names.lookup x=some .cell):∃ c,(cellsFrom n sc.names []).lookup x=some c:=by
 have q:=a1C sc.names n [] (.inl h)
 exact Option.isSome_iff_exists.mp q
theorem iU {CX:CXT}{P:Program}{w:World}{K:a0a}{mg:Str->Option Value}{base:Heap}{N ps:List Str}{qual:Str}{scope:Scope}{f:Addr}{cd:Value}{A:Around}{outer:List Env}{s s1:Shared}{H:Hp}{E:XK}{us:List Value}{vs:List V}
  (S:ay N ps scope) (hd:A.handled=none) (e0:oq P w K mg base A outer s H) (hl:vs.length=ps.length) (r:Vals vs us)
  (x:InCallC s s.heap.objs.size (bindL (envOfC qual scope s.heap.objs.size f cd).kindOf (ps.zip us) fun _=>none) (cellsFrom (s.heap.objs.size+1) scope.names []) (bindC (envOfC qual scope s.heap.objs.size f cd).kindOf (ps.zip us) fun _=>none) s1) :
  Inv (eE CX P w K mg base N qual scope f cd A outer s H E) [] (start N vs) H s1:=by
 have hpl:ps.length<=N.length:=by have:=congrArg a2k S.pre; rw [a1j] at this; omega
 obtain ⟨h1,tk,rfl,hk⟩:=x.done
 have noA:∀ b:Addr,b ∉ (eE CX P w K mg base N qual scope f cd A outer s H E).ex:=fun b z=>absurd (show b∈([]:List Addr) from z) (by simp)
 refine ⟨⟨e0.mod,S.kind,rfl,rfl,a0i _,fun y z c h1 h2=>?_,fun y hy=>?_,fun y c _ h=>?_,fun _=>hd,Around.frames_deeper e0.frames,.inr ⟨rfl,rfl⟩,fun b z=>absurd z (noA b),e0.bs,e0.bsz,fun b _ _=>noA b,fun b z=>absurd z (noA b),e0.funs,e0.frf⟩,
  rfl,e0.bare,Un.kept hk,⟨_,x.toInCall.ns,fun i y v h1 h2 h3=>?_⟩,fun y c h=>⟨_,x.cell y c h⟩,e0.hok.fresh (a0i _),fun y c h=>?_,fun p hp=>absurd (show p∈([]:List (Addr×Obj)) from hp) (by simp),e0.hok.kept hk,?_⟩
 ·exact name_of_addr x.apart (a0T h1) (a0T h2)
 ·have hy:scope.names.lookup y=some .cell\/scope.names.lookup y=some .free:=hy
  rcases hy with hy | hy
  ·exact fz hy
  ·exact absurd rfl (S.nofree _ (a0T hy))
 ·exact a1H (x.above y c (a0T h))
 ·have hi:i < vs.length:=by
   unfold start at h2
   by_cases hi:i < vs.length
   ·exact hi
   ·rw [List.getElem?_append_right (by simpa using hi)] at h2
    rw [List.getElem?_replicate] at h2
    split at h2<;>cases h2
  have ha:vs[i]?=some v:=by
   unfold start at h2
   rw [a1s (by simpa using hi),a0v] at h2
   cases e:vs[i]? with
   | none=>rw [e] at h2; cases h2
   | some a=>rw [e] at h2; cases h2; rfl
  obtain ⟨u,hu,rv⟩:=r.get ha
  have hp:ps[i]?=some y:=by
   rw [<- S.pre,List.getElem?_take_of_lt (by omega)]; exact h1
  have ndP:ps.Nodup:=by rw [<- S.pre]; exact S.nd.sublist (List.take_sublist _ _)
  refine ⟨u,rv,?_⟩
  rcases S.par y (a1R hp) with k | k
  ·exact .inl ⟨k,dN ndP hp hu k⟩
  ·obtain ⟨c,e⟩:=fz (n:=s.heap.objs.size+1) k
   refine .inr ⟨.inl k,c,e,?_⟩
   have q:=x.cell y c e
   rw [dS ndP hp hu (by show scope.names.lookup y≠_; rw [k]; decide)] at q
   exact q
 ·exact e0.hok.fresh (a1H (x.above y c (a0T h)))
 ·unfold start
  show _=N.length
  rw [a0c,a0b,a1I]
  omega
theorem wj {CX:CXT}{P:Program}{w:World}{K:a0a}{mg:Str->Option Value}{base:Heap}{k:Nat}{f:Addr}{name qual:Str}{params:Arguments}{body:List Stmt}{scope:Scope}{dV kV doc pm cdv ct oc:Value}{an od:Option Addr}
  {osl:Array (Option Value)} {N ps:List Str} {sp:Sp} (lk:K.lookup f=some ⟨oc,od,.func (a0R name qual params body scope dV kV doc pm an cdv ct),osl⟩) (hcd:a1t K cdv qual=true) (S:ay N ps scope)
  (len:∀ vs H Q E,sp vs H Q E->vs.length=ps.length)
  (hbody:∀ (A:Around) (outer:List Env) (s:Shared) (H:Hp) (vs:List V) (Q:VK) (E:XK),Room k (A.deeper (envOfC qual scope s.heap.objs.size f cdv))->sp vs H Q E ->
   ∃ t,PSs (eE CX P w K mg base N qual scope f cdv A outer s H E) body t/\t { nx:=fun _ H'=>Q .non H',rt:=Q } (start N vs) H) :
  b6 P w K mg base CX (k+1) f (a0R name qual params body scope dV kV doc pm an cdv ct) ps sp:=by
 refine ⟨len,fun A outer s H args us vs Q E hr e0 hb r hsp=>?_⟩
 have hl:=len _ _ _ _ hsp
 have KX:K.In s.heap:=e0.mod.kin.keeps fun b o e=>(e0.bs b o e).1
 have lim:s.heap.NoLimit:=e0.mod.nolimit.keeps fun b o e=>(e0.bs b o e).1
 have hkind:∀ y∈ps.zip us,scope.names.lookup y.1=some .local\/(scope.names.lookup y.1=some .cell/\((cellsFrom (s.heap.objs.size+1) scope.names []).lookup y.1).isSome=true):=fun ⟨n,v⟩ hy=>by
  rcases S.par n (a1n hy).1 with q | q
  ·exact .inl q
  ·exact .inr ⟨q,a1C _ _ _ (.inl q)⟩
 refine codeAny_call_function hr.depth (KX _ _ lk) rfl S.co S.gen rfl (PySem.W.codeRec_of KX hcd) (hb _ _ _ _ ?_)
 refine wpAny_newFunctionEnv_cells S.kind hkind fun env he s1 x=>?_
 subst he
 refine ⟨lim.keeps x.toInCall.keep,codeAny_func ?_⟩
 obtain ⟨t,ht,hq⟩:=hbody A outer s H vs Q E (hr.deeper _) hsp
 have I:Inv (eE CX P w K mg base N qual scope f cdv A outer s H E) [] (start N vs) H s1:=iU S hr.hd e0 hl r x
 refine wpAny_mono (ht [] s1 (start N vs) H _ I hq) (fun fl s' hs=>?_) fun e s' hs=>hs
 have fin:∀ {σ':St} {H':Hp} {v:V} {u:Value},Inv (eE CX P w K mg base N qual scope f cdv A outer s H E) [] σ' H' s'->RelV v u->Q v H'->CE outer P w H s Q u s' :=
  fun {σ' H' v u} J rv q=>⟨v,H',J.os,J.bare,J.base,J.hok,rv,q⟩
 cases fl with
 | ret u =>
  obtain ⟨v,σ',H',J,rv,q⟩:=hs
  exact fin J rv q
 | next =>
  obtain ⟨σ',H',J,q⟩:=hs
  exact fin (v:=V.non) (u:=Value.none) J rfl q
 | brk =>
  obtain ⟨_,_,_,q⟩:=hs
  exact a00 q
 | cont =>
  obtain ⟨_,_,_,q⟩:=hs
  exact a00 q
end L2
namespace L2
open PySem PySem.Spec PyProof.Rows
section
variable {X:Cx}{x:Str}{p pos:Pos}{e:Expr}{es:List Expr}{t:TA}{id T:String}{r:List V->Hp->VK->Prop}
noncomputable def tCB (r:List V->Hp->VK->Prop)(t:TA):TE:=fun σ H Q=>t σ H fun vs H1=>r vs H1 Q
theorem b7 (hc:cA X (.builtin id) r)(hg:Gl X x)(hm:X.mg x=none)(hv:bootBuiltins x=some (.builtin id))(ha:PA X (e::es) t)(hn:x≠"__name__":=by decide)(hdb:(x==("__debug__":Str))=false:=by decide)
  (he:starEach (e::es) X.env=(false,eval e X.env)::starEach es X.env:=by rfl) (hpl:(backTo pos (starEach es X.env)).any (·.1)=false:=by rfl):PE X (.Call (.Name x p) (e::es) [] pos) (tCB r t):=by
 intro pins s σ H Q I h
 refine wpAny_Call_Name_kw (cN I hg hm hv ?_ hn hdb)
 exact a2a (thn (ha pos pins s σ H _ I h) fun us s1 ⟨vs,H1,I1,r1,q1⟩=>hc pins s1 σ H1 vs us Q I1 r1 q1) he hpl
theorem d6 (hc:cA X (.type T) r)(hg:Gl X x)(hm:X.mg x=none)(hv:bootBuiltins x=some (.type T))(ha:PA X (e::es) t)(hn:x≠"__name__":=by decide)(hdb:(x==("__debug__":Str))=false:=by decide)
  (he:starEach (e::es) X.env=(false,eval e X.env)::starEach es X.env:=by rfl) (hpl:(backTo pos (starEach es X.env)).any (·.1)=false:=by rfl):PE X (.Call (.Name x p) (e::es) [] pos) (tCB r t):=by
 intro pins s σ H Q I h
 refine wpAny_Call_Name_kw (cN I hg hm hv ?_ hn hdb)
 exact a0Y (thn (ha pos pins s σ H _ I h) fun us s1 ⟨vs,H1,I1,r1,q1⟩=>hc pins s1 σ H1 vs us Q I1 r1 q1) he hpl
end
end L2
namespace HT
open PySem PyProof.Rows
section
variable {prog:Program}{w:World}{A:Around}{E:Value->Shared->Prop}{s:Shared}
theorem cat_tup {t b:Addr}{vs ws:List Value}{Q:Value->Shared->Prop}(ht:IsTup s.heap t vs.toArray)(hb:IsTup s.heap b ws.toArray)(hv:vs≠[])
  (h1:ws=[]->Q (.ref t) s) (h2:ws≠[]->Q (.ref s.heap.objs.size) { s with heap:=s.heap.push { cls:=.type "tuple",data:=.seq (vs++ws).toArray } })
  (hsz:vs.length+ws.length<=sizeLine):wpAny (model prog w) A (binaryOp .Add (.ref t) (.ref b)) Q E s:=by
 obtain ⟨⟨cls,dd,data,sl⟩,ho,hc,n,hd⟩:=id ht
 obtain ⟨⟨cls2,dd2,data2,sl2⟩,ho2,hc2,n2,hd2⟩:=id hb
 simp only at hc hd hc2 hd2
 subst hc hd hc2 hd2
 have e:vs.toArray++ws.toArray=(vs++ws).toArray:=by simp
 by_cases hw:ws=[]
 ·exact concat_meets ⟨_,ho,rfl⟩ ⟨_,ho2,rfl⟩ noFill_tuple_add seq_tuple_add a1f a08 (a07 _ _)
   (tuple_addW1 t b vs.toArray ws.toArray n n2 dd dd2 sl sl2 (by simpa using hv) (by simp [hw])) ⟨ho,ho2,h1 hw⟩
 ·refine concat_meets ⟨_,ho,rfl⟩ ⟨_,ho2,rfl⟩ noFill_tuple_add seq_tuple_add a1f a08 (a07 _ _)
   (tuple_addW2 t b vs.toArray ws.toArray n n2 dd dd2 sl sl2 (by simpa using hv) (by simpa using hw) (by rw [a0e,a0e]; exact hsz)) ⟨ho,ho2,?_⟩
  rw [e]
  exact h2 hw
noncomputable def sIx (n d:Nat):Option Int->Nat
 | none=>d
 | some v=>if v < 0 then (v+(n:Int)).toNat else min v.toNat n
theorem tf (n d:Nat)(hd:d<=n)(o:Option Int):sIx n d o<=n:=by
 cases o with
 | none=>exact hd
 | some v =>
  show (if v < 0 then (v+(n:Int)).toNat else min v.toNat n)<=n
  by_cases hv:v < 0
  ·rw [if_pos hv]; omega
  ·rw [if_neg hv]; exact Nat.min_le_right _ _
theorem hU (v:Int)(n d:Nat):(if v < 0 then max (v+(n:Int)) 0 else min v (n:Int))=((sIx n d (some v):Nat):Int):=by
 show (if v < 0 then max (v+(n:Int)) 0 else min v (n:Int))=(((if v < 0 then (v+(n:Int)).toNat else min v.toNat n):Nat):Int)
 by_cases hv:v < 0
 ·simp only [if_pos hv]; omega
 ·simp only [if_neg hv]; omega
theorem gJ (lo hi:Option Int)(n:Nat):Builtin.Slice.sliceAdjust lo hi 1 (n:Int)=(((sIx n 0 lo:Nat):Int),((sIx n n hi:Nat):Int)):=by
 have h1:¬ ((1:Int) < 0):=by omega
 unfold Builtin.Slice.sliceAdjust
 simp only [h1,if_false]
 refine Prod.ext ?_ ?_
 ·cases lo with
  | none=>rfl
  | some v=>exact hU v n 0
 ·cases hi with
  | none=>rfl
  | some v=>exact hU v n n
theorem gm (i j:Nat):Builtin.Slice.slicePlaces (i:Int) (j:Int) 1=j-i:=by
 unfold Builtin.Slice.slicePlaces
 have h1:(1:Int) > 0:=by omega
 simp only [h1,if_true,Int.ediv_one]
 split<;>omega
theorem dr {v:Value}{o:Option Int}{Q:Option Int->Shared->Prop}(p:IsPart v o)(h:Q o s):wpAny (model prog w) A (Builtin.Slice.slicePartIndex v) Q E s:=by
 cases p with
 | none=>exact slicePart_none h
 | int i t=>exact slicePart_int h
theorem sliceApplied_gen {sl:Addr}{vl vu:Value}{lo hi:Option Int}{n:Nat}{Q:Int×Int×Nat->Shared->Prop}(hs:s.heap.IsSliceOf sl vl vu .none)(pl:IsPart vl lo)(pu:IsPart vu hi)
  (h:Q (((sIx n 0 lo:Nat):Int),1,sIx n n hi-sIx n 0 lo) s):wpAny (model prog w) A (Builtin.Slice.sliceApplied (.ref sl) (pure (n:Int))) Q E s:=by
 obtain ⟨os,hos,hcs,hds⟩:=id hs
 unfold Builtin.Slice.sliceApplied Builtin.Slice.sliceFields
 refine wpAny_bind (wpAny_bind (wpAny_field hos hds (x:=vl) rfl (wpAny_bind (wpAny_field hos hds (x:=vu) rfl (wpAny_bind (wpAny_field hos hds (x:=.none) rfl (wpAny_pure ?_)))))))
 refine wpAny_bind (slicePart_none ?_)
 show wpAny _ _ (if ((1:Int)==0)=true then _ else _) _ _ s
 rw [if_neg (by decide)]
 refine wpAny_bind (dr pl (wpAny_bind (dr pu (wpAny_bind (wpAny_pure ?_)))))
 show wpAny _ _ (match Builtin.Slice.sliceAdjust lo hi 1 (n:Int) with | (lo,hi)=>pure (lo,(1:Int),Builtin.Slice.slicePlaces lo hi 1)) _ _ s
 rw [gJ lo hi n]
 show wpAny _ _ (pure (((sIx n 0 lo:Nat):Int),(1:Int),Builtin.Slice.slicePlaces ((sIx n 0 lo:Nat):Int) ((sIx n n hi:Nat):Int) 1)) _ _ s
 rw [gm]
 exact wpAny_pure h
theorem lR (xs:Array Value)(i k:Nat):((a0P k).filterMap fun (m:Nat)=>xs[((i:Int)+(m:Int) * 1).toNat]?).toArray=((xs.toList.drop i).take k).toArray:=by
 have e:(fun (m:Nat)=>xs[((i:Int)+(m:Int) * 1).toNat]?)=fun m=>xs[i+m]?:=by
  funext m
  have:((i:Int)+(m:Int) * 1).toNat=i+m:=by omega
  rw [this]
 rw [e]
 have:=pick_run xs i k
 rw [List.filterMap_map] at this
 have e2:((fun x=>xs[x]?) ∘ fun x=>i+x)=fun m=>xs[i+m]?:=rfl
 rw [e2] at this
 rw [this]
theorem getItem_tuple_cut {t sl:Addr}{items:Array Value}{vl vu:Value}{lo hi:Option Int}{Q:Value->Shared->Prop}(ht:IsTup s.heap t items)(hs:s.heap.IsSliceOf sl vl vu .none)(pl:IsPart vl lo)(pu:IsPart vu hi)
  (hw:¬ (sIx items.size 0 lo=0/\sIx items.size items.size hi=items.size))
  (h:Q (.ref s.heap.objs.size) { s with heap:=s.heap.push { cls:=.type "tuple",data:=.seq ((items.toList.drop (sIx items.size 0 lo)).take (sIx items.size items.size hi-sIx items.size 0 lo)).toArray } })
  (hsz:items.size<=sizeLine):wpAny (model prog w) A (getItem (.ref t) (.ref sl)) Q E s:=by
 have htake:sizeOk (.seq ((items.toList.drop (sIx items.size 0 lo)).take (sIx items.size items.size hi-sIx items.size 0 lo)).toArray):=by
  show ((items.toList.drop (sIx items.size 0 lo)).take (sIx items.size items.size hi-sIx items.size 0 lo)).toArray.size<=sizeLine
  rw [a0e,a1j,a04,a0M]
  omega
 have hj:sIx items.size items.size hi<=items.size:=tf _ _ (a0i _) hi
 obtain ⟨os,hos,hcs,hds⟩:=id hs
 have hTs:s.TypeIs (.ref sl) "slice":=⟨os,hos,hcs⟩
 unfold getItem
 try with_reducible refine wpAny_holding ?_
 first | refine wpAny_bind (wpAny_pure ?_) | skip
 refine wpAny_bind (wpAny_sequenceKey ht.typeIs (by decide) ?_)
 refine wpAny_bind (wpAny_callSpecial?_slot (name:=Str.ofString "__getitem__") ht.typeIs a0q
  (wpAny_call_entry a0q ht.typeIs entry_tuple_getitem ?_ (args_tuple_getitem _ _)))
 show wpAny _ _ (Builtin.Tuple.tupleItemsOf (.ref t) >>= _) _ _ s
 refine wpAny_bind (tupleItemsOf_ ht ?_)
 refine wpAny_bind (wpAny_typeOf hTs ?_)
 rw [if_pos (by decide)]
 refine wpAny_bind (sliceApplied_gen hs pl pu ?_)
 have hno:¬ ((((sIx items.size 0 lo:Nat):Int)==0&&(1:Int)==1&&(sIx items.size items.size hi-sIx items.size 0 lo)==items.size)=true):=by
  intro q
  rw [a0g,a0g] at q
  have q1:((sIx items.size 0 lo:Nat):Int)=0:=eq_of_beq q.1.1
  have q2:sIx items.size items.size hi-sIx items.size 0 lo=items.size:=eq_of_beq q.2
  exact hw ⟨by omega,by omega⟩
 show wpAny _ _ (if (((sIx items.size 0 lo:Nat):Int)==0&&(1:Int)==1&&(sIx items.size items.size hi-sIx items.size 0 lo)==items.size)=true then _ else _) _ _ s
 rw [if_neg hno,lR]
 first
  | exact wpAny_bind (m:=Builtin.Tuple.tupleExact _) (wpAny_newObj_type (wpAny_pure ⟨_,rfl,wpAny_pure h⟩) htake)
  | exact wpAny_bind (m:=Builtin.Tuple.tupleExact _) (wpAny_newObj_type (wpAny_bind (wpAny_pure (wpAny_pure ⟨_,rfl,wpAny_pure h⟩))) htake)
  | exact wpAny_bind (wpAny_bind (m:=Builtin.Tuple.tupleExact _) (wpAny_newObj_type (wpAny_pure (wpAny_pure ⟨_,rfl,wpAny_pure h⟩)) htake))
  | exact wpAny_bind (wpAny_bind (m:=Builtin.Tuple.tupleExact _) (wpAny_newObj_type (wpAny_pure ⟨_,rfl,wpAny_pure h⟩) htake))
end
end HT
namespace L2
open PySem PySem.Spec PyProof.Rows
noncomputable abbrev TO:=St->Hp->(Option Int->Hp->Prop)->Prop
noncomputable def PO (X:Cx)(e:Option Expr)(t:TO):Prop :=
 ∀ (pins:List (Addr×Obj)) (s:Shared) (σ:St) (H:Hp) (Q:Option Int->Hp->Prop),Inv X pins σ H s->t σ H Q ->
  wpAny (model X.prog X.w) X.A (evalPart e X.env) (fun u s'=>∃ o H',Inv X pins σ H' s'/\IsPart u o/\Q o H') X.xe s
noncomputable def oO:TO:=fun _ H Q=>Q none H
noncomputable def vz (t:TE):TO:=fun σ H Q=>t σ H fun x H1=>∃ i,x=.int i/\Q (some i) H1
section
variable {X:Cx}{e:Expr}{te:TE}{lo hi:Option Expr}{tl th:TO}{pos p2:Pos}
theorem ie:PO X none oO:=by
 intro pins s σ H Q I h
 rw [evalPart_none]
 exact wpAny_pure ⟨none,H,I,.none,h⟩
theorem hX (h:PE X e te):PO X (some e) (vz te):=by
 intro pins s σ H Q I hw
 rw [evalPart_some]
 refine thn (h pins s σ H _ I hw) fun u s1 ⟨x,H1,I1,r1,q1⟩=>?_
 obtain ⟨i,rfl,q⟩:=q1
 obtain ⟨t,rfl⟩:=r1
 exact ⟨some i,H1,I1,.int i t,q⟩
noncomputable def SlR (X:Cx)(r:V->Option Int->Option Int->Hp->VK->Prop):Prop :=
 ∀ (pins:List (Addr×Obj)) (s:Shared) (σ:St) (H:Hp) (x:V) (v vl vu:Value) (lo hi:Option Int) (sl:Addr) (Q:VK),Inv X pins σ H s->RelV x v->s.heap.IsSliceOf sl vl vu .none->IsPart vl lo->IsPart vu hi->r x lo hi H Q ->
  ∃ T id,typeLookup (.type T) "__getitem__"=pure (some (.builtin id))/\s.TypeIs v T/\wpAny (model X.prog X.w) X.A (getItem v (.ref sl)) (EP X pins σ Q) X.xe s
theorem SlR.or {r r':V->Option Int->Option Int->Hp->VK->Prop}(h:SlR X r)(h':SlR X r'):SlR X (fun x lo hi H Q=>r x lo hi H Q\/r' x lo hi H Q):=by
 intro pins s σ H x v vl vu lo hi sl Q I rx hs pl pu q
 rcases q with q | q
 ·exact h pins s σ H x v vl vu lo hi sl Q I rx hs pl pu q
 ·exact h' pins s σ H x v vl vu lo hi sl Q I rx hs pl pu q
noncomputable def tSl (r:V->Option Int->Option Int->Hp->VK->Prop)(te:TE)(tl th:TO):TE:=fun σ H Q=>te σ H fun x H1=>tl σ H1 fun l H2=>th σ H2 fun u H3=>r x l u H3 Q
theorem ff {r:V->Option Int->Option Int->Hp->VK->Prop}(hr:SlR X r)(he:PE X e te)(hl:PO X lo tl)(hu:PO X hi th):PE X (.Subscript e (.Slice lo hi none p2) pos) (tSl r te tl th):=by
 intro pins s σ H Q I h
 refine Subscript_ (thn (he pins s σ H _ I h) fun v s1 ⟨x,H1,I1,r1,q1⟩=>?_)
 refine wpAny_Slice (thn (hl pins s1 σ H1 _ I1 q1) fun vl s2 ⟨l,H2,I2,pl,q2⟩=>thn (hu pins s2 σ H2 _ I2 q2) fun vu s3 ⟨u,H3,I3,pu,q3⟩=>?_)
 rw [evalPart_none]
 refine wpAny_pure ?_
 have I4:Inv X pins σ H3 { s3 with heap:=s3.heap.push { cls:=.type "slice",data:=.fields #[vl,vu,.none] } }:=I3.kept (t':=s3.toks) fun b ob q=>Heap.get?_push_of_some _ q
 obtain ⟨T,id,hT,ht,hg⟩:=hr pins { s3 with heap:=s3.heap.push { cls:=.type "slice",data:=.fields #[vl,vu,.none] } } σ H3 x v vl vu l u s3.heap.objs.size Q I4 r1 (Heap.IsSliceOf.new ..) pl pu q3
 show wpAny (model X.prog X.w) X.A (subscriptTail e (.Slice lo hi none p2) v (.ref s3.heap.objs.size)) (EP X pins σ Q) X.xe { s3 with heap:=s3.heap.push { cls:=.type "slice",data:=.fields #[vl,vu,.none] } }
 exact tail_any (ops:=[.ref s3.heap.objs.size,v]) ht hT hg (by with_unfolding_all rfl)
noncomputable def bW (xs:List V)(lo hi:Option Int):List V:=(xs.drop (HT.sIx xs.length 0 lo)).take (HT.sIx xs.length xs.length hi-HT.sIx xs.length 0 lo)
theorem a7 (xs:List V)(lo hi:Option Int):(bW xs lo hi).length<=xs.length:=by
 unfold bW
 rw [a1j,a04]
 omega
noncomputable def xH (K:a0a):V->Option Int->Option Int->Hp->VK->Prop:=fun x lo hi H Q=>∃ a xs,x=.ref a/\SqT K H a xs /\
 ¬ (HT.sIx xs.length 0 lo=0/\HT.sIx xs.length xs.length hi=xs.length)/\∀ p,H p=none->Q (.ref p) (upd H p (.tup (bW xs lo hi)))
theorem qv:SlR X (xH X.K):=by
 intro pins s σ H x v vl vu lo hi sl Q I rx hs pl pu h
 obtain ⟨a,xs,rfl,hx,hw,q⟩:=h
 cases rx
 obtain ⟨its,r,ht,hz⟩:=I.tuple hx
 have hlen:its.toArray.size=xs.length:=by rw [a0e]; exact r.length.symm
 refine ⟨"tuple",_,a0q.lookup,ht.typeIs,?_⟩
 refine HT.getItem_tuple_cut ht hs pl pu (by rw [hlen]; exact hw) ?_ (by rw [hlen]; exact hz)
 rw [hlen]
 refine ⟨.ref s.heap.objs.size,_,I.laid (t':=s.toks) (o:=.tup (bW xs lo hi)) (fun b ob q=>Heap.get?_push_of_some _ q) (a0i _) ?_,rfl,q _ (I.hok.fresh (a0i _))⟩
 exact ⟨a0p (a7 xs lo hi) hz,_,(r.drop (HT.sIx xs.length 0 lo)).take (HT.sIx xs.length xs.length hi-HT.sIx xs.length 0 lo),IsTup.new _ _⟩
noncomputable def xl (K:a0a):R2:=fun x y H Q=>∃ a b xs ys,x=.ref a/\y=.ref b/\SqT K H a xs/\SqT K H b ys/\xs≠[]/\xs.length+ys.length<=sizeLine /\
 (ys=[]->Q (.ref a) H)/\(ys≠[]->∀ p,H p=none->Q (.ref p) (upd H p (.tup (xs++ys))))
theorem Vals.nil_iff {xs:List V}{us:List Value}(r:Vals xs us):us=[] ↔ xs=[]:=by
 cases r with
 | nil=>simp
 | cons _ _=>simp
theorem mC:OpR X (binaryOp .Add) (xl X.K):=by
 intro pins s σ H x y v u Q I rx ry h
 obtain ⟨a,b,xs,ys,rfl,rfl,ha,hb,hx,hz,q1,q2⟩:=h
 cases rx
 cases ry
 obtain ⟨its,r1,p1,_⟩:=I.tuple ha
 obtain ⟨its2,r2,p2,_⟩:=I.tuple hb
 refine HT.cat_tup p1 p2 (fun z=>hx (r1.nil_iff.mp z)) (fun z=>⟨.ref a,H,I,rfl,q1 (r2.nil_iff.mp z)⟩) (fun z=>?_) (by rw [<- r1.length,<- r2.length]; exact hz)
 refine ⟨.ref s.heap.objs.size,_,I.laid (t':=s.toks) (o:=.tup (xs++ys)) (fun b ob q=>Heap.get?_push_of_some _ q) (a0i _) ?_,rfl,q2 (fun w=>z (r2.nil_iff.mpr w)) _ (I.hok.fresh (a0i _))⟩
 exact ⟨by rw [a0c]; exact hz,_,r1.append r2,IsTup.new _ _⟩
end
end L2
namespace L2
open PySem PySem.Spec PyProof.Rows
noncomputable def ixN (n:Nat)(i:Int):Option Nat:=if 0<=i then (if i < n then some i.toNat else none) else if -(n:Int)<=i then some (i+n).toNat else none
noncomputable def atI {α:Type}(xs:List α)(i:Int):Option α:=(ixN xs.length i).bind fun j=>xs[j]?
theorem nY {n:Nat}{i:Int}{j:Nat}(h:ixN n i=some j):seqIndex? i n=some j/\j < n/\-(n:Int)<=i/\i < n:=by
 unfold ixN at h
 by_cases h0:0<=i
 ·rw [if_pos h0] at h
  by_cases h1:i < n
  ·rw [if_pos h1] at h
   have e:i.toNat=j:=a0t h
   exact ⟨by rw [seqIndex_of h0 h1,e],by omega,by omega,h1⟩
  ·rw [if_neg h1] at h; cases h
 ·rw [if_neg h0] at h
  by_cases h1:-(n:Int)<=i
  ·rw [if_pos h1] at h
   have e:(i+n).toNat=j:=a0t h
   exact ⟨by rw [seqIndex_neg (by omega) h1,e],by omega,h1,by omega⟩
  ·rw [if_neg h1] at h; cases h
theorem eo {α:Type}{xs:List α}{i:Int}{v:α}(h:atI xs i=some v):∃ j,seqIndex? i xs.length=some j/\xs[j]?=some v/\j < xs.length/\-(xs.length:Int)<=i/\i < xs.length:=by
 unfold atI at h
 cases e:ixN xs.length i with
 | none=>rw [e] at h; cases h
 | some j =>
  rw [e] at h
  obtain ⟨h1,h2,h3,h4⟩:=nY e
  exact ⟨j,h1,h,h2,h3,h4⟩
noncomputable def eX (b:Expr):Prop:=∀ o i,subscripted b false o i=operate [o,i] (getItem o i)
noncomputable def IxR (X:Cx)(r:R2):Prop :=
 ∀ (value slice:Expr) (pins:List (Addr×Obj)) (s:Shared) (σ:St) (H:Hp) (x y:V) (v u:Value) (Q:VK),Inv X pins σ H s->RelV x v->RelV y u->r x y H Q ->
  subscripted slice false v u=operate [v,u] (getItem v u)->wpAny (model X.prog X.w) X.A (subscriptTail value slice v u) (EP X pins σ Q) X.xe s
noncomputable def MtR (X:Cx)(id:String)(r:V->List V->Hp->VK->Prop):Prop :=
 ∀ (pins:List (Addr×Obj)) (s:Shared) (σ:St) (H:Hp) (x:V) (xs:List V) (v:Value) (us:List Value) (Q:VK),Inv X pins σ H s->RelV x v->Vals xs us->r x xs H Q ->
  wpAny (model X.prog X.w) X.A (call (.builtin id) (v::us)) (EP X pins σ Q) X.xe s
section
variable {X:Cx}{a b:Expr}{ta tb:TE}{pos:Pos}
theorem IxR.or {r r':R2}(h:IxR X r)(h':IxR X r'):IxR X (fun x y H Q=>r x y H Q\/r' x y H Q):=by
 intro value slice pins s σ H x y v u Q I rx ry q hs
 rcases q with q | q
 ·exact h value slice pins s σ H x y v u Q I rx ry q hs
 ·exact h' value slice pins s σ H x y v u Q I rx ry q hs
theorem ur {r:R2}(hr:IxR X r)(ha:PE X a ta)(hb:PE X b tb)(hs:eX b):PE X (.Subscript a b pos) (tOp r ta tb):=by
 intro pins s σ H Q I h
 exact Subscript_ (qO ha hb I h fun v u s2 x y H2 I2 rx ry q=>hr a b pins s2 σ H2 x y v u Q I2 rx ry q (hs _ _))
noncomputable def ya (K:a0a):R2:=fun x y H Q=>∃ p xs i v,x=.ref p/\y=.int i/\SqL K H p xs/\atI xs i=some v/\Q v H
noncomputable def xq (K:a0a):R2:=fun x y H Q=>∃ p xs i v,x=.ref p/\y=.int i/\SqT K H p xs/\atI xs i=some v/\Q v H
noncomputable def xv:R2:=fun x y H Q=>∃ z i c,x=.str z/\y=.int i/\z.length<=sizeLine/\atI z.cps.toList i=some c/\Q (.str ⟨#[c]⟩) H
theorem oy:IxR X (ya X.K):=by
 intro value slice pins s σ H x y v u Q I rx ry h hs
 obtain ⟨p,xs,i,z,rfl,rfl,hq,he,q⟩:=h
 cases rx
 obtain ⟨t,rfl⟩:=ry
 obtain ⟨its,r,pl,hz⟩:=I.list hq
 obtain ⟨j,h1,h2,h3,h4,h5⟩:=eo he
 obtain ⟨w,ew,rw'⟩:=r.get h2
 have hl:=r.length
 have hn:=dj
 have fin:EP X pins σ Q w s:=⟨z,H,I,rw',q⟩
 by_cases h0:0<=i
 ·have hj:i.toNat=j:=by
   rw [seqIndex_of h0 h5] at h1
   exact a0t h1
  exact item_listR pl.isList h0 (by omega) (by rw [hj]; simpa using ew) fin hs
 ·have hj:(i+(its.toArray.size:Int)).toNat=j:=by
   rw [seqIndex_neg (by omega) h4] at h1
   rw [a0e,<- hl]
   exact a0t h1
  exact subscriptTail_builtinR (x:=w) pl.isList.typeIs slot_list_getitem.lookup
   (wpAny_getItem_list_neg (Q:=fun r s'=>r=w/\EP X pins σ Q r s') pl.isList (by omega) (by rw [a0e]<;>omega) (by omega) (by rw [hj]; simpa using ew) ⟨rfl,fin⟩) hs
theorem qi:IxR X (xq X.K):=by
 intro value slice pins s σ H x y v u Q I rx ry h hs
 obtain ⟨p,xs,i,z,rfl,rfl,hq,he,q⟩:=h
 cases rx
 obtain ⟨t,rfl⟩:=ry
 obtain ⟨its,r,pl,hz⟩:=I.tuple hq
 obtain ⟨j,h1,h2,h3,h4,h5⟩:=eo he
 obtain ⟨w,ew,rw'⟩:=r.get h2
 have hl:=r.length
 have hn:=dj
 have fin:EP X pins σ Q w s:=⟨z,H,I,rw',q⟩
 exact subscriptTail_builtinR (x:=w) pl.typeIs slot_tuple_getitem.lookup
  (getItem_tuple (j:=j) (Q:=fun r s'=>r=w/\EP X pins σ Q r s') pl (by omega) (by omega) (by rw [a0e,<- hl]; exact h1) (by simpa using ew) ⟨rfl,fin⟩) hs
theorem rh:IxR X xv:=by
 intro value slice pins s σ H x y v u Q I rx ry h hs
 obtain ⟨z,i,c,rfl,rfl,hz,he,q⟩:=h
 obtain ⟨t,rfl⟩:=rx
 obtain ⟨t',rfl⟩:=ry
 obtain ⟨j,h1,h2,h3,h4,h5⟩:=eo he
 have hl:z.cps.toList.length=z.length:=by simp [Str.length]
 rw [hl] at h1 h4 h5
 have hn:=dj
 exact tail_any (typeIs_str s z t) slot_str_getitem.lookup (getItem_str (c:=c) (by
  have e1:decide (i < -(2 ^ 63:Int))=false:=decide_eq_false (by omega)
  have e2:decide (i >= 2 ^ 63)=false:=decide_eq_false (by omega)
  rw [e1,e2,Bool.or_false]) (by rw [h1]; simpa using h2) ⟨.str ⟨#[c]⟩,H,I.tok _,⟨_,rfl⟩,q⟩) hs
theorem eZ (lo hi:Option Int)(n:Nat):(sliceBounds lo hi none n).1=((HT.sIx n 0 lo:Nat):Int)/\(sliceBounds lo hi none n).2.1=((HT.sIx n n hi:Nat):Int)/\(sliceBounds lo hi none n).2.2=1:=by
 refine ⟨?_,?_,rfl⟩
 ·cases lo with
  | none=>simp [sliceBounds,HT.sIx]
  | some i =>
   simp only [sliceBounds,HT.sIx,a05,show (1:Int) > 0 by decide,if_true]
   by_cases h:i < 0
   ·simp only [h,if_true]<;>omega
   ·simp only [h,if_false]<;>omega
 ·cases hi with
  | none=>simp [sliceBounds,HT.sIx]
  | some i =>
   simp only [sliceBounds,HT.sIx,a05,show (1:Int) > 0 by decide,if_true]
   by_cases h:i < 0
   ·simp only [h,if_true]<;>omega
   ·simp only [h,if_false]<;>omega
theorem dF (its:List Value)(lo hi:Option Int):slicePick its.toArray lo hi none=((its.drop (HT.sIx its.length 0 lo)).take (HT.sIx its.length its.length hi-HT.sIx its.length 0 lo)).toArray:=by
 obtain ⟨h1,h2,h3⟩:=eZ lo hi its.toArray.size
 unfold slicePick
 rw [h1,h2,h3]
 simp only [sliceRange_one,pick_run,a0e]<;>rfl
noncomputable def oK (K:a0a):V->Option Int->Option Int->Hp->VK->Prop:=fun x lo hi H Q=>∃ a xs,x=.ref a/\SqL K H a xs/\∀ p,H p=none->Q (.ref p) (upd H p (.lst (bW xs lo hi)))
theorem sl_list:SlR X (oK X.K):=by
 intro pins s σ H x v vl vu lo hi sl Q I rx hs pl pu h
 obtain ⟨a,xs,rfl,hx,q⟩:=h
 cases rx
 obtain ⟨its,r,ht,hz⟩:=I.list hx
 have hlen:=r.length
 refine ⟨"list",_,slot_list_getitem.lookup,ht.isList.typeIs,?_⟩
 refine wpAny_getItem_list_slice ht.isList hs pl pu .none (by simp) ?_ (by rw [a0e]<;>omega)
 rw [dF,<- hlen]
 refine ⟨.ref s.heap.objs.size,_,I.laid (t':=s.toks) (o:=.lst (bW xs lo hi)) (fun b ob q=>Heap.get?_push_of_some _ q) (a0i _) ?_,rfl,q _ (I.hok.fresh (a0i _))⟩
 exact ⟨a0p (a7 xs lo hi) hz,_,0,(r.drop (HT.sIx xs.length 0 lo)).take (HT.sIx xs.length xs.length hi-HT.sIx xs.length 0 lo),Heap.get?_push_size _ rfl⟩
noncomputable def bN:V->Bool
 | .non=>true
 | .bl _=>true
 | .int _=>true
 | .str _=>true
 | _=>false
noncomputable def eqV:V->V->Bool
 | .non,.non=>true
 | .bl a,.bl b=>a==b
 | .bl a,.int b=>(if a then 1 else 0)==b
 | .int a,.bl b=>a==(if b then 1 else 0)
 | .int a,.int b=>a==b
 | .str a,.str b=>a==b
 | _,_=>false
theorem sD {A:Around}{s:Shared}{y x:V}{u v:Value}(ry:RelV y u)(rx:RelV x v)(fy:bN y=true)(fx:bN x=true):SeqAt.EqAt A s u v (eqV y x):=by
 cases y with
 | non =>
  cases ry
  cases x with
  | non=>cases rx; exact SeqAt.EqAt.same _
  | bl b=>cases rx; exact SeqAt.EqAt.none_bool b
  | int b=>obtain ⟨t,rfl⟩:=rx; exact SeqAt.EqAt.none_int b t
  | str b=>obtain ⟨t,rfl⟩:=rx; exact SeqAt.EqAt.none_str b t
  | _=>exact absurd (show false=true from fx) a0j
 | bl a =>
  cases ry
  cases x with
  | non=>cases rx; exact SeqAt.EqAt.bool_none a
  | bl b=>cases rx; exact SeqAt.EqAt.bool_bool a b
  | int b=>obtain ⟨t,rfl⟩:=rx; exact SeqAt.EqAt.bool_int a b t
  | str b=>obtain ⟨t,rfl⟩:=rx; exact SeqAt.EqAt.bool_str a b t
  | _=>exact absurd (show false=true from fx) a0j
 | int a =>
  obtain ⟨t',rfl⟩:=ry
  cases x with
  | non=>cases rx; exact SeqAt.EqAt.int_none a t'
  | bl b=>cases rx; exact SeqAt.EqAt.int_bool a t' b
  | int b=>obtain ⟨t,rfl⟩:=rx; exact SeqAt.EqAt.int_int a t' b t
  | str b=>obtain ⟨t,rfl⟩:=rx; exact SeqAt.EqAt.int_str a t' b t
  | _=>exact absurd (show false=true from fx) a0j
 | str a =>
  obtain ⟨t',rfl⟩:=ry
  cases x with
  | non=>cases rx; exact SeqAt.EqAt.str_none a t'
  | bl b=>cases rx; exact SeqAt.EqAt.str_bool a t' b
  | int b=>obtain ⟨t,rfl⟩:=rx; exact SeqAt.EqAt.str_int a t' b t
  | str b=>obtain ⟨t,rfl⟩:=rx; exact SeqAt.EqAt.str_str a t' b t
  | _=>exact absurd (show false=true from fx) a0j
 | _=>exact absurd (show false=true from fy) a0j
noncomputable def eqU (x:V)(u:Value):Bool:=match u with
 | .none=>eqV .non x
 | .bool b=>eqV (.bl b) x
 | .int i _=>eqV (.int i) x
 | .str z _=>eqV (.str z) x
 | _=>false
theorem kE {x y:V}{u:Value}(r:RelV y u)(f:bN y=true):eqU x u=eqV y x:=by
 cases y with
 | non=>cases r; rfl
 | bl b=>cases r; rfl
 | int i=>obtain ⟨t,rfl⟩:=r; rfl
 | str z=>obtain ⟨t,rfl⟩:=r; rfl
 | _=>exact absurd (show false=true from f) a0j
theorem bZ {x:V}:∀ {xs:List V} {us:List Value},Vals xs us->xs.all bN=true->us.any (eqU x)=xs.any fun y=>eqV y x
 | _,_,.nil,_=>rfl
 | y::xs,u::us,.cons r t,f=>by
  rw [a09,a0g] at f
  rw [a01,a01,kE r f.1,bZ t f.2]
theorem bB {A:Around}{s:Shared}{x:V}{v:Value}(rx:RelV x v)(fx:bN x=true):∀ {xs:List V} {us:List Value},Vals xs us->xs.all bN=true->∀ u∈us,SeqAt.EqAt A s u v (eqU x u)
 | _,_,.nil,_=>fun u hu=>by cases hu
 | y::xs,u::us,.cons r t,f=>fun u' hu=>by
  rw [a09,a0g] at f
  rcases a0k.mp hu with rfl | hu
  ·rw [kE r f.1]; exact sD r rx f.1 fx
  ·exact bB rx fx t f.2 u' hu
noncomputable def inV (x:V)(xs:List V):Bool:=xs.any fun y=>eqV y x
noncomputable def rIn (K:a0a)(neg:Bool):R2:=fun x y H Q=>∃ p xs,y=.ref p/\(SqL K H p xs\/SqT K H p xs)/\bN x=true/\xs.all bN=true/\Q (.bl (if neg then !inV x xs else inV x xs)) H
theorem dQ:OpR X (compareOp .In) (rIn X.K false):=by
 intro pins s σ H x y v u Q I rx ry h
 obtain ⟨p,xs,rfl,hq,fx,fs,q⟩:=h
 cases ry
 rcases hq with hq | hq
 ·obtain ⟨its,r,pl,hz⟩:=I.list hq
  refine SeqAt.in_listAt (eqU x) pl.isList (fun w hw=>bB rx fx r fs w (by simpa using hw)) ⟨.bl _,H,I,rfl,?_⟩
  rw [show its.toArray.any (eqU x)=its.any (eqU x) by simp,bZ r fs]
  exact q
 ·obtain ⟨its,r,pl,hz⟩:=I.tuple hq
  refine SeqAt.in_tupleAt (eqU x) pl (fun w hw=>bB rx fx r fs w (by simpa using hw)) ⟨.bl _,H,I,rfl,?_⟩
  rw [show its.toArray.any (eqU x)=its.any (eqU x) by simp,bZ r fs]
  exact q
theorem eU:OpR X (compareOp .NotIn) (rIn X.K true):=by
 intro pins s σ H x y v u Q I rx ry h
 obtain ⟨p,xs,rfl,hq,fx,fs,q⟩:=h
 cases ry
 rcases hq with hq | hq
 ·obtain ⟨its,r,pl,hz⟩:=I.list hq
  refine SeqAt.notIn_listAt (eqU x) pl.isList (fun w hw=>bB rx fx r fs w (by simpa using hw)) ⟨.bl _,H,I,rfl,?_⟩
  rw [show its.toArray.any (eqU x)=its.any (eqU x) by simp,bZ r fs]
  exact q
 ·obtain ⟨its,r,pl,hz⟩:=I.tuple hq
  refine SeqAt.notIn_tupleAt (eqU x) pl (fun w hw=>bB rx fx r fs w (by simpa using hw)) ⟨.bl _,H,I,rfl,?_⟩
  rw [show its.toArray.any (eqU x)=its.any (eqU x) by simp,bZ r fs]
  exact q
theorem eO:cA X (.type "list") (fun xs H Q=>∃ p ys,xs=[.ref p]/\(SqL X.K H p ys\/SqT X.K H p ys)/\∀ l,H l=none->Q (.ref l) (upd H l (.lst ys))):=by
 intro pins s σ H xs us Q I r h
 obtain ⟨p,ys,rfl,hq,q⟩:=h
 obtain ⟨u,rfl,rx⟩:=dP r
 cases rx
 have fin:∀ (its:List Value),Vals ys its->ys.length<=sizeLine->∀ (h':Heap) (c':Nat),(∀ b o',s.heap.get? b=some o'->h'.get? b=some o') ->
   h'.get? s.heap.objs.size=some { cls:=.type "list",dict:=none,data:=.seq its.toArray c',slots:=#[] }->EP X pins σ Q (.ref s.heap.objs.size) { s with heap:=h' }:=fun its r' hz h' c' kp e =>
  ⟨.ref s.heap.objs.size,_,I.laid (t':=s.toks) kp (a0i _) (show ObjOk X.prog X.w _ h' _ (.lst ys) from ⟨hz,its,c',r',e⟩),rfl,q _ (I.hok.fresh (a0i _))⟩
 rcases hq with hq | hq
 ·obtain ⟨its,r',pl,hz⟩:=I.list hq
  have hlen:=r'.length
  obtain ⟨o,ho,hc,n,hd⟩:=pl.isList
  exact call_list_seq p (.inl rfl) ho hc hd (fun h' c' kp e=>fin its r' hz h' c' kp e) (by simp only [a0e]<;>omega)
 ·obtain ⟨its,r',pl,hz⟩:=I.tuple hq
  have hlen:=r'.length
  obtain ⟨o,ho,hc,n,hd⟩:=pl
  exact call_list_seq p (.inr rfl) ho hc hd (fun h' c' kp e=>fin its r' hz h' c' kp e) (by simp only [a0e]<;>omega)
noncomputable def tyV (K:a0a)(T:String)(x:V)(H:Hp):Prop:=match x with
 | .str _=>T="str"
 | .int _=>T="int"
 | .ref p=>(T="list"/\∃ xs,SqL K H p xs)\/(T="tuple"/\∃ o,K.lookup p=some o/\o.cls=.type "tuple"/\o.dict=none) \/
   (T="dict"/\((∃ kvs,H p=some (.dK kvs))\/∃ kvs,H p=some (.dT kvs)))\/(T="set"/\∃ S n,H p=some (.set S n))
 | _=>False
theorem kA {pins:List (Addr×Obj)}{σ:St}{H:Hp}{s:Shared}{T:String}{x:V}{v:Value}(I:Inv X pins σ H s)(r:RelV x v)(ty:tyV X.K T x H) :
  s.TypeIs v T/\∀ a,v=.ref a->∃ ob,s.heap.get? a=some ob/\ob.dict=none:=by
 cases x with
 | str z =>
  obtain ⟨t,rfl⟩:=r
  cases (show T="str" from ty)
  exact ⟨typeIs_str s z t,fun _ e=>nomatch e⟩
 | int i =>
  obtain ⟨t,rfl⟩:=r
  cases (show T="int" from ty)
  exact ⟨typeIs_int s i t,fun _ e=>nomatch e⟩
 | ref p =>
  cases r
  rcases ty with ⟨rfl,xs,hq⟩ | ⟨rfl,o,hk,hc,hd⟩ | ⟨rfl,hk⟩ | ⟨rfl,S,n,hk⟩
  ·obtain ⟨its,_,pl,_⟩:=I.list hq
   refine ⟨pl.isList.typeIs,fun a e=>?_⟩
   cases e
   obtain ⟨o,n,e,c,hd,_⟩:=pl
   exact ⟨o,e,hd⟩
  ·refine ⟨⟨o,I.kIn p o hk,hc⟩,fun a e=>?_⟩
   cases e
   exact ⟨o,I.kIn _ o hk,hd⟩
  ·have z:∃ o,s.heap.get? p=some o/\o.ExactDict:=by
    rcases hk with ⟨kvs,hk⟩ | ⟨kvs,hk⟩
    ·obtain ⟨_,_,_,_,o,_,_,e,ex,_⟩:=I.hok p _ hk
     exact ⟨o,e,ex⟩
    ·obtain ⟨_,_,_,_,o,_,_,e,ex,_⟩:=I.hok p _ hk
     exact ⟨o,e,ex⟩
   obtain ⟨o,e,ex⟩:=z
   refine ⟨⟨o,e,ex.1⟩,fun a e2=>?_⟩
   cases e2
   exact ⟨o,e,ex.2.1⟩
  ·obtain ⟨o,_,_,_,e,ex,_⟩:=I.hok p _ hk
   refine ⟨⟨o,e,ex.1⟩,fun a e2=>?_⟩
   cases e2
   exact ⟨o,e,ex.2.1⟩
 | _=>exact a00 ty
noncomputable def xQ (K:a0a)(T:String)(r:V->List V->Hp->VK->Prop)(to:TE):TE:=fun σ H Q=>to σ H fun x H1=>tyV K T x H1/\r x [] H1 Q
noncomputable def tBM (K:a0a)(T:String)(r:V->List V->Hp->VK->Prop)(to:TE)(t:TA):TE:=fun σ H Q=>to σ H fun x H1=>tyV K T x H1/\t σ H1 fun xs H2=>r x xs H2 Q
variable {o e:Expr}{es:List Expr}{to:TE}{t:TA}{name:Str}{apos cpos:Pos}{T id:String}{r:V->List V->Hp->VK->Prop}
theorem rK (pa:PlainAttrs T)(slot:Slot T name id)(hty:typeOf (.builtin id)=pure (.type "method_descriptor"))(hm:MtR X id r)(ho:PE X o to)
  (hbase:attributeBase o name X.env (eval o X.env)=eval o X.env:=by rfl) (hline:(apos.endLine==cpos.line)=true:=by rfl):PE X (.Call (.Attribute o name apos) [] [] cpos) (xQ X.K T r to):=by
 intro pins s σ H Q I h
 refine wpAny_Call_method0_late hbase hline (thn (ho pins s σ H _ I h) fun v s1 ⟨x,H1,I1,r1,ty,q1⟩=>?_)
 obtain ⟨h1,h2⟩:=kA I1 r1 ty
 exact ⟨T,id,pa,slot,hty,h1,h2,Calls.callWith_builtin rfl (PySem.evalArgs_none (hm pins s1 σ H1 x [] v [] Q I1 r1 .nil q1))⟩
theorem p9 (pa:PlainAttrs T)(slot:Slot T name id)(hty:typeOf (.builtin id)=pure (.type "method_descriptor"))(hm:MtR X id r)(ho:PE X o to)(ha:PA X (e::es) t)
  (hbase:attributeBase o name X.env (eval o X.env)=eval o X.env:=by rfl)
  (hfew:((backTo cpos (starEach (e::es) X.env)).all (fun x=>!x.1)&&(backToKw cpos (keywordEach [] X.env)).all (fun x=>x.1.isSome)
  &&decide ((e::es).length+([]:List Keyword).length+(if ([]:List Keyword).isEmpty then 0 else 1) < 30))=true:=by rfl)
  (hline:(apos.endLine==cpos.line)=true:=by rfl) (hs:starEach (e::es) X.env=(false,eval e X.env)::starEach es X.env:=by rfl) (hplain:(backTo cpos (starEach es X.env)).any (·.1)=false:=by rfl) :
  PE X (.Call (.Attribute o name apos) (e::es) [] cpos) (tBM X.K T r to t):=by
 intro pins s σ H Q I h
 refine wpAny_Call_method_late hbase hfew hline rfl (thn (ho pins s σ H _ I h) fun v s1 ⟨x,H1,I1,r1,ty,q1⟩=>?_)
 obtain ⟨h1,h2⟩:=kA I1 r1 ty
 refine ⟨T,id,pa,slot,hty,h1,h2,?_⟩
 have hA:=ha cpos pins s1 σ H1 _ I1 q1
 rw [hs] at hA ⊢
 refine Calls.callWith_builtin (by show (false || (backTo cpos (starEach es X.env)).any (·.1))=false; rw [hplain]<;>rfl) (Calls.evalArgs_plain ?_)
 exact thn hA fun us s2 ⟨vs,H2,I2,r2,q2⟩=>hm pins s2 σ H2 x vs v us Q I2 r1 r2 q2
end
end L2
namespace L2
open PySem PySem.Spec PyProof.Rows
noncomputable def MtM (X:Cx)(id:String)(r:V->List V->Hp->VK->Prop):Prop :=
 ∀ (pins:List (Addr×Obj)) (s:Shared) (σ:St) (H:Hp) (x:V) (xs:List V) (v:Value) (us:List Value) (Q:VK),Inv X pins σ H s->RelV x v->Vals xs us->r x xs H Q ->
  wpAny (model X.prog X.w) X.A (call (.builtin id) (v::us)) (EP X pins σ Q) X.xe s
theorem Vals.one:∀ {x:V} {us:List Value},Vals [x] us->∃ u,us=[u]/\RelV x u
 | _,_,.cons r .nil=>⟨_,rfl,r⟩
theorem Vals.zero:∀ {us:List Value},Vals [] us->us=[]
 | _,.nil=>rfl
theorem Vals.dropLast {xs:List V}{us:List Value}(h:Vals xs us):Vals xs.dropLast us.dropLast:=by
 induction h with
 | nil=>exact .nil
 | cons r t ih =>
  cases t with
  | nil=>exact .nil
  | cons q t'=>exact .cons r ih
theorem gG {α:Type}(l:List α):l.eraseIdx (l.length-1)=l.dropLast:=by
 induction l with
 | nil=>rfl
 | cons a r ih =>
  cases r with
  | nil=>rfl
  | cons b r =>
   have e:(a::b::r).length-1=((b::r).length-1)+1:=by
    have h1:(a::b::r).length=r.length+2:=rfl
    have h2:(b::r).length=r.length+1:=rfl
    omega
   rw [e,List.eraseIdx_cons_succ,ih]
   all_goals rfl
section
variable {X:Cx}{pins:List (Addr×Obj)}{σ:St}{H:Hp}{s:Shared}{l b:Addr}{xs ys zs:List V}
theorem Inv.lset {its its':List Value}{n:Nat}{f:Array Value->Array Value}{t':Nat}(I:Inv X pins σ H s)(hH:H l=some (.lst xs))
  (e:s.heap.get? l=some { cls:=.type "list",data:=.seq its.toArray n }) (hf:f its.toArray=its'.toArray) (hv:Vals ys its') (hz:ys.length<=sizeLine) :
  Inv X pins σ (upd H l (.lst ys)) { s with heap:=s.heap.update l (Obj.mapSeq f),toks:=t' }:=by
 have q:=PySem.IsL.update e f
 rw [hf] at q
 refine I.write (x:=l) (e:=l) (by rw [hH]; exact trivial) (.inl rfl) (fun b' u hb hu=>(Heap.get?_update_other s.heap (Obj.mapSeq f) (a1r hb)).trans hu) ⟨_,q⟩ ?_
 exact ⟨hz,its',_,hv,q⟩
theorem Inv.lnew {its:List Value}{t':Nat}(I:Inv X pins σ H s)(hv:Vals ys its)(hz:ys.length<=sizeLine) :
  Inv X pins σ (upd H s.heap.objs.size (.lst ys)) { s with heap:=s.heap.push { cls:=.type "list",data:=.seq its.toArray },toks:=t' } :=
 I.laid (fun _ _ q=>Heap.get?_push_of_some _ q) (a0i _) ⟨hz,its,0,hv,Heap.get?_push_size _ rfl⟩
theorem Inv.fresh (I:Inv X pins σ H s):H s.heap.objs.size=none:=I.hok.fresh (a0i _)
theorem Inv.lstM (I:Inv X pins σ H s)(hH:H l=some (.lst xs)):xs.length<=sizeLine/\∃ (its:List Value) (n:Nat),Vals xs its/\xs.length=its.length/\s.heap.get? l=some { cls:=.type "list",data:=.seq its.toArray n }:=by
 obtain ⟨z,its,n,r,e⟩:=I.hok l _ hH
 exact ⟨z,its,n,r,r.length,e⟩
theorem jP {n:Nat}(h:n<=sizeLine):Builtin.List.listTooLong n=false:=by
 unfold Builtin.List.listTooLong
 exact decide_eq_false (by omega)
end
section
variable {X:Cx}
noncomputable def mW:V->List V->Hp->VK->Prop:=fun x vs H Q=>∃ l xs y,x=.ref l/\vs=[y]/\H l=some (.lst xs)/\xs.length < sizeLine/\Q .non (upd H l (.lst (xs++[y])))
theorem jq:MtM X "list.append" mW:=by
 intro pins s σ H x vs v us Q I rx rv h
 obtain ⟨l,xs,y,rfl,rfl,hH,hz,q⟩:=h
 cases rx
 obtain ⟨u,rfl,ru⟩:=rv.one
 obtain ⟨z,its,n,r,hl,e⟩:=I.lstM hH
 refine call_meets F.slot_list_append ⟨_,e,rfl⟩ F.entry_list_append (F.args_list_append_2 _ _) (PySem.list_append l its.toArray n u (by rw [a0e]; omega)) ⟨e,?_⟩
 refine ⟨.non,_,I.lset (its':=its++[u]) hH e (by simp) (r.append (.cons ru .nil)) ?_,rfl,q⟩
 rw [a0c,a0s]
 omega
noncomputable def mJ:V->List V->Hp->VK->Prop:=fun x vs H Q=>∃ l b xs zs,x=.ref l/\vs=[.ref b]/\H l=some (.lst xs)/\H b=some (.lst zs)/\xs.length+zs.length<=sizeLine/\Q .non (upd H l (.lst (xs++zs)))
theorem jr:MtM X "list.extend" mJ:=by
 intro pins s σ H x vs v us Q I rx rv h
 obtain ⟨l,b,xs,zs,rfl,rfl,hH,hB,hz,q⟩:=h
 cases rx
 obtain ⟨u,rfl,ru⟩:=rv.one
 cases ru
 obtain ⟨z,its,n,r,hl,e⟩:=I.lstM hH
 obtain ⟨z2,its2,n2,r2,hl2,e2⟩:=I.lstM hB
 have hsz:its.toArray.size+its2.toArray.size<=sizeLine:=by rw [a0e,a0e]; omega
 have hlong:¬ (!its.toArray.isEmpty&&Builtin.List.listTooLong (its.toArray.size+its2.toArray.size))=true:=by
  rw [jP hsz,Bool.and_false]
  exact a0j
 refine call_meets F.slot_list_extend ⟨_,e,rfl⟩ F.entry_list_extend (F.args_list_extend_2 _ _)
  (AutoSeq1.list_extend_list_list_0 l its.toArray n b its2.toArray n2 hlong (by rw [a0e]; omega) (by omega)) ⟨e,e2,?_⟩
 refine ⟨.non,_,I.lset (its':=its++its2) hH e (by simp) (r.append r2) ?_,rfl,q⟩
 rw [a0c]
 omega
noncomputable def xp:V->List V->Hp->VK->Prop:=fun x vs H Q=>∃ l xs y,x=.ref l/\vs=[]/\H l=some (.lst xs)/\xs[xs.length-1]?=some y/\Q y (upd H l (.lst xs.dropLast))
theorem rP:MtM X "list.pop" xp:=by
 intro pins s σ H x vs v us Q I rx rv h
 obtain ⟨l,xs,y,rfl,rfl,hH,hy,q⟩:=h
 cases rx
 have hus:=rv.zero
 subst hus
 obtain ⟨z,its,n,r,hl,e⟩:=I.lstM hH
 obtain ⟨u,hu,ru⟩:=r.get hy
 have hy':its.toArray[its.toArray.size-1]?=some u:=by
  show its.toArray[its.length-1]?=some u
  rw [<- Array.getElem?_toList,<- hl]
  exact hu
 refine call_meets F.slot_list_pop ⟨_,e,rfl⟩ F.entry_list_pop (F.args_list_pop_1 _) (MeetsSeq.list_pop_last l its.toArray n u hy' (by rw [a0e]; omega)) ⟨e,?_⟩
 refine ⟨y,_,I.lset (its':=its.dropLast) hH e ?_ r.dropLast ?_,ru,q⟩
 ·show its.toArray.eraseIdxIfInBounds (its.toArray.size-1)=its.dropLast.toArray
  rw [a0e,List.eraseIdxIfInBounds_toArray,gG]
 ·rw [List.length_dropLast]
  omega
noncomputable def wQ:R2:=fun x y H Q=>∃ l b xs zs,x=.ref l/\y=.ref b/\H l=some (.lst xs)/\H b=some (.lst zs)/\xs.length+zs.length<=sizeLine/\∀ p,H p=none->Q (.ref p) (upd H p (.lst (xs++zs)))
theorem op_cat:OpR X (binaryOp .Add) wQ:=by
 intro pins s σ H x y v u Q I rx ry h
 obtain ⟨l,b,xs,zs,rfl,rfl,hH,hB,hz,q⟩:=h
 cases rx
 cases ry
 obtain ⟨z,its,n,r,hl,e⟩:=I.lstM hH
 obtain ⟨z2,its2,n2,r2,hl2,e2⟩:=I.lstM hB
 refine PySem.P.add_list e e2 ?_ (by rw [a0e,a0e]; omega)
 have ea:its.toArray++its2.toArray=(its++its2).toArray:=by simp
 rw [ea]
 exact ⟨.ref _,_,I.lnew (t':=s.toks) (r.append r2) (by rw [a0c]; omega),rfl,q _ I.fresh⟩
end
end L2
namespace Att
open PySem PySem.W PySem.Calls PyProof.Rows
theorem cF {P:Params}{h:Heap}:∀ (ns:List Int) (vs:List Value),WellAll P h vs (ns.map WData.int)->IntsAre vs ns:=by
 intro ns
 induction ns with
 | nil =>
  intro vs w
  rw [a1J] at w
  cases w
  exact .nil
 | cons n ns ih =>
  intro vs w
  rw [a0B] at w
  cases w with
  | cons a b =>
   cases a
   exact .cons _ _ (ih _ b)
theorem jo {l:OpenLaw}{n:Nat}(hn:l.most=some n){P:Params}{h:Heap}{args:List WData}{vals:List Value}
  (hpre:l.row.toRowW.claim.pre args=true) (hwl:WellAll P h vals args) :
  ∃ a vs ns,vals=[Value.ref a]/\args=[WData.list (ns.map WData.int)]/\h.get? a=some { cls:=.type "list",data:=.seq vs.toArray }/\IntsAre vs ns/\ns.length<=n:=by
 have hsh:WShape.hasAll [] args [.list .int]=true:=(pre_splitW hpre).1
 have hc:l.pre.holds [] { args:=args }=true:=(pre_splitW hpre).2
 obtain ⟨d,r,rfl,h1,h2⟩:=hasAllW_cons hsh
 obtain rfl:=hasAllW_nil h2
 obtain ⟨xs,rfl,h3⟩:=hasW_list h1
 obtain ⟨ns,rfl⟩:=items_int h3
 have hlen:ns.length<=n:=by
  unfold OpenLaw.pre at hc
  have h4:(WTm.not (.lt (.lit (.int (n:Int))) (.len (.arg 0)))).holds [] { args:=[.list (ns.map .int)] }=true:=by
   have h4:=(holds_andW hc).1
   rw [hn] at h4
   exact h4
  have h5:=condW_of h4 (w_not (w_lt w_lit (w_len_list (w_arg rfl))))
  rw [a0b] at h5
  refine Nat.le_of_not_lt fun q=>?_
  have q':(n:Int) < ((ns.length:Nat):Int):=by omega
  first
   | (rw [decide_eq_true q'] at h5; exact absurd h5 (by decide))
   | (simp at h5; omega)
 cases hwl with
 | cons w1 w2 =>
  cases w2
  cases w1 with
  | list ho hall=>exact ⟨_,_,ns,rfl,rfl,ho,cF ns _ hall,hlen⟩
theorem ja (l:OpenLaw)(args:List WData):l.row.toRowW.claim.post args (.bool true) args=true :=
 postW_of (r:=l.row.toRowW) (X:=(true==true))
  (show WShape.has [] (.bool true) .bool=true by first | rfl | decide | simp [WShape.has,WShape.arms,WShape.armsAll])
  (show (WTm.eq .res (.lit (.bool true))).value [] { args:=args,res:=some (.bool true),after:=args }=some (.bool (true==true)) from w_eq_bool (w_res rfl) w_lit) rfl
theorem attach_call {l:OpenLaw}{n:Nat}{q:Program}{loose:List Str}{XP:(Str->Option Value)->Heap->Prop}{YP:World->Heap->Prop}{d:DefRec}
  (hn:l.most=some n) (hdf:d.params.defaults=[])
  (call:∀ (w:World) (s₀ s₁:Shared) (mg mb:Str->Option Value) (fa:Addr) (o:Obj) (pm cd doc:Value) (a:Addr) (vs:List Value) (ns:List Int),
   Ground q loose [] XP w s₀ mg mb s₁.heap->YP w s₁.heap ->
   s₁.heap.get? fa=some o->o.data=.func (docDef d.name d.params d.body d.scope pm cd doc)->s₁.heap.CodeRec cd d.name->mg d.name=some (.ref fa) ->
   s₁.heap.get? a=some { cls:=.type "list",data:=.seq vs.toArray }->IntsAre vs ns->ns.length<=n->s₁.gens=#[] ->
   codeAny (model l.prog w) callerA (.call (.ref fa) ⟨[.ref a],[]⟩) (fun r s'=>r=.ok (.ret (.bool true))/\OldK s₁.heap s'.heap/\s'.os=s₁.os/\AllBare s'.gens) s₁) :
  WalkO q loose XP YP l.row.toRowW d [] (fun f vs=>a2r f vs):=by
 intro w s₀ s₁ mg mb G Y fa o pm cd doc dV kV ho hd hcd hD hmg hg args vals as hpre hlay hrd hwl hlo
 obtain rfl:dV=.none:=Dflts.none hD hdf
 obtain rfl:kV=.none:=Dflts.noKw hD
 obtain ⟨a,vs,ns,rfl,rfl,hobj,hints,hlen⟩:=jo hn hpre hwl
 refine enter_call (codeAny_mono (call w s₀ s₁ mg mb fa o pm cd doc a vs ns G Y ho (fd_plain hd) hcd hmg hobj hints hlen hg) fun r s' hq=>?_)
 obtain ⟨rfl,h2,h3,h4⟩:=hq
 exact ⟨.inl ⟨.bool true,.bool true,[],rfl,fun _=>rfl,.bool true,ja l _,fun _=>⟨a2I,fun _ hm=>(nomatch hm)⟩⟩,h2,h3,h4⟩
end Att
namespace L2
open PySem PySem.Spec PyProof.Rows
theorem bG:∀ {vs:List Value} {ns:List Int},IntsAre vs ns->Vals (ns.map V.int) vs
 | _,_,.nil=>.nil
 | _,_,.cons n t h=>.cons ⟨t,rfl⟩ (bG h)
noncomputable def lQ (H:Hp):Prop:=∀ b,H b=none\/∃ o xs,H b=some (.frz o (.lst xs))
theorem kq {P:Program}{w:World}{K:a0a}{mg mb:Str->Option Value}{CX:CXT}{k:Nat}{fa a:Addr}{fd:FuncData}{x:Str}{sp:Sp}{s₁:Shared}{vs:List Value}{ns:List Int}
  (KX:K.In s₁.heap) (hns:s₁.heap.Ns mainGlobals mg) (hb:s₁.heap.Ns builtinsNs mb) (hbb:∀ x:Str,x≠"__name__"->mb x=bootBuiltins x) (hlim:s₁.heap.NoLimit) (hg:s₁.gens=#[])
  (ha:s₁.heap.get? a=some { cls:=.type "list",data:=.seq vs.toArray }) (hi:IntsAre vs ns) (hl:ns.length<=sizeLine) (hr:Room k callerA)
  (F:∀ base:Heap,K.In base->base.Ns mainGlobals mg->b6 P w K mg base CX k fa fd [x] sp) (hbind:∀ (s:Shared) (u:Value),BindsTo s fd ⟨[u],[]⟩ [(x,u)])
  (hsp:∀ H:Hp,lQ H->SqL K H a (ns.map V.int)->sp [.ref a] H (fun v _=>v=.bl true) fun _ _ _=>False)
  (hCX:∀ H e s',CX [] H s₁ (fun _ _ _=>False) e s'->False) :
  codeAny (model P w) callerA (.call (.ref fa) ⟨[.ref a],[]⟩) (fun r s'=>r=.ok (.ret (.bool true))/\OldK s₁.heap s'.heap/\s'.os=s₁.os/\AllBare s'.gens) s₁:=by
 have rv:=bG hi
 have lenV:=hi.length
 -- from an abstract heap in which nothing but the script may be tracked
 have core:∀ H:Hp,lQ H->SqL K H a (ns.map V.int)->HOk P w H s₁.heap->(∀ b,H b≠none->b=a)->(H a≠none->K.lookup a=none) ->
   codeAny (model P w) callerA (.call (.ref fa) ⟨[.ref a],[]⟩) (fun r s'=>r=.ok (.ret (.bool true))/\OldK s₁.heap s'.heap/\s'.os=s₁.os/\AllBare s'.gens) s₁:=by
  intro H hO hS hok hA hK
  have base_of:∀ {b:Addr} {o:Obj},s₁.heap.get? b=some o->H b=none->(eJ s₁.heap H).get? b=some o:=fun e n=>jE e n
  have noA:∀ {b:Addr} {o:Obj} {es:Array DictEntry} {ep:Nat},s₁.heap.get? b=some o->o.data=.dict es ep->H b=none:=fun {b o es ep} e d=>by
   cases q:H b with
   | none=>rfl
   | some u =>
    have e':b=a:=hA b (by rw [q]; simp)
    subst e'
    rw [ha] at e; cases e
    have d':Data.seq vs.toArray _=Data.dict es ep:=d
    cases d'
  have nsK:∀ {b:Addr} {m:Str->Option Value},s₁.heap.Ns b m->(eJ s₁.heap H).Ns b m:=fun {b m} ⟨o,es,ep,e,d,r⟩=>⟨o,es,ep,base_of e (noA e d),d,r⟩
  have hKb:K.In (eJ s₁.heap H):=fun b o e=>base_of (KX b o e) (by
   cases q:H b with
   | none=>rfl
   | some u =>
    have e':b=a:=hA b (by rw [q]; simp)
    subst e'
    rw [hK (by rw [q]; simp)] at e; cases e)
  have hM:Mod K mg (eJ s₁.heap H):=⟨hKb,nsK hns,⟨mb,nsK hb,hbb⟩,let ⟨mc,h1,h2⟩:=hlim; ⟨mc,nsK h1,h2⟩⟩
  have e0:oq P w K mg (eJ s₁.heap H) callerA [] s₁ H:=⟨rfl,hM,fun b o e=>oW e,Nat.le_of_eq (iY _ _),trivial,fun b hb=>absurd (show b∈([]:List Addr) from hb) (by simp),hok,.of_eq hg⟩
  refine codeAny_mono ((F _ hKb (nsK hns)).run callerA [] s₁ H ⟨[.ref a],[]⟩ [.ref a] [.ref a] _ _ hr e0 (hbind s₁ (.ref a)) (.cons rfl .nil) (hsp H hO hS)) fun r s' h=>?_
  cases r with
  | error e=>exact (hCX H e s' h).elim
  | ok fl =>
   cases fl with
   | next=>exact a00 h
   | brk=>exact a00 h
   | cont=>exact a00 h
   | ret u =>
    obtain ⟨v,H',os,bare,un,hok',r',q⟩:=h
    have q':v=.bl true:=q
    subst q'
    obtain rfl:u=Value.bool true:=r'
    refine ⟨rfl,OldK.of_keep fun b o e=>?_,os,bare⟩
    cases q:H b with
    | none=>exact un.keep b o e q (by intro z; exact absurd (show b∈([]:List Addr) from z) (by simp)) (by simp)
    | some u =>
     rcases hO b with z | ⟨ob,xs,z⟩
     ·rw [q] at z; cases z
     ·have z2:=un.frzs b ob _ z
      obtain ⟨e1,_⟩:=hok b _ z
      obtain ⟨e2,_⟩:=hok' b _ z2
      rw [e] at e1; cases e1
      exact e2
 cases hk:K.lookup a with
 | some o =>
  -- the script is one of the module's own objects
  have e:=KX a o hk
  rw [ha] at e
  cases e
  refine core (fun _=>none) (fun _=>.inl rfl) (.inr ⟨_,vs.toArray,_,hk,rfl,rfl,rfl,by rw [a0e,lenV]; exact hl,by simpa using rv⟩) (fun b u z=>by have z':(none:Option HO)=some u:=z; cases z') (fun b z=>absurd rfl z) fun z=>absurd rfl z
 | none =>
  refine core (fun b=>if b=a then some (.frz { cls:=.type "list",data:=.seq vs.toArray } (.lst (ns.map V.int))) else none) (fun b=>?_) (.inl (.inr ⟨{ cls:=.type "list",data:=.seq vs.toArray },if_pos rfl⟩)) (fun b u z=>?_) (fun b z=>?_) fun _=>hk
  ·by_cases hb:b=a
   ·exact .inr ⟨_,_,if_pos hb⟩
   ·exact .inl (if_neg hb)
  ·by_cases hb:b=a
   ·have z':=(if_pos hb).symm.trans z
    cases z'
    subst hb
    exact ⟨ha,by rw [a0b]; exact hl,vs,_,rv,ha⟩
   ·have z':=(if_neg hb).symm.trans z
    cases z'
  ·by_cases hb:b=a
   ·exact hb
   ·exact absurd (if_neg hb) z
end L2
namespace L2
open PySem PySem.Spec PyProof.Rows
theorem walk_of {l:a1K}{n k:Nat}{q:Program}{loose:List Str}{XP:(Str->Option Value)->Heap->Prop}{YP:World->Heap->Prop}{d:DefRec}{K:Params->a0a}{CX:World->CXT}{sp:World->Sp}{x:Str}
  (hn:l.most=some n) (hn2:n<=sizeLine) (hdf:d.params.defaults=[]) (hr:Room k callerA)
  (hY:∀ (w:World) (h:Heap),YP w h->(K w.params).In h)
  (F:∀ (w:World) (mg:Str->Option Value) (fa:Addr) (h:Heap),(K w.params).In h->h.Ns mainGlobals mg->mg d.name=some (.ref fa) ->
   ∃ fd:FuncData,(∀ (s:Shared) (u:Value),BindsTo s fd ⟨[u],[]⟩ [(x,u)]) /\
    ∀ base:Heap,(K w.params).In base->base.Ns mainGlobals mg->b6 l.prog w (K w.params) mg base (CX w) k fa fd [x] (sp w))
  (hsp:∀ (w:World) (H:Hp) (a:Addr) (ns:List Int),ns.length<=n->lQ H->SqL (K w.params) H a (ns.map V.int)->sp w [.ref a] H (fun v _=>v=.bl true) fun _ _ _=>False)
  (hCX:∀ (w:World) (H:Hp) (s:Shared) (e:Value) (s':Shared),CX w [] H s (fun _ _ _=>False) e s'->False) :
  a2s q loose XP YP l.row.toRowW d [] (fun f vs=>a2r f vs):=by
 refine Att.attach_call hn hdf fun w s₀ s₁ mg mb fa o pm cd doc a vs ns G Y ho hd hcd hmg hobj hints hlen hg=>?_
 have KX:=hY w _ Y
 obtain ⟨fd,hb,hF⟩:=F w mg fa _ KX G.T.g hmg
 exact kq KX G.T.g G.T.b G.T.builtins G.T.nolimit hg hobj hints (a0p hlen hn2) hr hF hb (fun H hO hS=>hsp w H a ns hlen hO hS) fun H e s'=>hCX w H s₁ e s'
end L2
namespace L2
open PySem PySem.Spec PyProof.Rows
noncomputable def defArgs (s:Stmt):Arguments:=match s with
 | .FunctionDef _ a _ _ _ _ _ _ _ _=>a
 | _=>{ posonlyargs:=[],args:=[],vararg:=none,kwonlyargs:=[],kw_defaults:=[],kwarg:=none,defaults:=[] }
noncomputable def defBody (s:Stmt):List Stmt:=match s with
 | .FunctionDef _ _ b _ _ _ _ _ _ _=>b
 | _=>[]
noncomputable def defScope (s:Stmt):Scope:=match s with
 | .FunctionDef _ _ _ _ _ _ sc _ _ _=>sc
 | _=>{ kind:=.function,names:=[],isGenerator:=false,isCoroutine:=false }
noncomputable abbrev CX0:CXT:=fun _ _ _ _ _ _=>False
noncomputable abbrev E0:XK:=fun _ _ _=>False
theorem vc {X:Cx}:gx CX0 X E0:=fun _ _ _ _ _ _ _ h=>h.elim
structure Fun (K:a0a)(x qual:Str)(st:Stmt)(f:Addr)(fd:FuncData):Prop where
 ex:∃ (oc:Value) (od:Option Addr) (kV doc pm:Value) (an:Option Addr) (cdv ct:Value) (osl:Array (Option Value)),
  fd=a0R x qual (defArgs st) (defBody st) (defScope st) .none kV doc pm an cdv ct/\K.lookup f=some ⟨oc,od,.func fd,osl⟩/\a1t K cdv qual=true
 kp:a1h K (.ref f)=true
section
variable {P:Program}{w:World}{K:a0a}{mg:Str->Option Value}{base:Heap}
theorem Fun.ok {x qual:Str}{st:Stmt}{f:Addr}{fd:FuncData}{N ps:List Str}{k:Nat}{sp:Sp}(F:Fun K x qual st f fd)(S:ay N ps (defScope st))(len:∀ vs H Q E,sp vs H Q E->vs.length=ps.length)
  (hbody:∀ (cdv:Value) (A:Around) (outer:List Env) (s:Shared) (H:Hp) (vs:List V) (Q:VK) (E:XK),Room k (A.deeper (envOfC qual (defScope st) s.heap.objs.size f cdv))->sp vs H Q E ->
   ∃ t,PSs (eE CX0 P w K mg base N qual (defScope st) f cdv A outer s H E).nox (defBody st) t/\t { nx:=fun _ H'=>Q .non H',rt:=Q } (start N vs) H):b6 P w K mg base CX0 (k+1) f fd ps sp:=by
 obtain ⟨oc,od,kV,doc,pm,an,cdv,ct,osl,rfl,lk,hcd⟩:=F.ex
 refine wj lk hcd S len fun A outer s H vs Q E hr hsp=>?_
 obtain ⟨t,h,q⟩:=hbody cdv A outer s H vs Q E hr hsp
 exact ⟨t,h.nox,q⟩
theorem Fun.binds {x qual:Str}{st:Stmt}{f:Addr}{fd:FuncData}{ps:List Str}(F:Fun K x qual st f fd)
  (h:∀ (kV doc pm:Value) (an:Option Addr) (cdv ct:Value) (us:List Value),us.length=ps.length->bindArgs (a0R x qual (defArgs st) (defBody st) (defScope st) .none kV doc pm an cdv ct) ⟨us,[]⟩=pure (ps.zip us)):Binds K fd ps []:=by
 obtain ⟨oc,od,kV,doc,pm,an,cdv,ct,osl,rfl,lk,hcd⟩:=F.ex
 exact .all (h kV doc pm an cdv ct)
theorem jX {x qual:Str}{st:Stmt}{f:Addr}{oc:Value}{od an:Option Addr}{osl:Array (Option Value)}{kV doc pm cdv ct:Value}(l:K.lookup f=some ⟨oc,od,.func (a0R x qual (defArgs st) (defBody st) (defScope st) .none kV doc pm an cdv ct),osl⟩)
  (c:a1t K cdv qual=true) (k:a1h K (.ref f)=true):Fun K x qual st f (a0R x qual (defArgs st) (defBody st) (defScope st) .none kV doc pm an cdv ct):=⟨⟨oc,od,kV,doc,pm,an,cdv,ct,osl,rfl,l,c⟩,k⟩
end
theorem uN {A:Around}{k:Nat}(hr:Room k A):A.units+1 < cLine:=a10 (Nat.add_le_add_left (by decide:1<=64) _) hr.units
section
variable {X:Cx}
theorem pv (i:Nat){x:Str}{pos:Pos}(hN:X.N[i]?=some x:=by rfl)(hv:Vis X.env.scope x:=by first | exact a0C rfl | exact a0w (a0C rfl) | exact a0w (a0w rfl))(hd:(x==("__debug__":Str))=false:=by decide)
  (hcd:(x==("__classdict__":Str))=false:=by decide):PE X (.Name x pos) (iW i):=bq hN hv hd hcd
end
noncomputable def Same (H H':Hp):Prop:=∀ b o,H b=some o->H' b=some o
theorem Same.refl (H:Hp):Same H H:=fun _ _ h=>h
end L2
namespace L2
open PySem PySem.Spec PyProof.Rows
section
variable {κ:Type}[DecidableEq κ]
noncomputable def gf (kvs:List (κ×V))(k:κ):Option V:=(kvs.find? fun kv=>decide (kv.1=k)).map (·.2)
noncomputable def bM (kvs:List (κ×V))(k:κ)(v:V):List (κ×V) :=
 if (kvs.any fun kv=>decide (kv.1=k))=true then kvs.map (fun kv=>if kv.1=k then (kv.1,v) else kv) else kvs++[(k,v)]
theorem fj {p:κ×V}{r:List (κ×V)}{k:κ}(e:p.1=k):gf (p::r) k=some p.2:=by simp [gf,a1a,e]
theorem fH {p:κ×V}{r:List (κ×V)}{k:κ}(e:¬ p.1=k):gf (p::r) k=gf r k:=by simp [gf,a1a,e]
theorem fq (k:κ):∀ kvs:List (κ×V),(kvs.any fun kv=>decide (kv.1=k))=(gf kvs k).isSome
 | []=>rfl
 | p::r=>by
  rw [a01]
  by_cases e:p.1=k
  ·simp only [fj e,decide_eq_true e,Bool.true_or,Option.isSome_some]
  ·rw [fH e,decide_eq_false e,a11]; exact fq k r
theorem cz (kvs:List (κ×V))(k:κ)(v:V):(bM kvs k v).length<=kvs.length+1:=by
 unfold bM
 split
 ·rw [a0b]; omega
 ·rw [a0c,a0h,a0Q]; omega
theorem RelO.isSome_eq {o:Option V}{u:Option Value}(r:RelO o u):o.isSome=u.isSome:=by
 cases o with
 | none=>cases u with
  | none=>rfl
  | some _=>exact (show False from r).elim
 | some _=>cases u with
  | none=>exact (show False from r).elim
  | some _=>rfl
theorem RelO.getD {o:Option V}{u:Option Value}{d:V}{d':Value}(r:RelO o u)(rd:RelV d d'):RelV (o.getD d) (u.getD d'):=by
 cases o with
 | none=>cases u with
  | none=>exact rd
  | some _=>exact (show False from r).elim
 | some _=>cases u with
  | none=>exact (show False from r).elim
  | some _=>exact r
theorem KV.any {kvs:List (κ×V)}{vs:List (κ×Value)}(r:KV kvs vs)(k:κ):(kvs.any fun kv=>decide (kv.1=k))=vs.any fun kv=>decide (kv.1=k):=by
 unfold KV at r
 induction r with
 | nil=>rfl
 | cons h t ih=>rw [a01,a01,ih,h.1]
theorem KV.repl {kvs:List (κ×V)}{vs:List (κ×Value)}(r:KV kvs vs)(k:κ){y:V}{u:Value}(ry:RelV y u) :
  KV (kvs.map fun kv=>if kv.1=k then (kv.1,y) else kv) (vs.map fun kv=>if kv.1=k then (kv.1,u) else kv):=by
 unfold KV at r ⊢
 induction r with
 | nil=>exact .nil
 | @cons p q ps qs h t ih =>
  rw [a0B,a0B]
  refine .cons ?_ ih
  obtain ⟨h1,h2⟩:=h
  by_cases e:p.1=k
  ·rw [if_pos e,if_pos (h1.symm.trans e)]; exact ⟨h1,ry⟩
  ·rw [if_neg e,if_neg (fun z=>e (h1.trans z))]; exact ⟨h1,h2⟩
theorem KV.put {kvs:List (κ×V)}{vs:List (κ×Value)}(r:KV kvs vs)(k:κ){y:V}{u:Value}(ry:RelV y u):KV (bM kvs k y) (stored vs k u):=by
 unfold bM stored
 rw [r.any k]
 by_cases e:(vs.any fun kv=>decide (kv.1=k))=true
 ·rw [if_pos e,if_pos e]; exact r.repl k ry
 ·rw [if_neg e,if_neg e]; exact Paired.snoc r ⟨rfl,ry⟩
theorem KV.length {kvs:List (κ×V)}{vs:List (κ×Value)}(r:KV kvs vs):kvs.length=vs.length:=Paired.length r
end
theorem pH {P:Program}{w:World}{k:Key}{u:Value}(r:RelV (kV k) u):(aA P w).is k u=true:=by
 cases k with
 | inl i=>obtain ⟨t,e⟩:=(show ∃ t,u=Value.int i t from r); subst e; exact fv P w i t
 | inr x=>obtain ⟨t,e⟩:=(show ∃ t,u=Value.str x t from r); subst e; exact fh P w x t
theorem dZ {P:Program}{w:World}:∀ {ks:List Key} {us:List Value},Vals (ks.map kV) us->ItemsAre (aA P w) ks us
 | [],_,r=>by rw [a1J] at r; cases r; exact .nil
 | k::ks,_,r=>by
  rw [a0B] at r
  cases r with
  | cons h t=>exact .cons (pH h) (dZ t)
noncomputable abbrev KT (H:Hp):List (List Key×V)->List (List Key×Addr×Value)->Prop:=Paired fun p q=>p.1=q.1/\H q.2.1=some (.tup (p.1.map kV))/\RelV p.2 q.2.2
theorem KT.val {H:Hp}{kvs:List (List Key×V)}{xs:List (List Key×Addr×Value)}(r:KT H kvs xs)(k:List Key):RelO (gf kvs k) ((atKey xs k).map (·.2)):=by
 induction r with
 | nil=>exact a1g
 | @cons p q ps qs h t ih =>
  obtain ⟨h1,_,h2⟩:=h
  by_cases e:p.1=k
  ·have e':q.1=k:=h1.symm.trans e
   have b:atKey (q::qs) k=some q.2:=by simp [atKey,a1a,e']
   rw [fj e,b]; exact h2
  ·have e':¬ q.1=k:=fun z=>e (h1.trans z)
   have b:atKey (q::qs) k=atKey qs k:=by simp [atKey,a1a,e']
   rw [fH e,b]; exact ih
theorem KT.repl {H:Hp}{kvs:List (List Key×V)}{xs:List (List Key×Addr×Value)}(r:KT H kvs xs)(k:List Key){y:V}{u:Value}(ry:RelV y u) :
  KT H (kvs.map fun kv=>if kv.1=k then (kv.1,y) else kv) (xs.map (putAt k u)):=by
 induction r with
 | nil=>exact .nil
 | @cons p q ps qs h t ih =>
  rw [a0B,a0B]
  refine .cons ?_ ih
  obtain ⟨h1,h2,h3⟩:=h
  unfold putAt
  by_cases e:p.1=k
  ·rw [if_pos e,if_pos (h1.symm.trans e)]; exact ⟨h1,h2,ry⟩
  ·rw [if_neg e,if_neg (fun z=>e (h1.trans z))]; exact ⟨h1,h2,h3⟩
theorem KT.put {H:Hp}{kvs:List (List Key×V)}{xs:List (List Key×Addr×Value)}(r:KT H kvs xs)(k:List Key){b:Addr}{y:V}{u:Value}(hb:H b=some (.tup (k.map kV)))(ry:RelV y u) :
  KT H (bM kvs k y) (storedH xs k b u):=by
 have e:(kvs.any fun kv=>decide (kv.1=k))=(atKey xs k).isSome:=by
  rw [fq,(r.val k).isSome_eq,Option.isSome_map]
 unfold bM storedH
 rw [e]
 by_cases q:(atKey xs k).isSome=true
 ·rw [if_pos q,if_pos q]; exact r.repl k ry
 ·rw [if_neg q,if_neg q]; exact Paired.snoc r ⟨rfl,hb,ry⟩
theorem KT.keeps {H H':Hp}{kvs:List (List Key×V)}{xs:List (List Key×Addr×Value)}(r:KT H kvs xs)(ht:∀ b ys,H b=some (.tup ys)->H' b=some (.tup ys)):KT H' kvs xs :=
 Paired.mapP r fun _ _ z=>⟨z.1,ht _ _ z.2.1,z.2.2⟩
section
variable {P:Program}{w:World}{H:Hp}{h:Heap}{a:Addr}
theorem pN {u:HO}(ok:HOk P w H h)(e:Rd H a u):ObjOk P w H h a u:=e.ok ok
theorem uL {kvs:List (Key×V)}(ok:HOk P w H h)(e:Rd H a (.dK kvs)):kvs.length<=sizeLine/\(a==sysModules)=false/\∃ vs,KV kvs vs/\h.DictOf (aA P w) a vs :=
 show ObjOk P w H h a (.dK kvs) from pN ok e
theorem pP {kvs:List (Key×V)}(ok:HOk P w H h)(e:H a=some (.dK kvs)):kvs.length<=sizeLine/\(a==sysModules)=false/\∃ vs,KV kvs vs/\h.DictOf (aA P w) a vs:=uL ok (.inl e)
theorem j8 {ks:List Key}(ok:HOk P w H h)(e:H a=some (.tup (ks.map kV))):(tupleKind (aA P w)).is h ks a:=by
 obtain ⟨_,its,r,o,h1,h2,n,h3⟩:=(show ObjOk P w H h a (.tup (ks.map kV)) from ok a _ e)
 exact ⟨o,its.toArray,n,h1,h2,h3,by simpa using dZ r⟩
theorem uO {kvs:List (List Key×V)}(ok:HOk P w H h)(e:Rd H a (.dT kvs)):kvs.length<=sizeLine/\(a==sysModules)=false /\
  ∃ xs,KT H kvs xs/\h.DictOfH (tupleKind (aA P w)) a xs:=by
 obtain ⟨z,y,xs,r,o,es,ep,h1,h2,h3,h4,h5⟩:=(show ObjOk P w H h a (.dT kvs) from pN ok e)
 refine ⟨z,y,xs,r,o,es,ep,h1,h2,h3,h4,fun x hx=>?_,h5⟩
 have all:∀ {l:List (List Key×V)} {m:List (List Key×Addr×Value)},KT H l m->∀ x∈m,(tupleKind (aA P w)).is h x.1 x.2.1:=by
  intro l m q
  induction q with
  | nil=>intro x hx; exact nomatch hx
  | @cons p q ps qs hq t ih =>
   intro x hx
   rcases a0k.mp hx with e | hx
   ·subst e
    exact j8 ok (by rw [<- hq.1]; exact hq.2.1)
   ·exact ih x hx
 exact all r x hx
theorem uB {kvs:List (List Key×V)}(ok:HOk P w H h)(e:H a=some (.dT kvs)):kvs.length<=sizeLine/\(a==sysModules)=false /\
  ∃ xs,KT H kvs xs/\h.DictOfH (tupleKind (aA P w)) a xs:=uO ok (.inl e)
end
noncomputable def wJ (H:Hp)(a:Addr)(y v:V)(H':Hp):Prop :=
 (∃ kvs k,H a=some (.dK kvs)/\y=kV k/\kvs.length < sizeLine/\H'=upd H a (.dK (bM kvs k v))) \/
 ∃ kvs k b,H a=some (.dT kvs)/\y=.ref b/\H b=some (.tup (k.map kV))/\kvs.length < sizeLine/\H'=upd H a (.dT (bM kvs k v))
section
variable {X:Cx}{pins:List (Addr×Obj)}{σ:St}{H:Hp}{s:Shared}{a:Addr}{y v:V}{u r:Value}{o:Option V}{A:Around}{E:Value->Shared->Prop}
theorem Inv.big (I:Inv X pins σ H s):sysModules < s.heap.objs.size:=by
 have h:mainGlobals < s.heap.objs.size:=(I.mod.glob.keeps I.bk).lt
 exact Nat.lt_trans (by decide) h
theorem il {h':Heap}{t':Nat}{ob:HO}(I:Inv X pins σ H s)(mu:Mut (H a))(hs:Heap.SameBut a s.heap h')(he:∃ q,h'.get? a=some q)(new:ObjOk X.prog X.w (upd H a ob) h' a ob) :
  Inv X pins σ (upd H a ob) { s with heap:=h',toks:=t' } :=
 I.write (x:=a) (e:=a) mu (.inl rfl) (fun b q hb z=>(hs.2 b hb).trans z) he new
theorem sF {P:Program}{w:World}{H':Hp}{h':Heap}{kvs:List (Key×V)}{vs:List (Key×Value)}(z:kvs.length<=sizeLine)(hd:(a==sysModules)=false)(rel:KV kvs vs)(dd:h'.DictOf (aA P w) a vs) :
  ObjOk P w H' h' a (.dK kvs):=⟨z,hd,vs,rel,dd⟩
theorem jn {H':Hp}{Q:Unit->Shared->Prop}(hu:A.units+1 < cLine)(I:Inv X pins σ H s)(g:wJ H a y v H')(ry:RelV y u)(rv:RelV v r)(h:∀ s',Inv X pins σ H' s'->Q () s') :
  wpAny (model X.prog X.w) A (setItem (.ref a) u r) Q E s:=by
 rcases g with ⟨kvs,k,e,ey,l,eH⟩ | ⟨kvs,k,b,e,ey,eb,l,eH⟩
 ·subst ey eH
  obtain ⟨z,hd,vs,rel,dd⟩:=pP I.hok e
  have hz:vs.length<=sizeLine:=by rw [<- rel.length]; exact z
  have hl:(bM kvs k v).length<=sizeLine:=by have:=cz kvs k v; omega
  refine wpAny_setItem_pairs (hsz:=hz) (pH ry) dd fun h' dd' hs=>h _ ?_
  have he:∃ q,h'.get? a=some q:=let ⟨q,_,_,hq,_⟩:=dd'; ⟨q,hq⟩
  exact il I (by rw [e]; exact a1g) hs he (sF hl hd (rel.put k rv) dd')
 ·subst ey eH
  cases (show u=Value.ref b from ry)
  obtain ⟨z,hd,xs,rel,dd⟩:=uB I.hok e
  have hz:xs.length<=sizeLine:=by rw [<- Paired.length rel]; exact z
  have hl:(bM kvs k v).length<=sizeLine:=by have:=cz kvs k v; omega
  refine wpAny_setItem_heap (hsz:=hz) (tupleKind_room_in1 hu) (j8 I.hok eb) dd fun h' dd' hs=>h _ ?_
  obtain ⟨q,es,ep,hq,h2,h3,h4,_,h5⟩:=dd'
  refine il I (by rw [e]; exact a1g) hs ⟨q,hq⟩ ⟨hl,hd,_,(rel.put k eb rv).keeps fun c ys ec=>?_,q,es,ep,hq,h2,h3,h4,h5⟩
  rw [af (wu ec e (fun z=>nomatch z))]
  exact ec
end
noncomputable def vj (td ty tv:TE):TS:=fun D σ H=>tv σ H fun v H1=>td σ H1 fun x H2=>ty σ H2 fun y H3=>∃ a H4,x=.ref a/\wJ H3 a y v H4/\D.nx σ H4
section
variable {X:Cx}{o i e value:Expr}{pos pos' tpos:Pos}{td ty tv:TE}
theorem pq (hu:X.A.units+1 < cLine)(ho:PE X o td)(hi:PE X i ty)(hv:PE X value tv)(hs:swapsWith value (some (.Subscript o i pos')) pos.line X.env=pure false) :
  PS X (.Assign [.Subscript o i pos'] value pos) (vj td ty tv):=by
 intro pins s σ H D I h
 refine wpAny_Assign_Subscript (thn (hv pins s σ H _ I h) fun r s1 ⟨v,H1,I1,rv,q1⟩=>thn (ho pins s1 σ H1 _ I1 q1) fun u s2 ⟨x,H2,I2,rx,q2⟩=>thn (hi pins s2 σ H2 _ I2 q2) fun iv s3 ⟨y,H3,I3,ry,a,H4,ex,g,q3⟩=>?_) hs
 subst ex
 obtain rfl:u=Value.ref a:=rx
 exact jn hu I3 g ry rv fun s4 I4=>⟨σ,H4,I4,q3⟩
end
theorem jY {P:Program}{w:World}{H:Hp}(h:Heap)(hb:sysModules < h.objs.size):ObjOk P w H (h.push { cls:=.type "dict",data:=.dict #[] }) h.objs.size (.dK []) :=
 ⟨a0N _,beq_eq_false_iff_ne.mpr (a1r (a0y hb)),[],.nil,Heap.DictOf.new h⟩
noncomputable def j6:TE:=fun _ H Q=>∀ p,H p=none->Q (.ref p) (upd H p (.dK []))
section
variable {X:Cx}{pos:Pos}
theorem lB:PE X (.Dict [] [] pos) j6:=fun pins s σ H Q I h =>
 wpAny_Dict_empty ⟨.ref s.heap.objs.size,_,I.laid (a:=s.heap.objs.size) (o:=.dK []) (t':=s.toks) (fun _ _ q=>Heap.get?_push_of_some _ q) (a0i _) (jY s.heap I.big),rfl,h _ (I.hok.fresh (a0i _))⟩
end
structure M1 (X:Cx)(o:Expr)(m:Str)(apos:Pos)(e:Expr)(cpos:Pos):Prop where
 base:attributeBase o m X.env (eval o X.env)=eval o X.env
 few:((backTo cpos (starEach [e] X.env)).all (fun x=>!x.1)&&(backToKw cpos (keywordEach [] X.env)).all (fun x=>x.1.isSome)
 &&decide (([e]:List Expr).length+([]:List Keyword).length+(if ([]:List Keyword).isEmpty then 0 else 1) < 30))=true
 line:(apos.endLine==cpos.line)=true
 trees:backTo cpos (starEach [e] X.env)=[(false,eval e X.env)]
end L2
namespace L2
open PySem PySem.Spec PyProof.Rows
end L2

set_option maxHeartbeats 4000000
namespace L3
open PySem PySem.Spec PyProof.Rows L2
noncomputable abbrev noX:Value->Shared->Prop:=fun _ _=>False
theorem iS {P:Program}{w:World}{H:Hp}{h:Heap}{a:Addr}{o:HO}(x:HOk P w H h)(hn:H a=none)(new:ObjOk P w (upd H a o) h a o):HOk P w (upd H a o) h:=by
 intro b u e
 by_cases hb:b=a
 ·subst hb
  rw [ai] at e
  cases e
  exact new
 ·rw [af hb] at e
  refine (x b u e).stay (fun c v _ q=>q) (fun c q=>?_) (fun c xs q=>?_)
  ·rw [af (av q hn)]; exact q
  ·rw [af (av q hn)]; exact q
inductive Th where
 | non | bl (b:Bool) | int (i:Int) | str (x:Str) | tup (ts:List Th) | lst (ts:List Th)
mutual
noncomputable def Has (K:a0a)(H:Hp):Th->V->Prop
 | .non,v=>v=.non
 | .bl b,v=>v=.bl b
 | .int i,v=>v=.int i
 | .str x,v=>v=.str x
 | .tup ts,v=>∃ a vs,v=.ref a/\SqT K H a vs/\HasL K H ts vs
 | .lst ts,v=>∃ a vs,v=.ref a/\H a=some (.lst vs)/\HasL K H ts vs
noncomputable def HasL (K:a0a)(H:Hp):List Th->List V->Prop
 | [],vs=>vs=[]
 | t::ts,vs=>∃ v r,vs=v::r/\Has K H t v/\HasL K H ts r
end
noncomputable def Th.ty:Th->String
 | .non=>"NoneType" | .bl _=>"bool" | .int _=>"int" | .str _=>"str" | .tup _=>"tuple" | .lst _=>"list"
noncomputable def isI (c:String)(t:Th):Bool:=t.ty==c || (t.ty=="bool"&&c=="int")
theorem kit_type {K:a0a}{A B:String}:a0U K (.type A) (.type B)=a0U [] (.type A) (.type B):=by
 unfold a0U PySem.W.kitCls PySem.W.subIn
 rfl
theorem sL:∀ c∈["tuple","str","bool","int","list"],∀ n∈["NoneType","bool","int","str","tuple","list"],a0U [] (.type n) (.type c)=some (n==c || (n=="bool"&&c=="int")):=by decide +kernel
theorem ug (t:Th):t.ty∈["NoneType","bool","int","str","tuple","list"]:=by cases t<;>simp [Th.ty]
theorem um {c:String}(hc:c∈["tuple","str","bool","int","list"])(t:Th):a0U [] (.type t.ty) (.type c)=some (isI c t):=sL c hc t.ty (ug t)
structure DTab (K:a0a)(w:World)(a:Addr)(T:List (Str×V)):Prop where
 ex:∃ es n,K.lookup a=some ⟨.type "dict",none,.dict es n,#[]⟩/\a2l w.params es.toList/\Paired (fun (p:Str×V) (e:DictEntry)=>(∃ t,e.key=.str p.1 t)/\RelV p.2 e.val) T es.toList
 lo:(a==sysModules)=false
theorem fu {x:Str}:∀ {T:List (Str×V)} {l:List DictEntry},Paired (fun (p:Str×V) (e:DictEntry)=>(∃ t,e.key=.str p.1 t)/\RelV p.2 e.val) T l->RelO (T.lookup x) ((l.find? fun d=>Value.isStrOf x d.key).map (·.val))
 | _,_,.nil=>trivial
 | (k,v)::T,e::l,.cons ⟨⟨t,h1⟩,h2⟩ r=>by
  have ih:=fu (x:=x) r
  have q:Value.isStrOf x e.key=(x==k):=by
   have h1':e.key=.str k t:=h1
   rw [h1']
   show (k==x)=(x==k)
   by_cases z:x=k
   ·subst z; rfl
   ·rw [beq_false_of_ne z,beq_false_of_ne (a1r z)]
  rw [a1a,q,a06]
  cases x==k with
  | true=>exact h2
  | false=>exact ih
theorem DTab.map {K:a0a}{w:World}{a:Addr}{T:List (Str×V)}{P:Program}{h:Heap}(D:DTab K w a T)(X:K.In h):∃ f:Str->Option Value,h.MapOf (strKind P w) a f/\∀ x,RelO (T.lookup x) (f x):=by
 obtain ⟨es,n,h1,h2,h3⟩:=D.ex
 refine ⟨_,PySem.W.mapOf_K (prog:=P) X h1 h2,fun x=>?_⟩
 have q:=fu (x:=x) h3
 have e:findBy Value.isStrOf es x=(es.toList.find? fun d=>Value.isStrOf x d.key).map (·.val):=by
  unfold findBy
  rw [<- a1Y]
 rw [e]; exact q
theorem RelO.some_is {v:V}{o:Option Value}(r:RelO (some v) o):∃ u,o=some u/\RelV v u:=by
 cases o with
 | none=>exact r.elim
 | some u=>exact ⟨u,rfl,r⟩
theorem RelO.same_some {o:Option V}{u:Option Value}(r:RelO o u):u.isSome=o.isSome:=by
 cases o with
 | none =>
  cases u with
  | none=>rfl
  | some u=>exact r.elim
 | some v =>
  obtain ⟨u,rfl,_⟩:=RelO.some_is r
  rfl
section
variable {X:Cx}
theorem lx:OpR X (compareOp .In) (fun x y H Q=>∃ z a T,x=.str z/\y=.ref a/\DTab X.K X.w a T/\Q (.bl (T.lookup z).isSome) H):=by
 intro pins s σ H x y v u Q I rx ry h
 obtain ⟨z,a,T,rfl,rfl,D,q⟩:=h
 obtain ⟨t,rfl⟩:=rx
 cases ry
 obtain ⟨f,hm,hf⟩:=D.map (P:=X.prog) I.kIn
 refine wpAny_in_of (strKind_is X.prog X.w z t) D.lo hm ?_
 rw [RelO.same_some (hf z)]
 exact ⟨.bl (T.lookup z).isSome,H,I.tok _,rfl,q⟩
end
theorem fg {H:Hp}{p:Addr}(h:H p=none)(o:HO):Same H (upd H p o):=fun b u q=>by rw [af (av q h)]; exact q
noncomputable def qb (K:a0a):R2:=fun x y H Q=>∃ a b xs ys,x=.ref a/\y=.ref b/\SqT K H a xs/\SqT K H b ys/\xs≠[]/\xs.length+ys.length<=sizeLine/\∀ v H',Same H H'->(∃ c,v=.ref c/\SqT K H' c (xs++ys))->Q v H'
theorem ir {X:Cx}:OpR X (binaryOp .Add) (qb X.K):=fun pins s σ H x y v u Q I rx ry h=>by
 obtain ⟨a,b,xs,ys,e1,e2,h1,h2,hx,hz,q⟩:=h
 exact mC pins s σ H x y v u Q I rx ry ⟨a,b,xs,ys,e1,e2,h1,h2,hx,hz,fun z=>q _ _ (Same.refl _) ⟨a,rfl,by rw [z,a0I]; exact h1⟩,fun _ p hp=>q _ _ (fg hp _) ⟨p,rfl,SqT.of ai⟩⟩
theorem vi {X:Cx}{x:Str}{T:String}{pos:Pos}(hg:Gl X x)(hm:X.mg x=none)(hv:bootBuiltins x=some (.type T))(hn:x≠"__name__":=by decide)(hd:(x==("__debug__":Str))=false:=by decide):PE X (.Name x pos) (tC (.ty T)):=n5 (v:=.ty T) hg hm hv rfl hn hd
theorem kb {X:Cx}{x:Str}{a:Addr}{pos:Pos}(hg:Gl X x)(hm:X.mg x=some (.ref a))(hd:(x==("__debug__":Str))=false:=by decide):PE X (.Name x pos) (tC (.ref a)):=mj (v:=.ref a) hg hm rfl hd
mutual
noncomputable def toD:Th->PyData
 | .non=>.none
 | .bl b=>.bool b
 | .int i=>.int i
 | .str x=>.str x
 | .tup ts=>.tuple (cD ts)
 | .lst ts=>.list (cD ts)
noncomputable def cD:List Th->List PyData
 | []=>[]
 | t::ts=>toD t::cD ts
end
section
variable {X:Cx}{pins:List (Addr×Obj)}{σ:L2.St}{H:Hp}{s:Shared}
mutual
theorem Has.reads (I:Inv X pins σ H s):∀ {t:Th} {v:V} {u:Value},Has X.K H t v->RelV v u->∃ as,Reads s.heap u (toD t) as
 | .non,_,u,h,r=>by
  obtain rfl:_=V.non:=h
  obtain rfl:u=Value.none:=r
  exact ⟨_,.none⟩
 | .bl b,_,u,h,r=>by
  obtain rfl:_=V.bl b:=h
  obtain rfl:u=Value.bool b:=r
  exact ⟨_,.bool b⟩
 | .int i,_,u,h,r=>by
  obtain rfl:_=V.int i:=h
  obtain ⟨t,rfl⟩:∃ t,u=Value.int i t:=r
  exact ⟨_,.int i t⟩
 | .str x,_,u,h,r=>by
  obtain rfl:_=V.str x:=h
  obtain ⟨t,rfl⟩:∃ t,u=Value.str x t:=r
  exact ⟨_,.str x t⟩
 | .tup ts,_,u,⟨a,vs,e,hS,hL⟩,r=>by
  subst e
  obtain rfl:u=Value.ref a:=r
  obtain ⟨its,rv,⟨o,h1,h2,n,h3⟩,_⟩:=I.tuple hS
  obtain ⟨as,ra⟩:=HasL.reads I hL rv
  exact ⟨_,.tuple h1 h2 h3 (by simpa using ra)⟩
 | .lst ts,_,u,⟨a,vs,e,hS,hL⟩,r=>by
  subst e
  obtain rfl:u=Value.ref a:=r
  obtain ⟨its,rv,⟨o,n,h1,h2,_,h3⟩,_⟩:=I.list (SqL.of hS)
  obtain ⟨as,ra⟩:=HasL.reads I hL rv
  exact ⟨_,.list h1 h2 h3 (by simpa using ra)⟩
theorem HasL.reads (I:Inv X pins σ H s):∀ {ts:List Th} {vs:List V} {us:List Value},HasL X.K H ts vs->Vals vs us->∃ as,ReadsAll s.heap us (cD ts) as
 | [],vs,us,h,r=>by
  obtain rfl:vs=[]:=h
  cases r
  exact ⟨_,.nil⟩
 | t::ts,vs,us,⟨v,w',e,h1,h2⟩,r=>by
  subst e
  cases r with
  | cons r1 r2 =>
   obtain ⟨as,ra⟩:=Has.reads I h1 r1
   obtain ⟨bs,rb⟩:=HasL.reads I h2 r2
   exact ⟨_,.cons ra rb⟩
end
end
noncomputable abbrev eV (t:Th):Prop:=SeqAt.shaped (toD t)=true
theorem m4 {X:Cx}(hu:X.A.units+64 < cLine):OpR X (compareOp .Eq) (fun x y H Q=>∃ t t',Has X.K H t x/\Has X.K H t' y/\eV t/\eV t'/\Q (.bl (PyData.eqv (toD t) (toD t'))) H):=by
 intro pins s σ H x y v u Q I rx ry h
 obtain ⟨t,t',h1,h2,o1,o2,q⟩:=h
 obtain ⟨as,ra⟩:=Has.reads I h1 rx
 obtain ⟨bs,rb⟩:=Has.reads I h2 ry
 exact a2A ra rb o1 o2 hu ⟨.bl _,H,I,rfl,q⟩
theorem pB {X:Cx}(hu:X.A.units+64 < cLine):OpR X (compareOp .NotEq) (fun x y H Q=>∃ t t',Has X.K H t x/\Has X.K H t' y/\eV t/\eV t'/\Q (.bl (!PyData.eqv (toD t) (toD t'))) H):=by
 intro pins s σ H x y v u Q I rx ry h
 obtain ⟨t,t',h1,h2,o1,o2,q⟩:=h
 obtain ⟨as,ra⟩:=Has.reads I h1 rx
 obtain ⟨bs,rb⟩:=Has.reads I h2 ry
 exact a2B ra rb o1 o2 hu ⟨.bl _,H,I,rfl,q⟩
section
variable {prog:Program}{w:World}{A:Around}{E:Value->Shared->Prop}{s:Shared}
theorem b9 {t sl:Addr}{items:Array Value}{vl vu:Value}{lo hi:Option Int}{Q:Value->Shared->Prop}(ht:IsTup s.heap t items)(hs:s.heap.IsSliceOf sl vl vu .none)(pl:IsPart vl lo)(pu:IsPart vu hi)
  (hw:HT.sIx items.size 0 lo=0/\HT.sIx items.size items.size hi=items.size) (h:Q (.ref t) s):wpAny (model prog w) A (getItem (.ref t) (.ref sl)) Q E s:=by
 obtain ⟨os,hos,hcs,hds⟩:=id hs
 have hTs:s.TypeIs (.ref sl) "slice":=⟨os,hos,hcs⟩
 unfold getItem
 try with_reducible refine wpAny_holding ?_
 first | refine wpAny_bind (wpAny_pure ?_) | skip
 refine wpAny_bind (wpAny_sequenceKey ht.typeIs (by decide) ?_)
 refine wpAny_bind (wpAny_callSpecial?_slot (name:=Str.ofString "__getitem__") ht.typeIs a0q
  (wpAny_call_entry a0q ht.typeIs entry_tuple_getitem ?_ (args_tuple_getitem _ _)))
 show wpAny _ _ (Builtin.Tuple.tupleItemsOf (.ref t) >>= _) _ _ s
 refine wpAny_bind (tupleItemsOf_ ht ?_)
 refine wpAny_bind (wpAny_typeOf hTs ?_)
 rw [if_pos (by decide)]
 refine wpAny_bind (HT.sliceApplied_gen hs pl pu ?_)
 have hyes:(((HT.sIx items.size 0 lo:Nat):Int)==0&&(1:Int)==1&&(HT.sIx items.size items.size hi-HT.sIx items.size 0 lo)==items.size)=true:=by
  rw [hw.1,hw.2]
  simp
 show wpAny _ _ (if (((HT.sIx items.size 0 lo:Nat):Int)==0&&(1:Int)==1&&(HT.sIx items.size items.size hi-HT.sIx items.size 0 lo)==items.size)=true then _ else _) _ _ s
 rw [if_pos hyes]
 unfold Builtin.Tuple.tupleIsExact
 refine wpAny_bind (wpAny_bind (wpAny_typeOf ht.typeIs (wpAny_pure ?_)))
 rw [if_pos (by decide)]
 first
  | exact wpAny_bind (wpAny_rule (wpAny_pure ⟨_,rfl,wpAny_pure h⟩))
  | exact wpAny_bind (wpAny_rule (wpAny_bind (wpAny_pure (wpAny_pure ⟨_,rfl,wpAny_pure h⟩))))
end
section
variable {X:Cx}
noncomputable def oN (K:a0a):V->Option Int->Option Int->Hp->VK->Prop:=fun x lo hi H Q=>∃ a xs,x=.ref a/\SqT K H a xs/\∀ v H',Same H H'->(∃ c,v=.ref c/\SqT K H' c (bW xs lo hi))->Q v H'
theorem iF:SlR X (oN X.K):=by
 intro pins s σ H x v vl vu lo hi sl Q I rx hs pl pu h
 obtain ⟨a,xs,rfl,hx,q⟩:=h
 by_cases hw:HT.sIx xs.length 0 lo=0/\HT.sIx xs.length xs.length hi=xs.length
 ·cases rx
  obtain ⟨its,r,ht,hz⟩:=I.tuple hx
  have hlen:its.toArray.size=xs.length:=by rw [a0e]; exact r.length.symm
  refine ⟨"tuple",_,a0q.lookup,ht.typeIs,?_⟩
  refine b9 ht hs pl pu (by rw [hlen]; exact hw) ⟨.ref a,H,I,rfl,q _ _ (Same.refl H) ⟨a,rfl,?_⟩⟩
  have e:bW xs lo hi=xs:=by
   unfold bW
   rw [hw.1,hw.2]
   simp
  rw [e]
  exact hx
 ·exact qv pins s σ H _ v vl vu lo hi sl Q I rx hs pl pu ⟨a,xs,rfl,hx,hw,fun p hp=>q _ _ (fg hp _) ⟨p,rfl,SqT.of ai⟩⟩
end
noncomputable def xZ (K:a0a):R2:=fun x y H Q=>∃ p xs i v,x=.ref p/\y=.int i/\(SqL K H p xs\/SqT K H p xs)/\atI xs i=some v/\Q v H
theorem ix_any {X:Cx}:IxR X (xZ X.K):=fun value slice pins s σ H x y v u Q I rx ry h hs=>by
 obtain ⟨p,xs,i,z,e1,e2,hq,ha,q⟩:=h
 rcases hq with hq | hq
 ·exact oy value slice pins s σ H x y v u Q I rx ry ⟨p,xs,i,z,e1,e2,hq,ha,q⟩ hs
 ·exact qi value slice pins s σ H x y v u Q I rx ry ⟨p,xs,i,z,e1,e2,hq,ha,q⟩ hs
end L3

namespace L3
open PySem PySem.Spec PySem.Builtin PySem.Builtin.Str PyProof.Rows L2
end L3

namespace L3
open PySem PySem.Spec PyProof.Rows L2
noncomputable def ItO (h:Heap):Bool->Addr->Addr->Nat->Prop
 | true,it,a,n=>h.IsTupleIter it a n
 | false,it,a,n=>h.IsListIter it a n
section
variable {prog:Program}{w:World}{A:Around}{E:Value->Shared->Prop}{s:Shared}
theorem gC {it t:Addr}{i:Nat}{xs:Array Value}{x:Value}{Q:Value->Shared->Prop}(hit:s.heap.IsTupleIter it t i)(ht:s.heap.IsTuple t xs)(hx:xs[i]?=some x)
  (q:∀ h',h'.IsTupleIter it t (i+1)->Heap.SameBut it s.heap h'->Q x { s with heap:=h' }):wpAny (model prog w) A (Builtin.SmallTypes.nextOf (.ref it)) Q E s:=by
 obtain ⟨u,hu,cu,du⟩:=id hit; obtain ⟨v,hv,_,nv,dv⟩:=ht
 unfold Builtin.SmallTypes.nextOf
 refine wpAny_bind (wpAny_callSpecial?_slot (name:=Str.ofString "__next__") hit.typeIs F.slot_tuple_iterator_next (wpAny_call_entry F.slot_tuple_iterator_next hit.typeIs F.entry_tuple_iterator_next ?_ (F.args_tuple_iterator_next_1 _)))
 show wpAny _ _ (field (.ref it) 0 >>= _) _ _ _; refine wpAny_bind (wpAny_field hu du (x:=.ref t) rfl ?_)
 show wpAny _ _ (if (Value.ref t==Value.none)=true then _ else _) _ _ _; rw [if_neg (by intro z; cases z)]
 show wpAny _ _ (field (.ref it) 1 >>= _) _ _ _; refine wpAny_bind (wpAny_field hu du (x:=.int i 0) rfl ?_)
 show wpAny _ _ (seqItems? (.ref t) >>= _) _ _ _; refine wpAny_bind (wpAny_seqItems hv dv ?_)
 simp only [hx,a17]
 exact wpAny_bind (wpAny_setField hu du (by simp) (wpAny_pure ⟨x,rfl,wpAny_pure (q _ ⟨_,Heap.get?_update_self _ hu (Obj.isFreed_of_fields (Obj.data_mapFields du _)),(Obj.cls_mapFields ..).trans cu,by rw [Obj.data_mapFields du]; simp [rawInt]⟩ (Heap.SameBut.update ..))⟩))
theorem d8 {it t:Addr}{i:Nat}{xs:Array Value}{Q:Value->Shared->Prop}(hh:A.handled=none)(hit:s.heap.IsTupleIter it t i)(ht:s.heap.IsTuple t xs)(hx:xs[i]?=none)
  (q:∀ h' e,Heap.ExtBut it s.heap h'->(∃ o,h'.get? e=some o/\o.cls=.type "StopIteration")->E (.ref e) { s with heap:=h' }):wpAny (model prog w) A (Builtin.SmallTypes.nextOf (.ref it)) Q E s:=by
 obtain ⟨u,hu,cu,du⟩:=id hit; obtain ⟨v,hv,_,nv,dv⟩:=ht
 unfold Builtin.SmallTypes.nextOf
 refine wpAny_bind (wpAny_callSpecial?_slot (name:=Str.ofString "__next__") hit.typeIs F.slot_tuple_iterator_next (wpAny_call_entry F.slot_tuple_iterator_next hit.typeIs F.entry_tuple_iterator_next ?_ (F.args_tuple_iterator_next_1 _)))
 show wpAny _ _ (field (.ref it) 0 >>= _) _ _ _; refine wpAny_bind (wpAny_field hu du (x:=.ref t) rfl ?_)
 show wpAny _ _ (if (Value.ref t==Value.none)=true then _ else _) _ _ _; rw [if_neg (by intro z; cases z)]
 show wpAny _ _ (field (.ref it) 1 >>= _) _ _ _; refine wpAny_bind (wpAny_field hu du (x:=.int i 0) rfl ?_)
 show wpAny _ _ (seqItems? (.ref t) >>= _) _ _ _; refine wpAny_bind (wpAny_seqItems hv dv ?_)
 simp only [hx,a17]
 refine wpAny_bind (wpAny_rule (wpAny_bind (wpAny_setField hu du (by simp) ?_))); show wpAny _ _ (newExc (.type "StopIteration") [] >>= _) _ _ _
 refine wpAny_bind ?_; simp only [newTuple,newExc]
 refine wpAny_bind (wpAny_newObj_type ?_ (by size_fits)); refine wpAny_bind (m:=firstArgMember _ _) (wpAny_of_eq (a:=Value.none) (by first | rfl | (simp only [firstArgMember]; rfl)) (wpAny_newObj_type ?_ (by size_fits)))
 simp only [raiseNew]
 refine wpAny_bind (wpAny_handled ?_); first | rw [hh] | rw [show A.in1.handled=none from hh]
 exact wpAny_bind (wpAny_pure (wpAny_throw (q _ _ (((Heap.SameBut.update ..).extBut.push _).push _) ⟨_,Heap.get?_push_size _ rfl,rfl⟩)))
end
end L3
namespace L3
open PySem PySem.Spec PyProof.Rows L2
section
variable {X:Cx}{pins:List (Addr×Obj)}{σ:L2.St}{H:Hp}{s:Shared}
theorem c5 {h':Heap}{ch:List Addr}(I:Inv X pins σ H s)(hf:∀ b∈ch,H b=none)(k:∀ b o,b ∉ ch->s.heap.get? b=some o->h'.get? b=some o):HOk X.prog X.w H h':=fun b u e=>by
 have nit:∀ b u,H b=some u->b ∉ ch:=fun b u e z=>by rw [hf b z] at e; cases e
 refine (I.hok b u e).stay (fun c v hc q=>k c v ?_ q) (fun _ q=>q) fun _ _ q=>q
 rcases hc with z | z
 ·rw [z]; exact nit b u e
 ·exact nit c _ z
theorem gY {h':Heap}{t':Nat}{ch:List Addr}(I:Inv X pins σ H s)(hf:∀ b∈ch,fV X pins H b)(k:∀ b o,b ∉ ch->s.heap.get? b=some o->h'.get? b=some o):Inv X pins σ H { s with heap:=h',toks:=t' }:=by
 refine I.step (g':=s.gens) (d':=s.drawn) (ch:=ch) (fun b hb=>⟨(hf b hb).2.2.2.1,(hf b hb).2.1,(hf b hb).2.2.2.2.1,(hf b hb).2.2.2.2.2⟩) (fun b o _ _ hc e _=>k b o hc e) (fun b o _ _ hc e _=>⟨o.slots,k b o hc e⟩) (fun _ _ _ _ n=>n)
  (fun b o hc e=>⟨o,k b o hc e⟩) (fun _ _ e=>e) (fun _ _ _ e=>e) (fun b ps e=>⟨#[],by rw [e]; simp⟩) (fun m hm=>?_) (c5 I (fun b hb=>(hf b hb).1) k) I.bare
 obtain ⟨o,es,ep,ho,r⟩:=hm
 exact ⟨o,es,ep,k _ o (fun z=>(hf _ z).2.1 rfl) ho,r⟩
theorem cT {h':Heap}{t':Nat}{ch:List Addr}{a:Addr}{ys:List V}{its:List Value}(I:Inv X pins σ H s)(hf:∀ b∈ch,fV X pins H b)(k:∀ b o,b ∉ ch->s.heap.get? b=some o->h'.get? b=some o)
  (ha:s.heap.objs.size<=a) (hz:ys.length<=sizeLine) (hv:Vals ys its) (ht:IsTup h' a its.toArray):Inv X pins σ (upd H a (.tup ys)) { s with heap:=h',toks:=t' }:=by
 have fr:H a=none:=I.hok.fresh ha
 have na:∀ b o,s.heap.get? b=some o->b≠a:=fun b o e=>a0y (a0l (Heap.lt_size e) ha)
 refine I.step (g':=s.gens) (d':=s.drawn) (ch:=ch) (fun b hb=>⟨(hf b hb).2.2.2.1,(hf b hb).2.1,(hf b hb).2.2.2.2.1,(hf b hb).2.2.2.2.2⟩) (fun b o _ _ hc e _=>k b o hc e) (fun b o _ _ hc e _=>⟨o.slots,k b o hc e⟩) (fun b o _ e n=>by rw [af (na b o e)]; exact n)
  (fun b o hc e=>⟨o,k b o hc e⟩) (fun b u e=>by rw [af (av e fr)]; exact e) (fun b o u e=>by rw [af (av e fr)]; exact e) (fun b ps e=>⟨#[],by rw [af (av e fr),e]; simp⟩) (fun m hm=>?_)
  (iS (c5 I (fun b hb=>(hf b hb).1) k) fr ⟨hz,its,hv,ht⟩) I.bare
 obtain ⟨o,es,ep,ho,r⟩:=hm
 exact ⟨o,es,ep,k _ o (fun z=>(hf _ z).2.1 rfl) ho,r⟩
end
end L3
namespace L3
open PySem PySem.Spec PyProof.Rows L2
end L3
namespace L3
open PySem PySem.Spec PyProof.Rows L2
end L3
namespace L3
open PySem PySem.Spec PyProof.Rows L2
end L3
namespace L3
open PySem PySem.Spec PyProof.Rows L2
end L3
namespace L3
open PySem PySem.Spec PyProof.Rows L2
end L3

namespace L3
open PySem PySem.Spec PyProof.Rows L2
noncomputable def CW (X:Cx)(cs:List Expr)(k:Bool->Shared->Prop)(s:Shared):Prop:=match cs with
 | []=>k true s
 | [c]=>wpAny (model X.prog X.w) X.A (isTrue c X.env (eval c X.env)) k noX s
 | _=>False
noncomputable def PC (X:Cx)(cs:List Expr)(tc:TT):Prop:=∀ (pins:List (Addr×Obj)) (s:Shared) (σ:L2.St) (H:Hp) (Q:Bool->Hp->Prop),Inv X pins σ H s->tc σ H Q->CW X cs (fun ok s'=>∃ H',Inv X pins σ H' s'/\Q ok H') s
end L3

namespace L3
open PySem PySem.Spec PyProof.Rows L2
end L3
namespace L3
open PySem PySem.Spec PyProof.Rows L2
end L3
namespace L3
open PySem PySem.Spec PyProof.Rows L2
end L3

namespace L3
open PySem PySem.Spec PyProof.Rows L2
theorem bG:∀ {ns:List Int} {us:List Value},Vals (ns.map V.int) us->IntsAre us ns
 | [],_,.nil=>.nil
 | n::ns,_,.cons ⟨t,e⟩ r=>by cases e; exact .cons n t (bG r)
end L3
namespace L3
open PySem PySem.Spec PyProof.Rows L2
noncomputable abbrev pR (h:Heap)(T:Addr)(a b c:Value):Prop:=h.get? T=some { cls:=.type "tuple",data:=.seq #[a,b,c] }
end L3
namespace L3
open PySem PySem.Spec PyProof.Rows L2
noncomputable def Z3 (n a1 a2 a3:Nat)(i:Nat)(h:Heap):Prop :=
 IsZip h (n+5) (n+3) (n+4) .none/\pR h (n+3) (.ref n) (.ref (n+1)) (.ref (n+2))/\(∃ a b c,pR h (n+4) a b c)/\ItO h false n a1 i/\ItO h false (n+1) a2 i/\ItO h false (n+2) a3 i
end L3

namespace M
open PySem (Str)
inductive T where
 | non | bl (b:Bool) | int (i:Int) | str (x:Str) | tup (ts:List T) | lst (ts:List T) | dct (ks:List Str) (vs:List T) | ins (c:Str) (fs:List Str) (vs:List T)
 | scr (ns:List Int)
 | gone
 deriving Inhabited
inductive Md where
 | s | d | o (m:Md)
 deriving DecidableEq,Inhabited
noncomputable def Md.kid:Md->Md
 | .s=>.s | .d=>.d | .o m=>m
noncomputable def Md.up:Md->Md
 | .d=>.d | m=>.o m
noncomputable def Md.meet:Md->Md->Md
 | .s,_=>.s | .d,m=>m | .o _,.s=>.s | .o a,.d=>.o a | .o a,.o b=>.o (a.meet b)
noncomputable def Md.le:Md->Md->Bool
 | .s,_=>true
 | .o a,.o b=>a.le b
 | .o _,.d=>true
 | .d,.d=>true
 | _,_=>false
noncomputable abbrev W:=Md×T
noncomputable abbrev Env:=List (Option W)
noncomputable def LIM:Nat:=16777215
noncomputable def T.leaf:T->Bool
 | .non | .bl _ | .int _ | .str _ | .scr _=>true
 | _=>false
noncomputable def T.isG:T->Bool
 | .gone=>true
 | .dct _ _=>true
 | _=>false
noncomputable def T.isN:T->Bool
 | .non=>true
 | _=>false
noncomputable def leaves (ts:List T):Bool:=ts.all T.leaf
inductive Op where
 | add | sub | mul | fdiv | mod | pow | neg | eq | ne | lt | le | gt | ge | is | isnot | isin | notin | ix | sl | sl1 | sl2 | sl3
 | len | isI (cs:List String) | max1 | min1 | count | fdivN | modN | intS | apd | mulS | listS | list | tuple | sum | all | any | max | min | int | str | rng | sorted | join | split | abs | dict | get | lzip | isB | isnB | lower | inS | ninS | inX | ninX | leS | catT | dnew | sortedD | sortedS | lenSet | countS
 deriving DecidableEq,Inhabited
inductive Ik where
 | seq | rng | enm | zip | sq2 | zip3 | chr | enmT
 deriving DecidableEq,Inhabited
inductive E where
 | var (i:Nat) | mv (i:Nat) | io (i:Nat) | cst (t:T) | glb (x:Str) (t:T)
 | tup (es:List E) | lst (h:Bool) (es:List E) | op (o:Op) (h:Bool) (es:List E) | wk (m:Md) (e:E)
 | and (a b:E) | or (a b:E) | not (a:E) | ifx (c a b:E) | chain (o p:Op) (a b c:E)
 | call (f:Nat) (es:List E) | comp (h:Bool) (k:Ik) (src:List E) (tg:List Nat) (cnd:Option E) (elt:E)
 | pop (i:Nat) (es:List E) | lenV (i:Nat)
 | tupA (es:List E) | qx (vs ls:List Nat) (e:E) | mvP (i:Nat) (p:List Nat)
 | callT (tab:List (Str×Nat)) (k:E) (es:List E) | inT (neg:Bool) (ks:List Str) (e:E) | ixT (tab:List (Str×T)) (e:E) | getT (tab:List (Str×T)) (e:E)
 deriving Inhabited
inductive X where
 | q (vs ls:List Nat) | l (vs:List Nat)
 deriving Inhabited
inductive S where
 | asg (x:X) (i:Nat) (e:E) | asgT (x:X) (is:List Nat) (e:E) | setI (x:X) (i:Nat) (k e:E) | setK (x:X) (i:Nat) (k e:E)
 | exp (x:X) (e:E) | app (x:X) (i:Nat) (e:E) | ext (x:X) (i:Nat) (e:E)
 | ret (vs:List Nat) (e:E) | retN | ite (x:X) (c:E) (a b:List S)
 | forS (vs ls:List Nat) (k:Ik) (src:List E) (tg:List Nat) (body:List S) | forU (k:Ik) (src:List E) (tg:List Nat) (body:List S) | whl (x:X) (c:E) (body:List S)
 | brk | pas | stop | tri (body:List S)
 deriving Inhabited
structure Fn where
 ps:Nat
 ns:Nat
 io:List Nat
 body:List S
inductive Res (α:Type) where
 | ok (a:α) | ex (c:Str) (x:List T) | no
noncomputable def Res.bind {α β:Type}:Res α->(α->Res β)->Res β
 | .ok a,f=>f a
 | .ex c x,_=>.ex c x
 | .no,_=>.no
noncomputable def ofO {α:Type}:Option α->Res α
 | some a=>.ok a
 | none=>.no
inductive Fl where
 | nx (η:Env) | rt (w:W) (η:Env) | bk (η:Env) | ex (c:Str) (x:List T) (η:Env) | no
noncomputable def truth:T->Option Bool
 | .non=>some false | .bl b=>some b | .int i=>some (i != 0) | .str x=>some (x.cps.size != 0) | .tup ts=>some (!ts.isEmpty) | .lst ts=>some (!ts.isEmpty) | .dct _ _=>none | .ins ..=>none | .scr ns=>some (!ns.isEmpty) | .gone=>none
noncomputable def b2i:Bool->Int
 | true=>1 | false=>0
mutual
noncomputable def eqT:T->T->Bool
 | .non,.non=>true
 | .bl a,.bl b=>a==b
 | .bl a,.int i=>b2i a==i
 | .int i,.bl a=>i==b2i a
 | .int i,.int j=>i==j
 | .str x,.str y=>x==y
 | .tup ts,.tup us=>eqTs ts us
 | .lst ts,.lst us=>eqTs ts us
 | _,_=>false
noncomputable def eqTs:List T->List T->Bool
 | [],[]=>true
 | t::ts,u::us=>eqT t u&&eqTs ts us
 | _,_=>false
end
mutual
noncomputable def dp:T->Nat
 | .tup ts=>dps ts+1
 | .lst ts=>dps ts+1
 | .scr _=>1000
 | .dct _ _=>1000
 | .ins _ _ _=>1000
 | .gone=>1000
 | _=>0
noncomputable def dps:List T->Nat
 | []=>0
 | t::ts=>max (dp t) (dps ts)
end
noncomputable def sOk (x:Str):Bool:=x.cps.all (· < 0x110000)&&decide (x.cps.size<=LIM)
noncomputable def ixN (n:Nat)(i:Int):Option Nat:=if 0<=i then (if i < n then some i.toNat else none) else if -(n:Int)<=i then some (i+n).toNat else none
noncomputable def atI {α:Type}(xs:List α)(i:Int):Option α:=(ixN xs.length i).bind fun j=>xs[j]?
noncomputable def sIx (n d:Nat):Option Int->Nat
 | none=>d
 | some i=>if i < 0 then (i+n).toNat else min i.toNat n
noncomputable def cut {α:Type}(xs:List α)(lo hi:Option Int):List α:=(xs.drop (sIx xs.length 0 lo)).take (sIx xs.length xs.length hi-sIx xs.length 0 lo)
noncomputable def T.ty:T->String
 | .non=>"NoneType" | .bl _=>"bool" | .int _=>"int" | .str _=>"str" | .tup _=>"tuple" | .lst _=>"list" | .dct ..=>"dict" | .ins ..=>"object" | .scr _=>"list" | .gone=>"gone"
noncomputable def isOne (c:String)(t:T):Bool:=t.ty==c || (t.ty=="bool"&&c=="int")
noncomputable def cm:List T->Option (List Int)
 | []=>some []
 | .int i::ts=>(cm ts).map (i::·)
 | _::_=>none
noncomputable def cK:List T->Option (List Bool)
 | []=>some []
 | .bl b::ts=>(cK ts).map (b::·)
 | _::_=>none
noncomputable def elems:W->Option (List T)
 | (_,.tup ts)=>some ts
 | (_,.lst ts)=>some ts
 | _=>none
noncomputable def flatT:T->Bool
 | .non | .bl _ | .int _ | .str _=>true
 | _=>false
noncomputable def iA:T->Bool
 | .str _=>true
 | _=>false
noncomputable def ik:T->Bool
 | .non | .bl _ | .int _ | .str _ | .lst _ | .tup _=>true
 | _=>false
noncomputable def uI (c:Nat):Nat:=if 65<=c/\c<=90 then c+32 else c
noncomputable def wm:List Int->Int
 | []=>0
 | [n]=>n
 | n::ns=>max n (wm ns)
noncomputable def vQ:List Int->Int
 | []=>0
 | [n]=>n
 | n::ns=>min n (vQ ns)
noncomputable def xk (x:Int):List Int->List Int
 | []=>[x]
 | y::ys=>if x<=y then x::y::ys else y::xk x ys
noncomputable def kd:List Int->List Int
 | []=>[]
 | x::xs=>xk x (kd xs)
noncomputable def strsOf:List T->Option (List Str)
 | []=>some []
 | .str x::ts=>(strsOf ts).map (x::·)
 | _::_=>none
noncomputable def xG (ks:List Str)(x:Str):List Str:=if ks.contains x then ks else ks++[x]
noncomputable def pQ (l:List Str):List Str:=l.foldl xG []
noncomputable def ltS (x y:Str):Bool:=decide (x.cps.toList < y.cps.toList)
noncomputable def insS (x:Str):List Str->List Str
 | []=>[x]
 | y::ys=>if ltS y x then y::insS x ys else x::y::ys
noncomputable def sortS:List Str->List Str
 | []=>[]
 | x::xs=>insS x (sortS xs)
noncomputable def spl (c:Nat):List Nat->List Nat->List (List Nat)
 | acc,[]=>[acc]
 | acc,x::xs=>if x=c then acc::spl c [] xs else spl c (acc++[x]) xs
noncomputable def ve (x:Str):List Str:=(spl 32 [] x.cps.toList).map fun l=>⟨l.toArray⟩
noncomputable def uS (l:List Nat):Nat:=l.foldl (fun a c=>a * 10+(c-48)) 0
noncomputable def tI (x:Str):Int:=match x.cps.toList with
 | 45::cs=>-((uS cs:Nat):Int)
 | cs=>((uS cs:Nat):Int)
noncomputable def vg (i:Int):Str:=Str.ofString (toString i)
noncomputable def uC:List T->List T->List T
 | t::ts,u::us=>.tup [t,u]::uC ts us
 | _,_=>[]
noncomputable def newL (h:Bool)(m:Md)(ts:List T):Option W:=if h then (if leaves ts then some (.d,.lst ts) else none) else some (m.up,.lst ts)
noncomputable def fits (n:Nat):Bool:=decide (n<=LIM)
noncomputable def oSem:Op->Bool->List W->Option W
 | .add,h,[(m,a),(n,b)]=>match a,b with
  | .int i,.int j=>some (.d,.int (i+j))
  | .str x,.str y=>if fits (x.cps.size+y.cps.size) then some (.d,.str (x++y)) else none
  | .lst ts,.lst us=>if fits (ts.length+us.length) then newL h (m.kid.meet n.kid) (ts++us) else none
  | .tup ts,.tup us=>if fits (ts.length+us.length)&&!ts.isEmpty then some (.s,.tup (ts++us)) else none
  | _,_=>none
 | .sub,_,[(_,.int i),(_,.int j)]=>some (.d,.int (i-j))
 | .mul,h,[(m,a),(_,b)]=>match a,b with
  | .int i,.int j=>if (decide (i.natAbs < 18446744073709551616)) || (decide (j.natAbs < 18446744073709551616)) then some (.d,.int (i * j)) else none
  | .lst ts,.int k=>if decide (k.natAbs < 4611686018427387904)&&fits (ts.length * k.toNat) then newL h .s (a0G k.toNat ts).flatten else none
  | _,_=>none
 | .fdiv,_,[(_,.int i),(_,.int j)]=>if decide (0 < j)&&decide (j < 1073741824) then some (.d,.int (i / j)) else none
 | .mod,_,[(_,.int i),(_,.int j)]=>if decide (0 < j) then some (.d,.int (i % j)) else none
 | .pow,_,[(_,.int i),(_,.int j)]=>if decide (0<=j)&&decide (j<=1000000)&&decide (i.natAbs < 18446744073709551616) then some (.d,.int (i ^ j.toNat)) else none
 | .fdivN,_,[(_,.int i),(_,.int j)]=>if (j != 0)&&decide (j.natAbs < 18446744073709551616) then some (.d,.int (i.fdiv j)) else none
 | .modN,_,[(_,.int i),(_,.int j)]=>if j != 0 then some (.d,.int (i.fmod j)) else none
 | .neg,_,[(_,.int i)]=>some (.d,.int (-i))
 | .eq,_,[(_,a),(_,b)]=>if decide (dp a<=64)&&decide (dp b<=64) then some (.d,.bl (eqT a b)) else none
 | .ne,_,[(_,a),(_,b)]=>if decide (dp a<=64)&&decide (dp b<=64) then some (.d,.bl (!eqT a b)) else none
 | .lt,_,[(_,.int i),(_,.int j)]=>some (.d,.bl (decide (i < j)))
 | .le,_,[(_,.int i),(_,.int j)]=>some (.d,.bl (decide (i<=j)))
 | .gt,_,[(_,.int i),(_,.int j)]=>some (.d,.bl (decide (j < i)))
 | .ge,_,[(_,.int i),(_,.int j)]=>some (.d,.bl (decide (j<=i)))
 | .is,_,[(_,a),(_,.non)]=>if a.isG then none else some (.d,.bl a.isN)
 | .isnot,_,[(_,a),(_,.non)]=>if a.isG then none else some (.d,.bl (!a.isN))
 | .ix,_,[(m,a),(_,.int i)]=>match a with
  | .lst ts=>(atI ts i).map fun t=>(m.kid,t)
  | .tup ts=>(atI ts i).map fun t=>(m.kid,t)
  | .str x=>(atI x.cps.toList i).map fun c=>(.d,.str ⟨#[c]⟩)
  | .scr ns=>(atI ns i).map fun n=>(.d,.int n)
  | _=>none
 | .sl,h,[(m,.lst ts)]=>newL h m.kid ts
 | .sl1,h,[(m,.lst ts),(_,.int i)]=>newL h m.kid (cut ts (some i) none)
 | .sl2,h,[(m,.lst ts),(_,.int i)]=>newL h m.kid (cut ts none (some i))
 | .sl3,h,[(m,.lst ts),(_,.int i),(_,.int j)]=>newL h m.kid (cut ts (some i) (some j))
 | .sl2,_,[(_,.scr ns),(_,.int i)]=>some (.d,.lst ((cut ns none (some i)).map T.int))
 | .sl1,_,[(_,.scr ns),(_,.int i)]=>some (.d,.lst ((cut ns (some i) none).map T.int))
 | .sl,_,[(_,.scr ns)]=>some (.d,.lst (ns.map T.int))
 | .sl1,_,[(_,.tup ts),(_,.int i)]=>some (.s,.tup (cut ts (some i) none))
 | .sl2,_,[(_,.tup ts),(_,.int i)]=>some (.s,.tup (cut ts none (some i)))
 | .sl3,_,[(_,.tup ts),(_,.int i),(_,.int j)]=>some (.s,.tup (cut ts (some i) (some j)))
 | .len,_,[(_,a)]=>match a with
  | .lst ts=>some (.d,.int ts.length)
  | .tup ts=>some (.d,.int ts.length)
  | .str x=>some (.d,.int x.cps.size)
  | .scr ns=>some (.d,.int ns.length)
  | _=>none
 | .isI cs,_,[(_,a)]=>if a.isG then none else some (.d,.bl (cs.any fun c=>isOne c a))
 | .list,h,[(m,a)]=>match a with
  | .lst ts=>newL h m.kid ts
  | .tup ts=>newL h m.kid ts
  | .scr ns=>some (.d,.lst (ns.map T.int))
  | _=>none
 | .tuple,_,[(m,a)]=>match a with
  | .lst ts=>some (m.kid.up,.tup ts)
  | .tup ts=>some (m,.tup ts)
  | _=>none
 | .sum,_,[(_,.lst ts)]=>(cm ts).map fun ns=>(.d,.int ns.sum)
 | .all,_,[(_,.lst ts)]=>(cK ts).map fun bs=>(.d,.bl (bs.all id))
 | .any,_,[(_,.lst ts)]=>(cK ts).map fun bs=>(.d,.bl (bs.any id))
 | .max,_,[(_,.int i),(_,.int j)]=>some (.d,.int (if j > i then j else i))
 | .min,_,[(_,.int i),(_,.int j)]=>some (.d,.int (if j < i then j else i))
 | .rng,_,[(_,.int i),(_,.int j)]=>if decide (i.natAbs < 4611686018427387904)&&decide (j.natAbs < 4611686018427387904)&&fits (j-i).toNat then some (.d,.lst ((a0P (j-i).toNat).map fun (k:Nat)=>T.int (i+k))) else none
 | .isin,_,[(_,a),(n,b)]=>(elems (n,b)).bind fun ts=>if flatT a&&ts.all flatT then some (.d,.bl (ts.any fun t=>eqT t a)) else none
 | .notin,_,[(_,a),(n,b)]=>(elems (n,b)).bind fun ts=>if flatT a&&ts.all flatT then some (.d,.bl (!ts.any fun t=>eqT t a)) else none
 | .int,_,[(_,.int i)]=>some (.d,.int i)
 | .int,_,[(_,.bl b)]=>some (.d,.int (b2i b))
 | .abs,_,[(_,.int i)]=>some (.d,.int i.natAbs)
 | .max1,_,[(_,.lst ts)]=>(cm ts).bind fun ns=>if ns.isEmpty then none else some (.d,.int (wm ns))
 | .min1,_,[(_,.lst ts)]=>(cm ts).bind fun ns=>if ns.isEmpty then none else some (.d,.int (vQ ns))
 | .sorted,_,[(_,.lst ts)]=>(cm ts).bind fun ns=>if decide (ns.length < 64) then some (.d,.lst ((kd ns).map T.int)) else none
 | .str,_,[(_,.int i)]=>if decide (i.natAbs < 10000000000000000000) then some (.d,.str (vg i)) else none
 | .intS,_,[(_,.str x)]=>if decide ((tI x).natAbs < 10000000000000000000)&&(vg (tI x)==x) then some (.d,.int (tI x)) else none
 | .join,_,[(_,.str z),(_,.lst ts)]=>(strsOf ts).bind fun ss=>if sOk (Str.join z ss)&&decide ((ss.map fun s=>s.cps.size+z.cps.size).sum<=LIM) then some (.d,.str (Str.join z ss)) else none
 | .split,_,[(_,.str z),(_,.str y)]=>if (y==Str.ofString " ")&&decide (z.cps.size+2<=LIM)&&(ve z).all sOk then some (.d,.lst ((ve z).map T.str)) else none
 | .mulS,_,[(_,.str x),(_,.int k)]=>if decide (0<=k)&&decide (k<=100)&&decide (x.cps.size<=1000) then some (.d,.str ⟨(a0G k.toNat x.cps.toList).flatten.toArray⟩) else none
 | .listS,_,[(_,.str x)]=>some (.d,.lst (x.cps.toList.map fun c=>T.str ⟨#[c]⟩))
 | .apd,_,[(m,.lst ts),(_,_)]=>if m==.s then none else if decide (ts.length < LIM) then some (.d,.non) else none
 | .count,_,[(_,.lst ts),(_,.bl b)]=>(cK ts).map fun bs=>(.d,.int (bs.count b))
 | .lower,_,[(_,.str x)]=>if x.cps.toList.all (fun c=>decide (c < 128)) then some (.d,.str ⟨x.cps.map uI⟩) else none
 | .inS,_,[(_,.str x),(_,.str y)]=>some (.d,.bl (!(a0J y x 0 y.length 1).isEmpty))
 | .ninS,_,[(_,.str x),(_,.str y)]=>some (.d,.bl (!(!(a0J y x 0 y.length 1).isEmpty)))
 | .inX,_,[(_,a),(_,.tup ts)]=>if ts.all iA&&ik a then some (.d,.bl (ts.any fun t=>eqT t a)) else none
 | .ninX,_,[(_,a),(_,.tup ts)]=>if ts.all iA&&ik a then some (.d,.bl (!ts.any fun t=>eqT t a)) else none
 | .catT,_,[(_,.tup ts),(_,.tup us)]=>if fits (ts.length+us.length) then some (.s,.tup (ts++us)) else none
 | .dnew,_,[]=>some (.d,.dct [] [])
 | .lenSet,_,[(_,.tup ts)]=>(strsOf ts).bind fun ss=>if decide (ss.length < 1000) then some (.d,.int (pQ ss).length) else none
 | .countS,_,[(_,.lst ts),(_,.str x)]=>(strsOf ts).bind fun ss=>some (.d,.int (ss.count x))
 | .sortedS,_,[(_,.lst ts)]=>(strsOf ts).bind fun ss=>if decide (ss.length < 64) then some (.d,.lst ((sortS ss).map T.str)) else none
 | .sortedD,_,[(_,.dct ks _)]=>if decide (ks.length < 64) then some (.d,.lst ((sortS ks).map T.str)) else none
 | .leS,_,[(_,.str x),(_,.str y)]=>some (.d,.bl (!decide (y.cps.toList < x.cps.toList)))
 | .isB,_,[(_,.bl a),(_,.bl b)]=>some (.d,.bl (a==b))
 | .isnB,_,[(_,.bl a),(_,.bl b)]=>some (.d,.bl (!(a==b)))
 | .lzip,_,[(m,a),(n,b)]=>(elems (m,a)).bind fun ts=>(elems (n,b)).bind fun us=>some ((m.kid.meet n.kid).up.up,.lst (uC ts us))
 | _,_,_=>none
noncomputable def rd:Env->Nat->Option W
 | [],_=>none
 | o::_,0=>o
 | _::η,i+1=>rd η i
noncomputable def wr:Env->Nat->Option W->Env
 | [],_,_=>[]
 | _::η,0,w=>w::η
 | o::η,i+1,w=>o::wr η i w
noncomputable abbrev put (η:Env)(i:Nat)(w:W):Env:=wr η i (some w)
noncomputable abbrev del (η:Env)(i:Nat):Env:=wr η i none
noncomputable def look:W->Option W
 | (.s,t)=>some (.s,t)
 | (_,t)=>if t.leaf=true then some (.d,t) else none
noncomputable def toS:Option W->Option W
 | some (_,t)=>some (.s,t)
 | none=>none
noncomputable def share:List Nat->Env->Env
 | [],η=>η
 | i::is,η=>share is (wr η i (toS (rd η i)))
noncomputable def lfO:Option W->Option W
 | some (_,t)=>if t.leaf=true then some (.d,t) else none
 | none=>none
noncomputable def cR:Env->Env
 | []=>[]
 | _::η=>none::cR η
noncomputable def g7:List Nat->Env->Env->Env
 | [],_,η=>η
 | i::is,η0,η=>g7 is η0 (wr η i (toS (rd η0 i)))
noncomputable def dm:List Nat->Env->Env->Env
 | [],_,η=>η
 | i::is,η0,η=>dm is η0 (wr η i (lfO (rd η0 i)))
noncomputable def pick (vs ls:List Nat)(η:Env):Env:=dm ls η (g7 vs η (cR η))
noncomputable def after (m:Md)(vs:List Nat)(η:Env):Env:=match m with
 | .d=>η
 | _=>share vs η
noncomputable def aZ:List Nat->List W->Env->Option Env
 | [],[],η=>some η
 | i::is,w::ws,η=>aZ is ws (put η i w)
 | _,_,_=>none
noncomputable def bg (m:Md):Nat->List T->List (List W)
 | _,[]=>[]
 | i,t::ts=>[(.d,.int i),(m,t)]::bg m (i+1) ts
noncomputable def wz (m n:Md):List T->List T->List (List W)
 | t::ts,u::us=>[(m,t),(n,u)]::wz m n ts us
 | _,_=>[]
noncomputable def kj:List T->Option (List (List W))
 | []=>some []
 | .tup [x,y]::ts=>(kj ts).map ([(.s,x),(.s,y)]::·)
 | _::_=>none
noncomputable def k0:List T->List T->List T->List (List W)
 | t::ts,u::us,v::vs=>[(.s,t),(.s,u),(.s,v)]::k0 ts us vs
 | _,_,_=>[]
noncomputable def aW:Ik->List W->Option (List (List W))
 | .seq,[(_,.lst ts)]=>some (ts.map fun t=>[(.s,t)])
 | .seq,[(_,.tup ts)]=>some (ts.map fun t=>[(.s,t)])
 | .seq,[(_,.scr ns)]=>some (ns.map fun n=>[(.d,.int n)])
 | .rng,[(_,.int n)]=>if decide (n.natAbs < 4611686018427387904)&&fits n.toNat then some ((a0P n.toNat).map fun (k:Nat)=>[(.d,.int k)]) else none
 | .rng,[(_,.int i),(_,.int j)]=>if decide (i.natAbs < 4611686018427387904)&&decide (j.natAbs < 4611686018427387904)&&fits (j-i).toNat then some ((a0P (j-i).toNat).map fun (k:Nat)=>[(.d,.int (i+k))]) else none
 | .enm,[(_,.lst ts)]=>some (bg .s 0 ts)
 | .enmT,[(_,.tup ts)]=>some (bg .s 0 ts)
 | .zip,[(m,a),(n,b)]=>(elems (m,a)).bind fun ts=>(elems (n,b)).bind fun us=>some (wz .s .s ts us)
 | .sq2,[(_,.lst ts)]=>kj ts
 | .zip3,[(_,.lst ts),(_,.lst us),(_,.lst vs)]=>some (k0 ts us vs)
 | .chr,[(_,.str x)]=>some (x.cps.toList.map fun c=>[(.d,.str ⟨#[c]⟩)])
 | _,_=>none
noncomputable abbrev Call:=Nat->List W->Res (W×List W)
noncomputable abbrev RE:=Res (W×Env)
noncomputable def lf (m:Md)(t:T):Md:=if t.leaf=true then .d else m
noncomputable def dC:List W->Md
 | []=>.d
 | w::ws=>(lf w.1 w.2).meet (dC ws)
noncomputable def trees:List W->List T
 | []=>[]
 | w::ws=>w.2::trees ws
noncomputable def aC:List Nat->Env->Env
 | [],η=>η
 | i::is,η=>aC is (del η i)
noncomputable def ios:List E->List Nat
 | []=>[]
 | .io i::es=>i::ios es
 | _::es=>ios es
noncomputable def putAll:List Nat->List W->Env->Env
 | i::is,w::ws,η=>putAll is ws (put η i w)
 | _,_,η=>η
noncomputable def eC:W->List W->Option (W×W)
 | (.s,_),_=>none
 | (m,.lst ts),[]=>(ts.getLast?).map fun t=>((m.kid,t),(m,.lst ts.dropLast))
 | (m,.lst (t::ts)),[(_,.int 0)]=>some ((m.kid,t),(m,.lst ts))
 | _,_=>none
noncomputable def dG:W->W->Option W
 | (.s,_),_=>none
 | (m,.lst ts),(n,t)=>if ts.length < LIM then some ((m.kid.meet (lf n t)).up,.lst (ts++[t])) else none
 | _,_=>none
noncomputable def dk:W->W->Option W
 | (.s,_),_=>none
 | (m,.lst ts),(n,.lst us)=>if ts.length+us.length<=LIM then some ((m.kid.meet n.kid).up,.lst (ts++us)) else none
 | _,_=>none
noncomputable def aK (k:Str)(t:T):List Str->List T->List Str×List T
 | [],_=>([k],[t])
 | y::ys,v::vs=>if y=k then (y::ys,t::vs) else ((y::(aK k t ys vs).1),(v::(aK k t ys vs).2))
 | y::ys,[]=>(y::ys,[])
noncomputable def cb:W->W->W->Option W
 | (.s,_),_,_=>none
 | (m,.dct ks vs),(_,.str k),(_,t)=>if decide (ks.length < LIM)&&flatT t then some (m,.dct (aK k t ks vs).1 (aK k t ks vs).2) else none
 | _,_,_=>none
noncomputable def cp:W->W->W->Option W
 | (.s,_),_,_=>none
 | (m,.lst ts),(_,.int j),(n,t)=>(ixN ts.length j).map fun k=>((m.kid.meet (lf n t)).up,.lst (ts.set k t))
 | _,_,_=>none
noncomputable def cC:Option W->Res Unit
 | some (_,.lst _)=>.ok ()
 | _=>.no
noncomputable def vx:W->Option (List W)
 | (m,.tup ts)=>some (ts.map fun t=>(m.kid,t))
 | _=>none
noncomputable def ret {α:Type}(η:Env)(o:Option α):Res (α×Env):=match o with
 | some a=>.ok (a,η)
 | none=>.no
noncomputable def onB {α:Type}:T->(Env->Res α)->(Env->Res α)->Env->Res α
 | .bl true,f,_,η=>f η
 | .bl false,_,g,η=>g η
 | _,_,_,_=>.no
noncomputable def onT {α:Type}(f g:Env->Res α)(p:W×Env):Res α:=match truth p.1.2 with
 | some true=>f p.2
 | some false=>g p.2
 | none=>.no
noncomputable def okW {α:Type}(a:α)(η:Env):Res (α×Env):=.ok (a,η)
noncomputable def gn (p:List W×Env):RE:=.ok (((dC p.1).up,.tup (trees p.1)),p.2)
noncomputable def k4 (h:Bool)(p:List W×Env):RE:=.ok ((if h then (dC p.1).up else .o .s,.lst (trees p.1)),p.2)
noncomputable def kWk (m:Md)(p:W×Env):RE:=ret p.2 (if m.le p.1.1 then some (m,p.1.2) else none)
noncomputable def kOp (o:Op)(h:Bool)(p:List W×Env):RE:=ret p.2 (oSem o h p.1)
noncomputable def lF (f:Env->RE)(p:W×Env):RE:=onT f (okW p.1) p
noncomputable def kOr (f:Env->RE)(p:W×Env):RE:=onT (okW p.1) f p
noncomputable def l8 (p:W×Env):RE:=ret p.2 ((truth p.1.2).map fun b=>(.d,.bl (!b)))
noncomputable def kC3 (q:Op)(y:W)(z:W×Env):RE:=ret z.2 (oSem q false [y,z.1])
noncomputable def iz {α β:Type}(f:Env->Res (α×Env))(k:α×Env->Res β)(η:Env):Res β:=(f η).bind k
noncomputable def kC2 (o q:Op)(fc:Env->RE)(x:W)(y:W×Env):RE:=(ret y.2 (oSem o false [x,y.1])).bind fun k=>onB k.1.2 (iz fc (kC3 q y.1)) (okW (.d,.bl false)) k.2
noncomputable def kC1 (o q:Op)(fb fc:Env->RE)(x:W×Env):RE:=(fb x.2).bind (kC2 o q fc x.1)
noncomputable def fo (is:List Nat)(η:Env)(r:W×List W):RE:=.ok (r.1,putAll is r.2 η)
noncomputable def dn (C:Call)(f:Nat)(is:List Nat)(p:List W×Env):RE:=(C f p.1).bind (fo is p.2)
noncomputable def iu (p:W×Env):Res (Option W×Env):=.ok (some p.1,p.2)
noncomputable def fK (f:Env->RE)(η:Env):Res (Option W×Env):=(f η).bind iu
noncomputable def lG (c f:Env->RE)(η:Env):Res (Option W×Env):=(c η).bind (onT (fK f) (okW none))
noncomputable def cx (tg:List Nat)(f:Env->Res (Option W×Env)):List (List W)->Env->List W->Res (List W×Env)
 | [],η,acc=>.ok (acc,η)
 | ws::r,η,acc=>(ofO (aZ tg ws η)).bind fun η1=>(f η1).bind fun p=>cx tg f r (aC tg p.2) (acc++p.1.toList)
noncomputable def okD (w:W):Bool:=w.1==.d || w.2.leaf
noncomputable def jt (h:Bool)(q:List W×Env):RE:=ret q.2 (if h then (if q.1.all okD then some (.d,.lst (trees q.1)) else none) else some (.o .s,.lst (trees q.1)))
noncomputable def c9 (h:Bool)(k:Ik)(tg:List Nat)(f:Env->Res (Option W×Env))(p:List W×Env):RE:=(ret (aC tg p.2) (aW k p.1)).bind fun t=>(cx tg f t.1 t.2 []).bind (jt h)
noncomputable def fS (f:Env->Res (List W×Env))(η:Env)(k:List W×Env->RE)(_:Unit):RE:=(f η).bind k
noncomputable def iZ (i:Nat)(p:List W×Env):RE:=(ofO ((rd p.2 i).bind fun w=>eC w p.1)).bind fun r=>.ok (r.1,put p.2 i r.2)
noncomputable def ic (w:W)(q:List W×Env):Res (List W×Env):=.ok (w::q.1,q.2)
noncomputable def aI (f:Env->Res (List W×Env))(p:W×Env):Res (List W×Env):=(f p.2).bind (ic p.1)
noncomputable def l0:List Nat->Md->T->Option (W×T)
 | [],m,t=>some ((m,t),.gone)
 | j::p,m,.lst ts=>(ts[j]?).bind fun t=>(l0 p m.kid t).map fun r=>(r.1,.lst (ts.set j r.2))
 | j::p,m,.tup ts=>(ts[j]?).bind fun t=>(l0 p m.kid t).map fun r=>(r.1,.tup (ts.set j r.2))
 | _::_,_,_=>none
noncomputable def p8 (p:List Nat)(w:W):Option (W×W):=(l0 p w.1 w.2).map fun r=>(r.1,(w.1,r.2))
noncomputable def vP (i:Nat)(η:Env)(r:W×W):RE:=.ok (r.1,put η i r.2)
noncomputable def gi {α:Type}(tab:List (Str×α))(f:α->Env->RE)(p:W×Env):RE:=match p.1.2 with
 | .str x=>match tab.lookup x with
  | some a=>f a p.2
  | none=>.no
 | _=>.no
noncomputable def kCT (C:Call)(fa:Env->Res (List W×Env))(is:List Nat)(j:Nat)(η:Env):RE:=(fa η).bind (dn C j is)
noncomputable def kIn (neg:Bool)(ks:List Str)(p:W×Env):RE:=match p.1.2 with
 | .str x=>.ok ((.d,.bl (ks.contains x != neg)),p.2)
 | _=>.no
noncomputable def okS (t:T)(η:Env):RE:=.ok ((.s,t),η)
noncomputable def kGet (tab:List (Str×T))(p:W×Env):RE:=match p.1.2 with
 | .str x=>.ok ((.s,(tab.lookup x).getD .non),p.2)
 | _=>.no
noncomputable def kX (vs:List Nat)(η:Env)(p:W×Env):RE:=.ok ((lf p.1.1 p.1.2,p.1.2),after (lf p.1.1 p.1.2) vs η)
noncomputable def kIo (i:Nat)(p:List W×Env):Res (List W×Env):=(ofO (rd p.2 i)).bind fun w=>.ok (w::p.1,del p.2 i)
section
variable (C:Call)
mutual
noncomputable def evE:E->Env->RE
 | .var i,η=>ret η ((rd η i).bind look)
 | .mv i,η=>ret (del η i) (rd η i)
 | .io i,η=>ret (del η i) (rd η i)
 | .cst t,η=>.ok ((.d,t),η)
 | .glb _ t,η=>.ok ((.s,t),η)
 | .tup es,η=>(evL es η).bind gn
 | .lst h es,η=>(evL es η).bind (k4 h)
 | .wk m e,η=>(evE e η).bind (kWk m)
 | .op o h es,η=>(evL es η).bind (kOp o h)
 | .and a b,η=>(evE a η).bind (lF (evE b))
 | .or a b,η=>(evE a η).bind (kOr (evE b))
 | .not a,η=>(evE a η).bind l8
 | .ifx c a b,η=>(evE c η).bind (onT (evE a) (evE b))
 | .chain o q a b c,η=>(evE a η).bind (kC1 o q (evE b) (evE c))
 | .call f es,η=>(evA es η).bind (dn C f (ios es))
 | .comp h k src tg none elt,η=>(evL src η).bind (c9 h k tg (fK (evE elt)))
 | .comp h k src tg (some c) elt,η=>(evL src η).bind (c9 h k tg (lG (evE c) (evE elt)))
 | .pop i es,η=>(cC (rd η i)).bind (fS (evL es) η (iZ i))
 | .lenV i,η=>ret η ((rd η i).bind fun w=>oSem .len false [w])
 | .tupA es,η=>(evA es η).bind gn
 | .qx vs ls e,η=>(evE e (pick vs ls η)).bind (kX vs η)
 | .mvP i p,η=>(ofO ((rd η i).bind (p8 p))).bind (vP i η)
 | .callT tab k es,η=>(evE k η).bind (gi tab (kCT C (evA es) (ios es)))
 | .inT neg ks e,η=>(evE e η).bind (kIn neg ks)
 | .ixT tab e,η=>(evE e η).bind (gi tab okS)
 | .getT tab e,η=>(evE e η).bind (kGet tab)
noncomputable def evL:List E->Env->Res (List W×Env)
 | [],η=>.ok ([],η)
 | e::es,η=>(evE e η).bind (aI (evL es))
noncomputable def evA:List E->Env->Res (List W×Env)
 | [],η=>.ok ([],η)
 | .io i::es,η=>(evA es η).bind (kIo i)
 | e::es,η=>(evE e η).bind (aI (evA es))
end
noncomputable def kT (η:Env)(p:W×Env):Res (Bool×Env):=ret η (truth p.1.2)
noncomputable def kT2 (p:W×Env):Res (Bool×Env):=ret p.2 (truth p.1.2)
noncomputable def evX:X->E->Env->RE
 | .q vs ls,e,η=>(evE C e (pick vs ls η)).bind (kX vs η)
 | .l vs,e,η=>evE C e (share vs η)
noncomputable def evT:X->E->Env->Res (Bool×Env)
 | .q vs ls,e,η=>(evE C e (pick vs ls η)).bind (kT η)
 | .l vs,e,η=>(evE C e (share vs η)).bind kT2
noncomputable def Fl.of {α:Type}(η:Env):Res α->(α->Fl)->Fl
 | .ok a,f=>f a
 | .ex c x,_=>.ex c x η
 | .no,_=>.no
noncomputable def Fl.seq:Fl->(Env->Fl)->Fl
 | .nx η,f=>f η
 | z,_=>z
noncomputable def Fl.turn:Fl->(Env->Fl)->Fl
 | .nx η,f=>f η
 | .bk η,_=>.nx η
 | z,_=>z
noncomputable def onF:Bool->(Env->Fl)->(Env->Fl)->Env->Fl
 | true,f,_,η=>f η
 | false,_,g,η=>g η
noncomputable def bA (tg:List Nat)(f:Env->Fl):List (List W)->Env->Fl
 | [],η=>.nx η
 | ws::r,η=>Fl.of η (ofO (aZ tg ws η)) fun η1=>Fl.turn (f η1) (bA tg f r)
noncomputable def kIf (f g:Env->Fl)(p:Bool×Env):Fl:=onF p.1 f g p.2
noncomputable def pW (f:Env->Fl)(g:Env->Fl)(η:Env):Fl:=Fl.turn (f η) g
noncomputable def rB (c:Env->Res (Bool×Env))(f:Env->Fl):Nat->Env->Fl
 | 0,_=>.no
 | n+1,η=>Fl.of η (c η) (kIf (pW f (rB c f n)) .nx)
noncomputable def vL:Nat:=1000000000000
noncomputable def nxO (η:Env):Option Env->Fl
 | some η=>.nx η
 | none=>.no
noncomputable def nP (i:Nat)(p:W×Env):Fl:=.nx (put p.2 i p.1)
noncomputable def qd (is:List Nat)(p:W×Env):Fl:=nxO p.2 ((vx p.1).bind fun ws=>aZ is ws p.2)
noncomputable def kz (i:Nat)(p:W×Env):Fl:=nxO p.2 (((rd p.2 i).bind fun w=>dG w p.1).map fun w=>put p.2 i w)
noncomputable def kx (i:Nat)(p:W×Env):Fl:=nxO p.2 (((rd p.2 i).bind fun w=>dk w p.1).map fun w=>put p.2 i w)
noncomputable def pL (i:Nat)(x:W)(q:W×Env):Fl:=nxO q.2 (((rd q.2 i).bind fun w=>cp w q.1 x).map fun w=>put q.2 i w)
noncomputable def gA (i:Nat)(x:W)(q:W×Env):Fl:=nxO q.2 (((rd q.2 i).bind fun w=>cb w q.1 x).map fun w=>put q.2 i w)
noncomputable def iC (i:Nat)(f:Env->RE)(η:Env)(p:W×Env):Fl:=Fl.of η (f p.2) (gA i p.1)
noncomputable def su (i:Nat)(f:Env->RE)(η:Env)(p:W×Env):Fl:=Fl.of η (f p.2) (pL i p.1)
noncomputable def gZ (f:Env->RE)(η:Env)(k:W×Env->Fl)(_:Unit):Fl:=Fl.of η (f η) k
noncomputable def kNx (p:W×Env):Fl:=.nx p.2
noncomputable def kRt (p:W×Env):Fl:=.rt p.1 p.2
noncomputable def hI (tg:List Nat)(f:Env->Fl)(t:List (List W)×Env):Fl:=bA tg f t.1 t.2
noncomputable def mK (vs:List Nat)(k:Ik)(tg:List Nat)(f:Env->Fl)(η:Env)(p:List W×Env):Fl:=Fl.of η (ret (share vs η) (aW k p.1)) (hI tg f)
noncomputable def wZ (k:Ik)(tg:List Nat)(f:Env->Fl)(p:List W×Env):Fl:=Fl.of p.2 (ret p.2 (aW k p.1)) (hI tg f)
mutual
noncomputable def evS:S->Env->Fl
 | .asg x i e,η=>Fl.of η (evX C x e η) (nP i)
 | .asgT x is e,η=>Fl.of η (evX C x e η) (qd is)
 | .setI x i k e,η=>Fl.of η (evX C x e η) (su i (evX C x k) η)
 | .setK x i k e,η=>Fl.of η (evX C x e η) (iC i (evX C x k) η)
 | .exp x e,η=>Fl.of η (evX C x e η) kNx
 | .app x i e,η=>Fl.of η (cC (rd η i)) (gZ (evX C x e) η (kz i))
 | .ext x i e,η=>Fl.of η (cC (rd η i)) (gZ (evX C x e) η (kx i))
 | .ret vs e,η=>Fl.of η (evE C e (share vs η)) kRt
 | .retN,η=>.rt (.d,.non) η
 | .ite x c a b,η=>Fl.of η (evT C x c η) (kIf (evSs a) (evSs b))
 | .forS vs ls k src tg body,η=>Fl.of η (evL C src (pick vs ls η)) (mK vs k tg (evSs body) η)
 | .forU k src tg body,η=>Fl.of η (evL C src η) (wZ k tg (evSs body))
 | .whl x c body,η=>rB (evT C x c) (evSs body) vL η
 | .brk,η=>.bk η
 | .pas,η=>.nx η
 | .stop,_=>.no
 | .tri body,η=>evSs body η
noncomputable def evSs:List S->Env->Fl
 | [],η=>.nx η
 | s::r,η=>Fl.seq (evS s η) (evSs r)
end
end
noncomputable def backs:List Nat->Env->Option (List W)
 | [],_=>some []
 | i::is,η=>(rd η i).bind fun w=>(backs is η).bind fun ws=>some (w::ws)
noncomputable def lE (w:W)(b:List W):Res (W×List W):=.ok (w,b)
noncomputable def Fl.out (io:List Nat):Fl->Res (W×List W)
 | .nx η=>(ofO (backs io η)).bind (lE (.d,.non))
 | .rt w η=>(ofO (backs io η)).bind (lE w)
 | .ex c x _=>.ex c x
 | _=>.no
noncomputable def runF (C:Call)(f:Fn)(ws:List W):Res (W×List W) :=
 if ws.length=f.ps then Fl.out f.io (evSs C f.body (ws.map some++a0G f.ns none)) else .no
noncomputable abbrev xC:=List Fn
noncomputable def qy (n:Nat):List W->Res (W×List W)
 | [(m,t)]=>if (lf m t==.d&&(decide (dp t<=n)&&decide (dp t<=64)))=true then .ok ((.d,.non),[]) else .no
 | _=>.no
noncomputable def pZ:List Nat->List T->List T
 | [],_=>[]
 | n::ns,ts=>.lst (ts.take n)::pZ ns (ts.drop n)
noncomputable def lC:List T->Option (List Nat)
 | []=>some []
 | .int (.ofNat n)::ts=>(lC ts).map (n::·)
 | _::_=>none
noncomputable def vt:List W->Res (W×List W)
 | [(_,.lst ls),(m,.lst ts)]=>(ofO (lC ls)).bind fun ns=>.ok ((m.kid.up.up,.lst (pZ ns ts)),[])
 | _=>.no
noncomputable def callR (P:xC)(s r:Nat):Nat->Call
 | 0=>fun _ _=>.no
 | n+1=>fun f ws=>if f=s then qy n ws else if f=r then vt ws else (ofO P[f]?).bind fun d=>runF (callR P s r n) d ws
noncomputable abbrev zf:Fn:={ ps:=0,ns:=0,io:=[],body:=[.stop] }
theorem rH (C:Call)(i:Nat)(η:Env):evE C (.var i) η=ret η ((rd η i).bind look):=rfl
theorem qr (C:Call)(i:Nat)(η:Env):evE C (.mv i) η=ret (del η i) (rd η i):=rfl
theorem rL (C:Call)(i:Nat)(η:Env):evE C (.io i) η=ret (del η i) (rd η i):=rfl
theorem rX (C:Call)(t:T)(η:Env):evE C (.cst t) η=.ok ((.d,t),η):=rfl
theorem qQ (C:Call)(es:List E)(η:Env):evE C (.tup es) η=(evL C es η).bind gn:=rfl
theorem qE (C:Call)(h:Bool)(es:List E)(η:Env):evE C (.lst h es) η=(evL C es η).bind (k4 h):=rfl
theorem sH (C:Call)(o:Op)(h:Bool)(es:List E)(η:Env):evE C (.op o h es) η=(evL C es η).bind (kOp o h):=rfl
theorem pf (C:Call)(a:E)(b:E)(η:Env):evE C (.and a b) η=(evE C a η).bind (lF (evE C b)):=rfl
theorem oM (C:Call)(a:E)(b:E)(η:Env):evE C (.or a b) η=(evE C a η).bind (kOr (evE C b)):=rfl
theorem mH (C:Call)(a:E)(η:Env):evE C (.not a) η=(evE C a η).bind l8:=rfl
theorem mY (C:Call)(c:E)(a:E)(b:E)(η:Env):evE C (.ifx c a b) η=(evE C c η).bind (onT (evE C a) (evE C b)):=rfl
theorem ml (C:Call)(o:Op)(q:Op)(a:E)(b:E)(c:E)(η:Env):evE C (.chain o q a b c) η=(evE C a η).bind (kC1 o q (evE C b) (evE C c)):=rfl
theorem nh (C:Call)(f:Nat)(es:List E)(η:Env):evE C (.call f es) η=(evA C es η).bind (dn C f (ios es)):=rfl
theorem ni (C:Call)(h:Bool)(k:Ik)(src:List E)(tg:List Nat)(elt:E)(η:Env):evE C (.comp h k src tg none elt) η=(evL C src η).bind (c9 h k tg (fK (evE C elt))):=rfl
theorem mm (C:Call)(h:Bool)(k:Ik)(src:List E)(tg:List Nat)(c:E)(elt:E)(η:Env):evE C (.comp h k src tg (some c) elt) η=(evL C src η).bind (c9 h k tg (lG (evE C c) (evE C elt))):=rfl
theorem og (C:Call)(i:Nat)(es:List E)(η:Env):evE C (.pop i es) η=(cC (rd η i)).bind (fS (evL C es) η (iZ i)):=rfl
theorem i9 (C:Call)(neg:Bool)(ks:List Str)(e:E)(η:Env):evE C (.inT neg ks e) η=(evE C e η).bind (kIn neg ks):=rfl
theorem gX (C:Call)(tab:List (Str×T))(e:E)(η:Env):evE C (.getT tab e) η=(evE C e η).bind (kGet tab):=rfl
theorem i0 (C:Call)(neg:Bool)(ks:List Str)(e:E)(es:List E)(η:Env):evA C (.inT neg ks e::es) η=(evE C (.inT neg ks e) η).bind (aI (evA C es)):=rfl
theorem gh (C:Call)(tab:List (Str×T))(e:E)(es:List E)(η:Env):evA C (.getT tab e::es) η=(evE C (.getT tab e) η).bind (aI (evA C es)):=rfl
theorem tF {α:Type}(tab:List (Str×α))(f:α->Env->RE)(m:Md)(x:Str)(η:Env):gi tab f ((m,.str x),η)=(match tab.lookup x with | some a=>f a η | none=>.no):=rfl
theorem t6 (h:Bool)(m n:Md)(ts:List T)(i:Int):oSem .sl2 h [(m,.lst ts),(n,.int i)]=newL h m.kid (cut ts none (some i)):=rfl
theorem r8 (h:Bool)(m n:Md)(ts:List T)(i:Int):oSem .sl1 h [(m,.lst ts),(n,.int i)]=newL h m.kid (cut ts (some i) none):=rfl
theorem wC (m:Md)(ts:List T):aW .enm [(m,.lst ts)]=some (bg .s 0 ts):=rfl
noncomputable def lkM:Md->Md
 | .s=>.s | _=>.d
theorem yg:lkM .s=.s:=rfl
theorem xY:lkM .d=.d:=rfl
theorem xt (m:Md):lkM (.o m)=.d:=rfl
theorem vI (m:Md)(i:Int):look (m,.int i)=some (lkM m,.int i):=by cases m<;>rfl
theorem vn (m:Md)(b:Bool):look (m,.bl b)=some (lkM m,.bl b):=by cases m<;>rfl
theorem uE (m:Md)(x:Str):look (m,.str x)=some (lkM m,.str x):=by cases m<;>rfl
theorem v7 (m:Md):look (m,.non)=some (lkM m,.non):=by cases m<;>rfl
theorem tM (m n k:Md)(ts us vs:List T):aW .zip3 [(m,.lst ts),(n,.lst us),(k,.lst vs)]=some (k0 ts us vs):=rfl
theorem xN (neg:Bool)(ks:List Str)(m:Md)(x:Str)(η:Env):kIn neg ks ((m,.str x),η)=.ok ((.d,.bl (ks.contains x != neg)),η):=rfl
theorem vd (tab:List (Str×T))(m:Md)(x:Str)(η:Env):kGet tab ((m,.str x),η)=.ok ((.s,(tab.lookup x).getD .non),η):=rfl
theorem gg (C:Call)(i:Nat)(η:Env):evE C (.lenV i) η=ret η ((rd η i).bind fun w=>oSem .len false [w]):=rfl
theorem gK (C:Call)(i:Nat)(es:List E)(η:Env):evA C (.lenV i::es) η=(evE C (.lenV i) η).bind (aI (evA C es)):=rfl
theorem rC (C:Call)(η:Env):evA C [] η=.ok ([],η):=rfl
theorem qI (C:Call)(i:Nat)(es:List E)(η:Env):evA C (.io i::es) η=(evA C es η).bind (kIo i):=rfl
theorem i3 (C:Call)(i:Nat)(es:List E)(η:Env):evA C (.var i::es) η=(evE C (.var i) η).bind (aI (evA C es)):=rfl
theorem kM (C:Call)(i:Nat)(es:List E)(η:Env):evA C (.mv i::es) η=(evE C (.mv i) η).bind (aI (evA C es)):=rfl
theorem jc (C:Call)(t:T)(es:List E)(η:Env):evA C (.cst t::es) η=(evE C (.cst t) η).bind (aI (evA C es)):=rfl
theorem jl (C:Call)(l:List E)(es:List E)(η:Env):evA C (.tup l::es) η=(evE C (.tup l) η).bind (aI (evA C es)):=rfl
theorem jf (C:Call)(h:Bool)(l:List E)(es:List E)(η:Env):evA C (.lst h l::es) η=(evE C (.lst h l) η).bind (aI (evA C es)):=rfl
theorem k7 (C:Call)(o:Op)(h:Bool)(l:List E)(es:List E)(η:Env):evA C (.op o h l::es) η=(evE C (.op o h l) η).bind (aI (evA C es)):=rfl
theorem iT (C:Call)(a b:E)(es:List E)(η:Env):evA C (.and a b::es) η=(evE C (.and a b) η).bind (aI (evA C es)):=rfl
theorem lJ (C:Call)(a b:E)(es:List E)(η:Env):evA C (.or a b::es) η=(evE C (.or a b) η).bind (aI (evA C es)):=rfl
theorem jh (C:Call)(a:E)(es:List E)(η:Env):evA C (.not a::es) η=(evE C (.not a) η).bind (aI (evA C es)):=rfl
theorem iV (C:Call)(c a b:E)(es:List E)(η:Env):evA C (.ifx c a b::es) η=(evE C (.ifx c a b) η).bind (aI (evA C es)):=rfl
theorem gQ (C:Call)(f:Nat)(l:List E)(es:List E)(η:Env):evA C (.call f l::es) η=(evE C (.call f l) η).bind (aI (evA C es)):=rfl
theorem i2 (C:Call)(i:Nat)(l:List E)(es:List E)(η:Env):evA C (.pop i l::es) η=(evE C (.pop i l) η).bind (aI (evA C es)):=rfl
theorem sJ {C:Call}{e:E}{es:List E}{η:Env}(he:∀ i,e≠.io i):evA C (e::es) η=(evE C e η).bind (aI (evA C es)):=by
 cases e with
 | io i=>exact absurd rfl (he i)
 | _=>rfl
theorem mO (C:Call)(η:Env):evL C ([]) η=.ok ([],η):=rfl
theorem oZ (C:Call)(e:E)(es:List E)(η:Env):evL C (e::es) η=(evE C e η).bind (aI (evL C es)):=rfl
theorem mX (C:Call)(x:X)(i:Nat)(e:E)(η:Env):evS C (.asg x i e) η=Fl.of η (evX C x e η) (nP i):=rfl
theorem pA (C:Call)(x:X)(is:List Nat)(e:E)(η:Env):evS C (.asgT x is e) η=Fl.of η (evX C x e η) (qd is):=rfl
theorem gp (C:Call)(x:X)(i:Nat)(k:E)(e:E)(η:Env):evS C (.setK x i k e) η=Fl.of η (evX C x e η) (iC i (evX C x k) η):=rfl
theorem oY (C:Call)(x:X)(i:Nat)(k:E)(e:E)(η:Env):evS C (.setI x i k e) η=Fl.of η (evX C x e η) (su i (evX C x k) η):=rfl
theorem oA (C:Call)(x:X)(e:E)(η:Env):evS C (.exp x e) η=Fl.of η (evX C x e η) kNx:=rfl
theorem nF (C:Call)(x:X)(i:Nat)(e:E)(η:Env):evS C (.app x i e) η=Fl.of η (cC (rd η i)) (gZ (evX C x e) η (kz i)):=rfl
theorem mE (C:Call)(x:X)(i:Nat)(e:E)(η:Env):evS C (.ext x i e) η=Fl.of η (cC (rd η i)) (gZ (evX C x e) η (kx i)):=rfl
theorem ng (C:Call)(vs:List Nat)(e:E)(η:Env):evS C (.ret vs e) η=Fl.of η (evE C e (share vs η)) kRt:=rfl
theorem nU (C:Call)(η:Env):evS C (.retN) η=.rt (.d,.non) η:=rfl
theorem oC (C:Call)(x:X)(c:E)(a:List S)(b:List S)(η:Env):evS C (.ite x c a b) η=Fl.of η (evT C x c η) (kIf (evSs C a) (evSs C b)):=rfl
theorem nJ (C:Call)(vs:List Nat)(ls:List Nat)(k:Ik)(src:List E)(tg:List Nat)(body:List S)(η:Env):evS C (.forS vs ls k src tg body) η=Fl.of η (evL C src (pick vs ls η)) (mK vs k tg (evSs C body) η):=rfl
theorem nM (C:Call)(x:X)(c:E)(body:List S)(η:Env):evS C (.whl x c body) η=rB (evT C x c) (evSs C body) vL η:=rfl
theorem nL (C:Call)(η:Env):evS C (.brk) η=.bk η:=rfl
theorem pd (C:Call)(η:Env):evS C (.pas) η=.nx η:=rfl
theorem lg (C:Call)(η:Env):evSs C ([]) η=.nx η:=rfl
theorem jZ (C:Call)(s:S)(r:List S)(η:Env):evSs C (s::r) η=Fl.seq (evS C s η) (evSs C r):=rfl
theorem nS (C:Call)(vs:List Nat)(ls:List Nat)(e:E)(η:Env):evX C (.q vs ls) e η=(evE C e (pick vs ls η)).bind (kX vs η):=rfl
theorem mB (C:Call)(vs:List Nat)(e:E)(η:Env):evX C (.l vs) e η=evE C e (share vs η):=rfl
theorem oH (C:Call)(vs:List Nat)(ls:List Nat)(e:E)(η:Env):evT C (.q vs ls) e η=(evE C e (pick vs ls η)).bind (kT η):=rfl
theorem nT (C:Call)(vs:List Nat)(e:E)(η:Env):evT C (.l vs) e η=(evE C e (share vs η)).bind kT2:=rfl
theorem qN {α β:Type}(a:α)(f:α->Res β):(Res.ok a).bind f=f a:=rfl
theorem xE {α:Type}(η:Env)(a:α)(f:α->Fl):Fl.of η (.ok a) f=f a:=rfl
theorem rk (η:Env)(f:Env->Fl):Fl.seq (.nx η) f=f η:=rfl
theorem sG (w:W)(η:Env)(f:Env->Fl):Fl.seq (.rt w η) f=.rt w η:=rfl
theorem qW (η:Env)(f:Env->Fl):Fl.seq (.bk η) f=.bk η:=rfl
theorem nN (η:Env)(f:Env->Fl):Fl.turn (.nx η) f=f η:=rfl
theorem oP (w:W)(η:Env)(f:Env->Fl):Fl.turn (.rt w η) f=.rt w η:=rfl
theorem oz (η:Env)(f:Env->Fl):Fl.turn (.bk η) f=.nx η:=rfl
theorem tK {α:Type}(f g:Env->Res α)(η:Env):onB (.bl true) f g η=f η:=rfl
theorem s9 {α:Type}(f g:Env->Res α)(η:Env):onB (.bl false) f g η=g η:=rfl
theorem qj {α:Type}(f g:Env->Res α)(m:Md)(b:Bool)(η:Env):onT f g ((m,.bl b),η)=onB (.bl b) f g η:=by cases b<;>rfl
theorem rR {α:Type}(f g:Env->Res α)(m:Md)(η:Env):onT f g ((m,.bl true),η)=f η:=rfl
theorem uh {α:Type}(f g:Env->Res α)(m:Md)(η:Env):onT f g ((m,.bl false),η)=g η:=rfl
theorem qk (f g:Env->Fl)(η:Env):onF true f g η=f η:=rfl
theorem uq (f g:Env->Fl)(η:Env):onF false f g η=g η:=rfl
theorem vv {α:Type}(a:α):ofO (some a)=.ok a:=rfl
theorem uW {α:Type}(η:Env)(a:α):ret η (some a)=.ok (a,η):=rfl
theorem u7 (o:Option W)(η:Env):rd (o::η) 0=o:=rfl
theorem uJ (o:Option W)(η:Env)(i:Nat):rd (o::η) (i+1)=rd η i:=rfl
theorem vf (o w:Option W)(η:Env):wr (o::η) 0 w=w::η:=rfl
theorem uQ (o w:Option W)(η:Env)(i:Nat):wr (o::η) (i+1) w=o::wr η i w:=rfl
theorem mG (t:T):look (.s,t)=some (.s,t):=rfl
theorem oJ (m:Md)(i:Int):(look (.d,.int i))=some (.d,.int i):=rfl
theorem mM (m:Md)(b:Bool):(look (.d,.bl b))=some (.d,.bl b):=rfl
theorem mS (x:Str):(look (.d,.str x))=some (.d,.str x):=rfl
theorem mw:(look (.d,.non))=some (.d,.non):=rfl
theorem u9 (m:Md)(t:T):toS (some (m,t))=some (.s,t):=rfl
theorem sY:toS none=none:=rfl
theorem lV (η:Env):share [] η=η:=rfl
theorem k6 (i:Nat)(is:List Nat)(η:Env):share (i::is) η=share is (wr η i (toS (rd η i))):=rfl
theorem kP:cR []=[]:=rfl
theorem lu (o:Option W)(η:Env):cR (o::η)=none::cR η:=rfl
theorem tD (vs ls:List Nat)(η:Env):pick vs ls η=dm ls η (g7 vs η (cR η)):=rfl
theorem m8 (η0 η:Env):g7 [] η0 η=η:=rfl
theorem nB (i:Nat)(is:List Nat)(η0 η:Env):g7 (i::is) η0 η=g7 is η0 (wr η i (toS (rd η0 i))):=rfl
theorem kW (η0 η:Env):dm [] η0 η=η:=rfl
theorem kg (i:Nat)(is:List Nat)(η0 η:Env):dm (i::is) η0 η=dm is η0 (wr η i (lfO (rd η0 i))):=rfl
theorem wV (m:Md)(i:Int):lfO (some (m,.int i))=some (.d,.int i):=rfl
theorem vN (m:Md)(b:Bool):lfO (some (m,.bl b))=some (.d,.bl b):=rfl
theorem wU (m:Md)(x:Str):lfO (some (m,.str x))=some (.d,.str x):=rfl
theorem wR (m:Md):lfO (some (m,.non))=some (.d,.non):=rfl
theorem kc (vs:List Nat)(η:Env):after .d vs η=η:=rfl
theorem l6 (vs:List Nat)(η:Env):after .s vs η=share vs η:=rfl
theorem lA (m:Md)(vs:List Nat)(η:Env):after (.o m) vs η=share vs η:=rfl
theorem ql (m:Md)(i:Int):lf m (.int i)=.d:=rfl
theorem tw (m:Md)(b:Bool):lf m (.bl b)=.d:=rfl
theorem tV (m:Md)(x:Str):lf m (.str x)=.d:=rfl
theorem qp (m:Md):lf m .non=.d:=rfl
theorem qV (m:Md)(ts:List T):lf m (.lst ts)=m:=rfl
theorem rn (m:Md)(ts:List T):lf m (.tup ts)=m:=rfl
theorem q0 (t:T):lf .d t=.d:=by unfold lf; split<;>rfl
theorem q4 (m:Md):Md.s.le m=true:=by cases m<;>rfl
theorem nV:Md.d.le .d=true:=rfl
theorem my (m:Md):(Md.o m).le .d=true:=rfl
theorem oT (m n:Md):(Md.o m).le (.o n)=m.le n:=rfl
theorem qC (h:Bool)(m n:Md)(i j:Int):oSem .add h [(m,.int i),(n,.int j)]=some (.d,.int (i+j)):=rfl
theorem jT (h:Bool)(m n:Md)(ts us:List T):oSem .add h [(m,.lst ts),(n,.lst us)]=if fits (ts.length+us.length) then newL h (m.kid.meet n.kid) (ts++us) else none:=rfl
theorem j7 (h:Bool)(m n:Md)(x y:Str):oSem .add h [(m,.str x),(n,.str y)]=if fits (x.cps.size+y.cps.size) then some (.d,.str (x++y)) else none:=rfl
theorem jD (h:Bool)(m n:Md)(ts us:List T):oSem .add h [(m,.tup ts),(n,.tup us)]=if fits (ts.length+us.length)&&!ts.isEmpty then some (.s,.tup (ts++us)) else none:=rfl
theorem xh (h:Bool)(m n:Md)(i j:Int):oSem .sub h [(m,.int i),(n,.int j)]=some (.d,.int (i-j)):=rfl
theorem ui (h:Bool)(m n:Md)(i j:Int):oSem .mul h [(m,.int i),(n,.int j)]=if (decide (i.natAbs < 18446744073709551616)) || (decide (j.natAbs < 18446744073709551616)) then some (.d,.int (i * j)) else none:=rfl
theorem ki (h:Bool)(m n:Md)(i j:Int):oSem .fdiv h [(m,.int i),(n,.int j)]=if decide (0 < j)&&decide (j < 1073741824) then some (.d,.int (i / j)) else none:=rfl
theorem p7 (h:Bool)(m n:Md)(i j:Int):oSem .mod h [(m,.int i),(n,.int j)]=if decide (0 < j) then some (.d,.int (i % j)) else none:=rfl
theorem qa (h:Bool)(m n:Md)(i j:Int):oSem .pow h [(m,.int i),(n,.int j)]=if decide (0<=j)&&decide (j<=1000000)&&decide (i.natAbs < 18446744073709551616) then some (.d,.int (i ^ j.toNat)) else none:=rfl
theorem uj (h:Bool)(m n:Md)(i j:Int):oSem .eq h [(m,.int i),(n,.int j)]=some (.d,.bl (i==j)):=rfl
theorem t9 (h:Bool)(m n:Md)(x y:Str):oSem .eq h [(m,.str x),(n,.str y)]=some (.d,.bl (x==y)):=rfl
theorem qL (h:Bool)(m n:Md)(a b:Bool):oSem .eq h [(m,.bl a),(n,.bl b)]=some (.d,.bl (a==b)):=rfl
theorem sU (h:Bool)(m n:Md)(i j:Int):oSem .ne h [(m,.int i),(n,.int j)]=some (.d,.bl (!(i==j))):=rfl
theorem rF (h:Bool)(m n:Md)(x y:Str):oSem .ne h [(m,.str x),(n,.str y)]=some (.d,.bl (!(x==y))):=rfl
theorem tT (h:Bool)(m n:Md)(a b:Bool):oSem .ne h [(m,.bl a),(n,.bl b)]=some (.d,.bl (!(a==b))):=rfl
theorem x2 (h:Bool)(m n:Md)(i j:Int):oSem .lt h [(m,.int i),(n,.int j)]=some (.d,.bl (decide (i < j))):=rfl
theorem xT (h:Bool)(m n:Md)(i j:Int):oSem .le h [(m,.int i),(n,.int j)]=some (.d,.bl (decide (i<=j))):=rfl
theorem x6 (h:Bool)(m n:Md)(i j:Int):oSem .gt h [(m,.int i),(n,.int j)]=some (.d,.bl (decide (j < i))):=rfl
theorem xU (h:Bool)(m n:Md)(i j:Int):oSem .ge h [(m,.int i),(n,.int j)]=some (.d,.bl (decide (j<=i))):=rfl
theorem vU (h:Bool)(m n:Md)(ts:List T)(i:Int):oSem .ix h [(m,.lst ts),(n,.int i)]=(atI ts i).map fun t=>(m.kid,t):=rfl
theorem vq (h:Bool)(m n:Md)(ts:List T)(i:Int):oSem .ix h [(m,.tup ts),(n,.int i)]=(atI ts i).map fun t=>(m.kid,t):=rfl
theorem rA (h:Bool)(m:Md)(ts:List T):oSem .len h [(m,.lst ts)]=some (.d,.int ts.length):=rfl
theorem uo (h:Bool)(m:Md)(ts:List T):oSem .len h [(m,.tup ts)]=some (.d,.int ts.length):=rfl
theorem qY (h:Bool)(m:Md)(ns:List Int):oSem .len h [(m,.scr ns)]=some (.d,.int ns.length):=rfl
theorem vy (h:Bool)(m n:Md)(ns:List Int)(i:Int):oSem .ix h [(m,.scr ns),(n,.int i)]=(atI ns i).map fun n=>(.d,.int n):=rfl
theorem vG (h:Bool)(m n:Md)(ns:List Int)(i:Int):oSem .sl2 h [(m,.scr ns),(n,.int i)]=some (.d,.lst ((cut ns none (some i)).map T.int)):=rfl
theorem rf (m:Md)(ns:List Int):lf m (.scr ns)=.d:=rfl
theorem wG (m:Md)(ns:List Int):lfO (some (m,.scr ns))=some (.d,.scr ns):=rfl
theorem oE (ns:List Int):look (.d,.scr ns)=some (.d,.scr ns):=rfl
theorem q8 (h:Bool)(m:Md)(x:Str):oSem .len h [(m,.str x)]=some (.d,.int x.cps.size):=rfl
theorem uH (cs:List String)(h:Bool)(m:Md)(a:T):oSem (.isI cs) h [(m,a)]=if a.isG then none else some (.d,.bl (cs.any fun c=>isOne c a)):=rfl
theorem vE:T.isG .non=false:=rfl
theorem yf (b:Bool):T.isG (.bl b)=false:=rfl
theorem uT (i:Int):T.isG (.int i)=false:=rfl
theorem va (x:Str):T.isG (.str x)=false:=rfl
theorem vZ (ts:List T):T.isG (.tup ts)=false:=rfl
theorem uF (ts:List T):T.isG (.lst ts)=false:=rfl
theorem ux (ns:List Int):T.isG (.scr ns)=false:=rfl
theorem w8:T.isN .non=true:=rfl
theorem x3 (b:Bool):T.isN (.bl b)=false:=rfl
theorem xa (i:Int):T.isN (.int i)=false:=rfl
theorem vp (x:Str):T.isN (.str x)=false:=rfl
theorem xb (ts:List T):T.isN (.tup ts)=false:=rfl
theorem uY (ts:List T):T.isN (.lst ts)=false:=rfl
theorem nD (h:Bool)(m:Md)(ts:List T):oSem .list h [(m,.lst ts)]=newL h m.kid ts:=rfl
theorem ny (h:Bool)(m:Md)(ts:List T):oSem .list h [(m,.tup ts)]=newL h m.kid ts:=rfl
theorem rQ (h:Bool)(m n:Md)(a:T)(ts:List T):oSem .isin h [(m,a),(n,.tup ts)]=if flatT a&&ts.all flatT then some (.d,.bl (ts.any fun t=>eqT t a)) else none:=rfl
theorem mq (h:Bool)(m n:Md)(a:T)(ts:List T):oSem .isin h [(m,a),(n,.lst ts)]=if flatT a&&ts.all flatT then some (.d,.bl (ts.any fun t=>eqT t a)) else none:=rfl
theorem nE (h:Bool)(m n:Md)(a:T)(ts:List T):oSem .notin h [(m,a),(n,.tup ts)]=if flatT a&&ts.all flatT then some (.d,.bl (!ts.any fun t=>eqT t a)) else none:=rfl
theorem mT (h:Bool)(m:Md)(x:Str):oSem .lower h [(m,.str x)]=if x.cps.toList.all (fun c=>decide (c < 128)) then some (.d,.str ⟨x.cps.map uI⟩) else none:=rfl
theorem vD (h:Bool)(m n:Md)(x y:Str):oSem .inS h [(m,.str x),(n,.str y)]=some (.d,.bl (!(a0J y x 0 y.length 1).isEmpty)):=rfl
theorem rg (h:Bool)(m n:Md)(x y:Str):oSem .ninS h [(m,.str x),(n,.str y)]=some (.d,.bl (!(!(a0J y x 0 y.length 1).isEmpty))):=rfl
theorem vV (h:Bool)(m n:Md)(a:T)(ts:List T):oSem .inX h [(m,a),(n,.tup ts)]=if ts.all iA&&ik a then some (.d,.bl (ts.any fun t=>eqT t a)) else none:=rfl
theorem sX (h:Bool)(m n:Md)(a:T)(ts:List T):oSem .ninX h [(m,a),(n,.tup ts)]=if ts.all iA&&ik a then some (.d,.bl (!ts.any fun t=>eqT t a)) else none:=rfl
theorem uM (h:Bool)(m n:Md)(x y:Str):oSem .leS h [(m,.str x),(n,.str y)]=some (.d,.bl (!decide (y.cps.toList < x.cps.toList))):=rfl
theorem sN (h:Bool)(m n:Md)(ts us:List T):oSem .catT h [(m,.tup ts),(n,.tup us)]=if fits (ts.length+us.length) then some (.s,.tup (ts++us)) else none:=rfl
theorem kD (h:Bool)(m:Md)(ts:List T):oSem .lenSet h [(m,.tup ts)]=(strsOf ts).bind fun ss=>if decide (ss.length < 1000) then some (.d,.int (pQ ss).length) else none:=rfl
theorem lH (h:Bool)(m n:Md)(ts:List T)(x:Str):oSem .countS h [(m,.lst ts),(n,.str x)]=(strsOf ts).bind fun ss=>some (.d,.int (ss.count x)):=rfl
theorem rJ (h:Bool):oSem .dnew h []=some (.d,.dct [] []):=rfl
theorem jz (h:Bool)(m:Md)(ts:List T):oSem .sortedS h [(m,.lst ts)]=(strsOf ts).bind fun ss=>if decide (ss.length < 64) then some (.d,.lst ((sortS ss).map T.str)) else none:=rfl
theorem jd (h:Bool)(m:Md)(ks:List Str)(vs:List T):oSem .sortedD h [(m,.dct ks vs)]=if decide (ks.length < 64) then some (.d,.lst ((sortS ks).map T.str)) else none:=rfl
theorem sv (m:Md)(ts:List T):aW .enmT [(m,.tup ts)]=some (bg .s 0 ts):=rfl
theorem u0 (m:Md)(x:Str):aW .chr [(m,.str x)]=some (x.cps.toList.map fun c=>[(.d,.str ⟨#[c]⟩)]):=rfl
theorem jS (h:Bool)(m n:Md)(a:T)(ts:List T):oSem .notin h [(m,a),(n,.lst ts)]=if flatT a&&ts.all flatT then some (.d,.bl (!ts.any fun t=>eqT t a)) else none:=rfl
theorem r6 (h:Bool)(m:Md)(b:Bool):oSem .int h [(m,.bl b)]=some (.d,.int (b2i b)):=rfl
theorem rS (h:Bool)(m:Md)(i:Int):oSem .int h [(m,.int i)]=some (.d,.int i):=rfl
theorem mh (h:Bool)(m:Md)(ts:List T):oSem .sorted h [(m,.lst ts)]=(cm ts).bind fun ns=>if decide (ns.length < 64) then some (.d,.lst ((kd ns).map T.int)) else none:=rfl
theorem oQ (h:Bool)(m n:Md)(i j:Int):oSem .fdivN h [(m,.int i),(n,.int j)]=if (j != 0)&&decide (j.natAbs < 18446744073709551616) then some (.d,.int (i.fdiv j)) else none:=rfl
theorem qX (h:Bool)(m n:Md)(i j:Int):oSem .modN h [(m,.int i),(n,.int j)]=if j != 0 then some (.d,.int (i.fmod j)) else none:=rfl
theorem tm (m:Md)(ts:List T):newL true m ts=if leaves ts then some (.d,.lst ts) else none:=rfl
theorem qo (m:Md)(ts:List T):newL false m ts=some (m.up,.lst ts):=rfl
theorem qt (m:Md)(ts:List T):aW .seq [(m,.lst ts)]=some (ts.map fun t=>[(.s,t)]):=rfl
theorem q9 (m:Md)(ts:List T):aW .seq [(m,.tup ts)]=some (ts.map fun t=>[(.s,t)]):=rfl
theorem ka (m:Md)(n:Int):aW .rng [(m,.int n)]=if decide (n.natAbs < 4611686018427387904)&&fits n.toNat then some ((a0P n.toNat).map fun (k:Nat)=>[(.d,.int k)]) else none:=rfl
theorem jF (η:Env):aZ [] [] η=some η:=rfl
theorem jI (i:Nat)(is:List Nat)(w:W)(ws:List W)(η:Env):aZ (i::is) (w::ws) η=aZ is ws (put η i w):=rfl
theorem v5 {α β:Type}(f:α->β)(a:α):(some a).map f=some (f a):=rfl
theorem ke (b:Bool):truth (.bl b)=some b:=rfl
theorem ly (i:Int):truth (.int i)=some (i != 0):=rfl
theorem ot {α β:Type}(a:α)(f:α->Option β):(some a).bind f=f a:=rfl
theorem mP:Md.s.kid=.s:=rfl
theorem mz:Md.d.kid=.d:=rfl
theorem nI (m:Md):(Md.o m).kid=m:=rfl
theorem qD:Md.s.up=.o .s:=rfl
theorem rl:Md.d.up=.d:=rfl
theorem ue (m:Md):(Md.o m).up=.o (.o m):=rfl
theorem kF (m:Md):Md.s.meet m=.s:=by cases m<;>rfl
theorem bY (m:Md):Md.d.meet m=m:=by cases m<;>rfl
theorem iP (m:Md):(Md.o m).meet .s=.s:=rfl
theorem jx (m:Md):(Md.o m).meet .d=.o m:=rfl
theorem jg (m n:Md):(Md.o m).meet (.o n)=.o (m.meet n):=rfl
theorem ti (n:Md)(ts:List T)(t:T):dG (.d,.lst ts) (n,t)=if ts.length < LIM then some ((lf n t).up,.lst (ts++[t])) else none:=by show (if _ then some ((Md.d.meet _).up,_) else none)=_; rw [bY]
theorem qF (m n:Md)(ts:List T)(t:T):dG (.o m,.lst ts) (n,t)=if ts.length < LIM then some ((m.meet (lf n t)).up,.lst (ts++[t])) else none:=rfl
theorem q5 (n:Md)(ts us:List T):dk (.d,.lst ts) (n,.lst us)=if ts.length+us.length<=LIM then some (n.kid.up,.lst (ts++us)) else none:=by show (if _ then some ((Md.d.meet _).up,_) else none)=_; rw [bY]
theorem tY (m n:Md)(ts us:List T):dk (.o m,.lst ts) (n,.lst us)=if ts.length+us.length<=LIM then some ((m.meet n.kid).up,.lst (ts++us)) else none:=rfl
theorem tP (l n:Md)(ts:List T)(t:T)(j:Int):cp (.d,.lst ts) (l,.int j) (n,t)=(ixN ts.length j).map fun k=>((lf n t).up,.lst (ts.set k t)):=by show ((ixN ts.length j).map fun k=>((Md.d.meet _).up,_))=_; rw [bY]
theorem qf (m l n:Md)(ts:List T)(t:T)(j:Int):cp (.o m,.lst ts) (l,.int j) (n,t)=(ixN ts.length j).map fun k=>((m.meet (lf n t)).up,.lst (ts.set k t)):=rfl
theorem rM (m:Md)(ts:List T):cC (some (m,.lst ts))=.ok ():=rfl
theorem rU (m:Md)(ts:List T):vx (m,.tup ts)=some (ts.map fun t=>(m.kid,t)):=rfl
theorem v8 (η η':Env):nxO η (some η')=.nx η':=rfl
theorem kO (η:Env):backs [] η=some []:=rfl
theorem j4 (i:Nat)(is:List Nat)(η:Env):backs (i::is) η=(rd η i).bind fun w=>(backs is η).bind fun ws=>some (w::ws):=rfl
theorem tS (io:List Nat)(η:Env):Fl.out io (.nx η)=(ofO (backs io η)).bind (lE (.d,.non)):=rfl
theorem tX (io:List Nat)(w:W)(η:Env):Fl.out io (.rt w η)=(ofO (backs io η)).bind (lE w):=rfl
theorem x_run (C:Call)(f:Fn)(ws:List W)(h:ws.length=f.ps):runF C f ws=Fl.out f.io (evSs C f.body (ws.map some++a0G f.ns none)):=if_pos h
theorem at0 {α:Type}(a:α)(l:List α):atI (a::l) 0=some a:=by simp [atI,ixN]
theorem atN {α:Type}{xs:List α}{i:Int}{n:Nat}{a:α}(hi:i=n)(h:xs[n]?=some a):atI xs i=some a:=by
 subst hi
 have:=(a0o.mp h).1
 rw [atI,ixN,if_pos (by omega),if_pos (by omega)]
 exact h
theorem at1 {α:Type}(a b:α)(l:List α):atI (a::b::l) 1=some b:=atN (n:=1) rfl rfl
theorem at2 {α:Type}(a b c:α)(l:List α):atI (a::b::c::l) 2=some c:=atN (n:=2) rfl rfl
theorem at3 {α:Type}(a b c d:α)(l:List α):atI (a::b::c::d::l) 3=some d:=atN (n:=3) rfl rfl
theorem at4 {α:Type}(a b c d e:α)(l:List α):atI (a::b::c::d::e::l) 4=some e:=atN (n:=4) rfl rfl
end M

namespace MR
open L2 L3 M
open PySem (Addr Str sizeLine)
noncomputable abbrev Fp:=Addr->Prop
noncomputable def ScrR (K:a0a)(H:Hp)(a:Addr)(ns:List Int):Prop:=(∃ o,H a=some (.frz o (.lst (ns.map V.int))))\/SqL K (fun _=>none) a (ns.map V.int)
theorem ScrR.sq {K:a0a}{H:Hp}{a:Addr}{ns:List Int}(h:ScrR K H a ns):SqL K H a (ns.map V.int):=by
 rcases h with ⟨o,h⟩ | ((h | ⟨o,h⟩) | h)
 ·exact .inl (.inr ⟨o,h⟩)
 ·cases h
 ·cases h
 ·exact .inr h
theorem ScrR.keep {K:a0a}{H H':Hp}{a:Addr}{ns:List Int}(s:∀ a o u,H a=some (.frz o u)->H' a=some (.frz o u))(h:ScrR K H a ns):ScrR K H' a ns:=h.imp (fun ⟨o,e⟩=>⟨o,s a o _ e⟩) id
noncomputable def LstR (K:a0a)(Z:Fp)(H:Hp)(G:Fp)(a:Addr)(xs:List V):Md->Prop
 | .s=>Z a/\H a=some (.lst xs)
 | _=>G a/\H a=some (.lst xs)
noncomputable def mkD (ks:List Str)(xs:List V):List (Key×V):=(ks.map a0L).zip xs
noncomputable def DctR (Z:Fp)(H:Hp)(G:Fp)(a:Addr)(o:HO):Md->Prop
 | .s=>Z a/\H a=some o
 | _=>G a/\H a=some o
noncomputable def dmd:Md->Md
 | .d=>.d
 | _=>.s
mutual
noncomputable def Rep (K:a0a)(Z:Fp)(H:Hp):Md->T->V->Fp->Prop
 | _,.non,v,_=>v=.non
 | _,.bl b,v,_=>v=.bl b
 | _,.int i,v,_=>v=.int i
 | _,.str x,v,_=>v=.str x/\sOk x=true
 | m,.tup ts,v,G=>∃ a xs,v=.ref a/\SqT K H a xs/\xs.length<=LIM/\RepL K Z H m.kid ts xs G
 | m,.lst ts,v,G=>∃ a xs,v=.ref a/\xs.length<=LIM/\LstR K Z H G a xs m/\RepL K Z H m.kid ts xs (fun b=>G b/\b≠a)
 | m,.dct ks vs,v,G=>∃ a xs,v=.ref a/\ks.length<=LIM/\DctR Z H G a (.dK (mkD ks xs)) m/\(ks.Nodup/\∀ k∈ks,sOk k=true)/\vs.length=ks.length/\RepL K Z H (dmd m) vs xs (fun _=>False)
 | _,.ins _ _ _,_,_=>False
 | _,.gone,_,_=>True
 | _,.scr ns,v,_=>∃ a,v=.ref a/\ns.length<=LIM/\ScrR K H a ns
noncomputable def RepL (K:a0a)(Z:Fp)(H:Hp):Md->List T->List V->Fp->Prop
 | _,[],xs,_=>xs=[]
 | m,t::ts,xs,G=>∃ x r G1 G2,xs=x::r/\(∀ a,G1 a->G a)/\(∀ a,G2 a->G a)/\(∀ a,G1 a->¬ G2 a)/\Rep K Z H m t x G1/\RepL K Z H m ts r G2
end
section
variable {K:a0a}{Z Z':Fp}{H H':Hp}{m:Md}{t:T}{ts:List T}{v:V}{xs:List V}{G G':Fp}
theorem LstR.mono {a:Addr}(w:∀ a,G a->G' a)(h:LstR K Z H G a xs m):LstR K Z H G' a xs m:=by
 cases m with
 | s=>exact h
 | d=>exact ⟨w _ h.1,h.2⟩
 | o m=>exact ⟨w _ h.1,h.2⟩
theorem DctR.mono {a:Addr}{o:HO}(w:∀ a,G a->G' a)(h:DctR Z H G a o m):DctR Z H G' a o m:=by
 cases m with
 | s=>exact h
 | d=>exact ⟨w _ h.1,h.2⟩
 | o m=>exact ⟨w _ h.1,h.2⟩
mutual
theorem Rep.mono:∀ {m:Md} {t:T} {v:V} {G G':Fp},(∀ a,G a->G' a)->Rep K Z H m t v G->Rep K Z H m t v G'
 | _,.non,_,_,_,_,h=>h
 | _,.bl _,_,_,_,_,h=>h
 | _,.int _,_,_,_,_,h=>h
 | _,.str _,_,_,_,_,h=>h
 | m,.tup ts,v,G,G',w,⟨a,xs,e,q,l,r⟩=>⟨a,xs,e,q,l,RepL.mono w r⟩
 | m,.lst ts,v,G,G',w,⟨a,xs,e,l,q,r⟩=>⟨a,xs,e,l,q.mono w,RepL.mono (fun b hb=>⟨w b hb.1,hb.2⟩) r⟩
 | m,.dct ks vs,v,G,G',w,⟨a,xs,e,l,q,n,hl,r⟩=>⟨a,xs,e,l,q.mono w,n,hl,r⟩
 | _,.ins _ _ _,_,_,_,_,h=>h.elim
 | _,.gone,_,_,_,_,h=>h
 | _,.scr _,_,_,_,_,h=>h
theorem RepL.mono:∀ {m:Md} {ts:List T} {xs:List V} {G G':Fp},(∀ a,G a->G' a)->RepL K Z H m ts xs G->RepL K Z H m ts xs G'
 | _,[],_,_,_,_,h=>h
 | m,t::ts,xs,G,G',w,⟨x,r,G1,G2,e,h1,h2,hd,p,q⟩=>⟨x,r,G1,G2,e,fun a ha=>w a (h1 a ha),fun a ha=>w a (h2 a ha),hd,p,q⟩
end
noncomputable def Stay (Z:Fp)(H H':Hp):Prop:=(∀ a o,Z a->H a=some o->H' a=some o)/\(∀ a xs,Rd H a (.tup xs)->Rd H' a (.tup xs))/\∀ a o u,H a=some (.frz o u)->H' a=some (.frz o u)
theorem Stay.sqt (s:Stay Z H H'){a:Addr}(h:SqT K H a xs):SqT K H' a xs:=by
 rcases h with h | h
 ·exact .inl (s.2.1 a xs h)
 ·exact .inr h
theorem LstR.keep {a:Addr}(s:Stay Z H H')(z:∀ a,Z a->Z' a)(g:∀ a o,G a->H a=some o->H' a=some o)(h:LstR K Z H G a xs m):LstR K Z' H' G a xs m:=by
 cases m with
 | s=>exact ⟨z _ h.1,s.1 _ _ h.1 h.2⟩
 | d=>exact ⟨h.1,g _ _ h.1 h.2⟩
 | o m=>exact ⟨h.1,g _ _ h.1 h.2⟩
theorem DctR.keep {a:Addr}{o:HO}(s:Stay Z H H')(z:∀ a,Z a->Z' a)(g:∀ a o,G a->H a=some o->H' a=some o)(h:DctR Z H G a o m):DctR Z' H' G a o m:=by
 cases m with
 | s=>exact ⟨z _ h.1,s.1 _ _ h.1 h.2⟩
 | d=>exact ⟨h.1,g _ _ h.1 h.2⟩
 | o m=>exact ⟨h.1,g _ _ h.1 h.2⟩
mutual
theorem Rep.keep (s:Stay Z H H')(z:∀ a,Z a->Z' a):∀ {m:Md} {t:T} {v:V} {G:Fp},(∀ a o,G a->H a=some o->H' a=some o)->Rep K Z H m t v G->Rep K Z' H' m t v G
 | _,.non,_,_,_,h=>h
 | _,.bl _,_,_,_,h=>h
 | _,.int _,_,_,_,h=>h
 | _,.str _,_,_,_,h=>h
 | m,.tup ts,v,G,g,⟨a,xs,e,q,l,r⟩=>⟨a,xs,e,s.sqt q,l,RepL.keep s z g r⟩
 | m,.lst ts,v,G,g,⟨a,xs,e,l,q,r⟩=>⟨a,xs,e,l,q.keep s z g,RepL.keep s z (fun b o hb=>g b o hb.1) r⟩
 | m,.dct ks vs,v,G,g,⟨a,xs,e,l,q,n,hl,r⟩=>⟨a,xs,e,l,q.keep s z g,n,hl,RepL.keep s z (fun _ _ hb=>hb.elim) r⟩
 | _,.ins _ _ _,_,_,_,h=>h.elim
 | _,.gone,_,_,_,h=>h
 | _,.scr _,_,_,_,⟨a,e,l,q⟩=>⟨a,e,l,q.keep s.2.2⟩
theorem RepL.keep (s:Stay Z H H')(z:∀ a,Z a->Z' a):∀ {m:Md} {ts:List T} {xs:List V} {G:Fp},(∀ a o,G a->H a=some o->H' a=some o)->RepL K Z H m ts xs G->RepL K Z' H' m ts xs G
 | _,[],_,_,_,h=>h
 | m,t::ts,xs,G,g,⟨x,r,G1,G2,e,h1,h2,hd,p,q⟩=>⟨x,r,G1,G2,e,h1,h2,hd,Rep.keep s z (fun a o ha=>g a o (h1 a ha)) p,RepL.keep s z (fun a o ha=>g a o (h2 a ha)) q⟩
end
theorem d4 (Z:Fp)(H:Hp):Stay Z H H:=⟨fun _ _ _ h=>h,fun _ _ h=>h,fun _ _ _ h=>h⟩
theorem Rep.zmono (z:∀ a,Z a->Z' a)(h:Rep K Z H m t v G):Rep K Z' H m t v G:=h.keep (d4 Z H) z fun _ _ _ q=>q
theorem RepL.zmono (z:∀ a,Z a->Z' a)(h:RepL K Z H m ts xs G):RepL K Z' H m ts xs G:=h.keep (d4 Z H) z fun _ _ _ q=>q
theorem RepL.length:∀ {ts:List T} {xs:List V} {G:Fp},RepL K Z H m ts xs G->xs.length=ts.length
 | [],_,_,h=>by rw [show _=[] from h]; rfl
 | _::_,_,_,⟨x,r,G1,G2,e,_,_,_,_,q⟩=>by rw [e,a0h,a0h,RepL.length q]
theorem RepL.get:∀ {ts:List T} {xs:List V} {G:Fp} {i:Nat} {t:T},RepL K Z H m ts xs G->ts[i]?=some t->∃ x,xs[i]?=some x/\Rep K Z H m t x G
 | [],_,_,_,_,_,e=>by simp at e
 | _::_,_,_,0,_,⟨x,r,G1,G2,e,h1,_,_,p,_⟩,e2=>by
  rw [a1b] at e2; cases e2
  exact ⟨x,by rw [e]; rfl,p.mono h1⟩
 | _::_,_,_,i+1,_,⟨x,r,G1,G2,e,_,h2,_,_,q⟩,e2=>by
  rw [a0z] at e2
  obtain ⟨y,hy,p⟩:=RepL.get q e2
  exact ⟨y,by rw [e,a0z]; exact hy,p.mono h2⟩
theorem RepL.append:∀ {ts us:List T} {xs ys:List V} {G1 G2 G:Fp},(∀ a,G1 a->G a)->(∀ a,G2 a->G a)->(∀ a,G1 a->¬ G2 a)->RepL K Z H m ts xs G1->RepL K Z H m us ys G2->RepL K Z H m (ts++us) (xs++ys) G
 | [],us,xs,ys,G1,G2,G,w1,w2,d,h,k=>by rw [show xs=[] from h]; exact k.mono w2
 | t::ts,us,xs,ys,G1,G2,G,w1,w2,d,⟨x,r,A,B,e,h1,h2,hd,p,q⟩,k=>by
  rw [e]
  refine ⟨x,r++ys,A,fun a=>B a\/G2 a,rfl,fun a ha=>w1 a (h1 a ha),fun a ha=>ha.elim (fun z=>w1 a (h2 a z)) (w2 a),fun a ha hb=>hb.elim (hd a ha) (d a (h1 a ha)),p,?_⟩
  exact RepL.append (fun a z=>.inl z) (fun a z=>.inr z) (fun a ha=>d a (h2 a ha)) q k
theorem RepL.one {x:V}(p:Rep K Z H m t x G):RepL K Z H m [t] [x] G:=⟨x,[],G,fun _=>False,rfl,fun _ h=>h,fun _ h=>h.elim,fun _ _ h=>h,p,rfl⟩
theorem RepL.take:∀ {ts:List T} {xs:List V} {G:Fp} (n:Nat),RepL K Z H m ts xs G->RepL K Z H m (ts.take n) (xs.take n) G
 | [],_,_,n,h=>by rw [show _=[] from h,a2t,a2t]; rfl
 | _::_,_,_,0,h=>rfl
 | _::_,_,_,n+1,⟨x,r,A,B,e,h1,h2,hd,p,q⟩=>by rw [e]; exact ⟨x,r.take n,A,B,rfl,h1,h2,hd,p,RepL.take n q⟩
theorem RepL.drop:∀ {ts:List T} {xs:List V} {G:Fp} (n:Nat),RepL K Z H m ts xs G->RepL K Z H m (ts.drop n) (xs.drop n) G
 | [],_,_,n,h=>by rw [show _=[] from h,a2u,a2u]; rfl
 | _::_,_,_,0,h=>h
 | _::_,_,_,n+1,⟨x,r,A,B,e,h1,h2,hd,p,q⟩=>by rw [e]; exact (RepL.drop n q).mono h2
theorem Rep.leaf {m':Md}(hs:∀ a o u,H a=some (.frz o u)->H' a=some (.frz o u))(hl:t.leaf=true)(h:Rep K Z H m t v G):Rep K Z' H' m' t v G':=by
 cases t with
 | non=>exact h
 | bl _=>exact h
 | int _=>exact h
 | str _=>exact h
 | scr _=>obtain ⟨a,e,l,q⟩:=h; exact ⟨a,e,l,q.keep hs⟩
 | _=>cases hl
theorem RepL.leaves {m':Md}(hs:∀ a o u,H a=some (.frz o u)->H' a=some (.frz o u)):∀ {ts:List T} {xs:List V} {G G':Fp},leaves ts=true->RepL K Z H m ts xs G->RepL K Z' H' m' ts xs G'
 | [],_,_,_,_,h=>h
 | t::ts,_,_,G',hl,⟨x,r,A,B,e,h1,h2,hd,p,q⟩=>by
  have h':(t.leaf&&ts.all T.leaf)=true:=hl
  rw [a0g] at h'
  exact ⟨x,r,fun _=>False,fun _=>False,e,fun _ z=>z.elim,fun _ z=>z.elim,fun _ z=>z.elim,p.leaf hs h'.1,RepL.leaves hs h'.2 q⟩
noncomputable def no:Fp:=fun _=>False
mutual
theorem Rep.sh:∀ {m:Md} {t:T} {v:V} {G:Fp},Rep K Z H m t v G->Rep K (fun a=>Z a\/G a) H .s t v no
 | _,.non,_,_,h=>h
 | _,.bl _,_,_,h=>h
 | _,.int _,_,_,h=>h
 | _,.str _,_,_,h=>h
 | m,.tup ts,v,G,⟨a,xs,e,q,l,r⟩=>⟨a,xs,e,q,l,RepL.sh r⟩
 | m,.lst ts,v,G,⟨a,xs,e,l,q,r⟩=>⟨a,xs,e,l,by
   cases m with
   | s=>exact ⟨.inl q.1,q.2⟩
   | d=>exact ⟨.inr q.1,q.2⟩
   | o m=>exact ⟨.inr q.1,q.2⟩,(RepL.zmono (fun b hb=>hb.elim .inl fun z=>.inr z.1) (RepL.sh r)).mono fun _ z=>z.elim⟩
 | m,.dct ks vs,v,G,⟨a,xs,e,l,q,n,hl,r⟩=>⟨a,xs,e,l,by
   cases m with
   | s=>exact ⟨.inl q.1,q.2⟩
   | d=>exact ⟨.inr q.1,q.2⟩
   | o m=>exact ⟨.inr q.1,q.2⟩,n,hl,RepL.zmono (fun b hb=>hb.elim .inl fun z=>z.elim) (RepL.sh r)⟩
 | _,.ins _ _ _,_,_,h=>h.elim
 | _,.gone,_,_,h=>h
 | _,.scr _,_,_,h=>h
theorem RepL.sh:∀ {m:Md} {ts:List T} {xs:List V} {G:Fp},RepL K Z H m ts xs G->RepL K (fun a=>Z a\/G a) H .s ts xs no
 | _,[],_,_,h=>h
 | m,t::ts,xs,G,⟨x,r,G1,G2,e,h1,h2,hd,p,q⟩=>⟨x,r,no,no,e,fun _ z=>z,fun _ z=>z,fun _ z _=>z,Rep.zmono (fun b hb=>hb.imp id (h1 b)) (Rep.sh p),RepL.zmono (fun b hb=>hb.imp id (h2 b)) (RepL.sh q)⟩
end
theorem xA:∀ a:Md,a.le .d=true
 | .s=>rfl | .d=>rfl | .o _=>rfl
theorem er:∀ a:Md,a.le a=true
 | .s=>rfl | .d=>rfl | .o a=>er a
theorem fP:∀ {a b c:Md},a.le b=true->b.le c=true->a.le c=true
 | .s,_,.s,_,_=>rfl
 | .s,_,.d,_,_=>rfl
 | .s,_,.o _,_,_=>rfl
 | .o a,.o b,.o c,h,k=>fP (a:=a) (b:=b) (c:=c) h k
 | .o a,.o b,.d,h,k=>rfl
 | .o a,.d,.d,h,k=>rfl
 | .d,.d,.d,_,_=>rfl
 | .d,.s,_,h,_=>by cases h
 | .d,.o _,_,h,_=>by cases h
 | .o _,.s,_,h,_=>by cases h
 | .o _,.o _,.s,_,k=>by cases k
 | .o _,.d,.s,_,k=>by cases k
 | .o _,.d,.o _,_,k=>by cases k
 | .d,.d,.s,_,k=>by cases k
 | .d,.d,.o _,_,k=>by cases k
theorem b5:∀ a b:Md,(a.meet b).le a=true/\(a.meet b).le b=true
 | .s,.s=>⟨rfl,rfl⟩
 | .s,.d=>⟨rfl,rfl⟩
 | .s,.o _=>⟨rfl,rfl⟩
 | .d,.s=>⟨rfl,rfl⟩
 | .d,.d=>⟨rfl,rfl⟩
 | .d,.o b=>⟨rfl,er b⟩
 | .o _,.s=>⟨rfl,rfl⟩
 | .o a,.d=>⟨er a,rfl⟩
 | .o a,.o b=>b5 a b
theorem kI:∀ {a b:Md},a.le b=true->a.kid.le b.kid=true
 | .s,.s,_=>rfl
 | .s,.d,_=>rfl
 | .s,.o _,_=>by first | rfl | exact (by cases ‹Md›<;>rfl)
 | .o a,.o b,h=>h
 | .o a,.d,_=>xA a
 | .d,.d,_=>rfl
 | .d,.s,h=>by cases h
 | .d,.o _,h=>by cases h
 | .o _,.s,h=>by cases h
theorem dh:∀ a:Md,a.up.kid=a
 | .s=>rfl | .d=>rfl | .o _=>rfl
theorem bE (a:Md):a.up≠.s:=by cases a<;>intro h<;>cases h
theorem LstR.own {a:Addr}(hm:m≠.s):LstR K Z H G a xs m ↔ G a/\H a=some (.lst xs):=by
 cases m with
 | s=>exact absurd rfl hm
 | d=>exact Iff.rfl
 | o m=>exact Iff.rfl
noncomputable abbrev bw (Z G G':Fp):Fp:=fun a=>Z a\/(G a/\¬ G' a)
mutual
theorem Rep.weak:∀ {m m':Md} {t:T} {v:V} {G:Fp},m'.le m=true->Rep K Z H m t v G->∃ G',(∀ a,G' a->G a)/\Rep K (bw Z G G') H m' t v G'
 | m,m',.non,_,G,_,h=>⟨G,fun _ z=>z,h⟩
 | m,m',.bl _,_,G,_,h=>⟨G,fun _ z=>z,h⟩
 | m,m',.int _,_,G,_,h=>⟨G,fun _ z=>z,h⟩
 | m,m',.str _,_,G,_,h=>⟨G,fun _ z=>z,h⟩
 | m,m',.scr _,_,G,_,h=>⟨G,fun _ z=>z,h⟩
 | m,m',.tup ts,v,G,hm,⟨a,xs,e,q,l,r⟩=>by
  obtain ⟨G',h1,h2⟩:=RepL.weak (kI hm) r
  exact ⟨G',h1,a,xs,e,q,l,h2⟩
 | m,m',.lst ts,v,G,hm,h=>by
  cases m' with
  | s=>exact ⟨no,fun _ z=>z.elim,(Rep.sh h).zmono fun a ha=>ha.imp id fun z=>⟨z,fun q=>q⟩⟩
  | d =>
   cases m with
   | s=>cases hm
   | o _=>cases hm
   | d=>exact ⟨G,fun _ z=>z,h.zmono fun _ z=>.inl z⟩
  | o k =>
   have hne:m≠.s:=by rintro rfl; cases hm
   obtain ⟨a,xs,e,l,q,r⟩:=h
   rw [LstR.own hne] at q
   obtain ⟨G',h1,h2⟩:=RepL.weak (kI hm) r
   refine ⟨fun b=>G' b\/b=a,fun b hb=>hb.elim (fun z=>(h1 b z).1) (fun z=>z ▸ q.1),a,xs,e,l,⟨.inr rfl,q.2⟩,?_⟩
   refine (h2.zmono fun b hb=>?_).mono fun b hb=>⟨.inl hb,(h1 b hb).2⟩
   rcases hb with z | ⟨⟨z1,z2⟩,z3⟩
   ·exact .inl z
   ·exact .inr ⟨z1,fun q=>q.elim z3 z2⟩
 | m,m',.dct ks vs,v,G,hm,h=>by
  cases m' with
  | s=>exact ⟨no,fun _ z=>z.elim,(Rep.sh h).zmono fun a ha=>ha.imp id fun z=>⟨z,fun q=>q⟩⟩
  | d =>
   cases m with
   | s=>cases hm
   | o _=>cases hm
   | d=>exact ⟨G,fun _ z=>z,h.zmono fun _ z=>.inl z⟩
  | o k =>
   obtain ⟨a,xs,e,l,q,n,hl,r⟩:=h
   cases m with
   | s=>cases hm
   | d=>exact ⟨G,fun _ z=>z,a,xs,e,l,q,n,hl,RepL.zmono (fun b hb=>hb.elim .inl fun z=>z.elim) (RepL.sh r)⟩
   | o k'=>exact ⟨G,fun _ z=>z,a,xs,e,l,q,n,hl,RepL.zmono (fun b hb=>.inl hb) r⟩
 | _,_,.ins _ _ _,_,_,_,h=>h.elim
 | m,m',.gone,_,G,_,h=>⟨G,fun _ z=>z,h⟩
theorem RepL.weak:∀ {m m':Md} {ts:List T} {xs:List V} {G:Fp},m'.le m=true->RepL K Z H m ts xs G->∃ G',(∀ a,G' a->G a)/\RepL K (bw Z G G') H m' ts xs G'
 | m,m',[],_,G,_,h=>⟨G,fun _ z=>z,h⟩
 | m,m',t::ts,xs,G,hm,⟨x,r,G1,G2,e,h1,h2,hd,p,q⟩=>by
  obtain ⟨A,a1,a2⟩:=Rep.weak hm p
  obtain ⟨B,b1,b2⟩:=RepL.weak hm q
  refine ⟨fun b=>A b\/B b,fun b hb=>hb.elim (fun z=>h1 b (a1 b z)) (fun z=>h2 b (b1 b z)),x,r,A,B,e,fun _ z=>.inl z,fun _ z=>.inr z,fun b za zb=>hd b (a1 b za) (b1 b zb),?_,?_⟩
  ·refine a2.zmono fun b hb=>hb.imp id fun z=>⟨h1 b z.1,fun q=>q.elim z.2 fun w=>hd b z.1 (b1 b w)⟩
  ·refine b2.zmono fun b hb=>hb.imp id fun z=>⟨h2 b z.1,fun q=>q.elim (fun w=>hd b (a1 b w) z.1) z.2⟩
end
noncomputable def RepW (K:a0a)(Z:Fp)(H:Hp):List W->List V->Fp->Prop
 | [],xs,_=>xs=[]
 | w::ws,xs,G=>∃ x r G1 G2,xs=x::r/\(∀ a,G1 a->G a)/\(∀ a,G2 a->G a)/\(∀ a,G1 a->¬ G2 a)/\Rep K Z H w.1 w.2 x G1/\RepW K Z H ws r G2
theorem RepW.length:∀ {ws:List W} {xs:List V} {G:Fp},RepW K Z H ws xs G->xs.length=ws.length
 | [],_,_,h=>by rw [show _=[] from h]; rfl
 | _::_,_,_,⟨x,r,G1,G2,e,_,_,_,_,q⟩=>by rw [e,a0h,a0h,RepW.length q]
theorem RepW.one {w:W}{x:V}(p:Rep K Z H w.1 w.2 x G):RepW K Z H [w] [x] G:=⟨x,[],G,no,rfl,fun _ h=>h,fun _ h=>h.elim,fun _ _ h=>h,p,rfl⟩
theorem dq:∀ {ws:List W} {w:W},w∈ws->(dC ws).le (lf w.1 w.2)=true
 | u::ws,w,h=>by
  rcases a0k.mp h with z | z
  ·subst z; exact (b5 _ _).1
  ·exact fP (b5 _ _).2 (dq z)
theorem Rep.lf (h:Rep K Z H m t v G):Rep K Z H (M.lf m t) t v G:=by
 unfold M.lf
 split
 ·rename_i hl; exact h.leaf (fun _ _ _ q=>q) hl
 ·exact h
theorem RepW.to {N:Md}:∀ {ws:List W} {xs:List V} {G:Fp},(∀ w∈ws,N.le (M.lf w.1 w.2)=true)->RepW K Z H ws xs G->∃ G',(∀ a,G' a->G a)/\RepL K (bw Z G G') H N (trees ws) xs G'
 | [],_,G,_,h=>⟨G,fun _ z=>z,h⟩
 | w::ws,xs,G,hm,⟨x,r,G1,G2,e,h1,h2,hd,p,q⟩=>by
  obtain ⟨A,a1,a2⟩:=Rep.weak (hm w a0d) p.lf
  obtain ⟨B,b1,b2⟩:=RepW.to (fun u hu=>hm u (a0f _ hu)) q
  refine ⟨fun b=>A b\/B b,fun b hb=>hb.elim (fun z=>h1 b (a1 b z)) (fun z=>h2 b (b1 b z)),x,r,A,B,e,fun _ z=>.inl z,fun _ z=>.inr z,fun b za zb=>hd b (a1 b za) (b1 b zb),?_,?_⟩
  ·refine a2.zmono fun b hb=>hb.imp id fun z=>⟨h1 b z.1,fun q=>q.elim z.2 fun w=>hd b z.1 (b1 b w)⟩
  ·refine b2.zmono fun b hb=>hb.imp id fun z=>⟨h2 b z.1,fun q=>q.elim (fun w=>hd b (a1 b w) z.1) z.2⟩
end
noncomputable def OO:=List V ⊕ List (Key×V)
noncomputable def OO.ho:OO->HO
 | .inl xs=>.lst xs
 | .inr kvs=>.dK kvs
noncomputable def Own (Z:Fp)(H:Hp)(F:Fp):Prop:=∀ a,F a->¬ Z a/\∃ xs:OO,H a=some xs.ho
theorem gz {xs:List V}{ys:OO}(e:some (HO.tup xs)=some ys.ho):False:=by cases ys<;>cases e
theorem eD {o:PySem.Obj}{u:HO}{ys:OO}(e:some (HO.frz o u)=some ys.ho):False:=by cases ys<;>cases e
structure Step (Z:Fp)(H:Hp)(F:Fp)(Z':Fp)(H':Hp)(F':Fp):Prop where
 keep:∀ a o,H a=some o->¬ F a->H' a=some o
 zm:∀ a,Z a->Z' a
 zn:∀ a,Z' a->Z a\/F a\/H a=none
 fn:∀ a,F' a->F a\/H a=none
 al:∀ a,H a≠none->H' a≠none
 za:(∀ a,Z a->H a≠none)->∀ a,Z' a->H' a≠none
section
variable {K:a0a}{Z Z1 Z2 Z':Fp}{H H1 H2 H':Hp}{F F1 F2 F' R G:Fp}
theorem Step.refl (Z:Fp)(H:Hp)(F:Fp):Step Z H F Z H F:=⟨fun _ _ h _=>h,fun _ h=>h,fun _ h=>.inl h,fun _ h=>.inl h,fun _ h=>h,fun z=>z⟩
theorem Step.trans (s:Step Z H F Z1 H1 F1)(t:Step Z1 H1 F1 Z2 H2 F2):Step Z H F Z2 H2 F2 where
 keep:=fun a o h n=>t.keep a o (s.keep a o h n) fun q=>(s.fn a q).elim n fun z=>by rw [h] at z; cases z
 zm:=fun a h=>t.zm a (s.zm a h)
 zn:=fun a h=>by
  rcases t.zn a h with q | q | q
  ·exact s.zn a q
  ·exact .inr (s.fn a q)
  ·exact .inr (.inr (by
    cases e:H a with
    | none=>rfl
    | some o=>exact absurd q (s.al a (by rw [e]; simp))))
 fn:=fun a h=>by
  rcases t.fn a h with q | q
  ·exact s.fn a q
  ·exact .inr (by
    cases e:H a with
    | none=>rfl
    | some o=>exact absurd q (s.al a (by rw [e]; simp)))
 al:=fun a h=>t.al a (s.al a h)
 za:=fun z=>t.za (s.za z)
theorem Step.frame (R:Fp)(s:Step Z H F Z' H' F'):Step Z H (fun a=>F a\/R a) Z' H' (fun a=>F' a\/R a) where
 keep:=fun a o h n=>s.keep a o h fun q=>n (.inl q)
 zm:=s.zm
 zn:=fun a h=>(s.zn a h).imp id fun q=>q.imp .inl id
 fn:=fun a h=>h.elim (fun q=>(s.fn a q).imp .inl id) fun q=>.inl (.inr q)
 al:=s.al
 za:=s.za
theorem Step.mono (s:Step Z H F Z' H' F')(h1:∀ a,F a->F1 a)(h2:∀ a,F2 a->F' a):Step Z H F1 Z' H' F2 where
 keep:=fun a o h n=>s.keep a o h fun q=>n (h1 a q)
 zm:=s.zm
 zn:=fun a h=>(s.zn a h).imp id fun q=>q.imp (h1 a) id
 fn:=fun a h=>(s.fn a (h2 a h)).imp (h1 a) id
 al:=s.al
 za:=s.za
theorem Own.stay (o:Own Z H F)(s:Step Z H F Z' H' F'):Stay Z H H':=by
 refine ⟨fun a u hz h=>s.keep a u h fun q=>(o a q).1 hz,fun a xs h=>?_,fun a u v h=>s.keep a _ h fun q=>?_⟩
 ·rcases h with h | ⟨u,h⟩
  ·refine .inl (s.keep a _ h fun q=>?_)
   obtain ⟨_,ys,e⟩:=o a q
   rw [h] at e; exact gz e
  ·refine .inr ⟨u,s.keep a _ h fun q=>?_⟩
   obtain ⟨_,ys,e⟩:=o a q
   rw [h] at e; exact eD e
 ·obtain ⟨_,ys,e⟩:=o a q
  rw [h] at e; exact eD e
theorem Rep.frame {m:Md}{t:T}{v:V}(o:Own Z H F)(s:Step Z H F Z' H' F')(d:∀ a,G a->¬ F a)(h:Rep K Z H m t v G):Rep K Z' H' m t v G:=h.keep (o.stay s) s.zm fun a u ha e=>s.keep a u e (d a ha)
theorem Own.frame (o:Own Z H G)(s:Step Z H F Z' H' F')(d:∀ a,G a->¬ F a):Own Z' H' G/\∀ a,G a->¬ F' a:=by
 refine ⟨fun a ha=>?_,fun a ha q=>?_⟩
 ·obtain ⟨nz,xs,e⟩:=o a ha
  refine ⟨fun q=>?_,xs,s.keep a _ e (d a ha)⟩
  rcases s.zn a q with z | z | z
  ·exact nz z
  ·exact d a ha z
  ·rw [e] at z; cases z
 ·obtain ⟨nz,xs,e⟩:=o a ha
  rcases s.fn a q with z | z
  ·exact d a ha z
  ·rw [e] at z; cases z
end
noncomputable abbrev Fps:=Nat->Fp
noncomputable def tot (Fs:Fps):Fp:=fun a=>∃ i,Fs i a
structure Gd (Z:Fp)(H:Hp)(Fs:Fps):Prop where
 own:Own Z H (tot Fs)
 dis:∀ i j a,Fs i a->Fs j a->i=j
 zal:∀ a,Z a->H a≠none
structure Cf where
 sl:Nat->Option Nat
 pv:Nat->Option V
noncomputable def xu (K:a0a)(sl:Cf)(Z:Fp)(H:Hp)(η:Env)(σ:L2.St)(Fs:Fps):Prop :=
 ∀ i m t,rd η i=some (m,t)->∃ v,Rep K Z H m t v (Fs i)/\(∀ j,sl.sl i=some j->σ[j]?=some (some v))/\∀ u,sl.pv i=some u->v=u
structure At (K:a0a)(sl:Cf)(σ:L2.St)(Z:Fp)(H:Hp)(Fs:Fps)(η:Env)(G:Fp):Prop where
 gd:Gd Z H Fs
 env:xu K sl Z H η σ Fs
 own:Own Z H G
 dis:∀ a,G a->¬ tot Fs a
 lk:∀ i u j,sl.pv i=some u->sl.sl i=some j->σ[j]?=some (some u)
 ln:∀ i j,sl.sl i=some j->j < σ.length
section
variable {K:a0a}{sl:Cf}{σ:L2.St}{Z Z':Fp}{H H':Hp}{Fs Fs':Fps}{η η':Env}{G G' R:Fp}
theorem At.frame (a:At K sl σ Z H Fs η R)(b:At K sl σ Z' H' Fs' η' G)(s:Step Z H (tot Fs) Z' H' (fun c=>tot Fs' c\/G c)) :
  At K sl σ Z' H' Fs' η' (fun c=>R c\/G c)/\Step Z H (fun c=>tot Fs c\/R c) Z' H' (fun c=>tot Fs' c\/(R c\/G c))/\∀ c,R c->¬ G c:=by
 have o:=a.own.frame s a.dis
 refine ⟨⟨b.gd,b.env,fun c hc=>hc.elim (o.1 c) (b.own c),fun c hc=>hc.elim (fun z q=>o.2 c z (.inl q)) (b.dis c),b.lk,b.ln⟩,(s.frame R).mono (fun _ z=>z) fun c hc=>?_,fun c z q=>o.2 c z (.inr q)⟩
 rcases hc with z | z | z
 ·exact .inl (.inl z)
 ·exact .inr z
 ·exact .inl (.inr z)
end
end MR
namespace MR
open L2 L3 M
open PySem (Addr Str sizeLine)
section
variable {K:a0a}{sl:Cf}{sf:Nat->Option Nat}{C:Call}{σ:L2.St}{Z Z' Z1:Fp}{H H' H1:Hp}{Fs Fs' Fs1:Fps}{η η' η1:Env}{G G' R F:Fp}
theorem At.mono (a:At K sl σ Z H Fs η G)(h:∀ c,G' c->G c):At K sl σ Z H Fs η G':=⟨a.gd,a.env,fun c hc=>a.own c (h c hc),fun c hc=>a.dis c (h c hc),a.lk,a.ln⟩
theorem At.bare (a:At K sl σ Z H Fs η G):At K sl σ Z H Fs η no:=a.mono fun _ z=>z.elim
noncomputable def wE (K:a0a)(sl:Nat->Option Nat)(C:Call)(e:E):TE:=fun σ H Q=>∃ pv Z Fs η w η',At K ⟨sl,pv⟩ σ Z H Fs η no/\evE C e η=.ok (w,η') /\
 ∀ v Z' H' Fs' G,At K ⟨sl,pv⟩ σ Z' H' Fs' η' G->Rep K Z' H' w.1 w.2 v G->Step Z H (tot Fs) Z' H' (fun a=>tot Fs' a\/G a)->Q v H'
noncomputable def wL (K:a0a)(sl:Nat->Option Nat)(C:Call)(es:List E):TA:=fun σ H Q=>∃ pv Z Fs η ws η',At K ⟨sl,pv⟩ σ Z H Fs η no/\evL C es η=.ok (ws,η') /\
 ∀ vs Z' H' Fs' G,At K ⟨sl,pv⟩ σ Z' H' Fs' η' G->RepW K Z' H' ws vs G->Step Z H (tot Fs) Z' H' (fun a=>tot Fs' a\/G a)->Q vs H'
theorem mD {e:E}{w:W}{Q:VK}(A:At K sl σ Z H Fs η R)(ev:evE C e η=.ok (w,η'))
  (k:∀ v Z' H' Fs' G,At K sl σ Z' H' Fs' η' (fun c=>R c\/G c)->Rep K Z' H' w.1 w.2 v G->(∀ c,R c->¬ G c)->Step Z H (tot Fs) Z' H' (fun a=>tot Fs' a\/G a) ->
   Step Z H (fun c=>tot Fs c\/R c) Z' H' (fun c=>tot Fs' c\/(R c\/G c))->Q v H'):wE K sl.sl C e σ H Q :=
 ⟨sl.pv,Z,Fs,η,w,η',A.bare,ev,fun v Z' H' Fs' G B r s=>by
  obtain ⟨h1,h2,h3⟩:=A.frame B s
  exact k v Z' H' Fs' G h1 r h3 s h2⟩
theorem xo {es:List E}{ws:List W}{Q:List V->Hp->Prop}(A:At K sl σ Z H Fs η R)(ev:evL C es η=.ok (ws,η'))
  (k:∀ vs Z' H' Fs' G,At K sl σ Z' H' Fs' η' (fun c=>R c\/G c)->RepW K Z' H' ws vs G->(∀ c,R c->¬ G c)->Step Z H (tot Fs) Z' H' (fun a=>tot Fs' a\/G a) ->
   Step Z H (fun c=>tot Fs c\/R c) Z' H' (fun c=>tot Fs' c\/(R c\/G c))->Q vs H'):wL K sl.sl C es σ H Q :=
 ⟨sl.pv,Z,Fs,η,ws,η',A.bare,ev,fun v Z' H' Fs' G B r s=>by
  obtain ⟨h1,h2,h3⟩:=A.frame B s
  exact k v Z' H' Fs' G h1 r h3 s h2⟩
theorem aa {α β:Type}{r:Res α}{f:α->Res β}{b:β}(h:r.bind f=.ok b):∃ a,r=.ok a/\f a=.ok b:=by
 cases r with
 | ok a=>exact ⟨a,rfl,h⟩
 | ex c x=>cases h
 | no=>cases h
theorem aq {α:Type}{η:Env}{o:Option α}{b:α×Env}(h:ret η o=.ok b):∃ a,o=some a/\b=(a,η):=by
 cases o with
 | none=>cases h
 | some a=>exact ⟨a,rfl,by cases h; rfl⟩
theorem bF {α:Type}{o:Option α}{b:α}(h:ofO o=.ok b):o=some b:=by
 cases o with
 | none=>cases h
 | some a=>cases h; rfl
theorem aG {e:E}{es:List E}{ws:List W}(h:evL C (e::es) η=.ok (ws,η')):∃ w η1 us,evE C e η=.ok (w,η1)/\evL C es η1=.ok (us,η')/\ws=w::us:=by
 obtain ⟨⟨w,η1⟩,h1,h2⟩:=aa (show (evE C e η).bind (aI (evL C es))=_ from h)
 obtain ⟨⟨us,η2⟩,h3,h4⟩:=aa (show (evL C es η1).bind (ic w)=_ from h2)
 cases h4
 exact ⟨w,η1,us,h1,h3,rfl⟩
theorem c7 {e:E}{es:List E}{ws:List W}(he:∀ i,e≠.io i)(h:evA C (e::es) η=.ok (ws,η')):∃ w η1 us,evE C e η=.ok (w,η1)/\evA C es η1=.ok (us,η')/\ws=w::us:=by
 rw [sJ he] at h
 obtain ⟨⟨w,η1⟩,h1,h2⟩:=aa h
 obtain ⟨⟨us,η2⟩,h3,h4⟩:=aa (show (evA C es η1).bind (ic w)=_ from h2)
 cases h4
 exact ⟨w,η1,us,h1,h3,rfl⟩
theorem eu {i:Nat}{es:List E}{ws:List W}(h:evA C (.io i::es) η=.ok (ws,η')):∃ us η1 w,evA C es η=.ok (us,η1)/\rd η1 i=some w/\ws=w::us/\η'=del η1 i:=by
 obtain ⟨⟨us,η1⟩,h1,h2⟩:=aa (show (evA C es η).bind (kIo i)=_ from h)
 obtain ⟨w,h3,h4⟩:=aa (show (ofO (rd η1 i)).bind (fun w=>.ok (w::us,del η1 i))=_ from h2)
 cases h4
 exact ⟨us,η1,w,h1,bF h3,rfl,rfl⟩
theorem vK (e:E):(∃ i,e=.io i)\/∀ i,e≠.io i:=by
 cases e with
 | io i=>exact .inl ⟨i,rfl⟩
 | _=>exact .inr fun _ z=>by cases z
theorem nO {e:E}{es:List E}(σ:L2.St)(H:Hp)(Q:List V->Hp->Prop)(h:wL K sf C (e::es) σ H Q):hJ (wE K sf C e) (wL K sf C es) σ H Q:=by
 obtain ⟨pv,Z,Fs,η,ws,η',A,ev,k⟩:=h
 obtain ⟨w,η1,us,h1,h2,rfl⟩:=aG ev
 refine mD A h1 fun x Z1 H1 Fs1 G1 A1 r1 _ s1 _=>?_
 have A1':=A1.mono (G':=G1) fun _ z=>.inr z
 refine xo A1' h2 fun xs Z2 H2 Fs2 G2 A2 r2 d2 s2 t2=>?_
 refine k (x::xs) Z2 H2 Fs2 _ A2 ⟨x,xs,G1,G2,rfl,fun _ z=>.inl z,fun _ z=>.inr z,d2,r1.frame A1.gd.own s2 A1'.dis,r2⟩ ?_
 exact s1.trans t2
theorem qm (σ:L2.St)(H:Hp)(Q:List V->Hp->Prop)(h:wL K sf C [] σ H Q):rG σ H Q:=by
 obtain ⟨pv,Z,Fs,η,ws,η',A,ev,k⟩:=h
 cases ev
 exact k [] Z H Fs no A rfl ((Step.refl _ _ _).mono (fun _ z=>z) fun a ha=>ha.elim id fun z=>z.elim)
noncomputable def Out (K:a0a)(Z:Fp)(H:Hp)(G:Fp)(w:W)(Q:VK):Prop:=∀ v Z' H' G',Rep K Z' H' w.1 w.2 v G'->Own Z' H' G'->Step Z H G Z' H' G'->Q v H'
theorem At.op (A:At K sl σ Z H Fs η G)(o:Own Z' H' G')(s:Step Z H G Z' H' G'):At K sl σ Z' H' Fs η G'/\Step Z H (fun c=>tot Fs c\/G c) Z' H' (fun c=>tot Fs c\/G' c):=by
 have d:∀ a,tot Fs a->¬ G a:=fun a h q=>A.dis a q h
 have f:=A.gd.own.frame s d
 refine ⟨⟨⟨f.1,A.gd.dis,s.za A.gd.zal⟩,fun i m t e=>?_,o,fun a ha q=>f.2 a q ha,A.lk,A.ln⟩,?_⟩
 ·obtain ⟨v,r,hv⟩:=A.env i m t e
  exact ⟨v,r.frame A.own s fun a ha=>d a ⟨i,ha⟩,hv⟩
 ·refine (s.frame (tot Fs)).mono (fun _ z=>z.symm) fun _ z=>z.symm
theorem bQ {w:W}{Q:VK}(A:At K sl σ Z1 H1 Fs1 η1 G)(s:Step Z H F Z1 H1 (fun a=>tot Fs1 a\/G a))
  (k:∀ v Z' H' Fs' G,At K sl σ Z' H' Fs' η1 G->Rep K Z' H' w.1 w.2 v G->Step Z H F Z' H' (fun a=>tot Fs' a\/G a)->Q v H'):Out K Z1 H1 G w Q:=fun v Z' H' G' r o t=>by
 obtain ⟨B,u⟩:=A.op o t
 exact k v Z' H' Fs1 G' B r (s.trans u)
noncomputable def Loc (K:a0a)(n:Nat)(o:Op)(h:Bool)(r:List V->Hp->VK->Prop):Prop:=∀ (ws:List W) (w:W) (xs:List V) (Z:Fp) (H:Hp) (G:Fp) (Q:VK),ws.length=n->oSem o h ws=some w->RepW K Z H ws xs G->Own Z H G->(∀ a,Z a->H a≠none)->Out K Z H G w Q->r xs H Q
theorem cq {o:Op}{h:Bool}{es:List E}{w:W}(e:evE C (.op o h es) η=.ok (w,η')):∃ ws,evL C es η=.ok (ws,η')/\oSem o h ws=some w:=by
 obtain ⟨⟨ws,η1⟩,h1,h2⟩:=aa (show (evL C es η).bind (kOp o h)=_ from e)
 obtain ⟨a,h3,h4⟩:=aq (show ret η1 (oSem o h ws)=_ from h2)
 cases h4
 exact ⟨ws,h1,h3⟩
theorem cI:∀ {es:List E} {η η':Env} {ws:List W},evL C es η=.ok (ws,η')->ws.length=es.length
 | [],_,_,_,h=>by cases h; rfl
 | e::es,_,_,_,h=>by
  obtain ⟨w,η1,us,_,h2,rfl⟩:=aG h
  rw [a0h,a0h,cI h2]
theorem ij {n:Nat}{o:Op}{h:Bool}{es:List E}{r:List V->Hp->VK->Prop}(l:Loc K n o h r)(hn:es.length=n)(σ:L2.St)(H:Hp)(Q:VK)(hw:wE K sf C (.op o h es) σ H Q):tCB r (wL K sf C es) σ H Q:=by
 obtain ⟨pv,Z,Fs,η,w,η',A,ev,k⟩:=hw
 obtain ⟨ws,h1,h2⟩:=cq ev
 exact ⟨pv,Z,Fs,η,ws,η',A,h1,fun vs Z' H' Fs' G B r s=>l ws w vs Z' H' G Q ((cI h1).trans hn) h2 r B.own B.gd.zal (bQ B s k)⟩
theorem aD {o:Op}{h:Bool}{a b:E}{r:R2}(l:Loc K 2 o h fun xs H Q=>∀ x y,xs=[x,y]->r x y H Q)(σ:L2.St)(H:Hp)(Q:VK)(hw:wE K sf C (.op o h [a,b]) σ H Q):tOp r (wE K sf C a) (wE K sf C b) σ H Q:=by
 obtain ⟨pv,Z,Fs,η,w,η',A,ev,k⟩:=hw
 obtain ⟨ws,h1,h2⟩:=cq ev
 obtain ⟨wa,η1,us,e1,e2,rfl⟩:=aG h1
 obtain ⟨wb,η2,us,e3,e4,rfl⟩:=aG e2
 cases e4
 refine mD A e1 fun x Z1 H1 Fs1 G1 A1 r1 _ s1 _=>?_
 have A1':=A1.mono (G':=G1) fun _ z=>.inr z
 refine mD A1' e3 fun y Z2 H2 Fs2 G2 A2 r2 d2 s2 t2=>?_
 exact l [wa,wb] w [x,y] Z2 H2 _ Q rfl h2 ⟨x,[y],G1,G2,rfl,fun _ z=>.inl z,fun _ z=>.inr z,d2,r1.frame A1.gd.own s2 A1'.dis,RepW.one r2⟩ A2.own A2.gd.zal (bQ A2 (s1.trans t2) k) x y rfl
theorem ba:Own Z H no:=fun _ z=>z.elim
theorem Step.drop:Step Z H G Z H no:=(Step.refl Z H G).mono (fun _ z=>z) fun _ z=>z.elim
section
variable {Q:VK}{m:Md}{ts:List T}{xs:List V}
theorem aJ {i:Int}(k:Out K Z H G (m,.int i) Q):Q (.int i) H:=k _ Z H no rfl ba .drop
theorem bV {b:Bool}(k:Out K Z H G (m,.bl b) Q):Q (.bl b) H:=k _ Z H no rfl ba .drop
theorem ip {x:Str}(k:Out K Z H G (m,.str x) Q)(h:sOk x=true):Q (.str x) H:=k _ Z H no ⟨rfl,h⟩ ba .drop
theorem fI {t:T}{v:V}(o:Own Z H G)(k:Out K Z H G (m,t) Q)(r:Rep K Z H m t v G):Q v H:=k v Z H G r o (.refl _ _ _)
theorem fG {p:Addr}{o:HO}(hp:H p=none):Stay Z H (upd H p o):=by
 have ne:∀ {a u},H a=some u->a≠p:=fun {a u} e z=>by subst z; rw [hp] at e; cases e
 refine ⟨fun a u _ e=>?_,fun a xs e=>?_,fun a u v e=>?_⟩
 ·rw [af (ne e)]; exact e
 ·rcases e with e | ⟨u,e⟩
  ·exact .inl (by rw [af (ne e)]; exact e)
  ·exact .inr ⟨u,by rw [af (ne e)]; exact e⟩
 ·rw [af (ne e)]; exact e
theorem dw {p:Addr}{o:HO}(hp:H p=none)(ow:Own Z H G)(hg:∀ a,G' a->G a\/a=p)(z:Fp)(hz:∀ a,Z a->z a)(hz':∀ a,z a->Z a\/G a):Step Z H G z (upd H p o) G':=by
 have ne:∀ {a u},H a=some u->a≠p:=fun {a u} e q=>by subst q; rw [hp] at e; cases e
 have al:∀ a,H a≠none->upd H p o a≠none:=fun a h=>by
  by_cases e:a=p
  ·rw [e,ai]; simp
  ·rw [af e]; exact h
 refine ⟨fun a u e _=>by rw [af (ne e)]; exact e,hz,fun a h=>(hz' a h).imp id .inl,fun a h=>(hg a h).imp id fun e=>by rw [e]; exact hp,al,fun q a h=>al a ?_⟩
 rcases hz' a h with c | c
 ·exact q a c
 ·obtain ⟨_,xs,e⟩:=ow a c
  rw [e]; simp
theorem aX {p:Addr}(ow:Own Z H G)(za:∀ a,Z a->H a≠none)(hg:∀ a,G' a->G a)(hl:xs.length<=LIM)(r:RepL K (bw Z G G') H m.kid ts xs G')(hm:m≠.s)(k:Out K Z H G (m,.lst ts) Q)(hp:H p=none):Q (.ref p) (upd H p (.lst xs)):=by
 have ne:∀ {a u},H a=some u->a≠p:=fun {a u} e q=>by subst q; rw [hp] at e; cases e
 have np:∀ a,G' a->a≠p:=fun a h=>by obtain ⟨_,ys,e⟩:=ow a (hg a h); exact ne e
 refine k _ (bw Z G G') _ (fun a=>G' a\/a=p) ⟨p,xs,rfl,hl,(LstR.own hm).mpr ⟨.inr rfl,ai⟩,?_⟩ ?_ (dw hp ow (fun a h=>h.imp (hg a) id) _ (fun a h=>.inl h) fun a h=>h.imp id a1P)
 ·refine (r.keep (fG hp) (fun _ z=>z) fun a u _ e=>by rw [af (ne e)]; exact e).mono fun a h=>⟨.inl h,np a h⟩
 ·rintro a (h | h)
  ·obtain ⟨nz,ys,e⟩:=ow a (hg a h)
   exact ⟨fun z=>z.elim nz fun q=>q.2 h,ys,by rw [af (ne e)]; exact e⟩
  ·subst h
   refine ⟨fun z=>z.elim (fun q=>za a q hp) fun q=>?_,.inl xs,ai⟩
   obtain ⟨_,ys,e⟩:=ow a q.1
   rw [hp] at e; cases e
theorem nX {p:Addr}(ow:Own Z H G)(hg:∀ a,G' a->G a)(hl:xs.length<=LIM)(r:RepL K (bw Z G G') H m.kid ts xs G')(k:Out K Z H G (m,.tup ts) Q)(hp:H p=none):Q (.ref p) (upd H p (.tup xs)):=by
 have ne:∀ {a u},H a=some u->a≠p:=fun {a u} e q=>by subst q; rw [hp] at e; cases e
 refine k _ (bw Z G G') _ G' ⟨p,xs,rfl,.inl (.inl ai),hl,?_⟩ ?_ (dw hp ow (fun a h=>.inl (hg a h)) _ (fun a h=>.inl h) fun a h=>h.imp id a1P)
 ·exact r.keep (fG hp) (fun _ z=>z) fun a u _ e=>by rw [af (ne e)]; exact e
 ·intro a h
  obtain ⟨nz,ys,e⟩:=ow a (hg a h)
  exact ⟨fun z=>z.elim nz fun q=>q.2 h,ys,by rw [af (ne e)]; exact e⟩
theorem cZ {v:V}{H':Hp}(ow:Own Z H G)(hg:∀ a,G' a->G a)(hl:xs.length<=LIM)(r:RepL K (bw Z G G') H m.kid ts xs G')(k:Out K Z H G (m,.tup ts) Q)(same:∀ b o,H b=some o->H' b=some o)(hv:∃ c,v=.ref c/\SqT K H' c xs):Q v H':=by
 obtain ⟨c,rfl,hs⟩:=hv
 have al:∀ a,H a≠none->H' a≠none:=fun a h=>by
  cases e:H a with
  | none=>exact absurd e h
  | some o=>rw [same a o e]; simp
 refine k _ (bw Z G G') _ G' ⟨c,xs,rfl,hs,hl,?_⟩ (fun a h=>?_) ⟨fun a o e _=>same a o e,fun a h=>.inl h,fun a h=>h.imp id fun q=>.inl q.1,fun a h=>.inl (hg a h),al,fun q a h=>al a ?_⟩
 ·refine r.keep ⟨fun a o _ e=>same a o e,fun a ys e=>?_,fun a o u e=>same a _ e⟩ (fun _ z=>z) fun a u _ e=>same a u e
  rcases e with e | ⟨u,e⟩
  ·exact .inl (same a _ e)
  ·exact .inr ⟨u,same a _ e⟩
 ·obtain ⟨nz,ys,e⟩:=ow a (hg a h)
  exact ⟨fun z=>z.elim nz fun q=>q.2 h,ys,same a _ e⟩
 ·rcases h with h | h
  ·exact q a h
  ·obtain ⟨_,ys,e⟩:=ow a h.1
   rw [e]; simp
theorem cf {p:Addr}{h:Bool}{w:W}(ow:Own Z H G)(za:∀ a,Z a->H a≠none)(hl:xs.length<=LIM)(r:∃ G',(∀ a,G' a->G a)/\RepL K (bw Z G G') H m ts xs G')(hn:newL h m ts=some w)(k:Out K Z H G w Q)(hp:H p=none):Q (.ref p) (upd H p (.lst xs)):=by
 obtain ⟨G',hg,r⟩:=r
 unfold newL at hn
 split at hn
 ·split at hn
  ·rename_i hlv
   cases hn
   refine aX (m:=.d) (G':=no) ow za (fun _ z=>z.elim) hl ?_ (by simp) k hp
   exact r.leaves (fun _ _ _ e=>e) hlv
  ·cases hn
 ·cases hn
  exact aX (m:=m.up) ow za hg hl (by rw [dh]; exact r) (bE m) k hp
end
end
end MR
namespace MR
open L2 L3 M
open PySem (Addr Str sizeLine)
section
variable {K:a0a}{h:Bool}
theorem dI {α β:Type}{ws:List α}{x y:β}(e:ws.length=[x,y].length):∃ a b,ws=[a,b]:=by
 match ws,e with
 | [a,b],_=>exact ⟨a,b,rfl⟩
theorem xJ {α β:Type}{ws:List α}{x:β}(e:ws.length=[x].length):∃ a,ws=[a]:=by
 match ws,e with
 | [a],_=>exact ⟨a,rfl⟩
theorem bO {Z:Fp}{H:Hp}{G:Fp}{u w:W}{x y:V}(r:RepW K Z H [u,w] [x,y] G):∃ G1 G2,(∀ a,G1 a->G a)/\(∀ a,G2 a->G a)/\(∀ a,G1 a->¬ G2 a)/\Rep K Z H u.1 u.2 x G1/\Rep K Z H w.1 w.2 y G2:=by
 obtain ⟨x',r',G1,G2,e,h1,h2,d,p,y',r2,G3,G4,e2,h3,h4,d2,q,z⟩:=r
 cases e; cases e2
 exact ⟨G1,G3,h1,fun a ha=>h2 a (h3 a ha),fun a ha hb=>d a ha (h3 a hb),p,q⟩
theorem xi {Z:Fp}{H:Hp}{G:Fp}{w:W}{x:V}(r:RepW K Z H [w] [x] G):Rep K Z H w.1 w.2 x G:=by
 obtain ⟨x',r',G1,G2,e,h1,h2,d,p,z⟩:=r
 cases e
 exact p.mono h1
theorem bu {ws:List W}{xs:List V}{Z:Fp}{H:Hp}{G:Fp}{w:W}(hw:ws=[w])(r:RepW K Z H ws xs G):∃ x,xs=[x]/\Rep K Z H w.1 w.2 x G:=by
 subst hw
 obtain ⟨x,hx⟩:=xJ (x:=()) (show xs.length=[()].length from r.length)
 subst hx
 exact ⟨x,rfl,xi r⟩
theorem k8 {n:Nat}(h:n<=LIM):n < sizeLine:=a10 h (by decide)
theorem aU {n:Nat}(h:n<=LIM):n<=sizeLine:=a1H (k8 h)
theorem bI {n:Nat}(h:fits n=true):n<=LIM:=of_decide_eq_true h
theorem jB {o:Op}{C:Int->Int->Prop}{g:Int->Int->T}(inv:∀ {u v w:W},oSem o h [u,v]=some w->∃ m n i j,u=(m,.int i)/\v=(n,.int j)/\C i j/\w=(.d,g i j))(gv:Int->Int->V)(hg:∀ {Z:Fp} {H:Hp} {G:Fp} {Q:VK} {i j:Int},Out K Z H G (.d,g i j) Q->Q (gv i j) H) :
  Loc K 2 o h fun xs H Q=>∀ x y,xs=[x,y]->rI C gv x y H Q:=by
 intro ws w xs Z H G Q hn e r ow za k x y hx
 subst hx
 obtain ⟨u,v,rfl⟩:=dI r.length.symm
 obtain ⟨m,n,i,j,rfl,rfl,c,rfl⟩:=inv e
 obtain ⟨G1,G2,_,_,_,r1,r2⟩:=bO r
 exact ⟨i,j,r1,r2,c,hg k⟩
theorem gU {o:Op}{g:Int->Int->T}(inv:∀ {u v w:W},oSem o h [u,v]=some w->∃ m n i j,u=(m,.int i)/\v=(n,.int j)/\w=(.d,g i j))(gv:Int->Int->V)(hg:∀ {Z:Fp} {H:Hp} {G:Fp} {Q:VK} {i j:Int},Out K Z H G (.d,g i j) Q->Q (gv i j) H) :
  Loc K 2 o h fun xs H Q=>∀ x y,xs=[x,y]->rI0 gv x y H Q:=by
 intro ws w xs Z H G Q hn e r ow za k x y hx
 subst hx
 obtain ⟨u,v,rfl⟩:=dI r.length.symm
 obtain ⟨m,n,i,j,rfl,rfl,rfl⟩:=inv e
 obtain ⟨G1,G2,_,_,_,r1,r2⟩:=bO r
 exact ⟨i,j,r1,r2,hg k⟩
theorem om {u v w:W}(e:oSem .sub h [u,v]=some w):∃ m n i j,u=(m,.int i)/\v=(n,.int j)/\w=(.d,.int (i-j)):=by
 obtain ⟨m,a⟩:=u; obtain ⟨n,b⟩:=v
 cases a<;>first | (cases e; done) | (cases b<;>first | (cases e; exact ⟨_,_,_,_,rfl,rfl,rfl⟩) | cases e)
theorem lN {u v w:W}(e:oSem .lt h [u,v]=some w):∃ m n i j,u=(m,.int i)/\v=(n,.int j)/\w=(.d,.bl (decide (i < j))):=by
 obtain ⟨m,a⟩:=u; obtain ⟨n,b⟩:=v
 cases a<;>first | (cases e; done) | (cases b<;>first | (cases e; exact ⟨_,_,_,_,rfl,rfl,rfl⟩) | cases e)
theorem l7 {u v w:W}(e:oSem .gt h [u,v]=some w):∃ m n i j,u=(m,.int i)/\v=(n,.int j)/\w=(.d,.bl (decide (j < i))):=by
 obtain ⟨m,a⟩:=u; obtain ⟨n,b⟩:=v
 cases a<;>first | (cases e; done) | (cases b<;>first | (cases e; exact ⟨_,_,_,_,rfl,rfl,rfl⟩) | cases e)
theorem lY {u v w:W}(e:oSem .fdiv h [u,v]=some w):∃ m n i j,u=(m,.int i)/\v=(n,.int j)/\rV i j/\w=(.d,.int (i / j)):=by
 obtain ⟨m,a⟩:=u; obtain ⟨n,b⟩:=v
 cases a<;>first | (cases e; done) | (cases b<;>try (cases e; done))
 rename_i i j
 rw [ki] at e
 split at e
 ·rename_i hc
  rw [a0g,decide_eq_true_eq,decide_eq_true_eq] at hc
  cases e
  exact ⟨_,_,_,_,rfl,rfl,hc,rfl⟩
 ·cases e
theorem oh {u v w:W}(e:oSem .mod h [u,v]=some w):∃ m n i j,u=(m,.int i)/\v=(n,.int j)/\(0 < j)/\w=(.d,.int (i % j)):=by
 obtain ⟨m,a⟩:=u; obtain ⟨n,b⟩:=v
 cases a<;>first | (cases e; done) | (cases b<;>try (cases e; done))
 rename_i i j
 rw [p7] at e
 split at e
 ·rename_i hc
  rw [decide_eq_true_eq] at hc
  cases e
  exact ⟨_,_,_,_,rfl,rfl,hc,rfl⟩
 ·cases e
theorem oV {u v w:W}(e:oSem .pow h [u,v]=some w):∃ m n i j,u=(m,.int i)/\v=(n,.int j)/\rE i j/\w=(.d,.int (i ^ j.toNat)):=by
 obtain ⟨m,a⟩:=u; obtain ⟨n,b⟩:=v
 cases a<;>first | (cases e; done) | (cases b<;>try (cases e; done))
 rename_i i j
 rw [qa] at e
 split at e
 ·rename_i hc
  rw [a0g,a0g,decide_eq_true_eq,decide_eq_true_eq,decide_eq_true_eq] at hc
  cases e
  exact ⟨_,_,_,_,rfl,rfl,⟨hc.1.1,hc.1.2,hc.2⟩,rfl⟩
 ·cases e
theorem o9:Loc K 2 .sub h fun xs H Q=>∀ x y,xs=[x,y]->rI0 (fun i j=>.int (i-j)) x y H Q:=gU om _ fun k=>aJ k
theorem qA:Loc K 2 .lt h fun xs H Q=>∀ x y,xs=[x,y]->rI0 (fun i j=>.bl (decide (i < j))) x y H Q:=gU lN _ fun k=>bV k
theorem kf:Loc K 2 .gt h fun xs H Q=>∀ x y,xs=[x,y]->rI0 (fun i j=>.bl (decide (j < i))) x y H Q:=gU l7 _ fun k=>bV k
theorem jV:Loc K 2 .fdiv h fun xs H Q=>∀ x y,xs=[x,y]->rI rV (fun i j=>.int (i / j)) x y H Q:=jB lY _ fun k=>aJ k
theorem n4:Loc K 2 .mod h fun xs H Q=>∀ x y,xs=[x,y]->rI (fun _ j=>0 < j) (fun i j=>.int (i % j)) x y H Q:=jB oh _ fun k=>aJ k
theorem oG:Loc K 2 .pow h fun xs H Q=>∀ x y,xs=[x,y]->rI rE (fun i j=>.int (i ^ j.toNat)) x y H Q:=jB oV _ fun k=>aJ k
theorem aS {Z:Fp}{H:Hp}{G:Fp}{m:Md}{ts:List T}{v:V}(r:Rep K Z H m (.lst ts) v G):∃ a xs,v=.ref a/\H a=some (.lst xs)/\xs.length<=LIM/\RepL K Z H m.kid ts xs G:=by
 obtain ⟨a,xs,e,l,q,p⟩:=r
 exact ⟨a,xs,e,by cases m<;>exact q.2,l,p.mono fun _ z=>z.1⟩
theorem bb {Z:Fp}{H:Hp}{G:Fp}{m:Md}{ts:List T}{v:V}(r:Rep K Z H m (.tup ts) v G):∃ a xs,v=.ref a/\SqT K H a xs/\xs.length<=LIM/\RepL K Z H m.kid ts xs G:=r
theorem da {Z:Fp}{H:Hp}{G G1 G2:Fp}{m n:Md}{ts us:List T}{xs ys:List V}(w1:∀ a,G1 a->G a)(w2:∀ a,G2 a->G a)(d:∀ a,G1 a->¬ G2 a)(r1:RepL K Z H m ts xs G1)(r2:RepL K Z H n us ys G2) :
  ∃ G',(∀ a,G' a->G a)/\RepL K (bw Z G G') H (m.meet n) (ts++us) (xs++ys) G':=by
 obtain ⟨A,a1,a2⟩:=RepL.weak (b5 m n).1 r1
 obtain ⟨B,b1,b2⟩:=RepL.weak (b5 m n).2 r2
 refine ⟨fun b=>A b\/B b,fun b hb=>hb.elim (fun z=>w1 b (a1 b z)) fun z=>w2 b (b1 b z),RepL.append (fun _ z=>.inl z) (fun _ z=>.inr z) (fun b za zb=>d b (a1 b za) (b1 b zb)) (a2.zmono fun b hb=>?_) (b2.zmono fun b hb=>?_)⟩
 ·exact hb.imp id fun z=>⟨w1 b z.1,fun q=>q.elim z.2 fun w=>d b z.1 (b1 b w)⟩
 ·exact hb.imp id fun z=>⟨w2 b z.1,fun q=>q.elim (fun w=>d b (a1 b w) z.1) z.2⟩
theorem nr {p q:Str}(h1:sOk p=true)(h2:sOk q=true)(hl:p.cps.size+q.cps.size<=LIM):sOk (p++q)=true:=by
 unfold sOk at *
 rw [a0g] at *
 refine ⟨?_,decide_eq_true ?_⟩
 ·show Array.all (p.cps++q.cps) _=true
  rw [Array.all_append,a0g]
  exact ⟨h1.1,h2.1⟩
 ·show (p.cps++q.cps).size<=LIM
  rw [Array.size_append]
  exact hl
theorem oa (rT:R2)(hT:∀ {Z:Fp} {H:Hp} {G:Fp} {Q:VK} {a b:Addr} {xs ys:List V} {ts:List T},SqT K H a xs->SqT K H b ys->xs≠[]->xs.length+ys.length<=LIM->Own Z H G->(∃ G',(∀ a,G' a->G a)/\RepL K (bw Z G G') H .s ts (xs++ys) G')->Out K Z H G (.s,.tup ts) Q->rT (.ref a) (.ref b) H Q) :
  Loc K 2 .add h fun xs H Q=>∀ x y,xs=[x,y]->rI0 (fun i j=>.int (i+j)) x y H Q\/(∃ i j,x=.str i/\y=.str j/\i.length+j.length<=sizeLine/\Q (.str (i++j)) H)\/wQ x y H Q\/rT x y H Q:=by
 intro ws w xs Z H G Q hn e r ow za k x y hx
 subst hx
 obtain ⟨⟨m,a⟩,⟨n,b⟩,rfl⟩:=dI r.length.symm
 obtain ⟨G1,G2,w1,w2,d,r1,r2⟩:=bO r
 cases a<;>first | (cases e; done) | (cases b<;>try (cases e; done))
 ·cases e
  exact .inl ⟨_,_,r1,r2,aJ k⟩
 ·rename_i p q
  rw [j7] at e
  split at e
  ·rename_i hf
   cases e
   refine .inr (.inl ⟨p,q,r1.1,r2.1,aU (bI hf),ip k ?_⟩)
   exact nr r1.2 r2.2 (bI hf)
  ·cases e
 ·rename_i ts us
  rw [jD] at e
  split at e
  ·rename_i hf
   cases e
   rw [a0g] at hf
   obtain ⟨a,xs,rfl,hs,hl,p⟩:=bb r1
   obtain ⟨b,ys,rfl,hs2,hl2,p2⟩:=bb r2
   have hlen:=bI hf.1
   have e1:=p.length
   have e2:=p2.length
   refine .inr (.inr (.inr (hT hs hs2 ?_ (by omega) ow ?_ k)))
   ·rintro rfl
    cases ts with
    | nil=>simp at hf
    | cons _ _=>simp at e1
   ·refine ⟨no,fun _ z=>z.elim,RepL.append (G1:=no) (G2:=no) (fun _ z=>z) (fun _ z=>z) (fun _ z _=>z) ((RepL.sh p).zmono fun b hb=>?_) ((RepL.sh p2).zmono fun b hb=>?_)⟩
    ·exact hb.imp id fun z=>⟨w1 b z,fun q=>q⟩
    ·exact hb.imp id fun z=>⟨w2 b z,fun q=>q⟩
  ·cases e
 ·rename_i ts us
  rw [jT] at e
  split at e
  ·rename_i hf
   obtain ⟨a,xs,rfl,hs,hl,p⟩:=aS r1
   obtain ⟨b,ys,rfl,hs2,hl2,p2⟩:=aS r2
   have hlen:=bI hf
   have e1:=p.length
   have e2:=p2.length
   have hl3:(xs++ys).length<=LIM:=by rw [a0c]; omega
   refine .inr (.inr (.inl ⟨a,b,xs,ys,rfl,rfl,hs,hs2,aU (by omega),fun q hq=>?_⟩))
   exact cf ow za hl3 (da w1 w2 d p p2) e k hq
  ·cases e
theorem ky {Z:Fp}{H:Hp}{G:Fp}{m:Md}{ts:List T}{xs:List V}{i:Int}{t:T}(p:RepL K Z H m ts xs G)(e:M.atI ts i=some t):∃ x,L2.atI xs i=some x/\Rep K Z H m t x G:=by
 unfold M.atI at e
 have hn:M.ixN ts.length i=L2.ixN xs.length i:=by rw [p.length]; rfl
 cases e1:M.ixN ts.length i with
 | none=>rw [e1] at e; cases e
 | some j =>
  rw [e1] at e
  obtain ⟨x,hx,r⟩:=p.get (show ts[j]?=some t from e)
  refine ⟨x,?_,r⟩
  unfold L2.atI
  rw [<- hn,e1]
  exact hx
theorem pE {x:Str}{c:Nat}(h:sOk x=true)(hc:c∈x.cps.toList):sOk ⟨#[c]⟩=true:=by
 unfold sOk at *
 rw [a0g] at *
 refine ⟨?_,rfl⟩
 have h1:=h.1
 rw [a1p] at h1
 have h2:=h1 c (Array.mem_def.mpr hc)
 rw [a1p]
 intro y hy
 have:y=c:=by simpa using hy
 rw [this]; exact h2
theorem ez {x:Str}(h:sOk x=true):x.cps.size<=LIM:=by
 unfold sOk at h
 rw [a0g,decide_eq_true_eq] at h
 exact h.2
theorem ub:Loc K 2 .ix h fun xs H Q=>∀ x y,xs=[x,y]->(∃ p xs i v,x=.ref p/\y=.int i/\(SqL K H p xs\/SqT K H p xs)/\L2.atI xs i=some v/\Q v H)\/(∃ z i c,x=.str z/\y=.int i/\z.length<=sizeLine/\L2.atI z.cps.toList i=some c/\Q (.str ⟨#[c]⟩) H):=by
 intro ws w xs Z H G Q hn e r ow za k x y hx
 subst hx
 obtain ⟨⟨m,a⟩,⟨n,b⟩,rfl⟩:=dI r.length.symm
 obtain ⟨G1,G2,w1,w2,d,r1,r2⟩:=bO r
 cases b with
 | int i =>
  cases a with
  | lst ts =>
   obtain ⟨a,xs,rfl,hs,hl,p⟩:=aS r1
   have e':(M.atI ts i).map (fun t=>(m.kid,t))=some w:=e
   cases e1:M.atI ts i with
   | none=>rw [e1] at e'; cases e'
   | some t =>
    rw [e1] at e'; cases e'
    obtain ⟨v,hv,rv⟩:=ky p e1
    exact .inl ⟨a,xs,i,v,rfl,r2,.inl (.inl (.inl hs)),hv,fI ow k (rv.mono w1)⟩
  | tup ts =>
   obtain ⟨a,xs,rfl,hs,hl,p⟩:=bb r1
   have e':(M.atI ts i).map (fun t=>(m.kid,t))=some w:=e
   cases e1:M.atI ts i with
   | none=>rw [e1] at e'; cases e'
   | some t =>
    rw [e1] at e'; cases e'
    obtain ⟨v,hv,rv⟩:=ky p e1
    exact .inl ⟨a,xs,i,v,rfl,r2,.inr hs,hv,fI ow k (rv.mono w1)⟩
  | str z =>
   have e':(M.atI z.cps.toList i).map (fun c=>((.d,.str ⟨#[c]⟩):W))=some w:=e
   cases e1:M.atI z.cps.toList i with
   | none=>rw [e1] at e'; cases e'
   | some c =>
    rw [e1] at e'; cases e'
    refine .inr ⟨z,i,c,r1.1,r2,aU (ez r1.2),e1,ip k (pE r1.2 ?_)⟩
    unfold M.atI at e1
    cases e2:M.ixN z.cps.toList.length i with
    | none=>rw [e2] at e1; cases e1
    | some j=>rw [e2] at e1; exact a1R e1
  | scr ns =>
   obtain ⟨a,rfl,hL,hs⟩:=r1
   have e':(M.atI ns i).map (fun n=>((.d,.int n):W))=some w:=e
   cases e1:M.atI ns i with
   | none=>rw [e1] at e'; cases e'
   | some n =>
    rw [e1] at e'; cases e'
    refine .inl ⟨a,_,i,.int n,rfl,r2,.inl hs.sq,?_,aJ k⟩
    unfold M.atI at e1
    unfold L2.atI
    rw [a0b]
    cases e2:M.ixN ns.length i with
    | none=>rw [e2] at e1; cases e1
    | some j =>
     rw [e2] at e1
     rw [show L2.ixN ns.length i=some j from e2]
     show (ns.map V.int)[j]?=_
     rw [a0v,show ns[j]?=some n from e1]
     rfl
  | _=>cases e
 | _=>cases a<;>cases e
theorem mI:Loc K 1 .len h fun xs H Q=>∃ x n,xs=[x]/\(match x with
  | .str y=>y.length<=sizeLine/\n=y.length
  | .byt y=>y.size<=sizeLine/\n=y.size
  | .ref p=>(∃ xs,SqL K H p xs/\n=xs.length)\/∃ xs,SqT K H p xs/\n=xs.length
  | _=>False)/\Q (.int (n:Nat)) H:=by
 intro ws w xs Z H G Q hn e r ow za k
 match ws,hn with
 | [(m,a)],_ =>
  obtain ⟨x,rfl,r1⟩:=bu rfl r
  cases a with
  | lst ts =>
   obtain ⟨a,xs,hx,hs,hl,p⟩:=aS r1
   cases e
   refine ⟨x,ts.length,rfl,?_,aJ k⟩
   rw [show x=.ref a from hx]
   exact .inl ⟨xs,.inl (.inl hs),p.length.symm⟩
  | tup ts =>
   obtain ⟨a,xs,hx,hs,hl,p⟩:=bb r1
   cases e
   refine ⟨x,ts.length,rfl,?_,aJ k⟩
   rw [show x=.ref a from hx]
   exact .inr ⟨xs,hs,p.length.symm⟩
  | str z =>
   cases e
   refine ⟨x,z.length,rfl,?_,aJ k⟩
   rw [show x=.str z from r1.1]
   exact ⟨aU (ez r1.2),rfl⟩
  | scr ns =>
   obtain ⟨a,hx,hL,hs⟩:=r1
   cases e
   refine ⟨x,ns.length,rfl,?_,aJ k⟩
   rw [show x=.ref a from hx]
   exact .inl ⟨_,hs.sq,by rw [a0b]⟩
  | _=>cases e
theorem gM {Z:Fp}{H:Hp}{G:Fp}{m:Md}:∀ ns:List Int,RepL K Z H m (ns.map T.int) (ns.map V.int) G
 | []=>rfl
 | n::ns=>⟨.int n,ns.map V.int,no,no,rfl,fun _ z=>z.elim,fun _ z=>z.elim,fun _ z=>z.elim,rfl,gM ns⟩
theorem lZ:Loc K 1 .list h fun xs H Q=>∃ p ys,xs=[.ref p]/\(SqL K H p ys\/SqT K H p ys)/\∀ l,H l=none->Q (.ref l) (upd H l (.lst ys)):=by
 intro ws w xs Z H G Q hn e r ow za k
 match ws,hn with
 | [(m,a)],_ =>
  obtain ⟨x,rfl,r1⟩:=bu rfl r
  cases a with
  | lst ts =>
   obtain ⟨a,xs,hx,hs,hl,p⟩:=aS r1
   refine ⟨a,xs,by rw [hx],.inl (.inl (.inl hs)),fun q hq=>cf ow za hl ⟨G,fun _ z=>z,p.zmono fun _ z=>.inl z⟩ e k hq⟩
  | tup ts =>
   obtain ⟨a,xs,hx,hs,hl,p⟩:=bb r1
   refine ⟨a,xs,by rw [hx],.inr hs,fun q hq=>cf ow za hl ⟨G,fun _ z=>z,p.zmono fun _ z=>.inl z⟩ e k hq⟩
  | scr ns =>
   obtain ⟨a,hx,hL,hs⟩:=r1
   cases e
   refine ⟨a,_,by rw [hx],.inl hs.sq,fun q hq=>aX (G':=no) ow za (fun _ z=>z.elim) (by rw [a0b]; exact hL) (gM ns) (by simp) k hq⟩
  | _=>cases e
end
end MR
namespace MR
open L2 L3 M
open PySem (Addr Str sizeLine)
section
variable {K:a0a}{sl:Cf}{sf:Nat->Option Nat}{C:Call}{σ:L2.St}{Z Z' Z1:Fp}{H H' H1:Hp}{Fs Fs' Fs1:Fps}{η η' η1:Env}{G G' R F:Fp}
mutual
theorem Rep.sany:∀ {t:T} {v:V} {G G':Fp},Rep K Z H .s t v G->Rep K Z H .s t v G'
 | .non,_,_,_,h=>h
 | .bl _,_,_,_,h=>h
 | .int _,_,_,_,h=>h
 | .str _,_,_,_,h=>h
 | .scr _,_,_,_,h=>h
 | .tup ts,_,_,_,⟨a,xs,e,q,l,r⟩=>⟨a,xs,e,q,l,RepL.sany r⟩
 | .lst ts,_,_,_,⟨a,xs,e,l,q,r⟩=>⟨a,xs,e,l,q,RepL.sany r⟩
 | .dct _ _,_,_,_,⟨a,xs,e,l,q,n,hl,r⟩=>⟨a,xs,e,l,q,n,hl,r⟩
 | .ins _ _ _,_,_,_,h=>h.elim
 | .gone,_,_,_,h=>h
theorem RepL.sany:∀ {ts:List T} {xs:List V} {G G':Fp},RepL K Z H .s ts xs G->RepL K Z H .s ts xs G'
 | [],_,_,_,h=>h
 | t::ts,xs,_,_,⟨x,r,G1,G2,e,h1,h2,hd,p,q⟩=>⟨x,r,no,no,e,fun _ z=>z.elim,fun _ z=>z.elim,fun _ z=>z.elim,Rep.sany p,RepL.sany q⟩
end
theorem aP:∀ (η:Env) (i j:Nat) (o:Option W),rd (wr η i o) j=if j=i/\i < η.length then o else rd η j
 | [],i,j,o=>by simp [wr,rd]
 | p::η,0,0,o=>by simp [wr,rd]
 | p::η,0,j+1,o=>by simp [wr,rd]
 | p::η,i+1,0,o=>by simp [wr,rd]
 | p::η,i+1,j+1,o=>by
  show rd (wr η i o) j=_
  rw [aP η i j o]
  simp [rd]
theorem bP:∀ {η:Env} {i:Nat} {w:W},rd η i=some w->i < η.length
 | [],_,_,h=>by cases h
 | _::_,0,_,_=>by simp
 | _::η,i+1,_,h=>by have:=bP (η:=η) (i:=i) h; simp; exact this
theorem cn (h:∀ a,F a->G a):Step Z H G Z H F:=(Step.refl Z H G).mono (fun _ z=>z) h
theorem sQ {i j:Nat}(hs:sf i=some j)(σ:L2.St)(H:Hp)(Q:VK)(h:wE K sf C (.var i) σ H Q):iW j σ H Q:=by
 obtain ⟨pv,Z,Fs,η,w,η',A,ev,k⟩:=h
 obtain ⟨w',e1,e2⟩:=aq (show ret η ((rd η i).bind look)=_ from ev)
 cases e2
 cases e3:rd η i with
 | none=>rw [e3] at e1; cases e1
 | some u =>
  rw [e3] at e1
  obtain ⟨m,t⟩:=u
  obtain ⟨v,r,hv⟩:=A.env i m t e3
  refine ⟨v,hv.1 j hs,k v Z H Fs no A ?_ (cn fun a ha=>ha.elim id fun z=>z.elim)⟩
  cases m with
  | s=>cases e1; exact r.sany
  | d =>
   have e1':(if t.leaf=true then some (Md.d,t) else none)=some w:=e1
   split at e1'
   ·rename_i hl; cases e1'; exact r.leaf (fun _ _ _ q=>q) hl
   ·cases e1'
  | o m =>
   have e1':(if t.leaf=true then some (Md.d,t) else none)=some w:=e1
   split at e1'
   ·rename_i hl; cases e1'; exact r.leaf (fun _ _ _ q=>q) hl
   ·cases e1'
noncomputable def ud (Fs:Fps)(i:Nat):Fps:=fun j a=>j≠i/\Fs j a
theorem sC {e:E}{i j:Nat}(he:∀ η,evE C e η=ret (del η i) (rd η i))(hs:sf i=some j)(σ:L2.St)(H:Hp)(Q:VK)(h:wE K sf C e σ H Q):iW j σ H Q:=by
 obtain ⟨pv,Z,Fs,η,w,η',A,ev,k⟩:=h
 rw [he] at ev
 obtain ⟨w',e1,e2⟩:=aq ev
 cases e2
 obtain ⟨m,t⟩:=w
 obtain ⟨v,r,hv⟩:=A.env i m t e1
 refine ⟨v,hv.1 j hs,k v Z H (ud Fs i) (Fs i) ⟨⟨fun a ⟨l,h1,h2⟩=>A.gd.own a ⟨l,h2⟩,fun l l' a h1 h2=>A.gd.dis l l' a h1.2 h2.2,A.gd.zal⟩,fun l m' t' e=>?_,fun a ha=>A.gd.own a ⟨i,ha⟩,fun a ha ⟨l,h1,h2⟩=>h1 (A.gd.dis l i a h2 ha),A.lk,A.ln⟩ r (cn fun a ha=>ha.elim (fun ⟨l,h1,h2⟩=>⟨l,h2⟩) fun z=>⟨i,z⟩)⟩
 rw [aP] at e
 split at e
 ·cases e
 ·rename_i hne
  obtain ⟨v',r',hv'⟩:=A.env l m' t' e
  have hli:l≠i:=fun z=>hne ⟨z,bP e1⟩
  exact ⟨v',r'.mono fun a ha=>⟨hli,ha⟩,hv'⟩
theorem gk {t:T}{v:V}(hv:∀ {Z:Fp} {H:Hp},Rep K Z H .d t v no)(σ:L2.St)(H:Hp)(Q:VK)(h:wE K sf C (.cst t) σ H Q):tC v σ H Q:=by
 obtain ⟨pv,Z,Fs,η,w,η',A,ev,k⟩:=h
 cases ev
 exact k v Z H Fs no A hv (cn fun a ha=>ha.elim id fun z=>z.elim)
theorem sr {es:List E}(hn:es.length<=LIM)(σ:L2.St)(H:Hp)(Q:VK)(h:wE K sf C (.tup es) σ H Q):uw (wL K sf C es) σ H Q:=by
 obtain ⟨pv,Z,Fs,η,w,η',A,ev,k⟩:=h
 obtain ⟨⟨ws,η1⟩,h1,h2⟩:=aa (show (evL C es η).bind gn=_ from ev)
 cases h2
 refine ⟨pv,Z,Fs,η,ws,_,A,h1,fun vs Z' H' Fs' G B r s=>?_⟩
 have hl:vs.length<=LIM:=by rw [r.length,cI h1]; exact hn
 obtain ⟨G',g1,g2⟩:=RepW.to (fun u hu=>dq hu) r
 refine ⟨aU hl,fun p hp=>nX (m:=(dC ws).up) B.own g1 hl (by rw [dh]; exact g2) (bQ B s k) hp⟩
theorem sd {b:Bool}{es:List E}(hn:es.length<=LIM)(σ:L2.St)(H:Hp)(Q:VK)(h:wE K sf C (.lst b es) σ H Q):vO (wL K sf C es) σ H Q:=by
 obtain ⟨pv,Z,Fs,η,w,η',A,ev,k⟩:=h
 obtain ⟨⟨ws,η1⟩,h1,h2⟩:=aa (show (evL C es η).bind (k4 b)=_ from ev)
 cases h2
 refine ⟨pv,Z,Fs,η,ws,_,A,h1,fun vs Z' H' Fs' G B r s=>?_⟩
 have hl:vs.length<=LIM:=by rw [r.length,cI h1]; exact hn
 refine ⟨aU hl,fun p hp=>?_⟩
 cases b with
 | true =>
  obtain ⟨G',g1,g2⟩:=RepW.to (fun u hu=>dq hu) r
  exact aX (m:=(dC ws).up) B.own B.gd.zal g1 hl (by rw [dh]; exact g2) (bE _) (bQ B s k) hp
 | false =>
  obtain ⟨G',g1,g2⟩:=RepW.to (N:=.s) (fun u hu=>by cases lf u.1 u.2<;>rfl) r
  exact aX (m:=.o .s) B.own B.gd.zal g1 hl g2 (by simp) (bQ B s k) hp
noncomputable def wT (K:a0a)(sl:Nat->Option Nat)(C:Call)(e:E):TT:=fun σ H Q=>∃ pv Z Fs η w η' b,At K ⟨sl,pv⟩ σ Z H Fs η no/\evE C e η=.ok (w,η')/\truth w.2=some b /\
 ∀ Z' H' Fs',At K ⟨sl,pv⟩ σ Z' H' Fs' η' no->Step Z H (tot Fs) Z' H' (tot Fs')->Q b H'
noncomputable def TrV (K:a0a)(x:V)(H:Hp)(k:Bool):Prop :=
 match x with
 | .non=>k=false
 | .bl b=>k=b
 | .int i=>k=(i != 0)
 | .str y=>y.length<=sizeLine/\k=((y.length:Int) != 0)
 | .ref p=>(∃ xs,SqL K H p xs/\k=!xs.isEmpty)\/(∃ xs,SqT K H p xs/\k=!xs.isEmpty)
 | _=>False
theorem bD {α β:Type}{xs:List α}{ys:List β}(h:xs.length=ys.length):xs.isEmpty=ys.isEmpty:=by
 cases xs<;>cases ys<;>first | rfl | simp at h
theorem i7 {m:Md}{t:T}{v:V}{b:Bool}(e:truth t=some b)(r:Rep K Z H m t v G):TrV K v H b:=by
 cases t with
 | non=>cases e; rw [show v=_ from r]; rfl
 | bl c=>cases e; rw [show v=_ from r]; rfl
 | int i=>cases e; rw [show v=_ from r]; rfl
 | str x =>
  cases e; rw [show v=_ from r.1]
  refine ⟨aU (ez r.2),?_⟩
  show (x.cps.size != 0)=(((x.cps.size:Nat):Int) != 0)
  cases x.cps.size with
  | zero=>rfl
  | succ n=>simp; omega
 | tup ts =>
  obtain ⟨a,xs,rfl,hs,hl,p⟩:=bb r
  cases e
  exact .inr ⟨xs,hs,by rw [bD p.length]⟩
 | lst ts =>
  obtain ⟨a,xs,rfl,hs,hl,p⟩:=aS r
  cases e
  exact .inl ⟨xs,.inl (.inl hs),by rw [bD p.length]⟩
 | scr ns =>
  obtain ⟨a,rfl,hL,hs⟩:=r
  cases e
  exact .inl ⟨_,hs.sq,by rw [bD (a0b ..)]⟩
 | dct _ _=>cases e
 | ins _ _ _=>cases e
 | gone=>cases e
theorem iQ {e:E}{w:W}{b:Bool}{Q:Bool->Hp->Prop}(A:At K sl σ Z H Fs η no)(ev:evE C e η=.ok (w,η'))(ht:truth w.2=some b)(k:∀ Z' H' Fs',At K sl σ Z' H' Fs' η' no->Step Z H (tot Fs) Z' H' (tot Fs')->Q b H'):wT K sl.sl C e σ H Q:=⟨sl.pv,Z,Fs,η,w,η',b,A,ev,ht,k⟩
theorem br {α:Type}{f g:Env->Res α}{p:W×Env}{r:α}(h:onT f g p=.ok r):∃ b,truth p.1.2=some b/\(if b=true then f p.2 else g p.2)=.ok r:=by
 unfold onT at h
 split at h
 ·rename_i e; exact ⟨true,e,h⟩
 ·rename_i e; exact ⟨false,e,h⟩
 ·cases h
theorem rO {e:E}(σ:L2.St)(H:Hp)(Q:Bool->Hp->Prop)(h:wT K sf C (.not e) σ H Q):uz (wT K sf C e) σ H Q:=by
 obtain ⟨pv,Z,Fs,η,w,η',b,A,ev,ht,k⟩:=h
 obtain ⟨⟨u,η1⟩,h1,h2⟩:=aa (show (evE C e η).bind l8=_ from ev)
 obtain ⟨w',e1,e2⟩:=aq (show ret η1 ((truth u.2).map fun b=>((.d,.bl (!b)):W))=_ from h2)
 cases e2
 cases e3:truth u.2 with
 | none=>rw [e3] at e1; cases e1
 | some c =>
  rw [e3] at e1; cases e1
  have:b=!c:=by cases ht; rfl
  subst this
  exact iQ A h1 e3 k
theorem tQ {a b:E}(σ:L2.St)(H:Hp)(Q:Bool->Hp->Prop)(h:wT K sf C (.and a b) σ H Q):w9 (wT K sf C a) (wT K sf C b) σ H Q:=by
 obtain ⟨pv,Z,Fs,η,w,η',c,A,ev,ht,k⟩:=h
 obtain ⟨⟨u,η1⟩,h1,h2⟩:=aa (show (evE C a η).bind (lF (evE C b))=_ from ev)
 obtain ⟨d,h3,h4⟩:=br (show onT (evE C b) (okW u) (u,η1)=_ from h2)
 refine iQ A h1 h3 fun Z1 H1 Fs1 A1 s1=>?_
 cases d with
 | true=>rw [if_pos rfl] at h4 ⊢; exact iQ A1 h4 ht fun Z2 H2 Fs2 A2 s2=>k Z2 H2 Fs2 A2 (s1.trans s2)
 | false =>
  rw [if_neg a0j] at h4 ⊢
  cases h4
  cases (h3.symm.trans ht)
  exact k Z1 H1 Fs1 A1 s1
theorem vb {a b:E}(σ:L2.St)(H:Hp)(Q:Bool->Hp->Prop)(h:wT K sf C (.or a b) σ H Q):tOr (wT K sf C a) (wT K sf C b) σ H Q:=by
 obtain ⟨pv,Z,Fs,η,w,η',c,A,ev,ht,k⟩:=h
 obtain ⟨⟨u,η1⟩,h1,h2⟩:=aa (show (evE C a η).bind (kOr (evE C b))=_ from ev)
 obtain ⟨d,h3,h4⟩:=br (show onT (okW u) (evE C b) (u,η1)=_ from h2)
 refine iQ A h1 h3 fun Z1 H1 Fs1 A1 s1=>?_
 cases d with
 | false=>rw [if_neg a0j] at h4 ⊢; exact iQ A1 h4 ht fun Z2 H2 Fs2 A2 s2=>k Z2 H2 Fs2 A2 (s1.trans s2)
 | true =>
  rw [if_pos rfl] at h4 ⊢
  cases h4
  cases (h3.symm.trans ht)
  exact k Z1 H1 Fs1 A1 s1
theorem rY {c a b:E}(σ:L2.St)(H:Hp)(Q:VK)(h:wE K sf C (.ifx c a b) σ H Q):tIf (wT K sf C c) (wE K sf C a) (wE K sf C b) σ H Q:=by
 obtain ⟨pv,Z,Fs,η,w,η',A,ev,k⟩:=h
 obtain ⟨⟨u,η1⟩,h1,h2⟩:=aa (show (evE C c η).bind (onT (evE C a) (evE C b))=_ from ev)
 obtain ⟨d,h3,h4⟩:=br h2
 refine iQ A h1 h3 fun Z1 H1 Fs1 A1 s1=>?_
 cases d with
 | true=>rw [if_pos rfl] at h4 ⊢; exact ⟨pv,Z1,Fs1,η1,w,η',A1,h4,fun v Z' H' Fs' G B r s=>k v Z' H' Fs' G B r (s1.trans s)⟩
 | false=>rw [if_neg a0j] at h4 ⊢; exact ⟨pv,Z1,Fs1,η1,w,η',A1,h4,fun v Z' H' Fs' G B r s=>k v Z' H' Fs' G B r (s1.trans s)⟩
end
end MR
namespace MR
open L2 L3 M
open PySem (Addr Str sizeLine)
section
variable {K:a0a}{sl:Cf}{sf:Nat->Option Nat}{C:Call}{σ:L2.St}{Z Z' Z1:Fp}{H H' H1:Hp}{Fs Fs' Fs1:Fps}{η η' η1:Env}{G G' R F:Fp}
structure Wk (K:a0a)(J:It)(Z:Fp)(H0:Hp)(ts:List (List W)):Prop where
 go:∀ H i,Stay Z H0 H->i < ts.length->J.go i H
 stop:∀ H i,Stay Z H0 H->ts.length<=i->J.stop i H
 len:ts.length<=LIM
noncomputable def jQ (K:a0a)(J:It)(Z:Fp)(H0:Hp)(ts:List (List W)):Prop :=
 ∀ H i x H',Stay Z H0 H->i < ts.length->J.yld i H x H'->H'=H/\∃ w,ts[i]?=some [w]/\Rep K Z H w.1 w.2 x no
noncomputable def xO (K:a0a)(J:It)(Z:Fp)(H0:Hp)(ts:List (List W)):Prop :=
 ∀ H i x H',Stay Z H0 H->i < ts.length->J.yld i H x H'->∃ p y z u w,x=.ref p/\(∀ b o,H b=some o->H' b=some o)/\SqT K H' p [y,z]/\ts[i]?=some [u,w]/\Rep K Z H u.1 u.2 y no/\Rep K Z H w.1 w.2 z no
theorem lr (same:∀ b o,H b=some o->H' b=some o):Stay Z H H':=by
 refine ⟨fun a o _ e=>same a o e,fun a ys e=>?_,fun a o u e=>same a _ e⟩
 rcases e with e | ⟨u,e⟩
 ·exact .inl (same a _ e)
 ·exact .inr ⟨u,same a _ e⟩
theorem lz (same:∀ a o,H a=some o->H' a=some o):Step Z H G Z H' G:=by
 have al:∀ a,H a≠none->H' a≠none:=fun a h=>by
  cases e:H a with
  | none=>exact absurd e h
  | some o=>rw [same a o e]; simp
 exact ⟨fun a o h _=>same a o h,fun _ h=>h,fun _ h=>.inl h,fun _ h=>.inl h,al,fun z a h=>al a (z a h)⟩
theorem qR {p:Addr}{o:HO}(hp:H p=none):∀ b u,H b=some u->upd H p o b=some u:=fun a u e=>by
 have:a≠p:=fun q=>by subst q; rw [hp] at e; cases e
 rw [af this]; exact e
noncomputable def Yld (K:a0a)(J:It)(Z:Fp)(H0:Hp)(ts:List (List W)):Nat->Prop
 | 1=>jQ K J Z H0 ts
 | 2=>xO K J Z H0 ts
 | _=>False
noncomputable def wI (K:a0a)(sl:Nat->Option Nat)(C:Call)(n:Nat)(k:Ik)(src:List E):TI:=fun σ H R=>∃ pv Z Fs η ws η' ts,At K ⟨sl,pv⟩ σ Z H Fs η no/\evL C src η=.ok (ws,η')/\aW k ws=some ts /\
 ∀ J Z' H' Fs',At K ⟨sl,pv⟩ σ Z' H' Fs' η' no->Step Z H (tot Fs) Z' H' (tot Fs')->Wk K J Z' H' ts->Yld K J Z' H' ts n->R J H'
theorem At.freeze (A:At K sl σ Z H Fs η G):At K sl σ (fun a=>Z a\/G a) H Fs η no:=by
 refine ⟨⟨fun a ha=>⟨fun z=>z.elim (A.gd.own a ha).1 fun q=>A.dis a q ha,(A.gd.own a ha).2⟩,A.gd.dis,fun a h=>h.elim (A.gd.zal a) fun q=>?_⟩,fun i m t e=>?_,ba,fun _ z=>z.elim,A.lk,A.ln⟩
 ·obtain ⟨_,xs,e⟩:=A.own a q
  rw [e]; simp
 ·obtain ⟨v,r,h⟩:=A.env i m t e
  exact ⟨v,r.zmono fun a h=>.inl h,h⟩
theorem aR (o:Own Z' H' G)(s:Step Z H F Z' H' (fun a=>F' a\/G a)):Step Z H F (fun a=>Z' a\/G a) H' F' where
 keep:=s.keep
 zm:=fun a h=>.inl (s.zm a h)
 zn:=fun a h=>h.elim (s.zn a) fun q=>.inr (s.fn a (.inr q))
 fn:=fun a h=>s.fn a (.inl h)
 al:=s.al
 za:=fun z a h=>h.elim (s.za z a) fun q=>by
  obtain ⟨_,xs,e⟩:=o a q
  rw [e]; simp
theorem eY {a:Addr}{xs:List V}{H0:Hp}(s:Stay Z H0 H)(hz:Z a)(h:H0 a=some (.lst xs)):SqL K H a xs:=.inl (.inl (s.1 a _ hz h))
theorem m5 {a:Addr}{xs:List V}{ts:List T}(hL:xs.length<=LIM)(hz:Z a)(h:H a=some (.lst xs))(r:RepL K Z H .s ts xs no):Wk K (Itl K a) Z H (ts.map fun t=>[(.s,t)])/\jQ K (Itl K a) Z H (ts.map fun t=>[(.s,t)]):=by
 have hl:=r.length
 refine ⟨⟨fun H' i s hi=>?_,fun H' i s hi=>?_,by rw [a0b]; omega⟩,fun H' i x H'' s hi y=>?_⟩
 ·rw [a0b] at hi
  exact ⟨xs,xs[i]'(by omega),eY s hz h,by simp⟩
 ·rw [a0b] at hi
  exact ⟨xs,eY s hz h,by omega⟩
 ·rw [a0b] at hi
  obtain ⟨rfl,y⟩:=y
  have hx:=y xs (eY s hz h)
  obtain ⟨x',hx',rx⟩:=r.get (show ts[i]?=some ts[i] by simp)
  rw [hx] at hx'; cases hx'
  refine ⟨rfl,(.s,ts[i]),by rw [a0v,show ts[i]?=some ts[i] by simp]; rfl,rx.keep s (fun _ z=>z) fun _ _ z=>z.elim⟩
theorem qq {a:Addr}{xs:List V}{ts:List T}(hL:xs.length<=LIM)(h:SqT K H a xs)(r:RepL K Z H .s ts xs no):Wk K (Itt K a) Z H (ts.map fun t=>[(.s,t)])/\jQ K (Itt K a) Z H (ts.map fun t=>[(.s,t)]):=by
 have hl:=r.length
 refine ⟨⟨fun H' i s hi=>?_,fun H' i s hi=>?_,by rw [a0b]; omega⟩,fun H' i x H'' s hi y=>?_⟩
 ·rw [a0b] at hi
  exact ⟨xs,xs[i]'(by omega),s.sqt h,by simp⟩
 ·rw [a0b] at hi
  exact ⟨xs,s.sqt h,by omega⟩
 ·rw [a0b] at hi
  obtain ⟨rfl,y⟩:=y
  have hx:=y xs (s.sqt h)
  obtain ⟨x',hx',rx⟩:=r.get (show ts[i]?=some ts[i] by simp)
  rw [hx] at hx'; cases hx'
  refine ⟨rfl,(.s,ts[i]),by rw [a0v,show ts[i]?=some ts[i] by simp]; rfl,rx.keep s (fun _ z=>z) fun _ _ z=>z.elim⟩
theorem t4 {lo:Int}{n:Nat}(hL:n<=LIM):Wk K (Itr lo n) Z H ((a0P n).map fun (k:Nat)=>[(.d,.int (lo+k))])/\jQ K (Itr lo n) Z H ((a0P n).map fun (k:Nat)=>[(.d,.int (lo+k))]):=by
 refine ⟨⟨fun H' i s hi=>by show i < n; simpa using hi,fun H' i s hi=>by show n<=i; simpa using hi,by simpa using hL⟩,fun H' i x H'' s hi y=>?_⟩
 obtain ⟨rfl,rfl⟩:=y
 refine ⟨rfl,(.d,.int (lo+i)),?_,rfl⟩
 rw [a0b,a1x] at hi
 rw [a0v,List.getElem?_range hi]
 rfl
theorem gS {a:Addr}{ns:List Int}{H0:Hp}(s:Stay Z H0 H)(h:ScrR K H0 a ns):SqL K H a (ns.map V.int):=(h.keep s.2.2).sq
theorem uc {a:Addr}{ns:List Int}(hL:ns.length<=LIM)(h:ScrR K H a ns):Wk K (Itl K a) Z H (ns.map fun n=>[(.d,.int n)])/\jQ K (Itl K a) Z H (ns.map fun n=>[(.d,.int n)]):=by
 refine ⟨⟨fun H' i s hi=>?_,fun H' i s hi=>?_,by rw [a0b]; exact hL⟩,fun H' i x H'' s hi y=>?_⟩
 ·rw [a0b] at hi
  exact ⟨_,(ns.map V.int)[i]'(by rw [a0b]; exact hi),gS s h,by simp⟩
 ·rw [a0b] at hi
  exact ⟨_,gS s h,by rw [a0b]; exact hi⟩
 ·rw [a0b] at hi
  obtain ⟨rfl,y⟩:=y
  have hx:=y _ (gS s h)
  refine ⟨rfl,(.d,.int ns[i]),by rw [a0v,show ns[i]?=some ns[i] by simp]; rfl,?_⟩
  rw [a0v,show ns[i]?=some ns[i] by simp] at hx
  exact (a0t hx).symm
theorem s8 {e:E}(σ:L2.St)(H:Hp)(R:It->Hp->Prop)(h:wI K sf C 1 .seq [e] σ H R):qe K (wE K sf C e) σ H R\/uP K (wE K sf C e) σ H R:=by
 obtain ⟨pv,Z,Fs,η,ws,η',ts,A,ev,ht,k⟩:=h
 obtain ⟨⟨m,a⟩,η1,us,e1,e2,rfl⟩:=aG ev
 cases e2
 cases a with
 | lst ts' =>
  cases ht
  refine .inl ⟨pv,Z,Fs,η,_,_,A,e1,fun v Z' H' Fs' G B r s=>?_⟩
  obtain ⟨a,xs,rfl,l,q,p⟩:=Rep.sh r
  obtain ⟨w1,w2⟩:=m5 l q.1 q.2 p.sany
  exact ⟨a,rfl,⟨xs,.inl (.inl q.2)⟩,k _ _ H' Fs' B.freeze (aR B.own s) w1 w2⟩
 | tup ts' =>
  cases ht
  refine .inr ⟨pv,Z,Fs,η,_,_,A,e1,fun v Z' H' Fs' G B r s=>?_⟩
  obtain ⟨a,xs,rfl,q,l,p⟩:=Rep.sh r
  obtain ⟨w1,w2⟩:=qq l q p.sany
  exact ⟨a,rfl,⟨xs,q⟩,k _ _ H' Fs' B.freeze (aR B.own s) w1 w2⟩
 | scr ns =>
  cases ht
  refine .inl ⟨pv,Z,Fs,η,_,_,A,e1,fun v Z' H' Fs' G B r s=>?_⟩
  obtain ⟨a,rfl,hl,q⟩:=r
  obtain ⟨w1,w2⟩:=uc (Z:=fun a=>Z' a\/G a) hl q
  exact ⟨a,rfl,⟨_,q.sq⟩,k _ _ H' Fs' B.freeze (aR B.own s) w1 w2⟩
 | _=>cases ht
theorem p62:(2:Int) ^ 62=4611686018427387904:=by decide
theorem pC {e:E}(σ:L2.St)(H:Hp)(R:It->Hp->Prop)(h:wI K sf C 1 .rng [e] σ H R):pM (wL K sf C [e]) σ H R:=by
 obtain ⟨pv,Z,Fs,η,ws,η',ts,A,ev,ht,k⟩:=h
 refine ⟨pv,Z,Fs,η,ws,η',A,ev,fun vs Z' H' Fs' G B r s=>?_⟩
 obtain ⟨⟨m,a⟩,η1,us,e1,e2,rfl⟩:=aG ev
 cases e2
 obtain ⟨x,rfl,r1⟩:=bu rfl r
 cases a with
 | int n =>
  rw [ka] at ht
  split at ht
  ·rename_i hc
   rw [a0g,decide_eq_true_eq] at hc
   cases ht
   refine ⟨n,by rw [show x=_ from r1],by rw [p62]; omega,by rw [p62]; omega,?_⟩
   obtain ⟨w1,w2⟩:=t4 (K:=K) (Z:=fun a=>Z' a\/G a) (H:=H') (lo:=0) (n:=n.toNat) (bI hc.2)
   have hz:∀ k:Nat,(0:Int)+(k:Int)=k:=fun k=>by omega
   simp only [hz] at w1 w2
   exact k _ _ H' Fs' B.freeze (aR B.own s) w1 w2
  ·cases ht
 | _=>cases ht
theorem dU {m:Md}:∀ {ts:List T} {n i:Nat} {t:T},ts[i]?=some t->(bg m n ts)[i]?=some [(.d,.int ((n+i:Nat):Int)),(m,t)]
 | t::ts,n,0,_,h=>by cases h; rfl
 | t::ts,n,i+1,_,h=>by
  have:=dU (m:=m) (ts:=ts) (n:=n+1) (i:=i) h
  rw [show n+1+i=n+(i+1) by omega] at this
  exact this
 | [],_,_,_,h=>by simp at h
theorem bo {m:Md}:∀ {ts:List T} {n:Nat},(bg m n ts).length=ts.length
 | [],_=>rfl
 | t::ts,n=>by show (bg m (n+1) ts).length+1=ts.length+1; rw [bo]
end
end MR
namespace MR
open L2 L3 M
open PySem (Addr Str sizeLine)
section
variable {K:a0a}{sl:Cf}{sf sg:Nat->Option Nat}{C:Call}{σ σ2:L2.St}{Z Z' Z1:Fp}{H H' H1:Hp}{Fs Fs' Fs1:Fps}{η η' η1:Env}{G G' R F:Fp}{tg is:List Nat}{pv val:Nat->Option V}
theorem aO:∀ (tg:List Nat) (η:Env) (i:Nat),rd (aC tg η) i=if i∈tg then none else rd η i
 | [],η,i=>by simp [aC]
 | t::tg,η,i=>by
  show rd (aC tg (wr η t none)) i=_
  rw [aO tg,aP]
  by_cases h1:i∈tg
  ·simp [h1]
  ·by_cases h2:i=t
   ·subst h2
    rw [if_neg h1,if_pos a0d]
    split
    ·rfl
    ·rename_i hn
     cases e:rd η i with
     | none=>rfl
     | some w=>exact absurd ⟨rfl,bP e⟩ hn
   ·rw [if_neg h1,if_neg (show ¬ i∈t::tg by simp [h1,h2]),if_neg (show ¬ (i=t/\t < η.length) from fun h=>h2 h.1)]
noncomputable def Nn (η η':Env):Prop:=∀ i,rd η i=none->rd η' i=none
theorem Nn.refl (η:Env):Nn η η:=fun _ h=>h
theorem Nn.trans {a b c:Env}(h:Nn a b)(k:Nn b c):Nn a c:=fun i e=>k i (h i e)
theorem gV (η:Env)(j:Nat):Nn η (del η j):=fun i e=>by
 rw [aP]; split
 ·rfl
 ·exact e
theorem lj {η:Env}{j:Nat}{w:W}(h:rd η j≠none):Nn η (put η j w):=fun i e=>by
 rw [aP]; split
 ·rename_i hc; rw [<- hc.1] at h; exact absurd e h
 ·exact e
theorem cj:∀ {is:List Nat} {ws:List W} {η0 η:Env},(∀ i∈is,rd η0 i≠none)->Nn η0 η->Nn η0 (putAll is ws η)
 | [],_,_,_,_,h=>h
 | _::_,[],_,_,_,h=>h
 | i::is,w::ws,η0,η,hi,h=>by
  show Nn η0 (putAll is ws (put η i w))
  refine cj (fun j hj=>hi j (a0f _ hj)) fun j e=>?_
  rw [aP]; split
  ·rename_i hc; rw [hc.1] at e; exact absurd e (hi i a0d)
  ·exact h j e
theorem cQ {f:Env->Res (Option W×Env)}(hf:∀ {η o η'},f η=.ok (o,η')->Nn η η'):∀ {ts:List (List W)} {η η':Env} {acc ws:List W},(∀ i∈tg,rd η i=none)->cx tg f ts η acc=.ok (ws,η')->Nn η η'
 | [],η,η',acc,ws,_,h=>by cases h; exact Nn.refl _
 | t::ts,η,η',acc,ws,ht,h=>by
  obtain ⟨η1,h1,h2⟩:=aa (show (ofO (aZ tg t η)).bind (fun η1=>(f η1).bind fun p=>cx tg f ts (aC tg p.2) (acc++p.1.toList))=_ from h)
  obtain ⟨⟨o,η2⟩,h3,h4⟩:=aa h2
  have hb:∀ {tg:List Nat} {t:List W} {η η1:Env},aZ tg t η=some η1->∀ i,i ∉ tg->rd η1 i=rd η i:=fun {tg}=>by
   induction tg with
   | nil=>intro t η η1 h i hi; cases t with
    | nil=>cases h; rfl
    | cons _ _=>cases h
   | cons j tg ih=>intro t η η1 h i hi; cases t with
    | nil=>cases h
    | cons w t =>
     have:=ih (show aZ tg t (put η j w)=some η1 from h) i (fun z=>hi (a0f _ z))
     rw [this,aP,if_neg fun z=>hi (by rw [z.1]; exact a0d)]
  have e1:=hb (bF h1)
  have hd:∀ i,rd η i=none->rd (aC tg η2) i=none:=fun i e=>by
   rw [aO]
   split
   ·rfl
   ·rename_i hi
    exact hf h3 i (by rw [e1 i hi]; exact e)
  exact Nn.trans (b:=aC tg η2) hd (cQ hf (fun i hi=>by rw [aO,if_pos hi]) h4)
theorem At.pin (A:At K ⟨sf,pv⟩ σ Z H Fs η G):∃ val,(∀ i u,pv i=some u->val i=some u)/\At K ⟨sf,val⟩ σ Z H Fs η G/\∀ i m t,rd η i=some (m,t)->val i≠none:=by
 have ch:∀ i,∃ o:Option V,(∀ u,pv i=some u->o=some u)/\(∀ u j,o=some u->sf i=some j->σ[j]?=some (some u))/\∀ m t,rd η i=some (m,t)->∃ v,o=some v/\Rep K Z H m t v (Fs i)/\(∀ j,sf i=some j->σ[j]?=some (some v)):=fun i=>by
  cases e:rd η i with
  | none=>exact ⟨pv i,fun _ h=>h,fun u j h hs=>A.lk i u j h hs,fun _ _ h=>by cases h⟩
  | some w =>
   obtain ⟨m,t⟩:=w
   obtain ⟨v,r,h1,h2⟩:=A.env i m t e
   refine ⟨some v,fun u h=>by rw [h2 u h],fun u j h hs=>?_,fun m' t' h=>by cases h; exact ⟨v,rfl,r,h1⟩⟩
   cases h
   exact h1 j hs
 obtain ⟨val,hval⟩:=Classical.axiomOfChoice ch
 refine ⟨val,fun i u h=>(hval i).1 u h,⟨A.gd,fun i m t e=>?_,A.own,A.dis,fun i u j h hs=>(hval i).2.1 u j h hs,A.ln⟩,fun i m t e=>?_⟩
 ·obtain ⟨v,h1,r,h2⟩:=(hval i).2.2 m t e
  exact ⟨v,r,h2,fun u hu=>by rw [show val i=some u from hu] at h1; cases h1; rfl⟩
 ·obtain ⟨v,h1,r,h2⟩:=(hval i).2.2 m t e
  rw [h1]; simp
theorem At.unpin (h:∀ i u,pv i=some u->val i=some u)(A:At K ⟨sf,val⟩ σ Z H Fs η G):At K ⟨sf,pv⟩ σ Z H Fs η G :=
 ⟨A.gd,fun i m t e=>let ⟨v,r,h1,h2⟩:=A.env i m t e; ⟨v,r,h1,fun u hu=>h2 u (h i u hu)⟩,A.own,A.dis,fun i u j hu hs=>A.lk i u j (h i u hu) hs,A.ln⟩
noncomputable def inV (val:Nat->Option V)(tg:List Nat):Nat->Option V:=fun i=>if i∈tg then none else val i
end
section
variable {C:Call}
theorem cX:∀ (vs:List Nat) (η:Env),Nn η (M.share vs η)
 | [],η=>fun _ e=>e
 | v::vs,η=>Nn.trans (b:=wr η v (toS (rd η v))) (fun i e=>by
   rw [aP]; split
   ·rename_i hc; rw [<- hc.1,e]; rfl
   ·exact e) (cX vs _)
theorem j3 (m:Md)(vs:List Nat)(η:Env):Nn η (after m vs η):=by
 cases m with
 | d=>exact fun _ e=>e
 | s=>exact cX vs η
 | o _=>exact cX vs η
theorem fE {α:Type}{tab:List (Str×α)}{f:α->Env->RE}{p:W×Env}{r:W×Env}(h:gi tab f p=.ok r):∃ x a,p.1.2=.str x/\tab.lookup x=some a/\f a p.2=.ok r:=by
 unfold gi at h
 split at h
 ·rename_i x hx
  split at h
  ·rename_i a ha; exact ⟨x,a,hx,ha,h⟩
  ·cases h
 ·cases h
theorem eA {neg:Bool}{ks:List Str}{p r:W×Env}(h:kIn neg ks p=.ok r):∃ x,p.1.2=.str x/\r.2=p.2/\r.1=(.d,.bl (ks.contains x != neg)):=by
 unfold kIn at h
 split at h
 ·rename_i x hx; cases h; exact ⟨x,hx,rfl,rfl⟩
 ·cases h
theorem fF {tab:List (Str×T)}{p r:W×Env}(h:kGet tab p=.ok r):∃ x,p.1.2=.str x/\r.2=p.2/\r.1=(.s,(tab.lookup x).getD .non):=by
 unfold kGet at h
 split at h
 ·rename_i x hx; cases h; exact ⟨x,hx,rfl,rfl⟩
 ·cases h
mutual
theorem aj:∀ (e:E) {η η':Env} {w:W},evE C e η=.ok (w,η')->Nn η η'
 | .var i,η,η',w,h=>by obtain ⟨_,_,e⟩:=aq (show ret η ((rd η i).bind look)=_ from h); cases e; exact Nn.refl _
 | .mv i,η,η',w,h=>by obtain ⟨_,_,e⟩:=aq (show ret (del η i) (rd η i)=_ from h); cases e; exact gV _ _
 | .io i,η,η',w,h=>by obtain ⟨_,_,e⟩:=aq (show ret (del η i) (rd η i)=_ from h); cases e; exact gV _ _
 | .cst t,η,η',w,h=>by cases h; exact Nn.refl _
 | .glb _ t,η,η',w,h=>by cases h; exact Nn.refl _
 | .tup es,η,η',w,h=>by
  obtain ⟨⟨ws,η1⟩,h1,h2⟩:=aa (show (evL C es η).bind gn=_ from h)
  cases h2; exact bT es h1
 | .lst b es,η,η',w,h=>by
  obtain ⟨⟨ws,η1⟩,h1,h2⟩:=aa (show (evL C es η).bind (k4 b)=_ from h)
  cases h2; exact bT es h1
 | .wk m e,η,η',w,h=>by
  obtain ⟨⟨u,η1⟩,h1,h2⟩:=aa (show (evE C e η).bind (kWk m)=_ from h)
  obtain ⟨_,_,e3⟩:=aq (show ret η1 _=_ from h2)
  cases e3; exact aj e h1
 | .op o b es,η,η',w,h=>by
  obtain ⟨ws,h1,h2⟩:=cq h
  exact bT es h1
 | .and a b,η,η',w,h=>by
  obtain ⟨⟨u,η1⟩,h1,h2⟩:=aa (show (evE C a η).bind (lF (evE C b))=_ from h)
  obtain ⟨d,h3,h4⟩:=br (show onT (evE C b) (okW u) (u,η1)=_ from h2)
  cases d with
  | true=>rw [if_pos rfl] at h4; exact (aj a h1).trans (aj b h4)
  | false=>rw [if_neg a0j] at h4; cases h4; exact aj a h1
 | .or a b,η,η',w,h=>by
  obtain ⟨⟨u,η1⟩,h1,h2⟩:=aa (show (evE C a η).bind (kOr (evE C b))=_ from h)
  obtain ⟨d,h3,h4⟩:=br (show onT (okW u) (evE C b) (u,η1)=_ from h2)
  cases d with
  | false=>rw [if_neg a0j] at h4; exact (aj a h1).trans (aj b h4)
  | true=>rw [if_pos rfl] at h4; cases h4; exact aj a h1
 | .not a,η,η',w,h=>by
  obtain ⟨⟨u,η1⟩,h1,h2⟩:=aa (show (evE C a η).bind l8=_ from h)
  obtain ⟨_,_,e3⟩:=aq (show ret η1 _=_ from h2)
  cases e3; exact aj a h1
 | .ifx c a b,η,η',w,h=>by
  obtain ⟨⟨u,η1⟩,h1,h2⟩:=aa (show (evE C c η).bind (onT (evE C a) (evE C b))=_ from h)
  obtain ⟨d,h3,h4⟩:=br h2
  cases d with
  | true=>rw [if_pos rfl] at h4; exact (aj c h1).trans (aj a h4)
  | false=>rw [if_neg a0j] at h4; exact (aj c h1).trans (aj b h4)
 | .chain o q a b c,η,η',w,h=>by
  obtain ⟨⟨x,η1⟩,h1,h2⟩:=aa (show (evE C a η).bind (kC1 o q (evE C b) (evE C c))=_ from h)
  obtain ⟨⟨y,η2⟩,h3,h4⟩:=aa (show (evE C b η1).bind (kC2 o q (evE C c) x)=_ from h2)
  obtain ⟨⟨k,η3⟩,h5,h6⟩:=aa (show (ret η2 (oSem o false [x,y])).bind (fun k=>onB k.1.2 (iz (evE C c) (kC3 q y)) (okW (.d,.bl false)) k.2)=_ from h4)
  obtain ⟨k',_,e5⟩:=aq h5
  have e6:η3=η2:=congrArg a1Q e5
  have n2:=(aj a h1).trans (aj b h3)
  have h6':onB k.2 (iz (evE C c) (kC3 q y)) (okW (.d,.bl false)) η2=.ok (w,η'):=by rw [<- e6]; exact h6
  generalize k.2=kk at h6'
  cases kk with
  | bl b =>
   cases b with
   | true =>
    obtain ⟨⟨z,η4⟩,h7,h8⟩:=aa (show (evE C c η2).bind (kC3 q y)=_ from h6')
    obtain ⟨z',_,e8⟩:=aq (show ret η4 (oSem q false [y,z])=_ from h8)
    have e9:η'=η4:=congrArg a1Q e8
    rw [e9]
    exact n2.trans (aj c h7)
   | false=>cases h6'; exact n2
  | _=>cases h6'
 | .call f es,η,η',w,h=>by
  obtain ⟨⟨ws,η1⟩,h1,h2⟩:=aa (show (evA C es η).bind (dn C f (ios es))=_ from h)
  obtain ⟨⟨u,us⟩,h3,h4⟩:=aa (show (C f ws).bind (fo (ios es) η1)=_ from h2)
  cases h4
  exact cj (cW es h1) (bU es h1)
 | .comp b k src tg none elt,η,η',w,h=>by
  obtain ⟨⟨ws,η1⟩,h1,h2⟩:=aa (show (evL C src η).bind (c9 b k tg (fK (evE C elt)))=_ from h)
  obtain ⟨⟨ts,η2⟩,h3,h4⟩:=aa (show (ret (aC tg η1) (aW k ws)).bind (fun t=>(cx tg (fK (evE C elt)) t.1 t.2 []).bind (jt b))=_ from h2)
  obtain ⟨_,_,e3⟩:=aq h3
  have e4:η2=aC tg η1:=congrArg a1Q e3
  subst e4
  obtain ⟨⟨us,η3⟩,h5,h6⟩:=aa (show (cx tg (fK (evE C elt)) ts (aC tg η1) []).bind (jt b)=_ from h4)
  obtain ⟨_,_,e6⟩:=aq (show ret η3 _=_ from h6)
  have e7:η'=η3:=congrArg a1Q e6
  subst e7
  refine (bT src h1).trans (Nn.trans (b:=aC tg η1) (fun i e=>by rw [aO]; split<;>first | rfl | exact e) (cQ (fun {η o η'} hf=>?_) (fun i hi=>by rw [aO,if_pos hi]) h5))
  obtain ⟨⟨u,η4⟩,h7,h8⟩:=aa (show (evE C elt η).bind iu=_ from hf)
  cases h8
  exact aj elt h7
 | .comp b k src tg (some c) elt,η,η',w,h=>by
  obtain ⟨⟨ws,η1⟩,h1,h2⟩:=aa (show (evL C src η).bind (c9 b k tg (lG (evE C c) (evE C elt)))=_ from h)
  obtain ⟨⟨ts,η2⟩,h3,h4⟩:=aa (show (ret (aC tg η1) (aW k ws)).bind (fun t=>(cx tg (lG (evE C c) (evE C elt)) t.1 t.2 []).bind (jt b))=_ from h2)
  obtain ⟨_,_,e3⟩:=aq h3
  have e4:η2=aC tg η1:=congrArg a1Q e3
  subst e4
  obtain ⟨⟨us,η3⟩,h5,h6⟩:=aa (show (cx tg (lG (evE C c) (evE C elt)) ts (aC tg η1) []).bind (jt b)=_ from h4)
  obtain ⟨_,_,e6⟩:=aq (show ret η3 _=_ from h6)
  have e7:η'=η3:=congrArg a1Q e6
  subst e7
  refine (bT src h1).trans (Nn.trans (b:=aC tg η1) (fun i e=>by rw [aO]; split<;>first | rfl | exact e) (cQ (fun {η o η'} hf=>?_) (fun i hi=>by rw [aO,if_pos hi]) h5))
  obtain ⟨⟨u,η4⟩,h7,h8⟩:=aa (show (evE C c η).bind (onT (fK (evE C elt)) (okW none))=_ from hf)
  obtain ⟨d,h9,h10⟩:=br h8
  cases d with
  | true =>
   rw [if_pos rfl] at h10
   obtain ⟨⟨u2,η5⟩,h11,h12⟩:=aa (show (evE C elt η4).bind iu=_ from h10)
   cases h12
   exact (aj c h7).trans (aj elt h11)
  | false =>
   rw [if_neg a0j] at h10
   cases h10
   exact aj c h7
 | .pop i es,η,η',w,h=>by
  obtain ⟨_,_,h0⟩:=aa (show (cC (rd η i)).bind (fS (evL C es) η (iZ i))=_ from h)
  obtain ⟨⟨ws,η1⟩,h1,h2⟩:=aa (show (evL C es η).bind (iZ i)=_ from h0)
  obtain ⟨r,h3,h4⟩:=aa (show (ofO ((rd η1 i).bind fun w=>eC w ws)).bind (fun r=>.ok (r.1,put η1 i r.2))=_ from h2)
  cases h4
  refine (bT es h1).trans (lj ?_)
  have:=bF h3
  intro e; rw [e] at this; cases this
 | .lenV i,η,η',w,h=>by obtain ⟨_,_,e⟩:=aq (show ret η ((rd η i).bind fun w=>oSem .len false [w])=_ from h); cases e; exact Nn.refl _
 | .tupA es,η,η',w,h=>by
  obtain ⟨⟨ws,η1⟩,h1,h2⟩:=aa (show (evA C es η).bind gn=_ from h)
  cases h2; exact bU es h1
 | .qx vs ls e,η,η',w,h=>by
  obtain ⟨⟨u,η1⟩,h1,h2⟩:=aa (show (evE C e (pick vs ls η)).bind (kX vs η)=_ from h)
  cases h2
  exact j3 _ vs η
 | .mvP i p,η,η',w,h=>by
  obtain ⟨r,h1,h2⟩:=aa (show (ofO ((rd η i).bind (p8 p))).bind (vP i η)=_ from h)
  cases h2
  refine lj fun e=>?_
  have:=bF h1
  rw [e] at this; cases this
 | .callT tab k es,η,η',w,h=>by
  obtain ⟨⟨u,η1⟩,h1,h2⟩:=aa (show (evE C k η).bind (gi tab (kCT C (evA C es) (ios es)))=_ from h)
  obtain ⟨x,j,_,_,h3⟩:=fE h2
  obtain ⟨⟨ws,η2⟩,h4,h5⟩:=aa (show (evA C es η1).bind (dn C j (ios es))=_ from h3)
  obtain ⟨⟨r,bs⟩,h6,h7⟩:=aa (show (C j ws).bind (fo (ios es) η2)=_ from h5)
  cases h7
  exact (aj k h1).trans (cj (cW es h4) (bU es h4))
 | .inT neg ks e,η,η',w,h=>by
  obtain ⟨⟨u,η1⟩,h1,h2⟩:=aa (show (evE C e η).bind (kIn neg ks)=_ from h)
  obtain ⟨x,_,e2,_⟩:=eA h2
  cases e2; exact aj e h1
 | .ixT tab e,η,η',w,h=>by
  obtain ⟨⟨u,η1⟩,h1,h2⟩:=aa (show (evE C e η).bind (gi tab okS)=_ from h)
  obtain ⟨x,j,_,_,h3⟩:=fE h2
  cases h3; exact aj e h1
 | .getT tab e,η,η',w,h=>by
  obtain ⟨⟨u,η1⟩,h1,h2⟩:=aa (show (evE C e η).bind (kGet tab)=_ from h)
  obtain ⟨x,_,e2,_⟩:=fF h2
  cases e2; exact aj e h1
theorem bT:∀ (es:List E) {η η':Env} {ws:List W},evL C es η=.ok (ws,η')->Nn η η'
 | [],η,η',ws,h=>by cases h; exact Nn.refl _
 | e::es,η,η',ws,h=>by
  obtain ⟨w,η1,us,h1,h2,_⟩:=aG h
  exact (aj e h1).trans (bT es h2)
theorem bU:∀ (es:List E) {η η':Env} {ws:List W},evA C es η=.ok (ws,η')->Nn η η'
 | [],η,η',ws,h=>by cases h; exact Nn.refl _
 | e::es,η,η',ws,h=>by
  rcases vK e with ⟨i,hi⟩ | he
  ·subst hi
   obtain ⟨us,η1,w,h1,_,_,h4⟩:=eu h
   rw [h4]
   exact (bU es h1).trans (gV _ _)
  ·obtain ⟨w,η1,us,h1,h2,_⟩:=c7 he h
   exact (aj e h1).trans (bU es h2)
theorem cW:∀ (es:List E) {η η':Env} {ws:List W},evA C es η=.ok (ws,η')->∀ i∈ios es,rd η i≠none
 | [],_,_,_,_,i,hi=>by simp [ios] at hi
 | e::es,η,η',ws,h,i,hi=>by
  rcases vK e with ⟨j,hj⟩ | he
  ·subst hj
   obtain ⟨us,η1,w,h1,h2,_,_⟩:=eu h
   rcases a0k.mp (show i∈j::ios es from hi) with z | z
   ·subst z
    exact fun z=>by rw [bU es h1 i z] at h2; cases h2
   ·exact cW es h1 i z
  ·obtain ⟨w,η1,us,h1,h2,_⟩:=c7 he h
   have hi':i∈ios es:=by
    cases e with
    | io j=>exact absurd rfl (he j)
    | _=>exact hi
   exact fun z=>cW es h2 i hi' (aj e h1 i z)
end
end
section
variable {K:a0a}{sl:Cf}{sf sg:Nat->Option Nat}{C:Call}{σ σ2:L2.St}{Z Z' Z1:Fp}{H H' H1:Hp}{Fs Fs' Fs1:Fps}{η η' η1 ηb:Env}{G G' R F:Fp}{tg is:List Nat}{pv val:Nat->Option V}
noncomputable def lX (Fs:Fps)(tg:List Nat):Fps:=fun j a=>j ∉ tg/\Fs j a
theorem fN {a:Addr}(h:tot (lX Fs tg) a):tot Fs a:=let ⟨j,_,h2⟩:=h; ⟨j,h2⟩
end
end MR
namespace MR
open L2 L3 M
open PySem (Addr Str sizeLine)
section
variable {K:a0a}{sf sg:Nat->Option Nat}{C:Call}{tg is:List Nat}
theorem jk {α:Type}{l:List α}{i:Nat}{a:α}(h:l[i]?=some a):l.drop i=a::l.drop (i+1):=by
 obtain ⟨h1,h2⟩:=a0o.mp h
 rw [List.drop_eq_getElem_cons h1,h2]
end
end MR
namespace MR
open L2 L3 M
open PySem (Addr Str sizeLine)
section
variable {K:a0a}{sl:Cf}{sf sg:Nat->Option Nat}{C:Call}{σ σ2:L2.St}{Z Z' Z1:Fp}{H H' H1:Hp}{Fs Fs' Fs1:Fps}{η η' η1 ηb:Env}{G G' G1 R F:Fp}{tg is:List Nat}{pv val:Nat->Option V}
noncomputable def fM (Fs:Fps)(i:Nat)(G:Fp):Fps:=fun j a=>(j=i/\G a)\/(j≠i/\Fs j a)
theorem aT {i:Nat}{a:Addr}(h:tot (fM Fs i G) a):tot Fs a\/G a:=by
 obtain ⟨j,h | h⟩:=h
 ·exact .inr h.2
 ·exact .inl ⟨j,h.2⟩
theorem At.put {i:Nat}{w:W}{x:V}(A:At K sl σ Z H Fs η G)(r:Rep K Z H w.1 w.2 x G1)(h1:∀ a,G1 a->G a)(h2:∀ a,R a->G a)(hd:∀ a,R a->¬ G1 a)(hl:∀ j,sl.sl i=some j->σ[j]?=some (some x))(hp:∀ u,sl.pv i=some u->x=u) :
  At K sl σ Z H (fM Fs i G1) (M.put η i w) R:=by
 refine ⟨⟨fun a h=>(aT h).elim (A.gd.own a) fun q=>A.own a (h1 a q),fun j k a hj hk=>?_,A.gd.zal⟩,fun j m t e=>?_,fun a h=>A.own a (h2 a h),fun a h q=>(aT q).elim (A.dis a (h2 a h)) (hd a h),A.lk,A.ln⟩
 ·rcases hj with ⟨rfl,hj⟩ | ⟨nj,hj⟩
  ·rcases hk with ⟨rfl,_⟩ | ⟨nk,hk⟩
   ·rfl
   ·exact absurd ⟨k,hk⟩ (A.dis a (h1 a hj))
  ·rcases hk with ⟨rfl,hk⟩ | ⟨nk,hk⟩
   ·exact absurd ⟨j,hj⟩ (A.dis a (h1 a hk))
   ·exact A.gd.dis j k a hj hk
 ·rw [aP] at e
  split at e
  ·rename_i hc
   cases e
   obtain ⟨rfl,_⟩:=hc
   exact ⟨x,r.mono fun a h=>.inl ⟨rfl,h⟩,hl,hp⟩
  ·rename_i hc
   obtain ⟨v,r',h'⟩:=A.env j m t e
   by_cases hj:j=i
   ·subst hj
    exact absurd ⟨rfl,bP e⟩ hc
   ·exact ⟨v,r'.mono fun a h=>.inr ⟨hj,h⟩,h'⟩
noncomputable def wA (K:a0a)(sl:Nat->Option Nat)(C:Call)(es:List E):TA:=fun σ H Q=>∃ pv Z Fs η ws η',At K ⟨sl,pv⟩ σ Z H Fs η no/\evA C es η=.ok (ws,η') /\
 ∀ vs Z' H' Fs' G,At K ⟨sl,pv⟩ σ Z' H' Fs' η' G->RepW K Z' H' ws vs G->Step Z H (tot Fs) Z' H' (fun a=>tot Fs' a\/G a)->(∀ (k i:Nat) (u:V),es[k]?=some (.io i)->pv i=some u->vs[k]?=some u)->Q vs H'
theorem rm (σ:L2.St)(H:Hp)(Q:List V->Hp->Prop)(h:wA K sf C [] σ H Q):rG σ H Q:=by
 obtain ⟨pv,Z,Fs,η,ws,η',A,ev,k⟩:=h
 cases ev
 exact k [] Z H Fs no A rfl ((Step.refl _ _ _).mono (fun _ z=>z) fun a ha=>ha.elim id fun z=>z.elim) fun k i u h _=>by simp at h
theorem xS {es:List E}{ws:List W}{Q:List V->Hp->Prop}(A:At K sl σ Z H Fs η R)(ev:evA C es η=.ok (ws,η'))
  (k:∀ vs Z' H' Fs' G,At K sl σ Z' H' Fs' η' (fun c=>R c\/G c)->RepW K Z' H' ws vs G->(∀ c,R c->¬ G c)->Step Z H (tot Fs) Z' H' (fun a=>tot Fs' a\/G a) ->
   Step Z H (fun c=>tot Fs c\/R c) Z' H' (fun c=>tot Fs' c\/(R c\/G c))->(∀ (k i:Nat) (u:V),es[k]?=some (.io i)->sl.pv i=some u->vs[k]?=some u)->Q vs H'):wA K sl.sl C es σ H Q :=
 ⟨sl.pv,Z,Fs,η,ws,η',A.bare,ev,fun v Z' H' Fs' G B r s hio=>by
  obtain ⟨h1,h2,h3⟩:=A.frame B s
  exact k v Z' H' Fs' G h1 r h3 s h2 hio⟩
theorem j9 {e:E}{es:List E}(he:∀ i,e≠.io i)(σ:L2.St)(H:Hp)(Q:List V->Hp->Prop)(h:wA K sf C (e::es) σ H Q):hJ (wE K sf C e) (wA K sf C es) σ H Q:=by
 obtain ⟨pv,Z,Fs,η,ws,η',A,ev,k⟩:=h
 obtain ⟨w,η1,us,h1,h2,rfl⟩:=c7 he ev
 refine mD A h1 fun x Z1 H1 Fs1 G1 A1 r1 _ s1 _=>?_
 have A1':=A1.mono (G':=G1) fun _ z=>.inr z
 refine xS A1' h2 fun xs Z2 H2 Fs2 G2 A2 r2 d2 s2 t2 hio=>?_
 refine k (x::xs) Z2 H2 Fs2 _ A2 ⟨x,xs,G1,G2,rfl,fun _ z=>.inl z,fun _ z=>.inr z,d2,r1.frame A1.gd.own s2 A1'.dis,r2⟩ (s1.trans t2) fun k i u h hu=>?_
 cases k with
 | zero=>exact absurd (a0t h) (he i)
 | succ k=>exact hio k i u h hu
theorem jv {i j:Nat}{es:List E}(hs:sf i=some j)(σ:L2.St)(H:Hp)(Q:List V->Hp->Prop)(h:wA K sf C (.io i::es) σ H Q):hJ (iW j) (wA K sf C es) σ H Q:=by
 obtain ⟨pv,Z,Fs,η,ws,η',A,ev,k⟩:=h
 obtain ⟨us,η1,w,h1,h2,rfl,rfl⟩:=eu ev
 obtain ⟨m,t⟩:=w
 cases e0:rd η i with
 | none=>rw [bU es h1 i e0] at h2; cases h2
 | some w0 =>
  obtain ⟨v,_,hv⟩:=A.env i w0.1 w0.2 e0
  refine ⟨v,hv.1 j hs,pv,Z,Fs,η,us,η1,A,h1,fun xs Z2 H2 Fs2 G2 A2 r2 s2 hio=>?_⟩
  obtain ⟨v',r,hv'⟩:=A2.env i m t h2
  have ev':v'=v:=by
   have e1:=hv.1 j hs
   rw [hv'.1 j hs] at e1
   exact a0t (a0t e1)
  subst ev'
  have A3:At K ⟨sf,pv⟩ σ Z2 H2 (ud Fs2 i) (del η1 i) (fun a=>Fs2 i a\/G2 a):=by
   refine ⟨⟨fun a ⟨l,h1,h2⟩=>A2.gd.own a ⟨l,h2⟩,fun l l' a h1 h2=>A2.gd.dis l l' a h1.2 h2.2,A2.gd.zal⟩,fun l m' t' e=>?_,fun a ha=>ha.elim (fun z=>A2.gd.own a ⟨i,z⟩) (A2.own a),fun a ha ⟨l,h1,h2⟩=>ha.elim (fun z=>h1 (A2.gd.dis l i a h2 z)) fun z=>A2.dis a z ⟨l,h2⟩,A2.lk,A2.ln⟩
   rw [aP] at e
   split at e
   ·cases e
   ·rename_i hne
    obtain ⟨v'',r',hv''⟩:=A2.env l m' t' e
    have hli:l≠i:=fun z=>hne ⟨z,bP h2⟩
    exact ⟨v'',r'.mono fun a ha=>⟨hli,ha⟩,hv''⟩
  refine k (v'::xs) Z2 H2 (ud Fs2 i) _ A3 ⟨v',xs,Fs2 i,G2,rfl,fun _ z=>.inl z,fun _ z=>.inr z,fun a z y=>A2.dis a y ⟨i,z⟩,r,r2⟩ (s2.mono (fun _ z=>z) fun a ha=>?_) fun k i' u h hu=>?_
  ·rcases ha with ⟨l,_,z⟩ | z | z
   ·exact .inl ⟨l,z⟩
   ·exact .inl ⟨i,z⟩
   ·exact .inr z
  ·cases k with
   | zero=>cases h; rw [<- hv'.2 u hu]; rfl
   | succ k=>exact hio k i' u h hu
noncomputable def atV (io:List Nat)(vs:List V):List V:=io.filterMap fun i=>vs[i]?
noncomputable def spC (K:a0a)(C:Call)(f:Nat)(io:List Nat):List V->Hp->VK->Prop:=fun vs H Q=>∃ Z ws G w bs,RepW K Z H ws vs G/\Own Z H G/\(∀ a,Z a->H a≠none)/\C f ws=.ok (w,bs) /\
 ∀ v Z' H' G1 G2,Rep K Z' H' w.1 w.2 v G1->RepW K Z' H' bs (atV io vs) G2->(∀ a,G1 a->¬ G2 a)->Own Z' H' (fun a=>G1 a\/G2 a)->Step Z H G Z' H' (fun a=>G1 a\/G2 a)->Q v H'
noncomputable def cM:List E->Nat->List Nat
 | [],_=>[]
 | .io _::es,n=>n::cM es (n+1)
 | _::es,n=>cM es (n+1)
theorem pK {vs:List V}:∀ {es:List E} {n:Nat},(∀ (k i:Nat) (u:V),es[k]?=some (.io i)->pv i=some u->vs[n+k]?=some u)->(∀ i∈ios es,pv i≠none)->(ios es).filterMap pv=atV (cM es n) vs
 | [],_,_,_=>rfl
 | e::es,n,h,hv=>by
  have rest:(∀ i∈ios es,pv i≠none)->(ios es).filterMap pv=atV (cM es (n+1)) vs:=fun q=>pK (fun k i u hk hu=>by have:=h (k+1) i u hk hu; rw [show n+(k+1)=n+1+k by omega] at this; exact this) q
  cases e with
  | io i =>
   cases hu:pv i with
   | none=>exact absurd hu (hv i (by simp [ios]))
   | some u =>
    have h0:=h 0 i u rfl hu
    rw [Nat.add_zero] at h0
    show (i::ios es).filterMap pv=(n::cM es (n+1)).filterMap fun i=>vs[i]?
    rw [a0E,a0E,hu,h0]
    exact congrArg (u::·) (rest fun j hj=>hv j (by simp [ios,hj]))
  | _=>exact rest fun j hj=>hv j hj
theorem At.putAll:∀ {is:List Nat} {bs:List W} {Fs:Fps} {η:Env} {G2:Fp},At K ⟨sf,val⟩ σ Z H Fs η (fun a=>R a\/G2 a)->(∀ a,R a->¬ G2 a)->RepW K Z H bs (is.filterMap val) G2->(∀ i∈is,val i≠none)->∃ Fs',At K ⟨sf,val⟩ σ Z H Fs' (M.putAll is bs η) R/\∀ a,tot Fs' a->tot Fs a\/G2 a
 | [],bs,Fs,η,G2,A,_,_,_=>⟨Fs,A.mono fun _ z=>.inl z,fun _ z=>.inl z⟩
 | i::is,[],Fs,η,G2,A,_,_,_=>⟨Fs,A.mono fun _ z=>.inl z,fun _ z=>.inl z⟩
 | i::is,b::bs,Fs,η,G2,A,hd,r,hv=>by
  cases hu:val i with
  | none=>exact absurd hu (hv i a0d)
  | some u =>
   rw [a0E,hu] at r
   obtain ⟨x,r',A1,A2,e,a1,a2,ad,p,q⟩:=r
   cases e
   have B:=At.put (i:=i) (R:=fun a=>R a\/A2 a) (G1:=A1) A p (fun a h=>.inr (a1 a h)) (fun a h=>h.imp id (a2 a)) (fun a h q=>h.elim (fun z=>hd a z (a1 a q)) fun z=>ad a q z) (fun j hj=>A.lk i u j hu hj) (fun u' hu'=>by rw [show val i=some u' from hu'] at hu; cases hu; rfl)
   obtain ⟨Fs',B1,B2⟩:=At.putAll (is:=is) (bs:=bs) B (fun a h q=>hd a h (a2 a q)) q fun j hj=>hv j (a0f _ hj)
   exact ⟨Fs',B1,fun a h=>(B2 a h).elim (fun z=>(aT z).imp id (a1 a)) fun z=>.inr (a2 a z)⟩
theorem nG {f:Nat}{es:List E}{io:List Nat}(hio:cM es 0=io\/ios es=[])(σ:L2.St)(H:Hp)(Q:VK)(h:wE K sf C (.call f es) σ H Q):wA K sf C es σ H fun vs H1=>spC K C f io vs H1 Q:=by
 obtain ⟨pv,Z,Fs,η,w,η',A,ev,k⟩:=h
 obtain ⟨⟨ws,η1⟩,h1,h2⟩:=aa (show (evA C es η).bind (dn C f (ios es))=_ from ev)
 obtain ⟨⟨u,bs⟩,h3,h4⟩:=aa (show (C f ws).bind (fo (ios es) η1)=_ from h2)
 cases h4
 obtain ⟨val,v1,A2,v2⟩:=A.pin
 have hvn:∀ i∈ios es,val i≠none:=fun i hi=>by
  cases e:rd η i with
  | none=>exact absurd e (cW es h1 i hi)
  | some q=>exact v2 i q.1 q.2 e
 refine ⟨val,Z,Fs,η,ws,η1,A2,h1,fun vs Z1 H1 Fs1 G B r s hv=>?_⟩
 refine ⟨Z1,ws,G,u,bs,r,B.own,B.gd.zal,h3,fun v Z2 H2 G1 G2 r1 r2 d o st=>?_⟩
 obtain ⟨B2,s2⟩:=B.op o st
 have fin:∃ Fs',At K ⟨sf,val⟩ σ Z2 H2 Fs' (M.putAll (ios es) bs η1) G1/\∀ a,tot Fs' a->tot Fs1 a\/G2 a:=by
  rcases hio with e | e
  ·have e2:=pK (pv:=val) (es:=es) (n:=0) (vs:=vs) (fun k i u' hk hu=>by rw [a2b]; exact hv k i u' hk hu) hvn
   rw [e] at e2
   rw [<- e2] at r2
   exact At.putAll B2 d r2 hvn
  ·rw [e]
   exact ⟨Fs1,B2.mono fun _ z=>.inl z,fun _ z=>.inl z⟩
 obtain ⟨Fs',B3,hF⟩:=fin
 refine k v Z2 H2 Fs' G1 (B3.unpin v1) r1 ((s.trans s2).mono (fun _ z=>z) fun a ha=>?_)
 rcases ha with z | z
 ·exact (hF a z).imp id .inr
 ·exact .inr (.inl z)
end
end MR
namespace MR
open L2 L3 M
open PySem (Addr Str sizeLine)
section
variable {K:a0a}{sl:Cf}{sf sg:Nat->Option Nat}{C:Call}{σ σ2:L2.St}{Z Z' Z1:Fp}{H H' H1:Hp}{Fs Fs' Fs1:Fps}{η η' η1 ηb:Env}{G G' G1 R F F':Fp}{tg is vs ls:List Nat}{pv val:Nat->Option V}
theorem kS (o:Option W):toS (toS o)=toS o:=by
 cases o with
 | none=>rfl
 | some w=>rfl
theorem dA:∀ (vs:List Nat) (η:Env) (i:Nat),rd (share vs η) i=if i∈vs then toS (rd η i) else rd η i
 | [],η,i=>by simp [share]
 | v::vs,η,i=>by
  show rd (share vs (wr η v (toS (rd η v)))) i=_
  rw [dA vs,aP]
  by_cases h2:i=v
  ·subst h2
   rw [if_pos (show i∈i::vs from a0d)]
   by_cases hl:i < η.length
   ·rw [if_pos (show i=i/\i < η.length from ⟨rfl,hl⟩)]
    split
    ·exact kS _
    ·rfl
   ·have e:rd η i=none:=by
     cases e:rd η i with
     | none=>rfl
     | some w=>exact absurd (bP e) hl
    rw [if_neg (show ¬ (i=i/\i < η.length) from fun h=>hl h.2),e]
    split<;>rfl
  ·rw [if_neg (show ¬ (i=v/\v < η.length) from fun h=>h2 h.1)]
   by_cases h1:i∈vs
   ·rw [if_pos h1,if_pos (a0f _ h1)]
   ·rw [if_neg h1,if_neg (by simp [h1,h2])]
theorem fU:∀ (η:Env) (i:Nat),rd (cR η) i=none
 | [],_=>rfl
 | _::_,0=>rfl
 | _::η,i+1=>fU η i
theorem iE:∀ (vs:List Nat) (η0 η:Env) (i:Nat) (w:W),rd (g7 vs η0 η) i=some w->rd η i=some w\/(i∈vs/\toS (rd η0 i)=some w)
 | [],_,_,_,_,h=>.inl h
 | v::vs,η0,η,i,w,h=>by
  rcases iE vs η0 (wr η v (toS (rd η0 v))) i w h with e | e
  ·rw [aP] at e
   split at e
   ·rename_i hc; obtain ⟨rfl,_⟩:=hc; exact .inr ⟨a0d,e⟩
   ·exact .inl e
  ·exact .inr ⟨a0f _ e.1,e.2⟩
theorem fW:∀ (vs:List Nat) (η0 η:Env) (i:Nat) (w:W),rd (dm vs η0 η) i=some w->rd η i=some w\/lfO (rd η0 i)=some w
 | [],_,_,_,_,h=>.inl h
 | v::vs,η0,η,i,w,h=>by
  rcases fW vs η0 (wr η v (lfO (rd η0 v))) i w h with e | e
  ·rw [aP] at e
   split at e
   ·rename_i hc; obtain ⟨rfl,_⟩:=hc; exact .inr e
   ·exact .inl e
  ·exact .inr e
theorem oU {i:Nat}{w:W}(h:rd (pick vs ls η) i=some w):∃ m t,rd η i=some (m,t)/\((i∈vs/\w=(.s,t))\/(t.leaf=true/\w=(.d,t))):=by
 rcases fW ls η _ i w h with e | e
 ·rcases iE vs η _ i w e with e | ⟨hi,e⟩
  ·rw [fU] at e; cases e
  ·cases q:rd η i with
   | none=>rw [q] at e; cases e
   | some u=>rw [q] at e; cases e; exact ⟨u.1,u.2,rfl,.inl ⟨hi,rfl⟩⟩
 ·cases q:rd η i with
  | none=>rw [q] at e; cases e
  | some u =>
   rw [q] at e
   obtain ⟨m,t⟩:=u
   have e':(if t.leaf=true then some ((.d,t):W) else none)=some w:=e
   split at e'
   ·rename_i hl; cases e'; exact ⟨m,t,rfl,.inr ⟨hl,rfl⟩⟩
   ·cases e'
noncomputable def bp (Fs:Fps)(vs:List Nat):Fp:=fun a=>∃ i,i∈vs/\Fs i a
noncomputable def jR:Fps:=fun _ _=>False
theorem bc {a:Addr}(h:bp Fs vs a):tot Fs a:=let ⟨i,_,h⟩:=h; ⟨i,h⟩
theorem eP {a:Addr}(h:tot jR a):False:=let ⟨_,h⟩:=h; h
theorem At.quiet (A:At K sl σ Z H Fs η no):At K sl σ (fun a=>Z a\/bp Fs vs a) H jR (pick vs ls η) no:=by
 refine ⟨⟨fun a h=>(eP h).elim,fun _ _ _ h=>h.elim,fun a h=>h.elim (A.gd.zal a) fun q=>?_⟩,fun i m t e=>?_,ba,fun _ z=>z.elim,A.lk,A.ln⟩
 ·obtain ⟨_,xs,e⟩:=A.gd.own a (bc q)
  rw [e]; simp
 ·obtain ⟨m',t',e1,e2⟩:=oU e
  obtain ⟨v,r,h⟩:=A.env i m' t' e1
  rcases e2 with ⟨hi,e2⟩ | ⟨hl,e2⟩
  ·cases e2
   exact ⟨v,(r.sh.zmono fun a h=>h.imp id fun q=>⟨i,hi,q⟩).sany,h⟩
  ·cases e2
   exact ⟨v,r.leaf (fun _ _ _ q=>q) hl,h⟩
mutual
theorem Rep.dany:∀ {t:T} {v:V} {G:Fp},Rep K Z H .d t v G->Rep K Z' H .d t v G
 | .non,_,_,h=>h
 | .bl _,_,_,h=>h
 | .int _,_,_,h=>h
 | .str _,_,_,h=>h
 | .scr _,_,_,h=>h
 | .tup ts,_,_,⟨a,xs,e,q,l,r⟩=>⟨a,xs,e,q,l,RepL.dany r⟩
 | .lst ts,_,_,⟨a,xs,e,l,q,r⟩=>⟨a,xs,e,l,q,RepL.dany r⟩
 | .dct _ _,_,_,⟨a,xs,e,l,q,n,hl,r⟩=>⟨a,xs,e,l,q,n,hl,RepL.dany r⟩
 | .ins _ _ _,_,_,h=>h.elim
 | .gone,_,_,h=>h
theorem RepL.dany:∀ {ts:List T} {xs:List V} {G:Fp},RepL K Z H .d ts xs G->RepL K Z' H .d ts xs G
 | [],_,_,h=>h
 | t::ts,xs,_,⟨x,r,G1,G2,e,h1,h2,hd,p,q⟩=>⟨x,r,G1,G2,e,h1,h2,hd,Rep.dany p,RepL.dany q⟩
end
theorem bR (A:At K sl σ Z H Fs η no)(B:Own Z' H' G)(zal:∀ a,Z' a->H' a≠none)(s:Step (fun a=>Z a\/bp Fs vs a) H F Z' H' (fun a=>F' a\/G a))(hF:∀ a,¬ F a) :
  At K sl σ (fun a=>Z' a/\¬ bp Fs vs a) H' Fs η G/\Step Z H (tot Fs) (fun a=>Z' a/\¬ bp Fs vs a) H' (fun a=>tot Fs a\/G a):=by
 have keep:∀ a o,H a=some o->H' a=some o:=fun a o e=>s.keep a o e (hF a)
 have zz:∀ a,Z a->Z' a/\¬ bp Fs vs a:=fun a h=>⟨s.zm a (.inl h),fun q=>(A.gd.own a (bc q)).1 h⟩
 have nz:∀ a,tot Fs a->¬ (Z' a/\¬ bp Fs vs a):=fun a h q=>by
  obtain ⟨nz,xs,e⟩:=A.gd.own a h
  rcases s.zn a q.1 with z | z | z
  ·exact z.elim nz q.2
  ·exact hF a z
  ·rw [e] at z; cases z
 have gd:∀ a,G a->¬ tot Fs a:=fun a h q=>by
  obtain ⟨_,xs,e⟩:=A.gd.own a q
  rcases s.fn a (.inr h) with z | z
  ·exact hF a z
  ·rw [e] at z; cases z
 refine ⟨⟨⟨fun a h=>?_,A.gd.dis,fun a h=>zal a h.1⟩,fun i m t e=>?_,fun a h=>⟨fun q=>(B a h).1 q.1,(B a h).2⟩,gd,A.lk,A.ln⟩,⟨fun a o e _=>keep a o e,zz,fun a h=>?_,fun a h=>?_,s.al,fun _ a h=>zal a h.1⟩⟩
 ·obtain ⟨_,xs,e⟩:=A.gd.own a h
  exact ⟨nz a h,xs,keep a _ e⟩
 ·obtain ⟨v,r,h⟩:=A.env i m t e
  refine ⟨v,r.keep ⟨fun a o _ e=>keep a o e,fun a xs e=>?_,fun a o u e=>keep a _ e⟩ zz fun a o _ e=>keep a o e,h⟩
  rcases e with e | ⟨u,e⟩
  ·exact .inl (keep a _ e)
  ·exact .inr ⟨u,keep a _ e⟩
 ·rcases s.zn a h.1 with z | z | z
  ·exact z.elim .inl fun q=>absurd q h.2
  ·exact (hF a z).elim
  ·exact .inr (.inr z)
 ·rcases h with h | h
  ·exact .inl h
  ·exact (s.fn a (.inr h)).elim (fun z=>(hF a z).elim) .inr
theorem At.share (A:At K sl σ Z H Fs η G):At K sl σ (fun a=>Z a\/bp Fs vs a) H (lX Fs vs) (M.share vs η) G/\∀ {Z0 H0 F0},Step Z0 H0 F0 Z H (fun a=>tot Fs a\/G a)->Step Z0 H0 F0 (fun a=>Z a\/bp Fs vs a) H (fun a=>tot (lX Fs vs) a\/G a):=by
 refine ⟨⟨⟨fun a h=>?_,fun i j a h1 h2=>A.gd.dis i j a h1.2 h2.2,fun a h=>h.elim (A.gd.zal a) fun q=>?_⟩,fun i m t e=>?_,fun a h=>⟨fun z=>z.elim (A.own a h).1 fun q=>A.dis a h (bc q),(A.own a h).2⟩,fun a h q=>A.dis a h (fN q),A.lk,A.ln⟩,fun {Z0 H0 F0} s=>⟨s.keep,fun a h=>.inl (s.zm a h),fun a h=>h.elim (s.zn a) fun q=>.inr (s.fn a (.inl (bc q))),fun a h=>s.fn a (h.imp fN id),s.al,fun z a h=>h.elim (s.za z a) fun q=>?_⟩⟩
 ·obtain ⟨i,hi,h'⟩:=h
  obtain ⟨nz,xs,e⟩:=A.gd.own a ⟨i,h'⟩
  exact ⟨fun z=>z.elim nz fun ⟨j,hj,q⟩=>hi (A.gd.dis i j a h' q ▸ hj),xs,e⟩
 ·obtain ⟨_,xs,e⟩:=A.gd.own a (bc q)
  rw [e]; simp
 ·rw [dA] at e
  split at e
  ·rename_i hi
   cases q:rd η i with
   | none=>rw [q] at e; cases e
   | some u =>
    rw [q] at e; cases e
    obtain ⟨v,r,h⟩:=A.env i u.1 u.2 q
    exact ⟨v,(r.sh.zmono fun a h=>h.imp id fun q=>⟨i,hi,q⟩).sany,h⟩
  ·rename_i hi
   obtain ⟨v,r,h⟩:=A.env i m t e
   exact ⟨v,(r.zmono fun a h=>.inl h).mono fun a h=>⟨hi,h⟩,h⟩
 ·obtain ⟨_,xs,e⟩:=A.gd.own a (bc q)
  rw [e]; simp
theorem gT {x:X}{e:E}{w:W}{Q:VK}(A:At K sl σ Z H Fs η no)(ev:evX C x e η=.ok (w,η'))(k:∀ v Z' H' Fs' G,At K sl σ Z' H' Fs' η' G->Rep K Z' H' w.1 w.2 v G->Step Z H (tot Fs) Z' H' (fun a=>tot Fs' a\/G a)->Q v H'):wE K sl.sl C e σ H Q:=by
 cases x with
 | q vs ls =>
  obtain ⟨⟨u,η2⟩,h1,h2⟩:=aa (show (evE C e (pick vs ls η)).bind (kX vs η)=_ from ev)
  cases h2
  generalize hm0:M.lf u.1 u.2=m0 at k
  refine ⟨sl.pv,_,jR,_,_,η2,A.quiet (vs:=vs) (ls:=ls),h1,fun v Z' H' Fs' G B r0 s=>?_⟩
  have r:=r0.lf
  rw [hm0] at r
  obtain ⟨B1,s1⟩:=bR A B.own B.gd.zal s fun a h=>eP h
  have other:Q v H'\/m0=.d:=by
   by_cases hd:m0=.d
   ·exact .inr hd
   ·refine .inl ?_
    have e':after m0 vs η=share vs η:=by
     cases hm:m0 with
     | d=>exact absurd hm hd
     | s=>rfl
     | o m=>rfl
    obtain ⟨B2,s2⟩:=B1.share (vs:=vs)
    have zz:∀ a,(Z' a/\¬ bp Fs vs a)\/bp Fs vs a->Z' a:=fun a h=>h.elim a1P fun q=>s.zm a (.inr q)
    have zz':∀ a,Z' a->(Z' a/\¬ bp Fs vs a)\/bp Fs vs a:=fun a h=>(a2C (bp Fs vs a)).elim .inr fun q=>.inl ⟨h,q⟩
    exact k v _ H' _ G (e' ▸ B2) (r.zmono zz') (s2 s1)
  rcases other with q | hd
  ·exact q
  ·have e':after m0 vs η=η:=by rw [hd]; rfl
   refine k v _ H' Fs G (e'.symm ▸ B1) ?_ s1
   subst hd
   exact r.dany
 | l vs =>
  obtain ⟨B,s0⟩:=A.share (vs:=vs)
  have s1:=s0 ((Step.refl Z H (tot Fs)).mono (F2:=fun a=>tot Fs a\/no a) (fun _ z=>z) fun a h=>h.elim id fun z=>z.elim)
  refine ⟨sl.pv,_,_,_,w,η',B,ev,fun v Z' H' Fs' G B' r s=>k v Z' H' Fs' G B' r ((s1.mono (fun _ z=>z) fun a h=>.inl h).trans s)⟩
theorem xW {x:X}{e:E}{b:Bool}{Q:Bool->Hp->Prop}(A:At K sl σ Z H Fs η no)(ev:evT C x e η=.ok (b,η'))(k:∀ Z' H' Fs',At K sl σ Z' H' Fs' η' no->Step Z H (tot Fs) Z' H' (tot Fs')->Q b H'):wT K sl.sl C e σ H Q:=by
 cases x with
 | q vs ls =>
  obtain ⟨⟨u,η2⟩,h1,h2⟩:=aa (show (evE C e (pick vs ls η)).bind (kT η)=_ from ev)
  obtain ⟨b',h3,e3⟩:=aq (show ret η (truth u.2)=_ from h2)
  cases e3
  refine ⟨sl.pv,_,jR,_,u,η2,b,A.quiet (vs:=vs) (ls:=ls),h1,h3,fun Z' H' Fs' B s=>?_⟩
  obtain ⟨B1,s1⟩:=bR (G:=no) A ba B.gd.zal (s.mono (F2:=fun a=>tot Fs' a\/no a) (fun _ z=>z) fun a h=>h.elim id fun z=>z.elim) fun a h=>eP h
  exact k _ H' Fs B1 (s1.mono (fun _ z=>z) fun a h=>.inl h)
 | l vs =>
  obtain ⟨⟨u,η2⟩,h1,h2⟩:=aa (show (evE C e (M.share vs η)).bind kT2=_ from ev)
  obtain ⟨b',h3,e3⟩:=aq (show ret η2 (truth u.2)=_ from h2)
  cases e3
  obtain ⟨B,s0⟩:=A.share (vs:=vs)
  have s1:=s0 ((Step.refl Z H (tot Fs)).mono (F2:=fun a=>tot Fs a\/no a) (fun _ z=>z) fun a h=>h.elim id fun z=>z.elim)
  exact ⟨sl.pv,_,_,_,u,_,b,B,h1,h3,fun Z' H' Fs' B' s=>k Z' H' Fs' B' ((s1.mono (fun _ z=>z) fun a h=>.inl h).trans s)⟩
end
end MR
namespace MR
open L2 L3 M
open PySem (Addr Str sizeLine)
section
variable {K:a0a}{sl:Cf}{sf sg:Nat->Option Nat}{C:Call}{σ σ2:L2.St}{Z Z' Z1:Fp}{H H' H1:Hp}{Fs Fs' Fs1:Fps}{η η' η1 ηb:Env}{G G' G1 R F F':Fp}{tg is vs ls io:List Nat}{pv val:Nat->Option V}{D:a9}
noncomputable def Fin (K:a0a)(sl:Cf)(Z:Fp)(H:Hp)(F:Fp)(D:a9):Fl->Prop
 | .nx η'=>∀ σ' Z' H' Fs',At K sl σ' Z' H' Fs' η' no->Step Z H F Z' H' (tot Fs')->D.nx σ' H'
 | .rt w η'=>∀ v σ' Z' H' Fs' G,At K sl σ' Z' H' Fs' η' G->Rep K Z' H' w.1 w.2 v G->Step Z H F Z' H' (fun a=>tot Fs' a\/G a)->D.rt v H'
 | .bk η'=>∀ σ' Z' H' Fs',At K sl σ' Z' H' Fs' η' no->Step Z H F Z' H' (tot Fs')->D.bk σ' H'
 | _=>False
theorem Fin.step {fl:Fl}(s:Step Z H F Z1 H1 F')(h:Fin K sl Z H F D fl):Fin K sl Z1 H1 F' D fl:=by
 cases fl with
 | nx η=>exact fun σ' Z' H' Fs' A t=>h σ' Z' H' Fs' A (s.trans t)
 | rt w η=>exact fun v σ' Z' H' Fs' G A r t=>h v σ' Z' H' Fs' G A r (s.trans t)
 | bk η=>exact fun σ' Z' H' Fs' A t=>h σ' Z' H' Fs' A (s.trans t)
 | _=>exact h.elim
structure ll (sf:Nat->Option Nat)(io:List Nat)(pv:Nat->Option V):Prop where
 inj:∀ i i' j,sf i=some j->sf i'=some j->i=i'
 io:∀ i,i ∉ io->pv i=none
noncomputable def wS (K:a0a)(sf:Nat->Option Nat)(io:List Nat)(C:Call)(st:S):TS:=fun D σ H=>∃ pv Z Fs η,ll sf io pv/\At K ⟨sf,pv⟩ σ Z H Fs η no/\Fin K ⟨sf,pv⟩ Z H (tot Fs) D (evS C st η)
noncomputable def wSs (K:a0a)(sf:Nat->Option Nat)(io:List Nat)(C:Call)(st:List S):TS:=fun D σ H=>∃ pv Z Fs η,ll sf io pv/\At K ⟨sf,pv⟩ σ Z H Fs η no/\Fin K ⟨sf,pv⟩ Z H (tot Fs) D (evSs C st η)
theorem oi (D:a9)(σ:L2.St)(H:Hp)(h:wSs K sf io C [] D σ H):pO D σ H:=by
 obtain ⟨pv,Z,Fs,η,N,A,f⟩:=h
 exact f σ Z H Fs A (Step.refl _ _ _)
theorem j1 {s:S}{r:List S}(D:a9)(σ:L2.St)(H:Hp)(h:wSs K sf io C (s::r) D σ H):vw (wS K sf io C s) (wSs K sf io C r) D σ H:=by
 obtain ⟨pv,Z,Fs,η,N,A,f⟩:=h
 refine ⟨pv,Z,Fs,η,N,A,?_⟩
 have f':Fin K ⟨sf,pv⟩ Z H (tot Fs) D (Fl.seq (evS C s η) (evSs C r)):=f
 cases e:evS C s η with
 | nx η1 =>
  rw [e] at f'
  exact fun σ' Z' H' Fs' A' t=>⟨pv,Z',Fs',η1,N,A',f'.step t⟩
 | rt w η1=>rw [e] at f'; exact f'
 | bk η1=>rw [e] at f'; exact f'
 | ex c x η1=>rw [e] at f'; exact f'.elim
 | no=>rw [e] at f'; exact f'.elim
theorem pD {s:S}(D:a9)(σ:L2.St)(H:Hp)(h:wSs K sf io C [s] D σ H):wS K sf io C s D σ H:=by
 obtain ⟨pv,Z,Fs,η,N,A,f⟩:=h
 refine ⟨pv,Z,Fs,η,N,A,?_⟩
 have f':Fin K ⟨sf,pv⟩ Z H (tot Fs) D (Fl.seq (evS C s η) (evSs C [])):=f
 cases e:evS C s η with
 | nx η1=>rw [e] at f'; exact f'
 | rt w η1=>rw [e] at f'; exact f'
 | bk η1=>rw [e] at f'; exact f'
 | ex c x η1=>rw [e] at f'; exact f'.elim
 | no=>rw [e] at f'; exact f'.elim
theorem aN {α:Type}{r:Res α}{g:α->Fl}(f:Fin K sl Z H F D (Fl.of η r g)):∃ a,r=.ok a/\Fin K sl Z H F D (g a):=by
 cases r with
 | ok a=>exact ⟨a,rfl,f⟩
 | ex c x=>exact f.elim
 | no=>exact f.elim
theorem eT {o:Option Env}(f:Fin K sl Z H F D (nxO η o)):∃ η',o=some η'/\Fin K sl Z H F D (.nx η'):=by
 cases o with
 | some a=>exact ⟨a,rfl,f⟩
 | none=>exact f.elim
theorem At.setR {i j:Nat}{w:W}{x:V}(N:ll sf io pv)(hi:i ∉ io)(hs:sf i=some j)(A:At K ⟨sf,pv⟩ σ Z H Fs η G)(r:Rep K Z H w.1 w.2 x G1)(q1:∀ a,G1 a->G a)(q2:∀ a,R a->G a)(q3:∀ a,R a->¬ G1 a):At K ⟨sf,pv⟩ (σ.set j (some x)) Z H (fM Fs i G1) (M.put η i w) R:=by
 have hj:j < σ.length:=A.ln i j hs
 have B:At K ⟨fun k=>if k=i then none else sf k,pv⟩ (σ.set j (some x)) Z H Fs (M.del η i) G:=by
  refine ⟨A.gd,fun l m t e=>?_,A.own,A.dis,fun l u k hu hk=>?_,fun l k hk=>?_⟩
  ·rw [aP] at e
   split at e
   ·cases e
   ·rename_i hne
    obtain ⟨v,r',h1,h2⟩:=A.env l m t e
    have hl:l≠i:=fun z=>hne ⟨z,by rw [<- z]; exact bP e⟩
    refine ⟨v,r',fun k hk=>?_,h2⟩
    have hk':sf l=some k:=by have:(if l=i then none else sf l)=some k:=hk; rw [if_neg hl] at this; exact this
    have hjk:j≠k:=fun z=>hl (N.inj l i k hk' (by rw [<- z]; exact hs))
    rw [a03 hjk]
    exact h1 k hk'
  ·have hl:l≠i:=fun z=>by
    have hu':pv l=some u:=hu
    rw [z,N.io i hi] at hu'; cases hu'
   have hk':sf l=some k:=by have:(if l=i then none else sf l)=some k:=hk; rw [if_neg hl] at this; exact this
   have hjk:j≠k:=fun z=>hl (N.inj l i k hk' (by rw [<- z]; exact hs))
   rw [a03 hjk]
   exact A.lk l u k hu hk'
  ·have hk':sf l=some k:=by
    have:(if l=i then none else sf l)=some k:=hk
    split at this
    ·cases this
    ·exact this
   rw [a2m]
   exact A.ln l k hk'
 have B2:=At.put (i:=i) (w:=w) (G1:=G1) (R:=R) B r q1 q2 q3 (fun k hk=>by have hk':(if i=i then none else sf i)=some k:=hk; rw [if_pos rfl] at hk'; cases hk') (fun u hu=>by have:=N.io i hi; rw [show pv i=some u from hu] at this; cases this)
 have e1:M.put (M.del η i) i w=M.put η i w:=by
  have:∀ (η:Env) (i:Nat) (a b:Option W),wr (wr η i a) i b=wr η i b:=fun η=>by
   induction η with
   | nil=>intro i a b; rfl
   | cons o η ih=>intro i a b; cases i with
    | zero=>rfl
    | succ i=>show o::wr (wr η i a) i b=o::wr η i b; rw [ih]
  exact this η i none (some w)
 rw [e1] at B2
 refine ⟨B2.gd,fun l m t e=>?_,B2.own,B2.dis,fun l u k hu hk=>?_,fun l k hk=>by rw [a2m]; exact A.ln l k hk⟩
 ·obtain ⟨v,r',h1,h2⟩:=B2.env l m t e
  by_cases hl:l=i
  ·subst hl
   rw [aP] at e
   split at e
   ·cases e
    refine ⟨x,r.mono fun a h=>.inl ⟨rfl,h⟩,fun k hk=>?_,fun u hu=>by have:=N.io l hi; rw [show pv l=some u from hu] at this; cases this⟩
    have:k=j:=by rw [show sf l=some k from hk] at hs; cases hs; rfl
    subst this
    rw [a1e hj]
   ·rename_i hc
    exact absurd ⟨rfl,bP e⟩ hc
  ·refine ⟨v,r',fun k hk=>h1 k ?_,h2⟩
   show (if l=i then none else sf l)=some k
   rw [if_neg hl]; exact hk
 ·by_cases hl:l=i
  ·subst hl
   have:=N.io l hi
   rw [show pv l=some u from hu] at this; cases this
  ·exact B2.lk l u k hu (show (if l=i then none else sf l)=some k by rw [if_neg hl]; exact hk)
theorem At.set {i j:Nat}{w:W}{x:V}(N:ll sf io pv)(hi:i ∉ io)(hs:sf i=some j)(A:At K ⟨sf,pv⟩ σ Z H Fs η G)(r:Rep K Z H w.1 w.2 x G):At K ⟨sf,pv⟩ (σ.set j (some x)) Z H (fM Fs i G) (M.put η i w) no:=At.setR N hi hs A r (fun _ h=>h) (fun _ z=>z.elim) (fun _ z=>z.elim)
theorem ri {x:X}{i j:Nat}{e:E}(hi:i ∉ io)(hs:sf i=some j)(D:a9)(σ:L2.St)(H:Hp)(h:wS K sf io C (.asg x i e) D σ H):wc (wE K sf C e) (dW j) D σ H:=by
 obtain ⟨pv,Z,Fs,η,N,A,f⟩:=h
 obtain ⟨⟨w,η1⟩,h1,h2⟩:=aN (show Fin K ⟨sf,pv⟩ Z H (tot Fs) D (Fl.of η (evX C x e η) (nP i)) from f)
 refine gT (sl:=⟨sf,pv⟩) A h1 fun v Z' H' Fs' G B r s=>?_
 exact h2 _ Z' H' _ (At.set N hi hs B r) (s.mono (fun _ z=>z) fun a ha=>aT ha)
theorem ua {x:X}{e:E}(D:a9)(σ:L2.St)(H:Hp)(h:wS K sf io C (.exp x e) D σ H):pG (wE K sf C e) D σ H:=by
 obtain ⟨pv,Z,Fs,η,N,A,f⟩:=h
 obtain ⟨⟨w,η1⟩,h1,h2⟩:=aN (show Fin K ⟨sf,pv⟩ Z H (tot Fs) D (Fl.of η (evX C x e η) kNx) from f)
 exact gT (sl:=⟨sf,pv⟩) A h1 fun v Z' H' Fs' G B r s=>h2 σ Z' H' Fs' B.bare (s.mono (fun _ z=>z) fun a ha=>.inl ha)
theorem sZ {e:E}(D:a9)(σ:L2.St)(H:Hp)(h:wS K sf io C (.ret vs e) D σ H):xg (wE K sf C e) D σ H:=by
 obtain ⟨pv,Z,Fs,η,N,A,f⟩:=h
 obtain ⟨⟨w,η1⟩,h1,h2⟩:=aN (show Fin K ⟨sf,pv⟩ Z H (tot Fs) D (Fl.of η (evE C e (M.share vs η)) kRt) from f)
 exact gT (sl:=⟨sf,pv⟩) (x:=.l vs) A h1 fun v Z' H' Fs' G B r s=>h2 v σ Z' H' Fs' G B r s
theorem rj {x:X}{c:E}{a b:List S}(D:a9)(σ:L2.St)(H:Hp)(h:wS K sf io C (.ite x c a b) D σ H):xm (wT K sf C c) (wSs K sf io C a) (wSs K sf io C b) D σ H:=by
 obtain ⟨pv,Z,Fs,η,N,A,f⟩:=h
 obtain ⟨⟨k,η1⟩,h1,h2⟩:=aN (show Fin K ⟨sf,pv⟩ Z H (tot Fs) D (Fl.of η (evT C x c η) (kIf (evSs C a) (evSs C b))) from f)
 refine xW (sl:=⟨sf,pv⟩) A h1 fun Z' H' Fs' B s=>?_
 cases k with
 | true=>rw [if_pos rfl]; exact ⟨pv,Z',Fs',η1,N,B,Fin.step s h2⟩
 | false=>rw [if_neg a0j]; exact ⟨pv,Z',Fs',η1,N,B,Fin.step s h2⟩
theorem hV {m:Md}{ts:List T}{v:V}(hm:m≠.s)(r:Rep K Z H m (.lst ts) v G):∃ a xs,v=.ref a/\xs.length<=LIM/\G a/\H a=some (.lst xs)/\RepL K Z H m.kid ts xs (fun b=>G b/\b≠a):=by
 obtain ⟨a,xs,e,l,q,p⟩:=r
 rw [LstR.own hm] at q
 exact ⟨a,xs,e,l,q.1,q.2,p⟩
theorem iJ {i:Nat}{a:Addr}{ts':List T}{xs':List V}{m':Md}(hm:m'≠.s)(A:At K ⟨sf,pv⟩ σ Z H Fs η G){w0:W}(hi:rd η i=some w0)(ha:Fs i a)(hx:∀ j,sf i=some j->σ[j]?=some (some (.ref a)))(hl:xs'.length<=LIM)(hpv:∀ u,pv i=some u->V.ref a=u)
  (hg:∀ b,G' b->(Fs i b\/G b)/\b≠a) (hR:∀ b,R b->(Fs i b\/G b)/\b≠a) (hRG:∀ b,R b->¬ G' b) (p:RepL K (fun b=>Z b\/((Fs i b\/G b)/\b≠a/\¬ G' b/\¬ R b)) H m'.kid ts' xs' G') {Q:Hp->Prop}
  (k:∀ Z' Fs',At K ⟨sf,pv⟩ σ Z' (upd H a (.lst xs')) Fs' (M.put η i (m',.lst ts')) R->Step Z H (fun b=>tot Fs b\/G b) Z' (upd H a (.lst xs')) (fun b=>tot Fs' b\/R b)->(∀ {m t v},Rep K (fun b=>Z b\/((Fs i b\/G b)/\b≠a/\¬ G' b/\¬ R b)) H m t v R->Rep K Z' (upd H a (.lst xs')) m t v R)->Q (upd H a (.lst xs'))):Q (upd H a (.lst xs')):=by
 have hta:tot Fs a:=⟨i,ha⟩
 obtain ⟨nza,ys,hya⟩:=A.gd.own a hta
 have nGa:¬ G a:=fun q=>A.dis a q hta
 have zdef:∀ b,(Z b\/((Fs i b\/G b)/\b≠a/\¬ G' b/\¬ R b))->b≠a:=fun b h z=>by
  subst z
  rcases h with h | h
  ·exact nza h
  ·exact h.2.1 rfl
 have keep:∀ b o,H b=some o->b≠a->upd H a (.lst xs') b=some o:=fun b o e hb=>by rw [af hb]; exact e
 have neT:∀ b xs,H b=some (.tup xs)->b≠a:=fun b xs e z=>by rw [z,hya] at e; exact gz e.symm
 have neF:∀ b o u,H b=some (.frz o u)->b≠a:=fun b o u e z=>by rw [z,hya] at e; exact eD e.symm
 have stay:∀ {Y:Fp},(∀ b,Y b->b≠a)->Stay Y H (upd H a (.lst xs')):=fun {Y} hY=>⟨fun b o hb e=>keep b o e (hY b hb),fun b xs e=>by
  rcases e with e | ⟨u,e⟩
  ·exact .inl (keep b _ e (neT b xs e))
  ·exact .inr ⟨u,keep b _ e (neF b u _ e)⟩,fun b o u e=>keep b _ e (neF b o u e)⟩
 have al:∀ b,H b≠none->upd H a (.lst xs') b≠none:=fun b h=>by
  by_cases e:b=a
  ·rw [e,ai]; simp
  ·rw [af e]; exact h
 have zal':∀ b,(Z b\/((Fs i b\/G b)/\b≠a/\¬ G' b/\¬ R b))->H b≠none:=fun b h=>by
  rcases h with h | ⟨h | h,_⟩
  ·exact A.gd.zal b h
  ·obtain ⟨_,zs,e⟩:=A.gd.own b ⟨i,h⟩; rw [e]; simp
  ·obtain ⟨_,zs,e⟩:=A.own b h; rw [e]; simp
 have listAt:∀ b,(tot Fs b\/G b)->∃ zs:OO,upd H a (.lst xs') b=some zs.ho:=fun b h=>by
  by_cases e:b=a
  ·exact ⟨.inl xs',by rw [e,ai]; rfl⟩
  ·rcases h with h | h
   ·obtain ⟨_,zs,q⟩:=A.gd.own b h; exact ⟨zs,by rw [af e]; exact q⟩
   ·obtain ⟨_,zs,q⟩:=A.own b h; exact ⟨zs,by rw [af e]; exact q⟩
 have nZ:∀ b,(Fs i b\/G b)->¬ Z b:=fun b h z=>h.elim (fun y=>(A.gd.own b ⟨i,y⟩).1 z) fun y=>(A.own b y).1 z
 have cp:∀ b,tot (fM Fs i fun b=>G' b\/b=a) b->(∃ j,j≠i/\Fs j b)\/G' b\/b=a:=fun b h=>by
  obtain ⟨j,h | h⟩:=h
  ·exact .inr h.2
  ·exact .inl ⟨j,h⟩
 refine k (fun b=>Z b\/((Fs i b\/G b)/\b≠a/\¬ G' b/\¬ R b)) (fM Fs i fun b=>G' b\/b=a) ⟨⟨fun b h=>⟨fun z=>?_,?_⟩,fun j l b hj hk=>?_,fun b h=>al b (zal' b h)⟩,fun l m t e=>?_,fun b h=>⟨fun z=>?_,listAt b ((hR b h).1.imp (fun z=>⟨i,z⟩) id)⟩,fun b h q=>?_,A.lk,A.ln⟩ ⟨fun b o e n=>keep b o e fun z=>n (.inl (z ▸ hta)),fun b h=>.inl h,fun b h=>h.imp id fun q=>.inl (q.1.imp (fun z=>⟨i,z⟩) id),fun b h=>?_,al,fun _ b h=>al b (zal' b h)⟩ fun {m t v} r=>r.keep (stay zdef) (fun _ z=>z) fun b o hb e=>keep b o e (hR b hb).2
 ·rcases cp b h with ⟨j,hj,q⟩ | q | q
  ·rcases z with z | ⟨z | z,_⟩
   ·exact (A.gd.own b ⟨j,q⟩).1 z
   ·exact hj (A.gd.dis j i b q z)
   ·exact A.dis b z ⟨j,q⟩
  ·rcases z with z | z
   ·exact nZ b (hg b q).1 z
   ·exact z.2.2.1 q
  ·exact zdef b z q
 ·rcases cp b h with ⟨j,hj,q⟩ | q | q
  ·exact listAt b (.inl ⟨j,q⟩)
  ·exact listAt b ((hg b q).1.imp (fun z=>⟨i,z⟩) id)
  ·exact ⟨.inl xs',by rw [q,ai]; rfl⟩
 ·have key:∀ {j:Nat},(G' b\/b=a)->Fs j b->j=i:=fun {j} h q=>by
   rcases h with h | h
   ·rcases (hg b h).1 with y | y
    ·exact A.gd.dis j i b q y
    ·exact absurd ⟨j,q⟩ (A.dis b y)
   ·rw [h] at q; exact A.gd.dis j i a q ha
  rcases hj with ⟨rfl,hj⟩ | ⟨nj,hj⟩
  ·rcases hk with ⟨rfl,_⟩ | ⟨nk,hk⟩
   ·rfl
   ·exact absurd (key hj hk) nk
  ·rcases hk with ⟨rfl,hk⟩ | ⟨nk,hk⟩
   ·exact absurd (key hk hj) nj
   ·exact A.gd.dis j l b hj hk
 ·rw [aP] at e
  split at e
  ·rename_i hc
   obtain ⟨rfl,_⟩:=hc
   cases e
   refine ⟨.ref a,⟨a,xs',rfl,hl,(LstR.own hm).mpr ⟨.inl ⟨rfl,.inr rfl⟩,ai⟩,?_⟩,hx,hpv⟩
   exact (p.keep (stay zdef) (fun _ z=>z) fun b o hb e=>keep b o e (hg b hb).2).mono fun b hb=>⟨.inl ⟨rfl,.inl hb⟩,(hg b hb).2⟩
  ·rename_i hc
   have hl':l≠i:=fun z=>hc ⟨z,bP hi⟩
   obtain ⟨v,r,h⟩:=A.env l m t e
   have nea:∀ b,Fs l b->b≠a:=fun b q z=>hl' (A.gd.dis l i a (z ▸ q) ha)
   exact ⟨v,((r.keep (stay fun b hb z=>nza (z ▸ hb)) (fun _ z=>z) fun b o hb e=>keep b o e (nea b hb)).zmono fun b h=>.inl h).mono fun b h=>.inr ⟨hl',h⟩,h⟩
 ·rcases z with z | z
  ·exact nZ b (hR b h).1 z
  ·exact z.2.2.2 h
 ·rcases cp b q with ⟨j,hj,y⟩ | y | y
  ·rcases (hR b h).1 with z | z
   ·exact hj (A.gd.dis j i b y z)
   ·exact A.dis b z ⟨j,y⟩
  ·exact hRG b h y
  ·exact (hR b h).2 y
 ·rcases h with h | h
  ·rcases cp b h with ⟨j,_,q⟩ | q | q
   ·exact .inl (.inl ⟨j,q⟩)
   ·exact .inl ((hg b q).1.imp (fun z=>⟨i,z⟩) id)
   ·exact .inl (.inl (q ▸ hta))
  ·exact .inl ((hR b h).1.imp (fun z=>⟨i,z⟩) id)
theorem change {i:Nat}{a:Addr}{ts':List T}{xs':List V}{m':Md}(hm:m'≠.s)(A:At K ⟨sf,pv⟩ σ Z H Fs η G){w0:W}(hi:rd η i=some w0)(ha:Fs i a)(hx:∀ j,sf i=some j->σ[j]?=some (some (.ref a)))(hl:xs'.length<=LIM)(hpv:∀ u,pv i=some u->V.ref a=u)
  (hg:∀ b,G' b->(Fs i b\/G b)/\b≠a) (p:RepL K (fun b=>Z b\/((Fs i b\/G b)/\b≠a/\¬ G' b)) H m'.kid ts' xs' G') {Q:Hp->Prop}
  (k:∀ Z' Fs',At K ⟨sf,pv⟩ σ Z' (upd H a (.lst xs')) Fs' (M.put η i (m',.lst ts')) no->Step Z H (fun b=>tot Fs b\/G b) Z' (upd H a (.lst xs')) (tot Fs')->Q (upd H a (.lst xs'))):Q (upd H a (.lst xs')) :=
 iJ (R:=no) hm A hi ha hx hl hpv hg (fun _ z=>z.elim) (fun _ z=>z.elim) (p.zmono fun b h=>h.imp id fun q=>⟨q.1,q.2.1,q.2.2,fun z=>z⟩) fun Z' Fs' B s _=>k Z' Fs' B (s.mono (fun _ z=>z) fun _ z=>.inl z)
end
end MR
namespace MR
open L2 L3 M
open PySem (Addr Str sizeLine)
section
variable {K:a0a}{sl:Cf}{sf sg:Nat->Option Nat}{C:Call}{σ σ2:L2.St}{Z Z' Z1:Fp}{H H' H1:Hp}{Fs Fs' Fs1:Fps}{η η' η1 ηb:Env}{G G' G1 R F F':Fp}{tg is vs ls io:List Nat}{pv val:Nat->Option V}{D:a9}
theorem fX {o:Option W}{u:Unit}(h:cC o=.ok u):∃ m ts,o=some (m,.lst ts):=by
 cases o with
 | none=>cases h
 | some w =>
  obtain ⟨m,t⟩:=w
  cases t with
  | lst ts=>exact ⟨m,ts,rfl⟩
  | _=>cases h
theorem At.listAt {i j:Nat}{m:Md}{ts:List T}(hs:sf i=some j)(A:At K ⟨sf,pv⟩ σ Z H Fs η G)(h:rd η i=some (m,.lst ts)):∃ a xs,σ[j]?=some (some (.ref a))/\H a=some (.lst xs):=by
 obtain ⟨v,r,hl,_⟩:=A.env i m _ h
 obtain ⟨a,xs,rfl,hx,_⟩:=aS r
 exact ⟨a,xs,hl j hs,hx⟩
theorem At.ourList {i j:Nat}{a:Addr}{m:Md}{ts:List T}(hs:sf i=some j)(hm:m≠.s)(hj:σ[j]?=some (some (.ref a)))(A:At K ⟨sf,pv⟩ σ Z H Fs η G)(h:rd η i=some (m,.lst ts)) :
  ∃ xs,xs.length<=LIM/\Fs i a/\H a=some (.lst xs)/\RepL K Z H m.kid ts xs (fun b=>Fs i b/\b≠a)/\(∀ u,pv i=some u->V.ref a=u):=by
 obtain ⟨v,r,hl,hp⟩:=A.env i m _ h
 have e:=hl j hs
 rw [hj] at e
 cases e
 obtain ⟨b,xs,e,l,g,hx,p⟩:=hV hm r
 cases e
 exact ⟨xs,l,g,hx,p,hp⟩
theorem l9 {u w r:W}(h:dG u w=some r):∃ m ts,u=(m,.lst ts)/\m≠.s/\ts.length < LIM/\r=((m.kid.meet (lf w.1 w.2)).up,.lst (ts++[w.2])):=by
 obtain ⟨m,t⟩:=u
 obtain ⟨n,t'⟩:=w
 cases m with
 | s=>cases h
 | d =>
  cases t with
  | lst ts =>
   have h':(if ts.length < LIM then some ((((Md.d.kid.meet (lf n t')).up,.lst (ts++[t'])):W)) else none)=some r:=h
   split at h'
   ·rename_i hl; cases h'; exact ⟨.d,ts,rfl,by simp,hl,rfl⟩
   ·cases h'
  | _=>cases h
 | o m =>
  cases t with
  | lst ts =>
   have h':(if ts.length < LIM then some (((((Md.o m).kid.meet (lf n t')).up,.lst (ts++[t'])):W)) else none)=some r:=h
   split at h'
   ·rename_i hl; cases h'; exact ⟨.o m,ts,rfl,by simp,hl,rfl⟩
   ·cases h'
  | _=>cases h
theorem lT {u w r:W}(h:dk u w=some r):∃ m ts n us,u=(m,.lst ts)/\w=(n,.lst us)/\m≠.s/\ts.length+us.length<=LIM/\r=((m.kid.meet n.kid).up,.lst (ts++us)):=by
 obtain ⟨m,t⟩:=u
 obtain ⟨n,t'⟩:=w
 cases m with
 | s=>cases h
 | d =>
  cases t with
  | lst ts =>
   cases t' with
   | lst us =>
    have h':(if ts.length+us.length<=LIM then some ((((Md.d.kid.meet n.kid).up,.lst (ts++us)):W)) else none)=some r:=h
    split at h'
    ·rename_i hl; cases h'; exact ⟨.d,ts,n,us,rfl,rfl,by simp,hl,rfl⟩
    ·cases h'
   | _=>cases h
  | _=>cases h
 | o m =>
  cases t with
  | lst ts =>
   cases t' with
   | lst us =>
    have h':(if ts.length+us.length<=LIM then some (((((Md.o m).kid.meet n.kid).up,.lst (ts++us)):W)) else none)=some r:=h
    split at h'
    ·rename_i hl; cases h'; exact ⟨.o m,ts,n,us,rfl,rfl,by simp,hl,rfl⟩
    ·cases h'
   | _=>cases h
  | _=>cases h
theorem lD {a:Addr}{m:Md}{ts:List T}{xs:List V}{w:W}{y:V}{A0:Fp}(hA:∀ b,A0 b->b≠a)(hG:∀ b,G b->b≠a)(d:∀ b,A0 b->¬ G b)(p:RepL K Z H m ts xs A0)(r:Rep K Z H w.1 w.2 y G) :
  ∃ G',(∀ b,G' b->(A0 b\/G b)/\b≠a)/\RepL K (fun b=>Z b\/((A0 b\/G b)/\b≠a/\¬ G' b)) H (m.meet (lf w.1 w.2)) (ts++[w.2]) (xs++[y]) G':=by
 obtain ⟨G',g1,g2⟩:=da (G:=fun b=>A0 b\/G b) (fun _ z=>.inl z) (fun _ z=>.inr z) d p (RepL.one r.lf)
 have ne:∀ b,(A0 b\/G b)->b≠a:=fun b h=>h.elim (hA b) (hG b)
 exact ⟨G',fun b h=>⟨g1 b h,ne b (g1 b h)⟩,g2.zmono fun b h=>h.imp id fun q=>⟨q.1,ne b q.1,q.2⟩⟩
theorem qG {x:X}{i j:Nat}{e:E}(hs:sf i=some j)(D:a9)(σ:L2.St)(H:Hp)(h:wS K sf io C (.app x i e) D σ H) :
  ∃ a xs,σ[j]?=some (some (.ref a))/\H a=some (.lst xs)/\wE K sf C e σ H fun y H1=>∃ xs,H1 a=some (.lst xs)/\xs.length < sizeLine/\D.nx σ (upd H1 a (.lst (xs++[y]))):=by
 obtain ⟨pv,Z,Fs,η,N,A,f⟩:=h
 obtain ⟨u,h0,h1⟩:=aN (show Fin K ⟨sf,pv⟩ Z H (tot Fs) D (Fl.of η (cC (rd η i)) (gZ (evX C x e) η (kz i))) from f)
 obtain ⟨m0,t0,h00⟩:=fX h0
 obtain ⟨a,xs0,hj,ha⟩:=A.listAt hs h00
 obtain ⟨⟨w,η1⟩,h2,h3⟩:=aN (show Fin K ⟨sf,pv⟩ Z H (tot Fs) D (Fl.of η (evX C x e η) (kz i)) from h1)
 obtain ⟨η2,h4,h5⟩:=eT (show Fin K ⟨sf,pv⟩ Z H (tot Fs) D (nxO η1 (((rd η1 i).bind fun u=>dG u w).map fun u=>M.put η1 i u)) from h3)
 refine ⟨a,xs0,hj,ha,gT (sl:=⟨sf,pv⟩) A h2 fun y Z' H' Fs' G B r s=>?_⟩
 cases e1:rd η1 i with
 | none=>rw [e1] at h4; cases h4
 | some u1 =>
  rw [e1] at h4
  cases e2:dG u1 w with
  | none=>rw [show (some u1).bind (fun u=>dG u w)=dG u1 w from rfl,e2] at h4; cases h4
  | some r1 =>
   rw [show (some u1).bind (fun u=>dG u w)=dG u1 w from rfl,e2] at h4
   cases h4
   obtain ⟨m,ts,rfl,hm,hlen,rfl⟩:=l9 e2
   obtain ⟨xs,hl,hf,hx,p,hpv⟩:=B.ourList hs hm hj e1
   have e3:=p.length
   obtain ⟨G',g1,g2⟩:=lD (a:=a) (fun b h=>h.2) (fun b h z=>B.dis b h ⟨i,z ▸ hf⟩) (fun b h q=>B.dis b q ⟨i,h.1⟩) p r
   refine ⟨xs,hx,k8 hl,?_⟩
   refine change (K:=K) (m':=(m.kid.meet (lf w.1 w.2)).up) (bE _) B e1 hf (fun k hk=>by rw [show sf i=some k from hk] at hs; cases hs; exact hj) (by rw [a0c,e3,a0s]; omega) hpv (fun b h=>⟨(g1 b h).1.imp a1P id,(g1 b h).2⟩) (ts':=ts++[w.2]) (by rw [dh]; exact g2.zmono fun b h=>h.imp id fun q=>⟨q.1.imp a1P id,q.2⟩) fun Z2 Fs2 B2 s2=>h5 σ Z2 _ Fs2 B2 (s.trans s2)
theorem rZ {x:X}{i j:Nat}{e:E}(hs:sf i=some j)(D:a9)(σ:L2.St)(H:Hp)(h:wS K sf io C (.ext x i e) D σ H) :
  ∃ a xs,σ[j]?=some (some (.ref a))/\H a=some (.lst xs)/\wE K sf C e σ H fun y H1=>∃ b xs zs,y=.ref b/\H1 a=some (.lst xs)/\H1 b=some (.lst zs)/\xs.length+zs.length<=sizeLine/\D.nx σ (upd H1 a (.lst (xs++zs))):=by
 obtain ⟨pv,Z,Fs,η,N,A,f⟩:=h
 obtain ⟨u,h0,h1⟩:=aN (show Fin K ⟨sf,pv⟩ Z H (tot Fs) D (Fl.of η (cC (rd η i)) (gZ (evX C x e) η (kx i))) from f)
 obtain ⟨m0,t0,h00⟩:=fX h0
 obtain ⟨a,xs0,hj,ha⟩:=A.listAt hs h00
 obtain ⟨⟨w,η1⟩,h2,h3⟩:=aN (show Fin K ⟨sf,pv⟩ Z H (tot Fs) D (Fl.of η (evX C x e η) (kx i)) from h1)
 obtain ⟨η2,h4,h5⟩:=eT (show Fin K ⟨sf,pv⟩ Z H (tot Fs) D (nxO η1 (((rd η1 i).bind fun u=>dk u w).map fun u=>M.put η1 i u)) from h3)
 refine ⟨a,xs0,hj,ha,gT (sl:=⟨sf,pv⟩) A h2 fun y Z' H' Fs' G B r s=>?_⟩
 cases e1:rd η1 i with
 | none=>rw [e1] at h4; cases h4
 | some u1 =>
  rw [e1] at h4
  cases e2:dk u1 w with
  | none=>rw [show (some u1).bind (fun u=>dk u w)=dk u1 w from rfl,e2] at h4; cases h4
  | some r1 =>
   rw [show (some u1).bind (fun u=>dk u w)=dk u1 w from rfl,e2] at h4
   cases h4
   obtain ⟨m,ts,n,us,rfl,rfl,hm,hlen,rfl⟩:=lT e2
   obtain ⟨xs,hl,hf,hx,p,hpv⟩:=B.ourList hs hm hj e1
   obtain ⟨b,zs,rfl,hb,hl2,p2⟩:=aS r
   have e3:=p.length
   have e4:=p2.length
   have hG:∀ b,G b->b≠a:=fun b h z=>B.dis b h ⟨i,z ▸ hf⟩
   obtain ⟨G',g1,g2⟩:=da (G:=fun b=>(Fs' i b/\b≠a)\/G b) (fun _ z=>.inl z) (fun _ z=>.inr z) (fun b h q=>B.dis b q ⟨i,h.1⟩) p p2
   have ne:∀ b,((Fs' i b/\b≠a)\/G b)->b≠a:=fun b h=>h.elim And.right (hG b)
   refine ⟨b,xs,zs,rfl,hx,hb,aU (by omega),?_⟩
   refine change (K:=K) (m':=(m.kid.meet n.kid).up) (bE _) B e1 hf (fun k hk=>by rw [show sf i=some k from hk] at hs; cases hs; exact hj) (by rw [a0c]; omega) hpv (fun b h=>⟨(g1 b h).imp a1P id,ne b (g1 b h)⟩) (ts':=ts++us) (by rw [dh]; exact g2.zmono fun b h=>h.imp id fun q=>⟨q.1.imp a1P id,ne b q.1,q.2⟩) fun Z2 Fs2 B2 s2=>h5 σ Z2 _ Fs2 B2 (s.trans s2)
theorem c6 (vs:List Nat)(η:Env):Nn η (M.share vs η):=fun i e=>by
 rw [dA]; split
 ·rw [e]; rfl
 ·exact e
theorem qH {x:X}{e:E}{w:W}(h:evX C x e η=.ok (w,η')):Nn η η':=by
 cases x with
 | q vs ls =>
  obtain ⟨⟨u,η2⟩,h1,h2⟩:=aa (show (evE C e (pick vs ls η)).bind (kX vs η)=_ from h)
  cases h2
  show Nn η (after (M.lf u.1 u.2) vs η)
  cases hm:M.lf u.1 u.2 with
  | d=>intro i e; exact e
  | s=>exact c6 vs η
  | o m=>exact c6 vs η
 | l vs=>exact (c6 vs η).trans (aj e h)
theorem RepL.splitA {m:Md}:∀ {ts us:List T} {zs:List V} {G:Fp},RepL K Z H m (ts++us) zs G->∃ xs ys G1 G2,zs=xs++ys/\(∀ a,G1 a->G a)/\(∀ a,G2 a->G a)/\(∀ a,G1 a->¬ G2 a)/\RepL K Z H m ts xs G1/\RepL K Z H m us ys G2
 | [],us,zs,G,h=>⟨[],zs,no,G,rfl,fun _ z=>z.elim,fun _ z=>z,fun _ z=>z.elim,rfl,h⟩
 | t::ts,us,zs,G,⟨x,r,A,B,e,h1,h2,hd,p,q⟩=>by
  obtain ⟨xs,ys,G1,G2,e',g1,g2,d,p1,p2⟩:=RepL.splitA q
  refine ⟨x::xs,ys,fun a=>A a\/G1 a,G2,by rw [e,e']; rfl,fun a h=>h.elim (h1 a) fun z=>h2 a (g1 a z),fun a h=>h2 a (g2 a h),fun a h z=>h.elim (fun y=>hd a y (g2 a z)) fun y=>d a y z,⟨x,xs,A,G1,rfl,fun _ z=>.inl z,fun _ z=>.inr z,fun a h z=>hd a h (g1 a z),p,p1⟩,p2⟩
theorem j2 {u:W}{ws:List W}{r:W×W}(h:eC u ws=some r):∃ m ts,u=(m,.lst ts)/\m≠.s/\((ws=[]/\∃ t,ts.getLast?=some t/\r=((m.kid,t),(m,.lst ts.dropLast)))\/(∃ n t us,ws=[(n,.int 0)]/\ts=t::us/\r=((m.kid,t),(m,.lst us)))):=by
 obtain ⟨m,t⟩:=u
 have key:∀ m:Md,m≠.s->eC (m,t) ws=some r->∃ m' ts,(m,t)=(m',.lst ts)/\m'≠.s/\((ws=[]/\∃ t,ts.getLast?=some t/\r=((m'.kid,t),(m',.lst ts.dropLast)))\/(∃ n t us,ws=[(n,.int 0)]/\ts=t::us/\r=((m'.kid,t),(m',.lst us)))):=fun m hm h=>by
  unfold eC at h
  split at h
  ·cases h
  ·rename_i m1 ts1 hq1 hq2 hq3
   cases hq2
   cases e:ts1.getLast? with
   | none=>rw [e] at h; cases h
   | some t=>rw [e] at h; cases h; exact ⟨_,ts1,rfl,hm,.inl ⟨rfl,t,e,rfl⟩⟩
  ·rename_i m1 t1 ts1 n1 hq1 hq2 hq3
   cases hq2
   cases h
   exact ⟨_,_,rfl,hm,.inr ⟨_,_,_,rfl,rfl,rfl⟩⟩
  ·cases h
 cases m with
 | s=>cases h
 | d=>exact key .d (by simp) h
 | o m=>exact key (.o m) (by simp) h
theorem mR {i j:Nat}(hs:sf i=some j)(σ:L2.St)(H:Hp)(Q:VK)(h:wE K sf C (.pop i []) σ H Q):∃ a xs y,σ[j]?=some (some (.ref a))/\H a=some (.lst xs)/\xs[xs.length-1]?=some y/\Q y (upd H a (.lst xs.dropLast)):=by
 obtain ⟨pv,Z,Fs,η,w,η',A,ev,k⟩:=h
 obtain ⟨_,_,h0⟩:=aa (show (cC (rd η i)).bind (fS (evL C []) η (iZ i))=_ from ev)
 obtain ⟨r,h3,h4⟩:=aa (show (ofO ((rd η i).bind fun w=>eC w [])).bind (fun r=>.ok (r.1,M.put η i r.2))=_ from h0)
 cases h4
 have h5:=bF h3
 cases e1:rd η i with
 | none=>rw [e1] at h5; cases h5
 | some u =>
  rw [e1] at h5
  obtain ⟨m,ts,rfl,hm,⟨_,t,ht,rfl⟩ | ⟨n,t,us,e,_⟩⟩:=j2 (show eC u []=some r from h5)
  ·obtain ⟨v,r4,l4,p4⟩:=A.env i m _ e1
   obtain ⟨a,xs,rfl,hl,hf,hx,p⟩:=hV hm r4
   have ets:ts=ts.dropLast++[t]:=by
    have hne:ts≠[]:=fun z=>by rw [z] at ht; cases ht
    have:=List.dropLast_concat_getLast hne
    rw [List.getLast?_eq_some_getLast hne] at ht
    cases ht
    exact this.symm
   rw [ets] at p
   obtain ⟨xs1,ys1,G1,G2,rfl,g1,g2,d,p1,p2⟩:=RepL.splitA p
   obtain ⟨y,r',A1,A2,e,a1,_,_,ry,q⟩:=p2
   obtain rfl:r'=[]:=q
   subst e
   have ry':=ry.mono a1
   refine ⟨a,xs1++[y],y,l4 j hs,hx,by simp,?_⟩
   rw [List.dropLast_concat]
   have hl1:xs1.length<=LIM:=by rw [a0c] at hl; omega
   refine iJ (K:=K) (G':=G1) (R:=G2) (Q:=fun H'=>Q y H') hm A e1 hf (fun k hk=>l4 k hk) hl1 p4 (fun b h=>⟨.inl (g1 b h).1,(g1 b h).2⟩) (fun b h=>⟨.inl (g2 b h).1,(g2 b h).2⟩) (fun b h z=>d b z h) (ts':=ts.dropLast) (p1.zmono fun b h=>.inl h) fun Z' Fs' B s tr=>?_
   exact k y Z' _ Fs' G2 B (tr (ry'.zmono fun b h=>.inl h)) (s.mono (fun b h=>h.elim id fun z=>z.elim) fun _ z=>z)
  ·cases e
end
end MR
namespace MR
open L2 L3 M
open PySem (Addr Str sizeLine)
section
variable {K:a0a}{sl:Cf}{sf sg:Nat->Option Nat}{C:Call}{σ σ2:L2.St}{Z Z' Z1:Fp}{H H' H1:Hp}{Fs Fs' Fs1:Fps}{η η' η1 ηb:Env}{G G' G1 R F F':Fp}{tg is vs ls io:List Nat}{pv val:Nat->Option V}{D:a9}
noncomputable def gF (K:a0a):List Nat->TG
 | [j]=>dW j
 | [j,l]=>vH K 2 (kN (dW j) (kN (dW l) vA))
 | _=>fun _ _ _ _=>False
theorem ko {fl:Fl}{g:Env->Fl}(f:Fin K sl Z H F D (Fl.turn fl g)):(∃ η',fl=.nx η'/\Fin K sl Z H F D (g η'))\/(∃ η',fl=.bk η'/\Fin K sl Z H F D (.nx η'))\/(∃ w η',fl=.rt w η'/\Fin K sl Z H F D (.rt w η')):=by
 cases fl with
 | nx η=>exact .inl ⟨η,rfl,f⟩
 | bk η=>exact .inr (.inl ⟨η,rfl,f⟩)
 | rt w η=>exact .inr (.inr ⟨w,η,rfl,f⟩)
 | ex c x η=>exact f.elim
 | no=>exact f.elim
theorem l5 {fl:Fl}{g:Env->Fl}{N:L2.St->Hp->Prop}(f:Fin K sl Z H F D (Fl.turn fl g))(hN:∀ η' σ' Z' H' Fs',fl=.nx η'->Fin K sl Z H F D (g η')->At K sl σ' Z' H' Fs' η' no->Step Z H F Z' H' (tot Fs')->N σ' H'):Fin K sl Z H F { D with nx:=N,ct:=N,bk:=D.nx } fl:=by
 rcases ko f with ⟨η',rfl,f⟩ | ⟨η',rfl,f⟩ | ⟨w,η',rfl,f⟩
 ·exact fun σ' Z' H' Fs' A s=>hN η' σ' Z' H' Fs' rfl f A s
 ·exact f
 ·exact f
theorem kL {n i:Nat}{J:It}{ts:List (List W)}{ws:List W}{js:List Nat}{x:V}{Q:L2.St->Hp->Prop}(hn:tg.length=n)(nd:tg.Nodup)(N:ll sf io pv)(hio:∀ t∈tg,t ∉ io)(hjs:tg.map sf=js.map some)(hz:∀ a,Z1 a->Z a)(st:Stay Z1 H1 H)(yl:Yld K J Z1 H1 ts n)(A:At K ⟨sf,pv⟩ σ Z H Fs η no)
  (hw:ts[i]?=some ws) (hb:aZ tg ws η=some ηb) (y:J.yld i H x H') (k:∀ σ2 H2 Fs2,At K ⟨sf,pv⟩ σ2 Z H2 Fs2 ηb no->Step Z H (tot Fs) Z H2 (tot Fs2)->Q σ2 H2):gF K js x σ H' Q:=by
 have hi:i < ts.length:=(a0o.mp hw).1
 match n,yl with
 | 1,yl =>
  obtain ⟨e0,w,hw',r⟩:=yl H i x H' st hi y
  rw [e0]
  rw [hw] at hw'; cases hw'
  match tg,hn,js,hjs with
  | [t],_,[j],hjs =>
   cases hb
   have hs:sf t=some j:=by simpa using hjs
   exact k _ H _ (At.set N (hio t (by simp)) hs A (r.zmono hz)) ((Step.refl _ _ _).mono (fun _ z=>z) fun a h=>(aT h).elim id fun z=>z.elim)
  | [t],_,[],hjs=>simp at hjs
  | [t],_,_::_::_,hjs=>simp at hjs
 | 2,yl =>
  obtain ⟨p,y1,z1,u,w,rfl,sm,hq,hw',r1,r2⟩:=yl H i x H' st hi y
  rw [hw] at hw'; cases hw'
  match tg,hn,js,hjs with
  | [t,t'],_,[j,j'],hjs =>
   cases hb
   have hs:sf t=some j:=by simp at hjs; exact hjs.1
   have hs':sf t'=some j':=by simp at hjs; exact hjs.2
   have s0:Step Z H no Z H' no:=lz sm
   obtain ⟨A1,s1⟩:=A.op ba s0
   have sn:Stay Z H H':=lr sm
   have r1':Rep K Z H' u.1 u.2 y1 no:=(r1.zmono hz).keep sn (fun _ z=>z) fun _ _ z=>z.elim
   have r2':Rep K Z H' w.1 w.2 z1 no:=(r2.zmono hz).keep sn (fun _ z=>z) fun _ _ z=>z.elim
   have A2:=At.set N (hio t (by simp)) hs A1 r1'
   have A3:=At.set N (hio t' (by simp)) hs' A2 r2'
   refine ⟨p,[y1,z1],rfl,hq,rfl,y1,[z1],rfl,z1,[],rfl,rfl,k _ _ _ A3 (s1.mono (fun a h=>h.elim id fun z=>z.elim) fun a h=>?_)⟩
   rcases aT h with h | h
   ·exact .inl ((aT h).elim id fun z=>z.elim)
   ·exact h.elim
  | [t,t'],_,[],hjs=>simp at hjs
  | [t,t'],_,[_],hjs=>simp at hjs
  | [t,t'],_,_::_::_::_,hjs=>simp at hjs
theorem jM {n:Nat}{k:Ik}{src:List E}{js:List Nat}{body:List S}(hn:tg.length=n)(nd:tg.Nodup)(hio:∀ t∈tg,t ∉ io)(hjs:tg.map sf=js.map some)(D:a9)(σ:L2.St)(H:Hp)(h:wS K sf io C (.forS vs ls k src tg body) D σ H) :
  uG (wI K sf C n k src) (gF K js) (wSs K sf io C body) D σ H:=by
 obtain ⟨pv,Z,Fs,η,N,A,f⟩:=h
 obtain ⟨⟨ws,η2⟩,h1,h2⟩:=aN (show Fin K ⟨sf,pv⟩ Z H (tot Fs) D (Fl.of η (evL C src (pick vs ls η)) (mK vs k tg (evSs C body) η)) from f)
 obtain ⟨⟨ts,η3⟩,h3,h4⟩:=aN (show Fin K ⟨sf,pv⟩ Z H (tot Fs) D (Fl.of η (ret (M.share vs η) (aW k ws)) (hI tg (evSs C body))) from h2)
 obtain ⟨ts',ht,e3⟩:=aq h3
 have e4:ts=ts':=congrArg a2v e3
 have e5:η3=M.share vs η:=congrArg a1Q e3
 subst e4 e5
 have h4':Fin K ⟨sf,pv⟩ Z H (tot Fs) D (bA tg (evSs C body) ts (M.share vs η)):=h4
 refine ⟨pv,_,jR,_,ws,η2,ts,A.quiet (vs:=vs) (ls:=ls),h1,ht,fun J Z1 H1 Fs1 B s wk yl=>?_⟩
 obtain ⟨B1,s1⟩:=bR (G:=no) A ba B.gd.zal (s.mono (F2:=fun a=>tot Fs1 a\/no a) (fun _ z=>z) fun a h=>h.elim id fun z=>z.elim) fun a h=>eP h
 obtain ⟨B2,s2⟩:=B1.share (vs:=vs)
 have s3:=(s2 s1).mono (F2:=tot (lX Fs vs)) (fun _ z=>z) fun _ z=>.inl z
 have zz:∀ a,Z1 a->((Z1 a/\¬ bp Fs vs a)\/bp Fs vs a):=fun a h=>(a2C (bp Fs vs a)).elim .inr fun q=>.inl ⟨h,q⟩
 refine ⟨fun i m σ' H'=>m=ts.length-i/\i<=ts.length/\∃ Zi Fsi ηi,At K ⟨sf,pv⟩ σ' Zi H' Fsi ηi no/\Step (fun a=>(Z1 a/\¬ bp Fs vs a)\/bp Fs vs a) H1 (tot (lX Fs vs)) Zi H' (tot Fsi)/\Fin K ⟨sf,pv⟩ Zi H' (tot Fsi) D (bA tg (evSs C body) (ts.drop i) ηi),⟨ts.length,by simp,a0N _,_,_,_,B2,Step.refl _ _ _,h4'.step s3⟩,?_⟩
 rintro i m σi H0 ⟨rfl,hi,Zi,Fsi,ηi,Ai,si,fi⟩
 have st:Stay Z1 H1 H0:=by
  have:=B2.gd.own.stay si
  exact ⟨fun a o h=>this.1 a o (zz a h),this.2⟩
 by_cases hlt:i < ts.length
 ·right
  refine ⟨wk.go H0 i st hlt,_,fun σ' H' hw=>⟨ts.length-(i+1),by omega,hw⟩,fun x H' y=>?_⟩
  have hw:ts[i]?=some ts[i]:=by simp [hlt]
  rw [jk hw] at fi
  obtain ⟨ηb,hb,fb⟩:=aN (show Fin K ⟨sf,pv⟩ Zi H0 (tot Fsi) D (Fl.of ηi (ofO (aZ tg ts[i] ηi)) fun η1=>Fl.turn (evSs C body η1) (bA tg (evSs C body) (ts.drop (i+1)))) from fi)
  refine kL hn nd N hio hjs (fun a h=>si.zm a (zz a h)) st yl Ai hw (bF hb) y fun σ2 H2 Fs2 A2 t2=>?_
  refine ⟨pv,Zi,Fs2,ηb,N,A2,l5 (fb.step t2) fun η' σ' Z' H' Fs' _ f' A' s'=>⟨rfl,hlt,Z',Fs',η',A',(si.trans t2).trans s',f'.step s'⟩⟩
 ·left
  have hi':i=ts.length:=by omega
  subst hi'
  rw [List.drop_length] at fi
  exact ⟨wk.stop H0 _ st (a0i _),fi σi Zi H0 Fsi Ai (Step.refl _ _ _)⟩
end
end MR

namespace MR
open PySem PySem.Spec PyProof.Rows L2 L3
section
variable {X:Cx}{sf sg:Nat->Option Nat}{C:M.Call}{pos p2:Pos}{ea eb ec:Expr}{a b c:M.E}{h:Bool}{n:Nat}
theorem aw {e:Expr}{t t':TE}(h:PE X e t)(hw:∀ σ H Q,t' σ H Q->t σ H Q):PE X e t':=fun pins s σ H Q I q=>h pins s σ H Q I (hw σ H Q q)
theorem ig {e:Expr}{t t':TT}(h:PT X e t)(hw:∀ σ H Q,t' σ H Q->t σ H Q):PT X e t':=fun pins s σ H Q I q=>h pins s σ H Q I (hw σ H Q q)
theorem pV {e:Expr}{t t':TT}(h:PW X e t)(hw:∀ σ H Q,t' σ H Q->t σ H Q):PW X e t':=fun whole pins s σ H Q I q=>h whole pins s σ H Q I (hw σ H Q q)
theorem f7 {es:List Expr}{t t':TA}(h:PA X es t)(hw:∀ σ H Q,t' σ H Q->t σ H Q):PA X es t':=fun pos pins s σ H Q I q=>h pos pins s σ H Q I (hw σ H Q q)
theorem b8 {s:Stmt}{t t':TS}(h:PS X s t)(hw:∀ D σ H,t' D σ H->t D σ H):PS X s t':=fun pins s σ H D I q=>h pins s σ H D I (hw D σ H q)
theorem gP {s:List Stmt}{t t':TS}(h:PSs X s t)(hw:∀ D σ H,t' D σ H->t D σ H):PSs X s t':=fun pins s σ H D I q=>h pins s σ H D I (hw D σ H q)
theorem jG {tg e:Expr}{t t':TI}(h:PI X tg e t)(hw:∀ σ H R,t' σ H R->t σ H R):PI X tg e t':=fun pins s σ H R I q=>h pins s σ H R I (hw σ H R q)
theorem wq {tg e:Expr}{t t':TI}(h:PI X tg e t)(h':PI X tg e t'):PI X tg e (fun σ H R=>t σ H R\/t' σ H R):=fun pins s σ H R I q=>q.elim (h pins s σ H R I) (h' pins s σ H R I)
noncomputable abbrev SE (X:Cx)(sf:Nat->Option Nat)(C:M.Call)(me:Expr)(e:M.E):Prop:=PE X me (wE X.K sf C e)
noncomputable abbrev SB (X:Cx)(sf:Nat->Option Nat)(C:M.Call)(me:Expr)(e:M.E):Prop:=PT X me (wT X.K sf C e)
noncomputable abbrev SL (X:Cx)(sf:Nat->Option Nat)(C:M.Call)(me:List Expr)(es:List M.E):Prop:=PA X me (wL X.K sf C es)
noncomputable abbrev SA (X:Cx)(sf:Nat->Option Nat)(C:M.Call)(me:List Expr)(es:List M.E):Prop:=PA X me (wA X.K sf C es)
noncomputable abbrev SS (X:Cx)(sf:Nat->Option Nat)(io:List Nat)(C:M.Call)(ms:Stmt)(s:M.S):Prop:=PS X ms (wS X.K sf io C s)
noncomputable abbrev SSs (X:Cx)(sf:Nat->Option Nat)(io:List Nat)(C:M.Call)(ms:List Stmt)(s:List M.S):Prop:=PSs X ms (wSs X.K sf io C s)
theorem sV (j:Nat){i:Nat}{x:Str}(hs:sf i=some j:=by rfl)(hN:X.N[j]?=some x:=by rfl)(hv:Vis X.env.scope x:=by first | exact a0C rfl | exact a0w (a0C rfl) | exact a0w (a0w rfl))(hd:(x==("__debug__":Str))=false:=by decide)
  (hcd:(x==("__classdict__":Str))=false:=by decide):SE X sf C (.Name x pos) (.var i):=aw (bq hN hv hd hcd) (sQ hs)
theorem sM (j:Nat){i:Nat}{x:Str}(hs:sf i=some j:=by rfl)(hN:X.N[j]?=some x:=by rfl)(hv:Vis X.env.scope x:=by first | exact a0C rfl | exact a0w (a0C rfl) | exact a0w (a0w rfl))(hd:(x==("__debug__":Str))=false:=by decide)
  (hcd:(x==("__classdict__":Str))=false:=by decide):SE X sf C (.Name x pos) (.mv i):=aw (bq hN hv hd hcd) (sC (fun _=>rfl) hs)
theorem sI {i:Int}{k:Nat}:SE X sf C (.Constant (.int i) k pos) (.cst (.int i)):=aw qT (gk fun {_ _}=>rfl)
theorem sO {i:Bool}{k:Nat}:SE X sf C (.Constant (.bool i) k pos) (.cst (.bl i)):=aw wY (gk fun {_ _}=>rfl)
theorem ou (s:String)(hl:s.length<=1000):M.sOk (Str.ofString s)=true:=by
 unfold M.sOk
 rw [Str.ofString_eq_toList,a0g]
 refine ⟨?_,decide_eq_true ?_⟩
 ·rw [a1p]
  intro x hx
  rw [List.mem_toArray,a2c] at hx
  obtain ⟨c,_,rfl⟩:=hx
  refine decide_eq_true ?_
  have:=c.valid
  have h2:c.toNat < 0x110000:=by
   have h3:=c.valid
   unfold UInt32.isValidChar Nat.isValidChar at h3
   show c.val.toNat < _
   omega
  exact h2
 ·rw [a0e,a0b,String.length_toList]
  exact a0p hl (by decide)
theorem sS {s:String}{k:Nat}(hl:s.length<=1000:=by decide):SE X sf C (.Constant (.str (Str.ofString s)) k pos) (.cst (.str (Str.ofString s))):=aw tH (gk fun {_ _}=>⟨rfl,ou s hl⟩)
theorem sl0:SL X sf C [] []:=f7 cw qm
theorem slc {es:List Expr}{bs:List M.E}(ha:SE X sf C ea a)(hb:SL X sf C es bs)(hs:starEach (ea::es) X.env=(false,eval ea X.env)::starEach es X.env:=by rfl):SL X sf C (ea::es) (a::bs):=f7 (a6 ha hb hs) nO
theorem sT {es:List Expr}{bs:List M.E}{x1:Nat}(h:SL X sf C es bs)(hn:bs.length<=M.LIM:=by decide):SE X sf C (.Tuple es x1 pos) (.tup bs):=aw (qz h) (sr hn)
theorem sLs {es:List Expr}{bs:List M.E}(hh:SL X sf C es bs)(hn:bs.length<=M.LIM:=by decide):SE X sf C (.List es pos) (.lst h bs):=aw (tZ hh) (sd hn)
theorem dD (ha:SE X sf C ea a)(hb:SE X sf C eb b):SE X sf C (.BinOp ea .Add eb pos) (.op .add h [a,b]) :=
 aw (d5 (op_add.or (op_add_str.or (op_cat.or ir))) ha hb) (aD (oa (qb X.K) fun {Z H G Q a b xs ys ts} h1 h2 h3 h4 ow r k=>by
  obtain ⟨G',g1,g2⟩:=r
  refine ⟨a,b,xs,ys,rfl,rfl,h1,h2,h3,aU h4,fun v H' same hv=>cZ (m:=.s) ow g1 ?_ g2 k same hv⟩
  rw [a0c]; exact h4))
theorem nQ (ha:SE X sf C ea a)(hb:SE X sf C eb b):SE X sf C (.BinOp ea .Sub eb pos) (.op .sub h [a,b]):=aw (d5 rW ha hb) (aD o9)
theorem eF (ha:SE X sf C ea a)(hb:SE X sf C eb b):SE X sf C (.BinOp ea .FloorDiv eb pos) (.op .fdiv h [a,b]):=aw (d5 nc ha hb) (aD jV)
theorem d9 (ha:SE X sf C ea a)(hb:SE X sf C eb b):SE X sf C (.BinOp ea .Mod eb pos) (.op .mod h [a,b]):=aw (d5 se ha hb) (aD n4)
theorem uv (ha:SE X sf C ea a)(hb:SE X sf C eb b):SE X sf C (.BinOp ea .Pow eb pos) (.op .pow h [a,b]):=aw (d5 qw ha hb) (aD oG)
theorem sGt (ha:SE X sf C ea a)(hb:SE X sf C eb b):SE X sf C (.Compare ea [.Gt] [eb] pos) (.op .gt h [a,b]):=aw (g8 pI ha hb (cU _)) (aD kf)
theorem sIx (ha:SE X sf C ea a)(hb:SE X sf C eb b)(hs:eX eb:=by intro _ _; rfl):SE X sf C (.Subscript ea eb pos) (.op .ix h [a,b]):=aw (ur (ix_any.or rh) ha hb hs) (aD ub)
mutual
noncomputable def th:M.T->Th
 | .non=>.non | .bl b=>.bl b | .int i=>.int i | .str x=>.str x | .tup ts=>.tup (ths ts) | .lst ts=>.lst (ths ts) | .dct _ _=>.non | .ins _ _ _=>.non | .scr _=>.non | .gone=>.non
noncomputable def ths:List M.T->List Th
 | []=>[]
 | t::ts=>th t::ths ts
end
mutual
theorem hE {K:a0a}{Z:Fp}{H:Hp}:∀ {t:M.T} {m:M.Md} {v:V} {G:Fp} {n:Nat},M.dp t<=n->n<=64->Rep K Z H m t v G->Has K H (th t) v/\(toD (th t)).canLay0=true/\(toD (th t)).depth<=n
 | .non,_,_,_,_,_,_,r=>⟨r,rfl,a0N _⟩
 | .bl _,_,_,_,_,_,_,r=>⟨r,rfl,a0N _⟩
 | .int _,_,_,_,_,_,_,r=>⟨r,rfl,a0N _⟩
 | .str x,_,_,_,_,_,_,r=>⟨r.1,by have h:=r.2; unfold M.sOk at h; rw [a0g] at h; exact h.1,a0N _⟩
 | .tup ts,m,v,G,n,hd,hn,⟨a,xs,e,q,l,r⟩=>by
  have hd':M.dps ts+1<=n:=hd
  match n,hd' with
  | n+1,hd' =>
   obtain ⟨h1,h2,h3⟩:=de (n:=n) (by omega) (by omega) r
   exact ⟨⟨a,xs,e,q,h1⟩,h2,a2e h3⟩
 | .lst ts,m,v,G,n,hd,hn,⟨a,xs,e,l,q,r⟩=>by
  have hd':M.dps ts+1<=n:=hd
  match n,hd' with
  | n+1,hd' =>
   obtain ⟨h1,h2,h3⟩:=de (n:=n) (by omega) (by omega) r
   exact ⟨⟨a,xs,e,by cases m<;>exact q.2,h1⟩,h2,a2e h3⟩
 | .dct _ _,_,_,_,_,hd,hn,_=>by have:1000<=64:=a0p hd hn; omega
 | .ins _ _ _,_,_,_,_,hd,hn,_=>by have:1000<=64:=a0p hd hn; omega
 | .gone,_,_,_,_,hd,hn,_=>by have:1000<=64:=a0p hd hn; omega
 | .scr _,_,_,_,_,hd,hn,_=>by have:1000<=64:=a0p hd hn; omega
theorem de {K:a0a}{Z:Fp}{H:Hp}:∀ {ts:List M.T} {m:M.Md} {xs:List V} {G:Fp} {n:Nat},M.dps ts<=n->n<=64->RepL K Z H m ts xs G->HasL K H (ths ts) xs/\PyData.canLayAll0 (cD (ths ts))=true/\PyData.depthAll (cD (ths ts))<=n
 | [],_,_,_,_,_,_,r=>⟨r,rfl,a0N _⟩
 | t::ts,m,xs,G,n,hd,hn,⟨x,r,G1,G2,e,_,_,_,p,q⟩=>by
  have hd':max (M.dp t) (M.dps ts)<=n:=hd
  obtain ⟨h1,h2,h3⟩:=hE (n:=n) (by omega) hn p
  obtain ⟨k1,k2,k3⟩:=de (n:=n) (by omega) hn q
  refine ⟨⟨x,r,e,h1,k1⟩,?_,?_⟩
  ·show ((toD (th t)).canLay0&&PyData.canLayAll0 (cD (ths ts)))=true
   rw [h2,k2]; rfl
  ·show max (toD (th t)).depth (PyData.depthAll (cD (ths ts)))<=n
   omega
end
mutual
theorem gD:∀ (t u:M.T),M.dp t<=64->M.dp u<=64->PyData.eqv (toD (th t)) (toD (th u))=M.eqT t u
 | .dct _ _,_,h,_=>by have:1000<=64:=h; omega
 | .ins _ _ _,_,h,_=>by have:1000<=64:=h; omega
 | .gone,_,h,_=>by have:1000<=64:=h; omega
 | .scr _,_,h,_=>by have:1000<=64:=h; omega
 | .non,u,_,h=>by cases u<;>first | rfl | (have:1000<=64:=h; omega)
 | .bl a,u,_,h=>by cases u<;>first | rfl | (cases a<;>rfl) | (have:1000<=64:=h; omega)
 | .int i,u,_,h=>by
  cases u with
  | bl b=>cases b<;>rfl
  | _=>first | rfl | (have:1000<=64:=h; omega)
 | .str x,u,_,h=>by cases u<;>first | rfl | (have:1000<=64:=h; omega)
 | .tup ts,u,h1,h=>by
  cases u with
  | tup us=>exact eG ts us (by have:M.dps ts+1<=64:=h1; omega) (by have:M.dps us+1<=64:=h; omega)
  | _=>first | rfl | (have:1000<=64:=h; omega)
 | .lst ts,u,h1,h=>by
  cases u with
  | lst us=>exact eG ts us (by have:M.dps ts+1<=64:=h1; omega) (by have:M.dps us+1<=64:=h; omega)
  | _=>first | rfl | (have:1000<=64:=h; omega)
theorem eG:∀ (ts us:List M.T),M.dps ts<=64->M.dps us<=64->PyData.eqvAll (cD (ths ts)) (cD (ths us))=M.eqTs ts us
 | [],[],_,_=>rfl
 | [],_::_,_,_=>rfl
 | _::_,[],_,_=>rfl
 | t::ts,u::us,h1,h2=>by
  have h1':max (M.dp t) (M.dps ts)<=64:=h1
  have h2':max (M.dp u) (M.dps us)<=64:=h2
  show (PyData.eqv (toD (th t)) (toD (th u))&&PyData.eqvAll (cD (ths ts)) (cD (ths us)))=(M.eqT t u&&M.eqTs ts us)
  rw [gD t u (by omega) (by omega),eG ts us (by omega) (by omega)]
end
theorem eW {K:a0a}{Z:Fp}{H:Hp}{t:M.T}{m:M.Md}{v:V}{G:Fp}(hd:M.dp t<=64)(r:Rep K Z H m t v G):Has K H (th t) v/\eV (th t):=by
 obtain ⟨h1,h2,h3⟩:=hE hd (a0i _) r
 refine ⟨h1,?_⟩
 show ((toD (th t)).canLay0&&decide ((toD (th t)).depth<=64))=true
 rw [h2,decide_eq_true h3]; rfl
theorem sP {K:a0a}:Loc K 2 .eq h fun xs H Q=>∀ x y,xs=[x,y]->∃ t t',Has K H t x/\Has K H t' y/\eV t/\eV t'/\Q (.bl (PyData.eqv (toD t) (toD t'))) H:=by
 intro ws w xs Z H G Q hn e r ow za k x y hx
 subst hx
 obtain ⟨⟨m,a⟩,⟨n,b⟩,rfl⟩:=dI r.length.symm
 obtain ⟨G1,G2,w1,w2,d,r1,r2⟩:=bO r
 have e':(if decide (M.dp a<=64)&&decide (M.dp b<=64) then some ((.d,.bl (M.eqT a b)):M.W) else none)=some w:=e
 split at e'
 ·rename_i hc
  rw [a0g,decide_eq_true_eq,decide_eq_true_eq] at hc
  cases e'
  obtain ⟨h1,o1⟩:=eW hc.1 r1
  obtain ⟨h2,o2⟩:=eW hc.2 r2
  refine ⟨th a,th b,h1,h2,o1,o2,?_⟩
  rw [gD a b hc.1 hc.2]
  exact bV k
 ·cases e'
theorem qK {K:a0a}:Loc K 2 .ne h fun xs H Q=>∀ x y,xs=[x,y]->∃ t t',Has K H t x/\Has K H t' y/\eV t/\eV t'/\Q (.bl (!PyData.eqv (toD t) (toD t'))) H:=by
 intro ws w xs Z H G Q hn e r ow za k x y hx
 subst hx
 obtain ⟨⟨m,a⟩,⟨n,b⟩,rfl⟩:=dI r.length.symm
 obtain ⟨G1,G2,w1,w2,d,r1,r2⟩:=bO r
 have e':(if decide (M.dp a<=64)&&decide (M.dp b<=64) then some ((.d,.bl (!M.eqT a b)):M.W) else none)=some w:=e
 split at e'
 ·rename_i hc
  rw [a0g,decide_eq_true_eq,decide_eq_true_eq] at hc
  cases e'
  obtain ⟨h1,o1⟩:=eW hc.1 r1
  obtain ⟨h2,o2⟩:=eW hc.2 r2
  refine ⟨th a,th b,h1,h2,o1,o2,?_⟩
  rw [gD a b hc.1 hc.2]
  exact bV k
 ·cases e'
theorem ifN {α:Type}{b:Bool}{x:Option α}{y:α}(h:(if b=true then none else x)=some y):b=false/\x=some y:=by cases b<;>first | exact ⟨rfl,h⟩ | cases h
theorem ia {K:a0a}{Z:Fp}{H:Hp}{G:Fp}{m:M.Md}{ts:List M.T}{xs:List V}(lo hi:Option Int)(r:RepL K Z H m ts xs G):RepL K Z H m (M.cut ts lo hi) (bW xs lo hi) G:=by
 have e:=r.length
 have hs:∀ n d o,HT.sIx n d o=M.sIx n d o:=fun n d o=>by cases o<;>rfl
 have hc:bW xs lo hi=(xs.drop (M.sIx ts.length 0 lo)).take (M.sIx ts.length ts.length hi-M.sIx ts.length 0 lo):=by
  unfold bW
  rw [hs,hs,e]
 rw [hc]
 exact (r.drop _).take _
theorem jU (ns:List Int)(lo hi:Option Int):bW (ns.map V.int) lo hi=(M.cut ns lo hi).map V.int:=by
 have hs:∀ n d o,HT.sIx n d o=M.sIx n d o:=fun n d o=>by cases o<;>rfl
 unfold bW M.cut
 rw [hs,hs,a0b,List.map_take,List.map_drop]
theorem uk {α:Type}(xs:List α)(lo hi:Option Int):(M.cut xs lo hi).length<=xs.length:=by
 unfold M.cut
 rw [a1j,a04]; omega
theorem j0 {K:a0a}{Z:Fp}{H:Hp}{G G1:Fp}{Q:VK}{m:M.Md}{a:M.T}{x:V}{w:M.W}{lo hi:Option Int}(hg:∀ b,G1 b->G b)(ow:Own Z H G)(za:∀ a,Z a->H a≠none)(r:Rep K Z H m a x G1)
  (e:(match a with | .lst ts=>M.newL h m.kid (M.cut ts lo hi) | .tup ts=>some ((.s,.tup (M.cut ts lo hi)):M.W) | .scr ns=>some (.d,.lst ((M.cut ns lo hi).map M.T.int)) | _=>none)=some w) (k:Out K Z H G w Q):oK K x lo hi H Q\/oN K x lo hi H Q:=by
 cases a with
 | lst ts =>
  obtain ⟨p,xs,rfl,hs,hl,q⟩:=aS r
  refine .inl ⟨p,xs,rfl,.inl (.inl hs),fun l hl'=>?_⟩
  exact cf ow za (a0p (a7 xs lo hi) hl) ⟨G1,hg,(ia lo hi q).zmono fun _ z=>.inl z⟩ e k hl'
 | tup ts =>
  obtain ⟨p,xs,rfl,hs,hl,q⟩:=bb r
  cases e
  refine .inr ⟨p,xs,rfl,hs,fun v H' same hv=>?_⟩
  exact cZ (m:=.s) (G':=no) ow (fun _ z=>z.elim) (a0p (a7 xs lo hi) hl) ((RepL.sh (ia lo hi q)).zmono fun b hb=>hb.imp id fun z=>⟨hg b z,fun q=>q⟩) k same hv
 | scr ns =>
  obtain ⟨p,rfl,hL,hs⟩:=r
  cases e
  refine .inl ⟨p,_,rfl,hs.sq,fun l hl'=>?_⟩
  rw [jU]
  exact aX (m:=.d) (G':=no) ow za (fun _ z=>z.elim) (by rw [a0b]; exact a0p (uk ns lo hi) hL) (gM _) (by simp) k hl'
 | _=>cases e
theorem xP {p3:Pos}(ha:SE X sf C ea a)(hb:SE X sf C eb b):SE X sf C (.Subscript ea (.Slice none (some eb) none p3) pos) (.op .sl2 h [a,b]) :=
 aw (ff (sl_list.or iF) ha ie (hX hb)) (fun σ H Q hw=>aD (r:=fun x y H Q=>∃ i,y=.int i/\(oK X.K x none (some i) H Q\/oN X.K x none (some i) H Q)) (by
  intro ws w xs Z H G Q hn e r ow za k x y hx
  subst hx
  obtain ⟨⟨m,a⟩,⟨n,b⟩,rfl⟩:=dI r.length.symm
  obtain ⟨G1,G2,w1,w2,d,r1,r2⟩:=bO r
  cases b with
  | int i=>exact ⟨i,r2,j0 (h:=h) (lo:=none) (hi:=some i) w1 ow za r1 (by cases a<;>exact e) k⟩
  | _=>cases a<;>cases e) σ H Q hw)
theorem xf {p3:Pos}(ha:SE X sf C ea a)(hb:SE X sf C eb b):SE X sf C (.Subscript ea (.Slice (some eb) none none p3) pos) (.op .sl1 h [a,b]) :=
 aw (ff (sl_list.or iF) ha (hX hb) ie) (fun σ H Q hw=>aD (r:=fun x y H Q=>∃ i,y=.int i/\(oK X.K x (some i) none H Q\/oN X.K x (some i) none H Q)) (by
  intro ws w xs Z H G Q hn e r ow za k x y hx
  subst hx
  obtain ⟨⟨m,a⟩,⟨n,b⟩,rfl⟩:=dI r.length.symm
  obtain ⟨G1,G2,w1,w2,d,r1,r2⟩:=bO r
  cases b with
  | int i=>exact ⟨i,r2,j0 (h:=h) (lo:=some i) (hi:=none) w1 ow za r1 (by cases a<;>exact e) k⟩
  | _=>cases a<;>cases e) σ H Q hw)
theorem kU {K:a0a}:Loc K 1 .len h fun xs H Q=>∃ x n,xs=[x]/\wD K x H n/\Q (.int n) H:=by
 intro ws w xs Z H G Q hn e r ow za k
 obtain ⟨x,n,hx,hm,q⟩:=mI (h:=h) ws w xs Z H G Q hn e r ow za k
 exact ⟨x,n,hx,by cases x<;>exact hm,q⟩
section
variable {p:Pos}{x1:Str}
theorem wM (hm:X.mg "list"=none)(hg:Gl X "list":=by rfl)(ha:SE X sf C ea a)(hs:starEach [ea] X.env=(false,eval ea X.env)::starEach [] X.env:=by rfl)(hpl:(backTo pos (starEach [] X.env)).any (·.1)=false:=by rfl):SE X sf C (.Call (.Name "list" p) [ea] [] pos) (.op .list h [a]) :=
 aw (d6 eO hg hm a1D (slc ha sl0 hs) (by decide) (by decide) hs hpl) (ij lZ rfl)
end
theorem oD {K:a0a}{x:V}{H:Hp}{k:Bool}(h:TrV K x H k):tO K x H k:=by
 cases x with
 | ref p=>exact h.imp id .inl
 | byt _=>exact h.elim
 | _=>exact h
theorem tB (ha:SE X sf C ea a)(he:∀ whole,isTrue ea X.env whole=(do let v <- whole; standAt ea.pos; holding [v] (truthy v)):=by intro _; rfl):SB X sf C ea a :=
 ig (lP ha he) fun σ H Q h=>by
  obtain ⟨pv,Z,Fs,η,w,η',b,A,ev,ht,k⟩:=h
  exact ⟨pv,Z,Fs,η,w,η',A,ev,fun v Z' H' Fs' G B r s=>⟨b,oD (i7 ht r),k Z' H' Fs' B.bare (s.mono (fun _ z=>z) fun _ z=>.inl z)⟩⟩
theorem uA (ha:SB X sf C ea a):SB X sf C (.UnaryOp .Not ea pos) (.not a):=ig (rD ha) rO
theorem wN {σ:L2.St}{H:Hp}{Q:Bool->Hp->Prop}(hb:∀ η w η',M.evE C a η=.ok (w,η')->∃ b,w.2=.bl b)(h:wT X.K sf C a σ H Q):pS (wE X.K sf C a) σ H Q:=by
 obtain ⟨pv,Z,Fs,η,w,η',b,A,ev,ht,k⟩:=h
 refine ⟨pv,Z,Fs,η,w,η',A,ev,fun v Z' H' Fs' G B r s=>⟨b,?_,k Z' H' Fs' B.bare (s.mono (fun _ z=>z) fun _ z=>.inl z)⟩⟩
 obtain ⟨b',hb'⟩:=hb _ _ _ ev
 rw [hb'] at ht r
 cases ht
 exact r
theorem wd {o:M.Op}(ho:∀ u v w,M.oSem o h [u,v]=some w->∃ b,w.2=.bl b):∀ η w η',M.evE C (.op o h [a,b]) η=.ok (w,η')->∃ b,w.2=.bl b:=fun η w η' e=>by
 obtain ⟨ws,h1,h2⟩:=cq e
 obtain ⟨u,η1,us,_,e2,rfl⟩:=aG h1
 obtain ⟨v,η2,us,_,e4,rfl⟩:=aG e2
 cases e4
 exact ho u v w h2
theorem bJ {op:CmpOp}{r:R2}{o:M.Op}(ho:OpR X (compareOp op) r)(ha:SE X sf C ea a)(hb:SE X sf C eb b)(hm:behindInMarks op eb=false)(hl:∀ σ H Q,wE X.K sf C (.op o h [a,b]) σ H Q->tOp r (wE X.K sf C a) (wE X.K sf C b) σ H Q)
  (hbl:∀ u v w,M.oSem o h [u,v]=some w->∃ b,w.2=.bl b):SB X sf C (.Compare ea [op] [eb] pos) (.op o h [a,b]) :=
 ig (iM ho ha hb hm) fun σ H Q hw=>hl σ H _ (wN (wd hbl) hw)
theorem uK {u v w:M.W}(e:M.oSem .eq h [u,v]=some w):∃ b,w.2=.bl b:=by
 obtain ⟨m,a⟩:=u; obtain ⟨n,b⟩:=v
 have e':(if decide (M.dp a<=64)&&decide (M.dp b<=64) then some ((.d,.bl (M.eqT a b)):M.W) else none)=some w:=e
 split at e'
 ·cases e'; exact ⟨_,rfl⟩
 ·cases e'
theorem u5 {u v w:M.W}(e:M.oSem .ne h [u,v]=some w):∃ b,w.2=.bl b:=by
 obtain ⟨m,a⟩:=u; obtain ⟨n,b⟩:=v
 have e':(if decide (M.dp a<=64)&&decide (M.dp b<=64) then some ((.d,.bl (!M.eqT a b)):M.W) else none)=some w:=e
 split at e'
 ·cases e'; exact ⟨_,rfl⟩
 ·cases e'
theorem xr (ha:SE X sf C ea a)(hb:SE X sf C eb b):SB X sf C (.Compare ea [.Lt] [eb] pos) (.op .lt h [a,b]):=bJ uu ha hb (cU _) (aD qA) fun u v w e=>by obtain ⟨_,_,_,_,_,_,rfl⟩:=lN e; exact ⟨_,rfl⟩
theorem yb (ha:SE X sf C ea a)(hb:SE X sf C eb b):SB X sf C (.Compare ea [.Gt] [eb] pos) (.op .gt h [a,b]):=bJ pI ha hb (cU _) (aD kf) fun u v w e=>by obtain ⟨_,_,_,_,_,_,rfl⟩:=l7 e; exact ⟨_,rfl⟩
theorem dE (hr:Room n X.A)(ha:SE X sf C ea a)(hb:SE X sf C eb b):SB X sf C (.Compare ea [.Eq] [eb] pos) (.op .eq h [a,b]):=bJ (m4 hr.units) ha hb (cU _) (aD sP) fun u v w e=>uK e
theorem wg (hr:Room n X.A)(ha:SE X sf C ea a)(hb:SE X sf C eb b):SB X sf C (.Compare ea [.NotEq] [eb] pos) (.op .ne h [a,b]):=bJ (pB hr.units) ha hb (cU _) (aD qK) fun u v w e=>u5 e
noncomputable abbrev SW (X:Cx)(sf:Nat->Option Nat)(C:M.Call)(me:Expr)(e:M.E):Prop:=PW X me (wT X.K sf C e)
theorem wA1 (ha:SB X sf C ea a):SW X sf C (.BoolOp .And [ea] pos) a:=oo ha
theorem wO1 (ha:SB X sf C ea a):SW X sf C (.BoolOp .Or [ea] pos) a:=qU ha
theorem yi {rest:List Expr}(ha:SB X sf C ea a)(hb:SW X sf C (.BoolOp .And (eb::rest) pos) b):SW X sf C (.BoolOp .And (ea::eb::rest) pos) (.and a b):=pV (qJ ha hb) tQ
theorem wOr {rest:List Expr}(ha:SB X sf C ea a)(hb:SW X sf C (.BoolOp .Or (eb::rest) pos) b):SW X sf C (.BoolOp .Or (ea::eb::rest) pos) (.or a b):=pV (wO ha hb) vb
theorem tW (h:SW X sf C ea a):SB X sf C ea a:=h.pt
theorem sIf (hc:SB X sf C ec c)(ha:SE X sf C ea a)(hb:SE X sf C eb b):SE X sf C (.IfExp ec ea eb pos) (.ifx c a b):=aw (kZ hc ha hb) rY
theorem mF {tg:Expr}(ha:SE X sf C ea a):PI X tg ea (wI X.K sf C 1 .seq [a]):=jG (wq (mL ha) (qS ha)) s8
theorem xX {tg:Expr}{p:Pos}(hm:X.mg "range"=none)(hg:Gl X "range":=by rfl)(ha:SE X sf C ea a)(hs:starEach [ea] X.env=[(false,eval ea X.env)]:=by rfl):PI X tg (.Call (.Name "range" p) [ea] [] pos) (wI X.K sf C 1 .rng [a]):=jG (i1 hg hm (slc ha sl0 hs) hs) pC
end
end MR

namespace MR
open PySem PySem.Spec PyProof.Rows L2 L3
section
variable {X:Cx}{sf sg:Nat->Option Nat}{C:M.Call}{pos p2:Pos}{ea eb ec:Expr}{a b c:M.E}{h:Bool}{n:Nat}{io:List Nat}
noncomputable def spS (K:a0a)(C:M.Call)(f:Nat)(io:List Nat):Sp:=fun vs H Q _=>spC K C f io vs H Q
theorem sa0:SA X sf C [] []:=f7 cw rm
theorem sac {es:List Expr}{bs:List M.E}(ha:SE X sf C ea a)(hb:SA X sf C es bs)(he:∀ i,a≠.io i:=by intro _ z; cases z)(hs:starEach (ea::es) X.env=(false,eval ea X.env)::starEach es X.env:=by rfl):SA X sf C (ea::es) (a::bs):=f7 (a6 ha hb hs) (j9 he)
theorem sai (j:Nat){i:Nat}{x:Str}{es:List Expr}{bs:List M.E}(hb:SA X sf C es bs)(hs:sf i=some j:=by rfl)(hN:X.N[j]?=some x:=by rfl)(hv:Vis X.env.scope x:=by first | exact a0C rfl | exact a0w (a0C rfl) | exact a0w (a0w rfl))(hd:(x==("__debug__":Str))=false:=by decide)
  (hcd:(x==("__classdict__":Str))=false:=by decide) (hst:starEach (.Name x pos::es) X.env=(false,eval (.Name x pos) X.env)::starEach es X.env:=by rfl):SA X sf C (.Name x pos::es) (.io i::bs):=f7 (a6 (bq hN hv hd hcd) hb hst) (jv hs)
noncomputable def ah (P:Program)(w:World)(K:a0a)(mg:Str->Option Value)(base:Heap)(n:Nat)(C:M.Call)(x:Str)(f:Nat)(io:List Nat):Prop :=
 ∃ fa fd ps,b6 P w K mg base CX0 n fa fd ps (spS K C f io)/\mg x=some (.ref fa)/\a1h K (.ref fa)=true/\Binds K fd ps []
theorem aH {x:Str}{p:Pos}{f:Nat}{es:List Expr}{bs:List M.E}(c:ah X.prog X.w X.K X.mg X.base n C x f io)(hr:Room n X.A)(ha:SA X sf C (ea::es) bs)(hio:cM bs 0=io\/M.ios bs=[]:=by first | exact .inl rfl | exact .inr rfl)(hg:Gl X x:=by rfl)(hdb:(x==("__debug__":Str))=false:=by decide)
  (he:starEach (ea::es) X.env=(false,eval ea X.env)::starEach es X.env:=by rfl) (hpl:(backTo pos (starEach es X.env)).any (·.1)=false:=by rfl):SE X sf C (.Call (.Name x p) (ea::es) [] pos) (.call f bs):=by
 obtain ⟨fa,fd,ps,F,hm,hk,hb⟩:=c
 refine aw (pj (E:=E0) F hr hg hm hk hb .nil vc ha hdb he hpl) fun σ H Q hw=>?_
 have h2:=nG hio σ H Q hw
 obtain ⟨pv,Z,Fs,η,ws,η',A,ev,k⟩:=h2
 exact ⟨pv,Z,Fs,η,ws,η',A,ev,fun vs Z' H' Fs' G B r s hv=>by show spS X.K C f io (vs++[]) H' Q E0; rw [a0I]; exact k vs Z' H' Fs' G B r s hv⟩
theorem ss0:SSs X sf io C [] []:=gP pz oi
theorem ss1 {s:Stmt}{t:M.S}(hs:SS X sf io C s t):SSs X sf io C [s] [t]:=gP (oB hs) pD
theorem ssc {s:Stmt}{t:M.S}{r:List Stmt}{u:List M.S}(hs:SS X sf io C s t)(hr:SSs X sf io C r u):SSs X sf io C (s::r) (t::u):=gP (jW hs hr) j1
theorem bf (j:Nat){i:Nat}{x:Str}{xx:M.X}{pos':Pos}(hN:X.N.Nodup)(ha:SE X sf C ea a)(hi:i ∉ io:=by decide)(hs:sf i=some j:=by rfl)(hj:X.N[j]?=some x:=by rfl)(hx:L2.Loc X.env.scope x:=by first | exact a0C rfl | exact a0w rfl)
  (hsw:swapsWith ea (some (.Name x pos')) pos.line X.env=pure false:=by rfl) (hf:X.fn x=true\/X.env.scope.names.lookup x=some .local:=by first | exact .inl rfl | exact .inr rfl):SS X sf io C (.Assign [.Name x pos'] ea pos) (.asg xx i a):=b8 (sy (i:=j) hN hj hx ha hsw hf) (ri hi hs)
theorem uR {xx:M.X}(ha:SE X sf C ea a)(hs:swapsWith ea none pos.line X.env=pure false:=by rfl):SS X sf io C (.Expr ea pos) (.exp xx a):=b8 (eQ ha hs) ua
theorem bx {vs:List Nat}(ha:SE X sf C ea a):SS X sf io C (.Return (some ea) pos) (.ret vs a):=b8 (tR ha) sZ
theorem zIf {xx:M.X}{r u:List Stmt}{s t:List M.S}(hc:SB X sf C ec c)(ha:SSs X sf io C r s)(hb:SSs X sf io C u t):SS X sf io C (.If ec r u pos) (.ite xx c s t):=b8 (xc hc ha hb) rj
theorem fQ (j:Nat){t:Nat}{x:Str}{px:Pos}{iter:Expr}{r:List Stmt}{s:List M.S}{vs ls:List Nat}{k:M.Ik}{src:List M.E}(hN:X.N.Nodup)(hi:PI X (.Name x px) iter (wI X.K sf C 1 k src))(ha:SSs X sf io C r s)(hio:∀ u∈[t],u ∉ io:=by decide)(hjs:[t].map sf=[j].map some:=by rfl)(hj:X.N[j]?=some x:=by rfl)(hx:L2.Loc X.env.scope x:=by first | exact a0C rfl | exact a0w rfl)
  (hc:X.calm=true:=by rfl) (hp:PassesOwn (model X.prog X.w) X.A X.env X.xe:=by exact PassesOwn.never) (hf:X.fn x=true\/X.env.scope.names.lookup x=some .local:=by first | exact .inl rfl | exact .inr rfl) (hs:∀ x,foldedSetIterable iter X.env x=pure x:=by intro _; rfl):SS X sf io C (.For (.Name x px) iter r [] pos) (.forS vs ls k src [t] s) :=
 b8 (j5 hp hc hi (ed (i:=j) hN hj hx hf) ha hs) (jM rfl (by simp) hio hjs)
theorem wH (j l:Nat){t u:Nat}{x y:Str}{px py pt:Pos}{kt:Nat}{iter:Expr}{r:List Stmt}{s:List M.S}{vs ls:List Nat}{k:M.Ik}{src:List M.E}(hN:X.N.Nodup)(hi:PI X (.Tuple [.Name x px,.Name y py] kt pt) iter (wI X.K sf C 2 k src))(ha:SSs X sf io C r s)(hio:∀ v∈[t,u],v ∉ io:=by decide)(nd:[t,u].Nodup:=by decide)(hjs:[t,u].map sf=[j,l].map some:=by rfl)(hj:X.N[j]?=some x:=by rfl)(hl:X.N[l]?=some y:=by rfl)
  (hx:L2.Loc X.env.scope x:=by first | exact a0C rfl | exact a0w rfl) (hy:L2.Loc X.env.scope y:=by first | exact a0C rfl | exact a0w rfl)
  (hc:X.calm=true:=by rfl) (hp:PassesOwn (model X.prog X.w) X.A X.env X.xe:=by exact PassesOwn.never) (hf:X.fn x=true\/X.env.scope.names.lookup x=some .local:=by first | exact .inl rfl | exact .inr rfl) (hf':X.fn y=true\/X.env.scope.names.lookup y=some .local:=by first | exact .inl rfl | exact .inr rfl) (hs:∀ x,foldedSetIterable iter X.env x=pure x:=by intro _; rfl):SS X sf io C (.For (.Tuple [.Name x px,.Name y py] kt pt) iter r [] pos) (.forS vs ls k src [t,u] s) :=
 b8 (j5 hp hc hi (qZ (n:=2) hc (fJ (ed (i:=j) hN hj hx hf) (fJ (ed (i:=l) hN hl hy hf') o8))) ha hs) (jM rfl nd hio hjs)
theorem je (j:Nat){i:Nat}{x:Str}{xx:M.X}{apos cpos px:Pos}(ha:SE X sf C ea a)(hs:sf i=some j:=by rfl)(hN:X.N[j]?=some x:=by rfl)(hv:Vis X.env.scope x:=by first | exact a0C rfl | exact a0w (a0C rfl) | exact a0w (a0w rfl))(hd:(x==("__debug__":Str))=false:=by decide)(hcd:(x==("__classdict__":Str))=false:=by decide)
  (hbase:attributeBase (.Name x px) "append" X.env (eval (.Name x px) X.env)=eval (.Name x px) X.env:=by rfl)
  (hfew:((backTo cpos (starEach [ea] X.env)).all (fun x=>!x.1)&&(backToKw cpos (keywordEach [] X.env)).all (fun x=>x.1.isSome)&&decide ([ea].length+([]:List Keyword).length+(if ([]:List Keyword).isEmpty then 0 else 1) < 30))=true:=by rfl)
  (hline:(apos.endLine==cpos.line)=true:=by rfl) (hst:starEach [ea] X.env=(false,eval ea X.env)::starEach [] X.env:=by rfl) (hplain:(backTo cpos (starEach [] X.env)).any (·.1)=false:=by rfl) (hsw:swapsWith (.Call (.Attribute (.Name x px) "append" apos) [ea] [] cpos) none pos.line X.env=pure false:=by rfl) :
  SS X sf io C (.Expr (.Call (.Attribute (.Name x px) "append" apos) [ea] [] cpos) pos) (.app xx i a) :=
 b8 (eQ (p9 a1c PySem.F.slot_list_append PySem.F.type_list_append jq (bq hN hv hd hcd) (a6 ha cw hst) hbase hfew hline hst hplain) hsw) fun D σ H hw=>by
  obtain ⟨p,xs,hj,hp,pv,Z,Fs,η,w,η',A,ev,k⟩:=qG hs D σ H hw
  refine ⟨.ref p,hj,.inl ⟨rfl,xs,.inl (.inl hp)⟩,pv,Z,Fs,η,w,η',A,ev,fun v Z' H' Fs' G B r s=>?_⟩
  obtain ⟨ys,h1,h2,h3⟩:=k v Z' H' Fs' G B r s
  exact ⟨p,ys,v,rfl,rfl,h1,h2,h3⟩
theorem yd (j:Nat){i:Nat}{x:Str}{xx:M.X}{apos cpos px:Pos}(ha:SE X sf C ea a)(hs:sf i=some j:=by rfl)(hN:X.N[j]?=some x:=by rfl)(hv:Vis X.env.scope x:=by first | exact a0C rfl | exact a0w (a0C rfl) | exact a0w (a0w rfl))(hd:(x==("__debug__":Str))=false:=by decide)(hcd:(x==("__classdict__":Str))=false:=by decide)
  (hbase:attributeBase (.Name x px) "extend" X.env (eval (.Name x px) X.env)=eval (.Name x px) X.env:=by rfl)
  (hfew:((backTo cpos (starEach [ea] X.env)).all (fun x=>!x.1)&&(backToKw cpos (keywordEach [] X.env)).all (fun x=>x.1.isSome)&&decide ([ea].length+([]:List Keyword).length+(if ([]:List Keyword).isEmpty then 0 else 1) < 30))=true:=by rfl)
  (hline:(apos.endLine==cpos.line)=true:=by rfl) (hst:starEach [ea] X.env=(false,eval ea X.env)::starEach [] X.env:=by rfl) (hplain:(backTo cpos (starEach [] X.env)).any (·.1)=false:=by rfl) (hsw:swapsWith (.Call (.Attribute (.Name x px) "extend" apos) [ea] [] cpos) none pos.line X.env=pure false:=by rfl) :
  SS X sf io C (.Expr (.Call (.Attribute (.Name x px) "extend" apos) [ea] [] cpos) pos) (.ext xx i a) :=
 b8 (eQ (p9 a1c PySem.F.slot_list_extend PySem.F.type_list_extend jr (bq hN hv hd hcd) (a6 ha cw hst) hbase hfew hline hst hplain) hsw) fun D σ H hw=>by
  obtain ⟨p,xs,hj,hp,pv,Z,Fs,η,w,η',A,ev,k⟩:=rZ hs D σ H hw
  refine ⟨.ref p,hj,.inl ⟨rfl,xs,.inl (.inl hp)⟩,pv,Z,Fs,η,w,η',A,ev,fun v Z' H' Fs' G B r s=>?_⟩
  obtain ⟨b,ys,zs,rfl,h1,h2,h3,h4⟩:=k v Z' H' Fs' G B r s
  exact ⟨p,b,ys,zs,rfl,rfl,h1,h2,h3,h4⟩
end
end MR

namespace MR
open PySem PySem.Spec PyProof.Rows L2 L3
section
variable {K:a0a}{Z:Fp}{H:Hp}
theorem eR:∀ {ws:List M.W} {n i:Nat} {w:M.W},M.rd (ws.map some++a0G n none) i=some w->ws[i]?=some w
 | [],0,i,w,h=>by simp [M.rd] at h
 | [],n+1,0,w,h=>by simp [a1o,M.rd] at h
 | [],n+1,i+1,w,h=>by
  have:M.rd (([]:List M.W).map some++a0G n none) i=some w:=by simpa [a1o,M.rd] using h
  have:=eR this
  simp at this
 | u::ws,n,0,w,h=>by simpa [M.rd] using h
 | u::ws,n,i+1,w,h=>by
  have:M.rd (ws.map some++a0G n none) i=some w:=by simpa [M.rd] using h
  simpa using eR this
theorem lM:∀ {ws:List M.W} {vs:List V} {G:Fp},RepW K Z H ws vs G->∃ Fs:Fps,(∀ i a,Fs i a->G a)/\(∀ i j a,Fs i a->Fs j a->i=j)/\∀ i w,ws[i]?=some w->∃ v,vs[i]?=some v/\Rep K Z H w.1 w.2 v (Fs i)
 | [],vs,G,_=>⟨fun _=>no,fun _ _ h=>h.elim,fun _ _ _ h=>h.elim,fun i w h=>by simp at h⟩
 | w::ws,vs,G,⟨x,r,G1,G2,e,h1,h2,hd,p,q⟩=>by
  obtain ⟨Fs,f1,f2,f3⟩:=lM q
  subst e
  refine ⟨fun i=>match i with | 0=>G1 | i+1=>Fs i,fun i a h=>?_,fun i j a hi hj=>?_,fun i u h=>?_⟩
  ·cases i with
   | zero=>exact h1 a h
   | succ i=>exact h2 a (f1 i a h)
  ·cases i with
   | zero =>
    cases j with
    | zero=>rfl
    | succ j=>exact absurd (f1 j a hj) (hd a hi)
   | succ i =>
    cases j with
    | zero=>exact absurd (f1 i a hi) (hd a hj)
    | succ j=>exact congrArg (·+1) (f2 i j a hi hj)
  ·cases i with
   | zero=>simp only [a1b,a1y] at h; subst h; exact ⟨x,rfl,p⟩
   | succ i=>simpa using f3 i u (by simpa using h)
noncomputable def slN (n:Nat):Nat->Option Nat:=fun i=>if i < n then some i else none
theorem ck {sl:Cf}{σ:L2.St}{Fs:Fps}{η:M.Env}{G:Fp}{vs:List V}(A:At K sl σ Z H Fs η G):∀ {io:List Nat} {bs:List M.W},io.Nodup->(∀ i∈io,sl.pv i=vs[i]?/\i < vs.length)->M.backs io η=some bs->RepW K Z H bs (atV io vs) (fun a=>∃ i∈io,Fs i a)
 | [],bs,_,_,h=>by
  simp only [M.backs,a1y] at h; subst h; rfl
 | i::io,bs,nd,hv,h=>by
  simp only [M.backs] at h
  cases e:M.rd η i with
  | none=>rw [e] at h; cases h
  | some w =>
   rw [e] at h
   simp only [a2f] at h
   cases e2:M.backs io η with
   | none=>rw [e2] at h; cases h
   | some ws =>
    rw [e2] at h
    simp only [a2f,a1y] at h
    subst h
    obtain ⟨v,r,_,hp⟩:=A.env i w.1 w.2 e
    have hi:=hv i a0d
    obtain ⟨u,hu⟩:∃ u,vs[i]?=some u:=⟨vs[i]'hi.2,a0m hi.2⟩
    have:=hp u (hi.1.trans hu)
    subst this
    refine ⟨v,atV io vs,Fs i,fun a=>∃ j∈io,Fs j a,?_,fun a h=>⟨i,a0d,h⟩,fun a ⟨j,hj,h⟩=>⟨j,a0f _ hj,h⟩,fun a h ⟨j,hj,h'⟩=>?_,r,ck A (a0D.mp nd).2 (fun j hj=>hv j (a0f _ hj)) e2⟩
    ·rw [atV,a0E,hu]; rfl
    ·exact (a0D.mp nd).1 (A.gd.dis i j a h h' ▸ hj)
end
section
variable {P:Program}{w:World}{K:a0a}{mg:Str->Option Value}{base:Heap}
theorem lh {Z:Fp}{H:Hp}{ws:List M.W}{vs:List V}{G:Fp}{N:List Str}{n:Nat}{io:List Nat}(r:RepW K Z H ws vs G)(o:Own Z H G)(z:∀ a,Z a->H a≠none)(hl:vs.length<=N.length) :
  ∃ Fs,(∀ a,tot Fs a->G a)/\At K ⟨slN N.length,fun i=>if i∈io then vs[i]? else none⟩ (L2.start N vs) Z H Fs (ws.map some++a0G n none) no:=by
 obtain ⟨Fs,f1,f2,f3⟩:=lM r
 have st:∀ i v,vs[i]?=some v->(L2.start N vs)[i]?=some (some v):=fun i v h=>by
  have hi:=(a0o.mp h).1
  rw [L2.start,a1s (by simpa using hi),a0v,h]; rfl
 refine ⟨Fs,fun a ⟨i,h⟩=>f1 i a h,⟨⟨fun a ⟨i,h⟩=>o a (f1 i a h),f2,z⟩,fun i m t e=>?_,fun a h=>h.elim,fun a h=>h.elim,fun i u j hu hj=>?_,fun i j hj=>?_⟩⟩
 ·obtain ⟨v,hv,rp⟩:=f3 i (m,t) (eR e)
  refine ⟨v,rp,fun j hj=>?_,fun u hu=>?_⟩
  ·simp only [slN] at hj
   split at hj
   ·cases hj; exact st i v hv
   ·cases hj
  ·simp only at hu
   split at hu
   ·rw [hv] at hu; cases hu; rfl
   ·cases hu
 ·simp only at hu
  simp only [slN] at hj
  split at hj
  ·cases hj
   split at hu
   ·exact st i u hu
   ·cases hu
  ·cases hj
 ·simp only [slN] at hj
  split at hj
  ·cases hj
   rename_i h
   rw [L2.start,a0c,a0b,a1I]; omega
  ·cases hj
theorem Fun.okM {x qual:Str}{st:Stmt}{f:Addr}{fd:FuncData}{N ps:List Str}{k:Nat}{C:M.Call}{d:M.Fn}(F:L2.Fun K x qual st f fd)(S:ay N ps (defScope st))(hps:d.ps=ps.length)(hle:ps.length<=N.length)(nd:d.io.Nodup)(hio:∀ i∈d.io,i < ps.length)
  (hbody:∀ (cdv:Value) (A:Around) (outer:List Env) (s:Shared) (H:Hp) (E:XK),Room k (A.deeper (envOfC qual (defScope st) s.heap.objs.size f cdv)) ->
   SSs (eE CX0 P w K mg base N qual (defScope st) f cdv A outer s H E).nox (slN N.length) d.io C (defBody st) d.body) {g:Nat} {C':M.Call} (hC:∀ ws,C' g ws=M.runF C d ws):b6 P w K mg base CX0 (k+1) f fd ps (spS K C' g d.io):=by
 have len:∀ vs H Q E,spS K C' g d.io vs H Q E->vs.length=ps.length:=fun vs H Q E ⟨Z,ws,G,w,bs,r,_,_,hr,_⟩=>by
  rw [hC] at hr
  unfold M.runF at hr
  split at hr
  ·rename_i h; rw [r.length,h,hps]
  ·cases hr
 refine F.ok S len fun cdv A outer s H vs Q E hr h=>⟨_,hbody cdv A outer s H E hr,?_⟩
 have hlen:=len vs H Q E h
 obtain ⟨Z,ws,G,w,bs,r,o,z,hc,q⟩:=h
 rw [hC] at hc
 have hwl:ws.length=d.ps:=by rw [<- r.length,hlen,hps]
 rw [M.x_run _ _ _ hwl] at hc
 obtain ⟨Fs,ft,A0⟩:=lh (n:=d.ns) (io:=d.io) r o z (N:=N) (by omega)
 refine ⟨_,Z,Fs,_,⟨fun i i' j h h'=>?_,fun i h=>if_neg h⟩,A0,?_⟩
 ·simp only [slN] at h h'
  split at h
  ·split at h'
   ·cases h; cases h'; rfl
   ·cases h'
  ·cases h
 have hv:∀ i∈d.io,(if i∈d.io then vs[i]? else none)=vs[i]?/\i < vs.length:=fun i hi=>⟨if_pos hi,hlen ▸ hio i hi⟩
 cases e:M.evSs C d.body (ws.map some++a0G d.ns none) with
 | nx η =>
  rw [e] at hc
  intro σ' Z' H' Fs' A' t
  simp only [M.Fl.out] at hc
  cases e2:M.backs d.io η with
  | none=>rw [e2] at hc; cases hc
  | some cs =>
   rw [e2] at hc
   cases hc
   refine q .non Z' H' no _ rfl (ck A' nd hv e2) (fun _ h=>h.elim) (fun a h=>h.elim (fun z=>z.elim) fun ⟨i,_,z⟩=>A'.gd.own a ⟨i,z⟩) (t.mono ft fun a h=>h.elim (fun z=>z.elim) fun ⟨i,_,z⟩=>⟨i,z⟩)
 | rt u η =>
  rw [e] at hc
  intro v σ' Z' H' Fs' G' A' rp t
  simp only [M.Fl.out] at hc
  cases e2:M.backs d.io η with
  | none=>rw [e2] at hc; cases hc
  | some cs =>
   rw [e2] at hc
   cases hc
   exact q v Z' H' G' _ rp (ck A' nd hv e2) (fun a h ⟨i,_,z⟩=>A'.dis a h ⟨i,z⟩) (fun a h=>h.elim (A'.own a) fun ⟨i,_,z⟩=>A'.gd.own a ⟨i,z⟩) (t.mono ft fun a h=>h.elim .inr fun ⟨i,_,z⟩=>.inl ⟨i,z⟩)
 | bk η=>rw [e] at hc; cases hc
 | ex c x η=>rw [e] at hc; cases hc
 | no=>rw [e] at hc; cases hc
end
end MR

namespace MR
open PySem PySem.Spec PyProof.Rows L2 L3
noncomputable def wX (K:a0a)(H:Hp):Th->V->Prop
 | .tup _,x=>∃ a vs,x=.ref a/\SqT K H a vs
 | .lst _,x=>∃ a vs,x=.ref a/\SqL K H a vs
 | .non,x=>x=.non
 | .bl b,x=>x=.bl b
 | .int i,x=>x=.int i
 | .str z,x=>x=.str z
theorem ku {X:Cx}{c:String}(hc:c∈["tuple","str","bool","int","list"]):cA X (.builtin "isinstance") (fun xs H Q=>∃ x t,xs=[x,.ty c]/\wX X.K H t x/\Q (.bl (isI c t)) H):=by
 intro pins s σ H xs us Q I r h
 obtain ⟨x,t,rfl,ht,q⟩:=h
 obtain ⟨u,w',rfl,ru,rw'⟩:=v9 r
 cases rw'
 have e:a0U X.K (.type t.ty) (.type c)=some (isI c t):=kit_type.trans (um hc t)
 have fin:∀ tk,EP X pins σ Q (.bool (isI c t)) { s with toks:=tk }:=fun tk=>⟨.bl (isI c t),H,I.tok tk,rfl,q⟩
 cases t with
 | non =>
  obtain rfl:x=.non:=ht
  exact bL I ru .non e fin
 | bl b =>
  obtain rfl:x=.bl b:=ht
  exact bL I ru (.bl b) e fin
 | int i =>
  obtain rfl:x=.int i:=ht
  exact bL I ru (.int i) e fin
 | str z =>
  obtain rfl:x=.str z:=ht
  exact bL I ru (.str z) e fin
 | tup ts =>
  obtain ⟨a,vs,rfl,hS⟩:=ht
  cases ru
  obtain ⟨its,_,p,_⟩:=I.tuple hS
  obtain ⟨o,h1,h2,_⟩:=p
  exact a0u a1Z I.kIn ⟨o,h1,h2⟩ e (fun z=>nomatch z) fin
 | lst ts =>
  obtain ⟨a,vs,rfl,hS⟩:=ht
  cases ru
  obtain ⟨its,_,p,_⟩:=I.list hS
  obtain ⟨o,n,h1,h2,_⟩:=p
  exact a0u a1w I.kIn ⟨o,h1,h2⟩ e (fun z=>nomatch z) fin
noncomputable def thT:M.T->Th
 | .non=>.non | .bl b=>.bl b | .int i=>.int i | .str x=>.str x | .tup _=>.tup [] | .lst _=>.lst [] | .scr _=>.lst [] | .dct _ _=>.non | .ins _ _ _=>.non | .gone=>.non
theorem mi {K:a0a}{Z:Fp}{H:Hp}{t:M.T}{m:M.Md}{x:V}{G:Fp}(hg:t.isG=false)(r:Rep K Z H m t x G):wX K H (thT t) x/\(thT t).ty=t.ty:=by
 cases t with
 | non=>exact ⟨r,rfl⟩
 | bl _=>exact ⟨r,rfl⟩
 | int _=>exact ⟨r,rfl⟩
 | str _=>exact ⟨r.1,rfl⟩
 | tup _=>obtain ⟨p,xs,e,q,_⟩:=r; exact ⟨⟨p,xs,e,q⟩,rfl⟩
 | lst _=>obtain ⟨p,xs,e,_,q,_⟩:=r; exact ⟨⟨p,xs,e,.inl (.inl (by cases m<;>exact q.2))⟩,rfl⟩
 | scr _=>obtain ⟨p,e,_,q⟩:=r; exact ⟨⟨p,_,e,q.sq⟩,rfl⟩
 | dct _ _=>cases hg
 | ins _ _ _=>exact r.elim
 | gone=>cases hg
theorem oF {t:Th}{u:M.T}{c:String}(h:t.ty=u.ty):isI c t=M.isOne c u:=by unfold isI M.isOne; rw [h]
section
variable {X:Cx}{sf sg:Nat->Option Nat}{C:M.Call}{pos p2 p3:Pos}{ea eb ec:Expr}{a b c:M.E}{h:Bool}{n:Nat}{io:List Nat}
theorem vY {c:String}{k:Str}(hc:c∈["tuple","str","bool","int","list"])(hv:bootBuiltins k=some (.type c))(hm:X.mg "isinstance"=none)(hm2:X.mg k=none)(ha:SE X sf C ea a)(hg:Gl X "isinstance":=by rfl)(hg2:Gl X k:=by rfl)(hn:k≠"__name__":=by decide)(hd:(k==("__debug__":Str))=false:=by decide)
  (hs:starEach [ea,.Name k p2] X.env=(false,eval ea X.env)::starEach [.Name k p2] X.env:=by rfl) (hs2:starEach [.Name k p2] X.env=(false,eval (.Name k p2) X.env)::starEach [] X.env:=by rfl) (hpl:(backTo pos (starEach [.Name k p2] X.env)).any (·.1)=false:=by rfl) :
  SE X sf C (.Call (.Name "isinstance" p3) [ea,.Name k p2] [] pos) (.op (.isI [c]) h [a]) :=
 aw (b7 (ku hc) hg hm a2i (a6 ha (a6 (vi hg2 hm2 hv hn hd) cw hs2) hs) (by decide) (by decide) hs hpl) fun σ H Q hw=>by
  obtain ⟨pv,Z,Fs,η,w,η',A,ev,k⟩:=hw
  obtain ⟨ws,h1,h2⟩:=cq ev
  obtain ⟨⟨m,u⟩,η1,us,e1,e2,rfl⟩:=aG h1
  cases e2
  obtain ⟨hug,h2⟩:=ifN (show (if u.isG=true then none else some _)=_ from h2)
  cases h2
  refine ⟨pv,Z,Fs,η,(m,u),η',A,e1,fun x Z' H' Fs' G B r s=>?_⟩
  obtain ⟨t1,t2⟩:=mi hug r
  refine ⟨x,thT u,rfl,t1,?_⟩
  have:=bV (bQ B s k)
  rw [oF t2]
  rw [show ([c].any fun c=>M.isOne c u)=M.isOne c u by simp] at this
  exact this
theorem vJ (j:Nat){i:Nat}{x:Str}{apos cpos px:Pos}(hs:sf i=some j:=by rfl)(hN:X.N[j]?=some x:=by rfl)(hv:Vis X.env.scope x:=by first | exact a0C rfl | exact a0w (a0C rfl) | exact a0w (a0w rfl))(hd:(x==("__debug__":Str))=false:=by decide)(hcd:(x==("__classdict__":Str))=false:=by decide)
  (hbase:attributeBase (.Name x px) "pop" X.env (eval (.Name x px) X.env)=eval (.Name x px) X.env:=by rfl) (hline:(apos.endLine==cpos.line)=true:=by rfl) :
  SE X sf C (.Call (.Attribute (.Name x px) "pop" apos) [] [] cpos) (.pop i []) :=
 aw (rK a1c PySem.F.slot_list_pop PySem.F.type_list_pop rP (bq hN hv hd hcd) hbase hline) fun σ H Q hw=>by
  obtain ⟨a,xs,y,hj,hp,hy,q⟩:=mR hs σ H Q hw
  exact ⟨.ref a,hj,.inl ⟨rfl,xs,.inl (.inl hp)⟩,a,xs,y,rfl,rfl,hp,hy,q⟩
end
end MR

namespace MR
open PySem PySem.Spec PyProof.Rows L2 L3
structure Txt (mg:Str->Option Value):Prop where
 isin:mg "isinstance"=none
 int:mg "int"=none
 tup:mg "tuple"=none
 list:mg "list"=none
 bool:mg "bool"=none
 sum:mg "sum"=none
 len:mg "len"=none
 all:mg "all"=none
 zip:mg "zip"=none
 range:mg "range"=none
 enum:mg "enumerate"=none
 any:mg "any"=none
 max:mg "max"=none
 min:mg "min"=none
 sorted:mg "sorted"=none
 str:mg "str"=none
 repr:mg "repr"=none
 abs:mg "abs"=none
 dict:mg "dict"=none
 set:mg "set"=none
 rev:mg "reversed"=none
end MR

namespace MR
open PySem PySem.Spec PyProof.Rows L2 L3
section
variable {P:Program}{w:World}{K:a0a}{mg:Str->Option Value}{base:Heap}
theorem fC {C:M.Call}{g:Nat}{io:List Nat}{vs:List V}{H:Hp}{Q:VK}{E:XK}(hC:∀ ws,C g ws=.no)(h:spS K C g io vs H Q E):False:=by
 obtain ⟨Z,ws,G,w,bs,_,_,_,e,_⟩:=h
 rw [hC] at e
 cases e
theorem fn0 {f:Addr}{fd:FuncData}{ps:List Str}{k g:Nat}{io:List Nat}{C:M.Call}(hC:∀ ws,C g ws=.no):b6 P w K mg base CX0 k f fd ps (spS K C g io) :=
 ⟨fun _ _ _ _ h=>(fC hC h).elim,fun _ _ _ _ _ _ _ _ _ _ _ _ _ h=>(fC hC h).elim⟩
theorem gb {Z:Fp}{H:Hp}{a:Addr}{ns:List Int}(hO:lQ H)(hl:ns.length<=63)(h:SqL K H a (ns.map V.int)):Rep K Z H .d (.scr ns) (.ref a) no:=by
 refine ⟨a,rfl,a0p hl (by decide),?_⟩
 rcases h with (z | ⟨o,z⟩) | z
 ·rcases hO a with y | ⟨o,xs,y⟩<;>rw [y] at z<;>cases z
 ·exact .inl ⟨o,z⟩
 ·exact .inr (.inr z)
theorem tU {H:Hp}{a:Addr}{ns:List Int}{C:M.Call}{ix:Nat}(hp:∃ m bs,C ix [(.d,.scr ns)]=.ok ((m,.bl true),bs))(hl:ns.length<=63)(hO:lQ H)(h:SqL K H a (ns.map V.int)):spS K C ix [] [.ref a] H (fun v _=>v=.bl true) fun _ _ _=>False:=by
 obtain ⟨m,bs,e⟩:=hp
 exact ⟨no,[(.d,.scr ns)],no,(m,.bl true),bs,RepW.one (gb hO hl h),ba,fun _ z=>z.elim,e,fun v Z' H' G1 G2 r _ _ _ _=>r⟩
end
end MR

namespace MR
open PySem PySem.Spec PyProof.Rows L2 L3
structure SBs (as:List Addr)(H H':Hp):Prop where
 keep:∀ b u,b ∉ as->H b=some u->H' b=some u
 al:∀ b,H b≠none->H' b≠none
instance {as:List Addr} {H H':Hp}:CoeFun (SBs as H H') (fun _=>∀ b u,b ∉ as->H b=some u->H' b=some u):=⟨fun s=>s.keep⟩
end MR

namespace MR
open PySem PySem.Spec PyProof.Rows L2 L3
end MR

namespace MR
open PySem PySem.Spec PyProof.Rows L2 L3
end MR

namespace MR
open PySem PySem.Spec PyProof.Rows L2 L3
section
variable {X:Cx}{sf sg:Nat->Option Nat}{io:List Nat}{C:M.Call}{pos p2:Pos}{ea eb ec:Expr}{a b c:M.E}{h:Bool}{n:Nat}
theorem ox {u w:M.W}(e:M.oSem .len false [u]=some w):∃ n:Nat,w=(.d,.int n):=by
 obtain ⟨m,a⟩:=u
 cases a<;>first | (cases e; exact ⟨_,rfl⟩) | (cases e; done)
theorem uX (j:Nat){i:Nat}{x:Str}{p px:Pos}(hm:X.mg "len"=none)(hg:Gl X "len":=by rfl)(hs:sf i=some j:=by rfl)(hN:X.N[j]?=some x:=by rfl)(hv:Vis X.env.scope x:=by first | exact a0C rfl | exact a0w (a0C rfl) | exact a0w (a0w rfl))(hd:(x==("__debug__":Str))=false:=by decide)
  (hcd:(x==("__classdict__":Str))=false:=by decide) (hst:starEach [.Name x px] X.env=(false,eval (.Name x px) X.env)::starEach [] X.env:=by rfl) (hpl:(backTo pos (starEach [] X.env)).any (·.1)=false:=by rfl):SE X sf C (.Call (.Name "len" p) [.Name x px] [] pos) (.lenV i) :=
 aw (b7 km hg hm PySem.boot_len (a6 (bq hN hv hd hcd) cw hst) (by decide) (by decide) hst hpl) fun σ H Q hw=>by
  obtain ⟨pv,Z,Fs,η,w,η',A,ev,k⟩:=hw
  obtain ⟨w',e1,e2⟩:=aq (show M.ret η ((M.rd η i).bind fun w=>M.oSem .len false [w])=_ from ev)
  cases e2
  cases e0:M.rd η i with
  | none=>rw [e0] at e1; cases e1
  | some w0 =>
   rw [e0] at e1
   have e1':M.oSem .len false [w0]=some w:=e1
   obtain ⟨n,rfl⟩:=ox e1'
   obtain ⟨v,r,hv'⟩:=A.env i w0.1 w0.2 e0
   obtain ⟨x',n',hx,hl,hq⟩:=kU (K:=X.K) (h:=false) [w0] (.d,.int n) [v] Z H (Fs i) (fun v' _=>v'=.int n) rfl e1' (RepW.one r) (fun a ha=>A.gd.own a ⟨i,ha⟩) A.gd.zal (fun _ _ _ _ r _ _=>r)
   cases hx
   cases hq
   exact ⟨v,hv'.1 j hs,v,n,rfl,hl,k _ Z H Fs no A rfl ((Step.refl _ _ _).mono (fun _ z=>z) fun a ha=>ha.elim id fun z=>z.elim)⟩
end
end MR

namespace MR
open PySem PySem.Spec PyProof.Rows L2 L3
section
variable {X:Cx}{sf sg:Nat->Option Nat}{C:M.Call}{pos p2 p3:Pos}{ea eb ec:Expr}{a b c:M.E}{h:Bool}{n:Nat}{io:List Nat}
noncomputable def pT (K:a0a)(H:Hp):List Nat->V->V->Prop
 | [],v,u=>u=v
 | j::p,v,u=>∃ a xs x,v=.ref a/\(SqL K H a xs\/SqT K H a xs)/\xs[j]?=some x/\pT K H p x u
noncomputable def wP (K:a0a)(sf:Nat->Option Nat)(i:Nat)(p:List Nat):TE:=fun σ H Q=>∃ j v u,sf i=some j/\σ[j]?=some (some v)/\pT K H p v u/\Q u H
noncomputable abbrev SP (X:Cx)(sf:Nat->Option Nat)(me:Expr)(i:Nat)(p:List Nat):Prop:=PE X me (wP X.K sf i p)
noncomputable def vM (Fs:Fps)(i:Nat)(G:Fp):Fps:=fun l a=>(l=i/\G a)\/(l≠i/\Fs l a)
noncomputable def CstR (K:a0a)(t:M.T)(v:V):Prop:=∀ (Z:Fp) (H:Hp),Rep K Z H .s t v no
theorem cst_int {K:a0a}(i:Int):CstR K (.int i) (.int i):=fun _ _=>rfl
theorem cst_non {K:a0a}:CstR K .non .non:=fun _ _=>rfl
theorem cst_bl {K:a0a}(b:Bool):CstR K (.bl b) (.bl b):=fun _ _=>rfl
theorem cst_str {K:a0a}{x:Str}(h:M.sOk x=true):CstR K (.str x) (.str x):=fun _ _=>⟨rfl,h⟩
noncomputable def qM (K:a0a)(w:World)(mg:Str->Option Value)(x:Str)(tab:List (Str×M.T)):Prop :=
 ∃ a T,mg x=some (.ref a)/\DTab K w a T/\∀ z,match tab.lookup z with
  | some t=>∃ v,T.lookup z=some v/\CstR K t v
  | none=>T.lookup z=none
noncomputable def tJ (K:a0a)(w:World)(mg:Str->Option Value)(x:Str)(ks:List Str):Prop:=∃ a T,mg x=some (.ref a)/\DTab K w a T/\∀ z,(T.lookup z).isSome=ks.contains z
theorem sA {K:a0a}{w:World}{ad:Addr}{T:List (Str×V)}{ks:List Str}{e:M.E}{neg:Bool}(D:DTab K w ad T)(ht:∀ z,(T.lookup z).isSome=ks.contains z)(σ:L2.St)(H:Hp)(Q:VK)(h:wE K sf C (.inT neg ks e) σ H Q) :
  wE K sf C e σ H fun x H1=>∃ z a T',x=.str z/\V.ref ad=.ref a/\DTab K w a T'/\Q (.bl ((T'.lookup z).isSome != neg)) H1:=by
 obtain ⟨pv,Z,Fs,η,w',η',A,ev,k⟩:=h
 obtain ⟨⟨u,η1⟩,h1,h2⟩:=aa (show (M.evE C e η).bind (M.kIn neg ks)=_ from ev)
 obtain ⟨z,e1,e2,e3⟩:=eA h2
 cases e2
 refine ⟨pv,Z,Fs,η,u,_,A,h1,fun y Z' H' Fs' G B r s=>?_⟩
 obtain ⟨m,t0⟩:=u
 cases (show t0=_ from e1)
 refine ⟨z,ad,T,r.1,rfl,D,?_⟩
 rw [ht z]
 refine k _ Z' H' Fs' no B.bare ?_ (s.mono (fun _ z=>z) fun a ha=>ha.elim .inl fun z=>z.elim)
 rw [show w'=_ from e3]; rfl
end
end MR

namespace MR
open PySem PySem.Spec PyProof.Rows L2 L3
theorem fsc {N P:List Str}{sc:Scope}(h1:sc.kind=.function:=by rfl)(h2:sc.isCoroutine=false:=by rfl)(h3:sc.isGenerator=false:=by rfl)(h4:N.Nodup:=by decide +kernel)(h5:N.take P.length=P:=by rfl)(h6:∀ x∈P,sc.names.lookup x=some .local\/sc.names.lookup x=some .cell:=by decide +kernel)(h7:∀ y∈sc.names,y.2≠.free:=by decide +kernel):ay N P sc:=⟨h1,h2,h3,h4,h5,h6,h7⟩
section
variable {P:Program}{w:World}{K:a0a}{mg:Str->Option Value}{base:Heap}{x:Str}{st:Stmt}{ps N:List Str}{n g:Nat}{io:List Nat}{C C':M.Call}{d:Value}{t:M.T}
structure Df (K:a0a)(mg:Str->Option Value)(x:Str)(st:Stmt)(ps:List Str):Prop where
 ex:∃ f fd,Fun K x x st f fd/\Binds K fd ps []/\mg x=some (.ref f)
theorem Df.ok (e:Df K mg x st ps)(h:∀ f fd,Fun K x x st f fd->b6 P w K mg base CX0 n f fd ps (spS K C g io)):ah P w K mg base n C x g io:=by
 obtain ⟨f,fd,F,b,m⟩:=e.ex
 exact ⟨f,fd,ps,h f fd F,m,F.kp,b⟩
theorem Df.z (e:Df K mg x st ps)(hC:∀ ws,C g ws=.no:=by intro _; rfl):ah P w K mg base n C x g io:=e.ok fun _ _ _=>fn0 hC
theorem Df.s (fn:M.Fn)(e:Df K mg x st ps)(S:ay N ps (defScope st))
  (hb:∀ {f:Addr} {cdv:Value} {A:Around} {outer:List Env} {s:Shared} {H:Hp} {E:XK},Room n (A.deeper (envOfC x (defScope st) s.heap.objs.size f cdv))->SSs (eE CX0 P w K mg base N x (defScope st) f cdv A outer s H E).nox (slN N.length) fn.io C (defBody st) fn.body)
  (hC:∀ ws,C' g ws=M.runF C fn ws:=by intro _; rfl) (hps:fn.ps=ps.length:=by rfl) (hle:ps.length<=N.length:=by decide) (nd:fn.io.Nodup:=by decide) (hio:∀ i∈fn.io,i < ps.length:=by decide):ah P w K mg base (n+1) C' x g fn.io :=
 e.ok fun _ _ F=>Fun.okM F S hps hle nd hio (fun _ _ _ _ _ _ h=>hb h) hC
noncomputable def Raw (K:a0a)(x:Str)(st:Stmt)(dV:Value):Prop:=∃ f oc od sl kV dc pm an cd ct,a1L K mainGlobals x=some (some (.ref f))/\K.lookup f=some ⟨oc,od,.func (a0R x x (defArgs st) (defBody st) (defScope st) dV kV dc pm an cd ct),sl⟩/\a1t K cd x=true/\a1h K (.ref f)=true
theorem bX {h:Heap}(X:K.In h)(G:h.Ns mainGlobals mg)(r:Raw K x st .none)(hb:∀ (kV doc pm:Value) (an:Option Addr) (cdv ct:Value) (us:List Value),us.length=ps.length->bindArgs (a0R x x (defArgs st) (defBody st) (defScope st) .none kV doc pm an cdv ct) ⟨us,[]⟩=pure (ps.zip us)):Df K mg x st ps:=by
 obtain ⟨f,oc,od,sl,kV,dc,pm,an,cd,ct,h1,h2,h3,h4⟩:=r
 have F:=jX (st:=st) h2 h3 h4
 exact ⟨f,_,F,F.binds hb,a12 X G h1⟩
noncomputable def sR (K:a0a):List Str->Prop
 | []=>True
 | x::r=>a1L K mainGlobals x=some none/\sR K r
theorem tj {h:Heap}(X:K.In h)(G:h.Ns mainGlobals mg)(r:sR K ["isinstance","int","tuple","list","bool","sum","len","all","zip","range","enumerate","any","max","min","sorted","str","repr","abs","dict","set","reversed"]):Txt mg:=by
 obtain ⟨z1,z2,z3,z4,z5,z6,z7,z8,z9,z10,z11,z12,z13,z14,z15,z16,z17,z18,z19,z20,z21,_⟩:=r
 have m:=fun {x:Str} (z:a1L K mainGlobals x=some none)=>PySem.W.mg_none_of X G z
 exact ⟨m z1,m z2,m z3,m z4,m z5,m z6,m z7,m z8,m z9,m z10,m z11,m z12,m z13,m z14,m z15,m z16,m z17,m z18,m z19,m z20,m z21⟩
noncomputable def TabRaw (K:a0a)(w:World)(x:Str)(T:List (Str×V)):Prop:=∃ a es n,a1L K mainGlobals x=some (some (.ref a))/\K.lookup a=some ⟨.type "dict",none,.dict es n,#[]⟩/\a2l w.params es.toList/\Paired (fun (p:Str×V) (e:DictEntry)=>(∃ t,e.key=.str p.1 t)/\RelV p.2 e.val) T es.toList/\(a==sysModules)=false
theorem TabRaw.tab {h:Heap}{T:List (Str×V)}(X:K.In h)(G:h.Ns mainGlobals mg)(r:TabRaw K w x T):∃ a,mg x=some (.ref a)/\DTab K w a T:=by
 obtain ⟨a,es,n,h1,h2,h3,h4,h5⟩:=r
 exact ⟨a,a12 X G h1,⟨es,n,h2,h3,h4⟩,h5⟩
theorem dM (z:Str):∀ T:List (Str×V),(T.lookup z).isSome=(T.map a2v).contains z
 | []=>rfl
 | (k,v)::T=>by
  rw [a06,a0B,a1q]
  cases z==k with
  | true=>rfl
  | false=>rw [dM z T]; rfl
theorem oR {h:Heap}{T:List (Str×V)}{ks:List Str}(X:K.In h)(G:h.Ns mainGlobals mg)(r:TabRaw K w x T)(hk:T.map a2v=ks):tJ K w mg x ks:=by
 obtain ⟨a,h1,h2⟩:=r.tab X G
 exact ⟨a,T,h1,h2,fun z=>by rw [dM,hk]⟩
noncomputable def CstL (K:a0a):List (Str×M.T)->List (Str×V)->Prop
 | [],[]=>True
 | e::r,p::T=>(p.1=e.1/\CstR K e.2 p.2)/\CstL K r T
 | _,_=>False
theorem dJ (z:Str):∀ {tab:List (Str×M.T)} {T:List (Str×V)},CstL K tab T->match tab.lookup z with
  | some t=>∃ v,T.lookup z=some v/\CstR K t v
  | none=>T.lookup z=none
 | [],[],_=>rfl
 | (k,t)::r,(k',v)::T,⟨⟨e,c⟩,q⟩=>by
  have e':k'=k:=e
  subst e'
  have ih:=dJ z q
  rw [a06,a06]
  cases z==k' with
  | true=>exact ⟨v,rfl,c⟩
  | false=>exact ih
 | [],_::_,h=>h.elim
 | _::_,[],h=>h.elim
theorem mZ {h:Heap}{T:List (Str×V)}{tab:List (Str×M.T)}(X:K.In h)(G:h.Ns mainGlobals mg)(r:TabRaw K w x T)(hc:CstL K tab T):qM K w mg x tab:=by
 obtain ⟨a,h1,h2⟩:=r.tab X G
 exact ⟨a,T,h1,h2,fun z=>dJ z hc⟩
end
end MR

namespace MR
open PySem PySem.Spec PyProof.Rows L2 L3
section
variable {X:Cx}{sf sg:Nat->Option Nat}{C:M.Call}{pos p p2 p3:Pos}{ea eb ec:Expr}{a b c:M.E}{h:Bool}{n:Nat}{io:List Nat}{K:a0a}
theorem oX:Loc K 1 .int h fun xs H Q=>(∃ i,xs=[.int i]/\Q (.int i) H)\/∃ k,xs=[.bl k]/\Q (.int (if k then 1 else 0)) H:=by
 intro ws w xs Z H G Q hn e r ow za k
 match ws,hn with
 | [(m,a)],_ =>
  obtain ⟨x,rfl,r1⟩:=bu rfl r
  cases a with
  | int i=>cases e; exact .inl ⟨i,by rw [show x=_ from r1],aJ k⟩
  | bl b=>cases e; exact .inr ⟨b,by rw [show x=_ from r1],by cases b<;>exact aJ k⟩
  | _=>cases e
theorem uy (hm:X.mg "int"=none)(hg:Gl X "int":=by rfl)(ha:SE X sf C ea a)(hs:starEach [ea] X.env=(false,eval ea X.env)::starEach [] X.env:=by rfl)(hpl:(backTo pos (starEach [] X.env)).any (·.1)=false:=by rfl):SE X sf C (.Call (.Name "int" p) [ea] [] pos) (.op .int h [a]) :=
 aw (d6 jb hg hm a2D (slc ha sl0 hs) (by decide) (by decide) hs hpl) (ij oX rfl)
theorem b4 {Z:Fp}{H:Hp}{G:Fp}{m:M.Md}{t:M.T}{x:V}(hf:M.flatT t=true)(r:Rep K Z H m t x G):bN x=true/\∀ (u:M.T) (y:V) {m':M.Md} {G':Fp},M.flatT u=true->Rep K Z H m' u y G'->eqV y x=M.eqT u t:=by
 cases t with
 | non=>cases r; refine ⟨rfl,fun u y m' G' hu ru=>?_⟩; cases u<;>first | (cases ru; rfl) | (obtain ⟨e,_⟩:=ru; cases e; rfl) | cases hu
 | bl b=>cases r; refine ⟨rfl,fun u y m' G' hu ru=>?_⟩; cases u<;>first | (cases ru; rfl) | (cases ru; cases b<;>rfl) | (obtain ⟨e,_⟩:=ru; cases e; rfl) | cases hu
 | int i=>cases r; refine ⟨rfl,fun u y m' G' hu ru=>?_⟩; cases u with
  | bl c=>cases ru; cases c<;>rfl
  | _=>first | (cases ru; rfl) | (obtain ⟨e,_⟩:=ru; cases e; rfl) | cases hu
 | str z=>obtain ⟨e,_⟩:=r; cases e; refine ⟨rfl,fun u y m' G' hu ru=>?_⟩; cases u<;>first | (cases ru; rfl) | (obtain ⟨e,_⟩:=ru; cases e; rfl) | cases hu
 | _=>cases hf
theorem gH {Z:Fp}{H:Hp}{G:Fp}{m:M.Md}{t:M.T}{x:V}(hf:M.flatT t=true)(r:Rep K Z H m t x G):∀ {ts:List M.T} {xs:List V} {m':M.Md} {G':Fp},ts.all M.flatT=true->RepL K Z H m' ts xs G'->xs.all bN=true/\L2.inV x xs=ts.any fun u=>M.eqT u t
 | [],_,_,_,_,h=>by cases h; exact ⟨rfl,rfl⟩
 | u::ts,_,m',_,hl,⟨y,ys,G1,G2,e,_,_,_,q,qs⟩=>by
  cases e
  rw [a09,a0g] at hl
  obtain ⟨h1,h2⟩:=gH hf r hl.2 qs
  refine ⟨by rw [a09,(b4 hl.1 q).1,h1]; rfl,?_⟩
  show (eqV y x || L2.inV x ys)=_
  rw [a01,h2,(b4 hf r).2 u y hl.1 q]
theorem gB {neg:Bool}{u v w:M.W}{o:M.Op}(ho:o=if neg then .notin else .isin)(e:M.oSem o h [u,v]=some w):∃ ts,M.elems v=some ts/\M.flatT u.2=true/\ts.all M.flatT=true/\w=(.d,.bl (if neg then !ts.any (fun t=>M.eqT t u.2) else ts.any fun t=>M.eqT t u.2)):=by
 obtain ⟨m,a⟩:=u; obtain ⟨n,b⟩:=v
 subst ho
 cases neg with
 | true =>
  obtain ⟨ts,h1,h2⟩:=a1A.mp (show (M.elems (n,b)).bind (fun ts=>if (M.flatT a&&ts.all M.flatT)=true then some ((.d,.bl (!ts.any fun t=>M.eqT t a)):M.W) else none)=some w from e)
  split at h2
  ·rename_i hh; rw [a0g] at hh; cases h2; exact ⟨ts,h1,hh.1,hh.2,rfl⟩
  ·cases h2
 | false =>
  obtain ⟨ts,h1,h2⟩:=a1A.mp (show (M.elems (n,b)).bind (fun ts=>if (M.flatT a&&ts.all M.flatT)=true then some ((.d,.bl (ts.any fun t=>M.eqT t a)):M.W) else none)=some w from e)
  split at h2
  ·rename_i hh; rw [a0g] at hh; cases h2; exact ⟨ts,h1,hh.1,hh.2,rfl⟩
  ·cases h2
theorem gL (neg:Bool){o:M.Op}(ho:o=if neg then .notin else .isin):Loc K 2 o h fun xs H Q=>∀ x y,xs=[x,y]->rIn K neg x y H Q:=by
 intro ws w xs Z H G Q hn e r ow za k x y hx
 subst hx
 obtain ⟨⟨m,a⟩,⟨n,b⟩,rfl⟩:=dI r.length.symm
 obtain ⟨G1,G2,w1,w2,d,r1,r2⟩:=bO r
 obtain ⟨ts,e1,e2,e3,rfl⟩:=gB ho e
 cases b with
 | lst us =>
  cases e1
  obtain ⟨p,xs,rfl,hs,hl,q⟩:=aS r2
  obtain ⟨f1,f2⟩:=gH e2 r1 e3 q
  refine ⟨p,xs,rfl,.inl (.inl (.inl hs)),(b4 e2 r1).1,f1,?_⟩
  rw [f2]
  exact bV k
 | tup us =>
  cases e1
  obtain ⟨p,xs,rfl,hs,hl,q⟩:=bb r2
  obtain ⟨f1,f2⟩:=gH e2 r1 e3 q
  refine ⟨p,xs,rfl,.inr hs,(b4 e2 r1).1,f1,?_⟩
  rw [f2]
  exact bV k
 | _=>cases e1
theorem uD (ha:SE X sf C ea a)(hb:SE X sf C eb b)(hm:behindInMarks .In eb=false:=by rfl):SE X sf C (.Compare ea [.In] [eb] pos) (.op .isin h [a,b]):=aw (g8 dQ ha hb hm) (aD (gL false rfl))
theorem lK (ha:SE X sf C ea a)(hb:SE X sf C eb b)(hm:behindInMarks .In eb=false:=by rfl):SB X sf C (.Compare ea [.In] [eb] pos) (.op .isin h [a,b]):=bJ dQ ha hb hm (aD (gL false rfl)) fun u v w e=>by obtain ⟨_,_,_,_,rfl⟩:=gB (neg:=false) rfl e; exact ⟨_,rfl⟩
theorem ef (ha:SE X sf C ea a)(hb:SE X sf C eb b)(hm:behindInMarks .NotIn eb=false:=by rfl):SB X sf C (.Compare ea [.NotIn] [eb] pos) (.op .notin h [a,b]):=bJ eU ha hb hm (aD (gL true rfl)) fun u v w e=>by obtain ⟨_,_,_,_,rfl⟩:=gB (neg:=true) rfl e; exact ⟨_,rfl⟩
end
end MR
namespace MR
open PySem PySem.Spec PyProof.Rows L2 L3
end MR
namespace MR
open PySem PySem.Spec PyProof.Rows L2 L3
end MR
namespace MR
open PySem PySem.Spec PyProof.Rows L2 L3
end MR
namespace MR
open PySem PySem.Spec PyProof.Rows L2 L3
section
variable {X:Cx}{sf sg:Nat->Option Nat}{C:M.Call}{pos p p2 p3:Pos}{ea eb ec:Expr}{a b c:M.E}{h:Bool}{io:List Nat}{K:a0a}
theorem r9 {neg:Bool}{ks:List Str}{σ:L2.St}{H:Hp}{Q:Bool->Hp->Prop}(hw:wT K sf C (.inT neg ks a) σ H Q):wE K sf C (.inT neg ks a) σ H fun x H'=>∃ k,x=.bl k/\Q k H':=by
 obtain ⟨pv,Z,Fs,η,w,η',b,A,ev,ht,k⟩:=hw
 refine ⟨pv,Z,Fs,η,w,η',A,ev,fun v Z' H' Fs' G B r s=>?_⟩
 obtain ⟨⟨u,η1⟩,h1,h2⟩:=aa (show (M.evE C a η).bind (M.kIn neg ks)=_ from ev)
 obtain ⟨z,e1,e2,e3⟩:=eA h2
 rw [show w=_ from e3] at ht r
 cases ht
 exact ⟨_,r,k Z' H' Fs' B.bare (s.mono (fun _ z=>z) fun _ z=>.inl z)⟩
theorem xF {x:Str}{ks:List Str}(T:tJ X.K X.w X.mg x ks)(ha:SE X sf C ea a)(hg:Gl X x:=by rfl)(hd:(x==("__debug__":Str))=false:=by decide)(hb:behindInMarks .In (.Name x p2)=false:=by rfl):SB X sf C (.Compare ea [.In] [.Name x p2] pos) (.inT false ks a):=by
 obtain ⟨ad,T',hm,D,ht⟩:=T
 refine ig (iM lx ha (kb hg hm hd) hb) fun σ H Q hw=>?_
 obtain ⟨pv,Z,Fs,η,w',η',A,ev,k⟩:=sA D ht σ H _ (r9 hw)
 refine ⟨pv,Z,Fs,η,w',η',A,ev,fun v Z' H' Fs' G B r s=>?_⟩
 obtain ⟨z,a,T2,e1,e2,e3,q⟩:=k v Z' H' Fs' G B r s
 rw [a1U] at q
 exact ⟨z,a,T2,e1,e2,e3,q⟩
end
end MR

namespace MR
open PySem PySem.W L2 M
noncomputable def CstRs (K:a0a)(ts:List M.T)(xs:List V):Prop:=∀ (Z:Fp) (H:Hp),RepL K Z H .s ts xs no
theorem cst_nil {K:a0a}:CstRs K [] []:=fun _ _=>rfl
theorem cst_cons {K:a0a}{t:M.T}{ts:List M.T}{x:V}{xs:List V}(h:CstR K t x)(r:CstRs K ts xs):CstRs K (t::ts) (x::xs):=fun Z H=>⟨x,xs,no,no,rfl,fun _ h=>h,fun _ h=>h,fun _ h=>h.elim,h Z H,r Z H⟩
theorem cst_tup {K:a0a}{ts:List M.T}{xs:List V}{a:Addr}{o:Obj}{its:Array Value}{n:Nat}(h:K.lookup a=some o)(hc:o.cls=.type "tuple")(hd:o.data=.seq its n)(hs:its.size<=sizeLine)(hv:Vals xs its.toList)(hl:xs.length<=LIM)(r:CstRs K ts xs):CstR K (.tup ts) (.ref a):=fun Z H=>⟨a,xs,rfl,.inr ⟨o,its,n,h,hc,hd,hs,hv⟩,hl,r Z H⟩
end MR

namespace MR
open PySem PySem.Spec PyProof.Rows L2 L3 M
end MR

namespace L3
open PySem PySem.Spec PyProof.Rows L2
end L3
namespace MR
open PySem PySem.Spec PyProof.Rows L2 L3
end MR

namespace L3
open PySem PySem.Spec PyProof.Rows L2
end L3
namespace MR
open PySem PySem.Spec PyProof.Rows L2 L3
end MR

namespace L3
open PySem PySem.Spec PySem.NumText PyProof.Rows L2
end L3
namespace MR
open PySem PySem.Spec PyProof.Rows L2 L3
section
variable {X:Cx}{sf sg:Nat->Option Nat}{C:M.Call}{pos p p2 p3:Pos}{ea eb ec:Expr}{a b c:M.E}{h:Bool}{n:Nat}{io:List Nat}{K:a0a}
theorem kB {Z:Fp}{H:Hp}{G:Fp}{m:M.Md}:∀ {ts:List M.T} {ss:List Str} {xs:List V},M.strsOf ts=some ss->RepL K Z H m ts xs G->xs=ss.map V.str:=by
 intro ts
 induction ts generalizing G with
 | nil=>intro ns xs e r; cases e; exact r
 | cons t ts ih =>
  intro ns xs e r
  obtain ⟨x,r',G1,G2,rfl,_,_,_,p,q⟩:=r
  cases t with
  | str i =>
   cases e1:M.strsOf ts with
   | none=>simp [M.strsOf,e1] at e
   | some ms =>
    have:ns=i::ms:=by simpa [M.strsOf,e1] using e.symm
    subst this
    rw [a0B,<- ih e1 q,show x=.str i from p.1]
  | _=>cases e
theorem gR {Z:Fp}{H:Hp}{m:M.Md}:∀ {ss:List Str},(∀ x∈ss,M.sOk x=true)->RepL K Z H m (ss.map M.T.str) (ss.map V.str) no
 | [],_=>rfl
 | x::ss,h=>⟨.str x,ss.map V.str,no,no,rfl,fun _ z=>z.elim,fun _ z=>z.elim,fun _ z=>z.elim,⟨rfl,h x a0d⟩,gR fun y hy=>h y (a0f _ hy)⟩
end
end MR

namespace L3
open PySem PySem.Spec PyProof.Rows L2
end L3
namespace MR
open PySem PySem.Spec PyProof.Rows L2 L3
theorem slx {X:Cx}{sf:Nat->Option Nat}{C:M.Call}{ea:Expr}{a:M.E}{es:List Expr}{bs:List M.E}(ha:SE X sf C ea a)(hb:SL X sf C es bs)(hs:starEach (ea::es) X.env=(false,eval ea X.env)::starEach es X.env):SL X sf C (ea::es) (a::bs):=slc ha hb hs
theorem sTx {X:Cx}{sf:Nat->Option Nat}{C:M.Call}{pos:Pos}{es:List Expr}{bs:List M.E}{x1:Nat}(hn:bs.length<=M.LIM)(h:SL X sf C es bs):SE X sf C (.Tuple es x1 pos) (.tup bs):=sT h hn
theorem sLx {X:Cx}{sf:Nat->Option Nat}{C:M.Call}{pos:Pos}{h:Bool}{es:List Expr}{bs:List M.E}(hn:bs.length<=M.LIM)(hh:SL X sf C es bs):SE X sf C (.List es pos) (.lst h bs):=sLs hh hn
theorem aM {X:Cx}{sf:Nat->Option Nat}{C:M.Call}{pos:Pos}{h:Bool}{ea eb:Expr}{a b:M.E}(ha:SE X sf C ea a)(hb:SE X sf C eb b)(hs:eX eb):SE X sf C (.Subscript ea eb pos) (.op .ix h [a,b]):=sIx ha hb hs
theorem aE {X:Cx}{sf:Nat->Option Nat}{C:M.Call}{ea:Expr}{a:M.E}{es:List Expr}{bs:List M.E}(ha:SE X sf C ea a)(hb:SA X sf C es bs)(he:∀ i,a≠.io i)(hs:starEach (ea::es) X.env=(false,eval ea X.env)::starEach es X.env):SA X sf C (ea::es) (a::bs):=sac ha hb he hs
end MR

namespace MR
open PySem PySem.Spec PyProof.Rows L2 L3
theorem walkX {sx:Str}{C:M.Call}{ix k:Nat}{l:a1K}{q:Program}{loose:List Str}{XP:(Str->Option Value)->Heap->Prop}{YP:World->Heap->Prop}{d:DefRec}{K:Params->a0a}(hp:∀ ns:List Int,ns.length<=63->∃ m bs,C ix [(.d,.scr ns)]=.ok ((m,.bl true),bs))(hn:l.most=some 63)(hdf:d.params.defaults=[])(hr:Room k callerA)
  (hY:∀ (w:World) (h:Heap),YP w h->(K w.params).In h)
  (F:∀ (w:World) (mg:Str->Option Value) (fa:Addr) (h:Heap),(K w.params).In h->h.Ns mainGlobals mg->mg d.name=some (.ref fa) ->
   ∃ fd:FuncData,(∀ (s:Shared) (u:Value),BindsTo s fd ⟨[u],[]⟩ [(sx,u)])/\∀ base:Heap,(K w.params).In base->base.Ns mainGlobals mg->b6 l.prog w (K w.params) mg base CX0 k fa fd [sx] (spS (K w.params) C ix [])) :
  a2s q loose XP YP l.row.toRowW d [] (fun f vs=>a2r f vs) :=
 L2.walk_of (n:=63) (k:=k) (x:=sx) (CX:=fun _=>CX0) (sp:=fun w=>spS (K w.params) C ix []) hn (by decide) hdf hr hY F (fun _ _ a ns hl hO hS=>tU (hp ns hl) hl hO hS) fun _ _ _ _ _ z=>z
theorem pk {sx:Str}{w:World}{K:a0a}{mg:Str->Option Value}{st:Stmt}{h:Heap}{fa:Addr}{pr:Program}{k:Nat}{sp:Sp}(X:K.In h)(G:h.Ns mainGlobals mg)(hfa:mg "law"=some (.ref fa))(r:Raw K "law" st .none)(hb:∀ (kV dc pm:Value) (an:Option Addr) (cd ct:Value) (s:Shared) (v:Value),BindsTo s (a0R "law" "law" (defArgs st) (defBody st) (defScope st) .none kV dc pm an cd ct) ⟨[v],[]⟩ [(sx,v)])
  (ok:∀ f fd,Fun K "law" "law" st f fd->∀ base,b6 pr w K mg base CX0 k f fd [sx] sp):∃ fd:FuncData,(∀ (s:Shared) (v:Value),BindsTo s fd ⟨[v],[]⟩ [(sx,v)])/\∀ base:Heap,K.In base->base.Ns mainGlobals mg->b6 pr w K mg base CX0 k fa fd [sx] sp:=by
 obtain ⟨f,oc,od,sl,kV,dc,pm,an,cd,ct,h1,h2,h3,h4⟩:=r
 have e:=hfa.symm.trans (a12 X G h1)
 cases e
 exact ⟨_,hb kV dc pm an cd ct,fun base _ _=>ok _ _ (jX (st:=st) h2 h3 h4) base⟩
end MR

namespace L3
open PySem PySem.Spec PyProof.Rows L2
end L3
namespace MR
open PySem PySem.Spec PyProof.Rows L2 L3
end MR

namespace L3
open PySem PySem.Spec PyProof.Rows L2
noncomputable abbrev eT1 (h:Heap)(a:Addr):Heap:=h.push { cls:=.type "tuple_iterator",data:=.fields #[.ref a,.int 0 0] }
noncomputable abbrev eT2 (h:Heap)(a:Addr):Heap:=(eT1 h a).push { cls:=.type "enumerate",data:=.fields #[.none,.bool false,.ref h.objs.size,rawInt 0,.none,.none] }
theorem qB {α:Type}{c:Prop}[Decidable c]{M:Model}{A:Around}{E:Value->Shared->Prop}{s:Shared}{a b:Sem α}{Q:α->Shared->Prop}(h1:wpAny M A a Q E s)(h2:wpAny M A b Q E s):wpAny M A (if c then a else b) Q E s:=by
 by_cases hc:c
 ·rw [if_pos hc]; exact h1
 ·rw [if_neg hc]; exact h2
theorem fZ (a:Addr)(xs:Array Value) :
  Meets (Builtin.«enumerate.__new__» ⟨[.type "enumerate",.ref a],[]⟩) (fun _ R s=>s.heap.IsTuple a xs/\R (.ok (.ret (.ref (eT1 s.heap a).objs.size))) { s with heap:=eT2 s.heap a }) :=
 .of_wp fun prog w A R s h=>by
  obtain ⟨hp,g,d,tk,os⟩:=s; obtain ⟨q1,h⟩:=h
  have hsub:=sub_enumerate
  have e1:Heap.IsTuple (Shared.heap ⟨hp,g,d,tk,os⟩) a xs:=q1
  wp_walk using wpAny_pyIter_tuple e1
  refine wpAny_stack fun st _ _ _=>wpAny_pure ?_
  show wpAny _ _ (if _=true then (pure (Value.ref a,(none:Option Value)) >>= _) else (pure (Value.ref a,(none:Option Value)) >>= _)) _ _ _
  refine qB ?_ ?_
  ·refine wpAny_bind (wpAny_pure ?_)
   show wpAny _ _ (pyIter (.ref a) >>= _) _ _ _
   wp_walk using wpAny_pyIter_tuple e1
   exact ⟨_,rfl,h⟩
  ·refine wpAny_bind (wpAny_pure ?_)
   show wpAny _ _ (pyIter (.ref a) >>= _) _ _ _
   wp_walk using wpAny_pyIter_tuple e1
   exact ⟨_,rfl,h⟩
theorem gc {prog:Program}{w:World}{A:Around}{E:Value->Shared->Prop}{s:Shared}{a:Addr}{xs:Array Value}{Q:Value->Shared->Prop}(q1:s.heap.IsTuple a xs)
  (h:∀ h',IsEnum h' (s.heap.objs.size+1) s.heap.objs.size 0 .none->h'.IsTupleIter s.heap.objs.size a 0->(∀ c o,s.heap.get? c=some o->h'.get? c=some o)->Q (.ref (s.heap.objs.size+1)) { s with heap:=h' }) :
  wpAny (model prog w) A (call (.type "enumerate") [.ref a]) Q E s:=by
 refine callType_new F.called_enumerate (by decide) (F.typeCall_enumerate_1 _) (F.newCall_enumerate_1 _) (fun obj=>F.args_object_init_2 obj _) F.entry_enumerate_new (fZ a xs) ⟨q1,?_⟩
 have e1:(eT1 s.heap a).objs.size=s.heap.objs.size+1:=Heap.size_push ..
 have g2:(eT2 s.heap a).get? (eT1 s.heap a).objs.size=some _:=Heap.get?_push_size _ rfl
 have g1:(eT2 s.heap a).get? s.heap.objs.size=some _:=Heap.get?_push_of_some _ (Heap.get?_push_size _ rfl)
 show _/\_
 rw [e1] at g2
 rw [e1]
 exact ⟨⟨_,g2,rfl⟩,h _ g2 ⟨_,g1,rfl,rfl⟩ fun c o x=>Heap.get?_push_of_some _ (Heap.get?_push_of_some _ x)⟩
theorem i6 {prog:Program}{w:World}{A:Around}(hh:A.handled=none)(it t:Addr)(hne:t≠it)(xs:Array Value):Draws prog w A it [it,t] xs.size (fun i v=>xs[i]?=some v) (fun i h=>h.IsTupleIter it t i/\h.IsTuple t xs) where
 live:=fun i h st=>let ⟨o,e,_⟩:=st.1; ⟨o,e⟩
 frame:=fun i h h' st k=>⟨st.1.at fun o e=>k it (by simp) o e,by obtain ⟨o,e,r⟩:=st.2; exact ⟨o,k t (by simp) o e,r⟩⟩
 item:=fun i s Q E hi st q=>by
  refine gC st.1 st.2 (x:=xs[i]) (a1u hi) fun h' st' sb=>q _ h' s.toks (a1u hi) ⟨st',?_⟩ sb
  obtain ⟨o,e,r⟩:=st.2
  exact ⟨o,(sb.2 t hne).trans e,r⟩
 done:=fun s Q E st q=>d8 hh st.1 st.2 (a1E (a0i _)) fun h' e eb he=>q h' e eb he
theorem jA {prog:Program}{w:World}{A:Around}(hh:A.handled=none)(it t:Addr)(n:Nat)(xs:Array Value)(hn:xs.size<=n):Draws prog w A it [it,t] n (fun _ _=>False) (fun i h=>i=n/\h.IsTupleIter it t n/\h.IsTuple t xs) where
 live:=fun i h st=>let ⟨o,e,_⟩:=st.2.1; ⟨o,e⟩
 frame:=fun i h h' st k=>⟨st.1,st.2.1.at fun o e=>k it (by simp) o e,by obtain ⟨o,e,r⟩:=st.2.2; exact ⟨o,k t (by simp) o e,r⟩⟩
 item:=fun i s Q E hi st q=>absurd st.1 (a0y hi)
 done:=fun s Q E st q=>d8 hh st.2.1 st.2.2 (a1E hn) fun h' e eb he=>q h' e eb he
noncomputable def wK (K:a0a)(a:Addr):It :=
 ⟨fun i H=>∃ xs x,SqT K H a xs/\xs[i]?=some x,
  fun i H v H'=>∃ p x,v=.ref p/\H p=none/\H'=upd H p (.tup [.int (i:Int),x])/\∀ xs,SqT K H a xs->xs[i]?=some x,
  fun i H=>∃ xs,SqT K H a xs/\xs.length<=i⟩
theorem gN {P:Program}{w:World}{K:a0a}{es:List Expr}{kt:Nat}{pt:Pos}{e it a:Addr}(hne:e≠it)(hae:a≠e)(hai:a≠it):kJ P w K (.Tuple es kt pt) (wK K a) [e,it] e (fun i h=>(∃ old,IsEnum h e it (i:Int) old)/\h.IsTupleIter it a i) where
 mem:=by simp
 obj:=fun i h st b hb=>by
  obtain ⟨⟨old,q1⟩,q2⟩:=st
  simp only [a0k,a0K,or_false] at hb
  rcases hb with rfl | rfl
  ·exact ⟨_,q1,fun v y=>by cases y⟩
  ·obtain ⟨o,e',_,d⟩:=q2
   exact ⟨o,e',fun v y=>by rw [d] at y; cases y⟩
 keep:=fun i h h' st k=>by
  obtain ⟨⟨old,q1⟩,q2⟩:=st
  exact ⟨⟨old,k e (by simp) _ q1⟩,q2.at fun o z=>k it (by simp) o z⟩
 item:=by
  intro X hP hw hK hc i pins s σ H E I hf st hg
  subst hP hw hK
  obtain ⟨xs,x,s1,hx⟩:=hg
  obtain ⟨⟨old,q1⟩,q2⟩:=st
  obtain ⟨its,v1,o1,z1⟩:=I.tuple s1
  obtain ⟨u1,e1,r1⟩:=v1.get hx
  have lt:∀ b∈[e,it],b < s.heap.objs.size:=fun b hb=>by
   simp only [a0k,a0K,or_false] at hb
   rcases hb with rfl | rfl
   ·exact Heap.lt_size q1
   ·obtain ⟨o,e',_⟩:=q2; exact Heap.lt_size e'
  have hit:i < its.toArray.size:=by
   have:=(a0o.mp e1).1
   simpa using this
  refine wpAny_pyNext_enum_itemD (i6 (A:=X.A.in1) (I.ok.hd hc) it a hai its.toArray) q1 ⟨q2,(show s.heap.IsTuple a its.toArray from o1)⟩ hit hne (by simp only [a0k,a0K,or_false,not_or]; exact ⟨hne,a1r hae⟩) fun x' h' tk px y1 y2 y3 y4 y5=>⟨_,rfl,?_⟩
  have ex:x'=u1:=by
   have:its[i]?=some x':=by simpa using px
   rw [e1] at this; cases this; rfl
  subst ex
  refine wpAny_letOwnedTupleGo_enum (s:={ s with heap:=h',toks:=tk+1 }) y1 fun h2 w1 sb=>?_
  have sb':Heap.SameBut e h' h2:=sb
  have nz:s.heap.objs.size≠e:=a2z (lt e (by simp))
  have kk:∀ b o,b ∉ [e,it]->s.heap.get? b=some o->h2.get? b=some o:=fun b o hb z=>by
   simp only [a0k,a0K,or_false,not_or] at hb
   exact (sb'.2 b hb.1).trans (y5 b o hb.1 hb.2 z)
  have tp:IsTup h2 s.heap.objs.size [.int (i:Int) tk,x'].toArray:=⟨_,(sb'.2 _ nz).trans y3,rfl,_,rfl⟩
  refine ⟨.ref s.heap.objs.size,upd H s.heap.objs.size (.tup [.int (i:Int),x]),cT (s:=s) (t':=tk+1) I hf kk (a0i _) (by show 2<=sizeLine; decide) (.cons ⟨_,rfl⟩ (.cons r1 .nil)) tp,rfl,
   ⟨_,x,rfl,I.fresh,rfl,fun zs hz=>by rw [I.tuple_inj hz s1]; exact hx⟩,?_,fun b hb=>?_⟩
  ·exact ⟨⟨_,w1⟩,y2.1.at fun o z=>(sb'.2 _ (a1r hne)).trans z⟩
  ·rw [af (a0y (lt b hb))]; exact (hf b hb).1
 done:=by
  intro X hP hw hK hc i pins s σ H E I hf st hg
  subst hP hw hK
  obtain ⟨xs,s1,hl⟩:=hg
  obtain ⟨⟨old,q1⟩,q2⟩:=st
  obtain ⟨its,v1,o1,z1⟩:=I.tuple s1
  have l1:=v1.length
  have l2:its.toArray.size<=i:=by simp; omega
  refine wpAny_pyNext_enum_endD (jA (A:=X.A.in1) (I.ok.hd hc) it a i its.toArray l2) q1 ⟨rfl,q2,(show s.heap.IsTuple a its.toArray from o1)⟩ fun h' eb=>⟨rfl,gY (t':=s.toks) I hf fun b o hb z=>eb b o (fun y=>hb (by simp [y])) z⟩
 self:=fun _ _ _ _ _ st h=>by
  obtain ⟨⟨old,q1⟩,_⟩:=st
  exact wpAny_pyIter_enum q1 h
noncomputable def kr (K:a0a)(ta:TA):TI:=fun σ H R=>ta σ H fun vs H1=>∃ a,vs=[.ref a]/\(∃ xs,SqT K H1 a xs)/\R (wK K a) H1
theorem kQ {X:Cx}{a:Expr}{ta:TA}{p pos pt:Pos}{es:List Expr}{kt:Nat}(hg:Gl X "enumerate")(hm:X.mg "enumerate"=none)(ha:PA X [a] ta)(hs:starEach [a] X.env=[(false,eval a X.env)]:=by rfl) :
  PI X (.Tuple es kt pt) (.Call (.Name "enumerate" p) [a] [] pos) (kr X.K ta):=by
 intro pins s σ H R I h
 refine Call_ (cN I hg hm boot_enumerate (a0Y (thn (ha pos pins s σ H _ I h) fun us s1 ⟨vs,H1,I1,r1,q1⟩=>?_) hs rfl))
 obtain ⟨a,rfl,⟨xs,s1'⟩,q⟩:=q1
 cases r1 with
 | cons r rr =>
  cases rr
  cases r
  obtain ⟨its,v1,o1,z1⟩:=I1.tuple s1'
  have hlt:a < s1.heap.objs.size:=by obtain ⟨o,e,_⟩:=o1; exact Heap.lt_size e
  refine gc (show s1.heap.IsTuple a its.toArray from o1) fun h' q1 q2 kk=>?_
  refine wpAny_pyIter_enum (s:={ s1 with heap:=h' }) q1 ?_
  refine ⟨_,_,_,_,H1,rfl,I1.kept (t':=s1.toks) kk,gN (Nat.succ_ne_self _) (a0y (a18 hlt)) (a0y hlt),⟨⟨_,q1⟩,q2⟩,fun b hb=>?_,q⟩
  have hle:s1.heap.objs.size<=b:=by
   simp only [a0k,a0K,or_false] at hb
   rcases hb with e | e<;>(rw [e]; first | exact Nat.le_add_right _ _ | exact a0i _)
  exact I1.fpOk hle (I1.hok.fresh hle)
end L3
namespace MR
open PySem PySem.Spec PyProof.Rows L2 L3
section
variable {X:Cx}{sf sg:Nat->Option Nat}{C:M.Call}{pos p p2 p3:Pos}{ea eb ec:Expr}{a b c:M.E}{h:Bool}{n:Nat}{io:List Nat}{K:a0a}
theorem nC {e:M.E}(σ:L2.St)(H:Hp)(R:It->Hp->Prop)(h:wI K sf C 2 .enmT [e] σ H R):kr K (wL K sf C [e]) σ H R:=by
 obtain ⟨pv,Z,Fs,η,ws,η',ts,A,ev,ht,k⟩:=h
 refine ⟨pv,Z,Fs,η,ws,η',A,ev,fun vs Z' H' Fs' G B r s=>?_⟩
 obtain ⟨⟨m,a⟩,η1,us,e1,e2,rfl⟩:=aG ev
 cases e2
 obtain ⟨x,rfl,r1⟩:=bu rfl r
 obtain ⟨t1,rfl⟩:∃ t1,a=.tup t1:=by cases a<;>first | exact ⟨_,rfl⟩ | cases ht
 cases ht
 obtain ⟨a,xs,rfl,q,l,p⟩:=Rep.sh r1
 have l1:=p.length
 refine ⟨a,rfl,⟨xs,q⟩,k _ _ H' Fs' B.freeze (aR B.own s) ⟨fun H0 i s hi=>?_,fun H0 i s hi=>?_,by rw [bo]; omega⟩ fun H0 i x H1 s hi y=>?_⟩
 ·rw [bo] at hi
  exact ⟨xs,xs[i]'(by omega),s.sqt q,by simp⟩
 ·rw [bo] at hi
  exact ⟨xs,s.sqt q,by omega⟩
 ·rw [bo] at hi
  obtain ⟨p',x1,rfl,hp,rfl,hx⟩:=y
  obtain ⟨x',hx',rx⟩:=p.get (show t1[i]?=some t1[i] by simp)
  rw [hx xs (s.sqt q)] at hx'; cases hx'
  refine ⟨p',.int i,x1,(.d,.int ((0+i:Nat):Int)),(.s,t1[i]),rfl,qR hp,.inl (.inl ai),dU (by simp),?_,rx.sany.keep s (fun _ z=>z) fun _ _ z=>z.elim⟩
  show V.int (i:Int)=V.int ((0+i:Nat):Int)
  rw [a2b]
theorem tG {es:List Expr}{kt:Nat}{pt p:Pos}(hm:X.mg "enumerate"=none)(hg:Gl X "enumerate":=by rfl)(ha:SE X sf C ea a)(hs:starEach [ea] X.env=[(false,eval ea X.env)]:=by rfl):PI X (.Tuple es kt pt) (.Call (.Name "enumerate" p) [ea] [] pos) (wI X.K sf C 2 .enmT [a]):=jG (kQ hg hm (slc ha sl0 hs) hs) nC
end
end MR

namespace L3
open PySem PySem.Spec PyProof.Rows L2
theorem xD {prog:Program}{w:World}{A:Around}{E:Value->Shared->Prop}{s:Shared}{t b:Addr}{ws:List Value}{Q:Value->Shared->Prop}(ht:IsTup s.heap t ([]:List Value).toArray)(hb:IsTup s.heap b ws.toArray)(h:Q (.ref b) s):wpAny (model prog w) A (binaryOp .Add (.ref t) (.ref b)) Q E s:=by
 obtain ⟨⟨cls,dd,data,sl⟩,ho,hc,n,hd⟩:=id ht
 obtain ⟨⟨cls2,dd2,data2,sl2⟩,ho2,hc2,n2,hd2⟩:=id hb
 simp only at hc hd hc2 hd2
 subst hc hd hc2 hd2
 exact concat_meets ⟨_,ho,rfl⟩ ⟨_,ho2,rfl⟩ noFill_tuple_add seq_tuple_add a1f a08 (a07 _ _)
  (tuple_addW0 t b ([]:List Value).toArray ws.toArray n n2 dd dd2 sl sl2 rfl) ⟨ho,ho2,h⟩
noncomputable def pY (K:a0a):R2:=fun x y H Q=>∃ a b xs ys,x=.ref a/\y=.ref b/\SqT K H a xs/\SqT K H b ys/\xs.length+ys.length<=sizeLine/\∀ v H',Same H H'->(∃ c,v=.ref c/\SqT K H' c (xs++ys))->Q v H'
theorem ov {X:Cx}:OpR X (binaryOp .Add) (pY X.K):=fun pins s σ H x y v u Q I rx ry h=>by
 obtain ⟨a,b,xs,ys,e1,e2,h1,h2,hz,q⟩:=h
 by_cases hx:xs=[]
 ·subst hx e1 e2
  cases rx
  cases ry
  obtain ⟨its,r1,p1,_⟩:=I.tuple h1
  obtain ⟨its2,r2,p2,_⟩:=I.tuple h2
  have:its=[]:=by cases r1; rfl
  subst this
  exact xD p1 p2 ⟨.ref b,H,I,rfl,q _ _ (Same.refl _) ⟨b,rfl,h2⟩⟩
 ·exact ir pins s σ H x y v u Q I rx ry ⟨a,b,xs,ys,e1,e2,h1,h2,hx,hz,q⟩
theorem oS {X:Cx}{o e:Expr}{apos cpos:Pos}{ty:TE}{ad:Addr}{T:List (Str×V)}(D:DTab X.K X.w ad T)(ho:PE X o (tC (.ref ad)))(he:PE X e ty)(m:M1 X o "get" apos e cpos):PE X (.Call (.Attribute o "get" apos) [e] [] cpos) (fun σ H Q=>ty σ H fun y H2=>∃ z,y=.str z/\Q ((T.lookup z).getD .non) H2):=by
 intro pins s σ H Q I h
 refine wpAny_Call_method m.base m.few m.line PySem.F.plainAttrs_dict a1M PySem.F.type_dict_get (thn (ho pins s σ H (fun x H1=>x=.ref ad/\ty σ H1 fun y H2=>∃ z,y=.str z/\Q ((T.lookup z).getD .non) H2) I ⟨rfl,h⟩) fun u s1 ⟨x,H1,I1,rx,ex,q1⟩=>?_)
 subst ex
 obtain rfl:u=Value.ref ad:=rx
 obtain ⟨f,hm,hf⟩:=D.map (P:=X.prog) I1.kIn
 obtain ⟨es,n,k1,k2,k3⟩:=D.ex
 refine ⟨hm.typeIs,fun b q=>?_,?_⟩
 ·cases q
  exact ⟨_,I1.kIn _ _ k1,rfl⟩
 rw [m.trees]
 refine Calls.callWith_builtin rfl (Calls.evalArgs_plain (Calls.spliced_cons (thn (he pins s1 σ H1 _ I1 q1) fun iv s2 ⟨y,H2,I2,ry,z,ey,q2⟩=>Calls.spliced_nil ?_)))
 subst ey
 obtain ⟨t,rfl⟩:=ry
 obtain ⟨f2,hm2,hf2⟩:=D.map (P:=X.prog) I2.kIn
 exact call_meetsIn a1M hm2.typeIs PySem.F.entry_dict_get (PySem.F.args_dict_get_2 _ _) (meets_dict_get (strKind X.prog X.w) ad (strKind_is X.prog X.w z t) D.lo) ⟨f2,hm2,(T.lookup z).getD .non,H2,I2.tok _,(hf2 z).getD (show L2.RelV .non Value.none from rfl),q2⟩
theorem cg:∀ {ss:List Str} {us:List Value},StrsAre us ss->Vals (ss.map V.str) us
 | _,_,.nil=>.nil
 | _,_,.cons n t h=>.cons ⟨t,rfl⟩ (cg h)
theorem cP:∀ {ss:List Str} {us:List Value},Vals (ss.map V.str) us->StrsAre us ss
 | [],_,h=>by cases h; exact .nil
 | x::ss,_,h=>by
  cases h with
  | cons r rr =>
   obtain ⟨t,rfl⟩:=r
   exact .cons _ _ (cP rr)
theorem gy {X:Cx}:cA X (.builtin "sorted") (fun xs H Q=>∃ (a:Addr) (ss:List Str),xs=[.ref a]/\SqL X.K H a (ss.map V.str)/\ss.length < 64/\∀ ms:List Str,ms.Perm ss->sortedS ms=true->∀ p,H p=none->Q (.ref p) (upd H p (.lst (ms.map V.str)))):=by
 intro pins s σ H xs us Q I r h
 obtain ⟨a,ss,rfl,hS,h64,q⟩:=h
 obtain ⟨u,rfl,ru⟩:=dP r
 cases ru
 obtain ⟨its,rv,p,hz⟩:=I.list hS
 have hi:=cP rv
 have hlen:its.length=ss.length:=by have:=rv.length; rw [a0b] at this; exact this.symm
 refine sorted_strs p.isList hi (by omega) fun out ms h1 h2 h3=>?_
 obtain ⟨e,he⟩:=sortedAll_at s.heap its out
 have hml:ms.length=ss.length:=h2.length_eq
 refine ⟨.ref (s.heap.objs.size+1),upd H (s.heap.objs.size+1) (.lst (ms.map V.str)),I.laid (t':=s.toks) (fun _ _=>sortedAll_old) (a2n _) ⟨by rw [a0b,sizeLine_eq]; omega,out.toList,e,cg h1,by rw [he,a1S]⟩,rfl,q _ h2 h3 _ (I.hok.fresh (a2n _))⟩
end L3
namespace MR
open PySem PySem.Spec PyProof.Rows L2 L3
section
variable {X:Cx}{sf sg:Nat->Option Nat}{C:M.Call}{pos p p2 p3:Pos}{ea eb ec:Expr}{a b c:M.E}{h:Bool}{n:Nat}{io:List Nat}{K:a0a}
theorem lU:Loc K 2 .catT h fun xs H Q=>∀ x y,xs=[x,y]->pY K x y H Q:=by
 intro ws w xs Z H G Q hn e r ow za k x y hx
 subst hx
 obtain ⟨⟨m,a⟩,⟨n,b⟩,rfl⟩:=dI r.length.symm
 obtain ⟨G1,G2,w1,w2,d,r1,r2⟩:=bO r
 cases a with
 | tup ts =>
  cases b with
  | tup us =>
   have e':(if M.fits (ts.length+us.length)=true then some ((.s,.tup (ts++us)):M.W) else none)=some w:=e
   split at e'
   ·rename_i hf
    cases e'
    obtain ⟨a,xs,rfl,hs,hl,p⟩:=bb r1
    obtain ⟨b,ys,rfl,hs2,hl2,p2⟩:=bb r2
    have hlen:=bI hf
    have e1:=p.length
    have e2:=p2.length
    refine ⟨a,b,xs,ys,rfl,rfl,hs,hs2,aU (by omega),fun v H' same hv=>cZ (m:=.s) (G':=no) ow (fun _ z=>z.elim) (by rw [a0c]; omega) (RepL.append (G1:=no) (G2:=no) (fun _ z=>z) (fun _ z=>z) (fun _ z _=>z) ((RepL.sh p).zmono fun b hb=>?_) ((RepL.sh p2).zmono fun b hb=>?_)) k same hv⟩
    ·exact hb.imp id fun z=>⟨w1 b z,fun q=>q⟩
    ·exact hb.imp id fun z=>⟨w2 b z,fun q=>q⟩
   ·cases e'
  | _=>cases e
 | _=>cases e
theorem vX (ha:SE X sf C ea a)(hb:SE X sf C eb b):SE X sf C (.BinOp ea .Add eb pos) (.op .catT h [a,b]):=aw (d5 ov ha hb) (aD lU)
theorem nt {w:World}{ad:Addr}{T:List (Str×V)}{tab:List (Str×M.T)}{e:M.E}(ht:∀ z,match tab.lookup z with
  | some t=>∃ v,T.lookup z=some v/\CstR K t v
  | none=>T.lookup z=none) (σ:L2.St) (H:Hp) (Q:VK) (h:wE K sf C (.getT tab e) σ H Q):wE K sf C e σ H fun y H2=>∃ z,y=.str z/\Q ((T.lookup z).getD .non) H2:=by
 obtain ⟨pv,Z,Fs,η,w',η',A,ev,k⟩:=h
 obtain ⟨⟨u,η1⟩,h1,h2⟩:=aa (show (M.evE C e η).bind (M.kGet tab)=_ from ev)
 obtain ⟨z,e1,e2,e3⟩:=fF h2
 cases e2
 refine ⟨pv,Z,Fs,η,u,_,A,h1,fun y Z' H' Fs' G B r s=>?_⟩
 obtain ⟨m,t0⟩:=u
 cases (show t0=_ from e1)
 have q:=ht z
 refine ⟨z,r.1,?_⟩
 cases hl:tab.lookup z with
 | none =>
  rw [hl] at q e3
  rw [show T.lookup z=none from q]
  have e4:w'=(.s,.non):=e3
  subst e4
  exact k _ Z' H' Fs' no B.bare rfl (s.mono (fun _ z=>z) fun a ha=>ha.elim .inl fun z=>z.elim)
 | some t =>
  rw [hl] at q e3
  obtain ⟨v,q1,q2⟩:=q
  rw [q1]
  have e4:w'=(.s,t):=e3
  subst e4
  exact k v Z' H' Fs' no B.bare (q2 Z' H') (s.mono (fun _ z=>z) fun a ha=>ha.elim .inl fun z=>z.elim)
theorem u6 {x:Str}{tab:List (Str×M.T)}{apos cpos:Pos}(T:qM X.K X.w X.mg x tab)(ha:SE X sf C ea a)(hg:Gl X x:=by rfl)(hd:(x==("__debug__":Str))=false:=by decide)(m:M1 X (.Name x p2) "get" apos ea cpos:=by exact ⟨rfl,rfl,rfl,rfl⟩):SE X sf C (.Call (.Attribute (.Name x p2) "get" apos) [ea] [] cpos) (.getT tab a):=by
 obtain ⟨ad,T',hm,D,ht⟩:=T
 exact aw (oS D (kb hg hm hd) ha m) (nt (w:=X.w) (ad:=ad) ht)
theorem mV {Z:Fp}{H:Hp}{G:Fp}{Q:VK}{p:Addr}(ow:Own Z H G)(za:∀ a,Z a->H a≠none)(k:Out K Z H G (.d,.dct [] []) Q)(hp:H p=none):Q (.ref p) (upd H p (.dK [])):=by
 refine k _ Z _ (fun a=>a=p) ⟨p,[],rfl,a0N _,⟨rfl,ai⟩,⟨a2q,fun _ z=>nomatch z⟩,rfl,rfl⟩ ?_ (dw hp ow (fun a h=>.inr h) Z (fun _ z=>z) fun _ z=>.inl z)
 rintro a rfl
 exact ⟨fun z=>za a z hp,.inr [],ai⟩
theorem nR (σ:L2.St)(H:Hp)(Q:VK)(hw:wE K sf C (.op .dnew h []) σ H Q):j6 σ H Q:=by
 obtain ⟨pv,Z,Fs,η,w,η',A,ev,k⟩:=hw
 obtain ⟨ws,h1,h2⟩:=cq ev
 cases h1
 cases h2
 intro p hp
 have A':At K ⟨sf,pv⟩ σ Z H Fs η no:=A
 have o:=bQ (F:=tot Fs) A' ((Step.refl Z H (tot Fs)).mono (fun _ z=>z) fun _ z=>z.elim id fun q=>q.elim) k
 exact mV ba A.gd.zal o hp
theorem wF:SE X sf C (.Dict [] [] pos) (.op .dnew h []):=aw lB nR
end
end MR

namespace L3
open PySem PySem.Spec PyProof.Rows L2
theorem jC:∀ {ks:List Str} {xs:List V} {vs:List (Key×Value)},KV (MR.mkD ks xs) vs->xs.length=ks.length->∀ (j:Nat) (k:Key) (x:Value),vs[j]?=some (k,x)->∃ z,ks[j]?=some z/\k=a0L z
 | [],[],vs,r,_,j,k,x,h=>by
  have:vs=[]:=by cases r; rfl
  subst this
  simp at h
 | [],_::_,_,_,e,_,_,_,_=>by cases e
 | _::_,[],_,_,e,_,_,_,_=>by cases e
 | z::ks,y::xs,vs,r,e,j,k,x,h=>by
  cases r with
  | cons h1 h2 =>
   cases j with
   | zero =>
    rw [a1b] at h
    cases h
    exact ⟨z,rfl,h1.1.symm⟩
   | succ j =>
    rw [a0z] at h
    exact jC h2 (a0S e) j k x h
theorem iG:∀ {ks:List Str} {us:List Value},us.length=ks.length->(∀ (j:Nat) v,us[j]?=some v->∃ z t,ks[j]?=some z/\v=Value.str z t)->StrsAre us ks
 | [],[],_,_=>.nil
 | [],_::_,e,_=>by cases e
 | _::_,[],e,_=>by cases e
 | z::ks,u::us,e,h=>by
  obtain ⟨z',t,h1,h2⟩:=h 0 u rfl
  cases h1
  subst h2
  exact .cons _ _ (iG (a0S e) fun j v hj=>h (j+1) v hj)
theorem gI {X:Cx}(hc:X.calm=true):cA X (.builtin "sorted") (fun xs H Q=>∃ (a:Addr) (ks:List Str) (ys:List V),xs=[.ref a]/\H a=some (.dK (MR.mkD ks ys))/\ys.length=ks.length/\ks.length < 64/\∀ ms:List Str,ms.Perm ks->sortedS ms=true->∀ p,H p=none->Q (.ref p) (upd H p (.lst (ms.map V.str)))):=by
 intro pins s σ H xs us Q I r h
 obtain ⟨a,ks,ys,rfl,ha,hl,h64,q⟩:=h
 obtain ⟨u,rfl,ru⟩:=dP r
 cases ru
 obtain ⟨z,hd,vs,rel,dd⟩:=pP I.hok ha
 obtain ⟨o,es,ep,g1,g2,g3,g4,g5,g6⟩:=dd
 have OK:Heap.DictAt (aA X.prog X.w) s.heap a vs ep:=⟨o,es,g1,g2,g3,g4,g5,g6⟩
 have hn:vs.length=ks.length:=by
  rw [<- rel.length]
  show ((ks.map a0L).zip ys).length=_
  rw [a2o,a0b,hl,a2E]
 refine call_function_tree kind_sorted plain_sorted entry_sorted (args_sorted1 _) ?_
 unfold Builtin.sorted
 refine wpAny_bind (wpAny_of_eq (a:=()) rfl ?_)
 refine wpAny_bind (PySem.W.kdu_collect (PySem.W.kdl_dict hd) (I.ok.hd hc) OK (by rw [hn,sizeLine_eq]; omega) fun h' tk acc keep items=>?_)
 have hs:StrsAre acc.toList ks:=iG (by rw [a0M,items.1,hn]) fun j v hj=>by
  obtain ⟨k,x,e1,e2⟩:=items.2 j v (by simpa using hj)
  obtain ⟨z,e3,rfl⟩:=jC rel hl j k x e1
  rcases au (show cO (a0L z) v=true from e2) with ⟨i,t,e4,_⟩ | ⟨z',t,e4,e5⟩
  ·cases e4
  ·cases e4; exact ⟨z,t,e3,e5⟩
 have hal:acc.toList.length=ks.length:=by rw [a0M,items.1,hn]
 refine wpAny_bind (wpAny_newList (items:=acc.toList) ?_ (by rw [hal,sizeLine_eq]; omega))
 refine wpAny_bind (wpAny_holding (wpAny_call_entry slot_list_sort (T:="list") ⟨_,Heap.get?_push_size _ rfl,rfl⟩ entry_list_sort (list_sort_treeK strKind_oneLt (a:=h'.objs.size) (vs:=acc.toList) (n:=0) (Heap.get?_push_size _ rfl) hs.keysOf (fun v1 v2 rest e=>keyKind_strs (by rw [<- e]; exact hs)) (by omega) fun st' hp hst=>⟨_,rfl,?_⟩) (args_list_sort _)))
 obtain ⟨ms,m1,m2,m3⟩:=sorted_out_str hs hp hst
 have I1:Inv X pins σ H { s with heap:=h',toks:=tk }:=I.kept (t':=tk) keep
 obtain ⟨e,he⟩:=sortedHeap_at (h:=h'.push { cls:=Value.type "list",data:=Data.seq acc.toList.toArray }) (a:=h'.objs.size) (vs:=acc.toList) (n:=0) (out:=Array.map (fun x=>x.snd) (arrOf st')) (Heap.get?_push_size _ rfl)
 have hml:ms.length=ks.length:=m2.length_eq
 refine wpAny_pure ?_
 refine ⟨.ref h'.objs.size,upd H h'.objs.size (.lst (ms.map V.str)),I1.laid (t':=tk) (fun b u hb=>?_) (a0i _) ⟨by rw [a0b,sizeLine_eq]; omega,(Array.map (fun x=>x.snd) (arrOf st')).toList,e,cg m1,by rw [he,a1S]⟩,rfl,q ms m2 m3 _ (I1.hok.fresh (a0i _))⟩
 have hlt:b < h'.objs.size:=Heap.lt_size hb
 rw [sortedHeap_old (a0y hlt) (by rw [Heap.size_push]; exact a18 hlt)]
 exact Heap.get?_push_of_some _ hb
end L3
namespace MR
open PySem PySem.Spec PyProof.Rows L2 L3
section
variable {X:Cx}{sf sg:Nat->Option Nat}{C:M.Call}{pos p p2 p3:Pos}{ea eb ec:Expr}{a b c:M.E}{h:Bool}{n:Nat}{io:List Nat}{K:a0a}
theorem dY:∀ (x:Str) (l:List Str),risingS x l=true->(x::l).Pairwise fun a b=>¬ (b.cps.toList < a.cps.toList)
 | x,[],_=>a1B _ _
 | x,y::r,h=>by
  rw [risingS.eq_2,a0g] at h
  have ih:=dY y r h.2
  have h1:¬ (y.cps.toList < x.cps.toList):=by
   have:=h.1
   rw [ltCps_eq,Bool.not_eq_true',decide_eq_false_iff_not] at this
   exact this
  refine a0W.mpr ⟨fun z hz=>?_,ih⟩
  rcases a0k.mp hz with rfl | hz
  ·exact h1
  ·have h2:=(a0W.mp ih).1 z hz
   exact fun q=>h1 (a13 (a19.mp h2) q)
theorem i5 {l:List Str}(h:sortedS l=true):l.Pairwise fun a b=>¬ (b.cps.toList < a.cps.toList):=by
 cases l with
 | nil=>exact .nil
 | cons x r=>exact dY x r h
theorem iB (x:Str):∀ l:List Str,(l.Pairwise fun a b=>¬ (b.cps.toList < a.cps.toList))->(M.insS x l).Perm (x::l)/\(M.insS x l).Pairwise fun a b=>¬ (b.cps.toList < a.cps.toList)
 | [],_=>⟨.refl _,a1B _ _⟩
 | y::ys,hp=>by
  obtain ⟨h1,h2⟩:=a0W.mp hp
  obtain ⟨a,b⟩:=iB x ys h2
  unfold M.insS
  by_cases hxy:M.ltS y x=true
  ·rw [if_pos hxy]
   have hlt:y.cps.toList < x.cps.toList:=of_decide_eq_true hxy
   refine ⟨(a.cons y).trans (.swap x y ys),a0W.mpr ⟨fun z hz=>?_,b⟩⟩
   rcases a0k.mp (a.mem_iff.mp hz) with rfl | hz
   ·exact fun q=>Std.lt_irrefl (Std.lt_trans q hlt)
   ·exact h1 z hz
  ·rw [if_neg hxy]
   have hle:¬ (y.cps.toList < x.cps.toList):=fun q=>hxy (decide_eq_true q)
   exact ⟨.refl _,a0W.mpr ⟨fun z hz=>(a0k.mp hz).elim (fun e=>e ▸ hle) fun hz=>fun q=>hle (a13 (a19.mp (h1 z hz)) q),hp⟩⟩
theorem bj:∀ l:List Str,(M.sortS l).Perm l/\(M.sortS l).Pairwise fun a b=>¬ (b.cps.toList < a.cps.toList)
 | []=>⟨.refl _,.nil⟩
 | x::xs=>by
  obtain ⟨a,b⟩:=bj xs
  obtain ⟨c,d⟩:=iB x (M.sortS xs) b
  exact ⟨c.trans (a.cons x),d⟩
theorem mU {a b:Str}(h:a.cps.toList=b.cps.toList):a=b:=by
 cases a; cases b
 exact congrArg Str.mk (Array.toList_inj.mp h)
theorem dz {ms ss:List Str}(hp:ms.Perm ss)(hs:sortedS ms=true):ms=M.sortS ss:=by
 obtain ⟨a,b⟩:=bj ss
 have key:∀ x y:Str,x∈ms->y∈M.sortS ss->(fun a b:Str=>¬ (b.cps.toList < a.cps.toList)) x y->(fun a b:Str=>¬ (b.cps.toList < a.cps.toList)) y x->x=y:=fun x y _ _ h1 h2=>mU (Std.le_antisymm (a19.mp h1) (a19.mp h2))
 exact (hp.trans a.symm).eq_of_pairwise key (i5 hs) b
theorem oj {Z:Fp}{H:Hp}{G:Fp}{m:M.Md}:∀ {ts:List M.T} {ss:List Str} {xs:List V},M.strsOf ts=some ss->RepL K Z H m ts xs G->∀ z∈ss,M.sOk z=true:=by
 intro ts
 induction ts generalizing G with
 | nil=>intro ns xs e r; cases e; intro z hz; cases hz
 | cons t ts ih =>
  intro ns xs e r
  obtain ⟨x,r',G1,G2,rfl,_,_,_,p,q⟩:=r
  cases t with
  | str i =>
   cases e1:M.strsOf ts with
   | none=>simp [M.strsOf,e1] at e
   | some ms =>
    have:ns=i::ms:=by simpa [M.strsOf,e1] using e.symm
    subst this
    intro z hz
    rcases a0k.mp hz with rfl | hz
    ·exact p.2
    ·exact ih e1 q z hz
  | _=>cases e
theorem fB:Loc K 1 .sortedS h fun xs H Q=>∃ (a:Addr) (ss:List Str),xs=[.ref a]/\SqL K H a (ss.map V.str)/\ss.length < 64/\∀ ms:List Str,ms.Perm ss->sortedS ms=true->∀ p,H p=none->Q (.ref p) (upd H p (.lst (ms.map V.str))):=by
 intro ws w xs Z H G Q hn e r ow za k
 match ws,hn with
 | [(m,a)],_ =>
  obtain ⟨x,rfl,r1⟩:=bu rfl r
  cases a with
  | lst ts =>
   have e2:((M.strsOf ts).bind fun ss=>if decide (ss.length < 64)=true then some ((.d,.lst ((M.sortS ss).map M.T.str)):M.W) else none)=some w:=e
   cases e3:M.strsOf ts with
   | none=>rw [e3] at e2; cases e2
   | some ss =>
    rw [e3] at e2
    have e4:(if decide (ss.length < 64)=true then some ((.d,.lst ((M.sortS ss).map M.T.str)):M.W) else none)=some w:=e2
    split at e4
    ·rename_i hb
     cases e4
     obtain ⟨q,xs,hq,hs,hl,pr⟩:=aS r1
     have hk:=oj e3 pr
     rw [kB e3 pr] at hs
     refine ⟨q,ss,by rw [hq],.inl (.inl hs),of_decide_eq_true hb,fun ms h1 h2 p hp=>?_⟩
     rw [dz h1 h2]
     have hb':=of_decide_eq_true hb
     have hlen:(M.sortS ss).length=ss.length:=(bj ss).1.length_eq
     exact aX (G':=no) ow za (fun _ z=>z.elim) (by rw [a0b]; show _<=16777215; omega) (gR fun z hz=>hk z ((bj ss).1.mem_iff.mp hz)) (by simp) k hp
    ·cases e4
  | _=>cases e
theorem fD (hm:X.mg "sorted"=none)(hg:Gl X "sorted":=by rfl)(ha:SE X sf C ea a)(hs:starEach [ea] X.env=(false,eval ea X.env)::starEach [] X.env:=by rfl)(hpl:(backTo pos (starEach [] X.env)).any (·.1)=false:=by rfl):SE X sf C (.Call (.Name "sorted" p) [ea] [] pos) (.op .sortedS h [a]) :=
 aw (b7 gy hg hm a1z (slc ha sl0 hs) (by decide) (by decide) hs hpl) (ij fB rfl)
theorem fm:Loc K 1 .sortedD h fun xs H Q=>∃ (a:Addr) (ks:List Str) (ys:List V),xs=[.ref a]/\H a=some (.dK (mkD ks ys))/\ys.length=ks.length/\ks.length < 64/\∀ ms:List Str,ms.Perm ks->sortedS ms=true->∀ p,H p=none->Q (.ref p) (upd H p (.lst (ms.map V.str))):=by
 intro ws w xs Z H G Q hn e r ow za k
 match ws,hn with
 | [(m,a)],_ =>
  obtain ⟨x,rfl,r1⟩:=bu rfl r
  cases a with
  | dct ks vs =>
   have e4:(if decide (ks.length < 64)=true then some ((.d,.lst ((M.sortS ks).map M.T.str)):M.W) else none)=some w:=e
   split at e4
   ·rename_i hb
    cases e4
    obtain ⟨q,ys,hq,hl,hd,hnk,hvl,pr⟩:=r1
    have hl2:=pr.length
    have hH:H q=some (.dK (mkD ks ys)):=by cases m<;>exact hd.2
    refine ⟨q,ks,ys,by rw [show x=_ from hq],hH,by rw [hl2,hvl],of_decide_eq_true hb,fun ms h1 h2 p hp=>?_⟩
    rw [dz h1 h2]
    have hb':=of_decide_eq_true hb
    have hlen:(M.sortS ks).length=ks.length:=(bj ks).1.length_eq
    exact aX (G':=no) ow za (fun _ z=>z.elim) (by rw [a0b]; show _<=16777215; omega) (gR fun z hz=>hnk.2 z ((bj ks).1.mem_iff.mp hz)) (by simp) k hp
   ·cases e4
  | _=>cases e
theorem jH (hc:X.calm=true:=by rfl)(hm:X.mg "sorted"=none)(hg:Gl X "sorted":=by rfl)(ha:SE X sf C ea a)(hs:starEach [ea] X.env=(false,eval ea X.env)::starEach [] X.env:=by rfl)(hpl:(backTo pos (starEach [] X.env)).any (·.1)=false:=by rfl):SE X sf C (.Call (.Name "sorted" p) [ea] [] pos) (.op .sortedD h [a]) :=
 aw (b7 (gI hc) hg hm a1z (slc ha sl0 hs) (by decide) (by decide) hs hpl) (ij fm rfl)
end
end MR

namespace MR
open L2 L3 M
open PySem (Addr Str sizeLine)
section
variable {K:a0a}{sl:Cf}{sf sg:Nat->Option Nat}{C:Call}{σ σ2:L2.St}{Z Z' Z1:Fp}{H H' H1:Hp}{Fs Fs' Fs1:Fps}{η η' η1 ηb:Env}{G G' G1 R F F':Fp}{tg is vs ls io:List Nat}{pv val:Nat->Option V}{D:a9}
theorem mQ {Z:Fp}{H:Hp}{G:Fp}{a:Addr}{o:HO}{m:Md}(hm:m≠.s)(h:G a/\H a=some o):DctR Z H G a o m:=by
 cases m with
 | s=>exact absurd rfl hm
 | d=>exact h
 | o m=>exact h
theorem mN {i:Nat}{a:Addr}{ks':List Str}{vs':List T}{xs':List V}{m':Md}(hm:m'≠.s)(A:At K ⟨sf,pv⟩ σ Z H Fs η G){w0:W}(hi:rd η i=some w0)(ha:Fs i a)(hx:∀ j,sf i=some j->σ[j]?=some (some (.ref a)))(hl:ks'.length<=LIM)(hnd:ks'.Nodup/\∀ k∈ks',sOk k=true)(hvl:vs'.length=ks'.length)(hpv:∀ u,pv i=some u->V.ref a=u)
  (hg:∀ b,G' b->(Fs i b\/G b)/\b≠a) (hR:∀ b,R b->(Fs i b\/G b)/\b≠a) (hRG:∀ b,R b->¬ G' b) (p:RepL K (fun b=>Z b\/((Fs i b\/G b)/\b≠a/\¬ G' b/\¬ R b)) H (dmd m') vs' xs' (fun _=>False)) {Q:Hp->Prop}
  (k:∀ Z' Fs',At K ⟨sf,pv⟩ σ Z' (upd H a (.dK (mkD ks' xs'))) Fs' (M.put η i (m',.dct ks' vs')) R->Step Z H (fun b=>tot Fs b\/G b) Z' (upd H a (.dK (mkD ks' xs'))) (fun b=>tot Fs' b\/R b)->(∀ {m t v},Rep K (fun b=>Z b\/((Fs i b\/G b)/\b≠a/\¬ G' b/\¬ R b)) H m t v R->Rep K Z' (upd H a (.dK (mkD ks' xs'))) m t v R)->Q (upd H a (.dK (mkD ks' xs')))):Q (upd H a (.dK (mkD ks' xs'))):=by
 have hta:tot Fs a:=⟨i,ha⟩
 obtain ⟨nza,ys,hya⟩:=A.gd.own a hta
 have nGa:¬ G a:=fun q=>A.dis a q hta
 have zdef:∀ b,(Z b\/((Fs i b\/G b)/\b≠a/\¬ G' b/\¬ R b))->b≠a:=fun b h z=>by
  subst z
  rcases h with h | h
  ·exact nza h
  ·exact h.2.1 rfl
 have keep:∀ b o,H b=some o->b≠a->upd H a (.dK (mkD ks' xs')) b=some o:=fun b o e hb=>by rw [af hb]; exact e
 have neT:∀ b xs,H b=some (.tup xs)->b≠a:=fun b xs e z=>by rw [z,hya] at e; exact gz e.symm
 have neF:∀ b o u,H b=some (.frz o u)->b≠a:=fun b o u e z=>by rw [z,hya] at e; exact eD e.symm
 have stay:∀ {Y:Fp},(∀ b,Y b->b≠a)->Stay Y H (upd H a (.dK (mkD ks' xs'))):=fun {Y} hY=>⟨fun b o hb e=>keep b o e (hY b hb),fun b xs e=>by
  rcases e with e | ⟨u,e⟩
  ·exact .inl (keep b _ e (neT b xs e))
  ·exact .inr ⟨u,keep b _ e (neF b u _ e)⟩,fun b o u e=>keep b _ e (neF b o u e)⟩
 have al:∀ b,H b≠none->upd H a (.dK (mkD ks' xs')) b≠none:=fun b h=>by
  by_cases e:b=a
  ·rw [e,ai]; simp
  ·rw [af e]; exact h
 have zal':∀ b,(Z b\/((Fs i b\/G b)/\b≠a/\¬ G' b/\¬ R b))->H b≠none:=fun b h=>by
  rcases h with h | ⟨h | h,_⟩
  ·exact A.gd.zal b h
  ·obtain ⟨_,zs,e⟩:=A.gd.own b ⟨i,h⟩; rw [e]; simp
  ·obtain ⟨_,zs,e⟩:=A.own b h; rw [e]; simp
 have listAt:∀ b,(tot Fs b\/G b)->∃ zs:OO,upd H a (.dK (mkD ks' xs')) b=some zs.ho:=fun b h=>by
  by_cases e:b=a
  ·exact ⟨(.inr (mkD ks' xs')),by rw [e,ai]; rfl⟩
  ·rcases h with h | h
   ·obtain ⟨_,zs,q⟩:=A.gd.own b h; exact ⟨zs,by rw [af e]; exact q⟩
   ·obtain ⟨_,zs,q⟩:=A.own b h; exact ⟨zs,by rw [af e]; exact q⟩
 have nZ:∀ b,(Fs i b\/G b)->¬ Z b:=fun b h z=>h.elim (fun y=>(A.gd.own b ⟨i,y⟩).1 z) fun y=>(A.own b y).1 z
 have cp:∀ b,tot (fM Fs i fun b=>G' b\/b=a) b->(∃ j,j≠i/\Fs j b)\/G' b\/b=a:=fun b h=>by
  obtain ⟨j,h | h⟩:=h
  ·exact .inr h.2
  ·exact .inl ⟨j,h⟩
 refine k (fun b=>Z b\/((Fs i b\/G b)/\b≠a/\¬ G' b/\¬ R b)) (fM Fs i fun b=>G' b\/b=a) ⟨⟨fun b h=>⟨fun z=>?_,?_⟩,fun j l b hj hk=>?_,fun b h=>al b (zal' b h)⟩,fun l m t e=>?_,fun b h=>⟨fun z=>?_,listAt b ((hR b h).1.imp (fun z=>⟨i,z⟩) id)⟩,fun b h q=>?_,A.lk,A.ln⟩ ⟨fun b o e n=>keep b o e fun z=>n (.inl (z ▸ hta)),fun b h=>.inl h,fun b h=>h.imp id fun q=>.inl (q.1.imp (fun z=>⟨i,z⟩) id),fun b h=>?_,al,fun _ b h=>al b (zal' b h)⟩ fun {m t v} r=>r.keep (stay zdef) (fun _ z=>z) fun b o hb e=>keep b o e (hR b hb).2
 ·rcases cp b h with ⟨j,hj,q⟩ | q | q
  ·rcases z with z | ⟨z | z,_⟩
   ·exact (A.gd.own b ⟨j,q⟩).1 z
   ·exact hj (A.gd.dis j i b q z)
   ·exact A.dis b z ⟨j,q⟩
  ·rcases z with z | z
   ·exact nZ b (hg b q).1 z
   ·exact z.2.2.1 q
  ·exact zdef b z q
 ·rcases cp b h with ⟨j,hj,q⟩ | q | q
  ·exact listAt b (.inl ⟨j,q⟩)
  ·exact listAt b ((hg b q).1.imp (fun z=>⟨i,z⟩) id)
  ·exact ⟨(.inr (mkD ks' xs')),by rw [q,ai]; rfl⟩
 ·have key:∀ {j:Nat},(G' b\/b=a)->Fs j b->j=i:=fun {j} h q=>by
   rcases h with h | h
   ·rcases (hg b h).1 with y | y
    ·exact A.gd.dis j i b q y
    ·exact absurd ⟨j,q⟩ (A.dis b y)
   ·rw [h] at q; exact A.gd.dis j i a q ha
  rcases hj with ⟨rfl,hj⟩ | ⟨nj,hj⟩
  ·rcases hk with ⟨rfl,_⟩ | ⟨nk,hk⟩
   ·rfl
   ·exact absurd (key hj hk) nk
  ·rcases hk with ⟨rfl,hk⟩ | ⟨nk,hk⟩
   ·exact absurd (key hk hj) nj
   ·exact A.gd.dis j l b hj hk
 ·rw [aP] at e
  split at e
  ·rename_i hc
   obtain ⟨rfl,_⟩:=hc
   cases e
   refine ⟨.ref a,⟨a,xs',rfl,hl,mQ hm ⟨.inl ⟨rfl,.inr rfl⟩,ai⟩,hnd,hvl,?_⟩,hx,hpv⟩
   exact p.keep (stay zdef) (fun _ z=>z) fun b o hb e=>hb.elim
  ·rename_i hc
   have hl':l≠i:=fun z=>hc ⟨z,bP hi⟩
   obtain ⟨v,r,h⟩:=A.env l m t e
   have nea:∀ b,Fs l b->b≠a:=fun b q z=>hl' (A.gd.dis l i a (z ▸ q) ha)
   exact ⟨v,((r.keep (stay fun b hb z=>nza (z ▸ hb)) (fun _ z=>z) fun b o hb e=>keep b o e (nea b hb)).zmono fun b h=>.inl h).mono fun b h=>.inr ⟨hl',h⟩,h⟩
 ·rcases z with z | z
  ·exact nZ b (hR b h).1 z
  ·exact z.2.2.2 h
 ·rcases cp b q with ⟨j,hj,y⟩ | y | y
  ·rcases (hR b h).1 with z | z
   ·exact hj (A.gd.dis j i b y z)
   ·exact A.dis b z ⟨j,y⟩
  ·exact hRG b h y
  ·exact (hR b h).2 y
 ·rcases h with h | h
  ·rcases cp b h with ⟨j,_,q⟩ | q | q
   ·exact .inl (.inl ⟨j,q⟩)
   ·exact .inl ((hg b q).1.imp (fun z=>⟨i,z⟩) id)
   ·exact .inl (.inl (q ▸ hta))
  ·exact .inl ((hR b h).1.imp (fun z=>⟨i,z⟩) id)
theorem nq {m:Md}{ks:List Str}{vs:List T}{v:V}(hm:m≠.s)(r:Rep K Z H m (.dct ks vs) v G):∃ a xs,v=.ref a/\ks.length<=LIM/\G a/\H a=some (.dK (mkD ks xs))/\(ks.Nodup/\∀ k∈ks,sOk k=true)/\vs.length=ks.length/\RepL K Z H (dmd m) vs xs (fun _=>False):=by
 obtain ⟨a,xs,e,l,q,n,hl,p⟩:=r
 cases m with
 | s=>exact absurd rfl hm
 | d=>exact ⟨a,xs,e,l,q.1,q.2,n,hl,p⟩
 | o m=>exact ⟨a,xs,e,l,q.1,q.2,n,hl,p⟩
theorem jw {u kw w r:W}(h:cb u kw w=some r):∃ m ks vs n k,u=(m,.dct ks vs)/\kw=(n,.str k)/\m≠.s/\ks.length < LIM/\flatT w.2=true/\r=(m,.dct (aK k w.2 ks vs).1 (aK k w.2 ks vs).2):=by
 obtain ⟨m,t⟩:=u
 obtain ⟨n,k⟩:=kw
 obtain ⟨n2,x⟩:=w
 cases t with
 | dct ks vs =>
  cases k with
  | str k =>
   cases m with
   | s=>cases h
   | d =>
    have h':(if (decide (ks.length < LIM)&&flatT x)=true then some ((.d,.dct (aK k x ks vs).1 (aK k x ks vs).2):W) else none)=some r:=h
    split at h'
    ·rename_i hc
     rw [a0g] at hc
     cases h'
     exact ⟨.d,ks,vs,n,k,rfl,rfl,by simp,of_decide_eq_true hc.1,hc.2,rfl⟩
    ·cases h'
   | o m =>
    have h':(if (decide (ks.length < LIM)&&flatT x)=true then some ((.o m,.dct (aK k x ks vs).1 (aK k x ks vs).2):W) else none)=some r:=h
    split at h'
    ·rename_i hc
     rw [a0g] at hc
     cases h'
     exact ⟨.o m,ks,vs,n,k,rfl,rfl,by simp,of_decide_eq_true hc.1,hc.2,rfl⟩
    ·cases h'
  | _=>cases m<;>cases h
 | _=>cases m<;>cases h
noncomputable def g0 (k:Str)(y:V):List Str->List V->List V
 | [],_=>[y]
 | z::zs,x::xs=>if z=k then y::xs else x::g0 k y zs xs
 | _::_,[]=>[]
theorem f6 (k:Str)(t:T):∀ (ks:List Str) (vs:List T),vs.length=ks.length->(aK k t ks vs).2.length=(aK k t ks vs).1.length/\(aK k t ks vs).1.length<=ks.length+1
 | [],[],_=>⟨rfl,a0i _⟩
 | [],_::_,e=>by cases e
 | _::_,[],e=>by cases e
 | z::zs,v::vs,e=>by
  unfold aK
  split
  ·exact ⟨e,a2n _⟩
  ·obtain ⟨a,b⟩:=f6 k t zs vs (a0S e)
   exact ⟨by rw [a0h,a0h,a],by rw [a0h,a0h]; omega⟩
theorem dt (k:Str)(t:T):∀ (ks:List Str) (vs:List T),vs.length=ks.length->∀ z,z∈(aK k t ks vs).1 ↔ z=k\/z∈ks
 | [],[],_,z=>by simp [aK]
 | [],_::_,e,_=>by cases e
 | _::_,[],e,_=>by cases e
 | y::ys,v::vs,e,z=>by
  unfold aK
  split
  ·rename_i hy
   subst hy
   simp
  ·have:=dt k t ys vs (a0S e) z
   rw [a0k,this,a0k]
   constructor
   ·rintro (h | h | h)
    ·exact .inr (.inl h)
    ·exact .inl h
    ·exact .inr (.inr h)
   ·rintro (h | h | h)
    ·exact .inr (.inl h)
    ·exact .inl h
    ·exact .inr (.inr h)
theorem df (k:Str)(t:T):∀ (ks:List Str) (vs:List T),vs.length=ks.length->ks.Nodup->(aK k t ks vs).1.Nodup
 | [],[],_,_=>by simp [aK]
 | [],_::_,e,_=>by cases e
 | _::_,[],e,_=>by cases e
 | y::ys,v::vs,e,h=>by
  unfold aK
  split
  ·exact h
  ·rename_i hy
   obtain ⟨h1,h2⟩:=a0D.mp h
   refine a0D.mpr ⟨fun q=>?_,df k t ys vs (a0S e) h2⟩
   rcases (dt k t ys vs (a0S e) y).mp q with q | q
   ·exact hy q
   ·exact h1 q
theorem iK (k:Str)(t:T)(y:V):∀ (ks:List Str) (vs:List T) (xs:List V),vs.length=ks.length->xs.length=ks.length->ks.Nodup->bM (mkD ks xs) (a0L k) y=mkD (aK k t ks vs).1 (g0 k y ks xs)
 | [],[],[],_,_,_=>rfl
 | [],[],_::_,_,e,_=>by cases e
 | [],_::_,_,e,_,_=>by cases e
 | _::_,[],_,e,_,_=>by cases e
 | _::_,_::_,[],_,e,_=>by cases e
 | z::zs,v::vs,x::xs,e1,e2,nd=>by
  obtain ⟨n1,n2⟩:=a0D.mp nd
  have ih:=iK k t y zs vs xs (a0S e1) (a0S e2) n2
  unfold aK g0
  by_cases hz:z=k
  ·rw [if_pos hz,if_pos hz]
   subst hz
   have hno:∀ p∈mkD zs xs,p.1≠(a0L z:Key):=fun p hp q=>by
    obtain ⟨a,b⟩:=p
    have:=(a1n hp).1
    obtain ⟨w,hw,e⟩:=a2c.mp this
    have q':a=a0L z:=q
    rw [<- e] at q'
    cases q'
    exact n1 hw
   show bM ((a0L z,x)::mkD zs xs) (a0L z) y=(a0L z,y)::mkD zs xs
   unfold bM
   rw [if_pos (by simp)]
   rw [a0B,if_pos rfl]
   congr 1
   conv=>rhs; rw [<- List.map_id (mkD zs xs)]
   refine List.map_congr_left fun p hp=>?_
   rw [if_neg (hno p hp)]
   rfl
  ·rw [if_neg hz,if_neg hz]
   show bM ((a0L z,x)::mkD zs xs) (a0L k) y=(a0L z,x)::mkD (aK k t zs vs).1 (g0 k y zs xs)
   rw [<- ih]
   have hne:¬ ((a0L z:Key)=a0L k):=fun q=>hz (a2H q)
   unfold bM
   rw [a01,decide_eq_false hne,a11]
   split
   ·rw [a0B,if_neg hne]
   ·rfl
theorem d7 {m m':Md}{t:T}{v:V}{G G' Z':Fp}{H':Hp}(hf:flatT t=true)(r:Rep K Z H m t v G):Rep K Z' H' m' t v G':=by
 cases t with
 | non=>exact r
 | bl _=>exact r
 | int _=>exact r
 | str _=>exact r
 | _=>cases hf
theorem fL {m:Md}{k:Str}{t:T}{y:V}{G0:Fp}{m0:Md}(hf:flatT t=true)(ry:Rep K Z H m0 t y G0):∀ (ks:List Str) (vs:List T) (xs:List V),vs.length=ks.length->RepL K Z H m vs xs (fun _=>False)->RepL K Z H m (aK k t ks vs).2 (g0 k y ks xs) (fun _=>False)
 | [],[],xs,_,r=>by
  cases r
  exact ⟨y,[],fun _=>False,fun _=>False,rfl,fun _ z=>z,fun _ z=>z,fun _ z=>z.elim,d7 hf ry,rfl⟩
 | [],_::_,_,e,_=>by cases e
 | _::_,[],_,e,_=>by cases e
 | z::zs,v::vs,xs,e,⟨x,r',G1,G2,ex,h1,h2,hd,p,q⟩=>by
  subst ex
  unfold aK g0
  by_cases hz:z=k
  ·rw [if_pos hz,if_pos hz]
   exact ⟨y,r',fun _=>False,G2,rfl,fun _ z=>z,h2,fun _ z=>z.elim,d7 hf ry,q⟩
  ·rw [if_neg hz,if_neg hz]
   exact ⟨x,g0 k y zs r',G1,fun _=>False,rfl,h1,fun _ z=>z,fun a _ z=>z,p,fL hf ry zs vs r' (a0S e) (q.mono h2)⟩
theorem m9 {x:M.X}{i j:Nat}{k e:E}(hs:sf i=some j)(D:a9)(σ:L2.St)(H:Hp)(h:wS K sf io C (.setK x i k e) D σ H) :
  wE K sf C e σ H fun y H1=>iW j σ H1 fun o H1=>wE K sf C k σ H1 fun z H2=>∃ a kvs q,o=.ref a/\z=.str q/\H2 a=some (.dK kvs)/\kvs.length < sizeLine/\D.nx σ (upd H2 a (.dK (bM kvs (a0L q) y))):=by
 obtain ⟨pv,Z,Fs,η,N,A,f⟩:=h
 obtain ⟨⟨w,η1⟩,h2,h3⟩:=aN (show Fin K ⟨sf,pv⟩ Z H (tot Fs) D (Fl.of η (evX C x e η) (iC i (evX C x k) η)) from f)
 obtain ⟨⟨kw,η2⟩,h6,h7⟩:=aN (show Fin K ⟨sf,pv⟩ Z H (tot Fs) D (Fl.of η (evX C x k η1) (gA i w)) from h3)
 obtain ⟨η3,h4,h5⟩:=eT (show Fin K ⟨sf,pv⟩ Z H (tot Fs) D (nxO η2 (((rd η2 i).bind fun u=>cb u kw w).map fun u=>M.put η2 i u)) from h7)
 refine gT (sl:=⟨sf,pv⟩) A h2 fun y Z' H' Fs' G B r s=>?_
 cases e1:rd η2 i with
 | none=>rw [e1] at h4; cases h4
 | some u1 =>
  rw [e1] at h4
  cases e2:cb u1 kw w with
  | none=>rw [show (some u1).bind (fun u=>cb u kw w)=cb u1 kw w from rfl,e2] at h4; cases h4
  | some r1 =>
   rw [show (some u1).bind (fun u=>cb u kw w)=cb u1 kw w from rfl,e2] at h4
   cases h4
   obtain ⟨m,ks,vs,n,kk,rfl,rfl,hm,hlen,hfl,rfl⟩:=jw e2
   have n1:rd η1 i≠none:=fun z=>by rw [qH h6 i z] at e1; cases e1
   cases e3:rd η1 i with
   | none=>exact absurd e3 n1
   | some u3 =>
    obtain ⟨v3,r3,l3,p3⟩:=B.env i u3.1 u3.2 e3
    refine ⟨v3,l3 j hs,gT (sl:=⟨sf,pv⟩) B.bare h6 fun z Z2 H2 Fs2 G2 B2 rz s2=>?_⟩
    obtain ⟨B3,s3,d3⟩:=B.frame B2 s2
    have r':=r.frame B.gd.own s2 B.dis
    have B4:=B3.mono (G':=G) fun _ z=>.inl z
    obtain ⟨v4,r4,l4,p4⟩:=B4.env i m _ e1
    have hv:v3=v4:=by have e5:=l3 j hs; have e6:=l4 j hs; rw [e5] at e6; cases e6; rfl
    subst hv
    obtain ⟨a,xs,rfl,hl,hf,hx,hnk,hvl,p⟩:=nq hm r4
    have hxl:xs.length=ks.length:=by rw [p.length,hvl]
    obtain ⟨q1,q2⟩:=f6 kk w.2 ks vs hvl
    have rz':z=.str kk/\sOk kk=true:=rz
    refine ⟨a,mkD ks xs,kk,rfl,rz'.1,hx,?_,?_⟩
    ·show ((ks.map a0L).zip xs).length < _
     rw [a2o,a0b,hxl,a2E]
     exact a0l hlen (aU (a0i _))
    ·rw [iK kk w.2 y ks vs xs hvl hxl hnk.1]
     exact mN (K:=K) (G':=no) (R:=no) hm B4 e1 hf (fun k hk=>by rw [show sf i=some k from hk] at hs; cases hs; exact l3 _ hk) (by omega) ⟨df kk w.2 ks vs hvl hnk.1,fun z hz=>((dt kk w.2 ks vs hvl z).mp hz).elim (fun e=>e ▸ rz'.2) (hnk.2 z)⟩ q1 p4 (fun _ z=>z.elim) (fun _ z=>z.elim) (fun _ z=>z.elim) ((fL hfl r' ks vs xs hvl p).zmono fun b h=>.inl h) fun Z5 Fs5 B5 s5 _=>h5 σ Z5 _ Fs5 B5 ((s.trans (s3.mono (fun _ z=>z) fun b h=>h.imp id .inl)).trans (s5.mono (fun _ z=>z) fun _ z=>.inl z))
end
end MR
namespace MR
open PySem PySem.Spec PyProof.Rows L2 L3
section
variable {X:Cx}{sf sg:Nat->Option Nat}{C:M.Call}{pos p p2 p3:Pos}{ea eb ec:Expr}{a b c:M.E}{h:Bool}{n:Nat}{io:List Nat}{K:a0a}
theorem wo (j:Nat)(hr:Room n X.A){i:Nat}{x:Str}{xx:M.X}{px ps:Pos}(ha:SE X sf C ea a)(hb:SE X sf C eb b)(hs:sf i=some j:=by rfl)(hN:X.N[j]?=some x:=by rfl)(hv:Vis X.env.scope x:=by first | exact a0C rfl | exact a0w (a0C rfl) | exact a0w (a0w rfl))(hd:(x==("__debug__":Str))=false:=by decide)(hcd:(x==("__classdict__":Str))=false:=by decide)
  (hsw:swapsWith ea (some (.Subscript (.Name x px) eb ps)) pos.line X.env=pure false:=by rfl) :
  SS X sf io C (.Assign [.Subscript (.Name x px) eb ps] ea pos) (.setK xx i b a) :=
 b8 (pq (uN hr) (bq hN hv hd hcd) hb ha hsw) fun D σ H hw=>by
  obtain ⟨pv,Z,Fs,η,w,η',A,ev,k⟩:=m9 hs D σ H hw
  refine ⟨pv,Z,Fs,η,w,η',A,ev,fun v Z' H' Fs' G B r s=>?_⟩
  obtain ⟨o,ho,pv2,Z2,Fs2,η2,w2,η3,A2,ev2,k2⟩:=k v Z' H' Fs' G B r s
  refine ⟨o,ho,pv2,Z2,Fs2,η2,w2,η3,A2,ev2,fun z Z3 H3 Fs3 G3 B3 r3 s3=>?_⟩
  obtain ⟨q,kvs,kk,rfl,rfl,g1,g2,g3⟩:=k2 z Z3 H3 Fs3 G3 B3 r3 s3
  exact ⟨q,_,rfl,.inl ⟨kvs,a0L kk,g1,rfl,g2,rfl⟩,g3⟩
end
end MR

namespace L3
open PySem PySem.Spec PyProof.Rows L2
end L3

namespace TP
open PySem PySem.W
noncomputable def en (P:Params)(k:Str)(t:Nat)(v:Value):DictEntry:=⟨PyData.keyHash P k,.str k t,v⟩
noncomputable def tu (xs:List Value):Obj:=⟨.type "tuple",none,.seq xs.toArray 0,#[]⟩
noncomputable def fe (xs:List Value):Obj:=⟨.none,none,.fields xs.toArray,#[]⟩
noncomputable def di (es:List DictEntry)(n:Nat):Obj:=⟨.type "dict",none,.dict es.toArray n,#[]⟩
noncomputable abbrev fl:Str:="/claim/cut.py"
noncomputable def iv (i:Int):Value:=.int i 0
noncomputable def cdo (n q:Str)(t t2:Nat)(ln ac:Nat)(f:Nat)(a:Nat)(b:Bool)(x y z:Value):Obj :=
 ⟨.type "code",none,.fields #[.str n t,.str q (t+1),.str fl (t+2),iv ln,iv ac,iv 0,iv 0,iv f,.ref a,.bool b,iv 181,.ref (a+1),.none,x,y,z,iv t2,iv ln,.str fl (t2+1)],#[]⟩
noncomputable def ofn (c:Value)(st:Stmt)(q:Str)(g:Nat)(d m:Value)(cd:Value):Obj:=match st with
 | .FunctionDef n ar b _ _ _ sc _ _ _=>⟨c,none,.func { name:=n,qualname:=q,params:=ar,body:=.stmts b,scope:=sc,globals:=g,closure:=[],defaults:=d,kwdefaults:=.none,pyModule:=m,code:=cd },#[]⟩
 | _=>default
noncomputable def tks:List Str->Nat->List Value
 | [],_=>[]
 | x::r,t=>.str x t::tks r (t+1)
structure R where
 os:List Obj
 ns:List DictEntry
 tb:List Value
 n:Nat
 tk:Nat
 md:Value
inductive Rc where
 | d | m | c
 | x (k:Str) (kt:Nat) (v:Value) (os:Params->List Obj) (tb:List Value) (n tk:Nat)
noncomputable def cv:Expr->Value
 | .Constant (.bool b) _ _=>.bool b
 | _=>.none
noncomputable def dO (P:Params)(n tk:Nat)(md:Value)(st:Stmt):R:=match st with
 | .FunctionDef nm ar b _ _ _ sc _ _ pos =>
  let pr:List Obj×Value×Nat:=match ar.defaults with
   | []=>([],.none,n)
   | ds=>([tu (ds.map cv)],.ref n,n+1)
  let a:=pr.2.2
  match localNames ar sc (.stmts b) with
  | none=>⟨pr.1++[tu [],fe [],ofn .none st nm 0 .none .none .none,cdo nm nm tk (tk+3) pos.line ar.args.length 3 a true .none .none (.ref (a+2)),ofn (.type "function") st nm 3 pr.2.1 md (.ref (a+3))],
    [en P nm (tk+5) (.ref (a+4))],[iv pos.line,iv pos.col,.ref (a+3)],a+5,tk+6,md⟩
  | some l =>
   let k:=l.1.length
   let j:=l.2.length
   ⟨pr.1++[tu [],fe [],tu (tks l.1 (tk+3)),tu (tks l.2 (tk+3+k)),ofn .none st nm 0 .none .none .none,cdo nm nm tk (tk+3+k+j) pos.line ar.args.length 3 a true (.ref (a+2)) (.ref (a+3)) (.ref (a+4)),ofn (.type "function") st nm 3 pr.2.1 md (.ref (a+5))],
    [en P nm (tk+5+k+j) (.ref (a+6))],[iv pos.line,iv pos.col,.ref (a+5)],a+7,tk+6+k+j,md⟩
 | _=>⟨[],[],[],n,tk,md⟩
noncomputable def one (P:Params)(n tk:Nat)(md:Value)(st:Stmt):Rc->R
 | .d=>dO P n tk md st
 | .m=>match st with
  | .Assign _ (.Constant (.str s) _ _) _=>⟨[],[],[],n,tk+2,.str s tk⟩
  | _=>⟨[],[],[],n,tk,md⟩
 | .c=>match st with
  | .Assign (.Name x _::_) (.Constant (.str s) _ _) _=>⟨[],[en P x (tk+1) (.str s tk)],[],n,tk+2,md⟩
  | .Assign (.Name x _::_) (.Constant (.int i) _ _) _=>⟨[],[en P x (tk+1) (.int i tk)],[],n,tk+2,md⟩
  | _=>⟨[],[],[],n,tk,md⟩
 | .x k kt v os tb n' tk'=>⟨os P,[en P k kt v],tb,n',tk',md⟩
noncomputable def go (P:Params):List (Stmt×Rc)->Nat->Nat->Value->List R
 | [],_,_,_=>[]
 | (st,r)::l,n,tk,md=>let x:=one P n tk md st r
  x::go P l x.n x.tk x.md
noncomputable def vm (x:R):List R->R
 | []=>x
 | y::l=>vm y l
noncomputable def ds:Data->List DictEntry
 | .dict es _=>es.toList
 | _=>[]
noncomputable def ep:Data->Nat
 | .dict _ n=>n
 | _=>0
noncomputable def r0:R:=⟨[],[],[],15,187,.str "__main__" 164⟩
noncomputable def rs (P:Params)(l:List (Stmt×Rc)):List R:=go P l 15 187 (.str "__main__" 164)
noncomputable def o3 (P:Params)(l:List R):Obj:=di (en P "__name__" 165 (vm r0 l).md::((ds (boot_o_3 P).data).tail++l.flatMap R.ns)) (ep (boot_o_3 P).data+(l.flatMap R.ns).length)
noncomputable def os (P:Params)(l:List R):List Obj :=
 boot_o_0 P::boot_o_1 P::boot_o_2 P::o3 P l::boot_o_4 P::boot_o_5 P::boot_o_6 P::boot_o_7 P::boot_o_8 P::boot_o_9 P::boot_o_10 P ::
 tu []::fe (l.flatMap R.tb)::cdo "<module>" "<module>" 182 185 1 0 0 11 false .none .none .none ::
 ⟨.type "frame",none,.plain,#[some (.ref 13),some (.ref 3),some (.ref 3),none,some (.str "__main__" 164),none,some (.ref 0)]⟩::l.flatMap R.os
noncomputable def odd {α:Type}:List α->List α×List α
 | []=>([],[])
 | x::l=>(x::(odd l).2,(odd l).1)
noncomputable def bt:Nat->List Obj->BT
 | 0,_=>.nil
 | _+1,[]=>.nil
 | k+1,x::l=>.node x (bt k (odd l).1) (bt k (odd l).2)
noncomputable abbrev p0:Pos:=⟨0,0,0,0⟩
noncomputable abbrev B0:List Frame:=[topFrame p0]
noncomputable abbrev an:Option Value:=some (.ref 6)
noncomputable def ev (p:Program):Env:={ scope:=p.main.scope,locals:=mainNs,globals:=mainNs,cells:=[],code:=.ref 13,frame:=some 14 }
noncomputable def cE (p:Program):Code:=.body (behindTheImports p) (ev p)
noncomputable def sT (p:Program)(rc:List Rc)(P:Params)(m n tk:Nat)(o:OsState):SharedT:=⟨bt 12 (os P (rs P ((p.main.body.zip rc).take m))),n,{},#[],{},tk,o⟩
noncomputable def hp (p:Program)(rc:List Rc)(m n:Nat)(P:Params):Heap:=absHeap (bt 12 (os P (rs P ((p.main.body.zip rc).take m)))) n {}
noncomputable def Cut (p:Program)(rc:List Rc)(i n t:Nat)(ps:Pos)(k N n' t':Nat)(ps':Pos)(w:World):Prop:=∀ o,segRunT treeTable p w 11 an 1 N (sT p rc w.params i n t o) (piecesOf ((p.main.body.drop i).take k) (ev p) (cE p) ps B0)=some (.next,sT p rc w.params (i+k) n' t' o,cE p,ps')
noncomputable def Ch (p:Program)(rc:List Rc)(m n1 t1:Nat)(i n t:Nat)(ps:Pos)(M:Nat):Prop:=∀ w o,topRun treeTable p w 11 an M (sT p rc w.params i n t o).abs (restOf (p.main.body.drop i) (ev p) (cE p) ps B0)=some (sT p rc w.params m n1 t1 o).abs
theorem cG {p:Program}{rc:List Rc}{m n1 t1 i n t k N n' t' M:Nat}{ps ps':Pos}(c:∀ w,Cut p rc i n t ps k N n' t' ps' w)(h:Ch p rc m n1 t1 (i+k) n' t' ps' M):Ch p rc m n1 t1 i n t ps (N+M):=fun w o=>by
 have x:=piece_app (segRun_of (c w o)) (h w o)
 rw [<- List.drop_drop,List.take_append_drop] at x
 exact x
theorem sj {p:Program}{rc:List Rc}{m n1 t1:Nat}{ps:Pos}(hd:p.main.body.drop m=[]):Ch p rc m n1 t1 m n1 t1 ps 2:=fun w o=>by
 rw [hd]
 exact piece_nil rfl
theorem mr (w:World):((boot_heap w.params).isNs mainGlobals&&(a2w []:Array GenState).size==0,(boot_heap w.params).objs.size,(boot_heap w.params).nsMap mainGlobals "__annotations__")=(true,11,an):=by kernel_rfl
theorem nu {p q:Program}{loose:List Str}{Xt:Shared->Bool}{α:Type}{Yf:Shared->α}{Ya:World->α}{N M m n1 t1:Nat}{rc:List Rc}
  (e:opening p=plainProg p.main.scope.names) (hN:Nat.ble 600 N=true) (f:∀ s,fenceModules? p s=some s) (hb:behindTheImports p=p.main.body)
  (size:∀ w:World,((boot_heap w.params).isNs mainGlobals&&(a2w []:Array GenState).size==0,(boot_heap w.params).objs.size,(boot_heap w.params).nsMap mainGlobals "__annotations__")=(true,11,an))
  (pre:∀ (w:World) (o:OsState),topGo treeTable p w 11 an 12 ⟨boot_heap w.params,a2w [],boot_drawn,boot_toks,o⟩ (topStub p)=some ((sT p rc w.params 0 15 187 o).abs,⟨denote treeTable (cE p),cE p,p0,B0⟩))
  (blk:∀ (w:World) (o:OsState),segRun treeTable p w 11 an 1 1 (sT p rc w.params 0 15 187 o).abs (blockOf (behindTheImports p) (ev p) (cE p) p0 B0)=some (.next,(sT p rc w.params 0 15 187 o).abs,cE p,p0))
  (ch:Ch p rc m n1 t1 0 15 187 p0 M) (le:Nat.ble (12+(1+M)) N=true)
  (looks:∀ w:World,(fun o=>((staticsOk (importedModules p.main.body) (boot_heap w.params) (hp p rc m n1 w.params)&&namesBound p (hp p rc m n1 w.params)&&gensDone ⟨hp p rc m n1 w.params,#[],{},t1,o⟩&&laidKept (boot_heap w.params) (hp p rc m n1 w.params)),
    openSeen q loose (importedModules p.main.body) Xt true ⟨hp p rc m n1 w.params,#[],{},t1,o⟩,Yf ⟨hp p rc m n1 w.params,#[],{},t1,o⟩))=fun _=>(true,openGood q loose,Ya w)):LeftO p q loose Xt Yf Ya N :=
 LeftO.of_pieces (H₀:=boot_heap) (H₁:=hp p rc m n1) (gs₁:=#[]) (d₁:={}) (k₁:=t1) (boot_open e hN f) size
  (fun w o=>go_top (pre w o) (piece_block (blk w o) (by have x:=ch w o; rw [a0H,<- hb] at x; exact x))) le looks
noncomputable def drec (st:Stmt):PySem.DefRec:=match st with
 | .FunctionDef n a b _ _ _ sc _ _ pos=>⟨n,a,b,sc,pos⟩
 | _=>⟨default,default,[],default,default⟩
theorem cH {α:Type}:∀ (l:List α) (i:Nat),(odd l).1[i]?=l[2 * i]?/\(odd l).2[i]?=l[2 * i+1]?
 | [],i=>by simp [odd]
 | x::l,i=>by
  refine ⟨?_,?_⟩
  ·cases i with
   | zero=>simp [odd]
   | succ j=>rw [show 2 * (j+1)=2 * j+1+1 by omega]; simp only [odd,a0z]; exact (cH l j).2
  ·simp only [odd,a0z]; exact (cH l i).1
theorem iH {α:Type}:∀ (l:List α),(odd l).1.length=(l.length+1) / 2/\(odd l).2.length=l.length / 2
 | []=>by simp [odd]
 | x::l=>by
  have h:=iH l
  simp only [odd,a0h,h.1,h.2]
  exact ⟨by omega,trivial⟩
theorem gO:∀ (k:Nat) (l:List Obj) (a:Nat),l.length < 2 ^ k->(bt k l).get a=l[a]?
 | 0,l,a,h=>by
  have:l=[]:=List.length_eq_zero_iff.mp (by simpa using h)
  subst this; simp [bt,BT.get]
 | k+1,[],a,h=>by simp [bt,BT.get]
 | k+1,x::l,a,h=>by
  have e:2 ^ (k+1)=2 * 2 ^ k:=by rw [a2F]; omega
  have hl:=iH l
  simp only [a0h] at h
  unfold bt
  rw [BT.get_node]
  by_cases h0:a=0
  ·simp [h0]
  ·rw [if_neg h0]
   by_cases h1:a % 2=1
   ·rw [if_pos h1,gO k _ _ (by omega),(cH l (a / 2)).1]
    obtain ⟨b,rfl⟩:∃ b,a=b+1:=⟨a-1,by omega⟩
    rw [a0z]; congr 1; omega
   ·rw [if_neg h1,gO k _ _ (by omega),(cH l (a / 2-1)).2]
    obtain ⟨b,rfl⟩:∃ b,a=b+1:=⟨a-1,by omega⟩
    rw [a0z]; congr 1; omega
noncomputable def lL (p:Program)(rc:List Rc)(m:Nat)(P:Params):List Obj:=os P (rs P ((p.main.body.zip rc).take m))
noncomputable def kK (p:Program)(rc:List Rc)(m:Nat)(as:List Addr)(P:Params):Frag:=as.map fun a=>(a,(lL p rc m P).getD a default)
noncomputable def okO:Option Obj->Bool
 | some ⟨_,_,.freed,_⟩=>false
 | some _=>true
 | none=>false
theorem hZ {p:Program}{rc:List Rc}{m:Nat}{P:Params}{a:Addr}{o:Obj}:∀ {as:List Addr},(kK p rc m as P).lookup a=some o->a∈as/\o=(lL p rc m P).getD a default
 | [],h=>by simp [kK] at h
 | b::as,h=>by
  unfold kK at h
  rw [a0B,a06] at h
  by_cases e:a=b
  ·subst e
   rw [beq_self_eq_true] at h
   exact ⟨a0d ..,(a0t h).symm⟩
  ·rw [beq_false_of_ne e] at h
   have x:=hZ (as:=as) h
   exact ⟨a0f _ x.1,x.2⟩
noncomputable def hkk (p:Program)(rc:List Rc)(m n:Nat):Hook where
 α:=Array Obj
 obs s:=s.heap.objs
 val w:=(hp p rc m n w.params).objs
 says w h:=∀ a o,(hp p rc m n w.params).get? a=some o->h.get? a=some o
 of w s e a o x:=by unfold Heap.get? at *; rw [e]; exact x
 keeps w h h' X k a o x:=k _ _ (X a o x)
theorem xM {p:Program}{rc:List Rc}{m n:Nat}{as:List Addr}{w:World}{h:Heap}(hl:Nat.blt (lL p rc m w.params).length 4096=true)(hc:(as.all fun a=>Nat.blt a n&&okO (lL p rc m w.params)[a]?)=true)
  (Y:(hkk p rc m n).says w h):(kK p rc m as w.params).In h:=fun a o e=>by
 obtain ⟨e1,e2⟩:=hZ e
 obtain ⟨c1,c2⟩:=a0n.mp (a2g.mp hc a e1)
 refine Y a o ?_
 have c3:a < n:=a1i c1
 have c4:(lL p rc m w.params).length < 2 ^ 12:=a1i hl
 have g:=gO 12 (lL p rc m w.params) a c4
 unfold hp Heap.get?
 rw [absHeap_at,if_pos c3]
 show (match some (((bt 12 (lL p rc m w.params)).get a).getD default) with | some ⟨_,_,.freed,_⟩=>none | o=>o)=some o
 rw [g]
 rw [a0A] at e2
 rw [<- e2]
 cases q:(lL p rc m w.params)[a]? with
 | none=>rw [q] at c2; cases c2
 | some x =>
  rw [q] at c2 e2
  have e3:o=x:=e2
  subst e3
  obtain ⟨_,_,d,_⟩:=o
  cases d<;>first | rfl | cases c2
noncomputable def pmO:Option Obj->Value
 | some ⟨_,_,.func f,_⟩=>f.pyModule
 | _=>.none
noncomputable def rfO:Option (Option Value)->Nat
 | some (some (.ref a))=>a
 | _=>0
theorem raw_mk {K:Frag}{x:Str}{st:Stmt}{dV:Value}(h1:nsIn K mainGlobals x=some (some (.ref (rfO (nsIn K mainGlobals x)))))
  (h2:K.lookup (rfO (nsIn K mainGlobals x))=some ⟨.type "function",none,.func (fnOf x x (L2.defArgs st) (L2.defBody st) (L2.defScope st) dV .none .none (pmO (K.lookup (rfO (nsIn K mainGlobals x)))) none (.ref (rfO (nsIn K mainGlobals x)-1)) .none),#[]⟩)
  (h3:codeIn K (.ref (rfO (nsIn K mainGlobals x)-1)) x=true) (h4:keepIn K (.ref (rfO (nsIn K mainGlobals x)))=true):MR.Raw K x st dV:=⟨_,_,_,_,_,_,_,_,_,_,h1,h2,h3,h4⟩
noncomputable def toV:Value->L2.V
 | .bool b=>.bl b
 | .int i _=>.int i
 | .str s _=>.str s
 | .ref a=>.ref a
 | _=>.non
noncomputable def okV:Value->Bool
 | .none=>true
 | .bool _=>true
 | .int _ _=>true
 | .str _ _=>true
 | .ref _=>true
 | _=>false
theorem iO:∀ {v:Value},okV v=true->L2.RelV (toV v) v
 | .none,_=>rfl
 | .bool _,_=>rfl
 | .int _ _,_=>⟨_,rfl⟩
 | .str _ _,_=>⟨_,rfl⟩
 | .ref _,_=>rfl
 | .ellipsis,h=>by cases h
 | .notImplemented,h=>by cases h
 | .float _ _,h=>by cases h
 | .bytes _ _,h=>by cases h
 | .type _,h=>by cases h
 | .builtin _,h=>by cases h
theorem f9:∀ {l:List Value},l.all okV=true->L2.Vals (l.map toV) l
 | [],_=>.nil
 | v::l,h=>by
  rw [a09,a0n] at h
  exact .cons (iO h.1) (f9 h.2)
noncomputable def eK (e:DictEntry):Str×Nat×Value:=match e.key with
 | .str k t=>(k,t,e.val)
 | _=>("",0,e.val)
noncomputable def tE:Option Obj->List (Str×Nat×Value)
 | some o=>(ds o.data).map eK
 | none=>[]
noncomputable def tN:Option Obj->Nat
 | some o=>ep o.data
 | none=>0
noncomputable def enL (P:Params)(l:List (Str×Nat×Value)):List DictEntry:=l.map fun e=>en P e.1 e.2.1 e.2.2
noncomputable def tL (l:List (Str×Nat×Value)):List (Str×L2.V):=l.map fun e=>(e.1,toV e.2.2)
theorem fR {P:Params}:∀ l:List (Str×Nat×Value),KeysLit P (enL P l)
 | []=>trivial
 | e::l=>⟨⟨_,_,rfl,rfl⟩,fR l⟩
theorem fO {P:Params}:∀ {l:List (Str×Nat×Value)},(l.all fun e=>okV e.2.2)=true->PySem.Paired (fun (p:Str×L2.V) (e:DictEntry)=>(∃ t,e.key=.str p.1 t)/\L2.RelV p.2 e.val) (tL l) (enL P l)
 | [],_=>.nil
 | e::l,h=>by
  rw [a09,a0n] at h
  exact .cons ⟨⟨_,rfl⟩,iO h.1⟩ (fO h.2)
theorem tab_mk {K:Frag}{w:World}{x:Str}(h1:nsIn K mainGlobals x=some (some (.ref (rfO (nsIn K mainGlobals x)))))
  (h2:K.lookup (rfO (nsIn K mainGlobals x))=some (di (enL w.params (tE (K.lookup (rfO (nsIn K mainGlobals x))))) (tN (K.lookup (rfO (nsIn K mainGlobals x))))))
  (h3:((tE (K.lookup (rfO (nsIn K mainGlobals x)))).all fun e=>okV e.2.2)=true) (h4:(rfO (nsIn K mainGlobals x)==sysModules)=false):MR.TabRaw K w x (tL (tE (K.lookup (rfO (nsIn K mainGlobals x))))) :=
 ⟨_,_,_,h1,h2,fR _,fO h3,h4⟩
noncomputable def jm {α β:Type}(f:α->β->Bool):List α->List β->Bool
 | [],[]=>true
 | a::l,b::r=>f a b&&jm f l r
 | _,_=>false
noncomputable def gq (K:Frag):Nat->M.T->L2.V->Bool
 | _+1,.int i,.int j=>decide (i=j)
 | _+1,.non,.non=>true
 | _+1,.bl a,.bl b=>decide (a=b)
 | _+1,.str x,.str y=>decide (x=y)&&M.sOk x
 | n+1,.tup ts,.ref a=>match K.lookup a with
  | some ⟨.type "tuple",_,.seq its _,_⟩=>Nat.ble its.size 1000&&(its.toList.all okV&&jm (gq K n) ts (its.toList.map toV))
  | _=>false
 | _,_,_=>false
theorem iy {K:Frag}{n:Nat}(ih:∀ t v,gq K n t v=true->MR.CstR K t v):∀ {ts:List M.T} {xs:List L2.V},jm (gq K n) ts xs=true->MR.CstRs K ts xs
 | [],[],_=>MR.cst_nil
 | t::ts,x::xs,h=>by
  unfold jm at h
  rw [a0n] at h
  exact MR.cst_cons (ih _ _ h.1) (iy ih h.2)
 | [],_::_,h=>by cases h
 | _::_,[],h=>by cases h
theorem mx {K:Frag}:∀ n t v,gq K n t v=true->MR.CstR K t v:=by
 intro n
 induction n with
 | zero=>intro t v h; simp [gq] at h
 | succ n ih =>
  intro t v h
  unfold gq at h
  split at h
  ·rename_i q; cases q; have e:=of_decide_eq_true h; subst e; exact MR.cst_int _
  ·exact MR.cst_non
  ·have e:=of_decide_eq_true h; subst e; exact MR.cst_bl _
  ·rw [a0n] at h; have e:=of_decide_eq_true h.1; subst e; exact MR.cst_str h.2
  ·rename_i q
   cases q
   split at h
   ·rename_i its k sl q
    rw [a0n,a0n] at h
    have hs:=a1i h.1
    exact MR.cst_tup q rfl rfl (a0p hs (by decide)) (f9 h.2.1) (by rw [a0b,a0M]; exact a0p hs (by decide)) (iy ih h.2.2)
   ·cases h
  ·cases h
theorem cst_of {K:Frag}{n:Nat}:∀ {tab:List (Str×M.T)} {T:List (Str×L2.V)},jm (fun (e:Str×M.T) (p:Str×L2.V)=>decide (p.1=e.1)&&gq K n e.2 p.2) tab T=true->MR.CstL K tab T
 | [],[],_=>trivial
 | e::tab,p::T,h=>by
  unfold jm at h
  rw [a0n,a0n] at h
  exact ⟨⟨of_decide_eq_true h.1.1,mx n _ _ h.1.2⟩,cst_of h.2⟩
 | [],_::_,h=>by cases h
 | _::_,[],h=>by cases h
end TP

namespace A10
open M
open PySem (Str)
noncomputable abbrev q:=Str.ofString
noncomputable def keys_AHEAD:List Str:=[q "num",q "name",q "none",q "let",q "each",q "times"]
noncomputable def tab_BINDING:List (Str×T):=[(q "let",.int 1),(q "each",.int 1),(q "times",.int 2)]
noncomputable def aB:Fn:={ ps:=1,ns:=0,io:=[],body:=[
  .ret [] (.ifx (.inT false keys_AHEAD (.mv 0)) (.cst (.int 2)) (.cst (.int 1)))] }
noncomputable def bK:Fn:={ ps:=1,ns:=0,io:=[],body:=[
  .ret [0] (.op .sl1 false [.var 0,.call 175 [.op .ix false [.var 0,.cst (.int 0)]]])] }
noncomputable def bh:Fn:={ ps:=1,ns:=0,io:=[],body:=[
  .ret [] (.getT tab_BINDING (.op .ix false [.mv 0,.cst (.int 0)]))] }
noncomputable def aL:Fn:={ ps:=1,ns:=1,io:=[],body:=[
  .asg (.q [] []) 1 (.op .dnew false []),
  .exp (.l [0]) (.call 235 [.var 0,.tup [],.io 1]),
  .ret [] (.op .sortedD false [.mv 1])] }
noncomputable def aF:Fn:={ ps:=3,ns:=3,io:=[2],body:=[
  .ite (.q [0,1] []) (.and (.op .eq false [.op .ix false [.var 0,.cst (.int 0)],.cst (.str (q "name"))]) (.op .notin false [.op .ix false [.var 0,.cst (.int 1)],.var 1])) [
   .setK (.q [0] []) 2 (.op .ix false [.var 0,.cst (.int 1)]) (.cst (.bl true))] [],
  .asg (.q [0] []) 3 (.call 233 [.var 0]),
  .forS [0] [] .enmT [.call 176 [.var 0]] [4,5] [
   .exp (.l [0,1,3,5]) (.call 235 [.var 5,.ifx (.op .eq false [.var 4,.var 3]) (.op .catT false [.var 1,.tup [.op .ix false [.var 0,.cst (.int 1)]]]) (.var 1),.io 2])]] }
noncomputable def ax:Fn:={ ps:=2,ns:=1,io:=[],body:=[
  .asg (.q [] [0]) 2 (.op .mod false [.var 0,.cst (.int 6)]),
  .ite (.q [] [1,2]) (.or (.op .eq false [.var 1,.cst (.int 0)]) (.op .lt false [.var 2,.cst (.int 2)])) [
   .ret [] (.op .ix false [.lst false [.tup [.cst (.str (q "num"))],.tup [.cst (.str (q "truth"))]],.op .mod false [.mv 0,.cst (.int 2)]])] [],
  .ite (.q [] [2]) (.op .eq false [.var 2,.cst (.int 2)]) [
   .ret [] (.tup [.cst (.str (q "pair")),.call 171 [.op .fdiv false [.var 0,.cst (.int 6)],.op .sub false [.var 1,.cst (.int 1)]],.call 171 [.op .fdiv false [.var 0,.cst (.int 216)],.op .sub false [.var 1,.cst (.int 1)]]])] [],
  .ret [] (.tup [.cst (.str (q "row")),.call 171 [.op .fdiv false [.mv 0,.cst (.int 6)],.op .sub false [.mv 1,.cst (.int 1)]]])] }
noncomputable def aV:Fn:={ ps:=1,ns:=3,io:=[],body:=[
  .asg (.q [] [0]) 1 (.op .ix false [.lst false [.cst (.str (q "x")),.cst (.str (q "addx")),.cst (.str (q "rowe")),.cst (.str (q "numb")),.cst (.str (q "ab")),.cst (.str (q "z")),.cst (.str (q "abcdefgh")),.cst (.str (q "nots")),.cst (.str (q "truths")),.cst (.str (q "y"))],.op .mod false [.op .fdiv false [.var 0,.cst (.int 5)],.cst (.int 10)]]),
  .asg (.q [] [0]) 2 (.op .ix false [.lst false [.cst (.int 0),.cst (.int 1),.op .pow false [.cst (.int 10),.cst (.int 18)],.cst (.int 5),.op .mod false [.var 0,.op .add false [.op .pow false [.cst (.int 10),.cst (.int 18)],.cst (.int 1)]]],.op .mod false [.op .fdiv false [.var 0,.cst (.int 5)],.cst (.int 5)]]),
  .asg (.q [1] [0,2]) 3 (.lst false [.tup [.cst (.str (q "num")),.var 2],.tup [.cst (.str (q "yes"))],.tup [.cst (.str (q "no"))],.tup [.cst (.str (q "name")),.var 1],.tup [.cst (.str (q "none")),.call 171 [.op .fdiv false [.var 0,.cst (.int 5)],.cst (.int 4)]]]),
  .ret [] (.op .ix false [.mv 3,.op .mod false [.mv 0,.cst (.int 5)]])] }
noncomputable def f_law_tree:Fn:={ ps:=2,ns:=6,io:=[0],body:=[
  .asg (.l []) 2 (.ifx (.op .gt false [.lenV 0,.cst (.int 0)]) (.pop 0 []) (.cst (.int 0))),
  .ite (.q [] [1,2]) (.or (.op .eq false [.var 1,.cst (.int 0)]) (.op .eq false [.op .mod false [.var 2,.cst (.int 5)],.cst (.int 0)])) [
   .ret [] (.call 220 [.op .fdiv false [.mv 2,.cst (.int 5)]])] [],
  .asg (.q [] []) 3 (.lst false [.cst (.str (q "not")),.cst (.str (q "first")),.cst (.str (q "second")),.cst (.str (q "one")),.cst (.str (q "upto")),.cst (.str (q "long")),.cst (.str (q "sum")),.cst (.str (q "sums")),.cst (.str (q "most")),.cst (.str (q "flat")),.cst (.str (q "add")),.cst (.str (q "sub")),.cst (.str (q "mul")),.cst (.str (q "div"))]),
  .asg (.q [3] []) 3 (.op .add false [.var 3,.lst false [.cst (.str (q "rest")),.cst (.str (q "less")),.cst (.str (q "same")),.cst (.str (q "both")),.cst (.str (q "pair")),.cst (.str (q "pick")),.cst (.str (q "join")),.cst (.str (q "keep")),.cst (.str (q "cut")),.cst (.str (q "let")),.cst (.str (q "if")),.cst (.str (q "each")),.cst (.str (q "times"))]]),
  .asg (.q [] [2]) 4 (.op .mod false [.op .fdiv false [.var 2,.cst (.int 5)],.cst (.int 27)]),
  .asg (.q [3] [4]) 5 (.op .add false [.op .add false [.cst (.int 1),.op .int false [.op .gt false [.var 4,.cst (.int 9)]]],.op .int false [.op .isin false [.op .ix false [.var 3,.var 4],.tup [.cst (.str (q "if")),.cst (.str (q "times"))]]]]),
  .asg (.q [3] [4]) 6 (.tup [.op .ix false [.var 3,.var 4]]),
  .ite (.q [3] [4]) (.op .isin false [.op .ix false [.var 3,.var 4],.tup [.cst (.str (q "let")),.cst (.str (q "each")),.cst (.str (q "times"))]]) [
   .asg (.q [6] [2]) 6 (.op .add false [.var 6,.tup [.op .ix false [.lst false [.cst (.str (q "x")),.cst (.str (q "rowy")),.cst (.str (q "addx")),.cst (.str (q "b")),.cst (.str (q "numbs"))],.op .mod false [.op .fdiv false [.var 2,.cst (.int 135)],.cst (.int 5)]]]])] [],
  .forS [] [5] .rng [.var 5] [7] [
   .asg (.l [6]) 6 (.op .add false [.var 6,.tup [.call 229 [.io 0,.op .sub false [.var 1,.cst (.int 1)]]]])],
  .ret [] (.mv 6)] }
noncomputable def ak:Fn:={ ps:=2,ns:=2,io:=[],body:=[
  .ite (.q [0] []) (.op .eq false [.op .ix false [.var 0,.cst (.int 0)],.cst (.str (q "name"))]) [
   .ret [0] (.ifx (.op .notin false [.op .ix false [.var 0,.cst (.int 1)],.mv 1]) (.lst false [.op .ix false [.var 0,.cst (.int 1)]]) (.lst false []))] [],
  .ite (.q [0] []) (.op .isin false [.op .ix false [.var 0,.cst (.int 0)],.tup [.cst (.str (q "num")),.cst (.str (q "none"))]]) [
   .ret [] (.lst false [])] [],
  .ite (.q [0] []) (.or (.op .eq false [.op .ix false [.var 0,.cst (.int 0)],.cst (.str (q "let"))]) (.op .eq false [.op .ix false [.var 0,.cst (.int 0)],.cst (.str (q "each"))])) [
   .ret [0,1] (.op .add false [.call 236 [.op .ix false [.var 0,.cst (.int 2)],.var 1],.call 236 [.op .ix false [.var 0,.cst (.int 3)],.op .add false [.var 1,.lst false [.op .ix false [.var 0,.cst (.int 1)]]]]])] [],
  .ite (.q [0] []) (.op .eq false [.op .ix false [.var 0,.cst (.int 0)],.cst (.str (q "times"))]) [
   .asg (.q [0,1] []) 2 (.op .add false [.call 236 [.op .ix false [.var 0,.cst (.int 2)],.var 1],.call 236 [.op .ix false [.var 0,.cst (.int 3)],.var 1]]),
   .ret [0] (.op .add false [.mv 2,.call 236 [.op .ix false [.var 0,.cst (.int 4)],.op .add false [.mv 1,.lst false [.op .ix false [.var 0,.cst (.int 1)]]]]])] [],
  .asg (.q [] []) 2 (.lst false []),
  .forS [0] [] .seq [.op .sl1 false [.var 0,.cst (.int 1)]] [3] [
   .ext (.q [1,3] []) 2 (.call 236 [.var 3,.var 1])],
  .ret [] (.mv 2)] }
noncomputable def f_law:Fn:={ ps:=1,ns:=6,io:=[],body:=[
  .asg (.q [0] []) 1 (.call 229 [.op .list false [.op .sl2 false [.var 0,.cst (.int 40)]],.cst (.int 6)]),
  .asg (.q [1] []) 2 (.lst false [.var 1]),
  .forS [] [] .seq [.tup [.cst (.str (q "x")),.cst (.str (q "addx")),.cst (.str (q "b")),.cst (.str (q "rowe"))]] [3] [
   .app (.q [1,3] []) 2 (.tup [.cst (.str (q "let")),.var 3,.tup [.cst (.str (q "name")),.var 3],.var 1]),
   .app (.q [1,3] []) 2 (.tup [.cst (.str (q "each")),.var 3,.var 1,.tup [.cst (.str (q "name")),.cst (.str (q "z"))]]),
   .app (.q [1,3] []) 2 (.tup [.cst (.str (q "each")),.var 3,.tup [.cst (.str (q "name")),.cst (.str (q "addx"))],.var 1]),
   .app (.q [1,3] []) 2 (.tup [.cst (.str (q "times")),.var 3,.tup [.cst (.str (q "name")),.var 3],.var 1,.tup [.cst (.str (q "add")),.tup [.cst (.str (q "name")),.var 3],.var 1]])],
  .forS [2] [] .seq [.var 2] [4] [
   .asg (.q [4] []) 5 (.call 234 [.var 4]),
   .asg (.q [] []) 6 (.lst false []),
   .forS [4] [] .seq [.call 236 [.var 4,.lst false []]] [3] [
    .ite (.q [3,6] []) (.op .notin false [.var 3,.var 6]) [
     .app (.q [3] []) 6 (.var 3)] []],
   .ite (.q [5,6] []) (.or (.not (.op (.isI ["list"]) false [.var 5])) (.op .ne false [.var 5,.op .sortedS false [.var 6]])) [
    .ret [] (.cst (.bl false))] [],
   .app (.q [] []) 5 (.cst (.str (q "more"))),
   .ite (.q [4,6] []) (.op .ne false [.call 234 [.var 4],.op .sortedS false [.var 6]]) [
    .ret [] (.cst (.bl false))] []],
  .ret [] (.cst (.bl true))] }
noncomputable def prog:List Fn:=[f_law,zf,zf,zf,zf,zf,zf,zf,zf,zf,zf,zf,zf,zf,zf,zf,zf,zf,zf,zf,zf,zf,zf,zf,zf,zf,zf,zf,zf,zf,zf,zf,zf,zf,zf,zf,zf,zf,zf,zf,zf,zf,zf,zf,zf,zf,zf,zf,zf,zf,zf,zf,zf,zf,zf,zf,zf,zf,zf,zf,zf,zf,zf,zf,zf,zf,zf,zf,zf,zf,zf,zf,zf,zf,zf,zf,zf,zf,zf,zf,zf,zf,zf,zf,zf,zf,zf,zf,zf,zf,zf,zf,zf,zf,zf,zf,zf,zf,zf,zf,zf,zf,zf,zf,zf,zf,zf,zf,zf,zf,zf,zf,zf,zf,zf,zf,zf,zf,zf,zf,zf,zf,zf,zf,zf,zf,zf,zf,zf,zf,zf,zf,zf,zf,zf,zf,zf,zf,zf,zf,zf,zf,zf,zf,zf,zf,zf,zf,zf,zf,zf,zf,zf,zf,zf,zf,zf,zf,zf,zf,zf,zf,zf,zf,zf,zf,zf,zf,zf,zf,zf,ax,zf,zf,zf,aB,bK,zf,zf,zf,zf,zf,zf,zf,zf,zf,zf,zf,zf,zf,zf,zf,zf,zf,zf,zf,zf,zf,zf,zf,zf,zf,zf,zf,zf,zf,zf,zf,zf,zf,zf,zf,zf,zf,zf,zf,zf,zf,zf,zf,aV,zf,zf,zf,zf,zf,zf,zf,zf,f_law_tree,zf,zf,zf,bh,aL,aF,ak]
end A10

set_option compiler.extract_closed false
namespace P10
noncomputable section
open M A10
open PySem (Str)
local macro_rules
 | `(tactic| simp_all only [$ls,*])=>`(tactic| simp only [rH,qr,rL,rX,qQ,qE,sH,pf,oM,mH,mY,ml,nh,ni,mm,og,mO,oZ,mX,pA,oY,oA,nF,mE,ng,nU,oC,nJ,nM,nL,pd,lg,jZ,nS,mB,oH,nT,gn,k4,kOp,lF,kOr,l8,kC3,kC2,kC1,fo,dn,iu,fK,jt,c9,fS,iZ,ic,aI,kX,kT,kT2,kIf,nP,kz,kx,pL,su,gZ,kNx,kRt,hI,mK,lE,okW,iz,pW,dC,trees,aC,ios,putAll,qN,xE,rk,sG,qW,nN,oP,oz,tK,s9,qj,rR,uh,qk,uq,vv,uW,u7,uJ,vf,uQ,oJ,mM,mS,mw,u9,sY,lV,k6,kP,lu,tD,m8,nB,kW,kg,wV,vN,wU,wR,kc,l6,lA,ql,tw,tV,qp,qV,rn,q0,q4,nV,my,oT,qC,jT,j7,jD,xh,ui,ki,p7,uj,t9,qL,sU,rF,tT,x2,xT,x6,xU,vU,vq,rA,uo,qY,vy,vG,rf,wG,oE,q8,uH,nD,ny,tm,qo,qt,q9,ka,jF,jI,v5,ke,ly,ot,mP,mz,nI,qD,rl,ue,kF,bY,iP,jx,jg,ti,qF,q5,tY,tP,qf,rM,rU,v8,kO,j4,tS,tX,at0,at1,at2,at3,at4,List.cons_append,a0Z,a0I,a0B,a1J,a1o,List.replicate_zero,reduceIte,if_true,if_false,String.reduceBEq,Bool.not_true,Bool.not_false,Bool.false_eq_true,Bool.and_self,Bool.true_and,Bool.and_true,mG,kIo,rC,qI,i3,kM,jc,jl,jf,k7,iT,lJ,jh,iV,gQ,i2,gg,gK,i9,gX,i0,gh,tF,xN,vd,t6,r8,wC,rQ,mq,nE,jS,mT,vD,rg,vV,sX,uM,u0,sN,kD,lH,rJ,jz,jd,sv,gp,iC,gA,r6,rS,mh,vE,yf,uT,va,vZ,uF,ux,w8,x3,xa,vp,xb,uY,vI,vn,uE,v7,yg,xY,xt,tM,oQ,qX,$ls,*])
noncomputable abbrev C (n:Nat):Call:=callR prog 1000000 1000001 n
theorem aY (n:Nat)(ws:List W):C (n+1) 171 ws=runF (C n) ax ws:=rfl
theorem dg (n:Nat)(ws:List W):C (n+1) 175 ws=runF (C n) aB ws:=rfl
theorem fA (n:Nat)(ws:List W):C (n+1) 176 ws=runF (C n) bK ws:=rfl
theorem fk (n:Nat)(ws:List W):C (n+1) 220 ws=runF (C n) aV ws:=rfl
theorem cy (n:Nat)(ws:List W):C (n+1) 229 ws=runF (C n) f_law_tree ws:=rfl
theorem gW (n:Nat)(ws:List W):C (n+1) 233 ws=runF (C n) bh ws:=rfl
theorem dH (n:Nat)(ws:List W):C (n+1) 234 ws=runF (C n) aL ws:=rfl
theorem bz (n:Nat)(ws:List W):C (n+1) 235 ws=runF (C n) aF ws:=rfl
theorem az (n:Nat)(ws:List W):C (n+1) 236 ws=runF (C n) ak ws:=rfl
theorem b0 {α:Type}{tg:List Nat}{f:Env->Fl}{g:α->List W}(I:List α->Env->Prop):∀ (ts pre:List α) (η:Env),I pre η->(∀ p x r η,pre++ts=p++x::r->I p η->∃ η1 η2,aZ tg (g x) η=some η1/\f η1=.nx η2/\I (p++[x]) η2) ->
  ∃ η',bA tg f (ts.map g) η=.nx η'/\I (pre++ts) η'
 | [],pre,η,h,_=>⟨η,rfl,by rw [a0I]; exact h⟩
 | x::ts,pre,η,h,k=>by
  obtain ⟨η1,η2,h1,h2,h3⟩:=k pre x ts η rfl h
  obtain ⟨η',e,hi⟩:=b0 I ts (pre++[x]) η2 h3 fun p y r η e=>k p y r η (by rw [<- e,a02]; rfl)
  refine ⟨η',?_,by rw [a02] at hi; exact hi⟩
  rw [a0B]
  show Fl.of _ (ofO (aZ tg (g x) η)) _=_
  rw [h1]
  show Fl.turn (f η1) _=_
  rw [h2]
  exact e
theorem vB {α:Type}(a:α)(r:List α):cut (a::r) (some 1) none=r:=by
 have e:sIx (a::r).length 0 (some 1)=1:=by
  show (if (1:Int) < 0 then ((1:Int)+((a::r).length:Int)).toNat else min (1:Int).toNat (a::r).length)=1
  rw [if_neg (by decide),a0h]
  show min 1 (r.length+1)=1
  omega
 have e2:sIx (a::r).length (a::r).length none=(a::r).length:=rfl
 rw [cut,e,e2]
 exact a1F (by rw [a04]; omega)
theorem xI {α:Type}(a b:α)(r:List α):cut (a::b::r) (some 2) none=r:=by
 have e:sIx (a::b::r).length 0 (some 2)=2:=by
  show (if (2:Int) < 0 then ((2:Int)+((a::b::r).length:Int)).toNat else min (2:Int).toNat (a::b::r).length)=2
  rw [if_neg (by decide),a0h,a0h]
  show min 2 (r.length+1+1)=2
  omega
 have e2:sIx (a::b::r).length (a::b::r).length none=(a::b::r).length:=rfl
 rw [cut,e,e2]
 exact a1F (by rw [a04]; omega)
theorem eh (h:Bool)(m n:Md)(ts:List T)(i:Int):oSem .sl1 h [(m,.tup ts),(n,.int i)]=some (.s,.tup (cut ts (some i) none)):=rfl
theorem lq (n:Nat)(s:Str)(m:Md):C (n+1) 175 [(m,.str s)]=.ok ((.d,.int (if keys_AHEAD.contains s then 2 else 1)),[]):=by
 rw [dg,x_run _ _ _ rfl]
 cases h:keys_AHEAD.contains s with
 | true=>simp_all only [aB,h,a1U]
 | false=>simp_all only [aB,h,a1U]
inductive KK:Nat->T->Prop
 | num {j:Nat}:KK (j+1) (.tup [.str (q "num")])
 | truth {j:Nat}:KK (j+1) (.tup [.str (q "truth")])
 | row {j:Nat} {t:T}:KK j t->KK (j+1) (.tup [.str (q "row"),t])
 | pair {j:Nat} {t u:T}:KK j t->KK j u->KK (j+1) (.tup [.str (q "pair"),t,u])
theorem md2 (i:Int)(n:Int)(hn:0 < n):∃ j:Nat,(j:Int) < n/\i % n=(j:Int):=⟨(i % n).toNat,by have:=a1N i (by omega:n≠0); have:=a14 i hn; omega,by have:=a1N i (by omega:n≠0); omega⟩
theorem cL:∀ (k:Nat) (n:Nat) (c:Int),∃ md t,(∀ m m',C (n+k+1) 171 [(m,.int c),(m',.int (k:Int))]=.ok ((md,t),[]))/\KK (k+1) t
 | k,n,c=>by
  obtain ⟨j,hj,ej⟩:=md2 c 6 (by decide)
  obtain ⟨i,hi,ei⟩:=md2 c 2 (by decide)
  have leafc:∀ b:Bool,((((k:Int)==0)=true/\b=true)\/(((k:Int)==0)=false/\decide ((j:Int) < 2)=true/\b=false))->∃ md t,(∀ m m',C (n+k+1) 171 [(m,.int c),(m',.int (k:Int))]=.ok ((md,t),[]))/\KK (k+1) t:=fun b hb=>by
   have hi':i=0\/i=1:=by omega
   have p2:decide ((0:Int) < 2)=true:=rfl
   have p6:decide ((0:Int) < 6)=true:=rfl
   rcases hi' with rfl | rfl
   ·refine ⟨.s,.tup [.str (q "num")],fun m m'=>?_,.num⟩
    rw [aY,x_run _ _ _ rfl]
    have e1:atI [T.tup [.str (q "num")],.tup [.str (q "truth")]] ((0:Nat):Int)=some (.tup [.str (q "num")]):=rfl
    rcases hb with ⟨h1,_⟩ | ⟨h1,h2,_⟩
    ·simp_all only [ax,p2,p6,ej,ei,h1,e1]
    ·simp_all only [ax,p2,p6,ej,ei,h1,h2,e1]
   ·refine ⟨.s,.tup [.str (q "truth")],fun m m'=>?_,.truth⟩
    rw [aY,x_run _ _ _ rfl]
    have e1:atI [T.tup [.str (q "num")],.tup [.str (q "truth")]] ((1:Nat):Int)=some (.tup [.str (q "truth")]):=rfl
    rcases hb with ⟨h1,_⟩ | ⟨h1,h2,_⟩
    ·simp_all only [ax,p2,p6,ej,ei,h1,e1]
    ·simp_all only [ax,p2,p6,ej,ei,h1,h2,e1]
  cases k with
  | zero=>exact leafc true (.inl ⟨rfl,rfl⟩)
  | succ k =>
   have h0:(((k+1:Nat):Int)==0)=false:=beq_eq_false_iff_ne.mpr (by omega)
   by_cases hj2:(j:Int) < 2
   ·exact leafc false (.inr ⟨h0,decide_eq_true hj2,rfl⟩)
   ·have d2:decide ((j:Int) < 2)=false:=decide_eq_false hj2
    have p6:decide ((0:Int) < 6)=true:=rfl
    have p6':decide ((6:Int) < 1073741824)=true:=rfl
    have p216:decide ((216:Int) < 1073741824)=true:=rfl
    have p217:decide ((0:Int) < 216)=true:=rfl
    have ek:((k+1:Nat):Int)-1=(k:Int):=by omega
    by_cases hj3:j=2
    ·subst hj3
     obtain ⟨m1,t1,e1,k1⟩:=cL k n (c / 6)
     obtain ⟨m2,t2,e2,k2⟩:=cL k n (c / 216)
     have b2:(((2:Nat):Int)==2)=true:=rfl
     exact ⟨_,.tup [.str (q "pair"),t1,t2],fun m m'=>by rw [show n+(k+1)+1=(n+k+1)+1 by omega,aY,x_run _ _ _ rfl]; simp_all only [ax,p6,p6',p216,p217,ej,h0,d2,b2,ek,e1,e2]; rfl,.pair k1 k2⟩
    ·obtain ⟨m1,t1,e1,k1⟩:=cL k n (c / 6)
     have b2:((j:Int)==2)=false:=beq_eq_false_iff_ne.mpr (by omega)
     exact ⟨_,.tup [.str (q "row"),t1],fun m m'=>by rw [show n+(k+1)+1=(n+k+1)+1 by omega,aY,x_run _ _ _ rfl]; simp_all only [ax,p6,p6',ej,h0,d2,b2,ek,e1]; rfl,.row k1⟩
noncomputable abbrev LF:List String:=["num","name","none"]
noncomputable abbrev BF:List String:=["let","each","times"]
noncomputable abbrev NF:List String:=["yes","no","not","first","second","one","upto","long","sum","sums","most","flat","add","sub","mul","div","rest","less","same","both","pair","pick","join","keep","cut","if"]
noncomputable def ar (s:String):Nat:=if s∈["yes","no"] then 0 else if s="if" then 3 else if s∈["add","sub","mul","div","rest","less","same","both","pair","pick","join","keep","cut"] then 2 else 1
noncomputable def arB (s:String):Nat:=if s="times" then 3 else 2
noncomputable abbrev b3:List T:=[.str (q "let"),.str (q "each"),.str (q "times")]
theorem fl2 (x a b:Str):(M.flatT (.str x)&&[T.str a,.str b].all M.flatT)=true:=rfl
theorem fl3 (x a b c:Str):(M.flatT (.str x)&&[T.str a,.str b,.str c].all M.flatT)=true:=rfl
theorem f27:fits 27=true:=rfl
noncomputable abbrev NL:List String:=["x","addx","rowe","numb","ab","z","abcdefgh","nots","truths","y"]
noncomputable abbrev NB:List String:=["x","rowy","addx","b","numbs"]
inductive WT:Nat->T->Prop
 | num {d:Nat} {i:Int}:0<=i->i<=1000000000000000000->WT (d+1) (.tup [.str (q "num"),.int i])
 | name {d:Nat} {s:String}:s∈NL->WT (d+1) (.tup [.str (q "name"),.str (q s)])
 | none {d:Nat} {k:T}:KK 5 k->WT (d+1) (.tup [.str (q "none"),k])
 | node {d:Nat} {s:String} {ps:List T}:s∈NF->ps.length=ar s->(∀ p∈ps,WT d p)->WT (d+1) (.tup (.str (q s)::ps))
 | bind {d:Nat} {s x:String} {ps:List T}:s∈BF->x∈NB->ps.length=arB s->(∀ p∈ps,WT d p)->WT (d+1) (.tup (.str (q s)::.str (q x)::ps))
theorem mdj (i:Int)(n:Nat)(hn:0 < n):∃ j:Nat,j < n/\i % (n:Int)=(j:Int):=by
 obtain ⟨j,h1,h2⟩:=md2 i n (by omega)
 exact ⟨j,by omega,h2⟩
noncomputable abbrev uU:List T:=[.str (q "x"),.str (q "addx"),.str (q "rowe"),.str (q "numb"),.str (q "ab"),.str (q "z"),.str (q "abcdefgh"),.str (q "nots"),.str (q "truths"),.str (q "y")]
theorem oI (n d:Nat)(c:Int):∃ md t,(∀ m,C (n+6) 220 [(m,.int c)]=.ok ((md,t),[]))/\WT (d+1) t:=by
 obtain ⟨j,hj,ej⟩:=mdj (c / 5) 10 (by decide)
 obtain ⟨i,hi,ei⟩:=mdj (c / 5) 5 (by decide)
 obtain ⟨k,hk,ek⟩:=mdj c 5 (by decide)
 obtain ⟨mk,tk,e1,kk⟩:=cL 4 n (c / 5)
 have a1:∃ s,s∈NL/\atI uU (j:Int)=some (.str (q s)):=by
  have hm:NL.getD j ""∈NL:=by
   rw [a0A,a0m (show j < NL.length from hj)]
   exact a2h _
  refine ⟨NL.getD j "",hm,atN rfl ?_⟩
  have:uU=NL.map fun s=>T.str (q s):=rfl
  rw [this,a0v,a0m (show j < NL.length from hj),a0A,a0m (show j < NL.length from hj)]
  rfl
 obtain ⟨s,hs,a1⟩:=a1
 have e1':∀ m m',C (n+5) 171 [(m,.int (c / 5)),(m',.int 4)]=.ok ((mk,tk),[]):=e1
 have a2:∃ v,0<=v/\v<=1000000000000000000/\atI [T.int 0,.int 1,.int 1000000000000000000,.int 5,.int (c % (1000000000000000000+1))] (i:Int)=some (.int v):=by
  have h5:i=0\/i=1\/i=2\/i=3\/i=4:=by omega
  rcases h5 with rfl | rfl | rfl | rfl | rfl
  ·exact ⟨0,by decide,by decide,rfl⟩
  ·exact ⟨1,by decide,by decide,rfl⟩
  ·exact ⟨1000000000000000000,by decide,by decide,rfl⟩
  ·exact ⟨5,by decide,by decide,rfl⟩
  ·exact ⟨c % (1000000000000000000+1),a1N _ (by decide),by have:=a14 c (show (0:Int) < 1000000000000000000+1 by decide); omega,rfl⟩
 obtain ⟨v,v0,v1,a2⟩:=a2
 have p5:decide ((0:Int) < 5)=true:=rfl
 have p5':decide ((5:Int) < 1073741824)=true:=rfl
 have p10:decide ((0:Int) < 10)=true:=rfl
 have p18:decide ((0:Int) < 1000000000000000000+1)=true:=rfl
 have pw:(decide ((0:Int)<=18)&&decide ((18:Int)<=1000000)&&decide ((10:Int).natAbs < 18446744073709551616))=true:=rfl
 have pe:(10:Int) ^ (18:Int).toNat=1000000000000000000:=by decide +kernel
 have ej':c / 5 % 10=(j:Int):=ej
 have ei':c / 5 % 5=(i:Int):=ei
 have ek':c % 5=(k:Int):=ek
 have a3:∃ t,WT (d+1) t/\atI [T.tup [.str (q "num"),.int v],.tup [.str (q "yes")],.tup [.str (q "no")],.tup [.str (q "name"),.str (q s)],.tup [.str (q "none"),tk]] (k:Int)=some t:=by
  have h5:k=0\/k=1\/k=2\/k=3\/k=4:=by omega
  rcases h5 with rfl | rfl | rfl | rfl | rfl
  ·exact ⟨_,.num v0 v1,rfl⟩
  ·exact ⟨_,.node (s:="yes") (ps:=[]) (by decide) rfl (by intro p hp; cases hp),rfl⟩
  ·exact ⟨_,.node (s:="no") (ps:=[]) (by decide) rfl (by intro p hp; cases hp),rfl⟩
  ·exact ⟨_,.name hs,rfl⟩
  ·exact ⟨_,.none kk,rfl⟩
 obtain ⟨t,wt,a3⟩:=a3
 exact ⟨_,t,fun m=>by rw [fk,x_run _ _ _ rfl]; simp_all only [aV,p5,p5',p10,p18,qa,pw,pe,ej',ei',ek',a1,a2,a3,e1']; rfl,wt⟩
theorem xw (ns:List Int)(c:Int):eC (.d,.lst ((ns++[c]).map T.int)) []=some ((.d,.int c),(.d,.lst (ns.map T.int))):=by
 rw [a1d]
 simp [eC,Md.kid]
theorem nW (n:Nat)(ns:List Int)(w1 w3 w4 w5 w6 w7:Option W):∃ (c:Int) (ns':List Int),evS (C n) (.asg (.l []) 2 (.ifx (.op .gt false [.lenV 0,.cst (.int 0)]) (.pop 0 []) (.cst (.int 0)))) [some (.d,.lst (ns.map T.int)),w1,none,w3,w4,w5,w6,w7]=.nx [some (.d,.lst (ns'.map T.int)),w1,some (.d,.int c),w3,w4,w5,w6,w7]:=by
 rcases List.eq_nil_or_concat ns with rfl | ⟨ns0,c,rfl⟩
 ·have e:decide ((0:Int) < (([]:List Int).map T.int).length)=false:=rfl
  exact ⟨0,[],by simp_all only [a1J,a0Q,e]; rfl⟩
 ·have e:decide ((0:Int) < ((((ns0.concat c).map T.int).length:Nat):Int))=true:=decide_eq_true (by rw [a0b,a1O,a0c,a0s]; omega)
  have e2:=xw ns0 c
  rw [<- a1O] at e2
  refine ⟨c,ns0,?_⟩
  generalize hl:(ns0.concat c).map T.int=l at e e2
  simp_all only [e,e2]
theorem iq (C:Call):∀ (a b:List S) (η:Env),evSs C (a++b) η=(evSs C a η).seq (evSs C b)
 | [],b,η=>rfl
 | s::a,b,η=>by
  show (evS C s η).seq (evSs C (a++b))=((evS C s η).seq (evSs C a)).seq (evSs C b)
  cases evS C s η<;>first | rfl | exact iq C a b _
theorem go1 {C:Call}{a b:List S}{η η':Env}(h:evSs C a η=.nx η'):evSs C (a++b) η=evSs C b η':=by rw [iq,h]; rfl
noncomputable abbrev Bk (f:Fn)(i j:Nat):List S:=(f.body.drop i).take j
noncomputable abbrev g27:List String:=["not","first","second","one","upto","long","sum","sums","most","flat","add","sub","mul","div","rest","less","same","both","pair","pick","join","keep","cut","let","if","each","times"]
noncomputable def S27:List T:=[T.str (q "not"),T.str (q "first"),T.str (q "second"),T.str (q "one"),T.str (q "upto"),T.str (q "long"),T.str (q "sum"),T.str (q "sums"),T.str (q "most"),T.str (q "flat"),T.str (q "add"),T.str (q "sub"),T.str (q "mul"),T.str (q "div"),T.str (q "rest"),T.str (q "less"),T.str (q "same"),T.str (q "both"),T.str (q "pair"),T.str (q "pick"),T.str (q "join"),T.str (q "keep"),T.str (q "cut"),T.str (q "let"),T.str (q "if"),T.str (q "each"),T.str (q "times")]
theorem eS:[T.str (q "not"),T.str (q "first"),T.str (q "second"),T.str (q "one"),T.str (q "upto"),T.str (q "long"),T.str (q "sum"),T.str (q "sums"),T.str (q "most"),T.str (q "flat"),T.str (q "add"),T.str (q "sub"),T.str (q "mul"),T.str (q "div"),T.str (q "rest"),T.str (q "less"),T.str (q "same"),T.str (q "both"),T.str (q "pair"),T.str (q "pick"),T.str (q "join"),T.str (q "keep"),T.str (q "cut"),T.str (q "let"),T.str (q "if"),T.str (q "each"),T.str (q "times")]=S27:=rfl
theorem yj:∀ j < 27,(g27.getD j ""∈NF/\(b3.any fun t=>eqT t (.str (q (g27.getD j ""))))=false/\1+b2i (decide ((9:Int) < (j:Int)))+b2i ([T.str (q "if"),.str (q "times")].any fun t=>eqT t (.str (q (g27.getD j ""))))=(ar (g27.getD j ""):Int)) \/
  (g27.getD j ""∈BF/\(b3.any fun t=>eqT t (.str (q (g27.getD j ""))))=true/\1+b2i (decide ((9:Int) < (j:Int)))+b2i ([T.str (q "if"),.str (q "times")].any fun t=>eqT t (.str (q (g27.getD j ""))))=(arB (g27.getD j ""):Int)):=by decide +kernel
theorem xK (j:Nat)(hj:j < 27):atI S27 (j:Int)=some (.str (q (g27.getD j ""))):=by
 refine atN rfl ?_
 have:S27=g27.map fun s=>T.str (q s):=rfl
 rw [this,a0v,a0m (show j < g27.length from hj),a0A,a0m (show j < g27.length from hj)]
 rfl
noncomputable abbrev nb5:List T:=[.str (q "x"),.str (q "rowy"),.str (q "addx"),.str (q "b"),.str (q "numbs")]
theorem at5 (j:Nat)(hj:j < 5):atI nb5 (j:Int)=some (.str (q (NB.getD j ""))):=by
 refine atN rfl ?_
 have:nb5=NB.map fun s=>T.str (q s):=rfl
 rw [this,a0v,a0m (show j < NB.length from hj),a0A,a0m (show j < NB.length from hj)]
 rfl
theorem kR (n:Nat)(w0 w1:Option W)(c:Int)(j:Nat)(s:String)(mn:Int)(b:Bool)(ej:c / 5 % 27=(j:Int))(a1:atI S27 (j:Int)=some (.str (q s)))(hb:(b3.any fun t=>eqT t (.str (q s)))=b)(hm:1+b2i (decide ((9:Int) < (j:Int)))+b2i ([T.str (q "if"),.str (q "times")].any fun t=>eqT t (.str (q s)))=mn):evSs (C n) (Bk f_law_tree 2 5) [w0,w1,some (.d,.int c),none,none,none,none,none]=.nx [w0,w1,some (.d,.int c),some (.o .s,.lst S27),some (.d,.int j),some (.d,.int mn),some (.d,.tup [.str (q s)]),none]:=by
 have p5:decide ((0:Int) < 5)=true:=rfl
 have p5':decide ((5:Int) < 1073741824)=true:=rfl
 have p27:decide ((0:Int) < 27)=true:=rfl
 simp_all only [Bk,f_law_tree,a0O,a0H,a0F,a0V,a0h,a0Q,Nat.reduceAdd,f27,eS,p5,p5',p27,ej,a1,fl2,fl3,hb,hm]
theorem oe (n:Nat)(w0 w1 w5:Option W)(c:Int)(j:Nat)(s:String)(a1:atI S27 (j:Int)=some (.str (q s))):(b3.any fun t=>eqT t (.str (q s)))=true->∃ x∈NB,∃ m3 m6,evSs (C n) (Bk f_law_tree 7 1) [w0,w1,some (.d,.int c),some (.o .s,.lst S27),some (.d,.int j),w5,some (.d,.tup [.str (q s)]),none]=.nx [w0,w1,some (.d,.int c),some (m3,.lst S27),some (.d,.int j),w5,some (m6,.tup [.str (q s),.str (q x)]),none]:=fun hb=>by
 obtain ⟨k,hk,ek⟩:=mdj (c / 135) 5 (by decide)
 have ek':c / 135 % 5=(k:Int):=ek
 have a2:=at5 k hk
 have hm:NB.getD k ""∈NB:=by
  rw [a0A,a0m (show k < NB.length from hk)]
  exact a2h _
 have p5:decide ((0:Int) < 5)=true:=rfl
 have p135:decide ((0:Int) < 135)=true:=rfl
 have p135':decide ((135:Int) < 1073741824)=true:=rfl
 have f2:(fits (1+1)&&!([T.str (q s)]:List T).isEmpty)=true:=rfl
 generalize NB.getD k ""=x at a2 hm
 exact ⟨x,hm,_,_,by simp_all only [Bk,f_law_tree,a0O,a0H,a0F,a0V,a0h,a0Q,a2b,p5,p135,p135',ek',a1,a2,fl3,hb,f2]; rfl⟩
theorem sW (n:Nat)(w0 w1 w2 w5 w6:Option W)(j:Nat)(s:String)(a1:atI S27 (j:Int)=some (.str (q s))):(b3.any fun t=>eqT t (.str (q s)))=false->∃ m3,evSs (C n) (Bk f_law_tree 7 1) [w0,w1,w2,some (.o .s,.lst S27),some (.d,.int j),w5,w6,none]=.nx [w0,w1,w2,some (m3,.lst S27),some (.d,.int j),w5,w6,none]:=fun hb=>by
 exact ⟨_,by simp_all only [Bk,f_law_tree,a0O,a0H,a0F,a0V,a1,fl3,hb]; rfl⟩
noncomputable abbrev TB:List S:=[.asg (.l [6]) 6 (.op .add false [.var 6,.tup [.call 229 [.io 0,.op .sub false [.var 1,.cst (.int 1)]]]])]
noncomputable def Dr (L l:Nat):Prop:=∀ ns:List Int,∃ md t ns',C L 229 [(.d,.lst (ns.map T.int)),(.d,.int (l:Int))]=.ok ((md,t),[(.d,.lst ((ns':List Int).map T.int))])/\WT (l+1) t
theorem iI (L l:Nat)(ih:Dr L l)(w2 w3 w4 w5:Option W)(p0:List T)(h0:p0.isEmpty=false)(hp:p0.length<=2)(mn:Nat)(hn:mn<=3)(ns:List Int)(m6:Md):∃ ns' m7 rs o7,rs.length=mn/\(∀ p∈rs,WT (l+1) p) /\
  bA [7] (evSs (C L) TB) ((a0P mn).map fun (k:Nat)=>[((.d,.int k):W)]) [some (.d,.lst (ns.map T.int)),some (.d,.int ((l+1:Nat):Int)),w2,w3,w4,w5,some (m6,.tup p0),none]=.nx [some (.d,.lst ((ns':List Int).map T.int)),some (.d,.int ((l+1:Nat):Int)),w2,w3,w4,w5,some (m7,.tup (p0++rs)),o7]:=by
 obtain ⟨η',lp,ns',m7,rs,o7,hl,hw,rfl⟩:=b0 (tg:=[7]) (f:=evSs (C L) TB) (g:=fun (k:Nat)=>[((.d,.int k):W)])
  (fun pre η=>∃ (ns':List Int) (m7:Md) (rs:List T) (o7:Option W),rs.length=pre.length/\(∀ p∈rs,WT (l+1) p)/\η=[some (.d,.lst (ns'.map T.int)),some (.d,.int ((l+1:Nat):Int)),w2,w3,w4,w5,some (m7,.tup (p0++rs)),o7])
  (a0P mn) [] [some (.d,.lst (ns.map T.int)),some (.d,.int ((l+1:Nat):Int)),w2,w3,w4,w5,some (m6,.tup p0),none] ⟨ns,m6,[],none,rfl,(by intro p hp; cases hp),by rw [a0I]⟩ (fun p k r η hp' ⟨ns',m7,rs,o7,hl,hw,he⟩=>by
   subst he
   have hpl:=congrArg a2k hp'
   simp only [a0Z,a1x,a0c,a0h] at hpl
   obtain ⟨md,t,ns2,e2,wt⟩:=ih ns'
   have es:((l+1:Nat):Int)-1=(l:Int):=by omega
   have f3:(fits ((p0++rs).length+[t].length)&&!(p0++rs).isEmpty)=true:=by
    rw [a0g]
    refine ⟨decide_eq_true ?_,?_⟩
    ·rw [a0c,a0s]
     show _<=16777215
     omega
    ·cases p0 with
     | nil=>cases h0
     | cons=>rfl
   refine ⟨_,_,rfl,?_,ns2,.s,rs++[t],some (.d,.int (k:Int)),by rw [a0c,a0c,hl]; rfl,?_,rfl⟩
   ·have ea:p0++rs++[t]=p0++(rs++[t]):=a02 _ _ _
    simp_all only [es,e2,f3,ea]
   ·intro p hp
    rcases a0X.mp hp with hp | hp
    ·exact hw p hp
    ·rw [a0x.mp hp]; exact wt)
 rw [a0Z,a1x] at hl
 exact ⟨ns',m7,rs,o7,hl,hw,lp⟩
theorem t5 {mn:Nat}(h:mn<=3):(decide ((mn:Int).natAbs < 4611686018427387904)&&fits mn)=true/\(mn:Int).toNat=mn:=by
 have e:(mn:Int).toNat=mn:=by omega
 refine ⟨?_,e⟩
 rw [a0g]
 exact ⟨decide_eq_true (by omega),decide_eq_true (by show _<=16777215; omega)⟩
theorem ar3 (s:String):ar s<=3:=by
 unfold ar
 repeat' split
 all_goals omega
theorem uf (s:String):arB s<=3:=by
 unfold arB
 split<;>omega
theorem g9 (n:Nat)(w0 w1 w2 w3 w4 w6:Option W)(mn:Nat)(hn:mn<=3){ns':List Int}{w1' w2' w3' w4' w5' o7:Option W}{m7:Md}{ts:List T}(lp:bA [7] (evSs (C n) TB) ((a0P mn).map fun (k:Nat)=>[((.d,.int k):W)]) [w0,w1,w2,w3,w4,some (.d,.int mn),w6,none]=.nx [some (.d,.lst (ns'.map T.int)),w1',w2',w3',w4',w5',some (m7,.tup ts),o7]):∃ md η,evSs (C n) (f_law_tree.body.drop 8) [w0,w1,w2,w3,w4,some (.d,.int mn),w6,none]=.rt (md,.tup ts) (some (.d,.lst (ns'.map T.int))::η):=by
 obtain ⟨r1,r2⟩:=t5 hn
 exact ⟨_,_,by simp_all only [f_law_tree,a0O,a0H,r1,r2,lp]; rfl⟩
theorem vW (w:W)(w0:W)(η:Env):Fl.out [0] (.rt w (some w0::η))=.ok (w,[w0]):=rfl
theorem iw:∀ (l n:Nat),Dr (n+l+8) l
 | l,n,ns=>by
  obtain ⟨c,ns1,h1⟩:=nW (n+l+7) ns (some (.d,.int (l:Int))) none none none none none
  have p5:decide ((0:Int) < 5)=true:=rfl
  have p5':decide ((5:Int) < 1073741824)=true:=rfl
  have leafc:((((l:Int)==0)=true)\/((((l:Int)==0)=false)/\((c % 5==0)=true)))->∃ md t ns',C (n+l+8) 229 [(.d,.lst (ns.map T.int)),(.d,.int (l:Int))]=.ok ((md,t),[(.d,.lst ((ns':List Int).map T.int))])/\WT (l+1) t:=fun hb=>by
   obtain ⟨md,t,e,wt⟩:=oI (n+l+1) l (c / 5)
   rw [cy,x_run _ _ _ rfl]
   rcases hb with h2 | ⟨h2,h3⟩
   ·exact ⟨_,t,ns1,by simp_all only [f_law_tree,h1,h2,p5,p5',e]; rfl,wt⟩
   ·exact ⟨_,t,ns1,by simp_all only [f_law_tree,h1,h2,h3,p5,p5',e]; rfl,wt⟩
  cases l with
  | zero=>exact leafc (.inl rfl)
  | succ l =>
   have h2:(((l+1:Nat):Int)==0)=false:=beq_eq_false_iff_ne.mpr (by omega)
   cases h3:c % 5==0 with
   | true=>exact leafc (.inr ⟨h2,h3⟩)
   | false =>
    have ih:Dr (n+l+8) l:=fun ns=>iw l n ns
    obtain ⟨j,hj,ej⟩:=mdj (c / 5) 27 (by decide)
    have a1:=xK j hj
    have hs:=yj j hj
    generalize g27.getD j ""=s at a1 hs
    rw [show n+(l+1)+7=n+l+8 by omega] at h1
    have hA:evSs (C (n+l+8)) (Bk f_law_tree 0 2) [some (.d,.lst (ns.map T.int)),some (.d,.int ((l+1:Nat):Int)),none,none,none,none,none,none]=.nx [some (.d,.lst (ns1.map T.int)),some (.d,.int ((l+1:Nat):Int)),some (.d,.int c),none,none,none,none,none]:=by
     simp_all only [Bk,f_law_tree,a0O,a0H,a0F,a0V,h1,h2,h3,p5]
    rw [show n+(l+1)+8=(n+l+8)+1 by omega,cy,x_run _ _ _ rfl]
    rw [show f_law_tree.body=Bk f_law_tree 0 2++(Bk f_law_tree 2 5++(Bk f_law_tree 7 1++f_law_tree.body.drop 8)) from rfl]
    show ∃ md t ns',Fl.out [0] (evSs (C (n+l+8)) (Bk f_law_tree 0 2++(Bk f_law_tree 2 5++(Bk f_law_tree 7 1++f_law_tree.body.drop 8))) [some (.d,.lst (ns.map T.int)),some (.d,.int ((l+1:Nat):Int)),none,none,none,none,none,none])=.ok ((md,t),[(.d,.lst ((ns':List Int).map T.int))])/\WT (l+1+1) t
    rw [go1 hA]
    rcases hs with ⟨hs,hb,hm⟩ | ⟨hs,hb,hm⟩
    ·rw [go1 (kR (n+l+8) _ _ c j s (ar s:Int) false ej a1 hb hm)]
     obtain ⟨m3,hB⟩:=sW (n+l+8) (some (.d,.lst (ns1.map T.int))) (some (.d,.int ((l+1:Nat):Int))) (some (.d,.int c)) (some (.d,.int (ar s:Int))) (some (.d,.tup [.str (q s)])) j s a1 hb
     rw [go1 hB]
     obtain ⟨ns',m7,rs,o7,hl,hw,lp⟩:=iI (n+l+8) l ih (some (.d,.int c)) (some (m3,.lst S27)) (some (.d,.int j)) (some (.d,.int (ar s:Int))) [.str (q s)] rfl (by show 1<=2; omega) (ar s) (ar3 s) ns1 .d
     obtain ⟨md,η,e⟩:=g9 (n+l+8) _ _ _ _ _ _ (ar s) (ar3 s) lp
     rw [e,vW]
     exact ⟨md,_,ns',rfl,.node hs hl hw⟩
    ·rw [go1 (kR (n+l+8) _ _ c j s (arB s:Int) true ej a1 hb hm)]
     obtain ⟨x,hx,m3,m6,hB⟩:=oe (n+l+8) (some (.d,.lst (ns1.map T.int))) (some (.d,.int ((l+1:Nat):Int))) (some (.d,.int (arB s:Int))) c j s a1 hb
     rw [go1 hB]
     obtain ⟨ns',m7,rs,o7,hl,hw,lp⟩:=iI (n+l+8) l ih (some (.d,.int c)) (some (m3,.lst S27)) (some (.d,.int j)) (some (.d,.int (arB s:Int))) [.str (q s),.str (q x)] rfl (by show 2<=2; omega) (arB s) (uf s) ns1 m6
     obtain ⟨md,η,e⟩:=g9 (n+l+8) _ _ _ _ _ _ (arB s) (uf s) lp
     rw [e,vW]
     exact ⟨md,_,ns',rfl,.bind hs hx hl hw⟩
noncomputable abbrev NA:List String:=NL++NB
inductive WF:Nat->T->Prop
 | leaf {d:Nat} {s:String} {x:T}:s∈["num","none"]->WF (d+1) (.tup [.str (q s),x])
 | name {d:Nat} {s:String}:s∈NA->WF (d+1) (.tup [.str (q "name"),.str (q s)])
 | node {d:Nat} {s:String} {ps:List T}:s∈NF->ps.length<=3->(∀ p∈ps,WF d p)->WF (d+1) (.tup (.str (q s)::ps))
 | bind {d:Nat} {s x:String} {ps:List T}:s∈BF->x∈NA->ps.length=arB s->(∀ p∈ps,WF d p)->WF (d+1) (.tup (.str (q s)::.str (q x)::ps))
theorem WT.wf:∀ {d:Nat} {t:T},WT d t->WF d t
 | 0,_,h=>nomatch h
 | d+1,_,h=>by
  cases h with
  | num h0 h1=>exact .leaf (by decide)
  | name hs=>exact .name (a1k _ hs)
  | none hk=>exact .leaf (by decide)
  | node hs hl hp=>exact .node hs (by rw [hl]; exact ar3 _) fun p h=>WT.wf (hp p h)
  | bind hs hx hl hp=>exact .bind hs (a0r _ hx) hl fun p h=>WT.wf (hp p h)
theorem WF.up:∀ {d d':Nat} {t:T},WF d t->d<=d'->WF d' t
 | 0,_,_,h,_=>nomatch h
 | d+1,0,_,_,e=>absurd e (by omega)
 | d+1,d'+1,_,h,e=>by
  cases h with
  | leaf hs=>exact .leaf hs
  | name hs=>exact .name hs
  | node hs hl hp=>exact .node hs hl fun p h=>WF.up (hp p h) (by omega)
  | bind hs hx hl hp=>exact .bind hs hx hl fun p h=>WF.up (hp p h) (by omega)
noncomputable def dy (ks:List Str)(x:Str):List Str:=if ks.contains x then ks else ks++[x]
noncomputable def ag (ks l:List Str):List Str:=l.foldl dy ks
theorem gu (ks a b:List Str):ag ks (a++b)=ag (ag ks a) b:=List.foldl_append
noncomputable abbrev nA:List Str:=NA.map q
noncomputable def bC (ks:List Str):Prop:=ks.Nodup/\∀ k∈ks,k∈nA
theorem iD {ks:List Str}{x:Str}(h:bC ks)(hx:x∈nA):bC (dy ks x):=by
 unfold dy
 split
 ·exact h
 ·rename_i hc
  refine ⟨List.nodup_append.mpr ⟨h.1,by simp,fun a ha b hb=>?_⟩,fun k hk=>?_⟩
  ·rw [a0x.mp hb]
   rintro rfl
   exact hc (by simpa using ha)
  ·rcases a0X.mp hk with hk | hk
   ·exact h.2 k hk
   ·rw [a0x.mp hk]; exact hx
theorem bH:∀ {l ks:List Str},bC ks->(∀ x∈l,x∈nA)->bC (ag ks l)
 | [],_,h,_=>h
 | x::l,ks,h,hl=>bH (l:=l) (iD h (hl x a0d)) fun y hy=>hl y (a0f _ hy)
theorem jL:∀ (ks l:List Str),ks.Nodup->(∀ k∈ks,k∈l)->ks.length<=l.length
 | [],l,_,_=>a0N _
 | k::ks,l,nd,h=>by
  obtain ⟨n1,n2⟩:=a0D.mp nd
  have hk:=h k a0d
  have ih:=jL ks (l.erase k) n2 fun x hx=>(List.mem_erase_of_ne (fun (e:x=k)=>n1 (e ▸ hx))).mpr (h x (a0f _ hx))
  rw [List.length_erase_of_mem hk] at ih
  have:0 < l.length:=List.length_pos_of_mem hk
  rw [a0h]
  omega
theorem cY {ks:List Str}(h:bC ks):ks.length<=15:=jL ks nA h.1 h.2
noncomputable abbrev tr (ks:List Str):List T:=ks.map fun _=>T.bl true
theorem kh:∀ (ks:List Str) (x:Str),aK x (.bl true) ks (tr ks)=(dy ks x,tr (dy ks x))
 | [],x=>rfl
 | y::ks,x=>by
  have ih:=kh ks x
  show (if y=x then (y::ks,T.bl true::tr ks) else (y::(aK x (.bl true) ks (tr ks)).1,T.bl true::(aK x (.bl true) ks (tr ks)).2))=_
  rw [ih]
  unfold dy
  by_cases h:y=x
  ·rw [if_pos h,if_pos (by simp [h])]; rfl
  ·rw [if_neg h]
   have hc:(y::ks).contains x=ks.contains x:=by
    rw [a1q,beq_eq_false_iff_ne.mpr (a1r h),a11]
   rw [hc]
   split<;>rfl
theorem nH {ks:List Str}(h:bC ks)(x:Str)(l n:Md):cb (.d,.dct ks (tr ks)) (l,.str x) (n,.bl true)=some (.d,.dct (dy ks x) (tr (dy ks x))):=by
 show (if (decide (ks.length < LIM)&&flatT (.bl true))=true then some ((.d,.dct (aK x (.bl true) ks (tr ks)).1 (aK x (.bl true) ks (tr ks)).2):W) else none)=_
 have:=cY h
 rw [decide_eq_true (show ks.length < LIM by show _ < 16777215; omega),kh]
 rfl
noncomputable abbrev ae (bd:List Str):List T:=bd.map T.str
theorem lO (x:Str)(bd:List Str):(M.flatT (.str x)&&(ae bd).all M.flatT)=true:=by
 rw [a0g]
 refine ⟨rfl,?_⟩
 rw [a2g]
 intro t ht
 obtain ⟨y,_,rfl⟩:=a2c.mp ht
 rfl
theorem eM (x:Str):∀ bd:List Str,((ae bd).any fun t=>eqT t (.str x))=bd.contains x
 | []=>rfl
 | y::bd=>by
  show (eqT (.str y) (.str x) || (ae bd).any fun t=>eqT t (.str x))=_
  rw [eM x bd,a1q]
  show ((y==x) || _)=_
  by_cases h:y=x
  ·subst h; simp
  ·rw [beq_eq_false_iff_ne.mpr h,beq_eq_false_iff_ne.mpr (a1r h)]
noncomputable def aQ (G:Nat->T->List Str):Nat->List T->List Str
 | _,[]=>[]
 | i,p::ps=>G i p++aQ G (i+1) ps
theorem c8 {G:Nat->T->List Str}{B:Nat}:∀ (ps:List T) (i:Nat),(∀ j,∀ p∈ps,(G j p).length<=B)->(aQ G i ps).length<=ps.length * B
 | [],_,_=>a0N _
 | p::ps,i,h=>by
  have:=c8 ps (i+1) fun j q hq=>h j q (a0f _ hq)
  have h1:=h i p a0d
  show (G i p++aQ G (i+1) ps).length<=_
  rw [a0c,a0h,a2G]
  omega
theorem cV {G:Nat->T->List Str}{P:Str->Prop}:∀ (ps:List T) (i:Nat),(∀ j,∀ p∈ps,∀ x∈G j p,P x)->∀ x∈aQ G i ps,P x
 | [],_,_,x,h=>nomatch h
 | p::ps,i,h,x,hx=>by
  rcases a0X.mp (show x∈G i p++aQ G (i+1) ps from hx) with hx | hx
  ·exact h i p a0d x hx
  ·exact cV ps (i+1) (fun j q hq=>h j q (a0f _ hq)) x hx
structure jy (d:Nat)(t:T)(F:List Str->List Str):Prop where
 len:∀ bd,(F bd).length<=3 ^ d
 mem:∀ bd,∀ x∈F bd,x∈nA
 law:∀ n bd,bd.length+d<=1000->∃ md,∀ m m',C (n+d+3) 236 [(m,t),(m',.lst (ae bd))]=.ok ((md,.lst (ae (F bd))),[])
 add:∀ n bd,bd.length+d<=1000->∀ ks,bC ks->∀ m m',C (n+d+3) 235 [(m,t),(m',.tup (ae bd)),(.d,.dct ks (tr ks))]=.ok ((.d,.non),[(.d,.dct (ag ks (F bd)) (tr (ag ks (F bd))))])
theorem tbN:∀ s∈NF,tab_BINDING.lookup (q s)=none:=fun s hs=>by
 have:∀ s∈NF,(tab_BINDING.lookup (q s)).isSome=false:=by decide +kernel
 cases h:tab_BINDING.lookup (q s) with
 | none=>rfl
 | some t=>have:=this s hs; rw [h] at this; cases this
theorem tbL:∀ s∈LF,tab_BINDING.lookup (q s)=none:=fun s hs=>by
 have:∀ s∈LF,(tab_BINDING.lookup (q s)).isSome=false:=by decide +kernel
 cases h:tab_BINDING.lookup (q s) with
 | none=>rfl
 | some t=>have:=this s hs; rw [h] at this; cases this
noncomputable def wh (s:String):Nat:=if s="times" then 2 else 1
noncomputable def iOf:Option T->Option Int
 | some (.int i)=>some i
 | _=>none
theorem ro {o:Option T}{i:Int}(h:iOf o=some i):o=some (.int i):=by
 unfold iOf at h
 split at h
 ·cases h; rfl
 ·cases h
theorem tbB:∀ s∈BF,tab_BINDING.lookup (q s)=some (.int (wh s:Int)):=fun s hs=>by
 have:∀ s∈BF,iOf (tab_BINDING.lookup (q s))=some (wh s:Int):=by decide +kernel
 exact ro (this s hs)
theorem bS (n:Nat)(s:Str)(r:List T)(m:Md):C (n+1) 233 [(m,.tup (.str s::r))]=.ok ((.s,(tab_BINDING.lookup s).getD .non),[]):=by
 rw [gW,x_run _ _ _ rfl]
 simp_all only [bh]
theorem ahN:∀ s∈NF,keys_AHEAD.contains (q s)=false:=by decide +kernel
theorem ahB:∀ s∈BF,keys_AHEAD.contains (q s)=true:=by decide +kernel
theorem ahL:∀ s∈LF,keys_AHEAD.contains (q s)=true:=by decide +kernel
theorem qg (n:Nat)(s:String)(hs:s∈NF)(ps:List T)(m:Md):C (n+2) 176 [(m,.tup (.str (q s)::ps))]=.ok ((.s,.tup ps),[]):=by
 have p:=fun m=>lq n (q s) m
 rw [ahN s hs,if_neg a0j] at p
 have c:=vB (T.str (q s)) ps
 rw [fA,x_run _ _ _ rfl]
 simp_all only [bK,p,eh,c]
theorem gr (n:Nat)(s:String)(hs:keys_AHEAD.contains (q s)=true)(x:T)(ps:List T)(m:Md):C (n+2) 176 [(m,.tup (.str (q s)::x::ps))]=.ok ((.s,.tup ps),[]):=by
 have p:=fun m=>lq n (q s) m
 rw [hs,if_pos rfl] at p
 have c:=xI (T.str (q s)) x ps
 rw [fA,x_run _ _ _ rfl]
 simp_all only [bK,p,eh,c]
noncomputable abbrev AB:List S:=[
   .exp (.l [0,1,3,5]) (.call 235 [.var 5,.ifx (.op .eq false [.var 4,.var 3]) (.op .catT false [.var 1,.tup [.op .ix false [.var 0,.cst (.int 1)]]]) (.var 1),.io 2])]
noncomputable def Gw (F:T->List Str->List Str)(w:Option Nat)(x:Str)(bd:List Str)(i:Nat)(p:T):List Str:=F p (if w=some i then bd++[x] else bd)
theorem rN (bd:List Str)(x:Str)(hb:bd.length<=1000)(m n:Md):oSem .catT false [(m,.tup (ae bd)),(n,.tup [.str x])]=some (.s,.tup (ae (bd++[x]))):=by
 show (if fits ((ae bd).length+[T.str x].length)=true then some ((.s,.tup (ae bd++[.str x])):W) else none)=_
 have hf:fits ((ae bd).length+[T.str x].length)=true:=decide_eq_true (by rw [a0b,a0s]; show _<=16777215; omega)
 rw [if_pos hf,ae,ae,a1d]
 rfl
noncomputable def whT:Option Nat->T
 | some j=>.int (j:Int)
 | none=>.non
theorem jN:whT none=.non:=rfl
theorem kl (j:Nat):whT (some j)=.int (j:Int):=rfl
theorem vS (w:Option Nat)(m:Md):lf m (whT w)=.d:=by cases w<;>rfl
theorem pJ {l:Nat}{t:List T}{F:T->List Str->List Str}{w:Option Nat}{x:Str}{bd:List Str}{L:Nat}(hL:L<=1000)(hb:bd.length+1<=L)(hx:w=none\/∃ y,t=y::.str x::t.drop 2):∀ (ps:List T) (i:Nat) (ks:List Str) (m0 m1 m3:Md) (o4 o5:Option W),
  (∀ p∈ps,∀ bd,bd.length<=L->∀ ks,bC ks->∀ m m',C l 235 [(m,p),(m',.tup (ae bd)),(.d,.dct ks (tr ks))]=.ok ((.d,.non),[(.d,.dct (ag ks (F p bd)) (tr (ag ks (F p bd))))]))->(∀ p∈ps,∀ bd,∀ x∈F p bd,x∈nA)->bC ks ->
  ∃ m0' m1' m3' o4' o5',bA [4,5] (evSs (C l) AB) (bg .s i ps) [some (m0,.tup t),some (m1,.tup (ae bd)),some (.d,.dct ks (tr ks)),some (m3,whT w),o4,o5]=.nx [some (m0',.tup t),some (m1',.tup (ae bd)),some (.d,.dct (ag ks (aQ (Gw F w x bd) i ps)) (tr (ag ks (aQ (Gw F w x bd) i ps)))),some (m3',whT w),o4',o5']
 | [],i,ks,m0,m1,m3,o4,o5,_,_,_=>⟨m0,m1,m3,o4,o5,rfl⟩
 | p::ps,i,ks,m0,m1,m3,o4,o5,h,hm,hk=>by
  have step:∃ m0' m1' m3' o4' o5',evSs (C l) AB [some (m0,.tup t),some (m1,.tup (ae bd)),some (.d,.dct ks (tr ks)),some (m3,whT w),some (.d,.int (i:Int)),some (.s,p)]=.nx [some (m0',.tup t),some (m1',.tup (ae bd)),some (.d,.dct (ag ks (Gw F w x bd i p)) (tr (ag ks (Gw F w x bd i p)))),some (m3',whT w),o4',o5']:=by
   cases w with
   | none =>
    have e:=fun m m'=>h p a0d bd (by omega) ks hk m m'
    have en:∀ m n,oSem .eq false [(m,.int (i:Int)),(n,.non)]=some (.d,.bl false):=fun _ _=>rfl
    have eg:Gw F none x bd i p=F p bd:=by unfold Gw; rw [if_neg (by simp)]
    rw [eg]
    exact ⟨_,_,_,_,_,by simp_all only [jN,kl,en,e]; rfl⟩
   | some j =>
    obtain ⟨y,hy⟩:=hx.resolve_left (by simp)
    have a1:atI t 1=some (.str x):=by rw [hy]; exact at1 y (.str x) _
    by_cases hij:j=i
    ·subst hij
     have e:=fun m m'=>h p a0d (bd++[x]) (by rw [a0c,a0s]; omega) ks hk m m'
     have en:((j:Int)==(j:Int))=true:=by simp
     have cc:=fun m n=>rN bd x (by omega) m n
     have eg:Gw F (some j) x bd j p=F p (bd++[x]):=by unfold Gw; rw [if_pos rfl]
     rw [eg]
     exact ⟨_,_,_,_,_,by simp_all only [jN,kl,en,a1,cc,e]; rfl⟩
    ·have e:=fun m m'=>h p a0d bd (by omega) ks hk m m'
     have en:((i:Int)==(j:Int))=false:=beq_eq_false_iff_ne.mpr (by omega)
     have eg:Gw F (some j) x bd i p=F p bd:=by unfold Gw; rw [if_neg (by simp; omega)]
     rw [eg]
     exact ⟨_,_,_,_,_,by simp_all only [jN,kl,en,e]; rfl⟩
  obtain ⟨m0',m1',m3',o4',o5',step⟩:=step
  have hk':bC (ag ks (Gw F w x bd i p)):=bH hk fun z hz=>hm p a0d _ z hz
  obtain ⟨n0,n1,n3,p4,p5,ih⟩:=pJ hL hb hx ps (i+1) (ag ks (Gw F w x bd i p)) m0' m1' m3' o4' o5' (fun q hq=>h q (a0f _ hq)) (fun q hq=>hm q (a0f _ hq)) hk'
  refine ⟨n0,n1,n3,p4,p5,?_⟩
  rw [show aQ (Gw F w x bd) i (p::ps)=Gw F w x bd i p++aQ (Gw F w x bd) (i+1) ps from rfl,gu]
  exact (congrArg (Fl.turn · _) step).trans ih
theorem eN:∀ s∈NF,(q s==q "name")=false/\([T.str (q "num"),.str (q "none")].any fun t=>eqT t (.str (q s)))=false/\(q s==q "let")=false/\(q s==q "each")=false/\(q s==q "times")=false:=by decide +kernel
theorem eL:∀ s∈["num","none"],(q s==q "name")=false/\([T.str (q "num"),.str (q "none")].any fun t=>eqT t (.str (q s)))=true:=by decide +kernel
theorem eB:∀ s∈BF,(q s==q "name")=false/\([T.str (q "num"),.str (q "none")].any fun t=>eqT t (.str (q s)))=false:=by decide +kernel
theorem vC (d:Nat):1<=3 ^ d:=Nat.one_le_pow _ _ (by decide)
theorem t8 {d:Nat}(h:d<=10):3 ^ d<=59049:=Nat.pow_le_pow_right (by decide) h
theorem lW {n d:Nat}{s:String}{r ps:List T}{F:T->List Str->List Str}{w:Option Nat}{x:Str}{bd:List Str}(hb:bd.length+(d+1)<=1000)(hn:(q s==q "name")=false)(hw:(tab_BINDING.lookup (q s)).getD .non=whT w)(hx:w=none\/∃ y,T.str (q s)::r=y::.str x::(T.str (q s)::r).drop 2)
  (hp:∀ m,C (n+d+3) 176 [(m,.tup (.str (q s)::r))]=.ok ((.s,.tup ps),[])) (h:∀ p∈ps,jy d p (F p)) {ks:List Str} (hk:bC ks) (m m':Md) :
  C (n+(d+1)+3) 235 [(m,.tup (.str (q s)::r)),(m',.tup (ae bd)),(.d,.dct ks (tr ks))]=.ok ((.d,.non),[(.d,.dct (ag ks (aQ (Gw F w x bd) 0 ps)) (tr (ag ks (aQ (Gw F w x bd) 0 ps))))]):=by
 have hbn:=fun m=>bS (n+d+2) (q s) r m
 rw [hw] at hbn
 rw [show n+d+2+1=n+d+3 from rfl] at hbn
 have lp':∀ m1,∃ a0 a1 a3 a4 a5,bA [4,5] (evSs (C (n+d+3)) AB) (bg .s 0 ps) [some (.s,.tup (.str (q s)::r)),some (m1,.tup (ae bd)),some (.d,.dct ks (tr ks)),some (.d,whT w),none,none]=.nx [some (a0,.tup (.str (q s)::r)),some (a1,.tup (ae bd)),some (.d,.dct (ag ks (aQ (Gw F w x bd) 0 ps)) (tr (ag ks (aQ (Gw F w x bd) 0 ps)))),some (a3,whT w),a4,a5]:=fun m1=>pJ (l:=n+d+3) (t:=.str (q s)::r) (F:=F) (w:=w) (x:=x) (L:=1000-d) (by omega) (by omega) hx ps 0 ks .s m1 .d none none (fun p hp bd hbd ks hk m m'=>(h p hp).add n bd (by omega) ks hk m m') (fun p hp bd=>(h p hp).mem bd) hk
 obtain ⟨a0,a1,a3,a4,a5,lp2⟩:=lp' m'
 rw [show n+(d+1)+3=(n+d+3)+1 by omega,bz,x_run _ _ _ rfl]
 simp_all only [aF,hn,hbn,hp,vS,lp2]
theorem pF (m:Md):m.up=.d\/∃ k,m.up=.o k:=by
 cases m with
 | s=>exact .inr ⟨_,rfl⟩
 | d=>exact .inl rfl
 | o k=>exact .inr ⟨_,rfl⟩
noncomputable abbrev LB:List S:=[.ext (.q [1,3] []) 2 (.call 236 [.var 3,.var 1])]
theorem qc {l:Nat}{t:T}{F:T->List Str->List Str}{bd:List Str}{B:Nat}:∀ (ps:List T) (i:Nat) (acc:List Str) (m2:Md),
  (∀ p∈ps,∃ md,∀ m m',C l 236 [(m,p),(m',.lst (ae bd))]=.ok ((md,.lst (ae (F p bd))),[]))->(∀ p∈ps,(F p bd).length<=B)->acc.length+ps.length * B<=1000000->(m2=.d\/∃ k,m2=.o k) ->
  ∃ m2',(m2'=.d\/∃ k,m2'=.o k)/\∀ (m1:Md) (o3:Option W),∃ m1' o3',bA [3] (evSs (C l) LB) (ps.map fun p=>[((.s,p):W)]) [some (.s,t),some (m1,.lst (ae bd)),some (m2,.lst (ae acc)),o3]=.nx [some (.s,t),some (m1',.lst (ae bd)),some (m2',.lst (ae (acc++aQ (Gw F none (q "") bd) i ps))),o3']
 | [],i,acc,m2,_,_,_,h2=>⟨m2,h2,fun m1 o3=>⟨m1,o3,by rw [aQ,a0I]; rfl⟩⟩
 | p::ps,i,acc,m2,h,hB,hl,h2=>by
  obtain ⟨md,e⟩:=h p a0d
  have hb:=hB p a0d
  rw [a0h,a2G] at hl
  have hx:∃ k:Md->Md,∀ n,dk (m2,.lst (ae acc)) (n,.lst (ae (F p bd)))=some ((k n).up,.lst (ae (acc++F p bd))):=by
   have hlen:(ae acc).length+(ae (F p bd)).length<=LIM:=by rw [a0b,a0b]; show _<=16777215; omega
   have ha:ae acc++ae (F p bd)=ae (acc++F p bd):=by rw [ae,ae,ae,a1d]
   rcases h2 with rfl | ⟨k,rfl⟩
   ·refine ⟨fun n=>Md.d.kid.meet n.kid,fun n=>?_⟩
    show (if (ae acc).length+(ae (F p bd)).length<=LIM then some (((Md.d.kid.meet n.kid).up,.lst (ae acc++ae (F p bd))):W) else none)=_
    rw [if_pos hlen,ha]
   ·refine ⟨fun n=>(Md.o k).kid.meet n.kid,fun n=>?_⟩
    show (if (ae acc).length+(ae (F p bd)).length<=LIM then some ((((Md.o k).kid.meet n.kid).up,.lst (ae acc++ae (F p bd))):W) else none)=_
    rw [if_pos hlen,ha]
  obtain ⟨k,hx⟩:=hx
  have step:∀ m1,∃ m1' o3',evSs (C l) LB [some (.s,t),some (m1,.lst (ae bd)),some (m2,.lst (ae acc)),some (.s,p)]=.nx [some (.s,t),some (m1',.lst (ae bd)),some ((k md).up,.lst (ae (acc++F p bd))),o3']:=fun m1=>by
   have hz:evSs (C l) LB [some (.s,t),some (m1,.lst (ae bd)),some (m2,.lst (ae acc)),some (.s,p)]=.nx (put (after md [1,3] [some (.s,t),some (m1,.lst (ae bd)),some (m2,.lst (ae acc)),some (.s,p)]) 2 ((k md).up,.lst (ae (acc++F p bd)))):=by
    cases md with
    | s=>simp_all only [e,hx]
    | d=>simp_all only [e,hx]
    | o y=>simp_all only [e,hx]
   rw [hz]
   cases md with
   | s=>exact ⟨_,_,rfl⟩
   | d=>exact ⟨_,_,rfl⟩
   | o z=>exact ⟨_,_,rfl⟩
  obtain ⟨n2,h3,ih⟩:=qc (l:=l) (t:=t) (F:=F) (bd:=bd) (B:=B) ps (i+1) (acc++F p bd) (k md).up (fun q hq=>h q (a0f _ hq)) (fun q hq=>hB q (a0f _ hq)) (by rw [a0c]; omega) (pF _)
  refine ⟨n2,h3,fun m1 o3=>?_⟩
  obtain ⟨m1',o3',step⟩:=step m1
  obtain ⟨n1,n3,ih⟩:=ih m1' o3'
  refine ⟨n1,n3,?_⟩
  have eg:aQ (Gw F none (q "") bd) i (p::ps)=F p bd++aQ (Gw F none (q "") bd) (i+1) ps:=by
   show Gw F none (q "") bd i p++_=_
   unfold Gw
   rw [if_neg (by simp)]
  rw [eg,<- a02]
  exact (congrArg (Fl.turn · _) step).trans ih
open Classical in
theorem pX {d:Nat}{ps:List T}(h:∀ p∈ps,∃ F,jy d p F):∃ F:T->List Str->List Str,∀ p∈ps,jy d p (F p):=by
 refine ⟨fun p=>if hp:∃ F,jy d p F then Classical.choose hp else fun _=>[],fun p hp=>?_⟩
 have:=h p hp
 simp only [dif_pos this]
 exact Classical.choose_spec this
theorem cJ (a b:List Str)(hl:a.length+b.length<=1000000)(m n:Md):oSem .add false [(m,.lst (ae a)),(n,.lst (ae b))]=some ((m.kid.meet n.kid).up,.lst (ae (a++b))):=by
 show (if fits ((ae a).length+(ae b).length)=true then newL false (m.kid.meet n.kid) (ae a++ae b) else none)=_
 have hf:fits ((ae a).length+(ae b).length)=true:=decide_eq_true (by rw [a0b,a0b]; show _<=16777215; omega)
 rw [if_pos hf,ae,ae,ae,a1d]
 rfl
theorem pb (a:List Str)(x:Str)(hl:a.length<=1000)(m n:Md):oSem .add false [(m,.lst (ae a)),(n,.lst [.str x])]=some ((m.kid.meet n.kid).up,.lst (ae (a++[x]))):=cJ a [x] (by rw [a0s]; omega) m n
theorem ll2:∀ {l:List T},l.length=2->∃ a b,l=[a,b]
 | [a,b],_=>⟨a,b,rfl⟩
theorem ll3:∀ {l:List T},l.length=3->∃ a b c,l=[a,b,c]
 | [a,b,c],_=>⟨a,b,c,rfl⟩
theorem k5:∀ (d:Nat) (t:T),d<=10->WF d t->∃ F,jy d t F
 | 0,_,_,h=>nomatch h
 | d+1,t,hd,h=>by
  have hp3:(3:Nat) ^ (d+1)=3 ^ d * 3:=a2F ..
  have hpl:=t8 (show d<=10 by omega)
  have hp1:=vC d
  cases h with
  | leaf hs =>
   rename_i s x
   obtain ⟨e1,e2⟩:=eL s hs
   have hsL:s∈LF:=by
    simp only [a0k,a0K,or_false] at hs
    rcases hs with rfl | rfl<;>decide
   refine ⟨fun _=>[],fun _=>a0N _,(by intro _ _ h; cases h),fun n bd hb=>⟨.o .s,fun m m'=>?_⟩,fun n bd hb ks hk m m'=>?_⟩
   ·rw [show n+(d+1)+3=(n+d+3)+1 by omega,az,x_run _ _ _ rfl]
    simp_all only [ak,e1,e2,fl2]
   ·have hp:=fun m=>gr (n+d+1) s (ahL s hsL) x [] m
    have hbn:=fun m=>bS (n+d+2) (q s) [x] m
    rw [tbL s hsL] at hbn
    rw [show n+(d+1)+3=(n+d+3)+1 by omega,bz,x_run _ _ _ rfl]
    simp_all only [aF,e1,hbn,hp,a05,bg,bA,ag,a1V]
  | name hs =>
   rename_i s
   have e1:(q "name"==q "name")=true:=by decide +kernel
   have hsn:q s∈nA:=a1W hs
   refine ⟨fun bd=>if bd.contains (q s) then [] else [q s],fun bd=>?_,fun bd x hx=>?_,fun n bd hb=>?_,fun n bd hb ks hk m m'=>?_⟩
   ·show (if bd.contains (q s) then [] else [q s]).length<=_
    split
    ·exact a0N _
    ·exact vC _
   ·split at hx
    ·cases hx
    ·rw [a0x.mp hx]; exact hsn
   ·have ab:=eM (q s) bd
    have fb:=lO (q s) bd
    have a1:atI [T.str (q "name"),.str (q s)] 1=some (.str (q s)):=rfl
    cases hc:bd.contains (q s) with
    | true =>
     rw [hc] at ab
     refine ⟨.o .s,fun m m'=>?_⟩
     rw [show n+(d+1)+3=(n+d+3)+1 by omega,az,x_run _ _ _ rfl]
     simp_all only [ak,e1,a1,fb,ab,hc]
    | false =>
     rw [hc] at ab
     refine ⟨.o .s,fun m m'=>?_⟩
     rw [show n+(d+1)+3=(n+d+3)+1 by omega,az,x_run _ _ _ rfl]
     simp_all only [ak,e1,a1,fb,ab,hc]
   ·have ab:=eM (q s) bd
    have fb:=lO (q s) bd
    have a1:atI [T.str (q "name"),.str (q s)] 1=some (.str (q s)):=rfl
    have hp:=fun m=>gr (n+d+1) "name" (by decide +kernel) (.str (q s)) [] m
    have hbn:=fun m=>bS (n+d+2) (q "name") [.str (q s)] m
    rw [tbL "name" (by decide)] at hbn
    have sk:=fun l n=>nH hk (q s) l n
    rw [show n+(d+1)+3=(n+d+3)+1 by omega,bz,x_run _ _ _ rfl]
    cases hc:bd.contains (q s) with
    | true =>
     rw [hc] at ab
     simp_all only [aF,e1,a1,fb,ab,hc,hbn,hp,a05,bg,bA,ag,a1V]
    | false =>
     rw [hc] at ab
     simp_all only [aF,e1,a1,fb,ab,hc,sk,hbn,hp,a05,bg,bA,ag,a1V,List.foldl_cons,Option.map_some,nxO]
  | node hs hl hp =>
   rename_i s ps
   obtain ⟨F,hF⟩:=pX fun p h=>k5 d p (by omega) (hp p h)
   obtain ⟨e1,e2,e3,e4,e5⟩:=eN s hs
   refine ⟨fun bd=>aQ (Gw F none (q "") bd) 0 ps,fun bd=>?_,fun bd=>cV ps 0 fun j p hp x hx=>(hF p hp).mem _ x hx,fun n bd hb=>?_,fun n bd hb ks hk m m'=>?_⟩
   ·have:=c8 (G:=Gw F none (q "") bd) (B:=3 ^ d) ps 0 fun j p hp=>(hF p hp).len _
    have h2:=a1l (3 ^ d) hl
    show (aQ (Gw F none (q "") bd) 0 ps).length<=_
    omega
   ·have h2:=a1l (3 ^ d) hl
    obtain ⟨n2,h3,lp⟩:=qc (l:=n+d+3) (t:=.tup (.str (q s)::ps)) (F:=F) (bd:=bd) (B:=3 ^ d) ps 0 [] (.o .s) (fun p hp=>(hF p hp).law n bd (by omega)) (fun p hp=>(hF p hp).len bd) (by rw [a0Q]; omega) (.inr ⟨_,rfl⟩)
    refine ⟨n2,fun m m'=>?_⟩
    obtain ⟨n1,n3,lp⟩:=lp m' none
    rw [a0Z,show ae ([]:List Str)=[] from rfl] at lp
    have c:=vB (T.str (q s)) ps
    rw [show n+(d+1)+3=(n+d+3)+1 by omega,az,x_run _ _ _ rfl]
    rcases h3 with rfl | ⟨k,rfl⟩
    ·simp_all only [ak,e1,e2,e3,e4,e5,fl2,eh,c,lp]
    ·simp_all only [ak,e1,e2,e3,e4,e5,fl2,eh,c,lp]
   ·exact lW (w:=none) (x:=q "") hb e1 (by rw [tbN s hs]; rfl) (.inl rfl) (fun m=>qg (n+d+1) s hs ps m) hF hk m m'
  | bind hs hx hl hp =>
   rename_i s x ps
   obtain ⟨F,hF⟩:=pX fun p h=>k5 d p (by omega) (hp p h)
   obtain ⟨e1,e2⟩:=eB s hs
   have hsb:s="let"\/s="each"\/s="times":=by simpa [BF] using hs
   have hxa:q x∈nA:=a1W hx
   have addp:∀ n bd,bd.length+(d+1)<=1000->∀ ks,bC ks->∀ m m',C (n+(d+1)+3) 235 [(m,.tup (.str (q s)::.str (q x)::ps)),(m',.tup (ae bd)),(.d,.dct ks (tr ks))]=.ok ((.d,.non),[(.d,.dct (ag ks (aQ (Gw F (some (wh s)) (q x) bd) 0 ps)) (tr (ag ks (aQ (Gw F (some (wh s)) (q x) bd) 0 ps))))]):=fun n bd hb ks hk m m' =>
    lW (w:=some (wh s)) (x:=q x) hb e1 (by rw [tbB s hs]; rfl) (.inr ⟨_,rfl⟩) (fun m=>gr (n+d+1) s (ahB s hs) (.str (q x)) ps m) hF hk m m'
   have l3:ps.length<=3:=by rw [hl]; exact uf s
   refine ⟨fun bd=>aQ (Gw F (some (wh s)) (q x) bd) 0 ps,fun bd=>?_,fun bd=>cV ps 0 fun j p hp x hx=>(hF p hp).mem _ x hx,fun n bd hb=>?_,addp⟩
   ·have:=c8 (G:=Gw F (some (wh s)) (q x) bd) (B:=3 ^ d) ps 0 fun j p hp=>(hF p hp).len _
    have h2:=a1l (3 ^ d) l3
    show (aQ (Gw F (some (wh s)) (q x) bd) 0 ps).length<=_
    omega
   ·have el:(q "let"==q "let")=true:=by decide +kernel
    have ee:(q "each"==q "let")=false:=by decide +kernel
    have ee2:(q "each"==q "each")=true:=by decide +kernel
    have et:(q "times"==q "let")=false:=by decide +kernel
    have et2:(q "times"==q "each")=false:=by decide +kernel
    have et3:(q "times"==q "times")=true:=by decide +kernel
    have ao:=fun m n=>pb bd (q x) (by omega) m n
    have hps2:∀ (a b:T),ps=[a,b]->wh s=1->(s="let"\/s="each")->∃ md,∀ m m',C (n+(d+1)+3) 236 [(m,.tup (.str (q s)::.str (q x)::ps)),(m',.lst (ae bd))]=.ok ((md,.lst (ae (aQ (Gw F (some (wh s)) (q x) bd) 0 ps))),[]):=fun a b hps hw hse=>by
     subst hps
     obtain ⟨ma,ea⟩:=(hF a (by simp)).law n bd (by omega)
     obtain ⟨mb,eb⟩:=(hF b (by simp)).law n (bd++[q x]) (by rw [a0c,a0s]; omega)
     have la:=(hF a (by simp)).len bd
     have lb:=(hF b (by simp)).len (bd++[q x])
     have eg:aQ (Gw F (some (wh s)) (q x) bd) 0 [a,b]=F a bd++F b (bd++[q x]):=by
      rw [hw]
      show Gw F (some 1) (q x) bd 0 a++(Gw F (some 1) (q x) bd 1 b++[])=_
      unfold Gw
      rw [if_neg (by simp),if_pos rfl,a0I]
     rw [eg]
     have ac:=fun m n=>cJ (F a bd) (F b (bd++[q x])) (by omega) m n
     have a1:atI [T.str (q s),.str (q x),a,b] 1=some (.str (q x)):=rfl
     have a2:atI [T.str (q s),.str (q x),a,b] 2=some a:=rfl
     have a3:atI [T.str (q s),.str (q x),a,b] 3=some b:=rfl
     rw [show n+(d+1)+3=(n+d+3)+1 by omega]
     rcases hse with rfl | rfl
     ·exact ⟨_,fun m m'=>by rw [az,x_run _ _ _ rfl]; simp_all only [ak,e1,e2,fl2,el,a1,a2,a3,ao,ea,eb,ac]; rfl⟩
     ·exact ⟨_,fun m m'=>by rw [az,x_run _ _ _ rfl]; simp_all only [ak,e1,e2,fl2,ee,ee2,a1,a2,a3,ao,ea,eb,ac]; rfl⟩
    rcases hsb with rfl | rfl | rfl
    ·obtain ⟨a,b,hps⟩:=ll2 (show ps.length=2 from hl)
     exact hps2 a b hps rfl (.inl rfl)
    ·obtain ⟨a,b,hps⟩:=ll2 (show ps.length=2 from hl)
     exact hps2 a b hps rfl (.inr rfl)
    ·obtain ⟨a,b,c,hps⟩:=ll3 (show ps.length=3 from hl)
     subst hps
     obtain ⟨ma,ea⟩:=(hF a (by simp)).law n bd (by omega)
     obtain ⟨mb,eb⟩:=(hF b (by simp)).law n bd (by omega)
     obtain ⟨mc,ec⟩:=(hF c (by simp)).law n (bd++[q x]) (by rw [a0c,a0s]; omega)
     have la:=(hF a (by simp)).len bd
     have lb:=(hF b (by simp)).len bd
     have lc:=(hF c (by simp)).len (bd++[q x])
     have eg:aQ (Gw F (some (wh "times")) (q x) bd) 0 [a,b,c]=(F a bd++F b bd)++F c (bd++[q x]):=by
      show Gw F (some 2) (q x) bd 0 a++(Gw F (some 2) (q x) bd 1 b++(Gw F (some 2) (q x) bd 2 c++[]))=_
      unfold Gw
      rw [if_neg (by simp),if_neg (by simp),if_pos rfl,a0I,a02]
     rw [eg]
     have ac:=fun m n=>cJ (F a bd) (F b bd) (by omega) m n
     have ac2:=fun m n=>cJ (F a bd++F b bd) (F c (bd++[q x])) (by rw [a0c]; omega) m n
     have a1:atI [T.str (q "times"),.str (q x),a,b,c] 1=some (.str (q x)):=rfl
     have a2:atI [T.str (q "times"),.str (q x),a,b,c] 2=some a:=rfl
     have a3:atI [T.str (q "times"),.str (q x),a,b,c] 3=some b:=rfl
     have a4:atI [T.str (q "times"),.str (q x),a,b,c] 4=some c:=rfl
     have hz:∃ z:Md,z=(ma.kid.meet mb.kid).up:=⟨_,rfl⟩
     obtain ⟨z,hz⟩:=hz
     have zc:=pF (ma.kid.meet mb.kid)
     rw [<- hz] at zc
     rw [show n+(d+1)+3=(n+d+3)+1 by omega]
     rcases zc with rfl | ⟨k,rfl⟩
     ·exact ⟨_,fun m m'=>by rw [az,x_run _ _ _ rfl]; simp_all only [ak,e1,e2,fl2,et,et2,et3,a1,a2,a3,a4,ao,ea,eb,ec,ac,<- hz,ac2]; rfl⟩
     ·exact ⟨_,fun m m'=>by rw [az,x_run _ _ _ rfl]; simp_all only [ak,e1,e2,fl2,et,et2,et3,a1,a2,a3,a4,ao,ea,eb,ec,ac,<- hz,ac2]; rfl⟩
theorem fY (x:Str):∀ l:List Str,(insS x l).length=l.length+1
 | []=>rfl
 | y::ys=>by
  unfold insS
  split
  ·rw [a0h,fY x ys,a0h]
  ·rfl
theorem dX:∀ l:List Str,(sortS l).length=l.length
 | []=>rfl
 | x::xs=>by
  show (insS x (sortS xs)).length=_
  rw [fY,dX xs,a0h]
theorem iL:∀ l:List Str,strsOf (ae l)=some l
 | []=>rfl
 | x::l=>by
  show (strsOf (ae l)).map (x::·)=_
  rw [iL l]; rfl
theorem jJ:∀ l:List Str,dps (ae l)=0
 | []=>rfl
 | x::l=>by
  show max (dp (.str x)) (dps (ae l))=0
  rw [jJ l]; rfl
theorem hW:∀ l:List Str,eqTs (ae l) (ae l)=true
 | []=>rfl
 | x::l=>by
  show (eqT (.str x) (.str x)&&eqTs (ae l) (ae l))=true
  rw [hW l]
  show ((x==x)&&true)=true
  simp
theorem ph (l:List Str)(m n:Md):oSem .ne false [(m,.lst (ae l)),(n,.lst (ae l))]=some (.d,.bl false):=by
 have hd:dp (.lst (ae l))=1:=by show dps (ae l)+1=1; rw [jJ]
 show (if (decide (dp (.lst (ae l))<=64)&&decide (dp (.lst (ae l))<=64))=true then some ((.d,.bl (!eqT (.lst (ae l)) (.lst (ae l)))):W) else none)=_
 rw [hd]
 show some ((Md.d,T.bl (!eqTs (ae l) (ae l))):W)=_
 rw [hW]; rfl
theorem ju {ks:List Str}(h:bC ks)(m:Md):oSem .sortedS false [(m,.lst (ae ks))]=some (.d,.lst (ae (sortS ks))):=by
 show ((strsOf (ae ks)).bind fun ss=>if decide (ss.length < 64)=true then some ((.d,.lst ((sortS ss).map T.str)):W) else none)=_
 rw [iL]
 show (if decide (ks.length < 64)=true then some ((.d,.lst ((sortS ks).map T.str)):W) else none)=_
 have:=cY h
 rw [if_pos (decide_eq_true (by omega))]
theorem ib:bC []:=⟨a2q,fun _ z=>nomatch z⟩
theorem we {d:Nat}{t:T}{F:List Str->List Str}(h:jy d t F)(hd:d<=100)(n:Nat)(m:Md):C (n+d+4) 234 [(m,t)]=.ok ((.d,.lst (ae (sortS (ag [] (F []))))),[]):=by
 have e:=fun m m'=>h.add n [] (by rw [a0Q]; omega) [] ib m m'
 have hk:bC (ag [] (F [])):=bH ib (h.mem [])
 have hl:=cY hk
 have d64:decide ((ag [] (F [])).length < 64)=true:=decide_eq_true (by omega)
 rw [show ae ([]:List Str)=[] from rfl,show tr ([]:List Str)=[] from rfl] at e
 rw [show n+d+4=(n+d+3)+1 from rfl,dH,x_run _ _ _ rfl]
 simp_all only [aL,e,d64]
noncomputable abbrev DB:List S:=[
    .ite (.q [3,6] []) (.op .notin false [.var 3,.var 6]) [
     .app (.q [3] []) 6 (.var 3)] []]
theorem pU {w0 w1 w2 w4 w5:Option W}:∀ (l due:List Str) (o3:Option W),bC due->(∀ x∈l,x∈nA)->∃ o3',bA [3] (evSs (C 39) DB) ((ae l).map fun t=>[((.s,t):W)]) [w0,w1,w2,o3,w4,w5,some (.o .s,.lst (ae due))]=.nx [w0,w1,w2,o3',w4,w5,some (.o .s,.lst (ae (ag due l)))]
 | [],due,o3,_,_=>⟨o3,rfl⟩
 | x::l,due,o3,hk,hl=>by
  have step:evSs (C 39) DB [w0,w1,w2,some (.s,.str x),w4,w5,some (.o .s,.lst (ae due))]=.nx [w0,w1,w2,some (.s,.str x),w4,w5,some (.o .s,.lst (ae (dy due x)))]:=by
   have ab:=eM x due
   have fb:=lO x due
   have hlen:=cY hk
   unfold dy
   cases hc:due.contains x with
   | true =>
    rw [hc] at ab
    rw [if_pos rfl]
    simp_all only [fb,ab]
   | false =>
    rw [hc] at ab
    rw [if_neg a0j]
    have hlt:(ae due).length < LIM:=by rw [a0b]; show _ < 16777215; omega
    have ha:ae due++[.str x]=ae (due++[x]):=by rw [ae,ae,a1d]; rfl
    simp_all only [fb,ab,if_pos hlt,ha]
  obtain ⟨o3',ih⟩:=pU l (dy due x) (some (.s,.str x)) (iD hk (hl x a0d)) fun y hy=>hl y (a0f _ hy)
  exact ⟨o3',(congrArg (Fl.turn · _) step).trans ih⟩
noncomputable abbrev OB:List S:=[
   .asg (.q [4] []) 5 (.call 234 [.var 4]),
   .asg (.q [] []) 6 (.lst false []),
   .forS [4] [] .seq [.call 236 [.var 4,.lst false []]] [3] DB,
   .ite (.q [5,6] []) (.or (.not (.op (.isI ["list"]) false [.var 5])) (.op .ne false [.var 5,.op .sortedS false [.var 6]])) [
    .ret [] (.cst (.bl false))] [],
   .app (.q [] []) 5 (.cst (.str (q "more"))),
   .ite (.q [4,6] []) (.op .ne false [.call 234 [.var 4],.op .sortedS false [.var 6]]) [
    .ret [] (.cst (.bl false))] []]
theorem vk (w0 w1 w2 o3 o5 o6:Option W)(t:T)(h:WF 9 t):∃ p3 p4 p5 p6,evSs (C 39) OB [w0,w1,w2,o3,some (.s,t),o5,o6]=.nx [w0,w1,w2,p3,p4,p5,p6]:=by
 obtain ⟨F,hF⟩:=k5 9 t (by decide) h
 have hk:bC (ag [] (F [])):=bH ib (hF.mem [])
 have e1:=fun m=>we hF (by decide) 26 m
 obtain ⟨md,e2⟩:=hF.law 27 [] (by decide)
 rw [show 26+9+4=39 from rfl] at e1
 rw [show 27+9+3=39 from rfl,show ae ([]:List Str)=[] from rfl] at e2
 have so:=fun m=>ju hk m
 have ns:=fun m n=>ph (sortS (ag [] (F []))) m n
 have isl:(["list"].any fun c=>isOne c (T.lst (ae (sortS (ag [] (F []))))))=true:=rfl
 have hlt:(ae (sortS (ag [] (F [])))).length < LIM:=by
  have:=cY hk
  rw [a0b,dX]
  show _ < 16777215
  omega
 obtain ⟨o3',lp⟩:=pU (w0:=w0) (w1:=w1) (w2:=w2) (w4:=some (.s,t)) (w5:=some (.d,.lst (ae (sortS (ag [] (F [])))))) (F []) [] o3 ib (hF.mem [])
 rw [show ae ([]:List Str)=[] from rfl] at lp
 exact ⟨_,_,_,_,by simp_all only [e1,e2,lp,isl,so,ns,if_pos hlt]; rfl⟩
theorem t7 {d:Nat}{t:T}(h:WT d t):∃ r,t=.tup r:=by
 cases h<;>exact ⟨_,rfl⟩
noncomputable abbrev trA (s:String)(t:T):T:=.tup [.str (q "let"),.str (q s),.tup [.str (q "name"),.str (q s)],t]
noncomputable abbrev trB (s:String)(t:T):T:=.tup [.str (q "each"),.str (q s),t,.tup [.str (q "name"),.str (q "z")]]
noncomputable abbrev trC (s:String)(t:T):T:=.tup [.str (q "each"),.str (q s),.tup [.str (q "name"),.str (q "addx")],t]
noncomputable abbrev trD (s:String)(t:T):T:=.tup [.str (q "times"),.str (q s),.tup [.str (q "name"),.str (q s)],t,.tup [.str (q "add"),.tup [.str (q "name"),.str (q s)],t]]
theorem n6 {s:String}(hs:s∈NA){t:T}(h:WF 7 t):∀ u∈[trA s t,trB s t,trC s t,trD s t],WF 9 u:=by
 have h8:WF 8 t:=h.up (by decide)
 have n8:WF 8 (.tup [.str (q "name"),.str (q s)]):=.name hs
 have n7:WF 7 (.tup [.str (q "name"),.str (q s)]):=.name hs
 have z8:WF 8 (.tup [.str (q "name"),.str (q "z")]):=.name (by decide)
 have x8:WF 8 (.tup [.str (q "name"),.str (q "addx")]):=.name (by decide)
 have a8:WF 8 (.tup [.str (q "add"),.tup [.str (q "name"),.str (q s)],t]):=.node (s:="add") (ps:=[.tup [.str (q "name"),.str (q s)],t]) (by decide) (by show 2<=3; decide) (by
  intro p hp
  rcases a0k.mp hp with rfl | hp
  ·exact n7
  ·rw [a0x.mp hp]; exact h)
 intro u hu
 simp only [a0k,a0K,or_false] at hu
 rcases hu with rfl | rfl | rfl | rfl
 ·refine .bind (s:="let") (x:=s) (ps:=[.tup [.str (q "name"),.str (q s)],t]) (by decide) hs rfl fun p hp=>?_
  rcases a0k.mp hp with rfl | hp
  ·exact n8
  ·rw [a0x.mp hp]; exact h8
 ·refine .bind (s:="each") (x:=s) (ps:=[t,.tup [.str (q "name"),.str (q "z")]]) (by decide) hs rfl fun p hp=>?_
  rcases a0k.mp hp with rfl | hp
  ·exact h8
  ·rw [a0x.mp hp]; exact z8
 ·refine .bind (s:="each") (x:=s) (ps:=[.tup [.str (q "name"),.str (q "addx")],t]) (by decide) hs rfl fun p hp=>?_
  rcases a0k.mp hp with rfl | hp
  ·exact x8
  ·rw [a0x.mp hp]; exact h8
 ·refine .bind (s:="times") (x:=s) (ps:=[.tup [.str (q "name"),.str (q s)],t,.tup [.str (q "add"),.tup [.str (q "name"),.str (q s)],t]]) (by decide) hs rfl fun p hp=>?_
  rcases a0k.mp hp with rfl | hp
  ·exact n8
  ·rcases a0k.mp hp with rfl | hp
   ·exact h8
   ·rw [a0x.mp hp]; exact a8
noncomputable abbrev PB:List S:=[
   .app (.q [1,3] []) 2 (.tup [.cst (.str (q "let")),.var 3,.tup [.cst (.str (q "name")),.var 3],.var 1]),
   .app (.q [1,3] []) 2 (.tup [.cst (.str (q "each")),.var 3,.var 1,.tup [.cst (.str (q "name")),.cst (.str (q "z"))]]),
   .app (.q [1,3] []) 2 (.tup [.cst (.str (q "each")),.var 3,.tup [.cst (.str (q "name")),.cst (.str (q "addx"))],.var 1]),
   .app (.q [1,3] []) 2 (.tup [.cst (.str (q "times")),.var 3,.tup [.cst (.str (q "name")),.var 3],.var 1,.tup [.cst (.str (q "add")),.tup [.cst (.str (q "name")),.var 3],.var 1]])]
theorem vo (w0 w4 w5 w6:Option W)(r:List T)(s:String)(l:List T)(hl:l.length<=1000)(m1:Md):∃ m1' o3',evSs (C 39) PB [w0,some (m1,.tup r),some (.o .s,.lst l),some (.s,.str (q s)),w4,w5,w6]=.nx [w0,some (m1',.tup r),some (.o .s,.lst (l++[trA s (.tup r),trB s (.tup r),trC s (.tup r),trD s (.tup r)])),o3',w4,w5,w6]:=by
 have h0:l.length < LIM:=by show _ < 16777215; omega
 have h1:(l++[trA s (.tup r)]).length < LIM:=by rw [a0c]; show _ < 16777215; simp; omega
 have h2:(l++[trA s (.tup r)]++[trB s (.tup r)]).length < LIM:=by rw [a0c,a0c]; show _ < 16777215; simp; omega
 have h3:(l++[trA s (.tup r)]++[trB s (.tup r)]++[trC s (.tup r)]).length < LIM:=by rw [a0c,a0c,a0c]; show _ < 16777215; simp; omega
 have ea:l++[trA s (.tup r)]++[trB s (.tup r)]++[trC s (.tup r)]++[trD s (.tup r)]=l++[trA s (.tup r),trB s (.tup r),trC s (.tup r),trD s (.tup r)]:=by simp
 exact ⟨_,_,by simp_all only [if_pos h0,if_pos h1,if_pos h2,if_pos h3,ea]; rfl⟩
theorem lp2 (w0 w4 w5 w6:Option W)(r:List T)(h:WF 7 (.tup r))(m1:Md):∃ L m1' o3',(∀ u∈L,WF 9 u)/\bA [3] (evSs (C 39) PB) [[((.s,.str (q "x")):W)],[(.s,.str (q "addx"))],[(.s,.str (q "b"))],[(.s,.str (q "rowe"))]] [w0,some (m1,.tup r),some (.o .s,.lst [.tup r]),none,w4,w5,w6]=.nx [w0,some (m1',.tup r),some (.o .s,.lst L),o3',w4,w5,w6]:=by
 obtain ⟨η',lp,m1',L,o3',_,hL,rfl⟩:=b0 (tg:=[3]) (f:=evSs (C 39) PB) (g:=fun (s:String)=>[((.s,.str (q s)):W)])
  (fun pre η=>∃ (m1':Md) (L:List T) (o3':Option W),L.length<=1+4 * pre.length/\(∀ u∈L,WF 9 u)/\η=[w0,some (m1',.tup r),some (.o .s,.lst L),o3',w4,w5,w6])
  ["x","addx","b","rowe"] [] [w0,some (m1,.tup r),some (.o .s,.lst [.tup r]),none,w4,w5,w6] ⟨m1,[.tup r],none,by show 1<=1; decide,fun u hu=>by rw [a0x.mp hu]; exact h.up (by decide),rfl⟩ (fun p s r' η hp ⟨m1',L,o3',hl,hL,he⟩=>by
   subst he
   have hpl:=congrArg a2k hp
   simp only [a0Z,a0c,a0h,a0Q] at hpl
   have hs:s∈NA:=by
    have:s∈["x","addx","b","rowe"]:=by rw [show ["x","addx","b","rowe"]=p++s::r' from hp]; exact a0r _ a0d
    simp only [a0k,a0K,or_false] at this
    rcases this with rfl | rfl | rfl | rfl<;>decide
   obtain ⟨m2,o2,e⟩:=vo w0 w4 w5 w6 r s L (by omega) m1'
   refine ⟨_,_,rfl,e,m2,_,o2,?_,?_,rfl⟩
   ·rw [a0c,a0c]
    show L.length+4<=1+4 * (p.length+1)
    omega
   ·intro u hu
    rcases a0X.mp hu with hu | hu
    ·exact hL u hu
    ·exact n6 hs h u hu)
 exact ⟨L,m1',o3',hL,lp⟩
theorem lp3 (w0 w1 w2 o3:Option W)(L:List T)(hL:∀ u∈L,WF 9 u):∃ η',bA [4] (evSs (C 39) OB) (L.map fun t=>[((.s,t):W)]) [w0,w1,w2,o3,none,none,none]=.nx η':=by
 obtain ⟨η',lp,_⟩:=b0 (tg:=[4]) (f:=evSs (C 39) OB) (g:=fun (t:T)=>[((.s,t):W)])
  (fun _ η=>∃ (o3 o4 o5 o6:Option W),η=[w0,w1,w2,o3,o4,o5,o6]) L [] [w0,w1,w2,o3,none,none,none] ⟨o3,none,none,none,rfl⟩ (fun p t r' η hp ⟨o3,o4,o5,o6,he⟩=>by
   subst he
   have ht:t∈L:=by rw [a0Z] at hp; rw [hp]; exact a0r _ a0d
   obtain ⟨p3,p4,p5,p6,e⟩:=vk w0 w1 w2 o3 o5 o6 t (hL t ht)
   exact ⟨_,_,rfl,e,p3,p4,p5,p6,rfl⟩)
 exact ⟨η',lp⟩
theorem pure_law (ns:List Int):∃ m bs,C 40 0 [(.d,.scr ns)]=.ok ((m,.bl true),bs):=by
 obtain ⟨md,t,ns',e1,wt⟩:=iw 6 25 (cut ns none (some 40))
 rw [show 25+6+8=39 from rfl,show ((6:Nat):Int)=6 from rfl] at e1
 obtain ⟨r,rfl⟩:=t7 wt
 have hA:∃ m0 m1,evSs (C 39) (Bk f_law 0 2) [some (.d,.scr ns),none,none,none,none,none,none]=.nx [some (m0,.scr ns),some (m1,.tup r),some (.o .s,.lst [.tup r]),none,none,none,none]:=by
  cases md with
  | s=>exact ⟨_,_,by simp_all only [Bk,f_law,a0H,a0F,a0V,e1]; rfl⟩
  | d=>exact ⟨_,_,by simp_all only [Bk,f_law,a0H,a0F,a0V,e1]; rfl⟩
  | o y=>exact ⟨_,_,by simp_all only [Bk,f_law,a0H,a0F,a0V,e1]; rfl⟩
 obtain ⟨m0,m1,hA⟩:=hA
 obtain ⟨L,m1',o3',hL,p2⟩:=lp2 (some (m0,.scr ns)) none none none r wt.wf m1
 obtain ⟨η',p3⟩:=lp3 (some (m0,.scr ns)) (some (m1',.tup r)) (some (.s,.lst L)) o3' L hL
 have hB:evSs (C 39) (f_law.body.drop 2) [some (m0,.scr ns),some (m1,.tup r),some (.o .s,.lst [.tup r]),none,none,none,none]=.rt (.d,.bl true) η':=by
  simp_all only [f_law,a0O,a0H,p2,p3]
 rw [show C 40 0 [(.d,.scr ns)]=runF (C 39) f_law [(.d,.scr ns)] from rfl,x_run _ _ _ rfl,show f_law.body=Bk f_law 0 2++f_law.body.drop 2 from rfl]
 refine ⟨.d,[],?_⟩
 show Fl.out [] (evSs (C 39) (Bk f_law 0 2++f_law.body.drop 2) [some (.d,.scr ns),none,none,none,none,none,none])=_
 rw [go1 hA,hB]
 rfl
end
end P10

namespace A10
open PySem PySem.Spec PyProof.Rows L2 L3 MR
noncomputable def top (i:Nat):Stmt:=PySem.Challenge.pw_broadrow_k10_free_names.main.body.getD i (.Pass ⟨0,0,0,0⟩)
noncomputable abbrev kY:Stmt:=top 3
noncomputable abbrev kG:Stmt:=top 4
noncomputable abbrev mf:Stmt:=top 5
noncomputable abbrev kC:Stmt:=top 6
noncomputable abbrev jO:Stmt:=top 7
noncomputable abbrev lI:Stmt:=top 9
noncomputable abbrev k9:Stmt:=top 10
noncomputable abbrev jK:Stmt:=top 11
noncomputable abbrev kn:Stmt:=top 12
noncomputable abbrev s0:Stmt:=top 13
structure Glb (K:a0a)(w:World)(mg:Str->Option Value):Prop where
 k_AHEAD:tJ K w mg "AHEAD" keys_AHEAD
 c_BINDING:qM K w mg "BINDING" tab_BINDING
structure Calls (P:Program)(w:World)(K:a0a)(mg:Str->Option Value)(base:Heap)(n:Nat)(C:M.Call):Prop where
 c175:ah P w K mg base n C "parts_start" 175 []
 c176:ah P w K mg base n C "parts" 176 []
 c233:ah P w K mg base n C "binding" 233 []
 c234:ah P w K mg base n C "free_names" 234 []
 c235:ah P w K mg base n C "add_free" 235 [2]
 c171:ah P w K mg base n C "_law_kind" 171 []
 c220:ah P w K mg base n C "_law_leaf" 220 []
 c229:ah P w K mg base n C "_law_tree" 229 [0]
 c236:ah P w K mg base n C "_law_free" 236 []
noncomputable abbrev DD (x:Str)(st:Stmt)(N:List Str)(fn:M.Fn):Prop:=∀ {P:Program} {w:World} {K:a0a} {mg:Str->Option Value} {base:Heap} {n:Nat} {C:M.Call} {f:Addr} {cdv:Value} {A:Around} {outer:List Env} {s:Shared} {H:Hp} {E:XK},Calls P w K mg base n C->Txt mg->Glb K w mg->Room n (A.deeper (envOfC x (defScope st) s.heap.objs.size f cdv))->SSs (eE CX0 P w K mg base N x (defScope st) f cdv A outer s H E).nox (slN N.length) fn.io C (defBody st) fn.body
theorem wx:ay ["sign"] ["sign"] (defScope kY):=fsc
theorem xn:DD "parts_start" kY ["sign"] aB:=fun {_ _ _ _ _ _ _ _ _ _ _ s _ _} cs T G hr =>
 have S:=wx
 (@ss1 _ _ _ _ _ _ (@bx _ _ _ _ _ _ _ _ (sIf (xF G.k_AHEAD (sM 0)) sI sI)))
theorem wW:ay ["tree"] ["tree"] (defScope kG):=fsc
theorem yh:DD "parts" kG ["tree"] bK:=fun {_ _ _ _ _ _ _ _ _ _ _ s _ _} cs T G hr =>
 have S:=wW
 (@ss1 _ _ _ _ _ _ (@bx _ _ _ _ _ _ _ _ (xf (sV 0) (aH cs.c175 hr (@aE _ _ _ _ _ _ _ (@aM _ _ _ _ _ _ _ _ _ (sV 0) sI (by intro _ _; rfl)) sa0 (by intro _ z; cases z) (by rfl))))))
theorem wB:ay ["tree"] ["tree"] (defScope mf):=fsc
theorem xy:DD "binding" mf ["tree"] bh:=fun {_ _ _ _ _ _ _ _ _ _ _ s _ _} cs T G hr =>
 have S:=wB
 (@ss1 _ _ _ _ _ _ (@bx _ _ _ _ _ _ _ _ (u6 G.c_BINDING (@aM _ _ _ _ _ _ _ _ _ (sM 0) sI (by intro _ _; rfl)))))
theorem vR:ay ["tree","found"] ["tree"] (defScope kC):=fsc
theorem xB:DD "free_names" kC ["tree","found"] aL:=fun {_ _ _ _ _ _ _ _ _ _ _ s _ _} cs T G hr =>
 have S:=vR
 (@ssc _ _ _ _ _ _ _ _ (@bf _ _ _ _ _ _ _ 1 _ _ _ _ S.nd wF (by decide) (by rfl) (by rfl) (by first | exact a0C rfl | exact a0w rfl) (by rfl) (by first | exact .inl rfl | exact .inr rfl))
    (@ssc _ _ _ _ _ _ _ _ (uR (aH cs.c235 hr (@aE _ _ _ _ _ _ _ (sV 0) (@aE _ _ _ _ _ _ _ (@sTx _ _ _ _ _ _ _ (by decide) sl0) (sai 1 sa0) (by intro _ z; cases z) (by rfl)) (by intro _ z; cases z) (by rfl))))
    (@ss1 _ _ _ _ _ _ (@bx _ _ _ _ _ _ _ _ (jH (hm:=T.sorted) (ha:=(sM 1)))))))
theorem wy:ay ["tree","bound","found","where","number","part"] ["tree","bound","found"] (defScope jO):=fsc
theorem ym:DD "add_free" jO ["tree","bound","found","where","number","part"] aF:=fun {_ _ _ _ _ _ _ _ _ _ _ s _ _} cs T G hr =>
 have S:=wy
 (@ssc _ _ _ _ _ _ _ _ (@zIf _ _ _ _ _ _ _ _ _ _ _ _ (tW (yi (dE hr (@aM _ _ _ _ _ _ _ _ _ (sV 0) sI (by intro _ _; rfl)) sS) (wA1 (ef (@aM _ _ _ _ _ _ _ _ _ (sV 0) sI (by intro _ _; rfl)) (sV 1))))) (@ss1 _ _ _ _ _ _ (wo 2 hr sO (@aM _ _ _ _ _ _ _ _ _ (sV 0) sI (by intro _ _; rfl)))) ss0)
    (@ssc _ _ _ _ _ _ _ _ (@bf _ _ _ _ _ _ _ 3 _ _ _ _ S.nd (aH cs.c233 hr (@aE _ _ _ _ _ _ _ (sV 0) sa0 (by intro _ z; cases z) (by rfl))) (by decide) (by rfl) (by rfl) (by first | exact a0C rfl | exact a0w rfl) (by rfl) (by first | exact .inl rfl | exact .inr rfl))
    (@ss1 _ _ _ _ _ _ (wH 4 5 S.nd (tG (hm:=T.enum) (ha:=(aH cs.c176 hr (@aE _ _ _ _ _ _ _ (sV 0) sa0 (by intro _ z; cases z) (by rfl))))) (@ss1 _ _ _ _ _ _ (uR (aH cs.c235 hr (@aE _ _ _ _ _ _ _ (sV 5) (@aE _ _ _ _ _ _ _ (sIf (dE hr (sV 4) (sV 3)) (vX (sV 1) (@sTx _ _ _ _ _ _ _ (by decide) (@slx _ _ _ _ _ _ _ (@aM _ _ _ _ _ _ _ _ _ (sV 0) sI (by intro _ _; rfl)) sl0 (by rfl)))) (sV 1)) (sai 2 sa0) (by intro _ z; cases z) (by rfl)) (by intro _ z; cases z) (by rfl)))))))))
theorem uV:ay ["cell","left","way"] ["cell","left"] (defScope lI):=fsc
theorem x9:DD "_law_kind" lI ["cell","left","way"] ax:=fun {_ _ _ _ _ _ _ _ _ _ _ s _ _} cs T G hr =>
 have S:=uV
 (@ssc _ _ _ _ _ _ _ _ (@bf _ _ _ _ _ _ _ 2 _ _ _ _ S.nd (d9 (sV 0) sI) (by decide) (by rfl) (by rfl) (by first | exact a0C rfl | exact a0w rfl) (by rfl) (by first | exact .inl rfl | exact .inr rfl))
    (@ssc _ _ _ _ _ _ _ _ (@zIf _ _ _ _ _ _ _ _ _ _ _ _ (tW (wOr (dE hr (sV 1) sI) (wO1 (xr (sV 2) sI)))) (@ss1 _ _ _ _ _ _ (@bx _ _ _ _ _ _ _ _ (@aM _ _ _ _ _ _ _ _ _ (@sLx _ _ _ _ _ _ _ (by decide) (@slx _ _ _ _ _ _ _ (@sTx _ _ _ _ _ _ _ (by decide) (@slx _ _ _ _ _ _ _ sS sl0 (by rfl))) (@slx _ _ _ _ _ _ _ (@sTx _ _ _ _ _ _ _ (by decide) (@slx _ _ _ _ _ _ _ sS sl0 (by rfl))) sl0 (by rfl)) (by rfl))) (d9 (sM 0) sI) (by intro _ _; rfl)))) ss0)
    (@ssc _ _ _ _ _ _ _ _ (@zIf _ _ _ _ _ _ _ _ _ _ _ _ (dE hr (sV 2) sI) (@ss1 _ _ _ _ _ _ (@bx _ _ _ _ _ _ _ _ (@sTx _ _ _ _ _ _ _ (by decide) (@slx _ _ _ _ _ _ _ sS (@slx _ _ _ _ _ _ _ (aH cs.c171 hr (@aE _ _ _ _ _ _ _ (eF (sV 0) sI) (@aE _ _ _ _ _ _ _ (nQ (sV 1) sI) sa0 (by intro _ z; cases z) (by rfl)) (by intro _ z; cases z) (by rfl))) (@slx _ _ _ _ _ _ _ (aH cs.c171 hr (@aE _ _ _ _ _ _ _ (eF (sV 0) sI) (@aE _ _ _ _ _ _ _ (nQ (sV 1) sI) sa0 (by intro _ z; cases z) (by rfl)) (by intro _ z; cases z) (by rfl))) sl0 (by rfl)) (by rfl)) (by rfl))))) ss0)
    (@ss1 _ _ _ _ _ _ (@bx _ _ _ _ _ _ _ _ (@sTx _ _ _ _ _ _ _ (by decide) (@slx _ _ _ _ _ _ _ sS (@slx _ _ _ _ _ _ _ (aH cs.c171 hr (@aE _ _ _ _ _ _ _ (eF (sM 0) sI) (@aE _ _ _ _ _ _ _ (nQ (sM 1) sI) sa0 (by intro _ z; cases z) (by rfl)) (by intro _ z; cases z) (by rfl))) sl0 (by rfl)) (by rfl))))))))
theorem uZ:ay ["cell","name","number","some"] ["cell"] (defScope k9):=fsc
theorem x5:DD "_law_leaf" k9 ["cell","name","number","some"] aV:=fun {_ _ _ _ _ _ _ _ _ _ _ s _ _} cs T G hr =>
 have S:=uZ
 (@ssc _ _ _ _ _ _ _ _ (@bf _ _ _ _ _ _ _ 1 _ _ _ _ S.nd (@aM _ _ _ _ _ _ _ _ _ (@sLx _ _ _ _ _ _ _ (by decide) (@slx _ _ _ _ _ _ _ sS (@slx _ _ _ _ _ _ _ sS (@slx _ _ _ _ _ _ _ sS (@slx _ _ _ _ _ _ _ sS (@slx _ _ _ _ _ _ _ sS (@slx _ _ _ _ _ _ _ sS (@slx _ _ _ _ _ _ _ sS (@slx _ _ _ _ _ _ _ sS (@slx _ _ _ _ _ _ _ sS (@slx _ _ _ _ _ _ _ sS sl0 (by rfl)) (by rfl)) (by rfl)) (by rfl)) (by rfl)) (by rfl)) (by rfl)) (by rfl)) (by rfl)) (by rfl))) (d9 (eF (sV 0) sI) sI) (by intro _ _; rfl)) (by decide) (by rfl) (by rfl) (by first | exact a0C rfl | exact a0w rfl) (by rfl) (by first | exact .inl rfl | exact .inr rfl))
    (@ssc _ _ _ _ _ _ _ _ (@bf _ _ _ _ _ _ _ 2 _ _ _ _ S.nd (@aM _ _ _ _ _ _ _ _ _ (@sLx _ _ _ _ _ _ _ (by decide) (@slx _ _ _ _ _ _ _ sI (@slx _ _ _ _ _ _ _ sI (@slx _ _ _ _ _ _ _ (uv sI sI) (@slx _ _ _ _ _ _ _ sI (@slx _ _ _ _ _ _ _ (d9 (sV 0) (dD (uv sI sI) sI)) sl0 (by rfl)) (by rfl)) (by rfl)) (by rfl)) (by rfl))) (d9 (eF (sV 0) sI) sI) (by intro _ _; rfl)) (by decide) (by rfl) (by rfl) (by first | exact a0C rfl | exact a0w rfl) (by rfl) (by first | exact .inl rfl | exact .inr rfl))
    (@ssc _ _ _ _ _ _ _ _ (@bf _ _ _ _ _ _ _ 3 _ _ _ _ S.nd (@sLx _ _ _ _ _ _ _ (by decide) (@slx _ _ _ _ _ _ _ (@sTx _ _ _ _ _ _ _ (by decide) (@slx _ _ _ _ _ _ _ sS (@slx _ _ _ _ _ _ _ (sV 2) sl0 (by rfl)) (by rfl))) (@slx _ _ _ _ _ _ _ (@sTx _ _ _ _ _ _ _ (by decide) (@slx _ _ _ _ _ _ _ sS sl0 (by rfl))) (@slx _ _ _ _ _ _ _ (@sTx _ _ _ _ _ _ _ (by decide) (@slx _ _ _ _ _ _ _ sS sl0 (by rfl))) (@slx _ _ _ _ _ _ _ (@sTx _ _ _ _ _ _ _ (by decide) (@slx _ _ _ _ _ _ _ sS (@slx _ _ _ _ _ _ _ (sV 1) sl0 (by rfl)) (by rfl))) (@slx _ _ _ _ _ _ _ (@sTx _ _ _ _ _ _ _ (by decide) (@slx _ _ _ _ _ _ _ sS (@slx _ _ _ _ _ _ _ (aH cs.c171 hr (@aE _ _ _ _ _ _ _ (eF (sV 0) sI) (@aE _ _ _ _ _ _ _ sI sa0 (by intro _ z; cases z) (by rfl)) (by intro _ z; cases z) (by rfl))) sl0 (by rfl)) (by rfl))) sl0 (by rfl)) (by rfl)) (by rfl)) (by rfl)) (by rfl))) (by decide) (by rfl) (by rfl) (by first | exact a0C rfl | exact a0w rfl) (by rfl) (by first | exact .inl rfl | exact .inr rfl))
    (@ss1 _ _ _ _ _ _ (@bx _ _ _ _ _ _ _ _ (@aM _ _ _ _ _ _ _ _ _ (sM 3) (d9 (sM 0) sI) (by intro _ _; rfl)))))))
theorem u4:ay ["cells","left","cell","some","at","many","made","k"] ["cells","left"] (defScope jK):=fsc
theorem xV:DD "_law_tree" jK ["cells","left","cell","some","at","many","made","k"] f_law_tree:=fun {_ _ _ _ _ _ _ _ _ _ _ s _ _} cs T G hr =>
 have S:=u4
 (@ssc _ _ _ _ _ _ _ _ (@bf _ _ _ _ _ _ _ 2 _ _ _ _ S.nd (sIf (yb (uX 0 T.len) sI) (vJ 0) sI) (by decide) (by rfl) (by rfl) (by first | exact a0C rfl | exact a0w rfl) (by rfl) (by first | exact .inl rfl | exact .inr rfl))
    (@ssc _ _ _ _ _ _ _ _ (@zIf _ _ _ _ _ _ _ _ _ _ _ _ (tW (wOr (dE hr (sV 1) sI) (wO1 (dE hr (d9 (sV 2) sI) sI)))) (@ss1 _ _ _ _ _ _ (@bx _ _ _ _ _ _ _ _ (aH cs.c220 hr (@aE _ _ _ _ _ _ _ (eF (sM 2) sI) sa0 (by intro _ z; cases z) (by rfl))))) ss0)
    (@ssc _ _ _ _ _ _ _ _ (@bf _ _ _ _ _ _ _ 3 _ _ _ _ S.nd (@sLx _ _ _ _ _ _ _ (by decide) (@slx _ _ _ _ _ _ _ sS (@slx _ _ _ _ _ _ _ sS (@slx _ _ _ _ _ _ _ sS (@slx _ _ _ _ _ _ _ sS (@slx _ _ _ _ _ _ _ sS (@slx _ _ _ _ _ _ _ sS (@slx _ _ _ _ _ _ _ sS (@slx _ _ _ _ _ _ _ sS (@slx _ _ _ _ _ _ _ sS (@slx _ _ _ _ _ _ _ sS (@slx _ _ _ _ _ _ _ sS (@slx _ _ _ _ _ _ _ sS (@slx _ _ _ _ _ _ _ sS (@slx _ _ _ _ _ _ _ sS sl0 (by rfl)) (by rfl)) (by rfl)) (by rfl)) (by rfl)) (by rfl)) (by rfl)) (by rfl)) (by rfl)) (by rfl)) (by rfl)) (by rfl)) (by rfl)) (by rfl))) (by decide) (by rfl) (by rfl) (by first | exact a0C rfl | exact a0w rfl) (by rfl) (by first | exact .inl rfl | exact .inr rfl))
    (@ssc _ _ _ _ _ _ _ _ (@bf _ _ _ _ _ _ _ 3 _ _ _ _ S.nd (dD (sV 3) (@sLx _ _ _ _ _ _ _ (by decide) (@slx _ _ _ _ _ _ _ sS (@slx _ _ _ _ _ _ _ sS (@slx _ _ _ _ _ _ _ sS (@slx _ _ _ _ _ _ _ sS (@slx _ _ _ _ _ _ _ sS (@slx _ _ _ _ _ _ _ sS (@slx _ _ _ _ _ _ _ sS (@slx _ _ _ _ _ _ _ sS (@slx _ _ _ _ _ _ _ sS (@slx _ _ _ _ _ _ _ sS (@slx _ _ _ _ _ _ _ sS (@slx _ _ _ _ _ _ _ sS (@slx _ _ _ _ _ _ _ sS sl0 (by rfl)) (by rfl)) (by rfl)) (by rfl)) (by rfl)) (by rfl)) (by rfl)) (by rfl)) (by rfl)) (by rfl)) (by rfl)) (by rfl)) (by rfl)))) (by decide) (by rfl) (by rfl) (by first | exact a0C rfl | exact a0w rfl) (by rfl) (by first | exact .inl rfl | exact .inr rfl))
    (@ssc _ _ _ _ _ _ _ _ (@bf _ _ _ _ _ _ _ 4 _ _ _ _ S.nd (d9 (eF (sV 2) sI) sI) (by decide) (by rfl) (by rfl) (by first | exact a0C rfl | exact a0w rfl) (by rfl) (by first | exact .inl rfl | exact .inr rfl))
    (@ssc _ _ _ _ _ _ _ _ (@bf _ _ _ _ _ _ _ 5 _ _ _ _ S.nd (dD (dD sI (uy (hm:=T.int) (ha:=(sGt (sV 4) sI)))) (uy (hm:=T.int) (ha:=(uD (@aM _ _ _ _ _ _ _ _ _ (sV 3) (sV 4) (by intro _ _; rfl)) (@sTx _ _ _ _ _ _ _ (by decide) (@slx _ _ _ _ _ _ _ sS (@slx _ _ _ _ _ _ _ sS sl0 (by rfl)) (by rfl))))))) (by decide) (by rfl) (by rfl) (by first | exact a0C rfl | exact a0w rfl) (by rfl) (by first | exact .inl rfl | exact .inr rfl))
    (@ssc _ _ _ _ _ _ _ _ (@bf _ _ _ _ _ _ _ 6 _ _ _ _ S.nd (@sTx _ _ _ _ _ _ _ (by decide) (@slx _ _ _ _ _ _ _ (@aM _ _ _ _ _ _ _ _ _ (sV 3) (sV 4) (by intro _ _; rfl)) sl0 (by rfl))) (by decide) (by rfl) (by rfl) (by first | exact a0C rfl | exact a0w rfl) (by rfl) (by first | exact .inl rfl | exact .inr rfl))
    (@ssc _ _ _ _ _ _ _ _ (@zIf _ _ _ _ _ _ _ _ _ _ _ _ (lK (@aM _ _ _ _ _ _ _ _ _ (sV 3) (sV 4) (by intro _ _; rfl)) (@sTx _ _ _ _ _ _ _ (by decide) (@slx _ _ _ _ _ _ _ sS (@slx _ _ _ _ _ _ _ sS (@slx _ _ _ _ _ _ _ sS sl0 (by rfl)) (by rfl)) (by rfl)))) (@ss1 _ _ _ _ _ _ (@bf _ _ _ _ _ _ _ 6 _ _ _ _ S.nd (dD (sV 6) (@sTx _ _ _ _ _ _ _ (by decide) (@slx _ _ _ _ _ _ _ (@aM _ _ _ _ _ _ _ _ _ (@sLx _ _ _ _ _ _ _ (by decide) (@slx _ _ _ _ _ _ _ sS (@slx _ _ _ _ _ _ _ sS (@slx _ _ _ _ _ _ _ sS (@slx _ _ _ _ _ _ _ sS (@slx _ _ _ _ _ _ _ sS sl0 (by rfl)) (by rfl)) (by rfl)) (by rfl)) (by rfl))) (d9 (eF (sV 2) sI) sI) (by intro _ _; rfl)) sl0 (by rfl)))) (by decide) (by rfl) (by rfl) (by first | exact a0C rfl | exact a0w rfl) (by rfl) (by first | exact .inl rfl | exact .inr rfl))) ss0)
    (@ssc _ _ _ _ _ _ _ _ (fQ 7 S.nd (xX (hm:=T.range) (ha:=(sV 5))) (@ss1 _ _ _ _ _ _ (@bf _ _ _ _ _ _ _ 6 _ _ _ _ S.nd (dD (sV 6) (@sTx _ _ _ _ _ _ _ (by decide) (@slx _ _ _ _ _ _ _ (aH cs.c229 hr (sai 0 (@aE _ _ _ _ _ _ _ (nQ (sV 1) sI) sa0 (by intro _ z; cases z) (by rfl)))) sl0 (by rfl)))) (by decide) (by rfl) (by rfl) (by first | exact a0C rfl | exact a0w rfl) (by rfl) (by first | exact .inl rfl | exact .inr rfl))))
    (@ss1 _ _ _ _ _ _ (@bx _ _ _ _ _ _ _ _ (sM 6))))))))))))
theorem vh:ay ["tree","outer","found","part"] ["tree","outer"] (defScope kn):=fsc
theorem xR:DD "_law_free" kn ["tree","outer","found","part"] ak:=fun {_ _ _ _ _ _ _ _ _ _ _ s _ _} cs T G hr =>
 have S:=vh
 (@ssc _ _ _ _ _ _ _ _ (@zIf _ _ _ _ _ _ _ _ _ _ _ _ (dE hr (@aM _ _ _ _ _ _ _ _ _ (sV 0) sI (by intro _ _; rfl)) sS) (@ss1 _ _ _ _ _ _ (@bx _ _ _ _ _ _ _ _ (sIf (ef (@aM _ _ _ _ _ _ _ _ _ (sV 0) sI (by intro _ _; rfl)) (sM 1)) (@sLx _ _ _ _ _ _ _ (by decide) (@slx _ _ _ _ _ _ _ (@aM _ _ _ _ _ _ _ _ _ (sV 0) sI (by intro _ _; rfl)) sl0 (by rfl))) (@sLx _ _ _ _ _ _ _ (by decide) sl0)))) ss0)
    (@ssc _ _ _ _ _ _ _ _ (@zIf _ _ _ _ _ _ _ _ _ _ _ _ (lK (@aM _ _ _ _ _ _ _ _ _ (sV 0) sI (by intro _ _; rfl)) (@sTx _ _ _ _ _ _ _ (by decide) (@slx _ _ _ _ _ _ _ sS (@slx _ _ _ _ _ _ _ sS sl0 (by rfl)) (by rfl)))) (@ss1 _ _ _ _ _ _ (@bx _ _ _ _ _ _ _ _ (@sLx _ _ _ _ _ _ _ (by decide) sl0))) ss0)
    (@ssc _ _ _ _ _ _ _ _ (@zIf _ _ _ _ _ _ _ _ _ _ _ _ (tW (wOr (dE hr (@aM _ _ _ _ _ _ _ _ _ (sV 0) sI (by intro _ _; rfl)) sS) (wO1 (dE hr (@aM _ _ _ _ _ _ _ _ _ (sV 0) sI (by intro _ _; rfl)) sS)))) (@ss1 _ _ _ _ _ _ (@bx _ _ _ _ _ _ _ _ (dD (aH cs.c236 hr (@aE _ _ _ _ _ _ _ (@aM _ _ _ _ _ _ _ _ _ (sV 0) sI (by intro _ _; rfl)) (@aE _ _ _ _ _ _ _ (sV 1) sa0 (by intro _ z; cases z) (by rfl)) (by intro _ z; cases z) (by rfl))) (aH cs.c236 hr (@aE _ _ _ _ _ _ _ (@aM _ _ _ _ _ _ _ _ _ (sV 0) sI (by intro _ _; rfl)) (@aE _ _ _ _ _ _ _ (dD (sV 1) (@sLx _ _ _ _ _ _ _ (by decide) (@slx _ _ _ _ _ _ _ (@aM _ _ _ _ _ _ _ _ _ (sV 0) sI (by intro _ _; rfl)) sl0 (by rfl)))) sa0 (by intro _ z; cases z) (by rfl)) (by intro _ z; cases z) (by rfl)))))) ss0)
    (@ssc _ _ _ _ _ _ _ _ (@zIf _ _ _ _ _ _ _ _ _ _ _ _ (dE hr (@aM _ _ _ _ _ _ _ _ _ (sV 0) sI (by intro _ _; rfl)) sS) (@ssc _ _ _ _ _ _ _ _ (@bf _ _ _ _ _ _ _ 2 _ _ _ _ S.nd (dD (aH cs.c236 hr (@aE _ _ _ _ _ _ _ (@aM _ _ _ _ _ _ _ _ _ (sV 0) sI (by intro _ _; rfl)) (@aE _ _ _ _ _ _ _ (sV 1) sa0 (by intro _ z; cases z) (by rfl)) (by intro _ z; cases z) (by rfl))) (aH cs.c236 hr (@aE _ _ _ _ _ _ _ (@aM _ _ _ _ _ _ _ _ _ (sV 0) sI (by intro _ _; rfl)) (@aE _ _ _ _ _ _ _ (sV 1) sa0 (by intro _ z; cases z) (by rfl)) (by intro _ z; cases z) (by rfl)))) (by decide) (by rfl) (by rfl) (by first | exact a0C rfl | exact a0w rfl) (by rfl) (by first | exact .inl rfl | exact .inr rfl))
     (@ss1 _ _ _ _ _ _ (@bx _ _ _ _ _ _ _ _ (dD (sM 2) (aH cs.c236 hr (@aE _ _ _ _ _ _ _ (@aM _ _ _ _ _ _ _ _ _ (sV 0) sI (by intro _ _; rfl)) (@aE _ _ _ _ _ _ _ (dD (sM 1) (@sLx _ _ _ _ _ _ _ (by decide) (@slx _ _ _ _ _ _ _ (@aM _ _ _ _ _ _ _ _ _ (sV 0) sI (by intro _ _; rfl)) sl0 (by rfl)))) sa0 (by intro _ z; cases z) (by rfl)) (by intro _ z; cases z) (by rfl))))))) ss0)
    (@ssc _ _ _ _ _ _ _ _ (@bf _ _ _ _ _ _ _ 2 _ _ _ _ S.nd (@sLx _ _ _ _ _ _ _ (by decide) sl0) (by decide) (by rfl) (by rfl) (by first | exact a0C rfl | exact a0w rfl) (by rfl) (by first | exact .inl rfl | exact .inr rfl))
    (@ssc _ _ _ _ _ _ _ _ (fQ 3 S.nd (mF (xf (sV 0) sI)) (@ss1 _ _ _ _ _ _ (yd 2 (aH cs.c236 hr (@aE _ _ _ _ _ _ _ (sV 3) (@aE _ _ _ _ _ _ _ (sV 1) sa0 (by intro _ z; cases z) (by rfl)) (by intro _ z; cases z) (by rfl))))))
    (@ss1 _ _ _ _ _ _ (@bx _ _ _ _ _ _ _ _ (sM 2)))))))))
theorem S0:ay ["script","tree","some","name","one","told","due"] ["script"] (defScope s0):=fsc
theorem D0:DD "law" s0 ["script","tree","some","name","one","told","due"] f_law:=fun {_ _ _ _ _ _ _ _ _ _ _ s _ _} cs T G hr =>
 have S:=S0
 (@ssc _ _ _ _ _ _ _ _ (@bf _ _ _ _ _ _ _ 1 _ _ _ _ S.nd (aH cs.c229 hr (@aE _ _ _ _ _ _ _ (wM (hm:=T.list) (ha:=(xP (sV 0) sI))) (@aE _ _ _ _ _ _ _ sI sa0 (by intro _ z; cases z) (by rfl)) (by intro _ z; cases z) (by rfl))) (by decide) (by rfl) (by rfl) (by first | exact a0C rfl | exact a0w rfl) (by rfl) (by first | exact .inl rfl | exact .inr rfl))
    (@ssc _ _ _ _ _ _ _ _ (@bf _ _ _ _ _ _ _ 2 _ _ _ _ S.nd (@sLx _ _ _ _ _ _ _ (by decide) (@slx _ _ _ _ _ _ _ (sV 1) sl0 (by rfl))) (by decide) (by rfl) (by rfl) (by first | exact a0C rfl | exact a0w rfl) (by rfl) (by first | exact .inl rfl | exact .inr rfl))
    (@ssc _ _ _ _ _ _ _ _ (fQ 3 S.nd (mF (@sTx _ _ _ _ _ _ _ (by decide) (@slx _ _ _ _ _ _ _ sS (@slx _ _ _ _ _ _ _ sS (@slx _ _ _ _ _ _ _ sS (@slx _ _ _ _ _ _ _ sS sl0 (by rfl)) (by rfl)) (by rfl)) (by rfl)))) (@ssc _ _ _ _ _ _ _ _ (je 2 (@sTx _ _ _ _ _ _ _ (by decide) (@slx _ _ _ _ _ _ _ sS (@slx _ _ _ _ _ _ _ (sV 3) (@slx _ _ _ _ _ _ _ (@sTx _ _ _ _ _ _ _ (by decide) (@slx _ _ _ _ _ _ _ sS (@slx _ _ _ _ _ _ _ (sV 3) sl0 (by rfl)) (by rfl))) (@slx _ _ _ _ _ _ _ (sV 1) sl0 (by rfl)) (by rfl)) (by rfl)) (by rfl))))
     (@ssc _ _ _ _ _ _ _ _ (je 2 (@sTx _ _ _ _ _ _ _ (by decide) (@slx _ _ _ _ _ _ _ sS (@slx _ _ _ _ _ _ _ (sV 3) (@slx _ _ _ _ _ _ _ (sV 1) (@slx _ _ _ _ _ _ _ (@sTx _ _ _ _ _ _ _ (by decide) (@slx _ _ _ _ _ _ _ sS (@slx _ _ _ _ _ _ _ sS sl0 (by rfl)) (by rfl))) sl0 (by rfl)) (by rfl)) (by rfl)) (by rfl))))
     (@ssc _ _ _ _ _ _ _ _ (je 2 (@sTx _ _ _ _ _ _ _ (by decide) (@slx _ _ _ _ _ _ _ sS (@slx _ _ _ _ _ _ _ (sV 3) (@slx _ _ _ _ _ _ _ (@sTx _ _ _ _ _ _ _ (by decide) (@slx _ _ _ _ _ _ _ sS (@slx _ _ _ _ _ _ _ sS sl0 (by rfl)) (by rfl))) (@slx _ _ _ _ _ _ _ (sV 1) sl0 (by rfl)) (by rfl)) (by rfl)) (by rfl))))
     (@ss1 _ _ _ _ _ _ (je 2 (@sTx _ _ _ _ _ _ _ (by decide) (@slx _ _ _ _ _ _ _ sS (@slx _ _ _ _ _ _ _ (sV 3) (@slx _ _ _ _ _ _ _ (@sTx _ _ _ _ _ _ _ (by decide) (@slx _ _ _ _ _ _ _ sS (@slx _ _ _ _ _ _ _ (sV 3) sl0 (by rfl)) (by rfl))) (@slx _ _ _ _ _ _ _ (sV 1) (@slx _ _ _ _ _ _ _ (@sTx _ _ _ _ _ _ _ (by decide) (@slx _ _ _ _ _ _ _ sS (@slx _ _ _ _ _ _ _ (@sTx _ _ _ _ _ _ _ (by decide) (@slx _ _ _ _ _ _ _ sS (@slx _ _ _ _ _ _ _ (sV 3) sl0 (by rfl)) (by rfl))) (@slx _ _ _ _ _ _ _ (sV 1) sl0 (by rfl)) (by rfl)) (by rfl))) sl0 (by rfl)) (by rfl)) (by rfl)) (by rfl)) (by rfl)))))))))
    (@ssc _ _ _ _ _ _ _ _ (fQ 4 S.nd (mF (sV 2)) (@ssc _ _ _ _ _ _ _ _ (@bf _ _ _ _ _ _ _ 5 _ _ _ _ S.nd (aH cs.c234 hr (@aE _ _ _ _ _ _ _ (sV 4) sa0 (by intro _ z; cases z) (by rfl))) (by decide) (by rfl) (by rfl) (by first | exact a0C rfl | exact a0w rfl) (by rfl) (by first | exact .inl rfl | exact .inr rfl))
     (@ssc _ _ _ _ _ _ _ _ (@bf _ _ _ _ _ _ _ 6 _ _ _ _ S.nd (@sLx _ _ _ _ _ _ _ (by decide) sl0) (by decide) (by rfl) (by rfl) (by first | exact a0C rfl | exact a0w rfl) (by rfl) (by first | exact .inl rfl | exact .inr rfl))
     (@ssc _ _ _ _ _ _ _ _ (fQ 3 S.nd (mF (aH cs.c236 hr (@aE _ _ _ _ _ _ _ (sV 4) (@aE _ _ _ _ _ _ _ (@sLx _ _ _ _ _ _ _ (by decide) sl0) sa0 (by intro _ z; cases z) (by rfl)) (by intro _ z; cases z) (by rfl)))) (@ss1 _ _ _ _ _ _ (@zIf _ _ _ _ _ _ _ _ _ _ _ _ (ef (sV 3) (sV 6)) (@ss1 _ _ _ _ _ _ (je 6 (sV 3))) ss0)))
     (@ssc _ _ _ _ _ _ _ _ (@zIf _ _ _ _ _ _ _ _ _ _ _ _ (tW (wOr (uA (tB (vY (by decide) a1D T.isin T.list (sV 5)))) (wO1 (wg hr (sV 5) (fD (hm:=T.sorted) (ha:=(sV 6))))))) (@ss1 _ _ _ _ _ _ (@bx _ _ _ _ _ _ _ _ sO)) ss0)
     (@ssc _ _ _ _ _ _ _ _ (je 5 sS)
     (@ss1 _ _ _ _ _ _ (@zIf _ _ _ _ _ _ _ _ _ _ _ _ (wg hr (aH cs.c234 hr (@aE _ _ _ _ _ _ _ (sV 4) sa0 (by intro _ z; cases z) (by rfl))) (fD (hm:=T.sorted) (ha:=(sV 6)))) (@ss1 _ _ _ _ _ _ (@bx _ _ _ _ _ _ _ _ sO)) ss0))))))))
    (@ss1 _ _ _ _ _ _ (@bx _ _ _ _ _ _ _ _ sO))))))
end A10

namespace A10
open PySem PySem.Spec PyProof.Rows L2 L3 MR
noncomputable abbrev Cl (n:Nat):M.Call:=M.callR prog 1000000 1000001 n
section
variable {P:Program}{w:World}{K:a0a}{mg:Str->Option Value}{base:Heap}
theorem all (d175:Df K mg "parts_start" kY ["sign"])(d176:Df K mg "parts" kG ["tree"])(d233:Df K mg "binding" mf ["tree"])(d234:Df K mg "free_names" kC ["tree"])(d235:Df K mg "add_free" jO ["tree","bound","found"])(d171:Df K mg "_law_kind" lI ["cell","left"])(d220:Df K mg "_law_leaf" k9 ["cell"])(d229:Df K mg "_law_tree" jK ["cells","left"])(d236:Df K mg "_law_free" kn ["tree","outer"])  (T:Txt mg)(G:Glb K w mg):∀ n,Calls P w K mg base n (Cl n)
 | 0 =>
  have c175:ah P w K mg base 0 (Cl 0) "parts_start" 175 []:=d175.z
  have c176:ah P w K mg base 0 (Cl 0) "parts" 176 []:=d176.z
  have c233:ah P w K mg base 0 (Cl 0) "binding" 233 []:=d233.z
  have c234:ah P w K mg base 0 (Cl 0) "free_names" 234 []:=d234.z
  have c235:ah P w K mg base 0 (Cl 0) "add_free" 235 [2]:=d235.z
  have c171:ah P w K mg base 0 (Cl 0) "_law_kind" 171 []:=d171.z
  have c220:ah P w K mg base 0 (Cl 0) "_law_leaf" 220 []:=d220.z
  have c229:ah P w K mg base 0 (Cl 0) "_law_tree" 229 [0]:=d229.z
  have c236:ah P w K mg base 0 (Cl 0) "_law_free" 236 []:=d236.z
  ⟨c175,c176,c233,c234,c235,c171,c220,c229,c236⟩
 | n+1 =>
  have c:=all d175 d176 d233 d234 d235 d171 d220 d229 d236  T G n
  have c175:ah P w K mg base (n+1) (Cl (n+1)) "parts_start" 175 []:=d175.s aB wx (C:=Cl n) (by intro f cdv A outer s H E h; exact @xn P w K mg base n (Cl n) f cdv A outer s H E c T G h)
  have c176:ah P w K mg base (n+1) (Cl (n+1)) "parts" 176 []:=d176.s bK wW (C:=Cl n) (by intro f cdv A outer s H E h; exact @yh P w K mg base n (Cl n) f cdv A outer s H E c T G h)
  have c233:ah P w K mg base (n+1) (Cl (n+1)) "binding" 233 []:=d233.s bh wB (C:=Cl n) (by intro f cdv A outer s H E h; exact @xy P w K mg base n (Cl n) f cdv A outer s H E c T G h)
  have c234:ah P w K mg base (n+1) (Cl (n+1)) "free_names" 234 []:=d234.s aL vR (C:=Cl n) (by intro f cdv A outer s H E h; exact @xB P w K mg base n (Cl n) f cdv A outer s H E c T G h)
  have c235:ah P w K mg base (n+1) (Cl (n+1)) "add_free" 235 [2]:=d235.s aF wy (C:=Cl n) (by intro f cdv A outer s H E h; exact @ym P w K mg base n (Cl n) f cdv A outer s H E c T G h)
  have c171:ah P w K mg base (n+1) (Cl (n+1)) "_law_kind" 171 []:=d171.s ax uV (C:=Cl n) (by intro f cdv A outer s H E h; exact @x9 P w K mg base n (Cl n) f cdv A outer s H E c T G h)
  have c220:ah P w K mg base (n+1) (Cl (n+1)) "_law_leaf" 220 []:=d220.s aV uZ (C:=Cl n) (by intro f cdv A outer s H E h; exact @x5 P w K mg base n (Cl n) f cdv A outer s H E c T G h)
  have c229:ah P w K mg base (n+1) (Cl (n+1)) "_law_tree" 229 [0]:=d229.s f_law_tree u4 (C:=Cl n) (by intro f cdv A outer s H E h; exact @xV P w K mg base n (Cl n) f cdv A outer s H E c T G h)
  have c236:ah P w K mg base (n+1) (Cl (n+1)) "_law_free" 236 []:=d236.s ak vh (C:=Cl n) (by intro f cdv A outer s H E h; exact @xR P w K mg base n (Cl n) f cdv A outer s H E c T G h)
  ⟨c175,c176,c233,c234,c235,c171,c220,c229,c236⟩
end
theorem pure_law:∀ ns:List Int,ns.length<=63->∃ m bs,Cl 40 0 [(.d,.scr ns)]=.ok ((m,.bl true),bs):=fun ns _=>P10.pure_law ns
theorem all_mk {l:a1K}{w:World}{K:a0a}{h:Heap}{mg:Str->Option Value}{fa:Addr}(X:K.In h)(G:h.Ns mainGlobals mg)(hfa:mg "law"=some (.ref fa))(r175:Raw K "parts_start" kY .none)(r176:Raw K "parts" kG .none)(r233:Raw K "binding" mf .none)(r234:Raw K "free_names" kC .none)(r235:Raw K "add_free" jO .none)(r171:Raw K "_law_kind" lI .none)(r220:Raw K "_law_leaf" k9 .none)(r229:Raw K "_law_tree" jK .none)(r236:Raw K "_law_free" kn .none)(r0:Raw K "law" s0 .none)  (q_AHEAD:∃ T,TabRaw K w "AHEAD" T/\T.map a2v=keys_AHEAD)(q_BINDING:∃ T,TabRaw K w "BINDING" T/\CstL K tab_BINDING T)(tx:sR K ["isinstance","int","tuple","list","bool","sum","len","all","zip","range","enumerate","any","max","min","sorted","str","repr","abs","dict","set","reversed"]) :
  ∃ fd:FuncData,(∀ (s:Shared) (v:Value),BindsTo s fd ⟨[v],[]⟩ [("script",v)])/\∀ base:Heap,K.In base->base.Ns mainGlobals mg->b6 l.prog w K mg base CX0 40 fa fd ["script"] (spS K (Cl 40) 0 []):=by
 have d175:Df K mg "parts_start" kY ["sign"]:=bX X G r175 fun _ _ _ _ _ _ us hl=>match us,hl with | [_],_=>rfl
 have d176:Df K mg "parts" kG ["tree"]:=bX X G r176 fun _ _ _ _ _ _ us hl=>match us,hl with | [_],_=>rfl
 have d233:Df K mg "binding" mf ["tree"]:=bX X G r233 fun _ _ _ _ _ _ us hl=>match us,hl with | [_],_=>rfl
 have d234:Df K mg "free_names" kC ["tree"]:=bX X G r234 fun _ _ _ _ _ _ us hl=>match us,hl with | [_],_=>rfl
 have d235:Df K mg "add_free" jO ["tree","bound","found"]:=bX X G r235 fun _ _ _ _ _ _ us hl=>match us,hl with | [_,_,_],_=>rfl
 have d171:Df K mg "_law_kind" lI ["cell","left"]:=bX X G r171 fun _ _ _ _ _ _ us hl=>match us,hl with | [_,_],_=>rfl
 have d220:Df K mg "_law_leaf" k9 ["cell"]:=bX X G r220 fun _ _ _ _ _ _ us hl=>match us,hl with | [_],_=>rfl
 have d229:Df K mg "_law_tree" jK ["cells","left"]:=bX X G r229 fun _ _ _ _ _ _ us hl=>match us,hl with | [_,_],_=>rfl
 have d236:Df K mg "_law_free" kn ["tree","outer"]:=bX X G r236 fun _ _ _ _ _ _ us hl=>match us,hl with | [_,_],_=>rfl
 have T:=tj X G tx
 obtain ⟨_,q_AHEAD,qk_AHEAD⟩:=q_AHEAD
 obtain ⟨_,q_BINDING,qc_BINDING⟩:=q_BINDING
 have Gm:Glb K w mg:=⟨(oR X G q_AHEAD qk_AHEAD),(mZ X G q_BINDING qc_BINDING)⟩
 exact pk X G hfa r0 (fun _ _ _ _ _ _ _ _=>.of_eq rfl) fun f fd F base=>Fun.okM F S0 rfl (by decide) (by decide) (by decide) (fun _ _ _ _ _ _ h=>D0 (all d175 d176 d233 d234 d235 d171 d220 d229 d236  T Gm 39) T Gm h) fun _=>rfl
end A10

set_option maxHeartbeats 0
namespace H10
open PySem PySem.W TP
noncomputable abbrev pr:Program:=PySem.Challenge.pw_broadrow_k10_free_names
noncomputable def tn (i:Nat):Stmt:=pr.main.body.getD i (.Pass p0)
noncomputable def rc:List Rc:=[.m,
.x "AHEAD" 207 (.ref 15) (fun P=>[di [en P "num" 189 (.str "number" 190),en P "name" 191 (.str "name" 192),en P "none" 193 (.str "kind" 194),en P "let" 195 (.str "name" 196),en P "each" 197 (.str "name" 198),en P "times" 199 (.str "name" 200)] 6]) [] 16 208,
.x "BINDING" 217 (.ref 16) (fun P=>[di [en P "let" 208 (.int (1) 209),en P "each" 210 (.int (1) 211),en P "times" 212 (.int (2) 213)] 3]) [] 17 218,
.d,
.d,
.d,
.d,
.d,
.m,
.d,
.d,
.d,
.d,
.d]
theorem c0 (w:World):Cut pr rc 0 15 187 p0 1 10 15 189 ⟨1,0,1,8⟩ w:=fun o=>by kernel_rfl
theorem c1 (w:World):Cut pr rc 1 15 189 ⟨1,0,1,8⟩ 1 101 16 208 ⟨2,0,2,5⟩ w:=byRow2 (P:=Cut pr rc 1 15 189 ⟨1,0,1,8⟩ 1 101 16 208 ⟨2,0,2,5⟩) "special-get-raises" (fun w o=>by kernel_rfl) (fun w o=>by kernel_rfl) w
theorem c2 (w:World):Cut pr rc 2 16 208 ⟨2,0,2,5⟩ 1 56 17 218 ⟨3,0,3,7⟩ w:=byRow2 (P:=Cut pr rc 2 16 208 ⟨2,0,2,5⟩ 1 56 17 218 ⟨3,0,3,7⟩) "special-get-raises" (fun w o=>by kernel_rfl) (fun w o=>by kernel_rfl) w
theorem c3 (w:World):Cut pr rc 3 17 218 ⟨3,0,3,7⟩ 11 327 87 317 ⟨61,0,80,15⟩ w:=fun o=>by kernel_rfl
theorem ch:Ch pr rc 14 87 317 0 15 187 p0 (10+(101+(56+(327+(2))))):=cG c0 ( cG c1 ( cG c2 ( cG c3 (sj (by kernel_rfl)))))
noncomputable def q:Program:=view pr [13]
noncomputable def lo:List Str:=(["AHEAD","BINDING","parts_start","parts","binding","free_names","add_free","_law_kind","_law_leaf","_law_tree","_law_free"]:List String).map Str.ofString
noncomputable def as:List Addr:=[3,15,16,22,23,29,30,36,37,43,44,50,51,57,58,64,65,71,72,78,79,85,86]
noncomputable def K:Params->Frag:=kK pr rc 14 as
noncomputable def hk:Hook:=hkk pr rc 14 87
noncomputable abbrev Xt (s:Shared):Bool:=xlAt q [] s&&recOk (RowW.records (OpenRow.toRowW (OpenLaw.row PySem.Challenge.rw_broadrow_k10_free_names))) s
theorem kin (w:World)(h:Heap)(Y:hk.says w h):(K w.params).In h:=xM (by kernel_rfl) (by kernel_rfl) Y
theorem lk (w:World):(fun o=>((staticsOk (importedModules pr.main.body) (boot_heap w.params) (hp pr rc 14 87 w.params)&&namesBound pr (hp pr rc 14 87 w.params)&&gensDone ⟨hp pr rc 14 87 w.params,#[],{},317,o⟩&&laidKept (boot_heap w.params) (hp pr rc 14 87 w.params)),openSeen q lo (importedModules pr.main.body) Xt true ⟨hp pr rc 14 87 w.params,#[],{},317,o⟩,Hook.obs hk ⟨hp pr rc 14 87 w.params,#[],{},317,o⟩))=fun _=>(true,openGood q lo,Hook.val hk w):=by kernel_rfl
theorem e1:opening pr=plainProg pr.main.scope.names:=by kernel_rfl
theorem e2:behindTheImports pr=pr.main.body:=by kernel_rfl
theorem e3 (s:Shared):fenceModules? pr s=some s:=by kernel_rfl
theorem pre (w:World)(o:OsState):topGo treeTable pr w 11 an 12 ⟨boot_heap w.params,a2w [],boot_drawn,boot_toks,o⟩ (topStub pr)=some ((sT pr rc w.params 0 15 187 o).abs,⟨denote treeTable (cE pr),cE pr,p0,B0⟩):=by kernel_rfl
theorem blk (w:World)(o:OsState):segRun treeTable pr w 11 an 1 1 (sT pr rc w.params 0 15 187 o).abs (blockOf (behindTheImports pr) (ev pr) (cE pr) p0 B0)=some (.next,(sT pr rc w.params 0 15 187 o).abs,cE pr,p0):=by kernel_rfl
theorem left:LeftO pr q lo Xt (Hook.obs hk) (Hook.val hk) 1106:=nu e1 (by kernel_rfl) e3 e2 mr pre blk ch (by kernel_rfl) lk
end H10

set_option maxHeartbeats 4000000
open PySem PySem.W PyProof.Rows
set_option maxRecDepth 100000 in
set_option maxHeartbeats 0 in
theorem PySem.Challenge.cw_broadrow_k10_free_names_holds : PySem.Challenge.rw_broadrow_k10_free_names.Holds := by
 w_on; o_law
 refine holds_open (q:=H10.q) (loose:=H10.lo) (Xt:=H10.Xt) (XP:=XL H10.q []) (Yf:=Hook.obs H10.hk) (Ya:=Hook.val H10.hk) (YP:=Hook.says H10.hk) (N:=1106) (d:=TP.drec (H10.tn 13)) (kwd:=[]) H10.left (Hook.of H10.hk) (Hook.keeps H10.hk) (fun s e=>xl_of s (a0n.mp e).1) XL.keeps (by kernel_rfl) (by kernel_rfl) (by kernel_rfl) (fun s e=>recFacts_of (a0n.mp e).2) (by rfl) (by first | assumption | decide +kernel) (by decide +kernel) ⟨rfl,rfl,rfl,rfl,rfl,by decide +kernel⟩ ?hw ?hc
 case hw=>w_witness2
 refine MR.walkX (sx:="script") (l:=PySem.Challenge.rw_broadrow_k10_free_names) (k:=40) (C:=A10.Cl 40) (ix:=0) (K:=H10.K) A10.pure_law rfl (by kernel_rfl) ⟨rfl,by decide,by decide⟩ H10.kin ?F
 case F =>
  intro w mg fa h KX G hmg
  refine' A10.all_mk KX G hmg ?zr175 ?zr176 ?zr233 ?zr234 ?zr235 ?zr171 ?zr220 ?zr229 ?zr236 ?zr0  ?zq_AHEAD ?zq_BINDING ?ztx
  case zq_AHEAD=>exact ⟨_,TP.tab_mk (by kernel_rfl) (by kernel_rfl) (by kernel_rfl) (by kernel_rfl),by kernel_rfl⟩
  case zq_BINDING=>exact ⟨_,TP.tab_mk (by kernel_rfl) (by kernel_rfl) (by kernel_rfl) (by kernel_rfl),TP.cst_of (n:=9) (by kernel_rfl)⟩
  case ztx=>refine' ⟨?_,?_,?_,?_,?_,?_,?_,?_,?_,?_,?_,?_,?_,?_,?_,?_,?_,?_,?_,?_,?_,trivial⟩<;>kernel_rfl
  all_goals exact TP.raw_mk (by kernel_rfl) (by kernel_rfl) (by kernel_rfl) (by kernel_rfl)
